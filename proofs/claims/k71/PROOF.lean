import PyProof.Rows.All
import Wide.All
import OpenK.AllK
import PySem.Challenge.RW_forerun_k71_handed_in_or_refused
set_option Elab.async false
set_option linter.all false
local macro_rules|`(#where)=>do
 let f:=λ(s:String)(l:List Nat)=>l.map λi=>Lean.Name.str `hdT s!"{s}_{i}"
 return Lean.mkNullNode (←(f "heap" [39,46,1149]++f "tree" [47,91,106,121,143,158,173,188,203,218,233,274,356,357,416,486,509,596,597,699,778,830,888,911,969,985,1078,1134,1148]++f "view" [39]++f "o" (List.range' 43 1106)++f "sts" [49,92,107,122,144,159,174,189,204,219,234,275,357,359,417,487,510,597,599,700,779,831,889,912,970,986,1079,1135]++f "env" [41]++[`PySem.Challenge.pw_forerun_k71_handed_in_or_refused,`PySem.Challenge.rw_forerun_k71_handed_in_or_refused]).toArray.mapM λn=>do return (←`(command|def $(Lean.mkIdent (.str `PySem.W.Fast s!"tw{n.hash}")):ident :=Nat)).raw)
#where
section
open PySem PySem.W PyProof.Rows
set_option maxRecDepth 100000
set_option maxHeartbeats 0
open_top hdT for PySem.Challenge.rw_forerun_k71_handed_in_or_refused
end
open And renaming intro->tF
open Array renaming getElem?_eq_getElem->cG,getElem?_toList->cQ,length_toList->dC,getElem?_eq_some_iff->eh,getElem?_eq_none->eW,getD_eq_getD_getElem?->gO,getElem?_setIfInBounds_ne->lU,size_eq_one_iff->mC,mem_iff_getElem->pN,toList_extract->pX,find?_toList->rJ,ext'->tK
open Bool renaming and_eq_true->bS,false_ne_true->bT,not_eq_true'->cr,false_eq_true->cu,eq_false_iff->dZ,or_eq_false_iff->iB,and_false->iF,eq_iff_iff->mR,or_false->oz,or_eq_true->pI,false_and->pZ
open Char renaming toNat->tL
open Classical renaming byContradiction->iK,not_not->sA
open False renaming elim->cx
open ForInStep renaming yield->gb
open Int renaming toNat_natCast->cA,emod_nonneg->fL,emod_lt_of_pos->fV,toNat_of_nonneg->iV,reduceNeg->lH,reduceToNat->m6,eq_ofNat_of_zero_le->oF,reducePow->oH,lt_or_le->pH,negSucc->tu
open Int.ofNat renaming inj->tQ
open List renaming getElem?_cons_zero->bd,length_map->bi,getElem?_eq_getElem->bj,length_append->bn,getElem?_cons_succ->bq,append_nil->bu,replicate->bD,getElem?_eq_some_iff->bE,mem_cons_of_mem->bF,mem_cons->bJ,mem_cons_self->bK,size_toArray->bM,map_cons->bN,mem_append_right->bP,length->bQ,length_cons->bR,getElem?_map->bW,set_cons_zero->bX,mem_singleton->bY,set_cons_succ->bZ,cons_append->cf,mem_append->cj,getElem?_eq_none->ck,map_append->cm,nil_append->cp,mem_of_getElem?->cw,map->cE,nodup_cons->cF,append_assoc->cN,mem_append_left->cR,length_take->c7,eq_nil_of_length_eq_zero->c8,lookup_cons->c9,mem_map_of_mem->de,getElem?_append_right->dv,mem_map->dz,not_mem_nil->dE,range->dH,getElem?_append_left->dI,reverse_cons->dL,take_of_length_le->dM,ext_getElem?->dY,filter_cons->eC,mem_filterMap->fk,length_drop->fw,all_eq_true->fA,Nodup->fJ,mem_of_mem_take->f8,take_add_one->gg,sum_cons->gn,nodup_nil->gB,drop_zero->gC,getElem?_set_self->gE,dropLast_concat_getLast->gH,length_replicate->gK,length_singleton->gL,find?_cons->gM,length_range->iy,getElem?_set_ne->iz,mem_of_mem_drop->iC,mem_range->iD,drop_eq_getElem_cons->iJ,filterMap_cons->iO,lookup->iQ,map_congr_left->iR,all_cons->lq,any_cons->lu,eraseIdx_cons_succ->lA,length_nil->lB,foldl_cons->lC,drop_eq_nil_of_le->lM,eraseIdxIfInBounds_toArray->lT,map_nil->mn,append_inj_left'->mD,singleton_append->mE,take_length->mG,mem_filter->mQ,of_mem_zip->mT,length_reverse->m7,length_eraseIdx_of_lt->nu,getD_eq_getElem?_getD->nv,map_map->nE,mem_of_find?_eq_some->nG,extract_eq_take_drop->nM,idxOf_lt_length_iff->n0,nodup_append->n9,getElem?_replicate->oj,map_take->oJ,length_eq_zero_iff->oK,getElem_mem->oQ,length_eq_one_iff->o8,not_of_lt_findIdx->pb,length_filter_le->pA,take_append_drop->pJ,getElem?_toArray->pQ,perm_append_comm->pS,take_succ_cons->ro,filter_eq_self->rE,getElem_idxOf->rT,contains_cons->rV,map_drop->rY,foldl_append->sB,all_map->sJ,getElem_inj->sL,any_eq_true->sN,nodup_range->sO,mem_reverse->sP,perm_middle->sR,forIn_cons->sZ,find?_some->tz,range_succ->tD,sum_append->tE
open List.Pairwise renaming nil->sg
open List.Perm renaming refl->gD,trans->lJ,swap->tG
open List.cons renaming injEq->bx,inj->fT
open Nat renaming le_refl->br,reduceAdd->bL,reduceSub->bO,zero_le->bU,ne_of_lt->bV,le_trans->cg,lt_of_lt_of_le->cq,lt_of_le_of_lt->dy,ne_of_gt->dP,le_succ->eM,lt_or_ge->fe,lt_irrefl->fP,zero_add->fU,lt_succ_of_lt->gc,le_add_right->gz,lt_succ_self->iL,add_right_comm->lF,min_eq_left->mX,succ_le_succ->oN,le_of_lt->pj,le_of_eq->pq,lt_trans->pB,le_antisymm->pE,toDigits->pF,strongRecOn->pG,eq_zero_or_pos->rW,mod_lt->sk,add_comm->sK,not_lt->tM
open Nat.succ renaming inj->tU
open Ne renaming symm->cK
open Option renaming map_eq_some_iff->cY,isSome_iff_exists->iZ,map_map->nH,isSome_map->nS,map_some->pz,getD_none->sM,toList->tP
open Option.some renaming injEq->bh,inj->cb
open Or renaming inl->gw,inr->tT
open Prod renaming snd->rX
open PyProof.Rows renaming callWith_type1->dQ,entry_proto_collect'->mI,reads_newData->oy,entry_list_iadd'->oO,subscriptTail_builtinR->oW
open PyProof.Rows.IntsAre renaming length->tH
open PySem renaming wpAny_bind->ba,wpAny_pure->bf,wpAny_callSpecial?_slot->cC,wpAny_call_entry->cH,wpAny_setField_rec->cI,wpAny_newObj_type->cL,wpAny_mono->cU,wpAny_holding->dh,sizeLine_eq->dq,codeAny_builtin->dA,wpAny_field->dD,wpAny_execs_nil->dF,codeAny_mono->eu,wpAny_Call_Name_kw->eA,wpAny_attempt->eE,wpAny_loadPart_at->eY,plainId_quiet->eZ,wpAny_typeNameOfWhole_itemiter->fh,wpAny_execs_cons->fu,wpAny_typeNameOfWhole_keyiter->fB,codeAny_call_builtin->fD,wpAny_setField->fG,wpAny_truthy_bool->fH,mem_of_lookup->fK,wpAny_call->fN,call_meets->fO,tupleKind_room_in1->fR,wpAny_fieldsOf->fY,wpAny_typeNameOf_itemiter->fZ,wpAny_passesOwn->f9,wpAny_dictEntries->gh,wpAny_typeNameOf_keyiter->gj,wpAny_setEntries_of->gq,wpAny_dictEpoch->gQ,wpAny_updateSeq->gS,wpAny_ite_split->gU,codeAny_handlers_test->gW,wpAny_pyIter_list->ii,typeIs_str->iq,wpAny_standAt->ir,wpAny_setState_of->iw,wpAny_isInstance->iM,wpAny_Try_except->iN,wpAny_handleBy_cons->iW,wpAny_isOneOf_itemiter->lN,codeAny_handlers_suite->lP,plainObj_wpAny_Assign_Attribute->lR,wpAny_of_eq->lV,wpAny_pyIter_slot->lW,wpAny_pyIter_enum->lZ,slot_list_setitem->l8,wpAny_runValue->md,wpAny_notOrdered_dict->mr,wpAny_typeOf->my,builtinLookup_eq_fast->mz,wpAny_handled->mM,wpAny_isSubtype_exc->mZ,wpAny_newFunctionEnv_cells->nh,wpAny_letOwnedTupleGo_enum->nq,isSubtype_stop->nI,wpAny_seqItems->nK,wpAny_Assign_Name->nP,wpAny_load->nQ,wpAny_Call_method->nU,call->nV,wpAny_comprehension_free->nW,wpAny_Call_method0_late->on,wpAny_throw->oA,wpAny_listSubscript_int->oE,wpAny_askSetting->oP,wpAny_pyNext_list_item->oR,wpAny_pyNext_range_end->oS,wpAny_pyIter_rangeiter->oU,wpAny_Assign_Subscript->oY,wpAny_pyNext_list_end->pk,codeAny_call_function->pw,call_meetsIn->pC,wpAny_isOneOf_keyiter->pK,typeLookup_type->pL,codeAny_of_tree->pO,wpAny_rule->pT,wpAny_loadName_local->pU,wpAny_pyIter_revIter->pV,wpAny_pyIter_keyiter->pW,wpAny_Expr_any->pY,wpAny_loadPart->p7,intText_digits->p8,wpAny_newTuple->p9,isSubtype_type->rc,evalArgs_none->rg,wpAny_letGo->rq,Within->sE,seqIndex_neg->sH
open PySem.Around renaming under_plainId->cS,under->sF
open PySem.Builtin.Dict renaming showsAll->gP,updateFrom->oB
open PySem.Builtin.Dict_items renaming ownsTuple->eI,ownedTupleFields->iT,ownedTupleIsFree->iU,pairFromOwner->lK
open PySem.Builtin.Int renaming intBits->mU
open PySem.Builtin.List renaming listExtendWith->da,listSameRef->gk,listTooLong->i4,listItems->lO,listSubscript?->mY,listLengthHint->m5
open PySem.Builtin.Range renaming rangeSize->lf,small->rA
open PySem.Builtin.SmallTypes renaming nextOf->f6,ownedTupleHandOut->iI,ownedTupleIsFree->iX
open PySem.Builtin.Str renaming occurrences->dX,strSub->eP,lastOccurrence->eT,subAt->gf,tooLong->iS,strSliceIndices->mW,strKind->rC,glued->sy
open PySem.Calls renaming spliced_cons->eK,callWith_builtin->eV,evalArgs_plain->f7,spliced_nil->ik,Name_function_global->m8,Constant_str->rH
open PySem.Code renaming quiet_builtin->lD,isFrame->sG
open PySem.Data renaming fields->sV
open PySem.EntryCells renaming newEntry->rj
open PySem.F renaming plainAttrs_list->bz,slot_list_append->b7,type_list_append->b9,plainAttrs_str->cZ,plain_extend_loop->dJ,slot_list_pop->dU,type_list_pop->dW,excBase_ValueError->eo,plain_list_iadd->eO,slot_str_split->eQ,slot_str_ascii_iterator_next->fi,slot_dict_itemiterator_next->fC,slot_dict_keyiterator_next->fF,plainAttrs_dict->gm,type_str_split->gG,slot_dict_pop->gN,plain_proto_collect->gR,slot_enumerate_next->gX,slot_str_join->gY,type_str_join->gZ,excAttr_ValueError->iA,slot_list_extend->i8,type_list_extend->i9,args_str_ascii_iterator_next_1->lL,args_dict_itemiterator_next_1->lY,entry_str_ascii_iterator_next->l9,slot_dict_get->mo,args_dict_keyiterator_next_1->mx,entry_dict_itemiterator_next->mB,entry_dict_keyiterator_next->mF,args_str_split_2->nF,entry_extend_loop->nJ,args_tuple_add_2->nR,entry_str_split->nZ,entry_tuple_add->om,args_dict_pop_3->oo,args_dict_get_3->oq,slot_dict_items->oC,args_enumerate_next_1->oG,slot_tuple_add->oV,entry_dict_pop->oX,entry_dict_get->oZ,slot_dict_items_iter->o9,entry_enumerate_next->pd,type_dict_pop->pD,plain_set_new->pP,slot_set_iter->pR
open PySem.Heap renaming get?_push_of_some->bc,get?_push_size->bp,lt_size->bG,get?_update_other->cO,SameBut->cV,get?_update_self->cW,size_push->gA,get?_none_of_le->mH,get?_push_cases->mJ,ExtBut->rp,get?_update_ne->rD
open PySem.Heap.Ns1 renaming of_empty->sf
open PySem.Heap.SameBut renaming update->gp
open PySem.NameKind renaming free->dN,cell->ou
open PySem.Obj renaming mapFields->eN,mapSeq->fm,data_mapFields->fo,isFreed_of_fields->fS,cls_mapFields->nX
open PySem.Paired renaming length->cT
open PySem.PassesOwn renaming never->dB
open PySem.PyData renaming depthAll->dR,canLay0->fX,canLayAll0->iu,strOk->i6,depth->i7,eqv->lX,eqvAll->mO,int->sD
open PySem.SeqAt renaming noMixAll->ma,shaped->mq,noMix->rm
open PySem.SeqAt.EqAt renaming int_str->rF,str_int->rG,str_str->rP
open PySem.SetTable renaming leap->e9,Probe->iG,below->iH,runEnd->lG,advance->sQ
open PySem.SetTable.below renaming go->sC
open PySem.SetTable.layClean renaming free->pc
open PySem.Shared renaming TypeIs->rR
open PySem.Spec renaming sameAll->ny,same->tw
open PySem.Str renaming ofString->bb,join->cX,length->fq,empty->iE,length_append->nY,ofString_eq_toList->o7
open PySem.StrLaws renaming join_split->lE,glued_eq_join->pM,split_free->rS,found_one->sq
open PySem.Txt renaming split->cP,slice->mV
open PySem.Value renaming ref->bH,none->cy,type->fj,int->gu,bool->ic,str->mh,builtin->mL,float->sT
open PySem.W renaming Frag->bo,kitOne->dG,hideAll_none->eB,exmOne->eG,emptyDict->eX,findIn->fE,hideAll->fQ,looks_findIn->fW,instObj->gv,funFrames_hide->gy,kia_one->gI,callWith_K->gJ,hideAll_get->ig,Looks->iP,of_hideAll->iY,keepIn->lh,kitAny->mf,looks_mroIn->mK,methodCall_KW->mS,cellsFrom_some->oM,hasDictIn->rf,plainGet_of->rK,looks_clsIn->rL,callWith_K0->rM,fnOf->rN,codeIn->rO,OpenLaw->rQ,plainGet->r9,any_some->se,lookIn->sS,methodObj->sU,makesIn->sW,specialIn->sY,excIn->tj,clsIn->tq,isFn->tI,mroIn->tN,WalkO->tO,exmAny->tR
open PySem.W.Looks renaming here->mj,ld->mP
open PySem.Walks renaming list->tJ
open Sum renaming inl->lQ,inr->rZ
open Sum.inl renaming inj->og
open True renaming intro->fM
open Bool renaming false->ag,true->ai
open Option renaming some->U,none->ah
open PySem renaming Addr->L,Value->ae,Shared->af,Program->ap,Around->aq,Stmt->ar,World->au,Heap->ax,Expr->ay,Scope->az,Result->aD,sizeLine->Bb,FuncData->Bc,mainGlobals->Bd,starEach->Be,wpAny->Bf,model->Bg,bootBuiltins->Bh,compareOp->Bi
set_option Elab.async false
set_option linter.all false
set_option maxRecDepth 100000
theorem Bj{p:Prop}[Decidable p](h:p):decide p=true:=decide_eq_true h
theorem Bk{p:Prop}[Decidable p](h:¬p):decide p=false:=decide_eq_false h
set_option hygiene false
set_option compiler.extract_closed false
def zzzP:Nat->Lean.Syntax->Lean.MacroM (Lean.TSyntax `rcasesPat)
 |0,_=>Lean.Macro.throwUnsupported
 |n+1,s=>match s with
  |`(⟨$ps,*⟩)=>do
   let ls ← ps.getElems.mapM fun p=>do `(Lean.Parser.Tactic.rcasesPatLo|$(← zzzP n p):rcasesPat)
   `(rcasesPat|⟨$[$ls],*⟩)
  |`($x:ident)=>`(rcasesPat|$x:ident)
  |_=>`(rcasesPat|_)
local macro_rules|`(match $x:term with|⟨$ps,*⟩=>$b)=>do
 if (b.raw.find? (·.isOfKind `Lean.Parser.Term.syntheticHole)).isSome then Lean.Macro.throwUnsupported
 let q ← zzzP 9 (← `(⟨$ps,*⟩))
 `(by rcases $x:term with $q;exact $b)
local macro_rules|`(tactic|lia)=>`(tactic|first|with_reducible (first|assumption|exact Nat.le_refl _|exact Nat.zero_le _|exact Nat.le_of_lt ‹_›|exact Nat.le_succ_of_le ‹_›|exact Nat.le_trans ‹_› ‹_›|exact Nat.lt_of_lt_of_le ‹_› ‹_›|exact Nat.lt_of_le_of_lt ‹_› ‹_›|exact Nat.ne_of_gt ‹_›|exact Nat.ne_of_lt ‹_›|exact Int.le_of_lt ‹_›)|decide +kernel|(intro _ z;cases z;done)|(intro z;cases z;done)|lia -abstractProof)
theorem aj{α:Sort u}{p:α->Prop}{a:α}:(∃x,a=x/\p x)↔p a:=exists_eq_left'
theorem ak{α:Sort u}{p:α->Prop}{b:Prop}:(∃x,b/\p x)↔b/\∃x,p x:=exists_and_left
theorem am{c:Prop}{h:Decidable c}(n:¬c){α:Sort u}{t e:α}:ite c t e=e:=if_neg n
theorem ao{c:Prop}{h:Decidable c}(n:c){α:Sort u}{t e:α}:ite c t e=t:=if_pos n
local macro_rules|`(())=>`(by lia)
theorem Y{α:Sort u}{a:α}:a=a:=rfl
namespace L2
open PySem PySem.Spec PyProof.Rows
abbrev bv:=Sum Int Str
def zar:bv->ae->Bool
 |.inl k,v=>Value.isInt k v
 |.inr x,v=>Value.isStrOf x v
def zmP(w:au):bv->Int
 |.inl k=>hashInt k
 |.inr x=>hashStr w x
theorem yF:∀ {k:bv} {v:ae},zar k v=ai->(∃i t,k=lQ i/\v=gu i t)\/(∃x t,k=rZ x/\v=mh x t)
 |.inl i,v,h=>by
  obtain⟨t,e⟩:=Value.isInt_shape (k:=i) (v:=v) h;exact .inl ⟨i,t,Y,e⟩
 |.inr x,v,h=>by
  obtain⟨t,e⟩:=Value.isStrOf_shape (x:=x) (v:=v) h;exact .inr ⟨x,t,Y,e⟩
theorem zf1(i:Int)(t:Tok):zar (.inl i) (.int i t)=ai:=by simp[zar,Value.isInt]
theorem zf2(x:Str)(t:Tok):zar (.inr x) (.str x t)=ai:=by simp[zar,Value.isStrOf]
theorem zla(a b:Int):decide ((lQ a:bv)=lQ b)=(a==b):=by
 by_cases e:a=b
 .subst e;simp
 .have h:¬ (lQ a:bv)=lQ b:=λq=>e (og q);rw[Bk h];exact(beq_eq_false_iff_ne.mpr e).symm
theorem zlb(a b:Str):decide ((rZ a:bv)=rZ b)=decide (a=b):=by
 by_cases e:a=b
 .subst e;simp
 .have h:¬ (rZ a:bv)=rZ b:=λq=>e (Sum.inr.inj q);rw[Bk h,Bk e]
theorem zlc(a:Int)(b:Str):decide ((lQ a:bv)=rZ b)=ag:=Bk (λq=>nomatch q)
theorem zld(a:Str)(b:Int):decide ((rZ a:bv)=lQ b)=ag:=Bk (λq=>nomatch q)
def yH(c:ap)(w:au):PySem.KeyKind c w bv where
 is:=zar
 hash:=zmP w
 inj:=λv a b l f=>by
  rcases yF l with ⟨i,t,rfl,rfl⟩|⟨x,t,rfl,rfl⟩
  .rcases yF f with ⟨j,u,rfl,e⟩|⟨y,u,rfl,e⟩
   .injection e with e1 _;rw[e1]
   .exact nomatch e
  .rcases yF f with ⟨j,u,rfl,e⟩|⟨y,u,rfl,e⟩
   .exact nomatch e
   .injection e with e1 _;rw[e1]
 byValue:=λk v h=>by
  rcases yF h with ⟨i,t,rfl,rfl⟩|⟨x,t,rfl,rfl⟩ <;> rfl
 pyHash:=λd h=>by
  rcases yF d with ⟨i,t,rfl,rfl⟩|⟨x,t,rfl,rfl⟩
  .exact wpAny_pyHash_int h
  .exact wpAny_pyHash_str h
 eqBool:=λg d h=>by
  rcases yF g with ⟨i,t,rfl,rfl⟩|⟨x,t,rfl,rfl⟩
  .rcases yF d with ⟨j,u,rfl,rfl⟩|⟨y,u,rfl,rfl⟩
   .rw[zla] at h;exact wpAny_eqBool_int h
   .rw[zlc] at h;exact rF i t y u _ _ _ _ h
  .rcases yF d with ⟨j,u,rfl,rfl⟩|⟨y,u,rfl,rfl⟩
   .rw[zld] at h;exact rG x t j u _ _ _ _ h
   .rw[zlb] at h;exact wpAny_eqBool_str h
 «strs»:=λk x t v h=>by
  rcases yF h with ⟨i,u,rfl,e⟩|⟨y,u,rfl,e⟩
  .exact nomatch e
  .injection e with e1 _;subst e1;cases v <;> rfl
theorem zcB(a:ap)(w:au)(i:Int)(t:Tok):(yH a w).is (.inl i) (.int i t)=ai:=zf1 i t
theorem zcC(a:ap)(w:au)(x:Str)(t:Tok):(yH a w).is (.inr x) (.str x t)=ai:=zf2 x t
inductive V where
 |non|bl (b:Bool)|int (i:Int)|str (x:Str)|byt (b:Array UInt8)|flt (b:UInt64)|ref (a:L)|ty (n:String)
 deriving DecidableEq
def aU:V->ae->Prop
 |.non,u=>u=cy
 |.bl b,u=>u=ic b
 |.int i,u=>∃t,u=gu i t
 |.str x,u=>∃t,u=mh x t
 |.byt b,u=>∃t,u=Value.bytes b t
 |.flt b,u=>∃t,u=sT b t
 |.ref a,u=>u=bH a
 |.ty n,u=>u=fj n
abbrev aQ:List V->List ae->Prop:=Paired aU
theorem aQ.length(r:aQ xs us):xs.length=us.length:=cT r
theorem aQ.get:∀ {a:List V} {b:List ae} {i:Nat} {x:V},aQ a b->a[i]?=U x->∃u,b[i]?=U u/\aU x u
 |_,_,_,_,.nil,e=>by simp at e
 |_,_,0,_,.cons r _,e=>by simp at e;subst e;exact⟨_,Y,r⟩
 |_,_,i+1,x,.cons _ t,e=>by
  obtain⟨u,d,c⟩:=aQ.get (i:=i) (x:=x) t (by simpa using e);exact⟨u,by simpa using d,c⟩
theorem aQ.append:∀ {b a:List V} {d c:List ae},aQ b d->aQ a c->aQ (b++a) (d++c)
 |_,_,_,_,.nil,s=>s
 |_,_,_,_,.cons r t,s=>.cons r (aQ.append t s)
theorem aQ.take:∀ {a:List V} {b:List ae} (n:Nat),aQ a b->aQ (a.take n) (b.take n)
 |_,_,0,_=>.nil
 |_,_,_+1,.nil=>.nil
 |_,_,n+1,.cons r t=>.cons r (aQ.take n t)
theorem aQ.drop:∀ {a:List V} {b:List ae} (n:Nat),aQ a b->aQ (a.drop n) (b.drop n)
 |_,_,0,r=>r
 |_,_,_+1,.nil=>.nil
 |_,_,n+1,.cons _ t=>aQ.drop n t
def ug:Option V->Option ae->Prop
 |some v,U u=>aU v u
 |none,ah=>True
 |_,_=>False
def KV{a:Type}:List (a×V)->List (a×ae)->Prop:=Paired λ(p:a×V) (q:a×ae)=>p.1=q.1/\aU p.2 q.2
def kV:bv->V
 |.inl i=>.int i
 |.inr x=>.str x
inductive HO where
  |lst (xs:List V)
  |tup (xs:List V)
  |dK (aL:List (bv×V))|dT (aL:List (List bv×V))
  |set (S:Int->Bool) (n:Nat)
  |ins (C dx:L) (fs:List (Str×V))
  |own (x:L)
  |xd (fs:List (Str×V))
  |met (f x:L)
  |rng (lo hi:Int)
  |frz (o:Obj) (u:HO)
  |tbl (ps:Array ae)
  |ext (φ:ax->Prop)
abbrev Hp:=L->Option HO
def upd(H:Hp)(a:L)(o:HO):Hp:=λb=>if b=a then U o else H b
theorem zi{H:Hp} :upd H a o a=U o:=by unfold upd;rw[ao rfl]
theorem zm{H:Hp}(h:b≠a):upd H a o b=H b:=by unfold upd;rw[am h]
theorem kZ{H:Hp} :upd (upd H a o) a u=upd H a u:=by
 funext b;unfold upd;split <;> rfl
theorem zU{H:Hp}(h:H a=U o)(c:H b=U u)(d:o≠u):a≠b:=by
 intro e;subst e;rw[h] at c;exact d (cb c)
theorem zr{H:Hp}(h:H a=U o)(c:H b=ah):a≠b:=by
 intro e;subst e;rw[h] at c;cases c
section
variable (P:ap)(w:au)
def aW(H:Hp)(h:ax)(a:L):HO->Prop
 |.lst c=>c.length<=Bb/\∃(b:List ae) (n:Nat),aQ c b/\h.get? a=U { cls:=.type "list",data:=.seq b.toArray n }
 |.tup c=>c.length<=Bb/\∃b:List ae,aQ c b/\IsTup h a b.toArray
 |.dK aL=>aL.length<=Bb/\(a==sysModules)=ag/\∃e,KV aL e/\h.DictOf (yH P w) a e
 |.dT aL=>aL.length<=Bb/\(a==sysModules)=ag/\∃c:List (List bv×L×ae),
   Paired (λ(p:List bv×V) (q:List bv×L×ae)=>p.1=q.1/\H q.2.1=U (.tup (p.1.map kV))/\aU p.2 q.2.2) aL c /\
   ∃o j k,h.get? a=U o/\o.ExactDict/\o.data=.dict j k/\j.toList=c.map (entryOfKey (tupleKind (yH P w)))/\(c.map (·.1)).Nodup
 |.set S n=>h.SetOf (intKind P w) a S n
 |.ins C dx fs=>H dx=U (.own a)/\fs.length<=1000/\dx≠a/\h.get? a=U (gv C dx) /\
   ∃d,h.Ns1 dx d/\(∀f,ug (fs.lookup f) (d f))/\sE d (fs.map (·.1))
 |.own _=>∃o,h.get? a=U o
 |.xd fs=>∃d,h.Ns1 a d/\∀f,ug (fs.lookup f) (d f)
 |.rng lo hi=>∃t u v,h.get? a=U { cls:=.type "range",data:=.fields #[.int lo t,.int hi u,.int 1 v] }
 |.frz o u=>h.get? a=U o/\aW H h a u
 |.tbl ps=>h.get? a=U { cls:=.none,data:=.fields ps }
 |.met f x=>h.get? a=U (sU (.ref f) (.ref x))
 |.ext φ=>φ h/\(∃o,h.get? a=U o)/\∀i g:ax,φ i->(∀o,i.get? a=U o->g.get? a=U o)->φ g
def uz(H:Hp)(h:ax):Prop:=∀a o,H a=U o->aW P w H h a o
end
section
variable {P:ap}{w:au}{H H':Hp}{h h':ax}{a:L}{o:HO}
theorem aW.lt(x:aW P w H h a o):a<h.objs.size:=by
 cases o with
 |lst xs=>obtain⟨_,_,_,_,e⟩:=x;exact bG e
 |tup xs=>obtain⟨_,_,_,p⟩:=x;exact p.lt
 |dK aL=>obtain⟨_,_,_,_,o,_,_,e,_⟩:=x;exact bG e
 |dT aL=>obtain⟨_,_,_,_,o,_,_,e,_⟩:=x;exact bG e
 |set S n=>obtain⟨o,_,_,_,e,_⟩:=x;exact bG e
 |ins C dx fs=>obtain⟨_,_,_,e,_⟩:=x;exact bG e
 |own y=>obtain⟨_,e⟩:=x;exact bG e
 |xd fs=>obtain⟨_,⟨_,_,_,e,_⟩,_⟩:=x;exact bG e
 |rng lo hi=>obtain⟨_,_,_,e⟩:=x;exact bG e
 |frz ob u=>obtain⟨e,_⟩:=x;exact bG e
 |tbl ps=>exact bG (show h.get? a=U _ from x)
 |met f y=>exact bG (show h.get? a=U _ from x)
 |ext φ=>obtain⟨_,⟨_,e⟩,_⟩:=x;exact bG e
theorem Paired.mapP{g e:Type}{F G:g->e->Prop}:∀ {d:List g} {c:List e},Paired F d c->(∀a b,F a b->G a b)->Paired G d c
 |_,_,.nil,_=>.nil
 |_,_,.cons r t,f=>.cons (f _ _ r) (Paired.mapP t f)
theorem aW.stay(x:aW P w H h a o)(k:∀b u,(b=a\/H b=U (.own a))->h.get? b=U u->h'.get? b=U u) (I:∀b,H b=U (.own a)->H' b=U (.own a)) (G:∀b m,H b=U (.tup m)->H' b=U (.tup m)):aW P w H' h' a o:=by
 induction o with
 |lst m=>obtain⟨z,l,n,r,e⟩:=x;exact⟨z,l,n,r,k _ _ (.inl Y) e⟩
 |tup m=>obtain⟨z,l,r,g,e,c⟩:=x;exact⟨z,l,r,g,k _ _ (.inl Y) e,c⟩
 |dK aL=>obtain⟨z,y,D,r,g,i,j,e,c⟩:=x;exact⟨z,y,D,r,g,i,j,k _ _ (.inl Y) e,c⟩
 |dT aL =>
  obtain⟨z,y,m,r,g,i,j,e,c⟩:=x;exact⟨z,y,m,Paired.mapP r λp q z=>⟨z.1,G _ _ z.2.1,z.2.2⟩,g,i,j,k _ _ (.inl Y) e,c⟩
 |set S n=>obtain⟨g,i,j,t,e,c⟩:=x;exact⟨g,i,j,t,k _ _ (.inl Y) e,c⟩
 |ins C dx fs =>
  obtain⟨d,z,E,e,A,⟨s,i,j,J,c⟩,r⟩:=x;exact⟨I _ d,z,E,k _ _ (.inl Y) e,A,⟨s,i,j,k _ _ (.inr d) J,c⟩,r⟩
 |own y=>obtain⟨g,e⟩:=x;exact⟨g,k _ _ (.inl Y) e⟩
 |xd fs=>obtain⟨A,⟨s,i,j,e,c⟩,r⟩:=x;exact⟨A,⟨s,i,j,k _ _ (.inl Y) e,c⟩,r⟩
 |rng lo hi=>obtain⟨t,u,v,e⟩:=x;exact⟨t,u,v,k _ _ (.inl Y) e⟩
 |frz g u ih=>obtain⟨e,q⟩:=x;exact⟨k _ _ (.inl Y) e,ih q⟩
 |tbl ps =>
  have e:h.get? a=U { cls:=.none,data:=.fields ps }:=x;show h'.get? a=U { cls:=.none,data:=.fields ps };exact k a _ (.inl Y) e
 |met f y =>
  have e:h.get? a=U (sU (.ref f) (.ref y)):=x;show h'.get? a=U (sU (.ref f) (.ref y));exact k a _ (.inl Y) e
 |ext φ=>obtain⟨p,⟨o,e⟩,B⟩:=x;exact⟨B _ _ p λo q=>k _ _ (.inl Y) q,⟨o,k _ _ (.inl Y) e⟩,B⟩
theorem uz.lt(x:uz P w H h)(e:H a=U o):a<h.objs.size:=(x a o e).lt
theorem uz.fresh(x:uz P w H h)(e:h.objs.size<=a):H a=ah:=by
 cases q:H a with
 |none=>rfl
 |some u=>exact absurd (cq (x.lt q) e) (fP _)
theorem uz.kept(x:uz P w H h)(k:∀b u,h.get? b=U u->h'.get? b=U u):uz P w H h':=λa o e =>
 (x a o e).stay (λb u _ q=>k b u q) (λ_ q=>q) λ_ _ q=>q
theorem uz.laid(x:uz P w H h)(k:∀b u,h.get? b=U u->h'.get? b=U u)(g:h.objs.size<=a)(d:aW P w (upd H a o) h' a o):uz P w (upd H a o) h':=λb u e=>by
 have f:=x.fresh g;by_cases hb:b=a
 .subst hb;rw[zi] at e;cases e;exact d
 .rw[zm hb] at e;exact(x b u e).stay (λc v _ q=>k c v q) (λc q=>by rw[zm (zr q f)];exact q) λc i q=>by rw[zm (zr q f)];exact q
end
def Rd(H:Hp)(a:L)(u:HO):Prop:=H a=U u\/∃o,H a=U (.frz o u)
theorem Rd.ok{H:Hp}(r:Rd H a u)(x:uz P w H h):aW P w H h a u:=by
 rcases r with r|⟨o,r⟩
 .exact x a u r
 .obtain⟨_,q⟩:=x a _ r;exact q
def Mut:Option HO->Prop
 |some (.lst _)=>True
 |some (.dK _)=>True
 |some (.dT _)=>True
 |some (.set _ _)=>True
 |some (.ins _ _ _)=>True
 |some (.ext _)=>True
 |_=>False
section
variable {P:ap}{w:au}{H:Hp}{h h':ax}{x e:L}{o':HO}
theorem uz.write(n:uz P w H h)(g:Mut (H x))(m:e=x\/H e=U (.own x))(k:∀b u,b≠e->h.get? b=U u->h'.get? b=U u)(j:∃u,h'.get? e=U u) (i:aW P w (upd H x o') h' x o'):uz P w (upd H x o') h':=λb u q=>by
 have a:∀c y,H c=U (.own y)->c≠x:=λc y r z=>by subst z;rw[r] at g;exact g
 have d:∀c f,H c=U (.tup f)->c≠x:=λc f r z=>by subst z;rw[r] at g;exact g
 by_cases hb:b=x
 .subst hb;rw[zi] at q;cases q;exact i
 .rw[zm hb] at q;by_cases hbe:b=e
  .have l:H b=U (.own x):=by
    rcases m with z|z
    .exact absurd (hbe.trans z) hb
    .rw[hbe];exact z
   rw[q] at l;cases l;obtain⟨v,o⟩:=j;exact⟨v,by rw[hbe];exact o⟩
  .refine(n b u q).stay (λc v hc r=>k c v ?_ r) (λc r=>by rw[zm (a c b r)];exact r) λc f r=>by rw[zm (d c f r)];exact r
   rcases hc with rfl|hc
   .exact hbe
   .rintro rfl;rcases m with z|z
    .exact a c b hc z
    .rw[hc] at z;cases z;exact hb rfl
end
structure Un(fs ex:List L)(H H':Hp)(h h':ax):Prop where
 keep:∀b o,h.get? b=U o->H b=ah->b ∉ fs->b ∉ ex->h'.get? b=U o
 slot:∀b o,h.get? b=U o->H b=ah->b∈fs->b ∉ ex->∃sl,h'.get? b=U { o with slots:=sl }
 free:∀b o,h.get? b=U o->H b=ah->b ∉ ex->H' b=ah
 there:∀b o,h.get? b=U o->b ∉ ex->∃o',h'.get? b=U o'
 tups:∀b xs,H b=U (.tup xs)->H' b=U (.tup xs)
 frzs:∀b o u,H b=U (.frz o u)->H' b=U (.frz o u)
 tbls:∀b ps,H b=U (.tbl ps)->∃more,H' b=U (.tbl (ps++more))
section
variable {fs fs' ex ex':List L}{H H1 H2:Hp}{h h1 h2 h':ax}{a x e:L}{o:HO}
theorem Un.any(u:Un fs ex H H1 h h1)(q:h.get? b=U ob)(n:H b=ah)(c:b ∉ ex):∃sl,h1.get? b=U { ob with slots:=sl }:=by
 by_cases hb:b∈fs
 .exact u.slot b ob q n hb c
 .exact⟨ob.slots,u.keep b ob q n hb c⟩
theorem Un.kept(k:∀b u,h.get? b=U u->h'.get? b=U u):Un fs ex H H h h' :=
 ⟨λb c q _ _ _=>k b c q,λb c q _ _ _=>⟨c.slots,k b c q⟩,λ_ _ _ n _=>n,λb c q _=>⟨c,k b c q⟩,λ_ _ q=>q,λ_ _ _ q=>q,λ_ ps q=>⟨#[],by rw[q];simp⟩⟩
theorem Un.refl:Un fs ex H H h h:=Un.kept λ_ _ q=>q
theorem Un.laid(k:∀b u,h.get? b=U u->h'.get? b=U u)(d:h.objs.size<=a)(c:H a=ah):Un fs ex H (upd H a o) h h' where
 keep:=λb u q _ _ _=>k b u q
 slot:=λb u q _ _ _=>⟨u.slots,k b u q⟩
 free:=λb u q n _=>by rw[zm (bV (cq (bG q) d))];exact n
 there:=λb u q _=>⟨u,k b u q⟩
 tups:=λb xs q=>by rw[zm (zr q c)];exact q
 frzs:=λb u xs q=>by rw[zm (zr q c)];exact q
 tbls:=λb ps q=>⟨#[],by rw[zm (zr q c),q];simp⟩
theorem Un.write(c:Mut (H x))(l:e=x\/H e=U (.own x))(k:∀b u,b≠e->h.get? b=U u->h'.get? b=U u)(f:∃u,h'.get? e=U u):Un fs ex H (upd H x o) h h':=by
 have g:∀b,H b=ah->b≠x:=λb n z=>by subst z;rw[n] at c;exact c
 have i:∀b,H b=ah->b≠e:=λb n z=>by
  subst z;rcases l with r|r
  .exact g b n r
  .rw[n] at r;cases r
 have d:∀b u,H b=U u->¬ Mut (U u)->b≠x:=λb u q j z=>by subst z;rw[q] at c;exact j c
 refine⟨λb u q n _ _=>k b u (i b n) q,λb u q n _ _=>⟨u.slots,k b u (i b n) q⟩,λb u q n _=>by rw[zm (g b n)];exact n,λb u q _=>?_,
  λb xs q=>by rw[zm (d b _ q λz=>z)];exact q,λb u xs q=>by rw[zm (d b _ q λz=>z)];exact q,λb ps q=>⟨#[],by rw[zm (d b _ q λz=>z),q];simp⟩⟩
 by_cases hbe:b=e
 .subst hbe;exact f
 .exact⟨u,k b u hbe q⟩
end
def trk(h:ax)(H:Hp):List L:=(dH h.objs.size).filter λa=>(H a).isSome
def zbh(h:ax)(H:Hp):ax:=fQ h (trk h H)
theorem zf3(h:ax)(H:Hp):(zbh h H).objs.size=h.objs.size:=W.hideAll_size _ _
theorem zgZ{H:Hp}(e:h.get? b=U o)(n:H b=ah):(zbh h H).get? b=U o:=
 ig _ e λa=>by
  have q:(H b).isSome=ai:=(mQ.mp a).2;rw[n] at q;simp at q
theorem zjm{H:Hp}(e:(zbh h H).get? b=U o):h.get? b=U o/\H b=ah:=by
 have a:h.get? b=U o:=iY (trk h H) e;refine⟨a,?_⟩;cases q:H b with
 |none=>rfl
 |some x =>
  have c:b∈trk h H:=List.mem_filter.mpr ⟨iD.mpr (bG a),by simp[q]⟩;have z:(zbh h H).get? b=ah:=eB (trk h H) c;rw[z] at e;cases e
def zjn(g h:ax)(b:L):List (L×Obj):=(dH h.objs.size).filterMap λa=>if a=b\/(g.get? a).isSome=ai then ah else (h.get? a).map λo=>(a,o)
def rest(g h:ax)(a d:L):List (L×Obj):=(zjn g h a).filter λp=>decide (p.1≠d)
structure Mod(K:bo)(mg:Str->Option ae)(base:ax):Prop where
 kin:K.In base
 glob:base.Ns Bd mg
 blt:∃mb,base.Ns builtinsNs mb/\∀x:Str,x≠"__name__"->mb x=Bh x
 nolimit:base.NoLimit
set_option genSizeOf false in
set_option genInjectivity false in
structure Cx where
 prog:ap
 w:au
 K:bo
 mg:Str->Option ae
 base:ax
 A:aq
 N:List Str
 s₀:af
 H₀:Hp
 env:Env
 outer:List Env
 stack:List Env
 ex:List L
 fn:Str->Bool
 calm:Bool
 pn:List (L×Obj)
 xe:ae->af->Prop
def uc(l:List Env):List L:=l.filterMap (·.frame)
abbrev Cx.fs(X:Cx):List L:=uc X.outer
def Vis(a:az)(x:Str):Prop:=a.names.lookup x=U .local\/a.names.lookup x=U .cell\/a.names.lookup x=U .free
def Loc(a:az)(x:Str):Prop:=a.names.lookup x=U .local\/a.names.lookup x=U .cell
def zmh(a:Env)(h:ax)(m:Str->Option ae)(x:Str)(u:ae):Prop :=
 (a.kindOf x=U .local/\m x=U u)\/((a.kindOf x=U .cell\/a.kindOf x=U .free)/\∃c,a.cells.lookup x=U c/\h.IsCell c (U u))
structure Cx.Ok(X:Cx):Prop where
 mod:Mod X.K X.mg X.base
 kind:X.env.scope.kind=.function
 glob:X.env.globals=Bd
 blt:X.env.builtins=builtinsNs
 above:X.s₀.heap.objs.size<=X.env.locals
 inj:∀x y c,X.env.cells.lookup x=U c->X.env.cells.lookup y=U c->x=y
 has:∀x,(X.env.kindOf x=U .cell\/X.env.kindOf x=U .free)->∃c,X.env.cells.lookup x=U c
 cab:∀x c,X.fn x=ai->X.env.cells.lookup x=U c->X.s₀.heap.objs.size<=c
 hd:X.calm=ai->X.A.handled=ah
 frames:X.A.frames=U X.stack
 stk:X.stack=X.outer\/(X.stack=X.env::X.outer/\X.env.frame=U X.env.locals)
 exf:∀b∈X.ex,b≠X.env.locals/\∀x c,X.env.cells.lookup x=U c->c≠b
 bs:∀b o,X.base.get? b=U o->X.s₀.heap.get? b=U o/\X.H₀ b=ah
 bsz:X.base.objs.size<=X.s₀.heap.objs.size
 noex:∀b o,X.base.get? b=U o->b ∉ X.ex
 exfs:∀b∈X.ex,b ∉ X.fs
 funs:X.s₀.heap.FunFrames X.base X.outer
 frf:∀b∈X.fs,X.H₀ b=ah
structure aM(X:Cx)(aa:List (L×Obj))(σ:List (Option V))(H:Hp)(s:af):Prop where
 ok:X.Ok
 os:s.os=X.s₀.os
 bare:AllBare s.gens
 base:Un X.fs X.ex X.H₀ H X.s₀.heap s.heap
 loc:∃m,s.heap.Ns X.env.locals m/\∀(i:Nat) (x:Str) (v:V),X.N[i]?=U x->σ[i]?=U (U v)->Vis X.env.scope x->∃u,aU v u/\zmh X.env s.heap m x u
 cell:∀x c,X.env.cells.lookup x=U c->∃v,s.heap.IsCell c v
 free:H X.env.locals=ah
 freeC:∀x c,X.env.cells.lookup x=U c->H c=ah
 pin:∀p∈X.pn++aa,s.heap.get? p.1=U p.2/\H p.1=ah/\p.1≠X.env.locals/\p.1 ∉ X.fs/\∀v,p.2.data≠.cell v
 hok:uz X.prog X.w H s.heap
 len:σ.length=X.N.length
section
variable {X:Cx}{aa:List (L×Obj)}{σ:List (Option V)}{H H':Hp}{s:af}{h':ax}
theorem Cx.Ok.nofr(a:X.Ok)(e:X.base.get? b=U o):b ∉ X.fs:=λd=>by
 have:=(a.funs.mem d).1;rw[e] at this;cases this
theorem aM.bs(I:aM X aa σ H s):∀b o,X.base.get? b=U o->s.heap.get? b=U o/\H b=ah:=λb o e =>
 ⟨I.base.keep b o (I.ok.bs b o e).1 (I.ok.bs b o e).2 (I.ok.nofr e) (I.ok.noex b o e),I.base.free b o (I.ok.bs b o e).1 (I.ok.bs b o e).2 (I.ok.noex b o e)⟩
theorem aM.bk(I:aM X aa σ H s):∀b o,X.base.get? b=U o->s.heap.get? b=U o:=λb o e=>(I.bs b o e).1
theorem aM.mod(I:aM X aa σ H s):Mod X.K X.mg X.base:=I.ok.mod
theorem aM.kIn(I:aM X aa σ H s):X.K.In s.heap:=I.ok.mod.kin.keeps I.bk
theorem aM.lt(I:aM X aa σ H s):X.env.locals<s.heap.objs.size:=let ⟨_,hn,_⟩:=I.loc;hn.lt
theorem aM.sz(I:aM X aa σ H s):X.s₀.heap.objs.size<=s.heap.objs.size:=cg I.ok.above (pj I.lt)
theorem aM.nofs(I:aM X aa σ H s){a:L}(h:s.heap.objs.size<=a):a ∉ X.fs:=λd=>by
 obtain⟨_,o,b,_⟩:=I.ok.funs.mem d;exact absurd (cq (bG b) (cg I.sz h)) (fP _)
theorem aM.cne(I:aM X aa σ H s):∀x c,X.env.cells.lookup x=U c->c≠X.env.locals:=λx c e z=>by
 obtain⟨v,o,d,f⟩:=I.cell x c e;obtain⟨m,⟨g,h,j,a,b,_⟩,_⟩:=I.loc;rw[z,a] at d;cases d;rw[b] at f;cases f
theorem aM.funs(I:aM X aa σ H s):s.heap.FunFrames X.base X.outer:=by
 have h:∀(l:List Env),(∀b∈uc l,b∈X.fs)->X.s₀.heap.FunFrames X.base l->s.heap.FunFrames X.base l:=by
  intro l;induction l with
  |nil=>intro _ _;trivial
  |cons env r ih =>
   intro j t;obtain⟨y,⟨a,o,d,q,n,A⟩,k⟩:=t;have g:a∈X.fs:=j a (by unfold uc;rw[iO,d];exact bK);obtain⟨B,e⟩:=I.base.slot a o n (I.ok.frf a g) g λz=>I.ok.exfs a z g;exact⟨y,⟨a,_,d,q,e,A⟩,ih (λb f=>j b (by unfold uc;rw[iO,d];exact bF _ f)) k⟩
 exact h X.outer (λ_ f=>f) I.ok.funs
theorem aM.stack(I:aM X aa σ H s):s.heap.FunFrames X.base X.stack:=by
 rcases I.ok.stk with e|⟨e,hf⟩
 .rw[e];exact I.funs
 .rw[e];obtain⟨m,a,_⟩:=I.loc;refine .cons (by rw[I.ok.kind];decide) hf a ?_ I.funs;exact mH (cg I.ok.bsz I.ok.above)
theorem aM.stkSub(I:aM X aa σ H s):∀b∈uc X.stack,b∈X.env.locals::X.fs:=λb a=>by
 rcases I.ok.stk with e|⟨e,hf⟩
 .rw[e] at a;exact bF _ a
 .rw[e] at a;unfold uc at a;rw[iO,hf] at a;exact a
theorem aM.stkFree(I:aM X aa σ H s):∀b∈uc X.stack,H b=ah:=λb hb=>by
 rcases bJ.mp (I.stkSub b hb) with e|hb
 .rw[e];exact I.free
 .obtain⟨_,o,a,_⟩:=I.ok.funs.mem hb;exact I.base.free b o a (I.ok.frf b hb) λz=>I.ok.exfs b z hb
theorem aM.step{t':Nat}{d':Drawn}{ch:List L}(I:aM X aa σ H s) (h:∀b∈ch,(b∈X.ex\/X.s₀.heap.objs.size<=b)/\b≠X.env.locals/\(∀x c,X.env.cells.lookup x=U c->c≠b)/\∀p∈X.pn++aa,p.1≠b) (g:∀b o,b≠X.env.locals->b ∉ X.fs->b ∉ ch->s.heap.get? b=U o->H b=ah->h'.get? b=U o) (B:∀b o,b≠X.env.locals->b∈X.fs->b ∉ ch->s.heap.get? b=U o->H b=ah->∃sl,h'.get? b=U { o with slots:=sl }) (free:∀b o,b ∉ ch->s.heap.get? b=U o->H b=ah->H' b=ah) (C:∀b o,b ∉ ch->s.heap.get? b=U o->∃M,h'.get? b=U M) (G:∀b A,H b=U (.tup A)->H' b=U (.tup A)) (T:∀b o u,H b=U (.frz o u)->H' b=U (.frz o u)) (J:∀b ps,H b=U (.tbl ps)->∃Q,H' b=U (.tbl (ps++Q))) (ns:∀m,s.heap.Ns X.env.locals m->h'.Ns X.env.locals m) (hok:uz X.prog X.w H' h') (hg:AllBare g') :
  aM X aa σ H' { s with heap:=h',gens:=g',drawn:=d',toks:=t' }:=by
 have O:∀b o,X.s₀.heap.get? b=U o->b≠X.env.locals:=λb o e=>bV (cq (bG e) I.ok.above);have t:∀b o,X.s₀.heap.get? b=U o->b ∉ X.ex->b ∉ ch:=λb o e a D=>by
  rcases(h b D).1 with z|z
  .exact a z
  .exact absurd (cq (bG e) z) (fP _)
 have j:∀x c,X.env.cells.lookup x=U c->∀v,s.heap.IsCell c v->h'.IsCell c v:=λx c e v ⟨o,E,hd⟩=>by
  have f:c ∉ ch:=λz=>(h c z).2.2.1 x c e rfl;by_cases hc:c∈X.fs
  .obtain⟨sl,q⟩:=B c o (I.cne x c e) hc f E (I.freeC x c e);exact⟨_,q,hd⟩
  .exact⟨o,g c o (I.cne x c e) hc f E (I.freeC x c e),hd⟩
 refine⟨I.ok,I.os,hg,⟨λb o e n D a=>?_,λb o e n D a=>?_,λb o e n a=>?_,λb o e a=>?_,λb A e=>G b A (I.base.tups b A e),λb o A e=>T b o A (I.base.frzs b o A e),λb ps e=>?_⟩,?_,λx c e=>?_,?_,λx c e=>?_,λp hp=>?_,hok,I.len⟩
 .exact g b o (O b o e) D (t b o e a) (I.base.keep b o e n D a) (I.base.free b o e n a)
 .obtain⟨sl,y⟩:=I.base.slot b o e n D a;obtain⟨al,e2⟩:=B b _ (O b o e) D (t b o e a) y (I.base.free b o e n a);exact⟨al,e2⟩
 .obtain⟨M,y⟩:=I.base.there b o e a;exact free b M (t b o e a) y (I.base.free b o e n a)
 .obtain⟨M,y⟩:=I.base.there b o e a;exact C b M (t b o e a) y
 .obtain⟨m1,y⟩:=I.base.tbls b ps e;obtain⟨m2,e2⟩:=J b _ y;exact⟨m1++m2,by rw[e2,Array.append_assoc]⟩
 .obtain⟨m,hn,hl⟩:=I.loc;refine⟨m,ns m hn,λi x v y e2 e3=>?_⟩;obtain⟨u,r,l⟩:=hl i x v y e2 e3;refine⟨u,r,?_⟩;rcases l with l|⟨k,c,e,z⟩
  .exact .inl l
  .exact .inr ⟨k,c,e,j x c e _ z⟩
 .obtain⟨v,z⟩:=I.cell x c e;exact⟨v,j x c e v z⟩
 .obtain⟨m,⟨o,_,_,E,_⟩,_⟩:=I.loc;exact free _ o (λz=>(h _ z).2.1 Y) E I.free
 .obtain⟨v,o,E,hd⟩:=I.cell x c e;exact free c o (λz=>(h c z).2.2.1 x c e Y) E (I.freeC x c e)
 .obtain⟨e,n,ne,nf,d⟩:=I.pin p hp;have f:p.1 ∉ ch:=λz=>(h p.1 z).2.2.2 p hp rfl;exact⟨g p.1 p.2 ne nf f e n,free p.1 p.2 f e n,ne,nf,d⟩
theorem aM.un(I:aM X aa σ H s)(u:Un X.fs [] H H' s.heap h')(hok:uz X.prog X.w H' h'):aM X aa σ H' { s with heap:=h',toks:=t' }:=by
 obtain⟨m,⟨o,z,A,h,r⟩,_⟩:=id I.loc;obtain⟨q,l⟩:=u.any h I.free (by simp);exact I.step (g':=s.gens) (d':=s.drawn) (ch:=[]) () (λb o _ d _ e n=>u.keep b o e n d (by simp)) (λb o _ d _ e n=>u.slot b o e n d (by simp)) (λb o _ e n=>u.free b o e n (by simp)) (λb o _ e=>u.there b o e (by simp)) u.tups u.frzs u.tbls (λy k=>by
  obtain⟨t,f,g,a,j⟩:=k;rw[h] at a;cases a;exact⟨_,f,g,l,j⟩) hok I.bare
theorem aM.call(I:aM X aa σ H s)(u:Un (uc X.stack) ch H H' s.heap h')(hok:uz X.prog X.w H' h')(t:AllBare g') (f:∀b∈ch,(b∈X.ex\/X.s₀.heap.objs.size<=b)/\b≠X.env.locals/\(∀x c,X.env.cells.lookup x=U c->c≠b)/\∀p∈X.pn++aa,p.1≠b) :
  aM X aa σ H' { s with heap:=h',gens:=g',drawn:=d',toks:=t' }:=by
 obtain⟨m,⟨o,D,E,k,r⟩,_⟩:=id I.loc;obtain⟨A,g⟩:=u.any k I.free λz=>(f _ z).2.1 rfl;exact I.step (ch:=ch) f (λb o g y a e n=>u.keep b o e n (λz=>(bJ.mp (I.stkSub b z)).elim g y) a) (λb o _ _ a e n=>u.any e n a) (λb o a e n=>u.free b o e n a) (λb o a e=>u.there b o e a) u.tups u.frzs u.tbls (λC q=>by
  obtain⟨B,h,j,d,l⟩:=q;rw[k] at d;cases d;exact⟨_,h,j,g,l⟩) hok t
theorem aM.turned(I:aM X aa σ H s)(k:∀b o,b≠it->s.heap.get? b=U o->h'.get? b=U o)(h:H it=ah)(f:it≠X.env.locals) (A:it∈X.ex\/X.s₀.heap.objs.size<=it) (y:∀x c,X.env.cells.lookup x=U c->c≠it) (t:∀p∈X.pn++aa,p.1≠it):aM X aa σ H { s with heap:=h',toks:=t' }:=by
 have d:∀b u,H b=U u->b≠it:=λb u e z=>by rw[z,h] at e;cases e
 refine I.step (g':=s.gens) (d':=s.drawn) (ch:=[it]) (λb l=>?_) (λb o _ _ a e _=>k b o (λz=>a (by simp[z])) e) (λb o _ _ a e _=>⟨o.slots,k b o (λz=>a (by simp[z])) e⟩) (λ_ _ _ _ n=>n)
  (λb o a e=>⟨o,k b o (λz=>a (by simp[z])) e⟩) (λ_ _ e=>e) (λ_ _ _ e=>e) (λb D e=>⟨#[],by rw[e];simp⟩) (λm j=>?_) (λb u e=>?_) I.bare
 .have e:b=it:=by simpa using l
  subst e;exact⟨A,f,y,t⟩
 .obtain⟨o,B,C,g,r⟩:=j;exact⟨o,B,C,k _ o (cK f) g,r⟩
 .refine(I.hok b u e).stay (λc v a q=>k c v ?_ q) (λ_ q=>q) λ_ _ q=>q;rcases a with z|z
  .rw[z];exact d b u e
  .exact d c _ z
theorem aM.tok(I:aM X aa σ H s)(t:Nat):aM X aa σ H { s with toks:=t }:=I.un (h':=s.heap) (t':=t) Un.refl I.hok
theorem aM.kept(I:aM X aa σ H s)(k:∀b u,s.heap.get? b=U u->h'.get? b=U u):aM X aa σ H { s with heap:=h',toks:=t' }:=I.un (Un.kept k) (I.hok.kept k)
theorem aM.laid{a:L}{o:HO}(I:aM X aa σ H s)(k:∀b u,s.heap.get? b=U u->h'.get? b=U u)(e:s.heap.objs.size<=a)(d:aW X.prog X.w (upd H a o) h' a o) :
  aM X aa σ (upd H a o) { s with heap:=h',toks:=t' }:=I.un (Un.laid k e (I.hok.fresh e)) (I.hok.laid k e d)
theorem aM.write(I:aM X aa σ H s)(f:Mut (H x))(g:e=x\/H e=U (.own x))(k:∀b u,b≠e->s.heap.get? b=U u->h'.get? b=U u)(a:∃u,h'.get? e=U u) (d:aW X.prog X.w (upd H x o) h' x o):aM X aa σ (upd H x o) { s with heap:=h',toks:=t' }:=I.un (Un.write f g k a) (I.hok.write f g k a d)
theorem aM.pins_of(I:aM X aa σ H s)(h:∀p∈pins',s.heap.get? p.1=U p.2/\H p.1=ah/\p.1≠X.env.locals/\p.1 ∉ X.fs/\∀v,p.2.data≠.cell v):aM X pins' σ H s:=
 ⟨I.ok,I.os,I.bare,I.base,I.loc,I.cell,I.free,I.freeC,λp a=>(cj.mp a).elim (λz=>I.pin p (cR _ z)) (h p),I.hok,I.len⟩
theorem JO{N:List Str}(c:N.Nodup){i j:Nat}(a:N[i]?=U x)(b:N[j]?=U x):i=j:=by
 obtain⟨g,e⟩:=bE.mp a;obtain⟨f,d⟩:=bE.mp b;exact(sL c).mp (e.trans d.symm)
theorem zas{E:ae->af->Prop}{Q:Unit->af->Prop}(I:aM X aa σ H s)(hN:X.N.Nodup)(T:X.N[i]?=U x)(t:Loc X.env.scope x)(r:aU v u) (h:∀s',aM X aa (σ.set i (U v)) H s'->(∃a,cV a s.heap s'.heap/\(a=X.env.locals\/X.env.cells.lookup x=U a))->Q PUnit.unit s') (hf:X.fn x=ai\/X.env.scope.names.lookup x=U .local:=by first|exact .inl rfl|exact .inr rfl|assumption):Bf M A (storeName X.env x u) Q E s:=by
 obtain⟨m,hn,hl⟩:=id I.loc;have al:(X.env.scope.kind==.class || (X.env.scope.kind==.module&&X.env.locals != X.env.globals))=ag:=by rw[I.ok.kind];rfl
 have C:i<σ.length:=by rw[I.len];exact(bE.mp T).1
 have J:=I.cne;have g:∀ {a:L} {h':ax},(∃o,s.heap.get? a=U o/\H a=ah)->cV a s.heap h'->uz X.prog X.w H h':=λ{a h'} ha f b ob e=>by
  obtain⟨_,_,w⟩:=ha;refine(I.hok b ob e).stay (λc w' hc q=>(f.2 c ?_).trans q) (λ_ q=>q) λ_ _ q=>q;rintro rfl;rcases hc with rfl|hc
  .rw[w] at e;cases e
  .rw[w] at hc;cases hc
 rcases t with hk|hk
 .refine wpAny_storeName_local hk hn (λh' aw f=>?_) al;obtain⟨oL,_,_,av,_⟩:=id hn;refine h _ ⟨I.ok,I.os,I.bare,⟨λb o e n G t=>?_,λb o e n G t=>?_,I.base.free,λb o e t=>?_,I.base.tups,I.base.frzs,I.base.tbls⟩,⟨_,aw,λj y v' l B e3=>?_⟩,λy c e=>?_,I.free,I.freeC,λp hp=>?_,g ⟨oL,av,I.free⟩ f,by simpa using I.len⟩ ⟨_,f,.inl Y⟩
  .exact(f.2 b (bV (cq (bG e) I.ok.above))).trans (I.base.keep b o e n G t)
  .obtain⟨sl,l⟩:=I.base.slot b o e n G t;exact⟨sl,(f.2 b (bV (cq (bG e) I.ok.above))).trans l⟩
  .obtain⟨o',l⟩:=I.base.there b o e t;exact⟨o',(f.2 b (bV (cq (bG e) I.ok.above))).trans l⟩
  .by_cases hj:j=i
   .subst hj;rw[T] at l;cases l;rw[gE C] at B;cases B;exact⟨u,r,.inl ⟨hk,by simp⟩⟩
   .rw[iz (cK hj)] at B;obtain⟨u',r',q⟩:=hl j y v' l B e3;refine⟨u',r',?_⟩;rcases q with ⟨k,e⟩|⟨k,c,e,z⟩
    .refine .inl ⟨k,?_⟩;have:y≠x:=λe=>hj (JO hN l (e ▸ T));simp[this,e]
    .exact .inr ⟨k,c,e,z.sameBut f (J y c e)⟩
  .obtain⟨w',z⟩:=I.cell y c e;exact⟨w',z.sameBut f (J y c e)⟩
  .obtain⟨e,n,ne,nf,d⟩:=I.pin p hp;exact⟨(f.2 p.1 ne).trans e,n,ne,nf,d⟩
 .have D:X.fn x=ai:=by
   rcases hf with z|z
   .exact z
   .rw[z] at hk;cases hk
  obtain⟨c,hc⟩:=I.ok.has x (.inl hk);obtain⟨w',z⟩:=I.cell x c hc;refine wpAny_storeName_cell I.ok.kind hk hc z (λh' an f=>?_);obtain⟨oc,O,N⟩:=id z;refine h { s with heap:=h' } ⟨I.ok,I.os,I.bare,⟨λb o e n G t=>?_,λb o e n G t=>?_,I.base.free,λb o e t=>?_,I.base.tups,I.base.frzs,I.base.tbls⟩,⟨m,hn.sameBut f (cK (J x c hc)),λj y v' l B e3=>?_⟩,λy c' e=>?_,I.free,I.freeC,λp hp=>?_,g ⟨oc,O,I.freeC x c hc⟩ f,by simpa using I.len⟩ ⟨c,f,.inr hc⟩
  .exact(f.2 b (bV (cq (bG e) (I.ok.cab x c D hc)))).trans (I.base.keep b o e n G t)
  .obtain⟨sl,l⟩:=I.base.slot b o e n G t;exact⟨sl,(f.2 b (bV (cq (bG e) (I.ok.cab x c D hc)))).trans l⟩
  .obtain⟨o',l⟩:=I.base.there b o e t;exact⟨o',(f.2 b (bV (cq (bG e) (I.ok.cab x c D hc)))).trans l⟩
  .by_cases hj:j=i
   .subst hj;rw[T] at l;cases l;rw[gE C] at B;cases B;exact⟨u,r,.inr ⟨.inl hk,c,hc,an⟩⟩
   .rw[iz (cK hj)] at B;obtain⟨u',r',q⟩:=hl j y v' l B e3;refine⟨u',r',?_⟩;rcases q with q|⟨k,c',e,z'⟩
    .exact .inl q
    .refine .inr ⟨k,c',e,z'.sameBut f ?_⟩;rintro rfl;exact hj (JO hN l (I.ok.inj _ _ _ e hc ▸ T))
  .by_cases hcc:c'=c
   .subst hcc;exact⟨_,an⟩
   .obtain⟨w2,z2⟩:=I.cell y c' e;exact⟨w2,z2.sameBut f hcc⟩
  .obtain⟨e,n,ne,nf,d⟩:=I.pin p hp;refine⟨(f.2 p.1 ?_).trans e,n,ne,nf,d⟩;intro q;rw[q,O] at e;have q':oc=p.2:=cb e;exact d w' (by rw[<-q'];exact N)
theorem kA{E:ae->af->Prop}{Q:Unit->af->Prop}(I:aM X aa σ H s)(e:X.N.Nodup)(c:X.N[i]?=U x)(b:Loc X.env.scope x)(r:aU v u) (h:∀a,aM X aa (σ.set i (U v)) H a->Q PUnit.unit a) (d:X.fn x=ai\/X.env.scope.names.lookup x=U .local:=by first|exact .inl rfl|exact .inr rfl|assumption):Bf M A (storeName X.env x u) Q E s:=
 zas I e c b r (λa f _=>h a f) d
theorem aM.call'(I:aM X aa σ H s)(f:s'.os=s.os)(u:Un (uc X.stack) ch H H' s.heap s'.heap)(hok:uz X.prog X.w H' s'.heap)(g:AllBare s'.gens) (a:∀b∈ch,(b∈X.ex\/X.s₀.heap.objs.size<=b)/\b≠X.env.locals/\(∀x c,X.env.cells.lookup x=U c->c≠b)/\∀p∈X.pn++aa,p.1≠b):aM X aa σ H' s':=by
 obtain⟨h',g',d',t',d⟩:=s';have e:d=s.os:=f;subst e;exact I.call (g':=g') (t':=t') (d':=d') u hok g a
end
abbrev XK:=ae->Option L->Hp->Prop
abbrev St:=List (Option V)
abbrev VK:=V->Hp->Prop
abbrev TE:=St->Hp->VK->Prop
abbrev TT:=St->Hp->(Bool->Hp->Prop)->Prop
abbrev TA:=St->Hp->(List V->Hp->Prop)->Prop
set_option genSizeOf false in
set_option genInjectivity false in
structure Zn where
 nx:St->Hp->Prop
 rt:VK
 bk:St->Hp->Prop:=λ_ _=>False
 ct:St->Hp->Prop:=λ_ _=>False
abbrev TS:=Zn->St->Hp->Prop
def EP(X:Cx)(d:List (L×Obj))(b:St)(Q:VK)(u:ae)(c:af):Prop:=∃v a,aM X d b a c/\aU v u/\Q v a
def TP(X:Cx)(e:List (L×Obj))(c:St)(Q:Bool->Hp->Prop)(b:Bool)(d:af):Prop:=∃a,aM X e c a d/\Q b a
def AP(X:Cx)(f:List (L×Obj))(c:St)(Q:List V->Hp->Prop)(d:List ae)(e:af):Prop:=∃a b,aM X f c b e/\aQ a d/\Q a b
def SP(X:Cx)(d:List (L×Obj))(D:Zn)(f:Flow)(c:af):Prop :=
 match f with
 |.next=>∃a b,aM X d a b c/\D.nx a b
 |.brk=>∃a b,aM X d a b c/\D.bk a b
 |.cont=>∃a b,aM X d a b c/\D.ct a b
 |.ret u=>∃v a b,aM X d a b c/\aU v u/\D.rt v b
def PE(X:Cx)(e:ay)(t:TE):Prop :=
 ∀(b:List (L×Obj)) (s:af) (a:St) (H:Hp) (Q:VK),aM X b a H s->t a H Q->Bf (Bg X.prog X.w) X.A (eval e X.env) (EP X b a Q) X.xe s
def PT(X:Cx)(e:ay)(t:TT):Prop :=
 ∀(b:List (L×Obj)) (s:af) (a:St) (H:Hp) (Q:Bool->Hp->Prop),aM X b a H s->t a H Q->Bf (Bg X.prog X.w) X.A (isTrue e X.env (eval e X.env)) (TP X b a Q) X.xe s
def PW(X:Cx)(e:ay)(t:TT):Prop :=
 ∀(a:Sem ae) (c:List (L×Obj)) (s:af) (b:St) (H:Hp) (Q:Bool->Hp->Prop),aM X c b H s->t b H Q->Bf (Bg X.prog X.w) X.A (isTrue e X.env a) (TP X c b Q) X.xe s
theorem PW.pt(h:PW X e t):PT X e t:=h _
def PA(X:Cx)(d:List ay)(t:TA):Prop :=
 ∀(b:Pos) (c:List (L×Obj)) (s:af) (a:St) (H:Hp) (Q:List V->Hp->Prop),aM X c a H s->t a H Q->Bf (Bg X.prog X.w) X.A (spliced (backTo b (Be d X.env))) (AP X c a Q) X.xe s
def PS(X:Cx)(st:ar)(t:TS):Prop :=
 ∀(b:List (L×Obj)) (s:af) (a:St) (H:Hp) (D:Zn),aM X b a H s->t D a H->Bf (Bg X.prog X.w) X.A (exec st X.env) (SP X b D) X.xe s
def PSs(X:Cx)(st:List ar)(t:TS):Prop :=
 ∀(b:List (L×Obj)) (s:af) (a:St) (H:Hp) (D:Zn),aM X b a H s->t D a H->Bf (Bg X.prog X.w) X.A (execs st X.env) (SP X b D) X.xe s
theorem aY{b:Type}{t:Sem b}{Q c:b->af->Prop}{E:ae->af->Prop}(h:Bf M A t Q E s)(d:∀a s,Q a s->c a s):Bf M A t c E s:=cU h d λ_ _ x=>x
section
variable {X:Cx}
def Z(i:Nat):TE:=λa H Q=>∃v,a[i]?=U (U v)/\Q v H
def tC(v:V):TE:=λ_ H Q=>Q v H
theorem zle{x:Str}{b:Pos}(o:X.N[i]?=U x)(j:Vis X.env.scope x)(d:(x==("__debug__":Str))=ag:=by lia)(f:(x==("__classdict__":Str))=ag:=by lia):PE X (.Name x b) (Z i):=by
 intro p s g H Q I h;obtain⟨v,e,h⟩:=h;obtain⟨m,k,n⟩:=I.loc;obtain⟨u,r,l⟩:=n i x v o e j;have a:EP X p g Q u s:=⟨v,H,I,r,h⟩;rcases l with ⟨hk,hm⟩|⟨hk,c,hc,hcell⟩
 .exact wpAny_Name (pU I.ok.kind hk k hm a) d
 .rcases hk with hk|hk
  .exact wpAny_Name (wpAny_loadName_cell I.ok.kind hk hc hcell a) d
  .exact wpAny_Name (wpAny_loadName_free I.ok.kind hk hc hcell a f) d
theorem zn{i j pos}:PE X (.Constant (.int i) j pos) (tC (.int i)):=λ_ _ _ H _ I h=>wpAny_Constant_int ⟨.int i,H,I.tok _,⟨_,Y⟩,h⟩
theorem v7{b j pos}:PE X (.Constant (.bool b) j pos) (tC (.bl b)):=λ_ _ _ H _ I h=>Constant_bool ⟨.bl b,H,I,Y,h⟩
theorem wt{j pos}:PE X (.Constant .none j pos) (tC .non):=λ_ _ _ H _ I h=>Constant_none ⟨.non,H,I,Y,h⟩
theorem zC{x j pos}:PE X (.Constant (.str x) j pos) (tC (.str x)):=λ_ _ _ H _ I h=>rH ⟨.str x,H,I.tok _,⟨_,Y⟩,h⟩
def Gl(X:Cx)(x:Str):Prop:=X.env.kindOf x=U .globalImplicit
theorem xy{E:ae->af->Prop}{s:af}{b:St}{H:Hp}{x:Str}{u:ae}{a:Pos}{Q:ae->af->Prop}(I:aM X aa b H s)(d:Gl X x)(c:X.mg x=U u)(h:Q u s) (e:(x==("__debug__":Str))=ag:=by lia):Bf (Bg X.prog X.w) X.A (eval (.Name x a) X.env) Q E s:=
 m8 I.ok.kind d (Calls.loadGlobal_global (by rw[I.ok.glob];exact I.mod.glob.keeps I.bk) c h) e
theorem Zo{E:ae->af->Prop}{s:af}{b:St}{H:Hp}{x:Str}{u:ae}{a:Pos}{Q:ae->af->Prop}(I:aM X aa b H s)(f:Gl X x)(e:X.mg x=ah)(c:Bh x=U u)(h:Q u s) (d:x≠"__name__":=by lia) (g:(x==("__debug__":Str))=ag:=by lia):Bf (Bg X.prog X.w) X.A (eval (.Name x a) X.env) Q E s:=by
 obtain⟨k,j,i⟩:=I.mod.blt;exact m8 I.ok.kind f (Calls.loadGlobal_builtin (by rw[I.ok.glob];exact I.mod.glob.keeps I.bk) e (by rw[I.ok.blt];exact j.keeps I.bk) ((i x d).trans c) h) g
theorem ye(b:Gl X x)(a:X.mg x=U u)(r:aU v u)(c:(x==("__debug__":Str))=ag:=by lia):PE X (.Name x pos) (tC v):=
 λ_ _ _ H _ I h=>xy I b a ⟨v,H,I,r,h⟩ c
theorem YE{x:Str}{a:Pos}(e:Gl X x)(d:X.mg x=ah)(b:Bh x=U u)(r:aU v u)(c:x≠"__name__":=by lia)(f:(x==("__debug__":Str))=ag:=by lia):PE X (.Name x a) (tC v):=
 λ_ _ _ H _ I h=>Zo I e d b ⟨v,H,I,r,h⟩ c f
variable {a b:ay}{ta tb:TE}{pos:Pos}
def tB(t:TE):TT:=λd H Q=>t d H λx e=>∃c,x=.bl c/\Q c e
theorem yz{e:ay}{t:TE}(h:PE X e t)(k:∀c,isTrue e X.env c=(do let v <-c;standAt e.pos;holding [v] (truthy v)):=by intro _;rfl):PT X e (tB t):=by
 intro l s f H Q I j;refine isTrue_plain (aY (h l s f H _ I j) ?_) (k _);rintro v o ⟨x,n,m,g,i⟩;obtain⟨d,rfl,q⟩:=i;cases g;exact fH ⟨n,m,q⟩
variable {tA tB':TT}{rest:List ay}
def zeb(t u:TT):TT:=λd H Q=>t d H λc e=>if c=ai then u d e Q else Q ag e
def tOr(t u:TT):TT:=λd H Q=>t d H λc e=>if c=ai then Q ai e else u d e Q
def Zp(t:TT):TT:=λd H Q=>t d H λc e=>Q (!c) e
theorem zbi(f:PT X a tA):PW X (.BoolOp .And [a] pos) tA:=by
 intro i g s d H Q I h;refine isTrue_and (aY (f g s d H Q I h) λc j e=>?_);cases c with
 |true=>exact isTrue_and_nil e
 |false=>exact e
theorem xX(f:PT X a tA):PW X (.BoolOp .Or [a] pos) tA:=by
 intro i g s d H Q I h;refine isTrue_or (aY (f g s d H Q I h) λc j e=>?_);cases c with
 |false=>exact isTrue_or_nil e
 |true=>exact e
theorem zbj(m:PT X a tA)(l:PW X (.BoolOp .And (b::rest) pos) tB'):PW X (.BoolOp .And (a::b::rest) pos) (zeb tA tB'):=by
 intro j f s d H Q I h;refine isTrue_and (aY (m f s d H _ I h) ?_);rintro c k ⟨i,g,e⟩;cases c with
 |true=>exact l j f k d i Q g e
 |false=>exact⟨i,g,e⟩
theorem wD(m:PT X a tA)(l:PW X (.BoolOp .Or (b::rest) pos) tB'):PW X (.BoolOp .Or (a::b::rest) pos) (tOr tA tB'):=by
 intro j f s d H Q I h;refine isTrue_or (aY (m f s d H _ I h) ?_);rintro c k ⟨i,g,e⟩;cases c with
 |true=>exact⟨i,g,e⟩
 |false=>exact l j f k d i Q g e
theorem jq(e:PT X a tA):PT X (.UnaryOp .Not a pos) (Zp tA):=by
 intro f s d H Q I h;exact isTrue_not (e f s d H (λc g=>Q (!c) g) I h)
def zat(ta tb:TE):TE:=λd H Q=>ta d H λx e=>∃c,x=.bl c/\if c=ai then tb d e Q else Q (.bl ag) e
def zlf(ta tb:TE):TE:=λd H Q=>ta d H λx e=>∃c,x=.bl c/\if c=ai then Q (.bl ai) e else tb d e Q
theorem zbk{op}{t:TE}(h:PE X a t):PE X (.BoolOp op [a] pos) t:=λe s c H Q I d=>BoolOp_one (h e s c H Q I d)
theorem zec(m:PE X a ta)(l:PE X (.BoolOp .And (b::rest) pos) tb):PE X (.BoolOp .And (a::b::rest) pos) (zat ta tb):=by
 intro f s e H Q I h;refine BoolOp_and (aY (m f s e H _ I h) ?_);rintro v j ⟨x,i,g,k,d⟩;obtain⟨c,rfl,d⟩:=d;cases k;refine fH ?_;cases c with
 |true=>exact l f j e i Q g d
 |false=>exact⟨.bl ag,i,g,Y,d⟩
theorem zmi(m:PE X a ta)(l:PE X (.BoolOp .Or (b::rest) pos) tb):PE X (.BoolOp .Or (a::b::rest) pos) (zlf ta tb):=by
 intro f s e H Q I h;refine BoolOp_or (aY (m f s e H _ I h) ?_);rintro v j ⟨x,i,g,k,d⟩;obtain⟨c,rfl,d⟩:=d;cases k;refine fH ?_;cases c with
 |false=>exact l f j e i Q g d
 |true=>exact⟨.bl ai,i,g,Y,d⟩
def tIf(t:TT)(ta tb:TE):TE:=λd H Q=>t d H λc e=>if c=ai then ta d e Q else tb d e Q
theorem kB(l:PT X c tA)(n:PE X a ta)(m:PE X b tb):PE X (.IfExp c a b pos) (tIf tA ta tb):=by
 intro f s e H Q I h;refine wpAny_IfExp (aY (l f s e H _ I h) ?_);rintro d g ⟨k,j,i⟩;cases d with
 |true=>exact n f g e k Q j i
 |false=>exact m f g e k Q j i
end
def aP(K:bo)(H:Hp)(a:L)(c:List V):Prop :=
 Rd H a (.lst c) \/
  ∃(o:Obj) (b:Array ae) (n:Nat),K.lookup a=U o/\o.cls=.type "list"/\o.dict=ah/\o.data=.seq b n/\b.size<=Bb/\aQ c b.toList
def tZ(K:bo)(H:Hp)(a:L)(c:List V):Prop :=
 Rd H a (.tup c) \/
  ∃(o:Obj) (b:Array ae) (n:Nat),K.lookup a=U o/\o.cls=.type "tuple"/\o.data=.seq b n/\b.size<=Bb/\aQ c b.toList
def zmQ:ae->Option V
 |.none=>U .non
 |.bool b=>U (.bl b)
 |.int i _=>U (.int i)
 |.str x _=>U (.str x)
 |.bytes b _=>U (.byt b)
 |.float b _=>U (.flt b)
 |.ref a=>U (.ref a)
 |.type n=>U (.ty n)
 |_=>ah
theorem aU.abs(r:aU x u):zmQ u=U x:=by
 cases x with
 |non=>cases r;rfl
 |bl _=>cases r;rfl
 |int _=>obtain⟨t,rfl⟩:=r;rfl
 |str _=>obtain⟨t,rfl⟩:=r;rfl
 |byt _=>obtain⟨t,rfl⟩:=r;rfl
 |flt _=>obtain⟨t,rfl⟩:=r;rfl
 |ref _=>cases r;rfl
 |ty _=>cases r;rfl
theorem aU.inj(r:aU x u)(q:aU y u):x=y:=cb (r.abs.symm.trans q.abs)
theorem aQ.inj:∀ {b a:List V} {c:List ae},aQ b c->aQ a c->b=a
 |_,_,_,.nil,.nil=>rfl
 |_,_,_,.cons r t,.cons r' t'=>by rw[r.inj r',aQ.inj t t']
section
variable {X:Cx}{aa:List (L×Obj)}{σ:St}{H:Hp}{s:af}{a:L}{xs ys:List V}
theorem aP.of{K:bo}(h:H a=U (.lst xs)):aP K H a xs:=.inl (.inl h)
theorem tZ.of{K:bo}(h:H a=U (.tup xs)):tZ K H a xs:=.inl (.inl h)
theorem aM.list(I:aM X aa σ H s)(h:aP X.K H a xs):∃b:List ae,aQ xs b/\PlainL s.heap a b.toArray/\xs.length<=Bb:=by
 rcases h with h|⟨o,b,n,hk,hc,hd,hs,hz,r⟩
 .obtain⟨z,b,n,r,e⟩:=h.ok I.hok;exact⟨b,r,⟨_,n,e,Y,Y,Y⟩,z⟩
 .refine⟨b.toList,r,⟨o,n,I.kIn a o hk,hc,hd,by simpa using hs⟩,?_⟩;have e:=r.length;simp only[dC] at e;lia
theorem aM.tuple(I:aM X aa σ H s)(h:tZ X.K H a xs):∃b:List ae,aQ xs b/\IsTup s.heap a b.toArray/\xs.length<=Bb:=by
 rcases h with h|⟨o,b,n,hk,hc,hs,hz,r⟩
 .obtain⟨z,b,r,p⟩:=h.ok I.hok;exact⟨b,r,p,z⟩
 .refine⟨b.toList,r,⟨o,I.kIn a o hk,hc,n,by simpa using hs⟩,?_⟩;have e:=r.length;simp only[dC] at e;lia
theorem aM.list_inj(I:aM X aa σ H s)(h:aP X.K H a xs)(k:aP X.K H a ys):xs=ys:=by
 obtain⟨b,r,⟨o,n,e,_,_,d⟩,_⟩:=I.list h;obtain⟨its',j,⟨l,q,f,_,_,g⟩,_⟩:=I.list k;rw[e] at f;cases f;rw[d] at g;injection g with d1 _;have:b=its':=by simpa using congrArg Array.toList d1
 subst this;exact r.inj j
theorem aM.tuple_inj(I:aM X aa σ H s)(h:tZ X.K H a xs)(k:tZ X.K H a ys):xs=ys:=by
 obtain⟨b,r,⟨o,e,_,n,d⟩,_⟩:=I.tuple h;obtain⟨its',j,⟨l,f,_,q,g⟩,_⟩:=I.tuple k;rw[e] at f;cases f;rw[d] at g;injection g with d1 _;have:b=its':=by simpa using congrArg Array.toList d1
 subst this;exact r.inj j
end
abbrev Cx.wish(X:Cx)(E:ae->af->Prop):Cx:={ X with xe:=E }
abbrev Cx.nox(X:Cx):Cx:=X.wish λ_ _=>False
theorem Cx.Ok.wish{X:Cx}(a:X.Ok)(E:ae->af->Prop):(X.wish E).Ok :=
 ⟨a.mod,a.kind,a.glob,a.blt,a.above,a.inj,a.has,a.cab,a.hd,a.frames,a.stk,a.exf,a.bs,a.bsz,a.noex,a.exfs,a.funs,a.frf⟩
theorem Cx.Ok.unwish{X:Cx}{E:ae->af->Prop}(a:(X.wish E).Ok):X.Ok :=
 ⟨a.mod,a.kind,a.glob,a.blt,a.above,a.inj,a.has,a.cab,a.hd,a.frames,a.stk,a.exf,a.bs,a.bsz,a.noex,a.exfs,a.funs,a.frf⟩
section
variable {X:Cx}{aa:List (L×Obj)}{σ:St}{H:Hp}{s:af}{E:ae->af->Prop}
theorem aM.wish(I:aM X aa σ H s)(E:ae->af->Prop):aM (X.wish E) aa σ H s:=⟨I.ok.wish E,I.os,I.bare,I.base,I.loc,I.cell,I.free,I.freeC,I.pin,I.hok,I.len⟩
theorem aM.unwish(I:aM (X.wish E) aa σ H s):aM X aa σ H s:=⟨I.ok.unwish,I.os,I.bare,I.base,I.loc,I.cell,I.free,I.freeC,I.pin,I.hok,I.len⟩
theorem SP.unwish(h:SP (X.wish E) aa D f s'):SP X aa D f s':=by
 cases f with
 |next=>obtain⟨a,b,I,q⟩:=h;exact⟨a,b,I.unwish,q⟩
 |brk=>obtain⟨a,b,I,q⟩:=h;exact⟨a,b,I.unwish,q⟩
 |cont=>obtain⟨a,b,I,q⟩:=h;exact⟨a,b,I.unwish,q⟩
 |ret u=>obtain⟨v,a,b,I,r,q⟩:=h;exact⟨v,a,b,I.unwish,r,q⟩
theorem PSs.nox{a:List ar}{t:TS}(h:PSs X.nox a t):PSs X a t:=λaa s σ H D I b =>
 cU (h aa s σ H D (I.wish _) b) (λ_ _ q=>q.unwish) λ_ _ z=>cx z
end
section
variable {X:Cx}{st:ar}{rest:List ar}{t u:TS}{e:ay}{te:TE}{pos:Pos}
def zH:TS:=λD a H=>D.nx a H
def zo(t u:TS):TS:=λD a H=>t { D with nx:=u D } a H
theorem zz:PSs X [] zH:=λ_ _ a H _ I h=>dF ⟨a,H,I,h⟩
theorem zf(i:PS X st t)(g:PSs X rest u):PSs X (st::rest) (zo t u):=by
 intro b s c H D I h;refine fu (aY (i b s c H { D with nx:=u D } I h) λf d q=>?_);cases f with
 |next =>
  obtain⟨a,k,j,q⟩:=q;exact g b d a k D j q
 |ret v=>exact q
 |brk=>exact q
 |cont=>exact q
theorem zh(b:PS X st t):PSs X [st] t:=by
 intro c s a H D I h;refine fu (aY (b c s a H D I h) λf d q=>?_);cases f with
 |next=>exact dF q
 |ret v=>exact q
 |brk=>exact q
 |cont=>exact q
theorem aM.quiet{σ:St}{H:Hp}{s:af}(I:aM X aa σ H s):interactive X.env=ag:=by simp[interactive,I.ok.kind]
def zT(te:TE):TS:=λD a H=>te a H λ_ b=>D.nx a b
theorem zI(d:PE X e te)(c:swapsWith e ah pos.line X.env=pure ag:=by rfl):PS X (.Expr e pos) (zT te):=by
 intro f s a H D I h;exact pY (aY (d f s a H _ I h) λv j ⟨x,i,g,k,b⟩=>⟨a,i,g,b⟩) I.quiet c
def zD(te:TE):TS:=λD a H=>te a H D.rt
theorem zu(d:PE X e te):PS X (.Return (U e) pos) (zD te):=by
 intro f s a H D I h;exact wpAny_Return_some (aY (d f s a H _ I h) λv j ⟨x,i,g,b,c⟩=>⟨x,a,i,g,b,c⟩)
def zkP:TS:=λD _ H=>D.rt .non H
theorem zjo:PS X (.Return ah pos) zkP:=λ_ _ a H _ I h=>wpAny_Return_none ⟨.non,a,H,I,Y,h⟩
def zO(c:TT)(t u:TS):TS:=λD a H=>c a H λb d=>if b=ai then t D a d else u D a d
theorem zL(m:PT X c tc)(o:PSs X a t)(n:PSs X b u):PS X (.If c a b pos) (zO tc t u):=by
 intro g s f H D I h;refine wpAny_If (aY (m g s f H _ I h) ?_);rintro d i ⟨l,k,j⟩;cases d with
 |true=>exact o g i f l D k j
 |false=>exact n g i f l D k j
def xt:TS:=λ_ _ _=>False
theorem xj:PS X st xt:=λ_ _ _ _ _ _ h=>h.elim
end
abbrev TG:=V->St->Hp->(St->Hp->Prop)->Prop
abbrev TGs:=List V->St->Hp->(St->Hp->Prop)->Prop
def PG(X:Cx)(a:ay)(t:TG):Prop :=
 ∀(d:List (L×Obj)) (s:af) (c:St) (H:Hp) (v:V) (u:ae) (Q:St->Hp->Prop),aM X d c H s->aU v u->t v c H Q ->
  Bf (Bg X.prog X.w) X.A (assign a X.env u) (λ_ f=>∃b e,aM X d b e f/\Q b e) X.xe s
def PGs(X:Cx)(g:List ay)(t:TGs):Prop :=
 ∀(e:List (L×Obj)) (s:af) (b:St) (H:Hp) (c:List V) (d:List ae) (Q:St->Hp->Prop),aM X e b H s->aQ c d->t c b H Q ->
  Bf (Bg X.prog X.w) X.A (assignInOrder ((assignEach g X.env).map (·.2)) d) (λ_ h=>∃a f,aM X e a f h/\Q a f) X.xe s
abbrev TIp:=V->V->Hp->VK->Prop
def PIp(X:Cx)(c:Operator)(t:TIp):Prop :=
 ∀(b:List (L×Obj)) (s:af) (a:St) (H:Hp) (x y:V) (v u:ae) (Q:VK),aM X b a H s->aU x v->aU y u->t x y H Q ->
  Bf (Bg X.prog X.w) X.A (inplaceOp c v u) (EP X b a Q) X.xe s
section
variable {X:Cx}{pos:Pos}
def zq(i:Nat):TG:=λv a H Q=>Q (a.set i (U v)) H
theorem xh(d:X.N.Nodup)(b:X.N[i]?=U x)(a:Loc X.env.scope x)(c:X.fn x=ai\/X.env.scope.names.lookup x=U .local:=by first|exact .inl rfl|exact .inr rfl|assumption):PG X (.Name x pos) (zq i):=by
 intro j s f H v u Q I r h;exact wpAny_assign_Name (kA I d b a r (λg e=>⟨_,H,e,h⟩) c)
def JP:TGs:=λb a H Q=>b=[]/\Q a H
def wI(t:TG)(u:TGs):TGs:=λc b H Q=>∃v r,c=v::r/\t v b H λa d=>u r a d Q
theorem jM:PGs X [] JP:=by
 intro d s a H b c Q I r h;obtain⟨e,h⟩:=h;subst e;cases r;exact assignInOrder_nil ⟨a,H,I,h⟩
theorem yB{e:ay}{a:List ay}{t:TG}{u:TGs}(k:PG X e t)(j:PGs X a u) (i:(assignEach (e::a) X.env).map (·.2)=assign e X.env::(assignEach a X.env).map (·.2):=by rfl):PGs X (e::a) (wI t u):=by
 intro c s d H o q Q I r h;obtain⟨v,p,l,h⟩:=h;subst l;cases r with
 |cons r rr =>
  rw[i];refine assignInOrder_cons (aY (k c s d H _ _ _ I r h) ?_);rintro _ f ⟨b,n,m,g⟩;exact j c f b n _ _ Q m rr g
def JQ(K:bo)(n:Nat)(t:TGs):TG:=λv c H Q=>∃a b,v=.ref a/\tZ K H a b/\b.length=n/\t b c H Q
theorem Zq{c:List ay}{k:Nat}{t:TGs}{n:Nat}(z:X.calm=ai)(h:PGs X c t) (x:(assignEach c X.env).length=n:=by rfl) (f:(assignEach c X.env).findIdx? (·.1)=ah:=by rfl):PG X (.Tuple c k pos) (JQ X.K n t):=by
 intro j s g H v u Q I r d;obtain⟨a,l,B,w,y,d⟩:=d;subst B;cases r;obtain⟨m,i,q,D⟩:=I.tuple w;refine assign_Tuple_tuple (I.ok.hd z) q (by simp[x,<-y,i.length]) f λA p=>?_;have C:aM X j g H { s with heap:=A }:=I.kept (t':=s.toks) λb o e=>p b o (bV (bG e)) e;exact h j _ g H l _ Q C (by simpa using i) d
def zM(b:TE)(g:TG):TS:=λD a H=>b a H λx c=>g x a c D.nx
theorem zbl{a:TE}(k:X.N.Nodup)(g:X.N[i]?=U x)(f:Loc X.env.scope x)(j:PE X e a)(hs:swapsWith e (U (.Name x pos')) pos.line X.env=pure ag:=by rfl)(hf:X.fn x=ai\/X.env.scope.names.lookup x=U .local:=by first|exact .inl rfl|exact .inr rfl|assumption) :
  PS X (.Assign [.Name x pos'] e pos) (zM a (zq i)):=by
 intro l s b H D I h;refine nP (aY (j l s b H _ I h) ?_) hs;rintro v q ⟨y,o,n,c,d⟩;exact kA n k g f c (λp m=>⟨_,o,m,d⟩) hf
def zjp(i:Nat)(c:TE)(b:TIp):TS:=λD a H=>∃x,a[i]?=U (U x)/\c a H λy e=>b x y e λz d=>D.nx (a.set i (U z)) d
theorem zg0{o:TE}{n:TIp}(Q:X.N.Nodup)(p:X.N[i]?=U x)(f:Loc X.env.scope x)(O:PE X e o)(G:PIp X op n)(N:X.fn x=ai\/X.env.scope.names.lookup x=U .local:=by first|exact .inl rfl|exact .inr rfl|assumption) :
  PS X (.AugAssign (.Name x pos') op e pos) (zjp i o n):=by
 intro g s j H D I h;obtain⟨v,T,h⟩:=h;obtain⟨m,J,M⟩:=I.loc;have d:Vis X.env.scope x:=by rcases f with k|k;exact .inl k;exact .inr (.inl k)
 obtain⟨u,r,l⟩:=M i x v p T d;refine wpAny_AugAssign_Name ?_;have q:Bf (Bg X.prog X.w) X.A (eval e X.env) (λw b=>Bf (Bg X.prog X.w) X.A (inplaceOp op u w) (λr a=>Bf (Bg X.prog X.w) X.A (storeName X.env x r) (λ_=>SP X g D .next) X.xe a) X.xe b) X.xe s:=by
  refine aY (O g s j H _ I h) ?_;rintro w t ⟨y,H1,I1,B,E⟩;refine aY (G g t j H1 v y u w _ I1 r B E) ?_;rintro z s2 ⟨zv,H2,I2,A,C⟩;exact kA I2 Q p f A (λs3 I3=>⟨_,H2,I3,C⟩) N
 rcases l with ⟨hk,hm⟩|⟨hk,c,hc,hcell⟩
 .exact pU I.ok.kind hk J hm q
 .rcases hk with hk|hk
  .exact wpAny_loadName_cell I.ok.kind hk hc hcell q
  .rcases f with k|k
   .have:X.env.scope.names.lookup x=U .free:=hk;rw[k] at this;cases this
   .have:X.env.scope.names.lookup x=U .free:=hk;rw[k] at this;cases this
def ipI(f:Int->Int->Int):TIp:=λx y H Q=>∃i j,x=.int i/\y=.int j/\Q (.int (f i j)) H
theorem zg1:PIp X .Add (ipI λi j=>i+j):=by
 intro g s e H x y v u Q I b a h;obtain⟨i,j,d,c,q⟩:=h;subst d;subst c;obtain⟨t,rfl⟩:=b;obtain⟨f,rfl⟩:=a;exact iadd_int ⟨.int _,H,I.tok _,⟨_,Y⟩,q⟩
end
section
variable {X:Cx}{pos:Pos}
def zbm(c:TT)(h:TS):TS:=λD a H=>∃W:Nat->St->Hp->Prop,(∃m,W m a H)/\∀m a H,W m a H ->
 c a H λb f=>if b=ai then ∃N:St->Hp->Prop,(∀d g,N d g->∃e,e<m/\W e d g)/\h { D with nx:=N,ct:=N,bk:=D.nx } a f else D.nx a f
theorem zcD{t:TS}(u:PassesOwn (Bg X.prog X.w) X.A X.env X.xe)(Q:PT X c tc)(T:PSs X body t):PS X (.While c body [] pos) (zbm tc t):=by
 intro q s B H D I h;obtain⟨W,⟨O,E⟩,g⟩:=h;refine wpAny_While (codeAny_whileLoop (λn M=>∃e A,aM X q e A M/\W n e A) ?_ O ⟨B,H,I,E⟩);rintro n J ⟨d,z,I1,C⟩;refine f9 u (aY (Q q J d z _ I1 (g n d z C)) ?_);rintro b G ⟨y,x,k⟩;cases b with
 |true =>
  obtain⟨N,w,k⟩:=k;rw[ao rfl];refine f9 u (aY (T q G d y _ x k) λf s3 j=>?_);cases f with
  |next =>
   obtain⟨a,i,r,m⟩:=j;obtain⟨o,p,l⟩:=w a i m;exact⟨o,p,a,i,r,l⟩
  |cont =>
   obtain⟨a,i,r,m⟩:=j;obtain⟨o,p,l⟩:=w a i m;exact⟨o,p,a,i,r,l⟩
  |brk=>exact j
  |ret v=>exact j
 |false =>
  rw[am bT];exact dF ⟨d,y,x,k⟩
end
set_option genSizeOf false in
set_option genInjectivity false in
structure It where
 go:Nat->Hp->Prop
 yld:Nat->Hp->V->Hp->Prop
 stop:Nat->Hp->Prop
def k7(X:Cx)(a:List (L×Obj))(H:Hp)(b:L):Prop :=
 H b=ah/\b≠X.env.locals/\b ∉ X.fs/\(b∈X.ex\/X.s₀.heap.objs.size<=b)/\(∀x c,X.env.cells.lookup x=U c->c≠b)/\∀p∈X.pn++a,p.1≠b
theorem aM.fpOk{aa:List (L×Obj)}{σ:St}{H d:Hp}{s:af}{b:L}(I:aM X aa σ H s)(a:s.heap.objs.size<=b)(g:d b=ah):k7 X aa d b:=by
 refine⟨g,dP (cq I.lt a),I.nofs a,.inr (cg I.sz a),λx c e z=>?_,λp f z=>?_⟩
 .obtain⟨v,q⟩:=I.cell x c e;exact absurd (cq q.lt (by rw[z];exact a)) (fP _)
 .exact absurd (cq (bG (I.pin p f).1) (by rw[z];exact a)) (fP _)
structure Qz(P:ap)(w:au)(K:bo)(tg:ay)(J:It)(fp:List L)(it:L)(tn:Nat->ax->Prop):Prop where
 mem:it∈fp
 obj:∀i h,tn i h->∀b∈fp,∃o,h.get? b=U o/\∀v,o.data≠.cell v
 keep:∀i h h',tn i h->(∀b∈fp,∀o,h.get? b=U o->h'.get? b=U o)->tn i h'
 item:∀(X:Cx),X.prog=P->X.w=w->X.K=K->X.calm=ai->∀(i:Nat) (aa:List (L×Obj)) (s:af) (σ:St) (H:Hp) (E:ae->af->Prop),aM X aa σ H s->(∀b∈fp,k7 X aa H b)->tn i s.heap->J.go i H ->
  Bf (Bg P w) X.A (pyNext (.ref it)) (λr s1=>∃u,r=U u /\
   Bf (Bg P w) X.A (letOwnedTupleGo tg (.ref it) u) (λ_ s2=>∃x H',aM X aa σ H' s2/\aU x u/\J.yld i H x H'/\tn (i+1) s2.heap/\∀b∈fp,H' b=ah) E s1) E s
 done:∀(X:Cx),X.prog=P->X.w=w->X.K=K->X.calm=ai->∀(i:Nat) (aa:List (L×Obj)) (s:af) (σ:St) (H:Hp) (E:ae->af->Prop),aM X aa σ H s->(∀b∈fp,k7 X aa H b)->tn i s.heap->J.stop i H ->
  Bf (Bg P w) X.A (pyNext (.ref it)) (λr s1=>r=ah/\aM X aa σ H s1) E s
 self:∀(A:aq) (i:Nat) (s:af) (Q:ae->af->Prop) (E:ae->af->Prop),tn i s.heap->Q (.ref it) s->Bf (Bg P w) A (pyIter (.ref it)) Q E s
abbrev TI:=St->Hp->(It->Hp->Prop)->Prop
def PIE(X:Cx)(h:List (L×Obj))(i:St)(j:ay)(R:It->Hp->Prop)(a:ae)(e:af):Prop :=
 ∃(f:L) (g:List L) (d:Nat->ax->Prop) (J:It) (c:Hp),a=.ref f/\aM X h i c e/\Qz X.prog X.w X.K j J g f d/\d 0 e.heap/\(∀b∈g,k7 X h c b)/\R J c
def PI(X:Cx)(e a:ay)(d:TI):Prop :=
 ∀(c:List (L×Obj)) (s:af) (b:St) (H:Hp) (R:It->Hp->Prop),aM X c b H s->d b H R ->
  Bf (Bg X.prog X.w) X.A (eval a X.env) (λv f=>Bf (Bg X.prog X.w) X.A (pyIter v) (PIE X c b e R) X.xe f) X.xe s
theorem JR{E:ae->af->Prop}{Q:Unit->af->Prop}(b:s.heap.get? it=U o)(e:o.cls=.type n)(d:o.data=.fields vs) (c:["enumerate","zip","dict_itemiterator","dict_reverseitemiterator","odict_iterator","itertools.zip_longest","itertools.pairwise"].contains n=ag) (a:Q PUnit.unit s):Bf M A (letOwnedTupleGo tg (.ref it) u) Q E s:=by
 unfold letOwnedTupleGo;cases tg <;> first
  |exact bf a
  | (cases u <;> first
      |exact bf a
      | (refine ba (nQ b ?_)
         rw[e,d];show Bf M A (if (["enumerate","zip","dict_itemiterator","dict_reverseitemiterator","odict_iterator","itertools.zip_longest","itertools.pairwise"].contains n&&vs[0]?==U (rawInt _))=ai then _ else _) Q E s;rw[am (by intro h;rw[c,pZ] at h;cases h)];exact bf a))
def Itl(K:bo)(a:L):It :=
 ⟨λi H=>∃b x,aP K H a b/\b[i]?=U x,λi H x c=>c=H/\∀b,aP K H a b->b[i]?=U x,λi H=>∃b,aP K H a b/\b.length<=i⟩
def Itt(K:bo)(a:L):It :=
 ⟨λi H=>∃b x,tZ K H a b/\b[i]?=U x,λi H x c=>c=H/\∀b,tZ K H a b->b[i]?=U x,λi H=>∃b,tZ K H a b/\b.length<=i⟩
def Itr(lo:Int)(n:Nat):It:=⟨λi _=>i<n,λi H x a=>a=H/\x=.int (lo+i),λi _=>n<=i⟩
theorem zf4{P:ap}{w:au}{K:bo}{tg:ay}(a it:L):Qz P w K tg (Itl K a) [it] it (λi h=>h.IsListIter it a i) where
 mem:=by simp
 obj:=λi h f b g=>by
  have e:b=it:=by simpa using g
  subst e;obtain⟨o,e,c,d⟩:=f;exact⟨o,e,λv z=>by rw[d] at z;cases z⟩
 keep:=λi h n f k=>f.at λo e=>k it (by simp) o e
 item:=by
  intro X B y C Q i T s O H E I m f A;subst B y C;obtain⟨xs,x,l,t⟩:=A;obtain⟨r,q,p,hz⟩:=I.list l;obtain⟨u,hu,ru⟩:=q.get t;obtain⟨N,M,f2,J,G,D⟩:=m it (by simp);refine oR f p.isList (x:=u) (by simpa using hu) λn j sb=>?_;have I1:aM X T O H { s with heap:=n }:=I.turned (t':=s.toks) (λb o g e=>(sb.2 b g).trans e) N M J G D;obtain⟨o,e,c,d⟩:=id j;exact⟨u,Y,JR (s:={ s with heap:=n }) e c d () ⟨x,H,I1,ru,⟨rfl,λys hy=>by rw[I.list_inj hy l];exact t⟩,j,λb g=>(m b g).1⟩⟩
 done:=by
  intro X B y C Q i T s O H E I m f A;subst B y C;obtain⟨xs,l,t⟩:=A;obtain⟨r,q,p,hz⟩:=I.list l;obtain⟨N,M,f2,J,G,D⟩:=m it (by simp);have hl:=q.length;exact pk (I.ok.hd Q) f p.isList (by simp;lia) λn eb=>⟨Y,I.turned (t':=s.toks) (λb o g e=>eb b o g e) N M J G D⟩
 self:=λ_ _ _ _ _ f h=>wpAny_pyIter_listiter f h
theorem zed{P:ap}{w:au}{K:bo}{tg:ay}(a it:L):Qz P w K tg (Itt K a) [it] it (λi h=>h.IsTupleIter it a i) where
 mem:=by simp
 obj:=λi h f b j=>by
  have e:b=it:=by simpa using j
  subst e;obtain⟨o,e,c,d⟩:=f;exact⟨o,e,λv z=>by rw[d] at z;cases z⟩
 keep:=λi h q f k=>f.at λo e=>k it (by simp) o e
 item:=by
  intro X B y C Q i T s O H E I n f A;subst B y C;obtain⟨xs,x,m,t⟩:=A;obtain⟨g,r,p,hz⟩:=I.tuple m;obtain⟨u,hu,ru⟩:=r.get t;obtain⟨N,M,f2,J,G,D⟩:=n it (by simp);refine wpAny_pyNext_tuple_item f (show s.heap.IsTuple a g.toArray from p) (x:=u) (by simpa using hu) λq l sb=>?_;have I1:aM X T O H { s with heap:=q }:=I.turned (t':=s.toks) (λb o j e=>(sb.2 b j).trans e) N M J G D;obtain⟨o,e,c,d⟩:=id l;exact⟨u,Y,JR (s:={ s with heap:=q }) e c d () ⟨x,H,I1,ru,⟨rfl,λys hy=>by rw[I.tuple_inj hy m];exact t⟩,l,λb j=>(n b j).1⟩⟩
 done:=by
  intro X B y C Q i T s O H E I n f A;subst B y C;obtain⟨xs,m,t⟩:=A;obtain⟨g,r,p,hz⟩:=I.tuple m;obtain⟨N,M,f2,J,G,D⟩:=n it (by simp);have hl:=r.length;exact wpAny_pyNext_tuple_end (I.ok.hd Q) f (show s.heap.IsTuple a g.toArray from p) (by simp;lia) λq eb=>⟨Y,I.turned (t':=s.toks) (λb o j e=>eb b o j e) N M J G D⟩
 self:=λ_ _ _ _ _ f h=>wpAny_pyIter_tupleiter f h
theorem zee{P:ap}{w:au}{K:bo}{J:ay}(it:L)(lo:Int)(n:Nat):Qz P w K J (Itr lo n) [it] it (λi h=>IsRangeIter h it (lo+(i:Nat)*1) ((n:Int)-(i:Nat)) 1) where
 mem:=by simp
 obj:=λi h a b c=>by
  have e:b=it:=by simpa using c
  subst e;exact⟨_,a,λv z=>by
   have G:sV _=Data.cell v:=z;cases G⟩
 keep:=λi h g a k=>k it (by simp) _ a
 item:=by
  intro X p j q m i D s B H E I f a l;subst p j q;obtain⟨A,y,O,x,u,r⟩:=f it (by simp);have W:=Walks.range (prog:=X.prog) (w:=X.w) (I.ok.hd m) it lo 1 n;refine W.item i s _ _ l a λv g C N d M=>?_;obtain⟨t,rfl⟩:=N;have T:aM X D B H { s with heap:=g,toks:=C }:=I.turned (λb o c e=>M b o (by simpa using c) e) A y x u r;refine⟨_,Y,JR (s:={ s with heap:=g,toks:=C }) (n:="range_iterator") d rfl rfl () ⟨.int (lo+i),H,T,⟨t,?_⟩,⟨rfl,rfl⟩,d,λb c=>(f b c).1⟩⟩;rw[Int.mul_one]
 done:=by
  intro X p j q m i D s B H E I f a l;subst p j q;obtain⟨A,y,O,x,u,r⟩:=f it (by simp);exact oS (I.ok.hd m) a (by have:n<=i:=l;lia) λg Q=>⟨Y,I.turned (t':=s.toks) (λb o c e=>Q b o c e) A y x u r⟩
 self:=λ_ _ _ _ _ a h=>oU a h
section
variable {X:Cx}{tg:ay}
def xz(K:bo)(e:TE):TI:=λc H R=>e c H λx b=>∃a,x=.ref a/\(∃d,aP K b a d)/\R (Itl K a) b
def zlg(K:bo)(e:TE):TI:=λc H R=>e c H λx b=>∃a,x=.ref a/\(∃d,tZ K b a d)/\R (Itt K a) b
theorem yM{f:TE}(n:PE X l f):PI X tg l (xz X.K f):=by
 intro t s g H R I h;refine aY (n t s g H _ I h) ?_;rintro v c ⟨x,u,d,i,j⟩;obtain⟨a,e,⟨w,m⟩,q⟩:=j;subst e;cases i;obtain⟨k,y,p,z⟩:=d.list m;refine ii p.isList ?_;refine⟨c.heap.objs.size,[c.heap.objs.size],_,_,u,Y,d.kept (t':=c.toks) λb o e=>bc _ e,zf4 a _,⟨_,bp _ Y,Y,Y⟩,λb r=>?_,q⟩;have e:b=c.heap.objs.size:=by simpa using r
 subst e;exact d.fpOk (br _) (d.hok.fresh (br _))
theorem zg2{g:TE}(n:PE X l g):PI X tg l (zlg X.K g):=by
 intro t s i H R I h;refine aY (n t s i H _ I h) ?_;rintro v c ⟨x,u,d,j,k⟩;obtain⟨a,e,⟨w,m⟩,q⟩:=k;subst e;cases j;obtain⟨f,y,p,z⟩:=d.tuple m;refine wpAny_pyIter_tuple (show c.heap.IsTuple a f.toArray from p) ?_;refine⟨c.heap.objs.size,[c.heap.objs.size],_,_,u,Y,d.kept (t':=c.toks) λb o e=>bc _ e,zed a _,⟨_,bp _ Y,Y,Y⟩,λb r=>?_,q⟩;have e:b=c.heap.objs.size:=by simpa using r
 subst e;exact d.fpOk (br _) (d.hok.fresh (br _))
theorem zg3{c:St}{H:Hp}{s:af}{R:It->Hp->Prop}{E:ae->af->Prop}{lo a:Int}{t u v:Tok}{d:Nat}(I:aM X aa c H s)(k:-(2^62)<=lo)(j:lo<2^62)(i:-(2^62)<=a)(h:a<2^62) (q:R (Itr lo (a-lo).toNat) H):Bf (Bg X.prog X.w) X.A (pyIter (.ref s.heap.objs.size)) (PIE X aa c tg R) E { s with heap:=s.heap.push { cls:=.type "range",data:=.fields #[.int lo t,.int a u,.int 1 v] },toks:=d }:=by
 refine wpAny_pyIter_range (IsRange.new ..) (small_one k j i h) ?_;have f:aM X aa c H { s with heap:=s.heap.push { cls:=.type "range",data:=.fields #[.int lo t,.int a u,.int 1 v] },toks:=d }:=I.kept λb o e=>bc _ e;refine⟨(s.heap.push { cls:=.type "range",data:=.fields #[.int lo t,.int a u,.int 1 v] }).objs.size,[(s.heap.push { cls:=.type "range",data:=.fields #[.int lo t,.int a u,.int 1 v] }).objs.size],_,_,H,Y,
  f.kept (t':=d) λb o e=>bc _ e,zee _ lo (a-lo).toNat,?_,λb g=>?_,q⟩
 .have m:lo+((0:Nat):Int)*1=lo:=by simp
  have l:(((a-lo).toNat:Nat):Int)-((0:Nat):Int)=lf lo a 1:=by rw[rangeSize_one];split <;> lia
  show IsRangeIter _ _ (lo+((0:Nat):Int)*1) ((((a-lo).toNat:Nat):Int)-((0:Nat):Int)) 1;rw[m,l];exact bp _ rfl
 .have e:b=(s.heap.push { cls:=.type "range",data:=.fields #[.int lo t,.int a u,.int 1 v] }).objs.size:=by simpa using g
  subst e;exact f.fpOk (br _) (f.hok.fresh (br _))
def zg4(c:TA):TI:=λa H R=>c a H λb d=>∃j:Int,b=[.int j]/\-(2^62)<=j/\j<2^62/\R (Itr 0 j.toNat) d
theorem zf5{c:TA}(l:Gl X "range")(k:X.mg "range"=ah)(m:PA X [a] c)(i:Be [a] X.env=[(ag,eval a X.env)]:=by rfl):PI X tg (.Call (.Name "range" p) [a] [] pos) (zg4 c):=by
 intro n s d H R I h;refine Call_ (Zo I l k boot_range (dQ (aY (m pos n s d H _ I h) ?_) i Y));rintro v w ⟨u,x,o,f,b⟩;obtain⟨j,e,b,g,q⟩:=b;subst e;cases f with
 |cons r rr =>
  cases rr;obtain⟨t,rfl⟩:=r;exact call_range_1 (zg3 o () () b g (by simpa using q))
def kC(f:TI)(g:TG)(h:TS):TS:=λD a H=>f a H λJ k=>∃W:Nat->Nat->St->Hp->Prop,(∃m,W 0 m a k)/\∀i m a H,W i m a H ->
 (J.stop i H/\D.nx a H)\/(J.go i H/\∃N:St->Hp->Prop,(∀b c,N b c->∃e,e<m/\W (i+1) e b c)/\∀x c,J.yld i H x c->g x a c λd j=>h { D with nx:=N,ct:=N,bk:=D.nx } d j)
def JS(a:List L)(h:ax):List (L×Obj):=a.filterMap λb=>(h.get? b).map λo=>(b,o)
theorem k9(a:b∈fp)(e:h.get? b=U o):(b,o)∈JS fp h:=fk.mpr ⟨b,a,by rw[e];rfl⟩
theorem zf6(a:p∈JS fp h):p.1∈fp/\h.get? p.1=U p.2:=by
 obtain⟨b,c,e⟩:=List.mem_filterMap.mp a;cases q:h.get? b with
 |none=>rw[q] at e;cases e
 |some o =>
  rw[q] at e;have d:(b,o)=p:=cb e;subst d;exact⟨c,q⟩
theorem aM.pinned{σ:St}{H:Hp}{s:af}{a:List L}(I:aM X aa σ H s)(k:∀b∈a,k7 X aa H b)(j:∀b∈a,∃o,s.heap.get? b=U o/\∀v,o.data≠.cell v):aM X (aa++JS a s.heap) σ H s:=
 I.pins_of λp h=>(cj.mp h).elim (λz=>I.pin p (bP _ z)) λz=>by
  obtain⟨f,e⟩:=zf6 z;obtain⟨q,n,l,_⟩:=k p.1 f;obtain⟨o,g,d⟩:=j p.1 f;rw[e] at g;cases g;exact⟨e,q,n,l,d⟩
theorem aM.unpinned{σ:St}{H:Hp}{s:af}(I:aM X (aa++pl) σ H s):aM X aa σ H s:=I.pins_of λp a=>I.pin p (bP _ (cR _ a))
theorem xY{wi:TI}{g:TG}{tb:TS}(E:PassesOwn (Bg X.prog X.w) X.A X.env X.xe)(hc:X.calm=ai)(hi:PI X tg iter wi)(hg:PG X tg g)(l:PSs X body tb) (hs:∀x,foldedSetIterable iter X.env x=pure x:=by intro _;rfl):PS X (.For tg iter body [] pos) (kC wi g tb):=by
 intro z s σ H D I h;refine wpAny_For (aY (hi z s σ H _ I h) λv s1 h1=>aY h1 λaw s2 h2=>?_) hs;obtain⟨it,M,tn,J,H2,e,I2,T,al,f2,W,⟨m0,w0⟩,A⟩:=h2;subst e
 -- what stays ai of the iterator's objects through the loop
 have k:∀ {H':Hp},(∀b∈M,H' b=ah)->∀b∈M,k7 X z H' b:=λhn b l=>⟨hn b l,(f2 b l).2⟩;refine codeAny_forLoop_any (λn s'=>∃i j H',aM X z j H' s'/\tn i s'.heap/\(∀b∈M,H' b=ah)/\W i n j H') ?_ m0 ⟨0,σ,H2,I2,al,λb l=>(f2 b l).1,w0⟩;rintro n s3 ⟨i,c,O,I3,B,G,w3⟩;rcases A i n c O w3 with ⟨stop,qn⟩|⟨go,N,hN,step⟩
 .refine f9 E (aY (T.done X Y Y Y hc i z s3 c O X.xe I3 (k G) B stop) ?_);rintro r s4 ⟨hr,I4⟩;subst hr;exact dF ⟨c,O,I4,qn⟩
 .refine f9 E (aY (T.item X Y Y Y hc i z s3 c O X.xe I3 (k G) B go) ?_);rintro r s4 ⟨u,hr,h4⟩;subst hr;refine f9 E (aY h4 ?_);rintro _ s5 ⟨x,H5,I5,r5,y5,y,an⟩;have av:=I5.pinned (k an) (T.obj _ _ y);refine f9 E (aY (hg _ s5 c H5 x u _ av r5 (step x H5 y5)) ?_);rintro _ s6 ⟨Q,H6,I6,q6⟩;refine f9 E (aY (l _ s6 Q H6 _ I6 q6) λf s7 w=>?_);have p:∀ {a:St} {t:Hp},aM X (z++JS M s5.heap) a t s7->N a t->∃m,m<n/\∃i j H',aM X z j H' s7/\tn i s7.heap/\(∀b∈M,H' b=ah)/\W i m j H':=λ{a t} q C=>by
   obtain⟨m',hm,w7⟩:=hN a t C;refine⟨m',hm,i+1,a,t,q.unpinned,T.keep _ _ _ y λb l o e=>(q.pin (b,o) (bP _ (bP _ (k9 l e)))).1,λb l=>?_,w7⟩;obtain⟨o,e,d⟩:=T.obj _ _ y b l;exact(q.pin (b,o) (bP _ (bP _ (k9 l e)))).2.1
  cases f with
  |next=>obtain⟨a,t,q,C⟩:=w;exact p q C
  |cont=>obtain⟨a,t,q,C⟩:=w;exact p q C
  |brk=>obtain⟨a,t,q,w⟩:=w;exact⟨a,t,q.unpinned,w⟩
  |ret v=>obtain⟨x7,a,t,q,r7,w⟩:=w;exact⟨x7,a,t,q.unpinned,r7,w⟩
end
abbrev R2:=V->V->Hp->VK->Prop
def ux(X:Cx)(f:ae->ae->Sem ae)(r:R2):Prop :=
 ∀(b:List (L×Obj)) (s:af) (a:St) (H:Hp) (x y:V) (v u:ae) (Q:VK),aM X b a H s->aU x v->aU y u->r x y H Q ->
  Bf (Bg X.prog X.w) X.A (f v u) (EP X b a Q) X.xe s
def UnR(X:Cx)(f:ae->Sem ae)(r:V->Hp->VK->Prop):Prop :=
 ∀(b:List (L×Obj)) (s:af) (a:St) (H:Hp) (x:V) (v:ae) (Q:VK),aM X b a H s->aU x v->r x H Q ->
  Bf (Bg X.prog X.w) X.A (f v) (EP X b a Q) X.xe s
def xV(X:Cx)(f:ae)(r:List V->Hp->VK->Prop):Prop :=
 ∀(d:List (L×Obj)) (s:af) (a:St) (H:Hp) (b:List V) (c:List ae) (Q:VK),aM X d a H s->aQ b c->r b H Q ->
  Bf (Bg X.prog X.w) X.A (call f c) (EP X d a Q) X.xe s
def aN(r:R2)(c b:TE):TE:=λa H Q=>c a H λx e=>b a e λy d=>r x y d Q
def tUn(r:V->Hp->VK->Prop)(b:TE):TE:=λa H Q=>b a H λx c=>r x c Q
def rI(C:Int->Int->Prop)(g:Int->Int->V):R2:=λx y H Q=>∃i j,x=.int i/\y=.int j/\C i j/\Q (g i j) H
def ur(g:Int->Int->V):R2:=λx y H Q=>∃i j,x=.int i/\y=.int j/\Q (g i j) H
def rU(g:Int->V):V->Hp->VK->Prop:=λx H Q=>∃i,x=.int i/\Q (g i) H
section
variable {X:Cx}{a b c:ay}{ta tb tc:TE}{pos:Pos}
theorem zlh(t:PE X a ta)(r:PE X b tb){s:af}{d:St}{H:Hp}{R:V->V->Hp->Prop}(I:aM X aa d H s) (h:ta d H λx k=>tb d k λy e=>R x y e) {Q:ae->af->Prop} {f:ae->ae->Sem ae}
  (q:∀v u j x y e,aM X aa d e j->aU x v->aU y u->R x y e->Bf (Bg X.prog X.w) X.A (f v u) Q X.xe j) :
  Bf (Bg X.prog X.w) X.A (eval a X.env) (λv i=>Bf (Bg X.prog X.w) X.A (eval b X.env) (λu g=>Bf (Bg X.prog X.w) X.A (f v u) Q X.xe g) X.xe i) X.xe s:=by
 refine aY (t aa s d H _ I h) ?_;rintro v l ⟨x,k,z,n,p⟩;refine aY (r aa l d k _ z p) ?_;rintro u j ⟨y,e,w,m,o⟩;exact q v u j x y e w n m o
theorem zS{r:R2}(i:ux X (binaryOp op) r)(k:PE X a ta)(j:PE X b tb):PE X (.BinOp a op b pos) (aN r ta tb):=by
 intro l s d H Q I h;exact wpAny_BinOp (zlh k j I h λv u e x y n m g f q=>i l e d n x y v u Q m g f q)
theorem Y0{r:V->Hp->VK->Prop}(j:UnR X (unaryOp op) r)(k:PE X a ta):PE X (.UnaryOp op a pos) (tUn r ta):=by
 intro e s d H Q I h;exact UnaryOp_ (aY (k e s d H _ I h) λv f ⟨x,m,l,g,i⟩=>j e f d m x v Q l g i)
theorem opI{f:ae->ae->Sem ae}{C:Int->Int->Prop}{g:Int->Int->Int}
  (rule:∀(i j:Int) (t u:Tok) (s:af) (Q:ae->af->Prop) (E:ae->af->Prop),C i j->Q (.int (g i j) s.toks) { s with toks:=s.toks+1 }->Bf (Bg X.prog X.w) X.A (f (.int i t) (.int j u)) Q E s) :
  ux X f (rI C λi j=>.int (g i j)):=by
 intro n s m H x y v u Q I k e h;obtain⟨i,j,rfl,rfl,l,q⟩:=h;obtain⟨t,rfl⟩:=k;obtain⟨d,rfl⟩:=e;exact rule i j t d s _ _ l ⟨.int (g i j),H,I.tok _,⟨_,Y⟩,q⟩
theorem zmj{f:ae->ae->Sem ae}{g:Int->Int->Int}
  (rule:∀(i j:Int) (t u:Tok) (s:af) (Q:ae->af->Prop) (E:ae->af->Prop),Q (.int (g i j) s.toks) { s with toks:=s.toks+1 }->Bf (Bg X.prog X.w) X.A (f (.int i t) (.int j u)) Q E s) :
  ux X f (ur λi j=>.int (g i j)):=by
 intro m s l H x y v u Q I k e h;obtain⟨i,j,rfl,rfl,q⟩:=h;obtain⟨t,rfl⟩:=k;obtain⟨d,rfl⟩:=e;exact rule i j t d s _ _ ⟨.int (g i j),H,I.tok _,⟨_,Y⟩,q⟩
theorem zjq{f:ae->ae->Sem ae}{g:Int->Int->Bool}
  (rule:∀(i j:Int) (t u:Tok) (s:af) (Q:ae->af->Prop) (E:ae->af->Prop),Q (.bool (g i j)) s->Bf (Bg X.prog X.w) X.A (f (.int i t) (.int j u)) Q E s) :
  ux X f (ur λi j=>.bl (g i j)):=by
 intro m s l H x y v u Q I k e h;obtain⟨i,j,rfl,rfl,q⟩:=h;obtain⟨t,rfl⟩:=k;obtain⟨d,rfl⟩:=e;exact rule i j t d s _ _ ⟨.bl (g i j),H,I,Y,q⟩
def zef(i j:Int):Prop:=0<=j/\j<=1000000/\i.natAbs<2^64
theorem xZ:ux X (binaryOp .Add) (ur λi j=>.int (i+j)):=zmj λ_ _ _ _ _ _ _ q=>add_int q
theorem zbn:ux X (binaryOp .Sub) (ur λi j=>.int (i-j)):=zmj λ_ _ _ _ _ _ _ q=>sub_int q
theorem wY:ux X (binaryOp .Mod) (rI (λ_ j=>0<j) λi j=>.int (i%j)):=opI λi j _ _ _ _ _ d q=>by
 have e:(0:Int)<j:=d;exact mod_int' () (by rw[Int.fmod_eq_emod_of_nonneg i ()];exact q)
theorem JT:ux X (binaryOp .Pow) (rI zef λi j=>.int (i^j.toNat)):=opI λ_ _ _ _ _ _ _ d q=>pow_int_small d.1 d.2.1 d.2.2 q
theorem unI{f:ae->Sem ae}{g:Int->Int}
  (rule:∀(i:Int) (t:Tok) (s:af) (Q:ae->af->Prop) (E:ae->af->Prop),Q (.int (g i) s.toks) { s with toks:=s.toks+1 }->Bf (Bg X.prog X.w) X.A (f (.int i t)) Q E s) :
  UnR X f (rU λi=>.int (g i)):=by
 intro j s e H x v Q I d h;obtain⟨i,rfl,q⟩:=h;obtain⟨t,rfl⟩:=d;exact rule i t s _ _ ⟨.int (g i),H,I.tok _,⟨_,Y⟩,q⟩
theorem j9:UnR X (unaryOp .USub) (rU λi=>.int (-i)):=unI λ_ _ _ _ _ q=>neg_int q
end
def qa:V->V->Bool
 |.non,.non=>ai|.non,.int _=>ai|.int _,.non=>ai|.non,.bl _=>ai|.bl _,.non=>ai|.non,.str _=>ai|.str _,.non=>ai
 |.int _,.int _=>ai|.bl _,.bl _=>ai|.str _,.str _=>ai|.byt _,.byt _=>ai
 |.int _,.str _=>ai|.str _,.int _=>ai|.bl _,.str _=>ai|.str _,.bl _=>ai
 |_,_=>ag
def uk:R2:=λx y H Q=>qa x y=ai/\Q (.bl (decide (x=y))) H
def uF:R2:=λx y H Q=>qa x y=ai/\Q (.bl (!decide (x=y))) H
theorem zfd{i j:Int}:decide (V.int i=V.int j)=(i==j):=by
 rw[mR];simp
theorem zg5 :decide (V.bl i=V.bl j)=(i==j):=by
 rw[mR];simp
theorem zfe :decide (V.str i=V.str j)=(i==j):=by
 rw[mR];simp
theorem zff :decide (V.byt i=V.byt j)=(i.toList==j.toList):=by
 rw[mR];cases i;cases j;simp
section
variable {X:Cx}{a b c:ay}{ta tb tc:TE}{pos:Pos}
theorem yd{d:St}{H:Hp}{s:af}{Q:VK}{k f:Bool}(I:aM X aa d H s)(q:Q (.bl k) H)(e:k=f):EP X aa d Q (.bool f) s:=by
 subst e;exact⟨.bl k,H,I,Y,q⟩
theorem yS:ux X (Bi .Eq) uk:=by
 intro l s k H x y v u Q I g d h;obtain⟨f,q⟩:=h;cases x with
 |non =>
  cases g;cases y with
  |non=>cases d;exact PySem.EqNone.eq_none_none (yd I q (by simp))
  |bl j=>cases d;exact PySem.EqNone.eq_none_bool (yd I q (by simp))
  |int j=>obtain⟨e,rfl⟩:=d;exact PySem.EqNone.eq_none_int (yd I q (by simp))
  |str j=>obtain⟨e,rfl⟩:=d;exact PySem.EqNone.eq_none_str (yd I q (by simp))
  |_=>exact absurd (show ag=ai from f) bT
 |bl i =>
  cases g;cases y with
  |non=>cases d;exact PySem.EqNone.eq_bool_none (yd I q (by simp))
  |bl j=>cases d;exact eq_bool (yd I q zg5)
  |str j=>obtain⟨e,rfl⟩:=d;exact PySem.EqMixed.eq_bool_str (yd I q (by simp))
  |_=>exact absurd (show ag=ai from f) bT
 |int i =>
  obtain⟨t,rfl⟩:=g;cases y with
  |non=>cases d;exact PySem.EqNone.eq_int_none (yd I q (by simp))
  |int j=>obtain⟨e,rfl⟩:=d;exact eq_int (yd I q zfd)
  |str j=>obtain⟨e,rfl⟩:=d;exact PySem.EqMixed.eq_int_str (yd I q (by simp))
  |_=>exact absurd (show ag=ai from f) bT
 |str i =>
  obtain⟨t,rfl⟩:=g;cases y with
  |non=>cases d;exact PySem.EqNone.eq_str_none (yd I q (by simp))
  |bl j=>cases d;exact PySem.EqMixed.eq_str_bool (yd I q (by simp))
  |int j=>obtain⟨e,rfl⟩:=d;exact PySem.EqMixed.eq_str_int (yd I q (by simp))
  |str j=>obtain⟨e,rfl⟩:=d;exact eq_str (yd I q zfe)
  |_=>exact absurd (show ag=ai from f) bT
 |byt i =>
  obtain⟨t,rfl⟩:=g;cases y with
  |byt j=>obtain⟨e,rfl⟩:=d;exact W.eq_bytes (yd I q zff)
  |_=>exact absurd (show ag=ai from f) bT
 |_=>cases y <;> exact absurd (show ag=ai from f) bT
theorem wE:ux X (Bi .NotEq) uF:=by
 intro l s k H x y v u Q I g d h;obtain⟨f,q⟩:=h;cases x with
 |non =>
  cases g;cases y with
  |non=>cases d;exact PySem.EqNone.ne_none_none (yd I q (by simp))
  |bl j=>cases d;exact PySem.EqNone.ne_none_bool (yd I q (by simp))
  |int j=>obtain⟨e,rfl⟩:=d;exact PySem.EqNone.ne_none_int (yd I q (by simp))
  |str j=>obtain⟨e,rfl⟩:=d;exact PySem.EqNone.ne_none_str (yd I q (by simp))
  |_=>exact absurd (show ag=ai from f) bT
 |bl i =>
  cases g;cases y with
  |non=>cases d;exact PySem.EqNone.ne_bool_none (yd I q (by simp))
  |bl j=>cases d;exact ne_bool (yd I q (congrArg not zg5))
  |str j=>obtain⟨e,rfl⟩:=d;exact PySem.EqMixed.ne_bool_str (yd I q (by simp))
  |_=>exact absurd (show ag=ai from f) bT
 |int i =>
  obtain⟨t,rfl⟩:=g;cases y with
  |non=>cases d;exact PySem.EqNone.ne_int_none (yd I q (by simp))
  |int j=>obtain⟨e,rfl⟩:=d;exact ne_int (yd I q (congrArg not zfd))
  |str j=>obtain⟨e,rfl⟩:=d;exact PySem.EqMixed.ne_int_str (yd I q (by simp))
  |_=>exact absurd (show ag=ai from f) bT
 |str i =>
  obtain⟨t,rfl⟩:=g;cases y with
  |non=>cases d;exact PySem.EqNone.ne_str_none (yd I q (by simp))
  |bl j=>cases d;exact PySem.EqMixed.ne_str_bool (yd I q (by simp))
  |int j=>obtain⟨e,rfl⟩:=d;exact PySem.EqMixed.ne_str_int (yd I q (by simp))
  |str j=>obtain⟨e,rfl⟩:=d;exact ne_str (yd I q (congrArg not zfe))
  |_=>exact absurd (show ag=ai from f) bT
 |byt i =>
  obtain⟨t,rfl⟩:=g;cases y with
  |byt j=>obtain⟨e,rfl⟩:=d;exact W.ne_bytes (yd I q (congrArg not zff))
  |_=>exact absurd (show ag=ai from f) bT
 |_=>cases y <;> exact absurd (show ag=ai from f) bT
theorem zau:ux X (Bi .Lt) (ur λi j=>.bl (decide (i<j))):=zjq λ_ _ _ _ _ _ _ q=>lt_int q
theorem zkQ:ux X (Bi .LtE) (ur λi j=>.bl (decide (i<=j))):=zjq λ_ _ _ _ _ _ _ q=>le_int q
theorem zcE:ux X (Bi .Gt) (ur λi j=>.bl (decide (j<i))):=zjq λ_ _ _ _ _ _ _ q=>gt_int q
theorem zfg:ux X (Bi .GtE) (ur λi j=>.bl (decide (j<=i))):=zjq λ_ _ _ _ _ _ _ q=>ge_int q
theorem zav:ux X (Bi .In) (λx y H Q=>∃i j,x=.str i/\y=.str j/\Q (.bl (!(dX j i 0 j.length 1).isEmpty)) H):=by
 intro k s f H x y v u Q I e d h;obtain⟨i,j,rfl,rfl,q⟩:=h;obtain⟨t,rfl⟩:=e;obtain⟨g,rfl⟩:=d;exact in_str (yd I q Y)
theorem zg6:ux X (Bi .Is) (λx y H Q=>y=.non/\Q (.bl (decide (x=.non))) H):=by
 intro g s f H x y v u Q I d e h;obtain⟨rfl,q⟩:=h;cases e;refine is_none_gen (yd I q ?_);cases x <;> first
  |(cases d;rfl)
  |(obtain⟨t,rfl⟩:=d;rfl)
theorem JE:ux X (Bi .IsNot) (λx y H Q=>y=.non/\Q (.bl (!decide (x=.non))) H):=by
 intro g s f H x y v u Q I d e h;obtain⟨rfl,q⟩:=h;cases e;refine isnot_none_gen (yd I q ?_);cases x <;> first
  |(cases d;rfl)
  |(obtain⟨t,rfl⟩:=d;rfl)
theorem zA(b:ay)(h:op≠.In:=by lia)(d:op≠.NotIn:=by lia):behindInMarks op b=ag:=by
 have f:(op==CmpOp.In)=ag:=by cases op <;> first|rfl|exact absurd Y h
 have e:(op==CmpOp.NotIn)=ag:=by cases op <;> first|rfl|exact absurd Y d
 cases b <;> simp[behindInMarks,f,e]
theorem jf{r:R2}(i:ux X (Bi op) r)(l:PE X a ta)(k:PE X b tb)(j:behindInMarks op b=ag):PE X (.Compare a [op] [b] pos) (aN r ta tb):=by
 intro m s d H Q I h;exact wpAny_Compare1 (zlh l k I h λv u e x y o n g f q=>i m e d o x y v u Q n g f q) j
def zy(t:TE):TT:=λd H Q=>t d H λx e=>∃k,x=.bl k/\Q k e
theorem zt{r:R2}(q:ux X (Bi op) r)(A:PE X a ta)(w:PE X b tb)(t:behindInMarks op b=ag):PT X (.Compare a [op] [b] pos) (zy (aN r ta tb)):=by
 intro f s d H Q I h;refine wpAny_isTrue_Compare1 (aY (A f s d H _ I h) λv i ⟨x,J,D,m,p⟩=>aY (w f i d J _ D p) λu g ⟨y,G,C,l,o⟩ =>
  aY (q f g d G x y v u _ C m l o) λc M ⟨z,E,B,j,k,e,n⟩=>?_) t
 subst e;cases j;exact fH ⟨E,B,n⟩
def zeg(r g:R2)(ta tb tc:TE):TE:=λd H Q=>ta d H λx j=>tb d j λy i=>r x y i λz e=>∃k,z=.bl k /\
 (if k=ai then tc d e λf h=>g y f h Q else Q (.bl ag) e)
theorem zg7{r l:R2}(N:ux X (Bi op) r)(i:ux X (Bi op') l)(ha:PE X a ta)(hb:PE X b tb)(T:PE X c tc) (O:lastMarks [op,op'] [b,c]=ag:=by with_unfolding_all rfl):PE X (.Compare a [op,op'] [b,c] pos) (zeg r l ta tb tc):=by
 intro g s f H Q I h;refine Compare_chain (aY (ha g s f H _ I h) λv B ⟨x,H1,I1,E,M⟩=>chain_link (aY (hb g B f H1 _ I1 M) λu A ⟨y,H2,I2,j,J⟩ =>
  aY (N g A f H2 x y v u _ I2 E j J) λd w ⟨z,o,n,D,k,e,m⟩=>?_)) O
 subst e;cases D;refine fH ?_;cases k with
 |false=>exact ite_ff ⟨.bl ag,o,n,Y,m⟩
 |true=>exact ite_tt (chain_last (aY (T g w f o _ n m) λq t ⟨p,H4,I4,C,G⟩=>i g t f H4 y p u q Q I4 j C G))
theorem zeh:(Bb:Nat)<2^63:=by rw[dq];decide
theorem qb:ux X (binaryOp .Add) (λx y H Q=>∃i j,x=.str i/\y=.str j/\i.length+j.length<=Bb/\Q (.str (i++j)) H):=by
 intro m s k H x y v u Q I f e h;obtain⟨i,j,rfl,rfl,g,q⟩:=h;obtain⟨t,rfl⟩:=f;obtain⟨d,rfl⟩:=e;exact add_str (λd l=>⟨.str (i++j),H,I.tok _,⟨_,Y⟩,q⟩) g
theorem xA(r:aQ [x] us):∃u,us=[u]/\aU x u:=by
 cases r with
 |cons r1 r2=>cases r2;exact⟨_,Y,r1⟩
theorem zg8(r:aQ [x,y] us):∃u w',us=[u,w']/\aU x u/\aU y w':=by
 cases r with
 |cons r1 r2 =>
  cases r2 with
  |cons r3 r4=>cases r4;exact⟨_,_,Y,r1,r3⟩
theorem qc:xV X (.type "str") (λd H Q=>∃i,d=[.int i]/\i.natAbs.log2<1920/\Q (.str (toString i)) H):=by
 intro j s f H d g Q I r h;obtain⟨i,rfl,e,q⟩:=h;obtain⟨u,rfl,t,rfl⟩:=xA r;exact PySem.P.str_of_int e ⟨.str _,H,I.tok _,⟨_,Y⟩,q⟩
theorem zg9:xV X (.builtin "ord") (λd H Q=>∃x,d=[.str x]/\x.length=1/\Q (.int (x.cps.getD 0 0:Nat)) H):=by
 intro i s f H d g Q I r h;obtain⟨x,rfl,e,q⟩:=h;obtain⟨u,rfl,t,rfl⟩:=xA r;exact ord_of_one e ⟨.int _,H,I.tok _,⟨_,Y⟩,q⟩
def YS(K:bo)(x:V)(H:Hp)(n:Nat):Prop :=
 match x with
 |.str y=>y.length<=Bb/\n=y.length
 |.byt y=>y.size<=Bb/\n=y.size
 |.ref p=>(∃d,aP K H p d/\n=d.length)\/∃d,tZ K H p d/\n=d.length
 |_=>False
theorem yc:xV X (.builtin "len") (λd H Q=>∃x n,d=[x]/\YS X.K x H n/\Q (.int n) H):=by
 intro B s v H d w Q I r h;obtain⟨x,n,rfl,e,q⟩:=h;obtain⟨u,rfl,i⟩:=xA r;have A:=zeh;have z:Bb=16777216:=dq;cases x with
 |str y =>
  obtain⟨t,rfl⟩:=i;obtain⟨o,g⟩:y.length<=Bb/\n=y.length:=e;subst g;exact len_str () ⟨.int _,H,I.tok _,⟨_,Y⟩,q⟩
 |byt y =>
  obtain⟨t,rfl⟩:=i;obtain⟨o,g⟩:y.size<=Bb/\n=y.size:=e;subst g;exact W.len_bytes () ⟨.int _,H,I.tok _,⟨_,Y⟩,q⟩
 |ref p =>
  cases i;have g:(∃d,aP X.K H p d/\n=d.length)\/∃d,tZ X.K H p d/\n=d.length:=e;rcases g with ⟨d,hx,g⟩|⟨d,hx,g⟩
  .subst g;obtain⟨l,j,k,m⟩:=I.list hx;have f:=j.length;exact Calls.call_len_list k.isList (by simp only[bM];lia) ⟨.int d.length,H,I.tok _,⟨_,by simp only[bM];rw[f]⟩,q⟩
  .subst g;obtain⟨l,j,k,m⟩:=I.tuple hx;have f:=j.length;exact len_tuple k (by simp only[bM];lia) ⟨.int d.length,H,I.tok _,⟨_,by simp only[bM];rw[f]⟩,q⟩
 |_=>exact(show False from e).elim
end
structure ObjM(h:ax)(x dx C:L)(mA:Str->Option ae):Prop where
 obj:h.get? x=U (gv C dx)
 ns:h.Ns1 dx mA
 ne:dx≠x
theorem zaw{h:ax}{f:Str->Option ae}(n:h.Ns1 dx f):∃d,h.get? dx=U d/\∀b,sS b d=U (f b):=by
 obtain⟨o,g,r,j,m,l,_,k⟩:=n;refine⟨o,j,λb=>?_⟩;have e:=k b;unfold nsFind findBy at e;rw[<-rJ] at e;unfold sS;rw[m];dsimp only;split
 .rename_i y q;rw[q] at e;exact congrArg U e
 .rename_i q;rw[q] at e;have a:g.toList.any (·.refKey)=ag:=by
   rw[List.any_eq_false];intro y i;obtain⟨z,t,c⟩:=l y (Array.mem_toList_iff.mp i);simp[DictEntry.refKey,c]
  have p:¬ g.toList.any (·.refKey)=ai:=by rw[a];exact bT
  rw[am p];exact congrArg U e
theorem ObjM.look{mA:Str->Option ae}(I:ObjM h x dx C mA):∃b,W.InstAt h x (gv C dx) C (U b)/\∀a,sS a b=U (mA a):=
 let ⟨b,ho,hl⟩:=zaw I.ns
 ⟨b,⟨I.obj,Y,Y,ho⟩,hl⟩
section
variable {prog:ap}{w:au}{A:aq}{E:ae->af->Prop}{s:af}{K:bo}{x dx C f:L}{mA:Str->Option ae}{name:Str}{v:ae}
theorem zjr{Q:ae->af->Prop}(X:K.In s.heap)(I:ObjM s.heap x dx C mA)(e:r9 K C name=ai)(d:rf K C=ai) (g:fE K (.ref C) name=U ah) (b:mA name=U v) (a:W.handedIn v=ai) (h:Q v { s with toks:=s.toks+1 }) :
  Bf (Bg prog w) A (getAttr (.ref x) name expr) Q E s:=by
 obtain⟨i,J,c⟩:=I.look;exact W.get_value X J (rK e).1 (W.findObj_own d g Y (by rw[c,b])) a h
theorem zha{b:Sem Bool}{Q:ae×List ae->af->Prop}(X:K.In s.heap)(I:ObjM s.heap x dx C mA)(a:r9 K C name=ai) (i:fE K (.ref C) name=U (U (.ref f))) (e:tI K (.ref f)=ai) (d:mA name=ah) (h:Q (.ref f,[.ref x]) s) :
  Bf (Bg prog w) A (getMethod (.ref x) name b) Q E s:=by
 obtain⟨c,J,g⟩:=I.look;exact W.method_fn X J (rK a).1 (rK a).2 i (beq_iff_eq.mp e) (by show (sS name c).map (·.isSome)=U ag;rw[g,d];rfl) h
theorem zjs{Q:Unit->af->Prop}(X:K.In s.heap)(I:ObjM s.heap x dx C mA) (p:fE K (.ref C) "__setattr__"=U (U (.builtin "object.__setattr__"))) (q:W.plainOver K C=ai) (n:W.takerIn K C name=U ah) (t:rf K C=ai) (m:sE mA ns) (o:ns.length<=Bb) (h:∀e,ObjM e x dx C (λy=>if y=name then U v else mA y)->cV dx s.heap e->Q PUnit.unit { s with heap:=e,toks:=s.toks+2 }) :
  Bf (Bg prog w) A (setAttr (.ref x) name v) Q E s:=by
 obtain⟨D,J,H⟩:=I.look;refine W.set_plain X J p (W.osa_open (s:={ s with toks:=s.toks+1 }) (r:=ah) X J q n λb=>?_);obtain⟨M,u,j⟩:=se t;have l:s.heap.get? x=U ⟨.ref C,U dx,.plain,#[]⟩:=I.obj;refine ba (bf (ba (ba (p7 l (ba (mj (s:={ s with toks:=s.toks+1 }) (rL X u) ?_))))));rw[j];refine bf (a:=U dx) (ba (bf (ba ?_)));refine wpAny_nsSet1 (s:={ s with toks:=s.toks+1 }) I.ns λe d c=>?_;obtain⟨G,z,B,g,i,k⟩:=d.count (PySem.Within.cons name v m);refine ba (wpAny_lookBehind g (by rw[i];exact pastItsLine_dict (cg k (by rw[bR];lia))) ?_);exact bf (h _ ⟨(c.2 _ (cK I.ne)).trans I.obj,d,I.ne⟩ c)
theorem zhb{R:aD->af->Prop}(X:K.In s.heap)(b:sW K C=ai) (c:fE K (.ref C) "__init__"=U (U (.ref f))) (e:W.typeIn K (.ref f)=U (.type "function")) (h:codeAny (Bg prog w) (A.under (.builtin "type.__call__" ⟨.ref C::vs,kw⟩)) (.call (.ref f) ⟨.ref (s.heap.objs.size+1)::vs,kw⟩) (W.InitBack (s.heap.objs.size+1) R)
   { s with heap:=(s.heap.push eX).push (gv C s.heap.objs.size) }) :
  codeAny (Bg prog w) A (.call (.ref C) ⟨vs,kw⟩) R s:=by
 obtain⟨j,g,d,t,i⟩:=s;exact W.make_core (W.makes_of X b) (fW X c) (λa=>W.bind_fn X a e) (.inl Y) h
theorem zf7{R:aD->af->Prop}(X:K.In s.heap)(b:sW K C=ai) (c:fE K (.ref C) "__init__"=U (U (.builtin "object.__init__"))) (e:∀a,iP (Bg prog w) s.heap (bindSpecial (.builtin "object.__init__") a) (.builtin "object.__init__",[a])) (h:codeAny (Bg prog w) (A.under (.builtin "type.__call__" ⟨[.ref C],[]⟩)) (.call (.builtin "object.__init__") ⟨[.ref (s.heap.objs.size+1)],[]⟩) (W.InitBack (s.heap.objs.size+1) R)
   { s with heap:=(s.heap.push eX).push (gv C s.heap.objs.size) }) :
  codeAny (Bg prog w) A (.call (.ref C) ⟨[],[]⟩) R s:=by
 obtain⟨j,g,d,t,i⟩:=s;exact W.make_core (W.makes_of X b) (fW X c) e (.inr ⟨Y,Y⟩) h
end
def yw(f:Str)(v:V):List (Str×V)->List (Str×V)
 |[]=>[(f,v)]
 |(g,x)::r=>if g=f then (g,v)::r else (g,x)::yw f v r
theorem VM(f g:Str)(v:V):∀b:List (Str×V),(yw f v b).lookup g=if g=f then U v else b.lookup g
 |[]=>by
  show iQ g [(f,v)]=_;by_cases h:g=f
  .have a:(g==f)=ai:=beq_iff_eq.mpr h;simp only[iQ,a,ao h]
  .have a:(g==f)=ag:=beq_eq_false_iff_ne.mpr h;simp only[iQ,a,am h]
 |(k,x)::r=>by
  have c:=VM f g v r;rw[show yw f v ((k,x)::r)=(if k=f then (k,v)::r else (k,x)::yw f v r) from rfl];by_cases hk:k=f
  .rw[ao hk];by_cases h:g=k
   .have a:(g==k)=ai:=beq_iff_eq.mpr h;simp only[iQ,a,ao (h.trans hk)]
   .have a:(g==k)=ag:=beq_eq_false_iff_ne.mpr h;simp only[iQ,a,am (λe:g=f=>h (e.trans hk.symm))]
  .rw[am hk];by_cases h:g=k
   .have a:(g==k)=ai:=beq_iff_eq.mpr h;simp only[iQ,a,am (λe:g=f=>hk (h.symm.trans e))]
   .have a:(g==k)=ag:=beq_eq_false_iff_ne.mpr h;simp only[iQ,a];exact c
theorem W0(f:Str)(v:V):∀a:List (Str×V),f∈(yw f v a).map (·.1)/\∀g,g∈a.map (·.1)->g∈(yw f v a).map (·.1)
 |[]=>⟨by simp[yw],λg h=>by simp at h⟩
 |(k,x)::r=>by
  obtain⟨c,b⟩:=W0 f v r;rw[show yw f v ((k,x)::r)=(if k=f then (k,v)::r else (k,x)::yw f v r) from rfl];by_cases hk:k=f
  .rw[ao hk];subst hk;exact⟨by simp,λg h=>by simpa using h⟩
  .rw[am hk];refine⟨?_,λg h=>?_⟩
   .rw[bN];exact bF _ c
   .rw[bN] at h ⊢;rcases bJ.mp h with e|e
    .exact bJ.mpr (.inl e)
    .exact bF _ (b g e)
theorem VN(f:Str)(v:V):∀a:List (Str×V),(yw f v a).length<=a.length+1
 |[]=>by simp[yw]
 |(k,x)::r=>by
  have b:=VN f v r;rw[show yw f v ((k,x)::r)=(if k=f then (k,v)::r else (k,x)::yw f v r) from rfl];by_cases hk:k=f
  .rw[ao hk,bR,bR];lia
  .rw[am hk,bR,bR];lia
theorem ug.some_of(r:ug (U v) o):∃u,o=U u/\aU v u:=by
 cases o with
 |none=>exact(show False from r).elim
 |some u=>exact⟨u,Y,r⟩
theorem ug.none_of(r:ug ah o):o=ah:=by
 cases o with
 |none=>rfl
 |some u=>exact(show False from r).elim
theorem zax(r:aU v u):W.handedIn u=ai:=by
 cases v with
 |non=>cases (show u=cy from r);rfl
 |bl b=>cases (show u=ic b from r);rfl
 |int i=>obtain⟨t,e⟩:=(show ∃t,u=gu i t from r);cases e;rfl
 |str x=>obtain⟨t,e⟩:=(show ∃t,u=mh x t from r);cases e;rfl
 |byt b=>obtain⟨t,e⟩:=(show ∃t,u=Value.bytes b t from r);cases e;rfl
 |flt b=>obtain⟨t,e⟩:=(show ∃t,u=sT b t from r);cases e;rfl
 |ref a=>cases (show u=bH a from r);rfl
 |ty n=>cases (show u=fj n from r);rfl
section
variable {P:ap}{w:au}{H H':Hp}{h h':ax}{a C dx:L}{fs fs':List (Str×V)}
theorem JF(c:uz P w H h)(e:H a=U (.ins C dx fs)):∃b,ObjM h a dx C b/\(∀f,ug (fs.lookup f) (b f))/\sE b (fs.map (·.1))/\fs.length<=1000/\H dx=U (.own a):=by
 obtain⟨d,z,i,g,b,n,r,q⟩:=(show aW P w H h a (.ins C dx fs) from c a _ e);exact⟨b,⟨g,n,i⟩,r,q,z,d⟩
end
structure uu(K:bo)(C:L):Prop where
 pg:r9 K C iE=ai
 hd:rf K C=ai
 po:W.plainOver K C=ai
 sa:fE K (.ref C) "__setattr__"=U (U (.builtin "object.__setattr__"))
theorem uu.get{K:bo}(c:uu K C)(f:Str):r9 K C f=ai:=c.pg
def aK(K:bo)(C:L)(f:Str):Prop:=fE K (.ref C) f=U ah
theorem aK.taker{K:bo}{C:L}(n:aK K C f):W.takerIn K C f=U ah:=by
 unfold W.takerIn;rw[show fE K (.ref C) f=U ah from n];rfl
structure zcF(K:bo)(C:L)(m:Str)(f:L):Prop where
 at_:fE K (.ref C) m=U (U (.ref f))
 fn:tI K (.ref f)=ai
 kp:lh K (.ref f)=ai
section
variable {X:Cx}{aa:List (L×Obj)}{σ:St}{H:Hp}{s:af}{a C dx:L}{fs:List (Str×V)}{f:Str}{v:V}{A:aq}{E:ae->af->Prop}
theorem JU{Q:ae->af->Prop}(I:aM X aa σ H s)(e:H a=U (.ins C dx fs))(c:uu X.K C)(n:aK X.K C f)(l:fs.lookup f=U v) (h:∀u d,aM X aa σ H d->aU v u->Q u d):Bf (Bg X.prog X.w) A (getAttr (.ref a) f b) Q E s:=by
 obtain⟨i,O,r,_,_,_⟩:=JF I.hok e;obtain⟨u,j,g⟩:=ug.some_of (v:=v) (o:=i f) (by rw[<-l];exact r f);exact zjr I.kIn O (c.get f) c.hd n j (zax g) (h u _ (I.tok _) g)
theorem qd{b:Sem Bool}{Q:ae×List ae->af->Prop}(I:aM X aa σ H s)(e:H a=U (.ins C dx fs))(c:uu X.K C)(k:zcF X.K C m g)(l:fs.lookup m=ah) (h:Q (.ref g,[.ref a]) s):Bf (Bg X.prog X.w) A (getMethod (.ref a) m b) Q E s:=by
 obtain⟨d,O,r,_,_,_⟩:=JF I.hok e;have i:d m=ah:=ug.none_of (by rw[<-l];exact r m);exact zha I.kIn O (c.get m) k.at_ k.fn i h
theorem JV{Q:Unit->af->Prop}(I:aM X aa σ H s)(e:H a=U (.ins C dx fs))(c:uu X.K C)(n:aK X.K C f)(J:fs.length<1000)(p:aU y u) (h:∀j,aM X aa σ (upd H a (.ins C dx (yw f y fs))) j->Q PUnit.unit j):Bf (Bg X.prog X.w) A (setAttr (.ref a) f u) Q E s:=by
 obtain⟨k,O,r,i,_,l⟩:=JF I.hok e;have t:(fs.map (·.1)).length<=Bb:=by rw[bi,dq];lia
 refine zjs I.kIn O c.sa c.po n.taker c.hd i t λG d m=>h _ ?_;have B:∃o,G.get? dx=U o:=let ⟨o,_,_,e',_⟩:=d.ns;⟨o,e'⟩
 refine I.write (x:=a) (e:=dx) (by rw[e];exact fM) (.inr l) (λb q D z=>(m.2 b D).trans z) B ?_;refine⟨by rw[zm O.ne];exact l,?_,O.ne,d.obj,_,d.ns,λg=>?_,λg w=>?_⟩
 .have:=VN f y fs;lia
 .show ug ((yw f y fs).lookup g) (if g=f then U u else k g);rw[VM];by_cases q:g=f
  .rw[ao q,ao q];exact p
  .rw[am q,am q];exact r g
 .by_cases q:g=f
  .rw[q];exact(W0 f y fs).1
  .refine(W0 f y fs).2 g (i g λz=>w ?_);show (if g=f then U u else k g)=ah;rw[am q];exact z
theorem aM.made(I:aM X aa σ H s):aM X aa σ (upd (upd H s.heap.objs.size (.own (s.heap.objs.size+1))) (s.heap.objs.size+1) (.ins C s.heap.objs.size []))
  { s with heap:=(s.heap.push eX).push (gv C s.heap.objs.size) }:=by
 have g:(s.heap.push eX).get? s.heap.objs.size=U eX:=bp s.heap rfl;have l:((s.heap.push eX).push (gv C s.heap.objs.size)).get? (s.heap.objs.size+1)=U (gv C s.heap.objs.size):=by
  have:=bp (s.heap.push eX) (o:=gv C s.heap.objs.size) rfl
  rwa [gA] at this
 have k:(s.heap.push eX).Ns s.heap.objs.size (λ_=>ah):=⟨eX,#[],_,g,Y,(λe j=>absurd j (by simp)),λ_=>rfl⟩;have n:=I.laid (a:=s.heap.objs.size) (o:=.own (s.heap.objs.size+1)) (h':=s.heap.push eX) (t':=s.toks) (λb u q=>bc _ q) (br _) ⟨_,g⟩;refine n.laid (a:=s.heap.objs.size+1) (o:=.ins C s.heap.objs.size []) (t':=s.toks) (λb u q=>bc _ q) (pq (gA _ _)) ?_;have d:s.heap.objs.size≠s.heap.objs.size+1:=bV (iL _);refine⟨by rw[zm d,zi],bU _,d,l,λ_=>ah,(sf k).at λo q=>bc _ q,λ_=>fM,λy h=>absurd Y h⟩
theorem zfh{Q:ae->af->Prop}(c:attributeBase e f env (eval e env)=eval e env) (h:Bf (Bg prog w) A (eval e env) (λo b=>Bf (Bg prog w) A (getAttr o f ai) Q E b) E s):Bf (Bg prog w) A (eval (.Attribute e f pos) env) Q E s:=
 Attribute_any_ h (by rw[arm_eval_Attribute,c])
end
def zE(K:bo)(e:TE)(f:Str):TE:=λd H Q=>e d H λx c=>∃a C g b v,x=.ref a/\c a=U (.ins C g b)/\uu K C/\aK K C f/\b.lookup f=U v/\Q v c
def yU(K:bo)(h g:TE)(f:Str):TS:=λD b H=>g b H λy i=>h b i λx e=>∃a C d c,x=.ref a/\e a=U (.ins C d c)/\uu K C/\aK K C f/\c.length<1000 /\
 D.nx b (upd e a (.ins C d (yw f y c)))
def zmk(X:Cx)(d:Operator)(c:V->V->Hp->VK->Prop):Prop :=
 ∀(b:List (L×Obj)) (s:af) (a:St) (H:Hp) (x y:V) (u v:ae) (Q:VK),aM X b a H s->aU x u->aU y v->c x y H Q->Bf (Bg X.prog X.w) X.A (inplaceOp d u v) (EP X b a Q) X.xe s
def X1(K:bo)(j i:TE)(k:V->V->Hp->VK->Prop)(f:Str):TS:=λD d H=>j d H λx h=>∃a C l e v,x=.ref a/\h a=U (.ins C l e)/\uu K C/\aK K C f/\e.lookup f=U v /\
 i d h λy m=>k v y m λz g=>∃c b,g a=U (.ins C c b)/\b.length<1000/\D.nx d (upd g a (.ins C c (yw f z b)))
section
variable {X:Cx}{o e value:ay}{f:Str}{pos pos' tpos:Pos}{ta tv:TE}
theorem zp(i:PE X e ta)(j:attributeBase e f X.env (eval e X.env)=eval e X.env):PE X (.Attribute e f pos) (zE X.K ta f):=by
 intro p s b H Q I h;refine zfh j (aY (i p s b H _ I h) ?_);rintro u A ⟨x,w,t,d,a,C,D,B,v,k,m,c,n,l,q⟩;subst k;obtain rfl:u=bH a:=d;exact JU t m c n l λy z r g=>⟨v,w,r,g,q⟩
theorem zZ(t:PE X o ta)(p:PE X value tv)(r:swapsWith value (U (.Attribute o f pos')) pos.line X.env=pure ag):PS X (.Assign [.Attribute o f pos'] value pos) (yU X.K ta tv f):=by
 intro d s b H D I h;refine lR (aY (p d s b H _ I h) λu g ⟨y,E,B,i,q⟩=>aY (t d g b E _ B q) ?_) r;rintro m J ⟨x,O,A,j,a,C,N,M,v,w,c,n,l,k⟩;subst v;obtain rfl:m=bH a:=j;exact JV A w c n l i λG z=>⟨b,_,z,k⟩
theorem zay{j:V->V->Hp->VK->Prop}(N:PE X o ta)(M:PE X value tv)(d:zmk X op j):PS X (.AugAssign (.Attribute o f tpos) op value pos) (X1 X.K ta tv j f):=by
 intro i s b H D I h;refine wpAny_AugAssign_AttributeAny (aY (N i s b H _ I h) ?_);rintro G s1 ⟨x,H1,I1,w,a,C,dx,fs,v,Q,T,c,n,l,q⟩;subst Q;obtain rfl:G=bH a:=w;refine JU I1 T c n l λu p I2 A=>aY (M i p b H1 _ I2 q) λk m ⟨y,H2,I3,t,E⟩=>aY (d i m b H2 v y u k _ I3 A t E) ?_;rintro w4 s4 ⟨z,H3,I4,r,al,O,g,J,B⟩;exact JV I4 g c n J r λs5 I5=>⟨b,_,I5,B⟩
def zhc:V->V->Hp->VK->Prop:=λx y H Q=>∃i j,x=.int i/\y=.int j/\Q (.int (i+j)) H
theorem zhd:zmk X .Add zhc:=by
 rintro g s d H x y u v Q I c b ⟨i,j,rfl,rfl,q⟩;obtain⟨t,rfl⟩:=(show ∃t,u=gu i t from c);obtain⟨a,rfl⟩:=(show ∃a,v=gu j a from b);exact PyProof.Rows.iadd_int ⟨.int (i+j),H,I.tok _,⟨_,Y⟩,q⟩
end
section
variable {X:Cx}{aa:List (L×Obj)}{σ:St}{H:Hp}{s:af}{A:aq}{E:ae->af->Prop}{Q:ae->af->Prop}{c:ae}{b:Bool}
inductive YT (K:bo) (H:Hp):V->ae->Prop where
 |non:YT K H .non (.type "NoneType")
 |bl (x:Bool):YT K H (.bl x) (.type "bool")
 |int (i:Int):YT K H (.int i) (.type "int")
 |str (x:Str):YT K H (.str x) (.type "str")
 |flt (x:UInt64):YT K H (.flt x) (.type "float")
 |lst {a:L} {xs:List V} (e:H a=U (.lst xs)):YT K H (.ref a) (.type "list")
 |frz {a:L} {o:Obj} {xs:List V} (e:H a=U (.frz o (.lst xs))):YT K H (.ref a) (.type "list")
 |tup {a:L} {xs:List V} (e:H a=U (.tup xs)):YT K H (.ref a) (.type "tuple")
 |dK {a:L} {aL:List (bv×V)} (e:H a=U (.dK aL)):YT K H (.ref a) (.type "dict")
 |dT {a:L} {aL:List (List bv×V)} (e:H a=U (.dT aL)):YT K H (.ref a) (.type "dict")
 |ins {a C dx:L} {fs:List (Str×V)} (e:H a=U (.ins C dx fs)) (cl:uu K C) (ha:fE K (.ref C) "__class__"=U (U (.builtin "object.__class__"))) (hn:sY K (.builtin "object.__class__") "__get__"=U (U (.builtin "getset_descriptor.__get__"))) (htk:W.takesIn K (.builtin "object.__class__")=U ai) (hm:tN K C (.type "object")=U ai):YT K H (.ref a) (.ref C)
theorem zf8(I:aM X aa σ H s)(d:aU x u)(k:YT X.K H x t)(e:dG X.K t c=U b)(h:∀l,Q (.bool b) { s with toks:=l }) :
  Bf (Bg X.prog X.w) A (call (.builtin "isinstance") [u,c]) Q E s:=by
 cases k with
 |non=>cases (show u=cy from d);exact gI W.kitx_none I.kIn fM e () h
 |bl y=>cases (show u=ic y from d);exact gI W.kitx_bool I.kIn fM e () h
 |int i=>obtain⟨t,q⟩:=(show ∃t,u=gu i t from d);cases q;exact gI W.kitx_int I.kIn fM e () h
 |str y=>obtain⟨t,q⟩:=(show ∃t,u=mh y t from d);cases q;exact gI W.kitx_str I.kIn fM e () h
 |flt y=>obtain⟨t,q⟩:=(show ∃t,u=sT y t from d);cases q;exact gI W.kitx_float I.kIn fM e () h
 |@lst a g ea =>
  cases (show u=bH a from d);obtain⟨_,_,n,_,f⟩:=(show aW X.prog X.w H s.heap a (.lst g) from I.hok a _ ea);exact gI W.kitx_list I.kIn ⟨_,f,Y⟩ e () h
 |@frz a ob g ea =>
  cases (show u=bH a from d);obtain⟨_,_,_,n,_,f⟩:=(show aW X.prog X.w H s.heap a (.frz ob (.lst g)) from I.hok a _ ea);exact gI W.kitx_list I.kIn ⟨_,f,Y⟩ e () h
 |@tup a g ea =>
  cases (show u=bH a from d);obtain⟨_,_,_,p⟩:=(show aW X.prog X.w H s.heap a (.tup g) from I.hok a _ ea);obtain⟨o,f,j,_⟩:=p;exact gI W.kitx_tuple I.kIn ⟨o,f,j⟩ e () h
 |@dK a aL ea =>
  cases (show u=bH a from d);obtain⟨_,_,v,_,p⟩:=(show aW X.prog X.w H s.heap a (.dK aL) from I.hok a _ ea);obtain⟨o,m,r,f,j,_⟩:=p;exact gI W.kitx_dict I.kIn ⟨o,f,j.1⟩ e () h
 |@dT a aL ea =>
  cases (show u=bH a from d);obtain⟨_,_,g,_,o,m,r,f,j,_⟩:=(show aW X.prog X.w H s.heap a (.dT aL) from I.hok a _ ea);exact gI W.kitx_dict I.kIn ⟨o,f,j.1⟩ e () h
 |@ins a C dx fs ea cl ha hn htk hm =>
  cases (show u=bH a from d);obtain⟨z,O,_⟩:=JF I.hok ea;obtain⟨w,J,_⟩:=O.look;exact gI (W.kitx_own (cl.get _) cl.hd ha hn htk hm) I.kIn J e () h
end
structure hZ(k:Nat)(A:aq):Prop where
 hd:A.handled=ah
 dp:A.depth+3*k+5<recursionLimit
 un:A.units+16*k+200<cLine
theorem hZ.mono(r:hZ k A)(h:j<=k):hZ j A:=⟨r.hd,by have:=r.dp;lia,by have:=r.un;lia⟩
theorem hZ.deeper(r:hZ (k+1) A)(a:Env):hZ k (A.deeper a):=
 ⟨r.hd,by have:=r.dp;show A.depth+1+3*k+5<_;lia,by have:=r.un;show A.units+3+16*k+200<_;lia⟩
theorem zei{A:aq}{C:L}{a:List ae} :(A.under (.builtin "type.__call__" ⟨.ref C::a,kw⟩)).depth=A.depth+1:=by
 first|rfl|simp[sF,Code.weight,Code.isCreation,Code.isGuard,Code.isCaller,Code.frames,sG,guardIds]
theorem zej{A:aq}{C:L}{a:List ae} :(A.under (.builtin "type.__call__" ⟨.ref C::a,kw⟩)).units=A.units+1:=by
 first|rfl|simp[sF,Code.cUnits,Code.frames,sG]
theorem hZ.make(r:hZ (k+1) A)(C:L)(a:List ae)(b:List (Str×ae)):hZ k (A.under (.builtin "type.__call__" ⟨.ref C::a,b⟩)):=
 ⟨r.hd,by have:=r.dp;rw[zei];lia,by have:=r.un;rw[zej];lia⟩
theorem hZ.depth(r:hZ k A):A.depth<recursionLimit:=by have:=r.dp;lia
theorem hZ.units(r:hZ k A):A.units+64<cLine:=by have:=r.un;lia
def zj:TA:=λ_ H Q=>Q [] H
def ze(d:TE)(c:TA):TA:=λa H Q=>d a H λx f=>c a f λb e=>Q (x::b) e
section
variable {X:Cx}{e:ay}{es:List ay}{te:TE}{t:TA}{pos:Pos}
theorem zg:PA X [] zj:=λ_ _ _ _ H Q I h=>ik ⟨[],H,I,.nil,h⟩
theorem zb(m:PE X e te)(l:PA X es t)(k:Be (e::es) X.env=(ag,eval e X.env)::Be es X.env:=by rfl):PA X (e::es) (ze te t):=by
 intro pos b s a H Q I h;rw[k];show Bf _ _ (spliced ((ag,eval e X.env)::backTo pos (Be es X.env))) _ _ s;refine eK (aY (m b s a H _ I h) ?_);rintro u d ⟨x,q,o,g,j⟩;exact aY (l pos b d a q _ o j) λr v ⟨c,p,n,f,i⟩=>⟨x::c,p,n,.cons g f,i⟩
def xb(t:TA):TE:=λc H Q=>t c H λa b=>a.length<=Bb/\∀p,b p=ah->Q (.ref p) (upd b p (.tup a))
def yr(t:TA):TE:=λc H Q=>t c H λa b=>a.length<=Bb/\∀p,b p=ah->Q (.ref p) (upd b p (.lst a))
theorem z0{x1}(h:PA X es t):PE X (.Tuple es x1 pos) (xb t):=by
 intro l s f H Q I j;refine wpAny_Tuple_spliced (aY (h pos l s f H _ I j) λi a ⟨g,d,c,r,z,q⟩=>⟨by rw[<-r.length];exact z,?_⟩);have k:d a.heap.objs.size=ah:=c.hok.fresh (br _);refine⟨.ref a.heap.objs.size,upd d a.heap.objs.size (.tup g),c.laid (t':=a.toks) (λb u e=>bc _ e) (br _) ?_,Y,q _ k⟩;exact⟨z,i,r,⟨_,bp _ Y,Y,_,Y⟩⟩
theorem zW(h:PA X es t):PE X (.List es pos) (yr t):=by
 intro l s f H Q I j;refine wpAny_List_spliced (aY (h pos l s f H _ I j) λi a ⟨g,d,c,r,z,q⟩=>⟨by rw[<-r.length];exact z,?_⟩);have k:d a.heap.objs.size=ah:=c.hok.fresh (br _);refine⟨.ref a.heap.objs.size,upd d a.heap.objs.size (.lst g),c.laid (t':=a.toks) (λb u e=>bc _ e) (br _) ?_,Y,q _ k⟩;exact⟨z,i,0,r,bp _ Y⟩
end
abbrev Sp:=List V->Hp->VK->XK->Prop
abbrev CXT:=List Env->Hp->af->XK->ae->af->Prop
structure Env0(P:ap)(w:au)(K:bo)(mg:Str->Option ae)(base:ax)(A:aq)(outer:List Env)(s:af)(H:Hp):Prop where
 frames:A.frames=U outer
 mod:Mod K mg base
 bs:∀b o,base.get? b=U o->s.heap.get? b=U o/\H b=ah
 bsz:base.objs.size<=s.heap.objs.size
 funs:s.heap.FunFrames base outer
 frf:∀b∈uc outer,H b=ah
 hok:uz P w H s.heap
 bare:AllBare s.gens
def CE(a:List Env)(P:ap)(w:au)(H:Hp)(s:af)(Q:VK)(u:ae)(b:af):Prop :=
 ∃v c,b.os=s.os/\AllBare b.gens/\Un (uc a) [] H c s.heap b.heap/\uz P w c b.heap/\aU v u/\Q v c
def CR(c:CXT)(a:List Env)(P:ap)(w:au)(H:Hp)(s:af)(Q:VK)(E:XK)(r:aD)(b:af):Prop :=
 match r with
 |.ok (.ret u)=>CE a P w H s Q u b
 |.ok _=>False
 |.error e=>c a H s E e b
structure aZ(P:ap)(w:au)(K:bo)(mg:Str->Option ae)(base:ax)(CX:CXT)(k:Nat)(f:L)(fd:Bc)(ps:List Str)(sp:Sp):Prop where
 len:∀vs H Q E,sp vs H Q E->vs.length=ps.length
 run:∀(A:aq) (outer:List Env) (s:af) (H:Hp) (args:Args) (us:List ae) (vs:List V) (Q:VK) (E:XK),hZ k A->Env0 P w K mg base A outer s H->BindsTo s fd args (ps.zip us)->aQ vs us->sp vs H Q E ->
  codeAny (Bg P w) A (.call (.ref f) args) (CR CX outer P w H s Q E) s
theorem aZ.mono{w:au}{K:bo}{mg:Str->Option ae}{base:ax}{CX:CXT}{j k:Nat}{f:L}{fd:Bc}{ps:List Str}{sp:Sp}(F:aZ P w K mg base CX j f fd ps sp)(h:j<=k) :
  aZ P w K mg base CX k f fd ps sp:=⟨F.len,λA outer s H args us vs Q E a=>F.run A outer s H args us vs Q E (a.mono h)⟩
theorem Env0.make{w:au}{K:bo}{mg:Str->Option ae}{base:ax}{A:aq}{outer:List Env}{s:af}{H:Hp}(e:Env0 P w K mg base A outer s H)(C:L)(a:List ae)(c:List (Str×ae)) :
  Env0 P w K mg base (A.under (.builtin "type.__call__" ⟨.ref C::a,c⟩)) outer s H:=⟨by first|exact e.frames|(simpa[sF,Code.envs,sG,pushEnvs] using e.frames),e.mod,e.bs,e.bsz,e.funs,e.frf,e.hok,e.bare⟩
section
variable {X:Cx}{aa:List (L×Obj)}{σ:St}{H:Hp}{s s':af}
theorem aM.env0(I:aM X aa σ H s):Env0 X.prog X.w X.K X.mg X.base X.A X.stack s H :=
 ⟨I.ok.frames,I.ok.mod,I.bs,cg I.ok.bsz I.sz,I.stack,I.stkFree,I.hok,I.bare⟩
theorem aM.after{Q:VK}(I:aM X aa σ H s)(h:CE X.stack X.prog X.w H s Q u s'):EP X aa σ Q u s':=by
 obtain⟨v,f,os,bare,un,hok,r,q⟩:=h;obtain⟨e,g,d,t,a⟩:=s';obtain rfl:a=s.os:=os;exact⟨v,f,I.call (h':=e) (g':=g) (d':=d) (t':=t) (ch:=[]) un hok bare (λb z=>absurd z (by simp)),r,q⟩
end
def zG(d:Sp)(a:List V)(E:XK)(t:TA):TE:=λb H Q=>t b H λc e=>d (c++a) e Q E
def zF(C:L)(m:Str)(h:Sp)(b:List V)(E:XK)(g:TE)(t:TA):TE:=λc H Q=>g c H λx e=>∃a i d,x=.ref a/\e a=U (.ins C i d)/\d.lookup m=ah /\
 t c e λf j=>h (x::(f++b)) j Q E
def Y1(C:L)(f:Sp)(b:List V)(E:XK)(t:TA):TE:=λd H Q=>t d H λe c=>∀x a,c x=ah->c a=ah->a≠x ->
 f (.ref x::(e++b)) (upd (upd c a (.own x)) x (.ins C a [])) (λv g=>v=.non/\Q (.ref x) g) E
def mt(K:bo)(d:Bc)(b:List Str)(c:List ae):Prop :=
 ∀(s:af) (a:List ae),K.In s.heap->(a++c).length=b.length->BindsTo s d ⟨a,[]⟩ (b.zip (a++c))
theorem mt.all{K:bo}{c:Bc}(h:∀a:List ae,a.length=ps.length->bindArgs c ⟨a,[]⟩=pure (ps.zip a)):mt K c ps []:=λs a _ b=>by
 rw[bu] at b ⊢;exact .of_eq (h a b)
def wZ(d:CXT)(X:Cx)(E:XK):Prop:=∀(c:List (L×Obj)) (b:St) (H:Hp) (s:af) (e:ae) (a:af),aM X c b H s->d X.stack H s E e a->X.xe e a
section
variable {X:Cx}{CX:CXT}{k:Nat}{f C:L}{fd:Bc}{ps:List Str}{sp:Sp}{dvs:List V}{ds:List ae}{E:XK}{x m:Str}{p pos tV:Pos}{e o:ay}{es:List ay}{ta:TE}{t:TA}
theorem zek{b:St}{H:Hp}{s:af}{Q:VK}{us:List ae}{vs:List V}(F:aZ X.prog X.w X.K X.mg X.base CX k f fd ps sp)(i:hZ k X.A)(n:mt X.K fd ps ds)(l:aQ dvs ds)(g:wZ CX X E) (I:aM X aa b H s) (r:aQ vs us) (h:sp (vs++dvs) H Q E):Bf (Bg X.prog X.w) X.A (call (.ref f) us) (EP X aa b Q) X.xe s:=by
 have c:aQ (vs++dvs) (us++ds):=r.append l;have j:(us++ds).length=ps.length:=by rw[<-c.length];exact F.len _ _ _ _ h
 refine fN (eu (F.run X.A X.stack s H ⟨us,[]⟩ (us++ds) (vs++dvs) Q E i I.env0 (n s us I.kIn j) c h) λr d a=>?_);cases r with
 |error e=>exact g aa b H s e d I a
 |ok fl =>
  cases fl with
  |ret u=>exact I.after a
  |next=>exact cx a
  |brk=>exact cx a
  |cont=>exact cx a
theorem zjt(F:aZ X.prog X.w X.K X.mg X.base CX k f fd ps sp)(i:hZ k X.A)(n:Gl X x)(j:X.mg x=U (.ref f))(l:lh X.K (.ref f)=ai)(w:mt X.K fd ps ds)(v:aQ dvs ds)(g:wZ CX X E) (y:PA X (e::es) t) (b:(x==("__debug__":Str))=ag:=by lia) (u:Be (e::es) X.env=(ag,eval e X.env)::Be es X.env:=by rfl) (a:(backTo pos (Be es X.env)).any (·.1)=ag:=by rfl) :
  PE X (.Call (.Name x p) (e::es) [] pos) (zG sp dvs E t):=by
 intro z s d H Q I h;refine eA (xy I n j ?_ b);refine gJ (h₀:=X.base) I.ok.mod.kin l (aY (y pos z s d H _ I h) λB D ⟨A,G,c,r,q⟩=>⟨c.kIn,?_⟩) u a;exact zek F i w v g c r q
theorem zfi{pl:Sem Bool}(J:PE X o ta)(c:uu X.K C)(j:zcF X.K C m f)(F:aZ X.prog X.w X.K X.mg X.base CX k f fd ps sp)(G:hZ k X.A)(N:mt X.K fd ps ds)(M:aQ dvs ds)(B:wZ CX X E)(O:PA X (e::es) t) (b:Be (e::es) X.env=(ag,eval e X.env)::Be es X.env:=by rfl) (d:(backTo pos (Be es X.env)).any (·.1)=ag:=by rfl) (D:eval (.Call (.Attribute o m tV) (e::es) [] pos) X.env=(do
   let i <-eval o X.env
   standAt tV.atName
   let (f,first) <-holding [i] (getMethod i m pl)
   callWith pos f first (backTo pos (Be (e::es) X.env)) (backToKw pos (keywordEach [] X.env))):=by rfl) :
  PE X (.Call (.Attribute o m tV) (e::es) [] pos) (zF C m sp dvs E ta t):=by
 intro n s g H Q I h;refine mS (pl:=pl) (aY (J n s g H _ I h) ?_) D;rintro u y ⟨x,H1,w,z,a,dx,fs,T,ea,l,q⟩;subst T;obtain rfl:u=bH a:=z;refine qd w ea c j l ?_;refine gJ (first:=[.ref a]) (h₀:=X.base) I.ok.mod.kin j.kp (aY (O pos n y g H1 _ w q) λus s2 ⟨vs,H2,v,r,A⟩=>⟨v.kIn,?_⟩) b d;exact zek (us:=.ref a::us) (vs:=.ref a::vs) F G N M B v (.cons Y r) A
theorem zcG{pl:Sem Bool}(w:PE X o ta)(c:uu X.K C)(g:zcF X.K C m f)(F:aZ X.prog X.w X.K X.mg X.base CX k f fd ps sp)(v:hZ k X.A)(z:mt X.K fd ps ds)(y:aQ dvs ds)(n:wZ CX X E) (r:eval (.Call (.Attribute o m tV) [] [] pos) X.env=(do
   let d <-eval o X.env
   standAt tV.atName
   let (f,first) <-holding [d] (getMethod d m pl)
   callWith pos f first (backTo pos (Be [] X.env)) (backToKw pos (keywordEach [] X.env))):=by rfl) :
  PE X (.Call (.Attribute o m tV) [] [] pos) (zF C m sp dvs E ta zj):=by
 intro D s i H Q I h;refine mS (pl:=pl) (aY (w D s i H _ I h) ?_) r;rintro u G ⟨x,N,b,j,a,M,J,A,B,l,q⟩;subst A;obtain rfl:u=bH a:=j;refine qd b B c g l ?_;exact rM (first:=[.ref a]) b.kIn g.kp (zek (us:=[.ref a]) (vs:=[.ref a]) F v z y n b (.cons Y .nil) q)
structure Mk(K:bo)(C f:L):Prop where
 makes:sW K C=ai
 init:fE K (.ref C) "__init__"=U (U (.ref f))
 fn:tI K (.ref f)=ai
 kp:lh K (.ref C)=ai
theorem zcH{d:St}{H:Hp}{s:af}{Q:VK}{us:List ae}{g:List V}(M:Mk X.K C f)(F:aZ X.prog X.w X.K X.mg X.base CX k f fd ps sp)(y:hZ (k+1) X.A)(B:mt X.K fd ps ds)(A:aQ dvs ds) (w:wZ CX X E) (I:aM X aa d H s) (r:aQ g us) (h:∀x b,H x=ah->H b=ah->b≠x->sp (.ref x::(g++dvs)) (upd (upd H b (.own x)) x (.ins C b [])) (λv J=>v=.non/\Q (.ref x) J) E) :
  Bf (Bg X.prog X.w) X.A (call (.ref C) us) (EP X aa d Q) X.xe s:=by
 have j:=h (s.heap.objs.size+1) s.heap.objs.size (I.hok.fresh (eM _)) (I.hok.fresh (br _)) (bV (iL _));have c:=aM.made (C:=C) I;have i:aQ (V.ref (s.heap.objs.size+1)::(g++dvs)) (bH (s.heap.objs.size+1)::(us++ds)):=.cons Y (r.append A);have z:(bH (s.heap.objs.size+1)::us++ds).length=ps.length:=by
  have e:=i.length;rw[F.len _ _ _ _ j] at e;exact e.symm
 refine fN (zhb (f:=f) I.kIn M.makes M.init (beq_iff_eq.mp M.fn) (eu (F.run _ X.stack _ _ ⟨bH (s.heap.objs.size+1)::us,[]⟩ (bH (s.heap.objs.size+1)::(us++ds)) _ _ E (y.make C us []) (c.env0.make C us []) (B _ (bH (s.heap.objs.size+1)::us) c.kIn z) i j) λr l a=>?_))
 cases r with
 |error e=>exact w aa d _ _ e l c a
 |ok fl =>
  cases fl with
  |ret u =>
   obtain⟨v,N,G,n,D,q⟩:=c.after a;subst D;exact⟨n,⟨V.ref (s.heap.objs.size+1),N,G,Y,q⟩⟩
  |next=>exact cx a
  |brk=>exact cx a
  |cont=>exact cx a
theorem YF(M:Mk X.K C f)(F:aZ X.prog X.w X.K X.mg X.base CX k f fd ps sp)(i:hZ (k+1) X.A)(l:Gl X x)(j:X.mg x=U (.ref C))(v:mt X.K fd ps ds)(u:aQ dvs ds)(g:wZ CX X E) (w:PA X (e::es) t) (b:(x==("__debug__":Str))=ag:=by lia) (n:Be (e::es) X.env=(ag,eval e X.env)::Be es X.env:=by rfl) (a:(backTo pos (Be es X.env)).any (·.1)=ag:=by rfl) :
  PE X (.Call (.Name x p) (e::es) [] pos) (Y1 C sp dvs E t):=by
 intro y s d H Q I h;refine eA (xy I l j ?_ b);refine gJ (h₀:=X.base) I.ok.mod.kin M.kp (aY (w pos y s d H _ I h) λA B ⟨z,D,c,r,q⟩=>⟨c.kIn,?_⟩) n a;exact zcH M F i v u g c r q
theorem zhe(M:Mk X.K C f)(F:aZ X.prog X.w X.K X.mg X.base CX k f fd ps sp)(c:hZ (k+1) X.A)(g:Gl X x)(d:X.mg x=U (.ref C))(j:mt X.K fd ps ds)(i:aQ dvs ds)(b:wZ CX X E) (a:(x==("__debug__":Str))=ag:=by lia):PE X (.Call (.Name x p) [] [] pos) (Y1 C sp dvs E zj):=by
 intro n s l H Q I h;refine eA (xy I g d ?_ a);exact rM I.kIn M.kp (zcH (us:=[]) M F c j i b I .nil h)
end
structure aJ(N P:List Str)(sc:az):Prop where
 kind:sc.kind=.function
 co:sc.isCoroutine=ag
 gen:sc.isGenerator=ag
 nd:N.Nodup
 pre:N.take P.length=P
 par:∀x∈P,sc.names.lookup x=U .local\/sc.names.lookup x=U .cell
 nofree:∀y∈sc.names,y.2≠.free
theorem zaz{b:Str->Option NameKind}{x:Str}:∀ {a:List (Str×ae)} {m:Str->Option ae},(∀v,(x,v) ∉ a)->bindL b a m x=m x
 |[],_,_=>rfl
 |(n,v)::r,m,h=>by
  unfold bindL;rw[zaz λw c=>h w (bF _ c)];split
  .have:x≠n:=by rintro rfl;exact h v bK
   simp[this]
  .rfl
theorem zaA{b:Str->Option NameKind}{x:Str}:∀ {a:List (Str×ae)} {m:Str->Option ae},(∀v,(x,v) ∉ a)->bindC b a m x=m x
 |[],_,_=>rfl
 |(n,v)::r,m,h=>by
  unfold bindC;rw[zaA λw c=>h w (bF _ c)];split
  .rfl
  .have:x≠n:=by rintro rfl;exact h v bK
   simp[this]
theorem zaB{a:Str->Option NameKind}{x:Str}{v:ae}:∀ {P:List Str} {b:List ae} {i:Nat} {m:Str->Option ae},P.Nodup->P[i]?=U x->b[i]?=U v->a x=U .local ->
  bindL a (P.zip b) m x=U v
 |[],_,_,_,_,h,_,_=>by simp at h
 |_::_,[],_,_,_,_,h,_=>by simp at h
 |p::P,w::b,0,m,nd,h1,h2,hk=>by
  simp at h1 h2;subst h1;subst h2;show bindL a ((p,w)::P.zip b) m p=_;unfold bindL;rw[zaz λv c=>(cF.mp nd).1 (mT c).1,ao hk];simp
 |p::P,w::b,i+1,m,nd,h1,h2,hk=>by
  show bindL a ((p,w)::P.zip b) m x=_;unfold bindL;exact zaB (i:=i) (cF.mp nd).2 (by simpa using h1) (by simpa using h2) hk
theorem zaC{a:Str->Option NameKind}{x:Str}{v:ae}:∀ {P:List Str} {b:List ae} {i:Nat} {m:Str->Option ae},P.Nodup->P[i]?=U x->b[i]?=U v->a x≠U .local ->
  bindC a (P.zip b) m x=U v
 |[],_,_,_,_,h,_,_=>by simp at h
 |_::_,[],_,_,_,_,h,_=>by simp at h
 |p::P,w::b,0,m,nd,h1,h2,hk=>by
  simp at h1 h2;subst h1;subst h2;show bindC a ((p,w)::P.zip b) m p=_;unfold bindC;rw[zaA λv c=>(cF.mp nd).1 (mT c).1,am hk];simp
 |p::P,w::b,i+1,m,nd,h1,h2,hk=>by
  show bindC a ((p,w)::P.zip b) m x=_;unfold bindC;exact zaC (i:=i) (cF.mp nd).2 (by simpa using h1) (by simpa using h2) hk
def start(N:List Str)(a:List V):St:=a.map U++bD (N.length-a.length) ah
def wU(g:CXT)(P:ap)(w:au)(K:bo)(mg:Str->Option ae)(base:ax)(N:List Str)(b:Str)(a:az)(f:L)(d:ae)(A:aq)(outer:List Env)(s:af)(H:Hp)(E:XK):Cx where
 prog:=P
 w:=w
 K:=K
 mg:=mg
 base:=base
 A:=A.deeper (envOfC b a s.heap.objs.size f d)
 N:=N
 s₀:=s
 H₀:=H
 env:=envOfC b a s.heap.objs.size f d
 outer:=outer
 stack:=envOfC b a s.heap.objs.size f d::outer
 ex:=[]
 calm:=ai
 fn:=λ_=>ai
 pn:=[]
 xe:=λe h=>Bf (Bg P w) (A.deeper (envOfC b a s.heap.objs.size f d)) (leaving (envOfC b a s.heap.objs.size f d) e) (λ_ c=>g outer H s E e c) (λi c=>g outer H s E i c) h
theorem zcI{a:az}{n:Nat}(h:a.names.lookup x=U .cell):∃c,(cellsFrom n a.names []).lookup x=U c:=by
 have q:=oM a.names n [] (.inl h);exact iZ.mp q
theorem zaD{CX:CXT}{P:ap}{w:au}{K:bo}{Q:Str->Option ae}{m:ax}{N B:List Str}{j:Str}{d:az}{f:L}{M:ae}{A:aq}{g:List Env}{s s1:af}{H:Hp}{E:XK}{O:List ae}{t:List V}
  (S:aJ N B d) (hd:A.handled=ah) (o:Env0 P w K Q m A g s H) (hl:t.length=B.length) (r:aQ t O) (x:InCallC s s.heap.objs.size (bindL (envOfC j d s.heap.objs.size f M).kindOf (B.zip O) λ_=>ah) (cellsFrom (s.heap.objs.size+1) d.names []) (bindC (envOfC j d s.heap.objs.size f M).kindOf (B.zip O) λ_=>ah) s1) :
  aM (wU CX P w K Q m N j d f M A g s H E) [] (start N t) H s1:=by
 have aa:B.length<=N.length:=by have:=congrArg bQ S.pre;rw[c7] at this;lia
 obtain⟨J,tk,rfl,hk⟩:=x.done;have C:∀b:L,b ∉ (wU CX P w K Q m N j d f M A g s H E).ex:=λb z=>absurd (show b∈([]:List L) from z) (by simp);refine⟨⟨o.mod,S.kind,Y,Y,br _,λy z c J l=>?_,λy hy=>?_,λy c _ h=>?_,λ_=>hd,Around.frames_deeper o.frames,.inr ⟨Y,Y⟩,λb z=>absurd z (C b),o.bs,o.bsz,λb _ _=>C b,λb z=>absurd z (C b),o.funs,o.frf⟩,
  rfl,o.bare,Un.kept hk,⟨_,x.toInCall.ns,λi y v J l h3=>?_⟩,λy c h=>⟨_,x.cell y c h⟩,o.hok.fresh (br _),λy c h=>?_,λp G=>absurd (show p∈([]:List (L×Obj)) from G) (by simp),o.hok.kept hk,?_⟩
 .exact name_of_addr x.apart (fK J) (fK l)
 .have hy:d.names.lookup y=U .cell\/d.names.lookup y=U .free:=hy;rcases hy with hy|hy
  .exact zcI hy
  .exact absurd Y (S.nofree _ (fK hy))
 .exact pj (x.above y c (fK h))
 .have I:i<t.length:=by
   unfold start at l;by_cases I:i<t.length
   .exact I
   .rw[dv (by simpa using I)] at l;rw[oj] at l;split at l <;> cases l
  have ha:t[i]?=U v:=by
   unfold start at l;rw[dI (by simpa using I),bW] at l;cases e:t[i]? with
   |none=>rw[e] at l;cases l
   |some a=>rw[e] at l;cases l;rfl
  obtain⟨u,T,rv⟩:=r.get ha;have G:B[i]?=U y:=by
   rw[<-S.pre,List.getElem?_take_of_lt ()];exact J
  have D:B.Nodup:=by rw[<-S.pre];exact S.nd.sublist (List.take_sublist _ _)
  refine⟨u,rv,?_⟩;rcases S.par y (cw G) with k|k
  .exact .inl ⟨k,zaB D G T k⟩
  .obtain⟨c,e⟩:=zcI (n:=s.heap.objs.size+1) k;refine .inr ⟨.inl k,c,e,?_⟩;have q:=x.cell y c e;rw[zaC D G T (by show d.names.lookup y≠_;rw[k];decide)] at q;exact q
 .exact o.hok.fresh (pj (x.above y c (fK h)))
 .unfold start;show _=N.length;rw[bn,bi,gK];lia
theorem zkR{CX:CXT}{P:ap}{w:au}{K:bo}{mg:Str->Option ae}{i:ax}{k:Nat}{f:L}{p d:Str}{h:Arguments}{j:List ar}{a:az}{dV kV aa pm g ct oc:ae}{an od:Option L}
  {al:Array (Option ae)} {N ps:List Str} {sp:Sp} (lk:K.lookup f=U ⟨oc,od,.func (rN p d h j a dV kV aa pm an g ct),al⟩) (aw:rO K g d=ai) (S:aJ N ps a) (G:∀m H Q E,sp m H Q E->m.length=ps.length) (C:∀(A:aq) (c:List Env) (s:af) (H:Hp) (m:List V) (Q:VK) (E:XK),hZ k (A.deeper (envOfC d a s.heap.objs.size f g))->sp m H Q E ->
   ∃t,PSs (wU CX P w K mg i N d a f g A c s H E) j t/\t { nx:=λ_ z=>Q .non z,rt:=Q } (start N m) H) :
  aZ P w K mg i CX (k+1) f (rN p d h j a dV kV aa pm an g ct) ps sp:=by
 refine⟨G,λA c s H aA us m Q E hr T hb r M=>?_⟩;have hl:=G _ _ _ _ M;have KX:K.In s.heap:=T.mod.kin.keeps λb o e=>(T.bs b o e).1;have av:s.heap.NoLimit:=T.mod.nolimit.keeps λb o e=>(T.bs b o e).1;have B:∀y∈ps.zip us,a.names.lookup y.1=U .local\/(a.names.lookup y.1=U .cell/\((cellsFrom (s.heap.objs.size+1) a.names []).lookup y.1).isSome=ai):=λ⟨n,v⟩ hy=>by
  rcases S.par n (mT hy).1 with q|q
  .exact .inl q
  .exact .inr ⟨q,oM _ _ _ (.inl q)⟩
 refine pw hr.depth (KX _ _ lk) Y S.co S.gen Y (W.codeRec_of KX aw) (hb _ _ _ _ ?_);refine nh S.kind B λaB he s1 x=>?_;subst he;refine⟨av.keeps x.toInCall.keep,codeAny_func ?_⟩;obtain⟨t,ht,hq⟩:=C A c s H m Q E (hr.deeper _) M;have I:aM (wU CX P w K mg i N d a f g A c s H E) [] (start N m) H s1:=zaD S hr.hd T hl r x;refine cU (ht [] s1 (start N m) H _ I hq) (λfl s' D=>?_) λe s' D=>D;have O:∀ {l:St} {z:Hp} {v:V} {u:ae},aM (wU CX P w K mg i N d a f g A c s H E) [] l z s'->aU v u->Q v z->CE c P w H s Q u s' :=
  λ{l z v u} J rv q=>⟨v,z,J.os,J.bare,J.base,J.hok,rv,q⟩
 cases fl with
 |ret u =>
  obtain⟨v,l,z,J,rv,q⟩:=D;exact O J rv q
 |next =>
  obtain⟨l,z,J,q⟩:=D;exact O (v:=V.non) (u:=cy) J Y q
 |brk =>
  obtain⟨_,_,_,q⟩:=D;exact cx q
 |cont =>
  obtain⟨_,_,_,q⟩:=D;exact cx q
section
variable {X:Cx}{x:Str}{p pos:Pos}{e:ay}{es:List ay}{t:TA}{id T:String}{r:List V->Hp->VK->Prop}
def tW(r:List V->Hp->VK->Prop)(t:TA):TE:=λa H Q=>t a H λb c=>r b c Q
theorem zK(u:xV X (.builtin id) r)(o:Gl X x)(n:X.mg x=ah)(l:Bh x=U (.builtin id))(v:PA X (e::es) t)(m:x≠"__name__":=by lia)(b:(x==("__debug__":Str))=ag:=by lia) (q:Be (e::es) X.env=(ag,eval e X.env)::Be es X.env:=by rfl) (a:(backTo pos (Be es X.env)).any (·.1)=ag:=by rfl):PE X (.Call (.Name x p) (e::es) [] pos) (tW r t):=by
 intro d s c H Q I h;refine eA (Zo I o n l ?_ m b);exact PyProof.Rows.callWith_builtin1 (aY (v pos d s c H _ I h) λg i ⟨f,y,w,j,k⟩=>u d i c y f g Q w j k) q a
theorem z7(u:xV X (.type T) r)(o:Gl X x)(n:X.mg x=ah)(l:Bh x=U (.type T))(v:PA X (e::es) t)(m:x≠"__name__":=by lia)(b:(x==("__debug__":Str))=ag:=by lia) (q:Be (e::es) X.env=(ag,eval e X.env)::Be es X.env:=by rfl) (a:(backTo pos (Be es X.env)).any (·.1)=ag:=by rfl):PE X (.Call (.Name x p) (e::es) [] pos) (tW r t):=by
 intro d s c H Q I h;refine eA (Zo I o n l ?_ m b);exact dQ (aY (v pos d s c H _ I h) λg i ⟨f,y,w,j,k⟩=>u d i c y f g Q w j k) q a
end
end L2
namespace HT
open PySem PyProof.Rows
section
variable {prog:ap}{w:au}{A:aq}{E:ae->af->Prop}{s:af}
theorem cat_tup{Q:ae->af->Prop}(u:IsTup s.heap t vs.toArray)(v:IsTup s.heap b ws.toArray)(m:vs≠[]) (y:ws=[]->Q (.ref t) s) (x:ws≠[]->Q (.ref s.heap.objs.size) { s with heap:=s.heap.push { cls:=.type "tuple",data:=.seq (vs++ws).toArray } }) (i:vs.length+ws.length<=Bb):Bf (Bg prog w) A (binaryOp .Add (.ref t) (.ref b)) Q E s:=by
 obtain⟨⟨cls,q,data,k⟩,h,p,n,o⟩:=id u;obtain⟨⟨r,g,j,c⟩,a,f,l,d⟩:=id v;simp only at p o f d;subst p o f d;have e:vs.toArray++ws.toArray=(vs++ws).toArray:=by simp
 by_cases hw:ws=[]
 .exact concat_meets ⟨_,h,Y⟩ ⟨_,a,Y⟩ noFill_tuple_add seq_tuple_add oV om (nR _ _) (tuple_addW1 t b vs.toArray ws.toArray n l q g k c (by simpa using m) (by simp[hw])) ⟨h,a,y hw⟩
 .refine concat_meets ⟨_,h,Y⟩ ⟨_,a,Y⟩ noFill_tuple_add seq_tuple_add oV om (nR _ _) (tuple_addW2 t b vs.toArray ws.toArray n l q g k c (by simpa using m) (by simpa using hw) (by rw[bM,bM];exact i)) ⟨h,a,?_⟩
  rw[e];exact x hw
def sIx(n d:Nat):Option Int->Nat
 |none=>d
 |some v=>if v<0 then (v+(n:Int)).toNat else min v.toNat n
theorem sIx_none(n d:Nat):sIx n d ah=d:=rfl
theorem sIx_nat(n d k:Nat):sIx n d (U (k:Int))=min k n:=by
 show (if (k:Int)<0 then ((k:Int)+(n:Int)).toNat else min (k:Int).toNat n)=min k n;rw[am (),cA]
theorem sIx_le(n d:Nat)(a:d<=n)(o:Option Int):sIx n d o<=n:=by
 cases o with
 |none=>exact a
 |some v =>
  show (if v<0 then (v+(n:Int)).toNat else min v.toNat n)<=n;by_cases hv:v<0
  .rw[ao hv];lia
  .rw[am hv];exact Nat.min_le_right _ _
end
end HT
namespace L2
open PySem PySem.Spec PyProof.Rows
abbrev TO:=St->Hp->(Option Int->Hp->Prop)->Prop
def PO(X:Cx)(e:Option ay)(t:TO):Prop :=
 ∀(b:List (L×Obj)) (s:af) (a:St) (H:Hp) (Q:Option Int->Hp->Prop),aM X b a H s->t a H Q ->
  Bf (Bg X.prog X.w) X.A (evalPart e X.env) (λu d=>∃o c,aM X b a c d/\IsPart u o/\Q o c) X.xe s
def yI:TO:=λ_ H Q=>Q ah H
def wF(t:TE):TO:=λa H Q=>t a H λx b=>∃i,x=.int i/\Q (U i) b
theorem zel{ns:List Int}:∀ {a:List ae},aQ (ns.map V.int) a->IntsAre a ns:=by
 induction ns with
 |nil=>intro a r;rw[mn] at r;cases r;exact .nil
 |cons n ns ih =>
  intro a r;rw[bN] at r;cases r with
  |cons r1 r2 =>
   obtain⟨t,e⟩:=r1;subst e;exact .cons n t (ih r2)
section
variable {X:Cx}{e:ay}{te:TE}{lo hi:Option ay}{tl th:TO}{pos p2:Pos}
theorem wJ:PO X ah yI:=by
 intro b s a H Q I h;rw[evalPart_none];exact bf ⟨ah,H,I,.none,h⟩
theorem xN(h:PE X e te):PO X (U e) (wF te):=by
 intro f s a H Q I d;rw[evalPart_some];refine aY (h f s a H _ I d) ?_;rintro u k ⟨x,j,g,b,c⟩;obtain⟨i,rfl,q⟩:=c;obtain⟨t,rfl⟩:=b;exact⟨U i,j,g,.int i t,q⟩
def SlR(X:Cx)(r:V->Option Int->Option Int->Hp->VK->Prop):Prop :=
 ∀(f:List (L×Obj)) (s:af) (a:St) (H:Hp) (x:V) (v c b:ae) (lo hi:Option Int) (d:L) (Q:VK),aM X f a H s->aU x v->s.heap.IsSliceOf d c b .none->IsPart c lo->IsPart b hi->r x lo hi H Q ->
  ∃T id,typeLookup (.type T) "__getitem__"=pure (U (.builtin id))/\s.TypeIs v T/\Bf (Bg X.prog X.w) X.A (getItem v (.ref d)) (EP X f a Q) X.xe s
def tSl(r:V->Option Int->Option Int->Hp->VK->Prop)(te:TE)(tl th:TO):TE:=λa H Q=>te a H λx d=>tl a d λl c=>th a c λu b=>r x l u b Q
theorem xk{r:V->Option Int->Option Int->Hp->VK->Prop}(A:SlR X r)(D:PE X e te)(B:PO X lo tl)(y:PO X hi th):PE X (.Subscript e (.Slice lo hi ah p2) pos) (tSl r te tl th):=by
 intro d s c H Q I h;refine Subscript_ (aY (D d s c H _ I h) ?_);rintro v k ⟨x,H1,N,m,p⟩;refine wpAny_Slice (aY (B d k c H1 _ N p) λg j ⟨l,O,M,w,o⟩=>aY (y d j c O _ M o) ?_);rintro f a ⟨u,i,J,t,n⟩;rw[evalPart_none];refine bf ?_;have G:aM X d c i { a with heap:=a.heap.push { cls:=.type "slice",data:=.fields #[g,f,.none] } }:=J.kept (t':=a.toks) λb ob q=>bc _ q;obtain⟨T,id,E,z,C⟩:=A d { a with heap:=a.heap.push { cls:=.type "slice",data:=.fields #[g,f,.none] } } c i x v g f l u a.heap.objs.size Q G m (Heap.IsSliceOf.new ..) w t n;show Bf (Bg X.prog X.w) X.A (subscriptTail e (.Slice lo hi ah p2) v (.ref a.heap.objs.size)) (EP X d c Q) X.xe { a with heap:=a.heap.push { cls:=.type "slice",data:=.fields #[g,f,.none] } };exact tail_any (ops:=[.ref a.heap.objs.size,v]) z E C (by with_unfolding_all rfl)
def Xg(a:List V)(lo hi:Option Int):List V:=(a.drop (HT.sIx a.length 0 lo)).take (HT.sIx a.length a.length hi-HT.sIx a.length 0 lo)
theorem zcJ(a:List V)(lo hi:Option Int):(Xg a lo hi).length<=a.length:=by
 unfold Xg;rw[c7,fw];lia
def zcK(K:bo):R2:=λx y H Q=>∃a b d c,x=.ref a/\y=.ref b/\tZ K H a d/\tZ K H b c/\d≠[]/\d.length+c.length<=Bb /\
 (c=[]->Q (.ref a) H)/\(c≠[]->∀p,H p=ah->Q (.ref p) (upd H p (.tup (d++c))))
theorem aQ.nil_iff(r:aQ xs us):us=[]↔xs=[]:=by
 cases r with
 |nil=>simp
 |cons _ _=>simp
theorem JG:ux X (binaryOp .Add) (zcK X.K):=by
 intro E s C H x y v u Q I l k h;obtain⟨a,b,j,i,rfl,rfl,B,A,t,g,n,m⟩:=h;cases l;cases k;obtain⟨r,d,p,_⟩:=I.tuple B;obtain⟨f,c,p2,_⟩:=I.tuple A;refine HT.cat_tup p p2 (λz=>t (d.nil_iff.mp z)) (λz=>⟨.ref a,H,I,Y,n (c.nil_iff.mp z)⟩) (λz=>?_) (by rw[<-d.length,<-c.length];exact g);refine⟨.ref s.heap.objs.size,_,I.laid (t':=s.toks) (o:=.tup (j++i)) (λb D q=>bc _ q) (br _) ?_,Y,m (λw=>z (c.nil_iff.mpr w)) _ (I.hok.fresh (br _))⟩;exact⟨by rw[bn];exact g,_,d.append c,IsTup.new _ _⟩
end
def ixN(n:Nat)(i:Int):Option Nat:=if 0<=i then (if i<n then U i.toNat else ah) else if -(n:Int)<=i then U (i+n).toNat else ah
def atI{α:Type}(a:List α)(i:Int):Option α:=(ixN a.length i).bind λj=>a[j]?
theorem zju{i:Int}(h:ixN n i=U j):seqIndex? i n=U j/\j<n/\-(n:Int)<=i/\i<n:=by
 unfold ixN at h;by_cases h0:0<=i
 .rw[ao h0] at h;by_cases h1:i<n
  .rw[ao h1] at h;have e:i.toNat=j:=cb h;exact⟨by rw[seqIndex_of h0 h1,e],(),(),h1⟩
  .rw[am h1] at h;cases h
 .rw[am h0] at h;by_cases h1:-(n:Int)<=i
  .rw[ao h1] at h;have e:(i+n).toNat=j:=cb h;exact⟨by rw[sH () h1,e],(),h1,()⟩
  .rw[am h1] at h;cases h
theorem zfj{b:Type}{a:List b}{i:Int}{v:b}(h:atI a i=U v):∃j,seqIndex? i a.length=U j/\a[j]?=U v/\j<a.length/\-(a.length:Int)<=i/\i<a.length:=by
 unfold atI at h;cases e:ixN a.length i with
 |none=>rw[e] at h;cases h
 |some j =>
  rw[e] at h;obtain⟨g,f,d,c⟩:=zju e;exact⟨j,g,h,f,d,c⟩
theorem X2{b:Type}{a:List b}{j:Nat}{v:b}(h:a[j]?=U v):atI a (j:Int)=U v:=by
 have c:j<a.length:=(bE.mp h).1;have e:ixN a.length (j:Int)=U j:=by
  unfold ixN;rw[ao (),ao ()];simp
 unfold atI;rw[e];exact h
def zfk(b:ay):Prop:=∀o i,subscripted b ag o i=operate [o,i] (getItem o i)
def IxR(X:Cx)(r:R2):Prop :=
 ∀(b a:ay) (d:List (L×Obj)) (s:af) (c:St) (H:Hp) (x y:V) (v u:ae) (Q:VK),aM X d c H s->aU x v->aU y u->r x y H Q ->
  subscripted a ag v u=operate [v,u] (getItem v u)->Bf (Bg X.prog X.w) X.A (subscriptTail b a v u) (EP X d c Q) X.xe s
def MtR(X:Cx)(id:String)(r:V->List V->Hp->VK->Prop):Prop :=
 ∀(d:List (L×Obj)) (s:af) (a:St) (H:Hp) (x:V) (b:List V) (v:ae) (c:List ae) (Q:VK),aM X d a H s->aU x v->aQ b c->r x b H Q ->
  Bf (Bg X.prog X.w) X.A (call (.builtin id) (v::c)) (EP X d a Q) X.xe s
section
variable {X:Cx}{a b:ay}{ta tb:TE}{pos:Pos}
theorem zmm{r:R2}(i:IxR X r)(k:PE X a ta)(j:PE X b tb)(g:zfk b):PE X (.Subscript a b pos) (aN r ta tb):=by
 intro l s c H Q I h;exact Subscript_ (zlh k j I h λv u d x y n m f e q=>i a b l d c n x y v u Q m f e q (g _ _))
def x6(K:bo):R2:=λx y H Q=>∃p c i v,x=.ref p/\y=.int i/\aP K H p c/\atI c i=U v/\Q v H
def ya(K:bo):R2:=λx y H Q=>∃p c i v,x=.ref p/\y=.int i/\tZ K H p c/\atI c i=U v/\Q v H
theorem yo:IxR X (x6 X.K):=by
 intro e f B s n H x y v u Q I E D h o;obtain⟨p,xs,i,z,rfl,rfl,G,M,q⟩:=h;cases E;obtain⟨t,rfl⟩:=D;obtain⟨l,r,k,hz⟩:=I.list G;obtain⟨j,d,T,h3,O,N⟩:=zfj M;obtain⟨w,A,g⟩:=r.get T;have J:=r.length;have hn:=zeh;have c:EP X B n Q w s:=⟨z,H,I,g,q⟩;by_cases h0:0<=i
 .have m:i.toNat=j:=by
   rw[seqIndex_of h0 N] at d;exact cb d
  exact item_listR k.isList h0 () (by rw[m];simpa using A) c o
 .have m:(i+(l.toArray.size:Int)).toNat=j:=by
   rw[sH () O] at d;rw[bM,<-J];exact cb d
  exact oW (x:=w) k.isList.typeIs slot_list_getitem.lookup
   (wpAny_getItem_list_neg (Q:=λr C=>r=w/\EP X B n Q r C) k.isList () (by rw[bM] <;> lia) () (by rw[m];simpa using A) ⟨Y,c⟩) o
theorem zN:IxR X (ya X.K):=by
 intro c d l s g H x y v u Q I o n h B;obtain⟨p,N,i,z,rfl,rfl,C,E,q⟩:=h;cases o;obtain⟨t,rfl⟩:=n;obtain⟨A,r,k,O⟩:=I.tuple C;obtain⟨j,J,G,h3,h4,h5⟩:=zfj E;obtain⟨w,M,e⟩:=r.get G;have D:=r.length;have T:=zeh;have f:EP X l g Q w s:=⟨z,H,I,e,q⟩;exact oW (x:=w) k.typeIs slot_tuple_getitem.lookup
  (getItem_tuple (j:=j) (Q:=λr m=>r=w/\EP X l g Q r m) k () () (by rw[bM,<-D];exact J) (by simpa using M) ⟨Y,f⟩) B
theorem zbo(lo c:Option Int)(n:Nat):(sliceBounds lo c ah n).1=((HT.sIx n 0 lo:Nat):Int)/\(sliceBounds lo c ah n).2.1=((HT.sIx n n c:Nat):Int)/\(sliceBounds lo c ah n).2.2=1:=by
 refine⟨?_,?_,Y⟩
 .cases lo with
  |none=>simp[sliceBounds,HT.sIx]
  |some i =>
   simp only[sliceBounds,HT.sIx,sM,show (1:Int) > 0 by lia,if_true];by_cases h:i<0
   .simp only[h,if_true] <;> lia
   .simp only[h,if_false] <;> lia
 .cases c with
  |none=>simp[sliceBounds,HT.sIx]
  |some i =>
   simp only[sliceBounds,HT.sIx,sM,show (1:Int) > 0 by lia,if_true];by_cases h:i<0
   .simp only[h,if_true] <;> lia
   .simp only[h,if_false] <;> lia
theorem QD(c:List ae)(lo d:Option Int):slicePick c.toArray lo d ah=((c.drop (HT.sIx c.length 0 lo)).take (HT.sIx c.length c.length d-HT.sIx c.length 0 lo)).toArray:=by
 obtain⟨g,f,e⟩:=zbo lo d c.toArray.size;unfold slicePick;rw[g,f,e];simp only[sliceRange_one,pick_run,bM] <;> rfl
def Xh(K:bo):V->Option Int->Option Int->Hp->VK->Prop:=λx d e H Q=>∃a c,x=.ref a/\aP K H a c/\∀p,H p=ah->Q (.ref p) (upd H p (.lst (Xg c d e)))
theorem vy:SlR X (Xh X.K):=by
 intro A s t H x v w u e f y Q I i p k j h;obtain⟨a,c,rfl,n,q⟩:=h;cases i;obtain⟨l,r,g,m⟩:=I.list n;have d:=r.length;refine⟨"list",_,slot_list_getitem.lookup,g.isList.typeIs,?_⟩;refine wpAny_getItem_list_slice g.isList p k j .none (by simp) ?_ (by rw[bM] <;> lia);rw[QD,<-d];refine⟨.ref s.heap.objs.size,_,I.laid (t':=s.toks) (o:=.lst (Xg c e f)) (λb z q=>bc _ q) (br _) ?_,Y,q _ (I.hok.fresh (br _))⟩;exact⟨cg (zcJ c e f) m,_,0,(r.drop (HT.sIx c.length 0 e)).take (HT.sIx c.length c.length f-HT.sIx c.length 0 e),bp _ Y⟩
def VO:V->Bool
 |.non=>ai
 |.bl _=>ai
 |.int _=>ai
 |.str _=>ai
 |_=>ag
def eqV:V->V->Bool
 |.non,.non=>ai
 |.bl a,.bl b=>a==b
 |.bl a,.int b=>(if a then 1 else 0)==b
 |.int a,.bl b=>a==(if b then 1 else 0)
 |.int a,.int b=>a==b
 |.str a,.str b=>a==b
 |_,_=>ag
theorem zli(e:aU y u)(c:aU x v)(g:VO y=ai)(f:VO x=ai):SeqAt.EqAt A s u v (eqV y x):=by
 cases y with
 |non =>
  cases e;cases x with
  |non=>cases c;exact SeqAt.EqAt.same _
  |bl b=>cases c;exact SeqAt.EqAt.none_bool b
  |int b=>obtain⟨t,rfl⟩:=c;exact SeqAt.EqAt.none_int b t
  |str b=>obtain⟨t,rfl⟩:=c;exact SeqAt.EqAt.none_str b t
  |_=>exact absurd (show ag=ai from f) bT
 |bl a =>
  cases e;cases x with
  |non=>cases c;exact SeqAt.EqAt.bool_none a
  |bl b=>cases c;exact SeqAt.EqAt.bool_bool a b
  |int b=>obtain⟨t,rfl⟩:=c;exact SeqAt.EqAt.bool_int a b t
  |str b=>obtain⟨t,rfl⟩:=c;exact SeqAt.EqAt.bool_str a b t
  |_=>exact absurd (show ag=ai from f) bT
 |int a =>
  obtain⟨d,rfl⟩:=e;cases x with
  |non=>cases c;exact SeqAt.EqAt.int_none a d
  |bl b=>cases c;exact SeqAt.EqAt.int_bool a d b
  |int b=>obtain⟨t,rfl⟩:=c;exact SeqAt.EqAt.int_int a d b t
  |str b=>obtain⟨t,rfl⟩:=c;exact rF a d b t
  |_=>exact absurd (show ag=ai from f) bT
 |str a =>
  obtain⟨d,rfl⟩:=e;cases x with
  |non=>cases c;exact SeqAt.EqAt.str_none a d
  |bl b=>cases c;exact SeqAt.EqAt.str_bool a d b
  |int b=>obtain⟨t,rfl⟩:=c;exact rG a d b t
  |str b=>obtain⟨t,rfl⟩:=c;exact rP a d b t
  |_=>exact absurd (show ag=ai from f) bT
 |_=>exact absurd (show ag=ai from g) bT
def eqU(x:V)(u:ae):Bool:=match u with
 |.none=>eqV .non x
 |.bool b=>eqV (.bl b) x
 |.int i _=>eqV (.int i) x
 |.str z _=>eqV (.str z) x
 |_=>ag
theorem zhf(r:aU y u)(f:VO y=ai):eqU x u=eqV y x:=by
 cases y with
 |non=>cases r;rfl
 |bl b=>cases r;rfl
 |int i=>obtain⟨t,rfl⟩:=r;rfl
 |str z=>obtain⟨t,rfl⟩:=r;rfl
 |_=>exact absurd (show ag=ai from f) bT
theorem X3{x:V}:∀ {c:List V} {d:List ae},aQ c d->c.all VO=ai->d.any (eqU x)=c.any λy=>eqV y x
 |_,_,.nil,_=>rfl
 |y::c,u::d,.cons r t,f=>by
  rw[lq,bS] at f;rw[lu,lu,zhf r f.1,X3 t f.2]
theorem Zr{A:aq}{s:af}{x:V}{v:ae}(e:aU x v)(g:VO x=ai):∀ {c:List V} {d:List ae},aQ c d->c.all VO=ai->∀u∈d,SeqAt.EqAt A s u v (eqU x u)
 |_,_,.nil,_=>λu hu=>by cases hu
 |y::c,u::d,.cons r t,f=>λh hu=>by
  rw[lq,bS] at f;rcases bJ.mp hu with rfl|hu
  .rw[zhf r f.1];exact zli r e f.1 g
  .exact Zr e g t f.2 h hu
def inV(x:V)(c:List V):Bool:=c.any λy=>eqV y x
def rIn(K:bo)(d:Bool):R2:=λx y H Q=>∃p c,y=.ref p/\(aP K H p c\/tZ K H p c)/\VO x=ai/\c.all VO=ai/\Q (.bl (if d then !inV x c else inV x c)) H
theorem w6:ux X (Bi .In) (rIn X.K ag):=by
 intro n s l H x y v u Q I g j h;obtain⟨p,m,rfl,hq,i,d,q⟩:=h;cases j;rcases hq with hq|hq
 .obtain⟨c,r,e,k⟩:=I.list hq;refine SeqAt.in_listAt (eqU x) e.isList (λw f=>Zr g i r d w (by simpa using f)) ⟨.bl _,H,I,Y,?_⟩;rw[show c.toArray.any (eqU x)=c.any (eqU x) by simp,X3 r d];exact q
 .obtain⟨c,r,e,k⟩:=I.tuple hq;refine SeqAt.in_tupleAt (eqU x) e (λw f=>Zr g i r d w (by simpa using f)) ⟨.bl _,H,I,Y,?_⟩;rw[show c.toArray.any (eqU x)=c.any (eqU x) by simp,X3 r d];exact q
theorem zbp:ux X (Bi .NotIn) (rIn X.K ai):=by
 intro n s l H x y v u Q I g j h;obtain⟨p,m,rfl,hq,i,d,q⟩:=h;cases j;rcases hq with hq|hq
 .obtain⟨c,r,e,k⟩:=I.list hq;refine SeqAt.notIn_listAt (eqU x) e.isList (λw f=>Zr g i r d w (by simpa using f)) ⟨.bl _,H,I,Y,?_⟩;rw[show c.toArray.any (eqU x)=c.any (eqU x) by simp,X3 r d];exact q
 .obtain⟨c,r,e,k⟩:=I.tuple hq;refine SeqAt.notIn_tupleAt (eqU x) e (λw f=>Zr g i r d w (by simpa using f)) ⟨.bl _,H,I,Y,?_⟩;rw[show c.toArray.any (eqU x)=c.any (eqU x) by simp,X3 r d];exact q
theorem xO:xV X (.type "list") (λz H Q=>∃p f,z=[.ref p]/\(aP X.K H p f\/tZ X.K H p f)/\∀l,H l=ah->Q (.ref l) (upd H l (.lst f))):=by
 intro D s B H z E Q I r h;obtain⟨p,f,rfl,hq,q⟩:=h;obtain⟨u,rfl,C⟩:=xA r;cases C;have t:∀(c:List ae),aQ f c->f.length<=Bb->∀(d:ax) (i:Nat),(∀b A,s.heap.get? b=U A->d.get? b=U A) ->
   d.get? s.heap.objs.size=U { cls:=.type "list",dict:=ah,data:=.seq c.toArray i,slots:=#[] }->EP X D B Q (.ref s.heap.objs.size) { s with heap:=d }:=λc g k d i j e =>
  ⟨.ref s.heap.objs.size,_,I.laid (t':=s.toks) j (br _) (show aW X.prog X.w _ d _ (.lst f) from ⟨k,c,i,g,e⟩),Y,q _ (I.hok.fresh (br _))⟩
 rcases hq with hq|hq
 .obtain⟨c,g,v,k⟩:=I.list hq;have m:=g.length;obtain⟨o,w,y,n,x⟩:=v.isList;exact call_list_seq p (.inl Y) w y x (λd i j e=>t c g k d i j e) (by simp only[bM] <;> lia)
 .obtain⟨c,g,v,k⟩:=I.tuple hq;have m:=g.length;obtain⟨o,w,y,n,x⟩:=v;exact call_list_seq p (.inr Y) w y x (λd i j e=>t c g k d i j e) (by simp only[bM] <;> lia)
theorem Y2:xV X (.type "tuple") (λk H Q=>∃p d,k=[.ref p]/\((aP X.K H p d/\∀l,H l=ah->Q (.ref l) (upd H l (.tup d)))\/(tZ X.K H p d/\Q (.ref p) H))):=by
 intro t s j H k z Q I r h;obtain⟨p,d,rfl,h⟩:=h;obtain⟨u,rfl,w⟩:=xA r;cases w;rcases h with ⟨hq,q⟩|⟨hq,q⟩
 .obtain⟨c,g,i,m⟩:=I.list hq;have n:=g.length;refine call_tuple_list i.isList (λf x=>?_) (by simp only[bM] <;> lia);have v:aM X t j H { s with heap:=f }:=I.kept (t':=s.toks) x;have y:aM X t j (upd H f.objs.size (.tup d)) { s with heap:=f.push { cls:=.type "tuple",data:=.seq c.toArray } } :=
   v.laid (t':=s.toks) (λb o e=>bc _ e) (br _) (show aW X.prog X.w _ _ _ (.tup d) from ⟨m,c,g,IsTup.new _ _⟩)
  exact⟨.ref f.objs.size,_,y,Y,q _ (v.hok.fresh (br _))⟩
 .obtain⟨c,g,i,m⟩:=I.tuple hq;exact call_tuple_same i ⟨.ref p,H,I,Y,q⟩
def tyV(K:bo)(T:String)(x:V)(H:Hp):Prop:=match x with
 |.str _=>T="str"
 |.int _=>T="int"
 |.ref p=>(T="list"/\∃d,aP K H p d)\/(T="tuple"/\∃o,K.lookup p=U o/\o.cls=.type "tuple"/\o.dict=ah) \/
   (T="dict"/\((∃c,H p=U (.dK c))\/∃c,H p=U (.dT c)))\/(T="set"/\∃S n,H p=U (.set S n))
 |_=>False
theorem zhg{l:St}{H:Hp}{s:af}{T:String}{x:V}{v:ae}(I:aM X aa l H s)(r:aU x v)(f:tyV X.K T x H) :
  s.TypeIs v T/\∀a,v=.ref a->∃k,s.heap.get? a=U k/\k.dict=ah:=by
 cases x with
 |str z =>
  obtain⟨t,rfl⟩:=r;cases (show T="str" from f);exact⟨iq s z t,λ_ e=>nomatch e⟩
 |int i =>
  obtain⟨t,rfl⟩:=r;cases (show T="int" from f);exact⟨typeIs_int s i t,λ_ e=>nomatch e⟩
 |ref p =>
  cases r;rcases f with ⟨rfl,xs,hq⟩|⟨rfl,o,hk,hc,g⟩|⟨rfl,hk⟩|⟨rfl,S,n,hk⟩
  .obtain⟨m,_,j,_⟩:=I.list hq;refine⟨j.isList.typeIs,λa e=>?_⟩;cases e;obtain⟨o,n,e,c,g,_⟩:=j;exact⟨o,e,g⟩
  .refine⟨⟨o,I.kIn p o hk,hc⟩,λa e=>?_⟩;cases e;exact⟨o,I.kIn _ o hk,g⟩
  .have z:∃o,s.heap.get? p=U o/\o.ExactDict:=by
    rcases hk with ⟨aL,hk⟩|⟨aL,hk⟩
    .obtain⟨_,_,_,_,o,_,_,e,d,_⟩:=I.hok p _ hk;exact⟨o,e,d⟩
    .obtain⟨_,_,_,_,o,_,_,e,d,_⟩:=I.hok p _ hk;exact⟨o,e,d⟩
   obtain⟨o,e,d⟩:=z;refine⟨⟨o,e,d.1⟩,λa h=>?_⟩;cases h;exact⟨o,e,d.2.1⟩
  .obtain⟨o,_,_,_,e,d,_⟩:=I.hok p _ hk;refine⟨⟨o,e,d.1⟩,λa h=>?_⟩;cases h;exact⟨o,e,d.2.1⟩
 |_=>exact cx f
def QE(K:bo)(T:String)(r:V->List V->Hp->VK->Prop)(e:TE):TE:=λd H Q=>e d H λx c=>tyV K T x c/\r x [] c Q
def ud(K:bo)(T:String)(r:V->List V->Hp->VK->Prop)(f:TE)(t:TA):TE:=λc H Q=>f c H λx d=>tyV K T x d/\t c d λe g=>r x e g Q
variable {o e:ay}{es:List ay}{to:TE}{t:TA}{name:Str}{tV tX:Pos}{T id:String}{r:V->List V->Hp->VK->Prop}
theorem Zs(q:PlainAttrs T)(f:Slot T name id)(g:typeOf (.builtin id)=pure (.type "method_descriptor"))(w:MtR X id r)(u:PE X o to) (d:attributeBase o name X.env (eval o X.env)=eval o X.env:=by rfl) (c:(tV.endLine==tX.line)=ai:=by rfl):PE X (.Call (.Attribute o name tV) [] [] tX) (QE X.K T r to):=by
 intro k s i H Q I h;refine on d c (aY (u k s i H _ I h) ?_);rintro v n ⟨x,A,l,j,m,p⟩;obtain⟨z,y⟩:=zhg l j m;exact⟨T,id,q,f,g,z,y,eV Y (rg (w k n i A x [] v [] Q l j .nil p))⟩
theorem yt(D:PlainAttrs T)(g:Slot T name id)(k:typeOf (.builtin id)=pure (.type "method_descriptor"))(J:MtR X id r)(G:PE X o to)(M:PA X (e::es) t) (f:attributeBase o name X.env (eval o X.env)=eval o X.env:=by rfl) (i:((backTo tX (Be (e::es) X.env)).all (λx=>!x.1)&&(backToKw tX (keywordEach [] X.env)).all (λx=>x.1.isSome)
   && decide ((e::es).length+([]:List Keyword).length+(if ([]:List Keyword).isEmpty then 0 else 1)<30))=ai:=by rfl) (d:(tV.endLine==tX.line)=ai:=by rfl) (E:Be (e::es) X.env=(ag,eval e X.env)::Be es X.env:=by rfl) (c:(backTo tX (Be es X.env)).any (·.1)=ag:=by rfl) :
  PE X (.Call (.Attribute o name tV) (e::es) [] tX) (ud X.K T r to t):=by
 intro l s j H Q I h;refine wpAny_Call_method_late f i d Y (aY (G l s j H _ I h) ?_);rintro v z ⟨x,H1,p,m,w,C⟩;obtain⟨O,N⟩:=zhg p m w;refine⟨T,id,D,g,k,O,N,?_⟩;have n:=M tX l z j H1 _ p C;rw[E] at n ⊢;refine eV (by show (ag || (backTo tX (Be es X.env)).any (·.1))=ag;rw[c] <;> rfl) (f7 ?_);exact aY n λu y ⟨q,H2,I2,A,B⟩=>J l y j H2 x q v u Q I2 m A B
end
def MtM(X:Cx)(id:String)(r:V->List V->Hp->VK->Prop):Prop :=
 ∀(d:List (L×Obj)) (s:af) (a:St) (H:Hp) (x:V) (b:List V) (v:ae) (c:List ae) (Q:VK),aM X d a H s->aU x v->aQ b c->r x b H Q ->
  Bf (Bg X.prog X.w) X.A (call (.builtin id) (v::c)) (EP X d a Q) X.xe s
theorem aQ.one:∀ {x:V} {a:List ae},aQ [x] a->∃u,a=[u]/\aU x u
 |_,_,.cons r .nil=>⟨_,Y,r⟩
theorem aQ.zero:∀ {a:List ae},aQ [] a->a=[]
 |_,.nil=>rfl
theorem aQ.dropLast(h:aQ xs us):aQ xs.dropLast us.dropLast:=by
 induction h with
 |nil=>exact .nil
 |cons r t ih =>
  cases t with
  |nil=>exact .nil
  |cons q t'=>exact .cons r ih
theorem aQ.eraseIdx:∀ {a:List V} {b:List ae} (i:Nat),aQ a b->aQ (a.eraseIdx i) (b.eraseIdx i)
 |_,_,_,.nil=>.nil
 |_,_,0,.cons _ t=>t
 |_,_,i+1,.cons r t=>.cons r (aQ.eraseIdx i t)
theorem zem{c:Type}(l:List c):l.eraseIdx (l.length-1)=l.dropLast:=by
 induction l with
 |nil=>rfl
 |cons a r ih =>
  cases r with
  |nil=>rfl
  |cons b r =>
   have e:(a::b::r).length-1=((b::r).length-1)+1:=by
    have f:(a::b::r).length=r.length+2:=rfl;have d:(b::r).length=r.length+1:=rfl;lia
   rw[e,lA,ih]
   all_goals rfl
theorem zaE{a:Type}:∀(l:List a) (i:Nat),(l.eraseIdx i).length<=l.length
 |[],_=>br _
 |_::_,0=>eM _
 |_::r,i+1=>oN (zaE r i)
section
variable {X:Cx}{aa:List (L×Obj)}{σ:St}{H:Hp}{s:af}{l b:L}{xs ys zs:List V}
theorem aM.lset{its its':List ae}{n:Nat}{f:Array ae->Array ae}(I:aM X aa σ H s)(k:H l=U (.lst xs)) (e:s.heap.get? l=U { cls:=.type "list",data:=.seq its.toArray n }) (h:f its.toArray=its'.toArray) (d:aQ ys its') (a:ys.length<=Bb) :
  aM X aa σ (upd H l (.lst ys)) { s with heap:=s.heap.update l (fm f),toks:=t' }:=by
 have q:=PySem.IsL.update e f;rw[h] at q;refine I.write (x:=l) (e:=l) (by rw[k];exact trivial) (.inl Y) (λo u j g=>(cO s.heap (fm f) (cK j)).trans g) ⟨_,q⟩ ?_;exact⟨a,its',_,d,q⟩
theorem aM.lnew(I:aM X aa σ H s)(d:aQ ys its)(a:ys.length<=Bb) :
  aM X aa σ (upd H s.heap.objs.size (.lst ys)) { s with heap:=s.heap.push { cls:=.type "list",data:=.seq its.toArray },toks:=t' }:=
 I.laid (λ_ _ q=>bc _ q) (br _) ⟨a,its,0,d,bp _ Y⟩
theorem aM.fresh(I:aM X aa σ H s):H s.heap.objs.size=ah:=I.hok.fresh (br _)
theorem aM.lstM(I:aM X aa σ H s)(d:H l=U (.lst xs)):xs.length<=Bb/\∃(a:List ae) (n:Nat),aQ xs a/\xs.length=a.length/\s.heap.get? l=U { cls:=.type "list",data:=.seq a.toArray n }:=by
 obtain⟨z,a,n,r,e⟩:=I.hok l _ d;exact⟨z,a,n,r,r.length,e⟩
theorem zhh(h:n<=Bb):i4 n=ag:=by
 unfold i4;exact Bk ()
end
section
variable {X:Cx}
def YG:V->List V->Hp->VK->Prop:=λx b H Q=>∃l a y,x=.ref l/\b=[y]/\H l=U (.lst a)/\a.length<Bb/\Q .non (upd H l (.lst (a++[y])))
theorem z8:MtM X "list.append" YG:=by
 intro p s g H x j v k Q I c d h;obtain⟨l,i,y,rfl,rfl,b,m,q⟩:=h;cases c;obtain⟨u,rfl,f⟩:=d.one;obtain⟨z,a,n,r,o,e⟩:=I.lstM b;refine fO F.slot_list_append ⟨_,e,Y⟩ F.entry_list_append (F.args_list_append_2 _ _) (PySem.list_append l a.toArray n u (by rw[bM];lia)) ⟨e,?_⟩;refine⟨.non,_,I.lset (its':=a++[u]) b e (by simp) (r.append (.cons f .nil)) ?_,Y,q⟩;rw[bn,gL];lia
def zbq:V->List V->Hp->VK->Prop:=λx d H Q=>∃l b c a,x=.ref l/\d=[.ref b]/\H l=U (.lst c)/\H b=U (.lst a)/\c.length+a.length<=Bb/\Q .non (upd H l (.lst (c++a)))
theorem W5:MtM X "list.extend" zbq:=by
 intro M s y H x D v E Q I i j h;obtain⟨l,b,C,A,rfl,rfl,g,t,G,q⟩:=h;cases i;obtain⟨u,rfl,k⟩:=j.one;cases k;obtain⟨z,c,n,r,J,e⟩:=I.lstM g;obtain⟨B,a,o,m,p,w⟩:=I.lstM t;have f:c.toArray.size+a.toArray.size<=Bb:=by rw[bM,bM];lia
 have d:¬ (!c.toArray.isEmpty&&i4 (c.toArray.size+a.toArray.size))=ai:=by
  rw[zhh f,iF];exact bT
 refine fO F.slot_list_extend ⟨_,e,Y⟩ F.entry_list_extend (F.args_list_extend_2 _ _) (AutoSeq1.list_extend_list_list_0 l c.toArray n b a.toArray o d (by rw[bM];lia) ()) ⟨e,w,?_⟩
 refine⟨.non,_,I.lset (its':=c++a) g e (by simp) (r.append m) ?_,Y,q⟩;rw[bn];lia
def zlj:V->List V->Hp->VK->Prop:=λx b H Q=>∃l a y,x=.ref l/\b=[]/\H l=U (.lst a)/\a[a.length-1]?=U y/\Q y (upd H l (.lst a.dropLast))
theorem Zt:MtM X "list.pop" zlj:=by
 intro A s o H x t v w Q I f g h;obtain⟨l,p,y,rfl,rfl,d,j,q⟩:=h;cases f;have c:=g.zero;subst c;obtain⟨z,a,n,r,m,e⟩:=I.lstM d;obtain⟨u,k,i⟩:=r.get j;have b:a.toArray[a.toArray.size-1]?=U u:=by
  show a.toArray[a.length-1]?=U u;rw[<-cQ,<-m];exact k
 refine fO F.slot_list_pop ⟨_,e,Y⟩ F.entry_list_pop (F.args_list_pop_1 _) (MeetsSeq.list_pop_last l a.toArray n u b (by rw[bM];lia)) ⟨e,?_⟩;refine⟨y,_,I.lset (its':=a.dropLast) d e ?_ r.dropLast ?_,i,q⟩
 .show a.toArray.eraseIdxIfInBounds (a.toArray.size-1)=a.dropLast.toArray;rw[bM,lT,zem]
 .rw[List.length_dropLast];lia
def Zu:R2:=λx y H Q=>∃l b c a,x=.ref l/\y=.ref b/\H l=U (.lst c)/\H b=U (.lst a)/\c.length+a.length<=Bb/\∀p,H p=ah->Q (.ref p) (upd H p (.lst (c++a)))
theorem ka:ux X (binaryOp .Add) Zu:=by
 intro E s p H x y v u Q I f d h;obtain⟨l,b,A,t,rfl,rfl,j,k,C,q⟩:=h;cases f;cases d;obtain⟨z,c,n,r,D,e⟩:=I.lstM j;obtain⟨w,a,B,g,i,o⟩:=I.lstM k;refine PySem.P.add_list e o ?_ (by rw[bM,bM];lia);have m:c.toArray++a.toArray=(c++a).toArray:=by simp
 rw[m];exact⟨.ref _,_,I.lnew (t':=s.toks) (r.append g) (by rw[bn];lia),Y,q _ I.fresh⟩
end
section
variable {prog:ap}{w:au}{A:aq}{E:ae->af->Prop}{s:af}
set_option maxRecDepth 100000 in
end
section
variable {κ:Type} [DecidableEq κ]
def yq(b:List (κ×V))(k:κ):Option V:=(b.find? λa=>decide (a.1=k)).map (·.2)
def yQ(b:List (κ×V))(k:κ)(v:V):List (κ×V) :=
 if (b.any λa=>decide (a.1=k))=ai then b.map (λa=>if a.1=k then (a.1,v) else a) else b++[(k,v)]
def yx(b:List (κ×V))(k:κ):List (κ×V):=b.filter λa=>decide (a.1≠k)
theorem zhi :yq ([]:List (κ×V)) k=ah:=rfl
theorem yY{p:κ×V}{r:List (κ×V)}(e:p.1=k):yq (p::r) k=U p.2:=by simp[yq,gM,e]
theorem yZ{p:κ×V}{r:List (κ×V)}(e:¬ p.1=k):yq (p::r) k=yq r k:=by simp[yq,gM,e]
theorem kD(k:κ):∀a:List (κ×V),(a.any λb=>decide (b.1=k))=(yq a k).isSome
 |[]=>rfl
 |p::r=>by
  rw[lu];by_cases e:p.1=k
  .simp only[yY e,Bj e,Bool.true_or,Option.isSome_some]
  .rw[yZ e,Bk e,Bool.false_or];exact kD k r
theorem jN(a:List (κ×V))(k:κ)(v:V):(yQ a k v).length<=a.length+1:=by
 unfold yQ;split
 .rw[bi];lia
 .rw[bn,bR,lB];lia
theorem X4{a:List (κ×V)}(v:V)(h:yq a k=ah):yQ a k v=a++[(k,v)]:=by
 unfold yQ;rw[kD,h];exact am ()
theorem ug.isSome_eq(r:ug o u):o.isSome=u.isSome:=by
 cases o with
 |none=>cases u with
  |none=>rfl
  |some _=>exact(show False from r).elim
 |some _=>cases u with
  |none=>exact(show False from r).elim
  |some _=>rfl
theorem ug.getD(r:ug o u)(a:aU d d'):aU (o.getD d) (u.getD d'):=by
 cases o with
 |none=>cases u with
  |none=>exact a
  |some _=>exact(show False from r).elim
 |some _=>cases u with
  |none=>exact(show False from r).elim
  |some _=>exact r
theorem KV.val(r:KV aL vs)(k:κ):ug (yq aL k) (valueAt vs k):=by
 unfold KV at r;induction r with
 |nil=>exact fM
 |@cons p q ps qs h t ih =>
  obtain⟨c,d⟩:=h;by_cases e:p.1=k
  .have a:q.1=k:=c.symm.trans e;have b:valueAt (q::qs) k=U q.2:=by simp[valueAt,gM,a]
   rw[yY e,b];exact d
  .have a:¬ q.1=k:=λz=>e (c.trans z);have b:valueAt (q::qs) k=valueAt qs k:=by simp[valueAt,gM,a]
   rw[yZ e,b];exact ih
theorem KV.any(r:KV aL vs)(k:κ):(aL.any λa=>decide (a.1=k))=vs.any λa=>decide (a.1=k):=by
 unfold KV at r;induction r with
 |nil=>rfl
 |cons h t ih=>rw[lu,lu,ih,h.1]
theorem KV.repl(r:KV aL vs)(k:κ)(c:aU y u) :
  KV (aL.map λa=>if a.1=k then (a.1,y) else a) (vs.map λa=>if a.1=k then (a.1,u) else a):=by
 unfold KV at r ⊢;induction r with
 |nil=>exact .nil
 |@cons p q ps qs h t ih =>
  rw[bN,bN];refine .cons ?_ ih;obtain⟨b,d⟩:=h;by_cases e:p.1=k
  .rw[ao e,ao (b.symm.trans e)];exact⟨b,c⟩
  .rw[am e,am (λz=>e (b.trans z))];exact⟨b,d⟩
theorem KV.put(r:KV aL vs)(k:κ)(a:aU y u):KV (yQ aL k y) (stored vs k u):=by
 unfold yQ stored;rw[r.any k];by_cases e:(vs.any λb=>decide (b.1=k))=ai
 .rw[ao e,ao e];exact r.repl k a
 .rw[am e,am e];exact Paired.snoc r ⟨Y,a⟩
theorem KV.drop(r:KV aL vs)(k:κ):KV (yx aL k) (without vs k):=by
 unfold KV at r ⊢;unfold yx without;induction r with
 |nil=>exact .nil
 |@cons p q ps qs h t ih =>
  obtain⟨c,d⟩:=h;rw[eC,eC];by_cases e:p.1=k
  .have a:¬ decide (p.1≠k)=ai:=by simp[e]
   have b:¬ decide (q.1≠k)=ai:=by simp[c.symm.trans e]
   rw[am a,am b];exact ih
  .have f:¬ q.1=k:=λz=>e (c.trans z);have a:decide (p.1≠k)=ai:=by simp[e]
   have b:decide (q.1≠k)=ai:=by simp[f]
   rw[ao a,ao b];exact .cons ⟨c,d⟩ ih
theorem KV.length{a:List (κ×ae)}(r:KV aL a):aL.length=a.length:=cT r
theorem zhk(a:List (κ×V))(k:κ):(yx a k).length<=a.length:=pA _ _
end
theorem VP(r:aU (kV k) u):(yH P w).is k u=ai:=by
 cases k with
 |inl i=>obtain⟨t,e⟩:=(show ∃t,u=gu i t from r);subst e;exact zcB P w i t
 |inr x=>obtain⟨t,e⟩:=(show ∃t,u=mh x t from r);subst e;exact zcC P w x t
theorem zaF{P:ap}{w:au}:∀ {a:List bv} {b:List ae},aQ (a.map kV) b->ItemsAre (yH P w) a b
 |[],_,r=>by rw[mn] at r;cases r;exact .nil
 |k::a,_,r=>by
  rw[bN] at r;cases r with
  |cons h t=>exact .cons (VP h) (zaF t)
abbrev KT(H:Hp):List (List bv×V)->List (List bv×L×ae)->Prop:=Paired λp q=>p.1=q.1/\H q.2.1=U (.tup (p.1.map kV))/\aU p.2 q.2.2
theorem KT.val{H:Hp}{f:List (List bv×V)}{c:List (List bv×L×ae)}(r:KT H f c)(k:List bv):ug (yq f k) ((atKey c k).map (·.2)):=by
 induction r with
 |nil=>exact fM
 |@cons p q ps qs h t ih =>
  obtain⟨d,_,g⟩:=h;by_cases e:p.1=k
  .have a:q.1=k:=d.symm.trans e;have b:atKey (q::qs) k=U q.2:=by simp[atKey,gM,a]
   rw[yY e,b];exact g
  .have a:¬ q.1=k:=λz=>e (d.trans z);have b:atKey (q::qs) k=atKey qs k:=by simp[atKey,gM,a]
   rw[yZ e,b];exact ih
theorem KT.repl{H:Hp}(r:KT H aL xs)(k:List bv)(d:aU y u) :
  KT H (aL.map λb=>if b.1=k then (b.1,y) else b) (xs.map (putAt k u)):=by
 induction r with
 |nil=>exact .nil
 |@cons p q ps qs h t ih =>
  rw[bN,bN];refine .cons ?_ ih;obtain⟨a,c,f⟩:=h;unfold putAt;by_cases e:p.1=k
  .rw[ao e,ao (a.symm.trans e)];exact⟨a,c,d⟩
  .rw[am e,am (λz=>e (a.trans z))];exact⟨a,c,f⟩
theorem KT.put{H:Hp}(r:KT H aL xs)(k:List bv)(d:H b=U (.tup (k.map kV)))(a:aU y u) :
  KT H (yQ aL k y) (storedH xs k b u):=by
 have e:(aL.any λc=>decide (c.1=k))=(atKey xs k).isSome:=by
  rw[kD,(r.val k).isSome_eq,nS]
 unfold yQ storedH;rw[e];by_cases q:(atKey xs k).isSome=ai
 .rw[ao q,ao q];exact r.repl k a
 .rw[am q,am q];exact Paired.snoc r ⟨Y,d,a⟩
theorem KT.keeps{H c:Hp}(r:KT H aL xs)(d:∀b a,H b=U (.tup a)->c b=U (.tup a)):KT c aL xs:=
 Paired.mapP r λ_ _ z=>⟨z.1,d _ _ z.2.1,z.2.2⟩
section
variable {P:ap}{w:au}{H:Hp}{h:ax}{a:L}
theorem zkS(b:uz P w H h)(e:Rd H a u):aW P w H h a u:=e.ok b
theorem JW(b:uz P w H h)(e:Rd H a (.dK aL)):aL.length<=Bb/\(a==sysModules)=ag/\∃vs,KV aL vs/\h.DictOf (yH P w) a vs:=
 show aW P w H h a (.dK aL) from zkS b e
theorem zhl(b:uz P w H h)(e:H a=U (.dK aL)):aL.length<=Bb/\(a==sysModules)=ag/\∃vs,KV aL vs/\h.DictOf (yH P w) a vs:=JW b (.inl e)
theorem Xi(c:uz P w H h)(e:H a=U (.tup (ks.map kV))):(tupleKind (yH P w)).is h ks a:=by
 obtain⟨_,b,r,o,g,f,n,d⟩:=(show aW P w H h a (.tup (ks.map kV)) from c a _ e);exact⟨o,b.toArray,n,g,f,d,by simpa using zaF r⟩
theorem JX(c:uz P w H h)(e:Rd H a (.dT aL)):aL.length<=Bb/\(a==sysModules)=ag /\
  ∃xs,KT H aL xs/\h.DictOfH (tupleKind (yH P w)) a xs:=by
 obtain⟨z,y,xs,r,o,k,n,j,i,g,f,d⟩:=(show aW P w H h a (.dT aL) from zkS c e);refine⟨z,y,xs,r,o,k,n,j,i,g,f,λx hx=>?_,d⟩;have b:∀ {l:List (List bv×V)} {m:List (List bv×L×ae)},KT H l m->∀x∈m,(tupleKind (yH P w)).is h x.1 x.2.1:=by
  intro l m q;induction q with
  |nil=>intro x hx;exact nomatch hx
  |@cons p q ps qs hq t ih =>
   intro x hx;rcases bJ.mp hx with e|hx
   .subst e;exact Xi c (by rw[<-hq.1];exact hq.2.1)
   .exact ih x hx
 exact b r x hx
theorem zhm(b:uz P w H h)(e:H a=U (.dT aL)):aL.length<=Bb/\(a==sysModules)=ag /\
  ∃xs,KT H aL xs/\h.DictOfH (tupleKind (yH P w)) a xs:=JX b (.inl e)
end
def DGet(H:Hp)(a:L)(y:V)(r:Option V):Prop :=
 (∃c k,Rd H a (.dK c)/\y=kV k/\r=yq c k)\/∃c k b,Rd H a (.dT c)/\y=.ref b/\H b=U (.tup (k.map kV))/\r=yq c k
def DPut(H:Hp)(a:L)(y v:V)(d:Hp):Prop :=
 (∃c k,H a=U (.dK c)/\y=kV k/\c.length<Bb/\d=upd H a (.dK (yQ c k v))) \/
 ∃c k b,H a=U (.dT c)/\y=.ref b/\H b=U (.tup (k.map kV))/\c.length<Bb/\d=upd H a (.dT (yQ c k v))
theorem DGet.k{H:Hp}{b:List (bv×V)}{k:bv}(e:H a=U (.dK b)):DGet H a (kV k) (yq b k):=.inl ⟨b,k,.inl e,Y,Y⟩
theorem DPut.k{H:Hp}{b:List (bv×V)}{k:bv}(e:H a=U (.dK b))(c:b.length<Bb):DPut H a (kV k) v (upd H a (.dK (yQ b k v))):=.inl ⟨b,k,e,Y,c,Y⟩
section
variable {X:Cx}{aa:List (L×Obj)}{σ:St}{H:Hp}{s:af}{a:L}{y v:V}{u r:ae}{o:Option V}{A:aq}{E:ae->af->Prop}
theorem aM.big(I:aM X aa σ H s):sysModules<s.heap.objs.size:=by
 have h:Bd<s.heap.objs.size:=(I.mod.glob.keeps I.bk).lt;exact pB () h
theorem zga{Q:ae->af->Prop}(x:A.units+1<cLine)(I:aM X aa σ H s)(g:DGet H a y (U v))(q:aU y u)(h:∀f n,aM X aa σ H n->aU v f->Q f n) :
  Bf (Bg X.prog X.w) A (getItem (.ref a) u) Q E s:=by
 rcases g with ⟨aL,k,e,ey,l⟩|⟨aL,k,b,e,ey,eb,l⟩
 .subst ey;obtain⟨z,C,w,d,m⟩:=JW I.hok e;obtain⟨f,i,c⟩:=ug.some_of (v:=v) (o:=valueAt w k) (by rw[l];exact d.val k);exact wpAny_getItem_of (VP q) m.mapOf i (h f _ (I.tok _) c)
 .subst ey;cases (show u=bH b from q);obtain⟨z,C,t,d,m⟩:=JX I.hok e;obtain⟨f,i,c⟩:=ug.some_of (v:=v) (o:=(atKey t k).map (·.2)) (by rw[l];exact d.val k);obtain⟨p,B,j⟩:=cY.mp i;refine wpAny_getItem_heap (fR x) (Xi I.hok eb) m B ?_;rw[j];exact h f _ (I.tok _) c
theorem zmR{Q:ae->af->Prop}(m:A.units+1<cLine)(I:aM X aa σ H s)(g:DGet H a y o)(j:aU y u)(h:∀i,aM X aa σ H i->Q (.bool o.isSome) i) :
  Bf (Bg X.prog X.w) A (Bi .In u (.ref a)) Q E s:=by
 rcases g with ⟨aL,k,e,ey,l⟩|⟨aL,k,b,e,ey,eb,l⟩
 .subst ey;obtain⟨z,d,p,c,f⟩:=JW I.hok e;refine wpAny_in_of (VP j) d f.mapOf ?_;rw[<-(c.val k).isSome_eq,<-l];exact h _ (I.tok _)
 .subst ey;cases (show u=bH b from j);obtain⟨z,d,n,c,f⟩:=JX I.hok e;refine wpAny_in_heap (fR m) (Xi I.hok eb) d f ?_;have q:=(c.val k).isSome_eq;rw[nS] at q;rw[<-q,<-l];exact h _ (I.tok _)
theorem zjv{Q:ae->af->Prop}(m:A.units+1<cLine)(I:aM X aa σ H s)(g:DGet H a y o)(j:aU y u)(h:∀i,aM X aa σ H i->Q (.bool (!o.isSome)) i) :
  Bf (Bg X.prog X.w) A (Bi .NotIn u (.ref a)) Q E s:=by
 rcases g with ⟨aL,k,e,ey,l⟩|⟨aL,k,b,e,ey,eb,l⟩
 .subst ey;obtain⟨z,d,p,c,f⟩:=JW I.hok e;refine wpAny_notIn_of (VP j) d f.mapOf ?_;rw[<-(c.val k).isSome_eq,<-l];exact h _ (I.tok _)
 .subst ey;cases (show u=bH b from j);obtain⟨z,d,n,c,f⟩:=JX I.hok e;refine wpAny_notIn_heap (fR m) (Xi I.hok eb) d f ?_;have q:=(c.val k).isSome_eq;rw[nS] at q;rw[<-q,<-l];exact h _ (I.tok _)
theorem JH(I:aM X aa σ H s)(d:Mut (H a))(f:cV a s.heap h')(g:∃q,h'.get? a=U q)(c:aW X.prog X.w (upd H a ob) h' a ob) :
  aM X aa σ (upd H a ob) { s with heap:=h',toks:=t' }:=
 I.write (x:=a) (e:=a) d (.inl Y) (λb q h z=>(f.2 b h).trans z) g c
theorem zhn{e:Hp}(z:aL.length<=Bb)(c:(a==sysModules)=ag)(b:KV aL vs)(d:h'.DictOf (yH P w) a vs) :
  aW P w e h' a (.dK aL):=⟨z,c,vs,b,d⟩
theorem zgb{G:Hp}{Q:Unit->af->Prop}(N:A.units+1<cLine)(I:aM X aa σ H s)(g:DPut H a y v G)(x:aU y u)(B:aU v r)(h:∀w,aM X aa σ G w->Q PUnit.unit w) :
  Bf (Bg X.prog X.w) A (setItem (.ref a) u r) Q E s:=by
 rcases g with ⟨aL,k,e,ey,l,eH⟩|⟨aL,k,b,e,ey,eb,l,eH⟩
 .subst ey eH;obtain⟨z,p,M,d,t⟩:=zhl I.hok e;have j:M.length<=Bb:=by rw[<-d.length];exact z
  have n:(yQ aL k v).length<=Bb:=by have:=jN aL k v;lia
  refine wpAny_setItem_pairs (hsz:=j) (VP x) t λC f m=>h _ ?_;have O:∃q,C.get? a=U q:=let ⟨q,_,_,i,_⟩:=f;⟨q,i⟩
  exact JH I (by rw[e];exact fM) m O (zhn n p (d.put k B) f)
 .subst ey eH;cases (show u=bH b from x);obtain⟨z,p,J,d,t⟩:=zhm I.hok e;have j:J.length<=Bb:=by rw[<-cT d];exact z
  have n:(yQ aL k v).length<=Bb:=by have:=jN aL k v;lia
  refine wpAny_setItem_heap (hsz:=j) (fR N) (Xi I.hok eb) t λC f m=>h _ ?_;obtain⟨q,es,ep,i,h2,h3,h4,_,T⟩:=f;refine JH I (by rw[e];exact fM) m ⟨q,i⟩ ⟨n,p,_,(d.put k eb B).keeps λc ys D=>?_,q,es,ep,i,h2,h3,h4,T⟩;rw[zm (zU D e ())];exact D
end
section
variable {X:Cx}{aa:List (L×Obj)}{σ:St}{H:Hp}{s:af}{a:L}{aL:List (bv×V)}{k:bv}{u:ae}{A:aq}{E:ae->af->Prop}
theorem zkT{Q:ae->af->Prop}(I:aM X aa σ H s)(e:H a=U (.dK aL))(f:aU (kV k) u)(l:yq aL k=U v)(n:more=[]\/∃x,more=[x]) (h:∀c m,aM X aa σ (upd H a (.dK (yx aL k))) m->aU v c->Q c m):Bf (Bg X.prog X.w) A (call (.builtin "dict.pop") (.ref a::u::more)) Q E s:=by
 obtain⟨z,C,j,b,p⟩:=zhl I.hok e;obtain⟨c,r,g⟩:=ug.some_of (v:=v) (o:=valueAt j k) (by rw[<-l];exact b.val k);have y:(keyPart u).isSome=ai:=by
  cases k with
  |inl i=>obtain⟨t,q⟩:=(show ∃t,u=gu i t from f);subst q;rfl
  |inr x=>obtain⟨t,q⟩:=(show ∃t,u=mh x t from f);subst q;rfl
 have D:argsOk "dict.pop" ⟨.ref a::u::more,[]⟩:=by
  rcases n with q|⟨x,q⟩
  .subst q;exact PySem.F.args_dict_pop_2 _ _
  .subst q;exact oo _ _ _
 refine pC gN p.typeIs oX D (meets_dict_pop_there (yH X.prog X.w) a (VP f) more n y)
  ⟨j,c,p,by rw[<-b.length];exact z,r,λG d w=>h c _ ?_ g⟩
 have B:∃q,G.get? a=U q:=let ⟨q,_,_,hq,_⟩:=d;⟨q,hq⟩
 exact JH I (by rw[e];exact fM) w B (zhn (cg (zhk aL k) z) C (b.drop k) d)
theorem zlk{Q:ae->af->Prop}(I:aM X aa σ H s)(e:H a=U (.dK aL))(b:aU (kV k) u)(l:yq aL k=ah)(h:∀f,aM X aa σ H f->Q r f) :
  Bf (Bg X.prog X.w) A (call (.builtin "dict.pop") [.ref a,u,r]) Q E s:=by
 obtain⟨z,n,d,c,g⟩:=zhl I.hok e;have m:valueAt d k=ah:=ug.none_of (by rw[<-l];exact c.val k);have j:(keyPart u).isSome=ai:=by
  cases k with
  |inl i=>obtain⟨t,q⟩:=(show ∃t,u=gu i t from b);subst q;rfl
  |inr x=>obtain⟨t,q⟩:=(show ∃t,u=mh x t from b);subst q;rfl
 exact pC gN g.typeIs oX (oo _ _ _) (meets_dict_pop_default (yH X.prog X.w) a (VP b) n j r) ⟨d,g,m,h _ (I.tok _)⟩
end
def zmn(i:ay):Prop:=∀a b,subscripted i ag a b=operate [a,b] (getItem a b)
theorem zjw{E:ae->af->Prop}{e:Env}{j:Pos}{T id:String}{Q:ae->af->Prop}
  (m:typeLookup (.type T) "__getitem__"=pure (U (.builtin id))) (l:zmn slice) (h:Bf (Bg prog w) A (eval value e) (λo c=>Bf (Bg prog w) A (eval slice e) (λi s₂=>s₂.TypeIs o T/\Bf (Bg prog w) A (getItem o i) Q E s₂) E c) E s) :
  Bf (Bg prog w) A (eval (.Subscript value slice j) e) Q E s:=by
 refine Subscript_ (cU h (λo c g=>cU g (λi s₂ a=>?_) λ_ _ x=>x) λ_ _ x=>x);obtain⟨k,a⟩:=a;unfold subscriptTail;refine ba ?_;rw[getitemInPython_of_ne k.not_modules];refine ba (wpAny_specialOf k m ?_);have d:Bf (Bg prog w) A (subscripted slice ag o i) (λr b=>Bf (Bg prog w) A (letTemporaryGo value o r >>= λ_=>pure r) Q E b) E s₂:=by
  rw[l o i];exact wpAny_operating (cU a (λr b f=>ba (wpAny_letTemporaryGo (bf f))) λ_ _ x=>x)
 first
  |exact bf (ba d)
  |exact ba (bf (ba d))
  |exact ba d
theorem zcL{f:List (L×Obj)}{d:St}{H:Hp}{s:af}{a:L}{y:V}{o:Option V}(I:aM X f d H s)(g:DGet H a y o):s.TypeIs (.ref a) "dict":=by
 rcases g with ⟨aL,k,e,_,_⟩|⟨aL,k,b,e,_,_,_⟩
 .obtain⟨_,_,i,_,c⟩:=JW I.hok e;exact c.typeIs
 .obtain⟨_,_,h,_,c⟩:=JX I.hok e;exact c.typeIs
def JY(e d:TE):TE:=λb H Q=>e b H λx f=>d b f λy c=>∃a v,x=.ref a/\DGet c a y (U v)/\Q v c
def VQ(f d e:TE):TS:=λD b H=>e b H λv i=>f b i λx h=>d b h λy g=>∃a c,x=.ref a/\DPut g a y v c/\D.nx b c
section
variable {X:Cx}{o i e value:ay}{pos pos' tpos:Pos}{td ty tv:TE}
theorem X5(p:X.A.units+1<cLine)(r:PE X o td)(t:PE X i ty)(q:zmn i):PE X (.Subscript o i pos) (JY td ty):=by
 intro d s c H Q I h;refine zjw PySem.F.slot_dict_getitem.lookup q (aY (r d s c H _ I h) λu j ⟨x,C,A,l,n⟩=>aY (t d j c C _ A n) ?_);rintro J G ⟨y,B,f,k,a,v,w,g,m⟩;subst w;obtain rfl:u=bH a:=l;exact⟨zcL f g,zga p f g k λD E z b=>⟨v,B,z,b,m⟩⟩
theorem qf(t:X.A.units+1<cLine)(z:PE X o td)(A:PE X i ty)(q:PE X value tv)(w:swapsWith value (U (.Subscript o i pos')) pos.line X.env=pure ag) :
  PS X (.Assign [.Subscript o i pos'] value pos) (VQ td ty tv):=by
 intro c s b H D I h;refine oY (aY (q c s b H _ I h) λr f ⟨v,O,J,l,p⟩=>aY (z c f b O _ J p) λu d ⟨x,N,G,k,n⟩=>aY (A c d b N _ G n) ?_) w;rintro iv T ⟨y,H3,E,j,a,M,B,g,m⟩;subst B;obtain rfl:u=bH a:=k;exact zgb t E g j l λQ C=>⟨b,M,C,m⟩
end
theorem zho{H:Hp}(h:ax)(a:sysModules<h.objs.size):aW P w H (h.push { cls:=.type "dict",data:=.dict #[] }) h.objs.size (.dK []):=
 ⟨bU _,beq_eq_false_iff_ne.mpr (cK (bV a)),[],.nil,Heap.DictOf.new h⟩
theorem zcM{H:Hp}(h:ax)(a:sysModules<h.objs.size):aW P w H (h.push { cls:=.type "dict",data:=.dict #[] }) h.objs.size (.dT []):=
 ⟨bU _,beq_eq_false_iff_ne.mpr (cK (bV a)),[],.nil,_,#[],0,bp _ Y,⟨Y,Y,Y⟩,Y,Y,gB⟩
def W6:TE:=λ_ H Q=>∀p,H p=ah->Q (.ref p) (upd H p (.dK []))
def Xj:TE:=λ_ H Q=>∀p,H p=ah->Q (.ref p) (upd H p (.dT []))
section
variable {X:Cx}{pos:Pos}
theorem Zv:PE X (.Dict [] [] pos) W6:=λc s b H Q I h =>
 wpAny_Dict_empty ⟨.ref s.heap.objs.size,_,I.laid (a:=s.heap.objs.size) (o:=.dK []) (t':=s.toks) (λ_ _ q=>bc _ q) (br _) (zho s.heap I.big),Y,h _ (I.hok.fresh (br _))⟩
theorem Zw:PE X (.Dict [] [] pos) Xj:=λc s b H Q I h =>
 wpAny_Dict_empty ⟨.ref s.heap.objs.size,_,I.laid (a:=s.heap.objs.size) (o:=.dT []) (t':=s.toks) (λ_ _ q=>bc _ q) (br _) (zcM s.heap I.big),Y,h _ (I.hok.fresh (br _))⟩
end
structure M1(X:Cx)(o:ay)(m:Str)(tV:Pos)(e:ay)(tX:Pos):Prop where
 base:attributeBase o m X.env (eval o X.env)=eval o X.env
 few:((backTo tX (Be [e] X.env)).all (λx=>!x.1)&&(backToKw tX (keywordEach [] X.env)).all (λx=>x.1.isSome)
  && decide (([e]:List ay).length+([]:List Keyword).length+(if ([]:List Keyword).isEmpty then 0 else 1)<30))=ai
 line:(tV.endLine==tX.line)=ai
 trees:backTo tX (Be [e] X.env)=[(ag,eval e X.env)]
structure M2(X:Cx)(o:ay)(m:Str)(tV:Pos)(e f:ay)(tX:Pos):Prop where
 base:attributeBase o m X.env (eval o X.env)=eval o X.env
 few:((backTo tX (Be [e,f] X.env)).all (λx=>!x.1)&&(backToKw tX (keywordEach [] X.env)).all (λx=>x.1.isSome)
  && decide (([e,f]:List ay).length+([]:List Keyword).length+(if ([]:List Keyword).isEmpty then 0 else 1)<30))=ai
 line:(tV.endLine==tX.line)=ai
 trees:backTo tX (Be [e,f] X.env)=[(ag,eval e X.env),(ag,eval f X.env)]
def IsD(H:Hp)(a:L):Prop:=(∃b,Rd H a (.dK b))\/∃b,Rd H a (.dT b)
theorem zbr{k:List (L×Obj)}{j:St}{H:Hp}{s:af}{a:L}(I:aM X k j H s)(d:IsD H a) :
  s.TypeIs (.ref a) "dict"/\(∀b,bH a=.ref b->∃c,s.heap.get? b=U c/\c.dict=ah)/\(a==sysModules)=ag:=by
 rcases d with ⟨aL,e⟩|⟨aL,e⟩
 .obtain⟨_,g,m,_,f⟩:=JW I.hok e;refine⟨f.typeIs,λb q=>?_,g⟩;cases q;obtain⟨c,_,_,i,h,_⟩:=f;exact⟨c,i,h.2.1⟩
 .obtain⟨_,g,l,_,f⟩:=JX I.hok e;refine⟨f.typeIs,λb q=>?_,g⟩;cases q;obtain⟨c,_,_,i,h,_⟩:=f;exact⟨c,i,h.2.1⟩
section
variable {X:Cx}{aa:List (L×Obj)}{σ:St}{H:Hp}{s:af}{a:L}{y d:V}{u r:ae}{o:Option V}{A:aq}{E:ae->af->Prop}
theorem zlm{Q:ae->af->Prop}(t:A.units+1<cLine)(I:aM X aa σ H s)(g:DGet H a y o)(n:aU y u)(p:aU d r)(h:∀j m,aM X aa σ H m->aU (o.getD d) j->Q j m) :
  Bf (Bg X.prog X.w) A (call (.builtin "dict.get") [.ref a,u,r]) Q E s:=by
 rcases g with ⟨aL,k,e,ey,l⟩|⟨aL,k,b,e,ey,eb,l⟩
 .subst ey;obtain⟨z,i,v,c,f⟩:=JW I.hok e;refine pC mo f.typeIs oZ (oq _ _ _) (meets_dict_get_default (yH X.prog X.w) a (VP n) i r) ⟨_,f.mapOf,h _ _ (I.tok _) ?_⟩;rw[l];exact(c.val k).getD p
 .subst ey;cases (show u=bH b from n);obtain⟨z,i,q,c,f⟩:=JX I.hok e;refine pC mo f.typeIs oZ (oq _ _ _) (meetsH_dict_get_default (tupleKind (yH X.prog X.w)) a b i r) ⟨fR t,k,q,Xi I.hok eb,f,h _ _ (I.tok _) ?_⟩;rw[l];exact(c.val k).getD p
end
def JZ(g e f:TE):TE:=λb H Q=>g b H λx d=>∃a,x=.ref a/\IsD d a/\e b d λy h=>f b h λz c=>∃o,DGet c a y o/\Q (o.getD z) c
def zbs(g f:TE):TE:=λc H Q=>g c H λx e=>∃a,x=.ref a/\IsD e a/\f c e λy d=>∃b k v,d a=U (.dK b)/\y=kV k/\yq b k=U v/\Q v (upd d a (.dK (yx b k)))
def zen(h f g:TE):TE:=λc H Q=>h c H λx e=>∃a,x=.ref a/\IsD e a/\f c e λy i=>g c i λz d=>∃b k,d a=U (.dK b)/\y=kV k /\
 (∀v,yq b k=U v->Q v (upd d a (.dK (yx b k))))/\(yq b k=ah->Q z d)
section
variable {X:Cx}{o e f:ay}{tV tX:Pos}{td ty tx:TE}
theorem zcN(B:X.A.units+1<cLine)(C:PE X o td)(E:PE X e ty)(D:PE X f tx)(m:M2 X o "get" tV e f tX):PE X (.Call (.Attribute o "get" tV) [e,f] [] tX) (JZ td ty tx):=by
 intro i s b H Q I h;refine nU m.base m.few m.line gm mo PySem.F.type_dict_get (aY (C i s b H _ I h) ?_);rintro u p ⟨x,H1,j,t,a,G,d,A⟩;subst G;obtain rfl:u=bH a:=t;obtain⟨l,k,_⟩:=zbr j d;refine⟨l,k,?_⟩;rw[m.trees];refine eV Y (f7 (eK (aY (E i p b H1 _ j A) λiv n ⟨y,T,N,r,w⟩ =>
  eK (aY (D i n b T _ N w) λfv s3 ⟨z,O,M,q,ov,g,v⟩=>ik ?_))))
 exact zlm B M g r q λw' s4 J c=>⟨_,O,J,c,v⟩
theorem J6(z:PE X o td)(A:PE X e ty)(m:M1 X o "pop" tV e tX):PE X (.Call (.Attribute o "pop" tV) [e] [] tX) (zbs td ty):=by
 intro g s c H Q I h;refine nU m.base m.few m.line gm gN pD (aY (z g s c H _ I h) ?_);rintro u p ⟨x,J,i,r,a,C,d,w⟩;subst C;obtain rfl:u=bH a:=r;obtain⟨n,j,_⟩:=zbr i d;refine⟨n,j,?_⟩;rw[m.trees];refine eV Y (f7 (eK (aY (A g p c J _ i w) λT O ⟨y,H2,G,q,aL,k,v,D,B,l,t⟩=>ik ?_)));subst B;exact zkT G D q l (.inl Y) λM N E b=>⟨v,_,E,b,t⟩
theorem zcO(N:PE X o td)(T:PE X e ty)(O:PE X f tx)(m:M2 X o "pop" tV e f tX):PE X (.Call (.Attribute o "pop" tV) [e,f] [] tX) (zen td ty tx):=by
 intro g s b H Q I h;refine nU m.base m.few m.line gm gN pD (aY (N g s b H _ I h) ?_);rintro u B ⟨x,H1,q,D,a,ex,d,M⟩;subst ex;obtain rfl:u=bH a:=D;obtain⟨t,r,_⟩:=zbr q d;refine⟨t,r,?_⟩;rw[m.trees];refine eV Y (f7 (eK (aY (T g B b H1 _ q M) λiv A ⟨y,H2,I2,j,J⟩ =>
  eK (aY (O g A b H2 _ I2 J) λfv s3 ⟨z,H3,p,C,aL,k,n,ey,G,E⟩=>ik ?_))))
 subst ey;cases l:yq aL k with
 |some v=>exact zkT p n j l (.inr ⟨fv,Y⟩) λw' w i c=>⟨v,_,i,c,G v l⟩
 |none=>exact zlk p n j l λw i=>⟨z,H3,i,C,E l⟩
end
end L2
namespace Att
open PySem PySem.W PySem.Calls PyProof.Rows
theorem Jo :∀(ns:List Int) (c:List ae),WellAll P h c (ns.map WData.int)->IntsAre c ns:=by
 intro ns;induction ns with
 |nil =>
  intro c w;rw[mn] at w;cases w;exact .nil
 |cons n ns ih =>
  intro c w;rw[bN] at w;cases w with
  |cons a b =>
   cases a;exact .cons _ _ (ih _ b)
theorem zaG{l:OpenLaw}{n:Nat}(s:l.most=U n){P:Params}{args:List WData}{c:List ae}
  (e:l.row.toRowW.claim.pre args=ai) (j:WellAll P h c args) :
  ∃a m b,c=[bH a]/\args=[WData.list (b.map WData.int)]/\h.get? a=U { cls:=.type "list",data:=.seq m.toArray }/\IntsAre m b/\b.length<=n:=by
 have k:WShape.hasAll [] args [.list .int]=ai:=(pre_splitW e).1;have o:l.pre.holds [] { args:=args }=ai:=(pre_splitW e).2;obtain⟨d,r,rfl,v,u⟩:=hasAllW_cons k;obtain rfl:=hasAllW_nil u;obtain⟨w,rfl,t⟩:=hasW_list v;obtain⟨b,rfl⟩:=items_int t;have f:b.length<=n:=by
  unfold OpenLaw.pre at o;have i:(WTm.not (.lt (.lit (.int (n:Int))) (.len (.arg 0)))).holds [] { args:=[.list (b.map .int)] }=ai:=by
   have i:=(holds_andW o).1;rw[s] at i;exact i
  have g:=condW_of i (w_not (w_lt w_lit (w_len_list (w_arg Y))));rw[bi] at g;refine Nat.le_of_not_lt λq=>?_;have p:(n:Int)<((b.length:Nat):Int):=by lia
  first
   |(rw[Bj p] at g;exact absurd g ())
   |(simp at g;lia)
 cases j with
 |cons w1 w2 =>
  cases w2;cases w1 with
  |list ho hall=>exact⟨_,_,b,Y,Y,ho,Jo b _ hall,f⟩
theorem zaH(l:OpenLaw)(args:List WData):l.row.toRowW.claim.post args (.bool ai) args=ai :=
 postW_of (r:=l.row.toRowW) (X:=(ai==ai))
  (show WShape.has [] (.bool ai) .bool=ai by first|rfl|decide|simp[WShape.has,WShape.arms,WShape.armsAll])
  (show (WTm.eq .res (.lit (.bool ai))).value [] { args:=args,res:=U (.bool ai),after:=args }=U (.bool (ai==ai)) from w_eq_bool (w_res Y) w_lit) rfl
section
variable {prog:ap}{w:au}{A:aq}{E:ae->af->Prop}{s:af}{K:Frag}
end
end Att
namespace L2
open PySem PySem.Spec PyProof.Rows
theorem zaI:∀ {a:List ae} {b:List Int},IntsAre a b->aQ (b.map V.int) a
 |_,_,.nil=>.nil
 |_,_,.cons n t h=>.cons ⟨t,Y⟩ (zaI h)
def zeo(H:Hp):Prop:=∀b,H b=ah\/∃o a,H b=U (.frz o (.lst a))
theorem zcP{P:ap}{w:au}{K:bo}{B T:Str->Option ae}{CX:CXT}{k:Nat}{fa a:L}{fd:Bc}{x:Str}{sp:Sp}{s₁:af}{p:List ae}{A:List Int}
  (KX:K.In s₁.heap) (G:s₁.heap.Ns Bd B) (f:s₁.heap.Ns builtinsNs T) (al:∀x:Str,x≠"__name__"->T x=Bh x) (I:s₁.heap.NoLimit) (hg:s₁.gens=#[]) (O:s₁.heap.get? a=U { cls:=.type "list",data:=.seq p.toArray }) (hi:IntsAre p A) (hl:A.length<=Bb) (hr:hZ k callerA) (F:∀i:ax,K.In i->i.Ns Bd B->aZ P w K B i CX k fa fd [x] sp) (t:∀(s:af) (u:ae),BindsTo s fd ⟨[u],[]⟩ [(x,u)]) (aa:∀H:Hp,zeo H->aP K H a (A.map V.int)->sp [.ref a] H (λv _=>v=.bl ai) λ_ _ _=>False) (av:∀H e g,CX [] H s₁ (λ_ _ _=>False) e g->False) :
  codeAny (Bg P w) callerA (.call (.ref fa) ⟨[.ref a],[]⟩) (λr g=>r=.ok (.ret (.bool ai))/\OldK s₁.heap g.heap/\g.os=s₁.os/\AllBare g.gens) s₁:=by
 have rv:=zaI hi;have C:=hi.length
 -- from an abstract heap in which nothing but the script may be tracked
 have l:∀H:Hp,zeo H->aP K H a (A.map V.int)->uz P w H s₁.heap->(∀b,H b≠ah->b=a)->(H a≠ah->K.lookup a=ah) ->
   codeAny (Bg P w) callerA (.call (.ref fa) ⟨[.ref a],[]⟩) (λr g=>r=.ok (.ret (.bool ai))/\OldK s₁.heap g.heap/\g.os=s₁.os/\AllBare g.gens) s₁:=by
  intro H hO hS E hA hK;have c:∀ {b:L} {o:Obj},s₁.heap.get? b=U o->H b=ah->(zbh s₁.heap H).get? b=U o:=λe n=>zgZ e n;have Q:∀ {b:L} {o:Obj} {M:Array DictEntry} {ep:Nat},s₁.heap.get? b=U o->o.data=.dict M ep->H b=ah:=λ{b o M ep} e d=>by
   cases q:H b with
   |none=>rfl
   |some u =>
    have e':b=a:=hA b (by rw[q];simp);subst e';rw[O] at e;cases e;have d':Data.seq p.toArray _=Data.dict M ep:=d;cases d'
  have j:∀ {b:L} {m:Str->Option ae},s₁.heap.Ns b m->(zbh s₁.heap H).Ns b m:=λ{b m} ⟨o,M,ep,e,d,r⟩=>⟨o,M,ep,c e (Q e d),d,r⟩;have J:K.In (zbh s₁.heap H):=λb o e=>c (KX b o e) (by
   cases q:H b with
   |none=>rfl
   |some u =>
    have e':b=a:=hA b (by rw[q];simp);subst e';rw[hK (by rw[q];simp)] at e;cases e)
  have hM:Mod K B (zbh s₁.heap H):=⟨J,j G,⟨T,j f,al⟩,let ⟨mc,h1,h2⟩:=I;⟨mc,j h1,h2⟩⟩;have e0:Env0 P w K B (zbh s₁.heap H) callerA [] s₁ H:=⟨Y,hM,λb o e=>zjm e,pq (zf3 _ _),trivial,λb f=>absurd (show b∈([]:List L) from f) (by simp),E,.of_eq hg⟩;refine eu ((F _ J (j G)).run callerA [] s₁ H ⟨[.ref a],[]⟩ [.ref a] [.ref a] _ _ hr e0 (t s₁ (.ref a)) (.cons Y .nil) (aa H hO hS)) λr g h=>?_;cases r with
  |error e=>exact(av H e g h).elim
  |ok fl =>
   cases fl with
   |next=>exact cx h
   |brk=>exact cx h
   |cont=>exact cx h
   |ret u =>
    obtain⟨v,H',os,N,un,D,r',q⟩:=h;have q':v=.bl ai:=q;subst q';obtain rfl:u=ic ai:=r';refine⟨Y,OldK.of_keep λb o e=>?_,os,N⟩;cases q:H b with
    |none=>exact un.keep b o e q (by intro z;exact absurd (show b∈([]:List L) from z) (by simp)) (by simp)
    |some u =>
     rcases hO b with z|⟨ob,xs,z⟩
     .rw[q] at z;cases z
     .have z2:=un.frzs b ob _ z;obtain⟨e1,_⟩:=E b _ z;obtain⟨e2,_⟩:=D b _ z2;rw[e] at e1;cases e1;exact e2
 cases hk:K.lookup a with
 |some o =>
  -- the script is one of the module's own objects
  have e:=KX a o hk;rw[O] at e;cases e;refine l (λ_=>ah) (λ_=>.inl Y) (.inr ⟨_,p.toArray,_,hk,Y,Y,Y,by rw[bM,C];exact hl,by simpa using rv⟩) (λb u z=>by have y:(ah:Option HO)=U u:=z;cases y) (λb z=>absurd rfl z) λz=>absurd rfl z
 |none =>
  refine l (λb=>if b=a then U (.frz { cls:=.type "list",data:=.seq p.toArray } (.lst (A.map V.int))) else ah) (λb=>?_) (.inl (.inr ⟨{ cls:=.type "list",data:=.seq p.toArray },ao Y⟩)) (λb u z=>?_) (λb z=>?_) λ_=>hk
  .by_cases f:b=a
   .exact .inr ⟨_,_,ao f⟩
   .exact .inl (am f)
  .by_cases f:b=a
   .have y:=(ao f).symm.trans z;cases y;subst f;exact⟨O,by rw[bi];exact hl,p,_,rv,O⟩
   .have y:=(am f).symm.trans z;cases y
  .by_cases f:b=a
   .exact f
   .exact absurd (am f) z
abbrev KOf{K:bo}{h:ax}(_:K.In h):bo:=K
def zJ(s:ar)(j:Nat):ar:=match s with
 |.ClassDef _ _ _ body _ _ _ _ _ _ _=>body.getD j (.Pass ⟨0,0,0,0⟩)
 |_=>.Pass ⟨0,0,0,0⟩
def YH(s:ar):Arguments:=match s with
 |.FunctionDef _ a _ _ _ _ _ _ _ _=>a
 |_=>{ posonlyargs:=[],args:=[],vararg:=ah,kwonlyargs:=[],kw_defaults:=[],kwarg:=ah,defaults:=[] }
def xP(s:ar):List ar:=match s with
 |.FunctionDef _ _ b _ _ _ _ _ _ _=>b
 |_=>[]
def zk(s:ar):az:=match s with
 |.FunctionDef _ _ _ _ _ _ sc _ _ _=>sc
 |_=>{ kind:=.function,names:=[],isGenerator:=ag,isCoroutine:=ag }
abbrev CX0:CXT:=λ_ _ _ _ _ _=>False
abbrev E0:XK:=λ_ _ _=>False
structure Fun(K:bo)(x qual:Str)(st:ar)(f:L)(fd:Bc):Prop where
 ex:∃(oc:ae) (od:Option L) (kV doc pm:ae) (an:Option L) (cdv ct:ae) (osl:Array (Option ae)),
  fd=rN x qual (YH st) (xP st) (zk st) .none kV doc pm an cdv ct/\K.lookup f=U ⟨oc,od,.func fd,osl⟩/\rO K cdv qual=ai
 kp:lh K (.ref f)=ai
section
variable {P:ap}{w:au}{K:bo}{mg:Str->Option ae}{base:ax}
theorem fun_mk{b:ar}{f:L}{m:ae}{j i:Option L}{e:Array (Option ae)}{kV d g a h:ae}(l:K.lookup f=U ⟨m,j,.func (rN x qual (YH b) (xP b) (zk b) .none kV d g i a h),e⟩) (c:rO K a qual=ai) (k:lh K (.ref f)=ai):Fun K x qual b f (rN x qual (YH b) (xP b) (zk b) .none kV d g i a h):=⟨⟨m,j,kV,d,g,i,a,h,e,Y,l,c⟩,k⟩
end
theorem wV(a:hZ k A):A.units+1<cLine:=dy (Nat.add_le_add_left (by lia:1<=64) _) a.units
section
variable {X:Cx}
theorem pv(i:Nat){a:Pos}(e:X.N[i]?=U x:=by rfl)(c:Vis X.env.scope x:=by first|exact gw rfl|exact tT (gw Y)|exact tT (tT Y))(d:(x==("__debug__":Str))=ag:=by lia) (b:(x==("__classdict__":Str))=ag:=by lia):PE X (.Name x a) (Z i):=zle e c d b
end
theorem qg{c A B:Prop} [Decidable c](b:c->A)(a:¬ c->B):if c then A else B:=by
 by_cases h:c
 .rw[ao h];exact b h
 .rw[am h];exact a h
def ac(H a:Hp):Prop:=∀b o,H b=U o->a b=U o
theorem ac.refl(H:Hp):ac H H:=λ_ _ h=>h
theorem ac.trans{H d H2:Hp}(a:ac H d)(b:ac d H2):ac H H2:=λc o h=>b c o (a c o h)
theorem ac.free{H a:Hp}(e:ac H a)(h:a l=Option.none):H l=Option.none:=by
 cases q:H l with
 |none=>rfl
 |some o =>
  rw[e l o q] at h;cases h
section
variable {κ:Type} [DecidableEq κ]
theorem zcQ{a:List (κ×V)}{k:κ}(h:yq a k=ah):¬ k∈a.map (·.1):=by
 intro m;obtain⟨p,c,e⟩:=dz.mp m;have q:(a.any λb=>decide (b.1=k))=ai:=sN.mpr ⟨p,c,Bj e⟩;rw[kD,h] at q;exact absurd q (by simp)
theorem zjx{a:List (κ×V)}{k:κ}{v:V}(h:yq a k=U v):k∈a.map (·.1):=by
 have q:(a.any λb=>decide (b.1=k))=ai:=by
  rw[kD,h]
  all_goals rfl
 obtain⟨p,c,e⟩:=List.any_eq_true.mp q;exact dz.mpr ⟨p,c,of_decide_eq_true e⟩
theorem zfm:∀ {l:List κ} {k:κ},l.Nodup->¬ k∈l->(l++[k]).Nodup
 |[],k,_,_=>by simp
 |a::r,k,h,hk=>by
  obtain⟨c,b⟩:=cF.mp h;show (a::(r++[k])).Nodup;refine cF.mpr ⟨λm=>?_,zfm b λm=>hk (bJ.mpr (tT m))⟩;rcases cj.mp m with q|q
  .exact c q
  .exact hk (bJ.mpr (gw (bY.mp q).symm))
theorem zjy{a:List (κ×V)}{k:κ}(v:V)(b:(a.map (·.1)).Nodup)(h:yq a k=ah):((yQ a k v).map (·.1)).Nodup:=by
 rw[X4 v h,cm];exact zfm b (zcQ h)
theorem zgc{p:κ×V}{r:List (κ×V)}(e:p.1=k):yx (p::r) k=yx r k:=by
 unfold yx;rw[eC,am (by simp[e])]
theorem zaJ{p:κ×V}{r:List (κ×V)}(e:¬ p.1=k):yx (p::r) k=p::yx r k:=by
 unfold yx;rw[eC,ao (by simp[e])]
end
end L2
set_option Elab.async false
set_option linter.all false
set_option maxRecDepth 100000
set_option maxHeartbeats 4000000
namespace L2
open PySem PySem.Spec PyProof.Rows
def Cx.comp(X:Cx)(a:az)(c:List (Str×L))(C:L)(N:List Str)(b:List L)(s:af)(H:Hp):Cx :=
 { X with env:=compEnvC a c C X.env,N:=N,s₀:=s,H₀:=H,outer:=X.stack,ex:=b,fn:=λ_=>ag,pn:=[],xe:=λ_ _=>False }
structure YI(X:Cx)(scope:az)(cl:List (Str×L))(ix:List Nat):Prop where
 clos:closureFor scope X.env=pure cl
 nocell:∀y∈scope.names,y.2≠.cell
 kind:scope.kind=.function
 names:∀y∈scope.names,y.2=.local->scope.names.lookup y.1=U .local
 sub:∀y c,cl.lookup y=U c->X.env.cells.lookup y=U c
 has:∀y,((relabel scope X.env).names.lookup y=U .cell\/(relabel scope X.env).names.lookup y=U .free)->∃c,cl.lookup y=U c
 cap:∀i∈ix,∃y,X.N[i]?=U y/\(X.env.kindOf y=U .cell\/X.env.kindOf y=U .free)/\((relabel scope X.env).names.lookup y=U .cell\/(relabel scope X.env).names.lookup y=U .free)
def Zx(a:az)(b:Env):List (Str×L):=a.names.foldl (λc y=>if y.2==.free then (y.1,(b.cells.lookup y.1).getD 0)::c else c) []
def zfn(a:az)(N:List Str)(b:az)(c:List Nat):Bool :=
 b.kind==.function&&b.names.all (λy=>y.2 != .cell&&(y.2 != .local || b.names.lookup y.1==U .local)&&(y.2 != .free || a.names.lookup y.1==U .cell || a.names.lookup y.1==U .free)) &&
  c.all λi=>match N[i]? with
   |some y=>b.names.lookup y==U .free
   |none=>ag
theorem vB{l:List (Str×NameKind)}{y:Str}(h:l.lookup y=U k):(y,k)∈l:=fK h
theorem qh{a:Env}:∀ {b:List (Str×NameKind)} {x:Str} {k:NameKind},(b.map λ(n,k)=>if (k==dN&&a.scope.kind==.function&&a.kindOf n==U .cell) then (n,ou) else (n,k)).lookup x=U k ->
  ∃c,b.lookup x=U c/\(c=.free\/c=k)
 |[],_,_,h=>by simp at h
 |(n,c)::r,x,k,h=>by
  have f:=@qh a r x k;rw[bN] at h;cases hx:x==n with
  |true =>
   by_cases hc:(c==dN&&a.scope.kind==.function&&a.kindOf n==U .cell)=ai
   .have e:c=.free:=by
     have:=(bS _ _ ▸ (bS _ _ ▸ hc).1).1;simpa using this
    exact⟨c,by simp[c9,hx],.inl e⟩
   .simp only[am hc,c9,hx] at h;exact⟨c,by simp[c9,hx],.inr (cb h)⟩
  |false =>
   have g:(r.map λ(n,k)=>if (k==dN&&a.scope.kind==.function&&a.kindOf n==U .cell) then (n,ou) else (n,k)).lookup x=U k:=by
    by_cases hc:(c==dN&&a.scope.kind==.function&&a.kindOf n==U .cell)=ai
    .simp only[ao hc,c9,hx] at h;exact h
    .simp only[am hc,c9,hx] at h;exact h
   obtain⟨q,e,d⟩:=f g;exact⟨q,by simp only[c9,hx];exact e,d⟩
theorem X6{a:Env}:∀ {b:List (Str×NameKind)} {x:Str},b.lookup x=U .free ->
  ((b.map λ(n,k)=>if (k==dN&&a.scope.kind==.function&&a.kindOf n==U .cell) then (n,ou) else (n,k)).lookup x=U .cell \/
   (b.map λ(n,k)=>if (k==dN&&a.scope.kind==.function&&a.kindOf n==U .cell) then (n,ou) else (n,k)).lookup x=U .free)
 |[],_,h=>by simp at h
 |(n,k')::r,x,h=>by
  have c:=@X6 a r x;rw[bN];cases hx:x==n with
  |true =>
   simp only[c9,hx] at h;cases h;by_cases hc:(dN==dN&&a.scope.kind==.function&&a.kindOf n==U .cell)=ai
   .left;simp only[ao hc,c9,hx]
   .right;simp only[am hc,c9,hx]
  |false =>
   simp only[c9,hx] at h;by_cases hc:(k'==dN&&a.scope.kind==.function&&a.kindOf n==U .cell)=ai
   .simp only[ao hc,c9,hx];exact c h
   .simp only[am hc,c9,hx];exact c h
theorem zaK{a:Env}:∀(l:List (Str×NameKind)) (d:List (Str×L)),(∀y∈l,y.2=.free->∃c,a.cells.lookup y.1=U c) ->
  (∀y c,d.lookup y=U c->a.cells.lookup y=U c)->∀y c,(l.foldl (λd y=>if y.2==.free then (y.1,(a.cells.lookup y.1).getD 0)::d else d) d).lookup y=U c->a.cells.lookup y=U c
 |[],_,_,h,y,c,e=>h y c e
 |z::r,d,hl,h,y,c,e=>by
  rw[lC] at e;refine zaK r _ (λy j=>hl y (bF _ j)) (λg n b=>?_) y c e;by_cases hz:z.2=.free
  .obtain⟨m,i⟩:=hl z bK hz;have f:(z.2==dN)=ai:=by simpa using hz
   rw[ao f,i,c9] at b;cases hq:g==z.1 with
   |true =>
    rw[hq] at b;have k:g=z.1:=by simpa using hq
    cases b;rw[k];exact i
   |false=>rw[hq] at b;exact h _ _ b
  .have f:(z.2==dN)=ag:=by simpa using hz
   rw[f] at b;exact h _ _ b
theorem zcR{b:Env}:∀(l:List (Str×NameKind)) (a:List (Str×L)) (y:Str),((∃c,a.lookup y=U c)\/(y,dN)∈l) ->
  ∃c,(l.foldl (λa y=>if y.2==.free then (y.1,(b.cells.lookup y.1).getD 0)::a else a) a).lookup y=U c
 |[],_,_,h=>h.elim id λz=>nomatch z
 |z::r,a,y,h=>by
  rw[lC];refine zcR r _ y ?_;rcases h with ⟨c,h⟩|h
  .left
   by_cases hz:(z.2==dN)=ai
   .rw[ao hz,c9];cases y==z.1 with
    |true=>exact⟨_,Y⟩
    |false=>exact⟨c,h⟩
   .rw[am hz];exact⟨c,h⟩
  .rcases bJ.mp h with h|h
   .left
    subst h;rw[ao (by rfl),c9];simp
   .exact .inr h
theorem zbt{a:Env}:∀(l:List (Str×NameKind)) (b:List (Str×L)),(∀y∈l,y.2=.free->∃c,a.cells.lookup y.1=U c) ->
  forIn (m:=Sem) l b (λx r=>match x with|(name,kind)=>if (kind==dN)=ai then do let c <-cellOf a name;pure (gb ((name,c)::r)) else pure (gb r)) =
   pure (l.foldl (λb y=>if y.2==.free then (y.1,(a.cells.lookup y.1).getD 0)::b else b) b)
 |[],_,_=>rfl
 |(n,k)::r,b,h=>by
  rw[sZ,lC];by_cases hz:(k==dN)=ai
  .obtain⟨c,f⟩:=h (n,k) bK (by simpa using hz);have e:cellOf a n=pure c:=by unfold cellOf;rw[f]
   simp only[hz,if_true,e,pure_bind];rw[zbt r _ λy d=>h y (bF _ d)];simp only[f,Option.getD_some]
  .simp only[hz,if_false,pure_bind];exact zbt r _ λy d=>h y (bF _ d)
theorem X7(k:X.Ok)(h:zfn osc N scope ix=ai)(n:X.env.scope=osc)(r:X.N=N):YI X scope (Zx scope X.env) ix:=by
 subst n r;unfold zfn at h;rw[bS,bS,fA,fA] at h;obtain⟨⟨v,u⟩,t⟩:=h;have p:∀y∈scope.names,y.2≠.cell/\(y.2=.local->scope.names.lookup y.1=U .local)/\(y.2=.free->X.env.kindOf y.1=U .cell\/X.env.kindOf y.1=U .free):=λy hy=>by
  have q:=u y hy;rw[bS,bS] at q;obtain⟨⟨j,d⟩,b⟩:=q;refine⟨by simpa using j,λe=>?_,λe=>?_⟩
  .rw[e] at d;simpa using d
  .rw[e] at b;have a:X.env.scope.names.lookup y.1=U .cell\/X.env.scope.names.lookup y.1=U .free:=by simpa using b
   exact a
 have f:∀y∈scope.names,y.2=.free->∃c,X.env.cells.lookup y.1=U c:=λy hy e=>k.has y.1 ((p y hy).2.2 e);refine⟨?_,λy hy=>(p y hy).1,by simpa using v,λy hy=>(p y hy).2.1,λy c e=>zaK scope.names [] f (λ_ _ z=>by simp at z) y c e,λy hy=>?_,λi o=>?_⟩
 .have e:=zbt scope.names [] f;unfold closureFor Zx;refine Eq.trans (congrArg (λm=>m >>= λs=>(pure s:Sem (List (Str×L)))) e) ?_;rw[pure_bind]
 .refine zcR scope.names [] y (.inr ?_);rcases hy with hy|hy
  .obtain⟨l,e,z|z⟩:=qh hy
   .subst z;exact vB e
   .subst z;exact absurd Y (p _ (vB e)).1
  .obtain⟨l,e,z|z⟩:=qh hy
   .subst z;exact vB e
   .subst z;exact vB e
 .have q:=t i o;cases hy:X.N[i]? with
  |none=>rw[hy] at q;cases q
  |some y =>
   rw[hy] at q;have g:scope.names.lookup y=U .free:=by simpa using q
   exact⟨y,Y,(p _ (vB g)).2.2 Y,X6 g⟩
def Jp(b:List Nat)(a:St):St:=b.map λi=>(a[i]?).getD ah
def kE(a:List Nat)(N:List Str):List Str:=a.map λi=>(N[i]?).getD ""
section
variable {X:Cx}{aa:List (L×Obj)}{σ:St}{H:Hp}{s:af}{scope:az}{cl:List (Str×L)}{ix:List Nat}{fp:List L}{C:L}{xs:List Str}
theorem aM.compOk(I:aM X aa σ H s)(S:YI X scope cl ix)(g:C=s.heap.objs.size)(d:∀b∈fp,k7 X aa H b)(k:∀b∈fp,b<s.heap.objs.size)(n:List Str) :
  (X.comp scope cl C n fp s H).Ok where
 mod:=I.ok.mod
 kind:=S.kind
 glob:=I.ok.glob
 blt:=I.ok.blt
 above:=pq g.symm
 inj:=λx y c f l=>I.ok.inj x y c (S.sub x c f) (S.sub y c l)
 has:=λx j=>S.has x j
 cab:=λx c f _=>nomatch f
 hd:=I.ok.hd
 frames:=I.ok.frames
 stk:=.inl rfl
 exf:=λb a=>⟨λz=>absurd (k b a) (by rw[z];show ¬ C<_;rw[g];exact fP _),λx c h=>(d b a).2.2.2.2.1 x c (S.sub x c h)⟩
 bs:=I.bs
 bsz:=cg I.ok.bsz I.sz
 noex:=λb o e a=>by
  rcases(d b a).2.2.2.1 with z|z
  .exact I.ok.noex b o e z
  .exact absurd (cq (bG e) (cg I.ok.bsz z)) (fP _)
 exfs:=λb a z=>by
  rcases bJ.mp (I.stkSub b z) with e|e
  .exact(d b a).2.1 e
  .exact(d b a).2.2.1 e
 funs:=I.stack
 frf:=I.stkFree
theorem aM.comp{d:ax}{f:Str->Option ae}{t':Nat}(I:aM X aa σ H s)(S:YI X scope cl ix)(D:C=s.heap.objs.size)(hf:∀b∈fp,k7 X aa H b)(T:∀b∈fp,b<s.heap.objs.size) (Q:d.Ns C f) (n:∀b o,s.heap.get? b=U o->d.get? b=U o) :
  aM (X.comp scope cl C (xs++kE ix X.N) fp s H) [] (bD xs.length ah++Jp ix σ) H { s with heap:=d,toks:=t' } where
 ok:=I.compOk S D hf T _
 os:=rfl
 bare:=I.bare
 base:=Un.kept n
 loc:=by
  refine⟨f,Q,λi y v e1 g e3=>?_⟩;by_cases hi:i<xs.length
  .rw[dI (by simpa using hi),oj,ao hi] at g;cases g
  .have a:(xs++kE ix X.N)[i]?=U y:=e1;rw[dv ()] at a;rw[dv (by rw[gK];lia),gK] at g;generalize i-xs.length=j at a g;unfold kE at a;unfold Jp at g;rw[bW] at a g;cases hj:ix[j]? with
   |none=>rw[hj] at a;cases a
   |some k =>
    rw[hj] at a g;obtain⟨t,J,G,E⟩:=S.cap k (cw hj);have ey:t=y:=by
     have q:(X.N[k]?).getD ""=y:=cb a;rw[J] at q;exact q
    subst ey;have ev:σ[k]?=U (U v):=by
     have q:(σ[k]?).getD ah=U v:=cb g;cases hs:σ[k]? with
     |none=>rw[hs] at q;cases q
     |some o=>rw[hs] at q;exact congrArg U q
    obtain⟨m,hm,M⟩:=I.loc;obtain⟨u,r,l⟩:=M k t v J ev (G.elim (λz=>.inr (.inl z)) λz=>.inr (.inr z));refine⟨u,r,.inr ⟨E,?_⟩⟩;rcases l with ⟨l1,_⟩|⟨_,c,lc,⟨o,A,B⟩⟩
    .rcases G with z|z <;> (rw[l1] at z;cases z)
    .obtain⟨c',h⟩:=S.has t E;have e:=S.sub _ _ h;rw[lc] at e;cases e;exact⟨c,h,o,n _ _ A,B⟩
 cell:=λx c e=>by
  obtain⟨v,o,A,B⟩:=I.cell x c (S.sub x c e);exact⟨v,o,n _ _ A,B⟩
 free:=I.hok.fresh (pq D.symm)
 freeC:=λx c e=>I.freeC x c (S.sub x c e)
 pin:=λp O=>absurd (show p∈([]:List (L×Obj)) from O) (by simp)
 hok:=I.hok.kept n
 len:=by
  show (bD xs.length ah++Jp ix σ).length=(xs++kE ix X.N).length;rw[bn,bn,gK,Jp,kE,bi,bi]
theorem aM.uncomp{h:St}{g:Hp}{M:List Str}{l:ax}(I:aM X aa σ H s)(z:C=s.heap.objs.size)(y:∀b∈fp,k7 X aa H b) (J:aM (X.comp scope cl C M fp s H) [] h g s') (f:cV C s'.heap l):aM X aa σ g { s' with heap:=l }:=by
 have lt:∀b o,s.heap.get? b=U o->b≠C:=λb o e=>by
  rw[z];exact bV (bG e)
 have B:Un (uc X.stack) fp H g s.heap s'.heap:=J.base;refine I.call' (s':={ s' with heap:=l }) (ch:=fp) J.os ?_ ?_ J.bare ?_
 .exact⟨λb o e n d k=>(f.2 b (lt b o e)).trans (B.keep b o e n d k),λb o e n d k=>by
   obtain⟨r,q⟩:=B.slot b o e n d k;exact⟨r,(f.2 b (lt b o e)).trans q⟩,B.free,λb o e d=>by
   obtain⟨t,q⟩:=B.there b o e d;exact⟨t,(f.2 b (lt b o e)).trans q⟩,B.tups,B.frzs,B.tbls⟩
 .intro b o e;refine(J.hok b o e).stay (λc u hc q=>(f.2 c ?_).trans q) (λ_ q=>q) λ_ _ q=>q;have a:g C=ah:=J.free;rintro rfl;rcases hc with rfl|hc
  .rw[a] at e;cases e
  .rw[a] at hc;cases hc
 .intro b j;obtain⟨Q,G,O,E,D,A⟩:=y b j;exact⟨E,G,D,A⟩
end
def PTs(X:Cx)(b:List ay)(t:TT):Prop :=
 ∀(d:List (L×Obj)) (s:af) (a:St) (H:Hp) (Q:Bool->Hp->Prop),aM X d a H s->t a H Q ->
  Bf (Bg X.prog X.w) X.A (forIn b ai λc r=>if r=ai then do let e <-isTrue c X.env (eval c X.env);pure (gb e) else pure (gb r)) (TP X d a Q) X.xe s
def Zi:TT:=λ_ H Q=>Q ai H
theorem vz :PTs X [] Zi:=λ_ _ _ H _ I h=>wpAny_tests_nil ⟨H,I,h⟩
theorem zjz(h:PT X c t):PTs X [c] t:=λb s a H Q I q=>wpAny_tests_one (h b s a H Q I q)
section
variable {prog:ap}{w:au}{A:aq}{R:aD->af->Prop}{s:af}
theorem zbu{y a o:ay}{u:List ay}{g:az}{C:Pos}{M z:ae}{b:Env}(W:Nat->af->Prop){EE:ae->af->Prop}
  (O:∀e J,EE e J->notedBy (Bg prog w) A b (λe J=>R (.error e) J) e J) (B:∀n s,W n s->Bf (Bg prog w) A (pyNext M) (λr f=>match r with
   |none=>R (.ok .next) f
   |some v=>Bf (Bg prog w) A (letOwnedTupleGo a M v) (λ_ i=>Bf (Bg prog w) A (assign a b v) (λ_ l =>
     Bf (Bg prog w) A (forIn u ai λc r=>if r=ai then do let D <-isTrue c b (eval c b);pure (gb D) else pure (gb r)) (λD d =>
      if D=ai then Bf (Bg prog w) A (eval y b) (λx k=>Bf (Bg prog w) A (call (.builtin "list.append") [z,x]) (λ_ j=>∃m,m<n/\W m j) EE k) EE d
      else ∃m,m<n/\W m d) EE l) EE i) EE f) EE s) (n:Nat) (h:W n s):codeAny (Bg prog w) A (.compLoop (.ListComp y [⟨a,o,u,0⟩] g C) 0 M z b) R s:=by
 refine codeAny_loop Y W (λn s N=>?_) n h;show Bf _ A ((compTurn (.ListComp y [⟨a,o,u,0⟩] g C) 0 M z b).onRaise (λx=>do noteFrame x b;theTreesLotGoes x)) _ _ s;refine wpAny_noted (cU ?_ (λ_ _ q=>q) O);rw[compTurn_list];refine ba (ir (ba (aY (B n s N) λr f t=>?_)));cases r with
 |none=>exact bf t
 |some v =>
  refine ba (aY t λ_ i E=>?_);refine ba (aY E λ_ l I=>ba (aY I λD d p=>?_));cases D with
  |false=>exact bf ⟨Y,p⟩
  |true=>exact ba (ba (aY p λx k H=>ba (aY H λ_ j G=>bf (bf ⟨Y,G⟩))))
end
def wd(p:TI)(g:TG)(q:TT)(r:TE)(k:Nat)(s:List Nat):TE:=λj H Q=>p j H λJ o=>∀D,o D=ah ->
 ∃W:Nat->Nat->List V->St->Hp->Prop,(∃m,W 0 m [] (bD k ah++Jp s j) (upd o D (.lst [])))/\∀i m e h H,W i m e h H->H D=U (.lst e) /\
  ((J.stop i H/\Q (.ref D) H)\/(J.go i H/\e.length<Bb/\∃N:V->St->Hp->Prop,
   (∀v a d,N v a d->d D=U (.lst e)/\∃f,f<m/\W (i+1) f (e++[v]) a (upd d D (.lst (e++[v]))))/\∃l:St->Hp->Prop,(∀a d,l a d->∃f,f<m/\W (i+1) f e a d) /\
   ∀x d,J.yld i H x d->g x h d λc u=>q c u λb n=>if b=ai then r c n λv t=>N v c t else l c n))
section
variable {X:Cx}{elt iter tg:ay}{ifs:List ay}{scope:az}{pos:Pos}{cl:List (Str×L)}{ix:List Nat}{xs:List Str}{wi:TI}{g:TG}{tt:TT}{te:TE}
theorem J7(S:YI X scope cl ix)(hc:X.calm=ai)(hi:PI X tg iter wi) (hg:∀C f s H,PG (X.comp scope cl C (xs++kE ix X.N) f s H) tg g) (ht:∀C f s H,PTs (X.comp scope cl C (xs++kE ix X.N) f s H) ifs tt) (he:∀C f s H,PE (X.comp scope cl C (xs++kE ix X.N) f s H) elt te)
  {s:af} {σ:St} {H:Hp} {Q:VK} (I:aM X aa σ H s) (h:wd wi g tt te xs.length ix σ H Q) {RR:ae->L->aD->af->Prop}
  (hR:∀v u E C,aU v u->(∃H',Q v H'/\(∃m,E.heap.Ns C m)/\(∀h',cV C E.heap h'->aM X aa σ H' { E with heap:=h' })/\k7 X aa H' C)->RR u C (.ok .next) E) :
  Bf (Bg X.prog X.w) X.A (eval iter X.env) (λx aA=>Bf (Bg X.prog X.w) X.A (pyIter x) (λit aw=>Bf (Bg X.prog X.w) X.A (newList []) (λa5 av =>
   Bf (Bg X.prog X.w) X.A (newFunctionEnv scope X.env.globals cl [] X.env.qual ah .none (U X.env)) (λG an =>
    codeAny (Bg X.prog X.w) X.A (.compStart (.ListComp elt [⟨tg,iter,ifs,0⟩] scope pos) 0 it a5 { G with scope:=relabel scope X.env }) (RR a5 G.locals) an) X.xe av) X.xe aw) X.xe aA) X.xe s:=by
 refine aY (hi aa s σ H _ I h) λv s1 h1=>aY h1 λbl a h2=>?_;obtain⟨it,f,tn,J,H2,e,I2,T,aR,f2,hW⟩:=h2;subst e;refine cL (wpAny_newFunctionEnv S.nocell (λy hy=>nomatch hy) (λh₁ k j=>?_) S.kind);dsimp only at k j ⊢;obtain⟨W,⟨m0,w0⟩,al⟩:=hW a.heap.objs.size I2.fresh;have I3:=I2.lnew (t':=a.toks) (ys:=[]) (its:=[]) .nil (bU _);have a3:∀b∈f,b<a.heap.objs.size:=λb c=>by
  obtain⟨o,e,_⟩:=T.obj _ _ aR b c;exact bG e
 generalize hs3:({ a with heap:=a.heap.push { cls:=.type "list",data:=.seq ([]:List ae).toArray },toks:=a.toks }:af)=s3 at I3;have B:s3.heap=a.heap.push { cls:=.type "list",data:=.seq ([]:List ae).toArray }:=by rw[<-hs3]
 have a6:s3.heap.objs.size=a.heap.objs.size+1:=by rw[B,gA]
 have f3:∀b∈f,k7 X aa (upd H2 a.heap.objs.size (.lst [])) b:=λb c=>by
  obtain⟨q0,q⟩:=f2 b c;exact⟨by rw[zm (bV (a3 b c))];exact q0,q⟩
 have a2:∀b∈f,b<s3.heap.objs.size:=λb c=>by rw[a6];exact gc (a3 b c)
 rw[<-B] at k j ⊢;have hk:∀b o,s3.heap.get? b=U o->h₁.get? b=U o:=λb o e=>(j.2 b (bV (bG e))).trans (bc _ e);have a8:∀b o,a.heap.get? b=U o->s3.heap.get? b=U o:=λb o e=>by rw[B];exact bc _ e
 have J0:=I3.comp (xs:=xs) (t':=a.toks) (C:=s3.heap.objs.size) S Y f3 a2 k hk;have aL:tn 0 h₁:=T.keep _ _ _ aR λb _ o e=>hk b o (a8 b o e);have a1:∀t,codeAny (Bg X.prog X.w) X.A (.compLoop (.ListComp elt [⟨tg,iter,ifs,0⟩] scope pos) 0 (.ref it) (.ref a.heap.objs.size) (compEnvC scope cl s3.heap.objs.size X.env)) (RR (.ref a.heap.objs.size) s3.heap.objs.size) { s3 with heap:=h₁,toks:=t }:=by
  intro t;refine zbu (EE:=λ_ _=>False) (λn E=>∃i ys D H',aM (X.comp scope cl s3.heap.objs.size (xs++kE ix X.N) f s3 (upd H2 a.heap.objs.size (.lst []))) [] D H' E/\tn i E.heap/\(∀b∈f,H' b=ah)/\W i n ys D H')
   (λ_ _ z=>z.elim) ?_ m0 ⟨0,[],_,_,J0.tok t,aL,λb c=>(f3 b c).1,w0⟩
  rintro n E ⟨i,ys,D,H',I',aS,a4,w'⟩;have w:∀ {H':Hp},(∀b∈f,H' b=ah)->∀b∈f,k7 (X.comp scope cl s3.heap.objs.size (xs++kE ix X.N) f s3 (upd H2 a.heap.objs.size (.lst []))) [] H' b:=λhn b c =>
   ⟨hn b c,(I'.ok.exf b c).1,I'.ok.exfs b c,.inl c,(I'.ok.exf b c).2,λp hp=>absurd (show p∈([]:List (L×Obj)) from hp) (by simp)⟩
  obtain⟨hD,⟨aB,q⟩|⟨go,hz,N,hN,Nf,a9,aC⟩⟩:=al i n ys D H' w'
  .refine aY (T.done (X.comp scope cl s3.heap.objs.size (xs++kE ix X.N) f s3 (upd H2 a.heap.objs.size (.lst []))) Y Y Y hc i [] E D H' _ I' (w a4) aS aB) ?_;rintro r s4 ⟨hr,I4⟩;subst hr;refine hR (.ref a.heap.objs.size) _ s4 _ Y ⟨H',q,?_,λh' c=>I3.uncomp Y f3 I4 c,I3.fpOk (br _) I4.free⟩;obtain⟨m,hn,_⟩:=I4.loc;exact⟨m,hn⟩
  .refine aY (T.item (X.comp scope cl s3.heap.objs.size (xs++kE ix X.N) f s3 (upd H2 a.heap.objs.size (.lst []))) Y Y Y hc i [] E D H' _ I' (w a4) aS go) ?_;rintro r s4 ⟨u,hr,h4⟩;subst hr;refine aY h4 ?_;rintro _ s5 ⟨x,H5,I5,r5,y5,O,bg⟩;have bk:=I5.pinned (w bg) (T.obj _ _ O);refine aY (hg _ _ _ _ _ s5 D H5 x u _ bk r5 (aC x H5 y5)) ?_;rintro _ s6 ⟨l,H6,I6,q6⟩;refine aY (ht _ _ _ _ _ s6 l H6 _ I6 q6) ?_;rintro ok s7 ⟨H7,I7,q7⟩;have M:∀ {s8:af} {H8:Hp} {m:Nat} {zs:List V},aM (X.comp scope cl s3.heap.objs.size (xs++kE ix X.N) f s3 (upd H2 a.heap.objs.size (.lst []))) ([]++JS f s5.heap) l H8 s8->W (i+1) m zs l H8 ->
     ∃i ys D H',aM (X.comp scope cl s3.heap.objs.size (xs++kE ix X.N) f s3 (upd H2 a.heap.objs.size (.lst []))) [] D H' s8/\tn i s8.heap/\(∀b∈f,H' b=ah)/\W i m ys D H':=λ{s8 H8 m zs} I8 w8=>by
    refine⟨i+1,zs,l,H8,I8.unpinned,T.keep _ _ _ O λb c o e=>(I8.pin (b,o) (bP _ (bP _ (k9 c e)))).1,λb c=>?_,w8⟩;obtain⟨o,e,d⟩:=T.obj _ _ O b c;exact(I8.pin (b,o) (bP _ (bP _ (k9 c e)))).2.1
   cases ok with
   |false =>
    rw[am bT] at q7 ⊢;obtain⟨m',hm,w7⟩:=a9 _ _ q7;exact⟨m',hm,M I7 w7⟩
   |true =>
    rw[ao rfl] at q7 ⊢;refine aY (he _ _ _ _ _ s7 l H7 _ I7 q7) ?_;rintro y s8 ⟨v8,H8,I8,r8,n8⟩;obtain⟨be,m',hm,w8⟩:=hN _ _ _ n8;refine aY (z8 _ s8 l H8 (.ref a.heap.objs.size) [v8] (.ref a.heap.objs.size) [y] (λ_ Hn=>∃m,m<n/\W (i+1) m (ys++[v8]) l Hn) I8 Y (.cons r8 .nil) ⟨_,ys,v8,Y,Y,be,hz,m',hm,w8⟩) ?_;rintro _ s9 ⟨_,H9,I9,_,m9,a7,w9⟩;exact⟨m9,a7,M I9 w9⟩
 have e3:∀t,({ s3 with heap:=h₁,toks:=t }:af)={ a with heap:=h₁,toks:=t }:=λt=>by rw[<-hs3]
 have A:∀t,codeAny (Bg X.prog X.w) X.A (.compLoop (.ListComp elt [⟨tg,iter,ifs,0⟩] scope pos) 0 (.ref it) (.ref a.heap.objs.size) (compEnvC scope cl s3.heap.objs.size X.env)) (RR (.ref a.heap.objs.size) s3.heap.objs.size) { a with heap:=h₁,toks:=t }:=λt=>by rw[<-e3];exact a1 t
 exact codeAny_compStart_list (A _) (T.self _ 0 _ _ _ aL (A _))
theorem jg(n:X.calm=ai)(w:zfn osc N scope ix=ai)(j:PI X tg iter wi) (k:∀C a s H,PG (X.comp scope (Zx scope X.env) C (xs++kE ix X.N) a s H) tg g) (e:∀C a s H,PTs (X.comp scope (Zx scope X.env) C (xs++kE ix X.N) a s H) ifs tt) (l:∀C a s H,PE (X.comp scope (Zx scope X.env) C (xs++kE ix X.N) a s H) elt te) (b:X.env.scope=osc:=by rfl) (p:X.N=N:=by rfl) (f:∀x,foldedSetIterable iter X.env x=pure x:=by intro _;rfl) :
  PE X (.ListComp elt [⟨tg,iter,ifs,0⟩] scope pos) (wd wi g tt te xs.length ix):=by
 intro z s d H Q I h;have S:=X7 I.ok w b p;rw[eval_ListComp];refine nW (use:=ah) Y f S.clos S.kind S.names (J7 S n j k e l I h (RR:=λc C=>compPost (Bg X.prog X.w) X.A X.xe ah (EP X z d Q) c C) ?_);rintro v u B C r ⟨A,q,⟨m,i⟩,t,_⟩;exact⟨m,i,λy o=>⟨v,A,t y o,r,q⟩⟩
theorem J8{N:List Str}{y:Str}{d:Pos}{j:Nat}{c:Pos}(p:X.N.Nodup)(hj:X.N[j]?=U y)(hc:X.calm=ai)(M:Loc X.env.scope y)(hD:zfn osc N scope ix=ai)(hi:PI X tg iter wi) (hg:∀C f s H,PG (X.comp scope (Zx scope X.env) C (xs++kE ix X.N) f s H) tg g) (T:∀C f s H,PTs (X.comp scope (Zx scope X.env) C (xs++kE ix X.N) f s H) ifs tt) (he:∀C f s H,PE (X.comp scope (Zx scope X.env) C (xs++kE ix X.N) f s H) elt te) (k:X.env.scope=osc:=by rfl) (hN:X.N=N:=by rfl) (i:swapsWith (.ListComp elt [⟨tg,iter,ifs,0⟩] scope pos) (U (.Name y d)) c.line X.env=pure ai:=by rfl) (hs:∀x,foldedSetIterable iter X.env x=pure x:=by intro _;rfl) (hf:X.fn y=ai\/X.env.scope.names.lookup y=U .local:=by first|exact .inl rfl|exact .inr rfl|assumption) :
  PS X (.Assign [.Name y d] (.ListComp elt [⟨tg,iter,ifs,0⟩] scope pos) c) (zM (wd wi g tt te xs.length ix) (zq j)):=by
 intro z s G H D I h;have S:=X7 I.ok hD k hN;rw[exec_Assign_Name_used _ _ _ _ i];refine ba (ir (ba ?_));show Bf _ X.A (do let _ <-comprehension (.ListComp elt [⟨tg,iter,ifs,0⟩] scope pos) scope X.env _ (newList []) ag (eval iter X.env) (U (assign (.Name y d) X.env))) _ _ s;refine ba (aY (nW (use:=U (assign (.Name y d) X.env)) (Q:=λ_ s'=>SP X z D .next s') rfl hs S.clos S.kind S.names
  (J7 S hc hi hg T he I h (RR:=λw C=>compPost (Bg X.prog X.w) X.A X.xe (U (assign (.Name y d) X.env)) (λ_ s'=>SP X z D .next s') w C) ?_)) λ_ s' hq=>bf (bf hq))
 rintro v u s' C r ⟨E,q,⟨m,hn⟩,hI,f0,B,f2,f3,A,f5⟩;have I':aM X z G E s':=hI s'.heap (.refl ..);show Bf _ X.A (assign (.Name y d) X.env u) _ _ _;refine wpAny_assign_Name (zas I' p hj M r (λJ I2 O=>?_) hf);obtain⟨a,hb,ha⟩:=O;have t:C≠a:=by
  rcases ha with rfl|ha
  .exact B
  .exact cK (A _ _ ha)
 refine⟨m,hn.sameBut hb t,λh' n=>⟨_,E,?_,q⟩⟩;exact I2.turned (t':=J.toks) (λb o l e=>(n.2 b l).trans e) f0 B f3 A f5
end
abbrev J9:R2:=λx y H Q=>∃i j,x=.str i/\y=.str j/\i.length+j.length<=Bb/\Q (.str (i++j)) H
abbrev zjA:R2:=λx y H Q=>∃i j,x=.str i/\y=.str j/\Q (.bl (!(dX j i 0 j.length 1).isEmpty)) H
abbrev zmp:R2:=λx y H Q=>y=.non/\Q (.bl (decide (x=.non))) H
abbrev zcS:R2:=λx y H Q=>y=.non/\Q (.bl (!decide (x=.non))) H
abbrev RC:=List V->Hp->VK->Prop
abbrev xF(K:bo):RC:=λa H Q=>∃x n,a=[x]/\YS K x H n/\Q (.int n) H
abbrev zbv(K:bo):RC:=λa H Q=>∃x c t b,a=[x,c]/\YT K H x t/\(∃T,c=.ty T/\dG K t (.type T)=U b)/\Q (.bl b) H
abbrev zhq(K:bo):RC:=λc H Q=>∃(a:L) (b:List Bool),c=[.ref a]/\aP K H a (b.map V.bl)/\Q (.bl (b.all id)) H
abbrev zgd:RC:=λa H Q=>∃i,a=[.int i]/\i.natAbs.log2<1920/\Q (.str (toString i)) H
abbrev RM:=V->List V->Hp->VK->Prop
abbrev vQ:RM:=λx c H Q=>∃a b,x=.str a/\c=[.str b]/\Q (.bl (0+b.length<=a.length&&gf a b 0)) H
abbrev zep:RC:=λa H Q=>∃(x:Str) (n:Int),a=[.str x]/\PySem.intText? x=U n/\x.length<=640/\Q (.int n) H
theorem hU(p:L){H:Hp}(h:H p=ah):ac H (upd H p o):=λb u e=>by rw[zm (zr e h)];exact e
theorem zR(h:n<=100000):n<=Bb:=cg h ()
theorem yL:Bh "len"=U (.builtin "len"):=by lia
theorem yu:Bh "isinstance"=U (.builtin "isinstance"):=by lia
theorem zhr:Bh "all"=U (.builtin "all"):=by lia
theorem zln:Bh "any"=U (.builtin "any"):=by lia
theorem zlo:Bh "ord"=U (.builtin "ord"):=by lia
theorem YJ:Bh "sorted"=U (.builtin "sorted"):=by lia
theorem zlp:Bh "sum"=U (.builtin "sum"):=by lia
theorem zcT:Bh "reversed"=U (.type "reversed"):=by lia
theorem X8:Bh "enumerate"=U (.type "enumerate"):=by lia
theorem zbw:Bh "str"=U (.type "str"):=by lia
theorem Ka:Bh "int"=U (.type "int"):=by lia
theorem zfo:Bh "bool"=U (.type "bool"):=by lia
theorem jO:Bh "list"=U (.type "list"):=by lia
theorem zcU:Bh "tuple"=U (.type "tuple"):=by lia
theorem zbx:Bh "dict"=U (.type "dict"):=by lia
theorem zlq:Bh "set"=U (.type "set"):=by lia
theorem QF:Bh "ValueError"=U (.type "ValueError"):=by lia
section
variable {X:Cx}
def big:Int:=10^200
def Kb(_ j:Int):Prop:=0<j/\j<big
def CMulB(i j:Int):Prop:=(-big<i/\i<big)/\(-big<j/\j<big)
theorem zcV{j:Int}(h:j.natAbs<10^200):j.natAbs.log2<700:=by
 by_cases h0:j.natAbs=0
 .rw[h0];decide
 .exact(Nat.log2_lt h0).mpr (cq h ())
theorem zfp{j:Int}(h:-big<j/\j<big):j.natAbs<10^200:=by
 have e:big=((10^200:Nat):Int):=by lia
 rw[e] at h;lia
theorem CMulB.ok{i j:Int}(h:CMulB i j):IntMulOk i j:=by
 have b:∀k:Int,(-big<k/\k<big)->mU k<=2^20:=λk a=>by
  have q:=zcV (zfp a);unfold mU;split <;> lia
 exact .of_bits (b i h.1) (b j h.2)
theorem zfq:ux X (binaryOp .Mult) (rI CMulB λi j=>.int (i*j)):=opI λ_ _ _ _ _ _ _ a q=>mul_int q a.ok
theorem kF:ux X (binaryOp .FloorDiv) (rI Kb λi j=>.int (i/j)):=opI λi j _ _ _ _ _ a q=>by
 have b:(0:Int)<j:=a.1;refine floordiv_int () ?_ (.inl (PyProof.noPylong_of_log2 (pB (zcV (zfp ⟨by have:=a.2;lia,a.2⟩)) ())));rw[Int.fdiv_eq_ediv_of_nonneg i ()];exact q
theorem Zy:xV X (.builtin "isinstance") (zbv X.K):=by
 intro m s i H j l Q I r h;obtain⟨x,c,t,b,rfl,a,⟨T,rfl,e⟩,q⟩:=h;obtain⟨u,k,rfl,g,f⟩:=zg8 r;cases f;exact zf8 I g a e λd=>⟨.bl b,H,I.tok d,Y,q⟩
def Its(x:Str):It:=⟨λi _=>i<x.cps.size,λi H v a=>a=H/\∃c,x.cps[i]?=U c/\v=.str ⟨#[c]⟩,λi _=>x.cps.size<=i⟩
theorem zcW{P:ap}{w:au}{K:bo}{tg:ay}{it:L}{x:Str}{t:Tok}{j:String}(B:["enumerate","zip","dict_itemiterator","dict_reverseitemiterator","odict_iterator","itertools.zip_longest","itertools.pairwise"].contains j=ag) (W:∀A:aq,A.handled=ah->Walks P w A it [it] [it] x.cps.size (SignAt x) (λi h=>h.IsStrIter it j x t i)) (self:∀(A:aq) (i:Nat) (s:af) (Q:ae->af->Prop) (E:ae->af->Prop),s.heap.IsStrIter it j x t i->Q (.ref it) s->Bf (Bg P w) A (pyIter (.ref it)) Q E s) :
  Qz P w K tg (Its x) [it] it (λi h=>i<=x.cps.size/\h.IsStrIter it j x t i) where
 mem:=by simp
 obj:=λi h a b f=>by
  have e:b=it:=by simpa using f
  subst e;obtain⟨_,o,e,c,d⟩:=a;exact⟨o,e,λv z=>by rw[d] at z;cases z⟩
 keep:=λi h n a k=>by
  obtain⟨hi,o,e,r⟩:=a;exact⟨hi,o,k it (by simp) o e,r⟩
 item:=by
  intro X G y J D i aa s σ H E I m a l;subst G y J;obtain⟨f0,T,f2,O,N,M⟩:=m it (by simp);refine(W X.A (I.ok.hd D)).item i s _ _ l a.2 λv n p hv g q=>?_;obtain⟨c,u,C,rfl⟩:=hv;have I1:aM X aa σ H { s with heap:=n,toks:=p }:=I.turned (λb o f e=>q b o (by simpa using f) e) f0 T O N M;obtain⟨o,e,c1,d1⟩:=id g;exact⟨_,Y,JR (s:={ s with heap:=n,toks:=p }) e c1 d1 B ⟨.str ⟨#[c]⟩,H,I1,⟨u,rfl⟩,⟨rfl,c,C,rfl⟩,⟨l,g⟩,λb f=>(m b f).1⟩⟩
 done:=by
  intro X G y J D i aa s σ H E I m a l;subst G y J;obtain⟨f0,T,f2,O,N,M⟩:=m it (by simp);have e:i=x.cps.size:=pE a.1 l;subst e;exact(W X.A (I.ok.hd D)).done s _ _ a.2 λn p q=>⟨Y,I.turned (λb o f e=>q b o (by simpa using f) e) f0 T O N M⟩
 self:=λA i s Q E a h=>self A i s Q E a.2 h
def zhs(b:TE):TI:=λa H R=>b a H λx c=>∃z,x=.str z/\R (Its z) c
theorem zht{k:TE}(u:PE X l k):PI X tg l (zhs k):=by
 intro m s n H R I h;refine aY (u m s n H _ I h) ?_;rintro v a ⟨x,j,d,p,r⟩;obtain⟨z,rfl,q⟩:=r;obtain⟨t,rfl⟩:=p;have c:∀b∈[a.heap.objs.size],k7 X m j b:=λb w=>by
  have e:b=a.heap.objs.size:=by simpa using w
  subst e;exact d.fpOk (br _) (d.hok.fresh (br _))
 cases ha:z.cps.all (· < 128)
 .refine wpAny_pyIter_wide ha ?_;exact⟨a.heap.objs.size,[a.heap.objs.size],_,_,j,Y,d.kept (t':=a.toks) λb o e=>bc _ e,
   zcW (t:=t) () (λA g=>Walks.strWide g _ z t) λA i s Q E f h=>wpAny_pyIter_striter_wide f h,⟨bU _,_,bp _ Y,Y,Y⟩,c,q⟩
 .refine wpAny_pyIter_ascii ha ?_;exact⟨a.heap.objs.size,[a.heap.objs.size],_,_,j,Y,d.kept (t':=a.toks) λb o e=>bc _ e,
   zcW (t:=t) () (λA g=>Walks.strAscii g _ z t) λA i s Q E f h=>wpAny_pyIter_striter_ascii f h,⟨bU _,_,bp _ Y,Y,Y⟩,c,q⟩
theorem zaL(D:X.calm=ai):xV X (.builtin "all") (zhq X.K):=by
 intro aa s M H N O Q I r h;obtain⟨a,c,rfl,C,q⟩:=h;obtain⟨u,rfl,z⟩:=xA r;cases z;obtain⟨d,t,p,hz⟩:=I.list C;have m:=t.length;rw[bi] at m;have l:a≠s.heap.objs.size:=by
  obtain⟨o,n,e,_⟩:=p;exact bV (bG e)
 refine call_all_walk (ii p.isList ?_);refine⟨s.heap.objs.size,_,_,d.toArray.size,λi v=>d.toArray[i]?=U v,_,λi=>c.getD i ag,Y,tJ (A:=X.A.in1) (I.ok.hd D) _ a l d.toArray,?_,?_,λh' tk k=>?_⟩
 .refine⟨⟨_,bp _ Y,Y,Y⟩,?_⟩;exact p.isList.at λo e=>bc _ e
 .intro i v s' J E' B E;have f:d[i]?=U v:=by simpa using B
  have j:i<c.length:=by
   rw[m];exact(bE.mp f).1
  obtain⟨T,w,y⟩:=t.get (i:=i) (x:=V.bl c[i]) (by simp[j]);rw[f] at w;cases w;cases y;have e:c.getD i ag=c[i]:=by simp[j]
  have g:J (c.getD i ag) s':=E;rw[e] at g;exact fH g
 .have e:(dH d.toArray.size).all (λi=>c.getD i ag)=c.all id:=by
   rw[bM,<-m];have:c.map id=(dH c.length).map λi=>c.getD i ag:=by
    apply dY;intro i;by_cases j:i<c.length <;> simp[j]
   have G:c.all id=(c.map id).all id:=by simp
   rw[G,this,sJ];rfl
  rw[e];refine⟨.bl (c.all id),H,?_,Y,q⟩;exact I.kept λb o e=>k b o (by
   have:=bV (bG e);simpa using this) (bc _ e)
theorem QG:MtR X "str.startswith" vQ:=by
 intro j s f H x g v i Q I d e h;obtain⟨a,b,rfl,rfl,q⟩:=h;obtain⟨t,rfl⟩:=d;obtain⟨u,rfl,c,rfl⟩:=xA e;exact fO F.slot_str_startswith (iq s a t) F.entry_str_startswith (F.args_str_startswith_2 _ _) (gives_str_startswith a b t c).meets (show _ from ⟨.bl _,H,I,Y,q⟩)
def zhu:V->Option Int->Option Int->Hp->VK->Prop:=λx a b H Q=>∃z,x=.str z/\z.length<=Bb/\Q (.str (mV z a b)) H
theorem zhv:SlR X zhu:=by
 intro G s D H x v b a g p E Q I d m f e h;obtain⟨z,rfl,j,q⟩:=h;obtain⟨t,rfl⟩:=d;obtain⟨o,n,w,r⟩:=m;refine⟨"str",_,F.slot_str_getitem.lookup,iq _ _ _,?_⟩;obtain⟨l,C,B⟩:∃l:Option (Int×Tok),b=partValue l/\g=l.map (·.1):=by
  cases f with
  |none=>exact⟨ah,Y,Y⟩
  |int i t=>exact⟨U (i,t),Y,Y⟩
 obtain⟨u,A,y⟩:∃l:Option (Int×Tok),a=partValue l/\p=l.map (·.1):=by
  cases e with
  |none=>exact⟨ah,Y,Y⟩
  |int i t=>exact⟨U (i,t),Y,Y⟩
 subst C B A y;exact wpAny_getItem_str_slice (l:=l) (u:=u) (st:=ah) ⟨o,n,w,r⟩ rfl
  (post_val_or_str ⟨cg (Txt.slice_le z _ _) j,λc k=>⟨.str (mV z (l.map (·.1)) (u.map (·.1))),H,I.tok k,⟨c,Y⟩,q⟩⟩)
theorem qj:xV X (.type "int") zep:=by
 intro f s c H d e Q I r h;obtain⟨x,n,rfl,a,b,q⟩:=h;obtain⟨u,rfl,t,rfl⟩:=xA r;exact W.KIN.call_text a b ⟨.int n,H,I.tok _,⟨_,Y⟩,q⟩
end
theorem zhw(o:Obj)(f):(o.mapFields f).dict=o.dict:=by obtain⟨c,d,a,b⟩:=o;cases a <;> rfl
def TrD(h a:ax)(e:L)(d k j:ae)(g:Option L):Prop :=
 ∃c b T i f,h.get? e=U c/\((c.cls=d/\b[0]?=U k)/\c.dict=g/\(g=ah->b[2]?=U .none))/\c.data=.fields b/\b[1]?=U (.ref T)/\a.get? T=ah/\T≠e/\h.get? T=U i/\i.data=.fields f/\f[3]?=U j
section
variable {M:Model}{A:aq}{E:ae->af->Prop}{s:af}{base:ax}{env:Env}{outer:List Env}{Bn e:L}{cls a0:ae}{od:Option L}{Q:Unit->af->Prop}
def TrK(s:af)(base:ax)(l:List Env)(e:L)(cls a0 a:ae)(od:Option L)(g:ax):Prop:=base.StaysIn g/\g.FunFrames base l/\TrD g base e cls a0 a od/\s.heap.UpToSlots g
theorem zhx(fr:A.frames=U (env::outer))(k:s.heap.FunFrames base (env::outer))(fl:env.frame=U Bn)(r:s.heap.get? e=U oe)(T:base.StaysIn s.heap)(O:base.get? e=ah) (l:oe.data=.fields c) (t:1<c.size) (I:c[0]?=U a0) (H:oe.dict=ah->c[2]?=U .none) (h:∀g,TrK s base (env::outer) e oe.cls a0 (rawInt Bn) oe.dict g->Q PUnit.unit { s with heap:=g }) :
  Bf M A (do let a <-frameOf env;let d <-entryPlaceOf Bn hn;let b <-rj head a .none (rawInt Bn) .none d;setField (.ref e) 1 b) Q E s:=by
 have N:e ∉ (env::outer).filterMap (·.frame):=λp=>by
  obtain⟨_,o,j,z⟩:=k.mem p;rw[r] at j;injection j with j;subst j;exact z c l
 refine ba (wpAny_frameOf_fun fr k fl λg1 i=>ba (wpAny_entryPlaceOf λd f=>?_));unfold rj newFields;refine ba (cL ?_ (f.sizeOk5 _ _ _ _ _));have C:g1.get? e=U oe:=(i.2.1 e N).trans r;have y:base.StaysIn g1:=λb o q=>(i.2.1 b λp=>by rw[(k.mem p).1] at q;cases q).trans (T b o q);generalize hO:({ cls:=.type "traceback",dict:=ah,data:=.fields ([head,.ref Bn,.none,rawInt Bn,.none]++(if d.isEmpty then bD 6 cy else d)).toArray }:Obj)=nO;have D:nO.data=.fields ([head,.ref Bn,.none,rawInt Bn,.none]++(if d.isEmpty then bD 6 cy else d)).toArray:=by rw[<-hO]
 have B:=bc (h:=g1) nO C;refine fG B l t (h _ ?_);have x:g1.objs.size≠e:=dP (bG C);have G:=fo l (·.setIfInBounds 1 (bH g1.objs.size));have e3:=cW (eN (·.setIfInBounds 1 (bH g1.objs.size))) B (fS G);have J:=(cO (g1.push nO) (eN (·.setIfInBounds 1 (bH g1.objs.size))) (cK x)).trans (bp g1 (fS D));have m:∀b o,b≠e->g1.get? b=U o->((g1.push nO).update e (eN (·.setIfInBounds 1 (bH g1.objs.size)))).get? b=U o:=λb o n q=>by
  rw[cO _ _ (cK n)];exact bc _ q
 have v:∀b o,s.heap.get? b=U o->(∀c,o.data≠.fields c)->b≠e:=λb o q z w=>by rw[w,r] at q;injection q with q;subst q;exact z c l
 refine⟨λb o q=>m b o (λw=>by rw[w,O] at q;cases q) (y b o q),k.of_keeps λb o q z=>?_,?_,λb o q z=>?_⟩
 .obtain⟨u,w⟩:=i.2.2 b o q;exact⟨_,m b _ (v b o q z) w,Y⟩
 .exact⟨_,_,g1.objs.size,_,_,e3,⟨⟨nX _ _,by rw[lU ()];exact I⟩,zhw _ _,λz=>by rw[lU ()];exact H z⟩,G,by simp[t],y.fresh,x,J,D,by first|(simp;done)|(rcases f with rfl|⟨_,_,_,_,_,_,_,rfl⟩ <;> simp)⟩
 .obtain⟨u,w⟩:=i.2.2 b o q;exact⟨u,m b _ (v b o q z) w⟩
theorem zhy(B:base.StaysIn s.heap)(D:s.heap.FunFrames base l)(t:TrD s.heap base e cls a0 fl od)(h:∀g,TrK s base l e cls a0 .none od g->Q PUnit.unit { s with heap:=g }):Bf M A (setFlight (.ref e) ah) Q E s:=by
 obtain⟨y,d,T,G,k,r,C,u,j,p,v,i,c,x⟩:=t;have m:3<k.size:=(eh.mp x).1;have a:∀b,b≠T->(s.heap.update T (eN (·.setIfInBounds 3 ((ah:Option L).elim cy λf=>rawInt f)))).get? b=s.heap.get? b:=λb q=>cO _ _ (cK q);have n:∀b o,s.heap.get? b=U o->(∀d,o.data≠.fields d)->b≠T:=λb o q z w=>by rw[w,i] at q;injection q with q;subst q;exact z k c
 unfold setFlight;refine ba (dD r u j ?_);rw[ao (show (bH T != cy)=ai from by simp)];refine fG i c m (h _ ⟨λb o q=>(a b λw=>by rw[w,p] at q;cases q).trans (B b o q),D.of_keeps λb o q z=>⟨o,(a b (n b o q z)).trans q,rfl⟩,?_,λb o q z=>⟨o.slots,(a b (n b o q z)).trans q⟩⟩);exact⟨y,d,T,_,_,(a e (cK v)).trans r,C,u,j,p,v,cW _ i (fS (fo c _)),fo c _,by simp[m]⟩
theorem zlr(l:A.frames=U (env::outer))(m:s.heap.FunFrames base (env::outer))(c:env.frame=U Bn)(b:s.heap.get? e=U oe)(k:base.StaysIn s.heap)(j:base.get? e=ah) (d:oe.data=.fields vs) (a:vs[1]?=U .none) (i:vs[0]?=U a0) (f:oe.dict=ah->vs[2]?=U .none) (h:∀g,TrK s base (env::outer) e oe.cls a0 (rawInt Bn) oe.dict g->Q PUnit.unit { s with heap:=g }):Bf M A (noteFrame (.ref e) env) Q E s:=by
 unfold noteFrame;simp only[c];refine ba (dD b d a ?_);rw[am ()];exact zhx l m c b k j d (eh.mp a).1 i f h
theorem zeq(J:A.frames=U (env::outer))(N:s.heap.FunFrames base (env::outer))(p:env.frame=U Bn)(t:TrD s.heap base e cls a0 .none od)(I:base.StaysIn s.heap)(G:base.get? e=ah) (h:∀g,TrK s base (env::outer) e cls a0 (rawInt Bn) od g->Q PUnit.unit { s with heap:=g }):Bf M A (noteFrame (.ref e) env) Q E s:=by
 obtain⟨oe,j,T,oT,D,n,⟨⟨d,C⟩,c,B⟩,r,k,H,O,f,i,l⟩:=t;subst d c;unfold noteFrame;simp only[p];refine ba (dD n r k ?_);rw[ao (show (bH T != cy)=ai from by simp)];refine ba (dD f i l ?_);rw[am (show ¬ ((cy==rawInt Bn)=ai) from by simp[rawInt])];refine ba (fG f i (eh.mp l).1 ?_);have a:∀b,b≠T->(s.heap.update T (eN (·.setIfInBounds 3 cy))).get? b=s.heap.get? b:=λb q=>cO _ _ (cK q);have m:∀b o,s.heap.get? b=U o->(∀j,o.data≠.fields j)->b≠T:=λb o q z w=>by rw[w,f] at q;injection q with q;subst q;exact z D i
 refine zhx J (N.of_keeps λb o q z=>⟨o,(a b (m b o q z)).trans q,Y⟩) p ((a e (cK O)).trans n) (λb o q=>(a b λw=>by rw[w,H] at q;cases q).trans (I b o q)) G r (eh.mp k).1 C B λg ⟨y,x,v,u⟩=>h g ⟨y,x,v,λb o q z=>u b o ((a b (m b o q z)).trans q) z⟩
theorem zhz(x:∀ {Q:Unit->af->Prop},(∀g,TrK s base (env::outer) e cls a0 (rawInt Bn) od g->Q PUnit.unit { s with heap:=g })->Bf M A (noteFrame (.ref e) env) Q E s) (h:∀g,TrK s base (env::outer) e cls a0 .none od g->Q PUnit.unit { s with heap:=g }):Bf M A (leaving env (.ref e)) Q E s:=by
 unfold leaving;refine ba (x λg ⟨k,j,i,f⟩=>zhy k j i λl ⟨d,c,b,a⟩=>h l ⟨d,c,b,f.trans a⟩)
end
theorem aW.there{H:Hp}(x:aW P w H h a o):∃u,h.get? a=U u:=by
 cases o with
 |lst xs=>obtain⟨_,_,_,_,e⟩:=x;exact⟨_,e⟩
 |tup xs=>obtain⟨_,_,_,o,e,_⟩:=x;exact⟨_,e⟩
 |dK aL=>obtain⟨_,_,_,_,o,_,_,e,_⟩:=x;exact⟨_,e⟩
 |dT aL=>obtain⟨_,_,_,_,o,_,_,e,_⟩:=x;exact⟨_,e⟩
 |set S n=>obtain⟨o,_,_,_,e,_⟩:=x;exact⟨_,e⟩
 |ins C dx fs=>obtain⟨_,_,_,e,_⟩:=x;exact⟨_,e⟩
 |own y=>exact x
 |xd fs=>obtain⟨_,⟨o,_,_,e,_⟩,_⟩:=x;exact⟨_,e⟩
 |rng lo hi=>obtain⟨_,_,_,e⟩:=x;exact⟨_,e⟩
 |frz ob u=>obtain⟨e,_⟩:=x;exact⟨_,e⟩
 |tbl ps=>exact⟨_,(show h.get? a=U _ from x)⟩
 |met f y=>exact⟨_,(show h.get? a=U _ from x)⟩
 |ext φ=>obtain⟨_,e,_⟩:=x;exact e
def XF(g h:ax)(H:Hp)(e:L)(c:ae)(f:Option L):Prop :=
 ∃b a j T i d,h.get? e=U b/\(b.cls=c/\a[0]?=U j)/\b.data=.fields a/\a[1]?=U (.ref T)/\T≠e/\h.get? T=U i/\i.data=.fields d/\d[3]?=U .none /\
  g.get? e=ah/\g.get? T=ah/\H e=ah/\H T=ah/\b.dict=f/\(f=ah->a[2]?=U .none)
def uw(P:ap)(w:au):CXT:=λa H s E g b=>∃e c f d,g=.ref e/\b.os=s.os/\AllBare b.gens/\Un (uc a) [] H d s.heap b.heap/\uz P w d b.heap/\XF s.heap b.heap d e c f/\E c f d
theorem va{g h:ax}(k:∀b o,g.get? b=U o->∃a,h.get? b=U a)(e:h.get? b=ah):g.get? b=ah:=by
 cases q:g.get? b with
 |none=>rfl
 |some o =>
  obtain⟨a,z⟩:=k b o q;rw[e] at z;cases z
theorem XF.older{H:Hp}(x:XF g h H e cls od)(k:∀b o,g'.get? b=U o->∃m,g.get? b=U m):XF g' h H e cls od:=by
 obtain⟨j,f,y,T,l,i,w,v,u,t,s,r,q,p,n,d,c,a⟩:=x;exact⟨j,f,y,T,l,i,w,v,u,t,s,r,q,p,va k n,va k d,c,a⟩
section
variable {X:Cx}{aa:List (L×Obj)}{σ:St}{H:Hp}{s:af}
theorem aM.stackFields(J:aM X aa σ H s)(a:b∈uc X.stack):∃o,s.heap.get? b=U o/\∀vs,o.data≠.fields vs:=(J.stack.mem a).2
theorem aM.there0(a:X.ex=[])(J:aM X aa σ H s):∀b o,X.s₀.heap.get? b=U o->∃o',s.heap.get? b=U o':=λb o e=>J.base.there b o e (by rw[a];simp)
theorem aM.behind{cs:List L}(l:X.ex=[])(J:aM X aa σ H s)(d:∀b∈cs,H b=ah/\X.s₀.heap.get? b=ah) (r:∀b o,s.heap.get? b=U o->b ∉ uc X.stack->b ∉ cs->h2.get? b=U o) (C:∀b o,s.heap.get? b=U o->b∈uc X.stack->∃a,h2.get? b=U { o with slots:=a }) :
  Un X.fs [] X.H₀ H X.s₀.heap h2/\uz X.prog X.w H h2:=by
 have B:Un X.fs [] X.H₀ H X.s₀.heap s.heap:=by have:=J.base;rw[l] at this;exact this
 have A:∀b o,X.s₀.heap.get? b=U o->b≠X.env.locals:=λb o e=>bV (cq (bG e) J.ok.above);have k:∀b o,X.s₀.heap.get? b=U o->b ∉ cs:=λb o e z=>by rw[(d b z).2] at e;cases e
 have g:∀b o,s.heap.get? b=U o->b ∉ cs->∃a,h2.get? b=U { o with slots:=a }:=λb o e n=>by
  by_cases hb:b∈uc X.stack
  .exact C b o e hb
  .exact⟨o.slots,r b o e hb n⟩
 refine⟨⟨λb o e n f _=>?_,λb o e n f _=>?_,B.free,λb o e f=>?_,B.tups,B.frzs,B.tbls⟩,λb u e=>?_⟩
 .refine r b o (B.keep b o e n f (by simp)) (λz=>?_) (k b o e);rcases bJ.mp (J.stkSub b z) with q|q
  .exact A b o e q
  .exact f q
 .obtain⟨a,q⟩:=B.slot b o e n f (by simp);obtain⟨h,j⟩:=g b _ q (k b o e);exact⟨h,j⟩
 .obtain⟨y,q⟩:=B.there b o e (by simp);obtain⟨a,j⟩:=g b y q (k b o e);exact⟨_,j⟩
 .refine(J.hok b u e).stay (λc v hc q=>?_) (λ_ q=>q) λ_ _ q=>q;have t:H c≠ah:=by
   rcases hc with rfl|hc
   .rw[e];simp
   .rw[hc];simp
  exact r c v q (λz=>t (J.stkFree c z)) λz=>t (d c z).1
theorem aM.flown{cs:List L}{od:Option L}(f:X.ex=[])(J:aM X aa σ H s)(a:∀b∈cs,H b=ah/\X.s₀.heap.get? b=ah) (A:∀b o,s.heap.get? b=U o->b ∉ uc X.stack->b ∉ cs->B.get? b=U o) (y:∀b o,s.heap.get? b=U o->b∈uc X.stack->∃j,h2.get? b=U { o with slots:=j }) (he:H e=ah) (l:X.s₀.heap.get? e=ah) (kb:B.StaysIn h2) (M:TrD h2 B e cls a0 .none od) :
  Un X.fs [] X.H₀ H X.s₀.heap h2/\uz X.prog X.w H h2/\XF X.s₀.heap h2 H e cls od:=by
 have t:=J.behind (h2:=h2) f a (λb o q n1 n2=>kb b o (A b o q n1 n2)) y;refine⟨t.1,t.2,?_⟩;obtain⟨O,I,T,r,n,h1,g,h3,h4,E,h6,D,C,h9⟩:=M;have d:∀o,s.heap.get? T=U o->T∈cs:=λo q=>by
  by_cases hb:T∈uc X.stack
  .obtain⟨h,k,Q⟩:=J.stackFields hb;obtain⟨j,z⟩:=y T h k hb;rw[D] at z;have G:r={ h with slots:=j }:=cb z;exact absurd (by rw[<-C,G]) (Q n)
  .by_cases hc:T∈cs
   .exact hc
   .rw[A T o q hb hc] at E;cases E
 refine⟨O,I,a0,T,r,n,h1,g.1,h3,h4,h6,D,C,h9,l,?_,he,?_,g.2⟩
 .cases q:X.s₀.heap.get? T with
  |none=>rfl
  |some o =>
   obtain⟨h,k⟩:=J.there0 f T o q;rw[(a T (d h k)).2] at q;cases q
 .cases q:H T with
  |none=>rfl
  |some u =>
   obtain⟨o,z⟩:=(J.hok T u q).there;rw[(a T (d o z)).1] at q;cases q
theorem zaM{e:L}{c:Obj}{f:Array ae}{a0:ae}{E:XK}{EE:ae->af->Prop}(d:X.stack=X.env::X.outer/\X.env.frame=U X.env.locals)(i:X.ex=[])(J:aM X aa σ H s)(j:s.heap.get? e=U c)(dt:c.data=.fields f)(t:f[1]?=U .none)(u:f[0]?=U a0)(r:c.dict=ah->f[2]?=U .none) (m:H e=ah) (p:X.s₀.heap.get? e=ah) (M:E c.cls c.dict H):Bf (Bg X.prog X.w) X.A (leaving X.env (.ref e)) (λ_ w=>uw X.prog X.w X.outer X.H₀ X.s₀ E (.ref e) w) EE s:=by
 have O:s.heap.FunFrames (fQ s.heap (uc X.stack++[e])) (X.env::X.outer):=by
  have q:=gy (as:=uc X.stack++[e]) J.stack λk j a G=>cR _ (fk.mpr ⟨k,j,G⟩);rw[d.1] at q ⊢;exact q
 refine zhz (λh=>zlr (by rw[J.ok.frames,d.1]) O d.2 j (λb o q=>iY _ q) (eB _ (bP _ (by simp))) dt t u r h) λN ⟨T,f2,Q,g⟩=>?_;have I:∀b o,s.heap.get? b=U o->b∈uc X.stack->∃v,N.get? b=U { o with slots:=v }:=λb o q D=>by
  obtain⟨o',l,B⟩:=J.stackFields D;rw[q] at l;cases l;exact g b o q B
 obtain⟨A,y,x⟩:=J.flown (cs:=[e]) i (λb z=>by rw[bY.mp z];exact⟨m,p⟩) (λb o q n C=>ig _ q λz=>(cj.mp z).elim n C) I m p T Q;exact⟨e,c.cls,c.dict,H,Y,J.os,J.bare,A,y,x,M⟩
theorem zge{f:ax}{e:L}{b:ae}{g:List ae}{E:XK}{l:ae->af->Prop}(d:X.stack=X.env::X.outer/\X.env.frame=U X.env.locals)(a:X.ex=[])(J:aM X aa σ H s)(c:Heap.MadeExcOf s.heap f e b g)(k:E b ah H) :
  Bf (Bg X.prog X.w) X.A (leaving X.env (.ref e)) (λ_ h=>uw X.prog X.w X.outer X.H₀ X.s₀ E (.ref e) h) l { s with heap:=f }:=by
 obtain⟨t,j,i,m⟩:=c.there;refine zaM d a (J.kept (t':=s.toks) c.keeps) j Y Y Y (λ_=>rfl) ?_ (va (J.there0 a) c.new) k;cases q:H e with
 |none=>rfl
 |some u =>
  obtain⟨o,z⟩:=(J.hok e u q).there;rw[c.new] at z;cases z
theorem zhA{e:L}{d:ae}{g:Option L}{E:XK}{EE:ae->af->Prop}(c:X.stack=X.env::X.outer/\X.env.frame=U X.env.locals)(j:X.ex=[])(J:aM X aa σ H s)(w:XF X.s₀.heap s.heap H e d g)(hE:E d g H) :
  Bf (Bg X.prog X.w) X.A (leaving X.env (.ref e)) (λ_ B=>uw X.prog X.w X.outer X.H₀ X.s₀ E (.ref e) B) EE s:=by
 obtain⟨I,x,a0,T,M,y,h1,h2,h3,h4,h5,h6,h7,h8,u,p,f,m,l⟩:=id w;have fr:s.heap.FunFrames (fQ s.heap (uc X.stack++[e,T])) (X.env::X.outer):=by
  have q:=gy (as:=uc X.stack++[e,T]) J.stack λr Q a ha=>cR _ (fk.mpr ⟨r,Q,ha⟩);rw[c.1] at q ⊢;exact q
 refine zhz (λh=>zeq (by rw[J.ok.frames,c.1]) fr c.2 ⟨I,x,T,M,y,h1,⟨h2,l⟩,h3,h4,eB _ (bP _ (by simp)),h5,h6,h7,h8⟩ (λb o q=>iY _ q) (eB _ (bP _ (by simp))) h) λk ⟨f1,f2,f4,i⟩=>?_;have hF:∀b o,s.heap.get? b=U o->b∈uc X.stack->∃A,k.get? b=U { o with slots:=A }:=λb o q hb=>by
  obtain⟨o',t,N⟩:=J.stackFields hb;rw[q] at t;cases t;exact i b o q N
 obtain⟨G,D,C⟩:=J.flown (cs:=[e,T]) j (λb z=>by
   have v:b=e\/b=T:=by simpa using z
   rcases v with rfl|rfl
   .exact⟨f,u⟩
   .exact⟨m,p⟩) (λb o q n O=>ig _ q λz=>(cj.mp z).elim n O) hF f u f1 f4
 exact⟨e,d,g,H,Y,J.os,J.bare,G,D,C,hE⟩
end
def zhB(X:Cx)(E:XK):Prop:=∀(f:List (L×Obj)) (c:St) (H:Hp) (s:af) (b:ax) (e:L) (a:ae) (d:List ae),aM X f c H s->Heap.MadeExcOf s.heap b e a d->E a ah H->X.xe (.ref e) { s with heap:=b }
section
variable {P:ap}{w:au}{K:bo}{mg:Str->Option ae}{base:ax}{N:List Str}{qual:Str}{scope:az}{f:L}{cd:ae}{A:aq}{outer:List Env}{s₀:af}{H₀:Hp}{E:XK}
theorem yb:wZ (uw P w) (wU (uw P w) P w K mg base N qual scope f cd A outer s₀ H₀ E) E:=by
 intro p l H s o m I d;obtain⟨e,k,n,q,rfl,i,a,h,c,g,j⟩:=d;have J:=I.call' (ch:=[]) i h c a (λb z=>nomatch z);exact zhA (X:=wU (uw P w) P w K mg base N qual scope f cd A outer s₀ H₀ E) ⟨Y,Y⟩ Y J (g.older (I.there0 Y)) j
theorem X9:zhB (wU (uw P w) P w K mg base N qual scope f cd A outer s₀ H₀ E) E:=by
 intro i d H s h e c g I a b;exact zge (X:=wU (uw P w) P w K mg base N qual scope f cd A outer s₀ H₀ E) ⟨Y,Y⟩ Y I a b
theorem zls:PassesOwn (Bg P w) (wU (uw P w) P w K mg base N qual scope f cd A outer s₀ H₀ E).A (wU (uw P w) P w K mg base N qual scope f cd A outer s₀ H₀ E).env (wU (uw P w) P w K mg base N qual scope f cd A outer s₀ H₀ E).xe:=PassesOwn.leaving
end
abbrev Kc:List ae:=[.type "ValueError",.type "Exception",.type "BaseException",.type "object"]
abbrev jr:String:="ValueError.__new__"
def qk(C:L)(c:TA)(E:XK):TS:=λ_ a H=>c a H λb d=>b.length<=Bb/\E (.ref C) ah d
theorem zjB{K:bo}{h:ax}{C:L}{e:List ae}(X:K.In h)(q:tj K C e newId=ai) :
  ∃bm N o m v d l a w b u k j i g f y,h.get? C=U (excClassObj o m C N v bm d l a w b u k j i g f newId)/\h.Ns N y/\y "__init__"=ah/\OwnTail h e bm:=by
 unfold tj at q;split at q
 case h_2=>cases q
 rename_i u cd sl ho;split at q
 case h_2=>cases q
 rename_i C' bm k j i g n f hm hs;rw[bS,bS,bS,bS,bS] at q;obtain⟨⟨⟨⟨⟨E,D⟩,B⟩,A⟩,x⟩,z⟩:=q;obtain rfl:C'=C:=by simpa using E
 obtain rfl:n=newId:=by simpa using D
 obtain⟨o,v,p,G,m,H,l,a,w,b,t⟩:=cd;have c:t=ag:=by simpa using B
 have s:p=.ref C'::bm:=hm;subst c s;have r:sl=#[k,j,i,g,U (.builtin n),f]:=by
  apply tK;exact hs
 subst r;exact⟨bm,G,o,m,v,H,l,a,w,b,u,k,j,i,g,f,_,X _ _ ho,.of_isNs (W.isNs_of_in X x),W.nsMap_none_of_in X x (by simpa using z),W.tail_of_in X A⟩
section
variable {X:Cx}{x:Str}{C:L}{np tX pos:Pos}{e₀:ay}{rest:List ay}{ta:TA}{E:XK}
theorem Zz(v:X.calm=ai)(q:tj X.K C Kc jr=ai)(p:zhB X E)(t:Gl X x)(c:X.mg x=U (.ref C))(w:PA X (e₀::rest) ta) (f:Be (e₀::rest) X.env=(ag,eval e₀ X.env)::Be rest X.env:=by rfl) (r:(backTo tX (Be rest X.env)).any (·.1)=ag:=by rfl) (u:(x==("__debug__":Str))=ag:=by lia) :
  PS X (.Raise (U (.Call (.Name x np) (e₀::rest) [] tX)) ah pos) (qk C ta E):=by
 intro i s d H D I h;obtain⟨k,N,nm,n,bs,hdct,sn,sub,ab,col,dd,k0,k1,k2,k3,k5,mN,z,y,b,T⟩:=zjB I.ok.mod.kin q;refine wpAny_Raise_call_subT (C:=C) (nm:=nm) (q:=n) (N:=N) (bs:=bs) (bm:=k) (hdct:=hdct) (sn:=sn) (sub:=sub) (ab:=ab) (col:=col) (dd:=dd) (k0:=k0) (k1:=k1) (k2:=k2) (k3:=k3) (k5:=k5) (newId:=jr)
  eo (mN:=mN) (T.hasType eo.hasBase) (I.ok.hd v) (by rw[f];exact r) b (xy I t c ⟨Y,?_⟩ u)
 have g:=w tX i s d H _ I h;rw[f] at g ⊢;refine f7 (aY g λJ l ⟨G,B,a,m,j,o⟩=>?_);exact⟨Y,by rw[<-m.length];exact j,a.bk _ _ z,y.keeps a.bk,T.keeps a.bk,λA e c=>p i d B l A e _ _ a c o⟩
end
def uf(x:Str):Prop:=∀c∈x.cps.toList,c<128
section
variable {X:Cx}{e:ay}{te:TE}{a:Str}{j:Nat}{p1 p2 p3:Pos}
def zcX(te:TE):TE:=λb H Q=>te b H λv c=>∃x:Str,v=.str x/\x.length<=100000/\uf x/\∀y:Str,Q (.str y) c
theorem zfr(r:PE X e te)(M:a.length<=1000:=by lia):PE X (.JoinedStr [.Constant (.str a) j p1,.FormattedValue e 114 ah p2] p3) (zcX te):=by
 intro n s i H Q I h;refine wpAny_JoinedStr ?_;show Bf _ _ (eval (.Constant (.str a) j p1) X.env) _ _ s;have m:(iE++a).length=a.length:=by rw[nY];simp[iE,fq]
 refine rH ⟨a,_,Y,by rw[m];exact zR (),?_⟩;show Bf _ _ (eval (.FormattedValue e 114 ah p2) X.env) _ _ _;refine wpAny_FormattedValue_repr (aY (r n _ i H _ (I.tok _) h) λv o ⟨x,D,C,p,z,B,E,A,q⟩=>?_);subst B;obtain⟨t,rfl⟩:=p;have J:(reprText z).length<=10*z.length+2:=StrLaws.reprText_len z λc w=>pB (A c w) ();have G:Bb=16777216:=dq;refine wpAny_pyReprObj_gives (iq _ z t) PySem.F.slot_str_repr PySem.F.entry_str_repr (PySem.F.args_str_repr_1 _) (gives_str_repr z t) ?_ Y ();have g:∀(l:Tok) (k:Nat),∃y u,mh (reprText z) l=mh y u/\(iE++a++y).length<=Bb/\Joins (Bg X.prog X.w) X.A X.xe (evalEach [] X.env) (iE++a++y) (λd b=>d.length<=Bb/\EP X n i Q (.str d b.toks) { b with toks:=b.toks+1 }) { o with toks:=k }:=λl k=>by
  have f:(iE++a++reprText z).length<=Bb:=by rw[nY,m];lia
  exact⟨_,_,Y,f,f,.str _,D,C.tok _,⟨_,Y⟩,q _⟩
 exact wpAny_formatField_str (g _ _) (g _ _) ()
end
structure ExC(K:bo)(C:L):Prop where
 ga:fE K (.ref C) "__getattribute__"=U (U (.builtin "BaseException.__getattribute__"))
 gx:fE K (.ref C) "__getattr__"=U ah
 cl:fE K (.ref C) "__class__"=U (U (.builtin "object.__class__"))
 ob:tN K C (.type "object")=U ai
 be:tN K C (.type "BaseException")=U ai
 ge:sY K (.builtin "object.__class__") "__get__"=U (U (.builtin "getset_descriptor.__get__"))
 tk:W.takesIn K (.builtin "object.__class__")=U ai
section
variable {prog:ap}{w:au}{A:aq}{E:ae->af->Prop}{K:bo}{e C:L}{s:af}
theorem zhC(X:K.In h)(c:ExC K C):iP M h (PySem.Builtin.ObjectAttr.find (.ref e) (.ref C) "__class__") (.bind (.builtin "getset_descriptor.__get__") (.builtin "object.__class__")):=by
 have d:=fW (M:=M) X c.cl;have b:iP M h (PySem.Builtin.ObjectAttr.getOf (U (.builtin "object.__class__"))) (U (.builtin "getset_descriptor.__get__")):=W.looks_specialIn X c.ge;have a:=W.looks_takesIn (M:=M) X c.tk;refine d.andThen (b.andThen ?_);exact(show iP M h (PySem.Builtin.ObjectAttr.dataDescriptor? (U (.builtin "object.__class__")) (U (.builtin "getset_descriptor.__get__"))) (U ((.builtin "getset_descriptor.__get__"),(.builtin "object.__class__"))) from a.andThen .now).andThen (W.Looks.tag .now)
open PySem.Builtin PySem.Builtin.Getset_descriptor in
theorem zjC{R:aD->af->Prop}(X:K.In s.heap)(c:ExC K C)(f:iP (Bg prog w) s.heap (typeOf (.ref e)) (.ref C))(a:R (.ok (.ret (.ref C))) s) :
  codeAny (Bg prog w) A (.call (.builtin "getset_descriptor.__get__") ⟨[.builtin "object.__class__",.ref e,tp],[]⟩) R s:=by
 obtain⟨h,i,j,b,g⟩:=s;have d:=mK (M:=Bg prog w) X c.ob;refine fD W.KF.slot_gs.plain W.KF.entry_gs (W.KF.slot_gs.check _ _ _ _ _ _ _ _ W.KF.type_class (W.KF.args_gs _ _ _) ?_);unfold Builtin.«getset_descriptor.__get__» descrGet;rw[W.dga_obj];refine ba (bf ?_);unfold descrGetter descrCheckInstance descrNameAndClass isInstance;simp only[W.KF.owner_class]
 repeat lk
 refine⟨lD _ (),dA W.KF.entry_class ?_⟩;unfold Builtin.«object.__class__» shownTypeOf
 repeat lk
 exact a
theorem zgf{Q:Option ae->af->Prop}(X:K.In s.heap)(c:ExC K C)(LT:∀M:Model,iP M s.heap (typeOf (.ref e)) (.ref C))(n:Q (U (.ref C)) { s with toks:=s.toks+1 }) :
  Bf (Bg prog w) A (getAttr? (.ref e) "__class__") Q E s:=by
 obtain⟨o,t,u,b,r⟩:=s;have a:=LT (Bg prog w);have i:=fW (M:=Bg prog w) X c.ga;have h:=fW (M:=Bg prog w) X c.gx;have g:=mK (M:=Bg prog w) X c.be;have f:=zhC (M:=Bg prog w) (e:=e) X c;have q:=mK (M:=Bg prog w) X c.ob;have d:bindSpecial (.builtin "BaseException.__getattribute__") (.ref e)=pure (.builtin "BaseException.__getattribute__",[.ref e]):=iA.ga.bind (.ref e);have p:(mL "BaseException.__getattribute__" == mL "object.__getattribute__")=ag:=by lia
 unfold getAttr? getAttrBy? getAttrBy;refine ba (wpAny_mkText (ba (eE (dh (ba (a.at (ba (i.at ?_))))))));simp only[p,iF,cu,if_false];unfold getAttrByItsOwn hookBefore;refine ba (h.at ?_);unfold callGetattribute boundAndCalled;simp only[pZ,cu,if_false,tP,d];refine ba (eE (dh (ba (bf (fN ?_)))));refine fD iA.ga.plain F.entry_bexc_ga ?_;have m:builtinKind "BaseException.__getattribute__"=U .slot:=by lia
 have l:splitId "BaseException.__getattribute__"=U ("BaseException","__getattribute__"):=by lia
 have k:=F.args_bexc_ga (.ref e) (.str "__class__" b);simp only[checkBuiltinCall,m,l];refine ba (?_:Bf _ _ (isInstance (.ref e) (.type "BaseException")) _ _ _);have j:iP (Bg prog w) o (isInstance (.ref e) (.type "BaseException")) ai:=a.andThen g;refine j.at ?_;simp only[Bool.not_true,cu,if_false,cf,cp];refine lV (show _=pure PUnit.unit from k) ?_;refine ba (bf (ba (bf (ba (a.at (ba (f.at ?_)))))));show Bf _ _ (holding [.builtin "object.__class__"] (call (.builtin "getset_descriptor.__get__") [.builtin "object.__class__",.ref e,.ref C]) >>= ret) _ _ _;refine ba (dh (fN (zjC X c a (bf ?_))));exact W.handed_on Y (bf n)
theorem zcY{a:L}(c:ExC K C)(f:(tq K C).isSome=ai):W.KitX K (.ref a) (.ref C) (λh=>∃o,h.get? a=U o/\o.cls=.ref C) where
 ty:=λM h _ p=>by
  obtain⟨o,d,b⟩:=p;exact b ▸ (mP d).andThen .now
 it:=λ_ _ X _=>by
  obtain⟨i,z⟩:=iZ.mp f;unfold tq at z;split at z
  .rename_i y;intro u r t l k q;unfold isType loadHead;exact ba (p7 (k _ _ (X _ _ y)) (bf q))
  .cases z
 ne:=λh tp m g n j X p=>by
  obtain⟨i,z⟩:=iZ.mp f;refine dZ.mpr λq=>?_;obtain rfl:C=tp:=Value.ref.inj (beq_iff_eq.mp q);unfold tq at z;split at z
  .rename_i y;cases (X _ _ y).symm.trans p
  .cases z
 ca:=λX p k=>by
  obtain⟨o,d,b⟩:=p;exact zgf X c (λM=>b ▸ (mP d).andThen .now) k
end
section
variable {X:Cx}{aa:List (L×Obj)}{σ:St}{H:Hp}{s:af}
theorem aM.land{cs:List L}(a:X.ex=[])(I:aM X aa σ H s)(h:∀b∈cs,H b=ah/\X.s₀.heap.get? b=ah)(j:∀b∈cs,∀p∈X.pn++aa,p.1≠b) (D:∀b o,s.heap.get? b=U o->b ∉ uc X.stack->b ∉ cs->h2.get? b=U o) (g:s.heap.UpToSlots h2):aM X aa σ H { s with heap:=h2 }:=by
 have hF:∀b o,s.heap.get? b=U o->b∈uc X.stack->∃t,h2.get? b=U { o with slots:=t }:=λb o q T=>by
  obtain⟨o',y,f⟩:=I.stackFields T;rw[q] at y;cases y;exact g b o q f
 obtain⟨J,G⟩:=I.behind a h D hF;have E:∀c v,s.heap.IsCell c v->h2.IsCell c v:=λc v ⟨o,M,C⟩=>by
  obtain⟨t,q⟩:=g c o M λvs z=>by rw[C] at z;cases z
  exact⟨_,q,C⟩
 refine⟨I.ok,I.os,I.bare,by rw[a];exact J,?_,λx c e=>?_,I.free,I.freeC,λp B=>?_,G,I.len⟩
 .obtain⟨m,O,Q⟩:=I.loc;refine⟨m,g.ns O,λi x v e1 e2 e3=>?_⟩;obtain⟨u,r,l⟩:=Q i x v e1 e2 e3;refine⟨u,r,?_⟩;rcases l with l|⟨k,c,e,z⟩
  .exact .inl l
  .exact .inr ⟨k,c,e,E c _ z⟩
 .obtain⟨v,z⟩:=I.cell x c e;exact⟨v,E c v z⟩
 .obtain⟨e,n,A,f,d⟩:=I.pin p B;exact⟨D _ _ e (λz=>(bJ.mp (I.stkSub _ z)).elim A f) λz=>j _ z p B Y,n,A,f,d⟩
theorem aM.track{d:ax->Prop}(I:aM X aa σ H s)(C:H e=ah)(J:X.s₀.heap.get? e=ah)(D:X.ex=[])(G:e≠X.env.locals)(E:∀x c,X.env.cells.lookup x=U c->c≠e)(A:∀p∈X.pn++aa,p.1≠e) (ok:d s.heap/\(∃o,s.heap.get? e=U o)/\∀h g:ax,d h->(∀o,h.get? e=U o->g.get? e=U o)->d g):aM X aa σ (upd H e (.ext d)) s:=by
 have a:∀b u,H b=U u->b≠e:=λb u q z=>by rw[z,C] at q;cases q
 have B:=I.base;refine⟨I.ok,I.os,I.bare,⟨B.keep,B.slot,λb o q n x=>?_,B.there,λb f q=>?_,λb o u q=>?_,λb y q=>?_⟩,I.loc,I.cell,?_,λx c q=>?_,λp q=>?_,λb u q=>?_,I.len⟩
 .rw[zm λz=>by rw[z,J] at q;cases q];exact B.free b o q n x
 .have z:=B.tups b f q;rw[zm (a _ _ z)];exact z
 .have z:=B.frzs b o u q;rw[zm (a _ _ z)];exact z
 .obtain⟨m,z⟩:=B.tbls b y q;exact⟨m,by rw[zm (a _ _ z)];exact z⟩
 .rw[zm (cK G)];exact I.free
 .rw[zm (E x c q)];exact I.freeC x c q
 .obtain⟨t,r,l,k,j⟩:=I.pin p q;exact⟨t,by rw[zm (A p q)];exact r,l,k,j⟩
 .by_cases hb:b=e
  .subst hb;rw[zi] at q;cases q;exact ok
  .rw[zm hb] at q;exact(I.hok b u q).stay (λc v _ z=>z) (λc z=>by rw[zm (a _ _ z)];exact z) λc f z=>by rw[zm (a _ _ z)];exact z
theorem aM.forget{m:Str->Option ae}(I:aM X aa σ H s)(T:X.N.Nodup)(D:X.N[i]?=U n) (hm:s.heap.Ns X.env.locals m) (Q:∀(i:Nat) (x:Str) (v:V),X.N[i]?=U x->σ[i]?=U (U v)->Vis X.env.scope x->∃u,aU v u/\zmh X.env s.heap m x u) (O:h'.Ns X.env.locals (λx=>if x=n then v else m x)) (a:cV X.env.locals s.heap h'):aM X aa (σ.set i ah) H { s with heap:=h',toks:=t' }:=by
 have t:∀b o,X.s₀.heap.get? b=U o->b≠X.env.locals:=λb o e=>bV (cq (bG e) I.ok.above);have h:i<σ.length:=by rw[I.len];exact(bE.mp D).1
 refine⟨I.ok,I.os,I.bare,⟨λb o e n A g=>(a.2 b (t b o e)).trans (I.base.keep b o e n A g),λb o e n A g=>?_,I.base.free,λb o e g=>?_,I.base.tups,I.base.frzs,I.base.tbls⟩,⟨_,O,λj y w f l e3=>?_⟩,λy c e=>?_,I.free,I.freeC,λp M=>?_,λb u e=>?_,by simpa using I.len⟩
 .obtain⟨E,f⟩:=I.base.slot b o e n A g;exact⟨E,(a.2 b (t b o e)).trans f⟩
 .obtain⟨G,f⟩:=I.base.there b o e g;exact⟨G,(a.2 b (t b o e)).trans f⟩
 .by_cases hj:j=i
  .subst hj;rw[gE h] at l;cases l
  .rw[iz (cK hj)] at l;obtain⟨u,r,q⟩:=Q j y w f l e3;refine⟨u,r,?_⟩;rcases q with ⟨k,e⟩|⟨k,c,e,z⟩
   .have:y≠n:=λe=>hj (JO T f (e ▸ D));exact .inl ⟨k,by simp[this,e]⟩
   .exact .inr ⟨k,c,e,z.sameBut a (I.cne y c e)⟩
 .obtain⟨B,z⟩:=I.cell y c e;exact⟨B,z.sameBut a (I.cne y c e)⟩
 .obtain⟨e,n,C,J,d⟩:=I.pin p M;exact⟨(a.2 p.1 C).trans e,n,C,J,d⟩
 .refine(I.hok b u e).stay (λc B hc q=>(a.2 c ?_).trans q) (λ_ q=>q) λ_ _ q=>q;rintro rfl;rcases hc with rfl|hc
  .rw[I.free] at e;cases e
  .rw[I.free] at hc;cases hc
end
abbrev Cx.sub(X:Cx)(e:L):Cx:={ X with A:=X.A.mark (U (.ref e)),calm:=ag,xe:=λ_ _=>False }
section
variable {X:Cx}{aa:List (L×Obj)}{σ:St}{H:Hp}{s:af}{e:L}
theorem aM.toSub(I:aM X aa σ H s):aM (X.sub e) aa σ H s :=
 ⟨⟨I.ok.mod,I.ok.kind,I.ok.glob,I.ok.blt,I.ok.above,I.ok.inj,I.ok.has,I.ok.cab,(),I.ok.frames,I.ok.stk,I.ok.exf,I.ok.bs,I.ok.bsz,I.ok.noex,I.ok.exfs,I.ok.funs,I.ok.frf⟩,I.os,I.bare,I.base,I.loc,I.cell,I.free,I.freeC,I.pin,I.hok,I.len⟩
theorem aM.ofSub{J:aM X aa σ H s}{a:St}{b:Hp}(I:aM (X.sub e) aa a b s'):aM X aa a b s':=
 ⟨J.ok,I.os,I.bare,I.base,I.loc,I.cell,I.free,I.freeC,I.pin,I.hok,I.len⟩
end
abbrev EXK:=ae->St->Hp->Prop
def PX(X:Cx)(g:List (L×Obj))(k:EXK):ae->af->Prop:=λi f=>∃e a b d j c,i=.ref e/\aM X g b j d/\aM X g b c f/\∃h,XF d.heap f.heap c e a h/\k a b c
def PEX(X:Cx)(d:ay)(t:EXK->TE):Prop :=
 ∀(b:List (L×Obj)) (s:af) (a:St) (H:Hp) (Q:VK) (c:EXK),aM X b a H s->t c a H Q->Bf (Bg X.prog X.w) X.A (eval d X.env) (EP X b a Q) (PX X b c) s
def PSX(X:Cx)(st:ar)(t:EXK->TS):Prop :=
 ∀(a:List (L×Obj)) (s:af) (b:St) (H:Hp) (D:Zn) (c:EXK),aM X a b H s->t c D b H->Bf (Bg X.prog X.w) X.A (exec st X.env) (SP X a D) (PX X a c) s
section
variable {X:Cx}{ex:ay}{tx:EXK->TE}{pos p1:Pos}{i:Nat}{y:Str}
def zer(tx:EXK->TE)(c:EXK):TS:=λD a H=>tx c a H λ_ b=>D.nx a b
theorem zhD(d:PEX X ex tx)(c:swapsWith ex ah pos.line X.env=pure ag:=by rfl):PSX X (.Expr ex pos) (zer tx):=by
 intro e s a H D j I h;exact pY (aY (d e s a H _ j I h) λv k ⟨x,g,f,l,b⟩=>⟨a,g,f,b⟩) I.quiet c
def zkU(tx:EXK->TE)(i:Nat)(c:EXK):TS:=λD a H=>tx c a H λv b=>D.nx (a.set i (U v)) b
theorem zjD(k:X.N.Nodup)(f:X.N[i]?=U y)(d:Loc X.env.scope y)(j:PEX X ex tx)(e:swapsWith ex (U (.Name y pos')) pos.line X.env=pure ag:=by rfl)(g:X.fn y=ai\/X.env.scope.names.lookup y=U .local:=by first|exact .inl rfl|exact .inr rfl|assumption) :
  PSX X (.Assign [.Name y pos'] ex pos) (zkU tx i):=by
 intro l s a H D p I h;refine nP (aY (j l s a H _ p I h) λv r ⟨x,o,n,b,c⟩=>?_) e;exact kA n k f d b (λq m=>⟨_,o,m,c⟩) g
end
structure ExK(K:bo)(C:L):Prop extends ExC K C where
 has:(tq K C).isSome=ai
def zmT(i:Nat)(D:Zn):Zn:={ nx:=λa H=>D.nx (a.set i ah) H,rt:=D.rt,bk:=λa H=>D.bk (a.set i ah) H,ct:=λa H=>D.ct (a.set i ah) H }
def zmq:V->Option ae
 |.ty T=>U (.type T)
 |.ref D=>U (.ref D)
 |_=>ah
theorem zaN:∀ {b:List L} {a:List ae},aQ (b.map V.ref) a->a=b.map bH
 |[],_,.nil=>rfl
 |c::r,_,.cons h t=>by rw[zaN t];cases h;rfl
theorem zw :wZ (uw P w) X E0:=λ_ _ _ _ _ _ _ h=>by
 obtain⟨_,_,_,_,_,_,_,_,_,_,z⟩:=h;exact z.elim
section
variable {P:ap}{w:au}{K:bo}{mg:Str->Option ae}{base:ax}
theorem Fun.ok1{x qual:Str}{st:ar}{f:L}{fd:Bc}{N d:List Str}{k:Nat}{sp:Sp}(F:Fun K x qual st f fd)(S:aJ N d (zk st))(e:∀b H Q E,sp b H Q E->b.length=d.length) (c:∀(cdv:ae) (A:aq) (a:List Env) (s:af) (H:Hp) (b:List V) (Q:VK) (E:XK),hZ k (A.deeper (envOfC qual (zk st) s.heap.objs.size f cdv))->sp b H Q E ->
   ∃t,PSs (wU (uw P w) P w K mg base N qual (zk st) f cdv A a s H E) (xP st) t/\t { nx:=λ_ l=>Q .non l,rt:=Q } (start N b) H):aZ P w K mg base (uw P w) (k+1) f fd d sp:=by
 obtain⟨oc,od,kV,doc,pm,an,cdv,ct,osl,rfl,i,h⟩:=F.ex;exact zkR i h S e λA a s H b Q E j g=>c cdv A a s H b Q E j g
theorem Fun.ok0{x qual:Str}{st:ar}{f:L}{fd:Bc}{N g:List Str}{k:Nat}{sp:Sp}(F:Fun K x qual st f fd)(S:aJ N g (zk st))(i:∀d H Q E,sp d H Q E->d.length=g.length) (e:∀(cdv:ae) (A:aq) (c:List Env) (s:af) (H:Hp) (d:List V) (Q:VK) (E:XK),hZ k (A.deeper (envOfC qual (zk st) s.heap.objs.size f cdv))->sp d H Q E ->
   ∃t,PSs (wU (uw P w) P w K mg base N qual (zk st) f cdv A c s H E).nox (xP st) t/\t { nx:=λ_ l=>Q .non l,rt:=Q } (start N d) H):aZ P w K mg base (uw P w) (k+1) f fd g sp :=
 F.ok1 S i λcdv A c s H d Q E j h=>let ⟨t,a,b⟩:=e cdv A c s H d Q E j h;⟨t,a.nox,b⟩
end
end L2
namespace L2
open PySem
section
variable {σ:St}{H:Hp}{nx:St->Hp->Prop}{B:V->St->Hp->(St->Hp->Prop)->Prop}
theorem YK(b:List V)(Pv:Nat->St->Hp->Prop)(k:Pv 0 σ H)(h:∀i σ H,Pv i σ H->aP K H a b)(g:∀i x σ H,b[i]?=U x->Pv i σ H->B x σ H (Pv (i+1)))(j:∀σ H,Pv b.length σ H->nx σ H) :
  ∃W:Nat->Nat->St->Hp->Prop,(∃m,W 0 m σ H)/\∀i m σ H,W i m σ H->((Itl K a).stop i H/\nx σ H)\/((Itl K a).go i H/\∃N:St->Hp->Prop,(∀c d,N c d->∃e,e<m/\W (i+1) e c d)/\∀x d,(Itl K a).yld i H x d->B x σ d N):=by
 refine⟨λi m σ H=>m=b.length-i/\i<=b.length/\Pv i σ H,⟨b.length,by simp,bU _,k⟩,?_⟩;rintro i m σ H ⟨rfl,l,p⟩;have q:=h i σ H p;by_cases hlt:i<b.length
 .refine .inr ⟨⟨b,b[i],q,by simp[hlt]⟩,Pv (i+1),λc d f=>⟨b.length-(i+1),(),Y,hlt,f⟩,?_⟩;rintro x d ⟨rfl,y⟩;exact g i x σ _ (y b q) p
 .obtain rfl:i=b.length:=by lia
  exact .inl ⟨⟨b,q,br _⟩,j σ H p⟩
theorem zhE(b:List V)(Pv:Nat->St->Hp->Prop)(k:Pv 0 σ H)(h:∀i σ H,Pv i σ H->tZ K H a b)(g:∀i x σ H,b[i]?=U x->Pv i σ H->B x σ H (Pv (i+1)))(j:∀σ H,Pv b.length σ H->nx σ H) :
  ∃W:Nat->Nat->St->Hp->Prop,(∃m,W 0 m σ H)/\∀i m σ H,W i m σ H->((Itt K a).stop i H/\nx σ H)\/((Itt K a).go i H/\∃N:St->Hp->Prop,(∀c d,N c d->∃e,e<m/\W (i+1) e c d)/\∀x d,(Itt K a).yld i H x d->B x σ d N):=by
 refine⟨λi m σ H=>m=b.length-i/\i<=b.length/\Pv i σ H,⟨b.length,by simp,bU _,k⟩,?_⟩;rintro i m σ H ⟨rfl,l,p⟩;have q:=h i σ H p;by_cases hlt:i<b.length
 .refine .inr ⟨⟨b,b[i],q,by simp[hlt]⟩,Pv (i+1),λc d f=>⟨b.length-(i+1),(),Y,hlt,f⟩,?_⟩;rintro x d ⟨rfl,y⟩;exact g i x σ _ (y b q) p
 .obtain rfl:i=b.length:=by lia
  exact .inl ⟨⟨b,q,br _⟩,j σ H p⟩
end
theorem kG{J:It}{D:L}{f:St}{k:Hp}{Q:Hp->Prop}{B:V->St->Hp->(V->St->Hp->Prop)->(St->Hp->Prop)->Prop}(n:Nat)(hn:n<=1000000)(C:St->Prop)(R:Nat->V->Prop)(hC:C f) (go:∀i H,ac k H->i<n->J.go i H) (l:∀H,ac k H->J.stop n H) (hD:k D=ah) (O:∀i x g H d,C g->ac k H->i<n->J.yld i H x d->B x g d (λv a t=>C a/\R i v/\ac H t) (λ_ _=>False)) (T:∀c H,c.length=n->(∀i v,c[i]?=U v->R i v)->ac k H->H D=U (.lst c)->Q H) :
  ∃W:Nat->Nat->List V->St->Hp->Prop,(∃m,W 0 m [] f (upd k D (.lst [])))/\∀i m c g H,W i m c g H->H D=U (.lst c) /\
  ((J.stop i H/\Q H)\/(J.go i H/\c.length<Bb/\∃N:V->St->Hp->Prop,
   (∀v a d,N v a d->d D=U (.lst c)/\∃p,p<m/\W (i+1) p (c++[v]) a (upd d D (.lst (c++[v]))))/\∃I:St->Hp->Prop,(∀a d,I a d->∃p,p<m/\W (i+1) p c a d) /\
   ∀x d,J.yld i H x d->B x g d N I)):=by
 have s:∀ {H:Hp} {o:HO},ac k H->ac k (upd H D o):=λ{H o} h b u e=>by
  rw[zm (zr e hD)];exact h b u e
 refine⟨λi m c g H=>m=n-i/\i<=n/\c.length=i/\(∀j v,c[j]?=U v->R j v)/\ac k H/\H D=U (.lst c)/\C g,⟨n,by simp,bU _,Y,by simp,s (ac.refl _),zi,hC⟩,?_⟩;rintro i m c g H ⟨rfl,hi,A,G,r,w,hc⟩;refine⟨w,?_⟩;by_cases hlt:i<n
 .refine .inr ⟨go i H r hlt,dy (by lia:c.length<=1000000) (),(λv a t=>C a/\R i v/\ac H t),?_,(λ_ _=>False),λ_ _ z=>z.elim,λx d y=>O i x g H d hc r hlt y⟩;rintro v a t ⟨c4,M,E⟩;refine⟨E _ _ w,n-(i+1),(),Y,hlt,by simp[A],λj u q=>?_,s (r.trans E),zi,c4⟩;rcases Nat.lt_trichotomy j c.length with h|h|h
  .exact G j u (by rwa [dI h] at q)
  .subst h;simp at q;subst q;rw[A];exact M
  .rw[ck (by simp;lia)] at q;cases q
 .obtain rfl:i=n:=by lia
  exact .inl ⟨l H r,T c H A G r w⟩
theorem zby(n d:Nat)(v:Int):max (0:Int) (min (if v<0 then v+n else v) n)=((HT.sIx n d (U v):Nat):Int):=by
 show _=(((if v<0 then (v+(n:Int)).toNat else min v.toNat n):Nat):Int);by_cases hv:v<0
 .simp only[ao hv];lia
 .simp only[am hv];lia
theorem zjE(a b:Nat):sliceRange (a:Int) (b:Int) 1=(dH (b-a)).map λk=>a+k:=by
 simp only[sliceRange,show ((1:Int) > 0)=True from by simp,if_true];by_cases hlt:(a:Int)<b
 .have c:(((b:Int)-a+1-1)/1).toNat=b-a:=by rw[Int.ediv_one];lia
  simp only[hlt,if_true,c];refine iR λk _=>?_;lia
 .have:b-a=0:=by lia
  simp[hlt,this]
theorem zhF(lo a:Option Int)(n:Nat):mW lo a 1 n=(dH (HT.sIx n n a-HT.sIx n 0 lo)).map λk=>HT.sIx n 0 lo+k:=by
 rw[<-zjE];unfold mW;simp only[show ((1:Int) > 0)=True from by simp,if_true];cases lo with
 |none =>
  cases a with
  |none=>rfl
  |some v=>simp only[zby n n v];rfl
 |some u =>
  cases a with
  |none=>simp only[zby n 0 u];rfl
  |some v=>simp only[zby n n v,zby n 0 u]
theorem zgg(x:Str)(lo a:Option Int):(mV x lo a).cps.toList=(x.cps.toList.drop (HT.sIx x.length 0 lo)).take (HT.sIx x.length x.length a-HT.sIx x.length 0 lo):=by
 have c:=HT.sIx_le x.length x.length (br _) a;have b:x.cps.toList.length=x.length:=by simp[fq]
 unfold mV;rw[zhF];split
 .rename_i h;have d:HT.sIx x.length x.length a-HT.sIx x.length 0 lo=x.length:=by simpa using h
  have e0:HT.sIx x.length 0 lo=0\/x.length=0:=by lia
  rcases e0 with e0|e0
  .rw[e0,gC,dM];lia
  .rw[c8 (by lia:x.cps.toList.length=0)];simp
 .by_cases hab:HT.sIx x.length 0 lo<=HT.sIx x.length x.length a
  .have h:=StrLaws.picks x.cps.toList (HT.sIx x.length x.length a-HT.sIx x.length 0 lo) (HT.sIx x.length 0 lo) ();simpa using h
  .have:HT.sIx x.length x.length a-HT.sIx x.length 0 lo=0:=by lia
   rw[this];simp
theorem Kd(x:Str)(k:Nat):(mV x (U (k:Int)) ah).cps.toList=x.cps.toList.drop k:=by
 rw[zgg,HT.sIx_none,HT.sIx_nat];have a:x.cps.toList.length=x.length:=by simp[fq]
 by_cases h:k<=x.length
 .rw[mX h,dM (by rw[fw];lia)]
 .rw[lM (by lia:x.cps.toList.length<=k),Nat.min_eq_right (),lM ()];simp
theorem vA{x y:Str}(h:x.cps.toList=y.cps.toList):x=y:=by
 obtain⟨a⟩:=x;obtain⟨b⟩:=y;have:a=b:=Array.toList_inj.mp h;rw[this]
theorem jP(x y:Str):(x++y).cps.toList=x.cps.toList++y.cps.toList:=by
 show (x.cps++y.cps).toList=_;simp
theorem zgh(x y:Str):(0+y.length<=x.length&&gf x y 0)=(x.cps.toList.take y.length==y.cps.toList):=by
 rw[StrLaws.subAt_eq,gC];have a:x.cps.toList.length=x.length:=by simp[fq]
 have b:y.cps.toList.length=y.length:=by simp[fq]
 by_cases h:y.length<=x.length
 .simp[h]
 .have e:(x.cps.toList.take y.length==y.cps.toList)=ag:=by
   rw[beq_eq_false_iff_ne];intro e;have:=congrArg bQ e;rw[c7] at this;lia
  rw[e];simp
open PySem.NumText in
section
def zY(w:Int):Str:=bb (toString w)
def dg(m:Nat):List Nat:=(pF 10 m).map tL
theorem xm(h:m<10):dg m=[48+m]:=by
 unfold dg;rw[Nat.toDigits_of_lt_base h];have:∀d:Nat,d<10->(Nat.digitChar d).toNat=48+d:=by lia
 simp[this m h]
theorem YL(h:10<=m):dg m=dg (m/10)++[48+m%10]:=by
 have a:m%10<10:=sk m ();have t:pF 10 (m/10)++pF 10 (m%10)=pF 10 (10*(m/10)+m%10):=Nat.toDigits_append_toDigits () () a;rw[Nat.div_add_mod] at t;rw[<-xm a];unfold dg;rw[<-t,cm]
theorem ZA(m:Nat):AllDigits (dg m):=by
 induction m using pG with
 |_ m ih =>
  by_cases h:m<10
  .rw[xm h];intro c hc;have e:c=48+m:=by simpa using hc
   lia
  .rw[YL ()];intro c hc;rcases cj.mp hc with hc|hc
   .exact ih (m/10) () c hc
   .have e:c=48+m%10:=by simpa using hc
    lia
theorem zcZ(m:Nat):dg m≠[]:=by
 by_cases h:m<10
 .rw[xm h];simp
 .rw[YL ()];simp
theorem zhG(m:Nat):digitsVal (dg m)=m:=by
 induction m using pG with
 |_ m ih =>
  by_cases h:m<10
  .rw[xm h];show 0*10+(48+m-48)=m;lia
  .rw[YL (),digitsVal_snoc,ih (m/10) ()];lia
theorem Ke:∀(k m:Nat),m<10^(k+1)->(dg m).length<=k+1
 |0,m,h=>by rw[xm (by simpa using h)];simp
 |k+1,m,h=>by
  by_cases hm:m<10
  .rw[xm hm];simp
  .rw[YL (),bn];have:=Ke k (m/10) (by rw[Nat.pow_succ] at h;lia);simp only[bR,lB];lia
theorem y9(m:Nat):(zY (m:Int)).cps.toList=dg m:=by
 unfold zY;rw[o7];show (Nat.repr m).toList.map tL=_;rw[Nat.toList_repr];rfl
theorem vC{m:Nat}(h:0<m):(zY (-(m:Int))).cps.toList=45::dg m:=by
 obtain⟨k,rfl⟩:∃k,m=k+1:=⟨m-1,()⟩;have e:(-((k+1:Nat):Int))=tu k:=by lia
 rw[e];unfold zY;rw[o7];show (("-" ++ Nat.repr (k+1)):String).toList.map tL=_;rw[String.toList_append,cm,Nat.toList_repr];rfl
theorem wK(x:Str):x.length=x.cps.toList.length:=by simp[fq]
theorem zhH{w:Int}(h:w.natAbs<10^(k+1)):(zY w).length<=k+2:=by
 rw[wK];rcases pH w 0 with h0|h0
 .obtain⟨m,rfl,a⟩:∃m:Nat,w=-(m:Int)/\0<m:=⟨w.natAbs,(),()⟩;rw[vC a,bR];have:=Ke k m ();lia
 .obtain⟨m,rfl⟩:∃m:Nat,w=(m:Int):=⟨w.natAbs,()⟩;rw[y9];have:=Ke k m ();lia
theorem Kf{w:Int}(h:w.natAbs<10^100):intText? (zY w)=U w:=by
 have a:(zY w).length<=4300:=cg (zhH (k:=99) h) ();rcases pH w 0 with h0|h0
 .obtain⟨m,rfl,b⟩:∃m:Nat,w=-(m:Int)/\0<m:=⟨w.natAbs,(),()⟩;rw[intText_neg (vC b) (ZA m) (zcZ m) a,zhG]
 .obtain⟨m,rfl⟩:∃m:Nat,w=(m:Int):=⟨w.natAbs,()⟩;rw[p8 (by rw[y9];exact ZA m) (by rw[y9];exact zcZ m) a,y9,zhG]
def inF(c:Nat):Bool:=!(dX "0123456789" ⟨#[c]⟩ 0 (fq "0123456789") 1).isEmpty
theorem zjF(c:Nat):inF c=ai↔48<=c/\c<=57:=by
 unfold inF;rw[sq,decide_eq_true_eq];exact⟨(by lia:∀c∈(bb "0123456789").cps.toList,48<=c/\c<=57) c,λ⟨h,g⟩=>(by lia:∀c<58,48<=c->c∈(bb "0123456789").cps.toList) c (Nat.lt_succ_of_le g) h⟩
def jQ(x:Str):Bool:=!decide (x="")&&x.cps.toList.all inF
theorem W7(x:Str):jQ x=ai↔x.cps.toList≠[]/\AllDigits x.cps.toList:=by
 unfold jQ;rw[bS,cr,decide_eq_false_iff_not,fA];refine and_congr ⟨λh e=>h (vA (by rw[e];lia)),λh e=>h (by rw[e];lia)⟩ ?_;exact forall_congr' λc=>forall_congr' λ_=>zjF c
def inW(i:Int):Bool:=decide (-1000000000000000000000000000000<=i/\i<=1000000000000000000000000000000)
def xB(x:Str):Str:=if (x.cps.toList.take 1==[45])=ai then mV x (U 1) ah else x
theorem vb(x:Str):(∃a,x.cps.toList=45::a/\(xB x).cps.toList=a)\/((∀a,x.cps.toList≠45::a)/\xB x=x):=by
 unfold xB;cases h:x.cps.toList with
 |nil=>exact .inr ⟨(λa e=>nomatch e),am (by simp)⟩
 |cons c a =>
  by_cases hc:c=45
  .subst hc;refine .inl ⟨a,Y,?_⟩;rw[ao (by simp)];have:=Kd x 1;rw[h] at this;exact this
  .refine .inr ⟨λb e=>hc (fT e).1,?_⟩;rw[am (by simp[hc])]
def wL(x:Str):Int:=(intText? x).getD 0
theorem Kg(h:jQ (xB x)=ai)(c:x.length<=4300):intText? x=U (wL x):=by
 obtain⟨b,a⟩:=(W7 _).mp h;unfold wL;rcases vb x with ⟨cs,e,ef⟩|⟨_,ef⟩
 .rw[ef] at b a;rw[intText_neg e a b c];rfl
 .rw[ef] at b a;rw[p8 a b c];rfl
def xW(x:Str):Bool:=!(decide (31<(xB x).length) || !jQ (xB x))&&(inW (wL x)&&decide (zY (wL x)=x))
theorem W8(x:Str):x.length<=(xB x).length+1:=by
 rw[wK,wK];rcases vb x with ⟨cs,e,ef⟩|⟨_,ef⟩
 .rw[e,ef];simp
 .rw[ef];lia
theorem zhI(x:Str):(xB x).length<=x.length:=by
 unfold xB;split
 .exact Txt.slice_le x _ _
 .exact br _
theorem Xk{w:Int}(h:inW w=ai):xW (zY w)=ai/\wL (zY w)=w/\(zY w).length<=40:=by
 have f:-1000000000000000000000000000000<=w/\w<=1000000000000000000000000000000:=of_decide_eq_true h;have c:=Kf (w:=w) (dy (by lia:w.natAbs<=1000000000000000000000000000000) ());have a:wL (zY w)=w:=by unfold wL;rw[c];rfl
 have d:(xB (zY w)).length<=31/\jQ (xB (zY w))=ai:=by
  rw[W7,wK];rcases pH w 0 with h0|h0
  .obtain⟨m,rfl,b⟩:∃m:Nat,w=-(m:Int)/\0<m:=⟨w.natAbs,(),()⟩;rcases vb (zY (-(m:Int))) with ⟨cs,e,ef⟩|⟨e,_⟩
   .rw[vC b] at e;rw[ef,<-(fT e).2];exact⟨Ke 30 m (),zcZ m,ZA m⟩
   .exact absurd (vC b) (e _)
  .obtain⟨m,rfl⟩:∃m:Nat,w=(m:Int):=⟨w.natAbs,()⟩;rcases vb (zY (m:Int)) with ⟨cs,e,ef⟩|⟨_,ef⟩
   .have:=ZA m 45 (by rw[<-y9,e];simp);lia
   .rw[ef,y9];exact⟨Ke 30 m (),zcZ m,ZA m⟩
 refine⟨?_,a,cg (W8 _) ()⟩;unfold xW;rw[a,d.2,h,Bk (by lia:¬ 31<(xB (zY w)).length),Bj rfl];rfl
end
end L2
namespace L2
open PySem PySem.Spec PyProof.Rows
def jt(a:Str):List Str->Str
 |[p]=>p
 |l=>sy a l
def zc0(a:Str)(b:List Str):Nat:=b.foldl (λn p=>n+p.length+a.length) 0
abbrev wG(K:bo):RM:=λx d H Q=>∃b a c,x=.str b/\d=[.ref a]/\aP K H a (c.map V.str)/\zc0 b c<=Bb/\Q (.str (jt b c)) H
theorem JI(a:Str):∀(b:List Str) (k:Nat),b.foldl (λn p=>n+p.length+a.length) k=k+(b.map (·.length)).sum+b.length*a.length
 |[],k=>by simp
 |p::r,k=>by
  rw[lC,JI a r,bN,gn,bR,Nat.add_mul,Nat.one_mul];lia
theorem YM(a:Str)(ls:List Str):(jt a ls).length<=zc0 a ls:=by
 unfold zc0;rw[JI];have g:(sy a ls).length<=0+(ls.map (·.length)).sum+ls.length*a.length:=by
  rw[size_glued];have:(ls.length-1)*a.length<=ls.length*a.length:=Nat.mul_le_mul_right _ ();lia
 unfold jt;split
 .simp only[bN,mn,gn,List.sum_nil,bR,lB];lia
 .exact g
theorem zaO:∀ {b:List Str} {a:List ae},aQ (b.map V.str) a->∃l:List (Str×Tok),a=strValues l/\l.map (·.1)=b
 |[],_,.nil=>⟨[],Y,Y⟩
 |x::r,_,.cons h t=>by
  obtain⟨l,rfl,e⟩:=zaO t;obtain⟨k,rfl⟩:=h;exact⟨(x,k)::l,Y,by rw[bN,e]⟩
def zms(x:Str)(n:Int):Str:=if n<1 then iE else if (n==1 || x.length==0)=ai then x else ⟨(bD n.toNat x.cps).foldl (· ++ ·) #[]⟩
section
variable {X:Cx}
theorem JJ:MtR X "str.join" (wG X.K):=by
 intro B s w H x y v z Q I g j h;obtain⟨b,a,m,rfl,rfl,o,c,q⟩:=h;obtain⟨t,rfl⟩:=g;obtain⟨u,rfl,k⟩:=xA j;cases k;obtain⟨n,i,p,A⟩:=I.list o;obtain⟨l,rfl,e⟩:=zaO i;have f:iS ((l.map (·.1)).toArray.foldl (· + ·.length+b.length) 0)=ag:=by
  rw[e,List.foldl_toArray];unfold iS;exact Bk (by unfold zc0 at c;lia)
 have d:=YM b m;refine fO F.slot_str_join (iq s b t) F.entry_str_join (F.args_str_join_2 _ _) (meets_str_join_list b t a l f) ⟨p.isList,?_⟩;subst e
 match l,q,d,c with
 |[],q,d,c=>exact⟨cg d c,.str _,H,I.tok _,⟨_,Y⟩,q⟩
 |[p],q,d,c=>exact⟨.str p.1,H,I,⟨_,Y⟩,q⟩
 |p::p'::r,q,d,c=>exact⟨cg d c,.str _,H,I.tok _,⟨_,Y⟩,q⟩
end
theorem uf.app(h:uf x)(b:uf y):uf (x++y):=λc a=>by
 rw[jP] at a;exact(cj.mp a).elim (h c) (b c)
theorem uf.num(w:Int):uf (zY w):=λc hc=>by
 have d:∀(m c:Nat),c∈dg m->c<128:=λm c h=>by have:=ZA m c h;lia
 rcases pH w 0 with h0|h0
 .obtain⟨m,rfl,a⟩:∃m:Nat,w=-(m:Int)/\0<m:=⟨w.natAbs,(),()⟩;rw[vC a] at hc;rcases bJ.mp hc with rfl|hc
  .decide
  .exact d m c hc
 .obtain⟨m,rfl⟩:∃m:Nat,w=(m:Int):=⟨w.natAbs,()⟩;rw[y9] at hc;exact d m c hc
theorem jR(x y:Str):(x++y).length=x.length+y.length:=nY x y
section
open PySem.NumText
theorem zjG:∀ {v:Nat} {r:List Nat},dg v=48::r->v=0:=by
 intro v;induction v using pG with
 |_ v ih =>
  intro r h;by_cases hv:v<10
  .rw[xm hv] at h;have:=(fT h).1;lia
  .rw[YL ()] at h;cases e:dg (v/10) with
   |nil=>exact absurd e (zcZ _)
   |cons a l =>
    rw[e] at h;have b:a=48:=(fT h).1;subst b;have:=ih (v/10) () e;lia
theorem zkV:∀(n:Nat) {d:List Nat},d.length=n->AllDigits d->d≠[]->d.head?≠U 48->dg (digitsVal d)=d
 |0,d,hn,_,h2,_=>absurd (c8 hn) h2
 |n+1,d,hn,h1,h2,h3=>by
  obtain⟨e,c,rfl⟩:∃e c,d=e++[c]:=⟨d.dropLast,d.getLast h2,(gH h2).symm⟩;have i:=h1 c (by simp);rw[digitsVal_snoc];by_cases he:e=[]
  .subst he;show dg (0*10+(c-48))=[c];rw[xm ()];congr 1;lia
  .have b:e.head?≠U 48:=λz=>h3 (by rw[List.head?_append,z];rfl);have a:=zkV n (d:=e) (by simpa using hn) (λx f=>h1 x (cR _ f)) he b;have j:digitsVal e≠0:=λz=>by
    rw[z,xm ()] at a;exact b (by rw[<-a];rfl)
   rw[YL ()];have h:(digitsVal e*10+(c-48))/10=digitsVal e:=by lia
   have g:48+(digitsVal e*10+(c-48))%10=c:=by lia
   rw[h,g,a]
def uG(x:Str):List Nat:=(xB x).cps.toList
theorem zero_cps:(bb "0").cps.toList=[48]:=by lia
theorem zjH(c:x.length<=1000)(b:AllDigits (uG x))(a:uG x≠[]):wL x=if x=xB x then (digitsVal (uG x):Int) else -(digitsVal (uG x):Int):=by
 unfold uG at *
 unfold wL;rcases vb x with ⟨cs,e,ef⟩|⟨_,ef⟩
 .rw[ef] at b a;rw[ef,intText_neg e b a (),am]
  .rfl
  .intro z;have:=congrArg (λy:Str=>y.cps.toList.length) z;simp only[ef] at this;rw[e,bR] at this;lia
 .rw[ef] at b a;rw[ef,ao Y,p8 b a ()];rfl
theorem zjI(v:x.length<=1000):xW x=ai↔(uG x≠[]/\(uG x).length<=31/\AllDigits (uG x)/\¬ ((uG x).head?=U 48/\x≠"0")/\digitsVal (uG x)<=1000000000000000000000000000000):=by
 have A:xW x=ai↔((uG x).length<=31/\(uG x≠[]/\AllDigits (uG x))/\inW (wL x)=ai/\zY (wL x)=x):=by
  unfold xW uG;rw[bS,bS,cr,iB,decide_eq_false_iff_not,decide_eq_true_eq,Bool.not_eq_false',W7,wK,Nat.not_lt,and_assoc]
 rw[A];have j:uG x≠[]->AllDigits (uG x)->((inW (wL x)=ai/\zY (wL x)=x)↔(¬ ((uG x).head?=U 48/\x≠"0")/\digitsVal (uG x)<=1000000000000000000000000000000)):=λo s=>by
  have l:=zjH v s o;have f:(uG x).head?≠U 48->dg (digitsVal (uG x))=uG x:=zkV _ Y s o;have g:dg (digitsVal (uG x))=uG x->(uG x).head?=U 48->uG x=[48]:=λe z=>by
   cases hd:uG x with
   |nil=>exact absurd hd o
   |cons a r =>
    rw[hd] at z;have:a=48:=by simpa using z
    subst this;have i:=zjG (e.trans hd);rw[i,xm ()] at e;rw[<-hd,<-e]
  have k:inW (wL x)=ai↔digitsVal (uG x)<=1000000000000000000000000000000:=by
   unfold inW;rw[decide_eq_true_eq,l];split <;> lia
  rw[k,and_comm];refine and_congr_left λ_=>?_;unfold uG at *
  rcases vb x with ⟨cs,e,ef⟩|⟨_,ef⟩
  .have n:¬ x=xB x:=λz=>by
    have:=congrArg (λy:Str=>y.cps.toList.length) z;simp only[ef] at this;rw[e,bR] at this;lia
   rw[l,am n];rw[ef] at f g ⊢;have t:x≠"0":=λz=>by
    have:=e.symm.trans ((congrArg (λy:Str=>y.cps.toList) z).trans zero_cps);cases this
   constructor
   .intro h z;by_cases i:digitsVal cs=0
    .rw[i] at h;have:=(y9 0).symm.trans (congrArg (λy:Str=>y.cps.toList) h);rw[e,xm ()] at this;cases this
    .have:=(vC (m:=digitsVal cs) ()).symm.trans (congrArg (λy:Str=>y.cps.toList) h);rw[e] at this;have q:=(fT this).2;have u:=g q z.1;rw[u] at i;exact i rfl
   .intro h;have p:cs.head?≠U 48:=λz=>h ⟨z,t⟩;have q:=f p;have i:digitsVal cs≠0:=λz=>by
     rw[z,xm ()] at q;exact p (by rw[<-q];rfl)
    exact vA (by rw[vC (),e,q])
  .rw[l,ao ef.symm];rw[ef] at f g ⊢;constructor
   .intro h z;have:=(y9 _).symm.trans (congrArg (λy:Str=>y.cps.toList) h);have q:=g this z.1;exact z.2 (vA (q.trans zero_cps.symm))
   .intro h;refine vA ?_;rw[y9];by_cases z:x.cps.toList.head?=U 48
    .have:x="0":=sA.mp λw=>h ⟨z,w⟩;rw[this,zero_cps];lia
    .exact f z
 constructor
 .rintro⟨a,⟨b,c⟩,d⟩;have:=(j b c).mp d;exact⟨b,a,c,this.1,this.2⟩
 .rintro⟨b,a,c,d,e⟩;exact⟨a,⟨b,c⟩,(j b c).mpr ⟨d,e⟩⟩
end
theorem Kh(r:hZ k A):A.units+64<cLine:=by have:=r.un;lia
def Zj:V->PyData
 |.non=>.none
 |.bl b=>.bool b
 |.int i=>.int i
 |.str x=>.str x
 |_=>.none
def yR:V->Bool
 |.non=>ai
 |.bl _=>ai
 |.int _=>ai
 |.str x=>i6 x
 |_=>ag
def zlt:V->V->Bool
 |.bl _,.int _=>ag
 |.int _,.bl _=>ag
 |_,_=>ai
def zbz:List V->List V->Bool
 |x::xs,y::ys=>zlt x y&&zbz xs ys
 |_,_=>ai
theorem ju:∀ {c:List V} {d:List ae},c.all yR=ai->aQ c d->CarriedAll d (c.map Zj)
 |[],_,_,.nil=>.nil
 |x::r,_,h,.cons rx t=>by
  rw[lq,bS] at h;refine .cons ?_ (ju h.2 t);cases x with
  |non=>cases rx;exact .none
  |bl b=>cases rx;exact .bool b
  |int i=>obtain⟨t,rfl⟩:=rx;exact .int i t
  |str x=>obtain⟨t,rfl⟩:=rx;exact .str x t
  |byt b=>exact absurd h.1 (by simp[yR])
  |flt b=>exact absurd h.1 (by simp[yR])
  |ref a=>exact absurd h.1 (by simp[yR])
  |ty n=>exact absurd h.1 (by simp[yR])
theorem zhJ(d:yR x=ai)(c:yR y=ai):tw (Zj x) (Zj y)=decide (x=y):=by
 cases x <;> cases y <;> simp_all [yR,Zj,tw] <;> (rename_i a b;by_cases e:a=b <;> simp[e])
theorem ZB:∀ {d c:List V},d.all yR=ai->c.all yR=ai->ny (d.map Zj) (c.map Zj)=decide (d=c)
 |[],[],_,_=>by simp[ny]
 |[],_::_,_,_=>by simp[ny]
 |_::_,[],_,_=>by simp[ny]
 |x::r,y::t,hx,hy=>by
  rw[lq,bS] at hx hy;rw[bN,bN,ny,zhJ hx.1 hy.1,ZB hx.2 hy.2];by_cases a:x=y <;> by_cases b:r=t <;> simp[a,b]
theorem zgi(b:yR x=ai)(a:yR y=ai)(h:zlt x y=ai):rm (Zj x) (Zj y)=ai:=by
 cases x <;> cases y <;> simp_all [yR,Zj,rm,zlt]
theorem ql:∀ {b a:List V},b.all yR=ai->a.all yR=ai->zbz b a=ai->ma (b.map Zj) (a.map Zj)=ai
 |[],[],_,_,_=>by simp[ma]
 |[],_::_,_,_,_=>by simp[ma]
 |_::_,[],_,_,_=>by simp[ma]
 |x::r,y::t,hx,hy,h=>by
  rw[lq,bS] at hx hy;rw[zbz,bS] at h;rw[bN,bN,ma,zgi hx.1 hy.1 h.1,ql hx.2 hy.2 h.2];rfl
theorem qm{b:List V}(h:b.all yR=ai):mq (.list (b.map Zj))=ai/\mq (.tuple (b.map Zj))=ai:=by
 have a:∀x,yR x=ai->(Zj x).canLay0=ai/\(Zj x).depth=0:=λx=>by cases x <;> simp[Zj,fX,i7,yR]
 have l:∀c:List V,c.all yR=ai->iu (c.map Zj)=ai/\dR (c.map Zj)=0:=by
  intro c;induction c with
  |nil=>exact λ_=>⟨Y,Y⟩
  |cons y r ih =>
   intro h;rw[lq,bS] at h;exact⟨by rw[bN,iu,(a y h.1).1,(ih h.2).1];rfl,by rw[bN,dR,(a y h.1).2,(ih h.2).2];rfl⟩
 exact⟨by simp[mq,fX,i7,(l b h).1,(l b h).2],by simp[mq,fX,i7,(l b h).1,(l b h).2]⟩
abbrev zmt(K:bo)(e:Bool):R2:=λx y H Q=>∃a b d c,x=.ref a/\y=.ref b/\aP K H a d/\aP K H b c/\(d.all yR=ai/\c.all yR=ai/\zbz d c=ai)/\Q (.bl (if e then !decide (d=c) else decide (d=c))) H
section
variable {X:Cx}
theorem zlu(l:X.A.units+64<cLine):ux X (Bi .Eq) (zmt X.K ag):=by
 intro A s p H x y v u Q I f e h;obtain⟨a,b,t,r,rfl,rfl,n,m,⟨d,c,o⟩,q⟩:=h;cases f;cases e;obtain⟨z,i,k,_⟩:=I.list n;obtain⟨w,g,j,_⟩:=I.list m;refine eq_dataH_same (oy k.isList (ju d i)) (oy j.isList (ju c g)) (qm d).1 (qm c).1 l (by rw[rm];exact ql d c o) ?_;rw[tw,ZB d c];exact⟨.bl _,H,I,Y,q⟩
theorem zlv(l:X.A.units+64<cLine):ux X (Bi .NotEq) (zmt X.K ai):=by
 intro A s p H x y v u Q I f e h;obtain⟨a,b,t,r,rfl,rfl,n,m,⟨d,c,o⟩,q⟩:=h;cases f;cases e;obtain⟨z,i,k,_⟩:=I.list n;obtain⟨w,g,j,_⟩:=I.list m;refine ne_dataH_same (oy k.isList (ju d i)) (oy j.isList (ju c g)) (qm d).1 (qm c).1 l (by rw[rm];exact ql d c o) ?_;rw[tw,ZB d c];exact⟨.bl _,H,I,Y,q⟩
abbrev qo(K:bo):R2:=λx y H Q=>∃a b c,x=.ref a/\y=.ref b/\aP K H a c/\aP K H b []/\Q (.bl (decide (c=[]))) H
theorem Wa(p:X.A.units+64<cLine):ux X (Bi .Eq) (qo X.K):=by
 intro t s k H x y v u Q I f d h;obtain⟨a,b,c,rfl,rfl,i,g,q⟩:=h;by_cases e:c=[]
 .subst e;exact zlu p t s k H _ _ v u Q I f d ⟨a,b,[],[],Y,Y,i,g,⟨Y,Y,Y⟩,q⟩
 .cases f;cases d;obtain⟨A,m,o,_⟩:=I.list i;obtain⟨w,l,n,_⟩:=I.list g;cases l;have j:=m.length;have r:c.length≠0:=λz=>e (c8 z);refine PySem.SeqAt.eq_list_lengthsAt o.isList n.isList (by simp;intro z;rw[z] at j;exact r j) () ?_;rw[Bk e] at q;exact⟨.bl ag,H,I,Y,q⟩
end
abbrev zP:RM:=YG
abbrev wM:RM:=zlj
def jw:List V:=[.str "plus",.str "minus",.str "times",.str "over",.str "rest",.str "under",.str "same"]
def isJ(v:V):Bool:=inV v jw
inductive Er where
 |nought|great|stuck
 deriving DecidableEq
def zhK(w:Str)(a b:Int):Int :=
 if w="plus" then a+b else if w="minus" then a-b else if w="times" then a*b else if w="under" then (if a<b then 1 else 0) else if w="same" then (if a=b then 1 else 0) else if w="over" then a.fdiv b else a.fmod b
def zfs(w:Str):Prop:=¬ w="plus"/\¬ w="minus"/\¬ w="times"/\¬ w="under"/\¬ w="same"
instance (w:Str):Decidable (zfs w):=by unfold zfs;infer_instance
def zkW(w:Str)(a b:Int):Except Er Int:=if zfs w/\b=0 then .error .nought else if inW (zhK w a b)=ai then .ok (zhK w a b) else .error .great
def zmu(a:List (bv×V)):V->Int
 |.int i=>i
 |.str x=>(match yq a (.inr x) with|some (.int i)=>i|_=>0)
 |_=>0
def zhL(d:List (bv×V))(st:List Int)(v:V):Except Er (List Int) :=
 if isJ v=ai then (match v,st.reverse with|.str w,b::a::r=>(match zkW w a b with|.ok c=>.ok (r.reverse++[c])|.error e=>.error e)|_,_=>.error .stuck) else .ok (st++[zmu d v])
def zhM(a:List (bv×V)):List V->List Int->Except Er (List Int)
 |[],st=>.ok st
 |v::r,st=>match zhL a st v with|.ok st'=>zhM a r st'|.error e=>.error e
section
variable {aL:List (bv×V)}
def zmU(aL:List (bv×V))(b:List V)(r:Except Er Int):Prop:=(∀a,zhM aL b a=match r with|.ok i=>.ok (a++[i])|.error e=>.error e)/\r≠.error .stuck
end
def zbA(v:V):Prop:=(∃i,v=.int i/\inW i=ai)\/∃x:Str,v=.str x/\x.length<=1000
def JK(a:List (bv×V)):Prop:=∀k v,yq a k=U v->∃i,v=.int i/\inW i=ai
theorem zjJ(w:Str):isJ (.str w)=ai↔(w="plus"\/w="minus"\/w="times"\/w="over"\/w="rest"\/w="under"\/w="same"):=by
 unfold isJ inV jw;simp only[lu,List.any_nil,eqV,oz,pI,beq_iff_eq];constructor
 .rintro(h|h|h|h|h|h|h) <;> simp[<-h]
 .rintro(h|h|h|h|h|h|h) <;> simp[h]
def Itv(K:bo)(a:L)(b:List V):It:=⟨λi H=>i<b.length/\aP K H a b,λi H x c=>c=H/\b[b.length-1-i]?=U x,λi _=>b.length<=i⟩
theorem zhO{P:ap}{w:au}{K:bo}{tg:ay}(a it:L)(f:List V):Qz P w K tg (Itv K a f) [it] it (λi h=>i<=f.length/\h.IsRevIter it a ((f.length:Int)-1-(i:Int))) where
 mem:=by simp
 obj:=λi h j b m=>by
  have e:b=it:=by simpa using m
  subst e;obtain⟨_,o,e,c,d⟩:=j;exact⟨o,e,λv z=>by rw[d] at z;cases z⟩
 keep:=λi h q j k=>⟨j.1,j.2.at λo e=>k it (by simp) o e⟩
 item:=by
  intro X A r B Q i T s N H E I n j y;subst A r B;obtain⟨t,hq⟩:=y;obtain⟨al,O,p,hz⟩:=I.list hq;have hl:=O.length;obtain⟨u,hu,ru⟩:=O.get (i:=f.length-1-i) (x:=f[f.length-1-i]'()) (bj ());obtain⟨M,J,f2,G,D,C⟩:=n it (by simp);have g:=j.2;have e1:(f.length:Int)-1-(i:Int)=((f.length-1-i:Nat):Int):=by lia
  rw[e1] at g;refine wpAny_pyNext_rev_item g p.isList (x:=u) (by simpa using hu) λq l sb=>?_;have I1:aM X T N H { s with heap:=q }:=I.turned (t':=s.toks) (λb o m e=>(sb.2 b m).trans e) M J G D C;have e2:((f.length-1-i:Nat):Int)-1=(f.length:Int)-1-((i+1:Nat):Int):=by lia
  rw[e2] at l;obtain⟨o,e,c,d⟩:=id l;exact⟨u,Y,JR (s:={ s with heap:=q }) e c d () ⟨_,H,I1,ru,⟨rfl,bj ()⟩,⟨t,l⟩,λb m=>(n b m).1⟩⟩
 done:=by
  intro X A r B Q i T s N H E I n j y;subst A r B;obtain⟨M,J,f2,G,D,C⟩:=n it (by simp);have t:i=f.length:=pE j.1 y;have g:=j.2;rw[t,show (f.length:Int)-1-(f.length:Int)=-1 by lia] at g;exact wpAny_pyNext_rev_end (I.ok.hd Q) g λq eb=>⟨Y,I.turned (t':=s.toks) (λb o m e=>eb b o m e) M J G D C⟩
 self:=λ_ _ _ _ _ j h=>pV j.2 h
def zmv(K:bo)(f:TA):TI:=λd H R=>f d H λe c=>∃a b,e=[.ref a]/\aP K c a b/\R (Itv K a b) c
section
variable {X:Cx}{tg:ay}
theorem zlw{j:TA}(y:Gl X "reversed")(x:X.mg "reversed"=ah)(A:PA X [a] j)(v:Be [a] X.env=[(ag,eval a X.env)]:=by rfl):PI X tg (.Call (.Name "reversed" p) [a] [] pos) (zmv X.K j):=by
 intro B s l H R I h;refine Call_ (Zo I y x zcT (dQ (aY (A pos B s l H _ I h) ?_) v Y));rintro E d ⟨D,C,g,n,t⟩;obtain⟨b,i,e,w,q⟩:=t;subst e;cases n with
 |cons r rr =>
  cases rr;cases r;obtain⟨f,m,u,G⟩:=g.list w;have J:=m.length;refine call_reversed_list u.isList ?_;have k:(d.heap.push (revObj b ((f.toArray.size:Int)-1))).IsRevIter d.heap.objs.size b ((i.length:Int)-1-((0:Nat):Int)):=⟨_,bp _ Y,Y,by
   show sV _=_;rw[show ((f.toArray.size:Nat):Int)-1=(i.length:Int)-1-((0:Nat):Int) by simp;lia]⟩
  refine pV (s:={ d with heap:=_ }) k ?_;refine⟨d.heap.objs.size,[d.heap.objs.size],_,_,C,Y,g.kept (t':=d.toks) λb o e=>bc _ e,zhO b _ i,⟨bU _,k⟩,λc z=>?_,q⟩;have e:c=d.heap.objs.size:=by simpa using z
  subst e;exact g.fpOk (br _) (g.hok.fresh (br _))
end
section
variable {σ:St}{H:Hp}{nx:St->Hp->Prop}{B:V->St->Hp->(St->Hp->Prop)->Prop}
theorem zhP{K:bo}(b:List V)(Pv:Nat->St->Hp->Prop)(k:Pv 0 σ H)(h:∀i σ H,Pv i σ H->aP K H a b)(g:∀i x σ H,i<b.length->b[b.length-1-i]?=U x->Pv i σ H->B x σ H (Pv (i+1)))(j:∀σ H,Pv b.length σ H->nx σ H) :
  ∃W:Nat->Nat->St->Hp->Prop,(∃m,W 0 m σ H)/\∀i m σ H,W i m σ H->((Itv K a b).stop i H/\nx σ H)\/((Itv K a b).go i H/\∃N:St->Hp->Prop,(∀c d,N c d->∃e,e<m/\W (i+1) e c d)/\∀x d,(Itv K a b).yld i H x d->B x σ d N):=by
 refine⟨λi m σ H=>m=b.length-i/\i<=b.length/\Pv i σ H,⟨b.length,by simp,bU _,k⟩,?_⟩;rintro i m σ H ⟨rfl,l,p⟩;by_cases hlt:i<b.length
 .refine .inr ⟨⟨hlt,h i σ H p⟩,Pv (i+1),λc d f=>⟨b.length-(i+1),(),Y,hlt,f⟩,?_⟩;rintro x d ⟨rfl,y⟩;exact g i x σ _ hlt y p
 .obtain rfl:i=b.length:=by lia
  exact .inl ⟨br _,j σ H p⟩
end
abbrev zbB(K:bo):RC:=λb H Q=>∃p a,b=[.ref p]/\(aP K H p a\/tZ K H p a)/\∀l,H l=ah->Q (.ref l) (upd H l (.lst a))
def inL(c:Nat):Bool:=!(dX "abcdefghijklmnopqrstuvwxyz" ⟨#[c]⟩ 0 (fq "abcdefghijklmnopqrstuvwxyz") 1).isEmpty
def wl:List V:=[.str "take",.str "give",.str "let",.str "say",.str "off",.str "if",.str "else",.str "end",.str "as"]
def yj(x:Str):Bool:=!(decide (x="") || decide (6<x.length)) && !(inV (.str x) jw || inV (.str x) wl)&&x.cps.toList.all inL
theorem zjK(c:Nat):inL c=ai->97<=c/\c<=122:=by
 unfold inL;rw[sq,decide_eq_true_eq];exact(by lia:∀c∈(bb "abcdefghijklmnopqrstuvwxyz").cps.toList,97<=c/\c<=122) c
theorem QH(a:x.length<=1000)(hc:c∈x.cps.toList)(h:97<=c):xW x=ag:=by
 refine dZ.mpr λz=>?_;have d:=((zjI a).mp z).2.2.1;unfold uG at d;rcases vb x with ⟨cs,e,ef⟩|⟨_,ef⟩
 .rw[e] at hc;rw[ef] at d;rcases bJ.mp hc with rfl|hc
  .lia
  .have:=d c hc;lia
 .rw[ef] at d;have:=d c hc;lia
theorem Wb(h:yj x=ai):x.cps.toList≠[]/\x.length<=6/\isJ (.str x)=ag/\x.cps.toList.all inL=ai:=by
 unfold yj at h;rw[bS,bS,cr,cr,iB,iB,decide_eq_false_iff_not,decide_eq_false_iff_not] at h;refine⟨λz=>h.1.1.1 (vA (by rw[z];lia)),(),h.1.2.1,h.2⟩
theorem QI(h:yj x=ai):xW x=ag:=by
 obtain⟨b,d,_,a⟩:=Wb h;obtain⟨c,r,e⟩:=List.exists_cons_of_ne_nil b;exact QH (c:=c) () (by rw[e];simp) (zjK c (fA.mp a c (by rw[e];simp))).1
theorem zjL(h:isJ (.str x)=ai):yj x=ag/\xW x=ag:=by
 refine⟨dZ.mpr λz=>?_,?_⟩
 .rw[(Wb z).2.2.1] at h;cases h
 .rcases(zjJ x).mp h with rfl|rfl|rfl|rfl|rfl|rfl|rfl <;> lia
def kH(w:Str):Option V:=if yj w=ai then U (.str w) else if xW w=ai then U (.int (wL w)) else ah
inductive Tw where
 |leaf (w:Str)|node (w:Str) (a b:Tw)
def pre:Tw->List Str
 |.leaf w=>[w]
 |.node w a b=>w::(pre a++pre b)
def wfT:Tw->Prop
 |.leaf w=>isJ (.str w)=ag
 |.node w a b=>isJ (.str w)=ai/\wfT a/\wfT b
def okT:Tw->Bool
 |.leaf w=>(kH w).isSome
 |.node _ a b=>okT a&&okT b
def pvw(w:Str):V:=(kH w).getD (.str w)
def pst:Tw->List V
 |.leaf w=>[pvw w]
 |.node w a b=>pst a++pst b++[.str w]
def yy:List Str->Nat->Option Nat
 |_,0=>U 0
 |[],_+1=>ah
 |w::r,d+1=>(yy r (if isJ (.str w)=ai then d+2 else d)).map (· + 1)
theorem W9:∀(l:List Str) (d n:Nat),yy l d=U n->∃e:List Tw,e.length=d/\(∀T∈e,wfT T)/\l.take n=(e.map pre).flatten/\n<=l.length
 |l,0,n,h=>by
  have:n=0:=by cases l <;> (unfold yy at h;cases h;rfl)
  subst this;exact⟨[],Y,(),by simp,bU _⟩
 |[],d+1,n,h=>by unfold yy at h;cases h
 |w::r,d+1,n,h=>by
  unfold yy at h;obtain⟨m,i,rfl⟩:=cY.mp h;by_cases hj:isJ (.str w)=ai
  .rw[ao hj] at i;obtain⟨e,g,c,f,j⟩:=W9 r (d+2) m i
   match e,g,c,f with
   |a::b::Ts',g,c,f =>
    refine⟨.node w a b::Ts',by simpa using g,λT hT=>?_,?_,by rw[bR];lia⟩
    .rcases bJ.mp hT with rfl|hT
     .exact⟨hj,c a (by simp),c b (by simp)⟩
     .exact c T (bF _ (bF _ hT))
    .rw[ro,f];simp[pre]
  .rw[am hj] at i;obtain⟨e,g,c,f,j⟩:=W9 r d m i;refine⟨.leaf w::e,by simpa using g,λT hT=>?_,?_,by rw[bR];lia⟩
   .rcases bJ.mp hT with rfl|hT
    .exact dZ.mpr hj
    .exact c T hT
   .rw[ro,f];simp[pre]
def vD(st:List (List V))(w:Str):Except Bool (List (List V)) :=
 if isJ (.str w)=ai then (match st.reverse with|a::b::r=>.ok (r.reverse++[a++b++[.str w]])|_=>.error ag) else (match kH w with|some v=>.ok (st++[[v]])|none=>.error ai)
def vR:List Str->List (List V)->Except Bool (List (List V))
 |[],st=>.ok st
 |w::r,st=>match vD st w with|.ok st'=>vR r st'|.error e=>.error e
theorem ZC:∀(p q:List Str) (a:List (List V)),vR (p++q) a=match vR p a with|.ok st'=>vR q st'|.error e=>.error e
 |[],q,a=>rfl
 |v::r,q,a=>by
  show (match vD a v with|.ok st'=>vR (r++q) st'|.error e=>.error e)=match (match vD a v with|.ok st'=>vR r st'|.error e=>.error e) with|.ok st'=>vR q st'|.error e=>.error e
  cases vD a v with
  |error e=>rfl
  |ok st'=>exact ZC r q st'
theorem YN:∀ {T:Tw},wfT T->∀c,vR (pre T).reverse c=if okT T=ai then .ok (c++[pst T]) else .error ai
 |.leaf w,h,c=>by
  show (match vD c w with|.ok st'=>vR [] st'|.error e=>.error e)=_;unfold vD okT pst pvw;rw[am (by rw[show isJ (.str w)=ag from h];decide)];cases kH w with
  |none=>rfl
  |some v=>rfl
 |.node w a b,h,c=>by
  have e:(pre (.node w a b)).reverse=(pre b).reverse++((pre a).reverse++[w]):=by simp[pre]
  rw[e,ZC,YN h.2.2,show okT (.node w a b)=(okT a&&okT b) from rfl];cases hb:okT b with
  |false=>rw[iF];rfl
  |true =>
   rw[ao rfl];show vR ((pre a).reverse++[w]) (c++[pst b])=_;rw[ZC,YN h.2.1];cases ha:okT a with
   |false=>rfl
   |true =>
    rw[ao rfl];show (match vD (c++[pst b]++[pst a]) w with|.ok st'=>vR [] st'|.error e=>.error e)=.ok (c++[pst (.node w a b)]);unfold vD;rw[ao h.1];simp[vR,pst]
theorem zc1{i:Nat}{a:List (List V)}{e:Bool}(h:vR (ps.take i) a=.error e):vR ps a=.error e:=by
 have:=ZC (ps.take i) (ps.drop i) a;rw[pJ,h] at this;exact this
theorem zhQ{c:List Str}{i:Nat}{b a:List (List V)}(h:vR (c.take i) a=.ok b)(d:c[i]?=U v):vR (c.take (i+1)) a=vD b v:=by
 rw[gg,d];show vR (c.take i++[v]) a=_;rw[ZC,h];show (match vD b v with|.ok st'=>vR [] st'|.error e=>.error e)=_;cases vD b v <;> rfl
def xc(b:List Str)(a:Nat):Option (List V×Nat):=match yy (b.drop a) 1 with
 |some n=>if n<=60 then (match vR ((b.drop a).take n).reverse [] with|.ok [ps]=>U (ps,a+n)|_=>ah) else ah
 |none=>ah
theorem Ki{b:List Str}(h:yy (b.drop k) 1=U n):∃T,wfT T/\(b.drop k).take n=pre T/\k+n<=b.length/\(pre T).length=n:=by
 obtain⟨j,g,f,e,d⟩:=W9 _ _ _ h;obtain⟨T,rfl⟩:=o8.mp g;have a:(b.drop k).take n=pre T:=by rw[e];simp
 have c:(pre T).length=n:=by rw[<-a,c7];lia
 have i:1<=(pre T).length:=by cases T <;> simp[pre]
 rw[fw] at d;exact⟨T,f T (by simp),a,(),c⟩
theorem Xl(h:yy (ws.drop k) 1=U n)(c:n<=60)(a:wfT T)(b:(ws.drop k).take n=pre T):xc ws k=if okT T=ai then U (pst T,k+n) else ah:=by
 unfold xc;rw[h];show (if n<=60 then (match vR ((ws.drop k).take n).reverse [] with|.ok [ps]=>U (ps,k+n)|_=>ah) else ah)=_;rw[ao c,b,YN a];cases okT T <;> rfl
theorem zes :Be (.Constant c j p::es) env=(ag,eval (.Constant c j p) env)::Be es env:=by
 first|rfl|simp only[Be]
theorem qp{t:TA}(a:PA X es t):PA X (.Constant (.str x) j p::es) (ze (tC (.str x)) t):=zb zC a zes
section
variable {X:Cx}
theorem zhR{a:List (bv×V)}{k:bv}(h:yq a k=U v):∃p∈a,p.2=v:=by
 unfold yq at h;obtain⟨p,b,e⟩:=cY.mp h;exact⟨p,nG b,e⟩
end
theorem aM.turnedL{aa:List (L×Obj)}{σ:St}{H:Hp}{s:af}{g:ax}{t':Nat}{ch:List L}(I:aM X aa σ H s)(k:∀b o,b ∉ ch->s.heap.get? b=U o->g.get? b=U o)(f:∀b∈ch,k7 X aa H b) :
  aM X aa σ H { s with heap:=g,toks:=t' }:=by
 have d:∀b u,H b=U u->b ∉ ch:=λb u e z=>by rw[(f b z).1] at e;cases e
 refine I.step (g':=s.gens) (d':=s.drawn) (ch:=ch) (λb l=>?_) (λb o _ _ a e _=>k b o a e) (λb o _ _ a e _=>⟨o.slots,k b o a e⟩) (λ_ _ _ _ n=>n) (λb o a e=>⟨o,k b o a e⟩) (λ_ _ e=>e) (λ_ _ _ e=>e) (λb E e=>⟨#[],by rw[e];simp⟩) (λm j=>?_) (λb u e=>?_) I.bare
 .obtain⟨J,B,G,A,y,t⟩:=f b l;exact⟨A,B,y,t⟩
 .obtain⟨o,C,D,h,r⟩:=j;exact⟨o,C,D,k _ o (λz=>(f _ z).2.1 Y) h,r⟩
 .refine(I.hok b u e).stay (λc v a q=>k c v ?_ q) (λ_ q=>q) λ_ _ q=>q;rcases a with z|z
  .rw[z];exact d b u e
  .exact d c _ z
abbrev zlx(K:bo):RC:=λb H Q=>∃p a,b=[.ref p]/\((aP K H p a/\∀l,H l=ah->Q (.ref l) (upd H l (.tup a)))\/(tZ K H p a/\Q (.ref p) H))
theorem Kj:∀ {T:Tw},wfT T->∀(r:List Str) (d:Nat),yy (pre T++r) (d+1)=(yy r d).map (· + (pre T).length)
 |.leaf w,h,r,d=>by
  show (yy r (if isJ (.str w)=ai then d+2 else d)).map (· + 1)=_;rw[am (by rw[show isJ (.str w)=ag from h];decide)];rfl
 |.node w a b,h,r,d=>by
  have e:pre (.node w a b)++r=w::(pre a++(pre b++r)):=by simp[pre]
  rw[e];show (yy (pre a++(pre b++r)) (if isJ (.str w)=ai then d+2 else d)).map (· + 1)=_;rw[ao h.1,Kj h.2.1,Kj h.2.2,nH,nH];refine congrArg (λf=>Option.map f (yy r d)) (funext λn=>?_);show n+(pre b).length+(pre a).length+1=n+(pre (.node w a b)).length;simp[pre];lia
theorem zly(l:List Str):yy l 0=U 0:=by cases l <;> (unfold yy;rfl)
theorem jo(a:wfT T)(b:okT T=ai)(c:(pre T).length<=60):xc (A++pre T++B) A.length=U (pst T,A.length+(pre T).length):=by
 have e:(A++pre T++B).drop A.length=pre T++B:=by rw[cN,List.drop_left]
 have h:yy ((A++pre T++B).drop A.length) 1=U (pre T).length:=by
  rw[e,Kj a,zly];show U (0+(pre T).length)=_;rw[fU]
 rw[Xl h c a (by rw[e,List.take_left]),ao b]
end L2
namespace L2
open PySem PySem.W PyProof.Rows
section
variable {α β:Type}{lt:Nat->Nat->Bool}{n:Nat}
def PP(n:Nat)(p:Array Nat):Prop:=p.Perm (dH n).toArray
def gt(p:Array Nat)(k:Nat):Nat:=p.getD k 0
theorem zhV(h:k<p.size):p[k]?=U (gt p k):=by
 unfold gt;rw[gO,cG h];rfl
theorem PP.size(h:PP n p):p.size=n:=by
 have:=h.size_eq;simpa using this
theorem PP.blt(h:PP n p)(c:k<n):gt p k<n:=by
 have b:=h.size;have m:gt p k∈p:=Array.mem_of_getElem? (zhV ());have a:gt p k∈(dH n).toArray:=(Array.Perm.mem_iff h).mp m;simpa using a
theorem PP.inj(h:PP n p)(q:i<n)(o:j<n)(e:gt p i=gt p j):i=j:=by
 have m:=h.size;have d:p.toList.Nodup:=by
  have:p.toList.Perm (dH n):=by
   have:=Array.perm_iff_toList_perm.mp h;simpa using this
  exact this.nodup_iff.mpr sO
 have f:=zhV (p:=p) (k:=i) ();have c:=zhV (p:=p) (k:=j) ();rw[<-e] at c;have b:p.toList[i]?=U (gt p i):=by simpa using f
 have a:p.toList[j]?=U (gt p i):=by simpa using c
 obtain⟨s,l⟩:=bE.mp b;obtain⟨r,g⟩:=bE.mp a;exact(sL d).mp (l.trans g.symm)
end
end L2
namespace L2
open PySem PySem.Spec PyProof.Rows
end L2
namespace L2
open PySem
def uo(h:ax)(d:L)(a:Array DictEntry)(b:Nat):Prop:=∃o,h.get? d=U o/\o.ExactDict/\o.data=.dict a b
section
variable {P:ap}{w:au}{A:aq}{E:ae->af->Prop}{s:af}
theorem uo.type(x:uo s.heap d es ep):s.TypeIs (.ref d) "dict":=let ⟨o,ho,hc,_⟩:=x;⟨o,ho,hc.1⟩
theorem uo.at(x:uo h d es ep)(e:∀o,h.get? d=U o->h'.get? d=U o):uo h' d es ep:=let ⟨o,ho,r⟩:=x;⟨o,e _ ho,r⟩
theorem zc3{Q:ae->af->Prop}(lo:(d==sysModules)=ag)(b:uo s.heap d es ep) (q:Q (.ref s.heap.objs.size) { s with heap:=s.heap.push { cls:=.type "dict_keyiterator",data:=.fields #[.ref d,.int 0 0,.int es.size 0,.int ep 0] } }):Bf (Bg P w) A (pyIter (.ref d)) Q E s:=by
 have T:=b.type;obtain⟨o,a,e,c⟩:=id b;refine lW T F.slot_dict_iter (cH F.slot_dict_iter T F.entry_dict_iter ?_ (F.args_dict_iter_1 _));unfold Builtin.«dict.__iter__»;refine ba ?_;unfold Builtin.Dict.dictSlotNone;refine ba (mr T ?_);show Bf _ _ (pure (bH d)) _ _ s;refine bf ?_;show Bf _ _ (gP d >>= _) _ _ s;unfold gP;rw[am (by rw[lo];exact bT)];refine ba (bf ?_);refine ba (gh a c ?_);refine ba (gQ a c ?_);refine ba (cL (bf ⟨_,Y,"dict_keyiterator",_,⟨_,bp _ Y,Y⟩,F.slot_dict_keyiterator_next.lookup,?_⟩));simpa[rawInt] using q
theorem zc4{Q:Option ae->af->Prop}(a:s.heap.IsKeyIter it d i es.size ep)(m:uo s.heap d es ep)(k:es[i]?=U e) (q:∀h,h.IsKeyIter it d (i+1) es.size ep->cV it s.heap h->Q (U e.key) { s with heap:=h }):Bf (Bg P w) A (pyNext (.ref it)) Q E s:=by
 obtain⟨o,l,p,g⟩:=id a;obtain⟨r,c,n,f⟩:=id m;have t:i<es.size:=by
  rcases fe i es.size with h|h
  .exact h
  .rw[eW h] at k;cases k
 unfold pyNext;refine ba (eE (cC (name:=bb "__next__") a.typeIs fF (cH fF a.typeIs mF ?_ (mx _))));refine ba (bf ?_);refine ba ?_;refine ba ?_
 first|(refine ba (fB a.typeIs (bf ?_)))|(refine ba (gj a.typeIs (bf ?_)))
 refine ba (fY l g ?_);have j:eI "dict_keyiterator"=ag:=by lia
 simp only[j,cu,if_false];show Bf _ _ (if (bH d==cy)=ai then _ else _) _ _ s;rw[am (show ¬ ((bH d==cy)=ai) from bT)];refine ba (bf ?_);refine ba (gh c f ?_);rw[am (by simp)];refine ba (bf ?_);refine ba (gQ c f ?_);rw[am (by simp)];refine bf ?_;simp only[show ¬ ((i:Int)<0) from by lia,if_false,cA,k];refine ba ?_
 first|(refine ba (fB a.typeIs (bf ?_)))|(refine ba (gj a.typeIs (bf ?_)))
 refine ba (pK a.typeIs ?_);show Bf _ _ (setField (.ref it) 1 (rawInt ((i:Int)+1)) >>= _) _ _ s;refine ba (fG l g (by simp) ?_);have b:(s.heap.update it (eN (·.setIfInBounds 1 (rawInt ((i:Int)+1))))).IsKeyIter it d (i+1) es.size ep:=by
  refine⟨_,cW _ l (fS (fo g _)),(nX ..).trans p,?_⟩;rw[fo g];simp[rawInt]
 refine ba (dh ?_);refine ba (pK (s:={ s with heap:=s.heap.update it (eN (·.setIfInBounds 1 (rawInt ((i:Int)+1)))) }) b.typeIs ?_);show Bf _ _ (pure e.key) _ _ _;exact bf (bf ⟨_,Y,bf (q _ b (gp ..))⟩)
theorem zfu{Q:Option ae->af->Prop}(p:A.handled=ah)(c:s.heap.IsKeyIter it d i es.size ep)(n:uo s.heap d es ep)(l:es.size<=i) (q:∀h,rp it s.heap h->Q ah { s with heap:=h }):Bf (Bg P w) A (pyNext (.ref it)) Q E s:=by
 obtain⟨o,j,u,k⟩:=id c;obtain⟨t,e,r,f⟩:=id n;unfold pyNext;refine ba (eE (cC (name:=bb "__next__") c.typeIs fF (cH fF c.typeIs mF ?_ (mx _))));refine ba (bf ?_);refine ba ?_;refine ba ?_
 first|(refine ba (fB c.typeIs (bf ?_)))|(refine ba (gj c.typeIs (bf ?_)))
 refine ba (fY j k ?_);have g:eI "dict_keyiterator"=ag:=by lia
 simp only[g,cu,if_false];show Bf _ _ (if (bH d==cy)=ai then _ else _) _ _ s;rw[am (show ¬ ((bH d==cy)=ai) from bT)];refine ba (bf ?_);refine ba (gh e f ?_);rw[am (by simp)];refine ba (bf ?_);refine ba (gQ e f ?_);rw[am (by simp)];refine bf ?_;simp only[show ¬ ((i:Int)<0) from by lia,if_false,cA,eW l];refine ba ?_
 first|(refine ba (fB c.typeIs (bf ?_)))|(refine ba (gj c.typeIs (bf ?_)))
 show Bf _ _ (setField (.ref it) 0 .none >>= _) _ _ s;refine ba (fG j k (by simp) ?_);show Bf _ _ (newExc (.type "StopIteration") [] >>= _) _ _ _;refine ba ?_;simp only[newExc,newTuple];refine ba (cL ?_ (by size_fits));refine ba (m:=firstArgMember _ _) (lV (a:=cy) (by first|rfl|(simp only[firstArgMember];rfl)) ?_);refine cL ?_ (by size_fits);simp only[raiseNew];refine ba (mM ?_);rw[show A.in1.handled=ah from p];refine ba (bf (oA ?_));exact ba (iM (T:="StopIteration") (b:=ai) ⟨_,bp _ Y,Y⟩ nI (bf (q _ (((gp ..).extBut.push _).push _))))
theorem zgj(t:A.handled=ah)(I d:L)(l:d≠I)(k:Array DictEntry)(r:Nat) :
  Walks P w A I [I,d] [I] k.size (λi v=>∃e,k[i]?=U e/\v=e.key) (λi h=>h.IsKeyIter I d i k.size r/\uo h d k r) where
 sub:=λb c=>by simp at c;simp[c]
 frame:=λ_ _ _ a p=>⟨a.1.at λo e=>p I (by simp) o e,a.2.at λo e=>p d (by simp) o e⟩
 item:=λi s Q E q a j=>by
  refine zc4 a.1 a.2 (cG q) λn g f=>?_;exact j _ n s.toks ⟨_,cG q,Y⟩ ⟨g,a.2.at λo e=>f.extBut d o l e⟩ λb o c e=>f.extBut b o (λh=>c (by simp[h])) e
 done:=λs Q E a j=>zfu t a.1 a.2 (br _) λn m=>j n s.toks λb o c e=>m b o (λh=>c (by simp[h])) e
 self:=λ_ _ _ _ a j=>pW a.1 j
end
end L2
namespace L2
open PySem PySem.Spec PyProof.Rows
section
variable {P:ap}{w:au}{A:aq}{E:ae->af->Prop}{s:af}
theorem uo.lt(x:uo h d es ep):d<h.objs.size:=let ⟨_,ho,_⟩:=x;bG ho
theorem zbC{d:L}{es:Array DictEntry}{ep:Nat}(lo:(d==sysModules)=ag):W.KdlSrc P w "dict" d d es.size (λi v=>∃e,es[i]?=U e/\v=e.key) (λh=>uo h d es ep) where
 type:=λ_ a=>a.type
 there:=λ_ a=>⟨a.lt,a.lt⟩
 keep:=λ_ _ a c=>a.at λo e=>c d (.inl Y) o e
 notList:=by lia
 notTuple:=by lia
 hint:=λ_ _ _ _ a b=>W.kdl_hint_dict a.type b
 iter:=λ_ _ f a=>⟨_,_,(λ_ _ b=>zc3 lo a b),zgj f _ d (bV a.lt) es ep,⟨⟨_,bp _ Y,Y,Y⟩,a.at λo e=>bc _ e⟩⟩
theorem VR{G:Nat->ae->Prop}{C:ax->Prop}{R:List ae->af->Prop}(K:W.KdlSrc P w T r d n G C)(J:A.handled=ah)(p:C s.heap)(I:n<=Bb) (h:∀(i:ax) (m:Nat) (y:List ae),(∀b o,s.heap.get? b=U o->i.get? b=U o)->y.length=n->(∀j v,y[j]?=U v->G j v)->R y { s with heap:=i,toks:=m }) :
  Bf (Bg P w) A (collect (.ref r)) R E s:=by
 obtain⟨D,H⟩:=K.there _ p;unfold collect;refine ba (md (dA mI ?_));rw[cS gR _];show Bf _ A.in1 (newList [] >>= λl=>again (.builtin "list.__iadd__" ⟨[l,.ref r],[]⟩)) _ _ s;refine ba (cL ?_);refine bf ⟨eZ eO _,dA oO ?_⟩;rw[cS eO _];have M:(s.heap.push { cls:=.type "list",data:=.seq ([]:List ae).toArray }).get? s.heap.objs.size=U { cls:=.type "list",data:=.seq #[] }:=bp _ rfl;show Bf _ A.in1 (da (.ref s.heap.objs.size) (.ref r) (.ref s.heap.objs.size)) _ _ _;have z:=W.kdl_extend (A:=A) (s:={ s with heap:=s.heap.push { cls:=.type "list",data:=.seq ([]:List ae).toArray } }) (R:=λ(q:aD) (u:af)=>∃(i:ax) (m:Nat) (g:Array ae) (c:Nat),q=.ok (.ret (.ref s.heap.objs.size))/\u={ s with heap:=i,toks:=m } /\
   (∀b o,s.heap.get? b=U o->i.get? b=U o)/\i.get? s.heap.objs.size=U { cls:=.type "list",dict:=ah,data:=.seq g c,slots:=#[] }/\ItemsOf G g n) K J (K.keep _ _ p λb _ o e=>bc _ e) s.heap.objs.size (dP D) (dP H) (.ref s.heap.objs.size) 0 M
  (λi m g c t k a=>⟨i,m,g,c,Y,Y,λb o e=>t b o (bV (bG e)) (bc _ e),k,a⟩) I
 refine cU z (λB u x=>?_) λe u x=>?_
 .cases B with
  |done f =>
   obtain⟨i,m,g,c,e,rfl,t,k,a⟩:=x;cases e;show Bf _ A (load s.heap.objs.size >>= _) _ _ _;refine ba (nQ k ?_);exact bf (h i m g.toList t (by rw[dC];exact a.1) λj v e=>a.2 j v (by rw[<-cQ];exact e))
  |again c =>
   refine⟨x.1,eu x.2 λq u x=>?_⟩;obtain⟨i,m,g,c,rfl,rfl,t,k,a⟩:=x;show Bf _ A (load s.heap.objs.size >>= _) _ _ _;refine ba (nQ k ?_);exact bf (h i m g.toList t (by rw[dC];exact a.1) λj v e=>a.2 j v (by rw[<-cQ];exact e))
 .obtain⟨i,m,g,c,N,_⟩:=x;cases N
end
def qT(q:Str×Int):List bv:=[.inr q.1,.inl q.2]
theorem jv{f e:Type}{F:f->e->Prop}:∀ {d:List f} {c:List e},Paired F d c->∀ {i:Nat} {a:f} {b:e},d[i]?=U a->c[i]?=U b->F a b
 |_,_,.nil,i,a,b,h,_=>by simp at h
 |_,_,.cons x r,0,a,b,h1,h2=>by
  simp only[bd,bh] at h1 h2;subst h1 h2;exact x
 |_,_,.cons x r,i+1,a,b,h1,h2=>jv r (by simpa using h1) (by simpa using h2)
section
variable {X:Cx}
theorem Y3{b c:Type}{f:b->c}:∀ {l:List b},(l.map f).Nodup->l.Nodup
 |[],_=>gB
 |a::r,h=>by
  rw[bN,cF] at h;exact cF.mpr ⟨λz=>h.1 (de z),Y3 h.2⟩
end
def Itd(a:L)(o:Obj)(b:List (List bv×V)):It :=
 ⟨λi H=>H a=U (.frz o (.dT b))/\i<b.length,λi H x c=>c=H/\∃k v p,b[i]?=U (k,v)/\x=.ref p/\H p=U (.tup (k.map kV)),λi H=>H a=U (.frz o (.dT b))/\b.length<=i⟩
section
variable {X:Cx}
theorem zbD{t:St}{H:Hp}{s:af}{a:L}{o:Obj}{b:List (List bv×V)}(I:aM X aa t H s)(B:H a=U (.frz o (.dT b))) :
  (a==sysModules)=ag/\∃(c:Array DictEntry) (g:Nat),o.data=.dict c g/\uo s.heap a c g/\c.size=b.length/\∀(i:Nat) (e:DictEntry),c[i]?=U e->∃(k:List bv) (v:V) (p:L),b[i]?=U (k,v)/\e.key=bH p/\H p=U (.tup (k.map kV)):=by
 obtain⟨m,G,w,h,d,D,c,g,j,z,q,n,J⟩:=(show aW X.prog X.w H s.heap a (.frz o (.dT b)) from I.hok a _ B);rw[m] at j;cases j;have E:b.length=h.length:=cT d;have y:c.size=h.length:=by rw[<-dC,n,bi]
 refine⟨w,c,g,q,⟨o,m,z,q⟩,(),λi e A=>?_⟩;have r:c.toList[i]?=U e:=by rw[cQ];exact A
 rw[n,bW] at r;obtain⟨x,f,C⟩:=cY.mp r;have M:=(bE.mp f).1;have l:b[i]?=U b[i]:=bj ();have u:=jv d l f;refine⟨b[i].1,b[i].2,x.2.1,l,by rw[<-C];rfl,u.2.1⟩
theorem zeu{P:ap}{w:au}{K:bo}{tg:ay}{a it:L}{o:Obj}{aL:List (List bv×V)}{t:Array DictEntry}{ep:Nat}(hd:o.data=.dict t ep) :
  Qz P w K tg (Itd a o aL) [it] it (λi h=>h.IsKeyIter it a i t.size ep) where
 mem:=by simp
 obj:=λi h g b l=>by
  have e:b=it:=by simpa using l
  subst e;obtain⟨o,e,c,d⟩:=g;exact⟨o,e,λv z=>by rw[d] at z;cases z⟩
 keep:=λi h r g k=>g.at λo e=>k it (by simp) o e
 item:=by
  intro X A u B hc i aa s Q H E I q g x;subst A u B;obtain⟨y,hi⟩:=x;obtain⟨lo,N,O,f,j,hs,n⟩:=zbD I y;rw[hd] at f;cases f;obtain⟨M,J,f2,G,D,C⟩:=q it (by simp);have T:t[i]?=U t[i]:=cG ();obtain⟨k,v,p,hk,ek,hp⟩:=n i _ T;refine zc4 g j T λr m sb=>?_;have I1:aM X aa Q H { s with heap:=r }:=I.turned (t':=s.toks) (λb o l e=>(sb.2 b l).trans e) M J G D C;obtain⟨o',e,c,d⟩:=id m;exact⟨_,Y,JR (s:={ s with heap:=r }) e c d () ⟨.ref p,H,I1,by rw[ek];rfl,⟨Y,k,v,p,hk,Y,hp⟩,m,λb l=>(q b l).1⟩⟩
 done:=by
  intro X A u B hc i aa s Q H E I q g x;subst A u B;obtain⟨y,hi⟩:=x;obtain⟨lo,N,O,f,j,hs,n⟩:=zbD I y;rw[hd] at f;cases f;obtain⟨M,J,f2,G,D,C⟩:=q it (by simp);exact zfu (I.ok.hd hc) g j () λr eb=>⟨Y,I.turned (t':=s.toks) (λb o l e=>eb b o l e) M J G D C⟩
 self:=λ_ _ _ _ _ g h=>pW g h
def iDT(e:TE):TI:=λd H R=>e d H λx c=>∃a o b,x=.ref a/\c a=U (.frz o (.dT b))/\R (Itd a o b) c
theorem zhW{g:TE}(p:PE X l g):PI X tg l (iDT g):=by
 intro w s i H R I h;refine aY (p w s i H _ I h) ?_;rintro v c ⟨x,y,d,j,k⟩;obtain⟨a,o,C,e,u,q⟩:=k;subst e;cases j;obtain⟨m,A,B,r,f,z,n⟩:=zbD d u;refine zc3 m f ?_;refine⟨c.heap.objs.size,[c.heap.objs.size],_,_,y,Y,d.kept (t':=c.toks) λb o e=>bc _ e,zeu r,⟨_,bp _ Y,Y,Y⟩,λb t=>?_,q⟩;have e:b=c.heap.objs.size:=by simpa using t
 subst e;exact d.fpOk (br _) (d.hok.fresh (br _))
def zhX:HO->Prop
 |.tup _=>False
 |.own _=>False
 |.tbl _=>False
 |_=>True
theorem aM.relab{σ:St}{H:Hp}{s:af}{a:L}{u A:HO}(I:aM X aa σ H s)(k:H a=U u)(j:zhX u)(E:∀o z,X.H₀ a≠U (.frz o z))(D:aW X.prog X.w (upd H a A) s.heap a A):aM X aa σ (upd H a A) s:=by
 have l:∀b,H b=ah->b≠a:=λb n z=>by subst z;rw[n] at k;cases k
 have d:∀b f,H b=U (.tup f)->b≠a:=λb f q z=>by subst z;rw[k] at q;cases q;exact j
 have h:∀b y,H b=U (.own y)->b≠a:=λb y q z=>by subst z;rw[k] at q;cases q;exact j
 have g:∀b y,H b=U (.tbl y)->b≠a:=λb y q z=>by subst z;rw[k] at q;cases q;exact j
 refine⟨I.ok,I.os,I.bare,⟨I.base.keep,I.base.slot,λb o q n t=>?_,I.base.there,λb f q=>?_,λb o z q=>?_,λb C q=>?_⟩,I.loc,I.cell,?_,λx c e=>?_,λp j=>?_,λb v q=>?_,I.len⟩
 .have:=I.base.free b o q n t;rw[zm (l b this)];exact this
 .have:=I.base.tups b f q;rw[zm (d b f this)];exact this
 .have:=I.base.frzs b o z q;rw[zm (λe=>E o z (by rw[<-e];exact q))];exact this
 .obtain⟨m,e⟩:=I.base.tbls b C q;exact⟨m,by rw[zm (g b _ e)];exact e⟩
 .rw[zm (l _ I.free)];exact I.free
 .have:=I.freeC x c e;rw[zm (l _ this)];exact this
 .obtain⟨J,B,G⟩:=I.pin p j;exact⟨J,by rw[zm (l _ B)];exact B,G⟩
 .by_cases t:b=a
  .subst t;rw[zi] at q;cases q;exact D
  .rw[zm t] at q;exact(I.hok b v q).stay (λ_ _ _ r=>r) (λc r=>by rw[zm (h c b r)];exact r) λc f r=>by rw[zm (d c f r)];exact r
def zmw(t:TS):TS:=λD f H=>∃a d e,H a=U d/\(d=.dT e\/∃o,d=.frz o (.dT e))/\∀o,t
 ⟨λb c=>c a=U (.frz o (.dT e))/\D.nx b (upd c a d),λv c=>c a=U (.frz o (.dT e))/\D.rt v (upd c a d),λb c=>c a=U (.frz o (.dT e))/\D.bk b (upd c a d),λb c=>c a=U (.frz o (.dT e))/\D.ct b (upd c a d)⟩ f (upd H a (.frz o (.dT e)))
theorem aW.upd_dT{H:Hp}(d:H a=U u)(b:zhX u)(x:aW P w H h a (.dT aL)):aW P w (upd H a u') h a (.dT aL):=by
 refine x.stay (λ_ _ _ r=>r) (λc r=>?_) λc e r=>?_
 .rw[zm λz=>by subst z;rw[d] at r;cases r;exact b];exact r
 .rw[zm λz=>by subst z;rw[d] at r;cases r;exact b];exact r
theorem zlz{y:ar}{t:TS}(p:PS X y t):PS X y (zmw t):=by
 rintro m s w H D I ⟨a,u0,j,k,l,h⟩;have G:zhX u0:=by rcases l with rfl|⟨o,rfl⟩ <;> trivial
 -- the object as it stands
 have B:∃o,s.heap.get? a=U o/\(u0=.dT j\/u0=.frz o (.dT j)):=by
  rcases l with rfl|⟨o,rfl⟩
  .obtain⟨M,J,E,A,o,N,O,u,_⟩:=(show aW X.prog X.w H s.heap a (.dT j) from I.hok a _ k);exact⟨o,u,.inl Y⟩
  .exact⟨o,(show aW X.prog X.w H s.heap a (.frz o (.dT j)) from I.hok a _ k).1,.inr Y⟩
 obtain⟨o,u,l⟩:=B;have C:aM X m w (upd H a (.frz o (.dT j))) s:=by
  rcases l with rfl|rfl
  .refine I.relab k trivial (λn z q=>?_) ⟨u,aW.upd_dT k trivial (I.hok a _ k)⟩;have:=I.base.frzs a n z q;rw[k] at this;cases this
  .have e:upd H a (.frz o (.dT j))=H:=by
    funext b;unfold upd;split
    .next z=>rw[z];exact k.symm
    .rfl
   rw[e];exact I
 have g:∀ {d:St} {H':Hp} {s':af},aM X m d H' s'->H' a=U (.frz o (.dT j))->aM X m d (upd H' a u0) s':=λ{d H' s'} i c=>by
  rcases l with rfl|rfl
  .refine i.relab c trivial (λn z q=>?_) (aW.upd_dT c trivial (show aW X.prog X.w H' s'.heap a (.frz o (.dT j)) from i.hok a _ c).2);have:=I.base.frzs a n z q;rw[k] at this;cases this
  .have e:upd H' a (.frz o (.dT j))=H':=by
    funext b;unfold upd;split
    .next z=>rw[z];exact c.symm
    .rfl
   rw[e];exact i
 refine aY (p m s w _ _ C (h o)) λf s' q=>?_;cases f with
 |next=>obtain⟨d,H',i,c,q⟩:=q;exact⟨d,_,g i c,q⟩
 |brk=>obtain⟨d,H',i,c,q⟩:=q;exact⟨d,_,g i c,q⟩
 |cont=>obtain⟨d,H',i,c,q⟩:=q;exact⟨d,_,g i c,q⟩
 |ret v=>obtain⟨x,d,H',i,r,c,q⟩:=q;exact⟨x,d,_,g i c,r,q⟩
end
section
variable {σ:St}{H:Hp}{nx:St->Hp->Prop}{B:V->St->Hp->(St->Hp->Prop)->Prop}
theorem zev(Pv:Nat->St->Hp->Prop)(n:Pv 0 σ H)(e:∀i σ H,Pv i σ H->H a=U (.frz o (.dT aL))) (g:∀i k v p σ H,aL[i]?=U (k,v)->H p=U (.tup (k.map kV))->Pv i σ H->B (.ref p) σ H (Pv (i+1))) (l:∀σ H,Pv aL.length σ H->nx σ H) :
  ∃W:Nat->Nat->St->Hp->Prop,(∃m,W 0 m σ H)/\∀i m σ H,W i m σ H->((Itd a o aL).stop i H/\nx σ H)\/((Itd a o aL).go i H/\∃N:St->Hp->Prop,(∀b c,N b c->∃d,d<m/\W (i+1) d b c)/\∀x c,(Itd a o aL).yld i H x c->B x σ c N):=by
 refine⟨λi m σ H=>m=aL.length-i/\i<=aL.length/\Pv i σ H,⟨aL.length,by simp,bU _,n⟩,?_⟩;rintro i m σ H ⟨rfl,q,pv⟩;by_cases hlt:i<aL.length
 .refine .inr ⟨⟨e i σ H pv,hlt⟩,Pv (i+1),λb c f=>⟨aL.length-(i+1),(),Y,hlt,f⟩,?_⟩;rintro x c ⟨rfl,k,v,p,j,rfl,h⟩;exact g i k v p σ _ j h pv
 .obtain rfl:i=aL.length:=by lia
  exact .inl ⟨⟨e _ σ H pv,br _⟩,l σ H pv⟩
end
mutual
inductive Dat (K:bo) (H:Hp):V->PyData->Prop
 |non:Dat K H .non .none
 |bl (b:Bool):Dat K H (.bl b) (.bool b)
 |int (i:Int):Dat K H (.int i) (.int i)
 |str (x:Str):Dat K H (.str x) (.str x)
 |lst {a:L} {xs:List V} {ds:List PyData}:aP K H a xs->ub K H xs ds->Dat K H (.ref a) (.list ds)
 |tup {a:L} {xs:List V} {ds:List PyData}:tZ K H a xs->ub K H xs ds->Dat K H (.ref a) (.tuple ds)
inductive ub (K:bo) (H:Hp):List V->List PyData->Prop
 |nil:ub K H [] []
 |cons {x:V} {d:PyData} {xs:List V} {ds:List PyData}:Dat K H x d->ub K H xs ds->ub K H (x::xs) (d::ds)
end
section
variable {X:Cx}{aa:List (L×Obj)}{σ:St}{H:Hp}{s:af}
mutual
theorem Dat.reads(I:aM X aa σ H s):∀ {x:V} {d:PyData} {u:ae},Dat X.K H x d->aU x u->∃j,Reads s.heap u d j
 |_,_,_,.non,r=>by cases r;exact⟨_,.none⟩
 |_,_,_,.bl b,r=>by cases r;exact⟨_,.bool b⟩
 |_,_,_,.int i,r=>by obtain⟨t,rfl⟩:=r;exact⟨_,.int i t⟩
 |_,_,_,.str x,r=>by obtain⟨t,rfl⟩:=r;exact⟨_,.str x t⟩
 |_,_,_,.lst hq ha,r=>by
  cases r;obtain⟨h,f,⟨o,n,e,c,_,d⟩,_⟩:=I.list hq;obtain⟨j,g⟩:=ub.reads I ha f;exact⟨_,.list e c d (by simpa using g)⟩
 |_,_,_,.tup hq ha,r=>by
  cases r;obtain⟨h,f,⟨o,e,c,n,d⟩,_⟩:=I.tuple hq;obtain⟨j,g⟩:=ub.reads I ha f;exact⟨_,.tuple e c d (by simpa using g)⟩
theorem ub.reads(I:aM X aa σ H s):∀ {xs:List V} {ds:List PyData} {a:List ae},ub X.K H xs ds->aQ xs a->∃b,ReadsAll s.heap a ds b
 |_,_,_,.nil,r=>by cases r;exact⟨_,.nil⟩
 |_,_,_,.cons hx ht,r=>by
  cases r with
  |cons r1 rr =>
   obtain⟨b,e⟩:=Dat.reads I hx r1;obtain⟨f,c⟩:=ub.reads I ht rr;exact⟨_,.cons e c⟩
end
end
section
variable {K:bo}{H H':Hp}
theorem aP.mono(k:ac H H')(h:aP K H a xs):aP K H' a xs:=by
 rcases h with (h|⟨o,h⟩)|h
 .exact .inl (.inl (k _ _ h))
 .exact .inl (.inr ⟨o,k _ _ h⟩)
 .exact .inr h
end
mutual
def zX:PyData->Bool
 |.none=>ai
 |.int _=>ai
 |.str x=>i6 x
 |.list xs=>yp xs
 |.tuple xs=>yp xs
 |.bool _=>ag
 |.dict _=>ag
def yp:List PyData->Bool
 |[]=>ai
 |x::xs=>zX x&&yp xs
end
mutual
theorem zaP:∀ {d:PyData},zX d=ai->d.canLay0=ai
 |.none,_=>by simp[fX]
 |.int _,_=>by simp[fX]
 |.str x,h=>by simpa[fX,zX] using h
 |.list xs,h=>by rw[fX];exact Xm (by simpa[zX] using h)
 |.tuple xs,h=>by rw[fX];exact Xm (by simpa[zX] using h)
 |.bool _,h=>by simp[zX] at h
 |.dict _,h=>by simp[zX] at h
theorem Xm:∀ {a:List PyData},yp a=ai->iu a=ai
 |[],_=>by simp[iu]
 |x::xs,h=>by
  rw[yp,bS] at h;rw[iu,zaP h.1,Xm h.2];rfl
end
mutual
theorem Va:∀ {d e:PyData},zX d=ai->zX e=ai->(lX d e=ai↔d=e)
 |.list xs,.list ys,h,h'=>by
  rw[lX,Xn (by simpa[zX] using h) (by simpa[zX] using h'),PyData.list.injEq]
 |.tuple xs,.tuple ys,h,h'=>by
  rw[lX,Xn (by simpa[zX] using h) (by simpa[zX] using h'),PyData.tuple.injEq]
 |.bool _,_,h,_=>by simp[zX] at h
 |.dict _,_,h,_=>by simp[zX] at h
 |.none,.bool _,_,h=>by simp[zX] at h
 |.int _,.bool _,_,h=>by simp[zX] at h
 |.str _,.bool _,_,h=>by simp[zX] at h
 |.list _,.bool _,_,h=>by simp[zX] at h
 |.tuple _,.bool _,_,h=>by simp[zX] at h
 |.none,.dict _,_,h=>by simp[zX] at h
 |.int _,.dict _,_,h=>by simp[zX] at h
 |.str _,.dict _,_,h=>by simp[zX] at h
 |.list _,.dict _,_,h=>by simp[zX] at h
 |.tuple _,.dict _,_,h=>by simp[zX] at h
 |.none,.none,_,_|.none,.int _,_,_|.none,.str _,_,_|.none,.list _,_,_|.none,.tuple _,_,_=>by simp[lX]
 |.int _,.none,_,_|.int _,.int _,_,_|.int _,.str _,_,_|.int _,.list _,_,_|.int _,.tuple _,_,_=>by simp[lX]
 |.str _,.none,_,_|.str _,.int _,_,_|.str _,.str _,_,_|.str _,.list _,_,_|.str _,.tuple _,_,_=>by simp[lX]
 |.list _,.none,_,_|.list _,.int _,_,_|.list _,.str _,_,_|.list _,.tuple _,_,_=>by simp[lX]
 |.tuple _,.none,_,_|.tuple _,.int _,_,_|.tuple _,.str _,_,_|.tuple _,.list _,_,_=>by simp[lX]
theorem Xn:∀ {b a:List PyData},yp b=ai->yp a=ai->(mO b a=ai↔b=a)
 |[],[],_,_=>by simp[mO]
 |[],_::_,_,_=>by simp[mO]
 |_::_,[],_,_=>by simp[mO]
 |x::b,y::a,h,h'=>by
  rw[yp,bS] at h h';rw[mO,bS,Va h.1 h'.1,Xn h.2 h'.2,bx]
end
abbrev zhY(K:bo)(a:Bool):R2:=λx y H Q=>∃d e,Dat K H x d/\Dat K H y e/\(zX d=ai/\zX e=ai/\d.depth<=64/\e.depth<=64)/\∀b:Bool,(b=ai↔d=e)->Q (.bl (if a then !b else b)) H
section
variable {X:Cx}
theorem jh(h:zX d=ai)(a:d.depth<=64):mq d=ai:=by
 unfold mq;rw[zaP h,Bj a];rfl
theorem zhZ(l:X.A.units+64<cLine):ux X (Bi .Eq) (zhY X.K ag):=by
 intro t s o H x y v u Q I f c h;obtain⟨d,e,n,m,⟨b,a,k,j⟩,q⟩:=h;obtain⟨r,i⟩:=n.reads I f;obtain⟨p,g⟩:=m.reads I c;exact eq_dataH i g (jh b k) (jh a j) l ⟨.bl _,H,I,Y,q _ (Va b a)⟩
theorem zh0(l:X.A.units+64<cLine):ux X (Bi .NotEq) (zhY X.K ai):=by
 intro t s o H x y v u Q I f c h;obtain⟨d,e,n,m,⟨b,a,k,j⟩,q⟩:=h;obtain⟨r,i⟩:=n.reads I f;obtain⟨p,g⟩:=m.reads I c;exact ne_dataH i g (jh b k) (jh a j) l ⟨.bl _,H,I,Y,q _ (Va b a)⟩
end
abbrev zgk(b:Bool):R2:=λx y H Q=>∃a o,y=.ref a/\DGet H a x o/\Q (.bl (if b then !o.isSome else o.isSome)) H
section
variable {X:Cx}
theorem zbE(d:X.A.units+1<cLine):ux X (Bi .In) (zgk ag):=by
 intro j s f H x y v u Q I c b h;obtain⟨a,o,rfl,g,q⟩:=h;cases b;exact zmR d I g c λi e=>⟨.bl _,H,e,Y,q⟩
theorem zew(d:X.A.units+1<cLine):ux X (Bi .NotIn) (zgk ai):=by
 intro j s f H x y v u Q I c b h;obtain⟨a,o,rfl,g,q⟩:=h;cases b;exact zjv d I g c λi e=>⟨.bl _,H,e,Y,q⟩
end
end L2
namespace L2
open PySem
abbrev Pl:=Str×Int
abbrev Row:=Pl×Int
def VS:List Row->Pl->Option Int
 |[],_=>ah
 |r::t,p=>(VS t p).or (if r.1=p then U r.2 else ah)
def zfv(a:List (List bv×V))(q:Row):List (List bv×V):=yQ a (qT q.1) (.int q.2)
def dOf(a:List Row):List (List bv×V):=a.foldl zfv []
theorem zh1(a:List Row)(q:Row):dOf (a++[q])=yQ (dOf a) (qT q.1) (.int q.2):=by
 unfold dOf;rw[sB];rfl
def OkKv(a:List (List bv×V)):Prop:=(a.map (·.1)).Nodup/\∀b∈a,∃(p:Pl) (w:Int),b=(qT p,.int w)
theorem OkKv.put(h:OkKv aL)(p:Pl)(w:Int):OkKv (yQ aL (qT p) (.int w)):=by
 cases e:yq aL (qT p) with
 |none =>
  refine⟨zjy _ h.1 e,λa hk=>?_⟩;rw[X4 _ e] at hk;rcases cj.mp hk with hk|hk
  .exact h.2 a hk
  .exact⟨p,w,bY.mp hk⟩
 |some v =>
  have q:(aL.any λa=>decide (a.1=qT p))=ai:=by rw[kD,e];rfl
  unfold yQ;rw[ao q];constructor
  .rw[nE];have:((λx:List bv×V=>x.1) ∘ λa:List bv×V=>if a.1=qT p then (a.1,V.int w) else a)=λx=>x.1:=by
    funext a
    show (if a.1=qT p then (a.1,V.int w) else a).1=a.1;split <;> rfl
   rw[this];exact h.1
  .intro a hk;obtain⟨z,b,rfl⟩:=dz.mp hk;by_cases e:z.1=qT p
   .exact⟨p,w,by rw[ao e,e]⟩
   .rw[am e];exact h.2 z b
theorem zjN(a:List (List bv×V))(k:List bv)(v:V):(yQ a k v).length<=a.length+1:=by
 unfold yQ;split
 .rw[bi];lia
 .rw[bn];simp
theorem zc5:∀(b:List Row) (a:List (List bv×V)),(b.foldl zfv a).length<=a.length+b.length
 |[],_=>by simp
 |r::t,a=>by
  have:=zc5 t (zfv a r);have:=zjN a (qT r.1) (.int r.2);rw[lC,bR];unfold zfv at *
  lia
theorem zjO(a:List Row):(dOf a).length<=a.length:=by have:=zc5 a [];simpa[dOf] using this
theorem zaQ{c:Type} [DecidableEq c]:∀ {a b:List c},a.Nodup->(∀x∈a,x∈b)->a.length<=b.length
 |[],_,_,_=>bU _
 |x::a,b,hn,h=>by
  rw[cF] at hn;have e:=h x bK;have:=zaQ (a:=a) (b:=b.erase x) hn.2 λy d=>(List.mem_erase_of_ne λz=>hn.1 (by rw[<-z];exact d)).mpr (h y (bF _ d));rw[List.length_erase_of_mem e] at this;have:0<b.length:=List.length_pos_of_mem e;rw[bR];lia
end L2
namespace L2
open PySem PySem.Spec PyProof.Rows
theorem YO:plainId "dict.update.loop"=ai:=by lia
theorem zaR:entryFor table "dict.update.loop"=U Builtin.«dict.update.loop»:=entryFor_of_fast (by kernel_rfl)
section
variable {X:Cx}{A:aq}{R:aD->af->Prop}
def zlB(H:Hp)(v:V)(q:Row):Prop:=∃r p,v=.ref r/\H r=U (.tup [.ref p,.int q.2])/\H p=U (.tup [.str q.1.1,.int q.1.2])
theorem zgm{j:St}{H:Hp}{s:af}{d b:L}{f:List (List bv×V)}{k:List bv}{v:V}{u:ae}{E:ae->af->Prop}{Q:Unit->af->Prop}(y:A.units+1<cLine)(I:aM X aa j H s)(e:H d=U (.dT f))(r:H b=U (.tup (k.map kV)))(l:f.length<Bb)(w:aU v u) (h:∀g m,aM X aa j (upd H d (.dT (yQ f k v))) { s with heap:=g,toks:=m }->cV d s.heap g->Q PUnit.unit { s with heap:=g,toks:=m }):Bf (Bg X.prog X.w) A.in1 (dictSet d (.ref b) u) Q E s:=by
 obtain⟨z,C,t,a,T⟩:=zhm I.hok e;have x:t.length<=Bb:=by rw[<-cT a];exact z
 have B:(yQ f k v).length<=Bb:=by have:=jN f k v;lia
 refine wpAny_dictSet_heap (hsz:=x) (fR y) (Xi I.hok r) T λg i n=>h _ _ ?_ n;obtain⟨q,N,O,o,M,J,G,_,D⟩:=i;refine JH I (by rw[e];exact fM) n ⟨q,o⟩ ⟨B,C,_,(a.put k r w).keeps λc ys p=>?_,q,N,O,o,M,J,G,D⟩;rw[zm (zU p e ())];exact p
theorem zh2{O:St}{H:Hp}{d it l:L}{xs:List V}{gV:List Row}{res:ae}(hu:A.units+1<cLine)(hh:A.handled=ah)(hd:H d=ah)(hl:H l=U (.lst xs))(hr:Paired (zlB H) xs gV)(aA:gV.length<=1000)(N:it≠d)(av:l≠it) :
  ∀(k i:Nat) (s:af),gV.length-i=k->i<=gV.length->aM X aa O (upd H d (.dT (dOf (gV.take i)))) s->s.heap.IsListIter it l i->(∀u,k7 X aa (upd H d u) it) ->
  (∀Q,aM X aa O (upd H d (.dT (dOf gV))) Q->R (.ok (.ret res)) Q) ->
  codeAny (Bg X.prog X.w) A (.builtin "dict.update.loop" ⟨[.ref d,.ref it,rawInt i,res],[]⟩) R s:=by
 have lx:xs.length=gV.length:=cT hr;have S:∀u:HO,ac H (upd H d u):=λu=>hU (o:=u) d hd;intro k;induction k with
 |zero =>
  intro i s hk hi I q g a;have e:i=gV.length:=by lia
  subst e;refine dA zaR ?_;rw[cS YO _];show Bf _ A.in1 (pyNext (.ref it) >>= _) _ _ s;obtain⟨y,w,p,hz⟩:=I.list (aP.of (S _ _ _ hl));obtain⟨M,J,f2,G,E,D⟩:=g (.dT (dOf (gV.take gV.length)));have aw:=w.length;refine ba (pk hh q p.isList (by simp;lia) λh' eb=>?_);have f:=I.turned (t':=s.toks) (λb o C e=>eb b o C e) M J G E D;rw[mG] at f;show Bf _ A.in1 (Builtin.Dict.addKeywords d [] >>= _) _ _ _;exact ba (bf (bf (a _ f)))
 |succ k ih =>
  intro i s hk hi I q g a;have c:i<gV.length:=by lia
  refine dA zaR ?_;rw[cS YO _];show Bf _ A.in1 (pyNext (.ref it) >>= _) _ _ s;obtain⟨y,w,p,hz⟩:=I.list (aP.of (S _ _ _ hl));obtain⟨M,J,f2,G,E,D⟩:=g (.dT (dOf (gV.take i)));have hx:xs[i]?=U xs[i]:=bj ();have hq:gV[i]?=U gV[i]:=bj c;obtain⟨r,pl,e1,t1,u1⟩:=jv hr hx hq;obtain⟨u,z,ru⟩:=w.get hx;rw[e1] at ru;cases ru;refine ba (oR q p.isList (x:=.ref r) (by simpa using z) λh' m sb=>?_);have f:=I.turned (t':=s.toks) (λb o C e=>(sb.2 b C).trans e) M J G E D;obtain⟨an,tv,⟨o,ho,hc,n,B⟩,_⟩:=f.tuple (tZ.of (S _ _ _ t1));cases tv with
  |cons r1 rr =>
   cases rr with
   |cons r2 rn =>
    cases rn;cases r1;obtain⟨j,rfl⟩:=r2;refine ba (dh ?_);have T:({ s with heap:=h' }:af).TypeIs (.ref r) "tuple":=⟨o,ho,hc⟩;refine ba (wpAny_tryCatch ?_);unfold Builtin.Dict.pairItems;refine ba (my T ?_);rw[ao ()];refine ba ?_;unfold seqItems?;refine ba (nQ ho ?_);rw[B];refine bf (bf ?_);show Bf _ _ (holding [.ref pl,.int gV[i].2 j] (dictSet d (.ref pl) (.int gV[i].2 j))) _ _ _;refine dh ?_;have h:dOf (gV.take (i+1))=yQ (dOf (gV.take i)) (qT gV[i].1) (.int gV[i].2):=by rw[gg,hq,<-zh1];rfl
    have l2:(dOf (gV.take i)).length<Bb:=by
     have h1:=zjO (gV.take i);have h2:=List.length_take_le' i gV;exact dy (by lia:_<=1000) ()
    refine zgm (k:=qT gV[i].1) (v:=.int gV[i].2) hu f zi (S _ _ _ u1) l2 ⟨j,Y⟩ λh2 al I2 t=>?_;rw[kZ,<-h] at I2;refine bf ⟨eZ YO _,ih (i+1) _ () c I2 (m.at λo e=>(t.2 it N).trans e) g a⟩
end
theorem zbF:typeLookup (.type "list") "keys"=pure ah:=by rw[pL,mz];kernel_rfl
section
variable {prog:ap}{w:au}{A:aq}{E:ae->af->Prop}{s:af}{a:L}{o:Obj}{xs:Array ae}{k:Nat}
theorem Kk{Q:Option ae->af->Prop}(p:s.heap.get? a=U o)(r:o.cls=.type "list")(f:o.data=.seq xs k)(q:o.dict=ah)(z:A.handled=ah) (h:∀m n,(∀b l,s.heap.get? b=U l->m.get? b=U l)->Q ah { s with heap:=m,toks:=n }):Bf (Bg prog w) A (getAttr? (.ref a) "keys") Q E s:=by
 obtain⟨c,B,C,u⟩:=o;simp only at r f q;subst r f q;obtain⟨y,g,d,n,v⟩:=s;have t:∀i,(⟨y,g,d,i,v⟩:af).TypeIs (.ref a) "list":=λ_=>⟨_,p,Y⟩;have N:=sub_AttributeError;have M:=F.slot_list_getattribute.lookup;have J:=F.slot_list_getattribute.bind (.ref a);have I:=am_list_getattr_none;unfold getAttr? getAttrBy? getAttrBy
 repeat (any_goals (first|assumption|exact t _|((with_reducible show Bf _ _ (call (mL "list.__getattribute__") _ _) _ _ _);refine fO F.slot_list_getattribute (t _) am_entry_list_getattribute (F.args_list_getattribute_2 _ _) (meets_getattribute_miss_list a xs k u "keys" _ zbF () ()) ⟨p,z,λm i e j=>?_⟩)|wp_step))
 obtain⟨G,D,H⟩:=j.there;have x:=j.keeps;show Bf _ _ (getattributeRaised _ _ _ _ _ _ _) _ _ _;unfold getattributeRaised
 repeat (any_goals (first|assumption|wp_step))
 all_goals exact h _ _ λb l e=>x b l e
end
theorem hu3(r:hZ k A):A.units+3<cLine:=by have:=Kh r;lia
abbrev zfw:RC:=λd H Q=>∃(a:L) (c:List V) (b:List Row),d=[.ref a]/\H a=U (.lst c)/\Paired (zlB H) c b/\b.length<=1000/\∀p,H p=ah->Q (.ref p) (upd H p (.dT (dOf b)))
section
variable {X:Cx}
theorem vS(hc:X.calm=ai)(hu:X.A.units+3<cLine):xV X (.type "dict") zfw:=by
 intro x s p H vs us Q I r h;obtain⟨a,xs,gV,rfl,w,hr,hl,q⟩:=h;obtain⟨u,rfl,N⟩:=xA r;cases N;have E:X.A.handled=ah:=I.ok.hd hc;refine callType_codes (Q₁:=λk c=>k=.ref s.heap.objs.size/\c={ s with heap:=s.heap.push { cls:=.type "dict",data:=.dict #[] } }) F.kt_called_dict (F.kt_typeCall_dict_1 _) F.entry_dict_init (kt_code_dict_new _ ⟨rfl,rfl⟩) ?_;rintro k c ⟨rfl,rfl⟩;have G:({ s with heap:=s.heap.push { cls:=.type "dict",data:=.dict #[] } }:af).TypeIs (.ref s.heap.objs.size) "dict":=⟨_,bp _ rfl,rfl⟩;refine⟨G,F.args_dict_init_2 _ _,?_⟩;unfold Builtin.«dict.__init__»;refine ba ?_;unfold Builtin.Dict.selfAndRest;refine ba (mr G ?_);show Bf _ _ (pure (s.heap.objs.size,[bH a])) _ _ _;refine bf ?_;show Bf _ _ (oB "dict.__init__" s.heap.objs.size (.ref a) [] .none) _ _ _;unfold oB;have v:H s.heap.objs.size=ah:=I.hok.fresh (br _);have S:∀u:HO,ac H (upd H s.heap.objs.size u):=λu=>hU (o:=u) _ v;have J:aM X x p (upd H s.heap.objs.size (.dT [])) { s with heap:=s.heap.push { cls:=.type "dict",data:=.dict #[] } } :=
  I.laid (a:=s.heap.objs.size) (o:=.dT []) (t':=s.toks) (λb o z=>bc _ z) (br _) (zcM s.heap I.big)
 obtain⟨al,rv,O,_⟩:=J.list (aP.of (S _ _ _ w));obtain⟨o,n,D,y,T,j⟩:=id O;have T1:({ s with heap:=s.heap.push { cls:=.type "dict",data:=.dict #[] } }:af).TypeIs (.ref a) "list":=⟨o,D,y⟩;refine ba (my T1 ?_);rw[ao ()];refine ba (Kk D y j T (by exact E) λg f B=>?_);rw[ao (show (ah:Option ae).isNone=ai from rfl)];refine ba (pT ?_);have m:aM X x p (upd H s.heap.objs.size (.dT [])) { s with heap:=g,toks:=f }:=J.kept B;obtain⟨C,M,i,_⟩:=m.list (aP.of (S _ _ _ w));refine ba (ii i.isList ?_);have I3:aM X x p (upd H s.heap.objs.size (.dT (dOf (gV.take 0)))) { s with heap:=g.push { cls:=.type "list_iterator",data:=.fields #[.ref a,.int 0 0] },toks:=f }:=m.kept (t':=f) λb o e=>bc _ e;refine bf ⟨eZ YO _,?_⟩;have t:s.heap.objs.size<g.objs.size:=bG (B s.heap.objs.size _ (bp _ Y));have la:a<g.objs.size:=by obtain⟨_,_,z,_⟩:=i;exact bG z
 refine zh2 (A:=X.A.in1) (H:=H) (d:=s.heap.objs.size) (it:=g.objs.size) (l:=a) (xs:=xs) (gV:=gV) (res:=.none) ?_ E v w hr hl (dP t) (bV la) gV.length 0 _ () (bU _) I3 ⟨_,bp _ Y,Y,Y⟩ (λu=>?_) λs' I'=>⟨Y,.ref s.heap.objs.size,_,I',Y,q _ v⟩
 .have e:X.A.in1.units=X.A.units+1:=rfl;lia
 .refine m.fpOk (br _) ?_;rw[zm (dP t)];have:=m.hok.fresh (br g.objs.size);rw[zm (dP t)] at this;exact this
end
section
variable {X:Cx}{k:Nat}{f C:L}{fd:Bc}{ps:List Str}{sp:Sp}{m:Str}{pos tV:Pos}{e o:ay}{es:List ay}{ta:TE}{t:TA}
def zbG(C:L)(m:Str)(sp:Sp)(ta:TE)(t:TA)(n:EXK):TE:=λb H Q=>ta b H λx g=>∃a i d,x=.ref a/\g a=U (.ins C i d)/\d.lookup m=ah /\
 t b g λh l=>sp (x::(h++[])) l Q λc _ j=>n c b j
theorem zc6{pl:Sem Bool}(he:PE X.nox o ta)(c:uu X.K C)(N:zcF X.K C m f)(F:aZ X.prog X.w X.K X.mg X.base (uw X.prog X.w) k f fd ps sp)(hr:hZ k X.A)(hb:mt X.K fd ps [])(ha:PA X.nox (e::es) t) (w:Be (e::es) X.env=(ag,eval e X.env)::Be es X.env:=by rfl) (y:(backTo pos (Be es X.env)).any (·.1)=ag:=by rfl) (ht:eval (.Call (.Attribute o m tV) (e::es) [] pos) X.env=(do
   let M <-eval o X.env
   standAt tV.atName
   let (f,first) <-holding [M] (getMethod M m pl)
   callWith pos f first (backTo pos (Be (e::es) X.env)) (backToKw pos (keywordEach [] X.env))):=by rfl) :
  PEX X (.Call (.Attribute o m tV) (e::es) [] pos) (zbG C m sp ta t):=by
 intro O s p H Q EX I h;refine mS (pl:=pl) (cU (he O s p H _ (I.wish _) h) (λu s1 ⟨x,H1,D,rx,a,dx,fs,ex,ea,l,q⟩=>?_) λ_ _ z=>cx z) ht;subst ex;obtain rfl:u=bH a:=rx;have T:=D.unwish;refine qd T ea c N l ?_;refine gJ (first:=[.ref a]) (h₀:=X.base) I.ok.mod.kin N.kp (cU (ha pos O s1 p H1 _ (T.wish _) q) (λd v ⟨E,H2,j,r,J⟩=>⟨j.kIn,?_⟩) λ_ _ z=>cx z) w y;have n:=j.unwish;have G:aQ (V.ref a::(E++[])) (bH a::(d++[])):=.cons Y (r.append .nil);have hl:((bH a::d)++[]).length=ps.length:=by
  have e:=G.length;rw[F.len _ _ _ _ J] at e;exact e.symm
 refine fN (eu (F.run X.A X.stack v H2 ⟨.ref a::d,[]⟩ ((.ref a::d)++[]) (.ref a::(E++[])) _ _ hr n.env0 (hb v (.ref a::d) n.kIn hl) G J) λr s' g=>?_);cases r with
 |error ev =>
  obtain⟨e,B,od,H',rfl,os,i,un,A,xf,hE⟩:=g;exact⟨e,B,p,v,H2,H',Y,n,n.call' (ch:=[]) os un A i (λb z=>nomatch z),od,xf,hE⟩
 |ok fl =>
  cases fl with
  |ret u=>exact n.after g
  |next=>exact cx g
  |brk=>exact cx g
  |cont=>exact cx g
end
def zh3(K:bo)(e:EXK->TS)(g:L)(b:TS):TS:=λD d H=>e (λc a f=>∃C,c=.ref C/\eG K (.ref C) (.ref g)=U ai/\b D a f) D d H
end L2
namespace L2
open PySem
def rk(b:List (bv×V))(a:List V):Except Er Int:=match zhM b a [] with
 |.ok [i]=>.ok i
 |.ok _=>.error .stuck
 |.error e=>.error e
def Xo(e:List V):Prop:=(∀a,∃r,zmU a e r)/\(∀v∈e,zbA v)/\e.length<=1000
mutual
inductive Rw where
 |take (sh:Str) (e:List V) (sl:Str)
 |give (sh:Str) (e f:List V)
 |lt (sl:Str) (e:List V)
 |say (e:List V)
 |off (e:List V)
 |iff (e:List V) (a b:Rws)
inductive Rws where
 |nil
 |cons (r:Rw) (rs:Rws)
end
set_option genSizeOf false in
set_option genInjectivity false in
structure Sta where
 sl:List (bv×V)
 wo:List Row
 sa:List Int
inductive Res where
 |go (s:Sta)
 |off
 |er (e:Er)
mutual
def goR:Rw->Sta->Res
 |.take sh e sl,s=>match rk s.sl e with
  |.ok n=>.go { s with sl:=yQ s.sl (.inr sl) (.int ((VS s.wo (sh,n)).getD 0)) }
  |.error x=>.er x
 |.give sh e f,s=>match rk s.sl e with
  |.ok n=>(match rk s.sl f with
   |.ok w=>.go { s with wo:=s.wo++[((sh,n),w)] }
   |.error x=>.er x)
  |.error x=>.er x
 |.lt sl e,s=>match rk s.sl e with
  |.ok n=>.go { s with sl:=yQ s.sl (.inr sl) (.int n) }
  |.error x=>.er x
 |.say e,s=>match rk s.sl e with
  |.ok n=>.go { s with sa:=s.sa++[n] }
  |.error x=>.er x
 |.off e,s=>match rk s.sl e with
  |.ok n=>if n=0 then .go s else .off
  |.error x=>.er x
 |.iff e a b,s=>match rk s.sl e with
  |.ok n=>if n=0 then zjQ b s else zjQ a s
  |.error x=>.er x
def zjQ:Rws->Sta->Res
 |.nil,s=>.go s
 |.cons r rs,s=>match goR r s with
  |.go s'=>zjQ rs s'
  |x=>x
end
mutual
def zmW(F:L->Prop)(H:Hp)(v:V):Rw->Prop
 |.take sh e sl=>∃r c,v=.ref r/\F r/\F c/\H r=U (.tup [.str "take",.str sh,.ref c,.str sl])/\H c=U (.tup e)
 |.give sh e f=>∃r c d,v=.ref r/\F r/\F c/\F d/\H r=U (.tup [.str "give",.str sh,.ref c,.ref d])/\H c=U (.tup e)/\H d=U (.tup f)
 |.lt sl e=>∃r c,v=.ref r/\F r/\F c/\H r=U (.tup [.str "let",.str sl,.ref c])/\H c=U (.tup e)
 |.say e=>∃r c,v=.ref r/\F r/\F c/\H r=U (.tup [.str "say",.ref c])/\H c=U (.tup e)
 |.off e=>∃r c,v=.ref r/\F r/\F c/\H r=U (.tup [.str "off",.ref c])/\H c=U (.tup e)
 |.iff e a b=>∃r c h g j i,v=.ref r/\F r/\F c/\F h/\F g/\H r=U (.tup [.str "if",.ref c,.ref h,.ref g])/\H c=U (.tup e)/\H h=U (.lst j)/\zfx F H j a/\H g=U (.lst i)/\zfx F H i b
def zfx(F:L->Prop)(H:Hp)(b:List V):Rws->Prop
 |.nil=>b=[]
 |.cons r rs=>∃v a,b=v::a/\zmW F H v r/\zfx F H a rs
end
abbrev Kl:L->Prop:=λ_=>True
mutual
def zmX:Rw->Prop
 |.take _ e _=>Xo e
 |.give _ e f=>Xo e/\Xo f
 |.lt _ e=>Xo e
 |.say e=>Xo e
 |.off e=>Xo e
 |.iff e a b=>Xo e/\zh5 a/\zh5 b
def zh5:Rws->Prop
 |.nil=>True
 |.cons r rs=>zmX r/\zh5 rs
end
mutual
def Rw.deep:Rw->Nat
 |.iff _ a b=>max a.deep b.deep+1
 |_=>0
def Rws.deep:Rws->Nat
 |.nil=>0
 |.cons r rs=>max r.deep rs.deep
end
mutual
def Rw.cnt:Rw->Nat
 |.iff _ a b=>max a.cnt b.cnt+1
 |_=>1
def Rws.cnt:Rws->Nat
 |.nil=>0
 |.cons r rs=>r.cnt+rs.cnt
end
abbrev ItA(h:ax)(e d:L)(i n g:Nat)(c:ae)(f:Bool)(b a:ae):Prop :=
 h.get? e=U { cls:=.type "dict_itemiterator",dict:=ah,data:=.fields #[c,.bool f,.ref d,.int i 0,.int n 0,.int g 0,b,a],slots:=#[] }
section
variable {P:ap}{w:au}{A:aq}{E:ae->af->Prop}{s:af}
theorem zh6{Q:ae->af->Prop}(c:s.heap.IsItemsView v d)(h:uo s.heap d es ep) (q:Q (.ref s.heap.objs.size) { s with heap:=s.heap.push { cls:=.type "dict_itemiterator",data:=.fields #[.none,.bool ag,.ref d,.int 0 0,.int es.size 0,.int ep 0,.none,.none] } }):Bf (Bg P w) A (pyIter (.ref v)) Q E s:=by
 obtain⟨j,e,i,f⟩:=id c;obtain⟨o,g,k,a⟩:=id h;refine lW c.typeIs o9 (cH o9 c.typeIs F.entry_dict_items_iter ?_ (F.args_dict_items_iter_1 _));unfold Builtin.«dict_items.__iter__»;refine ba (bf ?_);refine ba ?_;unfold Builtin.Dict_items.dictOf;refine ba (dD e f (x:=.ref d) Y (bf ?_));refine ba ?_;unfold Builtin.Dict_items.newIterator;refine ba (gh g a ?_);refine ba (gQ g a ?_);have b:eI "dict_itemiterator"=ai:=by lia
 simp only[b,if_true];refine cL (bf ⟨_,Y,"dict_itemiterator",_,⟨_,bp _ Y,Y⟩,F.slot_dict_itemiterator_next.lookup,?_⟩) (by simp only[sizeOk,iT,bM,bn,bR,lB,dq];lia);simpa[rawInt,iT] using q
theorem zh7{Q:Option ae->af->Prop}(k:ItA s.heap it d i es.size ep o0 f ok ov)(hm:uo s.heap d es ep)(hx:es[i]?=U e) (al:(o0=.none/\f=ag)\/∃(a:L) (oa:Obj),o0=rawInt (a:Nat)/\s.heap.get? a=U oa/\a≠it) (q:∀n I f1 k1 v1,ItA n it d (i+1) es.size ep I f1 k1 v1->((I=.none/\f1=ag)\/∃(a:L) (oa:Obj),I=rawInt (a:Nat)/\n.get? a=U oa/\a≠it)->n.get? s.heap.objs.size=U { cls:=.type "tuple",data:=.seq #[e.key,e.val] }->n.objs.size=s.heap.objs.size+1 ->
   (∀b o,b≠it->s.heap.get? b=U o->n.get? b=U o)->(∀a:L,I=rawInt (a:Nat)->a=s.heap.objs.size\/o0=rawInt (a:Nat))->Q (U (.ref s.heap.objs.size)) { s with heap:=n }):Bf (Bg P w) A (pyNext (.ref it)) Q E s:=by
 obtain⟨c,g,B,p,t⟩:=s;obtain⟨od,u,an,v⟩:=id hm;have T:rR ⟨c,g,B,p,t⟩ (.ref it) "dict_itemiterator":=⟨_,k,Y⟩;unfold pyNext;refine ba (eE (cC (name:=bb "__next__") T fC (cH fC T mB ?_ (lY _))));refine ba (bf ?_);refine ba ?_;refine ba ?_
 first|(refine ba (fh T (bf ?_)))|(refine ba (fZ T (bf ?_)))
 refine ba (fY k Y ?_);have aa:eI "dict_itemiterator"=ai:=by lia
 simp only[aa,if_true];show Bf _ _ (if (bH d==cy)=ai then _ else _) _ _ _;rw[am (show ¬ ((bH d==cy)=ai) from bT)];refine ba (bf ?_);refine ba (gh u v ?_);rw[am (by simp)];refine ba (bf ?_);refine ba (gQ u v ?_);rw[am (by simp)];refine bf ?_;simp only[show ¬ ((i:Int)<0) from by lia,if_false,cA,hx];refine ba ?_
 first|(refine ba (fh T (bf ?_)))|(refine ba (fZ T (bf ?_)))
 refine ba (lN T ?_);show Bf _ _ (setField (.ref it) 3 (rawInt ((i:Int)+1)) >>= _) _ _ ⟨c,g,B,p,t⟩;refine ba (cI k (by simp) λh₁ y r=>?_);replace r:cV it c h₁:=r;replace y:ItA h₁ it d (i+1) es.size ep o0 f ok ov:=by
  have z:((i+1:Nat):Int)=(i:Int)+1:=by lia
  unfold ItA;rw[z];simpa[rawInt] using y
 have T1:rR ⟨h₁,g,B,p,t⟩ (.ref it) "dict_itemiterator":=⟨_,y,Y⟩;refine ba (dh ?_);refine ba (lN T1 ?_);refine ba (lN T1 ?_);show Bf _ _ (lK (.ref it) 6 e.key e.val) _ _ ⟨h₁,g,B,p,t⟩;unfold lK;refine ba (p9 ?_);have l:ItA (h₁.push { cls:=.type "tuple",data:=.seq #[e.key,e.val] }) it d (i+1) es.size ep o0 f ok ov:=bc _ y;generalize hg:h₁.push { cls:=.type "tuple",data:=.seq #[e.key,e.val] }=h₂ at l;have C:h₁.objs.size=c.objs.size:=r.1;have il:it<c.objs.size:=bG k;have O:h₂.get? c.objs.size=U { cls:=.type "tuple",data:=.seq #[e.key,e.val] }:=by rw[<-hg,<-C];exact bp _ rfl
 have M:h₂.objs.size=c.objs.size+1:=by rw[<-hg,gA,C]
 have J:∀b o,b≠it->c.get? b=U o->h₂.get? b=U o:=λb o h z=>by rw[<-hg];exact bc _ (r.extBut b o h z)
 show Bf _ _ (iU (.ref it) >>= _) _ _ ⟨h₂,g,B,p,t⟩;rw[C];clear hg y r T1 C h₁;refine ba ?_;unfold iU;rcases al with ⟨rfl,rfl⟩|⟨a,oa,rfl,ha,hai⟩
 .refine ba (dD l Y (x:=.none) Y (bf ?_));simp only[if_true];refine ba (dD l Y (x:=ok) Y ?_);refine ba (dD l Y (x:=ov) Y ?_);refine ba (cI l (by simp) λh₃ m j=>?_);replace j:cV it h₂ h₃:=j;replace m:ItA h₃ it d (i+1) es.size ep .none ag e.key ov:=m;refine ba (cI m (by simp) λh₄ e4 H=>?_);replace H:cV it h₃ h₄:=H;replace e4:ItA h₄ it d (i+1) es.size ep .none ag e.key e.val:=e4;refine ba (cI e4 (by simp) λh₅ e5 G=>?_);replace G:cV it h₄ h₅:=G;replace e5:ItA h₅ it d (i+1) es.size ep (rawInt (c.objs.size:Nat)) ag e.key e.val:=e5;refine ba (cI e5 (by simp) λh₆ e6 D=>?_);replace D:cV it h₅ h₆:=D;replace e6:ItA h₆ it d (i+1) es.size ep (rawInt (c.objs.size:Nat)) ag e.key e.val:=e6;have k6:∀b o,b≠it->h₂.get? b=U o->h₆.get? b=U o:=λb o h z=>D.extBut b o h (G.extBut b o h (H.extBut b o h (j.extBut b o h z)));have t6:=k6 _ _ (dP il) O;refine ba (rq (bf (bf ⟨_,Y,bf (q h₆ _ _ _ _ e6 (.inr ⟨_,_,Y,t6,dP il⟩) t6 ?_ (λb o h z=>k6 b o h (J b o h z)) λa z=>?_)⟩)))
  .show h₆.objs.size=c.objs.size+1;rw[D.1,G.1,H.1,j.1,M]
  .refine .inl ?_;have z':(gu (c.objs.size:Nat) 0:ae)=gu (a:Nat) 0:=z;have N:((c.objs.size:Nat):Int)=((a:Nat):Int):=by injection z'
   exact(tQ N).symm
 .refine ba (dD l Y (x:=rawInt (a:Nat)) Y ?_);show Bf _ _ (loadIfAlive (((a:Nat):Int).toNat) >>= _) _ _ _;rw[cA];have a2:h₂.get? a=U oa:=J a oa hai ha;refine ba (W.kdx_alive a2 ?_);simp only[Option.isNone_some,cu,if_false];refine ba (dD l Y (x:=.bool f) Y ?_);cases f with
  |true =>
   rw[am (show ¬ ((ic ai != ic ai)=ai) from bT)];refine bf ?_;simp only[cu,if_false];exact bf (bf ⟨_,Y,bf (q h₂ _ _ _ _ l (.inr ⟨_,_,Y,a2,hai⟩) O M J λa z=>.inr z)⟩)
  |false =>
   rw[ao (show (ic ag != ic ai)=ai from rfl)];refine ba (cI l (by simp) λh₃ m j=>?_);replace j:cV it h₂ h₃:=j;replace m:ItA h₃ it d (i+1) es.size ep (rawInt (a:Nat)) ai ok ov:=m;refine bf ?_;simp only[cu,if_false];exact bf (bf ⟨_,Y,bf (q h₃ _ _ _ _ m (.inr ⟨_,_,Y,j.extBut _ _ hai a2,hai⟩) (j.extBut _ _ (dP il) O) (by show h₃.objs.size=_;rw[j.1,M]) (λb o h z=>j.extBut b o h (J b o h z)) λa z=>.inr z)⟩)
theorem zjR{Q:Option ae->af->Prop}(n:A.handled=ah)(c:ItA s.heap it d i es.size ep o0 f ok ov)(l:uo s.heap d es ep)(k:es.size<=i) (q:∀j,rp it s.heap j->Q ah { s with heap:=j }):Bf (Bg P w) A (pyNext (.ref it)) Q E s:=by
 obtain⟨p,e,o,g⟩:=id l;have T:s.TypeIs (.ref it) "dict_itemiterator":=⟨_,c,Y⟩;unfold pyNext;refine ba (eE (cC (name:=bb "__next__") T fC (cH fC T mB ?_ (lY _))));refine ba (bf ?_);refine ba ?_;refine ba ?_
 first|(refine ba (fh T (bf ?_)))|(refine ba (fZ T (bf ?_)))
 refine ba (fY c Y ?_);have h:eI "dict_itemiterator"=ai:=by lia
 simp only[h,if_true];show Bf _ _ (if (bH d==cy)=ai then _ else _) _ _ s;rw[am (show ¬ ((bH d==cy)=ai) from bT)];refine ba (bf ?_);refine ba (gh e g ?_);rw[am (by simp)];refine ba (bf ?_);refine ba (gQ e g ?_);rw[am (by simp)];refine bf ?_;simp only[show ¬ ((i:Int)<0) from by lia,if_false,cA,eW k];refine ba ?_
 first|(refine ba (fh T (bf ?_)))|(refine ba (fZ T (bf ?_)))
 show Bf _ _ (setField (.ref it) 2 .none >>= _) _ _ s;refine ba (fG c Y (by simp) ?_);show Bf _ _ (newExc (.type "StopIteration") [] >>= _) _ _ _;refine ba ?_;simp only[newExc,newTuple];refine ba (cL ?_ (by size_fits));refine ba (m:=firstArgMember _ _) (lV (a:=cy) (by first|rfl|(simp only[firstArgMember];rfl)) ?_);refine cL ?_ (by size_fits);simp only[raiseNew];refine ba (mM ?_);rw[show A.in1.handled=ah from n];refine ba (bf (oA ?_));refine ba (iM (T:="StopIteration") (b:=ai) ⟨_,bp _ Y,Y⟩ nI ?_);exact bf (q _ (((gp ..).extBut.push _).push _))
end
end L2
namespace L2
open PySem PySem.Spec PyProof.Rows
def Km(r d:L):HO:=.ext λh=>h.IsItemsView r d
def zex(c:TE):TE:=λb H Q=>c b H λx a=>∃d e,x=.ref d/\a d=U (.dT e)/\∀r,a r=ah->Q (.ref r) (upd a r (Km r d))
section
variable {X:Cx}{o:ay}{tV tX:Pos}{td:TE}
theorem zc7(t:PE X o td)(g:attributeBase o "items" X.env (eval o X.env)=eval o X.env:=by rfl)(f:(tV.endLine==tX.line)=ai:=by rfl):PE X (.Call (.Attribute o "items" tV) [] [] tX) (zex td):=by
 intro C s m H Q I h;refine on g f (aY (t C s m H _ I h) ?_);rintro v c ⟨x,E,l,q,d,D,z,y,r⟩;subst z;obtain rfl:v=bH d:=q;obtain⟨j,p,n⟩:=zbr l (.inr ⟨D,.inl y⟩);refine⟨"dict","dict.items",gm,oC,PySem.F.type_dict_items,j,p,eV Y (rg ?_)⟩;refine cH oC j PySem.F.entry_dict_items ?_ (PySem.F.args_dict_items_1 _);unfold Builtin.«dict.items»;refine ba ?_;unfold Builtin.Dict.noArgs;refine ba (mr j ?_);show Bf _ _ (pure d) _ _ c;refine bf ?_;show Bf _ _ (gP d >>= _) _ _ c;unfold gP;rw[am (by rw[n];exact bT)];refine ba (bf ?_);refine ba (cL (bf ⟨_,Y,?_⟩));have w:E c.heap.objs.size=ah:=l.hok.fresh (br _);have i:(c.heap.push { cls:=.type "dict_items",data:=.fields #[.ref d] }).get? c.heap.objs.size=U { cls:=.type "dict_items",data:=.fields #[.ref d] }:=bp _ rfl;refine⟨.ref c.heap.objs.size,_,l.laid (a:=c.heap.objs.size) (o:=Km c.heap.objs.size d) (t':=c.toks) (λb u e=>bc _ e) (br _) ?_,Y,r _ w⟩;exact⟨⟨_,i,Y,Y⟩,⟨_,i⟩,λJ G ⟨o,B,A⟩ k=>⟨o,k o B,A⟩⟩
end
def Vb(H:Hp)(v:V)(a:List bv×V):Prop:=∃r p,v=.ref r/\H r=U (.tup [.ref p,a.2])/\H p=U (.tup (a.1.map kV))
theorem zc8{H f:Hp}(s:∀b a,H b=U (.tup a)->f b=U (.tup a)):∀ {c:List V} {d:List (List bv×V)},Paired (Vb H) c d->Paired (Vb f) c d
 |_,_,.nil=>.nil
 |_,_,.cons ⟨r,p,e,h1,h2⟩ t=>.cons ⟨r,p,e,s _ _ h1,s _ _ h2⟩ (zc8 s t)
theorem zc9{H:Hp}{v:V}{q:List bv×V}:∀ {b:List V} {c:List (List bv×V)},Paired (Vb H) b c->Vb H v q->Paired (Vb H) (b++[v]) (c++[q])
 |_,_,.nil,h=>.cons h .nil
 |_,_,.cons a r,h=>.cons a (zc9 r h)
section
variable {X:Cx}{A:aq}{R:aD->af->Prop}
theorem zh8{O:St}{H:Hp}{S it d:L}{c:List (List bv×V)}{es:Array DictEntry}{ep:Nat}{v:ae}(hh:A.handled=ah)(hS:H S=ah)(hd:H d=U (.dT c))(M:S≠it)(aR:d≠it)(hz:c.length<=1000) (a2:es.size=c.length) (aw:∀(i:Nat) (e:DictEntry) (kv:List bv×V),es[i]?=U e->c[i]?=U kv->∃p,e.key=.ref p/\H p=U (.tup (kv.1.map kV))/\aU kv.2 e.val) (aB:∀s' H' h,aM X aa O H' s'->ac H H'->H' S=U (.lst h)->Paired (Vb H') h c->R (.ok (.ret v)) s') :
  ∀(k i:Nat) (s:af) (g:Hp) (h:List V) (m ok ov:ae) (f:Bool),c.length-i=k->i<=c.length->aM X aa O g s->ac H g->g S=U (.lst h)->Paired (Vb g) h (c.take i)->uo s.heap d es ep->ItA s.heap it d i es.size ep m f ok ov ->
  ((m=.none/\f=ag)\/∃(a:L) (l:Obj),m=rawInt (a:Nat)/\s.heap.get? a=U l/\a≠it/\a≠S)->k7 X aa g it ->
  codeAny (Bg X.prog X.w) A (.builtin "list.extend.loop" ⟨[.ref S,.ref it,v],[]⟩) R s:=by
 intro k;induction k with
 |zero =>
  intro i s g h m ok ov f hk hi I Q B w rd j q hf;have e:i=c.length:=by lia
  subst e;refine dA nJ ?_;rw[cS dJ _];show Bf _ A.in1 (pyNext (.ref it) >>= _) _ _ s;obtain⟨f0,f1,f2,f3,f4,f5⟩:=hf;refine ba (zjR (A:=A.in1) hh j rd () λt eb=>?_);have I1:=I.turned (t':=s.toks) (λb o J e=>eb b o J e) f0 f1 f3 f4 f5;rw[mG] at w;exact bf (aB _ g h I1 Q B w)
 |succ k ih =>
  intro i s g h m ok ov f hk hi I Q B w rd j q hf;have D:i<c.length:=by lia
  have hx:es[i]?=U es[i]:=cG ();have E:c[i]?=U c[i]:=bj D;obtain⟨p,ek,hp,rv⟩:=aw i _ _ hx E;refine dA nJ ?_;rw[cS dJ _];show Bf _ A.in1 (pyNext (.ref it) >>= _) _ _ s;obtain⟨f0,f1,f2,f3,f4,f5⟩:=id hf;have C:(m=.none/\f=ag)\/∃(a:L) (l:Obj),m=rawInt (a:Nat)/\s.heap.get? a=U l/\a≠it:=by
   rcases q with z|⟨a,l,z1,z2,z3,_⟩
   .exact .inl z
   .exact .inr ⟨a,l,z1,z2,z3⟩
  refine ba (zh7 (A:=A.in1) j rd hx C λt o1 aC k1 v1 G av ht a1 kp an=>?_);have Sl:S<s.heap.objs.size:=by
   obtain⟨_,_,_,_,e⟩:=(show aW X.prog X.w g s.heap S (.lst h) from I.hok S _ B);exact bG e
  have tn:s.heap.objs.size≠it:=dP (bG j);have aA:g s.heap.objs.size=ah:=I.hok.fresh (br _);have N:S≠s.heap.objs.size:=bV Sl;generalize hT:s.heap.objs.size=T at *
  have I6:aM X aa O (upd g T (.tup [.ref p,c[i].2])) { s with heap:=s.heap.push { cls:=.type "tuple",data:=.seq #[es[i].key,es[i].val] } } :=
   I.laid (a:=T) (o:=.tup [.ref p,c[i].2]) (t':=s.toks) (λb u e=>bc _ e) (by rw[hT];exact br _) ⟨by show 2<=Bb;decide,[es[i].key,es[i].val],.cons (by rw[ek];exact rfl) (.cons rv .nil),⟨_,by rw[<-hT];exact bp _ Y,Y,_,Y⟩⟩
  have S6:ac g (upd g T (.tup [.ref p,c[i].2])):=hU T aA;have I7:aM X aa O (upd g T (.tup [.ref p,c[i].2])) { s with heap:=t }:=I6.turned (s:={ s with heap:=s.heap.push { cls:=.type "tuple",data:=.seq #[es[i].key,es[i].val] } }) (t':=s.toks) (λb o J e=>by
   rcases mJ (show (s.heap.push { cls:=.type "tuple",data:=.seq #[es[i].key,es[i].val] }).get? b=U o from e) with ⟨rfl,rfl⟩|e
   .rw[hT];exact ht
   .exact kp b o J e) (by rw[zm (cK tn)];exact f0) f1 f3 f4 f5
  have y:(upd g T (.tup [.ref p,c[i].2])) S=U (.lst h):=S6 _ _ B;obtain⟨z,x,n,r,hl,e⟩:=I7.lstM y;have yl:h.length=i:=by
   have:=cT w;rw[c7] at this;lia
  show Bf _ A.in1 (updateSeq S (·.push (bH T)) >>= _) _ _ _;have e':t.get? S=U { cls:=.type "list",data:=.seq x.toArray n }:=e;refine ba (gS (s:={ s with heap:=t }) e' rfl ?_ (by rw[bM,<-r.length,yl];exact cg (by lia:i<=1000) ()) (by rw[Array.size_push,bM,<-r.length,yl];exact cg (by lia:i+1<=1001) ()));have I8:=I7.lset (f:=λxs=>xs.push (bH T)) (t':=s.toks) (its':=x++[bH T]) y e' (by simp) (r.append (.cons (show aU (.ref T) (.ref T) from rfl) .nil)) (by rw[bn,yl];exact cg (by show i+1<=1001;lia) ());have up:∀b o,b≠S->t.get? b=U o->(t.update S (fm (·.push (bH T)))).get? b=U o:=λb o J z=>(cO _ _ (cK J)).trans z;have dS:d≠S:=zr hd hS;have tS:∀b zs,g b=U (.tup zs)->(upd (upd g T (.tup [.ref p,c[i].2])) S (.lst (h++[.ref T]))) b=U (.tup zs):=λb zs z=>by
   rw[zm (zU z B (by intro z;cases z))];exact S6 _ _ z
  have ri:∀ {a b:Nat},(rawInt (a:Int):ae)=rawInt (b:Int)->a=b:=λ{a b} z=>by
   have z':(gu (a:Int) 0:ae)=gu (b:Int) 0:=z;have al:(a:Int)=(b:Int):=by injection z'
   exact tQ al
  refine bf ⟨eZ dJ _,ih (i+1) _ _ (h++[.ref T]) o1 k1 v1 aC (by rw[Nat.sub_add_eq,hk];rfl) D I8 (λb o z=>?_) zi ?_ (rd.at λo z=>up d o dS (kp d o aR z)) (up it _ (cK M) G) ?_ ⟨?_,f1,f2,f3,f4,f5⟩⟩
  .rw[zm (zr z hS)];exact S6 _ _ (Q _ _ z)
  .rw[gg,E];exact zc9 (zc8 tS w) ⟨T,p,Y,by rw[zm (cK N),zi],tS _ _ (Q _ _ hp)⟩
  .rcases av with z|⟨a,l,z1,z2,z3⟩
   .exact .inl z
   .have aS:a≠S:=by
     rcases an a z1 with z|z
     .rw[z];exact cK N
     .rcases q with ⟨y1,_⟩|⟨a',oa',y1,_,_,y4⟩
      .rw[y1] at z;cases z
      .rw[y1] at z;rw[<-ri z];exact y4
    exact .inr ⟨a,l,z1,up a _ aS z2,z3,aS⟩
  .rw[zm (cK M),zm (cK tn)];exact f0
end
abbrev zkX:RC:=λe H Q=>∃r d b,e=[.ref r]/\H r=U (Km r d)/\H d=U (.dT b)/\b.length<=1000/\∀l c a,ac H a->H l=ah->a l=U (.lst c)->Paired (Vb a) c b->Q (.ref l) a
theorem zjS{H:Hp}(k:uz P w H h)(e:H r=U (Km r d)):h.IsItemsView r d:=(k r _ e).1
theorem zjT{H:Hp}:∀ {c:List (List bv×V)} {b:List (List bv×L×ae)},Paired (λ(p:List bv×V) (q:List bv×L×ae)=>p.1=q.1/\H q.2.1=U (.tup (p.1.map kV))/\aU p.2 q.2.2) c b->∀ {i:Nat} {a:List bv×V} {x:List bv×L×ae},c[i]?=U a->b[i]?=U x->H x.2.1=U (.tup (a.1.map kV))/\aU a.2 x.2.2 :=
 λ{_ _} h {_ _ _} e d=>(jv h e d).2
section
variable {X:Cx}
theorem zh9{k:St}{H:Hp}{s:af}{d:L}{f:List (List bv×V)}(I:aM X aa k H s)(e:H d=U (.dT f)):∃a g,uo s.heap d a g/\a.size=f.length /\
  ∀(i:Nat) (en:DictEntry) (c:List bv×V),a[i]?=U en->f[i]?=U c->∃p,en.key=.ref p/\H p=U (.tup (c.1.map kV))/\aU c.2 en.val:=by
 obtain⟨z,A,l,b,o,a,g,t,r,q,h,_⟩:=(show aW X.prog X.w H s.heap d (.dT f) from I.hok d _ e);have m:a.size=l.length:=by rw[<-dC,h,bi]
 refine⟨a,g,⟨o,t,r,q⟩,by rw[m,<-cT b],λi en c y w=>?_⟩;have j:a.toList[i]?=U en:=by rw[cQ];exact y
 rw[h,bW] at j;obtain⟨x,n,rfl⟩:=cY.mp j;obtain⟨v,u⟩:=zjT b w n;exact⟨x.2.1,Y,v,u⟩
theorem zaS{A:aq}{R:aD->af->Prop}{j:List (L×Obj)}{l:St}{H:Hp}{s:af}{S r d:L}{k:List (List bv×V)}{res:ae}{c:Nat}(hh:A.handled=ah)(z:H S=ah)(hr:H r=U (Km r d))(Q:H d=U (.dT k))(hl:k.length<=1000) (y:aM X j l (upd H S (.lst [])) s) (T2:s.heap.get? S=U { cls:=.type "list",data:=.seq #[] c }) (B:∀a h ys,aM X j l h a->ac H h->h S=U (.lst ys)->Paired (Vb h) ys k->R (.ok (.ret res)) a) :
  Bf (Bg X.prog X.w) A.in1 (da (.ref S) (.ref r) res) (λg a=>match g with|.done f=>R (.ok f) a|.again c'=>c'.quiet=ai/\codeAny (Bg X.prog X.w) A c' R a) (λe a=>R (.error e) a) s:=by
 have Sr:r≠S:=zr hr z;have Sd:d≠S:=zr Q z;have SS:ac H (upd H S (.lst [])):=hU S z;obtain⟨es,ep,J,N,u⟩:=zh9 y (SS _ _ Q);have O:∀(i:Nat) (w:DictEntry) (q:List bv×V),es[i]?=U w->k[i]?=U q->∃p,w.key=.ref p/\H p=U (.tup (q.1.map kV))/\aU q.2 w.val:=λi w q e1 e2=>by
  obtain⟨p,g1,g2,g3⟩:=u i w q e1 e2;refine⟨p,g1,?_,g3⟩;by_cases hp:p=S
  .rw[hp,zi] at g2;cases g2
  .rwa [zm hp] at g2
 have E:=zjS y.hok (SS _ _ hr);unfold da;refine ba (my (T:="dict_items") E.typeIs ?_);have c1:gk (.ref S) (.ref r)=ag:=by simp[gk,cK Sr]
 have c2:(fj "dict_items" == fj "list")=ag:=by lia
 have c3:(fj "dict_items" == fj "tuple")=ag:=by lia
 simp only[c1,c2,c3,oz,cu,if_false];refine ba (zh6 E J ?_);have ni:(upd H S (.lst [])) s.heap.objs.size=ah:=y.hok.fresh (br _);have fp:k7 X j (upd H S (.lst [])) s.heap.objs.size:=y.fpOk (br _) ni;have Si:S≠s.heap.objs.size:=bV (bG T2);have di:d≠s.heap.objs.size:=bV J.lt;have I3:aM X j l (upd H S (.lst [])) { s with heap:=s.heap.push { cls:=.type "dict_itemiterator",data:=.fields #[.none,.bool ag,.ref d,.int 0 0,.int es.size 0,.int ep 0,.none,.none] } }:=y.kept (t':=s.toks) λb o e=>bc _ e;have T3:=bc { cls:=.type "dict_itemiterator",data:=.fields #[.none,.bool ag,.ref d,.int 0 0,.int es.size 0,.int ep 0,.none,.none] } T2;have t:ItA (s.heap.push { cls:=.type "dict_itemiterator",data:=.fields #[.none,.bool ag,.ref d,.int 0 0,.int es.size 0,.int ep 0,.none,.none] }) s.heap.objs.size d 0 es.size ep .none ag .none .none:=bp _ rfl;have m:uo (s.heap.push { cls:=.type "dict_itemiterator",data:=.fields #[.none,.bool ag,.ref d,.int 0 0,.int es.size 0,.int ep 0,.none,.none] }) d es ep:=J.at λo e=>bc _ e;have D:(s.heap.push { cls:=.type "dict_itemiterator",data:=.fields #[.none,.bool ag,.ref d,.int 0 0,.int es.size 0,.int ep 0,.none,.none] }).IsItemsView r d:=let ⟨o,ho,x⟩:=E;⟨o,bc _ ho,x⟩
 generalize hh3:s.heap.push { cls:=.type "dict_itemiterator",data:=.fields #[.none,.bool ag,.ref d,.int 0 0,.int es.size 0,.int ep 0,.none,.none] }=h3 at *
 generalize s.heap.objs.size=it at *
 refine ba (dh (W.kdx_hint D.typeIs ?_));have g:∀(v:ax) (G:Nat) (R:aD->af->Prop),(∀a h ys,aM X j l h a->ac H h->h S=U (.lst ys)->Paired (Vb h) ys k->R (.ok (.ret res)) a)->aM X j l (upd H S (.lst [])) { s with heap:=v,toks:=G }->uo v d es ep->ItA v it d 0 es.size ep .none ag .none .none ->
   codeAny (Bg X.prog X.w) A (.builtin "list.extend.loop" ⟨[.ref S,.ref it,res],[]⟩) R { s with heap:=v,toks:=G }:=λv G R B I4 I M =>
  zh8 (A:=A) (H:=H) (es:=es) (ep:=ep) hh z Q Si di hl N O B k.length 0 _ (upd H S (.lst [])) [] .none .none .none ag (Nat.sub_zero _) (bU _) I4 SS zi .nil I M (.inl ⟨Y,Y⟩) fp
 refine gU (λ_=>?_) (λ_=>bf ⟨eZ dJ _,g h3 s.toks _ B I3 m t⟩);refine ba (pT ?_);refine ba ?_;show Bf _ _ (updateSeq S (·.push .none) >>= λ_=>updateSeq S (·.pop)) _ _ _;refine ba (gS T3 Y ?_);have T4:=cW (fm (·.push cy)) T3 rfl;refine gS (hz:=by seq_fits) T4 Y ?_;have I4:=I3.lset (f:=λC=>C.push cy) (its:=[]) (its':=[cy]) (ys:=[V.non]) (t':=s.toks) zi T3 Y (.cons Y .nil) (by show 1<=Bb;decide);have I5:=I4.lset (f:=λC=>C.pop) (its:=[cy]) (its':=[]) (ys:=[]) (t':=s.toks) zi T4 Y .nil (bU _);rw[kZ,kZ] at I5;have n:∀b o,b≠S->h3.get? b=U o->((h3.update S (fm (·.push cy))).update S (fm (·.pop))).get? b=U o:=λb o hb e=>(cO _ _ (cK hb)).trans ((cO _ _ (cK hb)).trans e);exact bf ⟨eZ dJ _,g _ s.toks _ B I5 (m.at λo e=>n d o Sd e) (n it _ (cK Si) t)⟩
theorem Jq(y:X.calm=ai):xV X (.type "list") zkX:=by
 intro z s k H E G Q I n h;obtain⟨r,d,M,rfl,t,x,v,q⟩:=h;obtain⟨u,rfl,m⟩:=xA n;cases m;have w:X.A.handled=ah:=I.ok.hd y;refine callType_codes (Q₁:=λb a=>b=.ref s.heap.objs.size/\a={ s with heap:=s.heap.push { cls:=.type "list",data:=.seq #[] } }) PySem.F.called_list (PySem.F.typeCall_list_1 _) PySem.F.entry_list_init (code_list_new _ ⟨rfl,rfl⟩) ?_;rintro b a ⟨rfl,rfl⟩;have g:H s.heap.objs.size=ah:=I.hok.fresh (br _);have C:aM X z k (upd H s.heap.objs.size (.lst [])) { s with heap:=s.heap.push { cls:=.type "list",data:=.seq #[] } }:=I.lnew (its:=[]) (t':=s.toks) .nil (bU _);have c:(s.heap.push { cls:=.type "list",data:=.seq #[] }).get? s.heap.objs.size=U { cls:=.type "list",data:=.seq #[] }:=bp _ rfl;generalize hT:s.heap.objs.size=S at *
 refine⟨⟨_,c,Y⟩,PySem.F.args_list_init_2 _ _,?_⟩;show Bf _ _ (do let e <-lO (.ref S);Builtin.List.listUpdate (.ref S) (λ_=>#[]);letGo e.toList.reverse;da (.ref S) (.ref r) .none) _ _ _;refine ba ?_;unfold lO;refine ba (nK c Y (bf ?_));show Bf _ _ (updateSeq S (λ_=>#[]) >>= λ_=>letGo (#[]:Array ae).toList.reverse >>= λ_=>da (.ref S) (.ref r) .none) _ _ _;refine ba (gS c Y ?_);have i:=C.lset (f:=λ_=>(#[]:Array ae)) (its:=[]) (its':=[]) (ys:=[]) (t':=s.toks) zi c Y .nil (bU _);rw[kZ] at i;have B:=cW (fm (λ_=>(#[]:Array ae))) c rfl;refine ba (rq ?_);generalize hh2:(s.heap.push { cls:=.type "list",data:=.seq #[] }).update S (fm (λ_=>(#[]:Array ae)))=h2 at *
 exact zaS (A:=X.A.in1) (H:=H) w g t x v i B λJ j ys D l p o=>⟨Y,.ref S,j,D,Y,q S ys j l g p o⟩
end
end L2
namespace L2
open PySem PySem.Spec PyProof.Rows PySem.W
section
variable {X:Cx}
theorem zey{E:ae->af->Prop}{R:List ae->af->Prop}{j:List (L×Obj)}{c:St}{H:Hp}{s:af}{r d:L}{k:List (List bv×V)}(M:A.handled=ah)(D:H r=U (Km r d))(N:H d=U (.dT k))(J:k.length<=1000)(I:aM X j c H s) (h:∀B a b w,aM X j c a B->ac H a->Paired (Vb a) b k->aQ b w->R w B):Bf (Bg X.prog X.w) A (collect (.ref r)) R E s:=by
 have O:H s.heap.objs.size=ah:=I.hok.fresh (br _);have I1:aM X j c (upd H s.heap.objs.size (.lst [])) { s with heap:=s.heap.push { cls:=.type "list",data:=.seq ([]:List ae).toArray } }:=I.lnew (its:=[]) (t':=s.toks) .nil (bU _);have T:(s.heap.push { cls:=.type "list",data:=.seq ([]:List ae).toArray }).get? s.heap.objs.size=U { cls:=.type "list",data:=.seq #[] }:=bp _ rfl;unfold collect;refine ba (md (dA mI ?_));rw[cS gR _];show Bf _ A.in1 (newList [] >>= λl=>again (.builtin "list.__iadd__" ⟨[l,.ref r],[]⟩)) _ _ s;refine ba (cL ?_);refine bf ⟨eZ eO _,dA oO ?_⟩;rw[cS eO _];generalize s.heap.objs.size=S at *
 show Bf _ A.in1 (da (.ref S) (.ref r) (.ref S)) _ _ _;have u:=zaS (A:=A) (R:=λ(q:aD) (s':af)=>∃a b,q=.ok (.ret (.ref S))/\aM X j c a s'/\ac H a/\a S=U (.lst b)/\Paired (Vb a) b k) (res:=.ref S) M O D N J I1 T λs' a b m p v t=>⟨a,b,Y,m,p,v,t⟩;have i:∀s':af,(∃a b,aM X j c a s'/\ac H a/\a S=U (.lst b)/\Paired (Vb a) b k)->Bf (Bg X.prog X.w) A (load S >>= λo=>match o.data with|.seq xs _=>pure xs.toList|_=>unsupported "internal:collect") R E s':=λs' ⟨a,b,m,p,v,t⟩=>by
  obtain⟨z,its,n,C,G,e⟩:=m.lstM v;refine ba (nQ e ?_);refine bf ?_;exact h s' a b its m p t C
 refine cU u (λf s' x=>?_) λe s' x=>?_
 .cases f with
  |done f =>
   obtain⟨a,b,e,x⟩:=x;cases e;exact i s' ⟨a,b,x⟩
  |again c₁ =>
   refine⟨x.1,eu x.2 λq g y=>?_⟩;obtain⟨a,b,rfl,y⟩:=y;exact i g ⟨a,b,y⟩
 .obtain⟨_,_,Q,_⟩:=x;cases Q
end
def d0:Row:=(("",0),0)
end L2
namespace L2
open PySem PySem.Spec PyProof.Rows
def zmy(lo c:Int)(n:Nat):It:=⟨λi _=>i<n,λi H x a=>a=H/\x=.int (lo+i*c),λi _=>n<=i⟩
theorem zda{P:ap}{w:au}{K:bo}{M:ay}(it:L)(lo c:Int)(n:Nat):Qz P w K M (zmy lo c n) [it] it (λi h=>IsRangeIter h it (lo+(i:Nat)*c) ((n:Int)-(i:Nat)) c) where
 mem:=by simp
 obj:=λi h a b d=>by
  have e:b=it:=by simpa using d
  subst e;refine⟨_,a,λv z=>?_⟩;have J:sV _=Data.cell v:=z;cases J
 keep:=λi h j a k=>k it (by simp) _ a
 item:=by
  intro X q l r p i G s C H E I g a m;subst q l r;obtain⟨B,A,Q,y,x,u⟩:=g it (by simp);refine(Walks.range (prog:=X.prog) (w:=X.w) (I.ok.hd p) it lo c n).item i s _ _ m a λv j D O f N=>?_;obtain⟨t,rfl⟩:=O;have I1:aM X G C H { s with heap:=j,toks:=D }:=I.turned (λb o d e=>N b o (by simpa using d) e) B A y x u;exact⟨_,Y,JR (s:={ s with heap:=j,toks:=D }) (n:="range_iterator") f rfl rfl () ⟨.int (lo+i*c),H,I1,⟨t,rfl⟩,⟨rfl,rfl⟩,f,λb d=>(g b d).1⟩⟩
 done:=by
  intro X q l r p i G s C H E I g a m;subst q l r;obtain⟨B,A,Q,y,x,u⟩:=g it (by simp);exact oS (I.ok.hd p) a (by have:n<=i:=m;lia) λj T=>⟨Y,I.turned (t':=s.toks) (λb o d e=>T b o d e) B A y x u⟩
 self:=λ_ _ _ _ _ a h=>oU a h
def zez(i j c:Int):Nat:=if i<j then ((j-i-1)/c+1).toNat else 0
def zkY(d:TA):TI:=λa H R=>d a H λb e=>∃i j c:Int,b=[.int i,.int j,.int c]/\(0<=i/\i<1073741824/\0<=j/\j<1073741824/\0<c/\c<1073741824)/\R (zmy i c (zez i j c)) e
section
variable {X:Cx}{tg:ay}
theorem zgn{u:TA}{p g:Pos}(G:Gl X "range")(E:X.mg "range"=ah)(J:PA X [a,b,c] u)(D:Be [a,b,c] X.env=[(ag,eval a X.env),(ag,eval b X.env),(ag,eval c X.env)]:=by rfl)(k:Be [b,c] X.env=[(ag,eval b X.env),(ag,eval c X.env)]:=by rfl) :
  PI X tg (.Call (.Name "range" p) [a,b,c] [] g) (zkY u):=by
 intro z s m H R I h;refine Call_ (Zo I G E boot_range (dQ (aY (J g z s m H _ I h) λO f ⟨N,A,M,C,w⟩=>?_) (by rw[D,k]) (by rw[k];rfl)));obtain⟨i,j,c,e,⟨w,q2,q3,T,v,Q⟩,q⟩:=w;subst e;cases C with
 |cons r rr =>
  cases rr with
  |cons r' rr =>
   cases rr with
   |cons r'' rr =>
    cases rr;obtain⟨t,rfl⟩:=r;obtain⟨t',rfl⟩:=r';obtain⟨d,rfl⟩:=r'';refine call_range_3 () ?_ (.inl (PyProof.noPylong_small ()));have x:lf i j c=(zez i j c:Int):=by
     unfold lf zez;rw[ao v];split
     .rename_i h;have:=Int.ediv_nonneg (a:=j-i-1) (b:=c) () ();lia
     .rfl
    have y:(zez i j c:Int)<=1073741824/\(zez i j c:Int)*c<=2147483648:=by
     unfold zez;split
     .rename_i h;have h1:=Int.ediv_nonneg (a:=j-i-1) (b:=c) () ();have h2:=Int.ediv_le_self (a:=j-i-1) c ();have h3:=Int.ediv_mul_le (j-i-1) (b:=c) ();rw[iV (),Int.add_mul];lia
     .simp
    generalize zez i j c=n at *
    have B:rA i j c=ai:=by
     unfold rA;rw[x];simp only[Builtin.Range.rangeFitsLong,bS,pI,decide_eq_true_eq,beq_iff_eq,show c > 0 from v,if_true];lia
    refine wpAny_pyIter_range (IsRange.new ..) B ?_;rw[x];have l:aM X z m A { f with heap:=f.heap.push { cls:=.type "range",data:=.fields #[.int i t,.int j t',.int c d] },toks:=f.toks }:=M.kept λb o e=>bc _ e;refine⟨(f.heap.push { cls:=.type "range",data:=.fields #[.int i t,.int j t',.int c d] }).objs.size,[(f.heap.push { cls:=.type "range",data:=.fields #[.int i t,.int j t',.int c d] }).objs.size],_,_,A,Y,l.kept (t':=f.toks) λb o e=>bc _ e,zda _ i c n,?_,λb y=>?_,q⟩
    .show IsRangeIter _ _ (i+((0:Nat):Int)*c) ((n:Int)-((0:Nat):Int)) c;rw[show i+((0:Nat):Int)*c=i by simp,show (n:Int)-((0:Nat):Int)=n by simp];exact bp _ rfl
    .have e:b=(f.heap.push { cls:=.type "range",data:=.fields #[.int i t,.int j t',.int c d] }).objs.size:=by simpa using y
     subst e;exact l.fpOk (br _) (l.hok.fresh (br _))
end
end L2
namespace L2
open PySem
structure StOk(n:Nat)(s:Sta):Prop where
 so:JK s.sl
 wo:∀r∈s.wo,inW r.2=ai
 l1:s.sl.length<=n
 l2:s.wo.length<=n
 l3:s.sa.length<=n
theorem StOk.mono(h:StOk n s)(l:n<=m):StOk m s:=⟨h.so,h.wo,cg h.l1 l,cg h.l2 l,cg h.l3 l⟩
mutual
def zmY(P:Pl->Prop):Rw->Prop
 |.give sh e _=>∀c n,rk c e=.ok n->P (sh,n)
 |.iff _ a b=>zia P a/\zia P b
 |_=>True
def zia(P:Pl->Prop):Rws->Prop
 |.nil=>True
 |.cons r rs=>zmY P r/\zia P rs
end
inductive Oc where
 |done (sa:List Int)
 |off (why:Str)
def VT:V->PyData
 |.int i=>.int i
 |.str x=>.str x
 |_=>.none
def plV(v:V):Prop:=(∃i,v=.int i)\/∃x,v=.str x/\i6 x=ai
def Kn(e:List V):PyData:=.tuple (e.map VT)
mutual
def rwD:Rw->PyData
 |.take sh e sl=>.tuple [.str "take",.str sh,Kn e,.str sl]
 |.give sh e f=>.tuple [.str "give",.str sh,Kn e,Kn f]
 |.lt sl e=>.tuple [.str "let",.str sl,Kn e]
 |.say e=>.tuple [.str "say",Kn e]
 |.off e=>.tuple [.str "off",Kn e]
 |.iff e a b=>.tuple [.str "if",Kn e,.list (zlE a),.list (zlE b)]
def zlE:Rws->List PyData
 |.nil=>[]
 |.cons r rs=>rwD r::zlE rs
end
def tmP(e:List V):Prop:=∀v∈e,plV v
mutual
def zmZ:Rw->Prop
 |.take sh e sl=>i6 sh=ai/\tmP e/\i6 sl=ai
 |.give sh e f=>i6 sh=ai/\tmP e/\tmP f
 |.lt sl e=>i6 sl=ai/\tmP e
 |.say e=>tmP e
 |.off e=>tmP e
 |.iff e a b=>tmP e/\zib a/\zib b
def zib:Rws->Prop
 |.nil=>True
 |.cons r rs=>zmZ r/\zib rs
end
section
variable {K:bo}{H:Hp}{F:L->Prop}
end
def Rws.snoc:Rws->Rw->Rws
 |.nil,x=>.cons x .nil
 |.cons r rs,x=>.cons r (rs.snoc x)
def Rws.app:Rws->Rws->Rws
 |.nil,x=>x
 |.cons r rs,x=>.cons r (rs.app x)
theorem Paired.snocP{d c:Type}{F:d->c->Prop}{x:d}{y:c}:∀ {a:List d} {b:List c},Paired F a b->F x y->Paired F (a++[x]) (b++[y])
 |_,_,.nil,h=>.cons h .nil
 |_,_,.cons a r,h=>.cons a (Paired.snocP r h)
theorem Paired.getP{c d:Type}{F:c->d->Prop}{a:List c}{b:List d}{i:Nat}{x:c}(h:Paired F a b)(e:a[i]?=U x):∃y,b[i]?=U y/\F x y:=by
 have f:=(bE.mp e).1;have l:=cT h;exact⟨b[i],bj (),jv h e (bj ())⟩
end L2
namespace L2
open PySem PySem.Spec PyProof.Rows
abbrev wu:RM:=λx c H Q=>∃a b,x=.str a/\c=[.str b]/\(b.length==0)=ag/\a.length<=100000/\(cP a b).length<=100000/\∀l,H l=ah->Q (.ref l) (upd H l (.lst ((cP a b).map V.str)))
theorem Wc:∀(l:List (Str×Tok)),aQ ((l.map (·.1)).map V.str) (strValues l)
 |[]=>.nil
 |p::r=>.cons ⟨p.2,Y⟩ (Wc r)
section
variable {X:Cx}
theorem We:MtM X "str.split" wu:=by
 intro r s k H x w v y Q I m n h;obtain⟨a,b,rfl,rfl,i,B,A,q⟩:=h;obtain⟨t,rfl⟩:=m;obtain⟨u,rfl,t',rfl⟩:=xA n;have z:Bb=16777216:=dq;have d:∀(l:List (Str×Tok)) (f c:Nat),l.map (·.1)=cP a b->EP X r k Q (.ref s.heap.objs.size) { s with heap:=s.heap.push { cls:=.type "list",data:=.seq (strValues l).toArray c },toks:=f }:=λl f c e=>by
  have p:H s.heap.objs.size=ah:=I.hok.fresh (br _);have g:=Wc l;rw[e] at g;refine⟨.ref s.heap.objs.size,_,I.laid (a:=s.heap.objs.size) (o:=.lst ((cP a b).map V.str)) (t':=f) (λb u e=>bc _ e) (br _) ⟨by rw[bi];lia,strValues l,c,g,bp _ Y⟩,Y,q _ p⟩
 cases h1:(decide (a.length<b.length) || decide (rC a<rC b))
 .cases hf:(dX a b 0 a.length (a.length+1)).isEmpty
  .have j:cP a b=Builtin.Str.partsBetween a (dX a b 0 a.length (a.length+1)) b.length:=(am (ne_true_of_eq_false h1)).trans (am (ne_true_of_eq_false hf));refine fO eQ (iq _ _ _) nZ (nF _ _) (meets_str_split_sep a b t t' h1 i hf () (by rw[<-j];lia)) ?_;rw[strsFrom_eq];exact d (numbered s.toks _) _ _ ((numbered_texts _ _).trans j.symm)
  .exact fO eQ (iq _ _ _) nZ (nF _ _) (meets_str_split_not_found a b t t' h1 i hf) (d [(a,t)] _ _ ((am (ne_true_of_eq_false h1)).trans (ao hf)).symm)
 .exact fO eQ (iq _ _ _) nZ (nF _ _) (meets_str_split_cannot_occur a b t t' h1) (d [(a,t)] _ _ (ao h1).symm)
end
def EL(e b p:L)(k:Nat)(h:ax):Prop:=(∃a,IsEnum h e b (k:Int) a)/\h.IsListIter b p k
def zid(K:bo)(p:L)(a:List V):It:=⟨λi H=>i<a.length/\aP K H p a,λi H x b=>∃T u,x=.ref T/\H T=ah/\b=upd H T (.tup [.int i,u])/\a[i]?=U u,λi H=>a.length<=i/\aP K H p a⟩
theorem zeB{P:ap}{w:au}{K:bo}{y:List ay}{x1}{M:Pos}{e it p:L}{n:List V}(t:e≠it) :
  Qz P w K (.Tuple y x1 M) (zid K p n) [e,it] e (EL e it p) where
 mem:=by simp
 obj:=λk h l c d=>by
  obtain⟨⟨g,j⟩,⟨r,f,A,di⟩⟩:=l;simp only[bJ,dE,or_false] at d;rcases d with rfl|rfl
  .exact⟨_,j,λv z=>by cases z⟩
  .exact⟨_,f,λv z=>by rw[di] at z;cases z⟩
 keep:=λk h h' l kk=>by
  obtain⟨⟨g,j⟩,⟨r,f,A⟩⟩:=l;exact⟨⟨g,kk e (by simp) _ j⟩,⟨r,kk it (by simp) _ f,A⟩⟩
 item:=by
  intro X T O hK d k C s D H E I B l Q;subst T O hK;obtain⟨q,h1⟩:=Q;obtain⟨us,J,N,_⟩:=I.list h1;obtain⟨u,hu,ru⟩:=J.get (i:=k) (x:=n[k]) (bj q);have g:∀c∈[e,it],c≠s.heap.objs.size:=λc d=>by
   obtain⟨⟨g,j⟩,⟨r,f,A⟩⟩:=l;simp only[bJ,dE,or_false] at d;rcases d with rfl|rfl
   .exact bV (bG j)
   .exact bV (bG f)
  obtain⟨⟨o0,j⟩,f⟩:=l;refine wpAny_pyNext_enum_item j f N.isList (x:=u) (by simpa using hu) t λh e8 i5 t5 sz k5=>?_;have I6:aM X C D (upd H s.heap.objs.size (.tup [.int k,n[k]])) { s with heap:=s.heap.push { cls:=.type "tuple",data:=.seq #[.int k s.toks,u] },toks:=s.toks+1 } :=
   I.laid (a:=s.heap.objs.size) (o:=.tup [.int k,n[k]]) (t':=s.toks+1) (λb u e=>bc _ e) (br _) ⟨by show 2<=Bb;decide,[.int k s.toks,u],.cons ⟨_,Y⟩ (.cons ru .nil),⟨_,bp _ Y,Y,_,Y⟩⟩
  have m:∀c∈[e,it],upd H s.heap.objs.size (HO.tup [.int k,n[k]]) c=ah:=λc d=>by rw[zm (g c d)];exact(B c d).1
  have fz:∀c∈[e,it],k7 X C (upd H s.heap.objs.size (HO.tup [.int k,n[k]])) c:=λc d=>⟨m c d,(B c d).2⟩;refine⟨.ref s.heap.objs.size,Y,nq e8 λh2 z9 G=>?_⟩;have up:∀c o,c≠e->h.get? c=U o->h2.get? c=U o:=λc o d e=>by
   rw[show h2.get? c=h.get? c from G.2 c d];exact e
  have I7:aM X C D (upd H s.heap.objs.size (.tup [.int k,n[k]])) { s with heap:=h2,toks:=s.toks+1 }:=I6.turnedL (s:={ s with heap:=s.heap.push { cls:=.type "tuple",data:=.seq #[.int k s.toks,u] },toks:=s.toks+1 }) (t':=s.toks+1) (ch:=[e,it]) (λc o d e=>by
   simp only[bJ,dE,or_false,not_or] at d;refine up c o d.1 ?_;rcases mJ (show (s.heap.push { cls:=.type "tuple",data:=.seq #[.int k s.toks,u] }).get? c=U o from e) with ⟨rfl,rfl⟩|e
   .exact t5
   .exact k5 c o d.1 d.2 e) λc d=>fz c d
  refine⟨.ref s.heap.objs.size,_,I7,Y,⟨_,_,Y,I.hok.fresh (br _),Y,bj q⟩,?_,m⟩;obtain⟨r,f,A⟩:=i5;exact⟨⟨_,z9⟩,⟨r,up it _ (cK t) f,A⟩⟩
 done:=by
  intro X T O hK d k C s D H E I B l Q;subst T O hK;obtain⟨q,h1⟩:=Q;obtain⟨us,J,N,_⟩:=I.list h1;have al:=J.length;obtain⟨⟨o0,j⟩,f⟩:=l;refine wpAny_pyNext_enum_end (I.ok.hd d) j f N.isList (by simp;lia) λh hk=>⟨Y,I.turnedL (t':=s.toks) (ch:=[e,it]) (λc o d e=>?_) λc d=>B c d⟩;simp only[bJ,dE,or_false,not_or] at d;exact hk c o d.2 e
 self:=λ_ _ _ _ _ l h=>by
  obtain⟨⟨o0,j⟩,f⟩:=l;exact lZ j h
def zmA(K:bo)(e:TA):TI:=λc H R=>e c H λd b=>∃p a,d=[.ref p]/\aP K b p a/\R (zid K p a) b
section
variable {X:Cx}
theorem zjV{f:List ay}{x1}{v:Pos}{g:ay}{m:TA}{p b:Pos}(E:Gl X "enumerate")(D:X.mg "enumerate"=ah)(J:PA X [g] m)(G:Be [g] X.env=(ag,eval g X.env)::Be [] X.env:=by rfl)(l:(backTo b (Be [] X.env)).any (·.1)=ag:=by rfl) :
  PI X (.Tuple f x1 v) (.Call (.Name "enumerate" p) [g] [] b) (zmA X.K m):=by
 intro O s t H R I h;refine Call_ (Zo I E D X8 (dQ (aY (J b O s t H _ I h) ?_) G l));rintro us j ⟨vs,Q,i,o,z⟩;obtain⟨a,T,e,M,q⟩:=z;subst e;obtain⟨u1,rfl,w⟩:=xA o;cases w;obtain⟨u,o,A,_⟩:=i.list M;refine call_enumerate_list A.isList λN r C _ k=>?_;refine lZ (s:={ j with heap:=N }) r ?_;generalize hn:j.heap.objs.size=n at *
 have B:∀ {x y:Nat},x≠y->(show L from x)≠(show L from y):=λh=>h;refine⟨_,_,_,_,Q,Y,i.kept (t':=j.toks) k,zeB (e:=n+1) (it:=n) (B ()),⟨⟨_,r⟩,C⟩,λc d=>?_,q⟩;simp only[bJ,dE,or_false] at d;have d:n<=c:=by rcases d with rfl|rfl <;> first|exact gz _ _|exact br _
 exact i.fpOk (by rw[hn];exact d) (i.hok.fresh (by rw[hn];exact d))
end
section
variable {σ:St}{H:Hp}{nx:St->Hp->Prop}{B:V->St->Hp->(St->Hp->Prop)->Prop}
theorem zeC{K:bo}(a:List V)(Pv:Nat->St->Hp->Prop)(l:Pv 0 σ H)(e:∀i σ H,Pv i σ H->aP K H p a) (h:∀i u T σ H,a[i]?=U u->H T=ah->Pv i σ H->B (.ref T) σ (upd H T (.tup [.int i,u])) (Pv (i+1))) (j:∀σ H,Pv a.length σ H->nx σ H) :
  ∃W:Nat->Nat->St->Hp->Prop,(∃m,W 0 m σ H)/\∀i m σ H,W i m σ H->((zid K p a).stop i H/\nx σ H)\/((zid K p a).go i H/\∃N:St->Hp->Prop,(∀b c,N b c->∃d,d<m/\W (i+1) d b c)/\∀x c,(zid K p a).yld i H x c->B x σ c N):=by
 refine⟨λi m σ H=>m=a.length-i/\i<=a.length/\Pv i σ H,⟨a.length,by simp,bU _,l⟩,?_⟩;rintro i m σ H ⟨rfl,n,pv⟩;by_cases hlt:i<a.length
 .refine .inr ⟨⟨hlt,e i σ H pv⟩,Pv (i+1),λb c f=>⟨a.length-(i+1),(),Y,hlt,f⟩,?_⟩;rintro x c ⟨T,u,rfl,k,rfl,g⟩;exact h i u T σ H g k pv
 .obtain rfl:i=a.length:=by lia
  exact .inl ⟨⟨br _,e _ σ H pv⟩,j σ H pv⟩
end
theorem zie{c:Nat}:∀ {a b r s:List Nat},c ∉ a->c ∉ b->a++c::r=b++c::s->a=b/\r=s
 |[],[],r,s,_,_,h=>by simpa using h
 |[],y::b,r,s,_,hb,h=>by
  simp only[cp,cf,bx] at h;exact absurd h.1 (λz=>hb (by rw[z];exact bK))
 |x::a,[],r,s,ha,_,h=>by
  simp only[cp,cf,bx] at h;exact absurd h.1.symm (λz=>ha (by rw[z];exact bK))
 |x::a,y::b,r,s,ha,hb,h=>by
  simp only[cf,bx] at h;obtain⟨e,d⟩:=zie (λz=>ha (bF _ z)) (λz=>hb (bF _ z)) h.2;exact⟨by rw[h.1,e],d⟩
theorem zaT :cX sep (x::y::r)=x++sep++cX sep (y::r):=rfl
theorem xQ :(cX ⟨#[c]⟩ (x::y::r)).cps.toList=x.cps.toList++c::(cX ⟨#[c]⟩ (y::r)).cps.toList:=by
 rw[zaT,jP,jP,cN];rfl
theorem zdc{c:Nat}:∀ {a b:List Str},a≠[]->b≠[]->(∀p∈a,c ∉ p.cps.toList)->(∀p∈b,c ∉ p.cps.toList)->cX ⟨#[c]⟩ a=cX ⟨#[c]⟩ b->a=b
 |[],_,h,_,_,_,_=>absurd Y h
 |_,[],_,h,_,_,_=>absurd Y h
 |[x],[y],_,_,_,_,e=>by
  have e:x=y:=e;rw[e]
 |[x],y::z::s,_,_,ha,_,e=>by
  have d:(cX ⟨#[c]⟩ _).cps.toList=(cX ⟨#[c]⟩ _).cps.toList:=congrArg (λw:Str=>w.cps.toList) e;rw[xQ] at d;have f:x.cps.toList=y.cps.toList++c::(cX ⟨#[c]⟩ (z::s)).cps.toList:=d;exact absurd (by rw[f];simp) (ha x bK)
 |x::z::r,[y],_,_,_,hb,e=>by
  have d:(cX ⟨#[c]⟩ _).cps.toList=(cX ⟨#[c]⟩ _).cps.toList:=congrArg (λw:Str=>w.cps.toList) e;rw[xQ] at d;have f:x.cps.toList++c::(cX ⟨#[c]⟩ (z::r)).cps.toList=y.cps.toList:=d;exact absurd (by rw[<-f];simp) (hb y bK)
 |x::z::r,y::w::s,_,_,ha,hb,e=>by
  have d:(cX ⟨#[c]⟩ _).cps.toList=(cX ⟨#[c]⟩ _).cps.toList:=congrArg (λw:Str=>w.cps.toList) e;rw[xQ,xQ] at d;obtain⟨f,i⟩:=zie (ha x bK) (hb y bK) d;rw[vA f,zdc (a:=z::r) (b:=w::s) (by simp) (by simp) (λp g=>ha p (bF _ g)) (λp g=>hb p (bF _ g)) (vA i)]
theorem zif(x y:Str):cP x y≠[]:=by
 unfold cP;split
 .simp
 .split
  .simp
  .rw[StrLaws.partsBetween_eq];obtain⟨p,r,e⟩:=StrLaws.partsFrom_ne x y.length 0 (dX x y 0 x.length (x.length+1));rw[e];simp
theorem Xp(h:ws≠[])(a:∀p∈ws,c ∉ p.cps.toList):cP (cX ⟨#[c]⟩ ws) ⟨#[c]⟩=ws:=
 zdc (zif _ _) h (rS _ c) a (lE _ _)
theorem Wf(c:Str)(ls:List Str):jt c ls=cX c ls:=by
 match ls with
 |[]=>exact pM c []
 |[p]=>rfl
 |a::b::r=>exact pM c (a::b::r)
section
variable {prog:ap}{w:au}{A:aq}{E:ae->af->Prop}{s:af}
theorem zdd{l:L}{items:Array ae}{n:Nat}{k:Int}{t:Tok}{v:ae}{Q:Unit->af->Prop}(c:s.heap.get? l=U { cls:=.type "list",data:=.seq items n }) (e:k<0) (m:-(items.size:Int)<=k) (a:-(2^63)<=k) (g:Q PUnit.unit { s with heap:=s.heap.update l (fm (·.setIfInBounds (k+items.size).toNat v)) }) :
  Bf (Bg prog w) A (setItem (.ref l) (.int k t) v) Q E s:=by
 have d:s.heap.IsList l items:=⟨_,c,Y,n,Y⟩;unfold setItem
 try with_reducible refine dh ?_
 first|refine ba (bf ?_)|skip
 refine ba (wpAny_sequenceKey d.typeIs () ?_);refine ba (cC (name:=bb "__setitem__") d.typeIs l8
  (cH l8 d.typeIs entry_list_setitem ?_ (args_list_setitem _ _ _)))
 show Bf _ _ (mY (.int k t) >>= _) _ _ s;refine ba (oE (fitsIndex_neg e a) ?_);clear a;have b:=sH e m;have h:items[(k+items.size).toNat]?=U (items[(k+items.size).toNat]'()):=cG ();obtain⟨j,rfl⟩:∃j:Nat,k=tu j:=by
  cases k with
  |ofNat n=>exact absurd e (Int.not_lt.mpr (Int.ofNat_nonneg n))
  |negSucc n=>exact⟨n,Y⟩
 show Bf _ _ ((lO (.ref l) >>= λf=>pure ((seqIndex? (tu j) f.size).bind λi=>f[i]?.map (i,·))) >>= _) _ _ s;refine ba (ba ?_);show Bf _ _ (seqItems? (.ref l) >>= _) _ _ s;refine ba (nK c Y (bf (bf ?_)));rw[b];simp only[Option.bind_some,h,pz];refine ba (wpAny_setSeqItemAt c Y ?_)
 first
  |exact ba (bf (bf ⟨.none,rfl,bf g⟩))
  |exact bf ⟨.none,rfl,bf g⟩
theorem zde{l:L}{items:Array ae}{n j:Nat}{k:Int}{t:Tok}{v:ae}{Q:Unit->af->Prop}(e:s.heap.get? l=U { cls:=.type "list",data:=.seq items n }) (h:0<=k) (a:k<2^63) (b:k.toNat=j) (i:j<items.size) (g:Q PUnit.unit { s with heap:=s.heap.update l (fm (·.setIfInBounds j v)) }) :
  Bf (Bg prog w) A (setItem (.ref l) (.int k t) v) Q E s:=by
 have f:s.heap.IsList l items:=⟨_,e,Y,n,Y⟩;unfold setItem
 try with_reducible refine dh ?_
 first|refine ba (bf ?_)|skip
 refine ba (wpAny_sequenceKey f.typeIs () ?_);refine ba (cC (name:=bb "__setitem__") f.typeIs l8
  (cH l8 f.typeIs entry_list_setitem ?_ (args_list_setitem _ _ _)))
 show Bf _ _ (mY (.int k t) >>= _) _ _ s;refine ba (oE (fitsIndex_of h a) ?_);clear a;obtain⟨c,rfl⟩:=oF h;have b:c=j:=b;subst b;have d:items[c]?=U items[c]:=cG i;show Bf _ _ ((seqItemAt l c >>= λr=>pure (r.map (c,·))) >>= _) _ _ s;refine ba (ba (wpAny_seqItemAt e Y (bf ?_)));rw[d];refine ba (wpAny_setSeqItemAt e Y ?_)
 first
  |exact ba (bf (bf ⟨.none,rfl,bf g⟩))
  |exact bf ⟨.none,rfl,bf g⟩
end
def zig(g e f:TE):TS:=λD b H=>f b H λv k=>g b k λx h=>e b h λy d=>∃a c i j,x=.ref a/\y=.int i/\d a=U (.lst c)/\ixN c.length i=U j/\(-1000<=i/\i<=1000)/\D.nx b (upd d a (.lst (c.set j v)))
theorem zdf{v:V}{u:ae}(r:aU v u):∀ {b:List V} {c:List ae},aQ b c->∀j:Nat,aQ (b.set j v) (c.set j u)
 |_,_,.nil,_=>.nil
 |_,_,.cons _ t,0=>.cons r t
 |_,_,.cons a t,j+1=>.cons a (zdf r t j)
section
variable {X:Cx}{o i value:ay}{pos pos':Pos}{td ty tv:TE}
theorem zjW(T:PE X o td)(hi:PE X i ty)(O:PE X value tv)(Q:swapsWith value (U (.Subscript o i pos')) pos.line X.env=pure ag) :
  PS X (.Assign [.Subscript o i pos'] value pos) (zig td ty tv):=by
 intro f s d H D I h;refine oY (aY (O f s d H _ I h) λr A ⟨v,H1,I1,E,N⟩=>aY (T f A d H1 _ I1 N) λu w ⟨x,H2,I2,C,M⟩=>aY (hi f w d H2 _ I2 M) ?_) Q;rintro iv g ⟨y,H3,q,B,a,xs,k,j,ex,ey,p,b,hk,J⟩;subst ex ey;obtain rfl:u=bH a:=C;obtain⟨t,rfl⟩:=B;obtain⟨z,l,n,G,m,e⟩:=q.lstM p;have c:SP X f D .next { g with heap:=g.heap.update a (fm (·.setIfInBounds j r)) }:=⟨d,_,q.lset (its':=l.set j r) (t':=g.toks) p e (by simp) (zdf E G _) (by rw[List.length_set];exact z),J⟩
 unfold ixN at b;by_cases h0:0<=k
 .rw[ao h0] at b;split at b
  .rename_i h1;cases b;exact zde e h0 () Y (by rw[bM,<-m];lia) c
  .cases b
 .rw[am h0] at b;split at b
  .rename_i h1;cases b;refine zdd e () (by rw[bM,<-m];exact h1) () ?_;rw[bM,<-m];exact c
  .cases b
end
section
variable {X:Cx}{st:ar}{hs:List ExceptHandler}{pos:Pos}{tb:TS}
theorem zbH(c:PS X.nox st tb):PS X.nox (.Try [st] (h::hs) [] [] pos) tb:=by
 intro d s a H D I h;refine iN (fu (cU (c d s a H D I h) (λf b q=>?_) λe b q=>q.elim));cases f with
 |next=>exact dF (dF q)
 |ret v=>exact q
 |brk=>exact q
 |cont=>exact q
end
section
variable {X:Cx}
abbrev Xq(K:bo):R2:=λx y H Q=>∃a b c,x=.ref a/\y=.ref b/\aP K H a c/\aP K H b []/\Q (.bl (!decide (c=[]))) H
theorem Wg(p:X.A.units+64<cLine):ux X (Bi .NotEq) (Xq X.K):=by
 intro t s k H x y v u Q I f d h;obtain⟨a,b,c,rfl,rfl,i,g,q⟩:=h;by_cases e:c=[]
 .subst e;exact zlv p t s k H _ _ v u Q I f d ⟨a,b,[],[],Y,Y,i,g,⟨Y,Y,Y⟩,q⟩
 .cases f;cases d;obtain⟨A,m,o,_⟩:=I.list i;obtain⟨w,l,n,_⟩:=I.list g;cases l;have j:=m.length;have r:c.length≠0:=λz=>e (c8 z);rw[Bk e] at q;exact PySem.SeqAt.RcNeAt.lists_lengths o.isList n.isList (by simp;intro z;rw[z] at j;exact r j) () X.prog X.w X.xe _ ⟨.bl ai,H,I,Y,q⟩
end
mutual
inductive zih (H:Hp):V->PyData->Prop
 |int (i:Int):zih H (.int i) (.int i)
 |str (x:Str):zih H (.str x) (.str x)
 |lst {a:L} {xs:List V} {ds:List PyData}:H a=U (.lst xs)->zdg H xs ds->zih H (.ref a) (.list ds)
 |tup {a:L} {xs:List V} {ds:List PyData}:H a=U (.tup xs)->zdg H xs ds->zih H (.ref a) (.tuple ds)
inductive zdg (H:Hp):List V->List PyData->Prop
 |nil:zdg H [] []
 |cons {x:V} {d:PyData} {xs:List V} {ds:List PyData}:zih H x d->zdg H xs ds->zdg H (x::xs) (d::ds)
end
end L2
namespace L2
open PySem
abbrev jS:RM:=zbq
end L2
namespace L2
open PySem PySem.Spec PyProof.Rows
abbrev zii(K:bo):RC:=λc H Q=>∃a,∃b:List Int,c=[.ref a]/\aP K H a (b.map V.int)/\Q (.int b.sum) H
section
variable {X:Cx}
theorem zgp(l:X.calm=ai):xV X (.builtin "sum") (zii X.K):=by
 intro A s o H t v Q I r h;obtain⟨a,ns,rfl,j,q⟩:=h;obtain⟨u,rfl,i⟩:=xA r;cases i;obtain⟨b,g,p,y⟩:=I.list j;have f:IntsAre b ns:=zel g;obtain⟨c,e⟩:=f.allInts.items;have d:s.heap.IsList a (intItems c):=e ▸ p.isList;refine sum_intListG (I.ok.hd l) d λz w x k=>?_;have n:ns=c.toList.map (·.1):=by
  rw[<-nums_intItems,<-e];exact(show numsOf b.toArray.toList=ns from f.numsOf).symm
 have m:preSum (numAt c) c.size=ns.sum:=by
  rw[preSum_eq,dM (by simp),n]
 rw[m];exact⟨.int ns.sum,H,I.kept k,⟨_,Y⟩,q⟩
end
section
variable {X:Cx}
open Classical in
end
def Cb(i:Int):Prop:=mU i<=1048576
theorem Cb.of{i:Int}(h:i.natAbs<2^64):Cb i:=cg (intBits_le_iff.mpr h) ()
open Att PySem.W PySem.Calls in
theorem zij{l:rQ}{n k:Nat}{q:ap}{g:List Str}{XP:(Str->Option ae)->ax->Prop}{YP:au->ax->Prop}{d:DefRec}{K:Params->bo}{CX:au->CXT}{sp:au->Sp}{x:Str}
  (hn:l.most=U n) (I:n<=Bb) (M:d.params.defaults=[]) (hr:hZ k callerA) (hY:∀(w:au) (h:ax),YP w h->(K w.params).In h) (F:∀(w:au) (p:Str->Option ae) (C:L) (h:ax),(K w.params).In h->h.Ns Bd p->p d.name=U (.ref C) ->
   ∃Q:Bc,(∀(s:af) (u:ae),BindsTo s Q ⟨[u],[]⟩ [(x,u)]) /\
    ∀b:ax,(K w.params).In b->b.Ns Bd p->aZ l.prog w (K w.params) p b (CX w) k C Q [x] (sp w)) (E:∀(w:au) (H:Hp) (a:L) (m:List Int),m.length<=n->(∀i∈m,Cb i)->zeo H->aP (K w.params) H a (m.map V.int)->sp w [.ref a] H (λv _=>v=.bl ai) λ_ _ _=>False) (O:∀(w:au) (H:Hp) (s:af) (e:ae) (B:af),CX w [] H s (λ_ _ _=>False) e B->False) :
  tO q g XP YP l.row.toRowW d [] (λf T=>nV f T):=by
 intro w al t p mb G Bl C o pm cd aB dV kV ho hd aA hD J hg an aa as y A av D aw;obtain rfl:dV=.none:=Dflts.none hD M;obtain rfl:kV=.none:=Dflts.noKw hD;obtain⟨a,T,m,rfl,rfl,z,j,c⟩:=zaG hn y D;have hb:∀i∈m,Cb i:=λi hi=>intBits_le_of_layable (layable_of_mem (lay0_int (layableW_item (layableW_arg A _ bK) _ (dz.mpr ⟨i,hi,Y⟩))) bK);have KX:=hY w _ Bl;obtain⟨Q,N,hF⟩:=F w p C _ KX G.T.g J;refine enter_call (eu (zcP KX G.T.g G.T.b G.T.builtins G.T.nolimit hg z j (cg c I) hr hF N (λH hO hS=>E w H a m c hb hO hS) λH e B=>O w H t e B) λr B hq=>?_);obtain⟨rfl,h2,h3,h4⟩:=hq;exact⟨.inl ⟨.bool ai,.bool ai,[],Y,λ_=>rfl,.bool ai,zaH l _,λ_=>⟨sg,λ_ hm=>(nomatch hm)⟩⟩,h2,h3,h4⟩
theorem walk_ofXB{l:rQ}{n k:Nat}{q:ap}{c:List Str}{M:(Str->Option ae)->ax->Prop}{t:au->ax->Prop}{d:DefRec}{K:Params->bo}{sp:bo->Sp}{x:Str}
  (C:l.most=U n) (m:n<=Bb) (o:d.params.defaults=[]) (B:hZ k callerA) (E:∀(w:au) (h:ax),t w h->(K w.params).In h) (F:∀(w:au) (g:Str->Option ae) (r:L) (h:ax),(K w.params).In h->h.Ns Bd g->g d.name=U (.ref r) ->
   ∃p:Bc,(∀(s:af) (u:ae),BindsTo s p ⟨[u],[]⟩ [(x,u)]) /\
    ∀b:ax,(K w.params).In b->b.Ns Bd g->aZ l.prog w (K w.params) g b (uw l.prog w) k r p [x] (sp (K w.params))) (j:∀(K:bo) (H:Hp) (a:L) (e:List Int),e.length<=n->(∀i∈e,Cb i)->zeo H->aP K H a (e.map V.int)->sp K [.ref a] H (λv _=>v=.bl ai) λ_ _ _=>False) :
  tO q c M t l.row.toRowW d [] (λf A=>nV f A) :=
 zij (K:=K) (CX:=λw=>uw l.prog w) (sp:=λw=>sp (K w.params)) C m o B E F (λw H a e J D I G=>j (K w.params) H a e J D I G) λ_ _ _ _ _ z=>by
  obtain⟨_,_,_,_,_,_,_,_,_,_,y⟩:=z;exact y
section
variable {K:Type} [DecidableEq K]
def yT(a:List (K×L×ae))(k:K):List (K×L×ae):=a.filter λx=>decide (x.1≠k)
end
theorem zaU{b c:Type}(f:b->c):∀(l:List b) (j:Nat),(l.map f).eraseIdx j=(l.eraseIdx j).map f
 |[],_=>rfl
 |_::_,0=>rfl
 |a::l,j+1=>by rw[bN,lA,lA,bN,zaU f l j]
abbrev VU:RM:=λx b H Q=>∃(l:L) (a:List V) (k:Nat) (y:V),x=.ref l/\b=[.int k,y]/\H l=U (.lst a)/\k<=a.length/\a.length<1000000/\Q .non (upd H l (.lst (a.take k++y::a.drop k)))
abbrev VV:RM:=λx b H Q=>∃(l:L) (a:List Int) (i:Int),x=.ref l/\b=[.int i]/\H l=U (.lst (a.map V.int))/\i∈a/\Q .non (upd H l (.lst ((a.erase i).map V.int)))
theorem aQ.takeV:∀(k:Nat) {a:List V} {b:List ae},aQ a b->aQ (a.take k) (b.take k)
 |0,_,_,_=>by rw[List.take_zero,List.take_zero];exact .nil
 |_+1,_,_,.nil=>.nil
 |k+1,_,_,.cons h r=>.cons h (aQ.takeV k r)
theorem aQ.dropV:∀(k:Nat) {a:List V} {b:List ae},aQ a b->aQ (a.drop k) (b.drop k)
 |0,_,_,h=>h
 |_+1,_,_,.nil=>.nil
 |k+1,_,_,.cons _ r=>aQ.dropV k r
section
variable {X:Cx}
theorem zgq:MtM X "list.insert" VU:=by
 intro N s w H x B v C Q I f g h;obtain⟨l,A,k,y,rfl,rfl,d,G,D,q⟩:=h;cases f;cases g with
 |cons r1 rr =>
  obtain⟨u,rfl,j⟩:=(show aQ [y] _ from rr).one;obtain⟨t,rfl⟩:=r1;obtain⟨z,a,n,r,E,e⟩:=I.lstM d;have J:(1000000:Nat)<Bb:=by rw[dq];decide
  obtain⟨i,c⟩:∃i:Int,i=k:=⟨_,Y⟩;rw[<-c];have p:¬ (!Builtin.List.listFitsIndex i)=ai:=by rw[fitsIndex_both () ()];exact bT
  have m:a.toArray.size<=Bb:=by rw[bM];lia
  have M:=AutoSeq1.list_insert_list_int_val_1 l a.toArray n i t u p m;refine fO F.slot_list_insert ⟨_,e,Y⟩ F.entry_list_insert (F.args_list_insert_3 _ _ _) M ⟨e,?_⟩;refine⟨.non,_,I.lset (its':=a.take k++u::a.drop k) d e ?_ ((r.takeV k).append (.cons j (r.dropV k))) ?_,Y,q⟩
  .have b:k<=a.length:=by lia
   subst c;have o:¬ ((k:Int)<0):=by lia
   simp[mX b,o];rw[dM (by rw[fw];lia)]
  .rw[bn,bR,c7,fw];lia
theorem zfy:∀ {b:List Int} {a:List ae},aQ (b.map V.int) a->∀(m:Nat) (v:ae),a[m]?=U v->∃i t,b[m]?=U i/\v=.int i t
 |[],_,.nil,m,v,h=>by simp at h
 |i::b,_,.cons h r,0,v,e=>by
  simp only[bd,bh] at e;subst e;obtain⟨t,rfl⟩:=h;exact⟨i,t,Y,Y⟩
 |i::b,_,.cons h r,m+1,v,e=>by simpa using zfy r m v (by simpa using e)
def isI(k:Int):ae->Bool
 |.int a _=>a==k
 |_=>ag
theorem zgr:MtM X "list.remove" VV:=by
 intro aa s M H x N v O Q I w A h;obtain⟨l,a,i,rfl,rfl,j,G,q⟩:=h;cases w;obtain⟨u,rfl,B⟩:=A.one;obtain⟨t,rfl⟩:=B;obtain⟨z,b,n,r,D,e⟩:=I.lstM j;rw[bi] at D z;have E:a.idxOf i<a.length:=n0.mpr G;have gt:∀m (c:m<b.toArray.size),∃(d:m<a.length) (t':Tok),b.toArray[m]=.int a[m] t':=λm c=>by
  rw[bM] at c;obtain⟨T,t',o,d⟩:=zfy r m b[m] (bj c);have k:m<a.length:=by lia
  rw[bj k] at o;refine⟨k,t',?_⟩;rw[cb o,<-d];simp
 refine fO F.slot_list_remove ⟨_,e,Y⟩ F.entry_list_remove (F.args_list_remove_2 _ _) (MeetsSeq.list_remove l b.toArray n (.int i t) (isI i) (λy C=>?_) (a.idxOf i) (by rw[bM];lia) ?_ (λm c g=>?_) (by rw[bM];lia)) ⟨e,?_⟩
 .obtain⟨m,c,rfl⟩:=pN.mp C;obtain⟨d,t',f⟩:=gt m c;rw[f];exact MeetsSeq.EqGives.int _ _ _ _
 .obtain⟨d,t',f⟩:=gt (a.idxOf i) (by rw[bM];lia);rw[f];show (a[a.idxOf i]==i)=ai;rw[rT E];exact beq_self_eq_true i
 .obtain⟨d,t',f⟩:=gt m c;rw[f];show (a[m]==i)=ag;exact pb (p:=λy=>y==i) (xs:=a) (i:=m) g
 .have J:a.erase i=a.eraseIdx (a.idxOf i):=List.erase_eq_eraseIdx_of_idxOf rfl;rw[J] at q;refine⟨.non,_,I.lset (its':=b.eraseIdx (a.idxOf i)) j e ?_ (by rw[<-zaU];exact r.eraseIdx _) ?_,Y,q⟩
  .show b.toArray.eraseIdxIfInBounds _=_;rw[lT]
  .rw[bi];have:=zaE a (a.idxOf i);lia
end
def zmB(H:Hp)(y:V)(a:List bv×V):Prop:=∃p,y=.ref p/\H p=U (.tup (a.1.map kV))
abbrev zik:RC:=λd H Q=>∃a c,d=[.ref a]/\H a=U (.dT c)/\∀l b,H l=ah->Paired (zmB H) b c->Q (.ref l) (upd H l (.lst b))
section
variable {X:Cx}
theorem VW{H:Hp}{es:Array DictEntry}:∀(b:List (List bv×V)) (a:List ae) (j:Nat),a.length=b.length->(∀i v,a[i]?=U v->∃e,es[j+i]?=U e/\v=e.key) ->
  (∀(i:Nat) (d:DictEntry) (kv:List bv×V),es[j+i]?=U d->b[i]?=U kv->∃p,d.key=.ref p/\H p=U (.tup (kv.1.map kV)))->∃c,aQ c a/\Paired (zmB H) c b
 |[],[],_,_,_,_=>⟨[],.nil,.nil⟩
 |[],v::a,_,hl,_,_=>by simp at hl
 |kv::b,[],_,hl,_,_=>by simp at hl
 |kv::b,v::a,j,hl,h1,h2=>by
  obtain⟨e,o,rfl⟩:=h1 0 v rfl;obtain⟨p,m,q⟩:=h2 0 e kv o rfl;obtain⟨c,k,h⟩:=VW (es:=es) b a (j+1) (by simpa using hl) (λi u l=>by rw[Nat.add_assoc,sK 1 i];exact h1 (i+1) u (by simpa using l)) (λi d f g n=>h2 (i+1) d f (by rw[<-Nat.add_assoc,lF];exact g) (by simpa using n));exact⟨.ref p::c,.cons m k,.cons ⟨p,Y,q⟩ h⟩
theorem Ko(G:X.calm=ai):xV X (.type "list") zik:=by
 intro aa s t H vs us Q I A h;obtain⟨a,aL,rfl,r,q⟩:=h;obtain⟨u,rfl,w⟩:=xA A;cases w;have E:X.A.handled=ah:=I.ok.hd G;obtain⟨z,B,_⟩:=zhm I.hok r;obtain⟨es,ep,x,b,j⟩:=zh9 I r;refine W.kdl_call (zbC (ep:=ep) (es:=es) B) E x (by rw[b];exact z) λO k d c g J m=>?_;obtain⟨f,y,l⟩:=VW (H:=H) (es:=es) aL d.toList 0 (by rw[dC,m.1,b]) (λi v D=>by
   rw[fU];obtain⟨e,N,M⟩:=m.2 i v (by rw[<-cQ];exact D);exact⟨e,N,M⟩) (λi en C n g=>by
   rw[fU] at n;obtain⟨p,g1,T,_⟩:=j i en C n g;exact⟨p,g1,T⟩)
 have I2:aM X aa t (upd H s.heap.objs.size (.lst f)) { s with heap:=O,toks:=k }:=I.laid (a:=s.heap.objs.size) (o:=.lst f) (t':=k) g (br _)
  ⟨by have:=cT l;lia,d.toList,c,y,by rw[Array.toArray_toList];exact J⟩
 exact⟨.ref s.heap.objs.size,_,I2,Y,q _ f (I.hok.fresh (br _)) l⟩
end
structure FunD(K:bo)(x qual:Str)(st:ar)(f:L)(fd:Bc):Prop where
 ex:∃(oc:ae) (od:Option L) (dV kV doc pm:ae) (an:Option L) (cdv ct:ae) (osl:Array (Option ae)),fd=rN x qual (YH st) (xP st) (zk st) dV kV doc pm an cdv ct/\K.lookup f=U ⟨oc,od,.func fd,osl⟩/\rO K cdv qual=ai
 kp:lh K (.ref f)=ai
section
variable {P:ap}{w:au}{K:bo}{mg:Str->Option ae}{base:ax}{x qual:Str}{st:ar}{f:L}{fd:Bc}{N ps:List Str}{k:Nat}{sp:Sp}
theorem FunD.ok1(F:FunD K x qual st f fd)(S:aJ N ps (zk st))(d:∀b H Q E,sp b H Q E->b.length=ps.length) (c:∀(cdv:ae) (A:aq) (a:List Env) (s:af) (H:Hp) (b:List V) (Q:VK) (E:XK),hZ k (A.deeper (envOfC qual (zk st) s.heap.objs.size f cdv))->sp b H Q E->∃t,PSs (wU (uw P w) P w K mg base N qual (zk st) f cdv A a s H E) (xP st) t/\t { nx:=λ_ j=>Q .non j,rt:=Q } (start N b) H):aZ P w K mg base (uw P w) (k+1) f fd ps sp:=by
 obtain⟨oc,od,dV,kV,doc,pm,an,cdv,ct,osl,rfl,h,g⟩:=F.ex;exact zkR h g S d λA a s H b Q E i e=>c cdv A a s H b Q E i e
theorem FunD.ok0(F:FunD K x qual st f fd)(S:aJ N ps (zk st))(g:∀d H Q E,sp d H Q E->d.length=ps.length) (e:∀(cdv:ae) (A:aq) (c:List Env) (s:af) (H:Hp) (d:List V) (Q:VK) (E:XK),hZ k (A.deeper (envOfC qual (zk st) s.heap.objs.size f cdv))->sp d H Q E->∃t,PSs (wU (uw P w) P w K mg base N qual (zk st) f cdv A c s H E).nox (xP st) t/\t { nx:=λ_ j=>Q .non j,rt:=Q } (start N d) H):aZ P w K mg base (uw P w) (k+1) f fd ps sp :=
 F.ok1 S g λcdv A c s H d Q E i h=>let ⟨t,a,b⟩:=e cdv A c s H d Q E i h;⟨t,a.nox,b⟩
theorem fun_mkD{j i:Option L}{d:Array (Option ae)}{g kV b e a h:ae}(l:K.lookup f=U ⟨oc,j,.func (rN x qual (YH st) (xP st) (zk st) g kV b e i a h),d⟩) (c:rO K a qual=ai) (k:lh K (.ref f)=ai):FunD K x qual st f (rN x qual (YH st) (xP st) (zk st) g kV b e i a h):=⟨⟨oc,j,g,kV,b,e,i,a,h,d,Y,l,c⟩,k⟩
end
def zkZ(K:bo)(e:EXK->TS)(h g:L)(d:TS):TS:=λD c H=>e (λb a f=>∃C,b=.ref C/\tR K (.ref C) [.ref h,.ref g]=U ai/\d D a f) D c H
theorem zil(x:Heap.FlyingW base l e cls a0 h)(o:Obj):Heap.FlyingW base l e cls a0 (h.push o):=by
 obtain⟨j,i,g,d,a,T,f,c,w,v,t,s,r,p,n,m,k⟩:=x;exact⟨λb u q=>bc _ (j b u q),i,g.of_keeps (λb u q _=>⟨u,bc _ q,Y⟩),d,a,T,f,c,bc _ w,v,t,s,r,p,bc _ n,m,k⟩
section
variable {X:Cx}{st b₀:ar}{suite:List ar}{tb:EXK->TS}{th:TS}{c1 c2:Str}{C1 C2:L}{np np2 hpos tpos pos:Pos}{x1:Nat}
theorem zjX(n:X.stack=X.env::X.outer/\X.env.frame=U X.env.locals)(t:X.ex=[])(hb:PSX X st tb)(aC:Gl X c1)(aA:X.mg c1=U (.ref C1))(aB:Gl X c2)(aw:X.mg c2=U (.ref C2)) (hs:∀e,PSs (X.sub e) (b₀::suite) th) (G:(c1==("__debug__":Str))=ag:=by lia) (E:(c2==("__debug__":Str))=ag:=by lia) :
  PS X (.Try [st] [.ExceptHandler (U (.Tuple [.Name c1 np,.Name c2 np2] x1 tpos)) ah (b₀::suite) hpos] [] [] pos) (zkZ X.K tb C1 C2 th):=by
 intro Q s σ H D I h;refine iN (fu (cU (hb Q s σ H D _ I h) (λf d q=>?_) λev d q=>?_))
 .cases f with
  |next=>exact dF (dF q)
  |ret v=>exact q
  |brk=>exact q
  |cont=>exact q
 obtain⟨e,cls,l,s0,H0,H1,rfl,I0,I1,od,xf,C,rfl,hx,av⟩:=q;obtain⟨oe,vs,a0,T,oT,ts,h1,h2,h3,h4,h5,h6,h7,h8,h9,aS,aR,aL,a2⟩:=xf;have fr:d.heap.FunFrames (fQ d.heap (uc X.stack++[e,T])) (X.env::X.outer):=by
  have q:=gy (as:=uc X.stack++[e,T]) I1.stack λa1 he a ha=>cR _ (fk.mpr ⟨a1,he,ha⟩);rw[n.1] at q ⊢;exact q
 have m:∀b∈[e,T],s0.heap.get? b=ah/\H1 b=ah:=λb z=>by
  have z':b=e\/b=T:=by simpa using z
  rcases z' with rfl|rfl
  .exact⟨h9,aR⟩
  .exact⟨aS,aL⟩
 have M:∀b∈[e,T],H1 b=ah/\X.s₀.heap.get? b=ah:=λb z=>⟨(m b z).2,va (I0.there0 t) (m b z).1⟩;have N:∀b∈[e,T],∀p∈X.pn++Q,p.1≠b:=λb z p hp q=>by
  have:=(I0.pin p hp).1;rw[q,(m b z).1] at this;cases this
 refine wpAny_looks_onW (base:=fQ d.heap (uc X.stack++[e,T])) (a0:=a0) (cls:=.ref C) (by rw[I1.ok.frames,n.1]) n.2
  ⟨λb o q=>iY _ q,eB _ (bP _ (by simp)),fr,oe,vs,T,oT,ts,h1,h2,h3,h4,eB _ (bP _ (by simp)),h5,h6,h7,h8⟩ λg4 w B=>?_
 refine wpAny_landsW w λx j A=>?_;have hB:∀ {g:ax},(fQ d.heap (uc X.stack++[e,T])).StaysIn g->∀b o,d.heap.get? b=U o->b ∉ uc X.stack->b ∉ [e,T]->g.get? b=U o :=
  λ{g} k b o q n1 n2=>k b o (ig _ q λz=>(cj.mp z).elim n1 n2)
 have I5:aM X Q l H1 { d with heap:=x }:=I1.land t M N (hB j.1) (B.trans A);refine iW (gW ?_) (by intro q;cases q);refine wpAny_Tuple_spliced (eK (xy (X:=X.sub e) (I5.toSub (e:=e)) aC aA (eK (xy (X:=X.sub e) (I5.toSub (e:=e)) aB aw (ik ⟨(by show 2<=Bb;decide),?_⟩) E)) G));have i:=zil j { cls:=.type "tuple",data:=.seq [bH C1,bH C2].toArray };have kp:∀b o,x.get? b=U o->(x.push { cls:=.type "tuple",data:=.seq [bH C1,bH C2].toArray }).get? b=U o:=λb o q=>bc _ q;have hp:(x.push { cls:=.type "tuple",data:=.seq [bH C1,bH C2].toArray }).get? x.objs.size=U { cls:=.type "tuple",data:=.seq [bH C1,bH C2].toArray }:=bp _ rfl;have K6:X.K.In (x.push { cls:=.type "tuple",data:=.seq [bH C1,bH C2].toArray }):=(I5.kept (t':=d.toks) kp).kIn;have al:iP (Bg X.prog X.w) (x.push { cls:=.type "tuple",data:=.seq [bH C1,bH C2].toArray }) (typeOf (.ref e)) (.ref C):=by
  obtain⟨o,p1,p2⟩:=i.there;exact p2 ▸ (mP p1).andThen .now
 refine(W.exm_tup2 K6 al hp hx).here ?_;refine lP (lands_againW i λg7 O an=>?_);have I7:aM X Q l H1 { d with heap:=g7 }:=I1.land t M N (hB O.1) (((B.trans A).trans (Heap.UpToSlots.of_keeps kp)).trans an);refine cU (hs e Q _ l H1 D I7.toSub av) (λf s9 q=>?_) λ_ _ z=>cx z;cases f with
 |next=>obtain⟨c,y,J,z⟩:=q;exact⟨c,y,aM.ofSub (J:=I) J,z⟩
 |brk=>obtain⟨c,y,J,z⟩:=q;exact⟨c,y,aM.ofSub (J:=I) J,z⟩
 |cont=>obtain⟨c,y,J,z⟩:=q;exact⟨c,y,aM.ofSub (J:=I) J,z⟩
 |ret u=>obtain⟨v,c,y,J,r,z⟩:=q;exact⟨v,c,y,aM.ofSub (J:=I) J,r,z⟩
end
section
variable {X:Cx}{CX:CXT}{k:Nat}{f C:L}{fd:Bc}{ps:List Str}{sp:Sp}{dvs:List V}{E:XK}{m:Str}{pos tV:Pos}{o:ay}{ta:TE}
theorem zgs{e:Sem Bool}(l:PE X o ta)(c:uu X.K C)(j:zcF X.K C m f)(F:aZ X.prog X.w X.K X.mg X.base CX k f fd ps sp)(i:hZ k X.A)(a:∃b,aQ dvs b/\mt X.K fd ps b)(g:wZ CX X E) (h:eval (.Call (.Attribute o m tV) [] [] pos) X.env=(do
   let d <-eval o X.env
   standAt tV.atName
   let (f,first) <-holding [d] (getMethod d m e)
   callWith pos f first (backTo pos (Be [] X.env)) (backToKw pos (keywordEach [] X.env))):=by rfl) :
  PE X (.Call (.Attribute o m tV) [] [] pos) (zF C m sp dvs E ta zj):=by
 obtain⟨b,n,a⟩:=a;exact zcG l c j F i a n g h
end
structure MkO(K:bo)(C:L):Prop where
 makes:sW K C=ai
 init:fE K (.ref C) "__init__"=U (U (.builtin "object.__init__"))
 kp:lh K (.ref C)=ai
def zeD(C:L):TE:=λ_ H Q=>∀x a,H x=ah->H a=ah->a≠x->Q (.ref x) (upd (upd H a (.own x)) x (.ins C a []))
section
variable {X:Cx}{C:L}{x:Str}{p pos:Pos}
theorem zgt{d:St}{H:Hp}{s:af}{Q:VK}(M:MkO X.K C)(I:aM X aa d H s)(h:∀x c,H x=ah->H c=ah->c≠x->Q (.ref x) (upd (upd H c (.own x)) x (.ins C c []))) :
  Bf (Bg X.prog X.w) X.A (call (.ref C) []) (EP X aa d Q) X.xe s:=by
 have f:=h (s.heap.objs.size+1) s.heap.objs.size (I.hok.fresh (eM _)) (I.hok.fresh (br _)) (bV (iL _));have j:=aM.made (C:=C) I;refine fN (zf7 I.kIn M.makes M.init (λa=>W.Looks.of_pure (W.oi_bind a)) ?_);have k:=W.makes_of (M:=Bg X.prog X.w) I.kIn M.makes;have i:iP (Bg X.prog X.w) ((s.heap.push eX).push (gv C s.heap.objs.size)) (typeOf (.ref (s.heap.objs.size+1))) (.ref C):=by
  have:=bp (s.heap.push eX) (o:=gv C s.heap.objs.size) rfl;rw[gA] at this;exact(mP this).andThen .now
 have g:iP (Bg X.prog X.w) ((s.heap.push eX).push (gv C s.heap.objs.size)) (isInstance (.ref (s.heap.objs.size+1)) (.type "object")) ai:=i.andThen (k.top.keeps λb o e=>bc (gv C s.heap.objs.size) (bc eX e));refine fD W.oi_plain W.entry_oi (W.check_slot (rest:=[]) (kw:=[]) W.oi_kind W.oi_split g (W.oi_args _) ?_);rw[W.oi_run];exact bf ⟨Y,V.ref (s.heap.objs.size+1),_,j,Y,f⟩
theorem zim(M:MkO X.K C)(c:Gl X x)(b:X.mg x=U (.ref C))(a:(x==("__debug__":Str))=ag:=by lia):PE X (.Call (.Name x p) [] [] pos) (zeD C):=by
 intro e s d H Q I h;refine eA (xy I c b ?_ a);exact rM I.kIn M.kp (zgt M I h)
end
abbrev zmC(K:bo):RC:=λc H Q=>∃(a:L) (b:List Bool),c=[.ref a]/\aP K H a (b.map V.bl)/\Q (.bl (b.any id)) H
section
variable {X:Cx}
theorem zgu(D:X.calm=ai):xV X (.builtin "any") (zmC X.K):=by
 intro aa s M H N O Q I r h;obtain⟨a,c,rfl,C,q⟩:=h;obtain⟨u,rfl,z⟩:=xA r;cases z;obtain⟨d,t,p,hz⟩:=I.list C;have m:=t.length;rw[bi] at m;have l:a≠s.heap.objs.size:=by
  obtain⟨o,n,e,_⟩:=p;exact bV (bG e)
 refine call_any_walk (ii p.isList ?_);refine⟨s.heap.objs.size,_,_,d.toArray.size,λi v=>d.toArray[i]?=U v,_,λi=>c.getD i ag,Y,tJ (A:=X.A.in1) (I.ok.hd D) _ a l d.toArray,?_,?_,λh' tk k=>?_⟩
 .exact⟨⟨_,bp _ Y,Y,Y⟩,p.isList.at λo e=>bc _ e⟩
 .intro i v s' J E' B E;have f:d[i]?=U v:=by simpa using B
  have j:i<c.length:=by
   rw[m];exact(bE.mp f).1
  obtain⟨T,w,y⟩:=t.get (i:=i) (x:=V.bl c[i]) (by simp[j]);rw[f] at w;cases w;cases y;have e:c.getD i ag=c[i]:=by simp[j]
  have g:J (c.getD i ag) s':=E;rw[e] at g;exact fH g
 .have e:(dH d.toArray.size).any (λi=>c.getD i ag)=c.any id:=by
   rw[bM,<-m];have:c.map id=(dH c.length).map λi=>c.getD i ag:=by
    apply dY;intro i;by_cases j:i<c.length <;> simp[j]
   have G:c.any id=(c.map id).any id:=by simp
   rw[G,this,List.any_map];rfl
  rw[e];refine⟨.bl (c.any id),H,?_,Y,q⟩;exact I.kept λb o e=>k b o (by
   have:=bV (bG e);simpa using this) (bc _ e)
end
section
variable {X:Cx}{st b₀:ar}{suite:List ar}{tb:EXK->TS}{th1:TS}{c1:Str}{C1:L}{np hpos pos:Pos}
theorem zjY(n:X.stack=X.env::X.outer/\X.env.frame=U X.env.locals)(t:X.ex=[])(hb:PSX X st tb)(aC:Gl X c1)(aB:X.mg c1=U (.ref C1)) (aA:∀e,PSs (X.sub e) (b₀::suite) th1) (G:(c1==("__debug__":Str))=ag:=by lia) :
  PS X (.Try [st] [.ExceptHandler (U (.Name c1 np)) ah (b₀::suite) hpos] [] [] pos) (zh3 X.K tb C1 th1):=by
 intro y s σ H D I h;refine iN (fu (cU (hb y s σ H D _ I h) (λf l q=>?_) λev l q=>?_))
 .cases f with
  |next=>exact dF (dF q)
  |ret v=>exact q
  |brk=>exact q
  |cont=>exact q
 obtain⟨e,cls,j,s0,H0,A,rfl,I0,I1,od,xf,C,rfl,hx,ht⟩:=q;obtain⟨oe,vs,a0,T,oT,ts,h1,h2,h3,h4,h5,h6,h7,h8,h9,aS,aR,aL,a2⟩:=xf;have fr:l.heap.FunFrames (fQ l.heap (uc X.stack++[e,T])) (X.env::X.outer):=by
  have q:=gy (as:=uc X.stack++[e,T]) I1.stack λa1 he a ha=>cR _ (fk.mpr ⟨a1,he,ha⟩);rw[n.1] at q ⊢;exact q
 have m:∀b∈[e,T],s0.heap.get? b=ah/\A b=ah:=λb z=>by
  have z':b=e\/b=T:=by simpa using z
  rcases z' with rfl|rfl
  .exact⟨h9,aR⟩
  .exact⟨aS,aL⟩
 have M:∀b∈[e,T],A b=ah/\X.s₀.heap.get? b=ah:=λb z=>⟨(m b z).2,va (I0.there0 t) (m b z).1⟩;have N:∀b∈[e,T],∀p∈X.pn++y,p.1≠b:=λb z p Q q=>by
  have:=(I0.pin p Q).1;rw[q,(m b z).1] at this;cases this
 refine wpAny_looks_onW (base:=fQ l.heap (uc X.stack++[e,T])) (a0:=a0) (cls:=.ref C) (by rw[I1.ok.frames,n.1]) n.2
  ⟨λb o q=>iY _ q,eB _ (bP _ (by simp)),fr,oe,vs,T,oT,ts,h1,h2,h3,h4,eB _ (bP _ (by simp)),h5,h6,h7,h8⟩ λg4 w E=>?_
 refine wpAny_landsW w λg5 d B=>?_;have hB:∀ {g:ax},(fQ l.heap (uc X.stack++[e,T])).StaysIn g->∀b o,l.heap.get? b=U o->b ∉ uc X.stack->b ∉ [e,T]->g.get? b=U o :=
  λ{g} k b o q n1 n2=>k b o (ig _ q λz=>(cj.mp z).elim n1 n2)
 have I5:aM X y j A { l with heap:=g5 }:=I1.land t M N (hB d.1) (E.trans B);have K5:=I5.kIn;have al:iP (Bg X.prog X.w) g5 (typeOf (.ref e)) (.ref C):=by
  obtain⟨o,p1,p2⟩:=d.there;exact p2 ▸ (mP p1).andThen .now
 have av:∀ {i:ar} {su:List ar} {th:TS} {Q:Pos} {R:aD->af->Prop},(∀e,PSs (X.sub e) (i::su) th)->th D j A->(∀f s',SP X y D f s'->R (.ok f) s') ->
   codeAny (Bg X.prog X.w) (X.A.mark (U (.ref e))) (.handlers (.ref e) [.ExceptHandler ah ah (i::su) Q] X.env) R { l with heap:=g5 }:=λ{i su th Q R} hs aw hR=>by
  refine lP (lands_againW d λg6 O an=>?_);have I6:aM X y j A { l with heap:=g6 }:=I1.land t M N (hB O.1) ((E.trans B).trans an);refine cU (hs e y _ j A D I6.toSub aw) (λf s9 q=>hR f s9 ?_) λ_ _ z=>cx z;cases f with
  |next=>obtain⟨c,x,J,z⟩:=q;exact⟨c,x,aM.ofSub (J:=I) J,z⟩
  |brk=>obtain⟨c,x,J,z⟩:=q;exact⟨c,x,aM.ofSub (J:=I) J,z⟩
  |cont=>obtain⟨c,x,J,z⟩:=q;exact⟨c,x,aM.ofSub (J:=I) J,z⟩
  |ret u=>obtain⟨v,c,x,J,r,z⟩:=q;exact⟨v,c,x,aM.ofSub (J:=I) J,r,z⟩
 refine iW (gW ?_) (by intro q;cases q);refine xy (X:=X.sub e) (I5.toSub (e:=e)) aC aB ?_ G;refine(W.exm_one K5 al hx).here ?_;exact av aA ht λf s' q=>q
end
end L2
namespace HT
open PySem PySem.Spec PyProof.Rows
end HT
namespace L2
open PySem PySem.Spec PyProof.Rows
end L2
namespace L2
open PySem
end L2
namespace L2
open PySem PySem.Spec PyProof.Rows
def JL:List ae->Bool
 |.ref _::r=>JL r
 |l=>l==Kc
theorem zeE(b:ae):∀(l:List ae),JL l=ai->refuseLoop b "__setattr__" l=pure PUnit.unit:=by
 intro l;induction l with
 |nil=>intro h;exact absurd h ()
 |cons a r ih =>
  intro h;unfold JL at h;split at h
  .rename_i e;cases e;rw[refuseLoop_ref];exact ih h
  .rw[beq_iff_eq.mp h];exact PySem.F.store_ValueError.passes b
structure ExS(K:bo)(C:L):Prop extends ExC K C where
 sa:fE K (.ref C) "__setattr__"=U (U (.builtin "object.__setattr__"))
 ov:((tq K C).any λcd=>JL cd.mro)=ai
 hd:rf K C=ai
abbrev kI(C:L)(a:Option L)(t:L):Obj:={ cls:=.ref C,dict:=a,data:=.fields #[.ref t,.none,.none,.none,.bool ag,.none] }
section
variable {prog:ap}{w:au}{A:aq}{E:ae->af->Prop}{K:bo}{x C t:L}{s:af}{name:Str}{v:ae}
open PySem.Builtin PySem.Builtin.ObjectAttr in
theorem zjZ{Q:Unit->af->Prop}(X:K.In s.heap)(c:ExS K C)(n:aK K C name)(f:s.heap.get? x=U (kI C ah t)) (h:∀a,a.get? x=U (kI C (U s.heap.objs.size) t)->a.Ns1 s.heap.objs.size (λy=>if y=name then U v else ah)->(∀b o,b≠x->s.heap.get? b=U o->a.get? b=U o)->Q PUnit.unit { s with heap:=a,toks:=s.toks+2 }) :
  Bf (Bg prog w) A (setAttr (.ref x) name v) Q E s:=by
 have J:W.InstAt s.heap x (kI C ah t) C ah:=⟨f,Y,Y,trivial⟩;refine W.set_plain X J c.sa ?_;have d:=PySem.F.store_object;obtain⟨D,p,I⟩:=se c.ov;obtain⟨cd',m,k⟩:=se c.hd;obtain rfl:D=cd':=cb (p.symm.trans m);have g:iP (Bg prog w) s.heap (isInstance (.ref x) (.type "object")) ai:=J.type.andThen (mK X c.ob);have M:iP (Bg prog w) s.heap (mroOf (.ref C)) D.mro:=(rL X p).andThen .now;refine fD d.slot.plain d.entry (@W.check_slot (Bg prog w) _ _ { s with toks:=s.toks+1 } "object.__setattr__" "object" "__setattr__" (.ref x) [.str name s.toks,v] [] _ d.kind d.split g (d.args (.ref x) (.str name s.toks) v) ?_);rw[W.osa_eq,refuse_eq];refine ba (ba (mj (s:={ s with toks:=s.toks+1 }) J.type (ba (mj (s:={ s with toks:=s.toks+1 }) M ?_))));rw[zeE _ _ I];refine bf (ba (mj (s:={ s with toks:=s.toks+1 }) J.type (ba (mj (s:={ s with toks:=s.toks+1 }) (fW X n) (ba (bf ?_))))));show Bf _ _ (storeInOwnDict (.ref x) (.ref C) (.str name s.toks) name v _) _ _ _;refine ba (bf (ba (ba (p7 f (ba (mj (s:={ s with toks:=s.toks+1 }) (rL X p) ?_))))));rw[k];have r:x≠s.heap.objs.size:=bV (bG f);have u:(s.heap.push { cls:=.type "dict",data:=.dict #[] }).get? x=U (kI C ah t):=bc _ f;refine ba (wpAny_alloc' (ba (wpAny_update' u (bf ?_))));have O:((s.heap.push { cls:=.type "dict",data:=.dict #[] }).update x λo=>{ o with dict:=U s.heap.objs.size }).get? s.heap.objs.size=U { cls:=.type "dict",data:=.dict #[] } :=
  (rD _ _ _ _ r.symm).trans (Heap.get?_push_at Y Y)
 have G:((s.heap.push { cls:=.type "dict",data:=.dict #[] }).update x λo=>{ o with dict:=U s.heap.objs.size }).Ns s.heap.objs.size (λ_=>ah):=⟨_,#[],_,O,rfl,λe N=>absurd N (by simp),λ_=>rfl⟩;show Bf _ _ (storeInDict s.heap.objs.size (.str name s.toks) name v) _ _ _;unfold storeInDict newKeyGuard;refine ba (bf (ba (wpAny_nsSet1 (sf G) λa B z=>?_)));obtain⟨oD,T,aa,i,j,l⟩:=B.count (Within.cons name v Within.nil);refine ba (wpAny_lookBehind i (by rw[j];exact pastItsLine_dict (cg l (by rw[bR,lB,dq];lia))) (bf (h a ?_ B λb o H q=>?_)))
 .exact(z.2 x r).trans (cW _ u Y)
 .exact(z.2 b (bV (bG q))).trans ((rD _ _ _ _ H).trans (bc _ q))
theorem zj0{Q:ae->af->Prop}(X:K.In s.heap)(c:ExS K C)(n:aK K C name)(J:W.InstAt s.heap x ox C (U od))(p:sS name od=U (U v))(m:W.handedIn v=ai) (o:Q v { s with toks:=s.toks+1 }):Bf (Bg prog w) A (getAttr (.ref x) name ex) Q E s:=by
 obtain⟨q,z,B,b,y⟩:=s;have a:=J.type (M:=Bg prog w);have h:=fW (M:=Bg prog w) X c.ga;have g:=fW (M:=Bg prog w) X c.gx;have f:=mK (M:=Bg prog w) X c.be;have e:=W.looks_find (M:=Bg prog w) X J (W.findObj_own c.hd n Y p);have d:bindSpecial (.builtin "BaseException.__getattribute__") (.ref x)=pure (.builtin "BaseException.__getattribute__",[.ref x]):=iA.ga.bind (.ref x);have u:(mL "BaseException.__getattribute__" == mL "object.__getattribute__")=ag:=by lia
 unfold getAttr getAttrBy;refine ba (wpAny_mkText (dh (ba (a.at (ba (h.at ?_))))));simp only[u,iF,cu,if_false];unfold getAttrByItsOwn hookBefore;refine ba (g.at ?_);unfold callGetattribute boundAndCalled;have r:onTheHeap (.builtin "BaseException.__getattribute__")=ag:=rfl;simp only[r,iF,cu,if_false,tP,d];refine ba (eE (dh (ba (bf (fN ?_)))));refine fD iA.ga.plain F.entry_bexc_ga ?_;have l:builtinKind "BaseException.__getattribute__"=U .slot:=by lia
 have k:splitId "BaseException.__getattribute__"=U ("BaseException","__getattribute__"):=by lia
 have j:=F.args_bexc_ga (.ref x) (.str name b);simp only[checkBuiltinCall,l,k];refine ba (?_:Bf _ _ (isInstance (.ref x) (.type "BaseException")) _ _ _);have i:iP (Bg prog w) q (isInstance (.ref x) (.type "BaseException")) ai:=a.andThen f;refine i.at ?_;simp only[Bool.not_true,cu,if_false,cf,cp];refine lV (show _=pure PUnit.unit from j) ?_;refine ba (bf (ba (bf (ba (a.at (ba (e.at (bf ?_))))))));exact W.handed_on m o
end
def exN(e C:L):HO:=.ext λh=>∃t,h.get? e=U (kI C ah t)
def exM(e C d:L):HO:=.ext λh=>∃t,h.get? e=U (kI C (U d) t)
def exF(e C d:L):HO:=.ext λh=>∃o a,h.get? e=U o/\o.cls=.ref C/\o.dict=U d/\o.data=.fields a
theorem zaV{H:Hp} :upd (upd (upd H e a) d b) e c=upd (upd H d b) e c:=by
 funext x
 by_cases h:x=e
 .subst h;rw[zi,zi]
 .rw[zm h,zm h];by_cases h2:x=d
  .subst h2;rw[zi,zi]
  .rw[zm h2,zm h2,zm h]
section
variable {X:Cx}{aa:List (L×Obj)}{σ:St}{H:Hp}{s:af}{a C d:L}{f:Str}
theorem aM.setN{y:V}{u:ae}{t t':L}(I:aM X aa σ H s)(e:H a=U (exN a C))(A:d=s.heap.objs.size)(l:h'.get? a=U (kI C (U d) t))(G:h'.Ns1 d (λz=>if z=f then U u else ah))(D:aU y u) (j:∀b o,b≠a->s.heap.get? b=U o->h'.get? b=U o):aM X aa σ (upd (upd H d (.xd [(f,y)])) a (exM a C d)) { s with heap:=h',toks:=t' }:=by
 obtain⟨φ,J⟩:∃ φ,exN a C=.ext φ:=⟨_,Y⟩;rw[J] at e;have r:H d=ah:=by rw[A];exact I.fresh
 have E:∀b o,s.heap.get? b=U o->b≠d:=λb o q z=>by rw[z,A] at q;exact absurd (bG q) (fP _)
 have h:∀b u,H b=U u->b≠a->upd (upd H d (.xd [(f,y)])) a (exM a C d) b=U u:=λb u q n=>by
  rw[zm n,zm (λz=>by rw[z,r] at q;cases q)];exact q
 refine I.un (h':=h') (t':=t') ⟨λb o q n _ _=>j b o (λz=>by rw[z,e] at n;cases n) q,λb o q n _ _=>⟨o.slots,j b o (λz=>by rw[z,e] at n;cases n) q⟩,λb o q n _=>?_,λb o q _=>?_,λb B q=>h b _ q (λz=>by rw[z,e] at q;cases q),λb o u q=>h b _ q (λz=>by rw[z,e] at q;cases q),λb M q=>⟨#[],by rw[Array.append_empty];exact h b _ q (λz=>by rw[z,e] at q;cases q)⟩⟩ λb u q=>?_
 .rw[zm (λz=>by rw[z,e] at n;cases n),zm (E b o q)];exact n
 .by_cases hb:b=a
  .subst hb;exact⟨_,l⟩
  .exact⟨o,j b o hb q⟩
 .by_cases hb:b=a
  .subst hb;rw[zi] at q;cases q;exact⟨⟨t,l⟩,⟨_,l⟩,λQ O ⟨t,z⟩ k=>⟨t,k _ z⟩⟩
  .rw[zm hb] at q;by_cases hb2:b=d
   .subst hb2;rw[zi] at q;cases q;refine⟨_,G,λg=>?_⟩;by_cases hg:g=f
    .subst hg;rw[ao Y,List.lookup_cons_self];exact D
    .rw[am hg];show ug (match g==f with|true=>U y|false=>iQ g []) ah;rw[show (g==f)=ag from beq_eq_false_iff_ne.mpr hg]
     trivial
   .rw[zm hb2] at q;refine(I.hok b u q).stay (λc v hc z=>j c v ?_ z) (λc z=>h c _ z λw=>by rw[w,e] at z;cases z) λc B z=>h c _ z λw=>by rw[w,e] at z;cases z
    rcases hc with rfl|hc
    .exact hb
    .intro w;rw[w,e] at hc;cases hc
theorem aM.untrack{j:ax->Prop}(I:aM X aa σ (upd H e (.ext j)) s)(r:H e=ah):aM X aa σ H s:=by
 have B:=I.base;have k:∀b,upd H e (.ext j) b=ah->H b=ah:=λb q=>by
  by_cases g:b=e
  .rw[g];exact r
  .rw[zm g] at q;exact q
 have h:∀b u,upd H e (.ext j) b=U u->(∀ t,u≠.ext t)->H b=U u:=λb u q n=>by
  by_cases g:b=e
  .subst g;rw[zi] at q;cases q;exact absurd Y (n j)
  .rw[zm g] at q;exact q
 refine⟨I.ok,I.os,I.bare,⟨B.keep,B.slot,λb o q n x=>k b (B.free b o q n x),B.there,λb l q=>h b _ (B.tups b l q) (λ_ z=>by cases z),λb o u q=>h b _ (B.frzs b o u q) (λ_ z=>by cases z),λb J q=>?_⟩,I.loc,I.cell,k _ I.free,λx c q=>k _ (I.freeC x c q),λp q=>?_,λb u q=>?_,I.len⟩
 .obtain⟨m,z⟩:=B.tbls b J q;exact⟨m,h b _ z λ_ z=>by cases z⟩
 .obtain⟨G,E,D,A,y⟩:=I.pin p q;exact⟨G,k _ E,D,A,y⟩
 .have g:b≠e:=λz=>by rw[z,r] at q;cases q
  exact(I.hok b u (by rw[zm g];exact q)).stay (λc v _ z=>z) (λc z=>h c _ z λ_ z=>by cases z) λc l z=>h c _ z λ_ z=>by cases z
end
section
variable {X:Cx}{o e value:ay}{f:Str}{pos pos':Pos}{ta tv:TE}{C:L}
def zin(C:L)(ta tv:TE)(f:Str):TS:=λD b H=>tv b H λy g=>ta b g λx c=>∃a,x=.ref a/\c a=U (exN a C)/\∀d,c d=ah->d≠a->D.nx b (upd (upd c d (.xd [(f,y)])) a (exM a C d))
theorem zfz(c:ExS X.K C)(n:aK X.K C f)(G:PE X o ta)(A:PE X value tv)(B:swapsWith value (U (.Attribute o f pos')) pos.line X.env=pure ag):PS X (.Assign [.Attribute o f pos'] value pos) (zin C ta tv f):=by
 intro k s d H D I h;refine lR (aY (A k s d H _ I h) λu l ⟨y,N,M,m,q⟩=>aY (G k l d N _ M q) λv O ⟨x,T,b,p,a,J,j,r⟩=>?_) B;subst J;obtain rfl:v=bH a:=p;obtain⟨⟨t,i⟩,_⟩:=b.hok a _ j;exact zjZ b.kIn c n i λQ g E w=>⟨d,_,b.setN j Y g E m w,r _ b.fresh λz=>absurd (bG i) (by rw[<-z];exact fP _)⟩
def zk0(K:bo)(ta:TE)(f:Str):TE:=λg H Q=>ta g H λx b=>∃a C d c v,x=.ref a/\b a=U (exF a C d)/\ExS K C/\aK K C f/\b d=U (.xd c)/\c.lookup f=U v/\Q v b
theorem zj1(J:PE X e ta)(M:attributeBase e f X.env (eval e X.env)=eval e X.env):PE X (.Attribute e f pos) (zk0 X.K ta f):=by
 intro aa s i H Q I h;refine zfh M (aY (J aa s i H _ I h) λu s1 ⟨x,H1,b,t,a,C,d,fs,v,N,T,c,n,O,l,q⟩=>?_);subst N;obtain rfl:u=bH a:=t;obtain⟨⟨o,vs,p,m,k,j⟩,_⟩:=b.hok a _ T;obtain⟨B,A,r⟩:=b.hok d _ O;obtain⟨od,E,G⟩:=zaw A;obtain⟨u,D,g⟩:=ug.some_of (v:=v) (o:=B f) (by rw[<-l];exact r f);obtain⟨oc,y,z,w⟩:=o;cases m;cases k;cases j;exact zj0 b.kIn c n ⟨p,Y,Y,E⟩ (by rw[G,D]) (zax g) ⟨v,H1,b.tok _,g,q⟩
end
section
variable {prog:ap}{w:au}{A:aq}{E:ae->af->Prop}{h:ax}{g:Array GenState}{d:Drawn}{t:Nat}{os:OsState}
variable {nm qn:Str}{C N:L}{bs bm bmB:List ae}{hdct:Bool}{sn:List Str}{sub:List ae}{ab:Bool}{col:Option Bool}{dd:Option L}{k0 k1 k2 k3 k5:Option ae}{B nid iid:String}
abbrev qq(h:ax)(C:L)(rest:List ae):ax:=(h.push { cls:=.type "tuple",data:=.seq rest.toArray }).push (kI C ah h.objs.size)
theorem zio(F:ExcBaseFacts B nid iid bmB)(T:OwnTail h bmB bm){mN:Str->Option ae}{rest:List ae}{f:Obj}{Q:Fin->af->Prop}(a:h.get? C=U (excClassObj nm qn C N bs bm hdct sn sub ab col dd k0 k1 k2 k3 k5 nid))(n:h.Ns N mN)(p:mN "__init__"=U (.ref fI)) (s:h.get? fI=U f) (u:f.cls=.type "function") (k:rest.length<=Bb) (m:Bf (Bg prog w) A (call (.ref fI) (.ref (h.objs.size+1)::rest)) (λr e=>r=.none/\Q (.done (.ret (.ref (h.objs.size+1)))) e) E ⟨qq h C rest,g,d,t,os⟩) :
  Bf (Bg prog w) A (Builtin.«type.__call__» ⟨.ref C::rest,[]⟩) Q E ⟨h,g,d,t,os⟩:=by
 repeat (first|with_reducible refine eY a ?_|with_reducible refine wpAny_madeBy_exc a ?_|wp_step)
 refine codeAny_call_builtin_code (lD _ F.quiet) (wpAny_check_new_subT F T a (codeAny_exc_new_subT F T a ?_ k));show Bf _ _ _ _ _ _;have c:∀b o,h.get? b=U o->(qq h C rest).get? b=U o:=λb o q=>bc _ (bc _ q);have i:=c _ _ a;have j:(qq h C rest).Ns N mN:=let ⟨o,es,ep,q,r⟩:=n;⟨o,es,ep,c _ _ q,r⟩
 have y:(qq h C rest).get? (h.objs.size+1)=U (kI C ah h.objs.size):=by heap_get
 have z:(bH C::bm).contains (.ref C)=ai:=by simp
 have D:=T.keeps c;unfold isInstance;repeat (first|with_reducible refine eY y ?_|(with_reducible refine mZ i ?_;rw[z])|wp_step)
 show Bf _ _ (typeLookup (.ref C) _) _ _ _;refine wpAny_typeLookup_tail i j D F.mroIs F.init.lookup ?_;rw[p];refine dh (ba ?_);unfold bindSpecial;refine ba (my (T:="function") ⟨_,c _ _ s,u⟩ ?_);rw[ao ()];refine bf (ba (cU m (λr e l=>?_) λ_ _ x=>x));obtain⟨rfl,v⟩:=l
 wp_walk
 exact v
theorem zdh(F:ExcBaseFacts B nid iid bmB)(T:OwnTail h bmB bm){c:Str->Option ae}{rest:List ae}{b:Obj}{Q:ae->af->Prop}(a:h.get? C=U (excClassObj nm qn C N bs bm hdct sn sub ab col dd k0 k1 k2 k3 k5 nid))(j:h.Ns N c)(k:c "__init__"=U (.ref fI)) (l:h.get? fI=U b) (m:b.cls=.type "function") (f:rest.length<=Bb) (i:Bf (Bg prog w) (A.under (.builtin "type.__call__" ⟨.ref C::rest,[]⟩)) (call (.ref fI) (.ref (h.objs.size+1)::rest)) (λr e=>r=.none/\Q (.ref (h.objs.size+1)) e) E ⟨qq h C rest,g,d,t,os⟩) :
  Bf (Bg prog w) A (call (.ref C) rest) Q E ⟨h,g,d,t,os⟩:=by
 have p:=tc_lookup;have o:=tc_bind (.ref C);have n:(⟨h,g,d,t,os⟩:af).TypeIs (.ref C) "type":=⟨_,a,Y⟩;refine fN (pO ?_);show Bf _ _ (callAny (.ref C) _) _ _ _
 repeat (any_goals (first|assumption|with_reducible refine eY a ?_|wp_step))
 refine⟨Y,codeAny_call_builtin_at (lD _ ()) entry_typeCall (wpAny_check_type_call_sub a (zio F T a j k l m f ?_))⟩;exact i
theorem zgv{x:Sem ae}{Q:Flow->af->Prop}(k:bm.contains (.type "BaseException")=ai)(i:A.handled=ah) (f:Bf M A x (λv a=>∃e t b,v=.ref e/\a.heap.get? C=U (excClassObj nm qn C N bs bm hdct sn sub ab col dd k0 k1 k2 k3 k5 nid)/\a.heap.get? e=U (kI C b t)/\E (.ref e) a) E s):Bf M A (raiseStmt env (U x) ah) Q E s:=by
 have m:(bH C::bm).contains (.type "BaseException")=ai:=by rw[rV,k,Bool.or_true]
 unfold raiseStmt;refine ba (cU f (λv a z=>?_) λ_ _ x=>x);obtain⟨e,t,b,rfl,c,j,l⟩:=z;obtain⟨o,g,d,n,os⟩:=a
 repeat (first|with_reducible refine eY j ?_|with_reducible refine eY c ?_|(with_reducible refine mZ c ?_;rw[m])|wp_step)
 exact wpAny_raiseNew_none i l
end
theorem zmD{K:bo}{h:ax}{N:L}{a:Str->Option ae}{n:Str}(X:K.In h)(G:h.Ns N a)(e:W.nsIn K N n=U (U v)):a n=U v:=by
 obtain⟨o,i,j,b,g,_,f⟩:=G;unfold W.nsIn at e;split at e
 .rename_i c d es' n' sl q;have z:=X _ _ q;rw[b] at z;cases z;cases g;split at e
  .rename_i en he;cases e;rw[<-f];unfold nsFind findBy;rw[<-rJ,he];rfl
  .split at e <;> cases e
 .cases e
theorem ziq{K:bo}{h:ax}(X:K.In h)(q:tI K (.ref f)=ai):∃o,h.get? f=U o/\o.cls=.type "function":=by
 have e:=beq_iff_eq.mp q;obtain⟨o,z,w⟩:=cY.mp (show (K.lookup f).map (·.cls)=U (.type "function") from e);exact⟨o,X _ _ z,w⟩
def zdi(K:bo)(C a:L):Bool:=match K.lookup C with
 |some ⟨.type "type",_,.cls c,k⟩=>(match c.mro,k.toList with
  |.ref C'::bm,[_,_,_,_,U (.builtin n),_]=>C'==C&&n==jr && !c.hasDel&&W.tailIn K Kc bm&&W.nsOkIn K c.ns&&W.nsIn K c.ns "__init__" == U (U (.ref a))
  |_,_=>ag)
 |_=>ag
theorem zfA{K:bo}{h:ax}(X:K.In h)(q:zdi K C fI=ai) :
  ∃bm N o l v d k a w b u j i g f e x,h.get? C=U (excClassObj o l C N v bm d k a w b u j i g f e jr)/\h.Ns N x/\x "__init__"=U (.ref fI)/\OwnTail h Kc bm:=by
 unfold zdi at q;split at q
 case h_2=>cases q
 rename_i u cd sl ho;split at q
 case h_2=>cases q
 rename_i C' bm j i g f n e hm hs;rw[bS,bS,bS,bS,bS] at q;obtain⟨⟨⟨⟨⟨E,D⟩,B⟩,A⟩,z⟩,y⟩:=q;obtain rfl:C'=C:=by simpa using E
 obtain rfl:n=jr:=by simpa using D
 obtain⟨o,v,p,m,l,H,k,a,w,b,t⟩:=cd;have c:t=ag:=by simpa using B
 have s:p=.ref C'::bm:=hm;subst c s;have r:sl=#[j,i,g,f,U (.builtin jr),e]:=by
  apply tK;exact hs
 subst r;have G:h.Ns m (h.nsMap m):=.of_isNs (W.isNs_of_in X z);exact⟨bm,m,o,l,v,H,k,a,w,b,u,j,i,g,f,e,_,X _ _ ho,G,zmD X G (by simpa using y),W.tail_of_in X A⟩
def zbI(X:Cx)(E:XK):Prop:=∀(d:List (L×Obj)) (c:St) (H:Hp) (s:af) (e:L) (a:Obj) (b:Array ae) (f:ae),aM X d c H s->s.heap.get? e=U a->a.data=.fields b->b[1]?=U .none->b[0]?=U f->(a.dict=ah->b[2]?=U .none)->H e=ah->X.s₀.heap.get? e=ah->E a.cls a.dict H->X.xe (.ref e) s
theorem xG{w:au}{K:bo}{i:Str->Option ae}{g:ax}{N:List Str}{d:Str}{a:az}{f:L}{j:ae}{A:aq}{b:List Env}{c:af}{h:Hp}{E:XK} :
  zbI (wU (uw P w) P w K i g N d a f j A b c h E) E:=by
 intro x t H s e v u y I r q p o k n m l;exact zaM (X:=wU (uw P w) P w K i g N d a f j A b c h E) ⟨Y,Y⟩ Y I r q p o k n m l
def Kp(C:L)(f:Str):Sp:=λa H Q _=>∃x y,a=[.ref x,y]/\H x=U (exN x C)/\∀d,H d=ah->d≠x->Q .non (upd (upd H d (.xd [(f,y)])) x (exM x C d))
def yC(C:L)(f:Str)(e:TA)(E:XK):TS:=λ_ b H=>e b H λc a=>∃y,c=[y]/\∀d,a d=ah->E (.ref C) (U d) (upd a d (.xd [(f,y)]))
section
variable {X:Cx}{x f:Str}{C fI:L}{fd:Bc}{ps:List Str}{k:Nat}{np tX pos:Pos}{e₀:ay}{ta:TA}{E:XK}
theorem xr(hc:X.calm=ai)(q:zdi X.K C fI=ai)(kp:lh X.K (.ref C)=ai)(fn:tI X.K (.ref fI)=ai)(F:aZ X.prog X.w X.K X.mg X.base (uw X.prog X.w) k fI fd ps (Kp C f))(hr:hZ (k+1) X.A)(hb:mt X.K fd ps []) (hx:zbI X E) (hg:Gl X x) (hm:X.mg x=U (.ref C)) (ha:PA X [e₀] ta) (he:Be [e₀] X.env=[(ag,eval e₀ X.env)]:=by rfl) (hp:(backTo tX (Be ([]:List ay) X.env)).any (·.1)=ag:=by rfl) (hd:(x==("__debug__":Str))=ag:=by lia) :
  PS X (.Raise (U (.Call (.Name x np) [e₀] [] tX)) ah pos) (yC C f ta E):=by
 intro M s n H D I h;obtain⟨tl,N,nm,qn,bs,hdct,sn,sub,ab,col,dd,k0,k1,k2,k3,k5,mN,hC,hN,hi,T⟩:=zfA I.ok.mod.kin q;rw[arm_exec_Raise];refine ba (ir (zgv (C:=C) (nm:=nm) (qn:=qn) (N:=N) (bs:=bs) (bm:=tl) (hdct:=hdct) (sn:=sn) (sub:=sub) (ab:=ab) (col:=col) (dd:=dd) (k0:=k0) (k1:=k1) (k2:=k2) (k3:=k3) (k5:=k5) (nid:=jr) (T.hasType eo.hasBase) (I.ok.hd hc) (ba (cU (eA (xy I hg hm ?_ hd)) (λv s3 z=>ba (ir (bf z))) λ_ _ z=>z))))
 refine gJ (h₀:=X.base) I.ok.mod.kin kp (aY (ha tX M s n H _ I h) λus s1 ⟨vs,g,e,r,y,l,q1⟩=>⟨e.kIn,?_⟩) he hp;subst l;obtain⟨u,rfl,ru⟩:∃u,us=[u]/\aU y u:=by
  cases r with
  |cons a b=>cases b;exact⟨_,Y,a⟩
 obtain⟨oI,w,p⟩:=ziq e.kIn fn;obtain⟨c,gs,dr,Q,os⟩:=s1;refine zdh eo (T.keeps e.bk) (e.bk _ _ hC) (hN.keeps e.bk) hi w p (by simp[dq]) ?_;have ge:(qq c C [u]).get? (c.objs.size+1)=U (kI C ah c.objs.size):=by heap_get
 have A:g (c.objs.size+1)=ah:=e.hok.fresh (eM _);have O:aM X M n (upd g (c.objs.size+1) (exN (c.objs.size+1) C)) ⟨qq c C [u],gs,dr,Q,os⟩ :=
  e.laid (a:=c.objs.size+1) (o:=exN (c.objs.size+1) C) (t':=Q) (λb o q=>bc _ (bc _ q)) (eM _) ⟨⟨_,ge⟩,⟨_,ge⟩,λJ G ⟨t,z⟩ k=>⟨t,k _ z⟩⟩
 have i:Kp C f [.ref (c.objs.size+1),y] (upd g (c.objs.size+1) (exN (c.objs.size+1) C)) (λv H2=>v=.non/\∃d,g d=ah/\d≠c.objs.size+1/\H2=upd (upd (upd g (c.objs.size+1) (exN (c.objs.size+1) C)) d (.xd [(f,y)])) (c.objs.size+1) (exM (c.objs.size+1) C d)) E0 :=
  ⟨_,y,Y,zi,λd J G=>⟨Y,d,by rw[zm G] at J;exact J,G,Y⟩⟩
 have r2:aQ [V.ref (c.objs.size+1),y] [bH (c.objs.size+1),u]:=.cons Y (.cons ru .nil);have hl:([bH (c.objs.size+1),u]++[]).length=ps.length:=by rw[<-F.len _ _ _ _ i];rfl
 refine fN (eu (F.run _ X.stack _ _ ⟨[bH (c.objs.size+1),u],[]⟩ [bH (c.objs.size+1),u] _ _ E0 (hr.make C [u] []) (O.env0.make C [u] []) (hb _ [bH (c.objs.size+1),u] O.kIn hl) r2 i) λr s' j=>?_);cases r with
 |error l=>obtain⟨_,_,_,_,_,_,_,_,_,_,z⟩:=j;exact z.elim
 |ok fl =>
  cases fl with
  |ret u' =>
   obtain⟨v,H',m,rv,l,d,B,dn,eH⟩:=O.after j;subst l eH;obtain rfl:u'=cy:=rv;rw[zaV] at m;have n3:upd g d (.xd [(f,y)]) (c.objs.size+1)=ah:=by rw[zm (cK dn)];exact A
   obtain⟨⟨t,ht⟩,_⟩:=m.hok (c.objs.size+1) _ zi;refine⟨Y,_,t,U d,Y,m.bk _ _ hC,ht,?_⟩;exact hx M n _ s' _ _ _ (.ref t) (m.untrack n3) ht Y Y Y () n3 (mH (cg e.sz (eM _))) (q1 d B)
  |next=>exact cx j
  |brk=>exact cx j
  |cont=>exact cx j
end
abbrev EXD:=ae->Option L->St->Hp->Prop
def PXD(X:Cx)(h:List (L×Obj))(k:EXD):ae->af->Prop:=λi f=>∃e a b d j c g,i=.ref e/\aM X h b j d/\aM X h b c f/\XF d.heap f.heap c e a g/\k a g b c
def zj2(X:Cx)(d:ay)(t:EXD->TE):Prop :=
 ∀(b:List (L×Obj)) (s:af) (a:St) (H:Hp) (Q:VK) (c:EXD),aM X b a H s->t c a H Q->Bf (Bg X.prog X.w) X.A (eval d X.env) (EP X b a Q) (PXD X b c) s
def zj3(X:Cx)(st:ar)(t:EXD->TS):Prop :=
 ∀(a:List (L×Obj)) (s:af) (b:St) (H:Hp) (D:Zn) (c:EXD),aM X a b H s->t c D b H->Bf (Bg X.prog X.w) X.A (exec st X.env) (SP X a D) (PXD X a c) s
section
variable {X:Cx}{k:Nat}{f:L}{fd:Bc}{ps:List Str}{sp:Sp}{x:Str}{p pos:Pos}{e:ay}{es:List ay}{t:TA}
def zbJ(sp:Sp)(d:TA)(j:EXD):TE:=λb H Q=>d b H λc i=>sp (c++[]) i Q λa g h=>j a g b h
theorem zgw(F:aZ X.prog X.w X.K X.mg X.base (uw X.prog X.w) k f fd ps sp)(G:hZ k X.A)(O:Gl X x)(J:X.mg x=U (.ref f))(N:lh X.K (.ref f)=ai)(hb:mt X.K fd ps [])(ha:PA X.nox (e::es) t) (n:(x==("__debug__":Str))=ag:=by lia) (T:Be (e::es) X.env=(ag,eval e X.env)::Be es X.env:=by rfl) (l:(backTo pos (Be es X.env)).any (·.1)=ag:=by rfl):zj2 X (.Call (.Name x p) (e::es) [] pos) (zbJ sp t):=by
 intro aa s v H Q EX I h;refine eA (xy I O J ?_ n);refine gJ (h₀:=X.base) I.ok.mod.kin N (cU (ha pos aa s v H _ (I.wish _) h) (λa j ⟨w,A,g,r,q⟩=>⟨g.kIn,?_⟩) λ_ _ z=>cx z) T l;have i:=g.unwish;have y:aQ (w++[]) (a++[]):=r.append .nil;have M:(a++[]).length=ps.length:=by rw[<-y.length];exact F.len _ _ _ _ q
 refine fN (eu (F.run X.A X.stack j A ⟨a,[]⟩ (a++[]) (w++[]) _ _ G i.env0 (hb j a i.kIn M) y q) λr s' c=>?_);cases r with
 |error ev =>
  obtain⟨e,o,E,H',rfl,D,d,C,m,B,hE⟩:=c;exact⟨e,o,v,j,A,H',E,Y,i,i.call' (ch:=[]) D C m d (λb z=>nomatch z),B,hE⟩
 |ok fl =>
  cases fl with
  |ret u=>exact i.after c
  |next=>exact cx c
  |brk=>exact cx c
  |cont=>exact cx c
end
section
variable {X:Cx}{st b₀:ar}{suite:List ar}{tb:EXD->TS}{th:TS}{c n:Str}{C0:L}{i:Nat}{np hpos pos:Pos}{ex:ay}{tx:EXD->TE}
def zfB(tx:EXD->TE)(d:EXD):TS:=λD a H=>tx d a H λ_ b=>D.nx a b
theorem zgx(e:zj2 X ex tx)(d:swapsWith ex ah pos.line X.env=pure ag:=by rfl):zj3 X (.Expr ex pos) (zfB tx):=by
 intro f s a H D k I h;exact pY (aY (e f s a H _ k I h) λv l ⟨x,j,g,m,b⟩=>⟨a,j,g,b⟩) I.quiet d
def zk1(K:bo)(tb:EXD->TS)(C0:L)(i:Nat)(th:TS):TS:=λD g H=>tb (λb h a f=>∃C d,b=.ref C/\h=U d/\eG K (.ref C) (.ref C0)=U ai /\
 ∀e,f e=ah->th (zmT i D) (a.set i (U (.ref e))) (upd f e (exF e C d))) D g H
theorem zj4(M:X.stack=X.env::X.outer/\X.env.frame=U X.env.locals)(A:X.ex=[])(hN:X.N.Nodup)(hb:zj3 X st tb)(hg:Gl X c)(hm:X.mg c=U (.ref C0))(hi:X.N[i]?=U n)(hl:X.env.scope.names.lookup n=U .local) (hs:∀e,PSs (X.sub e) (b₀::suite) th) (a6:(c==("__debug__":Str))=ag:=by lia):PS X (.Try [st] [.ExceptHandler (U (.Name c np)) (U n) (b₀::suite) hpos] [] [] pos) (zk1 X.K tb C0 i th):=by
 intro l s σ H D I h;refine iN (fu (cU (hb l s σ H D _ I h) (λf w q=>?_) λev w q=>?_))
 .cases f with
  |next=>exact dF (dF q)
  |ret v=>exact q
  |brk=>exact q
  |cont=>exact q
 obtain⟨e,bg,E,s0,H0,H1,od,rfl,I0,I1,xf,C,d,rfl,rfl,hx,a4⟩:=q;obtain⟨oe,vs,a0,T,oT,ts,h1,h2,h3,h4,h5,h6,h7,h8,h9,a9,al,a8,a7⟩:=xf;have fr:w.heap.FunFrames (fQ w.heap (uc X.stack++[e,T])) (X.env::X.outer):=by
  have q:=gy (as:=uc X.stack++[e,T]) I1.stack λbe he a ha=>cR _ (fk.mpr ⟨be,he,ha⟩);rw[M.1] at q ⊢;exact q
 have G:∀b∈[e,T],s0.heap.get? b=ah/\H1 b=ah:=λb z=>by
  have z':b=e\/b=T:=by simpa using z
  rcases z' with rfl|rfl
  .exact⟨h9,al⟩
  .exact⟨a9,a8⟩
 have N:∀b∈[e,T],H1 b=ah/\X.s₀.heap.get? b=ah:=λb z=>⟨(G b z).2,va (I0.there0 A) (G b z).1⟩;have O:∀b∈[e,T],∀p∈X.pn++l,p.1≠b:=λb z p hp q=>by
  have:=(I0.pin p hp).1;rw[q,(G b z).1] at this;cases this
 refine zeq (base:=fQ w.heap (uc X.stack++[e,T])) (by rw[I1.ok.frames,M.1]) fr M.2 ⟨oe,vs,T,oT,ts,h1,⟨h2,a7⟩,h3,h4,eB _ (bP _ (by simp)),h5,h6,h7,h8⟩ (λb o q=>iY _ q) (eB _ (bP _ (by simp))) λg4 ⟨a1,a2,a3,av⟩=>?_;refine zhy (s:={ w with heap:=g4 }) a1 a2 a3 λg5 ⟨b1,b2,b3,an⟩=>?_;have hB:∀ {g:ax},(fQ w.heap (uc X.stack++[e,T])).StaysIn g->∀b o,w.heap.get? b=U o->b ∉ uc X.stack->b ∉ [e,T]->g.get? b=U o :=
  λ{g} k b o q n1 n2=>k b o (ig _ q λz=>(cj.mp z).elim n1 n2)
 have I5:aM X l E H1 { w with heap:=g5 }:=I1.land A N O (hB b1) (av.trans an);have K5:=I5.kIn;refine iW (gW ?_) (by intro q;cases q);refine xy (X:=X.sub e) (I5.toSub (e:=e)) hg hm ?_ a6;have aC:iP (Bg X.prog X.w) g5 (typeOf (.ref e)) (.ref C):=by
  obtain⟨o,_,_,_,_,p1,p2,_⟩:=b3;exact p2.1.1 ▸ (mP p1).andThen .now
 refine(W.exm_one K5 aC hx).here ?_;refine codeAny_handlers_suite_as ?_;refine zhy (s:={ w with heap:=g5 }) b1 b2 b3 λg6 ⟨c1,c2,c3,aL⟩=>?_;have I6:aM X l E H1 { w with heap:=g6 }:=I1.land A N O (hB c1) ((av.trans an).trans aL);have aR:e≠X.env.locals:=λz=>by
  obtain⟨m,⟨o,_,_,ho,_⟩,_⟩:=I0.loc;rw[<-z,h9] at ho;cases ho
 have aS:∀x c,X.env.cells.lookup x=U c->c≠e:=λx c q z=>by
  obtain⟨v,o,ho,_⟩:=I0.cell x c q;rw[z,h9] at ho;cases ho
 obtain⟨o6,aB,_,_,_,p6,q6,r6,_⟩:=c3;have I7:aM X l E (upd H1 e (exF e C d)) { w with heap:=g6 }:=I6.track al (N e (by simp)).2 A aR aS (O e (by simp))
  ⟨⟨o6,aB,p6,q6.1.1,q6.2.1,r6⟩,⟨o6,p6⟩,λa b ⟨o,vs,z1,z2⟩ k=>⟨o,vs,k o z1,z2⟩⟩
 refine kA (X:=X) (v:=.ref e) I7 hN hi (.inl hl) Y (λs8 I8=>?_) (.inr hl);refine cU (hs e l s8 _ _ _ I8.toSub (a4 e al)) (λf s9 q=>?_) λ_ _ z=>cx z;have aA:(X.env.scope.kind==.class || (X.env.scope.kind==.module&&X.env.locals != X.env.globals))=ag:=by rw[I.ok.kind];rfl
 have go:∀ {j:St} {B:Hp} {R:af->Prop},aM (X.sub e) l j B s9->(∀s',aM X l (j.set i ah) B s'->R s') ->
   Bf (Bg X.prog X.w) X.A (do bindName X.env n .none;unbindBehindTheSuite X.env n hpos) (λ_ t=>R t) X.xe s9:=λ{j B R} J k=>by
  have y:aM X l j B s9:=aM.ofSub (J:=I) J;obtain⟨m,aw,a5⟩:=y.loc;exact wpAny_nameGoes_keeps (Q:=λ_ t=>R t) hl aw aA λh' v a b=>k _ (y.forget hN hi aw a5 a b)
 cases f with
 |next =>
  obtain⟨j,B,J,z⟩:=q;exact go (R:=λt=>SP X l D .next t) J λs' y=>⟨_,_,y,z⟩
 |brk =>
  obtain⟨j,B,J,z⟩:=q;exact go (R:=λt=>SP X l D .brk t) J λs' y=>⟨_,_,y,z⟩
 |cont =>
  obtain⟨j,B,J,z⟩:=q;exact go (R:=λt=>SP X l D .cont t) J λs' y=>⟨_,_,y,z⟩
 |ret u =>
  obtain⟨v,j,B,J,r,z⟩:=q;exact go (R:=λt=>SP X l D (.ret u) t) J λs' y=>⟨v,_,_,y,r,z⟩
end
end L2
namespace L2
open PySem PySem.Spec PySem.W PyProof.Rows
theorem QJ:entryFor table "proto.unchain"=U Builtin.«proto.unchain»:=entryFor_of_fast (by kernel_rfl)
theorem QK:plainId "proto.unchain"=ai:=by lia
abbrev zlF(C:L)(a:Option L)(t h:L):Obj:={ cls:=.ref C,dict:=a,data:=.fields #[.ref t,.none,.ref h,.none,.bool ai,.none] }
section
variable {prog:ap}{w:au}{A:aq}{E:ae->af->Prop}
variable {nm qn:Str}{C N:L}{bs bm:List ae}{hdct:Bool}{sn:List Str}{sub:List ae}{ab:Bool}{col:Option Bool}{dd:Option L}{k0 k1 k2 k3 k5:Option ae}{nid:String}
theorem zeF{x c:Sem ae}{Q:Flow->af->Prop}(hb:bm.contains (.type "BaseException")=ai)(T:A.handled=U (.ref h)) (hc:∀(s:af) (R:ae->af->Prop),R .none s->Bf (Bg prog w) A c R E s) (M:Bf (Bg prog w) A x (λv f=>∃e t p u r,v=.ref e/\f.heap.get? C=U (excClassObj nm qn C N bs bm hdct sn sub ab col dd k0 k1 k2 k3 k5 nid)/\f.heap.get? e=U (kI C p t)/\h≠e/\f.heap.get? h=U u/\u.data=.fields r/\r[2]?=U .none /\
   ∀g:ax,g.get? e=U (zlF C p t h)->(∀b o,b≠e->f.heap.get? b=U o->g.get? b=U o)->E (.ref e) { f with heap:=g }) E s):Bf (Bg prog w) A (raiseStmt env (U x) (U c)) Q E s:=by
 have cB:(bH C::bm).contains (.type "BaseException")=ai:=by rw[rV,hb,Bool.or_true]
 unfold raiseStmt;refine ba (cU M (λv f z=>?_) λ_ _ x=>x);obtain⟨e,t,p,u,r,rfl,j,B,k,O,hd,J,hE⟩:=z;obtain⟨I,g,d,l,m⟩:=f;dsimp only;refine ba (dh (hc _ _ (ba (bf ?_))));refine ba (dh ?_);unfold excFromValue
 repeat (first|with_reducible refine eY B ?_|with_reducible refine eY j ?_|(with_reducible refine mZ j ?_;rw[cB])|wp_step)
 have D:C≠e:=λz=>by rw[z] at j;rw[B] at j;cases j
 generalize hg1:(I.update e (eN λx=>x.setIfInBounds 3 cy)).update e (eN λx=>x.setIfInBounds 4 (ic ai))=g1;have H:g1.get? e=U { cls:=.ref C,dict:=p,data:=.fields #[.ref t,.none,.none,.none,.bool ai,.none] }:=by
  rw[<-hg1];have a1:=cW (eN (·.setIfInBounds 3 cy)) B rfl;exact cW (eN (·.setIfInBounds 4 (ic ai))) a1 rfl
 have k1:∀b o,b≠e->I.get? b=U o->g1.get? b=U o:=λb o n q=>by
  rw[<-hg1];exact(cO _ _ (cK n)).trans ((cO _ _ (cK n)).trans q)
 have G:=k1 _ _ D j;refine eY G ?_;refine bf ?_;rw[ao (by rfl)];refine bf (ba ?_);unfold setFlight;refine ba (dD (s:=⟨g1,g,d,l,m⟩) (x:=cy) H Y Y ?_);rw[am ()];refine bf ?_;unfold raiseNew;refine ba (mM ?_);rw[T];dsimp only;rw[ao (by simp[k])];refine ba (dh (md (dA QJ ?_)));rw[cS QK _];have y:=k1 _ _ k O;show Bf _ _ (Builtin.«proto.unchain» ⟨[.ref e,.ref h,.ref h,.bool ag],[]⟩) _ _ _;unfold Builtin.«proto.unchain»;dsimp only;refine ba (dD (s:=⟨g1,g,d,l,m⟩) y hd J ?_);rw[ao (by rfl)];refine bf ?_;show Bf (Bg prog w) A (do updateField e 2 (bH h);throw (bH e)) Q E ⟨g1,g,d,l,m⟩;refine ba (fG (s:=⟨g1,g,d,l,m⟩) (a:=e) (i:=2) (x:=bH h) H Y (by show 2<6;decide) ?_);refine oA (hE _ ?_ λb o n q=>?_)
 .exact cW (eN (·.setIfInBounds 2 (bH h))) H rfl
 .exact(cO _ _ (cK n)).trans (k1 b o n q)
end
structure FnM(P:ap)(w:au)(K:bo)(mg:Str->Option ae)(base:ax)(k:Nat)(f:L)(fd:Bc)(ps:List Str)(sp:Sp):Prop where
 len:∀vs H Q E,sp vs H Q E->vs.length=ps.length
 run:∀(B:aq) (h:L) (outer:List Env) (s:af) (H:Hp) (args:Args) (us:List ae) (vs:List V) (Q:VK),hZ k B->Env0 P w K mg base (B.mark (U (.ref h))) outer s H->BindsTo s fd args (ps.zip us)->aQ vs us->sp vs H Q E0 ->
  codeAny (Bg P w) (B.mark (U (.ref h))) (.call (.ref f) args) (CR CX0 outer P w H s Q E0) s
theorem zlG{P:ap}{w:au}{K:bo}{T:Str->Option ae}{g:ax}{k:Nat}{f:L}{z d:Str}{j:Arguments}{l:List ar}{a:az}{dV kV aw pm i ct oc:ae}{an od:Option L}
  {aA:Array (Option ae)} {N ps:List Str} {sp:Sp} (lk:K.lookup f=U ⟨oc,od,.func (rN z d j l a dV kV aw pm an i ct),aA⟩) (aC:rO K i d=ai) (S:aJ N ps a) (aa:∀p H Q E,sp p H Q E->p.length=ps.length) (M:∀(A:aq) (h:L) (c:List Env) (s:af) (H:Hp) (p:List V) (Q:VK),hZ k (A.deeper (envOfC d a s.heap.objs.size f i))->sp p H Q E0 ->
   ∃t,PSs ((wU CX0 P w K T g N d a f i A c s H E0).sub h) l t/\t { nx:=λ_ D=>Q .non D,rt:=Q } (start N p) H) :
  FnM P w K T g (k+1) f (rN z d j l a dV kV aw pm an i ct) ps sp:=by
 refine⟨aa,λB h c s H aL us p Q hr C hb r al=>?_⟩;have e0:Env0 P w K T g B c s H:=⟨C.frames,C.mod,C.bs,C.bsz,C.funs,C.frf,C.hok,C.bare⟩;have hl:=aa _ _ _ _ al;have KX:K.In s.heap:=e0.mod.kin.keeps λb o e=>(e0.bs b o e).1;have aB:s.heap.NoLimit:=e0.mod.nolimit.keeps λb o e=>(e0.bs b o e).1;have G:∀y∈ps.zip us,a.names.lookup y.1=U .local\/(a.names.lookup y.1=U .cell/\((cellsFrom (s.heap.objs.size+1) a.names []).lookup y.1).isSome=ai):=λ⟨n,v⟩ hy=>by
  rcases S.par n (mT hy).1 with q|q
  .exact .inl q
  .exact .inr ⟨q,oM _ _ _ (.inl q)⟩
 refine pw (A:=B.mark (U (.ref h))) hr.depth (KX _ _ lk) Y S.co S.gen Y (W.codeRec_of KX aC) (hb _ _ _ _ ?_);refine nh S.kind G λaR he s1 x=>?_;subst he;refine⟨aB.keeps x.toInCall.keep,codeAny_func ?_⟩;obtain⟨t,ht,hq⟩:=M B h c s H p Q (hr.deeper _) al;have I:aM ((wU CX0 P w K T g N d a f i B c s H E0).sub h) [] (start N p) H s1:=(zaD S hr.hd e0 hl r x).toSub;refine cU (ht [] s1 (start N p) H _ I hq) (λfl s' O=>?_) λe s' O=>cx O;have av:∀ {m:St} {D:Hp} {v:V} {u:ae},aM ((wU CX0 P w K T g N d a f i B c s H E0).sub h) [] m D s'->aU v u->Q v D->CE c P w H s Q u s' :=
  λ{m D v u} J rv q=>⟨v,D,J.os,J.bare,J.base,J.hok,rv,q⟩
 cases fl with
 |ret u =>
  obtain⟨v,m,D,J,rv,q⟩:=O;exact av J rv q
 |next =>
  obtain⟨m,D,J,q⟩:=O;exact av (v:=V.non) (u:=cy) J Y q
 |brk =>
  obtain⟨_,_,_,q⟩:=O;exact cx q
 |cont =>
  obtain⟨_,_,_,q⟩:=O;exact cx q
theorem Fun.okM{P:ap}{w:au}{K:bo}{l:Str->Option ae}{b:ax}{x qual:Str}{st:ar}{f:L}{fd:Bc}{N e:List Str}{k:Nat}{sp:Sp}(F:Fun K x qual st f fd)(S:aJ N e (zk st))(g:∀c H Q E,sp c H Q E->c.length=e.length) (d:∀(cdv:ae) (A:aq) (h:L) (a:List Env) (s:af) (H:Hp) (c:List V) (Q:VK),hZ k (A.deeper (envOfC qual (zk st) s.heap.objs.size f cdv))->sp c H Q E0 ->
   ∃t,PSs ((wU CX0 P w K l b N qual (zk st) f cdv A a s H E0).sub h) (xP st) t/\t { nx:=λ_ o=>Q .non o,rt:=Q } (start N c) H):FnM P w K l b (k+1) f fd e sp:=by
 obtain⟨oc,od,kV,doc,pm,an,cdv,ct,osl,rfl,m,j⟩:=F.ex;exact zlG m j S g λA h a s H c Q n i=>d cdv A h a s H c Q n i
section
variable {X:Cx}{st:ar}{tb:EXD->TS}{c1 x f y:Str}{C1 C fI:L}{fd:Bc}{ps:List Str}{k i jn:Nat}{np np2 tX rpos hpos pos pos' pn:Pos}{e₀ ex:ay}{ta:TA}{tx:EXD->TE}{E:XK}
def zeG(tx:EXD->TE)(i:Nat)(c:EXD):TS:=λD a H=>tx c a H λv b=>D.nx (a.set i (U v)) b
theorem zir(m:X.N.Nodup)(g:X.N[i]?=U y)(d:Loc X.env.scope y)(l:zj2 X ex tx)(e:swapsWith ex (U (.Name y pos')) pos.line X.env=pure ag:=by rfl)(j:X.fn y=ai\/X.env.scope.names.lookup y=U .local:=by first|exact .inl rfl|exact .inr rfl|assumption) :
  zj3 X (.Assign [.Name y pos'] ex pos) (zeG tx i):=by
 intro n s a H D r I h;refine nP (aY (l n s a H _ r I h) λv u ⟨x,q,p,b,c⟩=>?_) e;exact kA p m g d b (λt o=>⟨_,q,o,c⟩) j
def zis(K:bo)(tb:EXD->TS)(C1 C:L)(f:Str)(ta:TA)(E:XK):TS:=λD e H=>tb (λb h a j=>∃B,b=.ref B/\h=ah/\eG K (.ref B) (.ref C1)=U ai /\
 ta a j λg c=>∃y,g=[y]/\∀d,c d=ah->E (.ref C) (U d) (upd c d (.xd [(f,y)]))) D e H
theorem zj5(G:X.stack=X.env::X.outer/\X.env.frame=U X.env.locals)(M:X.ex=[])(hb:zj3 X st tb)(bg:Gl X c1)(be:X.mg c1=U (.ref C1)) (qi:zdi X.K C fI=ai) (kp:lh X.K (.ref C)=ai) (fn:tI X.K (.ref fI)=ai) (F:FnM X.prog X.w X.K X.mg X.base k fI fd ps (Kp C f)) (hr:hZ (k+1) X.A) (bA:mt X.K fd ps []) (hx:zbI X E) (ho:∀e:L,PassesOwnAt (Bg X.prog X.w) (X.A.mark (U (.ref e))) X.A X.env X.xe) (hg:Gl X x) (hm:X.mg x=U (.ref C)) (ha:∀e,PA (X.sub e) [e₀] ta) (aA:(c1==("__debug__":Str))=ag:=by lia) (he:Be [e₀] X.env=[(ag,eval e₀ X.env)]:=by rfl) (hp:(backTo tX (Be ([]:List ay) X.env)).any (·.1)=ag:=by rfl) (hd:(x==("__debug__":Str))=ag:=by lia) :
  PS X (.Try [st] [.ExceptHandler (U (.Name c1 np)) ah [.Raise (U (.Call (.Name x np2) [e₀] [] tX)) (U (.Constant .none jn pn)) rpos] hpos] [] [] pos) (zis X.K tb C1 C f ta E):=by
 intro O s σ H D I h;refine iN (fu (cU (hb O s σ H D _ I h) (λf l q=>?_) λev l q=>?_))
 .cases f with
  |next=>exact dF (dF q)
  |ret v=>exact q
  |brk=>exact q
  |cont=>exact q
 obtain⟨e,b5,j,s0,H0,H1,od,rfl,I0,I1,xf,B,rfl,rfl,a8,a9⟩:=q;obtain⟨oe,vs,a0,T,oT,ts,h1,h2,h3,h4,h5,h6,h7,h8,h9,bI,aL,bC,bB⟩:=xf;have fr:l.heap.FunFrames (fQ l.heap (uc X.stack++[e,T])) (X.env::X.outer):=by
  have q:=gy (as:=uc X.stack++[e,T]) I1.stack λb4 he a ha=>cR _ (fk.mpr ⟨b4,he,ha⟩);rw[G.1] at q ⊢;exact q
 have al:∀b∈[e,T],s0.heap.get? b=ah/\H1 b=ah:=λb z=>by
  have z':b=e\/b=T:=by simpa using z
  rcases z' with rfl|rfl
  .exact⟨h9,aL⟩
  .exact⟨bI,bC⟩
 have aB:∀b∈[e,T],H1 b=ah/\X.s₀.heap.get? b=ah:=λb z=>⟨(al b z).2,va (I0.there0 M) (al b z).1⟩;have aC:∀b∈[e,T],∀p∈X.pn++O,p.1≠b:=λb z p hp q=>by
  have:=(I0.pin p hp).1;rw[q,(al b z).1] at this;cases this
 refine zeq (base:=fQ l.heap (uc X.stack++[e,T])) (by rw[I1.ok.frames,G.1]) fr G.2 ⟨oe,vs,T,oT,ts,h1,⟨h2,bB⟩,h3,h4,eB _ (bP _ (by simp)),h5,h6,h7,h8⟩ (λb o q=>iY _ q) (eB _ (bP _ (by simp))) λg4 ⟨a1,a2,a3,av⟩=>?_;refine zhy (s:={ l with heap:=g4 }) a1 a2 a3 λg5 ⟨b1,b2,b3,an⟩=>?_;have hB:∀ {g:ax},(fQ l.heap (uc X.stack++[e,T])).StaysIn g->∀b o,l.heap.get? b=U o->b ∉ uc X.stack->b ∉ [e,T]->g.get? b=U o :=
  λ{g} k b o q n1 n2=>k b o (ig _ q λz=>(cj.mp z).elim n1 n2)
 have I5:aM X O j H1 { l with heap:=g5 }:=I1.land M aB aC (hB b1) (av.trans an);have K5:=I5.kIn;refine iW (gW ?_) (by intro q;cases q);refine xy (X:=X.sub e) (I5.toSub (e:=e)) bg be ?_ aA;have a4:iP (Bg X.prog X.w) g5 (typeOf (.ref e)) (.ref B):=by
  obtain⟨o,_,_,_,_,p1,p2,_⟩:=b3;exact p2.1.1 ▸ (mP p1).andThen .now
 refine(W.exm_one K5 a4 a8).here ?_;refine lP ?_;refine zhy (s:={ l with heap:=g5 }) b1 b2 b3 λg6 ⟨c1,c2,c3,a5⟩=>?_;have I6:aM X O j H1 { l with heap:=g6 }:=I1.land M aB aC (hB c1) ((av.trans an).trans a5);obtain⟨o6,aR,_,_,_,p6,q6,r6,_⟩:=c3;have aS:=q6.2.2 rfl;have eF:e ∉ X.fs:=λz=>by
  have z':e∈uc X.stack:=by
   rw[G.1];unfold uc;rw[iO];split
   .exact z
   .exact bF _ z
  obtain⟨o,z1,_⟩:=I0.stackFields z';rw[h9] at z1;cases z1
 have a6:e≠X.env.locals:=λz=>by
  obtain⟨m,⟨o,_,_,ho,_⟩,_⟩:=I0.loc;rw[<-z,h9] at ho;cases ho
 have Ip:aM X (O++[(e,o6)]) j H1 { l with heap:=g6 }:=I6.pins_of λp hp=>by
  rcases cj.mp hp with z|z
  .exact I6.pin p (bP _ z)
  .obtain rfl:=bY.mp z;exact⟨p6,aL,a6,eF,λv w=>by rw[r6] at w;cases w⟩
 refine cU (Q:=λ_ _=>False) (E:=X.xe) (fu ?_) (λ_ _ z=>z.elim) (ho e);obtain⟨tl,N,nm,qn,bs,hdct,sn,sub,ab,col,dd,k0,k1,k2,k3,k5,mN,hC,hN,hi,T⟩:=zfA I.ok.mod.kin qi;rw[arm_exec_Raise];refine ba (ir (zeF (h:=e) (C:=C) (nm:=nm) (qn:=qn) (N:=N) (bs:=bs) (bm:=tl) (hdct:=hdct) (sn:=sn) (sub:=sub) (ab:=ab) (col:=col) (dd:=dd) (k0:=k0) (k1:=k1) (k2:=k2) (k3:=k3) (k5:=k5) (nid:=jr) (T.hasType eo.hasBase) Y (λs R hR=>?_) (ba (cU (eA (xy (X:=X.sub e) Ip.toSub hg hm ?_ hd)) (λv s3 z=>ba (ir (bf z))) λ_ _ z=>z))))
 .exact ba (Constant_none (ba (ir (bf hR))))
 refine gJ (h₀:=X.base) I.ok.mod.kin kp (cU (ha e tX _ _ j H1 _ Ip.toSub a9) (λus s3 ⟨vs,H2,A,r,y,ev,q1⟩=>⟨A.kIn,?_⟩) λ_ _ z=>cx z) he hp;subst ev;obtain⟨u,rfl,ru⟩:∃u,us=[u]/\aU y u:=by
  cases r with
  |cons a b=>cases b;exact⟨_,Y,a⟩
 obtain⟨oI,bl,bk⟩:=ziq A.kIn fn;obtain⟨c,gs,dr,tt,os⟩:=s3;refine zdh eo (T.keeps A.bk) (A.bk _ _ hC) (hN.keeps A.bk) hi bl bk (by simp[dq]) ?_;have ge:(qq c C [u]).get? (c.objs.size+1)=U (kI C ah c.objs.size):=by heap_get
 have bt:H2 (c.objs.size+1)=ah:=A.hok.fresh (eM _);have J2:aM (X.sub e) (O++[(e,o6)]) j (upd H2 (c.objs.size+1) (exN (c.objs.size+1) C)) ⟨qq c C [u],gs,dr,tt,os⟩ :=
  A.laid (a:=c.objs.size+1) (o:=exN (c.objs.size+1) C) (t':=tt) (λb o q=>bc _ (bc _ q)) (eM _) ⟨⟨_,ge⟩,⟨_,ge⟩,λh1 h2 ⟨t,z⟩ k=>⟨t,k _ z⟩⟩
 have aw:Kp C f [.ref (c.objs.size+1),y] (upd H2 (c.objs.size+1) (exN (c.objs.size+1) C)) (λv H3=>v=.non/\∃d,H2 d=ah/\d≠c.objs.size+1/\H3=upd (upd (upd H2 (c.objs.size+1) (exN (c.objs.size+1) C)) d (.xd [(f,y)])) (c.objs.size+1) (exM (c.objs.size+1) C d)) E0 :=
  ⟨_,y,Y,zi,λd h1 h2=>⟨Y,d,by rw[zm h2] at h1;exact h1,h2,Y⟩⟩
 have r2:aQ [V.ref (c.objs.size+1),y] [bH (c.objs.size+1),u]:=.cons Y (.cons ru .nil);have hl:([bH (c.objs.size+1),u]++[]).length=ps.length:=by rw[<-F.len _ _ _ _ aw];rfl
 refine fN (eu (F.run (X.A.under (.builtin "type.__call__" ⟨.ref C::[u],[]⟩)) e X.stack _ _ ⟨[bH (c.objs.size+1),u],[]⟩ [bH (c.objs.size+1),u] _ _ (hr.make C [u] []) (J2.env0.make C [u] []) (bA _ [bH (c.objs.size+1),u] J2.kIn hl) r2 aw) λr s' hq=>?_);cases r with
 |error ev=>exact cx hq
 |ok fl =>
  cases fl with
  |ret u' =>
   obtain⟨v,H',J3,rv,ev,d,bw,dn,eH⟩:=J2.after hq;subst ev eH;obtain rfl:u'=cy:=rv;rw[zaV] at J3;have n3:upd H2 d (.xd [(f,y)]) (c.objs.size+1)=ah:=by rw[zm (cK dn)];exact bt
   obtain⟨⟨t,ht⟩,_⟩:=J3.hok (c.objs.size+1) _ zi;have J4:aM X (O++[(e,o6)]) j _ s':=aM.ofSub (J:=Ip) (J3.untrack n3);have pe:=(J4.pin (e,o6) (by simp)).1;have a7:e≠c.objs.size+1:=λz=>absurd (bG (A.pin (e,o6) (by simp)).1) (by rw[z];exact tM.mpr (eM _));have x0:X.s₀.heap.get? (c.objs.size+1)=ah:=mH (cg A.sz (eM _));refine⟨Y,_,t,U d,o6,aR,Y,J3.bk _ _ hC,ht,a7,pe,r6,aS,λg z1 z2=>?_⟩;have J5:aM X (O++[(e,o6)]) j (upd H2 d (.xd [(f,y)])) { s' with heap:=g }:=J4.land M (cs:=[c.objs.size+1]) (λb z=>by rw[bY.mp z];exact⟨n3,x0⟩)
    (λb z p hp w=>?_) (λb o q _ n=>z2 b o (λw=>n (by rw[w];simp)) q) λb o q n=>⟨o.slots,z2 b o (λw=>?_) q⟩
   .exact hx _ j _ _ _ _ _ (.ref t) J5 z1 Y Y Y () n3 x0 (q1 d bw)
   .rw[bY.mp z] at w;exact absurd (bG (A.pin p hp).1) (by rw[w];exact tM.mpr (eM _))
   .rw[w,ht] at q;cases q;exact n _ rfl
  |next=>exact cx hq
  |brk=>exact cx hq
  |cont=>exact cx hq
end
theorem FnM.mono{w:au}{K:bo}{mg:Str->Option ae}{base:ax}{j k:Nat}{f:L}{fd:Bc}{ps:List Str}{sp:Sp}(F:FnM P w K mg base j f fd ps sp)(h:j<=k):FnM P w K mg base k f fd ps sp:=
 ⟨F.len,λB e outer s H args us vs Q a=>F.run B e outer s H args us vs Q (a.mono h)⟩
theorem zm0{w:au}{K:bo}{i:Str->Option ae}{g:ax}{N:List Str}{d:Str}{a:az}{f:L}{j:ae}{A:aq}{b:List Env}{c:af}{h:Hp}{E:XK}(e:L) :
  PassesOwnAt (Bg P w) ((wU (uw P w) P w K i g N d a f j A b c h E).A.mark (U (.ref e))) (wU (uw P w) P w K i g N d a f j A b c h E).A (wU (uw P w) P w K i g N d a f j A b c h E).env (wU (uw P w) P w K i g N d a f j A b c h E).xe:=PassesOwnAt.leaving
theorem ExS.exk{K:bo}(c:ExS K C):ExK K C:=⟨c.toExC,by obtain⟨cd,h,_⟩:=se c.ov;rw[h];rfl⟩
end L2
namespace L2
open PySem PySem.Spec PySem.W PyProof.Rows PySem.Calls
end L2
namespace L2
open PySem
def zlH(m:Nat):Prop:=m=7\/m=31\/m=127
section
variable {t:SetTable}
end
end L2
namespace L2
open PySem PySem.Spec PyProof.Rows
section
variable {P:ap}{w:au}{A:aq}{E:ae->af->Prop}{s:af}{t:SetTable}
structure SetOk(t:SetTable)(n:Nat):Prop where
 dm:t.dummies=#[]
 sz:t.place.size=n
 mm:t.mask=7/\n<=4\/t.mask=31/\n<=18\/t.mask=127/\n<=76
theorem SetOk.msk(h:SetOk t n):zlH t.mask:=by
 rcases h.mm with h|h|h
 .exact .inl h.1
 .exact .inr (.inl h.1)
 .exact .inr (.inr h.1)
theorem SetOk.lt(h:SetOk t n):n<=t.mask:=by
 rcases h.mm with h|h|h <;> lia
theorem SetOk.fits(h:SetOk t n):t.fits n=ai:=by
 have:=h.lt;simp only[SetTable.fits,SetTable.fill,h.sz,h.dm,bS,beq_iff_eq,decide_eq_true_eq];exact⟨trivial,by simpa using this⟩
end
abbrev Xr(a:Array (Int×ae))(b:Nat)(t:SetTable):Obj:={ cls:=.type "set",dict:=ah,data:=.set a b t }
def zdj(w:au):Bool:=!w.params.followText "set-order"
def ut(w:au)(h:ax)(S:L)(b:List ae):Prop:=∃a c t,h.get? S=U (Xr a c t)/\(a.toList.map (·.2)).Perm b/\SetOk t a.size/\(t.plain=ai->b=[])/\t.led=zdj w
section
variable {P:ap}{w:au}{A:aq}{E:ae->af->Prop}{s:af}{t:SetTable}
theorem ut.at(x:ut w h S vs)(e:∀o,h.get? S=U o->h'.get? S=U o):ut w h' S vs:=let ⟨es,ep,t,a,r⟩:=x;⟨es,ep,t,e _ a,r⟩
theorem zbK(e:h.get? S=U (Xr #[] 0 (.fresh 0 0 (zdj w)))):ut w h S []:=
 ⟨#[],0,_,e,gD _,⟨Y,Y,.inl ⟨Y,()⟩⟩,λ_=>rfl,Y⟩
theorem ziy(a:ae){Q:ae->af->Prop}(h:Q (.ref s.heap.objs.size) { s with heap:=s.heap.push (Xr #[] 0 (.fresh 0 0 (zdj w))) }) :
  codeAny (Bg P w) A (.call (.builtin "set.__new__") ⟨[.type "set",a],[]⟩) (wants Q E) s:=by
 refine pO ?_;show Bf _ A.in1 (do checkBuiltinCall "set.__new__" ⟨[.type "set",a],[]⟩;again (.builtin "set.__new__" ⟨[.type "set",a],[]⟩)) _ _ s;refine ba (lV (PySem.F.newCall_set_1 a) (bf ⟨eZ pP _,dA PySem.F.entry_set_new ?_⟩));rw[cS pP _];unfold Builtin.«set.__new__» Builtin.Frozenset.newClass;have b:=sub_set_self;obtain⟨f,g,d,c,e⟩:=s;dsimp only
 wp_walk
 refine oP (bf ?_);dsimp only;simp only[newObj];refine ba (wpAny_alloc (bf ?_));exact bf h
set_option maxRecDepth 200000 in
end
theorem zdk:Manifest.owners.lookup (String.ofList ['r','o','t','a','r','e','t','i','_','t','e','s'].reverse)=U Manifest.sig_set_iterator:=by kernel_rfl
theorem t8:Slot "set_iterator" "__next__" "set_iterator.__next__":=.of (owner:="set_iterator") (n:="__next__") (by rw[pL,mz];kernel_rfl) () () () (by first|exact .inl ()|exact .inr ()) (by rw[rc];kernel_rfl)
theorem Wh:entryFor table "set_iterator.__next__"=U Builtin.«set_iterator.__next__»:=entryFor_of_tree (by kernel_rfl)
theorem JM(a:ae):argsOk "set_iterator.__next__" ⟨[a],[]⟩:=by
 unfold argsOk;rw[signature?_of (id:="set_iterator.__next__") (n:=['_','_','t','x','e','n','_','_']) (o:=['r','o','t','a','r','e','t','i','_','t','e','s']) (by kernel_rfl) zdk];kernel_rfl
theorem zfC:Slot "set_iterator" "__iter__" "set_iterator.__iter__":=.of (owner:="set_iterator") (n:="__iter__") (by rw[pL,mz];kernel_rfl) () () () (by first|exact .inl ()|exact .inr ()) (by rw[rc];kernel_rfl)
theorem zgz:entryFor table "set_iterator.__iter__"=U Builtin.«dict_keyiterator.__iter__»:=entryFor_alias (id':="dict_keyiterator.__iter__") (by kernel_rfl) Y () (by kernel_rfl)
theorem ziz(a:ae):argsOk "set_iterator.__iter__" ⟨[a],[]⟩:=by
 unfold argsOk;rw[signature?_of (id:="set_iterator.__iter__") (n:=['_','_','r','e','t','i','_','_']) (o:=['r','o','t','a','r','e','t','i','_','t','e','s']) (by kernel_rfl) zdk];kernel_rfl
theorem zgA:entryFor table "set.__iter__"=U Builtin.«frozenset.__iter__»:=entryFor_alias (id':="frozenset.__iter__") (by kernel_rfl) Y () (by kernel_rfl)
section
variable {P:ap}{w:au}{A:aq}{E:ae->af->Prop}{s:af}{t:SetTable}
def SIt(h:ax)(I:L)(f:ae)(i:Nat)(S:L)(n a:Nat):Prop:=h.get? I=U { cls:=.type "set_iterator",data:=.fields #[f,.int i 0,.ref S,.int n 0,.int a 0] }
theorem SIt.type(x:SIt s.heap I f i S n ep):s.TypeIs (.ref I) "set_iterator":=⟨_,x,Y⟩
theorem zfD{Q:ae->af->Prop}(x:SIt s.heap I f i S n ep)(h:Q (.ref I) s):Bf (Bg P w) A (pyIter (.ref I)) Q E s:=by
 refine lW x.type zfC (cH zfC x.type zgz ?_ (ziz _));show Bf _ _ (ret (.ref I)) _ _ s;exact bf ⟨_,Y,"set_iterator",_,x.type,t8.lookup,h⟩
theorem ziA{Q:Bool->af->Prop}(c:s.TypeIs (.ref S) "set")(h:Q ag s):Bf (Bg P w) A (m5 (.ref S)) Q E s:=by
 unfold m5;refine ba (wpAny_specialOf c PySem.F.slot_set_len.lookup ?_);generalize hid:("set.__len__":String)=id0
 wp_delta
 rw[show splitId id0=U ("set","__len__") from by subst hid;lia];subst hid;refine ba (iM (T:="set") (b:=ai) c (by rw[rc];kernel_rfl) ?_);refine gU (λa=>absurd a ()) (λ_=>?_);refine gU (λ_=>?_) (λa=>absurd () a);refine ba (my c ?_);exact bf h
end
section
variable {P:ap}{w:au}{A:aq}{E:ae->af->Prop}{s:af}{t:SetTable}
theorem zkb{k d i c:Nat}{b:Array (Int×ae)}{Q:Option ae->af->Prop}(a:SIt s.heap I (.int k 0) i S b.size c)(j:s.heap.get? S=U (Xr b c t))(p:t.fits b.size=ai) (g:∀(Q:Option (ae×Nat)->af->Prop) (E:ae->af->Prop),Q (U (x,d)) s->Bf (Bg P w) A.in1 (setNext S k i c) Q E s) (q:∀h,SIt h I (.int d 0) (i+1) S b.size c->cV I s.heap h->Q (U x) { s with heap:=h }):Bf (Bg P w) A (pyNext (.ref I)) Q E s:=by
 unfold pyNext;refine ba (eE (cC (name:=bb "__next__") a.type t8 (cH t8 a.type Wh ?_ (JM _))));unfold Builtin.«set_iterator.__next__»;refine ba (bf ?_);refine ba (fY a Y ?_);dsimp only;refine ba (gq j Y p ?_);rw[am (by simp)];simp only[cA];refine ba (g _ _ ?_);refine ba (cI a (by simp) λm o f=>?_);refine ba (cI (s:={ s with heap:=m }) o (by simp) λl n e=>?_);exact bf ⟨_,Y,bf (q l (by unfold SIt;rw[n];simp[rawInt]) (f.trans e))⟩
theorem zaW{I:L}{Q:Option ae->af->Prop}(g:A.handled=ah)(q:∀f,(∀b o,h.get? b=U o->f.get? b=U o)->Q ah { s with heap:=f }) :
  Bf (Bg P w) A.in1 (do let e <-newExc (fj "StopIteration") [];raiseNew e) (λd c=>∃v,d=Fin.done (Flow.ret v)/\Bf (Bg P w) A (pure (U v)) Q E c)
   (λe c=>Bf (Bg P w) A (do let b <-isInstance e (fj "StopIteration");if b=ai then pure ah else throw e) Q E c) { s with heap:=h }:=by
 refine ba ?_;simp only[newExc,newTuple];refine ba (cL ?_ (by size_fits));refine ba (m:=firstArgMember _ _) (lV (a:=cy) (by first|rfl|(simp only[firstArgMember];rfl)) ?_);refine cL ?_ (by size_fits);simp only[raiseNew];refine ba (mM ?_);rw[show A.in1.handled=ah from g];refine ba (bf (oA ?_));exact ba (iM (T:="StopIteration") (b:=ai) ⟨_,bp _ Y,Y⟩ nI (bf (q _ λb o e=>bc _ (bc _ e))))
theorem zkc{k i d:Nat}{c:Array (Int×ae)}{Q:Option ae->af->Prop}(l:A.handled=ah)(a:SIt s.heap I (.int k 0) i S c.size d)(m:s.heap.get? S=U (Xr c d t))(p:t.fits c.size=ai) (g:∀(Q:Option (ae×Nat)->af->Prop) (E:ae->af->Prop),Q ah s->Bf (Bg P w) A.in1 (setNext S k i d) Q E s) (q:∀h,(∀b o,b≠I->s.heap.get? b=U o->h.get? b=U o)->Q ah { s with heap:=h }):Bf (Bg P w) A (pyNext (.ref I)) Q E s:=by
 unfold pyNext;refine ba (eE (cC (name:=bb "__next__") a.type t8 (cH t8 a.type Wh ?_ (JM _))));unfold Builtin.«set_iterator.__next__»;refine ba (bf ?_);refine ba (fY a Y ?_);dsimp only;refine ba (gq m Y p ?_);rw[am (by simp)];simp only[cA];refine ba (g _ _ ?_);refine ba (cI a (by simp) λu v f=>?_);exact zaW (I:=I) l λn j=>q n λb o r e=>j b o (by rw[f.2 b r];exact e)
structure SDr(h:ax)(I T S:L)(i:Nat)(es:Array (Int×ae))(ep:Nat)(t:SetTable)(π:List Nat):Prop where
 it:SIt h I (.ref T) i S es.size ep
 tp:h.get? T=U { cls:=.type "tuple",data:=.seq (π.map λ(k:Nat)=>rawInt k).toArray }
 st:h.get? S=U (Xr es ep t)
theorem zkd{b:Array (Int×ae)}{e:Int×ae}{Q:Option ae->af->Prop}(D:SDr s.heap I T S i b ep t π)(c:t.fits b.size=ai)(f:π[i]?=U k)(g:b[k]?=U e) (q:∀h,SIt h I (.ref T) (i+1) S b.size ep->cV I s.heap h->Q (U e.2) { s with heap:=h }):Bf (Bg P w) A (pyNext (.ref I)) Q E s:=by
 have a:=D.it;unfold pyNext;refine ba (eE (cC (name:=bb "__next__") a.type t8 (cH t8 a.type Wh ?_ (JM _))));unfold Builtin.«set_iterator.__next__»;refine ba (bf ?_);refine ba (fY a Y ?_);dsimp only;refine ba (gq D.st Y c ?_);rw[am (by simp)];refine ba (nK D.tp Y ?_);have m:(π.map λ(k:Nat)=>rawInt k).toArray[i]?=U (rawInt k):=by rw[pQ,bW,f];rfl
 simp only[cA,m];show Bf _ _ (setNextDrawn S (Int.toNat k) ep >>= _) _ _ _;rw[cA];refine ba ?_;unfold setNextDrawn;refine ba (iw D.st Y c ?_);simp only[bne_self_eq_false,cu,if_false,g];refine bf ?_;refine ba (cI a (by simp) λj l d=>?_);exact bf ⟨_,Y,bf (q j (by unfold SIt;rw[l];simp[rawInt]) d)⟩
theorem zke{c:Array (Int×ae)}{Q:Option ae->af->Prop}(m:A.handled=ah)(D:SDr s.heap I T S i c ep t π)(u:t.fits c.size=ai)(l:π.length<=i) (q:∀h,(∀b o,b≠I->s.heap.get? b=U o->h.get? b=U o)->Q ah { s with heap:=h }):Bf (Bg P w) A (pyNext (.ref I)) Q E s:=by
 have a:=D.it;unfold pyNext;refine ba (eE (cC (name:=bb "__next__") a.type t8 (cH t8 a.type Wh ?_ (JM _))));unfold Builtin.«set_iterator.__next__»;refine ba (bf ?_);refine ba (fY a Y ?_);dsimp only;refine ba (gq D.st Y u ?_);rw[am (by simp)];refine ba (nK D.tp Y ?_);have v:(π.map λ(k:Nat)=>rawInt k).toArray[i]?=ah:=by rw[pQ,bW,ck l];rfl
 simp only[cA,v];refine ba (cI a (by simp) λn r g=>?_);refine ba (cI (s:={ s with heap:=n }) r (by simp) λx y f=>?_);exact zaW (I:=I) m λp j=>q p λb o d e=>j b o (by rw[f.2 b d,g.2 b d];exact e)
theorem ziB(C:A.handled=ah){I T S:L}(z:T≠I)(y:S≠I){ep:Nat}{d:Array (Int×ae)}{c:List Nat}(x:t.fits d.size=ai)(j:c.Perm (dH d.size)) :
  Walks P w A I [I,T,S] [I] d.size (λi v=>∃k e,c[i]?=U k/\d[k]?=U e/\v=e.2) (λi h=>SDr h I T S i d ep t c) where
 sub:=λb f=>by simp at f;simp[f]
 frame:=λ_ _ _ a m=>⟨m I (by simp) _ a.it,m T (by simp) _ a.tp,m S (by simp) _ a.st⟩
 item:=λi s Q E H a g=>by
  have G:c.length=d.size:=by have:=j.length_eq;simpa using this
  have u:c[i]?=U c[i]:=bj ();have B:c[i]<d.size:=by have:=j.mem_iff.mp (oQ (l:=c) (n:=i) ());simpa using this
  have r:d[c[i]]?=U d[c[i]]:=cG B;refine zkd a x u r λq D p=>g _ q s.toks ⟨_,_,u,r,Y⟩ ⟨D,by rw[p.2 T z];exact a.tp,by rw[p.2 S y];exact a.st⟩ λb o f e=>by rw[p.2 b (by simpa using f)];exact e
 done:=λs Q E a g=>zke C a x (by have:=j.length_eq;simp at this;lia) λq k=>g q s.toks λb o f e=>k b o (by simpa using f) e
 self:=λ_ _ _ _ a g=>zfD a.it g
end
theorem Xs{a:Type}:∀ {l:List a} {i:Nat} {x:a},l[i]?=U x->(x::l.eraseIdx i).Perm l
 |[],i,x,h=>by simp at h
 |y::l,0,x,h=>by
  simp only[bd,bh] at h;subst h;exact gD _
 |y::l,i+1,x,h=>by
  have b:=Xs (l:=l) (i:=i) (x:=x) (by simpa using h);exact(tG ..).trans (b.cons y)
theorem zfE{b:Type}(f:Nat->Nat):∀(n k:Nat) (l:List b) (a:Array b),l.length=n->(pickOrder.go f n k l a).toList.Perm (a.toList++l)
 |0,k,l,a,h=>by
  have:l=[]:=c8 h;subst this;rw[bu];exact gD _
 |n+1,k,l,a,h=>by
  have c:f k%l.length<l.length:=sk _ ();have e:l[f k%l.length]?=U l[f k%l.length]:=bj c;unfold pickOrder.go;rw[e];dsimp only;refine(zfE f n (k+1) _ _ (by rw[nu c];lia)).trans ?_;rw[Array.toList_push,cN];exact(Xs e).append_left _
theorem ziC{b:Type}(f:Nat->Nat)(a:Array b):(pickOrder f a).toList.Perm a.toList:=by
 exact zfE f a.size 0 a.toList #[] (by simp)
section
variable {P:ap}{w:au}{A:aq}{E:ae->af->Prop}{s:af}{t:SetTable}
theorem zkf{Q:Nat->af->Prop}(a:n≠0)(h:∀i d,i<n->Q i { s with drawn:=d }):Bf (Bg P w) A (choose src n) Q E s:=λ_ _ _=>by
 unfold choose;rw[Sem.wp_choose];refine⟨a,?_⟩;exact h _ _ (sk _ (Nat.pos_of_ne_zero a))
theorem zdl{e:Type}:∀(n:Nat) (a:List e) (s:af) (Q:List e->af->Prop),a.length=n->(∀b d,b.Perm a->Q b { s with drawn:=d })->Bf (Bg P w) A (drawOrder n a) Q E s
 |0,a,s,Q,h,q=>by
  have:a=[]:=c8 h;subst this;unfold drawOrder;exact bf (q [] s.drawn (gD _))
 |n+1,[],s,Q,h,q=>by cases h
 |n+1,x::a,s,Q,h,q=>by
  unfold drawOrder;refine ba (zkf (by simp) λi d c=>?_);rw[bj c];dsimp only;refine ba (zdl n _ _ _ (by rw[nu c];simp at h ⊢;lia) λb f p=>?_);exact bf (q _ f ((p.cons _).trans (Xs (bj c))))
theorem zdm(z:A.handled=ah){I S:L}(y:S≠I){g:Nat}{d:Array (Int×ae)}(r:t.fits d.size=ai)(c:List ae)(lo:c.length=d.size)(l:Nat->Nat) (u:∀(i:Nat) (v:ae) (s:af) (A:aq),s.heap.get? S=U (Xr d g t)->c[i]?=U v->∀(Q:Option (ae×Nat)->af->Prop) (E:ae->af->Prop),Q (U (v,l (i+1))) s->Bf (Bg P w) A (setNext S (l i) i g) Q E s) (x:∀(s:af) (A:aq),s.heap.get? S=U (Xr d g t)->∀(Q:Option (ae×Nat)->af->Prop) (E:ae->af->Prop),Q ah s->Bf (Bg P w) A (setNext S (l d.size) d.size g) Q E s) :
  Walks P w A I [I,S] [I] d.size (λi v=>c[i]?=U v) (λi h=>SIt h I (.int (l i) 0) i S d.size g/\h.get? S=U (Xr d g t)) where
 sub:=λb f=>by simp at f;simp[f]
 frame:=λ_ _ _ a p=>⟨p I (by simp) _ a.1,p S (by simp) _ a.2⟩
 item:=λi s Q E C a j=>by
  have n:c[i]?=U c[i]:=bj ();exact zkb a.1 a.2 r (u i _ s _ a.2 n) λm B q=>j _ m s.toks n ⟨B,by rw[q.2 S y];exact a.2⟩ λb o f e=>by rw[q.2 b (by simpa using f)];exact e
 done:=λs Q E a j=>zkc z a.1 a.2 r (x s _ a.2) λm k=>j m s.toks λb o f e=>k b o (by simpa using f) e
 self:=λ_ _ _ _ a j=>zfD a.1 j
theorem YQ{Q:Bool->af->Prop}(h:Q (w.params.followText "set-order") s):Bf (Bg P w) A setsByText Q E s:=by
 unfold setsByText;exact ba (oP (bf h))
theorem zfF{S:L}{k i b:Nat}{a:Array (Int×ae)}(e:w.params.followText "set-order"=ai)(c:s.heap.get? S=U (Xr a b t))(d:t.fits a.size=ai){Q:Option (ae×Nat)->af->Prop}
  (q:Q ((((pickOrder (w.params.setOrder S b) a).toList.map (·.2))[i]?).map λv=>(v,k)) s):Bf (Bg P w) A (setNext S k i b) Q E s:=by
 unfold setNext;refine ba (iw c Y d ?_);refine ba (YQ ?_);rw[e,ao rfl];dsimp only;rw[am (by simp)];unfold setWalk;refine ba (ba (iw c Y d ?_));refine ba (YQ ?_);rw[e,ao rfl];refine ba (oP (bf ?_));refine bf ?_;rw[bW,cQ,nH] at q;exact q
theorem zfG{S:L}{k i b:Nat}{a:Array (Int×ae)}(f:w.params.followText "set-order"=ag)(d:s.heap.get? S=U (Xr a b t))(e:t.fits a.size=ai)(g:a.size<=1)(ld:t.led=ai){Q:Option (ae×Nat)->af->Prop}
  (q:Q (match a[iH t.place k]?,t.place[iH t.place k]? with|some (_,x),U j=>U (x,j+1)|_,_=>ah) s):Bf (Bg P w) A (setNext S k i b) Q E s:=by
 unfold setNext;refine ba (iw d Y e ?_);refine ba (YQ ?_);rw[f,am bT];dsimp only;refine gU (λc=>absurd c (show ¬ ((!t.plain&&decide (a.size > 1))=ai) by simp;lia)) λ_=>?_;refine ba ?_;show Bf _ _ (if (!t.led && !a.isEmpty)=ai then _ else _) _ _ _;rw[ld,am (by simp)];refine bf ?_;exact bf q
end
section
variable {P:ap}{w:au}{A:aq}{E:ae->af->Prop}{s:af}{t:SetTable}
theorem ziD(j:Nat):iH #[j] 0=0:=by
 simp[iH,sC]
theorem ziE(j:Nat):iH #[j] (j+1)=1:=by
 simp[iH,sC]
theorem Walks.weak{I:L}{b a:List L}{n:Nat}{d c:Nat->ae->Prop}{St:Nat->ax->Prop}(W:Walks P w A I b a n d St)(h:∀i v,d i v->c i v):Walks P w A I b a n c St where
 sub:=W.sub
 frame:=W.frame
 item:=λi s Q E g f j=>W.item i s Q E g f λv k e p=>j v k e (h i v p)
 done:=W.done
 self:=W.self
theorem ziF{S:L}{ep:Nat}{a:Array (Int×ae)}(f:s.heap.get? S=U (Xr a ep t))(g:SetOk t a.size)(pn:t.plain=ai->a.size=0)(ld:t.led=zdj w)(J:A.handled=ah){Q:ae->af->Prop}
  (q:∀(h:ax) d (I:L) (r:List ae) (fp:List L) (St:Nat->ax->Prop),(∀b o,s.heap.get? b=U o->h.get? b=U o)->s.heap.objs.size<=I->r.Perm (a.toList.map (·.2))->(∀b∈fp,b=S\/s.heap.objs.size<=b) ->
   Walks P w A I fp [I] a.size (λi v=>r[i]?=U v) St->St 0 h->Q (.ref I) { s with heap:=h,drawn:=d }):Bf (Bg P w) A (pyIter (.ref S)) Q E s:=by
 have hT:s.TypeIs (.ref S) "set":=⟨_,f,Y⟩;have lS:S<s.heap.objs.size:=bG f;refine lW hT pR (cH pR hT zgA ?_ (PySem.F.args_set_iter_1 _));unfold Builtin.«frozenset.__iter__»;refine ba (m:=Builtin.Frozenset.slot0 _ _) (bf ?_);refine ba (m:=Builtin.Frozenset.sizeOf S) (ba (gq f Y g.fits (bf ?_)));unfold setDrawn;refine ba (ba (iw f Y g.fits ?_));refine ba (YQ (bf ?_));have le:a.size<=127:=by have:=g.lt;rcases g.msk with e|e|e <;> lia
 have zl:(128:Nat)<=Bb:=by lia
 refine gU (λc=>?_) λc=>?_
 .have H:(!w.params.followText "set-order" && (!t.plain&&decide (a.size > 1)))=ai:=c;refine ba (zdl a.size (dH a.size) s _ (by simp) λn d p=>?_);have lp:n.length=a.size:=by have:=p.length_eq;simpa using this
  refine ba (p9 ?_ (by rw[bi,lp];lia));have M:=bc { cls:=fj "tuple",data:=.seq (n.map λ(i:Nat)=>rawInt i).toArray } f;refine ba (wpAny_setEpoch_of (s:={ s with heap:=s.heap.push { cls:=.type "tuple",data:=.seq (n.map λ(i:Nat)=>rawInt i).toArray },drawn:=d }) M rfl g.fits ?_);refine ba (m:=newFields _ _) (cL (bf ⟨_,Y,"set_iterator",_,⟨_,bp _ Y,Y⟩,t8.lookup,?_⟩));obtain⟨h,G⟩:∃h:ax,h=s.heap.push { cls:=.type "tuple",data:=.seq (n.map λ(i:Nat)=>rawInt i).toArray }:=⟨_,Y⟩;have C:h.objs.size=s.heap.objs.size+1:=by rw[G,gA]
  have gT:h.get? s.heap.objs.size=U { cls:=.type "tuple",data:=.seq (n.map λ(i:Nat)=>rawInt i).toArray }:=G ▸ bp _ rfl;have k1:∀b o,s.heap.get? b=U o->h.get? b=U o:=λb o e=>G ▸ bc _ e;rw[<-G];have wk:=ziB (P:=P) (w:=w) (I:=h.objs.size) (T:=s.heap.objs.size) (S:=S) (ep:=ep) J (by rw[C];exact bV (iL _)) (by rw[C];exact bV (gc lS)) g.fits p;refine q _ d h.objs.size (n.map λk=>(a.toList.map (·.2)).getD k cy) _ _ (λb o e=>bc _ (k1 b o e)) (by rw[C];exact eM _) ?_ ?_ (Walks.weak wk λi v=>?_) ⟨bp _ Y,bc _ gT,bc _ (k1 _ _ f)⟩
  .refine(p.map _).trans ?_;have e2:(dH a.size).map (λk=>(a.toList.map (·.2)).getD k cy)=a.toList.map (·.2):=by
    apply List.ext_getElem
    .simp
    .intro i h N;simp[nv,bj N];simp at N;rw[cG N];rfl
   rw[e2]
  .intro b y;simp only[bJ,dE,or_false] at y;rcases y with rfl|rfl|rfl
   .exact .inr (by rw[C];exact eM _)
   .exact .inr (br _)
   .exact .inl rfl
  .rintro⟨k,e,a1,a2,rfl⟩;rw[bW,a1];simp[nv,a2]
 .have H:¬ ((!w.params.followText "set-order" && (!t.plain&&decide (a.size > 1)))=ai):=c;refine ba (bf ?_);refine ba (wpAny_setEpoch_of f Y g.fits ?_);refine ba (m:=newFields _ _) (cL (bf ⟨_,Y,"set_iterator",_,⟨_,bp _ Y,Y⟩,t8.lookup,?_⟩));have sI:S≠s.heap.objs.size:=bV lS;have B:∀b∈[s.heap.objs.size,S],b=S\/s.heap.objs.size<=b:=λb y=>by
   simp only[bJ,dE,or_false] at y;rcases y with rfl|rfl
   .exact .inr (br _)
   .exact .inl rfl
  by_cases l:w.params.followText "set-order"=ai
  .have p:=(ziC (w.params.setOrder S ep) a).map (·.2);have lo:((pickOrder (w.params.setOrder S ep) a).toList.map (·.2)).length=a.size:=by have:=p.length_eq;rw[this];simp
   exact q _ s.drawn _ _ _ _ (λb o e=>bc _ e) (br _) p B (zdm J sI g.fits _ lo (λ_=>0) (λi v s A f x Q E q=>zfF l f g.fits (by rw[x];exact q)) λs A f Q E q=>zfF l f g.fits (by rw[ck (by rw[lo];exact br _)];exact q)) ⟨bp _ Y,bc _ f⟩
  .have l:w.params.followText "set-order"=ag:=by simpa using l
   have O:a.size<=1:=by
    cases hp:t.plain with
    |true=>have:=pn hp;lia
    |false=>rw[l,hp] at H;simp at H;exact H
   have u:t.led=ai:=by rw[ld];unfold zdj;rw[l];rfl
   refine q _ s.drawn _ (a.toList.map (·.2)) _ _ (λb o e=>bc _ e) (br _) (gD _) B (zdm J sI g.fits _ (by simp) (λi=>if i=0 then 0 else t.place.getD 0 0+1) (λi v s A f x Q E q=>?_) λs A f Q E q=>?_) ⟨bp _ Y,bc _ f⟩
   .have i0:i<a.size:=by have:=(bE.mp x).1;simpa using this
    obtain⟨j,D⟩:=mC.mp (show t.place.size=1 by rw[g.sz];lia);obtain⟨e,he⟩:=mC.mp (show a.size=1 by lia);have i1:i=0:=by lia
    subst i1;subst he;simp only[bN,bd,bh] at x;subst x;refine zfG l f g.fits O u ?_;rw[ao Y,D,ziD];rw[D] at q;exact q
   .refine zfG l f g.fits O u ?_;rcases rW a.size with z|z
    .rw[eW (xs:=a) ()];exact q
    .obtain⟨j,D⟩:=mC.mp (show t.place.size=1 by rw[g.sz];lia);rw[am (),D];rw[show (#[j]:Array Nat).getD 0 0=j from rfl,ziE,eW (xs:=a) ()];exact q
theorem zdn{R:List ae->af->Prop}(hS:ut w s.heap S vs)(hh:A.handled=ah) (h:∀(m:ax) (G:Nat) d (ord:List ae),(∀b o,s.heap.get? b=U o->m.get? b=U o)->ord.Perm vs->R ord { s with heap:=m,toks:=G,drawn:=d }):Bf (Bg P w) A (collect (.ref S)) R E s:=by
 obtain⟨Q,ep,t,N,pm,ok,pn,ld⟩:=hS;have le:Q.size<=127:=by have:=ok.lt;rcases ok.msk with e|e|e <;> lia
 have zl:(128:Nat)<=Bb:=by lia
 unfold collect;refine ba (md (dA mI ?_));rw[cS gR _];show Bf _ A.in1 (newList [] >>= λl=>again (.builtin "list.__iadd__" ⟨[l,.ref S],[]⟩)) _ _ s;refine ba (cL ?_);refine bf ⟨eZ eO _,dA oO ?_⟩;rw[cS eO _];obtain⟨D,e0⟩:∃D:ax,D=s.heap.push { cls:=.type "list",data:=.seq ([]:List ae).toArray }:=⟨_,Y⟩;rw[<-e0];have M:∀b o,s.heap.get? b=U o->D.get? b=U o:=λb o e=>e0 ▸ bc _ e;have hL:D.get? s.heap.objs.size=U { cls:=.type "list",data:=.seq #[] }:=e0 ▸ bp _ rfl;have lS:S<s.heap.objs.size:=bG N;have L0:s.heap.objs.size<D.objs.size:=bG hL;show Bf _ A.in1 (da (.ref s.heap.objs.size) (.ref S) (.ref s.heap.objs.size)) _ _ _;unfold da;refine ba (my (s:={ s with heap:=D }) (T:="set") ⟨_,M _ _ N,rfl⟩ ?_);have C:gk (.ref s.heap.objs.size) (.ref S)=ag:=by simp[gk,(dP lS:s.heap.objs.size≠S)]
 simp only[C,show (fj "set" == fj "list")=ag by lia,show (fj "set" == fj "tuple")=ag by lia,oz,cu,if_false];refine ba (ziF (P:=P) (A:=A.in1) (s:={ s with heap:=D }) (M _ _ N) ok (λz=>by have:=pn z;subst this;have:=pm.length_eq;simpa using this) ld hh λC d I ord fp St k1 lI po pf W st=>?_);have B:=k1 _ _ hL;have Lf:s.heap.objs.size ∉ fp:=λz=>by
  rcases pf _ z with e|e
  .exact absurd e (dP lS)
  .exact absurd L0 (tM.mpr e)
 have aa:∀(j:ax) (c:Nat),St 0 j->(∀b o,b≠s.heap.objs.size->C.get? b=U o->j.get? b=U o)->j.get? s.heap.objs.size=U { cls:=.type "list",data:=.seq #[] c } ->
   codeAny (Bg P w) A (.builtin "list.extend.loop" ⟨[.ref s.heap.objs.size,.ref I,.ref s.heap.objs.size],[]⟩) (λ(q:aD) (k:af)=>∃(m:ax) (G:Nat) (g:Array ae) (c:Nat),q=.ok (.ret (.ref s.heap.objs.size))/\k={ s with heap:=m,toks:=G,drawn:=d } /\
    (∀b o,s.heap.get? b=U o->m.get? b=U o)/\m.get? s.heap.objs.size=U { cls:=.type "list",dict:=ah,data:=.seq g c,slots:=#[] }/\ItemsOf (λi v=>ord[i]?=U v) g Q.size) { s with heap:=j,drawn:=d }:=λj c p k2 y=>by
  refine codeAny_extend_loopS W.toS () s.heap.objs.size Lf _ Q.size 0 _ #[] c Y (bU _) p y (ItemsOf.nil _) λk J c' hm u f=>?_;refine⟨k.heap,k.toks,J,c',Y,Moved.eq_with hm,λb o e=>?_,u,f⟩;have bl:=bG e;refine hm.heap b o (λz=>?_) (k2 b o (bV bl) (k1 _ _ (M _ _ e)));rcases bJ.mp z with z|z
  .exact absurd z (bV bl)
  .exact absurd (bY.mp z) (bV (cq (pB bl L0) lI))
 have n:∀(j:ax) (c:Nat),St 0 j->(∀b o,b≠s.heap.objs.size->C.get? b=U o->j.get? b=U o)->j.get? s.heap.objs.size=U { cls:=.type "list",data:=.seq #[] c } ->
   codeAny (Bg P w) A (.builtin "list.extend.loop" ⟨[.ref s.heap.objs.size,.ref I,.ref s.heap.objs.size],[]⟩) (λr k=>match r with|.ok (.ret v)=>Bf (Bg P w) A (match v with|bH a=>do { let o <-load a;match o.data with|Data.seq xs epoch=>pure xs.toList|x=>unsupported "internal:collect" }|x=>unsupported "internal:collect") R E k|.ok a=>False|.error e=>E e k) { s with heap:=j,drawn:=d }:=λj c p k2 y=>by
  refine eu (aa j c p k2 y) λq k x=>?_;obtain⟨m,G,g,c,rfl,rfl,hk,u,f⟩:=x;show Bf _ A (load s.heap.objs.size >>= _) _ _ _;refine ba (nQ u ?_);have ea:g.toList=ord:=by
   have lo:ord.length=Q.size:=by have:=(po.trans (gD _)).length_eq;simpa using this
   apply dY;intro i;rcases fe i g.size with z|z
   .rw[cQ,cG z];exact(f.2 i _ (cG z)).symm
   .rw[ck (by simpa using z),ck (by rw[lo,<-f.1];exact z)]
  exact bf (ea ▸ h m G d g.toList hk (ea ▸ po.trans pm))
 refine ba (dh (ziA ⟨_,k1 _ _ (M _ _ N),Y⟩ ?_));refine gU (λ_=>?_) λ_=>bf ⟨eZ dJ _,n C _ st (λ_ _ _ e=>e) B⟩;refine ba (pT (ba ?_));show Bf _ _ (updateSeq s.heap.objs.size (·.push .none) >>= λ_=>updateSeq s.heap.objs.size (·.pop)) _ _ _;refine ba (gS B Y ?_);have g2:=cW (fm (·.push cy)) B rfl;refine gS (hz:=by seq_fits) g2 Y ?_;have g3:=cW (fm (·.pop)) g2 rfl;have H:∀b o,b≠s.heap.objs.size->C.get? b=U o->((C.update s.heap.objs.size (fm (·.push cy))).update s.heap.objs.size (fm (·.pop))).get? b=U o:=λb o O e=>(cO _ _ (cK O)).trans ((cO _ _ (cK O)).trans e);exact bf ⟨eZ dJ _,n _ _ (W.frame 0 _ _ st λb O o e=>H b o (λz=>Lf (z ▸ O)) e) H g3⟩
end
end L2
namespace L2
open PySem PySem.Spec PySem.W PyProof.Rows
section
variable {X:Cx}
theorem aM.drew{σ:St}{H:Hp}{s:af}{d:Drawn}(I:aM X aa σ H s):aM X aa σ H { s with drawn:=d }:=⟨I.ok,I.os,I.bare,I.base,I.loc,I.cell,I.free,I.freeC,I.pin,I.hok,I.len⟩
end
end L2
namespace L2
open PySem PySem.Spec PyProof.Rows
section
variable {P:ap}{w:au}{A:aq}{E:ae->af->Prop}{s:af}
theorem ziG{Q:ae->af->Prop}(a:s.heap.IsStrIter it "str_ascii_iterator" x t i)(e:x.cps[i]?=U c) (q:∀h,h.IsStrIter it "str_ascii_iterator" x t (i+1)->cV it s.heap h->Q (.str ⟨#[c]⟩ s.toks) { s with heap:=h,toks:=s.toks+1 }):Bf (Bg P w) A (f6 (.ref it)) Q E s:=by
 obtain⟨o,d,f,b⟩:=id a;unfold f6;refine ba (cC (name:=bb "__next__") a.typeIs fi (cH fi a.typeIs l9 ?_ (lL _)));show Bf _ _ (field (.ref it) 0 >>= _) _ _ s;refine ba (dD d b (x:=.str x t) Y ?_);show Bf _ _ (field (.ref it) 1 >>= _) _ _ s;refine ba (dD d b (x:=.int i 0) Y ?_);simp only[cA,e];refine ba (fG d b (by simp) (ba (wpAny_mkStr (bf ⟨_,Y,bf (q _ ?_ (gp ..))⟩) (by show 1<=Bb;decide))));exact⟨_,cW _ d (fS (fo b _)),(nX ..).trans f,by rw[fo b];simp[rawInt]⟩
theorem zkg{Q:ae->af->Prop}(g:A.handled=ah)(b:s.heap.IsStrIter it "str_ascii_iterator" x t i)(f:x.cps[i]?=ah) (j:∀h e,rp it s.heap h->(∃o,h.get? e=U o/\o.cls=.type "StopIteration")->E (.ref e) { s with heap:=h }):Bf (Bg P w) A (f6 (.ref it)) Q E s:=by
 obtain⟨o,c,k,d⟩:=id b;unfold f6;refine ba (cC (name:=bb "__next__") b.typeIs fi (cH fi b.typeIs l9 ?_ (lL _)));show Bf _ _ (field (.ref it) 0 >>= _) _ _ s;refine ba (dD c d (x:=.str x t) Y ?_);show Bf _ _ (field (.ref it) 1 >>= _) _ _ s;refine ba (dD c d (x:=.int i 0) Y ?_);simp only[cA,f];refine ba (pT (ba (fG c d (by simp) (ba (rq ?_)))));show Bf _ _ (newExc (.type "StopIteration") [] >>= _) _ _ _;refine ba ?_;simp only[newExc,newTuple];refine ba (cL ?_ (by size_fits));refine ba (m:=firstArgMember _ _) (lV (a:=cy) (by first|rfl|(simp only[firstArgMember];rfl)) ?_);refine cL ?_ (by size_fits);simp only[raiseNew];refine ba (mM ?_);rw[show A.in1.handled=ah from g];refine ba (bf (oA ?_));exact j _ _ (((gp ..).extBut.push _).push _) ⟨_,bp _ Y,Y⟩
theorem zkh{i c:Nat}{Q:Option ae->af->Prop}(B:IsEnum s.heap e it i old)(H:s.heap.IsStrIter it "str_ascii_iterator" x t i)(hx:x.cps[i]?=U c)(j:e≠it) (q:∀h,IsEnumOut h e it ((i:Int)+1) (.str ⟨#[c]⟩ s.toks) s.heap.objs.size->h.IsStrIter it "str_ascii_iterator" x t (i+1)->h.get? s.heap.objs.size=U { cls:=.type "tuple",data:=.seq #[.int i (s.toks+1),.str ⟨#[c]⟩ s.toks] } ->
   (∀b o,b≠e->b≠it->s.heap.get? b=U o->h.get? b=U o)->Q (U (.ref s.heap.objs.size)) { s with heap:=h,toks:=s.toks+1+1 }):Bf (Bg P w) A (pyNext (.ref e)) Q E s:=by
 have hT:s.TypeIs (.ref e) "enumerate":=⟨_,B,Y⟩;unfold pyNext;refine ba (eE (cC (name:=bb "__next__") hT gX (cH gX hT pd ?_ (oG _))));obtain⟨l,g,d,a,k⟩:=s;show Bf _ _ (field (.ref e) 2 >>= _) _ _ _;refine ba (dD B Y (x:=.ref it) Y ?_);refine ba (ziG H hx λh1 G z=>?_);have z:cV it l h1:=z;have e1:IsEnum h1 e it i old:=(z.2 e j).trans B;show Bf _ _ (field (.ref e) 3 >>= _) _ _ ⟨h1,g,d,a+1,k⟩;refine ba (dD e1 Y (x:=rawInt i) Y ?_);show Bf _ _ (field (.ref e) 4 >>= _) _ _ ⟨h1,g,d,a+1,k⟩;refine ba (dD e1 Y (x:=.none) Y ?_);show Bf _ _ (mkInt i >>= _) _ _ ⟨h1,g,d,a+1,k⟩;refine ba (wpAny_mkInt ?_);show Bf _ _ (setField (.ref e) 3 (rawInt ((i:Int)+1)) >>= _) _ _ ⟨h1,g,d,a+1+1,k⟩;refine ba (cI e1 (by simp) λh2 e2 y=>?_);have y:cV e h1 h2:=y;have e2:IsEnum h2 e it ((i:Int)+1) old:=e2;show Bf _ _ (setField (.ref e) 4 .none >>= _) _ _ ⟨h2,g,d,a+1+1,k⟩;refine ba (cI e2 (by simp) λh3 T v=>?_);have v:cV e h2 h3:=v;have T:IsEnum h3 e it ((i:Int)+1) old:=T;show Bf _ _ (newTuple [.int i (a+1),.str ⟨#[c]⟩ a] >>= _) _ _ ⟨h3,g,d,a+1+1,k⟩;refine ba (p9 ?_);have C:IsEnum (h3.push { cls:=.type "tuple",data:=.seq #[.int i (a+1),.str ⟨#[c]⟩ a] }) e it ((i:Int)+1) old:=bc _ T;generalize hh4:h3.push { cls:=.type "tuple",data:=.seq #[.int i (a+1),.str ⟨#[c]⟩ a] }=h4 at C;have sz:h3.objs.size=l.objs.size:=by rw[v.1,y.1,z.1]
 have J:e<l.objs.size:=bG B;have t4:h4.get? l.objs.size=U { cls:=.type "tuple",data:=.seq #[.int i (a+1),.str ⟨#[c]⟩ a] }:=by rw[<-hh4,<-sz];exact bp _ rfl
 have k4:∀b o,b≠e->b≠it->l.get? b=U o->h4.get? b=U o:=λb o f m I=>by
  rw[<-hh4];exact bc _ (v.extBut b o f (y.extBut b o f (z.extBut b o m I)))
 have D:h4.IsStrIter it "str_ascii_iterator" x t (i+1):=by
  rw[<-hh4];obtain⟨o,ho,r⟩:=(G.extBut y.extBut (cK j)).extBut v.extBut (cK j);exact⟨o,bc _ ho,r⟩
 show Bf _ _ (iX (.ref e) >>= _) _ _ ⟨h4,g,d,a+1+1,k⟩;rw[sz];refine ba ?_;unfold iX;refine ba (dD C Y (x:=.none) Y (bf ?_));simp only[if_true];refine ba (pT ?_);refine ba (dD C Y (x:=old) Y ?_);refine ba (cI C (by simp) λh5 O u=>?_);have u:cV e h4 h5:=u;have O:IsEnum h5 e it ((i:Int)+1) (.str ⟨#[c]⟩ a):=O;show Bf _ _ (iI (.ref e) (.ref l.objs.size) >>= _) _ _ ⟨h5,g,d,a+1+1,k⟩;refine ba ?_;unfold iI;refine ba (cI O (by simp) λh6 N p=>?_);have p:cV e h5 h6:=p;have N:IsEnumOut h6 e it ((i:Int)+1) (.str ⟨#[c]⟩ a) l.objs.size:=N;refine cI N (by simp) λh7 M n=>?_;have n:cV e h6 h7:=n;have M:IsEnumOut h7 e it ((i:Int)+1) (.str ⟨#[c]⟩ a) l.objs.size:=M;refine ba (rq (bf ⟨_,Y,bf (q h7 M ?_ ?_ ?_)⟩))
 .exact((D.extBut u.extBut (cK j)).extBut p.extBut (cK j)).extBut n.extBut (cK j)
 .exact n.extBut _ _ (dP J) (p.extBut _ _ (dP J) (u.extBut _ _ (dP J) t4))
 .exact λb o f m I=>n.extBut b o f (p.extBut b o f (u.extBut b o f (k4 b o f m I)))
theorem zlK{i:Nat}{Q:Option ae->af->Prop}(j:A.handled=ah)(d:IsEnum s.heap e it i old)(c:s.heap.IsStrIter it "str_ascii_iterator" x t i)(a:x.cps[i]?=ah) (q:∀h,rp it s.heap h->Q ah { s with heap:=h }):Bf (Bg P w) A (pyNext (.ref e)) Q E s:=by
 have f:s.TypeIs (.ref e) "enumerate":=⟨_,d,Y⟩;unfold pyNext;refine ba (eE (cC (name:=bb "__next__") f gX (cH gX f pd ?_ (oG _))));show Bf _ _ (field (.ref e) 2 >>= _) _ _ _;refine ba (dD d Y (x:=.ref it) Y ?_);refine ba (zkg j c a λh x k a=>?_);obtain⟨o,g,l⟩:=a;refine ba (iM (T:="StopIteration") (b:=ai) ⟨o,g,l⟩ nI ?_);exact bf (q _ k)
end
def ES(e b:L)(z:Str)(t:Tok)(k:Nat)(h:ax):Prop:=k<=z.cps.size/\(∃a,IsEnum h e b (k:Int) a)/\h.IsStrIter b "str_ascii_iterator" z t k
def zlL(z:Str):It:=⟨λi _=>i<z.cps.size,λi H x a=>∃T c,x=.ref T/\H T=ah/\a=upd H T (.tup [.int i,.str ⟨#[c]⟩])/\z.cps[i]?=U c,λi _=>z.cps.size<=i⟩
theorem zeH{P:ap}{w:au}{K:bo}{x:List ay}{x1}{G:Pos}{e it:L}{z:Str}{t:Tok}(r:e≠it) :
  Qz P w K (.Tuple x x1 G) (zlL z) [e,it] e (ES e it z t) where
 mem:=by simp
 obj:=λk h j c d=>by
  obtain⟨_,⟨g,i⟩,⟨p,f,y,di⟩⟩:=j;simp only[bJ,dE,or_false] at d;rcases d with rfl|rfl
  .exact⟨_,i,λv z=>by cases z⟩
  .exact⟨_,f,λv z=>by rw[di] at z;cases z⟩
 keep:=λk h h' j kk=>by
  obtain⟨l,⟨g,i⟩,⟨p,f,y⟩⟩:=j;exact⟨l,⟨g,kk e (by simp) _ i⟩,⟨p,kk it (by simp) _ f,y⟩⟩
 item:=by
  intro X N J O d k B s C H E I A j M;subst N J O;have q:k<z.cps.size:=M;have n:=cG q;have g:∀c∈[e,it],c≠s.heap.objs.size:=λc d=>by
   obtain⟨_,⟨g,i⟩,⟨p,f,y⟩⟩:=j;simp only[bJ,dE,or_false] at d;rcases d with rfl|rfl
   .exact bV (bG i)
   .exact bV (bG f)
  obtain⟨_,⟨o0,i⟩,f⟩:=j;refine zkh i f n r λh e8 i5 t5 k5=>?_;generalize hcc:z.cps[k]=c at *
  have I6:aM X B C (upd H s.heap.objs.size (.tup [.int k,.str ⟨#[c]⟩])) { s with heap:=s.heap.push { cls:=.type "tuple",data:=.seq #[.int k (s.toks+1),.str ⟨#[c]⟩ s.toks] },toks:=s.toks+1+1 } :=
   I.laid (a:=s.heap.objs.size) (o:=.tup [.int k,.str ⟨#[c]⟩]) (t':=s.toks+1+1) (λb u e=>bc _ e) (br _) ⟨by show 2<=Bb;decide,[.int k (s.toks+1),.str ⟨#[c]⟩ s.toks],.cons ⟨_,Y⟩ (.cons ⟨_,Y⟩ .nil),⟨_,bp _ Y,Y,_,Y⟩⟩
  have m:∀c'∈[e,it],upd H s.heap.objs.size (HO.tup [.int k,.str ⟨#[c]⟩]) c'=ah:=λc' d=>by rw[zm (g c' d)];exact(A c' d).1
  have fz:∀c'∈[e,it],k7 X B (upd H s.heap.objs.size (HO.tup [.int k,.str ⟨#[c]⟩])) c':=λc' d=>⟨m c' d,(A c' d).2⟩;refine⟨.ref s.heap.objs.size,Y,nq e8 λQ z9 D=>?_⟩;have T:∀c o,c≠e->h.get? c=U o->Q.get? c=U o:=λc o d e=>by
   rw[show Q.get? c=h.get? c from D.2 c d];exact e
  have I7:aM X B C (upd H s.heap.objs.size (.tup [.int k,.str ⟨#[c]⟩])) { s with heap:=Q,toks:=s.toks+1+1 }:=I6.turnedL (s:={ s with heap:=s.heap.push { cls:=.type "tuple",data:=.seq #[.int k (s.toks+1),.str ⟨#[c]⟩ s.toks] },toks:=s.toks+1+1 }) (t':=s.toks+1+1) (ch:=[e,it]) (λc' o d e=>by
   simp only[bJ,dE,or_false,not_or] at d;refine T c' o d.1 ?_;rcases mJ (show (s.heap.push { cls:=.type "tuple",data:=.seq #[.int k (s.toks+1),.str ⟨#[c]⟩ s.toks] }).get? c'=U o from e) with ⟨rfl,rfl⟩|e
   .exact t5
   .exact k5 c' o d.1 d.2 e) λc' d=>fz c' d
  refine⟨.ref s.heap.objs.size,_,I7,Y,⟨_,c,Y,I.hok.fresh (br _),Y,n⟩,?_,m⟩;obtain⟨p,f,y⟩:=i5;exact⟨q,⟨_,z9⟩,⟨p,T it _ (cK r) f,y⟩⟩
 done:=by
  intro X N J O d k B s C H E I A j M;subst N J O;obtain⟨l,⟨o0,i⟩,f⟩:=j;have n:z.cps[k]?=ah:=eW M;refine zlK (I.ok.hd d) i f n λh n=>⟨Y,I.turnedL (t':=s.toks) (ch:=[e,it]) (λc o d e=>?_) λc d=>A c d⟩;simp only[bJ,dE,or_false,not_or] at d;exact n c o d.2 e
 self:=λ_ _ _ _ _ j h=>by
  obtain⟨_,⟨o0,i⟩,f⟩:=j;exact lZ i h
def ziH(c:TA):TI:=λa H R=>c a H λb d=>∃z:Str,b=[.str z]/\z.cps.all (· < 128)=ai/\R (zlL z) d
section
variable {X:Cx}
theorem ziI{d:List ay}{x1}{v:Pos}{f:ay}{l:TA}{p a:Pos}(D:Gl X "enumerate")(C:X.mg "enumerate"=ah)(G:PA X [f] l)(E:Be [f] X.env=(ag,eval f X.env)::Be [] X.env:=by rfl)(i:(backTo a (Be [] X.env)).any (·.1)=ag:=by rfl) :
  PI X (.Tuple d x1 v) (.Call (.Name "enumerate" p) [f] [] a) (ziH l):=by
 intro N s r H R I h;refine Call_ (Zo I D C X8 (dQ (aY (G a N s r H _ I h) λT g ⟨Q,O,j,w,A⟩=>?_) E i));obtain⟨z,e,J,q⟩:=A;subst e;obtain⟨u1,rfl,t,rfl⟩:=xA w;refine call_enumerate_str λM o m _ k=>?_;refine lZ (s:={ g with heap:=M }) o ?_;have u:strIterType z="str_ascii_iterator":=by unfold strIterType;rw[J];rfl
 rw[u] at m;generalize hn:g.heap.objs.size=n at *
 have B:∀ {x y:Nat},x≠y->(show L from x)≠(show L from y):=λh=>h;refine⟨_,_,_,_,O,Y,j.kept (t':=g.toks) k,zeH (e:=n+1) (it:=n) (z:=z) (t:=t) (B ()),⟨bU _,⟨_,o⟩,m⟩,λc b=>?_,q⟩;simp only[bJ,dE,or_false] at b;have b:n<=c:=by rcases b with rfl|rfl <;> first|exact gz _ _|exact br _
 exact j.fpOk (by rw[hn];exact b) (j.hok.fresh (by rw[hn];exact b))
end
abbrev zmE:RC:=λa H Q=>∃x,a=[.str x]/\x.length=1/\Q (.int (x.cps.getD 0 0:Nat)) H
def zfS(a:Str)(i:Nat):Str:=if i<=a.length then a else zfilled a (i-a.length)
abbrev Xt:RM:=λx b H Q=>∃(a:Str) (i:Nat),x=.str a/\b=[.int i]/\i<=1000/\Q (.str (zfS a i)) H
def rpL(a b:Str):List V:=match eT a b 0 a.length with
 |some i=>[.str (eP a 0 i),.str b,.str (eP a (i+b.length) a.length)]
 |none=>[.str iE,.str iE,.str a]
abbrev vT:RM:=λx c H Q=>∃a b,x=.str a/\c=[.str b]/\(b.length==0)=ag/\a.length<=100000/\∀l,H l=ah->Q (.ref l) (upd H l (.tup (rpL a b)))
abbrev Xu:RM:=λx b H Q=>∃(l:L) (a:List Str) (y:Str),x=.ref l/\b=[.str y]/\H l=U (.lst (a.map V.str))/\y∈a/\Q (.int (a.idxOf y:Nat)) H
section
variable {X:Cx}
theorem ziJ:MtR X "str.zfill" Xt:=by
 intro o s j H x k v l Q I f g h;obtain⟨a,i,rfl,rfl,n,q⟩:=h;obtain⟨t,rfl⟩:=f;obtain⟨u,rfl,e,rfl⟩:=xA g;have m:Bb=16777216:=dq;have b:iS (Int.toNat (i:Int))=ag:=by
  unfold iS;exact Bk (by rw[cA];lia)
 refine call_gives F.slot_str_zfill (iq s a t) F.entry_str_zfill (F.args_str_zfill_2 _ _) (gives_str_zfill a i t e (by rw[Bk (),Bk ()];rfl) b) ?_;unfold zfS at q;by_cases c:i<=a.length
 .rw[ao c] at q;rw[ao ()];exact⟨.str a,H,I,⟨_,Y⟩,q⟩
 .rw[am c] at q;rw[am (),cA];have d:=fits_zfilled (x:=a) (i:=(i:Int)) b ();rw[cA] at d;exact⟨d,.str _,H,I.tok _,⟨_,Y⟩,q⟩
theorem QL:MtM X "str.rpartition" vT:=by
 intro p s j H x k v l Q I c d h;obtain⟨a,b,rfl,rfl,g,n,q⟩:=h;obtain⟨t,rfl⟩:=c;obtain⟨u,rfl,t',rfl⟩:=xA d;have m:Bb=16777216:=dq;have f:H s.heap.objs.size=ah:=I.hok.fresh (br _);have q:=q _ f;refine fO F.slot_str_rpartition (iq _ _ _) F.entry_str_rpartition (F.args_str_rpartition_2 _ _) (meets_str_rpartition a b t t' g ()) ?_;unfold rpL at q
 revert q
 cases eT a b 0 a.length with
 |none=>exact λq=>⟨.ref s.heap.objs.size,_,I.laid (a:=s.heap.objs.size) (o:=.tup [.str iE,.str iE,.str a]) (t':=s.toks+1) (λb u e=>bc _ e) (br _) ⟨by show 3<=Bb;lia,_,.cons ⟨_,Y⟩ (.cons ⟨_,Y⟩ (.cons ⟨_,Y⟩ .nil)),⟨_,bp _ Y,Y,_,Y⟩⟩,Y,q⟩
 |some i=>exact λq=>⟨.ref s.heap.objs.size,_,I.laid (a:=s.heap.objs.size) (o:=.tup [.str (eP a 0 i),.str b,.str (eP a (i+b.length) a.length)]) (t':=s.toks+1+1) (λb u e=>bc _ e) (br _) ⟨by show 3<=Bb;lia,_,.cons ⟨_,Y⟩ (.cons ⟨_,Y⟩ (.cons ⟨_,Y⟩ .nil)),⟨_,bp _ Y,Y,_,Y⟩⟩,Y,q⟩
theorem zfH:∀ {c:List Str} {b:List ae},aQ (c.map V.str) b->∀(m:Nat) (v:ae),b[m]?=U v->∃y t,c[m]?=U y/\v=.str y t
 |[],_,r,m,v,h=>by cases r;simp at h
 |y::c,_,.cons a r,0,v,h=>by
  obtain⟨t,rfl⟩:=a;simp only[bd,bh] at h;exact⟨y,t,Y,h.symm⟩
 |y::c,_,.cons a r,m+1,v,h=>by
  obtain⟨z,t,e,d⟩:=zfH r m v (by simpa using h);exact⟨z,t,by simpa using e,d⟩
def isS(y:Str):ae->Bool
 |.str x _=>x==y
 |_=>ag
theorem ziK:MtM X "list.index" Xu:=by
 intro O s D H x G v J Q I k o h;obtain⟨l,a,y,rfl,rfl,C,B,q⟩:=h;cases k;obtain⟨u,rfl,p⟩:=o.one;obtain⟨t,rfl⟩:=p;obtain⟨z,b,n,r,A,e⟩:=I.lstM C;have M:Bb=16777216:=dq;rw[bi] at A z;have N:a.idxOf y<a.length:=n0.mpr B;have gt:∀m (c:m<b.toArray.size),∃(d:m<a.length) (t':Tok),b.toArray[m]=.str a[m] t':=λm c=>by
  rw[bM] at c;obtain⟨E,t',j,d⟩:=zfH r m b[m] (bj c);have i:m<a.length:=by lia
  rw[bj i] at j;refine⟨i,t',?_⟩;rw[cb j,<-d];simp
 refine fO F.slot_list_index ⟨_,e,Y⟩ F.entry_list_index (F.args_list_index_2 _ _) (SeqAt.list_indexAt l b.toArray n ah #[] (.str y t) (isS y) (a.idxOf y) (by rw[bM];lia) () ?_ (λm c g=>?_)) ⟨e,λv w=>?_,?_⟩
 .obtain⟨d,t',f⟩:=gt (a.idxOf y) (by rw[bM];lia);rw[f];show (a[a.idxOf y]==y)=ai;simp[rT]
 .obtain⟨d,t',f⟩:=gt m c;rw[f];show (a[m]==y)=ag;have:=pb g;simpa using this
 .obtain⟨m,c,rfl⟩:=pN.mp w;obtain⟨d,t',f⟩:=gt m c;rw[f];exact rP _ _ _ _
 .exact⟨.int _,H,I.tok _,⟨_,Y⟩,q⟩
end
theorem Kr{d c:Type}(g:d->c->Id (ForInStep c))(f:c->d->c)(h:∀a b,g a b=gb (f b a)):∀(l:List d) (b:c),(forIn (m:=Id) l b g)=l.foldl f b
 |[],b=>rfl
 |a::l,b=>by
  rw[sZ,h];exact Kr g f h l (f b a)
theorem zki(s sub:Str)(d:Nat):eT s sub 0 d=(dH (d+1)).foldl (λc i=>if (decide (i+sub.length<=d)&&gf s sub i)=ai then U i else c) ah:=by
 unfold eT;simp[List.range_eq_range',Id.run];refine Kr _ _ (λa b=>?_) _ _;split <;> rfl
theorem zaX{p:Nat->Bool}:∀(n k:Nat) (o:Option Nat),k<n->p k=ai->(∀j,k<j->j<n->p j=ag)->(dH n).foldl (λa i=>if p i=ai then U i else a) o=U k
 |0,k,o,h,_,_=>by lia
 |n+1,k,o,h,hp,no=>by
  rw[tD,sB];show (if p n=ai then U n else _)=_;by_cases e:k=n
  .subst e;rw[ao hp]
  .rw[am (by rw[no n () ()];decide)];exact zaX n k o () hp λj b c=>no j b ()
theorem zfI(s:Str)(c i:Nat):gf s ⟨#[c]⟩ i=decide (s.cps[i]?=U c):=by
 unfold gf;show (s.cps.extract i (i+1) == #[c])=_;cases e:s.cps[i]? with
 |none =>
  have:=Array.getElem?_eq_none_iff.mp e;rw[show s.cps.extract i (i+1)=#[] by apply tK ;simp;lia];simp
 |some d =>
  obtain⟨h,b⟩:=eh.mp e;have f:s.cps.extract i (i+1)=#[d]:=by
   apply Array.ext
   .simp;lia
   .intro j g a;simp at a;subst a;simp[b]
  rw[f];by_cases z:d=c
  .subst z;simp
  .simp[z]
theorem zgB(h:s.cps[k]?=U c)(a:∀j,k<j->s.cps[j]?≠U c):eT s ⟨#[c]⟩ 0 s.length=U k:=by
 have b:=(eh.mp h).1;rw[zki];refine zaX (p:=λi=>decide (i+(⟨#[c]⟩:Str).length<=s.length)&&gf s ⟨#[c]⟩ i) _ k ah (by show k<s.cps.size+1;lia) ?_ λj d e=>?_
 .rw[zfI,h];simp;exact b
 .rw[zfI,Bk (a j d),iF]
theorem ziL(f:c ∉ d.cps.toList):rpL (b++⟨#[c]⟩++d) ⟨#[c]⟩=[.str b,.str ⟨#[c]⟩,.str d]:=by
 have a:(b++⟨#[c]⟩++d).cps.toList=b.cps.toList++c::d.cps.toList:=by rw[jP,jP,cN];rfl
 have p:(b++⟨#[c]⟩++d).cps[b.length]?=U c:=by
  rw[<-cQ,a];simp[fq]
 have o:=zgB p λj e z=>by
  rw[<-cQ,a,dv (by simp[fq] at e ⊢;lia)] at z;have h:1<=j-b.cps.toList.length:=by simp[fq] at e ⊢;lia
  obtain⟨m,i⟩:∃m,j-b.cps.toList.length=m+1:=⟨_,(Nat.sub_add_cancel h).symm⟩;rw[i,bq] at z;exact f (cw z)
 have g:(b++⟨#[c]⟩++d).length=b.length+1+d.length:=by rw[jR,jR];rfl
 unfold rpL;rw[o];have l:eP (b++⟨#[c]⟩++d) 0 b.length=b:=by
  apply vA;unfold eP;rw[pX,a,nM];simp[fq]
 have k:eP (b++⟨#[c]⟩++d) (b.length+(⟨#[c]⟩:Str).length) (b++⟨#[c]⟩++d).length=d:=by
  apply vA;unfold eP;rw[pX,a,nM,g];have:(⟨#[c]⟩:Str).length=1:=rfl;rw[this];have n:(b.cps.toList++c::d.cps.toList).drop (b.length+1)=d.cps.toList:=by
   rw[show b.length=b.cps.toList.length by simp[fq],List.drop_append];simp
  rw[n];exact dM (by simp[fq])
 dsimp only;rw[l,k]
structure FG(K:bo)(mg:Str->Option ae)(x:Str)(st:ar)(ps:List Str)(a:L)(d:Bc):Prop where
 m:mg x=U (.ref a)
 f:Fun K x x st a d
 b:mt K d ps []
structure FM(K:bo)(C:L)(x qual:Str)(st:ar)(ps:List Str)(a:L)(d:Bc):Prop where
 me:zcF K C x a
 f:Fun K x qual st a d
 b:mt K d ps []
theorem arS{P:List ae->Prop}(h:∀a us,us.length=n->P (a::us)):∀us,us.length=n+1->P us:=λus e=>by
 cases us with
 |nil=>cases e
 |cons a us=>exact h a us (tU e)
theorem ar0{P:List ae->Prop}(h:P []):∀us,us.length=0->P us:=λus e=>by
 cases us with
 |nil=>exact h
 |cons=>cases e
theorem mt.df{K:bo}{c:Bc}{b:List Str}{ds:List ae}{T:L}(_:c.defaults=.ref T)(q:K.lookup T=U o)(h:∀a:List ae,a.length=b.length-ds.length->∀s:af,s.heap.get? T=U o->BindsTo s c ⟨a,[]⟩ (b.zip (a++ds))):mt K c b ds:=λs a e d=>h a (by rw[<-d,bn,Nat.add_sub_cancel]) s (e _ _ q)
abbrev QX(K:bo)(a:L):Prop:=∃b,fE K (.ref a) "__getattribute__"=U (U (.builtin "BaseException.__getattribute__"))/\fE K (.ref a) "__getattr__"=U ah/\fE K (.ref a) "__class__"=U (U (.builtin "object.__class__"))/\tN K a (.type "object")=U ai/\tN K a (.type "BaseException")=U ai/\sY K (.builtin "object.__class__") "__get__"=U (U (.builtin "getset_descriptor.__get__"))/\W.takesIn K (.builtin "object.__class__")=U ai/\tq K a=U b
theorem QX.to{K:bo}(q:QX K a):ExK K a:=by
 obtain⟨j,i,h,g,f,e,d,c,b⟩:=q;exact⟨⟨i,h,g,f,e,d,c⟩,by rw[b];rfl⟩
section
variable {X:Cx}{CX:CXT}{j k:Nat}{a C:L}{d:Bc}{ps:List Str}{sp:Sp}{x m qual:Str}{st:ar}{p pos tV:Pos}{o e:ay}{es:List ay}{ta:TE}{t:TA}{E:XK}
theorem t7(F:aZ X.prog X.w X.K X.mg X.base CX j a d ps sp)(G:FG X.K X.mg x st ps a d)(g:hZ k X.A)(f:wZ CX X E)(n:PA X (e::es) t)(h:j<=k:=by lia)(i:Gl X x:=by exact rfl)(c:(x==("__debug__":Str))=ag:=by lia)(l:Be (e::es) X.env=(ag,eval e X.env)::Be es X.env:=by rfl)(b:(backTo pos (Be es X.env)).any (·.1)=ag:=by rfl) :
  PE X (.Call (.Name x p) (e::es) [] pos) (zG sp [] E t):=zjt (F.mono h) g i G.m G.f.kp G.b .nil f n c l b
end
theorem aJ.m{N P:List Str}{sc:az}(g:sc.kind=.function:=by rfl)(f:sc.isCoroutine=ag:=by rfl)(e:sc.isGenerator=ag:=by rfl)(d:N.Nodup:=by lia)(c:N.take P.length=P:=by rfl)(b:∀x∈P,sc.names.lookup x=U .local\/sc.names.lookup x=U .cell:=by lia)(a:∀y∈sc.names,y.2≠.free:=by lia):aJ N P sc:=⟨g,f,e,d,c,b,a⟩
section
variable {P:ap}{w:au}{K:bo}{mg:Str->Option ae}{base:ax}{x qual:Str}{st:ar}{f:L}{fd:Bc}{N ps:List Str}{k:Nat}{sp:Sp}
theorem Fun.okA(F:Fun K x qual st f fd)(S:aJ N ps (zk st))(h:∀b H Q E,sp b H Q E->b.length=ps.length/\∀(cdv:ae) (A:aq) (a:List Env) (s:af),hZ k (A.deeper (envOfC qual (zk st) s.heap.objs.size f cdv)) ->
   ∃t,PSs (wU (uw P w) P w K mg base N qual (zk st) f cdv A a s H E).nox (xP st) t/\t { nx:=λ_ d=>Q .non d,rt:=Q } (start N b) H):aZ P w K mg base (uw P w) (k+1) f fd ps sp:=F.ok0 S (λb H Q E z=>(h b H Q E z).1) λcdv A a s H b Q E c z=>(h b H Q E z).2 cdv A a s c
theorem Fun.okB(F:Fun K x qual st f fd)(S:aJ N ps (zk st))(h:∀b H Q E,sp b H Q E->b.length=ps.length/\∀(cdv:ae) (A:aq) (a:List Env) (s:af),hZ k (A.deeper (envOfC qual (zk st) s.heap.objs.size f cdv)) ->
   ∃t,PSs (wU (uw P w) P w K mg base N qual (zk st) f cdv A a s H E) (xP st) t/\t { nx:=λ_ d=>Q .non d,rt:=Q } (start N b) H):aZ P w K mg base (uw P w) (k+1) f fd ps sp:=F.ok1 S (λb H Q E z=>(h b H Q E z).1) λcdv A a s H b Q E c z=>(h b H Q E z).2 cdv A a s c
end
section
variable {K:bo}{σ:St}{H:Hp}{Q:VK}{i:Nat}{k:Int}{p a C dx:L}{xs:List V}{u v:V}{x w f:Str}{fs:List (Str×V)}{te:TE}{A B:TS}{D:Zn}
theorem zmF(h:σ[i]?=U (U v))(q:Q v H):Z i σ H Q:=⟨v,h,q⟩
theorem zm1(d:σ[i]?=U (U (.ref p)))(c:H p=U (.tup xs))(b:atI xs k=U u)(q:Q u H):aN (ya K) (Z i) (tC (.int k)) σ H Q:=⟨_,d,p,xs,k,u,Y,Y,tZ.of c,b,q⟩
theorem ziM(h:∀Q:VK,Q (.str x) H->te σ H Q)(a:x=w->A D σ H)(b:x≠w->B D σ H):zO (zy (aN uk te (tC (.str w)))) A B D σ H:=by
 refine h _ ⟨Y,_,Y,?_⟩;by_cases c:x=w
 .show if _ then _ else _
  rw[ao (by rw[c];exact Bj Y)];exact a c
 .show if _ then _ else _
  rw[am (by rw[decide_eq_true_eq];exact λz=>c (V.str.inj z))];exact b c
theorem zeI(e:σ[i]?=U (U (.ref p)))(d:H p=U (.tup xs))(c:atI xs k=U (.str x))(a:x=w->A D σ H)(b:x≠w->B D σ H):zO (zy (aN uk (aN (ya K) (Z i) (tC (.int k))) (tC (.str w)))) A B D σ H:=ziM (λQ q=>zm1 e d c q) a b
end
end L2
namespace L2
open PySem PySem.Spec PySem.W PyProof.Rows
abbrev zk2:RC:=λe H Q=>∃(a:L) (c:List (bv×V)) (d:List Int),e=[.ref a]/\H a=U (.dK c)/\c.map (·.1)=d.map lQ/\c.length<64 /\
 ∀(l:L) (b:List Int),H l=ah->b.Perm d->b.Pairwise (· < ·)->Q (.ref l) (upd H l (.lst (b.map V.int)))
theorem zaY:∀ {a:List ae} {b:List Int},IntsAre a b->aQ (b.map V.int) a
 |_,_,.nil=>.nil
 |_,_,.cons _ t h=>.cons ⟨t,Y⟩ (zaY h)
theorem zgC{P:ap}{w:au}{i:List (bv×V)}{f:List (bv×ae)}(a:KV i f):∀ {e:List DictEntry} {c:List Int},Pairs (yH P w) e f->i.map (·.1)=c.map lQ->IntsAre (e.map (·.key)) c/\f.map (·.1)=c.map lQ:=by
 induction a with
 |nil =>
  intro e c b d;cases b;cases c with
  |nil=>exact⟨.nil,Y⟩
  |cons=>cases d
 |cons h kv ih =>
  intro e c b d;cases c with
  |nil=>cases d
  |cons r c =>
   cases b with
   |cons hk _ pr =>
    obtain⟨n,m⟩:=fT d;obtain⟨l,k⟩:=ih pr m;have g:=h.1.symm.trans n;rcases yF hk with ⟨j,t,ej,et⟩|⟨x,t,ej,et⟩
    .rw[g] at ej;cases ej;refine⟨?_,by rw[bN,bN,k,g]⟩;rw[bN,et];exact .cons _ t l
    .rw[g] at ej;cases ej
section
variable {X:Cx}{p pos kp:Pos}{e:ay}{ta:TE}
theorem zkj{A:List (L×Obj)}{w:St}{H:Hp}{s:af}{a:L}{v:List (bv×V)}{k:List Int}{Q:VK}{u:List (Str×ae)}{O:List Int->Prop}(hc:X.calm=ai)(I:aM X A w H s)(ha:H a=U (.dK v))(E:v.map (·.1)=k.map lQ)(an:v.length<64) (hs:∀(R:PySem.Fin->af->Prop) (s:af) (b:L) (r:List ae),s.heap.get? b=U (seqObj "list" r.toArray 0)->IntsAre r k->r.length<64->(∀(out:Array ae) (n:List Int),IntsAre out.toList n->n.Perm k->(k.Nodup->O n)->R (.done (.ret .none)) { s with heap:=sortedHeap s.heap b r out })->Bf (Bg X.prog X.w) X.A.in1.in1 (Builtin.«list.sort» ⟨[.ref b],u⟩) R X.xe s) (hw:argsOk "sorted" ⟨[.ref a],u⟩) (y:∀b:L,argsOk "list.sort" ⟨[.ref b],u⟩) (q:∀(l:L) (g:List Int),H l=ah->g.Perm k->O g->Q (.ref l) (upd H l (.lst (g.map V.int)))) :
  Bf (Bg X.prog X.w) X.A (call (.builtin "sorted") [.ref a] u) (EP X A w Q) X.xe s:=by
 obtain⟨hz,N,r,D,o,es,ep,ho,hx,hd,al,B,hn⟩:=(show aW X.prog X.w H s.heap a (.dK v) from I.hok a _ ha);obtain⟨x,ev⟩:=zgC D B E;have M:k.Nodup:=Y3 (f:=(lQ:Int->bv)) (by rw[<-ev];exact hn);have il:es.size<64:=by have:=D.length;have:=B.length;rw[dC] at this;lia
 have cl:=cg (show es.size<=1000 by lia) (show 1000<=Bb by lia);refine call_function_entry_kw kind_sorted plain_sorted entry_sorted hw ?_;unfold Builtin.«sorted»;refine ba (m:=checkCount "sorted" 1 1 _) (bf ?_);refine ba (VR (zbC (ep:=ep) (es:=es) N) (I.ok.hd hc) ⟨o,ho,hx,hd⟩ cl λh t d T hl hG=>?_);have ew:d=es.toList.map (·.key):=by
  apply dY;intro i;by_cases hi:i<d.length
  .obtain⟨e,z,ek⟩:=hG i d[i] (bj hi);rw[bj hi,ek,bW,cQ,z];rfl
  .rw[ck (),ck (by rw[bi,dC];lia)]
 rw[<-ew] at x;have j:(h.push (seqObj "list" d.toArray 0)).get? h.objs.size=U (seqObj "list" d.toArray 0):=bp _ rfl;refine ba (wpAny_newList ?_ (by rw[dq];lia));refine ba (dh (wpAny_call_entry_kw slot_list_sort ⟨_,j,Y⟩ entry_list_sort (hs _ { s with heap:=h.push (seqObj "list" d.toArray 0),toks:=t } _ d j x () λout n a1 G a3=>⟨_,rfl,bf ⟨_,rfl,?_⟩⟩) (y _)));obtain⟨c,hD⟩:=sortedHeap_at (out:=out) j;have J:aM X A w H { s with heap:=h,toks:=t }:=I.kept T;have nl:=G.length_eq;have rl:=tH x;refine⟨.ref h.objs.size,_,J.laid (s:={ s with heap:=h,toks:=t }) (a:=h.objs.size) (o:=.lst (n.map V.int)) (t':=t) (λb o e=>?_) (br _) ⟨by rw[bi];exact cg (show n.length<=1000 by have:=congrArg bQ E;rw[bi,bi] at this;lia) (),_,c,zaY a1,hD⟩,Y,q _ _ (J.hok.fresh (br _)) G (a3 M)⟩;have C:=bG e;exact(sortedHeap_old (bV C) (by rw[size_push'];exact gc C)).trans (bc _ e)
theorem zbL(l:X.calm=ai):xV X (.builtin "sorted") zk2:=by
 intro E s y H A C Q I r h;obtain⟨a,G,D,rfl,m,k,d,q⟩:=h;obtain⟨u,rfl,g⟩:=xA r;cases g;exact zkj l I m k d (O:=λn=>n.Pairwise (· < ·)) (λR s b B v t o h=>list_sort_tree v t o λc i x f w=>h c i x f λj=>(w.and (f.nodup_iff.mpr j)).imp λz=>by lia) (args_sorted1 _) (λ_=>args_list_sort _) q
end
section
variable {X:Cx}{CX:CXT}{i j k:Nat}{f C:L}{fd:Bc}{ps:List Str}{sp:Sp}{x m qual:Str}{st:ar}{pos pos' tV:Pos}{o a b e:ay}{es:List ay}{te ta tb:TE}{t:TA}{E:XK}
theorem zx(n:X.N.Nodup)(l:PE X e te)(g:X.N[i]?=U x:=by rfl)(c:Loc X.env.scope x:=by exact .inl Y)(d:swapsWith e (U (.Name x pos')) pos.line X.env=pure ag:=by rfl)(h:X.fn x=ai\/X.env.scope.names.lookup x=U .local:=by first|exact .inl rfl|exact .inr rfl|assumption) :
  PS X (.Assign [.Name x pos'] e pos) (zM te (zq i)):=zbl n g c l d h
theorem yi(h:X.N.Nodup)(d:X.N[i]?=U x:=by rfl)(c:Loc X.env.scope x:=by exact .inl Y)(g:X.fn x=ai\/X.env.scope.names.lookup x=U .local:=by first|exact .inl rfl|exact .inr rfl|assumption):PG X (.Name x pos) (zq i):=xh h d c g
theorem zB{r:R2}(d:IxR X r)(h:PE X a ta)(g:PE X b tb)(c:zfk b:=by exact λ_ _=>rfl):PE X (.Subscript a b pos) (aN r ta tb):=zmm d h g c
theorem uB{l:Sem Bool}(s:PE X o ta)(c:uu X.K C)(F:aZ X.prog X.w X.K X.mg X.base CX j f fd ps sp)(G:FM X.K C m qual st ps f fd)(q:hZ k X.A)(n:wZ CX X E)(u:PA X (e::es) t)(r:j<=k:=by lia) (d:Be (e::es) X.env=(ag,eval e X.env)::Be es X.env:=by rfl) (g:(backTo pos (Be es X.env)).any (·.1)=ag:=by rfl) (p:eval (.Call (.Attribute o m tV) (e::es) [] pos) X.env=(do
   let h <-eval o X.env
   standAt tV.atName
   let (f,first) <-holding [h] (getMethod h m l)
   callWith pos f first (backTo pos (Be (e::es) X.env)) (backToKw pos (keywordEach [] X.env))):=by rfl) :
  PE X (.Call (.Attribute o m tV) (e::es) [] pos) (zF C m sp [] E ta t):=zfi s c G.me (F.mono r) q G.b .nil n u d g p
theorem xn{g:Sem Bool}(q:PE X o ta)(c:uu X.K C)(F:aZ X.prog X.w X.K X.mg X.base CX j f fd ps sp)(G:FM X.K C m qual st ps f fd)(n:hZ k X.A)(h:wZ CX X E)(p:j<=k:=by lia) (l:eval (.Call (.Attribute o m tV) [] [] pos) X.env=(do
   let d <-eval o X.env
   standAt tV.atName
   let (f,first) <-holding [d] (getMethod d m g)
   callWith pos f first (backTo pos (Be [] X.env)) (backToKw pos (keywordEach [] X.env))):=by rfl) :
  PE X (.Call (.Attribute o m tV) [] [] pos) (zF C m sp [] E ta zj):=zcG q c G.me (F.mono p) n G.b .nil h l
end
end L2
namespace L2
open PySem PySem.Spec PyProof.Rows
section
variable {X:Cx}{k:Nat}{f C:L}{fd:Bc}{ps:List Str}{sp:Sp}{m:Str}{pos tV:Pos}{e o:ay}{es:List ay}{ta:TE}{t:TA}
def zfJ(C:L)(m:Str)(sp:Sp)(ta:TE)(t:TA)(p:EXD):TE:=λb H Q=>ta b H λx g=>∃a j d,x=.ref a/\g a=U (.ins C j d)/\d.lookup m=ah /\
 t b g λh n=>sp (x::(h++[])) n Q λc i l=>p c i b l
theorem zgD{pl:Sem Bool}(he:PE X.nox o ta)(c:uu X.K C)(N:zcF X.K C m f)(F:aZ X.prog X.w X.K X.mg X.base (uw X.prog X.w) k f fd ps sp)(hr:hZ k X.A)(hb:mt X.K fd ps [])(ha:PA X.nox (e::es) t) (w:Be (e::es) X.env=(ag,eval e X.env)::Be es X.env:=by rfl) (y:(backTo pos (Be es X.env)).any (·.1)=ag:=by rfl) (ht:eval (.Call (.Attribute o m tV) (e::es) [] pos) X.env=(do
   let M <-eval o X.env
   standAt tV.atName
   let (f,first) <-holding [M] (getMethod M m pl)
   callWith pos f first (backTo pos (Be (e::es) X.env)) (backToKw pos (keywordEach [] X.env))):=by rfl) :
  zj2 X (.Call (.Attribute o m tV) (e::es) [] pos) (zfJ C m sp ta t):=by
 intro O s p H Q EX I h;refine mS (pl:=pl) (cU (he O s p H _ (I.wish _) h) (?_) λ_ _ z=>cx z) ht;rintro u s1 ⟨x,H1,D,rx,a,dx,fs,ex,ea,l,q⟩;subst ex;obtain rfl:u=bH a:=rx;have T:=D.unwish;refine qd T ea c N l ?_;refine gJ (first:=[.ref a]) (h₀:=X.base) I.ok.mod.kin N.kp (cU (ha pos O s1 p H1 _ (T.wish _) q) (λd v ⟨E,H2,j,r,J⟩=>⟨j.kIn,?_⟩) λ_ _ z=>cx z) w y;have n:=j.unwish;have G:aQ (V.ref a::(E++[])) (bH a::(d++[])):=.cons Y (r.append .nil);have hl:((bH a::d)++[]).length=ps.length:=by
  have e:=G.length;rw[F.len _ _ _ _ J] at e;exact e.symm
 refine fN (eu (F.run X.A X.stack v H2 ⟨.ref a::d,[]⟩ ((.ref a::d)++[]) (.ref a::(E++[])) _ _ hr n.env0 (hb v (.ref a::d) n.kIn hl) G J) λr s' g=>?_);cases r with
 |error ev =>
  obtain⟨e,B,od,H',rfl,os,i,un,A,xf,hE⟩:=g;exact⟨e,B,p,v,H2,H',od,Y,n,n.call' (ch:=[]) os un A i (λb z=>nomatch z),xf,hE⟩
 |ok fl =>
  cases fl with
  |ret u=>exact n.after g
  |next=>exact cx g
  |brk=>exact cx g
  |cont=>exact cx g
end
abbrev ziN(K:bo):RC:=λf H Q=>∃a C d c e b,f=[.ref a,c]/\H a=U (exF a C d)/\ExK K C/\zmq c=U e/\dG K (.ref C) e=U b/\Q (.bl b) H
abbrev zeJ(K:bo):RC:=λe H Q=>∃a C d p,∃c:List L,∃b,e=[.ref a,.ref p]/\H a=U (exF a C d)/\ExK K C/\H p=U (.tup (c.map V.ref))/\mf K (.ref C) (c.map bH)=U b/\Q (.bl b) H
section
variable {X:Cx}
theorem ziO{H:Hp}(k:uz P w H h)(e:H a=U (exF a C d)):∃o,h.get? a=U o/\o.cls=.ref C:=let ⟨o,_,h1,h2,_⟩:=(k a _ e).1;⟨o,h1,h2⟩
theorem zaZ:xV X (.builtin "isinstance") (ziN X.K):=by
 intro v s n H o p Q I r h;obtain⟨a,C,d,c,cv,b,rfl,l,g,e,k,q⟩:=h;obtain⟨u,i,rfl,j,f⟩:=zg8 r;cases j;have m:i=cv:=by
  cases c <;> simp only[zmq,bh,reduceCtorEq] at e
  .subst e;exact f
  .subst e;exact f
 subst m;exact gI (zcY g.toExC g.has) I.kIn (ziO I.hok l) k () λt=>⟨.bl b,H,I.tok _,Y,q⟩
theorem Ks:xV X (.builtin "isinstance") (zeJ X.K):=by
 intro M s A H B E Q I r h;obtain⟨a,C,d,p,f,b,rfl,z,e,x,y,q⟩:=h;obtain⟨u,D,rfl,j,i⟩:=zg8 r;cases j;cases i;obtain⟨_,w,g,o,v,t,n,m⟩:=(show aW X.prog X.w H s.heap p (.tup (f.map V.ref)) from I.hok p _ x);obtain rfl:=zaN g;obtain⟨l,J,c,k⟩:=o;obtain rfl:l=.type "tuple":=t;obtain rfl:c=.seq (f.map bH).toArray n:=m;exact W.kia_tup (zcY e.toExC e.has) I.kIn (ziO I.hok z) v y () λG=>⟨.bl b,H,I.tok _,Y,q⟩
end
end L2
namespace L2
open PySem PySem.Spec PySem.W PyProof.Rows
section
variable {P:ap}{w:au}{A:aq}{E:ae->af->Prop}{s:af}
theorem zgE{R:aD->af->Prop}(W:Walks P w A.in1 I [I,l] [I] 0 (λi v=>(#[]:Array ae)[i]?=U v) (λi h=>h.IsListIter I l i/\h.IsList l #[])) (f:S≠I) (st:s.heap.IsListIter I l 0/\s.heap.IsList l #[]) (g:ut w s.heap S []) (j:∀(a:ax) (c:Nat),(∀b o,b≠I->b≠S->s.heap.get? b=U o->a.get? b=U o)->ut w a S []->R (.ok (.ret .none)) { s with heap:=a,toks:=c }) :
  codeAny (Bg P w) A (.builtin "set.update.loop" ⟨[.ref S,.ref I],[]⟩) R s:=by
 refine dA PyProof.Rows.F.entry_set_update_loop ?_;rw[cS PyProof.Rows.F.plain_set_update_loop _];show Bf _ A.in1 (pyNext (.ref I) >>= _) _ _ s;refine ba (W.done s _ _ st λa c d=>?_);show Bf _ A.in1 (ret cy) _ _ _;refine bf (j a c (λb o k _ e=>d b o (by simpa using k) e) ?_);exact g.at λo e=>d S o (by simpa using f) e
set_option maxRecDepth 200000 in
theorem zgF{Q:ae->af->Prop}(hh:A.handled=ah)(hl:s.heap.IsList l #[]) (h:∀(f:ax) (q:Nat),ut w f s.heap.objs.size []->(∀b o,s.heap.get? b=U o->f.get? b=U o)->Q (.ref s.heap.objs.size) { s with heap:=f,toks:=q }) :
  Bf (Bg P w) A (call (.type "set") [.ref l]) Q E s:=by
 obtain⟨c,tl,av⟩:=PySem.F.called_set.mro;have H:=PySem.F.called_set.made;have aa:=PySem.F.called_set.sub;refine fN (pO ?_);show Bf _ _ (callAny (.type "set") _) _ _ _;refine bf ⟨lD _ (),dA PySem.F.entry_type_call ?_⟩;rw[Around.under_plain (weight_type_call_type "set" [.ref l] []) rfl];have h1:=PySem.F.called_set.notType;have h2:=PySem.F.called_set.canCreate;have aB:=PySem.F.typeCall_set_1 (.ref l)
 repeat (any_goals (first|assumption|wp_step))
 refine eu (ziy (.ref l) (E:=E) (Q:=λu j=>u=.ref s.heap.objs.size/\j={ s with heap:=s.heap.push (Xr #[] 0 (.fresh 0 0 (zdj w))) }) ⟨rfl,rfl⟩) λr j G=>?_;cases r with
 |error e=>exact G
 |ok fl =>
  cases fl with
  |ret u =>
   obtain⟨rfl,rfl⟩:=G;obtain⟨d,g⟩:∃d:ax,d=s.heap.push (Xr #[] 0 (.fresh 0 0 (zdj w))):=⟨_,Y⟩;have hS:d.get? s.heap.objs.size=U (Xr #[] 0 (.fresh 0 0 (zdj w))):=g ▸ bp _ rfl;have x:∀b o,s.heap.get? b=U o->d.get? b=U o:=λb o e=>g ▸ bc _ e;have m:d.objs.size=s.heap.objs.size+1:=by rw[g,gA]
   rw[<-g];have hT:rR { s with heap:=d } (.ref s.heap.objs.size) "set":=⟨_,hS,rfl⟩;have aA:=PySem.F.called_set.init.lookup;have aC:=PySem.F.called_set.init.bind (.ref s.heap.objs.size)
   repeat (any_goals (first|assumption|wp_step))
   refine eu (fD (R:=wants (λr i=>r=.none/\∃(f:ax) (q:Nat),i={ s with heap:=f,toks:=q }/\ut w f s.heap.objs.size []/\∀b o,s.heap.get? b=U o->f.get? b=U o) E) PySem.F.called_set.init.plain PySem.F.entry_set_init (check_set_init_1 hT ?_)) λt i a=>?_
   .obtain⟨ol,v,z,T,y⟩:=hl;obtain⟨O,C,D,B⟩:=ol;simp only at z y;subst z;subst y;have k:=x _ _ v;have I:d.IsList l #[]:=⟨_,k,Y,T,Y⟩;have al:=PySem.F.sub_list_set;have an:=PySem.F.sub_list_frozenset;have aw:(fj "list" == fj "dict")=ag:=by lia
    unfold Builtin.«set.__init__» noKeywords Builtin.Frozenset.updateFrom;generalize hPI:pyIter=PI
    wp_walk
    subst hPI;refine ii I ?_;refine ba (md ?_);have ll:l<s.heap.objs.size:=bG v;obtain⟨N,p⟩:∃h1:ax,h1=d.push { cls:=.type "list_iterator",data:=.fields #[.ref l,.int 0 0] }:=⟨_,Y⟩;have n:∀b o,d.get? b=U o->N.get? b=U o:=λb o e=>p ▸ bc _ e;rw[<-p];refine zgE (tJ (by simp[hh]) d.objs.size l (by rw[m];exact bV (gc ll)) #[]) (S:=s.heap.objs.size) (by rw[m];exact bV (iL _)) ⟨by subst p;exact⟨_,bp _ Y,Y,Y⟩,_,n _ _ k,Y,T,Y⟩ (zbK (n _ _ hS)) λf q k3 s3=>?_;show Bf _ _ _ _ _ _;refine bf ?_;show Bf _ _ (ret cy) _ _ _;refine bf ⟨Y,f,q,Y,s3,λb o e=>k3 b o ?_ ?_ (n _ _ (x _ _ e))⟩
    .rw[m];exact bV (gc (bG e))
    .exact bV (bG e)
   .cases t with
    |error e=>exact a
    |ok fl₂ =>
     cases fl₂ with
     |ret r =>
      obtain⟨rfl,f,q,rfl,M,J⟩:=a
      repeat (any_goals (first|assumption|wp_step))
      exact h _ _ M J
     |_=>exact a.elim
  |_=>exact G.elim
end
def zfK(w:au)(a:L):HO:=.ext λh=>ut w h a []
abbrev ziP(w:au)(K:bo):RC:=λa H Q=>∃r,a=[.ref r]/\aP K H r []/\∀l,H l=ah->Q (.ref l) (upd H l (zfK w l))
abbrev zk3(w:au):RC:=λc H Q=>∃a,c=[.ref a]/\H a=U (zfK w a)/\∀l b,ac H b->H l=ah->b l=U (.lst [])->Q (.ref l) b
section
variable {X:Cx}
theorem zeK(v:X.calm=ai):xV X (.type "set") (ziP X.w X.K):=by
 intro J s z H e A Q I j h;obtain⟨r,rfl,m,q⟩:=h;obtain⟨u,rfl,i⟩:=xA j;cases i;obtain⟨e,g,⟨o,n,c,l,_,k⟩,B⟩:=I.list m;cases g;refine zgF (I.ok.hd v) ⟨o,c,l,n,k⟩ λw f d p=>?_;have x:H s.heap.objs.size=ah:=I.hok.fresh (br _);have y:∃o,w.get? s.heap.objs.size=U o:=by obtain⟨E,G,t,c,_⟩:=d;exact⟨_,c⟩
 exact⟨.ref s.heap.objs.size,_,I.laid (a:=s.heap.objs.size) (o:=zfK X.w s.heap.objs.size) (t':=f) p (br _) ⟨d,y,λD C a b=>ut.at a b⟩,Y,q _ x⟩
theorem zbM{i:St}{H:Hp}{s:af}{u:ae}{Q:VK}(h:∀R:List ae->af->Prop,(∀d f,aM X aa i f d->ac H f->R [] d)->Bf (Bg X.prog X.w) X.A.in1 (collect u) R X.xe s)(q:∀l f,ac H f->H l=ah->f l=U (.lst [])->Q (.ref l) f):Bf (Bg X.prog X.w) X.A (call (.builtin "sorted") [u]) (EP X aa i Q) X.xe s:=by
 refine Calls.call_function_entry kind_sorted plain_sorted entry_sorted (args_sorted1 _) ?_;unfold Builtin.«sorted»;refine ba (m:=checkCount "sorted" 1 1 _) (bf ?_);refine ba (h _ λd f p j=>?_);have g:(d.heap.push (seqObj "list" ([]:List ae).toArray 0)).get? d.heap.objs.size=U (seqObj "list" ([]:List ae).toArray 0):=bp _ rfl;refine ba (wpAny_newList ?_ (bU _));refine ba (dh (cH slot_list_sort ⟨_,g,Y⟩ entry_list_sort (list_sort_tree (s:={ d with heap:=d.heap.push (seqObj "list" ([]:List ae).toArray 0) }) (ns:=[]) g .nil () λout ns w v _=>⟨_,rfl,bf ⟨_,rfl,?_⟩⟩) (args_list_sort _)));obtain⟨c,r⟩:=sortedHeap_at (out:=out) g;have t:out.toList=[]:=c8 ((tH w).trans v.length_eq);obtain⟨l⟩:=out;obtain rfl:l=[]:=t;have n:f d.heap.objs.size=ah:=p.hok.fresh (br _);refine⟨.ref d.heap.objs.size,_,p.laid (s:=d) (a:=d.heap.objs.size) (o:=.lst []) (t':=d.toks) (λb o e=>?_) (br _) ⟨bU _,[],c,.nil,r⟩,Y,q _ _ (j.trans (hU _ n)) (j.free n) zi⟩;have k:=bG e;exact(sortedHeap_old (bV k) (by rw[size_push'];exact gc k)).trans (bc _ e)
abbrev ziQ:RC:=λc H Q=>∃a,c=[.ref a]/\H a=U (.dT [])/\∀l b,ac H b->H l=ah->b l=U (.lst [])->Q (.ref l) b
abbrev ziR:RC:=λb H Q=>∃r d,b=[.ref r]/\H r=U (Km r d)/\H d=U (.dT [])/\∀l a,ac H a->H l=ah->a l=U (.lst [])->Q (.ref l) a
theorem QM(n:X.calm=ai):xV X (.builtin "sorted") ziQ:=by
 intro D s t H w x Q I e h;obtain⟨a,rfl,p,q⟩:=h;obtain⟨u,rfl,d⟩:=xA e;cases d;refine zbM (λR r=>?_) q;obtain⟨A,f,v,b,o,es,ep,j,i,m,l,B⟩:=(show aW X.prog X.w H s.heap a (.dT []) from I.hok a _ p);cases b;have z:es.size=0:=by rw[<-dC,l];rfl
 refine VR (zbC (ep:=ep) (es:=es) f) (I.ok.hd n) ⟨o,j,i,m⟩ (by rw[z];exact bU _) λh y c g k C=>?_;obtain rfl:c=[]:=c8 (by rw[k,z]);exact r _ H (I.kept g) (ac.refl H)
theorem QN(l:X.calm=ai):xV X (.builtin "sorted") ziR:=by
 intro w s p H v a Q I g h;obtain⟨r,d,rfl,j,k,q⟩:=h;obtain⟨u,rfl,f⟩:=xA g;cases f;refine zbM (λR m=>zey (A:=X.A.in1) (I.ok.hd l) j k (bU _) I λc o t a n b i e=>?_) q;cases i;cases e;exact m c o n b
theorem zeL(j:X.calm=ai):xV X (.builtin "sorted") (zk3 X.w):=by
 intro t s n H o p Q I e h;obtain⟨a,rfl,k,q⟩:=h;obtain⟨u,rfl,c⟩:=xA e;cases c;have l:ut X.w s.heap a []:=(show aW X.prog X.w H s.heap a (zfK X.w a) from I.hok a _ k).1;exact zbM (λR m=>zdn l (I.ok.hd j) λr b d g i f=>by rw[f.eq_nil];exact m _ H (I.kept (t':=b) i).drew (ac.refl H)) q
def ziS(K:bo)(e:TA):TE:=λc H Q=>e c H λd a=>∃r,d=[.ref r]/\aP K a r []/\∀l b,ac a b->a l=ah->b l=U (.lst [])->Q (.ref l) b
theorem ziT{j:TA}{p g c b:Pos}(B:X.calm=ai)(o:Gl X "sorted")(m:X.mg "sorted"=ah)(n:Gl X "set")(k:X.mg "set"=ah)(O:PA X [a] j)(G:Be [a] X.env=[(ag,eval a X.env)]:=by rfl) (N:Be [.Call (.Name "set" g) [a] [] b] X.env=[(ag,eval (.Call (.Name "set" g) [a] [] b) X.env)]:=by rfl):PE X (.Call (.Name "sorted" p) [.Call (.Name "set" g) [a] [] b] [] c) (ziS X.K j):=by
 let t2:TA:=λe H Q=>∃i,j e H i/\∀f H,i f H->Q f H
 have t:PA X [a] t2:=λc w s e H Q I ⟨i,h,E⟩=>cU (O c w s e H i I h) (λus s' ⟨f,y,I',v,q⟩=>⟨f,y,I',v,E _ _ q⟩) λ_ _ x=>x;have e1:PE X (.Call (.Name "set" g) [a] [] b) (tW (ziP X.w X.K) t2):=z7 (zeK B) n k zlq t () () G rfl;have u:PE X (.Call (.Name "sorted" p) [.Call (.Name "set" g) [a] [] b] [] c) (tW (zk3 X.w) (ze (tW (ziP X.w X.K) t2) zj)):=zK (zeL B) o m YJ (zb e1 zg) () () N rfl;intro w s e H Q I h;refine u w s e H Q I ⟨_,h,λf H1 T=>?_⟩;obtain⟨r,rfl,J,q⟩:=T;refine⟨r,Y,J,λl M=>⟨l,Y,zi,λA y C d u=>q A y ((hU l M).trans C) ?_ u⟩⟩;have D:A≠l:=λz=>by rw[z,zi] at d;cases d
 rw[zm D] at d;exact d
end
end L2
namespace K71
open PySem L2
abbrev zZZ(n:Nat)(x:List L2.V):L2.St:=x.map some++List.replicate (n-x.length) none
abbrev aE:=ur λi j=>.int (i+j)
abbrev aF:=rI (λ_ j=>0<j) λi j=>.int (i%j)
abbrev aG:=ur λi j=>.bl (decide (i<j))
abbrev aH:=rI Kb λi j=>.int (i/j)
abbrev aI:=ur λi j=>.int (i-j)
abbrev aX(Q:VK):Zn:={nx:=λ_ a=>Q .non a,rt:=Q}
def top(i:Nat):ar:=PySem.Challenge.pw_forerun_k71_handed_in_or_refused.main.body.getD i (.Pass ⟨0,0,0,0⟩)
abbrev zeM:ar:=top 65
abbrev Kt:ar:=top 29
abbrev qr:ar:=top 31
abbrev za0:ar:=top 30
abbrev Wi:ar:=top 32
abbrev Ku:ar:=top 33
abbrev VX:ar:=top 63
abbrev Vc:ar:=top 67
abbrev zgG:ar:=top 68
abbrev za1:ar:=top 64
abbrev Vd:ar:=top 69
abbrev Xv:ar:=top 57
abbrev za2:ar:=top 70
abbrev VY:ar:=top 71
abbrev Kv:ar:=top 75
abbrev Kw:ar:=top 73
abbrev qt:ar:=top 76
abbrev Xw:ar:=top 18
abbrev za3:ar:=top 77
abbrev Wj:ar:=zJ (top 23) 0
abbrev VZ:ar:=zJ (top 25) 0
abbrev V0:ar:=zJ (top 51) 0
abbrev Wk:ar:=zJ (top 90) 0
abbrev Ve:ar:=top 74
abbrev V1:ar:=zJ (top 90) 8
abbrev ZD:ar:=zJ (top 51) 4
abbrev kJ:ar:=zJ (top 51) 9
abbrev Kx:ar:=zJ (top 49) 1
abbrev Ky:ar:=zJ (top 49) 6
abbrev Kz:ar:=zJ (top 49) 2
abbrev zbN:ar:=zJ (top 23) 1
abbrev zdo:ar:=zJ (top 49) 9
abbrev ziU:ar:=top 46
abbrev KA:ar:=top 47
abbrev ZE:ar:=zJ (top 49) 5
abbrev KB:ar:=zJ (top 49) 8
abbrev Wl:ar:=zJ (top 49) 7
abbrev KC:ar:=zJ (top 49) 3
abbrev v9:ar:=zJ (top 25) 4
abbrev wW:ar:=zJ (top 25) 5
abbrev zdp:ar:=top 22
abbrev qU:ar:=zJ (top 25) 2
abbrev Wm:ar:=zJ (top 92) 0
abbrev KD:ar:=zJ (top 49) 0
abbrev qV:ar:=zJ (top 51) 11
abbrev zbO:ar:=top 20
abbrev jT:ar:=zJ (top 51) 10
abbrev jU:ar:=zJ (top 23) 6
abbrev jV:ar:=zJ (top 23) 8
abbrev jW:ar:=zJ (top 23) 9
abbrev zeN:ar:=top 21
abbrev V2:ar:=zJ (top 23) 2
abbrev zbP:ar:=zJ (top 25) 3
abbrev qW:ar:=zJ (top 25) 1
abbrev V3:ar:=zJ (top 49) 4
abbrev V4:ar:=zJ (top 51) 2
abbrev Y4:ar:=zJ (top 51) 3
abbrev za4:ar:=top 58
abbrev V5:ar:=top 60
abbrev vU:ar:=top 59
abbrev V6:ar:=top 61
abbrev wX:ar:=zJ (top 90) 10
abbrev ZF:ar:=zJ (top 90) 3
abbrev V7:ar:=top 62
abbrev za5:ar:=top 89
abbrev ZG:ar:=top 96
abbrev qX:ar:=zJ (top 90) 9
abbrev ZH:ar:=top 94
abbrev Wn:ar:=zJ (top 90) 2
abbrev ZI:ar:=top 99
abbrev KG:ar:=zJ (top 51) 1
abbrev QO:ar:=top 3
abbrev KH:ar:=top 2
abbrev za6:ar:=top 4
abbrev ZJ:ar:=zJ (top 86) 0
abbrev kK:ar:=zJ (top 9) 0
abbrev qY:ar:=zJ (top 86) 4
abbrev qZ:ar:=zJ (top 86) 5
abbrev jc:ar:=zJ (top 86) 2
abbrev kL:ar:=zJ (top 86) 3
abbrev q8:ar:=zJ (top 86) 1
abbrev q9:ar:=zJ (top 82) 0
abbrev vE:ar:=zJ (top 82) 1
abbrev Vf:ar:=top 40
abbrev vF:ar:=zJ (top 82) 3
abbrev Y5:ar:=top 42
abbrev za7:ar:=top 41
abbrev V8:ar:=top 43
abbrev vG:ar:=zJ (top 82) 4
abbrev jx:ar:=zJ (top 82) 2
abbrev Wo:ar:=top 83
abbrev V9:ar:=top 84
abbrev jd:ar:=zJ (top 82) 5
abbrev zdq:ar:=top 85
abbrev ziV:ar:=top 87
abbrev Za:ar:=zJ (top 90) 1
abbrev ZK:ar:=top 97
abbrev KI:ar:=top 95
abbrev kM:ar:=top 98
abbrev Zb:ar:=zJ (top 90) 4
abbrev ziW:ar:=top 100
theorem zdr:aJ ["thing"] ["thing"] (zk Kt):=.m
theorem QP:aJ ["text"] ["text"] (zk qr):=.m
theorem zeO:aJ ["worth"] ["worth"] (zk za0):=.m
theorem q1f:aJ ["text","figures","worth"] ["text"] (zk Wi):=.m
theorem zds:aJ ["text"] ["text"] (zk Ku):=.m
theorem zbQ:aJ ["word","refusal"] ["word"] (zk VX):=.m
theorem q0z:aJ ["words","rows","at","place","places"] ["words"] (zk Vc):=.m
theorem q1p:aJ ["word","rank"] ["word"] (zk za1):=.m
theorem zeP:aJ ["words","rows"] ["words","rows"] (zk Vd):=.m
theorem q1q:aJ ["body","total"] ["body"] (zk Xv):=.m
theorem q1r:aJ ["text","parts"] ["text"] (zk za2):=.m
theorem q15:aJ ["text","words","at","rows"] ["text"] (zk VY):=.m
theorem zdt:aJ ["line","refusal"] ["line"] (zk Kv):=.m
theorem zdu:aJ ["text"] ["text"] (zk Kw):=.m
theorem q1s:aJ ["text","entries"] ["text"] (zk qt):=.m
theorem q1t:aJ ["rows","worths"] ["rows"] (zk Xw):=.m
theorem q0t:aJ ["text","entries","rank","rows","told","entry"] ["text"] (zk za3):=.m
theorem QQ:aJ ["self","table"] ["self","table"] (zk Wj):=.m
theorem zbR:aJ ["self","makes"] ["self","makes"] (zk VZ):=.m
theorem zbS:aJ ["self","table","hands","way","first"] ["self","table","hands","way","first"] (zk V0):=.m
theorem q1u:aJ ["self","log","hands","way","came"] ["self","log","hands","way"] (zk Wk):=.m
theorem zeQ:aJ ["lines"] ["lines"] (zk Ve):=.m
theorem zbT:aJ ["self"] ["self"] (zk V1):=.m
theorem Js:aJ ["self"] ["self"] (zk ZD):=.m
theorem Wp:aJ ["self"] ["self"] (zk kJ):=.m
theorem zdv:aJ ["self"] ["self"] (zk Kx):=.m
theorem q1v:aJ ["self","place"] ["self"] (zk Kz):=.m
theorem q10:aJ ["term","slots","worths","part","second","first"] ["term","slots"] (zk KA):=.m
theorem Jt:aJ ["self","term"] ["self","term"] (zk ZE):=.m
theorem q1w:aJ ["self","due","worth","place"] ["self","due","worth"] (zk KB):=.m
theorem QR:aJ ["self","due","worth"] ["self","due","worth"] (zk Wl):=.m
theorem zdw:aJ ["self","worth"] ["self","worth"] (zk KC):=.m
theorem q16:aJ ["self","rank","place","worth","now"] ["self","rank"] (zk v9):=.m
theorem q17:aJ ["self","ranks","rank","note"] ["self"] (zk wW):=.m
theorem q18:aJ ["self","rank","paper","place","worth"] ["self","rank"] (zk qU):=.m
theorem QS:aJ ["self","ranks"] ["self","ranks"] (zk Wm):=.m
theorem zdx:aJ ["self","code"] ["self","code"] (zk KD):=.m
theorem q1x:aJ ["self","hand","rank"] ["self","hand"] (zk qV):=.m
theorem q1g:aJ ["self","hand","lowest","changed"] ["self","hand"] (zk jT):=.m
theorem Xx:aJ ["self","rank"] ["self","rank"] (zk jU):=.m
theorem Xy:aJ ["self","rank"] ["self","rank"] (zk jV):=.m
theorem q1h:aJ ["self","rank","places","place"] ["self","rank"] (zk jW):=.m
theorem q1i:aJ ["self","rank","gifts","worths","place"] ["self","rank","gifts"] (zk V2):=.m
theorem q11:aJ ["self","rank","paper","before","place","worth"] ["self","rank","paper"] (zk qW):=.m
theorem q1y:aJ ["self","notes"] ["self"] (zk V3):=.m
theorem q12:aJ ["self","hand","rank","run","place","worth"] ["self","hand"] (zk V4):=.m
theorem q1z:aJ ["self","told"] ["self"] (zk Y4):=.m
theorem q20:aJ ["words","body"] ["words"] (zk za4):=.m
theorem q19:aJ ["rows","words","place","worth"] ["rows"] (zk V5):=.m
theorem Vg:aJ ["outcome"] ["outcome"] (zk vU):=.m
theorem zbU:aJ ["rank","paper"] ["rank","paper"] (zk V6):=.m
theorem q21:aJ ["self","paper"] ["self"] (zk wX):=.m
theorem q22:aJ ["self","did"] ["self"] (zk ZF):=.m
theorem zbV:aJ ["rank","table"] ["rank","table"] (zk V7):=.m
theorem zeR:aJ ["table"] ["table"] (zk za5):=.m
theorem zbW:aJ ["cell"] ["cell"] (zk ZG):=.m
theorem Vh:aJ ["self"] ["self"] (zk qX):=.m
theorem Ju:aJ ["script","k"] ["script","k"] (zk ZH):=.m
theorem q23:aJ ["self","hand","did"] ["self","hand"] (zk Wn):=.m
theorem q1j:aJ ["house","hand","refused"] ["house","hand"] (zk ZI):=.m
theorem q24:aJ ["self","code","rank"] ["self","code"] (zk KG):=.m
theorem q1k:aJ ["rows","first","steps","row"] ["rows","first"] (zk KH):=.m
theorem zeS:aJ ["rows"] ["rows"] (zk za6):=.m
theorem Jv:aJ ["self"] ["self"] (zk ZJ):=.m
theorem jX:aJ ["self","row"] ["self","row"] (zk kK):=.m
theorem Vi:aJ ["self","number"] ["self","number"] (zk qY):=.m
theorem Vj:aJ ["self","number"] ["self","number"] (zk qZ):=.m
theorem ZL:aJ ["self"] ["self"] (zk jc):=.m
theorem Wq:aJ ["self","row","number"] ["self","row","number"] (zk kL):=.m
theorem Vk:aJ ["self","row","number"] ["self","row","number"] (zk q8):=.m
theorem Vl:aJ ["self","words","number"] ["self","words","number"] (zk q9):=.m
theorem q25:aJ ["self","word"] ["self"] (zk vE):=.m
theorem zeT:aJ ["text"] ["text"] (zk Vf):=.m
theorem q26:aJ ["self","word"] ["self"] (zk vF):=.m
theorem q13:aJ ["words","at","due","place"] ["words","at"] (zk Y5):=.m
theorem zeU:aJ ["word"] ["word"] (zk za7):=.m
theorem q0y:aJ ["words","at","behind","parts","word","first","second"] ["words","at"] (zk V8):=.m
theorem q27:aJ ["self","found"] ["self"] (zk vG):=.m
theorem YU:aJ ["self"] ["self"] (zk jx):=.m
theorem q1l:aJ ["words","shelf","place"] ["words"] (zk Wo):=.m
theorem q28:aJ ["words","first"] ["words"] (zk V9):=.m
theorem ZM:aJ ["self"] ["self"] (zk jd):=.m
theorem q1a:aJ ["text","number","words","drawn","row"] ["text","number"] (zk zdq):=.m
theorem q14:aJ ["text","texts","reading","number","one"] ["text"] (zk ziV):=.m
theorem Vm:aJ ["self","text"] ["self","text"] (zk Za):=.m
theorem q0l:aJ ["house","rows","right","other","another","row","e"] ["house","rows"] (zk ZK):=.m
theorem q1m:aJ ["kind","some"] ["kind"] (zk KI):=.m
theorem q0o:aJ ["house","cell","rows","bad","due","kind","ahead"] ["house","cell","rows"] (zk kM):=.m
theorem Vn:aJ ["self"] ["self"] (zk Zb):=.m
theorem q0u:aJ ["script","hands","house","log","due","cell","rows"] ["script"] (zk ziW):=.m
set_option genSizeOf false in
set_option genInjectivity false in
set_option genInjectivity false in
structure aV where
 a0:L
 d0:Bc
 a1:L
 d1:Bc
 a2:L
 d2:Bc
 a3:L
 d3:Bc
 a4:L
 d4:Bc
 a5:L
 d5:Bc
 a6:L
 d6:Bc
 a7:L
 d7:Bc
 a8:L
 d8:Bc
 a9:L
 d9:Bc
 a10:L
 d10:Bc
 a11:L
 d11:Bc
 a12:L
 d12:Bc
 a13:L
 d13:Bc
 a14:L
 d14:Bc
 a15:L
 d15:Bc
 a16:L
 d16:Bc
 a17:L
 d17:Bc
 a18:L
 d18:Bc
 a19:L
 d19:Bc
 a20:L
 d20:Bc
 a21:L
 d21:Bc
 a22:L
 d22:Bc
 a23:L
 d23:Bc
 a24:L
 d24:Bc
 a25:L
 d25:Bc
 a26:L
 d26:Bc
 a27:L
 d27:Bc
 a28:L
 d28:Bc
 a29:L
 d29:Bc
 a30:L
 d30:Bc
 a31:L
 d31:Bc
 a32:L
 d32:Bc
 a33:L
 d33:Bc
 a34:L
 d34:Bc
 a35:L
 d35:Bc
 a36:L
 d36:Bc
 a37:L
 d37:Bc
 a38:L
 d38:Bc
 a39:L
 d39:Bc
 a40:L
 d40:Bc
 a41:L
 d41:Bc
 a42:L
 d42:Bc
 a43:L
 d43:Bc
 a44:L
 d44:Bc
 a45:L
 d45:Bc
 a46:L
 d46:Bc
 a47:L
 d47:Bc
 a48:L
 d48:Bc
 a49:L
 d49:Bc
 a50:L
 d50:Bc
 a51:L
 d51:Bc
 a52:L
 d52:Bc
 a53:L
 d53:Bc
 a54:L
 d54:Bc
 a55:L
 d55:Bc
 a56:L
 d56:Bc
 a57:L
 d57:Bc
 a58:L
 d58:Bc
 a59:L
 d59:Bc
 a60:L
 d60:Bc
 a61:L
 d61:Bc
 a62:L
 d62:Bc
 a63:L
 d63:Bc
 a64:L
 d64:Bc
 a65:L
 d65:Bc
 a66:L
 d66:Bc
 a67:L
 d67:Bc
 a68:L
 d68:Bc
 a69:L
 d69:Bc
 a70:L
 d70:Bc
 a71:L
 d71:Bc
 a72:L
 d72:Bc
 a73:L
 d73:Bc
 a74:L
 d74:Bc
 a75:L
 d75:Bc
 a76:L
 d76:Bc
 a77:L
 d77:Bc
 a78:L
 d78:Bc
 a79:L
 d79:Bc
 a80:L
 d80:Bc
 a81:L
 d81:Bc
 a82:L
 d82:Bc
 a83:L
 d83:Bc
 a84:L
 d84:Bc
 a85:L
 d85:Bc
 a86:L
 d86:Bc
 a87:L
 d87:Bc
 a88:L
 d88:Bc
 a89:L
 d89:Bc
 a90:L
 d90:Bc
 a91:L
 d91:Bc
 a92:L
 d92:Bc
 a93:L
 d93:Bc
 a94:L
 d94:Bc
 a95:L
 d95:Bc
 a96:L
 d96:Bc
 a97:L
 d97:Bc
 a98:L
 d98:Bc
 a99:L
 d99:Bc
 a100:L
 d100:Bc
 k_CHECK_BY:Tok
 k_CHECK_FIGURES:Tok
 k_FIGURES:Tok
 q0h:L
 k_LETTERS:Tok
 k_MOST_BLOCKS:Tok
 k_MOST_FACTOR:Tok
 k_MOST_FIGURES:Tok
 k_MOST_LETTERS:Tok
 k_MOST_ROWS:Tok
 k_MOST_WORDS_reader:Tok
 k_MOST_WORDS_terms:Tok
 q1b:L
 q00:L
 q0p:L
 q0v:L
 q0e:L
 q03:L
 q09:L
 q07:L
 q02:L
 q08:L
 q0q:L
 q0r:L
 q0a:L
 q0s:L
 q04:L
 q0f:L
 q05:L
 q06:L
 q01:L
 q0d:L
structure Txt(K:bo)(mg:Str->Option ae)(t:aV):Prop where
 m_law:mg "law"=U (.ref t.a100)
 g_JOINING:mg "JOINING"=U (.ref t.q0h)
 g_ROW_WORDS:mg "ROW_WORDS"=U (.ref t.q1b)
 g_Desk:mg "Desk"=U (.ref t.q00)
 g_Folded:mg "Folded"=U (.ref t.q0p)
 g_ForerunError:mg "ForerunError"=U (.ref t.q0v)
 g_Great:mg "Great"=U (.ref t.q0e)
 g_House:mg "House"=U (.ref t.q03)
 g_Jobs:mg "Jobs"=U (.ref t.q09)
 g_Makes:mg "Makes"=U (.ref t.q07)
 g_NoDealing:mg "NoDealing"=U (.ref t.q02)
 g_NoHand:mg "NoHand"=U (.ref t.q08)
 g_NoLine:mg "NoLine"=U (.ref t.q0q)
 g_NoLog:mg "NoLog"=U (.ref t.q0r)
 g_NoNumber:mg "NoNumber"=U (.ref t.q0a)
 g_NoOrder:mg "NoOrder"=U (.ref t.q0s)
 g_NoTerm:mg "NoTerm"=U (.ref t.q04)
 g_Nought:mg "Nought"=U (.ref t.q0f)
 g_Reading:mg "Reading"=U (.ref t.q05)
 g_RowWords:mg "RowWords"=U (.ref t.q06)
 g_Run:mg "Run"=U (.ref t.q01)
 g_Way:mg "Way"=U (.ref t.q0d)
 me_Run_step:zcF K t.q01 "step" t.a37
 q0i:uu K t.q00
 mk_Desk:Mk K t.q00 t.a21
 q0j:uu K t.q03
 mk_House:Mk K t.q03 t.a22
 q0w:uu K t.q09
 mk_Jobs:Mk K t.q09 t.a20
 q0m:uu K t.q07
 mk_Makes:Mk K t.q07 t.a19
 q0x:uu K t.q05
 mk_Reading:Mk K t.q05 t.a74
 q0g:uu K t.q06
 mk_RowWords:Mk K t.q06 t.a81
 q0c:uu K t.q01
 mk_Run:Mk K t.q01 t.a43
 q2f:uu K t.q0d
 mo_Way:MkO K t.q0d
 xq_NoDealing:fE K (.ref t.q02) "__init__"=U (U (.ref t.a75))
 g0:FG K mg "shelf_in" zeM ["word"] t.a0 t.d0
 g1:FG K mg "is_worth" Kt ["thing"] t.a1 t.d1
 g2:FG K mg "is_figures" qr ["text"] t.a2 t.d2
 g3:FG K mg "numeral" za0 ["worth"] t.a3 t.d3
 g4:FG K mg "is_numeral" Wi ["text"] t.a4 t.d4
 g5:FG K mg "worth_in" Ku ["text"] t.a5 t.d5
 g6:FG K mg "number_in" VX ["word"] t.a6 t.d6
 g7:FG K mg "rows_in" Vc ["words"] t.a7 t.d7
 g8:FG K mg "deal_in" zgG ["words","rows"] t.a8 t.d8
 g9:FG K mg "rank_in" za1 ["word"] t.a9 t.d9
 g10:FG K mg "mark_in" Vd ["words","rows"] t.a10 t.d10
 g11:FG K mg "check_of" Xv ["body"] t.a11 t.d11
 g12:FG K mg "body_in" za2 ["text"] t.a12 t.d12
 g13:FG K mg "line_read" VY ["text"] t.a13 t.d13
 g14:FG K mg "entry_in" Kv ["line"] t.a14 t.d14
 g15:FG K mg "lines_of" Kw ["text"] t.a15 t.d15
 g16:FG K mg "entries_of" qt ["text"] t.a16 t.d16
 g17:FG K mg "table_of" Xw ["rows"] t.a17 t.d17
 g18:FG K mg "come_up" za3 ["text"] t.a18 t.d18
 q2g:Fun K "__init__" "Makes.__init__" Wj t.a19 t.d19
 q2h:mt K t.d19 ["self","table"] []
 q2i:Fun K "__init__" "Jobs.__init__" VZ t.a20 t.d20
 q2j:mt K t.d20 ["self","makes"] []
 q2k:FunD K "__init__" "Desk.__init__" V0 t.a21 t.d21
 q2l:mt K t.d21 ["self","table","hands","way","first"] []
 q2m:Fun K "__init__" "House.__init__" Wk t.a22 t.d22
 q2n:mt K t.d22 ["self","log","hands","way"] []
 g23:FG K mg "text_of" Ve ["lines"] t.a23 t.d23
 g24:FM K t.q03 "log" "House.log" V1 ["self"] t.a24 t.d24
 g25:FM K t.q00 "settled" "Desk.settled" ZD ["self"] t.a25 t.d25
 g26:FM K t.q00 "next_rank" "Desk.next_rank" kJ ["self"] t.a26 t.d26
 g27:FM K t.q01 "over" "Run.over" Kx ["self"] t.a27 t.d27
 g28:FM K t.q01 "place_in" "Run.place_in" Ky ["self","due"] t.a28 t.d28
 g29:FM K t.q01 "asks" "Run.asks" Kz ["self"] t.a29 t.d29
 g30:FM K t.q07 "seen" "Makes.seen" zbN ["self","place","rank"] t.a30 t.d30
 g31:FM K t.q01 "taken" "Run.taken" zdo ["self","place","worth"] t.a31 t.d31
 g32:FG K mg "joined" ziU ["word","first","second"] t.a32 t.d32
 g33:FG K mg "reckoned" KA ["term","slots"] t.a33 t.d33
 g34:FM K t.q01 "worth_of" "Run.worth_of" ZE ["self","term"] t.a34 t.d34
 g35:FM K t.q01 "does" "Run.does" KB ["self","due","worth"] t.a35 t.d35
 g36:FM K t.q01 "led_by" "Run.led_by" Wl ["self","due","worth"] t.a36 t.d36
 q2o:FunD K "step" "Run.step" KC t.a37 t.d37
 q2p:mt K t.d37 ["self","worth"] []
 bd_Run_step:∃ds,aQ [.int 0] ds/\mt K t.d37 ["self","worth"] ds
 g38:FM K t.q09 "changed_note" "Jobs.changed_note" v9 ["self","rank"] t.a38 t.d38
 g39:FM K t.q09 "lowest_changed" "Jobs.lowest_changed" wW ["self"] t.a39 t.d39
 g40:FG K mg "drop_rank" zdp ["ranks_at","place","rank"] t.a40 t.d40
 g41:FM K t.q09 "take_off" "Jobs.take_off" qU ["self","rank"] t.a41 t.d41
 g42:FM K t.q0d "chosen" "Way.chosen" Wm ["self","ranks"] t.a42 t.d42
 q2q:Fun K "__init__" "Run.__init__" KD t.a43 t.d43
 q2r:mt K t.d43 ["self","code"] []
 g44:FM K t.q00 "taken_up" "Desk.taken_up" qV ["self","hand"] t.a44 t.d44
 g45:FG K mg "many_below" zbO ["ranks","rank"] t.a45 t.d45
 g46:FM K t.q00 "moved_free" "Desk.moved_free" jT ["self","hand"] t.a46 t.d46
 g47:FM K t.q07 "places_of" "Makes.places_of" jU ["self","rank"] t.a47 t.d47
 g48:FM K t.q07 "heed_fold" "Makes.heed_fold" jV ["self","rank"] t.a48 t.d48
 g49:FM K t.q07 "take_away" "Makes.take_away" jW ["self","rank"] t.a49 t.d49
 g50:FG K mg "put_rank" zeN ["ranks_at","place","rank"] t.a50 t.d50
 g51:FM K t.q07 "lay" "Makes.lay" V2 ["self","rank","gifts"] t.a51 t.d51
 g52:FM K t.q09 "doubt" "Jobs.doubt" zbP ["self","place","rank"] t.a52 t.d52
 g53:FM K t.q09 "lay_down" "Jobs.lay_down" qW ["self","rank","paper"] t.a53 t.d53
 g54:FM K t.q01 "paper" "Run.paper" V3 ["self"] t.a54 t.d54
 g55:FM K t.q00 "move" "Desk.move" V4 ["self","hand"] t.a55 t.d55
 g56:FM K t.q00 "finish" "Desk.finish" Y4 ["self"] t.a56 t.d56
 g57:FG K mg "line_of" za4 ["words"] t.a57 t.d57
 g58:FG K mg "row_words" V5 ["rows"] t.a58 t.d58
 g59:FG K mg "outcome_words" vU ["outcome"] t.a59 t.d59
 g60:FG K mg "deal_line" V6 ["rank","paper"] t.a60 t.d60
 g61:FM K t.q03 "write_settled" "House.write_settled" wX ["self"] t.a61 t.d61
 g62:FM K t.q03 "finish" "House.finish" ZF ["self"] t.a62 t.d62
 g63:FG K mg "mark_line" V7 ["rank","table"] t.a63 t.d63
 g64:FG K mg "new_log" za5 ["table"] t.a64 t.d64
 g65:FG K mg "_law_rows" ZG ["cell"] t.a65 t.d65
 g66:FM K t.q03 "answers" "House.answers" qX ["self"] t.a66 t.d66
 g67:FG K mg "_law_cell_at" ZH ["script","k"] t.a67 t.d67
 g68:FM K t.q03 "move" "House.move" Wn ["self","hand"] t.a68 t.d68
 g69:FG K mg "_law_no_hand" ZI ["house","hand"] t.a69 t.d69
 g70:FM K t.q00 "add" "Desk.add" KG ["self","code"] t.a70 t.d70
 g71:FG K mg "block_steps" QO ["row","at"] t.a71 t.d71
 g72:FG K mg "steps_of" KH ["rows","first"] t.a72 t.d72
 g73:FG K mg "code_of" za6 ["rows"] t.a73 t.d73
 q2s:Fun K "__init__" "Reading.__init__" ZJ t.a74 t.d74
 q2t:mt K t.d74 ["self"] []
 q29:Fun K "__init__" "NoDealing.__init__" kK t.a75 t.d75
 q0k:mt K t.d75 ["self","row"] []
 g76:FM K t.q05 "turns" "Reading.turns" qY ["self","number"] t.a76 t.d76
 g77:FM K t.q05 "shuts" "Reading.shuts" qZ ["self","number"] t.a77 t.d77
 g78:FM K t.q05 "innermost" "Reading.innermost" jc ["self"] t.a78 t.d78
 g79:FM K t.q05 "begins" "Reading.begins" kL ["self","row","number"] t.a79 t.d79
 g80:FM K t.q05 "reads" "Reading.reads" q8 ["self","row","number"] t.a80 t.d80
 q2u:Fun K "__init__" "RowWords.__init__" q9 t.a81 t.d81
 q2v:mt K t.d81 ["self","words","number"] []
 g82:FM K t.q06 "draw_word" "RowWords.draw_word" vE ["self"] t.a82 t.d82
 g83:FG K mg "is_name" Vf ["text"] t.a83 t.d83
 g84:FM K t.q06 "draw_name" "RowWords.draw_name" vF ["self"] t.a84 t.d84
 g85:FG K mg "behind_term" Y5 ["words","at"] t.a85 t.d85
 g86:FG K mg "part_in" za7 ["word"] t.a86 t.d86
 g87:FG K mg "term_from" V8 ["words","at"] t.a87 t.d87
 g88:FM K t.q06 "draw_term" "RowWords.draw_term" vG ["self"] t.a88 t.d88
 g89:FM K t.q06 "draw_as" "RowWords.draw_as" jx ["self"] t.a89 t.d89
 g90:FG K mg "take_drawn" Wo ["words"] t.a90 t.d90
 g91:FG K mg "row_drawn" V9 ["words"] t.a91 t.d91
 g92:FM K t.q06 "draw_end" "RowWords.draw_end" jd ["self"] t.a92 t.d92
 g93:FG K mg "row_in" zdq ["text","number"] t.a93 t.d93
 g94:FG K mg "read" ziV ["text"] t.a94 t.d94
 g95:FM K t.q03 "hand_in" "House.hand_in" Za ["self","text"] t.a95 t.d95
 g96:FG K mg "_law_refused" ZK ["house","rows"] t.a96 t.d96
 g97:FG K mg "_law_bad" KI ["kind"] t.a97 t.d97
 g98:FG K mg "_law_bad_right" kM ["house","cell","rows"] t.a98 t.d98
 g99:FM K t.q03 "settled" "House.settled" Zb ["self"] t.a99 t.d99
 q2w:Fun K "law" "law" ziW t.a100 t.d100
 q46:mt K t.d100 ["script"] []
 w_law:∀(s:af) (v:ae),BindsTo s t.d100 ⟨[v],[]⟩ [("script",v)]
 q2x:mg "ValueError"=ah
 q2a:mg "all"=ah
 q2y:mg "any"=ah
 q2b:mg "bool"=ah
 q1n:mg "dict"=ah
 q2c:mg "enumerate"=ah
 b_int:mg "int"=ah
 q0n:mg "isinstance"=ah
 q0b:mg "len"=ah
 b_list:mg "list"=ah
 q2z:mg "ord"=ah
 q2d:mg "range"=ah
 q30:mg "reversed"=ah
 b_set:mg "set"=ah
 q1c:mg "sorted"=ah
 q1d:mg "str"=ah
 q31:mg "sum"=ah
 q2e:mg "tuple"=ah
 g_CHECK_BY:mg "CHECK_BY"=U (.int 1009 t.k_CHECK_BY)
 g_CHECK_FIGURES:mg "CHECK_FIGURES"=U (.int 4 t.k_CHECK_FIGURES)
 g_FIGURES:mg "FIGURES"=U (.str "0123456789" t.k_FIGURES)
 q1e:∀H:Hp,tZ K H t.q0h [.str "plus",.str "minus",.str "times",.str "over",.str "rest",.str "under",.str "same"]
 g_LETTERS:mg "LETTERS"=U (.str "abcdefghijklmnopqrstuvwxyz" t.k_LETTERS)
 g_MOST_BLOCKS:mg "MOST_BLOCKS"=U (.int 5 t.k_MOST_BLOCKS)
 g_MOST_FACTOR:mg "MOST_FACTOR"=U (.int 1008 t.k_MOST_FACTOR)
 g_MOST_FIGURES:mg "MOST_FIGURES"=U (.int 31 t.k_MOST_FIGURES)
 g_MOST_LETTERS:mg "MOST_LETTERS"=U (.int 6 t.k_MOST_LETTERS)
 g_MOST_ROWS:mg "MOST_ROWS"=U (.int 40 t.k_MOST_ROWS)
 g_MOST_WORDS_reader:mg "MOST_WORDS_reader"=U (.int 60 t.k_MOST_WORDS_reader)
 g_MOST_WORDS_terms:mg "MOST_WORDS_terms"=U (.int 60 t.k_MOST_WORDS_terms)
 q32:∀H:Hp,tZ K H t.q1b [.str "take",.str "give",.str "let",.str "say",.str "off",.str "if",.str "else",.str "end",.str "as"]
 q33:aK K t.q00 "codes"
 q34:aK K t.q00 "ended"
 q35:aK K t.q00 "first"
 q36:aK K t.q00 "hands"
 q37:aK K t.q00 "held"
 q38:aK K t.q00 "jobs"
 q39:aK K t.q00 "makes"
 q3a:aK K t.q00 "waiting"
 q3b:aK K t.q00 "way"
 q3c:aK K t.q03 "desk"
 q3d:aK K t.q03 "due"
 q3e:aK K t.q03 "lines"
 q3f:aK K t.q03 "told"
 q3g:aK K t.q09 "doubted"
 q3h:aK K t.q09 "laid"
 q3i:aK K t.q09 "makes"
 q3j:aK K t.q09 "readers"
 q3k:aK K t.q07 "folded"
 q3l:aK K t.q07 "ground"
 q3m:aK K t.q07 "ranks"
 q3n:aK K t.q07 "worths"
 q3o:aK K t.q05 "blocks"
 q3p:aK K t.q05 "rows"
 q3q:aK K t.q05 "turned"
 q3r:aK K t.q06 "at"
 q3s:aK K t.q06 "number"
 q3t:aK K t.q06 "words"
 q3u:aK K t.q01 "at"
 q3v:aK K t.q01 "code"
 q3w:aK K t.q01 "gifts"
 q3x:aK K t.q01 "notes"
 q3y:aK K t.q01 "sayings"
 q3z:aK K t.q01 "slots"
 q40:aK K t.q01 "why"
 xi_NoDealing:zdi K t.q02 t.a75=ai
 xk_NoDealing:lh K (.ref t.q02)=ai
 xf_NoDealing:tI K (.ref t.a75)=ai
 es_NoDealing:ExS K t.q02
 nx_NoDealing:aK K t.q02 "row"
 q47:eG K (.ref t.q02) (.ref t.q0e)=U ag
 q48:eG K (.ref t.q02) (.ref t.q0f)=U ag
 q49:eG K (.ref t.q02) (.ref t.q08)=U ag
 q4a:eG K (.ref t.q02) (.ref t.q04)=U ag
 q41:eG K (.ref t.q02) (.ref t.q02)=U ai
 i_NoDealing_ValueError:dG K (.ref t.q02) (.type "ValueError")=U ai
 i_NoDealing_ForerunError:dG K (.ref t.q02) (.ref t.q0v)=U ai
 j_NoDealing_0:mf K (.ref t.q02) [.ref t.q0a,.ref t.q04,.ref t.q0f,.ref t.q0e,.ref t.q0p]=U ag
 j_NoDealing_1:mf K (.ref t.q02) [.ref t.q08,.ref t.q0s,.ref t.q0q,.ref t.q0r]=U ag
 q42:tj K t.q0a Kc jr=ai
 y_NoNumber:ExK K t.q0a
 q4b:eG K (.ref t.q0a) (.ref t.q0e)=U ag
 q4c:eG K (.ref t.q0a) (.ref t.q0f)=U ag
 q4d:eG K (.ref t.q0a) (.ref t.q08)=U ag
 q4e:eG K (.ref t.q0a) (.ref t.q04)=U ag
 q4f:eG K (.ref t.q0a) (.ref t.q02)=U ag
 m_NoNumber_Great_Nought:tR K (.ref t.q0a) [.ref t.q0e,.ref t.q0f]=U ag
 i_NoNumber_ValueError:dG K (.ref t.q0a) (.type "ValueError")=U ai
 i_NoNumber_ForerunError:dG K (.ref t.q0a) (.ref t.q0v)=U ai
 j_NoNumber_0:mf K (.ref t.q0a) [.ref t.q0a,.ref t.q04,.ref t.q0f,.ref t.q0e,.ref t.q0p]=U ai
 j_NoNumber_1:mf K (.ref t.q0a) [.ref t.q08,.ref t.q0s,.ref t.q0q,.ref t.q0r]=U ag
 q43:tj K t.q08 Kc jr=ai
 y_NoHand:ExK K t.q08
 q4g:eG K (.ref t.q08) (.ref t.q0e)=U ag
 q4h:eG K (.ref t.q08) (.ref t.q0f)=U ag
 q44:eG K (.ref t.q08) (.ref t.q08)=U ai
 q4i:eG K (.ref t.q08) (.ref t.q04)=U ag
 q4j:eG K (.ref t.q08) (.ref t.q02)=U ag
 m_NoHand_Great_Nought:tR K (.ref t.q08) [.ref t.q0e,.ref t.q0f]=U ag
 i_NoHand_ValueError:dG K (.ref t.q08) (.type "ValueError")=U ai
 i_NoHand_ForerunError:dG K (.ref t.q08) (.ref t.q0v)=U ai
 j_NoHand_0:mf K (.ref t.q08) [.ref t.q0a,.ref t.q04,.ref t.q0f,.ref t.q0e,.ref t.q0p]=U ag
 j_NoHand_1:mf K (.ref t.q08) [.ref t.q08,.ref t.q0s,.ref t.q0q,.ref t.q0r]=U ai
 q1o:tj K t.q04 Kc jr=ai
 y_NoTerm:ExK K t.q04
 q4k:eG K (.ref t.q04) (.ref t.q0e)=U ag
 q4l:eG K (.ref t.q04) (.ref t.q0f)=U ag
 q4m:eG K (.ref t.q04) (.ref t.q08)=U ag
 q45:eG K (.ref t.q04) (.ref t.q04)=U ai
 q4n:eG K (.ref t.q04) (.ref t.q02)=U ag
 m_NoTerm_Great_Nought:tR K (.ref t.q04) [.ref t.q0e,.ref t.q0f]=U ag
 i_NoTerm_ValueError:dG K (.ref t.q04) (.type "ValueError")=U ai
 i_NoTerm_ForerunError:dG K (.ref t.q04) (.ref t.q0v)=U ai
 j_NoTerm_0:mf K (.ref t.q04) [.ref t.q0a,.ref t.q04,.ref t.q0f,.ref t.q0e,.ref t.q0p]=U ai
 j_NoTerm_1:mf K (.ref t.q04) [.ref t.q08,.ref t.q0s,.ref t.q0q,.ref t.q0r]=U ag
def zkk(K:bo):Prop:=dG K (.type "int") (.type "bool")=U ag
def ziX(K:bo)(H:Hp)(x:V):Prop:=∃T b,YT K H x (.type T)/\dG K (.type T) (.type "int")=U b/\(b=ai->dG K (.type T) (.type "bool")=U ai)
structure KF(K:bo):Prop where
 i_b:dG K (.type "int") (.type "bool")=U ag
 s_b:dG K (.type "str") (.type "bool")=U ag
 s_i:dG K (.type "str") (.type "int")=U ag
 i_s:dG K (.type "int") (.type "str")=U ag
 t_l:dG K (.type "tuple") (.type "list")=U ag
 l_t:dG K (.type "list") (.type "tuple")=U ag
 i_l:dG K (.type "int") (.type "list")=U ag
 i_t:dG K (.type "int") (.type "tuple")=U ag
 s_l:dG K (.type "str") (.type "list")=U ag
 s_t:dG K (.type "str") (.type "tuple")=U ag
def jL(a:List Str):Prop:=∀w∈a,w.length<=20000/\uf w
def zmG(C:L)(o:Option Nat)(k:Nat)(Q:VK)(E:XK)(H:Hp):Prop:=match o with
 |some n=>if n<=60 then Q (.int ((k+n:Nat):Int)) H else E (.ref C) ah H
 |none=>E (.ref C) ah H
def ZN(K:bo):Sp:=λb H Q _=>∃x,b=[x]/\((∃i,x=.int i/\∀a,ac H a->Q (.bl (inW i)) a)\/(ziX K H x/\∀a,ac H a->Q (.bl ag) a))
def xH:Sp:=λb H Q _=>∃w,b=[.int w]/\inW w=ai/\∀a,ac H a->Q (.str (zY w)) a
def kc:Sp:=λb H Q _=>∃x:Str,b=[.str x]/\x.length<=20000/\∀a,ac H a->Q (.bl (jQ x)) a
def we:Sp:=λb H Q _=>∃x:Str,b=[.str x]/\x.length<=20000/\∀a,ac H a->Q (.bl (xW x)) a
def vH(t:aV):Sp:=λb H Q E=>∃x:Str,b=[.str x]/\x.length<=20000/\uf x/\∀a,ac H a->if xW x=ai then Q (.int (wL x)) a else E (.ref t.q0a) ah a
def jy:Sp:=λb H Q _=>∃x:Str,b=[.str x]/\x.length<=20000/\∀a,ac H a->Q (.bl (yj x)) a
def KJ(t:aV):Sp:=λb H Q E=>∃x:Str,b=[.str x]/\x.length<=20000/\uf x/\∀a,ac H a->(match kH x with|some v=>Q v a|none=>E (.ref t.q04) ah a)
inductive jz (t:aV) (vs:List V) (H:Hp) (Q:VK) (E:XK):Prop
 |mk (a) (ws:List Str) (k:Nat):vs=[.ref a,.int k]->H a=U (.lst (ws.map V.str))->ws.length<=1000->(∀H',ac H H'->zmG t.q04 (yy (ws.drop k) 1) k Q E H')->jz t vs H Q E
def qu(t:aV):Sp:=λf H Q E=>∃a,∃c:List Str,∃k:Nat,f=[.ref a,.int k]/\H a=U (.lst (c.map V.str))/\c.length<=1000/\jL c /\
 ((∃d e,xc c k=U (d,e)/\∀b p r,ac H b->b p=U (.tup [.ref r,.int (e:Nat)])->b r=U (.tup d)->Q (.ref p) b)\/(xc c k=ah/\∀b,ac H b->E (.ref t.q04) ah b))
structure WrF(K:bo)(t:aV):Prop where
 cl:uu K t.q06
 n1:aK K t.q06 "words"
 n2:aK K t.q06 "number"
 n3:aK K t.q06 "at"
structure hX(t:aV)(H:Hp)(x dx wa:L)(ws:List Str)(n:Int)(k:Nat):Prop where
 ix:H x=U (.ins t.q06 dx [("words",.ref wa),("number",.int n),("at",.int k)])
 hw:H wa=U (.lst (ws.map V.str))
def aO(x:L)(H a:Hp):Prop:=∀b o,b≠x->H b=U o->a b=U o
inductive vc (t:aV) (vs:List V) (H:Hp) (Q:VK) (_E:XK):Prop
 |mk (x wa n dx ws):vs=[.ref x,.ref wa,.int n]->H x=U (.ins t.q06 dx [])->H wa=U (.lst (cE V.str ws))->(∀H',aO x H H'->hX t H' x dx wa ws n 0->Q .non H')->vc t vs H Q _E
def ndX(t:aV)(E:XK)(x:L)(H:Hp)(k:Int):Prop:=∀d a,aO x H a->a d=U (.xd [("row",.int k)])->E (.ref t.q02) (U d) a
def yf(t:aV):Sp:=λe H Q E=>∃x d c a n k,e=[.ref x]/\hX t H x d c a n k/\k<=a.length/\((∃w,a[k]?=U w/\∀b,aO x H b->hX t b x d c a n (k+1)->Q (.str w) b)\/(a[k]?=ah/\ndX t E x H n))
inductive x8 (t:aV) (vs:List V) (H:Hp) (Q:VK) (E:XK):Prop
 |mk (x dx wa ws n k):vs=[.ref x]->hX t H x dx wa ws n k->k<=ws.length->(((ws[k]?=U ("as":Str)/\∀H',aO x H H'->hX t H' x dx wa ws n (k+1)->Q .non H')\/(ws[k]?≠U ("as":Str)/\ndX t E x H n)))->x8 t vs H Q E
inductive yg (t:aV) (vs:List V) (H:Hp) (Q:VK) (E:XK):Prop
 |mk (x dx wa ws n k):vs=[.ref x]->hX t H x dx wa ws n k->k<=ws.length->jL ws->(((∃w,ws[k]?=U w/\yj w=ai/\∀H',aO x H H'->hX t H' x dx wa ws n (k+1)->Q (.str w) H')\/((∀w,ws[k]?=U w->yj w=ag)/\ndX t E x H n)))->yg t vs H Q E
inductive zQ (t:aV) (vs:List V) (H:Hp) (Q:VK) (E:XK):Prop
 |mk (x dx wa ws n k):vs=[.ref x]->hX t H x dx wa ws n k->ws.length<=1000->jL ws->(((∃ps e,xc ws k=U (ps,e)/\∀H' r,aO x H H'->hX t H' x dx wa ws n e->H' r=U (.tup ps)->r≠x->Q (.ref r) H')\/(xc ws k=ah/\ndX t E x H n)))->zQ t vs H Q E
inductive xI (t:aV) (vs:List V) (H:Hp) (Q:VK) (E:XK):Prop
 |mk (x dx wa ws n k):vs=[.ref x]->hX t H x dx wa ws n k->k<=ws.length->(((k=ws.length/\∀H',ac H H'->Q .non H')\/(k<ws.length/\ndX t E x H n)))->xI t vs H Q E
inductive Hd where
 |take (sh:Str) (T:Tw) (sl:Str)
 |give (sh:Str) (T Bm:Tw)
 |lt (sl:Str) (T:Tw)
 |say (T:Tw)
 |off (T:Tw)
 |iff (T:Tw)
 |els
 |nd
def Hd.words:Hd->List Str
 |.take sh T sl=>([("take":Str),sh]++pre T)++[("as":Str),sl]
 |.give sh T Bm=>([("give":Str),sh]++pre T)++pre Bm
 |.lt sl T=>[("let":Str),sl]++pre T
 |.say T=>[("say":Str)]++pre T
 |.off T=>[("off":Str)]++pre T
 |.iff T=>[("if":Str)]++pre T
 |.els=>[("else":Str)]
 |.nd=>[("end":Str)]
structure KK(T:Tw):Prop where
 wf:wfT T
 ok:okT T=ai
 ws:jL (pre T)
def Hd.ok:Hd->Prop
 |.take sh T sl=>yj sh=ai/\KK T/\yj sl=ai
 |.give sh T Bm=>yj sh=ai/\KK T/\KK Bm
 |.lt sl T=>yj sl=ai/\KK T
 |.say T=>KK T
 |.off T=>KK T
 |.iff T=>KK T
 |.els=>True
 |.nd=>True
def ue(F:L->Prop)(H:Hp)(v:V):Hd->Prop
 |.take sh T sl=>∃r a,v=.ref r/\H r=U (.tup [.str "take",.str sh,.ref a,.str sl])/\H a=U (.tup (pst T))
 |.give sh T Bm=>∃r a d,v=.ref r/\H r=U (.tup [.str "give",.str sh,.ref a,.ref d])/\H a=U (.tup (pst T))/\H d=U (.tup (pst Bm))
 |.lt sl T=>∃r a,v=.ref r/\H r=U (.tup [.str "let",.str sl,.ref a])/\H a=U (.tup (pst T))
 |.say T=>∃r a,v=.ref r/\H r=U (.tup [.str "say",.ref a])/\H a=U (.tup (pst T))
 |.off T=>∃r a,v=.ref r/\H r=U (.tup [.str "off",.ref a])/\H a=U (.tup (pst T))
 |.iff T=>∃r a c b,v=.ref r/\H r=U (.tup [.str "if",.ref a,.ref c,.ref b])/\H a=U (.tup (pst T))/\H c=U (.lst [])/\H b=U (.lst [])/\F c/\F b/\c≠b
 |.els=>∃r,v=.ref r/\H r=U (.tup [.str "else"])
 |.nd=>∃r,v=.ref r/\H r=U (.tup [.str "end"])
inductive ke (t:aV) (vs:List V) (H:Hp) (Q:VK) (E:XK):Prop
 |mk (x dx wa ws n):vs=[.ref x]->hX t H x dx wa ws n 1->1<=ws.length->jL ws->ws.length<=60->(((∃sh T sl rest,ws=Hd.words (.take sh T sl)++rest/\Hd.ok (.take sh T sl)/\∀H' v,aO x H H'->hX t H' x dx wa ws n (Hd.words (.take sh T sl)).length->ue (λb=>H b=ah) H' v (.take sh T sl)->Q v H')\/((ws[0]?=U ("take":Str)/\∀sh T sl rest,ws=Hd.words (.take sh T sl)++rest->¬ Hd.ok (.take sh T sl))/\ndX t E x H n)))->ke t vs H Q E
inductive qv (t:aV) (vs:List V) (H:Hp) (Q:VK) (E:XK):Prop
 |mk (x dx wa ws n):vs=[.ref x]->hX t H x dx wa ws n 0->jL ws->ws.length<=60->(((∃hd rest,ws=Hd.words hd++rest/\hd.ok/\∀H' v,aO x H H'->hX t H' x dx wa ws n hd.words.length->ue (λb=>H b=ah) H' v hd->Q v H')\/((∀hd rest,ws=Hd.words hd++rest->¬ hd.ok)/\ndX t E x H n)))->qv t vs H Q E
def vI:Str:=⟨#[32]⟩
def vJ:Str:=⟨#[10]⟩
def Hd.line(h:Hd):Str:=cX vI h.words
structure ZO(hd:Hd):Prop where
 ok:hd.ok
 ws:jL hd.words
 ln:hd.words.length<=60
 bl:∀w∈hd.words,32 ∉ w.cps.toList/\10 ∉ w.cps.toList
def ndE(t:aV)(E:XK)(H:Hp)(k:Int):Prop:=∀d a,ac H a->a d=U (.xd [("row",.int k)])->E (.ref t.q02) (U d) a
abbrev jY(t:aV):Sp:=Kp t.q02 "row"
def zfL(x:Str):Prop:=∀a:Hd,x=a.line->¬ ZO a
inductive Vo (t:aV) (vs:List V) (H:Hp) (Q:VK) (E:XK):Prop
 |mk (x:Str) (n:Nat):vs=[.str x,.int n]->x.length<=20000->uf x->10 ∉ x.cps.toList->(((n<40/\∃hd:Hd,x=hd.line/\ZO hd/\∀H' v,ac H H'->ue (λb=>H b=ah) H' v hd->Q v H')\/((40<=n\/zfL x)/\ndE t E H n)))->Vo t vs H Q E
structure RdF(K:bo)(t:aV):Prop where
 cl:uu K t.q05
 n1:aK K t.q05 "rows"
 n2:aK K t.q05 "blocks"
 n3:aK K t.q05 "turned"
structure uv(t:aV)(H:Hp)(x dx rl bl tl:L)(blocks:List V)(turned:List Bool):Prop where
 ix:H x=U (.ins t.q05 dx [("rows",.ref rl),("blocks",.ref bl),("turned",.ref tl)])
 hb:H bl=U (.lst blocks)
 ht:H tl=U (.lst (turned.map V.bl))
 n1:rl≠bl
 n2:rl≠tl
 n3:bl≠tl
 le:blocks.length=turned.length
 l5:blocks.length<=5
def Inn(H:Hp)(h:L)(a:List V)(b:List Bool)(d:L):Prop:=(a=[]/\d=h)\/∃k r i g f e j c,a=k++[.ref r]/\b=j++[c]/\H r=U (.tup [i,g,.ref f,.ref e])/\d=if c=ai then e else f
def Zc(t:aV):Sp:=λf H Q _=>∃x d,f=[.ref x]/\H x=U (.ins t.q05 d [])/\∀a b e c,aO x H a->uv t a x d b e c [] []->a b=U (.lst [])->H b=ah->H e=ah->H c=ah->Q .non a
def yN(t:aV):Sp:=λf H Q _=>∃x h d i g b a c,f=[.ref x]/\uv t H x h d i g b a/\Inn H d b a c/\∀e,ac H e->Q (.ref c) e
def zlM(t:aV)(H:Hp)(c g f:L)(e a:List V)(b:List Bool)(v:V)(n:Int)(Q:VK)(E:XK):Prop:=(a.length<5->∀d,ac H d->Q .non (upd (upd (upd d c (.lst (e++[v]))) g (.lst (a++[v]))) f (.lst ((b++[ag]).map V.bl))))/\(a.length=5->ndE t E H n)
def zlN(t:aV)(H:Hp)(g:L)(a:List V)(c:List Bool)(n:Int)(Q:VK)(E:XK):Prop:=(∃e b d,a=e++[b]/\c=d++[ag]/\∀f,ac H f->Q .non (upd f g (.lst ((d++[ai]).map V.bl))))\/((a=[]\/∃e b d,a=e++[b]/\c=d++[ai])/\ndE t E H n)
def zlO(t:aV)(H:Hp)(i h:L)(a:List V)(d:List Bool)(n:Int)(Q:VK)(E:XK):Prop:=(∃f b e c,a=f++[b]/\d=e++[c]/\∀g,ac H g->Q .non (upd (upd g i (.lst f)) h (.lst (e.map V.bl))))\/(a=[]/\ndE t E H n)
inductive wN (t:aV) (vs:List V) (H:Hp) (Q:VK) (E:XK):Prop
 |mk (x v n dx rl bl tl blocks turned inn zs):vs=[.ref x,v,.int n]->uv t H x dx rl bl tl blocks turned->Inn H rl blocks turned inn->H inn=U (.lst zs)->zs.length<=1000->inn≠bl->inn≠tl->zlM t H inn bl tl zs blocks turned v n Q E->wN t vs H Q E
inductive vd (t:aV) (vs:List V) (H:Hp) (Q:VK) (E:XK):Prop
 |mk (x n dx rl bl tl blocks turned):vs=[.ref x,.int n]->uv t H x dx rl bl tl blocks turned->zlN t H tl blocks turned n Q E->vd t vs H Q E
inductive ve (t:aV) (vs:List V) (H:Hp) (Q:VK) (E:XK):Prop
 |mk (x n dx rl bl tl blocks turned):vs=[.ref x,.int n]->uv t H x dx rl bl tl blocks turned->zlO t H bl tl blocks turned n Q E->ve t vs H Q E
def Hd.plain:Hd->Prop
 |.iff _=>False
 |.els=>False
 |.nd=>False
 |_=>True
def zmH(t:aV)(H:Hp)(h g e:L)(b:List V)(a:List Bool)(v:V)(n:Int)(f:Hd)(Q:VK)(E:XK):Prop :=
 (f=.els/\zlN t H e b a n Q E)\/(f=.nd/\zlO t H g e b a n Q E) \/
  ((∃T,f=.iff T)/\∃c d,Inn H h b a c/\H c=U (.lst d)/\d.length<=1000/\c≠g/\c≠e/\zlM t H c g e d b a v n Q E) \/
  (f.plain/\∃c d,Inn H h b a c/\H c=U (.lst d)/\d.length<=1000/\∀i,ac H i->Q .non (upd i c (.lst (d++[v]))))
inductive vf (t:aV) (vs:List V) (H:Hp) (Q:VK) (E:XK):Prop
 |mk (x v n dx rl bl tl blocks turned hd F):vs=[.ref x,v,.int n]->uv t H x dx rl bl tl blocks turned->ue F H v hd->zmH t H rl bl tl blocks turned v n hd Q E->vf t vs H Q E
mutual
inductive Tr where
 |row (h:Hd)
 |iff (T:Tw) (a b:tY)
inductive tY where
 |nil
 |cons (x:Tr) (r:tY)
end
mutual
def TrAt(F:L->Prop)(H:Hp)(v:V):Tr->Prop
 |.row h=>ue Kl H v h
 |.iff T a b=>∃r g d c f e,v=.ref r/\F d/\F c/\H r=U (.tup [.str "if",.ref g,.ref d,.ref c])/\H g=U (.tup (pst T))/\H d=U (.lst f)/\aT F H f a/\H c=U (.lst e)/\aT F H e b
def aT(F:L->Prop)(H:Hp)(b:List V):tY->Prop
 |.nil=>b=[]
 |.cons x r=>∃v a,b=v::a/\TrAt F H v x/\aT F H a r
end
mutual
def Tr.deep:Tr->Nat
 |.row _=>0
 |.iff _ a b=>max a.deep b.deep+1
def tY.deep:tY->Nat
 |.nil=>0
 |.cons x r=>max x.deep r.deep
end
def tY.len:tY->Nat
 |.nil=>0
 |.cons _ r=>r.len+1
mutual
def Tr.ok:Tr->Prop
 |.row h=>ZO h/\h.plain
 |.iff T a b=>ZO (.iff T)/\a.ok/\b.ok
def tY.ok:tY->Prop
 |.nil=>True
 |.cons x r=>x.ok/\r.ok
end
def tY.snoc:tY->Tr->tY
 |.nil,x=>.cons x .nil
 |.cons y r,x=>.cons y (r.snoc x)
structure Fm where
 T:Tw
 c:Bool
 a:tY
 up:tY
def stp:tY->List Fm->Hd->Option (tY×List Fm)
 |D,fs,.iff T=>if fs.length<5 then U (.nil,⟨T,ag,.nil,D⟩::fs) else ah
 |D,fs,.els=>match fs with|f::r=>if f.c=ag then U (.nil,⟨f.T,ai,D,f.up⟩::r) else ah|[]=>ah
 |D,fs,.nd=>match fs with|f::r=>U (f.up.snoc (.iff f.T (if f.c=ai then f.a else D) (if f.c=ai then D else .nil)),r)|[]=>ah
 |D,fs,h=>U (D.snoc (.row h),fs)
open Classical in
noncomputable def hdS(x:Str):Option Hd:=if h:∃a:Hd,x=a.line/\ZO a then U h.choose else ah
noncomputable def uq:tY->List Fm->Nat->List Str->Except Nat tY
 |D,fs,k,[]=>if fs.length=0 then .ok D else .error k
 |D,fs,k,x::r=>if 40<=k then .error k else match hdS x with|some h=>(match stp D fs h with|some z=>uq z.1 z.2 (k+1) r|none=>.error k)|none=>.error k
def yJ(x:Str):List Str:=if x="" then [] else cP x vJ
def zbX(t:aV):Sp:=λc H Q E=>∃x:Str,c=[.str x]/\uf x/\x.length<=20000/\(∀D,uq .nil [] 0 (yJ x)=.ok D->∀a l b,ac H a->a l=U (.lst b)->aT Kl a b D->Q (.ref l) a)/\∀k,uq .nil [] 0 (yJ x)=.error k->ndE t E H k
structure NdF(K:bo)(t:aV):Prop where
 es:ExS K t.q02
 nx:aK K t.q02 "row"
 ex:eG K (.ref t.q02) (.ref t.q02)=U ai
 iv:dG K (.ref t.q02) (.type "ValueError")=U ai
 io:mf K (.ref t.q02) [.ref t.q0a,.ref t.q04,.ref t.q0f,.ref t.q0e,.ref t.q0p]=U ag
 ip:mf K (.ref t.q02) [.ref t.q08,.ref t.q0s,.ref t.q0q,.ref t.q0r]=U ag
 ie:dG K (.ref t.q02) (.ref t.q0v)=U ai
def wB(i:Int):Prop:=-1000000000000000000000000000000<=i/\i<=1000000000000000000000000000000
def rB(i:Int):Prop:=0<=i/\i<=100000000000000000000000000000
def zfx(H:Hp)(a:L)(c:List Row):Prop:=∃b,H a=U (.lst b)/\Paired (zlB H) b c
def OcAt(H:Hp)(v:V):Oc->Prop
 |.done sa=>∃o y,v=.ref o/\H o=U (.tup [.str "done",.ref y])/\H y=U (.tup (sa.map V.int))
 |.off w=>∃o,v=.ref o/\H o=U (.tup [.str "off",.str w])
def Wd(w:Str):Prop:=w.length<=40/\uf w/\32 ∉ w.cps.toList
def rwW(r:Row):List Str:=[r.1.1,zY r.1.2,zY r.2]
def wsR(a:List Row):List Str:=a.flatMap rwW
def ocW:Oc->List Str
 |.done sa=>"done" :: sa.map zY
 |.off w=>["off",w]
def ckL:Nat->List Nat->List Int
 |_,[]=>[]
 |i,c::cs=>(c:Int)*(1+(i:Int)%1008)::ckL (i+1) cs
def zkl(z:Str):Int:=(ckL 0 z.cps.toList).sum%1009
def KL(z:Str):Str:=zfS (zY (zkl z)) 4
def za8(a:List Str):Str:=jt " " a ++ " " ++ KL (jt " " a)
def Wr(r:Int)(a:List Row):List Str:=("mark":Str)::zY r::(";":Str)::wsR a
def vK:Sp:=λb H Q _=>∃z:Str,b=[.str z]/\uf z/\z.length<=20000/\∀a,ac H a->Q (.str (KL z)) a
inductive qw (vs:List V) (H:Hp) (Q:VK) (_E:XK):Prop
 |mk (a) (ws:List Str):vs=[.ref a]->H a=U (.lst (ws.map V.str))->(∀w∈ws,Wd w)->ws.length<=400->(∀H',ac H H'->Q (.str (za8 ws)) H')->qw vs H Q _E
inductive vg (vs:List V) (H:Hp) (Q:VK) (_E:XK):Prop
 |mk (v) (sa:List Int):vs=[v]->OcAt H v (.done sa)->sa.length<=300->(∀i∈sa,wB i)->(∀l H',ac H H'->H l=ah->H' l=U (.lst ((ocW (.done sa)).map V.str))->Q (.ref l) H')->vg vs H Q _E
def qx:Sp:=λc H Q _=>∃a,c=[.ref a]/\H a=U (.lst [])/\∀l b,ac H b->H l=ah->b l=U (.lst [])->Q (.ref l) b
inductive qy (vs:List V) (H:Hp) (Q:VK) (_E:XK):Prop
 |mk (r p o tl g) (sa:List Int):vs=[.int r,.ref p]->H p=U (.tup [o,.ref tl,.ref g])->rB r->OcAt H o (.done sa)->sa.length<=300->(∀i∈sa,wB i)->H g=U (.lst [])->(∀x H',ac H H'->Q (.str x) H')->qy vs H Q _E
def Ws:Sp:=λb H Q _=>∃g,b=[.int 0,.ref g]/\H g=U (.lst [])/\∀a,ac H a->Q (.str (za8 (Wr 0 []))) a
def wO:Sp:=λb H Q _=>∃w:Int,b=[.str (zY w)]/\inW w=ai/\∀a,ac H a->Q (.int w) a
def KM:Sp:=λb H Q _=>∃w:Int,b=[.str (zY w)]/\rB w/\∀a,ac H a->Q (.int w) a
def Xz:Sp:=λc H Q _=>∃a,c=[.ref a]/\H a=U (.lst [])/\∀l b,ac H b->H l=ah->b l=U (.lst [])->Q (.ref l) b
def XA:Sp:=λc H Q _=>∃a g,c=[.ref a,.ref g]/\H a=U (.lst [.str "mark",.str (zY 0)])/\H g=U (.lst [])/\∀p b,ac H b->b p=U (.tup [.str "mark",.int 0,.ref g])->Q (.ref p) b
def XB:Sp:=λc H Q _=>∃b:Str,c=[.str (b ++ " " ++ KL b)]/\uf b/\b.length<=20000/\∀a,ac H a->Q (.str b) a
def qz:Sp:=λb H Q _=>b=[.str (za8 (Wr 0 []))]/\∀p g a,ac H a->H g=ah->a g=U (.lst [])->a p=U (.tup [.str "mark",.int 0,.ref g])->Q (.ref p) a
def ul(H:Hp)(v:V)(n:Int):Prop:=∃r a,v=.ref r/\H r=U (.tup [.str "say",.ref a])/\H a=U (.tup [.int n])
def ZP:Sp:=λ_ _ _ _=>False
def ZQ:Sp:=λe H Q _=>∃l a,∃d:List Int,e=[.ref l,.int 0]/\H l=U (.lst a)/\Paired (ul H) a d/\d.length<=40/\∀b c,ac H c->H b=ah->c b=U (.lst a)->Q (.ref b) c
def XC:Sp:=λe H Q _=>∃l a,∃d:List Int,e=[.ref l]/\H l=U (.lst a)/\Paired (ul H) a d/\d.length<=40/\∀b c,ac H c->H b=ah->c b=U (.lst a)->Q (.ref b) c
structure RAd where
 dx:L
 co:L
 sl:L
 gi:L
 no:L
 sa:L
def zlP(a:RAd)(k:Nat):List (Str×V):=[(bb "code",.ref a.co),(bb "at",.int k),(bb "why",.non),(bb "slots",.ref a.sl),(bb "gifts",.ref a.gi),(bb "notes",.ref a.no),(bb "sayings",.ref a.sa)]
structure uj(t:aV)(H:Hp)(x:L)(a:RAd)(ns:List Int)(k m:Nat):Prop where
 ix:H x=U (.ins t.q01 a.dx (zlP a k))
 hc:∃xs,H a.co=U (.lst xs)/\Paired (ul H) xs ns
 hs:H a.sl=U (.dK [])
 hg:H a.gi=U (.dT [])
 hn:H a.no=U (.dT [])
 ha:H a.sa=U (.lst ((ns.take m).map V.int))
 nc:a.co≠a.sa
def OwA(x:L)(a:RAd)(b:L):Prop:=b=x\/b=a.co\/b=a.sl\/b=a.gi\/b=a.no\/b=a.sa
def KpR(x:L)(a:RAd)(H c:Hp):Prop:=∀b o,b≠x->b≠a.sa->H b=U o->c b=U o
structure RnF(K:bo)(t:aV):Prop where
 cl:uu K t.q01
 n1:aK K t.q01 "code"
 n2:aK K t.q01 "at"
 n3:aK K t.q01 "why"
 n4:aK K t.q01 "slots"
 n5:aK K t.q01 "gifts"
 n6:aK K t.q01 "notes"
 n7:aK K t.q01 "sayings"
def za9:Sp:=λ_ _ _ _=>False
def wn:Sp:=λ_ _ _ _=>False
def Wt:Sp:=λ_ _ _ _=>False
def ZR:Sp:=λd H Q _=>∃a b n,d=[.ref a,.ref b]/\H a=U (.tup [.int n])/\H b=U (.dK [])/\∀c,ac H c->Q (.int n) c
inductive ZS (t:aV) (vs:List V) (H:Hp) (Q:VK) (_E:XK):Prop
 |mk (x l dx xs ns):vs=[.ref x,.ref l]->H x=U (.ins t.q01 dx [])->H l=U (.lst xs)->Paired (ul H) xs ns->(∀H' a,aO x H H'->uj t H' x a ns 0 0->(∀b,OwA x a b->b=x\/H b=ah)->Q .non H')->ZS t vs H Q _E
inductive wH (t:aV) (vs:List V) (H:Hp) (Q:VK) (_E:XK):Prop
 |mk (x) (a:RAd) (ns:List Int) (k m:Nat):vs=[.ref x]->uj t H x a ns k m->Q (.bl (decide (ns.length<=k))) H->wH t vs H Q _E
inductive ZT (t:aV) (vs:List V) (H:Hp) (Q:VK) (_E:XK):Prop
 |mk (x) (a:RAd) (ns:List Int) (k m:Nat):vs=[.ref x]->uj t H x a ns k m->k<ns.length->Q .non H->ZT t vs H Q _E
inductive yA (t:aV) (vs:List V) (H:Hp) (Q:VK) (_E:XK):Prop
 |mk (x tm) (a:RAd) (ns) (k m:Nat) (n):vs=[.ref x,.ref tm]->uj t H x a ns k m->H tm=U (.tup [.int n])->(∀H',ac H H'->Q (.int n) H')->yA t vs H Q _E
inductive ZU (t:aV) (vs:List V) (H:Hp) (Q:VK) (_E:XK):Prop
 |mk (x v) (a:RAd) (ns) (k:Nat) (n):vs=[.ref x,v,.int 0]->uj t H x a ns k k->ul H v n->ns[k]?=U n->k<=40->(∀H',KpR x a H H'->uj t H' x a ns k (k+1)->Q .non H')->ZU t vs H Q _E
inductive kg (t:aV) (vs:List V) (H:Hp) (Q:VK) (_E:XK):Prop
 |mk (x v) (a:RAd) (ns) (k:Nat) (n):vs=[.ref x,v,.int 0]->uj t H x a ns k k->ul H v n->ns[k]?=U n->k<=40->(∀H',KpR x a H H'->uj t H' x a ns k (k+1)->Q (.int (k+1:Nat)) H')->kg t vs H Q _E
def ZV(t:aV):Sp:=λd H Q _=>∃x,∃a:RAd,∃b:List Int,∃k:Nat,d=[.ref x,.int 0]/\uj t H x a b k k/\k<b.length/\b.length<=40/\∀c,KpR x a H c->uj t c x a b (k+1) (k+1)->Q .non c
def PpV(H:Hp)(v:V)(c:List Int)(a b:L):Prop:=∃r o,v=.ref r/\H r=U (.tup [o,.ref a,.ref b])/\OcAt H o (.done c)/\H a=U (.lst [])/\H b=U (.lst [])
inductive qA (t:aV) (vs:List V) (H:Hp) (Q:VK) (_E:XK):Prop
 |mk (x) (a:RAd) (ns:List Int) (k:Nat):vs=[.ref x]->uj t H x a ns k k->ns.length<=k->ns.length<=40->(∀v nl gl H',ac H H'->PpV H' v ns nl gl->H nl=ah->H gl=ah->Q v H')->qA t vs H Q _E
structure ui where
 dx:L
 dj:L
 dm:L
 dw:L
 jb:L
 mks:L
 wy:L
 cl:L
 wl:L
 hd:L
 la:L
 re:L
 db:L
 gr:L
 wo:L
 rk:L
 en:L
def zbY(a:ui)(n:Int):List (Str×V):=[(bb "hands",.int n),(bb "way",.ref a.wy),(bb "first",.int 0),(bb "codes",.ref a.cl),(bb "waiting",.ref a.wl),(bb "held",.ref a.hd),(bb "makes",.ref a.mks),(bb "jobs",.ref a.jb),(bb "ended",.ref a.en)]
def zlQ(m b a c:L):List (Str×V):=[(bb "makes",.ref m),(bb "laid",.ref b),(bb "readers",.ref a),(bb "doubted",.ref c)]
def ziY(b a rk:L):List (Str×V):=[(bb "ground",.ref b),(bb "folded",.int 0),(bb "worths",.ref a),(bb "ranks",.ref rk)]
def dbL(a:List Int):List (bv×V):=a.map λr=>(.inl r,.bl ai)
structure DkV where
 cs:List V
 ws:List Int
 kv:List (bv×V)
 la:List (bv×V)
 db:List Int
 wo:List (bv×V)
 en:List V
def dkL(t:aV)(d:L)(a:ui)(n:Int)(D:DkV):List (L×HO):=[(d,.ins t.q00 a.dx (zbY a n)),(a.jb,.ins t.q09 a.dj (zlQ a.mks a.la a.re a.db)),(a.mks,.ins t.q07 a.dm (ziY a.gr a.wo a.rk)),(a.wy,.ins t.q0d a.dw []),(a.cl,.lst D.cs),(a.wl,.lst (D.ws.map V.int)),(a.hd,.dK D.kv),(a.la,.dK D.la),(a.db,.dK (dbL D.db)),(a.wo,.dK D.wo),(a.en,.lst D.en)]
structure OwL(H:Hp)(lb:L->Nat)(Bn:List (L×HO)):Prop where
 ob:∀(i:Nat) b o,Bn[i]?=U (b,o)->H b=U o/\lb b=i+1
 ow:∀b,lb b≠0->∃o,H b=U o
structure Fr(M:Nat->Prop)(H H':Hp)(lb lb':L->Nat):Prop where
 ex:∀b o,H b=U o->lb' b=lb b
 kp:∀b o,M (lb b)->H b=U o->H' b=U o
 ts:∀b zs,H b=U (.tup zs)->H' b=U (.tup zs)
 al:∀b o,H b=U o->∃o',H' b=U o'
def M0(l:Nat):Prop:=l=0\/l=14
def M1(l:Nat):Prop:=l=0\/14<=l
structure uE(K:bo)(t:aV):Prop where
 cD:uu K t.q00
 cM:uu K t.q07
 cJ:uu K t.q09
 d1:aK K t.q00 "hands"
 d2:aK K t.q00 "way"
 d3:aK K t.q00 "first"
 d4:aK K t.q00 "codes"
 d5:aK K t.q00 "waiting"
 d6:aK K t.q00 "held"
 d7:aK K t.q00 "makes"
 d8:aK K t.q00 "jobs"
 d9:aK K t.q00 "ended"
 m1:aK K t.q07 "ground"
 m2:aK K t.q07 "folded"
 m3:aK K t.q07 "worths"
 m4:aK K t.q07 "ranks"
 j1:aK K t.q09 "makes"
 j2:aK K t.q09 "laid"
 j3:aK K t.q09 "readers"
 j4:aK K t.q09 "doubted"
def Pk{a:Type}(R:Int->V->a->Prop)(b:List (bv×V))(l:List (Int×a)):Prop:=Paired (λx e=>x.1=.inl e.1/\R e.1 x.2 e.2) b l
def WoA(H:Hp)(c:L->Nat)(a:List (bv×V)):Prop:=∀x∈a,∃b,x.2=.ref b/\H b=U (.dT [])/\c b=14
def PpA(H:Hp)(b:L->Nat)(v:V)(d:List Int):Prop:=∃a c,PpV H v d a c/\b a=14/\b c=14
def CoA(H:Hp)(d:L->Nat)(v:V)(b:List Int):Prop:=∃c a,v=.ref c/\H c=U (.lst a)/\Paired (ul H) a b/\d c=14
def HhA(t:aV)(H:Hp)(f:L->Nat)(g:List (List Int))(h:Int)(v:V)(e:Int×Nat):Prop:=∃c x d a,v=.ref c/\H c=U (.tup [.int e.1,.ref x])/\g[e.1.toNat]?=U a/\uj t H x d a e.2 e.2/\e.2<=a.length/\∀b,OwA x d b->f b=20+h.toNat
def LaA(H:Hp)(b:L->Nat)(c:List (List Int))(r:Int)(v:V)(_:Unit):Prop:=∃a,c[r.toNat]?=U a/\PpA H b v a
structure DS where
 ws:List Int
 hl:List (Int×Int×Nat)
 ld:List (Int×Unit)
 db:List Int
 en:Nat
inductive ua (t:aV) (H:Hp) (d:L) (a:ui) (lb:L->Nat) (n:Int) (CC:List (List Int)) (S:DS):Prop
 |mk (D:DkV):OwL H lb (dkL t d a n D)->D.ws=S.ws->D.db=S.db->Paired (CoA H lb) D.cs CC->Pk (HhA t H lb CC) D.kv S.hl->Pk (LaA H lb CC) D.la S.ld->WoA H lb D.wo->D.wo.length<=S.en+S.ld.length->Paired (PpA H lb) D.en (CC.take S.en)->ua t H d a lb n CC S
def zbZ{a:Type}(l:List (Int×a))(h:Int)(b:a):List (Int×a):=l.map λe=>if e.1=h then (h,b) else e
def yT{a:Type}(l:List (Int×a))(h:Int):List (Int×a):=l.filter λe=>decide (e.1≠h)
def Vp(k m:Nat):List Int:=(dH (m-k)).map λi=>((k+i:Nat):Int)
structure hV(n:Int)(CC:List (List Int))(S:DS):Prop where
 cc:CC.length<=12
 cn:∀C∈CC,C.length<=4
 el:S.en<=CC.length
 pm:(S.ws++(S.hl.map (·.2.1)++S.ld.map (·.1))).Perm (Vp S.en CC.length)
 hn:(S.hl.map (·.1)).Nodup
 hr:∀e∈S.hl,0<=e.1/\e.1<n
 rn:∀e∈S.hl,∃C,CC[e.2.1.toNat]?=U C/\e.2.2<=C.length
 dn:S.db.Nodup
 ds:∀r∈S.db,r∈S.ld.map (·.1)
inductive Mv (CC:List (List Int)) (S:DS) (h:Int):DS->Prop
 |step {r:Int} {k:Nat} {C:List Int}:(h,r,k)∈S.hl->CC[r.toNat]?=U C->k<C.length->Mv CC S h { S with hl:=zbZ S.hl h (r,k+1) }
 |lay {r:Int} {C:List Int} {db:List Int}:(h,r,C.length)∈S.hl->CC[r.toNat]?=U C->db.Nodup->(∀y∈db,y∈S.db\/y=r)->Mv CC S h { S with hl:=yT S.hl h,ld:=S.ld++[(r,PUnit.unit)],db:=db }
 |settle:(S.en:Int)∈S.ld.map (·.1)->h ∉ S.hl.map (·.1)->Mv CC S h { S with ld:=yT S.ld S.en,db:=[],en:=S.en+1 }
 |take {w:Int} {ws:List Int}:(S.en:Int) ∉ S.ld.map (·.1)->h ∉ S.hl.map (·.1)->S.ws=w::ws->Mv CC S h { S with ws:=ws,hl:=S.hl++[(h,w,0)],db:=[] }
 |rest:(S.en:Int) ∉ S.ld.map (·.1)->h ∉ S.hl.map (·.1)->S.ws=[]->Mv CC S h { S with db:=[] }
def Y6:Sp:=λ_ _ _ _=>False
def ZW:Sp:=λ_ _ _ _=>False
def qB:Sp:=λ_ _ _ _=>False
def kh:Sp:=λ_ _ _ _=>False
def Y7:Sp:=λ_ _ _ _=>False
def KN:Sp:=λ_ _ _ _=>False
def Ja:Sp:=λ_ _ _ _=>False
inductive ki (t:aV) (vs:List V) (H:Hp) (Q:VK) (_E:XK):Prop
 |mk (x l dx):vs=[.ref x,.ref l]->H x=U (.ins t.q07 dx [])->H l=U (.lst [])->(∀H' gr wo rk,aO x H H'->H' x=U (.ins t.q07 dx (ziY gr wo rk))->H' wo=U (.dK [])->H wo=ah->Q .non H')->ki t vs H Q _E
def Wu(t:aV):Sp:=λe H Q _=>∃x m d,e=[.ref x,.ref m]/\H x=U (.ins t.q09 d [])/\∀a b f c,aO x H a->a x=U (.ins t.q09 d (zlQ m b f c))->a b=U (.dK [])->a c=U (.dK [])->H b=ah->H c=ah->b≠c->Q .non a
structure uh(t:aV)(H:Hp)(d:L)(a:ui)(lb:L->Nat)(n:Int)(D:DkV):Prop where
 o:OwL H lb (dkL t d a n D)
 w:WoA H lb D.wo
inductive yG (t:aV) (vs:List V) (H:Hp) (Q:VK) (_E:XK):Prop
 |mk (d) (a:ui) (lb:L->Nat) (n aR D):vs=[.ref a.mks,.int aR]->uh t H d a lb n D->(∀l H',ac H H'->H l=ah->H' l=U (.lst [])->Q (.ref l) H')->yG t vs H Q _E
inductive wv (t:aV) (vs:List V) (H:Hp) (Q:VK) (_E:XK):Prop
 |mk (d) (a:ui) (lb:L->Nat) (n aR D):vs=[.ref a.mks,.int aR]->uh t H d a lb n D->0<=aR->Q .non H->wv t vs H Q _E
inductive ww (t:aV) (vs:List V) (H:Hp) (Q:VK) (_E:XK):Prop
 |mk (d) (a:ui) (lb:L->Nat) (n aR) (D:DkV):vs=[.ref a.mks,.int aR]->uh t H d a lb n D->(∀H' wo',Fr M1 H H' lb lb->uh t H' d a lb n { D with wo:=wo' }->wo'.length<=D.wo.length->Q .non H')->ww t vs H Q _E
inductive qC (t:aV) (vs:List V) (H:Hp) (Q:VK) (_E:XK):Prop
 |mk (d gl) (a:ui) (lb:L->Nat) (n aR) (D:DkV):vs=[.ref a.mks,.int aR,.ref gl]->uh t H d a lb n D->0<=aR->H gl=U (.lst [])->M1 (lb gl)->D.wo.length<=20->(∀H' lb' wo',Fr M1 H H' lb lb'->uh t H' d a lb' n { D with wo:=wo' }->wo'.length<=D.wo.length+1->Q .non H')->qC t vs H Q _E
inductive vi (t:aV) (vs:List V) (H:Hp) (Q:VK) (_E:XK):Prop
 |mk (d nl gl v ns) (a:ui) (lb:L->Nat) (n aR) (D:DkV):vs=[.ref a.jb,.int aR,v]->uh t H d a lb n D->0<=aR->PpV H v ns nl gl->M1 (lb nl)->M1 (lb gl)->D.wo.length<=20->D.la.length<=20->D.db.length<=20->(∀H' lb' wo' db',Fr M1 H H' lb lb'->uh t H' d a lb' n { D with wo:=wo',la:=yQ D.la (.inl aR) v,db:=db' }->wo'.length<=D.wo.length+1->(D.db.Nodup->db'.Nodup)->(∀y,y∈db'↔y∈D.db\/y=aR)->Q .non H')->vi t vs H Q _E
inductive xJ (t:aV) (vs:List V) (H:Hp) (Q:VK) (_E:XK):Prop
 |mk (d nl gl v ns) (a:ui) (lb:L->Nat) (n aR) (D:DkV):vs=[.ref a.jb,.int aR]->uh t H d a lb n D->yq D.la (.inl aR)=U v->PpV H v ns nl gl->(∀H',ac H H'->Q .non H')->xJ t vs H Q _E
inductive xi (t:aV) (vs:List V) (H:Hp) (Q:VK) (_E:XK):Prop
 |mk (d) (a:ui) (lb:L->Nat) (n) (D:DkV):vs=[.ref a.jb]->uh t H d a lb n D->D.db.Nodup->D.db.length<=20->((∀r∈D.db,∃v ns,yq D.la (.inl r)=U v/\PpA H lb v ns))->(∀H',Fr M1 H H' lb lb->uh t H' d a lb n { D with db:=[] }->Q .non H')->xi t vs H Q _E
inductive xR (t:aV) (vs:List V) (H:Hp) (Q:VK) (_E:XK):Prop
 |mk (d v ns) (a:ui) (lb:L->Nat) (n aR) (D:DkV):vs=[.ref a.jb,.int aR]->uh t H d a lb n D->yq D.la (.inl aR)=U v->PpA H lb v ns->(∀H',Fr M1 H H' lb lb->uh t H' d a lb n { D with la:=yx D.la (.inl aR),db:=D.db.filter λy=>decide (y≠aR) }->Q v H')->xR t vs H Q _E
def S0:DS:=⟨[],[],[],[],0⟩
inductive qD (t:aV) (vs:List V) (H:Hp) (Q:VK) (_E:XK):Prop
 |mk (x l w dx dw n):vs=[.ref x,.ref l,.int n,.ref w,.int 0]->H x=U (.ins t.q00 dx [])->H l=U (.lst [])->H w=U (.ins t.q0d dw [])->w≠x->(∀H' a lb,aO x H H'->(∀b o,b≠x->b≠w->H b=U o->lb b=0)->ua t H' x a lb n [] S0->Q .non H')->qD t vs H Q _E
def xo(t:aV):Sp:=λc H Q _=>∃d,∃a:ui,∃n,∃b:List V,c=[.ref d]/\H d=U (.ins t.q00 a.dx (zbY a n))/\H a.en=U (.lst b)/\Q (.int (0+b.length)) H
def xC(t:aV):Sp:=λc H Q _=>∃d,∃a:ui,∃n,∃b:List V,c=[.ref d]/\H d=U (.ins t.q00 a.dx (zbY a n))/\H a.cl=U (.lst b)/\Q (.int (0+b.length)) H
def ZX(t:aV):Sp:=λj H Q _=>∃d c g h,∃a:ui,∃i:L->Nat,∃n,∃b:List (List Int),∃S:DS,j=[.ref d,.ref c]/\H c=U (.lst g)/\Paired (ul H) g h/\ua t H d a i n b S/\b.length<=12/\S.ws.length<=12/\S.en<=b.length/\∀f e,Fr M0 H f i e->ua t f d a e n (b++[h]) { S with ws:=S.ws++[(b.length:Int)] }->Q (.int b.length) f
inductive kj (vs:List V) (H:Hp) (Q:VK) (_E:XK):Prop
 |mk (x l w ws):vs=[.ref x,.ref l]->H l=U (.lst ((w::ws).map V.int))->Q (.int w) H->kj vs H Q _E
inductive vj (t:aV) (vs:List V) (H:Hp) (Q:VK) (_E:XK):Prop
 |mk (d) (a:ui) (lb:L->Nat) (n h w ws CC) (S:DS):vs=[.ref d,.int h]->ua t H d a lb n CC S->hV n CC S->h ∉ S.hl.map (·.1)->S.ws=w::ws->(∀v H' lb',Fr M0 H H' lb lb'->ua t H' d a lb' n CC { S with ws:=ws,hl:=S.hl++[(h,w,0)] }->Q v H')->vj t vs H Q _E
inductive wx (t:aV) (vs:List V) (H:Hp) (Q:VK) (_E:XK):Prop
 |mk (d) (a:ui) (lb:L->Nat) (n h CC) (S:DS):vs=[.ref d,.int h]->ua t H d a lb n CC S->hV n CC S->h ∉ S.hl.map (·.1)->(∀v H' lb' S',Fr M0 H H' lb lb'->Mv CC S h S'->ua t H' d a lb' n CC S'->Q v H')->wx t vs H Q _E
def ji(t:aV):Sp:=λi H Q E=>∃d,∃a:ui,∃f:L->Nat,∃n h e,∃S:DS,i=[.ref d,.int h]/\ua t H d a f n e S/\hV n e S/\((h<0\/n<=h)/\(∀b,ac H b->E (.ref t.q08) ah b)\/0<=h/\h<n/\∀v b c g,Fr M0 H b f c->Mv e S h g->ua t b d a c n e g->Q v b)
def jA(t:aV):Sp:=λh H Q _=>∃d,∃a:ui,∃g:L->Nat,∃n,∃c:List (List Int),∃S:DS,h=[.ref d]/\ua t H d a g n c S/\hV n c S/\1<=n/\n<=8/\∀v f b e,Fr M0 H f g b->ua t f d a b n c e->e.en=c.length->hV n c e->Q v f
def mkS:Str:=za8 (Wr 0 [])
def t9:Str:=mkS++vJ
def ZY:Sp:=λc H Q _=>∃l,c=[.ref l]/\H l=U (.lst [])/\∀b a,ac H a->a b=U (.lst [])->Q (.ref b) a
def qE:Sp:=λb H Q _=>∃l,b=[.ref l]/\H l=U (.lst [.str mkS])/\∀a,ac H a->Q (.str t9) a
def jZ:Sp:=λb H Q _=>b=[.str t9]/\∀l a,ac H a->H l=ah->a l=U (.lst [.str mkS])->Q (.ref l) a
def ZZ:Sp:=λb H Q _=>b=[.str mkS]/\∀p g a,ac H a->H g=ah->a g=U (.lst [])->a p=U (.tup [.str "mark",.int 0,.ref g])->Q (.ref p) a
def Y8:Sp:=λb H Q _=>b=[.str t9]/\∀l p g a,ac H a->a l=U (.lst [.ref p])->a g=U (.lst [])->a p=U (.tup [.str "mark",.int 0,.ref g])->Q (.ref l) a
def KO:Sp:=λd H Q _=>d=[.str t9]/\∀r c b a,ac H a->a r=U (.tup [.int 0,.ref c,.ref b])->a c=U (.lst [])->a b=U (.lst [])->H b=ah->Q (.ref r) a
def XD:Sp:=λb H Q _=>∃l,b=[.ref l]/\H l=U (.lst [])/\∀a,ac H a->Q (.str t9) a
structure HAd where
 dx:L
 td:L
 ln:L
 d:L
def zgH(a:HAd)(k:Nat):List (Str×V):=[(bb "due",.int k),(bb "told",.ref a.td),(bb "lines",.ref a.ln),(bb "desk",.ref a.d)]
structure HsF(K:bo)(t:aV):Prop where
 cl:uu K t.q03
 n1:aK K t.q03 "due"
 n2:aK K t.q03 "told"
 n3:aK K t.q03 "lines"
 n4:aK K t.q03 "desk"
structure HsA(t:aV)(H:Hp)(x:L)(b:HAd)(lb:L->Nat)(k:Nat)(ts ls:List V):Prop where
 ix:H x=U (.ins t.q03 b.dx (zgH b k))
 ht:H b.td=U (.lst ts)
 hl:H b.ln=U (.lst ls)
 ne:b.td≠b.ln
 l0:lb x=0/\lb b.td=0/\lb b.ln=0
structure uy(t:aV)(H:Hp)(x:L)(b:HAd)(a:ui)(lb:L->Nat)(n:Int)(CC:List (List Int))(S:DS):Prop where
 h:HsA t H x b lb 0 [] [.str mkS]
 d:ua t H b.d a lb n CC S
 o:hV n CC S
 e:S.en=0
def km(t:aV):Sp:=λf H Q _=>∃x w g h n,f=[.ref x,.str t9,.int n,.ref w]/\H x=U (.ins t.q03 g [])/\H w=U (.ins t.q0d h [])/\w≠x/\∀d b a e,(∀c o,c≠x->H c=U o->d c=U o)->(∀c o,c≠x->c≠w->H c=U o->e c=0/\c≠b.td/\c≠b.ln)->uy t d x b a e n [] S0->Q .non d
def kq(t:aV):Sp:=λd H Q E=>∃x b,∃a:ui,∃e:L->Nat,∃n h f,∃S:DS,d=[.ref x,.int h]/\uy t H x b a e n f S/\(h<0\/n<=h)/\∀c,ac H c->E (.ref t.q08) ah c
inductive vk (t:aV) (vs:List V) (H:Hp) (Q:VK) (_E:XK):Prop
 |mk (x b) (a:ui) (lb:L->Nat) (n CC) (S:DS):vs=[.ref x]->uy t H x b a lb n CC S->(∀H',ac H H'->Q (.int 0) H')->vk t vs H Q _E
def jj(t:aV):Sp:=λd H Q _=>∃x b,∃a:ui,∃e:L->Nat,∃n f,∃S:DS,d=[.ref x]/\uy t H x b a e n f S/\∀c,ac H c->Q (.str t9) c
def xS(t:aV):Sp:=λf H Q _=>∃x g c k l d b,f=[.ref x]/\H x=U (.ins t.q03 g [(bb "due",k),(bb "told",.ref c),(bb "lines",l),(bb "desk",d)])/\H c=U (.lst b)/\∀e a,ac H a->a e=U (.lst b)->Q (.ref e) a
def jk(a:List Int):Prop:=1<=a.length/\a.length<=4/\∀n∈a,0<=n/\n<1000000000000000000000000000000
def yO(n:Int):Str:=bb "say " ++ zY n
def xT(t:aV):Sp:=λh H Q E=>∃x,∃z:Str,∃b,∃a:ui,∃g:L->Nat,∃n,∃d:List (List Int),∃S:DS,h=[.ref x,.str z]/\uy t H x b a g n d S/\uf z/\z.length<=20000/\d.length<12 /\
 ((∃e,jk e/\z=cX vJ (e.map yO)/\∀f c,Fr M0 H f g c->uy t f x b a c n (d++[e]) { S with ws:=S.ws++[(d.length:Int)] }->Q (.int d.length) f)\/∃k,uq .nil [] 0 (yJ z)=.error k/\ndE t E H k)
def AnA(H:Hp)(v:V)(i:Nat)(a:List Int):Prop:=∃r o,v=.ref r/\H r=U (.tup [.int i,o])/\OcAt H o (.done a)
def uH(H:Hp)(a:List V)(c:List (List Int)):Prop:=a.length=c.length/\∀(i:Nat) v b,a[i]?=U v->c[i]?=U b->AnA H v i b
def yD(t:aV):Sp:=λh H Q _=>∃(x:L) (b:HAd) (a:ui) (f:L->Nat) (n:Int) (d:List (List Int)) (S:DS),h=[.ref x]/\HsA t H x b f 0 [] [.str mkS]/\ua t H b.d a f n d S/\hV n d S/\(∀C∈d,jk C)/\S.en=d.length/\∀v e k g i,(∀c o,c≠x->c≠b.td->c≠b.ln->H c=U o->e c=U o)->HsA t e x b f k g i->uH e g d->Q v e
def vV(t:aV):Sp:=λj H Q _=>∃x,∃b:HAd,∃a:ui,∃i:L->Nat,∃n f,∃S:DS,j=[.ref x]/\uy t H x b a i n f S/\(∀C∈f,jk C)/\1<=n/\n<=8/\∀v d e k h l,(∀c o,c≠x->c≠b.td->c≠b.ln->i c=0->H c=U o->d c=U o)->(∀c g,H c=U (.tup g)->d c=U (.tup g))->HsA t d x b e k h l->uH d h f->Q v d
def xp(K:bo):Sp:=λe H Q _=>∃a,∃b:List Int,∃k:Nat,e=[.ref a,.int k]/\aP K H a (b.map V.int)/\b.length<=63/\(∀i∈b,Cb i)/\∀c d,ac H d->Cb c->Q (.int c) d
def uC:List Str:=[bb "",bb "say 1 ",bb "say",bb "say 1 2",bb "tell 1",bb "end",bb "else",bb "let over 1",bb "take a 1 x",bb " say 1",bb "Say 1",bb "say\t1",bb "say  1"]
def Z4:Sp:=λb H Q _=>∃k:Nat,∃x,b=[.int k]/\uC[k]?=U x/\∀a,ac H a->Q (.str x) a
def qF:Sp:=λd H Q _=>∃c,d=[.int c]/\Cb c/\∀l b a,ac H a->H l=ah->jk b->a l=U (.lst ((b.map yO).map V.str))->Q (.ref l) a
def vW(t:aV):Sp:=λf H Q _=>∃(x l:L) (c:List Str) (k:Nat) (b:HAd) (a:ui) (g:L->Nat) (n:Int) (e:List (List Int)) (S:DS),f=[.ref x,.ref l]/\uy t H x b a g n e S/\H l=U (.lst (c.map V.str))/\c.length<=10/\(∀r∈c,uf r/\r.length<=100)/\e.length<12/\uq .nil [] 0 (yJ (cX vJ c))=.error k/\∀d,ac H d->Q (.int k) d
inductive xD (t:aV) (vs:List V) (H:Hp) (Q:VK) (_E:XK):Prop
 |mk (x l c) (ns:List Int) (b) (a:ui) (lb:L->Nat) (n) (CC:List (List Int)) (S:DS):vs=[.ref x,.int c,.ref l]->uy t H x b a lb n CC S->Cb c->jk ns->H l=U (.lst ((ns.map yO).map V.str))->CC.length<12->(∀H',ac H H'->Q (.bl ai) H')->xD t vs H Q _E
def wq(t:aV):Sp:=λd H Q _=>∃x h b,∃a:ui,∃e:L->Nat,∃n f,∃S:DS,d=[.ref x,.int h]/\uy t H x b a e n f S/\(h<0\/n<=h)/\∀c,ac H c->Q (.bl ai) c
inductive sp_law (K:bo) (vs:List V) (H:Hp) (Q:VK) (_E:XK):Prop
 |mk (a) (ns:List Int):vs=[.ref a]->aP K H a (ns.map V.int)->ns.length<=63->(∀i∈ns,Cb i)->(∀H',Q (.bl ai) H')->sp_law K vs H Q _E
section
variable(K:bo)(t:aV)
def Z5(K:bo)(t:aV):TS:=zo (zO (tOr (Zp (tB (tW (zbv K) (ze (Z 0) (ze (tC (.ty "int")) zj))))) (tB (tW (zbv K) (ze (Z 0) (ze (tC (.ty "bool")) zj))))) (zD (tC (.bl ag)))
   zH) (zD (zeg (ur λi j=>.bl (decide (i<=j))) (ur λi j=>.bl (decide (i<=j))) (tUn (rU λi=>.int (-i)) (aN (rI zef λi j=>.int (i^j.toNat)) (tC (.int 10)) (tC (.int 30)))) (Z 0) (aN (rI zef λi j=>.int (i^j.toNat)) (tC (.int 10)) (tC (.int 30)))))
def kr(K:bo)(t:aV):TS:=zD (zat (aN uF (Z 0) (tC (.str ""))) (tW (zhq K) (ze (wd (zhs (Z 0)) (zq 0) Zi (aN zjA (Z 0) (tC (.str "0123456789"))) 1 []) zj)))
def XE(K:bo)(t:aV):TS:=zD (tW zgd (ze (Z 0) zj))
def kt(K:bo)(t:aV):TS:=zo (zM (tIf (tB (ud K "str" vQ (Z 0) (ze (tC (.str "-")) zj))) (tSl zhu (Z 0) (wF (tC (.int 1))) yI) (Z 0)) (zq 1)) (zo (zO (tOr (zy (aN (ur λi j=>.bl (decide (j<i))) (tW (xF K) (ze (Z 1) zj)) (tC (.int 31)))) (Zp (tB (zG kc [] E0 (ze (Z 1) zj))))) (zD (tC (.bl ag)))
    zH) (zo (zM (tW zep (ze (Z 0) zj)) (zq 2)) (zD (zat (zG (ZN K) [] E0 (ze (Z 2) zj)) (aN uk (zG xH [] E0 (ze (Z 2) zj)) (Z 0))))))
def Z6(K:bo)(t:aV)(E:XK):TS:=zo (zO (Zp (tB (zG we [] E (ze (Z 0) zj)))) (qk t.q0a (ze (zcX (Z 0)) zj) E)
   zH) (zD (tW zep (ze (Z 0) zj)))
def qG(K:bo)(t:aV):TS:=zD (zG (vH t) [] E0 (ze (Z 0) zj))
def KP(K:bo)(t:aV):TS:=zo (zO (zy (aN uF (aN aF (tW (xF K) (ze (Z 0) zj)) (tC (.int 3))) (tC (.int 0))))
   xt
   zH) (zo (zM (yr zj) (zq 1)) (zo (kC (zkY (ze (tC (.int 0)) (ze (tW (xF K) (ze (Z 0) zj)) (ze (tC (.int 3)) zj)))) (zq 2) (zo (zM (xb (ze (zG Ja [] E0 (ze (aN (x6 K) (Z 0) (Z 2)) zj)) (ze (zG wO [] E0 (ze (aN (x6 K) (Z 0) (aN aE (Z 2) (tC (.int 1)))) zj)) zj))) (zq 3)) (zT (ud K "list" zP (Z 1) (ze (xb (ze (Z 3) (ze (zG wO [] E0 (ze (aN (x6 K) (Z 0) (aN aE (Z 2) (tC (.int 2)))) zj)) zj))) zj))))) (zo (zM (wd (xz K (Z 1)) (JQ K 2 (wI (zq 0) (wI (zq 1) JP))) Zi (Z 0) 2 []) (zq 4)) (zo (zO (zy (aN (zhY K ai) (Z 4) (ziS K (ze (Z 4) zj))))
    xt
    zH) (zD (Z 1))))))
def XG(K:bo)(t:aV):TS:=zo (zM (zG wO [] E0 (ze (Z 0) zj)) (zq 1)) (zo (zO (tOr (zy (aN aG (Z 1) (tC (.int 0)))) (zy (aN (ur λi j=>.bl (decide (j<i))) (Z 1) (aN (rI zef λi j=>.int (i^j.toNat)) (tC (.int 10)) (tC (.int 29))))))
    xt
    zH) (zD (Z 1)))
def KQ(K:bo)(t:aV):TS:=zo (zO (zy (aN uF (tW (xF K) (ze (Z 0) zj)) (tC (.int 2))))
   xt
   zH) (zo (zO (tB (tW (zmC K) (ze (wd (xz K (Z 1)) (JQ K 2 (wI (zq 0) (wI (zq 1) JP))) Zi (aN uk (Z 1) (tC (.int 0))) 2 []) zj)))
    xt
    zH) (zD (xb (ze (tC (.str "mark")) (ze (zG KM [] E0 (ze (aN (x6 K) (Z 0) (tC (.int 1))) zj)) (ze (Z 1) zj))))))
def Z7(K:bo)(t:aV):TS:=zo (zM (tW (zii K) (ze (wd (ziH (ze (Z 0) zj)) (JQ K 2 (wI (zq 0) (wI (zq 1) JP))) Zi (aN (rI CMulB λi j=>.int (i*j)) (tW zmE (ze (Z 1) zj)) (aN aE (tC (.int 1)) (aN aF (Z 0) (tC (.int 1008))))) 2 []) zj)) (zq 1)) (zD (ud K "str" Xt (tW zgd (ze (aN aF (Z 1) (tC (.int 1009))) zj)) (ze (tC (.int 4)) zj)))
def XH(K:bo)(t:aV):TS:=zo (zM (ud K "str" vT (Z 0) (ze (tC (.str " ")) zj)) (zq 1)) (zo (zO (zy (aN uF (aN (ya K) (Z 1) (tC (.int 2))) (zG vK [] E0 (ze (aN (ya K) (Z 1) (tC (.int 0))) zj))))
    xt
    zH) (zD (aN (ya K) (Z 1) (tC (.int 0)))))
def Z8(K:bo)(t:aV):TS:=zo (zO (zy (aN uk (aN (x6 K) (Z 1) (tC (.int 0))) (tC (.str "deal")))) (zD (zG KN [] E0 (ze (tSl (Xh K) (Z 1) yI (wF (Z 2))) (ze (Z 3) zj))))
   zH) (zo (zO (zy (aN uk (aN (x6 K) (Z 1) (tC (.int 0))) (tC (.str "mark")))) (zD (zG XA [] E0 (ze (tSl (Xh K) (Z 1) yI (wF (Z 2))) (ze (Z 3) zj))))
    zH)
  xt)
def Z9:TS:=zo (zM (zG Xz [] E0 (ze (tSl (Xh K) (Z 1) (wF (aN aE (Z 2) (tC (.int 1)))) yI) zj)) (zq 3)) (Z8 K t)
def Ya:TS:=zo (zO (zy (aN (rIn K ai) (tC (.str ";")) (Z 1)))
   xt
   zH) (zo (zM (ud K "list" Xu (Z 1) (ze (tC (.str ";")) zj)) (zq 2)) (Z9 K t))
def qH:TS:=zo (zM (ud K "str" wu (zG XB [] E0 (ze (Z 0) zj)) (ze (tC (.str " ")) zj)) (zq 1)) (Ya K t)
def Yb(K:bo)(t:aV):TS:=zD (zG qz [] E0 (ze (Z 0) zj))
def Yc(K:bo)(t:aV):TS:=zD (tSl (Xh K) (ud K "str" wu (Z 0) (ze (tC (.str "\n")) zj)) yI (wF (tUn (rU λi=>.int (-i)) (tC (.int 1)))))
def ku(K:bo)(t:aV):TS:=zo (zM (wd (xz K (zG jZ [] E0 (ze (Z 0) zj))) (zq 0) Zi (zG ZZ [] E0 (ze (Z 0) zj)) 1 []) (zq 1)) (zo (zO (tOr (zy (aN (qo K) (Z 1) (yr zj))) (zy (aN uF (aN (ya K) (aN (x6 K) (Z 1) (tC (.int 0))) (tC (.int 0))) (tC (.str "mark")))))
    xt
    zH) (zD (Z 1)))
def Jb(K:bo)(t:aV):TS:=zo (zM (tW zfw (ze (Z 0) zj)) (zq 1)) (zD (wd (xz K (tW ziQ (ze (Z 1) zj))) (zq 0) (zy (aN uF (JY (Z 1) (Z 0)) (tC (.int 0)))) (xb (ze (Z 0) (ze (JY (Z 1) (Z 0)) zj))) 1 [1]))
def KR(K:bo)(t:aV):TS:=zo (zM (zG Y8 [] E0 (ze (Z 0) zj)) (zq 1)) (zo (zM (aN (ya K) (aN (x6 K) (Z 1) (tC (.int 0))) (tC (.int 1))) (zq 2)) (zo (zM (tW (zbB K) (ze (aN (ya K) (aN (x6 K) (Z 1) (tC (.int 0))) (tC (.int 2))) zj)) (zq 3)) (zo (zM (yr zj) (zq 4)) (zo (kC (xz K (tSl (Xh K) (Z 1) (wF (tC (.int 1))) yI)) (zq 5) (zo (zO (zy (aN uF (aN (ya K) (Z 5) (tC (.int 1))) (Z 2)))
    xt
    zH) (zO (zy (aN uk (aN (ya K) (Z 5) (tC (.int 0))) (tC (.str "deal")))) (zo (zT (ud K "list" jS (Z 3) (ze (aN (ya K) (Z 5) (tC (.int 3))) zj))) (zo (zT (ud K "list" zP (Z 4) (ze (xb (ze (Z 2) (ze (aN (ya K) (Z 5) (tC (.int 2))) zj))) zj))) (zjp 2 (tC (.int 1)) (ipI λi j=>i+j)))) (zO (zy (aN uF (aN (x6 K) (Z 5) (tC (.int 2))) (zG ZY [] E0 (ze (Z 3) zj))))
   xt
   zH)))) (zD (xb (ze (Z 2) (ze (zG ZY [] E0 (ze (Z 3) zj)) (ze (Z 4) zj)))))))))
def kx(K:bo)(t:aV):TS:=zo (yU K (Z 0) (tW zfw (ze (Z 1) zj)) "ground") (zo (yU K (Z 0) (tC (.int 0)) "folded") (zo (yU K (Z 0) W6 "worths") (yU K (Z 0) Xj "ranks")))
def qI(K:bo)(t:aV):TS:=zo (yU K (Z 0) (Z 1) "makes") (zo (yU K (Z 0) W6 "laid") (zo (yU K (Z 0) Xj "readers") (yU K (Z 0) W6 "doubted")))
def qJ:TS:=zo (yU K (Z 0) (Z 2) "hands") (zo (yU K (Z 0) (Z 3) "way") (zo (yU K (Z 0) (Z 4) "first") (zo (yU K (Z 0) (yr zj) "codes") (zo (yU K (Z 0) (yr zj) "waiting") (zo (yU K (Z 0) W6 "held") (zo (yU K (Z 0) (Y1 t.q07 (ki t) [] E0 (ze (Z 1) zj)) "makes") (zo (yU K (Z 0) (Y1 t.q09 (Wu t) [] E0 (ze (zE K (Z 0) "makes") zj)) "jobs") (yU K (Z 0) (yr zj) "ended"))))))))
def Y9:TS:=zo (zM (zG KO [] E0 (ze (Z 1) zj)) (zq 4)) (zo (yU K (Z 0) (aN (ya K) (Z 4) (tC (.int 0))) "due") (zo (yU K (Z 0) (aN (ya K) (Z 4) (tC (.int 2))) "told") (zo (yU K (Z 0) (zG jZ [] E0 (ze (Z 1) zj)) "lines") (yU K (Z 0) (Y1 t.q00 (qD t) [] E0 (ze (aN (ya K) (Z 4) (tC (.int 1))) (ze (Z 2) (ze (Z 3) (ze (zE K (Z 0) "due") zj))))) "desk"))))
def XI(K:bo)(t:aV):TS:=zD (ud K "str" (wG K) (tC (.str "")) (ze (wd (xz K (Z 0)) (zq 0) Zi (aN J9 (Z 0) (tC (.str "\n"))) 1 []) zj))
def qK(K:bo)(t:aV):TS:=zD (zG qE [] E0 (ze (zE K (Z 0) "lines") zj))
def Zd(K:bo)(t:aV):TS:=zD (aN aE (zE K (Z 0) "first") (tW (xF K) (ze (zE K (Z 0) "ended") zj)))
def j0(K:bo)(t:aV):TS:=zD (aN aE (zE K (Z 0) "first") (tW (xF K) (ze (zE K (Z 0) "codes") zj)))
def Yd(K:bo)(t:aV):TS:=zD (zlf (aN zcS (zE K (Z 0) "why") (tC .non)) (aN (ur λi j=>.bl (decide (j<=i))) (zE K (Z 0) "at") (tW (xF K) (ze (zE K (Z 0) "code") zj))))
def QT(K:bo)(t:aV):TS:=zo (zO (tOr (zy (aN (zgk ag) (Z 1) (zE K (Z 0) "gifts"))) (zy (aN (zgk ag) (Z 1) (zE K (Z 0) "notes")))) (zD (tC .non))
   zH) (zD (Z 1))
def QU:TS:=zo (zkZ K (zkU (zbG t.q01 "place_in" wn (Z 0) (ze (aN (x6 K) (zE K (Z 0) "code") (zE K (Z 0) "at")) zj)) 1) t.q0e t.q0f (zD (tC .non))) (QT K t)
def Jc:TS:=zo (zO (tOr (tB (zF t.q01 "over" (wH t) [] E0 (Z 0) zj)) (zy (aN uF (aN (ya K) (aN (x6 K) (zE K (Z 0) "code") (zE K (Z 0) "at")) (tC (.int 0))) (tC (.str "take"))))) (zD (tC .non))
   zH) (QU K t)
def QV(K:bo)(t:aV):TS:=zo (zM (QE K "list" wM (Z 2)) (zq 4)) (zo (zM (QE K "list" wM (Z 2)) (zq 5)) (zT (ud K "list" zP (Z 2) (ze (zG za9 [] E0 (ze (Z 3) (ze (Z 5) (ze (Z 4) zj)))) zj))))
def QW(K:bo)(t:aV):TS:=zT (ud K "list" zP (Z 2) (ze (tIf (tB (tW (zbv K) (ze (Z 3) (ze (tC (.ty "str")) zj)))) (JZ (Z 1) (Z 3) (tC (.int 0))) (Z 3)) zj))
def Xa:TS:=zO (zy (aN (rIn K ag) (Z 3) (tC (.ref t.q0h)))) (QV K t) (QW K t)
def Jd:TS:=zo (zM (yr zj) (zq 2)) (zo (kC (zlg K (Z 0)) (zq 3) (Xa K t)) (zD (QE K "list" wM (Z 2))))
def vX(K:bo)(t:aV):TS:=zD (zG ZR [] E0 (ze (Z 1) (ze (zE K (Z 0) "slots") zj)))
def QY:TS:=VQ (zE K (Z 0) "slots") (aN (ya K) (Z 1) (tC (.int 1))) (zF t.q01 "worth_of" (yA t) [] E0 (Z 0) (ze (aN (ya K) (Z 1) (tC (.int 2))) zj))
def Xb:TS:=zT (ud K "list" zP (zE K (Z 0) "sayings") (ze (zF t.q01 "worth_of" (yA t) [] E0 (Z 0) (ze (aN (ya K) (Z 1) (tC (.int 1))) zj)) zj))
def QZ:TS:=zo (zM (zF t.q01 "place_in" wn [] E0 (Z 0) (ze (Z 1) zj)) (zq 3)) (VQ (zE K (Z 0) "gifts") (Z 3) (zF t.q01 "worth_of" (yA t) [] E0 (Z 0) (ze (aN (ya K) (Z 1) (tC (.int 3))) zj)))
def Q0:TS:=VQ (zE K (Z 0) "slots") (aN (ya K) (Z 1) (tC (.int 3))) (zF t.q01 "taken" Wt [] E0 (Z 0) (ze (zF t.q01 "place_in" wn [] E0 (Z 0) (ze (Z 1) zj)) (ze (Z 2) zj)))
def Je:TS:=zO (zy (aN uk (aN (ya K) (Z 1) (tC (.int 0))) (tC (.str "take")))) (Q0 K t) (zO (zy (aN uk (aN (ya K) (Z 1) (tC (.int 0))) (tC (.str "give")))) (QZ K t) (zO (zy (aN uk (aN (ya K) (Z 1) (tC (.int 0))) (tC (.str "let")))) (QY K t) (Xb K t)))
def Jw:TS:=zO (zy (aN uF (zF t.q01 "worth_of" (yA t) [] E0 (Z 0) (ze (aN (ya K) (Z 1) (tC (.int 1))) zj)) (tC (.int 0)))) (yU K (Z 0) (tC (.str "told")) "why")
   zH
def Jx(K:bo)(t:aV):TS:=zT (zF t.q01 "does" (ZU t) [] E0 (Z 0) (ze (Z 1) (ze (Z 2) zj)))
def Jy:TS:=zD (tIf (zy (aN uk (zF t.q01 "worth_of" (yA t) [] E0 (Z 0) (ze (aN (ya K) (Z 1) (tC (.int 1))) zj)) (tC (.int 0)))) (aN (ya K) (Z 1) (tC (.int 2))) (aN aE (zE K (Z 0) "at") (tC (.int 1))))
def Xc:TS:=zo (zO (zy (aN uk (aN (ya K) (Z 1) (tC (.int 0))) (tC (.str "go")))) (zD (aN (ya K) (Z 1) (tC (.int 1))))
   zH) (zo (zO (zy (aN uk (aN (ya K) (Z 1) (tC (.int 0))) (tC (.str "skip")))) (Jy K t)
    zH) (zo (zO (zy (aN uk (aN (ya K) (Z 1) (tC (.int 0))) (tC (.str "off")))) (Jw K t) (Jx K t)) (zD (aN aE (zE K (Z 0) "at") (tC (.int 1))))))
def Jf:TS:=zo (zO (tB (zF t.q01 "over" (wH t) [] E0 (Z 0) zj))
   zkP
   zH) (yU K (Z 0) (zF t.q01 "led_by" (kg t) [] E0 (Z 0) (ze (aN (x6 K) (zE K (Z 0) "code") (zE K (Z 0) "at")) (ze (Z 1) zj))) "at")
def xK:TS:=zo (kC (xz K (aN (ya K) (JY (zE K (Z 0) "laid") (Z 1)) (tC (.int 1)))) (JQ K 2 (wI (zq 2) (wI (zq 3) JP))) (zo (zM (zF t.q07 "seen" kh [] E0 (zE K (Z 0) "makes") (ze (Z 2) (ze (Z 1) zj))) (zq 4)) (zO (zy (aN uF (Z 4) (Z 3))) (zD (xb (ze (Z 2) (ze (Z 3) (ze (Z 4) zj)))))
   zH))) (zD (tC .non))
def wg:TS:=zo (zM (zF t.q09 "changed_note" (xJ t) [] E0 (Z 0) (ze (Z 2) zj)) (zq 3)) (zo (zO (zy (aN zcS (Z 3) (tC .non))) (zD (aN (zcK K) (xb (ze (Z 2) zj)) (Z 3)))
    zH) (zT (zbs (zE K (Z 0) "doubted") (Z 2))))
def wP:TS:=zo (zM (tW zk2 (ze (zE K (Z 0) "doubted") zj)) (zq 1)) (zo (kC (xz K (Z 1)) (zq 2) (wg K t)) (zD (tC .non)))
def kN(K:bo)(t:aV):TS:=zo (zM (zbs (zE K (Z 0) "laid") (Z 1)) (zq 2)) (zo (zT (zen (zE K (Z 0) "doubted") (Z 1) (tC .non))) (zo (kC (xz K (aN (ya K) (Z 2) (tC (.int 1)))) (JQ K 2 (wI (zq 3) (wI (zq 4) JP))) (zT (zG qB [] E0 (ze (zE K (Z 0) "readers") (ze (Z 3) (ze (Z 1) zj)))))) (zD (Z 2))))
def ky(K:bo)(t:aV):TS:=zD (aN (x6 K) (Z 1) (tC (.int 0)))
def Ye(K:bo)(t:aV):TS:=zo (yU K (Z 0) (tW (zbB K) (ze (Z 1) zj)) "code") (zo (yU K (Z 0) (tC (.int 0)) "at") (zo (yU K (Z 0) (tC .non) "why") (zo (yU K (Z 0) W6 "slots") (zo (yU K (Z 0) Xj "gifts") (zo (yU K (Z 0) Xj "notes") (yU K (Z 0) (yr zj) "sayings"))))))
def jB:TS:=zo (zT (ud K "list" VV (zE K (Z 0) "waiting") (ze (Z 2) zj))) (zo (VQ (zE K (Z 0) "held") (Z 1) (xb (ze (Z 2) (ze (Y1 t.q01 (ZS t) [] E0 (ze (aN (x6 K) (zE K (Z 0) "codes") (aN aI (Z 2) (zE K (Z 0) "first"))) zj)) zj)))) (zD (xb (ze (tC (.str "take")) (ze (Z 1) (ze (Z 2) zj))))))
def kO:TS:=zo (zM (zF t.q0d "chosen" kj [] E0 (zE K (Z 0) "way") (ze (tW (zbB K) (ze (zE K (Z 0) "waiting") zj)) zj)) (zq 2)) (jB K t)
def Yf:TS:=zo (zT (zF t.q09 "take_off" (xR t) [] E0 (zE K (Z 0) "jobs") (ze (aN (ya K) (Z 3) (tC (.int 0))) zj))) (zo (zT (ud K "list" VU (zE K (Z 0) "waiting") (ze (zG Y6 [] E0 (ze (zE K (Z 0) "waiting") (ze (aN (ya K) (Z 3) (tC (.int 0))) zj))) (ze (aN (ya K) (Z 3) (tC (.int 0))) zj)))) (zD (aN (zcK K) (xb (ze (tC (.str "again")) (ze (Z 1) zj))) (Z 3))))
def vL:TS:=zo (zT (ud K "list" zP (zE K (Z 0) "ended") (ze (zF t.q09 "take_off" (xR t) [] E0 (zE K (Z 0) "jobs") (ze (Z 2) zj)) zj))) (zD (xb (ze (tC (.str "settle")) (ze (Z 1) (ze (Z 2) zj)))))
def vM:TS:=zo (zO (zy (aN (Xq K) (zE K (Z 0) "waiting") (yr zj))) (zD (zF t.q00 "taken_up" (vj t) [] E0 (Z 0) (ze (Z 1) zj)))
   zH) (zD (xb (ze (tC (.str "rest")) (ze (Z 1) zj))))
def Yg:TS:=zo (zO (zy (aN zcS (Z 3) (tC .non))) (Yf K t)
   zH) (vM K t)
def jC:TS:=zo (zM (zF t.q00 "settled" (xo t) [] E0 (Z 0) zj) (zq 2)) (zo (zM (zF t.q09 "lowest_changed" (xi t) [] E0 (zE K (Z 0) "jobs") zj) (zq 3)) (zo (zO (zeb (zy (aN (zgk ag) (Z 2) (zE K (zE K (Z 0) "jobs") "laid"))) (tOr (zy (aN zmp (Z 3) (tC .non))) (zy (aN uF (aN (ya K) (Z 3) (tC (.int 0))) (Z 2))))) (vL K t)
    zH) (Yg K t)))
def wz(K:bo)(t:aV):TS:=zD (tW zik (ze (JZ (zE K (Z 0) "worths") (Z 1) Xj) zj))
def wA(K:bo)(t:aV):TS:=zO (zy (aN aG (Z 1) (zE K (Z 0) "folded")))
   xt
   zH
def vN(K:bo)(t:aV):TS:=kC (xz K (Z 2)) (zq 3) (zT (zG qB [] E0 (ze (zE K (Z 0) "ranks") (ze (Z 3) (ze (Z 1) zj)))))
def jD:TS:=zo (zM (zF t.q07 "places_of" (yG t) [] E0 (Z 0) (ze (Z 1) zj)) (zq 2)) (zo (zT (zen (zE K (Z 0) "worths") (Z 1) (tC .non))) (vN K t))
def KS(K:bo)(t:aV):TS:=VQ (zE K (Z 0) "worths") (Z 1) (Z 3)
def Yh:TS:=zo (zmw (kC (iDT (Z 3)) (zq 4) (zT (zG ZW [] E0 (ze (zE K (Z 0) "ranks") (ze (Z 4) (ze (Z 1) zj))))))) (KS K t)
def Wv:TS:=zo (zT (zF t.q07 "heed_fold" (wv t) [] E0 (Z 0) (ze (Z 1) zj))) (zo (zT (zF t.q07 "take_away" (ww t) [] E0 (Z 0) (ze (Z 1) zj))) (zo (zM (tW zfw (ze (Z 2) zj)) (zq 3)) (Yh K t)))
def jE(K:bo)(t:aV):TS:=zo (VQ (zE K (Z 0) "doubted") (Z 1) (tC (.bl ai))) (kC (xz K (aN (ya K) (Z 2) (tC (.int 1)))) (JQ K 2 (wI (zq 4) (wI (zq 5) JP))) (zT (zG ZW [] E0 (ze (zE K (Z 0) "readers") (ze (Z 4) (ze (Z 1) zj))))))
def XJ:TS:=zo (VQ (zE K (Z 0) "laid") (Z 1) (Z 2)) (jE K t)
def jF:TS:=zo (kC (xz K (aN Zu (Z 3) (zF t.q07 "places_of" (yG t) [] E0 (zE K (Z 0) "makes") (ze (Z 1) zj)))) (zq 4) (zT (zF t.q09 "doubt" Y7 [] E0 (Z 0) (ze (Z 4) (ze (Z 1) zj))))) (XJ K t)
def kP:TS:=zo (zM (zF t.q07 "places_of" (yG t) [] E0 (zE K (Z 0) "makes") (ze (Z 1) zj)) (zq 3)) (zo (zT (zF t.q07 "lay" (qC t) [] E0 (zE K (Z 0) "makes") (ze (Z 1) (ze (aN (ya K) (Z 2) (tC (.int 2))) zj)))) (jF K t))
def Yi(K:bo)(t:aV):TS:=zo (zO (zy (aN zcS (zE K (Z 0) "why") (tC .non))) (zD (xb (ze (xb (ze (tC (.str "off")) (ze (zE K (Z 0) "why") zj))) (ze (Z 1) (ze (yr zj) zj)))))
   zH) (zD (xb (ze (xb (ze (tC (.str "done")) (ze (tW (zlx K) (ze (zE K (Z 0) "sayings") zj)) zj))) (ze (Z 1) (ze (tW ziR (ze (zex (zE K (Z 0) "gifts")) zj)) zj)))))
def KU:TS:=zo (zM (tW zkX (ze (zex (zE K (Z 0) "notes")) zj)) (zq 1)) (Yi K t)
def Ww:TS:=zo (zO (Zp (tB (zF t.q01 "over" (wH t) [] E0 (Z 0) zj))) (zD (tC .non))
   zH) (KU K t)
def Yj(E:XK):TS:=zo (zT (zbs (zE K (Z 0) "held") (Z 1))) (zo (zT (zF t.q09 "lay_down" (vi t) [] E (zE K (Z 0) "jobs") (ze (Z 2) (ze (zF t.q01 "paper" (qA t) [] E (Z 3) zj) zj)))) (zD (xb (ze (tC (.str "lay")) (ze (Z 1) (ze (Z 2) zj))))))
def Yk(E:XK):TS:=zo (zM (zF t.q01 "asks" (ZT t) [] E (Z 3) zj) (zq 4)) (zo (zO (zy (aN zmp (Z 4) (tC .non))) (zo (zT (zF t.q01 "step" (ZV t) [.int 0] E (Z 3) zj)) (zD (xb (ze (tC (.str "step")) (ze (Z 1) (ze (Z 2) zj))))))
   zH) (zo (zM (zF t.q07 "seen" kh [] E (zE K (Z 0) "makes") (ze (Z 4) (ze (Z 2) zj))) (zq 5)) (zo (zT (zF t.q01 "step" (ZV t) [] E (Z 3) (ze (Z 5) zj))) (zD (xb (ze (tC (.str "read")) (ze (Z 1) (ze (Z 2) (ze (Z 4) (ze (Z 5) zj))))))))))
def Yl(E:XK):TS:=zo (zM (aN (ya K) (JY (zE K (Z 0) "held") (Z 1)) (tC (.int 0))) (zq 2)) (zo (zM (aN (ya K) (JY (zE K (Z 0) "held") (Z 1)) (tC (.int 1))) (zq 3)) (zo (zO (tB (zF t.q01 "over" (wH t) [] E (Z 3) zj)) (Yj K t E)
    zH) (Yk K t E)))
def Wx(E:XK):TS:=zo (zO (tOr (zy (aN aG (Z 1) (tC (.int 0)))) (zy (aN (ur λi j=>.bl (decide (j<=i))) (Z 1) (zE K (Z 0) "hands")))) (qk t.q08 (ze (tC (.str "no hand of this desk")) zj) E)
   zH) (zo (zO (zy (aN (zgk ai) (Z 1) (zE K (Z 0) "held"))) (zD (zF t.q00 "moved_free" (wx t) [] E (Z 0) (ze (Z 1) zj)))
    zH) (Yl K t E))
def Ym:TS:=zo (zM (yr zj) (zq 1)) (zo (zbm (zy (aN aG (zF t.q00 "settled" (xo t) [] E0 (Z 0) zj) (zF t.q00 "next_rank" (xC t) [] E0 (Z 0) zj))) (zT (ud K "list" zP (Z 1) (ze (zF t.q00 "move" (ji t) [] E0 (Z 0) (ze (aN aF (tW (xF K) (ze (Z 1) zj)) (zE K (Z 0) "hands")) zj)) zj)))) (zD (Z 1)))
def XL(K:bo)(t:aV):TS:=zo (zM (ud K "str" (wG K) (tC (.str " ")) (ze (Z 0) zj)) (zq 1)) (zD (aN J9 (aN J9 (Z 1) (tC (.str " "))) (zG vK [] E0 (ze (Z 1) zj))))
def KW(K:bo)(t:aV):TS:=zT (ud K "list" jS (Z 1) (ze (yr (ze (aN (ya K) (Z 2) (tC (.int 0))) (ze (zG xH [] E0 (ze (aN (ya K) (Z 2) (tC (.int 1))) zj)) (ze (zG xH [] E0 (ze (Z 3) zj)) zj)))) zj))
def Wy:TS:=zo (zM (yr zj) (zq 1)) (zo (kC (xz K (Z 0)) (JQ K 2 (wI (zq 2) (wI (zq 3) JP))) (KW K t)) (zD (Z 1)))
def kQ(K:bo)(t:aV):TS:=zo (zO (zy (aN uk (aN (ya K) (Z 0) (tC (.int 0))) (tC (.str "off")))) (zD (yr (ze (tC (.str "off")) (ze (aN (ya K) (Z 0) (tC (.int 1))) zj))))
   zH) (zD (aN Zu (yr (ze (tC (.str "done")) zj)) (wd (zlg K (aN (ya K) (Z 0) (tC (.int 1)))) (zq 0) Zi (zG xH [] E0 (ze (Z 0) zj)) 1 [])))
def Wz(K:bo)(t:aV):TS:=zD (zG qw [] E0 (ze (aN Zu (aN Zu (aN Zu (yr (ze (tC (.str "deal")) (ze (zG xH [] E0 (ze (Z 0) zj)) zj))) (zG vg [] E0 (ze (aN (ya K) (Z 1) (tC (.int 0))) zj))) (yr (ze (tC (.str ";")) zj))) (zG qx [] E0 (ze (aN (ya K) (Z 1) (tC (.int 2))) zj))) zj))
def wj(K:bo)(t:aV):TS:=zo (zT (ud K "list" zP (zE K (Z 0) "lines") (ze (zG qy [] E0 (ze (zE K (Z 0) "due") (ze (Z 1) zj))) zj))) (zo (zT (ud K "list" zP (zE K (Z 0) "told") (ze (xb (ze (zE K (Z 0) "due") (ze (aN (ya K) (Z 1) (tC (.int 0))) zj))) zj))) (X1 K (Z 0) (tC (.int 1)) zhc "due"))
def wQ:TS:=kC (xz K (tSl (Xh K) (zE K (zE K (Z 0) "desk") "ended") (wF (aN aI (zE K (Z 0) "due") (zE K (zE K (Z 0) "desk") "first"))) yI)) (zq 1) (wj K t)
def vY:TS:=zo (zM (zF t.q00 "finish" (jA t) [] E0 (zE K (Z 0) "desk") zj) (zq 1)) (zo (zT (zF t.q03 "write_settled" (yD t) [] E0 (Z 0) zj)) (zD (Z 1)))
def WA(K:bo)(t:aV):TS:=zD (zG qw [] E0 (ze (aN Zu (yr (ze (tC (.str "mark")) (ze (zG xH [] E0 (ze (Z 0) zj)) (ze (tC (.str ";")) zj)))) (zG qx [] E0 (ze (Z 1) zj))) zj))
def KY(K:bo)(t:aV):TS:=zD (zG qE [] E0 (ze (yr (ze (zG Ws [] E0 (ze (tC (.int 0)) (ze (Z 0) zj))) zj)) zj))
def qL(K:bo)(t:aV):TS:=zD (wd (zg4 (ze (aN aE (tC (.int 1)) (aN aF (Z 0) (tC (.int 4)))) zj)) (zq 0) Zi (aN J9 (tC (.str "say ")) (tW zgd (ze (aN aF (aN aE (aN aH (Z 1) (tC (.int 4))) (aN (rI CMulB λi j=>.int (i*j)) (tC (.int 7)) (Z 0))) (aN (rI zef λi j=>.int (i^j.toNat)) (tC (.int 10)) (tC (.int 30)))) zj))) 1 [0])
def vm(K:bo)(t:aV):TS:=zD (tW (zbB K) (ze (zE K (Z 0) "told") zj))
def vZ(K:bo)(t:aV):TS:=zo (zO (zy (aN aG (Z 1) (tW (xF K) (ze (Z 0) zj)))) (zD (aN (x6 K) (Z 0) (Z 1)))
   zH) (zD (tC (.int 0)))
def kz(E:XK):TS:=zo (zM (zF t.q00 "move" (ji t) [] E (zE K (Z 0) "desk") (ze (Z 1) zj)) (zq 2)) (zo (zT (zF t.q03 "write_settled" (yD t) [] E (Z 0) zj)) (zD (Z 2)))
def v3:TS:=zo (zM (tC (.bl ag)) (zq 2)) (zo (zh3 K (zer (zbG t.q03 "move" (kq t) (Z 0) (ze (Z 1) zj))) t.q08 (zM (tC (.bl ai)) (zq 2))) (zD (Z 2)))
def Yn:TS:=zo (zM (zF t.q00 "next_rank" (xC t) [] E0 (Z 0) zj) (zq 2)) (zo (zT (ud K "list" zP (zE K (Z 0) "codes") (ze (tW (zbB K) (ze (Z 1) zj)) zj))) (zo (zT (ud K "list" zP (zE K (Z 0) "waiting") (ze (Z 2) zj))) (zD (Z 2))))
def Yo(K:bo)(t:aV):TS:=zo (zM (yr zj) (zq 2)) (zo (kC (xz K (Z 0)) (zq 3) (zO (zy (aN uk (aN (ya K) (Z 3) (tC (.int 0))) (tC (.str "if")))) (zT (ud K "list" jS (Z 2) (ze (zG ZP [] E0 (ze (Z 3) (ze (aN aE (Z 1) (tW (xF K) (ze (Z 2) zj))) zj))) zj))) (zT (ud K "list" zP (Z 2) (ze (Z 3) zj))))) (zD (Z 2)))
def XM(K:bo)(t:aV):TS:=zD (zG ZQ [] E0 (ze (Z 0) (ze (tC (.int 0)) zj)))
def v4(K:bo)(t:aV):TS:=zo (yU K (Z 0) (yr zj) "rows") (zo (yU K (Z 0) (yr zj) "blocks") (yU K (Z 0) (yr zj) "turned"))
def xE(K:bo)(t:aV):TS:=zin t.q02 (Z 0) (Z 1) "row"
def vn(E:XK):TS:=zo (zO (tOr (zy (aN (qo K) (zE K (Z 0) "blocks") (yr zj))) (tB (aN (x6 K) (zE K (Z 0) "turned") (tUn (rU λi=>.int (-i)) (tC (.int 1)))))) (yC t.q02 "row" (ze (Z 1) zj) E)
   zH) (zig (zE K (Z 0) "turned") (tUn (rU λi=>.int (-i)) (tC (.int 1))) (tC (.bl ai)))
def vo(E:XK):TS:=zo (zO (zy (aN (qo K) (zE K (Z 0) "blocks") (yr zj))) (yC t.q02 "row" (ze (Z 1) zj) E)
   zH) (zo (zT (QE K "list" wM (zE K (Z 0) "blocks"))) (zT (QE K "list" wM (zE K (Z 0) "turned"))))
def xL(K:bo)(t:aV):TS:=zo (zO (zy (aN (qo K) (zE K (Z 0) "blocks") (yr zj))) (zD (zE K (Z 0) "rows"))
   zH) (zD (tIf (tB (aN (x6 K) (zE K (Z 0) "turned") (tUn (rU λi=>.int (-i)) (tC (.int 1))))) (aN (ya K) (aN (x6 K) (zE K (Z 0) "blocks") (tUn (rU λi=>.int (-i)) (tC (.int 1)))) (tC (.int 3))) (aN (ya K) (aN (x6 K) (zE K (Z 0) "blocks") (tUn (rU λi=>.int (-i)) (tC (.int 1)))) (tC (.int 2)))))
def wR(E:XK):TS:=zo (zO (zy (aN uk (tW (xF K) (ze (zE K (Z 0) "blocks") zj)) (tC (.int 5)))) (yC t.q02 "row" (ze (Z 2) zj) E)
   zH) (zo (zT (ud K "list" zP (zF t.q05 "innermost" (yN t) [] E (Z 0) zj) (ze (Z 1) zj))) (zo (zT (ud K "list" zP (zE K (Z 0) "blocks") (ze (Z 1) zj))) (zT (ud K "list" zP (zE K (Z 0) "turned") (ze (tC (.bl ag)) zj)))))
def kR(E:XK):TS:=zO (zy (aN uk (aN (ya K) (Z 1) (tC (.int 0))) (tC (.str "else")))) (zT (zF t.q05 "turns" (vd t) [] E (Z 0) (ze (Z 2) zj))) (zO (zy (aN uk (aN (ya K) (Z 1) (tC (.int 0))) (tC (.str "end")))) (zT (zF t.q05 "shuts" (ve t) [] E (Z 0) (ze (Z 2) zj))) (zO (zy (aN uk (aN (ya K) (Z 1) (tC (.int 0))) (tC (.str "if")))) (zT (zF t.q05 "begins" (wN t) [] E (Z 0) (ze (Z 1) (ze (Z 2) zj)))) (zT (ud K "list" zP (zF t.q05 "innermost" (yN t) [] E (Z 0) zj) (ze (Z 1) zj)))))
def vp(K:bo)(t:aV):TS:=zo (yU K (Z 0) (Z 1) "words") (zo (yU K (Z 0) (Z 2) "number") (yU K (Z 0) (tC (.int 0)) "at"))
def xu(E:XK):TS:=zo (zO (zy (aN uk (zE K (Z 0) "at") (tW (xF K) (ze (zE K (Z 0) "words") zj)))) (yC t.q02 "row" (ze (zE K (Z 0) "number") zj) E)
   zH) (zo (zM (aN (x6 K) (zE K (Z 0) "words") (zE K (Z 0) "at")) (zq 1)) (zo (X1 K (Z 0) (tC (.int 1)) zhc "at") (zD (Z 1))))
def XN:TS:=zo (zO (tOr (zy (aN uk (Z 0) (tC (.str "")))) (zy (aN (ur λi j=>.bl (decide (j<i))) (tW (xF K) (ze (Z 0) zj)) (tC (.int 6))))) (zD (tC (.bl ag)))
   zH) (zo (zO (tOr (zy (aN (rIn K ag) (Z 0) (tC (.ref t.q0h)))) (zy (aN (rIn K ag) (Z 0) (tC (.ref t.q1b))))) (zD (tC (.bl ag)))
    zH) (zD (tW (zhq K) (ze (wd (zhs (Z 0)) (zq 0) Zi (aN zjA (Z 0) (tC (.str "abcdefghijklmnopqrstuvwxyz"))) 1 []) zj))))
def xv(E:XK):TS:=zo (zM (zF t.q06 "draw_word" (yf t) [] E (Z 0) zj) (zq 1)) (zo (zO (Zp (tB (zG jy [] E (ze (Z 1) zj)))) (yC t.q02 "row" (ze (zE K (Z 0) "number") zj) E)
    zH) (zD (Z 1)))
def jG(E:XK):TS:=zo (zM (tC (.int 1)) (zq 2)) (zo (zM (Z 1) (zq 3)) (zo (zbm (zy (aN (ur λi j=>.bl (decide (j<i))) (Z 2) (tC (.int 0)))) (zo (zO (zy (aN (ur λi j=>.bl (decide (j<=i))) (Z 3) (tW (xF K) (ze (Z 0) zj)))) (qk t.q04 (ze (tC (.str "the words end ahead of the term's end")) zj) E)
    zH) (zo (zO (zy (aN uk (aN aI (Z 3) (Z 1)) (tC (.int 60)))) (qk t.q04 (ze (tC (.str "a term of more than sixty words")) zj) E)
    zH) (zo (zM (tIf (zy (aN (rIn K ag) (aN (x6 K) (Z 0) (Z 3)) (tC (.ref t.q0h)))) (aN aE (Z 2) (tC (.int 1))) (aN aI (Z 2) (tC (.int 1)))) (zq 2)) (zjp 3 (tC (.int 1)) (ipI λi j=>i+j)))))) (zD (Z 3))))
def XO(K:bo)(t:aV)(E:XK):TS:=zo (zO (tB (zG jy [] E (ze (Z 0) zj))) (zD (Z 0))
   zH) (zo (zO (tB (zG we [] E (ze (Z 0) zj))) (zD (zG (vH t) [] E (ze (Z 0) zj)))
    zH) (qk t.q04 (ze (zcX (Z 0)) zj) E))
def Yp(K:bo)(t:aV)(E:XK):TS:=zo (zM (QE K "list" wM (Z 3)) (zq 5)) (zo (zM (QE K "list" wM (Z 3)) (zq 6)) (zT (ud K "list" zP (Z 3) (ze (aN (zcK K) (aN (zcK K) (Z 5) (Z 6)) (xb (ze (Z 4) zj))) zj))))
def Yq(E:XK):TS:=zT (ud K "list" zP (Z 3) (ze (xb (ze (zG (KJ t) [] E (ze (Z 4) zj)) zj)) zj))
def Yr(K:bo)(t:aV)(E:XK):TS:=zD (xb (ze (QE K "list" wM (Z 3)) (ze (Z 2) zj)))
def WB(E:XK):TS:=zo (zM (zG (jz t) [] E (ze (Z 0) (ze (Z 1) zj))) (zq 2)) (zo (zM (yr zj) (zq 3)) (zo (kC (zmv K (ze (tSl (Xh K) (Z 0) (wF (Z 1)) (wF (Z 2))) zj)) (zq 4) (zO (zy (aN (rIn K ag) (Z 4) (tC (.ref t.q0h)))) (Yp K t E) (Yq K t E))) (Yr K t E)))
def xw(E:XK):TS:=zo (zis K (zeG (zbJ (qu t) (ze (zE K (Z 0) "words") (ze (zE K (Z 0) "at") zj))) 1) t.q04 t.q02 "row" (ze (zE K (Z 0) "number") zj) E) (zo (yU K (Z 0) (aN (ya K) (Z 1) (tC (.int 1))) "at") (zD (aN (ya K) (Z 1) (tC (.int 0)))))
def x9(E:XK):TS:=zO (zy (aN uF (zF t.q06 "draw_word" (yf t) [] E (Z 0) zj) (tC (.str "as")))) (yC t.q02 "row" (ze (zE K (Z 0) "number") zj) E)
   zH
def Xd(K:bo)(t:aV)(E:XK):TS:=zo (zM (zF t.q06 "draw_name" (yg t) [] E (Z 0) zj) (zq 1)) (zo (zM (zF t.q06 "draw_term" (zQ t) [] E (Z 0) zj) (zq 2)) (zo (zT (zF t.q06 "draw_as" (x8 t) [] E (Z 0) zj)) (zD (xb (ze (tC (.str "take")) (ze (Z 1) (ze (Z 2) (ze (zF t.q06 "draw_name" (yg t) [] E (Z 0) zj) zj))))))))
def jH(E:XK):TS:=zo (zO (zy (aN (rIn K ag) (Z 1) (xb (ze (tC (.str "say")) (ze (tC (.str "off")) zj))))) (zD (xb (ze (Z 1) (ze (zF t.q06 "draw_term" (zQ t) [] E (Z 0) zj) zj))))
   zH) (zo (zO (zy (aN uk (Z 1) (tC (.str "if")))) (zD (xb (ze (tC (.str "if")) (ze (zF t.q06 "draw_term" (zQ t) [] E (Z 0) zj) (ze (yr zj) (ze (yr zj) zj))))))
    zH) (zo (zO (zy (aN (rIn K ag) (Z 1) (xb (ze (tC (.str "else")) (ze (tC (.str "end")) zj))))) (zD (xb (ze (Z 1) zj)))
    zH) (yC t.q02 "row" (ze (zE K (Z 0) "number") zj) E)))
def Ys(E:XK):TS:=zo (zO (zy (aN uk (Z 1) (tC (.str "let")))) (zD (xb (ze (tC (.str "let")) (ze (zF t.q06 "draw_name" (yg t) [] E (Z 0) zj) (ze (zF t.q06 "draw_term" (zQ t) [] E (Z 0) zj) zj)))))
   zH) (jH K t E)
def Yt(E:XK):TS:=zo (zO (zy (aN uk (Z 1) (tC (.str "give")))) (zD (xb (ze (tC (.str "give")) (ze (zF t.q06 "draw_name" (yg t) [] E (Z 0) zj) (ze (zF t.q06 "draw_term" (zQ t) [] E (Z 0) zj) (ze (zF t.q06 "draw_term" (zQ t) [] E (Z 0) zj) zj))))))
   zH) (Ys K t E)
def WC(E:XK):TS:=zo (zM (zF t.q06 "draw_word" (yf t) [] E (Z 0) zj) (zq 1)) (zo (zO (zy (aN uk (Z 1) (tC (.str "take")))) (zD (zG (ke t) [] E (ze (Z 0) zj)))
    zH) (Yt K t E))
def xM(E:XK):TS:=zO (zy (aN aG (zE K (Z 0) "at") (tW (xF K) (ze (zE K (Z 0) "words") zj)))) (yC t.q02 "row" (ze (zE K (Z 0) "number") zj) E)
   zH
def zba(E:XK):TS:=zo (zM (ud K "str" wu (Z 0) (ze (tC (.str " ")) zj)) (zq 2)) (zo (zO (tOr (zy (aN (ur λi j=>.bl (decide (j<=i))) (Z 1) (tC (.int 40)))) (zy (aN (ur λi j=>.bl (decide (j<i))) (tW (xF K) (ze (Z 2) zj)) (tC (.int 60))))) (yC t.q02 "row" (ze (Z 1) zj) E)
    zH) (zo (zM (Y1 t.q06 (vc t) [] E (ze (Z 2) (ze (Z 1) zj))) (zq 3)) (zo (zM (zG (qv t) [] E (ze (Z 3) zj)) (zq 4)) (zo (zT (zF t.q06 "draw_end" (xI t) [] E (Z 3) zj)) (zD (Z 4))))))
def Vq(E:XK):TS:=zo (zO (zy (aN (Xq K) (zE K (Z 2) "blocks") (yr zj))) (yC t.q02 "row" (ze (tW (xF K) (ze (Z 1) zj)) zj) E)
   zH) (zD (zE K (Z 2) "rows"))
def zbb(E:XK):TS:=zo (kC (zmA K (ze (Z 1) zj)) (JQ K 2 (wI (zq 3) (wI (zq 4) JP))) (zT (zF t.q05 "reads" (vf t) [] E (Z 2) (ze (zG (Vo t) [] E (ze (Z 4) (ze (Z 3) zj))) (ze (Z 3) zj))))) (Vq K t E)
def zbc(E:XK):TS:=zo (zM (Y1 t.q05 (Zc t) [] E zj) (zq 2)) (zbb K t E)
def zfM(E:XK):TS:=zo (zM (tIf (zy (aN uF (Z 0) (tC (.str "")))) (ud K "str" wu (Z 0) (ze (tC (.str "\n")) zj)) (yr zj)) (zq 1)) (zbc K t E)
def vq(E:XK):TS:=zD (zF t.q00 "add" (ZX t) [] E (zE K (Z 0) "desk") (ze (zG XC [] E (ze (zG (zbX t) [] E (ze (Z 1) zj)) zj)) zj))
def j5(K:bo)(t:aV):TS:=zo (zO (tOr (Zp (tB (Z 2))) (tOr (tB (Z 3)) (tOr (tB (Z 4)) (tOr (Zp (tB (tW (zbv K) (ze (Z 5) (ze (tC (.ty "int")) zj))))) (tB (tW (zbv K) (ze (Z 5) (ze (tC (.ty "bool")) zj)))))))) (zD (tUn (rU λi=>.int (-i)) (tC (.int 1))))
   zH) (zD (Z 5))
def Ze:TS:=zo (zM (tC (.bl ag)) (zq 2)) (zo (zM (tC (.bl ag)) (zq 3)) (zo (zM (tC (.bl ag)) (zq 4)) (zo (zM (tUn (rU λi=>.int (-i)) (tC (.int 1))) (zq 5)) (zo (zk1 K (zfB (zfJ t.q03 "hand_in" (xT t) (Z 0) (ze (ud K "str" (wG K) (tC (.str "\n")) (ze (Z 1) zj)) zj))) t.q02 6 (zo (zM (zat (tW (ziN K) (ze (Z 6) (ze (tC (.ref t.q0v)) zj))) (tW (ziN K) (ze (Z 6) (ze (tC (.ty "ValueError")) zj)))) (zq 2)) (zo (zM (tW (zeJ K) (ze (Z 6) (ze (xb (ze (tC (.ref t.q0a)) (ze (tC (.ref t.q04)) (ze (tC (.ref t.q0f)) (ze (tC (.ref t.q0e)) (ze (tC (.ref t.q0p)) zj)))))) zj))) (zq 3)) (zo (zM (tW (zeJ K) (ze (Z 6) (ze (xb (ze (tC (.ref t.q08)) (ze (tC (.ref t.q0s)) (ze (tC (.ref t.q0q)) (ze (tC (.ref t.q0r)) zj))))) zj))) (zq 4)) (zM (zk0 K (Z 6) "row") (zq 5)))))) (j5 K t)))))
def Yu(K:bo)(t:aV):TS:=zo (zM (yr (ze (tC (.str "")) (ze (tC (.str "say 1 ")) (ze (tC (.str "say")) (ze (tC (.str "say 1 2")) (ze (tC (.str "tell 1")) (ze (tC (.str "end")) (ze (tC (.str "else")) (ze (tC (.str "let over 1")) (ze (tC (.str "take a 1 x")) zj)))))))))) (zq 1)) (zo (zM (aN Zu (Z 1) (yr (ze (tC (.str " say 1")) (ze (tC (.str "Say 1")) (ze (tC (.str "say\t1")) (ze (tC (.str "say  1")) zj)))))) (zq 1)) (zD (aN (x6 K) (Z 1) (Z 0))))
def yV(K:bo)(t:aV):TS:=zM (aN Zu (aN Zu (tSl (Xh K) (Z 3) yI (wF (Z 4))) (yr (ze (zG Z4 [] E0 (ze (Z 5) zj)) zj))) (tSl (Xh K) (Z 3) (wF (Z 4)) yI)) (zq 3)
def yW:TS:=zD (aN uk (zG (vW t) [] E0 (ze (Z 0) (ze (aN Zu (Z 6) (Z 3)) zj))) (aN aE (Z 4) (tW (xF K) (ze (Z 6) zj))))
def yX:TS:=zo (zO (zeb (zy (aN uk (aN aF (aN aH (Z 1) (tC (.int 24))) (tC (.int 2))) (tC (.int 0)))) (zy (aN (Xq K) (Z 6) (yr zj)))) (zM (tW (xF K) (ze (Z 3) zj)) (zq 4)) (yV K t)) (yW K t)
def wb:TS:=zo (zO (zeb (zy (aN uk (aN aF (aN aH (Z 1) (tC (.int 3120))) (tC (.int 9))) (tC (.int 4)))) (zeb (zy (aN uF (Z 5) (tC (.int 5)))) (zy (aN uF (Z 5) (tC (.int 6)))))) (zM (yr (ze (tC (.str "if 1")) zj)) (zq 6))
   zH) (yX K t)
def wS:TS:=zo (zM (tW (zbB K) (ze (Z 2) zj)) (zq 3)) (zo (zM (aN aF (aN aH (Z 1) (tC (.int 48))) (aN aE (tW (xF K) (ze (Z 2) zj)) (tC (.int 1)))) (zq 4)) (zo (zM (aN aF (aN aH (Z 1) (tC (.int 240))) (tC (.int 13))) (zq 5)) (zo (zM (yr zj) (zq 6)) (wb K t))))
def vt:TS:=zD (zF t.q00 "settled" (xo t) [] E0 (zE K (Z 0) "desk") zj)
def zdy:TS:=zo (zO (tOr (Zp (tB (zG (xD t) [] E0 (ze (Z 2) (ze (Z 5) (ze (Z 6) zj)))))) (Zp (tB (zG (xD t) [] E0 (ze (Z 2) (ze (Z 5) (ze (Z 6) zj))))))) (zD (tC (.bl ag)))
   zH) (zO (tOr (zy (aN uF (zF t.q03 "log" (jj t) [] E0 (Z 2) zj) (Z 3))) (tOr (zy (aN uF (zF t.q03 "settled" (vk t) [] E0 (Z 2) zj) (tC (.int 0)))) (zy (aN (Xq K) (zF t.q03 "answers" (xS t) [] E0 (Z 2) zj) (yr zj))))) (zD (tC (.bl ag)))
   zH)
def WD:TS:=zo (zO (zy (aN uF (zF t.q03 "hand_in" (xT t) [] E0 (Z 2) (ze (ud K "str" (wG K) (tC (.str "\n")) (ze (Z 6) zj)) zj)) (tW (xF K) (ze (Z 4) zj)))) (zD (tC (.bl ag)))
   zH) (zT (ud K "list" zP (Z 4) (ze (xb (ze (tW (xF K) (ze (Z 4) zj)) (ze (xb (ze (tC (.str "done")) (ze (tW (zlx K) (ze (wd (xz K (Z 6)) (zq 0) Zi (tW zep (ze (tSl zhu (Z 0) (wF (tC (.int 4))) yI) zj)) 1 []) zj)) zj))) zj))) zj)))
def KZ:TS:=zo (zM (zG qF [] E0 (ze (Z 5) zj)) (zq 6)) (zo (zO (zy (aN uF (aN aF (aN aH (Z 5) (tC (.int 8))) (tC (.int 3))) (tC (.int 0)))) (zdy K t)
    zH) (WD K t))
def K0:TS:=zo (zT (zF t.q03 "finish" (vV t) [] E0 (Z 2) zj)) (zD (aN (zhY K ag) (zF t.q03 "answers" (xS t) [] E0 (Z 2) zj) (Z 4)))
def K1:TS:=zo (kC (xz K (tSl (Xh K) (Z 0) yI (wF (tC (.int 12))))) (zq 5) (KZ K t)) (K0 K t)
def zdz:TS:=zo (zM (zF t.q03 "log" (jj t) [] E0 (Z 2) zj) (zq 3)) (zo (zM (yr zj) (zq 4)) (K1 K t))
def K2:TS:=zo (zO (tOr (Zp (tB (zG (wq t) [] E0 (ze (Z 2) (ze (aN aE (Z 1) (aN aF (zG (xp K) [] E0 (ze (Z 0) (ze (tC (.int 1)) zj))) (aN (rI zef λi j=>.int (i^j.toNat)) (tC (.int 10)) (tC (.int 9))))) zj))))) (Zp (tB (zG (wq t) [] E0 (ze (Z 2) (ze (tUn (rU λi=>.int (-i)) (tC (.int 1))) zj)))))) (zD (tC (.bl ag)))
   zH) (zdz K t)
def zeV:TS:=zo (zM (aN aE (tC (.int 1)) (aN aF (zG (xp K) [] E0 (ze (Z 0) (ze (tC (.int 0)) zj))) (tC (.int 8)))) (zq 1)) (zo (zM (Y1 t.q03 (km t) [] E0 (ze (zG XD [] E0 (ze (yr zj) zj)) (ze (Z 1) (ze (zeD t.q0d) zj)))) (zq 2)) (K2 K t))
end
section
variable {K:bo}{t:aV}{H:Hp}{Q:VK}
theorem zdA{j:Int}(a:0<=j)(b:j<=100):zef 10 j:=⟨a,(),()⟩
theorem zR(h:n<=100000):n<=Bb:=cg h ()
theorem zdB(T:String):dG K (.type T) (.type T)=U ai:=by
 unfold dG;rw[ao (by simp)]
theorem kf(K:bo):KF K:=⟨by with_unfolding_all rfl,by with_unfolding_all rfl,by with_unfolding_all rfl,by with_unfolding_all rfl,by with_unfolding_all rfl,by with_unfolding_all rfl,by with_unfolding_all rfl,by with_unfolding_all rfl,by with_unfolding_all rfl,by with_unfolding_all rfl⟩
theorem zb0{x:V}(d:zkk K)(h:(∃i,x=.int i/\∀a,ac H a->Q (.bl (inW i)) a)\/(ziX K H x/\∀a,ac H a->Q (.bl ag) a)) :
  Z5 K t (aX Q) (zZZ 1 [x]) H:=by
 simp only[Z5,zZZ,zo,zD,zH,aN,tUn,Z,tC,ze,zj,zO,tOr,Zp,tB,tW,zeg,rI,ur,rU,zbv,cE,bD,bQ,bu,bd,bh,aj,V.int.injEq,V.bl.injEq,V.ty.injEq,bx,and_true,and_assoc,ak,bO,bL,decide_eq_true_eq,cr,m6,oH,lH,if_true];rcases h with ⟨i,rfl,q⟩|⟨⟨T,b,ty,k1,k2⟩,q⟩
 .have q:=q H (ac.refl H);refine⟨_,.int i,ai,zdB _,?_⟩;rw[am ()];refine⟨_,.int i,ag,d,?_⟩;rw[am ()];refine⟨zdA () (),_,Y,qg (λc=>⟨zdA () (),_,Y,?_⟩) λc=>?_⟩
  .have e:inW i=decide (i<=1000000000000000000000000000000):=by
    unfold inW;by_cases h:i<=1000000000000000000000000000000
    .rw[Bj h,Bj ⟨c,h⟩]
    .rw[Bk h,Bk λz=>h z.2]
   rw[e] at q;exact q
  .have e:inW i=ag:=Bk λz=>c z.1;rw[e] at q;exact q
 .have q:=q H (ac.refl H);refine⟨_,ty,b,k1,qg (λ_=>q) λc=>⟨_,ty,ai,k2 (by simpa using c),?_⟩⟩;rw[ao rfl];exact q
theorem zb1{w:Int}(b:inW w=ai):w.natAbs.log2<1920:=by
 have a:-1000000000000000000000000000000<=w/\w<=1000000000000000000000000000000:=of_decide_eq_true b;by_cases h0:w.natAbs=0
 .rw[h0];decide
 .exact cq ((Nat.log2_lt h0 (k:=100)).mpr (dy (by lia:w.natAbs<=1000000000000000000000000000000) ())) ()
theorem zdC{w:Int}(b:inW w=ai)(q:∀a,ac H a->Q (.str (zY w)) a) :
  XE K t (aX Q) (zZZ 1 [.int w]) H:=by
 simp only[XE,zZZ,zD,Z,ze,zj,tW,zgd,cE,bD,bQ,bu,bd,bh,aj,V.int.injEq,bx,and_true,bO,bL];exact⟨zb1 b,q _ (ac.refl H)⟩
theorem zkm{x:Str}{f:Nat->Bool}(g:ys.length=x.cps.size)(b:∀(i:Nat) (v:V),ys[i]?=U v->∃c,x.cps[i]?=U c/\v=.bl (f c)):ys=(x.cps.toList.map f).map V.bl:=by
 apply dY;intro i;by_cases hi:i<ys.length
 .obtain⟨c,d,e⟩:=b i ys[i] (bj hi);rw[bj hi,e,bW,bW];have a:x.cps.toList[i]?=U c:=by simpa using d
  rw[a];rfl
 .rw[ck (),ck];rw[bi,bi];have:x.cps.toList.length=x.cps.size:=by simp
  lia
theorem K3{x:Str}(n:x.length<=20000)(q:∀a,ac H a->Q (.bl (jQ x)) a) :
  kr K t (aX Q) (zZZ 1 [.str x]) H:=by
 simp only[kr,zZZ,zq,zD,aN,Z,tC,ze,zj,zat,tW,wd,Zi,Jp,zhs,uF,zjA,zhq,qa,cE,bD,bQ,bu,bd,bh,aj,V.ref.injEq,V.str.injEq,V.bl.injEq,bx,and_true,true_and,ak,bO,bL,cr,decide_eq_false_iff_not,if_true];refine qg (λc D l=>?_) λc=>?_
 .refine kG (J:=Its x) x.cps.size (by show x.length<=_;lia) (λb=>∃o,b=[o]) (λi v=>∃c,x.cps[i]?=U c/\v=.bl (inF c)) ⟨_,Y⟩ (λi H _ h=>h) (λH _=>br _) l ?_ ?_
  .rintro i v b r a ⟨o,rfl⟩ d p ⟨rfl,c,k,rfl⟩;exact⟨_,Y,_,Y,⟨_,Y⟩,⟨c,k,Y⟩,ac.refl _⟩
  .intro m a j f d g;refine⟨x.cps.toList.map inF,aP.of (by rw[<-zkm j f];exact g),?_⟩;have e:jQ x=(x.cps.toList.map inF).all id:=by
    unfold jQ;rw[Bk c,sJ];rfl
   rw[<-e];exact q _ d
 .have e:jQ x=ag:=by
   unfold jQ;rw[Bj (sA.mp c)];rfl
  rw[e] at q;exact q _ (ac.refl H)
theorem ziZ(k:x.length<=20000)(q:∀a,ac H a->Q (.bl (xW x)) a):(xB x).length<=Bb/\if 31<((xB x).length:Int) then Q (V.bl ag) H else
   (xB x).length<=20000/\∀a,ac H a->if jQ (xB x)=ag then Q (V.bl ag) a else
    ∃n,intText? x=U n/\x.length<=640/\((∀b,ac a b->if inW n=ai then inW n=ai/\∀g,ac b g->Q (V.bl (decide (zY n=x))) g else Q (V.bl ag) b) \/
     ziX K a (V.int n)/\∀b,ac a b->Q (V.bl ag) b):=by
 have m:=zhI x;have l:=W8 x;refine⟨zR (),qg (λc=>?_) λc=>⟨(),λa s=>qg (λf=>?_) λf=>?_⟩⟩
 .have e:xW x=ag:=by unfold xW;rw[Bj (by lia:31<(xB x).length)];rfl
  rw[e] at q;exact q _ (ac.refl H)
 .have e:xW x=ag:=by unfold xW;rw[f];simp
  rw[e] at q;exact q _ s
 .have i:jQ (xB x)=ai:=by simpa using f
  have d:xW x=(inW (wL x)&&decide (zY (wL x)=x)):=by
   unfold xW;rw[i,Bk (by lia:¬ 31<(xB x).length)];rfl
  refine⟨_,Kg i (),(),.inl λb h=>qg (λw=>⟨w,λg j=>?_⟩) λw=>?_⟩
  .rw[w,Bool.true_and] at d;rw[d] at q;exact q _ (s.trans (h.trans j))
  .rw[dZ.mpr w,pZ] at d;rw[d] at q;exact q _ (s.trans h)
theorem K4{x:Str}(b:x.length<=20000)(q:∀a,ac H a->Q (.bl (xW x)) a) :
  kt K t (aX Q) (zZZ 3 [.str x]) H:=by
 simp only[kt,kc,ZN,xH,zZZ,zo,zM,zq,zD,zH,aN,Z,tC,ze,zj,zO,tOr,Zp,zy,tB,zat,tIf,tW,ud,tyV,tSl,wF,yI,zG,YS,uk,ur,zhu,xF,zep,vQ,qa,cE,bD,bQ,cf,cp,bu,bd,bq,bh,aj,exists_eq_left,V.int.injEq,V.str.injEq,V.bl.injEq,bx,and_true,true_and,and_assoc,ak,bX,bZ,bO,bL,decide_eq_true_eq,cr,if_true,cu,ite_false];have r:=ziZ (K:=K) b q;unfold xB at r;rw[zgh];have e:(bb "-").cps.toList=[45]:=by lia
 have d:(bb "-").length=1:=by lia
 rw[e,d];by_cases c:(x.cps.toList.take 1==[45])=ai
 .simp only[ao c] at r ⊢;exact⟨zR (),r⟩
 .simp only[am c] at r ⊢;exact r
theorem zb2{x:Str}{E:XK}(b:x.length<=20000)(d:uf x)(q:∀a,ac H a->if xW x=ai then Q (.int (wL x)) a else E (.ref t.q0a) ah a) :
  Z6 K t E (aX Q) (zZZ 1 [.str x]) H:=by
 simp only[Z6,we,zZZ,qk,zcX,zo,zD,zH,Z,ze,zj,zO,Zp,tB,tW,zG,zep,cE,bD,bQ,bu,bd,bh,aj,V.str.injEq,V.bl.injEq,bx,and_true,ak,bO,bL,cr];refine⟨b,λa s=>?_⟩;have q:=q a s;by_cases hn:xW x=ai
 .rw[am (by rw[hn];decide)];rw[ao hn] at q;unfold xW at hn;rw[bS,cr,iB,decide_eq_false_iff_not] at hn;have e:=W8 x;have c:jQ (xB x)=ai:=by simpa using hn.1.2
  exact⟨_,Kg c (),(),q⟩
 .rw[am hn] at q;rw[ao (by simpa using hn)];exact⟨(),d,λy=>⟨(),q⟩⟩
theorem zmI{b:Type}{xs:List b}{i:Int}(d:0<=i)(c:i<xs.length):∃x,atI xs i=U x/\x∈xs:=by
 obtain⟨n,rfl⟩:∃n:Nat,i=(n:Int):=⟨i.toNat,()⟩;have a:n<xs.length:=by lia
 refine⟨xs[n],?_,oQ a⟩;unfold atI ixN;rw[ao d,ao c];simp[a]
theorem zdD(h:6<x.length):yj x=ag:=by
 unfold yj;rw[Bj h];simp
theorem zdE{x:Str}(A:x.length<=20000)(p:∀H,tZ K H t.q0h jw)(n:∀H,tZ K H t.q1b wl)(q:∀a,ac H a->Q (.bl (yj x)) a) :
  XN K t (aX Q) (zZZ 1 [.str x]) H:=by
 simp only[XN,zZZ,zo,zq,zD,zH,aN,Z,tC,ze,zj,zO,tOr,zy,tW,wd,Zi,Jp,YS,zhs,uk,ur,rIn,zjA,xF,zhq,qa,cE,bD,bQ,bu,bd,bh,aj,exists_eq_left,V.int.injEq,V.ref.injEq,V.str.injEq,V.bl.injEq,bx,and_true,true_and,and_assoc,ak,bO,bL,decide_eq_true_eq,if_true,cu,ite_false];refine qg (λe=>?_) λz=>⟨zR (),qg (λe=>?_) λC=>⟨_,.inr (p H),Y,Y,qg (λe=>?_) λy=>⟨_,.inr (n H),Y,Y,qg (λe=>?_) λw D r=>?_⟩⟩⟩
 .rw[show yj x=ag by rw[e];lia] at q;exact q _ (ac.refl H)
 .rw[zdD ()] at q;exact q _ (ac.refl H)
 .rw[show yj x=ag by unfold yj;rw[e];simp] at q;exact q _ (ac.refl H)
 .rw[show yj x=ag by unfold yj;rw[e];simp] at q;exact q _ (ac.refl H)
 have u:yj x=x.cps.toList.all inL:=by
  unfold yj;rw[Bk z,Bk (by lia:¬ 6<x.length),dZ.mpr y,dZ.mpr w];simp
 refine kG (J:=Its x) x.cps.size (by show x.length<=_;lia) (λj=>∃o,j=[o]) (λi v=>∃c,x.cps[i]?=U c/\v=.bl (inL c)) ⟨_,Y⟩ (λi H _ h=>h) (λH _=>br _) r ?_ ?_
 .rintro i v j E a ⟨o,rfl⟩ k d ⟨rfl,c,g,rfl⟩;exact⟨_,Y,_,Y,⟨_,Y⟩,⟨c,g,Y⟩,ac.refl _⟩
 .intro b a B l k m;have s:b=(x.cps.toList.map inL).map V.bl:=by
   apply dY;intro i;by_cases d:i<b.length
   .obtain⟨c,g,e⟩:=l i b[i] (bj d);rw[bj d,e,bW,bW];have f:x.cps.toList[i]?=U c:=by simpa using g
    rw[f];rfl
   .rw[ck (),ck];rw[bi,bi];have:x.cps.toList.length=x.cps.size:=by simp
    lia
  refine⟨x.cps.toList.map inL,aP.of (by rw[<-s];exact m),?_⟩;rw[sJ,show (id ∘ inL)=inL from rfl,<-u];exact q _ k
theorem WE{a:List V} :(a++[y])[(a++[y]).length-1]?=U y:=by simp
theorem kS{xs:List V} :(xs++[y]).dropLast=xs:=by simp
theorem xa{H a:Hp}(s:ac H a)(c:H w=ah):ac H (upd a w o):=λb u e=>by rw[zm (zr e c)];exact s b u e
theorem zi0{f:Type}{l:List f}(h:1<l.length):∃r a b,l=r++[a,b]:=by
 have c:l≠[]:=λz=>by rw[z] at h;simp at h
 have e:=gH c;have d:l.dropLast≠[]:=λz=>by rw[z] at e;rw[<-e] at h;simp at h
 have i:=gH d;have g:l.dropLast++[l.getLast c]=(l.dropLast.dropLast++[l.dropLast.getLast d])++[l.getLast c]:=by rw[i]
 exact⟨l.dropLast.dropLast,l.dropLast.getLast d,l.getLast c,e.symm.trans (g.trans (by simp))⟩
theorem zdF{x:Str}{E:XK}(b:x.length<=20000)(g:uf x)(q:∀e,ac H e->(match kH x with|some v=>Q v e|none=>E (.ref t.q04) ah e)) :
  XO K t E (aX Q) (zZZ 1 [.str x]) H:=by
 simp only[XO,jy,we,vH,zZZ,qk,zcX,zo,zD,zH,Z,ze,zj,zO,tB,zG,cE,bD,bQ,bu,bd,bh,aj,V.str.injEq,V.bl.injEq,bx,and_true,bO,bL];unfold kH at q;refine⟨b,λk a=>qg (λc=>?_) λc=>⟨b,λj f=>qg (λd=>⟨b,g,λi h=>?_⟩) λd=>⟨(),g,λy=>⟨(),?_⟩⟩⟩⟩
 .have q:=q k a;rw[ao c] at q;exact q
 .have q:=q i (a.trans (f.trans h));rw[am c,ao d] at q;rw[ao d];exact q
 .have q:=q j (a.trans f);rw[am c,am d] at q;exact q
theorem zi1{a:List V}{n:Nat}(h:a[n]?=U v):atI a (n:Int)=U v:=X2 h
theorem zgI(l:List Str):yy l 0=U 0:=by cases l <;> (unfold yy;rfl)
theorem zi2(h:yy l (d+1)=U n):1<=n:=by
 cases l with
 |nil=>unfold yy at h;cases h
 |cons w r =>
  unfold yy at h;obtain⟨m,_,rfl⟩:=cY.mp h;show 1<=m+1;lia
theorem zgJ{a:List Str}{k i d:Nat}{w:Str}{R:Option Nat}(h:R=(yy (a.drop (k+i)) (d+1)).map (· + i))(b:a[k+i]?=U w):R=(yy (a.drop (k+(i+1))) (if isJ (.str w)=ai then d+2 else d)).map (· + (i+1)):=by
 have e:=(bE.mp b).1;have c:=(bE.mp b).2;rw[h,iJ e,c];show ((yy (a.drop (k+i+1)) (if isJ (.str w)=ai then d+2 else d)).map (· + 1)).map (· + i)=_;rw[nH];exact congrArg (λf=>Option.map f (yy (a.drop (k+(i+1))) (if isJ (.str w)=ai then d+2 else d))) (funext λn=>by show n+1+i=n+(i+1);lia)
def bhI(a:L)(b:List Str)(k:Nat)(H:Hp)(m:Nat)(c:St)(e:Hp):Prop:=∃i d:Nat,c=[U (.ref a),U (.int (k:Int)),U (.int (d:Int)),U (.int ((k+i:Nat):Int))]/\i+m=61/\i<=60/\yy (b.drop k) 1=(yy (b.drop (k+i)) d).map (· + i)/\e=H
theorem Jz{E:XK}{a:L}{f:List Str}{k:Nat}(u:∀H:Hp,tZ K H t.q0h jw)(r:H a=U (.lst (f.map V.str)))(C:f.length<=1000)(q:∀o,ac H o->zmG t.q04 (yy (f.drop k) 1) k Q E o) :
  jG K t E (aX Q) (zZZ 4 [.ref a,.int k]) H:=by
 simp only[jG,zbm,zZZ,qk,zo,zM,zq,zD,zH,aN,Z,tC,ze,zj,zO,zy,tIf,tW,zjp,ipI,YS,x6,uk,ur,rIn,xF,qa,cE,bD,bQ,cf,cp,bd,bq,bh,aj,V.int.injEq,V.ref.injEq,V.bl.injEq,bx,and_true,true_and,ak,bX,bZ,bO,bL,decide_eq_true_eq,cu,ite_false];have q:=q H (ac.refl H);refine⟨bhI a f k H,⟨61,0,1,Y,Y,(),by simp,Y⟩,?_⟩;rintro m y D ⟨i,d,rfl,A,B,b,rfl⟩;simp only[bd,bq,bh,aj,V.int.injEq,V.ref.injEq,bX,bZ];refine qg (λc=>?_) λc=>?_
 .obtain⟨d,rfl⟩:∃d0,d=d0+1:=⟨d-1,()⟩;refine⟨bhI a f k _ (m-1),λs o z=>⟨m-1,(),z⟩,f.length,.inl ⟨_,aP.of r,by rw[bi]⟩,qg (λe=>⟨(),?_⟩) λe=>qg (λv=>⟨(),?_⟩) λv=>?_⟩
  .have x:f.drop (k+i)=[]:=lM ();rw[x] at b;have b:yy (f.drop k) 1=ah:=b;rw[b] at q;exact q
  .cases hs:yy (f.drop (k+i)) (d+1) with
   |none =>
    rw[hs] at b;rw[b] at q;exact q
   |some n =>
    have:=zi2 hs;rw[hs] at b;rw[b] at q;change (if n+i<=60 then _ else _) at q;rw[am ()] at q;exact q
  .have l:k+i<f.length:=by lia
   obtain⟨w,p⟩:∃w,f[k+i]?=U w:=⟨_,bj l⟩;have h:(f.map V.str)[k+i]?=U (V.str w):=by rw[bW,p];rfl
   have g:=zgJ b p;refine⟨_,aP.of r,_,zi1 h,_,.inr (u _),Y,Y,qg (λj=>?_) λj=>?_⟩
   .rw[ao (show isJ (.str w)=ai from j)] at g;refine⟨i+1,d+2,?_,(),(),g,Y⟩;rw[show (((d+1:Nat):Int)+1)=((d+2:Nat):Int) by lia,show (((k+i:Nat):Int)+1)=((k+(i+1):Nat):Int) by lia]
   .rw[am (show ¬ isJ (.str w)=ai from j)] at g;refine⟨i+1,d,?_,(),(),g,Y⟩;rw[show (((d+1:Nat):Int)-1)=((d:Nat):Int) by lia,show (((k+i:Nat):Int)+1)=((k+(i+1):Nat):Int) by lia]
 .obtain rfl:d=0:=by lia
  rw[zgI] at b;rw[b] at q;change (if 0+i<=60 then Q (.int ((k+(0+i):Nat):Int)) _ else _) at q;rw[ao (),fU] at q;exact q
theorem zkn{k n:Nat}(h:k+n<=xs.length):Xg xs (U (k:Int)) (U ((k+n:Nat):Int))=(xs.drop k).take n:=by
 unfold Xg;have b:HT.sIx xs.length 0 (U (k:Int))=k:=by
  show (if (k:Int)<0 then ((k:Int)+(xs.length:Int)).toNat else min (k:Int).toNat xs.length)=k;rw[am (),cA];lia
 have a:HT.sIx xs.length xs.length (U ((k+n:Nat):Int))=k+n:=by
  show (if ((k+n:Nat):Int)<0 then (((k+n:Nat):Int)+(xs.length:Int)).toNat else min ((k+n:Nat):Int).toNat xs.length)=k+n;rw[am (),cA];lia
 rw[b,a,Nat.add_sub_cancel_left]
theorem zgK(c:isJ (.str w)=ai):vD (l++[b,a]) w=.ok (l++[a++b++[.str w]]):=by
 unfold vD;rw[ao c];simp
theorem zgL(c:isJ (.str w)=ai)(h:st.length<=1):vD st w=.error ag:=by
 unfold vD;rw[ao c]
 match st,h with
 |[],_=>rfl
 |[a],_=>rfl
 |a::b::r,h=>exact absurd h (by rw[bR,bR];lia)
def Yv(a:List (L×List V)):Nat:=(a.map λn=>n.2.length).sum
theorem zbd(a b:List (L×List V)):Yv (a++b)=Yv a+Yv b:=by unfold Yv;rw[cm,tE]
theorem Vr{H:Hp}(h:H x=U (.tup l))(a:H w=U (.lst m)):x≠w:=λz=>by
 rw[z,a] at h;cases h
def tfI(a w p:L)(b:List Str)(k e:Nat)(H:Hp)(i:Nat)(f:St)(d:Hp):Prop:=∃c:List (L×List V),(∃j h g,f=[U (.ref a),U (.int (k:Int)),U (.int (e:Int)),U (.ref w),j,h,g])/\vR (b.reverse.take i) []=.ok (c.map rX)/\Yv c<=i/\c.length<=i/\(∀n∈c,n.2≠[]/\d n.1=U (.tup n.2))/\d w=U (.lst (c.map λn=>V.ref n.1))/\d p=U (.lst (b.map V.str))/\ac H d
theorem zi3{a:List Str}{k n:Nat}(h:yy (a.drop k) 1=U n)(b:n<=60):xc a k=match vR ((a.drop k).take n).reverse [] with|.ok [ps]=>U (ps,k+n)|_=>ah:=by
 unfold xc;rw[h];exact ao b
theorem K7{w:Int}(d:inW w=ai):wfT (.leaf (zY w))/\okT (.leaf (zY w))=ai/\pvw (zY w)=.int w/\jL [zY w]:=by
 obtain⟨a,f,g⟩:=Xk d;have e:yj (zY w)=ag:=dZ.mpr λz=>by rw[QI z] at a;cases a
 have b:kH (zY w)=U (.int w):=by
  unfold kH;rw[e,am (),ao a,f]
 refine⟨dZ.mpr λz=>?_,?_,by unfold pvw;rw[b];rfl,λx c=>?_⟩
 .rw[(zjL z).2] at a;cases a
 .show (kH (zY w)).isSome=ai;rw[b];rfl
 .have:x=zY w:=by simpa using c
  rw[this];exact⟨(),uf.num w⟩
theorem yk{H a:Hp}(s:ac H a)(h:a D=ah):H D=ah:=by
 cases e:H D with
 |none=>rfl
 |some o=>rw[s _ _ e] at h;cases h
theorem Yw{c:Hp}(h:c R=U o)(a:c b=ah):b≠R:=λz=>by rw[z,h] at a;cases a
theorem wrF{P:Str->Option ae}(T:Txt K P t):WrF K t:=⟨T.q0g,T.q3t,T.q3s,T.q3r⟩
theorem rdF{P:Str->Option ae}(T:Txt K P t):RdF K t:=⟨T.q0x,T.q3p,T.q3o,T.q3q⟩
theorem aO.refl(x:L)(H:Hp):aO x H H:=λ_ _ _ e=>e
theorem aO.trans{f d H3:Hp}(a:aO x f d)(b:aO x d H3):aO x f H3:=λc o n e=>b c o n (a c o n e)
theorem sx{H H':Hp}(s:ac H H'):aO x H H':=λb o _ e=>s b o e
theorem aO.upd{H a:Hp}(s:aO x H a):aO x H (upd a x o):=λb u n e=>by rw[zm n];exact s b u n e
theorem aO.same{a H H':Hp}(s:aO x H H')(c:ac a H)(f:a x=ah):ac a H':=λb u e=>s b u (zr e f) (c b u e)
theorem hX.same{H a:Hp}{n:Int}(W:hX t H x dx wa ws n k)(s:ac H a):hX t a x dx wa ws n k:=⟨s _ _ W.ix,s _ _ W.hw⟩
theorem hX.ne{H:Hp}{n:Int}(W:hX t H x dx wa ws n k):wa≠x:=zU W.hw W.ix ()
theorem hX.put{H:Hp}{n:Int}(W:hX t H x dx wa ws n k)(j:Nat):hX t (upd H x (.ins t.q06 dx [("words",.ref wa),("number",.int n),("at",.int j)])) x dx wa ws n j:=⟨zi,by rw[zm W.ne];exact W.hw⟩
theorem WF{x a:L}{n:Int}{g:L}{d:List Str}(F:WrF K t)(f:H x=U (.ins t.q06 g []))(e:H a=U (.lst (cE V.str d)))(q:∀c,aO x H c->hX t c x g a d n 0->Q .non c) :
  vp K t (aX Q) (zZZ 3 [.ref x,.ref a,.int n]) H:=by
 simp only[vp,yU,zZZ,zo,Z,tC,cE,bD,bQ,bu,bd,bq,bh,aj,V.ref.injEq,ak,bO,bL];have b:a≠x:=zU e f ();refine⟨_,_,_,f,F.cl,F.n1,(),_,_,_,zi,F.cl,F.n2,(by simp[yw]),_,_,_,zi,F.cl,F.n3,(by simp[yw];split <;> simp),q _ (aO.upd (aO.upd (aO.upd (aO.refl x H)))) ⟨zi,?_⟩⟩;rw[zm b,zm b,zm b];exact e
theorem zi4{A B:List Str}(h:n=A.length+i):(A++B)[n]?=B[i]?:=by subst h;rw[dv ()];congr 1;lia
theorem Hd.w_ne(a:Hd):a.words≠[]:=by cases a <;> simp[Hd.words]
theorem K8{H c:Hp}(s:aO x H c)(d:c x=U o)(a:c b=ah):H b=ah:=by
 cases e:H b with
 |none=>rfl
 |some u =>
  by_cases n:b=x
  .rw[n,d] at a;cases a
  .rw[s b u n e] at a;cases a
theorem zk4:bb " "=vI:=by lia
theorem zk5:bb "\n"=vJ:=by lia
theorem ue.to{F G:L->Prop}{H H':Hp}(g:∀b,F b->G b)(s:ac H H')(h:ue F H v hd):ue G H' v hd:=by
 cases hd with
 |take sh T sl =>
  obtain⟨r,c,e,a,d⟩:=h;exact⟨r,c,e,s _ _ a,s _ _ d⟩
 |give sh T Bm =>
  obtain⟨r,c,i,e,a,d,f⟩:=h;exact⟨r,c,i,e,s _ _ a,s _ _ d,s _ _ f⟩
 |lt sl T =>
  obtain⟨r,c,e,a,d⟩:=h;exact⟨r,c,e,s _ _ a,s _ _ d⟩
 |say T =>
  obtain⟨r,c,e,a,d⟩:=h;exact⟨r,c,e,s _ _ a,s _ _ d⟩
 |off T =>
  obtain⟨r,c,e,a,d⟩:=h;exact⟨r,c,e,s _ _ a,s _ _ d⟩
 |iff T =>
  obtain⟨r,c,k,j,e,a,d,f,o,m,l,n⟩:=h;exact⟨r,c,k,j,e,s _ _ a,s _ _ d,s _ _ f,s _ _ o,g _ m,g _ l,n⟩
 |els =>
  obtain⟨r,e,a⟩:=h;exact⟨r,e,s _ _ a⟩
 |nd =>
  obtain⟨r,e,a⟩:=h;exact⟨r,e,s _ _ a⟩
theorem jI{E:XK}{a:Hp}{k:Int}(h:ndE t E H k)(s:ac H a):∀d,a d=ah->E (.ref t.q02) (U d) (upd a d (.xd [("row",.int k)])):=λd b=>h d _ (s.trans (hU d b)) zi
theorem ndE.mono{E:XK}{a:Hp}{k:Int}(h:ndE t E H k)(s:ac H a):ndE t E a k:=λd c b e=>h d c (s.trans b) e
theorem jJ{x:L}{y:V}(a:H x=U (exN x t.q02))(q:∀d,H d=ah->d≠x->Q .non (upd (upd H d (.xd [("row",y)])) x (exM x t.q02 d))) :
  xE K t (aX Q) (zZZ 2 [.ref x,y]) H:=by
 simp only[xE,zin,zZZ,Z,cE,bD,bQ,bu,bd,bq,bh,aj,V.ref.injEq,bO,bL];exact⟨a,q⟩
theorem ndX.to{E:XK}{a:Hp}{k:Int}(h:ndX t E x H k)(s:aO x H a):ndX t E x a k:=λd H' b e=>h d H' (s.trans b) e
theorem jp{E:XK}{a:Hp}{k:Int}(h:ndX t E x H k)(s:aO x H a):∀d,a d=ah->E (.ref t.q02) (U d) (upd a d (.xd [("row",.int k)])):=λd b=>h d _ (s.trans (sx (hU d b))) zi
theorem qM{x d b:L}{a:List Str}{n:Int}{k:Nat}{E:XK}(F:WrF K t)(W:hX t H x d b a n k)(f:k<=a.length)(q:(∃w,a[k]?=U w/\∀c,aO x H c->hX t c x d b a n (k+1)->Q (.str w) c)\/(a[k]?=ah/\ndX t E x H n)) :
  xu K t E (aX Q) (zZZ 2 [.ref x]) H:=by
 simp only[xu,X1,zhc,zE,X1,zhc,yC,zZZ,zo,zM,zq,zD,zH,aN,Z,tC,ze,zj,zO,zy,tW,YS,x6,uk,xF,qa,cE,bD,bQ,cf,cp,bd,bq,bh,aj,V.int.injEq,V.ref.injEq,V.bl.injEq,bx,and_true,ak,bX,bZ,bO,bL,decide_eq_true_eq];refine⟨_,_,_,W.ix,F.cl,F.n3,_,Y,_,_,_,W.ix,F.cl,F.n1,_,Y,a.length,.inl ⟨_,aP.of W.hw,(bi ..).symm⟩,Y,?_⟩;rcases q with ⟨w,h2,q⟩|⟨h2,q⟩
 .have f:k<a.length:=(bE.mp h2).1;rw[am (λz=>by have:=V.int.inj z;lia)];refine⟨_,_,_,W.ix,F.cl,F.n1,_,Y,_,_,_,W.ix,F.cl,F.n3,_,Y,?_⟩;exact⟨b,Y,_,k,Y,aP.of W.hw,.str w,zi1 (by rw[bW,h2];rfl),_,_,_,W.ix,F.cl,F.n3,_,Y,_,Y,_,_,W.ix,(by simp),q _ (aO.upd (aO.refl x H)) (W.put (k+1))⟩
 .have e:k=a.length:=by have:=List.getElem?_eq_none_iff.mp h2;lia
  rw[ao (by rw[e])];exact⟨_,_,_,W.ix,F.cl,F.n2,_,Y,jp q (aO.refl x H)⟩
theorem Yx{x f c:L}{a:List Str}{n:Int}{k:Nat}{E:XK}(F:WrF K t)(W:hX t H x f c a n k)(g:k<=a.length)(q:(a[k]?=U ("as":Str)/\∀b,aO x H b->hX t b x f c a n (k+1)->Q .non b)\/(a[k]?≠U ("as":Str)/\ndX t E x H n)) :
  x9 K t E (aX Q) (zZZ 1 [.ref x]) H:=by
 simp only[x9,yf,zE,zF,yC,zZZ,zH,aN,Z,tC,ze,zj,zO,zy,uF,qa,cE,bD,bQ,bu,bd,bh,aj,V.ref.injEq,V.str.injEq,V.bl.injEq,bx,and_true,true_and,ak,bO,bL,cr,decide_eq_false_iff_not];refine⟨_,_,W.ix,Y,f,c,a,n,k,W,g,?_⟩;rcases q with ⟨h2,q⟩|⟨h2,q⟩
 .refine .inl ⟨_,h2,λb s d=>?_⟩;rw[am (λz=>z Y)];exact q b s d
 .cases e:a[k]? with
  |none=>exact .inr ⟨Y,q⟩
  |some w =>
   refine .inl ⟨w,Y,λb s d=>?_⟩;rw[ao (λz=>h2 (by rw[e,z]))];exact⟨_,_,_,d.ix,F.cl,F.n2,_,Y,jp q s⟩
theorem qN{x g d:L}{a:List Str}{n:Int}{k:Nat}{E:XK}(F:WrF K t)(W:hX t H x g d a n k)(j:k<=a.length)(h:jL a)(q:(∃w,a[k]?=U w/\yj w=ai/\∀c,aO x H c->hX t c x g d a n (k+1)->Q (.str w) c)\/((∀w,a[k]?=U w->yj w=ag)/\ndX t E x H n)) :
  xv K t E (aX Q) (zZZ 2 [.ref x]) H:=by
 simp only[xv,yf,jy,zE,zF,yC,zZZ,zo,zM,zq,zD,zH,Z,ze,zj,zO,Zp,tB,zG,cE,bD,bQ,cf,cp,bu,bd,bq,bh,aj,V.ref.injEq,V.str.injEq,V.bl.injEq,bx,and_true,ak,bX,bZ,bO,bL,cr];refine⟨_,_,W.ix,Y,g,d,a,n,k,W,j,?_⟩;rcases q with ⟨w,h2,h3,q⟩|⟨h2,q⟩
 .refine .inl ⟨w,h2,λc s f=>⟨(h w (cw h2)).1,λi b=>?_⟩⟩;rw[am (by rw[h3];decide)];exact q i (s.trans (sx b)) (f.same b)
 .cases e:a[k]? with
  |none=>exact .inr ⟨Y,q⟩
  |some w =>
   refine .inl ⟨w,Y,λc s f=>⟨(h w (cw e)).1,λi b=>?_⟩⟩;rw[ao (h2 w e)];exact⟨_,_,_,(f.same b).ix,F.cl,F.n2,_,Y,jp q (s.trans (sx b))⟩
theorem qO{x j g:L}{b:List Str}{n:Int}{k:Nat}{E:XK}(F:WrF K t)(s:eG K (.ref t.q04) (.ref t.q04)=U ai)(W:hX t H x j g b n k)(o:b.length<=1000)(m:jL b)(q:(∃c e,xc b k=U (c,e)/\∀d r,aO x H d->hX t d x j g b n e->d r=U (.tup c)->r≠x->Q (.ref r) d)\/(xc b k=ah/\ndX t E x H n)) :
  xw K t E (aX Q) (zZZ 2 [.ref x]) H:=by
 simp only[xw,qu,zE,yU,zbJ,zis,zeG,zZZ,ya,zo,zD,aN,Z,tC,ze,zj,ya,cE,bD,bQ,cf,cp,bu,bd,bq,bh,aj,V.int.injEq,V.ref.injEq,bx,and_true,true_and,and_assoc,ak,bX,bZ,bO,bL];refine⟨_,_,_,W.ix,F.cl,F.n1,_,Y,_,_,_,W.ix,F.cl,F.n3,_,Y,_,Y,b,k,Y,W.hw,o,m,?_⟩;rcases q with ⟨c,e,h2,q⟩|⟨h2,q⟩
 .refine .inl ⟨c,e,h2,λu p r a f i=>?_⟩;have l:p≠x:=zU f (a _ _ W.ix) ();have h:r≠x:=zU i (a _ _ W.ix) ();exact⟨_,tZ.of f,_,Y,_,_,_,a _ _ W.ix,F.cl,F.n3,(by simp),_,tZ.of (by rw[zm l];exact f),_,Y,q _ r (aO.upd (sx a)) ((W.same a).put e) (by rw[zm h];exact i) h⟩
 .refine .inr ⟨h2,λu a=>⟨_,Y,s,?_⟩⟩;exact⟨_,_,_,a _ _ W.ix,F.cl,F.n2,_,Y,jp q (sx a)⟩
theorem Zk{x d c:L}{a:List Str}{n:Int}{k:Nat}{E:XK}(F:WrF K t)(W:hX t H x d c a n k)(e:k<=a.length)(q:(k=a.length/\∀b,ac H b->Q .non b)\/(k<a.length/\ndX t E x H n)) :
  xM K t E (aX Q) (zZZ 1 [.ref x]) H:=by
 simp only[xM,zE,yC,zZZ,zH,aN,Z,ze,zj,zO,zy,tW,YS,ur,xF,cE,bD,bQ,bu,bd,bh,aj,V.int.injEq,V.ref.injEq,V.bl.injEq,bx,and_true,ak,bO,bL,decide_eq_true_eq];refine⟨_,_,_,W.ix,F.cl,F.n3,_,Y,_,_,_,W.ix,F.cl,F.n1,_,Y,a.length,.inl ⟨_,aP.of W.hw,(bi ..).symm⟩,_,Y,?_⟩;rcases q with ⟨h2,q⟩|⟨h2,q⟩
 .rw[am ()];exact q H (ac.refl H)
 .rw[ao ()];exact⟨_,_,_,W.ix,F.cl,F.n2,_,Y,jp q (aO.refl x H)⟩
theorem zgM(h:xc ws k=U (ps,e))(g:jL ws):∃T,ps=pst T/\KK T/\e=k+(pre T).length/\ws.drop k=pre T++ws.drop e/\e<=ws.length/\(pre T).length<=60:=by
 cases hs:yy (ws.drop k) 1 with
 |none=>unfold xc at h;rw[hs] at h;cases h
 |some n =>
  by_cases hn:n<=60
  .obtain⟨T,b,a,f,d⟩:=Ki hs;rw[Xl hs hn b a] at h;split at h
   .rename_i ok;cases h;refine⟨T,Y,⟨b,ok,λw c=>g w ?_⟩,by rw[d],?_,f,()⟩
    .rw[<-a] at c;exact iC (f8 c)
    .rw[<-a,<-List.drop_drop];exact(pJ n _).symm
   .cases h
  .unfold xc at h;rw[hs] at h;have h:(if n<=60 then (match vR ((ws.drop k).take n).reverse [] with|.ok [ps]=>U (ps,k+n)|_=>ah) else ah)=U (ps,e):=h;rw[am hn] at h;cases h
theorem wm{a:List Str}{i:Nat}(h:a[i]?=U w):a.drop i=w::a.drop (i+1):=by
 obtain⟨b,e⟩:=bE.mp h;rw[<-e];exact iJ b
theorem qP(a:List Str)(k:Nat):(∃w,a[k]?=U w/\yj w=ai)\/∀w,a[k]?=U w->yj w=ag:=by
 by_cases h:∃w,a[k]?=U w/\yj w=ai
 .exact .inl h
 .exact .inr λw e=>by
   cases q:yj w with
   |false=>rfl
   |true=>exact absurd ⟨w,e,q⟩ h
theorem K9{a:List Str}{k:Nat}(h:a[k]?=U w):k+1<=a.length:=(bE.mp h).1
theorem vO(a:List Str)(k:Nat)(c:jL a):xc a k=ah\/∃T,xc a k=U (pst T,k+(pre T).length)/\KK T/\a.drop k=pre T++a.drop (k+(pre T).length)/\k+(pre T).length<=a.length:=by
 cases h:xc a k with
 |none=>exact .inl rfl
 |some z =>
  obtain⟨f,e⟩:=z;obtain⟨T,rfl,b,rfl,d,l,_⟩:=zgM h c;exact .inr ⟨T,Y,b,d,l⟩
theorem inV2 :inV (.str w) [.str a,.str b]=ai↔w=a\/w=b:=by
 show ((a==w) || ((b==w) || false))=ai↔_;rw[oz,pI,beq_iff_eq,beq_iff_eq];exact⟨λz=>z.imp Eq.symm Eq.symm,λz=>z.imp Eq.symm Eq.symm⟩
theorem zdG{c:Nat}:∀ {b:List Str} {w:Str},w∈b->w.length<=(cX ⟨#[c]⟩ b).length/\∀d∈w.cps.toList,d∈(cX ⟨#[c]⟩ b).cps.toList
 |[],w,h=>nomatch h
 |[x],w,h=>by
  obtain rfl:=bY.mp h;exact⟨br _,λd a=>a⟩
 |x::y::r,w,h=>by
  have l:(cX ⟨#[c]⟩ (x::y::r)).length=x.length+(1+(cX ⟨#[c]⟩ (y::r)).length):=by rw[wK,xQ,wK,wK];simp;lia
  rcases bJ.mp h with rfl|h
  .exact⟨(),λd a=>by rw[xQ];exact cR _ a⟩
  .have i:=zdG (c:=c) h;exact⟨(),λd a=>by rw[xQ];exact bP _ (bF _ (i.2 d a))⟩
theorem Qa{c:Nat}:∀ {ws:List Str},ws.length<=(cX ⟨#[c]⟩ ws).length+1
 |[]=>bU _
 |[x]=>by simp
 |x::y::r=>by
  have l:(cX ⟨#[c]⟩ (x::y::r)).length=x.length+(1+(cX ⟨#[c]⟩ (y::r)).length):=by rw[wK,xQ,wK,wK];simp;lia
  have i:=Qa (c:=c) (ws:=y::r);simp only[bR] at i ⊢;lia
theorem YR(h:w∈cP x ⟨#[c]⟩):w.length<=x.length/\(∀d∈w.cps.toList,d∈x.cps.toList)/\c ∉ w.cps.toList:=by
 have:=zdG (c:=c) h;rw[lE] at this;exact⟨this.1,this.2,rS _ _ _ h⟩
theorem Jg(x:Str)(c:Nat):(cP x ⟨#[c]⟩).length<=x.length+1:=by
 have:=Qa (c:=c) (ws:=cP x ⟨#[c]⟩);rw[lE] at this;exact this
theorem Qb(f:x.length<=20000)(e:uf x):jL (cP x ⟨#[c]⟩):=λw a =>
 have m:=YR a
 ⟨(),λd b=>e d (m.2.1 d b)⟩
theorem jK(b:ZO hd):cP hd.line vI=hd.words:=Xp hd.w_ne λw a=>(b.bl w a).1
theorem zeW(d:x.length<=20000)(g:uf x)(f:10 ∉ x.cps.toList)(a:(cP x vI).length<=60)(e:cP x vI=hd.words)(c:hd.ok):x=hd.line/\ZO hd:=by
 refine⟨?_,c,?_,?_,?_⟩
 .show x=cX vI hd.words;rw[<-e];exact(lE _ _).symm
 .rw[<-e];exact Qb d g
 .rw[<-e];exact a
 .rw[<-e];exact λw b=>⟨(YR b).2.2,λz=>f ((YR b).2.1 _ z)⟩
theorem Vs{x b:L}(F:RdF K t)(o:H x=U (.ins t.q05 b []))(q:∀f rl bl tl,aO x H f->uv t f x b rl bl tl [] []->f rl=U (.lst [])->H rl=ah->H bl=ah->H tl=ah->Q .non f) :
  v4 K t (aX Q) (zZZ 1 [.ref x]) H:=by
 simp only[v4,yU,zZZ,zo,Z,yr,zj,cE,bD,bQ,bu,bd,bh,aj,V.ref.injEq,ak,bO,bL];refine⟨bU _,λrl d=>?_⟩;have e:x≠rl:=zr o d;refine⟨_,_,_,(by rw[zm e];exact o),F.cl,F.n1,(),bU _,?_⟩;have r:aO x H (upd (upd H rl (.lst [])) x (.ins t.q05 b (yw "rows" (.ref rl) []))):=aO.upd (sx (hU rl d));have h:upd (upd H rl (.lst [])) x (.ins t.q05 b (yw "rows" (.ref rl) [])) x=U (.ins t.q05 b (yw "rows" (.ref rl) [])):=zi;have j:upd (upd H rl (.lst [])) x (.ins t.q05 b (yw "rows" (.ref rl) [])) rl=U (.lst []):=by rw[zm (cK e),zi]
 generalize upd (upd H rl (.lst [])) x (.ins t.q05 b (yw "rows" (.ref rl) []))=H1 at *
 intro bl c;have l:x≠bl:=zr h c;refine⟨_,_,_,(by rw[zm l];exact h),F.cl,F.n2,(by simp[yw]),bU _,?_⟩;have p:aO x H (upd (upd H1 bl (.lst [])) x (.ins t.q05 b (yw "blocks" (.ref bl) (yw "rows" (.ref rl) [])))):=aO.upd (r.trans (sx (hU bl c)));have g:upd (upd H1 bl (.lst [])) x (.ins t.q05 b (yw "blocks" (.ref bl) (yw "rows" (.ref rl) []))) x=U (.ins t.q05 b (yw "blocks" (.ref bl) (yw "rows" (.ref rl) []))):=zi;have i:upd (upd H1 bl (.lst [])) x (.ins t.q05 b (yw "blocks" (.ref bl) (yw "rows" (.ref rl) []))) rl=U (.lst []):=by rw[zm (cK e),zm (zr j c)];exact j
 have m:upd (upd H1 bl (.lst [])) x (.ins t.q05 b (yw "blocks" (.ref bl) (yw "rows" (.ref rl) []))) bl=U (.lst []):=by rw[zm (cK l),zi]
 have k:rl≠bl:=zr j c;generalize upd (upd H1 bl (.lst [])) x (.ins t.q05 b (yw "blocks" (.ref bl) (yw "rows" (.ref rl) [])))=H2 at *
 intro tl a;have n:x≠tl:=zr g a;refine⟨_,_,_,(by rw[zm n];exact g),F.cl,F.n3,(by simp[yw];split <;> simp),q _ rl bl tl (aO.upd (p.trans (sx (hU tl a)))) ⟨zi,?_,?_,k,zr i a,zr m a,Y,bU _⟩ ?_ d (K8 r h c) (K8 p g a)⟩
 .rw[zm (cK l),zm (zr m a)];exact m
 .rw[zm (cK n),zi];rfl
 .rw[zm (cK e),zm (zr i a)];exact i
theorem zb3{c:Type}{b:List c}{a:c}:atI (b++[a]) (-1)=U a:=by
 unfold atI ixN;rw[am (),ao (by simp;lia)];have:(-1+((b++[a]).length:Int)).toNat=b.length:=by simp;lia
 rw[this];simp
theorem Zl{x n g h k:L}{a:List V}{b:List Bool}{f:L}(F:RdF K t)(R:uv t H x n g h k a b)(m:Inn H g a b f)(q:∀j,ac H j->Q (.ref f) j) :
  xL K t (aX Q) (zZZ 1 [.ref x]) H:=by
 simp only[xL,zE,zZZ,qo,ya,zo,zD,zH,aN,tUn,Z,tC,yr,zj,zO,zy,tB,tIf,x6,ya,rU,cE,bD,bQ,bu,bd,bh,aj,V.int.injEq,V.ref.injEq,V.bl.injEq,ak,bO,bL,decide_eq_true_eq,lH];refine⟨_,_,_,R.ix,F.cl,F.n2,_,Y,bU _,λp l=>?_⟩;have d:=hU (o:=HO.lst []) p l;refine⟨h,Y,a,aP.of (d _ _ R.hb),aP.of zi,?_⟩;rcases m with ⟨e,rfl⟩|⟨bs,r,hd,te,la,lb,cs,c,rfl,rfl,hr,e⟩
 .rw[ao e];exact⟨_,_,_,d _ _ R.ix,F.cl,F.n1,_,Y,q _ d⟩
 .rw[am (by simp)];have s:atI ((cs++[c]).map V.bl) (-1)=U (V.bl c):=by rw[cm];exact zb3
  have i:atI (bs++[V.ref r]) (-1)=U (V.ref r):=zb3;refine⟨_,_,_,d _ _ R.ix,F.cl,F.n3,_,Y,_,Y,_,aP.of (d _ _ R.ht),_,s,c,Y,?_⟩;cases c with
  |true =>
   rw[ao rfl] at e ⊢;subst e;exact⟨_,_,_,d _ _ R.ix,F.cl,F.n2,_,Y,_,Y,_,aP.of (d _ _ R.hb),_,i,_,Y,_,tZ.of (d _ _ hr),_,Y,q _ d⟩
  |false =>
   rw[am ()] at e ⊢;subst e;exact⟨_,_,_,d _ _ R.ix,F.cl,F.n2,_,Y,_,Y,_,aP.of (d _ _ R.hb),_,i,_,Y,_,tZ.of (d _ _ hr),_,Y,q _ d⟩
theorem XQ{x:L}{v:V}{n:Int}{k f bl d:L}{a:List V}{b:List Bool}{inn:L}{c:List V}(F:RdF K t)(R:uv t H x k f bl d a b)(y:Inn H f a b inn)(p:H inn=U (.lst c))(B:c.length<=1000)(w:inn≠bl)(u:inn≠d){E:XK}(r:zlM t H inn bl d c a b v n Q E) :
  wR K t E (aX Q) (zZZ 3 [.ref x,v,.int n]) H:=by
 simp only[wR,yN,zE,zF,yC,zZZ,zP,YG,zo,zT,zH,aN,Z,tC,ze,zj,zO,zy,tW,ud,tyV,YS,uk,xF,qa,cE,bD,bQ,bu,bd,bq,bh,aj,V.int.injEq,V.ref.injEq,V.bl.injEq,bx,and_true,true_and,ak,bO,bL,decide_eq_true_eq];refine⟨_,_,_,R.ix,F.cl,F.n2,_,Y,a.length,.inl ⟨_,aP.of R.hb,Y⟩,?_⟩;have s:=R.l5;by_cases h7:a.length<5
 case neg=>rw[ao ()];exact jI (r.2 ()) (ac.refl H)
 have q:=r.1 h7;rw[am ()];refine⟨_,_,R.ix,Y,k,f,bl,d,a,b,R,inn,y,λj e=>⟨.inl ⟨_,aP.of (e _ _ p)⟩,c,e _ _ p,dy (by lia:c.length<=1000) (),?_⟩⟩;have g:x≠inn:=zU R.ix p ();have l:x≠bl:=zU R.ix R.hb ();have i:upd j inn (HO.lst (c++[v])) bl=U (.lst a):=by rw[zm (cK w)];exact e _ _ R.hb
 have h:upd (upd j inn (HO.lst (c++[v]))) bl (HO.lst (a++[v])) d=U (.lst (b.map V.bl)):=by rw[zm (cK R.n3),zm (cK u)];exact e _ _ R.ht
 have A:=R.l5;have z:=R.le;have o:upd j inn (HO.lst (c++[v])) x=U (.ins t.q05 k [("rows",.ref f),("blocks",.ref bl),("turned",.ref d)]):=by rw[zm g];exact e _ _ R.ix
 have m:upd (upd j inn (HO.lst (c++[v]))) bl (HO.lst (a++[v])) x=U (.ins t.q05 k [("rows",.ref f),("blocks",.ref bl),("turned",.ref d)]):=by rw[zm l,zm g];exact e _ _ R.ix
 refine⟨_,_,_,o,F.cl,F.n2,_,Y,.inl ⟨_,aP.of i⟩,bl,Y,a,i,dy (by lia:a.length<=1000) (),_,_,_,m,F.cl,F.n3,_,Y,.inl ⟨_,aP.of h⟩,d,Y,_,h,dy (by rw[bi];lia:(b.map V.bl).length<=1000) (),?_⟩;rw[show b.map V.bl++[V.bl ag]=(b++[ag]).map V.bl by simp];exact q j e
theorem WG{x:L}{n:Int}{m l bl f:L}{h:List V}{d:List Bool}{E:XK}(F:RdF K t)(k:uv t H x m l bl f h d)(r:zlO t H bl f h d n Q E) :
  vo K t E (aX Q) (zZZ 2 [.ref x,.int n]) H:=by
 simp only[vo,zE,yC,zZZ,qo,wM,zlj,zo,zT,zH,aN,Z,yr,ze,zj,zO,zy,QE,tyV,cE,bD,bQ,bu,bd,bq,bh,aj,V.ref.injEq,V.bl.injEq,bx,and_true,true_and,ak,bO,bL,decide_eq_true_eq];refine⟨_,_,_,k.ix,F.cl,F.n2,_,Y,bU _,λp s=>?_⟩;have a:=hU (o:=HO.lst []) p s;refine⟨bl,Y,_,aP.of (a _ _ k.hb),aP.of zi,?_⟩;rcases r with ⟨blocks,b,turned,c,rfl,rfl,q⟩|⟨e,q⟩
 case inr=>rw[ao e];exact jI q a
 have R:=k;rw[am (by simp)];refine⟨_,_,_,a _ _ R.ix,F.cl,F.n2,_,Y,.inl ⟨_,aP.of (a _ _ R.hb)⟩,_,Y,_,a _ _ R.hb,_,WE,?_⟩;rw[kS];have i:x≠bl:=zU R.ix R.hb ();have g:upd (upd H p (HO.lst [])) bl (HO.lst blocks) f=U (.lst (turned.map V.bl++[V.bl c])):=by
  rw[zm (cK R.n3)];have:=a _ _ R.ht;rw[cm] at this;exact this
 have j:upd (upd H p (HO.lst [])) bl (HO.lst blocks) x=U (.ins t.q05 m [("rows",.ref l),("blocks",.ref bl),("turned",.ref f)]):=by rw[zm i];exact a _ _ R.ix
 refine⟨_,_,_,j,F.cl,F.n3,_,Y,.inl ⟨_,aP.of g⟩,f,Y,_,g,_,WE,?_⟩;rw[kS];exact q _ a
theorem zko{F:L->Prop}(h:ue F H v hd):∃r d w,v=.ref r/\H r=U (.tup d)/\atI d 0=U (.str w)/\(w="else"↔hd=.els)/\(w="end"↔hd=.nd)/\(w="if"↔∃T,hd=.iff T):=by
 cases hd with
 |take sh T sl =>
  obtain⟨r,b,e,a,c⟩:=h;exact⟨r,_,"take",e,a,Y,⟨λz=>absurd z (),λz=>nomatch z⟩,⟨λz=>absurd z (),λz=>nomatch z⟩,⟨λz=>absurd z (),λ⟨_,z⟩=>nomatch z⟩⟩
 |give sh T Bm =>
  obtain⟨r,b,f,e,a,c⟩:=h;exact⟨r,_,"give",e,a,Y,⟨λz=>absurd z (),λz=>nomatch z⟩,⟨λz=>absurd z (),λz=>nomatch z⟩,⟨λz=>absurd z (),λ⟨_,z⟩=>nomatch z⟩⟩
 |lt sl T =>
  obtain⟨r,b,e,a,c⟩:=h;exact⟨r,_,"let",e,a,Y,⟨λz=>absurd z (),λz=>nomatch z⟩,⟨λz=>absurd z (),λz=>nomatch z⟩,⟨λz=>absurd z (),λ⟨_,z⟩=>nomatch z⟩⟩
 |say T =>
  obtain⟨r,b,e,a,c⟩:=h;exact⟨r,_,"say",e,a,Y,⟨λz=>absurd z (),λz=>nomatch z⟩,⟨λz=>absurd z (),λz=>nomatch z⟩,⟨λz=>absurd z (),λ⟨_,z⟩=>nomatch z⟩⟩
 |off T =>
  obtain⟨r,b,e,a,c⟩:=h;exact⟨r,_,"off",e,a,Y,⟨λz=>absurd z (),λz=>nomatch z⟩,⟨λz=>absurd z (),λz=>nomatch z⟩,⟨λz=>absurd z (),λ⟨_,z⟩=>nomatch z⟩⟩
 |iff T =>
  obtain⟨r,b,i,g,e,a,c⟩:=h;exact⟨r,_,"if",e,a,Y,⟨λz=>absurd z (),λz=>nomatch z⟩,⟨λz=>absurd z (),λz=>nomatch z⟩,⟨λ_=>⟨T,Y⟩,λ_=>rfl⟩⟩
 |els =>
  obtain⟨r,e,a⟩:=h;exact⟨r,_,"else",e,a,Y,⟨λ_=>rfl,λ_=>rfl⟩,⟨λz=>absurd z (),λz=>nomatch z⟩,⟨λz=>absurd z (),λ⟨_,z⟩=>nomatch z⟩⟩
 |nd =>
  obtain⟨r,e,a⟩:=h;exact⟨r,_,"end",e,a,Y,⟨λz=>absurd z (),λz=>nomatch z⟩,⟨λ_=>rfl,λ_=>rfl⟩,⟨λz=>absurd z (),λ⟨_,z⟩=>nomatch z⟩⟩
theorem zgN{r:V}{f h v g i k:L}{n m:Option V}{a d:List V}{b:List Bool}{E:XK}(F:RdF K t)(R:uv t H h v g i k a b)(u:H f=U (.lst d))(q:a=[]->∀j,ac H j->Q (.ref g) j)(l:a≠[]->ndE t E H d.length) :
  Vq K t E (aX Q) [U r,U (.ref f),U (.ref h),n,m] H:=by
 simp only[Vq,zE,Xq,yC,zo,zD,zH,aN,Z,yr,ze,zj,zO,zy,tW,YS,xF,bQ,bd,bq,bh,aj,V.ref.injEq,V.bl.injEq,bx,and_true,ak,cr,decide_eq_false_iff_not];refine⟨_,_,_,R.ix,F.cl,F.n2,_,Y,bU _,λp s=>?_⟩;have c:=hU (o:=HO.lst []) p s;refine⟨i,Y,_,aP.of (c _ _ R.hb),aP.of zi,?_⟩;by_cases e:a=[]
 .rw[am (by simp[e])];exact⟨_,_,_,c _ _ R.ix,F.cl,F.n1,_,Y,q e _ c⟩
 .rw[ao (by simp[e])];exact⟨d.length,.inl ⟨_,aP.of (c _ _ u),Y⟩,jI (l e) c⟩
theorem uv.same{H a:Hp}(R:uv t H x dx rl bl tl b c)(s:ac H a):uv t a x dx rl bl tl b c:=⟨s _ _ R.ix,s _ _ R.hb,s _ _ R.ht,R.n1,R.n2,R.n3,R.le,R.l5⟩
def TS(H c:Hp):Prop:=∀b a,H b=U (.tup a)->c b=U (.tup a)
theorem zmJ{H d:Hp}(p:hd.plain)(s:TS H d)(h:ue Kl H v hd):ue Kl d v hd:=by
 cases hd with
 |take sh T' sl =>
  obtain⟨r,a,e,c,b⟩:=h;exact⟨r,a,e,s _ _ c,s _ _ b⟩
 |give sh T' Bm =>
  obtain⟨r,a,f,e,c,b,g⟩:=h;exact⟨r,a,f,e,s _ _ c,s _ _ b,s _ _ g⟩
 |lt sl T' =>
  obtain⟨r,a,e,c,b⟩:=h;exact⟨r,a,e,s _ _ c,s _ _ b⟩
 |say T' =>
  obtain⟨r,a,e,c,b⟩:=h;exact⟨r,a,e,s _ _ c,s _ _ b⟩
 |off T' =>
  obtain⟨r,a,e,c,b⟩:=h;exact⟨r,a,e,s _ _ c,s _ _ b⟩
 |iff T'=>exact p.elim
 |els=>exact p.elim
 |nd=>exact p.elim
mutual
theorem TrAt.to{F G:L->Prop}{H H':Hp}(g:∀b c,F b->H b=U (.lst c)->G b)(s:TS H H')(l:∀b c,F b->H b=U (.lst c)->H' b=U (.lst c)):∀(x:Tr) {v:V},x.ok->TrAt F H v x->TrAt G H' v x
 |.row h,v,k,a=>by
  unfold Tr.ok at k;unfold TrAt at a ⊢;exact zmJ k.2 s a
 |.iff T a b,v,k,h=>by
  unfold Tr.ok at k;unfold TrAt at h ⊢;obtain⟨r,n,p,o,m,c,e,f,d,y,w,j,u,i,q⟩:=h;exact⟨r,n,p,o,m,c,e,g _ _ f j,g _ _ d i,s _ _ y,s _ _ w,l _ _ f j,aT.to g s l a k.2.1 u,l _ _ d i,aT.to g s l b k.2.2 q⟩
theorem aT.to{F G:L->Prop}{H H':Hp}(g:∀b a,F b->H b=U (.lst a)->G b)(s:TS H H')(l:∀b a,F b->H b=U (.lst a)->H' b=U (.lst a)):∀(x:tY) {c:List V},x.ok->aT F H c x->aT G H' c x
 |.nil,c,k,h=>by
  unfold aT at h ⊢;exact h
 |.cons x r,c,k,h=>by
  unfold tY.ok at k;unfold aT at h ⊢;obtain⟨v,d,e,i,f⟩:=h;exact⟨v,d,e,TrAt.to g s l x k.1 i,aT.to g s l r k.2 f⟩
end
theorem aT.same{F:L->Prop}{H a:Hp}(s:ac H a)(k:x.ok)(h:aT F H vs x):aT F a vs x:=aT.to (λ_ _ f _=>f) (λ_ _ e=>s _ _ e) (λ_ _ _ e=>s _ _ e) x k h
theorem aT.any{F:L->Prop}{H:Hp}(k:x.ok)(h:aT F H vs x):aT Kl H vs x:=aT.to (λ_ _ _ _=>trivial) (λ_ _ e=>e) (λ_ _ _ e=>e) x k h
theorem aT.snoc{F:L->Prop}{H:Hp}{v:V}{x:Tr}(c:TrAt F H v x):∀(r:tY) {a:List V},aT F H a r->aT F H (a++[v]) (r.snoc x)
 |.nil,a,h=>by
  unfold aT at h;subst h;show aT F H [v] (.cons x .nil);unfold aT;exact⟨v,[],Y,c,by unfold aT;rfl⟩
 |.cons y r,a,h=>by
  unfold aT at h;obtain⟨u,b,rfl,e,d⟩:=h;show aT F H (u::(b++[v])) (.cons y (r.snoc x));unfold aT;exact⟨u,b++[v],Y,e,aT.snoc c r d⟩
theorem aT.len{F:L->Prop}{H:Hp}:∀(r:tY) {a:List V},aT F H a r->a.length=r.len
 |.nil,a,h=>by
  unfold aT at h;subst h;rfl
 |.cons x r,a,h=>by
  unfold aT at h;obtain⟨u,c,rfl,d,b⟩:=h;rw[bR,aT.len r b];rfl
theorem Qc{x:Tr}(a:x.ok):∀(r:tY),r.ok->(r.snoc x).ok
 |.nil,_=>by show (tY.cons x .nil).ok;unfold tY.ok;exact⟨a,by unfold tY.ok;trivial⟩
 |.cons y r,h=>by
  unfold tY.ok at h;show (tY.cons y (r.snoc x)).ok;unfold tY.ok;exact⟨h.1,Qc a r h.2⟩
theorem Vt(x:Tr):∀(r:tY),(r.snoc x).len=r.len+1
 |.nil=>rfl
 |.cons y r=>by show (r.snoc x).len+1=_;rw[Vt x r];rfl
theorem XR(x:Tr):∀(r:tY),(r.snoc x).deep=max r.deep x.deep
 |.nil=>by show (tY.cons x .nil).deep=_;simp[tY.deep]
 |.cons y r=>by
  show (tY.cons y (r.snoc x)).deep=_;rw[tY.deep,tY.deep,XR x r];exact(Nat.max_assoc _ _ _).symm
def LvAt(F:L->Prop)(H:Hp)(c:L)(D:tY)(a:List V):Prop:=∃b,H c=U (.lst (b++a))/\aT F H b D
def uD(F:L->Prop)(H:Hp)(c:L):List Fm->L->tY->List V->List V->List L->Prop
 |[],inn,D,tail,bs,sp=>bs=[]/\inn=c/\sp=[c]/\LvAt F H c D tail
 |f::fs,inn,D,tail,bs,sp=>LvAt F H inn D tail/\∃r g e d h b a,bs=.ref r::b/\sp=e::d::a/\H r=U (.tup [.str "if",.ref g,.ref e,.ref d])/\H g=U (.tup (pst f.T)) /\
  ((f.c=ai/\inn=d/\LvAt F H e f.a [])\/(f.c=ag/\inn=e/\H d=U (.lst [])))/\uD F H c fs h f.up [.ref r] b a
def gdZ(n:Nat):tY->List Fm->Prop
 |D,[]=>D.ok/\D.len<=n/\D.deep<=5
 |D,f::fs=>(D.ok/\D.len<=n/\D.deep+(fs.length+1)<=5)/\(f.a.ok/\f.a.len<=n/\f.a.deep+(fs.length+1)<=5)/\ZO (.iff f.T)/\gdZ n f.up fs
theorem gdZ.mono{n m:Nat}(h:n<=m):∀(a:List Fm) {D:tY},gdZ n D a->gdZ m D a
 |[],D,g=>⟨g.1,cg g.2.1 h,g.2.2⟩
 |f::a,D,g=>⟨⟨g.1.1,cg g.1.2.1 h,g.1.2.2⟩,⟨g.2.1.1,cg g.2.1.2.1 h,g.2.1.2.2⟩,g.2.2.1,gdZ.mono h a g.2.2.2⟩
theorem gdZ.top{n:Nat}:∀(a:List Fm) {D:tY},gdZ n D a->D.ok/\D.len<=n/\D.deep+a.length<=5
 |[],D,g=>g
 |f::a,D,g=>g.1
theorem gdZ.put(fs:List Fm)(g:gdZ n D fs)(a:D'.ok)(b:D'.len<=n)(c:D'.deep+fs.length<=5):gdZ n D' fs:=by
 cases fs with
 |nil=>exact⟨a,b,c⟩
 |cons f fs=>exact⟨⟨a,b,c⟩,g.2⟩
theorem zb4(g:gdZ n D fs)(l:ZO h)(e:stp D fs h=U (D',fs')):gdZ (n+1) D' fs':=by
 have b:=gdZ.mono (eM n) fs g;have i:=gdZ.top fs g;have a:h.plain->stp D fs h=U (D.snoc (.row h),fs)->gdZ (n+1) D' fs':=λp o=>by
  rw[o] at e;cases e;exact gdZ.put fs b (Qc (by unfold Tr.ok;exact⟨l,p⟩) D i.1) (by rw[Vt];lia) (by rw[XR,Tr.deep];lia)
 cases h with
 |take sh T sl=>exact a trivial rfl
 |give sh T Bm=>exact a trivial rfl
 |lt sl T=>exact a trivial rfl
 |say T=>exact a trivial rfl
 |off T=>exact a trivial rfl
 |iff T =>
  have e:(if fs.length<5 then U (tY.nil,(⟨T,ag,.nil,D⟩:Fm)::fs) else ah)=U (D',fs'):=e;split at e
  .cases e;exact⟨⟨by unfold tY.ok;trivial,bU _,by rw[tY.deep];lia⟩,⟨by unfold tY.ok;trivial,bU _,by rw[tY.deep];lia⟩,l,b⟩
  .cases e
 |els =>
  cases fs with
  |nil=>cases e
  |cons f fs =>
   have e:(if f.c=ag then U (tY.nil,(⟨f.T,ai,D,f.up⟩:Fm)::fs) else ah)=U (D',fs'):=e;split at e
   .cases e;exact⟨⟨by unfold tY.ok;trivial,bU _,by rw[tY.deep];have:=i.2.2;simp at this;lia⟩,b.1,b.2.2⟩
   .cases e
 |nd =>
  cases fs with
  |nil=>cases e
  |cons f fs =>
   have e:U (f.up.snoc (.iff f.T (if f.c=ai then f.a else D) (if f.c=ai then D else .nil)),fs)=U (D',fs'):=e;obtain⟨rfl,rfl⟩:f.up.snoc (.iff f.T (if f.c=ai then f.a else D) (if f.c=ai then D else .nil))=D'/\fs=fs':=by
    have:=cb e;exact⟨congrArg Prod.fst this,congrArg rX this⟩
   obtain⟨⟨j,u,w⟩,⟨m,s,v⟩,r,k⟩:=g;have c:=gdZ.top fs k;have d:(Tr.iff f.T (if f.c=ai then f.a else D) (if f.c=ai then D else .nil)).ok:=by
    unfold Tr.ok;refine⟨r,?_,?_⟩
    .split
     .exact m
     .exact j
    .split
     .exact j
     .unfold tY.ok;trivial
   have q:(Tr.iff f.T (if f.c=ai then f.a else D) (if f.c=ai then D else .nil)).deep+fs.length<=5:=by
    rw[Tr.deep];split
    .lia
    .rw[tY.deep];lia
   exact gdZ.put fs (gdZ.mono (eM n) fs k) (Qc d _ c.1) (by rw[Vt];lia) (by rw[XR];lia)
theorem LvAt.to{F G:L->Prop}{H H':Hp}(k:D.ok)(g:∀b a,F b->H b=U (.lst a)->G b)(s:TS H H')(l:∀b a,F b->H b=U (.lst a)->H' b=U (.lst a))(p:∀a,H Bn=U (.lst a)->H' Bn=U (.lst a))(h:LvAt F H Bn D tail):LvAt G H' Bn D tail:=by
 obtain⟨c,e,d⟩:=h;exact⟨c,p _ e,aT.to g s l D k d⟩
theorem uD.to{F G:L->Prop}{H H':Hp}{rl:L}(g:∀b c,F b->H b=U (.lst c)->G b)(s:TS H H')(l:∀b c,F b->H b=U (.lst c)->H' b=U (.lst c)):∀(i:List Fm) {n:Nat} {inn:L} {D:tY} {tail j:List V} {d:List L},gdZ n D i->(∀a∈d,∀c,H a=U (.lst c)->H' a=U (.lst c))->uD F H rl i inn D tail j d->uD G H' rl i inn D tail j d
 |[],n,inn,D,tail,j,d,k,p,h=>by
  obtain⟨w,v,u,h⟩:=h;subst u;exact⟨w,v,Y,h.to k.1 g s l (p rl (by simp))⟩
 |f::i,n,inn,D,tail,j,d,k,p,h=>by
  obtain⟨E,r,A,q,o,z,x,m,w,v,u,J,y,I⟩:=h;subst v;have B:∀c,H inn=U (.lst c)->H' inn=U (.lst c):=by
   rcases y with ⟨_,e,_⟩|⟨_,e,_⟩ <;> rw[e]
   .exact p o (by simp)
   .exact p q (by simp)
  refine⟨E.to k.1.1 g s l B,r,A,q,o,z,x,m,w,Y,s _ _ u,s _ _ J,?_,uD.to g s l i k.2.2.2 (λa C=>p a (by simp[C])) I⟩;rcases y with ⟨c1,c2,c3⟩|⟨c1,c2,c3⟩
  .exact .inl ⟨c1,c2,c3.to k.2.1.1 g s l (p q (by simp))⟩
  .exact .inr ⟨c1,c2,p o (by simp) _ c3⟩
theorem uD.inn{F:L->Prop}{H:Hp}{k:L}:∀(b:List Fm) {inn:L} {D:tY} {tail c:List V} {a:List L},uD F H k b inn D tail c a->inn∈a/\LvAt F H inn D tail/\c.length=b.length
 |[],inn,D,tail,c,a,h=>by
  obtain⟨g,d,i,h⟩:=h;subst g d i;exact⟨by simp,h,Y⟩
 |f::b,inn,D,tail,c,a,h=>by
  obtain⟨l,r,q,u,s,p,o,j,g,d,i,v,n,m⟩:=h;have:=uD.inn b m;refine⟨?_,l,by rw[g,bR,this.2.2];rfl⟩;rw[d];rcases n with ⟨_,e,_⟩|⟨_,e,_⟩ <;> rw[e] <;> simp
theorem uD.tail{F G:L->Prop}{H i:Hp}(g:∀b c,F b->H b=U (.lst c)->G b)(s:TS H i)(l:∀b c,F b->H b=U (.lst c)->i b=U (.lst c)){d:List Fm}{n:Nat}{inn:L}{D:tY}{M:List V}{sp:List L}{y:List V}{v:V}(k:gdZ n D d)(A:sp.Nodup)(p:∀a∈sp,a≠inn->∀c,H a=U (.lst c)->i a=U (.lst c))(E:H inn=U (.lst y))(hy:i inn=U (.lst (y++[v])))(h:uD F H rl d inn D [] M sp):uD G i rl d inn D [v] M sp:=by
 have C:∀ {D:tY},D.ok->LvAt F H inn D []->LvAt G i inn D [v]:=λkd h=>by
  obtain⟨c,m,h2⟩:=h;rw[bu] at m;rw[m] at E;cases E;exact⟨_,hy,aT.to g s l _ kd h2⟩
 cases d with
 |nil =>
  obtain⟨w,u,q,h⟩:=h;subst u;exact⟨w,Y,q,C k.1 h⟩
 |cons f d =>
  obtain⟨m,r,O,o,lb,N,x,sp',w,u,q,e4,J,e6⟩:=h;subst u;rw[cF,cF] at A;obtain⟨B,n2,n3⟩:=A;have j:o≠lb:=λz=>B (by rw[z];simp);have T:inn ∉ sp':=by
   rcases J with ⟨_,e,_⟩|⟨_,e,_⟩ <;> rw[e]
   .exact n2
   .exact λz=>B (by simp[z])
  refine⟨C k.1.1 m,r,O,o,lb,N,x,sp',w,Y,s _ _ q,s _ _ e4,?_,uD.to g s l d k.2.2.2 (λa I=>p a (by simp[I]) (λz=>T (z ▸ I))) e6⟩;rcases J with ⟨c1,c2,c3⟩|⟨c1,c2,c3⟩
  .exact .inl ⟨c1,c2,c3.to k.2.1.1 g s l (p o (by simp) (by rw[c2];exact j))⟩
  .exact .inr ⟨c1,c2,p lb (by simp) (by rw[c2];exact cK j) _ c3⟩
theorem uD.snoc{F:L->Prop}{H:Hp}{a:List Fm}{inn:L}{D:tY}{e:List V}{sp:List L}{v:V}{x:Tr}(j:TrAt F H v x)(h:uD F H rl a inn D [v] e sp):uD F H rl a inn (D.snoc x) [] e sp:=by
 have d:∀ {g:L},LvAt F H g D [v]->LvAt F H g (D.snoc x) []:=λh=>by
  obtain⟨i,c,b⟩:=h;exact⟨i++[v],by rw[bu];exact c,aT.snoc j D b⟩
 cases a with
 |nil =>
  obtain⟨m,l,k,h⟩:=h;exact⟨m,l,k,d h⟩
 |cons f a =>
  obtain⟨c,b⟩:=h;exact⟨d c,b⟩
theorem WH{x:L}{n:Int}{m j i f:L}{g:List V}{d:List Bool}{E:XK}(F:RdF K t)(h:uv t H x m j i f g d)(k:zlN t H f g d n Q E) :
  vn K t E (aX Q) (zZZ 2 [.ref x,.int n]) H:=by
 simp only[vn,zE,zig,yC,zZZ,qo,zo,zH,aN,tUn,Z,tC,yr,ze,zj,zO,tOr,zy,tB,x6,rU,cE,bD,bQ,bu,bd,bq,bh,aj,V.int.injEq,V.ref.injEq,V.bl.injEq,bx,and_true,and_assoc,ak,bO,bL,decide_eq_true_eq,lH,if_true];refine⟨_,_,_,h.ix,F.cl,F.n2,_,Y,bU _,λp l=>?_⟩;have c:=hU (o:=HO.lst []) p l;refine⟨i,Y,_,aP.of (c _ _ h.hb),aP.of zi,?_⟩;rcases k with ⟨blocks,b,turned,rfl,rfl,q⟩|⟨e|⟨blocks,b,turned,rfl,rfl⟩,q⟩
 case inr.inl=>rw[ao e];exact jI q c
 case inr.inr =>
  rw[am (by simp)];have a:=c _ _ h.ht;rw[cm] at a;refine⟨_,_,_,c _ _ h.ix,F.cl,F.n3,_,Y,f,Y,_,aP.of a,_,zb3,_,Y,?_⟩;rw[ao rfl];exact jI q c
 have R:=h;rw[am (by simp)];have a:=c _ _ R.ht;rw[cm] at a;refine⟨_,_,_,c _ _ R.ix,F.cl,F.n3,_,Y,f,Y,_,aP.of a,_,zb3,_,Y,?_⟩;rw[am ()];refine⟨_,_,_,c _ _ R.ix,F.cl,F.n3,_,Y,f,Y,_,a,turned.length,?_,(),(),?_⟩
 .unfold ixN;rw[am (),ao (by simp;lia)];simp;lia
 .have e:(turned.map V.bl++[ag].map V.bl).set turned.length (V.bl ai)=(turned++[ai]).map V.bl:=by
   rw[cm,List.set_append,am (by simp)];simp
  rw[e];exact q _ c
theorem XS{H:Hp}(h:H u=U (.lst xs)):TS H (upd H u (.lst ys)):=λb a e=>by
 rw[zm (zU e h ())];exact e
theorem TS.trans{H c H2:Hp}(a:TS H c)(b:TS c H2):TS H H2:=λx d e=>b _ _ (a _ _ e)
def Fz(c:List L)(d a:L)(b:L):Prop:=b ∉ c/\b≠d/\b≠a
structure RZ(t:aV)(H0 H:Hp)(rd dx rl bl tl:L)(i:Nat)(D:tY)(fs:List Fm)(inn:L)(bs:List V)(sp:List L):Prop where
 sm:ac H0 H
 gd:gdZ i D fs
 ra:uv t H rd dx rl bl tl bs.reverse (fs.map Fm.c).reverse
 za:uD (Fz sp bl tl) H rl fs inn D [] bs sp
 nd:sp.Nodup
 sp:∀a∈sp,H0 a=ah/\a≠bl/\a≠tl
 f2:H0 bl=ah
 f3:H0 tl=ah
theorem RZ.same{H0 H d:Hp}{i:Nat}{D:tY}{fs:List Fm}{bs:List V}{sp:List L}(b:RZ t H0 H rd dx rl bl tl i D fs inn bs sp)(s:ac H d):RZ t H0 d rd dx rl bl tl i D fs inn bs sp:=
 ⟨b.sm.trans s,b.gd,b.ra.same s,uD.to (λ_ _ f _=>f) (λ_ _ e=>s _ _ e) (λ_ _ _ e=>s _ _ e) fs b.gd (λ_ _ _ e=>s _ _ e) b.za,b.nd,b.sp,b.f2,b.f3⟩
theorem RZ.inn{H0 H:Hp}{i:Nat}{D:tY}{fs:List Fm}{inn:L}{bs:List V}{sp:List L}(d:RZ t H0 H rd dx rl bl tl i D fs inn bs sp):Inn H rl bs.reverse (fs.map Fm.c).reverse inn/\inn∈sp/\∃e,H inn=U (.lst e)/\e.length<=i:=by
 obtain⟨n,⟨h,g,m⟩,v⟩:=uD.inn fs d.za;rw[bu] at g;refine⟨?_,n,h,g,by rw[aT.len D m];exact(gdZ.top fs d.gd).2.1⟩;have za:=d.za;cases fs with
 |nil=>exact .inl ⟨by rw[za.1];rfl,za.2.1⟩
 |cons f fs =>
  obtain⟨_,r,u,l,k,s,b,j,q,y,p,x,o,w⟩:=za;refine .inr ⟨b.reverse,r,_,_,l,k,(fs.map Fm.c).reverse,f.c,by rw[q,dL],by rw[bN,dL],p,?_⟩;rcases o with ⟨c1,c2,_⟩|⟨c1,c2,_⟩
  .rw[c2,ao c1]
  .rw[c2,am (by rw[c1];decide)]
theorem yn{H:Hp}(n:b≠u)(e:H b=U (.lst ys)):upd H u o b=U (.lst ys):=by rw[zm n];exact e
theorem RZ.plain{H0 H:Hp}{i:Nat}{D o:tY}{fs j:List Fm}{inn:L}{bs:List V}{sp:List L}{k:List V}{v:V}{h:Hd}(d:RZ t H0 H rd dx rl bl tl i D fs inn bs sp)(m:H inn=U (.lst k))(p:h.plain)(u:ZO h)(r:ue Kl H v h)(e:stp D fs h=U (o,j)):RZ t H0 (upd H inn (.lst (k++[v]))) rd dx rl bl tl (i+1) o j inn bs sp:=by
 have q:=d.inn.2.1;have l:=d.sp inn q;have s:o=D.snoc (.row h)/\j=fs:=by
  cases h <;> first|exact p.elim|(cases e;exact⟨Y,Y⟩)
 have g:=zb4 d.gd u e;obtain⟨rfl,rfl⟩:=s;have T:=XS (ys:=k++[v]) m;refine⟨xa d.sm l.1,g,⟨?_,?_,?_,d.ra.n1,d.ra.n2,d.ra.n3,d.ra.le,d.ra.l5⟩,?_,d.nd,d.sp,d.f2,d.f3⟩
 .rw[zm (zU d.ra.ix m ())];exact d.ra.ix
 .exact yn (cK l.2.1) d.ra.hb
 .exact yn (cK l.2.2) d.ra.ht
 .refine uD.snoc (x:=.row h) (by unfold TrAt;exact zmJ p T r) ?_;exact uD.tail (λ_ _ f _=>f) T (λb ys f e=>yn (λz=>f.1 (z ▸ q)) e) d.gd d.nd (λa _ n ys e=>yn n e) m zi d.za
theorem uD.alive{F:L->Prop}{H:Hp}{n:L}:∀(d:List Fm) {inn:L} {D:tY} {tail g:List V} {b:List L},uD F H n d inn D tail g b->∀a∈b,∃o,H a=U o
 |[],inn,D,tail,g,b,h=>by
  obtain⟨s,k,j,l,c,p⟩:=h;subst j;exact λa ha=>by rw[bY.mp ha];exact⟨_,c⟩
 |f::d,inn,D,tail,g,b,h=>by
  obtain⟨⟨l,c,p⟩,r,w,y,x,v,u,m,s,k,j,z,i,q⟩:=h;subst k;intro a ha;simp only[bJ] at ha;rcases ha with rfl|rfl|ha
  .rcases i with ⟨_,_,⟨ys,h3,_⟩⟩|⟨_,e,_⟩
   .exact⟨_,h3⟩
   .rw[<-e];exact⟨_,c⟩
  .rcases i with ⟨_,e,_⟩|⟨_,_,h3⟩
   .rw[<-e];exact⟨_,c⟩
   .exact⟨_,h3⟩
  .exact uD.alive d q a ha
theorem RZ.alive{H0 H:Hp}{i:Nat}{D:tY}{fs:List Fm}{inn:L}{bs:List V}{sp:List L}(d:RZ t H0 H rd dx rl bl tl i D fs inn bs sp){a:L}(b:a∈sp):∃o,H a=U o:=uD.alive fs d.za a b
theorem RZ.iff{H0 y H:Hp}{i:Nat}{D D':tY}{fs m:List Fm}{inn:L}{bs:List V}{sp:List L}{p:List V}{v:V}{T:Tw}(j:RZ t H0 y rd dx rl bl tl i D fs inn bs sp)(s:ac y H)(I:H inn=U (.lst p))(Bn:ZO (.iff T))(hv:ue (λb=>y b=ah) H v (.iff T))(e:stp D fs (.iff T)=U (D',m)):∃u an sp',RZ t H0 (upd (upd (upd H inn (.lst (p++[v]))) bl (.lst (bs.reverse++[v]))) tl (.lst (((fs.map Fm.c).reverse++[ag]).map V.bl))) rd dx rl bl tl (i+1) D' m u an sp':=by
 have d:=j.same s;have A:=d.inn.2.1;have q:=d.sp inn A;have g:=zb4 d.gd Bn e;obtain⟨r,te,k,l,rfl,hr,J,O,N,x,w,B⟩:=hv;have e:(if fs.length<5 then U (tY.nil,(⟨T,ag,.nil,D⟩:Fm)::fs) else ah)=U (D',m):=e;split at e
 .rename_i l5;cases e;have aa:upd H inn (.lst (p++[V.ref r])) bl=U (.lst bs.reverse):=yn (cK q.2.1) d.ra.hb;have M:upd (upd H inn (.lst (p++[V.ref r]))) bl (.lst (bs.reverse++[V.ref r])) tl=U (.lst ((fs.map Fm.c).reverse.map V.bl)):=yn (cK d.ra.n3) (yn (cK q.2.2) d.ra.ht);have T1:=XS (ys:=p++[V.ref r]) I;have T2:=XS (ys:=bs.reverse++[V.ref r]) aa;have T3:=XS (ys:=((fs.map Fm.c).reverse++[ag]).map V.bl) M;have TT:=T1.trans (T2.trans T3);have al:∀ {a:L},a∈sp->∃o,y a=U o:=λ{a} ha=>j.alive ha;have na:k ∉ sp:=λz=>by obtain⟨o,h⟩:=al z;rw[x] at h;cases h
  have nb:l ∉ sp:=λz=>by obtain⟨o,h⟩:=al z;rw[w] at h;cases h
  have E:k≠bl/\k≠tl:=⟨Yw j.ra.hb x,Yw j.ra.ht x⟩;have C:l≠bl/\l≠tl:=⟨Yw j.ra.hb w,Yw j.ra.ht w⟩;have ia:k≠inn:=λz=>na (z ▸ A);have ib:l≠inn:=λz=>nb (z ▸ A);have ix:upd (upd (upd H inn (.lst (p++[V.ref r]))) bl (.lst (bs.reverse++[V.ref r]))) tl (.lst (((fs.map Fm.c).reverse++[ag]).map V.bl)) rd=H rd:=by
   rw[zm (zU d.ra.ix d.ra.ht ()),zm (zU d.ra.ix d.ra.hb ()),zm (zU d.ra.ix I ())]
  have le:=(uD.inn fs d.za).2.2;refine⟨k,.ref r::bs,k::l::sp,xa (xa (xa d.sm q.1) d.f2) d.f3,g,⟨?_,?_,?_,d.ra.n1,d.ra.n2,d.ra.n3,?_,?_⟩,?_,?_,?_,d.f2,d.f3⟩
  .rw[ix];exact d.ra.ix
  .rw[zm d.ra.n3,zi,dL]
  .rw[zi,bN,dL]
  .simp[le]
  .simp;lia
  .refine⟨⟨[],?_,by unfold aT;rfl⟩,r,te,k,l,inn,bs,sp,Y,Y,TT _ _ hr,TT _ _ J,.inr ⟨Y,Y,?_⟩,?_⟩
   .exact yn E.2 (yn E.1 (yn ia O))
   .exact yn C.2 (yn C.1 (yn ib N))
   .have Z0:=uD.to (F:=Fz sp bl tl) (G:=Fz (k::l::sp) bl tl) (H:=y) (H':=H) (rl:=rl) (λb ys f e=>⟨by
      simp only[bJ,not_or];exact⟨zr e x,zr e w,f.1⟩,f.2⟩) (λ_ _ e=>s _ _ e) (λ_ _ _ e=>s _ _ e) fs j.gd (λ_ _ _ e=>s _ _ e) j.za
    refine uD.tail (λ_ _ f _=>f) TT (λb ys f e=>?_) d.gd d.nd (λa ha n ys e=>?_) I ?_ Z0
    .have:b≠inn:=λz=>f.1 (by simp[z,A]);exact yn f.2.2 (yn f.2.1 (yn this e))
    .exact yn (d.sp a ha).2.2 (yn (d.sp a ha).2.1 (yn n e))
    .exact yn q.2.2 (yn q.2.1 zi)
  .rw[cF,cF];exact⟨by simp[B,na],nb,d.nd⟩
  .intro a ha;simp only[bJ] at ha;rcases ha with rfl|rfl|ha
   .exact⟨yk j.sm x,E⟩
   .exact⟨yk j.sm w,C⟩
   .exact d.sp a ha
 .cases e
theorem RZ.els{H0 H:Hp}{i:Nat}{D u:tY}{fs j:List Fm}{inn:L}{bs:List V}{sp:List L}(d:RZ t H0 H rd dx rl bl tl i D fs inn bs sp)(I:ZO .els)(e:stp D fs .els=U (u,j)):∃s b w,bs.reverse=s++[b]/\(fs.map Fm.c).reverse=w++[ag]/\∃k,RZ t H0 (upd H tl (.lst ((w++[ai]).map V.bl))) rd dx rl bl tl (i+1) u j k bs sp:=by
 have g:=zb4 d.gd I e;cases fs with
 |nil=>cases e
 |cons f fs =>
  have e:(if f.c=ag then U (tY.nil,(⟨f.T,ai,D,f.up⟩:Fm)::fs) else ah)=U (u,j):=e;split at e
  .rename_i fc;cases e;have za:=d.za;obtain⟨z,r,y,J,p,x,m,n,v,G,E,C,B,A⟩:=za;have T:=XS (ys:=((fs.map Fm.c).reverse++[ai]).map V.bl) d.ra.ht;have o:∀a∈sp,∀ys,H a=U (.lst ys)->upd H tl (.lst (((fs.map Fm.c).reverse++[ai]).map V.bl)) a=U (.lst ys):=λa q ys h=>yn (d.sp a q).2.2 h;have l:∀b ys,Fz sp bl tl b->H b=U (.lst ys)->upd H tl (.lst (((fs.map Fm.c).reverse++[ai]).map V.bl)) b=U (.lst ys):=λb ys f h=>yn f.2.2 h;refine⟨m.reverse,.ref r,(fs.map Fm.c).reverse,by rw[v,dL],by rw[bN,dL,fc],p,xa d.sm d.f3,g,⟨?_,?_,?_,d.ra.n1,d.ra.n2,d.ra.n3,?_,d.ra.l5⟩,?_,d.nd,d.sp,d.f2,d.f3⟩
   .rw[zm (zU d.ra.ix d.ra.ht ())];exact d.ra.ix
   .exact yn d.ra.n3 d.ra.hb
   .rw[zi,bN,dL]
   .have:=d.ra.le;simpa using this
   .rcases B with ⟨c1,_⟩|⟨c1,c2,c3⟩
    .rw[fc] at c1;cases c1
    .subst G;subst c2;refine⟨⟨[],?_,by unfold aT;rfl⟩,r,y,inn,p,x,m,n,v,Y,T _ _ E,T _ _ C,.inl ⟨Y,Y,?_⟩,?_⟩
     .exact o p (by simp) _ c3
     .exact z.to d.gd.1.1 (λ_ _ f _=>f) T l (o inn (by simp))
     .exact uD.to (λ_ _ f _=>f) T l fs d.gd.2.2.2 (λa q=>o a (by simp[q])) A
  .cases e
theorem RZ.nd_{H0 H:Hp}{i:Nat}{D u:tY}{fs fs':List Fm}{inn:L}{bs:List V}{sp:List L}(d:RZ t H0 H rd dx rl bl tl i D fs inn bs sp)(Bn:ZO .nd)(e:stp D fs .nd=U (u,fs')):∃q b N c,bs.reverse=q++[b]/\(fs.map Fm.c).reverse=N++[c]/\∃o j sp',RZ t H0 (upd (upd H bl (.lst q)) tl (.lst (N.map V.bl))) rd dx rl bl tl (i+1) u fs' o j sp':=by
 have g:=zb4 d.gd Bn e;cases fs with
 |nil=>cases e
 |cons f fs =>
  have e:U (f.up.snoc (.iff f.T (if f.c=ai then f.a else D) (if f.c=ai then D else .nil)),fs)=U (u,fs'):=e;obtain⟨rfl,rfl⟩:f.up.snoc (.iff f.T (if f.c=ai then f.a else D) (if f.c=ai then D else .nil))=u/\fs=fs':=by
   have:=cb e;exact⟨congrArg Prod.fst this,congrArg rX this⟩
  have za:=d.za;obtain⟨B,r,y,la,lb,O,j,sp',M,e2,J,I,e5,G⟩:=za;have w:upd H bl (.lst j.reverse) tl=U (.lst (((f::fs).map Fm.c).reverse.map V.bl)):=yn (cK d.ra.n3) d.ra.ht;have T:=(XS (ys:=j.reverse) d.ra.hb).trans (XS (ys:=(fs.map Fm.c).reverse.map V.bl) w);have n:∀a∈sp,∀ys,H a=U (.lst ys)->upd (upd H bl (.lst j.reverse)) tl (.lst ((fs.map Fm.c).reverse.map V.bl)) a=U (.lst ys):=λa m ys h=>yn (d.sp a m).2.2 (yn (d.sp a m).2.1 h);have l:∀b ys,Fz sp bl tl b->H b=U (.lst ys)->upd (upd H bl (.lst j.reverse)) tl (.lst ((fs.map Fm.c).reverse.map V.bl)) b=U (.lst ys):=λb ys f h=>yn f.2.2 (yn f.2.1 h);have nd:=d.nd;have k:=d.sp;subst e2;rw[cF,cF] at nd;obtain⟨n1,n2,n3⟩:=nd;have s:∀b ys,Fz (la::lb::sp') bl tl b->H b=U (.lst ys)->Fz sp' bl tl b:=λb _ f _=>⟨λz=>f.1 (by simp[z]),f.2⟩;have E:Fz sp' bl tl la:=⟨λz=>n1 (by simp[z]),(k la (by simp)).2⟩;have C:Fz sp' bl tl lb:=⟨n2,(k lb (by simp)).2⟩;have le:=(uD.inn fs G).2.2;have A:=d.ra.l5;refine⟨j.reverse,.ref r,(fs.map Fm.c).reverse,f.c,by rw[M,dL],by rw[bN,dL],O,j,sp',xa (xa d.sm d.f2) d.f3,g,⟨?_,?_,?_,d.ra.n1,d.ra.n2,d.ra.n3,?_,?_⟩,?_,n3,λa m=>k a (by simp[m]),d.f2,d.f3⟩
  .rw[zm (zU d.ra.ix d.ra.ht ()),zm (zU d.ra.ix d.ra.hb ())];exact d.ra.ix
  .exact yn d.ra.n3 zi
  .exact zi
  .simp[le]
  .rw[M] at A;simp at A ⊢;lia
  .refine uD.snoc ?_ (uD.to s T l fs d.gd.2.2.2 (λa m=>n a (by simp[m])) G);unfold TrAt;rcases e5 with ⟨c1,c2,ys,c3,c4⟩|⟨c1,c2,c3⟩
   .subst c2;obtain⟨v,p,x⟩:=B;rw[bu] at p c3;rw[ao c1,ao c1];exact⟨r,y,la,inn,ys,v,Y,E,C,T _ _ J,T _ _ I,n la (by simp) _ c3,aT.to s T l _ d.gd.2.1.1 c4,n inn (by simp) _ p,aT.to s T l _ d.gd.1.1 x⟩
   .subst c2;obtain⟨v,p,x⟩:=B;rw[bu] at p;rw[am (by rw[c1];decide),am (by rw[c1];decide)];exact⟨r,y,inn,lb,v,[],Y,E,C,T _ _ J,T _ _ I,n inn (by simp) _ p,aT.to s T l _ d.gd.1.1 x,n lb (by simp) _ c3,by unfold aT;rfl⟩
theorem WI(e:hdS x=U h):x=h.line/\ZO h:=by
 unfold hdS at e;split at e
 .rename_i z;rw[<-cb e];exact z.choose_spec
 .cases e
theorem zdH(e:hdS x=ah):zfL x:=λa h b=>by
 unfold hdS at e;split at e
 .cases e
 .rename_i z;exact z ⟨a,h,b⟩
def rdI(t:aV)(m:V)(f b n j p g:L)(c:List Str)(q:Hp)(i:Nat)(e:St)(r:Hp):Prop:=(∃l k,e=[U m,U (.ref f),U (.ref b),l,k])/\∃D d a o h,uq .nil [] 0 c=uq D d i (c.drop i)/\RZ t q r b n j p g i D d a o h
def zk6(H c:Hp):Prop:=∀b a,H b=U (.tup a)->c b=U (.tup a)
theorem ac.ts{H H':Hp}(s:ac H H'):zk6 H H':=λb a e=>s _ _ e
theorem zi5{J:It}{f:Hp}{Q:Hp->Prop}{B:V->St->Hp->(V->St->Hp->Prop)->(St->Hp->Prop)->Prop}(n:Nat)(hn:n<=1000000)(C:St->Prop)(R:Nat->List V->Hp->Prop)(E:∀i a H d,zk6 H d->R i a H->R i a d)(hC:C τ₀)(h0:R 0 [] f) (go:∀i H,ac f H->i<n->J.go i H) (p:∀H,ac f H->J.stop n H) (hD:f D=ah) (M:∀i x g a H d,C g->ac f H->i<n->R i a H->J.yld i H x d->B x g d (λv c k=>C c/\R (i+1) (a++[v]) k/\ac H k) (λc k=>C c/\R (i+1) a k/\ac H k)) (T:∀a H,a.length<=n->R n a H->ac f H->H D=U (.lst a)->Q H) :
  ∃W:Nat->Nat->List V->St->Hp->Prop,(∃m,W 0 m [] τ₀ (upd f D (.lst [])))/\∀i m a g H,W i m a g H->H D=U (.lst a) /\
  ((J.stop i H/\Q H)\/(J.go i H/\a.length<Bb/\∃N:V->St->Hp->Prop,
   (∀v c d,N v c d->d D=U (.lst a)/\∃r,r<m/\W (i+1) r (a++[v]) c (upd d D (.lst (a++[v]))))/\∃I:St->Hp->Prop,(∀c d,I c d->∃r,r<m/\W (i+1) r a c d) /\
   ∀x d,J.yld i H x d->B x g d N I)):=by
 have j:∀ {H:Hp} {o:HO},ac f H->ac f (upd H D o):=λ{H o} h b u e=>by
  rw[zm (zr e hD)];exact h b u e
 refine⟨λi m a g H=>m=n-i/\i<=n/\a.length<=i/\R i a H/\ac f H/\H D=U (.lst a)/\C g,⟨n,by simp,bU _,br _,E _ _ _ _ (ac.ts (j (ac.refl _))) h0,j (ac.refl _),zi,hC⟩,?_⟩;rintro i m a g H ⟨rfl,hi,O,G,l,s,hc⟩;refine⟨s,?_⟩;by_cases hlt:i<n
 .refine .inr ⟨go i H l hlt,dy (by lia:a.length<=1000000) (),_,?_,_,?_,λx d y=>M i x g a H d hc l hlt G y⟩
  .rintro v c k ⟨z,w,q⟩;have A:=q _ _ s;exact⟨A,n-(i+1),(),Y,hlt,by simp;lia,E _ _ _ _ (λb zs e=>by rw[zm (zU e A (by simp))];exact e) w,j (l.trans q),zi,z⟩
  .rintro c k ⟨z,w,q⟩;exact⟨n-(i+1),(),Y,hlt,(),w,l.trans q,q _ _ s,z⟩
 .obtain rfl:i=n:=by lia
  exact .inl ⟨p H l,T a H O G l s⟩
theorem zdI{b:Type}(f:b->V)(a:List b)(h:k<=a.length):Xg (a.map f) (U (k:Int)) ah=(a.drop k).map f:=by
 unfold Xg;have d:HT.sIx (a.map f).length 0 (U (k:Int))=k:=by
  show (if (k:Int)<0 then ((k:Int)+((a.map f).length:Int)).toNat else min (k:Int).toNat (a.map f).length)=k;rw[am (),cA,bi];lia
 have c:HT.sIx (a.map f).length (a.map f).length ah=a.length:=by
  show (a.map f).length=_;rw[bi]
 rw[d,c,<-rY,dM (by rw[bi,fw];lia)]
def b32:Str:=⟨#[32]⟩
theorem zdJ{w:Int}(h:wB w):inW w=ai:=Bj h
theorem zlR{w:Int}(h:rB w):wB w:=by obtain⟨a,b⟩:=h;constructor <;> lia
theorem Qe{w:Int}(h:inW w=ai):Wd (zY w):=by
 refine⟨(Xk h).2.2,uf.num w,λz=>?_⟩;have a:∀m,32 ∉ dg m:=λm b=>by have:=ZA m 32 b;lia
 rcases Int.le_total 0 w with c|c
 .rw[show w=((w.toNat:Nat):Int) by lia,y9] at z;exact a _ z
 .rcases rW w.natAbs with e|e
  .have:w=((0:Nat):Int):=by lia
   rw[this,y9] at z;exact a _ z
  .rw[show w=-((w.natAbs:Nat):Int) by lia,vC e] at z;rcases bJ.mp z with z|z
   .cases z
   .exact a _ z
theorem Yy(h:((bb x).cps.toList.all λc=>decide (c<128)&&decide (c≠32))=ai)(l:(bb x).length<=40):Wd (bb x):=by
 have a:=fA.mp h;refine⟨l,λc b=>?_,λz=>?_⟩
 .have:=a c b;simp only[bS,decide_eq_true_eq] at this;exact this.1
 .have:=a 32 z;simp at this
theorem zlS:(bb " ")=b32:=by lia
theorem zb5:(bb " ").length=1:=by lia
theorem zi6:∀ {ws:List Str},(∀w∈ws,Wd w)->(ws.map (·.length)).sum<=40*ws.length
 |[],_=>br _
 |w::ws,h=>by
  have a:=zi6 (ws:=ws) λx c=>h x (bF _ c);have b:=(h w bK).1;simp only[bN,gn,bR];lia
theorem zdK(h:∀w∈ws,Wd w):zc0 (bb " ") ws<=41*ws.length:=by
 have:=JI (bb " ") ws 0;unfold zc0;rw[this,zb5];have:=zi6 h;lia
theorem zkp(h:∀w∈ws,Wd w):(jt (bb " ") ws).length<=41*ws.length:=cg (YM _ _) (zdK h)
theorem zdL:∀ {ws:List Str},(∀w∈ws,Wd w)->uf (jt (bb " ") ws)
 |[],_=>by rw[Wf];intro c d;revert d;decide +revert
 |[w],h=>by rw[Wf];exact(h w bK).2.1
 |w::x::ws,h=>by
  have a:=zdL (ws:=x::ws) λy b=>h y (bF _ b);rw[Wf] at a ⊢;rw[zaT];exact((h w bK).2.1.app (by unfold uf;lia)).app a
theorem zb6(z:Str):0<=zkl z/\zkl z<1009:=⟨fL _ (),fV _ ()⟩
theorem zkq:((dH 1009).all λn=>decide (zfS (zY (n:Nat)) 4=zms (bb "0") (4-((zY (n:Nat)).length:Int))++zY (n:Nat))&&(decide ((zfS (zY (n:Nat)) 4).length=4)&&((zfS (zY (n:Nat)) 4).cps.toList.all λc=>decide (c<128)&&decide (c≠32))))=ai:=by lia
theorem zkr{i:Int}(h:0<=i)(g:i<1009):zfS (zY i) 4=zms (bb "0") (4-((zY i).length:Int))++zY i/\(zfS (zY i) 4).length=4/\uf (zfS (zY i) 4)/\32 ∉ (zfS (zY i) 4).cps.toList:=by
 have:=fA.mp zkq i.toNat (iD.mpr ());rw[show ((i.toNat:Nat):Int)=i by lia] at this;simp only[bS,decide_eq_true_eq] at this;obtain⟨a,b,c⟩:=this;have e:=fA.mp c;refine⟨a,b,λd f=>?_,λz=>?_⟩
 .have:=e d f;simp only[bS,decide_eq_true_eq] at this;exact this.1
 .have:=e 32 z;simp at this
theorem zi7(z:Str):(KL z).length=4/\uf (KL z)/\32 ∉ (KL z).cps.toList:=(zkr (zb6 z).1 (zb6 z).2).2
theorem zfN:∀(a:List Nat) (i:Nat),(ckL i a).length=a.length
 |[],_=>rfl
 |_::a,i=>by show (ckL (i+1) a).length+1=_;rw[zfN a];rfl
theorem zfO:∀(a:List Nat) (i j:Nat) (c:Nat),a[j]?=U c->(ckL i a)[j]?=U ((c:Int)*(1+((i+j:Nat):Int)%1008))
 |[],_,j,c,h=>by simp at h
 |d::a,i,0,c,h=>by
  simp only[bd,bh] at h;subst h;rfl
 |d::a,i,j+1,c,h=>by
  have:=zfO a (i+1) j c (by simpa using h);rw[show i+1+j=i+(j+1) by lia] at this;exact this
theorem zks{z:Str}(h:uf z):z.cps.all (· < 128)=ai:=by
 rw[<-Array.all_toList,fA];exact λc a=>Bj (h c a)
theorem zbe{i:Int}(b:0<=i)(a:i<1000000):-big<i/\i<big:=by unfold big;constructor <;> lia
theorem zb7{z:Str}(m:uf z)(y:z.length<=20000)(q:∀b,ac H b->Q (.str (KL z)) b) :
  Z7 K t (aX Q) (zZZ 2 [.str z]) H:=by
 simp only[Z7,zii,Xt,ziH,zmE,zZZ,zo,zM,zq,JQ,wI,JP,zD,aN,Z,tC,ze,zj,tW,ud,tyV,wd,Zi,Jp,rI,ur,zgd,cE,bD,bQ,cf,cp,bu,bd,bq,bh,aj,V.int.injEq,V.ref.injEq,V.str.injEq,bx,and_true,true_and,ak,bX,bZ,bO,bL,if_true];refine⟨zks m,λD p=>?_⟩;refine kG (J:=zlL z) z.cps.size (by show z.length<=_;lia) (λf=>∃j g,f=[j,g]) (λi v=>∃c,z.cps[i]?=U c/\v=.int ((c:Int)*(1+(i:Int)%1008))) ⟨_,_,Y⟩ (λi H _ h=>h) (λH _=>br _) p ?_ ?_
 .rintro i v f A b ⟨j,g,rfl⟩ l x ⟨T,c,rfl,o,rfl,a⟩;have s:c<128:=m c (by rw[<-cQ] at a;exact cw a);refine⟨_,Y,_,tZ.of zi,Y,_,_,Y,_,_,Y,Y,_,Y,_,Y,Y,_,Y,_,Y,(),⟨zbe (Int.natCast_nonneg _) (by show ((c:Nat):Int)<_;lia),zbe () ()⟩,⟨_,_,Y⟩,⟨c,a,Y⟩,hU T o⟩
 .intro d b u n l k;have e:d=(ckL 0 z.cps.toList).map V.int:=by
   apply dY;intro i;rcases fe i d.length with z1|z1
   .obtain⟨c,a,e⟩:=n i d[i] (bj z1);rw[<-cQ] at a;rw[bj z1,e,bW,zfO _ 0 i c a,fU];rfl
   .rw[ck z1,ck (by rw[bi,zfN,dC];lia)]
  rw[e] at k;have r:=zb6 z;refine⟨_,aP.of k,(),?_,4,Y,(),q b l⟩;exact zb1 (w:=zkl z) (Bj ⟨(),()⟩)
theorem zlT{H:Hp}(h:H p=ah):∃a,a=upd H p o/\ac H a/\a p=U o:=⟨_,Y,hU p h,zi⟩
theorem OcAt.same{H c:Hp}(h:OcAt H v oc)(s:ac H c):OcAt c v oc:=by
 cases oc with
 |done sa=>obtain⟨o,y,e,a,b⟩:=h;exact⟨o,y,e,s _ _ a,s _ _ b⟩
 |off w=>obtain⟨o,e,a⟩:=h;exact⟨o,e,s _ _ a⟩
theorem zdM{a:L}{b:List Str}(f:H a=U (.lst (b.map V.str)))(d:∀w∈b,Wd w)(i:b.length<=400)(q:∀c,ac H c->Q (.str (za8 b)) c) :
  XL K t (aX Q) (zZZ 2 [.ref a]) H:=by
 simp only[XL,vK,zZZ,wG,zo,zM,zq,zD,aN,Z,tC,ze,zj,ud,tyV,zG,J9,cE,bD,bQ,cf,cp,bu,bd,bq,bh,aj,V.ref.injEq,V.str.injEq,bx,and_true,true_and,ak,bX,bZ,bO,bL];have h:=zdK d;have g:=zkp d;have e:=(zi7 (jt (bb " ") b)).1;refine⟨b,aP.of f,zR (),zR (by rw[zb5];lia),zdL d,(),λc s=>⟨zR (by rw[jR,zb5,e];lia),q c s⟩⟩
theorem zkt{ws:List Str}(b:ys.length=ws.length)(h:∀(i:Nat) (v:V),ys[i]?=U v->∃w,ws[i]?=U w/\v=.str w):ys=ws.map V.str:=by
 apply dY;intro i;rcases fe i ys.length with z|z
 .obtain⟨w,a,e⟩:=h i ys[i] (bj z);rw[bj z,e,bW,a];rfl
 .rw[ck z,ck (by rw[bi];lia)]
theorem Q2{w:Int}(e:inW w=ai)(q:∀d,ac H d->Q (.int w) d) :
  qG K t (aX Q) (zZZ 2 [.str (zY w)]) H:=by
 simp only[qG,vH,zZZ,zD,Z,ze,zj,zG,cE,bD,bQ,cf,cp,bu,bd,bh,aj,V.str.injEq,bx,and_true,bO,bL];obtain⟨a,b,c⟩:=Xk e;refine⟨(),uf.num w,λd s=>?_⟩;rw[ao a,b];exact q d s
theorem zdN{w:Int}(d:rB w)(q:∀c,ac H c->Q (.int w) c) :
  XG K t (aX Q) (zZZ 2 [.str (zY w)]) H:=by
 simp only[XG,wO,zZZ,zo,zM,zq,zD,zH,xt,aN,Z,tC,ze,zj,zO,tOr,zy,zG,rI,ur,cE,bD,bQ,cf,cp,bu,bd,bq,bh,aj,V.int.injEq,V.str.injEq,V.bl.injEq,bx,and_true,ak,bX,bZ,bO,bL,decide_eq_true_eq,m6,oH,if_true];obtain⟨a,b⟩:=d;refine⟨w,Y,zdJ (zlR ⟨a,b⟩),λc s=>?_⟩;rw[am ()];refine⟨zdA () (),?_⟩;rw[am ()];exact q c s
theorem zlU{b:Type}(f:b->V)(a:List b)(h:k<=a.length):Xg (a.map f) ah (U (k:Int))=(a.take k).map f:=by
 unfold Xg;have d:HT.sIx (a.map f).length 0 ah=0:=rfl;have c:HT.sIx (a.map f).length (a.map f).length (U (k:Int))=k:=by
  show (if (k:Int)<0 then ((k:Int)+((a.map f).length:Int)).toNat else min (k:Int).toNat (a.map f).length)=k;rw[am (),cA,bi];lia
 rw[d,c,gC,oJ];rfl
theorem zdO{b:Str}(i:uf b)(h:b.length<=20000)(q:∀d,ac H d->Q (.str b) d) :
  XH K t (aX Q) (zZZ 2 [.str (b++bb " " ++ KL b)]) H:=by
 simp only[XH,vK,vT,zZZ,ya,zo,zM,zq,zD,zH,xt,aN,Z,tC,ze,zj,zO,zy,ud,tyV,zG,ya,uF,qa,cE,bD,bQ,cf,cp,bu,bd,bq,bh,aj,V.int.injEq,V.ref.injEq,V.str.injEq,V.bl.injEq,bx,and_true,true_and,ak,bX,bZ,bO,bL,cr,decide_eq_false_iff_not];obtain⟨m,p,k⟩:=zi7 b;rw[zlS];have f:b32.length=1:=rfl;refine⟨Y,by rw[jR,jR,f,m];lia,λl g=>?_⟩;obtain⟨r,j,e,a⟩:=zlT (o:=.tup (rpL (b++b32++KL b) b32)) g;rw[<-j];rw[show rpL (b++b32++KL b) b32=[.str b,.str b32,.str (KL b)] from ziL k] at a;refine⟨_,tZ.of a,_,Y,_,tZ.of a,_,Y,b,Y,i,h,λn c=>⟨Y,?_⟩⟩;rw[am (λz=>z Y)];exact⟨_,tZ.of (c _ _ a),_,Y,q n (e.trans c)⟩
theorem yP(h:n<1000000):n<Bb:=cq h ()
theorem yv{e:St}{i:Nat}{x C d:L}{b:List (Str×V)}{f:Str}{R:V->Prop}(h:H x=U (.ins C d b))(c:uu K C)(n:aK K C f)(j:e[i]?=U (U (.ref x)))(g:b.lookup f=U v)(q:R v):∃y,e[i]?=U (U y)/\∃a C d b v,y=.ref a/\H a=U (.ins C d b)/\uu K C/\aK K C f/\b.lookup f=U v/\R v:=⟨_,j,x,C,d,b,v,Y,h,c,n,g,q⟩
theorem yE{d:St}{i:Nat}{x C c:L}{b:List (Str×V)}{R:V->Prop}(f:H x=U (.ins C c b))(g:d[i]?=U (U (.ref x)))(e:b.lookup m=ah)(q:R (.ref x)):∃y,d[i]?=U (U y)/\∃a c b,y=.ref a/\H a=U (.ins C c b)/\b.lookup m=ah/\R y:=⟨_,g,x,c,b,Y,f,e,q⟩
theorem xU{P R:Prop}(h:b=ag)(r:R):if b=ai then P else R:=by rw[am (by rw[h];decide)];exact r
theorem Yz{P R:Prop}(h:b=ai)(p:P):if b=ai then P else R:=by rw[ao h];exact p
theorem zmK(c:σ[i]?=U (U v))(a:YT K H v tv)(k:dG K tv (.type T)=U b)(q:Q (.bl b) H):tW (zbv K) (ze (Z i) (ze (tC (.ty T)) zj)) σ H Q:=⟨_,c,v,.ty T,tv,b,Y,a,⟨T,Y,k⟩,q⟩
theorem zi8{Q:Bool->Hp->Prop}(c:σ[i]?=U (U v))(a:YT K H v tv)(k:dG K tv (.type T)=U b)(q:Q b H):tB (tW (zbv K) (ze (Z i) (ze (tC (.ty T)) zj))) σ H Q:=zmK c a k ⟨b,Y,q⟩
theorem rnF{P:Str->Option ae}(T:Txt K P t):RnF K t:=⟨T.q0c,T.q3v,T.q3u,T.q40,T.q3z,T.q3w,T.q3x,T.q3y⟩
theorem dkF{P:Str->Option ae}(T:Txt K P t):uE K t:=⟨T.q0i,T.q0m,T.q0w,T.q36,T.q3b,T.q35,T.q33,T.q3a,T.q37,T.q39,T.q38,T.q34,T.q3l,T.q3k,T.q3n,T.q3m,T.q3i,T.q3h,T.q3j,T.q3g⟩
theorem hsF{P:Str->Option ae}(T:Txt K P t):HsF K t:=⟨T.q0j,T.q3d,T.q3f,T.q3e,T.q3c⟩
def TSm(H c:Hp):Prop:=∀b a,H b=U (.tup a)->c b=U (.tup a)
theorem TSm.of{H H':Hp}(s:ac H H'):TSm H H':=λ_ _ e=>s _ _ e
theorem ul.ts{H a:Hp}{n:Int}(h:ul H v n)(s:TSm H a):ul a v n:=by
 obtain⟨r,b,e,d,c⟩:=h;exact⟨r,b,e,s _ _ d,s _ _ c⟩
theorem qQ{H a:Hp}{ns:List Int}(h:Paired (ul H) xs ns)(s:TSm H a):Paired (ul a) xs ns:=Paired.mapP h λ_ _ z=>z.ts s
theorem Vu{H:Hp}(h:H b=U o)(n:∀a,o≠.tup a):TSm H (upd H b o'):=λc a e=>by rw[zm (λz=>by rw[z,h] at e;exact n a (cb e))];exact e
theorem Qf{H:Hp}(c:L)(u:HO)(e:H c=U u):∃u',upd H b o c=U u':=by
 by_cases z:c=b
 .rw[z];exact⟨_,zi⟩
 .rw[zm z];exact⟨u,e⟩
theorem uA{a b:Hp}(e:upd a p o=b)(c:a p=ah):ac a b/\b p=U o:=⟨e ▸ hU p c,e ▸ zi⟩
structure PO(H0:Hp)(x w:L)(ox:HO)(H:Hp)(lb:L->Nat)(E:List (Nat×L×HO)):Prop where
 hx:H x=U ox
 lx:lb x=1
 ob:∀e∈E,1<e.1/\H e.2.1=U e.2.2/\lb e.2.1=e.1
 ow:∀b,lb b≠0->∃o,H b=U o
 kp:aO x H0 H
 fr:∀b,lb b≠0->b=x\/b=w\/H0 b=ah
section
variable {H0 H':Hp}{x w c:L}{ox o:HO}{lb:L->Nat}{E:List (Nat×L×HO)}{n:Nat}{N:L->Prop}
theorem PO.put(h:PO H0 x w ox H lb E)(o:HO):PO H0 x w o (upd H x o) lb E:=by
 refine⟨zi,h.lx,λe d=>?_,λb z=>?_,λb u z e=>by rw[zm z];exact h.kp b u z e,h.fr⟩
 .obtain⟨g,f,a⟩:=h.ob e d;exact⟨g,by rw[zm (λy=>by rw[y,h.lx] at a;lia)];exact f,a⟩
 .obtain⟨u,e⟩:=h.ow b z;exact Qf b u e
theorem PO.same(h:PO H0 x w ox H lb E)(s:ac H H'):PO H0 x w ox H' lb E:=⟨s _ _ h.hx,h.lx,λe a=>let ⟨h1,h2,h3⟩:=h.ob e a;⟨h1,s _ _ h2,h3⟩,λb z=>let ⟨o,e⟩:=h.ow b z;⟨o,s _ _ e⟩,λb o z e=>s _ _ (h.kp b o z e),h.fr⟩
theorem PO.l0(h:PO H0 x w ox H lb E)(a:H c=ah):lb c=0/\H0 c=ah:=by
 have d:c≠x:=λz=>by rw[z,h.hx] at a;cases a
 refine⟨iK (λz=>by obtain⟨o,e⟩:=h.ow c z;rw[a] at e;cases e),?_⟩;cases e:H0 c with
 |none=>rfl
 |some u=>have:=h.kp c u d e;rw[a] at this;cases this
open Classical in
theorem PO.lab(h:PO H0 x w ox H lb E)(n:Nat)(i:1<n)(f:lb c=0/\H0 c=ah)(d:H c=U o):∃a,PO H0 x w ox H a ((n,c,o)::E)/\a c=n/\∀b,b≠c->a b=lb b:=by
 have g:∀b,lb b≠0->b≠c:=λb z y=>z (by rw[y];exact f.1);refine⟨λb=>if b=c then n else lb b,⟨h.hx,(am (g x (by rw[h.lx];decide))).trans h.lx,λe he=>?_,λb z=>?_,h.kp,λb z=>?_⟩,ao Y,λb z=>am z⟩
 .rcases bJ.mp he with rfl|he
  .exact⟨i,d,ao Y⟩
  .obtain⟨l,k,j⟩:=h.ob e he;exact⟨l,k,(am (g _ ())).trans j⟩
 .by_cases y:b=c
  .rw[y];exact⟨o,d⟩
  .exact h.ow b (λw=>z ((am y).trans w))
 .by_cases y:b=c
  .exact .inr (.inr (by rw[y];exact f.2))
  .exact h.fr b (λw=>z ((am y).trans w))
theorem PO.new(h:PO H0 x w ox H lb E)(n:Nat)(f:1<n)(d:H c=ah):∃a,PO H0 x w ox (upd H c o) a ((n,c,o)::E) :=
 let ⟨a,h',_⟩:=(h.same (hU c d (o:=o))).lab n f (h.l0 d) zi;⟨a,h'⟩
open Classical in
theorem PO.init(k:Nat)(h:H0 x=U o)(a:∃u,H0 w=U u):∃lb,PO H0 x w o H0 lb []/\(w≠x->lb w=k)/\∀b,b≠x->b≠w->lb b=0:=by
 refine⟨λb=>if b=x then 1 else if b=w then k else 0,⟨h,ao Y,(λe d=>nomatch d),λb z=>?_,λb u _ e=>e,λb z=>?_⟩,λz=>(am z).trans (ao Y),λb z y=>(am z).trans (am y)⟩
 .by_cases y:b=x
  .rw[y];exact⟨_,h⟩
  .by_cases v:b=w
   .rw[v];exact a
   .rw[am y,am v] at z;exact absurd Y z
 .by_cases y:b=x
  .exact .inl y
  .by_cases v:b=w
   .exact .inr (.inl v)
   .rw[am y,am v] at z;exact absurd Y z
section
variable {C dx:L}{fs:List (Str×V)}{fl:Str}{y:V}{σ:St}{D:Zn}{k:Nat}
theorem PO.st(P:PO H0 x w (.ins C dx fs) H lb E)(h:σ[0]?=U (U (.ref x)))(c:uu K C)(n:aK K C fl)(g:fs.length<1000)(q:∀H',PO H0 x w (.ins C dx (yw fl y fs)) H' lb E->D.nx σ H'):Z 0 σ H λf d=>∃a C dx fs,f=.ref a/\d a=U (.ins C dx fs)/\uu K C/\aK K C fl/\fs.length<1000/\D.nx σ (upd d a (.ins C dx (yw fl y fs))):=⟨_,h,x,C,dx,fs,Y,P.hx,c,n,g,q _ (P.put _)⟩
theorem PO.sv(P:PO H0 x w (.ins C dx fs) H lb E)(f:σ[0]?=U (U (.ref x)))(d:σ[k]?=U (U y))(c:uu K C)(n:aK K C fl)(a:fs.length<1000)(q:∀H',PO H0 x w (.ins C dx (yw fl y fs)) H' lb E->D.nx σ H'):yU K (Z 0) (Z k) fl D σ H:=⟨_,d,P.st f c n a q⟩
theorem PO.so(o:HO)(m:Nat)(h:1<m)(P:PO H0 x w (.ins C dx fs) H lb E)(l:σ[0]?=U (U (.ref x)))(c:uu K C)(n:aK K C fl)(j:fs.length<1000)(q:∀c H' d,PO H0 x w (.ins C dx (yw fl (.ref c) fs)) H' d ((m,c,o)::E)->D.nx σ H')(p:L)(i:H p=ah):Z 0 σ (upd H p o) λg f=>∃a C dx fs,g=.ref a/\f a=U (.ins C dx fs)/\uu K C/\aK K C fl/\fs.length<1000/\D.nx σ (upd f a (.ins C dx (yw fl (.ref p) fs))):=by
 obtain⟨d,r⟩:=P.new (o:=o) m h i;exact r.st l c n j λH'=>q p H' d
end
end
section
variable {x:L}{a:RAd}{ns:List Int}{k m:Nat}{H':Hp}{n:Int}
theorem uj.same(R:uj t H x a ns k m)(s:ac H H'):uj t H' x a ns k m:=⟨s _ _ R.ix,let ⟨xs,h,p⟩:=R.hc;⟨xs,s _ _ h,qQ p (.of s)⟩,s _ _ R.hs,s _ _ R.hg,s _ _ R.hn,s _ _ R.ha,R.nc⟩
theorem zb8(F:RnF K t)(R:uj t H x a ns k m)(q:Q (.bl (decide (ns.length<=k))) H) :
  Yd K t (aX Q) (zZZ 1 [.ref x]) H:=by
 simp only[Yd,zE,zZZ,zD,aN,Z,tC,ze,zj,zlf,tW,YS,ur,zcS,xF,cE,bD,bQ,bu,bd,bh,aj,V.int.injEq,V.ref.injEq,V.bl.injEq,bx,and_true,true_and,ak,bO,bL,cr,decide_eq_false_iff_not];obtain⟨b,d,c⟩:=R.hc;refine⟨_,_,_,R.ix,F.cl,F.n3,_,Y,?_⟩;rw[am (λz=>z Y)];refine⟨_,_,_,R.ix,F.cl,F.n2,_,Y,_,_,_,R.ix,F.cl,F.n1,_,Y,b.length,.inl ⟨_,aP.of d,Y⟩,_,Y,?_⟩;rw[show decide ((b.length:Int)<=(k:Int))=decide (ns.length<=k) from by rw[cT c];simp];exact q
theorem uj.row(R:uj t H x a ns k m)(h:k<ns.length):∃xs v r b n,H a.co=U (.lst xs)/\atI xs (k:Int)=U v/\v=.ref r/\H r=U (.tup [.str "say",.ref b])/\H b=U (.tup [.int n])/\ns[k]?=U n:=by
 obtain⟨xs,d,c⟩:=R.hc;have i:=cT c;obtain⟨n,hn,r,b,e,g,f⟩:=Paired.getP c (bj (show k<xs.length by lia));exact⟨xs,_,r,b,n,d,X2 (bj (show k<xs.length by lia)),e,g,f,hn⟩
theorem Vv{b:L}(F:RnF K t)(R:uj t H x a ns k m)(c:H b=U (.tup [.int n]))(q:∀H',ac H H'->Q (.int n) H') :
  vX K t (aX Q) (zZZ 2 [.ref x,.ref b]) H:=by
 simp only[vX,ZR,zE,zZZ,zD,Z,ze,zj,zG,cE,bD,bQ,bu,bd,bq,bh,aj,V.ref.injEq,bx,and_true,and_assoc,ak,bO,bL];exact⟨_,_,_,R.ix,F.cl,F.n4,_,Y,_,Y,_,c,R.hs,q⟩
theorem uj.said(R:uj t H x a ns k k)(h:ns[k]?=U n):uj t (upd H a.sa (.lst ((ns.take (k+1)).map V.int))) x a ns k (k+1):=by
 have u:∀ {b o},b≠a.sa->H b=U o->upd H a.sa (.lst ((ns.take (k+1)).map V.int)) b=U o:=λ{b o} z e=>by rw[zm z];exact e
 exact⟨u (zU R.ix R.ha ()) R.ix,let ⟨xs,h,p⟩:=R.hc;⟨xs,u R.nc h,qQ p (Vu R.ha λ_ z=>nomatch z)⟩,u (zU R.hs R.ha ()) R.hs,u (zU R.hg R.ha ()) R.hg,u (zU R.hn R.ha ()) R.hn,zi,R.nc⟩
theorem uj.at_(R:uj t H x a ns k m)(c:Nat):uj t (upd H x (.ins t.q01 a.dx (zlP a c))) x a ns c m:=by
 have u:∀ {b o},b≠x->H b=U o->upd H x (.ins t.q01 a.dx (zlP a c)) b=U o:=λ{b o} z e=>by rw[zm z];exact e
 exact⟨zi,let ⟨xs,h,p⟩:=R.hc;⟨xs,u (zU h R.ix ()) h,qQ p (Vu R.ix λ_ z=>nomatch z)⟩,u (zU R.hs R.ix ()) R.hs,u (zU R.hg R.ix ()) R.hg,u (zU R.hn R.ix ()) R.hn,u (zU R.ha R.ix ()) R.ha,R.nc⟩
theorem zb9{l D:L}{d:List V}(F:RnF K t)(r:H x=U (.ins t.q01 D []))(O:H l=U (.lst d))(N:Paired (ul H) d ns)(q:∀H' a,aO x H H'->uj t H' x a ns 0 0->(∀b,OwA x a b->b=x\/H b=ah)->Q .non H') :
  Ye K t (aX Q) (zZZ 2 [.ref x,.ref l]) H:=by
 obtain⟨lb,P,_⟩:=PO.init 2 r ⟨_,r⟩;unfold Ye zo;refine⟨_,Y,l,d,Y,.inl (aP.of O),P.so (.lst d) 2 () Y F.cl F.n1 () λs H1 M P=>P.st Y F.cl F.n2 (by show 1<1000;decide) λH2 P=>P.st Y F.cl F.n3 (by show 2<1000;decide) λH3 P=>P.so (.dK []) 3 () Y F.cl F.n4 (by show 3<1000;decide) λu H4 J P=>P.so (.dT []) 4 () Y F.cl F.n5 (by show 4<1000;decide) λC H5 I P=>P.so (.dT []) 5 () Y F.cl F.n6 (by show 5<1000;decide) λB H6 G P=>⟨(),P.so (.lst []) 6 () Y F.cl F.n7 (by show 6<1000;decide) λj E h P=>?_⟩⟩;have f:∀n c o,(n,c,o)∈_->E c=U o/\h c=n:=λn c o z=>(P.ob (n,c,o) z).2;have i:=f 2 s _ (.tail _ (.tail _ (.tail _ (.tail _ (.head _)))));have A:=f 3 u _ (.tail _ (.tail _ (.tail _ (.head _))));have w:=f 4 C _ (.tail _ (.tail _ (.head _)));have v:=f 5 B _ (.tail _ (.head _));have p:=f 6 j _ (.head _);have g:∀ {n:Nat} {b:L},h b=n+2->b=x\/H b=ah:=λ{n b} z=>(P.fr b ()).imp id λy=>y.elim (λy=>by rw[y,P.lx] at z;lia) id;refine q E ⟨D,s,u,C,B,j⟩ P.kp ⟨P.hx,⟨d,i.1,qQ N (λb T e=>P.kp _ _ (zU e r ()) e)⟩,A.1,w.1,v.1,p.1,λz=>by rw[show s=j from z,p.2] at i;exact absurd i.2 ()⟩ λb z=>?_;rcases z with z|z|z|z|z|z
 .exact .inl z
 .rw[z];exact g i.2
 .rw[z];exact g A.2
 .rw[z];exact g w.2
 .rw[z];exact g v.2
 .rw[z];exact g p.2
end
theorem sz2:2<=Bb:=by rw[dq];decide
theorem sz3:3<=Bb:=by rw[dq];decide
section
variable {x:L}{a:RAd}{ns:List Int}{k m:Nat}{n:Int}{H':Hp}
theorem zca(F:RnF K t)(R:uj t H x a ns k m)(h:k<ns.length)(q:Q .non H) :
  Jc K t (aX Q) (zZZ 2 [.ref x]) H:=by
 obtain⟨b,v,r,f,n,c,d,rfl,e,g,_⟩:=R.row h;refine yE R.ix Y Y ⟨x,a,ns,k,m,Y,R,_,Y,xU (Bk ()) (yv R.ix F.cl F.n1 Y Y (yv R.ix F.cl F.n2 Y Y ⟨a.co,b,_,_,Y,Y,aP.of c,d,r,_,0,_,Y,Y,tZ.of e,Y,Y,_,Y,Yz () q⟩))⟩
theorem Qg{R:St->Hp->Prop}{Qr:VK}(c:dG K (.type "int") (.type "str")=U ag)(d:tZ K H t.q0h jw)(b:H l=U (.lst []))(q:R [U (.ref tm),U (.ref sl),U (.ref l),U (.int n),o4,o5] (upd H l (.lst [.int n]))) :
  Xa K t { nx:=R,rt:=Qr } [U (.ref tm),U (.ref sl),U (.ref l),U (.int n),o4,o5] H:=
 ⟨_,Y,t.q0h,jw,Y,.inr d,Y,Y,_,Y,xU Y ⟨_,Y,.inl ⟨Y,_,aP.of b⟩,zi8 Y (.int n) c (xU Y ⟨_,Y,l,_,_,Y,Y,b,yP (),q⟩)⟩⟩
theorem zcb{d j:L}(r:dG K (.type "int") (.type "str")=U ag)(u:∀H:Hp,tZ K H t.q0h jw)(p:H d=U (.tup [.int n]))(q:∀H',ac H H'->Q (.int n) H') :
  Jd K t (aX Q) (zZZ 6 [.ref d,.ref j]) H:=by
 refine⟨(),λl e=>⟨_,Y,d,Y,⟨_,tZ.of (hU l e _ _ p)⟩,?_⟩⟩;refine zhE [.int n] (λi c H'=>ac H H'/\∃h g f,c=[U (.ref d),U (.ref j),U (.ref l),h,g,f]/\H' l=U (.lst ([V.int n].take i))) ⟨hU l e,_,_,_,Y,zi⟩ (λi c H' z=>tZ.of (z.1 _ _ p)) ?_ ?_
 .rintro i v c H' o ⟨s,h,g,f,rfl,b⟩;obtain rfl:i=0:=Nat.lt_one_iff.mp (bE.mp o).1;cases o;exact Qg (Qr:=Q) r (u H') b ⟨xa s e,_,_,_,Y,zi⟩
 .rintro c H' ⟨s,h,g,f,rfl,b⟩;exact⟨_,Y,.inl ⟨Y,_,aP.of b⟩,l,_,_,Y,Y,b,Y,q _ (xa s e)⟩
theorem zgO{r c:L}{h:Option V}(F:RnF K t)(R:uj t H x a ns k k)(l:H r=U (.tup [.str "say",.ref c]))(j:H c=U (.tup [.int n]))(f:ns[k]?=U n)(p:k<=40)(q:∀H',KpR x a H H'->uj t H' x a ns k (k+1)->Q .non H') :
  Xb K t (aX Q) [U (.ref x),U (.ref r),U (.int 0),h] H:=by
 refine yv R.ix F.cl F.n7 Y Y ⟨.inl ⟨Y,_,aP.of R.ha⟩,yE R.ix Y Y ⟨_,Y,r,_,1,_,Y,Y,tZ.of l,Y,x,c,a,ns,k,k,n,Y,R,j,λs d=>?_⟩⟩;have g:=R.same d;refine⟨a.sa,_,_,Y,Y,g.ha,yP (by rw[bi,c7];lia),?_⟩;have e:(ns.take k).map V.int++[V.int n]=(ns.take (k+1)).map V.int:=by rw[gg,f,cm];rfl
 rw[e];exact q _ (λb o _ i z=>by rw[zm i];exact d _ _ z) (g.said f)
theorem zcc{v:V}(F:RnF K t)(R:uj t H x a ns k k)(e:ul H v n)(d:ns[k]?=U n)(c:k<=40)(q:∀H',KpR x a H H'->uj t H' x a ns k (k+1)->Q .non H') :
  Je K t (aX Q) (zZZ 4 [.ref x,v,.int 0]) H:=by
 obtain⟨r,g,rfl,b,f⟩:=e;exact zeI Y b Y (λz=>absurd z ()) λ_=>zeI Y b Y (λz=>absurd z ()) λ_=>zeI Y b Y (λz=>absurd z ()) λ_=>zgO F R b f d c q
theorem Qh{v:V}(F:RnF K t)(R:uj t H x a ns k k)(c:ul H v n)(g:ns[k]?=U n)(f:k<=40)(q:∀H',KpR x a H H'->uj t H' x a ns k (k+1)->Q (.int (k+1:Nat)) H') :
  Xc K t (aX Q) (zZZ 3 [.ref x,v,.int 0]) H:=by
 obtain⟨r,i,rfl,b,j⟩:=id c;exact zeI Y b Y (λz=>absurd z ()) λ_=>zeI Y b Y (λz=>absurd z ()) λ_=>zeI Y b Y (λz=>absurd z ()) λ_=>yE R.ix Y Y ⟨_,Y,_,Y,x,_,a,ns,k,n,Y,R,c,g,f,λh e d=>yv d.ix F.cl F.n2 Y Y ⟨_,_,Y,Y,q h e d⟩⟩
theorem zcd(F:RnF K t)(R:uj t H x a ns k k)(p:k<ns.length)(y:ns.length<=40)(q:∀H',KpR x a H H'->uj t H' x a ns (k+1) (k+1)->Q .non H') :
  Jf K t (aX Q) (zZZ 2 [.ref x,.int 0]) H:=by
 obtain⟨e,v,r,f,n,i,j,s,w,u,l⟩:=R.row p;refine yE R.ix Y Y ⟨x,a,ns,k,k,Y,R,_,Y,xU (Bk ()) (yE R.ix Y Y (yv R.ix F.cl F.n1 Y Y (yv R.ix F.cl F.n2 Y Y ⟨a.co,e,_,_,Y,Y,aP.of i,j,_,Y,x,v,a,ns,k,n,Y,R,⟨r,f,s,w,u⟩,l,(),λA h d=>?_⟩)))⟩;exact⟨_,Y,x,_,_,_,Y,d.ix,F.cl,F.n2,(by show 7<1000;decide),q _ (λb o c g z=>by rw[zm c];exact h b o c g z) (d.at_ (k+1))⟩
theorem zeX{l:L}(F:RnF K t)(d:uj t H x a ns k k)(I:ns.length<=k)(j:H l=U (.lst []))(q:∀v A H',ac H H'->PpV H' v ns l A->H A=ah->Q v H') :
  Yi K t (aX Q) [U (.ref x),U (.ref l)] H:=by
 refine yv d.ix F.cl F.n3 Y Y ⟨Y,_,Y,xU Y (yv d.ix F.cl F.n7 Y Y ⟨a.sa,_,Y,.inl ⟨aP.of d.ha,λy E=>⟨sz2,λp z=>?_⟩⟩⟩)⟩;have B:(ns.take k).map V.int=ns.map V.int:=by rw[dM I]
 rw[B] at z ⊢;generalize c1:upd H y _=H1 at *
 obtain⟨C,O⟩:=uA c1 E;generalize c2:upd H1 p _=H3 at *
 obtain⟨u,N⟩:=uA c2 z;have c:=C.trans u;have r:=d.same c;refine⟨_,Y,yv r.ix F.cl F.n5 Y Y ⟨a.gi,_,Y,r.hg,λw h=>?_⟩⟩;generalize c3:upd H3 w _=H5;obtain⟨e,M⟩:=uA c3 h;refine⟨w,a.gi,Y,M,e _ _ r.hg,λg T D J G=>⟨sz3,λf i=>?_⟩⟩;have s:=hU (o:=HO.tup [V.ref p,V.ref l,V.ref g]) f i;have b:=e.trans (D.trans s);exact q (.ref f) g _ (c.trans b) ⟨f,.ref p,Y,zi,⟨p,y,Y,b _ _ N,(u.trans b) _ _ O⟩,(c.trans b) _ _ j,s _ _ G⟩ (yk c (yk e J))
theorem Q3(F:RnF K t)(R:uj t H x a ns k k)(g:ns.length<=k)(y:ns.length<=40)(q:∀v f b H',ac H H'->PpV H' v ns f b->H f=ah->H b=ah->Q v H') :
  Ww K t (aX Q) (zZZ 2 [.ref x]) H:=by
 refine yE R.ix Y Y ⟨x,a,ns,k,k,Y,R,_,Y,xU (by rw[Bj g];rfl) (yv R.ix F.cl F.n6 Y Y ⟨a.no,_,Y,R.hn,λr o=>?_⟩)⟩;generalize c1:upd H r _=Hv;obtain⟨c,u⟩:=uA c1 o;refine⟨r,a.no,[],Y,u,c _ _ R.hn,(),λl w z h p d i=>?_⟩;cases i;have e:=c.trans h;exact zeX F (R.same e) g d λv b H' s pv j=>q v l b H' (e.trans s) pv (yk c p) (yk e j)
end
section
variable {H' H2:Hp}{lb lb' lb2:L->Nat}{Bn:List (L×HO)}{b c d:L}{o o':HO}{i:Nat}{M:Nat->Prop}{a:ui}{n aR:Int}{D D':DkV}{wo:List (bv×V)}{v:V}{ns:List Int}
theorem OwL.at(h:OwL H lb Bn)(e:Bn[i]?=U (b,o)):H b=U o:=(h.ob i b o e).1
theorem OwL.out(h:OwL H lb Bn)(e:H b=ah):lb b=0:=iK λz=>by obtain⟨o,y⟩:=h.ow b z;rw[e] at y;cases y
theorem OwL.put(h:OwL H lb Bn)(e:Bn[i]?=U (b,o)):OwL (upd H b o') lb (Bn.set i (b,o')):=by
 have f:=h.ob i b o e;refine⟨λj c u z=>?_,λc z=>let ⟨u,y⟩:=h.ow c z;Qf c u y⟩;by_cases ij:j=i
 .subst ij;rw[gE (bE.mp e).1] at z;cases z;exact⟨zi,f.2⟩
 .rw[iz (cK ij)] at z;obtain⟨k,g⟩:=h.ob j c u z;exact⟨by rw[zm (λy=>by rw[y,f.2] at g;lia)];exact k,g⟩
theorem Fr.same(s:ac H H'):Fr M H H' lb lb:=⟨λ_ _ _=>rfl,λ_ _ _ e=>s _ _ e,λ_ _ e=>s _ _ e,λ_ o e=>⟨o,s _ _ e⟩⟩
theorem Fr.trans(h:Fr M H H' lb lb')(k:Fr M H' H2 lb' lb2):Fr M H H2 lb lb2 :=
 ⟨λb o e=>let ⟨o',e'⟩:=h.al b o e;(k.ex b o' e').trans (h.ex b o e),λb o z e=>k.kp b o (by rw[h.ex b o e];exact z) (h.kp b o z e),λb zs e=>k.ts _ _ (h.ts _ _ e),λb o e=>let ⟨o',e'⟩:=h.al b o e;k.al b o' e'⟩
theorem Fr.m0(h:Fr M1 H H' lb lb'):Fr M0 H H' lb lb':=⟨h.ex,λb o z e=>h.kp b o (z.imp id λy=>by lia) e,h.ts,h.al⟩
theorem OwL.fput(h:OwL H lb Bn)(e:Bn[i]?=U (b,o))(n:∀f,o≠.tup f)(g:i<11):Fr M1 H (upd H b o') lb lb:=by
 refine⟨λ_ _ _=>rfl,λc u z y=>?_,Vu (h.at e) n,Qf⟩;have l:=(h.ob i b o e).2;have z:lb c=0\/14<=lb c:=z;rw[zm (λw=>by rw[w] at z;lia)];exact y
theorem WoA.fr(w:WoA H lb wo)(F:Fr M H H' lb lb')(g:M 14):WoA H' lb' wo:=λx f=>let ⟨b,e,h1,h2⟩:=w x f;⟨b,e,F.kp b _ (by rw[h2];exact g) h1,(F.ex b _ h1).trans h2⟩
theorem OcAt.ts(h:OcAt H v oc)(s:TSm H H'):OcAt H' v oc:=by
 cases oc with
 |done sa=>obtain⟨o,y,e,a,b⟩:=h;exact⟨o,y,e,s _ _ a,s _ _ b⟩
 |off w=>obtain⟨o,e,a⟩:=h;exact⟨o,e,s _ _ a⟩
theorem PpV.to(h:PpV H v ns nl gl)(s:TSm H H')(g:∀o,H nl=U o->H' nl=U o)(f:∀o,H gl=U o->H' gl=U o):PpV H' v ns nl gl:=by
 obtain⟨r,o,e,m,l,k,j⟩:=h;exact⟨r,o,e,s _ _ m,l.ts s,g _ k,f _ j⟩
theorem PpA.fr(h:PpA H lb v ns)(F:Fr M H H' lb lb')(j:M 14):PpA H' lb' v ns:=by
 obtain⟨k,s,p,g,f⟩:=h;have q:=p;obtain⟨r,o,e,w,u,m,l⟩:=q;exact⟨k,s,p.to F.ts (λo e=>F.kp _ _ (by rw[g];exact j) e) (λo e=>F.kp _ _ (by rw[f];exact j) e),(F.ex _ _ m).trans g,(F.ex _ _ l).trans f⟩
theorem uh.same(h:uh t H d a lb n D)(s:ac H H'):uh t H' d a lb n D:=⟨⟨λi b o e=>⟨s _ _ (h.o.ob i b o e).1,(h.o.ob i b o e).2⟩,λb z=>let ⟨o,e⟩:=h.o.ow b z;⟨o,s _ _ e⟩⟩,h.w.fr (M:=M1) (Fr.same s) (.inr ())⟩
theorem uh.set(h:uh t H d a lb n D)(e:(dkL t d a n D)[i]?=U (b,o))(g:∀f,o≠.tup f)(j:i<11)(o':HO)(k:(dkL t d a n D).set i (b,o')=dkL t d a n D')(w:WoA H lb D'.wo):uh t (upd H b o') d a lb n D'/\Fr M1 H (upd H b o') lb lb:=by
 have F:=h.o.fput (o':=o') e g j;exact⟨⟨by rw[<-k];exact h.o.put e,w.fr F (.inr ())⟩,F⟩
open Classical in
theorem OwL.relab{N:L->Prop}(n:Nat)(q:14<=n)(h:OwL H lb Bn)(s:ac H H')(f:∀b,N b->H b=ah/\∃o,H' b=U o):∃lb',Fr M H H' lb lb'/\OwL H' lb' Bn/\∀b,N b->lb' b=n:=by
 have g:∀b,N b->lb b=0:=λb z=>h.out (f b z).1;have m:∀b,lb b≠0->(if N b then n else lb b)=lb b:=λb z=>am λy=>z (g b y);refine⟨λb=>if N b then n else lb b,⟨λb o e=>am (λy=>by rw[(f b y).1] at e;cases e),λb o _ e=>s _ _ e,λb p e=>s _ _ e,λb o e=>⟨o,s _ _ e⟩⟩,⟨λi b o e=>?_,λb j=>?_⟩,λb z=>ao z⟩
 .obtain⟨l,k⟩:=h.ob i b o e;exact⟨s _ _ l,(m b ()).trans k⟩
 .by_cases y:N b
  .exact(f b y).2
  .obtain⟨o,e⟩:=h.ow b (λz=>j ((am y).trans z));exact⟨o,s _ _ e⟩
theorem WoA.put(w:WoA H lb wo)(h:∃b,v=.ref b/\H b=U (.dT [])/\lb b=14):WoA H lb (yQ wo k v):=λx e=>by
 unfold yQ at e;split at e
 .obtain⟨y,f,rfl⟩:=dz.mp e;by_cases c:y.1=k
  .rw[ao c];exact h
  .rw[am c];exact w y f
 .rcases cj.mp e with z|z
  .exact w x z
  .rw[bY.mp z];exact h
theorem Jh{g:St->Hp->Prop}{B:V->St->Hp->(St->Hp->Prop)->Prop}(j:H l=U (.lst []))(q:g f H) :
  ∃W:Nat->Nat->St->Hp->Prop,(∃m,W 0 m f H)/\∀i m f H,W i m f H->((Itl K l).stop i H/\g f H)\/((Itl K l).go i H/\∃N:St->Hp->Prop,(∀e H',N e H'->∃h,h<m/\W (i+1) h e H')/\∀x H',(Itl K l).yld i H x H'->B x f H' N):=
 ⟨λi _ e H'=>i=0/\e=f/\H'=H,⟨0,Y,Y,Y⟩,by rintro i m e H' ⟨rfl,rfl,rfl⟩;exact .inl ⟨⟨_,aP.of j,br _⟩,q⟩⟩
theorem zku{aL:List (bv×V)}{k:bv}(h:yq aL k=U v):(k,v)∈aL:=by
 unfold yq at h;obtain⟨x,f,rfl⟩:=cY.mp h;have e:=tz f;rw[<-of_decide_eq_true e];exact nG f
theorem YV(F:uE K t)(h:uh t H d a lb n D)(e:0<=aR)(q:Q .non H) :
  wA K t (aX Q) (zZZ 2 [.ref a.mks,.int aR]) H:=by
 simp only[wA,zE,zZZ,zH,xt,aN,Z,zO,zy,ur,cE,bD,bQ,bu,bd,bq,bh,aj,V.int.injEq,V.ref.injEq,V.bl.injEq,ak,bO,bL,decide_eq_true_eq];exact⟨_,_,_,h.o.at (i:=2) Y,F.cM,F.m2,_,Y,_,Y,by rw[am ()];exact q⟩
theorem YW(F:uE K t)(h:uh t H d a lb n D)(q:∀l H',ac H H'->H l=ah->H' l=U (.lst [])->Q (.ref l) H') :
  wz K t (aX Q) (zZZ 2 [.ref a.mks,.int aR]) H:=by
 simp only[wz,Xj,JZ,zE,zik,zZZ,JZ,zD,Z,ze,zj,tW,cE,bD,bQ,bu,bd,bq,bh,aj,V.ref.injEq,bx,and_true,ak,bO,bL];refine⟨_,_,_,h.o.at (i:=2) Y,F.cM,F.m3,_,Y,a.wo,Y,.inl ⟨_,.inl (h.o.at (i:=9) Y)⟩,λp k=>?_⟩;have f:=hU (o:=HO.dT []) p k;obtain⟨b,s,m⟩:∃b,(yq D.wo (.inl aR)).getD (.ref p)=.ref b/\upd H p (.dT []) b=U (.dT []):=by
  cases e:yq D.wo (.inl aR) with
  |none=>exact⟨p,Y,zi⟩
  |some v =>
   obtain⟨b,u,r,_⟩:=h.w _ (zku e);exact⟨b,u,f _ _ r⟩
 refine⟨yq D.wo (.inl aR),.inl ⟨_,.inl aR,.inl (f _ _ (h.o.at (i:=9) Y)),Y,Y⟩,b,s,_,m,λl w g j=>?_⟩;cases j;exact q l _ (f.trans (hU l g)) (yk f g) zi
theorem zlV{f:Type} [DecidableEq f]{g:List (f×V)}{k:f}(h:k ∉ g.map (·.1)):yq g k=ah:=by
 cases e:yq g k with
 |none=>rfl
 |some v=>exact absurd (zjx e) h
theorem zlW{db:List Int}(x:Int):∃g,yQ (dbL db) (.inl x) (.bl ai)=dbL g/\(db.Nodup->g.Nodup)/\∀y,y∈g↔y∈db\/y=x:=by
 by_cases c:x∈db
 .refine⟨db,?_,id,λy=>⟨.inl,λz=>z.elim id λz=>by rw[z];exact c⟩⟩;unfold yQ;rw[ao (sN.mpr ⟨(.inl x,.bl ai),de (f:=λr=>((.inl r:bv),V.bl ai)) c,Bj Y⟩)];refine(iR λm l=>?_).trans (List.map_id _);obtain⟨y,_,rfl⟩:=dz.mp l;split <;> rfl
 .refine⟨db++[x],?_,λj=>?_,λy=>by rw[cj,List.mem_singleton]⟩
  .rw[X4 _ (zlV λz=>?_)]
   .unfold dbL;rw[cm];rfl
   rw[dbL,nE] at z;obtain⟨y,h,e⟩:=dz.mp z;exact c (by rw[<-og e];exact h)
  .refine List.nodup_append.mpr ⟨j,by simp,λy h z k e=>c ?_⟩;rw[<-bY.mp k,<-e];exact h
theorem zfP{e:List Int}(x:Int):yx (dbL e) (.inl x)=dbL (e.filter λy=>decide (y≠x)):=by
 unfold yx dbL;rw[List.filter_map];congr 1;refine List.filter_congr λy _=>?_;show decide ((lQ y:bv)≠.inl x)=decide (y≠x);simp
theorem zi9{g:List Int}{x:Int}(h:x∈g):yq (dbL g) (.inl x)=U (.bl ai):=by
 cases e:yq (dbL g) (.inl x) with
 |none =>
  refine absurd ?_ (zcQ e);rw[dbL,nE];exact de (f:=λy:Int=>(lQ y:bv)) h
 |some v =>
  obtain⟨p,j,rfl⟩:=zhR e;obtain⟨y,_,rfl⟩:=dz.mp j;rfl
theorem Zm{e k:L}(F:uE K t)(h:uh t H d a lb n D)(j:yq D.la (.inl aR)=U v)(g:PpV H v ns e k)(q:∀H',ac H H'->Q .non H') :
  xK K t (aX Q) (zZZ 5 [.ref a.jb,.int aR]) H:=by
 obtain⟨r,o,rfl,l,p,f,m⟩:=g;simp only[xK,JY,zE,zF,zZZ,ya,zo,zM,zq,JQ,wI,JP,zD,zH,aN,Z,tC,xb,ze,zj,kC,zO,zy,xz,ya,uF,qa,cE,bD,bQ,cf,cp,bu,bd,bq,bh,aj,V.int.injEq,V.ref.injEq,V.bl.injEq,ak,bO,bL,cr,decide_eq_false_iff_not];refine⟨_,_,_,h.o.at (i:=1) Y,F.cJ,F.j2,_,Y,a.la,Y,_,.inl ⟨_,.inl aR,.inl (h.o.at (i:=7) Y),Y,j.symm⟩,r,Y,_,tZ.of l,_,Y,e,Y,⟨_,aP.of f⟩,Jh f (q _ (ac.refl _))⟩
def lcI(t:aV)(H:Hp)(d:L)(a:ui)(lb:L->Nat)(n:Int)(D:DkV)(l:L)(e:List Int)(i:Nat)(g:St)(H':Hp):Prop:=(∃j h,g=[U (.ref a.jb),U (.ref l),j,h])/\H' l=U (.lst (e.map V.int))/\Fr M1 H H' lb lb/\∃f,uh t H' d a lb n { D with db:=f }/\∀r,r∈e.drop i↔r∈f
end
section
variable {H' H2:Hp}{lb lb' lb2:L->Nat}{Bn:List (L×HO)}{b c d:L}{o o':HO}{i:Nat}{M:Nat->Prop}{a:ui}{n aR:Int}{D D':DkV}{wo:List (bv×V)}{v:V}{ns:List Int}
theorem zfQ{l:L}{e:St}(f:H l=U (.lst []))(g:e[2]?=U (U (.ref l)))(q:Q .non H):vN K t (aX Q) e H:=⟨_,g,l,Y,⟨_,aP.of f⟩,Jh f q⟩
theorem YX(F:uE K t)(h:uh t H d a lb n D)(q:∀H' f,Fr M1 H H' lb lb->uh t H' d a lb n { D with wo:=f }->f.length<=D.wo.length->Q .non H') :
  jD K t (aX Q) (zZZ 4 [.ref a.mks,.int aR]) H:=by
 refine yE (h.o.at (i:=2) Y) Y Y ⟨_,Y,d,a,lb,n,aR,D,Y,h,λl u g s j=>?_⟩;have e:=h.same g;refine yv (e.o.at (i:=2) Y) F.cM F.m3 Y Y ⟨a.wo,Y,.inl ⟨_,.inl (e.o.at (i:=9) Y)⟩,_,Y,D.wo,.inl aR,e.o.at (i:=9) Y,Y,λv m=>?_,λm=>zfQ (t:=t) j Y (q _ _ (Fr.same g) e (br _))⟩;obtain⟨p,r⟩:=e.set (i:=9) (D':={ D with wo:=yx D.wo (.inl aR) }) rfl () () (.dK (yx D.wo (.inl aR))) rfl λx k=>e.w x (mQ.mp k).1;exact zfQ (t:=t) (by rw[zm (zU j (e.o.at (i:=9) Y) ())];exact j) Y (q _ _ ((Fr.same g).trans r) p (pA _ _))
theorem zja{y:L}{u:Option V}{e:List (bv×V)}{p:L}{g:Hp}(F:uE K t)(x:uh t g d a lb n { D with wo:=e })(O:e.length<=20)(w:g p=ah)(A:upd g p (.dT [])=H)(q:∀H' lb' f,Fr M1 g H' lb lb'->uh t H' d a lb' n { D with wo:=f }->f.length<=e.length+1->Q .non H') :
  Yh K t (aX Q) [U (.ref a.mks),U (.int aR),U (.ref y),U (.ref p),u] H:=by
 obtain⟨E,r⟩:=uA A w;refine⟨p,_,[],r,.inl Y,λo=>⟨_,Y,p,o,[],Y,zi,zev (λi h H'=>i=0/\h=[U (V.ref a.mks),U (V.int aR),U (V.ref y),U (V.ref p),u]/\H'=upd H p (.frz o (.dT []))) ⟨Y,Y,Y⟩ (λi h H' z=>by rw[z.2.2];exact zi) (λ_ _ _ _ _ _ z=>nomatch z) ?_⟩⟩;rintro h H' ⟨_,rfl,rfl⟩;refine⟨zi,?_⟩;have G:upd H p (.dT [])=H:=by rw[<-A,kZ]
 rw[kZ,G];obtain⟨l,B,j,C⟩:=x.o.relab (M:=M1) (N:=λb=>b=p) 14 () E λb z=>by rw[z];exact⟨w,_,r⟩
 have s:=x.w.fr B (.inr ());have J:=jN e (.inl aR) (V.ref p);obtain⟨m,I⟩:=uh.set (i:=9) (D':={ D with wo:=yQ e (.inl aR) (.ref p) }) ⟨j,s⟩ rfl () () (.dK (yQ e (.inl aR) (.ref p))) rfl (s.put ⟨p,rfl,r,C p rfl⟩);exact⟨_,Y,yv (j.at (i:=2) Y) F.cM F.m3 Y Y ⟨_,Y,a.wo,_,Y,DPut.k (k:=.inl aR) (j.at (i:=9) Y) (yP (by show e.length<1000000;lia)),q _ l _ (B.trans I) m (by show (yQ e (.inl aR) (V.ref p)).length<=_;lia)⟩⟩
theorem Q4{f:L}(F:uE K t)(h:uh t H d a lb n D)(r:0<=aR)(m:H f=U (.lst []))(l:M1 (lb f))(z:D.wo.length<=20)(q:∀H' lb' e,Fr M1 H H' lb lb'->uh t H' d a lb' n { D with wo:=e }->e.length<=D.wo.length+1->Q .non H') :
  Wv K t (aX Q) (zZZ 5 [.ref a.mks,.int aR,.ref f]) H:=by
 refine yE (h.o.at (i:=2) Y) Y Y ⟨_,Y,d,a,lb,n,aR,D,Y,h,r,yE (h.o.at (i:=2) Y) Y Y ⟨_,Y,d,a,lb,n,aR,D,Y,h,λA j g s x=>?_⟩⟩;exact⟨_,Y,f,[],[],Y,g.kp _ _ l m,.nil,(),λp k=>zja F s () k Y λH' lb' e w u y=>q H' lb' e (g.trans w) u ()⟩
theorem WJ(F:uE K t)(h:uh t H d a lb n D)(C:yq D.la (.inl aR)=U v)(B:PpA H lb v ns)(q:∀H',Fr M1 H H' lb lb->uh t H' d a lb n { D with la:=yx D.la (.inl aR),db:=D.db.filter λy=>decide (y≠aR) }->Q v H') :
  kN K t (aX Q) (zZZ 5 [.ref a.jb,.int aR]) H:=by
 obtain⟨k,E,⟨r,o,rfl,N,e2,J,e4⟩,x,T⟩:=B;obtain⟨f,u⟩:=h.set (i:=7) (D':={ D with la:=yx D.la (.inl aR) }) rfl () () (.dK (yx D.la (.inl aR))) rfl h.w;refine yv (h.o.at (i:=1) Y) F.cJ F.j2 Y Y ⟨a.la,Y,.inl ⟨_,.inl (h.o.at (i:=7) Y)⟩,_,Y,_,.inl aR,_,h.o.at (i:=7) Y,Y,C,?_⟩;generalize upd H a.la (.dK (yx D.la (.inl aR)))=H2 at *
 have e:∀H4,Fr M1 H H4 lb lb->uh t H4 d a lb n { D with la:=yx D.la (.inl aR),db:=D.db.filter λy=>decide (y≠aR) }->(H4 r=U (.tup [o,.ref k,.ref E])/\H4 k=U (.lst []))/\Q (.ref r) H4:=λH4 s g=>⟨⟨s.ts _ _ N,s.kp _ _ (by rw[x];exact .inr ()) J⟩,q H4 s g⟩;refine yv (f.o.at (i:=1) Y) F.cJ F.j4 Y Y ⟨a.db,Y,.inl ⟨_,.inl (f.o.at (i:=8) Y)⟩,_,Y,_,.inl aR,f.o.at (i:=8) Y,Y,λv l=>?_,λl=>?_⟩
 .obtain⟨G,O⟩:=f.set (i:=8) (D':={ D with la:=yx D.la (.inl aR),db:=D.db.filter λy=>decide (y≠aR) }) rfl () () (.dK (yx (dbL D.db) (.inl aR))) (by rw[zfP];rfl) f.w;obtain⟨⟨p,j⟩,m⟩:=e _ (u.trans O) G;exact⟨_,Y,r,_,1,_,Y,Y,tZ.of p,Y,k,Y,⟨_,aP.of j⟩,Jh j ⟨_,Y,m⟩⟩
 .have w:aR ∉ D.db:=λz=>by rw[zi9 z] at l;cases l
  have I:(D.db.filter λy=>decide (y≠aR))=D.db:=rE.mpr λy A=>Bj λz=>w (by rw[<-z];exact A);rw[I] at e;obtain⟨⟨p,j⟩,m⟩:=e _ u f;exact⟨_,Y,r,_,1,_,Y,Y,tZ.of p,Y,k,Y,⟨_,aP.of j⟩,Jh j ⟨_,Y,m⟩⟩
theorem zkv{r g x:L}{o:V}{u:Option V}{m l:Option V}(F:uE K t)(h:uh t H d a lb n D)(C:H r=U (.tup [o,.ref g,.ref x]))(B:H g=U (.lst []))(w:M1 (lb g))(E:D.db.length<=20)(q:∀H' e,Fr M1 H H' lb lb->uh t H' d a lb n { D with db:=e }->(D.db.Nodup->e.Nodup)->(∀y,y∈e↔y∈D.db\/y=aR)->Q .non H') :
  jE K t (aX Q) [U (.ref a.jb),U (.int aR),U (.ref r),u,m,l] H:=by
 obtain⟨e,A,s,p⟩:=zlW (db:=D.db) aR;obtain⟨z,j⟩:=h.set (i:=8) (D':={ D with db:=e }) rfl () () (.dK (yQ (dbL D.db) (.inl aR) (.bl ai))) (by rw[A];rfl) h.w;have f:=j.kp _ _ w B;exact yv (h.o.at (i:=1) Y) F.cJ F.j4 Y Y ⟨_,Y,a.db,_,Y,DPut.k (k:=.inl aR) (h.o.at (i:=8) Y) (yP (by show (dbL D.db).length<1000000;unfold dbL;rw[bi];lia)),_,Y,r,_,1,_,Y,Y,tZ.of (j.ts _ _ C),Y,g,Y,⟨_,aP.of f⟩,Jh f (q _ e j z s p)⟩
theorem zkw{r w gl l:L}{o:V}{E C:Option V}(F:uE K t)(h:uh t H d a lb n D)(x:H l=U (.lst []))(e1:H r=U (.tup [o,.ref w,.ref gl]))(e3:H w=U (.lst []))(B:M1 (lb w))(h7:D.la.length<=20)(T:D.db.length<=20)(q:∀H' e,Fr M1 H H' lb lb->uh t H' d a lb n { D with la:=yQ D.la (.inl aR) (.ref r),db:=e }->(D.db.Nodup->e.Nodup)->(∀y,y∈e↔y∈D.db\/y=aR)->Q .non H') :
  jF K t (aX Q) [U (.ref a.jb),U (.int aR),U (.ref r),U (.ref l),E,C] H:=by
 refine⟨_,Y,yv (h.o.at (i:=1) Y) F.cJ F.j1 Y Y ⟨a.mks,_,_,Y,h.o.at (i:=2) Y,Y,_,Y,d,a,lb,n,aR,_,Y,h,λJ H3 u O m=>?_⟩⟩;have z:=h.same u;refine⟨l,J,_,_,Y,Y,u _ _ x,m,(),λp N=>?_⟩;generalize c_:upd H3 p _=H4;obtain⟨A,s⟩:=uA c_ N;have f:=z.same A;refine⟨p,Y,⟨_,aP.of s⟩,Jh s ?_⟩;obtain⟨g5,F5⟩:=f.set (i:=7) (D':={ D with la:=yQ D.la (.inl aR) (.ref r) }) rfl () () (.dK (yQ D.la (.inl aR) (.ref r))) rfl f.w;have j:=(Fr.same (M:=M1) (u.trans A)).trans F5;exact⟨_,Y,yv (f.o.at (i:=1) Y) F.cJ F.j2 Y Y ⟨_,Y,a.la,_,Y,DPut.k (k:=.inl aR) (f.o.at (i:=7) Y) (yP (by show D.la.length<1000000;lia)),zkv F g5 (j.ts _ _ e1) (j.kp _ _ B e3) B T λH' e F' g I G=>q H' e (j.trans F') g I G⟩⟩
theorem WK{x w:L}(F:uE K t)(h:uh t H d a lb n D)(h2:0<=aR)(h3:PpV H v ns x w)(z:M1 (lb x))(h5:M1 (lb w))(T:D.wo.length<=20)(O:D.la.length<=20)(N:D.db.length<=20)(q:∀H' lb' j e,Fr M1 H H' lb lb'->uh t H' d a lb' n { D with wo:=j,la:=yQ D.la (.inl aR) v,db:=e }->j.length<=D.wo.length+1->(D.db.Nodup->e.Nodup)->(∀y,y∈e↔y∈D.db\/y=aR)->Q .non H') :
  kP K t (aX Q) (zZZ 6 [.ref a.jb,.int aR,v]) H:=by
 obtain⟨r,o,rfl,B,e2,A,e4⟩:=id h3;refine yv (h.o.at (i:=1) Y) F.cJ F.j1 Y Y ⟨a.mks,_,_,Y,h.o.at (i:=2) Y,Y,_,Y,d,a,lb,n,aR,D,Y,h,λl H1 k J p=>?_⟩;have u:=h.same k;refine yv (u.o.at (i:=1) Y) F.cJ F.j1 Y Y ⟨a.mks,_,_,Y,u.o.at (i:=2) Y,Y,_,Y,_,Y,r,_,2,_,Y,Y,tZ.of (k _ _ B),Y,d,w,a,lb,n,aR,D,Y,u,h2,k _ _ e4,h5,T,λH2 lb2 m C s I=>?_⟩;have f:=(Fr.same (M:=M1) k).trans C;exact zkw F s (C.kp _ _ (by rw[h.o.out J];exact .inl Y) p) (f.ts _ _ B) (f.kp _ _ z A) (by rw[f.ex _ _ A];exact z) O N λH' e F' g G E=>q H' lb2 m e (f.trans F') g I G E
theorem zkx{f:List Int}{x:Int}{u:Hp}(F:uE K t)(I:f.Nodup)(B:f[i]?=U x)(hp:∃v ns,yq D.la (.inl x)=U v/\PpA u lb v ns)(z:lcI t u d a lb n D l f i [U (.ref a.jb),U (.ref l),U (.int x),o3] H) :
  wg K t { nx:=λC H'=>lcI t u d a lb n D l f (i+1) C H',rt:=Q } [U (.ref a.jb),U (.ref l),U (.int x),o3] H:=by
 obtain⟨_,j,m,db',q,w⟩:=z;have J:=(bE.mp B).1;have ex:f[i]=x:=(bE.mp B).2;have s:f.drop i=x::f.drop (i+1):=by rw[iJ J,ex]
 have E:x∈db':=(w x).mp (by rw[s];exact bK);obtain⟨v,ns,T,G,gl,pv,O,N⟩:=hp;have p:=pv.to m.ts (λo e=>m.kp _ _ (by rw[O];exact .inr ()) e) (λo e=>m.kp _ _ (by rw[N];exact .inr ()) e);refine yE (q.o.at (i:=1) Y) Y Y ⟨_,Y,d,G,gl,v,ns,a,lb,n,x,{ D with db:=db' },rfl,q,T,p,λH3 k=>?_⟩;have g:=q.same k;obtain⟨g4,F4⟩:=g.set (i:=8) (D':={ D with db:=db'.filter λy=>decide (y≠x) }) rfl () () (.dK (yx (dbL db') (.inl x))) (by rw[zfP];rfl) g.w;refine⟨_,Y,Y,_,Y,xU Y (yv (g.o.at (i:=1) Y) F.cJ F.j4 Y Y ⟨a.db,Y,.inl ⟨_,.inl (g.o.at (i:=8) Y)⟩,_,Y,_,.inl x,_,g.o.at (i:=8) Y,Y,zi9 E,⟨_,_,Y⟩,by rw[zm (zU (k _ _ j) (g.o.at (i:=8) Y) ())];exact k _ _ j,m.trans ((Fr.same k).trans F4),_,g4,λr=>?_⟩)⟩;have h:=I.sublist (List.drop_sublist i f);rw[s,cF] at h;have A:=w r;rw[s,bJ] at A;rw[mQ,decide_eq_true_eq,<-A];exact⟨λz=>⟨.inr z,λy=>h.1 (by rw[<-y];exact z)⟩,λz=>z.1.resolve_left z.2⟩
theorem kT(F:uE K t)(h:uh t H d a lb n D)(B:D.db.Nodup)(T:D.db.length<=20)(C:∀r∈D.db,∃v ns,yq D.la (.inl r)=U v/\PpA H lb v ns)(q:∀H',Fr M1 H H' lb lb->uh t H' d a lb n { D with db:=[] }->Q .non H') :
  wP K t (aX Q) (zZZ 4 [.ref a.jb]) H:=by
 refine yv (h.o.at (i:=1) Y) F.cJ F.j4 Y Y ⟨a.db,dbL D.db,D.db,Y,h.o.at (i:=8) Y,by unfold dbL;rw[nE];rfl,by unfold dbL;rw[bi];lia,λl e G f O=>?_⟩;generalize c_:upd H l _=H2;obtain⟨k,s⟩:=uA c_ G;refine⟨_,Y,l,Y,⟨_,aP.of s⟩,YK (e.map V.int) (lcI t H d a lb n D l e) ⟨⟨_,_,Y⟩,s,Fr.same k,D.db,h.same k,λr=>f.mem_iff⟩ (λi j H' ⟨_,z,_⟩=>aP.of z) ?_ ?_⟩
 .rintro i u j H' p ⟨⟨A,y,rfl⟩,z⟩;rw[bW] at p;obtain⟨x,m,rfl⟩:=cY.mp p;exact zkx F (f.nodup_iff.mpr B) m (C x (f.mem_iff.mp (cw m))) ⟨⟨_,_,Y⟩,z⟩
 .rintro j H' ⟨⟨A,y,rfl⟩,E,N,g,I,w⟩;have J:g=[]:=List.eq_nil_iff_forall_not_mem.mpr λr z=>by
   have:=(w r).mpr z;rw[bi,List.drop_length] at this;cases this
  subst J;exact q _ N I
end
section
variable {β:Type}{R R':Int->V->β->Prop}{kv:List (bv×V)}{l:List (Int×β)}{h:Int}{b:β}{v:V}
theorem dropH_mem{e:Int×β}:e∈yT l h↔e∈l/\e.1≠h:=by unfold yT;rw[mQ,decide_eq_true_eq]
theorem Pk.get(p:Pk R kv l):(yq kv (.inl h)=ah/\h ∉ l.map (·.1))\/∃v b,yq kv (.inl h)=U v/\(h,b)∈l/\R h v b:=by
 unfold Pk at p;induction p with
 |nil=>exact .inl ⟨zhi,λz=>nomatch z⟩
 |@cons x e kv l hd tl ih =>
  by_cases c:e.1=h
  .subst c;exact .inr ⟨x.2,e.2,yY hd.1,bK,hd.2⟩
  .have n:¬ x.1=.inl h:=by rw[hd.1];exact λz=>c (og z)
   rw[yZ n,bN,bJ];exact ih.imp (λz=>⟨z.1,λy=>y.elim (λy=>c y.symm) z.2⟩) λ⟨v,b,f,d,a⟩=>⟨v,b,f,bF _ d,a⟩
theorem Pk.drop(p:Pk R kv l):Pk R (yx kv (.inl h)) (yT l h):=by
 unfold Pk at p;induction p with
 |nil=>exact .nil
 |@cons x e kv l hd tl ih =>
  by_cases c:e.1=h
  .rw[zgc (hd.1.trans (congrArg _ c)),yT,eC,am (by rw[decide_eq_true_eq];exact λz=>z c)];exact ih
  .rw[zaJ (by rw[hd.1];exact λz=>c (og z)),yT,eC,ao (Bj c)];exact .cons hd ih
theorem Pk.put(p:Pk R kv l)(n:h ∉ l.map (·.1))(r:R h v b):Pk R (yQ kv (.inl h) v) (l++[(h,b)]):=by
 rcases p.get (h:=h) with ⟨e,_⟩|⟨v,b,_,m,_⟩
 .rw[X4 _ e];exact Paired.snocP p ⟨Y,r⟩
 .exact absurd (de (f:=λe:Int×β=>e.1) m) n
theorem Pk.set(p:Pk R kv l)(d:(l.map (·.1)).Nodup)(f:∀k v a,(k,a)∈l->k≠h->R k v a->R' k v a)(g:∀v,yq kv (.inl h)=U v->R' h v b):Pk R' kv (zbZ l h b):=by
 unfold Pk at p;induction p with
 |nil=>exact .nil
 |@cons x e kv l hd tl ih =>
  rw[bN,cF] at d;have i:=λk v a m=>f k v a (bF e m);by_cases c:e.1=h
  .refine .cons ?_ (ih d.2 i λv z=>?_)
   .dsimp only;rw[ao c];subst c;exact⟨hd.1,g _ (yY hd.1)⟩
   .rcases Pk.get (R:=R) tl (h:=h) with ⟨y,_⟩|⟨_,a,_,m,_⟩
    .rw[y] at z;cases z
    .exact absurd (de (f:=λe:Int×β=>e.1) m) (by rw[<-c];exact d.1)
  .refine .cons ?_ (ih d.2 i λv z=>g v ((yZ (by rw[hd.1];exact λz=>c (og z))).trans z));dsimp only;rw[am c];exact⟨hd.1,f _ _ _ bK c hd.2⟩
end
theorem Vw{a:Type}{h:Int}:∀ {l:List (Int×a)},(l.map (·.1)).Nodup->h∈l.map (·.1)->(yT l h).length+1=l.length
 |[],_,m=>nomatch m
 |e::l,nd,m=>by
  rw[bN,cF] at nd;unfold yT;rw[eC];by_cases c:e.1=h
  .have d:l.filter (λe=>decide (e.1≠h))=l:=rE.mpr λy b=>Bj λ(z:y.1=h)=>nd.1 (by rw[c,<-z];exact de b);rw[am (by rw[decide_eq_true_eq];exact λz=>z c),d,bR]
  .rw[ao (Bj c),bR,bR];have:=Vw nd.2 ((bJ.mp m).resolve_left λz=>c z.symm);unfold yT at this;lia
section
variable {n:Int}{CC:List (List Int)}{S:DS}{r:Int}{k m:Nat}
theorem rks_mem:r∈Vp k m↔∃j:Nat,r=j/\k<=j/\j<m:=by
 unfold Vp;rw[List.mem_map];constructor
 .rintro⟨i,a,rfl⟩;rw[iD] at a;exact⟨k+i,Y,(),()⟩
 .rintro⟨j,rfl,c,b⟩;exact⟨j-k,by rw[iD];lia,by rw[show k+(j-k)=j by lia]⟩
theorem zlX:(Vp k m).Nodup:=by
 unfold Vp;refine List.Pairwise.map _ (λa b (h:a≠b)=>?_) sO;lia
theorem zdP(h:k<m):Vp k m=(k:Int)::Vp (k+1) m:=by
 unfold Vp;rw[show m-k=(m-(k+1))+1 by lia,List.range_succ_eq_map,bN,nE];refine congr (congrArg _ ()) (iR λi _=>?_);show ((k+(i+1):Nat):Int)=((k+1+i:Nat):Int);lia
theorem hV.rk(h:hV n CC S)(m:r∈S.ws++(S.hl.map (·.2.1)++S.ld.map (·.1))):∃j:Nat,r=j/\S.en<=j/\j<CC.length:=rks_mem.mp (h.pm.mem_iff.mp m)
theorem hV.rw_(h:hV n CC S)(m:r∈S.ws):∃j:Nat,r=j/\S.en<=j/\j<CC.length:=h.rk (cR _ m)
theorem hV.rh(h:hV n CC S){e:Int×Int×Nat}(m:e∈S.hl):∃j:Nat,e.2.1=j/\S.en<=j/\j<CC.length:=h.rk (bP _ (cR _ (de (f:=λe:Int×Int×Nat=>e.2.1) m)))
theorem hV.rl(h:hV n CC S)(m:r∈S.ld.map (·.1)):∃j:Nat,r=j/\S.en<=j/\j<CC.length:=h.rk (bP _ (bP _ m))
theorem hV.nd(h:hV n CC S):S.ws.Nodup/\((S.hl.map (·.2.1)).Nodup/\(S.ld.map (·.1)).Nodup/\∀x∈S.hl.map (·.2.1),∀y∈S.ld.map (·.1),x≠y)/\∀x∈S.ws,∀y∈S.hl.map (·.2.1)++S.ld.map (·.1),x≠y:=by
 have z:=h.pm.nodup_iff.mpr zlX;rw[n9,n9] at z;exact z
theorem hV.len(h:hV n CC S):S.ws.length+(S.hl.length+S.ld.length)+S.en=CC.length:=by
 have z:=h.pm.length_eq;have:=h.el;unfold Vp at z;simp only[bn,bi,iy] at z;lia
end
section
variable {H':Hp}{lb lb':L->Nat}{d b x:L}{a:ui}{ra:RAd}{CC:List (List Int)}{n h0:Int}{kv la:List (bv×V)}{hl:List (Int×Int×Nat)}{S:DS}{v:V}{ns:List Int}{M:Nat->Prop}{D:DkV}{k m:Nat}{ld:List (Int×Unit)}{cs en:List V}{w:Int}{ws:List Int}
theorem uj.has(R:uj t H x ra ns k m)(z:OwA x ra b):∃o,H b=U o:=by
 rcases z with z|z|z|z|z|z
 .rw[z];exact⟨_,R.ix⟩
 .rw[z];obtain⟨xs,h,_⟩:=R.hc;exact⟨_,h⟩
 .rw[z];exact⟨_,R.hs⟩
 .rw[z];exact⟨_,R.hg⟩
 .rw[z];exact⟨_,R.hn⟩
 .rw[z];exact⟨_,R.ha⟩
theorem uj.fr(R:uj t H x ra ns k m)(l:∀b,OwA x ra b->lb b=N)(F:Fr M H H' lb lb')(f:M N):uj t H' x ra ns k m/\∀b,OwA x ra b->lb' b=N:=by
 have c:∀ {b o},OwA x ra b->H b=U o->H' b=U o:=λ{b o} z e=>F.kp b o (by rw[l b z];exact f) e;refine⟨⟨c (.inl Y) R.ix,let ⟨xs,hx,px⟩:=R.hc;⟨xs,c (.inr (.inl Y)) hx,qQ px F.ts⟩,c (.inr (.inr (.inl Y))) R.hs,c (.inr (.inr (.inr (.inl Y)))) R.hg,c (.inr (.inr (.inr (.inr (.inl Y))))) R.hn,c (.inr (.inr (.inr (.inr (.inr Y))))) R.ha,R.nc⟩,λb z=>?_⟩;obtain⟨o,e⟩:=R.has z;exact(F.ex b o e).trans (l b z)
theorem HhA.fr{e:Int×Nat}(h:HhA t H lb CC h0 v e)(F:Fr M H H' lb lb')(i:M (20+h0.toNat)):HhA t H' lb' CC h0 v e:=by
 obtain⟨c,x,ra,ns,j,o,p,R,f,l⟩:=h;obtain⟨q,g⟩:=R.fr l F i;exact⟨c,x,ra,ns,j,F.ts _ _ o,p,q,f,g⟩
theorem Vx(h:Pk (HhA t H lb CC) kv hl)(F:Fr M H H' lb lb')(c:∀k:Nat,M (20+k)):Pk (HhA t H' lb' CC) kv hl:=Paired.mapP h λ_ _ ⟨e,z⟩=>⟨e,z.fr F (c _)⟩
theorem YA(h:Pk (LaA H lb CC) la ld)(F:Fr M H H' lb lb')(c:M 14):Pk (LaA H' lb' CC) la ld:=Paired.mapP h λ_ _ ⟨e,ns,f,z⟩=>⟨e,ns,f,z.fr F c⟩
theorem CoA.fr(h:CoA H lb v ns)(F:Fr M H H' lb lb')(j:M 14):CoA H' lb' v ns:=by
 obtain⟨c,g,e,f,i,l⟩:=h;exact⟨c,g,e,F.kp _ _ (by rw[l];exact j) f,qQ i F.ts,(F.ex _ _ f).trans l⟩
theorem YB(h:Paired (CoA H lb) cs CC)(F:Fr M H H' lb lb')(c:M 14):Paired (CoA H' lb') cs CC:=Paired.mapP h λ_ _ z=>z.fr F c
theorem XT(h:Paired (PpA H lb) en CC)(F:Fr M H H' lb lb')(c:M 14):Paired (PpA H' lb') en CC:=Paired.mapP h λ_ _ z=>z.fr F c
theorem Qi(k:Nat):M1 (20+k):=.inr ()
theorem xg:M1 14:=.inr ()
structure DkJ(t:aV)(H:Hp)(d:L)(a:ui)(lb:L->Nat)(n:Int)(CC:List (List Int))(S:DS)(D:DkV):Prop where
 o:OwL H lb (dkL t d a n D)
 e1:D.ws=S.ws
 e2:D.db=S.db
 c:Paired (CoA H lb) D.cs CC
 h:Pk (HhA t H lb CC) D.kv S.hl
 l:Pk (LaA H lb CC) D.la S.ld
 w:WoA H lb D.wo
 lw:D.wo.length<=S.en+S.ld.length
 e:Paired (PpA H lb) D.en (CC.take S.en)
theorem ua.ex(h:ua t H d a lb n CC S):∃D,DkJ t H d a lb n CC S D:=let ⟨D,a1,a2,a3,a4,a5,a6,a7,a8,a9⟩:=h;⟨D,a1,a2,a3,a4,a5,a6,a7,a8,a9⟩
theorem DkJ.g(J:DkJ t H d a lb n CC S D):ua t H d a lb n CC S:=⟨D,J.o,J.e1,J.e2,J.c,J.h,J.l,J.w,J.lw,J.e⟩
theorem DkJ.dk(J:DkJ t H d a lb n CC S D):uh t H d a lb n D:=⟨J.o,J.w⟩
theorem ua.of(h:ua t H d a lb n CC S)(k:∀b o,lb b≠0->H b=U o->H' b=U o)(f:TSm H H')(c:∀b o,H b=U o->∃g,H' b=U g):ua t H' d a lb n CC S:=by
 obtain⟨D,J⟩:=h.ex;have F:Fr (λl=>l≠0) H H' lb lb:=⟨λ_ _ _=>rfl,k,f,c⟩;exact DkJ.g (D:=D) ⟨⟨λi b o e=>by obtain⟨p,j⟩:=J.o.ob i b o e;exact⟨k b o () p,j⟩,λb z=>let ⟨o,e⟩:=J.o.ow b z;c b o e⟩,J.e1,J.e2,YB J.c F (),Vx J.h F (λk=>by lia),YA J.l F (),J.w.fr F (),J.lw,XT J.e F ()⟩
theorem ua.same(h:ua t H d a lb n CC S)(s:ac H H'):ua t H' d a lb n CC S:=h.of (λb o _ e=>s _ _ e) (TSm.of s) λb o e=>⟨o,s _ _ e⟩
theorem ua.put(h:ua t H d a lb n CC S)(hl:H b=U o)(g:∀f,o≠.tup f)(z:lb b=0):ua t (upd H b o') d a lb n CC S:=h.of (λc u y e=>by rw[zm (λw=>y (by rw[w];exact z))];exact e) (Vu hl g) Qf
theorem ua.l0(h:ua t H d a lb n CC S)(e:H b=ah):lb b=0:=let ⟨_,J⟩:=h.ex;J.o.out e
theorem ua.cmp(h:ua t H d a lb n CC S)(c:S.en<=CC.length):H d=U (.ins t.q00 a.dx (zbY a n))/\∃cs en,H a.cl=U (.lst cs)/\H a.en=U (.lst en)/\cs.length=CC.length/\en.length=S.en:=by
 obtain⟨D,J⟩:=h.ex;exact⟨J.o.at (i:=0) Y,D.cs,D.en,J.o.at (i:=4) Y,J.o.at (i:=10) Y,cT J.c,by rw[cT J.e,c7];lia⟩
theorem Vy(F:uE K t)(h:H d=U (.ins t.q00 a.dx (zbY a n)))(c:H a.en=U (.lst en))(q:Q (.int (0+en.length)) H) :
  Zd K t (aX Q) (zZZ 1 [.ref d]) H:=(yv h F.cD F.d3 Y Y (yv h F.cD F.d9 Y Y ⟨.ref a.en,en.length,Y,.inl ⟨_,aP.of c,Y⟩,_,_,Y,Y,q⟩))
theorem XU(F:uE K t)(h:H d=U (.ins t.q00 a.dx (zbY a n)))(c:H a.cl=U (.lst cs))(q:Q (.int (0+cs.length)) H) :
  j0 K t (aX Q) (zZZ 1 [.ref d]) H:=(yv h F.cD F.d3 Y Y (yv h F.cD F.d4 Y Y ⟨.ref a.cl,cs.length,Y,.inl ⟨_,aP.of c,Y⟩,_,_,Y,Y,q⟩))
theorem Qj{l:L}(c:H l=U (.lst ((w::ws).map V.int)))(q:Q (.int w) H) :
  ky K t (aX Q) (zZZ 2 [.ref x,.ref l]) H:=by
 simp only[ky,zZZ,zD,aN,Z,tC,x6,cE,bD,bQ,bu,bd,bq,bh,aj,V.int.injEq,V.ref.injEq,ak,bO,bL];exact⟨_,aP.of c,_,X2 (j:=0) Y,q⟩
theorem zce{c:Type}{l r:List c}{i:Nat}{x:c}(h:l[i]?=U x):(l++r)[i]?=U x:=by rw[dI (bE.mp h).1];exact h
theorem zcf{c:L}{g:List V}(F:uE K t)(h1:H c=U (.lst g))(h2:Paired (ul H) g ns)(h:ua t H d a lb n CC S)(h3:CC.length<=12)(h4:S.ws.length<=12)(h5:S.en<=CC.length)(q:∀H' lb',Fr M0 H H' lb lb'->ua t H' d a lb' n (CC++[ns]) { S with ws:=S.ws++[(CC.length:Int)] }->Q (.int CC.length) H') :
  Yn K t (aX Q) (zZZ 3 [.ref d,.ref c]) H:=by
 obtain⟨D,J⟩:=h.ex;have lc:=cT J.c;simp only[Yn,xC,zE,zF,zZZ,zbB,zP,YG,zo,zM,zq,zD,zT,Z,ze,zj,tW,ud,tyV,cE,bD,bQ,cf,cp,bu,bd,bq,bh,aj,V.ref.injEq,bx,and_true,true_and,ak,bX,bZ,bO,bL];refine⟨_,_,J.o.at (i:=0) Y,Y,a,n,J.o.at (i:=0) Y,D.cs,J.o.at (i:=4) Y,_,_,_,J.o.at (i:=0) Y,F.cD,F.d4,_,Y,.inl ⟨_,aP.of (J.o.at (i:=4) Y)⟩,g,.inl (aP.of h1),λf u=>?_⟩;have s2:=hU (o:=HO.lst g) f u;have y:upd H f (.lst g) f=U (.lst g):=zi;generalize upd H f (HO.lst g)=H2 at *
 obtain⟨j,E,s,p⟩:=J.o.relab (M:=M1) (N:=λb=>b=f) 14 () s2 λb z=>by rw[z];exact⟨u,_,y⟩
 have O:uh t H2 d a j n D:=⟨s,J.w.fr E xg⟩;obtain⟨l,B⟩:=O.set (i:=4) (D':={ D with cs:=D.cs++[.ref f] }) rfl () () (.lst (D.cs++[.ref f])) rfl O.w;refine⟨a.cl,Y,_,s.at (i:=4) Y,yP (by show D.cs.length<1000000;lia),?_⟩;have e3:=B.kp _ _ (by rw[p f rfl];exact xg) y;generalize upd H2 a.cl (.lst (D.cs++[.ref f]))=H3 at *
 rw[show (0:Int)+D.cs.length=CC.length by lia];obtain⟨I,A⟩:=l.set (i:=5) (D':={ D with cs:=D.cs++[.ref f],ws:=D.ws++[(CC.length:Int)] }) rfl () () (.lst (D.ws.map V.int++[.int CC.length])) (by unfold dkL;dsimp only;rw[cm];rfl) l.w;have G:=E.trans (B.trans A);refine⟨_,_,_,l.o.at (i:=0) Y,F.cD,F.d5,_,Y,.inl ⟨_,aP.of (l.o.at (i:=5) Y)⟩,a.wl,Y,_,l.o.at (i:=5) Y,yP (by show (D.ws.map V.int).length<1000000;rw[bi,J.e1];lia),?_⟩;refine q _ j G.m0 (DkJ.g ⟨I.o,by show D.ws++_=S.ws++_;rw[J.e1],J.e2,Paired.snocP (YB J.c G xg) ⟨f,g,Y,A.kp _ _ (by rw[p f rfl];exact xg) e3,qQ h2 G.ts,p f Y⟩,Paired.mapP (Vx J.h G Qi) λ_ _ ⟨e,T,x,ra,C,ev,et,r,z⟩=>⟨e,T,x,ra,C,ev,et,zce r,z⟩,Paired.mapP (YA J.l G xg) λ_ _ ⟨e,ns,r,z⟩=>⟨e,ns,zce r,z⟩,I.w,J.lw,?_⟩);show Paired _ D.en ((CC++[ns]).take S.en);rw[List.take_append_of_le_length h5];exact XT J.e G xg
theorem hV.val(c:hV n CC S)(J:DkJ t H d a lb n CC S D):∀r∈D.db,∃v ns,yq D.la (.inl r)=U v/\PpA H lb v ns:=λr hr=>by
 rcases J.l.get (h:=r) with ⟨_,z⟩|⟨v,_,hv,_,ns,_,p⟩
 .exact absurd (c.ds r (by rw[<-J.e2];exact hr)) z
 .exact⟨v,ns,hv,p⟩
theorem hV.dbl(c:hV n CC S):S.db.length<=S.ld.length:=by
 have z:=zaQ c.dn (b:=S.ld.map (·.1)) c.ds
 rwa [bi] at z
end
section
variable {H':Hp}{lb lb':L->Nat}{d b x:L}{a:ui}{ra:RAd}{CC:List (List Int)}{n h0:Int}{kv la:List (bv×V)}{hl:List (Int×Int×Nat)}{S:DS}{v:V}{ns:List Int}{M:Nat->Prop}{D:DkV}{k m:Nat}{ld:List (Int×Unit)}{cs en:List V}{w:Int}{ws:List Int}
theorem zeY(F:uE K t)(J:DkJ t H d a lb n CC S D)(s:hV n CC S)(fr:h0 ∉ S.hl.map (·.1))(E:S.ws=w::ws)(q:∀v H' lb',Fr M0 H H' lb lb'->ua t H' d a lb' n CC { S with ws:=ws,hl:=S.hl++[(h0,w,0)] }->Q v H') :
  jB K t (aX Q) [U (.ref d),U (.int h0),U (.int w)] H:=by
 have lc:=cT J.c;have al:=s.cc;have ln:=s.len;refine yv (J.o.at (i:=0) Y) F.cD F.d5 Y Y ⟨.inl ⟨Y,_,aP.of (J.o.at (i:=5) Y)⟩,_,Y,a.wl,D.ws,w,Y,Y,J.o.at (i:=5) Y,by rw[J.e1,E];exact bK,?_⟩;obtain⟨j,G2⟩:=J.dk.set (i:=5) (D':={ D with ws:=ws }) rfl () () (.lst (ws.map V.int)) rfl J.w;have er:D.ws.erase w=ws:=by rw[J.e1,E,List.erase_cons_head]
 rw[er];generalize upd H a.wl (.lst (ws.map V.int))=H2 at *
 obtain⟨k,rfl,_,hk⟩:=s.rw_ (by rw[E];exact bK);obtain⟨v,hv⟩:∃v,D.cs[k]?=U v:=⟨_,bj ()⟩;obtain⟨ns,hC,c,xs,rfl,hc,px,aa⟩:=Paired.getP (YB J.c G2 xg) hv;refine⟨_,Y,yv (j.o.at (i:=0) Y) F.cD F.d4 Y Y ⟨_,Y,yv (j.o.at (i:=0) Y) F.cD F.d3 Y Y ⟨_,_,Y,Y,a.cl,_,_,_,Y,Y,aP.of (j.o.at (i:=4) Y),(by rw[Int.sub_zero];exact X2 hv),λx I A C nx=>?_⟩⟩⟩;have f:ac H2 (upd (upd H2 I (HO.own x)) x (HO.ins t.q01 I [])):=λb o e=>by rw[zm (zr e A),zm (zr e C)];exact e
 refine⟨x,c,I,xs,ns,Y,zi,f _ _ hc,qQ px (.of f),λH5 ra k5 R5 h=>⟨Y,sz2,λp hp=>?_⟩⟩;have s5:ac H2 H5:=λb o e=>k5 b o (zr e A) (f _ _ e);have ow:∀b,OwA x ra b->H2 b=ah:=λb z=>by
  rcases h b z with y|y
  .rw[y];exact A
  .exact yk f y
 generalize c_:upd H5 p _=H6;obtain⟨s6,e6⟩:=uA c_ hp;have r:=s5.trans s6;have R6:=R5.same s6;clear R5 f k5 h c_;obtain⟨g,G6,o6,u⟩:=j.o.relab (M:=M1) (N:=OwA x ra) (20+h0.toNat) () r λb z=>⟨ow b z,R6.has z⟩;have l:uh t H6 d a g n { D with ws:=ws }:=⟨o6,j.w.fr G6 xg⟩;obtain⟨D7,O⟩:=l.set (i:=6) (D':={ D with ws:=ws,kv:=yQ D.kv (.inl h0) (.ref p) }) rfl () () (.dK (yQ D.kv (.inl h0) (.ref p))) rfl l.w;have lk:=cT J.h;refine yv (l.o.at (i:=0) Y) F.cD F.d6 Y Y ⟨_,Y,a.hd,_,Y,DPut.k (k:=.inl h0) (l.o.at (i:=6) Y) (yP (by show D.kv.length<1000000;lia)),_,Y,_,Y,sz3,λp2 B=>?_⟩;have G:=G2.trans (G6.trans O);have T:=hU (o:=HO.tup [V.str (bb "take"),V.int h0,V.int k]) p2 B;have R7:=R6.fr u O (Qi _);exact q _ _ g (G.trans (Fr.same T)).m0 (ua.same (DkJ.g (D:={ D with ws:=ws,kv:=yQ D.kv (.inl h0) (.ref p) }) ⟨D7.o,rfl,J.e2,YB J.c G xg,(Vx J.h G Qi).put fr ⟨p,x,ra,ns,rfl,O.ts _ _ e6,hC,R7.1,bU _,R7.2⟩,YA J.l G xg,D7.w,J.lw,XT J.e G xg⟩) T)
theorem WL(F:uE K t)(h:ua t H d a lb n CC S)(j:hV n CC S)(o:h0 ∉ S.hl.map (·.1))(e:S.ws=w::ws)(q:∀v H' lb',Fr M0 H H' lb lb'->ua t H' d a lb' n CC { S with ws:=ws,hl:=S.hl++[(h0,w,0)] }->Q v H') :
  kO K t (aX Q) (zZZ 3 [.ref d,.int h0]) H:=by
 obtain⟨D,J⟩:=h.ex;have g:H d=U (.ins t.q00 a.dx (zbY a n)):=J.o.at (i:=0) rfl;have f:=J.o.at (i:=5) rfl;rw[show D.ws.map V.int=(w::ws).map V.int by rw[J.e1,e]] at f;refine yv g F.cD F.d2 Y Y ⟨a.wy,_,_,Y,J.o.at (i:=3) Y,Y,yv g F.cD F.d5 Y Y ⟨a.wl,_,Y,.inl (aP.of f),λl hl=>?_⟩⟩;generalize c_:upd H l _=H1;obtain⟨c,p⟩:=uA c_ hl;obtain⟨s,r⟩:=(h.same c).ex;exact⟨a.wy,l,w,ws,Y,p,zeY F r j o e λv H' lb' G=>q v H' lb' ((Fr.same c).trans G)⟩
theorem zky{A y:Option V}(F:uE K t)(h:ua t H d a lb n CC S)(u:hV n CC S)(f:h0 ∉ S.hl.map (·.1))(j:(S.en:Int) ∉ S.ld.map (·.1))(l:S.db=[])(q:∀v H' lb' r,Fr M0 H H' lb lb'->Mv CC S h0 r->ua t H' d a lb' n CC r->Q v H') :
  vM K t (aX Q) [U (.ref d),U (.int h0),A,y] H:=by
 obtain⟨D,J⟩:=h.ex;have G:({ S with db:=[] }:DS)=S:=by rw[<-l]
 refine yv (J.o.at (i:=0) Y) F.cD F.d5 Y Y ⟨bU _,λz B=>?_⟩;generalize c_:upd H z _=H2;obtain⟨c,I⟩:=uA c_ B;have s:=J.dk.same c;refine⟨a.wl,z,_,Y,Y,aP.of (s.o.at (i:=5) Y),aP.of I,_,Y,?_⟩;rw[J.e1];cases ew:S.ws with
 |nil =>
  refine xU Y ⟨_,Y,sz2,λp C=>?_⟩;have g:=c.trans (hU (o:=HO.tup [V.str "rest",V.int h0]) p C);exact q _ _ lb _ (Fr.same g) (G ▸ .rest j f ew) (h.same g)
 |cons x xs =>
  refine Yz Y (yE (s.o.at (i:=0) Y) Y Y ⟨_,Y,d,a,lb,n,h0,x,xs,CC,S,Y,h.same c,u,f,ew,λv N e O E=>q v N e _ ((Fr.same c).trans O) (.take j f ew) ?_⟩);rw[<-l];exact E
theorem zkz{E:Option V}{u:Unit}{R:St->Hp->Prop}(F:uE K t)(h:ua t H d a lb n CC S)(g:hV n CC S)(fr:h0 ∉ S.hl.map (·.1))(T:((S.en:Int),u)∈S.ld)(e0:S.db=[])(q:∀v H' lb' z,Fr M0 H H' lb lb'->Mv CC S h0 z->ua t H' d a lb' n CC z->Q v H') :
  vL K t { nx:=R,rt:=Q } [U (.ref d),U (.int h0),U (.int S.en),E] H:=by
 obtain⟨D,J⟩:=h.ex;have I:=cT J.e;rw[c7,mX g.el] at I;have N:=g.cc;have ln:=g.len;have j:=de (f:=λe:Int×Unit=>e.1) T;rcases J.l.get (h:=(S.en:Int)) with ⟨_,hn⟩|⟨v,_,hv,_,ns,hC,pp⟩
 .exact absurd j hn
 refine yv (J.o.at (i:=0) Y) F.cD F.d9 Y Y ⟨.inl ⟨Y,_,aP.of (J.o.at (i:=10) Y)⟩,yv (J.o.at (i:=0) Y) F.cD F.d8 Y Y ⟨a.jb,_,_,Y,J.o.at (i:=1) Y,Y,_,Y,d,v,ns,a,lb,n,S.en,D,Y,J.dk,hv,pp,λH2 B r=>⟨a.en,_,_,Y,Y,r.o.at (i:=10) Y,yP (by show D.en.length<1000000;lia),_,Y,_,Y,sz3,λp O=>?_⟩⟩⟩;obtain⟨C,A⟩:=r.set (i:=10) (D':={ D with db:=D.db.filter λy=>decide (y≠(S.en:Int)),la:=yx D.la (.inl (S.en:Int)),en:=D.en++[v] }) rfl () () (.lst (D.en++[v])) rfl r.w;have G:=B.trans A;have s:=hU (o:=HO.tup [V.str (bb "settle"),V.int h0,V.int S.en]) p O;have l:CC.take (S.en+1)=CC.take S.en++[ns]:=by rw[gg,show CC[S.en]?=U ns from hC];rfl
 have c:=Vw g.nd.2.1.2.1 j;refine q _ _ lb _ (G.trans (Fr.same s)).m0 (.settle j fr) (ua.same (DkJ.g (D:={ D with db:=D.db.filter λy=>decide (y≠(S.en:Int)),la:=yx D.la (.inl (S.en:Int)),en:=D.en++[v] }) ⟨C.o,J.e1,by show D.db.filter _=[];rw[J.e2,e0];rfl,YB J.c G xg,Vx J.h G Qi,(YA J.l G xg).drop,C.w,?_,?_⟩) s)
 .have:=J.lw;show D.wo.length<=S.en+1+(yT S.ld S.en).length;have c:(yT S.ld S.en).length+1=S.ld.length:=c;lia
 .show Paired _ (D.en++[v]) (CC.take (S.en+1));rw[l];exact Paired.snocP (XT J.e G xg) ((pp.fr B xg).fr A xg)
theorem YY(F:uE K t)(h:ua t H d a lb n CC S)(j:hV n CC S)(s:h0 ∉ S.hl.map (·.1))(q:∀v H' lb' l,Fr M0 H H' lb lb'->Mv CC S h0 l->ua t H' d a lb' n CC l->Q v H') :
  jC K t (aX Q) (zZZ 4 [.ref d,.int h0]) H:=by
 obtain⟨D,J⟩:=h.ex;have I:=j.cc;have N:=j.len;have O:=j.dbl;have E:=cT J.e;rw[c7,mX j.el] at E;have y:H d=U (.ins t.q00 a.dx (zbY a n)):=J.o.at (i:=0) rfl;refine yE y Y Y ⟨d,a,n,D.en,Y,y,J.o.at (i:=10) Y,?_⟩;rw[show (0:Int)+D.en.length=(S.en:Int) by lia];refine yv y F.cD F.d8 Y Y ⟨a.jb,_,_,Y,J.o.at (i:=1) Y,Y,d,a,lb,n,D,Y,J.dk,by rw[J.e2];exact j.dn,by rw[J.e2];lia,j.val J,λC o r=>?_⟩;have B:ua t C d a lb n CC { S with db:=[] }:=DkJ.g (D:={ D with db:=[] }) ⟨r.o,J.e1,rfl,YB J.c o xg,Vx J.h o Qi,YA J.l o xg,r.w,J.lw,XT J.e o xg⟩;have p:hV n CC { S with db:=[] }:={ j with dn:=gB,ds:=λ_ z=>nomatch z };have A:∀v H' lb' l,Fr M0 C H' lb lb'->Mv CC { S with db:=[] } h0 l->ua t H' d a lb' n CC l->Q v H':=λv H' lb' l G m g=>q v H' lb' l (o.m0.trans G) (by
  cases m with
  |step a=>exact absurd (de (f:=λe:Int×Int×Nat=>e.1) a) s
  |lay a=>exact absurd (de (f:=λe:Int×Int×Nat=>e.1) a) s
  |settle a b=>exact .settle a b
  |take a b c=>exact .take a b c
  |rest a b c=>exact .rest a b c) g
 refine⟨_,Y,yv (r.o.at (i:=0) Y) F.cD F.d8 Y Y ⟨a.jb,_,_,_,_,Y,r.o.at (i:=1) Y,F.cJ,F.j2,Y,a.la,_,Y,.k (k:=.inl (S.en:Int)) (r.o.at (i:=7) Y),_,Y,?_⟩⟩;rcases(YA J.l o xg).get (h:=(S.en:Int)) with ⟨hv,hn⟩|⟨v,u,hv,hm,_⟩
 .rw[hv];exact xU Y (xU Y ⟨_,Y,Y,_,Y,xU Y (zky (S:={ S with db:=[] }) F B p s hn rfl A)⟩)
 .rw[hv];exact Yz Y ⟨_,Y,Y,_,Y,Yz Y (Yz Y (zkz (S:={ S with db:=[] }) F B p s hm rfl A))⟩
structure MvI(t:aV)(H:Hp)(d:L)(a:ui)(lb:L->Nat)(n h0:Int)(CC:List (List Int))(S:DS)(D:DkV)(tp x:L)(ra:RAd)(r:Int)(k:Nat)(ns:List Int):Prop where
 j:DkJ t H d a lb n CC S D
 hm:(h0,r,k)∈S.hl
 hv:yq D.kv (.inl h0)=U (.ref tp)
 ht:H tp=U (.tup [.int r,.ref x])
 ec:CC[r.toNat]?=U ns
 rn:uj t H x ra ns k k
 le:k<=ns.length
 l20:∀b,OwA x ra b->lb b=20+h0.toNat
theorem zgP{E:XK}{r:Int}{R:St->Hp->Prop}(F:uE K t)(I:MvI t H d a lb n h0 CC S D tp x ra r k ns)(l:hV n CC S)(c:ns.length<=k)(q:∀v H' lb' S',Fr M0 H H' lb lb'->Mv CC S h0 S'->ua t H' d a lb' n CC S'->Q v H') :
  Yj K t E { nx:=R,rt:=Q } [U (.ref d),U (.int h0),U (.int r),U (.ref x),o4,o5] H:=by
 have J:=I.j;have aw:=l.cc;have ln:=l.len;have l4:=l.cn ns (cw I.ec);obtain⟨D1,G1⟩:=J.dk.set (i:=6) (D':={ D with kv:=yx D.kv (.inl h0) }) rfl () () (.dK (yx D.kv (.inl h0))) rfl J.w;refine yv (J.o.at (i:=0) Y) F.cD F.d6 Y Y ⟨a.hd,Y,.inl ⟨_,.inl (J.o.at (i:=6) Y)⟩,_,Y,_,.inl h0,_,J.o.at (i:=6) Y,Y,I.hv,?_⟩;have R1:=(I.rn.fr I.l20 G1 (Qi _)).1;generalize upd H a.hd (.dK (yx D.kv (.inl h0)))=H1 at *
 refine yv (D1.o.at (i:=0) Y) F.cD F.d8 Y Y ⟨a.jb,_,_,Y,D1.o.at (i:=1) Y,Y,_,Y,yE R1.ix Y Y ⟨x,ra,ns,k,Y,R1,c,(),λv s u H2 s2 pv n1 n2=>?_⟩⟩;obtain⟨g,G2,o2,T⟩:=D1.o.relab (M:=M1) (N:=λb=>b=s\/b=u) 14 () s2 λb z=>by
  obtain⟨r,o,_,_,_,e3,e4⟩:=id pv;rcases z with z|z
  .rw[z];exact⟨n1,_,e3⟩
  .rw[z];exact⟨n2,_,e4⟩
 have D2:uh t H2 d a g n { D with kv:=yx D.kv (.inl h0) }:=⟨o2,D1.w.fr G2 xg⟩;have ll:=cT J.l;have dl:=l.dbl;have lw:=J.lw;obtain⟨j,ej,_,hj⟩:=l.rh I.hm;have ej:r=(j:Int):=ej;have m1:M1 (g s):=by rw[T s (.inl Y)];exact xg
 have m2:M1 (g u):=by rw[T u (.inr Y)];exact xg
 refine⟨d,s,u,v,ns,a,g,n,r,_,Y,D2,(),pv,m1,m2,by show D.wo.length<=20;lia,by show D.la.length<=20;lia,by show D.db.length<=20;rw[J.e2];lia,λH3 an h av A D3 C al B=>⟨_,Y,_,Y,sz3,λp hp=>?_⟩⟩;have G:=G1.trans (G2.trans A);have s4:=hU (o:=HO.tup [V.str (bb "lay"),V.int h0,V.int r]) p hp;have nr:r ∉ S.ld.map (·.1):=λz=>l.nd.2.1.2.2 r (de (f:=λe:Int×Int×Nat=>e.2.1) I.hm) _ z rfl;have aa:=pv.to A.ts (λo y=>A.kp _ _ m1 y) (λo y=>A.kp _ _ m2 y);obtain⟨_,_,_,_,_,e3,e4⟩:=pv;have O:=I.hm;rw[pE I.le c] at O;have C:h.length<=D.wo.length+1:=C;exact q _ _ an _ (G.trans (Fr.same s4)).m0 (.lay O I.ec (al (by show D.db.Nodup;rw[J.e2];exact l.dn)) λy hy=>by rw[<-J.e2];exact(B y).mp hy) (ua.same (DkJ.g (D:={ D with kv:=yx D.kv (.inl h0),la:=yQ D.la (.inl r) v,db:=av,wo:=h }) ⟨D3.o,J.e1,rfl,YB J.c G xg,(Vx J.h G Qi).drop,(YA J.l G xg).put nr ⟨ns,I.ec,s,u,aa,(A.ex _ _ e3).trans (T s (.inl rfl)),(A.ex _ _ e4).trans (T u (.inr rfl))⟩,D3.w,by show h.length<=S.en+(S.ld++[(r,PUnit.unit)]).length;rw[bn,gL];lia,XT J.e G xg⟩) s4)
theorem MvI.step{r:Int}(I:MvI t H d a lb n h0 CC S D tp x ra r k ns)(g:hV n CC S)(c:k<ns.length)(q:KpR x ra H H')(s:uj t H' x ra ns (k+1) (k+1)):Fr M0 H H' lb lb/\ua t H' d a lb n CC { S with hl:=zbZ S.hl h0 (r,k+1) }:=by
 have J:=I.j;have R:=I.rn;have p:∀b o,¬ OwA x ra b->H b=U o->H' b=U o:=λb o z y=>q b o (λw=>z (.inl w)) (λw=>z (.inr (.inr (.inr (.inr (.inr w)))))) y;have f:TSm H H':=λb C y=>q b _ (zU y R.ix ()) (zU y R.ha ()) y;have h:∀b o,H b=U o->∃o',H' b=U o':=λb o y=>by
  by_cases z:OwA x ra b
  .exact s.has z
  .exact⟨o,p b o z y⟩
 have G:Fr (λl=>l≠20+h0.toNat) H H' lb lb:=⟨λ_ _ _=>rfl,λb o z y=>p b o (λw=>z (I.l20 b w)) y,f,h⟩;have u:OwL H' lb (dkL t d a n D):=⟨λi b o y=>by
  obtain⟨B,A⟩:=J.o.ob i b o y;have:i<11:=(bE.mp y).1;exact⟨G.kp b o (by show lb b≠20+h0.toNat;lia) B,A⟩,λb z=>let ⟨o,y⟩:=J.o.ow b z;h b o y⟩
 have e:(14:Nat)≠20+h0.toNat:=by lia
 refine⟨⟨λ_ _ _=>rfl,λb o z y=>G.kp b o (by have z:lb b=0\/lb b=14:=z;show lb b≠20+h0.toNat;lia) y,f,h⟩,DkJ.g (D:=D) ⟨u,J.e1,J.e2,YB J.c G e,J.h.set g.hn (λk v N m E z=>z.fr G ?_) λv z=>⟨tp,x,ra,ns,(cb (I.hv.symm.trans z)).symm,f _ _ I.ht,I.ec,s,c,I.l20⟩,YA J.l G e,J.w.fr G e,J.lw,XT J.e G e⟩⟩;have:=g.hr _ m;have this:0<=k/\k<n:=this;show 20+k.toNat≠20+h0.toNat;have:=g.hr _ I.hm;have this:0<=h0/\h0<n:=this;lia
theorem zgQ{E:XK}{h x:L}{ra:RAd}{r:Int}{k:Nat}{j i:Option V}(F:uE K t)(I:MvI t H d a lb n h0 CC S D h x ra r k ns)(f:hV n CC S)(c:k<ns.length)(q:∀v H' lb' g,Fr M0 H H' lb lb'->Mv CC S h0 g->ua t H' d a lb' n CC g->Q v H') :
  Yk K t E (aX Q) [U (.ref d),U (.int h0),U (.int r),U (.ref x),j,i] H:=by
 have A:=f.cn ns (cw I.ec);refine yE I.rn.ix Y Y ⟨x,ra,ns,k,k,Y,I.rn,c,_,Y,Y,_,Y,Yz Y (yE I.rn.ix Y Y ⟨x,ra,ns,k,Y,I.rn,c,(),λB l y=>⟨_,Y,_,Y,sz3,λp s=>?_⟩⟩)⟩;obtain⟨z,u⟩:=I.step f c l y;have e:=hU (o:=HO.tup [V.str (bb "step"),V.int h0,V.int r]) p s;exact q _ _ lb _ (z.trans (Fr.same e)) (.step I.hm I.ec c) (u.same e)
theorem zgR{E:XK}{p o l j:Option V}(F:uE K t)(J:DkJ t H d a lb n CC S D)(e:hV n CC S)(f:yq D.kv (.inl h0)=U v)(s:v≠.non)(q:∀v H' lb' g,Fr M0 H H' lb lb'->Mv CC S h0 g->ua t H' d a lb' n CC g->Q v H') :
  Yl K t E (aX Q) [U (.ref d),U (.int h0),p,o,l,j] H:=by
 rcases J.h.get (h:=h0) with ⟨z,_⟩|⟨u,⟨r,k⟩,z,hm,tp,x,ra,ns,rfl,et,ec,R,le,l20⟩
 .rw[z] at f;cases f
 have I:MvI t H d a lb n h0 CC S D tp x ra r k ns:=⟨J,hm,z,et,ec,R,le,l20⟩;have dg:DGet H a.hd (.int h0) (U (.ref tp)):=z ▸ .k (k:=.inl h0) (J.o.at (i:=6) Y);refine yv (J.o.at (i:=0) Y) F.cD F.d6 Y Y ⟨_,Y,a.hd,_,Y,dg,tp,_,0,_,Y,Y,tZ.of et,Y,yv (J.o.at (i:=0) Y) F.cD F.d6 Y Y ⟨_,Y,a.hd,_,Y,dg,tp,_,1,_,Y,Y,tZ.of et,Y,yE R.ix Y Y ⟨x,ra,ns,k,k,Y,R,_,Y,?_⟩⟩⟩;by_cases c:ns.length<=k
 .exact Yz (Bj c) (zgP F I e c q)
 .exact xU (Bk c) (zgQ F I e (Nat.lt_of_not_le c) q)
theorem Q5{E:XK}(F:uE K t)(j:RnF K t)(h:ua t H d a lb n CC S)(f:hV n CC S)(q:(h0<0\/n<=h0)/\(∀H',ac H H'->E (.ref t.q08) ah H')\/0<=h0/\h0<n/\∀v H' lb' g,Fr M0 H H' lb lb'->Mv CC S h0 g->ua t H' d a lb' n CC g->Q v H') :
  Wx K t E (aX Q) (zZZ 6 [.ref d,.int h0]) H:=by
 obtain⟨D,J⟩:=h.ex;have e:H d=U (.ins t.q00 a.dx (zbY a n)):=J.o.at (i:=0) rfl;rcases q with ⟨hb,qe⟩|⟨p0,pn,q⟩
 .refine⟨_,Y,_,_,Y,Y,_,Y,?_⟩;by_cases c:h0<0
  .exact Yz (Bj c) (Yz Y ⟨(),qe H (ac.refl _)⟩)
  .exact xU (Bk c) ⟨_,Y,yv e F.cD F.d1 Y Y ⟨_,_,Y,Y,_,Y,Yz (Bj ()) ⟨(),qe H (ac.refl _)⟩⟩⟩
 refine⟨_,Y,_,_,Y,Y,_,Y,xU (Bk ()) ⟨_,Y,yv e F.cD F.d1 Y Y ⟨_,_,Y,Y,_,Y,xU (Bk ()) ⟨_,Y,yv e F.cD F.d6 Y Y ⟨a.hd,_,Y,.k (k:=.inl h0) (J.o.at (i:=6) Y),_,Y,?_⟩⟩⟩⟩⟩;rcases J.h.get (h:=h0) with ⟨hv,hn⟩|⟨v,_,hv,_,tp,_,_,_,rfl,_⟩
 .rw[hv];exact Yz Y (yE e Y Y ⟨_,Y,d,a,lb,n,h0,CC,S,Y,h,f,hn,q⟩)
 .rw[hv];exact xU Y (zgR F J f hv () q)
end
theorem zmL{a:Type}{x y:Int×a}:∀ {l:List (Int×a)},(l.map (·.1)).Nodup->x∈l->y∈l->x.1=y.1->x=y
 |z::l,nd,hx,hy,e=>by
  rw[bN,cF] at nd;rcases bJ.mp hx with h1|h1 <;> rcases bJ.mp hy with h2|h2
  .rw[h1,h2]
  .exact absurd (dz.mpr ⟨y,h2,by rw[<-e,h1]⟩) nd.1
  .exact absurd (dz.mpr ⟨x,h1,by rw[e,h2]⟩) nd.1
  .exact zmL nd.2 h1 h2 e
section
variable {β:Type}{l:List (Int×β)}{h:Int}{b b0:β}{q:Int×β->Nat}
theorem zdQ:∀ {l:List (Int×β)},h ∉ l.map (·.1)->yT l h=l
 |[],_=>rfl
 |e::l,n=>by
  rw[bN,bJ] at n;have c:e.1≠h:=λz=>n (.inl z.symm);rw[yT,eC,ao (Bj c)];exact congrArg _ (zdQ λz=>n (.inr z))
theorem WM:∀ {l:List (Int×β)},(l.map (·.1)).Nodup->(h,b0)∈l->(zbZ l h b).Perm ((h,b)::yT l h)/\l.Perm ((h,b0)::yT l h)
 |e::l,nd,m=>by
  rw[bN,cF] at nd;by_cases c:e.1=h
  .have g:e=(h,b0):=zmL (l:=e::l) (by rw[bN,cF];exact nd) bK m c;have n:h ∉ l.map (·.1):=by rw[<-c];exact nd.1
   have z:yT (e::l) h=l:=by rw[yT,eC,am (by rw[decide_eq_true_eq];exact λz=>z c)];exact zdQ n
   have y:zbZ l h b=l:=(iR λe f=>am λw=>n (dz.mpr ⟨e,f,w⟩)).trans (List.map_id _);rw[z];refine⟨?_,by rw[g]⟩;show ((if e.1=h then (h,b) else e)::zbZ l h b).Perm _;rw[ao c,y]
  .have m:=(bJ.mp m).resolve_left λz=>c (by rw[<-z]);obtain⟨d,a⟩:=WM nd.2 m;have z:yT (e::l) h=e::yT l h:=by rw[yT,eC,ao (Bj c)];rfl
   rw[z];refine⟨?_,(a.cons e).trans (.swap ..)⟩;show ((if e.1=h then (h,b) else e)::zbZ l h b).Perm _;rw[am c];exact(d.cons e).trans (.swap ..)
theorem zdR(d:(l.map (·.1)).Nodup)(m:(h,b0)∈l):((zbZ l h b).map q).sum=q (h,b)+((yT l h).map q).sum/\(l.map q).sum=q (h,b0)+((yT l h).map q).sum:=by
 obtain⟨c,a⟩:=WM (b:=b) d m;exact⟨(c.map q).sum_nat.trans (by rw[bN,gn]),(a.map q).sum_nat.trans (by rw[bN,gn])⟩
end
section
variable {n h:Int}{CC:List (List Int)}{S S':DS}
theorem Mv.ok(ok:hV n CC S)(q:Mv CC S h S')(p:0<=h)(o:h<n):hV n CC S':=by
 cases q with
 |@step r k C m ec lt =>
  obtain⟨f,d⟩:=WM (b:=(r,k+1)) ok.hn m;have g:∀e∈zbZ S.hl h (r,k+1),e=(h,r,k+1)\/e∈S.hl:=λe c=>(bJ.mp (f.mem_iff.mp c)).imp id λz=>(dropH_mem.mp z).1;refine { ok with pm:=?_,hn:=?_,hr:=λe c=>?_,rn:=λe c=>?_ }
  .exact lJ (.append_left _ (.append_right _ ((f.map (·.2.1)).trans (d.map (·.2.1)).symm))) ok.pm
  .exact((f.map (·.1)).trans (d.map (·.1)).symm).nodup_iff.mpr ok.hn
  .rcases g e c with z|z
   .rw[z];exact ok.hr (h,r,k) m
   .exact ok.hr e z
  .rcases g e c with z|z
   .rw[z];exact⟨C,ec,lt⟩
   .exact ok.rn e z
 |@lay r C db m ec nd sub =>
  obtain⟨_,d⟩:=WM (b:=(r,0)) ok.hn m;refine { ok with pm:=?_,hn:=ok.hn.sublist (List.Sublist.map _ List.filter_sublist),hr:=λe c=>ok.hr e (dropH_mem.mp c).1,rn:=λe c=>ok.rn e (dropH_mem.mp c).1,dn:=nd,ds:=λy s=>?_ }
  .refine lJ (.append_left _ ?_) ok.pm;show ((yT S.hl h).map (·.2.1)++(S.ld++[(r,PUnit.unit)]).map (·.1)).Perm _;rw[cm,<-cN];exact(pS (l₁:=(yT S.hl h).map (·.2.1)++S.ld.map (·.1)) (l₂:=[r])).trans (.append_right _ (d.map (·.2.1)).symm)
  .show y∈(S.ld++[(r,PUnit.unit)]).map (·.1);rw[cm,cj];exact(sub y s).imp (ok.ds y) λz=>by rw[z];exact List.mem_singleton.mpr rfl
 |settle m fr =>
  obtain⟨e,c,x⟩:=dz.mp m;obtain⟨_,d⟩:=WM (h:=(S.en:Int)) (b0:=PUnit.unit) (b:=PUnit.unit) ok.nd.2.1.2.1 (by rw[<-x];exact c);obtain⟨j,l,_,i⟩:=ok.rl m;refine { ok with el:=by show S.en+1<=CC.length;lia,pm:=?_,dn:=gB,ds:=λ_ z=>nomatch z };have z:=ok.pm;rw[zdP (show S.en<CC.length by lia)] at z;refine List.Perm.cons_inv (a:=(S.en:Int)) (lJ ?_ z);have y:=d.map (·.1);refine lJ ?_ (.append_left _ (.append_left _ y.symm));show ((S.en:Int)::(S.ws++(S.hl.map (·.2.1)++(yT S.ld S.en).map (·.1)))).Perm (S.ws++(S.hl.map (·.2.1)++((S.en:Int)::(yT S.ld S.en).map (·.1))));rw[<-cN,<-cN];exact(sR).symm
 |@take w ws nl fr ew =>
  obtain⟨j,l,_,i⟩:=ok.rw_ (r:=w) (by rw[ew];exact bK);refine { ok with pm:=?_,hn:=?_,hr:=λe c=>?_,rn:=λe c=>?_,dn:=gB,ds:=λ_ z=>nomatch z }
  .refine lJ ?_ ok.pm;rw[ew];show (ws++((S.hl++[(h,w,0)]).map (λe:Int×Int×Nat=>e.2.1)++S.ld.map (λe=>e.1))).Perm (w::(ws++(S.hl.map (λe=>e.2.1)++S.ld.map (λe=>e.1))));rw[cm,cN,<-cN,<-cN ws];exact sR
  .show ((S.hl++[(h,w,0)]).map (λe:Int×Int×Nat=>e.1)).Nodup;rw[cm,n9];exact⟨ok.hn,cF.mpr ⟨dE,gB⟩,λa v b u e=>fr (by rw[show b=h from bY.mp u] at e;rw[<-e];exact v)⟩
  .rcases cj.mp c with z|z
   .exact ok.hr e z
   .rw[bY.mp z];exact⟨p,o⟩
  .rcases cj.mp c with z|z
   .exact ok.rn e z
   .rw[bY.mp z];exact⟨CC[j],by show CC[w.toNat]?=U CC[j];rw[l];exact bj i,bU _⟩
 |rest=>exact { ok with dn:=gB,ds:=λ_ z=>nomatch z }
def lnR(CC:List (List Int))(r:Int):Nat:=((CC[r.toNat]?).getD []).length
def Phi(CC:List (List Int))(S:DS):Nat:=(S.ws.map λr=>lnR CC r+4).sum+((S.hl.map λe=>lnR CC e.2.1-e.2.2+3).sum+S.ld.length)
theorem zlY{r:Int}{C:List Int}(h:CC[r.toNat]?=U C):lnR CC r=C.length:=by unfold lnR;rw[h];rfl
theorem Mv.dec(ok:hV n CC S)(a:Mv CC S h S'):(S'={ S with db:=[] }/\(S.en:Int) ∉ S.ld.map (·.1)/\h ∉ S.hl.map (·.1)/\S.ws=[])\/Phi CC S'<Phi CC S:=by
 cases a with
 |@step r k C m ec lt =>
  obtain⟨d,c⟩:=zdR (b:=(r,k+1)) (q:=λe=>lnR CC e.2.1-e.2.2+3) ok.hn m;have:=zlY ec;refine .inr ?_;unfold Phi;dsimp only at *
  lia
 |@lay r C db m ec nd sub =>
  obtain⟨d,c⟩:=zdR (b:=(r,0)) (q:=λe=>lnR CC e.2.1-e.2.2+3) ok.hn m;refine .inr ?_;unfold Phi;dsimp only at *
  rw[bn,gL];lia
 |settle m fr =>
  have f:=Vw ok.nd.2.1.2.1 m;refine .inr ?_;unfold Phi;dsimp only at *
  lia
 |@take w ws nl fr ew =>
  refine .inr ?_;unfold Phi;dsimp only;rw[ew,cm,tE];simp only[bN,gn,mn,List.sum_nil];lia
 |rest nl fr ew=>exact .inl ⟨Y,nl,fr,ew⟩
theorem XV{a:Type}{q:a->Nat}{c:Nat}:∀ {l:List a},(∀x∈l,q x<=c)->(l.map q).sum<=c*l.length
 |[],_=>bU _
 |x::l,h=>by
  have i:=XV λy b=>h y (bF x b);have:=h x bK;rw[bN,gn,bR,Nat.mul_add];lia
theorem zlZ(d:hV n CC S):Phi CC S<=96:=by
 have f:∀r,lnR CC r<=4:=λr=>by
  unfold lnR;cases e:CC[r.toNat]? with
  |none=>exact bU _
  |some C=>exact d.cn C (cw e)
 have a:=XV (q:=λr=>lnR CC r+4) (c:=8) (l:=S.ws) λx _=>by have:=f x;lia
 have b:=XV (q:=λe:Int×Int×Nat=>lnR CC e.2.1-e.2.2+3) (c:=8) (l:=S.hl) λx _=>by have:=f x.2.1;lia
 have:=d.len;have:=d.cc;unfold Phi;lia
end
section
variable {H':Hp}{lb lb':L->Nat}{d l:L}{a:ui}{xs ys:List V}{CC:List (List Int)}{n h:Int}{S S':DS}{v:V}
theorem Fr.up{M:Nat->Prop}(h:Fr M H H' lb lb')(f:H' l=U (.lst xs))(c:H l=ah):Fr M H (upd H' l (.lst ys)) lb lb':=⟨h.ex,λb o z e=>by rw[zm (λy=>by rw[y,c] at e;cases e)];exact h.kp b o z e,λb zs e=>Vu f () _ _ (h.ts b zs e),λb o e=>let ⟨o',e'⟩:=h.al b o e;Qf b o' e'⟩
def TnI(n:Int)(S:DS)(i t:Nat):Prop:=t<8/\(S.hl=[]\/∃e∈S.hl,((i:Int)+t)%n=e.1)
theorem zjb(b:hV n CC S)(k:1<=n)(j:n<=8)(i:Nat):∃t,TnI n S i t:=by
 cases e:S.hl with
 |nil=>exact⟨0,(),.inl e⟩
 |cons x xs =>
  have m:x∈S.hl:=by rw[e];exact bK
  obtain⟨g,f⟩:=b.hr x m;have c:=fL (x.1-i) (show n≠0 by lia);have o:=fV (x.1-i) (show 0<n by lia);refine⟨((x.1-i)%n).toNat,(),.inr ⟨x,m,?_⟩⟩;rw[iV c,Int.add_emod,Int.emod_emod_of_dvd _ (Int.dvd_refl n),<-Int.add_emod,show (i:Int)+(x.1-i)=x.1 by lia,Int.emod_eq_of_lt g f]
structure FnI(t:aV)(H:Hp)(d l:L)(a:ui)(lb:L->Nat)(n:Int)(CC:List (List Int))(m:Nat)(H':Hp)(lb':L->Nat)(xs:List V)(S:DS)(t':Nat):Prop where
 em:m=8*Phi CC S+t'
 lm:xs.length+m<=900
 tn:TnI n S xs.length t'
 fr:Fr M0 H H' lb lb'
 hl:H' l=U (.lst xs)
 l0:lb' l=0
 ok:hV n CC S
 dk:ua t H' d a lb' n CC S
def FnE(t:aV)(H:Hp)(d l:L)(a:ui)(lb:L->Nat)(n:Int)(CC:List (List Int))(m:Nat)(b:St)(H':Hp):Prop:=b=[U (.ref d),U (.ref l)]/\∃lb' xs S c,FnI t H d l a lb n CC m H' lb' xs S c
theorem FnI.next{o:Hp}{b:L->Nat}(I:FnI t H d l a lb n CC m H' lb' xs S t')(G:1<=n)(E:n<=8)(D:H l=ah)(C:S.en<CC.length)(s:Fr M0 H' o lb' b)(u:Mv CC S ((xs.length:Int)%n) S2)(N:ua t o d a b n CC S2):o l=U (.lst xs)/\∃j,j<m/\FnE t H d l a lb n CC j [U (.ref d),U (.ref l)] (upd o l (.lst (xs++[v]))):=by
 have M:=fL (xs.length:Int) (show n≠0 by lia);have J:=fV (xs.length:Int) (show 0<n by lia);have c:=s.kp _ _ (by rw[I.l0];exact .inl Y) I.hl;have y:b l=0:=(s.ex _ _ I.hl).trans I.l0;have i:=Mv.ok I.ok u M J;have em:=I.em;have lm:=I.lm;refine⟨c,?_⟩;have k:∀g,TnI n S2 (xs.length+1) g->8*Phi CC S2+g<m->∃j,j<m/\FnE t H d l a lb n CC j [U (.ref d),U (.ref l)] (upd o l (.lst (xs++[v]))):=λg p q=>⟨_,q,Y,b,xs++[v],S2,g,Y,by rw[bn];show xs.length+1+_<=900;lia,by rw[bn];exact p,(I.fr.trans s).up c D,zi,y,i,N.put c () y⟩;rcases u.dec I.ok with ⟨e12,nl,fr,w⟩|dc
 .have B:S.hl≠[]:=λz=>by
   have:=I.ok.pm;rw[w,z,zdP C] at this;exact nl (this.mem_iff.mpr bK)
  obtain⟨x,A,r⟩:=I.tn.2.resolve_left B;have O:t'≠0:=λz=>fr (by
   rw[z,show (xs.length:Int)+((0:Nat):Int)=xs.length by lia] at r;rw[r];exact de (f:=λe:Int×Int×Nat=>e.1) A)
  have:=I.tn.1;have T:Phi CC S2=Phi CC S:=by rw[e12];rfl
  exact k (t'-1) ⟨(),.inr ⟨x,by rw[e12];exact A,by rw[show ((xs.length+1:Nat):Int)+((t'-1:Nat):Int)=xs.length+t' by lia];exact r⟩⟩ ()
 .obtain⟨g,p⟩:=zjb i G E (xs.length+1);have:=p.1;exact k g p ()
theorem JA(D:uE K t)(h:ua t H d a lb n CC S)(f:hV n CC S)(r:1<=n)(p:n<=8)(q:∀v H' lb' S',Fr M0 H H' lb lb'->ua t H' d a lb' n CC S'->S'.en=CC.length->hV n CC S'->Q v H') :
  Ym K t (aX Q) (zZZ 2 [.ref d]) H:=by
 refine⟨(),λl i=>?_⟩;have j:=hU (o:=HO.lst []) l i;have P1:=zlZ f;obtain⟨y,w⟩:=zjb f r p 0;have:=w.1;refine⟨FnE t H d l a lb n CC,⟨_,Y,lb,[],S,y,Y,by show 0+_<=900;lia,w,Fr.same j,zi,h.l0 i,f,h.same j⟩,?_⟩;rintro m T M ⟨rfl,c,xs,x,t1,I⟩;obtain⟨b,u,s,E,C,lc,le⟩:=I.dk.cmp I.ok.el;refine(yE b Y Y ⟨d,a,n,s,Y,b,C,yE b Y Y ⟨d,a,n,u,Y,b,E,_,_,Y,Y,_,Y,?_⟩⟩);have el:=I.ok.el;have lm:=I.lm;rcases fe s.length u.length with lt|ge
 .refine Yz (Bj ()) ⟨λe H'=>∃k,k<m/\FnE t H d l a lb n CC k e H',λ_ _ z=>z,?_⟩;have J:=fL (xs.length:Int) (show n≠0 by lia);have G:=fV (xs.length:Int) (show 0<n by lia);refine⟨_,Y,.inl ⟨Y,_,aP.of I.hl⟩,yE b Y Y ⟨_,Y,.ref l,xs.length,Y,.inl ⟨_,aP.of I.hl,Y⟩,yv b D.cD D.d1 Y Y ⟨_,_,Y,Y,by show (0:Int)<n;lia,d,a,c,n,(xs.length:Int)%n,CC,x,Y,I.dk,I.ok,.inr ⟨J,G,λv H2 B S2 O A N=>?_⟩⟩⟩⟩;obtain⟨g,z⟩:=I.next (v:=v) r p i () O A N;exact⟨l,xs,v,Y,Y,g,yP (),z⟩
 .exact xU (Bk ()) ⟨_,Y,q _ M c x I.fr I.dk () I.ok⟩
end
section
variable {x w dx l:L}{n:Int}
theorem Qk(F:uE K t)(f:H x=U (.ins t.q07 dx []))(j:H l=U (.lst []))(q:∀c e a rk,aO x H c->c x=U (.ins t.q07 dx (ziY e a rk))->c a=U (.dK [])->H a=ah->Q .non c) :
  kx K t (aX Q) (zZZ 2 [.ref x,.ref l]) H:=by
 obtain⟨m,P,_⟩:=PO.init 2 f ⟨_,f⟩;unfold kx zo;refine⟨_,Y,l,[],[],Y,j,.nil,(),P.so (.dT []) 2 () Y F.cM F.m1 () λe r i P=>P.st Y F.cM F.m2 (by show 1<1000;decide) λp P=>P.so (.dK []) 3 () Y F.cM F.m3 (by show 2<1000;decide) λa o h P=>P.so (.dT []) 4 () Y F.cM F.m4 (by show 3<1000;decide) λrk k d P=>?_⟩;obtain⟨_,g,b⟩:=P.ob (3,a,.dK []) (.tail _ (.head _));have b:d a=3:=b;refine q k e a rk P.kp P.hx g ?_;rcases P.fr a () with y|y|y
 .rw[y,P.lx] at b;cases b
 .rw[y,P.lx] at b;cases b
 .exact y
theorem Q6{m:L}(D:uE K t)(g:H x=U (.ins t.q09 dx []))(q:∀h a i b,aO x H h->h x=U (.ins t.q09 dx (zlQ m a i b))->h a=U (.dK [])->h b=U (.dK [])->H a=ah->H b=ah->a≠b->Q .non h) :
  qI K t (aX Q) (zZZ 2 [.ref x,.ref m]) H:=by
 obtain⟨G,P,_⟩:=PO.init 2 g ⟨_,g⟩;unfold qI zo;refine P.sv Y Y D.cJ D.j1 () λM P=>P.so (.dK []) 7 () Y D.cJ D.j2 (by show 1<1000;decide) λa J r P=>P.so (.dT []) 11 () Y D.cJ D.j3 (by show 2<1000;decide) λi I p P=>P.so (.dK []) 8 () Y D.cJ D.j4 (by show 3<1000;decide) λb E e d=>?_;have j:∀n c o,(n,c,o)∈[(8,b,HO.dK []),(11,i,.dT []),(7,a,.dK [])]->E c=U o/\H c=ah/\e c=n:=λn c o z=>by
  obtain⟨g,s,f⟩:=d.ob _ z;have g:1<n:=g;have f:e c=n:=f;rcases d.fr c () with y|y|y
  .rw[y,d.lx] at f;lia
  .rw[y,d.lx] at f;lia
  .exact⟨s,y,f⟩
 obtain⟨C,B,k⟩:=j 7 a _ (.tail _ (.tail _ (.head _)));obtain⟨A,v,u⟩:=j 8 b _ (.head _);exact q _ a i b d.kp d.hx C A B v (λz=>by rw[z,u] at k;cases k)
theorem Q7{B:L}(D:uE K t)(h1:H x=U (.ins t.q00 dx []))(h2:H l=U (.lst []))(h4:H w=U (.ins t.q0d B []))(nw:w≠x)(q:∀j a A,aO x H j->(∀b o,b≠x->b≠w->H b=U o->A b=0)->ua t j x a A n [] S0->Q .non j) :
  qJ K t (aX Q) (zZZ 5 [.ref x,.ref l,.int n,.ref w,.int 0]) H:=by
 obtain⟨A,P,lw,_⟩:=PO.init (w:=w) 4 h1 ⟨_,h4⟩;have P:PO H x w _ H A [(4,w,.ins t.q0d B [])]:=⟨P.hx,P.lx,λe he=>by cases bY.mp he;exact⟨by show 1<4;decide,h4,lw nw⟩,P.ow,P.kp,P.fr⟩;have al:l≠x:=zU h2 h1 ();have kw:∀ {j:Hp},aO x H j->j w=U (.ins t.q0d B []):=λk=>k _ _ nw h4;unfold qJ zo;refine P.sv Y Y D.cD D.d1 () λH1 P=>P.sv Y Y D.cD D.d2 (by show 1<1000;decide) λH2 P=>P.sv Y Y D.cD D.d3 (by show 2<1000;decide) λH3 P=>⟨(),P.so (.lst []) 5 () Y D.cD D.d4 (by show 3<1000;decide) λcl H4 bg P=>⟨(),P.so (.lst []) 6 () Y D.cD D.d5 (by show 4<1000;decide) λwl H5 be P=>P.so (.dK []) 7 () Y D.cD D.d6 (by show 5<1000;decide) λhd H9 a9 P=>?_⟩⟩;refine⟨_,Y,?_⟩;intro m C hm aL nm;have M:ac H9 (upd (upd H9 C (HO.own m)) m (HO.ins t.q07 C [])):=λb o e=>by rw[zm (zr e hm),zm (zr e aL)];exact e
 refine⟨m,l,C,Y,zi,M _ _ (P.kp _ _ al h2),λH10 gr J rk aw r p an=>⟨Y,?_⟩⟩;have T:ac H9 H10:=λb o e=>aw b o (zr e hm) (M _ _ e);have a3:=P.same T;obtain⟨a5,a2,bt,aS⟩:=a3.lab 3 () (P.l0 hm) r;have aa:J≠m:=zU p r ();have I:=P.l0 (yk M an);obtain⟨a4,a1,bl,bk⟩:=a2.lab 10 () (by rw[aS J aa];exact I) p;replace P:=a1;refine P.st Y D.cD D.d7 (by show 6<1000;decide) λh P=>?_;refine⟨_,Y,x,_,_,_,_,Y,P.hx,D.cD,D.d7,Y,?_⟩;intro jb E hj aR nj;have N:ac h (upd (upd h E (HO.own jb)) jb (HO.ins t.q09 E [])):=λb o e=>by rw[zm (zr e hj),zm (zr e aR)];exact e
 refine⟨jb,m,E,Y,zi,λH12 la re G av g s u nl nd ld=>⟨Y,?_⟩⟩;have O:ac h H12:=λb o e=>av b o (zr e hj) (N _ _ e);obtain⟨a8,QA,aA,bA⟩:=(P.same O).lab 2 () (P.l0 hj) g;have n1:la≠jb:=zU s g ();have n2:G≠jb:=zU u g ();have zl:=P.l0 (yk N nl);have zd:=P.l0 (yk N nd);obtain⟨a7,QB,aB,bB⟩:=QA.lab 8 () (by rw[bA la n1];exact zl) s;obtain⟨a6,QC,aC,bC⟩:=QB.lab 9 () (by rw[bB G ld.symm,bA G n2];exact zd) u;refine QC.st Y D.cD D.d8 (by show 7<1000;decide) λbw P=>?_;refine⟨(),P.so (.lst []) 11 () Y D.cD D.d9 (by show 8<1000;decide) λen v f P=>?_⟩;have d:∀n c o,(n,c,o)∈_->v c=U o/\f c=n:=λn c o z=>(P.ob (n,c,o) z).2;refine q v ⟨dx,E,C,B,jb,m,w,cl,wl,hd,la,re,G,gr,J,rk,en⟩ f P.kp (λb o n1 n2 e=>iK λz=>by rcases P.fr b z with y|y|y;exact n1 y;exact n2 y;rw[y] at e;cases e) ⟨⟨[],[],[],[],[],[],[]⟩,⟨λi b o e=>?_,P.ow⟩,rfl,rfl,.nil,.nil,.nil,(),bU _,.nil⟩
 match i,e with
 |0,e=>cases e;exact⟨P.hx,P.lx⟩
 |1,e=>cases e;exact d 2 _ _ (.tail _ (.tail _ (.tail _ (.head _))))
 |2,e=>cases e;exact d 3 _ _ (.tail _ (.tail _ (.tail _ (.tail _ (.tail _ (.head _))))))
 |3,e=>cases e;exact d 4 _ _ (.tail _ (.tail _ (.tail _ (.tail _ (.tail _ (.tail _ (.tail _ (.tail _ (.tail _ (.head _))))))))))
 |4,e=>cases e;exact d 5 _ _ (.tail _ (.tail _ (.tail _ (.tail _ (.tail _ (.tail _ (.tail _ (.tail _ (.head _)))))))))
 |5,e=>cases e;exact d 6 _ _ (.tail _ (.tail _ (.tail _ (.tail _ (.tail _ (.tail _ (.tail _ (.head _))))))))
 |6,e=>cases e;exact d 7 _ _ (.tail _ (.tail _ (.tail _ (.tail _ (.tail _ (.tail _ (.head _)))))))
 |7,e=>cases e;exact d 8 _ _ (.tail _ (.tail _ (.head _)))
 |8,e=>cases e;exact d 9 _ _ (.tail _ (.head _))
 |9,e=>cases e;exact d 10 _ _ (.tail _ (.tail _ (.tail _ (.tail _ (.head _)))))
 |10,e=>cases e;exact d 11 _ _ (.head _)
end
def soI(l p:L)(c:List V)(H:Hp)(i:Nat)(b:St)(a:Hp):Prop:=(∃d,b=[U (.ref l),U (.int 0),U (.ref p),d])/\ac H a/\a p=U (.lst (c.take i))
section
variable {l:L}{xs:List V}{ns:List Int}
theorem zcg(h:H l=U (.lst xs))(g:Paired (ul H) xs ns)(w:ns.length<=40)(q:∀c a,ac H a->H c=ah->a c=U (.lst xs)->Q (.ref c) a) :
  Yo K t (aX Q) (zZZ 4 [.ref l,.int 0]) H:=by
 simp only[Yo,jS,zbq,zZZ,zP,YG,ya,zo,zM,zq,zD,zT,aN,Z,tC,yr,ze,zj,kC,zO,zy,tW,ud,tyV,zG,YS,xz,ya,uk,ur,xF,qa,cE,bD,bQ,cf,cp,bu,bd,bh,aj,V.int.injEq,V.ref.injEq,V.bl.injEq,bx,and_true,true_and,ak,bX,bZ,bO,bL,decide_eq_true_eq];refine⟨(),λp b=>⟨⟨_,aP.of (hU p b _ _ h)⟩,?_⟩⟩;have o:=cT g;refine YK xs (soI l p xs H) ⟨⟨_,Y⟩,hU p b,zi⟩ (λi d a z=>aP.of (z.2.1 _ _ h)) ?_ ?_
 .rintro i v d a f ⟨⟨j,rfl⟩,s,e⟩;obtain⟨n,u,r,m,rfl,k,x⟩:=Paired.getP g f;simp only[bd,bq,bh,aj,V.int.injEq,V.ref.injEq,bX,bZ];refine⟨_,tZ.of (s _ _ k),_,Y,Y,?_⟩;rw[am (λz=>absurd (V.str.inj z) ())];refine⟨.inl ⟨_,aP.of e⟩,_,e,yP (by rw[c7];lia),⟨_,Y⟩,xa s b,?_⟩;rw[zi,gg,f];rfl
 .rintro d a ⟨⟨j,rfl⟩,s,e⟩;rw[mG] at e;simp only[bd,bq,bh,aj];exact q p a s b e
theorem zdS(e:H l=U (.lst xs))(d:Paired (ul H) xs ns)(c:ns.length<=40)(q:∀a b,ac H b->H a=ah->b a=U (.lst xs)->Q (.ref a) b) :
  XM K t (aX Q) (zZZ 1 [.ref l]) H:=by
 simp only[XM,ZQ,zZZ,zD,Z,tC,ze,zj,zG,cE,bD,bQ,bu,bd,bh,aj,V.ref.injEq,bx,and_true,ak,bO,bL];exact⟨xs,e,ns,d,c,q⟩
end
theorem zch{l:L}(j:H l=U (.lst []))(q:∀b a,ac H a->a b=U (.lst [])->Q (.ref b) a) :
  Jb K t (aX Q) (zZZ 2 [.ref l]) H:=by
 refine⟨_,Y,l,[],[],Y,j,.nil,(),λp h=>?_⟩;generalize c1:upd H p _=H1;have g:ac H H1:=by rw[<-c1];exact hU p h
 have k:H1 p=U (.dT []):=by rw[<-c1];exact zi
 refine⟨_,Y,p,Y,k,λb n f _ e=>⟨b,Y,⟨_,aP.of e⟩,λD d=>⟨λi _ c _ a=>i=0/\c=[]/\a=upd n D (.lst []),⟨0,Y,Y,Y⟩,?_⟩⟩⟩;rintro i m c o a ⟨rfl,rfl,rfl⟩;exact⟨zi,.inl ⟨⟨_,aP.of (hU D d _ _ e),br _⟩,q _ _ ((g.trans f).trans (hU D d)) zi⟩⟩
theorem zk7{g:Hp->Prop}{B:V->St->Hp->(V->St->Hp->Prop)->(St->Hp->Prop)->Prop}(j:H l=U (.lst []))(f:H D=ah)(q:ac H (upd H D (.lst []))->upd H D (.lst []) D=U (.lst [])->g (upd H D (.lst []))) :
  ∃W:Nat->Nat->List V->St->Hp->Prop,(∃m,W 0 m [] τ₀ (upd H D (.lst [])))/\∀i m c e H,W i m c e H->H D=U (.lst c) /\
  (((Itl K l).stop i H/\g H)\/((Itl K l).go i H/\c.length<Bb/\∃N:V->St->Hp->Prop,
   (∀v b a,N v b a->a D=U (.lst c)/\∃d,d<m/\W (i+1) d (c++[v]) b (upd a D (.lst (c++[v]))))/\∃h:St->Hp->Prop,(∀b a,h b a->∃d,d<m/\W (i+1) d c b a) /\
   ∀x a,(Itl K l).yld i H x a->B x e a N h)):=
 ⟨λi _ c _ a=>i=0/\c=[]/\a=upd H D (.lst []),⟨0,Y,Y,Y⟩,by rintro i m c e a ⟨rfl,rfl,rfl⟩;exact⟨zi,.inl ⟨⟨_,aP.of (hU D f _ _ j),br _⟩,q (hU D f) zi⟩⟩⟩
theorem zjc:cP t9 (bb "\n")=[mkS,bb ""]:=by lia
theorem zk8:cP (jt (bb " ") (Wr 0 [])) (bb " ")=[bb "mark",bb "0",bb ";"]:=by lia
theorem zl0:uf (jt (bb " ") (Wr 0 [])):=by unfold uf;lia
theorem zeZ:(jt (bb " ") (Wr 0 [])).length<=100/\mkS.length<=100/\t9.length<=100:=by lia
theorem Q8(q:∀p g e,ac H e->H g=ah->e g=U (.lst [])->e p=U (.tup [.str "mark",.int 0,.ref g])->Q (.ref p) e) :
  qH K t (aX Q) (zZZ 4 [.str (za8 (Wr 0 []))]) H:=by
 simp only[qH,XB,wu,zZZ,zo,zM,zq,Z,tC,ze,zj,ud,tyV,zG,cE,bD,bQ,cf,cp,bu,bd,bh,aj,V.str.injEq,bx,and_true,true_and,ak,bX,bZ,bO,bL];have A:=zeZ;refine⟨jt (bb " ") (Wr 0 []),Y,zl0,(),λn i=>⟨Y,(),by rw[zk8];decide,λl w=>?_⟩⟩;rw[zk8];have h:=hU (o:=HO.lst ([bb "mark",bb "0",bb ";"].map V.str)) l w;have b:upd n l (.lst ([bb "mark",bb "0",bb ";"].map V.str)) l=U (.lst ([bb "mark",bb "0",bb ";"].map V.str)):=zi;generalize upd n l (HO.lst ([bb "mark",bb "0",bb ";"].map V.str))=H2 at *
 simp only[Ya,Z9,Z8,Xz,XA,Xu,zo,zM,zq,zD,zH,xt,aN,Z,tC,ze,zj,zO,zy,ud,tyV,tSl,wF,yI,zG,x6,uk,ur,rIn,Xh,qa,bu,bd,bq,bh,aj,V.int.injEq,V.ref.injEq,V.str.injEq,V.bl.injEq,bx,and_true,true_and,and_assoc,ak,bX,bZ,decide_eq_true_eq,cr,if_true];refine⟨_,.inl (aP.of b),Y,Y,?_⟩;rw[am ()];refine⟨.inl ⟨_,aP.of b⟩,_,b,(),_,aP.of b,λp k=>⟨by rw[zi];rfl,λv B s f m=>?_⟩⟩;have a:=(hU p k).trans s;refine⟨_,aP.of (a _ _ b),_,Y,Y,?_⟩;rw[am (λz=>absurd (V.str.inj z) ())];refine⟨_,aP.of (a _ _ b),_,Y,Y,?_⟩;rw[ao rfl];refine⟨_,aP.of (a _ _ b),λj d=>?_⟩;refine⟨by rw[zi];rfl,hU j d _ _ m,λu y r x=>?_⟩;have c:=(hU j d).trans r;exact q u v y (i.trans (h.trans (a.trans c))) (yk (i.trans (h.trans (hU p k))) f) (c _ _ m) x
theorem zci(q:∀l a,ac H a->H l=ah->a l=U (.lst [.str mkS])->Q (.ref l) a) :
  Yc K t (aX Q) (zZZ 1 [.str t9]) H:=by
 simp only[Yc,wu,zZZ,zD,tUn,Z,tC,ze,zj,ud,tyV,tSl,wF,yI,rU,Xh,cE,bD,bQ,bu,bd,bh,aj,V.int.injEq,V.ref.injEq,V.str.injEq,bx,and_true,true_and,ak,bO,bL,lH];have e:=zeZ;refine⟨Y,(),by rw[zjc];decide,λl d=>?_⟩;rw[zjc];have b:=hU (o:=HO.lst ([mkS,bb ""].map V.str)) l d;exact⟨_,aP.of zi,λp c=>q p _ (b.trans (hU p c)) (yk b c) (by rw[zi];rfl)⟩
theorem zdT{l:L}(a:H l=U (.lst [.str mkS]))(q:∀g,ac H g->Q (.str t9) g) :
  XI K t (aX Q) (zZZ 1 [.ref l]) H:=by
 simp only[XI,zZZ,wG,zq,zD,aN,Z,tC,ze,zj,ud,tyV,wd,Zi,Jp,xz,J9,cE,bD,bQ,bu,bd,bh,aj,V.ref.injEq,V.str.injEq,bx,and_true,true_and,ak,bO,bL,if_true];have n:=zeZ;refine⟨⟨_,aP.of a⟩,λD k=>?_⟩;refine zi5 (J:=Itl K l) 1 () (λf=>∃o,f=[o]) (λi b _=>b=[V.str t9].take i) (λ_ _ _ _ _ h=>h) ⟨_,Y⟩ Y (λi H s h=>⟨_,_,aP.of (s _ _ a),bj h⟩) (λH s=>⟨_,aP.of (s _ _ a),br _⟩) k ?_ ?_
 .rintro i v f b m r ⟨o,rfl⟩ c p e ⟨rfl,d⟩;obtain rfl:i=0:=by lia
  have d:=d _ (aP.of (c _ _ a));cases d;subst e;simp only[bd,bh,aj,V.str.injEq,bx,and_true,bX,bL];exact⟨by rw[dq,show (bb "\n").length=1 from by lia];lia,⟨_,Y⟩,by show [V.str (mkS++bb "\n")]=[V.str t9];rw[show bb "\n"=vJ from by lia];rfl,ac.refl _⟩
 .intro b m _ e c j;subst e;exact⟨[t9],aP.of j,(),by rw[show jt (bb "") [t9]=t9 from by lia];exact q _ c⟩
theorem zcj(q:∀p g a,ac H a->H g=ah->a g=U (.lst [])->a p=U (.tup [.str "mark",.int 0,.ref g])->Q (.ref p) a) :
  Yb K t (aX Q) (zZZ 2 [.str mkS]) H:=by
 simp only[Yb,qz,zZZ,zD,Z,ze,zj,zG,cE,bD,bQ,cf,cp,bu,bd,bh,aj,V.str.injEq,bx,and_true,bO,bL];exact⟨Y,q⟩
def enW(H:Hp)(D:L)(i m:Nat)(b:List V)(c:St)(a:Hp):Prop:=i=0/\m=1/\b=[]/\c=[ah]/\a=upd H D (.lst [])\/i=1/\m=0/\∃p g,b=[.ref p]/\ac H a/\a D=U (.lst [.ref p])/\a g=U (.lst [])/\a p=U (.tup [.str "mark",.int 0,.ref g])
theorem Ql(q:∀l p g r,ac H r->r l=U (.lst [.ref p])->r g=U (.lst [])->r p=U (.tup [.str "mark",.int 0,.ref g])->Q (.ref l) r) :
  ku K t (aX Q) (zZZ 2 [.str t9]) H:=by
 simp only[ku,jZ,ZZ,zZZ,qo,ya,zo,zM,zq,zD,zH,xt,aN,Z,tC,yr,ze,zj,zO,tOr,zy,zG,wd,Zi,Jp,xz,x6,ya,uF,qa,cE,bD,bQ,cf,cp,bu,bd,bq,bh,aj,V.int.injEq,V.ref.injEq,V.bl.injEq,bx,and_true,true_and,ak,bX,bZ,bO,bL,decide_eq_true_eq,cr,decide_eq_false_iff_not,if_true];intro l C G T k;refine⟨⟨_,aP.of k⟩,λD h=>⟨enW C D,⟨1,.inl ⟨Y,Y,Y,Y,Y⟩⟩,?_⟩⟩;have O:=zr k h;rintro i m N M B (⟨rfl,rfl,rfl,rfl,rfl⟩|⟨rfl,rfl,p,g,rfl,s,f,j,d⟩)
 .refine⟨zi,.inr ⟨⟨_,_,aP.of ((hU D h) _ _ k),Y⟩,(),λv _ a=>∃p g,v=.ref p/\ac C a/\a D=U (.lst [])/\g≠D/\a g=U (.lst [])/\a p=U (.tup [.str "mark",.int 0,.ref g]),?_,λ_ _=>False,λ_ _ z=>z.elim,?_⟩⟩
  .rintro _ E a ⟨p,g,rfl,s,f,n,j,d⟩;exact⟨f,0,(),.inr ⟨Y,Y,p,g,Y,λb o e=>by rw[zm (zr e h)];exact s b o e,zi,by rw[zm n];exact j,by rw[zm (zU d f ())];exact d⟩⟩
  .rintro x a ⟨rfl,w⟩;have w:=w _ (aP.of ((hU D h) _ _ k));cases w;exact⟨_,Y,Y,λp g H4 y A j d=>⟨p,g,Y,(hU D h).trans y,y _ _ zi,(λz=>by rw[z,zi] at A;cases A),j,d⟩⟩
 .refine⟨f,.inl ⟨⟨_,aP.of (s _ _ k),br _⟩,(),λu I=>?_⟩⟩;have c:=hU (o:=HO.lst []) u I;have J:upd B u (.lst []) u=U (.lst []):=zi;generalize upd B u (HO.lst [])=a at *
  refine⟨_,aP.of (c _ _ f),aP.of J,?_⟩;rw[am ()];refine⟨_,aP.of (c _ _ f),_,Y,_,Y,_,tZ.of (c _ _ d),_,Y,Y,?_⟩;rw[am (λz=>z Y)];exact q D p g a (G.trans (s.trans c)) (c _ _ f) (c _ _ j) (c _ _ d)
theorem zdU(q:∀r b a d,ac H d->d r=U (.tup [.int 0,.ref b,.ref a])->d b=U (.lst [])->d a=U (.lst [])->H a=ah->Q (.ref r) d) :
  KR K t (aX Q) (zZZ 6 [.str t9]) H:=by
 refine⟨_,Y,Y,λl p g D n k z w=>⟨_,Y,l,_,0,_,Y,Y,aP.of k,Y,p,_,1,_,Y,Y,tZ.of w,Y,_,Y,l,_,0,_,Y,Y,aP.of k,Y,p,_,2,_,Y,Y,tZ.of w,Y,g,_,Y,.inl (aP.of z),λu j=>?_⟩⟩;generalize c1:upd D u _=H2;obtain⟨h,C⟩:=uA c1 j;refine⟨bU _,λa c=>?_⟩;generalize c2:upd H2 a _=H3;obtain⟨f,B⟩:=uA c2 c;refine⟨_,Y,_,Y,l,_,Y,aP.of ((h.trans f) _ _ k),λs i=>?_⟩;rw[show Xg [V.ref p] (U 1) ah=[] from rfl];generalize c3:upd H3 s _=H4;obtain⟨e,x⟩:=uA c3 i;refine⟨s,Y,⟨_,aP.of x⟩,Jh x ⟨_,Y,_,Y,u,Y,(f.trans e) _ _ C,λb E y A=>⟨_,Y,sz3,λr v=>?_⟩⟩⟩;have m:=y.trans (hU (o:=HO.tup [V.int 0,V.ref b,V.ref a]) r v);exact q r b a _ (n.trans (h.trans (f.trans (e.trans m)))) zi (hU r v _ _ A) ((e.trans m) _ _ B) (yk (n.trans h) c)
section
variable {a g p:L}{v o:V}{sa:List Int}{r:Int}
theorem sz1:1<=Bb:=by rw[dq];decide
theorem Q9(d:H a=U (.lst []))(q:∀l c,ac H c->H l=ah->c l=U (.lst [])->Q (.ref l) c) :
  Wy K t (aX Q) (zZZ 4 [.ref a]) H :=
 ⟨bU _,λp b=>⟨_,Y,a,Y,⟨_,aP.of (hU p b _ _ d)⟩,Jh (hU p b _ _ d) ⟨_,Y,q p _ (hU p b) b zi⟩⟩⟩
theorem WN(N:OcAt H v (.done sa))(l1:sa.length<=300)(C:∀i∈sa,wB i)(q:∀l m,ac H m->H l=ah->m l=U (.lst ((ocW (.done sa)).map V.str))->Q (.ref l) m) :
  kQ K t (aX Q) (zZZ 1 [v]) H:=by
 obtain⟨o,y,rfl,u,j⟩:=N;refine zeI Y u Y (λz=>absurd z ()) λ_=>⟨sz1,λp G=>?_⟩;generalize c1:upd H p _=H1;obtain⟨c,O⟩:=uA c1 G;refine⟨_,Y,o,_,1,_,Y,Y,tZ.of (c _ _ u),Y,y,Y,⟨_,tZ.of (c _ _ j)⟩,λD M=>?_⟩;refine kG (J:=Itt K y) sa.length () (λn=>∃o,n=[o]) (λi v=>∃w,(sa.map zY)[i]?=U w/\v=.str w) ⟨_,Y⟩ (λi H s h=>⟨_,_,tZ.of (s _ _ (c _ _ j)),bj (by rw[bi];lia)⟩) (λH s=>⟨_,tZ.of (s _ _ (c _ _ j)),by rw[bi];lia⟩) M ?_ ?_
 .rintro i x n T H3 ⟨o',rfl⟩ f k ⟨rfl,d⟩;have d:=d _ (tZ.of (f _ _ (c _ _ j)));rw[bW,bj k] at d;cases d;exact⟨_,Y,_,Y,zdJ (C _ (oQ k)),λH4 B=>⟨⟨_,Y⟩,⟨_,by rw[bW,bj k];rfl,Y⟩,B⟩⟩
 .intro ys T I d f E;have e:=zkt (ws:=sa.map zY) (by rw[bi];exact I) d;subst e;refine⟨p,D,_,_,Y,Y,f _ _ O,E,zR (by rw[bi,bi];show 1+_<=_;lia),λb A=>?_⟩;exact q b _ ((c.trans f).trans (hU b A)) (yk (c.trans f) A) zi
theorem zaa{G:L}(z:H p=U (.tup [o,.ref G,.ref g]))(y:rB r)(h3:OcAt H o (.done sa))(l1:sa.length<=300)(u:∀i∈sa,wB i)(h5:H g=U (.lst []))(q:∀x E,ac H E->Q (.str x) E) :
  Wz K t (aX Q) (zZZ 2 [.int r,.ref p]) H:=by
 refine⟨_,Y,r,Y,zdJ (zlR y),λH1 O=>⟨sz2,λb hb=>?_⟩⟩;generalize c2:upd H1 b _=H2;obtain⟨N,g2⟩:=uA c2 hb;have j:=O.trans N;refine⟨_,Y,p,_,0,_,Y,Y,tZ.of (j _ _ z),Y,o,sa,Y,h3.same j,l1,u,λl H3 n _ g3=>⟨b,l,_,_,Y,Y,n _ _ g2,g3,zR (by rw[bi];show 2+((sa.map zY).length+1)<=_;rw[bi];lia),λD f=>?_⟩⟩;generalize c4:upd H3 D _=H4;obtain⟨M,g4⟩:=uA c4 f;refine⟨sz1,λC e=>?_⟩;generalize c5:upd H4 C _=H5;obtain⟨m,g5⟩:=uA c5 e;have s:(([V.str "deal",V.str (zY r)]:List V)++(ocW (.done sa)).map V.str).length=sa.length+3:=by rw[bn,bi];show 2+((sa.map zY).length+1)=_;rw[bi];lia
 refine⟨D,C,_,_,Y,Y,m _ _ g4,g5,zR (by rw[s];show _+1<=_;lia),λB d=>?_⟩;generalize c6:upd H5 B _=H6;obtain⟨J,g6⟩:=uA c6 d;have h:=(((j.trans n).trans M).trans m).trans J;refine⟨_,Y,p,_,2,_,Y,Y,tZ.of (h _ _ z),Y,g,Y,h _ _ h5,λT H7 k _ g7=>⟨B,T,_,_,Y,Y,k _ _ g6,g7,zR (by rw[bn,s];show _+1+0<=_;lia),λA c=>⟨A,[("deal":Str),zY r,("done":Str)]++sa.map zY++[(";":Str)],Y,?_,?_,?_,λH9 I=>q _ H9 ((h.trans k).trans ((hU A c).trans I))⟩⟩⟩
 .rw[zi,bu,cm,cm];rfl
 .intro w hw;rcases cj.mp hw with hw|hw
  .rcases cj.mp hw with hw|hw
   .rcases bJ.mp hw with rfl|hw
    .exact Yy (x:="deal") () ()
    .rcases bJ.mp hw with rfl|hw
     .exact Qe (zdJ (zlR y))
     .rw[bY.mp hw];exact Yy (x:="done") () ()
   .obtain⟨i,hi,rfl⟩:=dz.mp hw;exact Qe (zdJ (u i hi))
  .rw[bY.mp hw];exact Yy (x:=";") () ()
 .rw[bn,bn,bi];show 3+_+1<=_;lia
theorem zab(n:H g=U (.lst []))(q:∀h,ac H h->Q (.str mkS) h) :
  WA K t (aX Q) (zZZ 2 [.int 0,.ref g]) H:=by
 refine⟨_,Y,0,Y,(),λz k=>⟨sz3,λb m=>?_⟩⟩;generalize c2:upd z b _=H2;obtain⟨j,u⟩:=uA c2 m;have f:=k.trans j;refine⟨_,Y,g,Y,f _ _ n,λl A d _ s=>⟨b,l,_,_,Y,Y,d _ _ u,s,zR (by show 3+0<=_;decide),λe c=>⟨e,Wr 0 [],Y,?_,?_,(),λy i=>q y ((f.trans d).trans ((hU e c).trans i))⟩⟩⟩
 .rw[zi];rfl
 .intro w hw;rcases bJ.mp hw with rfl|hw
  .exact Yy (x:="mark") () ()
  .rcases bJ.mp hw with rfl|hw
   .exact Qe ()
   .rw[bY.mp hw];exact Yy (x:=";") () ()
theorem zdV(f:H a=U (.lst [.str "mark",.str (zY 0)]))(e:H g=U (.lst []))(q:∀p c,ac H c->c p=U (.tup [.str "mark",.int 0,.ref g])->Q (.ref p) c) :
  KQ K t (aX Q) (zZZ 2 [.ref a,.ref g]) H:=by
 refine⟨_,Y,.ref a,2,Y,.inl ⟨_,aP.of f,Y⟩,Y,_,Y,xU Y ⟨_,Y,g,Y,⟨_,aP.of e⟩,λD k=>zk7 e k λd i=>⟨D,[],Y,aP.of i,_,Y,xU Y ⟨_,Y,a,_,1,_,Y,Y,aP.of (d _ _ f),Y,0,Y,⟨(),()⟩,λl h=>⟨_,Y,sz3,λb j=>q b _ ((d.trans h).trans (hU b j)) zi⟩⟩⟩⟩⟩
theorem zdW(s:H a=U (.lst []))(q:∀l c,ac H c->H l=ah->c l=U (.lst [])->Q (.ref l) c) :
  KP K t (aX Q) (zZZ 5 [.ref a]) H:=by
 refine⟨_,Y,.ref a,0,Y,.inl ⟨_,aP.of s,Y⟩,_,_,Y,Y,(),Y,_,Y,xU Y ⟨bU _,λp n=>?_⟩⟩;generalize c1:upd H p _=H1;obtain⟨k,f⟩:=uA c1 n;refine⟨_,Y,.ref a,0,Y,.inl ⟨_,aP.of (k _ _ s),Y⟩,0,0,3,Y,⟨(),(),(),(),(),()⟩,λi _ h c=>i=0/\h=[U (V.ref a),U (V.ref p),ah,ah,ah]/\c=H1,⟨0,Y,Y,Y⟩,?_⟩;rintro i m h c ⟨rfl,rfl,rfl⟩;refine .inl ⟨br _,_,Y,p,Y,⟨_,aP.of f⟩,λD x=>zk7 f x λj u=>?_⟩;generalize upd c D (HO.lst [])=H2 at *
 refine⟨_,Y,_,Y,D,Y,aP.of u,λl y d z e=>?_⟩;refine⟨_,_,.lst (aP.of (d _ _ u)) .nil,.lst (aP.of e) .nil,⟨Y,Y,(),()⟩,λb w=>?_⟩;rw[w.mpr rfl];exact⟨_,Y,xU Y ⟨_,Y,q p y (k.trans (j.trans d)) n ((j.trans d) _ _ f)⟩⟩
theorem zdX{l:L}(f:H l=U (.lst []))(q:∀b,ac H b->Q (.str t9) b) :
  KY K t (aX Q) (zZZ 1 [.ref l]) H:=⟨_,Y,l,Y,f,λi d=>⟨sz1,λp e=>⟨p,Y,zi,λh c=>q h (d.trans ((hU p e).trans c))⟩⟩⟩
end
theorem zjd{n:Int}(h:0<=n):∀c∈(zY n).cps.toList,48<=c/\c<=57:=by
 obtain⟨m,rfl⟩:=oF h;rw[y9];exact ZA m
theorem zl1(n:Int):yO n=cX vI [bb "say",zY n]:=by
 show bb "say " ++ zY n=bb "say" ++ vI++zY n;rw[show bb "say "=bb "say" ++ vI from by lia]
theorem zgS{n:Int}(h:0<=n):cP (yO n) vI=[bb "say",zY n]:=by
 rw[zl1];refine Xp (by simp) λw hw z=>?_;rcases bJ.mp hw with rfl|hw
 .revert z;lia
 .cases bY.mp hw;have:=zjd h _ z;lia
theorem jm:∀T:Tw,(pre T).length%2=1
 |.leaf _=>rfl
 |.node w a b=>by
  have:=jm a;have:=jm b;unfold pre;rw[bR,bn];lia
theorem zkA(e:pre T=[w]):T=.leaf w:=by
 cases T with
 |leaf u=>cases e;rfl
 |node u a b =>
  have:=jm a;have e:=congrArg bQ e;unfold pre at e;rw[bR,bn] at e;have e:_+1=1:=e;lia
def hdB(a:List Str):Bool:=match a with
 |[]=>ag
 |w::r=>(w==bb "take" && r.length%2==0) || (w==bb "give" && r.length%2==1) || (w==bb "let" && yj (r.headD w)) || ((w==bb "say" || w==bb "off" || w==bb "if")&&r.length%2==1) || ((w==bb "else" || w==bb "end")&&r.length==0)
theorem zl2{h:Hd}(a:h.ok):hdB h.words=ai:=by
 cases h with
 |take sh T sl =>
  have:=jm T;simp[hdB,Hd.words];lia
 |give sh T Bm =>
  have:=jm T;have:=jm Bm;simp[hdB,Hd.words];lia
 |lt sl T=>simp[hdB,Hd.words,a.1]
 |say T=>have:=jm T;simp[hdB,Hd.words,this]
 |off T=>have:=jm T;simp[hdB,Hd.words,this]
 |iff T=>have:=jm T;simp[hdB,Hd.words,this]
 |els=>rfl
 |nd=>rfl
theorem zl3(h:hdB (cP x vI)=ag):hdS x=ah:=by
 cases e:hdS x with
 |none=>rfl
 |some hd =>
  obtain⟨b,a⟩:=WI e;rw[b,jK a,zl2 a.ok] at h;cases h
theorem zfR{h:Tw->Hd}(c:∀T,(h T).words=a::pre T)(i:∀d:Hd,d.words=a::[w]->∃T,d=h T)(g:ZO (h (.leaf w)))(f:x=(h (.leaf w)).line):hdS x=U (h (.leaf w)):=by
 cases e:hdS x with
 |none=>exact absurd g (zdH e _ f)
 |some d =>
  obtain⟨j,k⟩:=WI e;have b:d.words=a::[w]:=by rw[<-jK k,<-j,f,jK g,c];rfl
  obtain⟨T,rfl⟩:=i d b;rw[c] at b;rw[zkA (fT b).2]
def hw0:Hd->Nat×Str
 |.take ..=>(0,bb "take")
 |.give ..=>(1,bb "give")
 |.lt ..=>(2,bb "let")
 |.say _=>(3,bb "say")
 |.off _=>(4,bb "off")
 |.iff _=>(5,bb "if")
 |.els=>(6,bb "else")
 |.nd=>(7,bb "end")
def zkB:List (Nat×Str):=[(0,bb "take"),(1,bb "give"),(2,bb "let"),(3,bb "say"),(4,bb "off"),(5,bb "if"),(6,bb "else"),(7,bb "end")]
theorem zl4(d:Hd):d.words[0]?=U (hw0 d).2/\zkB[(hw0 d).1]?=U (hw0 d):=by cases d <;> exact⟨Y,Y⟩
theorem zl5:∀p∈zkB,∀q∈zkB,p.2=q.2->p.1=q.1:=by lia
theorem zfT(e:d.words=p.2::r)(a:p∈zkB):(hw0 d).1=p.1:=by
 have h:=zl4 d;rw[e] at h;exact zl5 _ (cw h.2) p a (cb h.1).symm
theorem zl6{d:Hd}(e:d.words=bb "say" :: [w]):∃T,d=.say T:=by
 have h:=zfT (p:=(3,bb "say")) e ();cases d with
 |say T=>exact⟨T,Y⟩
 |_=>cases h
theorem zmM{d:Hd}(e:d.words=bb "if" :: [w]):∃T,d=.iff T:=by
 have h:=zfT (p:=(5,bb "if")) e ();cases d with
 |iff T=>exact⟨T,Y⟩
 |_=>cases h
theorem zl7(e:hdS x=U h)(c:cP x vI=[bb "end"]\/cP x vI=[bb "else"]):stp D [] h=ah:=by
 obtain⟨a,b⟩:=WI e;rw[a,jK b] at c;have k:(hw0 h).1=7\/(hw0 h).1=6:=c.imp (λc=>zfT (p:=(7,bb "end")) c ()) λc=>zfT (p:=(6,bb "else")) c ();cases h with
 |els=>rfl
 |nd=>rfl
 |_=>rcases k with k|k <;> cases k
theorem Qm{n:Int}(h:0<=n/\n<1000000000000000000000000000000):inW n=ai:=Bj ()
theorem Qn{n:Int}(h:0<=n/\n<1000000000000000000000000000000):(yO n).length<=50/\uf (yO n)/\10 ∉ (yO n).cps.toList:=by
 have W:=Qe (Qm h);refine⟨?_,?_,λz=>?_⟩
 .have:=W.1;unfold yO;rw[jR,show (bb "say ").length=4 from by lia];lia
 .intro c a;unfold yO at a;rw[jP] at a;rcases cj.mp a with z|z
  .exact(by lia:∀c∈(bb "say ").cps.toList,c<128) c z
  .exact W.2.1 c z
 .unfold yO at z;rw[jP] at z;rcases cj.mp z with z|z
  .revert z;lia
  .have:=zjd h.1 _ z;lia
theorem zkC{n:Int}(h:0<=n/\n<1000000000000000000000000000000):hdS (yO n)=U (.say (.leaf (zY n))):=by
 obtain⟨a,b,_,d⟩:=K7 (Qm h);obtain⟨j,i,g⟩:=Qn h;have e:=zgS h.1;obtain⟨f,c⟩:=zeW (hd:=.say (.leaf (zY n))) () i g (by rw[e];show 2<=60;decide) (by rw[e];rfl) ⟨a,b,d⟩;exact zfR (h:=Hd.say) (λ_=>rfl) (λ_=>zl6) c f
theorem zl8:hdS (bb "if 1")=U (.iff (.leaf (bb "1"))):=by
 have e:cP (bb "if 1") vI=[bb "if",bb "1"]:=by lia
 obtain⟨a,b,_,d⟩:=K7 (w:=1) ();rw[show zY 1=bb "1" from by lia] at a b d;obtain⟨f,c⟩:=zeW (x:=bb "if 1") (hd:=.iff (.leaf (bb "1"))) () (by unfold uf;lia) () (by rw[e];decide) (by rw[e];rfl) ⟨a,b,d⟩;exact zfR (h:=Hd.iff) (λ_=>rfl) (λ_=>zmM) c f
def zje(D:tY)(a:List Int):tY:=a.foldl (λD n=>D.snoc (.row (.say (.leaf (zY n))))) D
theorem JN:∀ {ns:List Int} {D:tY} {fs:List Fm} {k:Nat} {r:List Str},(∀n∈ns,0<=n/\n<1000000000000000000000000000000)->k+ns.length<=40->uq D fs k (ns.map yO++r)=uq (zje D ns) fs (k+ns.length) r
 |[],D,fs,k,r,_,_=>rfl
 |n::ns,D,fs,k,r,h,l=>by
  rw[bR] at l;have a:=JN (ns:=ns) (D:=D.snoc (.row (.say (.leaf (zY n))))) (fs:=fs) (k:=k+1) (r:=r) (λm b=>h m (bF _ b)) ();rw[bN,cf,uq,am (),zkC (h n bK)];show uq (D.snoc (.row (.say (.leaf (zY n))))) fs (k+1) (ns.map yO++r)=_;rw[a,bR,show k+1+ns.length=k+(ns.length+1) by lia];rfl
theorem zmN(a:hdS x=ah):uq D fs k (x::r)=.error k:=by
 rw[uq];by_cases c:40<=k
 .rw[ao c]
 .rw[am c,a]
theorem zjf:∀ {x:Str} {i:Nat},uC[i]?=U x->(i≠5/\i≠6->hdB (cP x vI)=ag)/\(i=5\/i=6->cP x vI=[bb "end"]\/cP x vI=[bb "else"]):=by
 have z:∀i∈dH 13,∀x∈uC[i]?,(i≠5/\i≠6->hdB (cP x vI)=ag)/\(i=5\/i=6->cP x vI=[bb "end"]\/cP x vI=[bb "else"]):=by lia
 exact λ{x i} e=>z i (iD.mpr (bE.mp e).1) x e
theorem zl9:∀x∈uC,x.length<=50/\uf x/\10 ∉ x.cps.toList:=by
 have z:∀x∈uC,x.length<=50/\(∀c∈x.cps.toList,c<128)/\10 ∉ x.cps.toList:=by lia
 exact z
theorem zma(e:uC[i]?=U x)(a:fs=[]\/i≠5/\i≠6):uq D fs k (x::r)=.error k:=by
 cases hx:hdS x with
 |none=>exact zmN hx
 |some h =>
  rw[uq];by_cases c:40<=k
  .rw[ao c]
  .rw[am c,hx];by_cases ci:i≠5/\i≠6
   .rw[zl3 ((zjf e).1 ci)] at hx;cases hx
   .obtain rfl:=a.resolve_right ci;show (match stp D [] h with|some z=>uq z.1 z.2 (k+1) r|none=>.error k)=.error k;rw[zl7 hx ((zjf e).2 ())]
theorem Qo(d:rs≠[])(b:rs≠[bb ""])(a:∀r∈rs,10 ∉ r.cps.toList):yJ (cX vJ rs)=rs:=by
 have e:cP (cX vJ rs) vJ=rs:=Xp d a;unfold yJ;by_cases c:cX vJ rs=bb ""
 .rw[c,show cP (bb "") vJ=[bb ""] from by lia] at e;exact absurd e.symm b
 .rw[am c,e]
theorem zfU{ns:List Int}(h:jk ns):uq .nil [] 0 (yJ (cX vJ (ns.map yO)))=.ok (zje .nil ns):=by
 obtain⟨b,e,a⟩:=h;rw[Qo (λz=>by rw[List.map_eq_nil_iff.mp z] at b;exact absurd b ()) (λz=>?_) λr c=>?_]
 .have:=JN (ns:=ns) (D:=.nil) (fs:=[]) (k:=0) (r:=[]) a ();rw[bu] at this;rw[this,uq];rfl
 .have:=congrArg (λl:List Str=>l.map fq) z;cases ns with
  |nil=>cases z
  |cons n ns =>
   have:(yO n).length=_:=(fT this).1;unfold yO at this;rw[jR,show (bb "say ").length=4 from by lia,show (bb "").length=0 from by lia] at this;lia
 .obtain⟨n,d,rfl⟩:=dz.mp c;exact(Qn (a n d)).2.2
theorem zdY{F:L->Prop}{x:Tr}:∀ {D:tY} {g:List V},aT F H g (D.snoc x)->∃f v,g=f++[v]/\aT F H f D/\TrAt F H v x
 |.nil,g,h=>by
  obtain⟨v,f,rfl,a,b⟩:=h;cases b;exact⟨[],v,Y,Y,a⟩
 |.cons y D,g,h=>by
  obtain⟨v,f,rfl,a,b⟩:=h;obtain⟨e,u,rfl,c,d⟩:=zdY b;exact⟨v::e,u,Y,⟨v,e,Y,a,c⟩,d⟩
theorem zdZ:∀ {ns:List Int} {D:tY} {d:List V},(∀n∈ns,0<=n/\n<1000000000000000000000000000000)->aT Kl H d (zje D ns)->∃g e,d=g++e/\aT Kl H g D/\Paired (ul H) e ns
 |[],D,d,_,h=>⟨d,[],(bu _).symm,h,.nil⟩
 |n::ns,D,d,hn,h=>by
  obtain⟨g,e,rfl,a,b⟩:=zdZ (ns:=ns) (λm j=>hn m (bF _ j)) h;obtain⟨f,v,rfl,c,r,i,rfl,l,k⟩:=zdY a;refine⟨f,.ref r::e,by rw[cN];rfl,c,.cons ⟨r,i,Y,l,?_⟩ b⟩;rw[k];show U (HO.tup [pvw (zY n)])=_;rw[(K7 (Qm (hn n bK))).2.2.1]
section
variable {x w dx dw:L}{n h:Int}{b:HAd}{a:ui}{lb:L->Nat}{CC:List (List Int)}{S:DS}
theorem ds0(n:Int):hV n [] S0:=⟨(),(),br _,.nil,.nil,(),(),.nil,λ_ z=>nomatch z⟩
theorem zjg(h:k<=m):Vp k (m+1)=Vp k m++[(m:Int)]:=by
 unfold Vp;rw[show m+1-k=(m-k)+1 by lia,tD,cm];show _++[((k+(m-k):Nat):Int)]=_;rw[show k+(m-k)=m by lia]
theorem hV.add(h:hV n CC S)(l:CC.length<12){c:List Int}(f:c.length<=4):hV n (CC++[c]) { S with ws:=S.ws++[(CC.length:Int)] }:=by
 have d:(CC++[c]).length=CC.length+1:=bn;refine⟨by rw[d];lia,λC i=>?_,by rw[d];exact Nat.le_succ_of_le h.el,?_,h.hn,h.hr,λe g=>let ⟨C,a,b⟩:=h.rn e g;⟨C,zce a,b⟩,h.dn,h.ds⟩
 .rcases cj.mp i with z|z
  .exact h.cn C z
  .cases bY.mp z;exact f
 .rw[d,zjg h.el];show ((S.ws++[(CC.length:Int)])++_).Perm _;rw[cN];exact(List.perm_append_comm_assoc _ _ _).trans ((pS (l₁:=[(CC.length:Int)])).trans (h.pm.append_right _))
theorem HsA.fr{l:Hp}{c:L->Nat}(h:HsA t H x b lb k ts ls)(F:Fr M0 H l lb c):HsA t l x b c k ts ls:=by
 obtain⟨j,i,g,m,f,e,d⟩:=h;exact⟨F.kp _ _ (.inl f) j,F.kp _ _ (.inl e) i,F.kp _ _ (.inl d) g,m,(F.ex _ _ j).trans f,(F.ex _ _ i).trans e,(F.ex _ _ g).trans d⟩
theorem HsA.same{c:Hp}(h:HsA t H x b lb k ts ls)(s:ac H c):HsA t c x b lb k ts ls:=⟨s _ _ h.ix,s _ _ h.ht,s _ _ h.hl,h.ne,h.l0⟩
theorem uy.same{c:Hp}(h:uy t H x b a lb n CC S)(s:ac H c):uy t c x b a lb n CC S:=⟨h.h.same s,h.d.same s,h.o,h.e⟩
theorem Qp(F:HsF K t)(B:H x=U (.ins t.q03 dx []))(T:H w=U (.ins t.q0d dw []))(s:w≠x)(q:∀H' b a lb,(∀c o,c≠x->H c=U o->H' c=U o)->(∀c o,c≠x->c≠w->H c=U o->lb c=0/\c≠b.td/\c≠b.ln)->uy t H' x b a lb n [] S0->Q .non H') :
  Y9 K t (aX Q) (zZZ 5 [.ref x,.str t9,.int n,.ref w]) H:=by
 refine⟨_,Y,Y,λr tb g I f C et D nd=>?_⟩;have nr:r≠x:=zU C (f _ _ B) ();have nb:tb≠x:=zU et (f _ _ B) ();have M:g≠x:=zU D (f _ _ B) ();have J:∀ {H:Hp} (u:HO),aO x H (upd H x u):=λu b o z e=>by rw[zm z];exact e
 refine⟨_,Y,r,_,0,_,Y,Y,tZ.of C,Y,_,Y,x,_,_,_,Y,f _ _ B,F.cl,F.n1,(),?_⟩;generalize c2:upd I x _=H2;have v:aO x I H2:=c2 ▸ J _;have e2:H2 x=U (.ins t.q03 dx (yw (bb "due") (V.int 0) [])):=by rw[<-c2];exact zi
 refine⟨_,Y,r,_,2,_,Y,Y,tZ.of (v _ _ nr C),Y,_,Y,x,_,_,_,Y,e2,F.cl,F.n2,(),?_⟩;generalize c3:upd H2 x _=H3;have N:aO x H2 H3:=c3 ▸ J _;have e3:H3 x=U (.ins t.q03 dx (yw (bb "told") (V.ref g) (yw (bb "due") (V.int 0) []))):=by rw[<-c3];exact zi
 clear c2 c3;refine⟨_,Y,Y,λl H4 p hl el=>⟨_,Y,x,_,_,_,Y,p _ _ e3,F.cl,F.n3,by show 2<1000;decide,?_⟩⟩;generalize c5:upd H4 x _=H5;have k5:aO x H4 H5:=c5 ▸ J _;have E:H5 x=U (.ins t.q03 dx (yw (bb "lines") (V.ref l) (yw (bb "told") (V.ref g) (yw (bb "due") (V.int 0) [])))):=by rw[<-c5];exact zi
 clear c5;have k:∀c o,c≠x->I c=U o->H5 c=U o:=λc o z e=>k5 c o z (p _ _ (N c o z (v c o z e)));refine⟨_,Y,r,_,1,_,Y,Y,tZ.of (k _ _ nr C),Y,_,Y,_,Y,yv E F.cl F.n1 Y Y λd dd A O aa=>?_⟩;have m:ac H5 (upd (upd H5 dd (HO.own d)) d (HO.ins t.q00 dd [])):=λb o e=>by rw[zm (zr e A),zm (zr e O)];exact e
 have w5:=k _ _ s (f _ _ T);refine⟨d,tb,w,dd,dw,n,Y,zi,m _ _ (k _ _ nb et),m _ _ w5,zr w5 A,λH6 a lb k6 l6 G=>?_⟩;have i:ac H5 H6:=λb o e=>k6 b o (zr e A) (m _ _ e);have j:∀c o,c≠w->H5 c=U o->lb c=0:=λc o z e=>l6 c o (zr e A) z (m _ _ e);have lx:l≠x:=zU el (p _ _ e3) ();have l5:=k5 _ _ lx el;have t5:=k _ _ M D;have x0:lb x=0:=j x _ s.symm E;have w3:=N _ _ s (v _ _ s (f _ _ T));have nl:∀c o,c≠x->I c=U o->c≠l:=λc o z e y=>by
  have:=N c o z (v c o z e);rw[y,hl] at this;cases this
 exact⟨Y,_,Y,x,_,_,_,Y,i _ _ E,F.cl,F.n4,by show 3<1000;decide,q _ ⟨dx,g,l,d⟩ a lb (λc o z e=>by rw[zm z];exact i _ _ (k c o z (f _ _ e))) (λc o z1 z2 e=>⟨j c o z2 (k c o z1 (f _ _ e)),(λy=>by rw[y,nd] at e;cases e),nl c o z1 (f _ _ e)⟩) ⟨⟨zi,by rw[zm M];exact i _ _ t5,by rw[zm lx];exact i _ _ l5,nl _ _ M D,x0,j g _ (zU D (f _ _ T) ()) t5,j l _ (zU el (p _ _ w3) ()) l5⟩,G.put (i _ _ E) () x0,ds0 n,Y⟩⟩
theorem Qq{E:XK}(F:HsF K t)(c:uy t H x b a lb n CC S)(e:h<0\/n<=h)(q:∀d,ac H d->E (.ref t.q08) ah d) :
  kz K t E (aX Q) (zZZ 3 [.ref x,.int h]) H:=by
 simp only[kz,ji,zE,zF,zZZ,zo,zM,zq,zD,zT,Z,ze,zj,cE,bD,bQ,cf,cp,bu,bd,bq,bh,aj,V.int.injEq,V.ref.injEq,bx,and_true,and_assoc,ak,bX,bZ,bO,bL];exact⟨_,_,_,c.h.ix,F.cl,F.n4,_,Y,_,Y,_,_,c.d.cmp c.o.el |>.1,Y,_,Y,a,lb,n,CC,S,c.d,c.o,.inl ⟨e,q⟩⟩
theorem WO(F:HsF K t)(c:uy t H x b a lb n CC S)(q:∀e,ac H e->Q (.int 0) e) :
  vt K t (aX Q) (zZZ 1 [.ref x]) H:=by
 simp only[vt,xo,zE,zF,zZZ,zD,Z,zj,cE,bD,bQ,bu,bd,bh,aj,V.ref.injEq,bx,and_true,ak,bO,bL];obtain⟨d,l,g,k,i,j,f⟩:=c.d.cmp c.o.el;exact⟨_,_,_,c.h.ix,F.cl,F.n4,_,Y,_,Y,_,_,d,Y,_,Y,a,n,d,g,i,by rw[f,c.e];exact q H (ac.refl H)⟩
theorem zac(F:HsF K t)(c:uy t H x b a lb n CC S)(q:∀d,ac H d->Q (.str t9) d) :
  qK K t (aX Q) (zZZ 1 [.ref x]) H:=by
 simp only[qK,qE,zE,zZZ,zD,Z,ze,zj,zG,cE,bD,bQ,bu,bd,bh,aj,V.ref.injEq,bx,and_true,ak,bO,bL];exact⟨_,_,_,c.h.ix,F.cl,F.n3,_,Y,_,Y,c.h.hl,q⟩
theorem WP{g:L}{k l d:V}{f:List V}(F:HsF K t)(m:H x=U (.ins t.q03 dx [(bb "due",k),(bb "told",.ref g),(bb "lines",l),(bb "desk",d)]))(j:H g=U (.lst f))(q:∀c e,ac H e->e c=U (.lst f)->Q (.ref c) e) :
  vm K t (aX Q) (zZZ 1 [.ref x]) H:=by
 simp only[vm,zE,zZZ,zbB,zD,Z,ze,zj,tW,cE,bD,bQ,bu,bd,bh,aj,V.ref.injEq,bx,and_true,ak,bO,bL];exact⟨_,_,_,m,F.cl,F.n2,_,Y,_,Y,_,.inl (aP.of j),λc i=>q c _ (hU c i) zi⟩
theorem WQ{E:XK}{z:Str}(F:HsF K t)(c:uy t H x b a lb n CC S)(B:uf z)(A:z.length<=20000)(y:CC.length<12) (q:(∃d,jk d/\z=cX vJ (d.map yO)/\∀m g,Fr M0 H m lb g->uy t m x b a g n (CC++[d]) { S with ws:=S.ws++[(CC.length:Int)] }->Q (.int CC.length) m)\/∃k,uq .nil [] 0 (yJ z)=.error k/\ndE t E H k) :
  vq K t E (aX Q) (zZZ 2 [.ref x,.str z]) H:=by
 simp only[vq,zbX,XC,ZX,zE,zF,zZZ,zD,Z,ze,zj,zG,cE,bD,bQ,bu,bd,bq,bh,aj,V.ref.injEq,V.str.injEq,bx,and_true,and_assoc,ak,bO,bL];obtain⟨I,_⟩:=c.d.cmp c.o.el;refine⟨_,_,_,c.h.ix,F.cl,F.n4,_,Y,_,Y,_,_,I,Y,B,A,λD j H1 l O p C u=>?_,λk f=>?_⟩
 .rcases q with ⟨d,nk,ez,q⟩|⟨k,f,_⟩
  .rw[ez,zfU nk] at j;cases j;obtain⟨ws,o,rfl,J,P⟩:=zdZ nk.2.2 u;obtain rfl:ws=[]:=J;have wl:=c.o.pm.length_eq;rw[bn,Vp,bi,iy,c.e] at wl;refine⟨o,C,d,P,by have:=nk.2.1;lia,λT H2 i v G=>⟨_,Y,o,G,d,qQ P (TSm.of i),a,lb,n,CC,S,c.d.same (p.trans i),(),(),c.o.el,λr lb3 N M=>?_⟩⟩;have s:Fr M0 H r lb lb3:=(Fr.same (p.trans i)).trans N;exact q r lb3 s ⟨c.h.fr s,M,c.o.add y nk.2.1,c.e⟩
  .rw[j] at f;cases f
 .rcases q with ⟨d,nk,ez,q⟩|⟨k',hk',e⟩
  .rw[ez,zfU nk] at f;cases f
  .rw[f] at hk';cases hk';exact e
structure WsI(t:aV)(H:Hp)(x p:L)(b:HAd)(en:List V)(CC:List (List Int))(i:Nat)(H':Hp)(ts ls:List V):Prop where
 kp:∀c o,c≠x->c≠b.td->c≠b.ln->H c=U o->H' c=U o
 hp:H' p=U (.lst en)
 ix:H' x=U (.ins t.q03 b.dx (zgH b i))
 ht:H' b.td=U (.lst ts)
 hl:H' b.ln=U (.lst ls)
 lt:ts.length=i
 ll:ls.length=i+1
 an:∀(j:Nat) v ns,ts[j]?=U v->CC[j]?=U ns->AnA H' v j ns
def WsE(t:aV)(H:Hp)(x p:L)(b:HAd)(f:List V)(CC:List (List Int))(i:Nat)(c:St)(g:Hp):Prop:=(∃o,c=[U (.ref x),o])/\∃d e,WsI t H x p b f CC i g d e
theorem AnA.ts{c:Hp}{ns:List Int}(h:AnA H v i ns)(s:TSm H c):AnA c v i ns:=by
 obtain⟨r,o,e,f,d⟩:=h;exact⟨r,o,e,s _ _ f,d.ts s⟩
theorem Vz(F:HsF K t)(d:uy t H x b a lb n CC S)(G:∀C∈CC,jk C)(B:1<=n)(A:n<=8)(q:∀v i p k j m,(∀c o,c≠x->c≠b.td->c≠b.ln->lb c=0->H c=U o->i c=U o)->TSm H i->HsA t i x b p k j m->uH i j CC->Q v i) :
  vY K t (aX Q) (zZZ 2 [.ref x]) H:=by
 simp only[vY,jA,yD,zE,zF,zZZ,zo,zM,zq,zD,zT,Z,zj,cE,bD,bQ,cf,cp,bu,bd,bq,bh,aj,V.ref.injEq,bx,and_true,ak,bX,bZ,bO,bL];obtain⟨E,_⟩:=d.d.cmp d.o.el;refine⟨_,_,_,d.h.ix,F.cl,F.n4,_,Y,_,Y,_,_,E,Y,_,Y,a,lb,n,CC,S,d.d,d.o,B,A,λv H1 f O s G1 r l=>?_⟩;have g:=d.h.fr s;exact⟨_,_,g.ix,Y,b,a,f,g,n,CC,O,G1,l,G,r,λ_ T k j m u D N=>q v T f k j m (λc o M J I z e=>u c o M J I (s.kp c o (.inl z) e)) (λc y e=>have e:=s.ts c y e;u c _ (zU e g.ix ()) (zU e g.ht ()) (zU e g.hl ()) e) D N⟩
end
section
variable {x w dx dw:L}{n h:Int}{b:HAd}{a:ui}{lb:L->Nat}{CC:List (List Int)}{S:DS}
theorem zkD{A:List Int}{H':Hp}(F:HsF K t)(n1:x≠p)(n2:b.td≠p)(n3:b.ln≠p)(n4:b.td≠b.ln)(M:CC[i]?=U A)(hi:i<12)(nk:jk A)(pv:PpV H' v A nl gl)(I:WsI t H x p b en CC i H' ts ls) :
  wj K t { nx:=λσ H'=>WsE t H x p b en CC (i+1) σ H',rt:=Q } [U (.ref x),U v] H':=by
 obtain⟨r,oc,rfl,G,ho,aa,O⟩:=pv;refine yv I.ix F.cl F.n3 Y Y ⟨.inl ⟨Y,_,aP.of I.hl⟩,yv I.ix F.cl F.n1 Y Y ⟨_,Y,i,r,oc,nl,gl,A,Y,G,⟨(),()⟩,ho,cg nk.2.1 (),(λi hi=>by have:=nk.2.2 i hi;constructor <;> lia),O,λx2 H2 s2=>⟨b.ln,_,_,Y,Y,s2 _ _ I.hl,yP (by rw[I.ll];lia),?_⟩⟩⟩;generalize V.str x2=sl;have m:x≠b.ln:=zU I.ix I.hl ();have l:x≠b.td:=zU I.ix I.ht ();have u:∀c o,c≠b.ln->H' c=U o->upd H2 b.ln (HO.lst (ls++[sl])) c=U o:=λc o z e=>by rw[zm z];exact s2 _ _ e
 have e3:upd H2 b.ln (HO.lst (ls++[sl])) b.ln=U (HO.lst (ls++[sl])):=zi;generalize upd H2 b.ln (HO.lst (ls++[sl]))=H3 at *
 have y:=u _ _ m I.ix;have E:=u _ _ n4 I.ht;have p3:=u p _ n3.symm I.hp;refine yv y F.cl F.n2 Y Y ⟨.inl ⟨Y,_,aP.of E⟩,yv y F.cl F.n1 Y Y ⟨_,Y,r,_,0,_,Y,Y,tZ.of (u r _ (zU G I.hl ()) G),Y,sz2,λf J=>?_⟩⟩;generalize c_:upd H3 f _=H4;obtain⟨d,T⟩:=uA c_ J;refine⟨b.td,_,_,Y,Y,d _ _ E,yP (by rw[I.lt];lia),?_⟩;have s:∀c o,c≠b.td->H4 c=U o->upd H4 b.td (HO.lst (ts++[V.ref f])) c=U o:=λc o z e=>by rw[zm z];exact e
 have e5:upd H4 b.td (HO.lst (ts++[V.ref f])) b.td=U (HO.lst (ts++[V.ref f])):=zi;generalize upd H4 b.td (HO.lst (ts++[V.ref f]))=H5 at *
 have x5:=s _ _ l (d _ _ y);refine⟨_,Y,x,_,_,_,_,Y,x5,F.cl,F.n1,Y,_,_,Y,Y,_,_,x5,by show 4<1000;decide,⟨_,Y⟩,ts++[.ref f],ls++[sl],?_⟩;have e6:upd H5 x (HO.ins t.q03 b.dx (yw (bb "due") (V.int ((i:Int)+1)) (zgH b i))) x=U (HO.ins t.q03 b.dx (zgH b (i+1))):=zi;have q:∀c o,c≠x->H5 c=U o->upd H5 x (HO.ins t.q03 b.dx (yw (bb "due") (V.int ((i:Int)+1)) (zgH b i))) c=U o:=λc o z e=>by rw[zm z];exact e
 generalize upd H5 x (HO.ins t.q03 b.dx (yw (bb "due") (V.int ((i:Int)+1)) (zgH b i)))=H6 at *
 have kk:∀c o,c≠x->c≠b.td->c≠b.ln->H' c=U o->H6 c=U o:=λc o D C B e=>q c o D (s c o C (d _ _ (u c o B e)));have k:TSm H' H6:=λc zs e=>kk c _ (zU e I.ix ()) (zU e I.ht ()) (zU e I.hl ()) e;refine⟨λc o D C B e=>kk c o D C B (I.kp c o D C B e),q _ _ n1.symm (s _ _ n2.symm (d _ _ p3)),e6,q _ _ l.symm e5,q _ _ m.symm (s _ _ n4.symm (d _ _ e3)),by rw[bn,I.lt];rfl,by rw[bn,I.ll];rfl,λj v ms g N=>?_⟩;rcases fe j ts.length with c|c
 .rw[dI c] at g;exact(I.an j v ms g N).ts k
 .rw[dv c] at g;obtain rfl:j=i:=by
   have:=(bE.mp g).1;have lt:=I.lt;have:j-ts.length<1:=this;lia
  rw[I.lt,Nat.sub_self] at g;cases g;rw[M] at N;cases N;exact⟨f,oc,Y,q _ _ (zU T (d _ _ y) ()) (s _ _ (zU T (d _ _ E) ()) T),ho.ts k⟩
theorem kU(F:HsF K t)(D:uE K t)(d:HsA t H x b lb 0 [] [.str mkS])(hd:ua t H b.d a lb n CC S)(ok:hV n CC S)(cn:∀C∈CC,jk C)(en:S.en=CC.length)(q:∀v H' k j r,(∀c o,c≠x->c≠b.td->c≠b.ln->H c=U o->H' c=U o)->HsA t H' x b lb k j r->uH H' j CC->Q v H') :
  wQ K t (aX Q) (zZZ 2 [.ref x]) H:=by
 obtain⟨g,J⟩:=hd.ex;have G:=J.o.at (i:=0) rfl;have ee:=J.o.at (i:=10) rfl;have A:=J.e;rw[en,mG] at A;have le:=cT A;have lc:=ok.cc;obtain⟨T,O,N⟩:=d.l0;refine yv d.ix F.cl F.n4 Y Y ⟨b.d,_,_,_,_,Y,G,D.cD,D.d9,Y,yv d.ix F.cl F.n1 Y Y (yv d.ix F.cl F.n4 Y Y ⟨b.d,_,_,_,_,Y,G,D.cD,D.d3,Y,_,_,Y,Y,_,Y,a.en,_,Y,aP.of ee,λp s=>?_⟩)⟩;rw[show Xg g.en (U (((0:Nat):Int)-0)) ah=g.en from by have z:=zdI (λv:V=>v) g.en (k:=0) (bU _);rw[List.map_id',List.map_id'] at z;exact z];generalize c_:upd H p _=H1;obtain⟨m,M⟩:=uA c_ s;refine⟨p,Y,⟨_,aP.of M⟩,YK g.en (WsE t H x p b g.en CC) ⟨⟨_,Y⟩,[],[.str mkS],λc o _ _ _ e=>m _ _ e,M,m _ _ d.ix,m _ _ d.ht,m _ _ d.hl,Y,Y,λ_ _ _ z=>nomatch z⟩ (λi B H' z=>let ⟨_,_,_,I⟩:=z;aP.of I.hp) ?_ ?_⟩
 .rintro i v B H' hv ⟨⟨o,rfl⟩,j,r,I⟩;obtain⟨ns,f,nl,gl,pv,ln,lg⟩:=Paired.getP A hv;have u:TSm H H':=λc zs e=>I.kp c _ (zU e d.ix ()) (zU e d.ht ()) (zU e d.hl ()) e;have E:∀ {c o},lb c=14->H c=U o->H' c=U o:=λ{c o} l e=>I.kp c o (λy=>by rw[y,T] at l;cases l) (λy=>by rw[y,O] at l;cases l) (λy=>by rw[y,N] at l;cases l) e;exact zkD (Q:=Q) F (zr d.ix s) (zr d.ht s) (zr d.hl s) d.ne f (by have:=(bE.mp f).1;lia) (cn ns (cw f)) (pv.to u (λo e=>E ln e) (λo e=>E lg e)) I
 .rintro B H' ⟨⟨o,rfl⟩,j,r,I⟩;exact q _ H' g.en.length j r I.kp ⟨I.ix,I.ht,I.hl,d.ne,d.l0⟩ ⟨I.lt.trans le,I.an⟩
end
section
variable {E:XK}{a w p:L}{seg:List Str}{k e i:Nat}{x:Str}{Bn:List (L×List V)}{H0:Hp}{o4 o5 o6:Option V}
structure TfA(a w p:L)(seg:List Str)(i:Nat)(Bn:List (L×List V))(H0 H:Hp):Prop where
 l1:Yv Bn<=i
 l2:Bn.length<=i
 nN:∀n∈Bn,n.2≠[]/\H n.1=U (.tup n.2)
 hw:H w=U (.lst (Bn.map λn=>V.ref n.1))
 hp:H p=U (.lst (seg.map V.str))
 s:ac H0 H
theorem TfA.put{d:Hp}(T:TfA a w p seg i Bn H0 H)(f:w≠p)(l:H0 w=ah)(v:∀n∈L0,n∈Bn)(j:∀b o,b≠w->H b=U o->d b=U o)(z:d p3=U (.tup zs))(r:zs≠[])(u:p3≠w)(l1:Yv L0+zs.length<=i+1)(l2:L0.length<=i)(q:ac H0 d) :
  TfA a w p seg (i+1) (L0++[(p3,zs)]) H0 (upd d w (.lst ((L0.map λn=>V.ref n.1)++[.ref p3]))):=by
 refine⟨?_,by rw[bn];exact oN l2,λm y=>?_,by rw[zi,cm];rfl,by rw[zm f.symm];exact j _ _ f.symm T.hp,xa q l⟩
 .rw[zbd,show Yv [(p3,zs)]=zs.length by unfold Yv;exact Nat.add_zero _];exact l1
 .rcases cj.mp y with h|h
  .have c:=T.nN m (v m h);have g:=Vr c.2 T.hw;exact⟨c.1,by rw[zm g];exact j _ _ g c.2⟩
  .rw[bY.mp h];exact⟨r,by rw[zm u];exact z⟩
theorem zkE(T:TfA a w p seg i (L0++[nb,na]) H0 H)(I:w≠p)(v:H0 w=ah)(li:i<=100)(q:∀f j o5 o6,TfA a w p seg (i+1) (L0++[(f,na.2++nb.2++[.str x])]) H0 j->tfI a w p seg k e H0 (i+1) [U (.ref a),U (.int k),U (.int e),U (.ref w),U (.str x),o5,o6] j) :
  Yp K t E { nx:=λG j=>tfI a w p seg k e H0 (i+1) G j,rt:=Q } [U (.ref a),U (.int k),U (.int e),U (.ref w),U (.str x),o5,o6] H:=by
 have e1:(L0++[nb,na]).map (λn=>V.ref n.1)=(L0.map (λn=>V.ref n.1)++[.ref nb.1])++[.ref na.1]:=by rw[cm,cN];rfl
 have g:=T.nN na (bP _ (.tail _ (.head _)));have l:=T.nN nb (bP _ (.head _));have aw:=Vr g.2 T.hw;have bw:=Vr l.2 T.hw;have d:=T.hw;rw[e1] at d;have lp:Yv (L0++[nb,na])=Yv L0+(nb.2.length+na.2.length):=by rw[zbd];rfl
 have l1:=T.l1;have l2:=T.l2;rw[bn] at l2;refine⟨_,Y,.inl ⟨Y,_,aP.of d⟩,w,_,_,Y,Y,d,WE,_,Y,.inl ⟨Y,_,aP.of zi⟩,w,_,_,Y,Y,by rw[kS];exact zi,WE,_,Y,.inl ⟨Y,_,aP.of zi⟩,?_⟩;rw[kS,kS,kZ];have m:∀b o,b≠w->H b=U o->upd H w (.lst (L0.map λn=>V.ref n.1)) b=U o:=λb o n e=>by rw[zm n];exact e
 have D:upd H w (.lst (L0.map λn=>V.ref n.1)) w=U (.lst (L0.map λn=>V.ref n.1)):=zi;have S2:=xa (o:=.lst (L0.map λn=>V.ref n.1)) T.s v;generalize upd H w (.lst (L0.map λn=>V.ref n.1))=H2 at *
 refine⟨_,Y,_,Y,na.1,nb.1,_,_,Y,Y,tZ.of (m _ _ aw g.2),tZ.of (m _ _ bw l.2),g.1,zR (),λz=>absurd z l.1,λ_ C u=>?_⟩;generalize c1:upd H2 C _=H3;obtain⟨M,O⟩:=uA c1 u;refine⟨_,Y,zR (by lia:1<=100000),λB s=>?_⟩;generalize c2:upd H3 B _=H4;obtain⟨y,N⟩:=uA c2 s;refine⟨C,B,_,_,Y,Y,tZ.of (y _ _ O),tZ.of N,(λz=>g.1 (List.append_eq_nil_iff.mp z).1),zR (by rw[bn];show _+1<=_;lia),(),λ_ f r=>?_⟩;generalize c3:upd H4 f _=H5;obtain⟨J,A⟩:=uA c3 r;have c:=M.trans (y.trans J);refine⟨w,_,_,Y,Y,c _ _ D,dy (by rw[bi];lia:_<=1000) (),q f _ _ _ (T.put I v (λn h=>cR _ h) (λb o n e=>c _ _ (m b o n e)) A (λz=>by have:=congrArg bQ z;rw[bn] at this;cases this) (Vr A (c _ _ D)) (by rw[bn,bn];show _+(_+1)<=_;lia) () (S2.trans c))⟩
theorem zkF(T:TfA a w p seg i Bn H0 H)(y:w≠p)(z:H0 w=ah)(I:i<=100)(r:x.length<=20000/\uf x)(A:kH x=ah->∀d,ac H0 d->E (.ref t.q04) ah d)(q:∀v,kH x=U v->∀B d,TfA a w p seg (i+1) (Bn++[(B,[v])]) H0 d->tfI a w p seg k e H0 (i+1) [U (.ref a),U (.int k),U (.int e),U (.ref w),U (.str x),o5,o6] d) :
  Yq K t E { nx:=λu d=>tfI a w p seg k e H0 (i+1) u d,rt:=Q } [U (.ref a),U (.int k),U (.int e),U (.ref w),U (.str x),o5,o6] H:=by
 refine⟨_,Y,.inl ⟨Y,_,aP.of T.hw⟩,_,Y,x,Y,r.1,r.2,λG j=>?_⟩;have s:=T.s.trans j;cases hp:kH x with
 |none=>exact A hp _ s
 |some v =>
  refine⟨zR (by lia:1<=100000),λm f=>?_⟩;generalize c1:upd G m _=H3;obtain⟨g,l⟩:=uA c1 f;have c:=j.trans g;have D:=T.l1;have C:=T.l2;exact⟨w,_,_,Y,Y,c _ _ T.hw,dy (by rw[bi];lia:_<=1000) (),q v hp m _ (T.put y z (λn h=>h) (λb o _ e=>c b o e) l () (Vr l (c _ _ T.hw)) (oN D) C (s.trans g))⟩
theorem zkG{b:L×List V}(g:H w=U (.lst [.ref b.1]))(h:H b.1=U (.tup b.2))(j:H0 w=ah)(s:ac H0 H)(q:∀d p r,ac H0 d->d p=U (.tup [.ref r,.int e])->d r=U (.tup b.2)->Q (.ref p) d) :
  Yr K t E (aX Q) [U (.ref a),U (.int k),U (.int e),U (.ref w),o4,o5,o6] H:=by
 refine⟨_,Y,.inl ⟨Y,_,aP.of g⟩,w,_,_,Y,Y,g,Y,_,Y,sz2,λf c=>?_⟩;have l:ac H0 (upd H w (.lst [])):=xa s j;exact q _ f b.1 (l.trans (hU f c)) zi (hU f c _ _ (by rw[zm (Vr h g)];exact h))
theorem zad{b:List Str}(hJ:∀H:Hp,tZ K H t.q0h jw)(h1:H a=U (.lst (b.map V.str)))(h2:b.length<=1000)(h3:jL b) (q:(∃J e,xc b k=U (J,e)/\∀H' p r,ac H H'->H' p=U (.tup [.ref r,.int (e:Nat)])->H' r=U (.tup J)->Q (.ref p) H')\/(xc b k=ah/\∀H',ac H H'->E (.ref t.q04) ah H')) :
  WB K t E (aX Q) (zZZ 7 [.ref a,.int k]) H:=by
 have no:∀ {H'},xc b k=ah->ac H H'->E (.ref t.q04) ah H':=λ{H'} l s=>by
  rcases q with ⟨J,e,hp2,_⟩|⟨_,q⟩
  .rw[l] at hp2;cases hp2
  .exact q _ s
 refine⟨_,Y,_,Y,a,b,k,Y,h1,h2,λH1 y=>?_⟩;cases hs:yy (b.drop k) 1 with
 |none=>exact no (by unfold xc;rw[hs]) y
 |some n =>
  show (if n<=60 then _ else E (.ref t.q04) ah H1);refine qg (λO=>?_) λO=>no (by unfold xc;rw[hs];exact am O) y;obtain⟨T,hT,h,an,D⟩:=Ki hs;have al:=zi3 hs O;have u:=Xl hs O hT h;have g:=YN hT [];rw[<-h] at g;have A:∀x∈(b.drop k).take n,x.length<=20000/\uf x:=λx N=>h3 x (iC (f8 N));have aw:((b.drop k).take n).length=n:=by rw[h,D]
  have I:Xg (b.map V.str) (U (k:Int)) (U ((k+n:Nat):Int))=((b.drop k).take n).map V.str:=by
   rw[zkn (by rw[bi];exact an),oJ,rY]
  generalize (b.drop k).take n=seg at *
  have av:∀ {e:Bool} {H'},vR seg.reverse []=.error e->ac H H'->E (.ref t.q04) ah H':=λ{e H'} z s=>no (by rw[al,z]) s;have j:vR seg.reverse []≠.error ag:=λz=>by
   rw[g] at z;split at z <;> cases z
  refine⟨bU _,λw hw=>?_⟩;generalize c1:upd H1 w _=H2;obtain⟨s2,e2⟩:=uA c1 hw;refine⟨_,Y,_,Y,_,Y,_,Y,_,Y,a,_,Y,aP.of (s2 _ _ (y _ _ h1)),λp l=>?_⟩;rw[I];generalize c2:upd H2 p _=H3;obtain⟨s3,e3⟩:=uA c2 l;have hw0:H w=ah:=y.free hw;have B:w≠p:=zr e2 l;refine⟨p,_,Y,aP.of e3,zhP (seg.map V.str) (tfI a w p seg k (k+n) H) ⟨[],⟨_,_,_,Y⟩,Y,br _,br _,(λn z=>nomatch z),s3 _ _ e2,e3,y.trans (s2.trans s3)⟩ (λi σ H' ⟨_,_,_,_,_,_,_,z,_⟩=>aP.of z) ?_ ?_⟩
  .rintro i v σ H' hi hv ⟨Bn,⟨o4,o5,o6,rfl⟩,o,G,hL,hN,m,C,hS⟩;rw[bi] at hi hv;rw[bW] at hv;obtain⟨x,N,rfl⟩:=cY.mp hv;have aa:seg.reverse[i]?=U x:=by rw[List.getElem?_reverse hi];exact N
   have f:=zhQ o aa;have TT:TfA a w p seg i Bn H H':=⟨G,hL,hN,m,C,hS⟩;have li:i<=100:=by lia
   refine⟨_,Y,t.q0h,jw,Y,.inr (hJ _),Y,Y,_,Y,qg (λc=>?_) λc=>zkF (Q:=Q) TT B hw0 li (A x (cw N)) (λl H' s=>?_) λv l p3 H' d=>?_⟩
   .rcases fe 1 Bn.length with h2l|h2l
    .obtain⟨L0,nb,na,rfl⟩:=zi0 h2l;rw[show (L0++[nb,na]).map rX=L0.map rX++[nb.2,na.2] by rw[cm];rfl] at f;exact zkE (Q:=Q) (t:=t) (E:=E) TT B hw0 li λp3 H' o5 o6 d=>⟨_,⟨_,_,_,Y⟩,by rw[f,zgK c,cm];rfl,d.l1,d.l2,d.nN,d.hw,d.hp,d.s⟩
    .exact absurd (zc1 (f.trans (zgL c (by rw[bi];exact h2l)))) j
   .exact av (zc1 (f.trans (by unfold vD;rw[am (show ¬ isJ (.str x)=ai from c),l]))) s
   .exact⟨_,⟨_,_,_,Y⟩,by rw[f,cm];unfold vD;rw[am (show ¬ isJ (.str x)=ai from c),l];rfl,d.l1,d.l2,d.nN,d.hw,d.hp,d.s⟩
  .rintro σ H' ⟨Bn,⟨o4,o5,o6,rfl⟩,o,G,hL,hN,m,C,hS⟩;rw[dM (by rw[m7,bi];exact br _),g] at o;by_cases hok:okT T=ai
   .rw[ao hok] at o u;have e:Bn.map rX=[pst T]:=(Except.ok.inj o).symm;obtain⟨M,rfl⟩:∃M,Bn=[M]:=o8.mp (by have:=congrArg bQ e;rwa [bi] at this);have e1:M.2=pst T:=(fT e).1;rcases q with ⟨J,e,hp2,q⟩|⟨hp2,_⟩
    .rw[u] at hp2;cases hp2;exact zkG (t:=t) (E:=E) m (hN M (.head _)).2 hw0 hS (by rw[e1];exact q)
    .rw[u] at hp2;cases hp2
   .rw[am hok] at o;cases o
end
theorem ze0{A B:L2.TS}(h:σ[1]?=U (U (.str w)))(a:w=u->A D σ H)(b:w≠u->B D σ H):zO (zy (aN uk (Z 1) (tC (.str u)))) A B D σ H:=ziM (λ_ q=>zmF h q) a b
theorem WR{A B:L2.TS}(h:σ[1]?=U (U (.str w)))(a:w=u\/w=v->∀d,ac H d->A D σ d)(b:¬ (w=u\/w=v)->∀d,ac H d->B D σ d):zO (zy (aN (rIn K ag) (Z 1) (xb (ze (tC (.str u)) (ze (tC (.str v)) zj))))) A B D σ H:=by
 refine⟨_,h,sz2,λp e=>⟨p,_,Y,.inr (tZ.of zi),Y,Y,_,Y,?_⟩⟩;show if inV (.str w) [.str u,.str v]=ai then _ else _
 by_cases c:w=u\/w=v
 .rw[ao (inV2.mpr c)];exact a c _ (hU p e)
 .rw[am λz=>c (inV2.mp z)];exact b c _ (hU p e)
section
variable {E:XK}{x dx wa:L}{ws rest:List Str}{n:Int}{w:Str}{T:Tw}{R:Zn}
theorem ze1(W:hX t H x dx wa ws n 1)(g:jL ws)(l:ws.length<=60)(c:ws=([f]++pre T)++rest)(b:KK T)(q:∀a r,aO x H a->hX t a x dx wa ws n (1+(pre T).length)->a r=U (.tup (pst T))->Q (.ref r) a) :
  zF t.q06 "draw_term" (zQ t) [] E (Z 0) zj [U (.ref x),o1] H Q:=by
 have k:1+(pre T).length<=ws.length:=by rw[c,bn,bn];exact gz _ _
 have h:xc ws 1=U (pst T,1+(pre T).length):=by
  have:=jo (A:=[f]) (B:=rest) b.wf b.ok ();rw[<-c] at this;exact this
 exact yE W.ix Y Y ⟨x,dx,wa,ws,n,1,Y,W,(),g,.inl ⟨_,_,h,λj r d i e _=>q j r d i e⟩⟩
theorem zjh{v0:Str}(m:hX t H x dx wa ws n 1)(N:jL ws)(M:ws.length<=60)(l:Hd)(d:ws=l.words++rest)(I:l.ok)(a:ws[0]?=U v0)(nt:v0≠"take")(ng:v0≠"give")(nl:v0≠"let")(q:∀B v,aO x H B->hX t B x dx wa ws n l.words.length->ue (λb=>H b=ah) B v l->Q v B) :
  jH K t E (aX Q) [U (.ref x),U (.str v0)] H:=by
 cases l with
 |take sh T sl=>rw[d] at a;cases a;exact absurd Y nt
 |give sh T Bm=>rw[d] at a;cases a;exact absurd Y ng
 |lt sl T=>rw[d] at a;cases a;exact absurd Y nl
 |say T =>
  obtain rfl:("say":Str)=v0:=by rw[d] at a;exact cb a
  refine WR Y (λ_ A c=>⟨_,Y,ze1 (m.same c) N M d I λs r f i j=>⟨sz2,λp g=>?_⟩⟩) λz=>absurd (.inl Y) z;have e:=hU (o:=HO.tup [V.str "say",V.ref r]) p g;exact q _ (.ref p) ((sx c).trans (f.trans (sx e))) (by rw[show (Hd.words (.say T)).length=1+(pre T).length from bn];exact i.same e) ⟨p,r,Y,zi,e _ _ j⟩
 |off T =>
  obtain rfl:("off":Str)=v0:=by rw[d] at a;exact cb a
  refine WR Y (λ_ A c=>⟨_,Y,ze1 (m.same c) N M d I λs r f i j=>⟨sz2,λp g=>?_⟩⟩) λz=>absurd (.inr Y) z;have e:=hU (o:=HO.tup [V.str "off",V.ref r]) p g;exact q _ (.ref p) ((sx c).trans (f.trans (sx e))) (by rw[show (Hd.words (.off T)).length=1+(pre T).length from bn];exact i.same e) ⟨p,r,Y,zi,e _ _ j⟩
 |iff T =>
  obtain rfl:("if":Str)=v0:=by rw[d] at a;exact cb a
  refine WR Y (λz=>absurd z ()) λ_ A c=>ze0 Y (λ_=>ze1 (m.same c) N M d I λs r f i j=>⟨bU _,λy k=>?_⟩) λz=>absurd Y z;generalize c4:upd s y _=H4;obtain⟨D,e4⟩:=uA c4 k;refine⟨bU _,λu h=>?_⟩;generalize c5:upd H4 u _=H5;obtain⟨e,e5⟩:=uA c5 h;refine⟨by rw[dq];show 4<=_;decide,λG J=>?_⟩;have C:=hU (o:=HO.tup [V.str "if",V.ref r,V.ref y,V.ref u]) G J;have O:=(sx (x:=x) c).trans f;have S:=D.trans (e.trans C);have fa:H y=ah:=K8 O i.ix k;have fb:H u=ah:=K8 (O.trans (sx D)) (D _ _ i.ix) h;exact q _ (.ref G) (O.trans (sx S)) (by rw[show (Hd.words (.iff T)).length=1+(pre T).length from bn];exact i.same S) ⟨G,r,y,u,Y,zi,S _ _ j,C _ _ (e _ _ e4),C _ _ e5,fa,fb,cK (Yw e4 h)⟩
 |els =>
  obtain rfl:("else":Str)=v0:=by rw[d] at a;exact cb a
  refine WR Y (λz=>absurd z ()) λ_ A c=>ze0 Y (λz=>absurd z ()) λ_=>WR Y (λ_ s f=>⟨_,Y,sz1,λp g=>?_⟩) λz=>absurd (.inl Y) z;have S:=c.trans (f.trans (hU (o:=HO.tup [V.str "else"]) p g));exact q _ (.ref p) (sx S) (m.same S) ⟨p,Y,zi⟩
 |nd =>
  obtain rfl:("end":Str)=v0:=by rw[d] at a;exact cb a
  refine WR Y (λz=>absurd z ()) λ_ A c=>ze0 Y (λz=>absurd z ()) λ_=>WR Y (λ_ s f=>⟨_,Y,sz1,λp g=>?_⟩) λz=>absurd (.inr Y) z;have S:=c.trans (f.trans (hU (o:=HO.tup [V.str "end"]) p g));exact q _ (.ref p) (sx S) (m.same S) ⟨p,Y,zi⟩
theorem zji(F:WrF K t)(i:hX t H x dx wa ws n 1)(l:jL ws)(u:ws.length<=60)(m:ws[0]?=U w)(g:∀k rest,ws=Hd.words k++rest->¬ k.ok)(q:ndX t E x H n) :
  jH K t E (aX Q) [U (.ref x),U (.str w)] H:=by
 have s:=K9 m;have e:=wm m;rw[gC] at e;have d:∀(f:Tw->Hd),(∀T,(f T).words=[w]++pre T)->(∀T,KK T->(f T).ok)->xc ws 1=ah:=λf r p=>by
  rcases vO ws 1 l with e2|⟨T,e2,tm,d2,l2⟩
  .exact e2
  .refine absurd (p T tm) (g (f T) (ws.drop (1+(pre T).length)) ?_);rw[d2] at e;rw[r];exact e
 have h:∀ {Q:VK} b,ac H b->xc ws 1=ah->zF t.q06 "draw_term" (zQ t) [] E (Z 0) zj [U (.ref x),U (.str w)] b Q:=λb a z=>yE (i.same a).ix Y Y ⟨x,dx,wa,ws,n,1,Y,i.same a,(),l,.inr ⟨z,q.to (sx a)⟩⟩;refine WR Y (λz b a=>?_) λc b a=>ze0 Y (λo=>?_) λo=>WR Y (λz=>?_) λ_ v j=>?_
 .rcases z with c4|c5
  .exact⟨_,Y,h b a (d .say (λT=>by rw[c4];rfl) λT z=>z)⟩
  .exact⟨_,Y,h b a (d .off (λT=>by rw[c5];rfl) λT z=>z)⟩
 .exact h b a (d .iff (λT=>by rw[o];rfl) λT z=>z)
 .rcases z with z|z
  .exact absurd trivial (g .els (ws.drop 1) (by rw[z] at e;exact e))
  .exact absurd trivial (g .nd (ws.drop 1) (by rw[z] at e;exact e))
 .exact yv ((i.same (a.trans j)).ix) F.cl F.n2 Y Y ⟨_,Y,jp q (sx (a.trans j))⟩
theorem zkH(F:WrF K t)(j:hX t H x dx wa ws n 1)(h:jL ws)(y:ws.length<=60)(d:ws[0]?=U w)(G:w≠"take")(I:w≠"give")(q:(∃a rest,ws=Hd.words a++rest/\a.ok/\∀k v,aO x H k->hX t k x dx wa ws n a.words.length->ue (λb=>H b=ah) k v a->Q v k)\/((∀a rest,ws=Hd.words a++rest->¬ a.ok)/\ndX t E x H n)) :
  Ys K t E (aX Q) [U (.ref x),U (.str w)] H:=by
 have J:=K9 d;have m:=wm d;rw[gC] at m;refine ze0 Y (λc=>?_) λc=>q.elim (λ⟨a,rest,e,f,q⟩=>zjh j h y a e f d G I c q) λ⟨g,q⟩=>zji F j h y d g q;subst c;refine yE j.ix Y Y ⟨x,dx,wa,ws,n,1,Y,j,J,h,?_⟩;rcases qP ws 1 with ⟨sh,e1,o1⟩|e1
 case inr =>
  rcases q with ⟨a,rest,e,f,q⟩|⟨g,q⟩
  .cases a with
   |lt sl T =>
    have:=e1 sl (by rw[e];rfl);rw[show yj sl=ai from f.1] at this;cases this
   |_=>rw[e] at d;exact absurd (cb d) ()
  .exact .inr ⟨e1,q⟩
 refine .inl ⟨sh,e1,o1,λH2 s C=>yE C.ix Y Y ⟨x,dx,wa,ws,n,2,Y,C,(),h,?_⟩⟩;rcases vO ws 2 h with e2|⟨T,e2,tm,d2,u⟩
 case inl =>
  rcases q with ⟨a,rest,e,f,q⟩|⟨g,q⟩
  .cases a with
   |lt sl T =>
    have i:(Hd.words (.lt sl T)).length=2+(pre T).length:=bn;have u:2+(pre T).length<=ws.length:=by rw[e,bn,i];exact gz _ _
    have:=jo (A:=[("let":Str),sl]) (B:=rest) f.2.wf f.2.ok ();rw[show ([("let":Str),sl]++pre T)++rest=ws from e.symm] at this;rw[show ([("let":Str),sl]:List Str).length=2 from rfl,e2] at this;cases this
   |_=>rw[e] at d;exact absurd (cb d) ()
  .exact .inr ⟨e2,q.to s⟩
 have O:ws=Hd.words (.lt sh T)++ws.drop (2+(pre T).length):=by
  rw[wm e1,d2] at m;rw[Hd.words];exact m
 rcases q with ⟨a,rest,e,f,q⟩|⟨g,q⟩
 .cases a with
  |lt sl Bm =>
   have i:(Hd.words (.lt sl Bm)).length=2+(pre Bm).length:=bn;have u:2+(pre Bm).length<=ws.length:=by rw[e,bn,i];exact gz _ _
   obtain rfl:sl=sh:=by rw[e] at e1;exact cb e1
   have z:=jo (A:=[("let":Str),sl]) (B:=rest) f.2.wf f.2.ok ();rw[show ([("let":Str),sl]++pre Bm)++rest=ws from e.symm,show ([("let":Str),sl]:List Str).length=2 from rfl] at z;refine .inl ⟨_,_,z,λH3 r D W3 M nr=>⟨sz3,λp N=>?_⟩⟩;have l:=hU (o:=HO.tup [V.str "let",V.str sl,V.ref r]) p N;exact q _ (.ref p) (s.trans (D.trans (sx l))) (by rw[i];exact W3.same l) ⟨p,r,Y,zi,l _ _ M⟩
  |_=>rw[e] at d;exact absurd (cb d) ()
 .exact absurd (⟨o1,tm⟩:Hd.ok (.lt sh T)) (g (.lt sh T) _ O)
theorem zkI(F:WrF K t)(C:hX t H x dx wa ws n 1)(d:jL ws)(h5:ws.length<=60)(h:ws[0]?=U w)(nt:w≠"take")(q:(∃a rest,ws=Hd.words a++rest/\a.ok/\∀s v,aO x H s->hX t s x dx wa ws n a.words.length->ue (λb=>H b=ah) s v a->Q v s)\/((∀a rest,ws=Hd.words a++rest->¬ a.ok)/\ndX t E x H n)) :
  Yt K t E (aX Q) [U (.ref x),U (.str w)] H:=by
 have l1:=K9 h;have z:=wm h;rw[gC] at z;refine ze0 Y (λc=>?_) λc=>zkH F C d h5 h nt c q;subst c;refine yE C.ix Y Y ⟨x,dx,wa,ws,n,1,Y,C,l1,d,?_⟩;rcases q with ⟨a,rest,e,ok,q⟩|⟨hn,q⟩
 .cases a with
  |give sh T Bm =>
   obtain⟨m,J,I⟩:=ok;have N:(Hd.words (.give sh T Bm)).length=2+(pre T).length+(pre Bm).length:=by rw[Hd.words,bn,bn];rfl
   have l2:2+(pre T).length+(pre Bm).length<=ws.length:=by rw[e,bn,N];exact gz _ _
   have e':ws=([("give":Str),sh]++pre T)++pre Bm++rest:=e;have e1:ws[1]?=U sh:=by rw[e];rfl
   have f:=jo (A:=[("give":Str),sh]) (B:=pre Bm++rest) J.wf J.ok ();rw[<-cN,<-e',show ([("give":Str),sh]:List Str).length=2 from rfl] at f;have g:=jo (A:=[("give":Str),sh]++pre T) (B:=rest) I.wf I.ok ();rw[<-e',show ([("give":Str),sh]++pre T).length=2+(pre T).length from bn] at g;refine .inl ⟨sh,e1,m,λH2 l j=>yE j.ix Y Y ⟨x,dx,wa,ws,n,2,Y,j,(),d,.inl ⟨_,_,f,λH3 r u i O M=>yE i.ix Y Y ⟨x,dx,wa,ws,n,_,Y,i,(),d,.inl ⟨_,_,g,λH4 G D W4 y aa=>⟨by rw[dq];show 4<=_;decide,λp hp=>?_⟩⟩⟩⟩⟩⟩;have k:=hU (o:=HO.tup [V.str "give",V.str sh,V.ref r,V.ref G]) p hp;exact q _ (.ref p) (l.trans (u.trans (D.trans (sx k)))) (by rw[N];exact W4.same k) ⟨p,r,G,Y,zi,k _ _ (D r _ M O),k _ _ y⟩
  |_=>rw[e] at h;exact absurd (cb h) ()
 .rcases qP ws 1 with ⟨sh,e1,m⟩|e1
  case inr=>exact .inr ⟨e1,q⟩
  refine .inl ⟨sh,e1,m,λH2 l j=>yE j.ix Y Y ⟨x,dx,wa,ws,n,2,Y,j,(),d,?_⟩⟩;rcases vO ws 2 d with f|⟨T,f,tm,d2,l2⟩
  case inl=>exact .inr ⟨f,q.to l⟩
  refine .inl ⟨_,_,f,λH3 r u i O M=>yE i.ix Y Y ⟨x,dx,wa,ws,n,_,Y,i,(),d,?_⟩⟩;rcases vO ws (2+(pre T).length) d with g|⟨Bm,g,um,d3,l3⟩
  case inl=>exact .inr ⟨g,q.to (l.trans u)⟩
  refine absurd (⟨m,tm,um⟩:Hd.ok (.give sh T Bm)) (hn (.give sh T Bm) (ws.drop (2+(pre T).length+(pre Bm).length)) ?_);rw[wm e1,d2,d3] at z;rw[Hd.words,cN,cN];exact z
theorem ue.fr{F G:L->Prop}(g:∀b,F b->G b)(h:ue F H v hd):ue G H v hd:=by
 cases hd with
 |iff T=>obtain⟨r,a,d,c,o,m,l,k,j,i,f,e⟩:=h;exact⟨r,a,d,c,o,m,l,k,j,g _ i,g _ f,e⟩
 |_=>exact h
theorem zae(F:WrF K t)(W:hX t H x dx wa ws n 0)(o:jL ws)(m:ws.length<=60)(q:(∃d rest,ws=Hd.words d++rest/\d.ok/\∀f v,aO x H f->hX t f x dx wa ws n d.words.length->ue (λb=>H b=ah) f v d->Q v f)\/((∀d rest,ws=Hd.words d++rest->¬ d.ok)/\ndX t E x H n)) :
  WC K t E (aX Q) (zZZ 2 [.ref x]) H:=by
 refine yE W.ix Y Y ⟨x,dx,wa,ws,n,0,Y,W,bU _,?_⟩;cases e0:ws[0]? with
 |none =>
  rcases q with ⟨d,rest,e,_⟩|⟨_,q⟩
  .rw[e] at e0;cases d <;> cases e0
  .exact .inr ⟨Y,q⟩
 |some w =>
  refine .inl ⟨w,Y,λp g l=>?_⟩;replace q:=q.imp_left λ⟨d,rest,e,k,q⟩=>(⟨d,rest,e,k,λf v s w h=>q f v (g.trans s) w (h.fr λb z=>K8 g l.ix z)⟩:∃d rest,ws=Hd.words d++rest/\d.ok/\∀f v,aO x p f->hX t f x dx wa ws n d.words.length->ue (λb=>p b=ah) f v d->Q v f);refine ze0 Y (λc=>?_) λc=>zkI F l o m e0 c (q.imp_right λ⟨a,b⟩=>⟨a,b.to g⟩);subst c;refine⟨_,Y,x,dx,wa,ws,n,Y,l,K9 e0,o,m,?_⟩;rcases q with ⟨d,rest,e,k,q⟩|⟨hn,q⟩
  .cases d with
   |take j T i=>exact .inl ⟨j,T,i,rest,e,k,q⟩
   |_=>rw[e] at e0;exact absurd (cb e0) ()
  .exact .inr ⟨⟨e0,λj T i rest z=>hn (.take j T i) rest z⟩,q.to g⟩
end
theorem Qs{x d c:L}{a:List Str}{n:Int}{E:XK}(W:hX t H x d c a n 1)(M:1<=a.length)(e:jL a)(h5:a.length<=60)(q:(∃sh T sl rest,a=Hd.words (.take sh T sl)++rest/\Hd.ok (.take sh T sl)/\∀y v,aO x H y->hX t y x d c a n (Hd.words (.take sh T sl)).length->ue (λb=>H b=ah) y v (.take sh T sl)->Q v y) \/
 ((a[0]?=U ("take":Str)/\∀sh T sl rest,a=Hd.words (.take sh T sl)++rest->¬ Hd.ok (.take sh T sl))/\ndX t E x H n)) :
  Xd K t E (aX Q) (zZZ 3 [.ref x]) H:=by
 rcases q with ⟨sh,T,sl,rest,h2,h3,q⟩|⟨⟨h0,hn⟩,q⟩
 .obtain⟨u,D,O⟩:=h3;have w:a=([("take":Str),sh]++pre T)++([("as":Str),sl]++rest):=by rw[h2,Hd.words,cN]
  have G:(Hd.words (.take sh T sl)).length=2+(pre T).length+2:=by rw[Hd.words,bn,bn];rfl
  have I:2+(pre T).length+2<=a.length:=by rw[h2,bn,G];lia
  have e1:a[1]?=U sh:=by rw[w];simp
  have h:xc a 2=U (pst T,2+(pre T).length):=by
   rw[w];exact jo (A:=[("take":Str),sh]) D.wf D.ok ()
  have f:a[2+(pre T).length]?=U ("as":Str):=by rw[w];exact zi4 (i:=0) (by simp;lia)
  have e4:a[2+(pre T).length+1]?=U sl:=by rw[w];exact zi4 (i:=1) (by simp;lia)
  refine yE W.ix Y Y ⟨x,d,c,a,n,1,Y,W,M,e,.inl ⟨sh,e1,u,λH1 g l=>?_⟩⟩;refine yE l.ix Y Y ⟨x,d,c,a,n,2,Y,l,(),e,.inl ⟨_,_,h,λH2 r s k J B=>?_⟩⟩;refine yE k.ix Y Y ⟨x,d,c,a,n,_,Y,k,(),.inl ⟨f,λH3 m j=>?_⟩⟩;refine⟨_,Y,_,Y,yE j.ix Y Y ⟨x,d,c,a,n,_,Y,j,(),e,.inl ⟨sl,e4,O,λH4 C W4=>⟨by rw[dq];show 4<=_;decide,λp hp=>?_⟩⟩⟩⟩;have z:=hU (o:=HO.tup [V.str (bb "take"),V.str sh,V.ref r,V.str sl]) p hp;refine q _ (.ref p) (g.trans (s.trans (m.trans (C.trans (sx z))))) (by rw[G];exact W4.same z) ⟨p,r,Y,zi,z _ _ (C r _ B (m r _ B J))⟩
 .refine yE W.ix Y Y ⟨x,d,c,a,n,1,Y,W,M,e,?_⟩;rcases qP a 1 with ⟨sh,e1,u⟩|e1
  case inr=>exact .inr ⟨e1,q⟩
  refine .inl ⟨sh,e1,u,λH1 g l=>?_⟩;refine yE l.ix Y Y ⟨x,d,c,a,n,2,Y,l,(),e,?_⟩;rcases vO a 2 e with h|⟨T,h,tm,d2,I⟩
  case inl=>exact .inr ⟨h,q.to g⟩
  refine .inl ⟨_,_,h,λH2 r s k J B=>?_⟩;refine yE k.ix Y Y ⟨x,d,c,a,n,_,Y,k,I,?_⟩;by_cases f:a[2+(pre T).length]?=U ("as":Str)
  case neg=>exact .inr ⟨f,q.to (g.trans s)⟩
  refine .inl ⟨f,λH3 m j=>?_⟩;refine⟨_,Y,_,Y,yE j.ix Y Y ⟨x,d,c,a,n,_,Y,j,K9 f,e,?_⟩⟩;rcases qP a (2+(pre T).length+1) with ⟨sl,e4,o4⟩|e4
  case inr=>exact .inr ⟨e4,q.to (g.trans (s.trans m))⟩
  refine absurd (⟨u,tm,o4⟩:Hd.ok (.take sh T sl)) (hn sh T sl (a.drop (2+(pre T).length+2)) ?_);have N:=wm h0;have a1:=wm e1;have a3:=wm f;have a4:=wm e4;rw[gC,a1,d2,a3,a4] at N;rw[Hd.words];simpa using N
section
theorem zck{A B:L2.TS}(h:σ[1]?=U (U (.ref r)))(c:H r=U (.tup xs))(d:atI xs 0=U (.str w))(a:w=u->A D σ H)(b:w≠u->B D σ H):zO (zy (aN uk (aN (ya K) (Z 1) (tC (.int 0))) (tC (.str u)))) A B D σ H:=ziM (λ_ q=>⟨_,h,r,xs,0,_,Y,Y,tZ.of c,d,q⟩) a b
theorem WS{x:L}{v:V}{n:Int}{i g h f:L}{b:List V}{a:List Bool}{o:Hd}{F:L->Prop}{E:XK}(R:uv t H x i g h f b a)(s:ue F H v o) (p:zmH t H g h f b a v n o Q E) :
  kR K t E (aX Q) (zZZ 3 [.ref x,v,.int n]) H:=by
 obtain⟨r,y,w,rfl,c,d,j,l,m⟩:=zko s;rcases p with ⟨rfl,q⟩|⟨rfl,q⟩|⟨⟨T,rfl⟩,inn,zs,hi,hz,lz,n1,n2,q⟩|⟨hP,inn,zs,hi,hz,lz,q⟩
 .exact zck Y c d (λ_=>yE R.ix Y Y ⟨_,Y,x,n,i,g,h,f,b,a,Y,R,q⟩) λz=>absurd (j.mpr Y) z
 .exact zck Y c d (λz=>nomatch j.mp z) λ_=>zck Y c d (λ_=>yE R.ix Y Y ⟨_,Y,x,n,i,g,h,f,b,a,Y,R,q⟩) λz=>absurd (l.mpr Y) z
 .exact zck Y c d (λz=>nomatch j.mp z) λ_=>zck Y c d (λz=>nomatch l.mp z) λ_=>zck Y c d (λ_=>yE R.ix Y Y ⟨_,Y,_,Y,x,_,n,i,g,h,f,b,a,inn,zs,Y,R,hi,hz,lz,n1,n2,q⟩) λz=>absurd (m.mpr ⟨T,Y⟩) z
 .exact zck Y c d (λz=>by rw[j.mp z] at hP;exact hP.elim) λ_=>zck Y c d (λz=>by rw[l.mp z] at hP;exact hP.elim) λ_=>zck Y c d (λz=>by obtain⟨T,e⟩:=m.mp z;rw[e] at hP;exact hP.elim) λ_=>yE R.ix Y Y ⟨x,i,g,h,f,b,a,inn,Y,R,hi,λu k=>⟨.inl ⟨Y,_,aP.of (k _ _ hz)⟩,_,Y,inn,zs,_,Y,Y,k _ _ hz,dy (by lia:zs.length<=1000) (),q u k⟩⟩
end
theorem ze2{x:Str}{n:Nat}{E:XK}(hx:x.length<=20000)(ha:uf x)(hl:10 ∉ x.cps.toList)(q:(n<40/\∃c:Hd,x=c.line/\ZO c/\∀u v,ac H u->ue (λb=>H b=ah) u v c->Q v u)\/((40<=n\/zfL x)/\ndE t E H n)) :
  zba K t E (aX Q) (zZZ 5 [.str x,.int n]) H:=by
 have wc:(cP x vI).length<=x.length+1:=Jg x 32;refine⟨_,Y,Y,x,_,Y,Y,(),(),by rw[zk4];lia,λl G=>?_⟩;rw[zk4];have wo:jL (cP x vI):=Qb hx ha;have N:∀ {c:Hd},x=c.line->ZO c->cP x vI=c.words:=λe g=>by rw[e];exact jK g
 have C:=λ(c:Hd) (h60:(cP x vI).length<=60) (e:cP x vI=c.words) (i:c.ok)=>zeW hx ha hl h60 e i;generalize cP x vI=ws at *
 generalize c0:upd H l _=H1;obtain⟨h,T⟩:=uA c0 G;refine⟨_,Y,_,_,Y,Y,_,Y,?_⟩;rcases fe n 40 with h3|h3
 case inr=>exact Yz (Bj ()) (Yz rfl ⟨_,rfl,_,rfl,jI (q.elim (λz=>by lia) λz=>z.2) h⟩)
 refine xU (Bk ()) ⟨_,Y,.ref l,ws.length,Y,.inl ⟨_,aP.of T,(bi ..).symm⟩,_,_,Y,Y,_,Y,?_⟩;rcases fe 60 ws.length with h60|h60
 .refine Yz (Bj ()) ⟨_,Y,_,Y,?_⟩;rcases q with ⟨_,c,e,g,_⟩|⟨_,q⟩
  .have:=g.ln;rw[<-N e g] at this;lia
  .exact jI q h
 refine xU (Bk ()) ⟨_,Y,_,Y,?_⟩;intro y f hy I nn;have k:=hU (o:=HO.own y) f I;have p:upd H1 f (HO.own y) y=ah:=by rw[zm (cK nn)];exact hy
 have A:=hU (o:=HO.ins t.q06 f []) y p;have J:H y=ah:=yk (h.trans k) p;refine⟨y,l,n,f,ws,Y,zi,(k.trans A) _ _ T,λH2 B W2=>⟨Y,?_⟩⟩;have S2:ac H H2:=B.same (h.trans (k.trans A)) J;refine⟨_,Y,y,f,l,ws,_,Y,W2,wo,h60,?_⟩;rcases q with ⟨_,c,e,g,q⟩|⟨D,q⟩
 .have M:=N e g;refine .inl ⟨c,[],by rw[bu];exact M,g.ok,λH3 v j s hv=>?_⟩;have S3:ac H H3:=(B.trans j).same (h.trans (k.trans A)) J;exact yE s.ix Y Y ⟨y,f,l,ws,_,_,Y,s,by rw[M];exact br _,.inl ⟨by rw[M],λH4 w=>⟨_,Y,q H4 v (S3.trans w) (hv.to (λb hb=>yk S2 hb) w)⟩⟩⟩
 .have m:∀H3,aO y H2 H3->ndX t E y H3 _:=λH3 j d u w e=>q d u ((B.trans (j.trans w)).same (h.trans (k.trans A)) J) e;have D:zfL x:=D.resolve_left ();by_cases ex:∃c rest,ws=Hd.words c++rest/\c.ok
  .obtain⟨c,rest,e,i⟩:=ex;have O:c.words.length<ws.length:=by
    cases rest with
    |nil =>
     rw[bu] at e;obtain⟨z1,z2⟩:=C c h60 e i;exact absurd z2 (D c z1)
    |cons a r=>rw[e,bn,bR];lia
   exact .inl ⟨c,rest,e,i,λH3 v j s hv=>yE s.ix Y Y ⟨y,f,l,ws,_,_,Y,s,pj O,.inr ⟨O,m H3 j⟩⟩⟩
  .exact .inr ⟨λc rest e i=>ex ⟨c,rest,e,i⟩,m H2 (aO.refl y H2)⟩
theorem zgT{o1:V}{xl rd dx y bl tl:L}{m:List Str}{C:Hp}{E:XK}(F:RdF K t)(hl:C xl=U (.lst (m.map V.str)))(s0:ac C H)(R:uv t H rd dx y bl tl [] [])(hr:H y=U (.lst []))(f1:C y=ah)(f2:C bl=ah)(f3:C tl=ah)(Bn:∀x∈m,(x.length<=20000/\uf x)/\10 ∉ x.cps.toList)(q:∀D,uq .nil [] 0 m=.ok D->∀H' xs,ac C H'->H' y=U (.lst xs)->aT Kl H' xs D->Q (.ref y) H')(q2:∀k,uq .nil [] 0 m=.error k->ndE t E C k) :
  zbb K t E (aX Q) [U o1,U (.ref xl),U (.ref rd),ah,ah] H:=by
 refine⟨_,Y,xl,_,Y,aP.of (s0 _ _ hl),zeC (m.map V.str) (rdI t o1 xl rd dx y bl tl m C) ⟨⟨_,_,Y⟩,.nil,[],y,[],[y],Y,s0,⟨by unfold tY.ok;trivial,bU _,by rw[tY.deep];lia⟩,R,⟨Y,Y,Y,[],hr,by unfold aT;rfl⟩,by simp,λa ha=>by rw[bY.mp ha];exact⟨f1,R.n1,R.n2⟩,f2,f3⟩ (λi σ H' ⟨_,_,_,_,_,_,_,n⟩=>aP.of (n.sm _ _ hl)) ?_ ?_⟩
 .rintro i u A σ H' I hA ⟨⟨o3,o4,rfl⟩,w,g,s,bs,sp,d,n⟩;rw[bW] at I;cases ht:m[i]? with
  |none=>rw[ht] at I;cases I
  |some x =>
   rw[ht] at I;have I:V.str x=u:=cb I;subst I;have hi:=(bE.mp ht).1;have Lx:=Bn x (cw ht);have dr:m.drop i=x::m.drop (i+1):=wm ht;rw[dr] at d;have d:uq .nil [] 0 m=if 40<=i then .error i else match hdS x with|some h=>(match stp w g h with|some z=>uq z.1 z.2 (i+1) (m.drop (i+1))|none=>.error i)|none=>.error i:=d
   have s1:=hU (o:=HO.tup [V.int (i:Int),V.str x]) A hA;have Z1:=n.same s1;refine⟨A,_,Y,tZ.of zi,Y,_,_,Y,_,_,Y,Y,yE (s1 _ _ n.ra.ix) Y Y ⟨_,Y,_,Y,x,i,Y,Lx.1.1,Lx.1.2,Lx.2,?_⟩⟩;by_cases h40:40<=i
   .rw[ao h40] at d;exact .inr ⟨.inl h40,(q2 i d).mono Z1.sm⟩
   rw[am h40] at d;cases hh:hdS x with
   |none=>rw[hh] at d;exact .inr ⟨.inr (zdH hh),(q2 i d).mono Z1.sm⟩
   |some h =>
   rw[hh] at d;have d:uq .nil [] 0 m=match stp w g h with|some z=>uq z.1 z.2 (i+1) (m.drop (i+1))|none=>.error i:=d
   obtain⟨ex,Lh⟩:=WI hh;refine .inl ⟨(),h,ex,Lh,λH2 v s2 hv=>?_⟩;have p:=Z1.same s2;refine⟨_,Y,rd,v,(i:Int),dx,y,bl,tl,bs.reverse,(g.map Fm.c).reverse,h,_,Y,p.ra,hv,?_⟩;obtain⟨aa,an,zs,hz,lz⟩:=p.inn;have le:=(uD.inn g p.za).2.2;have er:stp w g h=ah->ndE t E H2 i:=λe=>by rw[e] at d;exact(q2 i d).mono p.sm
   cases h with
   |iff T =>
    have si:=p.sp s an;refine .inr (.inr (.inl ⟨⟨T,Y⟩,s,zs,aa,hz,(),si.2.1,si.2.2,λl5 H3 r=>?_,λl5=>er ?_⟩))
    .rw[m7] at l5;have j:stp w g (.iff T)=U (tY.nil,(⟨T,ag,.nil,w⟩:Fm)::g):=ao ();rw[j] at d;obtain⟨l,O,G,Z3⟩:=Z1.iff (s2.trans r) (r _ _ hz) Lh (hv.to (λ_ f=>f) r) j;exact⟨⟨_,_,Y⟩,_,_,l,O,G,d,Z3⟩
    .rw[m7] at l5;exact am ()
   |els =>
    refine .inl ⟨Y,?_⟩;cases j:stp w g .els with
    |some z =>
     obtain⟨D',J⟩:=z;rw[j] at d;obtain⟨bs1,b,cs,e1,e2,_⟩:=p.els Lh j;refine .inl ⟨bs1,b,cs,e1,e2,λH3 r=>?_⟩;obtain⟨B,b',N,al,M,l,Z3⟩:=(p.same r).els Lh j;have:N=cs:=mD (M.symm.trans e2) rfl;subst this;exact⟨⟨_,_,Y⟩,D',J,l,bs,sp,d,Z3⟩
    |none =>
     refine .inr ⟨?_,er j⟩;cases g with
     |nil=>exact .inl (by have e:=p.za.1;rw[e];rfl)
     |cons f g =>
      have j:(if f.c=ag then U (tY.nil,(⟨f.T,ai,w,f.up⟩:Fm)::g) else ah)=ah:=j;have fc:f.c=ai:=by
       cases q:f.c with
       |true=>rfl
       |false=>rw[ao q] at j;cases j
      obtain⟨b0,bs0,e0⟩:∃b0 bs0,bs=b0::bs0:=by
       cases bs with
       |nil=>cases le
       |cons b0 bs0=>exact⟨b0,bs0,Y⟩
      exact .inr ⟨bs0.reverse,b0,(g.map Fm.c).reverse,by rw[e0,dL],by rw[bN,dL,fc]⟩
   |nd =>
    refine .inr (.inl ⟨Y,?_⟩);cases j:stp w g .nd with
    |some z =>
     obtain⟨D',J⟩:=z;rw[j] at d;obtain⟨bs1,b,cs,c,e1,e2,_⟩:=p.nd_ Lh j;refine .inl ⟨bs1,b,cs,c,e1,e2,λH3 r=>?_⟩;obtain⟨B,b',N,c',al,M,l,O,G,Z3⟩:=(p.same r).nd_ Lh j;have:N=cs:=mD (M.symm.trans e2) rfl;subst this;have:B=bs1:=mD (al.symm.trans e1) rfl;subst this;exact⟨⟨_,_,Y⟩,D',J,l,O,G,d,Z3⟩
    |none =>
     refine .inr ⟨?_,er j⟩;cases g with
     |nil=>have e:=p.za.1;rw[e];rfl
     |cons f g=>cases j
   |_=>exact .inr (.inr (.inr ⟨trivial,s,zs,aa,hz,(),λH3 r=>⟨⟨_,_,Y⟩,_,_,s,bs,sp,d,(p.same r).plain (r _ _ hz) (by exact trivial) Lh (hv.to (λ_ _=>trivial) r) Y⟩⟩))
 .rintro σ H' ⟨⟨o3,o4,rfl⟩,w,g,s,bs,sp,d,n⟩;rw[bi,List.drop_of_length_le (br _)] at d;have d:uq .nil [] 0 m=if g.length=0 then .ok w else .error m.length:=d
  have le:=(uD.inn g n.za).2.2;refine zgN F n.ra (n.sm _ _ hl) (λe=>λH2 s2=>?_) λe=>?_
  .have e0:bs=[]:=List.reverse_eq_nil_iff.mp e;have f0:g=[]:=by rw[e0] at le;exact oK.mp le.symm
   subst f0;obtain⟨e1,e2,e3,xs,h1,h2⟩:=n.za;rw[bu] at h1;exact q w d H2 xs (n.sm.trans s2) (s2 _ _ h1) (aT.any n.gd.1 (aT.same s2 n.gd.1 h2))
  .rw[am (λz=>e (by rw[List.reverse_eq_nil_iff];exact oK.mp ()))] at d;rw[bi];exact(q2 _ d).mono n.sm
theorem zbf{p:V}{l:L}{ls:List Str}{E:XK}(F:RdF K t)(u:H l=U (.lst (ls.map V.str)))(C:∀x∈ls,(x.length<=20000/\uf x)/\10 ∉ x.cps.toList)(q:∀D,uq .nil [] 0 ls=.ok D->∀H' l a,ac H H'->H' l=U (.lst a)->aT Kl H' a D->Q (.ref l) H')(m:∀k,uq .nil [] 0 ls=.error k->ndE t E H k) :
  zbc K t E (aX Q) [U p,U (.ref l),ah,ah,ah] H:=by
 intro x d h g n;have c:=hU (o:=HO.own x) d g;have f:upd H d (HO.own x) x=ah:=by rw[zm (cK n)];exact h
 have b:=hU (o:=HO.ins t.q05 d []) x f;refine⟨x,d,Y,zi,λH' j I G i R r A z y=>⟨Y,?_⟩⟩;have S:ac H H':=i.same (c.trans b) h;exact zgT F u S R r (yk (c.trans b) A) (yk (c.trans b) z) (yk (c.trans b) y) C (λD e B a s w v=>q D e B j a s w v) m
theorem zjj{x:Str}{E:XK}(F:RdF K t)(n:uf x)(m:x.length<=20000)(q:∀D,uq .nil [] 0 (yJ x)=.ok D->∀a l b,ac H a->a l=U (.lst b)->aT Kl a b D->Q (.ref l) a)(d:∀k,uq .nil [] 0 (yJ x)=.error k->ndE t E H k) :
  zfM K t E (aX Q) (zZZ 5 [.str x]) H:=by
 refine⟨_,Y,Y,_,Y,?_⟩;by_cases hx:x=""
 .rw[show yJ x=[] from ao hx] at q d;refine xU (by rw[hx];rfl) ⟨bU _,λl g=>?_⟩;have c:=hU (o:=HO.lst []) l g;exact zbf (ls:=[]) F zi () (λD e a f b s i h=>q D e a f b (c.trans s) i h) λk e=>(d k e).mono c
 .rw[show yJ x=cP x vJ from am hx] at q d;have p:(cP x vJ).length<=x.length+1:=Jg x 10;refine Yz (by rw[Bk (λz=>hx (V.str.inj z))];rfl) ⟨_,Y,Y,x,_,Y,Y,(),(),by rw[zk5];lia,λl g=>?_⟩;rw[zk5];have c:=hU (o:=HO.lst (cE V.str (cP x vJ))) l g;exact zbf F zi (λy j=>⟨Qb m n y j,(YR j).2.2⟩) (λD e a f b s i h=>q D e a f b (c.trans s) i h) λk e=>(d k e).mono c
theorem zd0:∀ {rs:List Str},(∀r∈rs,uf r)->uf (cX vJ rs)
 |[],_=>λc a=>nomatch a
 |[x],h=>h x bK
 |x::y::r,h=>λc a=>by
  have a:c∈(cX ⟨#[10]⟩ (x::y::r)).cps.toList:=a;rw[xQ] at a;rcases cj.mp a with z|z
  .exact h x bK c z
  .rcases bJ.mp z with rfl|z
   .decide
   .exact zd0 (rs:=y::r) (λw b=>h w (bF _ b)) c z
theorem zfV:∀ {ws:List Str},(∀w∈ws,w.length<=100)->(ws.map (·.length)).sum<=100*ws.length
 |[],_=>br _
 |w::ws,h=>by
  have b:=zfV (ws:=ws) λu a=>h u (bF _ a);have:=h w bK;rw[bN,gn,bR];lia
theorem zbg(l:rs.length<=10)(h:∀r∈rs,uf r/\r.length<=100):zc0 (bb "\n") rs<=2000/\jt (bb "\n") rs=cX vJ rs/\uf (cX vJ rs):=by
 refine⟨?_,?_,zd0 λr b=>(h r b).1⟩
 .unfold zc0;rw[JI,show (bb "\n").length=1 from by lia];have:=zfV λw a=>(h w a).2;lia
 .rw[Wf,show bb "\n"=vJ from by lia]
def gdR(r:Str):Prop:=r.length<=50/\uf r/\10 ∉ r.cps.toList
theorem zfW:gdR (bb "if 1"):=by
 have z:(bb "if 1").length<=50/\(∀c∈(bb "if 1").cps.toList,c<128)/\10 ∉ (bb "if 1").cps.toList:=by lia
 exact z
theorem WT{a:List Int}(h:jk a):∀r∈a.map yO,gdR r:=λr b=>by
 obtain⟨n,c,rfl⟩:=dz.mp b;exact Qn (h.2.2 n c)
theorem VA(h:2<=rs.length)(b:∀r∈rs,gdR r):yJ (cX vJ rs)=rs:=Qo (λz=>by rw[z] at h;exact absurd h ()) (λz=>by rw[z] at h;exact absurd h ()) λr a=>(b r a).2.2
theorem zk9 :uq .nil [] 0 (bb "if 1" :: r)=uq .nil [⟨.leaf (bb "1"),ag,.nil,.nil⟩] 1 r:=by
 rw[uq,am (),zl8];rfl
def zcl(a:List Int)(j:Nat)(x:Str):List Str:=(a.map yO).take j++[x]++(a.map yO).drop j
theorem zcm{a:List Int}{i j:Nat}(h:jk a)(c:j<=a.length)(b:uC[i]?=U x):(zcl a j x).length=a.length+1/\∀r∈zcl a j x,gdR r:=by
 constructor
 .unfold zcl;rw[bn,bn,c7,fw,bi,gL];lia
 .intro r hr;rcases cj.mp hr with hr|hr
  .rcases cj.mp hr with hr|hr
   .exact WT h r (f8 hr)
   .cases bY.mp hr;exact zl9 x (cw b)
  .exact WT h r (iC hr)
theorem zfX{a:List Int}(h:jk a)(g:j<=a.length)(c:uC[i]?=U x)(e:fs=[]\/i≠5/\i≠6)(f:k<=2):uq D fs k (zcl a j x)=.error (j+k):=by
 unfold zcl;have:=h.2.1;have b:(a.take j).length=j:=by rw[c7];lia
 rw[<-oJ,cN,JN (λn d=>h.2.2 n (f8 d)) (),b,sK];exact zma c e
theorem zjk{a:List Int}{i j:Nat}(h:jk a)(c:j<=a.length)(b:uC[i]?=U x):uq .nil [] 0 (yJ (cX vJ ([]++zcl a j x)))=.error (j+([]:List Str).length):=by
 obtain⟨l,g⟩:=zcm h c b;have:=h.1;rw[cp,VA () g];exact zfX h c b (.inl Y) ()
theorem zgU{a:List Int}(h:jk a)(c:j<=a.length)(b:uC[i]?=U x)(f:i≠5/\i≠6):uq .nil [] 0 (yJ (cX vJ ([bb "if 1"]++zcl a j x)))=.error (j+[bb "if 1"].length):=by
 obtain⟨l,g⟩:=zcm h c b;have:=h.1;rw[mE,VA (by rw[bR];lia) (λr d=>(bJ.mp d).elim (λe=>by rw[e];exact zfW) (g r)),zk9];exact zfX h c b (.inr f) ()
theorem zgV{ns:List Int}(h:jk ns):uq .nil [] 0 (yJ (cX vJ ([bb "if 1"]++ns.map yO)))=.error (ns.length+[bb "if 1"].length):=by
 have:=h.1;have:=h.2.1;rw[mE,VA (by rw[bR,bi];lia) (λr a=>(bJ.mp a).elim (λe=>by rw[e];exact zfW) (WT h r)),zk9];have e:=JN (ns:=ns) (D:=.nil) (fs:=[⟨.leaf (bb "1"),ag,.nil,.nil⟩]) (k:=1) (r:=[]) h.2.2 ();rw[bu] at e;rw[e,uq,sK];rfl
theorem ndF{P:Str->Option ae}(T:Txt K P t):NdF K t:=⟨T.es_NoDealing,T.nx_NoDealing,T.q41,T.i_NoDealing_ValueError,T.j_NoDealing_0,T.j_NoDealing_1,T.i_NoDealing_ForerunError⟩
theorem WU{a:L}{b:List Int}{k:Nat}(d:aP K H a (b.map V.int))(m:b.length<=63)(h:∀i∈b,Cb i)(q:∀c f,ac H f->Cb c->Q (.int c) f) :
  vZ K t (aX Q) (zZZ 2 [.ref a,.int k]) H:=by
 simp only[vZ,zZZ,zo,zD,zH,aN,Z,tC,ze,zj,zO,zy,tW,YS,x6,ur,xF,cE,bD,bQ,bu,bd,bq,bh,aj,V.int.injEq,V.ref.injEq,V.bl.injEq,bx,and_true,ak,bO,bL,decide_eq_true_eq];refine⟨_,.inl ⟨_,d,Y⟩,qg (λe=>?_) λe=>?_⟩
 .rw[bi] at e;obtain⟨v,l,j⟩:=zmI (xs:=b.map V.int) (i:=(k:Int)) () (by rw[bi];lia);obtain⟨x,g,rfl⟩:=dz.mp j;exact⟨_,d,_,l,q _ _ (ac.refl _) (h x g)⟩
 .exact q _ _ (ac.refl _) (Cb.of ())
theorem zcn{k:Nat}{x:Str}(h:uC[k]?=U x)(q:∀d,ac H d->Q (.str x) d) :
  Yu K t (aX Q) (zZZ 2 [.int k]) H:=by
 simp only[Yu,Zu,zZZ,zo,zM,zq,zD,aN,Z,tC,yr,ze,zj,Zu,x6,cE,bD,bQ,cf,cp,bd,bq,bh,aj,V.int.injEq,V.ref.injEq,ak,bX,bZ,bO,bL];refine⟨(),λp f=>⟨(),λc a=>⟨_,hU c a _ _ zi,_,zi,(),λe b=>⟨_,aP.of zi,_,X2 (j:=k) ?_,q _ ((hU p f).trans ((hU c a).trans (hU e b)))⟩⟩⟩⟩;show (uC.map V.str)[k]?=_;rw[bW,h];rfl
theorem zm2{a b:Int}(g:0<=a)(f:a<=1000)(e:0<=b)(d:b<=1000):CMulB a b:=by
 have c:(1000:Int)<big:=by lia
 unfold CMulB;lia
def lrN(c:Int)(i:Nat):Int:=(c/4+7*(i:Int))%1000000000000000000000000000000
def lrV(c:Int)(i:Nat)(v:V):Prop:=v=.str (yO (lrN c i))
theorem ze3{c:Int} :0<=lrN c i/\lrN c i<1000000000000000000000000000000:=⟨fL _ (),fV _ ()⟩
theorem zaf{c:Int}(q:∀l g a,ac H a->H l=ah->jk g->a l=U (.lst ((g.map yO).map V.str))->Q (.ref l) a) :
  qL K t (aX Q) (zZZ 1 [.int c]) H:=by
 simp only[qL,zZZ,zq,zD,aN,Z,tC,ze,zj,tW,wd,Zi,Jp,zg4,rI,ur,J9,zgd,cE,bD,bQ,cf,cp,bu,bd,bh,aj,V.int.injEq,V.str.injEq,bx,and_true,ak,bO,bL,m6,oH,lH,if_true];refine⟨(),(),(),λD j=>?_⟩;obtain⟨m,A⟩:∃m:Nat,(1+c%4).toNat=m:=⟨_,Y⟩;have s:1<=m:=by lia
 have p:m<=4:=by lia
 rw[A];refine kG (J:=Itr 0 m) m () (λb=>∃o,b=[o,U (.int c)]) (lrV c) ⟨_,Y⟩ (λi H _ h=>h) (λH _=>br _) j ?_ ?_
 .rintro i v b k E ⟨o,rfl⟩ f C ⟨rfl,u⟩;subst u;have e:(c/4+7*(0+(i:Int)))%1000000000000000000000000000000=lrN c i:=by rw[Int.zero_add];rfl
  refine⟨_,Y,_,Y,⟨(),()⟩,_,Y,_,Y,zm2 () () () (),zdA () (),(),?_⟩;rw[e];have r:=(Qn (ze3 (c:=c) (i:=i))).1;exact⟨zb1 (Qm ze3),zR (by rw[<-jR];exact cg r ()),⟨_,Y⟩,Y,ac.refl _⟩
 .intro d k B y f w;refine q D ((dH m).map (lrN c)) k f j ⟨by rw[bi,iy];exact s,by rw[bi,iy];exact p,λn x=>?_⟩ ?_
  .obtain⟨i,_,rfl⟩:=dz.mp x;exact ze3
  .rw[w];refine congrArg (λl=>U (HO.lst l)) (dY λi=>?_);rw[bW,bW,bW];rcases fe i m with z|z
   .rw[bj (by lia:i<d.length),y i _ (bj (by lia:i<d.length)),List.getElem?_range z];rfl
   .rw[ck (),ck (by rw[iy];exact z)];rfl
section
variable {x l:L}{n h:Int}{b:HAd}{a:ui}{lb:L->Nat}{CC:List (List Int)}{S:DS}
theorem zkJ{ea:L}{k:Nat}{e d c:Option V}(q:Q (.int k) H) :
  j5 K t (aX Q) [e,d,U (.bl ai),U (.bl ag),U (.bl ag),U (.int k),c] H :=
 ⟨_,Y,_,Y,xU Y ⟨_,Y,_,Y,xU Y ⟨_,Y,_,Y,xU Y (zi8 Y (.int k) (zdB _) (xU Y (zi8 Y (.int k) (kf K).i_b (xU Y ⟨_,Y,q⟩))))⟩⟩⟩
theorem VB{f:List Str}{k:Nat}(F:NdF K t)(z:uy t H x b a lb n CC S)(G:H l=U (.lst (f.map V.str)))(o:f.length<=10)(D:∀r∈f,uf r/\r.length<=100)(m:CC.length<12)(e:uq .nil [] 0 (yJ (cX vJ f))=.error k)(q:∀A,ac H A->Q (.int k) A) :
  Ze K t (aX Q) (zZZ 7 [.ref x,.ref l]) H:=by
 obtain⟨T,y,C⟩:=zbg o D;have c:=F.es.exk;have jl:=YM (bb "\n") f;refine⟨_,Y,yE z.h.ix Y Y ⟨Y,_,Y,_,l,f,Y,Y,aP.of G,zR (),x,_,b,a,lb,n,CC,S,Y,z,by rw[y];exact C,(),m,.inr ⟨k,by rw[y];exact e,λd O B I=>⟨_,d,Y,Y,F.ex,λea u=>?_⟩⟩⟩⟩;generalize c1:upd O ea _=H2;obtain⟨v,i⟩:=uA c1 u;have N:=v _ _ I;refine⟨_,Y,ea,_,_,_,_,ai,Y,i,c,Y,F.ie,_,Y,Yz Y ⟨_,Y,ea,_,_,_,_,ai,Y,i,c,Y,F.iv,_,Y,by rw[dq];show 5<=_;decide,λp E=>?_⟩⟩;generalize c2:upd H2 p _=H3;obtain⟨g,M⟩:=uA c2 E;refine⟨ea,_,_,p,[t.q0a,t.q04,t.q0f,t.q0e,t.q0p],ag,Y,g _ _ i,c,M,F.io,_,Y,by rw[dq];show 4<=_;decide,λw s=>?_⟩;generalize c3:upd H3 w _=H4;obtain⟨j,J⟩:=uA c3 s;exact⟨ea,_,_,w,[t.q08,t.q0s,t.q0q,t.q0r],ag,Y,j _ _ (g _ _ i),c,J,F.ip,_,Y,ea,_,d,_,_,Y,j _ _ (g _ _ i),F.es,F.nx,j _ _ (g _ _ N),Y,zkJ (t:=t) (ea:=ea) (q _ (B.trans (v.trans (g.trans j))))⟩
theorem VC(F:eG K (.ref t.q08) (.ref t.q08)=U ai)(d:uy t H x b a lb n CC S)(e:h<0\/n<=h)(q:∀c,ac H c->Q (.bl ai) c) :
  v3 K t (aX Q) (zZZ 3 [.ref x,.int h]) H:=by
 simp only[v3,kq,zbG,zh3,zZZ,zer,zo,zM,zq,zD,Z,tC,ze,zj,cE,bD,bQ,cf,cp,bu,bd,bq,bh,aj,V.int.injEq,V.ref.injEq,bx,and_true,and_assoc,ak,bX,bZ,bO,bL];exact⟨_,_,d.h.ix,Y,b,a,lb,n,CC,S,d,e,λc s=>⟨_,Y,F,q c s⟩⟩
theorem zco{B A z:Option V}{u s:L}{c d:List Str}{j:Nat}(D:uy t H x b a lb n CC S)(E:H u=U (.lst (d.map V.str)))(y:H s=U (.lst (c.map V.str)))(w:∀r∈c++d,gdR r)(f:(c++d).length<=10)(k:CC.length<12)(e:uq .nil [] 0 (yJ (cX vJ (c++d)))=.error (j+c.length))(q:∀g,ac H g->Q (.bl ai) g) :
  yW K t (aX Q) [U (.ref x),B,A,U (.ref u),U (.int j),z,U (.ref s)] H:=by
 simp only[yW,vW,Zu,zD,aN,Z,ze,zj,tW,zG,YS,Zu,uk,ur,xF,qa,bu,bd,bq,bh,aj,V.int.injEq,V.ref.injEq,bx,and_true,true_and,and_assoc,ak];rw[bn] at f;refine⟨_,y,_,E,zR (by rw[bi,bi];lia),λp C=>?_⟩;have i:=hU (o:=HO.lst (c.map V.str++d.map V.str)) p C;refine⟨c++d,_,b,a,lb,n,CC,S,D.same i,by rw[zi,cm],by rw[bn];exact f,λr v=>⟨(w r v).2.1,cg (w r v).1 ()⟩,k,e,λg m=>⟨_,.inl ⟨_,aP.of ((i.trans m) _ _ y),Y⟩,?_⟩⟩;rw[bi,Bj ()];exact q g (i.trans m)
theorem zkK{E C B:Option V}{c:List Str}{i j:Nat}{z:Str}(I:H l3=U (.lst (c.map V.str)))(l4:c.length<=4)(G:j<=c.length)(N:uC[i]?=U z)(q:∀p m,ac H m->m p=U (.lst ((c.take j++[z]++c.drop j).map V.str))->D.nx [U (.ref x),E,C,U (.ref p),U (.int j),U (.int i),B] m) :
  yV K t D [U (.ref x),E,C,U (.ref l3),U (.int j),U (.int i),B] H:=by
 simp only[yV,Z4,Zu,zM,zq,aN,Z,yr,ze,zj,tSl,wF,yI,zG,Zu,Xh,bQ,bu,bd,bq,bh,aj,V.int.injEq,V.ref.injEq,bx,and_true,ak,bX,bZ,bL];refine⟨_,aP.of I,λp O=>?_⟩;rw[zlU V.str c G];have M:=hU (o:=HO.lst ((c.take j).map V.str)) p O;have e1:upd H p (HO.lst ((c.take j).map V.str)) p=U (HO.lst ((c.take j).map V.str)):=zi;generalize upd H p (HO.lst ((c.take j).map V.str))=H1 at *
 refine⟨i,Y,z,N,λH2 v=>⟨(),λA k=>?_⟩⟩;have u:=hU (o:=HO.lst [V.str z]) A k;refine⟨_,u _ _ (v _ _ e1),_,zi,zR (by rw[bi,c7];show _+1<=_;lia),λd g=>?_⟩;generalize upd H2 A (HO.lst [V.str z])=H3 at *
 have J:=hU (o:=HO.lst ((c.take j).map V.str++[V.str z])) d g;have T:upd H3 d (HO.lst ((c.take j).map V.str++[V.str z])) d=U (HO.lst ((c.take j).map V.str++[V.str z])):=zi;generalize upd H3 d (HO.lst ((c.take j).map V.str++[V.str z]))=H4 at *
 have r:=M.trans (v.trans (u.trans J));refine⟨_,aP.of (r _ _ I),λy f=>?_⟩;rw[zdI V.str c G];have s:=hU (o:=HO.lst ((c.drop j).map V.str)) y f;refine⟨_,s _ _ T,_,zi,zR (by rw[bn,bi,bi,c7,fw];show _+1+_<=_;lia),λw e=>?_⟩;generalize upd H4 y (HO.lst ((c.drop j).map V.str))=H5 at *
 refine q w _ (r.trans (s.trans (hU w e))) ?_;rw[zi,cm,cm];rfl
theorem zfY{N:Option V}{c:Int}{C B:L}{as:List Str}{i j:Nat}{z:Str}{f:List Int}(G:uy t H x b a lb n CC S)(I:H C=U (.lst ((f.map yO).map V.str)))(A:H B=U (.lst (as.map V.str)))(m:jk f)(E:j<=f.length)(y:uC[i]?=U z)(O:as=[]\/as=[bb "if 1"]/\i≠5/\i≠6)(g:CC.length<12)(q:∀J,ac H J->Q (.bl ai) J) :
  yX K t (aX Q) [U (.ref x),U (.int c),N,U (.ref C),U (.int j),U (.int i),U (.ref B)] H:=by
 have hl:=m.2.1;have lm:(f.map yO).length=f.length:=bi _;have v:∀H0,ac H H0->yV K t { nx:=yW K t (aX Q),rt:=Q } [U (.ref x),U (.int c),N,U (.ref C),U (.int j),U (.int i),U (.ref B)] H0:=λH0 M=>by
  refine zkK (M _ _ I) () () y λp J s T=>?_;have k:=M.trans s;obtain⟨bl,bg⟩:=zcm m E y;rcases O with rfl|⟨rfl,i5⟩
  .exact zco (G.same k) T (k _ _ A) bg (by show (zcl f j z).length<=10;rw[bl];lia) g (zjk m E y) λw u=>q w (k.trans u)
  .exact zco (G.same k) T (k _ _ A) (λr D=>(bJ.mp D).elim (λe=>by rw[e];exact zfW) (bg r)) (by show (zcl f j z).length+1<=10;rw[bl];lia) g (zgU m E y i5) λw u=>q w (k.trans u)
 simp only[yX,Xq,zo,zM,zq,aN,Z,tC,yr,ze,zj,zO,zeb,zy,tW,YS,uk,rI,xF,qa,bQ,bd,bq,bh,aj,V.int.injEq,V.ref.injEq,V.bl.injEq,bx,and_true,true_and,ak,bX,bZ,decide_eq_true_eq,cr,decide_eq_false_iff_not,cu,ite_false];refine⟨⟨(),()⟩,(),?_⟩;by_cases c2:c/24%2=0
 .rw[ao c2];refine⟨(),λp hp=>?_⟩;have d:=hU (o:=HO.lst []) p hp;have e1:upd H p (HO.lst []) p=U (HO.lst []):=zi;generalize upd H p (HO.lst [])=H1 at *
  refine⟨_,aP.of (d _ _ A),aP.of e1,?_⟩;rcases O with rfl|⟨rfl,i5⟩
  .rw[am (λz=>z Y)];exact v H1 d
  .rw[ao ()];refine⟨_,.inl ⟨_,aP.of (d _ _ I),Y⟩,?_⟩;rw[bi,bi];exact zco (G.same d) (d _ _ I) (d _ _ A) (λr D=>(bJ.mp D).elim (λe=>by rw[e];exact zfW) (WT m r)) (by rw[mE,bR,bi];lia) g (zgV m) λw u=>q w (d.trans u)
 .rw[am c2];exact v H (ac.refl H)
theorem zkL{u:Option V}{c:Int}{r m:L}{i j:Nat}{z:Str}{k:List Int}(A:uy t H x b a lb n CC S)(B:H r=U (.lst ((k.map yO).map V.str)))(G:H m=U (.lst []))(w:jk k)(y:j<=k.length)(v:uC[i]?=U z)(f:CC.length<12)(q:∀C,ac H C->Q (.bl ai) C) :
  wb K t (aX Q) [U (.ref x),U (.int c),u,U (.ref r),U (.int j),U (.int i),U (.ref m)] H:=by
 have d:=λ(s:St) (e:s=[U (V.ref x),U (V.int c),u,U (V.ref r),U (V.int j),U (V.int i),U (V.ref m)])=>(show yX K t (aX Q) s H by rw[e];exact zfY (as:=[]) A B G w y v (.inl Y) f q);simp only[wb,zo,zM,zq,zH,aN,Z,tC,yr,ze,zj,zO,zeb,zy,uk,uF,rI,qa,bQ,bd,bq,bh,aj,V.int.injEq,V.bl.injEq,true_and,ak,bX,bZ,bL,decide_eq_true_eq,cr,decide_eq_false_iff_not,cu,ite_false];refine⟨⟨(),()⟩,(),?_⟩;by_cases c1:c/3120%9=4
 .rw[ao c1];by_cases c2:(i:Int)=5
  .rw[am (λz=>z c2)];exact d _ rfl
  .rw[ao c2];by_cases c3:(i:Int)=6
   .rw[am (λz=>z c3)];exact d _ rfl
   .rw[ao c3];refine⟨(),λp E=>?_⟩;have g:=hU (o:=HO.lst [V.str (bb "if 1")]) p E;exact zfY (as:=[bb "if 1"]) (A.same g) (g _ _ B) zi w y v (.inr ⟨Y,(),()⟩) f λI D=>q I (g.trans D)
 .rw[am c1];exact d _ rfl
theorem XW{c:Int}{d:List Int}(A:uy t H x b a lb n CC S)(y:jk d)(r:H l=U (.lst ((d.map yO).map V.str)))(k:CC.length<12)(q:∀s,ac H s->Q (.bl ai) s) :
  wS K t (aX Q) (zZZ 7 [.ref x,.int c,.ref l]) H:=by
 simp only[wS,zZZ,zbB,zo,zM,zq,aN,Z,tC,yr,ze,zj,tW,YS,rI,ur,xF,cE,bD,bQ,cf,cp,bd,bq,bh,aj,V.int.injEq,V.ref.injEq,bx,and_true,ak,bX,bZ,bO,bL];refine⟨_,.inl (aP.of r),λe p=>⟨⟨(),()⟩,?_⟩⟩;have g:=hU (o:=HO.lst ((d.map yO).map V.str)) e p;have D:upd H e (HO.lst ((d.map yO).map V.str)) e=U (HO.lst ((d.map yO).map V.str)):=zi;generalize upd H e (HO.lst ((d.map yO).map V.str))=H1 at *
 refine⟨_,.inl ⟨_,aP.of (g _ _ r),Y⟩,(),⟨(),()⟩,(),(),λv m=>?_⟩;rw[bi,bi];have f:=hU (o:=HO.lst []) v m;have E:=fL (c/48) (show ((d.length:Int)+1)≠0 by lia);have I:=fV (c/48) (show 0<(d.length:Int)+1 by lia);obtain⟨j,B⟩:∃j:Nat,c/48%((d.length:Int)+1)=j:=⟨_,(iV E).symm⟩;obtain⟨i,C⟩:∃i:Nat,c/240%13=i:=⟨_,(iV (fL _ ())).symm⟩;rw[B,C];obtain⟨z,w⟩:∃z,uC[i]?=U z:=⟨_,bj (show i<13 by lia)⟩;exact zkL (A.same (g.trans f)) (f _ _ D) zi y () w k λG u=>q G ((g.trans f).trans u)
end
theorem zgW(n:Int):mV (yO n) (U 4) ah=zY n:=by
 have e:(mV (yO n) (U 4) ah).cps.toList=(yO n).cps.toList.drop 4:=Kd (yO n) 4;unfold yO at e ⊢;rw[jP,show (bb "say ").cps.toList=[115,97,121,32] from by lia] at e;exact vA e
def anD(i:Nat)(a:List Int):PyData:=.tuple [.int i,.tuple [.str "done",.tuple (a.map sD)]]
def zag:Nat->List (List Int)->List PyData
 |_,[]=>[]
 |i,C::CC=>anD i C::zag (i+1) CC
theorem zfZ{H:Hp}:∀(a:List Int),ub K H (a.map V.int) (a.map sD)
 |[]=>.nil
 |i::a=>.cons (.int i) (zfZ a)
theorem zf0:∀(a:List Int),yp (a.map sD)=ai
 |[]=>by rw[mn,yp]
 |i::a=>by rw[bN,yp,zf0 a,zX];rfl
theorem zkM(l:List Int):dR (l.map sD)<=10:=by
 induction l with
 |nil=>simp[dR]
 |cons r t ih=>rw[bN,dR];simp[i7];lia
theorem zcp:∀ {e:List (List Int)} {c:List V} {i:Nat},c.length=e.length->(∀(j:Nat) v d,c[j]?=U v->e[j]?=U d->AnA H v (i+j) d)->ub K H c (zag i e)
 |[],[],_,_,_=>.nil
 |[],_::_,_,l,_=>by cases l
 |_::_,[],_,l,_=>by cases l
 |C::e,v::c,i,l,h=>by
  obtain⟨r,o,rfl,k,m,y,rfl,g,f⟩:=h 0 v C Y rfl;refine .cons (.tup (tZ.of k) (.cons (.int _) (.cons (.tup (tZ.of g) (.cons (.str _) (.cons (.tup (tZ.of f) (zfZ C)) .nil))) .nil))) (zcp (tU l) λj v d a b=>?_);have:=h (j+1) v d a b;rw[show i+(j+1)=i+1+j by lia] at this;exact this
theorem zjl:∀(c:List (List Int)) (i:Nat),yp (zag i c)=ai/\dR (zag i c)<=20
 |[],_=>⟨by rw[zag,yp],by simp[zag,dR]⟩
 |C::c,i=>by
  obtain⟨a,b⟩:=zjl c (i+1);refine⟨?_,?_⟩
  .rw[zag,yp,a,anD,zX,yp,yp,yp,zX,zX,yp,yp,yp,zX,zX,zf0];lia
  .have:=zkM C;rw[zag,dR,anD];simp[i7,dR];lia
section
variable {x l du:L}{n c:Int}{b:HAd}{a:ui}{lb:L->Nat}{CC:List (List Int)}{S:DS}{ns:List Int}{ds:List V}{D:Zn}{o0 o1:Option V}
theorem uy.put{o g:HO}(h:uy t H x b a lb n CC S)(p:H du=U o)(i:∀f,o≠.tup f)(z:lb du=0)(m:x≠du)(k:b.td≠du)(j:b.ln≠du):uy t (upd H du g) x b a lb n CC S:=⟨⟨by rw[zm m];exact h.h.ix,by rw[zm k];exact h.h.ht,by rw[zm j];exact h.h.hl,h.h.ne,h.h.l0⟩,h.d.put p i z,h.o,h.e⟩
theorem uH.ts{d:Hp}(h:uH H ds CC)(s:TSm H d):uH d ds CC:=⟨h.1,λi v ns a b=>(h.2 i v ns a b).ts s⟩
theorem zmb(h:uy t H x b a lb n CC S)(s:Cb c)(o:jk ns)(r:H l=U (.lst ((ns.map yO).map V.str)))(d:CC.length<12)(q:∀u,ac H u->D.nx [o0,o1,U (.ref x),U (.str t9),U (.ref du),U (.int c),U (.ref l)] u) :
  zdy K t D [o0,o1,U (.ref x),U (.str t9),U (.ref du),U (.int c),U (.ref l)] H:=by
 refine⟨_,Y,_,Y,_,Y,x,l,c,ns,b,a,lb,n,CC,S,Y,h,s,o,r,d,λE g=>⟨_,Y,xU Y ⟨_,Y,_,Y,_,Y,x,l,c,ns,b,a,lb,n,CC,S,Y,h.same g,s,o,g _ _ r,d,λC k=>⟨_,Y,xU Y ?_⟩⟩⟩⟩;have e:=(h.same g).same k;refine yE e.h.ix Y Y ⟨x,b,a,lb,n,CC,S,Y,e,λB f=>⟨_,Y,Y,_,Y,xU (by rw[Bj rfl];rfl) (yE (e.same f).h.ix Y Y ⟨x,b,a,lb,n,CC,S,Y,e.same f,λA j=>⟨Y,_,Y,xU (by rw[Bj rfl];rfl) ?_⟩⟩)⟩⟩;have i:=(e.same f).same j;exact yE i.h.ix Y Y ⟨x,_,_,_,_,_,_,Y,i.h.ix,i.h.ht,λw z v y=>⟨bU _,λp m=>⟨w,p,_,Y,Y,aP.of (hU p m _ _ y),aP.of zi,_,Y,xU Y (q _ (g.trans (k.trans (f.trans (j.trans (v.trans (hU p m)))))))⟩⟩⟩
def ldV(ns:List Int)(i:Nat)(v:V):Prop:=∀m,ns[i]?=U m->v=.int m
theorem uH.snoc(h:uH H ds CC)(g:AnA H v CC.length ns):uH H (ds++[v]) (CC++[ns]):=by
 refine⟨by rw[bn,bn,h.1];rfl,λj u f d e=>?_⟩;rcases fe j CC.length with z|z
 .rw[dI (by rw[h.1];exact z)] at d;rw[dI z] at e;exact h.2 j u f d e
 .rw[dv (by rw[h.1];exact z),h.1] at d;rw[dv z] at e;have:j-CC.length<1:=(bE.mp d).1;obtain rfl:j=CC.length:=by lia
  rw[Nat.sub_self] at d e;cases d;cases e;exact g
theorem zmc(hg:uy t H x b a lb n CC S)(B:jk ns)(hl:H l=U (.lst ((ns.map yO).map V.str)))(zl:lb l=0)(hd:H du=U (.lst ds))(zd:lb du=0)(n1:x≠du)(n2:b.td≠du)(n3:b.ln≠du)(an:uH H ds CC)(N:CC.length<12) (q:∀j d S' g,(∀c o,c≠du->lb c=0->H c=U o->j c=U o/\d c=0)->uy t j x b a d n (CC++[ns]) S'->j du=U (.lst g)->d du=0->uH j g (CC++[ns])->D.nx [o0,o1,U (.ref x),U (.str t9),U (.ref du),U (.int c),U (.ref l)] j) :
  WD K t D [o0,o1,U (.ref x),U (.str t9),U (.ref du),U (.int c),U (.ref l)] H:=by
 simp only[WD,xT,zlx,zF,zP,YG,wG,zo,zq,zD,zT,zH,aN,Z,tC,xb,ze,zj,zO,zy,tW,ud,tyV,tSl,wF,yI,wd,Zi,Jp,YS,xz,uF,zhu,xF,zep,qa,cE,bD,bQ,bu,bd,bq,bh,aj,V.int.injEq,V.ref.injEq,V.str.injEq,V.bl.injEq,bx,and_true,true_and,and_assoc,ak,bL,cr,decide_eq_false_iff_not,if_true];have l4:=B.2.1;obtain⟨js,je,ja⟩:=zbg (rs:=ns.map yO) (by rw[bi];lia) λr hr=>let z:=WT B r hr;⟨z.2.1,cg z.1 ()⟩
 have jl:=YM (bb "\n") (ns.map yO);refine⟨_,_,hg.h.ix,Y,ns.map yO,aP.of hl,zR (),b,a,lb,n,CC,S,hg,by rw[je];exact ja,(),N,.inl ⟨ns,B,je,λH1 M f G1=>?_⟩⟩;have E:=f.kp _ _ (.inl zd) hd;have w:=f.kp _ _ (.inl zl) hl;have z1:=(f.ex _ _ hd).trans zd;have ad:=an.1;refine⟨_,.inl ⟨_,aP.of E,Y⟩,?_⟩;rw[am (λz=>z ())];refine⟨.inl ⟨_,aP.of E⟩,_,.inl ⟨_,aP.of E,Y⟩,⟨_,aP.of w⟩,λD1 O=>?_⟩;have en:((ns.map yO).map V.str).length=ns.length:=by rw[bi,bi]
 refine kG (J:=Itl K l) ((ns.map yO).map V.str).length () (λτ=>∃o,τ=[o]) (ldV ns) ⟨_,Y⟩ (λi H s h=>⟨_,_,aP.of (s _ _ w),bj h⟩) (λH s=>⟨_,aP.of (s _ _ w),br _⟩) O ?_ ?_
 .rintro i v τ H4 H5 ⟨o,rfl⟩ u hi ⟨rfl,A⟩;have A:=A _ (aP.of (u _ _ w));have C:=bj (l:=ns) (i:=i) ();generalize ns[i]=m at C;rw[bW,bW,C] at A;cases A;have mk:=B.2.2 m (cw C);refine⟨_,Y,_,Y,zR (cg (Qn mk).1 ()),m,?_⟩;rw[zgW];exact⟨Kf (cq (show m.natAbs<1000000000000000000000000000000 by lia) ()),cg (Qe (Qm mk)).1 (),⟨_,Y⟩,(λm' h'=>by rw[C] at h';cases h';rfl),ac.refl _⟩
 .intro G H2 ly hR s2 hq;obtain rfl:G=ns.map V.int:=dY λi=>by
   rw[bW];rcases fe i ns.length with z|z
   .rw[bj (by lia:i<G.length),bj z,hR i _ (bj (by lia:i<G.length)) _ (bj z)];rfl
   .rw[ck (),ck z];rfl
  refine⟨_,.inl ⟨aP.of hq,λy hy=>⟨(),λo ho=>⟨(),λp hp=>?_⟩⟩⟩⟩;have s3:=hU (o:=HO.tup (ns.map V.int)) y hy;have e3:upd H2 y (HO.tup (ns.map V.int)) y=U (HO.tup (ns.map V.int)):=zi;generalize upd H2 y (HO.tup (ns.map V.int))=H3 at *
  have u:=hU (o:=HO.tup [V.str (bb "done"),V.ref y]) o ho;have e4:upd H3 o (HO.tup [V.str (bb "done"),V.ref y]) o=U (HO.tup [V.str (bb "done"),V.ref y]):=zi;generalize upd H3 o (HO.tup [V.str (bb "done"),V.ref y])=H4 at *
  have I:=hU (o:=HO.tup [V.int (ds.length:Nat),V.ref o]) p hp;have e5:upd H4 p (HO.tup [V.int (ds.length:Nat),V.ref o]) p=U (HO.tup [V.int (ds.length:Nat),V.ref o]):=zi;generalize upd H4 p (HO.tup [V.int (ds.length:Nat),V.ref o])=H5 at *
  have k:=s2.trans (s3.trans (u.trans I));have T:=k _ _ E;refine⟨_,T,yP (),?_⟩;have av:AnA H5 (.ref p) CC.length ns:=⟨p,.ref o,Y,by rw[e5,ad],o,y,Y,I _ _ e4,(u.trans I) _ _ e3⟩;have T1:TSm H H5:=λb zs e=>k _ _ (f.ts b zs e);have T5:TSm H5 (upd H5 du (HO.lst (ds++[V.ref p]))):=Vu T ();exact q _ M _ (ds++[.ref p]) (λc o c1 cz e=>⟨by rw[zm c1];exact k _ _ (f.kp c o (.inl cz) e),(f.ex c o e).trans cz⟩) ((G1.same k).put T () z1 n1 n2 n3) zi z1 (((an.ts T1).snoc av).ts T5)
theorem zmd(m:uy t H x b a lb n CC S)(T:∀C∈CC,jk C)(G:1<=n)(E:n<=8)(I:H du=U (.lst ds))(p:lb du=0)(A:x≠du)(z:b.td≠du)(y:b.ln≠du)(o:uH H ds CC){w u s:Option V}(q:∀H',Q (.bl ai) H') :
  K0 K t (aX Q) [o0,o1,U (.ref x),w,U (.ref du),u,s] H:=by
 simp only[K0,vV,xS,zhY,zF,zo,zD,zT,aN,Z,zj,bu,bd,bq,bh,aj,V.ref.injEq,bx,and_true,and_assoc,ak,cu,ite_false];refine⟨_,_,m.h.ix,Y,b,a,lb,n,CC,S,m,T,G,E,λv H1 B k ts ls M T1 f d=>?_⟩;refine⟨_,_,f.ix,Y,_,_,_,_,_,f.ix,_,f.ht,λl2 H2 e N=>?_⟩;have O:=e _ _ (M du _ A.symm z.symm y.symm p I);have r:=zjl CC 0;have h:zX (.list (zag 0 CC))=ai:=by rw[zX];exact r.1
 have g:(PyData.list (zag 0 CC)).depth<=64:=by rw[i7];lia
 refine⟨_,.lst (aP.of N) (zcp (i:=0) d.1 λj v ns a b=>by rw[fU];exact(d.2 j v ns a b).ts (TSm.of e)),_,.lst (aP.of O) (zcp (i:=0) o.1 λj v ns a b=>by rw[fU];exact((o.2 j v ns a b).ts T1).ts (TSm.of e)),h,h,g,g,λb J=>?_⟩;rw[J.mpr rfl];exact q _
structure LwI(t:aV)(x ls du:L)(b:HAd)(a:ui)(n:Int)(cs:List Int)(i:Nat)(H:Hp)(lb:L->Nat)(CC:List (List Int))(S:DS)(ds:List V):Prop where
 g:uy t H x b a lb n CC S
 ok:∀C∈CC,jk C
 ln:CC.length=i
 hd:H du=U (.lst ds)
 zd:lb du=0
 nx:x≠du/\b.td≠du/\b.ln≠du
 an:uH H ds CC
 hs:H ls=U (.lst (cs.map V.int))
 zs:lb ls=0
 ne:ls≠du
def LwE(t:aV)(o0 o1:Option V)(x g du:L)(b:HAd)(a:ui)(n:Int)(h:List Int)(i:Nat)(d:St)(H:Hp):Prop:=(∃f e,d=[o0,o1,U (.ref x),U (.str t9),U (.ref du),f,e])/\∃lb CC S ds,LwI t x g du b a n h i H lb CC S ds
theorem zmO(ns:List Int):∃d:List Int,Xg (ns.map V.int) ah (U (12:Int))=d.map V.int/\d.length<=12/\∀y∈d,y∈ns:=by
 refine⟨(ns.drop (HT.sIx ns.length 0 ah)).take (HT.sIx ns.length ns.length (U 12)-HT.sIx ns.length 0 ah),?_,?_,λy e=>iC (f8 e)⟩
 .unfold Xg;rw[oJ,rY,bi]
 .have f:HT.sIx ns.length ns.length (U 12)=min 12 ns.length:=HT.sIx_nat _ _ 12;rw[c7,f];lia
theorem zme{d:List Int}(I:LwI t x ls du b a n d i H lb CC S ds)(E:d.length<=12)(p:Cb c)(G:d[i]?=U c)(q:∀k w,LwE t o0 o1 x ls du b a n d (i+1) k w->D.nx k w) :
  KZ K t D [o0,o1,U (.ref x),U (.str t9),U (.ref du),U (.int c),o6] H:=by
 have il:i<d.length:=(bE.mp G).1;have B:=I.ln;simp only[KZ,qF,zo,zM,zq,zH,aN,Z,tC,ze,zj,zO,zy,zG,uF,rI,qa,bu,bd,bq,bh,aj,V.int.injEq,V.bl.injEq,bx,and_true,true_and,ak,bX,bZ,cr,decide_eq_false_iff_not];refine⟨p,λl ns v m h g o=>⟨⟨(),()⟩,(),?_⟩⟩;have y:=I.g.d.l0 h;have u:∀H2,ac v H2->WD K t D [o0,o1,U (.ref x),U (.str t9),U (.ref du),U (.int c),U (.ref l)] H2:=λH2 e=>by
  have s:=m.trans e;refine zmc (I.g.same s) g (e _ _ o) y (s _ _ I.hd) I.zd I.nx.1 I.nx.2.1 I.nx.2.2 (I.an.ts (TSm.of s)) () λH3 f T j r M N A O=>q _ H3 ⟨⟨_,_,Y⟩,f,CC++[ns],T,j,M,λC J=>?_,by rw[bn,B];rfl,N,A,I.nx,O,(r ls _ I.ne I.zs (s _ _ I.hs)).1,(r ls _ I.ne I.zs (s _ _ I.hs)).2,I.ne⟩;rcases cj.mp J with z|z
  .exact I.ok C z
  .cases bY.mp z;exact g
 by_cases c1:c/8%3=0
 .rw[am (λz=>z c1)];exact u v (ac.refl _)
 .rw[ao c1];exact zmb (I.g.same m) p g o () λH2 e=>u H2 e
theorem zmf{r:L}{p:List Int}{k j:Option V}(hS:aP K H r (p.map V.int))(hb:∀i∈p,Cb i)(w:uy t H x b a lb n [] S0)(T:1<=n)(O:n<=8)(y:H du=U (.lst []))(C:lb du=0)(N:x≠du)(M:b.td≠du)(J:b.ln≠du)(q:∀g,Q (.bl ai) g) :
  K1 K t (aX Q) [U (.ref r),o1,U (.ref x),U (.str t9),U (.ref du),k,j] H:=by
 simp only[K1,zo,zq,Z,tC,kC,tSl,wF,yI,xz,Xh,bd,bh,aj,V.int.injEq,V.ref.injEq,ak];refine⟨_,hS,λf d=>?_⟩;obtain⟨e,ey,G,E⟩:=zmO p;rw[ey];have s:=hU (o:=HO.lst (e.map V.int)) f d;have B:upd H f (HO.lst (e.map V.int)) f=U (HO.lst (e.map V.int)):=zi;generalize upd H f (HO.lst (e.map V.int))=H1 at *
 refine⟨⟨_,aP.of B⟩,YK (e.map V.int) (LwE t (U (.ref r)) o1 x f du b a n e) ⟨⟨_,_,Y⟩,lb,[],S0,[],w.same s,(),Y,s _ _ y,C,⟨N,M,J⟩,⟨Y,λ_ _ _ z=>nomatch z⟩,B,w.d.l0 d,(zr y d).symm⟩ (λi h g z=>let ⟨_,_,_,_,_,I⟩:=z;aP.of I.hs) ?_ ?_⟩
 .rintro i v h g u ⟨⟨k,j,rfl⟩,m,CC,S,ds,I⟩;rw[bW] at u;obtain⟨c,A,rfl⟩:=cY.mp u;exact zme I G (hb c (E c (cw A))) A λh H2 z=>z
 .rintro h g ⟨⟨k,j,rfl⟩,m,CC,S,ds,I⟩;exact zmd I.g I.ok T O I.hd I.zd I.nx.1 I.nx.2.1 I.nx.2.2 I.an q
theorem zmg{w:L}{f:List Int}(u:aP K H w (f.map V.int))(A:f.length<=63)(s:∀i∈f,Cb i)(r:uy t H x b a lb n [] S0)(z:1<=n)(y:n<=8)(q:∀B,Q (.bl ai) B) :
  K2 K t (aX Q) [U (.ref w),U (.int n),U (.ref x),ah,ah,ah,ah] H:=by
 simp only[K2,zdz,xp,wq,jj,zF,zo,zM,zq,zD,zH,aN,tUn,Z,tC,yr,ze,zj,zO,tOr,Zp,tB,zG,rI,ur,rU,bQ,bu,bd,bq,bh,aj,V.int.injEq,V.ref.injEq,V.bl.injEq,bx,and_true,and_assoc,ak,bX,bZ,cr,m6,oH,lH,if_true];refine⟨f,1,Y,u,A,s,λc J g C=>⟨zdA () (),(),b,a,lb,n,[],S0,r.same g,.inr (by have:=fL c (b:=1000000000) ();lia),λI p=>?_⟩⟩;rw[am ()];have v:=r.same (g.trans p);refine⟨b,a,lb,n,[],S0,v,.inl (),λG m=>?_⟩;rw[am ()];have h:=v.same m;refine⟨_,_,h.h.ix,Y,b,a,lb,n,[],S0,h,λE k=>⟨(),λdu d=>?_⟩⟩;have e:=h.same k;have j:=hU (o:=HO.lst []) du d;exact zmf (u.mono (g.trans (p.trans (m.trans (k.trans j))))) s (e.same j) z y zi (e.d.l0 d) (zr e.h.ix d) (zr e.h.ht d) (zr e.h.hl d) q
theorem zkN{A:L}{f:List Int}(v:aP K H A (f.map V.int))(s:f.length<=63)(u:∀i∈f,Cb i)(q:∀T,Q (.bl ai) T) :
  zeV K t (aX Q) (zZZ 7 [.ref A]) H:=by
 simp only[zeV,xp,XD,km,Y1,zeD,zZZ,zo,zM,zq,aN,Z,tC,yr,ze,zj,zG,rI,ur,cE,bD,bQ,cf,cp,bu,bd,bq,bh,aj,V.int.injEq,V.ref.injEq,bx,and_true,true_and,and_assoc,ak,bX,bZ,bO,bL];refine⟨f,0,Y,v,s,u,λc H1 G hc=>⟨(),(),λp N=>⟨zi,λg E w d M m I=>?_⟩⟩⟩;have h:=G.trans ((hU p N).trans E);have C:ac g (upd (upd g d (HO.own w)) w (HO.ins t.q0d d [])):=λb o e=>by rw[zm (zr e M),zm (zr e m)];exact e
 have y:upd (upd g d (HO.own w)) w (HO.ins t.q0d d []) w=U (HO.ins t.q0d d []):=zi;generalize upd (upd g d (HO.own w)) w (HO.ins t.q0d d [])=H3 at *
 intro x z j k nd;have r:ac H3 (upd (upd H3 z (HO.own x)) x (HO.ins t.q03 z [])):=λb o e=>by rw[zm (zr e j),zm (zr e k)];exact e
 refine⟨_,zi,_,r _ _ y,zr y j,λH5 b a lb J l5 O=>?_⟩;have B:ac H3 H5:=λc o e=>J c o (zr e j) (r _ _ e);exact zmg (v.mono (h.trans (C.trans B))) s u O () () q
end
end
abbrev Ba(P:ap)(w:au)(K:bo)(b:Str->Option ae)(a:ax):=aZ P w K b a (uw P w)
section
variable {P:ap}{w:au}{K:bo}{mg:Str->Option ae}{base:ax}{t:aV}(T:Txt K mg t)
include T
theorem zd1:Ba P w K mg base 1 t.a0 t.d0 ["word"] (Ja):=⟨λc H Q E h=>h.elim,λA a s H b d c Q E f g i e h=>h.elim⟩
theorem zd2:Ba P w K mg base 1 t.a1 t.d1 ["thing"] (ZN K):=by
 refine T.g1.f.okA zdr λa H Q E h=>?_;obtain⟨x,rfl,h⟩:=h;exact⟨Y,λ_ _ _ _ c=>⟨Z5 K t,(zf (zL (PW.pt (wD (jq (yz (zK Zy Y T.q0n yu (zb (pv 0) (zb (YE Y T.b_int Ka Y) zg))))) (xX (yz (zK Zy Y T.q0n yu (zb (pv 0) (zb (YE Y T.q2b zfo Y) zg))))))) (zh (zu (v7 (b:=ag))))
   zz) (zh (zu (zg7 zkQ zkQ (Y0 j9 (zS JT zn zn)) (pv 0) (zS JT zn zn))))),zb0 (kf K).i_b h⟩⟩
theorem zah:Ba P w K mg base 1 t.a2 t.d2 ["text"] (kc):=by
 refine T.g2.f.okA QP λb H Q E h=>?_;obtain⟨x,rfl,a,q⟩:=h;exact⟨Y,λ_ _ _ _ c=>⟨kr K t,(zh (zu (zec (jf wE (pv 0) zC (zA _)) (zbk (zK (zaL Y) Y T.q2a zhr (zb (jg Y (osc:=zk qr) (N:=["text"]) (xs:=["sign"]) (ix:=[]) () (zht (pv 0)) (λ_ _ _ _=>(xh (i:=0) (show fJ (["sign"]:List Str) from ()) Y (gw Y) (.inr Y))) (λ_ _ _ _=>vz) (λ_ _ _ _=>(jf zav (pv 0) (ye Y T.g_FIGURES ⟨_,Y⟩) (by with_unfolding_all rfl)))) zg)))))),K3 a q⟩⟩
theorem vx:Ba P w K mg base 1 t.a3 t.d3 ["worth"] (xH):=by
 refine T.g3.f.okA zeO λb H Q E h=>?_;obtain⟨w,rfl,a,q⟩:=h;exact⟨Y,λ_ _ _ _ c=>⟨XE K t,(zh (zu (z7 qc Y T.q1d zbw (zb (pv 0) zg)))),zdC a q⟩⟩
theorem Xe:Ba P w K mg base 2 t.a4 t.d4 ["text"] (we):=by
 refine T.g4.f.okA q1f λd H Q E h=>?_;obtain⟨x,rfl,c,q⟩:=h;exact⟨Y,λ_ _ _ _ a=>⟨kt K t,(zf (zx q1f.nd (kB (yz (yt cZ PySem.F.slot_str_startswith PySem.F.type_str_startswith QG (pv 0) (zb zC zg))) (xk zhv (pv 0) (xN zn) wJ) (pv 0))) (zf (zL (PW.pt (wD (zt zcE (zK yc Y T.q0b yL (zb (pv 1) zg)) (ye Y T.g_MOST_FIGURES ⟨_,Y⟩) (zA _)) (xX (jq (yz (t7 (zah T) T.g2 a zw (zb (pv 1) zg))))))) (zh (zu (v7 (b:=ag))))
    zz) (zf (zx q1f.nd (z7 qj Y T.b_int Ka (zb (pv 0) zg))) (zh (zu (zec (t7 (zd2 T) T.g1 a zw (zb (pv 2) zg)) (zbk (jf yS (t7 (vx T) T.g3 a zw (zb (pv 2) zg)) (pv 0) (zA _))))))))),K4 c q⟩⟩
theorem Ji:Ba P w K mg base 3 t.a5 t.d5 ["text"] (vH t):=by
 refine T.g5.f.okB zds λd H Q E h=>?_;obtain⟨x,rfl,a,c,q⟩:=h;exact⟨Y,λ_ _ _ _ b=>⟨Z6 K t E,(zf (zL (jq (yz (t7 (Xe T) T.g4 b yb (zb (pv 0) zg)))) (zh (Zz Y T.q42 X9 Y T.g_NoNumber (zb (zfr (pv 0)) zg)))
   zz) (zh (zu (z7 qj Y T.b_int Ka (zb (pv 0) zg))))),zb2 a c q⟩⟩
theorem qR:Ba P w K mg base 4 t.a6 t.d6 ["word"] (wO):=by
 refine T.g6.f.okA zbQ λc H Q E h=>?_;obtain⟨w,rfl,b,q⟩:=h;exact⟨Y,λ_ _ _ _ a=>⟨qG K t,(zh (zbH (zu (t7 (Ji T) T.g5 a zw (zb (pv 0) zg))))),Q2 b q⟩⟩
theorem ze4:Ba P w K mg base 5 t.a7 t.d7 ["words"] (Xz):=by
 refine T.g7.f.okA q0z λd H Q E h=>?_;obtain⟨a,rfl,c,q⟩:=h;exact⟨Y,λ_ _ _ _ b=>⟨KP K t,(zf (zL (zt wE (zS wY (zK yc Y T.q0b yL (zb (pv 0) zg)) zn) zn (zA _)) (zh xj)
   zz) (zf (zx q0z.nd (zW zg)) (zf (xY dB Y (zgn Y T.q2d (zb zn (zb (zK yc Y T.q0b yL (zb (pv 0) zg)) (zb zn zg)))) (yi q0z.nd) (zf (zx q0z.nd (z0 (zb (t7 (zd1 T) T.g0 b zw (zb (zB yo (pv 0) (pv 2)) zg)) (zb (t7 (qR T) T.g6 b zw (zb (zB yo (pv 0) (zS xZ (pv 2) zn)) zg)) zg)))) (zh (zI (yt bz b7 b9 z8 (pv 1) (zb (z0 (zb (pv 3) (zb (t7 (qR T) T.g6 b zw (zb (zB yo (pv 0) (zS xZ (pv 2) zn)) zg)) zg))) zg)))))) (zf (J8 (j:=4) q0z.nd Y Y (gw Y) (osc:=zk Vc) (N:=["words","rows","at","place","places"]) (xs:=["place","worth"]) (ix:=[]) () (yM (pv 1)) (λ_ _ _ _=>(Zq Y (yB (xh (i:=0) (show fJ (["place","worth"]:List Str) from ()) Y (gw Y)) (yB (xh (i:=1) (show fJ (["place","worth"]:List Str) from ()) Y (gw Y)) jM)))) (λ_ _ _ _=>vz) (λ_ _ _ _=>(pv 0))) (zf (zL (zt (zh0 (Kh b)) (pv 4) (ziT Y Y T.q1c Y T.b_set (zb (pv 4) zg)) (zA _)) (zh xj)
    zz) (zh (zu (pv 1)))))))),zdW c q⟩⟩
theorem ze5:Ba P w K mg base 1 t.a8 t.d8 ["words","rows"] (KN):=⟨λc H Q E h=>h.elim,λA a s H b d c Q E f g i e h=>h.elim⟩
theorem ze6:Ba P w K mg base 5 t.a9 t.d9 ["word"] (KM):=by
 refine T.g9.f.okA q1p λc H Q E h=>?_;obtain⟨w,rfl,b,q⟩:=h;exact⟨Y,λ_ _ _ _ a=>⟨XG K t,(zf (zx q1p.nd (t7 (qR T) T.g6 a zw (zb (pv 0) zg))) (zf (zL (PW.pt (wD (zt zau (pv 1) zn (zA _)) (xX (zt zcE (pv 1) (zS JT zn zn) (zA _))))) (zh xj)
    zz) (zh (zu (pv 1))))),zdN b q⟩⟩
theorem ze7:Ba P w K mg base 6 t.a10 t.d10 ["words","rows"] (XA):=by
 refine T.g10.f.okA zeP λe H Q E h=>?_;obtain⟨a,g,rfl,c,b,q⟩:=h;exact⟨Y,λ_ _ _ _ d=>⟨KQ K t,(zf (zL (zt wE (zK yc Y T.q0b yL (zb (pv 0) zg)) zn (zA _)) (zh xj)
   zz) (zf (zL (yz (zK (zgu Y) Y T.q2y zln (zb (jg Y (osc:=zk Vd) (N:=["words","rows"]) (xs:=["place","worth"]) (ix:=[]) () (yM (pv 1)) (λ_ _ _ _=>(Zq Y (yB (xh (i:=0) (show fJ (["place","worth"]:List Str) from ()) Y (gw Y)) (yB (xh (i:=1) (show fJ (["place","worth"]:List Str) from ()) Y (gw Y)) jM)))) (λ_ _ _ _=>vz) (λ_ _ _ _=>(jf yS (pv 1) zn (zA _)))) zg))) (zh xj)
    zz) (zh (zu (z0 (zb zC (zb (t7 (ze6 T) T.g9 d zw (zb (zB yo (pv 0) zn) zg)) (zb (pv 1) zg)))))))),zdV c b q⟩⟩
theorem Jj:Ba P w K mg base 1 t.a11 t.d11 ["body"] (vK):=by
 refine T.g11.f.okA q1q λc H Q E h=>?_;obtain⟨z,rfl,b,a,q⟩:=h;exact⟨Y,λ_ _ _ _ d=>⟨Z7 K t,(zf (zx q1q.nd (zK (zgp Y) Y T.q31 zlp (zb (jg Y (osc:=zk Xv) (N:=["body","total"]) (xs:=["at","sign"]) (ix:=[]) () (ziI Y T.q2c (zb (pv 0) zg)) (λ_ _ _ _=>(Zq Y (yB (xh (i:=0) (show fJ (["at","sign"]:List Str) from ()) Y (gw Y)) (yB (xh (i:=1) (show fJ (["at","sign"]:List Str) from ()) Y (gw Y)) jM)))) (λ_ _ _ _=>vz) (λ_ _ _ _=>(zS zfq (zK zg9 Y T.q2z zlo (zb (pv 1) zg)) (zS xZ zn (zS wY (pv 0) (ye Y T.g_MOST_FACTOR ⟨_,Y⟩)))))) zg))) (zh (zu (yt cZ PySem.F.slot_str_zfill PySem.F.type_str_zfill ziJ (z7 qc Y T.q1d zbw (zb (zS wY (pv 1) (ye Y T.g_CHECK_BY ⟨_,Y⟩)) zg)) (zb (ye Y T.g_CHECK_FIGURES ⟨_,Y⟩) zg))))),zb7 b a q⟩⟩
theorem ze8:Ba P w K mg base 2 t.a12 t.d12 ["text"] (XB):=by
 refine T.g12.f.okA q1r λe H Q E h=>?_;obtain⟨b,rfl,d,c,q⟩:=h;exact⟨Y,λ_ _ _ _ a=>⟨XH K t,(zf (zx q1r.nd (yt cZ PySem.F.slot_str_rpartition PySem.F.type_str_rpartition QL (pv 0) (zb zC zg))) (zf (zL (zt wE (zB zN (pv 1) zn) (t7 (Jj T) T.g11 a zw (zb (zB zN (pv 1) zn) zg)) (zA _)) (zh xj)
    zz) (zh (zu (zB zN (pv 1) zn))))),zdO d c q⟩⟩
theorem zcq:Ba P w K mg base 7 t.a13 t.d13 ["text"] (qz):=by
 refine T.g13.f.okA q15 λb H Q E h=>?_;obtain⟨rfl,q⟩:=h;exact⟨Y,λ_ _ _ _ a=>⟨qH K t,(zf (zx q15.nd (yt cZ eQ gG We (t7 (ze8 T) T.g12 a zw (zb (pv 0) zg)) (zb zC zg))) (zf (zL (zt zbp zC (pv 1) (by with_unfolding_all rfl)) (zh xj)
    zz) (zf (zx q15.nd (yt bz PySem.F.slot_list_index PySem.F.type_list_index ziK (pv 1) (zb zC zg))) (zf (zx q15.nd (t7 (ze4 T) T.g7 a zw (zb (xk vy (pv 1) (xN (zS xZ (pv 2) zn)) wJ) zg))) (zf (zL (zt yS (zB yo (pv 1) zn) zC (zA _)) (zh (zu (t7 (ze5 T) T.g8 a zw (zb (xk vy (pv 1) wJ (xN (pv 2))) (zb (pv 3) zg)))))
    zz) (zf (zL (zt yS (zB yo (pv 1) zn) zC (zA _)) (zh (zu (t7 (ze7 T) T.g10 a zw (zb (xk vy (pv 1) wJ (xN (pv 2))) (zb (pv 3) zg)))))
    zz) (zh xj))))))),Q8 q⟩⟩
theorem zd3:Ba P w K mg base 8 t.a14 t.d14 ["line"] (ZZ):=by
 refine T.g14.f.okA zdt λb H Q E h=>?_;obtain⟨rfl,q⟩:=h;exact⟨Y,λ_ _ _ _ a=>⟨Yb K t,(zh (zbH (zu (t7 (zcq T) T.g13 a zw (zb (pv 0) zg))))),zcj q⟩⟩
theorem Jk:Ba P w K mg base 1 t.a15 t.d15 ["text"] (jZ):=by
 refine T.g15.f.okA zdu λa H Q E h=>?_;obtain⟨rfl,q⟩:=h;exact⟨Y,λ_ _ _ _ b=>⟨Yc K t,(zh (zu (xk vy (yt cZ eQ gG We (pv 0) (zb zC zg)) wJ (xN (Y0 j9 zn))))),zci q⟩⟩
theorem zai:Ba P w K mg base 9 t.a16 t.d16 ["text"] (Y8):=by
 refine T.g16.f.okA q1s λb H Q E h=>?_;obtain⟨rfl,q⟩:=h;exact⟨Y,λ_ _ _ _ a=>⟨ku K t,(zf (J8 (j:=1) q1s.nd Y Y (gw Y) (osc:=zk qt) (N:=["text","entries"]) (xs:=["line"]) (ix:=[]) () (yM (t7 (Jk T) T.g15 a zw (zb (pv 0) zg))) (λ_ _ _ _=>(xh (i:=0) (show fJ (["line"]:List Str) from ()) Y (gw Y) (.inr Y))) (λ_ _ _ _=>vz) (λ_ _ _ _=>(t7 (zd3 T) T.g14 a zw (zb (pv 0) zg)))) (zf (zL (PW.pt (wD (zt (Wa (Kh a)) (pv 1) (zW zg) (zA _)) (xX (zt wE (zB zN (zB yo (pv 1) zn) zn) zC (zA _))))) (zh xj)
    zz) (zh (zu (pv 1))))),Ql q⟩⟩
theorem Jl:Ba P w K mg base 1 t.a17 t.d17 ["rows"] (ZY):=by
 refine T.g17.f.okA q1t λc H Q E h=>?_;obtain⟨l,rfl,b,q⟩:=h;exact⟨Y,λ_ _ _ _ a=>⟨Jb K t,(zf (zbl (i:=1) q1t.nd Y (tT Y) (z7 (vS Y (hu3 a)) Y T.q1n zbx (zb (pv 0) zg))) (zh (zu (jg Y (osc:=zk Xw) (N:=["rows","worths"]) (xs:=["place"]) (ix:=[1]) () (yM (zK (QM Y) Y T.q1c YJ (zb (pv 1) zg))) (λ_ _ _ _=>(xh (i:=0) (show fJ (["place","worths"]:List Str) from ()) Y (gw Y) (.inr Y))) (λ_ _ _ _=>(zjz (zt wE (X5 (wV a) (pv 1) (pv 0) (λ_ _=>rfl)) zn (zA _)))) (λ_ _ _ _=>(z0 (zb (pv 0) (zb (X5 (wV a) (pv 1) (pv 0) (λ_ _=>rfl)) zg)))))))),zch b q⟩⟩
theorem ze9:Ba P w K mg base 10 t.a18 t.d18 ["text"] (KO):=by
 refine T.g18.f.okA q0t λb H Q E h=>?_;obtain⟨rfl,q⟩:=h;exact⟨Y,λ_ _ _ _ a=>⟨KR K t,(zf (zx q0t.nd (t7 (zai T) T.g16 a zw (zb (pv 0) zg))) (zf (zx q0t.nd (zB zN (zB yo (pv 1) zn) zn)) (zf (zx q0t.nd (z7 xO Y T.b_list jO (zb (zB zN (zB yo (pv 1) zn) zn) zg))) (zf (zx q0t.nd (zW zg)) (zf (xY dB Y (yM (xk vy (pv 1) (xN zn) wJ)) (yi q0t.nd) (zf (zL (zt wE (zB zN (pv 5) zn) (pv 2) (zA _)) (zh xj)
    zz) (zh (zL (zt yS (zB zN (pv 5) zn) zC (zA _)) (zf (zI (yt bz i8 i9 W5 (pv 3) (zb (zB zN (pv 5) zn) zg))) (zf (zI (yt bz b7 b9 z8 (pv 4) (zb (z0 (zb (pv 2) (zb (zB zN (pv 5) zn) zg))) zg))) (zh (zg0 (i:=2) q0t.nd Y (gw Y) zn zg1)))) (zh (zL (zt wE (zB yo (pv 5) zn) (t7 (Jl T) T.g17 a zw (zb (pv 3) zg)) (zA _)) (zh xj)
   zz)))))) (zh (zu (z0 (zb (pv 2) (zb (t7 (Jl T) T.g17 a zw (zb (pv 3) zg)) (zb (pv 4) zg))))))))))),zdU q⟩⟩
theorem zaj:Ba P w K mg base 1 t.a19 t.d19 ["self","table"] (ki t):=by
 refine T.q2g.ok0 QQ (λd H Q E h=>?_) (λi A a s H d Q E e h=>?_)
 .obtain⟨x,l,g,rfl,_⟩:=h;rfl
 obtain⟨x,l,g,rfl,c,b,q⟩:=h;exact⟨kx K t,(zf (zZ (f:="ground") (pv 0) (z7 (vS Y (hu3 e)) Y T.q1n zbx (zb (pv 1) zg)) Y) (zf (zZ (f:="folded") (pv 0) zn Y) (zf (zZ (f:="worths") (pv 0) Zv Y) (zh (zZ (f:="ranks") (pv 0) Zw Y))))),Qk (dkF T) c b q⟩
theorem zcr:Ba P w K mg base 1 t.a20 t.d20 ["self","makes"] (Wu t):=by
 refine T.q2i.ok0 zbR (λc H Q E h=>?_) (λe A a s H c Q E g h=>?_)
 .obtain⟨x,m,d,rfl,_⟩:=h;rfl
 obtain⟨x,m,d,rfl,b,q⟩:=h;exact⟨qI K t,(zf (zZ (f:="makes") (pv 0) (pv 1) Y) (zf (zZ (f:="laid") (pv 0) Zv Y) (zf (zZ (f:="readers") (pv 0) Zw Y) (zh (zZ (f:="doubted") (pv 0) Zv Y))))),Q6 (dkF T) b q⟩
theorem zcs:Ba P w K mg base 3 t.a21 t.d21 ["self","table","hands","way","first"] (qD t):=by
 refine T.q2k.ok0 zbS (λi H Q E h=>?_) (λm A a s H i Q E b h=>?_)
 .obtain⟨x,l,w,j,k,n,rfl,_⟩:=h;rfl
 obtain⟨x,l,w,j,k,n,rfl,g,e,d,c,q⟩:=h;exact⟨qJ K t,(zf (zZ (f:="hands") (pv 0) (pv 2) Y) (zf (zZ (f:="way") (pv 0) (pv 3) Y) (zf (zZ (f:="first") (pv 0) (pv 4) Y) (zf (zZ (f:="codes") (pv 0) (zW zg) Y) (zf (zZ (f:="waiting") (pv 0) (zW zg) Y) (zf (zZ (f:="held") (pv 0) Zv Y) (zf (zZ (f:="makes") (pv 0) (YF T.mk_Makes (aZ.mono (zaj T) ()) b Y T.g_Makes T.q2h .nil zw (zb (pv 1) zg)) Y) (zf (zZ (f:="jobs") (pv 0) (YF T.mk_Jobs (aZ.mono (zcr T) ()) b Y T.g_Jobs T.q2j .nil zw (zb (zp (pv 0) Y) zg)) Y) (zh (zZ (f:="ended") (pv 0) (zW zg) Y)))))))))),Q7 (dkF T) g e d c q⟩
theorem zak:Ba P w K mg base 11 t.a22 t.d22 ["self","log","hands","way"] (km t):=by
 refine T.q2m.ok0 q1u (λg H Q E h=>?_) (λk A a s H g Q E b h=>?_)
 .obtain⟨x,w,i,j,n,rfl,_⟩:=h;rfl
 obtain⟨x,w,i,j,n,rfl,e,d,c,q⟩:=h;exact⟨Y9 K t,(zf (zx q1u.nd (t7 (ze9 T) T.g18 b zw (zb (pv 1) zg))) (zf (zZ (f:="due") (pv 0) (zB zN (pv 4) zn) Y) (zf (zZ (f:="told") (pv 0) (zB zN (pv 4) zn) Y) (zf (zZ (f:="lines") (pv 0) (t7 (Jk T) T.g15 b zw (zb (pv 1) zg)) Y) (zh (zZ (f:="desk") (pv 0) (YF T.mk_Desk (aZ.mono (zcs T) ()) b Y T.g_Desk T.q2l .nil zw (zb (zB zN (pv 4) zn) (zb (pv 2) (zb (pv 3) (zb (zp (pv 0) Y) zg))))) Y)))))),Qp (hsF T) e d c q⟩
theorem Qt:Ba P w K mg base 1 t.a23 t.d23 ["lines"] (qE):=by
 refine T.g23.f.okA zeQ λb H Q E h=>?_;obtain⟨l,rfl,a,q⟩:=h;exact⟨Y,λ_ _ _ _ c=>⟨XI K t,(zh (zu (yt cZ gY gZ JJ zC (zb (jg Y (osc:=zk Ve) (N:=["lines"]) (xs:=["line"]) (ix:=[]) () (yM (pv 0)) (λ_ _ _ _=>(xh (i:=0) (show fJ (["line"]:List Str) from ()) Y (gw Y) (.inr Y))) (λ_ _ _ _=>vz) (λ_ _ _ _=>(zS qb (pv 0) zC))) zg)))),zdT a q⟩⟩
theorem WV:Ba P w K mg base 2 t.a24 t.d24 ["self"] (jj t):=by
 refine T.g24.f.okA zbT λe H Q E h=>?_;obtain⟨x,b,a,f,n,g,S,rfl,c,q⟩:=h;exact⟨Y,λ_ _ _ _ d=>⟨qK K t,(zh (zu (t7 (Qt T) T.g23 d zw (zb (zp (pv 0) Y) zg)))),zac (hsF T) c q⟩⟩
theorem v5:Ba P w K mg base 1 t.a25 t.d25 ["self"] (xo t):=by
 refine T.g25.f.okA Js λe H Q E h=>?_;obtain⟨d,a,n,g,rfl,c,b,q⟩:=h;exact⟨Y,λ_ _ _ _ f=>⟨Zd K t,(zh (zu (zS xZ (zp (pv 0) Y) (zK yc Y T.q0b yL (zb (zp (pv 0) Y) zg))))),Vy (dkF T) c b q⟩⟩
theorem j6:Ba P w K mg base 1 t.a26 t.d26 ["self"] (xC t):=by
 refine T.g26.f.okA Wp λe H Q E h=>?_;obtain⟨d,a,n,g,rfl,c,b,q⟩:=h;exact⟨Y,λ_ _ _ _ f=>⟨j0 K t,(zh (zu (zS xZ (zp (pv 0) Y) (zK yc Y T.q0b yL (zb (zp (pv 0) Y) zg))))),XU (dkF T) c b q⟩⟩
theorem j7:Ba P w K mg base 1 t.a27 t.d27 ["self"] (wH t):=by
 refine T.g27.f.okA zdv λc H Q E h=>?_;obtain⟨x,a,d,k,m,rfl,b,q⟩:=h;exact⟨Y,λ_ _ _ _ e=>⟨Yd K t,(zh (zu (zmi (jf JE (zp (pv 0) Y) wt (zA _)) (zbk (jf zfg (zp (pv 0) Y) (zK yc Y T.q0b yL (zb (zp (pv 0) Y) zg)) (zA _)))))),zb8 (rnF T) b q⟩⟩
theorem v6:Ba P w K mg base 1 t.a28 t.d28 ["self","due"] (wn):=⟨λc H Q E h=>h.elim,λA a s H b d c Q E f g i e h=>h.elim⟩
theorem zd4:Ba P w K mg base 2 t.a29 t.d29 ["self"] (ZT t):=by
 refine T.g29.f.okA q1v λe H Q E h=>?_;obtain⟨x,a,f,k,m,rfl,d,c,q⟩:=h;exact⟨Y,λ_ _ _ _ b=>⟨Jc K t,(zf (zL (PW.pt (wD (yz (xn (pv 0) T.q0c (j7 T) T.g27 b zw)) (xX (zt wE (zB zN (zB yo (zp (pv 0) Y) (zp (pv 0) Y)) zn) zC (zA _))))) (zh (zu wt))
   zz) (zf (zjX (tF Y Y) Y (zjD (i:=1) q1v.nd Y (gw Y) (zc6 (pv 0) T.q0c T.g28.me (aZ.mono (v6 T) ()) b T.g28.b (zb (zB yo (zp (pv 0) Y) (zp (pv 0) Y)) zg))) Y T.g_Great Y T.g_Nought (λ_=>(zh (zu wt)))) (zf (zL (PW.pt (wD (zt (zbE (wV b)) (pv 1) (zp (pv 0) Y) (by with_unfolding_all rfl)) (xX (zt (zbE (wV b)) (pv 1) (zp (pv 0) Y) (by with_unfolding_all rfl))))) (zh (zu wt))
    zz) (zh (zu (pv 1)))))),zca (rnF T) d c q⟩⟩
theorem Xf:Ba P w K mg base 1 t.a30 t.d30 ["self","place","rank"] (kh):=⟨λc H Q E h=>h.elim,λA a s H b d c Q E f g i e h=>h.elim⟩
theorem zct:Ba P w K mg base 1 t.a31 t.d31 ["self","place","worth"] (Wt):=⟨λc H Q E h=>h.elim,λA a s H b d c Q E f g i e h=>h.elim⟩
theorem zgX:Ba P w K mg base 1 t.a32 t.d32 ["word","first","second"] (za9):=⟨λc H Q E h=>h.elim,λA a s H b d c Q E f g i e h=>h.elim⟩
theorem zd5:Ba P w K mg base 2 t.a33 t.d33 ["term","slots"] (ZR):=by
 refine T.g33.f.okA q10 λd H Q E h=>?_;obtain⟨e,f,n,rfl,b,c,q⟩:=h;exact⟨Y,λ_ _ _ _ a=>⟨Jd K t,(zf (zx q10.nd (zW zg)) (zf (xY dB Y (zg2 (pv 0)) (yi q10.nd) (zh (zL (zt w6 (pv 3) (ye Y T.g_JOINING Y) (by with_unfolding_all rfl)) (zf (zx q10.nd (Zs bz dU dW Zt (pv 2))) (zf (zx q10.nd (Zs bz dU dW Zt (pv 2))) (zh (zI (yt bz b7 b9 z8 (pv 2) (zb (t7 (zgX T) T.g32 a zw (zb (pv 3) (zb (pv 5) (zb (pv 4) zg)))) zg)))))) (zh (zI (yt bz b7 b9 z8 (pv 2) (zb (kB (yz (zK Zy Y T.q0n yu (zb (pv 3) (zb (YE Y T.q1d zbw Y) zg)))) (zcN (wV a) (pv 1) (pv 3) zn ⟨Y,Y,Y,Y⟩) (pv 3)) zg))))))) (zh (zu (Zs bz dU dW Zt (pv 2)))))),zcb (kf K).i_s T.q1e b q⟩⟩
theorem xq:Ba P w K mg base 3 t.a34 t.d34 ["self","term"] (yA t):=by
 refine T.g34.f.okA Jt λe H Q E h=>?_;obtain⟨x,f,a,g,k,m,n,rfl,c,b,q⟩:=h;exact⟨Y,λ_ _ _ _ d=>⟨vX K t,(zh (zu (t7 (zd5 T) T.g33 d zw (zb (pv 1) (zb (zp (pv 0) Y) zg))))),Vv (rnF T) c b q⟩⟩
theorem zd6:Ba P w K mg base 4 t.a35 t.d35 ["self","due","worth"] (ZU t):=by
 refine T.g35.f.okA q1w λg H Q E h=>?_;obtain⟨x,v,a,i,k,n,rfl,f,e,d,c,q⟩:=h;exact⟨Y,λ_ _ _ _ b=>⟨Je K t,(zh (zL (zt yS (zB zN (pv 1) zn) zC (zA _)) (zh (qf (wV b) (zp (pv 0) Y) (zB zN (pv 1) zn) (uB (pv 0) T.q0c (zct T) T.g31 b zw (zb (uB (pv 0) T.q0c (v6 T) T.g28 b zw (zb (pv 1) zg)) (zb (pv 2) zg))) Y)) (zh (zL (zt yS (zB zN (pv 1) zn) zC (zA _)) (zf (zx q1w.nd (uB (pv 0) T.q0c (v6 T) T.g28 b zw (zb (pv 1) zg))) (zh (qf (wV b) (zp (pv 0) Y) (pv 3) (uB (pv 0) T.q0c (xq T) T.g34 b zw (zb (zB zN (pv 1) zn) zg)) Y))) (zh (zL (zt yS (zB zN (pv 1) zn) zC (zA _)) (zh (qf (wV b) (zp (pv 0) Y) (zB zN (pv 1) zn) (uB (pv 0) T.q0c (xq T) T.g34 b zw (zb (zB zN (pv 1) zn) zg)) Y)) (zh (zI (yt bz b7 b9 z8 (zp (pv 0) Y) (zb (uB (pv 0) T.q0c (xq T) T.g34 b zw (zb (zB zN (pv 1) zn) zg)) zg)))))))))),zcc (rnF T) f e d c q⟩⟩
theorem zal:Ba P w K mg base 5 t.a36 t.d36 ["self","due","worth"] (kg t):=by
 refine T.g36.f.okA QR λi H Q E h=>?_;obtain⟨x,v,a,j,k,n,rfl,g,e,d,c,q⟩:=h;exact⟨Y,λ_ _ _ _ b=>⟨Xc K t,(zf (zL (zt yS (zB zN (pv 1) zn) zC (zA _)) (zh (zu (zB zN (pv 1) zn)))
   zz) (zf (zL (zt yS (zB zN (pv 1) zn) zC (zA _)) (zh (zu (kB (zt yS (uB (pv 0) T.q0c (xq T) T.g34 b zw (zb (zB zN (pv 1) zn) zg)) zn (zA _)) (zB zN (pv 1) zn) (zS xZ (zp (pv 0) Y) zn))))
    zz) (zf (zL (zt yS (zB zN (pv 1) zn) zC (zA _)) (zh (zL (zt wE (uB (pv 0) T.q0c (xq T) T.g34 b zw (zb (zB zN (pv 1) zn) zg)) zn (zA _)) (zh (zZ (f:="why") (pv 0) zC Y))
    zz)) (zh (zI (uB (pv 0) T.q0c (zd6 T) T.g35 b zw (zb (pv 1) (zb (pv 2) zg)))))) (zh (zu (zS xZ (zp (pv 0) Y) zn)))))),Qh (rnF T) g e d c q⟩⟩
theorem Jm:Ba P w K mg base 6 t.a37 t.d37 ["self","worth"] (ZV t):=by
 refine T.q2o.ok0 zdw (λi H Q E h=>?_) (λl A b s H i Q E c h=>?_)
 .obtain⟨x,a,j,k,rfl,_⟩:=h;rfl
 obtain⟨x,a,j,k,rfl,g,e,d,q⟩:=h;exact⟨Jf K t,(zf (zL (yz (xn (pv 0) T.q0c (j7 T) T.g27 c zw)) (zh zjo)
   zz) (zh (zbH (zZ (f:="at") (pv 0) (uB (pv 0) T.q0c (zal T) T.g36 c zw (zb (zB yo (zp (pv 0) Y) (zp (pv 0) Y)) (zb (pv 1) zg))) Y)))),zcd (rnF T) g e d q⟩
theorem YC:Ba P w K mg base 2 t.a38 t.d38 ["self","rank"] (xJ t):=by
 refine T.g38.f.okA q16 λg H Q E h=>?_;obtain⟨d,j,l,v,i,a,k,n,m,D,rfl,f,e,c,q⟩:=h;exact⟨Y,λ_ _ _ _ b=>⟨xK K t,(zf (xY dB Y (yM (zB zN (X5 (wV b) (zp (pv 0) Y) (pv 1) (λ_ _=>rfl)) zn)) (Zq Y (yB (yi q16.nd) (yB (yi q16.nd) jM))) (zf (zx q16.nd (uB (zp (pv 0) Y) T.q0m (Xf T) T.g30 b zw (zb (pv 2) (zb (pv 1) zg)))) (zh (zL (zt wE (pv 4) (pv 3) (zA _)) (zh (zu (z0 (zb (pv 2) (zb (pv 3) (zb (pv 4) zg))))))
    zz)))) (zh (zu wt))),Zm (dkF T) f e c q⟩⟩
theorem qS:Ba P w K mg base 3 t.a39 t.d39 ["self"] (xi t):=by
 refine T.g39.f.okA q17 λi H Q E h=>?_;obtain⟨d,a,j,n,D,rfl,f,e,c,b,q⟩:=h;exact⟨Y,λ_ _ _ _ g=>⟨wP K t,(zf (zx q17.nd (zK (zbL Y) Y T.q1c YJ (zb (zp (pv 0) Y) zg))) (zf (xY dB Y (yM (pv 1)) (yi q17.nd) (zf (zx q17.nd (uB (pv 0) T.q0w (YC T) T.g38 g zw (zb (pv 2) zg))) (zf (zL (zt JE (pv 3) wt (zA _)) (zh (zu (zS JG (z0 (zb (pv 2) zg)) (pv 3))))
    zz) (zh (zI (J6 (zp (pv 0) Y) (pv 2) ⟨Y,Y,Y,Y⟩)))))) (zh (zu wt)))),kT (dkF T) f e c b q⟩⟩
theorem WW:Ba P w K mg base 1 t.a40 t.d40 ["ranks_at","place","rank"] (qB):=⟨λc H Q E h=>h.elim,λA a s H b d c Q E f g i e h=>h.elim⟩
theorem kW:Ba P w K mg base 2 t.a41 t.d41 ["self","rank"] (xR t):=by
 refine T.g41.f.okA q18 λg H Q E h=>?_;obtain⟨d,v,i,a,j,n,k,D,rfl,e,c,b,q⟩:=h;exact⟨Y,λ_ _ _ _ f=>⟨kN K t,(zf (zx q18.nd (J6 (zp (pv 0) Y) (pv 1) ⟨Y,Y,Y,Y⟩)) (zf (zI (zcO (zp (pv 0) Y) (pv 1) wt ⟨Y,Y,Y,Y⟩)) (zf (xY dB Y (yM (zB zN (pv 2) zn)) (Zq Y (yB (yi q18.nd) (yB (yi q18.nd) jM))) (zh (zI (t7 (WW T) T.g40 f zw (zb (zp (pv 0) Y) (zb (pv 3) (zb (pv 1) zg))))))) (zh (zu (pv 2)))))),WJ (dkF T) e c b q⟩⟩
theorem zam:Ba P w K mg base 1 t.a42 t.d42 ["self","ranks"] (kj):=by
 refine T.g42.f.okA QS λc H Q E h=>?_;obtain⟨x,l,w,b,rfl,a,q⟩:=h;exact⟨Y,λ_ _ _ _ d=>⟨ky K t,(zh (zu (zB yo (pv 1) zn))),Qj a q⟩⟩
theorem zd7:Ba P w K mg base 1 t.a43 t.d43 ["self","code"] (ZS t):=by
 refine T.q2q.ok0 zdx (λg H Q E h=>?_) (λk A a s H g Q E m h=>?_)
 .obtain⟨x,l,j,e,i,rfl,_⟩:=h;rfl
 obtain⟨x,l,j,e,i,rfl,d,c,b,q⟩:=h;exact⟨Ye K t,(zf (zZ (f:="code") (pv 0) (z7 xO Y T.b_list jO (zb (pv 1) zg)) Y) (zf (zZ (f:="at") (pv 0) zn Y) (zf (zZ (f:="why") (pv 0) wt Y) (zf (zZ (f:="slots") (pv 0) Zv Y) (zf (zZ (f:="gifts") (pv 0) Zw Y) (zf (zZ (f:="notes") (pv 0) Zw Y) (zh (zZ (f:="sayings") (pv 0) (zW zg) Y)))))))),zb9 (rnF T) d c b q⟩
theorem VD:Ba P w K mg base 3 t.a44 t.d44 ["self","hand"] (vj t):=by
 refine T.g44.f.okA q1x λj H Q E h=>?_;obtain⟨d,a,k,n,h,w,i,l,S,rfl,g,f,e,c,q⟩:=h;exact⟨Y,λ_ _ _ _ b=>⟨kO K t,(zf (zx q1x.nd (uB (zp (pv 0) Y) T.q2f (zam T) T.g42 b zw (zb (z7 xO Y T.b_list jO (zb (zp (pv 0) Y) zg)) zg))) (zf (zI (yt bz PySem.F.slot_list_remove PySem.F.type_list_remove zgr (zp (pv 0) Y) (zb (pv 2) zg))) (zf (qf (wV b) (zp (pv 0) Y) (pv 1) (z0 (zb (pv 2) (zb (YF T.mk_Run (aZ.mono (zd7 T) ()) b Y T.g_Run T.q2r .nil zw (zb (zB yo (zp (pv 0) Y) (zS zbn (pv 2) (zp (pv 0) Y))) zg)) zg))) Y) (zh (zu (z0 (zb zC (zb (pv 1) (zb (pv 2) zg))))))))),WL (dkF T) g f e c q⟩⟩
theorem zan:Ba P w K mg base 1 t.a45 t.d45 ["ranks","rank"] (Y6):=⟨λc H Q E h=>h.elim,λA a s H b d c Q E f g i e h=>h.elim⟩
theorem XX:Ba P w K mg base 4 t.a46 t.d46 ["self","hand"] (wx t):=by
 refine T.g46.f.okA q1g λg H Q E h=>?_;obtain⟨d,a,i,n,h,j,S,rfl,f,e,c,q⟩:=h;exact⟨Y,λ_ _ _ _ b=>⟨jC K t,(zf (zx q1g.nd (xn (pv 0) T.q0i (v5 T) T.g25 b zw)) (zf (zx q1g.nd (xn (zp (pv 0) Y) T.q0w (qS T) T.g39 b zw)) (zf (zL (PW.pt (zbj (zt (zbE (wV b)) (pv 2) (zp (zp (pv 0) Y) Y) (by with_unfolding_all rfl)) (zbi (PW.pt (wD (zt zg6 (pv 3) wt (zA _)) (xX (zt wE (zB zN (pv 3) zn) (pv 2) (zA _)))))))) (zf (zI (yt bz b7 b9 z8 (zp (pv 0) Y) (zb (uB (zp (pv 0) Y) T.q0w (kW T) T.g41 b zw (zb (pv 2) zg)) zg))) (zh (zu (z0 (zb zC (zb (pv 1) (zb (pv 2) zg)))))))
   zz) (zf (zL (zt JE (pv 3) wt (zA _)) (zf (zI (uB (zp (pv 0) Y) T.q0w (kW T) T.g41 b zw (zb (zB zN (pv 3) zn) zg))) (zf (zI (yt bz PySem.F.slot_list_insert PySem.F.type_list_insert zgq (zp (pv 0) Y) (zb (t7 (zan T) T.g45 b zw (zb (zp (pv 0) Y) (zb (zB zN (pv 3) zn) zg))) (zb (zB zN (pv 3) zn) zg)))) (zh (zu (zS JG (z0 (zb zC (zb (pv 1) zg))) (pv 3))))))
   zz) (zf (zL (zt (Wg (Kh b)) (zp (pv 0) Y) (zW zg) (zA _)) (zh (zu (uB (pv 0) T.q0i (VD T) T.g44 b zw (zb (pv 1) zg))))
    zz) (zh (zu (z0 (zb zC (zb (pv 1) zg)))))))))),YY (dkF T) f e c q⟩⟩
theorem wC:Ba P w K mg base 1 t.a47 t.d47 ["self","rank"] (yG t):=by
 refine T.g47.f.okA Xx λe H Q E h=>?_;obtain⟨d,a,f,n,g,D,rfl,b,q⟩:=h;exact⟨Y,λ_ _ _ _ c=>⟨wz K t,(zh (zu (z7 (Ko Y) Y T.b_list jO (zb (zcN (wV c) (zp (pv 0) Y) (pv 1) Zw ⟨Y,Y,Y,Y⟩) zg)))),YW (dkF T) b q⟩⟩
theorem XY:Ba P w K mg base 1 t.a48 t.d48 ["self","rank"] (wv t):=by
 refine T.g48.f.okA Xy λe H Q E h=>?_;obtain⟨d,a,f,n,i,D,rfl,c,b,q⟩:=h;exact⟨Y,λ_ _ _ _ g=>⟨wA K t,(zh (zL (zt zau (pv 1) (zp (pv 0) Y) (zA _)) (zh xj)
   zz)),YV (dkF T) c b q⟩⟩
theorem XZ:Ba P w K mg base 2 t.a49 t.d49 ["self","rank"] (ww t):=by
 refine T.g49.f.okA q1h λe H Q E h=>?_;obtain⟨d,a,f,n,g,D,rfl,c,q⟩:=h;exact⟨Y,λ_ _ _ _ b=>⟨jD K t,(zf (zx q1h.nd (uB (pv 0) T.q0m (wC T) T.g47 b zw (zb (pv 1) zg))) (zf (zI (zcO (zp (pv 0) Y) (pv 1) wt ⟨Y,Y,Y,Y⟩)) (zh (xY dB Y (yM (pv 2)) (yi q1h.nd) (zh (zI (t7 (WW T) T.g40 b zw (zb (zp (pv 0) Y) (zb (pv 3) (zb (pv 1) zg)))))))))),YX (dkF T) c q⟩⟩
theorem Jn:Ba P w K mg base 1 t.a50 t.d50 ["ranks_at","place","rank"] (ZW):=⟨λc H Q E h=>h.elim,λA a s H b d c Q E f g i e h=>h.elim⟩
theorem zcu:Ba P w K mg base 3 t.a51 t.d51 ["self","rank","gifts"] (qC t):=by
 refine T.g51.f.okA q1i λj H Q E h=>?_;obtain⟨d,l,a,k,n,m,D,rfl,i,g,f,e,c,q⟩:=h;exact⟨Y,λ_ _ _ _ b=>⟨Wv K t,(zf (zI (uB (pv 0) T.q0m (XY T) T.g48 b zw (zb (pv 1) zg))) (zf (zI (uB (pv 0) T.q0m (XZ T) T.g49 b zw (zb (pv 1) zg))) (zf (zx q1i.nd (z7 (vS Y (hu3 b)) Y T.q1n zbx (zb (pv 2) zg))) (zf (zlz (xY dB Y (zhW (pv 3)) (yi q1i.nd) (zh (zI (t7 (Jn T) T.g50 b zw (zb (zp (pv 0) Y) (zb (pv 4) (zb (pv 1) zg)))))))) (zh (qf (wV b) (zp (pv 0) Y) (pv 1) (pv 3) Y)))))),Q4 (dkF T) i g f e c q⟩⟩
theorem zao:Ba P w K mg base 1 t.a52 t.d52 ["self","place","rank"] (Y7):=⟨λc H Q E h=>h.elim,λA a s H b d c Q E f g i e h=>h.elim⟩
theorem VE:Ba P w K mg base 4 t.a53 t.d53 ["self","rank","paper"] (vi t):=by
 refine T.g53.f.okA q11 λo H Q E h=>?_;obtain⟨d,r,u,v,p,a,s,n,x,D,rfl,m,l,k,j,i,g,f,e,q⟩:=h;exact⟨Y,λ_ _ _ _ c=>⟨kP K t,(zf (zx q11.nd (uB (zp (pv 0) Y) T.q0m (wC T) T.g47 c zw (zb (pv 1) zg))) (zf (zI (uB (zp (pv 0) Y) T.q0m (zcu T) T.g51 c zw (zb (pv 1) (zb (zB zN (pv 2) zn) zg)))) (zf (xY dB Y (yM (zS ka (pv 3) (uB (zp (pv 0) Y) T.q0m (wC T) T.g47 c zw (zb (pv 1) zg)))) (yi q11.nd) (zh (zI (uB (pv 0) T.q0w (zao T) T.g52 c zw (zb (pv 4) (zb (pv 1) zg)))))) (zf (qf (wV c) (zp (pv 0) Y) (pv 1) (pv 2) Y) (zf (qf (wV c) (zp (pv 0) Y) (pv 1) (v7 (b:=ai)) Y) (zh (xY dB Y (yM (zB zN (pv 2) zn)) (Zq Y (yB (yi q11.nd) (yB (yi q11.nd) jM))) (zh (zI (t7 (Jn T) T.g50 c zw (zb (zp (pv 0) Y) (zb (pv 4) (zb (pv 1) zg))))))))))))),WK (dkF T) m l k j i g f e q⟩⟩
theorem zcv:Ba P w K mg base 2 t.a54 t.d54 ["self"] (qA t):=by
 refine T.g54.f.okA q1y λf H Q E h=>?_;obtain⟨x,a,g,k,rfl,d,c,b,q⟩:=h;exact⟨Y,λ_ _ _ _ e=>⟨Ww K t,(zf (zL (jq (yz (xn (pv 0) T.q0c (j7 T) T.g27 e zw))) (zh (zu wt))
   zz) (zf (zx q1y.nd (z7 (Jq Y) Y T.b_list jO (zb (zc7 (zp (pv 0) Y)) zg))) (zf (zL (zt JE (zp (pv 0) Y) wt (zA _)) (zh (zu (z0 (zb (z0 (zb zC (zb (zp (pv 0) Y) zg))) (zb (pv 1) (zb (zW zg) zg))))))
    zz) (zh (zu (z0 (zb (z0 (zb zC (zb (z7 Y2 Y T.q2e zcU (zb (zp (pv 0) Y) zg)) zg))) (zb (pv 1) (zb (zK (QN Y) Y T.q1c YJ (zb (zc7 (zp (pv 0) Y)) zg)) zg))))))))),Q3 (rnF T) d c b q⟩⟩
theorem WX:Ba P w K mg base 7 t.a55 t.d55 ["self","hand"] (ji t):=by
 refine T.g55.f.okB q12 λf H Q E h=>?_;obtain⟨d,a,g,n,h,i,S,rfl,e,c,q⟩:=h;exact⟨Y,λ_ _ _ _ b=>⟨Wx K t E,(zf (zL (PW.pt (wD (zt zau (pv 1) zn (zA _)) (xX (zt zfg (pv 1) (zp (pv 0) Y) (zA _))))) (zh (Zz Y T.q43 X9 Y T.g_NoHand (zb zC zg)))
   zz) (zf (zL (zt (zew (wV b)) (pv 1) (zp (pv 0) Y) (by with_unfolding_all rfl)) (zh (zu (uB (pv 0) T.q0i (XX T) T.g46 b yb (zb (pv 1) zg))))
    zz) (zf (zx q12.nd (zB zN (X5 (wV b) (zp (pv 0) Y) (pv 1) (λ_ _=>rfl)) zn)) (zf (zx q12.nd (zB zN (X5 (wV b) (zp (pv 0) Y) (pv 1) (λ_ _=>rfl)) zn)) (zf (zL (yz (xn (pv 3) T.q0c (j7 T) T.g27 b yb)) (zf (zI (J6 (zp (pv 0) Y) (pv 1) ⟨Y,Y,Y,Y⟩)) (zf (zI (uB (zp (pv 0) Y) T.q0w (VE T) T.g53 b yb (zb (pv 2) (zb (xn (pv 3) T.q0c (zcv T) T.g54 b yb) zg)))) (zh (zu (z0 (zb zC (zb (pv 1) (zb (pv 2) zg))))))))
   zz) (zf (zx q12.nd (xn (pv 3) T.q0c (zd4 T) T.g29 b yb)) (zf (zL (zt zg6 (pv 4) wt (zA _)) (zf (zI (zgs (pv 3) T.q0c T.me_Run_step (aZ.mono (Jm T) ()) b T.bd_Run_step yb)) (zh (zu (z0 (zb zC (zb (pv 1) (zb (pv 2) zg)))))))
   zz) (zf (zx q12.nd (uB (zp (pv 0) Y) T.q0m (Xf T) T.g30 b yb (zb (pv 4) (zb (pv 2) zg)))) (zf (zI (zfi (pv 3) T.q0c T.me_Run_step (aZ.mono (Jm T) ()) b T.q2p .nil yb (zb (pv 5) zg))) (zh (zu (z0 (zb zC (zb (pv 1) (zb (pv 2) (zb (pv 4) (zb (pv 5) zg))))))))))))))))),Q5 (dkF T) (rnF T) e c q⟩⟩
theorem Qu:Ba P w K mg base 8 t.a56 t.d56 ["self"] (jA t):=by
 refine T.g56.f.okA q1z λi H Q E h=>?_;obtain⟨d,a,j,n,k,S,rfl,g,f,e,c,q⟩:=h;exact⟨Y,λ_ _ _ _ b=>⟨Ym K t,(zf (zx q1z.nd (zW zg)) (zf (zcD dB (zt zau (xn (pv 0) T.q0i (v5 T) T.g25 b zw) (xn (pv 0) T.q0i (j6 T) T.g26 b zw) (zA _)) (zh (zI (yt bz b7 b9 z8 (pv 1) (zb (uB (pv 0) T.q0i (WX T) T.g55 b zw (zb (zS wY (zK yc Y T.q0b yL (zb (pv 1) zg)) (zp (pv 0) Y)) zg)) zg))))) (zh (zu (pv 1))))),JA (dkF T) g f e c q⟩⟩
theorem Qv:Ba P w K mg base 2 t.a57 t.d57 ["words"] (qw):=by
 refine T.g57.f.okA q20 λg H Q E h=>?_;obtain⟨a,f,rfl,e,d,c,q⟩:=h;exact⟨Y,λ_ _ _ _ b=>⟨XL K t,(zf (zx q20.nd (yt cZ gY gZ JJ zC (zb (pv 0) zg))) (zh (zu (zS qb (zS qb (pv 1) zC) (t7 (Jj T) T.g11 b zw (zb (pv 1) zg)))))),zdM e d c q⟩⟩
theorem WY:Ba P w K mg base 2 t.a58 t.d58 ["rows"] (qx):=by
 refine T.g58.f.okA q19 λd H Q E h=>?_;obtain⟨a,rfl,c,q⟩:=h;exact⟨Y,λ_ _ _ _ b=>⟨Wy K t,(zf (zx q19.nd (zW zg)) (zf (xY dB Y (yM (pv 0)) (Zq Y (yB (yi q19.nd) (yB (yi q19.nd) jM))) (zh (zI (yt bz i8 i9 W5 (pv 1) (zb (zW (zb (zB zN (pv 2) zn) (zb (t7 (vx T) T.g3 b zw (zb (zB zN (pv 2) zn) zg)) (zb (t7 (vx T) T.g3 b zw (zb (pv 3) zg)) zg)))) zg))))) (zh (zu (pv 1))))),Q9 c q⟩⟩
theorem VF:Ba P w K mg base 2 t.a59 t.d59 ["outcome"] (vg):=by
 refine T.g59.f.okA Vg λe H Q E h=>?_;obtain⟨v,f,rfl,c,b,a,q⟩:=h;exact⟨Y,λ_ _ _ _ d=>⟨kQ K t,(zf (zL (zt yS (zB zN (pv 0) zn) zC (zA _)) (zh (zu (zW (zb zC (zb (zB zN (pv 0) zn) zg)))))
   zz) (zh (zu (zS ka (zW (zb zC zg)) (jg Y (osc:=zk vU) (N:=["outcome"]) (xs:=["worth"]) (ix:=[]) () (zg2 (zB zN (pv 0) zn)) (λ_ _ _ _=>(xh (i:=0) (show fJ (["worth"]:List Str) from ()) Y (gw Y) (.inr Y))) (λ_ _ _ _=>vz) (λ_ _ _ _=>(t7 (vx T) T.g3 d zw (zb (pv 0) zg)))))))),WN c b a q⟩⟩
theorem zcw:Ba P w K mg base 3 t.a60 t.d60 ["rank","paper"] (qy):=by
 refine T.g60.f.okA zbU λj H Q E h=>?_;obtain⟨r,p,o,k,g,l,rfl,i,f,e,d,c,b,q⟩:=h;exact⟨Y,λ_ _ _ _ a=>⟨Wz K t,(zh (zu (t7 (Qv T) T.g57 a zw (zb (zS ka (zS ka (zS ka (zW (zb zC (zb (t7 (vx T) T.g3 a zw (zb (pv 0) zg)) zg))) (t7 (VF T) T.g59 a zw (zb (zB zN (pv 1) zn) zg))) (zW (zb zC zg))) (t7 (WY T) T.g58 a zw (zb (zB zN (pv 1) zn) zg))) zg)))),zaa i f e d c b q⟩⟩
theorem wT:Ba P w K mg base 4 t.a61 t.d61 ["self"] (yD t):=by
 refine T.g61.f.okA q21 λk H Q E h=>?_;obtain⟨x,b,a,l,n,m,S,rfl,i,g,e,d,c,q⟩:=h;exact⟨Y,λ_ _ _ _ j=>⟨wQ K t,(zh (xY dB Y (yM (xk vy (zp (zp (pv 0) Y) Y) (xN (zS zbn (zp (pv 0) Y) (zp (zp (pv 0) Y) Y))) wJ)) (yi q21.nd) (zf (zI (yt bz b7 b9 z8 (zp (pv 0) Y) (zb (t7 (zcw T) T.g60 j zw (zb (zp (pv 0) Y) (zb (pv 1) zg))) zg))) (zf (zI (yt bz b7 b9 z8 (zp (pv 0) Y) (zb (z0 (zb (zp (pv 0) Y) (zb (zB zN (pv 1) zn) zg))) zg))) (zh (zay (f:="due") (pv 0) zn zhd)))))),kU (hsF T) (dkF T) i g e d c q⟩⟩
theorem JB:Ba P w K mg base 9 t.a62 t.d62 ["self"] (vV t):=by
 refine T.g62.f.okA q22 λi H Q E h=>?_;obtain⟨x,b,a,j,n,k,S,rfl,g,f,e,d,q⟩:=h;exact⟨Y,λ_ _ _ _ c=>⟨vY K t,(zf (zx q22.nd (xn (zp (pv 0) Y) T.q0i (Qu T) T.g56 c zw)) (zf (zI (xn (pv 0) T.q0j (wT T) T.g61 c zw)) (zh (zu (pv 1))))),Vz (hsF T) g f e d q⟩⟩
theorem zcx:Ba P w K mg base 3 t.a63 t.d63 ["rank","table"] (Ws):=by
 refine T.g63.f.okA zbV λc H Q E h=>?_;obtain⟨g,rfl,b,q⟩:=h;exact⟨Y,λ_ _ _ _ a=>⟨WA K t,(zh (zu (t7 (Qv T) T.g57 a zw (zb (zS ka (zW (zb zC (zb (t7 (vx T) T.g3 a zw (zb (pv 0) zg)) (zb zC zg)))) (t7 (WY T) T.g58 a zw (zb (pv 1) zg))) zg)))),zab b q⟩⟩
theorem zfa:Ba P w K mg base 4 t.a64 t.d64 ["table"] (XD):=by
 refine T.g64.f.okA zeR λc H Q E h=>?_;obtain⟨l,rfl,b,q⟩:=h;exact⟨Y,λ_ _ _ _ a=>⟨KY K t,(zh (zu (t7 (Qt T) T.g23 a zw (zb (zW (zb (t7 (zcx T) T.g63 a zw (zb zn (zb (pv 0) zg))) zg)) zg)))),zdX b q⟩⟩
theorem zcy:Ba P w K mg base 1 t.a65 t.d65 ["cell"] (qF):=by
 refine T.g65.f.okA zbW λb H Q E h=>?_;obtain⟨c,rfl,a,q⟩:=h;exact⟨Y,λ_ _ _ _ d=>⟨qL K t,(zh (zu (jg Y (osc:=zk ZG) (N:=["cell"]) (xs:=["k"]) (ix:=[0]) () (zf5 Y T.q2d (zb (zS xZ zn (zS wY (pv 0) zn)) zg)) (λ_ _ _ _=>(xh (i:=0) (show fJ (["k","cell"]:List Str) from ()) Y (gw Y) (.inr Y))) (λ_ _ _ _=>vz) (λ_ _ _ _=>(zS qb zC (z7 qc Y T.q1d zbw (zb (zS wY (zS xZ (zS kF (pv 1) zn) (zS zfq zn (pv 0))) (zS JT zn zn)) zg))))))),zaf q⟩⟩
theorem kX:Ba P w K mg base 1 t.a66 t.d66 ["self"] (xS t):=by
 refine T.g66.f.okA Vh λc H Q E h=>?_;obtain⟨x,i,f,k,l,d,e,rfl,b,a,q⟩:=h;exact⟨Y,λ_ _ _ _ g=>⟨vm K t,(zh (zu (z7 xO Y T.b_list jO (zb (zp (pv 0) Y) zg)))),WP (hsF T) b a q⟩⟩
theorem Zg:Ba P w K mg base 1 t.a67 t.d67 ["script","k"] (xp K):=by
 refine T.g67.f.okA Ju λe H Q E h=>?_;obtain⟨a,f,k,rfl,d,c,b,q⟩:=h;exact⟨Y,λ_ _ _ _ g=>⟨vZ K t,(zf (zL (zt zau (pv 1) (zK yc Y T.q0b yL (zb (pv 0) zg)) (zA _)) (zh (zu (zB yo (pv 0) (pv 1))))
   zz) (zh (zu zn))),WU d c b q⟩⟩
theorem zap:Ba P w K mg base 8 t.a68 t.d68 ["self","hand"] (kq t):=by
 refine T.g68.f.okB q23 λf H Q E h=>?_;obtain⟨x,b,a,g,n,h,i,S,rfl,e,d,q⟩:=h;exact⟨Y,λ_ _ _ _ c=>⟨kz K t E,(zf (zx q23.nd (uB (zp (pv 0) Y) T.q0i (WX T) T.g55 c yb (zb (pv 1) zg))) (zf (zI (xn (pv 0) T.q0j (wT T) T.g61 c yb)) (zh (zu (pv 2))))),Qq (hsF T) e d q⟩⟩
theorem Zh:Ba P w K mg base 9 t.a69 t.d69 ["house","hand"] (wq t):=by
 refine T.g69.f.okA q1j λf H Q E h=>?_;obtain⟨x,h,b,a,g,n,i,S,rfl,d,c,q⟩:=h;exact⟨Y,λ_ _ _ _ e=>⟨v3 K t,(zf (zx q1j.nd (v7 (b:=ag))) (zf (zjY (tF Y Y) Y (zhD (zc6 (pv 0) T.q0j T.g68.me (aZ.mono (zap T) ()) e T.g68.b (zb (pv 1) zg))) Y T.g_NoHand (λ_=>(zh (zx q1j.nd (v7 (b:=ai)))))) (zh (zu (pv 2))))),VC T.q44 d c q⟩⟩
theorem zd8:Ba P w K mg base 2 t.a70 t.d70 ["self","code"] (ZX t):=by
 refine T.g70.f.okA q24 λm H Q E h=>?_;obtain⟨d,c,l,o,a,p,n,r,S,rfl,j,i,g,f,e,b,q⟩:=h;exact⟨Y,λ_ _ _ _ k=>⟨Yn K t,(zf (zx q24.nd (xn (pv 0) T.q0i (j6 T) T.g26 k zw)) (zf (zI (yt bz b7 b9 z8 (zp (pv 0) Y) (zb (z7 xO Y T.b_list jO (zb (pv 1) zg)) zg))) (zf (zI (yt bz b7 b9 z8 (zp (pv 0) Y) (zb (pv 2) zg))) (zh (zu (pv 2)))))),zcf (dkF T) j i g f e b q⟩⟩
theorem Qw:Ba P w K mg base 1 t.a71 t.d71 ["row","at"] (ZP):=⟨λc H Q E h=>h.elim,λA a s H b d c Q E f g i e h=>h.elim⟩
theorem zd9:Ba P w K mg base 2 t.a72 t.d72 ["rows","first"] (ZQ):=by
 refine T.g72.f.okA q1k λf H Q E h=>?_;obtain⟨l,e,g,rfl,c,b,a,q⟩:=h;exact⟨Y,λ_ _ _ _ d=>⟨Yo K t,(zf (zx q1k.nd (zW zg)) (zf (xY dB Y (yM (pv 0)) (yi q1k.nd) (zh (zL (zt yS (zB zN (pv 3) zn) zC (zA _)) (zh (zI (yt bz i8 i9 W5 (pv 2) (zb (t7 (Qw T) T.g71 d zw (zb (pv 3) (zb (zS xZ (pv 1) (zK yc Y T.q0b yL (zb (pv 2) zg))) zg))) zg)))) (zh (zI (yt bz b7 b9 z8 (pv 2) (zb (pv 3) zg))))))) (zh (zu (pv 2))))),zcg c b a q⟩⟩
theorem zfb:Ba P w K mg base 3 t.a73 t.d73 ["rows"] (XC):=by
 refine T.g73.f.okA zeS λf H Q E h=>?_;obtain⟨l,e,g,rfl,c,b,a,q⟩:=h;exact⟨Y,λ_ _ _ _ d=>⟨XM K t,(zh (zu (t7 (zd9 T) T.g72 d zw (zb (pv 0) (zb zn zg))))),zdS c b a q⟩⟩
theorem JC:Ba P w K mg base 1 t.a74 t.d74 ["self"] (Zc t):=by
 refine T.q2s.ok0 Jv (λb H Q E h=>?_) (λe A a s H b Q E g h=>?_)
 .obtain⟨x,d,rfl,_⟩:=h;rfl
 obtain⟨x,d,rfl,c,q⟩:=h;exact⟨v4 K t,(zf (zZ (f:="rows") (pv 0) (zW zg) Y) (zf (zZ (f:="blocks") (pv 0) (zW zg) Y) (zh (zZ (f:="turned") (pv 0) (zW zg) Y)))),Vs (rdF T) c q⟩
theorem X0:FnM P w K mg base 1 t.a75 t.d75 ["self","row"] (jY t):=by
 refine T.q29.okM jX (λb H Q E h=>?_) (λd A f a s H b Q e h=>?_)
 .obtain⟨x,y,rfl,_⟩:=h;rfl
 obtain⟨x,y,rfl,c,q⟩:=h;exact⟨xE K t,(zh (zfz T.es_NoDealing T.nx_NoDealing (pv 0) (pv 1) Y)),jJ c q⟩
theorem zV:Ba P w K mg base 1 t.a75 t.d75 ["self","row"] (jY t):=by
 refine T.q29.ok0 jX (λb H Q E h=>?_) (λd A a s H b Q E e h=>?_)
 .obtain⟨x,y,rfl,_⟩:=h;rfl
 obtain⟨x,y,rfl,c,q⟩:=h;exact⟨xE K t,(zh (zfz T.es_NoDealing T.nx_NoDealing (pv 0) (pv 1) Y)),jJ c q⟩
theorem VG:Ba P w K mg base 3 t.a76 t.d76 ["self","number"] (vd t):=by
 refine T.g76.f.okB Vi λg H Q E h=>?_;obtain⟨x,n,k,j,l,i,c,a,rfl,f,e⟩:=h;exact⟨Y,λ_ _ _ _ d=>⟨vn K t E,(zf (zL (PW.pt (wD (zt (Wa (Kh d)) (zp (pv 0) Y) (zW zg) (zA _)) (xX (yz (zB yo (zp (pv 0) Y) (Y0 j9 zn)))))) (zh (xr Y T.xi_NoDealing T.xk_NoDealing T.xf_NoDealing (aZ.mono (zV T) ()) d T.q0k xG Y T.g_NoDealing (zb (pv 1) zg)))
   zz) (zh (zjW (zp (pv 0) Y) (Y0 j9 zn) (v7 (b:=ai)) Y))),WH (rdF T) f e⟩⟩
theorem VH:Ba P w K mg base 3 t.a77 t.d77 ["self","number"] (ve t):=by
 refine T.g77.f.okB Vj λf H Q E h=>?_;obtain⟨x,n,j,i,k,g,b,a,rfl,e,d⟩:=h;exact⟨Y,λ_ _ _ _ c=>⟨vo K t E,(zf (zL (zt (Wa (Kh c)) (zp (pv 0) Y) (zW zg) (zA _)) (zh (xr Y T.xi_NoDealing T.xk_NoDealing T.xf_NoDealing (aZ.mono (zV T) ()) c T.q0k xG Y T.g_NoDealing (zb (pv 1) zg)))
   zz) (zf (zI (Zs bz dU dW Zt (zp (pv 0) Y))) (zh (zI (Zs bz dU dW Zt (zp (pv 0) Y)))))),WG (rdF T) e d⟩⟩
theorem vP:Ba P w K mg base 1 t.a78 t.d78 ["self"] (yN t):=by
 refine T.g78.f.okA ZL λg H Q E h=>?_;obtain⟨x,k,j,l,i,b,a,c,rfl,f,e,q⟩:=h;exact⟨Y,λ_ _ _ _ d=>⟨xL K t,(zf (zL (zt (Wa (Kh d)) (zp (pv 0) Y) (zW zg) (zA _)) (zh (zu (zp (pv 0) Y)))
   zz) (zh (zu (kB (yz (zB yo (zp (pv 0) Y) (Y0 j9 zn))) (zB zN (zB yo (zp (pv 0) Y) (Y0 j9 zn)) zn) (zB zN (zB yo (zp (pv 0) Y) (Y0 j9 zn)) zn))))),Zl (rdF T) f e q⟩⟩
theorem WZ:Ba P w K mg base 3 t.a79 t.d79 ["self","row","number"] (wN t):=by
 refine T.g79.f.okB Wq λp H Q E h=>?_;obtain⟨x,v,n,s,r,u,q,c,a,e,o,rfl,m,l,k,j,i,g,f⟩:=h;exact⟨Y,λ_ _ _ _ d=>⟨wR K t E,(zf (zL (zt yS (zK yc Y T.q0b yL (zb (zp (pv 0) Y) zg)) (ye Y T.g_MOST_BLOCKS ⟨_,Y⟩) (zA _)) (zh (xr Y T.xi_NoDealing T.xk_NoDealing T.xf_NoDealing (aZ.mono (zV T) ()) d T.q0k xG Y T.g_NoDealing (zb (pv 2) zg)))
   zz) (zf (zI (yt bz b7 b9 z8 (xn (pv 0) T.q0x (vP T) T.g78 d yb) (zb (pv 1) zg))) (zf (zI (yt bz b7 b9 z8 (zp (pv 0) Y) (zb (pv 1) zg))) (zh (zI (yt bz b7 b9 z8 (zp (pv 0) Y) (zb (v7 (b:=ag)) zg))))))),XQ (rdF T) m l k j i g f⟩⟩
theorem VI:Ba P w K mg base 4 t.a80 t.d80 ["self","row","number"] (vf t):=by
 refine T.g80.f.okB Vk λg H Q E h=>?_;obtain⟨x,v,n,l,j,m,i,c,a,k,F,rfl,f,e,d⟩:=h;exact⟨Y,λ_ _ _ _ b=>⟨kR K t E,(zh (zL (zt yS (zB zN (pv 1) zn) zC (zA _)) (zh (zI (uB (pv 0) T.q0x (VG T) T.g76 b yb (zb (pv 2) zg)))) (zh (zL (zt yS (zB zN (pv 1) zn) zC (zA _)) (zh (zI (uB (pv 0) T.q0x (VH T) T.g77 b yb (zb (pv 2) zg)))) (zh (zL (zt yS (zB zN (pv 1) zn) zC (zA _)) (zh (zI (uB (pv 0) T.q0x (WZ T) T.g79 b yb (zb (pv 1) (zb (pv 2) zg))))) (zh (zI (yt bz b7 b9 z8 (xn (pv 0) T.q0x (vP T) T.g78 b yb) (zb (pv 1) zg)))))))))),WS f e d⟩⟩
theorem VJ:Ba P w K mg base 1 t.a81 t.d81 ["self","words","number"] (vc t):=by
 refine T.q2u.ok0 Vl (λd H Q E h=>?_) (λj A a s H d Q E k h=>?_)
 .obtain⟨x,c,n,i,b,rfl,_⟩:=h;rfl
 obtain⟨x,c,n,i,b,rfl,g,e,q⟩:=h;exact⟨vp K t,(zf (zZ (f:="words") (pv 0) (pv 1) Y) (zf (zZ (f:="number") (pv 0) (pv 2) Y) (zh (zZ (f:="at") (pv 0) zn Y)))),WF (wrF T) g e q⟩
theorem xx:Ba P w K mg base 3 t.a82 t.d82 ["self"] (yf t):=by
 refine T.g82.f.okB q25 λg H Q E h=>?_;obtain⟨x,i,e,d,n,k,rfl,c,b,q⟩:=h;exact⟨Y,λ_ _ _ _ a=>⟨xu K t E,(zf (zL (zt yS (zp (pv 0) Y) (zK yc Y T.q0b yL (zb (zp (pv 0) Y) zg)) (zA _)) (zh (xr Y T.xi_NoDealing T.xk_NoDealing T.xf_NoDealing (aZ.mono (zV T) ()) a T.q0k xG Y T.g_NoDealing (zb (zp (pv 0) Y) zg)))
   zz) (zf (zx q25.nd (zB yo (zp (pv 0) Y) (zp (pv 0) Y))) (zf (zay (f:="at") (pv 0) zn zhd) (zh (zu (pv 1)))))),qM (wrF T) c b q⟩⟩
theorem Qx:Ba P w K mg base 1 t.a83 t.d83 ["text"] (jy):=by
 refine T.g83.f.okA zeT λc H Q E h=>?_;obtain⟨x,rfl,a,q⟩:=h;exact⟨Y,λ_ _ _ _ d=>⟨XN K t,(zf (zL (PW.pt (wD (zt yS (pv 0) zC (zA _)) (xX (zt zcE (zK yc Y T.q0b yL (zb (pv 0) zg)) (ye Y T.g_MOST_LETTERS ⟨_,Y⟩) (zA _))))) (zh (zu (v7 (b:=ag))))
   zz) (zf (zL (PW.pt (wD (zt w6 (pv 0) (ye Y T.g_JOINING Y) (by with_unfolding_all rfl)) (xX (zt w6 (pv 0) (ye Y T.g_ROW_WORDS Y) (by with_unfolding_all rfl))))) (zh (zu (v7 (b:=ag))))
    zz) (zh (zu (zK (zaL Y) Y T.q2a zhr (zb (jg Y (osc:=zk Vf) (N:=["text"]) (xs:=["sign"]) (ix:=[]) () (zht (pv 0)) (λ_ _ _ _=>(xh (i:=0) (show fJ (["sign"]:List Str) from ()) Y (gw Y) (.inr Y))) (λ_ _ _ _=>vz) (λ_ _ _ _=>(jf zav (pv 0) (ye Y T.g_LETTERS ⟨_,Y⟩) (by with_unfolding_all rfl)))) zg)))))),zdE a T.q1e T.q32 q⟩⟩
theorem yK:Ba P w K mg base 4 t.a84 t.d84 ["self"] (yg t):=by
 refine T.g84.f.okB q26 λg H Q E h=>?_;obtain⟨x,i,f,e,n,k,rfl,d,c,b,q⟩:=h;exact⟨Y,λ_ _ _ _ a=>⟨xv K t E,(zf (zx q26.nd (xn (pv 0) T.q0g (xx T) T.g82 a yb)) (zf (zL (jq (yz (t7 (Qx T) T.g83 a yb (zb (pv 1) zg)))) (zh (xr Y T.xi_NoDealing T.xk_NoDealing T.xf_NoDealing (aZ.mono (zV T) ()) a T.q0k xG Y T.g_NoDealing (zb (zp (pv 0) Y) zg)))
    zz) (zh (zu (pv 1))))),qN (wrF T) d c b q⟩⟩
theorem Qy:Ba P w K mg base 1 t.a85 t.d85 ["words","at"] (jz t):=by
 refine T.g85.f.okB q13 λe H Q E h=>?_;obtain⟨a,d,k,rfl,c,b,q⟩:=h;exact⟨Y,λ_ _ _ _ f=>⟨jG K t E,(zf (zx q13.nd zn) (zf (zx q13.nd (pv 1)) (zf (zcD zls (zt zcE (pv 2) zn (zA _)) (zf (zL (zt zfg (pv 3) (zK yc Y T.q0b yL (zb (pv 0) zg)) (zA _)) (zh (Zz Y T.q1o X9 Y T.g_NoTerm (zb zC zg)))
    zz) (zf (zL (zt yS (zS zbn (pv 3) (pv 1)) (ye Y T.g_MOST_WORDS_terms ⟨_,Y⟩) (zA _)) (zh (Zz Y T.q1o X9 Y T.g_NoTerm (zb zC zg)))
    zz) (zf (zx q13.nd (kB (zt w6 (zB yo (pv 0) (pv 3)) (ye Y T.g_JOINING Y) (by with_unfolding_all rfl)) (zS xZ (pv 2) zn) (zS zbn (pv 2) zn))) (zh (zg0 (i:=3) q13.nd Y (gw Y) zn zg1)))))) (zh (zu (pv 3)))))),Jz T.q1e c b q⟩⟩
theorem zfc:Ba P w K mg base 4 t.a86 t.d86 ["word"] (KJ t):=by
 refine T.g86.f.okB zeU λd H Q E h=>?_;obtain⟨x,rfl,b,c,q⟩:=h;exact⟨Y,λ_ _ _ _ a=>⟨XO K t E,(zf (zL (yz (t7 (Qx T) T.g83 a yb (zb (pv 0) zg))) (zh (zu (pv 0)))
   zz) (zf (zL (yz (t7 (Xe T) T.g4 a yb (zb (pv 0) zg))) (zh (zu (t7 (Ji T) T.g5 a yb (zb (pv 0) zg))))
    zz) (zh (Zz Y T.q1o X9 Y T.g_NoTerm (zb (zfr (pv 0)) zg))))),zdF b c q⟩⟩
theorem zcz:Ba P w K mg base 5 t.a87 t.d87 ["words","at"] (qu t):=by
 refine T.g87.f.okB q0y λg H Q E h=>?_;obtain⟨a,f,k,rfl,e,d,c,q⟩:=h;exact⟨Y,λ_ _ _ _ b=>⟨WB K t E,(zf (zx q0y.nd (t7 (Qy T) T.g85 b yb (zb (pv 0) (zb (pv 1) zg)))) (zf (zx q0y.nd (zW zg)) (zf (xY zls Y (zlw Y T.q30 (zb (xk vy (pv 0) (xN (pv 1)) (xN (pv 2))) zg)) (yi q0y.nd) (zh (zL (zt w6 (pv 4) (ye Y T.g_JOINING Y) (by with_unfolding_all rfl)) (zf (zx q0y.nd (Zs bz dU dW Zt (pv 3))) (zf (zx q0y.nd (Zs bz dU dW Zt (pv 3))) (zh (zI (yt bz b7 b9 z8 (pv 3) (zb (zS JG (zS JG (pv 5) (pv 6)) (z0 (zb (pv 4) zg))) zg)))))) (zh (zI (yt bz b7 b9 z8 (pv 3) (zb (z0 (zb (t7 (zfc T) T.g86 b yb (zb (pv 4) zg)) zg)) zg))))))) (zh (zu (z0 (zb (Zs bz dU dW Zt (pv 3)) (zb (pv 2) zg)))))))),zad T.q1e e d c q⟩⟩
theorem yh:Ba P w K mg base 6 t.a88 t.d88 ["self"] (zQ t):=by
 refine T.g88.f.okB q27 λj H Q E h=>?_;obtain⟨x,l,g,e,n,k,rfl,d,c,b,q⟩:=h;exact⟨Y,λ_ _ _ _ a=>⟨xw K t E,(zf (zj5 (tF Y Y) Y (zir (i:=1) q27.nd Y (gw Y) (zgw (aZ.mono (zcz T) ()) a Y T.g87.m T.g87.f.kp T.g87.b (zb (zp (pv 0) Y) (zb (zp (pv 0) Y) zg)))) Y T.g_NoTerm T.xi_NoDealing T.xk_NoDealing T.xf_NoDealing (FnM.mono (X0 T) ()) a T.q0k xG zm0 Y T.g_NoDealing (λ_=>(zb (zp (pv 0) Y) zg))) (zf (zZ (f:="at") (pv 0) (zB zN (pv 1) zn) Y) (zh (zu (zB zN (pv 1) zn))))),qO (wrF T) T.q45 d c b q⟩⟩
theorem YZ:Ba P w K mg base 4 t.a89 t.d89 ["self"] (x8 t):=by
 refine T.g89.f.okB YU λf H Q E h=>?_;obtain⟨x,g,e,d,n,k,rfl,c,b,q⟩:=h;exact⟨Y,λ_ _ _ _ a=>⟨x9 K t E,(zh (zL (zt wE (xn (pv 0) T.q0g (xx T) T.g82 a yb) zC (zA _)) (zh (xr Y T.xi_NoDealing T.xk_NoDealing T.xf_NoDealing (aZ.mono (zV T) ()) a T.q0k xG Y T.g_NoDealing (zb (zp (pv 0) Y) zg)))
   zz)),Yx (wrF T) c b q⟩⟩
theorem zaq:Ba P w K mg base 7 t.a90 t.d90 ["words"] (ke t):=by
 refine T.g90.f.okB q1l λi H Q E h=>?_;obtain⟨x,j,g,f,n,rfl,e,d,c,b,q⟩:=h;exact⟨Y,λ_ _ _ _ a=>⟨Xd K t E,(zf (zx q1l.nd (xn (pv 0) T.q0g (yK T) T.g84 a yb)) (zf (zx q1l.nd (xn (pv 0) T.q0g (yh T) T.g88 a yb)) (zf (zI (xn (pv 0) T.q0g (YZ T) T.g89 a yb)) (zh (zu (z0 (zb zC (zb (pv 1) (zb (pv 2) (zb (xn (pv 0) T.q0g (yK T) T.g84 a yb) zg)))))))))),Qs e d c b q⟩⟩
theorem zcA:Ba P w K mg base 8 t.a91 t.d91 ["words"] (qv t):=by
 refine T.g91.f.okB q28 λg H Q E h=>?_;obtain⟨x,i,f,e,n,rfl,d,c,b,q⟩:=h;exact⟨Y,λ_ _ _ _ a=>⟨WC K t E,(zf (zx q28.nd (xn (pv 0) T.q0g (xx T) T.g82 a yb)) (zf (zL (zt yS (pv 1) zC (zA _)) (zh (zu (t7 (zaq T) T.g90 a yb (zb (pv 0) zg))))
    zz) (zf (zL (zt yS (pv 1) zC (zA _)) (zh (zu (z0 (zb zC (zb (xn (pv 0) T.q0g (yK T) T.g84 a yb) (zb (xn (pv 0) T.q0g (yh T) T.g88 a yb) (zb (xn (pv 0) T.q0g (yh T) T.g88 a yb) zg)))))))
    zz) (zf (zL (zt yS (pv 1) zC (zA _)) (zh (zu (z0 (zb zC (zb (xn (pv 0) T.q0g (yK T) T.g84 a yb) (zb (xn (pv 0) T.q0g (yh T) T.g88 a yb) zg))))))
    zz) (zf (zL (zt w6 (pv 1) (z0 (zb zC (zb zC zg))) (by with_unfolding_all rfl)) (zh (zu (z0 (zb (pv 1) (zb (xn (pv 0) T.q0g (yh T) T.g88 a yb) zg)))))
    zz) (zf (zL (zt yS (pv 1) zC (zA _)) (zh (zu (z0 (zb zC (zb (xn (pv 0) T.q0g (yh T) T.g88 a yb) (zb (zW zg) (zb (zW zg) zg)))))))
    zz) (zf (zL (zt w6 (pv 1) (z0 (zb zC (zb zC zg))) (by with_unfolding_all rfl)) (zh (zu (z0 (zb (pv 1) zg))))
    zz) (zh (xr Y T.xi_NoDealing T.xk_NoDealing T.xf_NoDealing (aZ.mono (zV T) ()) a T.q0k xG Y T.g_NoDealing (zb (zp (pv 0) Y) zg)))))))))),zae (wrF T) d c b q⟩⟩
theorem YD:Ba P w K mg base 3 t.a92 t.d92 ["self"] (xI t):=by
 refine T.g92.f.okB ZM λf H Q E h=>?_;obtain⟨x,g,e,d,n,k,rfl,c,b,q⟩:=h;exact⟨Y,λ_ _ _ _ a=>⟨xM K t E,(zh (zL (zt zau (zp (pv 0) Y) (zK yc Y T.q0b yL (zb (zp (pv 0) Y) zg)) (zA _)) (zh (xr Y T.xi_NoDealing T.xk_NoDealing T.xf_NoDealing (aZ.mono (zV T) ()) a T.q0k xG Y T.g_NoDealing (zb (zp (pv 0) Y) zg)))
   zz)),Zk (wrF T) c b q⟩⟩
theorem zgY:Ba P w K mg base 9 t.a93 t.d93 ["text","number"] (Vo t):=by
 refine T.g93.f.okB q1a λe H Q E h=>?_;obtain⟨x,n,rfl,d,c,b,q⟩:=h;exact⟨Y,λ_ _ _ _ a=>⟨zba K t E,(zf (zx q1a.nd (yt cZ eQ gG We (pv 0) (zb zC zg))) (zf (zL (PW.pt (wD (zt zfg (pv 1) (ye Y T.g_MOST_ROWS ⟨_,Y⟩) (zA _)) (xX (zt zcE (zK yc Y T.q0b yL (zb (pv 2) zg)) (ye Y T.g_MOST_WORDS_reader ⟨_,Y⟩) (zA _))))) (zh (xr Y T.xi_NoDealing T.xk_NoDealing T.xf_NoDealing (aZ.mono (zV T) ()) a T.q0k xG Y T.g_NoDealing (zb (pv 1) zg)))
    zz) (zf (zx q1a.nd (YF T.mk_RowWords (aZ.mono (VJ T) ()) a Y T.g_RowWords T.q2v .nil yb (zb (pv 2) (zb (pv 1) zg)))) (zf (zx q1a.nd (t7 (zcA T) T.g91 a yb (zb (pv 3) zg))) (zf (zI (xn (pv 3) T.q0g (YD T) T.g92 a yb)) (zh (zu (pv 4)))))))),ze2 d c b q⟩⟩
theorem zkO:Ba P w K mg base 10 t.a94 t.d94 ["text"] (zbX t):=by
 refine T.g94.f.okB q14 λf H Q E h=>?_;obtain⟨x,rfl,e,d,c,b⟩:=h;exact⟨Y,λ_ _ _ _ a=>⟨zfM K t E,(zf (zx q14.nd (kB (zt wE (pv 0) zC (zA _)) (yt cZ eQ gG We (pv 0) (zb zC zg)) (zW zg))) (zf (zx q14.nd (zhe T.mk_Reading (aZ.mono (JC T) ()) a Y T.g_Reading T.q2t .nil yb)) (zf (xY zls Y (zjV Y T.q2c (zb (pv 1) zg)) (Zq Y (yB (yi q14.nd) (yB (yi q14.nd) jM))) (zh (zI (uB (pv 2) T.q0x (VI T) T.g80 a yb (zb (t7 (zgY T) T.g93 a yb (zb (pv 4) (zb (pv 3) zg))) (zb (pv 3) zg)))))) (zf (zL (zt (Wg (Kh a)) (zp (pv 2) Y) (zW zg) (zA _)) (zh (xr Y T.xi_NoDealing T.xk_NoDealing T.xf_NoDealing (aZ.mono (zV T) ()) a T.q0k xG Y T.g_NoDealing (zb (zK yc Y T.q0b yL (zb (pv 1) zg)) zg)))
    zz) (zh (zu (zp (pv 2) Y))))))),zjj (rdF T) e d c b⟩⟩
theorem kY:Ba P w K mg base 11 t.a95 t.d95 ["self","text"] (xT t):=by
 refine T.g95.f.okB Vm λi H Q E h=>?_;obtain⟨x,z,b,a,j,n,k,S,rfl,g,f,e,d,q⟩:=h;exact⟨Y,λ_ _ _ _ c=>⟨vq K t E,(zh (zu (uB (zp (pv 0) Y) T.q0i (zd8 T) T.g70 c yb (zb (t7 (zfb T) T.g73 c yb (zb (t7 (zkO T) T.g94 c yb (zb (pv 1) zg)) zg)) zg)))),WQ (hsF T) g f e d q⟩⟩
theorem JD:Ba P w K mg base 12 t.a96 t.d96 ["house","rows"] (vW t):=by
 refine T.g96.f.okA q0l λp H Q E h=>?_;obtain⟨x,l,r,k,b,a,s,n,u,S,rfl,m,j,g,e,d,c,q⟩:=h;exact⟨Y,λ_ _ _ _ o=>⟨Ze K t,(zf (zx q0l.nd (v7 (b:=ag))) (zf (zx q0l.nd (v7 (b:=ag))) (zf (zx q0l.nd (v7 (b:=ag))) (zf (zx q0l.nd (Y0 j9 zn)) (zf (zj4 (i:=6) (tF Y Y) Y q0l.nd (zgx (zgD (pv 0) T.q0j T.g95.me (aZ.mono (kY T) ()) o T.g95.b (zb (yt cZ gY gZ JJ zC (zb (pv 1) zg)) zg))) Y T.g_NoDealing Y Y (λ_=>(zf (zx q0l.nd (zec (zK zaZ Y T.q0n yu (zb (pv 6) (zb (ye Y T.g_ForerunError Y) zg))) (zbk (zK zaZ Y T.q0n yu (zb (pv 6) (zb (YE Y T.q2x QF Y) zg)))))) (zf (zx q0l.nd (zK Ks Y T.q0n yu (zb (pv 6) (zb (z0 (zb (ye Y T.g_NoNumber Y) (zb (ye Y T.g_NoTerm Y) (zb (ye Y T.g_Nought Y) (zb (ye Y T.g_Great Y) (zb (ye Y T.g_Folded Y) zg)))))) zg)))) (zf (zx q0l.nd (zK Ks Y T.q0n yu (zb (pv 6) (zb (z0 (zb (ye Y T.g_NoHand Y) (zb (ye Y T.g_NoOrder Y) (zb (ye Y T.g_NoLine Y) (zb (ye Y T.g_NoLog Y) zg))))) zg)))) (zh (zx q0l.nd (zj1 (f:="row") (pv 6) Y)))))))) (zf (zL (PW.pt (wD (jq (yz (pv 2))) (wD (yz (pv 3)) (wD (yz (pv 4)) (wD (jq (yz (zK Zy Y T.q0n yu (zb (pv 5) (zb (YE Y T.b_int Ka Y) zg))))) (xX (yz (zK Zy Y T.q0n yu (zb (pv 5) (zb (YE Y T.q2b zfo Y) zg)))))))))) (zh (zu (Y0 j9 zn)))
    zz) (zh (zu (pv 5))))))))),VB (ndF T) m j g e d c q⟩⟩
theorem zea:Ba P w K mg base 1 t.a97 t.d97 ["kind"] (Z4):=by
 refine T.g97.f.ok0 q1m (λj H Q E h=>?_) (λl A f s H j Q E m h=>?_)
 .obtain⟨k,x,rfl,_⟩:=h;rfl
 obtain⟨k,x,rfl,g,q⟩:=h;refine⟨Yu K t,?_,zcn g q⟩;refine zf ?_ ?_
 .refine zbl (i:=1) ?z ?a ?b ?c (hs:=?d) (hf:=?e)
  case z=>exact q1m.nd
  case a=>rfl
  case b=>exact(gw rfl)
  case c =>
   refine zW ?_;refine qp (x:="") ?_;refine qp (x:="say 1 ") ?_;refine qp (x:="say") ?_;refine qp (x:="say 1 2") ?_;refine qp (x:="tell 1") ?_;refine qp (x:="end") ?_;refine qp (x:="else") ?_;refine qp (x:="let over 1") ?_;refine qp (x:="take a 1 x") ?_;exact zg
  case d=>rfl
  case e=>first|exact .inl rfl|exact .inr rfl|assumption
 .refine zf ?_ ?_
  .refine zbl (i:=1) ?z ?a ?b ?c (hs:=?d) (hf:=?e)
   case z=>exact q1m.nd
   case a=>rfl
   case b=>exact(gw rfl)
   case c =>
    refine zS ka (pv 1) ?_;refine zW ?_;refine zb zC ?_;refine zb zC ?_;refine zb zC ?_;refine zb zC ?_;exact zg
   case d=>rfl
   case e=>first|exact .inl rfl|exact .inr rfl|assumption
  .refine zh ?_;exact(zu (zB yo (pv 1) (pv 0)))
theorem j8:Ba P w K mg base 13 t.a98 t.d98 ["house","cell","rows"] (xD t):=by
 refine T.g98.f.okA q0o λk H Q E h=>?_;obtain⟨x,l,c,m,b,a,o,n,p,S,rfl,i,j,g,f,e,q⟩:=h;exact⟨Y,λ_ _ _ _ d=>⟨wS K t,(zf (zx q0o.nd (z7 xO Y T.b_list jO (zb (pv 2) zg))) (zf (zx q0o.nd (zS wY (zS kF (pv 1) zn) (zS xZ (zK yc Y T.q0b yL (zb (pv 2) zg)) zn))) (zf (zx q0o.nd (zS wY (zS kF (pv 1) zn) zn)) (zf (zx q0o.nd (zW zg)) (zf (zL (PW.pt (zbj (zt yS (zS wY (zS kF (pv 1) zn) zn) zn (zA _)) (zbj (zt wE (pv 5) zn (zA _)) (zbi (zt wE (pv 5) zn (zA _)))))) (zh (zx q0o.nd (zW (zb zC zg))))
    zz) (zf (zL (PW.pt (zbj (zt yS (zS wY (zS kF (pv 1) zn) zn) zn (zA _)) (zbi (zt (Wg (Kh d)) (pv 6) (zW zg) (zA _))))) (zh (zx q0o.nd (zK yc Y T.q0b yL (zb (pv 3) zg)))) (zh (zx q0o.nd (zS ka (zS ka (xk vy (pv 3) wJ (xN (pv 4))) (zW (zb (t7 (zea T) T.g97 d zw (zb (pv 5) zg)) zg))) (xk vy (pv 3) (xN (pv 4)) wJ))))) (zh (zu (jf yS (t7 (JD T) T.g96 d zw (zb (pv 0) (zb (zS ka (pv 6) (pv 3)) zg))) (zS xZ (pv 4) (zK yc Y T.q0b yL (zb (pv 6) zg))) (zA _)))))))))),XW i g f e q⟩⟩
theorem VL:Ba P w K mg base 2 t.a99 t.d99 ["self"] (vk t):=by
 refine T.g99.f.okA Vn λe H Q E h=>?_;obtain⟨x,b,a,f,n,g,S,rfl,c,q⟩:=h;exact⟨Y,λ_ _ _ _ d=>⟨vt K t,(zh (zu (xn (zp (pv 0) Y) T.q0i (v5 T) T.g25 d zw))),WO (hsF T) c q⟩⟩
theorem ok_law:Ba P w K mg base 14 t.a100 t.d100 ["script"] (sp_law K):=by
 refine T.q2w.ok0 q0u (λj H Q E h=>?_) (λl A d s H j Q E c h=>?_)
 .obtain⟨a,k,rfl,_⟩:=h;rfl
 obtain⟨a,k,rfl,g,f,e,q⟩:=h;exact⟨zeV K t,(zf (zx q0u.nd (zS xZ zn (zS wY (t7 (Zg T) T.g67 c zw (zb (pv 0) (zb zn zg))) zn))) (zf (zx q0u.nd (YF T.mk_House (aZ.mono (zak T) ()) c Y T.g_House T.q2n .nil zw (zb (t7 (zfa T) T.g64 c zw (zb (zW zg) zg)) (zb (pv 1) (zb (zim T.mo_Way Y T.g_Way) zg))))) (zf (zL (PW.pt (wD (jq (yz (t7 (Zh T) T.g69 c zw (zb (pv 2) (zb (zS xZ (pv 1) (zS wY (t7 (Zg T) T.g67 c zw (zb (pv 0) (zb zn zg))) (zS JT zn zn))) zg))))) (xX (jq (yz (t7 (Zh T) T.g69 c zw (zb (pv 2) (zb (Y0 j9 zn) zg)))))))) (zh (zu (v7 (b:=ag))))
    zz) (zf (zx q0u.nd (xn (pv 2) T.q0j (WV T) T.g24 c zw)) (zf (zx q0u.nd (zW zg)) (zf (xY dB Y (yM (xk vy (pv 0) wJ (xN zn))) (yi q0u.nd) (zf (zx q0u.nd (t7 (zcy T) T.g65 c zw (zb (pv 5) zg))) (zf (zL (zt wE (zS wY (zS kF (pv 5) zn) zn) zn (zA _)) (zf (zL (PW.pt (wD (jq (yz (t7 (j8 T) T.g98 c zw (zb (pv 2) (zb (pv 5) (zb (pv 6) zg)))))) (xX (jq (yz (t7 (j8 T) T.g98 c zw (zb (pv 2) (zb (pv 5) (zb (pv 6) zg))))))))) (zh (zu (v7 (b:=ag))))
    zz) (zh (zL (PW.pt (wD (zt wE (xn (pv 2) T.q0j (WV T) T.g24 c zw) (pv 3) (zA _)) (wD (zt wE (xn (pv 2) T.q0j (VL T) T.g99 c zw) zn (zA _)) (xX (zt (Wg (Kh c)) (xn (pv 2) T.q0j (kX T) T.g66 c zw) (zW zg) (zA _)))))) (zh (zu (v7 (b:=ag))))
    zz)))
    zz) (zf (zL (zt wE (uB (pv 2) T.q0j (kY T) T.g95 c zw (zb (yt cZ gY gZ JJ zC (zb (pv 6) zg)) zg)) (zK yc Y T.q0b yL (zb (pv 4) zg)) (zA _)) (zh (zu (v7 (b:=ag))))
    zz) (zh (zI (yt bz b7 b9 z8 (pv 4) (zb (z0 (zb (zK yc Y T.q0b yL (zb (pv 4) zg)) (zb (z0 (zb zC (zb (z7 Y2 Y T.q2e zcU (zb (jg Y (osc:=zk ziW) (N:=["script","hands","house","log","due","cell","rows"]) (xs:=["row"]) (ix:=[]) () (yM (pv 6)) (λ_ _ _ _=>(xh (i:=0) (show fJ (["row"]:List Str) from ()) Y (gw Y) (.inr Y))) (λ_ _ _ _=>vz) (λ_ _ _ _=>(z7 qj Y T.b_int Ka (zb (xk zhv (pv 0) (xN zn) wJ) zg)))) zg)) zg))) zg))) zg)))))))) (zf (zI (xn (pv 2) T.q0j (JB T) T.g62 c zw)) (zh (zu (jf (zhZ (Kh c)) (xn (pv 2) T.q0j (kX T) T.g66 c zw) (pv 4) (zA _))))))))))),zkN g f e q⟩
end
end K71
open PySem PySem.W PyProof.Rows
set_option maxRecDepth 100000 in
set_option maxHeartbeats 0 in
theorem PySem.Challenge.cw_forerun_k71_handed_in_or_refused_holds : PySem.Challenge.rw_forerun_k71_handed_in_or_refused.Holds := by
 refine hdT ?_
 k_fill
 refine L2.walk_ofXB (l := PySem.Challenge.rw_forerun_k71_handed_in_or_refused) (n := 63) (k := 14) (x := "script") (sp := K71.sp_law) Y (by decide) Y ⟨Y,by decide,by decide⟩ (fun w h Bl => PySem.W.kIn_of Bl) ?F ?S
 case F =>
  intro w mg fa h KX G hmg;have T : ∃ t,K71.Txt (L2.KOf KX) mg t := by
   dsimp only [L2.KOf];exact ⟨.mk ..,by
    constructor
    all_goals try dsimp only
    all_goals first
     | exact PySem.W.mg_of KX G (by k_is)
     | exact ⟨by k_is,by k_is,by k_is,by k_is⟩
     | exact ⟨by k_is,by k_is,by k_is⟩
     | exact ⟨PySem.W.mg_of KX G (by k_is),L2.fun_mk (by k_is) (by k_is) (by k_is),.all (by (repeat refine L2.arS fun _ => ?_); exact L2.ar0 rfl)⟩
     | exact ⟨⟨by k_is,by k_is,by k_is⟩,L2.fun_mk (by k_is) (by k_is) (by k_is),.all (by (repeat refine L2.arS fun _ => ?_); exact L2.ar0 rfl)⟩
     | exact L2.fun_mk (by k_is) (by k_is) (by k_is)
     | exact L2.fun_mkD (by k_is) (by k_is) (by k_is)
     | exact .all (by (repeat refine L2.arS fun _ => ?_); exact L2.ar0 rfl)
     | exact .df rfl (by k_is) (by (repeat refine L2.arS fun _ => ?_); exact L2.ar0 fun _ e => .of_defaults rfl e rfl rfl rfl)
     | exact ⟨_,.cons ⟨_,rfl⟩ .nil,.df rfl (by k_is) (by (repeat refine L2.arS fun _ => ?_); exact L2.ar0 fun _ e => .of_defaults rfl e rfl rfl rfl)⟩
     | exact fun _ _ => .of_eq rfl
     | exact PySem.W.mg_none_of KX G (by k_is)
     | exact fun _ => .inr ⟨_,_,_,by k_is,Y,Y,by decide,.cons ⟨_,Y⟩ (.cons ⟨_,Y⟩ (.cons ⟨_,Y⟩ (.cons ⟨_,Y⟩ (.cons ⟨_,Y⟩ (.cons ⟨_,Y⟩ (.cons ⟨_,Y⟩ .nil))))))⟩
     | exact fun _ => .inr ⟨_,_,_,by k_is,Y,Y,by decide,.cons ⟨_,Y⟩ (.cons ⟨_,Y⟩ (.cons ⟨_,Y⟩ (.cons ⟨_,Y⟩ (.cons ⟨_,Y⟩ (.cons ⟨_,Y⟩ (.cons ⟨_,Y⟩ (.cons ⟨_,Y⟩ (.cons ⟨_,Y⟩ .nil))))))))⟩
     | exact L2.QX.to ⟨_,by k_is,by k_is,by k_is,by k_is,by k_is,by k_is,by k_is,by k_is⟩
     | exact ⟨⟨by k_is,by k_is,by k_is,by k_is,by k_is,by k_is,by k_is⟩,by k_is,by kernel_rfl,by k_is⟩
     | (show _ = _; first | k_is | k_exc | kernel_rfl | kit_is)⟩
  obtain ⟨t,T⟩ := T;have e0 := hmg.symm.trans T.m_law;cases e0;exact ⟨_,T.w_law,fun base _ _ => K71.ok_law T⟩
 case S => exact fun K H a ns hl hb _ hS => ⟨a,ns,rfl,hS,hl,hb,fun _ => rfl⟩
