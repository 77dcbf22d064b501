import PyProof.Rows.All
import Wide.All
import OpenK.AllK
import PySem.Challenge.RW_forerun_k46_whole_one_by_one
set_option Elab.async false
set_option linter.all false
local macro_rules|`(#where)=>do
 let f:=λ(s:String)(l:List Nat)=>l.map λi=>Lean.Name.str `hdT s!"{s}_{i}"
 return Lean.mkNullNode (←(f "heap" [39,46,772]++f "tree" [47,70,85,100,115,163,172,254,255,314,352,439,448,547,591,613,663,748,771]++f "view" [39]++f "sts" [49,71,86,101,116,164,173,255,257,315,353,440,449,548,592,614,664,749]++f "o" (List.range' 43 729)++f "env" [41]++[`PySem.Challenge.pw_forerun_k46_whole_one_by_one,`PySem.Challenge.rw_forerun_k46_whole_one_by_one]).toArray.mapM λn=>do return (←`(command|def $(Lean.mkIdent (.str `PySem.W.Fast s!"tw{n.hash}")):ident:=Nat)).raw)
#where
section
open PySem PySem.W PyProof.Rows
set_option maxRecDepth 100000
set_option maxHeartbeats 0
open_top hdT for PySem.Challenge.rw_forerun_k46_whole_one_by_one
end
open Array renaming length_toList->cL,getElem?_eq_getElem->cV,getElem?_toList->dI,perm_iff_toList_perm->eY,toList_inj->gY,getElem?_eq_none->lW,getElem?_map->tw
open Array.Perm renaming mem_iff->tq,trans->ul,refl->uD
open Bool renaming false_ne_true->bV,and_eq_true->cG,false_eq_true->dz,eq_false_iff->gF,or_eq_false_iff->m7,eq_iff_iff->nM,not_eq_true'->oR,not_eq_true->uq
open Break.runK renaming match_1->gh
open Classical renaming byContradiction->gu,not_imp->tY
open Decidable renaming byContradiction->oI
open False renaming elim->dQ
open ForInStep renaming yield->iA
open Iff renaming rfl->uE
open Int renaming emod_lt_of_pos->cM,emod_nonneg->cW,toNat_natCast->fi,toNat_of_nonneg->oh,ofNat_zero->sI,le_refl->sS,ne_of_lt->ue,le_of_lt->uf,add_zero->ug
open Int.ofNat renaming inj->uM
open LawfulBEq renaming eq_of_beq->nV
open List renaming getElem?_eq_getElem->ba,getElem?_eq_some_iff->bd,length_append->bh,length_map->bn,mem_singleton->bo,mem_append->bp,mem_cons_of_mem->bt,mem_cons_self->bw,mem_of_getElem?->bA,map_cons->bB,mem_cons->bC,getD_eq_getElem?_getD->bD,mem_map_of_mem->bE,getElem?_map->bF,mem_map->bK,mem_append_right->bQ,size_toArray->bR,pairwise_append->bW,length_take->bX,map_append->bZ,append_assoc->b6,length_cons->b7,take_of_length_le->b9,getElem?_append_right->cp,length_drop->cq,nodup_cons->cw,getElem?_append_left->cx,mem_append_left->cz,take_append_drop->cB,mem_filter->cC,getElem?_of_mem->cE,mem_of_mem_drop->cF,mem_of_mem_take->cH,take_add_one->cI,lookup_cons->cK,length_singleton->cP,not_mem_nil->cQ,getElem?_eq_none->cR,take_length->cU,nodup_nil->cY,sum_cons->c9,nodup_append->dh,pairwise_iff_getElem->dC,filter_sublist->dD,lookup->dJ,drop_zero->dM,getElem?_take->dP,map_congr_left->dR,cons_append->dY,filter_cons->dZ,drop_eq_getElem_cons->eD,getElem_mem->eE,map_map->eQ,getElem?_drop->eV,range->e9,foldl_cons->fA,perm_append_comm->fE,getElem?_take_of_lt->fI,eq_nil_of_length_eq_zero->fJ,ext_getElem?->fS,eraseIdxIfInBounds_toArray->gC,nil_append->gE,pairwise_map->gI,Nodup->gJ,length->gM,mem_singleton_self->gN,filter_cons_of_neg->gQ,filter_cons_of_pos->gR,sum_append_nat->gS,drop_eq_nil_of_le->ic,length_replicate->ik,find?_cons->iq,length_nil->iu,all_cons->iG,drop_sublist->iK,getElem?_inj->iM,drop_drop->iR,length_pos_iff->iV,mem_filterMap->lh,eraseIdx_cons_succ->lA,map_take->lH,map_drop->lI,length_eq_zero_iff->lM,getElem?_cons_zero->lO,take_sublist->mf,flatten_cons->mq,length_filter_le->mG,getElem_inj->mV,any_eq_true->mW,all_eq_true->mX,drop_length->m3,take_append_of_le_length->m4,perm_cons_erase->m8,any_cons->nu,dropLast_concat_getLast->nF,filterMap_cons->nK,drop_length_add_append->nW,getElem?_range->nX,replicate->oB,take_zero->oE,rel_of_pairwise_cons->oH,length_range->oV,getElem?_replicate->pC,zipIdx_cons->pS,nodup_range->pV,mem_flatMap->pW,getElem?_set_self->pX,drop_of_length_le->ro,append_nil->rD,of_mem_zip->rE,map_nil->rF,forIn_cons->rG,filterMap_append->rS,getElem?_set_ne->rY,reverse_reverse->se,map_eq_cons_iff->sf,mem_erase_of_ne->sk,drop_left->sG,take_left->sH,reverse_append->sN,filter_eq_self->sQ,length_flatMap->sT,pairwise_cons->tF,erase_sublist->tI,map->tJ,reverse_cons->tQ,toArray->ub,reverse_nil->uj,mem_reverse->um,perm_middle->uo,zipIdx_nil->uC,all_append->uF,sum_append->uG
open List.Nodup renaming sublist->ie
open List.Pairwise renaming nil->gD,imp->oS
open List.Perm renaming trans->dy,append_right->fW,append_left->iB
open List.Sublist renaming map->f8
open List.cons renaming injEq->nZ,inj->uO
open Nat renaming le_refl->bq,lt_of_lt_of_le->bH,le_trans->bI,lt_of_le_of_lt->bM,ne_of_lt->b8,zero_le->cf,le_succ_of_le->cy,le_of_lt_succ->cN,le_of_lt->cS,le_add_right->cZ,add_le_add_left->c8,min_eq_left->dq,add_lt_add_left->dA,exists_eq_add_of_le'->dF,lt_succ_self->dX,sub_add_cancel->eA,ne_of_gt->eM,lt_succ_of_le->eO,le_of_eq->eX,succ_le_succ->fY,lt_of_succ_lt->gG,sub_self->gK,min_eq_right->gX,lt_trans->iy,lt_irrefl->iF,sub_le->iJ,lt_of_not_le->iS,max_eq_right->iT,one_le_of_lt->iU,zero_add->i7,le_antisymm->lF,lt_of_le_of_ne->lJ,add_sub_cancel_left->lK,lt_or_eq_of_le->lL,le_pred_of_lt->mo,add_lt_of_lt_sub'->mK,le_add_left_of_le->mL,succ_pos->mM,lt_or_ge->mO,not_lt_of_le->mZ,add_assoc->nE,sub_lt_sub_left->nS,zero_lt_one->nU,eq_zero_or_pos->oA,le_succ->pB,le_zero->pL,le_of_not_lt->pQ,eq_zero_of_not_pos->rf,le_of_sub_eq_zero->rL,not_lt_zero->rM,le_max_left->rN,sub_lt_sub_right->sd,sub_le_sub_left->sO,add_right_comm->tH,lt_succ_of_lt->tN,add_sub_assoc->tV,le_of_succ_le->tW,lt_trichotomy->tX,sub_zero->ua,min_le_right->uh,le_max_right->uk
open Ne renaming symm->eC
open Option renaming map_eq_some_iff->cr,isSome_iff_exists->gB,map_some->nO,isSome_map->oM,isNone_some->tG,getD_none->ui
open Option.some renaming inj->bU,injEq->mz
open Or renaming inl->m6,inr->sC
open Prod renaming ext->tE
open Prod.mk renaming inj->sP
open PyProof renaming noPylong_of_log2->oO
open PyProof.Rows renaming wpS_bind->bT,wpS_pure->ca,wpS_forRange->dU,wpS_mono->fm,callWith_type1->fT,wpS_modify->f7,reads_newData->pJ,subscriptTail_builtinR->p8,wpS_lift->rX,entry_proto_collect'->si,lt_int->sJ,listUpdate_at->tz
open PyProof.Rows.SortSt renaming mk'->nI
open PySem renaming wpAny_bind->bb,wpAny_pure->bu,sizeLine_eq->bN,wpAny_newObj_type->dE,wpAny_setField_rec->dH,wpAny_call_entry->ef,wpAny_callSpecial?_slot->eo,wpAny_field->eI,wpAny_mono->eL,wpAny_dictEntries->eP,tupleKind_room_in1->eS,wpAny_truthy_bool->fc,wpAny_typeNameOfWhole_itemiter->fG,wpAny_typeNameOfWhole_keyiter->fM,wpAny_holding->fO,mem_of_lookup->fU,codeAny_builtin->fV,wpAny_rule->fZ,wpAny_Call_Name_kw->gc,wpAny_notOrdered_dict->gp,wpAny_typeNameOf_itemiter->gq,wpAny_passesOwn->gA,wpAny_typeNameOf_keyiter->gH,wpAny_seqItems->gZ,wpAny_execs_nil->ig,codeAny_mono->ii,wpAny_dictEpoch->iD,wpAny_loadPart'->iE,wpAny_Call_method->iH,wpAny_attempt->iI,plainId_quiet->iL,call_meets->iZ,wpAny_isOneOf_itemiter->lX,plainObj_wpAny_Assign_Attribute->lZ,wpAny_setField->mF,call_meetsIn->mH,codeAny_handlers_test->mQ,wpAny_pyIter_zip->mY,wpAny_handleBy_cons->n9,wpAny_updateSeq->og,wpAny_pyIter_tuple->oq,wpAny_letOwnedTupleGo_zip->oC,wpAny_fieldsOf->oF,wpAny_comprehension_free->oN,wpAny_Call_method0_late->pE,wpAny_letGo->pK,wpAny_execs_cons->pO,wpAny_isInstance->pU,wpAny_pyNext_list_item->pY,wpAny_pyNext_list_end->rB,wpAny_isOneOf_keyiter->rO,size_of_entries->rR,wpAny_load->rT,typeIs_str->rV,call->rW,wpAny_loadName_local->rZ,wpAny_pyIter_revIter->r6,wpAny_updateSeq_pair->r9,wpAny_pyIter_keyiter->sg,wpAny_updateDictKeys->sy,wpAny_newTuple->sE,isSubtype_stop->sF,evalArgs_none->sK,wpAny_handled->sZ,wpAny_onRaise->tj,wpAny_newList->tD,wpAny_call->tM,rule->tT,unsupported->tU,Within->tZ,wpAny_typeOf->ud
open PySem.Around renaming under_plainId->eu,under->t8
open PySem.Builtin.Dict renaming showsAll->iC,keyAndDefault->oo,updateFrom->pM,takeOut->sw
open PySem.Builtin.Dict_items renaming ownsTuple->eR,ownedTupleFields->iW,ownedTupleIsFree->iX,pairFromOwner->lS
open PySem.Builtin.Int renaming intBits->eG,intTooBig->rQ
open PySem.Builtin.List renaming listExtendWith->dW,listTooLong->iY,listSameRef->oU,listItems->rm
open PySem.Builtin.SmallTypes renaming ownedTupleIsFree->eJ,nextOf->fj,ownedTupleHandOut->iQ
open PySem.Builtin.Str renaming occurrences->lB,strSliceIndices->nQ,glued->oQ,tooLong->sL
open PySem.Calls renaming spliced_cons->dG,callWith_builtin->dN,evalArgs_plain->eW,spliced_nil->fR,Name_function_global->om,Constant_str->sW
open PySem.Code renaming isFrame->t9
open PySem.F renaming plainAttrs_list->bO,slot_list_append->cg,type_list_append->ck,plainAttrs_dict->eT,plain_extend_loop->fo,slot_dict_pop->fq,slot_dict_itemiterator_next->fN,slot_dict_keyiterator_next->fP,plain_list_iadd->gO,slot_list_clear->lQ,type_list_clear->lR,entry_dict_pop->lU,args_dict_itemiterator_next_1->mC,slot_dict_get->mI,type_dict_pop->mJ,args_dict_keyiterator_next_1->mP,entry_dict_itemiterator_next->mR,slot_list_pop->mT,type_list_pop->mU,entry_dict_keyiterator_next->m5,slot_dict_setdefault->nH,slot_zip_next->nR,plain_proto_collect->nY,slot_tuple_iterator_next->on,entry_extend_loop->oG,args_tuple_add_2->oK,slot_list_remove->oW,type_list_remove->oX,slot_list_insert->oY,type_list_insert->oZ,entry_tuple_add->pD,args_dict_pop_2->pF,args_dict_pop_3->pG,args_dict_get_3->pH,slot_dict_items->pN,slot_tuple_add->pZ,entry_dict_get->p9,slot_dict_items_iter->rj,plainAttrs_str->rq,slot_tuple_lt->rP
open PySem.Heap renaming get?_push_of_some->bg,get?_push_size->bJ,lt_size->bS,SameBut->de,get?_update_other->eZ,get?_update_self->fC,size_push->fQ,FlyingW->i8,get?_push_cases->ss,ExtBut->uB
open PySem.Heap.SameBut renaming update->dL
open PySem.NameKind renaming free->dO,cell->pI
open PySem.Obj renaming mapSeq->eN,data_mapDictKeys->iN,data_mapFields->lG,isFreed_of_fields->rK,isFreed_of_dict->sR,cls_mapFields->tR
open PySem.Paired renaming length->bG
open PySem.PassesOwn renaming never->cO
open PySem.PyData renaming strOk->dt,depthAll->lE,depth->rJ,canLay0->sD,canLayAll0->tO
open PySem.SeqAt renaming noMixAll->mE,shaped->rH,noMix->sM
open PySem.SeqAt.EqAt renaming int_int->ou,str_str->oy,int_str->sU,str_int->sV
open PySem.Shared renaming TypeIs->uL
open PySem.Spec renaming sameAll->oz,same->uA
open PySem.Str renaming ofString->br,length->mj,length_append->oP,empty->rC
open PySem.Txt renaming slice->iP
open PySem.Value renaming ref->bY,none->da,int->gU,str->lf,bool->lY,type->oJ,float->ut
open PySem.W renaming Frag->bL,emptyDict->fh,findIn->f9,kitOne->gL,instObj->gW,kia_one->iO,hideAll_none->mD,exmOne->nG,hideAll->nJ,methodCall_KW->nN,callWith_K->ot,hideAll_get->pq,keepIn->pA,funFrames_hide->pR,of_hideAll->rA,plainGet_of->sX,callWith_K0->sY,plainGet->tL,codeIn->ur,methodObj->uu,hasDictIn->uv,makesIn->uw,specialIn->ux,fnOf->uy,OpenLaw->uz,lookIn->uI,mroIn->uJ,excIn->uK,exmAny->uN
open PySem.W.KatTups renaming cons->uP
open PySem.W.Looks renaming ld->uH
open Sum renaming inl->i9,inr->tK
open Sum.inl renaming inj->ph
open True renaming intro->fH
open Bool renaming true->U,false->am
open Option renaming some->Y,none->L
open PySem renaming Addr->af,Shared->ap,Value->aq,Program->au,World->av,Heap->aw,Stmt->ax,Expr->ay,Around->aA,Scope->aB,Result->aC,sizeLine->Bb,FuncData->Bc,mainGlobals->Bd,starEach->Be,wpAny->Bf,model->Bg,bootBuiltins->Bh,compareOp->Bi,Paired->Bl
set_option Elab.async false
set_option linter.all false
set_option maxRecDepth 100000
theorem Bj{p:Prop}[Decidable p](h:p):decide p=true:=decide_eq_true h
theorem Bk{p:Prop}[Decidable p](h:¬p):decide p=false:=decide_eq_false h
set_option hygiene false
set_option compiler.extract_closed false
def zzzP:Nat->Lean.Syntax->Lean.MacroM (Lean.TSyntax `rcasesPat)
 |0,_=>Lean.Macro.throwUnsupported
 |n+1,s=>match s with
  |`(⟨$ps,*⟩)=>do
   let ls ← ps.getElems.mapM fun p=>do `(Lean.Parser.Tactic.rcasesPatLo|$(← zzzP n p):rcasesPat)
   `(rcasesPat|⟨$[$ls],*⟩)
  |`(#[$ps,*])=>do
   let ls ← ps.getElems.mapM fun p=>do `(Lean.Parser.Tactic.rcasesPatLo|$(← zzzP n p):rcasesPat)
   `(rcasesPat|⟨$[$ls],*⟩)
  |`($x:ident)=>`(rcasesPat|$x:ident)
  |_=>`(rcasesPat|_)
local macro_rules|`(match $x:term with|⟨$ps,*⟩=>$b)=>do
 if (b.raw.find? (·.isOfKind `Lean.Parser.Term.syntheticHole)).isSome then Lean.Macro.throwUnsupported
 let q ← zzzP 9 (← `(⟨$ps,*⟩))
 `(by rcases $x:term with $q;exact $b)
local macro_rules|`({$a:term,$as,*})=>`(⟨$a,$as,*⟩)
local macro_rules|`(tactic|have #[$p,*]:=$e:term)=>do
 let q ← zzzP 9 (← `(#[$p,*]))
 `(tactic|obtain $q:rcasesPat:=$e)
local macro_rules|`(tactic|lia)=>`(tactic|first|with_reducible (first|assumption|exact Nat.le_refl _|exact Nat.zero_le _|exact Nat.le_of_lt ‹_›|exact Nat.le_succ_of_le ‹_›|exact Nat.le_trans ‹_› ‹_›|exact Nat.lt_of_lt_of_le ‹_› ‹_›|exact Nat.lt_of_le_of_lt ‹_› ‹_›|exact Nat.ne_of_gt ‹_›|exact Nat.ne_of_lt ‹_›|exact Int.le_of_lt ‹_›|exact Nat.le_of_eq ‹_›|exact Nat.succ_le_succ ‹_›|exact Nat.lt_succ_of_le ‹_›|exact Eq.trans ‹_› ‹_›)|decide +kernel|exact Nat.le_of_ble_eq_true rfl|(intro _ z;cases z;done)|(intro z;cases z;done)|lia -abstractProof)
theorem ak{c:Prop}{h:Decidable c}(n:¬c){α:Sort u}{t e:α}:ite c t e=e:=if_neg n
theorem ao{c:Prop}{h:Decidable c}(n:c){α:Sort u}{t e:α}:ite c t e=t:=if_pos n
local macro_rules|`(())=>`(by lia)
theorem Z{α:Sort u}{a:α}:a=a:=rfl
namespace L2
open PySem PySem.Spec PyProof.Rows
abbrev Bq(x:Str):Prop:=(x==("__debug__":Str))=am
abbrev Key:=Sum Int Str
def KH:Key->aq->Bool
 |.inl k,v=>Value.isInt k v
 |.inr x,v=>Value.isStrOf x v
def zln(w:av):Key->Int
 |.inl k=>hashInt k
 |.inr x=>hashStr w x
theorem xp:∀ {k:Key}{v:aq},KH k v=U->(∃i t,k=i9 i/\v=gU i t)\/(∃x t,k=tK x/\v=lf x t)
 |.inl i,v,h=>by have #[t,e]:=Value.isInt_shape (k:=i) (v:=v) h;exact .inl {i,t,Z,e}
 |.inr x,v,h=>by have #[t,e]:=Value.isStrOf_shape (x:=x) (v:=v) h;exact .inr {x,t,Z,e}
theorem zeb(i:Int)(t:Tok):KH (.inl i) (.int i t)=U:=by simp[KH,Value.isInt]
theorem zec(x:Str)(t:Tok):KH (.inr x) (.str x t)=U:=by simp[KH,Value.isStrOf]
theorem zjd(a b:Int):decide ((i9 a:Key)=i9 b)=(a==b):=by
 by_cases e:a=b
 .subst e;simp
 .have h:¬ (i9 a:Key)=i9 b:=λq=>e (ph q);rw[Bk h];exact(beq_eq_false_iff_ne.mpr e).symm
theorem zje(a b:Str):decide ((tK a:Key)=tK b)=decide (a=b):=by
 by_cases e:a=b
 .subst e;simp
 .have h:¬ (tK a:Key)=tK b:=λq=>e (Sum.inr.inj q);rw[Bk h,Bk e]
def zjf(a:Int)(b:Str):decide ((i9 a:Key)=tK b)=am:=Bk (λq=>nomatch q)
def zjg(a:Str)(b:Int):decide ((tK a:Key)=i9 b)=am:=Bk (λq=>nomatch q)
def yT(c:au)(w:av):PySem.KeyKind c w Key where
 is:=KH
 hash:=zln w
 inj:=λv a b l f=>by
  obtain ⟨i,t,rfl,rfl⟩|⟨x,t,rfl,rfl⟩:=xp l
  .obtain ⟨j,u,rfl,e⟩|⟨y,u,rfl,e⟩:=xp f
   .injection e with e1 _;rw[e1]
   .exact nomatch e
  .obtain ⟨j,u,rfl,e⟩|⟨y,u,rfl,e⟩:=xp f
   .exact nomatch e
   .injection e with e1 _;rw[e1]
 byValue:=λk v h=>by obtain ⟨i,t,rfl,rfl⟩|⟨x,t,rfl,rfl⟩:=xp h <;> rfl
 pyHash:=λd h=>by
  obtain ⟨i,t,rfl,rfl⟩|⟨x,t,rfl,rfl⟩:=xp d
  .exact wpAny_pyHash_int h
  .exact wpAny_pyHash_str h
 eqBool:=λg d h=>by
  obtain ⟨i,t,rfl,rfl⟩|⟨x,t,rfl,rfl⟩:=xp g
  .obtain ⟨j,u,rfl,rfl⟩|⟨y,u,rfl,rfl⟩:=xp d
   .rw[zjd] at h;exact wpAny_eqBool_int h
   .rw[zjf] at h;exact sU i t y u _ _ _ _ h
  .obtain ⟨j,u,rfl,rfl⟩|⟨y,u,rfl,rfl⟩:=xp d
   .rw[zjg] at h;exact sV x t j u _ _ _ _ h
   .rw[zje] at h;exact wpAny_eqBool_str h
 «strs»:=λk x t v h=>by
  obtain ⟨i,u,rfl,e⟩|⟨y,u,rfl,e⟩:=xp h
  .exact nomatch e
  .injection e with e1 _;subst e1;cases v <;> rfl
def zaF(a:au)(w:av)(i:Int)(t:Tok):(yT a w).is (.inl i) (.int i t)=U:=zeb i t
def zaG(a:au)(w:av)(x:Str)(t:Tok):(yT a w).is (.inr x) (.str x t)=U:=zec x t
inductive V where
 |non|bl (b:Bool)|int (i:Int)|str (x:Str)|byt (b:Array UInt8)|flt (b:UInt64)|ref (a:af)|ty (n:String)
 deriving DecidableEq
def aR:V->aq->Prop
 |.non,u=>u=da
 |.bl b,u=>u=lY b
 |.int i,u=>∃t,u=gU i t
 |.str x,u=>∃t,u=lf x t
 |.byt b,u=>∃t,u=Value.bytes b t
 |.flt b,u=>∃t,u=ut b t
 |.ref a,u=>u=bY a
 |.ty n,u=>u=oJ n
abbrev LV:=List V
abbrev zX:=List aq
abbrev aQ:LV->zX->Prop:=Bl aR
def aQ.length(r:aQ xs us):xs.length=us.length:=bG r
theorem aQ.get:∀ {a:LV}{b:zX}{i:Nat}{x:V},aQ a b->a[i]?=Y x->∃u,b[i]?=Y u/\aR x u
 |_,_,_,_,.nil,e=>by simp at e
 |_,_,0,_,.cons r _,e=>by simp at e;subst e;exact{_,Z,r}
 |_,_,i+1,x,.cons _ t,e=>by have #[u,d,c]:=aQ.get (i:=i) (x:=x) t (by simpa using e);exact{u,by simpa using d,c}
theorem aQ.append:∀ {b a:LV}{d c:zX},aQ b d->aQ a c->aQ (b++a) (d++c)
 |_,_,_,_,.nil,s=>s
 |_,_,_,_,.cons r t,s=>.cons r (aQ.append t s)
theorem aQ.take:∀ {a:LV}{b:zX}(n:Nat),aQ a b->aQ (a.take n) (b.take n)
 |_,_,0,_=>.nil
 |_,_,_+1,.nil=>.nil
 |_,_,n+1,.cons r t=>.cons r (aQ.take n t)
theorem aQ.drop:∀ {a:LV}{b:zX}(n:Nat),aQ a b->aQ (a.drop n) (b.drop n)
 |_,_,0,r=>r
 |_,_,_+1,.nil=>.nil
 |_,_,n+1,.cons _ t=>aQ.drop n t
def Ap:Option V->Option aq->Prop
 |some v,Y u=>aR v u
 |none,L=>True
 |_,_=>False
def KV{a:Type}:List (a×V)->List (a×aq)->Prop:=Bl λ(p:a×V)(q:a×aq)=>p.1=q.1/\aR p.2 q.2
def kV:Key->V
 |.inl i=>.int i
 |.inr x=>.str x
abbrev xO:=List Key
abbrev yd:=List (xO×V)
abbrev xB:=List (Key×V)
abbrev LSV:=List (Str×V)
inductive HO where
  |lst (xs:LV)
  |tup (xs:LV)
  |dK (aI:xB)|dT (aI:yd)
  |set (S:Int->Bool) (n:Nat)
  |ins (C dx:af) (fs:LSV)
  |own (x:af)
  |xd (fs:LSV)
  |met (f x:af)
  |rng (lo hi:Int)
  |frz (o:Obj) (u:HO)
  |tbl (ps:Array aq)
  |ext (φ:aw->Prop)
abbrev Hp:=af->Option HO
def upd(H:Hp)(a:af)(o:HO):Hp:=λb=>if b=a then Y o else H b
def zo{H:Hp} :upd H a o a=Y o:=by unfold upd;rw[ao rfl]
def zt{H:Hp}(h:b≠a):upd H a o b=H b:=by unfold upd;rw[ak h]
def Vc{H:Hp} :upd (upd H a o) a u=upd H a u:=by funext b;unfold upd;split <;> rfl
def zQ{H:Hp}(h:H a=Y o)(c:H b=Y u)(d:o≠u):a≠b:=by intro e;subst e;rw[h] at c;exact d (bU c)
def zB{H:Hp}(h:H a=Y o)(c:H b=L):a≠b:=by intro e;subst e;rw[h] at c;cases c
section
variable (P:au)(w:av)
def aU(H:Hp)(h:aw)(a:af):HO->Prop
 |.lst c=>c.length<=Bb/\∃(b:zX)(n:Nat),aQ c b/\h.get? a=Y { cls:=.type "list",data:=.seq b.toArray n }
 |.tup c=>c.length<=Bb/\∃b:zX,aQ c b/\IsTup h a b.toArray
 |.dK aI=>aI.length<=Bb/\(a==sysModules)=am/\∃e,KV aI e/\h.DictOf (yT P w) a e
 |.dT aI=>aI.length<=Bb/\(a==sysModules)=am/\∃c:List (xO×af×aq),
   Bl (λ(p:xO×V)(q:xO×af×aq)=>p.1=q.1/\H q.2.1=Y (.tup (p.1.map kV))/\aR p.2 q.2.2) aI c /\
   ∃o j k,h.get? a=Y o/\o.ExactDict/\o.data=.dict j k/\j.toList=c.map (entryOfKey (tupleKind (yT P w)))/\(c.map (·.1)).Nodup
 |.set S n=>h.SetOf (intKind P w) a S n
 |.ins C dx fs=>H dx=Y (.own a)/\fs.length<=1000/\dx≠a/\h.get? a=Y (gW C dx) /\
   ∃d,h.Ns1 dx d/\(∀f,Ap (fs.lookup f) (d f))/\tZ d (fs.map (·.1))
 |.own _=>∃o,h.get? a=Y o
 |.xd fs=>∃d,h.Ns1 a d/\∀f,Ap (fs.lookup f) (d f)
 |.rng lo hi=>∃t u v,h.get? a=Y { cls:=.type "range",data:=.fields #[.int lo t,.int hi u,.int 1 v] }
 |.frz o u=>h.get? a=Y o/\aU H h a u
 |.tbl ps=>h.get? a=Y { cls:=.none,data:=.fields ps }
 |.met f x=>h.get? a=Y (uu (.ref f) (.ref x))
 |.ext φ=>φ h/\(∃o,h.get? a=Y o)/\∀i g:aw,φ i->(∀o,i.get? a=Y o->g.get? a=Y o)->φ g
def AH(H:Hp)(h:aw):Prop:=∀a o,H a=Y o->aU P w H h a o
end
variable {P:au}{H H':Hp}{h h':aw}{a:af}
section
variable {w:av}{o:HO}
def aU.lt(x:aU P w H h a o):a<h.objs.size:=by
 cases o with
 |lst xs=>have #[_,_,_,_,e]:=x;exact bS e
 |tup xs=>have #[_,_,_,p]:=x;exact p.lt
 |dK aI=>have #[_,_,_,_,o,_,_,e,_]:=x;exact bS e
 |dT aI=>have #[_,_,_,_,o,_,_,e,_]:=x;exact bS e
 |set S n=>have #[o,_,_,_,e,_]:=x;exact bS e
 |ins C dx fs=>have #[_,_,_,e,_]:=x;exact bS e
 |own y=>have #[_,e]:=x;exact bS e
 |xd fs=>have #[_,#[_,_,_,e,_],_]:=x;exact bS e
 |rng lo hi=>have #[_,_,_,e]:=x;exact bS e
 |frz ob u=>have #[e,_]:=x;exact bS e
 |tbl ps=>exact bS (show h.get? a=Y _ from x)
 |met f y=>exact bS (show h.get? a=Y _ from x)
 |ext φ=>have #[_,#[_,e],_]:=x;exact bS e
theorem Paired.mapP{g e:Type}{F G:g->e->Prop}:∀ {d:List g}{c:List e},Bl F d c->(∀a b,F a b->G a b)->Bl G d c
 |_,_,.nil,_=>.nil
 |_,_,.cons r t,f=>.cons (f _ _ r) (Paired.mapP t f)
def aU.stay(x:aU P w H h a o)(k:∀b u,(b=a\/H b=Y (.own a))->h.get? b=Y u->h'.get? b=Y u)(J:∀b,H b=Y (.own a)->H' b=Y (.own a))(I:∀b m,H b=Y (.tup m)->H' b=Y (.tup m)):aU P w H' h' a o:=by
 induction o with
 |lst m=>have #[z,l,n,r,e]:=x;exact{z,l,n,r,k _ _ (.inl Z) e}
 |tup m=>have #[z,l,r,g,e,c]:=x;exact{z,l,r,g,k _ _ (.inl Z) e,c}
 |dK aI=>have #[z,y,E,r,g,i,j,e,c]:=x;exact{z,y,E,r,g,i,j,k _ _ (.inl Z) e,c}
 |dT aI=>
  have #[z,y,m,r,g,i,j,e,c]:=x;exact{z,y,m,Paired.mapP r λp q z=>{z.1,I _ _ z.2.1,z.2.2},g,i,j,k _ _ (.inl Z) e,c}
 |set S n=>have #[g,i,j,t,e,c]:=x;exact{g,i,j,t,k _ _ (.inl Z) e,c}
 |ins C dx fs=>
  have #[d,z,G,e,A,#[s,i,j,M,c],r]:=x;exact{J _ d,z,G,k _ _ (.inl Z) e,A,{s,i,j,k _ _ (.inr d) M,c},r}
 |own y=>have #[g,e]:=x;exact{g,k _ _ (.inl Z) e}
 |xd fs=>have #[A,#[s,i,j,e,c],r]:=x;exact{A,{s,i,j,k _ _ (.inl Z) e,c},r}
 |rng lo hi=>have #[t,u,v,e]:=x;exact{t,u,v,k _ _ (.inl Z) e}
 |frz g u ih=>have #[e,q]:=x;exact{k _ _ (.inl Z) e,ih q}
 |tbl ps=>
  have e:h.get? a=Y { cls:=.none,data:=.fields ps }:=x;show h'.get? a=Y { cls:=.none,data:=.fields ps };exact k a _ (.inl Z) e
 |met f y=>
  have e:h.get? a=Y (uu (.ref f) (.ref y)):=x;show h'.get? a=Y (uu (.ref f) (.ref y));exact k a _ (.inl Z) e
 |ext φ=>have #[p,#[o,e],D]:=x;exact{D _ _ p λo q=>k _ _ (.inl Z) q,{o,k _ _ (.inl Z) e},D}
def AH.lt(x:AH P w H h)(e:H a=Y o):a<h.objs.size:=(x a o e).lt
def AH.fresh(x:AH P w H h)(e:h.objs.size<=a):H a=L:=by
 cases q:H a with
 |none=>rfl
 |some u=>exact absurd (bH (x.lt q) e) (iF _)
def AH.kept(x:AH P w H h)(k:∀b u,h.get? b=Y u->h'.get? b=Y u):AH P w H h':=λa o e=>
 (x a o e).stay (λb u _ q=>k b u q) (λ_ q=>q) λ_ _ q=>q
def AH.laid(x:AH P w H h)(k:∀b u,h.get? b=Y u->h'.get? b=Y u)(g:h.objs.size<=a)(d:aU P w (upd H a o) h' a o):AH P w (upd H a o) h':=λb u e=>by
 have f:=x.fresh g;by_cases hb:b=a
 .subst hb;rw[zo] at e;cases e;exact d
 .rw[zt hb] at e;exact(x b u e).stay (λc v _ q=>k c v q) (λc q=>by rw[zt (zB q f)];exact q) λc i q=>by rw[zt (zB q f)];exact q
end
def Rd(H:Hp)(a:af)(u:HO):Prop:=H a=Y u\/∃o,H a=Y (.frz o u)
def Rd.ok{H:Hp}(r:Rd H a u)(x:AH P w H h):aU P w H h a u:=by
 obtain r|⟨o,r⟩:=r
 .exact x a u r
 .have #[_,q]:=x a _ r;exact q
def Mut:Option HO->Prop
 |some (.lst _)=>True
 |some (.dK _)=>True
 |some (.dT _)=>True
 |some (.set _ _)=>True
 |some (.ins _ _ _)=>True
 |some (.ext _)=>True
 |_=>False
variable {x:af}
section
variable {w:av}{e:af}{o':HO}
def AH.write(o:AH P w H h)(i:Mut (H x))(n:e=x\/H e=Y (.own x))(k:∀b u,b≠e->h.get? b=Y u->h'.get? b=Y u)(l:∃u,h'.get? e=Y u)(j:aU P w (upd H x o') h' x o'):AH P w (upd H x o') h':=λb u q=>by
 have d:∀c y,H c=Y (.own y)->c≠x:=λc y r z=>by subst z;rw[r] at i;exact i
 have f:∀c g,H c=Y (.tup g)->c≠x:=λc g r z=>by subst z;rw[r] at i;exact i
 by_cases hb:b=x
 .subst hb;rw[zo] at q;cases q;exact j
 .rw[zt hb] at q;by_cases hbe:b=e
  .have m:H b=Y (.own x):=by
    obtain z|z:=n
    .exact absurd (hbe.trans z) hb
    .rw[hbe];exact z
   rw[q] at m;cases m;have #[v,p]:=l;exact{v,by rw[hbe];exact p}
  .refine(o b u q).stay (λc v hc r=>k c v ?_ r) (λc r=>by rw[zt (d c b r)];exact r) λc g r=>by rw[zt (f c g r)];exact r
   obtain rfl|hc:=hc
   .exact hbe
   .rintro rfl;obtain z|z:=n
    .exact d c b hc z
    .rw[hc] at z;cases z;exact hb rfl
end
structure Un(fs ex:List af)(H H':Hp)(h h':aw):Prop where
 keep:∀b o,h.get? b=Y o->H b=L->b ∉ fs->b ∉ ex->h'.get? b=Y o
 slot:∀b o,h.get? b=Y o->H b=L->b∈fs->b ∉ ex->∃sl,h'.get? b=Y { o with slots:=sl }
 free:∀b o,h.get? b=Y o->H b=L->b ∉ ex->H' b=L
 there:∀b o,h.get? b=Y o->b ∉ ex->∃o',h'.get? b=Y o'
 tups:∀b xs,H b=Y (.tup xs)->H' b=Y (.tup xs)
 frzs:∀b o u,H b=Y (.frz o u)->H' b=Y (.frz o u)
 tbls:∀b ps,H b=Y (.tbl ps)->∃more,H' b=Y (.tbl (ps++more))
section
variable {fs fs' ex ex':List af}{H1 H2:Hp}{h1 h2:aw}{e:af}{o:HO}
def Un.any(u:Un fs ex H H1 h h1)(q:h.get? b=Y ob)(n:H b=L)(c:b ∉ ex):∃sl,h1.get? b=Y { ob with slots:=sl }:=by
 by_cases hb:b∈fs
 .exact u.slot b ob q n hb c
 .exact{ob.slots,u.keep b ob q n hb c}
theorem Un.kept(k:∀b u,h.get? b=Y u->h'.get? b=Y u):Un fs ex H H h h':=
 {λb c q _ _ _=>k b c q,λb c q _ _ _=>{c.slots,k b c q},λ_ _ _ n _=>n,λb c q _=>{c,k b c q},λ_ _ q=>q,λ_ _ _ q=>q,λ_ ps q=>{#[],by rw[q];simp}}
def Un.refl:Un fs ex H H h h:=Un.kept λ_ _ q=>q
theorem Un.laid(k:∀b u,h.get? b=Y u->h'.get? b=Y u)(d:h.objs.size<=a)(c:H a=L):Un fs ex H (upd H a o) h h' where
 keep:=λb u q _ _ _=>k b u q
 slot:=λb u q _ _ _=>{u.slots,k b u q}
 free:=λb u q n _=>by rw[zt (b8 (bH (bS q) d))];exact n
 there:=λb u q _=>{u,k b u q}
 tups:=λb xs q=>by rw[zt (zB q c)];exact q
 frzs:=λb u xs q=>by rw[zt (zB q c)];exact q
 tbls:=λb ps q=>{#[],by rw[zt (zB q c),q];simp}
theorem Un.write(c:Mut (H x))(l:e=x\/H e=Y (.own x))(k:∀b u,b≠e->h.get? b=Y u->h'.get? b=Y u)(f:∃u,h'.get? e=Y u):Un fs ex H (upd H x o) h h':=by
 have g:∀b,H b=L->b≠x:=λb n z=>by subst z;rw[n] at c;exact c
 have i:∀b,H b=L->b≠e:=λb n z=>by
  subst z;obtain r|r:=l
  .exact g b n r
  .rw[n] at r;cases r
 have d:∀b u,H b=Y u->¬ Mut (Y u)->b≠x:=λb u q j z=>by subst z;rw[q] at c;exact j c
 refine{λb u q n _ _=>k b u (i b n) q,λb u q n _ _=>{u.slots,k b u (i b n) q},λb u q n _=>by rw[zt (g b n)];exact n,λb u q _=>?_,
  λb xs q=>by rw[zt (d b _ q λz=>z)];exact q,λb u xs q=>by rw[zt (d b _ q λz=>z)];exact q,λb ps q=>{#[],by rw[zt (d b _ q λz=>z),q];simp}}
 by_cases hbe:b=e
 .subst hbe;exact f
 .exact{u,k b u hbe q}
end
def trk(h:aw)(H:Hp):List af:=(e9 h.objs.size).filter λa=>(H a).isSome
def QA(h:aw)(H:Hp):aw:=nJ h (trk h H)
def zed(h:aw)(H:Hp):(QA h H).objs.size=h.objs.size:=W.hideAll_size _ _
theorem zfa{H:Hp}(e:h.get? b=Y o)(n:H b=L):(QA h H).get? b=Y o:=
 pq _ e λc=>by have q:(H b).isSome=U:=(cC.mp c).2;rw[n] at q;simp at q
theorem zhq{H:Hp}(e:(QA h H).get? b=Y o):h.get? b=Y o/\H b=L:=by
 have c:h.get? b=Y o:=rA (trk h H) e;refine{c,?_};cases q:H b with
 |none=>rfl
 |some x=>
  have d:b∈trk h H:=cC.mpr {List.mem_range.mpr (bS c),by simp[q]};have z:(QA h H).get? b=L:=mD (trk h H) d;rw[z] at e;cases e
abbrev Af:=List (af×Obj)
def zhr(g h:aw)(b:af):Af:=(e9 h.objs.size).filterMap λa=>if a=b\/(g.get? a).isSome=U then L else (h.get? a).map λo=>(a,o)
def rest(g h:aw)(b d:af):Af:=(zhr g h b).filter λp=>decide (p.1≠d)
abbrev AG:=Str->Option aq
structure Mod(K:bL)(mg:AG)(base:aw):Prop where
 kin:K.In base
 glob:base.Ns Bd mg
 blt:∃mb,base.Ns builtinsNs mb/\∀x:Str,x≠"__name__"->mb x=Bh x
 nolimit:base.NoLimit
abbrev yu:=List Str
abbrev Aa:=aq->ap->Prop
abbrev LEv:=List Env
set_option genSizeOf false in
set_option genInjectivity false in
structure Cx where
 p:au
 w:av
 K:bL
 mg:AG
 M:aw
 A:aA
 N:yu
 s₀:ap
 H₀:Hp
 e:Env
 J:LEv
 k:LEv
 ex:List af
 fn:Str->Bool
 c:Bool
 pn:Af
 xe:Aa
def Ax(l:LEv):List af:=l.filterMap (·.frame)
abbrev Cx.fs(X:Cx):List af:=Ax X.J
def Vis(b:aB)(x:Str):Prop:=b.names.lookup x=Y .local\/b.names.lookup x=Y .cell\/b.names.lookup x=Y .free
def Loc(b:aB)(x:Str):Prop:=b.names.lookup x=Y .local\/b.names.lookup x=Y .cell
def zlo(b:Env)(h:aw)(m:AG)(x:Str)(u:aq):Prop:=
 (b.kindOf x=Y .local/\m x=Y u)\/((b.kindOf x=Y .cell\/b.kindOf x=Y .free)/\∃c,b.cells.lookup x=Y c/\h.IsCell c (Y u))
structure Cx.Ok(X:Cx):Prop where
 mod:Mod X.K X.mg X.M
 kind:X.e.scope.kind=.function
 glob:X.e.globals=Bd
 blt:X.e.builtins=builtinsNs
 above:X.s₀.heap.objs.size<=X.e.locals
 inj:∀x y c,X.e.cells.lookup x=Y c->X.e.cells.lookup y=Y c->x=y
 has:∀x,(X.e.kindOf x=Y .cell\/X.e.kindOf x=Y .free)->∃c,X.e.cells.lookup x=Y c
 cab:∀x c,X.fn x=U->X.e.cells.lookup x=Y c->X.s₀.heap.objs.size<=c
 hd:X.c=U->X.A.handled=L
 frames:X.A.frames=Y X.k
 stk:X.k=X.J\/(X.k=X.e::X.J/\X.e.frame=Y X.e.locals)
 exf:∀b∈X.ex,b≠X.e.locals/\∀x c,X.e.cells.lookup x=Y c->c≠b
 bs:∀b o,X.M.get? b=Y o->X.s₀.heap.get? b=Y o/\X.H₀ b=L
 bsz:X.M.objs.size<=X.s₀.heap.objs.size
 noex:∀b o,X.M.get? b=Y o->b ∉ X.ex
 exfs:∀b∈X.ex,b ∉ X.fs
 funs:X.s₀.heap.FunFrames X.M X.J
 frf:∀b∈X.fs,X.H₀ b=L
structure aL(X:Cx)(aa:Af)(σ:List (Option V))(H:Hp)(s:ap):Prop where
 ok:X.Ok
 os:s.os=X.s₀.os
 bare:AllBare s.gens
 base:Un X.fs X.ex X.H₀ H X.s₀.heap s.heap
 loc:∃m,s.heap.Ns X.e.locals m/\∀(i:Nat)(x:Str)(v:V),X.N[i]?=Y x->σ[i]?=Y (Y v)->Vis X.e.scope x->∃u,aR v u/\zlo X.e s.heap m x u
 cell:∀x c,X.e.cells.lookup x=Y c->∃v,s.heap.IsCell c v
 free:H X.e.locals=L
 freeC:∀x c,X.e.cells.lookup x=Y c->H c=L
 pin:∀p∈X.pn++aa,s.heap.get? p.1=Y p.2/\H p.1=L/\p.1≠X.e.locals/\p.1 ∉ X.fs/\∀v,p.2.data≠.cell v
 hok:AH X.p X.w H s.heap
 len:σ.length=X.N.length
variable {X:Cx}{aa:Af}{s:ap}
section
variable {σ:List (Option V)}
def Cx.Ok.nofr(d:X.Ok)(e:X.M.get? b=Y o):b ∉ X.fs:=λf=>by have:=(d.funs.mem f).1;rw[e] at this;cases this
def aL.bs(I:aL X aa σ H s):∀b o,X.M.get? b=Y o->s.heap.get? b=Y o/\H b=L:=λb o e=>
 {I.base.keep b o (I.ok.bs b o e).1 (I.ok.bs b o e).2 (I.ok.nofr e) (I.ok.noex b o e),I.base.free b o (I.ok.bs b o e).1 (I.ok.bs b o e).2 (I.ok.noex b o e)}
def aL.bk(I:aL X aa σ H s):∀b o,X.M.get? b=Y o->s.heap.get? b=Y o:=λb o e=>(I.bs b o e).1
def aL.mod(I:aL X aa σ H s):Mod X.K X.mg X.M:=I.ok.mod
def aL.kIn(I:aL X aa σ H s):X.K.In s.heap:=I.ok.mod.kin.keeps I.bk
def aL.lt(I:aL X aa σ H s):X.e.locals<s.heap.objs.size:=let ⟨_,hn,_⟩:=I.loc;hn.lt
def aL.sz(I:aL X aa σ H s):X.s₀.heap.objs.size<=s.heap.objs.size:=bI I.ok.above (cS I.lt)
def aL.nofs(I:aL X aa σ H s)(h:s.heap.objs.size<=a):a ∉ X.fs:=λd=>by have #[_,o,b,_]:=I.ok.funs.mem d;exact absurd (bH (bS b) (bI I.sz h)) (iF _)
def aL.cne(I:aL X aa σ H s):∀x c,X.e.cells.lookup x=Y c->c≠X.e.locals:=λx c e z=>by have #[v,o,f,g]:=I.cell x c e;have #[m,#[j,k,l,b,d,_],_]:=I.loc;rw[z,b] at f;cases f;rw[d] at g;cases g
def aL.funs(I:aL X aa σ H s):s.heap.FunFrames X.M X.J:=by
 have k:∀(l:LEv),(∀b∈Ax l,b∈X.fs)->X.s₀.heap.FunFrames X.M l->s.heap.FunFrames X.M l:=by
  intro l;induction l with
  |nil=>intro _ _;trivial
  |cons env r ih=>
   intro n A;have #[C,#[d,o,f,y,t,D],q]:=A;have j:d∈X.fs:=n d (by unfold Ax;rw[nK,f];exact bw);have #[E,e]:=I.base.slot d o t (I.ok.frf d j) j λz=>I.ok.exfs d z j;exact{C,{d,_,f,y,e,D},ih (λb g=>n b (by unfold Ax;rw[nK,f];exact bt _ g)) q}
 exact k X.J (λ_ g=>g) I.ok.funs
def aL.stack(I:aL X aa σ H s):s.heap.FunFrames X.M X.k:=by
 obtain e|⟨e,hf⟩:=I.ok.stk
 .rw[e];exact I.funs
 .rw[e];have #[m,b,_]:=I.loc;refine .cons (by rw[I.ok.kind];decide) hf b ?_ I.funs;exact Heap.get?_none_of_le (bI I.ok.bsz I.ok.above)
def aL.stkSub(I:aL X aa σ H s):∀b∈Ax X.k,b∈X.e.locals::X.fs:=λb d=>by
 obtain e|⟨e,hf⟩:=I.ok.stk
 .rw[e] at d;exact bt _ d
 .rw[e] at d;unfold Ax at d;rw[nK,hf] at d;exact d
def aL.stkFree(I:aL X aa σ H s):∀b∈Ax X.k,H b=L:=λb hb=>by
 obtain e|hb:=bC.mp (I.stkSub b hb)
 .rw[e];exact I.free
 .have #[_,o,d,_]:=I.ok.funs.mem hb;exact I.base.free b o d (I.ok.frf b hb) λz=>I.ok.exfs b z hb
def aL.step{t':Nat}{d':Drawn}{ch:List af}(I:aL X aa σ H s)(t:∀b∈ch,(b∈X.ex\/X.s₀.heap.objs.size<=b)/\b≠X.e.locals/\(∀x c,X.e.cells.lookup x=Y c->c≠b)/\∀p∈X.pn++aa,p.1≠b)(j:∀b o,b≠X.e.locals->b ∉ X.fs->b ∉ ch->s.heap.get? b=Y o->H b=L->h'.get? b=Y o)(E:∀b o,b≠X.e.locals->b∈X.fs->b ∉ ch->s.heap.get? b=Y o->H b=L->∃sl,h'.get? b=Y { o with slots:=sl })(free:∀b o,b ∉ ch->s.heap.get? b=Y o->H b=L->H' b=L)(G:∀b o,b ∉ ch->s.heap.get? b=Y o->∃T,h'.get? b=Y T)(O:∀b D,H b=Y (.tup D)->H' b=Y (.tup D))(ai:∀b o u,H b=Y (.frz o u)->H' b=Y (.frz o u))(Q:∀b ps,H b=Y (.tbl ps)->∃ag,H' b=Y (.tbl (ps++ag)))(ns:∀m,s.heap.Ns X.e.locals m->h'.Ns X.e.locals m)(hok:AH X.p X.w H' h')(hg:AllBare g') :
  aL X aa σ H' { s with heap:=h',gens:=g',drawn:=d',toks:=t' }:=by
 have ac:∀b o,X.s₀.heap.get? b=Y o->b≠X.e.locals:=λb o e=>b8 (bH (bS e) I.ok.above);have A:∀b o,X.s₀.heap.get? b=Y o->b ∉ X.ex->b ∉ ch:=λb o e f J=>by
  rcases(t b J).1 with z|z
  .exact f z
  .exact absurd (bH (bS e) z) (iF _)
 have y:∀x c,X.e.cells.lookup x=Y c->∀v,s.heap.IsCell c v->h'.IsCell c v:=λx c e v ⟨o,M,hd⟩=>by
  have g:c ∉ ch:=λz=>(t c z).2.2.1 x c e rfl;by_cases hc:c∈X.fs
  .have #[sl,q]:=E c o (I.cne x c e) hc g M (I.freeC x c e);exact{_,q,hd}
  .exact{o,j c o (I.cne x c e) hc g M (I.freeC x c e),hd}
 refine{I.ok,I.os,hg,{λb o e n J f=>?_,λb o e n J f=>?_,λb o e n f=>?_,λb o e f=>?_,λb D e=>O b D (I.base.tups b D e),λb o D e=>ai b o D (I.base.frzs b o D e),λb ps e=>?_},?_,λx c e=>?_,?_,λx c e=>?_,λp hp=>?_,hok,I.len}
 .exact j b o (ac b o e) J (A b o e f) (I.base.keep b o e n J f) (I.base.free b o e n f)
 .have #[sl,C]:=I.base.slot b o e n J f;have #[aj,e2]:=E b _ (ac b o e) J (A b o e f) C (I.base.free b o e n f);exact{aj,e2}
 .have #[T,C]:=I.base.there b o e f;exact free b T (A b o e f) C (I.base.free b o e n f)
 .have #[T,C]:=I.base.there b o e f;exact G b T (A b o e f) C
 .have #[m1,C]:=I.base.tbls b ps e;have #[m2,e2]:=Q b _ C;exact{m1++m2,by rw[e2,Array.append_assoc]}
 .have #[m,hn,hl]:=I.loc;refine{m,ns m hn,λi x v C e2 e3=>?_};have #[u,r,l]:=hl i x v C e2 e3;refine{u,r,?_};obtain l|⟨k,c,e,z⟩:=l
  .exact .inl l
  .exact .inr {k,c,e,y x c e _ z}
 .have #[v,z]:=I.cell x c e;exact{v,y x c e v z}
 .have #[m,#[o,_,_,M,_],_]:=I.loc;exact free _ o (λz=>(t _ z).2.1 Z) M I.free
 .have #[v,o,M,hd]:=I.cell x c e;exact free c o (λz=>(t c z).2.2.1 x c e Z) M (I.freeC x c e)
 .have #[e,n,ne,nf,d]:=I.pin p hp;have g:p.1 ∉ ch:=λz=>(t p.1 z).2.2.2 p hp rfl;exact{j p.1 p.2 ne nf g e n,free p.1 p.2 g e n,ne,nf,d}
theorem aL.un(I:aL X aa σ H s)(u:Un X.fs [] H H' s.heap h')(hok:AH X.p X.w H' h'):aL X aa σ H' { s with heap:=h',toks:=t' }:=by
 have #[m,#[o,C,D,k,r],_]:=id I.loc;have #[y,t]:=u.any k I.free (by simp);exact I.step (g':=s.gens) (d':=s.drawn) (ch:=[]) () (λb o _ f _ e n=>u.keep b o e n f (by simp)) (λb o _ f _ e n=>u.slot b o e n f (by simp)) (λb o _ e n=>u.free b o e n (by simp)) (λb o _ e=>u.there b o e (by simp)) u.tups u.frzs u.tbls (λA q=>by have #[z,g,j,d,l]:=q;rw[k] at d;cases d;exact{_,g,j,t,l}) hok I.bare
def aL.call(I:aL X aa σ H s)(u:Un (Ax X.k) ch H H' s.heap h')(hok:AH X.p X.w H' h')(A:AllBare g')(g:∀b∈ch,(b∈X.ex\/X.s₀.heap.objs.size<=b)/\b≠X.e.locals/\(∀x c,X.e.cells.lookup x=Y c->c≠b)/\∀p∈X.pn++aa,p.1≠b) :
  aL X aa σ H' { s with heap:=h',gens:=g',drawn:=d',toks:=t' }:=by
 have #[m,#[o,J,M,q,r],_]:=id I.loc;have #[D,j]:=u.any q I.free λz=>(g _ z).2.1 rfl;exact I.step (ch:=ch) g (λb o j C d e n=>u.keep b o e n (λz=>(bC.mp (I.stkSub b z)).elim j C) d) (λb o _ _ d e n=>u.any e n d) (λb o d e n=>u.free b o e n d) (λb o d e=>u.there b o e d) u.tups u.frzs u.tbls (λG y=>by have #[E,k,l,f,t]:=y;rw[q] at f;cases f;exact{_,k,l,j,t}) hok A
theorem aL.turned(I:aL X aa σ H s)(k:∀b o,b≠it->s.heap.get? b=Y o->h'.get? b=Y o)(l:H it=L)(g:it≠X.e.locals)(D:it∈X.ex\/X.s₀.heap.objs.size<=it)(C:∀x c,X.e.cells.lookup x=Y c->c≠it)(A:∀p∈X.pn++aa,p.1≠it):aL X aa σ H { s with heap:=h',toks:=t' }:=by
 have f:∀b u,H b=Y u->b≠it:=λb u e z=>by rw[z,l] at e;cases e
 refine I.step (g':=s.gens) (d':=s.drawn) (ch:=[it]) (λb y=>?_) (λb o _ _ d e _=>k b o (λz=>d (by simp[z])) e) (λb o _ _ d e _=>{o.slots,k b o (λz=>d (by simp[z])) e}) (λ_ _ _ _ n=>n)
  (λb o d e=>{o,k b o (λz=>d (by simp[z])) e}) (λ_ _ e=>e) (λ_ _ _ e=>e) (λb J e=>{#[],by rw[e];simp}) (λm t=>?_) (λb u e=>?_) I.bare
 .have e:b=it:=by simpa using y
  subst e;exact{D,g,C,A}
 .have #[o,E,G,j,r]:=t;exact{o,E,G,k _ o (eC g) j,r}
 .refine(I.hok b u e).stay (λc v d q=>k c v ?_ q) (λ_ q=>q) λ_ _ q=>q;obtain z|z:=d
  .rw[z];exact f b u e
  .exact f c _ z
def aL.tok(I:aL X aa σ H s)(t:Nat):aL X aa σ H { s with toks:=t }:=I.un (h':=s.heap) (t':=t) Un.refl I.hok
def aL.kept(I:aL X aa σ H s)(k:∀b u,s.heap.get? b=Y u->h'.get? b=Y u):aL X aa σ H { s with heap:=h',toks:=t' }:=I.un (Un.kept k) (I.hok.kept k)
def aL.laid(I:aL X aa σ H s)(k:∀b u,s.heap.get? b=Y u->h'.get? b=Y u)(e:s.heap.objs.size<=a)(d:aU X.p X.w (upd H a o) h' a o) :
  aL X aa σ (upd H a o) { s with heap:=h',toks:=t' }:=I.un (Un.laid k e (I.hok.fresh e)) (I.hok.laid k e d)
def aL.write(I:aL X aa σ H s)(g:Mut (H x))(j:e=x\/H e=Y (.own x))(k:∀b u,b≠e->s.heap.get? b=Y u->h'.get? b=Y u)(d:∃u,h'.get? e=Y u)(f:aU X.p X.w (upd H x o) h' x o):aL X aa σ (upd H x o) { s with heap:=h',toks:=t' }:=I.un (Un.write g j k d) (I.hok.write g j k d f)
def aL.pins_of(I:aL X aa σ H s)(h:∀p∈pins',s.heap.get? p.1=Y p.2/\H p.1=L/\p.1≠X.e.locals/\p.1 ∉ X.fs/\∀v,p.2.data≠.cell v):aL X pins' σ H s:=
 {I.ok,I.os,I.bare,I.base,I.loc,I.cell,I.free,I.freeC,λp b=>(bp.mp b).elim (λz=>I.pin p (cz _ z)) (h p),I.hok,I.len}
def zaH{N:yu}(c:N.Nodup){i j:Nat}{x:Str}(a:N[i]?=Y x)(b:N[j]?=Y x):i=j:=by have #[g,e]:=bd.mp a;have #[f,d]:=bd.mp b;exact(mV c).mp (e.trans d.symm)
theorem KI{M:Model}{E:Aa}{i:Nat}{x:Str}{Q:Unit->ap->Prop}(I:aL X aa σ H s)(hN:X.N.Nodup)(hi:X.N[i]?=Y x)(t:Loc X.e.scope x)(r:aR v u)(h:∀s',aL X aa (σ.set i (Y v)) H s'->(∃a,de a s.heap s'.heap/\(a=X.e.locals\/X.e.cells.lookup x=Y a))->Q PUnit.unit s')(hf:X.fn x=U\/X.e.scope.names.lookup x=Y .local:=by first|exact .inl rfl|exact .inr rfl|assumption):Bf M A (storeName X.e x u) Q E s:=by
 have #[m,hn,hl]:=id I.loc;have ac:(X.e.scope.kind==.class || (X.e.scope.kind==.module&&X.e.locals != X.e.globals))=am:=by rw[I.ok.kind];rfl
 have D:i<σ.length:=by rw[I.len];exact(bd.mp hi).1
 have N:=I.cne;have g:∀ {a:af}{h':aw},(∃o,s.heap.get? a=Y o/\H a=L)->de a s.heap h'->AH X.p X.w H h':=λ{a h'} ha f b ob e=>by
  have #[_,_,w]:=ha;refine(I.hok b ob e).stay (λc w' hc q=>(f.2 c ?_).trans q) (λ_ q=>q) λ_ _ q=>q;rintro rfl;obtain rfl|hc:=hc
  .rw[w] at e;cases e
  .rw[w] at hc;cases hc
 obtain hk|hk:=t
 .refine wpAny_storeName_local hk hn (λh' aj f=>?_) ac;have #[oL,_,_,ai,_]:=id hn;refine h _ {I.ok,I.os,I.bare,{λb o e n J t=>?_,λb o e n J t=>?_,I.base.free,λb o e t=>?_,I.base.tups,I.base.frzs,I.base.tbls},{_,aj,λj y v' l C e3=>?_},λy c e=>?_,I.free,I.freeC,λp hp=>?_,g {oL,ai,I.free} f,by simpa using I.len} {_,f,.inl Z}
  .exact(f.2 b (b8 (bH (bS e) I.ok.above))).trans (I.base.keep b o e n J t)
  .have #[sl,l]:=I.base.slot b o e n J t;exact{sl,(f.2 b (b8 (bH (bS e) I.ok.above))).trans l}
  .have #[o',l]:=I.base.there b o e t;exact{o',(f.2 b (b8 (bH (bS e) I.ok.above))).trans l}
  .by_cases hj:j=i
   .subst hj;rw[hi] at l;cases l;rw[pX D] at C;cases C;exact{u,r,.inl {hk,by simp}}
   .rw[rY (eC hj)] at C;have #[u',r',q]:=hl j y v' l C e3;refine{u',r',?_};obtain ⟨k,e⟩|⟨k,c,e,z⟩:=q
    .refine .inl {k,?_};have:y≠x:=λe=>hj (zaH hN l (e ▸ hi));simp[this,e]
    .exact .inr {k,c,e,z.sameBut f (N y c e)}
  .have #[w',z]:=I.cell y c e;exact{w',z.sameBut f (N y c e)}
  .have #[e,n,ne,nf,d]:=I.pin p hp;exact{(f.2 p.1 ne).trans e,n,ne,nf,d}
 .have G:X.fn x=U:=by
   obtain z|z:=hf
   .exact z
   .rw[z] at hk;cases hk
  have #[c,hc]:=I.ok.has x (.inl hk);have #[w',z]:=I.cell x c hc;refine wpAny_storeName_cell I.ok.kind hk hc z (λh' ag f=>?_);have #[oc,T,O]:=id z;refine h { s with heap:=h' } {I.ok,I.os,I.bare,{λb o e n J t=>?_,λb o e n J t=>?_,I.base.free,λb o e t=>?_,I.base.tups,I.base.frzs,I.base.tbls},{m,hn.sameBut f (eC (N x c hc)),λj y v' l C e3=>?_},λy c' e=>?_,I.free,I.freeC,λp hp=>?_,g {oc,T,I.freeC x c hc} f,by simpa using I.len} {c,f,.inr hc}
  .exact(f.2 b (b8 (bH (bS e) (I.ok.cab x c G hc)))).trans (I.base.keep b o e n J t)
  .have #[sl,l]:=I.base.slot b o e n J t;exact{sl,(f.2 b (b8 (bH (bS e) (I.ok.cab x c G hc)))).trans l}
  .have #[o',l]:=I.base.there b o e t;exact{o',(f.2 b (b8 (bH (bS e) (I.ok.cab x c G hc)))).trans l}
  .by_cases hj:j=i
   .subst hj;rw[hi] at l;cases l;rw[pX D] at C;cases C;exact{u,r,.inr {.inl hk,c,hc,ag}}
   .rw[rY (eC hj)] at C;have #[u',r',q]:=hl j y v' l C e3;refine{u',r',?_};obtain q|⟨k,c',e,z'⟩:=q
    .exact .inl q
    .refine .inr {k,c',e,z'.sameBut f ?_};rintro rfl;exact hj (zaH hN l (I.ok.inj _ _ _ e hc ▸ hi))
  .by_cases hcc:c'=c
   .subst hcc;exact{_,ag}
   .have #[w2,z2]:=I.cell y c' e;exact{w2,z2.sameBut f hcc}
  .have #[e,n,ne,nf,d]:=I.pin p hp;refine{(f.2 p.1 ?_).trans e,n,ne,nf,d};intro q;rw[q,T] at e;have q':oc=p.2:=bU e;exact d w' (by rw[<-q'];exact O)
def YV{M:Model}{E:Aa}{i:Nat}{x:Str}{Q:Unit->ap->Prop}(I:aL X aa σ H s)(f:X.N.Nodup)(d:X.N[i]?=Y x)(c:Loc X.e.scope x)(r:aR v u)(h:∀b,aL X aa (σ.set i (Y v)) H b->Q PUnit.unit b)(e:X.fn x=U\/X.e.scope.names.lookup x=Y .local:=by first|exact .inl rfl|exact .inr rfl|assumption):Bf M A (storeName X.e x u) Q E s:=
 KI I f d c r (λb g _=>h b g) e
def aL.call'(I:aL X aa σ H s)(g:s'.os=s.os)(u:Un (Ax X.k) ch H H' s.heap s'.heap)(hok:AH X.p X.w H' s'.heap)(j:AllBare s'.gens)(d:∀b∈ch,(b∈X.ex\/X.s₀.heap.objs.size<=b)/\b≠X.e.locals/\(∀x c,X.e.cells.lookup x=Y c->c≠b)/\∀p∈X.pn++aa,p.1≠b):aL X aa σ H' s':=by have #[h',g',d',t',f]:=s';have e:f=s.os:=g;subst e;exact I.call (g':=g') (t':=t') (d':=d') u hok j d
end
abbrev XK:=aq->Option af->Hp->Prop
abbrev St:=List (Option V)
abbrev VK:=V->Hp->Prop
abbrev TE:=St->Hp->VK->Prop
abbrev TT:=St->Hp->(Bool->Hp->Prop)->Prop
abbrev TA:=St->Hp->(LV->Hp->Prop)->Prop
abbrev At:=St->Hp->Prop
set_option genSizeOf false in
set_option genInjectivity false in
structure Vt where
 nx:At
 rt:VK
 bk:At:=λ_ _=>False
 ct:At:=λ_ _=>False
abbrev TS:=Vt->At
inductive EP(X:Cx)(aa:Af)(σ:St)(Q:VK)(u:aq)(s':ap):Prop
 |mk (v H':_):aL X aa σ H' s'->aR v u->Q v H'->EP X aa σ Q u s'
def TP(X:Cx)(aa:Af)(c:St)(Q:Bool->Hp->Prop)(b:Bool)(d:ap):Prop:=∃H',aL X aa c H' d/\Q b H'
inductive AP(X:Cx)(aa:Af)(σ:St)(Q:LV->Hp->Prop)(us:zX)(s':ap):Prop
 |mk (vs H':_):aL X aa σ H' s'->aQ vs us->Q vs H'->AP X aa σ Q us s'
inductive IvP(X:Cx)(aa:Af)(N:At)(s':ap):Prop
 |mk (σ' H':_):aL X aa σ' H' s'->N σ' H'->IvP X aa N s'
inductive RtP(X:Cx)(aa:Af)(R:VK)(u:aq)(s':ap):Prop
 |mk (v σ' H':_):aL X aa σ' H' s'->aR v u->R v H'->RtP X aa R u s'
def SP(X:Cx)(aa:Af)(D:Vt)(f:Flow)(b:ap):Prop:=
 match f with
 |.next=>IvP X aa D.nx b
 |.brk=>IvP X aa D.bk b
 |.cont=>IvP X aa D.ct b
 |.ret u=>RtP X aa D.rt u b
def PE(X:Cx)(e:ay)(t:TE):Prop:=
 ∀(aa:Af)(s:ap)(b:St)(H:Hp)(Q:VK),aL X aa b H s->t b H Q->Bf (Bg X.p X.w) X.A (eval e X.e) (EP X aa b Q) X.xe s
def PT(X:Cx)(e:ay)(t:TT):Prop:=
 ∀(aa:Af)(s:ap)(b:St)(H:Hp)(Q:Bool->Hp->Prop),aL X aa b H s->t b H Q->Bf (Bg X.p X.w) X.A (isTrue e X.e (eval e X.e)) (TP X aa b Q) X.xe s
def PW(X:Cx)(e:ay)(t:TT):Prop:=
 ∀(b:Sem aq)(aa:Af)(s:ap)(c:St)(H:Hp)(Q:Bool->Hp->Prop),aL X aa c H s->t c H Q->Bf (Bg X.p X.w) X.A (isTrue e X.e b) (TP X aa c Q) X.xe s
def PW.pt(h:PW X e t):PT X e t:=h _
def PA(X:Cx)(d:List ay)(t:TA):Prop:=
 ∀(c:Pos)(aa:Af)(s:ap)(b:St)(H:Hp)(Q:LV->Hp->Prop),aL X aa b H s->t b H Q->Bf (Bg X.p X.w) X.A (spliced (backTo c (Be d X.e))) (AP X aa b Q) X.xe s
def PS(X:Cx)(st:ax)(t:TS):Prop:=
 ∀(aa:Af)(s:ap)(b:St)(H:Hp)(D:Vt),aL X aa b H s->t D b H->Bf (Bg X.p X.w) X.A (exec st X.e) (SP X aa D) X.xe s
def PSs(X:Cx)(st:List ax)(t:TS):Prop:=
 ∀(aa:Af)(s:ap)(b:St)(H:Hp)(D:Vt),aL X aa b H s->t D b H->Bf (Bg X.p X.w) X.A (execs st X.e) (SP X aa D) X.xe s
def aX{b:Type}{t:Sem b}{Q c:b->ap->Prop}{M:Model}{E:Aa}(h:Bf M A t Q E s)(d:∀a s,Q a s->c a s):Bf M A t c E s:=eL h d λ_ _ x=>x
variable {b:ay}{ta tb:TE}{pos:Pos}
section
inductive zk(i:Nat)(σ:St)(H:Hp)(Q:VK):Prop
 |mk (v:_):σ[i]?=Y (Y v)->Q v H->zk i σ H Q
def tC(v:V):TE:=λ_ H Q=>Q v H
def zjh{x:Str}{pos:Pos}(o:X.N[i]?=Y x)(j:Vis X.e.scope x)(d:Bq x:=by lia)(f:(x==("__classdict__":Str))=am:=by lia):PE X (.Name x pos) (zk i):=by
 intro aa s g H Q I h;have #[v,e,h]:=h;have #[m,k,n]:=I.loc;have #[u,r,l]:=n i x v o e j;have fin:EP X aa g Q u s:={v,H,I,r,h};obtain ⟨hk,hm⟩|⟨hk,c,hc,hcell⟩:=l
 .exact wpAny_Name (rZ I.ok.kind hk k hm fin) d
 .obtain hk|hk:=hk
  .exact wpAny_Name (wpAny_loadName_cell I.ok.kind hk hc hcell fin) d
  .exact wpAny_Name (wpAny_loadName_free I.ok.kind hk hc hcell fin f) d
def zi{i j pos}:PE X (.Constant (.int i) j pos) (tC (.int i)):=λ_ _ _ H _ I h=>wpAny_Constant_int {.int i,H,I.tok _,{_,Z},h}
def wX{b j pos}:PE X (.Constant (.bool b) j pos) (tC (.bl b)):=λ_ _ _ H _ I h=>Constant_bool {.bl b,H,I,Z,h}
def x4{j pos}:PE X (.Constant .none j pos) (tC .non):=λ_ _ _ H _ I h=>Constant_none {.non,H,I,Z,h}
def zO{x j pos}:PE X (.Constant (.str x) j pos) (tC (.str x)):=λ_ _ _ H _ I h=>sW {.str x,H,I.tok _,{_,Z},h}
def Gl(X:Cx)(x:Str):Prop:=X.e.kindOf x=Y .globalImplicit
def vL{E:Aa}{aa:Af}{s:ap}{c:St}{H:Hp}{x:Str}{u:aq}{pos:Pos}{Q:Aa}(I:aL X aa c H s)(e:Gl X x)(d:X.mg x=Y u)(h:Q u s)(f:Bq x:=by lia):Bf (Bg X.p X.w) X.A (eval (.Name x pos) X.e) Q E s:=
 om I.ok.kind e (Calls.loadGlobal_global (by rw[I.ok.glob];exact I.mod.glob.keeps I.bk) d h) f
def XM{E:Aa}{aa:Af}{s:ap}{c:St}{H:Hp}{x:Str}{u:aq}{pos:Pos}{Q:Aa}(I:aL X aa c H s)(g:Gl X x)(f:X.mg x=L)(d:Bh x=Y u)(h:Q u s)(e:x≠"__name__":=by lia)(i:Bq x:=by lia):Bf (Bg X.p X.w) X.A (eval (.Name x pos) X.e) Q E s:=by have #[l,k,j]:=I.mod.blt;exact om I.ok.kind g (Calls.loadGlobal_builtin (by rw[I.ok.glob];exact I.mod.glob.keeps I.bk) f (by rw[I.ok.blt];exact k.keeps I.bk) ((j x e).trans d) h) i
def zhs{x:Str}{pos:Pos}(d:Gl X x)(c:X.mg x=Y u)(r:aR v u)(e:Bq x:=by lia):PE X (.Name x pos) (tC v):=
 λ_ _ _ H _ I h=>vL I d c {v,H,I,r,h} e
def ww{x:Str}{pos:Pos}(f:Gl X x)(e:X.mg x=L)(c:Bh x=Y u)(r:aR v u)(d:x≠"__name__":=by lia)(g:Bq x:=by lia):PE X (.Name x pos) (tC v):=
 λ_ _ _ H _ I h=>XM I f e c {v,H,I,r,h} d g
variable {a:ay}
inductive tBk(Q:Bool->Hp->Prop)(x:V)(H:Hp):Prop
 |mk (c:_):x=.bl c->Q c H->tBk Q x H
def tB(t:TE):TT:=λc H Q=>t c H (tBk Q)
def xi{e:ay}{t:TE}(h:PE X e t)(k:∀c,isTrue e X.e c=(do let v <-c;standAt e.pos;holding [v] (truthy v)):=by intro _;rfl):PT X e (tB t):=by intro aa s f H Q I j;refine isTrue_plain (aX (h aa s f H _ I j) ?_) (k _);rintro v n ⟨x,m,l,g,i⟩;have #[d,rfl,q]:=i;cases g;exact fc {m,l,q}
variable {tA tB':TT}{rest:List ay}
def QB(t u:TT):TT:=λd H Q=>t d H λc e=>if c=U then u d e Q else Q am e
def tOr(t u:TT):TT:=λd H Q=>t d H λc e=>if c=U then Q U e else u d e Q
def Yk(t:TT):TT:=λd H Q=>t d H λc e=>Q (!c) e
def qk(f:PT X a tA):PW X (.BoolOp .And [a] pos) tA:=by
 intro g aa s d H Q I h;refine isTrue_and (aX (f aa s d H Q I h) λc i e=>?_);cases c with
 |true=>exact isTrue_and_nil e
 |false=>exact e
def ku(f:PT X a tA):PW X (.BoolOp .Or [a] pos) tA:=by
 intro g aa s d H Q I h;refine isTrue_or (aX (f aa s d H Q I h) λc i e=>?_);cases c with
 |false=>exact isTrue_or_nil e
 |true=>exact e
def Yy(l:PT X a tA)(k:PW X (.BoolOp .And (b::rest) pos) tB'):PW X (.BoolOp .And (a::b::rest) pos) (QB tA tB'):=by
 intro i aa s d H Q I h;refine isTrue_and (aX (l aa s d H _ I h) ?_);rintro c j ⟨g,f,e⟩;cases c with
 |true=>exact k i aa j d g Q f e
 |false=>exact{g,f,e}
def Zl(l:PT X a tA)(k:PW X (.BoolOp .Or (b::rest) pos) tB'):PW X (.BoolOp .Or (a::b::rest) pos) (tOr tA tB'):=by
 intro i aa s d H Q I h;refine isTrue_or (aX (l aa s d H _ I h) ?_);rintro c j ⟨g,f,e⟩;cases c with
 |true=>exact{g,f,e}
 |false=>exact k i aa j d g Q f e
def wE(e:PT X a tA):PT X (.UnaryOp .Not a pos) (Yk tA):=by intro aa s d H Q I h;exact isTrue_not (e aa s d H (λc f=>Q (!c) f) I h)
def Vu(ta tb:TE):TE:=λd H Q=>ta d H (tBk λc e=>if c=U then tb d e Q else Q (.bl am) e)
def zlp(ta tb:TE):TE:=λd H Q=>ta d H λx e=>∃c,x=.bl c/\if c=U then Q (.bl U) e else tb d e Q
def ziL(ta:TE):TE:=λd H Q=>ta d H λx e=>∃c,x=.bl c/\Q (.bl (!c)) e
def Vv{op}{t:TE}(h:PE X a t):PE X (.BoolOp op [a] pos) t:=λaa s c H Q I d=>BoolOp_one (h aa s c H Q I d)
def XN(l:PE X a ta)(k:PE X (.BoolOp .And (b::rest) pos) tb):PE X (.BoolOp .And (a::b::rest) pos) (Vu ta tb):=by
 intro aa s e H Q I h;refine BoolOp_and (aX (l aa s e H _ I h) ?_);rintro v i ⟨x,g,f,j,d⟩;have #[c,rfl,d]:=d;cases j;refine fc ?_;cases c with
 |true=>exact k aa i e g Q f d
 |false=>exact{.bl am,g,f,Z,d}
def zky(l:PE X a ta)(k:PE X (.BoolOp .Or (b::rest) pos) tb):PE X (.BoolOp .Or (a::b::rest) pos) (zlp ta tb):=by
 intro aa s e H Q I h;refine BoolOp_or (aX (l aa s e H _ I h) ?_);rintro v i ⟨x,g,f,j,d⟩;have #[c,rfl,d]:=d;cases j;refine fc ?_;cases c with
 |false=>exact k aa i e g Q f d
 |true=>exact{.bl U,g,f,Z,d}
def zji(g:PE X a ta):PE X (.UnaryOp .Not a pos) (ziL ta):=by intro aa s e H Q I h;refine UnaryOp_ (aX (g aa s e H _ I h) ?_);rintro v k ⟨x,j,i,f,d⟩;have #[c,rfl,d]:=d;cases f;exact not_of (fc {.bl (!c),j,i,Z,d})
def tIf(t:TT)(ta tb:TE):TE:=λd H Q=>t d H λc e=>if c=U then ta d e Q else tb d e Q
def vT(k:PT X c tA)(m:PE X a ta)(l:PE X b tb):PE X (.IfExp c a b pos) (tIf tA ta tb):=by
 intro aa s e H Q I h;refine wpAny_IfExp (aX (k aa s e H _ I h) ?_);rintro d f ⟨j,i,g⟩;cases d with
 |true=>exact m aa f e j Q i g
 |false=>exact l aa f e j Q i g
end
def aO(K:bL)(H:Hp)(a:af)(d:LV):Prop:=
 Rd H a (.lst d) \/
  ∃(o:Obj)(c:Array aq)(n:Nat),K.lookup a=Y o/\o.cls=.type "list"/\o.dict=L/\o.data=.seq c n/\c.size<=Bb/\aQ d c.toList
def uZ(K:bL)(H:Hp)(a:af)(d:LV):Prop:=
 Rd H a (.tup d) \/
  ∃(o:Obj)(c:Array aq)(n:Nat),K.lookup a=Y o/\o.cls=.type "tuple"/\o.data=.seq c n/\c.size<=Bb/\aQ d c.toList
def zlq:aq->Option V
 |.none=>Y .non
 |.bool b=>Y (.bl b)
 |.int i _=>Y (.int i)
 |.str x _=>Y (.str x)
 |.bytes b _=>Y (.byt b)
 |.float b _=>Y (.flt b)
 |.ref a=>Y (.ref a)
 |.type n=>Y (.ty n)
 |_=>L
def aR.abs{x:V}(r:aR x u):zlq u=Y x:=by
 cases x with
 |non=>cases r;rfl
 |bl _=>cases r;rfl
 |int _=>have #[t,rfl]:=r;rfl
 |str _=>have #[t,rfl]:=r;rfl
 |byt _=>have #[t,rfl]:=r;rfl
 |flt _=>have #[t,rfl]:=r;rfl
 |ref _=>cases r;rfl
 |ty _=>cases r;rfl
def aR.inj{x y:V}(r:aR x u)(q:aR y u):x=y:=bU (r.abs.symm.trans q.abs)
theorem aQ.inj:∀ {d c:LV}{e:zX},aQ d e->aQ c e->d=c
 |_,_,_,.nil,.nil=>rfl
 |_,_,_,.cons r t,.cons r' t'=>by rw[r.inj r',aQ.inj t t']
variable {σ:St}
section
variable {xs ys:LV}
def aO.of{K:bL}(h:H a=Y (.lst xs)):aO K H a xs:=.inl (.inl h)
def uZ.of{K:bL}(h:H a=Y (.tup xs)):uZ K H a xs:=.inl (.inl h)
theorem aL.list(I:aL X aa σ H s)(h:aO X.K H a xs):∃d:zX,aQ xs d/\PlainL s.heap a d.toArray/\xs.length<=Bb:=by
 obtain h|⟨o,d,n,hk,hc,hd,hs,hz,r⟩:=h
 .have #[z,d,n,r,e]:=h.ok I.hok;exact{d,r,{_,n,e,Z,Z,Z},z}
 .refine{d.toList,r,{o,n,I.kIn a o hk,hc,hd,by simpa using hs},?_};have e:=r.length;simp only[cL] at e;lia
theorem aL.tuple(I:aL X aa σ H s)(h:uZ X.K H a xs):∃d:zX,aQ xs d/\IsTup s.heap a d.toArray/\xs.length<=Bb:=by
 obtain h|⟨o,d,n,hk,hc,hs,hz,r⟩:=h
 .have #[z,d,r,p]:=h.ok I.hok;exact{d,r,p,z}
 .refine{d.toList,r,{o,I.kIn a o hk,hc,n,by simpa using hs},?_};have e:=r.length;simp only[cL] at e;lia
theorem aL.list_inj(I:aL X aa σ H s)(h:aO X.K H a xs)(h':aO X.K H a ys):xs=ys:=by
 have #[f,r,#[o,n,e,_,_,d],_]:=I.list h;have #[its',k,#[l,q,g,_,_,j],_]:=I.list h';rw[e] at g;cases g;rw[d] at j;injection j with d1 _;have:f=its':=by simpa using congrArg Array.toList d1
 subst this;exact r.inj k
theorem aL.tuple_inj(I:aL X aa σ H s)(h:uZ X.K H a xs)(h':uZ X.K H a ys):xs=ys:=by
 have #[f,r,#[o,e,_,n,d],_]:=I.tuple h;have #[its',k,#[l,g,_,q,j],_]:=I.tuple h';rw[e] at g;cases g;rw[d] at j;injection j with d1 _;have:f=its':=by simpa using congrArg Array.toList d1
 subst this;exact r.inj k
end
abbrev Cx.wish(X:Cx)(E:Aa):Cx:={ X with xe:=E }
abbrev Cx.nox(X:Cx):Cx:=X.wish λ_ _=>False
def Cx.Ok.wish(d:X.Ok)(E:Aa):(X.wish E).Ok:=
 {d.mod,d.kind,d.glob,d.blt,d.above,d.inj,d.has,d.cab,d.hd,d.frames,d.stk,d.exf,d.bs,d.bsz,d.noex,d.exfs,d.funs,d.frf}
def Cx.Ok.unwish(d:(X.wish E).Ok):X.Ok:=
 {d.mod,d.kind,d.glob,d.blt,d.above,d.inj,d.has,d.cab,d.hd,d.frames,d.stk,d.exf,d.bs,d.bsz,d.noex,d.exfs,d.funs,d.frf}
variable {E:Aa}
def aL.wish(I:aL X aa σ H s)(E:Aa):aL (X.wish E) aa σ H s:={I.ok.wish E,I.os,I.bare,I.base,I.loc,I.cell,I.free,I.freeC,I.pin,I.hok,I.len}
def aL.unwish(I:aL (X.wish E) aa σ H s):aL X aa σ H s:={I.ok.unwish,I.os,I.bare,I.base,I.loc,I.cell,I.free,I.freeC,I.pin,I.hok,I.len}
def SP.unwish(h:SP (X.wish E) aa D f s'):SP X aa D f s':=by
 cases f with
 |next=>have #[c,H',I,q]:=h;exact{c,H',I.unwish,q}
 |brk=>have #[c,H',I,q]:=h;exact{c,H',I.unwish,q}
 |cont=>have #[c,H',I,q]:=h;exact{c,H',I.unwish,q}
 |ret u=>have #[v,c,H',I,r,q]:=h;exact{v,c,H',I.unwish,r,q}
def PSs.nox{c:List ax}{t:TS}(h:PSs X.nox c t):PSs X c t:=λaa s σ H D I d=>
 eL (h aa s σ H D (I.wish _) d) (λ_ _ q=>q.unwish) λ_ _ z=>dQ z
variable {e:ay}{te:TE}
section
variable {st:ax}{rest:List ax}{t u:TS}
def yU:TS:=λD σ H=>D.nx σ H
def zL(t u:TS):TS:=λD σ H=>t { D with nx:=u D } σ H
def zG:PSs X [] yU:=λ_ _ σ H _ I h=>ig {σ,H,I,h}
def zd(i:PS X st t)(g:PSs X rest u):PSs X (st::rest) (zL t u):=by
 intro aa s σ H D I h;refine pO (aX (i aa s σ H { D with nx:=u D } I h) λf d q=>?_);cases f with
 |next=>
  have #[c,H',j,q]:=q;exact g aa d c H' D j q
 |ret v=>exact q
 |brk=>exact q
 |cont=>exact q
def zm(c:PS X st t):PSs X [st] t:=by
 intro aa s σ H D I h;refine pO (aX (c aa s σ H D I h) λf d q=>?_);cases f with
 |next=>exact ig q
 |ret v=>exact q
 |brk=>exact q
 |cont=>exact q
theorem aL.quiet{H:Hp}(I:aL X aa σ H s):interactive X.e=am:=by simp[interactive,I.ok.kind]
def yV(te:TE):TS:=λD σ H=>te σ H λ_ c=>D.nx σ c
def zN(f:PE X e te)(d:swapsWith e L pos.line X.e=pure am:=by rfl):PS X (.Expr e pos) (yV te):=by intro aa s σ H D I h;exact wpAny_Expr_any (aX (f aa s σ H _ I h) λv j ⟨x,i,g,k,c⟩=>{σ,i,g,c}) I.quiet d
def yJ(te:TE):TS:=λD σ H=>te σ H D.rt
def zA(f:PE X e te):PS X (.Return (Y e) pos) (yJ te):=by intro aa s σ H D I h;exact wpAny_Return_some (aX (f aa s σ H _ I h) λv j ⟨x,i,g,c,d⟩=>{x,σ,i,g,c,d})
def ziM:TS:=λD _ H=>D.rt .non H
def zht:PS X (.Return L pos) ziM:=λ_ _ σ H _ I h=>wpAny_Return_none {.non,σ,H,I,Z,h}
def xc(c:TT)(t u:TS):TS:=λD σ H=>c σ H λb d=>if b=U then t D σ d else u D σ d
def zR{a b:List ax}(k:PT X c tc)(m:PSs X a t)(l:PSs X b u):PS X (.If c a b pos) (xc tc t u):=by
 intro aa s σ H D I h;refine wpAny_If (aX (k aa s σ H _ I h) ?_);rintro d f ⟨j,i,g⟩;cases d with
 |true=>exact m aa f σ j D i g
 |false=>exact l aa f σ j D i g
def zjj:TS:=λ_ _ _=>False
def zaI:PS X st zjj:=λ_ _ _ _ _ _ h=>h.elim
end
abbrev TG:=V->St->Hp->At->Prop
abbrev TGs:=LV->St->Hp->At->Prop
def PG(X:Cx)(c:ay)(t:TG):Prop:=
 ∀(aa:Af)(s:ap)(σ:St)(H:Hp)(v:V)(u:aq)(Q:At),aL X aa σ H s->aR v u->t v σ H Q ->
  Bf (Bg X.p X.w) X.A (assign c X.e u) (λ_ d=>IvP X aa Q d) X.xe s
def PGs(X:Cx)(f:List ay)(t:TGs):Prop:=
 ∀(aa:Af)(s:ap)(σ:St)(H:Hp)(c:LV)(d:zX)(Q:At),aL X aa σ H s->aQ c d->t c σ H Q ->
  Bf (Bg X.p X.w) X.A (assignInOrder ((assignEach f X.e).map (·.2)) d) (λ_ g=>IvP X aa Q g) X.xe s
abbrev TIp:=V->V->Hp->VK->Prop
def PIp(X:Cx)(c:Operator)(t:TIp):Prop:=
 ∀(aa:Af)(s:ap)(σ:St)(H:Hp)(x y:V)(v u:aq)(Q:VK),aL X aa σ H s->aR x v->aR y u->t x y H Q ->
  Bf (Bg X.p X.w) X.A (inplaceOp c v u) (EP X aa σ Q) X.xe s
def zM(i:Nat):TG:=λv σ H Q=>Q (σ.set i (Y v)) H
def vM{x:Str}(g:X.N.Nodup)(d:X.N[i]?=Y x)(c:Loc X.e.scope x)(f:X.fn x=U\/X.e.scope.names.lookup x=Y .local:=by first|exact .inl rfl|exact .inr rfl|assumption):PG X (.Name x pos) (zM i):=by intro aa s σ H v u Q I r h;exact wpAny_assign_Name (YV I g d c r (λk j=>{_,H,j,h}) f)
def zfb:TGs:=λc σ H Q=>c=[]/\Q σ H
inductive zfc(R:V->LV->Prop)(vs:LV):Prop
 |mk (v r:_):vs=v::r->R v r->zfc R vs
def YW(t:TG)(u:TGs):TGs:=λd σ H Q=>zfc (λv r=>t v σ H λc H'=>u r c H' Q) d
def Vd:PGs X [] zfb:=by intro aa s σ H c d Q I r h;have #[e,h]:=h;subst e;cases r;exact assignInOrder_nil {σ,H,I,h}
def vU{e:ay}{c:List ay}{t:TG}{u:TGs}(k:PG X e t)(j:PGs X c u)(i:(assignEach (e::c) X.e).map (·.2)=assign e X.e::(assignEach c X.e).map (·.2):=by rfl):PGs X (e::c) (YW t u):=by
 intro aa s σ H o q Q I r h;have #[v,p,l,h]:=h;subst l;cases r with
 |cons r rr=>
  rw[i];refine assignInOrder_cons (aX (k aa s σ H _ _ _ I r h) ?_);rintro _ f ⟨d,n,m,g⟩;exact j aa f d n _ _ Q m rr g
def zfd(K:bL)(n:Nat)(t:TGs):TG:=λv σ H Q=>∃a c,v=.ref a/\uZ K H a c/\c.length=n/\t c σ H Q
theorem QC{c:List ay}{k:Nat}{t:TGs}{n:Nat}(y:X.c=U)(h:PGs X c t)(q:(assignEach c X.e).length=n:=by rfl)(f:(assignEach c X.e).findIdx? (·.1)=L:=by rfl):PG X (.Tuple c k pos) (zfd X.K n t):=by intro aa s σ H v u Q I r d;have #[a,i,z,p,w,d]:=d;subst z;cases r;have #[j,g,m,C]:=I.tuple p;refine assign_Tuple_tuple (I.ok.hd y) m (by simp[q,<-w,g.length]) f λh' l=>?_;have A:aL X aa σ H { s with heap:=h' }:=I.kept (t':=s.toks) λb o e=>l b o (b8 (bS e)) e;exact h aa _ σ H i _ Q A (by simpa using g) d
def yF(te:TE)(g:TG):TS:=λD σ H=>te σ H λx c=>g x σ c D.nx
def Yz{i:Nat}{x:Str}{te:TE}{c:Pos}(n:X.N.Nodup)(k:X.N[i]?=Y x)(g:Loc X.e.scope x)(m:PE X e te)(j:swapsWith e (Y (.Name x c)) pos.line X.e=pure am:=by rfl)(l:X.fn x=U\/X.e.scope.names.lookup x=Y .local:=by first|exact .inl rfl|exact .inr rfl|assumption) :
  PS X (.Assign [.Name x c] e pos) (yF te (zM i)):=by intro aa s σ H D I h;refine wpAny_Assign_Name (aX (m aa s σ H _ I h) ?_) j;rintro v t ⟨y,q,p,d,f⟩;exact YV p n k g d (λr o=>{_,q,o,f}) l
def zkz(i:Nat)(te:TE)(c:TIp):TS:=λD σ H=>∃x,σ[i]?=Y (Y x)/\te σ H λy f=>c x y f λz d=>D.nx (σ.set i (Y z)) d
def zjk{i:Nat}{x:Str}{te:TE}{n:Operator}{p:TIp}{g:Pos}(hN:X.N.Nodup)(q:X.N[i]?=Y x)(o:Loc X.e.scope x)(he:PE X e te)(N:PIp X n p)(T:X.fn x=U\/X.e.scope.names.lookup x=Y .local:=by first|exact .inl rfl|exact .inr rfl|assumption) :
  PS X (.AugAssign (.Name x g) n e pos) (zkz i te p):=by
 intro aa s σ H D I h;have #[v,e1,h]:=h;have #[m,O,Q]:=I.loc;have j:Vis X.e.scope x:=by obtain k|k:=o;exact .inl k;exact .inr (.inl k)
 have #[u,r,l]:=Q i x v q e1 j;refine wpAny_AugAssign_Name ?_;have t:Bf (Bg X.p X.w) X.A (eval e X.e) (λw f=>Bf (Bg X.p X.w) X.A (inplaceOp n u w) (λr d=>Bf (Bg X.p X.w) X.A (storeName X.e x r) (λ_=>SP X aa D .next) X.xe d) X.xe f) X.xe s:=by refine aX (he aa s σ H _ I h) ?_;rintro w A ⟨y,H1,I1,G,M⟩;refine aX (N aa A σ H1 v y u w _ I1 r G M) ?_;rintro z s2 ⟨zv,H2,I2,C,J⟩;exact YV I2 hN q o C (λs3 I3=>{_,H2,I3,J}) T
 obtain ⟨hk,hm⟩|⟨hk,c,hc,hcell⟩:=l
 .exact rZ I.ok.kind hk O hm t
 .obtain hk|hk:=hk
  .exact wpAny_loadName_cell I.ok.kind hk hc hcell t
  .obtain k|k:=o
   .have:X.e.scope.names.lookup x=Y .free:=hk;rw[k] at this;cases this
   .have:X.e.scope.names.lookup x=Y .free:=hk;rw[k] at this;cases this
def ipI(f:Int->Int->Int):TIp:=λx y H Q=>∃i j,x=.int i/\y=.int j/\Q (.int (f i j)) H
def zjl:PIp X .Add (ipI λi j=>i+j):=by intro aa s σ H x y v u Q I d c h;have #[i,j,g,f,q]:=h;subst g;subst f;have #[t,rfl]:=d;have #[k,rfl]:=c;exact iadd_int {.int _,H,I.tok _,{_,Z},q}
def zjm(c:TT)(tb:TS):TS:=λD σ H=>∃W:Nat->At,(∃m,W m σ H)/\∀m σ H,W m σ H ->
 c σ H λb g=>if b=U then ∃N:At,(∀d H',N d H'->∃f,f<m/\W f d H')/\tb { D with nx:=N,ct:=N,bk:=D.nx } σ g else D.nx σ g
def Vw{tb:TS}(u:PassesOwn (Bg X.p X.w) X.A X.e X.xe)(T:PT X c tc)(hb:PSs X body tb):PS X (.While c body [] pos) (zjm tc tb):=by
 intro aa s σ H D I h;have #[W,#[Q,G],j]:=h;refine wpAny_While (codeAny_whileLoop (λn O=>∃i H',aL X aa i H' O/\W n i H') ?_ Q {σ,H,I,G});rintro n M ⟨g,A,I1,C⟩;refine gA u (aX (T aa M g A _ I1 (j n g A C)) ?_);rintro b J ⟨z,y,m⟩;cases b with
 |true=>
  have #[N,w,m]:=m;rw[ao rfl];refine gA u (aX (hb aa J g z _ y m) λf s3 l=>?_);cases f with
  |next=>
   have #[d,k,t,p]:=l;have #[q,r,o]:=w d k p;exact{q,r,d,k,t,o}
  |cont=>
   have #[d,k,t,p]:=l;have #[q,r,o]:=w d k p;exact{q,r,d,k,t,o}
  |brk=>exact l
  |ret v=>exact l
 |false=>
  rw[ak bV];exact ig {g,z,y,m}
set_option genSizeOf false in
set_option genInjectivity false in
structure It where
 go:Nat->Hp->Prop
 yld:Nat->Hp->V->Hp->Prop
 stop:Nat->Hp->Prop
def Zg(X:Cx)(aa:Af)(H:Hp)(b:af):Prop:=
 H b=L/\b≠X.e.locals/\b ∉ X.fs/\(b∈X.ex\/X.s₀.heap.objs.size<=b)/\(∀x c,X.e.cells.lookup x=Y c->c≠b)/\∀p∈X.pn++aa,p.1≠b
def aL.fpOk{aa:Af}{σ:St}{H H':Hp}{s:ap}{b:af}(I:aL X aa σ H s)(d:s.heap.objs.size<=b)(g:H' b=L):Zg X aa H' b:=by
 refine{g,eM (bH I.lt d),I.nofs d,.inr (bI I.sz d),λx c e z=>?_,λp f z=>?_}
 .have #[v,q]:=I.cell x c e;exact absurd (bH q.lt (by rw[z];exact d)) (iF _)
 .exact absurd (bH (bS (I.pin p f).1) (by rw[z];exact d)) (iF _)
structure zaJ(P:au)(w:av)(K:bL)(tg:ay)(J:It)(fp:List af)(it:af)(tn:Nat->aw->Prop):Prop where
 mem:it∈fp
 obj:∀i h,tn i h->∀b∈fp,∃o,h.get? b=Y o/\∀v,o.data≠.cell v
 keep:∀i h h',tn i h->(∀b∈fp,∀o,h.get? b=Y o->h'.get? b=Y o)->tn i h'
 item:∀(X:Cx),X.p=P->X.w=w->X.K=K->X.c=U->∀(i:Nat)(aa:Af)(s:ap)(σ:St)(H:Hp)(E:Aa),aL X aa σ H s->(∀b∈fp,Zg X aa H b)->tn i s.heap->J.go i H ->
  Bf (Bg P w) X.A (pyNext (.ref it)) (λr s1=>∃u,r=Y u /\
   Bf (Bg P w) X.A (letOwnedTupleGo tg (.ref it) u) (λ_ s2=>∃x H',aL X aa σ H' s2/\aR x u/\J.yld i H x H'/\tn (i+1) s2.heap/\∀b∈fp,H' b=L) E s1) E s
 done:∀(X:Cx),X.p=P->X.w=w->X.K=K->X.c=U->∀(i:Nat)(aa:Af)(s:ap)(σ:St)(H:Hp)(E:Aa),aL X aa σ H s->(∀b∈fp,Zg X aa H b)->tn i s.heap->J.stop i H ->
  Bf (Bg P w) X.A (pyNext (.ref it)) (λr s1=>r=L/\aL X aa σ H s1) E s
 self:∀(A:aA)(i:Nat)(s:ap)(Q:Aa)(E:Aa),tn i s.heap->Q (.ref it) s->Bf (Bg P w) A (pyIter (.ref it)) Q E s
abbrev TI:=St->Hp->(It->Hp->Prop)->Prop
def PIE(X:Cx)(aa:Af)(σ:St)(j:ay)(R:It->Hp->Prop)(c:aq)(f:ap):Prop:=
 ∃(g:af)(i:List af)(d:Nat->aw->Prop)(J:It)(H':Hp),c=.ref g/\aL X aa σ H' f/\zaJ X.p X.w X.K j J i g d/\d 0 f.heap/\(∀b∈i,Zg X aa H' b)/\R J H'
def PI(X:Cx)(f c:ay)(d:TI):Prop:=
 ∀(aa:Af)(s:ap)(σ:St)(H:Hp)(R:It->Hp->Prop),aL X aa σ H s->d σ H R ->
  Bf (Bg X.p X.w) X.A (eval c X.e) (λv g=>Bf (Bg X.p X.w) X.A (pyIter v) (PIE X aa σ f R) X.xe g) X.xe s
def zaK{Q:Unit->ap->Prop}(d:s.heap.get? it=Y o)(i:o.cls=.type n)(g:o.data=.fields vs)(f:["enumerate","zip","dict_itemiterator","dict_reverseitemiterator","odict_iterator","itertools.zip_longest","itertools.pairwise"].contains n=am)(c:Q PUnit.unit s):Bf M A (letOwnedTupleGo tg (.ref it) u) Q E s:=by
 unfold letOwnedTupleGo;cases tg <;> first
  |exact bu c
  | (cases u <;> first
      |exact bu c
      | (refine bb (rT d ?_)
         rw[i,g];show Bf M A (if (["enumerate","zip","dict_itemiterator","dict_reverseitemiterator","odict_iterator","itertools.zip_longest","itertools.pairwise"].contains n&&vs[0]?==Y (rawInt _))=U then _ else _) Q E s;rw[ak (by intro h;rw[f,Bool.false_and] at h;cases h)];exact bu c))
def Itl(K:bL)(a:af):It:=
 {λi H=>∃c x,aO K H a c/\c[i]?=Y x,λi H x H'=>H'=H/\∀c,aO K H a c->c[i]?=Y x,λi H=>∃c,aO K H a c/\c.length<=i}
def Itt(K:bL)(a:af):It:=
 {λi H=>∃c x,uZ K H a c/\c[i]?=Y x,λi H x H'=>H'=H/\∀c,uZ K H a c->c[i]?=Y x,λi H=>∃c,uZ K H a c/\c.length<=i}
def Itr(lo:Int)(n:Nat):It:={λi _=>i<n,λi H x H'=>H'=H/\x=.int (lo+i),λi _=>n<=i}
theorem zee{P:au}{w:av}{K:bL}{T:ay}(a it:af):zaJ P w K T (Itl K a) [it] it (λi h=>h.IsListIter it a i) where
 mem:=by simp
 obj:=λi h f b g=>by
  have e:b=it:=by simpa using g
  subst e;have #[o,e,c,d]:=f;exact{o,e,λv z=>by rw[d] at z;cases z}
 keep:=λi h h' f k=>f.at λo e=>k it (by simp) o e
 item:=by intro X A t C O i aa s σ H E I m f y;subst A t C;have #[Q,x,l,r]:=y;have #[q,n,p,hz]:=I.list l;have #[u,hu,ru]:=n.get r;have #[N,M,f2,J,G,D]:=m it (by simp);refine pY f p.isList (x:=u) (by simpa using hu) λh' j sb=>?_;have I1:aL X aa σ H { s with heap:=h' }:=I.turned (t':=s.toks) (λb o g e=>(sb.2 b g).trans e) N M J G D;have #[o,e,c,d]:=id j;exact{u,Z,zaK (s:={ s with heap:=h' }) e c d () {x,H,I1,ru,{rfl,λys hy=>by rw[I.list_inj hy l];exact r},j,λb g=>(m b g).1}}
 done:=by intro X A t C O i aa s σ H E I m f y;subst A t C;have #[Q,l,r]:=y;have #[q,n,p,hz]:=I.list l;have #[N,M,f2,J,G,D]:=m it (by simp);have hl:=n.length;exact rB (I.ok.hd O) f p.isList (by simp;lia) λh' eb=>{Z,I.turned (t':=s.toks) (λb o g e=>eb b o g e) N M J G D}
 self:=λ_ _ _ _ _ f h=>wpAny_pyIter_listiter f h
theorem zcl{P:au}{w:av}{K:bL}{T:ay}(a it:af):zaJ P w K T (Itt K a) [it] it (λi h=>h.IsTupleIter it a i) where
 mem:=by simp
 obj:=λi h f b j=>by
  have e:b=it:=by simpa using j
  subst e;have #[o,e,c,d]:=f;exact{o,e,λv z=>by rw[d] at z;cases z}
 keep:=λi h h' f k=>f.at λo e=>k it (by simp) o e
 item:=by intro X A t C O i aa s σ H E I n f y;subst A t C;have #[Q,x,m,r]:=y;have #[g,q,p,hz]:=I.tuple m;have #[u,hu,ru]:=q.get r;have #[N,M,f2,J,G,D]:=n it (by simp);refine wpAny_pyNext_tuple_item f (show s.heap.IsTuple a g.toArray from p) (x:=u) (by simpa using hu) λh' l sb=>?_;have I1:aL X aa σ H { s with heap:=h' }:=I.turned (t':=s.toks) (λb o j e=>(sb.2 b j).trans e) N M J G D;have #[o,e,c,d]:=id l;exact{u,Z,zaK (s:={ s with heap:=h' }) e c d () {x,H,I1,ru,{rfl,λys hy=>by rw[I.tuple_inj hy m];exact r},l,λb j=>(n b j).1}}
 done:=by intro X A t C O i aa s σ H E I n f y;subst A t C;have #[Q,m,r]:=y;have #[g,q,p,hz]:=I.tuple m;have #[N,M,f2,J,G,D]:=n it (by simp);have hl:=q.length;exact wpAny_pyNext_tuple_end (I.ok.hd O) f (show s.heap.IsTuple a g.toArray from p) (by simp;lia) λh' eb=>{Z,I.turned (t':=s.toks) (λb o j e=>eb b o j e) N M J G D}
 self:=λ_ _ _ _ _ f h=>wpAny_pyIter_tupleiter f h
theorem zcm{P:au}{w:av}{K:bL}{J:ay}(it:af)(lo:Int)(n:Nat):zaJ P w K J (Itr lo n) [it] it (λi h=>IsRangeIter h it (lo+(i:Nat)*1) ((n:Int)-(i:Nat)) 1) where
 mem:=by simp
 obj:=λi h c b d=>by
  have e:b=it:=by simpa using d
  subst e;exact{_,c,λv z=>by have G:Data.fields _=Data.cell v:=z;cases G}
 keep:=λi h h' c k=>k it (by simp) _ c
 item:=by intro X p j q m i aa s σ H E I g c l;subst p j q;have #[C,A,O,y,u,r]:=g it (by simp);have W:=Walks.range (prog:=X.p) (w:=X.w) (I.ok.hd m) it lo 1 n;refine W.item i s _ _ l c λv h' D N f M=>?_;have #[t,rfl]:=N;have T:aL X aa σ H { s with heap:=h',toks:=D }:=I.turned (λb o d e=>M b o (by simpa using d) e) C A y u r;refine{_,Z,zaK (s:={ s with heap:=h',toks:=D }) (n:="range_iterator") f rfl rfl () {.int (lo+i),H,T,{t,?_},{rfl,rfl},f,λb d=>(g b d).1}};rw[Int.mul_one]
 done:=by intro X p j q m i aa s σ H E I g c l;subst p j q;have #[C,A,O,y,u,r]:=g it (by simp);exact wpAny_pyNext_range_end (I.ok.hd m) c (by have:n<=i:=l;lia) λh' Q=>{Z,I.turned (t':=s.toks) (λb o d e=>Q b o d e) C A y u r}
 self:=λ_ _ _ _ _ c h=>wpAny_pyIter_rangeiter c h
section
variable {tg:ay}
inductive zfe(K:bL)(R:It->Hp->Prop)(x:V)(H:Hp):Prop
 |mk (a:_):x=.ref a->(∃xs,aO K H a xs)->R (Itl K a) H->zfe K R x H
def vf(K:bL)(c:TE):TI:=λσ H R=>c σ H (zfe K R)
def zkA(K:bL)(f:TE):TI:=λσ H R=>f σ H λx c=>∃a,x=.ref a/\(∃d,uZ K c a d)/\R (Itt K a) c
theorem xj{f:TE}(m:PE X l f):PI X tg l (vf X.K f):=by
 intro aa s σ H R I h;refine aX (m aa s σ H _ I h) ?_;rintro v c ⟨x,r,d,g,i⟩;have #[a,e,#[t,k],q]:=i;subst e;cases g;have #[j,u,p,w]:=d.list k;refine wpAny_pyIter_list p.isList ?_;refine{c.heap.objs.size,[c.heap.objs.size],_,_,r,Z,d.kept (t':=c.toks) λb o e=>bg _ e,zee a _,{_,bJ _ Z,Z,Z},λb n=>?_,q};have e:b=c.heap.objs.size:=by simpa using n
 subst e;exact d.fpOk (bq _) (d.hok.fresh (bq _))
theorem zjn{g:TE}(m:PE X l g):PI X tg l (zkA X.K g):=by
 intro aa s σ H R I h;refine aX (m aa s σ H _ I h) ?_;rintro v c ⟨x,r,d,i,j⟩;have #[a,e,#[t,k],q]:=j;subst e;cases i;have #[f,u,p,w]:=d.tuple k;refine oq (show c.heap.IsTuple a f.toArray from p) ?_;refine{c.heap.objs.size,[c.heap.objs.size],_,_,r,Z,d.kept (t':=c.toks) λb o e=>bg _ e,zcl a _,{_,bJ _ Z,Z,Z},λb n=>?_,q};have e:b=c.heap.objs.size:=by simpa using n
 subst e;exact d.fpOk (bq _) (d.hok.fresh (bq _))
theorem zff{H:Hp}{R:It->Hp->Prop}{lo c:Int}(I:aL X aa σ H s)(k:-(2^62)<=lo)(j:lo<2^62)(i:-(2^62)<=c)(g:c<2^62)(q:R (Itr lo (c-lo).toNat) H):Bf (Bg X.p X.w) X.A (pyIter (.ref s.heap.objs.size)) (PIE X aa σ tg R) E { s with heap:=s.heap.push { cls:=.type "range",data:=.fields #[.int lo t,.int c u,.int 1 v] },toks:=tk }:=by
 refine wpAny_pyIter_range (IsRange.new ..) (small_one k j i g) ?_;have d:aL X aa σ H { s with heap:=s.heap.push { cls:=.type "range",data:=.fields #[.int lo t,.int c u,.int 1 v] },toks:=tk }:=I.kept λb o e=>bg _ e;refine{(s.heap.push { cls:=.type "range",data:=.fields #[.int lo t,.int c u,.int 1 v] }).objs.size,[(s.heap.push { cls:=.type "range",data:=.fields #[.int lo t,.int c u,.int 1 v] }).objs.size],_,_,H,Z,
  d.kept (t':=tk) λb o e=>bg _ e,zcm _ lo (c-lo).toNat,?_,λb f=>?_,q}
 .have m:lo+((0:Nat):Int)*1=lo:=by simp
  have l:(((c-lo).toNat:Nat):Int)-((0:Nat):Int)=Builtin.Range.rangeSize lo c 1:=by rw[rangeSize_one];split <;> lia
  show IsRangeIter _ _ (lo+((0:Nat):Int)*1) ((((c-lo).toNat:Nat):Int)-((0:Nat):Int)) 1;rw[m,l];exact bJ _ rfl
 .have e:b=(s.heap.push { cls:=.type "range",data:=.fields #[.int lo t,.int c u,.int 1 v] }).objs.size:=by simpa using f
  subst e;exact d.fpOk (bq _) (d.hok.fresh (bq _))
def zfg(ta:TA):TI:=λσ H R=>ta σ H λc d=>∃j:Int,c=[.int j]/\-(2^62)<=j/\j<2^62/\R (Itr 0 j.toNat) d
theorem Z7{a:ay}{ta:TA}(k:Gl X "range")(i:X.mg "range"=L)(l:PA X [a] ta)(g:Be [a] X.e=[(am,eval a X.e)]:=by rfl):PI X tg (.Call (.Name "range" p) [a] [] pos) (zfg ta):=by
 intro aa s σ H R I h;refine Call_ (XM I k i boot_range (fT (aX (l pos aa s σ H _ I h) ?_) g Z));rintro o u ⟨n,v,m,d,c⟩;have #[j,e,c,f,q]:=c;subst e;cases d with
 |cons r rr=>
  cases rr;have #[t,rfl]:=r;exact call_range_1 (zff m () () c f (by simpa using q))
def Zm(j:TI)(g:TG)(tb:TS):TS:=λD σ H=>j σ H λJ l=>∃W:Nat->Nat->At,(∃m,W 0 m σ l)/\∀i m σ H,W i m σ H ->
 (J.stop i H/\D.nx σ H)\/(J.go i H/\∃N:At,(∀c H',N c H'->∃f,f<m/\W (i+1) f c H')/\∀x H',J.yld i H x H'->g x σ H' λd k=>tb { D with nx:=N,ct:=N,bk:=D.nx } d k)
def Vx(c:List af)(h:aw):Af:=c.filterMap λb=>(h.get? b).map λo=>(b,o)
def ql{h:aw}{b:af}{o:Obj}(c:b∈fp)(e:h.get? b=Y o):(b,o)∈Vx fp h:=lh.mpr {b,c,by rw[e];rfl}
def zef(c:p∈Vx fp h):p.1∈fp/\h.get? p.1=Y p.2:=by
 have #[b,d,e]:=List.mem_filterMap.mp c;cases q:h.get? b with
 |none=>rw[q] at e;cases e
 |some o=>
  rw[q] at e;have f:(b,o)=p:=bU e;subst f;exact{d,q}
def aL.pinned{H:Hp}(I:aL X aa σ H s)(l:∀b∈fp,Zg X aa H b)(k:∀b∈fp,∃o,s.heap.get? b=Y o/\∀v,o.data≠.cell v):aL X (aa++Vx fp s.heap) σ H s:=
 I.pins_of λp j=>(bp.mp j).elim (λz=>I.pin p (bQ _ z)) λz=>by have #[f,e]:=zef z;have #[r,q,n,_]:=l p.1 f;have #[o,g,d]:=k p.1 f;rw[e] at g;cases g;exact{e,r,q,n,d}
def aL.unpinned{H:Hp}(I:aL X (aa++pl) σ H s):aL X aa σ H s:=I.pins_of λp d=>I.pin p (bQ _ (cz _ d))
def x5{wi:TI}{g:TG}{tb:TS}(M:PassesOwn (Bg X.p X.w) X.A X.e X.xe)(hc:X.c=U)(hi:PI X tg iter wi)(hg:PG X tg g)(p:PSs X body tb)(hs:∀x,foldedSetIterable iter X.e x=pure x:=by intro _;rfl):PS X (.For tg iter body [] pos) (Zm wi g tb):=by
 intro aa s σ H D I h;refine wpAny_For (aX (hi aa s σ H _ I h) λv s1 h1=>aX h1 λal s2 h2=>?_) hs;have #[it,Q,tn,J,H2,e,I2,T,ag,f2,W,#[m0,w0],A]:=h2;subst e
 have l:∀ {H':Hp},(∀b∈Q,H' b=L)->∀b∈Q,Zg X aa H' b:=λhn b p=>{hn b p,(f2 b p).2};refine codeAny_forLoop_any (λn s'=>∃i k H',aL X aa k H' s'/\tn i s'.heap/\(∀b∈Q,H' b=L)/\W i n k H') ?_ m0 {0,σ,H2,I2,ag,λb p=>(f2 b p).1,w0};rintro n s3 ⟨i,j,H3,I3,C,O,w3⟩;obtain ⟨stop,qn⟩|⟨go,N,hN,step⟩:=A i n j H3 w3
 .refine gA M (aX (T.done X Z Z Z hc i aa s3 j H3 X.xe I3 (l O) C stop) ?_);rintro r s4 ⟨hr,I4⟩;subst hr;exact ig {j,H3,I4,qn}
 .refine gA M (aX (T.item X Z Z Z hc i aa s3 j H3 X.xe I3 (l O) C go) ?_);rintro r s4 ⟨u,hr,h4⟩;subst hr;refine gA M (aX h4 ?_);rintro _ s5 ⟨x,H5,I5,r5,y5,z,ai⟩;have aj:=I5.pinned (l ai) (T.obj _ _ z);refine gA M (aX (hg _ s5 j H5 x u _ aj r5 (step x H5 y5)) ?_);rintro _ s6 ⟨ac,H6,I6,q6⟩;refine gA M (aX (p _ s6 ac H6 _ I6 q6) λf s7 y=>?_);have q:∀ {c:St}{w:Hp},aL X (aa++Vx Q s5.heap) c w s7->N c w->∃m,m<n/\∃i k H',aL X aa k H' s7/\tn i s7.heap/\(∀b∈Q,H' b=L)/\W i m k H':=λ{c w} t G=>by have #[m',hm,w7]:=hN c w G;refine{m',hm,i+1,c,w,t.unpinned,T.keep _ _ _ z λb p o e=>(t.pin (b,o) (bQ _ (bQ _ (ql p e)))).1,λb p=>?_,w7};have #[o,e,d]:=T.obj _ _ z b p;exact(t.pin (b,o) (bQ _ (bQ _ (ql p e)))).2.1
  cases f with
  |next=>have #[c,w,t,G]:=y;exact q t G
  |cont=>have #[c,w,t,G]:=y;exact q t G
  |brk=>have #[c,w,t,y]:=y;exact{c,w,t.unpinned,y}
  |ret v=>have #[x7,c,w,t,r7,y]:=y;exact{x7,c,w,t.unpinned,r7,y}
end
abbrev R2:=V->V->Hp->VK->Prop
def Av(X:Cx)(f:aq->aq->Sem aq)(r:R2):Prop:=
 ∀(aa:Af)(s:ap)(σ:St)(H:Hp)(x y:V)(v u:aq)(Q:VK),aL X aa σ H s->aR x v->aR y u->r x y H Q ->
  Bf (Bg X.p X.w) X.A (f v u) (EP X aa σ Q) X.xe s
def UnR(X:Cx)(f:aq->Sem aq)(r:V->Hp->VK->Prop):Prop:=
 ∀(aa:Af)(s:ap)(σ:St)(H:Hp)(x:V)(v:aq)(Q:VK),aL X aa σ H s->aR x v->r x H Q ->
  Bf (Bg X.p X.w) X.A (f v) (EP X aa σ Q) X.xe s
def qO(X:Cx)(f:aq)(r:LV->Hp->VK->Prop):Prop:=
 ∀(aa:Af)(s:ap)(σ:St)(H:Hp)(c:LV)(d:zX)(Q:VK),aL X aa σ H s->aQ c d->r c H Q ->
  Bf (Bg X.p X.w) X.A (call f d) (EP X aa σ Q) X.xe s
def aN(r:R2)(ta tb:TE):TE:=λσ H Q=>ta σ H λx d=>tb σ d λy c=>r x y c Q
def tUn(r:V->Hp->VK->Prop)(ta:TE):TE:=λσ H Q=>ta σ H λx c=>r x c Q
inductive rI(C:Int->Int->Prop)(g:Int->Int->V)(x y:V)(H:Hp)(Q:VK):Prop
 |mk (i j:_):x=.int i->y=.int j->C i j->Q (g i j) H->rI C g x y H Q
inductive rI0(g:Int->Int->V)(x y:V)(H:Hp)(Q:VK):Prop
 |mk (i j:_):x=.int i->y=.int j->Q (g i j) H->rI0 g x y H Q
inductive rU(g:Int->V)(x:V)(H:Hp)(Q:VK):Prop
 |mk (i:_):x=.int i->Q (g i) H->rU g x H Q
variable {tc:TE}
section
variable {a c:ay}
def zjo(t:PE X a ta)(r:PE X b tb){aa:Af}{H:Hp}{R:V->V->Hp->Prop}(I:aL X aa σ H s)(h:ta σ H λx k=>tb σ k λy d=>R x y d){Q:Aa}{f:aq->aq->Sem aq}
  (q:∀v u j x y d,aL X aa σ d j->aR x v->aR y u->R x y d->Bf (Bg X.p X.w) X.A (f v u) Q X.xe j) :
  Bf (Bg X.p X.w) X.A (eval a X.e) (λv i=>Bf (Bg X.p X.w) X.A (eval b X.e) (λu g=>Bf (Bg X.p X.w) X.A (f v u) Q X.xe g) X.xe i) X.xe s:=by refine aX (t aa s σ H _ I h) ?_;rintro v l ⟨x,k,z,n,p⟩;refine aX (r aa l σ k _ z p) ?_;rintro u j ⟨y,d,w,m,o⟩;exact q v u j x y d w n m o
def zu{r:R2}(i:Av X (binaryOp op) r)(k:PE X a ta)(j:PE X b tb):PE X (.BinOp a op b pos) (aN r ta tb):=by intro aa s σ H Q I h;exact wpAny_BinOp (zjo k j I h λv u d x y m l g f q=>i aa d σ m x y v u Q l g f q)
def zde{r:V->Hp->VK->Prop}(i:UnR X (unaryOp op) r)(j:PE X a ta):PE X (.UnaryOp op a pos) (tUn r ta):=by intro aa s σ H Q I h;exact UnaryOp_ (aX (j aa s σ H _ I h) λv d ⟨x,l,k,f,g⟩=>i aa d σ l x v Q k f g)
def opI{f:aq->aq->Sem aq}{C:Int->Int->Prop}{g:Int->Int->Int}
  (rule:∀(i j:Int)(t u:Tok)(s:ap)(Q:Aa)(E:Aa),C i j->Q (.int (g i j) s.toks) { s with toks:=s.toks+1 }->Bf (Bg X.p X.w) X.A (f (.int i t) (.int j u)) Q E s) :
  Av X f (rI C λi j=>.int (g i j)):=by intro aa s σ H x y v u Q I l k h;have #[i,j,rfl,rfl,m,q]:=h;have #[t,rfl]:=l;have #[d,rfl]:=k;exact rule i j t d s _ _ m {.int (g i j),H,I.tok _,{_,Z},q}
def zkB{f:aq->aq->Sem aq}{g:Int->Int->Int}
  (rule:∀(i j:Int)(t u:Tok)(s:ap)(Q:Aa)(E:Aa),Q (.int (g i j) s.toks) { s with toks:=s.toks+1 }->Bf (Bg X.p X.w) X.A (f (.int i t) (.int j u)) Q E s) :
  Av X f (rI0 λi j=>.int (g i j)):=by intro aa s σ H x y v u Q I l k h;have #[i,j,rfl,rfl,q]:=h;have #[t,rfl]:=l;have #[d,rfl]:=k;exact rule i j t d s _ _ {.int (g i j),H,I.tok _,{_,Z},q}
def zjp{f:aq->aq->Sem aq}{g:Int->Int->Bool}
  (rule:∀(i j:Int)(t u:Tok)(s:ap)(Q:Aa)(E:Aa),Q (.bool (g i j)) s->Bf (Bg X.p X.w) X.A (f (.int i t) (.int j u)) Q E s) :
  Av X f (rI0 λi j=>.bl (g i j)):=by intro aa s σ H x y v u Q I l k h;have #[i,j,rfl,rfl,q]:=h;have #[t,rfl]:=l;have #[d,rfl]:=k;exact rule i j t d s _ _ {.bl (g i j),H,I,Z,q}
def zhu(i j:Int):Prop:=0<=j/\j<=1000000/\i.natAbs<2^64
def yc:Av X (binaryOp .Add) (rI0 λi j=>.int (i+j)):=zkB λ_ _ _ _ _ _ _ q=>add_int q
def vC:Av X (binaryOp .Sub) (rI0 λi j=>.int (i-j)):=zkB λ_ _ _ _ _ _ _ q=>sub_int q
theorem zS:Av X (binaryOp .Mod) (rI (λ_ j=>0<j) λi j=>.int (i%j)):=opI λi j _ _ _ _ _ d q=>by have f:(0:Int)<j:=d;exact mod_int' () (by rw[Int.fmod_eq_emod_of_nonneg i ()];exact q)
def zhv:Av X (binaryOp .Mod) (rI (λ_ j=>j≠0) λi j=>.int (i.fmod j)):=opI λ_ _ _ _ _ _ _ d q=>mod_int' d q
def YA:Av X (binaryOp .Pow) (rI zhu λi j=>.int (i^j.toNat)):=opI λ_ _ _ _ _ _ _ d q=>pow_int_small d.1 d.2.1 d.2.2 q
def unI{f:aq->Sem aq}{g:Int->Int}
  (rule:∀(i:Int)(t:Tok)(s:ap)(Q:Aa)(E:Aa),Q (.int (g i) s.toks) { s with toks:=s.toks+1 }->Bf (Bg X.p X.w) X.A (f (.int i t)) Q E s) :
  UnR X f (rU λi=>.int (g i)):=by intro aa s σ H x v Q I d h;have #[i,rfl,q]:=h;have #[t,rfl]:=d;exact rule i t s _ _ {.int (g i),H,I.tok _,{_,Z},q}
def QD:UnR X (unaryOp .USub) (rU λi=>.int (-i)):=unI λ_ _ _ _ _ q=>neg_int q
end
def zkC:V->V->Bool
 |.non,.non=>U|.non,.int _=>U|.int _,.non=>U|.non,.bl _=>U|.bl _,.non=>U|.non,.str _=>U|.str _,.non=>U
 |.int _,.int _=>U|.bl _,.bl _=>U|.str _,.str _=>U|.byt _,.byt _=>U
 |.int _,.str _=>U|.str _,.int _=>U|.bl _,.str _=>U|.str _,.bl _=>U
 |_,_=>am
inductive rEq(x y:V)(H:Hp)(Q:VK):Prop
 |mk:zkC x y=U->Q (.bl (decide (x=y))) H->rEq x y H Q
inductive rNe(x y:V)(H:Hp)(Q:VK):Prop
 |mk:zkC x y=U->Q (.bl (!decide (x=y))) H->rNe x y H Q
theorem zdf{i j:Int}:decide (V.int i=V.int j)=(i==j):=by rw[nM];simp
theorem zfh :decide (V.bl i=V.bl j)=(i==j):=by rw[nM];simp
theorem zdg :decide (V.str i=V.str j)=(i==j):=by rw[nM];simp
theorem zdh :decide (V.byt i=V.byt j)=(i.toList==j.toList):=by rw[nM];cases i;cases j;simp
section
variable {a c:ay}
def yD{H:Hp}{Q:VK}(I:aL X aa σ H s)(q:Q (.bl k) H)(e:k=k'):EP X aa σ Q (.bool k') s:=by subst e;exact{.bl k,H,I,Z,q}
theorem yA:Av X (Bi .Eq) rEq:=by
 intro aa s σ H x y v u Q I k d h;have #[g,q]:=h;cases x with
 |non=>
  cases k;cases y with
  |non=>cases d;exact PySem.EqNone.eq_none_none (yD I q (by simp))
  |bl j=>cases d;exact PySem.EqNone.eq_none_bool (yD I q (by simp))
  |int j=>have #[f,rfl]:=d;exact PySem.EqNone.eq_none_int (yD I q (by simp))
  |str j=>have #[f,rfl]:=d;exact PySem.EqNone.eq_none_str (yD I q (by simp))
  |_=>exact absurd (show am=U from g) bV
 |bl i=>
  cases k;cases y with
  |non=>cases d;exact PySem.EqNone.eq_bool_none (yD I q (by simp))
  |bl j=>cases d;exact eq_bool (yD I q zfh)
  |str j=>have #[f,rfl]:=d;exact PySem.EqMixed.eq_bool_str (yD I q (by simp))
  |_=>exact absurd (show am=U from g) bV
 |int i=>
  have #[t,rfl]:=k;cases y with
  |non=>cases d;exact PySem.EqNone.eq_int_none (yD I q (by simp))
  |int j=>have #[f,rfl]:=d;exact eq_int (yD I q zdf)
  |str j=>have #[f,rfl]:=d;exact PySem.EqMixed.eq_int_str (yD I q (by simp))
  |_=>exact absurd (show am=U from g) bV
 |str i=>
  have #[t,rfl]:=k;cases y with
  |non=>cases d;exact PySem.EqNone.eq_str_none (yD I q (by simp))
  |bl j=>cases d;exact PySem.EqMixed.eq_str_bool (yD I q (by simp))
  |int j=>have #[f,rfl]:=d;exact PySem.EqMixed.eq_str_int (yD I q (by simp))
  |str j=>have #[f,rfl]:=d;exact eq_str (yD I q zdg)
  |_=>exact absurd (show am=U from g) bV
 |byt i=>
  have #[t,rfl]:=k;cases y with
  |byt j=>have #[f,rfl]:=d;exact W.eq_bytes (yD I q zdh)
  |_=>exact absurd (show am=U from g) bV
 |_=>cases y <;> exact absurd (show am=U from g) bV
theorem Wk:Av X (Bi .NotEq) rNe:=by
 intro aa s σ H x y v u Q I k d h;have #[g,q]:=h;cases x with
 |non=>
  cases k;cases y with
  |non=>cases d;exact PySem.EqNone.ne_none_none (yD I q (by simp))
  |bl j=>cases d;exact PySem.EqNone.ne_none_bool (yD I q (by simp))
  |int j=>have #[f,rfl]:=d;exact PySem.EqNone.ne_none_int (yD I q (by simp))
  |str j=>have #[f,rfl]:=d;exact PySem.EqNone.ne_none_str (yD I q (by simp))
  |_=>exact absurd (show am=U from g) bV
 |bl i=>
  cases k;cases y with
  |non=>cases d;exact PySem.EqNone.ne_bool_none (yD I q (by simp))
  |bl j=>cases d;exact ne_bool (yD I q (congrArg not zfh))
  |str j=>have #[f,rfl]:=d;exact PySem.EqMixed.ne_bool_str (yD I q (by simp))
  |_=>exact absurd (show am=U from g) bV
 |int i=>
  have #[t,rfl]:=k;cases y with
  |non=>cases d;exact PySem.EqNone.ne_int_none (yD I q (by simp))
  |int j=>have #[f,rfl]:=d;exact ne_int (yD I q (congrArg not zdf))
  |str j=>have #[f,rfl]:=d;exact PySem.EqMixed.ne_int_str (yD I q (by simp))
  |_=>exact absurd (show am=U from g) bV
 |str i=>
  have #[t,rfl]:=k;cases y with
  |non=>cases d;exact PySem.EqNone.ne_str_none (yD I q (by simp))
  |bl j=>cases d;exact PySem.EqMixed.ne_str_bool (yD I q (by simp))
  |int j=>have #[f,rfl]:=d;exact PySem.EqMixed.ne_str_int (yD I q (by simp))
  |str j=>have #[f,rfl]:=d;exact ne_str (yD I q (congrArg not zdg))
  |_=>exact absurd (show am=U from g) bV
 |byt i=>
  have #[t,rfl]:=k;cases y with
  |byt j=>have #[f,rfl]:=d;exact W.ne_bytes (yD I q (congrArg not zdh))
  |_=>exact absurd (show am=U from g) bV
 |_=>cases y <;> exact absurd (show am=U from g) bV
def jq:Av X (Bi .Lt) (rI0 λi j=>.bl (decide (i<j))):=zjp λ_ _ _ _ _ _ _ q=>lt_int q
def zfi:Av X (Bi .LtE) (rI0 λi j=>.bl (decide (i<=j))):=zjp λ_ _ _ _ _ _ _ q=>le_int q
def ziN:Av X (Bi .GtE) (rI0 λi j=>.bl (decide (j<=i))):=zjp λ_ _ _ _ _ _ _ q=>ge_int q
def QE:Av X (Bi .Is) (λx y H Q=>y=.non/\Q (.bl (decide (x=.non))) H):=by
 intro aa s σ H x y v u Q I d f h;have #[rfl,q]:=h;cases f;refine is_none_gen (yD I q ?_);cases x <;> first
  |(cases d;rfl)
  |(have #[t,rfl]:=d;rfl)
def Ve:Av X (Bi .IsNot) (λx y H Q=>y=.non/\Q (.bl (!decide (x=.non))) H):=by
 intro aa s σ H x y v u Q I d f h;have #[rfl,q]:=h;cases f;refine isnot_none_gen (yD I q ?_);cases x <;> first
  |(cases d;rfl)
  |(have #[t,rfl]:=d;rfl)
theorem zJ(b:ay)(h:op≠.In:=by lia)(d:op≠.NotIn:=by lia):behindInMarks op b=am:=by
 have g:(op==CmpOp.In)=am:=by cases op <;> first|rfl|exact absurd Z h
 have f:(op==CmpOp.NotIn)=am:=by cases op <;> first|rfl|exact absurd Z d
 cases b <;> simp[behindInMarks,g,f]
def jQ{r:R2}(i:Av X (Bi op) r)(l:PE X a ta)(k:PE X b tb)(j:behindInMarks op b=am):PE X (.Compare a [op] [b] pos) (aN r ta tb):=by intro aa s σ H Q I h;exact wpAny_Compare1 (zjo l k I h λv u d x y n m g f q=>i aa d σ n x y v u Q m g f q) j
def yK(t:TE):TT:=λσ H Q=>t σ H (tBk Q)
def zC{r:R2}(o:Av X (Bi op) r)(t:PE X a ta)(q:PE X b tb)(p:behindInMarks op b=am):PT X (.Compare a [op] [b] pos) (yK (aN r ta tb)):=by
 intro aa s σ H Q I h;refine wpAny_isTrue_Compare1 (aX (t aa s σ H _ I h) λv f ⟨x,J,C,j,n⟩=>aX (q aa f σ J _ C n) λu d ⟨y,G,A,i,m⟩=>
  aX (o aa d σ G x y v u _ A j i m) λc M ⟨z,D,w,g,k,e,l⟩=>?_) p
 subst e;cases g;exact fc {D,w,l}
def QF(r g:R2)(ta tb tc:TE):TE:=λσ H Q=>ta σ H λx l=>tb σ l λy j=>r x y j λz d=>∃k,z=.bl k /\
 (if k=U then tc σ d λf i=>g y f i Q else Q (.bl am) d)
def zfj{r i:R2}(N:Av X (Bi op) r)(f:Av X (Bi op') i)(ha:PE X a ta)(hb:PE X b tb)(T:PE X c tc)(O:lastMarks [op,op'] [b,c]=am:=by with_unfolding_all rfl):PE X (.Compare a [op,op'] [b,c] pos) (QF r i ta tb tc):=by
 intro aa s σ H Q I h;refine Compare_chain (aX (ha aa s σ H _ I h) λv w ⟨x,H1,I1,D,M⟩=>chain_link (aX (hb aa w σ H1 _ I1 M) λu t ⟨y,H2,I2,g,J⟩=>
  aX (N aa t σ H2 x y v u _ I2 D g J) λd q ⟨z,m,l,C,k,e,j⟩=>?_)) O
 subst e;cases C;refine fc ?_;cases k with
 |false=>exact ite_ff {.bl am,m,l,Z,j}
 |true=>exact ite_tt (chain_last (aX (T aa q σ m _ l j) λo p ⟨n,H4,I4,A,G⟩=>f aa p σ H4 y n u o Q I4 g A G))
def zfk{r i:R2}(ho:Av X (Bi op) r)(f:Av X (Bi op') i)(ha:PE X a ta)(hb:PE X b tb)(hc:PE X c tc)(hm:lastMarks [op,op'] [b,c]=am:=by with_unfolding_all rfl):PT X (.Compare a [op,op'] [b,c] pos) (yK (QF r i ta tb tc)):=by
 intro aa s σ H Q I h;refine isTrue_chain (aX (ha aa s σ H _ I h) λv w ⟨x,H1,I1,G,O⟩=>test_link (aX (hb aa w σ H1 _ I1 O) λu t ⟨y,H2,I2,g,N⟩=>
  aX (ho aa t σ H2 x y v u _ I2 G g N) λd q ⟨z,m,l,D,k,e,j⟩=>?_)) hm
 subst e;cases D;refine fc ?_;cases k with
 |false=>
  have #[k',e',T]:=j;cases e';exact ite_ff {m,l,T}
 |true=>
  refine ite_tt (test_last (aX (hc aa q σ m _ l j) λo p ⟨n,H4,I4,C,M⟩=>aX (f aa p σ H4 y n u o _ I4 g C M) ?_));rintro d' s5 ⟨z2,H5,I5,A,k2,e2,J⟩;subst e2;cases A;exact fc {H5,I5,J}
def QG:(Bb:Nat)<2^63:=by rw[bN];decide
def vD:Av X (binaryOp .Add) (λx y H Q=>∃i j,x=.str i/\y=.str j/\i.length+j.length<=Bb/\Q (.str (i++j)) H):=by intro aa s σ H x y v u Q I g f h;have #[i,j,rfl,rfl,k,q]:=h;have #[t,rfl]:=g;have #[d,rfl]:=f;exact add_str (λd l=>{.str (i++j),H,I.tok _,{_,Z},q}) k
def Zn{x:V}(r:aQ [x] us):∃u,us=[u]/\aR x u:=by
 cases r with
 |cons r1 r2=>cases r2;exact{_,Z,r1}
def ziO{x y:V}(r:aQ [x,y] us):∃u w',us=[u,w']/\aR x u/\aR y w':=by
 cases r with
 |cons r1 r2=>
  cases r2 with
  |cons r3 r4=>cases r4;exact{_,_,Z,r1,r3}
def zkD(K:bL)(x:V)(H:Hp)(n:Nat):Prop:=
 match x with
 |.str y=>y.length<=Bb/\n=y.length
 |.byt y=>y.size<=Bb/\n=y.size
 |.ref p=>(∃d,aO K H p d/\n=d.length)\/∃d,uZ K H p d/\n=d.length
 |_=>False
inductive Zh(K:bL)(xs:LV)(H:Hp)(Q:VK):Prop
 |mk (x n:_):xs=[x]->zkD K x H n->Q (.int n) H->Zh K xs H Q
inductive QH(K:bL)(xs:LV)(H:Hp)(Q:VK):Prop
 |mk (p ys:_):xs=[.ref p]->(aO K H p ys\/uZ K H p ys)->(∀l,H l=L->Q (.ref l) (upd H l (.lst ys)))->QH K xs H Q
theorem yv:qO X (.builtin "len") (Zh X.K):=by
 intro aa s σ H f v Q I r h;have #[x,n,rfl,e,q]:=h;have #[u,rfl,i]:=Zn r;have z:=QG;have w:Bb=16777216:=bN;cases x with
 |str y=>
  have #[t,rfl]:=i;obtain⟨o,g⟩:y.length<=Bb/\n=y.length:=e;subst g;exact len_str () {.int _,H,I.tok _,{_,Z},q}
 |byt y=>
  have #[t,rfl]:=i;obtain⟨o,g⟩:y.size<=Bb/\n=y.size:=e;subst g;exact W.len_bytes () {.int _,H,I.tok _,{_,Z},q}
 |ref p=>
  cases i;have g:(∃f,aO X.K H p f/\n=f.length)\/∃f,uZ X.K H p f/\n=f.length:=e;obtain ⟨f,hx,g⟩|⟨f,hx,g⟩:=g
  .subst g;have #[l,j,k,m]:=I.list hx;have d:=j.length;exact Calls.call_len_list k.isList (by simp only[bR];lia) {.int f.length,H,I.tok _,{_,by simp only[bR];rw[d]},q}
  .subst g;have #[l,j,k,m]:=I.tuple hx;have d:=j.length;exact len_tuple k (by simp only[bR];lia) {.int f.length,H,I.tok _,{_,by simp only[bR];rw[d]},q}
 |_=>exact(show False from e).elim
end
structure ObjM(h:aw)(x dx C:af)(mA:AG):Prop where
 obj:h.get? x=Y (gW C dx)
 ns:h.Ns1 dx mA
 ne:dx≠x
theorem zeg{g:AG}(n:h.Ns1 dx g):∃f,h.get? dx=Y f/\∀c,uI c f=Y (g c):=by
 have #[o,i,u,k,p,m,_,l]:=n;refine{o,k,λc=>?_};have e:=l c;unfold nsFind findBy at e;rw[<-Array.find?_toList] at e;unfold uI;rw[p];dsimp only;split
 .rename_i y q;rw[q] at e;exact congrArg Y e
 .rename_i q;rw[q] at e;have a:i.toList.any (·.refKey)=am:=by rw[List.any_eq_false];intro y j;have #[z,t,d]:=m y (Array.mem_toList_iff.mp j);simp[DictEntry.refKey,d]
  have r:¬ i.toList.any (·.refKey)=U:=by rw[a];exact bV
  rw[ak r];exact congrArg Y e
def ObjM.look(I:ObjM h x dx C mA):∃d,W.InstAt h x (gW C dx) C (Y d)/\∀c,uI c d=Y (mA c):=
 let ⟨d,ho,hl⟩:=zeg I.ns
 {d,{I.obj,Z,Z,ho},hl}
variable {A:aA}{dx C f:af}
section
variable {prog:au}{w:av}{K:bL}{mA:AG}{name:Str}{v:aq}
def zhw{Q:Aa}(X:K.In s.heap)(I:ObjM s.heap x dx C mA)(j:tL K C name=U)(i:uv K C=U)(k:f9 K (.ref C) name=Y L)(d:mA name=Y v)(c:W.handedIn v=U)(h:Q v { s with toks:=s.toks+1 }) :
  Bf (Bg prog w) A (getAttr (.ref x) name expr) Q E s:=by have #[l,J,g]:=I.look;exact W.get_value X J (sX j).1 (W.findObj_own i k Z (by rw[g,d])) c h
def zfl{d:Sem Bool}{Q:aq×zX->ap->Prop}(X:K.In s.heap)(I:ObjM s.heap x dx C mA)(c:tL K C name=U)(l:f9 K (.ref C) name=Y (Y (.ref f)))(j:W.isFn K (.ref f)=U)(i:mA name=L)(h:Q (.ref f,[.ref x]) s) :
  Bf (Bg prog w) A (getMethod (.ref x) name d) Q E s:=by have #[g,J,k]:=I.look;exact W.method_fn X J (sX c).1 (sX c).2 l (beq_iff_eq.mp j) (by show (uI name g).map (·.isSome)=Y am;rw[k,i];rfl) h
theorem zhx{k:yu}{Q:Unit->ap->Prop}(X:K.In s.heap)(I:ObjM s.heap x dx C mA)(p:f9 K (.ref C) "__setattr__"=Y (Y (.builtin "object.__setattr__")))(q:W.plainOver K C=U)(n:W.takerIn K C name=Y L)(t:uv K C=U)(m:tZ mA k)(o:k.length<=Bb)(h:∀h',ObjM h' x dx C (λy=>if y=name then Y v else mA y)->de dx s.heap h'->Q PUnit.unit { s with heap:=h',toks:=s.toks+2 }) :
  Bf (Bg prog w) A (setAttr (.ref x) name v) Q E s:=by have #[G,J,N]:=I.look;refine W.set_plain X J p (W.osa_open (s:={ s with toks:=s.toks+1 }) (r:=L) X J q n λb=>?_);have #[O,u,i]:=W.any_some t;have l:s.heap.get? x=Y {.ref C,Y dx,.plain,#[]}:=I.obj;refine bb (bu (bb (bb (wpAny_loadPart l (bb (W.Looks.here (s:={ s with toks:=s.toks+1 }) (W.looks_clsIn X u) ?_))))));rw[i];refine bu (a:=Y dx) (bb (bu (bb ?_)));refine wpAny_nsSet1 (s:={ s with toks:=s.toks+1 }) I.ns λh' d c=>?_;have #[M,z,D,g,hdD,j]:=d.count (PySem.Within.cons name v m);refine bb (wpAny_lookBehind g (by rw[hdD];exact pastItsLine_dict (bI j (by rw[b7];lia))) ?_);exact bu (h _ {(c.2 _ (eC I.ne)).trans I.obj,d,I.ne} c)
def zfm{R:aC->ap->Prop}{i:zX}(X:K.In s.heap)(j:uw K C=U)(k:f9 K (.ref C) "__init__"=Y (Y (.ref f)))(l:W.typeIn K (.ref f)=Y (.type "function"))(h:codeAny (Bg prog w) (A.under (.builtin "type.__call__" {.ref C::i,kw})) (.call (.ref f) {.ref (s.heap.objs.size+1)::i,kw}) (W.InitBack (s.heap.objs.size+1) R)
   { s with heap:=(s.heap.push fh).push (gW C s.heap.objs.size) }) :
  codeAny (Bg prog w) A (.call (.ref C) {i,kw}) R s:=by have #[n,g,d,t,m]:=s;exact W.make_core (W.makes_of X j) (W.looks_findIn X k) (λc=>W.bind_fn X c l) (.inl Z) h
def zeh{R:aC->ap->Prop}(X:K.In s.heap)(i:uw K C=U)(j:f9 K (.ref C) "__init__"=Y (Y (.builtin "object.__init__")))(k:∀c,W.Looks (Bg prog w) s.heap (bindSpecial (.builtin "object.__init__") c) (.builtin "object.__init__",[c]))(h:codeAny (Bg prog w) (A.under (.builtin "type.__call__" {[.ref C],[]})) (.call (.builtin "object.__init__") {[.ref (s.heap.objs.size+1)],[]}) (W.InitBack (s.heap.objs.size+1) R)
   { s with heap:=(s.heap.push fh).push (gW C s.heap.objs.size) }) :
  codeAny (Bg prog w) A (.call (.ref C) {[],[]}) R s:=by have #[m,g,d,t,l]:=s;exact W.make_core (W.makes_of X i) (W.looks_findIn X j) k (.inr {Z,Z}) h
end
def kz(f:Str)(v:V):LSV->LSV
 |[]=>[(f,v)]
 |(g,x)::r=>if g=f then (g,v)::r else (g,x)::kz f v r
theorem Wl(f g:Str)(v:V):∀d:LSV,(kz f v d).lookup g=if g=f then Y v else d.lookup g
 |[]=>by
  show dJ g [(f,v)]=_;by_cases h:g=f
  .have c:(g==f)=U:=beq_iff_eq.mpr h;simp only[dJ,c,ao h]
  .have c:(g==f)=am:=beq_eq_false_iff_ne.mpr h;simp only[dJ,c,ak h]
 |(k,x)::r=>by
  have i:=Wl f g v r;rw[show kz f v ((k,x)::r)=(if k=f then (k,v)::r else (k,x)::kz f v r) from rfl];by_cases hk:k=f
  .rw[ao hk];by_cases h:g=k
   .have c:(g==k)=U:=beq_iff_eq.mpr h;simp only[dJ,c,ao (h.trans hk)]
   .have c:(g==k)=am:=beq_eq_false_iff_ne.mpr h;simp only[dJ,c,ak (λe:g=f=>h (e.trans hk.symm))]
  .rw[ak hk];by_cases h:g=k
   .have c:(g==k)=U:=beq_iff_eq.mpr h;simp only[dJ,c,ak (λe:g=f=>hk (h.symm.trans e))]
   .have c:(g==k)=am:=beq_eq_false_iff_ne.mpr h;simp only[dJ,c];exact i
theorem XO(f:Str)(v:V):∀c:LSV,f∈(kz f v c).map (·.1)/\∀g,g∈c.map (·.1)->g∈(kz f v c).map (·.1)
 |[]=>{by simp[kz],λg h=>by simp at h}
 |(k,x)::r=>by
  have #[i,d]:=XO f v r;rw[show kz f v ((k,x)::r)=(if k=f then (k,v)::r else (k,x)::kz f v r) from rfl];by_cases hk:k=f
  .rw[ao hk];subst hk;exact{by simp,λg h=>by simpa using h}
  .rw[ak hk];refine{?_,λg h=>?_}
   .rw[bB];exact bt _ i
   .rw[bB] at h ⊢;obtain e|e:=bC.mp h
    .exact bC.mpr (.inl e)
    .exact bt _ (d g e)
theorem Wm(f:Str)(v:V):∀c:LSV,(kz f v c).length<=c.length+1
 |[]=>by simp[kz]
 |(k,x)::r=>by
  have d:=Wm f v r;rw[show kz f v ((k,x)::r)=(if k=f then (k,v)::r else (k,x)::kz f v r) from rfl];by_cases hk:k=f
  .rw[ao hk,b7,b7];lia
  .rw[ak hk,b7,b7];lia
def Ap.some_of(r:Ap (Y v) o):∃u,o=Y u/\aR v u:=by
 cases o with
 |none=>exact(show False from r).elim
 |some u=>exact{u,Z,r}
def Ap.none_of(r:Ap L o):o=L:=by
 cases o with
 |none=>rfl
 |some u=>exact(show False from r).elim
def zei(r:aR v u):W.handedIn u=U:=by
 cases v with
 |non=>cases (show u=da from r);rfl
 |bl b=>cases (show u=lY b from r);rfl
 |int i=>have #[t,e]:=(show ∃t,u=gU i t from r);cases e;rfl
 |str x=>have #[t,e]:=(show ∃t,u=lf x t from r);cases e;rfl
 |byt b=>have #[t,e]:=(show ∃t,u=Value.bytes b t from r);cases e;rfl
 |flt b=>have #[t,e]:=(show ∃t,u=ut b t from r);cases e;rfl
 |ref a=>cases (show u=bY a from r);rfl
 |ty n=>cases (show u=oJ n from r);rfl
section
variable {w:av}{fs fs':LSV}
def Vf(g:AH P w H h)(e:H a=Y (.ins C dx fs)):∃c,ObjM h a dx C c/\(∀f,Ap (fs.lookup f) (c f))/\tZ c (fs.map (·.1))/\fs.length<=1000/\H dx=Y (.own a):=by have #[d,z,j,i,c,n,r,q]:=(show aU P w H h a (.ins C dx fs) from g a _ e);exact{c,{i,n,j},r,q,z,d}
end
structure AB(K:bL)(C:af):Prop where
 pg:tL K C rC=U
 hd:uv K C=U
 po:W.plainOver K C=U
 sa:f9 K (.ref C) "__setattr__"=Y (Y (.builtin "object.__setattr__"))
def AB.get{K:bL}(c:AB K C)(f:Str):tL K C f=U:=c.pg
def aM(K:bL)(C:af)(f:Str):Prop:=f9 K (.ref C) f=Y L
def aM.taker{K:bL}{C:af}{f:Str}(n:aM K C f):W.takerIn K C f=Y L:=by unfold W.takerIn;rw[show f9 K (.ref C) f=Y L from n];rfl
structure QI(K:bL)(C:af)(m:Str)(f:af):Prop where
 at_:f9 K (.ref C) m=Y (Y (.ref f))
 fn:W.isFn K (.ref f)=U
 kp:pA K (.ref f)=U
section
variable {fs:LSV}{f:Str}{v:V}
def Vy{b:Bool}{Q:Aa}(I:aL X aa σ H s)(e:H a=Y (.ins C dx fs))(c:AB X.K C)(n:aM X.K C f)(l:fs.lookup f=Y v)(h:∀u d,aL X aa σ H d->aR v u->Q u d):Bf (Bg X.p X.w) A (getAttr (.ref a) f b) Q E s:=by have #[i,O,r,_,_,_]:=Vf I.hok e;have #[u,j,g]:=Ap.some_of (v:=v) (o:=i f) (by rw[<-l];exact r f);exact zhw I.kIn O (c.get f) c.hd n j (zei g) (h u _ (I.tok _) g)
def qm{d:Sem Bool}{Q:aq×zX->ap->Prop}(I:aL X aa σ H s)(e:H a=Y (.ins C dx fs))(c:AB X.K C)(k:QI X.K C m g)(l:fs.lookup m=L)(h:Q (.ref g,[.ref a]) s):Bf (Bg X.p X.w) A (getMethod (.ref a) m d) Q E s:=by have #[i,O,r,_,_,_]:=Vf I.hok e;have j:i m=L:=Ap.none_of (by rw[<-l];exact r m);exact zfl I.kIn O (c.get m) k.at_ k.fn j h
theorem YB{Q:Unit->ap->Prop}(I:aL X aa σ H s)(e:H a=Y (.ins C dx fs))(c:AB X.K C)(n:aM X.K C f)(J:fs.length<1000)(p:aR y u)(h:∀j,aL X aa σ (upd H a (.ins C dx (kz f y fs))) j->Q PUnit.unit j):Bf (Bg X.p X.w) A (setAttr (.ref a) f u) Q E s:=by
 have #[k,O,r,i,_,l]:=Vf I.hok e;have t:(fs.map (·.1)).length<=Bb:=by rw[bn,bN];lia
 refine zhx I.kIn O c.sa c.po n.taker c.hd i t λh' d m=>h _ ?_;have D:∃o,h'.get? dx=Y o:=let ⟨o,_,_,e',_⟩:=d.ns;{o,e'}
 refine I.write (x:=a) (e:=dx) (by rw[e];exact fH) (.inr l) (λb q G z=>(m.2 b G).trans z) D ?_;refine{by rw[zt O.ne];exact l,?_,O.ne,d.obj,_,d.ns,λg=>?_,λg w=>?_}
 .have:=Wm f y fs;lia
 .show Ap ((kz f y fs).lookup g) (if g=f then Y u else k g);rw[Wl];by_cases q:g=f
  .rw[ao q,ao q];exact p
  .rw[ak q,ak q];exact r g
 .by_cases q:g=f
  .rw[q];exact(XO f y fs).1
  .refine(XO f y fs).2 g (i g λz=>w ?_);show (if g=f then Y u else k g)=L;rw[ak q];exact z
theorem aL.made(I:aL X aa σ H s):aL X aa σ (upd (upd H s.heap.objs.size (.own (s.heap.objs.size+1))) (s.heap.objs.size+1) (.ins C s.heap.objs.size []))
  { s with heap:=(s.heap.push fh).push (gW C s.heap.objs.size) }:=by
 have g:(s.heap.push fh).get? s.heap.objs.size=Y fh:=bJ s.heap rfl;have n:((s.heap.push fh).push (gW C s.heap.objs.size)).get? (s.heap.objs.size+1)=Y (gW C s.heap.objs.size):=by
  have:=bJ (s.heap.push fh) (o:=gW C s.heap.objs.size) rfl
  rwa [fQ] at this
 have l:(s.heap.push fh).Ns s.heap.objs.size (λ_=>L):={fh,#[],_,g,Z,(λe k=>absurd k (by simp)),λ_=>rfl};have r:=I.laid (a:=s.heap.objs.size) (o:=.own (s.heap.objs.size+1)) (h':=s.heap.push fh) (t':=s.toks) (λb u q=>bg _ q) (bq _) {_,g};refine r.laid (a:=s.heap.objs.size+1) (o:=.ins C s.heap.objs.size []) (t':=s.toks) (λb u q=>bg _ q) (eX (fQ _ _)) ?_;have d:s.heap.objs.size≠s.heap.objs.size+1:=b8 (dX _);refine{by rw[zt d,zo],cf _,d,n,λ_=>L,(Heap.Ns1.of_empty l).at λo q=>bg _ q,λ_=>fH,λy j=>absurd Z j}
def zhy{c:Env}{f:Str}{pos:Pos}{Q:Aa}(g:attributeBase e f c (eval e c)=eval e c)(h:Bf (Bg prog w) A (eval e c) (λo d=>Bf (Bg prog w) A (getAttr o f U) Q E d) E s):Bf (Bg prog w) A (eval (.Attribute e f pos) c) Q E s:=
 Attribute_any_ h (by rw[arm_eval_Attribute,g])
end
inductive zfn(K:bL)(f:Str)(Q:VK)(x:V)(H:Hp):Prop
 |mk (a C dx fs v:_):x=.ref a->H a=Y (.ins C dx fs)->AB K C->aM K C f->fs.lookup f=Y v->Q v H->zfn K f Q x H
def xg(K:bL)(ta:TE)(f:Str):TE:=λσ H Q=>ta σ H (zfn K f Q)
inductive zaL(K:bL)(f:Str)(N:Hp->Prop)(y x:V)(H:Hp):Prop
 |mk (a C dx fs:_):x=.ref a->H a=Y (.ins C dx fs)->AB K C->aM K C f->fs.length<1000->N (upd H a (.ins C dx (kz f y fs)))->zaL K f N y x H
def vc(K:bL)(ta c:TE)(f:Str):TS:=λD σ H=>c σ H λy d=>ta σ d (zaL K f (D.nx σ) y)
def zkE(X:Cx)(d:Operator)(c:V->V->Hp->VK->Prop):Prop:=
 ∀(aa:Af)(s:ap)(σ:St)(H:Hp)(x y:V)(u v:aq)(Q:VK),aL X aa σ H s->aR x u->aR y v->c x y H Q->Bf (Bg X.p X.w) X.A (inplaceOp d u v) (EP X aa σ Q) X.xe s
def zdi(K:bL)(ta k:TE)(l:V->V->Hp->VK->Prop)(f:Str):TS:=λD σ H=>ta σ H λx j=>∃a C dx g v,x=.ref a/\j a=Y (.ins C dx g)/\AB K C/\aM K C f/\g.lookup f=Y v /\
 k σ j λy m=>l v y m λz i=>∃d c,i a=Y (.ins C d c)/\c.length<1000/\D.nx σ (upd i a (.ins C d (kz f z c)))
variable {o:ay}
section
variable {value:ay}{f:Str}{pos' tpos:Pos}{tv:TE}
def zH(i:PE X e ta)(j:attributeBase e f X.e (eval e X.e)=eval e X.e):PE X (.Attribute e f pos) (xg X.K ta f):=by intro aa s σ H Q I h;refine zhy j (aX (i aa s σ H _ I h) ?_);rintro u z ⟨x,t,r,d,a,C,dx,D,v,k,m,c,n,l,q⟩;subst k;obtain rfl:u=bY a:=d;exact Vy r m c n l λw y p g=>{v,t,p,g,q}
def yS(r:PE X o ta)(m:PE X value tv)(p:swapsWith value (Y (.Attribute o f pos')) pos.line X.e=pure am):PS X (.Assign [.Attribute o f pos'] value pos) (vc X.K ta tv f):=by intro aa s σ H D I h;refine lZ (aX (m aa s σ H _ I h) λu d ⟨y,J,G,g,q⟩=>aX (r aa d σ J _ G q) ?_) p;rintro k N ⟨x,Q,z,i,a,C,dx,O,t,v,c,n,l,j⟩;subst t;obtain rfl:k=bY a:=i;exact YB z v c n l g λM w=>{σ,_,w,j}
def zej{i:V->V->Hp->VK->Prop}(Q:PE X o ta)(O:PE X value tv)(d:zkE X op i):PS X (.AugAssign (.Attribute o f tpos) op value pos) (zdi X.K ta tv i f):=by intro aa s σ H D I h;refine wpAny_AugAssign_AttributeAny (aX (Q aa s σ H _ I h) ?_);rintro M s1 ⟨x,H1,I1,t,a,C,dx,fs,v,ex,ea,c,n,l,q⟩;subst ex;obtain rfl:M=bY a:=t;refine Vy I1 ea c n l λu m I2 w=>aX (O aa m σ H1 _ I2 q) λj k ⟨y,H2,I3,r,J⟩=>aX (d aa k σ H2 v y u j _ I3 w r J) ?_;rintro w4 s4 ⟨z,H3,I4,p,ac,T,g,N,G⟩;exact YB I4 g c n N p λs5 I5=>{σ,_,I5,G}
def zkF:V->V->Hp->VK->Prop:=λx y H Q=>∃i j,x=.int i/\y=.int j/\Q (.int (i+j)) H
def zjq:zkE X .Add zkF:=by rintro aa s σ H x y u v Q I g d ⟨i,j,rfl,rfl,q⟩;have #[t,rfl]:=(show ∃t,u=gU i t from g);have #[c,rfl]:=(show ∃c,v=gU j c from d);exact PyProof.Rows.iadd_int {.int (i+j),H,I.tok _,{_,Z},q}
end
section
variable {Q:Aa}{c:aq}{b:Bool}
inductive YC(K:bL)(H:Hp):V->aq->Prop where
 |non:YC K H .non (.type "NoneType")
 |bl (x:Bool):YC K H (.bl x) (.type "bool")
 |int (i:Int):YC K H (.int i) (.type "int")
 |str (x:Str):YC K H (.str x) (.type "str")
 |flt (x:UInt64):YC K H (.flt x) (.type "float")
 |lst {a:af} {xs:LV} (e:H a=Y (.lst xs)):YC K H (.ref a) (.type "list")
 |frz {a:af} {o:Obj} {xs:LV} (e:H a=Y (.frz o (.lst xs))):YC K H (.ref a) (.type "list")
 |tup {a:af} {xs:LV} (e:H a=Y (.tup xs)):YC K H (.ref a) (.type "tuple")
 |dK {a:af} {aI:xB} (e:H a=Y (.dK aI)):YC K H (.ref a) (.type "dict")
 |dT {a:af} {aI:yd} (e:H a=Y (.dT aI)):YC K H (.ref a) (.type "dict")
 |ins {a C dx:af} {fs:LSV} (e:H a=Y (.ins C dx fs)) (cl:AB K C) (ha:f9 K (.ref C) "__class__"=Y (Y (.builtin "object.__class__"))) (hn:ux K (.builtin "object.__class__") "__get__"=Y (Y (.builtin "getset_descriptor.__get__"))) (htk:W.takesIn K (.builtin "object.__class__")=Y U) (hm:uJ K C (.type "object")=Y U):YC K H (.ref a) (.ref C)
theorem zek{x:V}(I:aL X aa σ H s)(d:aR x u)(l:YC X.K H x t)(e:gL X.K t c=Y b)(h:∀m,Q (.bool b) { s with toks:=m }) :
  Bf (Bg X.p X.w) A (call (.builtin "isinstance") [u,c]) Q E s:=by
 cases l with
 |non=>cases (show u=da from d);exact iO W.kitx_none I.kIn fH e () h
 |bl y=>cases (show u=lY y from d);exact iO W.kitx_bool I.kIn fH e () h
 |int i=>have #[t,q]:=(show ∃t,u=gU i t from d);cases q;exact iO W.kitx_int I.kIn fH e () h
 |str y=>have #[t,q]:=(show ∃t,u=lf y t from d);cases q;exact iO W.kitx_str I.kIn fH e () h
 |flt y=>have #[t,q]:=(show ∃t,u=ut y t from d);cases q;exact iO W.kitx_float I.kIn fH e () h
 |@lst a j ea=>
  cases (show u=bY a from d);have #[_,_,n,_,g]:=(show aU X.p X.w H s.heap a (.lst j) from I.hok a _ ea);exact iO W.kitx_list I.kIn {_,g,Z} e () h
 |@frz a ob j ea=>
  cases (show u=bY a from d);have #[_,_,_,n,_,g]:=(show aU X.p X.w H s.heap a (.frz ob (.lst j)) from I.hok a _ ea);exact iO W.kitx_list I.kIn {_,g,Z} e () h
 |@tup a j ea=>
  cases (show u=bY a from d);have #[_,_,_,p]:=(show aU X.p X.w H s.heap a (.tup j) from I.hok a _ ea);have #[o,g,k,_]:=p;exact iO W.kitx_tuple I.kIn {o,g,k} e () h
 |@dK a aI ea=>
  cases (show u=bY a from d);have #[_,_,w,_,p]:=(show aU X.p X.w H s.heap a (.dK aI) from I.hok a _ ea);have #[o,r,v,g,k,_]:=p;exact iO W.kitx_dict I.kIn {o,g,k.1} e () h
 |@dT a aI ea=>
  cases (show u=bY a from d);have #[_,_,j,_,o,r,v,g,k,_]:=(show aU X.p X.w H s.heap a (.dT aI) from I.hok a _ ea);exact iO W.kitx_dict I.kIn {o,g,k.1} e () h
 |@ins a C dx fs ea cl ha hn htk hm=>
  cases (show u=bY a from d);have #[D,O,_]:=Vf I.hok ea;have #[z,J,_]:=O.look;exact iO (W.kitx_own (cl.get _) cl.hd ha hn htk hm) I.kIn J e () h
end
structure uW(k:Nat)(A:aA):Prop where
 hd:A.handled=L
 dp:A.depth+3*k+5<recursionLimit
 un:A.units+16*k+200<cLine
theorem uW.mono(r:uW k A)(h:j<=k):uW j A:={r.hd,by have:=r.dp;lia,by have:=r.un;lia}
theorem uW.deeper(r:uW (k+1) A)(c:Env):uW k (A.deeper c):=
 {r.hd,by have:=r.dp;show A.depth+1+3*k+5<_;lia,by have:=r.un;show A.units+3+16*k+200<_;lia}
theorem zcn{C:af}{c:zX}{d:List (Str×aq)}:(A.under (.builtin "type.__call__" {.ref C::c,d})).depth=A.depth+1:=by first|rfl|simp[t8,Code.weight,Code.isCreation,Code.isGuard,Code.isCaller,Code.frames,t9,guardIds]
theorem zco{C:af}{c:zX}{d:List (Str×aq)}:(A.under (.builtin "type.__call__" {.ref C::c,d})).units=A.units+1:=by first|rfl|simp[t8,Code.cUnits,Code.frames,t9]
theorem uW.make(r:uW (k+1) A)(C:af)(c:zX)(d:List (Str×aq)):uW k (A.under (.builtin "type.__call__" {.ref C::c,d})):=
 {r.hd,by have:=r.dp;rw[zcn];lia,by have:=r.un;rw[zco];lia}
theorem uW.depth(r:uW k A):A.depth<recursionLimit:=by have:=r.dp;lia
theorem uW.units(r:uW k A):A.units+64<cLine:=by have:=r.un;lia
def zy:TA:=λ_ H Q=>Q [] H
def zj(ta:TE)(d:TA):TA:=λσ H Q=>ta σ H λx i=>d σ i λc g=>Q (x::c) g
variable {es:List ay}
section
variable {t:TA}
def ze:PA X [] zy:=λ_ _ _ _ H Q I h=>fR {[],H,I,.nil,h}
def zc(n:PE X e te)(m:PA X es t)(l:Be (e::es) X.e=(am,eval e X.e)::Be es X.e:=by rfl):PA X (e::es) (zj te t):=by intro pos aa s σ H Q I h;rw[l];show Bf _ _ (spliced ((am,eval e X.e)::backTo pos (Be es X.e))) _ _ s;refine dG (aX (n aa s σ H _ I h) ?_);rintro u d ⟨x,v,q,i,k⟩;exact aX (m pos aa d σ v _ q k) λw y ⟨c,r,p,g,j⟩=>{x::c,r,p,.cons i g,j}
inductive zel(f:LV->HO)(Q:VK)(xs:LV)(H:Hp):Prop
 |mk:xs.length<=Bb->(∀p,H p=L->Q (.ref p) (upd H p (f xs)))->zel f Q xs H
def wQ(t:TA):TE:=λσ H Q=>t σ H (zel .tup Q)
def kO(t:TA):TE:=λσ H Q=>t σ H (zel .lst Q)
def zY{x1}(h:PA X es t):PE X (.Tuple es x1 pos) (wQ t):=by intro aa s σ H Q I k;refine wpAny_Tuple_spliced (aX (h pos aa s σ H _ I k) λj c ⟨i,g,d,r,z,q⟩=>{by rw[<-r.length];exact z,?_});have l:g c.heap.objs.size=L:=d.hok.fresh (bq _);refine{.ref c.heap.objs.size,upd g c.heap.objs.size (.tup i),d.laid (t':=c.toks) (λb u e=>bg _ e) (bq _) ?_,Z,q _ l};exact{z,j,r,{_,bJ _ Z,Z,_,Z}}
def yQ(h:PA X es t):PE X (.List es pos) (kO t):=by intro aa s σ H Q I k;refine wpAny_List_spliced (aX (h pos aa s σ H _ I k) λj c ⟨i,g,d,r,z,q⟩=>{by rw[<-r.length];exact z,?_});have l:g c.heap.objs.size=L:=d.hok.fresh (bq _);refine{.ref c.heap.objs.size,upd g c.heap.objs.size (.lst i),d.laid (t':=c.toks) (λb u e=>bg _ e) (bq _) ?_,Z,q _ l};exact{z,j,0,r,bJ _ Z}
end
abbrev Sp:=LV->Hp->VK->XK->Prop
abbrev CXT:=LEv->Hp->ap->XK->Aa
structure Env0(P:au)(w:av)(K:bL)(mg:AG)(base:aw)(A:aA)(outer:LEv)(s:ap)(H:Hp):Prop where
 frames:A.frames=Y outer
 mod:Mod K mg base
 bs:∀b o,base.get? b=Y o->s.heap.get? b=Y o/\H b=L
 bsz:base.objs.size<=s.heap.objs.size
 funs:s.heap.FunFrames base outer
 frf:∀b∈Ax outer,H b=L
 hok:AH P w H s.heap
 bare:AllBare s.gens
def CE(c:LEv)(P:au)(w:av)(H:Hp)(s:ap)(Q:VK)(u:aq)(d:ap):Prop:=
 ∃v H',d.os=s.os/\AllBare d.gens/\Un (Ax c) [] H H' s.heap d.heap/\AH P w H' d.heap/\aR v u/\Q v H'
def CR(g:CXT)(c:LEv)(P:au)(w:av)(H:Hp)(s:ap)(Q:VK)(E:XK)(r:aC)(d:ap):Prop:=
 match r with
 |.ok (.ret u)=>CE c P w H s Q u d
 |.ok _=>False
 |.error e=>g c H s E e d
structure pv(P:au)(w:av)(K:bL)(mg:AG)(base:aw)(CX:CXT)(k:Nat)(f:af)(fd:Bc)(ps:yu)(sp:Sp):Prop where
 len:∀vs H Q E,sp vs H Q E->vs.length=ps.length
 run:∀(A:aA)(outer:LEv)(s:ap)(H:Hp)(args:Args)(us:zX)(vs:LV)(Q:VK)(E:XK),uW k A->Env0 P w K mg base A outer s H->BindsTo s fd args (ps.zip us)->aQ vs us->sp vs H Q E ->
  codeAny (Bg P w) A (.call (.ref f) args) (CR CX outer P w H s Q E) s
def pv.mono{w:av}{K:bL}{mg:AG}{base:aw}{CX:CXT}{j k:Nat}{f:af}{fd:Bc}{ps:yu}{sp:Sp}(F:pv P w K mg base CX j f fd ps sp)(h:j<=k) :
  pv P w K mg base CX k f fd ps sp:={F.len,λA outer s H args us vs Q E c=>F.run A outer s H args us vs Q E (c.mono h)}
theorem Env0.make{w:av}{K:bL}{mg:AG}{base:aw}{A:aA}{outer:LEv}{s:ap}{H:Hp}(e:Env0 P w K mg base A outer s H)(C:af)(c:zX)(d:List (Str×aq)) :
  Env0 P w K mg base (A.under (.builtin "type.__call__" {.ref C::c,d})) outer s H:={by first|exact e.frames|(simpa[t8,Code.envs,t9,pushEnvs] using e.frames),e.mod,e.bs,e.bsz,e.funs,e.frf,e.hok,e.bare}
section
variable {s':ap}
def aL.env0(I:aL X aa σ H s):Env0 X.p X.w X.K X.mg X.M X.A X.k s H:=
 {I.ok.frames,I.ok.mod,I.bs,bI I.ok.bsz I.sz,I.stack,I.stkFree,I.hok,I.bare}
theorem aL.after{Q:VK}(I:aL X aa σ H s)(h:CE X.k X.p X.w H s Q u s'):EP X aa σ Q u s':=by have #[v,H',os,bare,un,hok,r,q]:=h;have #[k,g,d,t,j]:=s';obtain rfl:j=s.os:=os;exact{v,H',I.call (h':=k) (g':=g) (d':=d) (t':=t) (ch:=[]) un hok bare (λb z=>absurd z (by simp)),r,q}
end
def zV(g:Sp)(c:LV)(E:XK)(t:TA):TE:=λσ H Q=>t σ H λd i=>g (d++c) i Q E
inductive zcp(C:af)(m:Str)(R:VK)(x:V)(H:Hp):Prop
 |mk (a dx fs:_):x=.ref a->H a=Y (.ins C dx fs)->fs.lookup m=L->R x H->zcp C m R x H
def yo(C:af)(m:Str)(g:Sp)(c:LV)(E:XK)(ta:TE)(t:TA):TE:=λσ H Q=>ta σ H (zcp C m λx j=>t σ j λd i=>g (x::(d++c)) i Q E)
def Wn(C:af)(i:Sp)(c:LV)(E:XK)(t:TA):TE:=λσ H Q=>t σ H λg d=>∀x dx,d x=L->d dx=L->dx≠x ->
 i (.ref x::(g++c)) (upd (upd d dx (.own x)) x (.ins C dx [])) (λv j=>v=.non/\Q (.ref x) j) E
def uX(K:bL)(i:Bc)(d:yu)(g:zX):Prop:=
 ∀(s:ap)(c:zX),K.In s.heap->(c++g).length=d.length->BindsTo s i {c,[]} (d.zip (c++g))
def uX.all{K:bL}{g:Bc}(h:∀c:zX,c.length=ps.length->bindArgs g {c,[]}=pure (ps.zip c)):uX K g ps []:=λs c _ d=>by rw[rD] at d ⊢;exact .of_eq (h c d)
def wR(d:CXT)(X:Cx)(E:XK):Prop:=∀(aa:Af)(σ:St)(H:Hp)(s:ap)(e:aq)(c:ap),aL X aa σ H s->d X.k H s E e c->X.xe e c
variable {CX:CXT}{fd:Bc}{ps:yu}{sp:Sp}{p uV:Pos}
section
variable {k:Nat}{dvs:LV}{ds:zX}{E:XK}{x m:Str}{t:TA}
def QJ{H:Hp}{Q:VK}(F:pv X.p X.w X.K X.mg X.M CX k f fd ps sp)(j:uW k X.A)(q:uX X.K fd ps ds)(n:aQ dvs ds)(i:wR CX X E)(I:aL X aa σ H s)(r:aQ vs us)(h:sp (vs++dvs) H Q E):Bf (Bg X.p X.w) X.A (call (.ref f) us) (EP X aa σ Q) X.xe s:=by
 have d:aQ (vs++dvs) (us++ds):=r.append n;have l:(us++ds).length=ps.length:=by rw[<-d.length];exact F.len _ _ _ _ h
 refine tM (ii (F.run X.A X.k s H {us,[]} (us++ds) (vs++dvs) Q E j I.env0 (q s us I.kIn l) d h) λr g c=>?_);cases r with
 |error e=>exact i aa σ H s e g I c
 |ok fl=>
  cases fl with
  |ret u=>exact I.after c
  |next=>exact dQ c
  |brk=>exact dQ c
  |cont=>exact dQ c
def YX(F:pv X.p X.w X.K X.mg X.M CX k f fd ps sp)(j:uW k X.A)(u:Gl X x)(l:X.mg x=Y (.ref f))(n:pA X.K (.ref f)=U)(y:uX X.K fd ps ds)(w:aQ dvs ds)(i:wR CX X E)(z:PA X (e::es) t)(d:Bq x:=by lia)(v:Be (e::es) X.e=(am,eval e X.e)::Be es X.e:=by rfl)(c:(backTo pos (Be es X.e)).any (·.1)=am:=by rfl) :
  PE X (.Call (.Name x p) (e::es) [] pos) (zV sp dvs E t):=by intro aa s σ H Q I h;refine gc (vL I u l ?_ d);refine ot (h₀:=X.M) I.ok.mod.kin n (aX (z pos aa s σ H _ I h) λG J ⟨D,M,g,r,q⟩=>{g.kIn,?_}) v c;exact QJ F j y w i g r q
def QK{pl:Sem Bool}(M:PE X o ta)(c:AB X.K C)(j:QI X.K C m f)(F:pv X.p X.w X.K X.mg X.M CX k f fd ps sp)(J:uW k X.A)(O:uX X.K fd ps ds)(N:aQ dvs ds)(D:wR CX X E)(T:PA X (e::es) t)(d:Be (e::es) X.e=(am,eval e X.e)::Be es X.e:=by rfl)(g:(backTo pos (Be es X.e)).any (·.1)=am:=by rfl)(G:eval (.Call (.Attribute o m uV) (e::es) [] pos) X.e=(do
   let i <-eval o X.e
   standAt uV.atName
   let (f,first) <-holding [i] (getMethod i m pl)
   callWith pos f first (backTo pos (Be (e::es) X.e)) (backToKw pos (keywordEach [] X.e))):=by rfl) :
  PE X (.Call (.Attribute o m uV) (e::es) [] pos) (yo C m sp dvs E ta t):=by intro aa s σ H Q I h;refine nN (pl:=pl) (aX (M aa s σ H _ I h) ?_) G;rintro u w ⟨x,H1,v,y,a,dx,fs,ex,ea,l,q⟩;subst ex;obtain rfl:u=bY a:=y;refine qm v ea c j l ?_;refine ot (first:=[.ref a]) (h₀:=X.M) I.ok.mod.kin j.kp (aX (T pos aa w σ H1 _ v q) λus s2 ⟨vs,H2,n,r,z⟩=>{n.kIn,?_}) d g;exact QJ (us:=.ref a::us) (vs:=.ref a::vs) F J O N D n (.cons Z r) z
def zaM{pl:Sem Bool}(w:PE X o ta)(c:AB X.K C)(i:QI X.K C m f)(F:pv X.p X.w X.K X.mg X.M CX k f fd ps sp)(v:uW k X.A)(z:uX X.K fd ps ds)(y:aQ dvs ds)(n:wR CX X E)(r:eval (.Call (.Attribute o m uV) [] [] pos) X.e=(do
   let g <-eval o X.e
   standAt uV.atName
   let (f,first) <-holding [g] (getMethod g m pl)
   callWith pos f first (backTo pos (Be [] X.e)) (backToKw pos (keywordEach [] X.e))):=by rfl) :
  PE X (.Call (.Attribute o m uV) [] [] pos) (yo C m sp dvs E ta zy):=by intro aa s σ H Q I h;refine nN (pl:=pl) (aX (w aa s σ H _ I h) ?_) r;rintro u J ⟨x,N,d,j,a,dx,M,D,G,l,q⟩;subst D;obtain rfl:u=bY a:=j;refine qm d G c i l ?_;exact sY (first:=[.ref a]) d.kIn i.kp (QJ (us:=[.ref a]) (vs:=[.ref a]) F v z y n d (.cons Z .nil) q)
structure Mk(K:bL)(C f:af):Prop where
 makes:uw K C=U
 init:f9 K (.ref C) "__init__"=Y (Y (.ref f))
 fn:W.isFn K (.ref f)=U
 kp:pA K (.ref C)=U
def zaN{H:Hp}{Q:VK}(M:Mk X.K C f)(F:pv X.p X.w X.K X.mg X.M CX k f fd ps sp)(w:uW (k+1) X.A)(D:uX X.K fd ps ds)(z:aQ dvs ds)(q:wR CX X E)(I:aL X aa σ H s)(r:aQ vs us)(h:∀x dx,H x=L->H dx=L->dx≠x->sp (.ref x::(vs++dvs)) (upd (upd H dx (.own x)) x (.ins C dx [])) (λv N=>v=.non/\Q (.ref x) N) E) :
  Bf (Bg X.p X.w) X.A (call (.ref C) us) (EP X aa σ Q) X.xe s:=by
 have i:=h (s.heap.objs.size+1) s.heap.objs.size (I.hok.fresh (pB _)) (I.hok.fresh (bq _)) (b8 (dX _));have d:=aL.made (C:=C) I;have g:aQ (V.ref (s.heap.objs.size+1)::(vs++dvs)) (bY (s.heap.objs.size+1)::(us++ds)):=.cons Z (r.append z);have y:(bY (s.heap.objs.size+1)::us++ds).length=ps.length:=by have e:=g.length;rw[F.len _ _ _ _ i] at e;exact e.symm
 refine tM (zfm (f:=f) I.kIn M.makes M.init (beq_iff_eq.mp M.fn) (ii (F.run _ X.k _ _ {bY (s.heap.objs.size+1)::us,[]} (bY (s.heap.objs.size+1)::(us++ds)) _ _ E (w.make C us []) (d.env0.make C us []) (D _ (bY (s.heap.objs.size+1)::us) d.kIn y) g i) λr j c=>?_))
 cases r with
 |error e=>exact q aa σ _ _ e j d c
 |ok fl=>
  cases fl with
  |ret u=>
   have #[v,H',J,l,G,n]:=d.after c;subst G;exact{l,{V.ref (s.heap.objs.size+1),H',J,Z,n}}
  |next=>exact dQ c
  |brk=>exact dQ c
  |cont=>exact dQ c
def Z8(M:Mk X.K C f)(F:pv X.p X.w X.K X.mg X.M CX k f fd ps sp)(j:uW (k+1) X.A)(n:Gl X x)(l:X.mg x=Y (.ref C))(w:uX X.K fd ps ds)(v:aQ dvs ds)(i:wR CX X E)(y:PA X (e::es) t)(d:Bq x:=by lia)(u:Be (e::es) X.e=(am,eval e X.e)::Be es X.e:=by rfl)(c:(backTo pos (Be es X.e)).any (·.1)=am:=by rfl) :
  PE X (.Call (.Name x p) (e::es) [] pos) (Wn C sp dvs E t):=by intro aa s σ H Q I h;refine gc (vL I n l ?_ d);refine ot (h₀:=X.M) I.ok.mod.kin M.kp (aX (y pos aa s σ H _ I h) λD G ⟨z,J,g,r,q⟩=>{g.kIn,?_}) u c;exact zaN M F j w v i g r q
def zfo(M:Mk X.K C f)(F:pv X.p X.w X.K X.mg X.M CX k f fd ps sp)(g:uW (k+1) X.A)(j:Gl X x)(i:X.mg x=Y (.ref C))(n:uX X.K fd ps ds)(l:aQ dvs ds)(d:wR CX X E)(c:Bq x:=by lia):PE X (.Call (.Name x p) [] [] pos) (Wn C sp dvs E zy):=by intro aa s σ H Q I h;refine gc (vL I j i ?_ c);exact sY I.kIn M.kp (zaN (us:=[]) M F g n l d I .nil h)
end
structure aK(N P:yu)(sc:aB):Prop where
 kind:sc.kind=.function
 co:sc.isCoroutine=am
 gen:sc.isGenerator=am
 nd:N.Nodup
 pre:N.take P.length=P
 par:∀x∈P,sc.names.lookup x=Y .local\/sc.names.lookup x=Y .cell
 nofree:∀y∈sc.names,y.2≠.free
theorem KJ{d:Str->Option NameKind}{x:Str}:∀ {c:List (Str×aq)}{m:AG},(∀v,(x,v) ∉ c)->bindL d c m x=m x
 |[],_,_=>rfl
 |(n,v)::r,m,h=>by
  unfold bindL;rw[KJ λw g=>h w (bt _ g)];split
  .have:x≠n:=by rintro rfl;exact h v bw
   simp[this]
  .rfl
theorem KK{d:Str->Option NameKind}{x:Str}:∀ {c:List (Str×aq)}{m:AG},(∀v,(x,v) ∉ c)->bindC d c m x=m x
 |[],_,_=>rfl
 |(n,v)::r,m,h=>by
  unfold bindC;rw[KK λw g=>h w (bt _ g)];split
  .rfl
  .have:x≠n:=by rintro rfl;exact h v bw
   simp[this]
theorem KL{c:Str->Option NameKind}{x:Str}{v:aq}:∀ {P:yu}{d:zX}{i:Nat}{m:AG},P.Nodup->P[i]?=Y x->d[i]?=Y v->c x=Y .local ->
  bindL c (P.zip d) m x=Y v
 |[],_,_,_,_,h,_,_=>by simp at h
 |_::_,[],_,_,_,_,h,_=>by simp at h
 |p::P,w::d,0,m,nd,h1,h2,hk=>by simp at h1 h2;subst h1;subst h2;show bindL c ((p,w)::P.zip d) m p=_;unfold bindL;rw[KJ λv g=>(cw.mp nd).1 (rE g).1,ao hk];simp
 |p::P,w::d,i+1,m,nd,h1,h2,hk=>by show bindL c ((p,w)::P.zip d) m x=_;unfold bindL;exact KL (i:=i) (cw.mp nd).2 (by simpa using h1) (by simpa using h2) hk
theorem KM{c:Str->Option NameKind}{x:Str}{v:aq}:∀ {P:yu}{d:zX}{i:Nat}{m:AG},P.Nodup->P[i]?=Y x->d[i]?=Y v->c x≠Y .local ->
  bindC c (P.zip d) m x=Y v
 |[],_,_,_,_,h,_,_=>by simp at h
 |_::_,[],_,_,_,_,h,_=>by simp at h
 |p::P,w::d,0,m,nd,h1,h2,hk=>by simp at h1 h2;subst h1;subst h2;show bindC c ((p,w)::P.zip d) m p=_;unfold bindC;rw[KK λv g=>(cw.mp nd).1 (rE g).1,ak hk];simp
 |p::P,w::d,i+1,m,nd,h1,h2,hk=>by show bindC c ((p,w)::P.zip d) m x=_;unfold bindC;exact KM (i:=i) (cw.mp nd).2 (by simpa using h1) (by simpa using h2) hk
def start(N:yu)(c:LV):St:=c.map Y++oB (N.length-c.length) L
def Zi(CX:CXT)(P:au)(w:av)(K:bL)(mg:AG)(base:aw)(N:yu)(d:Str)(c:aB)(f:af)(i:aq)(A:aA)(outer:LEv)(s:ap)(H:Hp)(E:XK):Cx where
 p:=P
 w:=w
 K:=K
 mg:=mg
 M:=base
 A:=A.deeper (envOfC d c s.heap.objs.size f i)
 N:=N
 s₀:=s
 H₀:=H
 e:=envOfC d c s.heap.objs.size f i
 J:=outer
 k:=envOfC d c s.heap.objs.size f i::outer
 ex:=[]
 c:=U
 fn:=λ_=>U
 pn:=[]
 xe:=λe j=>Bf (Bg P w) (A.deeper (envOfC d c s.heap.objs.size f i)) (leaving (envOfC d c s.heap.objs.size f i) e) (λ_ g=>CX outer H s E e g) (λk g=>CX outer H s E k g) j
def zaO{d:aB}{n:Nat}{x:Str}(h:d.names.lookup x=Y .cell):∃c,(cellsFrom n d.names []).lookup x=Y c:=by have q:=W.cellsFrom_some d.names n [] (.inl h);exact gB.mp q
theorem zem{CX:CXT}{P:au}{w:av}{K:bL}{mg:AG}{m:aw}{N ps:yu}{j:Str}{d:aB}{f:af}{Q:aq}{A:aA}{g:LEv}{s s1:ap}{H:Hp}{E:XK}{T:zX}{D:LV}
  (S:aK N ps d) (hd:A.handled=L) (t:Env0 P w K mg m A g s H) (hl:D.length=ps.length) (r:aQ D T) (x:InCallC s s.heap.objs.size (bindL (envOfC j d s.heap.objs.size f Q).kindOf (ps.zip T) λ_=>L) (cellsFrom (s.heap.objs.size+1) d.names []) (bindC (envOfC j d s.heap.objs.size f Q).kindOf (ps.zip T) λ_=>L) s1) :
  aL (Zi CX P w K mg m N j d f Q A g s H E) [] (start N D) H s1:=by
 have ac:ps.length<=N.length:=by have:=congrArg gM S.pre;rw[bX] at this;lia
 have #[O,tk,rfl,hk]:=x.done;have G:∀b:af,b ∉ (Zi CX P w K mg m N j d f Q A g s H E).ex:=λb z=>absurd (show b∈([]:List af) from z) (by simp);refine{{t.mod,S.kind,Z,Z,bq _,λy z c O l=>?_,λy hy=>?_,λy c _ h=>?_,λ_=>hd,Around.frames_deeper t.frames,.inr {Z,Z},λb z=>absurd z (G b),t.bs,t.bsz,λb _ _=>G b,λb z=>absurd z (G b),t.funs,t.frf},
  rfl,t.bare,Un.kept hk,{_,x.toInCall.ns,λi y v O l h3=>?_},λy c h=>{_,x.cell y c h},t.hok.fresh (bq _),λy c h=>?_,λp J=>absurd (show p∈([]:Af) from J) (by simp),t.hok.kept hk,?_}
 .exact name_of_addr x.apart (fU O) (fU l)
 .have hy:d.names.lookup y=Y .cell\/d.names.lookup y=Y .free:=hy;obtain hy|hy:=hy
  .exact zaO hy
  .exact absurd Z (S.nofree _ (fU hy))
 .exact cS (x.above y c (fU h))
 .have M:i<D.length:=by
   unfold start at l;by_cases M:i<D.length
   .exact M
   .rw[cp (by simpa using M)] at l;rw[pC] at l;split at l <;> cases l
  have ha:D[i]?=Y v:=by
   unfold start at l;rw[cx (by simpa using M),bF] at l;cases e:D[i]? with
   |none=>rw[e] at l;cases l
   |some a=>rw[e] at l;cases l;rfl
  have #[u,hu,rv]:=r.get ha;have J:ps[i]?=Y y:=by rw[<-S.pre,fI ()];exact O
  have I:ps.Nodup:=by rw[<-S.pre];exact S.nd.sublist (mf _ _)
  refine{u,rv,?_};obtain k|k:=S.par y (bA J)
  .exact .inl {k,KL I J hu k}
  .have #[c,e]:=zaO (n:=s.heap.objs.size+1) k;refine .inr {.inl k,c,e,?_};have q:=x.cell y c e;rw[KM I J hu (by show d.names.lookup y≠_;rw[k];decide)] at q;exact q
 .exact t.hok.fresh (cS (x.above y c (fU h)))
 .unfold start;show _=N.length;rw[bh,bn,ik];lia
def ziP{CX:CXT}{P:au}{w:av}{K:bL}{mg:AG}{l:aw}{k:Nat}{f:af}{G g:Str}{j:Arguments}{m:List ax}{c:aB}{dV kV ai pm i ct oc:aq}{an od:Option af}
  {aj:Array (Option aq)} {N ps:yu} {sp:Sp} (lk:K.lookup f=Y {oc,od,.func (uy G g j m c dV kV ai pm an i ct),aj}) (ar:ur K i g=U) (S:aK N ps c) (ac:∀D H Q E,sp D H Q E->D.length=ps.length) (O:∀(A:aA)(d:LEv)(s:ap)(H:Hp)(D:LV)(Q:VK)(E:XK),uW k (A.deeper (envOfC g c s.heap.objs.size f i))->sp D H Q E ->
   ∃t,PSs (Zi CX P w K mg l N g c f i A d s H E) m t/\t { nx:=λ_ H'=>Q .non H',rt:=Q } (start N D) H) :
  pv P w K mg l CX (k+1) f (uy G g j m c dV kV ai pm an i ct) ps sp:=by
 refine{ac,λA d s H az us D Q E hr e0 hb r ag=>?_};have hl:=ac _ _ _ _ ag;have KX:K.In s.heap:=e0.mod.kin.keeps λb o e=>(e0.bs b o e).1;have al:s.heap.NoLimit:=e0.mod.nolimit.keeps λb o e=>(e0.bs b o e).1;have M:∀y∈ps.zip us,c.names.lookup y.1=Y .local\/(c.names.lookup y.1=Y .cell/\((cellsFrom (s.heap.objs.size+1) c.names []).lookup y.1).isSome=U):=λ⟨n,v⟩ hy=>by
  obtain q|q:=S.par n (rE hy).1
  .exact .inl q
  .exact .inr {q,W.cellsFrom_some _ _ _ (.inl q)}
 refine codeAny_call_function hr.depth (KX _ _ lk) Z S.co S.gen Z (W.codeRec_of KX ar) (hb _ _ _ _ ?_);refine wpAny_newFunctionEnv_cells S.kind M λaP he s1 x=>?_;subst he;refine{al.keeps x.toInCall.keep,codeAny_func ?_};have #[t,ht,hq]:=O A d s H D Q E (hr.deeper _) ag;have I:aL (Zi CX P w K mg l N g c f i A d s H E) [] (start N D) H s1:=zem S hr.hd e0 hl r x;refine eL (ht [] s1 (start N D) H _ I hq) (λfl s' T=>?_) λe s' T=>T;have fin:∀ {z:St}{H':Hp}{v:V}{u:aq},aL (Zi CX P w K mg l N g c f i A d s H E) [] z H' s'->aR v u->Q v H'->CE d P w H s Q u s':=
  λ{z H' v u} J rv q=>{v,H',J.os,J.bare,J.base,J.hok,rv,q}
 cases fl with
 |ret u=>
  have #[v,z,H',J,rv,q]:=T;exact fin J rv q
 |next=>
  have #[z,H',J,q]:=T;exact fin (v:=V.non) (u:=da) J Z q
 |brk=>
  have #[_,_,_,q]:=T;exact dQ q
 |cont=>
  have #[_,_,_,q]:=T;exact dQ q
section
variable {x:Str}{t:TA}{id T:String}{r:LV->Hp->VK->Prop}
def An(r:LV->Hp->VK->Prop)(t:TA):TE:=λσ H Q=>t σ H λc d=>r c d Q
def zP(w:qO X (.builtin id) r)(u:Gl X x)(q:X.mg x=L)(m:Bh x=Y (.builtin id))(y:PA X (e::es) t)(n:x≠"__name__":=by lia)(d:Bq x:=by lia)(v:Be (e::es) X.e=(am,eval e X.e)::Be es X.e:=by rfl)(c:(backTo pos (Be es X.e)).any (·.1)=am:=by rfl):PE X (.Call (.Name x p) (e::es) [] pos) (An r t):=by intro aa s σ H Q I h;refine gc (XM I u q m ?_ n d);exact PyProof.Rows.callWith_builtin1 (aX (y pos aa s σ H _ I h) λi j ⟨g,D,z,k,l⟩=>w aa j σ D g i Q z k l) v c
def yz(w:qO X (.type T) r)(u:Gl X x)(q:X.mg x=L)(m:Bh x=Y (.type T))(y:PA X (e::es) t)(n:x≠"__name__":=by lia)(d:Bq x:=by lia)(v:Be (e::es) X.e=(am,eval e X.e)::Be es X.e:=by rfl)(c:(backTo pos (Be es X.e)).any (·.1)=am:=by rfl):PE X (.Call (.Name x p) (e::es) [] pos) (An r t):=by intro aa s σ H Q I h;refine gc (XM I u q m ?_ n d);exact fT (aX (y pos aa s σ H _ I h) λi j ⟨g,D,z,k,l⟩=>w aa j σ D g i Q z k l) v c
end
end L2
namespace HT
open PySem PyProof.Rows
def rcLt_int(A:aA)(s:ap)(a:Int)(t:Tok)(c:Int)(u:Tok)(b:au)(w:av)(E:aq->ap->Prop)(Q:aq->ap->Prop)(h:Q (.bool (decide (a<c))) s) :
  Bf (Bg b w) A (richCompare .Lt (.int a t) (.int c u)) Q E s:=
 (sJ h:Bf (Bg b w) A (Bi .Lt (.int a t) (.int c u)) Q E s)
section
variable {prog:au}{w:av}{A:aA}{E:aq->ap->Prop}{s:ap}
theorem cat_tup{Q:aq->ap->Prop}(r:IsTup s.heap t vs.toArray)(u:IsTup s.heap b ws.toArray)(l:vs≠[])(x:ws=[]->Q (.ref t) s)(v:ws≠[]->Q (.ref s.heap.objs.size) { s with heap:=s.heap.push { cls:=.type "tuple",data:=.seq (vs++ws).toArray } })(h:vs.length+ws.length<=Bb):Bf (Bg prog w) A (binaryOp .Add (.ref t) (.ref b)) Q E s:=by
 have #[#[cls,p,data,j],g,o,n,m]:=id r;have #[#[q,f,i,c],a,d,k,AO]:=id u;simp only at o m d AO;subst o m d AO;have e:vs.toArray++ws.toArray=(vs++ws).toArray:=by simp
 by_cases hw:ws=[]
 .exact concat_meets {_,g,Z} {_,a,Z} noFill_tuple_add seq_tuple_add pZ pD (oK _ _) (tuple_addW1 t b vs.toArray ws.toArray n k p f j c (by simpa using l) (by simp[hw])) {g,a,x hw}
 .refine concat_meets {_,g,Z} {_,a,Z} noFill_tuple_add seq_tuple_add pZ pD (oK _ _) (tuple_addW2 t b vs.toArray ws.toArray n k p f j c (by simpa using l) (by simpa using hw) (by rw[bR,bR];exact h)) {g,a,?_}
  rw[e];exact v hw
def sIx(n d:Nat):Option Int->Nat
 |none=>d
 |some v=>if v<0 then (v+(n:Int)).toNat else min v.toNat n
def sIx_none(n d:Nat):sIx n d L=d:=rfl
theorem sIx_nat(n d k:Nat):sIx n d (Y (k:Int))=min k n:=by show (if (k:Int)<0 then ((k:Int)+(n:Int)).toNat else min (k:Int).toNat n)=min k n;rw[ak (),fi]
theorem sIx_le(n d:Nat)(a:d<=n)(o:Option Int):sIx n d o<=n:=by
 cases o with
 |none=>exact a
 |some v=>
  show (if v<0 then (v+(n:Int)).toNat else min v.toNat n)<=n;by_cases hv:v<0
  .rw[ao hv];lia
  .rw[ak hv];exact uh _ _
end
end HT
namespace L2
open PySem PySem.Spec PyProof.Rows
abbrev TO:=St->Hp->(Option Int->Hp->Prop)->Prop
def PO(X:Cx)(e:Option ay)(t:TO):Prop:=
 ∀(b:Af)(s:ap)(a:St)(H:Hp)(Q:Option Int->Hp->Prop),aL X b a H s->t a H Q ->
  Bf (Bg X.p X.w) X.A (evalPart e X.e) (λu d=>∃o c,aL X b a c d/\IsPart u o/\Q o c) X.xe s
def vN:TO:=λ_ H Q=>Q L H
inductive zfp(Q:Option Int->Hp->Prop)(x:V)(H:Hp):Prop
 |mk (i:_):x=.int i->Q (Y i) H->zfp Q x H
def wC(t:TE):TO:=λa H Q=>t a H (zfp Q)
abbrev ym:=List Int
variable {X:Cx}{e:ay}{pos:Pos}
section
variable {te:TE}{lo hi:Option ay}{tl th:TO}{p2:Pos}
def ji:PO X L vN:=by intro b s a H Q I h;rw[evalPart_none];exact bu {L,H,I,.none,h}
def xm(h:PE X e te):PO X (Y e) (wC te):=by intro f s a H Q I d;rw[evalPart_some];refine aX (h f s a H _ I d) ?_;rintro u k ⟨x,j,g,b,c⟩;have #[i,rfl,q]:=c;have #[t,rfl]:=b;exact{Y i,j,g,.int i t,q}
def SlR(X:Cx)(r:V->Option Int->Option Int->Hp->VK->Prop):Prop:=
 ∀(f:Af)(s:ap)(a:St)(H:Hp)(x:V)(v c b:aq)(lo hi:Option Int)(d:af)(Q:VK),aL X f a H s->aR x v->s.heap.IsSliceOf d c b .none->IsPart c lo->IsPart b hi->r x lo hi H Q ->
  ∃T id,typeLookup (.type T) "__getitem__"=pure (Y (.builtin id))/\s.TypeIs v T/\Bf (Bg X.p X.w) X.A (getItem v (.ref d)) (EP X f a Q) X.xe s
def tSl(r:V->Option Int->Option Int->Hp->VK->Prop)(te:TE)(tl th:TO):TE:=λa H Q=>te a H λx d=>tl a d λl c=>th a c λu b=>r x l u b Q
def xJ{r:V->Option Int->Option Int->Hp->VK->Prop}(A:SlR X r)(E:PE X e te)(C:PO X lo tl)(y:PO X hi th):PE X (.Subscript e (.Slice lo hi L p2) pos) (tSl r te tl th):=by intro d s c H Q I h;refine Subscript_ (aX (E d s c H _ I h) ?_);rintro v k ⟨x,H1,O,m,p⟩;refine wpAny_Slice (aX (C d k c H1 _ O p) λg j ⟨l,H2,N,w,o⟩=>aX (y d j c H2 _ N o) ?_);rintro f a ⟨u,i,M,t,n⟩;rw[evalPart_none];refine bu ?_;have J:aL X d c i { a with heap:=a.heap.push { cls:=.type "slice",data:=.fields #[g,f,.none] } }:=M.kept (t':=a.toks) λb ob q=>bg _ q;have #[T,id,G,z,D]:=A d { a with heap:=a.heap.push { cls:=.type "slice",data:=.fields #[g,f,.none] } } c i x v g f l u a.heap.objs.size Q J m (Heap.IsSliceOf.new ..) w t n;show Bf (Bg X.p X.w) X.A (subscriptTail e (.Slice lo hi L p2) v (.ref a.heap.objs.size)) (EP X d c Q) X.xe { a with heap:=a.heap.push { cls:=.type "slice",data:=.fields #[g,f,.none] } };exact tail_any (ops:=[.ref a.heap.objs.size,v]) z G D (by with_unfolding_all rfl)
def kB(a:LV)(lo hi:Option Int):LV:=(a.drop (HT.sIx a.length 0 lo)).take (HT.sIx a.length a.length hi-HT.sIx a.length 0 lo)
theorem zaP(a:LV)(lo hi:Option Int):(kB a lo hi).length<=a.length:=by unfold kB;rw[bX,cq];lia
def zfq(K:bL):R2:=λx y H Q=>∃a b d c,x=.ref a/\y=.ref b/\uZ K H a d/\uZ K H b c/\d≠[]/\d.length+c.length<=Bb /\
 (c=[]->Q (.ref a) H)/\(c≠[]->∀p,H p=L->Q (.ref p) (upd H p (.tup (d++c))))
theorem aQ.nil_iff(r:aQ xs us):us=[]↔xs=[]:=by
 cases r with
 |nil=>simp
 |cons _ _=>simp
def zdj:Av X (binaryOp .Add) (zfq X.K):=by intro G s D H x y v u Q I l k h;have #[a,b,j,i,rfl,rfl,C,A,t,g,n,m]:=h;cases l;cases k;have #[r,d,p,_]:=I.tuple C;have #[f,c,p2,_]:=I.tuple A;refine HT.cat_tup p p2 (λz=>t (d.nil_iff.mp z)) (λz=>{.ref a,H,I,Z,n (c.nil_iff.mp z)}) (λz=>?_) (by rw[<-d.length,<-c.length];exact g);refine{.ref s.heap.objs.size,_,I.laid (t':=s.toks) (o:=.tup (j++i)) (λb E q=>bg _ q) (bq _) ?_,Z,m (λw=>z (c.nil_iff.mpr w)) _ (I.hok.fresh (bq _))};exact{by rw[bh];exact g,_,d.append c,IsTup.new _ _}
end
def ixN(n:Nat)(i:Int):Option Nat:=if 0<=i then (if i<n then Y i.toNat else L) else if -(n:Int)<=i then Y (i+n).toNat else L
def Ay{α:Type}(a:List α)(i:Int):Option α:=(ixN a.length i).bind λj=>a[j]?
theorem zhz{i:Int}(h:ixN n i=Y j):seqIndex? i n=Y j/\j<n/\-(n:Int)<=i/\i<n:=by
 unfold ixN at h;by_cases h0:0<=i
 .rw[ao h0] at h;by_cases h1:i<n
  .rw[ao h1] at h;have e:i.toNat=j:=bU h;exact{by rw[seqIndex_of h0 h1,e],(),(),h1}
  .rw[ak h1] at h;cases h
 .rw[ak h0] at h;by_cases h1:-(n:Int)<=i
  .rw[ao h1] at h;have e:(i+n).toNat=j:=bU h;exact{by rw[seqIndex_neg () h1,e],(),h1,()}
  .rw[ak h1] at h;cases h
def QL{b:Type}{a:List b}{i:Int}{v:b}(h:Ay a i=Y v):∃j,seqIndex? i a.length=Y j/\a[j]?=Y v/\j<a.length/\-(a.length:Int)<=i/\i<a.length:=by
 unfold Ay at h;cases e:ixN a.length i with
 |none=>rw[e] at h;cases h
 |some j=>
  rw[e] at h;have #[g,f,d,c]:=zhz e;exact{j,g,h,f,d,c}
theorem xS{b:Type}{a:List b}{j:Nat}{v:b}(h:a[j]?=Y v):Ay a (j:Int)=Y v:=by
 have c:j<a.length:=(bd.mp h).1;have e:ixN a.length (j:Int)=Y j:=by unfold ixN;rw[ao (),ao ()];simp
 unfold Ay;rw[e];exact h
theorem atI_last{b:Type}(a:List b)(v:b):Ay (a++[v]) (-1)=Y v:=by
 have c:(a++[v]).length=a.length+1:=by simp
 have e:ixN (a++[v]).length (-1)=Y a.length:=by unfold ixN;rw[c,ak (),ao ()];congr 1;lia
 unfold Ay;rw[e];show (a++[v])[a.length]?=Y v;simp
def zdk(b:ay):Prop:=∀o i,subscripted b am o i=operate [o,i] (getItem o i)
def IxR(X:Cx)(r:R2):Prop:=
 ∀(b a:ay)(d:Af)(s:ap)(c:St)(H:Hp)(x y:V)(v u:aq)(Q:VK),aL X d c H s->aR x v->aR y u->r x y H Q ->
  subscripted a am v u=operate [v,u] (getItem v u)->Bf (Bg X.p X.w) X.A (subscriptTail b a v u) (EP X d c Q) X.xe s
def MtR(X:Cx)(id:String)(r:V->LV->Hp->VK->Prop):Prop:=
 ∀(d:Af)(s:ap)(a:St)(H:Hp)(x:V)(b:LV)(v:aq)(c:zX)(Q:VK),aL X d a H s->aR x v->aQ b c->r x b H Q ->
  Bf (Bg X.p X.w) X.A (call (.builtin id) (v::c)) (EP X d a Q) X.xe s
variable {o:ay}{uV u6:Pos}
section
variable {a b:ay}{ta tb:TE}
def zkH{r:R2}(j:IxR X r)(l:PE X a ta)(k:PE X b tb)(i:zdk b):PE X (.Subscript a b pos) (aN r ta tb):=by intro m s c H Q I h;exact Subscript_ (zjo l k I h λv u d x y p n g f q=>j a b m d c p x y v u Q n g f q (i _ _))
inductive jO(K:bL)(x y:V)(H:Hp)(Q:VK):Prop
 |mk (p xs i v:_):x=.ref p->y=.int i->aO K H p xs->Ay xs i=Y v->Q v H->jO K x y H Q
inductive xR(K:bL)(x y:V)(H:Hp)(Q:VK):Prop
 |mk (p xs i v:_):x=.ref p->y=.int i->uZ K H p xs->Ay xs i=Y v->Q v H->xR K x y H Q
inductive zfr(x y:V)(H:Hp)(Q:VK):Prop
 |mk (z i c:_):x=.str z->y=.int i->z.length<=Bb->Ay z.cps.toList i=Y c->Q (.str ⟨#[c]⟩) H->zfr x y H Q
theorem zU:IxR X (jO X.K):=by
 intro d f D s n H x y v u Q I J G h A;have #[p,xs,i,z,rfl,rfl,M,O,q]:=h;cases J;have #[t,rfl]:=G;have #[l,r,k,hz]:=I.list M;have #[j,c,h2,h3,h4,T]:=QL O;have #[w,C,g]:=r.get h2;have N:=r.length;have hn:=QG;have fin:EP X D n Q w s:={z,H,I,g,q};by_cases h0:0<=i
 .have m:i.toNat=j:=by rw[seqIndex_of h0 T] at c;exact bU c
  exact item_listR k.isList h0 () (by rw[m];simpa using C) fin A
 .have m:(i+(l.toArray.size:Int)).toNat=j:=by rw[seqIndex_neg () h4] at c;rw[bR,<-N];exact bU c
  exact p8 (x:=w) k.isList.typeIs slot_list_getitem.lookup
   (wpAny_getItem_list_neg (Q:=λr E=>r=w/\EP X D n Q r E) k.isList () (by rw[bR] <;> lia) () (by rw[m];simpa using C) {Z,fin}) A
theorem ya:IxR X (xR X.K):=by
 intro c d l s g H x y v u Q I A n h D;have #[p,T,i,z,rfl,rfl,E,J,q]:=h;cases A;have #[t,rfl]:=n;have #[C,r,k,hz]:=I.tuple E;have #[j,N,M,h3,h4,h5]:=QL J;have #[w,O,f]:=r.get M;have G:=r.length;have hn:=QG;have fin:EP X l g Q w s:={z,H,I,f,q};exact p8 (x:=w) k.typeIs slot_tuple_getitem.lookup
  (getItem_tuple (j:=j) (Q:=λr m=>r=w/\EP X l g Q r m) k () () (by rw[bR,<-G];exact N) (by simpa using O) {Z,fin}) D
theorem zcq:IxR X zfr:=by
 intro d f O s E H x y v u Q I l k h m;have #[z,i,c,rfl,rfl,J,p,q]:=h;have #[t,rfl]:=l;have #[G,rfl]:=k;have #[j,g,A,N,w,r]:=QL p;have n:z.cps.toList.length=z.length:=by simp[mj]
 rw[n] at g w r;have M:=QG;exact tail_any (rV s z t) slot_str_getitem.lookup (getItem_str (c:=c) (by have D:decide (i < -(2^63:Int))=am:=Bk ();have C:decide (i >= 2^63)=am:=Bk ();rw[D,C,Bool.or_false]) (by rw[g];simpa using A) {.str ⟨#[c]⟩,H,I.tok _,{_,Z},q}) m
theorem QM(lo c:Option Int)(n:Nat):(sliceBounds lo c L n).1=((HT.sIx n 0 lo:Nat):Int)/\(sliceBounds lo c L n).2.1=((HT.sIx n n c:Nat):Int)/\(sliceBounds lo c L n).2.2=1:=by
 refine{?_,?_,Z}
 .cases lo with
  |none=>simp[sliceBounds,HT.sIx]
  |some i=>
   simp only[sliceBounds,HT.sIx,ui,show (1:Int) > 0 by lia,if_true];by_cases h:i<0
   .simp only[h,if_true] <;> lia
   .simp only[h,if_false] <;> lia
 .cases c with
  |none=>simp[sliceBounds,HT.sIx]
  |some i=>
   simp only[sliceBounds,HT.sIx,ui,show (1:Int) > 0 by lia,if_true];by_cases h:i<0
   .simp only[h,if_true] <;> lia
   .simp only[h,if_false] <;> lia
theorem JY(c:zX)(lo d:Option Int):slicePick c.toArray lo d L=((c.drop (HT.sIx c.length 0 lo)).take (HT.sIx c.length c.length d-HT.sIx c.length 0 lo)).toArray:=by have #[h,g,f]:=QM lo d c.toArray.size;unfold slicePick;rw[h,g,f];simp only[sliceRange_one,pick_run,bR] <;> rfl
inductive YD(K:bL)(x:V)(lo hi:Option Int)(H:Hp)(Q:VK):Prop
 |mk (a xs:_):x=.ref a->aO K H a xs->(∀p,H p=L->Q (.ref p) (upd H p (.lst (kB xs lo hi))))->YD K x lo hi H Q
theorem wL:SlR X (YD X.K):=by intro A s t H x v w u lo f y Q I i p k j h;have #[a,c,rfl,n,q]:=h;cases i;have #[l,r,g,m]:=I.list n;have d:=r.length;refine{"list",_,slot_list_getitem.lookup,g.isList.typeIs,?_};refine wpAny_getItem_list_slice g.isList p k j .none (by simp) ?_ (by rw[bR] <;> lia);rw[JY,<-d];refine{.ref s.heap.objs.size,_,I.laid (t':=s.toks) (o:=.lst (kB c lo f)) (λb z q=>bg _ q) (bq _) ?_,Z,q _ (I.hok.fresh (bq _))};exact{bI (zaP c lo f) m,_,0,(r.drop (HT.sIx c.length 0 lo)).take (HT.sIx c.length c.length f-HT.sIx c.length 0 lo),bJ _ Z}
def YY:V->Bool
 |.non=>U
 |.bl _=>U
 |.int _=>U
 |.str _=>U
 |_=>am
def eqV:V->V->Bool
 |.non,.non=>U
 |.bl a,.bl b=>a==b
 |.bl a,.int b=>(if a then 1 else 0)==b
 |.int a,.bl b=>a==(if b then 1 else 0)
 |.int a,.int b=>a==b
 |.str a,.str b=>a==b
 |_,_=>am
def zjr(f:aR y u)(c:aR x v)(h:YY y=U)(g:YY x=U):SeqAt.EqAt A s u v (eqV y x):=by
 cases y with
 |non=>
  cases f;cases x with
  |non=>cases c;exact SeqAt.EqAt.same _
  |bl b=>cases c;exact SeqAt.EqAt.none_bool b
  |int b=>have #[t,rfl]:=c;exact SeqAt.EqAt.none_int b t
  |str b=>have #[t,rfl]:=c;exact SeqAt.EqAt.none_str b t
  |_=>exact absurd (show am=U from g) bV
 |bl a=>
  cases f;cases x with
  |non=>cases c;exact SeqAt.EqAt.bool_none a
  |bl b=>cases c;exact SeqAt.EqAt.bool_bool a b
  |int b=>have #[t,rfl]:=c;exact SeqAt.EqAt.bool_int a b t
  |str b=>have #[t,rfl]:=c;exact SeqAt.EqAt.bool_str a b t
  |_=>exact absurd (show am=U from g) bV
 |int a=>
  have #[d,rfl]:=f;cases x with
  |non=>cases c;exact SeqAt.EqAt.int_none a d
  |bl b=>cases c;exact SeqAt.EqAt.int_bool a d b
  |int b=>have #[t,rfl]:=c;exact ou a d b t
  |str b=>have #[t,rfl]:=c;exact sU a d b t
  |_=>exact absurd (show am=U from g) bV
 |str a=>
  have #[d,rfl]:=f;cases x with
  |non=>cases c;exact SeqAt.EqAt.str_none a d
  |bl b=>cases c;exact SeqAt.EqAt.str_bool a d b
  |int b=>have #[t,rfl]:=c;exact sV a d b t
  |str b=>have #[t,rfl]:=c;exact oy a d b t
  |_=>exact absurd (show am=U from g) bV
 |_=>exact absurd (show am=U from h) bV
def eqU(x:V)(u:aq):Bool:=match u with
 |.none=>eqV .non x
 |.bool b=>eqV (.bl b) x
 |.int i _=>eqV (.int i) x
 |.str z _=>eqV (.str z) x
 |_=>am
def zfs(r:aR y u)(f:YY y=U):eqU x u=eqV y x:=by
 cases y with
 |non=>cases r;rfl
 |bl b=>cases r;rfl
 |int i=>have #[t,rfl]:=r;rfl
 |str z=>have #[t,rfl]:=r;rfl
 |_=>exact absurd (show am=U from f) bV
theorem QN{x:V}:∀ {c:LV}{d:zX},aQ c d->c.all YY=U->d.any (eqU x)=c.any λy=>eqV y x
 |_,_,.nil,_=>rfl
 |y::c,u::d,.cons r t,f=>by rw[iG,cG] at f;rw[nu,nu,zfs r f.1,QN t f.2]
theorem Vz{A:aA}{s:ap}{x:V}{v:aq}(g:aR x v)(h:YY x=U):∀ {c:LV}{d:zX},aQ c d->c.all YY=U->∀u∈d,SeqAt.EqAt A s u v (eqU x u)
 |_,_,.nil,_=>λu hu=>by cases hu
 |y::c,u::d,.cons r t,f=>λi hu=>by
  rw[iG,cG] at f;obtain rfl|hu:=bC.mp hu
  .rw[zfs r f.1];exact zjr r g f.1 h
  .exact Vz g h t f.2 i hu
def inV(x:V)(c:LV):Bool:=c.any λy=>eqV y x
def rIn(K:bL)(d:Bool):R2:=λx y H Q=>∃p c,y=.ref p/\(aO K H p c\/uZ K H p c)/\YY x=U/\c.all YY=U/\Q (.bl (if d then !inV x c else inV x c)) H
theorem XQ:Av X (Bi .In) (rIn X.K am):=by
 intro t s m H x y v u Q I i k h;have #[p,n,rfl,hq,j,d,q]:=h;cases k;obtain hq|hq:=hq
 .have #[c,r,f,l]:=I.list hq;refine SeqAt.in_listAt (eqU x) f.isList (λw g=>Vz i j r d w (by simpa using g)) {.bl _,H,I,Z,?_};rw[show c.toArray.any (eqU x)=c.any (eqU x) by simp,QN r d];exact q
 .have #[c,r,f,l]:=I.tuple hq;refine SeqAt.in_tupleAt (eqU x) f (λw g=>Vz i j r d w (by simpa using g)) {.bl _,H,I,Z,?_};rw[show c.toArray.any (eqU x)=c.any (eqU x) by simp,QN r d];exact q
theorem yZ:qO X (.type "list") (QH X.K):=by
 intro A s y H C D Q I r h;have #[p,l,rfl,hq,q]:=h;have #[u,rfl,z]:=Zn r;cases z;have fin:∀(c:zX),aQ l c->l.length<=Bb->∀(d:aw)(g:Nat),(∀b x,s.heap.get? b=Y x->d.get? b=Y x) ->
   d.get? s.heap.objs.size=Y { cls:=.type "list",dict:=L,data:=.seq c.toArray g,slots:=#[] }->EP X A y Q (.ref s.heap.objs.size) { s with heap:=d }:=λc f j d g i e=>
  {.ref s.heap.objs.size,_,I.laid (t':=s.toks) i (bq _) (show aU X.p X.w _ d _ (.lst l) from {j,c,g,f,e}),Z,q _ (I.hok.fresh (bq _))}
 obtain hq|hq:=hq
 .have #[c,f,m,j]:=I.list hq;have k:=f.length;have #[o,t,w,n,v]:=m.isList;exact call_list_seq p (.inl Z) t w v (λd g i e=>fin c f j d g i e) (by simp only[bR] <;> lia)
 .have #[c,f,m,j]:=I.tuple hq;have k:=f.length;have #[o,t,w,n,v]:=m;exact call_list_seq p (.inr Z) t w v (λd g i e=>fin c f j d g i e) (by simp only[bR] <;> lia)
theorem JZ:qO X (.type "tuple") (λk H Q=>∃p d,k=[.ref p]/\((aO X.K H p d/\∀l,H l=L->Q (.ref l) (upd H l (.tup d)))\/(uZ X.K H p d/\Q (.ref p) H))):=by
 intro t s j H k z Q I r h;have #[p,d,rfl,h]:=h;have #[u,rfl,w]:=Zn r;cases w;obtain ⟨hq,q⟩|⟨hq,q⟩:=h
 .have #[c,g,i,m]:=I.list hq;have n:=g.length;refine call_tuple_list i.isList (λf x=>?_) (by simp only[bR] <;> lia);have v:aL X t j H { s with heap:=f }:=I.kept (t':=s.toks) x;have y:aL X t j (upd H f.objs.size (.tup d)) { s with heap:=f.push { cls:=.type "tuple",data:=.seq c.toArray } }:=
   v.laid (t':=s.toks) (λb o e=>bg _ e) (bq _) (show aU X.p X.w _ _ _ (.tup d) from {m,c,g,IsTup.new _ _})
  exact{.ref f.objs.size,_,y,Z,q _ (v.hok.fresh (bq _))}
 .have #[c,g,i,m]:=I.tuple hq;exact call_tuple_same i {.ref p,H,I,Z,q}
def tyV(K:bL)(T:String)(x:V)(H:Hp):Prop:=match x with
 |.str _=>T="str"
 |.int _=>T="int"
 |.ref p=>(T="list"/\∃d,aO K H p d)\/(T="tuple"/\∃o,K.lookup p=Y o/\o.cls=.type "tuple"/\o.dict=L) \/
   (T="dict"/\((∃c,H p=Y (.dK c))\/∃c,H p=Y (.dT c)))\/(T="set"/\∃S n,H p=Y (.set S n))
 |_=>False
def zft{l:St}{H:Hp}{s:ap}{T:String}{x:V}{v:aq}(I:aL X aa l H s)(r:aR x v)(f:tyV X.K T x H) :
  s.TypeIs v T/\∀a,v=.ref a->∃k,s.heap.get? a=Y k/\k.dict=L:=by
 cases x with
 |str z=>
  have #[t,rfl]:=r;cases (show T="str" from f);exact{rV s z t,λ_ e=>nomatch e}
 |int i=>
  have #[t,rfl]:=r;cases (show T="int" from f);exact{typeIs_int s i t,λ_ e=>nomatch e}
 |ref p=>
  cases r;obtain ⟨rfl,xs,hq⟩|⟨rfl,o,hk,hc,g⟩|⟨rfl,hk⟩|⟨rfl,S,n,hk⟩:=f
  .have #[m,_,j,_]:=I.list hq;refine{j.isList.typeIs,λa e=>?_};cases e;have #[o,n,e,c,g,_]:=j;exact{o,e,g}
  .refine{{o,I.kIn p o hk,hc},λa e=>?_};cases e;exact{o,I.kIn _ o hk,g}
  .have z:∃o,s.heap.get? p=Y o/\o.ExactDict:=by
    obtain ⟨aI,hk⟩|⟨aI,hk⟩:=hk
    .have #[_,_,_,_,o,_,_,e,d,_]:=I.hok p _ hk;exact{o,e,d}
    .have #[_,_,_,_,o,_,_,e,d,_]:=I.hok p _ hk;exact{o,e,d}
   have #[o,e,d]:=z;refine{{o,e,d.1},λa h=>?_};cases h;exact{o,e,d.2.1}
  .have #[o,_,_,_,e,d,_]:=I.hok p _ hk;refine{{o,e,d.1},λa h=>?_};cases h;exact{o,e,d.2.1}
 |_=>exact dQ f
def zen(K:bL)(T:String)(r:V->LV->Hp->VK->Prop)(f:TE):TE:=λd H Q=>f d H λx c=>tyV K T x c/\r x [] c Q
def tBM(K:bL)(T:String)(r:V->LV->Hp->VK->Prop)(g:TE)(t:TA):TE:=λc H Q=>g c H λx d=>tyV K T x d/\t c d λf h=>r x f h Q
variable {es:List ay}{to:TE}{t:TA}{name:Str}{T id:String}{r:V->LV->Hp->VK->Prop}
def XR(q:PlainAttrs T)(f:Slot T name id)(g:typeOf (.builtin id)=pure (.type "method_descriptor"))(w:MtR X id r)(u:PE X o to)(d:attributeBase o name X.e (eval o X.e)=eval o X.e:=by rfl)(c:(uV.endLine==u6.line)=U:=by rfl):PE X (.Call (.Attribute o name uV) [] [] u6) (zen X.K T r to):=by intro k s i H Q I h;refine pE d c (aX (u k s i H _ I h) ?_);rintro v n ⟨x,A,l,j,m,p⟩;have #[z,y]:=zft l j m;exact{T,id,q,f,g,z,y,dN Z (sK (w k n i A x [] v [] Q l j .nil p))}
def x9(E:PlainAttrs T)(g:Slot T name id)(k:typeOf (.builtin id)=pure (.type "method_descriptor"))(M:MtR X id r)(J:PE X o to)(N:PA X (e::es) t)(f:attributeBase o name X.e (eval o X.e)=eval o X.e:=by rfl)(i:((backTo u6 (Be (e::es) X.e)).all (λx=>!x.1)&&(backToKw u6 (keywordEach [] X.e)).all (λx=>x.1.isSome)
   && decide ((e::es).length+([]:List Keyword).length+(if ([]:List Keyword).isEmpty then 0 else 1)<30))=U:=by rfl)(d:(uV.endLine==u6.line)=U:=by rfl)(G:Be (e::es) X.e=(am,eval e X.e)::Be es X.e:=by rfl)(c:(backTo u6 (Be es X.e)).any (·.1)=am:=by rfl) :
  PE X (.Call (.Attribute o name uV) (e::es) [] u6) (tBM X.K T r to t):=by intro l s j H Q I h;refine wpAny_Call_method_late f i d Z (aX (J l s j H _ I h) ?_);rintro v z ⟨x,H1,p,m,w,D⟩;have #[h1,O]:=zft p m w;refine{T,id,E,g,k,h1,O,?_};have n:=N u6 l z j H1 _ p D;rw[G] at n ⊢;refine dN (by show (am || (backTo u6 (Be es X.e)).any (·.1))=am;rw[c] <;> rfl) (eW ?_);exact aX n λu y ⟨q,H2,I2,A,C⟩=>M l y j H2 x q v u Q I2 m A C
end
def MtM(X:Cx)(id:String)(r:V->LV->Hp->VK->Prop):Prop:=
 ∀(d:Af)(s:ap)(a:St)(H:Hp)(x:V)(b:LV)(v:aq)(c:zX)(Q:VK),aL X d a H s->aR x v->aQ b c->r x b H Q ->
  Bf (Bg X.p X.w) X.A (call (.builtin id) (v::c)) (EP X d a Q) X.xe s
theorem aQ.one:∀ {x:V}{a:zX},aQ [x] a->∃u,a=[u]/\aR x u
 |_,_,.cons r .nil=>{_,Z,r}
theorem aQ.zero:∀ {a:zX},aQ [] a->a=[]
 |_,.nil=>rfl
def aQ.dropLast(h:aQ xs us):aQ xs.dropLast us.dropLast:=by
 induction h with
 |nil=>exact .nil
 |cons r t ih=>
  cases t with
  |nil=>exact .nil
  |cons q t'=>exact .cons r ih
theorem aQ.eraseIdx:∀ {a:LV}{b:zX}(i:Nat),aQ a b->aQ (a.eraseIdx i) (b.eraseIdx i)
 |_,_,_,.nil=>.nil
 |_,_,0,.cons _ t=>t
 |_,_,i+1,.cons r t=>.cons r (aQ.eraseIdx i t)
theorem zcr{c:Type}(l:List c):l.eraseIdx (l.length-1)=l.dropLast:=by
 induction l with
 |nil=>rfl
 |cons a r ih=>
  cases r with
  |nil=>rfl
  |cons b r=>
   have e:(a::b::r).length-1=((b::r).length-1)+1:=by have f:(a::b::r).length=r.length+2:=rfl;have d:(b::r).length=r.length+1:=rfl;lia
   rw[e,lA,ih]
   all_goals rfl
theorem KN{a:Type}:∀(l:List a)(i:Nat),(l.eraseIdx i).length<=l.length
 |[],_=>bq _
 |_::_,0=>pB _
 |_::r,i+1=>fY (KN r i)
variable {aa:Af}{σ:St}{H:Hp}{s:ap}
section
variable {l b:af}{xs ys zs:LV}
def aL.lset{its its':zX}{n:Nat}{f:Array aq->Array aq}(I:aL X aa σ H s)(k:H l=Y (.lst xs))(e:s.heap.get? l=Y { cls:=.type "list",data:=.seq its.toArray n })(h:f its.toArray=its'.toArray)(d:aQ ys its')(a:ys.length<=Bb) :
  aL X aa σ (upd H l (.lst ys)) { s with heap:=s.heap.update l (eN f),toks:=t' }:=by have q:=PySem.IsL.update e f;rw[h] at q;refine I.write (x:=l) (e:=l) (by rw[k];exact trivial) (.inl Z) (λr u j g=>(eZ s.heap (eN f) (eC j)).trans g) {_,q} ?_;exact{a,its',_,d,q}
def aL.lnew(I:aL X aa σ H s)(d:aQ ys its)(a:ys.length<=Bb) :
  aL X aa σ (upd H s.heap.objs.size (.lst ys)) { s with heap:=s.heap.push { cls:=.type "list",data:=.seq its.toArray },toks:=t' }:=
 I.laid (λ_ _ q=>bg _ q) (bq _) {a,its,0,d,bJ _ Z}
def aL.fresh(I:aL X aa σ H s):H s.heap.objs.size=L:=I.hok.fresh (bq _)
def aL.lstM(I:aL X aa σ H s)(d:H l=Y (.lst xs)):xs.length<=Bb/\∃(a:zX)(n:Nat),aQ xs a/\xs.length=a.length/\s.heap.get? l=Y { cls:=.type "list",data:=.seq a.toArray n }:=by have #[z,a,n,r,e]:=I.hok l _ d;exact{z,a,n,r,r.length,e}
theorem zfu(h:n<=Bb):iY n=am:=by unfold iY;exact Bk ()
end
inductive Vg(x:V)(vs:LV)(H:Hp)(Q:VK):Prop
 |mk (l xs y:_):x=.ref l->vs=[y]->H l=Y (.lst xs)->xs.length<Bb->Q .non (upd H l (.lst (xs++[y])))->Vg x vs H Q
theorem yC:MtM X "list.append" Vg:=by intro aa s σ H x i v j Q I c d h;have #[l,g,y,rfl,rfl,b,k,q]:=h;cases c;have #[u,rfl,f]:=d.one;have #[z,a,n,r,m,e]:=I.lstM b;refine iZ F.slot_list_append {_,e,Z} F.entry_list_append (F.args_list_append_2 _ _) (PySem.list_append l a.toArray n u (by rw[bR];lia)) {e,?_};refine{.non,_,I.lset (its':=a++[u]) b e (by simp) (r.append (.cons f .nil)) ?_,Z,q};rw[bh,cP];lia
def zdl:V->LV->Hp->VK->Prop:=λx d H Q=>∃l b c a,x=.ref l/\d=[.ref b]/\H l=Y (.lst c)/\H b=Y (.lst a)/\c.length+a.length<=Bb/\Q .non (upd H l (.lst (c++a)))
theorem zeo:MtM X "list.extend" zdl:=by
 intro aa s σ H x E v G Q I i j h;have #[l,b,D,A,rfl,rfl,g,w,J,q]:=h;cases i;have #[u,rfl,k]:=j.one;cases k;have #[z,c,n,r,M,e]:=I.lstM g;have #[C,a,p,m,t,y]:=I.lstM w;have f:c.toArray.size+a.toArray.size<=Bb:=by rw[bR,bR];lia
 have d:¬ (!c.toArray.isEmpty&&iY (c.toArray.size+a.toArray.size))=U:=by rw[zfu f,Bool.and_false];exact bV
 refine iZ F.slot_list_extend {_,e,Z} F.entry_list_extend (F.args_list_extend_2 _ _) (AutoSeq1.list_extend_list_list_0 l c.toArray n b a.toArray p d (by rw[bR];lia) ()) {e,y,?_}
 refine{.non,_,I.lset (its':=c++a) g e (by simp) (r.append m) ?_,Z,q};rw[bh];lia
def zkI:V->LV->Hp->VK->Prop:=λx b H Q=>∃l a y,x=.ref l/\b=[]/\H l=Y (.lst a)/\a[a.length-1]?=Y y/\Q y (upd H l (.lst a.dropLast))
theorem zcs:MtM X "list.pop" zkI:=by
 intro aa s σ H x t v w Q I f g h;have #[l,p,y,rfl,rfl,d,j,q]:=h;cases f;have c:=g.zero;subst c;have #[z,a,n,r,m,e]:=I.lstM d;have #[u,k,i]:=r.get j;have b:a.toArray[a.toArray.size-1]?=Y u:=by show a.toArray[a.length-1]?=Y u;rw[<-dI,<-m];exact k
 refine iZ F.slot_list_pop {_,e,Z} F.entry_list_pop (F.args_list_pop_1 _) (MeetsSeq.list_pop_last l a.toArray n u b (by rw[bR];lia)) {e,?_};refine{y,_,I.lset (its':=a.dropLast) d e ?_ r.dropLast ?_,i,q}
 .show a.toArray.eraseIdxIfInBounds (a.toArray.size-1)=a.dropLast.toArray;rw[bR,gC,zcr]
 .rw[List.length_dropLast];lia
def zfv:V->LV->Hp->VK->Prop:=λx b H Q=>∃l a,x=.ref l/\b=[]/\H l=Y (.lst a)/\Q .non (upd H l (.lst []))
theorem VA:MtM X "list.clear" zfv:=by intro aa s σ H x i v j Q I d f h;have #[l,g,rfl,rfl,c,q]:=h;cases d;have b:=f.zero;subst b;have #[z,a,n,r,k,e]:=I.lstM c;refine iZ F.slot_list_clear {_,e,Z} F.entry_list_clear (F.args_list_clear_1 _) (AutoSeq1.list_clear_list_0 l a.toArray n (by rw[bR];lia)) {e,?_};exact{.non,_,I.lset (its':=[]) (ys:=[]) c e Z .nil (cf _),Z,q}
inductive J1(x y:V)(H:Hp)(Q:VK):Prop
 |mk (l b xs zs:_):x=.ref l->y=.ref b->H l=Y (.lst xs)->H b=Y (.lst zs)->xs.length+zs.length<=Bb->(∀p,H p=L->Q (.ref p) (upd H p (.lst (xs++zs))))->J1 x y H Q
theorem kC:Av X (binaryOp .Add) J1:=by
 intro aa s σ H x y v u Q I f d h;have #[l,b,A,t,rfl,rfl,j,k,D,q]:=h;cases f;cases d;have #[z,c,n,r,E,e]:=I.lstM j;have #[w,a,C,g,i,p]:=I.lstM k;refine PySem.P.add_list e p ?_ (by rw[bR,bR];lia);have m:c.toArray++a.toArray=(c++a).toArray:=by simp
 rw[m];exact{.ref _,_,I.lnew (t':=s.toks) (r.append g) (by rw[bh];lia),Z,q _ I.fresh}
variable {A:aA}{E:Aa}
section
variable {prog:au}{w:av}
set_option maxRecDepth 100000 in
end
section
variable {κ:Type}[DecidableEq κ]
def yt(b:List (κ×V))(k:κ):Option V:=(b.find? λa=>decide (a.1=k)).map (·.2)
def xo(b:List (κ×V))(k:κ)(v:V):List (κ×V):=
 if (b.any λa=>decide (a.1=k))=U then b.map (λa=>if a.1=k then (a.1,v) else a) else b++[(k,v)]
def yO(b:List (κ×V))(k:κ):List (κ×V):=b.filter λa=>decide (a.1≠k)
def zaQ :yt ([]:List (κ×V)) k=L:=rfl
theorem xt{p:κ×V}{r:List (κ×V)}(e:p.1=k):yt (p::r) k=Y p.2:=by simp[yt,iq,e]
theorem xu{p:κ×V}{r:List (κ×V)}(e:¬ p.1=k):yt (p::r) k=yt r k:=by simp[yt,iq,e]
theorem vV(k:κ):∀a:List (κ×V),(a.any λb=>decide (b.1=k))=(yt a k).isSome
 |[]=>rfl
 |p::r=>by
  rw[nu];by_cases e:p.1=k
  .simp only[xt e,Bj e,Bool.true_or,Option.isSome_some]
  .rw[xu e,Bk e,Bool.false_or];exact vV k r
theorem zaR(k j:κ)(y:V):∀c:List (κ×V),yt (c.map λa=>if a.1=k then (a.1,y) else a) j=(yt c j).map λx=>if j=k then y else x
 |[]=>rfl
 |p::r=>by
  have b:=zaR k j y r;rw[bB];by_cases h:p.1=k
  .rw[ao h];by_cases e:p.1=j
   .rw[xt (p:=(p.1,y)) e,xt e,nO,ao (e.symm.trans h)]
   .rw[xu (p:=(p.1,y)) e,xu e,b]
  .rw[ak h];by_cases e:p.1=j
   .rw[xt (p:=p) e,xt e,nO,ak (λz=>h (e.trans z))]
   .rw[xu (p:=p) e,xu e,b]
theorem KO(k j:κ)(y:V):∀a:List (κ×V),yt a k=L->yt (a++[(k,y)]) j=if j=k then Y y else yt a j
 |[],_=>by
  by_cases e:k=j
  .rw[ao e.symm];exact xt (p:=(k,y)) e
  .rw[ak (λz=>e z.symm)];exact xu (p:=(k,y)) e
 |p::r,hn=>by
  rw[dY];have b:¬ p.1=k:=λz=>by rw[xt z] at hn;cases hn
  rw[xu b] at hn;have c:=KO k j y r hn;by_cases e:p.1=j
  .rw[xt e,xt e,ak (λz=>b (e.trans z))]
  .rw[xu e,xu e,c]
def VB(b:List (κ×V))(k j:κ)(y:V):yt (xo b k y) j=if j=k then Y y else yt b j:=by
 unfold xo;by_cases a:(b.any λc=>decide (c.1=k))=U
 .rw[ao a,zaR];rw[vV] at a;by_cases e:j=k
  .have #[x,d]:=gB.mp a;rw[ao e,e,d,nO,ao rfl]
  .rw[ak e];cases yt b j with
   |none=>rfl
   |some x=>rw[nO,ak e]
 .rw[ak a];refine KO k j y b ?_;rw[vV] at a;cases q:yt b k with
  |none=>rfl
  |some x=>rw[q] at a;exact(a Z).elim
theorem wY(a:List (κ×V))(k:κ)(v:V):(xo a k v).length<=a.length+1:=by
 unfold xo;split
 .rw[bn];lia
 .rw[bh,b7,iu];lia
theorem jr{a:List (κ×V)}(v:V)(h:yt a k=L):xo a k v=a++[(k,v)]:=by unfold xo;rw[vV,h];exact ak ()
def Ap.isSome_eq{o:Option V}(r:Ap o u):o.isSome=u.isSome:=by
 cases o with
 |none=>cases u with
  |none=>rfl
  |some _=>exact(show False from r).elim
 |some _=>cases u with
  |none=>exact(show False from r).elim
  |some _=>rfl
def Ap.getD{o:Option V}{u:Option aq}(r:Ap o u)(a:aR d d'):aR (o.getD d) (u.getD d'):=by
 cases o with
 |none=>cases u with
  |none=>exact a
  |some _=>exact(show False from r).elim
 |some _=>cases u with
  |none=>exact(show False from r).elim
  |some _=>exact r
theorem KV.val(r:KV aI vs)(k:κ):Ap (yt aI k) (valueAt vs k):=by
 unfold KV at r;induction r with
 |nil=>exact fH
 |@cons p q ps qs h t ih=>
  have #[c,d]:=h;by_cases e:p.1=k
  .have a:q.1=k:=c.symm.trans e;have b:valueAt (q::qs) k=Y q.2:=by simp[valueAt,iq,a]
   rw[xt e,b];exact d
  .have a:¬ q.1=k:=λz=>e (c.trans z);have b:valueAt (q::qs) k=valueAt qs k:=by simp[valueAt,iq,a]
   rw[xu e,b];exact ih
def KV.any(r:KV aI vs)(k:κ):(aI.any λa=>decide (a.1=k))=vs.any λa=>decide (a.1=k):=by
 unfold KV at r;induction r with
 |nil=>rfl
 |cons h t ih=>rw[nu,nu,ih,h.1]
def KV.repl(r:KV aI vs)(k:κ)(c:aR y u) :
  KV (aI.map λa=>if a.1=k then (a.1,y) else a) (vs.map λa=>if a.1=k then (a.1,u) else a):=by
 unfold KV at r ⊢;induction r with
 |nil=>exact .nil
 |@cons p q ps qs h t ih=>
  rw[bB,bB];refine .cons ?_ ih;have #[b,d]:=h;by_cases e:p.1=k
  .rw[ao e,ao (b.symm.trans e)];exact{b,c}
  .rw[ak e,ak (λz=>e (b.trans z))];exact{b,d}
def KV.put(r:KV aI vs)(k:κ)(a:aR y u):KV (xo aI k y) (stored vs k u):=by
 unfold xo stored;rw[r.any k];by_cases e:(vs.any λb=>decide (b.1=k))=U
 .rw[ao e,ao e];exact r.repl k a
 .rw[ak e,ak e];exact Paired.snoc r {Z,a}
theorem KV.drop(r:KV aI vs)(k:κ):KV (yO aI k) (without vs k):=by
 unfold KV at r ⊢;unfold yO without;induction r with
 |nil=>exact .nil
 |@cons p q ps qs h t ih=>
  have #[c,d]:=h;rw[dZ,dZ];by_cases e:p.1=k
  .have a:¬ decide (p.1≠k)=U:=by simp[e]
   have b:¬ decide (q.1≠k)=U:=by simp[c.symm.trans e]
   rw[ak a,ak b];exact ih
  .have f:¬ q.1=k:=λz=>e (c.trans z);have a:decide (p.1≠k)=U:=by simp[e]
   have b:decide (q.1≠k)=U:=by simp[f]
   rw[ao a,ao b];exact .cons {c,d} ih
def KV.length{a:List (κ×aq)}(r:KV aI a):aI.length=a.length:=bG r
def zaS(a:List (κ×V))(k:κ):(yO a k).length<=a.length:=mG _ _
end
def Wo(r:aR (kV k) u):(yT P w).is k u=U:=by
 cases k with
 |inl i=>have #[t,e]:=(show ∃t,u=gU i t from r);subst e;exact zaF P w i t
 |inr x=>have #[t,e]:=(show ∃t,u=lf x t from r);subst e;exact zaG P w x t
theorem XS{P:au}{w:av}:∀ {ks:xO}{a:zX},aQ (ks.map kV) a->ItemsAre (yT P w) ks a
 |[],_,r=>by rw[rF] at r;cases r;exact .nil
 |k::ks,_,r=>by
  rw[bB] at r;cases r with
  |cons h t=>exact .cons (Wo h) (XS t)
abbrev KT(H:Hp):yd->List (xO×af×aq)->Prop:=Bl λp q=>p.1=q.1/\H q.2.1=Y (.tup (p.1.map kV))/\aR p.2 q.2.2
theorem KT.val{H:Hp}{f:yd}{c:List (xO×af×aq)}(r:KT H f c)(k:xO):Ap (yt f k) ((atKey c k).map (·.2)):=by
 induction r with
 |nil=>exact fH
 |@cons p q ps qs h t ih=>
  have #[d,_,g]:=h;by_cases e:p.1=k
  .have a:q.1=k:=d.symm.trans e;have b:atKey (q::qs) k=Y q.2:=by simp[atKey,iq,a]
   rw[xt e,b];exact g
  .have a:¬ q.1=k:=λz=>e (d.trans z);have b:atKey (q::qs) k=atKey qs k:=by simp[atKey,iq,a]
   rw[xu e,b];exact ih
def KT.repl{H:Hp}(r:KT H aI xs)(k:xO)(d:aR y u) :
  KT H (aI.map λb=>if b.1=k then (b.1,y) else b) (xs.map (putAt k u)):=by
 induction r with
 |nil=>exact .nil
 |@cons p q ps qs h t ih=>
  rw[bB,bB];refine .cons ?_ ih;have #[a,c,f]:=h;unfold putAt;by_cases e:p.1=k
  .rw[ao e,ao (a.symm.trans e)];exact{a,c,d}
  .rw[ak e,ak (λz=>e (a.trans z))];exact{a,c,f}
def KT.put{H:Hp}(r:KT H aI xs)(k:xO)(d:H b=Y (.tup (k.map kV)))(a:aR y u) :
  KT H (xo aI k y) (storedH xs k b u):=by
 have e:(aI.any λc=>decide (c.1=k))=(atKey xs k).isSome:=by rw[vV,(r.val k).isSome_eq,oM]
 unfold xo storedH;rw[e];by_cases q:(atKey xs k).isSome=U
 .rw[ao q,ao q];exact r.repl k a
 .rw[ak q,ak q];exact Paired.snoc r {Z,d,a}
def KT.keeps{H c:Hp}(r:KT H aI xs)(d:∀b a,H b=Y (.tup a)->c b=Y (.tup a)):KT c aI xs:=
 Paired.mapP r λ_ _ z=>{z.1,d _ _ z.2.1,z.2.2}
variable {a:af}
section
variable {P:au}{w:av}{h:aw}
def ziQ(b:AH P w H h)(e:Rd H a u):aU P w H h a u:=e.ok b
def VC(b:AH P w H h)(e:Rd H a (.dK aI)):aI.length<=Bb/\(a==sysModules)=am/\∃vs,KV aI vs/\h.DictOf (yT P w) a vs:=
 show aU P w H h a (.dK aI) from ziQ b e
def zfw(b:AH P w H h)(e:H a=Y (.dK aI)):aI.length<=Bb/\(a==sysModules)=am/\∃vs,KV aI vs/\h.DictOf (yT P w) a vs:=VC b (.inl e)
theorem qo{b:xO}(d:AH P w H h)(e:H a=Y (.tup (b.map kV))):(tupleKind (yT P w)).is h b a:=by have #[_,c,r,o,i,g,n,f]:=(show aU P w H h a (.tup (b.map kV)) from d a _ e);exact{o,c.toArray,n,i,g,f,by simpa using XS r}
def VD(c:AH P w H h)(e:Rd H a (.dT aI)):aI.length<=Bb/\(a==sysModules)=am /\
  ∃xs,KT H aI xs/\h.DictOfH (tupleKind (yT P w)) a xs:=by
 have #[z,y,xs,r,o,k,n,j,i,g,f,d]:=(show aU P w H h a (.dT aI) from ziQ c e);refine{z,y,xs,r,o,k,n,j,i,g,f,λx hx=>?_,d};have b:∀ {l:yd}{m:List (xO×af×aq)},KT H l m->∀x∈m,(tupleKind (yT P w)).is h x.1 x.2.1:=by
  intro l m q;induction q with
  |nil=>intro x hx;exact nomatch hx
  |@cons p q ps qs hq t ih=>
   intro x hx;obtain e|hx:=bC.mp hx
   .subst e;exact qo c (by rw[<-hq.1];exact hq.2.1)
   .exact ih x hx
 exact b r x hx
def zaT(b:AH P w H h)(e:H a=Y (.dT aI)):aI.length<=Bb/\(a==sysModules)=am /\
  ∃xs,KT H aI xs/\h.DictOfH (tupleKind (yT P w)) a xs:=VD b (.inl e)
end
def Ab(H:Hp)(a:af)(y:V)(r:Option V):Prop:=
 (∃c k,Rd H a (.dK c)/\y=kV k/\r=yt c k)\/∃c k b,Rd H a (.dT c)/\y=.ref b/\H b=Y (.tup (k.map kV))/\r=yt c k
def DPut(H:Hp)(a:af)(y v:V)(d:Hp):Prop:=
 (∃c k,H a=Y (.dK c)/\y=kV k/\c.length<Bb/\d=upd H a (.dK (xo c k v))) \/
 ∃c k b,H a=Y (.dT c)/\y=.ref b/\H b=Y (.tup (k.map kV))/\c.length<Bb/\d=upd H a (.dT (xo c k v))
def Ab.k{H:Hp}{k:Key}(e:H a=Y (.dK aI)):Ab H a (kV k) (yt aI k):=.inl {aI,k,.inl e,Z,Z}
def Ab.t{H:Hp}{c:yd}{k:xO}(e:H a=Y (.dT c))(d:H b=Y (.tup (k.map kV))):Ab H a (.ref b) (yt c k):=.inr {c,k,b,.inl e,Z,d,Z}
def DPut.k{H:Hp}{k:Key}(e:H a=Y (.dK aI))(b:aI.length<Bb):DPut H a (kV k) v (upd H a (.dK (xo aI k v))):=.inl {aI,k,e,Z,b,Z}
def DPut.t{H:Hp}{c:yd}{k:xO}{v:V}(e:H a=Y (.dT c))(f:H b=Y (.tup (k.map kV)))(d:c.length<Bb) :
  DPut H a (.ref b) v (upd H a (.dT (xo c k v))):=.inr {c,k,b,e,Z,f,d,Z}
variable {y:V}{u r:aq}
section
variable {v:V}{o:Option V}
theorem aL.big(I:aL X aa σ H s):sysModules<s.heap.objs.size:=by have h:Bd<s.heap.objs.size:=(I.mod.glob.keeps I.bk).lt;exact iy () h
def zep{Q:Aa}(x:A.units+1<cLine)(I:aL X aa σ H s)(g:Ab H a y (Y v))(q:aR y u)(h:∀f n,aL X aa σ H n->aR v f->Q f n) :
  Bf (Bg X.p X.w) A (getItem (.ref a) u) Q E s:=by
 obtain ⟨aI,k,e,ey,l⟩|⟨aI,k,b,e,ey,eb,l⟩:=g
 .subst ey;have #[z,D,w,d,m]:=VC I.hok e;have #[f,i,c]:=Ap.some_of (v:=v) (o:=valueAt w k) (by rw[l];exact d.val k);exact wpAny_getItem_of (Wo q) m.mapOf i (h f _ (I.tok _) c)
 .subst ey;cases (show u=bY b from q);have #[z,D,t,d,m]:=VD I.hok e;have #[f,i,c]:=Ap.some_of (v:=v) (o:=(atKey t k).map (·.2)) (by rw[l];exact d.val k);have #[p,C,j]:=cr.mp i;refine wpAny_getItem_heap (eS x) (qo I.hok eb) m C ?_;rw[j];exact h f _ (I.tok _) c
def zlr{Q:Aa}(m:A.units+1<cLine)(I:aL X aa σ H s)(g:Ab H a y o)(j:aR y u)(h:∀i,aL X aa σ H i->Q (.bool o.isSome) i) :
  Bf (Bg X.p X.w) A (Bi .In u (.ref a)) Q E s:=by
 obtain ⟨aI,k,e,ey,l⟩|⟨aI,k,b,e,ey,eb,l⟩:=g
 .subst ey;have #[z,d,p,c,f]:=VC I.hok e;refine wpAny_in_of (Wo j) d f.mapOf ?_;rw[<-(c.val k).isSome_eq,<-l];exact h _ (I.tok _)
 .subst ey;cases (show u=bY b from j);have #[z,d,n,c,f]:=VD I.hok e;refine wpAny_in_heap (eS m) (qo I.hok eb) d f ?_;have q:=(c.val k).isSome_eq;rw[oM] at q;rw[<-q,<-l];exact h _ (I.tok _)
def zhA{Q:Aa}(m:A.units+1<cLine)(I:aL X aa σ H s)(g:Ab H a y o)(j:aR y u)(h:∀i,aL X aa σ H i->Q (.bool (!o.isSome)) i) :
  Bf (Bg X.p X.w) A (Bi .NotIn u (.ref a)) Q E s:=by
 obtain ⟨aI,k,e,ey,l⟩|⟨aI,k,b,e,ey,eb,l⟩:=g
 .subst ey;have #[z,d,p,c,f]:=VC I.hok e;refine wpAny_notIn_of (Wo j) d f.mapOf ?_;rw[<-(c.val k).isSome_eq,<-l];exact h _ (I.tok _)
 .subst ey;cases (show u=bY b from j);have #[z,d,n,c,f]:=VD I.hok e;refine wpAny_notIn_heap (eS m) (qo I.hok eb) d f ?_;have q:=(c.val k).isSome_eq;rw[oM] at q;rw[<-q,<-l];exact h _ (I.tok _)
def Z9(I:aL X aa σ H s)(d:Mut (H a))(f:de a s.heap h')(g:∃q,h'.get? a=Y q)(c:aU X.p X.w (upd H a ob) h' a ob) :
  aL X aa σ (upd H a ob) { s with heap:=h',toks:=t' }:=
 I.write (x:=a) (e:=a) d (.inl Z) (λb q h z=>(f.2 b h).trans z) g c
def VE{w:av}{i:Hp}{f:aw}{d:xB}{b:List (Key×aq)}(z:d.length<=Bb)(g:(a==sysModules)=am)(c:KV d b)(h:f.DictOf (yT P w) a b) :
  aU P w i f a (.dK d):={z,g,b,c,h}
theorem zeq{J:Hp}{Q:Unit->ap->Prop}(O:A.units+1<cLine)(I:aL X aa σ H s)(g:DPut H a y v J)(x:aR y u)(C:aR v r)(h:∀w,aL X aa σ J w->Q PUnit.unit w) :
  Bf (Bg X.p X.w) A (setItem (.ref a) u r) Q E s:=by
 obtain ⟨aI,k,e,ey,l,eH⟩|⟨aI,k,b,e,ey,eb,l,eH⟩:=g
 .subst ey eH;have #[z,p,N,d,t]:=zfw I.hok e;have j:N.length<=Bb:=by rw[<-d.length];exact z
  have n:(xo aI k v).length<=Bb:=by have:=wY aI k v;lia
  refine wpAny_setItem_pairs (hsz:=j) (Wo x) t λD f m=>h _ ?_;have T:∃q,D.get? a=Y q:=let ⟨q,_,_,i,_⟩:=f;{q,i}
  exact Z9 I (by rw[e];exact fH) m T (VE n p (d.put k C) f)
 .subst ey eH;cases (show u=bY b from x);have #[z,p,M,d,t]:=zaT I.hok e;have j:M.length<=Bb:=by rw[<-bG d];exact z
  have n:(xo aI k v).length<=Bb:=by have:=wY aI k v;lia
  refine wpAny_setItem_heap (hsz:=j) (eS O) (qo I.hok eb) t λD f m=>h _ ?_;have #[q,es,ep,i,h2,h3,h4,_,h5]:=f;refine Z9 I (by rw[e];exact fH) m {q,i} {n,p,_,(d.put k eb C).keeps λc ys G=>?_,q,es,ep,i,h2,h3,h4,h5};rw[zt (zQ G e ())];exact G
end
variable {aI:xB}
section
variable {k:Key}
def ziR{b:zX}{Q:Aa}(I:aL X aa σ H s)(e:H a=Y (.dK aI))(g:aR (kV k) u)(l:yt aI k=Y v)(p:b=[]\/∃x,b=[x])(h:∀d n,aL X aa σ (upd H a (.dK (yO aI k))) n->aR v d->Q d n):Bf (Bg X.p X.w) A (call (.builtin "dict.pop") (.ref a::u::b)) Q E s:=by
 have #[z,M,m,c,w]:=zfw I.hok e;have #[d,C,j]:=Ap.some_of (v:=v) (o:=valueAt m k) (by rw[<-l];exact c.val k);have G:(keyPart u).isSome=U:=by
  cases k with
  |inl i=>have #[t,q]:=(show ∃t,u=gU i t from g);subst q;rfl
  |inr x=>have #[t,q]:=(show ∃t,u=lf x t from g);subst q;rfl
 have N:argsOk "dict.pop" {.ref a::u::b,[]}:=by
  obtain q|⟨x,q⟩:=p
  .subst q;exact pF _ _
  .subst q;exact pG _ _ _
 refine mH fq w.typeIs lU N (meets_dict_pop_there (yT X.p X.w) a (Wo g) b p G)
  {m,d,w,by rw[<-c.length];exact z,C,λO f D=>h d _ ?_ j}
 have J:∃q,O.get? a=Y q:=let ⟨q,_,_,hq,_⟩:=f;{q,hq}
 exact Z9 I (by rw[e];exact fH) D J (VE (bI (zaS aI k) z) M (c.drop k) f)
def zjs{Q:Aa}(I:aL X aa σ H s)(e:H a=Y (.dK aI))(b:aR (kV k) u)(l:yt aI k=L)(h:∀f,aL X aa σ H f->Q r f) :
  Bf (Bg X.p X.w) A (call (.builtin "dict.pop") [.ref a,u,r]) Q E s:=by
 have #[z,n,d,c,g]:=zfw I.hok e;have m:valueAt d k=L:=Ap.none_of (by rw[<-l];exact c.val k);have j:(keyPart u).isSome=U:=by
  cases k with
  |inl i=>have #[t,q]:=(show ∃t,u=gU i t from b);subst q;rfl
  |inr x=>have #[t,q]:=(show ∃t,u=lf x t from b);subst q;rfl
 exact mH fq g.typeIs lU (pG _ _ _) (meets_dict_pop_default (yT X.p X.w) a (Wo b) n j r) {d,g,m,h _ (I.tok _)}
end
def zkJ(i:ay):Prop:=∀b c,subscripted i am b c=operate [b,c] (getItem b c)
def zhB{E:Aa}{f:Env}{pos:Pos}{T id:String}{Q:Aa}
  (m:typeLookup (.type T) "__getitem__"=pure (Y (.builtin id))) (l:zkJ slice) (h:Bf (Bg prog w) A (eval value f) (λo d=>Bf (Bg prog w) A (eval slice f) (λi s₂=>s₂.TypeIs o T/\Bf (Bg prog w) A (getItem o i) Q E s₂) E d) E s) :
  Bf (Bg prog w) A (eval (.Subscript value slice pos) f) Q E s:=by
 refine Subscript_ (eL h (λo d j=>eL j (λi s₂ b=>?_) λ_ _ x=>x) λ_ _ x=>x);have #[k,b]:=b;unfold subscriptTail;refine bb ?_;rw[getitemInPython_of_ne k.not_modules];refine bb (wpAny_specialOf k m ?_);have fin:Bf (Bg prog w) A (subscripted slice am o i) (λr c=>Bf (Bg prog w) A (letTemporaryGo value o r >>= λ_=>pure r) Q E c) E s₂:=by rw[l o i];exact wpAny_operating (eL b (λr c g=>bb (wpAny_letTemporaryGo (bu g))) λ_ _ x=>x)
 first
  |exact bu (bb fin)
  |exact bb (bu (bb fin))
  |exact bb fin
def zaU{aa:Af}{H:Hp}{o:Option V}(I:aL X aa σ H s)(g:Ab H a y o):s.TypeIs (.ref a) "dict":=by
 obtain ⟨aI,k,e,_,_⟩|⟨aI,k,b,e,_,_,_⟩:=g
 .have #[_,_,f,_,c]:=VC I.hok e;exact c.typeIs
 .have #[_,_,d,_,c]:=VD I.hok e;exact c.typeIs
inductive zfx(Q:VK)(x y:V)(H:Hp):Prop
 |mk (a v:_):x=.ref a->Ab H a y (Y v)->Q v H->zfx Q x y H
def zaV(c b:TE):TE:=λσ H Q=>c σ H λx d=>b σ d (zfx Q x)
inductive zfy(N:Hp->Prop)(x y v:V)(H:Hp):Prop
 |mk (a H4:_):x=.ref a->DPut H a y v H4->N H4->zfy N x y v H
def YZ(d b c:TE):TS:=λD σ H=>c σ H λv h=>d σ h λx g=>b σ g λy f=>zfy (D.nx σ) x y v f
variable {td ty:TE}
section
variable {i value:ay}{pos' tpos:Pos}{tv:TE}
def vg(m:X.A.units+1<cLine)(p:PE X o td)(q:PE X i ty)(n:zkJ i):PE X (.Subscript o i pos) (zaV td ty):=by intro aa s σ H Q I h;refine zhB PySem.F.slot_dict_getitem.lookup n (aX (p aa s σ H _ I h) λu d ⟨x,D,z,j,l⟩=>aX (q aa d σ D _ z l) ?_);rintro N M ⟨y,C,c,f,a,v,t,g,k⟩;subst t;obtain rfl:u=bY a:=j;exact{zaU c g,zep m c g f λG J w b=>{v,C,w,b,k}}
def vO(p:X.A.units+1<cLine)(t:PE X o td)(w:PE X i ty)(n:PE X value tv)(q:swapsWith value (Y (.Subscript o i pos')) pos.line X.e=pure am) :
  PS X (.Assign [.Subscript o i pos'] value pos) (YZ td ty tv):=by intro aa s σ H D I h;refine wpAny_Assign_Subscript (aX (n aa s σ H _ I h) λr c ⟨v,Q,M,j,m⟩=>aX (t aa c σ Q _ M m) λu b ⟨x,O,J,f,l⟩=>aX (w aa b σ O _ J l) ?_) q;rintro iv s3 ⟨y,H3,G,d,a,N,z,g,k⟩;subst z;obtain rfl:u=bY a:=f;exact zeq p G g d j λT C=>{σ,N,C,k}
end
def zfz{H:Hp}(h:aw)(b:sysModules<h.objs.size):aU P w H (h.push { cls:=.type "dict",data:=.dict #[] }) h.objs.size (.dK []):=
 {cf _,beq_eq_false_iff_ne.mpr (eC (b8 b)),[],.nil,Heap.DictOf.new h}
def zaW{H:Hp}(h:aw)(b:sysModules<h.objs.size):aU P w H (h.push { cls:=.type "dict",data:=.dict #[] }) h.objs.size (.dT []):=
 {cf _,beq_eq_false_iff_ne.mpr (eC (b8 b)),[],.nil,_,#[],0,bJ _ Z,{Z,Z,Z},Z,Z,cY}
def XT:TE:=λ_ H Q=>∀p,H p=L->Q (.ref p) (upd H p (.dK []))
def VF:TE:=λ_ H Q=>∀p,H p=L->Q (.ref p) (upd H p (.dT []))
def Zo:PE X (.Dict [] [] pos) XT:=λaa s σ H Q I h=>
 wpAny_Dict_empty {.ref s.heap.objs.size,_,I.laid (a:=s.heap.objs.size) (o:=.dK []) (t':=s.toks) (λ_ _ q=>bg _ q) (bq _) (zfz s.heap I.big),Z,h _ (I.hok.fresh (bq _))}
def kP:PE X (.Dict [] [] pos) VF:=λaa s σ H Q I h=>
 wpAny_Dict_empty {.ref s.heap.objs.size,_,I.laid (a:=s.heap.objs.size) (o:=.dT []) (t':=s.toks) (λ_ _ q=>bg _ q) (bq _) (zaW s.heap I.big),Z,h _ (I.hok.fresh (bq _))}
structure M1(X:Cx)(o:ay)(m:Str)(uV:Pos)(e:ay)(u6:Pos):Prop where
 base:attributeBase o m X.e (eval o X.e)=eval o X.e
 few:((backTo u6 (Be [e] X.e)).all (λx=>!x.1)&&(backToKw u6 (keywordEach [] X.e)).all (λx=>x.1.isSome)
  && decide (([e]:List ay).length+([]:List Keyword).length+(if ([]:List Keyword).isEmpty then 0 else 1)<30))=U
 line:(uV.endLine==u6.line)=U
 trees:backTo u6 (Be [e] X.e)=[(am,eval e X.e)]
structure M2(X:Cx)(o:ay)(m:Str)(uV:Pos)(e f:ay)(u6:Pos):Prop where
 base:attributeBase o m X.e (eval o X.e)=eval o X.e
 few:((backTo u6 (Be [e,f] X.e)).all (λx=>!x.1)&&(backToKw u6 (keywordEach [] X.e)).all (λx=>x.1.isSome)
  && decide (([e,f]:List ay).length+([]:List Keyword).length+(if ([]:List Keyword).isEmpty then 0 else 1)<30))=U
 line:(uV.endLine==u6.line)=U
 trees:backTo u6 (Be [e,f] X.e)=[(am,eval e X.e),(am,eval f X.e)]
def IsD(H:Hp)(a:af):Prop:=(∃aI,Rd H a (.dK aI))\/∃aI,Rd H a (.dT aI)
def XU{H:Hp}(I:aL X aa σ H s)(d:IsD H a) :
  s.TypeIs (.ref a) "dict"/\(∀b,bY a=.ref b->∃c,s.heap.get? b=Y c/\c.dict=L)/\(a==sysModules)=am:=by
 obtain ⟨aI,e⟩|⟨aI,e⟩:=d
 .have #[_,g,k,_,f]:=VC I.hok e;refine{f.typeIs,λb q=>?_,g};cases q;have #[c,_,_,i,h,_]:=f;exact{c,i,h.2.1}
 .have #[_,g,j,_,f]:=VD I.hok e;refine{f.typeIs,λb q=>?_,g};cases q;have #[c,_,_,i,h,_]:=f;exact{c,i,h.2.1}
section
variable {d:V}{o:Option V}
def zju{Q:Aa}(t:A.units+1<cLine)(I:aL X aa σ H s)(g:Ab H a y o)(n:aR y u)(p:aR d r)(h:∀j m,aL X aa σ H m->aR (o.getD d) j->Q j m) :
  Bf (Bg X.p X.w) A (call (.builtin "dict.get") [.ref a,u,r]) Q E s:=by
 obtain ⟨aI,k,e,ey,l⟩|⟨aI,k,b,e,ey,eb,l⟩:=g
 .subst ey;have #[z,i,v,c,f]:=VC I.hok e;refine mH mI f.typeIs p9 (pH _ _ _) (meets_dict_get_default (yT X.p X.w) a (Wo n) i r) {_,f.mapOf,h _ _ (I.tok _) ?_};rw[l];exact(c.val k).getD p
 .subst ey;cases (show u=bY b from n);have #[z,i,q,c,f]:=VD I.hok e;refine mH mI f.typeIs p9 (pH _ _ _) (meetsH_dict_get_default (tupleKind (yT X.p X.w)) a b i r) {eS t,k,q,qo I.hok eb,f,h _ _ (I.tok _) ?_};rw[l];exact(c.val k).getD p
end
def VG(td ty d:TE):TE:=λσ H Q=>td σ H λx c=>∃a,x=.ref a/\IsD c a/\ty σ c λy f=>d σ f λz b=>∃o,Ab b a y o/\Q (o.getD z) b
def zct(td ty:TE):TE:=λσ H Q=>td σ H λx c=>∃a,x=.ref a/\IsD c a/\ty σ c λy b=>∃aI k v,b a=Y (.dK aI)/\y=kV k/\yt aI k=Y v/\Q v (upd b a (.dK (yO aI k)))
def zjv(td ty d:TE):TE:=λσ H Q=>td σ H λx c=>∃a,x=.ref a/\IsD c a/\ty σ c λy f=>d σ f λz b=>∃aI k,b a=Y (.dK aI)/\y=kV k /\
 (∀v,yt aI k=Y v->Q v (upd b a (.dK (yO aI k))))/\(yt aI k=L->Q z b)
section
variable {f:ay}{tx:TE}
def jt(C:X.A.units+1<cLine)(D:PE X o td)(J:PE X e ty)(G:PE X f tx)(m:M2 X o "get" uV e f u6):PE X (.Call (.Attribute o "get" uV) [e,f] [] u6) (VG td ty tx):=by
 intro aa s σ H Q I h;refine iH m.base m.few m.line eT mI PySem.F.type_dict_get (aX (D aa s σ H _ I h) ?_);rintro u l ⟨x,H1,c,q,a,M,d,w⟩;subst M;obtain rfl:u=bY a:=q;have #[j,i,_]:=XU c d;refine{j,i,?_};rw[m.trees];refine dN Z (eW (dG (aX (J aa l σ H1 _ c w) λiv k ⟨y,H2,T,p,v⟩=>
  dG (aX (G aa k σ H2 _ T v) λfv s3 ⟨z,H3,O,n,ov,g,t⟩=>fR ?_))))
 exact zju C O g p n λw' s4 N b=>{_,H3,N,b,t}
def VH(w:PE X o td)(z:PE X e ty)(m:M1 X o "pop" uV e u6):PE X (.Call (.Attribute o "pop" uV) [e] [] u6) (zct td ty):=by intro aa s σ H Q I h;refine iH m.base m.few m.line eT fq mJ (aX (w aa s σ H _ I h) ?_);rintro u j ⟨x,N,c,p,a,D,d,t⟩;subst D;obtain rfl:u=bY a:=p;have #[i,g,_]:=XU c d;refine{i,g,?_};rw[m.trees];refine dN Z (eW (dG (aX (z aa j σ N _ c t) λiv s2 ⟨y,H2,M,n,aI,k,v,G,C,l,q⟩=>fR ?_)));subst C;exact ziR M G n l (.inl Z) λO T J b=>{v,_,J,b,q}
def zaX(T:PE X o td)(he:PE X e ty)(hf:PE X f tx)(m:M2 X o "pop" uV e f u6):PE X (.Call (.Attribute o "pop" uV) [e,f] [] u6) (zjv td ty tx):=by
 intro aa s σ H Q I h;refine iH m.base m.few m.line eT fq mJ (aX (T aa s σ H _ I h) ?_);rintro u C ⟨x,H1,n,G,a,ex,d,O⟩;subst ex;obtain rfl:u=bY a:=G;have #[q,p,_]:=XU n d;refine{q,p,?_};rw[m.trees];refine dN Z (eW (dG (aX (he aa C σ H1 _ n O) λiv w ⟨y,H2,I2,g,N⟩=>
  dG (aX (hf aa w σ H2 _ I2 N) λfv s3 ⟨z,H3,j,D,aI,k,i,ey,M,J⟩=>fR ?_))))
 subst ey;cases l:yt aI k with
 |some v=>exact ziR j i g l (.inr {fv,Z}) λw' t c b=>{v,_,c,b,M v l}
 |none=>exact zjs j i g l λt c=>{z,H3,c,D,J l}
end
end L2
namespace Att
open PySem PySem.W PySem.Calls PyProof.Rows
def WR :∀(ns:List Int)(c:List aq),WellAll P h c (ns.map WData.int)->IntsAre c ns:=by
 intro ns;induction ns with
 |nil=>
  intro c w;rw[rF] at w;cases w;exact .nil
 |cons n ns ih=>
  intro c w;rw[bB] at w;cases w with
  |cons a b=>
   cases a;exact .cons _ _ (ih _ b)
theorem KQ{l:OpenLaw}{n:Nat}(s:l.most=Y n){P:Params}{args:List WData}{c:List aq}
  (e:l.row.toRowW.claim.pre args=U) (j:WellAll P h c args) :
  ∃a m b,c=[bY a]/\args=[WData.list (b.map WData.int)]/\h.get? a=Y { cls:=.type "list",data:=.seq m.toArray }/\IntsAre m b/\b.length<=n:=by
 have k:WShape.hasAll [] args [.list .int]=U:=(pre_splitW e).1;have o:l.pre.holds [] { args:=args }=U:=(pre_splitW e).2;have #[d,r,rfl,v,u]:=hasAllW_cons k;obtain rfl:=hasAllW_nil u;have #[w,rfl,t]:=hasW_list v;have #[b,rfl]:=items_int t;have f:b.length<=n:=by
  unfold OpenLaw.pre at o;have i:(WTm.not (.lt (.lit (.int (n:Int))) (.len (.arg 0)))).holds [] { args:=[.list (b.map .int)] }=U:=by have i:=(holds_andW o).1;rw[s] at i;exact i
  have g:=condW_of i (w_not (w_lt w_lit (w_len_list (w_arg Z))));rw[bn] at g;refine pQ λq=>?_;have p:(n:Int)<((b.length:Nat):Int):=by lia
  first
   |(rw[Bj p] at g;exact absurd g ())
   |(simp at g;lia)
 cases j with
 |cons w1 w2=>
  cases w2;cases w1 with
  |list ho hall=>exact{_,_,b,Z,Z,ho,WR b _ hall,f}
theorem KR(l:OpenLaw)(args:List WData):l.row.toRowW.claim.post args (.bool U) args=U:=
 postW_of (r:=l.row.toRowW) (X:=(U==U))
  (show WShape.has [] (.bool U) .bool=U by first|rfl|decide|simp[WShape.has,WShape.arms,WShape.armsAll])
  (show (WTm.eq .res (.lit (.bool U))).value [] { args:=args,res:=Y (.bool U),after:=args }=Y (.bool (U==U)) from w_eq_bool (w_res Z) w_lit) rfl
section
variable {prog:au}{w:av}{A:aA}{E:aq->ap->Prop}{s:ap}{K:Frag}
end
end Att
namespace L2
open PySem PySem.Spec PyProof.Rows
theorem KS:∀ {a:zX}{b:ym},IntsAre a b->aQ (b.map V.int) a
 |_,_,.nil=>.nil
 |_,_,.cons n t h=>.cons {t,Z} (KS h)
def zer(H:Hp):Prop:=∀b,H b=L\/∃o a,H b=Y (.frz o (.lst a))
theorem zaY{P:au}{w:av}{K:bL}{C mb:AG}{CX:CXT}{k:Nat}{fa a:af}{fd:Bc}{x:Str}{sp:Sp}{s₁:ap}{p:zX}{A:ym}
  (KX:K.In s₁.heap) (I:s₁.heap.Ns Bd C) (f:s₁.heap.Ns builtinsNs mb) (ac:∀x:Str,x≠"__name__"->mb x=Bh x) (J:s₁.heap.NoLimit) (hg:s₁.gens=#[]) (Q:s₁.heap.get? a=Y { cls:=.type "list",data:=.seq p.toArray }) (hi:IntsAre p A) (hl:A.length<=Bb) (hr:uW k callerA) (F:∀i:aw,K.In i->i.Ns Bd C->pv P w K C i CX k fa fd [x] sp) (t:∀(s:ap)(u:aq),BindsTo s fd {[u],[]} [(x,u)]) (aa:∀H:Hp,zer H->aO K H a (A.map V.int)->sp [.ref a] H (λv _=>v=.bl U) λ_ _ _=>False) (ag:∀H e g,CX [] H s₁ (λ_ _ _=>False) e g->False) :
  codeAny (Bg P w) callerA (.call (.ref fa) {[.ref a],[]}) (λr g=>r=.ok (.ret (.bool U))/\OldK s₁.heap g.heap/\g.os=s₁.os/\AllBare g.gens) s₁:=by
 have rv:=KS hi;have D:=hi.length
 have l:∀H:Hp,zer H->aO K H a (A.map V.int)->AH P w H s₁.heap->(∀b,H b≠L->b=a)->(H a≠L->K.lookup a=L) ->
   codeAny (Bg P w) callerA (.call (.ref fa) {[.ref a],[]}) (λr g=>r=.ok (.ret (.bool U))/\OldK s₁.heap g.heap/\g.os=s₁.os/\AllBare g.gens) s₁:=by
  intro H hO hS G hA hK;have c:∀ {b:af}{o:Obj},s₁.heap.get? b=Y o->H b=L->(QA s₁.heap H).get? b=Y o:=λe n=>zfa e n;have T:∀ {b:af}{o:Obj}{N:Array DictEntry}{ep:Nat},s₁.heap.get? b=Y o->o.data=.dict N ep->H b=L:=λ{b o N ep} e d=>by
   cases q:H b with
   |none=>rfl
   |some u=>
    have e':b=a:=hA b (by rw[q];simp);subst e';rw[Q] at e;cases e;have d':Data.seq p.toArray _=Data.dict N ep:=d;cases d'
  have j:∀ {b:af}{m:AG},s₁.heap.Ns b m->(QA s₁.heap H).Ns b m:=λ{b m} ⟨o,N,ep,e,d,r⟩=>{o,N,ep,c e (T e d),d,r};have M:K.In (QA s₁.heap H):=λb o e=>c (KX b o e) (by
   cases q:H b with
   |none=>rfl
   |some u=>
    have e':b=a:=hA b (by rw[q];simp);subst e';rw[hK (by rw[q];simp)] at e;cases e)
  have hM:Mod K C (QA s₁.heap H):={M,j I,{mb,j f,ac},let ⟨mc,h1,h2⟩:=J;{mc,j h1,h2}};have e0:Env0 P w K C (QA s₁.heap H) callerA [] s₁ H:={Z,hM,λb o e=>zhq e,eX (zed _ _),trivial,λb f=>absurd (show b∈([]:List af) from f) (by simp),G,.of_eq hg};refine ii ((F _ M (j I)).run callerA [] s₁ H {[.ref a],[]} [.ref a] [.ref a] _ _ hr e0 (t s₁ (.ref a)) (.cons Z .nil) (aa H hO hS)) λr g h=>?_;cases r with
  |error e=>exact(ag H e g h).elim
  |ok fl=>
   cases fl with
   |next=>exact dQ h
   |brk=>exact dQ h
   |cont=>exact dQ h
   |ret u=>
    have #[v,H',os,O,un,E,r',q]:=h;have q':v=.bl U:=q;subst q';obtain rfl:u=lY U:=r';refine{Z,OldK.of_keep λb o e=>?_,os,O};cases q:H b with
    |none=>exact un.keep b o e q (by intro z;exact absurd (show b∈([]:List af) from z) (by simp)) (by simp)
    |some u=>
     obtain z|⟨ob,xs,z⟩:=hO b
     .rw[q] at z;cases z
     .have z2:=un.frzs b ob _ z;have #[e1,_]:=G b _ z;have #[e2,_]:=E b _ z2;rw[e] at e1;cases e1;exact e2
 cases hk:K.lookup a with
 |some o=>
  have e:=KX a o hk;rw[Q] at e;cases e;refine l (λ_=>L) (λ_=>.inl Z) (.inr {_,p.toArray,_,hk,Z,Z,Z,by rw[bR,D];exact hl,by simpa using rv}) (λb u z=>by have y:(L:Option HO)=Y u:=z;cases y) (λb z=>absurd rfl z) λz=>absurd rfl z
 |none=>
  refine l (λb=>if b=a then Y (.frz { cls:=.type "list",data:=.seq p.toArray } (.lst (A.map V.int))) else L) (λb=>?_) (.inl (.inr {{ cls:=.type "list",data:=.seq p.toArray },ao Z})) (λb u z=>?_) (λb z=>?_) λ_=>hk
  .by_cases f:b=a
   .exact .inr {_,_,ao f}
   .exact .inl (ak f)
  .by_cases f:b=a
   .have y:=(ao f).symm.trans z;cases y;subst f;exact{Q,by rw[bn];exact hl,p,_,rv,Q}
   .have y:=(ak f).symm.trans z;cases y
  .by_cases f:b=a
   .exact f
   .exact absurd (ak f) z
abbrev KOf{K:bL}{h:aw}(_:K.In h):bL:=K
def z4(s:ax)(j:Nat):ax:=match s with
 |.ClassDef _ _ _ body _ _ _ _ _ _ _=>body.getD j (.Pass {0,0,0,0})
 |_=>.Pass {0,0,0,0}
def Ya(s:ax):Arguments:=match s with
 |.FunctionDef _ a _ _ _ _ _ _ _ _=>a
 |_=>{ posonlyargs:=[],args:=[],vararg:=L,kwonlyargs:=[],kw_defaults:=[],kwarg:=L,defaults:=[] }
def wM(s:ax):List ax:=match s with
 |.FunctionDef _ _ b _ _ _ _ _ _ _=>b
 |_=>[]
def zq(s:ax):aB:=match s with
 |.FunctionDef _ _ _ _ _ _ sc _ _ _=>sc
 |_=>{ kind:=.function,names:=[],isGenerator:=am,isCoroutine:=am }
abbrev E0:XK:=λ_ _ _=>False
structure Fun(K:bL)(x qual:Str)(st:ax)(f:af)(fd:Bc):Prop where
 ex:∃(oc:aq)(od:Option af)(kV doc pm:aq)(an:Option af)(cdv ct:aq)(osl:Array (Option aq)),
  fd=uy x qual (Ya st) (wM st) (zq st) .none kV doc pm an cdv ct/\K.lookup f=Y {oc,od,.func fd,osl}/\ur K cdv qual=U
 kp:pA K (.ref f)=U
section
variable {P:au}{w:av}{K:bL}{mg:AG}{base:aw}
def fun_mk{b:ax}{f:af}{m:aq}{j i:Option af}{e:Array (Option aq)}{kV d g a h:aq}(l:K.lookup f=Y {m,j,.func (uy x qual (Ya b) (wM b) (zq b) .none kV d g i a h),e})(c:ur K a qual=U)(k:pA K (.ref f)=U):Fun K x qual b f (uy x qual (Ya b) (wM b) (zq b) .none kV d g i a h):={{m,j,kV,d,g,i,a,h,e,Z,l,c},k}
end
theorem yY(a:uW k A):A.units+1<cLine:=bM (c8 (by lia:1<=64) _) a.units
variable {X:Cx}
def B(i:Nat){a:Pos}(e:X.N[i]?=Y x:=by rfl)(c:Vis X.e.scope x:=by first|exact m6 rfl|exact sC (m6 Z)|exact sC (sC Z))(d:Bq x:=by lia)(b:(x==("__classdict__":Str))=am:=by lia):PE X (.Name x a) (zk i):=zjh e c d b
def Y0{c A Bn:Prop}[Decidable c](b:c->A)(a:¬ c->Bn):if c then A else Bn:=by
 by_cases h:c
 .rw[ao h];exact b h
 .rw[ak h];exact a h
def aJ(H a:Hp):Prop:=∀b o,H b=Y o->a b=Y o
def aJ.refl(H:Hp):aJ H H:=λ_ _ h=>h
def aJ.trans{H d H2:Hp}(a:aJ H d)(b:aJ d H2):aJ H H2:=λc o h=>b c o (a c o h)
section
variable {κ:Type}[DecidableEq κ]
theorem zaZ{a:List (κ×V)}{k:κ}(h:yt a k=L):¬ k∈a.map (·.1):=by intro m;have #[p,c,e]:=bK.mp m;have q:(a.any λb=>decide (b.1=k))=U:=mW.mpr {p,c,Bj e};rw[vV,h] at q;exact absurd q (by simp)
def zdn{a:List (κ×V)}{k:κ}{v:V}(h:yt a k=Y v):k∈a.map (·.1):=by
 have q:(a.any λb=>decide (b.1=k))=U:=by
  rw[vV,h]
  all_goals rfl
 have #[p,c,e]:=mW.mp q;exact bK.mpr {p,c,of_decide_eq_true e}
theorem zdo:∀ {l:List κ}{k:κ},l.Nodup->¬ k∈l->(l++[k]).Nodup
 |[],k,_,_=>by simp
 |a::r,k,h,hk=>by
  have #[c,b]:=cw.mp h;show (a::(r++[k])).Nodup;refine cw.mpr {λm=>?_,zdo b λm=>hk (bC.mpr (sC m))};obtain q|q:=bp.mp m
  .exact c q
  .exact hk (bC.mpr (m6 (bo.mp q).symm))
def zhC{a:List (κ×V)}{k:κ}(v:V)(b:(a.map (·.1)).Nodup)(h:yt a k=L):((xo a k v).map (·.1)).Nodup:=by rw[jr v h,bZ];exact zdo b (zaZ h)
theorem KU{p:κ×V}{r:List (κ×V)}(e:p.1=k):yO (p::r) k=yO r k:=by unfold yO;rw[dZ,ak (by simp[e])]
theorem XV{p:κ×V}{r:List (κ×V)}(e:¬ p.1=k):yO (p::r) k=p::yO r k:=by unfold yO;rw[dZ,ao (by simp[e])]
def zes{aI:List (κ×V)}{p:κ×V}(h:p∈yO aI k):p∈aI:=(cC.mp h).1
end
end L2
set_option Elab.async false
set_option linter.all false
set_option maxRecDepth 100000
set_option maxHeartbeats 4000000
namespace L2
open PySem PySem.Spec PyProof.Rows
def Cx.comp(X:Cx)(a:aB)(c:List (Str×af))(C:af)(N:yu)(b:List af)(s:ap)(H:Hp):Cx:=
 { X with e:=compEnvC a c C X.e,N:=N,s₀:=s,H₀:=H,J:=X.k,ex:=b,fn:=λ_=>am,pn:=[],xe:=λ_ _=>False }
abbrev zZ:=List Nat
structure Yb(X:Cx)(scope:aB)(cl:List (Str×af))(ix:zZ):Prop where
 clos:closureFor scope X.e=pure cl
 nocell:∀y∈scope.names,y.2≠.cell
 kind:scope.kind=.function
 names:∀y∈scope.names,y.2=.local->scope.names.lookup y.1=Y .local
 sub:∀y c,cl.lookup y=Y c->X.e.cells.lookup y=Y c
 has:∀y,((relabel scope X.e).names.lookup y=Y .cell\/(relabel scope X.e).names.lookup y=Y .free)->∃c,cl.lookup y=Y c
 cap:∀i∈ix,∃y,X.N[i]?=Y y/\(X.e.kindOf y=Y .cell\/X.e.kindOf y=Y .free)/\((relabel scope X.e).names.lookup y=Y .cell\/(relabel scope X.e).names.lookup y=Y .free)
def Zp(a:aB)(b:Env):List (Str×af):=a.names.foldl (λc y=>if y.2==.free then (y.1,(b.cells.lookup y.1).getD 0)::c else c) []
def zdp(a:aB)(N:yu)(b:aB)(c:zZ):Bool:=
 b.kind==.function&&b.names.all (λy=>y.2 != .cell&&(y.2 != .local || b.names.lookup y.1==Y .local)&&(y.2 != .free || a.names.lookup y.1==Y .cell || a.names.lookup y.1==Y .free)) &&
  c.all λi=>match N[i]? with
   |some y=>b.names.lookup y==Y .free
   |none=>am
def vW{l:List (Str×NameKind)}{y:Str}(h:l.lookup y=Y k):(y,k)∈l:=fU h
theorem qp{a:Env}:∀ {b:List (Str×NameKind)}{x:Str}{k:NameKind},(b.map λ(n,k)=>if (k==dO&&a.scope.kind==.function&&a.kindOf n==Y .cell) then (n,pI) else (n,k)).lookup x=Y k ->
  ∃c,b.lookup x=Y c/\(c=.free\/c=k)
 |[],_,_,h=>by simp at h
 |(n,c)::r,x,k,h=>by
  have f:=@qp a r x k;rw[bB] at h;cases hx:x==n with
  |true=>
   by_cases hc:(c==dO&&a.scope.kind==.function&&a.kindOf n==Y .cell)=U
   .have e:c=.free:=by have:=(cG _ _ ▸ (cG _ _ ▸ hc).1).1;simpa using this
    exact{c,by simp[cK,hx],.inl e}
   .simp only[ak hc,cK,hx] at h;exact{c,by simp[cK,hx],.inr (bU h)}
  |false=>
   have g:(r.map λ(n,k)=>if (k==dO&&a.scope.kind==.function&&a.kindOf n==Y .cell) then (n,pI) else (n,k)).lookup x=Y k:=by
    by_cases hc:(c==dO&&a.scope.kind==.function&&a.kindOf n==Y .cell)=U
    .simp only[ao hc,cK,hx] at h;exact h
    .simp only[ak hc,cK,hx] at h;exact h
   have #[q,e,d]:=f g;exact{q,by simp only[cK,hx];exact e,d}
theorem Y1{a:Env}:∀ {b:List (Str×NameKind)}{x:Str},b.lookup x=Y .free ->
  ((b.map λ(n,k)=>if (k==dO&&a.scope.kind==.function&&a.kindOf n==Y .cell) then (n,pI) else (n,k)).lookup x=Y .cell \/
   (b.map λ(n,k)=>if (k==dO&&a.scope.kind==.function&&a.kindOf n==Y .cell) then (n,pI) else (n,k)).lookup x=Y .free)
 |[],_,h=>by simp at h
 |(n,k')::r,x,h=>by
  have c:=@Y1 a r x;rw[bB];cases hx:x==n with
  |true=>
   simp only[cK,hx] at h;cases h;by_cases hc:(dO==dO&&a.scope.kind==.function&&a.kindOf n==Y .cell)=U
   .left;simp only[ao hc,cK,hx]
   .right;simp only[ak hc,cK,hx]
  |false=>
   simp only[cK,hx] at h;by_cases hc:(k'==dO&&a.scope.kind==.function&&a.kindOf n==Y .cell)=U
   .simp only[ao hc,cK,hx];exact c h
   .simp only[ak hc,cK,hx];exact c h
theorem KW{a:Env}:∀(l:List (Str×NameKind))(d:List (Str×af)),(∀y∈l,y.2=.free->∃c,a.cells.lookup y.1=Y c) ->
  (∀y c,d.lookup y=Y c->a.cells.lookup y=Y c)->∀y c,(l.foldl (λd y=>if y.2==.free then (y.1,(a.cells.lookup y.1).getD 0)::d else d) d).lookup y=Y c->a.cells.lookup y=Y c
 |[],_,_,h,y,c,e=>h y c e
 |z::r,d,hl,h,y,c,e=>by
  rw[fA] at e;refine KW r _ (λy j=>hl y (bt _ j)) (λg n b=>?_) y c e;by_cases hz:z.2=.free
  .have #[m,i]:=hl z bw hz;have f:(z.2==dO)=U:=by simpa using hz
   rw[ao f,i,cK] at b;cases hq:g==z.1 with
   |true=>
    rw[hq] at b;have k:g=z.1:=by simpa using hq
    cases b;rw[k];exact i
   |false=>rw[hq] at b;exact h _ _ b
  .have f:(z.2==dO)=am:=by simpa using hz
   rw[f] at b;exact h _ _ b
theorem za0{b:Env}:∀(l:List (Str×NameKind))(a:List (Str×af))(y:Str),((∃c,a.lookup y=Y c)\/(y,dO)∈l) ->
  ∃c,(l.foldl (λa y=>if y.2==.free then (y.1,(b.cells.lookup y.1).getD 0)::a else a) a).lookup y=Y c
 |[],_,_,h=>h.elim id nofun
 |z::r,a,y,h=>by
  rw[fA];refine za0 r _ y ?_;obtain ⟨c,h⟩|h:=h
  .left
   by_cases hz:(z.2==dO)=U
   .rw[ao hz,cK];cases y==z.1 with
    |true=>exact{_,Z}
    |false=>exact{c,h}
   .rw[ak hz];exact{c,h}
  .obtain h|h:=bC.mp h
   .left
    subst h;rw[ao (by rfl),cK];simp
   .exact .inr h
theorem QO{a:Env}:∀(l:List (Str×NameKind))(b:List (Str×af)),(∀y∈l,y.2=.free->∃c,a.cells.lookup y.1=Y c) ->
  forIn (m:=Sem) l b (λx r=>match x with|(name,kind)=>if (kind==dO)=U then do let c <-cellOf a name;pure (iA ((name,c)::r)) else pure (iA r)) =
   pure (l.foldl (λb y=>if y.2==.free then (y.1,(a.cells.lookup y.1).getD 0)::b else b) b)
 |[],_,_=>rfl
 |(n,k)::r,b,h=>by
  rw[rG,fA];by_cases hz:(k==dO)=U
  .have #[c,f]:=h (n,k) bw (by simpa using hz);have e:cellOf a n=pure c:=by unfold cellOf;rw[f]
   simp only[hz,if_true,e,pure_bind];rw[QO r _ λy d=>h y (bt _ d)];simp only[f,Option.getD_some]
  .simp only[hz,if_false,pure_bind];exact QO r _ λy d=>h y (bt _ d)
theorem Y2(k:X.Ok)(h:zdp osc N scope ix=U)(n:X.e.scope=osc)(r:X.N=N):Yb X scope (Zp scope X.e) ix:=by
 subst n r;unfold zdp at h;rw[cG,cG,mX,mX] at h;have #[#[v,u],t]:=h;have p:∀y∈scope.names,y.2≠.cell/\(y.2=.local->scope.names.lookup y.1=Y .local)/\(y.2=.free->X.e.kindOf y.1=Y .cell\/X.e.kindOf y.1=Y .free):=λy hy=>by
  have q:=u y hy;rw[cG,cG] at q;have #[#[j,d],b]:=q;refine{by simpa using j,λe=>?_,λe=>?_}
  .rw[e] at d;simpa using d
  .rw[e] at b;have a:X.e.scope.names.lookup y.1=Y .cell\/X.e.scope.names.lookup y.1=Y .free:=by simpa using b
   exact a
 have f:∀y∈scope.names,y.2=.free->∃c,X.e.cells.lookup y.1=Y c:=λy hy e=>k.has y.1 ((p y hy).2.2 e);refine{?_,λy hy=>(p y hy).1,by simpa using v,λy hy=>(p y hy).2.1,λy c e=>KW scope.names [] f (λ_ _ z=>by simp at z) y c e,λy hy=>?_,λi o=>?_}
 .have e:=QO scope.names [] f;unfold closureFor Zp;refine Eq.trans (congrArg (λm=>m >>= λs=>(pure s:Sem (List (Str×af)))) e) ?_;rw[pure_bind]
 .refine za0 scope.names [] y (.inr ?_);obtain hy|hy:=hy
  .obtain⟨l,e,z|z⟩:=qp hy
   .subst z;exact vW e
   .subst z;exact absurd Z (p _ (vW e)).1
  .obtain⟨l,e,z|z⟩:=qp hy
   .subst z;exact vW e
   .subst z;exact vW e
 .have q:=t i o;cases hy:X.N[i]? with
  |none=>rw[hy] at q;cases q
  |some y=>
   rw[hy] at q;have g:scope.names.lookup y=Y .free:=by simpa using q
   exact{y,Z,(p _ (vW g)).2.2 Z,Y1 g}
def zcu(b:zZ)(a:St):St:=b.map λi=>(a[i]?).getD L
def kQ(a:zZ)(N:yu):yu:=a.map λi=>(N[i]?).getD ""
variable {X:Cx}{aa:Af}{σ:St}{H:Hp}{s:ap}{scope:aB}{cl:List (Str×af)}{ix:zZ}{C:af}{xs:yu}
section
variable {fp:List af}
def aL.compOk(I:aL X aa σ H s)(S:Yb X scope cl ix)(g:C=s.heap.objs.size)(d:∀b∈fp,Zg X aa H b)(k:∀b∈fp,b<s.heap.objs.size)(n:yu) :
  (X.comp scope cl C n fp s H).Ok where
 mod:=I.ok.mod
 kind:=S.kind
 glob:=I.ok.glob
 blt:=I.ok.blt
 above:=eX g.symm
 inj:=λx y c f l=>I.ok.inj x y c (S.sub x c f) (S.sub y c l)
 has:=λx j=>S.has x j
 cab:=λx c f _=>nomatch f
 hd:=I.ok.hd
 frames:=I.ok.frames
 stk:=.inl rfl
 exf:=λb a=>{λz=>absurd (k b a) (by rw[z];show ¬ C<_;rw[g];exact iF _),λx c h=>(d b a).2.2.2.2.1 x c (S.sub x c h)}
 bs:=I.bs
 bsz:=bI I.ok.bsz I.sz
 noex:=λb o e a=>by
  rcases(d b a).2.2.2.1 with z|z
  .exact I.ok.noex b o e z
  .exact absurd (bH (bS e) (bI I.ok.bsz z)) (iF _)
 exfs:=λb a z=>by
  obtain e|e:=bC.mp (I.stkSub b z)
  .exact(d b a).2.1 e
  .exact(d b a).2.2.1 e
 funs:=I.stack
 frf:=I.stkFree
theorem aL.comp{d:aw}{f:AG}{t':Nat}(I:aL X aa σ H s)(S:Yb X scope cl ix)(E:C=s.heap.objs.size)(hf:∀b∈fp,Zg X aa H b)(hl:∀b∈fp,b<s.heap.objs.size)(T:d.Ns C f)(n:∀b o,s.heap.get? b=Y o->d.get? b=Y o) :
  aL (X.comp scope cl C (xs++kQ ix X.N) fp s H) [] (oB xs.length L++zcu ix σ) H { s with heap:=d,toks:=t' } where
 ok:=I.compOk S E hf hl _
 os:=rfl
 bare:=I.bare
 base:=Un.kept n
 loc:=by
  refine{f,T,λi y v e1 g e3=>?_};by_cases hi:i<xs.length
  .rw[cx (by simpa using hi),pC,ao hi] at g;cases g
  .have a:(xs++kQ ix X.N)[i]?=Y y:=e1;rw[cp ()] at a;rw[cp (by rw[ik];lia),ik] at g;generalize i-xs.length=j at a g;unfold kQ at a;unfold zcu at g;rw[bF] at a g;cases hj:ix[j]? with
   |none=>rw[hj] at a;cases a
   |some k=>
    rw[hj] at a g;have #[t,M,J,G]:=S.cap k (bA hj);have ey:t=y:=by have q:(X.N[k]?).getD ""=y:=bU a;rw[M] at q;exact q
    subst ey;have ev:σ[k]?=Y (Y v):=by
     have q:(σ[k]?).getD L=Y v:=bU g;cases hs:σ[k]? with
     |none=>rw[hs] at q;cases q
     |some o=>rw[hs] at q;exact congrArg Y q
    have #[m,hm,O]:=I.loc;have #[u,r,l]:=O k t v M ev (J.elim (λz=>.inr (.inl z)) λz=>.inr (.inr z));refine{u,r,.inr {G,?_}};obtain ⟨l1,_⟩|⟨_,c,lc,⟨o,A,D⟩⟩:=l
    .obtain z|z:=J <;> (rw[l1] at z;cases z)
    .have #[c',h]:=S.has t G;have e:=S.sub _ _ h;rw[lc] at e;cases e;exact{c,h,o,n _ _ A,D}
 cell:=λx c e=>by have #[v,o,A,D]:=I.cell x c (S.sub x c e);exact{v,o,n _ _ A,D}
 free:=I.hok.fresh (eX E.symm)
 freeC:=λx c e=>I.freeC x c (S.sub x c e)
 pin:=λp Q=>absurd (show p∈([]:Af) from Q) (by simp)
 hok:=I.hok.kept n
 len:=by show (oB xs.length L++zcu ix σ).length=(xs++kQ ix X.N).length;rw[bh,bh,ik,zcu,kQ,bn,bn]
def aL.uncomp{j:St}{h:Hp}{O:yu}{r:aw}(I:aL X aa σ H s)(A:C=s.heap.objs.size)(z:∀b∈fp,Zg X aa H b)(J:aL (X.comp scope cl C O fp s H) [] j h s')(g:de C s'.heap r):aL X aa σ h { s' with heap:=r }:=by
 have lt:∀b o,s.heap.get? b=Y o->b≠C:=λb o e=>by rw[A];exact b8 (bS e)
 have a:Un (Ax X.k) fp H h s.heap s'.heap:=J.base;refine I.call' (s':={ s' with heap:=r }) (ch:=fp) J.os ?_ ?_ J.bare ?_
 .exact{λb o e n f l=>(g.2 b (lt b o e)).trans (a.keep b o e n f l),λb o e n f l=>by
   have #[t,q]:=a.slot b o e n f l;exact{t,(g.2 b (lt b o e)).trans q},a.free,λb o e f=>by have #[y,q]:=a.there b o e f;exact{y,(g.2 b (lt b o e)).trans q},a.tups,a.frzs,a.tbls}
 .intro b o e;refine(J.hok b o e).stay (λc u hc q=>(g.2 c ?_).trans q) (λ_ q=>q) λ_ _ q=>q;have d:h C=L:=J.free;rintro rfl;obtain rfl|hc:=hc
  .rw[d] at e;cases e
  .rw[d] at hc;cases hc
 .intro b k;have #[T,M,Q,G,E,D]:=z b k;exact{G,M,E,D}
end
def PTs(X:Cx)(a:List ay)(t:TT):Prop:=
 ∀(aa:Af)(s:ap)(σ:St)(H:Hp)(Q:Bool->Hp->Prop),aL X aa σ H s->t σ H Q ->
  Bf (Bg X.p X.w) X.A (forIn a U λc r=>if r=U then do let b <-isTrue c X.e (eval c X.e);pure (iA b) else pure (iA r)) (TP X aa σ Q) X.xe s
def J2:TT:=λ_ H Q=>Q U H
def jR :PTs X [] J2:=λ_ _ _ H _ I h=>wpAny_tests_nil {H,I,h}
def zhD(h:PT X c t):PTs X [c] t:=λaa s σ H Q I q=>wpAny_tests_one (h aa s σ H Q I q)
variable {prog:au}{A:aA}{R:aC->ap->Prop}
section
variable {w:av}
def QP{u a l:ay}{t:List ay}{scope:aB}{D:Pos}{O y:aq}{b:Env}(W:Nat->ap->Prop){EE:Aa}
  (T:∀e N,EE e N->notedBy (Bg prog w) A b (λe N=>R (.error e) N) e N) (z:∀n s,W n s->Bf (Bg prog w) A (pyNext O) (λr f=>match r with
   |none=>R (.ok .next) f
   |some v=>Bf (Bg prog w) A (letOwnedTupleGo a O v) (λ_ g=>Bf (Bg prog w) A (assign a b v) (λ_ k=>
     Bf (Bg prog w) A (forIn t U λc r=>if r=U then do let E <-isTrue c b (eval c b);pure (iA E) else pure (iA r)) (λE d=>
      if E=U then Bf (Bg prog w) A (eval u b) (λx j=>Bf (Bg prog w) A (call (.builtin "list.append") [y,x]) (λ_ i=>∃m,m<n/\W m i) EE j) EE d
      else ∃m,m<n/\W m d) EE k) EE g) EE f) EE s) (n:Nat) (h:W n s):codeAny (Bg prog w) A (.compLoop (.ListComp u [{a,l,t,0}] scope D) 0 O y b) R s:=by
 refine codeAny_loop Z W (λn s Q=>?_) n h;show Bf _ A ((compTurn (.ListComp u [{a,l,t,0}] scope D) 0 O y b).onRaise (λx=>do noteFrame x b;theTreesLotGoes x)) _ _ s;refine wpAny_noted (eL ?_ (λ_ _ q=>q) T);rw[compTurn_list];refine bb (wpAny_standAt (bb (aX (z n s Q) λr f p=>?_)));cases r with
 |none=>exact bu p
 |some v=>
  refine bb (aX p λ_ g G=>?_);refine bb (aX G λ_ k M=>bb (aX M λE d o=>?_));cases E with
  |false=>exact bu {Z,o}
  |true=>exact bb (bb (aX o λx j J=>bb (aX J λ_ i I=>bu (bu {Z,I}))))
end
def kR(o:TI)(g:TG)(p:TT)(q:TE)(k:Nat)(ix:zZ):TE:=λσ H Q=>o σ H λJ n=>∀D,n D=L ->
 ∃W:Nat->Nat->LV->At,(∃m,W 0 m [] (oB k L++zcu ix σ) (upd n D (.lst [])))/\∀i m e h H,W i m e h H->H D=Y (.lst e) /\
  ((J.stop i H/\Q (.ref D) H)\/(J.go i H/\e.length<Bb/\∃N:V->At,
   (∀v a d,N v a d->d D=Y (.lst e)/\∃f,f<m/\W (i+1) f (e++[v]) a (upd d D (.lst (e++[v]))))/\∃j:At,(∀a d,j a d->∃f,f<m/\W (i+1) f e a d) /\
   ∀x d,J.yld i H x d->g x h d λc t=>p c t λb l=>if b=U then q c l λv r=>N v c r else j c l))
variable {tg:ay}{pos:Pos}{te:TE}
section
variable {elt iter:ay}{ifs:List ay}{wi:TI}{g:TG}{tt:TT}
theorem VI(S:Yb X scope cl ix)(hc:X.c=U)(hi:PI X tg iter wi)(hg:∀C f s H,PG (X.comp scope cl C (xs++kQ ix X.N) f s H) tg g)(ht:∀C f s H,PTs (X.comp scope cl C (xs++kQ ix X.N) f s H) ifs tt)(he:∀C f s H,PE (X.comp scope cl C (xs++kQ ix X.N) f s H) elt te)
  {H:Hp} {Q:VK} (I:aL X aa σ H s) (h:kR wi g tt te xs.length ix σ H Q) {RR:aq->af->aC->ap->Prop}
  (hR:∀v u M C,aR v u->(∃H',Q v H'/\(∃m,M.heap.Ns C m)/\(∀h',de C M.heap h'->aL X aa σ H' { M with heap:=h' })/\Zg X aa H' C)->RR u C (.ok .next) M) :
  Bf (Bg X.p X.w) X.A (eval iter X.e) (λx ar=>Bf (Bg X.p X.w) X.A (pyIter x) (λit an=>Bf (Bg X.p X.w) X.A (newList []) (λa7 al=>
   Bf (Bg X.p X.w) X.A (newFunctionEnv scope X.e.globals cl [] X.e.qual L .none (Y X.e)) (λO aj=>
    codeAny (Bg X.p X.w) X.A (.compStart (.ListComp elt [{tg,iter,ifs,0}] scope pos) 0 it a7 { O with scope:=relabel scope X.e }) (RR a7 O.locals) aj) X.xe al) X.xe an) X.xe ar) X.xe s:=by
 refine aX (hi aa s σ H _ I h) λv s1 h1=>aX h1 λbk a h2=>?_;have #[it,f,tn,J,H2,e,I2,T,a1,f2,hW]:=h2;subst e;refine dE (wpAny_newFunctionEnv S.nocell (λy hy=>nomatch hy) (λh₁ k j=>?_) S.kind);dsimp only at k j ⊢;have #[W,#[m0,w0],ai]:=hW a.heap.objs.size I2.fresh;have I3:=I2.lnew (t':=a.toks) (ys:=[]) (its:=[]) .nil (cf _);have a5:∀b∈f,b<a.heap.objs.size:=λb c=>by have #[o,e,_]:=T.obj _ _ a1 b c;exact bS e
 generalize hs3:({ a with heap:=a.heap.push { cls:=.type "list",data:=.seq ([]:zX).toArray },toks:=a.toks }:ap)=s3 at I3;have E:s3.heap=a.heap.push { cls:=.type "list",data:=.seq ([]:zX).toArray }:=by rw[<-hs3]
 have a8:s3.heap.objs.size=a.heap.objs.size+1:=by rw[E,fQ]
 have f3:∀b∈f,Zg X aa (upd H2 a.heap.objs.size (.lst [])) b:=λb c=>by have #[q0,q]:=f2 b c;exact{by rw[zt (b8 (a5 b c))];exact q0,q}
 have a4:∀b∈f,b<s3.heap.objs.size:=λb c=>by rw[a8];exact tN (a5 b c)
 rw[<-E] at k j ⊢;have hk:∀b o,s3.heap.get? b=Y o->h₁.get? b=Y o:=λb o e=>(j.2 b (b8 (bS e))).trans (bg _ e);have bc:∀b o,a.heap.get? b=Y o->s3.heap.get? b=Y o:=λb o e=>by rw[E];exact bg _ e
 have J0:=I3.comp (xs:=xs) (t':=a.toks) (C:=s3.heap.objs.size) S Z f3 a4 k hk;have aS:tn 0 h₁:=T.keep _ _ _ a1 λb _ o e=>hk b o (bc b o e);have a3:∀t,codeAny (Bg X.p X.w) X.A (.compLoop (.ListComp elt [{tg,iter,ifs,0}] scope pos) 0 (.ref it) (.ref a.heap.objs.size) (compEnvC scope cl s3.heap.objs.size X.e)) (RR (.ref a.heap.objs.size) s3.heap.objs.size) { s3 with heap:=h₁,toks:=t }:=by
  intro t;refine QP (EE:=λ_ _=>False) (λn M=>∃i ys G H',aL (X.comp scope cl s3.heap.objs.size (xs++kQ ix X.N) f s3 (upd H2 a.heap.objs.size (.lst []))) [] G H' M/\tn i M.heap/\(∀b∈f,H' b=L)/\W i n ys G H')
   (λ_ _ z=>z.elim) ?_ m0 {0,[],_,_,J0.tok t,aS,λb c=>(f3 b c).1,w0}
  rintro n M ⟨i,ys,G,H',I',a2,a6,w'⟩;have w:∀ {H':Hp},(∀b∈f,H' b=L)->∀b∈f,Zg (X.comp scope cl s3.heap.objs.size (xs++kQ ix X.N) f s3 (upd H2 a.heap.objs.size (.lst []))) [] H' b:=λhn b c=>
   {hn b c,(I'.ok.exf b c).1,I'.ok.exfs b c,.inl c,(I'.ok.exf b c).2,λp hp=>absurd (show p∈([]:Af) from hp) (by simp)}
  obtain⟨hD,⟨az,q⟩|⟨go,hz,N,hN,Nf,be,aP⟩⟩:=ai i n ys G H' w'
  .refine aX (T.done (X.comp scope cl s3.heap.objs.size (xs++kQ ix X.N) f s3 (upd H2 a.heap.objs.size (.lst []))) Z Z Z hc i [] M G H' _ I' (w a6) a2 az) ?_;rintro r s4 ⟨hr,I4⟩;subst hr;refine hR (.ref a.heap.objs.size) _ s4 _ Z {H',q,?_,λh' c=>I3.uncomp Z f3 I4 c,I3.fpOk (bq _) I4.free};have #[m,hn,_]:=I4.loc;exact{m,hn}
  .refine aX (T.item (X.comp scope cl s3.heap.objs.size (xs++kQ ix X.N) f s3 (upd H2 a.heap.objs.size (.lst []))) Z Z Z hc i [] M G H' _ I' (w a6) a2 go) ?_;rintro r s4 ⟨u,hr,h4⟩;subst hr;refine aX h4 ?_;rintro _ s5 ⟨x,H5,I5,r5,y5,ag,bi⟩;have bj:=I5.pinned (w bi) (T.obj _ _ ag);refine aX (hg _ _ _ _ _ s5 G H5 x u _ bj r5 (aP x H5 y5)) ?_;rintro _ s6 ⟨l,H6,I6,q6⟩;refine aX (ht _ _ _ _ _ s6 l H6 _ I6 q6) ?_;rintro ok s7 ⟨H7,I7,q7⟩;have ac:∀ {s8:ap}{H8:Hp}{m:Nat}{zs:LV},aL (X.comp scope cl s3.heap.objs.size (xs++kQ ix X.N) f s3 (upd H2 a.heap.objs.size (.lst []))) ([]++Vx f s5.heap) l H8 s8->W (i+1) m zs l H8 ->
     ∃i ys G H',aL (X.comp scope cl s3.heap.objs.size (xs++kQ ix X.N) f s3 (upd H2 a.heap.objs.size (.lst []))) [] G H' s8/\tn i s8.heap/\(∀b∈f,H' b=L)/\W i m ys G H':=λ{s8 H8 m zs} I8 w8=>by refine{i+1,zs,l,H8,I8.unpinned,T.keep _ _ _ ag λb c o e=>(I8.pin (b,o) (bQ _ (bQ _ (ql c e)))).1,λb c=>?_,w8};have #[o,e,d]:=T.obj _ _ ag b c;exact(I8.pin (b,o) (bQ _ (bQ _ (ql c e)))).2.1
   cases ok with
   |false=>
    rw[ak bV] at q7 ⊢;have #[m',hm,w7]:=be _ _ q7;exact{m',hm,ac I7 w7}
   |true=>
    rw[ao rfl] at q7 ⊢;refine aX (he _ _ _ _ _ s7 l H7 _ I7 q7) ?_;rintro y s8 ⟨v8,H8,I8,r8,n8⟩;have #[bf,m',hm,w8]:=hN _ _ _ n8;refine aX (yC _ s8 l H8 (.ref a.heap.objs.size) [v8] (.ref a.heap.objs.size) [y] (λ_ Hn=>∃m,m<n/\W (i+1) m (ys++[v8]) l Hn) I8 Z (.cons r8 .nil) {_,ys,v8,Z,Z,bf,hz,m',hm,w8}) ?_;rintro _ s9 ⟨_,H9,I9,_,m9,a9,w9⟩;exact{m9,a9,ac I9 w9}
 have e3:∀t,({ s3 with heap:=h₁,toks:=t }:ap)={ a with heap:=h₁,toks:=t }:=λt=>by rw[<-hs3]
 have D:∀t,codeAny (Bg X.p X.w) X.A (.compLoop (.ListComp elt [{tg,iter,ifs,0}] scope pos) 0 (.ref it) (.ref a.heap.objs.size) (compEnvC scope cl s3.heap.objs.size X.e)) (RR (.ref a.heap.objs.size) s3.heap.objs.size) { a with heap:=h₁,toks:=t }:=λt=>by rw[<-e3];exact a3 t
 exact codeAny_compStart_list (D _) (T.self _ 0 _ _ _ aS (D _))
def qq(l:X.c=U)(t:zdp osc N scope ix=U)(i:PI X tg iter wi)(j:∀C a s H,PG (X.comp scope (Zp scope X.e) C (xs++kQ ix X.N) a s H) tg g)(d:∀C a s H,PTs (X.comp scope (Zp scope X.e) C (xs++kQ ix X.N) a s H) ifs tt)(k:∀C a s H,PE (X.comp scope (Zp scope X.e) C (xs++kQ ix X.N) a s H) elt te)(b:X.e.scope=osc:=by rfl)(o:X.N=N:=by rfl)(e:∀x,foldedSetIterable iter X.e x=pure x:=by intro _;rfl) :
  PE X (.ListComp elt [{tg,iter,ifs,0}] scope pos) (kR wi g tt te xs.length ix):=by intro aa s σ H Q I h;have S:=Y2 I.ok t b o;rw[eval_ListComp];refine oN (use:=L) Z e S.clos S.kind S.names (VI S l i j d k I h (RR:=λc C=>compPost (Bg X.p X.w) X.A X.xe L (EP X aa σ Q) c C) ?_);rintro v u z C r ⟨y,q,⟨m,f⟩,p,_⟩;exact{m,f,λw n=>{v,y,p w n,r,q}}
def VJ{y:Str}{d:Pos}{j:Nat}{c:Pos}(p:X.N.Nodup)(hj:X.N[j]?=Y y)(hc:X.c=U)(M:Loc X.e.scope y)(hD:zdp osc N scope ix=U)(hi:PI X tg iter wi)(hg:∀C f s H,PG (X.comp scope (Zp scope X.e) C (xs++kQ ix X.N) f s H) tg g)(T:∀C f s H,PTs (X.comp scope (Zp scope X.e) C (xs++kQ ix X.N) f s H) ifs tt)(he:∀C f s H,PE (X.comp scope (Zp scope X.e) C (xs++kQ ix X.N) f s H) elt te)(k:X.e.scope=osc:=by rfl)(hN:X.N=N:=by rfl)(i:swapsWith (.ListComp elt [{tg,iter,ifs,0}] scope pos) (Y (.Name y d)) c.line X.e=pure U:=by rfl)(hs:∀x,foldedSetIterable iter X.e x=pure x:=by intro _;rfl)(hf:X.fn y=U\/X.e.scope.names.lookup y=Y .local:=by first|exact .inl rfl|exact .inr rfl|assumption) :
  PS X (.Assign [.Name y d] (.ListComp elt [{tg,iter,ifs,0}] scope pos) c) (yF (kR wi g tt te xs.length ix) (zM j)):=by
 intro aa s σ H D I h;have S:=Y2 I.ok hD k hN;rw[exec_Assign_Name_used _ _ _ _ i];refine bb (wpAny_standAt (bb ?_));show Bf _ X.A (do let _ <-comprehension (.ListComp elt [{tg,iter,ifs,0}] scope pos) scope X.e _ (newList []) am (eval iter X.e) (Y (assign (.Name y d) X.e))) _ _ s;refine bb (aX (oN (use:=Y (assign (.Name y d) X.e)) (Q:=λ_ s'=>SP X aa D .next s') rfl hs S.clos S.kind S.names
  (VI S hc hi hg T he I h (RR:=λw C=>compPost (Bg X.p X.w) X.A X.xe (Y (assign (.Name y d) X.e)) (λ_ s'=>SP X aa D .next s') w C) ?_)) λ_ s' hq=>bu (bu hq))
 rintro v u s' C r ⟨G,q,⟨m,hn⟩,hI,f0,E,f2,f3,z,f5⟩;have I':aL X aa σ G s':=hI s'.heap (.refl ..);show Bf _ X.A (assign (.Name y d) X.e u) _ _ _;refine wpAny_assign_Name (KI I' p hj M r (λJ I2 O=>?_) hf);have #[a,hb,ha]:=O;have t:C≠a:=by
  obtain rfl|ha:=ha
  .exact E
  .exact eC (z _ _ ha)
 refine{m,hn.sameBut hb t,λh' n=>{_,G,?_,q}};exact I2.turned (t':=J.toks) (λb o l e=>(n.2 b l).trans e) f0 E f3 z f5
end
abbrev zdq:R2:=λx y H Q=>∃i j,x=.str i/\y=.str j/\i.length+j.length<=Bb/\Q (.str (i++j)) H
abbrev zlu:R2:=λx y H Q=>y=.non/\Q (.bl (decide (x=.non))) H
abbrev zkL:R2:=λx y H Q=>y=.non/\Q (.bl (!decide (x=.non))) H
abbrev RC:=LV->Hp->VK->Prop
abbrev Yl(K:bL):RC:=λxs H Q=>∃x c t b,xs=[x,c]/\YC K H x t/\(∃T,c=.ty T/\gL K t (.type T)=Y b)/\Q (.bl b) H
abbrev RM:=V->LV->Hp->VK->Prop
def u5(p:af){H:Hp}(h:H p=L):aJ H (upd H p o):=λb u e=>by rw[zt (zB e h)];exact e
theorem xv:Bh "len"=Y (.builtin "len"):=by lia
theorem yq:Bh "isinstance"=Y (.builtin "isinstance"):=by lia
theorem Yc:Bh "sorted"=Y (.builtin "sorted"):=by lia
theorem zjw:Bh "zip"=Y (.type "zip"):=by lia
theorem za1:Bh "reversed"=Y (.type "reversed"):=by lia
theorem zcv:Bh "str"=Y (.type "str"):=by lia
theorem zfB:Bh "int"=Y (.type "int"):=by lia
theorem zdr:Bh "bool"=Y (.type "bool"):=by lia
theorem xA:Bh "list"=Y (.type "list"):=by lia
theorem VL:Bh "tuple"=Y (.type "tuple"):=by lia
theorem Vh:Bh "dict"=Y (.type "dict"):=by lia
def big:Int:=10^200
def vz(_ j:Int):Prop:=0<j/\j<big
def CMulB(i j:Int):Prop:=(-big<i/\i<big)/\(-big<j/\j<big)
theorem VM{j:Int}(h:j.natAbs<10^200):j.natAbs.log2<700:=by
 by_cases h0:j.natAbs=0
 .rw[h0];decide
 .exact(Nat.log2_lt h0).mpr (bH h ())
theorem QQ{j:Int}(h:-big<j/\j<big):j.natAbs<10^200:=by
 have e:big=((10^200:Nat):Int):=by lia
 rw[e] at h;lia
theorem CMulB.ok{i j:Int}(h:CMulB i j):IntMulOk i j:=by
 have b:∀k:Int,(-big<k/\k<big)->eG k<=2^20:=λk a=>by have q:=VM (QQ a);unfold eG;split <;> lia
 exact .of_bits (b i h.1) (b j h.2)
def wx:Av X (binaryOp .Mult) (rI CMulB λi j=>.int (i*j)):=opI λ_ _ _ _ _ _ _ a q=>mul_int q a.ok
theorem zT:Av X (binaryOp .FloorDiv) (rI vz λi j=>.int (i/j)):=opI λi j _ _ _ _ _ a q=>by have b:(0:Int)<j:=a.1;refine floordiv_int () ?_ (.inl (oO (iy (VM (QQ {by have:=a.2;lia,a.2})) ())));rw[Int.fdiv_eq_ediv_of_nonneg i ()];exact q
def xP:qO X (.builtin "isinstance") (Yl X.K):=by intro aa s σ H xs j Q I r h;have #[x,c,t,b,rfl,a,#[T,rfl,e],q]:=h;have #[u,i,rfl,g,f]:=ziO r;cases f;exact zek I g a e λd=>{.bl b,H,I.tok d,Z,q}
def zjx:V->Option Int->Option Int->Hp->VK->Prop:=λx lo a H Q=>∃z,x=.str z/\z.length<=Bb/\Q (.str (iP z lo a)) H
def zfC:SlR X zjx:=by
 intro aa s σ H x v b a lo n G Q I d j f e h;have #[z,rfl,g,q]:=h;have #[t,rfl]:=d;have #[o,m,r,p]:=j;refine{"str",_,F.slot_str_getitem.lookup,rV _ _ _,?_};obtain⟨l,E,D⟩:∃l:Option (Int×Tok),b=partValue l/\lo=l.map (·.1):=by
  cases f with
  |none=>exact{L,Z,Z}
  |int i t=>exact{Y (i,t),Z,Z}
 obtain⟨u,y,w⟩:∃l:Option (Int×Tok),a=partValue l/\n=l.map (·.1):=by
  cases e with
  |none=>exact{L,Z,Z}
  |int i t=>exact{Y (i,t),Z,Z}
 subst E D y w;exact wpAny_getItem_str_slice (l:=l) (u:=u) (st:=L) {o,m,r,p} rfl
  (post_val_or_str {bI (Txt.slice_le z _ _) g,λc k=>{.str (iP z (l.map (·.1)) (u.map (·.1))),H,I.tok k,{c,Z},q}})
def aU.there{H:Hp}(x:aU P w H h a o):∃u,h.get? a=Y u:=by
 cases o with
 |lst xs=>have #[_,_,_,_,e]:=x;exact{_,e}
 |tup xs=>have #[_,_,_,o,e,_]:=x;exact{_,e}
 |dK aI=>have #[_,_,_,_,o,_,_,e,_]:=x;exact{_,e}
 |dT aI=>have #[_,_,_,_,o,_,_,e,_]:=x;exact{_,e}
 |set S n=>have #[o,_,_,_,e,_]:=x;exact{_,e}
 |ins C dx fs=>have #[_,_,_,e,_]:=x;exact{_,e}
 |own y=>exact x
 |xd fs=>have #[_,#[o,_,_,e,_],_]:=x;exact{_,e}
 |rng lo hi=>have #[_,_,_,e]:=x;exact{_,e}
 |frz ob u=>have #[e,_]:=x;exact{_,e}
 |tbl ps=>exact{_,(show h.get? a=Y _ from x)}
 |met f y=>exact{_,(show h.get? a=Y _ from x)}
 |ext φ=>have #[_,e,_]:=x;exact e
def XF(g h:aw)(H:Hp)(e:af)(c:aq):Prop:=
 ∃b a i T f d,h.get? e=Y b/\(b.cls=c/\a[0]?=Y i)/\b.data=.fields a/\a[1]?=Y (.ref T)/\T≠e/\h.get? T=Y f/\f.data=.fields d/\d[3]?=Y .none /\
  g.get? e=L/\g.get? T=L/\H e=L/\H T=L
def CX1(P:au)(w:av):CXT:=λa H s E f b=>∃e c d,f=.ref e/\b.os=s.os/\AllBare b.gens/\Un (Ax a) [] H d s.heap b.heap/\AH P w d b.heap/\XF s.heap b.heap d e c/\E c L d
def Yd{g h:aw}(k:∀b o,g.get? b=Y o->∃a,h.get? b=Y a)(e:h.get? b=L):g.get? b=L:=by
 cases q:g.get? b with
 |none=>rfl
 |some o=>
  have #[a,z]:=k b o q;rw[e] at z;cases z
def XF.older{H:Hp}(x:XF g h H e cls)(k:∀b o,g'.get? b=Y o->∃m,g.get? b=Y m):XF g' h H e cls:=by have #[j,f,z,T,l,i,y,w,v,u,t,r,q,p,n,d,c,a]:=x;exact{j,f,z,T,l,i,y,w,v,u,t,r,q,p,Yd k n,Yd k d,c,a}
def aL.stackFields(J:aL X aa σ H s)(a:b∈Ax X.k):∃o,s.heap.get? b=Y o/\∀vs,o.data≠.fields vs:=(J.stack.mem a).2
theorem aL.there0(a:X.ex=[])(J:aL X aa σ H s):∀b o,X.s₀.heap.get? b=Y o->∃o',s.heap.get? b=Y o':=λb o e=>J.base.there b o e (by rw[a];simp)
theorem aL.behind{cs:List af}(r:X.ex=[])(J:aL X aa σ H s)(f:∀b∈cs,H b=L/\X.s₀.heap.get? b=L)(t:∀b o,s.heap.get? b=Y o->b ∉ Ax X.k->b ∉ cs->h2.get? b=Y o)(G:∀b o,s.heap.get? b=Y o->b∈Ax X.k->∃d,h2.get? b=Y { o with slots:=d }) :
  Un X.fs [] X.H₀ H X.s₀.heap h2/\AH X.p X.w H h2:=by
 have a:Un X.fs [] X.H₀ H X.s₀.heap s.heap:=by have:=J.base;rw[r] at this;exact this
 have E:∀b o,X.s₀.heap.get? b=Y o->b≠X.e.locals:=λb o e=>b8 (bH (bS e) J.ok.above);have l:∀b o,X.s₀.heap.get? b=Y o->b ∉ cs:=λb o e z=>by rw[(f b z).2] at e;cases e
 have h:∀b o,s.heap.get? b=Y o->b ∉ cs->∃d,h2.get? b=Y { o with slots:=d }:=λb o e n=>by
  by_cases hb:b∈Ax X.k
  .exact G b o e hb
  .exact{o.slots,t b o e hb n}
 refine{{λb o e n g _=>?_,λb o e n g _=>?_,a.free,λb o e g=>?_,a.tups,a.frzs,a.tbls},λb u e=>?_}
 .refine t b o (a.keep b o e n g (by simp)) (λz=>?_) (l b o e);obtain q|q:=bC.mp (J.stkSub b z)
  .exact E b o e q
  .exact g q
 .have #[d,q]:=a.slot b o e n g (by simp);have #[j,k]:=h b _ q (l b o e);exact{j,k}
 .have #[D,q]:=a.there b o e (by simp);have #[d,k]:=h b D q (l b o e);exact{_,k}
 .refine(J.hok b u e).stay (λc v hc q=>?_) (λ_ q=>q) λ_ _ q=>q;have y:H c≠L:=by
   obtain rfl|hc:=hc
   .rw[e];simp
   .rw[hc];simp
  exact t c v q (λz=>y (J.stkFree c z)) λz=>y (f c z).1
def aL.flown{cs:List af}(f:X.ex=[])(J:aL X aa σ H s)(a:∀b∈cs,H b=L/\X.s₀.heap.get? b=L)(D:∀b o,s.heap.get? b=Y o->b ∉ Ax X.k->b ∉ cs->Bn.get? b=Y o)(y:∀b o,s.heap.get? b=Y o->b∈Ax X.k->∃h,h2.get? b=Y { o with slots:=h })(he:H e=L)(k:X.s₀.heap.get? e=L)(kb:Bn.StaysIn h2)(Q:h2.TracedW Bn e cls a0) :
  Un X.fs [] X.H₀ H X.s₀.heap h2/\AH X.p X.w H h2/\XF X.s₀.heap h2 H e cls:=by
 have t:=J.behind (h2:=h2) f a (λb o q n1 n2=>kb b o (D b o q n1 n2)) y;refine{t.1,t.2,?_};have #[oe,O,T,r,n,h1,l,h3,h4,I,h6,G,E,h9]:=Q;have d:∀o,s.heap.get? T=Y o->T∈cs:=λo q=>by
  by_cases hb:T∈Ax X.k
  .have #[g,j,nf]:=J.stackFields hb;have #[h,z]:=y T g j hb;rw[G] at z;have M:r={ g with slots:=h }:=bU z;exact absurd (by rw[<-E,M]) (nf n)
  .by_cases hc:T∈cs
   .exact hc
   .rw[D T o q hb hc] at I;cases I
 refine{oe,O,a0,T,r,n,h1,l,h3,h4,h6,G,E,h9,k,?_,he,?_}
 .cases q:X.s₀.heap.get? T with
  |none=>rfl
  |some o=>
   have #[g,j]:=J.there0 f T o q;rw[(a T (d g j)).2] at q;cases q
 .cases q:H T with
  |none=>rfl
  |some u=>
   have #[o,z]:=(J.hok T u q).there;rw[(a T (d o z)).1] at q;cases q
def zet{k:aw}{e:af}{d:aq}{p:zX}{E:XK}{EE:Aa}(c:X.k=X.e::X.J/\X.e.frame=Y X.e.locals)(f:X.ex=[])(J:aL X aa σ H s)(g:Heap.MadeExcOf s.heap k e d p)(O:E d L H) :
  Bf (Bg X.p X.w) X.A (leaving X.e (.ref e)) (λ_ v=>CX1 X.p X.w X.J X.H₀ X.s₀ E (.ref e) v) EE { s with heap:=k }:=by
 have T:s.heap.FunFrames (nJ s.heap (Ax X.k)) (X.e::X.J):=by have q:=pR (as:=Ax X.k) J.stack λl G a M=>lh.mpr {l,G,M};rw[c.1] at q ⊢;exact q
 refine wpAny_leaves_madeW (s:={ s with heap:=k }) (base:=nJ s.heap (Ax X.k)) (h:=s.heap) (by rw[J.ok.frames,c.1]) c.2 (λb o q=>rA _ q) T g λQ t j _ _ i=>?_;have #[f1,f2,f3,f4]:=j;have N:∀b o,s.heap.get? b=Y o->b∈Ax X.k->∃r,Q.get? b=Y { o with slots:=r }:=λb o q I=>by have #[o',m,D]:=J.stackFields I;rw[q] at m;cases m;exact i b o (g.keeps b o q) D
 have #[y,x,w]:=J.flown (cs:=[]) f (λb z=>nomatch z) (λb o q n _=>pq _ q n) N
  (by
   cases q:H e with
   |none=>rfl
   |some u=>
    have #[o,z]:=(J.hok e u q).there;rw[g.new] at z;cases z) (Yd (J.there0 f) g.new) f1 f4
 exact{e,d,H,Z,J.os,J.bare,y,x,w,O}
theorem zfD{e:af}{d:aq}{E:XK}{EE:Aa}(c:X.k=X.e::X.J/\X.e.frame=Y X.e.locals)(i:X.ex=[])(J:aL X aa σ H s)(u:XF X.s₀.heap s.heap H e d)(hE:E d L H) :
  Bf (Bg X.p X.w) X.A (leaving X.e (.ref e)) (λ_ y=>CX1 X.p X.w X.J X.H₀ X.s₀ E (.ref e) y) EE s:=by
 have #[M,v,a0,T,N,w,h1,h2,h3,h4,h5,h6,h7,h8,r,l,f,k]:=id u;have fr:s.heap.FunFrames (nJ s.heap (Ax X.k++[e,T])) (X.e::X.J):=by have q:=pR (as:=Ax X.k++[e,T]) J.stack λm he a ha=>cz _ (lh.mpr {m,he,ha});rw[c.1] at q ⊢;exact q
 refine wpAny_leaves_onW (base:=nJ s.heap (Ax X.k++[e,T])) (a0:=a0) (by rw[J.ok.frames,c.1]) c.2
  {λb o q=>rA _ q,mD _ (bQ _ (by simp)),fr,M,v,T,N,w,h1,h2,h3,h4,mD _ (bQ _ (by simp)),h5,h6,h7,h8} λj h g=>?_
 have #[f1,f2,f3,f4]:=h;have hF:∀b o,s.heap.get? b=Y o->b∈Ax X.k->∃x,j.get? b=Y { o with slots:=x }:=λb o q hb=>by have #[o',p,O]:=J.stackFields hb;rw[q] at p;cases p;exact g b o q O
 have #[I,G,D]:=J.flown (cs:=[e,T]) i (λb z=>by
   have t:b=e\/b=T:=by simpa using z
   obtain rfl|rfl:=t
   .exact{f,r}
   .exact{k,l}) (λb o q n Q=>pq _ q λz=>(bp.mp z).elim n Q) hF f r f1 f4
 exact{e,d,H,Z,J.os,J.bare,I,G,D,hE}
def zfE(X:Cx)(E:XK):Prop:=∀(aa:Af)(σ:St)(H:Hp)(s:ap)(b:aw)(e:af)(a:aq)(c:zX),aL X aa σ H s->Heap.MadeExcOf s.heap b e a c->E a L H->X.xe (.ref e) { s with heap:=b }
variable {P:au}{K:bL}{mg:AG}{base:aw}{qual:Str}{f:af}
section
variable {w:av}{N:yu}{cd:aq}{outer:LEv}{s₀:ap}{H₀:Hp}{E:XK}
def ju:wR (CX1 P w) (Zi (CX1 P w) P w K mg base N qual scope f cd A outer s₀ H₀ E) E:=by intro aa σ H s m l I d;have #[e,k,n,rfl,i,a,h,c,g,j]:=d;have J:=I.call' (ch:=[]) i h c a (λb z=>nomatch z);exact zfD (X:=Zi (CX1 P w) P w K mg base N qual scope f cd A outer s₀ H₀ E) {Z,Z} Z J (g.older (I.there0 Z)) j
def zds:zfE (Zi (CX1 P w) P w K mg base N qual scope f cd A outer s₀ H₀ E) E:=by intro aa σ H s g e c d I a b;exact zet (X:=Zi (CX1 P w) P w K mg base N qual scope f cd A outer s₀ H₀ E) {Z,Z} Z I a b
def zlv:PassesOwn (Bg P w) (Zi (CX1 P w) P w K mg base N qual scope f cd A outer s₀ H₀ E).A (Zi (CX1 P w) P w K mg base N qual scope f cd A outer s₀ H₀ E).e (Zi (CX1 P w) P w K mg base N qual scope f cd A outer s₀ H₀ E).xe:=PassesOwn.leaving
end
abbrev zfF:zX:=[.type "ValueError",.type "Exception",.type "BaseException",.type "object"]
abbrev QR:String:="ValueError.__new__"
def zjy(C:af)(b:TA)(E:XK):TS:=λ_ σ H=>b σ H λa c=>a.length<=Bb/\E (.ref C) L c
theorem zhE{h:aw}{C:af}{e:zX}{newId:String}(X:K.In h)(q:uK K C e newId=U) :
  ∃bm N p o x d m a y b w l k j i g D,h.get? C=Y (excClassObj p o C N x bm d m a y b w l k j i g newId)/\h.Ns N D/\D "__init__"=L/\OwnTail h e bm:=by
 unfold uK at q;split at q
 case h_2=>cases q
 rename_i w cd sl ho;split at q
 case h_2=>cases q
 rename_i C' bm l k j i n g hm hs;rw[cG,cG,cG,cG,cG] at q;have #[#[#[#[#[M,J],I],G],z],E]:=q;obtain rfl:C'=C:=by simpa using M
 obtain rfl:n=newId:=by simpa using J
 have #[p,x,r,O,o,Q,m,a,y,b,v]:=cd;have c:v=am:=by simpa using I
 have u:r=.ref C'::bm:=hm;subst c u;have t:sl=#[l,k,j,i,Y (.builtin n),g]:=by apply Array.ext';exact hs
 subst t;exact{bm,O,p,o,x,Q,m,a,y,b,w,l,k,j,i,g,_,X _ _ ho,.of_isNs (W.isNs_of_in X z),W.nsMap_none_of_in X z (by simpa using E),W.tail_of_in X G}
variable {x:Str}{np u6:Pos}
section
variable {e₀:ay}{rest:List ay}{ta:TA}{E:XK}
def za2(u:X.c=U)(q:uK X.K C zfF QR=U)(o:zfE X E)(r:Gl X x)(c:X.mg x=Y (.ref C))(v:PA X (e₀::rest) ta)(d:Be (e₀::rest) X.e=(am,eval e₀ X.e)::Be rest X.e:=by rfl)(p:(backTo u6 (Be rest X.e)).any (·.1)=am:=by rfl)(t:Bq x:=by lia) :
  PS X (.Raise (Y (.Call (.Name x np) (e₀::rest) [] u6)) L pos) (zjy C ta E):=by
 intro aa s σ H D I h;have #[j,N,nm,m,bs,hdct,sn,sub,ab,col,dd,k0,k1,k2,k3,k5,mN,y,w,b,T]:=zhE I.ok.mod.kin q;refine wpAny_Raise_call_subT (C:=C) (nm:=nm) (q:=m) (N:=N) (bs:=bs) (bm:=j) (hdct:=hdct) (sn:=sn) (sub:=sub) (ab:=ab) (col:=col) (dd:=dd) (k0:=k0) (k1:=k1) (k2:=k2) (k3:=k3) (k5:=k5) (newId:=QR)
  PySem.F.excBase_ValueError (mN:=mN) (T.hasType PySem.F.excBase_ValueError.hasBase) (I.ok.hd u) (by rw[d];exact p) b (vL I r c {Z,?_} t)
 have g:=v u6 aa s σ H _ I h;rw[d] at g ⊢;refine eW (aX g ?_);rintro M k ⟨J,G,a,l,i,n⟩;exact{Z,by rw[<-l.length];exact i,a.bk _ _ y,w.keeps a.bk,T.keeps a.bk,λz e c=>o aa σ G k z e _ _ a c n}
end
def Asc(x:Str):Prop:=∀c∈x.cps.toList,c<128
variable {e:ay}{j:Nat}{p1 p2 p3:Pos}
section
variable {a:Str}
def zkM(te:TE):TE:=λσ H Q=>te σ H λv b=>∃x:Str,v=.str x/\x.length<=100000/\∀y:Str,Q (.str y) b
theorem zdt(n:PE X e te)(E:a.length<=1000:=by lia):PE X (.JoinedStr [.FormattedValue e (-1) L p2,.Constant (.str a) j p1] p3) (zkM te):=by
 intro aa s σ H Q I h;refine wpAny_JoinedStr ?_;show Bf _ _ (eval (.FormattedValue e (-1) L p2) X.e) _ _ s;refine wpAny_FormattedValue_plain (aX (n aa _ σ H _ I h) ?_);rintro v l ⟨x,r,p,m,z,o,w,q⟩;subst o;have #[t,rfl]:=m;have D:Bb=16777216:=bN;have k:(rC++z).length=z.length:=by rw[oP];simp[rC,mj]
 have fin:∀(i:Tok)(g:Nat),∃y u,lf z i=lf y u/\(rC++y).length<=Bb/\Joins (Bg X.p X.w) X.A X.xe (evalEach [.Constant (.str a) j p1] X.e) (rC++y) (λc b=>c.length<=Bb/\EP X aa σ Q (.str c b.toks) { b with toks:=b.toks+1 }) { l with toks:=g }:=λi g=>by
  refine{_,_,Z,by rw[k];lia,?_};show Bf _ _ (eval (.Constant (.str a) j p1) X.e) _ _ _;have d:(rC++z++a).length<=Bb:=by rw[oP,k];lia
  refine sW {a,_,Z,d,d,.str _,r,p.tok _,{_,Z},q _}
 exact wpAny_formatField_str (fin _ _) (fin _ _) ()
end
structure ExC(K:bL)(C:af):Prop where
 ga:f9 K (.ref C) "__getattribute__"=Y (Y (.builtin "BaseException.__getattribute__"))
 gx:f9 K (.ref C) "__getattr__"=Y L
 cl:f9 K (.ref C) "__class__"=Y (Y (.builtin "object.__class__"))
 ob:uJ K C (.type "object")=Y U
 be:uJ K C (.type "BaseException")=Y U
 ge:ux K (.builtin "object.__class__") "__get__"=Y (Y (.builtin "getset_descriptor.__get__"))
 tk:W.takesIn K (.builtin "object.__class__")=Y U
variable {E:Aa}
def aL.land{D:List af}(a:X.ex=[])(I:aL X aa σ H s)(t:∀b∈D,H b=L/\X.s₀.heap.get? b=L)(y:∀b∈D,∀p∈X.pn++aa,p.1≠b)(T:∀b o,s.heap.get? b=Y o->b ∉ Ax X.k->b ∉ D->h2.get? b=Y o)(h:s.heap.UpToSlots h2):aL X aa σ H { s with heap:=h2 }:=by
 have hF:∀b o,s.heap.get? b=Y o->b∈Ax X.k->∃G,h2.get? b=Y { o with slots:=G }:=λb o q hb=>by have #[o',J,g]:=I.stackFields hb;rw[q] at J;cases J;exact h b o q g
 have #[r1,r2]:=I.behind a t T hF;have ce:∀c v,s.heap.IsCell c v->h2.IsCell c v:=λc v ⟨o,ho,Q⟩=>by
  have #[G,q]:=h c o ho λvs z=>by rw[Q] at z;cases z
  exact{_,q,Q}
 refine{I.ok,I.os,I.bare,by rw[a];exact r1,?_,λx c e=>?_,I.free,I.freeC,λp O=>?_,r2,I.len}
 .have #[m,hn,hl]:=I.loc;refine{m,h.ns hn,λi x v e1 e2 e3=>?_};have #[u,r,l]:=hl i x v e1 e2 e3;refine{u,r,?_};obtain l|⟨k,c,e,z⟩:=l
  .exact .inl l
  .exact .inr {k,c,e,ce c _ z}
 .have #[v,z]:=I.cell x c e;exact{v,ce c v z}
 .have #[e,n,M,g,d]:=I.pin p O;exact{T _ _ e (λz=>(bC.mp (I.stkSub _ z)).elim M g) λz=>y _ z p O Z,n,M,g,d}
abbrev Cx.sub(X:Cx)(e:af):Cx:={ X with A:=X.A.mark (Y (.ref e)),c:=am,xe:=λ_ _=>False }
section
variable {e:af}
theorem aL.toSub(I:aL X aa σ H s):aL (X.sub e) aa σ H s:=
 {{I.ok.mod,I.ok.kind,I.ok.glob,I.ok.blt,I.ok.above,I.ok.inj,I.ok.has,I.ok.cab,(),I.ok.frames,I.ok.stk,I.ok.exf,I.ok.bs,I.ok.bsz,I.ok.noex,I.ok.exfs,I.ok.funs,I.ok.frf},I.os,I.bare,I.base,I.loc,I.cell,I.free,I.freeC,I.pin,I.hok,I.len}
def aL.ofSub{J:aL X aa σ H s}{a:St}{b:Hp}(I:aL (X.sub e) aa a b s'):aL X aa a b s':=
 {J.ok,I.os,I.bare,I.base,I.loc,I.cell,I.free,I.freeC,I.pin,I.hok,I.len}
end
abbrev EXK:=aq->At
def PX(X:Cx)(aa:Af)(i:EXK):Aa:=λg d=>∃e a σ c h b,g=.ref e/\aL X aa σ h c/\aL X aa σ b d/\XF c.heap d.heap b e a/\i a σ b
def PEX(X:Cx)(b:ay)(t:EXK->TE):Prop:=
 ∀(aa:Af)(s:ap)(σ:St)(H:Hp)(Q:VK)(a:EXK),aL X aa σ H s->t a σ H Q->Bf (Bg X.p X.w) X.A (eval b X.e) (EP X aa σ Q) (PX X aa a) s
def PSX(X:Cx)(st:ax)(t:EXK->TS):Prop:=
 ∀(aa:Af)(s:ap)(σ:St)(H:Hp)(D:Vt)(a:EXK),aL X aa σ H s->t a D σ H->Bf (Bg X.p X.w) X.A (exec st X.e) (SP X aa D) (PX X aa a) s
variable {fd:Bc}{ps:yu}{sp:Sp}{p:Pos}{es:List ay}
variable {tx:EXK->TE}{i:Nat}
section
variable {ex:ay}{y:Str}
def ziS(tx:EXK->TE)(i:Nat)(b:EXK):TS:=λD σ H=>tx b σ H λv a=>D.nx (σ.set i (Y v)) a
def zhF(m:X.N.Nodup)(g:X.N[i]?=Y y)(c:Loc X.e.scope y)(l:PEX X ex tx)(d:swapsWith ex (Y (.Name y pos')) pos.line X.e=pure am:=by rfl)(k:X.fn y=U\/X.e.scope.names.lookup y=Y .local:=by first|exact .inl rfl|exact .inr rfl|assumption) :
  PSX X (.Assign [.Name y pos'] ex pos) (ziS tx i):=by intro aa s σ H D r I h;refine wpAny_Assign_Name (aX (l aa s σ H _ r I h) ?_) d;rintro v u ⟨x,q,o,a,b⟩;exact YV o m g c a (λt n=>{_,q,n,b}) k
end
structure ExK(K:bL)(C:af):Prop extends ExC K C where
 has:(W.clsIn K C).isSome=U
variable {b₀:ax}{suite:List ax}{tb:EXK->TS}{th:TS}{hpos:Pos}
def zw :wR (CX1 P w) X E0:=λ_ _ _ _ _ _ _ h=>by have #[_,_,_,_,_,_,_,_,_,z]:=h;exact z.elim
section
variable {w:av}
def Fun.ok1{x qual:Str}{st:ax}{f:af}{fd:Bc}{N ps:yu}{k:Nat}{sp:Sp}(F:Fun K x qual st f fd)(S:aK N ps (zq st))(d:∀b H Q E,sp b H Q E->b.length=ps.length)(c:∀(cdv:aq)(A:aA)(a:LEv)(s:ap)(H:Hp)(b:LV)(Q:VK)(E:XK),uW k (A.deeper (envOfC qual (zq st) s.heap.objs.size f cdv))->sp b H Q E ->
   ∃t,PSs (Zi (CX1 P w) P w K mg base N qual (zq st) f cdv A a s H E) (wM st) t/\t { nx:=λ_ n=>Q .non n,rt:=Q } (start N b) H):pv P w K mg base (CX1 P w) (k+1) f fd ps sp:=by have #[oc,od,kV,doc,pm,an,cdv,ct,osl,rfl,l,h]:=F.ex;exact ziP l h S d λA a s H b Q E m g=>c cdv A a s H b Q E m g
def Fun.ok0{x qual:Str}{st:ax}{f:af}{fd:Bc}{N ps:yu}{k:Nat}{sp:Sp}(F:Fun K x qual st f fd)(S:aK N ps (zq st))(l:∀d H Q E,sp d H Q E->d.length=ps.length)(g:∀(cdv:aq)(A:aA)(c:LEv)(s:ap)(H:Hp)(d:LV)(Q:VK)(E:XK),uW k (A.deeper (envOfC qual (zq st) s.heap.objs.size f cdv))->sp d H Q E ->
   ∃t,PSs (Zi (CX1 P w) P w K mg base N qual (zq st) f cdv A c s H E).nox (wM st) t/\t { nx:=λ_ n=>Q .non n,rt:=Q } (start N d) H):pv P w K mg base (CX1 P w) (k+1) f fd ps sp:=
 F.ok1 S l λcdv A c s H d Q E m h=>let ⟨t,a,b⟩:=g cdv A c s H d Q E m h;{t,a.nox,b}
end
variable {nx:At}{Bn:V->St->Hp->At->Prop}
abbrev FoP(J:It)(nx:At)(Bn:V->St->Hp->At->Prop)(σ:St)(H:Hp):Prop:=∃W:Nat->Nat->At,(∃m,W 0 m σ H)/\∀i m σ H,W i m σ H->(J.stop i H/\nx σ H)\/(J.go i H/\∃N:At,(∀a b,N a b->∃c,c<m/\W (i+1) c a b)/\∀x b,J.yld i H x b->Bn x σ b N)
theorem VN{J:It}(Pv:Nat->At)(d:Pv 0 σ H)(h:∀i σ H,i<n->Pv i σ H->J.go i H/\∀x a,J.yld i H x a->Bn x σ a (Pv (i+1)))(st:∀σ H,Pv n σ H->J.stop n H/\nx σ H):FoP J nx Bn σ H:=by
 refine{λi m σ H=>m=n-i/\i<=n/\Pv i σ H,{n,by simp,cf _,d},?_};rintro i m σ H ⟨rfl,k,p⟩;by_cases hlt:i<n
 .have #[g,y]:=h i σ H hlt p;exact .inr {g,Pv (i+1),λb a c=>{n-(i+1),(),Z,hlt,c},y}
 .obtain rfl:i=n:=by lia
  exact .inl (st σ H p)
def VO{lo:Int}(Pv:Nat->At)(c:Pv 0 σ H)(a:∀i σ H,i<n->Pv i σ H->Bn (.int (lo+i)) σ H (Pv (i+1)))(b:∀σ H,Pv n σ H->nx σ H) :
  FoP (Itr lo n) nx Bn σ H:=VN Pv c (λi σ H l p=>{l,by rintro x d ⟨rfl,rfl⟩;exact a i σ _ l p}) λσ H p=>{bq _,b σ H p}
theorem xD(xs:LV)(Pv:Nat->At)(g:Pv 0 σ H)(b:∀i σ H,Pv i σ H->aO K H a xs)(c:∀i x σ H,xs[i]?=Y x->Pv i σ H->Bn x σ H (Pv (i+1)))(d:∀σ H,Pv xs.length σ H->nx σ H) :
  FoP (Itl K a) nx Bn σ H:=VN Pv g (λi σ H l p=>{{xs,xs[i],b i σ H p,by simp[l]},by rintro x h ⟨rfl,y⟩;exact c i x σ _ (y xs (b i σ _ p)) p}) λσ H p=>{{xs,b _ σ H p,bq _},d σ H p}
theorem zfG(xs:LV)(Pv:Nat->At)(g:Pv 0 σ H)(b:∀i σ H,Pv i σ H->uZ K H a xs)(c:∀i x σ H,xs[i]?=Y x->Pv i σ H->Bn x σ H (Pv (i+1)))(d:∀σ H,Pv xs.length σ H->nx σ H) :
  FoP (Itt K a) nx Bn σ H:=VN Pv g (λi σ H l p=>{{xs,xs[i],b i σ H p,by simp[l]},by rintro x h ⟨rfl,y⟩;exact c i x σ _ (y xs (b i σ _ p)) p}) λσ H p=>{{xs,b _ σ H p,bq _},d σ H p}
theorem QS(n d:Nat)(v:Int):max (0:Int) (min (if v<0 then v+n else v) n)=((HT.sIx n d (Y v):Nat):Int):=by
 show _=(((if v<0 then (v+(n:Int)).toNat else min v.toNat n):Nat):Int);by_cases hv:v<0
 .simp only[ao hv];lia
 .simp only[ak hv];lia
theorem zhG(a b:Nat):sliceRange (a:Int) (b:Int) 1=(e9 (b-a)).map λk=>a+k:=by
 simp only[sliceRange,show ((1:Int) > 0)=True from by simp,if_true];by_cases hlt:(a:Int)<b
 .have c:(((b:Int)-a+1-1)/1).toNat=b-a:=by rw[Int.ediv_one];lia
  simp only[hlt,if_true,c];refine dR λk _=>?_;lia
 .have:b-a=0:=by lia
  simp[hlt,this]
theorem zfH(lo a:Option Int)(n:Nat):nQ lo a 1 n=(e9 (HT.sIx n n a-HT.sIx n 0 lo)).map λk=>HT.sIx n 0 lo+k:=by
 rw[<-zhG];unfold nQ;simp only[show ((1:Int) > 0)=True from by simp,if_true];cases lo with
 |none=>
  cases a with
  |none=>rfl
  |some v=>simp only[QS n n v];rfl
 |some u=>
  cases a with
  |none=>simp only[QS n 0 u];rfl
  |some v=>simp only[QS n n v,QS n 0 u]
theorem KY(x:Str)(lo a:Option Int):(iP x lo a).cps.toList=(x.cps.toList.drop (HT.sIx x.length 0 lo)).take (HT.sIx x.length x.length a-HT.sIx x.length 0 lo):=by
 have c:=HT.sIx_le x.length x.length (bq _) a;have b:x.cps.toList.length=x.length:=by simp[mj]
 unfold iP;rw[zfH];split
 .rename_i h;have d:HT.sIx x.length x.length a-HT.sIx x.length 0 lo=x.length:=by simpa using h
  have e0:HT.sIx x.length 0 lo=0\/x.length=0:=by lia
  obtain e0|e0:=e0
  .rw[e0,dM,b9];lia
  .rw[fJ (by lia:x.cps.toList.length=0)];simp
 .by_cases hab:HT.sIx x.length 0 lo<=HT.sIx x.length x.length a
  .have h:=StrLaws.picks x.cps.toList (HT.sIx x.length x.length a-HT.sIx x.length 0 lo) (HT.sIx x.length 0 lo) ();simpa using h
  .have:HT.sIx x.length x.length a-HT.sIx x.length 0 lo=0:=by lia
   rw[this];simp
theorem VP(x:Str)(k:Nat):(iP x (Y (k:Int)) L).cps.toList=x.cps.toList.drop k:=by
 rw[KY,HT.sIx_none,HT.sIx_nat];have a:x.cps.toList.length=x.length:=by simp[mj]
 by_cases h:k<=x.length
 .rw[dq h,b9 (by rw[cq];lia)]
 .rw[ic (by lia:x.cps.toList.length<=k),gX (),ic ()];simp
theorem za3(x:Str)(k:Nat):(iP x L (Y (k:Int))).cps.toList=x.cps.toList.take k:=by
 rw[KY,HT.sIx_none,HT.sIx_nat,dM,ua];have a:x.cps.toList.length=x.length:=by simp[mj]
 by_cases h:k<=x.length
 .rw[dq h]
 .rw[gX (),b9 (),b9 ()]
def zhH(h:x.cps.toList=y.cps.toList):x=y:=by have #[a]:=x;have #[b]:=y;have:a=b:=gY.mp h;rw[this]
theorem zhI(x y:Str):(x++y).cps.toList=x.cps.toList++y.cps.toList:=by show (x.cps++y.cps).toList=_;simp
open PySem.NumText in
def zlw(w:Int):Str:=br (toString w)
def dg(m:Nat):zZ:=(Nat.toDigits 10 m).map Char.toNat
theorem Y3(x:Str):x.length=x.cps.toList.length:=by simp[mj]
def inF(c:Nat):Bool:=!(lB "0123456789" ⟨#[c]⟩ 0 (mj "0123456789") 1).isEmpty
def zkO(x:Str):Bool:=!decide (x="")&&x.cps.toList.all inF
def u3(i:Int):Bool:=decide (-1000000000000000000000000000000<=i/\i<=1000000000000000000000000000000)
def ziT(x:Str):Str:=if (x.cps.toList.take 1==[45])=U then iP x (Y 1) L else x
def zfI(x:Str):Int:=(intText? x).getD 0
def zkP(x:Str):Bool:=!(decide (31<(ziT x).length) || !zkO (ziT x))&&(u3 (zfI x)&&decide (zlw (zfI x)=x))
def zdu(x y:Str):Int:=match lB x y 0 x.length 1 with|i::_=>(i:Int)|[]=>-1
abbrev KZ:RM:=λx xs H Q=>∃a b,x=.str a/\xs=[.str b]/\Q (.int (zdu a b)) H
def K0(a:Str):yu->Str
 |[p]=>p
 |l=>oQ a l
def zfJ(a:Str)(b:yu):Nat:=b.foldl (λn p=>n+p.length+a.length) 0
abbrev K3(K:bL):RM:=λx xs H Q=>∃b a c,x=.str b/\xs=[.ref a]/\aO K H a (c.map V.str)/\zfJ b c<=Bb/\Q (.str (K0 b c)) H
theorem QT(a:Str):∀(b:yu)(k:Nat),b.foldl (λn p=>n+p.length+a.length) k=k+(b.map (·.length)).sum+b.length*a.length
 |[],k=>by simp
 |p::r,k=>by rw[fA,QT a r,bB,c9,b7,Nat.add_mul,Nat.one_mul];lia
theorem zeu(a:Str)(ls:yu):(K0 a ls).length<=zfJ a ls:=by
 unfold zfJ;rw[QT];have g:(oQ a ls).length<=0+(ls.map (·.length)).sum+ls.length*a.length:=by rw[size_glued];have:(ls.length-1)*a.length<=ls.length*a.length:=Nat.mul_le_mul_right _ ();lia
 unfold K0;split
 .simp only[bB,rF,c9,List.sum_nil,b7,iu];lia
 .exact g
abbrev AN:=Array Nat
theorem zfK(b:yu):(K0 "" b).cps.toList=(b.map λp=>p.cps.toList).flatten:=by
 have g:∀(r:yu)(a:AN),(r.foldl (λc p=>c++(br "").cps++p.cps) a).toList=a.toList++(r.map λp=>p.cps.toList).flatten:=by
  intro r;induction r with
  |nil=>intro a;simp
  |cons p r ih=>
   intro a;have e:(br "").cps=#[]:=by lia
   rw[fA,ih,e];simp
 unfold K0;split
 .simp
 .unfold oQ;cases b with
  |nil=>lia
  |cons p r=>exact g r p.cps
theorem K4:∀ {b:yu}{a:zX},aQ (b.map V.str) a->∃l:List (Str×Tok),a=strValues l/\l.map (·.1)=b
 |[],_,.nil=>{[],Z,Z}
 |x::r,_,.cons h t=>by have #[l,rfl,e]:=K4 t;have #[k,rfl]:=h;exact{(x,k)::l,Z,by rw[bB,e]}
def zhJ:MtR X "str.find" KZ:=by intro aa s σ H x xs v k Q I d g h;have #[a,b,rfl,rfl,q]:=h;have #[t,rfl]:=d;have #[u,rfl,c,rfl]:=Zn g;exact call_gives F.slot_str_find (rV s a t) F.entry_str_find (F.args_str_find_2 _ _) (gives_str_find a b t c) {.int (zdu a b),H,I.tok _,{_,Z},q}
theorem zhK:MtR X "str.join" (K3 X.K):=by
 intro aa s σ H x xs v D Q I k n h;have #[b,a,w,rfl,rfl,z,c,q]:=h;have #[t,rfl]:=k;have #[u,rfl,o]:=Zn n;cases o;have #[y,m,p,G]:=I.list z;have #[l,rfl,e]:=K4 m;have g:sL ((l.map (·.1)).toArray.foldl (· + ·.length+b.length) 0)=am:=by rw[e,List.foldl_toArray];unfold sL;exact Bk (by unfold zfJ at c;lia)
 have d:=zeu b w;refine iZ F.slot_str_join (rV s b t) F.entry_str_join (F.args_str_join_2 _ _) (meets_str_join_list b t a l g) {p.isList,?_};subst e
 match l,q,d,c with
 |[],q,d,c=>exact{bI d c,.str _,H,I.tok _,{_,Z},q}
 |[p],q,d,c=>exact{.str p.1,H,I,{_,Z},q}
 |p::p'::r,q,d,c=>exact{bI d c,.str _,H,I.tok _,{_,Z},q}
def jj(x y:Str):(x++y).length=x.length+y.length:=oP x y
def zkQ(_ j:Int):Prop:=j≠0/\-big<j/\j<big
theorem zfL:Av X (binaryOp .FloorDiv) (rI zkQ λi j=>.int (i.fdiv j)):=opI λi j _ _ _ _ _ a q=>
 floordiv_int a.1 q (.inl (oO (iy (VM (QQ a.2)) ())))
theorem za4(r:uW k A):A.units+64<cLine:=by have:=r.un;lia
def Zj:V->PyData
 |.non=>.none
 |.bl b=>.bool b
 |.int i=>.int i
 |.str x=>.str x
 |_=>.none
def xw:V->Bool
 |.non=>U
 |.bl _=>U
 |.int _=>U
 |.str x=>dt x
 |_=>am
theorem Asc.flat(h:Asc x):xw (.str x)=U:=by unfold xw dt;rw[Array.all_eq_true];intro i a;have:=h x.cps[i] (by simp);exact Bj ()
def zjz:V->V->Bool
 |.bl _,.int _=>am
 |.int _,.bl _=>am
 |_,_=>U
def QU:LV->LV->Bool
 |x::xs,y::ys=>zjz x y&&QU xs ys
 |_,_=>U
theorem jv:∀ {xs:LV}{c:zX},xs.all xw=U->aQ xs c->CarriedAll c (xs.map Zj)
 |[],_,_,.nil=>.nil
 |x::r,_,h,.cons rx t=>by
  rw[iG,cG] at h;refine .cons ?_ (jv h.2 t);cases x with
  |non=>cases rx;exact .none
  |bl b=>cases rx;exact .bool b
  |int i=>have #[t,rfl]:=rx;exact .int i t
  |str x=>have #[t,rfl]:=rx;exact .str x t
  |byt b=>exact absurd h.1 (by simp[xw])
  |flt b=>exact absurd h.1 (by simp[xw])
  |ref a=>exact absurd h.1 (by simp[xw])
  |ty n=>exact absurd h.1 (by simp[xw])
theorem zfM{x y:V}(d:xw x=U)(c:xw y=U):uA (Zj x) (Zj y)=decide (x=y):=by cases x <;> cases y <;> simp_all [xw,Zj,uA] <;> (rename_i a b;by_cases e:a=b <;> simp[e])
theorem Zq:∀ {xs c:LV},xs.all xw=U->c.all xw=U->oz (xs.map Zj) (c.map Zj)=decide (xs=c)
 |[],[],_,_=>by simp[oz]
 |[],_::_,_,_=>by simp[oz]
 |_::_,[],_,_=>by simp[oz]
 |x::r,y::t,hx,hy=>by rw[iG,cG] at hx hy;rw[bB,bB,oz,zfM hx.1 hy.1,Zq hx.2 hy.2];by_cases a:x=y <;> by_cases b:r=t <;> simp[a,b]
theorem zev{x y:V}(b:xw x=U)(a:xw y=U)(h:zjz x y=U):sM (Zj x) (Zj y)=U:=by cases x <;> cases y <;> simp_all [xw,Zj,sM,zjz]
theorem qt:∀ {xs a:LV},xs.all xw=U->a.all xw=U->QU xs a=U->mE (xs.map Zj) (a.map Zj)=U
 |[],[],_,_,_=>by simp[mE]
 |[],_::_,_,_,_=>by simp[mE]
 |_::_,[],_,_,_=>by simp[mE]
 |x::r,y::t,hx,hy,h=>by rw[iG,cG] at hx hy;rw[QU,cG] at h;rw[bB,bB,mE,zev hx.1 hy.1 h.1,qt hx.2 hy.2 h.2];rfl
theorem qu{xs:LV}(h:xs.all xw=U):rH (.list (xs.map Zj))=U/\rH (.tuple (xs.map Zj))=U:=by
 have a:∀x,xw x=U->(Zj x).canLay0=U/\(Zj x).depth=0:=λx=>by cases x <;> simp[Zj,sD,rJ,xw]
 have l:∀b:LV,b.all xw=U->tO (b.map Zj)=U/\lE (b.map Zj)=0:=by
  intro b;induction b with
  |nil=>exact λ_=>{Z,Z}
  |cons y r ih=>
   intro h;rw[iG,cG] at h;exact{by rw[bB,tO,(a y h.1).1,(ih h.2).1];rfl,by rw[bB,lE,(a y h.1).2,(ih h.2).2];rfl}
 exact{by simp[rH,sD,rJ,(l xs h).1,(l xs h).2],by simp[rH,sD,rJ,(l xs h).1,(l xs h).2]}
abbrev zkR(K:bL)(d:Bool):R2:=λx y H Q=>∃a b xs c,x=.ref a/\y=.ref b/\aO K H a xs/\aO K H b c/\(xs.all xw=U/\c.all xw=U/\QU xs c=U)/\Q (.bl (if d then !decide (xs=c) else decide (xs=c))) H
def zjA(n:X.A.units+64<cLine):Av X (Bi .Eq) (zkR X.K am):=by intro aa s σ H x y v u Q I k g h;have #[a,b,xs,w,rfl,rfl,r,o,#[d,c,t],q]:=h;cases k;cases g;have #[D,m,p1,_]:=I.list r;have #[z,l,p2,_]:=I.list o;refine eq_dataH_same (pJ p1.isList (jv d m)) (pJ p2.isList (jv c l)) (qu d).1 (qu c).1 n (by rw[sM];exact qt d c t) ?_;rw[uA,Zq d c];exact{.bl _,H,I,Z,q}
def zjB(n:X.A.units+64<cLine):Av X (Bi .NotEq) (zkR X.K U):=by intro aa s σ H x y v u Q I k g h;have #[a,b,xs,w,rfl,rfl,r,o,#[d,c,t],q]:=h;cases k;cases g;have #[D,m,p1,_]:=I.list r;have #[z,l,p2,_]:=I.list o;refine ne_dataH_same (pJ p1.isList (jv d m)) (pJ p2.isList (jv c l)) (qu d).1 (qu c).1 n (by rw[sM];exact qt d c t) ?_;rw[uA,Zq d c];exact{.bl _,H,I,Z,q}
abbrev zfN(K:bL):R2:=λx y H Q=>∃a b xs,x=.ref a/\y=.ref b/\aO K H a xs/\aO K H b []/\Q (.bl (decide (xs=[]))) H
theorem za5(o:X.A.units+64<cLine):Av X (Bi .Eq) (zfN X.K):=by
 intro aa s σ H x y v u Q I d c h;have #[a,b,xs,rfl,rfl,k,g,q]:=h;by_cases e:xs=[]
 .subst e;exact zjA o aa s σ H _ _ v u Q I d c {a,b,[],[],Z,Z,k,g,{Z,Z,Z},q}
 .cases d;cases c;have #[w,n,p1,_]:=I.list k;have #[t,m,p2,_]:=I.list g;cases m;have l:=n.length;have r:xs.length≠0:=λz=>e (fJ z);refine PySem.SeqAt.eq_list_lengthsAt p1.isList p2.isList (by simp;intro z;rw[z] at l;exact r l) () ?_;rw[Bk e] at q;exact{.bl am,H,I,Z,q}
abbrev yL:RM:=Vg
abbrev VQ:RM:=zkI
def jw:LV:=[.str "plus",.str "minus",.str "times",.str "over",.str "rest",.str "under",.str "same"]
def isJ(v:V):Bool:=inV v jw
inductive Er where
 |nought|great|stuck
 deriving DecidableEq
def VR(w:Str)(a b:Int):Int:=
 if w="plus" then a+b else if w="minus" then a-b else if w="times" then a*b else if w="under" then (if a<b then 1 else 0) else if w="same" then (if a=b then 1 else 0) else if w="over" then a.fdiv b else a.fmod b
def VS(w:Str):Prop:=¬ w="plus"/\¬ w="minus"/\¬ w="times"/\¬ w="under"/\¬ w="same"
instance (w:Str):Decidable (VS w):=by unfold VS;infer_instance
def kS(w:Str)(a b:Int):Except Er Int:=if VS w/\b=0 then .error .nought else if u3 (VR w a b)=U then .ok (VR w a b) else .error .great
def zfO(a:xB):V->Int
 |.int i=>i
 |.str x=>(match yt a (.inr x) with|some (.int i)=>i|_=>0)
 |_=>0
def vA(d:xB)(st:ym)(v:V):Except Er ym:=
 if isJ v=U then (match v,st.reverse with|.str w,b::a::r=>(match kS w a b with|.ok c=>.ok (r.reverse++[c])|.error e=>.error e)|_,_=>.error .stuck) else .ok (st++[zfO d v])
def vE(a:xB):LV->ym->Except Er ym
 |[],st=>.ok st
 |v::r,st=>match vA a st v with|.ok st'=>vE a r st'|.error e=>.error e
section
variable {aI:xB}
theorem Zr:∀(p q:LV)(a:ym),vE aI (p++q) a=match vE aI p a with|.ok st'=>vE aI q st'|.error e=>.error e
 |[],q,a=>rfl
 |v::r,q,a=>by
  show (match vA aI a v with|.ok st'=>vE aI (r++q) st'|.error e=>.error e)=match (match vA aI a v with|.ok st'=>vE aI r st'|.error e=>.error e) with|.ok st'=>vE aI q st'|.error e=>.error e
  cases vA aI a v with
  |error e=>rfl
  |ok st'=>exact Zr r q st'
def Good(aI:xB)(ps:LV)(r:Except Er Int):Prop:=(∀a,vE aI ps a=match r with|.ok i=>.ok (a++[i])|.error e=>.error e)/\r≠.error .stuck
theorem zew(h:isJ v=am):Good aI [v] (.ok (zfO aI v)):=by refine{λa=>?_,nofun};unfold vE vA;rw[h,ak ()];rfl
def ziU(w:Str)(d c:Except Er Int):Except Er Int:=match d with|.error e=>.error e|.ok a=>match c with|.error e=>.error e|.ok b=>kS w a b
def zfP(w:Str)(a b:Int):kS w a b≠.error .stuck:=by
 unfold kS;split
 .exact nofun
 .split <;> exact nofun
theorem zex{p1 p2:LV}{g d:Except Er Int}(m:isJ (.str w)=U)(l:Good aI p1 g)(k:Good aI p2 d):Good aI (p1++p2++[.str w]) (ziU w g d):=by
 refine{λh=>?_,?_}
 .rw[Zr,Zr,l.1];cases g with
  |error e=>rfl
  |ok a=>
   show (match vE aI p2 (h++[a]) with|.ok st'=>vE aI [.str w] st'|.error e=>.error e)=_;rw[k.1];cases d with
   |error e=>rfl
   |ok b=>
    show vE aI [.str w] (h++[a]++[b])=match kS w a b with|.ok i=>.ok (h++[i])|.error e=>.error e
    unfold vE vA;rw[m,ao rfl];simp only[sN,tQ,uj,gE,dY,b6];cases kS w a b with
    |error e=>rfl
    |ok c=>simp[vE]
 .unfold ziU;cases g with
  |error e=>exact l.2
  |ok a=>
   cases d with
   |error e=>exact k.2
   |ok b=>exact zfP w a b
def zdv{ps:LV}{i:Nat}{a:ym}{e:Er}(h:vE aI (ps.take i) a=.error e):vE aI ps a=.error e:=by have:=Zr (aI:=aI) (ps.take i) (ps.drop i) a;rw[cB,h] at this;exact this
def zhL{ps:LV}{i:Nat}{a mt:ym}(h:vE aI (ps.take i) mt=.ok a)(b:ps[i]?=Y v):vE aI (ps.take (i+1)) mt=vA aI a v:=by rw[cI,b];show vE aI (ps.take i++[v]) mt=_;rw[Zr,h];show (match vA aI a v with|.ok st'=>vE aI [] st'|.error e=>.error e)=_;cases vA aI a v <;> rfl
end
def qv(v:V):Prop:=(∃i,v=.int i/\u3 i=U)\/∃x:Str,v=.str x/\x.length<=1000
def xT(a:xB):Prop:=∀k v,yt a k=Y v->∃i,v=.int i/\u3 i=U
def za6(h:xT aI)(b:qv v):u3 (zfO aI v)=U:=by
 obtain ⟨i,rfl,a⟩|⟨x,rfl,_⟩:=b
 .exact a
 .show u3 (match yt aI (.inr x) with|some (.int i)=>i|_=>0)=U;cases e:yt aI (.inr x) with
  |none=>rfl
  |some u=>
   have #[i,rfl,a]:=h _ _ e;exact a
def AS{i:Int}:u3 i=U↔-1000000000000000000000000000000<=i/\i<=1000000000000000000000000000000:=by unfold u3;rw[decide_eq_true_eq]
theorem QV{i:Int}(h:u3 i=U):-big<i/\i<big:=by
 have:=AS.mp h;have a:(1000000000000000000000000000001:Int)<big:=by lia
 lia
def Itv(K:bL)(a:af)(xs:LV):It:={λi H=>i<xs.length/\aO K H a xs,λi H x b=>b=H/\xs[xs.length-1-i]?=Y x,λi _=>xs.length<=i}
theorem zfQ{P:au}{w:av}{K:bL}{tg:ay}(a it:af)(xs:LV):zaJ P w K tg (Itv K a xs) [it] it (λi h=>i<=xs.length/\h.IsRevIter it a ((xs.length:Int)-1-(i:Int))) where
 mem:=by simp
 obj:=λi h l b n=>by
  have e:b=it:=by simpa using n
  subst e;have #[_,o,e,c,d]:=l;exact{o,e,λv z=>by rw[d] at z;cases z}
 keep:=λi h r l k=>{l.1,l.2.at λo e=>k it (by simp) o e}
 item:=by
  intro X G t J hc i aa s σ H E I q l D;subst G t J;have #[y,hq]:=D;have #[ac,rv,p,hz]:=I.list hq;have hl:=rv.length;have #[u,hu,ru]:=rv.get (i:=xs.length-1-i) (x:=xs[xs.length-1-i]'()) (ba ());have #[T,Q,f2,O,N,M]:=q it (by simp);have g:=l.2;have e1:(xs.length:Int)-1-(i:Int)=((xs.length-1-i:Nat):Int):=by lia
  rw[e1] at g;refine wpAny_pyNext_rev_item g p.isList (x:=u) (by simpa using hu) λr m sb=>?_;have I1:aL X aa σ H { s with heap:=r }:=I.turned (t':=s.toks) (λb o n e=>(sb.2 b n).trans e) T Q O N M;have e2:((xs.length-1-i:Nat):Int)-1=(xs.length:Int)-1-((i+1:Nat):Int):=by lia
  rw[e2] at m;have #[o,e,c,d]:=id m;exact{u,Z,zaK (s:={ s with heap:=r }) e c d () {_,H,I1,ru,{rfl,ba ()},{y,m},λb n=>(q b n).1}}
 done:=by intro X G t J hc i aa s σ H E I q l D;subst G t J;have #[T,Q,f2,O,N,M]:=q it (by simp);have y:i=xs.length:=lF l.1 D;have g:=l.2;rw[y,show (xs.length:Int)-1-(xs.length:Int)=-1 by lia] at g;exact wpAny_pyNext_rev_end (I.ok.hd hc) g λr eb=>{Z,I.turned (t':=s.toks) (λb o n e=>eb b o n e) T Q O N M}
 self:=λ_ _ _ _ _ l h=>r6 l.2 h
def zkS(K:bL)(d:TA):TI:=λσ H R=>d σ H λc b=>∃a xs,c=[.ref a]/\aO K b a xs/\R (Itv K a xs) b
theorem zjC{l:TA}(D:Gl X "reversed")(z:X.mg "reversed"=L)(J:PA X [a] l)(w:Be [a] X.e=[(am,eval a X.e)]:=by rfl):PI X tg (.Call (.Name "reversed" p) [a] [] pos) (zkS X.K l):=by
 intro aa s σ H R I h;refine Call_ (XM I D z za1 (fT (aX (J pos aa s σ H _ I h) ?_) w Z));rintro O d ⟨N,M,k,t,u⟩;have #[b,xs,e,y,q]:=u;subst e;cases t with
 |cons r rr=>
  cases rr;cases r;have #[g,n,v,Q]:=k.list y;have T:=n.length;refine call_reversed_list v.isList ?_;have m:(d.heap.push (revObj b ((g.toArray.size:Int)-1))).IsRevIter d.heap.objs.size b ((xs.length:Int)-1-((0:Nat):Int)):={_,bJ _ Z,Z,by show Data.fields _=_;rw[show ((g.toArray.size:Nat):Int)-1=(xs.length:Int)-1-((0:Nat):Int) by simp;lia]}
  refine r6 (s:={ d with heap:=_ }) m ?_;refine{d.heap.objs.size,[d.heap.objs.size],_,_,M,Z,k.kept (t':=d.toks) λb o e=>bg _ e,zfQ b _ xs,{cf _,m},λc G=>?_,q};have e:c=d.heap.objs.size:=by simpa using G
  subst e;exact k.fpOk (bq _) (k.hok.fresh (bq _))
def zfR(xs:LV)(Pv:Nat->At)(g:Pv 0 σ H)(c:∀i σ H,Pv i σ H->aO K H a xs)(b:∀i x σ H,i<xs.length->xs[xs.length-1-i]?=Y x->Pv i σ H->Bn x σ H (Pv (i+1)))(d:∀σ H,Pv xs.length σ H->nx σ H) :
  FoP (Itv K a xs) nx Bn σ H:=VN Pv g (λi σ H l p=>{{l,c i σ H p},by rintro x h ⟨rfl,y⟩;exact b i x σ _ l y p}) λσ H p=>{bq _,d σ H p}
def inL(c:Nat):Bool:=!(lB "abcdefghijklmnopqrstuvwxyz" ⟨#[c]⟩ 0 (mj "abcdefghijklmnopqrstuvwxyz") 1).isEmpty
def wl:LV:=[.str "take",.str "give",.str "let",.str "say",.str "off",.str "if",.str "else",.str "end",.str "as"]
def xx(x:Str):Bool:=!(decide (x="") || decide (6<x.length)) && !(inV (.str x) jw || inV (.str x) wl)&&x.cps.toList.all inL
theorem zhM(c:Nat):inL c=U->97<=c/\c<=122:=by unfold inL;rw[StrLaws.found_one,decide_eq_true_eq];exact(by lia:∀c∈(br "abcdefghijklmnopqrstuvwxyz").cps.toList,97<=c/\c<=122) c
theorem Y4(h:xx x=U):x.cps.toList≠[]/\x.length<=6/\isJ (.str x)=am/\x.cps.toList.all inL=U:=by unfold xx at h;rw[cG,cG,oR,oR,m7,m7,decide_eq_false_iff_not,decide_eq_false_iff_not] at h;refine{λz=>h.1.1.1 (zhH (by rw[z];lia)),(),h.1.2.1,h.2}
def zfS(w:Str):Option V:=if xx w=U then Y (.str w) else if zkP w=U then Y (.int (zfI w)) else L
inductive Tw where
 |leaf (w:Str)|node (w:Str) (a b:Tw)
def pre:Tw->yu
 |.leaf w=>[w]
 |.node w a b=>w::(pre a++pre b)
def xh(st:List LV)(w:Str):Except Bool (List LV):=
 if isJ (.str w)=U then (match st.reverse with|a::b::r=>.ok (r.reverse++[a++b++[.str w]])|_=>.error am) else (match zfS w with|some v=>.ok (st++[[v]])|none=>.error U)
theorem zcx :Be (.Constant c j p::es) env=(am,eval (.Constant c j p) env)::Be es env:=by first|rfl|simp only[Be]
def qw{t:TA}(a:PA X es t):PA X (.Constant (.str x) j p::es) (zj (tC (.str x)) t):=zc zO a zcx
def zfU{a:xB}{k:Key}(h:yt a k=Y v):∃p∈a,p.2=v:=by unfold yt at h;have #[p,b,e]:=cr.mp h;exact{p,List.mem_of_find?_eq_some b,e}
theorem zfV(h:xx x=U):Asc x:=λc a=>by have:=zhM c (List.all_eq_true.mp (Y4 h).2.2.2 c a);lia
section
variable {w:av}
theorem zfW{i:Nat}{xs:Array aq}{Q:Aa}(l:s.heap.IsTupleIter it tp i)(t:s.heap.IsTuple tp xs)(d:∀x h,xs[i]?=Y x->h.IsTupleIter it tp (i+1)->de it s.heap h->Q x { s with heap:=h })(g:xs[i]?=L->A.handled=L/\∀h e,uB it s.heap h->(∃o,h.get? e=Y o/\o.cls=.type "StopIteration")->E (.ref e) { s with heap:=h }) :
  Bf (Bg P w) A (fj (.ref it)) Q E s:=by
 have #[o,c,v,b]:=id l;have #[q,u,_,n,k]:=t;unfold fj;refine bb (eo (name:=br "__next__") l.typeIs on (ef on l.typeIs F.entry_tuple_iterator_next ?_ (F.args_tuple_iterator_next_1 _)));show Bf _ _ (field (.ref it) 0 >>= _) _ _ s;refine bb (eI c b (x:=.ref tp) Z ?_);show Bf _ _ (if (bY tp==da)=U then _ else _) _ _ s;rw[ak (show ¬ ((bY tp==da)=U) from bV)];show Bf _ _ (field (.ref it) 1 >>= _) _ _ s;refine bb (eI c b (x:=.int i 0) Z ?_);show Bf _ _ (seqItems? (.ref tp) >>= _) _ _ s;refine bb (gZ u k ?_);cases hx:xs[i]? with
 |some x=>
  simp only[fi,hx];refine bb (mF c b (by simp) (bu {x,Z,bu (d x _ hx ?_ (dL ..))}));refine{_,fC _ c (rK (lG b _)),(tR ..).trans v,?_};rw[lG b];simp[rawInt]
 |none=>
  have #[r,g]:=g hx;simp only[fi,hx];refine bb (fZ (bb (mF c b (by simp) ?_)));show Bf _ _ (newExc (.type "StopIteration") [] >>= _) _ _ _;refine bb ?_;simp only[newExc,newTuple];refine bb (dE ?_ (by size_fits));refine bb (m:=firstArgMember _ _) (wpAny_of_eq (a:=da) (by first|rfl|(simp only[firstArgMember];rfl)) ?_);refine dE ?_ (by size_fits);simp only[raiseNew];refine bb (sZ ?_);first|rw[show A.in1.handled=L from r]|rw[r]
  refine bb (bu (wpAny_throw ?_));exact g _ _ (((dL ..).extBut.push _).push _) {_,bJ _ Z,Z}
end
section
variable {w:av}
structure XW(z a b i j p q:af):Prop where
 az:a≠z
 bz:b≠z
 iz:i≠z
 jz:j≠z
 ab:a≠b
 ai:a≠i
 aj:a≠j
 bi:b≠i
 bj:b≠j
 ij:i≠j
 pz:p≠z
 pb:p≠b
 pi:p≠i
 pj:p≠j
 qz:q≠z
 qb:q≠b
 qi:q≠i
 qj:q≠j
def ZT(z a b i j p q:af)(k:Nat)(h:aw):Prop:=IsZip h z a b .none/\IsPair h a (.ref i) (.ref j)/\(∃u v,IsPair h b u v)/\h.IsTupleIter i p k/\h.IsTupleIter j q k
theorem zey{z a b i j p q:af}{k:Nat}{xs ys:Array aq}{x y:aq}{Q:Aa}(D:XW z a b i j p q)(st:ZT z a b i j p q k s.heap)(hp:s.heap.IsTuple p xs)(hq:s.heap.IsTuple q ys)(hx:xs[k]?=Y x)(hy:ys[k]?=Y y)(N:∀g h,(∀c o,c ∉ [z,b,i,j]->s.heap.get? c=Y o->g.get? c=Y o)->g.objs.size=s.heap.objs.size->IsPair g b x y->g.IsTupleIter i p (k+1)->g.IsTupleIter j q (k+1) ->
   de z (g.push { cls:=.type "tuple",data:=.seq #[x,y] }) h->IsZip h z a b (rawInt g.objs.size)->Q (.ref g.objs.size) { s with heap:=h }) :
  Bf (Bg P w) A (Builtin.«zip.__next__» {[.ref z],[]}) (λr s'=>∃v,r=.done (.ret v)/\Q v s') E s:=by
 have #[M,ha,#[u,v,hb],hi,hj]:=st;show Bf _ _ (field (.ref z) 2 >>= _) _ _ _;refine bb (eI M Z (x:=.bool am) Z ?_);show Bf _ _ (field (.ref z) 3 >>= _) _ _ _;refine bb (eI M Z (x:=.ref a) Z ?_);refine bb (gZ ha Z ?_);show Bf _ _ (eJ (.ref z) >>= _) _ _ _;refine bb ?_;unfold eJ;refine bb (eI M Z (x:=.none) Z (bu ?_));simp only[if_true];refine bb (fZ ?_);refine bb (eI M Z (x:=.ref b) Z ?_);refine bb (dH M (by simp) λg1 z1 m=>?_);replace z1:IsZip g1 z a b .ellipsis:=z1;refine bb ?_;simp only[pS,uC,rG,List.forIn_nil];refine bb (bb (tj ?_));show Bf _ _ (fj (.ref i) >>= _) _ _ _;refine bb (zfW (hi.extBut m.extBut D.iz) (hp.extBut m.extBut D.pz) (λG g2 T i2 t=>bu ?_) λT=>by rw[hx] at T;cases T);obtain rfl:G=x:=bU (T.symm.trans hx);have b2:IsPair g2 b u v:=t.extBut _ _ D.bi (m.extBut _ _ D.bz hb);refine bb (gZ b2 Z ?_);refine bb (r9 b2 λg3 b3 n=>?_);replace b3:IsPair g3 b G v:=b3;refine bb (pK (bu ?_));refine bb (bb (tj ?_));show Bf _ _ (fj (.ref j) >>= _) _ _ _;refine bb (zfW (((hj.extBut m.extBut D.jz).extBut t.extBut D.ij.symm).extBut n.extBut D.bj.symm) (((hq.extBut m.extBut D.qz).extBut t.extBut D.qi).extBut n.extBut D.qb) (λy' g4 O j4 J=>bu ?_) λO=>by rw[hy] at O;cases O);obtain rfl:y'=y:=bU (O.symm.trans hy);have b4:IsPair g4 b G v:=J.extBut _ _ D.bj b3;refine bb (gZ b4 Z ?_);refine bb (r9 b4 λd b5 I=>?_);replace b5:IsPair d b G y':=b5;refine bb (pK (bu (bu ?_)));refine bb (gZ b5 Z ?_);refine bb (sE ?_);have sz:d.objs.size=s.heap.objs.size:=by rw[I.1,J.1,n.1,t.1,m.1]
 have z5:IsZip d z a b .ellipsis:=I.extBut _ _ D.bz.symm (J.extBut _ _ D.jz.symm (n.extBut _ _ D.bz.symm (t.extBut _ _ D.iz.symm z1)));have k5:∀c o,c ∉ [z,b,i,j]->s.heap.get? c=Y o->d.get? c=Y o:=λc o l e=>by simp only[bC,cQ,or_false,not_or] at l;exact I.extBut _ _ l.2.1 (J.extBut _ _ l.2.2.2 (n.extBut _ _ l.2.1 (t.extBut _ _ l.2.2.1 (m.extBut _ _ l.1 e))))
 have i5:d.IsTupleIter i p (k+1):=((i2.extBut n.extBut D.bi.symm).extBut J.extBut D.ij).extBut I.extBut D.bi.symm;have j5:d.IsTupleIter j q (k+1):=j4.extBut I.extBut D.bj.symm;show Bf _ _ (iQ (.ref z) (.ref d.objs.size) >>= _) _ _ _;refine bb ?_;unfold iQ;have z6:IsZip (d.push { cls:=.type "tuple",data:=.seq #[G,y'] }) z a b .ellipsis:=bg _ z5;refine bb (dH z6 (by simp) λg7 z7 r7=>?_);replace z7:IsZip g7 z a b (rawInt d.objs.size):=z7;refine dH z7 (by simp) λg8 z8 r8=>?_;replace z8:IsZip g8 z a b (rawInt d.objs.size):=z8;exact bu {_,Z,N d g8 k5 sz b5 i5 j5 {r8.1.trans r7.1,λc l=>(r8.2 c l).trans (r7.2 c l)} z8}
theorem zfX{z a b i j p q:af}{k:Nat}{xs N:Array aq}{Q:Fin->ap->Prop}(hh:A.handled=L)(D:XW z a b i j p q)(st:ZT z a b i j p q k s.heap)(hp:s.heap.IsTuple p xs)(hq:s.heap.IsTuple q N)(T:xs[k]?=L)(hE:∀h e,(∀c o,c ∉ [z,b,i,j]->s.heap.get? c=Y o->h.get? c=Y o)->(∃o,h.get? e=Y o/\o.cls=.type "StopIteration")->E (.ref e) { s with heap:=h }) :
  Bf (Bg P w) A (Builtin.«zip.__next__» {[.ref z],[]}) Q E s:=by
 have #[g,ha,#[u,v,hb],hi,hj]:=st;show Bf _ _ (field (.ref z) 2 >>= _) _ _ _;refine bb (eI g Z (x:=.bool am) Z ?_);show Bf _ _ (field (.ref z) 3 >>= _) _ _ _;refine bb (eI g Z (x:=.ref a) Z ?_);refine bb (gZ ha Z ?_);show Bf _ _ (eJ (.ref z) >>= _) _ _ _;refine bb ?_;unfold eJ;refine bb (eI g Z (x:=.none) Z (bu ?_));simp only[if_true];refine bb (fZ ?_);refine bb (eI g Z (x:=.ref b) Z ?_);refine bb (dH g (by simp) λg1 n t=>?_);replace n:IsZip g1 z a b .ellipsis:=n;refine bb ?_;simp only[pS,uC,rG,List.forIn_nil];refine bb (bb (tj ?_));show Bf _ _ (fj (.ref i) >>= _) _ _ _;refine bb (zfW (hi.extBut t.extBut D.iz) (hp.extBut t.extBut D.pz) (λx' M G i2 r=>by rw[T] at G;cases G) λG=>{hh,λM e r he=>?_});have #[O,d,l]:=he;have I:IsZip M z a b .ellipsis:=r _ _ D.iz.symm n;have ez:e≠z:=λx=>by subst x;rw[I] at d;cases d;simp at l
 refine dH I (by simp) λg3 _ J=>hE g3 e (λc o m y=>?_) {O,J.extBut _ _ ez d,l};simp only[bC,cQ,or_false,not_or] at m;exact J.extBut _ _ m.1 (r _ _ m.2.2.1 (t.extBut _ _ m.1 y))
def zcy{z a b i j p q:af}{k:Nat}{xs l:Array aq}{x y:aq}{Q:Option aq->ap->Prop}(D:XW z a b i j p q)(st:ZT z a b i j p q k s.heap)(t:s.heap.IsTuple p xs)(r:s.heap.IsTuple q l)(n:xs[k]?=Y x)(m:l[k]?=Y y)(d:∀g h,(∀c o,c ∉ [z,b,i,j]->s.heap.get? c=Y o->g.get? c=Y o)->g.objs.size=s.heap.objs.size->IsPair g b x y->g.IsTupleIter i p (k+1)->g.IsTupleIter j q (k+1) ->
   de z (g.push { cls:=.type "tuple",data:=.seq #[x,y] }) h->IsZip h z a b (rawInt g.objs.size)->Q (Y (.ref g.objs.size)) { s with heap:=h }) :
  Bf (Bg P w) A (pyNext (.ref z)) Q E s:=by
 have T:s.TypeIs (.ref z) "zip":={_,st.1,Z};unfold pyNext;exact bb (iI (eo (name:=br "__next__") T nR (ef nR T F.entry_zip_next
   (zey D st t r n m λg h N M J I G v u=>bu (d g h N M J I G v u)) (F.args_zip_next_1 _))))
def zez{z a b i j p q:af}{k:Nat}{xs g:Array aq}{Q:Option aq->ap->Prop}(u:A.handled=L)(D:XW z a b i j p q)(st:ZT z a b i j p q k s.heap)(n:s.heap.IsTuple p xs)(m:s.heap.IsTuple q g)(l:xs[k]?=L)(d:∀h,(∀c o,c ∉ [z,b,i,j]->s.heap.get? c=Y o->h.get? c=Y o)->Q L { s with heap:=h }):Bf (Bg P w) A (pyNext (.ref z)) Q E s:=by have T:s.TypeIs (.ref z) "zip":={_,st.1,Z};unfold pyNext;refine bb (iI (eo (name:=br "__next__") T nR (ef nR T F.entry_zip_next (zfX u D st n m l λh e t v=>?_) (F.args_zip_next_1 _))));have #[o,r,y]:=v;exact bb (pU (T:="StopIteration") (b:=U) {o,r,y} sF (bu (d _ t)))
end
abbrev zp1(h:aw)(p:af):aw:=h.push { cls:=.type "tuple_iterator",data:=.fields #[.ref p,.int 0 0] }
abbrev zp3(h:aw)(p q:af):aw:=(zp1 (zp1 h p) q).push { cls:=.type "tuple",data:=.seq #[.ref h.objs.size,.ref (zp1 h p).objs.size] }
abbrev zp4(h:aw)(p q:af):aw:=(zp3 h p q).push { cls:=.type "tuple",data:=.seq #[.none,.none] }
abbrev zp5(h:aw)(p q:af):aw:=(zp4 h p q).push { cls:=.type "zip",data:=.fields #[.none,.bool am,.bool am,.ref (zp1 (zp1 h p) q).objs.size,.ref (zp3 h p q).objs.size] }
def zcz(p q:af)(xs ys:Array aq):Meets (Builtin.«zip.__new__» {[.type "zip",.ref p,.ref q],[]}) (λ_ R s=>s.heap.IsTuple p xs/\s.heap.IsTuple q ys /\
   R (.ok (.ret (.ref (zp4 s.heap p q).objs.size))) { s with heap:=zp5 s.heap p q }):=
 .of_wp λprog w A R s h=>by
  have #[k,g,d,a,b]:=s;have #[o,n,h]:=h;have c:=sub_zip;have m:Heap.IsTuple (Shared.heap {k,g,d,a,b}) p xs:=o;have l:Heap.IsTuple (Shared.heap {k.push { cls:=.type "tuple_iterator",data:=.fields #[.ref p,.int 0 0] },g,d,a,b}) q ys:=Heap.IsTuple.push n _
  wp_walk using oq m,oq l
  exact{_,Z,h}
section
variable {w:av}
theorem zeA{p q:af}{xs m:Array aq}{Q:Aa}(y:s.heap.IsTuple p xs)(v:s.heap.IsTuple q m)(h:∀b,ZT (s.heap.objs.size+4) (s.heap.objs.size+2) (s.heap.objs.size+3) s.heap.objs.size (s.heap.objs.size+1) p q 0 b->(∀c o,s.heap.get? c=Y o->b.get? c=Y o)->Q (.ref (s.heap.objs.size+4)) { s with heap:=b }) :
  Bf (Bg P w) A (call (.type "zip") [.ref p,.ref q]) Q E s:=by
 refine callType_new F.called_zip () (F.typeCall_zip_2 _ _) (F.newCall_zip_2 _ _) (λa=>F.args_object_init_3 a _ _) F.entry_zip_new (zcz p q xs m) {y,v,?_};have l:(zp1 s.heap p).objs.size=s.heap.objs.size+1:=fQ ..;have k:(zp1 (zp1 s.heap p) q).objs.size=s.heap.objs.size+2:=by rw[fQ,l]
 have g:(zp3 s.heap p q).objs.size=s.heap.objs.size+3:=by rw[fQ,k]
 have u:(zp4 s.heap p q).objs.size=s.heap.objs.size+4:=by rw[fQ,g]
 have d:(zp5 s.heap p q).get? (zp4 s.heap p q).objs.size=Y _:=bJ _ rfl;have n:(zp5 s.heap p q).get? (zp3 s.heap p q).objs.size=Y _:=bg _ (bJ _ Z);have r:(zp5 s.heap p q).get? (zp1 (zp1 s.heap p) q).objs.size=Y _:=bg _ (bg _ (bJ _ Z));have t:(zp5 s.heap p q).get? (zp1 s.heap p).objs.size=Y _:=bg _ (bg _ (bg _ (bJ _ Z)));have z:(zp5 s.heap p q).get? s.heap.objs.size=Y _:=bg _ (bg _ (bg _ (bg _ (bJ _ Z))));show _/\_;rw[k,g,u] at d;rw[l,k] at r;rw[g] at n;rw[l] at t;rw[u];exact{{_,d,Z},h _ {d,r,{_,_,n},{_,z,Z,Z},{_,t,Z,Z}} λc o x=>bg _ (bg _ (bg _ (bg _ (bg _ x))))}
end
theorem aL.turnedL{aa:Af}{H:Hp}{t':Nat}{ch:List af}(I:aL X aa σ H s)(k:∀b o,b ∉ ch->s.heap.get? b=Y o->h'.get? b=Y o)(g:∀b∈ch,Zg X aa H b) :
  aL X aa σ H { s with heap:=h',toks:=t' }:=by
 have d:∀b u,H b=Y u->b ∉ ch:=λb u e z=>by rw[(g b z).1] at e;cases e
 refine I.step (g':=s.gens) (d':=s.drawn) (ch:=ch) (λb t=>?_) (λb o _ _ a e _=>k b o a e) (λb o _ _ a e _=>{o.slots,k b o a e}) (λ_ _ _ _ n=>n) (λb o a e=>{o,k b o a e}) (λ_ _ e=>e) (λ_ _ _ e=>e) (λb ps e=>{#[],by rw[e];simp}) (λm l=>?_) (λb u e=>?_) I.bare
 .have #[Q,J,O,G,D,y]:=g b t;exact{G,J,D,y}
 .have #[o,es,M,h,r]:=l;exact{o,es,M,k _ o (λz=>(g _ z).2.1 Z) h,r}
 .refine(I.hok b u e).stay (λc v a q=>k c v ?_ q) (λ_ q=>q) λ_ _ q=>q;obtain z|z:=a
  .rw[z];exact d b u e
  .exact d c _ z
def Itz(K:bL)(p q:af)(xs a:LV):It:={λi H=>i<xs.length/\uZ K H p xs/\uZ K H q a,λi H x b=>∃T u v,x=.ref T/\H T=L/\b=upd H T (.tup [u,v])/\xs[i]?=Y u/\a[i]?=Y v,λi H=>xs.length<=i/\uZ K H p xs/\uZ K H q a}
theorem zfY{P:au}{w:av}{K:bL}{ac:List ay}{x1}{pos:Pos}{z a b i j p q:af}{xs n:LV}(D:XW z a b i j p q)(r:xs.length=n.length) :
  zaJ P w K (.Tuple ac x1 pos) (Itz K p q xs n) [z,a,b,i,j] z (ZT z a b i j p q) where
 mem:=by simp
 obj:=λk h m c d=>by
  have #[hz,ha,#[u,v,hb],#[Q,M,ci,di],#[O,J,cj,dj]]:=m;simp only[bC,cQ,or_false] at d;obtain rfl|rfl|rfl|rfl|rfl:=d
  .exact{_,hz,λv z=>by cases z}
  .exact{_,ha,λv z=>by cases z}
  .exact{_,hb,λv z=>by cases z}
  .exact{_,M,λv z=>by rw[di] at z;cases z}
  .exact{_,J,λv z=>by rw[dj] at z;cases z}
 keep:=λk h h' m T=>by have #[hz,ha,#[u,v,hb],#[Q,M,ci],#[O,J,cj]]:=m;exact{T z (by simp) _ hz,T a (by simp) _ ha,{u,v,T b (by simp) _ hb},{Q,T i (by simp) _ M,ci},{O,T j (by simp) _ J,cj}}
 item:=by
  intro X hP hw hK d k aa s σ H E I hf m hg;subst hP hw hK;have #[l,h1,t]:=hg;have #[us,r1,p1,_]:=I.tuple h1;have #[vs,r2,p2,_]:=I.tuple t;have #[u,hu,ru]:=r1.get (i:=k) (x:=xs[k]) (ba l);have #[v,hv,rv]:=r2.get (i:=k) (x:=n[k]'(r ▸ l)) (ba (r ▸ l));have ag:∀c∈[z,b,i,j],c∈[z,a,b,i,j]:=λc d=>by simp only[bC,cQ,or_false] at d ⊢;obtain h|h|h|h:=d <;> simp[h]
  refine zcy D m (show s.heap.IsTuple p us.toArray from p1) (show s.heap.IsTuple q vs.toArray from p2) (x:=u) (y:=v) (by simpa using hu) (by simpa using hv) λg h k5 sz b5 i5 j5 sb z8=>?_;have I5:aL X aa σ H { s with heap:=g }:=I.turnedL (t':=s.toks) k5 λc d=>hf c (ag c d);have I6:aL X aa σ (upd H g.objs.size (.tup [xs[k],n[k]'(r ▸ l)])) { s with heap:=g.push { cls:=.type "tuple",data:=.seq #[u,v] } }:=
   I5.laid (a:=g.objs.size) (o:=.tup [xs[k],n[k]'(r ▸ l)]) (t':=s.toks) (λb u e=>bg _ e) (bq _) {(),[u,v],.cons ru (.cons rv .nil),{_,bJ _ Z,Z,_,Z}}
  have aj:z<s.heap.objs.size:=bS m.1;have ai:∀c∈[z,a,b,i,j],c≠g.objs.size:=λc d=>by
   have #[hz,ha,#[u,v,hb],#[Q,M,ci],#[O,J,cj]]:=m;rw[sz];simp only[bC,cQ,or_false] at d;obtain rfl|rfl|rfl|rfl|rfl:=d
   .exact b8 (bS hz)
   .exact b8 (bS ha)
   .exact b8 (bS hb)
   .exact b8 (bS M)
   .exact b8 (bS J)
  have G:∀c∈[z,a,b,i,j],upd H g.objs.size (HO.tup [xs[k],n[k]'(r ▸ l)]) c=L:=λc d=>by rw[zt (ai c d)];exact(hf c d).1
  have fz:Zg X aa (upd H g.objs.size (HO.tup [xs[k],n[k]'(r ▸ l)])) z:={G z (by simp),(hf z (by simp)).2};refine{.ref g.objs.size,Z,oC z8 λt z9 N=>?_};have up:∀c o,c≠z->g.get? c=Y o->t.get? c=Y o:=λc o d e=>by rw[show t.get? c=h.get? c from N.2 c d,sb.2 c d];exact bg _ e
  have I7:aL X aa σ (upd H g.objs.size (.tup [xs[k],n[k]'(r ▸ l)])) { s with heap:=t }:=I6.turnedL (s:={ s with heap:=g.push { cls:=.type "tuple",data:=.seq #[u,v] } }) (t':=s.toks) (ch:=[z]) (λc o d e=>by
   have d:c≠z:=by simpa using d
   rw[show t.get? c=h.get? c from N.2 c d,sb.2 c d];exact e) λc d=>by
    have:c=z:=by simpa using d
    rw[this];exact fz
  refine{.ref g.objs.size,_,I7,Z,{_,_,_,Z,by have:=I5.hok.fresh (bq g.objs.size);exact this,Z,ba l,ba (r ▸ l)},?_,G};have ka:g.get? a=_:=k5 a _ (by simp[D.az,D.ab,D.ai,D.aj]) m.2.1;have #[Q,M,ci]:=i5;have #[O,J,cj]:=j5;exact{z9,up a _ D.az ka,{_,_,up b _ D.bz b5},{Q,up i _ D.iz M,ci},{O,up j _ D.jz J,cj}}
 done:=by intro X hP hw hK d k aa s σ H E I hf m hg;subst hP hw hK;have #[l,h1,t]:=hg;have #[us,r1,p1,_]:=I.tuple h1;have #[vs,r2,p2,_]:=I.tuple t;have al:=r1.length;refine zez (I.ok.hd d) D m (show s.heap.IsTuple p us.toArray from p1) (show s.heap.IsTuple q vs.toArray from p2) (by simp;lia) λh hk=>{Z,I.turnedL (t':=s.toks) hk λc d=>hf c ?_};simp only[bC,cQ,or_false] at d ⊢;obtain h|h|h|h:=d <;> simp[h]
 self:=λ_ _ _ _ _ m h=>mY m.1 h
def zfZ{p q:af}(xs c:LV)(Pv:Nat->At)(k:Pv 0 σ H)(d:∀i σ H,Pv i σ H->uZ K H p xs/\uZ K H q c)(g:∀i u v T σ H,xs[i]?=Y u->c[i]?=Y v->H T=L->Pv i σ H->Bn (.ref T) σ (upd H T (.tup [u,v])) (Pv (i+1)))(h:∀σ H,Pv xs.length σ H->nx σ H) :
  FoP (Itz K p q xs c) nx Bn σ H:=VN Pv k (λi σ H l p=>{{l,d i σ H p},by rintro x m ⟨T,u,v,rfl,y,rfl,a,b⟩;exact g i u v T σ H a b y p}) λσ H p=>{{bq _,d _ σ H p},h σ H p}
open PySem.W
variable {n:Nat}
section
variable {α β:Type}{lt:Nat->Nat->Bool}
structure SO(lt:Nat->Nat->Bool)(n:Nat):Prop where
 irr:∀i,i<n->lt i i=am
 trans:∀i j k,i<n->j<n->k<n->lt i j=U->lt j k=U->lt i k=U
 tot:∀i j,i<n->j<n->i≠j->lt i j=am->lt j i=U
def PP(n:Nat)(p:AN):Prop:=p.Perm (e9 n).toArray
def gt(p:AN)(k:Nat):Nat:=p.getD k 0
def vX{p:AN}(h:k<p.size):p[k]?=Y (gt p k):=by unfold gt;rw[Array.getD_eq_getD_getElem?,cV h];rfl
theorem PP.size{p:AN}(h:PP n p):p.size=n:=by have:=h.size_eq;simpa using this
theorem PP.blt{p:AN}(h:PP n p)(c:k<n):gt p k<n:=by have b:=h.size;have m:gt p k∈p:=Array.mem_of_getElem? (vX ());have a:gt p k∈(e9 n).toArray:=(tq h).mp m;simpa using a
theorem PP.inj{p:AN}(h:PP n p)(r:i<n)(q:j<n)(e:gt p i=gt p j):i=j:=by
 have o:=h.size;have d:p.toList.Nodup:=by
  have:p.toList.Perm (e9 n):=by have:=eY.mp h;simpa using this
  exact this.nodup_iff.mpr pV
 have g:=vX (p:=p) (k:=i) ();have c:=vX (p:=p) (k:=j) ();rw[<-e] at c;have b:p.toList[i]?=Y (gt p i):=by simpa using g
 have a:p.toList[j]?=Y (gt p i):=by simpa using c
 have #[u,m]:=bd.mp b;have #[t,l]:=bd.mp a;exact(mV d).mp (m.trans l.symm)
def J3(lt:Nat->Nat->Bool)(p:AN)(m:Nat):Prop:=∀i j,i<j->j<m->lt (gt p i) (gt p j)=U
theorem zjD{p:AN}(a:k<p.size)(c:d<=k)(b:j<p.size):gt (bubble p k d) j=if j=k-d then gt p k else if k-d<j/\j<=k then gt p (j-1) else gt p j:=by
 have e:=getElem?_bubble a d c j;rw[vX (p:=bubble p k d) (k:=j) (by rw[bubble_size];exact b)] at e;by_cases h1:j=k-d
 .rw[ao h1,vX a] at e;rw[ao h1];exact bU e
 .rw[ak h1] at e ⊢;by_cases h2:k-d<j/\j<=k
  .rw[ao h2,vX ()] at e;rw[ao h2];exact bU e
  .rw[ak h2,vX b] at e;rw[ak h2];exact bU e
end
abbrev Ag:=StateT SortSt Sem
abbrev u8:=Array Keyed
def kT:Bool->Keyed->u8->Nat->Nat->Nat->Ag (Option Nat):=sortPriv% PySem.Builtin.gallop
def zeB:u8->u8->Ag u8:=sortPriv% PySem.Builtin.mergeLo
def zeC:u8->u8->Ag u8:=sortPriv% PySem.Builtin.mergeHi
def Vi(g:Nat):Ag Unit:=(sortPriv% PySem.Builtin.setMinGallop) g
def zdx(a:Bool)(b:Keyed)(c:u8)(base:Nat)(i:Nat):Ag (Option Bool):=do
 let x <-elem' c (base+i)
 if a then lt' x b else return (<-lt' b x).map (!·)
def gBZ(b:Nat->Ag (Option Bool))(n lo a:Nat):Ag (Option (Option Nat)×Nat×Nat):=
 forIn [:n] (L,lo,a) λ_ z=>if z.2.1 >= z.2.2 then pure (.done (L,z.2.1,z.2.2)) else do
  match <-b (z.2.1+(z.2.2-z.2.1)/2) with
  |some m=>if m=U then pure (.yield (L,z.2.1+(z.2.2-z.2.1)/2+1,z.2.2)) else pure (.yield (L,z.2.1,z.2.1+(z.2.2-z.2.1)/2))
  |_=>pure (.done (Y L,z.2.1,z.2.2))
def gEZ(b:Nat->Ag (Option Bool))(n lo a:Nat):Ag (Option Nat):=do
 let z <-gBZ b n lo a
 match z.1 with
 |some r=>pure r
 |none=>pure (Y z.2.2)
def gXZ(f:Nat->Ag (Option Bool))(k:Bool->Bool)(n a:Nat):Ag (Option (Option Nat)×Nat×Nat):=
 forIn [:n] (L,0,1) λ_ z=>if z.2.2 >= a then pure (.done (L,z.2.1,z.2.2)) else do
  match <-f z.2.2 with
  |some m=>if k m=U then pure (.done (L,z.2.1,z.2.2)) else pure (.yield (L,z.2.2,2*z.2.2+1))
  |_=>pure (.done (Y L,z.2.1,z.2.2))
def zdy(a:Nat->Ag (Option Bool))(n hint:Nat):Ag (Option Nat):=do
 match <-a hint with
 |some r=>if r=U then (do
   let z <-gXZ (λo=>a (hint+o)) (!·) n (n-hint)
   match z.1 with
   |some r=>pure r
   |none=>gEZ a n (hint+z.2.1+1) (hint+min z.2.2 (n-hint))) else (do
   let z <-gXZ (λo=>a (hint-o)) (λm=>m) n (hint+1)
   match z.1 with
   |some r=>pure r
   |none=>gEZ a n (hint+1-min z.2.2 (hint+1)) (hint-z.2.1))
 |_=>pure L
def za8(a:Bool)(b:Keyed)(c:u8)(base n hint:Nat):kT a b c base n hint=zdy (zdx a b c base) n hint:=by
 have l:∀(lo hi:Nat)(f:Option (Option Nat)×Nat×Nat->Ag (Option Nat)),(∀z,f z=match z.1 with|some r=>pure r|none=>pure (Y z.2.2))->(gBZ (zdx a b c base) n lo hi >>= f)=gEZ (zdx a b c base) n lo hi:=λlo hi f h=>by unfold gEZ;congr 1;exact funext h
 unfold zdy;show bind _ _=bind _ _;congr 1
 funext z
 cases z with
 |none=>rfl
 |some r=>
  show ite _ _ _=ite _ _ _;congr 1
  .show bind _ _=bind _ _;congr 1
   funext z
   have #[d,k,g]:=z;cases d with
   |some r=>rfl
   |none=>
    refine l _ _ _ λz=>?_;have #[d,k,g]:=z;cases d <;> rfl
  .show bind _ _=bind _ _;congr 1
   funext z
   have #[d,k,g]:=z;cases d with
   |some r=>rfl
   |none=>
    refine l _ _ _ λz=>?_;have #[d,k,g]:=z;cases d <;> rfl
section
variable {w:av}
def ziV(M:Model)(A:aA)(E:Aa)(s:ap)(st:SortSt)(a:Nat->Ag (Option Bool))(b:Nat->Bool)(n:Nat):Prop:=∀i,i<n->∀Q:Option Bool->SortSt->Prop,Q (Y (b i)) st->wpS M A E s (a i) Q st
structure zjE(b:Nat->Bool)(n k:Nat):Prop where
 le:k<=n
 lo:∀i,i<k->b i=U
 hi:∀i,k<=i->i<n->b i=am
variable {M:Model}{st:SortSt}{bf:Nat->Ag (Option Bool)}{b:Nat->Bool}
theorem zdz{lo d:Nat}{Q:Option Nat->SortSt->Prop}(O:ziV M A E s st bf b n)(g:∀i j,i<=j->j<n->b j=U->b i=U)(y:lo<=d)(v:d<=n)(J:∀i,i<lo->b i=U)(N:∀i,d<=i->i<n->b i=am)(q:∀k,zjE b n k->Q (Y k) st) :
  wpS M A E s (gEZ bf n lo d) Q st:=by
 unfold gEZ;refine bT (fm (show wpS M A E s (gBZ bf n lo d) (λz a=>st=a/\z.1=L/\zjE b n z.2.2) st from ?_) ?_)
 .unfold gBZ;refine dU (λx z a=>st=a/\z.1=L/\z.2.1<=z.2.2/\z.2.2<=n/\(∀i,i<z.2.1->b i=U)/\(∀i,z.2.2<=i->i<n->b i=am)/\z.2.2-z.2.1<=n-x) ?_ ?_ {Z,Z,y,v,J,N,bI (iJ ..) v}
  .rintro x ⟨r,l,h⟩ a _ hx ⟨rfl,rfl,a1,o,G,D,u⟩;dsimp only at *
   by_cases c:l >= h
   .rw[ao c];exact ca {Z,Z,o,λi d=>G i (bH d c),D}
   .rw[ak c];have c:=iS c;obtain⟨m,T,I,t⟩:∃m,l+(h-l)/2=m/\l<=m/\m<h:={_,Z,cZ ..,mK (Nat.div_lt_self (Nat.sub_pos_of_lt c) ())};rw[T];refine bT (O _ (bH t o) _ ?_);dsimp only;cases e:b m with
    |true=>
     rw[ao rfl];exact ca {Z,Z,t,o,λi d=>g i m (cN d) (bH t o) e,D,mo (bH (nS c (eO I)) u)}
    |false=>
     rw[ak ()];refine ca {Z,Z,I,bI (cS t) o,G,λi y v=>?_,mo (bH (sd I t) u)};dsimp only at y;cases e2:b i with
     |false=>rfl
     |true=>rw[g _ i y v e2] at e;cases e
  .rintro⟨r,l,h⟩ a ⟨rfl,rfl,a1,o,G,D,u⟩;dsimp only at *
   rw[iT (cf n),gK] at u;exact{Z,Z,o,λi d=>G i (bH d (rL (pL.mp u))),D}
 .rintro⟨r,l,h⟩ a ⟨rfl,rfl,c⟩;exact ca (q _ c)
theorem zdA{f:Nat->Ag (Option Bool)}{k d:Nat->Bool}{g:Bool->Bool}(v:∀i,i<mx->∀Q:Option Bool->SortSt->Prop,Q (Y (d i)) st->wpS M A E s (f i) Q st)(u:∀i,g (d i)=k i)(D:mx<=n) :
  wpS M A E s (gXZ f g n mx) (λz m=>st=m/\z.1=L/\z.2.1<z.2.2/\(z.2.1=0\/z.2.1<mx/\k z.2.1=am)/\(z.2.2<mx->k z.2.2=U)) st:=by
 unfold gXZ;refine dU (λx z m=>st=m/\z.1=L/\z.2.1<z.2.2/\(z.2.1=0\/z.2.1<mx/\k z.2.1=am)/\x<z.2.2) ?_ (λz m ⟨a,b,c,d,e⟩=>{a,b,c,d,λh=>by lia}) {Z,Z,nU,.inl Z,nU};rintro x ⟨r,l,o⟩ m _ y ⟨rfl,rfl,t,q,G⟩;dsimp only at *
 by_cases c:o >= mx
 .rw[ao c];exact ca {Z,Z,t,q,λz=>absurd z (mZ c)}
 .rw[ak c];refine bT (v o (iS c) _ ?_);dsimp only;rw[u];cases e:k o with
  |true=>rw[ao rfl];exact ca {Z,Z,t,q,λ_=>e}
  |false=>rw[ak ()];exact ca {Z,Z,by dsimp only;lia,.inr {iS c,e},by dsimp only;lia}
theorem zeD{Q:Option Nat->SortSt->Prop}(u:ziV M A E s st bf b n)(a:∀i j,i<=j->j<n->b j=U->b i=U)(g:hint<n)(q:∀k,zjE b n k->Q (Y k) st) :
  wpS M A E s (zdy bf n hint) Q st:=by
 unfold zdy;have J:∀i j,i<=j->j<n->b i=am->b j=am:=λi j d t e=>by
  cases e2:b j with
  |false=>rfl
  |true=>rw[a i j d t e2] at e;cases e
 refine bT (u _ g _ ?_);dsimp only;cases e:b hint with
 |true=>
  rw[ao rfl];have I:=Nat.add_sub_of_le (cS g);refine bT (fm (zdA (k:=λi=>!b (hint+i)) (λi c=>u (hint+i) (mK c)) (λ_=>rfl) (iJ ..)) ?_);rintro⟨r,l,o⟩ v ⟨rfl,rfl,G,D,y⟩;dsimp only at *
  have m:hint+l<n/\b (hint+l)=U:=D.elim (λz=>by rw[z];exact{g,e}) λz=>{mK z.1,by simpa using z.2};refine zdz u a (c8 (Nat.le_min.mpr {G,Nat.lt_sub_iff_add_lt'.mpr m.1}) hint) (bI (c8 (uh ..) hint) (eX I)) (λi c=>a i _ (cN c) m.1 m.2) (λi d t=>?_) q;have h:o<n-hint:=iS λz=>by rw[gX z,I] at d;exact mZ d t
  rw[dq (cS h)] at d;exact J (hint+o) i d t (by simpa using y h)
 |false=>
  rw[ak ()];refine bT (fm (zdA (k:=λi=>b (hint-i)) (λi _=>u (hint-i) (bM (iJ ..) g)) (λ_=>rfl) g) ?_);rintro⟨r,l,o⟩ v ⟨rfl,rfl,G,D,y⟩;dsimp only at *
  have m:l<=hint/\b (hint-l)=am:=D.elim (λz=>by rw[z];exact{cf _,e}) λz=>{cN z.1,z.2};refine zdz u a (Nat.succ_sub_succ hint l ▸ sO (Nat.le_min.mpr {G,fY m.1}) (hint+1)) (bI (iJ ..) (cS g)) (λi c=>?_) (λi d t=>J (hint-l) i d t m.2) q;have h:o<hint+1:=iS λz=>by rw[gX z,gK] at c;exact rM _ c
  rw[dq (cS h),Nat.succ_sub (cN h)] at c;exact a i (hint-o) (cN c) (bM (iJ ..) g) (y h)
end
def hV(a:Nat->Keyed)(p:zZ):u8:=(p.map a).toArray
variable {it:Nat->Keyed}
theorem yW(p:zZ):(hV it p).size=p.length:=by simp[hV]
theorem y7{p:zZ}{i x:Nat}(h:p[i]?=Y x):(hV it p)[i]?=Y (it x):=by simp[hV,h]
theorem Zs(p:zZ)(x:Nat):(hV it p).push (it x)=hV it (p++[x]):=by simp[hV]
theorem zW(p q:zZ):hV it p++hV it q=hV it (p++q):=by simp[hV]
theorem jS(p:zZ)(i j:Nat):(hV it p).extract i j=hV it ((p.drop i).take (j-i)):=by simp[hV,lH,lI]
theorem wf(p:zZ)(i:Nat):(hV it p).extract i (hV it p).size=hV it (p.drop i):=by rw[jS,yW,b9 (by rw[cq];lia)]
theorem K5{it:Nat->Keyed}(p:zZ)(i:Nat):(hV it p).extract i p.length=hV it (p.drop i):=by rw[jS,b9 (by rw[cq];lia)]
structure AL(lt:Nat->Nat->Bool)(a b o P Q:zZ):Prop where
 so:o.Pairwise λx y=>lt x y=U
 pe:(o++P++Q).Perm (a++b)
 be:∀x∈o,∀y∈P++Q,lt x y=U
 sp:P.Pairwise λx y=>lt x y=U
 sq:Q.Pairwise λx y=>lt x y=U
structure WS(lt:Nat->Nat->Bool)(a b m:zZ):Prop where
 pe:m.Perm (a++b)
 so:m.Pairwise λx y=>lt x y=U
variable {a b Q:zZ}
section
variable {lt:Nat->Nat->Bool}{o P c:zZ}
theorem AL.left(h:AL lt a b o (c++P) Q)(k:∀x∈c,∀y∈Q,lt x y=U):AL lt a b (o++c) P Q:=by
 have sp:=bW.mp h.sp;refine{bW.mpr {h.so,sp.1,λx hx y hy=>h.be x hx y (by simp[hy])},?_,λx hx y hy=>?_,sp.2.1,h.sq}
 .have:=h.pe;simpa[b6] using this
 .obtain hx|hx:=bp.mp hx
  .exact h.be x hx y (by obtain hy|hy:=bp.mp hy <;> simp[hy])
  .obtain hy|hy:=bp.mp hy
   .exact sp.2.2 x hx y hy
   .exact k x hx y hy
theorem AL.right(h:AL lt a b o P (c++Q))(k:∀x∈c,∀y∈P,lt x y=U):AL lt a b (o++c) P Q:=by
 have sq:=bW.mp h.sq;refine{bW.mpr {h.so,sq.1,λx hx y hy=>h.be x hx y (by simp[hy])},?_,λx hx y hy=>?_,h.sp,sq.2.1}
 .refine dy ?_ h.pe;rw[b6,b6,b6];refine iB _ ?_;rw[<-b6,<-b6];exact fW _ fE
 .obtain hx|hx:=bp.mp hx
  .exact h.be x hx y (by obtain hy|hy:=bp.mp hy <;> simp[hy])
  .obtain hy|hy:=bp.mp hy
   .exact k x hx y hy
   .exact sq.2.2 x hx y hy
theorem AL.len(h:AL lt a b o P Q):o.length+P.length+Q.length=a.length+b.length:=by have:=h.pe.length_eq;simp only[bh] at this;lia
theorem AL.end(h:AL lt a b o P Q)(k:∀x∈P,∀y∈Q,lt x y=U):WS lt a b (o++P++Q):=
 {h.pe,bW.mpr {bW.mpr {h.so,h.sp,λx hx y d=>h.be x hx y (by simp[d])},h.sq,λx hx y d=>by
  obtain hx|hx:=bp.mp hx
  .exact h.be x hx y (by simp[d])
  .exact k x hx y d}}
theorem AL.end'(h:AL lt a b o P Q)(k:∀x∈Q,∀y∈P,lt x y=U):WS lt a b (o++Q++P):=by
 refine{?_,bW.mpr {bW.mpr {h.so,h.sq,λx hx y d=>h.be x hx y (by simp[d])},h.sp,λx hx y d=>?_}}
 .refine dy ?_ h.pe;rw[b6,b6];exact iB _ fE
 .obtain hx|hx:=bp.mp hx
  .exact h.be x hx y (by simp[d])
  .exact k x hx y d
theorem AL.start(g:a.Pairwise λx y=>lt x y=U)(d:b.Pairwise λx y=>lt x y=U):AL lt a b [] a b:={.nil,by simp,(λx h=>nomatch h),g,d}
end
variable {κ:SortKind}{N:Nat}
section
variable {w:av}{lt:Nat->Nat->Bool}
def xC(prog:au)(w:av)(A:aA)(s:ap)(κ:SortKind)(it:Nat->Keyed)(lt:Nat->Nat->Bool)(N:Nat):Prop:=∀i j (C:Bool->ap->Prop),i<N->j<N->i≠j->C (lt i j) s->Bf (Bg prog w) A (keyLt' κ (it i).1 (it j).1) C (λ_ _=>False) s
structure wF(κ:SortKind)(mt st:SortSt):Prop where
 k:kindOf st=κ
 f:failedOf st=L
 a:arrOf st=arrOf mt
 p:pendingOf st=pendingOf mt
def Zt{st:SortSt}{Q:Option Bool->SortSt->Prop}(m:xC prog w A s κ it lt N)(g:kindOf st=κ)(l:i<N)(k:j<N)(c:i≠j)(q:Q (Y (lt i j)) st):wpS (Bg prog w) A E s (lt' (it i) (it j)) Q st:=by rw[lt'_eq];refine bT (wpS_get ?_);rw[g];refine bT (rX (iI (eL (m i j (λb d=>d=s/\b=lt i j) l k c {Z,Z}) (λb d h=>?_) λ_ _ h=>h.elim)));have #[rfl,rfl]:=h;exact{Z,ca q}
def yf{st:SortSt}{c:u8}{i:Nat}{x:Keyed}{Q:Keyed->SortSt->Prop}(h:c[i]?=Y x)(q:Q x st):wpS M A E s (elem' c i) Q st:=by rw[elem'_eq,h];exact ca q
def zf3(S:SO lt N)(c:i<N)(g:j<N)(d:i≠j):(!lt i j)=lt j i:=by
 cases e:lt i j with
 |false=>rw[S.tot i j c g d e];rfl
 |true=>
  cases e2:lt j i with
  |false=>rfl
  |true=>
   have:=S.trans i j i c g c e e2;rw[S.irr i c] at this;cases this
theorem wZ{st:SortSt}{m:Bool}{h base n r:Nat}{Q:Option Nat->SortSt->Prop}(S:SO lt N)(hc:xC prog w A s κ it lt N)(hk:kindOf st=κ)(u:h<N)(h1:∀x∈(a.drop base).take n,x<N/\x≠h)(I:((a.drop base).take n).Pairwise λx y=>lt x y=U)(J:base+n<=a.length)(hh:r<n)(q:∀k,k<=n->(∀x∈(a.drop base).take k,lt x h=U)->(∀x∈((a.drop base).take n).drop k,lt h x=U)->Q (Y k) st) :
  wpS (Bg prog w) A E s (kT m (it h) (hV it a) base n r) Q st:=by
 rw[za8];have g:∀i,i<n->∃x,a[base+i]?=Y x/\x<N/\x≠h/\((a.drop base).take n)[i]?=Y x:=λi d=>by
  have e:a[base+i]?=Y a[base+i]:=ba (bH (dA d base) J);have e2:((a.drop base).take n)[i]?=Y a[base+i]:=by rw[fI d,eV,e]
  exact{_,e,(h1 _ (bA e2)).1,(h1 _ (bA e2)).2,e2}
 refine zeD (b:=λi=>lt (a.getD (base+i) 0) h) (λi d Q' D=>?_) (λi j v hj O=>?_) hh λk c=>?_
 .have #[x,e,t,z,_]:=g i d;have ed:a.getD (base+i) 0=x:=by rw[bD,e];rfl
  dsimp only at D;rw[ed] at D;unfold zdx;refine bT (yf (y7 e) ?_);cases m with
  |true=>
   rw[ao rfl];exact Zt hc hk t u z D
  |false=>
   rw[ak ()];refine bT (Zt hc hk u t (eC z) (ca ?_));show Q' (Y (!lt h x)) st;rw[zf3 S u t (eC z)];exact D
 .have #[x,e,t,z,ex]:=g i (bM v hj);have #[y,e',G,yk,T]:=g j hj;have ed:a.getD (base+i) 0=x:=by rw[bD,e];rfl
  have ac:a.getD (base+j) 0=y:=by rw[bD,e'];rfl
  rw[ac] at O;rw[ed];by_cases c:i=j
  .subst c;rw[e] at e';cases e';exact O
  .have l:=(bd.mp ex);have l':=(bd.mp T);have:=dC.mp I i j l.1 l'.1 (lJ v c);rw[l.2,l'.2] at this;exact S.trans _ _ _ t G u this O
 .refine q k c.le (λx M=>?_) λx M=>?_
  .have #[i,d]:=cE M;have o:=(bd.mp d).1;rw[bX] at o;have o:=bH o (Nat.min_le_left ..);rw[fI o,eV] at d;have:=c.lo i o;rw[bD,d] at this;exact this
  .have #[i,d]:=cE M;rw[eV] at d;have o:=(bd.mp d).1;rw[bX] at o;have kn:=bH o (Nat.min_le_left ..);have #[y,e,G,yk,T]:=g (k+i) kn;rw[T] at d;cases d;have:=c.hi (k+i) (cZ ..) kn;rw[bD,e] at this;exact S.tot x h G u yk this
end
section
variable {w:av}{lt:Nat->Nat->Bool}
structure uY(lt:Nat->Nat->Bool)(N:Nat)(a b:zZ):Prop where
 sa:a.Pairwise λx y=>lt x y=U
 sb:b.Pairwise λx y=>lt x y=U
 nA:∀x∈a,x<N
 nB:∀x∈b,x<N
 dj:∀x∈a,∀y∈b,x≠y
 la:0<a.length
 lb:0<b.length
 hd:∀y∈a,lt (b.getD 0 0) y=U
 tl:∀x∈b,lt x (a.getD (a.length-1) 0)=U
def wS{l:zZ}{i x:Nat}(h:l[i]?=Y x):l.drop i=[x]++l.drop (i+1):=by have #[c,rfl]:=bd.mp h;rw[eD c];rfl
def VT{l:zZ}(i k:Nat):l.drop i=(l.drop i).take k++l.drop (i+k):=by rw[<-iR,cB]
def w6{l:zZ}{i x:Nat}(h:x∈l.drop i):x∈l:=cF h
theorem uY.last(P:uY lt N a b)(h:ia+1=a.length):∀x∈b.drop ib,∀y∈a.drop ia,lt x y=U:=by
 intro x d y c;have e:a.drop ia=[a.getD (a.length-1) 0]:=by
  have g:a[ia]?=Y a[ia]:=ba ();rw[wS g,ic ()];have:a.getD (a.length-1) 0=a[ia]:=by rw[bD,show a.length-1=ia by lia,g];rfl
  rw[this];rfl
 rw[e,bo] at c;rw[c];exact P.tl x (w6 d)
theorem jT(S:SO lt N){l:zZ}{i x y:Nat}(q:l.Pairwise λx y=>lt x y=U)(d:∀x∈l,x<N)(c:l[i]?=Y x)(m:y<N)(h:lt y x=U):∀z∈l.drop i,lt y z=U:=by
 intro z hz;rw[wS c] at hz;obtain hz|hz:=bp.mp hz
 .rw[bo.mp hz];exact h
 .have o:=bA c;refine S.trans y x z m (d x o) (d z (w6 hz)) h ?_;have #[k,g]:=cE hz;rw[eV] at g;have #[t,v]:=bd.mp c;have #[r,u]:=bd.mp g;have:=dC.mp q i (i+1+k) t r ();rw[v,u] at this;exact this
structure AU(lt:Nat->Nat->Bool)(a b o:zZ)(ia ib:Nat):Prop where
 m:AL lt a b o (a.drop ia) (b.drop ib)
 ha:ia+1<a.length
 hb:ib<b.length
theorem AU.len(W:AU lt a b o ia ib):o.length<a.length+b.length:=by have:=W.m.len;have d:=W.ha;have c:=W.hb;rw[cq,cq] at this;lia
def za9(κ:SortKind)(it:Nat->Keyed)(lt:Nat->Nat->Bool)(a b:zZ)(mt:SortSt)(r:Option u8)(st:SortSt):Prop:=∃m,r=Y (hV it m)/\WS lt a b m/\wF κ mt st
abbrev zba:=Option u8×u8×Nat×Nat×Nat×Nat×Nat
def zf4(a b:u8)(mg k h:Nat)(c:u8)(d g:Nat):Ag (ForInStep zba):=do
 let x <-elem' a d
 if (d+1+1==a.size)=U then pure (.done (Y (c.push x++b.extract g b.size++a.extract (d+1) a.size),c.push x,d+1,g,mg,k,h))
 else if (decide (k<7)&&decide (h<7))=U then pure (.done (L,c.push x,d+1,g,mg,k,h))
 else pure (.yield (L,c.push x,d+1,g,mg,k,h))
def zf5(a b:u8)(mg h l:Nat)(d:u8)(g c:Nat):Ag (ForInStep zba):=do
 let x <-elem' b c
 if (c+1==b.size)=U then pure (.done (Y (d.push x++a.extract g a.size++b.extract (c+1) b.size),d.push x,g,c+1,mg,h,l))
 else do
  let y <-elem' a g
  match <-kT U y b (c+1) (b.size-(c+1)) 0 with
  |some k=>if k > 0 then (if (c+1+k==b.size)=U then pure (.done (Y (d.push x++b.extract (c+1) (c+1+k)++a.extract g a.size++b.extract (c+1+k) b.size),d.push x++b.extract (c+1) (c+1+k),g,c+1+k,mg,h,k)) else zf4 a b mg h k (d.push x++b.extract (c+1) (c+1+k)) g (c+1+k)) else zf4 a b mg h k (d.push x) g (c+1)
  |_=>pure (.done (Y (d.push x++a.extract g a.size++b.extract (c+1) b.size),d.push x,g,c+1,mg,h,l))
def zf6(κ:SortKind)(it:Nat->Keyed)(lt:Nat->Nat->Bool)(a b:zZ)(mt:SortSt)(n:Nat)(r:ForInStep zba)(st:SortSt):Prop:=match r with
 |.done c=>za9 κ it lt a b mt c.1 st\/∃o g d mg k h,c=(L,hV it o,g,d,mg,k,h)/\AU lt a b o g d/\n<o.length/\wF κ mt st
 |.yield c=>∃o g d mg k h,c=(L,hV it o,g,d,mg,k,h)/\AU lt a b o g d/\n<o.length/\wF κ mt st
def yb{g:Type}{c:Prop}[Decidable c]{m n:Ag g}{Q:g->SortSt->Prop}{st:SortSt}(k:c->wpS M A E s m Q st)(h:¬c->wpS M A E s n Q st):wpS M A E s (if c then m else n) Q st:=by
 by_cases d:c
 .rw[ao d];exact k d
 .rw[ak d];exact h d
def wj(h:¬(n==0)=U):0<n:=Nat.pos_of_ne_zero λe=>h (by rw[e];rfl)
def yX(h:¬(n==k)=U):n≠k:=λe=>h (by rw[e];exact beq_self_eq_true k)
def vY{o:zZ}{x n:Nat}(h:n<=o.length):n<(o++[x]).length:=by rw[bh];exact eO h
def AL.stA(S:SO lt N)(P:uY lt N a b)(m:AL lt a b o (a.drop ia) (b.drop ib))(c:a[ia]?=Y xa)(h:b[ib]?=Y xb)(e:lt xa xb=U):AL lt a b (o++[xa]) (a.drop (ia+1)) (b.drop ib):=by rw[wS c] at m;exact m.left λx g z d=>by rw[bo.mp g];exact jT S P.sb P.nB h (P.nA _ (bA c)) e z d
def AL.stB(S:SO lt N)(P:uY lt N a b)(m:AL lt a b o (a.drop ia) (b.drop ib))(h:a[ia]?=Y xa)(c:b[ib]?=Y xb)(e:lt xb xa=U):AL lt a b (o++[xb]) (a.drop ia) (b.drop (ib+1)):=by rw[wS c] at m;exact m.right λx g z d=>by rw[bo.mp g];exact jT S P.sa P.nA h (P.nB _ (bA c)) e z d
def AL.endB(m:AL lt a b o (a.drop ia) (b.drop ib))(e:(ib==b.length)=U):WS lt a b (o++a.drop ia++b.drop ib):=m.end λx d y c=>by rw[nV e,m3] at c;cases c
def AL.endL(P:uY lt N a b)(m:AL lt a b o (a.drop ia) (b.drop ib))(e:(ia+1==a.length)=U):WS lt a b (o++b.drop ib++a.drop ia):=m.end' (P.last (nV e))
theorem K6{mt st:SortSt}{mg v u c ib n g h:Nat}(S:SO lt N)(P:uY lt N a b)(k:wF κ mt st)(m:AL lt a b o (a.drop c) (b.drop ib))(y:c+1<a.length)(r:a[c]?=Y g)(q:b[ib]?=Y h)(e:lt g h=U)(l:n<=o.length) :
  wpS (Bg prog w) A E s (zf4 (hV it a) (hV it b) mg v u (hV it o) c ib) (zf6 κ it lt a b mt n) st:=by refine bT (yf (y7 r) ?_);have M2:=m.stA S P r q e;rw[Zs,wf,wf,yW,zW,zW];refine yb (λd=>ca (.inl {_,Z,M2.endL P d,k})) λd=>?_;have d:=yX d;have t:AU lt a b (o++[g]) (c+1) ib:={M2,(),(bd.mp q).1};exact yb (λ_=>ca (.inr {_,_,_,_,_,_,Z,t,vY l,k})) λ_=>ca {_,_,_,_,_,_,Z,t,vY l,k}
theorem K7{mt st:SortSt}{mg ac bc r c n u t:Nat}(S:SO lt N)(hc:xC prog w A s κ it lt N)(P:uY lt N a b)(k:wF κ mt st)(m:AL lt a b o (a.drop r) (b.drop c))(T:r+1<a.length)(q:a[r]?=Y u)(I:b[c]?=Y t)(e:lt t u=U)(M:n<=o.length) :
  wpS (Bg prog w) A E s (zf5 (hV it a) (hV it b) mg ac bc (hV it o) r c) (zf6 κ it lt a b mt n) st:=by
 have J:=bA q;have lb:=(bd.mp I).1;refine bT (yf (y7 I) ?_);have M2:=m.stB S P q I e;rw[Zs,wf,wf,yW,zW,zW];refine yb (λd=>ca (.inl {_,Z,M2.endB d,k})) λd=>?_;have d:=yX d;have v:(b.drop (c+1)).take (b.length-(c+1))=b.drop (c+1):=b9 (by rw[cq];exact bq _);refine bT (yf (y7 q) (bT (wZ S hc k.k (P.nA _ J) (λx l=>?_) ?_ () () λj hj lo O=>?_)))
 .rw[v] at l;exact{P.nB _ (w6 l),eC (P.dj _ J _ (w6 l))}
 .rw[v];exact M2.sq
 .rw[v] at O;dsimp only;have nx:c+1+j<b.length->∃y,b[c+1+j]?=Y y/\lt u y=U:=λh=>by have g:b[c+1+j]?=Y b[c+1+j]:=ba h;refine{_,g,O _ ?_};rw[iR,wS g];exact cz _ (gN _)
  refine yb (λz=>?_) λz=>?_
  .rw[jS,lK,zW,K5,zW,zW];have M3:AL lt a b (o++[t]++(b.drop (c+1)).take j) (a.drop r) (b.drop (c+1+j)):=by rw[VT (c+1) j] at M2;exact M2.right λx l z hz=>jT S P.sa P.nA q (P.nB _ (w6 (cH l))) (lo x l) z hz
   refine yb (λd=>ca (.inl {_,Z,M3.endB d,k})) λd=>?_;have d:=yX d;have #[y,G,D]:=nx ();exact K6 S P k M3 T q G D (by rw[bh];exact bI (cS (vY M)) (cZ ..))
  .obtain rfl:j=0:=rf z;have #[y,G,D]:=nx ();exact K6 S P k M2 T q G D (cS (vY M))
abbrev zbb:=Option u8×u8×Nat×Nat×Nat×Nat
abbrev QW:=Option u8×u8×Nat×Nat×Nat
def zkU(a b:u8)(mg h:Nat)(c:u8)(g d:Nat):Ag (ForInStep zbb):=do
 let x <-elem' b d
 if (d+1==b.size)=U then pure (.done (Y (c.push x++a.extract g a.size++b.extract (d+1) b.size),c.push x,g,d+1,0,h+1))
 else if h+1 >= mg then pure (.done (L,c.push x,g,d+1,0,h+1)) else pure (.yield (L,c.push x,g,d+1,0,h+1))
def zkV(a b:u8)(mg h:Nat)(c:u8)(d g:Nat):Ag (ForInStep zbb):=do
 let x <-elem' a d
 if (d+1+1==a.size)=U then pure (.done (Y (c.push x++b.extract g b.size++a.extract (d+1) a.size),c.push x,d+1,g,h+1,0))
 else if h+1 >= mg then pure (.done (L,c.push x,d+1,g,h+1,0)) else pure (.yield (L,c.push x,d+1,g,h+1,0))
def ziW(a b:u8)(mg:Nat)(z:zbb):Ag (ForInStep zbb):=do
 let y <-elem' b z.2.2.2.1
 let x <-elem' a z.2.2.1
 match <-lt' y x with
 |some w=>if w=U then zkU a b mg z.2.2.2.2.2 z.2.1 z.2.2.1 z.2.2.2.1 else zkV a b mg z.2.2.2.2.1 z.2.1 z.2.2.1 z.2.2.2.1
 |_=>pure (.done (Y (z.2.1++a.extract z.2.2.1 a.size++b.extract z.2.2.2.1 b.size),z.2))
def zjF(a b:u8)(d:u8)(c h m l g:Nat):Ag (ForInStep zba):=do
 Vi g
 let u <-elem' b h
 match <-kT am u a c (a.size-c) 0 with
 |some k=>if k > 0 then (if (c+k+1==a.size)=U then pure (.done (Y (d++a.extract c (c+k)++b.extract h b.size++a.extract (c+k) a.size),d++a.extract c (c+k),c+k,h,g,k,l)) else if (c+k==a.size)=U then pure (.done (Y (d++a.extract c (c+k)++a.extract (c+k) a.size++b.extract h b.size),d++a.extract c (c+k),c+k,h,g,k,l)) else zf5 a b g k l (d++a.extract c (c+k)) (c+k) h) else zf5 a b g k l d c h
 |_=>pure (.done (Y (d++a.extract c a.size++b.extract h b.size),d,c,h,g,m,l))
def zkW(a b:u8)(z:zba):Ag (ForInStep zba):=if z.2.2.2.2.1 > 1 then zjF a b z.2.1 z.2.2.1 z.2.2.2.1 z.2.2.2.2.2.1 z.2.2.2.2.2.2 (z.2.2.2.2.1-1) else zjF a b z.2.1 z.2.2.1 z.2.2.2.1 z.2.2.2.2.2.1 z.2.2.2.2.2.2 z.2.2.2.2.1
def zlx(c:zba):Ag (ForInStep QW):=gh (λ_=>Ag (ForInStep QW)) c.1 (λr=>pure (.done (Y r,c.2.1,c.2.2.1,c.2.2.2.1,c.2.2.2.2.1))) λ_=>do
 Vi (c.2.2.2.2.1+1)
 pure (.yield (L,c.2.1,c.2.2.1,c.2.2.2.1,c.2.2.2.2.1+1))
def zkX(a b:u8)(mg:Nat)(c:zbb):Ag (ForInStep QW):=gh (λ_=>Ag (ForInStep QW)) c.1 (λr=>pure (.done (Y r,c.2.1,c.2.2.1,c.2.2.2.1,mg))) λ_=>do
 liftM (tT "list.sort.gallop")
 let z <-forIn [:a.size+b.size] ((L,c.2.1,c.2.2.1,c.2.2.2.1,mg+1,c.2.2.2.2):zba) λ_ z=>zkW a b z
 zlx z
def zkY(a b:u8)(c:QW):Ag (ForInStep QW):=do
 let z <-forIn [:a.size+b.size] ((L,c.2.1,c.2.2.1,c.2.2.2.1,0,0):zbb) λ_ z=>ziW a b c.2.2.2.2 z
 zkX a b c.2.2.2.2 z
def zly(c:QW):Ag u8:=gh (λ_=>Ag u8) c.1 (λr=>pure r) λ_=>liftM (tU "internal:list.sort.merge-bound")
def zjG(a b:u8):Ag u8:=do
 liftM (tT "list.sort.merge-lo")
 let x <-elem' b 0
 if (1==b.size)=U then pure (#[x]++a.extract 0 a.size++b.extract 1 b.size)
 else if (0+1==a.size)=U then pure (#[x]++b.extract 1 b.size++a.extract 0 a.size)
 else do
  let z <-get
  let c <-forIn [:a.size+b.size] ((L,#[x],0,1,gallopOf z):QW) λ_ c=>zkY a b c
  zly c
def zf7(κ:SortKind)(it:Nat->Keyed)(lt:Nat->Nat->Bool)(a b:zZ)(mt:SortSt)(n:Nat)(r:ForInStep zbb)(st:SortSt):Prop:=match r with
 |.done c=>za9 κ it lt a b mt c.1 st\/∃o g d k h,c=(L,hV it o,g,d,k,h)/\AU lt a b o g d/\n<o.length/\wF κ mt st
 |.yield c=>∃o g d k h,c=(L,hV it o,g,d,k,h)/\AU lt a b o g d/\n<o.length/\wF κ mt st
def zf8(κ:SortKind)(it:Nat->Keyed)(lt:Nat->Nat->Bool)(a b:zZ)(mt:SortSt)(n:Nat)(r:ForInStep QW)(st:SortSt):Prop:=match r with
 |.done c=>za9 κ it lt a b mt c.1 st
 |.yield c=>∃o g d mg,c=(L,hV it o,g,d,mg)/\AU lt a b o g d/\n<o.length/\wF κ mt st
theorem zeE{mt st:SortSt}{mg D z c ib:Nat}(S:SO lt N)(y:xC prog w A s κ it lt N)(P:uY lt N a b)(k:wF κ mt st)(W:AU lt a b o c ib) :
  wpS (Bg prog w) A E s (ziW (hV it a) (hV it b) mg (L,hV it o,c,ib,D,z)) (zf7 κ it lt a b mt o.length) st:=by
 have #[m,v,u]:=W;have g:b[ib]?=Y b[ib]:=ba u;have h:a[c]?=Y a[c]:=ba (gG v);generalize b[ib]=xb at g;generalize a[c]=xa at h;have r:=P.nB _ (bA g);have t:=P.nA _ (bA h);have q:=eC (P.dj _ (bA h) _ (bA g));refine bT (yf (y7 g) (bT (yf (y7 h) (bT (Zt y k.k r t q ?_)))));cases e:lt xb xa with
 |true=>
  refine bT (yf (y7 g) ?_);have M2:=m.stB S P h g e;rw[Zs,wf,wf,yW,zW,zW];refine yb (λd=>ca (.inl {_,Z,M2.endB d,k})) λd=>?_;have d:ib+1≠b.length:=yX d;have l:AU lt a b (o++[xb]) c (ib+1):={M2,v,()};exact yb (λ_=>ca (.inr {_,_,_,_,_,Z,l,vY (bq _),k})) λ_=>ca {_,_,_,_,_,Z,l,vY (bq _),k}
 |false=>
  refine bT (yf (y7 h) ?_);have M2:=m.stA S P h g (S.tot _ _ r t q e);rw[Zs,wf,wf,yW,zW,zW];refine yb (λd=>ca (.inl {_,Z,M2.endL P d,k})) λd=>?_;have d:c+1+1≠a.length:=yX d;have l:AU lt a b (o++[xa]) (c+1) ib:={M2,(),u};exact yb (λ_=>ca (.inr {_,_,_,_,_,Z,l,vY (bq _),k})) λ_=>ca {_,_,_,_,_,Z,l,vY (bq _),k}
theorem zbc{mt st:SortSt}{ac bc g ia l n:Nat}(S:SO lt N)(v:xC prog w A s κ it lt N)(P:uY lt N a b)(k:wF κ mt st)(W:AU lt a b o ia l)(J:n<=o.length) :
  wpS (Bg prog w) A E s (zjF (hV it a) (hV it b) (hV it o) ia l ac bc g) (zf6 κ it lt a b mt n) st:=by
 have #[m,O,hb]:=W;refine bT (f7 ?_);have r:wF κ mt (nI (kindOf st) (arrOf st) (pendingOf st) g (failedOf st)):={k.k,k.f,k.a,k.p};have q:b[l]?=Y b[l]:=ba hb;generalize b[l]=xb at q;have I:=bA q;have t:(a.drop ia).take (a.length-ia)=a.drop ia:=b9 (by rw[cq];exact bq _);rw[yW];refine bT (yf (y7 q) (bT (wZ S v r.k (P.nB _ I) (λx c=>?_) ?_ () () λj hj lo M=>?_)))
 .rw[t] at c;exact{P.nA _ (w6 c),P.dj _ (w6 c) _ I}
 .rw[t];exact m.sp
 .rw[t] at M;dsimp only;have nx:ia+j<a.length->∃z,a[ia+j]?=Y z/\lt xb z=U:=λh=>by have g:a[ia+j]?=Y a[ia+j]:=ba h;refine{_,g,M _ ?_};rw[iR,wS g];exact cz _ (gN _)
  refine yb (λz=>?_) λz=>?_
  .rw[jS,lK,zW,K5,wf,zW,zW,zW,zW];have G:AL lt a b (o++(a.drop ia).take j) (a.drop (ia+j)) (b.drop l):=by rw[VT ia j] at m;exact m.left λx c z hz=>jT S P.sb P.nB q (P.nA _ (w6 (cH c))) (lo x c) z hz
   refine yb (λd=>ca (.inl {_,Z,G.endL P d,r})) λd=>yb (λd=>ca (.inl {_,Z,G.end (λx c y hy=>by rw[nV d,m3] at c;cases c),r})) λT=>?_;have d:=yX d;have T:=yX T;have #[z,D,u]:=nx ();exact K7 S v P r G () D q u (by rw[bh];exact bI J (cZ ..))
  .obtain rfl:j=0:=rf z;have #[z,D,u]:=nx (gG O);exact K7 S v P r m O D q u J
theorem zf9{mt st:SortSt}{mg n:Nat}(S:SO lt N)(G:xC prog w A s κ it lt N)(P:uY lt N a b)(h:zf7 κ it lt a b mt n (.done c) st) :
  wpS (Bg prog w) A E s (zkX (hV it a) (hV it b) mg c) (zf8 κ it lt a b mt n) st:=by
 obtain ⟨m,e,r,k⟩|⟨o,ia,ib,ac,bc,rfl,W,hl,k⟩:=h
 .have #[I,c]:=c;subst e;exact ca {m,Z,r,k}
 .refine bT (rX (fZ {Z,?_}));refine bT (fm (dU (λy c st=>zf6 κ it lt a b mt (n+y) (.yield c) st) (Q:=λc st=>zf6 κ it lt a b mt n (.done c) st) (λy c st _ _ h=>?_) (λc st h=>?_) {o,ia,ib,_,ac,bc,Z,W,hl,k}) λc st h=>?_)
  .have #[D,q,l,u,z,v,rfl,t,d,g]:=h;exact fm (yb (λ_=>zbc S G P g t d) λ_=>zbc S G P g t d) λr st h=>by
    cases r with
    |done c=>
     obtain h|⟨o3,ia3,ib3,mg3,ac3,bc3,e,W3,l3,k3⟩:=h
     .exact .inl h
     .exact .inr {o3,ia3,ib3,mg3,ac3,bc3,e,W3,(),k3}
    |yield c=>exact h
  .have #[D,q,l,u,z,v,rfl,t,d,g]:=h;have:=t.len;rw[yW,yW] at d;lia
  .obtain ⟨m,e,r,k⟩|⟨D,q,l,u,z,v,rfl,t,d,g⟩:=h
   .have #[I,c]:=c;subst e;exact ca {m,Z,r,k}
   .exact bT (f7 (ca {D,q,l,_,Z,t,d,g.k,g.f,g.a,g.p}))
theorem zga{mt st:SortSt}{mg t q:Nat}(S:SO lt N)(hc:xC prog w A s κ it lt N)(P:uY lt N a b)(k:wF κ mt st)(W:AU lt a b o t q) :
  wpS (Bg prog w) A E s (zkY (hV it a) (hV it b) (L,hV it o,t,q,mg)) (zf8 κ it lt a b mt o.length) st:=by
 refine bT (fm (dU (λy c st=>∃z t q ac bc,c=(L,hV it z,t,q,ac,bc)/\AU lt a b z t q/\o.length+y<=z.length/\wF κ mt st) (Q:=λc st=>zf7 κ it lt a b mt o.length (.done c) st) (λy c st _ _ h=>?_) (λc st h=>?_) {o,t,q,0,0,Z,W,bq _,k}) λc st h=>zf9 S hc P h)
 .have #[o2,I,G,M,J,rfl,T,u,k2]:=h;refine fm (zeE S hc P k2 T) λr st h=>?_;cases r with
  |done c=>
   obtain h|⟨v,g,d,m,l,e,O,l3,D⟩:=h
   .exact .inl h
   .exact .inr {v,g,d,m,l,e,O,(),D}
  |yield c=>
   have #[v,g,d,m,l,e,O,l3,D]:=h;exact{v,g,d,m,l,e,O,(),D}
 .have #[o2,I,G,M,J,rfl,T,u,k2]:=h;have:=T.len;rw[yW,yW] at u;lia
theorem QY{st:SortSt}{Q:u8->SortSt->Prop}(S:SO lt N)(hc:xC prog w A s κ it lt N)(D:wF κ st st)(P:uY lt N a b)(q:∀m g,WS lt a b m->wF κ st g->Q (hV it m) g) :
  wpS (Bg prog w) A E s (zeB (hV it a) (hV it b)) Q st:=by
 have M:=P.la;have t:=P.lb;show wpS (Bg prog w) A E s (zjG (hV it a) (hV it b)) Q st;refine bT (rX (fZ {Z,?_}));have J:b[0]?=Y (b.getD 0 0):=by rw[bD,ba t];rfl
 refine bT (yf (y7 J) ?_);have M0:AL lt a b [b.getD 0 0] (a.drop 0) (b.drop 1):=by
  have:=AL.start P.sa P.sb;have e:=wS J;rw[dM] at e;have h2:AL lt a b [] (a.drop 0) ([b.getD 0 0]++b.drop 1):=by rw[<-e,dM];exact this
  exact h2.right λx l y T=>by rw[bo.mp l];exact P.hd y T
 have O:(#[it (b.getD 0 0)]:u8)=hV it [b.getD 0 0]:=rfl;rw[O,wf,wf,yW,yW,zW,zW,zW,zW];refine yb (λd=>ca (q _ _ (M0.endB d) D)) λI=>yb (λd=>ca (q _ _ (M0.endL P d) D)) λG=>?_;have I:=yX I;have G:=yX G;refine bT (wpS_get (bT (fm (dU (λx c g=>zf8 κ it lt a b st x (.yield c) g) (Q:=λc g=>za9 κ it lt a b st c.1 g) (λx c g _ _ h=>?_) (λc g h=>?_) {[b.getD 0 0],_,_,_,Z,{M0,(),()},nU,D}) λc g h=>?_)))
 .have #[o,v,u,mg,rfl,W,l,k]:=h;refine fm (zga S hc P k W) λr g h=>?_;cases r with
  |done c=>exact h
  |yield c=>
   have #[o,v,u,mg,e,W,z,k]:=h;exact{o,v,u,mg,e,W,bM l z,k}
 .have #[o,v,u,mg,rfl,W,l,k]:=h;have:=W.len;lia
 .have #[m,e,r,k]:=h;have #[r1,c]:=c;subst e;exact ca (q m g r k)
end
structure AK(lt:Nat->Nat->Bool)(a b o P Q:zZ):Prop where
 so:o.Pairwise λx y=>lt x y=U
 pe:(P++Q++o).Perm (a++b)
 be:∀x∈P++Q,∀y∈o,lt x y=U
 sp:P.Pairwise λx y=>lt x y=U
 sq:Q.Pairwise λx y=>lt x y=U
section
variable {lt:Nat->Nat->Bool}{o P c:zZ}
theorem AK.left(h:AK lt a b o (P++c) Q)(k:∀x∈c,∀y∈Q,lt y x=U):AK lt a b (c++o) P Q:=by
 have sp:=bW.mp h.sp;refine{bW.mpr {sp.2.1,h.so,λx hx y hy=>h.be x (by simp[hx]) y hy},?_,λx hx y hy=>?_,sp.1,h.sq}
 .refine dy ?_ h.pe;rw[<-b6,b6 P Q c,b6 P c Q];exact fW _ (iB _ fE)
 .obtain hy|hy:=bp.mp hy
  .obtain hx|hx:=bp.mp hx
   .exact sp.2.2 x hx y hy
   .exact k y hy x hx
  .exact h.be x (by obtain hx|hx:=bp.mp hx <;> simp[hx]) y hy
theorem AK.right(h:AK lt a b o P (Q++c))(k:∀x∈c,∀y∈P,lt y x=U):AK lt a b (c++o) P Q:=by
 have sq:=bW.mp h.sq;refine{bW.mpr {sq.2.1,h.so,λx hx y hy=>h.be x (by simp[hx]) y hy},?_,λx hx y hy=>?_,h.sp,sq.1}
 .have:=h.pe;simpa[b6] using this
 .obtain hy|hy:=bp.mp hy
  .obtain hx|hx:=bp.mp hx
   .exact k y hy x hx
   .exact sq.2.2 x hx y hy
  .exact h.be x (by obtain hx|hx:=bp.mp hx <;> simp[hx]) y hy
theorem AK.len(h:AK lt a b o P Q):o.length+P.length+Q.length=a.length+b.length:=by have:=h.pe.length_eq;simp only[bh] at this;lia
def AK.end(h:AK lt a b o P Q)(k:∀x∈P,∀y∈Q,lt x y=U):WS lt a b (P++Q++o):=
 {h.pe,bW.mpr {bW.mpr {h.sp,h.sq,k},h.so,h.be}}
theorem AK.end'(h:AK lt a b o P Q)(k:∀x∈Q,∀y∈P,lt x y=U):WS lt a b (Q++P++o):=
 {dy (fW _ fE) h.pe,bW.mpr {bW.mpr {h.sq,h.sp,k},h.so,λx hx y d=>h.be x (by obtain hx|hx:=bp.mp hx <;> simp[hx]) y d}}
theorem AK.start(g:a.Pairwise λx y=>lt x y=U)(d:b.Pairwise λx y=>lt x y=U):AK lt a b [] a b:={.nil,by simp,(λx _ y h=>nomatch h),g,d}
def wT{l:zZ}{i x:Nat}(h:l[i]?=Y x):l.take (i+1)=l.take i++[x]:=by rw[cI,h];rfl
def VU{l:zZ}(h:i<=j):l.take j=l.take i++(l.take j).drop i:=by
 have:=(cB i (l.take j)).symm
 rwa [List.take_take,dq h] at this
def va{l:zZ}{i x:Nat}(h:x∈l.take i):x∈l:=cH h
end
theorem vF(p:zZ)(i:Nat):(hV it p).extract 0 i=hV it (p.take i):=by rw[jS];simp
theorem zdB(p:zZ):(hV it p).reverse=hV it p.reverse:=by simp[hV]
theorem Vj(p:zZ)(x:Nat):(hV it p.reverse).push (it x)=hV it ([x]++p).reverse:=by rw[Zs];simp
def zdC{p:zZ}(h:i<=j):(hV it p).extract i j=hV it ((p.take j).drop i):=by rw[jS];congr 1;rw[List.drop_take]
theorem zbd(p c:zZ):hV it p.reverse++(hV it c).reverse=hV it (c++p).reverse:=by rw[zdB,zW];simp
section
variable {w:av}{lt:Nat->Nat->Bool}
theorem jU(S:SO lt N){l:zZ}{i x y:Nat}(q:l.Pairwise λx y=>lt x y=U)(g:∀x∈l,x<N)(c:l[i]?=Y x)(m:y<N)(h:lt x y=U):∀z∈l.take (i+1),lt z y=U:=by
 intro z hz;rw[wT c] at hz;obtain hz|hz:=bp.mp hz
 .have o:=bA c;refine S.trans z x y (g z (va hz)) (g x o) m ?_ h;have #[k,d]:=cE hz;have u:=(bd.mp d).1;rw[bX] at u;rw[fI ()] at d;have #[t,D]:=bd.mp c;have #[r,v]:=bd.mp d;have:=dC.mp q k i r t ();rw[D,v] at this;exact this
 .rw[bo.mp hz];exact h
def uY.first(P:uY lt N a b) :∀x∈b.take 1,∀y∈a.take na,lt x y=U:=by
 intro x d y h;have e:b.take 1=[b.getD 0 0]:=by have c:=P.lb;have g:b[0]?=Y b[0]:=ba c;have t:=wT g;rw[t,bD,g];rfl
 rw[e,bo] at d;rw[d];exact P.hd y (va h)
structure Ao(lt:Nat->Nat->Bool)(a b o:zZ)(na nb:Nat):Prop where
 m:AK lt a b o (a.take na) (b.take nb)
 ha:0<na
 la:na<=a.length
 hb:1<nb
 lb:nb<=b.length
theorem Ao.len(W:Ao lt a b o na nb):o.length<a.length+b.length:=by have:=W.m.len;have h:=W.ha;have g:=W.hb;have d:=W.la;have c:=W.lb;rw[bX,bX] at this;lia
abbrev zbe:=Option u8×Nat×Nat×u8×Nat×Nat×Nat
def zgb(a b:u8)(mg k h:Nat)(d g:Nat)(c:u8):Ag (ForInStep zbe):=do
 let x <-elem' a (d-1)
 if (d-1==0)=U then pure (.done (Y (a.extract 0 (d-1)++b.extract 0 g++(c.push x).reverse),d-1,g,c.push x,mg,k,h))
 else if (decide (k<7)&&decide (h<7))=U then pure (.done (L,d-1,g,c.push x,mg,k,h))
 else pure (.yield (L,d-1,g,c.push x,mg,k,h))
def zgc(a b:u8)(mg h l:Nat)(g d:Nat)(c:u8):Ag (ForInStep zbe):=do
 let x <-elem' b (d-1)
 if (d-1==1)=U then pure (.done (Y (b.extract 0 (d-1)++a.extract 0 g++(c.push x).reverse),g,d-1,c.push x,mg,h,l))
 else do
  let y <-elem' a (g-1)
  match <-kT U y b 0 (d-1) (d-1-1) with
  |some k=>if d-1-k > 0 then (if (k==1)=U then pure (.done (Y (b.extract 0 k++a.extract 0 g++(c.push x++(b.extract k (d-1)).reverse).reverse),g,k,c.push x++(b.extract k (d-1)).reverse,mg,h,d-1-k)) else if (k==0)=U then pure (.done (Y (a.extract 0 g++b.extract 0 k++(c.push x++(b.extract k (d-1)).reverse).reverse),g,k,c.push x++(b.extract k (d-1)).reverse,mg,h,d-1-k)) else zgb a b mg h (d-1-k) g k (c.push x++(b.extract k (d-1)).reverse)) else zgb a b mg h (d-1-k) g (d-1) (c.push x)
  |_=>pure (.done (Y (a.extract 0 g++b.extract 0 (d-1)++(c.push x).reverse),g,d-1,c.push x,mg,h,l))
def zcB(κ:SortKind)(it:Nat->Keyed)(lt:Nat->Nat->Bool)(a b:zZ)(mt:SortSt)(n:Nat)(r:ForInStep zbe)(st:SortSt):Prop:=match r with
 |.done c=>za9 κ it lt a b mt c.1 st\/∃o g d mg k h,c=(L,g,d,hV it o.reverse,mg,k,h)/\Ao lt a b o g d/\n<o.length/\wF κ mt st
 |.yield c=>∃o g d mg k h,c=(L,g,d,hV it o.reverse,mg,k,h)/\Ao lt a b o g d/\n<o.length/\wF κ mt st
def VV(o:zZ):(hV it o.reverse).reverse=hV it o:=by rw[zdB,se]
def AK.stA(S:SO lt N)(P:uY lt N a b)(m:AK lt a b o (a.take na) (b.take nb))(k:0<na)(h:1<nb)(c:a[na-1]?=Y xa)(l:b[nb-1]?=Y xb)(e:lt xb xa=U):AK lt a b ([xa]++o) (a.take (na-1)) (b.take nb):=by have t:=wT c;have u:=jU S P.sb P.nB l (P.nA _ (bA c)) e;rw[eA k] at t;rw[eA (cS h)] at u;rw[t] at m;exact m.left λx g z d=>by rw[bo.mp g];exact u z d
def AK.stB(S:SO lt N)(P:uY lt N a b)(m:AK lt a b o (a.take na) (b.take nb))(k:0<na)(h:1<nb)(l:a[na-1]?=Y xa)(c:b[nb-1]?=Y xb)(e:lt xa xb=U):AK lt a b ([xb]++o) (a.take na) (b.take (nb-1)):=by have t:=wT c;have u:=jU S P.sa P.nA l (P.nB _ (bA c)) e;rw[eA (cS h)] at t;rw[eA k] at u;rw[t] at m;exact m.right λx g z d=>by rw[bo.mp g];exact u z d
def AK.endZ(m:AK lt a b o (a.take na) (b.take nb))(e:(na==0)=U):WS lt a b (a.take na++b.take nb++o):=m.end λx c y d=>by rw[nV e,oE] at c;cases c
def AK.endF(P:uY lt N a b)(m:AK lt a b o (a.take na) (b.take nb))(e:(nb==1)=U):WS lt a b (b.take nb++a.take na++o):=m.end' (by rw[nV e];exact P.first)
def K8{mt st:SortSt}{mg G D c nb n g h:Nat}(S:SO lt N)(P:uY lt N a b)(k:wF κ mt st)(m:AK lt a b o (a.take c) (b.take nb))(y:0<c)(v:c<=a.length)(q:1<nb)(u:nb<=b.length)(r:a[c-1]?=Y g)(z:b[nb-1]?=Y h)(e:lt h g=U)(l:n<=o.length) :
  wpS (Bg prog w) A E s (zgb (hV it a) (hV it b) mg G D c nb (hV it o.reverse)) (zcB κ it lt a b mt n) st:=by refine bT (yf (y7 r) ?_);have M2:=m.stA S P y q r z e;rw[Vj,VV,vF,vF,zW,zW];refine yb (λd=>ca (.inl {_,Z,M2.endZ d,k})) λd=>?_;have t:Ao lt a b ([g]++o) (c-1) nb:={M2,wj d,bI (iJ ..) v,q,u};exact yb (λ_=>ca (.inr {_,_,_,_,_,_,Z,t,eO l,k})) λ_=>ca {_,_,_,_,_,_,Z,t,eO l,k}
theorem K9{mt st:SortSt}{mg ac bc l c n G D:Nat}(S:SO lt N)(hc:xC prog w A s κ it lt N)(P:uY lt N a b)(k:wF κ mt st)(m:AK lt a b o (a.take l) (b.take c))(v:0<l)(la:l<=a.length)(hb:1<c)(lb:c<=b.length)(r:a[l-1]?=Y G)(gb:b[c-1]?=Y D)(e:lt G D=U)(hn:n<=o.length) :
  wpS (Bg prog w) A E s (zgc (hV it a) (hV it b) mg ac bc l c (hV it o.reverse)) (zcB κ it lt a b mt n) st:=by
 have T:=bA r;refine bT (yf (y7 gb) ?_);have M2:=m.stB S P v hb r gb e;rw[Vj,VV,vF,vF,zW,zW];refine yb (λd=>ca (.inl {_,Z,M2.endF P d,k})) λd=>?_;have d:=yX d;refine bT (yf (y7 r) (bT (wZ S hc k.k (P.nA _ T) (λx q=>?_) ?_ () () λj hj lo hi=>?_)))
 .rw[dM] at q;exact{P.nB _ (va q),eC (P.dj _ T _ (va q))}
 .rw[dM];exact M2.sq
 .rw[dM] at lo hi;dsimp only;rw[vF,zdC hj,zbd,VV,zW,zW,zW,zW];have nx:0<j->∃y,b[j-1]?=Y y/\lt y G=U:=λh=>by have g:b[j-1]?=Y b[j-1]:=ba ();refine{b[j-1],g,lo _ ?_};have t:=wT g;rw[eA h] at t;rw[t];exact bQ _ (gN _)
  refine yb (λz=>?_) λz=>?_
  .have O:AK lt a b ((b.take (c-1)).drop j++([D]++o)) (a.take l) (b.take j):=by rw[VU hj] at M2;refine M2.right λx q z hz=>?_;have u:=jU S P.sa P.nA r (P.nB _ (va (cF q))) (hi x q);rw[eA v] at u;exact u z hz
   refine yb (λd=>ca (.inl {_,Z,O.endF P d,k})) λd2=>yb (λd=>ca (.inl {_,Z,O.end (λx _ y hy=>by rw[nV d,oE] at hy;cases hy),k})) λM=>?_;have d2:=yX d2;have M:=wj M;have #[y,J,I]:=nx M;exact K8 S P k O v la () () r J I (by rw[bh];exact bI (cy hn) (Nat.le_add_left ..))
  .obtain rfl:j=c-1:=by lia
   have #[y,J,I]:=nx ();exact K8 S P k M2 v la () () r J I (cy hn)
abbrev zbf:=Option u8×Nat×Nat×u8×Nat×Nat
abbrev QZ:=Option u8×Nat×Nat×u8×Nat
def zkZ(a b:u8)(mg h d g:Nat)(c:u8):Ag (ForInStep zbf):=do
 let x <-elem' a (d-1)
 if (d-1==0)=U then pure (.done (Y (a.extract 0 (d-1)++b.extract 0 g++(c.push x).reverse),d-1,g,c.push x,h+1,0))
 else if h+1 >= mg then pure (.done (L,d-1,g,c.push x,h+1,0)) else pure (.yield (L,d-1,g,c.push x,h+1,0))
def zk0(a b:u8)(mg h g d:Nat)(c:u8):Ag (ForInStep zbf):=do
 let x <-elem' b (d-1)
 if (d-1==1)=U then pure (.done (Y (b.extract 0 (d-1)++a.extract 0 g++(c.push x).reverse),g,d-1,c.push x,0,h+1))
 else if h+1 >= mg then pure (.done (L,g,d-1,c.push x,0,h+1)) else pure (.yield (L,g,d-1,c.push x,0,h+1))
def ziX(a b:u8)(mg:Nat)(z:zbf):Ag (ForInStep zbf):=do
 let y <-elem' b (z.2.2.1-1)
 let x <-elem' a (z.2.1-1)
 match <-lt' y x with
 |some w=>if w=U then zkZ a b mg z.2.2.2.2.1 z.2.1 z.2.2.1 z.2.2.2.1 else zk0 a b mg z.2.2.2.2.2 z.2.1 z.2.2.1 z.2.2.2.1
 |_=>pure (.done (Y (a.extract 0 z.2.1++b.extract 0 z.2.2.1++z.2.2.2.1.reverse),z.2))
def zjH(a b:u8)(d h:Nat)(c:u8)(m l g:Nat):Ag (ForInStep zbe):=do
 Vi g
 let u <-elem' b (h-1)
 match <-kT am u a 0 d (d-1) with
 |some k=>if d-k > 0 then (if (k==0)=U then pure (.done (Y (a.extract 0 k++b.extract 0 h++(c++(a.extract k d).reverse).reverse),k,h,c++(a.extract k d).reverse,g,d-k,l)) else zgc a b g (d-k) l k h (c++(a.extract k d).reverse)) else zgc a b g (d-k) l d h c
 |_=>pure (.done (Y (a.extract 0 d++b.extract 0 h++c.reverse),d,h,c,g,m,l))
def zk1(a b:u8)(z:zbe):Ag (ForInStep zbe):=if z.2.2.2.2.1 > 1 then zjH a b z.2.1 z.2.2.1 z.2.2.2.1 z.2.2.2.2.2.1 z.2.2.2.2.2.2 (z.2.2.2.2.1-1) else zjH a b z.2.1 z.2.2.1 z.2.2.2.1 z.2.2.2.2.2.1 z.2.2.2.2.2.2 z.2.2.2.2.1
def zlz(c:zbe):Ag (ForInStep QZ):=gh (λ_=>Ag (ForInStep QZ)) c.1 (λr=>pure (.done (Y r,c.2.1,c.2.2.1,c.2.2.2.1,c.2.2.2.2.1))) λ_=>do
 Vi (c.2.2.2.2.1+1)
 pure (.yield (L,c.2.1,c.2.2.1,c.2.2.2.1,c.2.2.2.2.1+1))
def zk2(a b:u8)(mg:Nat)(c:zbf):Ag (ForInStep QZ):=gh (λ_=>Ag (ForInStep QZ)) c.1 (λr=>pure (.done (Y r,c.2.1,c.2.2.1,c.2.2.2.1,mg))) λ_=>do
 liftM (tT "list.sort.gallop")
 let z <-forIn [:a.size+b.size] ((L,c.2.1,c.2.2.1,c.2.2.2.1,mg+1,c.2.2.2.2):zbe) λ_ z=>zk1 a b z
 zlz z
def zk3(a b:u8)(c:QZ):Ag (ForInStep QZ):=do
 let z <-forIn [:a.size+b.size] ((L,c.2.1,c.2.2.1,c.2.2.2.1,0,0):zbf) λ_ z=>ziX a b c.2.2.2.2 z
 zk2 a b c.2.2.2.2 z
def zlA(c:QZ):Ag u8:=gh (λ_=>Ag u8) c.1 (λr=>pure r) λ_=>liftM (tU "internal:list.sort.merge-bound")
def zjI(a b:u8):Ag u8:=do
 liftM (tT "list.sort.merge-hi")
 let x <-elem' a (a.size-1)
 if (a.size-1==0)=U then pure (a.extract 0 (a.size-1)++b.extract 0 b.size ++ #[x].reverse)
 else if (b.size==1)=U then pure (b.extract 0 b.size++a.extract 0 (a.size-1) ++ #[x].reverse)
 else do
  let z <-get
  let c <-forIn [:a.size+b.size] ((L,a.size-1,b.size,#[x],gallopOf z):QZ) λ_ c=>zk3 a b c
  zlA c
def zgd(κ:SortKind)(it:Nat->Keyed)(lt:Nat->Nat->Bool)(a b:zZ)(mt:SortSt)(n:Nat)(r:ForInStep zbf)(st:SortSt):Prop:=match r with
 |.done c=>za9 κ it lt a b mt c.1 st\/∃o g d k h,c=(L,g,d,hV it o.reverse,k,h)/\Ao lt a b o g d/\n<o.length/\wF κ mt st
 |.yield c=>∃o g d k h,c=(L,g,d,hV it o.reverse,k,h)/\Ao lt a b o g d/\n<o.length/\wF κ mt st
def zge(κ:SortKind)(it:Nat->Keyed)(lt:Nat->Nat->Bool)(a b:zZ)(mt:SortSt)(n:Nat)(r:ForInStep QZ)(st:SortSt):Prop:=match r with
 |.done c=>za9 κ it lt a b mt c.1 st
 |.yield c=>∃o g d mg,c=(L,g,d,hV it o.reverse,mg)/\Ao lt a b o g d/\n<o.length/\wF κ mt st
theorem zeF{mt st:SortSt}{mg I G c nb:Nat}(S:SO lt N)(D:xC prog w A s κ it lt N)(P:uY lt N a b)(k:wF κ mt st)(W:Ao lt a b o c nb) :
  wpS (Bg prog w) A E s (ziX (hV it a) (hV it b) mg (L,c,nb,hV it o.reverse,I,G)) (zgd κ it lt a b mt o.length) st:=by
 have #[m,r,y,q,z]:=W;have g:b[nb-1]?=Y b[nb-1]:=ba ();have h:a[c-1]?=Y a[c-1]:=ba ();generalize b[nb-1]=xb at g;generalize a[c-1]=xa at h;have u:=P.nB _ (bA g);have v:=P.nA _ (bA h);have t:=eC (P.dj _ (bA h) _ (bA g));refine bT (yf (y7 g) (bT (yf (y7 h) (bT (Zt D k.k u v t ?_)))));cases e:lt xb xa with
 |true=>
  refine bT (yf (y7 h) ?_);have M2:=m.stA S P r q h g e;rw[Vj,VV,vF,vF,zW,zW];refine yb (λd=>ca (.inl {_,Z,M2.endZ d,k})) λd=>?_;have l:Ao lt a b ([xa]++o) (c-1) nb:={M2,wj d,bI (iJ ..) y,q,z};exact yb (λ_=>ca (.inr {_,_,_,_,_,Z,l,dX _,k})) λ_=>ca {_,_,_,_,_,Z,l,dX _,k}
 |false=>
  refine bT (yf (y7 g) ?_);have M2:=m.stB S P r q h g (S.tot _ _ u v t e);rw[Vj,VV,vF,vF,zW,zW];refine yb (λd=>ca (.inl {_,Z,M2.endF P d,k})) λd=>?_;have d:nb-1≠1:=yX d;have l:Ao lt a b ([xb]++o) c (nb-1):={M2,r,y,(),()};exact yb (λ_=>ca (.inr {_,_,_,_,_,Z,l,dX _,k})) λ_=>ca {_,_,_,_,_,Z,l,dX _,k}
theorem zbg{mt st:SortSt}{ac bc g na c n:Nat}(S:SO lt N)(y:xC prog w A s κ it lt N)(P:uY lt N a b)(k:wF κ mt st)(W:Ao lt a b o na c)(hn:n<=o.length) :
  wpS (Bg prog w) A E s (zjH (hV it a) (hV it b) na c (hV it o.reverse) ac bc g) (zcB κ it lt a b mt n) st:=by
 have #[m,T,la,D,J]:=W;refine bT (f7 ?_);have r:wF κ mt (nI (kindOf st) (arrOf st) (pendingOf st) g (failedOf st)):={k.k,k.f,k.a,k.p};have q:b[c-1]?=Y b[c-1]:=ba ();generalize b[c-1]=xb at q;have I:=bA q;refine bT (yf (y7 q) ?_);refine bT (wZ S y r.k (P.nB _ I) (λx l=>?_) ?_ () () λj M lo O=>?_)
 .rw[dM] at l;exact{P.nA _ (va l),P.dj _ (va l) _ I}
 .rw[dM];exact m.sp
 .rw[dM] at lo O;dsimp only;rw[zdC M,zbd,VV,vF,vF,zW,zW];have nx:0<j->∃z,a[j-1]?=Y z/\lt z xb=U:=λh=>by have g:a[j-1]?=Y a[j-1]:=ba ();refine{a[j-1],g,lo _ ?_};have t:=wT g;rw[eA h] at t;rw[t];exact bQ _ (gN _)
  refine yb (λz=>?_) λz=>?_
  .have M3:AK lt a b ((a.take na).drop j++o) (a.take j) (b.take c):=by rw[VU M] at m;refine m.left λx l z hz=>?_;have u:=jU S P.sb P.nB q (P.nA _ (va (cF l))) (O x l);rw[eA (cS D)] at u;exact u z hz
   refine yb (λd=>ca (.inl {_,Z,M3.endZ d,r})) λd=>?_;have d:=wj d;have #[z,G,v]:=nx d;exact K9 S y P r M3 d () D J G q v (by rw[bh];lia)
  .obtain rfl:j=na:=by lia
   have #[z,G,v]:=nx T;exact K9 S y P r m T la D J G q v hn
theorem zgf{mt st:SortSt}{mg n:Nat}(S:SO lt N)(I:xC prog w A s κ it lt N)(P:uY lt N a b)(h:zgd κ it lt a b mt n (.done c) st) :
  wpS (Bg prog w) A E s (zk2 (hV it a) (hV it b) mg c) (zge κ it lt a b mt n) st:=by
 obtain ⟨m,e,r,k⟩|⟨o,na,nb,ac,bc,rfl,W,hl,k⟩:=h
 .have #[J,c]:=c;subst e;exact ca {m,Z,r,k}
 .refine bT (rX (fZ {Z,?_}));refine bT (fm (dU (λy c st=>zcB κ it lt a b mt (n+y) (.yield c) st) (Q:=λc st=>zcB κ it lt a b mt n (.done c) st) (λy c st _ _ h=>?_) (λc st h=>?_) {o,na,nb,_,ac,bc,Z,W,hl,k}) λc st h=>?_)
  .have #[D,q,l,u,z,v,rfl,t,d,g]:=h;have G:∀c st,zcB κ it lt a b mt (n+y+1) (.done c) st->zcB κ it lt a b mt n (.done c) st:=λc st h=>by
    obtain h|⟨o3,na3,nb3,mg3,ac3,bc3,e,W3,l3,k3⟩:=h
    .exact .inl h
    .exact .inr {o3,na3,nb3,mg3,ac3,bc3,e,W3,(),k3}
   exact fm (yb (λ_=>zbg S I P g t d) λ_=>zbg S I P g t d) λr st h=>by
    cases r with
    |done c=>exact G c st h
    |yield c=>exact h
  .have #[D,q,l,u,z,v,rfl,t,d,g]:=h;have:=t.len;rw[yW,yW] at d;lia
  .obtain ⟨m,e,r,k⟩|⟨D,q,l,u,z,v,rfl,t,d,g⟩:=h
   .have #[J,c]:=c;subst e;exact ca {m,Z,r,k}
   .exact bT (f7 (ca {D,q,l,_,Z,t,d,g.k,g.f,g.a,g.p}))
theorem zgg{mt st:SortSt}{mg t q:Nat}(S:SO lt N)(hc:xC prog w A s κ it lt N)(P:uY lt N a b)(k:wF κ mt st)(W:Ao lt a b o t q) :
  wpS (Bg prog w) A E s (zk3 (hV it a) (hV it b) (L,t,q,hV it o.reverse,mg)) (zge κ it lt a b mt o.length) st:=by
 refine bT (fm (dU (λy c st=>∃z t q ac bc,c=(L,t,q,hV it z.reverse,ac,bc)/\Ao lt a b z t q/\o.length+y<=z.length/\wF κ mt st) (Q:=λc st=>zgd κ it lt a b mt o.length (.done c) st) (λy c st _ _ h=>?_) (λc st h=>?_) {o,t,q,0,0,Z,W,bq _,k}) λc st h=>zgf S hc P h)
 .have #[o2,G,D,M,J,rfl,T,u,k2]:=h;refine fm (zeF S hc P k2 T) λr st h=>?_;cases r with
  |done c=>
   obtain h|⟨v,g,d,m,l,e,O,l3,I⟩:=h
   .exact .inl h
   .exact .inr {v,g,d,m,l,e,O,(),I}
  |yield c=>
   have #[v,g,d,m,l,e,O,l3,I]:=h;exact{v,g,d,m,l,e,O,(),I}
 .have #[o2,G,D,M,J,rfl,T,u,k2]:=h;have:=T.len;rw[yW,yW] at u;lia
theorem Q5{st:SortSt}{Q:u8->SortSt->Prop}(S:SO lt N)(hc:xC prog w A s κ it lt N)(G:wF κ st st)(P:uY lt N a b)(q:∀m g,WS lt a b m->wF κ st g->Q (hV it m) g) :
  wpS (Bg prog w) A E s (zeC (hV it a) (hV it b)) Q st:=by
 have u:=P.la;have O:=P.lb;show wpS (Bg prog w) A E s (zjI (hV it a) (hV it b)) Q st;refine bT (rX (fZ {Z,?_}));rw[yW,yW];have M:a[a.length-1]?=Y (a.getD (a.length-1) 0):=by rw[bD,ba ()];rfl
 refine bT (yf (y7 M) ?_);have M0:AK lt a b [a.getD (a.length-1) 0] (a.take (a.length-1)) (b.take b.length):=by
  have:=AK.start P.sa P.sb;have t:=wT M;rw[eA u,cU] at t;have h2:AK lt a b [] (a.take (a.length-1)++[a.getD (a.length-1) 0]) b:=by rw[<-t];exact this
  rw[cU];exact h2.left λx l y hy=>by rw[bo.mp l];exact P.tl y hy
 have T:(#[it (a.getD (a.length-1) 0)]:u8)=hV it [a.getD (a.length-1) 0].reverse:=rfl;rw[T,vF,vF,VV,zW,zW,zW,zW];refine yb (λd=>ca (q _ _ (M0.endZ d) G)) λI=>yb (λd=>ca (q _ _ (M0.endF P d) G)) λJ=>?_;have I:=wj I;have J:=yX J;refine bT (wpS_get (bT (fm (dU (λx c g=>zge κ it lt a b st x (.yield c) g) (Q:=λc g=>za9 κ it lt a b st c.1 g) (λx c g _ _ h=>?_) (λc g h=>?_) {[a.getD (a.length-1) 0],_,_,_,Z,{M0,I,(),(),()},nU,G}) λc g h=>?_)))
 .have #[o,z,v,mg,rfl,W,l,k]:=h;refine fm (zgg S hc P k W) λr g h=>?_;cases r with
  |done c=>exact h
  |yield c=>
   have #[o,z,v,mg,e,W,D,k]:=h;exact{o,z,v,mg,e,W,bM l D,k}
 .have #[o,z,v,mg,rfl,W,l,k]:=h;have:=W.len;lia
 .have #[m,e,r,k]:=h;have #[r1,c]:=c;subst e;exact ca (q m g r k)
end
section
variable {w:av}{lt:Nat->Nat->Bool}
def vh(lt:Nat->Nat->Bool)(p:AN)(lo m:Nat):Prop:=∀i j,i<j->j<m->lt (gt p (lo+i)) (gt p (lo+j))=U
structure SAZ(κ:SortKind)(it:Nat->Keyed)(N:Nat)(p:AN)(st:SortSt):Prop where
 k:kindOf st=κ
 f:failedOf st=L
 a:arrOf st=p.map it
 pp:PP N p
def SAZ.set{p c:AN}{st:SortSt}(h:SAZ κ it N p st)(d:PP N c):SAZ κ it N c (setArr st (c.map it)):={h.k,h.f,Z,d}
theorem Vk{st:SortSt}{p:AN}{Q:Option Bool->SortSt->Prop}(k:xC prog w A s κ it lt N)(h:SAZ κ it N p st)(g:i<N)(d:j<N)(c:i≠j)(q:Q (Y (lt (gt p i) (gt p j))) st):wpS (Bg prog w) A E s (ltAt' i j) Q st:=by
 rw[ltAt'_eq];refine bT (wpS_get ?_);have o:=h.pp.size;have m:(arrOf st)[i]?=Y (it (gt p i)):=by rw[h.a,tw,vX ()];rfl
 have l:(arrOf st)[j]?=Y (it (gt p j)):=by rw[h.a,tw,vX ()];rfl
 exact bT (yf m (bT (yf l (Zt k h.k (h.pp.blt g) (h.pp.blt d) (λz=>c (h.pp.inj g d z)) q))))
def VW{st:SortSt}{p:AN}{Q:Option Bool->SortSt->Prop}(d:xC prog w A s κ it lt N)(h:SAZ κ it N p st)(g:1<=k)(c:k<N)(q:Q (Y (lt (gt p k) (gt p (k-1)))) st):wpS (Bg prog w) A E s (ltAt' k (k-1)) Q st:=
 Vk d h c (bM (iJ ..) c) (eM (Nat.sub_lt g Nat.one_pos)) q
def zdD(S:SO lt N){p:AN}(g:PP N p)(d:k+1<N)(c:lt (gt p (k+1)) (gt p k)=am):lt (gt p k) (gt p (k+1))=U:=
 S.tot _ _ (g.blt d) (g.blt (gG d)) (λz=>Nat.succ_ne_self k (g.inj d (gG d) z)) c
def VX(S:SO lt N){p:AN}{lo m:Nat}(l:PP N p)(h:vh lt p lo m)(t:1<=m)(o:lo+m<N)(c:lt (gt p (lo+m)) (gt p (lo+m-1))=am):vh lt p lo (m+1):=by
 have #[k,rfl]:=dF t;have b:∀i,i<=k+1->gt p (lo+i)<N:=λi r=>l.blt (bM (c8 r lo) o);have g:lt (gt p (lo+k)) (gt p (lo+(k+1)))=U:=zdD S l o c;intro i j d q;obtain e|rfl:=lL (cN q)
 .exact h i j d e
 .obtain e|rfl:=lL (cN d)
  .exact S.trans _ (gt p (lo+k)) _ (b i (cy (cS e))) (b k (pB k)) (b _ (bq _)) (h i k e (dX k)) g
  .exact g
def zbh(p:AN)(i j d:Nat):mirror (p.map it) i j d=(mirror p i j d).map it:=kas_swaps_map it (λk=>i+k) (λk=>j-1-k) _ p
def zbi(p:AN)(i d:Nat):bubble (p.map it) i d=(bubble p i d).map it:=kas_swaps_map it (λk=>i-k) (λk=>i-k-1) _ p
def zhN{p:AN}(h:j<=p.size)(g:k<p.size):gt (mirror p i j ((j-i)/2)) k=if i<=k/\k<j then gt p (i+j-1-k) else gt p k:=by
 have e:=getElem?_mirror_all (xs:=p) (i:=i) (j:=j) h k;have d:=vX (p:=mirror p i j ((j-i)/2)) (k:=k) (by rw[mirror_size];exact g);rw[e] at d;by_cases c:i<=k/\k<j
 .rw[ao c] at d ⊢;rw[vX (bM (bI (sO c.1 _) (eX (by rw[tV (iU c.2),lK]))) (bH (Nat.sub_lt (Nat.zero_lt_of_lt c.2) Nat.one_pos) h))] at d;exact(bU d).symm
 .rw[ak c] at d ⊢;rw[vX g] at d;exact(bU d).symm
theorem zcC{st:SortSt}{p:AN}{lo nrem:Nat}{Q:Option Nat->SortSt->Prop}(S:SO lt N)(T:xC prog w A s κ it lt N)(h:SAZ κ it N p st)(h1:1<=nrem)(h2:lo+nrem<=N)(q:∀m l,1<=m->m<=nrem->SAZ κ it N l (setArr st (l.map it))->(∀i,i<lo->gt l i=gt p i)->vh lt l lo m->Q (Y m) (setArr st (l.map it))) :
  wpS (Bg prog w) A E s (countRun' lo nrem) Q st:=by
 have mt:setArr st (p.map it)=st:=by rw[<-h.a]
 have v:∀ {x},x<nrem->lo+x<N:=λt=>bH (dA t lo) h2;have q0:∀m,1<=m->m<=nrem->vh lt p lo m->Q (Y m) st:=λm I G r=>by
  have:=q m p I G (h.set h.pp) (λ_ _=>rfl) r
  rwa [mt] at this
 refine bT (fm (dU (λx c d=>st=d/\c=(L,x)/\vh lt p lo x) (Q:=λc d=>st=d/\∃m,c=(L,m)/\1<=m/\m<=nrem/\vh lt p lo m/\(m<nrem->lt (gt p (lo+m)) (gt p (lo+m-1))=U)) ?step ?fin {Z,Z,λi j g J=>absurd (bH g (cN J)) (rM i)}) ?post)
 case step=>
  rintro x c d o t ⟨rfl,rfl,r⟩;dsimp only;refine bT (VW T h (mL o) (v t) ?_);dsimp only;cases e:lt (gt p (lo+x)) (gt p (lo+x-1)) with
  |true=>
   rw[ao rfl];exact ca {Z,x,Z,o,cS t,r,λ_=>e}
  |false=>
   rw[ak ()];exact ca {Z,Z,VX S h.pp r o (v t) e}
 case fin=>
  rintro c d ⟨rfl,rfl,r⟩;exact{Z,_,Z,rN ..,eX (iT h1),r,λz=>absurd z (mZ (uk ..))}
 case post=>
  rintro c d ⟨rfl,m,rfl,I,G,r,tn⟩;dsimp only;by_cases D:(m==nrem)=U
  .rw[ao D];exact ca (q0 m I G r)
  .rw[ak D];have D:m<nrem:=lJ G λz=>D (beq_iff_eq.2 z);by_cases c2:m > 1
   .rw[ao c2];have #[k,rfl]:=dF c2;refine bT (Vk (i:=lo) (j:=lo+(k+1)) T h (bM (cZ ..) (v D)) (gG (v D)) (b8 (Nat.lt_add_of_pos_right (mM k))) ?_);dsimp only;rw[show lt (gt p lo) (gt p (lo+(k+1)))=U from r 0 (k+1) (mM k) (dX _),ao rfl];exact ca (q0 _ I G r)
   .rw[ak c2];obtain rfl:=lF (pQ c2) I;have dn:=tn D;refine bT (rX (fZ {Z,?_}))
    refine bT (fm (dU (λx c d=>st=d/\c=(L,x,0)/\∀i j,i<j->j<x->lt (gt p (lo+j)) (gt p (lo+i))=U) (Q:=λc d=>st=d/\∃x,c=(L,x,0)/\2<=x/\x<=nrem/\∀i j,i<j->j<x->lt (gt p (lo+j)) (gt p (lo+i))=U) ?step2 ?fin2 {Z,Z,λi j g J=>(by obtain rfl:=lF (cN J) (bM (cf i) g);obtain rfl:=pL.1 (cN g);exact dn)}) ?post2)
    case step2=>
     rintro x c d o t ⟨rfl,rfl,f⟩;dsimp only;have #[k,rfl]:=dF (tW o);have M:=v t;refine bT (VW T h (mL (mM k)) M ?_);dsimp only;cases e:lt (gt p (lo+(k+1))) (gt p (lo+(k+1)-1)) with
     |true=>
      rw[ao Z,ak ()];refine ca {Z,Z,λi j g J=>?_};have b:∀i,i<=k+1->gt p (lo+i)<N:=λi u=>h.pp.blt (bM (c8 u lo) M);obtain e1|rfl:=lL (cN J)
      .exact f i j g e1
      .obtain e2|rfl:=lL (cN g)
       .exact S.trans _ (gt p (lo+k)) _ (b _ (bq _)) (b k (pB k)) (b i (cy (cS e2))) e (f i k e2 (dX k))
       .exact e
     |false=>
      rw[ak ()];refine bT (Vk (i:=lo+k) (j:=lo+(k+1)) T h (gG M) M (b8 (dX (lo+k))) ?_);dsimp only;rw[show lt (gt p (lo+k)) (gt p (lo+(k+1)))=U from zdD S h.pp M e,ao rfl];exact ca {Z,_,Z,o,cS t,f}
    case fin2=>
     rintro c d ⟨rfl,rfl,f⟩;exact{Z,_,Z,rN ..,eX (iT D),f}
    case post2=>
     rintro c d ⟨rfl,x,rfl,x2,xn,f⟩;dsimp only;rw[ak ()];refine bT (f7 ?_);have es:(λs=>setArr s (mirror (arrOf s) lo (lo+x) ((lo+x-lo)/2))) st=setArr st ((mirror p lo (lo+x) ((lo+x-lo)/2)).map it):=by show setArr st (mirror (arrOf st) lo (lo+x) ((lo+x-lo)/2))=_;rw[h.a,zbh]
     have O:PP N (mirror p lo (lo+x) ((lo+x-lo)/2)):=ul (mirror_perm _ _ _ _) h.pp;have g':∀k,k<N->gt (mirror p lo (lo+x) ((lo+x-lo)/2)) k=if lo<=k/\k<lo+x then gt p (lo+(lo+x)-1-k) else gt p k:=λk hk=>zhN (bI (bI (c8 xn lo) h2) (eX h.pp.size.symm)) (bH hk (eX h.pp.size.symm))
     show wpS (Bg prog w) A E s _ Q ((λs=>setArr s (mirror (arrOf s) lo (lo+x) ((lo+x-lo)/2))) st);rw[es];generalize mirror p lo (lo+x) ((lo+x-lo)/2)=l at *
     have h':=h.set O;have #[y,rfl]:=dF (tW x2);have g2:∀i,i<=y->gt l (lo+i)=gt p (lo+(y-i)):=λi u=>by rw[g' _ (v (bH (eO u) xn)),ao {cZ ..,dA (eO u) lo}];exact congrArg (gt p) ((Nat.add_sub_add_left lo (lo+y) i).trans (tV u lo))
     have r':vh lt l lo (y+1):=λi j g J=>by have jy:=cN J;rw[g2 i (bI (cS g) jy),g2 j jy];exact f _ _ (nS (bH g jy) g) (eO (iJ ..))
     have kp:∀i,i<lo->gt l i=gt p i:=λi u=>(g' i (bH u (bI (cZ ..) h2))).trans (ak λz=>Nat.not_le_of_lt u z.1);refine bT (fm (dU (λy c d=>setArr st (l.map it)=d/\c=(L,y)/\vh lt l lo y) (Q:=λc d=>setArr st (l.map it)=d/\∃m,c=(L,m)/\1<=m/\m<=nrem/\vh lt l lo m) ?step3 ?fin3 {Z,Z,r'}) ?post3)
     case step3=>
      rintro z c d ac hy ⟨rfl,rfl,r⟩;have z1:=bI (mM y) ac;dsimp only;refine bT (VW T h' (mL z1) (v hy) ?_);dsimp only;cases e:lt (gt l (lo+z)) (gt l (lo+z-1)) with
      |true=>
       rw[ao rfl];exact ca {Z,z,Z,z1,cS hy,r}
      |false=>
       rw[ak ()];exact ca {Z,Z,VX S O r z1 (v hy) e}
     case fin3=>
      rintro c d ⟨rfl,rfl,r⟩;exact{Z,_,Z,bI (mM y) (rN ..),eX (iT xn),r}
     case post3=>
      rintro c d ⟨rfl,m,rfl,I,G,r⟩;exact ca (q m l I G h' kp r)
theorem zgh{st:SortSt}{p:AN}{lo n ok:Nat}{Q:Bool->SortSt->Prop}(S:SO lt N)(hc:xC prog w A s κ it lt N)(h:SAZ κ it N p st)(h1:1<=ok)(h2:ok<=n)(h3:lo+n<=N)(r:vh lt p lo ok)(q:∀g,SAZ κ it N g (setArr st (g.map it))->(∀i,i<lo->gt g i=gt p i)->vh lt g lo n->Q U (setArr st (g.map it))) :
  wpS (Bg prog w) A E s (binarySort' lo n ok) Q st:=by
 refine bT (fm (dU (λx c v=>∃g,setArr st (g.map it)=v/\c=(L,PUnit.unit)/\PP N g/\(∀i,i<lo->gt g i=gt p i)/\vh lt g lo x) (Q:=λc v=>∃g,setArr st (g.map it)=v/\c=(L,PUnit.unit)/\PP N g/\(∀i,i<lo->gt g i=gt p i)/\vh lt g lo n) ?step ?fin {p,by rw[<-h.a],Z,h.pp,λ_ _=>rfl,by rw[Nat.max_eq_left h1];exact r}) ?post)
 case fin=>
  rintro c v ⟨g,rfl,rfl,I,kp,r⟩;exact{g,Z,Z,I,kp,by rw[Nat.max_eq_left h1,iT h2] at r;exact r}
 case post=>
  rintro c v ⟨g,rfl,rfl,I,kp,r⟩;exact ca (q g (h.set I) kp r)
 case step=>
  rintro x c v ag hx ⟨g,rfl,rfl,I,kp,r⟩;dsimp only;have h':=h.set I;have J:lo+x<N:=bH (dA hx lo) h3;have hb:∀i,i<=x->gt g (lo+i)<N:=λi o=>I.blt (bM (c8 o lo) J);refine bT (fm (dU (λy c t=>setArr st (g.map it)=t/\∃l u,c=(L,l,u)/\l<=u/\u<=x/\u-l<=x-y/\(∀i,i<l->lt (gt g (lo+i)) (gt g (lo+x))=U)/\(∀i,u<=i->i<x->lt (gt g (lo+x)) (gt g (lo+i))=U)) (Q:=λc t=>setArr st (g.map it)=t/\∃l u,c=(L,l,u)/\l<=x/\(∀i,i<l->lt (gt g (lo+i)) (gt g (lo+x))=U)/\(∀i,l<=i->i<x->lt (gt g (lo+x)) (gt g (lo+i))=U)) ?step1 ?fin1 {Z,0,x,Z,cf x,bq x,bq x,λi o=>absurd o (rM i),λi h1 h2=>absurd h2 (mZ h1)}) ?post1)
  case fin1=>
   rintro c t ⟨rfl,l,u,rfl,O,T,a3,a4,a5⟩;obtain rfl:=lF O (rL (pL.1 (bI a3 (eX (Nat.sub_eq_zero_of_le (uk ..))))));exact{Z,l,l,Z,T,a4,a5}
  case step1=>
   rintro y c t _ hy ⟨rfl,l,u,rfl,O,T,a3,a4,a5⟩;dsimp only;by_cases c1:l >= u
   .rw[ao c1];obtain rfl:=lF O c1;exact ca {Z,l,l,Z,T,a4,a5}
   .rw[ak c1];obtain⟨m,em,lm,mu⟩:∃m,(l+u)/2=m/\l<=m/\m<u:={_,Z,(),()};rw[em];clear em c1;have M:=bH mu T;have bx:=hb x (bq x);have bm:=hb m (cS M);refine bT (Vk hc h' J (iy (dA M lo) J) (eM (dA M lo)) ?_);dsimp only;cases e:lt (gt g (lo+x)) (gt g (lo+m)) with
    |true=>
     rw[ao rfl];refine ca {Z,l,m,Z,lm,cS M,mo (bH (sd lm mu) a3),a4,λi h1 h2=>?_};by_cases d:i=m
     .rw[d];exact e
     .exact S.trans _ _ _ bx bm (hb _ (cS h2)) e (r _ _ (lJ h1 (eC d)) h2)
    |false=>
     rw[ak ()];have up:=S.tot _ _ bx bm (λz=>eM (dA M lo) (I.inj J (iy (dA M lo) J) z)) e;refine ca {Z,m+1,u,Z,mu,T,mo (bH (nS (bM lm mu) (eO lm)) a3),λi o=>?_,a5};by_cases d:i=m
     .rw[d];exact up
     .have im:=lJ (cN o) d;exact S.trans _ _ _ (hb _ (cS (iy im M))) bm bx (r _ _ im M) up
  case post1=>
   rintro c t ⟨rfl,l,u,rfl,O,T,a3⟩;dsimp only;refine bT (f7 ?_);have es:(λs=>setArr s (bubble (arrOf s) (lo+x) (lo+x-(lo+l)))) (setArr st (g.map it))=setArr st ((bubble g (lo+x) (lo+x-(lo+l))).map it):=by show setArr _ (bubble (g.map it) _ _)=_;rw[zbi]
   show wpS (Bg prog w) A E s _ _ ((λs=>setArr s (bubble (arrOf s) (lo+x) (lo+x-(lo+l)))) (setArr st (g.map it)));rw[es];have lN:∀ {i},i<=x->lo+i<N:=λo=>bM (c8 o lo) J;have sz:∀ {i},i<N->i<g.size:=λo=>bH o (eX I.size.symm);have g':∀j,j<N->gt (bubble g (lo+x) (lo+x-(lo+l))) j=if j=lo+l then gt g (lo+x) else if lo+l<j/\j<=lo+x then gt g (j-1) else gt g j:=λj D=>by
    have:=zjD (p:=g) (k:=lo+x) (d:=lo+x-(lo+l)) (j:=j) (sz J) (iJ ..) (sz D)
    rwa [Nat.sub_sub_self (c8 O lo)] at this
   have ac:PP N (bubble g (lo+x) (lo+x-(lo+l))):=ul (bubble_perm _ _ _) I;generalize bubble g (lo+x) (lo+x-(lo+l))=p2 at *
   have gl:∀i,i<lo+l->gt p2 i=gt g i:=λi o=>by rw[g' i (iy o (bM (c8 O lo) J)),ak (b8 o),ak λz=>Nat.lt_asymm z.1 o]
   have ge:gt p2 (lo+l)=gt g (lo+x):=(g' _ (lN O)).trans (ao Z);have gg:∀i,l<=i->i<x->gt p2 (lo+(i+1))=gt g (lo+i):=λi o hx=>by have o:=dA (eO o) lo;rw[g' _ (lN hx),ak (eM o),ao {o,c8 hx lo}];rfl
   refine ca {p2,Z,Z,ac,λi o=>(gl i (bH o (cZ ..))).trans (kp i o),λi j G D=>?_};have D:=cN D;obtain a|rfl|a:=tX i l
   .rw[gl _ (dA a lo)];obtain b|rfl|b:=tX j l
    .rw[gl _ (dA b lo)];exact r i j G (bH b O)
    .rw[ge];exact T i a
    .have #[j,rfl]:=dF (iU b);have b:=cN b;rw[gg j b D];exact r i j (bH a b) D
   .have #[j,rfl]:=dF (iU G);have b:=cN G;rw[ge,gg j b D];exact a3 j b D
   .have #[j,rfl]:=dF (iU G);have #[i,rfl]:=dF (iU a);have b:=cN a;have ij:=Nat.lt_of_succ_lt_succ G;rw[gg i b (iy ij D),gg j (bI b (cS ij)) D];exact r i j ij D
end
theorem Qa{m:Type}(c:Nat):∀(l:List m)(d:Array m)(j:Nat),c+j+l.length<=d.size->(l.zipIdx j).foldl (λa x=>match x with|(p,j)=>a.setIfInBounds (c+j) p) d=(d.toList.take (c+j)++l++d.toList.drop (c+j+l.length)).toArray
 |[],d,j,h=>by simp
 |x::t,d,j,h=>by
  rw[b7] at h;rw[pS,fA];have e:=Qa c t (d.setIfInBounds (c+j) x) (j+1) (by simp;lia);dsimp only at e ⊢;rw[e];congr 1;have es:(d.setIfInBounds (c+j) x).toList=d.toList.take (c+j)++x::d.toList.drop (c+j+1):=by rw[Array.toList_setIfInBounds,List.set_eq_take_append_cons_drop,ao (by simp;lia)]
  have o:(d.toList.take (c+j)).length=c+j:=by rw[bX,cL];lia
  have r:∀(g D:List m)(n:Nat),g.length=n->(g++x::D).take (n+1)=g++[x]:=λg D n h=>by rw[List.take_append,b9 (),show n+1-g.length=1 by lia];rfl
  have q:∀(g D:List m)(n k:Nat),g.length=n->(g++x::D).drop (n+1+k)=D.drop k:=λg D n k h=>by rw[List.drop_append,ic (),show n+1+k-g.length=k+1 by lia];rfl
  rw[es,show c+(j+1)=(c+j)+1 by lia,r _ _ _ o,q _ _ _ _ o,iR,b7,show c+j+1+t.length=c+j+(t.length+1) by lia];simp
section
variable {w:av}{lt:Nat->Nat->Bool}
theorem zdE(p:AN):p.map it=hV it p.toList:=by apply gY.mp;simp[hV]
def zgi{st c:SortSt}{Q:PUnit->SortSt->Prop}(q:Q ⟨⟩ c):wpS M A E s ((set c):Ag PUnit) Q st:=by unfold wpS;exact bu {Z,q}
def VY{p:AN}(h:k<p.size):p.toList[k]?=Y (gt p k):=by rw[dI];exact vX h
abbrev UpZ(lt:Nat->Nat->Bool)(l:zZ):Prop:=l.Pairwise λx y=>lt x y=U
def jx:Nat->List zZ->List (Nat×Nat)
 |_,[]=>[]
 |a,r::t=>(a,r.length)::jx (a+r.length) t
theorem Ye:∀ {c M:List zZ}{a:Nat},jx a (c++M)=jx a c++jx (a+c.flatten.length) M
 |[],M,a=>rfl
 |r::c,M,a=>by show (a,r.length)::jx (a+r.length) (c++M)=_;rw[Ye,mq,bh,<-nE];rfl
theorem XX:∀ {c:List zZ}{a:Nat},(jx a c).length=c.length
 |[],_=>rfl
 |_::_,_=>congrArg (· + 1) XX
structure SRZ(κ:SortKind)(it:Nat->Keyed)(lt:Nat->Nat->Bool)(N:Nat)(Bp:List zZ)(rest:zZ)(st:SortSt):Prop where
 h:SAZ κ it N (Bp.flatten++rest).toArray st
 d:(pendingOf st).toList.map (λx=>(x.1,x.2.1))=jx 0 Bp
 r:∀x∈Bp,x≠[]/\UpZ lt x
theorem VZ{st:SortSt}{Bp:List zZ}{rest:zZ}{Q:Bool->SortSt->Prop}(S:SO lt N)(hc:xC prog w A s κ it lt N)(h:SRZ κ it lt N Bp rest st)(hi:i+2<=Bp.length)(q:∀L' st',SRZ κ it lt N L' rest st'->L'.length+1=Bp.length->Q U st'):wpS (Bg prog w) A E s (mergeAt' i) Q st:=by
 obtain⟨d,a,b,L2,rfl,rfl⟩:∃d a b L2,Bp=d++a::b::L2/\i=d.length:={Bp.take i,Bp[i],Bp[i+1],Bp.drop (i+2),by rw[<-eD (),<-eD (),cB],by rw[bX];lia}
 have #[a0,J]:=h.r a (by simp);have #[b0,I]:=h.r b (by simp);have hL:∀x∈d++L2,x≠[]/\UpZ lt x:=λx hx=>h.r x (by simp only[bp,bC] at hx ⊢;exact hx.imp id λz=>.inr (.inr z));have hd:=h.d;have e0:(d++a::b::L2).flatten++rest=d.flatten++(a++(b++(L2.flatten++rest))):=by simp
 have M:=h.h;rw[e0] at M;have em:∀c,(d++c::L2).flatten++rest=d.flatten++(c++(L2.flatten++rest)):=λc=>by simp
 have ed:jx 0 (d++a::b::L2)=jx 0 d++(d.flatten.length,a.length)::(d.flatten.length+a.length,b.length)::jx (d.flatten.length+a.length+b.length) L2:=by rw[Ye,i7];rfl
 have al:∀c:zZ,c.length=a.length+b.length->jx 0 (d++c::L2)=jx 0 d++(d.flatten.length,a.length+b.length)::jx (d.flatten.length+a.length+b.length) L2:=λc e=>by rw[Ye,i7];show _++(_,c.length)::jx (_+c.length) L2=_;rw[e,<-nE]
 rw[ed] at hd;have #[t,m1,O,f1,e1]:=List.map_eq_append_iff.mp hd;have #[#[u1,u2,pw],m2,rfl,fu,e2]:=sf.mp e1;have #[#[v1,v2,ag],l2,rfl,fv,f2]:=sf.mp e2;cases fu;cases fv;have hl:t.length=d.length:=by have:=congrArg gM f1;rwa [bn,XX] at this
 have O:pendingOf st=(t++(d.flatten.length,a.length,pw)::(d.flatten.length+a.length,b.length,ag)::l2).toArray:=gY.mp O;rw[<-hl];have g1:(pendingOf st)[t.length]?=Y (d.flatten.length,a.length,pw):=by rw[O];simp
 have g2:(pendingOf st)[t.length+1]?=Y (d.flatten.length+a.length,b.length,ag):=by rw[O];simp
 have pd:((pendingOf st).setIfInBounds t.length (d.flatten.length,a.length+b.length,pw)).eraseIdxIfInBounds (t.length+1)=(t++(d.flatten.length,a.length+b.length,pw)::l2).toArray:=by rw[O];apply gY.mp;simp only[List.setIfInBounds_toArray,gC];rw[List.set_append_right _ _ (bq _),gK,List.set_cons_zero,List.eraseIdx_append_of_length_le (),show t.length+1-t.length=1 by lia];rfl
 have az:∀c:zZ,c.length=a.length+b.length->(t++(d.flatten.length,a.length+b.length,pw)::l2).map (λx=>(x.1,x.2.1))=jx 0 (d++c::L2):=λc e=>by rw[al c e,bZ,bB,f1,f2]
 clear hd ed al O e1 e2;generalize d.flatten=Bo at *
 generalize hW:L2.flatten++rest=W at *
 have aS:=M;generalize hP:Bo++(a++(b++W))=P at M;have sz:P.length=N:=by have:=M.pp.size;rwa [bR] at this
 have lP:Bo.length+a.length+b.length+W.length=N:=by rw[<-sz,<-hP];simp;lia
 have la:=iV.mpr a0;have lb:=iV.mpr b0;have pm:P.Perm (e9 N):=by have:=eY.mp M.pp;simpa using this
 have r:∀ {x},x∈P->x<N:=λm=>List.mem_range.mp (pm.mem_iff.mp m);have nd:P.Nodup:=pm.nodup_iff.mpr pV;have aP:∀ {x},x∈a->x∈P:=λm=>by rw[<-hP];simp[m]
 have bP:∀ {x},x∈b->x∈P:=λm=>by rw[<-hP];simp[m]
 have ne:∀ {x y},x∈a->y∈b->x≠y:=λhx hy e=>by rw[<-hP] at nd;exact(dh.mp (dh.mp nd).2.1).2.2 _ hx _ (cz _ hy) e
 have sA:(P.drop Bo.length).take a.length=a:=by rw[<-hP,sG,sH]
 have sB:(P.drop (Bo.length+a.length)).take b.length=b:=by rw[<-hP,<-iR,sG,sG,sH]
 have ac:∀ {D:zZ}{k n:Nat},k<=n->D.take k=(D.take n).take k:=λh=>by rw[List.take_take,dq h]
 obtain⟨x0,b',rfl⟩:∃x0 b',b=x0::b':=by cases b with|nil=>exact absurd rfl b0|cons x l=>exact{x,l,rfl}
 obtain⟨v,z0,rfl⟩:∃v z0,a=v++[z0]:={a.dropLast,a.getLast a0,(nF a0).symm};have an:=(List.pairwise_cons.mp I).1;have ar:=λx hx=>(bW.mp J).2.2 x hx z0 (bo.mpr Z);refine bT (wpS_get ?_);rw[g1,g2];dsimp only;refine bT (zgi ?_);rw[pd];have a1:(sortPriv% PySem.Builtin.SortState.a) st=hV it P:=by rw[<-hP];exact aS.a.trans (zdE _)
 rw[a1];have gb:P[Bo.length+(v++[z0]).length]?=Y x0:=by rw[<-hP,cp (),show Bo.length+(v++[z0]).length-Bo.length=(v++[z0]).length by lia,cp (),gK];rfl
 have ga:P[Bo.length+(v++[z0]).length-1]?=Y z0:=by rw[<-hP,cp (by simp),cx (by simp),cp (by simp)];simp
 refine bT (yf (y7 gb) ?_);show wpS (Bg prog w) A E s _ Q (nI (kindOf st) (hV it P) (t++(Bo.length,(v++[z0]).length+(x0::b').length,pw)::l2).toArray (gallopOf st) (failedOf st));generalize est:nI (kindOf st) (hV it P) (t++(Bo.length,(v++[z0]).length+(x0::b').length,pw)::l2).toArray (gallopOf st) (failedOf st)=st1;generalize hA:v++[z0]=a at *
 generalize hB:x0::b'=b at *
 have k1:wF κ st1 st1:=by rw[<-est];exact{M.k,M.f,Z,Z}
 have xb:x0∈b:=by rw[<-hB];exact bw
 have za:z0∈a:=by rw[<-hA];simp
 have fin:∀(c:zZ)(st':SortSt),c.Perm (a++b)->UpZ lt c->wF κ st1 st'->∀st2:SortSt,kindOf st2=κ->failedOf st2=L->pendingOf st2=pendingOf st'->arrOf st2=hV it (Bo++(c++W))->Q U st2:=λc st' pc uc T st2 hk hf O ha=>by
  have lc:=pc.length_eq;rw[bh] at lc;refine q (d++c::L2) st2 {?_,?_,λx hx=>?_} (by simp;lia)
  .rw[em];refine{hk,hf,by rw[ha,zdE],?_};refine Array.perm_iff_toList_perm.mpr ?_;refine dy ?_ (eY.mp M.pp);show (Bo++(c++W)).Perm P;rw[<-hP,<-b6 a];exact iB _ (fW _ pc)
  .rw[O,T.p,<-est];exact az c lc
  .obtain z|z:=bp.mp hx
   .exact hL x (cz _ z)
   .obtain rfl|z:=bC.mp z
    .exact{λe=>by rw[e] at lc;simp at lc;lia,uc}
    .exact hL x (bQ _ z)
 have G:UpZ lt (a++b)->Q U st1:=λu=>fin _ st1 (.refl _) u k1 st1 k1.k k1.f Z (by rw[<-est,<-hP,b6]);refine bT (wZ S hc k1.k (r (bP xb)) (λx hx=>?_) (by rw[sA];exact J) () la λk hk lo hi=>?_)
 .rw[sA] at hx;exact{r (aP hx),ne hx xb}
 dsimp only;rw[ac hk,sA] at lo;rw[sA] at hi;have g:∀x∈a.take k,∀y∈b,lt x y=U:=λx hx y hy=>by
  have h1:=lo x hx;rw[<-hB] at hy;obtain rfl|hy:=bC.mp hy
  .exact h1
  .exact S.trans _ x0 _ (r (aP (cH hx))) (r (bP xb)) (r (bP (by rw[<-hB];exact bt _ hy))) h1 (an y hy)
 by_cases c1:(a.length-k==0)=U
 .rw[ao c1];have:=nV c1;rw[b9 ()] at g;exact ca (G (bW.mpr {J,I,g}))
 .rw[ak c1];replace c1:k<a.length:=by have:=wj c1;lia
  rw[show Bo.length+k+(a.length-k)-1=Bo.length+a.length-1 by lia];refine bT (yf (y7 ga) ?_);refine bT (wZ S hc k1.k (r (aP za)) (λx hx=>?_) (by rw[sB];exact I) () () λl hl ai aj=>?_)
  .rw[sB] at hx;exact{r (bP hx),(ne za hx).symm}
  dsimp only;rw[ac hl,sB] at ai;rw[sB] at aj;have o:∀x∈a,∀y∈b.drop l,lt x y=U:=λx hx y hy=>by
   have h1:=aj y hy;rw[<-hA] at hx;obtain hx|hx:=bp.mp hx
   .exact S.trans _ z0 _ (r (aP (by rw[<-hA];exact cz _ hx))) (r (aP za)) (r (bP (cF hy))) (ar x hx) h1
   .rw[bo.mp hx];exact h1
  by_cases c2:(l==0)=U
  .rw[ao c2];rw[nV c2] at o;exact ca (G (bW.mpr {J,I,o}))
  .rw[ak c2];replace c2:=wj c2;rw[jS,jS,show Bo.length+a.length-(Bo.length+k)=a.length-k by lia,show Bo.length+a.length+l-(Bo.length+a.length)=l by lia,ac hl,sB,<-iR,<-List.drop_take,sA];have hd:∀y∈a.drop k,∀x∈b.take l,y≠x:=λy hy x hx=>ne (cF hy) (cH hx);have PM:uY lt N (a.drop k) (b.take l):={J.sublist (iK ..),I.sublist (mf ..),λx hx=>r (aP (cF hx)),λx hx=>r (bP (cH hx)),hd,by rw[cq];lia,by rw[bX];lia,λy hy=>by
    rw[<-hB,show l=l-1+1 by lia];exact hi y hy,λx hx=>by
    have e:(a.drop k).getD ((a.drop k).length-1) 0=z0:=by
     rw[bD,eV,cq,<-hA] at *
     simp only[bh,cP] at c1 ⊢;rw[show k+(v.length+1-k-1)=v.length by lia,cp (bq _),gK];rfl
    rw[e];exact ai x hx}
   have mg:∀m st',WS lt (a.drop k) (b.take l) m->wF κ st1 st'->wpS (Bg prog w) A E s (do
     modify λz=>setArr z ((hV it m).toList.zipIdx.foldl (λa x=>match x with|(p,j)=>a.setIfInBounds (Bo.length+k+j) p) (arrOf z))
     let z <-get
     pure (failedOf z).isNone:Ag Bool) Q st':=λm st' R T=>by
    have lm:=R.pe.length_eq;rw[bh,cq,bX] at lm;refine bT (f7 (bT (wpS_get (ca ?_))));show Q (failedOf st').isNone _;rw[T.f];have mm:∀x∈m,x∈a.drop k\/x∈b.take l:=λx hx=>bp.mp (R.pe.mem_iff.mp hx);refine fin (a.take k++(m++b.drop l)) st' ?_ ?_ T _ T.k T.f Z ?_
    .refine((R.pe.append_right (b.drop l)).append_left (a.take k)).trans ?_;rw[b6,cB,<-b6,cB]
    .refine bW.mpr {J.sublist (mf ..),bW.mpr {R.so,I.sublist (iK ..),λx hx y hy=>?_},λx hx y hy=>?_}
     .obtain z|z:=mm x hx
      .exact o x (cF z) y hy
      .rw[<-cB l b] at I;exact(bW.mp I).2.2 x z y hy
     .obtain z|z:=bp.mp hy
      .obtain z|z:=mm y z
       .rw[<-cB k a] at J;exact(bW.mp J).2.2 x hx y z
       .exact g x hx y (cH z)
      .exact g x hx y (cF z)
    .show (hV it m).toList.zipIdx.foldl _ (arrOf st')=_;have ea:arrOf st'=hV it P:=by rw[T.a,<-est]
     rw[ea];have:=Qa (Bo.length+k) (hV it m).toList (hV it P) 0 (by simp[hV];lia);have p1:P.take (Bo.length+k)=Bo++a.take k:=by rw[<-hP,List.take_length_add_append,m4 ()]
     have p2:P.drop (Bo.length+k+m.length)=b.drop l++W:=by rw[lm,dq hl,show Bo.length+k+(a.length-k+l)=Bo.length+(a.length+l) by lia,<-hP,nW,nW,List.drop_append_of_le_length hl]
     rw[this,show Bo++(a.take k++(m++b.drop l)++W)=P.take (Bo.length+k)++m++P.drop (Bo.length+k+m.length) by rw[p1,p2];simp];simp[hV,lH,lI]
   by_cases c3:a.length-k<=l
   .rw[ao c3];exact bT (QY S hc k1 PM mg)
   .rw[ak c3];exact bT (Q5 S hc k1 PM mg)
end
section
variable {w:av}{lt:Nat->Nat->Bool}
def zk4(c d:Nat):Ag (Option Unit×Unit):=
 forIn [:c] (L,PUnit.unit) λ_ _=>do
  let z <-get
  match (if (pendingOf z).size > 1 then (pendingOf z)[(pendingOf z).size-2]? else L) with
  |some (_,_,older)=>if older<=d then pure (.done (L,PUnit.unit)) else do
    let g <-mergeAt' ((pendingOf z).size-2)
    if (!g)=U then pure (.done (Y PUnit.unit,PUnit.unit)) else pure (.yield (L,PUnit.unit))
  |_=>pure (.done (L,PUnit.unit))
def SRZ.sz{rest:zZ}{st:SortSt}(h:SRZ κ it lt N Bp rest st):(pendingOf st).size=Bp.length:=by
 have:=congrArg gM h.d
 rwa [bn,XX] at this
theorem zbj{st:SortSt}{l:List zZ}{rest:zZ}{Q:Option Unit×Unit->SortSt->Prop}(S:SO lt N)(o:xC prog w A s κ it lt N)(h:SRZ κ it lt N l rest st)(q:∀g d,SRZ κ it lt N g rest d->Q (L,PUnit.unit) d):wpS (Bg prog w) A E s (zk4 size pw) Q st:=by
 unfold zk4;refine dU (λ_ c d=>∃g,c=(L,PUnit.unit)/\SRZ κ it lt N g rest d) ?_ (λc d ⟨g,e,k⟩=>by rw[e];exact q g d k) {l,Z,h};rintro x c d _ D ⟨g,rfl,k⟩;have z:=k.sz;refine bT (wpS_get ?_);by_cases c1:(pendingOf d).size > 1
 .rw[ao c1];obtain⟨⟨I,G,u⟩,r⟩:∃y,(pendingOf d)[(pendingOf d).size-2]?=Y y:={_,cV ()};rw[r];dsimp only;by_cases c2:u<=pw
  .rw[ao c2];exact ca (q g d k)
  .rw[ak c2];refine bT (VZ S o k () λv m t _=>?_);rw[ak ()];exact ca {v,Z,t}
 .rw[ak c1];exact ca (q g d k)
theorem SAZ.cut{st:SortSt}{Bo V:zZ}{n:Nat}(h:SAZ κ it N p' st)(u:Bo.length+V.length=N)(k:∀i,i<Bo.length->gt p' i=gt (Bo++V).toArray i)(l:Bo.length+n<=N)(r:vh lt p' Bo.length n) :
  ∃R rest,SAZ κ it N (Bo++(R++rest)).toArray st/\R.length=n/\UpZ lt R:=by
 have t:p'.toList.length=N:=h.pp.size;have g:∀i,i<N->p'.toList[i]?=Y (gt p' i):=λi d=>VY (by rw[<-cL];lia);have q:p'.toList.take Bo.length=Bo:=fS λi=>by
  by_cases c:i<Bo.length
  .rw[fI c,g i (),k i c,<-VY (p:=(Bo++V).toArray) (by simp;lia)];exact cx c
  .rw[cR (l:=Bo) (),cR (by rw[bX];lia)]
 refine{(p'.toList.drop Bo.length).take n,(p'.toList.drop Bo.length).drop n,?_,by rw[bX,cq];lia,?_}
 .have e:Bo++p'.toList.drop Bo.length=p'.toList:=by conv=>rhs;rw[<-cB Bo.length p'.toList,q]
  rw[cB,e];exact h
 .refine List.pairwise_iff_getElem.mpr λi j d o m=>?_;rw[bX,cq] at d o;have v:∀i (d:i<((p'.toList.drop Bo.length).take n).length),((p'.toList.drop Bo.length).take n)[i]=gt p' (Bo.length+i):=λi d=>by rw[bX,cq] at d;rw[List.getElem_take,List.getElem_drop];exact bU ((ba ()).symm.trans (g _ ()))
  rw[v,v];exact r i j m ()
def SRZ.len{rest:zZ}{st:SortSt}(h:SRZ κ it lt N Bp rest st):Bp.flatten.length+rest.length=N:=by
 have:=h.h.pp.size
 rwa [bR,bh] at this
theorem SRZ.few{rest:zZ}{st:SortSt}(h:SRZ κ it lt N Bp rest st):Bp.length<=Bp.flatten.length:=by
 have:∀Bp:List zZ,(∀x∈Bp,x≠[])->Bp.length<=Bp.flatten.length:=λBp=>by
  induction Bp with
  |nil=>exact λ_=>bq _
  |cons x Bp ih=>
   intro c;have:=ih λy g=>c y (bt _ g);have:=iV.mpr (c x bw);rw[mq,bh,b7];lia
 exact this Bp λx c=>(h.r x c).1
theorem zeG{st:SortSt}{p:AN}{Q:Unit->SortSt->Prop}(S:SO lt N)(hc:xC prog w A s κ it lt N)(h:SAZ κ it N p st)(hd:pendingOf st=#[])(hN:1<=N)(q:∀p' d,SAZ κ it N p' d->J3 lt p' N->Q PUnit.unit d):wpS (Bg prog w) A E s sortRuns' Q st:=by
 have ac:(arrOf st).size=N:=by rw[h.a,Array.size_map,h.pp.size]
 refine bT (wpS_get ?_);have J:((sortPriv% PySem.Builtin.SortState.a) st).size=N:=ac;rw[J];refine bT (fm (dU (λx c d=>∃o rest,c=(L,o.flatten.length)/\SRZ κ it lt N o rest d/\x<=o.flatten.length) (Q:=λc d=>∃o,c=(L,N)/\SRZ κ it lt N o [] d) ?step ?fin {[],p.toList,Z,{h,by rw[hd];rfl,nofun},bq _}) ?post)
 case fin=>
  rintro c d ⟨o,rest,rfl,h,hx⟩;have:=h.len;obtain rfl:=lM.mp (by lia:rest.length=0);exact{o,by rw[<-h.len];rfl,h}
 case step=>
  rintro x c d _ hx ⟨o,rest,rfl,h,ar⟩;dsimp only;have hl:=h.len;by_cases c1:o.flatten.length >= N
  .rw[ao c1];obtain rfl:=lM.mp (by lia:rest.length=0);exact ca {o,by rw[<-h.len];rfl,h}
  .rw[ak c1];refine bT (zcC S hc h.h () () λm p' m1 m2 h' kp r=>?_);dsimp only;have #[R,T,h1,rfl,uR]:=h'.cut hl kp () r;have h1:SRZ κ it lt N o (R++T) (setArr d (p'.map it)):={h1,h.d,h.r};have fin:∀ {G:List zZ}{R g:zZ}{t:SortSt},0<R.length->UpZ lt R->SRZ κ it lt N G (R++g) t->G.flatten.length=o.flatten.length->∃L4 M,((L,o.flatten.length+R.length):Option Unit×Nat)=(L,L4.flatten.length)/\SRZ κ it lt N L4 M (setPending t ((pendingOf t).push (o.flatten.length,R.length,0)))/\x+1<=L4.flatten.length:=λ{G R g t} n1 uR D l3=>by
    have e1:(G++[R]).flatten.length=o.flatten.length+R.length:=by rw[List.flatten_append,bh,l3];simp
    refine{G++[R],g,by rw[e1],{?_,?_,λy hy=>?_},()}
    .have e:(G++[R]).flatten++g=G.flatten++(R++g):=by simp
     rw[e];exact{D.h.k,D.h.f,D.h.a,D.h.pp}
    .show ((pendingOf t).push _).toList.map _=_;rw[Ye,<-D.d,i7,l3,Array.toList_push,bZ];rfl
    .obtain z|z:=bp.mp hy
     .exact D.r y z
     .rw[bo.mp z];exact{List.length_pos_iff.mp n1,uR}
   have ag:∀ {pw k:Nat}{G:List zZ}{g:zZ}{t:SortSt},SRZ κ it lt N G g t->SRZ κ it lt N G g (setPending t ((pendingOf t).modify k λx=>(x.1,x.2.1,pw))):=λ{pw k G g t} D=>by
    refine{{D.h.k,D.h.f,D.h.a,D.h.pp},?_,D.r};have e:∀(l:List (Nat×Nat×Nat)) k,(l.modify k λx=>(x.1,x.2.1,pw)).map (λx=>(x.1,x.2.1))=l.map λx=>(x.1,x.2.1):=λl=>by
     induction l with
     |nil=>intro k;cases k <;> rfl
     |cons y l ih=>
      intro k;cases k with
      |zero=>rfl
      |succ k=>exact congrArg (_ :: ·) (ih k)
    show ((pendingOf t).modify k _).toList.map _=_;rw[Array.toList_modify,e];exact D.d
   generalize hmr:(sortPriv% PySem.Builtin.minRun) N N 0=mr;by_cases c2:R.length<mr
   .rw[ao c2];refine bT (rX (fZ {Z,?_}));refine bT (zgh S hc h' m1 () () r λp2 I aj r2=>?_);rw[ak ()];have #[R2,O,I,e2,u2]:=I.cut hl (λi hi=>(aj i hi).trans (kp i hi)) () r2;rw[<-e2];have I:SRZ κ it lt N o (R2++O) (setArr (setArr d (p'.map it)) (p2.map it)):={I,h.d,h.r};refine bT (wpS_get ?_);generalize ebk:((sortPriv% PySem.Builtin.SortState.pending) (setArr (setArr d (p'.map it)) (p2.map it))).back?=bk;cases bk with
    |none=>
     refine bT (f7 (ca ?_));exact fin () u2 I rfl
    |some y=>
     have #[s1,u1,u]:=y;refine bT (zbj S hc I λG t D=>?_);refine bT (f7 (bT (f7 (ca ?_))));exact fin () u2 (ag D) (by have:=I.len;have:=D.len;lia)
   .rw[ak c2];refine bT (wpS_get ?_);generalize ebk:((sortPriv% PySem.Builtin.SortState.pending) (setArr d (p'.map it))).back?=bk;cases bk with
    |none=>
     refine bT (f7 (ca ?_));exact fin m1 uR h1 rfl
    |some y=>
     have #[s1,u1,u]:=y;refine bT (zbj S hc h1 λG t D=>?_);refine bT (f7 (bT (f7 (ca ?_))));exact fin m1 uR (ag D) (by have:=h1.len;have:=D.len;lia)
 case post=>
  rintro c d ⟨o,rfl,h⟩;dsimp only;refine bT (fm (dU (λx c d=>∃o,c=(L,PUnit.unit)/\SRZ κ it lt N o [] d/\o.length+x<=N+1) (Q:=λc d=>∃o,c=(L,PUnit.unit)/\SRZ κ it lt N o [] d/\o.length<=1) ?step2 (λc d ⟨o,e,h,hl⟩=>{o,e,h,()}) {o,Z,h,by have:=h.few;have:=h.len;rw[iu] at this;lia}) ?post2)
  case step2=>
   rintro x c d _ hx ⟨o,rfl,h,hl⟩;refine bT (wpS_get ?_);have ai:((sortPriv% PySem.Builtin.SortState.pending) d).size=o.length:=h.sz;rw[ai];by_cases c1:o.length<=1
   .rw[ao c1];exact ca {o,Z,h,c1}
   .rw[ak c1];refine bT (VZ S hc h ?_ λL2 an I l2=>?_)
    .have hh:∀b:Bool,(if b=U then o.length-2-1 else o.length-2)+2<=o.length:=λb=>by cases b <;> simp <;> lia
     exact hh _
    .rw[ak ()];exact ca {L2,Z,I,()}
  case post2=>
   rintro c d ⟨o,rfl,h,hl⟩;have ln:=h.len;have e:∃a,o=[a]:=by
    match o,hl,ln with
    |[],_,ln=>exact absurd (show 0=N from ln) ()
    |[a],_,_=>exact{a,Z}
   have #[a,rfl]:=e;have u:=(h.r a (bo.mpr Z)).2;have hh:=h.h;rw[show [a].flatten++[]=a by simp] at hh;have la:a.length=N:=by simpa using ln
   refine ca (q _ d hh λi j al hj=>?_);have v:∀i (hi:i<a.length),gt a.toArray i=a[i]:=λi hi=>bU ((VY (p:=a.toArray) hi).symm.trans (ba hi));rw[v i (),v j ()];exact dC.mp u i j _ _ al
end
def Kp(a:af)(h c:aw):Prop:=∀b o,b≠a->h.get? b=Y o->c.get? b=Y o
def jA(c:zX)(p:AN):zX:=p.toList.map λi=>c.getD i da
theorem zbk(vs:zX):jA vs (ub (e9 vs.length))=vs:=by
 unfold jA;apply fS;intro i;simp only[bF];by_cases h:i<vs.length
 .rw[ba (l:=vs) h];simp[nX h,h]
 .rw[cR (by lia:vs.length<=i)];simp;lia
section
variable {w:av}
theorem zhO{vs:zX}{lt:Nat->Nat->Bool}{Q:SortSt->ap->Prop}(t:1<=vs.length)(S:SO lt vs.length)(m:∀i j C,i<vs.length->j<vs.length->i≠j->C (lt i j) s->kas_ask P w A κ vs i j C s)(q:∀p c,arrOf c=p.map (kas_item (vs.toArray.zip vs.toArray))->failedOf c=L->PP vs.length p->J3 lt p vs.length->Q c s):Bf (Bg P w) A ((sortRuns').run (nI κ (vs.toArray.zip vs.toArray) #[] 7 L)) (λr g=>Q r.2 g) E s:=by
 have e:=kas_range (vs.toArray.zip vs.toArray);rw[show (vs.toArray.zip vs.toArray).size=vs.length by simp] at e;have o:SAZ κ (kas_item (vs.toArray.zip vs.toArray)) vs.length (ub (e9 vs.length)) (nI κ (vs.toArray.zip vs.toArray) #[] 7 L):={Z,Z,e.symm,uD _};have C:xC P w A s κ (kas_item (vs.toArray.zip vs.toArray)) lt vs.length:=λi j C l k d h=>by have:=m i j C l k d h;rw[kat_ask_eq (vs:=vs) rfl] at this;exact this
 exact eL (zeG (E:=E) S C o Z t (Q:=λ_ c=>Q c s) λp c h r=>q p c h.a h.f h.pp r) (λr g h=>by have #[rfl,h]:=h;exact h) λ_ _ e=>e
end
section
variable {w:av}
theorem zcD{a:af}{vs:zX}{n:Nat}{κ:SortKind}{lt:Nat->Nat->Bool}{R:PySem.Fin->ap->Prop}(z:s.heap.get? a=Y (seqObj "list" vs.toArray n))(ac:vs.length<1000)(hk:2<=vs.length->∀(h:aw)(Q:SortKind->ap->Prop),Kp a s.heap h->Q κ { s with heap:=h }->Bf (Bg P w) A (keyKind' vs.toArray) Q (λ_ _=>False) { s with heap:=h })(hc:∀(h:aw) i j C,Kp a s.heap h->i<vs.length->j<vs.length->i≠j->C (lt i j) { s with heap:=h }->kas_ask P w A κ vs i j C { s with heap:=h })(S:SO lt vs.length)(fin:∀h p c,Kp a s.heap h->h.get? a=Y (seqObj "list" (jA vs p).toArray c)->PP vs.length p->J3 lt p vs.length->R (.done (.ret .none)) { s with heap:=h }) :
  Bf (Bg P w) A (Builtin.«list.sort» {[.ref a],[]}) R E s:=by
 have ha:a<s.heap.objs.size:=bS z;obtain⟨O,o1⟩:∃O,(s.heap.update a (eN λ_=>(#[]:Array aq))).get? a=Y (seqObj "list" #[] O):={_,get?_update_seq z λ_=>#[]};have G:Kp a s.heap (((s.heap.update a (eN λ_=>(#[]:Array aq))).push (seqObj "tuple" vs.toArray 0)).push (seqObj "list" #[] 0)):=λb o D e=>
  bg _ (bg _ ((eZ _ _ (eC D)).trans e))
 have q:(((s.heap.update a (eN λ_=>(#[]:Array aq))).push (seqObj "tuple" vs.toArray 0)).push (seqObj "list" #[] 0)).get? a=Y (seqObj "list" #[] O):=bg _ (bg _ o1);have r:∀d:zX,d.length=vs.length->∃c,((((s.heap.update a (eN λ_=>(#[]:Array aq))).push (seqObj "tuple" vs.toArray 0)).push (seqObj "list" #[] 0)).update a (eN λ_=>d.toArray)).get? a=Y (seqObj "list" d.toArray c):=λd _=>{_,get?_update_seq q λ_=>d.toArray};have l:∀d:zX,Kp a s.heap ((((s.heap.update a (eN λ_=>(#[]:Array aq))).push (seqObj "tuple" vs.toArray 0)).push (seqObj "list" #[] 0)).update a (eN λ_=>d.toArray)):=λd b o D e=>
  (eZ _ _ (eC D)).trans (G b o D e)
 rw[list_sort_plain];refine bb (listItems_at z Z ?_);refine bb (tz z Z ?_ (by rw[bR,bN];lia) (cf _));refine bb (seqEpoch_at o1 Z ?_);refine bb (sE ?_ (by show vs.length<=_;rw[bN];lia));refine bb (tD ?_ (cf _));refine fO ?_;show Bf (Bg P w) A _ R E { s with heap:=((s.heap.update a (eN λ_=>(#[]:Array aq))).push (seqObj "tuple" vs.toArray 0)).push (seqObj "list" #[] 0) };generalize hH:((s.heap.update a (eN λ_=>(#[]:Array aq))).push (seqObj "tuple" vs.toArray 0)).push (seqObj "list" #[] 0)=g at *
 dsimp only;have T:∀d:zX,d.length=vs.length->∀p,d=jA vs p->PP vs.length p->J3 lt p vs.length->R (.done (.ret .none)) { s with heap:=g.update a (eN λ_=>d.toArray) }:=λd hl p e y I=>by have #[c,J]:=r d hl;refine fin _ p c (l d) ?_ y I;rw[<-e];exact J
 by_cases h2:vs.toArray.size<2
 .have t:vs.length<2:=by simpa using h2
  rw[ao h2,ao h2];refine bb (bu ?_);rw[StateT.run_pure];refine bb (bu ?_);dsimp only;have ez:((vs.toArray.zip vs.toArray).map (·.2))=vs.toArray:=by apply gY.mp;rw[Array.toList_map,Array.toList_zip];simp[List.map_snd_zip]
  refine bb (seqEpoch_at q Z ?_);rw[show (arrOf (nI general' (vs.toArray.zip vs.toArray) #[] 7 L))=vs.toArray.zip vs.toArray from rfl,ez];refine bb (tz q Z ?_ (cf _) (by rw[bR,bN];lia));simp only[bne_self_eq_false,dz,if_false];exact bu (T vs Z _ (zbk vs).symm (uD _) λi j u hj=>by lia)
 .have t:2<=vs.length:=by simpa using h2
  rw[ak h2,ak h2];refine bb (eL (hk t g (λk m=>k=κ/\m={ s with heap:=g }) G {rfl,rfl}) (λk m hs=>?_) λ_ _ x=>x.elim);have #[rfl,rfl]:=hs;refine bb (eL (zhO (s:={ s with heap:=g }) (vs:=vs) (κ:=k) (lt:=lt) (Q:=λv m=>∃p:AN,arrOf v=p.map (kas_item (vs.toArray.zip vs.toArray))/\failedOf v=L/\m={ s with heap:=g }/\PP vs.length p/\J3 lt p vs.length) () S (λi j C hi hj u hC=>hc g i j C G hi hj u hC) λp v a2 a3 a4 a5=>{p,a2,a3,rfl,a4,a5}) ?_ λ_ _ e=>e);rintro⟨⟨⟩,v⟩ m ⟨p,M,hf,rfl,y,I⟩;dsimp only;have d:=kat_snds (ks:=vs) Z M;have ol:(jA vs p).length=vs.length:=by unfold jA;rw[bn,cL,y.size]
  rw[d];refine bb (seqEpoch_at q Z ?_);refine bb (tz q Z ?_ (cf _) (by show (ub (jA vs p)).size<=_;rw[bR,ol,bN];lia));rw[hf];simp only[bne_self_eq_false,dz,if_false];exact bu (T (jA vs p) ol p Z y I)
theorem Y5{l:af}{κ:SortKind}{Q:Aa}(G:zX->(Nat->Nat->Bool)->ap->Prop)(y:∀R:zX->ap->Prop,(∀r lt d,G r lt d->R r d)->Bf (Bg P w) A.in1 (collect (.ref l)) R E s)(I:∀r lt d,G r lt d->r.length<1000/\SO lt r.length)(T:∀r lt d,G r lt d->2<=r.length->∀(h:aw)(Q:SortKind->ap->Prop),(∀b o,d.heap.get? b=Y o->h.get? b=Y o)->Q κ { d with heap:=h }->Bf (Bg P w) A.in1.in1 (keyKind' r.toArray) Q (λ_ _=>False) { d with heap:=h })(hc:∀r lt d,G r lt d->∀(h:aw) i j C,(∀b o,d.heap.get? b=Y o->h.get? b=Y o)->i<r.length->j<r.length->i≠j->C (lt i j) { d with heap:=h }->kas_ask P w A.in1.in1 κ r i j C { d with heap:=h })(fin:∀r lt d,G r lt d->∀(t:aw)(p:AN)(c:Nat),(∀b o,d.heap.get? b=Y o->t.get? b=Y o)->t.get? d.heap.objs.size=Y (seqObj "list" (jA r p).toArray c)->PP r.length p->J3 lt p r.length->Q (.ref d.heap.objs.size) { d with heap:=t }) :
  Bf (Bg P w) A (call (.builtin "sorted") [.ref l]) Q E s:=by
 refine Calls.call_function_entry kind_sorted plain_sorted entry_sorted (args_sorted1 _) ?_;unfold Builtin.«sorted»;refine bb (m:=checkCount "sorted" 1 1 _) (bu ?_);refine bb (y _ λr lt d g=>?_);have #[z,S]:=I r lt d g;refine bb (tD ?_ (by rw[bN];lia));have v:(d.heap.push (seqObj "list" r.toArray 0)).get? d.heap.objs.size=Y (seqObj "list" r.toArray 0):=bJ _ rfl;have u:∀t,Kp d.heap.objs.size (d.heap.push (seqObj "list" r.toArray 0)) t->∀b o,d.heap.get? b=Y o->t.get? b=Y o:=λt k b o e=>k b o (b8 (bS e)) (bg _ e);refine bb (fO (ef slot_list_sort {_,v,Z} entry_list_sort (zcD (s:={ d with heap:=d.heap.push (seqObj "list" r.toArray 0) }) v z (κ:=κ) (lt:=lt) (λh2 t Q' k q=>?_) (λt i j C k hi hj D q=>?_) S λt p c k O M J=>?_) (args_list_sort _)))
 .exact T r lt d g h2 t Q' (u t k) q
 .exact hc r lt d g t i j C (u t k) hi hj D q
 .exact{_,Z,bu {_,Z,fin r lt d g t p c (u t k) O M J}}
def zbl{l:af}{vs:zX}{κ:SortKind}{g:Nat->Nat->Bool}{Q:Aa}(u:vs.length<1000)(S:SO g vs.length)(t:∀R:zX->ap->Prop,(∀(h:aw)(d:Nat),(∀b o,s.heap.get? b=Y o->h.get? b=Y o)->R vs { s with heap:=h,toks:=d })->Bf (Bg P w) A.in1 (collect (.ref l)) R E s)(D:2<=vs.length->∀(h:aw)(d:Nat)(Q:SortKind->ap->Prop),(∀b o,s.heap.get? b=Y o->h.get? b=Y o)->Q κ { s with heap:=h,toks:=d }->Bf (Bg P w) A.in1.in1 (keyKind' vs.toArray) Q (λ_ _=>False) { s with heap:=h,toks:=d })(G:∀(h:aw)(d:Nat) i j C,(∀b o,s.heap.get? b=Y o->h.get? b=Y o)->i<vs.length->j<vs.length->i≠j->C (g i j) { s with heap:=h,toks:=d }->kas_ask P w A.in1.in1 κ vs i j C { s with heap:=h,toks:=d })(fin:∀(h:aw)(d:Nat)(y:aw)(p:AN)(c:Nat),(∀b o,s.heap.get? b=Y o->h.get? b=Y o)->(∀b o,h.get? b=Y o->y.get? b=Y o)->y.get? h.objs.size=Y (seqObj "list" (jA vs p).toArray c)->PP vs.length p->J3 g p vs.length->Q (.ref h.objs.size) { s with heap:=y,toks:=d }) :
  Bf (Bg P w) A (call (.builtin "sorted") [.ref l]) Q E s:=by
 refine Y5 (κ:=κ) (λv l z=>v=vs/\l=g/\∃h d,(∀b o,s.heap.get? b=Y o->h.get? b=Y o)/\z={ s with heap:=h,toks:=d }) (λR r=>t R λh d k=>r _ g _ {rfl,rfl,h,d,k,rfl}) ?_ ?_ ?_ ?_ <;> rintro _ _ _ ⟨rfl,rfl,h,d,k,rfl⟩
 .exact{u,S}
 .exact λl q I m=>D l q d I λb o e=>m b o (k b o e)
 .exact λq i j C m=>G q d i j C λb o e=>m b o (k b o e)
 .exact λq p c m=>fin h d q p c k m
end
def yM(a b:Str×Int):Bool:=if a.1=b.1 then decide (a.2<b.2) else decide (a.1.cps.toList<b.1.cps.toList)
def AV(h:aw)(v:aq)(q:Str×Int):Prop:=∃a o t u n,v=.ref a/\h.get? a=Y o/\o.cls=.type "tuple"/\o.data=.seq #[.str q.1 t,.int q.2 u] n
section
variable {w:av}
def zhP{a c:Str}{Q:Bool->ap->Prop}(h:Q (decide (a.cps.toList<c.cps.toList)) s):Bf (Bg P w) A (oneLt' U (.str a t) (.str c u)) Q E s:=by rw[<-keyLt'_oneType];exact kas_lt_str h
def zhQ{a c:Int}{Q:Bool->ap->Prop}(h:Q (decide (a<c)) s):Bf (Bg P w) A (oneLt' am (.int a t) (.int c u)) Q E s:=
 kat_one _ _ (sJ (show W.BoolBack Q (.bool (decide (a<c))) s from h))
theorem zeH{x y:aq}{a b:Str×Int}{Q:Bool->ap->Prop}(k:AV s.heap x a)(g:AV s.heap y b)(h:Q (yM a b) s)(m:a≠b):Bf (Bg P w) A (keyLt' (tuples' U) x y) Q E s:=by
 have #[p,o,t,u,n,rfl,l,I,q]:=k;have #[p2,D,z,v,G,rfl,c,r,AO]:=g;refine kat_lt l q c AO (kat_cons (wpAny_eqBool_str (kat_go (λe=>kat_yes (kat_cons (wpAny_eqBool_int (kat_go (λd=>?_) λd=>kat_no ?_)))) λe=>kat_no ?_)))
 .exact absurd (tE (of_decide_eq_true e) (by simpa using d)) m
 .have e:=of_decide_eq_true e;unfold yM at h;rw[ao e] at h;exact zhQ h
 .have e:=of_decide_eq_false e;unfold yM at h;rw[ak e] at h;exact zhP h
theorem zcE{c:zX}{d:List (Str×Int)}{Q:SortKind->ap->Prop}(m:c.length=d.length)(g:∀(i:Nat)(v:aq)(q:Str×Int),c[i]?=Y v->d[i]?=Y q->AV s.heap v q)(h2:0<c.length)(h:Q (tuples' U) s) :
  Bf (Bg P w) A (keyKind' c.toArray) Q E s:=by
 have T:∀(c:zX)(d:List (Str×Int)),c.length=d.length->(∀(i:Nat)(v:aq)(q:Str×Int),c[i]?=Y v->d[i]?=Y q->AV s.heap v q)->∃l,KatTups s.heap c l/\l.length=c.length/\∀v∈l,∃x t,v=lf x t:=by
  intro c;induction c with
  |nil=>exact λd _ _=>{[],trivial,Z,nofun}
  |cons v r ih=>
   intro d m g
   match d,m with
   |q::qr,m=>
    have #[l,k,y,kf]:=ih qr (by simpa using m) λi D G e1 O=>g (i+1) D G (by simpa using e1) (by simpa using O);have #[a,o,t,u,n,rfl,I,M,J]:=g 0 v q Z rfl;refine{.str q.1 t::l,uP I M J Z k,by simp[y],λz hz=>?_};obtain rfl|hz:=bC.mp hz
    .exact{_,_,Z}
    .exact kf z hz
 have #[l,k,y,kf]:=T c d m g;refine kat_kind (T:=.type "str") k () (λv g=>?_) () h;have #[x,t,rfl]:=kf v g;exact Looks.of_pure rfl
end
def zbm(h:x.cps.toList=y.cps.toList):x=y:=by have #[a]:=x;have #[b]:=y;have:a=b:=gY.mp h;rw[this]
theorem V0{d:List (Str×Int)}(r:d.Nodup):SO (λi j=>yM (d.getD i ("",0)) (d.getD j ("",0))) d.length where
 irr:=λi _=>by unfold yM;rw[ao rfl];exact Bk ()
 trans:=λi j k _ _ _ l g=>by
  generalize d.getD i ("",0)=a at *
  generalize d.getD j ("",0)=b at *
  generalize d.getD k ("",0)=c at *
  unfold yM at *
  by_cases e1:a.1=b.1
  .rw[ao e1] at l;by_cases e2:b.1=c.1
   .rw[ao e2] at g;rw[ao (e1.trans e2)];have l:=of_decide_eq_true l;have g:=of_decide_eq_true g;exact Bj ()
   .rw[ak e2] at g;rw[ak (by rw[e1];exact e2),e1];exact g
  .rw[ak e1] at l;have l:=of_decide_eq_true l;by_cases e2:b.1=c.1
   .rw[ak (by rw[<-e2];exact e1),<-e2];exact Bj l
   .rw[ak e2] at g;have g:=of_decide_eq_true g;have o:=List.lt_trans l g;rw[ak (λz=>by rw[z] at o;exact List.lt_irrefl _ o)];exact Bj o
 tot:=λi j u t m h=>by
  have q:d.getD i ("",0)≠d.getD j ("",0):=λz=>m (by rw[bD,bD,ba u,ba t] at z;exact(mV r).mp z)
  generalize d.getD i ("",0)=a at *
  generalize d.getD j ("",0)=b at *
  unfold yM at *
  by_cases e:a.1=b.1
  .rw[ao e] at h;rw[ao e.symm];have h:=of_decide_eq_false h;have:a.2≠b.2:=λz=>q (tE e z);exact Bj ()
  .rw[ak e] at h;rw[ak (λz=>e z.symm)];have h:=of_decide_eq_false h;refine Bj ?_;obtain z|z:=List.le_iff_lt_or_eq.mp (List.not_lt.mp h)
   .exact z
   .exact absurd (zbm z.symm) e
def Aq(h:aw)(d:af)(es:Array DictEntry)(c:Nat):Prop:=∃o,h.get? d=Y o/\o.ExactDict/\o.data=.dict es c
section
variable {w:av}
def Aq.type{es:Array DictEntry}{c:Nat}(x:Aq s.heap d es c):s.TypeIs (.ref d) "dict":=let ⟨o,ho,hc,_⟩:=x;{o,ho,hc.1}
def Aq.at{es:Array DictEntry}{ep:Nat}(x:Aq h d es ep)(e:∀o,h.get? d=Y o->h'.get? d=Y o):Aq h' d es ep:=let ⟨o,ho,r⟩:=x;{o,e _ ho,r}
theorem zbn{es:Array DictEntry}{k:Nat}{Q:Aa}(lo:(d==sysModules)=am)(g:Aq s.heap d es k)(q:Q (.ref s.heap.objs.size) { s with heap:=s.heap.push { cls:=.type "dict_keyiterator",data:=.fields #[.ref d,.int 0 0,.int es.size 0,.int k 0] } }):Bf (Bg P w) A (pyIter (.ref d)) Q E s:=by have T:=g.type;have #[o,c,l,h]:=id g;refine wpAny_pyIter_slot T F.slot_dict_iter (ef F.slot_dict_iter T F.entry_dict_iter ?_ (F.args_dict_iter_1 _));unfold Builtin.«dict.__iter__»;refine bb ?_;unfold Builtin.Dict.dictSlotNone;refine bb (gp T ?_);show Bf _ _ (pure (bY d)) _ _ s;refine bu ?_;show Bf _ _ (iC d >>= _) _ _ s;unfold iC;rw[ak (by rw[lo];exact bV)];refine bb (bu ?_);refine bb (eP c h ?_);refine bb (iD c h ?_);refine bb (dE (bu {_,Z,"dict_keyiterator",_,{_,bJ _ Z,Z},F.slot_dict_keyiterator_next.lookup,?_}));simpa[rawInt] using q
theorem zbo{it d:af}{i ep:Nat}{es:Array DictEntry}{e:DictEntry}{Q:Option aq->ap->Prop}(c:s.heap.IsKeyIter it d i es.size ep)(v:Aq s.heap d es ep)(t:es[i]?=Y e)(q:∀h,h.IsKeyIter it d (i+1) es.size ep->de it s.heap h->Q (Y e.key) { s with heap:=h }):Bf (Bg P w) A (pyNext (.ref it)) Q E s:=by
 have #[o,u,z,m]:=id c;have #[D,k,y,l]:=id v;have G:i<es.size:=by
  obtain h|h:=mO i es.size
  .exact h
  .rw[lW h] at t;cases t
 unfold pyNext;refine bb (iI (eo (name:=br "__next__") c.typeIs fP (ef fP c.typeIs m5 ?_ (mP _))));refine bb (bu ?_);refine bb ?_;refine bb ?_
 first|(refine bb (fM c.typeIs (bu ?_)))|(refine bb (gH c.typeIs (bu ?_)))
 refine bb (oF u m ?_);have r:eR "dict_keyiterator"=am:=by lia
 simp only[r,dz,if_false];show Bf _ _ (if (bY d==da)=U then _ else _) _ _ s;rw[ak (show ¬ ((bY d==da)=U) from bV)];refine bb (bu ?_);refine bb (eP k l ?_);rw[ak (by simp)];refine bb (bu ?_);refine bb (iD k l ?_);rw[ak (by simp)];refine bu ?_;simp only[show ¬ ((i:Int)<0) from by lia,if_false,fi,t];refine bb ?_
 first|(refine bb (fM c.typeIs (bu ?_)))|(refine bb (gH c.typeIs (bu ?_)))
 refine bb (rO c.typeIs ?_);show Bf _ _ (setField (.ref it) 1 (rawInt ((i:Int)+1)) >>= _) _ _ s;refine bb (mF u m (by simp) ?_);have g:(s.heap.update it (Obj.mapFields (·.setIfInBounds 1 (rawInt ((i:Int)+1))))).IsKeyIter it d (i+1) es.size ep:=by refine{_,fC _ u (rK (lG m _)),(tR ..).trans z,?_};rw[lG m];simp[rawInt]
 refine bb (fO ?_);refine bb (rO (s:={ s with heap:=s.heap.update it (Obj.mapFields (·.setIfInBounds 1 (rawInt ((i:Int)+1)))) }) g.typeIs ?_);show Bf _ _ (pure e.key) _ _ _;exact bu (bu {_,Z,bu (q _ g (dL ..))})
theorem zdF{it d:af}{i u:Nat}{es:Array DictEntry}{Q:Option aq->ap->Prop}(z:A.handled=L)(c:s.heap.IsKeyIter it d i es.size u)(y:Aq s.heap d es u)(v:es.size<=i)(q:∀h,uB it s.heap h->Q L { s with heap:=h }):Bf (Bg P w) A (pyNext (.ref it)) Q E s:=by
 have #[o,r,I,t]:=id c;have #[G,g,D,k]:=id y;unfold pyNext;refine bb (iI (eo (name:=br "__next__") c.typeIs fP (ef fP c.typeIs m5 ?_ (mP _))));refine bb (bu ?_);refine bb ?_;refine bb ?_
 first|(refine bb (fM c.typeIs (bu ?_)))|(refine bb (gH c.typeIs (bu ?_)))
 refine bb (oF r t ?_);have l:eR "dict_keyiterator"=am:=by lia
 simp only[l,dz,if_false];show Bf _ _ (if (bY d==da)=U then _ else _) _ _ s;rw[ak (show ¬ ((bY d==da)=U) from bV)];refine bb (bu ?_);refine bb (eP g k ?_);rw[ak (by simp)];refine bb (bu ?_);refine bb (iD g k ?_);rw[ak (by simp)];refine bu ?_;simp only[show ¬ ((i:Int)<0) from by lia,if_false,fi,lW v];refine bb ?_
 first|(refine bb (fM c.typeIs (bu ?_)))|(refine bb (gH c.typeIs (bu ?_)))
 show Bf _ _ (setField (.ref it) 0 .none >>= _) _ _ s;refine bb (mF r t (by simp) ?_);show Bf _ _ (newExc (.type "StopIteration") [] >>= _) _ _ _;refine bb ?_;simp only[newExc,newTuple];refine bb (dE ?_ (by size_fits));refine bb (m:=firstArgMember _ _) (wpAny_of_eq (a:=da) (by first|rfl|(simp only[firstArgMember];rfl)) ?_);refine dE ?_ (by size_fits);simp only[raiseNew];refine bb (sZ ?_);rw[show A.in1.handled=L from z];refine bb (bu (wpAny_throw ?_));exact bb (pU (T:="StopIteration") (b:=U) {_,bJ _ Z,Z} sF (bu (q _ (((dL ..).extBut.push _).push _))))
theorem zeI(D:A.handled=L)(I d:af)(q:d≠I)(es:Array DictEntry)(z:Nat) :
  Walks P w A I [I,d] [I] es.size (λi v=>∃e,es[i]?=Y e/\v=e.key) (λi h=>h.IsKeyIter I d i es.size z/\Aq h d es z) where
 sub:=λb g=>by simp at g;simp[g]
 frame:=λ_ _ _ c u=>{c.1.at λo e=>u I (by simp) o e,c.2.at λo e=>u d (by simp) o e}
 item:=λi s Q E y c m=>by refine zbo c.1 c.2 (cV y) λt l k=>?_;exact m _ t s.toks {_,cV y,Z} {l,c.2.at λo e=>k.extBut d o q e} λb o g e=>k.extBut b o (λh=>g (by simp[h])) e
 done:=λs Q E c m=>zdF D c.1 c.2 (bq _) λt r=>m t s.toks λb o g e=>r b o (λh=>g (by simp[h])) e
 self:=λ_ _ _ _ c m=>sg c.1 m
end
section
open PySem.SeqAt
open PySem.AutoSeq1 (wpAny_loadPart')
open PySem.MeetsSeq PySem.MeetsSeq2 PySem.MeetsSeq3
theorem V1(l b:af)(x y:Str)(i j:Int)(t u o z:Tok)(n n2:Nat)(dd O:Option af)(T D:Array (Option aq)) :
  Meets (Builtin.«tuple.__lt__» {[.ref l,.ref b],[]}) (λ_ R s=>s.heap.get? l=Y { cls:=.type "tuple",dict:=dd,data:=.seq #[.str x t,.int i u] n,slots:=T } /\
   s.heap.get? b=Y { cls:=.type "tuple",dict:=O,data:=.seq #[.str y o,.int j z] n2,slots:=D }/\R (.ok (.ret (.bool (yM (x,i) (y,j))))) s):=
 .of_wp λprog w A R s h=>by
  have #[v,g,d,m,r]:=s;have #[J,M,h]:=h;have f2:=AutoSeq1.sub_tuple_tuple;have I:∀(E:Aa)(Q:Aa)(s:ap),Q (.bool (decide (x.cps.toList<y.cps.toList))) s->Bf (Bg prog w) A.in1 (richCompare .Lt (.str x t) (.str y o)) Q E s:=λE Q s q=>(PyProof.Rows.lt_str q:Bf (Bg prog w) A.in1 (Bi .Lt (.str x t) (.str y o)) Q E s);have G:=HT.rcLt_int A.in1 {v,g,d,m,r} i u j z prog w;by_cases e:x=y
  .subst e;have c:=oy (A:=A.in1) (s:={v,g,d,m,r}) x t x o prog w;rw[beq_self_eq_true] at c;unfold yM at h;rw[ao rfl] at h;by_cases e2:i=j
   .subst e2;have k:=ou (A:=A.in1) (s:={v,g,d,m,r}) i u i z prog w;rw[beq_self_eq_true] at k
    wp_walk using iE J,iE M,c,k
    exact{_,Z,by simpa[Builtin.Tuple.tupleCompareSizes] using h}
   .have k:=ou (A:=A.in1) (s:={v,g,d,m,r}) i u j z prog w;rw[show (i==j)=am from by simpa using e2] at k
    wp_walk using iE J,iE M,c,k,G
    exact{_,Z,by simpa using h}
  .have c:=oy (A:=A.in1) (s:={v,g,d,m,r}) x t y o prog w;rw[show (x==y)=am from by simpa using e] at c;unfold yM at h;rw[ak e] at h
   wp_walk using iE J,iE M,c,I
   exact{_,Z,by simpa using h}
end
section
variable {w:av}
def Aq.lt{es:Array DictEntry}{c:Nat}(x:Aq h d es c):d<h.objs.size:=let ⟨_,ho,_⟩:=x;bS ho
theorem Q6{d:af}{es:Array DictEntry}{ep:Nat}(lo:(d==sysModules)=am):W.KdlSrc P w "dict" d d es.size (λi v=>∃e,es[i]?=Y e/\v=e.key) (λh=>Aq h d es ep) where
 type:=λ_ c=>c.type
 there:=λ_ c=>{c.lt,c.lt}
 keep:=λ_ _ c k=>c.at λo e=>k d (.inl Z) o e
 notList:=by lia
 notTuple:=by lia
 hint:=λ_ _ _ _ c g=>W.kdl_hint_dict c.type g
 iter:=λ_ _ l c=>{_,_,(λ_ _ g=>zbn lo c g),zeI l _ d (b8 c.lt) es ep,{{_,bJ _ Z,Z,Z},c.at λo e=>bg _ e}}
def Wp{G:Nat->aq->Prop}{M:aw->Prop}{R:zX->ap->Prop}(K:W.KdlSrc P w T r d n G M)(hh:A.handled=L)(y:M s.heap)(hn:n<=Bb)(h:∀(m:aw)(u:Nat)(I:zX),(∀b o,s.heap.get? b=Y o->m.get? b=Y o)->I.length=n->(∀j v,I[j]?=Y v->G j v)->R I { s with heap:=m,toks:=u }) :
  Bf (Bg P w) A (collect (.ref r)) R E s:=by
 have #[O,ld]:=K.there _ y;unfold collect;refine bb (wpAny_runValue (fV si ?_));rw[eu nY _];show Bf _ A.in1 (newList [] >>= λl=>again (.builtin "list.__iadd__" {[l,.ref r],[]})) _ _ s;refine bb (dE ?_);refine bu {iL gO _,fV entry_list_iadd' ?_};rw[eu gO _];have hS:(s.heap.push { cls:=.type "list",data:=.seq ([]:zX).toArray }).get? s.heap.objs.size=Y { cls:=.type "list",data:=.seq #[] }:=bJ _ rfl;show Bf _ A.in1 (dW (.ref s.heap.objs.size) (.ref r) (.ref s.heap.objs.size)) _ _ _;have J:=W.kdl_extend (A:=A) (s:={ s with heap:=s.heap.push { cls:=.type "list",data:=.seq ([]:zX).toArray } }) (R:=λ(q:aC)(D:ap)=>∃(m:aw)(u:Nat)(k:Array aq)(c:Nat),q=.ok (.ret (.ref s.heap.objs.size))/\D={ s with heap:=m,toks:=u } /\
   (∀b o,s.heap.get? b=Y o->m.get? b=Y o)/\m.get? s.heap.objs.size=Y { cls:=.type "list",dict:=L,data:=.seq k c,slots:=#[] }/\ItemsOf G k n) K hh (K.keep _ _ y λb _ o e=>bg _ e) s.heap.objs.size (eM O) (eM ld) (.ref s.heap.objs.size) 0 hS
  (λm u k c z t g=>{m,u,k,c,Z,Z,λb o e=>z b o (b8 (bS e)) (bg _ e),t,g}) hn
 refine eL J (λfin D x=>?_) λe D x=>?_
 .cases fin with
  |done f=>
   have #[m,u,k,c,e,rfl,z,t,g]:=x;cases e;show Bf _ A (load s.heap.objs.size >>= _) _ _ _;refine bb (rT t ?_);exact bu (h m u k.toList z (by rw[cL];exact g.1) λj v e=>g.2 j v (by rw[<-dI];exact e))
  |again c=>
   refine{x.1,ii x.2 λq D x=>?_};have #[m,u,k,c,rfl,rfl,z,t,g]:=x;show Bf _ A (load s.heap.objs.size >>= _) _ _ _;refine bb (rT t ?_);exact bu (h m u k.toList z (by rw[cL];exact g.1) λj v e=>g.2 j v (by rw[<-dI];exact e))
 .have #[m,u,k,c,e',_]:=x;cases e'
end
def zI(q:Str×Int):xO:=[.inr q.1,.inl q.2]
abbrev ziY:RC:=λxs H Q=>∃(a:af)(c:yd)(d:List (Str×Int)),xs=[.ref a]/\H a=Y (.dT c)/\c.map (·.1)=d.map zI/\c.length<1000 /\
 ∀(l:af)(ps:List (af×(Str×Int))),H l=L->(ps.map (·.2)).Perm d->(ps.map (·.2)).Pairwise (λa b=>yM a b=U)->(∀n∈ps,H n.1=Y (.tup [.str n.2.1,.int n.2.2]))->Q (.ref l) (upd H l (.lst (ps.map λn=>V.ref n.1)))
theorem xz{k g:Type}{F:k->g->Prop}:∀ {d:List k}{c:List g},Bl F d c->∀ {i:Nat}{a:k}{b:g},d[i]?=Y a->c[i]?=Y b->F a b
 |_,_,.nil,i,a,b,h,_=>by simp at h
 |_,_,.cons x r,0,a,b,h1,h2=>by simp only[lO,mz] at h1 h2;subst h1 h2;exact x
 |_,_,.cons x r,i+1,a,b,h1,h2=>xz r (by simpa using h1) (by simpa using h2)
def AV.keep{q:Str×Int}(x:AV h v q)(k:∀b o,h.get? b=Y o->h'.get? b=Y o):AV h' v q:=by have #[a,o,t,u,n,e,c,r]:=x;exact{a,o,t,u,n,e,k _ _ c,r}
def zbp{σ:St}{H:Hp}{s:ap}{a:af}{q:Str×Int}(I:aL X aa σ H s)(h:H a=Y (.tup [.str q.1,.int q.2])):AV s.heap (.ref a) q:=by
 have #[d,c,#[o,g,l,n,k],_]:=I.tuple (uZ.of h);cases c with
 |cons r1 rr=>
  cases rr with
  |cons r2 rn=>
   cases rn;have #[t,rfl]:=r1;have #[u,rfl]:=r2;exact{a,o,t,u,n,Z,g,l,k}
theorem xX{c d:Type}{f:c->d}:∀ {l:List c},(l.map f).Nodup->l.Nodup
 |[],_=>cY
 |a::r,h=>by rw[bB,cw] at h;exact cw.mpr {λz=>h.1 (bE z),xX h.2}
theorem Y6(hc:X.c=U):qO X (.builtin "sorted") ziY:=by
 intro aa s σ H xs us Q I r h;have #[a,y,qs,rfl,ha,hk,aP,q]:=h;have #[u,rfl,ru]:=Zn r;cases ru;have #[hz,lo,xs,D,o,es,ep,ho,m,hd,he,hn]:=(show aU X.p X.w H s.heap a (.dT y) from I.hok a _ ha);have hh:X.A.handled=L:=I.ok.hd hc;have lk:y.length=qs.length:=by have:=congrArg gM hk;simpa using this
 have lx:y.length=xs.length:=bG D;have al:es.size=xs.length:=by rw[<-cL,he,bn]
 have ac:∀(i:Nat)(x:xO×af×aq),xs[i]?=Y x->∃q,qs[i]?=Y q/\x.1=zI q/\H x.2.1=Y (.tup [.str q.1,.int q.2]):=λi x m=>by
  have d:=(bd.mp m).1;obtain⟨kv,g⟩:∃kv,y[i]?=Y kv:={_,ba ()};obtain⟨q,w⟩:∃q,qs[i]?=Y q:={_,ba ()};have rl:=xz D g m;have k:kv.1=zI q:=by
   have k:(y.map (·.1))[i]?=Y kv.1:=by rw[bF,g];rfl
   have t:(qs.map zI)[i]?=Y (zI q):=by rw[bF,w];rfl
   rw[hk,t] at k;exact(bU k).symm
  refine{q,w,by rw[<-rl.1,k],?_};have:=rl.2.1;rw[k] at this;exact this
 have nq:qs.Nodup:=by
  refine xX (f:=zI) ?_;have e:xs.map (·.1)=qs.map zI:=by
   rw[<-hk];apply fS;intro i;rw[bF,bF];cases m:xs[i]? with
   |none=>
    have:xs.length<=i:=by simpa using m
    rw[cR (by lia:y.length<=i)];rfl
   |some x=>
    have d:=(bd.mp m).1;have g:y[i]?=Y y[i]:=ba ();rw[g];have:=(xz D g m).1;simp[this]
  rw[<-e];exact hn
 have vv:∀(i:Nat)(v:aq)(q:Str×Int),(xs.map λx=>bY x.2.1)[i]?=Y v->qs[i]?=Y q->AV s.heap v q:=λi v q hv w=>by rw[bF] at hv;have #[x,m,rfl]:=cr.mp hv;have #[q',ag,_,hH]:=ac i x m;rw[w] at ag;cases ag;exact zbp I hH
 have T:(xs.map λx=>bY x.2.1).length=qs.length:=by rw[bn];lia
 have O:∀i,i<qs.length->AV s.heap ((xs.map λx=>bY x.2.1).getD i da) (qs.getD i ("",0)):=λi d=>by
  refine vv i _ _ ?_ ?_
  .rw[bD,ba (by rw[T];exact d)];rfl
  .rw[bD,ba d];rfl
 have S:=V0 nq;rw[<-T] at S;refine zbl (vs:=xs.map λx=>bY x.2.1) (κ:=tuples' U) (by rw[bn];lia) S (λR hR=>?_) (λh2 h l Q' M q'=>?_) (λh l i j C M d G J q'=>?_) λh l h' p c k1 k2 hD hp hr=>?_
 .refine Wp (Q6 (ep:=ep) (es:=es) lo) hh {o,ho,m,hd} (by rw[al];lia) λh' l vs M hl hG=>?_;have ev:vs=xs.map λx=>bY x.2.1:=by
   apply fS;intro i;by_cases d:i<vs.length
   .have #[e,ar,ek]:=hG i vs[i] (ba d);have t:es.toList[i]?=Y e:=by rw[dI];exact ar
    rw[he,bF] at t;have #[x,an,ex]:=cr.mp t;rw[ba d,ek,bF,an,<-ex];rfl
   .rw[cR (),cR (by rw[bn];lia)]
  rw[ev];exact hR h' l M
 .exact zcE (s:={ s with heap:=h,toks:=l }) T (λi v q hv w=>(vv i v q hv w).keep M) () q'
 .rw[T] at d G;refine zeH (s:={ s with heap:=h,toks:=l }) ((O i d).keep M) ((O j G).keep M) q' λz=>J ?_;rw[bD,bD,ba d,ba G] at z;exact(mV nq).mp z
 .have I1:aL X aa σ H { s with heap:=h,toks:=l }:=I.kept k1;have ps:∃ps:List (af×(Str×Int)),ps.map (λn=>bY n.1)=jA (xs.map λx=>bY x.2.1) p/\ps.map (·.2)=p.toList.map (λi=>qs.getD i ("",0))/\∀n∈ps,H n.1=Y (.tup [.str n.2.1,.int n.2.2]):=by
   have pl:∀i∈p.toList,i<xs.length:=λi d=>by
    have:i∈p:=by simpa using d
    have:=(tq hp).mp this;rw[bn] at this;simpa using this
   refine{p.toList.map λi=>((xs.getD i ([],0,.none)).2.1,qs.getD i ("",0)),?_,by rw[eQ];rfl,λn hn=>?_}
   .unfold jA;rw[eQ];refine dR λi d=>?_;have:=pl i d;simp[bD,bF,ba this]
   .have #[i,d,rfl]:=bK.mp hn;have hl:=pl i d;have #[q,w,_,hH]:=ac i xs[i] (ba hl);have k:xs.getD i ([],0,.none)=xs[i]:=by rw[bD,ba hl];rfl
    have t:qs.getD i ("",0)=q:=by rw[bD,w];rfl
    show H (xs.getD i ([],0,.none)).2.1=Y (.tup [.str (qs.getD i ("",0)).1,.int (qs.getD i ("",0)).2]);rw[k,t];exact hH
  have #[ps,k,t,ai]:=ps;have vr:aQ (ps.map λn=>V.ref n.1) (ps.map λn=>bY n.1):=by
   clear k t ai;induction ps with
   |nil=>exact .nil
   |cons n r ih=>exact .cons Z ih
  have aj:p.size=xs.length:=by have:=hp.size;rw[bn] at this;exact this
  have az:ps.length=xs.length:=by have:=congrArg gM k;unfold jA at this;simpa[aj] using this
  have I2:aL X aa σ (upd H h.objs.size (.lst (ps.map λn=>V.ref n.1))) { s with heap:=h',toks:=l }:=I1.laid (s:={ s with heap:=h,toks:=l }) (a:=h.objs.size) (o:=.lst (ps.map λn=>V.ref n.1)) (t':=l) k2 (bq _)
   {by rw[bn];lia,ps.map λn=>bY n.1,c,vr,by rw[k];exact hD}
  refine{.ref h.objs.size,_,I2,Z,q _ ps (I1.hok.fresh (bq _)) ?_ ?_ ai}
  .rw[t];have pr:p.toList.Perm (e9 qs.length):=by have:=eY.mp hp;rw[T] at this;simpa using this
   refine(pr.map _).trans ?_;have:(e9 qs.length).map (λi=>qs.getD i ("",0))=qs:=by
    apply fS;intro i;rw[bF];by_cases d:i<qs.length
    .rw[nX d,ba d];simp[bD,ba d]
    .rw[cR (by simpa using d),cR ()];rfl
   rw[this]
  .rw[t,gI,dC];intro i j d G J;rw[cL] at d G;have g1:=vX d;have g2:=vX G;have r:=hr i j J (by rw[bn];lia);have x1:p.toList[i]=gt p i:=by rw[cV d] at g1;simpa using g1
   have x2:p.toList[j]=gt p j:=by rw[cV G] at g2;simpa using g2
   rw[x1,x2];exact r
def Itd(a:af)(o:Obj)(c:yd):It:=
 {λi H=>H a=Y (.frz o (.dT c))/\i<c.length,λi H x d=>d=H/\∃k v p,c[i]?=Y (k,v)/\x=.ref p/\H p=Y (.tup (k.map kV)),λi H=>H a=Y (.frz o (.dT c))/\c.length<=i}
theorem Q7{σ:St}{H:Hp}{s:ap}{a:af}{o:Obj}{c:yd}(I:aL X aa σ H s)(G:H a=Y (.frz o (.dT c))) :
  (a==sysModules)=am/\∃(es:Array DictEntry)(h:Nat),o.data=.dict es h/\Aq s.heap a es h/\es.size=c.length/\∀(i:Nat)(e:DictEntry),es[i]?=Y e->∃(k:xO)(v:V)(p:af),c[i]?=Y (k,v)/\e.key=bY p/\H p=Y (.tup (k.map kV)):=by
 have #[q,O,lo,xs,d,M,es,h,l,z,t,r,T]:=(show aU X.p X.w H s.heap a (.frz o (.dT c)) from I.hok a _ G);rw[q] at l;cases l;have lx:c.length=xs.length:=bG d;have y:es.size=xs.length:=by rw[<-cL,r,bn]
 refine{lo,es,h,t,{o,q,z,t},(),λi e D=>?_};have u:es.toList[i]?=Y e:=by rw[dI];exact D
 rw[r,bF] at u;have #[x,g,J]:=cr.mp u;have hl:=(bd.mp g).1;have m:c[i]?=Y c[i]:=ba ();have w:=xz d m g;refine{c[i].1,c[i].2,x.2.1,m,by rw[<-J];rfl,w.2.1}
theorem zcF{P:au}{w:av}{K:bL}{tg:ay}{a it:af}{o:Obj}{aI:yd}{es:Array DictEntry}{ep:Nat}(hd:o.data=.dict es ep) :
  zaJ P w K tg (Itd a o aI) [it] it (λi h=>h.IsKeyIter it a i es.size ep) where
 mem:=by simp
 obj:=λi h l b q=>by
  have e:b=it:=by simpa using q
  subst e;have #[o,e,c,d]:=l;exact{o,e,λv z=>by rw[d] at z;cases z}
 keep:=λi h y l k=>l.at λo e=>k it (by simp) o e
 item:=by intro X M D O hc i aa s σ H E I u l G;subst M D O;have #[J,hi]:=G;have #[lo,ac,ag,g,m,hs,t]:=Q7 I J;rw[hd] at g;cases g;have #[f0,f1,f2,f3,f4,T]:=u it (by simp);have hx:es[i]?=Y es[i]:=cV ();have #[k,v,p,hk,ek,hp]:=t i _ hx;refine zbo l m hx λy r sb=>?_;have I1:aL X aa σ H { s with heap:=y }:=I.turned (t':=s.toks) (λb o q e=>(sb.2 b q).trans e) f0 f1 f3 f4 T;have #[o',e,c,d]:=id r;exact{_,Z,zaK (s:={ s with heap:=y }) e c d () {.ref p,H,I1,by rw[ek];rfl,{Z,k,v,p,hk,Z,hp},r,λb q=>(u b q).1}}
 done:=by intro X M D O hc i aa s σ H E I u l G;subst M D O;have #[J,hi]:=G;have #[lo,ac,ag,g,m,hs,t]:=Q7 I J;rw[hd] at g;cases g;have #[f0,f1,f2,f3,f4,T]:=u it (by simp);exact zdF (I.ok.hd hc) l m () λy eb=>{Z,I.turned (t':=s.toks) (λb o q e=>eb b o q e) f0 f1 f3 f4 T}
 self:=λ_ _ _ _ _ l h=>sg l h
def iDT(g:TE):TI:=λσ H R=>g σ H λx d=>∃a o c,x=.ref a/\d a=Y (.frz o (.dT c))/\R (Itd a o c) d
theorem zgj{k:TE}(u:PE X l k):PI X tg l (iDT k):=by
 intro aa s σ H R I h;refine aX (u aa s σ H _ I h) ?_;rintro v c ⟨x,D,d,m,r⟩;have #[a,o,M,e,z,q]:=r;subst e;cases m;have #[lo,es,J,w,g,G,t]:=Q7 d z;refine zbn lo g ?_;refine{c.heap.objs.size,[c.heap.objs.size],_,_,D,Z,d.kept (t':=c.toks) λb o e=>bg _ e,zcF w,{_,bJ _ Z,Z,Z},λb y=>?_,q};have e:b=c.heap.objs.size:=by simpa using y
 subst e;exact d.fpOk (bq _) (d.hok.fresh (bq _))
def zgk:HO->Prop
 |.tup _=>False
 |.own _=>False
 |.tbl _=>False
 |_=>True
def aL.relab{σ:St}{H:Hp}{s:ap}{a:af}{u G:HO}(I:aL X aa σ H s)(l:H a=Y u)(k:zgk u)(O:∀o z,X.H₀ a≠Y (.frz o z))(M:aU X.p X.w (upd H a G) s.heap a G):aL X aa σ (upd H a G) s:=by
 have t:∀b,H b=L->b≠a:=λb n z=>by subst z;rw[n] at l;cases l
 have d:∀b xs,H b=Y (.tup xs)->b≠a:=λb xs q z=>by subst z;rw[l] at q;cases q;exact k
 have h:∀b y,H b=Y (.own y)->b≠a:=λb y q z=>by subst z;rw[l] at q;cases q;exact k
 have g:∀b y,H b=Y (.tbl y)->b≠a:=λb y q z=>by subst z;rw[l] at q;cases q;exact k
 refine{I.ok,I.os,I.bare,{I.base.keep,I.base.slot,λb o q n D=>?_,I.base.there,λb xs q=>?_,λb o z q=>?_,λb ps q=>?_},I.loc,I.cell,?_,λx c e=>?_,λp k=>?_,λb v q=>?_,I.len}
 .have:=I.base.free b o q n D;rw[zt (t b this)];exact this
 .have:=I.base.tups b xs q;rw[zt (d b xs this)];exact this
 .have:=I.base.frzs b o z q;rw[zt (λe=>O o z (by rw[<-e];exact q))];exact this
 .have #[m,e]:=I.base.tbls b ps q;exact{m,by rw[zt (g b _ e)];exact e}
 .rw[zt (t _ I.free)];exact I.free
 .have:=I.freeC x c e;rw[zt (t _ this)];exact this
 .have #[h1,J,T]:=I.pin p k;exact{h1,by rw[zt (t _ J)];exact J,T}
 .by_cases D:b=a
  .subst D;rw[zo] at q;cases q;exact M
  .rw[zt D] at q;exact(I.hok b v q).stay (λ_ _ _ r=>r) (λc r=>by rw[zt (h c b r)];exact r) λc xs r=>by rw[zt (d c xs r)];exact r
def zk5(t:TS):TS:=λD σ H=>∃a g h,H a=Y g/\(g=.dT h\/∃o,g=.frz o (.dT h))/\∀o,t
 {λc d=>d a=Y (.frz o (.dT h))/\D.nx c (upd d a g),λv d=>d a=Y (.frz o (.dT h))/\D.rt v (upd d a g),λc d=>d a=Y (.frz o (.dT h))/\D.bk c (upd d a g),λc d=>d a=Y (.frz o (.dT h))/\D.ct c (upd d a g)} σ (upd H a (.frz o (.dT h)))
def aU.upd_dT{w:av}{H:Hp}{h:aw}{a:af}{k:yd}{u l:HO}(g:H a=Y u)(d:zgk u)(x:aU P w H h a (.dT k)):aU P w (upd H a l) h a (.dT k):=by
 refine x.stay (λ_ _ _ r=>r) (λc r=>?_) λc xs r=>?_
 .rw[zt λz=>by subst z;rw[g] at r;cases r;exact d];exact r
 .rw[zt λz=>by subst z;rw[g] at r;cases r;exact d];exact r
def zjJ{J:ax}{t:TS}(y:PS X J t):PS X J (zk5 t):=by
 rintro aa s σ H D I ⟨a,u0,l,m,u,h⟩;have pl:zgk u0:=by obtain rfl|⟨o,rfl⟩:=u <;> trivial
 have O:∃o,s.heap.get? a=Y o/\(u0=.dT l\/u0=.frz o (.dT l)):=by
  obtain rfl|⟨o,rfl⟩:=u
  .have #[hz,lo,xs,M,o,es,ep,G,_]:=(show aU X.p X.w H s.heap a (.dT l) from I.hok a _ m);exact{o,G,.inl Z}
  .exact{o,(show aU X.p X.w H s.heap a (.frz o (.dT l)) from I.hok a _ m).1,.inr Z}
 have #[o,G,u]:=O;have T:aL X aa σ (upd H a (.frz o (.dT l))) s:=by
  obtain rfl|rfl:=u
  .refine I.relab m trivial (λw z q=>?_) {G,aU.upd_dT m trivial (I.hok a _ m)};have:=I.base.frzs a w z q;rw[m] at this;cases this
  .have e:upd H a (.frz o (.dT l))=H:=by
    funext b;unfold upd;split
    .next z=>rw[z];exact m.symm
    .rfl
   rw[e];exact I
 have g:∀ {d:St}{H':Hp}{s':ap},aL X aa d H' s'->H' a=Y (.frz o (.dT l))->aL X aa d (upd H' a u0) s':=λ{d H' s'} k c=>by
  obtain rfl|rfl:=u
  .refine k.relab c trivial (λw z q=>?_) (aU.upd_dT c trivial (show aU X.p X.w H' s'.heap a (.frz o (.dT l)) from k.hok a _ c).2);have:=I.base.frzs a w z q;rw[m] at this;cases this
  .have e:upd H' a (.frz o (.dT l))=H':=by
    funext b;unfold upd;split
    .next z=>rw[z];exact c.symm
    .rfl
   rw[e];exact k
 refine aX (y aa s σ _ _ T (h o)) λf s' q=>?_;cases f with
 |next=>have #[d,H',k,c,q]:=q;exact{d,_,g k c,q}
 |brk=>have #[d,H',k,c,q]:=q;exact{d,_,g k c,q}
 |cont=>have #[d,H',k,c,q]:=q;exact{d,_,g k c,q}
 |ret v=>have #[x,d,H',k,r,c,q]:=q;exact{x,d,_,g k c,r,q}
def zcG{a:af}{o:Obj}(Pv:Nat->At)(h:Pv 0 σ H)(c:∀i σ H,Pv i σ H->H a=Y (.frz o (.dT aI)))(d:∀i k v p σ H,aI[i]?=Y (k,v)->H p=Y (.tup (k.map kV))->Pv i σ H->Bn (.ref p) σ H (Pv (i+1)))(g:∀σ H,Pv aI.length σ H->nx σ H) :
  FoP (Itd a o aI) nx Bn σ H:=VN Pv h (λi σ H l p=>{{c i σ H p,l},by rintro x m ⟨rfl,k,v,q,u,rfl,y⟩;exact d i k v q σ _ u y p}) λσ H p=>{{c _ σ H p,bq _},g σ H p}
mutual
inductive Dat(K:bL)(H:Hp):V->PyData->Prop
 |non:Dat K H .non .none
 |bl (b:Bool):Dat K H (.bl b) (.bool b)
 |int (i:Int):Dat K H (.int i) (.int i)
 |str (x:Str):Dat K H (.str x) (.str x)
 |lst {a:af} {xs:LV} {ds:List PyData}:aO K H a xs->XY K H xs ds->Dat K H (.ref a) (.list ds)
 |tup {a:af} {xs:LV} {ds:List PyData}:uZ K H a xs->XY K H xs ds->Dat K H (.ref a) (.tuple ds)
inductive XY(K:bL)(H:Hp):LV->List PyData->Prop
 |nil:XY K H [] []
 |cons {x:V} {d:PyData} {xs:LV} {ds:List PyData}:Dat K H x d->XY K H xs ds->XY K H (x::xs) (d::ds)
end
section
variable {H':Hp}
def aO.mono{a:af}{xs:LV}(k:aJ H H')(h:aO K H a xs):aO K H' a xs:=by
 obtain (h|⟨o,h⟩)|h:=h
 .exact .inl (.inl (k _ _ h))
 .exact .inl (.inr {o,k _ _ h})
 .exact .inr h
end
mutual
def zcH:PyData->Bool
 |.none=>U
 |.int _=>U
 |.str x=>dt x
 |.list xs=>Yf xs
 |.tuple xs=>Yf xs
 |.bool _=>am
 |.dict _=>am
def Yf:List PyData->Bool
 |[]=>U
 |x::xs=>zcH x&&Yf xs
end
abbrev zhR(c:Bool):R2:=λx y H Q=>∃a o,y=.ref a/\Ab H a x o/\Q (.bl (if c then !o.isSome else o.isSome)) H
def Vl(k:X.A.units+1<cLine):Av X (Bi .In) (zhR am):=by intro aa s σ H x y v u Q I d c h;have #[a,o,rfl,g,q]:=h;cases c;exact zlr k I g d λm l=>{.bl _,H,l,Z,q}
def V2(k:X.A.units+1<cLine):Av X (Bi .NotIn) (zhR U):=by intro aa s σ H x y v u Q I d c h;have #[a,o,rfl,g,q]:=h;cases c;exact zhA k I g d λm l=>{.bl _,H,l,Z,q}
abbrev Pl:=Str×Int
abbrev Row:=Pl×Int
abbrev zD:=List Row
def zE:zD->Pl->Option Int
 |[],_=>L
 |r::t,p=>(zE t p).or (if r.1=p then Y r.2 else L)
def Y7(c:yd)(q:Row):yd:=xo c (zI q.1) (.int q.2)
def uU(c:zD):yd:=c.foldl Y7 []
theorem y9{p q:Pl}(h:zI p=zI q):p=q:=by unfold zI at h;simp only[nZ,Sum.inr.injEq,Sum.inl.injEq,and_true] at h;exact tE h.1 h.2
theorem zbq:∀(d:zD)(c:yd)(p:Pl),yt (d.foldl Y7 c) (zI p)=((zE d p).map V.int).or (yt c (zI p))
 |[],_,_=>rfl
 |r::t,c,p=>by
  rw[fA,zbq t,zE];show _=_;rw[Y7,VB];cases zE t p with
  |some w=>rfl
  |none=>
   by_cases e:r.1=p
   .subst e;simp
   .rw[ak (λz=>e (y9 z).symm)];simp[e]
def wN(c:zD)(p:Pl):yt (uU c) (zI p)=(zE c p).map V.int:=by unfold uU;rw[zbq,zaQ];cases zE c p <;> rfl
def Zu(c:zD)(q:Row):uU (c++[q])=xo (uU c) (zI q.1) (.int q.2):=by unfold uU;rw[List.foldl_append];rfl
def OkKv(c:yd):Prop:=(c.map (·.1)).Nodup/\∀d∈c,∃(p:Pl)(w:Int),d=(zI p,.int w)
def OkKv.put(h:OkKv aI)(p:Pl)(w:Int):OkKv (xo aI (zI p) (.int w)):=by
 cases e:yt aI (zI p) with
 |none=>
  refine{zhC _ h.1 e,λc hk=>?_};rw[jr _ e] at hk;obtain hk|hk:=bp.mp hk
  .exact h.2 c hk
  .exact{p,w,bo.mp hk}
 |some v=>
  have q:(aI.any λc=>decide (c.1=zI p))=U:=by rw[vV,e];rfl
  unfold xo;rw[ao q];constructor
  .rw[eQ];have:((λx:xO×V=>x.1) ∘ λc:xO×V=>if c.1=zI p then (c.1,V.int w) else c)=λx=>x.1:=by
    funext c
    show (if c.1=zI p then (c.1,V.int w) else c).1=c.1;split <;> rfl
   rw[this];exact h.1
  .intro c hk;have #[z,d,rfl]:=bK.mp hk;by_cases e:z.1=zI p
   .exact{p,w,by rw[ao e,e]}
   .rw[ak e];exact h.2 z d
theorem Qb:∀(d:zD)(c:yd),OkKv c->OkKv (d.foldl Y7 c)
 |[],_,h=>h
 |r::t,c,h=>Qb t _ (h.put r.1 r.2)
def jB(c:zD):OkKv (uU c):=Qb c [] {cY,λ_ h=>nomatch h}
theorem zhS(c:yd)(k:xO)(v:V):(xo c k v).length<=c.length+1:=by
 unfold xo;split
 .rw[bn];lia
 .rw[bh];simp
theorem zbr:∀(d:zD)(c:yd),(d.foldl Y7 c).length<=c.length+d.length
 |[],_=>by simp
 |r::t,c=>by
  have:=zbr t (Y7 c r);have:=zhS c (zI r.1) (.int r.2);rw[fA,b7];unfold Y7 at *
  lia
theorem wO(c:zD):(uU c).length<=c.length:=by have:=zbr c [];simpa[uU] using this
def Q8{d:yd}:(d.map (·.1)).Nodup->∀c∈d,yt d c.1=Y c.2:=by
 induction d with
 |nil=>exact λ_ c h=>nomatch h
 |cons a r ih=>
  intro g c hk;rw[bB,cw] at g;obtain rfl|hk:=bC.mp hk
  .exact xt rfl
  .rw[xu λz=>g.1 (by rw[z];exact bE hk)];exact ih g.2 c hk
def As :kv∈uU ah↔∃p w,kv=(zI p,.int w)/\zE ah p=Y w:=by
 constructor
 .intro h;have #[p,w,rfl]:=(jB ah).2 kv h;have:=Q8 (jB ah).1 _ h;rw[wN] at this;have #[k,c,d]:=cr.mp this;cases d;exact{p,w,Z,c}
 .rintro⟨p,w,rfl,h⟩;have e:yt (uU ah) (zI p)=Y (.int w):=by rw[wN,h];rfl
  have #[kv,g,c]:=bK.mp (zdn e);have:=Q8 (jB ah).1 _ g;rw[c,e] at this;have d:kv=(zI p,V.int w):=tE c (bU this).symm;rw[<-d];exact g
theorem jV(a:Pl):yM a a=am:=by unfold yM;rw[ao rfl];exact Bk ()
theorem J4{a b c:Pl}(g:yM a b=U)(d:yM b c=U):yM a c=U:=by
 unfold yM at *
 by_cases e1:a.1=b.1
 .rw[ao e1] at g;by_cases e2:b.1=c.1
  .rw[ao e2] at d;rw[ao (e1.trans e2)];have g:=of_decide_eq_true g;have d:=of_decide_eq_true d;exact Bj ()
  .rw[ak e2] at d;rw[ak (by rw[e1];exact e2),e1];exact d
 .rw[ak e1] at g;have g:=of_decide_eq_true g;by_cases e2:b.1=c.1
  .rw[ak (by rw[<-e2];exact e1),<-e2];exact Bj g
  .rw[ak e2] at d;have d:=of_decide_eq_true d;have h:=List.lt_trans g d;rw[ak (λz=>by rw[z] at h;exact List.lt_irrefl _ h)];exact Bj h
def Ae(l:zD):Prop:=l.Pairwise λa b=>yM a.1 b.1=U
def wD(d c:zD):Prop:=Ae c/\∀p w,(p,w)∈c↔zE d p=Y w/\w≠0
def Ae.nd{l:zD}(h:Ae l):(l.map (·.1)).Nodup:=by unfold gJ;rw[gI];exact oS (λ{a b} h z=>by rw[z,jV] at h;cases h) h
theorem Qc{p:Pl}:∀ {l:zD},(∀r∈l,r.1≠p)->zE l p=L
 |[],_=>rfl
 |r::t,h=>by rw[zE,Qc λr c=>h r (bt _ c),ak (h r bw)];rfl
theorem qx{p:Pl}{w:Int}:∀ {l:zD},(l.map (·.1)).Nodup->(zE l p=Y w↔(p,w)∈l)
 |[],_=>by simp[zE]
 |r::t,hn=>by
  rw[bB,cw] at hn;have d:=qx (p:=p) (w:=w) hn.2;by_cases e:r.1=p
  .have z:zE t p=L:=Qc λq g c=>hn.1 (by rw[e,<-c];exact bE g);rw[zE,z,ao e];constructor
   .intro h;have:r.2=w:=by simpa using h
    rw[<-e,<-this];exact bw
   .intro h;obtain h|h:=bC.mp h
    .rw[<-h];rfl
    .exact absurd (bE (f:=(·.1)) h) (by rw[<-e];exact hn.1)
  .rw[zE,ak e,Option.or_none,d,bC];constructor
   .exact .inr
   .rintro(h|h)
    .exact absurd (by rw[<-h]) e
    .exact h
def zhT(h:wD ah out)(p:Pl):(zE out p).getD 0=(zE ah p).getD 0:=by
 have k:=λw=>qx (p:=p) (w:=w) h.1.nd;cases e:zE ah p with
 |none=>
  cases e':zE out p with
  |none=>rfl
  |some w=>
   have:=(h.2 p w).mp ((k w).mp e');rw[e] at this;cases this.1
 |some w=>
  by_cases hw:w=0
  .subst hw;cases e':zE out p with
   |none=>rfl
   |some w'=>
    have:=(h.2 p w').mp ((k w').mp e');rw[e] at this;cases this.1;exact absurd Z this.2
  .rw[(k w).mpr ((h.2 p w).mpr {e,hw})]
theorem YE:∀ {a b:zD},Ae a->Ae b->(∀x,x∈a↔x∈b)->a=b
 |[],[],_,_,_=>rfl
 |[],y::_,_,_,h=>absurd ((h y).mpr bw) (by simp)
 |x::_,[],_,_,h=>absurd ((h x).mp bw) (by simp)
 |x::a,y::b,ha,hb,h=>by
  unfold Ae at ha hb;rw[tF] at ha hb;have e:x=y:=by
   obtain e|e:=bC.mp ((h x).mp bw)
   .exact e
   .obtain e'|e':=bC.mp ((h y).mpr bw)
    .exact e'.symm
    .have:=J4 (ha.1 y e') (hb.1 x e);rw[jV] at this;cases this
  subst e;have nx:x ∉ a:=λz=>by have:=ha.1 x z;rw[jV] at this;cases this
  have d:x ∉ b:=λz=>by have:=hb.1 x z;rw[jV] at this;cases this
  rw[YE ha.2 hb.2 λz=>?_];constructor
  .intro c;obtain e|e:=bC.mp ((h z).mp (bt _ c))
   .subst e;exact absurd c nx
   .exact e
  .intro c;obtain e|e:=bC.mp ((h z).mpr (bt _ c))
   .subst e;exact absurd c d
   .exact e
def zgl(h:wD ah out):wD out out:=
 {h.1,λp w=>{λm=>{(qx h.1.nd).mpr m,((h.2 p w).mp m).2},λm=>(qx h.1.nd).mp m.1}}
theorem xE{c:Type}[DecidableEq c]:∀ {a b:List c},a.Nodup->(∀x∈a,x∈b)->a.length<=b.length
 |[],_,_,_=>cf _
 |x::a,b,hn,h=>by rw[cw] at hn;have g:=h x bw;have:=xE (a:=a) (b:=b.erase x) hn.2 λy d=>(sk λz=>hn.1 (by rw[<-z];exact d)).mpr (h y (bt _ d));rw[List.length_erase_of_mem g] at this;have:0<b.length:=List.length_pos_of_mem g;rw[b7];lia
def nzV(c:xO×V):Bool:=decide (c.2≠.int 0)
theorem zhU(h:wD ah out):((uU ah).filter nzV).length=out.length:=by
 have r:(((uU ah).filter nzV).map (·.1)).Nodup:=ie (f8 _ dD) (jB ah).1;have q:((out.map (·.1)).map zI).Nodup:=by
  have:=h.1.nd;unfold gJ at *
  rw[gI];exact this.imp λ{a b} o z=>o (y9 z)
 have g:∀k∈((uU ah).filter nzV).map (·.1),k∈(out.map (·.1)).map zI:=λk m=>by
  have #[D,c,rfl]:=bK.mp m;rw[cC] at c;have #[p,w,rfl,e]:=As.mp c.1;have l:w≠0:=λz=>by have:=of_decide_eq_true c.2;rw[z] at this;exact this rfl
  exact bE (bE (f:=(·.1)) ((h.2 p w).mpr {e,l}))
 have d:∀k∈(out.map (·.1)).map zI,k∈((uU ah).filter nzV).map (·.1):=λk m=>by have #[p,y,rfl]:=bK.mp m;have #[#[p,w],v,rfl]:=bK.mp y;have #[e,l]:=(h.2 p w).mp v;exact bK.mpr {(zI p,.int w),cC.mpr {As.mpr {p,w,Z,e},Bj (by simpa using l)},Z}
 have u:=xE r g;have t:=xE q d;simp only[bn] at u t;lia
def ZL(z a b i j p q:af)(k:Nat)(h:aw):Prop:=IsZip h z a b .none/\IsPair h a (.ref i) (.ref j)/\(∃u v,IsPair h b u v)/\h.IsListIter i p k/\h.IsListIter j q k
def zjK(K:bL)(p q:af)(xs c:LV):It:={λi H=>i<xs.length/\aO K H p xs/\aO K H q c,λi H x d=>∃T u v,x=.ref T/\H T=L/\d=upd H T (.tup [u,v])/\xs[i]?=Y u/\c[i]?=Y v,λi H=>xs.length<=i/\aO K H p xs/\aO K H q c}
theorem zeJ{P:au}{w:av}{K:bL}{ac:List ay}{x1}{pos:Pos}{z a b i j p q:af}{xs M:LV}(D:ZipApart z a b i j p q)(O:xs.length=M.length) :
  zaJ P w K (.Tuple ac x1 pos) (zjK K p q xs M) [z,a,b,i,j] z (ZL z a b i j p q) where
 mem:=by simp
 obj:=λk h r c d=>by
  have #[G,t,#[u,v,J],#[oi,m,ci,di],#[oj,l,cj,dj]]:=r;simp only[bC,cQ,or_false] at d;obtain rfl|rfl|rfl|rfl|rfl:=d
  .exact{_,G,λv z=>by cases z}
  .exact{_,t,λv z=>by cases z}
  .exact{_,J,λv z=>by cases z}
  .exact{_,m,λv z=>by rw[di] at z;cases z}
  .exact{_,l,λv z=>by rw[dj] at z;cases z}
 keep:=λk h h' r kk=>by have #[G,t,#[u,v,J],#[oi,m,ci],#[oj,l,cj]]:=r;exact{kk z (by simp) _ G,kk a (by simp) _ t,{u,v,kk b (by simp) _ J},{oi,kk i (by simp) _ m,ci},{oj,kk j (by simp) _ l,cj}}
 item:=by
  intro X hP hw hK d k aa s σ H E I hf r hg;subst hP hw hK;have #[g,h1,h2]:=hg;have #[us,r1,p1,_]:=I.list h1;have #[vs,r2,p2,_]:=I.list h2;have #[u,hu,ru]:=r1.get (i:=k) (x:=xs[k]) (ba g);have #[v,hv,rv]:=r2.get (i:=k) (x:=M[k]'(O ▸ g)) (ba (O ▸ g));have ag:∀c∈[z,b,i,j],c∈[z,a,b,i,j]:=λc d=>by simp only[bC,cQ,or_false] at d ⊢;obtain h|h|h|h:=d <;> simp[h]
  have aj:∀c∈[z,a,b,i,j],c≠s.heap.objs.size:=λc d=>by
   have #[G,t,#[u,v,J],#[oi,m,ci],#[oj,l,cj]]:=r;simp only[bC,cQ,or_false] at d;obtain rfl|rfl|rfl|rfl|rfl:=d
   .exact b8 (bS G)
   .exact b8 (bS t)
   .exact b8 (bS J)
   .exact b8 (bS m)
   .exact b8 (bS l)
  have #[G,t,#[u0,v0,J],m,l]:=r;refine wpAny_pyNext_zip_item D G t J m l p1.isList p2.isList (x:=u) (y:=v) (by simpa using hu) (by simpa using hv) λh z8 b5 i5 j5 t5 sz k5=>?_;have I6:aL X aa σ (upd H s.heap.objs.size (.tup [xs[k],M[k]'(O ▸ g)])) { s with heap:=s.heap.push { cls:=.type "tuple",data:=.seq #[u,v] } }:=
   I.laid (a:=s.heap.objs.size) (o:=.tup [xs[k],M[k]'(O ▸ g)]) (t':=s.toks) (λb u e=>bg _ e) (bq _) {(),[u,v],.cons ru (.cons rv .nil),{_,bJ _ Z,Z,_,Z}}
  have T:∀c∈[z,a,b,i,j],upd H s.heap.objs.size (HO.tup [xs[k],M[k]'(O ▸ g)]) c=L:=λc d=>by rw[zt (aj c d)];exact(hf c d).1
  have fz:∀c∈[z,a,b,i,j],Zg X aa (upd H s.heap.objs.size (HO.tup [xs[k],M[k]'(O ▸ g)])) c:=λc d=>{T c d,(hf c d).2};refine{.ref s.heap.objs.size,Z,oC z8 λh2 z9 ai=>?_};have up:∀c o,c≠z->h.get? c=Y o->h2.get? c=Y o:=λc o d e=>by rw[show h2.get? c=h.get? c from ai.2 c d];exact e
  have I7:aL X aa σ (upd H s.heap.objs.size (.tup [xs[k],M[k]'(O ▸ g)])) { s with heap:=h2 }:=I6.turnedL (s:={ s with heap:=s.heap.push { cls:=.type "tuple",data:=.seq #[u,v] } }) (t':=s.toks) (ch:=[z,b,i,j]) (λc o d e=>by
   simp only[bC,cQ,or_false,not_or] at d;refine up c o d.1 ?_;obtain ⟨rfl,rfl⟩|e:=ss (show (s.heap.push { cls:=.type "tuple",data:=.seq #[u,v] }).get? c=Y o from e)
   .exact t5
   .exact k5 c o d.1 d.2.1 d.2.2.1 d.2.2.2 e) λc d=>fz c (ag c d)
  refine{.ref s.heap.objs.size,_,I7,Z,{_,_,_,Z,I.hok.fresh (bq _),Z,ba g,ba (O ▸ g)},?_,T};have ka:h.get? a=_:=k5 a _ D.TIz D.TITO D.TIi1 D.TIi2 t;have #[oi,m,ci]:=i5;have #[oj,l,cj]:=j5;exact{z9,up a _ D.TIz ka,{_,_,up b _ D.TOz b5},{oi,up i _ D.i1z m,ci},{oj,up j _ D.i2z l,cj}}
 done:=by
  intro X hP hw hK d k aa s σ H E I hf r hg;subst hP hw hK;have #[g,h1,h2]:=hg;have #[us,r1,p1,_]:=I.list h1;have #[vs,r2,p2,_]:=I.list h2;have al:=r1.length;have #[G,t,#[u0,v0,J],m,l]:=r;refine wpAny_pyNext_zip_end (I.ok.hd d) D G t J m l p1.isList p2.isList (.inl (by simp;lia)) λh hk=>{Z,I.turnedL (t':=s.toks) (ch:=[z,b,i,j]) (λc o d e=>?_) λc d=>hf c ?_}
  .simp only[bC,cQ,or_false,not_or] at d;exact hk c o d.1 d.2.1 d.2.2.1 d.2.2.2 e
  .simp only[bC,cQ,or_false] at d ⊢;obtain h|h|h|h:=d <;> simp[h]
 self:=λ_ _ _ _ _ r h=>mY r.1 h
def zeK{p q:af}(xs c:LV)(Pv:Nat->At)(k:Pv 0 σ H)(d:∀i σ H,Pv i σ H->aO K H p xs/\aO K H q c)(g:∀i u v T σ H,xs[i]?=Y u->c[i]?=Y v->H T=L->Pv i σ H->Bn (.ref T) σ (upd H T (.tup [u,v])) (Pv (i+1)))(h:∀σ H,Pv xs.length σ H->nx σ H) :
  FoP (zjK K p q xs c) nx Bn σ H:=VN Pv k (λi σ H l p=>{{l,d i σ H p},by rintro x m ⟨T,u,v,rfl,y,rfl,a,b⟩;exact g i u v T σ H a b y p}) λσ H p=>{{bq _,d _ σ H p},h σ H p}
theorem Yg:plainId "dict.update.loop"=U:=by lia
def Qd:entryFor table "dict.update.loop"=Y Builtin.«dict.update.loop»:=entryFor_of_fast (by kernel_rfl)
def PrAt(H:Hp)(v:V)(q:Row):Prop:=∃r p,v=.ref r/\H r=Y (.tup [.ref p,.int q.2])/\H p=Y (.tup [.str q.1.1,.int q.1.2])
theorem zeL{σ:St}{H:Hp}{s:ap}{d b:af}{m:yd}{k:xO}{v:V}{u:aq}{E:Aa}{Q:Unit->ap->Prop}(O:A.units+1<cLine)(I:aL X aa σ H s)(e:H d=Y (.dT m))(G:H b=Y (.tup (k.map kV)))(l:m.length<Bb)(J:aR v u)(h:∀o t,aL X aa σ (upd H d (.dT (xo m k v))) { s with heap:=o,toks:=t }->de d s.heap o->Q PUnit.unit { s with heap:=o,toks:=t }):Bf (Bg X.p X.w) A.in1 (dictSet d (.ref b) u) Q E s:=by
 have #[z,hd,xs,g,dd]:=zaT I.hok e;have M:xs.length<=Bb:=by rw[<-bG g];exact z
 have T:(xo m k v).length<=Bb:=by have:=wY m k v;lia
 refine wpAny_dictSet_heap (hsz:=M) (eS O) (qo I.hok G) dd λo r w=>h _ _ ?_ w;have #[q,es,ep,y,h2,h3,h4,_,h5]:=r;refine Z9 I (by rw[e];exact fH) w {q,y} {T,hd,_,(g.put k G J).keeps λc ys D=>?_,q,es,ep,y,h2,h3,h4,h5};rw[zt (zQ D e ())];exact D
theorem zgm{σ:St}{H:Hp}{d it l:af}{xs:LV}{ah:zD}{res:aq}(hu:A.units+1<cLine)(hh:A.handled=L)(hd:H d=L)(hl:H l=Y (.lst xs))(hr:Bl (PrAt H) xs ah)(an:ah.length<=1000)(ac:it≠d)(aj:l≠it) :
  ∀(k i:Nat)(s:ap),ah.length-i=k->i<=ah.length->aL X aa σ (upd H d (.dT (uU (ah.take i)))) s->s.heap.IsListIter it l i->(∀u,Zg X aa (upd H d u) it) ->
  (∀s',aL X aa σ (upd H d (.dT (uU ah))) s'->R (.ok (.ret res)) s') ->
  codeAny (Bg X.p X.w) A (.builtin "dict.update.loop" {[.ref d,.ref it,rawInt i,res],[]}) R s:=by
 have lx:xs.length=ah.length:=bG hr;have S:∀u:HO,aJ H (upd H d u):=λu=>u5 (o:=u) d hd;intro k;induction k with
 |zero=>
  intro i s hk hi I w h fin;have e:i=ah.length:=by lia
  subst e;refine fV Qd ?_;rw[eu Yg _];show Bf _ A.in1 (pyNext (.ref it) >>= _) _ _ s;have #[D,z,p,hz]:=I.list (aO.of (S _ _ _ hl));have #[f0,f1,f2,f3,f4,O]:=h (.dT (uU (ah.take ah.length)));have al:=z.length;refine bb (rB hh w p.isList (by simp;lia) λh' eb=>?_);have g:=I.turned (t':=s.toks) (λb o M e=>eb b o M e) f0 f1 f3 f4 O;rw[cU] at g;show Bf _ A.in1 (Builtin.Dict.addKeywords d [] >>= _) _ _ _;exact bb (bu (bu (fin _ g)))
 |succ k ih=>
  intro i s hk hi I w h fin;have c:i<ah.length:=by lia
  refine fV Qd ?_;rw[eu Yg _];show Bf _ A.in1 (pyNext (.ref it) >>= _) _ _ s;have #[D,z,p,hz]:=I.list (aO.of (S _ _ _ hl));have #[f0,f1,f2,f3,f4,O]:=h (.dT (uU (ah.take i)));have hx:xs[i]?=Y xs[i]:=ba ();have hq:ah[i]?=Y ah[i]:=ba c;have #[r,pl,e1,t1,u1]:=xz hr hx hq;have #[u,G,ru]:=z.get hx;rw[e1] at ru;cases ru;refine bb (pY w p.isList (x:=.ref r) (by simpa using G) λh' t sb=>?_);have g:=I.turned (t':=s.toks) (λb o M e=>(sb.2 b M).trans e) f0 f1 f3 f4 O;have #[ai,tv,#[o,ho,hc,n,J],_]:=g.tuple (uZ.of (S _ _ _ t1));cases tv with
  |cons r1 rr=>
   cases rr with
   |cons r2 rn=>
    cases rn;cases r1;have #[q,rfl]:=r2;refine bb (fO ?_);have T:({ s with heap:=h' }:ap).TypeIs (.ref r) "tuple":={o,ho,hc};refine bb (wpAny_tryCatch ?_);unfold Builtin.Dict.pairItems;refine bb (ud T ?_);rw[ao ()];refine bb ?_;unfold seqItems?;refine bb (rT ho ?_);rw[J];refine bu (bu ?_);show Bf _ _ (holding [.ref pl,.int ah[i].2 q] (dictSet d (.ref pl) (.int ah[i].2 q))) _ _ _;refine fO ?_;have m:uU (ah.take (i+1))=xo (uU (ah.take i)) (zI ah[i].1) (.int ah[i].2):=by rw[cI,hq,<-Zu];rfl
    have l2:(uU (ah.take i)).length<Bb:=by have h1:=wO (ah.take i);have h2:=List.length_take_le' i ah;exact bM (by lia:_<=1000) ()
    refine zeL (k:=zI ah[i].1) (v:=.int ah[i].2) hu g zo (S _ _ _ u1) l2 {q,Z} λh2 ag I2 y=>?_;rw[Vc,<-m] at I2;refine bu {iL Yg _,ih (i+1) _ () c I2 (t.at λo e=>(y.2 it ac).trans e) h fin}
def Q9:typeLookup (.type "list") "keys"=pure L:=by rw[typeLookup_type,builtinLookup_eq_fast];kernel_rfl
section
variable {w:av}{a:af}{o:Obj}{xs:Array aq}{k:Nat}
theorem V3{Q:Option aq->ap->Prop}(v:s.heap.get? a=Y o)(z:o.cls=.type "list")(l:o.data=.seq xs k)(y:o.dict=L)(O:A.handled=L)(h:∀t u,(∀b r,s.heap.get? b=Y r->t.get? b=Y r)->Q L { s with heap:=t,toks:=u }):Bf (Bg prog w) A (getAttr? (.ref a) "keys") Q E s:=by
 have #[c,T,ac,G]:=o;simp only at z l y;subst z l y;have #[M,g,d,u,I]:=s;have D:∀m,({M,g,d,m,I}:ap).TypeIs (.ref a) "list":=λ_=>{_,v,Z};have f1:=sub_AttributeError;have f3:=F.slot_list_getattribute.lookup;have f4:=F.slot_list_getattribute.bind (.ref a);have f5:=am_list_getattr_none;unfold getAttr? getAttrBy? getAttrBy
 repeat (any_goals (first|assumption|exact D _|((with_reducible show Bf _ _ (call (Value.builtin "list.__getattribute__") _ _) _ _ _);refine iZ F.slot_list_getattribute (D _) am_entry_list_getattribute (F.args_list_getattribute_2 _ _) (meets_getattribute_miss_list a xs k G "keys" _ Q9 () ()) {v,O,λt m e q=>?_})|wp_step))
 have #[t',u',he]:=q.there;have J:=q.keeps;show Bf _ _ (getattributeRaised _ _ _ _ _ _ _) _ _ _;unfold getattributeRaised
 repeat (any_goals (first|assumption|wp_step))
 all_goals exact h _ _ λb r e=>J b r e
end
theorem hu3(r:uW k A):A.units+3<cLine:=by have:=za4 r;lia
abbrev zgn:RC:=λd H Q=>∃(a:af)(xs:LV)(c:zD),d=[.ref a]/\H a=Y (.lst xs)/\Bl (PrAt H) xs c/\c.length<=1000/\∀p,H p=L->Q (.ref p) (upd H p (.dT (uU c)))
theorem wP(hc:X.c=U)(hu:X.A.units+3<cLine):qO X (.type "dict") zgn:=by
 intro aa s σ H vs us Q I r h;have #[a,xs,ah,rfl,G,hr,hl,q]:=h;have #[u,rfl,ru]:=Zn r;cases ru;have hh:X.A.handled=L:=I.ok.hd hc;refine callType_codes (Q₁:=λv c=>v=.ref s.heap.objs.size/\c={ s with heap:=s.heap.push { cls:=.type "dict",data:=.dict #[] } }) F.kt_called_dict (F.kt_typeCall_dict_1 _) F.entry_dict_init (kt_code_dict_new _ {rfl,rfl}) ?_;rintro v c ⟨rfl,rfl⟩;have T0:({ s with heap:=s.heap.push { cls:=.type "dict",data:=.dict #[] } }:ap).TypeIs (.ref s.heap.objs.size) "dict":={_,bJ _ rfl,rfl};refine{T0,F.args_dict_init_2 _ _,?_};unfold Builtin.«dict.__init__»;refine bb ?_;unfold Builtin.Dict.selfAndRest;refine bb (gp T0 ?_);show Bf _ _ (pure (s.heap.objs.size,[bY a])) _ _ _;refine bu ?_;show Bf _ _ (pM "dict.__init__" s.heap.objs.size (.ref a) [] .none) _ _ _;unfold pM;have D:H s.heap.objs.size=L:=I.hok.fresh (bq _);have S:∀u:HO,aJ H (upd H s.heap.objs.size u):=λu=>u5 (o:=u) _ D;have I1:aL X aa σ (upd H s.heap.objs.size (.dT [])) { s with heap:=s.heap.push { cls:=.type "dict",data:=.dict #[] } }:=
  I.laid (a:=s.heap.objs.size) (o:=.dT []) (t':=s.toks) (λb o z=>bg _ z) (bq _) (zaW s.heap I.big)
 have #[ag,rv,pl,_]:=I1.list (aO.of (S _ _ _ G));have #[o,n,T,J,od,t]:=id pl;have T1:({ s with heap:=s.heap.push { cls:=.type "dict",data:=.dict #[] } }:ap).TypeIs (.ref a) "list":={o,T,J};refine bb (ud T1 ?_);rw[ao ()];refine bb (V3 T J t od (by exact hh) λk g M=>?_);rw[ao (show (L:Option aq).isNone=U from rfl)];refine bb (fZ ?_);have w:aL X aa σ (upd H s.heap.objs.size (.dT [])) { s with heap:=k,toks:=g }:=I1.kept M;have #[O,ac,m,_]:=w.list (aO.of (S _ _ _ G));refine bb (wpAny_pyIter_list m.isList ?_);have I3:aL X aa σ (upd H s.heap.objs.size (.dT (uU (ah.take 0)))) { s with heap:=k.push { cls:=.type "list_iterator",data:=.fields #[.ref a,.int 0 0] },toks:=g }:=w.kept (t':=g) λb o e=>bg _ e;refine bu {iL Yg _,?_};have y:s.heap.objs.size<k.objs.size:=bS (M s.heap.objs.size _ (bJ _ Z));have la:a<k.objs.size:=by have #[_,_,z,_]:=m;exact bS z
 refine zgm (A:=X.A.in1) (H:=H) (d:=s.heap.objs.size) (it:=k.objs.size) (l:=a) (xs:=xs) (ah:=ah) (res:=.none) ?_ hh D G hr hl (eM y) (b8 la) ah.length 0 _ () (cf _) I3 {_,bJ _ Z,Z,Z} (λu=>?_) λs' I'=>{Z,.ref s.heap.objs.size,_,I',Z,q _ D}
 .have e:X.A.in1.units=X.A.units+1:=rfl;lia
 .refine w.fpOk (bq _) ?_;rw[zt (eM y)];have:=w.hok.fresh (bq k.objs.size);rw[zt (eM y)] at this;exact this
variable {uV:Pos}{o:ay}{ta:TE}
section
variable {k:Nat}{m:Str}{t:TA}
def zcI(C:af)(m:Str)(sp:Sp)(ta:TE)(t:TA)(u:EXK):TE:=λσ H Q=>ta σ H λx g=>∃a l d,x=.ref a/\g a=Y (.ins C l d)/\d.lookup m=L /\
 t σ g λh r=>sp (x::(h++[])) r Q λc _ q=>u c σ q
def zbs{pl:Sem Bool}(he:PE X.nox o ta)(c:AB X.K C)(hm:QI X.K C m f)(F:pv X.p X.w X.K X.mg X.M (CX1 X.p X.w) k f fd ps sp)(hr:uW k X.A)(hb:uX X.K fd ps [])(ha:PA X.nox (e::es) t)(G:Be (e::es) X.e=(am,eval e X.e)::Be es X.e:=by rfl)(J:(backTo pos (Be es X.e)).any (·.1)=am:=by rfl)(ht:eval (.Call (.Attribute o m uV) (e::es) [] pos) X.e=(do
   let ov <-eval o X.e
   standAt uV.atName
   let (f,first) <-holding [ov] (getMethod ov m pl)
   callWith pos f first (backTo pos (Be (e::es) X.e)) (backToKw pos (keywordEach [] X.e))):=by rfl) :
  PEX X (.Call (.Attribute o m uV) (e::es) [] pos) (zcI C m sp ta t):=by
 intro aa s σ H Q EX I h;refine nN (pl:=pl) (eL (he aa s σ H _ (I.wish _) h) (?_) λ_ _ z=>dQ z) ht;rintro u s1 ⟨x,H1,T,rx,a,dx,fs,ex,ea,l,q⟩;subst ex;obtain rfl:u=bY a:=rx;have I1:=T.unwish;refine qm I1 ea c hm l ?_;refine ot (first:=[.ref a]) (h₀:=X.M) I.ok.mod.kin hm.kp (eL (ha pos aa s1 σ H1 _ (I1.wish _) q) (λd D ⟨vs,H2,w,r,q2⟩=>{w.kIn,?_}) λ_ _ z=>dQ z) G J;have y:=w.unwish;have r2:aQ (V.ref a::(vs++[])) (bY a::(d++[])):=.cons Z (r.append .nil);have hl:((bY a::d)++[]).length=ps.length:=by have e:=r2.length;rw[F.len _ _ _ _ q2] at e;exact e.symm
 refine tM (ii (F.run X.A X.k D H2 {.ref a::d,[]} ((.ref a::d)++[]) (.ref a::(vs++[])) _ _ hr y.env0 (hb D (.ref a::d) y.kIn hl) r2 q2) λr s' g=>?_);cases r with
 |error ev=>
  have #[e,O,H',rfl,os,v,un,M,xf,hE]:=g;exact{e,O,σ,D,H2,H',Z,y,y.call' (ch:=[]) os un M v (λb z=>nomatch z),xf,hE}
 |ok fl=>
  cases fl with
  |ret u=>exact y.after g
  |next=>exact dQ g
  |brk=>exact dQ g
  |cont=>exact dQ g
end
def zgo(K:bL)(tb:EXK->TS)(l:af)(g:TS)(m:af)(d:TS):TS:=λD σ H=>tb (λh c k=>∃C,h=.ref C /\
 ((nG K (.ref C) (.ref l)=Y U/\g D c k)\/(nG K (.ref C) (.ref l)=Y am/\nG K (.ref C) (.ref m)=Y U/\d D c k))) D σ H
variable {th1:TS}{c1 c2:Str}{C1 C2:af}{np2:Pos}
section
variable {st b₁:ax}{suite1:List ax}{th2:TS}{hpos2:Pos}
theorem zdG{W:Vt->af->At}(l:X.k=X.e::X.J/\X.e.frame=Y X.e.locals)(t:X.ex=[])(hb:PSX X st tb)(go:∀aa D σ H (e C:af)(a0:aq)(base:aw)(s:ap),i8 base (X.e::X.J) e (.ref C) a0 s.heap->(∀g,i8 base (X.e::X.J) e (.ref C) a0 g->s.heap.UpToSlots g->aL X aa σ H { s with heap:=g })->W D C σ H ->
   Bf (Bg X.p X.w) X.A (handleBy (.ref e) X.e (h0::hl)) (SP X aa D) X.xe s):PS X (.Try [st] (h0::hl) [] [] pos) (λD σ H=>tb (λcls c y=>∃C,cls=.ref C/\W D C c y) D σ H):=by
 intro aa s σ H D I h;refine wpAny_Try_except (pO (eL (hb aa s σ H D _ I h) (λf r q=>?_) λev r q=>?_))
 .cases f with
  |next=>exact ig (ig q)
  |ret v=>exact q
  |brk=>exact q
  |cont=>exact q
 have #[e,cls,c,s0,H0,y,rfl,I0,I1,xf,C,rfl,M]:=q;have #[oe,vs,a0,T,oT,ts,h1,h2,h3,h4,h5,h6,h7,h8,h9,aj,ai,ag]:=xf;have fr:r.heap.FunFrames (nJ r.heap (Ax X.k++[e,T])) (X.e::X.J):=by have q:=pR (as:=Ax X.k++[e,T]) I1.stack λal he a ha=>cz _ (lh.mpr {al,he,ha});rw[l.1] at q ⊢;exact q
 have d:∀b∈[e,T],s0.heap.get? b=L/\y b=L:=λb z=>by
  have z':b=e\/b=T:=by simpa using z
  obtain rfl|rfl:=z'
  .exact{h9,ai}
  .exact{aj,ag}
 have O:∀b∈[e,T],y b=L/\X.s₀.heap.get? b=L:=λb z=>{(d b z).2,Yd (I0.there0 t) (d b z).1};have ac:∀b∈[e,T],∀p∈X.pn++aa,p.1≠b:=λb z p hp q=>by have:=(I0.pin p hp).1;rw[q,(d b z).1] at this;cases this
 refine wpAny_looks_onW (base:=nJ r.heap (Ax X.k++[e,T])) (a0:=a0) (cls:=.ref C) (by rw[I1.ok.frames,l.1]) l.2
  {λb o q=>rA _ q,mD _ (bQ _ (by simp)),fr,oe,vs,T,oT,ts,h1,h2,h3,h4,mD _ (bQ _ (by simp)),h5,h6,h7,h8} λg4 m J=>?_
 refine wpAny_landsW m λg5 w G=>?_;have hB:∀ {g:aw},(nJ r.heap (Ax X.k++[e,T])).StaysIn g->∀b o,r.heap.get? b=Y o->b ∉ Ax X.k->b ∉ [e,T]->g.get? b=Y o:=
  λ{g} k b o q n1 n2=>k b o (pq _ q λz=>(bp.mp z).elim n1 n2)
 exact go aa D c y e C a0 _ _ w (λg f u=>by have z:=I1.land t O ac (hB f.1) ((J.trans G).trans u);exact z) M
def zaa{D:Vt}{σ:St}{H:Hp}{e C:af}{y:aq}{base:aw}{s:ap}{l:LEv}{R:aC->ap->Prop}{th:TS}(m:i8 base l e (.ref C) y s.heap)(Bp:∀g,i8 base l e (.ref C) y g->s.heap.UpToSlots g->aL X aa σ H { s with heap:=g })(M:∀e,PSs (X.sub e) (b₀::suite) th)(k:th D σ H)(O:∀f w,SP X aa D f w->R (.ok f) w) :
  codeAny (Bg X.p X.w) (X.A.mark (Y (.ref e))) (.handlers (.ref e) [.ExceptHandler L L (b₀::suite) hpos] X.e) R s:=by
 refine codeAny_handlers_suite (lands_againW m λT d h=>?_);have I:=Bp T d h;refine eL (M e aa _ σ H D I.toSub k) (λf G q=>O f G ?_) λ_ _ z=>dQ z;cases f with
 |ret u=>have #[v,c,t,J,r,z]:=q;exact{v,c,t,aL.ofSub (J:=I) J,r,z}
 |_=>have #[c,t,J,z]:=q;exact{c,t,aL.ofSub (J:=I) J,z}
def zab{e C:af}{d:aq}{base g:aw}{l:LEv}(c:i8 base l e (.ref C) d g):W.Looks (Bg X.p X.w) g (typeOf (.ref e)) (.ref C):=by have #[o,p1,p2]:=c.there;exact p2 ▸ (uH p1).andThen .now
def zgp(m:X.k=X.e::X.J/\X.e.frame=Y X.e.locals)(z:X.ex=[])(M:PSX X st tb)(y:Gl X c1)(v:X.mg c1=Y (.ref C1))(w:Gl X c2)(u:X.mg c2=Y (.ref C2))(t:∀e,PSs (X.sub e) (b₀::suite) th1)(r:∀e,PSs (X.sub e) (b₁::suite1) th2)(h:Bq c1:=by lia)(g:Bq c2:=by lia) :
  PS X (.Try [st] [.ExceptHandler (Y (.Name c1 np)) L (b₀::suite) hpos,.ExceptHandler (Y (.Name c2 np2)) L (b₁::suite1) hpos2] [] [] pos) (zgo X.K tb C1 th1 C2 th2):=by
 refine zdG (W:=λD C d G=>(nG X.K (.ref C) (.ref C1)=Y U/\th1 D d G)\/(nG X.K (.ref C) (.ref C1)=Y am/\nG X.K (.ref C) (.ref C2)=Y U/\th2 D d G)) m z M λaa D d G e C O base s c I l=>?_;have k:=I _ c (.refl _);refine n9 (mQ ?_) (by intro q;cases q);refine vL (X:=X.sub e) (k.toSub (e:=e)) y v ?_ h;obtain ⟨hx,ht⟩|⟨hx,hx2,ht⟩:=l
 .exact(W.exm_one k.kIn (zab c) hx).here (zaa c I t ht λf J q=>q)
 .refine(W.exm_one k.kIn (zab c) hx).here ?_;show Bf _ _ (handleBy (.ref e) X.e _) _ _ _;refine n9 (mQ ?_) (by intro q;cases q);exact vL (X:=X.sub e) (k.toSub (e:=e)) w u ((W.exm_one k.kIn (zab c) hx2).here (zaa c I r ht λf J q=>q)) g
end
def rk(c:xB)(ps:LV):Except Er Int:=match vE c ps [] with
 |.ok [i]=>.ok i
 |.ok _=>.error .stuck
 |.error e=>.error e
def Good.rk{ps:LV}{r:Except Er Int}(h:Good aI ps r):L2.rk aI ps=r:=by unfold L2.rk;rw[h.1 []];cases r <;> rfl
def zgq(k:xT aI){v:V}(g:qv v){d c:ym}(h:∀x∈d,u3 x=U)(e:vA aI d v=.ok c):∀x∈c,u3 x=U:=by
 unfold vA at e;split at e
 .split at e
  .rename_i w b a r hr hj;unfold kS at e;by_cases c1:VS w/\b=0
   .rw[ao c1] at e;cases e
   .rw[ak c1] at e;by_cases c2:u3 (VR w a b)=U
    .rw[ao c2] at e;cases e;intro x hx;obtain hx|hx:=bp.mp hx
     .refine h x (um.mp ?_);rw[hr];exact bt _ (bt _ (um.mp hx))
     .rw[bo.mp hx];exact c2
    .rw[ak c2] at e;cases e
  .cases e
 .cases e;intro x hx;obtain hx|hx:=bp.mp hx
  .exact h x hx
  .rw[bo.mp hx];exact za6 k g
theorem zdH{k:xB}(g:xT k):∀ {ps:LV}{d c:ym},(∀v∈ps,qv v)->(∀x∈d,u3 x=U)->vE k ps d=.ok c->∀x∈c,u3 x=U
 |[],d,c,_,h,e=>by cases e;exact h
 |v::r,d,c,hp,h,e=>by
  unfold vE at e;split at e
  .rename_i st1 e1;exact zdH g (λv l=>hp v (bt _ l)) (zgq g (hp v bw) h e1) e
  .cases e
def zgr(c:xT aI){ps:LV}(d:∀v∈ps,qv v){i:Int}(e:rk aI ps=.ok i):u3 i=U:=by
 unfold rk at e;split at e
 .rename_i j hj;cases e;exact zdH c d (λ_ z=>absurd z cQ) hj i bw
 .cases e
 .cases e
def aW(e:LV):Prop:=(∀c,∃r,Good c e r)/\(∀v∈e,qv v)/\e.length<=1000
def aW.good{e:LV}(h:aW e)(c:xB):Good c e (rk c e):=by have #[r,g]:=h.1 c;rw[g.rk];exact g
mutual
inductive Rw where
 |take (sh:Str) (e:LV) (sl:Str)
 |give (sh:Str) (e f:LV)
 |lt (sl:Str) (e:LV)
 |say (e:LV)
 |off (e:LV)
 |iff (e:LV) (a b:aY)
inductive aY where
 |nil
 |cons (r:Rw) (rs:aY)
end
set_option genSizeOf false in
set_option genInjectivity false in
structure Sta where
 sl:xB
 wo:zD
 sa:ym
inductive Res where
 |go (s:Sta)
 |off
 |er (e:Er)
mutual
def goR:Rw->Sta->Res
 |.take sh e sl,s=>match rk s.sl e with
  |.ok n=>.go { s with sl:=xo s.sl (.inr sl) (.int ((zE s.wo (sh,n)).getD 0)) }
  |.error x=>.er x
 |.give sh e f,s=>match rk s.sl e with
  |.ok n=>(match rk s.sl f with
   |.ok w=>.go { s with wo:=s.wo++[((sh,n),w)] }
   |.error x=>.er x)
  |.error x=>.er x
 |.lt sl e,s=>match rk s.sl e with
  |.ok n=>.go { s with sl:=xo s.sl (.inr sl) (.int n) }
  |.error x=>.er x
 |.say e,s=>match rk s.sl e with
  |.ok n=>.go { s with sa:=s.sa++[n] }
  |.error x=>.er x
 |.off e,s=>match rk s.sl e with
  |.ok n=>if n=0 then .go s else .off
  |.error x=>.er x
 |.iff e a b,s=>match rk s.sl e with
  |.ok n=>if n=0 then zhV b s else zhV a s
  |.error x=>.er x
def zhV:aY->Sta->Res
 |.nil,s=>.go s
 |.cons r rs,s=>match goR r s with
  |.go s'=>zhV rs s'
  |x=>x
end
abbrev Ad:=af->Prop
mutual
def bv(F:Ad)(H:Hp)(v:V):Rw->Prop
 |.take sh e sl=>∃r te,v=.ref r/\F r/\F te/\H r=Y (.tup [.str "take",.str sh,.ref te,.str sl])/\H te=Y (.tup e)
 |.give sh e f=>∃r te c,v=.ref r/\F r/\F te/\F c/\H r=Y (.tup [.str "give",.str sh,.ref te,.ref c])/\H te=Y (.tup e)/\H c=Y (.tup f)
 |.lt sl e=>∃r te,v=.ref r/\F r/\F te/\H r=Y (.tup [.str "let",.str sl,.ref te])/\H te=Y (.tup e)
 |.say e=>∃r te,v=.ref r/\F r/\F te/\H r=Y (.tup [.str "say",.ref te])/\H te=Y (.tup e)
 |.off e=>∃r te,v=.ref r/\F r/\F te/\H r=Y (.tup [.str "off",.ref te])/\H te=Y (.tup e)
 |.iff e a b=>∃r te g d xs h,v=.ref r/\F r/\F te/\F g/\F d/\H r=Y (.tup [.str "if",.ref te,.ref g,.ref d])/\H te=Y (.tup e)/\H g=Y (.lst xs)/\hZ F H xs a/\H d=Y (.lst h)/\hZ F H h b
def hZ(F:Ad)(H:Hp)(d:LV):aY->Prop
 |.nil=>d=[]
 |.cons r rs=>∃v c,d=v::c/\bv F H v r/\hZ F H c rs
end
mutual
theorem bv.to_{F G:Ad}{H y:Hp}(g:∀b o,F b->H b=Y o->G b)(s:∀b o,F b->H b=Y o->y b=Y o):∀ {v:V}(r:Rw),bv F H v r->bv G y v r
 |v,.take sh e sl,h=>by unfold bv at h ⊢;have #[r,te,m,d,c,l,k]:=h;exact{r,te,m,g _ _ d l,g _ _ c k,s _ _ d l,s _ _ c k}
 |v,.give sh e f,h=>by unfold bv at h ⊢;have #[r,te,D,m,d,c,q,l,k,t]:=h;exact{r,te,D,m,g _ _ d l,g _ _ c k,g _ _ q t,s _ _ d l,s _ _ c k,s _ _ q t}
 |v,.lt sl e,h=>by unfold bv at h ⊢;have #[r,te,m,d,c,l,k]:=h;exact{r,te,m,g _ _ d l,g _ _ c k,s _ _ d l,s _ _ c k}
 |v,.say e,h=>by unfold bv at h ⊢;have #[r,te,m,d,c,l,k]:=h;exact{r,te,m,g _ _ d l,g _ _ c k,s _ _ d l,s _ _ c k}
 |v,.off e,h=>by unfold bv at h ⊢;have #[r,te,m,d,c,l,k]:=h;exact{r,te,m,g _ _ d l,g _ _ c k,s _ _ d l,s _ _ c k}
 |v,.iff e a b,h=>by unfold bv at h ⊢;have #[r,te,J,I,xs,z,m,d,c,q,u,l,k,t,O,w,M]:=h;exact{r,te,J,I,xs,z,m,g _ _ d l,g _ _ c k,g _ _ q t,g _ _ u w,s _ _ d l,s _ _ c k,s _ _ q t,hZ.to_ g s a O,s _ _ u w,hZ.to_ g s b M}
theorem hZ.to_{F G:Ad}{H c:Hp}(g:∀b o,F b->H b=Y o->G b)(s:∀b o,F b->H b=Y o->c b=Y o):∀ {vs:LV}(r:aY),hZ F H vs r->hZ G c vs r
 |vs,.nil,h=>by unfold hZ at h ⊢;exact h
 |vs,.cons r rs,h=>by unfold hZ at h ⊢;have #[v,d,m,l,k]:=h;exact{v,d,m,bv.to_ g s r l,hZ.to_ g s rs k}
end
def bv.to{F G:Ad}{H c:Hp}(r:Rw)(g:∀b o,F b->H b=Y o->G b)(s:∀b o,F b->H b=Y o->c b=Y o)(h:bv F H v r):bv G c v r:=bv.to_ g s r h
def hZ.to{F G:Ad}{H c:Hp}(r:aY)(g:∀b o,F b->H b=Y o->G b)(s:∀b o,F b->H b=Y o->c b=Y o)(h:hZ F H vs r):hZ G c vs r:=hZ.to_ g s r h
def bv.mono{F:Ad}{H c:Hp}(s:aJ H c)(h:bv F H v r):bv F c v r:=h.to r (λ_ _ f _=>f) (λb o _ e=>s b o e)
def hZ.mono{F:Ad}{H c:Hp}(s:aJ H c)(h:hZ F H vs r):hZ F c vs r:=h.to r (λ_ _ f _=>f) (λb o _ e=>s b o e)
def RlAt(F:Ad)(H:Hp)(v:V)(r:aY):Prop:=∃a xs,v=.ref a/\F a/\H a=Y (.lst xs)/\hZ F H xs r
def RlAt.to{F G:Ad}{H d:Hp}(g:∀b o,F b->H b=Y o->G b)(s:∀b o,F b->H b=Y o->d b=Y o)(h:RlAt F H v r):RlAt G d v r:=by have #[a,xs,e,f,c,k]:=h;exact{a,xs,e,g _ _ f c,s _ _ f c,hZ.to r g s k}
abbrev J5:Ad:=λ_=>True
def RlAt.any{F:Ad}{H:Hp}(h:RlAt F H v r):RlAt J5 H v r:=h.to (λ_ _ _ _=>trivial) λb o _ e=>e
mutual
def Zv:Rw->Prop
 |.take _ e _=>aW e
 |.give _ e f=>aW e/\aW f
 |.lt _ e=>aW e
 |.say e=>aW e
 |.off e=>aW e
 |.iff e a b=>aW e/\Yn a/\Yn b
def Yn:aY->Prop
 |.nil=>True
 |.cons r rs=>Zv r/\Yn rs
end
mutual
def Rw.deep:Rw->Nat
 |.iff _ a b=>max a.deep b.deep+1
 |_=>0
def aY.deep:aY->Nat
 |.nil=>0
 |.cons r rs=>max r.deep rs.deep
end
mutual
def Rw.cnt:Rw->Nat
 |.iff _ a b=>max a.cnt b.cnt+1
 |_=>1
def aY.cnt:aY->Nat
 |.nil=>0
 |.cons r rs=>r.cnt+rs.cnt
end
abbrev ItA(h:aw)(it d:af)(i n l:Nat)(k:aq)(f:Bool)(g c:aq):Prop:=
 h.get? it=Y { cls:=.type "dict_itemiterator",dict:=L,data:=.fields #[k,.bool f,.ref d,.int i 0,.int n 0,.int l 0,g,c],slots:=#[] }
section
variable {w:av}
theorem zgs{es:Array DictEntry}{r:Nat}{Q:Aa}(h:s.heap.IsItemsView v d)(t:Aq s.heap d es r)(q:Q (.ref s.heap.objs.size) { s with heap:=s.heap.push { cls:=.type "dict_itemiterator",data:=.fields #[.none,.bool am,.ref d,.int 0 0,.int es.size 0,.int r 0,.none,.none] } }):Bf (Bg P w) A (pyIter (.ref v)) Q E s:=by
 have #[y,k,u,l]:=id h;have #[o,m,z,c]:=id t;refine wpAny_pyIter_slot h.typeIs rj (ef rj h.typeIs F.entry_dict_items_iter ?_ (F.args_dict_items_iter_1 _));unfold Builtin.«dict_items.__iter__»;refine bb (bu ?_);refine bb ?_;unfold Builtin.Dict_items.dictOf;refine bb (eI k l (x:=.ref d) Z (bu ?_));refine bb ?_;unfold Builtin.Dict_items.newIterator;refine bb (eP m c ?_);refine bb (iD m c ?_);have g:eR "dict_itemiterator"=U:=by lia
 simp only[g,if_true];refine dE (bu {_,Z,"dict_itemiterator",_,{_,bJ _ Z,Z},F.slot_dict_itemiterator_next.lookup,?_}) (by simp only[sizeOk,iW,bR,bh,b7,iu,bN];lia);simpa[rawInt,iW] using q
theorem zgt{it d:af}{i l:Nat}{es:Array DictEntry}{e:DictEntry}{u I ov:aq}{f:Bool}{Q:Option aq->ap->Prop}(m:ItA s.heap it d i es.size l u f I ov)(hm:Aq s.heap d es l)(hx:es[i]?=Y e)(ai:(u=.none/\f=am)\/∃(a:af)(oa:Obj),u=rawInt (a:Nat)/\s.heap.get? a=Y oa/\a≠it)(q:∀v o1 f1 k1 v1,ItA v it d (i+1) es.size l o1 f1 k1 v1->((o1=.none/\f1=am)\/∃(a:af)(oa:Obj),o1=rawInt (a:Nat)/\v.get? a=Y oa/\a≠it)->v.get? s.heap.objs.size=Y { cls:=.type "tuple",data:=.seq #[e.key,e.val] }->v.objs.size=s.heap.objs.size+1 ->
   (∀b o,b≠it->s.heap.get? b=Y o->v.get? b=Y o)->(∀a:af,o1=rawInt (a:Nat)->a=s.heap.objs.size\/u=rawInt (a:Nat))->Q (Y (.ref s.heap.objs.size)) { s with heap:=v }):Bf (Bg P w) A (pyNext (.ref it)) Q E s:=by
 have #[c,g,dr,y,G]:=s;have #[od,J,aj,M]:=id hm;have T:uL {c,g,dr,y,G} (.ref it) "dict_itemiterator":={_,m,Z};unfold pyNext;refine bb (iI (eo (name:=br "__next__") T fN (ef fN T mR ?_ (mC _))));refine bb (bu ?_);refine bb ?_;refine bb ?_
 first|(refine bb (fG T (bu ?_)))|(refine bb (gq T (bu ?_)))
 refine bb (oF m Z ?_);have ag:eR "dict_itemiterator"=U:=by lia
 simp only[ag,if_true];show Bf _ _ (if (bY d==da)=U then _ else _) _ _ _;rw[ak (show ¬ ((bY d==da)=U) from bV)];refine bb (bu ?_);refine bb (eP J M ?_);rw[ak (by simp)];refine bb (bu ?_);refine bb (iD J M ?_);rw[ak (by simp)];refine bu ?_;simp only[show ¬ ((i:Int)<0) from by lia,if_false,fi,hx];refine bb ?_
 first|(refine bb (fG T (bu ?_)))|(refine bb (gq T (bu ?_)))
 refine bb (lX T ?_);show Bf _ _ (setField (.ref it) 3 (rawInt ((i:Int)+1)) >>= _) _ _ {c,g,dr,y,G};refine bb (dH m (by simp) λh₁ O D=>?_);replace D:de it c h₁:=D;replace O:ItA h₁ it d (i+1) es.size l u f I ov:=by
  have z:((i+1:Nat):Int)=(i:Int)+1:=by lia
  unfold ItA;rw[z];simpa[rawInt] using O
 have T1:uL {h₁,g,dr,y,G} (.ref it) "dict_itemiterator":={_,O,Z};refine bb (fO ?_);refine bb (lX T1 ?_);refine bb (lX T1 ?_);show Bf _ _ (lS (.ref it) 6 e.key e.val) _ _ {h₁,g,dr,y,G};unfold lS;refine bb (sE ?_);have r:ItA (h₁.push { cls:=.type "tuple",data:=.seq #[e.key,e.val] }) it d (i+1) es.size l u f I ov:=bg _ O;generalize hg:h₁.push { cls:=.type "tuple",data:=.seq #[e.key,e.val] }=h₂ at r;have z1:h₁.objs.size=c.objs.size:=D.1;have il:it<c.objs.size:=bS m;have t2:h₂.get? c.objs.size=Y { cls:=.type "tuple",data:=.seq #[e.key,e.val] }:=by rw[<-hg,<-z1];exact bJ _ rfl
 have z2:h₂.objs.size=c.objs.size+1:=by rw[<-hg,fQ,z1]
 have k2:∀b o,b≠it->c.get? b=Y o->h₂.get? b=Y o:=λb o h z=>by rw[<-hg];exact bg _ (D.extBut b o h z)
 show Bf _ _ (iX (.ref it) >>= _) _ _ {h₂,g,dr,y,G};rw[z1];clear hg O D T1 z1 h₁;refine bb ?_;unfold iX;obtain ⟨rfl,rfl⟩|⟨a,oa,rfl,ha,hai⟩:=ai
 .refine bb (eI r Z (x:=.none) Z (bu ?_));simp only[if_true];refine bb (eI r Z (x:=I) Z ?_);refine bb (eI r Z (x:=ov) Z ?_);refine bb (dH r (by simp) λh₃ t k=>?_);replace k:de it h₂ h₃:=k;replace t:ItA h₃ it d (i+1) es.size l .none am e.key ov:=t;refine bb (dH t (by simp) λh₄ e4 s4=>?_);replace s4:de it h₃ h₄:=s4;replace e4:ItA h₄ it d (i+1) es.size l .none am e.key e.val:=e4;refine bb (dH e4 (by simp) λh₅ e5 s5=>?_);replace s5:de it h₄ h₅:=s5;replace e5:ItA h₅ it d (i+1) es.size l (rawInt (c.objs.size:Nat)) am e.key e.val:=e5;refine bb (dH e5 (by simp) λh₆ e6 s6=>?_);replace s6:de it h₅ h₆:=s6;replace e6:ItA h₆ it d (i+1) es.size l (rawInt (c.objs.size:Nat)) am e.key e.val:=e6;have k6:∀b o,b≠it->h₂.get? b=Y o->h₆.get? b=Y o:=λb o h z=>s6.extBut b o h (s5.extBut b o h (s4.extBut b o h (k.extBut b o h z)));have t6:=k6 _ _ (eM il) t2;refine bb (pK (bu (bu {_,Z,bu (q h₆ _ _ _ _ e6 (.inr {_,_,Z,t6,eM il}) t6 ?_ (λb o h z=>k6 b o h (k2 b o h z)) λa z=>?_)})))
  .show h₆.objs.size=c.objs.size+1;rw[s6.1,s5.1,s4.1,k.1,z2]
  .refine .inl ?_;have z':(gU (c.objs.size:Nat) 0:aq)=gU (a:Nat) 0:=z;have ac:((c.objs.size:Nat):Int)=((a:Nat):Int):=by injection z'
   exact(uM ac).symm
 .refine bb (eI r Z (x:=rawInt (a:Nat)) Z ?_);show Bf _ _ (loadIfAlive (((a:Nat):Int).toNat) >>= _) _ _ _;rw[fi];have a2:h₂.get? a=Y oa:=k2 a oa hai ha;refine bb (W.kdx_alive a2 ?_);simp only[tG,dz,if_false];refine bb (eI r Z (x:=.bool f) Z ?_);cases f with
  |true=>
   rw[ak (show ¬ ((lY U != lY U)=U) from bV)];refine bu ?_;simp only[dz,if_false];exact bu (bu {_,Z,bu (q h₂ _ _ _ _ r (.inr {_,_,Z,a2,hai}) t2 z2 k2 λa z=>.inr z)})
  |false=>
   rw[ao (show (lY am != lY U)=U from rfl)];refine bb (dH r (by simp) λh₃ t k=>?_);replace k:de it h₂ h₃:=k;replace t:ItA h₃ it d (i+1) es.size l (rawInt (a:Nat)) U I ov:=t;refine bu ?_;simp only[dz,if_false];exact bu (bu {_,Z,bu (q h₃ _ _ _ _ t (.inr {_,_,Z,k.extBut _ _ hai a2,hai}) (k.extBut _ _ (eM il) t2) (by show h₃.objs.size=_;rw[k.1,z2]) (λb o h z=>k.extBut b o h (k2 b o h z)) λa z=>.inr z)})
theorem zhW{it d:af}{i r:Nat}{es:Array DictEntry}{v u t:aq}{f:Bool}{Q:Option aq->ap->Prop}(D:A.handled=L)(c:ItA s.heap it d i es.size r v f u t)(z:Aq s.heap d es r)(y:es.size<=i)(q:∀l,uB it s.heap l->Q L { s with heap:=l }):Bf (Bg P w) A (pyNext (.ref it)) Q E s:=by
 have #[I,g,G,h]:=id z;have T:s.TypeIs (.ref it) "dict_itemiterator":={_,c,Z};unfold pyNext;refine bb (iI (eo (name:=br "__next__") T fN (ef fN T mR ?_ (mC _))));refine bb (bu ?_);refine bb ?_;refine bb ?_
 first|(refine bb (fG T (bu ?_)))|(refine bb (gq T (bu ?_)))
 refine bb (oF c Z ?_);have k:eR "dict_itemiterator"=U:=by lia
 simp only[k,if_true];show Bf _ _ (if (bY d==da)=U then _ else _) _ _ s;rw[ak (show ¬ ((bY d==da)=U) from bV)];refine bb (bu ?_);refine bb (eP g h ?_);rw[ak (by simp)];refine bb (bu ?_);refine bb (iD g h ?_);rw[ak (by simp)];refine bu ?_;simp only[show ¬ ((i:Int)<0) from by lia,if_false,fi,lW y];refine bb ?_
 first|(refine bb (fG T (bu ?_)))|(refine bb (gq T (bu ?_)))
 show Bf _ _ (setField (.ref it) 2 .none >>= _) _ _ s;refine bb (mF c Z (by simp) ?_);show Bf _ _ (newExc (.type "StopIteration") [] >>= _) _ _ _;refine bb ?_;simp only[newExc,newTuple];refine bb (dE ?_ (by size_fits));refine bb (m:=firstArgMember _ _) (wpAny_of_eq (a:=da) (by first|rfl|(simp only[firstArgMember];rfl)) ?_);refine dE ?_ (by size_fits);simp only[raiseNew];refine bb (sZ ?_);rw[show A.in1.handled=L from D];refine bb (bu (wpAny_throw ?_));refine bb (pU (T:="StopIteration") (b:=U) {_,bJ _ Z,Z} sF ?_);exact bu (q _ (((dL ..).extBut.push _).push _))
end
def V4(r d:af):HO:=.ext λh=>h.IsItemsView r d
def zjL(g:TE):TE:=λσ H Q=>g σ H λx c=>∃d h,x=.ref d/\c d=Y (.dT h)/\∀r,c r=L->Q (.ref r) (upd c r (V4 r d))
variable {td:TE}
def zbt(D:PE X o td)(l:attributeBase o "items" X.e (eval o X.e)=eval o X.e:=by rfl)(g:(uV.endLine==u6.line)=U:=by rfl):PE X (.Call (.Attribute o "items" uV) [] [] u6) (zjL td):=by intro aa s σ H Q I h;refine pE l g (aX (D aa s σ H _ I h) ?_);rintro v c ⟨x,H1,r,y,d,aI,M,J,z⟩;subst M;obtain rfl:v=bY d:=y;have #[q,w,t]:=XU r (.inr {aI,.inl J});refine{"dict","dict.items",eT,pN,PySem.F.type_dict_items,q,w,dN Z (sK ?_)};refine ef pN q PySem.F.entry_dict_items ?_ (PySem.F.args_dict_items_1 _);unfold Builtin.«dict.items»;refine bb ?_;unfold Builtin.Dict.noArgs;refine bb (gp q ?_);show Bf _ _ (pure d) _ _ c;refine bu ?_;show Bf _ _ (iC d >>= _) _ _ c;unfold iC;rw[ak (by rw[t];exact bV)];refine bb (bu ?_);refine bb (dE (bu {_,Z,?_}));have G:H1 c.heap.objs.size=L:=r.hok.fresh (bq _);have m:(c.heap.push { cls:=.type "dict_items",data:=.fields #[.ref d] }).get? c.heap.objs.size=Y { cls:=.type "dict_items",data:=.fields #[.ref d] }:=bJ _ rfl;refine{.ref c.heap.objs.size,_,r.laid (a:=c.heap.objs.size) (o:=V4 c.heap.objs.size d) (t':=c.toks) (λb u e=>bg _ e) (bq _) ?_,Z,z _ G};exact{{_,m,Z,Z},{_,m},λh1 h2 ⟨o,T,O⟩ k=>{o,k o T,O}}
def Y8(H:Hp)(v:V)(c:xO×V):Prop:=∃r p,v=.ref r/\H r=Y (.tup [.ref p,c.2])/\H p=Y (.tup (c.1.map kV))
theorem zbu{H h:Hp}(s:∀b c,H b=Y (.tup c)->h b=Y (.tup c)):∀ {d:LV}{g:yd},Bl (Y8 H) d g->Bl (Y8 h) d g
 |_,_,.nil=>.nil
 |_,_,.cons ⟨r,p,e,h1,h2⟩ t=>.cons {r,p,e,s _ _ h1,s _ _ h2} (zbu s t)
theorem zbv{H:Hp}{v:V}{q:xO×V}:∀ {c:LV}{d:yd},Bl (Y8 H) c d->Y8 H v q->Bl (Y8 H) (c++[v]) (d++[q])
 |_,_,.nil,h=>.cons h .nil
 |_,_,.cons a r,h=>.cons a (zbv r h)
theorem zgu{σ:St}{H:Hp}{S it d:af}{c:yd}{es:Array DictEntry}{ep:Nat}{w:aq}(hh:A.handled=L)(hS:H S=L)(hd:H d=Y (.dT c))(ai:S≠it)(a2:d≠it)(hz:c.length<=1000)(a4:es.size=c.length)(az:∀(i:Nat)(e:DictEntry)(kv:xO×V),es[i]?=Y e->c[i]?=Y kv->∃p,e.key=.ref p/\H p=Y (.tup (kv.1.map kV))/\aR kv.2 e.val)(fin:∀s' H' h,aL X aa σ H' s'->aJ H H'->H' S=Y (.lst h)->Bl (Y8 H') h c->R (.ok (.ret w)) s') :
  ∀(k i:Nat)(s:ap)(g:Hp)(h:LV)(q ok ov:aq)(f:Bool),c.length-i=k->i<=c.length->aL X aa σ g s->aJ H g->g S=Y (.lst h)->Bl (Y8 g) h (c.take i)->Aq s.heap d es ep->ItA s.heap it d i es.size ep q f ok ov ->
  ((q=.none/\f=am)\/∃(a:af)(m:Obj),q=rawInt (a:Nat)/\s.heap.get? a=Y m/\a≠it/\a≠S)->Zg X aa g it ->
  codeAny (Bg X.p X.w) A (.builtin "list.extend.loop" {[.ref S,.ref it,w],[]}) R s:=by
 intro k;induction k with
 |zero=>
  intro i s g h q ok ov f hk hi I sm J y rd l t hf;have e:i=c.length:=by lia
  subst e;refine fV oG ?_;rw[eu fo _];show Bf _ A.in1 (pyNext (.ref it) >>= _) _ _ s;have #[f0,f1,f2,f3,f4,f5]:=hf;refine bb (zhW (A:=A.in1) hh l rd () λv eb=>?_);have I1:=I.turned (t':=s.toks) (λb o hb e=>eb b o hb e) f0 f1 f3 f4 f5;rw[cU] at y;exact bu (fin _ g h I1 sm J y)
 |succ k ih=>
  intro i s g h q ok ov f hk hi I sm J y rd l t hf;have O:i<c.length:=by lia
  have hx:es[i]?=Y es[i]:=cV ();have ac:c[i]?=Y c[i]:=ba O;have #[p,ek,hp,rv]:=az i _ _ hx ac;refine fV oG ?_;rw[eu fo _];show Bf _ A.in1 (pyNext (.ref it) >>= _) _ _ s;have #[f0,f1,f2,f3,f4,f5]:=id hf;have M:(q=.none/\f=am)\/∃(a:af)(m:Obj),q=rawInt (a:Nat)/\s.heap.get? a=Y m/\a≠it:=by
   obtain z|⟨a,m,z1,z2,z3,_⟩:=t
   .exact .inl z
   .exact .inr {a,m,z1,z2,z3}
  refine bb (zgt (A:=A.in1) l rd hx M λv o1 a1 k1 v1 ag ar ht a3 kp an=>?_);have Sl:S<s.heap.objs.size:=by have #[_,_,_,_,e]:=(show aU X.p X.w g s.heap S (.lst h) from I.hok S _ J);exact bS e
  have tn:s.heap.objs.size≠it:=eM (bS l);have aP:g s.heap.objs.size=L:=I.hok.fresh (bq _);have aj:S≠s.heap.objs.size:=b8 Sl;generalize hT:s.heap.objs.size=T at *
  have I6:aL X aa σ (upd g T (.tup [.ref p,c[i].2])) { s with heap:=s.heap.push { cls:=.type "tuple",data:=.seq #[es[i].key,es[i].val] } }:=
   I.laid (a:=T) (o:=.tup [.ref p,c[i].2]) (t':=s.toks) (λb u e=>bg _ e) (by rw[hT];exact bq _) {(),[es[i].key,es[i].val],.cons (by rw[ek];exact rfl) (.cons rv .nil),{_,by rw[<-hT];exact bJ _ Z,Z,_,Z}}
  have S6:aJ g (upd g T (.tup [.ref p,c[i].2])):=u5 T aP;have I7:aL X aa σ (upd g T (.tup [.ref p,c[i].2])) { s with heap:=v }:=I6.turned (s:={ s with heap:=s.heap.push { cls:=.type "tuple",data:=.seq #[es[i].key,es[i].val] } }) (t':=s.toks) (λb o hb e=>by
   obtain ⟨rfl,rfl⟩|e:=ss (show (s.heap.push { cls:=.type "tuple",data:=.seq #[es[i].key,es[i].val] }).get? b=Y o from e)
   .rw[hT];exact ht
   .exact kp b o hb e) (by rw[zt (eC tn)];exact f0) f1 f3 f4 f5
  have G:(upd g T (.tup [.ref p,c[i].2])) S=Y (.lst h):=S6 _ _ J;have #[z,D,n,r,hl,e]:=I7.lstM G;have yl:h.length=i:=by have:=bG y;rw[bX] at this;lia
  show Bf _ A.in1 (updateSeq S (·.push (bY T)) >>= _) _ _ _;have e':v.get? S=Y { cls:=.type "list",data:=.seq D.toArray n }:=e;refine bb (og (s:={ s with heap:=v }) e' rfl ?_ (by rw[bR,<-r.length,yl];exact bI (by lia:i<=1000) ()) (by rw[Array.size_push,bR,<-r.length,yl];exact bI (by lia:i+1<=1001) ()));have I8:=I7.lset (f:=λxs=>xs.push (bY T)) (t':=s.toks) (its':=D++[bY T]) G e' (by simp) (r.append (.cons (show aR (.ref T) (.ref T) from rfl) .nil)) (by rw[bh,yl];exact bI (by show i+1<=1001;lia) ());have up:∀b o,b≠S->v.get? b=Y o->(v.update S (eN (·.push (bY T)))).get? b=Y o:=λb o hb z=>(eZ _ _ (eC hb)).trans z;have dS:d≠S:=zB hd hS;have tS:∀b zs,g b=Y (.tup zs)->(upd (upd g T (.tup [.ref p,c[i].2])) S (.lst (h++[.ref T]))) b=Y (.tup zs):=λb zs z=>by rw[zt (zQ z J (by intro z;cases z))];exact S6 _ _ z
  have ri:∀ {a b:Nat},(rawInt (a:Int):aq)=rawInt (b:Int)->a=b:=λ{a b} z=>by
   have z':(gU (a:Int) 0:aq)=gU (b:Int) 0:=z;have al:(a:Int)=(b:Int):=by injection z'
   exact uM al
  refine bu {iL fo _,ih (i+1) _ _ (h++[.ref T]) o1 k1 v1 a1 (by rw[Nat.sub_add_eq,hk];rfl) O I8 (λb o z=>?_) zo ?_ (rd.at λo z=>up d o dS (kp d o a2 z)) (up it _ (eC ai) ag) ?_ {?_,f1,f2,f3,f4,f5}}
  .rw[zt (zB z hS)];exact S6 _ _ (sm _ _ z)
  .rw[cI,ac];exact zbv (zbu tS y) {T,p,Z,by rw[zt (eC aj),zo],tS _ _ (sm _ _ hp)}
  .obtain z|⟨a,m,z1,z2,z3⟩:=ar
   .exact .inl z
   .have aS:a≠S:=by
     obtain z|z:=an a z1
     .rw[z];exact eC aj
     .obtain ⟨y1,_⟩|⟨a',oa',y1,_,_,y4⟩:=t
      .rw[y1] at z;cases z
      .rw[y1] at z;rw[<-ri z];exact y4
    exact .inr {a,m,z1,up a _ aS z2,z3,aS}
  .rw[zt (eC ai),zt (eC tn)];exact f0
abbrev zk6:RC:=λk H Q=>∃r d g,k=[.ref r]/\H r=Y (V4 r d)/\H d=Y (.dT g)/\g.length<=1000/\∀l h c,aJ H c->H l=L->c l=Y (.lst h)->Bl (Y8 c) h g->Q (.ref l) c
def zhX{H:Hp}(k:AH P w H h)(e:H r=Y (V4 r d)):h.IsItemsView r d:=(k r _ e).1
def zhY{H:Hp}:∀ {d:yd}{xs:List (xO×af×aq)},Bl (λ(p:xO×V)(q:xO×af×aq)=>p.1=q.1/\H q.2.1=Y (.tup (p.1.map kV))/\aR p.2 q.2.2) d xs->∀ {i:Nat}{c:xO×V}{x:xO×af×aq},d[i]?=Y c->xs[i]?=Y x->H x.2.1=Y (.tup (c.1.map kV))/\aR c.2 x.2.2:=
 λ{_ _} h {_ _ _} k g=>(xz h k g).2
def zgv{H:Hp}(I:aL X aa σ H s)(e:H d=Y (.dT aI)):∃es h,Aq s.heap d es h/\es.size=aI.length /\
  ∀(i:Nat)(en:DictEntry)(g:xO×V),es[i]?=Y en->aI[i]?=Y g->∃p,en.key=.ref p/\H p=Y (.tup (g.1.map kV))/\aR g.2 en.val:=by
 have #[z,G,xs,c,o,es,h,u,t,r,k,_]:=(show aU X.p X.w H s.heap d (.dT aI) from I.hok d _ e);have m:es.size=xs.length:=by rw[<-cL,k,bn]
 refine{es,h,{o,u,t,r},by rw[m,<-bG c],λi en g D y=>?_};have l:es.toList[i]?=Y en:=by rw[dI];exact D
 rw[k,bF] at l;have #[x,q,rfl]:=cr.mp l;have #[w,v]:=zhY c y q;exact{x.2.1,Z,w,v}
theorem Qe{A:aA}{R:aC->ap->Prop}{aa:Af}{σ:St}{H:Hp}{s:ap}{S r d:af}{k:yd}{res:aq}{c:Nat}(hh:A.handled=L)(z:H S=L)(hr:H r=Y (V4 r d))(hd:H d=Y (.dT k))(hl:k.length<=1000)(y:aL X aa σ (upd H S (.lst [])) s)(T2:s.heap.get? S=Y { cls:=.type "list",data:=.seq #[] c })(D:∀g h ys,aL X aa σ h g->aJ H h->h S=Y (.lst ys)->Bl (Y8 h) ys k->R (.ok (.ret res)) g) :
  Bf (Bg X.p X.w) A.in1 (dW (.ref S) (.ref r) res) (λfin g=>match fin with|.done f=>R (.ok f) g|.again c'=>c'.quiet=U/\codeAny (Bg X.p X.w) A c' R g) (λe g=>R (.error e) g) s:=by
 have Sr:r≠S:=zB hr z;have Sd:d≠S:=zB hd z;have SS:aJ H (upd H S (.lst [])):=u5 S z;have #[es,ep,O,ag,u]:=zgv y (SS _ _ hd);have ai:∀(i:Nat)(w:DictEntry)(q:xO×V),es[i]?=Y w->k[i]?=Y q->∃p,w.key=.ref p/\H p=Y (.tup (q.1.map kV))/\aR q.2 w.val:=λi w q e1 e2=>by
  have #[p,g1,g2,g3]:=u i w q e1 e2;refine{p,g1,?_,g3};by_cases hp:p=S
  .rw[hp,zo] at g2;cases g2
  .rwa [zt hp] at g2
 have I:=zhX y.hok (SS _ _ hr);unfold dW;refine bb (ud (T:="dict_items") I.typeIs ?_);have c1:oU (.ref S) (.ref r)=am:=by simp[oU,eC Sr]
 have c2:(oJ "dict_items" == oJ "list")=am:=by lia
 have c3:(oJ "dict_items" == oJ "tuple")=am:=by lia
 simp only[c1,c2,c3,Bool.or_false,dz,if_false];refine bb (zgs I O ?_);have ni:(upd H S (.lst [])) s.heap.objs.size=L:=y.hok.fresh (bq _);have fp:Zg X aa (upd H S (.lst [])) s.heap.objs.size:=y.fpOk (bq _) ni;have Si:S≠s.heap.objs.size:=b8 (bS T2);have di:d≠s.heap.objs.size:=b8 O.lt;have I3:aL X aa σ (upd H S (.lst [])) { s with heap:=s.heap.push { cls:=.type "dict_itemiterator",data:=.fields #[.none,.bool am,.ref d,.int 0 0,.int es.size 0,.int ep 0,.none,.none] } }:=y.kept (t':=s.toks) λb o e=>bg _ e;have T3:=bg { cls:=.type "dict_itemiterator",data:=.fields #[.none,.bool am,.ref d,.int 0 0,.int es.size 0,.int ep 0,.none,.none] } T2;have t:ItA (s.heap.push { cls:=.type "dict_itemiterator",data:=.fields #[.none,.bool am,.ref d,.int 0 0,.int es.size 0,.int ep 0,.none,.none] }) s.heap.objs.size d 0 es.size ep .none am .none .none:=bJ _ rfl;have l:Aq (s.heap.push { cls:=.type "dict_itemiterator",data:=.fields #[.none,.bool am,.ref d,.int 0 0,.int es.size 0,.int ep 0,.none,.none] }) d es ep:=O.at λo e=>bg _ e;have G:(s.heap.push { cls:=.type "dict_itemiterator",data:=.fields #[.none,.bool am,.ref d,.int 0 0,.int es.size 0,.int ep 0,.none,.none] }).IsItemsView r d:=let ⟨o,ho,x⟩:=I;{o,bg _ ho,x}
 generalize hh3:s.heap.push { cls:=.type "dict_itemiterator",data:=.fields #[.none,.bool am,.ref d,.int 0 0,.int es.size 0,.int ep 0,.none,.none] }=h3 at *
 generalize s.heap.objs.size=it at *
 refine bb (fO (W.kdx_hint G.typeIs ?_));have fin:∀(v:aw)(J:Nat)(R:aC->ap->Prop),(∀g h ys,aL X aa σ h g->aJ H h->h S=Y (.lst ys)->Bl (Y8 h) ys k->R (.ok (.ret res)) g)->aL X aa σ (upd H S (.lst [])) { s with heap:=v,toks:=J }->Aq v d es ep->ItA v it d 0 es.size ep .none am .none .none ->
   codeAny (Bg X.p X.w) A (.builtin "list.extend.loop" {[.ref S,.ref it,res],[]}) R { s with heap:=v,toks:=J }:=λv J R D I4 M ac=>
  zgu (A:=A) (H:=H) (es:=es) (ep:=ep) hh z hd Si di hl ag ai D k.length 0 _ (upd H S (.lst [])) [] .none .none .none am (ua _) (cf _) I4 SS zo .nil M ac (.inl {Z,Z}) fp
 refine wpAny_ite_split (λ_=>?_) (λ_=>bu {iL fo _,fin h3 s.toks _ D I3 l t});refine bb (fZ ?_);refine bb ?_;show Bf _ _ (updateSeq S (·.push .none) >>= λ_=>updateSeq S (·.pop)) _ _ _;refine bb (og T3 Z ?_);have T4:=fC (eN (·.push da)) T3 rfl;refine og (hz:=by seq_fits) T4 Z ?_;have I4:=I3.lset (f:=λxs=>xs.push da) (its:=[]) (its':=[da]) (ys:=[V.non]) (t':=s.toks) zo T3 Z (.cons Z .nil) ();have I5:=I4.lset (f:=λxs=>xs.pop) (its:=[da]) (its':=[]) (ys:=[]) (t':=s.toks) zo T4 Z .nil (cf _);rw[Vc,Vc] at I5;have m:∀b o,b≠S->h3.get? b=Y o->((h3.update S (eN (·.push da))).update S (eN (·.pop))).get? b=Y o:=λb o hb e=>(eZ _ _ (eC hb)).trans ((eZ _ _ (eC hb)).trans e);exact bu {iL fo _,fin _ s.toks _ D I5 (l.at λo e=>m d o Sd e) (m it _ (eC Si) t)}
def WT(hc:X.c=U):qO X (.type "list") zk6:=by
 intro aa s σ H vs us Q I z h;have #[r,d,aI,rfl,J,T,M,q]:=h;have #[u,rfl,y]:=Zn z;cases y;have O:X.A.handled=L:=I.ok.hd hc;refine callType_codes (Q₁:=λg c=>g=.ref s.heap.objs.size/\c={ s with heap:=s.heap.push { cls:=.type "list",data:=.seq #[] } }) PySem.F.called_list (PySem.F.typeCall_list_1 _) PySem.F.entry_list_init (code_list_new _ {rfl,rfl}) ?_;rintro g c ⟨rfl,rfl⟩;have m:H s.heap.objs.size=L:=I.hok.fresh (bq _);have I1:aL X aa σ (upd H s.heap.objs.size (.lst [])) { s with heap:=s.heap.push { cls:=.type "list",data:=.seq #[] } }:=I.lnew (its:=[]) (t':=s.toks) .nil (cf _);have k:(s.heap.push { cls:=.type "list",data:=.seq #[] }).get? s.heap.objs.size=Y { cls:=.type "list",data:=.seq #[] }:=bJ _ rfl;generalize hT:s.heap.objs.size=S at *
 refine{{_,k,Z},PySem.F.args_list_init_2 _ _,?_};show Bf _ _ (do let l <-rm (.ref S);Builtin.List.listUpdate (.ref S) (λ_=>#[]);letGo l.toList.reverse;dW (.ref S) (.ref r) .none) _ _ _;refine bb ?_;unfold rm;refine bb (gZ k Z (bu ?_));show Bf _ _ (updateSeq S (λ_=>#[]) >>= λ_=>letGo (#[]:Array aq).toList.reverse >>= λ_=>dW (.ref S) (.ref r) .none) _ _ _;refine bb (og k Z ?_);have t:=I1.lset (f:=λ_=>(#[]:Array aq)) (its:=[]) (its':=[]) (ys:=[]) (t':=s.toks) zo k Z .nil (cf _);rw[Vc] at t;have T2:=fC (eN (λ_=>(#[]:Array aq))) k rfl;refine bb (pK ?_);generalize hh2:(s.heap.push { cls:=.type "list",data:=.seq #[] }).update S (eN (λ_=>(#[]:Array aq)))=h2 at *
 exact Qe (A:=X.A.in1) (H:=H) O m J T M t T2 λs' v ys I' w G D=>{Z,.ref S,v,I',Z,q S ys v w m G D}
def zcJ{R:zX->ap->Prop}{H:Hp}(hh:A.handled=L)(M:H r=Y (V4 r d))(hd:H d=Y (.dT aI))(T:aI.length<=1000)(I:aL X aa σ H s)(h:∀G c g D,aL X aa σ c G->aJ H c->Bl (Y8 c) g aI->aQ g D->R D G):Bf (Bg X.p X.w) A (collect (.ref r)) R E s:=by
 have hS:H s.heap.objs.size=L:=I.hok.fresh (bq _);have I1:aL X aa σ (upd H s.heap.objs.size (.lst [])) { s with heap:=s.heap.push { cls:=.type "list",data:=.seq ([]:zX).toArray } }:=I.lnew (its:=[]) (t':=s.toks) .nil (cf _);have T1:(s.heap.push { cls:=.type "list",data:=.seq ([]:zX).toArray }).get? s.heap.objs.size=Y { cls:=.type "list",data:=.seq #[] }:=bJ _ rfl;unfold collect;refine bb (wpAny_runValue (fV si ?_));rw[eu nY _];show Bf _ A.in1 (newList [] >>= λl=>again (.builtin "list.__iadd__" {[l,.ref r],[]})) _ _ s;refine bb (dE ?_);refine bu {iL gO _,fV entry_list_iadd' ?_};rw[eu gO _];generalize s.heap.objs.size=S at *
 show Bf _ A.in1 (dW (.ref S) (.ref r) (.ref S)) _ _ _;have v:=Qe (A:=A) (R:=λ(q:aC)(s':ap)=>∃c g,q=.ok (.ret (.ref S))/\aL X aa σ c s'/\aJ H c/\c S=Y (.lst g)/\Bl (Y8 c) g aI) (res:=.ref S) hh hS M hd T I1 T1 λs' c g m t w u=>{c,g,Z,m,t,w,u};have fin:∀s':ap,(∃c g,aL X aa σ c s'/\aJ H c/\c S=Y (.lst g)/\Bl (Y8 c) g aI)->Bf (Bg X.p X.w) A (load S >>= λo=>match o.data with|.seq xs _=>pure xs.toList|_=>unsupported "internal:collect") R E s':=λs' ⟨c,g,m,t,w,u⟩=>by have #[z,its,n,J,O,e]:=m.lstM w;refine bb (rT e ?_);refine bu ?_;exact h s' c g its m t u J
 refine eL v (λf s' x=>?_) λe s' x=>?_
 .cases f with
  |done f=>
   have #[c,g,e,x]:=x;cases e;exact fin s' {c,g,x}
  |again c₁=>
   refine{x.1,ii x.2 λq k y=>?_};have #[c,g,rfl,y]:=y;exact fin k {c,g,y}
 .have #[_,_,e',_]:=x;cases e'
section
variable {w:av}
theorem zgw{x y:af}{a b:Str×Int}{Q:Bool->ap->Prop}(hu:A.units<cLine)(T:AV s.heap (.ref x) a)(O:AV s.heap (.ref y) b)(h:Q (yM a b) s):Bf (Bg P w) A (oneLt' am (.ref x) (.ref y)) Q E s:=by have #[p,o,t,u,n,e1,m,r,q]:=T;have #[p2,J,G,D,M,e2,d,g,AO]:=O;cases e1;cases e2;have #[c,dd,ac,I]:=o;have #[c2,l,v,k]:=J;simp only at r q g AO;subst r q g AO;have z:s.TypeIs (.ref x) "tuple":={_,m,Z};have T2:s.TypeIs (.ref y) "tuple":={_,d,Z};refine kat_one _ _ ?_;show Bf _ _ (richCompare .Lt (.ref x) (.ref y)) _ _ _;refine wpAny_richCompare_same_room z T2 rP ?_ hu;exact iZ rP z PySem.F.entry_tuple_lt (PySem.F.args_tuple_lt_2 _ _) (V1 x y a.1 b.1 a.2 b.2 t u G D n M dd l I k) {m,d,by simp,h}
def zgx{x:af}{a:Str×Int}(c:AV h (.ref x) a):IsTupleKey (yT P w) h (zI a) x:=by have #[p,o,t,u,n,l,d,k,g]:=c;cases l;exact{o,_,n,d,k,g,XS (ks:=zI a) (.cons {t,Z} (.cons {u,Z} .nil))}
def RvAt(h:aw)(v:aq)(q:Row):Prop:=∃a o p t n,v=.ref a/\h.get? a=Y o/\o.cls=.type "tuple"/\o.data=.seq #[.ref p,.int q.2 t] n/\AV h (.ref p) q.1
def RvAt.keep(x:RvAt h v q)(k:∀b o,h.get? b=Y o->h'.get? b=Y o):RvAt h' v q:=by have #[a,o,p,t,n,e,d,l,g,c]:=x;exact{a,o,p,t,n,e,k _ _ d,l,g,c.keep k}
def zhZ{x y:aq}{a b:Row}{Q:Bool->ap->Prop}(g:A.units<cLine)(q:RvAt s.heap x a)(m:RvAt s.heap y b)(h:Q (yM a.1 b.1) s)(u:a.1≠b.1):Bf (Bg P w) A (keyLt' (tuples' am) x y) Q E s:=by
 have #[p,o,G,t,n,rfl,r,M,v,k]:=q;have #[p2,I,l,D,J,rfl,d,z,AO,c]:=m;refine kat_lt r v d AO (kat_cons (wpAny_eqBool_tuple (knd:=yT P w) g (zgx k) (zgx c) (kat_go (λe=>?_) λe=>kat_no ?_)))
 .exact absurd (y9 (of_decide_eq_true e)) u
 .exact zgw g k c h
theorem zgy{c:zX}{qs:zD}{Q:SortKind->ap->Prop}(l:c.length=qs.length)(d:∀(i:Nat)(v:aq)(q:Row),c[i]?=Y v->qs[i]?=Y q->RvAt s.heap v q)(h2:0<c.length)(h:Q (tuples' am) s) :
  Bf (Bg P w) A (keyKind' c.toArray) Q E s:=by
 have T:∀(c:zX)(qs:zD),c.length=qs.length->(∀(i:Nat)(v:aq)(q:Row),c[i]?=Y v->qs[i]?=Y q->RvAt s.heap v q)->∃g,KatTups s.heap c g/\g.length=c.length/\∀v∈g,∃p o,v=bY p/\s.heap.get? p=Y o/\o.cls=.type "tuple":=by
  intro c;induction c with
  |nil=>exact λqs _ _=>{[],trivial,Z,nofun}
  |cons v r ih=>
   intro qs l d
   match qs,l with
   |q::qr,l=>
    have #[g,k,y,kf]:=ih qr (by simpa using l) λi D G e1 e2=>d (i+1) D G (by simpa using e1) (by simpa using e2);have #[a,o,p,t,n,rfl,M,hc,O,J]:=d 0 v q Z rfl;refine{.ref p::g,uP M hc O Z k,by simp[y],λz hz=>?_};obtain rfl|hz:=bC.mp hz
    .have #[p',I,_,_,_,e,u,m,_]:=J;cases e;exact{_,I,Z,u,m}
    .exact kf z hz
 have #[g,k,y,kf]:=T c qs l d;refine kat_kind (T:=.type "tuple") k () (λv d=>?_) () h;have #[p,o,rfl,u,m]:=kf v d;exact m ▸ (uH u).andThen .now
end
def d0:Row:=(("",0),0)
def zjM(ah:zD):∃c:zD,uU ah=c.map (λq=>(zI q.1,V.int q.2))/\(c.map (·.1)).Nodup/\∀p w,(p,w)∈c↔zE ah p=Y w:=by
 have h:=jB ah;have:∀(k:yd),(∀kv∈k,∃(p:Pl)(w:Int),kv=(zI p,.int w))->∃c:zD,k=c.map (λq=>(zI q.1,V.int q.2)):=λk=>by
  induction k with
  |nil=>exact λ_=>{[],Z}
  |cons kv r ih=>
   intro v;have #[y,e]:=ih λz D=>v z (bt _ D);have #[p,w,u]:=v kv bw;exact{(p,w)::y,by rw[bB,<-e,u]}
 have #[c,e]:=this _ h.2;refine{c,e,?_,λp w=>?_}
 .have:=h.1;rw[e,eQ] at this;refine xX (f:=zI) ?_;rw[eQ];exact this
 .have m:=As (ah:=ah) (kv:=(zI p,V.int w));constructor
  .intro g;have #[M,J,d,u]:=m.mp (by rw[e];exact bK.mpr {_,g,Z});have t:=y9 (sP d).1;have l:=V.int.inj (sP d).2;rw[t,l];exact u
  .intro G;have g:=m.mpr {p,w,Z,G};rw[e] at g;have #[q,I,d]:=bK.mp g;have t:=y9 (sP d).1;have l:=V.int.inj (sP d).2;rw[<-t,<-l];exact I
theorem zcK{c:Type}(l:List c)(d:c):(e9 l.length).map (λi=>l.getD i d)=l:=by
 apply fS;intro i;rw[bF];by_cases hi:i<l.length
 .rw[nX hi,ba hi];simp[bD,ba hi]
 .rw[cR (by simpa using hi),cR ()];rfl
theorem PP.list{p:AN}(h:PP n p):p.toList.Perm (e9 n):=by have:=eY.mp h;simpa using this
theorem PP.lt{p:AN}(h:PP n p):∀i∈p.toList,i<n:=λi c=>by have:=h.list.mem_iff.mp c;simpa using this
theorem zcL{c:Type}{F:c->c->Bool}{l:List c}{d:c}{n:Nat}{p:AN}(w:PP n p)(v:J3 (λi j=>F (l.getD i d) (l.getD j d)) p n):(p.toList.map λi=>l.getD i d).Pairwise λa b=>F a b=U:=by
 rw[gI,dC];intro i j k g h;rw[cL] at k g;have q:=vX k;have m:=vX g;have y:=w.size;have r:=v i j h ();have u:p.toList[i]=gt p i:=by rw[cV k] at q;simpa using q
 have t:p.toList[j]=gt p j:=by rw[cV g] at m;simpa using m
 rw[u,t];exact r
theorem Zw{k g:Type}{F:k->g->Prop}{d:List k}{c:List g}(h:Bl F d c)(a:k)(b:g):∀ {is:zZ},(∀i∈is,i<d.length)->Bl F (is.map λi=>d.getD i a) (is.map λi=>c.getD i b)
 |[],_=>.nil
 |i::r,hi=>by have l:=bG h;have u:=hi i bw;refine .cons ?_ (Zw h a b λj t=>hi j (bt _ t));show F (d.getD i a) (c.getD i b);have q:=ba u;have m:c[i]?=Y c[i]:=ba ();rw[bD,bD,q,m];exact xz h q m
abbrev zk7:RC:=λm H Q=>∃r d h,m=[.ref r]/\H r=Y (V4 r d)/\H d=Y (.dT (uU h))/\(uU h).length<1000 /\
 ∀l k c g,aJ H g->H l=L->g l=Y (.lst k)->Bl (PrAt g) k c->Ae c->(∀p w,(p,w)∈c↔zE h p=Y w)->Q (.ref l) g
theorem zgz{H:Hp}:∀ {d:LV}{c:zD},Bl (Y8 H) d (c.map λq=>(zI q.1,V.int q.2))->Bl (PrAt H) d c
 |_,[],h=>by cases h;exact .nil
 |_,q::r,h=>by
  rw[bB] at h;cases h with
  |cons a t=>exact .cons a (zgz t)
def zk8{H:Hp}(I:aL X aa σ H s)(h:PrAt H v q)(r:aR v u):RvAt s.heap u q:=by
 have #[a,p,rfl,w,m]:=h;cases r;have #[_,l,c,o,k,g,n,d]:=(show aU X.p X.w H s.heap a (.tup [.ref p,.int q.2]) from I.hok a _ w);cases c with
 |cons r1 rr=>
  cases rr with
  |cons r2 rn=>
   cases rn;cases r1;have #[t,rfl]:=r2;exact{a,o,p,t,n,Z,k,g,d,zbp I m}
theorem Y9(hc:X.c=U)(hu:X.A.units+3<cLine):qO X (.builtin "sorted") zk7:=by
 intro aa s σ H t us Q I r0 h;have #[r,d,ah,rfl,hr,hd,ar,q]:=h;have #[u,rfl,ru]:=Zn r0;cases ru;have hh:X.A.handled=L:=I.ok.hd hc;have #[its,ei,nd,mi]:=zjM ah;have li:(uU ah).length=its.length:=by rw[ei,bn]
 have so:=V0 nd;have T:∀ {g:ap}{l:Hp}{m:LV}{t:zX},aL X aa σ l g->Bl (PrAt l) m its->aQ m t->∀(i:Nat)(q:Row),its[i]?=Y q->∃v,t[i]?=Y v/\RvAt g.heap v q:=λ{g l m t} M D G i q hq=>by have O:=(bd.mp hq).1;have l1:=bG D;obtain⟨y,hy⟩:∃y,m[i]?=Y y:={_,ba ()};have #[u,aj,ru]:=G.get hy;exact{u,aj,zk8 M (xz D hy hq) ru}
 refine Y5 (κ:=tuples' am) (λt lt g=>∃l m,aL X aa σ l g/\aJ H l/\Bl (PrAt l) m its/\aQ m t/\lt=λi j=>yM ((its.map (·.1)).getD i (("",0):Pl)) ((its.map (·.1)).getD j (("",0):Pl)))
  (λR hR=>zcJ (A:=X.A.in1) hh hr hd () I λg l m us M sm D G=>hR us _ g {l,m,M,sm,zgz (by rw[<-ei];exact D),G,Z}) ?_ ?_ ?_ ?_
 .rintro t lt g ⟨l,m,M,sm,D,G,rfl⟩;have l1:=bG D;have l2:=G.length;refine{(),?_};rw[show t.length=(its.map (·.1)).length by rw[bn];lia];exact so
 .rintro t lt g ⟨l,m,M,sm,D,G,rfl⟩ h2 h Q' k q';have l1:=bG D;have l2:=G.length;refine zgy (s:={ g with heap:=h }) (qs:=its) () (λi v q hv hq=>?_) () q';have #[v',ai,rr]:=T M D G i q hq;rw[hv] at ai;cases ai;exact rr.keep k
 .rintro t lt g ⟨l,m,M,sm,D,G,rfl⟩ h i j C k O hj an q';have l1:=bG D;have l2:=G.length;have e1:its[i]?=Y its[i]:=ba ();have e2:its[j]?=Y its[j]:=ba ();have #[v1,g1,r1]:=T M D G i _ e1;have #[v2,g2,r2]:=T M D G j _ e2;have n1:(its.map (·.1)).getD i (("",0):Pl)=its[i].1:=by rw[bD,bF,e1];rfl
  have n2:(its.map (·.1)).getD j (("",0):Pl)=its[j].1:=by rw[bD,bF,e2];rfl
  have m1:t.getD i da=v1:=by rw[bD,g1];rfl
  have m2:t.getD j da=v2:=by rw[bD,g2];rfl
  simp only[n1,n2] at q';have ag:=zhZ (P:=X.p) (w:=X.w) (A:=X.A.in1.in1) (E:=λ_ _=>False) (s:={ g with heap:=h }) (Q:=C) (by have e:X.A.in1.in1.units=X.A.units+2:=rfl;lia) (r1.keep k) (r2.keep k) q' λz=>an (by
   have e3:(its.map (·.1))[i]?=Y its[i].1:=by rw[bF,e1];rfl
   have e4:(its.map (·.1))[j]?=Y its[j].1:=by rw[bF,e2];rfl
   rw[z] at e3;exact(iM (by rw[bn];lia) nd).mp (e3.trans e4.symm))
  rw[<-m1,<-m2] at ag;exact ag
 .rintro t lt g ⟨l,m,M,sm,D,G,rfl⟩ h' p c k hD hp hr;have l1:=bG D;have l2:=G.length;have J:PP its.length p:=by rw[show its.length=t.length by lia];exact hp
  have fr:l g.heap.objs.size=L:=M.hok.fresh (bq _);have sz:=J.size;have pk:=Zw D V.non d0 (is:=p.toList) λi O=>by have:=J.lt i O;lia
  have vk:aQ (p.toList.map λi=>m.getD i V.non) (jA t p):=Zw G V.non da (is:=p.toList) λi O=>by have:=J.lt i O;lia
  have I2:aL X aa σ (upd l g.heap.objs.size (.lst (p.toList.map λi=>m.getD i V.non))) { g with heap:=h' }:=M.laid (a:=g.heap.objs.size) (o:=.lst (p.toList.map λi=>m.getD i V.non)) (t':=g.toks) k (bq _)
   {by rw[bn,cL];exact bI (by lia:_<=1000) (),jA t p,c,vk,hD}
  have S2:aJ l (upd l g.heap.objs.size (.lst (p.toList.map λi=>m.getD i V.non))):=u5 _ fr;have hn:H g.heap.objs.size=L:=by
   cases e:H g.heap.objs.size with
   |none=>rfl
   |some o=>rw[sm _ _ e] at fr;cases fr
  have ac:∀ {us:LV}{ws:zD},Bl (PrAt l) us ws->Bl (PrAt (upd l g.heap.objs.size (.lst (p.toList.map λi=>m.getD i V.non)))) us ws:=λ{us ws} h=>by
   induction h with
   |nil=>exact .nil
   |cons a _ ih=>
    have #[r,p,e,h1,h2]:=a;exact .cons {r,p,e,S2 _ _ h1,S2 _ _ h2} ih
  refine{.ref g.heap.objs.size,_,I2,Z,q _ _ (p.toList.map λi=>its.getD i d0) _ (sm.trans S2) hn zo (ac pk) ?_ λpl wv=>?_}
  .have al:J3 (λi j=>yM ((its.map (·.1)).getD i (("",0):Pl)) ((its.map (·.1)).getD j (("",0):Pl))) p its.length:=by rw[show its.length=t.length by lia];exact hr
   have pw:=zcL (F:=yM) J al;have eq:(p.toList.map λi=>its.getD i d0).map (·.1)=p.toList.map λi=>(its.map (·.1)).getD i (("",0):Pl):=by rw[eQ];refine dR λi O=>?_;have O:=J.lt i O;simp[bD,bF,ba O]
   rw[<-eq,gI] at pw;exact pw
  .have pm:(p.toList.map λi=>its.getD i d0).Perm its:=by refine(J.list.map _).trans ?_;rw[zcK]
   rw[pm.mem_iff];exact mi pl wv
structure StOk(n:Nat)(s:Sta):Prop where
 so:xT s.sl
 wo:∀r∈s.wo,u3 r.2=U
 l1:s.sl.length<=n
 l2:s.wo.length<=n
 l3:s.sa.length<=n
def StOk.mono{s:Sta}(h:StOk n s)(l:n<=m):StOk m s:={h.so,h.wo,bI h.l1 l,bI h.l2 l,bI h.l3 l}
def Qf(h:xT aI)(k:Key){i:Int}(g:u3 i=U):xT (xo aI k (.int i)):=λd v e=>by
 rw[VB] at e;by_cases c:d=k
 .rw[ao c] at e;exact{i,(bU e).symm,g}
 .rw[ak c] at e;exact h d v e
theorem wa{P:Row->Prop}{p:Pl}{w:Int}:∀ {l:zD},(∀r∈l,P r)->zE l p=Y w->P (p,w)
 |[],_,h=>by cases h
 |r::t,hp,h=>by
  rw[zE] at h;cases e:zE t p with
  |some w'=>
   rw[e] at h;have:w'=w:=by simpa using h
   subst this;exact wa (λr d=>hp r (bt _ d)) e
  |none=>
   rw[e] at h;by_cases c:r.1=p
   .rw[ao c] at h;have:r.2=w:=by simpa using h
    rw[<-c,<-this];exact hp r bw
   .rw[ak c] at h;cases h
def zbw(h:∀r∈l,u3 r.2=U)(p:Pl):u3 ((zE l p).getD 0)=U:=by
 cases e:zE l p with
 |none=>rfl
 |some w=>exact wa (P:=λr=>u3 r.2=U) h e
mutual
def zlB(P:Pl->Prop):Rw->Prop
 |.give sh e _=>∀c n,rk c e=.ok n->P (sh,n)
 |.iff _ a b=>zgA P a/\zgA P b
 |_=>True
def zgA(P:Pl->Prop):aY->Prop
 |.nil=>True
 |.cons r rs=>zlB P r/\zgA P rs
end
inductive Oc where
 |done (sa:ym)
 |off (why:Str)
def zbx:Er->Str
 |.great=>"great"
 |_=>"nought"
def Wq:V->PyData
 |.int i=>.int i
 |.str x=>.str x
 |_=>.none
def plV(v:V):Prop:=(∃i,v=.int i)\/∃x,v=.str x/\dt x=U
def V5(e:LV):PyData:=.tuple (e.map Wq)
mutual
def rwD:Rw->PyData
 |.take sh e sl=>.tuple [.str "take",.str sh,V5 e,.str sl]
 |.give sh e f=>.tuple [.str "give",.str sh,V5 e,V5 f]
 |.lt sl e=>.tuple [.str "let",.str sl,V5 e]
 |.say e=>.tuple [.str "say",V5 e]
 |.off e=>.tuple [.str "off",V5 e]
 |.iff e a b=>.tuple [.str "if",V5 e,.list (zjP a),.list (zjP b)]
def zjP:aY->List PyData
 |.nil=>[]
 |.cons r rs=>rwD r::zjP rs
end
def tmP(e:LV):Prop:=∀v∈e,plV v
mutual
def V6:Rw->Prop
 |.take sh e sl=>dt sh=U/\tmP e/\dt sl=U
 |.give sh e f=>dt sh=U/\tmP e/\tmP f
 |.lt sl e=>dt sl=U/\tmP e
 |.say e=>tmP e
 |.off e=>tmP e
 |.iff e a b=>tmP e/\Zx a/\Zx b
def Zx:aY->Prop
 |.nil=>True
 |.cons r rs=>V6 r/\Zx rs
end
section
variable {F:Ad}
end
def aY.snoc:aY->Rw->aY
 |.nil,x=>.cons x .nil
 |.cons r rs,x=>.cons r (rs.snoc x)
def aY.app:aY->aY->aY
 |.nil,x=>x
 |.cons r rs,x=>.cons r (rs.app x)
theorem hZ.get{F:Ad}{H:Hp}:∀ {r:aY}{c:LV}{i:Nat}{v:V},hZ F H (c.drop i) r->c[i]?=Y v->∃x g,r=.cons x g/\bv F H v x/\hZ F H (c.drop (i+1)) g
 |.nil,c,i,v,h,e=>by unfold hZ at h;have:=(bd.mp e).1;have:=congrArg gM h;rw[cq] at this;simp at this;lia
 |.cons x g,c,i,v,h,e=>by unfold hZ at h;have #[u,w,t,q,m]:=h;have k:=(bd.mp e).1;have d:=eD k;rw[t] at d;have l:c[i]=v:=(bd.mp e).2;rw[l] at d;injection d with d1 d2;subst d1 d2;exact{x,g,Z,q,m}
def hZ.none{F:Ad}{H:Hp}{c:LV}(h:hZ F H (c.drop c.length) r):r=.nil:=by
 rw[m3] at h;cases r with
 |nil=>rfl
 |cons x rs=>
  unfold hZ at h;have #[_,_,e,_]:=h;cases e
theorem zgC(h:qv v)(j:isJ v=am):aW [v]:=
 {λd=>{_,zew j},λu c=>by rw[bo.mp c];exact h,by simp}
theorem Paired.snocP{d c:Type}{F:d->c->Prop}{x:d}{y:c}:∀ {a:List d}{b:List c},Bl F a b->F x y->Bl F (a++[x]) (b++[y])
 |_,_,.nil,h=>.cons h .nil
 |_,_,.cons a r,h=>.cons a (Paired.snocP r h)
theorem Paired.getP{c d:Type}{F:c->d->Prop}{a:List c}{b:List d}{i:Nat}{x:c}(h:Bl F a b)(e:a[i]?=Y x):∃y,b[i]?=Y y/\F x y:=by have g:=(bd.mp e).1;have l:=bG h;exact{b[i],ba (),xz h e (ba ())}
variable {value:ay}{pos':Pos}{ty:TE}
def ziZ(K:bL)(ta:TA):TI:=λσ H R=>ta σ H λg c=>∃p q xs d,g=[.ref p,.ref q]/\xs.length=d.length/\((aO K c p xs/\aO K c q d/\R (zjK K p q xs d) c)\/(uZ K c p xs/\uZ K c q d/\R (Itz K p q xs d) c))
theorem zh0{w:List ay}{x1}{tp:Pos}{G z:ay}{ta:TA}{p pos:Pos}(hg:Gl X "zip")(hm:X.mg "zip"=L)(ha:PA X [G,z] ta)(he:Be [G,z] X.e=(am,eval G X.e)::Be [z] X.e:=by rfl)(T:(backTo pos (Be [z] X.e)).any (·.1)=am:=by rfl) :
  PI X (.Tuple w x1 tp) (.Call (.Name "zip" p) [G,z] [] pos) (ziZ X.K ta):=by
 intro aa s σ H R I h;refine Call_ (XM I hg hm zjw (fT (aX (ha pos aa s σ H _ I h) ?_) he T));rintro us g ⟨vs,H1,m,J,q1⟩;have #[a,b,xs,ys,e,hl,q0]:=q1;subst e;have #[u1,u2,rfl,ra,rb]:=ziO J;cases ra;cases rb;have d:∀ {x y:Nat},x≠y->(show af from x)≠(show af from y):=λh=>h;obtain ⟨h1,h2,q⟩|⟨h1,h2,q⟩:=q0
 .have #[v,J,p1,_]:=m.list h1;have #[u,r2,p2,_]:=m.list h2;have O:a<g.heap.objs.size:=by have #[_,_,e,_]:=p1;exact bS e
  have M:b<g.heap.objs.size:=by have #[_,_,e,_]:=p2;exact bS e
  refine call_zip_2 p1.isList p2.isList λh' z0 a0 b0 i0 j0 _ k=>?_;refine mY (s:={ g with heap:=h' }) z0 ?_;generalize hn:g.heap.objs.size=n at *
  have t:∀k:Nat,(show Nat from a)≠n+k:=λk=>b8 (bH O (cZ _ _));have r:∀k:Nat,(show Nat from b)≠n+k:=λk=>b8 (bH M (cZ _ _));have D:ZipApart (n+4) (n+2) (n+3) n (n+1) a b:={d (),d (),d (),d (),d (),d (),d (),d (),d (),d (),t 4,t 3,t 0,t 1,r 4,r 3,r 0,r 1};refine{_,_,_,_,H1,Z,m.kept (t':=g.toks) k,zeJ D hl,{z0,a0,{_,_,b0},i0,j0},λc l=>?_,q};simp only[bC,cQ,or_false] at l;have l:n<=c:=by obtain rfl|rfl|rfl|rfl|rfl:=l <;> first|exact cZ _ _|exact bq _
  exact m.fpOk (by rw[hn];exact l) (m.hok.fresh (by rw[hn];exact l))
 .have #[v,J,p1,_]:=m.tuple h1;have #[u,r2,p2,_]:=m.tuple h2;have O:a<g.heap.objs.size:=by have #[_,e,_]:=p1;exact bS e
  have M:b<g.heap.objs.size:=by have #[_,e,_]:=p2;exact bS e
  refine zeA (show g.heap.IsTuple a v.toArray from p1) (show g.heap.IsTuple b u.toArray from p2) λh' st k=>?_;refine mY (s:={ g with heap:=h' }) st.1 ?_;generalize hn:g.heap.objs.size=n at *
  have t:∀k:Nat,(show Nat from a)≠n+k:=λk=>b8 (bH O (cZ _ _));have r:∀k:Nat,(show Nat from b)≠n+k:=λk=>b8 (bH M (cZ _ _));have D:XW (n+4) (n+2) (n+3) n (n+1) a b:={d (),d (),d (),d (),d (),d (),d (),d (),d (),d (),t 4,t 3,t 0,t 1,r 4,r 3,r 0,r 1};refine{_,_,_,_,H1,Z,m.kept (t':=g.toks) k,zfY D hl,st,λc l=>?_,q};simp only[bC,cQ,or_false] at l;have l:n<=c:=by obtain rfl|rfl|rfl|rfl|rfl:=l <;> first|exact cZ _ _|exact bq _
  exact m.fpOk (by rw[hn];exact l) (m.hok.fresh (by rw[hn];exact l))
abbrev zcN(K:bL):R2:=λx y H Q=>∃a b xs,x=.ref a/\y=.ref b/\aO K H a xs/\aO K H b []/\Q (.bl (!decide (xs=[]))) H
theorem zbz(t:X.A.units+64<cLine):Av X (Bi .NotEq) (zcN X.K):=by
 intro aa s σ H x y v u Q I d c h;have #[a,b,xs,rfl,rfl,k,g,q]:=h;by_cases e:xs=[]
 .subst e;exact zjB t aa s σ H _ _ v u Q I d c {a,b,[],[],Z,Z,k,g,{Z,Z,Z},q}
 .cases d;cases c;have #[G,r,p1,_]:=I.list k;have #[D,m,p2,_]:=I.list g;cases m;have l:=r.length;have w:xs.length≠0:=λz=>e (fJ z);rw[Bk e] at q;exact PySem.SeqAt.RcNeAt.lists_lengths p1.isList p2.isList (by simp;intro z;rw[z] at l;exact w l) () X.p X.w X.xe _ {.bl U,H,I,Z,q}
mutual
inductive zgD(H:Hp):V->PyData->Prop
 |int (i:Int):zgD H (.int i) (.int i)
 |str (x:Str):zgD H (.str x) (.str x)
 |lst {a:af} {xs:LV} {ds:List PyData}:H a=Y (.lst xs)->zbA H xs ds->zgD H (.ref a) (.list ds)
 |tup {a:af} {xs:LV} {ds:List PyData}:H a=Y (.tup xs)->zbA H xs ds->zgD H (.ref a) (.tuple ds)
inductive zbA(H:Hp):LV->List PyData->Prop
 |nil:zbA H [] []
 |cons {x:V} {d:PyData} {xs:LV} {ds:List PyData}:zgD H x d->zbA H xs ds->zbA H (x::xs) (d::ds)
end
abbrev zbB:RM:=zdl
abbrev V7:RM:=zfv
open Classical
def Cb(i:Int):Prop:=eG i<=1048576
theorem Cb.of{i:Int}(h:i.natAbs<2^64):Cb i:=bI (intBits_le_iff.mpr h) ()
def Cw(i:Int):Prop:=eG i<=4000000
theorem Cb.w{i:Int}(h:Cb i):Cw i:=bI h ()
def Cw.div{i k:Int}(h:Cw i):Cw (i/k):=intBits_le_of_natAbs (Int.natAbs_ediv_le_natAbs i k) h
def CMulC(i j:Int):Prop:=Cw i/\Cw j
theorem CMulC.ok{i j:Int}(h:CMulC i j):IntMulOk i j:=by
 unfold IntMulOk;have d:eG i<=4000000:=h.1;have c:eG j<=4000000:=h.2;have e:rQ ((eG i:Int)+(eG j:Int))=am:=by
  unfold rQ;rw[decide_eq_false_iff_not];have:(bitsLine:Int)=134217728:=by lia
  lia
 rw[e];simp
def zh1:Av X (binaryOp .Mult) (rI CMulC λi j=>.int (i*j)):=opI λ_ _ _ _ _ _ _ c q=>mul_int q c.ok
open Att PySem.Calls
def walk_ofXB{l:uz}{n k:Nat}{q:au}{g:yu}{XP:AG->aw->Prop}{YP:av->aw->Prop}{d:DefRec}{K:Params->bL}{sp:bL->Sp}{x:Str}
  (hn:l.most=Y n) (ac:n<=Bb) (ai:d.params.defaults=[]) (hr:uW k callerA) (hY:∀(w:av)(h:aw),YP w h->(K w.params).In h) (F:∀(w:av)(mg:AG)(M:af)(h:aw),(K w.params).In h->h.Ns Bd mg->mg d.name=Y (.ref M) ->
   ∃fd:Bc,(∀(s:ap)(u:aq),BindsTo s fd {[u],[]} [(x,u)]) /\
    ∀base:aw,(K w.params).In base->base.Ns Bd mg->pv l.prog w (K w.params) mg base (CX1 l.prog w) k M fd [x] (sp (K w.params))) (T:∀(K:bL)(H:Hp)(a:af)(t:ym),t.length<=n->(∀i∈t,Cb i)->zer H->aO K H a (t.map V.int)->sp K [.ref a] H (λv _=>v=.bl U) λ_ _ _=>False) :
  W.WalkO q g XP YP l.row.toRowW d [] (λf vs=>rW f vs):=by
 intro w ar an mg mb G Bm M o pm cd a2 dV kV ho hd a1 hD ag hg az al as D J aP O aS;obtain rfl:dV=.none:=Dflts.none hD ai;obtain rfl:kV=.none:=Dflts.noKw hD;have #[a,vs,t,rfl,rfl,I,m,c]:=KQ hn D O;have hb:∀i∈t,Cb i:=λi hi=>intBits_le_of_layable (layable_of_mem (lay0_int (layableW_item (layableW_arg J _ bw) _ (bK.mpr {i,hi,Z}))) bw);have KX:=hY w _ Bm;have #[fd,aj,hF]:=F w mg M _ KX G.T.g ag;refine enter_call (ii (zaY KX G.T.g G.T.b G.T.builtins G.T.nolimit hg I m (bI c ac) hr hF aj (λH hO hS=>T _ H a t c hb hO hS) λ_ _ _ z=>by have #[_,_,_,_,_,_,_,_,_,y]:=z;exact y) λr s' hq=>?_)
 have #[rfl,h2,h3,h4]:=hq;exact{.inl {.bool U,.bool U,[],Z,λ_=>rfl,.bool U,KR l _,λ_=>{gD,λ_ hm=>(nomatch hm)}},h2,h3,h4}
section
variable {K:Type}[DecidableEq K]
def yH(xs:List (K×af×aq))(k:K):List (K×af×aq):=xs.filter λx=>decide (x.1≠k)
def zcO:∀ {xs:List (K×af×aq)}{k:K},k ∉ xs.map (·.1)->yH xs k=xs:=λ{xs k} h=>sQ.mpr λx c=>Bj λe=>h (bK.mpr {x,c,e})
theorem zgE:∀ {xs:List (K×af×aq)}{j:Nat}{k:K}{p:af×aq},(xs.map (·.1)).Nodup->xs[j]?=Y (k,p)->xs.eraseIdx j=yH xs k
 |[],j,k,p,_,h=>by simp at h
 |x::r,0,k,p,n,h=>by rw[bB,cw] at n;simp only[lO,mz] at h;subst h;show r=List.filter _ ((k,p)::r);rw[gQ (by simp)];exact(zcO n.1).symm
 |x::r,j+1,k,p,n,h=>by rw[bB,cw] at n;simp only[List.getElem?_cons_succ] at h;have m:k∈r.map (·.1):=bK.mpr {(k,p),bA h,Z};have c:x.1≠k:=λe=>n.1 (e ▸ m);show x::r.eraseIdx j=List.filter _ (x::r);rw[gR (by simp[c]),zgE n.2 h];rfl
end
theorem XZ{c d:Type}(f:c->d):∀(l:List c)(j:Nat),(l.map f).eraseIdx j=(l.eraseIdx j).map f
 |[],_=>rfl
 |_::_,0=>rfl
 |a::l,j+1=>by rw[bB,lA,lA,bB,XZ f l j]
theorem KT.dropT{H:Hp}{xs:List (xO×af×aq)}(r:KT H aI xs)(k:xO):KT H (yO aI k) (yH xs k):=by
 induction r with
 |nil=>exact .nil
 |@cons p q ps qs h t ih=>
  unfold yO yH;by_cases e:p.1=k
  .rw[gQ (by simp[e]),gQ (by simp[<-h.1,e])];exact ih
  .rw[gR (by simp[e]),gR (by simp[<-h.1,e])];exact .cons h ih
section
variable {w:av}{K:Type}[DecidableEq K]{knd:HeapKind prog w K}{d a:af}{xs:List (K×af×aq)}{k:K}
theorem zac{p:af×aq}{Q:Option DictEntry->ap->Prop}(G:knd.room A)(c:knd.is s.heap k a)(O:s.heap.DictOfH knd d xs)(v:atKey xs k=Y p)(g:∀e:DictEntry,e.val=p.2->∀D,D.DictOfH knd d (yH xs k)->de d s.heap D->Q (Y e) { s with heap:=D,toks:=s.toks+knd.draws k })(M:xs.length<=Bb) :
  Bf (Bg prog w) A (sw d (.ref a)) Q E s:=by
 have #[o,es,ep,m,hc,h,u,r,t]:=O;have T:es.size=xs.length:=rR u;unfold sw
 try with_reducible refine fO ?_
 refine bb (knd.pyHash G c ?_);refine bb (wpAny_dictFind_heap (s:={ s with toks:=s.toks+knd.draws k }) G c m h u r t ?_ ?_)
 .intro y;rw[atKey_none_of_get y] at v;cases v
 .intro j q z;have I:=atKey_of_get t z;rw[v] at I;cases I;refine bb (eP (s:={ s with toks:=s.toks+knd.draws k }) m h ?_);rw[entry_at u j,z];refine bb (sy (hz:=by lia) (s:={ s with toks:=s.toks+knd.draws k }) m h (bu (g (entryOfKey knd (k,p)) rfl _ {_,_,ep+1,fC _ m (sR (iN h _)),hc.mapDictKeys _,iN h _,?_,?_,?_} (dL ..))))
  .rw[<-zgE t z,<-XZ,<-u];have #[l]:=es;simp
  .intro x J;exact knd.keeps (r x (cC.mp J).1) m h (dL ..)
  .exact ie (f8 _ dD) t
theorem zcP :MeetsIn prog w (Builtin.«dict.pop» {[.ref d,.ref a],[]}) (λA R s=>knd.room A.in1/\∃k xs p,knd.is s.heap k a/\s.heap.DictOfH knd d xs/\xs.length<=Bb/\atKey xs k=Y p /\
   ∀g,g.DictOfH knd d (yH xs k)->de d s.heap g->R (.ok (.ret p.2)) { s with heap:=g,toks:=s.toks+knd.draws k }):=
 .of_wp λA R s ⟨G,k,xs,p,c,q,D,u,h⟩=>by
  unfold Builtin.«dict.pop»;refine bb ?_;unfold oo;refine bb (gp q.typeIs ?_);show Bf _ _ (pure (d,bY a,L)) _ _ s;refine bu ?_;have y:(keyPart (bY a)).isSome=am:=rfl;simp only[y,dz,if_false];have #[o,es,ep,I,hc,O,M,J,hn]:=id q;refine bb (eP I O ?_);refine bb (bu ?_);have v:es.isEmpty=am:=by
   have t:=rR M;cases xs with
   |nil=>simp[atKey] at u
   |cons x r=>
    rw[Array.isEmpty_eq_false_iff];intro z;rw[z] at t;simp at t
  simp only[v,dz,if_false];refine bb (zac G c q u (λe T g m l=>?_) D);simp only[tG,dz,if_false];exact bb (pK (bu {e.val,Z,by rw[T];exact h g m l}))
theorem WU{g:aq}{Q:Aa}(G:knd.room A)(c:knd.is s.heap k a)(M:s.heap.DictOfH knd d xs)(h1:∀p,atKey xs k=Y p->Q p.2 { s with toks:=s.toks+knd.draws k })(h2:atKey xs k=L->∀z,z.DictOfH knd d (storedH xs k a g)->de d s.heap z->Q g { s with heap:=z,toks:=s.toks+knd.draws k })(J:xs.length<=Bb) :
  Bf (Bg prog w) A (dictSetDefault d (.ref a) g) Q E s:=by
 have #[o,es,ep,l,T,h,t,r,v]:=M;have O:es.size=xs.length:=rR t;unfold dictSetDefault
 try with_reducible refine fO ?_
 refine bb (knd.pyHash G c ?_);refine bb (wpAny_dictFind_heap (s:={ s with toks:=s.toks+knd.draws k }) G c l h t r v ?_ ?_)
 .intro q;have m:k ∉ xs.map (·.1):=not_mem_keys_of_get q;have u:=atKey_none_of_get q;refine bb (fZ (bb (sy (hz:=by lia) (s:={ s with toks:=s.toks+knd.draws k }) l h (bu (h2 u _ {_,_,ep+1,fC _ l (sR (iN h _)),
   T.mapDictKeys _,iN h _,?_,?_,?_} (dL ..))))))
  .rw[storedH_new u];simp[t,entryOfKey]
  .rw[storedH_new u];intro x hx;obtain hx|hx:=bp.mp hx
   .exact knd.keeps (r x hx) l h (dL ..)
   .simp only[bo] at hx;subst hx;exact knd.keeps c l h (dL ..)
  .rw[storedH_new u];rw[bZ,dh];refine{v,by simp,?_};intro x hx y D;simp only[bB,rF,bo] at D;subst D;exact λe=>m (e ▸ hx)
 .intro j p I;refine bb (eP (s:={ s with toks:=s.toks+knd.draws k }) l h ?_);rw[entry_at t j,I];exact bb (fZ (bu (h1 p (atKey_of_get v I))))
def J6(v:(d==sysModules)=am)(dflt:aq):MeetsIn prog w (Builtin.«dict.setdefault» {[.ref d,.ref a,dflt],[]}) (λA R s=>knd.room A.in1/\∃k xs,knd.is s.heap k a/\s.heap.DictOfH knd d xs/\xs.length<=Bb /\
   (∀p,atKey xs k=Y p->R (.ok (.ret p.2)) { s with toks:=s.toks+knd.draws k }) /\
   (atKey xs k=L->∀g,g.DictOfH knd d (storedH xs k a dflt)->de d s.heap g->R (.ok (.ret dflt)) { s with heap:=g,toks:=s.toks+knd.draws k })):=
 .of_wp λA R s ⟨r,k,xs,c,m,q,z,y⟩=>by unfold Builtin.«dict.setdefault»;refine bb ?_;unfold oo;refine bb (gp m.typeIs ?_);show Bf _ _ (pure (d,bY a,Y dflt)) _ _ s;refine bu ?_;show Bf _ _ (if (d==sysModules)=U then _ else (dictSetDefault d (.ref a) dflt >>= _)) _ _ s;rw[ak (by rw[v];exact bV)];exact bb (WU r c m (λp t=>bu {_,Z,z p t}) (λu g l h=>bu {dflt,Z,y u g l h}) q)
end
section
variable {a b:af}{aI:yd}{k:xO}
theorem zjR{Q:Aa}(M:A.units+1<cLine)(I:aL X aa σ H s)(e:H a=Y (.dT aI))(eb:H b=Y (.tup (k.map kV)))(l:yt aI k=Y v)(h:∀g t,aL X aa σ (upd H a (.dT (yO aI k))) t->aR v g->Q g t):Bf (Bg X.p X.w) A (call (.builtin "dict.pop") [.ref a,.ref b]) Q E s:=by
 have #[z,hd,xs,d,D]:=zaT I.hok e;have G:xs.length<=Bb:=by rw[<-bG d];exact z
 have u:=d.val k;rw[l] at u;have #[g,J,m]:=Ap.some_of u;have #[p,T,rfl]:=cr.mp J;refine mH fq D.typeIs lU (pF _ _) (zcP (knd:=tupleKind (yT X.p X.w))) {eS M,k,xs,p,qo I.hok eb,D,G,T,λh' r O=>h _ _ ?_ m};have #[q,es,ep,w,h2,h3,h4,_,h5]:=r;refine Z9 I (by rw[e];exact fH) O {q,w} {bI (zaS aI k) z,hd,_,(d.dropT k).keeps λc ys y=>?_,q,es,ep,w,h2,h3,h4,h5};rw[zt (zQ y e ())];exact y
theorem zeN{Q:Aa}(hu:A.units+1<cLine)(I:aL X aa σ H s)(e:H a=Y (.dT aI))(J:H b=Y (.tup (k.map kV)))(O:aR d r)(hl:aI.length<Bb)(h1:∀v w m,yt aI k=Y v->aL X aa σ H m->aR v w->Q w m)(h2:∀m,yt aI k=L->aL X aa σ (upd H a (.dT (xo aI k d))) m->Q r m):Bf (Bg X.p X.w) A (call (.builtin "dict.setdefault") [.ref a,.ref b,r]) Q E s:=by
 have #[z,D,xs,h,M]:=zaT I.hok e;have T:xs.length<=Bb:=by rw[<-bG h];exact z
 have g:=h.val k;refine mH nH M.typeIs PySem.F.entry_dict_setdefault (PySem.F.args_dict_setdefault_3 _ _ _) (J6 (knd:=tupleKind (yT X.p X.w)) D r) {eS hu,k,xs,qo I.hok J,M,T,λp hp=>?_,λhn h' u hs=>?_}
 .rw[hp] at g;cases l:yt aI k with
  |none=>rw[l] at g;exact g.elim
  |some v=>rw[l] at g;exact h1 v _ _ l (I.tok _) g
 .rw[hn] at g;have l:yt aI k=L:=by
   cases l:yt aI k with
   |none=>rfl
   |some v=>rw[l] at g;exact g.elim
  refine h2 _ l ?_;have #[q,es,ep,y,g2,g3,g4,_,g5]:=u;have t:(xo aI k d).length<=Bb:=by have:=wY aI k d;lia
  refine Z9 I (by rw[e];exact fH) hs {q,y} {t,D,_,(h.put k J O).keeps λc ys G=>?_,q,es,ep,y,g2,g3,g4,g5};rw[zt (zQ G e ())];exact G
end
def zjS(td ty:TE):TE:=λσ H Q=>td σ H λx g=>∃a,x=.ref a/\IsD g a/\ty σ g λy d=>∃c k b v,d a=Y (.dT c)/\y=.ref b/\d b=Y (.tup (k.map kV))/\yt c k=Y v/\Q v (upd d a (.dT (yO c k)))
def zjT(td ty tx:TE):TE:=λσ H Q=>td σ H λx g=>∃a,x=.ref a/\IsD g a/\ty σ g λy h=>tx σ h λz d=>∃c k b,d a=Y (.dT c)/\y=.ref b/\d b=Y (.tup (k.map kV))/\c.length<Bb /\
 (∀v,yt c k=Y v->Q v d)/\(yt c k=L->Q z (upd d a (.dT (xo c k z))))
section
variable {f:ay}{tx:TE}
def zgF(M:X.A.units+1<cLine)(O:PE X o td)(T:PE X e ty)(m:M1 X o "pop" uV e u6):PE X (.Call (.Attribute o "pop" uV) [e] [] u6) (zjS td ty):=by intro aa s σ H Q I h;refine iH m.base m.few m.line eT fq mJ (aX (O aa s σ H _ I h) ?_);rintro u t ⟨x,H1,g,z,a,ex,d,G⟩;subst ex;obtain rfl:u=bY a:=z;have #[r,q,_]:=XU g d;refine{r,q,?_};rw[m.trees];refine dN Z (eW (dG (aX (T aa t σ H1 _ g G) λJ s2 ⟨y,H2,I2,w,aI,k,b,v,ea,ey,eb,l,D⟩=>fR ?_)));subst ey;cases (show J=bY b from w);exact zjR M I2 ea eb l λw' s3 I3 c=>{v,_,I3,c,D}
def zgG(hu:X.A.units+1<cLine)(ho:PE X o td)(he:PE X e ty)(hf:PE X f tx)(m:M2 X o "setdefault" uV e f u6):PE X (.Call (.Attribute o "setdefault" uV) [e,f] [] u6) (zjT td ty tx):=by
 intro aa s σ H Q I h;refine iH m.base m.few m.line eT nH PySem.F.type_dict_setdefault (aX (ho aa s σ H _ I h) ?_);rintro u G ⟨x,H1,q,M,a,ex,d,q1⟩;subst ex;obtain rfl:u=bY a:=M;have #[t,r,_]:=XU q d;refine{t,r,?_};rw[m.trees];refine dN Z (eW (dG (aX (he aa G σ H1 _ q q1) λiv D ⟨y,H2,I2,J,q2⟩=>
  dG (aX (hf aa D σ H2 _ I2 q2) λfv s3 ⟨z,H3,I3,l,aI,k,b,ea,ey,eb,hl,T,O⟩=>fR ?_))))
 subst ey;cases (show iv=bY b from J);exact zeN hu I3 ea eb l hl (λv w' w hv g c=>{v,_,g,c,T v hv}) λw hn g=>{z,_,g,l,O hn}
end
abbrev Wr:RM:=λx c H Q=>∃(l:af)(xs:LV)(k:Nat)(y:V),x=.ref l/\c=[.int k,y]/\H l=Y (.lst xs)/\k<=xs.length/\xs.length<1000000/\Q .non (upd H l (.lst (xs.take k++y::xs.drop k)))
abbrev Ws:RM:=λx d H Q=>∃(l:af)(c:ym)(i:Int),x=.ref l/\d=[.int i]/\H l=Y (.lst (c.map V.int))/\i∈c/\Q .non (upd H l (.lst ((c.erase i).map V.int)))
theorem aQ.takeV:∀(k:Nat){xs:LV}{c:zX},aQ xs c->aQ (xs.take k) (c.take k)
 |0,_,_,_=>by rw[oE,oE];exact .nil
 |_+1,_,_,.nil=>.nil
 |k+1,_,_,.cons h r=>.cons h (aQ.takeV k r)
theorem aQ.dropV:∀(k:Nat){xs:LV}{c:zX},aQ xs c->aQ (xs.drop k) (c.drop k)
 |0,_,_,h=>h
 |_+1,_,_,.nil=>.nil
 |k+1,_,_,.cons _ r=>aQ.dropV k r
theorem Qg:MtM X "list.insert" Wr:=by
 intro aa s σ H x vs v us Q I w D h;have #[l,xs,k,y,rfl,rfl,m,hk,hz,q]:=h;cases w;cases D with
 |cons r1 rr=>
  have #[u,rfl,G]:=(show aQ [y] _ from rr).one;have #[t,rfl]:=r1;have #[z,c,n,r,hl,e]:=I.lstM m;have h1:(1000000:Nat)<Bb:=by rw[bN];decide
  obtain⟨i,g⟩:∃i:Int,i=k:={_,Z};rw[<-g];have T:¬ (!Builtin.List.listFitsIndex i)=U:=by rw[fitsIndex_both () ()];exact bV
  have J:c.toArray.size<=Bb:=by rw[bR];lia
  have M:=AutoSeq1.list_insert_list_int_val_1 l c.toArray n i t u T J;refine iZ F.slot_list_insert {_,e,Z} F.entry_list_insert (F.args_list_insert_3 _ _ _) M {e,?_};refine{.non,_,I.lset (its':=c.take k++u::c.drop k) m e ?_ ((r.takeV k).append (.cons G (r.dropV k))) ?_,Z,q}
  .have d:k<=c.length:=by lia
   subst g;have O:¬ ((k:Int)<0):=by lia
   simp[dq d,O];rw[b9 (by rw[cq];lia)]
  .rw[bh,b7,bX,cq];lia
theorem zdI:∀ {d:ym}{c:zX},aQ (d.map V.int) c->∀(m:Nat)(v:aq),c[m]?=Y v->∃i t,d[m]?=Y i/\v=.int i t
 |[],_,.nil,m,v,h=>by simp at h
 |i::d,_,.cons h r,0,v,e=>by simp only[lO,mz] at e;subst e;have #[t,rfl]:=h;exact{i,t,Z,Z}
 |i::d,_,.cons h r,m+1,v,e=>by simpa using zdI r m v (by simpa using e)
def isI(k:Int):aq->Bool
 |.int a _=>a==k
 |_=>am
theorem Qh:MtM X "list.remove" Ws:=by
 intro aa s σ H x vs v us Q I O T h;have #[l,c,i,rfl,rfl,G,hi,q]:=h;cases O;have #[u,rfl,ru]:=T.one;have #[t,rfl]:=ru;have #[z,d,n,r,hl,e]:=I.lstM G;rw[bn] at hl z;have hj:c.idxOf i<c.length:=List.idxOf_lt_length_iff.mpr hi;have gt:∀m (g:m<d.toArray.size),∃(k:m<c.length)(t':Tok),d.toArray[m]=.int c[m] t':=λm g=>by
  rw[bR] at g;have #[i',t',M,k]:=zdI r m d[m] (ba g);have J:m<c.length:=by lia
  rw[ba J] at M;refine{J,t',?_};rw[bU M,<-k];simp
 refine iZ F.slot_list_remove {_,e,Z} F.entry_list_remove (F.args_list_remove_2 _ _) (MeetsSeq.list_remove l d.toArray n (.int i t) (isI i) (λy hy=>?_) (c.idxOf i) (by rw[bR];lia) ?_ (λm g D=>?_) (by rw[bR];lia)) {e,?_}
 .have #[m,g,rfl]:=Array.mem_iff_getElem.mp hy;have #[k,t',w]:=gt m g;rw[w];exact MeetsSeq.EqGives.int _ _ _ _
 .have #[k,t',w]:=gt (c.idxOf i) (by rw[bR];lia);rw[w];show (c[c.idxOf i]==i)=U;rw[List.getElem_idxOf hj];exact beq_self_eq_true i
 .have #[k,t',w]:=gt m g;rw[w];show (c[m]==i)=am;exact List.not_of_lt_findIdx (p:=λy=>y==i) (xs:=c) (i:=m) D
 .have ee:c.erase i=c.eraseIdx (c.idxOf i):=List.erase_eq_eraseIdx_of_idxOf rfl;rw[ee] at q;refine{.non,_,I.lset (its':=d.eraseIdx (c.idxOf i)) G e ?_ (by rw[<-XZ];exact r.eraseIdx _) ?_,Z,q}
  .show d.toArray.eraseIdxIfInBounds _=_;rw[gC]
  .rw[bn];have:=KN c (c.idxOf i);lia
def zbC(H:Hp)(y:V)(c:xO×V):Prop:=∃p,y=.ref p/\H p=Y (.tup (c.1.map kV))
abbrev zk9:RC:=λg H Q=>∃a d,g=[.ref a]/\H a=Y (.dT d)/\∀l c,H l=L->Bl (zbC H) c d->Q (.ref l) (upd H l (.lst c))
theorem Wt{H:Hp}{es:Array DictEntry}:∀(d:yd)(c:zX)(j:Nat),c.length=d.length->(∀i v,c[i]?=Y v->∃e,es[j+i]?=Y e/\v=e.key) ->
  (∀(i:Nat)(h:DictEntry)(kv:xO×V),es[j+i]?=Y h->d[i]?=Y kv->∃p,h.key=.ref p/\H p=Y (.tup (kv.1.map kV)))->∃g,aQ g c/\Bl (zbC H) g d
 |[],[],_,_,_,_=>{[],.nil,.nil}
 |[],v::c,_,hl,_,_=>by simp at hl
 |kv::d,[],_,hl,_,_=>by simp at hl
 |kv::d,v::c,j,hl,h1,h2=>by have #[e,y,rfl]:=h1 0 v rfl;have #[p,t,z]:=h2 0 e kv y rfl;have #[g,q,m]:=Wt (es:=es) d c (j+1) (by simpa using hl) (λi u r=>by rw[nE,Nat.add_comm 1 i];exact h1 (i+1) u (by simpa using r)) (λi h k l w=>h2 (i+1) h k (by rw[<-nE,tH];exact l) (by simpa using w));exact{.ref p::g,.cons t q,.cons {p,Z,z} m}
theorem jC(hc:X.c=U):qO X (.type "list") zk9:=by
 intro aa s σ H vs us Q I O h;have #[a,aI,rfl,D,q]:=h;have #[u,rfl,G]:=Zn O;cases G;have hh:X.A.handled=L:=I.ok.hd hc;have #[z,lo,_]:=zaT I.hok D;have #[es,ep,J,d,m]:=zgv I D;refine W.kdl_call (Q6 (ep:=ep) (es:=es) lo) hh J (by rw[d];exact z) λh' r g c l hD w=>?_;have #[k,M,t]:=Wt (H:=H) (es:=es) aI g.toList 0 (by rw[cL,w.1,d]) (λi v hv=>by
   rw[i7];have #[e,h1,h2]:=w.2 i v (by rw[<-dI];exact hv);exact{e,h1,h2}) (λi en T y l=>by rw[i7] at y;have #[p,g1,g2,_]:=m i en T y l;exact{p,g1,g2})
 have I2:aL X aa σ (upd H s.heap.objs.size (.lst k)) { s with heap:=h',toks:=r }:=I.laid (a:=s.heap.objs.size) (o:=.lst k) (t':=r) l (bq _)
  {by have:=bG t;lia,g.toList,c,M,by rw[Array.toArray_toList];exact hD}
 exact{.ref s.heap.objs.size,_,I2,Z,q _ k (I.hok.fresh (bq _)) t}
structure FunD(K:bL)(x qual:Str)(st:ax)(f:af)(fd:Bc):Prop where
 ex:∃(oc:aq)(od:Option af)(dV kV doc pm:aq)(an:Option af)(cdv ct:aq)(osl:Array (Option aq)),fd=uy x qual (Ya st) (wM st) (zq st) dV kV doc pm an cdv ct/\K.lookup f=Y {oc,od,.func fd,osl}/\ur K cdv qual=U
 kp:pA K (.ref f)=U
section
variable {w:av}{st:ax}{N:yu}{k:Nat}
def FunD.ok1(F:FunD K x qual st f fd)(S:aK N ps (zq st))(h:∀d H Q E,sp d H Q E->d.length=ps.length)(g:∀(cdv:aq)(A:aA)(c:LEv)(s:ap)(H:Hp)(d:LV)(Q:VK)(E:XK),uW k (A.deeper (envOfC qual (zq st) s.heap.objs.size f cdv))->sp d H Q E->∃t,PSs (Zi (CX1 P w) P w K mg base N qual (zq st) f cdv A c s H E) (wM st) t/\t { nx:=λ_ u=>Q .non u,rt:=Q } (start N d) H):pv P w K mg base (CX1 P w) (k+1) f fd ps sp:=by have #[oc,od,dV,kV,doc,pm,an,cdv,ct,osl,rfl,q,m]:=F.ex;exact ziP q m S h λA c s H d Q E r l=>g cdv A c s H d Q E r l
def FunD.ok0(F:FunD K x qual st f fd)(S:aK N ps (zq st))(l:∀d H Q E,sp d H Q E->d.length=ps.length)(g:∀(cdv:aq)(A:aA)(c:LEv)(s:ap)(H:Hp)(d:LV)(Q:VK)(E:XK),uW k (A.deeper (envOfC qual (zq st) s.heap.objs.size f cdv))->sp d H Q E->∃t,PSs (Zi (CX1 P w) P w K mg base N qual (zq st) f cdv A c s H E).nox (wM st) t/\t { nx:=λ_ q=>Q .non q,rt:=Q } (start N d) H):pv P w K mg base (CX1 P w) (k+1) f fd ps sp:=
 F.ok1 S l λcdv A c s H d Q E m h=>let ⟨t,a,b⟩:=g cdv A c s H d Q E m h;{t,a.nox,b}
def fun_mkD{u t:Option af}{h:Array (Option aq)}{q kV g m d r:aq}(l:K.lookup f=Y {oc,u,.func (uy x qual (Ya st) (wM st) (zq st) q kV g m t d r),h})(c:ur K d qual=U)(k:pA K (.ref f)=U):FunD K x qual st f (uy x qual (Ya st) (wM st) (zq st) q kV g m t d r):={{oc,u,q,kV,g,m,t,d,r,h,Z,l,c},k}
end
section
variable {f:Str}
def zi0(K:bL)(ta:TE)(tx:EXK->TE)(f:Str)(c:EXK):TS:=vc K ta (tx c) f
def zh2(G:PE X.nox o ta)(v:PEX X value tx)(w:swapsWith value (Y (.Attribute o f pos')) pos.line X.e=pure am):PSX X (.Assign [.Attribute o f pos'] value pos) (zi0 X.K ta tx f):=by intro aa s σ H D EX I h;refine lZ (aX (v aa s σ H _ EX I h) λu g ⟨y,H1,T,k,q⟩=>eL (G aa g σ H1 _ (T.wish _) q) (?_) λ_ _ z=>dQ z) w;rintro t s2 ⟨x,H2,d,m,a,C,dx,fs,J,M,c,n,l,r⟩;subst J;obtain rfl:t=bY a:=m;exact YB d.unwish M c n l k λs3 O=>{σ,_,O,r}
end
def zi1(K:bL)(tb:EXK->TS)(C1 C2:af)(th:TS):TS:=λD σ H=>tb (λd c g=>∃C,d=.ref C/\uN K (.ref C) [.ref C1,.ref C2]=Y U/\th D c g) D σ H
def zgH{l:LEv}{e:af}{c d:aq}(x:i8 base l e c d h)(o:Obj):i8 base l e c d (h.push o):=by have #[w,v,t,m,g,T,r,k,a1,O,M,J,I,G,D,z,y]:=x;exact{λb u q=>bg _ (w b u q),v,t.of_keeps (λb u q _=>{u,bg _ q,Z}),m,g,T,r,k,bg _ a1,O,M,J,I,G,bg _ D,z,y}
section
variable {st:ax}{tpos:Pos}{x1:Nat}
theorem zh3(r:X.k=X.e::X.J/\X.e.frame=Y X.e.locals)(z:X.ex=[])(hb:PSX X st tb)(y:Gl X c1)(v:X.mg c1=Y (.ref C1))(w:Gl X c2)(t:X.mg c2=Y (.ref C2))(T:∀e,PSs (X.sub e) (b₀::suite) th)(k:Bq c1:=by lia)(h:Bq c2:=by lia) :
  PS X (.Try [st] [.ExceptHandler (Y (.Tuple [.Name c1 np,.Name c2 np2] x1 tpos)) L (b₀::suite) hpos] [] [] pos) (zi1 X.K tb C1 C2 th):=by refine zdG (W:=λD C d J=>uN X.K (.ref C) [.ref C1,.ref C2]=Y U/\th D d J) r z hb λaa D d J e C a0 base s l M ⟨O,m⟩=>?_;have G:=M _ l (.refl _);refine n9 (mQ ?_) (by intro q;cases q);refine wpAny_Tuple_spliced (dG (vL (X:=X.sub e) (G.toSub (e:=e)) y v (dG (vL (X:=X.sub e) (G.toSub (e:=e)) w t (fR {(),?_}) h)) k));have c:=zgH l { cls:=.type "tuple",data:=.seq [bY C1,bY C2].toArray };have I:∀b o,s.heap.get? b=Y o->(s.heap.push { cls:=.type "tuple",data:=.seq [bY C1,bY C2].toArray }).get? b=Y o:=λb o q=>bg _ q;exact(W.exm_tup2 (G.kept (t':=s.toks) I).kIn (zab c) (bJ _ Z) O).here (zaa c (λg f u=>M g f ((Heap.UpToSlots.of_keeps I).trans u)) T m λf s' q=>q)
end
variable {CX:CXT}{dvs:LV}
section
variable {k:Nat}{E:XK}{m:Str}
def zeO{l:Sem Bool}(v:PE X o ta)(c:AB X.K C)(u:QI X.K C m f)(F:pv X.p X.w X.K X.mg X.M CX k f fd ps sp)(t:uW k X.A)(d:∃g,aQ dvs g/\uX X.K fd ps g)(q:wR CX X E)(r:eval (.Call (.Attribute o m uV) [] [] pos) X.e=(do
   let h <-eval o X.e
   standAt uV.atName
   let (f,first) <-holding [h] (getMethod h m l)
   callWith pos f first (backTo pos (Be [] X.e)) (backToKw pos (keywordEach [] X.e))):=by rfl) :
  PE X (.Call (.Attribute o m uV) [] [] pos) (yo C m sp dvs E ta zy):=by have #[g,w,d]:=d;exact zaM v c u F t d w q r
end
structure MkO(K:bL)(C:af):Prop where
 makes:uw K C=U
 init:f9 K (.ref C) "__init__"=Y (Y (.builtin "object.__init__"))
 kp:pA K (.ref C)=U
def zjU(C:af):TE:=λ_ H Q=>∀x c,H x=L->H c=L->c≠x->Q (.ref x) (upd (upd H c (.own x)) x (.ins C c []))
def zeP{H:Hp}{Q:VK}(M:MkO X.K C)(I:aL X aa σ H s)(h:∀x d,H x=L->H d=L->d≠x->Q (.ref x) (upd (upd H d (.own x)) x (.ins C d []))) :
  Bf (Bg X.p X.w) X.A (call (.ref C) []) (EP X aa σ Q) X.xe s:=by
 have g:=h (s.heap.objs.size+1) s.heap.objs.size (I.hok.fresh (pB _)) (I.hok.fresh (bq _)) (b8 (dX _));have m:=aL.made (C:=C) I;refine tM (zeh I.kIn M.makes M.init (λc=>W.Looks.of_pure (W.oi_bind c)) ?_);have q:=W.makes_of (M:=Bg X.p X.w) I.kIn M.makes;have l:W.Looks (Bg X.p X.w) ((s.heap.push fh).push (gW C s.heap.objs.size)) (typeOf (.ref (s.heap.objs.size+1))) (.ref C):=by have:=bJ (s.heap.push fh) (o:=gW C s.heap.objs.size) rfl;rw[fQ] at this;exact(uH this).andThen .now
 have k:W.Looks (Bg X.p X.w) ((s.heap.push fh).push (gW C s.heap.objs.size)) (isInstance (.ref (s.heap.objs.size+1)) (.type "object")) U:=l.andThen (q.top.keeps λb o e=>bg (gW C s.heap.objs.size) (bg fh e));refine codeAny_call_builtin W.oi_plain W.entry_oi (W.check_slot (rest:=[]) (kw:=[]) W.oi_kind W.oi_split k (W.oi_args _) ?_);rw[W.oi_run];exact bu {Z,V.ref (s.heap.objs.size+1),_,m,Z,g}
def zbD(M:MkO X.K C)(g:Gl X x)(d:X.mg x=Y (.ref C))(c:Bq x:=by lia):PE X (.Call (.Name x p) [] [] pos) (zjU C):=by intro aa s σ H Q I h;refine gc (vL I g d ?_ c);exact sY I.kIn M.kp (zeP M I h)
def zjV(l:List (af×Sp))(m:Str)(E:XK)(ta:TE)(t:TA):TE:=λσ H Q=>ta σ H λx d=>∃a h c C sp,x=.ref a/\d a=Y (.ins C h c)/\c.lookup m=L/\(C,sp)∈l/\t σ d λg k=>sp (x::g) k Q E
structure MOk(X:Cx)(CX:CXT)(m:Str)(C:af)(sp:Sp):Prop where
 cl:AB X.K C
 fn:∃k f fd ps,QI X.K C m f/\pv X.p X.w X.K X.mg X.M CX k f fd ps sp/\uW k X.A/\uX X.K fd ps []
section
variable {E:XK}{m:Str}{t:TA}{Bp:List (af×Sp)}
def zgI(c:AB X.K C)(g:QI X.K C m f)(F:pv X.p X.w X.K X.mg X.M CX k f fd ps sp)(d:uW k X.A)(h:uX X.K fd ps []):MOk X CX m C sp:={c,k,f,fd,ps,g,F,d,h}
def zjW:∀z∈([]:List (af×Sp)),MOk X CX m z.1 z.2:=λz h=>nomatch h
def zad(h:MOk X CX m C sp)(r:∀z∈Bp,MOk X CX m z.1 z.2):∀z∈(C,sp)::Bp,MOk X CX m z.1 z.2:=λz hz=>by
 obtain rfl|hz:=bC.mp hz
 .exact h
 .exact r z hz
def zgJ{pl:Sem Bool}(he:PE X o ta)(hL:∀z∈Bp,MOk X CX m z.1 z.2)(T:wR CX X E)(ha:PA X (e::es) t)(d:Be (e::es) X.e=(am,eval e X.e)::Be es X.e:=by rfl)(g:(backTo pos (Be es X.e)).any (·.1)=am:=by rfl)(ht:eval (.Call (.Attribute o m uV) (e::es) [] pos) X.e=(do
   let v <-eval o X.e
   standAt uV.atName
   let (f,first) <-holding [v] (getMethod v m pl)
   callWith pos f first (backTo pos (Be (e::es) X.e)) (backToKw pos (keywordEach [] X.e))):=by rfl) :
  PE X (.Call (.Attribute o m uV) (e::es) [] pos) (zjV Bp m E ta t):=by intro aa s σ H Q I h;refine nN (pl:=pl) (aX (he aa s σ H _ I h) ?_) ht;rintro u G ⟨x,H1,D,J,a,dx,fs,C,sp,ex,ea,l,O,q⟩;subst ex;obtain rfl:u=bY a:=J;have #[c,k,f,fd,ps,w,F,hr,hb]:=hL _ O;refine qm D ea c w l ?_;refine ot (first:=[.ref a]) (h₀:=X.M) I.ok.mod.kin w.kp (aX (ha pos aa G σ H1 _ D q) λus s2 ⟨vs,H2,y,r,M⟩=>{y.kIn,?_}) d g;exact QJ (us:=.ref a::us) (vs:=.ref a::vs) (dvs:=[]) F hr hb .nil T y (.cons Z r) (by rw[rD];exact M)
end
section
variable {k:Nat}{E:XK}{t:TA}
def zgK(M:Mk X.K C f)(F:pv X.p X.w X.K X.mg X.M CX k f fd ps sp)(m:uW (k+1) X.A)(r:Gl X x)(q:X.mg x=Y (.ref C))(g:∃h,aQ dvs h/\uX X.K fd ps h)(l:wR CX X E)(w:PA X (e::es) t)(d:Bq x:=by lia)(u:Be (e::es) X.e=(am,eval e X.e)::Be es X.e:=by rfl)(c:(backTo pos (Be es X.e)).any (·.1)=am:=by rfl) :
  PE X (.Call (.Name x p) (e::es) [] pos) (Wn C sp dvs E t):=by have #[h,v,g]:=g;exact Z8 M F m r q g v l w d u c
end
end L2
namespace HT
open PySem PySem.Spec PyProof.Rows
end HT
namespace L2
open PySem PySem.Spec PyProof.Rows
variable {X:Cx}
variable {e:ay}{p2 pos:Pos}{te:TE}
variable {P:au}
open PySem.W
variable {a:ay}{p:Pos}
open PySem.Calls
structure FG(K:bL)(mg:AG)(x:Str)(st:ax)(ps:yu)(a:af)(d:Bc):Prop where
 m:mg x=Y (.ref a)
 f:Fun K x x st a d
 b:uX K d ps []
structure FM(K:bL)(C:af)(x qual:Str)(st:ax)(ps:yu)(a:af)(d:Bc):Prop where
 me:QI K C x a
 f:Fun K x qual st a d
 b:uX K d ps []
def arS{P:zX->Prop}(h:∀a us,us.length=n->P (a::us)):∀us,us.length=n+1->P us:=λus e=>by
 cases us with
 |nil=>cases e
 |cons a us=>exact h a us (Nat.succ.inj e)
def ar0{P:zX->Prop}(h:P []):∀us,us.length=0->P us:=λus e=>by
 cases us with
 |nil=>exact h
 |cons=>cases e
def uX.df{K:bL}{d:Bc}{c:yu}{ds:zX}{T:af}(_:d.defaults=.ref T)(q:K.lookup T=Y o)(h:∀b:zX,b.length=c.length-ds.length->∀s:ap,s.heap.get? T=Y o->BindsTo s d {b,[]} (c.zip (b++ds))):uX K d c ds:=λs b g f=>h b (by rw[<-f,bh,Nat.add_sub_cancel]) s (g _ _ q)
abbrev QX(K:bL)(a:af):Prop:=∃b,f9 K (.ref a) "__getattribute__"=Y (Y (.builtin "BaseException.__getattribute__"))/\f9 K (.ref a) "__getattr__"=Y L/\f9 K (.ref a) "__class__"=Y (Y (.builtin "object.__class__"))/\uJ K a (.type "object")=Y U/\uJ K a (.type "BaseException")=Y U/\ux K (.builtin "object.__class__") "__get__"=Y (Y (.builtin "getset_descriptor.__get__"))/\W.takesIn K (.builtin "object.__class__")=Y U/\W.clsIn K a=Y b
def QX.to{K:bL}{a:af}(q:QX K a):ExK K a:=by have #[k,j,i,h,g,f,d,c,b]:=q;exact{{j,i,h,g,f,d,c},by rw[b];rfl}
variable {CX:CXT}{j:Nat}{C:af}{ps:yu}{sp:Sp}{x qual:Str}{uV:Pos}{o:ay}{es:List ay}{ta:TE}{E:XK}
section
variable {k:Nat}{a:af}{d:Bc}{m:Str}{st:ax}{t:TA}
def u4(F:pv X.p X.w X.K X.mg X.M CX j a d ps sp)(G:FG X.K X.mg x st ps a d)(g:uW k X.A)(f:wR CX X E)(n:PA X (e::es) t)(h:j<=k:=by lia)(i:Gl X x:=by exact rfl)(c:Bq x:=by lia)(l:Be (e::es) X.e=(am,eval e X.e)::Be es X.e:=by rfl)(b:(backTo pos (Be es X.e)).any (·.1)=am:=by rfl) :
  PE X (.Call (.Name x p) (e::es) [] pos) (zV sp [] E t):=YX (F.mono h) g i G.m G.f.kp G.b .nil f n c l b
end
def aK.m{N P:yu}{sc:aB}(i:sc.kind=.function:=by rfl)(h:sc.isCoroutine=am:=by rfl)(g:sc.isGenerator=am:=by rfl)(f:N.Nodup:=by lia)(d:N.take P.length=P:=by rfl)(c:∀x∈P,sc.names.lookup x=Y .local\/sc.names.lookup x=Y .cell:=by lia)(b:∀y∈sc.names,y.2≠.free:=by lia):aK N P sc:={i,h,g,f,d,c,b}
variable {K:bL}{mg:AG}{f:af}{fd:Bc}
section
variable {w:av}{base:aw}{st:ax}{N:yu}{k:Nat}
def Fun.okA(F:Fun K x qual st f fd)(S:aK N ps (zq st))(h:∀c H Q E,sp c H Q E->c.length=ps.length/\∀(cdv:aq)(A:aA)(b:LEv)(s:ap),uW k (A.deeper (envOfC qual (zq st) s.heap.objs.size f cdv)) ->
   ∃t,PSs (Zi (CX1 P w) P w K mg base N qual (zq st) f cdv A b s H E).nox (wM st) t/\t { nx:=λ_ g=>Q .non g,rt:=Q } (start N c) H):pv P w K mg base (CX1 P w) (k+1) f fd ps sp:=F.ok0 S (λc H Q E z=>(h c H Q E z).1) λcdv A b s H c Q E d z=>(h c H Q E z).2 cdv A b s d
def Fun.okB(F:Fun K x qual st f fd)(S:aK N ps (zq st))(h:∀c H Q E,sp c H Q E->c.length=ps.length/\∀(cdv:aq)(A:aA)(b:LEv)(s:ap),uW k (A.deeper (envOfC qual (zq st) s.heap.objs.size f cdv)) ->
   ∃t,PSs (Zi (CX1 P w) P w K mg base N qual (zq st) f cdv A b s H E) (wM st) t/\t { nx:=λ_ g=>Q .non g,rt:=Q } (start N c) H):pv P w K mg base (CX1 P w) (k+1) f fd ps sp:=F.ok1 S (λc H Q E z=>(h c H Q E z).1) λcdv A b s H c Q E d z=>(h c H Q E z).2 cdv A b s d
end
variable {i:Nat}
section
variable {σ:St}{H:Hp}{Q:VK}{k:Int}{p a dx:af}{xs:LV}{u v:V}{w f:Str}{fs:LSV}{A Bn:TS}{D:Vt}
def X0(d:σ[i]?=Y (Y (.ref p)))(c:H p=Y (.tup xs))(b:Ay xs k=Y u)(q:Q u H):aN (xR K) (zk i) (tC (.int k)) σ H Q:={_,d,p,xs,k,u,Z,Z,uZ.of c,b,q}
def Zy(d:σ[i]?=Y (Y (.ref a)))(b:H a=Y (.ins C dx fs))(c:AB K C)(n:aM K C f)(l:fs.lookup f=Y v)(q:Q v H):xg K (zk i) f σ H Q:={_,d,a,C,dx,fs,v,Z,b,c,n,l,q}
def zla(h:∀Q:VK,Q (.str x) H->te σ H Q)(a:x=w->A D σ H)(b:x≠w->Bn D σ H):xc (yK (aN rEq te (tC (.str w)))) A Bn D σ H:=by
 refine h _ {Z,_,Z,?_};by_cases c:x=w
 .show if _ then _ else _
  rw[ao (by rw[c];exact Bj Z)];exact a c
 .show if _ then _ else _
  rw[ak (by rw[decide_eq_true_eq];exact λz=>c (V.str.inj z))];exact b c
def qy(g:σ[i]?=Y (Y (.ref p)))(d:H p=Y (.tup xs))(c:Ay xs k=Y (.str x))(a:x=w->A D σ H)(b:x≠w->Bn D σ H):xc (yK (aN rEq (aN (xR K) (zk i) (tC (.int k))) (tC (.str w)))) A Bn D σ H:=zla (λQ q=>X0 g d c q) a b
theorem zgL(c:σ[i]?=Y (Y (.ref l)))(b:H l=Y (.lst xs))(q:Q (.int xs.length) H):An (Zh K) (zj (zk i) zy) σ H Q:=by refine{_,c,.ref l,xs.length,Z,?_,q};simp only[zkD];exact .inl {_,aO.of b,Z}
def zlb{n:Int}{P R:Prop}(a:n≠0->P)(b:n=0->R):if (!decide (V.int n=V.int 0))=U then P else R:=by
 by_cases c:n=0
 .rw[ak (by rw[c];decide)];exact b c
 .rw[ao (by rw[Bk (λz=>c (V.int.inj z))];rfl)];exact a c
def zlc{n:Int}{P R:Prop}(a:n=0->P)(b:n≠0->R):if decide (V.int n=V.int 0)=U then P else R:=by
 by_cases c:n=0
 .rw[ao (by rw[c];decide)];exact a c
 .rw[ak (by rw[Bk (λz=>c (V.int.inj z))];decide)];exact b c
end
abbrev zi2:RC:=λg H Q=>∃(a:af)(c:xB)(d:ym),g=[.ref a]/\H a=Y (.dK c)/\c.map (·.1)=d.map i9/\c.length<64 /\
 ∀(l:af)(b:ym),H l=L->b.Perm d->b.Pairwise (· < ·)->Q (.ref l) (upd H l (.lst (b.map V.int)))
theorem Qi:∀ {b:zX}{c:ym},IntsAre b c->aQ (c.map V.int) b
 |_,_,.nil=>.nil
 |_,_,.cons _ t h=>.cons {t,Z} (Qi h)
def zeQ{P:au}{w:av}{l:xB}{g:List (Key×aq)}(a:KV l g):∀ {es:List DictEntry}{c:ym},Pairs (yT P w) es g->l.map (·.1)=c.map i9->IntsAre (es.map (·.key)) c/\g.map (·.1)=c.map i9:=by
 induction a with
 |nil=>
  intro es c b d;cases b;cases c with
  |nil=>exact{.nil,Z}
  |cons=>cases d
 |cons h kv ih=>
  intro es c b d;cases c with
  |nil=>cases d
  |cons r c=>
   cases b with
   |cons hk _ pr=>
    have #[s,q]:=uO d;have #[n,m]:=ih pr q;have k:=h.1.symm.trans s;obtain ⟨j,t,ej,et⟩|⟨x,t,ej,et⟩:=xp hk
    .rw[k] at ej;cases ej;refine{?_,by rw[bB,bB,m,k]};rw[bB,et];exact .cons _ t n
    .rw[k] at ej;cases ej
section
variable {kp:Pos}
theorem zh4{G:Af}{y:St}{H:Hp}{s:ap}{a:af}{w:xB}{n:ym}{Q:VK}{v:List (Str×aq)}{O:ym->Prop}(hc:X.c=U)(I:aL X G y H s)(ha:H a=Y (.dK w))(T:w.map (·.1)=n.map i9)(ag:w.length<64)(hs:∀(R:PySem.Fin->ap->Prop)(s:ap)(b:af)(t:zX),s.heap.get? b=Y (seqObj "list" t.toArray 0)->IntsAre t n->t.length<64->(∀(out:Array aq)(r:ym),IntsAre out.toList r->r.Perm n->(n.Nodup->O r)->R (.done (.ret .none)) { s with heap:=sortedHeap s.heap b t out })->Bf (Bg X.p X.w) X.A.in1.in1 (Builtin.«list.sort» {[.ref b],v}) R X.xe s)(hw:argsOk "sorted" {[.ref a],v})(A:∀b:af,argsOk "list.sort" {[.ref b],v})(q:∀(l:af)(g:ym),H l=L->g.Perm n->O g->Q (.ref l) (upd H l (.lst (g.map V.int)))) :
  Bf (Bg X.p X.w) X.A (call (.builtin "sorted") [.ref a] v) (EP X G y Q) X.xe s:=by
 have #[hz,lo,t,N,o,es,ep,ho,hx,hd,ac,J,hn]:=(show aU X.p X.w H s.heap a (.dK w) from I.hok a _ ha);have #[z,ev]:=zeQ N J T;have nr:n.Nodup:=xX (f:=(i9:Int->Key)) (by rw[<-ev];exact hn);have il:es.size<64:=by have:=N.length;have:=J.length;rw[cL] at this;lia
 have cl:=bI (show es.size<=1000 by lia) (show 1000<=Bb by lia);refine call_function_entry_kw kind_sorted plain_sorted entry_sorted hw ?_;unfold Builtin.«sorted»;refine bb (m:=checkCount "sorted" 1 1 _) (bu ?_);refine bb (Wp (Q6 (ep:=ep) (es:=es) lo) (I.ok.hd hc) {o,ho,hx,hd} cl λh u d k1 hl hG=>?_);have ew:d=es.toList.map (·.key):=by
  apply fS;intro i;by_cases hi:i<d.length
  .have #[e,D,ek]:=hG i d[i] (ba hi);rw[ba hi,ek,bF,dI,D];rfl
  .rw[cR (),cR (by rw[bn,cL];lia)]
 rw[<-ew] at z;have k:(h.push (seqObj "list" d.toArray 0)).get? h.objs.size=Y (seqObj "list" d.toArray 0):=bJ _ rfl;refine bb (tD ?_ (by rw[bN];lia));refine bb (fO (wpAny_call_entry_kw slot_list_sort {_,k,Z} entry_list_sort (hs _ { s with heap:=h.push (seqObj "list" d.toArray 0),toks:=u } _ d k z () λout r a1 a2 a3=>{_,rfl,bu {_,rfl,?_}}) (A _)));have #[c,hD]:=sortedHeap_at (out:=out) k;have I1:aL X G y H { s with heap:=h,toks:=u }:=I.kept k1;have nl:=a2.length_eq;have rl:=IntsAre.length z;refine{.ref h.objs.size,_,I1.laid (s:={ s with heap:=h,toks:=u }) (a:=h.objs.size) (o:=.lst (r.map V.int)) (t':=u) (λb o e=>?_) (bq _) {by rw[bn];exact bI (show r.length<=1000 by have:=congrArg gM T;rw[bn,bn] at this;lia) (),_,c,Qi a1,hD},Z,q _ _ (I1.hok.fresh (bq _)) a2 (a3 nr)};have M:=bS e;exact(sortedHeap_old (b8 M) (by rw[size_push'];exact tN M)).trans (bg _ e)
theorem zae(v:X.c=U):qO X (.builtin "sorted") zi2:=by intro aa s M H N us Q I r h;have #[a,aI,rs,rfl,w,t,d,q]:=h;have #[u,rfl,k]:=Zn r;cases k;exact zh4 v I w t d (O:=λn=>n.Pairwise (· < ·)) (λR s b T D A y h=>list_sort_tree D A y λc l J g G=>h c l J g λm=>(G.and (g.nodup_iff.mpr m)).imp λz=>by lia) (args_sorted1 _) (λ_=>args_list_sort _) q
end
abbrev zjX(K:bL):R2:=λx y H Q=>∃a b c,x=.ref a/\y=.ref b/\aO K H a c/\aO K H b c/\(∀v∈c,∃r,v=V.ref r)/\Q (.bl am) H
def zgM(c:aQ xs us):∀ {ws:zX},(∀v∈xs,∃r,v=V.ref r)->aQ xs ws->us=ws:=by
 induction c with
 |nil=>intro ws h b;cases b;rfl
 |cons c1 d1 ih=>
  intro ws h b;cases b with|cons c2 d2=>
  have #[r,rfl]:=h _ bw;cases c1;cases c2;rw[ih (λv z=>h v (bt _ z)) d2]
theorem zcQ(D:X.A.units+64<cLine):Av X (Bi .NotEq) (zjX X.K):=by intro G s t H x y v u Q I d c h;have #[a,b,w,rfl,rfl,r,n,m,q]:=h;cases d;cases c;have #[A,k,l,_]:=I.list r;have #[z,g,p2,_]:=I.list n;obtain rfl:=zgM k m g;refine PySem.SeqAt.RcNeAt.lists (e:=λ_=>U) l.isList p2.isList Z () (λj _ _=>.same _) X.p X.w X.xe _ ?_;rw[List.all_eq_true.mpr λ_ _=>rfl];exact{.bl am,H,I,Z,q}
variable {pos':Pos}
section
variable {k:Nat}{m:Str}{st:ax}{b:ay}{tb:TE}{t:TA}
def zx(i:Nat)(n:X.N.Nodup)(l:PE X e te)(g:X.N[i]?=Y x:=by rfl)(c:Loc X.e.scope x:=by exact .inl Z)(d:swapsWith e (Y (.Name x pos')) pos.line X.e=pure am:=by rfl)(h:X.fn x=U\/X.e.scope.names.lookup x=Y .local:=by first|exact .inl rfl|exact .inr rfl|assumption) :
  PS X (.Assign [.Name x pos'] e pos) (yF te (zM i)):=Yz n g c l d h
def yB(i:Nat)(h:X.N.Nodup)(d:X.N[i]?=Y x:=by rfl)(c:Loc X.e.scope x:=by exact .inl Z)(g:X.fn x=U\/X.e.scope.names.lookup x=Y .local:=by first|exact .inl rfl|exact .inr rfl|assumption):PG X (.Name x pos) (zM i):=vM h d c g
def zF{r:R2}(d:IxR X r)(h:PE X a ta)(g:PE X b tb)(c:zdk b:=by exact λ_ _=>rfl):PE X (.Subscript a b pos) (aN r ta tb):=zkH d h g c
def AE{l:Sem Bool}(u:PE X o ta)(c:AB X.K C)(F:pv X.p X.w X.K X.mg X.M CX j f fd ps sp)(G:FM X.K C m qual st ps f fd)(r:uW k X.A)(n:wR CX X E)(v:PA X (e::es) t)(s:j<=k:=by lia)(d:Be (e::es) X.e=(am,eval e X.e)::Be es X.e:=by rfl)(g:(backTo pos (Be es X.e)).any (·.1)=am:=by rfl)(q:eval (.Call (.Attribute o m uV) (e::es) [] pos) X.e=(do
   let h <-eval o X.e
   standAt uV.atName
   let (f,first) <-holding [h] (getMethod h m l)
   callWith pos f first (backTo pos (Be (e::es) X.e)) (backToKw pos (keywordEach [] X.e))):=by rfl) :
  PE X (.Call (.Attribute o m uV) (e::es) [] pos) (yo C m sp [] E ta t):=QK u c G.me (F.mono s) r G.b .nil n v d g q
def ve{g:Sem Bool}(r:PE X o ta)(c:AB X.K C)(F:pv X.p X.w X.K X.mg X.M CX j f fd ps sp)(G:FM X.K C m qual st ps f fd)(n:uW k X.A)(h:wR CX X E)(q:j<=k:=by lia)(l:eval (.Call (.Attribute o m uV) [] [] pos) X.e=(do
   let d <-eval o X.e
   standAt uV.atName
   let (f,first) <-holding [d] (getMethod d m g)
   callWith pos f first (backTo pos (Be [] X.e)) (backToKw pos (keywordEach [] X.e))):=by rfl) :
  PE X (.Call (.Attribute o m uV) [] [] pos) (yo C m sp [] E ta zy):=zaM r c G.me (F.mono q) n G.b .nil h l
end
end L2
namespace K46
open PySem L2
abbrev zZZ(n:Nat)(x:List L2.V):L2.St:=x.map some++List.replicate (n-x.length) none
abbrev ad:=rI (λ_ j=>0<j) λi j=>.int (i%j)
abbrev aD:=rI0 λi j=>.int (i+j)
abbrev aE:=rI vz λi j=>.int (i/j)
abbrev aF:=rI0 λi j=>.int (i-j)
abbrev aG:=rI CMulB λi j=>.int (i*j)
abbrev aH:=rI0 λi j=>.bl (decide (i<j))
abbrev u9(Q:VK):Vt:={nx:=λ_ a=>Q .non a,rt:=Q}
def top(i:Nat):ax:=PySem.Challenge.pw_forerun_k46_whole_one_by_one.main.body.getD i (.Pass {0,0,0,0})
abbrev kU:ax:=top 42
abbrev Xa:ax:=top 41
abbrev Zz:ax:=top 43
abbrev Yo:ax:=top 44
abbrev qA:ax:=top 49
abbrev Yp:ax:=top 33
abbrev V8:ax:=top 32
abbrev Qj:ax:=top 34
abbrev Wu:ax:=top 45
abbrev Wv:ax:=top 46
abbrev V9:ax:=top 47
abbrev ZA:ax:=top 48
abbrev ZB:ax:=top 40
abbrev vi:ax:=top 51
abbrev Ja:ax:=z4 (top 27) 0
abbrev Jb:ax:=z4 (top 27) 1
abbrev Ww:ax:=z4 (top 27) 4
abbrev Qk:ax:=top 22
abbrev Ql:ax:=top 23
abbrev Jc:ax:=top 19
abbrev zbE:ax:=top 24
abbrev Jd:ax:=top 25
abbrev ZC:ax:=z4 (top 27) 5
abbrev ZD:ax:=z4 (top 27) 6
abbrev Je:ax:=z4 (top 27) 2
abbrev Wx:ax:=z4 (top 27) 9
abbrev Jf:ax:=z4 (top 27) 8
abbrev Xb:ax:=z4 (top 27) 7
abbrev Jg:ax:=z4 (top 27) 3
abbrev zbF:ax:=top 9
abbrev zi3:ax:=top 28
abbrev YF:ax:=top 8
abbrev Qm:ax:=top 10
abbrev Jh:ax:=top 54
abbrev Xc:ax:=z4 (top 15) 0
abbrev Wy:ax:=z4 (top 17) 0
abbrev Wz:ax:=z4 (top 30) 0
abbrev ZE:ax:=z4 (top 38) 0
abbrev Xd:ax:=top 52
abbrev WA:ax:=top 53
abbrev ZF:ax:=z4 (top 30) 4
abbrev kW:ax:=z4 (top 30) 9
abbrev jW:ax:=z4 (top 15) 8
abbrev Xe:ax:=top 12
abbrev Xf:ax:=z4 (top 15) 1
abbrev je:ax:=z4 (top 17) 4
abbrev vB:ax:=z4 (top 17) 5
abbrev WB:ax:=top 14
abbrev qP:ax:=z4 (top 17) 2
abbrev kX:ax:=z4 (top 37) 0
abbrev kY:ax:=z4 (top 38) 1
abbrev Xg:ax:=z4 (top 36) 0
abbrev qQ:ax:=z4 (top 30) 11
abbrev jX:ax:=z4 (top 30) 10
abbrev jY:ax:=z4 (top 15) 6
abbrev jZ:ax:=z4 (top 15) 9
abbrev Ji:ax:=top 13
abbrev WC:ax:=z4 (top 15) 2
abbrev jD:ax:=z4 (top 15) 7
abbrev Xh:ax:=z4 (top 17) 3
abbrev qR:ax:=z4 (top 17) 1
abbrev WD:ax:=z4 (top 30) 2
abbrev Yq:ax:=z4 (top 30) 3
abbrev kD:ax:=z4 (top 30) 5
abbrev vj:ax:=z4 (top 15) 3
abbrev Xi:ax:=z4 (top 30) 6
abbrev Xj:ax:=top 50
abbrev Xk:ax:=top 55
abbrev Jj:ax:=z4 (top 30) 1
abbrev Jk:ax:=top 56
abbrev Xl:ax:=top 57
abbrev zi4:ax:=top 58
def Xm:aK ["word"] ["word"] (zq kU):=.m
def q0h:aK ["cell","many","found","one","two","k"] ["cell","many"] (zq Xa):=.m
def q0k:aK ["cell","letters","word","one","at","letter"] ["cell"] (zq Zz):=.m
def Jl:aK ["number"] ["number"] (zq Yo):=.m
def q0o:aK ["cell","shelves","xs","found","k","worth"] ["cell","shelves"] (zq qA):=.m
def q0w:aK ["row","at","steps","to","others"] ["row","at"] (zq Yp):=.m
def q14:aK ["rows","first","steps","row"] ["rows","first"] (zq V8):=.m
def zcR:aK ["rows"] ["rows"] (zq Qj):=.m
def q1e:aK ["number","slots","kind"] ["number","slots"] (zq Wu):=.m
def q15:aK ["number","slots","words","kind"] ["number","slots"] (zq Wv):=.m
def q0l:aK ["xs","shelves","slots","kind","shelf","slot","spot","term"] ["xs","shelves","slots"] (zq V9):=.m
def q0i:aK ["cell","shelves","slots","xs","rows","at","to","row"] ["cell","shelves","slots"] (zq ZA):=.m
def WV:aK ["script","k"] ["script","k"] (zq ZB):=.m
def q0m:aK ["script","shelves","slots","codes","kind","xs"] ["script","shelves","slots"] (zq vi):=.m
def zbG:aK ["self","code"] ["self","code"] (zq Ja):=.m
def zbH:aK ["self"] ["self"] (zq Jb):=.m
def q1f:aK ["self","notes"] ["self"] (zq Ww):=.m
def zcS:aK ["word","first","second"] ["word","first","second"] (zq Qk):=.m
def zcT:aK ["word","first","second"] ["word","first","second"] (zq Ql):=.m
def zbI:aK ["thing"] ["thing"] (zq Jc):=.m
def q1g:aK ["word","first","second","worth"] ["word","first","second"] (zq zbE):=.m
def q0p:aK ["term","slots","worths","part","second","first"] ["term","slots"] (zq Jd):=.m
def WW:aK ["self","term"] ["self","term"] (zq ZC):=.m
def WX:aK ["self","due"] ["self","due"] (zq ZD):=.m
def q1h:aK ["self","place"] ["self"] (zq Je):=.m
def zaf:aK ["self","place","worth"] ["self","place","worth"] (zq Wx):=.m
def q1i:aK ["self","due","worth","place"] ["self","due","worth"] (zq Jf):=.m
def J7:aK ["self","due","worth"] ["self","due","worth"] (zq Xb):=.m
def zbJ:aK ["self","worth"] ["self","worth"] (zq Jg):=.m
def zeR:aK ["table","place"] ["table","place"] (zq zbF):=.m
def q16:aK ["code","table","run","place"] ["code","table"] (zq zi3):=.m
def q1j:aK ["rows","worths"] ["rows"] (zq YF):=.m
def zcU:aK ["table","gifts"] ["table","gifts"] (zq Qm):=.m
def q0q:aK ["codes","table","papers","tables","code","paper"] ["codes","table"] (zq Jh):=.m
def J8:aK ["self","table"] ["self","table"] (zq Xc):=.m
def zag:aK ["self","makes"] ["self","makes"] (zq Wy):=.m
def zah:aK ["self","table","hands","way","first"] ["self","table","hands","way","first"] (zq Wz):=.m
def WY:aK ["self"] ["self"] (zq ZE):=.m
def J9:aK ["cell"] ["cell"] (zq Xd):=.m
def q0x:aK ["table","hands","cell","way"] ["table","hands","cell"] (zq WA):=.m
def WZ:aK ["self"] ["self"] (zq ZF):=.m
def Xn:aK ["self"] ["self"] (zq kW):=.m
def YG:aK ["self","rank"] ["self","rank"] (zq jW):=.m
def q0n:aK ["ranks","rank","low","high","amid"] ["ranks","rank"] (zq Xe):=.m
def q17:aK ["self","place","rank","ranks","below"] ["self","place","rank"] (zq Xf):=.m
def q0y:aK ["self","rank","place","worth","now"] ["self","rank"] (zq je):=.m
def q0z:aK ["self","ranks","rank","note"] ["self"] (zq vB):=.m
def q1k:aK ["ranks_at","place","rank","ranks"] ["ranks_at","place","rank"] (zq WB):=.m
def q10:aK ["self","rank","paper","place","worth"] ["self","rank"] (zq qP):=.m
def Xo:aK ["self","ranks"] ["self","ranks"] (zq kX):=.m
def q1l:aK ["self","ranks","at"] ["self","ranks"] (zq kY):=.m
def Ka:aK ["self","ranks"] ["self","ranks"] (zq Xg):=.m
def q1m:aK ["self","hand","rank"] ["self","hand"] (zq qQ):=.m
def q18:aK ["self","hand","lowest","changed"] ["self","hand"] (zq jX):=.m
def YH:aK ["self","rank"] ["self","rank"] (zq jY):=.m
def q19:aK ["self","rank","places","place"] ["self","rank"] (zq jZ):=.m
def q1n:aK ["ranks_at","place","rank","ranks"] ["ranks_at","place","rank"] (zq Ji):=.m
def q1a:aK ["self","rank","gifts","worths","place"] ["self","rank","gifts"] (zq WC):=.m
def q1b:aK ["self","place","rank","ranks","above"] ["self","place","rank"] (zq jD):=.m
def q0r:aK ["self","place","rank","readers","above","behind","reader"] ["self","place","rank"] (zq Xh):=.m
def q0s:aK ["self","rank","paper","before","place","worth"] ["self","rank","paper"] (zq qR):=.m
def q0t:aK ["self","hand","rank","run","place","worth"] ["self","hand"] (zq WD):=.m
def q1o:aK ["self","told"] ["self"] (zq Yq):=.m
def Jm:aK ["self"] ["self"] (zq kD):=.m
def q1p:aK ["self","rank","places"] ["self","rank"] (zq vj):=.m
def Kb:aK ["self"] ["self"] (zq Xi):=.m
def q1c:aK ["found","due","one","other"] ["found","due"] (zq Xj):=.m
def q0u:aK ["desk","first","due","turned","many","told","table","paper"] ["desk","first","due","turned"] (zq Xk):=.m
def q1q:aK ["self","code","rank"] ["self","code"] (zq Jj):=.m
def q1r:aK ["desk","code","handed"] ["desk","code"] (zq Jk):=.m
def q0e:aK ["desk","codes","cells","hands","first","due","added","tables","kept","cell","row","rows","copies","papers"] ["desk","codes","cells","hands","first","due"] (zq Xl):=.m
def q0c:aK ["script","shelves","slots","table","codes","due","hands","handed","desk","first","early","code","cell"] ["script"] (zq zi4):=.m
set_option genSizeOf false in
set_option genInjectivity false in
set_option genInjectivity false in
structure uQ where
 a0:af
 d0:Bc
 a1:af
 d1:Bc
 a2:af
 d2:Bc
 a3:af
 d3:Bc
 a4:af
 d4:Bc
 a5:af
 d5:Bc
 a6:af
 d6:Bc
 a7:af
 d7:Bc
 a8:af
 d8:Bc
 a9:af
 d9:Bc
 a10:af
 d10:Bc
 a11:af
 d11:Bc
 a12:af
 d12:Bc
 a13:af
 d13:Bc
 a14:af
 d14:Bc
 a15:af
 d15:Bc
 a16:af
 d16:Bc
 a17:af
 d17:Bc
 a18:af
 d18:Bc
 a19:af
 d19:Bc
 a20:af
 d20:Bc
 a21:af
 d21:Bc
 a22:af
 d22:Bc
 a23:af
 d23:Bc
 a24:af
 d24:Bc
 a25:af
 d25:Bc
 a26:af
 d26:Bc
 a27:af
 d27:Bc
 a28:af
 d28:Bc
 a29:af
 d29:Bc
 a30:af
 d30:Bc
 a31:af
 d31:Bc
 a32:af
 d32:Bc
 a33:af
 d33:Bc
 a34:af
 d34:Bc
 a35:af
 d35:Bc
 a36:af
 d36:Bc
 a37:af
 d37:Bc
 a38:af
 d38:Bc
 a39:af
 d39:Bc
 a40:af
 d40:Bc
 a41:af
 d41:Bc
 a42:af
 d42:Bc
 a43:af
 d43:Bc
 a44:af
 d44:Bc
 a45:af
 d45:Bc
 a46:af
 d46:Bc
 a47:af
 d47:Bc
 a48:af
 d48:Bc
 a49:af
 d49:Bc
 a50:af
 d50:Bc
 a51:af
 d51:Bc
 a52:af
 d52:Bc
 a53:af
 d53:Bc
 a54:af
 d54:Bc
 a55:af
 d55:Bc
 a56:af
 d56:Bc
 a57:af
 d57:Bc
 a58:af
 d58:Bc
 a59:af
 d59:Bc
 a60:af
 d60:Bc
 a61:af
 d61:Bc
 a62:af
 d62:Bc
 a63:af
 d63:Bc
 a64:af
 d64:Bc
 a65:af
 d65:Bc
 a66:af
 d66:Bc
 a67:af
 d67:Bc
 a68:af
 d68:Bc
 a69:af
 d69:Bc
 a70:af
 d70:Bc
 a71:af
 d71:Bc
 q0v:af
 q00:af
 q0a:af
 q0f:af
 q03:af
 q02:af
 q08:af
 q01:af
 q07:af
 q0g:af
structure Txt(K:bL)(mg:AG)(t:uQ):Prop where
 m_law:mg "law"=Y (.ref t.a71)
 g_JOINING:mg "JOINING"=Y (.ref t.q0v)
 g_Desk:mg "Desk"=Y (.ref t.q00)
 g_Great:mg "Great"=Y (.ref t.q0a)
 g_Highest:mg "Highest"=Y (.ref t.q0f)
 g_Jobs:mg "Jobs"=Y (.ref t.q03)
 g_Makes:mg "Makes"=Y (.ref t.q02)
 g_Nought:mg "Nought"=Y (.ref t.q08)
 g_Run:mg "Run"=Y (.ref t.q01)
 g_Turning:mg "Turning"=Y (.ref t.q07)
 g_Way:mg "Way"=Y (.ref t.q0g)
 me_Run_step:QI K t.q01 "step" t.a28
 q04:AB K t.q00
 mk_Desk:Mk K t.q00 t.a36
 q1w:AB K t.q0f
 mo_Highest:MkO K t.q0f
 q0j:AB K t.q03
 mk_Jobs:Mk K t.q03 t.a35
 q0b:AB K t.q02
 mk_Makes:Mk K t.q02 t.a34
 q05:AB K t.q01
 mk_Run:Mk K t.q01 t.a14
 q1s:AB K t.q07
 mk_Turning:Mk K t.q07 t.a37
 q1x:AB K t.q0g
 mo_Way:MkO K t.q0g
 g0:FG K mg "_law_free_name" kU ["word"] t.a0 t.d0
 g1:FG K mg "_law_draws" Xa ["cell","many"] t.a1 t.d1
 g2:FG K mg "_law_pair" Zz ["cell"] t.a2 t.d2
 g3:FG K mg "_law_number" Yo ["number"] t.a3 t.d3
 g4:FG K mg "_law_table" qA ["cell","shelves"] t.a4 t.d4
 g5:FG K mg "block_steps" Yp ["row","at"] t.a5 t.d5
 g6:FG K mg "steps_of" V8 ["rows","first"] t.a6 t.d6
 g7:FG K mg "code_of" Qj ["rows"] t.a7 t.d7
 g8:FG K mg "_law_spot" Wu ["number","slots"] t.a8 t.d8
 g9:FG K mg "_law_term" Wv ["number","slots"] t.a9 t.d9
 g10:FG K mg "_law_row" V9 ["xs","shelves","slots"] t.a10 t.d10
 g11:FG K mg "_law_rows" ZA ["cell","shelves","slots"] t.a11 t.d11
 g12:FG K mg "_law_cell_at" ZB ["script","k"] t.a12 t.d12
 g13:FG K mg "_law_codes" vi ["script","shelves","slots"] t.a13 t.d13
 q1y:Fun K "__init__" "Run.__init__" Ja t.a14 t.d14
 q1t:uX K t.d14 ["self","code"] []
 g15:FM K t.q01 "over" "Run.over" Jb ["self"] t.a15 t.d15
 g16:FM K t.q01 "paper" "Run.paper" Ww ["self"] t.a16 t.d16
 g17:FG K mg "divided" Qk ["word","first","second"] t.a17 t.d17
 g18:FG K mg "come_to" Ql ["word","first","second"] t.a18 t.d18
 g19:FG K mg "is_worth" Jc ["thing"] t.a19 t.d19
 g20:FG K mg "joined" zbE ["word","first","second"] t.a20 t.d20
 g21:FG K mg "reckoned" Jd ["term","slots"] t.a21 t.d21
 g22:FM K t.q01 "worth_of" "Run.worth_of" ZC ["self","term"] t.a22 t.d22
 g23:FM K t.q01 "place_in" "Run.place_in" ZD ["self","due"] t.a23 t.d23
 g24:FM K t.q01 "asks" "Run.asks" Je ["self"] t.a24 t.d24
 g25:FM K t.q01 "taken" "Run.taken" Wx ["self","place","worth"] t.a25 t.d25
 g26:FM K t.q01 "does" "Run.does" Jf ["self","due","worth"] t.a26 t.d26
 g27:FM K t.q01 "led_by" "Run.led_by" Xb ["self","due","worth"] t.a27 t.d27
 q1z:FunD K "step" "Run.step" Jg t.a28 t.d28
 q1u:uX K t.d28 ["self","worth"] []
 bd_Run_step:∃ds,aQ [.int 0] ds/\uX K t.d28 ["self","worth"] ds
 g29:FG K mg "stands" zbF ["table","place"] t.a29 t.d29
 g30:FG K mg "fed" zi3 ["code","table"] t.a30 t.d30
 g31:FG K mg "table_of" YF ["rows"] t.a31 t.d31
 g32:FG K mg "laid_on" Qm ["table","gifts"] t.a32 t.d32
 g33:FG K mg "_law_due" Jh ["codes","table"] t.a33 t.d33
 q20:Fun K "__init__" "Makes.__init__" Xc t.a34 t.d34
 q21:uX K t.d34 ["self","table"] []
 q22:Fun K "__init__" "Jobs.__init__" Wy t.a35 t.d35
 q23:uX K t.d35 ["self","makes"] []
 q24:FunD K "__init__" "Desk.__init__" Wz t.a36 t.d36
 q25:uX K t.d36 ["self","table","hands","way","first"] []
 bd_Desk_init:∃ds,aQ [.int 0] ds/\uX K t.d36 ["self","table","hands","way","first"] ds
 q26:Fun K "__init__" "Turning.__init__" ZE t.a37 t.d37
 q27:uX K t.d37 ["self"] []
 g38:FG K mg "_law_first" Xd ["cell"] t.a38 t.d38
 g39:FG K mg "_law_desk" WA ["table","hands","cell"] t.a39 t.d39
 g40:FM K t.q00 "settled" "Desk.settled" ZF ["self"] t.a40 t.d40
 g41:FM K t.q00 "next_rank" "Desk.next_rank" kW ["self"] t.a41 t.d41
 g42:FM K t.q02 "heed_fold" "Makes.heed_fold" jW ["self","rank"] t.a42 t.d42
 g43:FG K mg "many_below" Xe ["ranks","rank"] t.a43 t.d43
 g44:FM K t.q02 "seen" "Makes.seen" Xf ["self","place","rank"] t.a44 t.d44
 g45:FM K t.q03 "changed_note" "Jobs.changed_note" je ["self","rank"] t.a45 t.d45
 g46:FM K t.q03 "lowest_changed" "Jobs.lowest_changed" vB ["self"] t.a46 t.d46
 g47:FG K mg "drop_rank" WB ["ranks_at","place","rank"] t.a47 t.d47
 g48:FM K t.q03 "take_off" "Jobs.take_off" qP ["self","rank"] t.a48 t.d48
 g49:FM K t.q0f "chosen" "Highest.chosen" kX ["self","ranks"] t.a49 t.d49
 g50:FM K t.q07 "chosen" "Turning.chosen" kY ["self","ranks"] t.a50 t.d50
 g51:FM K t.q0g "chosen" "Way.chosen" Xg ["self","ranks"] t.a51 t.d51
 g52:FM K t.q00 "taken_up" "Desk.taken_up" qQ ["self","hand"] t.a52 t.d52
 g53:FM K t.q00 "moved_free" "Desk.moved_free" jX ["self","hand"] t.a53 t.d53
 g54:FM K t.q02 "places_of" "Makes.places_of" jY ["self","rank"] t.a54 t.d54
 g55:FM K t.q02 "take_away" "Makes.take_away" jZ ["self","rank"] t.a55 t.d55
 g56:FG K mg "put_rank" Ji ["ranks_at","place","rank"] t.a56 t.d56
 g57:FM K t.q02 "lay" "Makes.lay" WC ["self","rank","gifts"] t.a57 t.d57
 g58:FM K t.q02 "next_above" "Makes.next_above" jD ["self","place","rank"] t.a58 t.d58
 g59:FM K t.q03 "doubt" "Jobs.doubt" Xh ["self","place","rank"] t.a59 t.d59
 g60:FM K t.q03 "lay_down" "Jobs.lay_down" qR ["self","rank","paper"] t.a60 t.d60
 g61:FM K t.q00 "move" "Desk.move" WD ["self","hand"] t.a61 t.d61
 g62:FM K t.q00 "finish" "Desk.finish" Yq ["self"] t.a62 t.d62
 g63:FM K t.q00 "papers" "Desk.papers" kD ["self"] t.a63 t.d63
 g64:FM K t.q02 "table_for" "Makes.table_for" vj ["self","rank"] t.a64 t.d64
 g65:FM K t.q00 "table" "Desk.table" Xi ["self"] t.a65 t.d65
 g66:FG K mg "_law_alike" Xj ["found","due"] t.a66 t.d66
 g67:FG K mg "_law_right" Xk ["desk","first","due","turned"] t.a67 t.d67
 g68:FM K t.q00 "add" "Desk.add" Jj ["self","code"] t.a68 t.d68
 g69:FG K mg "_law_add" Jk ["desk","code"] t.a69 t.d69
 g70:FG K mg "_law_batch" Xl ["desk","codes","cells","hands","first","due"] t.a70 t.d70
 q28:Fun K "law" "law" zi4 t.a71 t.d71
 q35:uX K t.d71 ["script"] []
 w_law:∀(s:ap)(v:aq),BindsTo s t.d71 {[v],[]} [("script",v)]
 q1v:mg "bool"=L
 q11:mg "dict"=L
 b_int:mg "int"=L
 q0d:mg "isinstance"=L
 q06:mg "len"=L
 q09:mg "list"=L
 q12:mg "range"=L
 q29:mg "reversed"=L
 q13:mg "sorted"=L
 q1d:mg "str"=L
 b_tuple:mg "tuple"=L
 b_zip:mg "zip"=L
 q2a:∀H:Hp,uZ K H t.q0v [.str "plus",.str "minus",.str "times",.str "over",.str "rest",.str "under",.str "same"]
 q2b:aM K t.q00 "codes"
 q2c:aM K t.q00 "ended"
 q2d:aM K t.q00 "first"
 q2e:aM K t.q00 "hands"
 q2f:aM K t.q00 "held"
 q2g:aM K t.q00 "jobs"
 q2h:aM K t.q00 "makes"
 q2i:aM K t.q00 "waiting"
 q2j:aM K t.q00 "way"
 q2k:aM K t.q03 "doubted"
 q2l:aM K t.q03 "laid"
 q2m:aM K t.q03 "makes"
 q2n:aM K t.q03 "readers"
 q2o:aM K t.q02 "folded"
 q2p:aM K t.q02 "ground"
 q2q:aM K t.q02 "ranks"
 q2r:aM K t.q02 "worths"
 q2s:aM K t.q01 "at"
 q2t:aM K t.q01 "code"
 q2u:aM K t.q01 "gifts"
 q2v:aM K t.q01 "notes"
 q2w:aM K t.q01 "sayings"
 q2x:aM K t.q01 "slots"
 q2y:aM K t.q01 "why"
 q2z:aM K t.q07 "times"
 q30:uK K t.q08 zfF QR=U
 y_Nought:ExK K t.q08
 q31:nG K (.ref t.q08) (.ref t.q0a)=Y am
 q32:nG K (.ref t.q08) (.ref t.q08)=Y U
 m_Nought_Great_Nought:uN K (.ref t.q08) [.ref t.q0a,.ref t.q08]=Y U
 q33:uK K t.q0a zfF QR=U
 y_Great:ExK K t.q0a
 q34:nG K (.ref t.q0a) (.ref t.q0a)=Y U
 q36:nG K (.ref t.q0a) (.ref t.q08)=Y am
 m_Great_Great_Nought:uN K (.ref t.q0a) [.ref t.q0a,.ref t.q08]=Y U
structure KF(K:bL):Prop where
 i_b:gL K (.type "int") (.type "bool")=Y am
 i_s:gL K (.type "int") (.type "str")=Y am
 s_i:gL K (.type "str") (.type "int")=Y am
 i_l:gL K (.type "int") (.type "list")=Y am
 i_t:gL K (.type "int") (.type "tuple")=Y am
 s_l:gL K (.type "str") (.type "list")=Y am
 s_t:gL K (.type "str") (.type "tuple")=Y am
 t_l:gL K (.type "tuple") (.type "list")=Y am
def fin(t:uQ)(r:Except Er Int)(Q:VK)(E:XK)(H:Hp):Prop:=match r with
 |.ok i=>Q (.int i) H
 |.error .nought=>E (.ref t.q08) L H
 |.error .great=>E (.ref t.q0a) L H
 |.error .stuck=>True
def zgN(t:uQ)(e:Er)(E:XK)(H:Hp):Prop:=match e with
 |.nought=>E (.ref t.q08) L H
 |.great=>E (.ref t.q0a) L H
 |.stuck=>True
def zh5(K:bL):Prop:=gL K (.type "int") (.type "bool")=Y am
def aT(H:Hp)(b:af)(a:yu):Prop:=H b=Y (.lst (a.map V.str))/\∀w∈a,xx w=U
def YI:Rw->Prop
 |.off _=>False
 |.iff _ _ _=>False
 |_=>True
def zbK:Sp:=λb H Q _=>∃i,b=[.int i]/\∀a,aJ H a->Q (.bl (u3 i)) a
inductive Jn(t:uQ)(vs:LV)(H:Hp)(Q:VK)(E:XK):Prop
 |mk (w a b:_):vs=[.str w,.int a,.int b]->w.length<=1000->u3 a=U->u3 b=U->(∀H',aJ H H'->if b=0 then E (.ref t.q08) L H' else Q (.int (if w="over" then a.fdiv b else a.fmod b)) H')->Jn t vs H Q E
inductive Jo(t:uQ)(vs:LV)(H:Hp)(Q:VK)(E:XK):Prop
 |mk (w a b:_):vs=[.str w,.int a,.int b]->w.length<=1000->u3 a=U->u3 b=U->(∀H',aJ H H'->if VS w/\b=0 then E (.ref t.q08) L H' else Q (.int (VR w a b)) H')->Jo t vs H Q E
inductive X4(t:uQ)(vs:LV)(H:Hp)(Q:VK)(E:XK):Prop
 |mk (w a b:_):vs=[.str w,.int a,.int b]->w.length<=1000->u3 a=U->u3 b=U->(∀H',aJ H H'->fin t (kS w a b) Q E H')->X4 t vs H Q E
inductive WE(t:uQ)(vs:LV)(H:Hp)(Q:VK)(E:XK):Prop
 |mk (aI tm sl ps r:_):vs=[.ref tm,.ref sl]->H tm=Y (.tup ps)->H sl=Y (.dK aI)->Good aI ps r->(∀v∈ps,qv v)->ps.length<=1000->xT aI->(∀H',aJ H H'->fin t r Q E H')->WE t vs H Q E
inductive Cs where
 |row (r:Rw)
 |skip (e:LV) (to:Nat)
 |go (en:Nat)
def aY.isNil:aY->Bool
 |.nil=>U
 |.cons _ _=>am
abbrev Aw:=List Cs
def blk(e:LV)(k:Nat)(A:Aw)(b:Bool)(a:Aw):Aw:=
 if b=U then .skip e (k+1+A.length)::A else .skip e (k+2+A.length)::(A++(.go (k+2+A.length+a.length)::a))
mutual
def wb:Rw->Nat->Aw
 |.iff e a b,k=>blk e k (yn a (k+1)) (aY.isNil b) (yn b (k+2+(yn a (k+1)).length))
 |r,_=>[.row r]
def yn:aY->Nat->Aw
 |.nil,_=>[]
 |.cons r rs,k=>wb r k++yn rs (k+(wb r k).length)
end
def Jp:Rw->Prop
 |.iff _ _ _=>False
 |_=>True
def Ac(H:Hp)(v:V):Cs->Prop
 |.row r=>bv J5 H v r/\Jp r
 |.skip e b=>∃p a,v=.ref p/\H p=Y (.tup [.str "skip",.ref a,.int (b:Nat)])/\H a=Y (.tup e)
 |.go c=>∃p,v=.ref p/\H p=Y (.tup [.str "go",.int (c:Nat)])
structure Jq(n:Nat)(r:aY):Prop where
 dp:r.deep<n
 ct:r.cnt<=500
 pl:Zx r
def ZG(n:Nat):Sp:=λf H Q _=>∃v e a b,∃k:Nat,f=[v,.int k]/\bv J5 H v (.iff e a b)/\Jq n a/\Jq n b/\k+(wb (.iff e a b) k).length<=500/\∀l d c,aJ H c->c l=Y (.lst d)->Bl (Ac c) d (wb (.iff e a b) k)->Q (.ref l) c
def vZ(n:Nat):Sp:=λc H Q _=>∃v r,∃k:Nat,c=[v,.int k]/\RlAt J5 H v r/\Jq n r/\k+(yn r k).length<=500/\∀l b a,aJ H a->H l=L->a l=Y (.lst b)->Bl (Ac a) b (yn r k)->Q (.ref l) a
inductive vG(vs:LV)(H:Hp)(Q:VK)(_E:XK):Prop
 |mk (v r:_):vs=[v]->RlAt J5 H v r->Jq 6 r->(yn r 0).length<=500->(∀l xs H',aJ H H'->H l=L->H' l=Y (.lst xs)->Bl (Ac H') xs (yn r 0)->Q (.ref l) H')->vG vs H Q _E
structure hU where
 n:Nat
 why:Option Str
 sl:xB
 gi:zD
 no:zD
 sa:ym
structure RAd where
 dx:af
 co:af
 sl:af
 gi:af
 no:af
 sa:af
def zlC:Option Str->V
 |none=>.non
 |some w=>.str w
def zjY(a:RAd)(s:hU):LSV:=[(br "code",.ref a.co),(br "at",.int s.n),(br "why",zlC s.why),(br "slots",.ref a.sl),(br "gifts",.ref a.gi),(br "notes",.ref a.no),(br "sayings",.ref a.sa)]
structure aZ(t:uQ)(H:Hp)(x:af)(a:RAd)(C:Aw)(s:hU):Prop where
 ix:H x=Y (.ins t.q01 a.dx (zjY a s))
 hc:∃xs,H a.co=Y (.lst xs)/\Bl (Ac H) xs C
 hs:H a.sl=Y (.dK s.sl)
 hg:H a.gi=Y (.dT (uU s.gi))
 hn:H a.no=Y (.dT (uU s.no))
 ha:H a.sa=Y (.lst (s.sa.map V.int))
 ng:a.gi≠a.no
 nc:a.co≠a.sa
def Ow(x:af)(a:RAd)(b:af):Prop:=b=x\/b=a.sl\/b=a.gi\/b=a.no\/b=a.sa
def OwA(x:af)(a:RAd)(b:af):Prop:=Ow x a b\/b=a.co
def Kp(x:af)(a:RAd)(H c:Hp):Prop:=∀b o,¬ Ow x a b->H b=Y o->c b=Y o
def Qn(x:af)(H a:Hp):Prop:=∀b o,b≠x->H b=Y o->a b=Y o
structure RnOk(m:Nat)(s:hU):Prop where
 so:xT s.sl
 gw:∀r∈s.gi,u3 r.2=U
 nw:∀r∈s.no,u3 r.2=U
 l1:s.sl.length<=m
 l2:s.gi.length<=m
 l3:s.no.length<=m
 l4:s.sa.length<=m
 nd:(s.no.map (·.1)).Nodup
def zai:Cs->Prop
 |.row r=>Zv r
 |.skip e _=>aW e
 |.go _=>True
def yy(C:Aw)(s:hU):Bool:=s.why.isSome || decide (C.length<=s.n)
def j6(p:Pl)(w:Int)(s:hU):hU:=if (zE s.gi p).isSome=U\/(zE s.no p).isSome=U then s else { s with no:=s.no++[(p,w)] }
def Jr(p:Pl)(w:Int)(s:hU):Int:=(zE s.gi p).getD ((zE s.no p).getD w)
def Ai:Rw->Int->hU->Except Er hU
 |.take sh e x,w,s=>match rk s.sl e with
  |.error er=>.error er
  |.ok n=>.ok { j6 (sh,n) w s with sl:=xo s.sl (.inr x) (.int (Jr (sh,n) w s)) }
 |.give sh e f,_,s=>match rk s.sl e with
  |.error er=>.error er
  |.ok n=>match rk s.sl f with
   |.error er=>.error er
   |.ok i=>.ok { s with gi:=s.gi++[((sh,n),i)] }
 |.lt x e,_,s=>match rk s.sl e with
  |.error er=>.error er
  |.ok i=>.ok { s with sl:=xo s.sl (.inr x) (.int i) }
 |.say e,_,s=>match rk s.sl e with
  |.error er=>.error er
  |.ok i=>.ok { s with sa:=s.sa++[i] }
 |_,_,s=>.ok s
def x6:Cs->Int->hU->Except Er (Nat×hU)
 |.go k,_,s=>.ok (k,s)
 |.skip e to,_,s=>match rk s.sl e with
  |.error er=>.error er
  |.ok i=>.ok (if i=0 then to else s.n+1,s)
 |.row (.off e),_,s=>match rk s.sl e with
  |.error er=>.error er
  |.ok i=>.ok (s.n+1,if i=0 then s else { s with why:=Y (br "told") })
 |.row r,w,s=>match Ai r w s with
  |.error er=>.error er
  |.ok s'=>.ok (s.n+1,s')
def yP(c:Cs)(w:Int)(s:hU):hU:=match x6 c w s with
 |.ok (k,s')=>{ s' with n:=k }
 |.error er=>{ s with why:=Y (zbx er) }
def xh(C:Aw)(w:Int)(s:hU):hU:=if yy C s=U then s else match C[s.n]? with
 |none=>s
 |some c=>yP c w s
def kZ(c:Cs)(s:hU):Option Pl:=match c with
 |.row (.take sh e _)=>match rk s.sl e with
  |.error _=>L
  |.ok n=>if (zE s.gi (sh,n)).isSome=U\/(zE s.no (sh,n)).isSome=U then L else Y (sh,n)
 |_=>L
def j7(C:Aw)(s:hU):Option Pl:=if yy C s=U then L else (C[s.n]?).bind λc=>kZ c s
abbrev zbL(H:Hp)(v:V)(q:Row):Prop:=PrAt H v q
abbrev jE(H:Hp)(a:LV)(b:zD):Prop:=Bl (PrAt H) a b
inductive gV(H:Hp)(a:af)(ah:zD):Prop
 |mk (xs:_):H a=Y (.lst xs)->Bl (PrAt H) xs ah->gV H a ah
def Js(H:Hp)(v:V):Oc->Prop
 |.done sa=>∃o y,v=.ref o/\H o=Y (.tup [.str "done",.ref y])/\H y=Y (.tup (sa.map V.int))
 |.off w=>∃o,v=.ref o/\H o=Y (.tup [.str "off",.str w])
def zcV(s:hU):Oc:=match s.why with
 |some w=>.off w
 |none=>.done s.sa
def k9(s:hU)(a:zD):Prop:=match s.why with
 |some _=>a=[]
 |none=>Ae a/\∀p w,(p,w)∈a↔zE s.gi p=Y w
structure RnF(K:bL)(t:uQ):Prop where
 cl:AB K t.q01
 n1:aM K t.q01 "code"
 n2:aM K t.q01 "at"
 n3:aM K t.q01 "why"
 n4:aM K t.q01 "slots"
 n5:aM K t.q01 "gifts"
 n6:aM K t.q01 "notes"
 n7:aM K t.q01 "sayings"
def mt:hU:={0,L,[],[],[],[]}
inductive ZH(t:uQ)(vs:LV)(H:Hp)(Q:VK)(_E:XK):Prop
 |mk (x l dx xs C:_):vs=[.ref x,.ref l]->H x=Y (.ins t.q01 dx [])->H l=Y (.lst xs)->Bl (Ac H) xs C->(∀H' a,Qn x H H'->aZ t H' x a C mt->(∀b,OwA x a b->b=x\/H b=L)->Q .non H')->ZH t vs H Q _E
inductive j8(t:uQ)(vs:LV)(H:Hp)(Q:VK)(_E:XK):Prop
 |mk (x:_) (a:RAd) (C) (s:hU):vs=[.ref x]->aZ t H x a C s->(∀H',aJ H H'->Q (.bl (yy C s)) H')->j8 t vs H Q _E
inductive xF(t:uQ)(vs:LV)(H:Hp)(Q:VK)(E:XK):Prop
 |mk (x tm e:_) (a:RAd) (C) (s:hU):vs=[.ref x,.ref tm]->aZ t H x a C s->xT s.sl->H tm=Y (.tup e)->aW e->(∀H',aJ H H'->fin t (rk s.sl e) Q E H')->xF t vs H Q E
inductive xG(t:uQ)(vs:LV)(H:Hp)(Q:VK)(E:XK):Prop
 |mk (x p xs sh te e:_) (a:RAd) (C) (s:hU):vs=[.ref x,.ref p]->aZ t H x a C s->xT s.sl->H p=Y (.tup xs)->Ay xs 1=Y (.str sh)->Ay xs 2=Y (.ref te)->H te=Y (.tup e)->aW e->((∀i q H',rk s.sl e=.ok i->aJ H H'->H' q=Y (.tup [.str sh,.int i])->Q (.ref q) H'))->(∀er H',rk s.sl e=.error er->aJ H H'->zgN t er E H')->xG t vs H Q E
inductive qB(t:uQ)(vs:LV)(H:Hp)(Q:VK)(_E:XK):Prop
 |mk (x q:_) (p:Pl) (w) (a:RAd) (C) (s:hU):vs=[.ref x,.ref q,.int w]->aZ t H x a C s->H q=Y (.tup [.str p.1,.int p.2])->s.no.length<=900->(∀H',Kp x a H H'->aZ t H' x a C (j6 p w s)->Q (.int (Jr p w s)) H')->qB t vs H Q _E
inductive ZI(t:uQ)(vs:LV)(H:Hp)(Q:VK)(E:XK):Prop
 |mk (x v r w:_) (m:Nat) (a:RAd) (C) (s:hU):vs=[.ref x,v,.int w]->aZ t H x a C s->bv J5 H v r->YI r->Zv r->RnOk m s->m<=900->((∀H' s',Ai r w s=.ok s'->Kp x a H H'->aZ t H' x a C s'->Q .non H'))->(∀H' er,Ai r w s=.error er->aJ H H'->zgN t er E H')->ZI t vs H Q E
inductive kE(t:uQ)(vs:LV)(H:Hp)(Q:VK)(E:XK):Prop
 |mk (x v c w:_) (m:Nat) (a:RAd) (C) (s:hU):vs=[.ref x,v,.int w]->aZ t H x a C s->Ac H v c->zai c->RnOk m s->m<=900->((∀H' s' k,x6 c w s=.ok (k,s')->Kp x a H H'->aZ t H' x a C s'->Q (.int (k:Nat)) H'))->(∀H' er,x6 c w s=.error er->aJ H H'->zgN t er E H')->kE t vs H Q E
def j9(t:uQ):Sp:=λd H Q _=>∃x w,∃m:Nat,∃a:RAd,∃C,∃s:hU,d=[.ref x,.int w]/\aZ t H x a C s/\(∀c∈C,zai c)/\RnOk m s/\m<=900/\∀b,Kp x a H b->aZ t b x a C (xh C w s)->Q .non b
inductive kc(t:uQ)(vs:LV)(H:Hp)(Q:VK)(_E:XK):Prop
 |mk (x:_) (a:RAd) (C) (s:hU):vs=[.ref x]->aZ t H x a C s->(∀c∈C,zai c)->xT s.sl->((∀H',j7 C s=L->aJ H H'->Q .non H'))->(∀p q H',j7 C s=Y p->aJ H H'->H' q=Y (.tup [.str p.1,.int p.2])->Q (.ref q) H')->kc t vs H Q _E
inductive qC(t:uQ)(vs:LV)(H:Hp)(Q:VK)(_E:XK):Prop
 |mk (x:_) (a:RAd) (C) (s:hU):vs=[.ref x]->aZ t H x a C s->s.no.length<=900->(s.no.map (·.1)).Nodup->s.gi.length<=63->((∀H',yy C s=am->aJ H H'->Q .non H'))->(∀r o nl gl out H',yy C s=U->aJ H H'->H nl=L->H gl=L->nl≠gl->H' r=Y (.tup [o,.ref nl,.ref gl])->Js H' o (zcV s)->gV H' nl s.no->gV H' gl out->k9 s out->Q (.ref r) H')->qC t vs H Q _E
def wdJ(w:Str):Prop:=isJ (.str w)=U/\w.length<=1000/\dt w=U
def lfV(v:V):Prop:=(∃i,v=.int i/\u3 i=U)\/∃x,v=.str x/\xx x=U
def okD(d:Int):Prop:=0<=d/\d<1000000000000
inductive ye(K:bL)(vs:LV)(H:Hp)(Q:VK)(_E:XK):Prop
 |mk (a:_) (ns:ym) (k:Nat):vs=[.ref a,.int k]->aO K H a (ns.map V.int)->ns.length<=63->(∀i∈ns,Cb i)->(∀c H',aJ H H'->Cb c->c=ns.getD k 0->Q (.int c) H')->ye K vs H Q _E
def wG:Sp:=λe H Q _=>∃c,∃m:Nat,e=[.int c,.int m]/\m<=120/\∀(l:af)(a:ym)(b:Hp),aJ H b->H l=L->b l=Y (.lst (a.map V.int))->a.length=m->(∀d∈a,okD d)->Q (.ref l) b
def Xp(P:Nat->Bool)(x:Str):Prop:=x.cps.toList.all P=U
def smW(w:Str):Prop:=1<=w.length/\w.length<=6/\Xp inL w
def xK:Sp:=λb H Q _=>∃w,b=[.str w]/\smW w/\∀x a,xx x=U->aJ H a->Q (.str x) a
def jm:Sp:=λe H Q _=>∃c,e=[.int c]/\∀a d b,aJ H b->H a=L->aT b a d->d.length=2->Q (.ref a) b
def Jt:Sp:=λb H Q _=>∃n,b=[.int n]/\0<=n/\n<1000000000000/\∀w a,u3 w=U->aJ H a->Q (.int w) a
inductive Xq(vs:LV)(H:Hp)(Q:VK)(_E:XK):Prop
 |mk (n a ws:_):vs=[.int n,.ref a]->okD n->aT H a ws->ws.length=2->(∀p e H',aJ H H'->H p=L->H' p=Y (.tup e)->aW e->tmP e->Q (.ref p) H')->Xq vs H Q _E
inductive qD(vs:LV)(H:Hp)(Q:VK)(_E:XK):Prop
 |mk (n a ws:_):vs=[.int n,.ref a]->okD n->aT H a ws->ws.length=2->(∀p e H',aJ H H'->H p=L->H' p=Y (.tup e)->aW e->tmP e->Q (.ref p) H')->qD vs H Q _E
inductive kF(vs:LV)(H:Hp)(Q:VK)(_E:XK):Prop
 |mk (c a ws:_):vs=[.int c,.ref a]->aT H a ws->ws.length=2->(∀l tab H',aJ H H'->H l=L->gV H' l tab->Ae tab->(∀r∈tab,dt r.1.1=U/\u3 r.2=U/\r.2≠0)->tab.length<=5->Q (.ref l) H')->kF vs H Q _E
mutual
def szR:Rw->Nat
 |.iff _ a b=>ZJ a+ZJ b+2
 |_=>1
def ZJ:aY->Nat
 |.nil=>0
 |.cons r rs=>szR r+ZJ rs
end
def zh6:Cs->Prop
 |.row r=>V6 r
 |_=>True
structure X5(C:Aw):Prop where
 ok:∀c∈C,zai c
 pl:∀c∈C,zh6 c
 fw:∀(i to:Nat)(e:LV),C[i]?=Y (Cs.skip e to)->i<to
 fg:∀(i to:Nat),C[i]?=Y (Cs.go to)->i<to
 le:C.length<=40
structure RnI(C:Aw)(m:Nat)(s:hU):Prop where
 ok:RnOk m s
 ng:∀r∈s.gi,dt r.1.1=U
 nn:∀r∈s.no,dt r.1.1=U
 at_:s.why=L->m<=s.n
 wy:∀w,s.why=Y w->dt w=U
inductive ZK(vs:LV)(H:Hp)(Q:VK)(_E:XK):Prop
 |mk (a ah:_):vs=[.ref a]->gV H a ah->(uU ah).length<=900->ah.length<=1000->(∀l out H',aJ H H'->H l=L->gV H' l out->wD ah out->Q (.ref l) H')->ZK vs H Q _E
inductive Qo(vs:LV)(H:Hp)(Q:VK)(_E:XK):Prop
 |mk (l q:_) (ah:zD) (p:Pl):vs=[.ref l,.ref q]->gV H l ah->ah.length<=500->H q=Y (.tup [.str p.1,.int p.2])->(∀H',aJ H H'->Q (.int ((zE ah p).getD 0)) H')->Qo vs H Q _E
def YJ(a:zD)(p:Pl):Int:=(zE a p).getD 0
abbrev PlI:=Pl->Int
def Kc(C:Aw)(a:PlI)(s:hU):Int:=match j7 C s with
 |none=>0
 |some p=>a p
def X6(C:Aw)(a:PlI)(s:hU):hU:=xh C (Kc C a s) s
def Ju(C:Aw)(a:PlI):Nat->hU->hU
 |0,s=>s
 |k+1,s=>Ju C a k (X6 C a s)
def Rch(C:Aw)(a:PlI)(s b:hU):Prop:=∃k,Ju C a k s=b
structure zjZ(C:Aw)(ah:zD)(s:hU):Prop where
 ov:yy C s=U
 rc:Rch C (YJ ah) mt s
 ri:∃m,m<=C.length/\RnI C m s
 fw:s.gi.length+s.no.length<=C.length
inductive Am(H:Hp):Nat->V->V->Prop
 |int {n:Nat} (i:Int):Am H (n+1) (.int i) (.int i)
 |str {n:Nat} (x:Str):Am H (n+1) (.str x) (.str x)
 |lst {n:Nat} {a b:af} {xs ys:LV}:H a=Y (.lst xs)->H b=Y (.lst ys)->xs.length=ys.length->(∀(i:Nat)(x y:V),xs[i]?=Y x->ys[i]?=Y y->Am H n x y)->Am H (n+1) (.ref a) (.ref b)
 |tup {n:Nat} {a b:af} {xs ys:LV}:H a=Y (.tup xs)->H b=Y (.tup ys)->xs.length=ys.length->(∀(i:Nat)(x y:V),xs[i]?=Y x->ys[i]?=Y y->Am H n x y)->Am H (n+1) (.ref a) (.ref b)
def xq(n:Nat):Sp:=λb H Q _=>∃v u,b=[v,u]/\Am H n v u/\∀a,aJ H a->Q (.bl U) a
structure rwW(r:Rw):Prop where
 nf:Jp r
 pl:V6 r
 ok:Zv r
inductive v3(vs:LV)(H:Hp)(Q:VK)(_E:XK):Prop
 |mk (p a b:_) (ds:ym) (us ws:yu):vs=[.ref p,.ref a,.ref b]->H p=Y (.lst (ds.map V.int))->ds.length=3->(∀d∈ds,okD d)->aT H a us->us.length=2->aT H b ws->ws.length=2->(∀v r H',aJ H H'->bv (λb=>H b=L) H' v r->rwW r->Q v H')->v3 vs H Q _E
def aY.of:List Rw->aY
 |[]=>.nil
 |r::rs=>.cons r (aY.of rs)
structure zh7(rs:List Rw):Prop where
 dp:(aY.of rs).deep<=1
 pl:Zx (aY.of rs)
 ok:Yn (aY.of rs)
 sz:(rs.map λr=>match r with|.iff _ a b=>a.cnt+b.cnt+3|_=>1).sum<=11
inductive xU(vs:LV)(H:Hp)(Q:VK)(_E:XK):Prop
 |mk (c a b:_) (us ws:yu):vs=[.int c,.ref a,.ref b]->aT H a us->us.length=2->aT H b ws->ws.length=2->(∀l rs H',aJ H H'->RlAt (λb=>H b=L) H' (.ref l) (aY.of rs)->zh7 rs->Q (.ref l) H')->xU vs H Q _E
def Jv(p:Pl)(a:Int):zD->Int×Int->Int×Int
 |[],s=>s
 |r::rs,s=>Jv p a rs (if r.1=p then (a,r.2) else s)
abbrev Aj:=List (Int×zD)
def wc(p:Pl)(a:Int):Aj->Int×Int->Int×Int
 |[],s=>s
 |l::ls,s=>wc p a ls (if s.1<l.1/\l.1<a then Jv p l.1 l.2 s else s)
def yg(b:zD)(a:Aj)(p:Pl)(c:Int):Int:=(wc p c a (-1,(zE b p).getD 0)).2
structure Jw(gs:zD):Prop where
 nd:(gs.map (·.1)).Nodup
 le:gs.length<=63
def jP(a:Aj)(p:Pl)(r:Int):Prop:=∃b,(r,b)∈a/\p∈b.map (·.1)
structure uT(H:Hp)(rk:af)(F:Ad)(P:Pl->Int->Prop)(aI:yd):Prop where
 at_:H rk=Y (.dT aI)
 nk:(aI.map (·.1)).Nodup
 nv:(aI.map (·.2)).Nodup
 ls:∀kv∈aI,∃(p:Pl)(a:af)(rs:ym),kv=(zI p,.ref a)/\F a/\H a=Y (.lst (rs.map V.int))/\rs.Pairwise (· < ·)/\rs≠[]/\∀r,r∈rs↔P p r
 al:∀p r,P p r->zI p∈aI.map (·.1)
def zbM(H:Hp)(rk:af)(F:Ad)(a:Key×V)(y:Int×zD):Prop:=a.1=.inl y.1/\∃d,a.2=.ref d/\F d/\d≠rk/\H d=Y (.dT (uU y.2))
def YK(c:af)(a:Int)(b rk:af):LSV:=[(br "ground",.ref c),(br "folded",.int a),(br "worths",.ref b),(br "ranks",.ref rk)]
structure MrIn(t:uQ)(H:Hp)(m:af)(F:Ad)(g:zD)(l:Aj)(low:Int)(dx gr wo rk:af)(wk:xB)(kk:yd):Prop where
 im:H m=Y (.ins t.q02 dx (YK gr low wo rk))
 fg:F gr
 fw:F wo
 fk:F rk
 nr:gr≠rk
 hg:H gr=Y (.dT (uU g))
 hw:H wo=Y (.dK wk)
 wp:Bl (zbM H rk F) wk l
 rr:uT H rk F (jP l) kk
def uT.keep{H H':Hp}{rk:af}{F F':Ad}{P:Pl->Int->Prop}(h:uT H rk F P aI)(d:F rk)(k:∀b o,F b->H b=Y o->H' b=Y o)(f:∀b,F b->F' b):uT H' rk F' P aI:=
 {k _ _ d h.at_,h.nk,h.nv,λkv c=>let ⟨p,a,rs,e,fa,ha,z⟩:=h.ls kv c;{p,a,rs,e,f a fa,k _ _ fa ha,z},h.al}
def MrIn.keep{H H':Hp}{m:af}{F:Ad}{g:zD}{l:Aj}{low:Int}{dx gr wo rk:af}{wk:xB}{kk:yd}(h:MrIn t H m F g l low dx gr wo rk wk kk)(f:F m)(k:∀b o,F b->H b=Y o->H' b=Y o):MrIn t H' m F g l low dx gr wo rk wk kk:=
 {k _ _ f h.im,h.fg,h.fw,h.fk,h.nr,k _ _ h.fg h.hg,k _ _ h.fw h.hw,Paired.mapP h.wp λ_ _ ⟨e,d,j,a,c,i⟩=>{e,d,j,a,c,k _ _ a i},h.rr.keep h.fk k λ_ z=>z}
structure Ak(t:uQ)(H:Hp)(m:af)(F:Ad)(g:zD)(l:Aj)(low:Int):Prop where
 own:∀b,F b->∃o,H b=Y o
 me:F m
 nd:(l.map (·.1)).Nodup
 ok:∀y∈l,0<=y.1/\Jw y.2
 ex:∃dx gr wo rk wk kk,MrIn t H m F g l low dx gr wo rk wk kk
theorem jF{i b rk:af}{a:Int}(h:f≠br "ground"/\f≠br "folded"/\f≠br "worths"/\f≠br "ranks"):dJ f (YK i a b rk)=L:=by have #[g,e,d,c]:=h;simp only[YK,cK,beq_eq_false_iff_ne.mpr g,beq_eq_false_iff_ne.mpr e,beq_eq_false_iff_ne.mpr d,beq_eq_false_iff_ne.mpr c,List.lookup_nil]
theorem Ak.ins{H:Hp}{F:Ad}{low:Int}(h:Ak t H m F g l low):∃dx a,H m=Y (.ins t.q02 dx a)/\dJ (br "lay") a=L/\dJ (br "seen") a=L/\dJ (br "kept") a=L/\dJ (br "fold") a=L/\dJ (br "table_for") a=L:=by have #[dx,gr,wo,rk,wk,kk,z]:=h.ex;exact{dx,_,z.im,jF (),jF (),jF (),jF (),jF ()}
def Ak.keep{H H':Hp}{F:Ad}{low:Int}(h:Ak t H m F g l low)(k:∀b o,F b->H b=Y o->H' b=Y o):Ak t H' m F g l low:=
 {λb a=>let ⟨o,e⟩:=h.own b a;{o,k b o a e},h.me,h.nd,h.ok,let ⟨dx,gr,wo,rk,wk,kk,z⟩:=h.ex;{dx,gr,wo,rk,wk,kk,z.keep h.me k}}
def Al(t:uQ)(H:Hp)(m:af)(F:Ad)(g:zD)(l:Aj):Prop:=Ak t H m F g l 0
def Al.own{H:Hp}{F:Ad}(h:Al t H m F g l):∀b,F b->∃o,H b=Y o:=Ak.own h
def Al.me{H:Hp}{F:Ad}(h:Al t H m F g l):F m:=Ak.me h
def Al.ins{H:Hp}{F:Ad}(h:Al t H m F g l):∃f e,H m=Y (.ins t.q02 f e)/\dJ (br "lay") e=L/\dJ (br "seen") e=L/\dJ (br "kept") e=L:=let ⟨f,e,a,b,c,d,_⟩:=Ak.ins h;{f,e,a,b,c,d}
def Al.keep{H H':Hp}{F:Ad}(h:Al t H m F g l)(k:∀b o,F b->H b=Y o->H' b=Y o)(c:∀b a,H b=Y (.tup a)->H' b=Y (.tup a)):Al t H' m F g l:=Ak.keep h k
def Al.same{H a:Hp}{F:Ad}(h:Al t H m F g l)(s:aJ H a):Al t a m F g l:=h.keep (λb o _ e=>s b o e) λb c e=>s b _ e
def we(a:Aj)(b:Int)(c:zD):Aj:=(a.filter λy=>decide (y.1≠b))++[(b,c)]
inductive wH(vs:LV)(H:Hp)(Q:VK)(_E:XK):Prop
 |mk (a:_) (rs:ym) (ae):vs=[.ref a,.int ae]->H a=Y (.lst (rs.map V.int))->rs.Pairwise (· < ·)->(∀(k:Nat) H',aJ H H'->k<=rs.length->(∀r∈rs.take k,r<ae)->(∀r∈rs.drop k,ae<=r)->Q (.int k) H')->wH vs H Q _E
inductive xV(t:uQ)(vs:LV)(H:Hp)(Q:VK)(_E:XK):Prop
 |mk (m dx:_) (fs:LSV) (low ae):vs=[.ref m,.int ae]->H m=Y (.ins t.q02 dx fs)->fs.lookup (br "folded")=Y (.int low)->low<=ae->(∀H',aJ H H'->Q .non H')->xV t vs H Q _E
def Kd(a:Aj)(b:Int):Aj:=a.filter λy=>decide (y.1≠b)
def dl(G:Ad)(rk:af)(H c:Hp):Prop:=∀b o,H b=Y o->b≠rk->((∀a,o≠.lst a)\/¬ G b)->c b=Y o
def Dm(H d:Hp):Prop:=∀b o,H b=Y o->∃c,d b=Y c/\∀a,c=.tup a->o=.tup a
inductive kg(vs:LV)(H:Hp)(Q:VK)(_E:XK):Prop
 |mk (rk pl ae G:_) (P:Pl->Int->Prop) (kk:yd) (q0:Pl):vs=[.ref rk,.ref pl,.int ae]->uT H rk G P kk->G rk->((∀b,H b=L->G b))->H pl=Y (.tup ((zI q0).map kV))->¬ P q0 ae->kk.length<=18900->((∀rs:ym,rs.Pairwise (· < ·)->(∀r∈rs,P q0 r)->rs.length<=300))->(∀H' kk',dl G rk H H'->Dm H H'->uT H' rk G (λp r=>P p r\/(r=ae/\p=q0)) kk'->Q .non H')->kg vs H Q _E
inductive jn(vs:LV)(H:Hp)(Q:VK)(_E:XK):Prop
 |mk (rk pl ae G:_) (P:Pl->Int->Prop) (kk) (q0:Pl):vs=[.ref rk,.ref pl,.int ae]->uT H rk G P kk->G rk->H pl=Y (.tup ((zI q0).map kV))->P q0 ae->(∀H' kk',dl G rk H H'->Dm H H'->uT H' rk G (λp r=>P p r/\¬ (r=ae/\p=q0)) kk'->Q .non H')->jn vs H Q _E
inductive xW(t:uQ)(vs:LV)(H:Hp)(Q:VK)(_E:XK):Prop
 |mk (m ae F g lays low:_):vs=[.ref m,.int ae]->Ak t H m F g lays low->(∀l ys gs H',aJ H H'->H l=L->H' l=Y (.lst ys)->Bl (zbC H') ys (uU gs)->((ae,gs)∈lays\/(ae ∉ lays.map (·.1)/\gs=[]))->Q (.ref l) H')->xW t vs H Q _E
inductive wU(t:uQ)(vs:LV)(H:Hp)(Q:VK)(_E:XK):Prop
 |mk (m ae F g lays low:_):vs=[.ref m,.int ae]->Ak t H m F g lays low->(∀H' F',(∀b o,¬ F b->H b=Y o->H' b=Y o)->(∀b zs,H b=Y (.tup zs)->H' b=Y (.tup zs))->Ak t H' m F' g (Kd lays ae) low->(∀b,F' b->F b\/H b=L)->(∀b,F b->F' b)->Q .non H')->wU t vs H Q _E
inductive vP(t:uQ)(vs:LV)(H:Hp)(Q:VK)(_E:XK):Prop
 |mk (x h dx ah:_):vs=[.ref x,.ref h]->H x=Y (.ins t.q02 dx [])->gV H h ah->ah.length<=63->(∀H' F,Qn x H H'->Al t H' x F ah []->(∀b,F b->b=x\/H b=L)->Q .non H')->vP t vs H Q _E
inductive qE(t:uQ)(vs:LV)(H:Hp)(Q:VK)(_E:XK):Prop
 |mk (m ae gv F g lays gs:_):vs=[.ref m,.int ae,.ref gv]->Al t H m F g lays->0<=ae->gV H gv gs->¬ F gv->Jw gs->lays.length<=200->(∀H' F',(∀b o,¬ F b->H b=Y o->H' b=Y o)->(∀b zs,H b=Y (.tup zs)->H' b=Y (.tup zs))->Al t H' m F' g (we lays ae gs)->(∀b,F' b->F b\/H b=L)->(∀b,F b->F' b)->Q .non H')->qE t vs H Q _E
inductive wI(t:uQ)(vs:LV)(H:Hp)(Q:VK)(_E:XK):Prop
 |mk (m p ae F g lays q:_):vs=[.ref m,.ref p,.int ae]->Al t H m F g lays->0<=ae->H p=Y (.tup [.str q.1,.int q.2])->(∀H',aJ H H'->Q (.int (yg g lays q ae)) H')->wI t vs H Q _E
inductive Ev where
 |rest
 |step (r:Int)
 |read (r:Int) (p:Pl) (w:Int)
 |take (r:Int)
 |lay (r:Int)
 |settle (r:Int)
 |again (r:Int) (p:Pl) (o n:Int)
abbrev He:=Int×Ev
def evW:Ev->Str
 |.rest=>"rest"
 |.step _=>"step"
 |.read ..=>"read"
 |.take _=>"take"
 |.lay _=>"lay"
 |.settle _=>"settle"
 |.again ..=>"again"
def evX(q:af):Ev->LV
 |.rest=>[]
 |.step r=>[.int r]
 |.read r _ w=>[.int r,.ref q,.int w]
 |.take r=>[.int r]
 |.lay r=>[.int r]
 |.settle r=>[.int r]
 |.again r _ o n=>[.int r,.ref q,.int o,.int n]
def evP:Ev->Option Pl
 |.read _ p _=>Y p
 |.again _ p _ _=>Y p
 |_=>L
inductive AM(H:Hp)(v:V)(x:He):Prop
 |mk (a q:_):v=.ref a->H a=Y (.tup (.str (evW x.2)::.int x.1::evX q x.2))->(∀p,evP x.2=Y p->H q=Y (.tup [.str p.1,.int p.2]))->AM H v x
abbrev LRG:=List (hU×zD)
structure DS where
 ws:ym
 hl:List (Int×Int×Nat×hU)
 ld:List (Int×hU×zD)
 ls:Aj
 en:Nat
 es:LRG
def X7{a:Type}(l:List (Int×a))(h:Int)(b:a):List (Int×a):=l.map λe=>if e.1=h then (h,b) else e
def yH{a:Type}(l:List (Int×a))(h:Int):List (Int×a):=l.filter λe=>decide (e.1≠h)
def Agr(g:zD)(b:Aj)(r:Int)(a:zD):Prop:=∀y∈a,yg g b y.1 r=y.2
abbrev vy:=List Aw
inductive Mv(f:Int)(g:zD)(CC:vy)(S:DS)(h:Int):Ev->DS->Prop
 |step {r j s C}:(h,r,j,s)∈S.hl->CC[(r-f).toNat]?=Y C->yy C s=am->j7 C s=L->Mv f g CC S h (.step r) { S with hl:=X7 S.hl h (r,j+1,xh C 0 s) }
 |read {r j s C p}:(h,r,j,s)∈S.hl->CC[(r-f).toNat]?=Y C->yy C s=am->j7 C s=Y p->Mv f g CC S h (.read r p (yg g S.ls p r)) { S with hl:=X7 S.hl h (r,j+1,xh C (yg g S.ls p r) s) }
 |lay {r j s C gi}:(h,r,j,s)∈S.hl->CC[(r-f).toNat]?=Y C->yy C s=U->k9 s gi->Mv f g CC S h (.lay r) { S with hl:=yH S.hl h,ls:=we S.ls r gi,ld:=S.ld++[(r,s,gi)] }
 |settle {s gi}:(f+S.en,s,gi)∈S.ld->Agr g S.ls (f+S.en) s.no->h ∉ S.hl.map (·.1)->Mv f g CC S h (.settle (f+S.en)) { S with ld:=yH S.ld (f+S.en),en:=S.en+1,es:=S.es++[(s,gi)] }
 |again {r s gi p o ws'}:(r,s,gi)∈S.ld->(p,o)∈s.no->yg g S.ls p r≠o->ws'.Perm (r::S.ws)->ws'.Pairwise (· < ·)->h ∉ S.hl.map (·.1)->Mv f g CC S h (.again r p o (yg g S.ls p r)) { S with ld:=yH S.ld r,ws:=ws' }
 |take {r}:r∈S.ws->h ∉ S.hl.map (·.1)->Mv f g CC S h (.take r) { S with ws:=S.ws.erase r,hl:=S.hl++[(h,r,0,mt)] }
 |rest:S.ws=[]->f+(S.en:Int) ∉ S.ld.map (·.1)->h ∉ S.hl.map (·.1)->Mv f g CC S h .rest S
structure zcW(no gi:zD):Prop where
 nd:(no.map (·.1)).Nodup
 ng:(gi.map (·.1)).Nodup
 ln:no.length<=60
 lg:gi.length<=60
def jo(f:Int)(k n:Nat):ym:=(e9 (n-k)).map λi:Nat=>f+(k:Int)+(i:Int)
structure X8(CC:vy):Prop where
 ok:∀C∈CC,X5 C/\C.length<=48
 le:CC.length<=8
structure uS(n f:Int)(g:zD)(CC:vy)(S:DS):Prop where
 f0:0<=f
 cc:X8 CC
 el:S.en<=CC.length
 pm:(S.ws++(S.hl.map (·.2.1)++S.ld.map (·.1))).Perm (jo f S.en CC.length)
 so:S.ws.Pairwise (· < ·)
 hn:(S.hl.map (·.1)).Nodup
 hr:∀e∈S.hl,0<=e.1/\e.1<n
 rn:∀e∈S.hl,∃C,CC[(e.2.1-f).toNat]?=Y C/\RnI C e.2.2.1 e.2.2.2/\e.2.2.1<=48
 nt:∀e∈S.ld,zcW e.2.1.no e.2.2
 ly:∀y∈S.ls,f<=y.1/\y.1<f+CC.length
 gw:∀p,u3 ((zE g p).getD 0)=U
 lw:∀y∈S.ls,∀w∈y.2,u3 w.2=U
structure AJ where
 dx:af
 wy:af
 dw:af
 cl:af
 wl:af
 hd:af
 mks:af
 jb:af
 dj:af
 en:af
 la:af
 re:af
 db:af
def X9(a:AJ)(n f:Int):LSV:=[(br "hands",.int n),(br "way",.ref a.wy),(br "first",.int f),(br "codes",.ref a.cl),(br "waiting",.ref a.wl),(br "held",.ref a.hd),(br "makes",.ref a.mks),(br "jobs",.ref a.jb),(br "ended",.ref a.en)]
def Ke(m b a c:af):LSV:=[(br "makes",.ref m),(br "laid",.ref b),(br "readers",.ref a),(br "doubted",.ref c)]
def dbL(a:ym):xB:=a.map λr=>(.inl r,.bl U)
def AT(t:uQ)(d:af)(a:AJ)(n f:Int)(c:HO)(j:LV)(b:ym)(g e:xB)(i:ym)(h:LV):List (af×HO):=[(d,.ins t.q00 a.dx (X9 a n f)),(a.wy,c),(a.jb,.ins t.q03 a.dj (Ke a.mks a.la a.re a.db)),(a.cl,.lst j),(a.wl,.lst (b.map V.int)),(a.hd,.dK g),(a.la,.dK e),(a.db,.dK (dbL i)),(a.en,.lst h)]
inductive Ar(H:Hp)(v:V)(C:Aw):Prop
 |mk (a ys:_):v=.ref a->H a=Y (.lst ys)->Bl (Ac H) ys C->Ar H v C
abbrev AN_:=af->Nat
structure u7(t:uQ)(H:Hp)(lb:AN_)(Bp:List (af×HO))(m re:af)(g:zD)(lays:Aj)(P:Pl->Int->Prop)(cs:LV)(CC:vy):Prop where
 ob:∀(i:Nat) b o,Bp[i]?=Y (b,o)->H b=Y o/\lb b=i+1
 ms:Al t H m (λb=>lb b=10) g lays
 rr:∃kk,uT H re (λb=>lb b=11) P kk
 rl:lb re=11
 cc:Bl (λv C=>Ar H v C/\∀c,v=.ref c->lb c=13) cs CC
 ow:∀b,lb b≠0->∃o,H b=Y o
structure Fr(M:Nat->Prop)(H H':Hp)(lb lb':AN_):Prop where
 ex:∀b o,H b=Y o->lb' b=lb b
 kp:∀b o,M (lb b)->H b=Y o->H' b=Y o
 ts:∀b zs,H b=Y (.tup zs)->H' b=Y (.tup zs)
 al:∀b o,H b=Y o->∃o',H' b=Y o'
def M0(l:Nat):Prop:=l=0\/l=14
def M1(l:Nat):Prop:=l=0\/14<=l
inductive Az(H:Hp)(lb:AN_)(r:af)(s:hU)(gi:zD):Prop
 |mk (o nl gl:_):H r=Y (.tup [o,.ref nl,.ref gl])->Js H o (zcV s)->gV H nl s.no->gV H gl gi->lb nl=14->lb gl=14->Az H lb r s gi
def Pk{a:Type}(R:Int->V->a->Prop)(b:xB)(l:List (Int×a)):Prop:=Bl (λx e=>x.1=.inl e.1/\R e.1 x.2 e.2) b l
inductive HdAt(t:uQ)(H:Hp)(lb:AN_)(f:Int)(CC:vy)(h:Int)(v:V)(e:Int×Nat×hU):Prop
 |mk (tp x ra C:_):v=.ref tp->H tp=Y (.tup [.int e.1,.ref x])->CC[(e.1-f).toNat]?=Y C->aZ t H x ra C e.2.2->(∀b,OwA x ra b->lb b=20+h.toNat)->HdAt t H lb f CC h v e
def Wa(H:Hp)(a:AN_)(_:Int)(v:V)(e:hU×zD):Prop:=∃r,v=.ref r/\Az H a r e.1 e.2
def AD(ld:List (Int×hU×zD))(p:Pl)(i:Int):Prop:=∃e∈ld,e.1=i/\p∈e.2.1.no.map (·.1)
def zh8(t:uQ)(a:AJ)(b:HO):Prop:=b=.ins t.q0g a.dw []\/b=.ins t.q0f a.dw []\/∃k:Nat,b=.ins t.q07 a.dw [(br "times",.int k)]
structure DbOk(ld:List (Int×hU×zD))(db:ym):Prop where
 nd:db.Nodup
 su:∀r∈db,r∈ld.map (·.1)
structure EnI(H:Hp)(lb:AN_)(en:LV)(k:Nat)(es:LRG):Prop where
 le:en.length=k
 ps:Bl (Wa H lb 0) en es
structure DbA(g:zD)(lays:Aj)(ld:List (Int×hU×zD))(db:ym):Prop where
 wk:DbOk ld db
 ag:∀e∈ld,e.1 ∉ db->Agr g lays e.1 e.2.1.no
inductive Au(t:uQ)(H:Hp)(d:af)(a:AJ)(lb:AN_)(n f:Int)(g:zD)(CC:vy)(S:DS):Prop
 |mk (wo cs kv la db en:_):u7 t H lb (AT t d a n f wo cs S.ws kv la db en) a.mks a.re g S.ls (AD S.ld) cs CC->Pk (HdAt t H lb f CC) kv S.hl->Pk (Wa H lb) la S.ld->DbA g S.ls S.ld db->EnI H lb en S.en S.es->zh8 t a wo->Au t H d a lb n f g CC S
structure DkF(K:bL)(t:uQ):Prop where
 cD:AB K t.q00
 cJ:AB K t.q03
 cT:AB K t.q07
 d1:aM K t.q00 "hands"
 d2:aM K t.q00 "way"
 d3:aM K t.q00 "first"
 d4:aM K t.q00 "codes"
 d5:aM K t.q00 "waiting"
 d6:aM K t.q00 "held"
 d7:aM K t.q00 "makes"
 d8:aM K t.q00 "jobs"
 d9:aM K t.q00 "ended"
 j1:aM K t.q03 "makes"
 j2:aM K t.q03 "laid"
 j3:aM K t.q03 "readers"
 j4:aM K t.q03 "doubted"
 t1:aM K t.q07 "times"
def NxA(a:Aj)(q:Pl)(b:Int)(v:V):Prop:=(v=.non/\∀r,jP a q r->r<=b)\/∃i,v=.int i/\jP a q i/\b<i/\∀r,jP a q r->b<r->i<=r
inductive jf(t:uQ)(vs:LV)(H:Hp)(Q:VK)(_E:XK):Prop
 |mk (m p ae F g lays q:_):vs=[.ref m,.ref p,.int ae]->Al t H m F g lays->H p=Y (.tup ((zI q).map kV))->(∀v H',aJ H H'->NxA lays q ae v->Q v H')->jf t vs H Q _E
def qF(t:uQ):Sp:=λf H Q _=>∃x m e,f=[.ref x,.ref m]/\H x=Y (.ins t.q03 e [])/\∀a b d c,Qn x H a->a x=Y (.ins t.q03 e (Ke m b d c))->a b=Y (.dK [])->a d=Y (.dT [])->a c=Y (.dK [])->H b=L->H d=L->H c=L->b≠c->Q .non a
structure JD where
 d:af
 a:AJ
 lb:AN_
 n:Int
 f:Int
 wo:HO
 cs:LV
 ws:ym
 kv:xB
 la:xB
 db:ym
 en:LV
 g:zD
 lays:Aj
 ld:List (Int×hU×zD)
 CC:vy
def JD.O(J:JD)(t:uQ)(H:Hp):Prop:=u7 t H J.lb (AT t J.d J.a J.n J.f J.wo J.cs J.ws J.kv J.la J.db J.en) J.a.mks J.a.re J.g J.lays (AD J.ld) J.cs J.CC
inductive kG(t:uQ)(vs:LV)(H:Hp)(Q:VK)(_E:XK):Prop
 |mk (J:JD) (p ae) (q:Pl):vs=[.ref J.a.jb,.ref p,.int ae]->J.O t H->DbOk J.ld J.db->J.ld.length<=10->H p=Y (.tup ((zI q).map kV))->(∀H' db',Fr M1 H H' J.lb J.lb->JD.O { J with db:=db' } t H'->DbOk J.ld db'->(∀y∈J.db,y∈db')->(∀r,AD J.ld q r->ae<r->(∀i,jP J.lays q i->ae<i->r<=i)->r∈db')->Q .non H')->kG t vs H Q _E
inductive vH(t:uQ)(vs:LV)(H:Hp)(Q:VK)(_E:XK):Prop
 |mk (J:JD) (r ae) (s:hU) (gi):vs=[.ref J.a.jb,.int ae,.ref r]->J.O t H->Pk (Wa H J.lb) J.la J.ld->DbA J.g J.lays J.ld J.db->(∀e∈J.ld,zcW e.2.1.no e.2.2)->J.ld.length<=10->ae ∉ J.ld.map (·.1)->0<=ae->J.lays.length<=10->Az H J.lb r s gi->zcW s.no gi->(∀H' lb' la' db',Fr M1 H H' J.lb lb'->JD.O { J with lb:=lb',la:=la',db:=db',lays:=we J.lays ae gi,ld:=J.ld++[(ae,s,gi)] } t H'->Pk (Wa H' lb') la' (J.ld++[(ae,s,gi)])->DbA J.g (we J.lays ae gi) (J.ld++[(ae,s,gi)]) db'->Q .non H')->vH t vs H Q _E
inductive wq(t:uQ)(vs:LV)(H:Hp)(Q:VK)(_E:XK):Prop
 |mk (d:af) (a:AJ) (lb Bp la g lays) (P:Pl->Int->Prop) (cs CC ae r) (s:hU) (gi):vs=[.ref a.jb,.int ae]->u7 t H lb Bp a.mks a.re g lays P cs CC->Bp[2]?=Y (a.jb,.ins t.q03 a.dj (Ke a.mks a.la a.re a.db))->Bp[6]?=Y (a.la,.dK la)->yt la (.inl ae)=Y (.ref r)->0<=ae->Az H lb r s gi->((∀H',aJ H H'->Agr g lays ae s.no->Q .non H'))->(∀v H' q y,aJ H H'->y∈s.no->yg g lays y.1 ae≠y.2->H' v=Y (.tup [.ref q,.int y.2,.int (yg g lays y.1 ae)])->H' q=Y (.tup [.str y.1.1,.int y.1.2])->Q (.ref v) H')->wq t vs H Q _E
inductive vm(t:uQ)(vs:LV)(H:Hp)(Q:VK)(_E:XK):Prop
 |mk (J:JD):vs=[.ref J.a.jb]->J.O t H->Pk (Wa H J.lb) J.la J.ld->DbA J.g J.lays J.ld J.db->J.ld.length<=10->(J.ld.map (·.1)).Nodup->(∀e∈J.ld,0<=e.1)->((∀H',Fr M1 H H' J.lb J.lb->JD.O { J with db:=[] } t H'->DbA J.g J.lays J.ld []->Q .non H'))->(∀v H' db' q r s gi y,Fr M1 H H' J.lb J.lb->JD.O { J with db:=db' } t H'->DbA J.g J.lays J.ld db'->(∀x∈db',r<=x)->(r,s,gi)∈J.ld->y∈s.no->yg J.g J.lays y.1 r≠y.2->H' v=Y (.tup [.int r,.ref q,.int y.2,.int (yg J.g J.lays y.1 r)])->H' q=Y (.tup [.str y.1.1,.int y.1.2])->Q (.ref v) H')->vm t vs H Q _E
inductive wz(t:uQ)(vs:LV)(H:Hp)(Q:VK)(_E:XK):Prop
 |mk (J:JD) (ae) (s:hU) (gi):vs=[.ref J.a.jb,.int ae]->J.O t H->Pk (Wa H J.lb) J.la J.ld->DbA J.g J.lays J.ld J.db->(J.ld.map (·.1)).Nodup->(ae,s,gi)∈J.ld->(s.no.map (·.1)).Nodup->(∀r H' lb' la' db',Fr M1 H H' J.lb lb'->JD.O { J with lb:=lb',la:=la',db:=db',ld:=yH J.ld ae } t H'->Pk (Wa H' lb') la' (yH J.ld ae)->DbA J.g J.lays (yH J.ld ae) db'->Az H' lb' r s gi->Q (.ref r) H')->wz t vs H Q _E
def W0(t:uQ):Sp:=λb H Q _=>∃x a,b=[.ref x]/\H x=Y (.ins t.q07 a [])/\Q .non (upd H x (.ins t.q07 a [(br "times",.int 0)]))
inductive wA(t:uQ)(vs:LV)(H:Hp)(Q:VK)(_E:XK):Prop
 |mk (x l w dx dw n f wo:_) (g:zD):vs=[.ref x,.ref l,.int n,.ref w,.int f]->H x=Y (.ins t.q00 dx [])->gV H l g->g.length<=63->H w=Y wo->w≠x->(∀H' a lb,a.wy=w->a.dw=dw->(∀b o,b≠x->H b=Y o->H' b=Y o)->(∀b o,b≠x->b≠w->H b=Y o->lb b=0)->u7 t H' lb (AT t x a n f wo [] [] [] [] [] []) a.mks a.re g [] (AD []) [] []->Q .non H')->wA t vs H Q _E
inductive yR(t:uQ)(vs:LV)(H:Hp)(Q:VK)(_E:XK):Prop
 |mk (d dx:_) (a:AJ) (n f) (en:LV):vs=[.ref d]->H d=Y (.ins t.q00 dx (X9 a n f))->H a.en=Y (.lst en)->Q (.int (f+en.length)) H->yR t vs H Q _E
inductive kh(t:uQ)(vs:LV)(H:Hp)(Q:VK)(_E:XK):Prop
 |mk (d dx:_) (a:AJ) (n f) (cs:LV):vs=[.ref d]->H d=Y (.ins t.q00 dx (X9 a n f))->H a.cl=Y (.lst cs)->Q (.int (f+cs.length)) H->kh t vs H Q _E
def zh9(f:Int)(n:Nat)(S:DS):DS:={ S with ws:=S.ws++[f+n] }
inductive ZM(t:uQ)(vs:LV)(H:Hp)(Q:VK)(_E:XK):Prop
 |mk (d v:_) (a:AJ) (lb n f g) (CC:vy) (C) (S:DS):vs=[.ref d,v]->Ar H v C->Au t H d a lb n f g CC S->CC.length<=10->S.ws.length<=10->(∀H' lb',Fr M0 H H' lb lb'->Au t H' d a lb' n f g (CC++[C]) (zh9 f CC.length S)->Q (.int (f+CC.length)) H')->ZM t vs H Q _E
inductive Yr(t:uQ)(vs:LV)(H:Hp)(Q:VK)(_E:XK):Prop
 |mk (x l:_) (ws:ym):vs=[.ref x,.ref l]->H l=Y (.lst (ws.map V.int))->ws≠[]->(∀w∈ws,Q (.int w) H)->Yr t vs H Q _E
inductive ki(t:uQ)(vs:LV)(H:Hp)(Q:VK)(_E:XK):Prop
 |mk (x l:_) (ws:ym):vs=[.ref x,.ref l]->H l=Y (.lst (ws.map V.int))->ws≠[]->(∀w∈ws,Q (.int w) H)->ki t vs H Q _E
inductive kj(t:uQ)(vs:LV)(H:Hp)(Q:VK)(_E:XK):Prop
 |mk (x l dw:_) (ws:ym) (k:Nat):vs=[.ref x,.ref l]->H l=Y (.lst (ws.map V.int))->ws≠[]->H x=Y (.ins t.q07 dw [(br "times",.int k)])->(∀w∈ws,Q (.int w) (upd H x (.ins t.q07 dw [(br "times",.int (k+1:Nat))])))->kj t vs H Q _E
inductive vI(t:uQ)(vs:LV)(H:Hp)(Q:VK)(_E:XK):Prop
 |mk (d:_) (a:AJ) (lb n f h g CC) (S:DS):vs=[.ref d,.int h]->Au t H d a lb n f g CC S->uS n f g CC S->h ∉ S.hl.map (·.1)->S.ws≠[]->(∀v H' lb' r,Fr M0 H H' lb lb'->r∈S.ws->AM H' v (h,.take r)->Au t H' d a lb' n f g CC { S with ws:=S.ws.erase r,hl:=S.hl++[(h,r,0,mt)] }->Q v H')->vI t vs H Q _E
def mvP(t:uQ)(H:Hp)(d:af)(a:AJ)(k:AN_)(n f h:Int)(g:zD)(j:vy)(S:DS)(Q:VK):Prop:=∀v c b e i,Fr M0 H c k b->AM c v (h,e)->Mv f g j S h e i->Au t c d a b n f g j i->Q v c
inductive jG(t:uQ)(vs:LV)(H:Hp)(Q:VK)(_E:XK):Prop
 |mk (d:_) (a:AJ) (lb n f h g CC) (S:DS):vs=[.ref d,.int h]->Au t H d a lb n f g CC S->uS n f g CC S->h ∉ S.hl.map (·.1)->mvP t H d a lb n f h g CC S Q->jG t vs H Q _E
inductive vn(t:uQ)(vs:LV)(H:Hp)(Q:VK)(_E:XK):Prop
 |mk (d:_) (a:AJ) (lb n f h g CC) (S:DS):vs=[.ref d,.int h]->Au t H d a lb n f g CC S->uS n f g CC S->0<=h->h<n->mvP t H d a lb n f h g CC S Q->vn t vs H Q _E
inductive xQ(t:uQ)(vs:LV)(H:Hp)(Q:VK)(_E:XK):Prop
 |mk (d:_) (a:AJ) (lb n f g) (CC:vy) (S:DS) (J:List He->DS->Prop):vs=[.ref d]->Au t H d a lb n f g CC S->uS n f g CC S->1<=n->n<=8->J [] S->((∀es S h e S',J es S->uS n f g CC S->S.en<CC.length->h=(es.length:Int)%n->Mv f g CC S h e S'->J (es++[(h,e)]) S'))->(∀l xs es H' lb' S',Fr M0 H H' lb lb'->lb' l=0->H l=L->H' l=Y (.lst xs)->Bl (AM H') xs es->xs.length<=400000->J es S'->uS n f g CC S'->S'.en=CC.length->Au t H' d a lb' n f g CC S'->Q (.ref l) H')->xQ t vs H Q _E
inductive zld(H0 H:Hp)(r:af)(s:hU):Prop
 |mk (o nl gl out:_):H r=Y (.tup [o,.ref nl,.ref gl])->Js H o (zcV s)->gV H nl s.no->gV H gl out->k9 s out->H0 nl=L->H0 gl=L->zld H0 H r s
inductive zcX(t:uQ)(vs:LV)(H:Hp)(Q:VK)(_E:XK):Prop
 |mk (l tl xs C:_) (ah:zD):vs=[.ref l,.ref tl]->H l=Y (.lst xs)->Bl (Ac H) xs C->X5 C->gV H tl ah->ah.length<=500->(∀r∈ah,u3 r.2=U)->(∀r s H',aJ H H'->zjZ C ah s->zld H H' r s->Q (.ref r) H')->zcX t vs H Q _E
inductive YL(vs:LV)(H:Hp)(Q:VK)(_E:XK):Prop
 |mk (a b tab gifts:_):vs=[.ref a,.ref b]->gV H a tab->gV H b gifts->(uU (tab++gifts)).length<=900->(tab++gifts).length<=1000->(∀l out H',aJ H H'->H l=L->gV H' l out->wD (tab++gifts) out->Q (.ref l) H')->YL vs H Q _E
def S0:DS:={[],[],[],[],0,[]}
def zbN(f:PlI)(a:zD):Prop:=Ae a/\∀p w,(p,w)∈a↔f p=w/\w≠0
def zcY(g:zD)(a:Aj):Prop:=g.length+(a.map λy=>y.2.length).sum<=400
inductive jH(t:uQ)(vs:LV)(H:Hp)(Q:VK)(_E:XK):Prop
 |mk (m ae F g lays:_):vs=[.ref m,.int ae]->Al t H m F g lays->0<=ae->zcY g lays->(∀l ah H',aJ H H'->H l=L->gV H' l ah->zbN (λp=>yg g lays p ae) ah->Q (.ref l) H')->jH t vs H Q _E
inductive PpC(H0 H:Hp)(v:V)(e:hU×zD):Prop
 |mk (r o nl gl:_):v=.ref r->H r=Y (.tup [o,.ref nl,.ref gl])->Js H o (zcV e.1)->gV H nl e.1.no->gV H gl e.2->H0 nl=L->H0 gl=L->PpC H0 H v e
inductive wt(t:uQ)(vs:LV)(H:Hp)(Q:VK)(_E:XK):Prop
 |mk (d:_) (a:AJ) (lb n f g CC) (S:DS):vs=[.ref d]->Au t H d a lb n f g CC S->S.en<=8->(∀l xs H',aJ H H'->H l=L->H' l=Y (.lst xs)->Bl (PpC H H') xs S.es->Q (.ref l) H')->wt t vs H Q _E
inductive xY(t:uQ)(vs:LV)(H:Hp)(Q:VK)(_E:XK):Prop
 |mk (d:_) (a:AJ) (lb n f g CC) (S:DS):vs=[.ref d]->Au t H d a lb n f g CC S->0<=f->zcY g S.ls->(∀l ah H',aJ H H'->H l=L->gV H' l ah->zbN (λp=>yg g S.ls p (f+S.en)) ah->Q (.ref l) H')->xY t vs H Q _E
def fsW(k:Int):Int:=if k/24%2=0 then 0 else k/48*1000000007^(3:Int).toNat%(10^(29:Int).toNat-300)
def kH:Sp:=λa H Q _=>∃k:Int,a=[.int k]/\Cb k/\Q (.int (fsW k)) H
inductive qG(t:uQ)(vs:LV)(H:Hp)(Q:VK)(_E:XK):Prop
 |mk (tl n k:_) (g:zD):vs=[.ref tl,.int n,.int k]->gV H tl g->g.length<=5->Cb k->(∀d a lb H',aJ H H'->(∀b o,H b=Y o->lb b=0)->Au t H' d a lb n (fsW k) g [] S0->Q (.ref d) H')->qG t vs H Q _E
inductive vQ(K:bL)(vs:LV)(H:Hp)(Q:VK)(_E:XK):Prop
 |mk (s a b:_) (ns:ym) (us ws:yu):vs=[.ref s,.ref a,.ref b]->aO K H s (ns.map V.int)->ns.length<=63->(∀i∈ns,Cb i)->aT H a us->us.length=2->aT H b ws->ws.length=2->(∀l vs CC H',aJ H H'->H' l=Y (.lst vs)->Bl (Ar H') vs CC->X8 CC->Q (.ref l) H')->vQ K vs H Q _E
structure Due(CC:vy)(tab:zD)(ps:LRG)(ts:List zD):Prop where
 lp:ps.length=CC.length
 lt:ts.length=CC.length+1
 t0:ts[0]?=Y tab
 st:∀(k:Nat) C ah e out,CC[k]?=Y C->ts[k]?=Y ah->ps[k]?=Y e->ts[k+1]?=Y out->zjZ C ah e.1/\k9 e.1 e.2/\wD (ah++e.2) out
inductive LsR(H:Hp)(v:V)(ah:zD):Prop
 |mk (l:_):v=.ref l->gV H l ah->LsR H v ah
def PpR(H:Hp)(v:V)(e:hU×zD):Prop:=PpC (λ_=>L) H v e
structure zgO(H:Hp)(dv:af)(ps:LRG)(ts:List zD):Prop where
 ex:∃pl tl xs ys,H dv=Y (.tup [.ref pl,.ref tl])/\H pl=Y (.lst xs)/\Bl (PpR H) xs ps/\H tl=Y (.lst ys)/\Bl (LsR H) ys ts
inductive ZN(t:uQ)(vs:LV)(H:Hp)(Q:VK)(_E:XK):Prop
 |mk (cl tl vs' CC:_) (tab:zD):vs=[.ref cl,.ref tl]->H cl=Y (.lst vs')->Bl (Ar H) vs' CC->X8 CC->gV H tl tab->tab.length<=5->Ae tab->(∀r∈tab,u3 r.2=U)->(∀dv ps ts H',aJ H H'->zgO H' dv ps ts->Due CC tab ps ts->Q (.ref dv) H')->ZN t vs H Q _E
def FdI(C:Aw)(s:hU):Prop:=∃j,∀a:PlI,(∀y∈s.no,a y.1=y.2)->s=Ju C a j mt
def lsE(f:Int):LRG->Aj
 |[]=>[]
 |e::es=>(f,e.2)::lsE (f+1) es
structure StI(f:Int)(g:zD)(CC:vy)(S:DS):Prop where
 le:S.es.length=S.en
 rn:∀e∈S.hl,∀C,CC[(e.2.1-f).toNat]?=Y C->FdI C e.2.2.2
 rl:∀e∈S.ld,∀C,CC[(e.1-f).toNat]?=Y C->FdI C e.2.1/\yy C e.2.1=U/\k9 e.2.1 e.2.2
 rs:∀(k:Nat) e C,S.es[k]?=Y e->CC[k]?=Y C->FdI C e.1/\yy C e.1=U/\k9 e.1 e.2/\Agr g (lsE f (S.es.take k)) (f+k) e.1.no
 ly:∀y,y.1<f+S.en->(y∈S.ls↔y∈lsE f S.es)
 ll:∀e∈S.ld,(e.1,e.2.2)∈S.ls
 nd:(S.ls.map (·.1)).Nodup
 z0:∀y∈S.ls,0<=y.1
 lg:∀y∈S.ls,y.2.length<=48
structure DK where
 a:AJ
 lb:AN_
 CC:vy
 S:DS
structure DkA(t:uQ)(H:Hp)(g:zD)(d:af)(n f:Int)(X:DK):Prop where
 k:Au t H d X.a X.lb n f g X.CC X.S
 o:uS n f g X.CC X.S
 s:StI f g X.CC X.S
structure Ah(t:uQ)(H0 H:Hp)(g:zD)(CA:vy)(ps:LRG)(ts:List zD)(d dv:af)(n f:Int)(X:DK):Prop where
 dk:DkA t H g d n f X
 l5:g.length<=5
 du:zgO H0 dv ps ts
 dd:Due CA g ps ts
 tg:wD g g
 cA:X8 CA
 cc:∃m,X.CC=CA.take m/\m<=CA.length
 sm:∀b o,H0 b=Y o->H b=Y o/\X.lb b=0
inductive xZ(t:uQ)(vs:LV)(H:Hp)(Q:VK)(_E:XK):Prop
 |mk (d dv n f tu g CA ps ts X H0:_):vs=[.ref d,.int f,.ref dv,.bl tu]->Ah t H0 H g CA ps ts d dv n f X->(∀H',aJ H H'->Q (.bl U) H')->xZ t vs H Q _E
structure Up1(t:uQ)(g:zD)(d:af)(n f:Int)(H:Hp)(X:DK)(CC':vy)(H':Hp)(X':DK):Prop where
 k:DkA t H' g d n f X'
 ts:∀b zs,H b=Y (.tup zs)->H' b=Y (.tup zs)
 kp:∀b o,X.lb b=0->H b=Y o->H' b=Y o/\X'.lb b=0
 cc:X'.CC=CC'
inductive v5(t:uQ)(vs:LV)(H:Hp)(Q:VK)(_E:XK):Prop
 |mk (d v n f g:_) (C:Aw) (X:DK):vs=[.ref d,v]->DkA t H g d n f X->Ar H v C->((∀c,v=.ref c->X.lb c=0))->((X5 C/\C.length<=48))->X.CC.length<8->(∀H' X',Up1 t g d n f H X (X.CC++[C]) H' X'->Q (.bl U) H')->v5 t vs H Q _E
structure LwC(K:bL)(H0:Hp)(s:af)(ns:ym)(CA:vy):Prop where
 hS:aO K H0 s (ns.map V.int)
 hn:ns.length<=63
 hb:∀i∈ns,Cb i
 cc:X8 CA
inductive vR(K:bL)(t:uQ)(vs:LV)(H:Hp)(Q:VK)(_E:XK):Prop
 |mk (d cl s dv n f g:_) (CA:vy) (m:Nat) (ps ts) (X:DK) (ns ws H0):vs=[.ref d,.ref cl,.ref s,.int n,.int f,.ref dv]->LwC K H0 s ns CA->Ah t H0 H g CA ps ts d dv n f X->X.CC=[]->1<=n->n<=8->m<=CA.length->H0 cl=Y (.lst ws)->Bl (Ar H0) ws (CA.take m)->(∀H' X' k,k<=m->Ah t H0 H' g CA ps ts d dv n f X'->X'.CC=CA.take k->X'.S.en=k->Q (.bl U) H')->vR K t vs H Q _E
inductive sp_law(K:bL)(vs:LV)(H:Hp)(Q:VK)(_E:XK):Prop
 |mk (a:_) (ns:ym):vs=[.ref a]->aO K H a (ns.map V.int)->ns.length<=63->(∀i∈ns,Cb i)->(∀H',Q (.bl U) H')->sp_law K vs H Q _E
section
variable(K:bL)(t:uQ)
def jI(K:bL)(t:uQ):TS:=zL (xc (QB (yK (aN rEq (aN ad (aN aE (zk 0) (tC (.int 900))) (tC (.int 3))) (tC (.int 0)))) (yK (aN aH (An (Zh K) (zj (zk 3) zy)) (tC (.int 6))))) (yJ (kO (zj (zk 3) (zj (zV xK [] E0 (zj (aN zdq (zk 3) (zk 5)) zy)) zy))))
   yU) (zL (xc (QB (yK (aN rEq (aN ad (aN aE (zk 0) (tC (.int 900))) (tC (.int 3))) (tC (.int 1)))) (yK (aN aH (An (Zh K) (zj (zk 3) zy)) (tC (.int 6))))) (yJ (kO (zj (zV xK [] E0 (zj (aN zdq (zk 5) (zk 3)) zy)) (zj (zk 3) zy))))
   yU) (yJ (kO (zj (zk 3) (zj (zV xK [] E0 (zj (aN zdq (aN zdq (tSl zjx (zk 3) vN (wC (zk 4))) (zk 5)) (tSl zjx (zk 3) (wC (aN aD (zk 4) (tC (.int 1)))) vN)) zy)) zy)))))
def ZO:TS:=zL (yF (aN ad (aN aE (zk 0) (tC (.int 6))) (An (Zh K) (zj (zk 3) zy))) (zM 4)) (zL (yF (aN zfr (zk 1) (aN ad (aN aD (aN aD (tBM K "str" KZ (zk 1) (zj (aN zfr (zk 3) (zk 4)) zy)) (tC (.int 1))) (aN ad (aN aE (zk 0) (tC (.int 36))) (tC (.int 25)))) (tC (.int 26)))) (zM 5)) (jI K t))
def Jx:TS:=zL (yF (zV xK [] E0 (zj (zk 2) zy)) (zM 3)) (ZO K t)
def Xr:TS:=zL (yF (tC (.str "abcdefghijklmnopqrstuvwxyz")) (zM 1)) (zL (yF (tBM K "str" (K3 K) (tC (.str "")) (zj (kR (vf K (zV wG [] E0 (zj (zk 0) (zj (aN aD (tC (.int 1)) (aN ad (zk 0) (tC (.int 6)))) zy)))) (zM 0) J2 (aN zfr (zk 1) (aN ad (zk 0) (tC (.int 26)))) 1 [1]) zy)) (zM 2)) (Jx K t))
def Wb(K:bL)(t:uQ)(n:Nat):TS:=yJ (aN J1 (kO (zj (wQ (zj (tC (.str "skip")) (zj (aN (xR K) (zk 0) (tC (.int 1))) (zj (zk 3) zy)))) zy)) (zk 2))
def Wc(K:bL)(t:uQ)(n:Nat):TS:=zL (yF (zV (vZ  n) [] E0 (zj (aN (xR K) (zk 0) (tC (.int 3))) (zj (aN aD (zk 3) (tC (.int 1))) zy))) (zM 4)) (yJ (aN J1 (aN J1 (aN J1 (kO (zj (wQ (zj (tC (.str "skip")) (zj (aN (xR K) (zk 0) (tC (.int 1))) (zj (aN aD (zk 3) (tC (.int 1))) zy)))) zy)) (zk 2)) (kO (zj (wQ (zj (tC (.str "go")) (zj (aN aD (aN aD (zk 3) (tC (.int 1))) (An (Zh K) (zj (zk 4) zy))) zy))) zy))) (zk 4)))
def qc(n:Nat):TS:=zL (xc (yK (aN (zfN K) (aN (xR K) (zk 0) (tC (.int 3))) (kO zy))) (Wb K t n)
   yU) (Wc K t n)
def ZP(n:Nat):TS:=zL (yF (zV (vZ  n) [] E0 (zj (aN (xR K) (zk 0) (tC (.int 2))) (zj (aN aD (zk 1) (tC (.int 1))) zy))) (zM 2)) (zL (yF (aN aD (aN aD (zk 1) (tC (.int 1))) (An (Zh K) (zj (zk 2) zy))) (zM 3)) (qc K t n))
def WF(K:bL)(t:uQ)(n:Nat):TS:=zL (yF (kO zy) (zM 2)) (zL (Zm (vf K (zk 0)) (zM 3) (xc (yK (aN rEq (aN (xR K) (zk 3) (tC (.int 0))) (tC (.str "if")))) (yV (tBM K "list" zbB (zk 2) (zj (zV (ZG  n) [] E0 (zj (zk 3) (zj (aN aD (zk 1) (An (Zh K) (zj (zk 2) zy))) zy))) zy))) (yV (tBM K "list" yL (zk 2) (zj (zk 3) zy))))) (yJ (zk 2)))
def Kf(K:bL)(t:uQ):TS:=zL (xc (yK (aN aH (zk 3) (tC (.int 4)))) (yJ (wQ (zj (tC (.str "take")) (zj (zk 4) (zj (zk 6) (zj (zk 5) zy))))))
   yU) (zL (xc (yK (aN aH (zk 3) (tC (.int 7)))) (yJ (wQ (zj (tC (.str "give")) (zj (zk 4) (zj (zk 6) (zj (zk 7) zy))))))
   yU) (zL (xc (yK (aN rEq (zk 3) (tC (.int 7)))) (yJ (wQ (zj (tC (.str "let")) (zj (zk 5) (zj (zk 7) zy)))))
   yU) (zL (xc (yK (aN rEq (zk 3) (tC (.int 8)))) (yJ (wQ (zj (tC (.str "say")) (zj (zk 7) zy))))
   yU) (yJ (wQ (zj (tC (.str "off")) (zj (wQ (zj (zk 5) (zj (aN aD (aN ad (aN (jO K) (zk 0) (tC (.int 1))) (tC (.int 3))) (tC (.int 1))) (zj (tC (.str "same")) zy)))) zy)))))))
def jJ(K:bL)(t:uQ):TS:=zL (xc (yK (aN rEq (aN ad (aN aE (zk 0) (tC (.int 7))) (tC (.int 3))) (tC (.int 0)))) (zL (yF (aN ad (aN (jO K) (zk 3) (tC (.int 18))) (aN aD (An (Zh K) (zj (zk 4) zy)) (tC (.int 1)))) (zM 5)) (zL (yF (aN aD (zk 5) (aN ad (aN (jO K) (zk 3) (tC (.int 21))) (aN aF (aN aD (An (Zh K) (zj (zk 4) zy)) (tC (.int 1))) (zk 5)))) (zM 6)) (zL (yF (wQ (zj (tC (.str "if")) (zj (zV qD [] E0 (zj (aN (jO K) (zk 3) (tC (.int 19))) (zj (zk 2) zy))) (zj (tSl (YD K) (zk 4) (wC (zk 5)) (wC (zk 6))) (zj (tSl (YD K) (zk 4) vN (wC (aN ad (aN (jO K) (zk 3) (tC (.int 20))) (tC (.int 3))))) zy))))) (zM 7)) (yF (aN J1 (aN J1 (tSl (YD K) (zk 4) vN (wC (zk 5))) (kO (zj (zk 7) zy))) (tSl (YD K) (zk 4) (wC (zk 6)) vN)) (zM 4)))))
   yU) (yJ (zk 4))
def Xs:TS:=zL (yF (zV wG [] E0 (zj (zk 0) (zj (tC (.int 22)) zy))) (zM 3)) (zL (yF (kR (zfg (zj (aN ad (zk 0) (tC (.int 7))) zy)) (zM 0) J2 (zV v3 [] E0 (zj (tSl (YD K) (zk 1) (wC (aN aG (tC (.int 3)) (zk 0))) (wC (aN aD (aN aG (tC (.int 3)) (zk 0)) (tC (.int 3))))) (zj (zk 2) (zj (zk 3) zy)))) 1 [3,1,2]) (zM 4)) (jJ K t))
def W1(K:bL)(t:uQ):TS:=yJ (zk 3)
def qS:TS:=zL (xc (yK (aN rEq (zk 4) (tC (.int 5)))) (zL (yF (zV wG [] E0 (zj (aN aD (zV (ye K) [] E0 (zj (zk 0) (zj (tC (.int 3)) zy))) (tC (.int 2))) (zj (tC (.int 120)) zy))) (zM 5)) (yV (tBM K "list" yL (zk 3) (zj (kR (zfg (zj (tC (.int 40)) zy)) (zM 0) J2 (zV v3 [] E0 (zj (tSl (YD K) (zk 1) (wC (aN aG (tC (.int 3)) (zk 0))) (wC (aN aD (aN aG (tC (.int 3)) (zk 0)) (tC (.int 3))))) (zj (zk 2) (zj (zk 3) zy)))) 1 [5,1,2]) zy))))
   yU) (W1 K t)
def qT:TS:=zL (xc (yK (aN rEq (zk 4) (tC (.int 3)))) (zL (yF (zV wG [] E0 (zj (aN aD (zV (ye K) [] E0 (zj (zk 0) (zj (tC (.int 3)) zy))) (tC (.int 1))) (zj (tC (.int 3)) zy))) (zM 5)) (yF (aN J1 (zk 3) (kR (vf K (zk 5)) (zM 0) J2 (zV vG [] E0 (zj (zV xU [] E0 (zj (aN aD (aN aG (tC (.int 7)) (zk 0)) (aN ad (zk 0) (tC (.int 4)))) (zj (zk 1) (zj (zk 2) zy)))) zy)) 1 [1,2])) (zM 3)))
   yU) (qS K t)
def W4:TS:=zL (yF (aN ad (aN aE (zV (ye K) [] E0 (zj (zk 0) (zj (tC (.int 2)) zy))) (tC (.int 7))) (tC (.int 8))) (zM 4)) (qT K t)
def kI:TS:=zL (yF (kR (vf K (tSl (YD K) (zk 0) (wC (tC (.int 3))) (wC (tC (.int 8))))) (zM 0) J2 (zV vG [] E0 (zj (zV xU [] E0 (zj (zk 0) (zj (zk 1) (zj (zk 2) zy)))) zy)) 1 [1,2]) (zM 3)) (W4 K t)
def ZQ(K:bL)(t:uQ):TS:=zL (vc K (zk 0) (An (QH K) (zj (zk 1) zy)) "code") (zL (vc K (zk 0) (tC (.int 0)) "at") (zL (vc K (zk 0) (tC .non) "why") (zL (vc K (zk 0) XT "slots") (zL (vc K (zk 0) VF "gifts") (zL (vc K (zk 0) VF "notes") (vc K (zk 0) (kO zy) "sayings"))))))
def ZR(K:bL)(t:uQ):TS:=zL (xc (tOr (Yk (tB (An (Yl K) (zj (zk 0) (zj (tC (.ty "int")) zy))))) (tB (An (Yl K) (zj (zk 0) (zj (tC (.ty "bool")) zy))))) (yJ (tC (.bl am)))
   yU) (yJ (QF (rI0 λi j=>.bl (decide (i<=j))) (rI0 λi j=>.bl (decide (i<=j))) (tUn (rU λi=>.int (-i)) (aN (rI zhu λi j=>.int (i^j.toNat)) (tC (.int 10)) (tC (.int 30)))) (zk 0) (aN (rI zhu λi j=>.int (i^j.toNat)) (tC (.int 10)) (tC (.int 30)))))
def Kg(E:XK):TS:=zL (yF (zen K "list" VQ (zk 2)) (zM 4)) (zL (yF (zen K "list" VQ (zk 2)) (zM 5)) (yV (tBM K "list" yL (zk 2) (zj (zV (X4 t) [] E (zj (zk 3) (zj (zk 5) (zj (zk 4) zy)))) zy))))
def Kh(K:bL)(t:uQ)(E:XK):TS:=yV (tBM K "list" yL (zk 2) (zj (tIf (tB (An (Yl K) (zj (zk 3) (zj (tC (.ty "str")) zy)))) (VG (zk 1) (zk 3) (tC (.int 0))) (zk 3)) zy))
def Ki(E:XK):TS:=xc (yK (aN (rIn K am) (zk 3) (tC (.ref t.q0v)))) (Kg K t E) (Kh K t E)
def WG(E:XK):TS:=zL (yF (kO zy) (zM 2)) (zL (Zm (zkA K (zk 0)) (zM 3) (Ki K t E)) (yJ (zen K "list" VQ (zk 2))))
def Kj(K:bL)(t:uQ):TS:=zL (xc (tOr (yK (aN (zhR am) (zk 1) (xg K (zk 0) "gifts"))) (yK (aN (zhR am) (zk 1) (xg K (zk 0) "notes")))) (yJ (tC .non))
   yU) (yJ (zk 1))
def Kk:TS:=zL (zi1 K (ziS (zcI t.q01 "place_in" (xG t) (zk 0) (zj (aN (jO K) (xg K (zk 0) "code") (xg K (zk 0) "at")) zy)) 1) t.q0a t.q08 (yJ (tC .non))) (Kj K t)
def WH:TS:=zL (xc (tOr (tB (yo t.q01 "over" (j8 t) [] E0 (zk 0) zy)) (yK (aN rNe (aN (xR K) (aN (jO K) (xg K (zk 0) "code") (xg K (zk 0) "at")) (tC (.int 0))) (tC (.str "take"))))) (yJ (tC .non))
   yU) (Kk K t)
def Kl(E:XK):TS:=YZ (xg K (zk 0) "slots") (aN (xR K) (zk 1) (tC (.int 1))) (yo t.q01 "worth_of" (xF t) [] E (zk 0) (zj (aN (xR K) (zk 1) (tC (.int 2))) zy))
def Ys(E:XK):TS:=yV (tBM K "list" yL (xg K (zk 0) "sayings") (zj (yo t.q01 "worth_of" (xF t) [] E (zk 0) (zj (aN (xR K) (zk 1) (tC (.int 1))) zy)) zy))
def Km(E:XK):TS:=zL (yF (yo t.q01 "place_in" (xG t) [] E (zk 0) (zj (zk 1) zy)) (zM 3)) (YZ (xg K (zk 0) "gifts") (zk 3) (yo t.q01 "worth_of" (xF t) [] E (zk 0) (zj (aN (xR K) (zk 1) (tC (.int 3))) zy)))
def Kn(E:XK):TS:=YZ (xg K (zk 0) "slots") (aN (xR K) (zk 1) (tC (.int 3))) (yo t.q01 "taken" (qB t) [] E (zk 0) (zj (yo t.q01 "place_in" (xG t) [] E (zk 0) (zj (zk 1) zy)) (zj (zk 2) zy)))
def WI(E:XK):TS:=xc (yK (aN rEq (aN (xR K) (zk 1) (tC (.int 0))) (tC (.str "take")))) (Kn K t E) (xc (yK (aN rEq (aN (xR K) (zk 1) (tC (.int 0))) (tC (.str "give")))) (Km K t E) (xc (yK (aN rEq (aN (xR K) (zk 1) (tC (.int 0))) (tC (.str "let")))) (Kl K t E) (Ys K t E)))
def WJ:TS:=zL (xc (tB (yo t.q01 "over" (j8 t) [] E0 (zk 0) zy))
   ziM
   yU) (zgo K (zi0 K (zk 0) (zcI t.q01 "led_by" (kE t) (zk 0) (zj (aN (jO K) (xg K (zk 0) "code") (xg K (zk 0) "at")) (zj (zk 1) zy))) "at") t.q0a (vc K (zk 0) (tC (.str "great")) "why") t.q08 (vc K (zk 0) (tC (.str "nought")) "why"))
def Ko:TS:=zL (Zm (vf K (zk 0)) (zM 4) (zL (yF (zV (zcX t) [] E0 (zj (zk 4) (zj (aN (jO K) (zk 3) (tUn (rU λi=>.int (-i)) (tC (.int 1)))) zy))) (zM 5)) (zL (yV (tBM K "list" yL (zk 2) (zj (zk 5) zy))) (yV (tBM K "list" yL (zk 3) (zj (zV YL [] E0 (zj (aN (jO K) (zk 3) (tUn (rU λi=>.int (-i)) (tC (.int 1)))) (zj (aN (xR K) (zk 5) (tC (.int 2))) zy))) zy)))))) (yJ (wQ (zj (zk 2) (zj (zk 3) zy))))
def kJ(K:bL)(t:uQ):TS:=zL (vc K (zk 0) (An zgn (zj (zk 1) zy)) "ground") (zL (vc K (zk 0) (tC (.int 0)) "folded") (zL (vc K (zk 0) XT "worths") (vc K (zk 0) VF "ranks")))
def qH(K:bL)(t:uQ):TS:=zL (vc K (zk 0) (zk 1) "makes") (zL (vc K (zk 0) XT "laid") (zL (vc K (zk 0) VF "readers") (vc K (zk 0) XT "doubted")))
def qI:TS:=zL (vc K (zk 0) (zk 2) "hands") (zL (vc K (zk 0) (zk 3) "way") (zL (vc K (zk 0) (zk 4) "first") (zL (vc K (zk 0) (kO zy) "codes") (zL (vc K (zk 0) (kO zy) "waiting") (zL (vc K (zk 0) XT "held") (zL (vc K (zk 0) (Wn t.q02 (vP t) [] E0 (zj (zk 1) zy)) "makes") (zL (vc K (zk 0) (Wn t.q03 (qF t) [] E0 (zj (xg K (zk 0) "makes") zy)) "jobs") (vc K (zk 0) (kO zy) "ended"))))))))
def qU(K:bL)(t:uQ):TS:=vc K (zk 0) (tC (.int 0)) "times"
def Jy(K:bL)(t:uQ):TS:=zL (xc (yK (aN rEq (aN ad (aN aE (zk 2) (tC (.int 24))) (tC (.int 2))) (tC (.int 0)))) (yJ (Wn t.q00 (wA t) [.int 0] E0 (zj (zk 0) (zj (zk 1) (zj (zk 3) zy)))))
   yU) (yJ (Wn t.q00 (wA t) [] E0 (zj (zk 0) (zj (zk 1) (zj (zk 3) (zj (zV kH [] E0 (zj (zk 2) zy)) zy))))))
def Kq:TS:=zL (yV (yo t.q02 "heed_fold" (xV t) [] E0 (zk 0) (zj (zk 2) zy))) (zL (yF (VG (xg K (zk 0) "ranks") (zk 1) (kO zy)) (zM 3)) (zL (yF (zV wH [] E0 (zj (zk 3) (zj (zk 2) zy))) (zM 4)) (zL (xc (yK (aN rEq (zk 4) (tC (.int 0)))) (yJ (VG (xg K (zk 0) "ground") (zk 1) (tC (.int 0))))
   yU) (yJ (zaV (zaV (xg K (zk 0) "worths") (aN (jO K) (zk 3) (aN aF (zk 4) (tC (.int 1))))) (zk 1))))))
def v6:TS:=zL (Zm (vf K (aN (xR K) (zaV (xg K (zk 0) "laid") (zk 1)) (tC (.int 1)))) (zfd K 2 (YW (zM 2) (YW (zM 3) zfb))) (zL (yF (yo t.q02 "seen" (wI t) [] E0 (xg K (zk 0) "makes") (zj (zk 2) (zj (zk 1) zy))) (zM 4)) (xc (yK (aN rNe (zk 4) (zk 3))) (yJ (wQ (zj (zk 2) (zj (zk 3) (zj (zk 4) zy)))))
    yU))) (yJ (tC .non))
def vo:TS:=zL (yF (An zi2 (zj (xg K (zk 0) "doubted") zy)) (zM 1)) (zL (Zm (vf K (zk 1)) (zM 2) (zL (yF (yo t.q03 "changed_note" (wq t) [] E0 (zk 0) (zj (zk 2) zy)) (zM 3)) (zL (xc (yK (aN zkL (zk 3) (tC .non))) (yJ (aN (zfq K) (wQ (zj (zk 2) zy)) (zk 3)))
   yU) (yV (zct (xg K (zk 0) "doubted") (zk 2)))))) (yJ (tC .non)))
def ko(K:bL)(t:uQ):TS:=zL (yF (aN ad (xg K (zk 0) "times") (An (Zh K) (zj (zk 1) zy))) (zM 2)) (zL (zdi K (zk 0) (tC (.int 1)) zkF "times") (yJ (aN (jO K) (zk 1) (zk 2))))
def YM:TS:=zL (yV (tBM K "list" Ws (xg K (zk 0) "waiting") (zj (zk 2) zy))) (zL (YZ (xg K (zk 0) "held") (zk 1) (wQ (zj (zk 2) (zj (Wn t.q01 (ZH t) [] E0 (zj (aN (jO K) (xg K (zk 0) "codes") (aN aF (zk 2) (xg K (zk 0) "first"))) zy)) zy)))) (yJ (wQ (zj (tC (.str "take")) (zj (zk 1) (zj (zk 2) zy))))))
def ZS:TS:=zL (yV (yo t.q03 "take_off" (wz t) [] E0 (xg K (zk 0) "jobs") (zj (aN (xR K) (zk 3) (tC (.int 0))) zy))) (zL (yV (tBM K "list" Wr (xg K (zk 0) "waiting") (zj (zV wH [] E0 (zj (xg K (zk 0) "waiting") (zj (aN (xR K) (zk 3) (tC (.int 0))) zy))) (zj (aN (xR K) (zk 3) (tC (.int 0))) zy)))) (yJ (aN (zfq K) (wQ (zj (tC (.str "again")) (zj (zk 1) zy))) (zk 3))))
def ZU:TS:=zL (yV (tBM K "list" yL (xg K (zk 0) "ended") (zj (yo t.q03 "take_off" (wz t) [] E0 (xg K (zk 0) "jobs") (zj (zk 2) zy)) zy))) (yJ (wQ (zj (tC (.str "settle")) (zj (zk 1) (zj (zk 2) zy)))))
def ZV:TS:=zL (xc (yK (aN (zcN K) (xg K (zk 0) "waiting") (kO zy))) (yJ (yo t.q00 "taken_up" (vI t) [] E0 (zk 0) (zj (zk 1) zy)))
   yU) (yJ (wQ (zj (tC (.str "rest")) (zj (zk 1) zy))))
def ZW(K:bL)(t:uQ):TS:=Zm (vf K (zk 2)) (zM 3) (yV (zV jn [] E0 (zj (xg K (zk 0) "ranks") (zj (zk 3) (zj (zk 1) zy)))))
def ZX(K:bL)(t:uQ):TS:=YZ (xg K (zk 0) "worths") (zk 1) (zk 3)
def ZY:TS:=zL (zk5 (Zm (iDT (zk 3)) (zM 4) (yV (zV kg [] E0 (zj (xg K (zk 0) "ranks") (zj (zk 4) (zj (zk 1) zy))))))) (ZX K t)
def zaj:TS:=zL (yV (yo t.q02 "heed_fold" (xV t) [] E0 (zk 0) (zj (zk 1) zy))) (zL (yV (yo t.q02 "take_away" (wU t) [] E0 (zk 0) (zj (zk 1) zy))) (zL (yF (An zgn (zj (zk 2) zy)) (zM 3)) (ZY K t)))
def W5(K:bL)(t:uQ):TS:=Zm (vf K (tSl (YD K) (zk 3) (wC (zV wH [] E0 (zj (zk 3) (zj (aN aD (zk 2) (tC (.int 1))) zy)))) (wC (zk 5)))) (zM 6) (YZ (xg K (zk 0) "doubted") (zk 6) (tC (.bl U)))
def qd:TS:=zL (yF (yo t.q02 "places_of" (xW t) [] E0 (xg K (zk 0) "makes") (zj (zk 1) zy)) (zM 3)) (zL (yV (yo t.q02 "lay" (qE t) [] E0 (xg K (zk 0) "makes") (zj (zk 1) (zj (aN (xR K) (zk 2) (tC (.int 2))) zy)))) (zL (Zm (vf K (aN J1 (zk 3) (yo t.q02 "places_of" (xW t) [] E0 (xg K (zk 0) "makes") (zj (zk 1) zy)))) (zM 4) (yV (yo t.q03 "doubt" (kG t) [] E0 (zk 0) (zj (zk 4) (zj (zk 1) zy))))) (zL (YZ (xg K (zk 0) "laid") (zk 1) (zk 2)) (zL (YZ (xg K (zk 0) "doubted") (zk 1) (tC (.bl U))) (Zm (vf K (aN (xR K) (zk 2) (tC (.int 1)))) (zfd K 2 (YW (zM 4) (YW (zM 5) zfb))) (yV (zV kg [] E0 (zj (xg K (zk 0) "readers") (zj (zk 4) (zj (zk 1) zy))))))))))
def Jz:TS:=zL (yV (zct (xg K (zk 0) "held") (zk 1))) (zL (yV (yo t.q03 "lay_down" (vH t) [] E0 (xg K (zk 0) "jobs") (zj (zk 2) (zj (yo t.q01 "paper" (qC t) [] E0 (zk 3) zy) zy)))) (yJ (wQ (zj (tC (.str "lay")) (zj (zk 1) (zj (zk 2) zy))))))
def JA:TS:=zL (yF (yo t.q01 "asks" (kc t) [] E0 (zk 3) zy) (zM 4)) (zL (xc (yK (aN zlu (zk 4) (tC .non))) (zL (yV (yo t.q01 "step" (j9 t) [.int 0] E0 (zk 3) zy)) (yJ (wQ (zj (tC (.str "step")) (zj (zk 1) (zj (zk 2) zy))))))
   yU) (zL (yF (yo t.q02 "seen" (wI t) [] E0 (xg K (zk 0) "makes") (zj (zk 4) (zj (zk 2) zy))) (zM 5)) (zL (yV (yo t.q01 "step" (j9 t) [] E0 (zk 3) (zj (zk 5) zy))) (yJ (wQ (zj (tC (.str "read")) (zj (zk 1) (zj (zk 2) (zj (zk 4) (zj (zk 5) zy))))))))))
def ZZ(K:bL)(t:uQ):TS:=yJ (kR (vf K (xg K (zk 0) "ended")) (zM 0) J2 (wQ (zj (aN (xR K) (zk 0) (tC (.int 0))) (zj (An (QH K) (zj (aN (xR K) (zk 0) (tC (.int 1))) zy)) (zj (An (QH K) (zj (aN (xR K) (zk 0) (tC (.int 2))) zy)) zy)))) 1 [])
def Z0:TS:=yJ (zV ZK [] E0 (zj (kR (vf K (zk 2)) (zM 0) J2 (wQ (zj (zk 0) (zj (yo t.q02 "seen" (wI t) [] E0 (zk 1) (zj (zk 0) (zj (zk 2) zy))) zy))) 1 [0,1]) zy))
def kK(K:bL)(t:uQ)(n:Nat):TS:=zL (xc (tOr (tB (An (Yl K) (zj (zk 1) (zj (tC (.ty "list")) zy)))) (tB (An (Yl K) (zj (zk 1) (zj (tC (.ty "tuple")) zy))))) (zL (xc (QB (Yk (tB (An (Yl K) (zj (zk 0) (zj (tC (.ty "list")) zy))))) (Yk (tB (An (Yl K) (zj (zk 0) (zj (tC (.ty "tuple")) zy)))))) (yJ (tC (.bl am)))
   yU) (zL (xc (tOr (yK (aN rNe (An (Yl K) (zj (zk 0) (zj (tC (.ty "list")) zy))) (An (Yl K) (zj (zk 1) (zj (tC (.ty "list")) zy))))) (yK (aN rNe (An (Zh K) (zj (zk 0) zy)) (An (Zh K) (zj (zk 1) zy))))) (yJ (tC (.bl am)))
   yU) (zL (Zm (ziZ K (zj (zk 0) (zj (zk 1) zy))) (zfd K 2 (YW (zM 2) (YW (zM 3) zfb))) (xc (Yk (tB (zV (xq  n) [] E0 (zj (zk 2) (zj (zk 3) zy))))) (yJ (tC (.bl am)))
   yU)) (yJ (tC (.bl U))))))
   yU) (zL (xc (tB (An (Yl K) (zj (zk 1) (zj (tC (.ty "str")) zy)))) (yJ (Vu (An (Yl K) (zj (zk 0) (zj (tC (.ty "str")) zy))) (aN rEq (zk 0) (zk 1))))
   yU) (yJ (Vu (An (Yl K) (zj (zk 0) (zj (tC (.ty "int")) zy))) (Vu (ziL (An (Yl K) (zj (zk 0) (zj (tC (.ty "bool")) zy)))) (aN rEq (zk 0) (zk 1))))))
def qV(K:bL)(t:uQ):TS:=zL (yV (zen K "list" V7 (zk 5))) (zL (yV (tBM K "list" yL (zk 6) (zj (wQ (zj (wQ (zj (tC (.str "z")) (zj (tC (.int 1)) zy))) (zj (tC (.int 1)) zy))) zy))) (yJ (tC (.bl U))))
def qW:TS:=zL (Zm (vf K (zk 5)) (zM 7) (zL (yV (tBM K "list" yL (aN (xR K) (zk 7) (tC (.int 1))) (zj (wQ (zj (wQ (zj (tC (.str "z")) (zj (tC (.int 1)) zy))) (zj (tC (.int 1)) zy))) zy))) (yV (zen K "list" V7 (aN (xR K) (zk 7) (tC (.int 2))))))) (qV K t)
def qX:TS:=zL (xc (tOr (Yk (tB (zV (xq  6) [] E0 (zj (zk 5) (zj (tSl (YD K) (aN (xR K) (zk 2) (tC (.int 0))) vN (wC (zk 4))) zy))))) (Yk (tB (zV (xq  6) [] E0 (zj (zk 6) (zj (aN (jO K) (aN (xR K) (zk 2) (tC (.int 1))) (zk 4)) zy)))))) (yJ (tC (.bl am)))
   yU) (qW K t)
def qY:TS:=zL (yF (yo t.q00 "papers" (wt t) [] E0 (zk 0) zy) (zM 5)) (zL (yF (yo t.q00 "table" (xY t) [] E0 (zk 0) zy) (zM 6)) (qX K t))
def qZ:TS:=zL (xc (QB (tB (zk 3)) (Yk (tB (zV (xq  6) [] E0 (zj (yo t.q00 "table" (xY t) [] E0 (zk 0) zy) (zj (aN (jO K) (aN (xR K) (zk 2) (tC (.int 1))) (zk 4)) zy)))))) (yJ (tC (.bl am)))
   yU) (qY K t)
def q8:TS:=zL (xc (Yk (yK (QF (rI0 λi j=>.bl (decide (i<=j))) aH (tC (.int 0)) (zk 4) (An (Zh K) (zj (aN (xR K) (zk 2) (tC (.int 1))) zy))))) (yJ (tC (.bl am)))
   yU) (qZ K t)
def Yt:TS:=zL (yF (aN aF (yo t.q00 "settled" (yR t) [] E0 (zk 0) zy) (zk 1)) (zM 4)) (q8 K t)
def q9:TS:=zL (yV (tBM K "list" yL (zk 7) (zj (yo t.q00 "table" (xY t) [] E0 (zk 0) zy) zy))) (yV (tBM K "list" yL (zk 8) (zj (An (QH K) (zj (aN (jO K) (aN (xR K) (zk 5) (tC (.int 1))) (aN aF (yo t.q00 "settled" (yR t) [] E0 (zk 0) zy) (zk 4))) zy)) zy)))
def ja:TS:=zL (xc (Yk (tB (zV (xZ t) [] E0 (zj (zk 0) (zj (zk 4) (zj (zk 5) (zj (aN rEq (aN ad (aN aE (zk 9) (tC (.int 168))) (tC (.int 2))) (tC (.int 0))) zy))))))) (yJ (tC (.bl am)))
   yU) (q9 K t)
def W6:TS:=xc (tOr (yK (aN rEq (aN (xR K) (zk 10) (tC (.int 0))) (tC (.str "settle")))) (yK (aN rEq (aN ad (aN aE (zk 9) (tC (.int 56))) (tC (.int 3))) (tC (.int 0))))) (ja K t)
   yU
def Za:TS:=zL (yF (yo t.q00 "move" (vn t) [] E0 (zk 0) (zj (aN ad (aN aE (zk 9) (tC (.int 7))) (zk 3)) zy)) (zM 10)) (W6 K t)
def Zb:TS:=zL (xc (QB (yK (aN aH (aN ad (zk 9) (tC (.int 7))) (tC (.int 2)))) (yK (aN aH (zk 6) (An (Zh K) (zj (zk 1) zy))))) (zL (xc (Yk (tB (zV (v5 t) [] E0 (zj (zk 0) (zj (aN (jO K) (zk 1) (zk 6)) zy))))) (yJ (tC (.bl am)))
   yU) (zkz 6 (tC (.int 1)) (ipI λi j=>i+j)))
   yU) (Za K t)
def Zc:TS:=yJ (Vu (zV (xq  6) [] E0 (zj (zk 7) (zj (zk 8) zy))) (Vu (zV (xq  6) [] E0 (zj (zk 13) (zj (tSl (YD K) (aN (xR K) (zk 5) (tC (.int 0))) vN (wC (zk 6))) zy))) (aN rEq (yo t.q00 "settled" (yR t) [] E0 (zk 0) zy) (aN aD (zk 4) (zk 6)))))
def Zd:TS:=zL (xc (tOr (yK (aN (zcN K) (yo t.q00 "finish" (xQ t) [] E0 (zk 0) zy) (kO zy))) (tOr (Yk (tB (zV (xZ t) [] E0 (zj (zk 0) (zj (zk 4) (zj (zk 5) (zj (aN rEq (aN ad (zk 6) (tC (.int 2))) (tC (.int 0))) zy))))))) (yK (aN (zjX K) (zk 11) (zk 12))))) (yJ (tC (.bl am)))
   yU) (Zc K t)
def W7:TS:=zL (yF (yo t.q00 "papers" (wt t) [] E0 (zk 0) zy) (zM 13)) (Zd K t)
def W8:TS:=zL (yF (An (QH K) (zj (zk 11) zy)) (zM 12)) (W7 K t)
def Ze:TS:=zL (yF (yo t.q00 "finish" (xQ t) [] E0 (zk 0) zy) (zM 11)) (W8 K t)
def Zf:TS:=zL (Zm (vf K (zk 2)) (zM 9) (Zb K t)) (Ze K t)
def Yu:TS:=zL (yF (aN aF (yo t.q00 "settled" (yR t) [] E0 (zk 0) zy) (zk 4)) (zM 6)) (zL (yF (kO (zj (yo t.q00 "table" (xY t) [] E0 (zk 0) zy) zy)) (zM 7)) (zL (yF (kO (zj (An (QH K) (zj (aN (jO K) (zk 7) (tC (.int 0))) zy)) zy)) (zM 8)) (Zf K t)))
def Qp:TS:=zL (yV (yo t.q00 "finish" (xQ t) [] E0 (zk 8) zy)) (yJ (Vu (zV (xZ t) [] E0 (zj (zk 8) (zj (zk 9) (zj (zk 5) (zj (tC (.bl am)) zy))))) (aN rEq (yo t.q00 "settled" (yR t) [] E0 (zk 8) zy) (aN aD (zk 9) (An (Zh K) (zj (zk 4) zy))))))
def Qq:TS:=zL (Zm (zkS K (zj (zk 0) zy)) (zM 12) (yV (yo t.q00 "move" (vn t) [] E0 (zk 8) (zj (aN ad (aN aE (zk 12) (tC (.int 5))) (zk 6)) zy)))) (Qp K t)
def Qr:TS:=zL (Zm (vf K (tSl (YD K) (zk 4) (wC (aN aF (yo t.q00 "settled" (yR t) [] E0 (zk 8) zy) (zk 9))) vN)) (zM 11) (xc (Yk (tB (zV (v5 t) [] E0 (zj (zk 8) (zj (zk 11) zy))))) (yJ (tC (.bl am)))
   yU)) (Qq K t)
def Qs:TS:=zL (xc (Yk (tB (zV (vR K t) [] E0 (zj (zk 8) (zj (tSl (YD K) (zk 4) vN (wC (zk 10))) (zj (zk 0) (zj (zk 6) (zj (zk 9) (zj (zk 5) zy))))))))) (yJ (tC (.bl am)))
   yU) (Qr K t)
def Qt:TS:=zL (yF (aN ad (aN aE (zV (ye K) [] E0 (zj (zk 0) (zj (tC (.int 2)) zy))) (tC (.int 56))) (aN aD (An (Zh K) (zj (zk 4) zy)) (tC (.int 1)))) (zM 10)) (Qs K t)
def zbO:TS:=zL (xc (yK (aN (zjX K) (zk 7) (zk 3))) (yJ (tC (.bl am)))
   yU) (zL (yV (tBM K "list" yL (zk 7) (zj (wQ (zj (wQ (zj (tC (.str "z")) (zj (tC (.int 1)) zy))) (zj (tC (.int 1)) zy))) zy))) (Qt K t))
def zbP:TS:=zL (yF (zV (qG t) [] E0 (zj (zk 7) (zj (zk 6) (zj (zV (ye K) [] E0 (zj (zk 0) (zj (tC (.int 0)) zy))) zy)))) (zM 8)) (zL (yF (zV kH [] E0 (zj (zV (ye K) [] E0 (zj (zk 0) (zj (tC (.int 0)) zy))) zy)) (zM 9)) (zbO K t))
def zbQ:TS:=zL (yF (aN aD (tC (.int 1)) (aN ad (zV (ye K) [] E0 (zj (zk 0) (zj (tC (.int 0)) zy))) (tC (.int 8)))) (zM 6)) (zL (yF (An (QH K) (zj (zk 3) zy)) (zM 7)) (zbP K t))
def zbR:TS:=zL (yF (zV (vQ K) [] E0 (zj (zk 0) (zj (zk 1) (zj (zk 2) zy)))) (zM 4)) (zL (yF (zV (ZN t) [] E0 (zj (zk 4) (zj (zk 3) zy))) (zM 5)) (zbQ K t))
def zgP:TS:=zL (yF (zV jm [] E0 (zj (zV (ye K) [] E0 (zj (zk 0) (zj (tC (.int 1)) zy))) zy)) (zM 1)) (zL (yF (zV jm [] E0 (zj (zV (ye K) [] E0 (zj (zk 0) (zj (tC (.int 2)) zy))) zy)) (zM 2)) (zL (yF (zV kF [] E0 (zj (aN aE (zV (ye K) [] E0 (zj (zk 0) (zj (tC (.int 1)) zy))) (tC (.int 7))) (zj (zk 1) zy))) (zM 3)) (zbR K t)))
end
variable {x l tl a p b sp tp re d dx dw dv l5 l6 TB KP cl:af}{C:Aw}{s s':hU}{E:XK}{xs e0 vs cs en ys:LV}{ah g no gi:zD}{H0 H' Hb H1 H00:Hp}{G F:Ad}{P:Pl->Int->Prop}{ae n kd h f r h0 r' N:Int}{ws us:yu}{lays ls:Aj}{ds db ns:ym}{sh sl:Str}{rs:List Rw}{kv la:xB}{v y:V}{lb lb':AN_}{Bp:List (af×HO)}{CC CA:vy}{o o' wo:HO}{i j:Nat}{ld:List (Int×hU×zD)}{M:Nat->Prop}{S S':DS}{hl:List (Int×Int×Nat×hU)}{R:At}{σ:St}{D:Vt}{es:List He}{e:hU×zD}{ps:LRG}{X X':DK}{tu:Bool}{o7 o5 o6 o9 o10 o11 o12 o13:Option V}
section
variable {K:bL}{t:uQ}{H:Hp}{Q:VK}
theorem zgQ{j:Int}(h0:0<=j)(c:j<=100):zhu 10 j:={h0,(),()}
theorem xM{n:Nat}(h:n<=100000):n<=Bb:=bI h ()
theorem wu(T:String):gL K (.type T) (.type T)=Y U:=by unfold gL;rw[ao (by simp)]
def kf(K:bL):KF K:={by with_unfolding_all rfl,by with_unfolding_all rfl,by with_unfolding_all rfl,by with_unfolding_all rfl,by with_unfolding_all rfl,by with_unfolding_all rfl,by with_unfolding_all rfl,by with_unfolding_all rfl}
theorem dB{i j:Int}(h0:0<j:=by lia)(k:j<10000000000000000000000000000000000000000000000:=by lia):vz i j:=by
 have c:(10000000000000000000000000000000000000000000000:Int)<big:=by lia
 exact{h0,()}
theorem zdJ{k:Type}{xs:List k}{i:Int}(h0:0<=i)(m:i<xs.length):∃x,Ay xs i=Y x/\x∈xs:=by
 obtain⟨n,rfl⟩:∃n:Nat,i=(n:Int):={i.toNat,()};have c:n<xs.length:=by lia
 refine{xs[n],?_,eE c};unfold Ay ixN;rw[ao h0,ao m];simp[c]
theorem zj0{c:Type}{xs:List c}(e:Int)(n:Nat)(hl:xs.length=n)(k:0<(n:Int)):∃x,Ay xs (e%n)=Y x/\x∈xs:=
 zdJ (cW _ ()) (by rw[hl];exact cM _ k)
theorem JB :(xs++[y])[(xs++[y]).length-1]?=Y y:=by simp
theorem Wd :(xs++[y]).dropLast=xs:=by simp
def xL{H H':Hp}(s:aJ H H')(c:H w=L):aJ H (upd H' w o):=λb u e=>by rw[zt (zB e c)];exact s b u e
theorem zj1(st:ym):(∃l a b,st=l++[a,b])\/∀k v,isJ v=U->vA k st v=.error .stuck:=by
 cases h:st.reverse with
 |nil=>
  refine .inr λk v c=>?_;unfold vA;rw[c,ao Z,h];split <;> rename_i e1 e2 <;> first|rfl|cases e2
 |cons b r=>
  cases r with
  |nil=>
   refine .inr λk v c=>?_;unfold vA;rw[c,ao Z,h];split <;> rename_i e1 e2 <;> first|rfl|cases e2
  |cons a r=>
   refine .inl {r.reverse,a,b,?_};have:=congrArg List.reverse h;rw[se] at this;rw[this];simp
theorem zgR{m:xB}{l:ym}{a b:Int}{w:Str}(k:isJ (.str w)=U):vA m (l++[a,b]) (.str w)=match kS w a b with|.ok c=>.ok (l++[c])|.error e=>.error e:=by
 unfold vA;rw[k,ao rfl];simp only[sN,tQ,uj,gE,dY];cases kS w a b with
 |error e=>rfl
 |ok c=>simp
def rkI(u:xB)(ps:LV)(k sl w:af)(H:Hp)(i:Nat)(σ:St)(H':Hp):Prop:=∃c,(∃q m o5,σ=[Y (.ref k),Y (.ref sl),Y (.ref w),q,m,o5])/\vE u (ps.take i) []=.ok c/\(∀x∈c,u3 x=U)/\c.length<=i/\H' w=Y (.lst (c.map V.int))/\aJ H H'
def zdK(c:Nat):({ cps:=#[c] }:Str).length=1:=rfl
def zK{H H':Hp}{D:af}(s:aJ H H')(h:H' D=L):H D=L:=by
 cases e:H D with
 |none=>rfl
 |some o=>rw[s _ _ e] at h;cases h
def AF{e:Er}{Q:VK}{E:XK}{H:Hp}:fin t (.error e) Q E H↔zgN t e E H:=by cases e <;> rfl
def fin_ok{i:Int}{Q:VK}{E:XK}{H:Hp}:fin t (.ok i) Q E H↔Q (.int i) H:=uE
def Ac.same{H H':Hp}(h:Ac H v c)(s:aJ H H'):Ac H' v c:=by
 cases c with
 |row r=>exact{h.1.mono s,h.2}
 |skip e to=>
  have #[p,q,m,k,u]:=h;exact{p,q,m,s _ _ k,s _ _ u}
 |go en=>
  have #[p,m,k]:=h;exact{p,m,s _ _ k}
theorem wB{H H':Hp}(s:aJ H H'):∀ {xs:LV}{C:Aw},Bl (Ac H) xs C->Bl (Ac H') xs C
 |_,_,.nil=>.nil
 |_,_,.cons h r=>.cons (h.same s) (wB s r)
def AQ(H H':Hp):Prop:=∀b ys,H b=Y (.tup ys)->H' b=Y (.tup ys)
def Ac.ts{H H':Hp}(s:AQ H H')(h:Ac H v c):Ac H' v c:=by
 cases c with
 |row r=>
  have #[h,n]:=h;refine{?_,n};cases r with
  |iff e a b=>exact n.elim
  |take sh e sl=>
   have #[r,k,z,w,u,q,m]:=h;exact{r,k,z,w,u,s _ _ q,s _ _ m}
  |give sh e f=>
   have #[r,k,J,z,w,u,q,m,a6,T]:=h;exact{r,k,J,z,w,u,q,s _ _ m,s _ _ a6,s _ _ T}
  |lt sl e=>
   have #[r,k,z,w,u,q,m]:=h;exact{r,k,z,w,u,s _ _ q,s _ _ m}
  |say e=>
   have #[r,k,z,w,u,q,m]:=h;exact{r,k,z,w,u,s _ _ q,s _ _ m}
  |off e=>
   have #[r,k,z,w,u,q,m]:=h;exact{r,k,z,w,u,s _ _ q,s _ _ m}
 |skip e to=>
  have #[p,k,I,A,O]:=h;exact{p,k,I,s _ _ A,s _ _ O}
 |go en=>
  have #[p,I,A]:=h;exact{p,I,s _ _ A}
theorem vJ{H H':Hp}(s:AQ H H'):∀ {xs:LV}{C:Aw},Bl (Ac H) xs C->Bl (Ac H') xs C
 |_,_,.nil=>.nil
 |_,_,.cons h r=>.cons (h.ts s) (vJ s r)
def zdL(x:Rw):(∃e a b,x=.iff e a b)\/Jp x:=by
 cases x with
 |iff e a b=>exact .inl {e,a,b,Z}
 |_=>exact .inr trivial
def jp{x:Rw}(h:Jp x)(k:Nat):wb x k=[.row x]:=by
 cases x with
 |iff e a b=>exact h.elim
 |_=>rw[wb];intro e a b z;cases z
theorem zdM{F:Ad}{r:Rw}(h:bv F H v r):∃p xs q,v=.ref p/\H p=Y (.tup xs)/\Ay xs 0=Y (.str q)/\(q="if"↔¬ Jp r):=by
 cases r with
 |take sh e sl=>
  unfold bv at h;have #[r,k,rfl,_,_,c,m]:=h;exact{r,_,_,Z,c,Z,{λz=>absurd z (),λz=>absurd trivial z}}
 |give sh e f=>
  unfold bv at h;have #[r,k,u,rfl,_,_,_,c,m]:=h;exact{r,_,_,Z,c,Z,{λz=>absurd z (),λz=>absurd trivial z}}
 |lt sl e=>
  unfold bv at h;have #[r,k,rfl,_,_,c,m]:=h;exact{r,_,_,Z,c,Z,{λz=>absurd z (),λz=>absurd trivial z}}
 |say e=>
  unfold bv at h;have #[r,k,rfl,_,_,c,m]:=h;exact{r,_,_,Z,c,Z,{λz=>absurd z (),λz=>absurd trivial z}}
 |off e=>
  unfold bv at h;have #[r,k,rfl,_,_,c,m]:=h;exact{r,_,_,Z,c,Z,{λz=>absurd z (),λz=>absurd trivial z}}
 |iff e a b=>
  unfold bv at h;have #[r,k,la,lb,xs,ys,rfl,J,I,A,w,c,m]:=h;exact{r,_,_,Z,c,Z,{λ_ z=>z,λ_=>rfl}}
theorem Paired.app2{m k:Type}{F:m->k->Prop}:∀ {a:List m}{b:List k}{c:List m}{d:List k},Bl F a b->Bl F c d->Bl F (a++c) (b++d)
 |_,_,_,_,.nil,h=>h
 |_,_,_,_,.cons h r,h2=>.cons h (Paired.app2 r h2)
def sfI(v:V)(Bp:af)(xs:LV)(k n:Nat)(r:aY)(H:Hp)(i:Nat)(σ:St)(H':Hp):Prop:=∃(rest:aY)(ys:LV)(C:Aw),(∃o,σ=[Y v,Y (.int k),Y (.ref Bp),o])/\aJ H H'/\H' Bp=Y (.lst ys)/\Bl (Ac H') ys C/\hZ J5 H (xs.drop i) rest/\Jq (n+1) rest/\C++yn rest (k+C.length)=yn r k
theorem zcZ{H:Hp}{Bp:af}(h:H Bp=Y (.lst ys)):AQ H (upd H Bp (.lst zs)):=λb us e=>by rw[zt (zQ e h ())];exact e
theorem zak{v:V}{r:aY}{k n:Nat}(h1:RlAt J5 H v r)(h2:Jq (n+1) r)(h3:k+(yn r k).length<=500)(q:∀l xs H',aJ H H'->H l=L->H' l=Y (.lst xs)->Bl (Ac H') xs (yn r k)->Q (.ref l) H') :
  WF K t n (u9 Q) (zZZ 4 [v,.int k]) H:=by
 have #[p,xs,rfl,_,hp,hx]:=h1;refine{cf _,λBp hL=>?_};have s0:=u5 (o:=HO.lst []) Bp hL;refine{_,Z,p,Z,{_,aO.of (s0 _ _ hp)},?_};refine xD xs (sfI (.ref p) Bp xs k n r H) {r,[],[],{_,Z},s0,zo,.nil,by rw[dM];exact hx,h2,Z} (λi σ H' ⟨_,_,_,_,s,_⟩=>aO.of (s _ _ hp)) ?_ ?_
 .rintro i u σ H' hu ⟨rest,ys,C,⟨o,rfl⟩,s,c,A,hr,ok,I⟩;have #[x,rs,rfl,rx,rr]:=hr.get hu;have e0:yn (.cons x rs) (k+C.length)=wb x (k+C.length)++yn rs (k+C.length+(wb x (k+C.length)).length):=by rw[yn]
  rw[e0] at I;have J:=ok.dp;have c1:(aY.cons x rs).deep=max x.deep rs.deep:=by rw[aY.deep]
  rw[c1] at J;have O:=ok.ct;have c2:(aY.cons x rs).cnt=x.cnt+rs.cnt:=by rw[aY.cnt]
  rw[c2] at O;have m:=ok.pl;unfold Zx at m;have le:=congrArg gM I;rw[bh,bh] at le;have ly:=bG A;have nx:∀ {H2:Hp}{o':Option V}{T:LV},aJ H H2->H2 Bp=Y (.lst T)->Bl (Ac H2) T (C++wb x (k+C.length))->sfI (.ref p) Bp xs k n r H (i+1) [Y (.ref p),Y (.int k),Y (.ref Bp),o'] H2:=λ{H2 o' T} w g2 p2=>
   {rs,T,_,{_,Z},w,g2,p2,rr,{(),(),m.2},by rw[b6,bh,<-nE];exact I}
  have #[p1,fs,hd,rfl,e2,e3,e4]:=zdM rx;refine qy Z (s _ _ e2) e3 (λez=>?_) λez=>?_
  .obtain ⟨e,a,b,rfl⟩|hni:=zdL x
   rotate_left
   .exact absurd hni (e4.mp ez)
   have d1:(Rw.iff e a b).deep=max a.deep b.deep+1:=by rw[Rw.deep]
   have d2:(Rw.iff e a b).cnt=max a.cnt b.cnt+1:=by rw[Rw.cnt]
   rw[d1] at J;rw[d2] at O;have pl:=m.1;unfold V6 at pl;refine{_,Z,.inl {Z,_,aO.of c},_,Z,_,Z,zgL Z c {_,_,Z,Z,_,e,a,b,k+C.length,by rw[<-ly];rfl,rx.mono s,{(),(),pl.2.1},{(),(),pl.2.2},(),λl us H2 w hl pu=>?_}};have lu:=bG pu;refine{Bp,_,ys,us,Z,Z,w _ _ c,hl,bI (by lia:ys.length+us.length<=1000) (),?_};exact nx (xL (s.trans w) hL) zo (vJ (zcZ (w _ _ c)) (Paired.app2 (wB w A) pu))
  .have hni:Jp x:=by
    obtain ⟨e,a,b,rfl⟩|hni:=zdL x
    .exact absurd (e4.mpr (λz=>z)) ez
    .exact hni
   have ec:=jp hni (k+C.length);rw[ec] at nx;refine{_,Z,.inl {Z,_,aO.of c},_,Z,Bp,ys,_,Z,Z,c,bM (by lia:ys.length<=900) (),?_};exact nx (xL s hL) zo (Paired.snocP (vJ (zcZ c) A) (Ac.ts (zcZ c) {rx.mono s,hni}))
 .rintro σ H' ⟨rest,ys,C,⟨o,rfl⟩,s,c,A,hr,ok,I⟩;have e:=hr.none;subst e;rw[show yn .nil (k+C.length)=[] by rw[yn],rD] at I;rw[I] at A;exact{_,Z,q Bp ys H' s hL c A}
def yI{H H':Hp}(e:upd H a o=H')(h:H a=L):aJ H H'/\H' a=Y o:={e ▸ u5 a h,e ▸ zo}
theorem W9{v:V}{e:LV}{a b:aY}{k n:Nat}(h1:bv J5 H v (.iff e a b))(h2:Jq n a)(h3:Jq n b)(w:k+(wb (.iff e a b) k).length<=500)(q:∀l xs H',aJ H H'->H' l=Y (.lst xs)->Bl (Ac H') xs (wb (.iff e a b) k)->Q (.ref l) H') :
  ZP K t n (u9 Q) (zZZ 5 [v,.int k]) H:=by
 unfold bv at h1;have #[p,te,la,lb,xs,ys,rfl,f1,f2,f3,f4,e2,e3,e4,e6,e5,e7]:=h1;have ec:wb (.iff e a b) k=blk e k (yn a (k+1)) (aY.isNil b) (yn b (k+2+(yn a (k+1)).length)):=by rw[wb]
 rw[ec] at w q;refine X0 Z e2 Z {_,Z,_,_,Z,Z,.ref la,a,k+1,Z,{la,xs,Z,f3,e4,e6},h2,?_,λl us H1 s1 fl hl pu=>?_}
 .unfold blk at w;split at w <;> simp only[b7,bh] at w <;> lia
 have lu:=bG pu;generalize yn a (k+1)=A at *
 refine{_,Z,_,_,Z,Z,zgL Z hl {_,_,Z,Z,?_}};have ei:(k:Int)+1+us.length=((k+1+A.length:Nat):Int):=by lia
 show qc K t n _ [Y (.ref p),Y (.int k),Y (.ref l),Y (.int ((k:Int)+1+us.length)),L] H1;rw[ei];refine X0 Z (s1 _ _ e2) Z {cf _,λz gz=>?_};generalize f0:upd H1 z _=H2;have #[s2,hz]:=yI f0 gz;have I:=s1.trans s2;refine{lb,z,ys,Z,Z,aO.of (I _ _ e5),aO.of hz,_,Z,?_};have nb:aY.isNil b=decide (ys=[]):=by
  cases b with
  |nil=>unfold hZ at e7;simp[aY.isNil,e7]
  |cons x r=>unfold hZ at e7;have #[v,vs,rfl,_]:=e7;simp[aY.isNil]
 have ai:=s2 _ _ hl;have ac:=wB s2 pu;show if _ then _ else _
 by_cases hb:ys=[]
 .rw[ao (Bj hb)];have eb:∀u,blk e k A (aY.isNil b) u=.skip e (k+1+A.length)::A:=λu=>by unfold blk;rw[ao (by rw[nb];exact Bj hb)]
  rw[eb] at q w;rw[b7] at w;refine X0 Z (I _ _ e2) Z {_,Z,(),λc g1=>?_};generalize c1:upd H2 c _=H3;have #[t1,m]:=yI c1 g1;refine{(),λp2 g2=>?_};generalize c2:upd H3 p2 _=H4;have #[t2,aa]:=yI c2 g2;have T:=t1.trans t2;refine{_,Z,_,_,_,us,Z,Z,aa,T _ _ ai,bI (by show 1+us.length<=1000;lia) (),λp3 g3=>?_};have J:=u5 (o:=HO.lst ([V.ref c]++us)) p3 g3;exact q p3 ([V.ref c]++us) _ (I.trans (T.trans J)) zo (.cons {c,te,Z,(t2.trans J) _ _ m,(I.trans (T.trans J)) _ _ e3} (wB (T.trans J) ac))
 .rw[ak (by rw[decide_eq_true_eq];exact hb)];have eb:∀u,blk e k A (aY.isNil b) u=.skip e (k+2+A.length)::(A++(.go (k+2+A.length+u.length)::u)):=λu=>by unfold blk;rw[ak (by rw[nb];simpa using hb)]
  rw[eb] at q w;rw[b7,bh,b7] at w;have ej:((k+1+A.length:Nat):Int)+1=((k+2+A.length:Nat):Int):=by lia
  refine X0 Z (I _ _ e2) Z {_,Z,_,_,Z,Z,.ref lb,b,k+2+A.length,?_,{lb,ys,Z,f4,I _ _ e5,e7.mono I},h3,(),λl2 ws H3 s3 az ag pw=>?_}
  .show [V.ref lb,V.int (((k+1+A.length:Nat):Int)+1)]=_;rw[ej]
  have lw:=bG pw;generalize yn b (k+2+A.length)=u at *
  have S3:=I.trans s3;refine X0 Z (S3 _ _ e2) Z {_,Z,_,_,Z,Z,(),λc g1=>?_};generalize c1:upd H3 c _=H4;have #[t1,m]:=yI c1 g1;have m:H4 c=Y (.tup [.str (br "skip"),.ref te,.int ((k+2+A.length:Nat):Int)]):=by rw[<-ej];exact m
  refine{(),λp2 g2=>?_};generalize c2:upd H4 p2 _=H5;have #[t2,aa]:=yI c2 g2;have T2:=t1.trans t2;refine{_,Z,_,_,_,us,Z,Z,aa,(s3.trans T2) _ _ ai,bI (by show 1+us.length<=1000;lia) (),λp3 g3=>?_};generalize c3:upd H5 p3 _=H6;have #[J,ar]:=yI c3 g3;have T3:=T2.trans J;refine{_,Z,_,_,Z,Z,zgL Z (T3 _ _ ag) {_,_,Z,Z,(),λp4 g4=>?_}};generalize c4:upd H6 p4 _=H7;have #[t4,O]:=yI c4 g4;have eg:((k+1+A.length:Nat):Int)+1+ws.length=((k+2+A.length+u.length:Nat):Int):=by lia
  have O:H7 p4=Y (.tup [.str (br "go"),.int ((k+2+A.length+u.length:Nat):Int)]):=by rw[<-eg];exact O
  refine{(),λp5 g5=>?_};generalize c5:upd H7 p5 _=H8;have #[t5,an]:=yI c5 g5;refine{_,_,_,_,Z,Z,(t4.trans t5) _ _ ar,an,bI (by show ([V.ref c]++us).length+1<=1000;rw[bh,cP];lia) (),λp6 g6=>?_};generalize c6:upd H8 p6 _=H9;have #[t6,al]:=yI c6 g6;have T6:=t4.trans (t5.trans t6);refine{_,Z,_,_,_,ws,Z,Z,al,(T3.trans T6) _ _ ag,bI (by rw[bh,bh,cP,cP];lia:_<=1000) (),λp7 g7=>?_};generalize c7:upd H9 p7 _=H10;have #[t7,aj]:=yI c7 g7;have T7:=T6.trans t7;have Bo:=T3.trans T7;have el:[V.ref c]++us++[V.ref p4]++ws=V.ref c::(us++(V.ref p4::ws)):=by simp
  refine q p7 ([V.ref c]++us++[V.ref p4]++ws) _ (S3.trans Bo) aj ?_;rw[el];exact .cons {c,te,Z,(t2.trans (J.trans T7)) _ _ m,(S3.trans Bo) _ _ e3} (Paired.app2 (wB (s3.trans Bo) ac) (.cons {p4,Z,(t5.trans (t6.trans t7)) _ _ O} (wB Bo pw)))
theorem Xt{H:Hp}{Q:VK}{E:XK}(h:vZ 0 vs H Q E):False:=by have #[v,r,k,e,q,c,m]:=h;have:=c.dp;lia
def rnF{P:AG}(T:Txt K P t):RnF K t:={T.q05,T.q2t,T.q2s,T.q2y,T.q2x,T.q2u,T.q2v,T.q2w}
section
variable {a:RAd}
def aZ.notup(R:aZ t H x a C s)(h:H b=Y (.tup zs)):¬ Ow x a b:=by
 rintro(rfl|rfl|rfl|rfl|rfl)
 .rw[R.ix] at h;cases h
 .rw[R.hs] at h;cases h
 .rw[R.hg] at h;cases h
 .rw[R.hn] at h;cases h
 .rw[R.ha] at h;cases h
def aZ.ts{H':Hp}(R:aZ t H x a C s)(k:Kp x a H H'):AQ H H':=λb ys e=>k b _ (R.notup e) e
def Kp.of_same{H':Hp}(s:aJ H H'):Kp x a H H':=λb o _ e=>s b o e
def Kp.trans{H' H'':Hp}(h:Kp x a H H')(k:Kp x a H' H''):Kp x a H H'':=λb o n e=>k b o n (h b o n e)
def vK(h:Ow x a b):Kp x a H (upd H b o):=λc o' n e=>by rw[zt (λz=>n (by rw[z];exact h))];exact e
def aZ.same{H':Hp}(R:aZ t H x a C s)(k:aJ H H'):aZ t H' x a C s:=
 {k _ _ R.ix,let ⟨xs,h1,h2⟩:=R.hc;{xs,k _ _ h1,wB k h2},k _ _ R.hs,k _ _ R.hg,k _ _ R.hn,k _ _ R.ha,R.ng,R.nc}
theorem aZ.putI(R:aZ t H x a C s)(s':hU)(w:s'.sl=s.sl)(u:s'.gi=s.gi)(q:s'.no=s.no)(m:s'.sa=s.sa):aZ t (upd H x (.ins t.q01 a.dx (zjY a s'))) x a C s':=by
 refine{zo,?_,?_,?_,?_,?_,R.ng,R.nc}
 .have #[xs,c,k]:=R.hc;exact{xs,by rw[zt (zQ c R.ix ())];exact c,vJ (R.ts (vK (.inl Z))) k}
 .rw[zt (zQ R.hs R.ix ()),w];exact R.hs
 .rw[zt (zQ R.hg R.ix ()),u];exact R.hg
 .rw[zt (zQ R.hn R.ix ()),q];exact R.hn
 .rw[zt (zQ R.ha R.ix ()),m];exact R.ha
theorem aZ.putS(R:aZ t H x a C s)(k:xB):aZ t (upd H a.sl (.dK k)) x a C { s with sl:=k }:=by
 refine{by rw[zt (zQ R.ix R.hs ())];exact R.ix,?_,zo,?_,?_,?_,R.ng,R.nc}
 .have #[xs,c,m]:=R.hc;exact{xs,by rw[zt (zQ c R.hs ())];exact c,vJ (R.ts (vK (.inr (.inl Z)))) m}
 .rw[zt (zQ R.hg R.hs ())];exact R.hg
 .rw[zt (zQ R.hn R.hs ())];exact R.hn
 .rw[zt (zQ R.ha R.hs ())];exact R.ha
theorem aZ.putG(R:aZ t H x a C s)(ah:zD):aZ t (upd H a.gi (.dT (uU ah))) x a C { s with gi:=ah }:=by
 refine{by rw[zt (zQ R.ix R.hg ())];exact R.ix,?_,?_,zo,?_,?_,R.ng,R.nc}
 .have #[xs,c,k]:=R.hc;exact{xs,by rw[zt (zQ c R.hg ())];exact c,vJ (R.ts (vK (.inr (.inr (.inl Z))))) k}
 .rw[zt (zQ R.hs R.hg ())];exact R.hs
 .rw[zt (eC R.ng)];exact R.hn
 .rw[zt (zQ R.ha R.hg ())];exact R.ha
theorem aZ.putO(R:aZ t H x a C s)(ah:zD):aZ t (upd H a.no (.dT (uU ah))) x a C { s with no:=ah }:=by
 refine{by rw[zt (zQ R.ix R.hn ())];exact R.ix,?_,?_,?_,zo,?_,R.ng,R.nc}
 .have #[xs,c,k]:=R.hc;exact{xs,by rw[zt (zQ c R.hn ())];exact c,vJ (R.ts (vK (.inr (.inr (.inr (.inl Z)))))) k}
 .rw[zt (zQ R.hs R.hn ())];exact R.hs
 .rw[zt R.ng];exact R.hg
 .rw[zt (zQ R.ha R.hn ())];exact R.ha
theorem aZ.putA(R:aZ t H x a C s)(is:ym):aZ t (upd H a.sa (.lst (is.map V.int))) x a C { s with sa:=is }:=by
 refine{by rw[zt (zQ R.ix R.ha ())];exact R.ix,?_,?_,?_,?_,zo,R.ng,R.nc}
 .have #[xs,k,c]:=R.hc;exact{xs,by rw[zt R.nc];exact k,vJ (R.ts (vK (.inr (.inr (.inr (.inr Z)))))) c}
 .rw[zt (zQ R.hs R.ha ())];exact R.hs
 .rw[zt (zQ R.hg R.ha ())];exact R.hg
 .rw[zt (zQ R.hn R.ha ())];exact R.hn
end
theorem qJ(h:¬ yy C s=U):s.n<C.length:=by unfold yy at h;simp only[Bool.or_eq_true,decide_eq_true_eq,not_or] at h;lia
def zc0(ah:zD)(p:Pl)(w:Int):zE (ah++[(p,w)]) p=Y w:=by
 have h:=wN (ah++[(p,w)]) p;rw[Zu,VB,ao rfl] at h;cases hl:zE (ah++[(p,w)]) p with
 |none=>rw[hl] at h;cases h
 |some i=>rw[hl] at h;cases h;rfl
theorem zj2(h:Ac H v c):∃p w A,v=.ref p/\H p=Y (.tup w)/\Ay w 0=Y (.str A)/\(A=br "take"->∃sh e x q,c=.row (.take sh e x)/\Ay w 1=Y (.str sh)/\Ay w 2=Y (.ref q)/\H q=Y (.tup e))/\(A≠br "take"->∀s,kZ c s=L):=by
 cases c with
 |row r=>
  have m:=h.1;cases r with
  |take sh e sl=>unfold bv at m;have #[r,q,rfl,_,_,k,u]:=m;exact{r,_,_,Z,k,Z,λ_=>{sh,e,sl,q,Z,Z,Z,u},λz=>absurd Z z}
  |give sh e f=>unfold bv at m;have #[r,q,J,rfl,_,_,_,k,u]:=m;exact{r,_,_,Z,k,Z,λz=>absurd z (),λ_ _=>rfl}
  |lt sl e=>unfold bv at m;have #[r,q,rfl,_,_,k,u]:=m;exact{r,_,_,Z,k,Z,λz=>absurd z (),λ_ _=>rfl}
  |say e=>unfold bv at m;have #[r,q,rfl,_,_,k,u]:=m;exact{r,_,_,Z,k,Z,λz=>absurd z (),λ_ _=>rfl}
  |off e=>unfold bv at m;have #[r,q,rfl,_,_,k,u]:=m;exact{r,_,_,Z,k,Z,λz=>absurd z (),λ_ _=>rfl}
  |iff e b d=>exact(h.2:False).elim
 |skip e to=>have #[p,q,I,k,_]:=h;exact{p,_,_,I,k,Z,λz=>absurd z (),λ_ _=>rfl}
 |go en=>have #[p,I,k]:=h;exact{p,_,_,I,k,Z,λz=>absurd z (),λ_ _=>rfl}
def zal{c:Type}[DecidableEq c]{m:List (c×V)}{k:c}(h:k ∉ m.map (·.1)):yt m k=L:=by
 cases e:yt m k with
 |none=>rfl
 |some v=>exact absurd (zdn e) h
theorem zdN:∀(c:zD)(k:yd),(∀r∈c,zI r.1 ∉ k.map (·.1))->(c.map (·.1)).Nodup->c.foldl Y7 k=k++c.map λr=>(zI r.1,V.int r.2)
 |[],k,_,_=>by simp
 |r::c,k,h,nd=>by
  rw[bB,cw] at nd;rw[fA,Y7,jr _ (zal (h r bw)),zdN c _ (λq m=>?_) nd.2,bB,b6,List.singleton_append];rw[bZ,bp,not_or];refine{h q (bt _ m),λz=>nd.1 ?_};have u:zI q.1=zI r.1:=by simpa using z
  rw[<-y9 u];exact bE m
def We{c:zD}(k:(c.map (·.1)).Nodup):uU c=c.map λr=>(zI r.1,V.int r.2):=by unfold uU;rw[zdN c [] (λ_ _ h=>nomatch h) k,gE]
theorem Xu{H H':Hp}(s:aJ H H'):∀ {ys:LV}{ah:zD},Bl (PrAt H) ys ah->Bl (PrAt H') ys ah
 |_,_,.nil=>.nil
 |_,_,.cons ⟨r,p,e1,e2,e3⟩ t=>.cons {r,p,e1,s _ _ e2,s _ _ e3} (Xu s t)
def zgS(p:Pl)(w:Int)(s:hU):(j6 p w s).sl=s.sl:=by unfold j6;split <;> rfl
def zia(p:Pl)(w:Int)(s:hU):(j6 p w s).n=s.n:=by unfold j6;split <;> rfl
theorem zle{r:Rw}{w:Int}(h:YI r)(e:Ai r w s=.ok s'):s'.n=s.n:=by
 cases r with
 |take sh e' x=>
  cases hk:rk s.sl e' with
  |error er=>simp only[Ai,hk] at e;cases e
  |ok n=>simp only[Ai,hk] at e;cases e;exact zia _ _ _
 |give sh e' f=>
  cases hk:rk s.sl e' with
  |error er=>simp only[Ai,hk] at e;cases e
  |ok n=>
   cases hk2:rk s.sl f with
   |error er=>simp only[Ai,hk,hk2] at e;cases e
   |ok i=>simp only[Ai,hk,hk2] at e;cases e;rfl
 |lt x e'=>
  cases hk:rk s.sl e' with
  |error er=>simp only[Ai,hk] at e;cases e
  |ok n=>simp only[Ai,hk] at e;cases e;rfl
 |say e'=>
  cases hk:rk s.sl e' with
  |error er=>simp only[Ai,hk] at e;cases e
  |ok n=>simp only[Ai,hk] at e;cases e;rfl
 |off e'=>exact h.elim
 |iff e' b d=>exact h.elim
theorem zbS{r:Rw}{w:Int}{s:hU}(h:YI r):x6 (.row r) w s=match Ai r w s with
  |.error er=>.error er
  |.ok s'=>.ok (s.n+1,s'):=by
 cases r with
 |off e'=>exact h.elim
 |iff e' b d=>exact h.elim
 |take sh e' x=>rfl
 |give sh e' f=>rfl
 |lt x e'=>rfl
 |say e'=>rfl
def zib(r:Rw)(h:Jp r):(∃e,r=.off e)\/YI r:=by
 cases r with
 |off e'=>exact .inl {e',Z}
 |iff e' b d=>exact h.elim
 |take sh e' x=>exact .inr trivial
 |give sh e' f=>exact .inr trivial
 |lt x e'=>exact .inr trivial
 |say e'=>exact .inr trivial
theorem zic{F:Ad}{r:Rw}(h:bv F H v r)(d:YI r):∃p xs k,v=.ref p/\H p=Y (.tup xs)/\Ay xs 0=Y (.str k)/\k≠br "go"/\k≠br "skip"/\k≠br "off":=by
 cases r with
 |take sh e sl=>unfold bv at h;have #[r,m,rfl,_,_,c,q]:=h;exact{r,_,_,Z,c,Z,(),(),()}
 |give sh e f=>unfold bv at h;have #[r,m,u,rfl,_,_,_,c,q]:=h;exact{r,_,_,Z,c,Z,(),(),()}
 |lt sl e=>unfold bv at h;have #[r,m,rfl,_,_,c,q]:=h;exact{r,_,_,Z,c,Z,(),(),()}
 |say e=>unfold bv at h;have #[r,m,rfl,_,_,c,q]:=h;exact{r,_,_,Z,c,Z,(),(),()}
 |off e=>exact d.elim
 |iff e a b=>exact d.elim
def Yh{x:Str}(h:xx x=U):dt x=U:=(zfV h).flat
def zbT(H H':Hp):Prop:=∀b ys,H b=Y (.tup ys)->H' b=Y (.tup ys)
def aJ.ts{H H':Hp}(s:aJ H H'):zbT H H':=λb ys e=>s _ _ e
theorem qe{J:It}{D:af}{H1:Hp}{Q:Hp->Prop}{Bn:V->St->Hp->(V->At)->At->Prop}(n:Nat)(hn:n<=1000000)(C:St->Prop)(R:Nat->LV->Hp->Prop)(hm:∀i ys H H',zbT H H'/\(∀b o,b≠D->H b=Y o->H' b=Y o)->R i ys H->R i ys H')(hC:C τ₀)(h0:R 0 [] H1)(go:∀i H,aJ H1 H->i<n->J.go i H)(A:∀H,aJ H1 H->J.stop n H)(hD:H1 D=L)(hs:∀i x k ys H H',C k->aJ H1 H->i<n->R i ys H->H D=Y (.lst ys)->J.yld i H x H'->Bn x k H' (λv c w=>C c/\R (i+1) (ys++[v]) w/\aJ H w) (λc w=>C c/\R (i+1) ys w/\aJ H w))(hd:∀ys H,ys.length<=n->R n ys H->aJ H1 H->H D=Y (.lst ys)->Q H) :
  ∃W:Nat->Nat->LV->At,(∃m,W 0 m [] τ₀ (upd H1 D (.lst [])))/\∀i m ys k H,W i m ys k H->H D=Y (.lst ys) /\
  ((J.stop i H/\Q H)\/(J.go i H/\ys.length<Bb/\∃N:V->At,
   (∀v c H',N v c H'->H' D=Y (.lst ys)/\∃O,O<m/\W (i+1) O (ys++[v]) c (upd H' D (.lst (ys++[v]))))/\∃Nf:At,(∀c H',Nf c H'->∃O,O<m/\W (i+1) O ys c H') /\
   ∀x H',J.yld i H x H'->Bn x k H' N Nf)):=by
 have q:∀ {H:Hp}{o:HO},aJ H1 H->aJ H1 (upd H D o):=λ{H o} h b u e=>by rw[zt (zB e hD)];exact h b u e
 refine{λi m ys k H=>m=n-i/\i<=n/\ys.length<=i/\R i ys H/\aJ H1 H/\H D=Y (.lst ys)/\C k,{n,by simp,cf _,bq _,hm _ _ _ _ {aJ.ts (q (aJ.refl _)),λb o hb e=>by rw[zt hb];exact e} h0,q (aJ.refl _),zo,hC},?_};rintro i m ys k H ⟨rfl,hi,hl,hR,z,T,hc⟩;refine{T,?_};by_cases hlt:i<n
 .refine .inr {go i H z hlt,bM (by lia:ys.length<=1000000) (),_,?_,_,?_,λx H' y=>hs i x k ys H H' hc z hlt hR T y}
  .rintro v c w ⟨c4,r4,I⟩;have y4:=I _ _ T;exact{y4,n-(i+1),(),Z,hlt,by simp;lia,hm _ _ _ _ {λb zs e=>by rw[zt (zQ e y4 (by simp))];exact e,λb o hb e=>by rw[zt hb];exact e} r4,q (z.trans I),zo,c4}
  .rintro c w ⟨c4,r4,I⟩;exact{n-(i+1),(),Z,hlt,(),r4,z.trans I,I _ _ T,c4}
 .obtain rfl:i=n:=by lia
  exact .inl {A H z,hd ys H hl hR z T}
def Xv{P:Nat->Bool}{x y:Str}(h:Xp P x)(c:Xp P y):Xp P (x++y):=by
 unfold Xp at *
 rw[zhI,uF,h,c];rfl
def zgT{P:Nat->Bool}(h:P c=U):Xp P ⟨#[c]⟩:=by show [c].all P=U;rw[iG,h];rfl
def zid{P:Nat->Bool}{x:Str}(h:Xp P x)(k:Nat):Xp P (iP x L (Y (k:Int))):=by
 unfold Xp at *
 rw[za3];rw[mX] at *
 exact λc m=>h c (cH m)
def zeS{P:Nat->Bool}{x:Str}(h:Xp P x)(k:Nat):Xp P (iP x (Y (k:Int)) L):=by
 unfold Xp at *
 rw[VP];rw[mX] at *
 exact λc m=>h c (cF m)
theorem zj3(x:Str)(k:Nat)(h:k<=x.length):(iP x L (Y (k:Int))).length=k:=by
 rw[Y3] at *
 rw[za3,bX];lia
def zgU(x:Str)(k:Nat):(iP x (Y (k:Int)) L).length=x.length-k:=by rw[Y3,Y3,VP,cq]
theorem zdO{P:Str->Prop}:∀ {ys:LV},(∀v∈ys,∃x,v=.str x/\P x)->∃ls:yu,ys=ls.map V.str/\∀x∈ls,P x
 |[],_=>{[],Z,nofun}
 |v::r,h=>by
  have #[x,rfl,c]:=h v bw;have #[ls,rfl,k]:=zdO (ys:=r) λu m=>h u (bt _ m);exact{x::ls,Z,λy hy=>by
   obtain rfl|hy:=bC.mp hy
   .exact c
   .exact k y hy}
structure RnP(m:Nat)(s:hU):Prop where
 ok:RnOk m s
 ng:∀r∈s.gi,dt r.1.1=U
 nn:∀r∈s.no,dt r.1.1=U
def RnOk.up(h:RnOk m s):RnOk (m+1) s:={h.so,h.gw,h.nw,cy h.l1,cy h.l2,cy h.l3,cy h.l4,h.nd}
def RnP.up(h:RnP m s):RnP (m+1) s:={h.ok.up,h.ng,h.nn}
def zgV{p:Pl}{l:zD}(c:(l.map (·.1)).Nodup)(h:zE l p=L):p ∉ l.map (·.1):=λz=>by have #[r,k,e]:=bK.mp z;have:=(qx (w:=r.2) c).mpr (show (p,r.2)∈l by rw[<-e];exact k);rw[h] at this;cases this
def zgW{s:hU}{p:Pl}{w:Int}(h:RnOk m s)(c:u3 w=U):u3 (Jr p w s)=U:=by
 unfold Jr;cases e:zE s.gi p with
 |some i=>exact wa (P:=λr=>u3 r.2=U) h.gw e
 |none=>
  cases e2:zE s.no p with
  |some i=>exact wa (P:=λr=>u3 r.2=U) h.nw e2
  |none=>exact c
theorem zie{m:Nat}{s:hU}{p:Pl}{w i:Int}{x:Str}(h:RnP m s)(I:dt p.1=U)(A:u3 w=U)(J:u3 i=U):RnP (m+1) { j6 p w s with sl:=xo s.sl (.inr x) (.int i) }:=by
 have q:=Qf h.ok.so (.inr x) J;have u:(xo s.sl (.inr x) (V.int i)).length<=m+1:=bI (wY _ _ _) (fY h.ok.l1);unfold j6;by_cases c:(zE s.gi p).isSome=U\/(zE s.no p).isSome=U
 .rw[ao c];exact{{q,h.ok.gw,h.ok.nw,u,cy h.ok.l2,cy h.ok.l3,cy h.ok.l4,h.ok.nd},h.ng,h.nn}
 .rw[ak c];have T:zE s.no p=L:=by
   cases e:zE s.no p with
   |none=>rfl
   |some i=>exact absurd (.inr (by rw[e];rfl)) c
  refine{{q,h.ok.gw,λr hr=>?_,u,cy h.ok.l2,?_,cy h.ok.l4,?_},h.ng,λr hr=>?_}
  .obtain hr|hr:=bp.mp hr
   .exact h.ok.nw r hr
   .rw[bo.mp hr];exact A
  .show (s.no++[(p,w)]).length<=m+1;rw[bh];exact fY h.ok.l3
  .show ((s.no++[(p,w)]).map (·.1)).Nodup;rw[bZ];refine dh.mpr {h.ok.nd,by simp,λa O b k=>?_};have k:b=p:=by simpa using k
   rw[k];exact λz=>zgV h.ok.nd T (by rw[<-z];exact O)
  .obtain hr|hr:=bp.mp hr
   .exact h.nn r hr
   .rw[bo.mp hr];exact I
theorem zj4{r:Rw}{m:Nat}{w:Int}(h:RnP m s)(d:YI r)(k:Zv r)(u:V6 r)(z:u3 w=U)(e:Ai r w s=.ok s'):RnP (m+1) s'/\s'.why=s.why:=by
 cases r with
 |off e'=>exact d.elim
 |iff e' b c=>exact d.elim
 |take sh e' x=>
  cases hk:rk s.sl e' with
  |error er=>simp only[Ai,hk] at e;cases e
  |ok n=>
   simp only[Ai,hk] at e;cases e;exact{zie h u.1 z (zgW h.ok z),by show (j6 _ _ _).why=_;unfold j6;split <;> rfl}
 |give sh e' f=>
  cases hk:rk s.sl e' with
  |error er=>simp only[Ai,hk] at e;cases e
  |ok n=>
   cases hk2:rk s.sl f with
   |error er=>simp only[Ai,hk,hk2] at e;cases e
   |ok i=>
    simp only[Ai,hk,hk2] at e;cases e;have q:=zgr h.ok.so k.2.2.1 hk2;refine{{{h.ok.so,λr hr=>?_,h.ok.nw,cy h.ok.l1,?_,cy h.ok.l3,cy h.ok.l4,h.ok.nd},λr hr=>?_,h.nn},Z}
    .obtain hr|hr:=bp.mp hr
     .exact h.ok.gw r hr
     .rw[bo.mp hr];exact q
    .show (s.gi++[((sh,n),i)]).length<=m+1;rw[bh];exact fY h.ok.l2
    .obtain hr|hr:=bp.mp hr
     .exact h.ng r hr
     .rw[bo.mp hr];exact u.1
 |lt x e'=>
  cases hk:rk s.sl e' with
  |error er=>simp only[Ai,hk] at e;cases e
  |ok i=>
   simp only[Ai,hk] at e;cases e;have q:=zgr h.ok.so k.2.1 hk;exact{{{Qf h.ok.so _ q,h.ok.gw,h.ok.nw,bI (wY _ _ _) (fY h.ok.l1),cy h.ok.l2,cy h.ok.l3,cy h.ok.l4,h.ok.nd},h.ng,h.nn},Z}
 |say e'=>
  cases hk:rk s.sl e' with
  |error er=>simp only[Ai,hk] at e;cases e
  |ok i=>
   simp only[Ai,hk] at e;cases e;exact{{{h.ok.so,h.ok.gw,h.ok.nw,cy h.ok.l1,cy h.ok.l2,cy h.ok.l3,by show (s.sa++[i]).length<=m+1;rw[bh];exact fY h.ok.l4,h.ok.nd},h.ng,h.nn},Z}
theorem zj5(c:Er):dt (zbx c)=U:=by cases c <;> lia
theorem zdP{w:Int}(O:X5 C)(h:RnI C m s)(ho:yy C s=am)(hw:u3 w=U):RnI C (m+1) (xh C w s):=by
 have no:¬ yy C s=U:=by rw[ho];decide
 have lt:=qJ no;have J:C[s.n]?=Y C[s.n]:=ba lt;have es:xh C w s=yP C[s.n] w s:=by unfold xh;rw[ak no,J]
 have wn:s.why=L:=by
  cases e:s.why with
  |none=>rfl
  |some v=>exact absurd (show yy C s=U by unfold yy;rw[e];rfl) no
 have mn:=h.at_ wn;have ok:=O.ok _ (eE lt);have I:=O.pl _ (eE lt);have P:RnP m s:={h.ok,h.ng,h.nn};have fin:∀ {s':hU}{k:Nat},RnP (m+1) s'->(s'.why=L->m+1<=k)->(∀v,s'.why=Y v->dt v=U)->RnI C (m+1) { s' with n:=k }:=λ{s' k} p l y=>
  {{p.ok.so,p.ok.gw,p.ok.nw,p.ok.l1,p.ok.l2,p.ok.l3,p.ok.l4,p.ok.nd},p.ng,p.nn,l,y}
 have A:∀u,RnI C (m+1) { s with why:=Y (zbx u) }:=λu=>{{P.up.ok.so,P.up.ok.gw,P.up.ok.nw,P.up.ok.l1,P.up.ok.l2,P.up.ok.l3,P.up.ok.l4,P.up.ok.nd},P.ng,P.nn,λz=>(by cases z),λv z=>by cases z;exact zj5 u};have q:∀r:Rw,YI r->zai (.row r)->zh6 (.row r)->RnI C (m+1) (yP (.row r) w s):=λr T ok I=>by
  unfold yP;rw[zbS T];cases hk:Ai r w s with
  |error u=>exact A u
  |ok s'=>
   have #[a,b]:=zj4 P T ok I hw hk;exact fin a (λ_=>by lia) (λv z=>h.wy v (by rw[<-b];exact z))
 rw[es];have hg:∀to,C[s.n]=.go to->s.n<to:=λto e=>O.fg s.n to (by rw[J,e]);have hs:∀e to,C[s.n]=.skip e to->s.n<to:=λe to e2=>O.fw s.n to e (by rw[J,e2]);generalize C[s.n]=c at *
 cases c with
 |go to=>
  have:=hg to rfl;exact fin P.up (λ_=>by lia) h.wy
 |skip e to=>
  have:=hs e to rfl;cases hk:rk s.sl e with
  |error u=>simp only[yP,x6,hk];exact A u
  |ok i=>
   simp only[yP,x6,hk];refine fin P.up (λ_=>?_) h.wy;split <;> lia
 |row r=>
  cases r with
  |off e=>
   cases hk:rk s.sl e with
   |error u=>simp only[yP,x6,hk];exact A u
   |ok i=>
    by_cases hi:i=0
    .simp only[yP,x6,hk,ao hi];exact fin P.up (λ_=>by lia) h.wy
    .simp only[yP,x6,hk,ak hi];exact fin (s':={ s with why:=Y (br "told") }) {{P.up.ok.so,P.up.ok.gw,P.up.ok.nw,P.up.ok.l1,P.up.ok.l2,P.up.ok.l3,P.up.ok.l4,P.up.ok.nd},P.ng,P.nn} (λz=>by cases z) (λv z=>by cases z;lia)
  |iff e b d=>exact fin (k:=s.n+1) P.up (λ_=>by lia) h.wy
  |take sh e x=>exact q (.take sh e x) trivial ok I
  |give sh e x=>exact q (.give sh e x) trivial ok I
  |lt sh e=>exact q (.lt sh e) trivial ok I
  |say e=>exact q (.say e) trivial ok I
theorem Vm{w:Int}(u:yy C s=am):(j7 C s=L->(xh C w s).no=s.no)/\∀p,j7 C s=Y p->(xh C w s).no=s.no++[(p,w)]:=by
 have no:¬ yy C s=U:=by rw[u];decide
 have lt:=qJ no;have q:C[s.n]?=Y C[s.n]:=ba lt;have es:xh C w s=yP C[s.n] w s:=by unfold xh;rw[ak no,q]
 have A:j7 C s=kZ C[s.n] s:=by unfold j7;rw[ak no,q];rfl
 rw[es,A];generalize C[s.n]=c at *
 have k:∀m,(∀p,kZ m s≠Y p)->(yP m w s).no=s.no->(kZ m s=L->(yP m w s).no=s.no)/\∀p,kZ m s=Y p->(yP m w s).no=s.no++[(p,w)]:=λm a b=>{λ_=>b,λp z=>absurd z (a p)};cases c with
 |go to=>exact k _ (λp z=>nomatch z) rfl
 |skip e to=>
  refine k _ (λp z=>nomatch z) ?_;cases hk:rk s.sl e <;> simp only[yP,x6,hk]
 |row r=>
  cases r with
  |off e=>
   refine k _ (λp z=>nomatch z) ?_;cases hk:rk s.sl e with
   |error er=>simp only[yP,x6,hk]
   |ok i=>
    simp only[yP,x6,hk];split <;> rfl
  |iff e b d=>exact k _ (λp z=>nomatch z) rfl
  |give sh e f=>
   refine k _ (λp z=>nomatch z) ?_;cases hk:rk s.sl e with
   |error er=>simp only[yP,x6,Ai,hk]
   |ok i=>cases hk2:rk s.sl f <;> simp only[yP,x6,Ai,hk,hk2]
  |lt x e=>
   refine k _ (λp z=>nomatch z) ?_;cases hk:rk s.sl e <;> simp only[yP,x6,Ai,hk]
  |say e=>
   refine k _ (λp z=>nomatch z) ?_;cases hk:rk s.sl e <;> simp only[yP,x6,Ai,hk]
  |take sh e x=>
   cases hk:rk s.sl e with
   |error er=>exact k _ (λp z=>by simp only[kZ,hk] at z;cases z) (by simp only[yP,x6,Ai,hk])
   |ok n=>
    simp only[yP,x6,Ai,kZ,hk];by_cases c:(zE s.gi (sh,n)).isSome=U\/(zE s.no (sh,n)).isSome=U
    .rw[ao c];exact{λ_=>by unfold j6;rw[ao c],λp z=>nomatch z}
    .rw[ak c];exact{λz=>(nomatch z),λp z=>by cases z;unfold j6;rw[ak c]}
structure FwC(k:Nat)(C:Aw):Prop where
 ok:∀c∈C,zai c/\zh6 c
 fw:∀(i to:Nat)(e:LV),C[i]?=Y (Cs.skip e to)->k+i<to
 fg:∀(i to:Nat),C[i]?=Y (Cs.go to)->k+i<to
theorem FwC.nil(k:Nat):FwC k []:={λc h=>(nomatch h),λi to e h=>by simp at h,λi to h=>by simp at h}
theorem FwC.cons(w:zai c/\zh6 c)(u:∀e to,c=.skip e to->k<to)(q:∀to,c=.go to->k<to)(h:FwC (k+1) C):FwC k (c::C):=by
 refine{λx hx=>?_,λi to e m=>?_,λi to m=>?_}
 .obtain rfl|hx:=bC.mp hx
  .exact w
  .exact h.ok x hx
 .cases i with
  |zero=>have:=u e to (by simpa using m);lia
  |succ i=>have:=h.fw i to e (by simpa using m);lia
 .cases i with
  |zero=>have:=q to (by simpa using m);lia
  |succ i=>have:=h.fg i to (by simpa using m);lia
theorem FwC.app:∀ {A:Aw}{k:Nat}{m:Aw},FwC k A->FwC (k+A.length) m->FwC k (A++m)
 |[],k,m,_,h=>by simpa using h
 |c::A,k,m,h,h'=>by
  rw[dY];refine .cons (h.ok c bw) (λe to z=>by have:=h.fw 0 to e (by rw[z];rfl);lia) (λto z=>by have:=h.fg 0 to (by rw[z];rfl);lia) (FwC.app {λx u=>h.ok x (bt _ u),λi to e q=>?_,λi to q=>?_} (by rw[b7] at h';rw[show k+1+A.length=k+(A.length+1) by lia];exact h'))
  .have:=h.fw (i+1) to e (by simpa using q);lia
  .have:=h.fg (i+1) to (by simpa using q);lia
mutual
theorem zgX:∀(r:Rw)(k:Nat),Zv r->V6 r->FwC k (wb r k)
 |.iff e a b,k,o,p=>by
  unfold Zv at o;unfold V6 at p;have m:=Yi a (k+1) o.2.1 p.2.1;have u:=Yi b (k+2+(yn a (k+1)).length) o.2.2 p.2.2;have w:wb (.iff e a b) k=blk e k (yn a (k+1)) (aY.isNil b) (yn b (k+2+(yn a (k+1)).length)):=by rw[wb]
  rw[w];generalize yn a (k+1)=A at *
  generalize yn b (k+2+A.length)=Bn at *
  unfold blk;split
  .exact .cons {o.1,trivial} (λq c z=>by cases z;lia) (λc z=>nomatch z) m
  .refine .cons {o.1,trivial} (λq c z=>by cases z;lia) (λc z=>nomatch z) (.app m (.cons {trivial,trivial} (λq c z=>nomatch z) (λc z=>by cases z;lia) ?_));rw[show k+1+A.length+1=k+2+A.length by lia];exact u
 |.take sh e sl,k,o,p=>by rw[jp (x:=.take sh e sl) trivial];exact .cons {o,p} (nofun) () (.nil _)
 |.give sh e f,k,o,p=>by rw[jp (x:=.give sh e f) trivial];exact .cons {o,p} (nofun) () (.nil _)
 |.lt sl e,k,o,p=>by rw[jp (x:=.lt sl e) trivial];exact .cons {o,p} (nofun) () (.nil _)
 |.say e,k,o,p=>by rw[jp (x:=.say e) trivial];exact .cons {o,p} (nofun) () (.nil _)
 |.off e,k,o,p=>by rw[jp (x:=.off e) trivial];exact .cons {o,p} (nofun) () (.nil _)
theorem Yi:∀(r:aY)(k:Nat),Yn r->Zx r->FwC k (yn r k)
 |.nil,k,o,p=>by rw[yn];exact .nil k
 |.cons r rs,k,o,p=>by unfold Yn at o;unfold Zx at p;rw[yn];exact .app (zgX r k o.1 p.1) (Yi rs _ o.2 p.2)
end
theorem zlf{r:aY}(w:Jq 6 r)(u:Yn r)(q:(yn r 0).length<=40):X5 (yn r 0):=by have f:=Yi r 0 u w.pl;exact{λc m=>(f.ok c m).1,λc m=>(f.ok c m).2,λi k e h=>by have:=f.fw i k e h;lia,λi k h=>by have:=f.fg i k h;lia,q}
def Yv{H':Hp}(h:gV H l ah)(k:∀o,H l=Y o->H' l=Y o)(c:AQ H H'):gV H' l ah:=by have #[xs,q,m]:=h;exact{xs,k _ q,Paired.mapP m λ_ _ ⟨r,p,z,w,u⟩=>{r,p,z,c _ _ w,c _ _ u}}
def zif{H':Hp}(h:gV H l ah)(s:aJ H H'):gV H' l ah:=Yv h (λo e=>s _ _ e) λb ys e=>s _ _ e
section
variable {m:Nat}
def y8{H:Hp}(h:H a=Y o)(k:H b=L):b≠a:=λz=>by rw[z,h] at k;cases k
def zdQ{H':Hp}(h:Js H v oc)(s:aJ H H'):Js H' v oc:=by
 cases oc with
 |done sa=>have #[o,y,k,c,q]:=h;exact{o,y,k,s _ _ c,s _ _ q}
 |off w=>have #[o,k,c]:=h;exact{o,k,s _ _ c}
def zgY{H':Hp}(h:Js H v oc)(s:AQ H H'):Js H' v oc:=by
 cases oc with
 |done sa=>have #[o,y,k,c,q]:=h;exact{o,y,k,s _ _ c,s _ _ q}
 |off w=>have #[o,k,c]:=h;exact{o,k,s _ _ c}
def zig(h:k9 s out)(c:k9 s out'):out=out':=by
 unfold k9 at h c;cases e:s.why with
 |some w=>rw[e] at h c;rw[h,c]
 |none=>rw[e] at h c;exact YE h.1 c.1 λ⟨p,w⟩=>(h.2 p w).trans (c.2 p w).symm
theorem JC(h:k9 s out):out.length<=s.gi.length:=by
 unfold k9 at h;cases e:s.why with
 |some w=>rw[e] at h;rw[h];exact cf _
 |none=>
  rw[e] at h;have ld:=wO s.gi;have O:((uU s.gi).map (·.1)).Nodup:=(jB s.gi).1;have u:((out.map (·.1)).map zI).Nodup:=by
   have:=h.1.nd;unfold gJ at *
   rw[gI];exact this.imp λ{a b} q z=>q (y9 z)
  have c:∀k∈(out.map (·.1)).map zI,k∈(uU s.gi).map (·.1):=λk J=>by have #[p,I,rfl]:=bK.mp J;have #[r,A,rfl]:=bK.mp I;exact bE (f:=(·.1)) (As.mpr {r.1,r.2,Z,(h.2 r.1 r.2).mp A})
  have:=xE u c;simp only[bn] at this;lia
end
theorem atI_last :Ay (xs++[y]) (-1)=Y y:=by
 have e:ixN (xs++[y]).length (-1)=Y ((xs++[y]).length-1):=by unfold ixN;rw[bh,cP];simp;lia
 unfold Ay;rw[e];exact JB
def zgZ{H0 H1 q:Hp}{a:RAd}(I:aJ H0 H1)(c:H1 x=L)(k:H1 dx=L)(w:Qn x (upd (upd H1 dx (.own x)) x (.ins t.q01 dx [])) q)(A:∀b,OwA x a b->b=x\/upd (upd H1 dx (.own x)) x (.ins t.q01 dx []) b=L):aJ H1 q/\∀b,OwA x a b->H1 b=L:=by
 have m:aJ H1 (upd (upd H1 dx (HO.own x)) x (HO.ins t.q01 dx [])):=λb o e=>by rw[zt (zB e c),zt (zB e k)];exact e
 refine{λb o e=>w b o (λz=>by rw[z,c] at e;cases e) (m b o e),λb u=>?_};obtain z|z:=A b u
 .rw[z];exact c
 .exact zK m z
def aZ.has{a:RAd}{s:hU}(R:aZ t H x a C s)(c:OwA x a b):H b≠L:=by
 have #[ys,k,_]:=R.hc;obtain (z|z|z|z|z)|z:=c
 .rw[z,R.ix];exact nofun
 .rw[z,R.hs];exact nofun
 .rw[z,R.hg];exact nofun
 .rw[z,R.hn];exact nofun
 .rw[z,R.ha];exact nofun
 .rw[z,k];exact nofun
def _root_.L2.PrAt.same{H H':Hp}(h:zbL H v q)(s:aJ H H'):zbL H' v q:=by have #[r,p,e,k,c]:=h;exact{r,p,e,s _ _ k,s _ _ c}
def _root_.L2.PrAt.tsame{H H':Hp}(h:zbL H v q)(s:zbT H H'):zbL H' v q:=by have #[r,p,e,k,c]:=h;exact{r,p,e,s _ _ k,s _ _ c}
theorem JE{H H':Hp}(s:zbT H H'):∀ {vs:LV}{ah:zD},jE H vs ah->jE H' vs ah
 |_,_,.nil=>.nil
 |_,_,.cons h r=>.cons (h.tsame s) (JE s r)
theorem vb{H H':Hp}(s:aJ H H'):∀ {vs:LV}{ah:zD},jE H vs ah->jE H' vs ah
 |_,_,.nil=>.nil
 |_,_,.cons h r=>.cons (h.same s) (vb s r)
def zbU(h:jE H vs ah):vs.length=ah.length:=bG h
theorem Qu{H:Hp}{v:V}{q:Row}:∀ {ys:LV}{ah:zD},jE H ys ah->zbL H v q->jE H (ys++[v]) (ah++[q])
 |_,_,.nil,h=>.cons h .nil
 |_,_,.cons a r,h=>.cons a (Qu r h)
def JF(ah:zD):∃c:List Pl,(uU ah).map (·.1)=c.map zI/\c.Nodup/\∀p,p∈c↔(zE ah p).isSome=U:=by
 have h:=jB ah;have:∀(m:yd),(∀kv∈m,∃(p:Pl)(w:Int),kv=(zI p,.int w))->∃c:List Pl,m.map (·.1)=c.map zI:=λm=>by
  induction m with
  |nil=>exact λ_=>{[],Z}
  |cons kv r ih=>
   intro k;have #[c,e]:=ih λz O=>k z (bt _ O);have #[p,w,T]:=k kv bw;exact{p::c,by rw[bB,bB,e,T]}
 have #[c,e]:=this _ h.2;refine{c,e,xX (f:=zI) (by rw[<-e];exact h.1),λp=>?_};constructor
 .intro A;have:zI p∈(uU ah).map (·.1):=by rw[e];exact bE A
  have #[kv,k,I]:=bK.mp this;have #[J,w,rfl,q]:=As.mp k;have:=y9 I;subst this;rw[q];rfl
 .intro A;have #[w,q]:=gB.mp A;have:zI p∈c.map zI:=by rw[<-e];exact bE (f:=(·.1)) (As.mpr {p,w,Z,q})
  have #[J,u,I]:=bK.mp this;rw[<-y9 I];exact u
def JG(ah:zD)(p:Pl):Option Row:=match zE ah p with
 |some w=>if w=0 then L else Y (p,w)
 |none=>L
def zj6(ah:zD)(k:List Pl)(i:Nat)(ys:LV)(H:Hp):Prop:=∃c:zD,jE H ys c/\c=(k.take i).filterMap (JG ah)
def zih{H H':Hp}(s:zbT H H')(h:zj6 ah qs i ys H):zj6 ah qs i ys H':=by have #[c,m,k]:=h;exact{c,JE s m,k}
theorem AC{p:Pl}{b:Row}:JG ah p=Y b↔b.1=p/\zE ah p=Y b.2/\b.2≠0:=by
 unfold JG;have #[m,k]:=b;cases e:zE ah p with
 |none=>simp
 |some w=>
  by_cases h:w=0
  .subst h;simp only[if_true];constructor
   .intro z;cases z
   .rintro⟨_,z,c⟩;exact absurd (bU z).symm c
  .simp only[ak h,mz,Prod.mk.injEq];constructor
   .rintro⟨rfl,rfl⟩;exact{Z,Z,h}
   .rintro⟨rfl,rfl,_⟩;exact{Z,Z}
def zj7{ps:List Pl}(q:ps.Pairwise λa b=>yM a b=U)(u:∀p,p∈ps↔(zE ah p).isSome=U):wD ah (ps.filterMap (JG ah)):=by
 constructor
 .unfold Ae;rw[List.pairwise_filterMap];refine q.imp λ{a J} h b z I k=>?_;rw[(AC.mp z).1,(AC.mp k).1];exact h
 .intro p w;rw[List.mem_filterMap];constructor
  .rintro⟨a,_,h⟩;have #[c,m,A]:=AC.mp h;cases c;exact{m,A}
  .rintro⟨c,m⟩;exact{p,(u p).mpr (by rw[c];rfl),AC.mpr {Z,c,m}}
theorem v7{p:Pl}{w:Int}:∀ {l:zD},zE l p=Y w->(p,w)∈l
 |[],h=>by cases h
 |r::t,h=>by
  rw[zE] at h;cases e:zE t p with
  |some w'=>
   rw[e] at h;have:w'=w:=by simpa using h
   subst this;exact bt _ (v7 e)
  |none=>
   rw[e] at h;by_cases c:r.1=p
   .rw[ao c] at h;have:r.2=w:=by simpa using h
    rw[<-c,<-this];exact bw
   .rw[ak c] at h;cases h
theorem zeT(h:wD ah out):out.length<=ah.length:=by have m:=zhU h;have k:=mG nzV (uU ah);have c:=wO ah;lia
def gV.same{H H':Hp}(h:gV H a ah)(s:aJ H H'):gV H' a ah:=by have #[xs,k,c]:=h;exact{xs,s _ _ k,vb s c}
theorem zbV{H:Hp}{b:zD}{ys:LV}(c:jE H ys b):∀ {xs:LV}{a:zD},jE H xs a->jE H (xs++ys) (a++b)
 |_,_,.nil=>c
 |_,_,.cons h r=>.cons h (zbV c r)
theorem zlg(h:lfV v):qv v/\isJ v=am/\plV v:=by
 obtain ⟨i,rfl,hi⟩|⟨x,rfl,hx⟩:=h
 .exact{.inl {i,Z,hi},Z,.inl {i,Z}}
 .have:=Y4 hx;exact{.inr {x,Z,()},this.2.2.1,.inr {x,Z,Yh hx}}
def aT.same{H H':Hp}(h:aT H nm ws)(s:aJ H H'):aT H' nm ws:={s _ _ h.1,h.2}
def zbW(h:aT H nm ws)(n:Nat)(hl:ws.length=n)(m:0<(n:Int))(e:Int):∃x,Ay (ws.map V.str) (e%n)=Y (.str x)/\x∈ws/\xx x=U:=by have #[v,k,q]:=zj0 e n (xs:=ws.map V.str) (by rw[bn,hl]) m;have #[x,c,rfl]:=bK.mp q;exact{x,k,c,h.2 x c}
theorem Qv{a b:LV}(m:aW a)(k:aW b)(c:wdJ w)(l:a.length+b.length<1000):aW (a++b++[.str w]):=by
 refine{λq=>?_,λz hz=>?_,by rw[bh,bh,cP];lia}
 .have #[J,A]:=m.1 q;have #[I,u]:=k.1 q;exact{_,zex c.1 A u}
 .obtain hz|hz:=bp.mp hz
  .obtain hz|hz:=bp.mp hz
   .exact m.2.1 z hz
   .exact k.2.1 z hz
  .rw[bo.mp hz];exact .inr {w,Z,c.2.1}
def zdR{a b:LV}(m:tmP a)(k:tmP b)(c:wdJ w):tmP (a++b++[.str w]):=λz hz=>by
 obtain hz|hz:=bp.mp hz
 .obtain hz|hz:=bp.mp hz
  .exact m z hz
  .exact k z hz
 .rw[bo.mp hz];exact .inr {w,Z,c.2.2}
def Xw(h:lfV u):aW [u]/\tmP [u]:=by have #[k,m,c]:=zlg h;exact{zgC k m,λz q=>by rw[bo.mp q];exact c}
mutual
theorem zii:∀(r:Rw)(k:Nat),(wb r k).length<=szR r/\r.cnt<=szR r
 |.iff e a b,k=>by
  have q:=Xx a (k+1);have m:=Xx b (k+2+(yn a (k+1)).length);have c:(Rw.iff e a b).cnt=max a.cnt b.cnt+1:=by rw[Rw.cnt]
  have z:szR (.iff e a b)=ZJ a+ZJ b+2:=by rw[szR]
  rw[wb,c,z];unfold blk;split
  .exact{by simp;lia,()}
  .exact{by simp;lia,()}
 |.take sh e sl,k=>by simp[wb,szR,Rw.cnt]
 |.give sh e f,k=>by simp[wb,szR,Rw.cnt]
 |.lt sl e,k=>by simp[wb,szR,Rw.cnt]
 |.say e,k=>by simp[wb,szR,Rw.cnt]
 |.off e,k=>by simp[wb,szR,Rw.cnt]
theorem Xx:∀(r:aY)(k:Nat),(yn r k).length<=ZJ r/\r.cnt<=ZJ r
 |.nil,k=>by simp[yn,ZJ,aY.cnt]
 |.cons r rs,k=>by have m:=zii r k;have c:=Xx rs (k+(wb r k).length);rw[yn,ZJ,aY.cnt,bh];lia
end
theorem qf(C:Aw)(c:PlI):∀(a b:Nat)(s:hU),Ju C c (a+b) s=Ju C c b (Ju C c a s)
 |0,b,s=>by rw[i7];rfl
 |a+1,b,s=>by rw[tH];exact qf C c a b (X6 C c s)
theorem JH{C:Aw}{c:PlI}{s:hU}(h:yy C s=U):∀k,Ju C c k s=s
 |0=>rfl
 |k+1=>by
  have e:X6 C c s=s:=by unfold X6 xh;rw[ao h]
  show Ju C c k (X6 C c s)=s;rw[e];exact JH h k
theorem zeU(c:Cs)(w:Int)(s:hU):(yP c w s).gi.length+(yP c w s).no.length<=s.gi.length+s.no.length+1:=by
 have z:s.gi.length+s.no.length<=s.gi.length+s.no.length+1:=by lia
 cases c with
 |go k=>exact z
 |skip e to=>cases hk:rk s.sl e with
  |error x=>simp only[yP,x6,hk];exact z
  |ok i=>simp only[yP,x6,hk];exact z
 |row r=>
  cases r with
  |off e=>cases hk:rk s.sl e with
   |error x=>simp only[yP,x6,hk];exact z
   |ok i=>
    simp only[yP,x6,hk];split
    .exact z
    .exact z
  |iff e a b=>exact z
  |take sh e x=>cases hk:rk s.sl e with
   |error x=>simp only[yP,x6,Ai,hk];exact z
   |ok i=>
    simp only[yP,x6,Ai,hk];unfold j6;split
    .exact z
    .show s.gi.length+(s.no++[((sh,i),w)]).length<=_;rw[bh,cP];lia
  |give sh e f=>cases hk:rk s.sl e with
   |error x=>simp only[yP,x6,Ai,hk];exact z
   |ok i=>cases hk2:rk s.sl f with
    |error x=>simp only[yP,x6,Ai,hk,hk2];exact z
    |ok j=>
     simp only[yP,x6,Ai,hk,hk2];rw[bh,cP];lia
  |lt x e=>cases hk:rk s.sl e with
   |error x=>simp only[yP,x6,Ai,hk];exact z
   |ok i=>simp only[yP,x6,Ai,hk];exact z
  |say e=>cases hk:rk s.sl e with
   |error x=>simp only[yP,x6,Ai,hk];exact z
   |ok i=>simp only[yP,x6,Ai,hk];exact z
theorem zij(C:Aw)(c:PlI)(s:hU):(X6 C c s).gi.length+(X6 C c s).no.length<=s.gi.length+s.no.length+1:=by
 unfold X6 xh;split
 .lia
 .split
  .lia
  .exact zeU ..
def rn0 :RnI C 0 mt:={{(λk v e=>by cases e),(λr h=>nomatch h),(λr h=>nomatch h),bq _,bq _,bq _,bq _,cY},(λr h=>nomatch h),(λr h=>nomatch h),λ_=>cf _,λw z=>nomatch z}
structure FdS(t:uQ)(H0 H:Hp)(x:af)(a:RAd)(C:Aw)(tb:PlI)(k:Nat)(s:hU):Prop where
 sm:aJ H0 H
 R:aZ t H x a C s
 I:RnI C k s
 rc:Ju C tb k mt=s
 fw:s.gi.length+s.no.length<=k
 le:k<=C.length
def FdS.same{H0 H':Hp}{a:RAd}{C:Aw}{tb:PlI}{k:Nat}{s:hU}(S:FdS t H0 H x a C tb k s)(h:aJ H H'):FdS t H0 H' x a C tb k s:={S.sm.trans h,S.R.same h,S.I,S.rc,S.fw,S.le}
def fdI(t:uQ)(H0:Hp)(l tl x:af)(a:RAd)(C:Aw)(c:PlI)(m:Nat)(σ:St)(H:Hp):Prop:=∃k s,m=C.length-k/\(∃o,σ=[Y (.ref l),Y (.ref tl),Y (.ref x),o])/\FdS t H0 H x a C c k s
section
variable {a:RAd}
theorem FdS.step{H1 c:Hp}(O:X5 C)(u:∀b,OwA x a b->H0 b=L)(S:FdS t H0 H1 x a C tb k s)(m:yy C s=am)(z:u3 (Kc C tb s)=U)(w:Kp x a H1 c)(R2:aZ t c x a C (xh C (Kc C tb s) s)):FdS t H0 c x a C tb (k+1) (X6 C tb s):=by
 have no:¬ yy C s=U:=by rw[m];decide
 have A:=qJ no;have q:s.why=L:=by
  cases e:s.why with
  |none=>rfl
  |some v=>exact absurd (show yy C s=U by unfold yy;rw[e];rfl) no
 have:=S.I.at_ q;refine{λb o e=>w b o (λy=>by rw[u b (.inl y)] at e;cases e) (S.sm _ _ e),R2,zdP O S.I m z,?_,?_,()}
 .rw[qf,S.rc];rfl
 .have:=zij C tb s;have:=S.fw;lia
end
def zg0(I:RnI C m s)(h:k9 s out):∀r∈out,u3 r.2=U:=by
 unfold k9 at h;cases e:s.why with
 |some w=>rw[e] at h;rw[h];exact λr c=>nomatch c
 |none=>
  rw[e] at h;intro r c;exact wa (P:=λr=>u3 r.2=U) I.ok.gw ((h.2 r.1 r.2).mp c)
structure MkF(K:bL)(t:uQ):Prop where
 cl:AB K t.q02
 g:aM K t.q02 "ground"
 f:aM K t.q02 "folded"
 w:aM K t.q02 "worths"
 r:aM K t.q02 "ranks"
def mkF{P:AG}(T:Txt K P t):MkF K t:={T.q0b,T.q2p,T.q2o,T.q2r,T.q2q}
section
variable {gr wo rk:af}{low:Int}
theorem zlh:dJ (br "ground") (YK gr low wo rk)=Y (.ref gr):=by simp only[YK,cK,beq_self_eq_true]
theorem zj8:dJ (br "folded") (YK gr low wo rk)=Y (.int low):=by
 have c:(br "folded" == br "ground")=am:=by lia
 simp only[YK,cK,c,beq_self_eq_true]
theorem zik:dJ (br "worths") (YK gr low wo rk)=Y (.ref wo):=by
 have k:(br "worths" == br "ground")=am:=by lia
 have c:(br "worths" == br "folded")=am:=by lia
 simp only[YK,cK,k,c,beq_self_eq_true]
theorem zg1:dJ (br "ranks") (YK gr low wo rk)=Y (.ref rk):=by
 have m:(br "ranks" == br "ground")=am:=by lia
 have k:(br "ranks" == br "folded")=am:=by lia
 have c:(br "ranks" == br "worths")=am:=by lia
 simp only[YK,cK,m,k,c,beq_self_eq_true]
end
theorem zdS{rs:ym}{k:Nat}{x:Int}(h:rs.Pairwise (· < ·))(e:rs[k]?=Y x):∀r∈rs.take (k+1),r<=x:=λr m=>by
 have #[j,c]:=cE m;rw[dP] at c;split at c
 .have #[u,z]:=bd.mp c;have #[q,w]:=bd.mp e;obtain hl|hg:=mO j k
  .have:=dC.mp h j k u q hl;lia
  .have:j=k:=by lia
   subst this;lia
 .cases c
theorem zil{rs:ym}{k:Nat}{x:Int}(h:rs.Pairwise (· < ·))(e:rs[k]?=Y x):∀r∈rs.drop k,x<=r:=λr m=>by
 have #[j,c]:=cE m;rw[eV] at c;have #[w,u]:=bd.mp c;have #[q,z]:=bd.mp e;obtain rfl|hp:=oA j
 .simp only[Nat.add_zero] at u;lia
 .have:=dC.mp h k (k+j) q w ();lia
def mbW(a:af)(ae:Int)(rs:ym)(H:Hp)(m:Nat)(σ:St)(H':Hp):Prop:=∃(lo c:Nat)(o:Option V),σ=[Y (.ref a),Y (.int ae),Y (.int lo),Y (.int c),o]/\aJ H H'/\lo<=c/\c<=rs.length/\m=c-lo/\(∀r∈rs.take lo,r<ae)/\(∀r∈rs.drop c,ae<=r)
theorem YN(p:Pl)(c:Int):∀(k:zD)(s:Int×Int),Jv p c k s=match zE k p with|none=>s|some w=>(c,w)
 |[],s=>rfl
 |r::k,s=>by
  rw[Jv,YN p c k,zE];cases zE k p with
  |some w=>rfl
  |none=>
   by_cases e:r.1=p
   .rw[ao e,ao e];rfl
   .rw[ak e,ak e];rfl
theorem xH(p:Pl)(ae:Int):∀(lays:Aj)(s:Int×Int),(wc p ae lays s=s/\∀y∈lays,s.1<y.1->y.1<ae->zE y.2 p=L) \/
  ∃y∈lays,∃w,zE y.2 p=Y w/\y.1<ae/\s.1<y.1/\wc p ae lays s=(y.1,w)/\∀z∈lays,z.1<ae->zE z.2 p≠L->z.1<=y.1
 |[],s=>.inl {Z,λ_ h=>nomatch h}
 |l::ls,s=>by
  rw[wc];by_cases c:s.1<l.1/\l.1<ae
  .rw[ao c,YN];cases e:zE l.2 p with
   |some w=>
    obtain ⟨h1,h2⟩|⟨y,hy,w',e1,e2,e3,e4,e5⟩:=xH p ae ls (l.1,w)
    .refine .inr {l,bw,w,e,c.2,c.1,h1,λz hz k m=>?_};obtain rfl|hz:=bC.mp hz
     .exact sS _
     .obtain hl|hl:=Int.lt_or_le l.1 z.1
      .exact absurd (h2 z hz hl k) m
      .exact hl
    .have q:l.1<y.1:=e3;refine .inr {y,bt _ hy,w',e1,e2,(),e4,λz hz k m=>?_};obtain rfl|hz:=bC.mp hz
     .lia
     .exact e5 z hz k m
   |none=>
    obtain ⟨h1,h2⟩|⟨y,hy,w',e1,e2,e3,e4,e5⟩:=xH p ae ls s
    .refine .inl {h1,λy hy a b=>?_};obtain rfl|hy:=bC.mp hy
     .exact e
     .exact h2 y hy a b
    .refine .inr {y,bt _ hy,w',e1,e2,e3,e4,λz hz k m=>?_};obtain rfl|hz:=bC.mp hz
     .exact absurd e m
     .exact e5 z hz k m
  .rw[ak c];obtain ⟨h1,h2⟩|⟨y,hy,w',e1,e2,e3,e4,e5⟩:=xH p ae ls s
   .refine .inl {h1,λy hy a b=>?_};obtain rfl|hy:=bC.mp hy
    .exact absurd {a,b} c
    .exact h2 y hy a b
   .refine .inr {y,bt _ hy,w',e1,e2,e3,e4,λz hz k m=>?_};obtain rfl|hz:=bC.mp hz
    .obtain hl|hl:=Int.lt_or_le s.1 z.1
     .exact absurd {hl,k} c
     .lia
    .exact e5 z hz k m
def wa{c:zD}{p:Pl}(k:(c.map (·.1)).Nodup):p∈c.map (·.1)↔zE c p≠L:=by
 constructor
 .intro h e;have #[r,m,rfl]:=bK.mp h;have:=(qx (p:=r.1) (w:=r.2) k).mpr m;rw[e] at this;cases this
 .intro h;cases e:zE c p with
  |none=>exact absurd e h
  |some w=>exact bK.mpr {_,(qx k).mp e,Z}
theorem zam{rk:af}{F:Ad}{r:Int}{k:zD}:∀ {c:xB}{l:Aj},Bl (zbM H rk F) c l->(l.map (·.1)).Nodup->(r,k)∈l->∃d,yt c (.inl r)=Y (.ref d)/\F d/\d≠rk/\H d=Y (.dT (uU k))
 |_,_,.nil,_,h=>nomatch h
 |_,_,@Paired.cons _ _ _ kv y c l ⟨e,d,e2,fd,nd,hd⟩ rest,n,h=>by
  rw[bB,cw] at n;obtain rfl|h:=bC.mp h
  .exact{d,by rw[xt e,e2],fd,nd,hd}
  .have m:¬ kv.1=.inl r:=λz=>n.1 (by rw[e] at z;cases z;exact bE (f:=(·.1)) h);rw[xu m];exact zam rest n.2 h
theorem zdT{rk:af}{F:Ad}:∀ {c:xB}{l:Aj},Bl (zbM H rk F) c l->c.map (·.1)=l.map λy=>(i9 y.1:Key)
 |_,_,.nil=>rfl
 |_,_,.cons h rest=>by rw[bB,bB,h.1,zdT rest]
def zan{rk:af}{F:Ad}{r:Int}{c:xB}{l:Aj}(h:Bl (zbM H rk F) c l)(n:r ∉ l.map (·.1)):yt c (.inl r)=L:=by refine zal λz=>n ?_;rw[zdT h] at z;have #[y,k,e]:=bK.mp z;cases e;exact bE k
theorem zao{rk:af}{F:Ad}{r:Int}:∀ {c:xB}{l:Aj},Bl (zbM H rk F) c l->Bl (zbM H rk F) (yO c (.inl r)) (Kd l r)
 |_,_,.nil=>.nil
 |_,_,@Paired.cons _ _ _ kv y c l h rest=>by
  unfold Kd;by_cases e:y.1=r
  .rw[KU (by rw[h.1,e]),gQ (by simp[e])];exact zao rest
  .rw[XV (λz=>e (by rw[h.1] at z;cases z;rfl)),gR (by simp[e])];exact .cons h (zao rest)
def zim{l:Aj}{r:Int}(h:r ∉ l.map (·.1)):Kd l r=l:=sQ.mpr λy c=>Bj λe=>h (by rw[<-e];exact bE c)
def JI{l:Aj}{r:Int}:r ∉ (Kd l r).map (·.1):=λh=>by have #[y,c,e]:=bK.mp h;exact of_decide_eq_true (cC.mp c).2 e
def uT.get{rk:af}{F:Ad}{P:Pl->Int->Prop}{c:yd}(h:uT H rk F P c)(p:Pl):(∃a rs,(zI p,V.ref a)∈c/\yt c (zI p)=Y (.ref a)/\F a/\H a=Y (.lst (rs.map V.int))/\rs.Pairwise (· < ·)/\rs≠[]/\∀r,r∈rs↔P p r)\/(yt c (zI p)=L/\zI p ∉ c.map (·.1)/\∀r,¬ P p r):=by
 by_cases hm:zI p∈c.map (·.1)
 .have #[kv,k,e]:=bK.mp hm;have #[m,a,rs,rfl,z]:=h.ls kv k;have:m=p:=y9 e;subst this;exact .inl {a,rs,k,Q8 h.nk _ k,z}
 .exact .inr {zal hm,hm,λr q=>hm (h.al p r q)}
theorem zj9{rs:ym}{l:Aj}{p:Pl}(h:rs.Pairwise (· < ·))(m:∀r,r∈rs->jP l p r):rs.length<=l.length:=by
 have c:rs.Nodup:=oS (λh=>ue h) h;have:=xE (b:=l.map (·.1)) c λx k=>let ⟨gs,h1,_⟩:=m x k;bK.mpr {_,h1,Z}
 simpa using this
section
variable {rk:af}{H'':Hp}
def dl.refl:dl G rk H H:=λ_ _ e _ _=>e
def dl.same(k:dl G rk H H')(s:aJ H' H''):dl G rk H H'':=λb o e n z=>s _ _ (k b o e n z)
def dl.dct(k:dl G rk H H')(o:HO):dl G rk H (upd H' rk o):=λb u e n z=>by rw[zt n];exact k b u e n z
def dl.lst(k:dl G rk H H')(m:H' a=Y (.lst xs))(q:G a):dl G rk H (upd H' a (.lst ys)):=λb u e n z=>by
 have c:=k b u e n z;by_cases hb:b=a
 .subst hb;obtain z|z:=z
  .rw[m] at c;exact absurd (bU c).symm (z xs)
  .exact absurd q z
 .rw[zt hb];exact c
end
theorem zap{k m:Type}{f:k->m}:∀ {l:List k},(l.map f).Nodup->∀ {x y:k},x∈l->y∈l->f x=f y->x=y
 |[],_,_,_,h,_,_=>nomatch h
 |c::l,n,x,y,hx,hy,e=>by
  rw[bB,cw] at n;obtain h1|h1:=bC.mp hx
  .obtain h2|h2:=bC.mp hy
   .rw[h1,h2]
   .exact absurd (by rw[<-h1,e];exact bE h2) n.1
  .obtain h2|h2:=bC.mp hy
   .exact absurd (by rw[<-h2,<-e];exact bE h1) n.1
   .exact zap n.2 h1 h2 e
section
variable {rk:af}{P':Pl->Int->Prop}{kk:yd}{q0:Pl}{rs:ym}
def uT.one(h:uT H rk G P kk)(m:(zI q0,V.ref a)∈kk){k:Pl}(c:(zI k,V.ref a')∈kk):a'=a↔k=q0:=by
 constructor
 .intro e;have:=zap h.nv c m (by rw[e]);exact y9 (congrArg Prod.fst this)
 .intro e;have:=zap h.nk c m (by rw[e]);exact V.ref.inj (congrArg Prod.snd this)
theorem zbX(h:uT H rk G P kk)(c:H a=Y (.lst (rs.map V.int))):rk≠a:=zQ h.at_ c ()
def Qw{r:Int}(k:rs.Pairwise (· < ·)):r∈rs.erase ae↔r∈rs/\r≠ae:=by have c:rs.Nodup:=oS (λh=>ue h) k;rw[c.mem_erase_iff,and_comm]
def uT.out1(h:uT H rk G P kk)(hk:(zI q0,V.ref a)∈kk)(ha:H a=Y (.lst (rs.map V.int)))(hs:rs.Pairwise (· < ·))(hi:∀r,r∈rs↔P q0 r)(u:rs.erase ae≠[])(J:∀p r,P' p r↔P p r/\¬ (r=ae/\p=q0)):uT (upd H a (.lst ((rs.erase ae).map V.int))) rk G P' kk where
 at_:=by rw[zt (zbX h ha)];exact h.at_
 nk:=h.nk
 nv:=h.nv
 ls:=λkv c=>by
  have #[m,T,k,rfl,ga,I,q,w,A]:=h.ls kv c;by_cases e:T=a
  .have O:=(h.one hk c).mp e;subst e O;refine{m,T,rs.erase ae,Z,ga,zo,hs.sublist tI,u,λr=>?_};rw[Qw hs,J,hi];exact{λz=>{z.1,λy=>z.2 y.1},λz=>{z.1,λy=>z.2 {y,Z}}}
  .have O:¬ m=q0:=λz=>e ((h.one hk c).mpr z);refine{m,T,k,Z,ga,by rw[zt e];exact I,q,w,λr=>?_};rw[A,J];exact{λz=>{z,λy=>O y.2},λz=>z.1}
 al:=λp r z=>h.al p r ((J p r).mp z).1
def uT.out2(h:uT H rk G P kk)(hk:(zI q0,V.ref a)∈kk)(ha:H a=Y (.lst (rs.map V.int)))(hs:rs.Pairwise (· < ·))(hi:∀r,r∈rs↔P q0 r)(w:rs.erase ae=[])(T:∀p r,P' p r↔P p r/\¬ (r=ae/\p=q0)){us:LV}:uT (upd (upd H a (.lst us)) rk (.dT (yO kk (zI q0)))) rk G P' (yO kk (zI q0)) where
 at_:=zo
 nk:=ie (f8 _ dD) h.nk
 nv:=ie (f8 _ dD) h.nv
 ls:=λkv c=>by have k:=zes c;have ne:kv.1≠zI q0:=of_decide_eq_true (cC.mp c).2;have #[O,a',q,rfl,ga,m,u,A,I]:=h.ls kv k;have ep:¬ O=q0:=λz=>ne (by rw[z]);have e:¬ a'=a:=λz=>ep ((h.one hk k).mp z);refine{O,a',q,Z,ga,by rw[zt (zbX h m).symm,zt e];exact m,u,A,λr=>?_};rw[I,T];exact{λz=>{z,λy=>ep y.2},λz=>z.1}
 al:=λp r z=>by
  have #[J,z2]:=(T p r).mp z;have #[kv,c,e]:=bK.mp (h.al p r J);refine bK.mpr {kv,cC.mpr {c,Bj λy=>?_},e};have:p=q0:=y9 (e.symm.trans y);subst this;have hr:r∈rs:=(hi r).mpr J;by_cases er:r=ae
  .exact z2 {er,Z}
  .have:=(Qw (ae:=ae) hs).mpr {hr,er};rw[w] at this;cases this
theorem zc1{k:Nat}(u:rs.Pairwise (· < ·))(m:∀r∈rs.take k,r<ae)(q:∀r∈rs.drop k,ae<=r)(c:ae ∉ rs):(rs.take k++ae::rs.drop k).Pairwise (· < ·):=by
 have gt:∀r∈rs.drop k,ae<r:=λr w=>by have J:=q r w;have I:r≠ae:=λz=>c (by rw[<-z];exact cF w);lia
 rw[bW,tF];refine{u.sublist (mf ..),{gt,u.sublist (iK ..)},λx A y hy=>?_};have:=m x A;obtain rfl|hy:=bC.mp hy
 .exact this
 .have:=gt y hy;lia
def zin{r:Int}:r∈rs.take k++ae::rs.drop k↔r∈rs\/r=ae:=by
 rw[bp,bC];constructor
 .rintro(h|h|h)
  .exact .inl (cH h)
  .exact .inr h
  .exact .inl (cF h)
 .rintro(h|h)
  .have:r∈rs.take k++rs.drop k:=by rw[cB];exact h
   obtain z|z:=bp.mp this
   .exact .inl z
   .exact .inr (.inr z)
  .exact .inr (.inl h)
theorem uT.in1{k:Nat}(h:uT H rk G P kk)(J:(zI q0,V.ref a)∈kk)(ha:H a=Y (.lst (rs.map V.int)))(hs:rs.Pairwise (· < ·))(hi:∀r,r∈rs↔P q0 r)(I:∀r∈rs.take k,r<ae)(T:∀r∈rs.drop k,ae<=r)(w:¬ P q0 ae)(hP:∀p r,P' p r↔P p r\/(r=ae/\p=q0)):uT (upd H a (.lst ((rs.take k++ae::rs.drop k).map V.int))) rk G P' kk where
 at_:=by rw[zt (zbX h ha)];exact h.at_
 nk:=h.nk
 nv:=h.nv
 ls:=λkv c=>by
  have #[q,a',m,rfl,ga,aa,u,A,O]:=h.ls kv c;by_cases e:a'=a
  .have ep:=(h.one J c).mp e;subst e ep;refine{q,a',_,Z,ga,zo,zc1 hs I T (λz=>w ((hi _).mp z)),by simp,λr=>?_};rw[zin,hP,hi];exact{λz=>z.imp_right λy=>{y,Z},λz=>z.imp_right λy=>y.1}
  .have ep:¬ q=q0:=λz=>e ((h.one J c).mpr z);refine{q,a',m,Z,ga,by rw[zt e];exact aa,u,A,λr=>?_};rw[O,hP];exact{λz=>.inl z,λz=>z.elim id λy=>absurd y.2 ep}
 al:=λp r z=>by
  rcases(hP p r).mp z with z|⟨_,rfl⟩
  .exact h.al p r z
  .exact bK.mpr {_,J,Z}
theorem uT.in2(h:uT H rk G P kk)(hk:zI q0 ∉ kk.map (·.1))(w:∀r,¬ P q0 r)(ga:G a)(hf:∀kv∈kk,kv.2≠.ref a)(ha:a≠rk)(J:∀p r,P' p r↔P p r\/(r=ae/\p=q0)):uT (upd (upd H rk (.dT (kk++[(zI q0,V.ref a)]))) a (.lst [V.int ae])) rk G P' (kk++[(zI q0,V.ref a)]) where
 at_:=by rw[zt ha.symm];exact zo
 nk:=by
  rw[bZ,dh];refine{h.nk,by simp,λx q y m=>?_};have:y=zI q0:=by simpa using m
  rw[this];exact λz=>hk (by rw[<-z];exact q)
 nv:=by
  rw[bZ,dh];refine{h.nv,by simp,λx q y m=>?_};have:y=V.ref a:=by simpa using m
  rw[this];have #[kv,hkv,rfl]:=bK.mp q;exact hf kv hkv
 ls:=λkv hkv=>by
  obtain hkv|hkv:=bp.mp hkv
  .have #[T,a',k,rfl,O,c,u,A,I]:=h.ls kv hkv;have e:a'≠a:=λz=>hf _ hkv (by rw[z]);have ep:T≠q0:=λz=>hk (bK.mpr {_,hkv,by rw[z]});refine{T,a',k,Z,O,by rw[zt e,zt (zbX h c).symm];exact c,u,A,λr=>?_};rw[I,J];exact{λz=>.inl z,λz=>z.elim id λy=>absurd y.2 ep}
  .have:=bo.mp hkv;subst this;refine{q0,a,[ae],Z,ga,zo,by simp,by simp,λr=>?_};rw[J,bo];exact{λz=>.inr {z,Z},λz=>z.elim (λy=>absurd y (w r)) λy=>y.1}
 al:=λp r z=>by
  rw[bZ,bp];rcases(J p r).mp z with z|⟨_,rfl⟩
  .exact .inl (h.al p r z)
  .exact .inr (by simp)
def uT.eqv(h:uT H rk G P kk)(e:∀p r,P p r↔P' p r):uT H rk G P' kk:={h.at_,h.nk,h.nv,λkv c=>let ⟨p,a,rs,e1,fa,ha,hs,hn,hi⟩:=h.ls kv c;{p,a,rs,e1,fa,ha,hs,hn,λr=>(hi r).trans (e p r)},λp r z=>h.al p r ((e p r).mpr z)}
end
def taI(m Bp rk:af)(ae:Int)(ys:LV)(F:Ad)(P:Pl->Int->Prop)(q:zD)(H:Hp)(i:Nat)(σ:St)(H':Hp):Prop:=(∃c,σ=[Y (.ref m),Y (.int ae),Y (.ref Bp),c])/\dl F rk H H'/\Dm H H'/\∃k,uT H' rk F (λp r=>P p r/\¬ (r=ae/\p∈(q.take i).map (·.1))) k
def uT.keep2{H':Hp}{rk:af}{F F':Ad}{P:Pl->Int->Prop}(h:uT H rk F P aI)(c:H' rk=H rk)(k:∀b xs,F b->H b=Y (.lst xs)->H' b=Y (.lst xs))(q:∀b,F b->(∃o,H' b=Y o)->F' b):uT H' rk F' P aI:=
 {c.trans h.at_,h.nk,h.nv,λkv m=>let ⟨p,a,rs,e,fa,ha,z⟩:=h.ls kv m;{p,a,rs,e,q a fa {_,k _ _ fa ha},k _ _ fa ha,z},h.al}
def Dm.refl:Dm H H:=λb o e=>{o,e,λ_ z=>z}
def Dm.trans{H1 H2:Hp}(h:Dm H H1)(k:Dm H1 H2):Dm H H2:=λb o e=>by have #[w,I,q]:=h b o e;have #[u,A,m]:=k b w I;exact{u,A,λc z=>q c (m c z)}
def Dm.of_same{H1:Hp}(s:aJ H H1):Dm H H1:=λb o e=>{o,s _ _ e,λ_ z=>z}
def Dm.upd(n:∀k,o'≠.tup k):Dm H (upd H a o'):=λb o e=>by
 by_cases c:b=a
 .subst c;exact{_,zo,λk z=>absurd z (n k)}
 .exact{o,by rw[zt c];exact e,λ_ z=>z}
def dl.trans{G:Ad}{rk:af}{H1 H2:Hp}(h:dl G rk H H1)(k:dl G rk H1 H2):dl G rk H H2:=λb o e n z=>k b o (h b o e n z) n z
theorem zg2{m dx I wo rk:af}{low:Int}{F:Ad}{g:zD}{w:Aj}{q:xB}{A:yd}{u H':Hp}(me:F m)(fg:F I)(fw:F wo)(fk:F rk)(T:I≠rk)(im:u m=Y (.ins t.q02 dx (YK I low wo rk)))(hg:u I=Y (.dT (uU g)))(hw:u wo=Y (.dK q))(c:∃kk,u rk=Y (.dT kk))(wp:Bl (zbM u rk F) q w)(k:dl F rk u H')(O:∀b,F b->∃o,H' b=Y o)(rr:uT H' rk F (jP w) A)(J:(w.map (·.1)).Nodup)(ok:∀y∈w,0<=y.1/\Jw y.2):Ak t H' m F g w low:=by have #[kk,c]:=c;exact{O,me,J,ok,dx,I,wo,rk,q,A,k _ _ im (zQ im c ()) (.inl nofun),fg,fw,fk,T,k _ _ hg T (.inl nofun),k _ _ hw (zQ hw c ()) (.inl nofun),Paired.mapP wp λ_ _ ⟨e,d,e2,fd,J,hd⟩=>{e,d,e2,fd,J,k _ _ hd J (.inl nofun)},rr}
def Qx{F:Ad}{rk:af}{H H':Hp}(c:F rk)(k:dl F rk H H'):∀b o,¬ F b->H b=Y o->H' b=Y o:=λb o n e=>k b o e (λz=>n (by rw[z];exact c)) (.inr n)
def zg3{l:Aj}{ae:Int}{q:zD}(u:(l.map (·.1)).Nodup)(h:(ae,q)∈l)(p:Pl)(r:Int):(jP l p r/\¬ (r=ae/\p∈q.map (·.1)))↔jP (Kd l ae) p r:=by
 constructor
 .rintro⟨⟨m,k,c⟩,n⟩;refine{m,cC.mpr {k,Bj λz=>?_},c};have z:r=ae:=z;subst z;have:=zap u k h rfl;cases this;exact n {Z,c}
 .rintro⟨m,k,c⟩;have #[A,w]:=cC.mp k;exact{{m,A,c},λz=>of_decide_eq_true w z.1}
theorem zg4{rk:af}{F:Ad}{l:Aj}{P:Pl->Int->Prop}(h:uT H rk F P kk)(A:∀p r,P p r->jP l p r)(c:∀y∈l,Jw y.2)(hl:l.length<=300):kk.length<=18900:=by
 have T:=xE (b:=(l.flatMap λy=>y.2.map (·.1)).map zI) h.nk λx u=>by
  have #[kv,k,rfl]:=bK.mp u;have #[p,a,rs,rfl,_,_,_,I,J]:=h.ls kv k;obtain⟨r,w⟩:∃r,r∈rs:=by
   cases rs with
   |nil=>exact absurd Z I
   |cons r _=>exact{r,bw}
  have #[gs,m,O]:=A p r ((J r).mp w);exact bE (pW.mpr {_,m,O})
 rw[bn,bn] at T;have m:∀l:Aj,(∀y∈l,Jw y.2)->(l.flatMap λy=>y.2.map (·.1)).length<=63*l.length:=by
  intro l;induction l with
  |nil=>intro _;simp
  |cons y l ih=>
   intro c;rw[List.flatMap_cons,bh,bn,b7];have:=(c y bw).le;have:=ih λz q=>c z (bt _ q);lia
 have:=m l c;lia
def lyI(m q d rk:af)(ae:Int)(G:Ad)(P:Pl->Int->Prop)(u:zD)(H:Hp)(i:Nat)(σ:St)(H':Hp):Prop:=(∃c,σ=[Y (.ref m),Y (.int ae),Y (.ref q),Y (.ref d),c])/\dl G rk H H'/\Dm H H'/\∃k,uT H' rk G (λp r=>P p r\/(r=ae/\p∈(u.take i).map (·.1))) k
theorem YO(p:Pl)(ae:Int)(y:Int×zD):∀(l:Aj)(s:Int×Int),wc p ae (l++[y]) s=(if (wc p ae l s).1<y.1/\y.1<ae then Jv p y.1 y.2 (wc p ae l s) else wc p ae l s)
 |[],s=>rfl
 |a::t,s=>by rw[dY,wc,YO p ae y t,wc]
def yh{i:Nat}{x C dx:af}{k:LSV}{f:Str}{v:V}{R:VK}(u:H x=Y (.ins C dx k))(c:AB K C)(n:aM K C f)(h0:σ[i]?=Y (Y (.ref x)))(m:k.lookup f=Y v)(q:R v H):zk i σ H (zfn K f R):={_,h0,x,C,dx,k,v,Z,u,c,n,m,q}
def x8{i:Nat}{x C dx:af}{c:LSV}{m:Str}{R:VK}(u:H x=Y (.ins C dx c))(h0:σ[i]?=Y (Y (.ref x)))(k:c.lookup m=L)(q:R (.ref x) H):zk i σ H (zcp C m R):={_,h0,x,dx,c,Z,u,k,q}
def zka{P c:Prop}(f:c->P)(u:c):P:=f u
def yj{b:Bool}{P R:Prop}(h:b=am)(r:R):if b=U then P else R:=by rw[ak (by rw[h];decide)];exact r
def yE{b:Bool}{P R:Prop}(h:b=U)(p:P):if b=U then P else R:=by rw[ao h];exact p
theorem mB{i j:Int}(a:-10000000000000000000000000000000000000000000000<i)(b:i<10000000000000000000000000000000000000000000000)(c:-10000000000000000000000000000000000000000000000<j)(d:j<10000000000000000000000000000000000000000000000):CMulB i j:=by
 have k:(10000000000000000000000000000000000000000000000:Int)<big:=by lia
 exact{{(),()},(),()}
def drI(c:Int)(m:Nat)(l:af)(H0:Hp)(i:Nat)(σ:St)(H:Hp):Prop:=∃(ds:ym)(x y:Int),(∃o5,σ=[Y (.int c),Y (.int (m:Nat)),Y (.ref l),Y (.int x),Y (.int y),o5])/\aJ H0 H/\H l=Y (.lst (ds.map V.int))/\ds.length=i/\(∀d∈ds,okD d)/\0<=x/\x<1000100/\0<=y/\y<1000100
theorem mS{i j:Int}(a:0<=i)(b:i<1000100)(c:0<=j)(d:j<1000100):CMulB i j:=mB () () () ()
def Kr{k:Int}(h0:σ[i]?=Y (Y (.ref p)))(m:H p=Y (.lst xs))(c:Ay xs k=Y v)(q:Q v H):aN (jO K) (zk i) (tC (.int k)) σ H Q:={_,h0,p,xs,k,v,Z,Z,aO.of m,c,q}
theorem zbY{σ:St}{te:TE}{y n:Int}(m:∀Q:VK,Q (.int y) H->te σ H Q)(c:0<n)(q:∀k,0<=k->k<n->Q (.int k) H):aN ad te (tC (.int n)) σ H Q:=m _ {_,_,Z,Z,c,q _ (cW _ ()) (cM _ c)}
theorem zkb{n:Int}:u3 (n*1000000021000000147000000343%2000000000000000000000000000001-1000000000000000000000000000000)=U:=by have k:=cW (n*1000000021000000147000000343) (b:=2000000000000000000000000000001) ();have c:=cM (n*1000000021000000147000000343) (b:=2000000000000000000000000000001) ();exact AS.mpr ()
theorem zio:∀v∈jw++wl,(match v with|.str w=>xx (w++br "z")|_=>am)=U:=by lia
theorem ziq(h:smW w)(A:inV (.str w) jw=am)(u:inV (.str w) wl=am):xx w=U:=by
 have #[k,I,c]:=h;have q:decide (w="")=am:=Bk λz=>by rw[z] at k;exact absurd k ()
 have m:decide (6<w.length)=am:=Bk ();unfold xx;unfold Xp at c;rw[A,u,c,q,m];rfl
theorem zli(h:inV (.str w) (jw++wl)=U):xx (w++br "z")=U:=by
 unfold inV at h;have #[v,c,e]:=mW.mp h;have z:=zio v c;cases v <;> simp only[eqV,dz] at e;rename_i y;have k:y=w:=by simpa using e
 subst k;exact z
def zdU{a b:LV}:inV v (a++b)=(inV v a || inV v b):=by unfold inV;rw[List.any_append]
section
variable {x:Str}
theorem zg5{k:Int}(h:okD n)(c:0<k):okD (n/k):=by have #[a,b]:=h;have m:=Int.ediv_nonneg a (uf c);have q:=Int.ediv_le_self (a:=n) k a;exact{m,()}
def lx(h:xx x=U):aW [.str x]/\tmP [.str x]:=Xw (.inr {x,Z,h})
theorem zaq{σ:St}{j:Nat}{c:TE}{r:Int}(k:aT H a ws)(z:ws.length=2)(h0:σ[j]?=Y (Y (.ref a)))(u:∀Q:VK,Q (.int r) H->c σ H Q)(w:∀x,xx x=U->Q (.str x) H):aN (jO K) (zk j) (aN ad c (tC (.int 2))) σ H Q:=by have #[x,q,_,m]:=zbW k 2 z () r;exact{_,h0,u _ {_,_,Z,Z,(by lia:(0:Int)<2),_,_,_,_,Z,Z,aO.of k.1,q,w x m}}
def zbZ{k:Int}(d:vz n k)(h0:σ[0]?=Y (Y (.int n)))(Q:VK)(q:Q (.int (n/k)) H):aN aE (zk 0) (tC (.int k)) σ H Q:={_,h0,_,_,Z,Z,d,q}
theorem tm3(a:aW [u]/\tmP [u])(b:aW [v]/\tmP [v])(j:wdJ w):aW [u,v,.str w]/\tmP [u,v,.str w]:={Qv a.1 b.1 j (by simp),zdR a.2 b.2 j}
def tw8:LV:=[V.str (br "plus"),V.str (br "minus"),V.str (br "times"),V.str (br "over"),V.str (br "rest"),V.str (br "under"),V.str (br "same")]
theorem zkc{i:Int}(h0:0<=i)(m:i<7):∃w:Str,Ay tw8 i=Y (.str w)/\wdJ w:=by have #[x,k,c]:=zdJ (xs:=tw8) (i:=i) h0 m;unfold tw8 at c;simp only[bC,cQ,or_false] at c;obtain rfl|rfl|rfl|rfl|rfl|rfl|rfl:=c <;> exact{_,k,(),(),()}
end
def abc:Str:="abcdefghijklmnopqrstuvwxyz"
theorem zkd:∀c∈abc.cps.toList,inL c=U:=by lia
theorem zg6{e:Int}(u:0<=e)(q:e<26):∃c,Ay abc.cps.toList e=Y c/\inL c=U:=by have #[v,m,k]:=zdJ (xs:=abc.cps.toList) (i:=e) u (by rw[show abc.cps.toList.length=26 from by lia];exact q);exact{v,m,zkd v k}
def zlD(v:V):Prop:=∃c,v=.str ⟨#[c]⟩/\inL c=U
theorem zb0:∀ {ls:yu},(∀x∈ls,∃c,x=⟨#[c]⟩/\inL c=U)->((ls.map λp=>p.cps.toList).flatten).length=ls.length/\((ls.map λp=>p.cps.toList).flatten).all inL=U/\(ls.map (·.length)).sum=ls.length
 |[],_=>{Z,Z,Z}
 |x::ls,h=>by
  have #[c,rfl,q]:=h x bw;have #[a,b,d]:=zb0 (ls:=ls) λy m=>h y (bt _ m);have k:((⟨#[c]⟩:Str)::ls).length=ls.length+1:=rfl;refine{?_,?_,?_}
  .rw[bB,mq,bh,a,k];show 1+ls.length=_;lia
  .rw[bB,mq,uF,b];show ([c].all inL&&U)=U;simp[q]
  .rw[bB,c9,d,zdK,k];lia
section
variable {c:Int}{x y:Str}
theorem zdV(h:xx x=U):smW x:=by
 unfold xx at h;simp only[cG,oR,m7,decide_eq_false_iff_not] at h;have #[#[#[m,q],_],k]:=h;refine{?_,(),k};cases z:x.length with
 |zero=>
  exfalso;apply m;have #[#[l]]:=x;have:l.length=0:=z;rw[lM.mp this];rfl
 |succ n=>lia
theorem zeV{k:Nat}{o2:Option V}(O:xx x=U)(hk:k<x.length){d:Nat}(hd:inL d=U)(q:∀nm ws H',aJ H H'->H nm=L->aT H' nm ws->ws.length=2->Q (.ref nm) H') :
  jI K t (u9 Q) [Y (.int c),Y (.str "abcdefghijklmnopqrstuvwxyz"),o2,Y (.str x),Y (.int (k:Nat)),Y (.str ⟨#[d]⟩)] H:=by
 have #[h1,h2,T]:=zdV O;have ol:=zdK d;have od:=zgT hd;have fin:∀ {u v:Str}{H1:Hp},xx u=U->xx v=U->aJ H H1->zel .lst Q [.str u,.str v] H1:=λ{u v H1} hu hv s=>{(by lia:2<=Bb),λp hp=>q p [u,v] _ (s.trans (u5 p hp)) (zK s hp) {zo,λw hw=>by
  obtain e|hw:=bC.mp hw
  .rw[e];exact hu
  .rw[bo.mp hw];exact hv} Z}
 have J:x.length<=Bb:=xM ();unfold jI zL xc QB;refine zka (λI=>{_,Z,_,_,Z,Z,dB,_,_,Z,Z,(by lia:(0:Int)<3),Z,_,Z,Y0 (λ_=>{_,Z,_,_,Z,{J,Z},_,_,Z,Z,_,Z,Y0 (λA=>{_,Z,_,Z,_,Z,_,_,Z,Z,xM (by have:=of_decide_eq_true A;lia),_,Z,{by rw[jj];lia,by have:=of_decide_eq_true A;rw[jj];lia,Xv T od},λz H' m s=>fin O m s}) λ_=>I}) λ_=>I}) ?_;refine zka (λI=>{_,Z,_,_,Z,Z,dB,_,_,Z,Z,(by lia:(0:Int)<3),Z,_,Z,Y0 (λ_=>{_,Z,_,_,Z,{J,Z},_,_,Z,Z,_,Z,Y0 (λA=>{_,Z,_,Z,_,_,Z,Z,xM (by have:=of_decide_eq_true A;lia),_,Z,{by rw[jj];lia,by have:=of_decide_eq_true A;rw[jj];lia,Xv od T},λz H' m s=>{_,Z,fin m O s}}) λ_=>I}) λ_=>I}) ?_;have a1:=zj3 x k ();have a2:=zgU x (k+1);have e:((k:Int)+1)=((k+1:Nat):Int):=by lia
 refine{_,Z,_,Z,_,Z,_,Z,_,Z,J,_,Z,_,_,Z,Z,xM (),_,Z,_,Z,_,_,Z,Z,_,Z,_,Z,J,_,_,Z,Z,?_,?_}
 .rw[e,jj];exact xM ()
 rw[e];exact{_,Z,{by rw[jj,jj];lia,by rw[jj,jj];lia,Xv (Xv (zid T k) od) (zeS T (k+1))},λz H' m s=>fin O m s}
end
theorem zi5(h0:σ[k]?=Y (Y (.ref d)))(hc:zcu [k] σ=[Y (.ref d)])(hd:H d=Y (.dT (uU ah)))(hl:(uU ah).length<=900)(ht:∀(p:af)(q:Pl)(w:Int)(H':Hp)(A Bn:Hp->Prop),zE ah q=Y w->Ab H' d (.ref p) (Y (.int w))->(w≠0->A H')->(w=0->Bn H')->tt [Y (.ref p),Y (.ref d)] H' λb H3=>if b=U then A H3 else Bn H3)(q:∀l c H',aJ H H'->H l=L->gV H' l c->wD ah c->c.length<=(uU ah).length->Q (.ref l) H') :
  kR (vf K (An ziY (zj (zk k) zy))) (zM 0) tt (wQ (zj (zk 0) (zj (zaV (zk 1) (zk 0)) zy))) 1 [k] σ H Q:=by
 have #[qs,O,ai,I]:=JF ah;refine{_,h0,d,uU ah,qs,Z,hd,O,(),λl ps ag m aa ac=>?_};generalize c_:upd H l _=H1;have #[s1,q1]:=yI c_ ag;have lp:ps.length=(uU ah).length:=by have a1:=m.length_eq;have a2:=congrArg gM O;rw[bn] at a1;rw[bn,bn] at a2;lia
 refine{l,Z,{_,aO.of q1},λD hD=>?_};rw[hc];refine qe (J:=Itl K l) ps.length () (λτ=>∃o,τ=[o,Y (.ref d)]) (zj6 ah (ps.map (·.2))) (λi ys H H' s h=>zih s.1 h) {_,Z} {[],.nil,Z} (λi H s h=>{_,_,aO.of (s _ _ q1),ba (by rw[bn];exact h)}) (λH s=>{_,aO.of (s _ _ q1),by rw[bn];exact bq _}) hD ?_ ?_
 .rintro i v τ ys H4 H5 ⟨o,rfl⟩ z hi hR _ ⟨rfl,hv⟩;have hv:=hv _ (aO.of (z _ _ q1));rw[bF] at hv;have #[n,hn,rfl]:=cr.mp hv;have hp:=z _ _ (s1 _ _ (ac n (bA hn)));have hm:n.2∈qs:=m.mem_iff.mp (bE (bA hn));have #[w,hw]:=gB.mp ((I n.2).mp hm);have g:Ab H5 d (.ref n.1) ((zE ah n.2).map V.int):=.inr {uU ah,zI n.2,n.1,.inl (z _ _ (s1 _ _ hd)),Z,hp,(wN ah n.2).symm};rw[hw] at g;have tk:(ps.map (·.2)).take (i+1)=(ps.map (·.2)).take i++[n.2]:=by rw[cI,bF,hn];rfl
  have #[c,hr,T]:=hR;refine ht n.1 n.2 w H5 _ _ hw g (λw0=>{_,Z,_,Z,_,Z,d,_,Z,g,(),λp u=>{{_,Z},?_,u5 p u}}) λw0=>{{_,Z},?_,aJ.refl _}
  .refine{c++[(n.2,w)],Qu (vb (u5 p u) hr) {p,n.1,Z,zo,u5 p u _ _ hp},?_};rw[tk,rS,<-T];simp[JG,hw,w0]
  .refine{c,hr,?_};rw[tk,rS,<-T];simp[JG,hw,w0]
 .rintro ys H4 aj ⟨c,hr,T⟩ z hq;rw[b9 (by rw[bn];exact bq _)] at T;subst T;refine q D _ H4 (s1.trans z) (zK s1 hD) {ys,hq,hr} (zj7 aa λp=>(m.mem_iff.trans (I p))) ?_;have:=List.length_filterMap_le (JG ah) (ps.map (·.2));rw[bn] at this;lia
theorem zb1{f:PlI}{p:Pl}:∀ {qs:List Pl},zE (qs.map λq=>(q,f q)) p=if p∈qs then Y (f p) else L
 |[]=>rfl
 |q::qs=>by
  rw[bB,zE,zb1 (qs:=qs)];by_cases h:p∈qs
  .rw[ao h,ao (bt _ h)];rfl
  .rw[ak h];by_cases e:q=p
   .subst e;rw[ao Z,ao bw];rfl
   .rw[ak e,ak (λz=>(bC.mp z).elim (λy=>e y.symm) h)];rfl
def PlV(H:Hp)(v:V)(q:Pl):Prop:=∃p,v=.ref p/\H p=Y (.tup [.str q.1,.int q.2])
theorem zar:∀ {ys:LV}{k:yd}{c:List Pl},Bl (zbC H) ys k->k.map (·.1)=c.map zI->Bl (PlV H) ys c
 |_,_,[],.nil,_=>.nil
 |_,_,_::_,.nil,e=>by cases e
 |_,_,[],.cons _ _,e=>by cases e
 |_,_,q::c,.cons ⟨p,e1,e2⟩ r,e=>by rw[bB,bB] at e;have #[u,m]:=uO e;exact .cons {p,e1,by rw[u] at e2;exact e2} (zar r m)
theorem zlj{m k:Type}{F:m->k->Prop}:∀ {a:List m}{b:List k}{c:List m}{d:List k},Bl F a b->Bl F c d->Bl F (a++c) (b++d)
 |_,_,_,_,.nil,h=>h
 |_,_,_,_,.cons h r,h2=>.cons h (zlj r h2)
def tfR(ah:zD)(i:Nat)(ys:LV)(H:Hp):Prop:=Bl (PrAt H) ys (ah.take i)
section
variable {m:af}
theorem zir{A:af}{ys:LV}{qs:List Pl}(h1:Al t H m F g lays)(h2:0<=ae)(hl:H A=Y (.lst ys))(hy:Bl (PlV H) ys qs)(le:qs.length<=400)(q:∀l c H',aJ H H'->H l=L->gV H' l c->wD (qs.map λq=>(q,yg g lays q ae)) c->Q (.ref l) H') :
  Z0 K t (u9 Q) [Y (.ref m),Y (.int ae),Y (.ref A)] H:=by
 have ly:=bG hy;obtain⟨ah,er⟩:∃ah,ah=qs.map λq=>(q,yg g lays q ae):={_,Z};have lr:ah.length=qs.length:=by rw[er,bn]
 rw[<-er] at q;refine{_,Z,A,Z,{_,aO.of hl},λD hD=>?_};refine qe (J:=Itl K A) ys.length () (λτ=>∃o,τ=[o,Y (.ref m),Y (.int ae)]) (tfR ah) (λi ys H H' s h=>Paired.mapP h λ_ _ z=>L2.PrAt.tsame z s.1) {_,Z} .nil (λi H s h=>{_,_,aO.of (s _ _ hl),ba h}) (λH s=>{_,aO.of (s _ _ hl),bq _}) hD ?_ ?_
 .rintro i v τ us H4 H5 ⟨o,rfl⟩ k hi w _ ⟨rfl,T⟩;have T:=T _ (aO.of (k _ _ hl));have #[O,aa,p,rfl,hp]:=Paired.getP hy T;have u:=h1.same k;have #[dx,fs,i1,i2,i3,i4]:=u.ins;refine yE (R:=False) Z {_,Z,x8 i1 Z i3 {_,Z,_,Z,m,p,ae,F,g,lays,O,Z,u,h2,k _ _ hp,λH6 I=>{(),λr hr=>{{_,Z},?_,I.trans (u5 r hr)}}}};have tk:ah.take (i+1)=ah.take i++[(O,yg g lays O ae)]:=by rw[cI,er,bF,aa];rfl
  unfold tfR;rw[tk];exact Paired.snocP (Paired.mapP w λ_ _ z=>L2.PrAt.same z (I.trans (u5 r hr))) {r,p,Z,zo,(k.trans (I.trans (u5 r hr))) _ _ hp}
 .intro us H4 ag w k hq;unfold tfR at w;rw[b9 ()] at w;have ld:=wO ah;exact{D,ah,Z,{us,hq,w},(),(),λl c H' s ac ho ht=>q l c H' (k.trans s) (zK k ac) ho ht}
end
def tbI(c:Int)(a x d:af)(H0:Hp)(i:Nat)(σ:St)(H':Hp):Prop:=∃ah:zD,(∃m k,σ=[Y (.int c),Y (.ref a),Y (.ref x),Y (.ref d),m,k])/\aJ H0 H'/\H' d=Y (.dT (uU ah))/\ah.length<=i/\∀r∈ah,dt r.1.1=U/\u3 r.2=U/\r.2≠0
theorem zb2:∀ {vs:LV}{rs:List Rw},Bl (bv F H) vs rs->hZ F H vs (aY.of rs)
 |_,_,.nil=>by unfold aY.of hZ;rfl
 |_,_,.cons a t=>by unfold aY.of hZ;exact{_,_,Z,a,zb2 t}
theorem zb3:∀ {rs:List Rw},(∀r∈rs,V6 r)->Zx (aY.of rs)
 |[],_=>by unfold aY.of Zx;trivial
 |r::rs,h=>by unfold aY.of Zx;exact{h r bw,zb3 λx c=>h x (bt _ c)}
theorem zb4:∀ {rs:List Rw},(∀r∈rs,Zv r)->Yn (aY.of rs)
 |[],_=>by unfold aY.of Yn;trivial
 |r::rs,h=>by unfold aY.of Yn;exact{h r bw,zb4 λx c=>h x (bt _ c)}
theorem Xy{n:Nat}:∀ {rs:List Rw},(∀r∈rs,r.deep<=n)->(aY.of rs).deep<=n
 |[],_=>by unfold aY.of;simp[aY.deep]
 |r::rs,h=>by unfold aY.of;have m:=h r bw;have k:=Xy (rs:=rs) λx c=>h x (bt _ c);simp only[aY.deep];lia
theorem Vn{r:Rw}(h:Jp r):r.deep=0:=by
 cases r with
 |iff e a b=>exact absurd h (λz=>z)
 |take _ _ _=>simp[Rw.deep]
 |give _ _ _=>simp[Rw.deep]
 |lt _ _=>simp[Rw.deep]
 |say _=>simp[Rw.deep]
 |off _=>simp[Rw.deep]
theorem kq{m c:Type}{R:m->c->Prop}:∀ {xs:List m}{ys:List c}(k:Nat),Bl R xs ys->Bl R (xs.take k) (ys.take k)
 |_,_,0,_=>.nil
 |_,_,_+1,.nil=>.nil
 |_,_,k+1,.cons a t=>.cons a (kq k t)
theorem Z1{m c:Type}{R:m->c->Prop}:∀ {xs:List m}{ys:List c}(k:Nat),Bl R xs ys->Bl R (xs.drop k) (ys.drop k)
 |_,_,0,h=>h
 |_,_,_+1,.nil=>.nil
 |_,_,k+1,.cons _ t=>Z1 k t
theorem zg7(xs:LV)(n:Nat):kB xs L (Y (n:Int))=xs.take n:=by
 unfold kB;rw[HT.sIx_none,HT.sIx_nat,dM,ua];by_cases c:n<=xs.length
 .rw[dq c]
 .rw[gX (),b9 (bq _),b9 ()]
theorem zke(xs:LV)(n:Nat):kB xs (Y (n:Int)) L=xs.drop n:=by
 unfold kB;rw[HT.sIx_none,HT.sIx_nat];by_cases c:n<=xs.length
 .rw[dq c];exact b9 (by rw[cq];exact bq _)
 .rw[gX (),ro (bq _),ro (),List.take_nil]
theorem zg8(xs:LV)(k m:Nat)(q:k<=m)(c:m<=xs.length):kB xs (Y (k:Int)) (Y (m:Int))=(xs.drop k).take (m-k):=by unfold kB;rw[HT.sIx_nat,HT.sIx_nat,dq c,dq (by lia:k<=xs.length)]
section
variable {c:Int}{Bp X:af}
theorem JJ{m k:Type}{R:m->k->Prop}:∀ {xs:List m}{ys:List k}{us:List m}{vs:List k},Bl R xs ys->Bl R us vs->Bl R (xs++us) (ys++vs)
 |_,_,_,_,.nil,h=>h
 |_,_,_,_,.cons a t,h=>.cons a (JJ t h)
theorem zc2:∀ {rs:List Rw},(∀r∈rs,Jp r)->(aY.of rs).cnt<=rs.length
 |[],_=>by unfold aY.of;simp[aY.cnt]
 |r::rs,h=>by
  have q:=zc2 (rs:=rs) λx k=>h x (bt _ k);have m:=h r bw;unfold aY.of;cases r with
  |iff e a b=>exact absurd m (λz=>z)
  |take _ _ _=>simp only[aY.cnt,Rw.cnt,b7];lia
  |give _ _ _=>simp only[aY.cnt,Rw.cnt,b7];lia
  |lt _ _=>simp only[aY.cnt,Rw.cnt,b7];lia
  |say _=>simp only[aY.cnt,Rw.cnt,b7];lia
  |off _=>simp only[aY.cnt,Rw.cnt,b7];lia
def szX(r:Rw):Nat:=match r with|.iff _ a b=>a.cnt+b.cnt+3|_=>1
def zis{r:Rw}(h:Jp r):szX r=1:=by
 cases r with
 |iff e a b=>exact absurd h (λz=>z)
 |take _ _ _=>rfl
 |give _ _ _=>rfl
 |lt _ _=>rfl
 |say _=>rfl
 |off _=>rfl
theorem Vo:∀ {rs:List Rw},(∀r∈rs,Jp r)->(rs.map szX).sum=rs.length
 |[],_=>rfl
 |r::rs,h=>by rw[bB,c9,zis (h r bw),Vo λx k=>h x (bt _ k),b7];lia
theorem zkf(h:∀r∈rs,rwW r)(l:rs.length<=6):zh7 rs:={bI (Xy (n:=0) λr k=>by rw[Vn (h r k).nf];exact bq _) (),zb3 λr k=>(h r k).pl,zb4 λr k=>(h r k).ok,by have:=Vo λr k=>(h r k).nf;show (rs.map szX).sum<=11;lia}
theorem zkg{σ:St}{u m:TE}{y:Int}{n:Nat}(I:∀Q:VK,Q (.int y) H->u σ H Q)(A:∀Q:VK,Q (.int (n:Nat)) H->m σ H Q)(w:0<n)(q:∀k:Nat,k<n->Q (.int (k:Nat)) H):aN ad u m σ H Q:=I _ (A _ {_,_,Z,Z,Int.ofNat_lt.mpr w,by have J:=cW y (b:=(n:Int)) ();have T:=cM y (b:=(n:Int)) ();obtain⟨k,O⟩:∃k:Nat,y%(n:Int)=k:={(y%(n:Int)).toNat,(oh J).symm};have z:=q k ();rw[<-O] at z;exact z})
theorem zeW{o5 o6 o7:Option V}(hX:H X=Y (.lst (ds.map V.int)))(ld:ds.length=22)(od:∀d∈ds,okD d)(A:H Bp=Y (.lst vs))(fL:Hb Bp=L)(pr:Bl (bv (λb=>Hb b=L) H) vs rs)(u:∀r∈rs,rwW r)(l6:rs.length<=6)(hw:aT H b ws)(lw:ws.length=2)(S:aJ Hb H)(q:∀l rs H',aJ Hb H'->RlAt (λb=>Hb b=L) H' (.ref l) (aY.of rs)->zh7 rs->Q (.ref l) H') :
  jJ K t (u9 Q) [Y (.int c),Y (.ref a),Y (.ref b),Y (.ref X),Y (.ref Bp),L,L,L] H:=by
 have lv:=bG pr;have w:∀ {j:Nat},j<22->Ay (ds.map V.int) ((j:Nat):Int)=Y (.int (ds.getD j 0))/\okD (ds.getD j 0):=λ{j} hj=>by
  have hj:j<ds.length:=by lia
  have e:ds.getD j 0=ds[j]:=by rw[bD,ba hj];rfl
  exact{xS (by rw[bF,ba hj,e];rfl),by rw[e];exact od _ (eE hj)}
 unfold jJ zL xc;refine{_,Z,_,_,Z,Z,dB,_,_,Z,Z,(),Z,_,Z,?_};by_cases hc:c/7%3=0
 .refine yE (Bj (congrArg V.int hc)) ?_;refine zkg (n:=vs.length+1) (λ_ q=>Kr Z hX (w (j:=18) ()).1 q) (λ_ q=>{_,Z,.ref Bp,vs.length,Z,.inl {_,aO.of A,Z},_,_,Z,Z,q}) (mM vs.length) λk hk=>?_;have hk:k<vs.length+1:=hk;refine{_,Z,zkg (n:=vs.length+1-k) (λ_ q=>Kr Z hX (w (j:=21) ()).1 q) (λ_ q=>{_,Z,.ref Bp,vs.length,Z,.inl {_,aO.of A,Z},_,_,Z,Z,_,Z,_,_,Z,Z,by rw[show ((vs.length+1-k:Nat):Int)=(vs.length:Int)+1-k by lia] at q;exact q}) () λm' hm=>{_,_,Z,Z,?_}};obtain⟨m,em⟩:∃m,m=k+m':={_,Z};have km:k<=m:=by lia
  have ml:m<=vs.length:=by lia
  have #[az,ai]:=w (j:=19) ();refine Kr Z hX az {_,Z,_,b,ws,Z,ai,hw,lw,λtp e H1 s1 ft ht te pe=>?_};refine{_,Z,_,Z,k,Z,_,Z,(m:Int),by rw[em];rfl,Bp,vs,Z,aO.of (s1 _ _ A),λp1 ag=>?_};rw[zg8 vs k m km ml];generalize c_:upd H1 p1 _=H2;have #[s2,g2]:=yI c_ ag;have S2:=s1.trans s2;refine{_,Z,?_};refine zkg (n:=3) (λ_ q=>Kr Z (S2 _ _ hX) (w (j:=20) ()).1 q) (λ_ q=>q) () λj f6=>?_;refine{_,Z,Bp,vs,Z,aO.of (S2 _ _ A),λp2 ac=>?_};rw[zg7];generalize c_:upd H2 p2 _=H3;have #[s3,g3]:=yI c_ ac;refine{(),λrp T=>?_};generalize c_:upd H3 rp _=H4;have #[s4,g4]:=yI c_ T;have S3:=S2.trans s3;have S4:=S3.trans s4;refine{_,Z,_,Z,k,Z,Bp,vs,Z,aO.of (S4 _ _ A),λp3 ar=>?_};rw[zg7];generalize c_:upd H4 p3 _=H5;have #[s5,g5]:=yI c_ ar;refine{_,Z,(),λp4 an=>?_};generalize c_:upd H5 p4 _=H6;have #[s6,g6]:=yI c_ an;refine{_,_,_,_,Z,Z,s6 _ _ g5,g6,bI (by rw[bX];show min k vs.length+1<=110;lia:_<=110) (),λp5 al=>?_};generalize c_:upd H6 p5 _=H7;have #[s7,g7]:=yI c_ al;have S7:=S4.trans (s5.trans (s6.trans s7));refine{_,Z,_,Z,(m:Int),by rw[em];rfl,Bp,vs,Z,aO.of (S7 _ _ A),λp6 aj=>?_};rw[zke];generalize c_:upd H7 p6 _=H8;have #[s8,g8]:=yI c_ aj;refine{_,_,_,_,Z,Z,s8 _ _ g7,g8,bI (by rw[bh,bX,cq];show min k vs.length+1+(vs.length-m)<=110;lia:_<=110) (),λp7 aa=>?_};generalize c_:upd H8 p7 _=H9;have #[s9,g9]:=yI c_ aa;refine{_,Z,?_};have T4:=s5.trans (s6.trans (s7.trans (s8.trans s9)));have S9:=S4.trans T4;have P:=Paired.mapP pr λ_ r z=>bv.mono S9 z;have O:∀ {n:Nat}{x:Rw},x∈rs.take n->x∈rs:=λh=>cH h;have C:∀ {x:Rw},x∈(rs.drop k).take (m-k)->x∈rs:=λh=>cF (cH h);have I:bv (λb=>Hb b=L) H9 (.ref rp) (.iff e (aY.of ((rs.drop k).take (m-k))) (aY.of (rs.take j))):=by unfold bv;exact{rp,tp,p1,p2,_,_,Z,zK (S.trans S3) T,zK S ft,zK (S.trans s1) ag,zK (S.trans S2) ac,T4 _ _ g4,(s2.trans (s3.trans (s4.trans T4))) _ _ ht,(s3.trans (s4.trans T4)) _ _ g2,zb2 (kq _ (Z1 _ P)),(s4.trans T4) _ _ g3,zb2 (kq _ P)}
  have J:∀x∈rs.take k++[.iff e (aY.of ((rs.drop k).take (m-k))) (aY.of (rs.take j))]++rs.drop m,x∈rs\/x=.iff e (aY.of ((rs.drop k).take (m-k))) (aY.of (rs.take j)):=λx hx=>by
   obtain hx|hx:=bp.mp hx
   .obtain hx|hx:=bp.mp hx
    .exact .inl (O hx)
    .exact .inr (bo.mp hx)
   .exact .inl (cF hx)
  have ip:V6 (.iff e (aY.of ((rs.drop k).take (m-k))) (aY.of (rs.take j))):=by unfold V6;exact{pe,zb3 λx hx=>(u x (C hx)).pl,zb3 λx hx=>(u x (O hx)).pl}
  have io:Zv (.iff e (aY.of ((rs.drop k).take (m-k))) (aY.of (rs.take j))):=by unfold Zv;exact{te,zb4 λx hx=>(u x (C hx)).ok,zb4 λx hx=>(u x (O hx)).ok}
  have dp:Rw.deep (.iff e (aY.of ((rs.drop k).take (m-k))) (aY.of (rs.take j)))<=1:=by
   have a1:=Xy (n:=0) (rs:=(rs.drop k).take (m-k)) λx hx=>by rw[Vn (u x (C hx)).nf];exact bq _
   have a2:=Xy (n:=0) (rs:=rs.take j) λx hx=>by rw[Vn (u x (O hx)).nf];exact bq _
   simp only[Rw.deep];lia
  refine q p7 (rs.take k++[.iff e (aY.of ((rs.drop k).take (m-k))) (aY.of (rs.take j))]++rs.drop m) H9 (S.trans S9) {p7,_,Z,zK (S.trans (S7.trans s8)) aa,g9,zb2 (JJ (JJ (kq _ P) (.cons I .nil)) (Z1 _ P))} {Xy λx hx=>?_,zb3 λx hx=>?_,zb4 λx hx=>?_,?_}
  .obtain h|rfl:=J x hx
   .rw[Vn (u x h).nf];exact cf _
   .exact dp
  .obtain h|rfl:=J x hx
   .exact(u x h).pl
   .exact ip
  .obtain h|rfl:=J x hx
   .exact(u x h).ok
   .exact io
  .show ((rs.take k++[Rw.iff e (aY.of ((rs.drop k).take (m-k))) (aY.of (rs.take j))]++rs.drop m).map szX).sum<=11;rw[bZ,bZ,uG,uG,Vo λx hx=>(u x (O hx)).nf,Vo λx hx=>(u x (cF hx)).nf];have c1:=zc2 (rs:=(rs.drop k).take (m-k)) λx hx=>(u x (C hx)).nf;have c2:=zc2 (rs:=rs.take j) λx hx=>(u x (O hx)).nf;rw[bX,cq] at c1;rw[bX] at c2;rw[bX,cq];show min k rs.length+((aY.of ((rs.drop k).take (m-k))).cnt+(aY.of (rs.take j)).cnt+3+0)+(rs.length-m)<=11;lia
 .exact yj (Bk (λz=>hc (V.int.inj z))) {_,Z,q Bp rs H S {Bp,vs,Z,fL,A,zb2 pr} (zkf u l6)}
def cRw(D:af)(Hb:Hp)(i:Nat)(ys:LV)(H:Hp):Prop:=∃rs:List Rw,Bl (bv (λb=>Hb b=L/\b≠D) H) ys rs/\(∀r∈rs,rwW r)/\rs.length=i
def zlE{x:V}{σ:St}{N:At}(h:N (σ.set i (Y x)) H):zM i x σ H N:=h
theorem zdW{n:Nat}{I:TI}(w:∀R:It->Hp->Prop,R (Itr 0 n) H->I σ H R)(hX:H X=Y (.lst (ds.map V.int)))(n4:n<=40)(ld:3*n<=ds.length)(od:∀d∈ds,okD d)(h1:aT H a us)(h2:us.length=2)(h3:aT H b ws)(h4:ws.length=2)(u:zcu ix σ=[Y (.ref X),Y (.ref a),Y (.ref b)])(q:∀D ys H',aJ H H'->H D=L->H' D=Y (.lst ys)->cRw D H n ys H'->Q (.ref D) H') :
  kR I (zM 0) J2 (zV v3 [] E0 (zj (tSl (YD K) (zk 1) (wC (aN aG (tC (.int 3)) (zk 0))) (wC (aN aD (aN aG (tC (.int 3)) (zk 0)) (tC (.int 3))))) (zj (zk 2) (zj (zk 3) zy)))) 1 ix σ H Q:=by
 refine w _ λD hD=>?_;refine qe (J:=Itr 0 n) n () (λA=>∃o,A=[o,Y (.ref X),Y (.ref a),Y (.ref b)]) (cRw D H) (λi ys H2 H' s ⟨rs,p1,p2⟩=>{rs,Paired.mapP p1 λ_ r z=>z.to r (λ_ _ f _=>f) (λb o f e=>s.2 b o f.2 e),p2}) {L,congrArg (L :: ·) u} {[],.nil,(λr z=>nomatch z),Z} (λi H _ h=>h) (λH _=>bq _) hD ?_ ?_
 .rintro i v A ys H4 H5 ⟨o,rfl⟩ m hi ⟨rs,pr,wr,li⟩ hy ⟨rfl,rfl⟩;rw[Int.zero_add];have T:CMulB 3 i:=mS () () () ();refine{_,Z,_,Z,_,_,Z,Z,T,_,Z,_,Z,_,_,Z,Z,T,_,_,Z,Z,_,Z,_,_,Z,aO.of (m _ _ hX),λp hp=>?_};have e1:3*(i:Int)=((3*i:Nat):Int):=by lia
  have e2:3*(i:Int)+3=((3*i+3:Nat):Int):=by lia
  rw[e2,e1,zg8 _ _ _ () (by rw[bn];lia),<-lI,<-lH];have le:((ds.drop (3*i)).take (3*i+3-3*i)).length=3:=by rw[bX,cq];lia
  have oe:∀d∈(ds.drop (3*i)).take (3*i+3-3*i),okD d:=λd hd=>od d (cF (cH hd));generalize (ds.drop (3*i)).take (3*i+3-3*i)=es at *
  have k:=u5 (o:=HO.lst (es.map V.int)) p hp;have S:=m.trans k;have ne:∀ {b},upd H5 p (HO.lst (es.map V.int)) b=L->b≠D:=λ{b} e z=>by rw[z,k _ _ hy] at e;cases e
  refine{_,Z,_,Z,p,_,_,es,us,ws,Z,zo,le,oe,h1.same S,h2,h3.same S,h4,λv r H6 O hr w=>{{_,Z},{rs++[r],Paired.snocP (Paired.mapP pr λ_ _ z=>z.mono (k.trans O)) (hr.to r (λb o f _=>{zK S f,ne f}) (λb o f e=>e)),λx hx=>?_,by rw[bh,li];rfl},k.trans O}};obtain hx|hx:=bp.mp hx
  .exact wr x hx
  .rw[bo.mp hx];exact w
 .exact λys H4 _ c m hq=>q D ys H4 m hD hq c
theorem Ks{vs:LV}{_E:XK}(h:xU vs H Q _E) :
  Xs K t (u9 Q) (zZZ 8 vs) H:=by have #[c,a,b,us,ws,rfl,h1,h2,I,A,q]:=h;refine{_,Z,_,22,Z,(),λX ds H1 k fX w ld u=>?_};unfold zL yF;dsimp only;refine zlE ?_;have g1:=cW c (show (7:Int)≠0 by lia);have g2:=cM c (show (0:Int)<7 by lia);refine zdW (n:=(c%7).toNat) (λR h=>{_,Z,_,_,Z,Z,(by lia:(0:Int)<7),_,Z,(),(),h}) w () () u (h1.same k) h2 (I.same k) A Z λD ys H4 m hD T ⟨rs,O,J,li⟩=>?_;have S:=k.trans m;have fD:=zK k hD;exact zeW (t:=t) (o5:=L) (o6:=L) (o7:=L) (m _ _ w) ld u T fD (Paired.mapP O λ_ r z=>z.to r (λ_ _ f _=>zK k f.1) λb o _ e=>e) J () (I.same S) A S q
end
def Am.mono{H H':Hp}{n:Nat}(s:aJ H H')(h:Am H n v u):Am H' n v u:=by
 induction h with
 |int i=>exact .int i
 |str x=>exact .str x
 |lst e1 e2 l _ ih=>exact .lst (s _ _ e1) (s _ _ e2) l ih
 |tup e1 e2 l _ ih=>exact .tup (s _ _ e1) (s _ _ e2) l ih
def Z2{H:Hp}{Q:VK}{E:XK}(h:xq 0 vs H Q E):False:=by have #[v,u,_,h,_]:=h;cases h
def WK{i:Nat}{T:String}{b:Bool}(h0:σ[i]?=Y (Y v))(c:YC K H v tv)(k:gL K tv (.type T)=Y b)(q:Q (.bl b) H):An (Yl K) (zj (zk i) (zj (tC (.ty T)) zy)) σ H Q:={_,h0,v,.ty T,tv,b,Z,c,{T,Z,k},q}
def jg{i:Nat}{T:String}{b:Bool}{Q:Bool->Hp->Prop}(h0:σ[i]?=Y (Y v))(c:YC K H v tv)(k:gL K tv (.type T)=Y b)(q:Q b H):tB (An (Yl K) (zj (zk i) (zj (tC (.ty T)) zy))) σ H Q:=WK h0 c k {b,Z,q}
def zdX(q:Q (.bl U) H):Q (.bl (decide (v=v))) H:=by rw[Bj rfl];exact q
def JK{n:Nat}{v u:V}(F:KF K)(h:Am H (n+1) v u)(q:∀H',aJ H H'->Q (.bl U) H') :
  kK K t n (u9 Q) (zZZ 4 [v,u]) H:=by
 unfold kK zL xc tOr QB Yk;cases h with
 |int i=>
  refine jg Z (.int i) F.i_l (yj Z (jg Z (.int i) F.i_t (yj Z (jg Z (.int i) F.i_s (yj Z ?_)))));exact WK Z (.int i) (wu _) {U,Z,yE Z (WK Z (.int i) F.i_b {am,Z,U,Z,yE Z {_,Z,_,Z,Z,zdX (q _ (aJ.refl _))}})}
 |str y=>
  refine jg Z (.str y) F.s_l (yj Z (jg Z (.str y) F.s_t (yj Z (jg Z (.str y) (wu _) (yE Z ?_)))));exact WK Z (.str y) (wu _) {U,Z,yE Z {_,Z,_,Z,Z,zdX (q _ (aJ.refl _))}}
 |@lst _ a b xs ys ha hb ll hx=>
  refine jg Z (.lst hb) (wu _) (yE Z (yE Z (jg Z (.lst ha) (wu _) (yj Z (yj Z ?_)))));refine WK Z (.lst ha) (wu _) (WK Z (.lst hb) (wu _) {Z,_,Z,yj Z ?_});refine{_,Z,.ref a,xs.length,Z,.inl {_,aO.of ha,Z},_,Z,.ref b,ys.length,Z,.inl {_,aO.of hb,Z},Z,_,Z,yj (by rw[Bj (by rw[ll])];rfl) ?_};refine{_,Z,_,Z,a,b,xs,ys,Z,ll,.inl {aO.of ha,aO.of hb,zeK xs ys (λ_ σ H'=>(∃m k,σ=[Y (.ref a),Y (.ref b),m,k])/\aJ H H') {{_,_,Z},aJ.refl _} (λi σ H' z=>{aO.of (z.2 _ _ ha),aO.of (z.2 _ _ hb)}) ?_ ?_}}
  .rintro i x y T σ H1 I A J ⟨⟨m,k,rfl⟩,S⟩;have c:=u5 (o:=HO.tup [x,y]) T J;exact{T,_,Z,uZ.of zo,Z,_,_,Z,_,_,Z,Z,_,Z,_,Z,x,y,Z,Am.mono (S.trans c) (hx i x y I A),λO w=>{_,Z,yj Z {{_,_,Z},S.trans (c.trans w)}}}
  .rintro σ H' ⟨_,S⟩;exact q _ S
 |@tup _ a b xs ys ha hb ll hx=>
  refine jg Z (.tup hb) F.t_l (yj Z (jg Z (.tup hb) (wu _) (yE Z (jg Z (.tup ha) F.t_l (yE Z (jg Z (.tup ha) (wu _) (yj Z ?_)))))));refine WK Z (.tup ha) F.t_l (WK Z (.tup hb) F.t_l {Z,_,Z,yj Z ?_});refine{_,Z,.ref a,xs.length,Z,.inr {_,uZ.of ha,Z},_,Z,.ref b,ys.length,Z,.inr {_,uZ.of hb,Z},Z,_,Z,yj (by rw[Bj (by rw[ll])];rfl) ?_};refine{_,Z,_,Z,a,b,xs,ys,Z,ll,.inr {uZ.of ha,uZ.of hb,zfZ xs ys (λ_ σ H'=>(∃m k,σ=[Y (.ref a),Y (.ref b),m,k])/\aJ H H') {{_,_,Z},aJ.refl _} (λi σ H' z=>{uZ.of (z.2 _ _ ha),uZ.of (z.2 _ _ hb)}) ?_ ?_}}
  .rintro i x y T σ H1 I A J ⟨⟨m,k,rfl⟩,S⟩;have c:=u5 (o:=HO.tup [x,y]) T J;exact{T,_,Z,uZ.of zo,Z,_,_,Z,_,_,Z,Z,_,Z,_,Z,x,y,Z,Am.mono (S.trans c) (hx i x y I A),λO w=>{_,Z,yj Z {{_,_,Z},S.trans (c.trans w)}}}
  .rintro σ H' ⟨_,S⟩;exact q _ S
def zi6{s:hU}{gi:zD}(h:k9 s gi):(gi.map (·.1)).Nodup:=by
 unfold k9 at h;split at h
 .rw[h];exact cY
 .exact h.1.nd
section
variable {β:Type}{R R':Int->V->β->Prop}{l:List (Int×β)}{b:β}
def aV{e:Int×β}:e∈yH l h↔e∈l/\e.1≠h:=by unfold yH;rw[cC,decide_eq_true_eq]
def Pk.get(p:Pk R kv l):(yt kv (.inl h)=L/\h ∉ l.map (·.1))\/∃v b,yt kv (.inl h)=Y v/\(h,b)∈l/\R h v b:=by
 unfold Pk at p;induction p with
 |nil=>exact .inl {zaQ,nofun}
 |@cons x e kv l hd tl ih=>
  by_cases c:e.1=h
  .subst c;exact .inr {x.2,e.2,xt hd.1,bw,hd.2}
  .have n:¬ x.1=.inl h:=by rw[hd.1];exact λz=>c (ph z)
   rw[xu n,bB,bC];exact ih.imp (λz=>{z.1,λy=>y.elim (λy=>c y.symm) z.2}) λ⟨v,b,q,m,k⟩=>{v,b,q,bt _ m,k}
def Pk.drop(p:Pk R kv l):Pk R (yO kv (.inl h)) (yH l h):=by
 unfold Pk at p;induction p with
 |nil=>exact .nil
 |@cons x e kv l hd tl ih=>
  by_cases c:e.1=h
  .rw[KU (hd.1.trans (congrArg _ c)),yH,dZ,ak (by rw[decide_eq_true_eq];exact λz=>z c)];exact ih
  .rw[XV (by rw[hd.1];exact λz=>c (ph z)),yH,dZ,ao (Bj c)];exact .cons hd ih
def Pk.put(p:Pk R kv l)(n:h ∉ l.map (·.1))(r:R h v b):Pk R (xo kv (.inl h) v) (l++[(h,b)]):=by
 obtain ⟨e,_⟩|⟨v,b,_,m,_⟩:=p.get (h:=h)
 .rw[jr _ e];exact Paired.snocP p {Z,r}
 .exact absurd (bE (f:=λe:Int×β=>e.1) m) n
def Pk.set(p:Pk R kv l)(u:(l.map (·.1)).Nodup)(f:∀k v q,(k,q)∈l->k≠h->R k v q->R' k v q)(g:∀v,yt kv (.inl h)=Y v->R' h v b):Pk R' kv (X7 l h b):=by
 unfold Pk at p;induction p with
 |nil=>exact .nil
 |@cons x e kv l hd tl ih=>
  rw[bB,cw] at u;have w:=λk v q m=>f k v q (bt e m);by_cases c:e.1=h
  .refine .cons ?_ (ih u.2 w λv z=>?_)
   .dsimp only;rw[ao c];subst c;exact{hd.1,g _ (xt hd.1)}
   .obtain ⟨y,_⟩|⟨_,q,_,m,_⟩:=Pk.get (R:=R) tl (h:=h)
    .rw[y] at z;cases z
    .exact absurd (bE (f:=λe:Int×β=>e.1) m) (by rw[<-c];exact u.1)
  .refine .cons ?_ (ih u.2 w λv z=>g v ((xu (by rw[hd.1];exact λz=>c (ph z))).trans z));dsimp only;rw[ak c];exact{hd.1,f _ _ _ bw c hd.2}
end
def dkF{P:AG}(T:Txt K P t):DkF K t:={T.q04,T.q0j,T.q1s,T.q2e,T.q2j,T.q2d,T.q2b,T.q2i,T.q2f,T.q2h,T.q2g,T.q2c,T.q2m,T.q2l,T.q2n,T.q2k,T.q2z}
section
variable {L':List (af×HO)}{m:af}{r:af}
def AQ.of(s:aJ H H'):AQ H H':=λ_ _ e=>s _ _ e
def u7.at(h:u7 t H lb Bp m re g lays P cs CC)(e:Bp[i]?=Y (b,o)):H b=Y o:=(h.ob i b o e).1
def u7.lb_(h:u7 t H lb Bp m re g lays P cs CC)(e:Bp[i]?=Y (b,o)):lb b=i+1:=(h.ob i b o e).2
theorem u7.core2{J:Pl->Int->Prop}(h:u7 t H lb Bp m re g lays P cs CC)(e:∀b,lb b≠0->lb' b=lb b)(I:∀b,lb b=0->lb' b=0\/lb' b=11/\∃o,H' b=Y o)(ob:∀i b o,L'[i]?=Y (b,o)->H' b=Y o/\lb b=i+1)(k:∀b o,lb b=10\/lb b=13->H b=Y o->H' b=Y o)(rr:∃kk,uT H' re (λb=>lb' b=11) J kk)(A:AQ H H')(al:∀b o,H b=Y o->∃o',H' b=Y o'):u7 t H' lb' L' m re g lays J cs CC:=by
 have w:(λb=>lb' b=10)=λb=>lb b=10:=funext λb=>propext (by
  obtain z|z:=oA (lb b)
  .obtain y|⟨y,_⟩:=I b z <;> rw[y,z] <;> decide
  .rw[e b ()])
 refine{λi b o z=>?_,by rw[w];exact h.ms.keep (λb o fb e=>k b o (.inl fb) e) A,rr,(e _ (by rw[h.rl];decide)).trans h.rl,Paired.mapP h.cc λv C ⟨⟨c,ys,q,T,O⟩,u⟩=>{{c,ys,q,k c _ (.inr (u c q)) T,vJ A O},λc q=>(e c (by rw[u c q];decide)).trans (u c q)},λb hb=>?_}
 .have #[h1,h2]:=ob i b o z;exact{h1,(e b ()).trans h2}
 .obtain z|z:=oA (lb b)
  .obtain y|⟨_,y⟩:=I b z
   .exact absurd y hb
   .exact y
  .have #[o,z]:=h.ow b ();exact al b o z
theorem u7.core(h:u7 t H lb Bp m re g lays P cs CC)(ob:∀i b o,L'[i]?=Y (b,o)->H' b=Y o/\lb b=i+1)(k:∀b o,10<=lb b->lb b<14->H b=Y o->H' b=Y o)(u:AQ H H')(w:∀b o,H b=Y o->∃o',H' b=Y o'):u7 t H' lb L' m re g lays P cs CC:=
 h.core2 (λ_ _=>rfl) (λ_=>.inl) ob (λb o z e=>k b o () () e) (let ⟨kk,z⟩:=h.rr;{kk,z.keep h.rl (λb o q e=>k b o (by rw[q];decide) (by rw[q];decide) e) λ_ z=>z}) u w
open Classical in
theorem u7.regrow{I:Pl->Int->Prop}(h:u7 t H lb Bp m re g lays P cs CC)(ll:Bp.length=9)(k:dl (λb=>lb b=11\/H b=L) re H H')(dm:Dm H H')(rr:uT H' re (λb=>lb b=11\/H b=L) I kk):∃lb',Fr M1 H H' lb lb'/\u7 t H' lb' Bp m re g lays I cs CC:=by
 have q:∀b o,lb b≠11->H b=Y o->H' b=Y o:=λb o z e=>k b o e (λy=>z (by rw[y];exact h.rl)) (.inr λy=>y.elim z λy=>by rw[e] at y;cases y);have #[T,J]:=h.rr;have u:AQ H H':=λb zs e=>k b _ e (zQ e J.at_ ()) (.inl nofun);have A:∀b o,H b=Y o->∃o',H' b=Y o':=λb o e=>let ⟨o',z,_⟩:=dm b o e;{o',z}
 have O:∀b,lb b≠0->H b≠L:=λb z y=>by have #[o,e]:=h.ow b z;rw[y] at e;cases e
 refine{λb=>if H b=L/\∃o,H' b=Y o then 11 else lb b,{λb o e=>ak (λz=>by rw[z.1] at e;cases e),λb o z e=>q b o (by unfold M1 at z;lia) e,u,A},h.core2 (λb z=>ak λy=>O b z y.1) (λb z=>?_) (λi b o z=>?_) (λb o z e=>q b o () e) {kk,rr.keep2 Z (λb xs _ e=>e) λb fb z=>?_} u A}
 .by_cases y:H b=L/\∃o,H' b=Y o
  .exact .inr {ao y,y.2}
  .exact .inl ((ak y).trans z)
 .have #[h1,h2]:=h.ob i b o z;have:=(bd.mp z).1;exact{q b o () h1,h2}
 .by_cases y:H b=L/\∃o,H' b=Y o
  .exact ao y
  .exact(ak y).trans (fb.resolve_right λw=>y {w,z})
theorem u7.keep(h:u7 t H lb Bp m re g lays P cs CC)(A:Bp.length=9)(k:∀b o,lb b≠0->lb b<14->H b=Y o->H' b=Y o)(w:AQ H H')(z:∀b o,H b=Y o->∃o',H' b=Y o'):u7 t H' lb Bp m re g lays P cs CC:=
 h.core (λi b o e=>by have #[u,q]:=h.ob i b o e;have:=(bd.mp e).1;exact{k b o () () u,q}) (λb o u q e=>k b o () q e) w z
def u7.same(h:u7 t H lb Bp m re g lays P cs CC)(k:Bp.length=9)(s:aJ H H'):u7 t H' lb Bp m re g lays P cs CC:=h.keep k (λb o _ _ e=>s _ _ e) (AQ.of s) λb o e=>{o,s _ _ e}
def JL:∀k u,H k=Y u->∃u',upd H b o k=Y u':=λk u e=>by
 by_cases c:k=b
 .exact{o,by rw[c];exact zo}
 .exact{u,by rw[zt c];exact e}
def jK(e:H b=Y o)(n:∀k,o≠.tup k):AQ H (upd H b o'):=λq ys c=>by rw[zt (zQ c e (λz=>n ys z.symm))];exact c
theorem u7.put(h:u7 t H lb Bp m re g lays P cs CC)(T:Bp.length=9)(e:Bp[i]?=Y (b,o))(n:∀I,o≠.tup I):u7 t (upd H b o') lb (Bp.set i (b,o')) m re g lays P cs CC:=by
 have li:=(bd.mp e).1;have #[O,J]:=h.ob i b o e;refine h.core (λj A w k=>?_) (λA w u q k=>?_) (jK O n) JL
 .rw[List.getElem?_set] at k;by_cases c:i=j
  .rw[ao c,ao ()] at k;cases k;exact{zo,()}
  .rw[ak c] at k;have #[u,q]:=h.ob j A w k;exact{by rw[zt (λz=>by rw[z] at q;lia)];exact u,q}
 .rw[zt (λz=>by rw[z] at u;lia)];exact k
def Fr.mono{c:Nat->Prop}(h:Fr M H H' lb lb')(k:∀l,c l->M l):Fr c H H' lb lb':={h.ex,λb o z e=>h.kp b o (k _ z) e,h.ts,h.al}
theorem Fr.m0(h:Fr M1 H H' lb lb'):Fr M0 H H' lb lb':=h.mono λl z=>z.imp id λy=>by lia
def Fr.same(s:aJ H H'):Fr M H H' lb lb:={λ_ _ _=>rfl,λ_ _ _ e=>s _ _ e,λ_ _ e=>s _ _ e,λ_ o e=>{o,s _ _ e}}
def Fr.trans{c:Hp}{lb2:AN_}(h:Fr M H H' lb lb')(k:Fr M H' c lb' lb2):Fr M H c lb lb2:=
 {λb o e=>let ⟨o',e'⟩:=h.al b o e;(k.ex b o' e').trans (h.ex b o e),λb o z e=>k.kp b o (by rw[h.ex b o e];exact z) (h.kp b o z e),λb zs e=>k.ts b zs (h.ts b zs e),λb o e=>let ⟨o',e'⟩:=h.al b o e;k.al b o' e'}
theorem u7.fput(h:u7 t H lb Bp m re g lays P cs CC)(e:Bp[i]?=Y (b,o))(n:∀k,o≠.tup k)(w:i<9:=by lia):Fr M1 H (upd H b o') lb lb:=by have l:=h.lb_ e;exact{λ_ _ _=>rfl,λA u z q=>by rw[zt (λy=>by rw[y,l] at z;unfold M1 at z;lia)];exact q,jK (h.at e) n,JL}
def zi7(h:gV H l ah)(F:Fr M H H' lb lb')(k:M 14)(z:lb l=14):gV H' l ah:=by have #[xs,c,q]:=h;exact{xs,F.kp _ _ (by rw[z];exact k) c,Paired.mapP q λ_ _ y=>L2.PrAt.tsame y F.ts}
def Az.fr(h:Az H lb r s gi)(F:Fr M H H' lb lb')(k:M 14):Az H' lb' r s gi:=by have #[o,nl,gl,e,z,w,u,q,c]:=h;have #[xs,I,O]:=id w;have #[ys,A,J]:=id u;exact{o,nl,gl,F.ts _ _ e,zgY z F.ts,zi7 w F k q,zi7 u F k c,(F.ex _ _ I).trans q,(F.ex _ _ A).trans c}
def vp(h:Pk (Wa H lb) la ld)(F:Fr M H H' lb lb')(k:M 14):Pk (Wa H' lb') la ld:=Paired.mapP h λ_ _ ⟨e,r,q,c⟩=>{e,r,q,c.fr F k}
def EnI.fr{c:Nat}{es:LRG}(h:EnI H lb en c es)(F:Fr M H H' lb lb')(k:M 14):EnI H' lb' en c es:={h.le,Paired.mapP h.ps λ_ _ ⟨r,u,q⟩=>{r,u,q.fr F k}}
def u7.out(h:u7 t H lb Bp m re g lays P cs CC)(e:H b=L):lb b=0:=gu λz=>by have #[o,y]:=h.ow b z;rw[e] at y;cases y
end
section
variable {a:AJ}{ws:ym}{r:af}
theorem zkh(x:Int):∃k,xo (dbL db) (.inl x) (.bl U)=dbL k/\(db.Nodup->k.Nodup)/\∀y,y∈k↔y∈db\/y=x:=by
 by_cases c:x∈db
 .refine{db,?_,id,λy=>{.inl,λz=>z.elim id λz=>by rw[z];exact c}};unfold xo;rw[ao (mW.mpr {(.inl x,.bl U),bE (f:=λr=>((.inl r:Key),V.bl U)) c,Bj Z})];refine(dR λkv w=>?_).trans (List.map_id _);have #[y,_,rfl]:=bK.mp w;split <;> rfl
 .refine{db++[x],?_,λq=>?_,λy=>by rw[bp,bo]}
  .rw[jr _ (zal λz=>?_)]
   .unfold dbL;rw[bZ];rfl
   rw[dbL,eQ] at z;have #[y,m,e]:=bK.mp z;exact c (by rw[<-ph e];exact m)
  .refine dh.mpr {q,by simp,λy m z u e=>c ?_};rw[<-bo.mp u,<-e];exact m
theorem zdY(x:Int):yO (dbL db) (.inl x)=dbL (db.filter λy=>decide (y≠x)):=by unfold yO dbL;rw[List.filter_map];congr 1;refine List.filter_congr λy _=>?_;show decide ((i9 y:Key)≠.inl x)=decide (y≠x);simp
def zg9{x:Int}(h:x∈db):yt (dbL db) (.inl x)=Y (.bl U):=by
 cases e:yt (dbL db) (.inl x) with
 |none=>
  refine absurd ?_ (zaZ e);rw[dbL,eQ];exact bE (f:=λy:Int=>(i9 y:Key)) h
 |some v=>
  have #[p,c,rfl]:=zfU e;have #[y,_,rfl]:=bK.mp c;rfl
def DbOk.len(h:DbOk ld db):db.length<=ld.length:=by
 have:=xE h.nd h.su
 rwa [bn] at this
def zit{lo c:Option Int}{x:V}(h:x∈kB xs lo c):x∈xs:=cF (cH h)
theorem u7.dbt(x:Int)(h:u7 t H lb (AT t d a n f wo cs ws kv la db en) a.mks a.re g lays P cs CC)(l:db.length<=100):∃H' q,DPut H a.db (.int x) (.bl U) H'/\Fr M1 H H' lb lb/\u7 t H' lb (AT t d a n f wo cs ws kv la q en) a.mks a.re g lays P cs CC/\(db.Nodup->q.Nodup)/\(∀y,y∈q↔y∈db\/y=x)/\∀b o,b≠a.db->H b=Y o->H' b=Y o:=by have #[q,e,u,w]:=zkh (db:=db) x;have A:=h.put (i:=7) (o':=.dK (dbL q)) Z Z ();have I:=h.fput (i:=7) (o':=.dK (dbL q)) Z ();have z:=DPut.k (k:=.inl x) (v:=.bl U) (h.at (i:=7) Z) (by rw[bN];unfold dbL;rw[bn];lia);rw[e] at z;exact{_,q,z,I,A,u,w,λb o z e=>by rw[zt z];exact e}
theorem JM{c p:af}{rs:ym}{k:Nat}{v4:V}(D:DkF K t)(h:u7 t H lb (AT t d a n f wo cs ws kv la db en) a.mks a.re g lays (AD ld) cs CC)(hd:DbOk ld db)(ai:ld.length<=10)(hc:H c=Y (.lst (rs.map V.int)))(hs:rs.Pairwise (· < ·)){R:Int->Prop}(hr:∀r∈rs,r∈ld.map (·.1))(kt:∀r∈rs,ae<r->R r->r∈rs.take k)(q:∀H' w,Fr M1 H H' lb lb->u7 t H' lb (AT t d a n f wo cs ws kv la w en) a.mks a.re g lays (AD ld) cs CC->DbOk ld w->(∀y∈db,y∈w)->(∀r∈rs,ae<r->R r->r∈w)->Q .non H') :
  W5 K t (u9 Q) [Y (.ref a.jb),Y (.ref p),Y (.int ae),Y (.ref c),Y v4,Y (.int k),L] H:=by
 refine{_,Z,_,Z,_,Z,_,_,Z,Z,c,rs,_,Z,hc,hs,λA H1 s1 _ t1 _=>{A,Z,_,Z,k,Z,c,_,Z,aO.of (s1 _ _ hc),λz hz=>?_}};have cm:∀x∈kB (rs.map V.int) (Y (A:Int)) (Y (k:Int)),∃y∈rs,V.int y=x:=λx hx=>bK.mp (zit hx);have cu:∀r∈rs,ae<r->R r->V.int r∈kB (rs.map V.int) (Y (A:Int)) (Y (k:Int)):=λr hr lt hR=>by
  have #[m,T]:=cE (kt r hr lt hR);rw[dP] at T;split at T
  .rename_i mk;have ml:=(bd.mp T).1;have m1:A<=m:=pQ λz=>by have:=t1 r (bA (show (rs.take A)[m]?=Y r by rw[dP,ao z];exact T));lia
   have e1:HT.sIx (rs.map V.int).length 0 (Y (A:Int))=min A (rs.map V.int).length:=HT.sIx_nat ..;have e2:HT.sIx (rs.map V.int).length (rs.map V.int).length (Y (k:Int))=min k (rs.map V.int).length:=HT.sIx_nat ..;unfold kB;rw[e1,e2,bn];refine bA (i:=m-min A rs.length) ?_;rw[dP,ao (),eV,show min A rs.length+(m-min A rs.length)=m by lia,bF,T];rfl
  .cases T
 generalize kB (rs.map V.int) (Y (A:Int)) (Y (k:Int))=ys at *
 have h1:=h.same Z s1;generalize c_:upd H1 z _=H2;have #[s2,e2]:=yI c_ hz;refine{z,Z,{_,aO.of e2},xD ys (λi σ H'=>(∃o6,σ=[Y (.ref a.jb),Y (.ref p),Y (.int ae),Y (.ref c),Y v4,Y (.int k),o6])/\H' z=Y (.lst ys)/\Fr M1 H H' lb lb/\∃w,u7 t H' lb (AT t d a n f wo cs ws kv la w en) a.mks a.re g lays (AD ld) cs CC/\DbOk ld w/\(∀y∈db,y∈w)/\∀x,V.int x∈ys.take i->x∈w) {{_,Z},e2,Fr.same (s1.trans s2),db,h1.same Z s2,hd,λ_ z=>z,nofun} (λi σ H' ⟨_,z,_⟩=>aO.of z) ?_ ?_}
 .rintro i u σ H' hu ⟨⟨o6,rfl⟩,aa,F,w,h',I,su,yi⟩;have #[x,hx,rfl]:=cm u (bA hu);have ll:=I.len;have #[H4,ag,dp,F4,h4,ac,J,k4]:=h'.dbt x ();exact yh (h'.at (i:=2) Z) D.cJ D.j4 Z Z {_,Z,a.db,H4,Z,dp,{_,Z},k4 _ _ (zQ aa (h'.at (i:=7) Z) ()) aa,F.trans F4,ag,h4,{ac I.nd,λy O=>((J y).mp O).elim (I.su y) λe=>by rw[e];exact hr x hx},λy O=>(J y).mpr (.inl (su y O)),λy O=>(J y).mpr (by
   rw[cI,hu] at O;obtain z|z:=bp.mp O
   .exact .inl (yi y z)
   .exact .inr (V.int.inj (bo.mp z)))}
 .rintro σ H' ⟨_,_,F,w,h',I,su,yi⟩;rw[cU] at yi;exact q H' w F h' I su λr hr lt hR=>yi r (cu r hr lt hR)
theorem Zk(D:DkF K t)(h:u7 t H lb Bp a.mks a.re g lays P cs CC)(l2:Bp[2]?=Y (a.jb,.ins t.q03 a.dj (Ke a.mks a.la a.re a.db)))(l6:Bp[6]?=Y (a.la,.dK la))(hv:yt la (.inl ae)=Y (.ref r))(h0:0<=ae){s:hU}(hp:Az H lb r s gi)(q1:∀H',aJ H H'->Agr g lays ae s.no->Q .non H')(q2:∀v H' q y,aJ H H'->y∈s.no->yg g lays y.1 ae≠y.2->H' v=Y (.tup [.ref q,.int y.2,.int (yg g lays y.1 ae)])->H' q=Y (.tup [.str y.1.1,.int y.1.2])->Q (.ref v) H') :
  v6 K t (u9 Q) (zZZ 5 [.ref a.jb,.int ae]) H:=by
 have #[o,nl,gl,e,_,#[xs,A,px],_,z1,z2]:=hp;have e1:=h.at l2;have e2:=h.at l6;have #[dx,fs,im,_,sn,_]:=h.ms.ins;have dg:Ab H a.la (.int ae) (Y (.ref r)):=by
  have z:=Ab.k (k:=.inl ae) e2
  rwa [hv] at z
 refine(yh e1 D.cJ D.j2 Z Z {_,Z,a.la,_,Z,dg,r,_,1,_,Z,Z,uZ.of e,Z,nl,Z,{_,aO.of A},xD xs (λi σ H'=>(∃o2 o3 o4,σ=[Y (.ref a.jb),Y (.int ae),o2,o3,o4])/\aJ H H'/\Agr g lays ae (s.no.take i)) {{_,_,_,Z},aJ.refl _,nofun} (λi σ H' ⟨_,m,_⟩=>aO.of (m _ _ A)) ?_ ?_})
 .rintro i u σ H' hu ⟨⟨o2,o3,o4,rfl⟩,m,I⟩;have #[y,hy,w,p,rfl,ew,ep]:=Paired.getP px hu;refine{w,_,Z,uZ.of (m _ _ ew),Z,_,_,Z,_,_,Z,Z,yh (m _ _ e1) D.cJ D.j1 Z Z {a.mks,_,_,Z,m _ _ im,sn,_,Z,_,Z,a.mks,p,ae,_,g,lays,y.1,Z,h.ms.same m,h0,m _ _ ep,λH2 J=>?_}};refine{_,Z,_,Z,Z,_,Z,?_};by_cases c:yg g lays y.1 ae=y.2
  .exact yj (by rw[Bj (congrArg V.int c)];rfl) {{_,_,_,Z},m.trans J,λx A=>by
    rw[cI,hy] at A;obtain z|z:=bp.mp A
    .exact I x z
    .rw[bo.mp z];exact c}
  .refine yE (by rw[Bk (λz=>c (V.int.inj z))];rfl) {_,Z,_,Z,_,Z,(),λp' O=>?_};have T:=u5 (o:=HO.tup [V.ref p,V.int y.2,V.int (yg g lays y.1 ae)]) p' O;exact q2 p' _ p y (m.trans (J.trans T)) (bA hy) c zo (T _ _ (J _ _ (m _ _ ep)))
 .rintro σ H' ⟨_,m,I⟩;rw[bG px,cU] at I;exact q1 H' m I
end
section
variable {a:AJ}{ws:ym}{r:af}
theorem Kt{c:Type}{x y:Int×c}:∀ {l:List (Int×c)},(l.map (·.1)).Nodup->x∈l->y∈l->x.1=y.1->x=y
 |z::l,nd,hx,hy,e=>by
  rw[bB,cw] at nd;obtain h1|h1:=bC.mp hx <;> obtain h2|h2:=bC.mp hy
  .rw[h1,h2]
  .exact absurd (bK.mpr {y,h2,by rw[<-e,h1]}) nd.1
  .exact absurd (bK.mpr {x,h1,by rw[e,h2]}) nd.1
  .exact Kt nd.2 h1 h2 e
theorem qg(D:DkF K t)(h:u7 t H lb (AT t d a n f wo cs ws kv la db en) a.mks a.re g lays (AD ld) cs CC)(hl:Pk (Wa H lb) la ld)(ha:DbA g lays ld db)(aS:ld.length<=10)(nl:(ld.map (·.1)).Nodup)(h0:∀e∈ld,0<=e.1)(q1:∀H',Fr M1 H H' lb lb->u7 t H' lb (AT t d a n f wo cs ws kv la [] en) a.mks a.re g lays (AD ld) cs CC->DbA g lays ld []->Q .non H')(q2:∀v H' db' q r s gi y,Fr M1 H H' lb lb->u7 t H' lb (AT t d a n f wo cs ws kv la db' en) a.mks a.re g lays (AD ld) cs CC->DbA g lays ld db'->(∀x∈db',r<=x)->(r,s,gi)∈ld->y∈s.no->yg g lays y.1 r≠y.2->H' v=Y (.tup [.int r,.ref q,.int y.2,.int (yg g lays y.1 r)])->H' q=Y (.tup [.str y.1.1,.int y.1.2])->Q (.ref v) H') :
  vo K t (u9 Q) (zZZ 4 [.ref a.jb]) H:=by
 have hd:=ha.wk;have ll:=hd.len;refine(yh (h.at (i:=2) Z) D.cJ D.j4 Z Z {a.db,dbL db,db,Z,h.at (i:=7) Z,by unfold dbL;rw[eQ];rfl,by unfold dbL;rw[bn];lia,λl k az hs hp=>?_});have nd:k.Nodup:=hs.nodup_iff.mpr hd.nd;generalize c_:upd H l _=H2;have #[s2,e2]:=yI c_ az;refine{_,Z,l,Z,{_,aO.of e2},xD (k.map V.int) (λi σ H'=>(∃o2 o3,σ=[Y (.ref a.jb),Y (.ref l),o2,o3])/\H' l=Y (.lst (k.map V.int))/\Fr M1 H H' lb lb/\∃db',u7 t H' lb (AT t d a n f wo cs ws kv la db' en) a.mks a.re g lays (AD ld) cs CC/\DbA g lays ld db'/\∀r,r∈k.drop i↔r∈db') {{_,_,Z},e2,Fr.same s2,db,h.same Z s2,ha,λr=>hs.mem_iff} (λi σ H' ⟨_,z,_⟩=>aO.of z) ?_ ?_}
 .rintro i u σ H' hu ⟨⟨o2,o3,rfl⟩,ai,F,db',J,m,T⟩;have I:=m.wk;rw[bF] at hu;have #[x,O,rfl]:=cr.mp hu;have li:=(bd.mp O).1;have ex:k[i]=x:=(bd.mp O).2;have ed:k.drop i=x::k.drop (i+1):=by rw[eD li,ex]
  have xd:x∈db':=(T x).mp (by rw[ed];exact bw);have #[e,he,rfl]:=bK.mp (I.su x xd);have ar:=vp hl F (M:=M1) (.inr ());obtain ⟨_,z⟩|⟨v,b,hv,hm,r,rfl,hr⟩:=ar.get (h:=e.1)
  .exact absurd (bE (f:=λe:Int×hU×zD=>e.1) he) z
  refine{_,Z,a.jb,_,_,Z,J.at (i:=2) Z,Z,_,Z,d,a,lb,_,la,g,lays,_,cs,CC,e.1,r,b.1,b.2,Z,J,Z,Z,hv,h0 e he,hr,λH3 A ag=>?_,λv H3 q y A hy hn w hq=>?_}
  .have w:=J.same Z A;refine{_,Z,Z,_,Z,yj Z (yh (w.at (i:=2) Z) D.cJ D.j4 Z Z {a.db,Z,.inl {_,.inl (w.at (i:=7) Z)},_,Z,dbL db',.inl e.1,_,w.at (i:=7) Z,Z,zg9 xd,?_})};rw[zdY];have h4:=w.put (i:=7) (o':=.dK (dbL (db'.filter λy=>decide (y≠e.1)))) Z Z ();have F4:=w.fput (i:=7) (o':=.dK (dbL (db'.filter λy=>decide (y≠e.1)))) Z ();refine{{_,_,Z},by rw[zt (zQ (A _ _ ai) (w.at (i:=7) Z) ())];exact A _ _ ai,F.trans ((Fr.same A).trans F4),_,h4,{{I.nd.sublist dD,λr hr=>I.su r (cC.mp hr).1},λe' aj nm=>?_},λr=>?_}
   .by_cases c:e'.1=e.1
    .rw[Kt nl aj hm c];exact ag
    .exact m.ag e' aj λz=>nm (cC.mpr {z,Bj c})
   .have aa:=nd.sublist (iK i k);rw[ed,cw] at aa;have sr:=T r;rw[ed,bC] at sr;rw[cC,decide_eq_true_eq,<-sr];exact{λz=>{.inr z,λy=>aa.1 (by rw[<-y];exact z)},λz=>z.1.resolve_left z.2}
  .have aP:=J.same Z A;refine{_,Z,Z,_,Z,yE Z {_,Z,(),λp1 an=>?_}};generalize c_:upd H3 p1 _=H4;have #[s4,e4]:=yI c_ an;refine{_,Z,p1,v,_,_,Z,Z,uZ.of e4,uZ.of (s4 _ _ w),(),(),?_};refine{(),λ_ p2 al=>?_};have s5:=u5 (o:=HO.tup [V.int e.1,V.ref q,V.int y.2,V.int (yg g lays y.1 e.1)]) p2 al;refine q2 p2 _ db' q e.1 b.1 b.2 y (F.trans (Fr.same (A.trans (s4.trans s5)))) (aP.same Z (s4.trans s5)) m (λx O=>?_) hm hy hn zo (s5 _ _ (s4 _ _ hq));have ac:=hp.sublist (iK i k);have sx:=(T x).mpr O;rw[ed] at ac sx;obtain z|z:=bC.mp sx
   .exact Int.le_of_eq z.symm
   .exact uf (oH ac z)
 .rintro σ H' ⟨_,_,F,db',J,m,T⟩;have:db'=[]:=List.eq_nil_iff_forall_not_mem.mpr λx O=>by have:=(T x).mpr O;rw[bn,m3] at this;cases this
  rw[this] at J m;exact q1 H' F J m
theorem zdZ{c:zD}{k:Row}(u:(c.map (·.1)).Nodup)(h:c[i]?=Y k):k.1 ∉ (c.take i).map (·.1):=λz=>by
 have #[j,m]:=cE z;rw[bF,dP] at m;split at m
 .rename_i hji;have q:(c.map (·.1))[j]?=Y k.1:=by rw[bF];exact m
  have w:(c.map (·.1))[i]?=Y k.1:=by rw[bF,h];rfl
  have:=(iM (bd.mp q).1 u).mp (q.trans w.symm);lia
 .cases m
theorem zb5{k:zD}{c:Row}{p:Pl}(h:k[i]?=Y c):p∈(k.take (i+1)).map (·.1)↔p∈(k.take i).map (·.1)\/p=c.1:=by
 rw[cI,h,bZ,bp];have:p∈tJ (·.1) (Y c).toList↔p=c.1:=by simp
 rw[this]
def tkI(a:AJ)(v:V)(ae:Int)(G:Ad)(P:Pl->Int->Prop)(no:zD)(H:Hp)(i:Nat)(σ:St)(H':Hp):Prop:=(∃k c,σ=[Y (.ref a.jb),Y (.int ae),Y v,k,c])/\dl G a.re H H'/\Dm H H'/\∃m,uT H' a.re G (λp j=>P p j/\¬ (j=ae/\p∈(no.take i).map (·.1))) m
end
section
variable {m:af}{a:AJ}{ws:ym}{r:af}
open Classical in
theorem u7.relay{F':Ad}(h:u7 t H lb Bp m re g lays P cs CC)(ll:Bp.length=9)(k:∀b o,lb b≠10->H b=Y o->H' b=Y o)(O:AQ H H')(M:Al t H' m F' g lays')(T:∀b,F' b->lb b=10\/H b=L)(I:∀b,lb b=10->F' b):∃lb',Fr M1 H H' lb lb'/\u7 t H' lb' Bp m re g lays' P cs CC:=by
 have e0:∀b,lb b≠0->¬ lb b=10->¬ F' b:=λb z y w=>(T b w).elim y λv=>by have #[o,e]:=h.ow b z;rw[v] at e;cases e
 have u:∀b,lb b≠0->(if F' b then 10 else lb b)=lb b:=λb z=>by
  by_cases y:lb b=10
  .rw[ao (I b y),y]
  .rw[ak (e0 b z y)]
 have J:(λb=>(if F' b then 10 else lb b)=10)=F':=funext λb=>propext {λz=>by
  by_cases y:F' b
  .exact y
  .rw[ak y] at z;exact I b z,λz=>ao z}
 have al:∀b o,H b=Y o->∃o',H' b=Y o':=λb o e=>by
  by_cases y:lb b=10
  .exact M.own b (I b y)
  .exact{o,k b o y e}
 have rl:=h.rl;have #[kk,r0]:=h.rr;refine{λb=>if F' b then 10 else lb b,{λb o e=>?_,λb o z e=>k b o (by unfold M1 at z;lia) e,O,al},λi b o e=>?_,by rw[J];exact M,{kk,r0.keep rl (λb o fb e=>k b o () e) λb z=>(u b ()).trans z},(u _ ()).trans rl,Paired.mapP h.cc λv C ⟨⟨c,ys,q,hc,pc⟩,A⟩=>{{c,ys,q,k c _ (by rw[A c q];decide) hc,vJ O pc},λc q=>(u c (by rw[A c q];decide)).trans (A c q)},λb hb=>?_}
 .by_cases y:F' b
  .rw[ao y];exact((T b y).resolve_right λz=>by rw[z] at e;cases e).symm
  .rw[ak y]
 .have #[h1,h2]:=h.ob i b o e;have:=(bd.mp e).1;exact{k b o () h1,(u b ()).trans h2}
 .by_cases y:F' b
  .exact M.own b y
  .have #[o,e]:=h.ow b (λz=>hb ((ak y).trans z));exact al b o e
def zi8(h:Bl (zbC H) ys (uU gs)):∀y∈ys,∃c q,y=.ref c/\H c=Y (.tup ((zI q).map kV)):=λy k=>by have #[i,w]:=cE k;have #[kv,u,c,e,A]:=Paired.getP h w;have #[O,I,_]:=JF gs;have z:=bE (f:=λx:xO×V=>x.1) (bA u);rw[I] at z;have #[q,_,J]:=bK.mp z;exact{c,q,e,by rw[J];exact A}
def zha{ys:LV}{c:zD}(h:Bl (zbC H) ys (uU c))(k:(c.map (·.1)).Nodup):ys.length=c.length:=by rw[bG h,We k,bn]
def ptI(a:AJ)(r:af)(ae:Int)(l:af)(G:Ad)(P:Pl->Int->Prop)(no:zD)(H:Hp)(i:Nat)(σ:St)(H':Hp):Prop:=(∃c o5,σ=[Y (.ref a.jb),Y (.int ae),Y (.ref r),Y (.ref l),c,o5])/\dl G a.re H H'/\Dm H H'/\∃k,uT H' a.re G (λp j=>P p j\/j=ae/\p∈(no.take i).map (·.1)) k
theorem zeX{g:zD}{ls c:Aj}{p:Pl}{r k:Int}(nd:(ls.map (·.1)).Nodup)(J:(c.map (·.1)).Nodup)(z0:∀y∈ls,0<=y.1)(aa:∀y∈c,0<=y.1)(I:∀y∈ls,y.1≠r->y∈c)(T:∀y∈c,y.1≠r->y∈ls)(hk:k<=r\/((∀y∈ls,y.1=r->zE y.2 p=L)/\∀y∈c,y.1=r->zE y.2 p=L)\/∃y∈ls,r<y.1/\y.1<k/\zE y.2 p≠L):yg g ls p k=yg g c p k:=by
 unfold yg;have a1:∀y∈ls,y.1<k->zE y.2 p≠L->(∀z∈ls,z.1<k->zE z.2 p≠L->z.1<=y.1)->y.1≠r:=λy u lt q O e=>by
  obtain h|⟨h,_⟩|⟨z,hz,h1,h2,h3⟩:=hk
  .lia
  .exact q (h y u e)
  .have:=O z hz h2 h3;lia
 have a2:∀y∈c,y.1<k->zE y.2 p≠L->(∀z∈c,z.1<k->zE z.2 p≠L->z.1<=y.1)->y.1≠r:=λy u lt q O e=>by
  obtain h|⟨_,h⟩|⟨z,hz,h1,h2,h3⟩:=hk
  .lia
  .exact q (h y u e)
  .have:=O z (I z hz ()) h2 h3;lia
 obtain ⟨e1,n1⟩|⟨y,u,w,e1,e2,e3,e4,e5⟩:=xH p k ls (-1,(zE g p).getD 0) <;> obtain ⟨f1,n2⟩|⟨y',hy',w',f1,f2,f3,f4,f5⟩:=xH p k c (-1,(zE g p).getD 0)
 .rw[e1,f1]
 .have q:zE y'.2 p≠L:=by rw[f1];exact nofun
  have:=n1 y' (T y' hy' (a2 y' hy' f2 q f5)) f3 f2;exact absurd this q
 .have q:zE y.2 p≠L:=by rw[e1];exact nofun
  have:=n2 y (I y u (a1 y u e2 q e5)) e3 e2;exact absurd this q
 .have q:zE y.2 p≠L:=by rw[e1];exact nofun
  have A:zE y'.2 p≠L:=by rw[f1];exact nofun
  have m1:=I y u (a1 y u e2 q e5);have m2:=T y' hy' (a2 y' hy' f2 A f5);have:y=y':=Kt J m1 hy' (Int.le_antisymm (f5 y m1 e2 q) (e5 y' m2 f2 A));rw[e4,f4];rw[this,f1] at e1;exact(bU e1).symm
def zi9{ys:LV}{k:zD}{p:Pl}(h:Bl (zbC H) ys (uU k))(z:(k.map (·.1)).Nodup)(J:p∈k.map (·.1)):∃c,.ref c∈ys/\H c=Y (.tup ((zI p).map kV)):=by have #[w,I]:=Option.ne_none_iff_exists'.mp ((wa z).mp J);have #[i,u]:=cE (As.mpr {p,w,Z,I});obtain⟨v,q⟩:∃v,ys[i]?=Y v:={_,ba (by rw[bG h];exact(bd.mp u).1)};have #[y,A,c,rfl,O]:=Paired.getP h q;cases u.symm.trans A;exact{c,bA q,O}
def Dd(ld:List (Int×hU×zD))(lays:Aj)(ae:Int)(p:Pl)(db:ym):Prop:=∀r,AD ld p r->ae<r->(∀i,jP lays p i->ae<i->r<=i)->r∈db
def ziu{p q:Pl}(h:HO.tup ((zI p).map kV)=.tup ((zI q).map kV)):p=q:=by injection h with h;have h:[V.str p.1,V.int p.2]=[V.str q.1,V.int q.2]:=h;injection h with h1 h2;injection h2 with h2;exact tE (V.str.inj h1) (V.int.inj h2)
theorem zki{g:zD}{lays:Aj}{ld:List (Int×hU×zD)}{ae:Int}{gi A:zD}{I:ym}{e:Int×hU×zD}(T:(lays.map (·.1)).Nodup)(z0:∀y∈lays,0<=y.1)(h0:0<=ae)(ng:(gi.map (·.1)).Nodup)(q:∀y∈lays,(y.2.map (·.1)).Nodup)(ho:(ae,A)∈lays\/(ae ∉ lays.map (·.1)/\A=[]))(he:e∈ld)(ag:Agr g lays e.1 e.2.1.no)(no:e.1 ∉ I)(dd:∀p,p∈A.map (·.1)\/p∈gi.map (·.1)->Dd ld (we lays ae gi) ae p I):Agr g (we lays ae gi) e.1 e.2.1.no:=by
 have c:∀y,y∈we lays ae gi↔(y∈lays/\y.1≠ae)\/y=(ae,gi):=λy=>by unfold we;rw[bp,cC,decide_eq_true_eq,bo]
 have O:((we lays ae gi).map (·.1)).Nodup:=by unfold we;rw[bZ,dh];refine{T.sublist (f8 _ dD),cw.mpr {cQ,cY},λa ha b hb=>?_};have #[y,k,rfl]:=bK.mp ha;rw[bo.mp hb];exact of_decide_eq_true (cC.mp k).2
 intro y k;rw[<-ag y k];refine(zeX (r:=ae) T O z0 (λy k=>?_) (λy k n=>(c y).mpr (.inl {k,n})) (λy k n=>((c y).mp k).elim (λz=>z.1) λz=>absurd (by rw[z]) n) ?_).symm
 .rcases(c y).mp k with z|z
  .exact z0 y z.1
  .rw[z];exact h0
 by_cases c1:e.1<=ae
 .exact .inl c1
 by_cases c2:y.1∈A.map (·.1)\/y.1∈gi.map (·.1)
 .refine .inr (.inr ?_);have:=dd y.1 c2 e.1 {e,he,Z,bE (f:=(·.1)) k} ();have #[i,hi]:=Classical.not_forall.mp λz=>no (this z);have #[#[w,hg,hp],hi]:=tY.mp hi;have #[lt,aa]:=tY.mp hi;have ml:(i,w)∈lays:=((c _).mp hg).elim (λz=>z.1) λz=>by cases z;lia
  exact{(i,w),ml,lt,by show i<e.1;lia,(wa (q _ ml)).mp hp}
 .refine .inr (.inl {λx u J=>?_,λx u J=>?_})
  .refine oI λz=>c2 (.inl ?_);have:A=x.2:=by
    obtain h|⟨h,_⟩:=ho
    .have:=Kt T h u J.symm;rw[<-this]
    .exact absurd (by rw[<-J];exact bE (f:=(·.1)) u) h
   rw[this];exact(wa (q x u)).mpr z
  .refine oI λz=>c2 (.inr ?_);rcases(c x).mp u with y|rfl
   .exact absurd J y.2
   .exact(wa ng).mpr z
theorem Xz(D:DkF K t)(h:u7 t H lb (AT t d a n f wo cs ws kv la db en) a.mks a.re g lays (AD ld) cs CC)(hl:Pk (Wa H lb) la ld)(ha:DbA g lays ld db)(aS:∀e∈ld,zcW e.2.1.no e.2.2)(bj:ld.length<=10)(nr:ae ∉ ld.map (·.1))(h0:0<=ae)(ll:lays.length<=10)(hp:Az H lb r s gi)(nt:zcW s.no gi)(q:∀H' lb' a1 A,Fr M1 H H' lb lb'->u7 t H' lb' (AT t d a n f wo cs ws kv a1 A en) a.mks a.re g (we lays ae gi) (AD (ld++[(ae,s,gi)])) cs CC->Pk (Wa H' lb') a1 (ld++[(ae,s,gi)])->DbA g (we lays ae gi) (ld++[(ae,s,gi)]) A->Q .non H') :
  qd K t (u9 Q) (zZZ 6 [.ref a.jb,.int ae,.ref r]) H:=by
 have hd:=ha.wk;have az:=h.ms;have e1:H a.jb=Y (.ins t.q03 a.dj (Ke a.mks a.la a.re a.db)):=h.at (i:=2) rfl;have #[dx,gr,be,rk,wk,kx,M]:=Ak.ex h.ms;refine(yh e1 D.cJ D.j1 Z Z {a.mks,_,_,Z,M.im,jF (),_,Z,_,_,_,_,_,_,Z,h.ms,λl ys gs H1 s1 bx bl I ho=>?_});have ok:Jw gs:=ho.elim (λz=>(h.ms.ok _ z).2) λz=>by rw[z.2];exact{cY,cf _}
 have b2:ys.length<=63:=by rw[zha I ok.nd];exact ok.le
 have h1:=h.same Z s1;have #[o,nl,gl,er,_,ln,lg,z1,z2]:=hp.fr (Fr.same (M:=M1) s1) (.inr ());refine(yh (s1 _ _ e1) D.cJ D.j1 Z Z {a.mks,_,_,Z,s1 _ _ M.im,jF (),_,Z,_,Z,r,_,2,_,Z,Z,uZ.of er,Z,_,_,_,_,_,_,_,Z,h1.ms,h0,lg,(λz=>by rw[z2] at z;cases z),{nt.ng,bI nt.lg ()},bI ll (),λH2 F2 k2 t2 m2 f2 g2=>?_});have #[O,ai,h2]:=h1.relay Z k2 t2 m2 f2 g2;have F2:=(Fr.same s1).trans ai;have e2:H2 a.jb=Y (.ins t.q03 a.dj (Ke a.mks a.la a.re a.db)):=h2.at (i:=2) rfl;have a8:H2 l=Y (.lst ys):=ai.kp _ _ (.inl (h.out bx)) bl;have a3:=zi8 I;clear M wk kx;have #[dx,gr,be,rk,wk,kx,M]:=Ak.ex h2.ms;refine{_,Z,yh e2 D.cJ D.j1 Z Z {a.mks,_,_,Z,M.im,jF (),_,Z,_,_,_,_,_,_,Z,h2.ms,λl2 T gs2 H3 s3 b5 a7 aj ar=>?_}};have al:Jw gs2:=ar.elim (λz=>(h2.ms.ok _ z).2) λz=>by rw[z.2];exact{cY,cf _}
 have b1:T.length<=63:=by rw[zha aj al.nd];exact al.le
 have a2:=zi8 aj;refine{l,l2,ys,T,Z,Z,s3 _ _ a8,a7,by rw[bN];lia,λp a6=>?_};generalize c_:upd H3 p _=H4;have #[s4,e4]:=yI c_ a6;have S4:=s3.trans s4;have ky:∀y∈ys++T,∃c q,y=.ref c/\H4 c=Y (.tup ((zI q).map kV)):=λy I=>by
  obtain z|z:=bp.mp I
  .have #[c,q,e,hc]:=a3 y z;exact{c,q,e,S4 _ _ (ai.ts _ _ hc)}
  .have #[c,q,e,hc]:=a2 y z;exact{c,q,e,s4 _ _ hc}
 have a5:∀p,p∈gs.map (·.1)\/p∈gi.map (·.1)->∃c,.ref c∈ys++T/\H4 c=Y (.tup ((zI p).map kV)):=λp z=>by
  obtain z|z:=z
  .have #[c,m,hc]:=zi9 I ok.nd z;exact{c,cz _ m,S4 _ _ (ai.ts _ _ hc)}
  .have eg:gs2=gi:=by
    have m0:(ae,gi)∈we lays ae gi:=by unfold we;exact bQ _ (bo.mpr Z)
    obtain h|⟨h,_⟩:=ar
    .have:=Kt h2.ms.nd h m0 rfl;injection this
    .exact absurd (bE (f:=(·.1)) m0) h
   have #[c,m,hc]:=zi9 aj al.nd (by rw[eg];exact z);exact{c,bQ _ m,s4 _ _ hc}
 have lp:O p=0:=h2.out (zK s3 a6);refine{p,Z,{_,aO.of e4},xD (ys++T) (λi σ H'=>(∃o4,σ=[Y (.ref a.jb),Y (.int ae),Y (.ref r),Y (.ref l),o4,L])/\Fr M1 H4 H' O O/\∃A,u7 t H' O (AT t d a n f wo cs ws kv la A en) a.mks a.re g (we lays ae gi) (AD ld) cs CC/\DbOk ld A/\(∀y∈db,y∈A)/\∀c p,.ref c∈(ys++T).take i->H4 c=Y (.tup ((zI p).map kV))->Dd ld (we lays ae gi) ae p A) {{_,Z},Fr.same (aJ.refl _),db,h2.same Z S4,hd,(λ_ z=>z),nofun} (λi σ H' ⟨_,F,_⟩=>aO.of (F.kp _ _ (.inl lp) e4)) ?_ ?_}
 .rintro i u σ H' hu ⟨⟨o4,rfl⟩,F,A,h',ac,su,dd⟩;have #[c,q0,rfl,hc]:=ky u (bA hu);refine{_,Z,a.jb,_,_,Z,h'.at (i:=2) Z,Z,_,Z,_,Z,{d,a,O,n,f,wo,cs,ws,kv,la,A,en,g,_,ld,CC},c,ae,q0,Z,h',ac,bj,F.ts _ _ hc,λH6 b0 F6 h6 bP aP y6=>{{_,Z},F.trans F6,b0,h6,bP,λy I=>aP y (su y I),λc' p' m a9=>?_}};rw[cI,hu] at m;obtain m|m:=bp.mp m
  .exact λr z1 z2 z3=>aP r (dd c' p' m a9 r z1 z2 z3)
  .cases bo.mp m;cases ziu (bU (a9.symm.trans hc));exact y6
 .rintro σ H' ⟨⟨o4,rfl⟩,F,A,h5,ac,su,dd⟩;rw[cU] at dd;have ag:∀e∈ld,e.1 ∉ A->Agr g (we lays ae gi) e.1 e.2.1.no:=λe J nm=>zki az.nd (λy I=>(az.ok y I).1) h0 nt.ng (λy I=>(az.ok y I).2.nd) ho J (ha.ag e J λz=>nm (su _ z)) nm λp z=>let ⟨c,m,hc⟩:=a5 p z;dd c p m hc
  clear dd a5 su;have F5:=F2.trans ((Fr.same S4).trans F);clear F s4 e4 S4 a7 s3 M F2 h2 e2 a8 e1 h1 ln lg er ho ar ky a3 a2 I aj ai lp;have b3:la.length=ld.length:=bG hl;refine{_,Z,yh (h5.at (i:=2) Z) D.cJ D.j2 Z Z {_,Z,a.la,_,Z,.k (k:=.inl ae) (h5.at (i:=6) Z) (by rw[bN];lia),?_}};have h6:=h5.put (i:=6) (o':=.dK (xo la (.inl ae) (.ref r))) Z Z ();have F6:=F5.trans (h5.fput (i:=6) (o':=.dK (xo la (.inl ae) (.ref r))) Z ());generalize upd H' a.la (.dK (xo la (.inl ae) (.ref r)))=H6 at *
  clear h5 F5;have h6:u7 t H6 O (AT t d a n f wo cs ws kv (xo la (.inl ae) (.ref r)) A en) a.mks a.re g (we lays ae gi) (AD ld) cs CC:=h6;have b4:=ac.len;have #[H7,db7,dp,bc,h7,bi,an,_]:=h6.dbt ae ();refine(yh (h6.at (i:=2) Z) D.cJ D.j4 Z Z {_,Z,a.db,H7,Z,dp,?_});have F7:=F6.trans bc;have bz:DbA g (we lays ae gi) (ld++[(ae,s,gi)]) db7:={{bi ac.nd,λy I=>by
   rw[bZ,bp];exact((an y).mp I).imp (ac.su y) λe=>bo.mpr e},λe J nm=>by
   obtain z|z:=bp.mp J
   .exact ag e z λy=>nm ((an _).mpr (.inl y))
   .cases bo.mp z;exact absurd ((an _).mpr (.inr Z)) nm}
  clear h6 F6 bc dp;have #[o,nl,gl,er,_,#[xs,hx,px],lg,z1,z2]:=hp.fr F7 (.inr ());have e1:H7 a.jb=Y (.ins t.q03 a.dj (Ke a.mks a.la a.re a.db)):=h7.at (i:=2) rfl;have rl:=h7.rl;have #[kk,r0]:=h7.rr;refine{_,Z,r,_,1,_,Z,Z,uZ.of er,Z,nl,Z,{_,aO.of hx},xD xs (ptI a r ae l (λb=>O b=11\/H7 b=L) (AD ld) s.no H7) {{_,_,Z},dl.refl,Dm.refl,kk,(r0.keep (F':=λb=>O b=11\/H7 b=L) rl (λb o _ e=>e) λ_ z=>.inl z).eqv λp i=>by simp} (λi σ H' ⟨_,k,_⟩=>aO.of (k _ _ hx (λz=>by rw[z,rl] at z1;cases z1) (.inr λz=>z.elim (λy=>by rw[z1] at y;cases y) λy=>by rw[hx] at y;cases y))) ?_ ?_}
  .rintro i u σ H' hu ⟨⟨o3,o4,rfl⟩,k,dm,a4,aa⟩;have #[y,I,w,p,rfl,ew,ep]:=Paired.getP px hu;have tk:∀b zs,H7 b=Y (.tup zs)->H' b=Y (.tup zs):=λb zs e=>k _ _ e (zQ e r0.at_ ()) (.inl nofun);refine{w,_,Z,uZ.of (tk _ _ ew),Z,_,_,Z,_,_,Z,Z,?_};have np:=zdZ nt.nd I;have bf:∀ {p:Pl},p∈(s.no.take i).map (·.1)->p∈s.no.map (·.1):=λz=>by have #[x,hx,rfl]:=bK.mp z;exact bE (cH hx)
   have rk:∀p j,AD ld p j->j∈ld.map (·.1):=λp j ⟨e,J,ei,_⟩=>bK.mpr {e,J,ei};refine(yh (k _ _ e1 (zQ e1 r0.at_ ()) (.inl nofun)) D.cJ D.j3 Z Z {_,Z,_,Z,a.re,p,ae,_,_,a4,y.1,Z,aa,.inl rl,λb z=>.inr ?_,tk _ _ ep,λz=>z.elim (λz=>nr (rk _ _ z)) λz=>np z.2,?_,λrs hp ha=>?_,λH3 bk k3 d3 r3=>{{_,_,Z},k.trans k3,dm.trans d3,bk,r3.eqv λp j=>?_}})
   .cases e:H7 b with
    |none=>rfl
    |some o=>have #[o',e',_]:=dm b o e;rw[z] at e';cases e'
   .refine zg4 (l:=ld.map (λe=>(e.1,e.2.1.no))++[(ae,s.no)]) aa (λp r z=>?_) (λy I=>?_) (by rw[bh,bn];show _+1<=300;lia)
    .obtain ⟨e,J,ei,ep⟩|z:=z
     .exact{e.2.1.no,cz _ (bK.mpr {e,J,by rw[<-ei]}),ep}
     .exact{s.no,bQ _ (by rw[z.1];exact bo.mpr Z),bf z.2}
    .obtain z|z:=bp.mp I
     .have #[e,J,rfl]:=bK.mp z;exact{(aS e J).nd,bI (aS e J).ln ()}
     .cases bo.mp z;exact{nt.nd,bI nt.ln ()}
   .have:=xE (b:=ld.map (·.1)) (hp.imp λz=>ue z) λx hx=>(ha x hx).elim (rk _ _) λz=>absurd z.2 np;rw[bn] at this;lia
   .rw[zb5 I,and_or_left,or_assoc]
  .rintro σ H' ⟨⟨o3,o4,rfl⟩,k,dm,a4,aa⟩;rw[bG px,cU] at aa;have #[lb',F8,h8]:=h7.regrow Z k dm (aa.eqv (P':=AD (ld++[(ae,s,gi)])) λp i=>{λz=>z.elim (λ⟨e,J,z⟩=>{e,cz _ J,z}) λz=>{_,bQ _ (bo.mpr Z),z.1.symm,z.2},λ⟨e,J,z⟩=>(bp.mp J).imp (λJ=>{e,J,z}) λJ=>by cases bo.mp J;exact{z.1.symm,z.2}});have F9:=F7.trans F8;exact q H' lb' _ db7 F9 h8 ((vp hl F9 (.inr ())).put nr {r,Z,hp.fr F9 (.inr ())}) bz
end
section
variable {k m:Nat}
theorem rks_mem:r∈jo f k m↔∃j:Nat,r=f+j/\k<=j/\j<m:=by
 unfold jo;rw[List.mem_map];constructor
 .rintro⟨i,c,rfl⟩;rw[List.mem_range] at c;exact{k+i,(),(),()}
 .rintro⟨j,rfl,u,q⟩;exact{j-k,by rw[List.mem_range];lia,()}
theorem zhb:(jo f k m).Nodup:=by unfold jo;refine List.Pairwise.map _ (λa b (h:a≠b)=>?_) pV;lia
def uS.rk(h:uS n f g CC S)(m:r∈S.ws++(S.hl.map (·.2.1)++S.ld.map (·.1))):∃j:Nat,r=f+j/\S.en<=j/\j<CC.length:=rks_mem.mp (h.pm.mem_iff.mp m)
def uS.rw_(h:uS n f g CC S)(m:r∈S.ws):∃j:Nat,r=f+j/\S.en<=j/\j<CC.length:=h.rk (cz _ m)
def uS.rh(h:uS n f g CC S){e:Int×Int×Nat×hU}(m:e∈S.hl):∃j:Nat,e.2.1=f+j/\S.en<=j/\j<CC.length:=h.rk (bQ _ (cz _ (bE (f:=λe:Int×Int×Nat×hU=>e.2.1) m)))
def uS.rl(h:uS n f g CC S)(m:r∈S.ld.map (·.1)):∃j:Nat,r=f+j/\S.en<=j/\j<CC.length:=h.rk (bQ _ (bQ _ m))
def uS.nd(h:uS n f g CC S):S.ws.Nodup/\((S.hl.map (·.2.1)).Nodup/\(S.ld.map (·.1)).Nodup/\∀x∈S.hl.map (·.2.1),∀y∈S.ld.map (·.1),x≠y)/\∀x∈S.ws,∀y∈S.hl.map (·.2.1)++S.ld.map (·.1),x≠y:=by have z:=h.pm.nodup_iff.mpr zhb;rw[dh,dh] at z;exact z
theorem uS.len(h:uS n f g CC S):S.ws.length+(S.hl.length+S.ld.length)+S.en=CC.length:=by have z:=h.pm.length_eq;have:=h.el;unfold jo at z;simp only[bh,bn,oV] at z;lia
end
section
variable {m:af}{a:AJ}{ws:ym}{k:Nat}
theorem Wf{x:af}(D:DkF K t)(h:H x=Y (.ins t.q07 dx []))(q:Q .non (upd H x (.ins t.q07 dx [(br "times",.int 0)]))):qU K t (u9 Q) (zZZ 1 [.ref x]) H:={_,Z,x,_,dx,[],Z,h,D.cT,D.t1,(),q}
theorem YQ{x l:af}(D:DkF K t)(h:H l=Y (.lst (ws.map V.int)))(A:ws≠[])(c:H x=Y (.ins t.q07 dx [(br "times",.int k)]))(q:∀w∈ws,Q (.int w) (upd H x (.ins t.q07 dx [(br "times",.int (k+1:Nat))]))):ko K t (u9 Q) (zZZ 3 [.ref x,.ref l]) H:=by have z:0<ws.length:=iV.mpr A;have u:k%ws.length<ws.length:=Nat.mod_lt _ z;refine(yh c D.cT D.t1 Z Z {_,Z,.ref l,ws.length,Z,.inl {_,aO.of h,(bn ..).symm},_,_,Z,Z,by show (0:Int)<(ws.length:Int);lia,?_});refine{_,Z,x,_,dx,_,_,Z,c,D.cT,D.t1,Z,_,_,Z,Z,dx,_,c,(),?_};refine{_,Z,_,Z,l,_,(k%ws.length:Nat),_,Z,congrArg V.int (Int.natCast_emod _ _).symm,aO.of (by rw[zt (zQ h c ())];exact h),xS (by rw[bF,ba u];rfl),q _ (eE u)}
open Classical in
theorem u7.relab{N:Ad}(n:Nat)(hn:13<=n)(h:u7 t H lb Bp m re g lays P cs CC)(s:aJ H H')(w:∀b,N b->H b=L/\∃o,H' b=Y o):∃lb',Fr M H H' lb lb'/\u7 t H' lb' Bp m re g lays P cs CC/\∀b,N b->lb' b=n:=by
 have J:∀b,N b->lb b=0:=λb z=>h.out (w b z).1;have q:∀b,lb b≠0->(if N b then n else lb b)=lb b:=λb z=>ak λy=>z (J b y);have A:(λb=>(if N b then n else lb b)=10)=λb=>lb b=10:=funext λb=>propext (by
  by_cases y:N b
  .rw[ao y,J b y];lia
  .rw[ak y])
 have rl:=h.rl;have #[kk,O]:=h.rr;refine{λb=>if N b then n else lb b,{λb o e=>ak (λy=>by rw[(w b y).1] at e;cases e),λb o _ e=>s _ _ e,λb zs e=>s _ _ e,λb o e=>{o,s _ _ e}},{λi b o e=>?_,by rw[A];exact h.ms.same s,{kk,O.keep rl (λb o _ e=>s _ _ e) λb z=>(q b ()).trans z},(q _ ()).trans rl,Paired.mapP h.cc λv C ⟨⟨c,ys,u,hc,T⟩,I⟩=>{{c,ys,u,s _ _ hc,wB s T},λc u=>(q c (by rw[I c u];decide)).trans (I c u)},λb hb=>?_},λb z=>ao z}
 .have #[h1,h2]:=h.ob i b o e;exact{s _ _ h1,(q b ()).trans h2}
 .by_cases y:N b
  .exact(w b y).2
  .have #[o,e]:=h.ow b (λz=>hb ((ak y).trans z));exact{o,s _ _ e}
theorem u7.addC(h:u7 t H lb Bp m re g lays P cs CC)(s:aJ H H')(A:H c=L)(u:Ar H' (.ref c) C):∃lb',Fr M H H' lb lb'/\u7 t H' lb' Bp m re g lays P (cs++[.ref c]) (CC++[C]):=by
 have #[J,ys,I,w,O]:=id u;cases I;have #[lb',F,q,z]:=h.relab (N:=λb=>b=c) 13 () s λb e=>by rw[e];exact{A,_,w}
 exact{lb',F,q.ob,q.ms,q.rr,q.rl,Paired.snocP q.cc {u,λJ e=>by cases e;exact z c Z},q.ow}
def aZ.fr{N:Nat}(R:aZ t H x ra C s)(l:∀b,OwA x ra b->lb b=N)(F:Fr M H H' lb lb')(c:M N):aZ t H' x ra C s/\∀b,OwA x ra b->lb' b=N:=by
 have k:∀ {b o},OwA x ra b->H b=Y o->H' b=Y o:=λ{b o} z e=>F.kp b o (by rw[l b z];exact c) e;refine{{k (.inl (.inl Z)) R.ix,let ⟨xs,hx,px⟩:=R.hc;{xs,k (.inr Z) hx,vJ F.ts px},k (.inl (.inr (.inl Z))) R.hs,k (.inl (.inr (.inr (.inl Z)))) R.hg,k (.inl (.inr (.inr (.inr (.inl Z))))) R.hn,k (.inl (.inr (.inr (.inr (.inr Z))))) R.ha,R.ng,R.nc},λb z=>?_};cases e:H b with
 |none=>exact absurd e (R.has z)
 |some o=>exact(F.ex b o e).trans (l b z)
def HdAt.fr{e:Int×Nat×hU}(h:HdAt t H lb f CC h0 v e)(F:Fr M H H' lb lb')(q:M (20+h0.toNat)):HdAt t H' lb' f CC h0 v e:=by have #[tp,x,ra,C,u,w,z,R,l]:=h;have #[A,c]:=R.fr l F q;exact{tp,x,ra,C,u,F.ts _ _ w,z,A,c}
def qK(h:Pk (HdAt t H lb f CC) kv hl)(F:Fr M H H' lb lb')(c:∀k:Nat,M (20+k)):Pk (HdAt t H' lb' f CC) kv hl:=Paired.mapP h λ_ _ ⟨e,z⟩=>{e,z.fr F (c _)}
theorem Yw(k:Nat):M1 (20+k):=.inr ()
theorem Au.of(h:Au t H d a lb n f g CC S)(k:∀b o,lb b≠0->H b=Y o->H' b=Y o)(c:AQ H H')(q:∀b o,H b=Y o->∃o',H' b=Y o'):Au t H' d a lb n f g CC S:=by have #[wo,cs,kv,la,db,en,h,A,hl,z,w,u]:=h;have F:Fr (λl=>l≠0) H H' lb lb:={λ_ _ _=>rfl,k,c,q};exact{wo,cs,kv,la,db,en,h.keep Z (λb o z _ e=>k b o z e) c q,qK A F (λk=>by lia),vp hl F (),z,w.fr F (),u}
def Au.same(h:Au t H d a lb n f g CC S)(s:aJ H H'):Au t H' d a lb n f g CC S:=h.of (λb o _ e=>s _ _ e) (AQ.of s) λb o e=>{o,s _ _ e}
def Au.put(h:Au t H d a lb n f g CC S)(hl:H l=Y (.lst xs))(z:lb l=0):Au t (upd H l (.lst ys)) d a lb n f g CC S:=h.of (λb o y e=>by rw[zt (λw=>y (by rw[w];exact z))];exact e) (jK hl nofun) JL
def Au.l0(h:Au t H d a lb n f g CC S)(e:H b=L):lb b=0:=by have #[wo,cs,kv,la,db,en,h,_]:=h;exact h.out e
def Au.cmp(h:Au t H d a lb n f g CC S):H d=Y (.ins t.q00 a.dx (X9 a n f))/\∃cs en,H a.cl=Y (.lst cs)/\H a.en=Y (.lst en)/\cs.length=CC.length/\en.length=S.en:=by have #[wo,cs,kv,la,db,en,h,_,_,_,c,_]:=h;exact{h.at (i:=0) Z,cs,en,h.at (i:=3) Z,h.at (i:=8) Z,bG h.cc,c.le}
end
section
variable {a:AJ}{w:Int}{ws:ym}{k:Nat}{r:af}
def JN{e:Ev}(q:af)(h:H b=Y (.tup (.str (evW e)::.int h0::evX q e)))(p:∀p,evP e=Y p->H q=Y (.tup [.str p.1,.int p.2])):AM H (.ref b) (h0,e):={b,q,Z,h,p}
theorem YR(D:DkF K t)(h:Au t H d a lb n f g CC S)(ok:uS n f g CC S)(fr:h0 ∉ S.hl.map (·.1))(hw:w∈S.ws)(q:∀v H' lb',Fr M0 H H' lb lb'->AM H' v (h0,.take w)->Au t H' d a lb' n f g CC { S with ws:=S.ws.erase w,hl:=S.hl++[(h0,w,0,mt)] }->Q v H') :
  YM K t (u9 Q) [Y (.ref d),Y (.int h0),Y (.int w)] H:=by
 have #[wo,cs,kv,la,db,en,h,hh,hl,hd,le,wy]:=h;have #[k,rfl,_,hk]:=ok.rw_ hw;have l5:=ok.cc.le;have ln:=ok.len;have e1:H d=Y (.ins t.q00 a.dx (X9 a n f)):=h.at (i:=0) rfl;refine(yh e1 D.cD D.d5 Z Z {.inl {Z,_,aO.of (h.at (i:=4) Z)},_,Z,a.wl,_,f+k,Z,Z,h.at (i:=4) Z,hw,?_});have m:=h.put (i:=4) (o':=.lst ((S.ws.erase (f+k)).map V.int)) Z Z ();have F3:=h.fput (i:=4) (o':=.lst ((S.ws.erase (f+k)).map V.int)) Z ();generalize upd H a.wl (.lst ((S.ws.erase (f+k)).map V.int))=H3 at *
 have m:u7 t H3 lb (AT t d a n f wo cs (S.ws.erase (f+k)) kv la db en) a.mks a.re g S.ls (AD S.ld) cs CC:=m;have e3:H3 d=Y (.ins t.q00 a.dx (X9 a n f)):=m.at (i:=0) rfl;obtain⟨v,hv⟩:∃v,cs[k]?=Y v:={_,ba (by rw[bG m.cc];exact hk)};have #[C,hC,#[c,ys,rfl,hc,pc],_]:=Paired.getP m.cc hv;refine{_,Z,yh e3 D.cD D.d4 Z Z {_,Z,yh e3 D.cD D.d3 Z Z {_,_,Z,Z,a.cl,cs,k,_,Z,congrArg V.int (),aO.of (m.at (i:=3) Z),xS hv,?_}}};intro x dx hx I n';have s4:aJ H3 (upd (upd H3 dx (HO.own x)) x (HO.ins t.q01 dx [])):=λb o e=>by rw[zt (zB e hx),zt (zB e I)];exact e
 refine{x,c,dx,ys,C,Z,zo,s4 _ _ hc,wB s4 pc,λH5 ra k5 R5 J=>?_};have #[s5,ow]:=zgZ (aJ.refl H3) hx I k5 J;have #[A,F5,h5,aa]:=m.relab (M:=M1) (N:=OwA x ra) (20+h0.toNat) () s5 λb z=>{ow b z,by
  cases e:H5 b with
  |none=>exact absurd e (R5.has z)
  |some o=>exact{o,Z}}
 refine{Z,(),λtp ht=>?_};generalize c_:upd H5 tp _=H6;have #[s6,e6]:=yI c_ ht;have T:=h5.same Z s6;have F6:=(F3.trans F5).trans (Fr.same s6);have R6:=R5.same s6;clear h5 R5 m F3 F5 s4 k5 J s5;have ac:kv.length=S.hl.length:=bG hh;refine(yh (T.at (i:=0) Z) D.cD D.d6 Z Z {_,Z,a.hd,_,Z,.k (k:=.inl h0) (T.at (i:=5) Z) (by rw[bN];lia),?_});have h7:=T.put (i:=5) (o':=.dK (xo kv (.inl h0) (.ref tp))) Z Z ();have u:=T.fput (i:=5) (o':=.dK (xo kv (.inl h0) (.ref tp))) Z ();generalize upd H6 a.hd (.dK (xo kv (.inl h0) (.ref tp)))=H7 at *
 have h7:u7 t H7 A (AT t d a n f wo cs (S.ws.erase (f+k)) (xo kv (.inl h0) (.ref tp)) la db en) a.mks a.re g S.ls (AD S.ld) cs CC:=h7;have F7:=F6.trans u;have #[R7,l7]:=R6.fr aa u (Yw _);refine{_,Z,_,Z,(),λp hp=>?_};have O:=u5 (o:=HO.tup [V.str "take",V.int h0,V.int (f+k)]) p hp;have F8:=F7.trans (Fr.same O);exact q (.ref p) _ A F8.m0 (JN p zo nofun) {wo,cs,_,la,db,en,h7.same Z O,(qK hh F8 Yw).put fr {tp,x,ra,C,Z,O _ _ (u.ts _ _ e6),by rw[show (f+(k:Int)-f).toNat=k by lia];exact hC,R7.same O,l7},vp hl F8 (.inr ()),hd,le.fr F8 (.inr ()),wy}
end
section
variable {m u:af}{a:AJ}{w:Int}{ws:ym}{k:Nat}{y:Row}{qa:af}
theorem zd0(D:DkF K t)(h:Au t H d a lb n f g CC S)(O:uS n f g CC S)(fr:h0 ∉ S.hl.map (·.1))(hm:(f+(S.en:Int),s,gi)∈S.ld)(ag:Agr g S.ls (f+S.en) s.no)(q:mvP t H d a lb n f h0 g CC S Q) :
  ZU K t { nx:=λσ H'=>R σ H',rt:=Q } [Y (.ref d),Y (.int h0),Y (.int (f+S.en)),Y v] H:=by
 have #[wo,cs,kv,la,db,en,h,hh,hl,hd,le,wy]:=h;have e1:H d=Y (.ins t.q00 a.dx (X9 a n f)):=h.at (i:=0) rfl;have l5:=O.cc.le;have ln:=O.len;refine(yh e1 D.cD D.d9 Z Z {.inl {Z,_,aO.of (h.at (i:=8) Z)},yh e1 D.cD D.d8 Z Z {a.jb,_,_,Z,h.at (i:=2) Z,Z,_,Z,{d,a,lb,n,f,wo,cs,S.ws,kv,la,db,en,g,S.ls,S.ld,CC},f+S.en,s,gi,Z,h,hl,hd,O.nd.2.1.2.1,hm,(O.nt _ hm).nd,λr H3 A I J F3 h3 aa ac T=>?_}});have l0:=le.le;refine{a.en,en,_,Z,Z,h3.at (i:=8) Z,bM (show en.length<=8 by lia) (),?_};have h4:=h3.put (i:=8) (o':=.lst (en++[.ref r])) Z Z ();have ai:=h3.fput (i:=8) (o':=.lst (en++[.ref r])) Z ();generalize upd H3 a.en (.lst (en++[.ref r]))=H4 at *
 have h4:u7 t H4 A (AT t d a n f wo cs S.ws kv I J (en++[.ref r])) a.mks a.re g S.ls (AD (yH S.ld (f+S.en))) cs CC:=h4;refine{_,Z,_,Z,(),λp hp=>?_};have s5:=u5 (o:=HO.tup [V.str "settle",V.int h0,V.int (f+S.en)]) p hp;have c:=ai.trans (Fr.same s5);have F5:=F3.trans c;exact q _ _ A _ _ F5.m0 (JN (e:=.settle (f+S.en)) p zo nofun) (.settle hm ag fr) {wo,cs,kv,I,J,en++[.ref r],h4.same Z s5,qK hh F5 Yw,vp aa c (.inr ()),ac,{by rw[bh,l0];rfl,Paired.snocP (le.fr F5 (.inr ())).ps {r,Z,T.fr c (.inr ())}},wy}
def zkj(k:Nat):(ws.take k++r::ws.drop k).Perm (r::ws):=by refine List.perm_middle.trans ?_;rw[cB]
theorem zkk(q:ws.Pairwise (· < ·))(A:r ∉ ws)(J:∀x∈ws.take k,x<r)(I:∀x∈ws.drop k,r<=x):(ws.take k++r::ws.drop k).Pairwise (· < ·):=by
 have z:=q;rw[<-cB k ws,bW] at z;refine bW.mpr {z.1,List.pairwise_cons.mpr {λx c=>?_,z.2.1},λx c y hy=>?_}
 .have:=I x c;have:r≠x:=λe=>A (by rw[e];exact cF c);lia
 .obtain rfl|hy:=bC.mp hy
  .exact J x c
  .exact z.2.2 x c y hy
theorem zd1(D:DkF K t)(h:Au t H d a lb n f g CC S)(c:uS n f g CC S)(fr:h0 ∉ S.hl.map (·.1))(hm:(r,s,gi)∈S.ld)(hy:y∈s.no)(hn:yg g S.ls y.1 r≠y.2)(hu:H u=Y (.tup [.int r,.ref qa,.int y.2,.int (yg g S.ls y.1 r)]))(hq:H qa=Y (.tup [.str y.1.1,.int y.1.2]))(q:mvP t H d a lb n f h0 g CC S Q){o2:Option V} :
  ZS K t { nx:=λσ H'=>R σ H',rt:=Q } [Y (.ref d),Y (.int h0),o2,Y (.ref u)] H:=by
 have #[wo,cs,kv,la,db,en,h,hh,hl,hd,le,wy]:=h;have l5:=c.cc.le;have ln:=c.len;have nr:r ∉ S.ws:=λz=>c.nd.2.2 r z r (bQ _ (bE (f:=λe:Int×hU×zD=>e.1) hm)) rfl;refine(yh (h.at (i:=0) Z) D.cD D.d8 Z Z {a.jb,_,_,Z,h.at (i:=2) Z,Z,_,Z,u,_,0,_,Z,Z,uZ.of hu,Z,{d,a,lb,n,f,wo,cs,S.ws,kv,la,db,en,g,S.ls,S.ld,CC},r,s,gi,Z,h,hl,hd,c.nd.2.1.2.1,hm,(c.nt _ hm).nd,λr' H3 A I J F3 O ai aj _=>?_});have O:u7 t H3 A (AT t d a n f wo cs S.ws kv I J en) a.mks a.re g S.ls (AD (yH S.ld r)) cs CC:=O;have e3:H3 d=Y (.ins t.q00 a.dx (X9 a n f)):=O.at (i:=0) rfl;have hu3:=F3.ts _ _ hu;refine(yh e3 D.cD D.d5 Z Z {.inl {Z,_,aO.of (O.at (i:=4) Z)},yh e3 D.cD D.d5 Z Z {_,Z,u,_,0,_,Z,Z,uZ.of hu3,Z,a.wl,S.ws,r,Z,O.at (i:=4) Z,c.so,λk H4 s4 hk k1 k2=>?_}});have h4:=O.same Z s4;have ac:=s4 _ _ hu3;refine{_,Z,u,_,0,_,Z,Z,uZ.of ac,Z,a.wl,_,k,_,Z,Z,h4.at (i:=4) Z,by rw[bn];exact hk,by rw[bn];lia,?_};have em:(S.ws.map V.int).take k++V.int r::(S.ws.map V.int).drop k=(S.ws.take k++r::S.ws.drop k).map V.int:=by rw[bZ,bB,lH,lI]
 rw[em];have h5:=h4.put (i:=4) (o':=.lst ((S.ws.take k++r::S.ws.drop k).map V.int)) Z Z ();have aa:=(Fr.same s4).trans (h4.fput (i:=4) (o':=.lst ((S.ws.take k++r::S.ws.drop k).map V.int)) Z ());generalize upd H4 a.wl (.lst ((S.ws.take k++r::S.ws.drop k).map V.int))=H5 at *
 have h5:u7 t H5 A (AT t d a n f wo cs (S.ws.take k++r::S.ws.drop k) kv I J en) a.mks a.re g S.ls (AD (yH S.ld r)) cs CC:=h5;refine{_,Z,(),λp1 ag=>?_};generalize c_:upd H5 p1 _=H6;have #[s6,e6]:=yI c_ ag;refine{_,Z,p1,u,_,_,Z,Z,uZ.of e6,uZ.of (s6 _ _ (aa.ts _ _ hu3)),(),(),(),λ_ p hp=>?_};have s7:=u5 (o:=HO.tup [V.str "again",V.int h0,V.int r,V.ref qa,V.int y.2,V.int (yg g S.ls y.1 r)]) p hp;have T:=aa.trans (Fr.same (s6.trans s7));have F7:=F3.trans T;exact q _ _ A _ _ F7.m0 (JN (e:=.again r y.1 y.2 _) qa zo λp e=>by cases e;exact F7.ts _ _ hq) (.again hm hy hn (zkj k) (zkk c.so nr k1 k2) fr) {wo,cs,kv,I,J,en,h5.same Z (s6.trans s7),qK hh F7 Yw,vp ai T (.inr ()),aj,le.fr F7 (.inr ()),wy}
theorem ziv(D:DkF K t)(h:Au t H d a lb n f g CC S)(ok:uS n f g CC S)(I:h0 ∉ S.hl.map (·.1))(hm:f+(S.en:Int) ∉ S.ld.map (·.1))(q:mvP t H d a lb n f h0 g CC S Q){o2 o3:Option V} :
  ZV K t (u9 Q) [Y (.ref d),Y (.int h0),o2,o3] H:=by
 have G:=h;have #[wo,cs,kv,la,db,en,h,_]:=h;refine(yh (h.at (i:=0) Z) D.cD D.d5 Z Z {by show 0<=Bb;exact cf _,λz hz=>?_});have c:=u5 (o:=HO.lst []) z hz;have O:=h.same Z c;have T:=G.same c;refine{a.wl,z,_,Z,Z,aO.of (O.at (i:=4) Z),aO.of zo,_,Z,?_};generalize upd H z (.lst [])=H3 at *
 cases ew:S.ws with
 |nil=>
  refine yj Z {_,Z,(),λp hp=>?_};have J:=u5 (o:=HO.tup [V.str "rest",V.int h0]) p hp;exact q _ _ lb _ _ (Fr.same (c.trans J)) (JN (e:=.rest) p zo nofun) (.rest ew hm I) (T.same J)
 |cons x xs=>exact yE Z (x8 (O.at (i:=0) Z) Z Z {_,Z,d,a,lb,n,f,h0,g,CC,S,Z,T,ok,I,(by rw[ew];exact nofun),λv H4 A r F4 hr ev G4=>q v H4 A _ _ ((Fr.same c).trans F4) ev (.take hr I) G4})
end
section
variable {m:af}{a:AJ}{ra:RAd}{k:Nat}
def Kp.ts(R:aZ t H x ra C s)(k:Kp x ra H H'):AQ H H':=λb c e=>k b _ (λy=>by
 obtain y|y|y|y|y:=y
 .rw[y,R.ix] at e;cases e
 .rw[y,R.hs] at e;cases e
 .rw[y,R.hg] at e;cases e
 .rw[y,R.hn] at e;cases e
 .rw[y,R.ha] at e;cases e) e
def ziw{N:Nat}(R:aZ t H x ra C s)(c:aZ t H' x ra C s')(l:∀b,OwA x ra b->lb b=N)(k:Kp x ra H H'):Fr (λl=>l≠N) H H' lb lb:={λ_ _ _=>rfl,λb o z e=>k b o (λy=>z (l b (.inl y))) e,Kp.ts R k,λb o e=>by
 by_cases y:OwA x ra b
 .cases e:H' b with
  |none=>exact absurd e (c.has y)
  |some o=>exact{o,Z}
 .exact{o,k b o (λz=>y (.inl z)) e}}
theorem u7.step{N:Nat}(w:20<=N)(h:u7 t H lb Bp m re g lays P cs CC)(q:Bp.length=9)(R:aZ t H x ra C s)(u:aZ t H' x ra C s')(l:∀b,OwA x ra b->lb b=N)(k:Kp x ra H H'):Fr (λl=>l≠N) H H' lb lb/\u7 t H' lb Bp m re g lays P cs CC:=
 have F:=ziw R u l k
 {F,h.keep q (λb o _ z e=>F.kp b o (show lb b≠N by lia) e) F.ts F.al}
structure MvI(t:uQ)(H:Hp)(d:af)(a:AJ)(lb:AN_)(n f h0:Int)(g:zD)(CC:vy)(S:DS)(wo:HO)(cs:LV)(kv la:xB)(db:ym)(en:LV)(r:Int)(j:Nat)(s:hU)(tp x:af)(ra:RAd)(C:Aw):Prop where
 o:u7 t H lb (AT t d a n f wo cs S.ws kv la db en) a.mks a.re g S.ls (AD S.ld) cs CC
 hh:Pk (HdAt t H lb f CC) kv S.hl
 hl:Pk (Wa H lb) la S.ld
 hd:DbA g S.ls S.ld db
 le:EnI H lb en S.en S.es
 wy:zh8 t a wo
 hm:(h0,r,j,s)∈S.hl
 hv:yt kv (.inl h0)=Y (.ref tp)
 ht:H tp=Y (.tup [.int r,.ref x])
 ec:CC[(r-f).toNat]?=Y C
 rn:aZ t H x ra C s
 l20:∀b,OwA x ra b->lb b=20+h0.toNat
theorem MvI.same(h:MvI t H d a lb n f h0 g CC S wo cs kv la db en r j s tp x ra C)(k:aJ H H'):MvI t H' d a lb n f h0 g CC S wo cs kv la db en r j s tp x ra C:=
 {h.o.same Z k,qK h.hh (Fr.same (M:=M1) k) Yw,vp h.hl (Fr.same (M:=M1) k) (.inr ()),h.hd,h.le.fr (Fr.same (M:=M1) k) (.inr ()),h.wy,h.hm,h.hv,k _ _ h.ht,h.ec,h.rn.same k,h.l20}
theorem MvI.step(h:MvI t H d a lb n f h0 g CC S wo cs kv la db en r j s tp x ra C)(q:uS n f g CC S)(u:aZ t H' x ra C s')(k:Kp x ra H H'):Fr M0 H H' lb lb/\Au t H' d a lb n f g CC { S with hl:=X7 S.hl h0 (r,j+1,s') }:=by
 have #[F,w]:=h.o.step (N:=20+h0.toNat) () Z h.rn u h.l20 k;have c:=(q.hr _ h.hm).1;have c:0<=h0:=c;refine{F.mono λl z=>by unfold M0 at z;lia,wo,cs,kv,la,db,en,w,h.hh.set q.hn (λk v A m z y=>y.fr F ?_) (λv z=>?_),vp h.hl F (),h.hd,h.le.fr F (),h.wy}
 .have:=(q.hr _ m).1;have:0<=k:=this;lia
 .rw[h.hv] at z;cases z;exact{tp,x,ra,C,Z,F.ts _ _ h.ht,h.ec,u,h.l20}
theorem zeY(D:DkF K t)(h:MvI t H d a lb n f h0 g CC S wo cs kv la db en r j s tp x ra C)(c:uS n f g CC S)(ho:yy C s=U)(q:mvP t H d a lb n f h0 g CC S Q) :
  Jz K t { nx:=λσ H'=>R σ H',rt:=Q } [Y (.ref d),Y (.int h0),Y (.int r),Y (.ref x),o4,o5] H:=by
 have eh:=h.o.at (i:=5) rfl;have l5:=c.cc.le;have ln:=c.len;have #[C',an,I,A]:=c.rn _ h.hm;obtain rfl:C'=C:=bU (an.symm.trans h.ec);have #[k,rk,_,kl]:=c.rh h.hm;have rk:r=f+k:=rk;have f0:=c.f0;refine(yh (h.o.at (i:=0) Z) D.cD D.d6 Z Z {a.hd,Z,.inl {_,.inl eh},_,Z,_,.inl h0,_,eh,Z,h.hv,?_});have J:=h.o.put (i:=5) (o':=.dK (yO kv (.inl h0))) Z Z ();have F3:=h.o.fput (i:=5) (o':=.dK (yO kv (.inl h0))) Z ();generalize upd H a.hd (.dK (yO kv (.inl h0)))=H3 at *
 have J:u7 t H3 lb (AT t d a n f wo cs S.ws (yO kv (.inl h0)) la db en) a.mks a.re g S.ls (AD S.ld) cs CC:=J;have #[R3,_]:=h.rn.fr h.l20 F3 (Yw _);have l2:s.gi.length<=j:=I.ok.l2;have l3:s.no.length<=j:=I.ok.l3;have A:j<=48:=A;refine(yh (J.at (i:=0) Z) D.cD D.d8 Z Z {a.jb,_,_,Z,J.at (i:=2) Z,Z,_,Z,x8 R3.ix Z Z {x,ra,C',s,Z,R3,(),I.ok.nd,(),(λH' z=>by rw[ho] at z;cases z),λr' o nl gl out H4 _ s4 ag aj _ hr oc hn hg gi=>?_}});have #[u,F4,h4,w]:=J.relab (M:=M1) (N:=λb=>b=nl\/b=gl) 14 () s4 λb z=>by
  have #[xs,hx,_]:=id hn;have #[ys,hy,_]:=id hg;obtain rfl|rfl:=z
  .exact{ag,_,hx}
  .exact{aj,_,hy}
 have hP:Az H4 u r' s out:={o,nl,gl,hr,oc,hn,hg,w _ (.inl Z),w _ (.inr Z)};have lo:out.length<=s.gi.length:=JC gi;have nt:zcW s.no out:={I.ok.nd,zi6 gi,(),()};have ll:S.ls.length<=8:=by
  have:=xE (b:=jo f 0 CC.length) h.o.ms.nd λx hx=>by have #[y,hy,rfl]:=bK.mp hx;have:=c.ly y hy;exact rks_mem.mpr {(y.1-f).toNat,(),(),()}
  unfold jo at this;rw[bn,bn,oV] at this;lia
 have nr:r ∉ S.ld.map (·.1):=λz=>c.nd.2.1.2.2 r (bE (f:=λe:Int×Int×Nat×hU=>e.2.1) h.hm) r z rfl;have O:=F3.trans F4;refine{{d,a,u,n,f,wo,cs,S.ws,_,la,db,en,g,S.ls,S.ld,CC},r',r,s,out,Z,h4,vp h.hl O (.inr ()),h.hd,c.nt,show S.ld.length<=10 by lia,nr,show 0<=r by lia,show S.ls.length<=10 by lia,hP,nt,λH5 aa ac ar F5 h5 ai al=>?_};refine{_,Z,_,Z,(),λp hp=>?_};have T:=u5 (o:=HO.tup [V.str "lay",V.int h0,V.int r]) p hp;have F6:=O.trans (F5.trans (Fr.same T));exact q _ _ aa _ _ F6.m0 (JN (e:=.lay r) p zo nofun) (.lay h.hm h.ec ho gi) {wo,cs,_,ac,ar,en,h5.same Z T,(qK h.hh F6 Yw).drop,vp ai (Fr.same (M:=M1) T) (.inr ()),al,h.le.fr F6 (.inr ()),h.wy}
theorem zeZ(D:DkF K t)(h:MvI t H d a lb n f h0 g CC S wo cs kv la db en r j s tp x ra C)(w:uS n f g CC S)(ho:yy C s=am)(q:mvP t H d a lb n f h0 g CC S Q) :
  JA K t (u9 Q) [Y (.ref d),Y (.int h0),Y (.int r),Y (.ref x),L,L] H:=by
 have #[T,aa,I,J]:=w.rn _ h.hm;obtain rfl:T=C:=bU (aa.symm.trans h.ec);have #[O,lC]:=w.cc.ok T (bA h.ec);have #[k,rk,_,kl]:=w.rh h.hm;have rk:r=f+k:=rk;have f0:=w.f0;have J:j<=48:=J;refine(x8 h.rn.ix Z Z {x,ra,T,s,Z,h.rn,O.ok,I.ok.so,λH3 ha A=>?_,λp q1 H3 ha A hq=>?_})
 .have c:=h.same A;refine{_,Z,Z,_,Z,yE Z (x8 c.rn.ix Z Z {x,0,j,ra,T,s,Z,c.rn,O.ok,I.ok,(),λH4 k4 R4=>?_})};have #[F4,G4]:=c.step w R4 k4;refine{_,Z,_,Z,(),λp hp=>?_};have u:=u5 (o:=HO.tup [V.str "step",V.int h0,V.int r]) p hp;exact q _ _ lb _ _ ((Fr.same A).trans (F4.trans (Fr.same u))) (JN (e:=.step r) p zo nofun) (.step h.hm h.ec ho ha) (G4.same u)
 .have c:=h.same A;have #[_,_,im,_,sn,_]:=c.o.ms.ins;refine{_,Z,Z,_,Z,yj Z (yh (c.o.at (i:=0) Z) D.cD D.d7 Z Z {a.mks,_,_,Z,im,sn,_,Z,_,Z,a.mks,q1,r,_,g,S.ls,p,Z,c.o.ms,(),hq,λH4 s4=>?_})};have h4:=c.same s4;refine(x8 h4.rn.ix Z Z {_,Z,x,yg g S.ls p r,j,ra,T,s,Z,h4.rn,O.ok,I.ok,(),λH5 k5 R5=>?_});have #[F5,G5]:=h4.step w R5 k5;refine{_,Z,_,Z,_,Z,_,Z,(),λp' hp=>?_};have u:=u5 (o:=HO.tup [V.str "read",V.int h0,V.int r,V.ref q1,V.int (yg g S.ls p r)]) p' hp;exact q _ _ lb _ _ ((Fr.same (A.trans s4)).trans (F5.trans (Fr.same u))) (JN (e:=.read r p _) q1 zo λp e=>by cases e;exact u _ _ (F5.ts _ _ (s4 _ _ hq))) (.read h.hm h.ec ho ha) (G5.same u)
end
structure PO(H0:Hp)(x w:af)(ox:HO)(H:Hp)(lb:AN_)(F:Ad)(E:List (Nat×af×HO)):Prop where
 hx:H x=Y ox
 lx:lb x=1
 ob:∀e∈E,1<e.1/\H e.2.1=Y e.2.2/\lb e.2.1=e.1
 ow:∀b,lb b≠0->∃o,H b=Y o
 kp:Qn x H0 H
 fr:∀b,lb b≠0->b=x\/b=w\/H0 b=L
 f10:∀b,lb b=10↔F b
section
variable {w c:af}{ox:HO}{E:List (Nat×af×HO)}{n:Nat}{N:Ad}
theorem PO.put(h:PO H0 x w ox H lb F E)(o:HO):PO H0 x w o (upd H x o) lb F E:=by
 refine{zo,h.lx,λe m=>?_,λb z=>?_,λb u z e=>by rw[zt z];exact h.kp b u z e,h.fr,h.f10}
 .have #[A,q,k]:=h.ob e m;exact{A,by rw[zt (λy=>by rw[y,h.lx] at k;lia)];exact q,k}
 .have #[u,e]:=h.ow b z;exact JL b u e
def PO.same(h:PO H0 x w ox H lb F E)(s:aJ H H'):PO H0 x w ox H' lb F E:={s _ _ h.hx,h.lx,λe k=>let ⟨h1,h2,h3⟩:=h.ob e k;{h1,s _ _ h2,h3},λb z=>let ⟨o,e⟩:=h.ow b z;{o,s _ _ e},λb o z e=>s _ _ (h.kp b o z e),h.fr,h.f10}
def PO.l0(h:PO H0 x w ox H lb F E)(k:H c=L):lb c=0/\H0 c=L:=by
 have m:c≠x:=λz=>by rw[z,h.hx] at k;cases k
 refine{gu (λz=>by have #[o,e]:=h.ow c z;rw[k] at e;cases e),?_};cases e:H0 c with
 |none=>rfl
 |some u=>have:=h.kp c u m e;rw[k] at this;cases this
open Classical in
theorem PO.lab{F':Ad}(h:PO H0 x w ox H lb F E)(n:Nat)(q:∀b,(N b/\n=10\/F b)↔F' b)(k:∀b,N b->lb b=0/\H0 b=L/\∃o,H b=Y o):∃lb',PO H0 x w ox H lb' F' E/\(∀b,N b->lb' b=n)/\∀b,¬ N b->lb' b=lb b:=by
 have e0:∀b,lb b≠0->¬ N b:=λb z y=>z (k b y).1;refine{λb=>if N b then n else lb b,{h.hx,(ak (e0 x (by rw[h.lx];decide))).trans h.lx,λe m=>?_,λb z=>?_,h.kp,λb z=>?_,λb=>?_},λb z=>ao z,λb z=>ak z}
 .have #[I,A,u]:=h.ob e m;by_cases y:N e.2.1
  .have:=(k _ y).1;lia
  .exact{I,A,(ak y).trans u}
 .by_cases y:N b
  .exact(k b y).2.2
  .exact h.ow b (λw=>z ((ak y).trans w))
 .by_cases y:N b
  .exact .inr (.inr (k b y).2.1)
  .exact h.fr b (λw=>z ((ak y).trans w))
 .rw[<-q,<-h.f10];by_cases y:N b
  .rw[ao y,(k b y).1];simp[y]
  .rw[ak y];simp[y]
def PO.new(h:PO H0 x w ox H lb F E)(n:Nat)(u:1<n)(q:n≠10)(m:H c=L):∃lb',PO H0 x w ox (upd H c o) lb' F ((n,c,o)::E):=by
 have #[l0,A]:=h.l0 m;have #[lb',k,I,J]:=(h.same (u5 c m (o:=o))).lab (N:=λb=>b=c) n (λb=>{λz=>z.resolve_left λy=>q y.2,.inr}) λb z=>by rw[z];exact{l0,A,_,zo}
 exact{lb',k.hx,k.lx,λe he=>by
  obtain rfl|he:=bC.mp he
  .exact{u,zo,I c Z}
  .exact k.ob e he,k.ow,k.kp,k.fr,k.f10}
theorem PO.init(h:H0 x=Y o)(k:∃u,H0 w=Y u):∃lb,PO H0 x w o H0 lb (λ_=>False) []/\(w≠x->lb w=2)/\∀b,b≠x->b≠w->lb b=0:=by
 refine{λb=>if b=x then 1 else if b=w then 2 else 0,{h,ao Z,(λe m=>nomatch m),λb z=>?_,λb u _ e=>e,λb z=>?_,λb=>?_},λz=>(ak z).trans (ao Z),λb z y=>(ak z).trans (ak y)}
 .by_cases y:b=x
  .rw[y];exact{_,h}
  .by_cases v:b=w
   .rw[v];exact k
   .rw[ak y,ak v] at z;exact absurd Z z
 .by_cases y:b=x
  .exact .inl y
  .by_cases v:b=w
   .exact .inr (.inl v)
   .rw[ak y,ak v] at z;exact absurd Z z
 .by_cases y:b=x
  .rw[ao y];simp
  .by_cases v:b=w
   .rw[ak y,ao v];simp
   .rw[ak y,ak v];simp
section
variable {C:af}{fs:LSV}{fl:Str}{k:Nat}
def PO.st(P:PO H0 x w (.ins C dx fs) H lb F E)(h0:σ[0]?=Y (Y (.ref x)))(c:AB K C)(n:aM K C fl)(hl:fs.length<1000)(q:∀H',PO H0 x w (.ins C dx (kz fl y fs)) H' lb F E->D.nx σ H'):zk 0 σ H (zaL K fl (D.nx σ) y):={_,h0,x,C,dx,fs,Z,P.hx,c,n,hl,q _ (P.put _)}
def PO.stM(M:Al t H m F g [])(P:PO H0 x w (.ins C dx fs) H lb F E)(h0:σ[0]?=Y (Y (.ref x)))(c:AB K C)(n:aM K C fl)(hl:fs.length<1000)(q:∀H',PO H0 x w (.ins C dx (kz fl y fs)) H' lb F E->Al t H' m F g []->D.nx σ H'):zk 0 σ H (zaL K fl (D.nx σ) y):={_,h0,x,C,dx,fs,Z,P.hx,c,n,hl,q _ (P.put _) (M.keep (λb o u e=>by rw[zt (λz=>by have:=(P.f10 b).mpr u;rw[z,P.lx] at this;cases this)];exact e) (jK P.hx nofun))}
def PO.sv(P:PO H0 x w (.ins C dx fs) H lb F E)(h0:σ[0]?=Y (Y (.ref x)))(m:σ[k]?=Y (Y y))(c:AB K C)(n:aM K C fl)(hl:fs.length<1000)(q:∀H',PO H0 x w (.ins C dx (kz fl y fs)) H' lb F E->D.nx σ H'):vc K (zk 0) (zk k) fl D σ H:={_,m,P.st h0 c n hl q}
def PO.so(o:HO)(m:Nat)(z:1<m)(u:m≠10)(P:PO H0 x w (.ins C dx fs) H lb F E)(h0:σ[0]?=Y (Y (.ref x)))(c:AB K C)(n:aM K C fl)(hl:fs.length<1000)(q:∀c H' lb',PO H0 x w (.ins C dx (kz fl (.ref c) fs)) H' lb' F ((m,c,o)::E)->D.nx σ H')(p:af)(A:H p=L):zk 0 σ (upd H p o) (zaL K fl (D.nx σ) (.ref p)):=by have #[lb',I]:=P.new (o:=o) m z u A;exact I.st h0 c n hl λH'=>q p H' lb'
end
theorem Ku{l dx:af}{xs:LV}{C:Aw}(F:RnF K t)(O:H x=Y (.ins t.q01 dx []))(h2:H l=Y (.lst xs))(h3:Bl (Ac H) xs C)(q:∀H' a,Qn x H H'->aZ t H' x a C mt->(∀b,OwA x a b->b=x\/H b=L)->Q .non H') :
  ZQ K t (u9 Q) (zZZ 2 [.ref x,.ref l]) H:=by
 have #[lb,P,_]:=PO.init O {_,O};unfold ZQ zL;refine{_,Z,l,xs,Z,.inl (aO.of h2),P.so (.lst xs) 2 () () Z F.cl F.n1 () λT H1 ai P=>P.st Z F.cl F.n2 () λH2 P=>P.st Z F.cl F.n3 () λH3 P=>P.so (.dK []) 3 () () Z F.cl F.n4 () λsl H4 ag P=>P.so (.dT []) 4 () () Z F.cl F.n5 () λgi H5 ac P=>P.so (.dT []) 5 () () Z F.cl F.n6 () λno H6 aa P=>{(),P.so (.lst []) 6 () () Z F.cl F.n7 () λJ H7 u P=>?_}};have k:∀n c o,(n,c,o)∈_->H7 c=Y o/\u c=n:=λn c o z=>(P.ob (n,c,o) z).2;have I:=k 2 T _ (.tail _ (.tail _ (.tail _ (.tail _ (.head _)))));have o3:=k 3 sl _ (.tail _ (.tail _ (.tail _ (.head _))));have A:=k 4 gi _ (.tail _ (.tail _ (.head _)));have o5:=k 5 no _ (.tail _ (.head _));have o6:=k 6 J _ (.head _);have m:∀ {n:Nat}{b:af},u b=n+2->b=x\/H b=L:=λ{n b} z=>(P.fr b ()).imp id λy=>y.elim (λy=>by rw[y,P.lx] at z;lia) id;refine q H7 {dx,T,sl,gi,no,J} P.kp {P.hx,{xs,I.1,vJ (λb zs e=>P.kp _ _ (zQ e O ()) e) h3},o3.1,A.1,o5.1,o6.1,λz=>by rw[show gi=no from z,o5.2] at A;exact absurd A.2 (),λz=>by rw[show T=J from z,o6.2] at I;exact absurd I.2 ()} λb z=>?_;obtain (z|z|z|z|z)|z:=z
 .exact .inl z
 .rw[z];exact m o3.2
 .rw[z];exact m A.2
 .rw[z];exact m o5.2
 .rw[z];exact m o6.2
 .rw[z];exact m I.2
theorem Kv{vs:LV}{_E:XK}(D:DkF K t)(h:qF t vs H Q _E) :
  qH K t (u9 Q) (zZZ 2 vs) H:=by
 have #[x,m,dx,rfl,I,q]:=h;have #[lb,P,_]:=PO.init I {_,I};unfold qH zL;refine P.sv Z Z D.cJ D.j1 () λH1 P=>P.so (.dK []) 7 () () Z D.cJ D.j2 () λla H2 aa P=>P.so (.dT []) 11 () () Z D.cJ D.j3 () λre H3 T P=>P.so (.dK []) 8 () () Z D.cJ D.j4 () λdb H7 u k=>?_;have J:∀n c o,(n,c,o)∈[(8,db,HO.dK []),(11,re,.dT []),(7,la,.dK [])]->H7 c=Y o/\H c=L/\u c=n:=λn c o z=>by
  have #[I,h2,A]:=k.ob _ z;have I:1<n:=I;have A:u c=n:=A;obtain y|y|y:=k.fr c ()
  .rw[y,k.lx] at A;lia
  .rw[y,k.lx] at A;lia
  .exact{h2,y,A}
 have #[a1,a2,O]:=J 7 la _ (.tail _ (.tail _ (.head _)));have #[b1,b2,b3]:=J 11 re _ (.tail _ (.head _));have #[c1,c2,c3]:=J 8 db _ (.head _);exact q _ la re db k.kp k.hx a1 b1 c1 a2 b2 c2 (λz=>by rw[z,c3] at O;cases O)
theorem Kw{vs:LV}{_E:XK}(D:DkF K t)(h:wA t vs H Q _E) :
  qI K t (u9 Q) (zZZ 5 vs) H:=by
 have #[x,l,w,dx,dw,n,f,wo,g,rfl,h1,h2,h3,h4,nw,q]:=h;have #[lb,P,lw,_]:=PO.init (w:=w) h1 {_,h4};have P:PO H x w _ H lb (λ_=>False) [(2,w,wo)]:={P.hx,P.lx,λe he=>by cases bo.mp he;exact{(),h4,lw nw},P.ow,P.kp,P.fr,P.f10};have #[xs,hx,px]:=h2;have a5:l≠x:=zQ hx h1 ();unfold qI zL;refine P.sv Z Z D.cD D.d1 () λH1 P=>P.sv Z Z D.cD D.d2 () λH2 P=>P.sv Z Z D.cD D.d3 () λH3 P=>{(),P.so (.lst []) 4 () () Z D.cD D.d4 () λcl H4 A P=>{(),P.so (.lst []) 5 () () Z D.cD D.d5 () λwl H5 J P=>P.so (.dK []) 6 () () Z D.cD D.d6 () λhd H9 bi P=>?_}};refine{_,Z,?_};intro m dm hm an nm;have sm:aJ H9 (upd (upd H9 dm (HO.own m)) m (HO.ins t.q02 dm [])):=λb o e=>by rw[zt (zB e hm),zt (zB e an)];exact e
 have al:gV H9 l g:={xs,P.kp _ _ a5 hx,Paired.mapP px λ_ _ ⟨r,p,e,e1,e2⟩=>{r,p,e,P.kp _ _ (zQ e1 h1 ()) e1,P.kp _ _ (zQ e2 h1 ()) e2}};refine{m,l,dm,g,Z,zo,al.same sm,h3,λH10 F aj aP az=>{Z,?_}};have ag:aJ H9 H10:=λb o e=>aj b o (zB e hm) (sm _ _ e);have fF:∀b,F b->H9 b=L:=λb z=>by
  obtain y|y:=az b z
  .rw[y];exact hm
  .cases e:H9 b with
   |none=>rfl
   |some o=>have:=sm b o e;rw[y] at this;cases this
 have #[bf,P',bx,_]:=(P.same ag).lab (N:=F) (F':=F) 10 (λb=>{λz=>z.elim (λy=>y.1) dQ,λz=>.inl {z,Z}}) λb z=>{(P.l0 (fF b z)).1,(P.l0 (fF b z)).2,aP.own b z};replace P:=P';clear P' aj az ag sm hm an nm al fF;refine P.stM aP Z D.cD D.d7 () λk P bc=>?_;refine{_,Z,x,_,_,_,_,Z,P.hx,D.cD,D.d7,Z,?_};intro jb dj hj ar nj;have sj:aJ k (upd (upd k dj (HO.own jb)) jb (HO.ins t.q03 dj [])):=λb o e=>by rw[zt (zB e hj),zt (zB e ar)];exact e
 refine{jb,m,dj,Z,zo,λH12 la re db ai ac O u T nl nr nd ld=>{Z,?_}};have aa:aJ k H12:=λb o e=>ai b o (zB e hj) (sj _ _ e);have fr:∀b,upd (upd k dj (HO.own jb)) jb (HO.ins t.q03 dj []) b=L->k b=L:=λb z=>by
  cases e:k b with
  |none=>rfl
  |some o=>have:=sj b o e;rw[z] at this;cases this
 have e0:∀b,k b=L->_:=λb z=>P.l0 z;have a9:=bc.same aa;have Q0:=P.same aa;have #[bl,Q1,a1,b1]:=Q0.lab (N:=λb=>b=jb) (F':=F) 3 (λb=>{λz=>z.resolve_left (λy=>nomatch y.2),.inr}) λb z=>by rw[z];exact{(e0 _ hj).1,(e0 _ hj).2,_,ac}
 have n1:la≠jb:=λz=>by rw[z,zo] at nl;cases nl
 have n2:re≠jb:=λz=>by rw[z,zo] at nr;cases nr
 have n3:db≠jb:=λz=>by rw[z,zo] at nd;cases nd
 have n4:re≠la:=zQ u O ();have n5:db≠re:=zQ T u ();have #[bk,Q2,a2,b2]:=Q1.lab (N:=λb=>b=la) (F':=F) 7 (λb=>{λz=>z.resolve_left (λy=>nomatch y.2),.inr}) λb z=>by rw[z,b1 _ n1];exact{(e0 _ (fr _ nl)).1,(e0 _ (fr _ nl)).2,_,O}
 have #[bj,Q3,a3,b3]:=Q2.lab (N:=λb=>b=re) (F':=F) 11 (λb=>{λz=>z.resolve_left (λy=>nomatch y.2),.inr}) λb z=>by rw[z,b2 _ n4,b1 _ n2];exact{(e0 _ (fr _ nr)).1,(e0 _ (fr _ nr)).2,_,u}
 have #[A,Q4,a4,b4]:=Q3.lab (N:=λb=>b=db) (F':=F) 8 (λb=>{λz=>z.resolve_left (λy=>nomatch y.2),.inr}) λb z=>by rw[z,b3 _ n5,b2 _ ld.symm,b1 _ n3];exact{(e0 _ (fr _ nd)).1,(e0 _ (fr _ nd)).2,_,T}
 have y1:A jb=3:=by rw[b4 _ n3.symm,b3 _ n2.symm,b2 _ n1.symm,a1 _ rfl]
 have y2:A la=7:=by rw[b4 _ ld,b3 _ n4.symm,a2 _ rfl]
 have y3:A re=11:=by rw[b4 _ n5.symm,a3 _ rfl]
 have y4:=a4 _ rfl;have P:PO H x w _ H12 A F [(3,jb,.ins t.q03 dj (Ke m la re db)),(7,la,.dK []),(11,re,.dT []),(8,db,.dK []),(6,hd,.dK []),(5,wl,.lst []),(4,cl,.lst []),(2,w,wo)]:={Q4.hx,Q4.lx,λe he=>by
  obtain rfl|he:=bC.mp he
  .exact{(),ac,y1}
  obtain rfl|he:=bC.mp he
  .exact{(),O,y2}
  obtain rfl|he:=bC.mp he
  .exact{(),u,y3}
  obtain rfl|he:=bC.mp he
  .exact{(),T,y4}
  exact Q4.ob e he,Q4.ow,Q4.kp,Q4.fr,Q4.f10}
 clear Q0 Q1 Q2 Q3 Q4 a1 a2 a3 a4 b1 b2 b3 b4 y1 y2 y3 y4 n1 n2 n3 n4 n5 aa sj ai e0 fr nl nr nd ld hj ar nj ac O u T;refine P.stM a9 Z D.cD D.d8 () λbe P a8=>?_;refine{(),λen hc=>?_};have a7:=a8.same (u5 en hc (o:=.lst []));have #[J,P']:=P.new (o:=.lst []) 9 () () hc;replace P:=P';clear P';generalize upd be en (.lst [])=H14 at *
 refine P.stM a7 Z D.cD D.d9 () λaS P a6=>?_;have eF:(λb=>J b=10)=F:=funext λb=>propext (P.f10 b);have I:∀n c o,(n,c,o)∈_->aS c=Y o/\J c=n:=λn c o z=>(P.ob (n,c,o) z).2;have #[r1,r2]:=I 11 re _ (.tail _ (.tail _ (.tail _ (.head _))));refine q aS {dx,w,dw,cl,wl,hd,m,jb,dj,en,la,re,db} J Z Z P.kp (λb o n1 n2 e=>gu λz=>by obtain y|y|y:=P.fr b z;exact n1 y;exact n2 y;rw[y] at e;cases e) {λi b o e=>?_,by rw[eF];exact a6,{[],{r1,cY,cY,(),λ_ _ ⟨_,z,_⟩=>nomatch z}},r2,.nil,P.ow}
 match i,e with
 |0,e=>cases e;exact{P.hx,P.lx}
 |1,e=>cases e;exact I 2 _ _ (.tail _ (.tail _ (.tail _ (.tail _ (.tail _ (.tail _ (.tail _ (.tail _ (.head _)))))))))
 |2,e=>cases e;exact I 3 _ _ (.tail _ (.head _))
 |3,e=>cases e;exact I 4 _ _ (.tail _ (.tail _ (.tail _ (.tail _ (.tail _ (.tail _ (.tail _ (.head _))))))))
 |4,e=>cases e;exact I 5 _ _ (.tail _ (.tail _ (.tail _ (.tail _ (.tail _ (.tail _ (.head _)))))))
 |5,e=>cases e;exact I 6 _ _ (.tail _ (.tail _ (.tail _ (.tail _ (.tail _ (.head _))))))
 |6,e=>cases e;exact I 7 _ _ (.tail _ (.tail _ (.head _)))
 |7,e=>cases e;exact I 8 _ _ (.tail _ (.tail _ (.tail _ (.tail _ (.head _)))))
 |8,e=>cases e;exact I 9 _ _ (.head _)
end
section
variable {β:Type}{l:List (Int×β)}{b b0:β}{q:Int×β->Nat}
theorem zb6:∀ {l:List (Int×β)},h ∉ l.map (·.1)->yH l h=l
 |[],_=>rfl
 |e::l,n=>by rw[bB,bC] at n;have c:e.1≠h:=λz=>n (.inl z.symm);rw[yH,dZ,ao (Bj c)];exact congrArg _ (zb6 λz=>n (.inr z))
theorem qL:∀ {l:List (Int×β)},(l.map (·.1)).Nodup->(h,b0)∈l->(X7 l h b).Perm ((h,b)::yH l h)/\l.Perm ((h,b0)::yH l h)
 |e::l,nd,m=>by
  rw[bB,cw] at nd;by_cases c:e.1=h
  .have e0:e=(h,b0):=Kt (l:=e::l) (by rw[bB,cw];exact nd) bw m c;have n:h ∉ l.map (·.1):=by rw[<-c];exact nd.1
   have z:yH (e::l) h=l:=by rw[yH,dZ,ak (by rw[decide_eq_true_eq];exact λz=>z c)];exact zb6 n
   have y:X7 l h b=l:=(dR λe A=>ak λw=>n (bK.mpr {e,A,w})).trans (List.map_id _);rw[z];refine{?_,by rw[e0]};show ((if e.1=h then (h,b) else e)::X7 l h b).Perm _;rw[ao c,y]
  .have m:=(bC.mp m).resolve_left λz=>c (by rw[<-z]);have #[u,k]:=qL nd.2 m;have z:yH (e::l) h=e::yH l h:=by rw[yH,dZ,ao (Bj c)];rfl
   rw[z];refine{?_,(k.cons e).trans (.swap ..)};show ((if e.1=h then (h,b) else e)::X7 l h b).Perm _;rw[ak c];exact(u.cons e).trans (.swap ..)
def XA(u:(l.map (·.1)).Nodup)(m:(h,b0)∈l):((X7 l h b).map q).sum=q (h,b)+((yH l h).map q).sum/\(l.map q).sum=q (h,b0)+((yH l h).map q).sum:=by have #[k,c]:=qL (b:=b) u m;exact{(k.map q).sum_nat.trans (by rw[bB,c9]),(c.map q).sum_nat.trans (by rw[bB,c9])}
end
theorem Qy{q:Int->Nat}:∀ {a b:ym},a.Nodup->(∀x∈a,x∈b)->(a.map q).sum<=(b.map q).sum
 |[],_,_,_=>cf _
 |x::a,b,nd,h=>by rw[cw] at nd;have p:=m8 (h x bw);rw[(p.map q).sum_nat,bB,bB,c9,c9];refine c8 (Qy nd.2 λy c=>?_) _;exact(sk λz=>nd.1 (by rw[<-z];exact c)).mpr (h y (bt _ c))
theorem jL{c:Type}{q q':c->Nat}:∀ {l:List c},(∀x∈l,q x<=q' x)->(l.map q).sum<=(l.map q').sum
 |[],_=>bq _
 |x::l,h=>by have i:=jL λy k=>h y (bt x k);have:=h x bw;rw[bB,bB,c9,c9];lia
theorem Vp{c:Type}{q q':c->Nat}:∀ {l:List c},(l.map λx=>q x+q' x).sum=(l.map q).sum+(l.map q').sum
 |[]=>rfl
 |x::l=>by have i:=Vp (q:=q) (q':=q') (l:=l);rw[bB,bB,bB,c9,c9,c9,i];lia
theorem zd2{k:Type}{p:k->Prop}[DecidablePred p]{q:k->Nat}:∀ {l:List k},(l.map λx=>if p x then q x else 0).sum=((l.filter λx=>decide (p x)).map q).sum
 |[]=>rfl
 |x::l=>by
  have i:=zd2 (p:=p) (q:=q) (l:=l);rw[bB,c9,i,dZ];by_cases c:p x
  .rw[ao c,ao (Bj c),bB,c9]
  .rw[ak c,ak (by rw[decide_eq_true_eq];exact c),i7]
section
variable {p:Pl}
theorem Wg{r r':Int}(h:r'<=r):∀(ls:Aj)(s:Int×Int),wc p r' (ls.filter λy=>decide (y.1≠r)) s=wc p r' ls s
 |[],_=>rfl
 |y::ls,s=>by
  rw[dZ];by_cases c:y.1=r
  .rw[ak (by rw[decide_eq_true_eq];exact λz=>z c),Wg h ls,wc,ak ()]
  .rw[ao (Bj c),wc,wc,Wg h ls]
def zb7(h:r'<=r):yg g (we ls r gi) p r'=yg g ls p r':=by unfold yg we;rw[YO,ak (λz=>Int.not_lt.mpr h z.2),Wg h]
theorem zb8:∀(ah:zD)(s:Int×Int),(∀w∈ah,u3 w.2=U)->u3 s.2=U->u3 (Jv p r ah s).2=U
 |[],_,_,h=>h
 |w::ah,s,hr,h=>by
  rw[Jv];refine zb8 ah _ (λx c=>hr x (bt _ c)) ?_;split
  .exact hr w bw
  .exact h
theorem zb9:∀(ls:Aj)(s:Int×Int),(∀y∈ls,∀w∈y.2,u3 w.2=U)->u3 s.2=U->u3 (wc p r ls s).2=U
 |[],_,_,h=>h
 |y::ls,s,hr,h=>by
  rw[wc];refine zb9 ls _ (λx c=>hr x (bt _ c)) ?_;split
  .exact zb8 _ _ (hr y bw) h
  .exact h
end
section
variable {e:Ev}
theorem zhc(I:RnI C j s)(k:yy C s=am):j<C.length:=by
 have no:¬ yy C s=U:=by rw[k];decide
 have m:=qJ no;have c:s.why=L:=by
  cases e:s.why with
  |none=>rfl
  |some v=>exact absurd (show yy C s=U by unfold yy;rw[e];rfl) no
 have:=I.at_ c;lia
theorem JO{k n:Nat}(h:k<n):jo f k n=(f+k)::jo f (k+1) n:=by unfold jo;rw[show n-k=n-(k+1)+1 by lia,List.range_succ_eq_map,bB,eQ];refine congr (congrArg _ ()) (dR λi _=>?_);show f+(k:Int)+((i+1:Nat):Int)=f+((k+1:Nat):Int)+i;lia
theorem uS.run(c:uS n f g CC S){r:Int}{s s':hU}{w:Int}{C:Aw}(m:(h,r,j,s)∈S.hl)(A:CC[(r-f).toNat]?=Y C)(ho:yy C s=am)(hw:u3 w=U):uS n f g CC { S with hl:=X7 S.hl h (r,j+1,xh C w s) }:=by
 have #[q,J]:=qL (b:=(r,j+1,xh C w s)) c.hn m;have #[k,u,I,_]:=c.rn _ m;obtain rfl:k=C:=bU (u.symm.trans A);have O:=c.cc.ok k (bA A);have jl:j<k.length:=zhc I ho;have T:∀e∈X7 S.hl h (r,j+1,xh k w s),e=(h,r,j+1,xh k w s)\/e∈S.hl:=λe he=>(bC.mp (q.mem_iff.mp he)).imp id λz=>(aV.mp z).1;refine{c.f0,c.cc,c.el,?_,c.so,?_,λe he=>?_,λe he=>?_,c.nt,c.ly,c.gw,c.lw}
 .refine dy (.append_left _ (.append_right _ ?_)) c.pm;exact(q.map λe:Int×Int×Nat×hU=>e.2.1).trans (J.map λe:Int×Int×Nat×hU=>e.2.1).symm
 .exact((q.map λe:Int×Int×Nat×hU=>e.1).trans (J.map λe:Int×Int×Nat×hU=>e.1).symm).nodup_iff.mpr c.hn
 .obtain rfl|he:=T e he
  .show 0<=h/\h<n;exact c.hr _ m
  .exact c.hr e he
 .obtain rfl|he:=T e he
  .exact{k,A,zdP O.1 I ho hw,by show j+1<=48;have:=O.2;lia}
  .exact c.rn e he
def uS.iw(c:uS n f g CC S)(p:Pl)(r:Int):u3 (yg g S.ls p r)=U:=zb9 _ _ c.lw (c.gw p)
theorem Mv.ok(ok:uS n f g CC S)(m:Mv f g CC S h e S')(h0:0<=h)(T:h<n):uS n f g CC S':=by
 cases m with
 |step m ec ho ha=>exact ok.run (s':=mt) m ec ho rfl
 |read m ec ho ha=>exact ok.run (s':=mt) m ec ho (ok.iw _ _)
 |@lay r j s C gi m ec ho hg=>
  have #[_,q]:=qL (b:=(r,j,s)) ok.hn m;have #[C',aa,I,u]:=ok.rn _ m;have #[k,rk,_,J]:=ok.rh m;have rk:r=f+k:=rk;have l2:s.gi.length<=j:=I.ok.l2;have l3:s.no.length<=j:=I.ok.l3;have u:j<=48:=u;have lo:gi.length<=s.gi.length:=JC hg;have A:∀y∈we S.ls r gi,y∈S.ls\/y=(r,gi):=λy c=>(bp.mp c).imp (λz=>(cC.mp z).1) λz=>bo.mp z;refine{ok.f0,ok.cc,ok.el,?_,ok.so,ok.hn.sublist (dD.map _),λe he=>ok.hr e (aV.mp he).1,λe he=>ok.rn e (aV.mp he).1,λe he=>?_,λy c=>?_,ok.gw,λy c=>?_}
  .refine dy (.append_left _ ?_) ok.pm;refine dy ?_ (.append_right _ (q.map λe:Int×Int×Nat×hU=>e.2.1).symm);rw[bZ,<-b6];exact fE
  .obtain he|he:=bp.mp he
   .exact ok.nt e he
   .cases bo.mp he;exact({I.ok.nd,zi6 hg,(),()}:zcW s.no gi)
  .obtain c|rfl:=A y c
   .exact ok.ly y c
   .show f<=r/\r<_;lia
  .obtain c|rfl:=A y c
   .exact ok.lw y c
   .exact zg0 I hg
 |@settle s gi m fr=>
  have #[_,q]:=qL (b:=(s,gi)) ok.nd.2.1.2.1 m;have #[k,rk,_,J]:=ok.rl (bE (f:=λe:Int×hU×zD=>e.1) m);have rk:f+(S.en:Int)=f+k:=rk;refine{ok.f0,ok.cc,by show S.en+1<=_;lia,?_,ok.so,ok.hn,ok.hr,ok.rn,λe he=>ok.nt e (aV.mp he).1,ok.ly,ok.gw,ok.lw};have z:=ok.pm;rw[JO (show S.en<CC.length by lia)] at z;refine List.Perm.cons_inv (a:=f+(S.en:Int)) (dy ?_ z);refine dy ?_ (.append_left _ (.append_left _ (q.map λe:Int×hU×zD=>e.1).symm));rw[<-b6,<-b6];exact uo.symm
 |@again r s gi p o ws' m c hn' pw so fr=>
  have #[_,q]:=qL (b:=(s,gi)) ok.nd.2.1.2.1 m;refine{ok.f0,ok.cc,ok.el,?_,so,ok.hn,ok.hr,ok.rn,λe he=>ok.nt e (aV.mp he).1,ok.ly,ok.gw,ok.lw};refine dy (.append_right _ pw) (dy ?_ ok.pm);refine dy ?_ (.append_left _ (.append_left _ (q.map λe:Int×hU×zD=>e.1).symm));rw[<-b6,<-b6];exact uo.symm
 |@take r m fr=>
  have #[k,rk,_,J]:=ok.rw_ m;refine{ok.f0,ok.cc,ok.el,?_,ok.so.sublist tI,?_,λe he=>?_,λe he=>?_,ok.nt,ok.ly,ok.gw,ok.lw}
  .refine dy ?_ ((fW _ (m8 m)).symm.trans ok.pm);rw[bZ,b6];show (S.ws.erase r++(S.hl.map (·.2.1)++r::S.ld.map (·.1))).Perm (r::(S.ws.erase r++(S.hl.map (·.2.1)++S.ld.map (·.1))));rw[<-b6,<-b6];exact List.perm_middle
  .rw[bZ];refine dh.mpr {ok.hn,by simp,λx O y c z=>fr ?_};rw[<-show y=h from bo.mp c,<-z];exact O
  .obtain he|he:=bp.mp he
   .exact ok.hr e he
   .cases bo.mp he;exact{h0,T}
  .obtain he|he:=bp.mp he
   .exact ok.rn e he
   .cases bo.mp he;exact{_,ba (show (r-f).toNat<CC.length by lia),rn0,cf _}
 |rest w l fr=>exact ok
end
def AI(f:Int)(n:Nat)(r:Int):Nat:=51*2^(n-1-(r-f).toNat)
open Classical in
noncomputable def pen(f:Int)(n:Nat)(g:zD)(ls:Aj)(r:Int)(no:zD):Nat:=if Agr g ls r no then 0 else AI f n r
noncomputable def phH(f:Int)(n:Nat)(g:zD)(ls:Aj)(e:Int×Int×Nat×hU):Nat:=48-e.2.2.1+2+(AI f n e.2.1-51)+pen f n g ls e.2.1 e.2.2.2.no
noncomputable def phL(f:Int)(n:Nat)(g:zD)(ls:Aj)(e:Int×hU×zD):Nat:=1+pen f n g ls e.1 e.2.1.no
noncomputable def Phi(f:Int)(n:Nat)(g:zD)(S:DS):Nat:=(S.ws.map (AI f n)).sum+((S.hl.map (phH f n g S.ls)).sum+(S.ld.map (phL f n g S.ls)).sum)
section
variable {n k:Nat}{e:Ev}{ls':Aj}
theorem zhd:51<=AI f n r:=Nat.le_mul_of_pos_right 51 (Nat.pow_pos ())
theorem zc3:∀m k:Nat,k+m=n->((jo f k n).map (AI f n)).sum=51*(2^m-1)
 |0,k,h=>by rw[show jo f k n=[] by unfold jo;rw[show n-k=0 by lia];rfl];rfl
 |m+1,k,h=>by rw[JO (),bB,c9,zc3 m (k+1) ()];unfold AI;rw[show n-1-(f+(k:Int)-f).toNat=m by lia,Nat.pow_succ];have:1<=2^m:=Nat.pow_pos ();lia
def zc4:pen f n g ls r no<=AI f n r:=by unfold pen;split;exact cf _;exact bq _
def zhe(h:∀p,yg g ls' p r=yg g ls p r):pen f n g ls' r no=pen f n g ls r no:=by
 have:Agr g ls' r no↔Agr g ls r no:=forall_congr' λy=>by rw[h]
 unfold pen;rw[propext this]
def exR(f:Int)(n:Nat)(r x:Int):Nat:=if r<x then AI f n x else 0
theorem zd3:pen f n g (we ls r gi) r' no<=pen f n g ls r' no+exR f n r r':=by
 by_cases c:r<r'
 .have:=zc4 (f:=f) (n:=n) (g:=g) (ls:=we ls r gi) (r:=r') (no:=no);unfold exR;rw[ao c];lia
 .rw[zhe λp=>zb7 ()];exact cZ _ _
theorem zd4(c:uS N f g CC S)(m:(h,r,j,s)∈S.hl)(I:j<48)(u:Agr g S.ls r s.no->Agr g S.ls r s'.no):Phi f n g { S with hl:=X7 S.hl h (r,j+1,s') }<Phi f n g S:=by
 have #[O,J]:=XA (b:=(r,j+1,s')) (q:=phH f n g S.ls) c.hn m;have:pen f n g S.ls r s'.no<=pen f n g S.ls r s.no:=by
  unfold pen;split
  .exact cf _
  .rw[ak λz=>(by assumption:¬ _) (u z)];exact bq _
 have A:phH f n g S.ls (h,r,j+1,s')=48-(j+1)+2+(AI f n r-51)+pen f n g S.ls r s'.no:=rfl;have w:phH f n g S.ls (h,r,j,s)=48-j+2+(AI f n r-51)+pen f n g S.ls r s.no:=rfl;unfold Phi;dsimp only;lia
theorem Mv.dec(ok:uS N f g CC S)(m:Mv f g CC S h e S'):(e=.rest/\S'=S)\/Phi f CC.length g S'<Phi f CC.length g S:=by
 have A:∀ {r j s C},(h,r,j,s)∈S.hl->CC[(r-f).toNat]?=Y C->yy C s=am->j<48:=λ{r j s C} m u c=>by have #[C',O,I,_]:=ok.rn _ m;obtain rfl:C'=C:=bU (O.symm.trans u);have:=(ok.cc.ok C' (bA u)).2;have:j<C'.length:=zhc I c;lia
 cases m with
 |step m u c ha=>
  refine .inr (zd4 ok m (A m u c) λz=>?_);rw[(Vm c).1 ha];exact z
 |read m u c ha=>
  refine .inr (zd4 ok m (A m u c) λz=>?_);rw[(Vm c).2 _ ha];intro y hy;obtain hy|hy:=bp.mp hy
  .exact z y hy
  .rw[bo.mp hy]
 |@lay r j s C gi m u c hg=>
  refine .inr ?_;have #[_,p2]:=qL (b:=(r,j,s)) ok.hn m;have #[_,T]:=XA (b:=(r,j,s)) (q:=phH f CC.length g S.ls) ok.hn m;have #[k,rk,_,kl]:=ok.rh m;have rk:r=f+k:=rk;have b1:((yH S.hl h).map (phH f CC.length g (we S.ls r gi))).sum<=((yH S.hl h).map (phH f CC.length g S.ls)).sum+((yH S.hl h).map λe=>exR f CC.length r e.2.1).sum:=by rw[<-Vp];exact jL λx _=>by have:=zd3 (f:=f) (n:=CC.length) (g:=g) (ls:=S.ls) (r:=r) (gi:=gi) (r':=x.2.1) (no:=x.2.2.2.no);unfold phH;lia
  have b2:(S.ld.map (phL f CC.length g (we S.ls r gi))).sum<=(S.ld.map (phL f CC.length g S.ls)).sum+(S.ld.map λe=>exR f CC.length r e.1).sum:=by rw[<-Vp];exact jL λx _=>by have:=zd3 (f:=f) (n:=CC.length) (g:=g) (ls:=S.ls) (r:=r) (gi:=gi) (r':=x.1) (no:=x.2.1.no);unfold phL;lia
  have b3:((yH S.hl h).map λe=>exR f CC.length r e.2.1).sum+(S.ld.map λe=>exR f CC.length r e.1).sum<=AI f CC.length r-51:=by
   have z:((yH S.hl h).map λe=>exR f CC.length r e.2.1).sum+(S.ld.map λe=>exR f CC.length r e.1).sum=((((yH S.hl h).map (·.2.1)++S.ld.map (·.1)).filter λx=>decide (r<x)).map (AI f CC.length)).sum:=by rw[<-zd2,bZ,gS,eQ,eQ];rfl
   rw[z];have sb:((yH S.hl h).map (·.2.1)++S.ld.map (·.1)).Sublist (S.hl.map (·.2.1)++S.ld.map (·.1)):=(dD.map _).append (List.Sublist.refl _);have nd:=(ok.pm.nodup_iff.mpr zhb).sublist (List.sublist_append_right S.ws _);refine bI (Qy (b:=jo f (k+1) CC.length) (nd.sublist (List.filter_sublist.trans sb)) λx hx=>?_) ?_
   .have #[h1,h2]:=cC.mp hx;have #[j,ej,_,jl]:=ok.rk (bQ _ (sb.subset h1));have:=of_decide_eq_true h2;exact rks_mem.mpr {j,ej,(),jl}
   .rw[zc3 (CC.length-(k+1)) (k+1) ()];unfold AI;rw[show CC.length-1-(r-f).toNat=CC.length-(k+1) by lia];lia
  have b4:=zhe (f:=f) (n:=CC.length) (g:=g) (no:=s.no) (ls:=S.ls) (ls':=we S.ls r gi) (r:=r) λp=>zb7 (sS r);have J:phH f CC.length g S.ls (h,r,j,s)=48-j+2+(AI f CC.length r-51)+pen f CC.length g S.ls r s.no:=rfl;have p2:([(r,s,gi)].map (phL f CC.length g (we S.ls r gi))).sum=1+pen f CC.length g (we S.ls r gi) r s.no+0:=rfl;unfold Phi;dsimp only;rw[bZ,gS];lia
 |@settle s gi m fr=>
  have #[_,T]:=XA (b:=(s,gi)) (q:=phL f CC.length g S.ls) ok.nd.2.1.2.1 m;refine .inr ?_;have J:phL f CC.length g S.ls (f+S.en,s,gi)=1+pen f CC.length g S.ls (f+S.en) s.no:=rfl;unfold Phi;dsimp only;lia
 |@again r s gi p o ws' m hy hn pw so fr=>
  have #[_,T]:=XA (b:=(s,gi)) (q:=phL f CC.length g S.ls) ok.nd.2.1.2.1 m;refine .inr ?_;have e1:pen f CC.length g S.ls r s.no=AI f CC.length r:=by unfold pen;exact ak λz=>hn (z _ hy)
  have J:phL f CC.length g S.ls (r,s,gi)=1+pen f CC.length g S.ls r s.no:=rfl;unfold Phi;dsimp only;rw[(pw.map (AI f CC.length)).sum_nat,bB,c9];lia
 |@take r m fr=>
  refine .inr ?_;have e1:=((m8 m).map (AI f CC.length)).sum_nat;rw[bB,c9] at e1;have T:pen f CC.length g S.ls r mt.no=0:=by unfold pen;exact ao λy hy=>nomatch hy
  have:=zhd (f:=f) (n:=CC.length) (r:=r);have J:([(h,r,0,mt)].map (phH f CC.length g S.ls)).sum=48-0+2+(AI f CC.length r-51)+pen f CC.length g S.ls r mt.no+0:=rfl;unfold Phi;dsimp only;rw[bZ,gS];lia
 |rest w l fr=>exact .inl {Z,Z}
theorem zkl(m:uS N f g CC S):Phi f CC.length g S<=30000:=by
 have l5:=m.cc.le;have w:∀ {e},e∈S.hl->phH f CC.length g S.ls e<=2*AI f CC.length e.2.1:=λ{e} c=>by have:=zhd (f:=f) (n:=CC.length) (r:=e.2.1);have:=zc4 (f:=f) (n:=CC.length) (g:=g) (ls:=S.ls) (r:=e.2.1) (no:=e.2.2.2.no);unfold phH;lia
 have u:∀ {e},e∈S.ld->phL f CC.length g S.ls e<=2*AI f CC.length e.1:=λ{e} c=>by have:=zhd (f:=f) (n:=CC.length) (r:=e.1);have:=zc4 (f:=f) (n:=CC.length) (g:=g) (ls:=S.ls) (r:=e.1) (no:=e.2.1.no);unfold phL;lia
 have O:(S.hl.map (phH f CC.length g S.ls)).sum<=(S.hl.map λe=>2*AI f CC.length e.2.1).sum:=jL λe c=>w c;have J:(S.ld.map (phL f CC.length g S.ls)).sum<=(S.ld.map λe=>2*AI f CC.length e.1).sum:=jL λe c=>u c;have I:=jL (l:=S.ws) (q:=AI f CC.length) (q':=λr=>2*AI f CC.length r) λe _=>by lia
 have z:=(m.pm.map λr=>2*AI f CC.length r).sum_nat;rw[bZ,bZ,gS,gS,eQ,eQ] at z;have y:=zc3 (f:=f) (n:=CC.length) (CC.length-S.en) S.en (by have:=m.el;lia);have t:=Vp (q:=AI f CC.length) (q':=AI f CC.length) (l:=jo f S.en CC.length);have A:((jo f S.en CC.length).map λr=>2*AI f CC.length r).sum=((jo f S.en CC.length).map λx=>AI f CC.length x+AI f CC.length x).sum:=by congr 1;exact dR λx _=>by lia
 have p:2^(CC.length-S.en)<=2^8:=Nat.pow_le_pow_right () ();have p:2^(CC.length-S.en)<=256:=p;have z:(S.ws.map λr=>2*AI f CC.length r).sum+((S.hl.map λe=>2*AI f CC.length e.2.1).sum+(S.ld.map λe=>2*AI f CC.length e.1).sum)=_:=z;unfold Phi;lia
end
section
variable {a:AJ}{e:Ev}{J:List He->DS->Prop}
def AM.ts{x:He}(h:AM H v x)(ts:AQ H H'):AM H' v x:=let ⟨b,q,e,h1,h2⟩:=h;{b,q,e,ts _ _ h1,λp z=>ts _ _ (h2 p z)}
def zhf(h:Bl (AM H) xs es)(c:AQ H H'):Bl (AM H') xs es:=Paired.mapP h λ_ _ z=>z.ts c
theorem Fr.up{M:Nat->Prop}(h:Fr M H H' lb lb')(hl:H' l=Y (.lst xs))(c:H l=L):Fr M H (upd H' l (.lst ys)) lb lb':={h.ex,λb o z e=>by rw[zt (λy=>by rw[y,c] at e;cases e)];exact h.kp b o z e,λb zs e=>jK hl () _ _ (h.ts b zs e),λb o e=>let ⟨o',e'⟩:=h.al b o e;JL b o' e'}
def TnI(n:Int)(S:DS)(i t:Nat):Prop:=t<8/\(S.hl=[]\/∃e∈S.hl,((i:Int)+t)%n=e.1)
theorem zhg(c:uS n f g CC S)(z:1<=n)(w:n<=8)(i:Nat):∃t,TnI n S i t:=by
 cases e:S.hl with
 |nil=>exact{0,(),.inl e}
 |cons x xs=>
  have m:x∈S.hl:=by rw[e];exact bw
  have #[u,q]:=c.hr x m;have k:=cW (x.1-i) (show n≠0 by lia);have A:=cM (x.1-i) (show 0<n by lia);refine{((x.1-i)%n).toNat,(),.inr {x,m,?_}};rw[oh k,Int.add_emod,Int.emod_emod_of_dvd _ (Int.dvd_refl n),<-Int.add_emod,show (i:Int)+(x.1-i)=x.1 by lia,Int.emod_eq_of_lt u q]
structure FnI(t:uQ)(H:Hp)(d l:af)(a:AJ)(lb:AN_)(n f:Int)(g:zD)(CC:vy)(J:List He->DS->Prop)(m:Nat)(H':Hp)(lb':AN_)(xs:LV)(es:List He)(S:DS)(t':Nat):Prop where
 em:m=8*Phi f CC.length g S+t'
 lm:xs.length+m<=300000
 tn:TnI n S xs.length t'
 fr:Fr M0 H H' lb lb'
 hl:H' l=Y (.lst xs)
 l0:lb' l=0
 pd:Bl (AM H') xs es
 js:J es S
 ok:uS n f g CC S
 dk:Au t H' d a lb' n f g CC S
def FnE(t:uQ)(H:Hp)(d l:af)(a:AJ)(lb:AN_)(n f:Int)(g:zD)(CC:vy)(J:List He->DS->Prop)(m:Nat)(σ:St)(H':Hp):Prop:=σ=[Y (.ref d),Y (.ref l)]/\∃lb' xs es S c,FnI t H d l a lb n f g CC J m H' lb' xs es S c
theorem FnI.next{q:Hp}{c:AN_}(I:FnI t H d l a lb n f g CC J m H' lb' xs es S t')(h1:1<=n)(h8:n<=8)(hn:H l=L)(lt:S.en<CC.length)(js:∀es S h e S',J es S->uS n f g CC S->S.en<CC.length->h=(es.length:Int)%n->Mv f g CC S h e S'->J (es++[(h,e)]) S')(F2:Fr M0 H' q lb' c)(ev:AM q v ((xs.length:Int)%n,e))(T:Mv f g CC S ((xs.length:Int)%n) e S2)(G2:Au t q d a c n f g CC S2):q l=Y (.lst xs)/\∃O,O<m/\FnE t H d l a lb n f g CC J O [Y (.ref d),Y (.ref l)] (upd q l (.lst (xs++[v]))):=by
 have b1:=cW (xs.length:Int) (show n≠0 by lia);have b2:=cM (xs.length:Int) (show 0<n by lia);have k:=F2.kp _ _ (by rw[I.l0];exact .inl Z) I.hl;have l2:c l=0:=(F2.ex _ _ I.hl).trans I.l0;have ts:AQ q (upd q l (.lst (xs++[v]))):=jK k nofun
 have A:=Mv.ok I.ok T b1 b2;have em:=I.em;have lm:=I.lm;refine{k,?_};have fin:∀u,TnI n S2 (xs.length+1) u->8*Phi f CC.length g S2+u<m->∃O,O<m/\FnE t H d l a lb n f g CC J O [Y (.ref d),Y (.ref l)] (upd q l (.lst (xs++[v]))):=λu T2 aa=>{_,aa,Z,c,xs++[v],es++[((xs.length:Int)%n,e)],S2,u,Z,by rw[bh];show xs.length+1+_<=300000;lia,by rw[bh];exact T2,(I.fr.trans F2).up k hn,zo,l2,Paired.snocP (zhf (zhf I.pd F2.ts) ts) (ev.ts ts),js es S _ e S2 I.js I.ok lt (by rw[bG I.pd]) T,A,G2.put k l2};obtain ⟨rfl,e12⟩|dc:=T.dec I.ok
 .cases T with
  |rest w nl fr=>
   have ne:S.hl≠[]:=λz=>by have:=I.ok.pm;rw[w,z,JO lt] at this;exact nl (this.mem_iff.mpr bw)
   have #[x,hx,ex]:=I.tn.2.resolve_left ne;have t0:t'≠0:=λz=>fr (by rw[z,show (xs.length:Int)+((0:Nat):Int)=xs.length by lia] at ex;rw[ex];exact bE (f:=λe:Int×Int×Nat×hU=>e.1) hx)
   have:=I.tn.1;exact fin (t'-1) {(),.inr {x,hx,by rw[show ((xs.length+1:Nat):Int)+((t'-1:Nat):Int)=xs.length+t' by lia];exact ex}} ()
 .have #[u,T2]:=zhg A h1 h8 (xs.length+1);have:=T2.1;exact fin u T2 ()
end
section
variable {e:Ev}{es:LRG}{p:Pl}{w:Int}
def FdI.new:FdI C mt:={0,λ_ _=>rfl}
def FdI.step(F:FdI C s)(m:yy C s=am)(k:j7 C s=L):FdI C (xh C 0 s):=by have #[j,F]:=F;refine{j+1,λc h=>?_};rw[(Vm m).1 k] at h;rw[qf,<-F c h];show xh C 0 s=X6 C c s;unfold X6 Kc;rw[k]
def FdI.read(F:FdI C s)(q:yy C s=am)(k:j7 C s=Y p):FdI C (xh C w s):=by have #[j,F]:=F;refine{j+1,λc h=>?_};rw[(Vm q).2 p k] at h;rw[qf,<-F c λy m=>h y (cz _ m)];show xh C w s=X6 C c s;unfold X6 Kc;rw[k];have e:c p=w:=h (p,w) (bQ _ (bo.mpr Z));show xh C w s=xh C (c p) s;rw[e]
theorem Yj:∀(es:LRG)(f:Int){y:Int×zD},y∈lsE f es↔∃(k:Nat)(e:hU×zD),es[k]?=Y e/\y=(f+k,e.2)
 |[],f,y=>{(),λ⟨_,_,z,_⟩=>nomatch z}
 |e::es,f,y=>by
  rw[lsE,bC,Yj es];constructor
  .rintro(rfl|⟨k,x,h,rfl⟩)
   .exact{0,e,Z,by rw[sI,ug]}
   .exact{k+1,x,h,by rw[show f+1+(k:Int)=f+((k+1:Nat):Int) by lia]}
  .rintro⟨k,x,h,rfl⟩;cases k with
   |zero=>cases h;exact .inl (by rw[sI,ug])
   |succ k=>exact .inr {k,x,h,by rw[show f+1+(k:Int)=f+((k+1:Nat):Int) by lia]}
theorem zc5:∀(es:LRG)(f:Int),((lsE f es).map (·.1)).Nodup
 |[],_=>cY
 |e::es,f=>by rw[lsE,bB,cw];refine{λz=>?_,zc5 es (f+1)};have #[y,m,c]:=bK.mp z;have #[k,x,_,rfl]:=(Yj es (f+1)).mp m;have c:f+1+(k:Int)=f:=c;lia
def zca{ls c:Aj}{k:Int}(I:(ls.map (·.1)).Nodup)(q:(c.map (·.1)).Nodup)(t:∀y,y.1<k->(y∈ls↔y∈c)):yg g ls p k=yg g c p k:=by
 unfold yg;obtain ⟨e1,n1⟩|⟨y,hy,w,e1,e2,e3,e4,e5⟩:=xH p k ls (-1,(zE g p).getD 0) <;> obtain ⟨f1,n2⟩|⟨y',hy',w',f1,f2,f3,f4,f5⟩:=xH p k c (-1,(zE g p).getD 0)
 .rw[e1,f1]
 .rw[n1 y' ((t y' f2).mpr hy') f3 f2] at f1;cases f1
 .rw[n2 y ((t y e2).mp hy) e3 e2] at e1;cases e1
 .have A:zE y.2 p≠L:=by rw[e1];exact nofun
  have m:zE y'.2 p≠L:=by rw[f1];exact nofun
  have u:=(t y e2).mp hy;have:y=y':=Kt q u hy' (Int.le_antisymm (f5 y u e2 A) (e5 y' ((t y' f2).mpr hy') f2 m));rw[e4,f4];rw[this,f1] at e1;exact(bU e1).symm
end
section
variable {e:Ev}{C0:Aw}
def StI.set(A:StI f g CC S)(O:uS n f g CC S)(m:(h,r,j,s)∈S.hl)(I:CC[(r-f).toNat]?=Y C)(F:FdI C s'):StI f g CC { S with hl:=X7 S.hl h (r,j+1,s') }:=by
 refine { A with rn:=λe z J q=>?_ };have #[u,w,rfl]:=bK.mp z;by_cases c:u.1=h
 .rw[ao c] at q ⊢;cases bU (q.symm.trans I);exact F
 .rw[ak c] at q ⊢;exact A.rn u w J q
def AR{y:Int×zD}:y∈we ls r gi↔(y∈ls/\y.1≠r)\/y=(r,gi):=by unfold we;rw[bp,cC,decide_eq_true_eq,bo]
def zkm{ls:Aj}(c:(ls.map (·.1)).Nodup):((we ls r gi).map (·.1)).Nodup:=by unfold we;rw[bZ,dh];refine{c.sublist (f8 _ dD),cw.mpr {cQ,cY},λa q b m=>?_};have #[y,k,rfl]:=bK.mp q;rw[bo.mp m];exact of_decide_eq_true (cC.mp k).2
theorem StI.mv(A:StI f g CC S)(O:uS n f g CC S)(mv:Mv f g CC S h e S'):StI f g CC S':=by
 have f0:=O.f0;cases mv with
 |step m ec ho na=>exact A.set O m ec ((A.rn _ m _ ec).step ho na)
 |read m ec ho ea=>exact A.set O m ec ((A.rn _ m _ ec).read ho ea)
 |@lay r j s C gi m ec ho hg=>
  have #[k,rk,kn,_]:=O.rh m;have rk:r=f+k:=rk;refine{A.le,λe u=>A.rn e (aV.mp u).1,λe u C' J=>?_,A.rs,λy w=>?_,λe u=>?_,zkm A.nd,λy w=>?_,λy w=>?_}
  .obtain z|z:=bp.mp u
   .exact A.rl e z C' J
   .cases bo.mp z;cases bU (J.symm.trans ec);exact{A.rn _ m _ ec,ho,hg}
  .have w:y.1<f+S.en:=w;rw[<-A.ly y w];exact AR.trans {λz=>z.elim (λz=>z.1) λz=>by rw[z] at w;have:r<f+S.en:=w;lia,λz=>.inl {z,()}}
  .obtain z|z:=bp.mp u
   .exact AR.mpr (.inl {A.ll e z,λy=>O.nd.2.1.2.2 r (bE (f:=λe:Int×Int×Nat×hU=>e.2.1) m) _ (bE (f:=λe:Int×hU×zD=>e.1) z) y.symm})
   .cases bo.mp z;exact AR.mpr (.inr Z)
  .obtain z|z:=AR.mp w
   .exact A.z0 y z.1
   .rw[z];show 0<=r;lia
  .obtain z|z:=AR.mp w
   .exact A.lg y z.1
   .rw[z];have #[_,_,I,T]:=O.rn _ m;exact bI (JC hg) (bI I.ok.l2 T)
 |@settle s gi m ag fr=>
  have le:=A.le;have ek:(f+(S.en:Int)-f).toNat=S.en:=by lia
  have #[_,_,_,kl]:=O.rl (bE (f:=λe:Int×hU×zD=>e.1) m);refine{by show (S.es++[(s,gi)]).length=S.en+1;rw[bh,le];rfl,A.rn,λe u=>A.rl e (aV.mp u).1,λk e C q J=>?_,λy w=>?_,λe u=>A.ll e (aV.mp u).1,A.nd,A.z0,A.lg}
  .have q:(S.es++[(s,gi)])[k]?=Y e:=q;show FdI C e.1/\yy C e.1=U/\k9 e.1 e.2/\Agr g (lsE f ((S.es++[(s,gi)]).take k)) (f+k) e.1.no;obtain c|c:=mO k S.es.length
   .rw[cx c] at q;rw[m4 ()];exact A.rs k e C q J
   .rw[cp c] at q;obtain rfl:k=S.es.length:=by have:=(bd.mp q).1;rw[cP] at this;lia
    rw[gK] at q;cases q;rw[le] at J ⊢;have #[a1,a2,a3]:=A.rl _ m C (by rw[ek];exact J);rw[<-le,sH,le];exact{a1,a2,a3,λy w=>by rw[<-ag y w];exact(zca A.nd (zc5 _ _) A.ly).symm}
  .have w:y.1<f+((S.en+1:Nat):Int):=w;show y∈S.ls↔y∈lsE f (S.es++[(s,gi)]);have lm:y∈lsE f (S.es++[(s,gi)])↔y∈lsE f S.es\/y=(f+S.en,gi):=by
    rw[Yj,Yj];constructor
    .rintro⟨k,e,q,rfl⟩;obtain c|c:=mO k S.es.length
     .rw[cx c] at q;exact .inl {k,e,q,Z}
     .rw[cp c] at q;obtain rfl:k=S.es.length:=by have:=(bd.mp q).1;rw[cP] at this;lia
      rw[gK] at q;cases q;exact .inr (by rw[le])
    .rintro(⟨k,e,q,rfl⟩|rfl)
     .exact{k,e,by rw[cx (bd.mp q).1];exact q,Z}
     .exact{S.es.length,(s,gi),by rw[cp (bq _),gK];rfl,by rw[le]}
   rw[lm];by_cases c:y.1<f+S.en
   .rw[A.ly y c];exact{.inl,λz=>z.resolve_right λz=>by rw[z] at c;have:f+(S.en:Int)<f+S.en:=c;lia}
   .refine{λz=>.inr (Kt A.nd z (A.ll _ m) (by show y.1=f+S.en;lia)),λz=>?_};obtain z|z:=z
    .have #[k,e,q,rfl]:=(Yj _ _).mp z;have:=(bd.mp q).1;exact absurd (show f+(k:Int)<f+S.en by lia) c
    .rw[z];exact A.ll _ m
 |again=>exact { A with rl:=λe u=>A.rl e (aV.mp u).1,ll:=λe u=>A.ll e (aV.mp u).1 }
 |take=>
  refine { A with rn:=λe u C J=>?_ };obtain z|z:=bp.mp u
  .exact A.rn e z C J
  .cases bo.mp z;exact FdI.new
 |rest=>exact A
theorem StI.add(A:StI f g CC S)(u:uS n f g CC S):StI f g (CC++[C0]) (zh9 f CC.length S):=
 have q:∀(i:Nat) C,i<CC.length->(CC++[C0])[i]?=Y C->CC[i]?=Y C:=λi C I z=>by rw[cx I] at z;exact z
 {A.le,λe c C m=>A.rn e c C (q _ C (by have #[k,z,_,l]:=u.rh c;lia) m),λe c C m=>A.rl e c C (q _ C (by have #[k,z,_,l]:=u.rl (bE (f:=λe:Int×hU×zD=>e.1) c);lia) m),λk e C w m=>A.rs k e C w (q _ C (by have J:k<S.es.length:=(bd.mp w).1;have:=A.le;have:=u.el;lia) m),A.ly,A.ll,A.nd,A.z0,A.lg}
end
section
variable {w D:af}{a:AJ}{k:Int}{ah:LV}
def hdD(D:af)(H:Hp):Hp:=λb=>if b=D then L else H b
def jM(n:b≠D)(e:H b=Y o):hdD D H b=Y o:=(ak n).trans e
def vq(e:hdD D H b=Y o):b≠D/\H b=Y o:=by
 unfold hdD at e;by_cases z:b=D
 .rw[ao z] at e;cases e
 .rw[ak z] at e;exact{z,e}
def PpC.same(h:PpC H0 H v e)(s:aJ H H'):PpC H0 H' v e:=let ⟨r,o,nl,gl,e,h1,h2,h3,h4,z,z2⟩:=h;{r,o,nl,gl,e,s _ _ h1,zdQ h2 s,h3.same s,h4.same s,z,z2}
theorem Va{vs:LV}{_E:XK}(F:DkF K t)(h:wt t vs H Q _E) :
  ZZ K t (u9 Q) (zZZ 1 vs) H:=by
 have #[d,a,lb,n,f,g,CC,S,rfl,h,l5,q]:=h;have #[wo,cs,kv,la,db,en,h,_,_,_,E,_]:=h;have ee:H a.en=Y (.lst en):=h.at (i:=8) rfl;have le:=E.le;have lp:=bG E.ps;refine(yh (h.at (i:=0) Z) F.cD F.d9 Z Z {a.en,Z,{_,aO.of ee},λD hD=>?_});have hs:∀ {H2:Hp},aJ H H2->aJ H (hdD D H2):=λs b o z=>jM (zB z hD) (s _ _ z);refine qe (J:=Itl K a.en) en.length () (λτ=>∃o,τ=[o]) (λi ys H2=>Bl (PpC H (hdD D H2)) ys (S.es.take i)) (λi ys H2 H3 s z=>Paired.mapP z λ_ _ y=>y.same λb o z=>jM (vq z).1 (s.2 _ _ (vq z).1 (vq z).2)) {_,Z} .nil (λi H s h=>{_,_,aO.of (s _ _ ee),ba h}) (λH s=>{_,aO.of (s _ _ ee),bq _}) hD ?_ ?_
 .rintro i v τ us H4 H5 ⟨o,rfl⟩ c hi hR m ⟨rfl,hv⟩;have hv:=hv _ (aO.of (c _ _ ee));have #[e,he,r,rfl,o',nl,gl,hr,oc,#[xs,hx,px],#[ys,hy,py],_]:=Paired.getP E.ps hv;refine yE (R:=False) Z {_,Z,r,_,0,_,Z,Z,uZ.of (c _ _ hr),Z,_,Z,r,_,1,_,Z,Z,uZ.of (c _ _ hr),Z,nl,xs,Z,.inl (aO.of (c _ _ hx)),λI h1=>?_};generalize c1:upd H5 I _=H6;have #[s6,e6]:=yI c1 h1;have S6:=c.trans s6;refine{_,Z,r,_,2,_,Z,Z,uZ.of (S6 _ _ hr),Z,gl,ys,Z,.inl (aO.of (S6 _ _ hy)),λA h2=>?_};generalize c2:upd H6 A _=H7;have #[T,e7]:=yI c2 h2;have S7:=S6.trans T;refine{(),λu h3=>?_};have O:=u5 (o:=HO.tup [o',.ref I,.ref A]) u h3;have e8:upd H7 u (HO.tup [o',.ref I,.ref A]) u=Y (.tup [o',.ref I,.ref A]):=zo;refine{{_,Z},?_,s6.trans (T.trans O)};have S8:=hs (S7.trans O);show Bl (PpC H (hdD D (upd H7 u (HO.tup [o',.ref I,.ref A])))) (us++[.ref u]) (S.es.take (i+1));rw[show S.es.take (i+1)=S.es.take i++[e] by rw[cI,he];rfl];refine Paired.snocP (Paired.mapP hR λ_ _ y=>y.same λb o z=>jM (vq z).1 ((s6.trans (T.trans O)) _ _ (vq z).2)) {u,o',I,A,Z,jM (zB (T _ _ (s6 _ _ m)) h3).symm e8,zdQ oc S8,{xs,jM (zB m h1).symm (O _ _ (T _ _ e6)),vb S8 px},{ys,jM (zB (s6 _ _ m) h2).symm (O _ _ e7),vb S8 py},zK c h1,zK S6 h2}
 .intro us H4 aa hR c hq;rw[b9 ()] at hR;exact q D us H4 c hD hq (Paired.mapP hR λ_ _ y=>y.same λb o z=>(vq z).2)
end
section
variable {H2:Hp}{w:af}{ah:LV}{k:Int}{c:Nat}
theorem zhh(k:Int):0<=fsW k:=by
 unfold fsW;by_cases c:k/24%2=0
 .rw[ao c];exact sS _
 .rw[ak c];exact cW _ ()
theorem VE(f0:0<=f)(ht:gV H0 tl g)(l5:g.length<=5)(I:aJ H0 H)(O:H w=Y wo)(nw:H0 w=L)(wy:∀a:AJ,a.dw=dw->zh8 t a wo)(m:H x=L)(u:H dx=L)(q:∀d a lb H',aJ H0 H'->(∀b o,H0 b=Y o->lb b=0)->Au t H' d a lb n f g [] S0->Q (.ref d) H'):wA t [.ref x,.ref tl,.int n,.ref w,.int f] (upd (upd H dx (.own x)) x (.ins t.q00 dx [])) (λv H2=>v=.non/\Q (.ref x) H2) E:=by
 have A:aJ H (upd (upd H dx (.own x)) x (.ins t.q00 dx [])):=λb o z=>by rw[zt (zB z m),zt (zB z u)];exact z
 have S:=I.trans A;have J:∀b o,H0 b=Y o->b≠x:=λb o z=>zB (I _ _ z) m;exact{x,tl,w,dx,dw,n,f,wo,g,Z,zo,ht.same S,(),A _ _ O,zB O m,λH' a lb ea ed k T h=>{Z,q x a lb H' (λb o z=>k b o (J b o z) (S _ _ z)) (λb o z=>T b o (J b o z) (zB z nw) (S _ _ z)) {wo,[],[],[],[],[],h,.nil,.nil,{{cY,nofun},nofun},{Z,.nil},wy a ed}}}
theorem Wh(T:gV H0 tl g)(l5:g.length<=5)(cb:Cb k)(I:aJ H0 H)(O:H w=Y wo)(J:H0 w=L)(A:∀a:AJ,a.dw=dw->zh8 t a wo)(q:∀d a lb H',aJ H0 H'->(∀b o,H0 b=Y o->lb b=0)->Au t H' d a lb n (fsW k) g [] S0->Q (.ref d) H') :
  Jy K t (u9 Q) [Y (.ref tl),Y (.int n),Y (.int k),Y (.ref w)] H:=by
 refine{_,Z,_,_,Z,Z,dB,_,_,Z,Z,(),Z,_,Z,?_};by_cases c:k/24%2=0
 .refine yE (Bj (congrArg V.int c)) {_,Z,_,Z,_,Z,?_};intro x dx u m nx;have e:fsW k=0:=ao c;rw[e] at q;exact VE (sS _) T l5 I O J A u m q
 .refine yj (Bk λz=>c (V.int.inj z)) {_,Z,_,Z,_,Z,_,Z,k,Z,cb,?_};intro x dx u m nx;exact VE (zhh k) T l5 I O J A u m q
end
section
variable {out:zD}{es:LRG}{ts:List zD}{p:Pl}
theorem zcb(e:hU×zD):∀(es:LRG)(f:Int),lsE f (es++[e])=lsE f es++[(f+(es.length:Int),e.2)]
 |[],f=>by rw[gE,iu,sI,ug];rfl
 |a::es,f=>by rw[dY,lsE,zcb e es,lsE,dY,b7,show f+1+(es.length:Int)=f+((es.length+1:Nat):Int) by lia]
theorem zcc{r r':Int}(m:r<=r'):∀(ls:Aj)(s:Int×Int),(∀y∈ls,y.1<r)->wc p r' ls s=wc p r ls s
 |[],_,_=>rfl
 |y::ls,s,h=>by
  have:=h y bw;rw[wc,wc,zcc m ls _ λz k=>h z (bt _ k)];by_cases c:s.1<y.1
  .rw[ao {c,()},ao {c,this}]
  .rw[ak λz=>c z.1,ak λz=>c z.1]
theorem zcd(p:Pl)(b:zD):∀a:zD,zE (a++b) p=match zE b p with|some w=>Y w|none=>zE a p
 |[]=>by rw[gE];cases zE b p <;> rfl
 |x::a=>by rw[dY,zE,zcd p b a,zE];cases zE b p <;> rfl
theorem ze0(q:0<=f):yg g (lsE f (es++[e])) p (f+((es.length+1:Nat):Int))=(zE e.2 p).getD (yg g (lsE f es) p (f+(es.length:Int))):=by
 have c:∀y∈lsE f es,y.1<f+(es.length:Int):=λy m=>by have #[k,e,h,rfl]:=(Yj es f).mp m;have:=(bd.mp h).1;show f+(k:Int)<_;lia
 unfold yg;rw[zcb,YO,zcc (r:=f+(es.length:Int)) () _ _ c];have b:(wc p (f+(es.length:Int)) (lsE f es) (-1,(zE g p).getD 0)).1<f+(es.length:Int):=by
  obtain ⟨h,_⟩|⟨y,_,w,_,h,_,h',_⟩:=xH p (f+(es.length:Int)) (lsE f es) (-1,(zE g p).getD 0)
  .rw[h];show (-1:Int)<_;lia
  .rw[h'];exact h
 rw[ao {b,by show f+(es.length:Int)<f+((es.length+1:Nat):Int);lia},YN];cases zE e.2 p <;> rfl
def zix(h:wD (ah++e.2) out):YJ out p=(zE e.2 p).getD (YJ ah p):=by show (zE out p).getD 0=_;rw[zhT h,zcd];cases zE e.2 p <;> rfl
theorem Vq(D:Due CA g ps ts)(q:0<=f):∀k,k<=CA.length->∃ah,ts[k]?=Y ah/\∀p,yg g (lsE f (ps.take k)) p (f+(k:Int))=YJ ah p
 |0,_=>{g,D.t0,λp=>rfl}
 |k+1,h=>by
  have #[ah,J,I]:=Vq D q k ();have T:=D.lp;have O:=D.lt;have A:CA[k]?=Y CA[k]:=ba ();have m:ps[k]?=Y ps[k]:=ba ();have c:ts[k+1]?=Y ts[k+1]:=ba ();have #[_,_,z]:=D.st k _ _ _ _ A J m c;refine{_,c,λp=>?_};have u:ps.take (k+1)=ps.take k++[ps[k]]:=by rw[cI,m];rfl
  have w:(ps.take k).length=k:=by rw[bX];lia
  have:=ze0 (f:=f) (g:=g) (es:=ps.take k) (e:=ps[k]) (p:=p) q;rw[w] at this;rw[u,this,I,zix z]
theorem zc6(D:Due CA g ps ts)(f0:0<=f)(hc:∃m,CC=CA.take m/\m<=CA.length)(el:S.en<=CC.length)(A:StI f g CC S):S.es=ps.take S.en:=by
 have #[m,rfl,hm]:=hc;have lc:(CA.take m).length=m:=by rw[bX];lia
 have lp:=D.lp;have lt:=D.lt;have le:=A.le
 suffices h:∀k,k<=S.en->S.es.take k=ps.take k by rw[<-h S.en (bq _),b9 ()]
 intro k;induction k with
 |zero=>exact λ_=>rfl
 |succ k c=>
  intro hk;have c:=c ();have w:CA[k]?=Y CA[k]:=ba ();have z:S.es[k]?=Y S.es[k]:=ba ();have u:ps[k]?=Y ps[k]:=ba ();have ho:ts[k+1]?=Y ts[k+1]:=ba ();have #[ah,hr,hs]:=Vq D f0 k ();have #[F,G,_]:=D.st k _ _ _ _ w hr u ho;have #[#[j,a1],a2,a3,J]:=A.rs k _ _ z (by rw[dP,ao ()];exact w);rw[c] at J;have #[q,b1]:=F.rc;have e:=a1 (YJ ah) λy T=>(hs y.1).symm.trans (J y T);have x:Ju CA[k] (YJ ah) (j+q) mt=S.es[k].1:=by rw[qf,<-e,JH a2]
  have O:Ju CA[k] (YJ ah) (q+j) mt=ps[k].1:=by rw[qf,b1,JH F.ov]
  have I:S.es[k].1=ps[k].1:=by rw[<-x,<-O,Nat.add_comm]
  rw[<-I] at G;have e2:S.es[k]=ps[k]:=tE I (zig a3 G);rw[cI,cI,c,z,u,e2]
theorem zd5{w:Int}:∀ {l:zD},(l.map (·.1)).Nodup->(p,w)∈l->zE l p=Y w
 |x::l,h,m=>by
  rw[bB,cw] at h;rw[zE];obtain rfl|m:=bC.mp m
  .cases e:zE l p with
   |none=>exact ao rfl
   |some v=>exact absurd (bE (f:=λr:Row=>r.1) (v7 e)) h.1
  .rw[zd5 h.2 m];rfl
def zlk(c:Ae g)(k:∀r∈g,r.2≠0):wD g g:={c,λp w=>{λz=>{zd5 c.nd z,k _ z},λz=>v7 z.1}}
theorem JP(D:Due CA g ps ts)(q:0<=f)(O:∃m,CC=CA.take m/\m<=CA.length)(T:S.en<=CC.length)(A:StI f g CC S)(tg:wD g g)(u:zbN (λp=>yg g S.ls p (f+(S.en:Int))) ah):ts[S.en]?=Y ah:=by
 have I:S.en<=CA.length:=by have #[m,rfl,hm]:=O;rw[bX] at T;lia
 have ee:=zc6 D q O T A;have #[out,c,h2]:=Vq D q S.en I;have sb:∀p,yg g S.ls p (f+(S.en:Int))=YJ out p:=λp=>by rw[<-h2,<-ee];exact zca A.nd (zc5 _ _) A.ly
 have lp:=D.lp;have lt:=D.lt;have J:wD out out:=by
  cases k:S.en with
  |zero=>
   rw[k,D.t0] at c;cases c;exact tg
  |succ j=>
   rw[k] at c I;have hC:CA[j]?=Y CA[j]:=ba ();have he:ps[j]?=Y ps[j]:=ba ();have #[r0,hr,_]:=Vq D q j ();exact zgl (D.st j _ _ _ _ hC hr he c).2.2
 rw[c];refine congrArg Y (YE J.1 u.1 λ⟨p,w⟩=>?_);rw[J.2,u.2];show _↔yg g S.ls p (f+(S.en:Int))=w/\w≠0;rw[sb];unfold YJ;cases zE out p with
 |none=>exact{(λz=>nomatch z.1),λz=>absurd z.1.symm z.2}
 |some v=>exact{λz=>{bU z.1,z.2},λz=>{congrArg Y z.1,z.2}}
end
theorem uS.add(c:uS N f g CC S)(J:X5 C/\C.length<=48)(h5:CC.length<8):uS N f g (CC++[C]) (zh9 f CC.length S):=by
 have u:(CC++[C]).length=CC.length+1:=bh ..;have el:=c.el;refine{c.f0,{λm h=>?_,()},by show S.en<=_;lia,?_,?_,c.hn,c.hr,λe I=>?_,c.nt,λy k=>?_,c.gw,c.lw}
 .obtain h|h:=bp.mp h
  .exact c.cc.ok m h
  .rw[bo.mp h];exact J
 .show ((S.ws++[f+(CC.length:Int)])++_).Perm (jo f S.en _);rw[u];have z:jo f S.en (CC.length+1)=jo f S.en CC.length++[f+(CC.length:Int)]:=by unfold jo;rw[show CC.length+1-S.en=CC.length-S.en+1 by lia,List.range_succ,bZ];refine congrArg _ ?_;show [f+(S.en:Int)+((CC.length-S.en:Nat):Int)]=_;rw[show f+(S.en:Int)+((CC.length-S.en:Nat):Int)=f+CC.length by lia]
  rw[z,b6];refine dy ?_ (c.pm.append_right _);rw[b6];exact .append_left _ fE
 .refine bW.mpr {c.so,by simp,λx A y k=>?_};have #[j,rfl,_,T]:=c.rw_ A;rw[bo.mp k];lia
 .have #[m,q,O]:=c.rn e I;exact{m,by rw[cx (bd.mp q).1];exact q,O}
 .have:=c.ly y k;lia
def Ar.same(h:Ar H v C)(k:aJ H H'):Ar H' v C:=let ⟨c,ys,e,hc,pc⟩:=h;{c,ys,e,k _ _ hc,wB k pc}
section
variable {ts:List zD}
def DkA.same(I:DkA t H g d n f X)(s:aJ H H'):DkA t H' g d n f X:={ I with k:=I.k.same s }
def DkA.up(I:DkA t H g d n f X)(F:Fr M0 H H' X.lb lb')(k:Au t H' d X.a lb' n f g CC S')(o:uS n f g CC S')(s:StI f g CC S'):Up1 t g d n f H X CC H' {X.a,lb',CC,S'}:={⟨k,o,s⟩,F.ts,λb o z e=>{F.kp b o (.inl z) e,(F.ex b o e).trans z},Z}
theorem zkn(I:DkA t H g d n f X)(m:Ar H v C)(c:X5 C/\C.length<=48)(k:X.CC.length<8)(q:∀w H' X',Up1 t g d n f H X (X.CC++[C]) H' X'->Q w H'):zy σ H λxs u=>ZM t (.ref d::((v::xs)++[])) u Q E0:=by have:=I.o.len;exact{d,v,X.a,X.lb,n,f,g,X.CC,C,X.S,Z,m,I.k,(),(),λH' lb' F G=>q _ H' _ (I.up F G (I.o.add c k) (I.s.add I.o))}
def zd6(I:DkA t H g d n f X)(k:0<=h)(c:h<n)(q:∀w H' X' e,Up1 t g d n f H X X.CC H' X'->AM H' w (h,e)->Q w H'):vn t [.ref d,.int h] H Q E0:=
 {d,X.a,X.lb,n,f,h,g,X.CC,X.S,Z,I.k,I.o,k,c,λv H' lb' e S' F u m G=>q v H' _ e (I.up F G (Mv.ok I.o m k c) (I.s.mv I.o m)) u}
theorem zc7(I:DkA t H g d n f X)(u:1<=n)(m:n<=8)(q:∀l xs es H' X',Up1 t g d n f H X X.CC H' X'->X'.S.en=X.CC.length->H' l=Y (.lst xs)->X'.lb l=0->Bl (AM H') xs es->(X.S.en=X.CC.length->xs=[])->Q (.ref l) H'):zy σ H λxs A=>xQ t (.ref d::(xs++[])) A Q E0:=
 {d,X.a,X.lb,n,f,g,X.CC,X.S,λes S=>StI f g X.CC S/\(X.S.en=X.CC.length->es=[]/\S.en=X.CC.length),Z,I.k,I.o,u,m,{I.s,λz=>{Z,z}},(λes S h e S' J k O _ w=>{J.1.mv k w,λz=>by have:=(J.2 z).2;lia}),λl xs es H' lb' S' F a _ b c d J k en G=>q l xs es H' _ (I.up F G k J.1) en b a c λz=>by have:=(J.2 z).1;subst this;exact fJ (bG c)}
theorem zko(A:StI f g CC S')(k:uS h f g CC S')(l5:g.length<=5):zcY g S'.ls:=by
 have a:=jL (q:=λy:Int×zD=>y.2.length) (q':=λ_=>48) A.lg;have b:=xE A.nd (b:=jo f 0 CC.length) λx u=>by have #[y,m,rfl]:=bK.mp u;have:=k.ly y m;exact rks_mem.mpr {(y.1-f).toNat,(),cf _,()}
 have c:=k.cc.le;unfold jo at b;rw[bn,bn,oV] at b;rw[List.map_const',List.sum_replicate_nat] at a;unfold zcY;lia
end
section
variable {n:Nat}{x x' y' u w:V}{c:af}
def JQ(i:Nat)(u w:V)(h:([]:LV)[i]?=Y u):Am H n u w:=nomatch h
def vt(h:Am H n x x')(k:∀(i:Nat) u w,xs[i]?=Y u->ys[i]?=Y w->Am H n u w)(i:Nat)(u w:V)(q:(x::xs)[i]?=Y u)(m:(x'::ys)[i]?=Y w):Am H n u w:=by
 cases i with
 |zero=>cases q;cases m;exact h
 |succ i=>exact k i u w q m
def zc8{q:Type}{R I:V->q->Prop}{es:List q}(h1:H a=Y (.lst xs))(h2:H c=Y (.lst ys))(A:Bl R xs es)(z:Bl I ys es)(k:∀u w e,R u e->I w e->Am H n u w):Am H (n+1) (.ref a) (.ref c):=by refine .lst h1 h2 ((bG A).trans (bG z).symm) λi u w O J=>?_;have #[e,T,r]:=Paired.getP A O;have #[e',m,r']:=Paired.getP z J;cases T.symm.trans m;exact k u w e r r'
def XB(I:gV H a ah)(A:gV H c ah):Am H (n+4) (.ref a) (.ref c):=by have #[xs,a1,T]:=I;have #[ys,O,J]:=A;refine zc8 a1 O T J ?_;rintro u w e ⟨r,p,rfl,z,q⟩ ⟨r',p',rfl,m,k⟩;exact .tup z m Z (vt (.tup q k Z (vt (.str _) (vt (.int _) λi u w h _=>JQ i u w h))) (vt (.int _) λi u w h _=>JQ i u w h))
def zll(q:Js H x oc)(m:Js H y oc):Am H (n+3) x y:=by
 cases oc with
 |done sa=>
  have #[o,z,rfl,I,O]:=q;have #[o',T,rfl,A,J]:=m;refine .tup I A Z (vt (.str _) (vt (.tup O J Z λi u w q m=>?_) λi u w h _=>JQ i u w h));rw[bF] at q m;have #[k,e,rfl]:=cr.mp q;rw[e] at m;cases m;exact .int k
 |off s=>
  have #[o,rfl,I]:=q;have #[o',rfl,A]:=m;exact .tup I A Z (vt (.str _) (vt (.str _) λi u w h _=>JQ i u w h))
def zja{es:LRG}{H1 H2:Hp}(h1:H a=Y (.lst xs))(h2:H c=Y (.lst ys))(p1:Bl (PpC H1 H) xs es)(T:Bl (PpC H2 H) ys es):Am H 6 (.ref a) (.ref c):=by refine zc8 h1 h2 p1 T ?_;rintro u w e ⟨r,o,nl,gl,rfl,O,J,I,A,_⟩ ⟨r',o',aa,ac,rfl,z,q,m,k,_⟩;exact .tup O z Z (vt (zll J q) (vt (XB (n:=0) I m) (vt (XB (n:=0) A k) λi u w h _=>JQ i u w h)))
theorem zd7{q m:Type}{R:q->m->Prop}:∀(k:Nat){a:List q}{b:List m},Bl R a b->Bl R (a.take k) (b.take k)
 |0,_,_,_=>.nil
 |_+1,_,_,.nil=>.nil
 |k+1,_,_,.cons h r=>.cons h (zd7 k r)
def zc9(h:k<=xs.length):kB xs L (Y (k:Int))=xs.take k:=by unfold kB;rw[HT.sIx_none,HT.sIx_nat,dq h];exact congrArg _ (dM ..)
end
section
variable {ts:List zD}
def Ah.same(Bp:Ah t H0 H g CA ps ts d dv n f X)(s:aJ H H'):Ah t H0 H' g CA ps ts d dv n f X:={ Bp with dk:=Bp.dk.same s,sm:=λb o e=>let ⟨a,c⟩:=Bp.sm b o e;{s _ _ a,c} }
def Ah.f0(Bp:Ah t H0 H g CA ps ts d dv n f X):0<=f:=Bp.dk.o.f0
def Ah.few(Bp:Ah t H0 H g CA ps ts d dv n f X):zcY g X.S.ls:=zko Bp.dk.s Bp.dk.o Bp.l5
def Ah.at_(Bp:Ah t H0 H g CA ps ts d dv n f X):∃c tl xs ys,H dv=Y (.tup [.ref c,.ref tl])/\H c=Y (.lst xs)/\Bl (PpR H) xs ps/\H tl=Y (.lst ys)/\Bl (LsR H) ys ts:=by have #[c,tl,xs,ys,A,w,u,q,k]:=Bp.du.ex;have s:aJ H0 H:=λb o e=>(Bp.sm b o e).1;exact{c,tl,xs,ys,s _ _ A,s _ _ w,Paired.mapP u λ_ _ z=>z.same s,s _ _ q,Paired.mapP k λ_ _ ⟨l,e,z⟩=>{l,e,z.same s}}
end
section
variable {m:Int}
theorem ziy(s:aJ H00 H)(w:H l5=Y (.lst xs))(h6:H l6=Y (.lst ys))(T:H00 l5=L)(O:H00 l6=L)(J:l5≠l6)(ly:ys.length<=1000)(q:∀H',aJ H00 H'->Q (.bl U) H') :
  qV K t (u9 Q) [Y (.ref d),Y (.int f),Y (.ref dv),Y (.bl tu),Y (.int m),Y (.ref l5),Y (.ref l6),o7] H:=by
 refine{_,Z,.inl {Z,_,aO.of w},l5,xs,Z,Z,w,?_};have z:upd H l5 (.lst []) l6=Y (.lst ys):=by rw[zt (eC J)];exact h6
 have A:aJ H00 (upd H l5 (.lst [])):=xL s T;generalize upd H l5 (.lst [])=H1 at *
 refine{_,Z,.inl {Z,_,aO.of z},(),λp hp=>?_};generalize c1:upd H1 p _=H2;have #[u,_]:=yI c1 hp;refine{(),λI c=>?_};generalize c2:upd H2 I _=H3;have #[k,_]:=yI c2 c;exact{l6,ys,_,Z,Z,k _ _ (u _ _ z),bM ly (),q _ (xL (A.trans (u.trans k)) O)}
end
section
variable {m:Int}{ws:LV}{k:Nat}
def LB(H:Hp)(k:Nat)(b:af):Prop:=∃c,H b=Y (.lst c)/\c.length<=k
theorem LB.up(h:LB H j b)(w:j<=k)(u:ws.length<=k):LB (upd H a (.lst ws)) k b:=by
 have #[q,e,l]:=h;by_cases c:b=a
 .rw[c];exact{ws,zo,u}
 .exact{q,by rw[zt c];exact e,()}
def LB.same(h:LB H k b)(s:aJ H H'):LB H' k b:=let ⟨zs,e,l⟩:=h;{zs,s _ _ e,l}
inductive PpF(H00 H:Hp)(l5:af)(k:Nat)(v:V):Prop
 |mk (r o nl gl:_):v=.ref r->H r=Y (.tup [o,.ref nl,.ref gl])->H00 nl=L->H00 gl=L->nl≠l5->gl≠l5->LB H k nl->LB H k gl->PpF H00 H l5 k v
theorem PpF.up(h:PpF H00 H l5 j v)(O:∃c,H a=Y (.lst c))(u:j<=k)(q:ws.length<=k):PpF H00 (upd H a (.lst ws)) l5 k v:=by have #[r,o,nl,gl,e,T,I,A,z,w,b1,b2]:=h;have #[c,J]:=O;exact{r,o,nl,gl,e,jK J () _ _ T,I,A,z,w,b1.up u q,b2.up u q}
def PpF.same(h:PpF H00 H l5 k v)(s:aJ H H'):PpF H00 H' l5 k v:=let ⟨r,o,nl,gl,e,h1,n1,n2,n3,n4,b1,b2⟩:=h;{r,o,nl,gl,e,s _ _ h1,n1,n2,n3,n4,b1.same s,b2.same s}
theorem ziz(s:aJ H00 H)(O:H l5=Y (.lst xs))(l8:xs.length<=8)(h6:LB H 400 l6)(n5:H00 l5=L)(n6:H00 l6=L)(ne:l5≠l6)(T:∀v∈xs,PpF H00 H l5 400 v)(q:∀H',aJ H00 H'->Q (.bl U) H') :
  qW K t (u9 Q) [Y (.ref d),Y (.int f),Y (.ref dv),Y (.bl tu),Y (.int m),Y (.ref l5),Y (.ref l6),o7] H:=by
 refine{_,Z,l5,Z,{_,aO.of O},xD xs (λi σ H=>(∃o7,σ=[Y (.ref d),Y (.int f),Y (.ref dv),Y (.bl tu),Y (.int m),Y (.ref l5),Y (.ref l6),o7])/\aJ H00 H/\H l5=Y (.lst xs)/\LB H (400+i) l6/\∀v∈xs,PpF H00 H l5 (400+i) v) {{_,Z},s,O,h6,T} (λi σ H' ⟨_,_,z,_⟩=>aO.of z) ?_ ?_}
 .rintro i v σ H1 J ⟨⟨o7,rfl⟩,s,O,h6,T⟩;have li:=(bd.mp J).1;have #[r,o,w,gl,rfl,hr,n1,n2,n3,n4,#[c,hz,lz],b2]:=T v (bA J);refine{_,Z,r,_,1,_,Z,Z,uZ.of hr,Z,.inl {Z,_,aO.of hz},(),λp ag=>?_};generalize c1:upd H1 p _=H2;have #[t1,_]:=yI c1 ag;refine{(),λA ac=>?_};generalize c2:upd H2 A _=H3;have #[t2,_]:=yI c2 ac;have u:=t1.trans t2;refine{w,c,_,Z,Z,u _ _ hz,bM (show c.length<=1000 by lia) (),?_};have e5:upd H3 w (.lst (c++[.ref A])) l5=Y (.lst xs):=by rw[zt (eC n3)];exact u _ _ O
  have lw:(c++[V.ref A]).length<=400+(i+1):=by rw[bh];show c.length+1<=_;lia
  have e6:=(h6.same u).up (a:=w) (by lia:400+i<=400+(i+1)) lw;have ep:∀v∈xs,PpF H00 (upd H3 w (.lst (c++[.ref A]))) l5 (400+(i+1)) v:=λv J=>((T v J).same u).up {_,u _ _ hz} () lw;have er:upd H3 w (.lst (c++[.ref A])) r=Y (.tup [o,.ref w,.ref gl]):=jK (u _ _ hz) () _ _ (u _ _ hr);have s4:aJ H00 (upd H3 w (.lst (c++[.ref A]))):=xL (s.trans u) n1;have #[aa,I,ai]:=(b2.same u).up (a:=w) (by lia:400+i<=400+(i+1)) lw;generalize upd H3 w (.lst (c++[.ref A]))=H4 at *
  exact{_,Z,r,_,2,_,Z,Z,uZ.of er,Z,.inl {Z,_,aO.of I},gl,aa,Z,Z,I,{_,Z},xL s4 n2,by rw[zt (eC n4)];exact e5,e6.up (bq _) (cf _),λv J=>(ep v J).up {_,I} (bq _) (cf _)}
 .rintro σ H1 ⟨⟨o7,rfl⟩,s,O,⟨ys,h6,l6⟩,T⟩;exact ziy (t:=t) s O h6 n5 n6 ne () q
end
section
variable {ts:List zD}
theorem Ah.tab(Bp:Ah t H0 H g CA ps ts d dv n f X):X.S.en<=CA.length/\X.S.en<=8/\∃k tl c ys,H dv=Y (.tup [.ref k,.ref tl])/\H k=Y (.lst c)/\Bl (PpR H) c ps/\H tl=Y (.lst ys)/\ys.length=CA.length+1/\∃out l,ts[X.S.en]?=Y out/\Ay ys (X.S.en:Int)=Y (.ref l)/\gV H l out:=by
 have el:=Bp.dk.o.el;have l8:=Bp.dk.o.cc.le;have #[k,tl,c,ys,J,I,A,z,u]:=Bp.at_;have T:=Bp.dd.lt;have O:=bG u;have lc:X.CC.length<=CA.length:=by have #[m,e,hm]:=Bp.cc;rw[e,bX];lia
 have q:X.S.en<ys.length:=by lia
 have #[out,w,l,e,hl]:=Paired.getP u (ba q);refine{(),(),k,tl,c,ys,J,I,A,z,(),out,l,w,?_,hl};rw[<-e];exact xS (ba q)
end
section
variable {ts:List zD}
theorem zkp(c:zbN (λp=>yg g ls p r) ah)(u:zcY g ls):ah.length<=400:=by
 have h:=xE c.1.nd (b:=g.map (·.1)++ls.flatMap λy=>y.2.map (·.1)) λp m=>by
  have #[#[p,w],q,rfl]:=bK.mp m;have #[a,b]:=(c.2 p w).mp q;have a:(wc p r ls (-1,(zE g p).getD 0)).2=w:=a;obtain ⟨e,_⟩|⟨y,hy,w',e,_⟩:=xH p r ls (-1,(zE g p).getD 0)
  .rw[e] at a;refine cz _ ?_;cases k:zE g p with
   |none=>rw[k] at a;exact absurd a.symm b
   |some z=>exact bK.mpr {(p,z),v7 k,Z}
  .exact bQ _ (pW.mpr {y,hy,bK.mpr {(p,w'),v7 e,Z}})
 rw[bh,bn,bn,sT] at h;unfold zcY at u;have:(ls.map λy=>(y.2.map (·.1)).length)=ls.map λy=>y.2.length:=dR λy _=>bn ..;rw[this] at h;lia
theorem Due.few(D:Due CA g ps ts)(q:X8 CA)(h:e∈ps):e.1.no.length<=48/\e.2.length<=48:=by have #[k,c]:=cE h;have u:=(bd.mp c).1;have lp:=D.lp;have lt:=D.lt;have m:CA[k]?=Y CA[k]:=ba ();have #[F,G,_]:=D.st k _ _ _ _ m (ba ()) c (ba ());have:=(q.ok _ (bA m)).2;have:=F.fw;have:=JC G;lia
theorem PpC.fr(h:PpC H1 H v e)(h5:H l5=Y (.lst xs))(hv:v∈xs)(n:e.1.no.length<=48/\e.2.length<=48):PpF H1 H l5 400 v:=by
 have #[r,o,nl,gl,rfl,w,_,J,I,n1,n2]:=h;have u:∀ {b ah},gV H b ah->b≠l5:=λ⟨ys,c,m⟩ z=>by rw[z,h5] at c;cases c;have #[k,hk]:=cE hv;have #[T,_,q,p,e,A,_]:=Paired.getP m hk;cases e;rw[w] at A;cases A
 have #[ys,c,m]:=id J;have #[O,hz,pz]:=id I;have:=bG m;have:=bG pz;exact{r,o,nl,gl,Z,w,n1,n2,u J,u I,{ys,c,()},O,hz,()}
end
section
variable {m:Int}{ts:List zD}
theorem ziA(Bp:Ah t H0 H g CA ps ts d dv n f X)(cA:X8 CA)(s:aJ H1 H)(I:H l5=Y (.lst xs))(A:Bl (PpC H1 H) xs X.S.es)(h6:gV H l6 ah)(J:zbN (λp=>yg g X.S.ls p (f+X.S.en)) ah)(n5:H1 l5=L)(n6:H1 l6=L)(ne:l5≠l6)(q:∀H',aJ H1 H'->Q (.bl U) H') :
  qX K t (u9 Q) [Y (.ref d),Y (.int f),Y (.ref dv),Y (.bl tu),Y (.int X.S.en),Y (.ref l5),Y (.ref l6),o7] H:=by
 have #[le,l8,pl,tl,zs,ys,h1,h2,h3,h4,ly,aa,l,ho,ea,hl]:=Bp.tab;have es:=zc6 Bp.dd Bp.f0 Bp.cc Bp.dk.o.el Bp.dk.s;have er:=JP Bp.dd Bp.f0 Bp.cc Bp.dk.o.el Bp.dk.s Bp.tg J;rw[ho] at er;cases er;have lp:=Bp.dd.lp;have lz:=bG h3;refine{_,Z,_,Z,dv,_,0,_,Z,Z,uZ.of h1,Z,_,Z,_,Z,pl,zs,Z,aO.of h2,λb hb=>?_};rw[zc9 ()];generalize c_:upd H b _=H2;have #[w,eb]:=yI c_ hb;have O:=zd7 X.S.en h3;rw[<-es] at O;refine{_,_,Z,zja (w _ _ I) eb (Paired.mapP A λ_ _ z=>z.same w) (Paired.mapP O λ_ _ z=>z.same w),λH3 s3=>{_,Z,yj Z ?_}};have u:=w.trans s3;refine{_,Z,_,Z,dv,_,1,_,Z,Z,uZ.of (u _ _ h1),Z,_,Z,tl,ys,_,_,Z,Z,aO.of (u _ _ h4),ea,_,_,Z,XB (n:=2) (h6.same u) (hl.same u),λH4 s4=>{_,Z,yj Z ?_}};have c:=u.trans s4;have lx:=bG A;have lq:=Bp.dk.s.le;refine ziz (t:=t) (s.trans c) (c _ _ I) () ?_ n5 n6 ne (λv T=>?_) q
 .have:=zkp J Bp.few;have #[ws,hw,pw]:=h6;have:=bG pw;exact{ws,c _ _ hw,()}
 .have #[k,hk]:=cE T;have #[e,he,z]:=Paired.getP A hk;exact(z.same c).fr (c _ _ I) T (Bp.dd.few cA (by have:=bA he;rw[es] at this;exact cH this))
end
section
variable {m:Int}{ts:List zD}
def zd8(Bp:Ah t H0 H g CA ps ts d dv n f X)(cA:X8 CA)(q:∀H',aJ H H'->Q (.bl U) H') :
  qY K t (u9 Q) [Y (.ref d),Y (.int f),Y (.ref dv),Y (.bl tu),Y (.int X.S.en),o5,o6,o7] H:=by refine x8 Bp.dk.k.cmp.1 Z Z {d,X.a,X.lb,n,f,g,X.CC,X.S,Z,Bp.dk.k,Bp.tab.2.1,λl5 xs H2 u O w J=>?_};have c:=Bp.same u;refine x8 c.dk.k.cmp.1 Z Z {d,X.a,X.lb,n,f,g,X.CC,X.S,Z,c.dk.k,Bp.f0,Bp.few,λl6 ah H3 k A T I=>?_};exact ziA (c.same k) cA (u.trans k) (k _ _ w) (Paired.mapP J λ_ _ z=>z.same k) T I O (zK u A) (λz=>by rw[z,A] at w;cases w) q
def ziB(Bp:Ah t H0 H g CA ps ts d dv n f X)(w:X8 CA)(q:∀H',aJ H H'->Q (.bl U) H') :
  qZ K t (u9 Q) [Y (.ref d),Y (.int f),Y (.ref dv),Y (.bl tu),Y (.int X.S.en),o5,o6,o7] H:=by
 refine{_,Z,_,Z,?_};cases tu with
 |false=>exact yj Z (yj Z (zd8 Bp w q))
 |true=>
  have #[le,l8,pl,tl,zs,ys,T,h2,h3,O,ly,A,l,I,ea,hl]:=Bp.tab;refine yE Z (x8 Bp.dk.k.cmp.1 Z Z {d,X.a,X.lb,n,f,g,X.CC,X.S,Z,Bp.dk.k,Bp.f0,Bp.few,λl6 ah H3 c n6 J z=>?_});have u:=JP Bp.dd Bp.f0 Bp.cc Bp.dk.o.el Bp.dk.s Bp.tg z;rw[I] at u;cases u;exact{_,Z,dv,_,1,_,Z,Z,uZ.of (c _ _ T),Z,_,Z,tl,ys,_,_,Z,Z,aO.of (c _ _ O),ea,_,_,Z,XB (n:=2) J (hl.same c),λH4 k=>{_,Z,yj Z (zd8 (Bp.same (c.trans k)) w λH' s=>q H' ((c.trans k).trans s))}}
theorem ziC(Bp:Ah t H0 H g CA ps ts d dv n f X)(w:X8 CA)(em:m=X.S.en)(q:∀H',aJ H H'->Q (.bl U) H') :
  q8 K t (u9 Q) [Y (.ref d),Y (.int f),Y (.ref dv),Y (.bl tu),Y (.int m),o5,o6,o7] H:=by subst em;have #[J,O,A,tl,z,ys,u,h2,h3,k,I,c,l,T,ea,hl]:=Bp.tab;refine{_,Z,_,_,Z,Z,_,Z,yE (Bj ()) {_,Z,dv,_,1,_,Z,Z,uZ.of u,Z,.ref tl,ys.length,Z,.inl {_,aO.of k,Z},_,_,Z,Z,_,Z,?_}};exact yj (by rw[Bj (show (X.S.en:Int)<(ys.length:Int) by lia)];rfl) (ziB Bp w q)
theorem JR{vs:LV}{_E:XK}(h:xZ t vs H Q _E) :
  Yt K t (u9 Q) (zZZ 8 vs) H:=by have #[d,dv,n,f,tu,g,CA,ps,ts,X,H0,rfl,Bp,q]:=h;have #[c,_,en,_,k,_,u]:=Bp.dk.k.cmp;exact x8 c Z Z {d,_,X.a,n,f,en,Z,c,k,_,Z,_,_,Z,Z,ziC Bp Bp.cA () q}
end
section
variable {tab out:zD}{ts:List zD}
def zkq(k:∀r∈ah,u3 r.2=U)(m:∀r∈gi,u3 r.2=U)(c:wD (ah++gi) out):∀r∈out,u3 r.2=U:=λr h=>by
 obtain z|z:=bp.mp (v7 ((c.2 r.1 r.2).mp h).1)
 .exact k _ z
 .exact m _ z
def Due.nil:Due [] tab [] [tab]:={Z,Z,Z,nofun}
theorem Due.snoc(D:Due CC tab ps ts)(J:ts[CC.length]?=Y ah)(F:zjZ C ah s)(G:k9 s gi)(I:wD (ah++gi) out):Due (CC++[C]) tab (ps++[(s,gi)]) (ts++[out]):=by
 have lp:=D.lp;have lt:=D.lt;refine{by rw[bh,bh,lp];rfl,by rw[bh,bh,lt];rfl,by rw[cx ()];exact D.t0,λk O z e A m w u q=>?_};obtain c|c:=mO k CC.length
 .rw[cx c] at m;rw[cx ()] at w u q;exact D.st k _ _ _ _ m w u q
 .have:k<(CC++[C]).length:=(bd.mp m).1;rw[bh,cP] at this;obtain rfl:k=CC.length:=by lia
  rw[cp (bq _),gK] at m;rw[cx (),J] at w;rw[cp (),show CC.length-ps.length=0 by lia] at u;rw[cp (),show CC.length+1-ts.length=0 by lia] at q;cases m;cases w;cases u;cases q;exact{F,G,I}
end
theorem zas:∀a:aY,a.deep=0->ZJ a<=a.cnt
 |.nil,_=>by rw[ZJ];exact cf _
 |.cons r rs,h=>by
  rw[aY.deep] at h;have i:=zas rs ();rw[ZJ,aY.cnt];have:szR r<=r.cnt:=by
   cases r with
   |iff e a b=>rw[Rw.deep] at h;lia
   |_=>simp[szR,Rw.cnt]
  lia
theorem zjb:∀rs:List Rw,(aY.of rs).deep<=1->ZJ (aY.of rs)<=(rs.map szX).sum
 |[],_=>by show ZJ .nil<=_;rw[ZJ];exact cf _
 |r::rs,h=>by
  have h:(aY.cons r (aY.of rs)).deep<=1:=h;rw[aY.deep] at h;have i:=zjb rs ();show ZJ (.cons r (aY.of rs))<=_;rw[ZJ,bB,c9];have:szR r<=szX r:=by
   cases r with
   |iff e a b=>
    rw[Rw.deep] at h;have k:=zas a ();have c:=zas b ();rw[szR];show _<=a.cnt+b.cnt+3;lia
   |_=>simp[szR,szX]
  lia
theorem zkr(h:zh7 rs):Jq 6 (aY.of rs)/\(yn (aY.of rs) 0).length<=11/\X5 (yn (aY.of rs) 0):=by have z:=Xx (aY.of rs) 0;have s:=zjb rs h.dp;have:(rs.map szX).sum<=11:=h.sz;have:=h.dp;have R:Jq 6 (aY.of rs):={(),(),h.pl};exact{R,(),zlf R h.ok ()}
theorem zlm(ns:ym):∃ys:ym,kB (ns.map V.int) (Y (3:Int)) (Y (8:Int))=ys.map V.int/\ys.length<=5:=by
 have k:HT.sIx ns.length 0 (Y (3:Int))=min 3 ns.length:=HT.sIx_nat ..;have c:HT.sIx ns.length ns.length (Y (8:Int))=min 8 ns.length:=HT.sIx_nat ..;refine{(ns.drop (min 3 ns.length)).take (min 8 ns.length-min 3 ns.length),?_,?_}
 .unfold kB;rw[bn,k,c,lH,lI]
 .rw[bX,cq];lia
section
variable {s:af}{ms:ym}
def AA(l:af)(H:Hp)(vs:LV)(CC:vy):Prop:=Bl (Ar (hdD l H)) vs CC/\∀C∈CC,X5 C/\C.length<=48
def AA.to(h:AA l H vs CC)(s:∀b o,b≠l->H b=Y o->H' b=Y o):AA l H' vs CC:={Paired.mapP h.1 λ_ _ z=>z.same λb o e=>jM (vq e).1 (s _ _ (vq e).1 (vq e).2),h.2}
def AA.snoc(h:AA l H vs CC)(k:Ar (hdD l H) v C)(c:X5 C/\C.length<=48):AA l H (vs++[v]) (CC++[C]):={Paired.snocP h.1 k,λm z=>by
 obtain z|z:=bp.mp z
 .exact h.2 m z
 .rw[bo.mp z];exact c}
theorem zks{u:TE}{x:Option V}(q:∀R:VK,(∀m,R (.int m) H)->u [x,Y (.ref a),Y (.ref b)] H R)(h1:aT H a us)(h2:us.length=2)(h3:aT H b ws)(h4:ws.length=2)(k:∀l xs C H',aJ H H'->H l=L->H' l=Y (.lst xs)->Bl (Ac H') xs C->(X5 C/\C.length<=48)->Q (.ref l) H') :
  zV vG [] E0 (zj (zV xU [] E0 (zj u (zj (zk 1) (zj (zk 2) zy)))) zy) [x,Y (.ref a),Y (.ref b)] H Q:=
 q _ λm=>{_,Z,_,Z,m,a,b,us,ws,Z,h1,h2,h3,h4,λl rs H4 z J I=>by have #[R,c,O]:=zkr I;exact{.ref l,aY.of rs,Z,J.any,R,bI c (),λl2 xs H5 A w hx T=>k l2 xs _ H5 (z.trans A) (zK z w) hx T {O,bI c ()}}}
theorem zd9{w:TE}{wi:TI}(hw:∀R:It->Hp->Prop,(∀p H1,aJ H H1->H1 p=Y (.lst (ms.map V.int))->R (Itl K p) H1)->wi (o0::Y (.ref a)::Y (.ref b)::σ) H R)(lm:ms.length<=8)(h1:aT H a us)(h2:us.length=2)(h3:aT H b ws)(h4:ws.length=2)(k:∀n∈ms,∀(H:Hp)(R:VK),(∀m,R (.int m) H)->w [Y (.int n),Y (.ref a),Y (.ref b)] H R)(q:∀l vs CC H',aJ H H'->H l=L->H' l=Y (.lst vs)->AA l H' vs CC->CC.length=ms.length->Q (.ref l) H') :
  kR wi (zM 0) J2 (zV vG [] E0 (zj (zV xU [] E0 (zj w (zj (zk 1) (zj (zk 2) zy)))) zy)) 1 [1,2] (o0::Y (.ref a)::Y (.ref b)::σ) H Q:=by
 refine hw _ λp H1 A hp D hD=>?_;have aa:(ms.map V.int).length=ms.length:=bn ..;refine qe (J:=Itl K p) ms.length () (λτ=>∃o,τ=[o,Y (.ref a),Y (.ref b)]) (λi ys H2=>∃CC,AA D H2 ys CC/\CC.length=i) (λi ys H2 H3 s ⟨CC,z,e⟩=>{CC,z.to s.2,e}) {_,Z} {[],{.nil,nofun},Z} (λi H s h=>{_,_,aO.of (s _ _ hp),ba ()}) (λH s=>{_,aO.of (s _ _ hp),()}) hD ?_ ?_
 .rintro i v τ ys H4 H5 ⟨o,rfl⟩ c hi ⟨CC,T,lc⟩ u ⟨rfl,I⟩;have I:=I _ (aO.of (c _ _ hp));rw[bF] at I;have #[n,hn,rfl]:=cr.mp I;refine yE (R:=False) Z (zks (k n (bA hn) _) (h1.same (A.trans c)) h2 (h3.same (A.trans c)) h4 λl xs C H5 O hl hx px ok=>{{_,Z},{CC++[C],(T.to λb o _ e=>O _ _ e).snoc {l,xs,Z,jM (zB u hl).symm hx,?_} ok,by rw[bh,lc];rfl},O});exact vJ (λb us e=>jM (λz=>by rw[z,O _ _ u] at e;cases e) e) px
 .exact λys H4 hl ⟨CC,T,lc⟩ c hq=>q D ys CC H4 (A.trans c) (zK A hD) hq T lc
end
theorem Qz{vs:LV}:∀ {rs:List Rw},Bl (bv J5 H) vs rs->(∀r∈rs,rwW r)->Bl (Ac H) vs (rs.map Cs.row)
 |_,.nil,_=>.nil
 |_,.cons a t,h=>.cons {a,(h _ bw).nf} (Qz t λr z=>h r (bt _ z))
def zkt(h:∀r∈rs,rwW r)(l:rs.length=40):X5 (rs.map Cs.row):=by
 have no:∀(i:Nat)(c:Cs),(rs.map Cs.row)[i]?=Y c->∃r,c=.row r:=λi c e=>by rw[bF] at e;have #[r,_,z]:=cr.mp e;exact{r,z.symm}
 refine{λc z=>?_,λc z=>?_,λi m e z=>?_,λi m z=>?_,by rw[bn,l];decide}
 .have #[r,k,rfl]:=bK.mp z;exact(h r k).ok
 .have #[r,k,rfl]:=bK.mp z;exact(h r k).pl
 .have #[r,e]:=no _ _ z;cases e
 .have #[r,e]:=no _ _ z;cases e
section
variable {s:af}{k:Int}
theorem JS(O:aJ H0 H)(nl:H0 l=L)(hS:aO K H s (ns.map V.int))(hn:ns.length<=63)(hb:∀i∈ns,Cb i)(h1:aT H a us)(h2:us.length=2)(h3:aT H b ws)(h4:ws.length=2)(hl:H l=Y (.lst vs))(m:AA l H vs CC)(A:CC.length<=8)(l5:k=5->CC.length<=7)(q:∀vs CC H',aJ H0 H'->H' l=Y (.lst vs)->Bl (Ar H') vs CC->X8 CC->Q (.ref l) H') :
  qS K t (u9 Q) [Y (.ref s),Y (.ref a),Y (.ref b),Y (.ref l),Y (.int k),o5] H:=by
 have fin:∀ {vs CC H},aJ H0 H->H l=Y (.lst vs)->AA l H vs CC->CC.length<=8->Q (.ref l) H:=λ{vs CC H} s hl m A=>q vs CC H s hl (Paired.mapP m.1 λ_ _ z=>z.same λb o e=>(vq e).2) {m.2,A};refine{_,Z,Z,_,Z,?_};by_cases c:k=5
 .refine yE (Bj (congrArg V.int c)) {_,Z,s,ns,3,Z,hS,hn,hb,λc1 H1 s1 _ _=>{_,_,Z,Z,_,120,Z,(),λX ds H2 s2 fX hX ld od=>?_}};have u:=s1.trans s2;refine{_,Z,.inl {Z,_,aO.of (u _ _ hl)},zdW (n:=40) (λR h=>{_,Z,(),(),h}) hX () () od (h1.same u) h2 (h3.same u) h4 Z λD ys H3 s3 fD hD ⟨rs,pr,J,T⟩=>?_};have I:=u.trans s3;have nD:=zB (u _ _ hl) fD;have lv:=bG m.1;refine{l,vs,_,Z,Z,I _ _ hl,bM (show vs.length<=8 by lia) (),?_};have w:=(m.to λb o _ e=>I _ _ e).snoc (v:=.ref D) {D,ys,Z,jM nD.symm hD,Qz (Paired.mapP pr λ_ r z=>z.to r (λ_ _ _ _=>trivial) λb o f e=>jM (λz=>by rw[z,u _ _ hl] at f;cases f.1) e) J} {zkt J T,by rw[bn,T];decide};exact{_,Z,fin (xL (O.trans I) nl) zo (w.to λb o n e=>by rw[zt n];exact e) (by rw[bh];have:=l5 c;show CC.length+1<=8;lia)}
 .exact yj (Bk λz=>c (V.int.inj z)) {_,Z,fin O hl m A}
theorem zda(T:aJ H0 H)(nl:H0 l=L)(hS:aO K H s (ns.map V.int))(w:ns.length<=63)(hb:∀i∈ns,Cb i)(h1:aT H a us)(h2:us.length=2)(h3:aT H b ws)(h4:ws.length=2)(hl:H l=Y (.lst vs))(A:AA l H vs CC)(l5:CC.length<=5)(q:∀l vs CC H',aJ H0 H'->H' l=Y (.lst vs)->Bl (Ar H') vs CC->X8 CC->Q (.ref l) H') :
  qT K t (u9 Q) [Y (.ref s),Y (.ref a),Y (.ref b),Y (.ref l),Y (.int k),o5] H:=by
 refine{_,Z,Z,_,Z,?_};by_cases c:k=3
 .refine yE (Bj (congrArg V.int c)) {_,Z,s,ns,3,Z,hS,w,hb,λc1 H1 s1 _ _=>{_,_,Z,Z,_,3,Z,(),λX ds H2 s2 fX hX ld od=>?_}};have O:=s1.trans s2;refine{_,Z,zd9 (λR h=>{_,Z,X,Z,{_,aO.of hX},h X _ (aJ.refl _) hX}) () (h1.same O) h2 (h3.same O) h4 (λn w H R q=>{_,Z,_,_,Z,Z,mB () () (by have:=od n w;unfold okD at this;lia) (by have:=od n w;unfold okD at this;lia),_,Z,_,_,Z,Z,(by lia:(0:Int)<4),_,_,Z,Z,q _}) λD ys C2 H3 s3 fD hD m lc=>?_};have J:=O.trans s3;have nD:=zB (O _ _ hl) fD;have lv:=bG A.1;have lw:=bG m.1;refine{l,D,vs,ys,Z,Z,J _ _ hl,hD,cS (bM (show vs.length+ys.length<=8 by lia) ()),λp u=>?_};have I:=J.trans (u5 (o:=HO.lst (vs++ys)) p u);exact JS (k:=k) (o5:=Y (.ref X)) (T.trans I) (zK (T.trans J) u) (hS.mono I) w hb (h1.same I) h2 (h3.same I) h4 zo {Paired.app2 (Paired.mapP A.1 λ_ _ z=>z.same λb o e=>by have e:=J _ _ (vq e).2;exact jM (zB e u) (by rw[zt (zB e u)];exact e)) (Paired.mapP m.1 λ_ _ z=>z.same λb o e=>by have e:=(vq e).2;exact jM (zB e u) (by rw[zt (zB e u)];exact e)),λC z=>(bp.mp z).elim (A.2 C) (m.2 C)} (by rw[bh];lia) (λz=>by lia) (q p)
 .exact yj (Bk λz=>c (V.int.inj z)) (JS T nl hS w hb h1 h2 h3 h4 hl A () (λ_=>by lia) (q l))
theorem JT{vs:LV}{_E:XK}(h:vQ K vs H Q _E) :
  kI K t (u9 Q) (zZZ 6 vs) H:=by
 have #[s,a,b,ns,us,ws,rfl,u,w,z,O,J,I,A,q]:=h;have #[ms,em,lm]:=zlm ns;unfold kI zL yF zM;refine zd9 (K:=K) (ms:=ms) (σ:=[L,L,L]) (o0:=Y (.ref s)) (λR h=>{_,Z,3,Z,8,Z,s,_,Z,u,λp hp=>?_}) () O J I A (λn _ H R q=>{_,Z,q _}) λl vs CC H2 T fl hl pc lc=>?_
 .rw[em];exact{p,Z,{_,aO.of zo},h p _ (u5 p hp) zo}
 refine{_,Z,s,ns,2,Z,u.mono T,w,z,λc1 H3 m _ _=>{_,_,Z,Z,dB,_,_,Z,Z,(by lia:(0:Int)<8),?_}};have c:=T.trans m;exact zda c fl (u.mono c) w z (O.same c) J (I.same c) A (m _ _ hl) (pc.to λb o _ e=>m _ _ e) () q
end
section
variable {P T:af}{tab:zD}
def AO(P T:af)(H:Hp):Hp:=hdD P (hdD T H)
def zat(n:b≠P)(m:b≠T)(e:H b=Y o):AO P T H b=Y o:=jM n (jM m e)
def Vr(e:AO P T H b=Y o):b≠P/\b≠T/\H b=Y o:=let ⟨n,e⟩:=vq e;{n,vq e}
def LsR.same(h:LsR H v ah)(s:aJ H H'):LsR H' v ah:=let ⟨l,e,z⟩:=h;{l,e,z.same s}
structure DuI(H0:Hp)(P T:af)(CC:vy)(tab:zD)(i:Nat)(H:Hp):Prop where
 s:aJ H0 H
 ex:∃xs zs v ps us ah,H P=Y (.lst xs)/\H T=Y (.lst (zs++[v]))/\Bl (PpR (AO P T H)) xs ps/\Bl (LsR (AO P T H)) zs us/\LsR (AO P T H) v ah/\Due (CC.take i) tab ps (us++[ah])/\ah.length<=5+48*i/\∀r∈ah,u3 r.2=U
theorem zhi{cl tl:af}{vs:LV}{o4 o5:Option V}(hc:H0 cl=Y (.lst vs))(pc:Bl (Ar H0) vs CC)(cc:X8 CC)(nP:H0 P=L)(nT:H0 T=L)(ne:P≠T)(I:DuI H0 P T CC tab 0 H)(q:∀dv ps ts H',aJ H0 H'->zgO H' dv ps ts->Due CC tab ps ts->Q (.ref dv) H') :
  Ko K t (u9 Q) [Y (.ref cl),Y (.ref tl),Y (.ref P),Y (.ref T),o4,o5] H:=by
 have lv:=bG pc;have l8:=cc.le;refine{_,Z,cl,Z,{_,aO.of (I.s _ _ hc)},xD vs (λi σ H=>(∃o4 o5,σ=[Y (.ref cl),Y (.ref tl),Y (.ref P),Y (.ref T),o4,o5])/\DuI H0 P T CC tab i H) {{_,_,Z},I} (λi σ H h=>aO.of (h.2.s _ _ hc)) ?_ ?_}
 .rintro i v σ H1 hi ⟨⟨o4,o5,rfl⟩,s,xs,u,w,ps,us,ah,hP,hT,pp,pz,⟨c,rfl,hw⟩,D,lr,ir⟩;have #[C,hC,co]:=Paired.getP pc hi;have #[l,ys,rfl,hl,py]:=co.same s;have #[O,a3]:=cc.ok C (bA hC);have li:=(bd.mp hi).1;have lx:=bG pp;have lz:=bG pz;have lp:=D.lp;have lt:=D.lt;have ai:(CC.take i).length=i:=by rw[bX];lia
  rw[bh,cP,ai] at lt;rw[ai] at lp;have an:gV H1 c ah:=hw.same λb o e=>(Vr e).2.2;refine{_,Z,_,Z,_,Z,T,_,-1,_,Z,Z,aO.of hT,atI_last,l,c,ys,C,ah,Z,hl,py,O,an,(),ir,λr s' H2 A F P2=>?_};have #[o,nl,gl,gi,r1,r2,r3,r4,r5,n1,n2]:=P2;have ac:=A _ _ hP;have ar:=A _ _ hT;refine{_,Z,.inl {Z,_,aO.of ac},_,Z,P,xs,_,Z,Z,ac,bM (show xs.length<=8 by lia) (),?_};have ag:AQ H2 (upd H2 P (.lst (xs++[.ref r]))):=jK ac nofun
  have k3:∀b o,b≠P->H2 b=Y o->upd H2 P (.lst (xs++[.ref r])) b=Y o:=λb o n e=>by rw[zt n];exact e
  have al:upd H2 P (.lst (xs++[.ref r])) P=Y (.lst (xs++[.ref r])):=zo;have gP:gl≠P:=y8 hP n2;have gT:gl≠T:=y8 hT n2;have tP:c≠P:=λz=>by have #[_,e,_]:=hw;exact(Vr e).1 z
  generalize upd H2 P (.lst (xs++[.ref r]))=H3 at *
  have aa:=k3 _ _ ne.symm ar;have #[m,_,I]:=F.ri;have hg:=zg0 I r5;have lg:=JC r5;have fw:=F.fw;have aP:gV H3 c ah:=Yv (an.same A) (λo e=>k3 _ _ tP e) ag;have aS:gV H3 gl gi:=Yv r4 (λo e=>k3 _ _ gP e) ag;have a2:(ah++gi).length<=5+48*(i+1):=by rw[bh];lia
  have ld:=wO (ah++gi);refine{_,Z,.inl {Z,_,aO.of aa},_,Z,_,Z,T,_,-1,_,Z,Z,aO.of aa,atI_last,_,Z,r,_,2,_,Z,Z,uZ.of (ag _ _ r1),Z,c,gl,ah,gi,Z,aP,aS,(),(),λJ az H4 s4 fl ho it=>?_};have aj:=s4 _ _ aa;refine{T,_,_,Z,Z,aj,bM (show (u++[V.ref c]).length<=9 by rw[bh];show u.length+1<=9;lia) (),{_,_,Z},?_};have k5:∀b o,b≠P->b≠T->H2 b=Y o->AO P T (upd H4 T (.lst (u++[.ref c]++[.ref J]))) b=Y o:=λb o n m e=>zat n m (by rw[zt m];exact s4 _ _ (k3 _ _ n e));have S5:aJ (AO P T H1) (AO P T (upd H4 T (.lst (u++[.ref c]++[.ref J])))):=λb o e=>let ⟨n,m,e⟩:=Vr e;k5 b o n m (A _ _ e)
  have T5:AQ H2 (AO P T (upd H4 T (.lst (u++[.ref c]++[.ref J])))):=λb us e=>k5 b _ (zQ e ac nofun) (zQ e ar nofun) e;have S6:aJ H0 (upd H4 T (.lst (u++[.ref c]++[.ref J]))):=λb o e=>by rw[zt (zB e nT)];exact s4 _ _ (k3 _ _ (zB e nP) (A _ _ (s _ _ e)))
  have a1:upd H4 T (.lst (u++[.ref c]++[.ref J])) P=Y (.lst (xs++[.ref r])):=by rw[zt ne];exact s4 _ _ al
  have T4:AQ H4 (AO P T (upd H4 T (.lst (u++[.ref c]++[.ref J])))):=λb us e=>zat (zQ e (s4 _ _ al) nofun) (zQ e aj nofun) (by rw[zt (zQ e aj nofun)];exact e);have k4:∀o,H4 J=Y o->AO P T (upd H4 T (.lst (u++[.ref c]++[.ref J]))) J=Y o:=λo e=>by have a:=y8 al fl;have b:=y8 aa fl;exact zat a b (by rw[zt b];exact e)
  refine{S6,xs++[.ref r],u++[.ref c],.ref J,ps++[(s',gi)],us++[ah],az,a1,zo,Paired.snocP (Paired.mapP pp λ_ _ z=>PpC.same z S5) {r,o,nl,gl,Z,T5 _ _ r1,zgY r2 T5,Yv r3 (λo e=>k5 _ _ (y8 hP n1) (y8 hT n1) e) T5,Yv r4 (λo e=>k5 _ _ gP gT e) T5,Z,Z},Paired.snocP (Paired.mapP pz λ_ _ z=>z.same S5) {c,Z,hw.same S5},{J,Z,Yv ho k4 T4},?_,by have:=zeT it;lia,zkq ir hg it};have:=D.snoc (ah:=ah) (C:=C) (by rw[ai,cp (),show i-us.length=0 by lia];rfl) F r5 it;rw[show CC.take (i+1)=CC.take i++[C] by rw[cI,hC];rfl];exact this
 .rintro σ H1 ⟨⟨o4,o5,rfl⟩,s,xs,u,w,ps,us,ah,hP,hT,pp,pz,hw,D,_⟩;rw[b9 ()] at D;have b:∀ {H'},aJ H1 H'->aJ (AO P T H1) H':=λk b o e=>k _ _ (Vr e).2.2;refine{_,Z,_,Z,(),λp hp=>?_};have A:=u5 (o:=HO.tup [.ref P,.ref T]) p hp;exact q p ps _ _ (s.trans A) {P,T,xs,u++[w],zo,A _ _ hP,Paired.mapP pp λ_ _ z=>PpC.same z (b A),A _ _ hT,Paired.snocP (Paired.mapP pz λ_ _ z=>z.same (b A)) (hw.same (b A))} D
end
section
variable {c:af}{ts:List zD}
def zku{c:Cs}(h:Ac H v c):∃r,v=.ref r:=by
 cases c with
 |row r=>have #[p,_,_,e,_]:=zdM h.1;exact{p,e}
 |skip e to=>have #[p,_,e,_]:=h;exact{p,e}
 |go en=>have #[p,e,_]:=h;exact{p,e}
theorem Vs{q:Type}{R:V->q->Prop}(k:∀v a,R v a->∃r,v=.ref r):∀ {xs:LV}{u:List q},Bl R xs u->∀v∈xs,∃r,v=.ref r
 |_,_,.cons h t,v,m=>by
  obtain rfl|m:=bC.mp m
  .exact k _ _ h
  .exact Vs k t v m
def Ah.up(Bp:Ah t H0 H g CA ps ts d dv n f X)(q:Up1 t g d n f H X CC H' X')(k:∃m,CC=CA.take m/\m<=CA.length):Ah t H0 H' g CA ps ts d dv n f X':={ Bp with dk:=q.k,cc:=by rw[q.cc];exact k,sm:=λb o e=>let ⟨a,z⟩:=Bp.sm b o e;q.kp b o z a }
def Ah.put(Bp:Ah t H0 H g CA ps ts d dv n f X)(hl:H l=Y (.lst xs))(z:X.lb l=0)(q:H0 l=L):Ah t H0 (upd H l (.lst ys)) g CA ps ts d dv n f X:={ Bp with dk:={ Bp.dk with k:=Bp.dk.k.put hl z },sm:=λb o e=>by rw[zt (zB e q)];exact Bp.sm b o e }
inductive LsK(TB KP:af)(lb:AN_)(H:Hp)(v:V)(ah:zD):Prop
 |mk (l:af):v=.ref l->gV H l ah->lb l=0->l≠TB->l≠KP->LsK TB KP lb H v ah
def LsK.to{lb lb':AN_}(h:LsK TB KP lb H v ah)(k:∀b o,lb b=0->b≠TB->b≠KP->H b=Y o->H' b=Y o/\lb' b=0)(ts:AQ H H'):LsK TB KP lb' H' v ah:=by have #[l,e,z,a,b,c]:=h;have m:=z;have #[xs,hl,_]:=m;exact{l,e,Yv z (λo e=>(k l o a b c e).1) ts,(k l _ a b c hl).2,b,c}
structure KtI(H0:Hp)(TB KP:af)(X:DK)(j:Nat)(H:Hp):Prop where
 ex:∃xs ys rs,H TB=Y (.lst xs)/\H KP=Y (.lst ys)/\Bl (LsK TB KP X.lb H) xs rs/\Bl (LsK TB KP X.lb H) ys rs/\rs.length<=j
 z1:X.lb TB=0
 z2:X.lb KP=0
 ne:TB≠KP
 n1:H0 TB=L
 n2:H0 KP=L
def KtI.to(h:KtI H0 TB KP X j H)(k:∀b o,X.lb b=0->H b=Y o->H' b=Y o/\X'.lb b=0)(ts:AQ H H'):KtI H0 TB KP X' j H':=by have #[xs,ys,rs,w,u,q,m,l]:=h.ex;have #[O,J]:=k _ _ h.z1 w;have #[I,A]:=k _ _ h.z2 u;exact{{xs,ys,rs,O,I,Paired.mapP q λ_ _ z=>z.to (λb o z _ _=>k b o z) ts,Paired.mapP m λ_ _ z=>z.to (λb o z _ _=>k b o z) ts,l},J,A,h.ne,h.n1,h.n2}
def KtI.same(h:KtI H0 TB KP X j H)(s:aJ H H'):KtI H0 TB KP X j H':=h.to (λb o z e=>{s _ _ e,z}) (AQ.of s)
def KtI.up(h:KtI H0 TB KP X j H)(k:Up1 t g d n f H X CC H' X'):KtI H0 TB KP X' j H':=h.to (λb o z e=>k.kp b o z e) k.ts
def σB(d cl s dv:af)(n f:Int)(k:Nat)(TB KP:af)(o9 o10 o11 o12 o13:Option V):St:=[Y (.ref d),Y (.ref cl),Y (.ref s),Y (.int n),Y (.int f),Y (.ref dv),Y (.int k),Y (.ref TB),Y (.ref KP),o9,o10,o11,o12,o13]
inductive BtM(t:uQ)(H0:Hp)(d cl s dv:af)(n f:Int)(g:zD)(CA:vy)(m:Nat)(ps:LRG)(ts:List zD)(TB KP:af)(o11 o12 o13:Option V)(j:Nat)(σ:St)(H:Hp):Prop
 |mk (o9 o10:Option V) (k:Nat) (X:DK):σ=σB d cl s dv n f k TB KP o9 o10 o11 o12 o13->Ah t H0 H g CA ps ts d dv n f X->X.CC=CA.take k->k<=m->KtI H0 TB KP X j H->BtM t H0 d cl s dv n f g CA m ps ts TB KP o11 o12 o13 j σ H
section
variable {s:af}{m k:Nat}{c:Int}
theorem ziD(Bp:Ah t H0 H g CA ps ts d dv n f X)(cX:X.CC=CA.take k)(km:k<=m)(u:KtI H0 TB KP X j H)(aj:j<=64)(hD:D.nx=BtM t H0 d cl s dv n f g CA m ps ts TB KP o11 o12 o13 (j+1)) :
  q9 K t D (σB d cl s dv n f k TB KP o9 o10 o11 o12 o13) H:=by
 have #[xs,ys,rs,h1,h2,p1,p2,lj]:=u.ex;have lx:=bG p1;have ly:=bG p2;refine{_,Z,.inl {Z,_,aO.of h1},x8 Bp.dk.k.cmp.1 Z Z {d,X.a,X.lb,n,f,g,X.CC,X.S,Z,Bp.dk.k,Bp.f0,Bp.few,λl ah H1 J nl hl tf=>?_}};have hr:=JP Bp.dd Bp.f0 Bp.cc Bp.dk.o.el Bp.dk.s Bp.tg tf;have B1:=u.same J;have L1:=Bp.same J;refine{TB,xs,_,Z,Z,J _ _ h1,bM (show xs.length<=64 by lia) (),?_};have I:=L1.put (ys:=xs++[.ref l]) (J _ _ h1) u.z1 u.n1;have t2:AQ H1 (upd H1 TB (.lst (xs++[.ref l]))):=jK (J _ _ h1) nofun
 have k2:∀b o,b≠TB->H1 b=Y o->upd H1 TB (.lst (xs++[.ref l])) b=Y o:=λb o z e=>by rw[zt z];exact e
 have e2:upd H1 TB (.lst (xs++[.ref l])) TB=Y (.lst (xs++[.ref l])):=zo;generalize upd H1 TB (.lst (xs++[.ref l]))=H2 at *
 have #[pl,tl,us,ws,a1,a2,a3,a4,a5]:=I.at_;have #[e1,_,en,_,ee,_,le]:=I.dk.k.cmp;obtain⟨v,hv⟩:∃v,ws[X.S.en]?=Y v:={_,ba (by have:=bG a5;have:=(bd.mp hr).1;lia)};have #[ac,e',l',rfl,ai]:=Paired.getP a5 hv;cases hr.symm.trans e';have ag:=ai;have #[O,hz,pz]:=ag;have A:=k2 _ _ u.ne.symm (J _ _ h2);have lT:=y8 h1 nl;have lP:=y8 h2 nl;refine{_,Z,.inl {Z,_,aO.of A},_,Z,dv,_,1,_,Z,Z,uZ.of a1,Z,x8 e1 Z Z {d,_,X.a,n,f,en,Z,e1,ee,_,Z,_,_,Z,Z,tl,ws,X.S.en,_,Z,congrArg V.int (show f+(en.length:Int)-f=(X.S.en:Int) by lia),aO.of a4,xS hv,l',O,Z,.inl (aO.of hz),λp hp=>{KP,ys,_,Z,Z,u5 p hp _ _ A,bM (show ys.length<=64 by lia) (),?_}}};have T:=u5 (o:=HO.lst O) p hp;have aa:=T _ _ A;have L3:=(I.same T).put (ys:=ys++[.ref p]) aa u.z2 u.n2;have zp:=I.dk.k.l0 hp;have pT:=y8 e2 hp;have pP:=y8 A hp;have T2:AQ H2 (upd (upd H2 p (.lst O)) KP (.lst (ys++[.ref p]))):=λb us e=>jK aa () _ _ (T _ _ e);have t3:AQ H1 (upd (upd H2 p (.lst O)) KP (.lst (ys++[.ref p]))):=λb us e=>T2 _ _ (t2 _ _ e);have k3:∀b o,b≠TB->b≠KP->H1 b=Y o->upd (upd H2 p (.lst O)) KP (.lst (ys++[.ref p])) b=Y o:=λb o y z e=>by rw[zt z];exact T _ _ (k2 _ _ y e)
 have go:∀ {v ah},LsK TB KP X.lb H v ah->LsK TB KP X.lb (upd (upd H2 p (.lst O)) KP (.lst (ys++[.ref p]))) v ah:=λh=>h.to (λb o z y w e=>{k3 b o y w (J _ _ e),z}) λb us e=>t3 _ _ (J _ _ e);rw[hD];exact{_,_,k,X,Z,L3,cX,km,{xs++[.ref l],ys++[.ref p],rs++[ah],by rw[zt u.ne];exact T _ _ e2,zo,Paired.snocP (Paired.mapP p1 λ_ _=>go) {l,Z,Yv hl (λo e=>k3 _ _ lT lP e) t3,Bp.dk.k.l0 nl,lT,lP},Paired.snocP (Paired.mapP p2 λ_ _=>go) {p,Z,{O,by rw[zt pP];exact zo,Paired.mapP pz λ_ _ ⟨r,q,e,y1,y2⟩=>{r,q,e,T2 _ _ y1,T2 _ _ y2}},zp,pT,pP},by rw[bh];show rs.length+1<=_;lia},u.z1,u.z2,u.ne,u.n1,u.n2}
theorem ziE(Bp:Ah t H0 H g CA ps ts d dv n f X)(A:X.CC=CA.take k)(w:k<=m)(I:KtI H0 TB KP X j H)(q:j<=64)(z:D.nx=BtM t H0 d cl s dv n f g CA m ps ts TB KP o11 o12 o13 (j+1)) :
  ja K t D (σB d cl s dv n f k TB KP (Y (.int c)) o10 o11 o12 o13) H:=
 {_,Z,_,Z,_,Z,_,Z,_,_,Z,Z,dB,_,_,Z,Z,(by lia:(0:Int)<2),Z,d,dv,n,f,_,g,CA,ps,ts,X,H0,Z,Bp,λH1 u=>{_,Z,yj Z (ziD (Bp.same u) A w (I.same u) q z)}}
theorem zau(Bp:Ah t H0 H g CA ps ts d dv n f X)(n1:1<=n)(cX:X.CC=CA.take k)(J:k<=m)(mA:m<=CA.length)(Bn:KtI H0 TB KP X j H)(A:j<=64)(O:D.nx=BtM t H0 d cl s dv n f g CA m ps ts TB KP o11 o12 o13 (j+1)) :
  Za K t D (σB d cl s dv n f k TB KP (Y (.int c)) o10 o11 o12 o13) H:=by
 refine(x8 Bp.dk.k.cmp.1 Z Z {_,Z,_,_,Z,Z,dB,_,Z,_,_,Z,Z,by show (0:Int)<n;lia,zd6 Bp.dk (cW _ ()) (cM _ ()) λw H1 X1 e I ⟨a,q,ew,ea,_⟩=>?_});have L1:=Bp.up I {k,cX,()};have u:=Bn.up I;have z:=I.cc.trans cX;subst ew;have nx:∀o10,D.nx (σB d cl s dv n f k TB KP (Y (.int c)) o10 o11 o12 o13) H1:=λo10=>by rw[O];have #[xs,ys,rs,h1,h2,p1,p2,lj]:=u.ex;exact{_,_,k,X1,Z,L1,z,J,{xs,ys,rs,h1,h2,p1,p2,()},u.z1,u.z2,u.ne,u.n1,u.n2}
 have T:∀o10,ja K t D (σB d cl s dv n f k TB KP (Y (.int c)) o10 o11 o12 o13) H1:=λo10=>ziE L1 z J u A O;refine{_,Z,a,_,0,.str (evW e),Z,Z,uZ.of ea,xS (j:=0) Z,Z,_,Z,?_};by_cases k1:V.str (evW e)=V.str "settle"
 .exact yE (Bj k1) (yE Z (T _))
 .refine yj (Bk k1) {_,Z,_,_,Z,Z,dB,_,_,Z,Z,(by lia:(0:Int)<3),Z,_,Z,?_};cases hb:decide (V.int (c/56%3)=V.int 0) with
  |true=>exact yE Z (T _)
  |false=>exact yj Z (nx _)
theorem ziF{ws:LV}{s0:aJ H0 H}(Bp:Ah t H0 H g CA ps ts d dv n f X)(I:1<=n)(z:X.CC=CA.take k)(km:k<=m)(w:m<=CA.length)(hc:H0 cl=Y (.lst ws))(pc:Bl (Ar H0) ws (CA.take m))(T:KtI H0 TB KP X j H)(q:j<=64)(J:D.nx=BtM t H0 d cl s dv n f g CA m ps ts TB KP o11 o12 o13 (j+1)) :
  Zb K t D (σB d cl s dv n f k TB KP (Y (.int c)) o10 o11 o12 o13) H:=by
 have lw:=bG pc;rw[bX,dq w] at lw;have l8:=Bp.cA.le;have #[u,_]:=Bp.sm _ _ hc;refine{_,Z,_,_,Z,Z,(by lia:(0:Int)<7),_,_,Z,Z,_,Z,?_};by_cases k1:c%7<2
 .refine yE (Bj k1) {_,Z,_,Z,.ref cl,ws.length,Z,.inl {_,aO.of u,Z},_,_,Z,Z,_,Z,?_};by_cases k2:(k:Int)<ws.length
  .obtain⟨v,hv⟩:∃v,ws[k]?=Y v:={_,ba ()};have #[C,O,co]:=Paired.getP pc hv;rw[dP,ao ()] at O;have lc:X.CC.length=k:=by rw[z,bX];lia
   refine yE (Bj k2) {_,Z,_,Z,_,Z,cl,ws,k,v,Z,Z,aO.of u,xS hv,d,v,n,f,g,C,X,Z,Bp.dk,co.same λb o e=>(Bp.sm b o e).1,λc' e=>by have #[c2,ys,e2,e3,_]:=co;cases e2.symm.trans e;exact(Bp.sm _ _ e3).2,Bp.cA.ok C (bA O),(),λH1 X1 A=>{_,Z,yj Z {_,Z,_,_,Z,Z,?_}}};have tk:X.CC++[C]=CA.take (k+1):=by rw[z,cI,O];rfl
   rw[tk] at A;exact zau (k:=k+1) (Bp.up A {k+1,Z,()}) I A.cc () w (T.up A) q J
  .exact yj (Bk k2) (zau Bp I z km w T q J)
 .exact yj (Bk k1) (yj Z (zau Bp I z km w T q J))
end
end
section
variable {s:af}{ts:List zD}{l11 l12 l13:af}{ws:LV}{m k:Nat}
inductive PpL(lb:AN_)(H:Hp)(v:V)(e:hU×zD):Prop
 |mk (r o nl gl:_):v=.ref r->H r=Y (.tup [o,.ref nl,.ref gl])->Js H o (zcV e.1)->gV H nl e.1.no->gV H gl e.2->lb nl=0->lb gl=0->PpL lb H v e
def PpL.up(h:PpL X.lb H v e)(c:Up1 t g d n f H X CC H' X'):PpR H' v e:=by have #[r,o,nl,gl,e,I,A,z,w,u,q]:=h;exact{r,o,nl,gl,e,c.ts _ _ I,zgY A c.ts,Yv z (λo e=>(c.kp _ o u e).1) c.ts,Yv w (λo e=>(c.kp _ o q e).1) c.ts,Z,Z}
theorem ziG(Bp:Ah t H0 H g CA ps ts d dv n f X)(en:X.S.en=k)(kA:k<=CA.length)(Bn:KtI H0 TB KP X j H)(h3:H l13=Y (.lst xs))(p3:Bl (PpR H) xs (ps.take k))(q:∀H',Ah t H0 H' g CA ps ts d dv n f X->Q (.bl U) H') :
  Zc K t (u9 Q) (σB d cl s dv n f k TB KP o9 o10 o11 o12 (Y (.ref l13))) H:=by have #[aa,ks,rs,h1,h2,p1,p2,_]:=Bn.ex;refine{_,Z,_,Z,_,_,Z,zc8 h1 h2 p1 p2 (λu w e ⟨l,O,z1,_,_,_⟩ ⟨l',e2,z2,_,_,_⟩=>O ▸ e2 ▸ XB (n:=1) z1 z2),λH1 T=>{_,Z,yE Z ?_}};have L1:=Bp.same T;have #[pl,tl,us,ws,a1,a2,a3,a4,a5]:=L1.at_;have lu:=bG a3;have lp:=Bp.dd.lp;refine{_,Z,_,Z,dv,_,0,_,Z,Z,uZ.of a1,Z,_,Z,_,Z,pl,us,Z,aO.of a2,λb hb=>?_};rw[zc9 ()];generalize c_:upd H1 b _=H2;have #[J,eb]:=yI c_ hb;have A:=L1.same J;have #[O,_,c,_,ee,_,le]:=A.dk.k.cmp;have up:∀ {H H':Hp},aJ H H'->∀v e,PpR H v e->PpR H' v e:=λs _ _ z=>PpC.same z s;refine{_,_,Z,zja ((T.trans J) _ _ h3) eb (Paired.mapP p3 (up (T.trans J))) (Paired.mapP (zd7 k a3) (up J)),λH3 I=>{_,Z,yE Z (x8 (I _ _ O) Z Z {d,_,X.a,n,f,c,Z,I _ _ O,I _ _ ee,_,Z,_,Z,_,_,Z,Z,Z,?_})}};rw[show f+(c.length:Int)=f+(k:Int) by lia];exact zdX (q _ (A.same I))
theorem ziH(Bp:Ah t H0 H g CA ps ts d dv n f X)(n1:1<=n)(n8:n<=8)(I:X.CC=CA.take k)(en:X.S.en=k)(O:k<=CA.length)(Bn:KtI H0 TB KP X j H)(h1:H l11=Y (.lst ys))(z1:X.lb l11=0)(pe:∀v∈ys,∃r,v=.ref r)(h2:H l12=Y (.lst ys))(z2:X.lb l12=0)(h3:H l13=Y (.lst xs))(z3:X.lb l13=0)(p3:Bl (PpL X.lb H) xs (ps.take k))(q:∀H' X',Ah t H0 H' g CA ps ts d dv n f X'->X'.CC=CA.take k->X'.S.en=k->Q (.bl U) H') :
  Zd K t (u9 Q) (σB d cl s dv n f k TB KP o9 o10 (Y (.ref l11)) (Y (.ref l12)) (Y (.ref l13))) H:=by
 have lc:X.CC.length=k:=by rw[I,bX];lia
 refine(x8 Bp.dk.k.cmp.1 Z Z (zc7 Bp.dk n1 n8 λl aa es H1 T c ac hl _ _ w=>?_));have L1:=Bp.up c {k,I,O};refine{(),λp hp=>?_};generalize c_:upd H1 p _=H2;have #[u,ep]:=yI c_ hp;obtain rfl:=w ();have J:=L1.same u;refine{l,p,[],Z,Z,aO.of (u _ _ hl),aO.of ep,_,Z,yj Z {_,Z,_,Z,_,Z,_,Z,_,_,Z,Z,(by lia:(0:Int)<2),Z,d,dv,n,f,_,g,CA,ps,ts,T,H0,Z,J,λH3 s3=>{_,Z,yj Z ?_}}};have S:=u.trans s3;have #[a1,_]:=c.kp _ _ z1 h1;have #[a2,_]:=c.kp _ _ z2 h2;have #[a3,_]:=c.kp _ _ z3 h3;have A:=c.cc.trans I;exact{_,Z,_,Z,l11,l12,ys,Z,Z,aO.of (S _ _ a1),aO.of (S _ _ a2),pe,_,Z,yj Z (ziG (L1.same S) () O ((Bn.up c).same S) (S _ _ a3) (Paired.mapP p3 λ_ _ z=>PpC.same (z.up c) S) λH' L'=>q H' T L' A ())}
theorem ziI(Bp:Ah t H0 H g CA ps ts d dv n f X)(n1:1<=n)(n8:n<=8)(T:X.CC=CA.take k)(kA:k<=CA.length)(Bn:KtI H0 TB KP X j H)(q:∀H' X',Ah t H0 H' g CA ps ts d dv n f X'->X'.CC=CA.take k->X'.S.en=k->Q (.bl U) H') :
  Ze K t (u9 Q) (σB d cl s dv n f k TB KP o9 o10 o11 o12 o13) H:=by
 have lc:X.CC.length=k:=by rw[T,bX];lia
 have l8:=Bp.cA.le;refine(x8 Bp.dk.k.cmp.1 Z Z (zc7 Bp.dk n1 n8 λl xs es H1 u Bo ac hl zl pe _=>?_));have w:=Bp.up Bo {k,T,kA};have O:=Bo.cc.trans T;refine{_,Z,l,xs,Z,.inl (aO.of hl),λp hp=>?_};generalize c_:upd H1 p _=H2;have #[I,ep]:=yI c_ hp;have c:=w.same I;refine(x8 c.dk.k.cmp.1 Z Z {d,u.a,u.lb,n,f,g,u.CC,u.S,Z,c.dk.k,(),λl3 aa H3 z n3 J p3=>?_});have ee:=zc6 Bp.dd Bp.f0 w.cc w.dk.o.el w.dk.s;rw[ee,show u.S.en=k by lia] at p3;have A:∀ {b},H2 b=L->u.lb b=0:=c.dk.k.l0;exact ziH (c.same z) n1 n8 O () kA (((Bn.up Bo).same I).same z) ((I.trans z) _ _ hl) zl (Vs (λ_ _ ⟨a,_,e,_,_⟩=>{a,e}) pe) (z _ _ ep) (w.dk.k.l0 hp) J (A n3) (Paired.mapP p3 λ_ _ ⟨r,o,nl,gl,e,h1,h2,J,h4,z1,z2⟩=>{r,o,nl,gl,e,h1,h2,J,h4,A z1,A z2}) q
theorem ziJ(Bp:Ah t H0 H g CA ps ts d dv n f X)(G:LwC K H0 s ns CA)(I:1<=n)(O:n<=8)(u:X.CC=[])(T:m<=CA.length)(hc:H0 cl=Y (.lst ws))(J:Bl (Ar H0) ws (CA.take m))(w:KtI H0 TB KP X 1 H)(q:∀H' X' k,k<=m->Ah t H0 H' g CA ps ts d dv n f X'->X'.CC=CA.take k->X'.S.en=k->Q (.bl U) H') :
  Zf K t (u9 Q) (σB d cl s dv n f 0 TB KP o9 o10 o11 o12 o13) H:=by
 have s0:∀ {H X},Ah t H0 H g CA ps ts d dv n f X->aJ H0 H:=λBp b o e=>(Bp.sm b o e).1;have hn:=G.hn;have lm:(ns.map V.int).length=ns.length:=bn ..;refine{_,Z,s,Z,{_,G.hS.mono (s0 Bp)},xD (ns.map V.int) (λi=>BtM t H0 d cl s dv n f g CA m ps ts TB KP o11 o12 o13 (1+i)) {_,_,0,X,Z,Bp,u,cf _,w} (λi σ H ⟨_,_,_,_,_,Bp,_,_,_⟩=>G.hS.mono (s0 Bp)) ?_ ?_}
 .rintro i v σ H1 A ⟨o9,o10,k,X,rfl,Bp,u,z,w⟩;have li:=(bd.mp A).1;rw[bF] at A;have #[c,_,rfl]:=cr.mp A;exact ziF (s0:=s0 Bp) Bp I u z T hc J w () rfl
 .rintro σ H1 ⟨o9,o10,k,X,rfl,Bp,u,z,w⟩;exact ziI Bp I O u () w λH' X' L' c e=>q H' X' k z L' c e
theorem JU{vs:LV}{_E:XK}(h:vR K t vs H Q _E) :
  Yu K t (u9 Q) (zZZ 14 vs) H:=by
 have #[d,cl,s,dv,n,f,g,CA,m,ps,ts,X,ns,ws,H0,rfl,G,Bp,cX,n1,n8,mA,hc,pc,q]:=h;have #[e1,_,en,_,ee,_,le]:=Bp.dk.k.cmp;have el:=Bp.dk.o.el;rw[cX,iu] at el;refine x8 e1 Z Z {d,_,X.a,n,f,en,Z,e1,ee,_,Z,_,_,Z,Z,?_};have e0:f+(en.length:Int)-f=((0:Nat):Int):=by lia
 dsimp only;rw[e0];refine x8 e1 Z Z {d,X.a,X.lb,n,f,g,X.CC,X.S,Z,Bp.dk.k,Bp.f0,Bp.few,λl ah H1 J nl hl tf=>{(),λTB hB=>?_}};generalize c1:upd H1 TB _=H2;have #[u,I]:=yI c1 hB;have #[zs,O,pz]:=id hl;refine{_,Z,TB,_,0,_,Z,Z,aO.of I,Z,l,zs,Z,.inl (aO.of (u _ _ O)),λp T=>{(),λKP z=>?_}};generalize c2:upd H2 p _=H3 at *
 have #[c,ep]:=yI c2 T;generalize c3:upd H3 KP _=H4;have #[w,eK]:=yI c3 z;have S3:=J.trans (u.trans c);have L4:=Bp.same (S3.trans w);have A:∀ {b},H b=L->X.lb b=0:=Bp.dk.k.l0;have fr:∀ {b},H b=L->H0 b=L:=λ{b} e=>zK (λb o e=>(Bp.sm b o e).1) e;have fp:H p=L:=zK (J.trans u) T;have fB:H TB=L:=zK J hB;have fK:H KP=L:=zK S3 z;have aa:gV H4 l ah:=hl.same (u.trans (c.trans w));exact ziJ L4 G n1 n8 cX mA hc pc {{[.ref l],[.ref p],[ah],(c.trans w) _ _ I,eK,.cons {l,Z,aa,A nl,zB O hB,zB ((u.trans c) _ _ O) z} .nil,.cons {p,Z,{zs,w _ _ ep,vb (u.trans (c.trans w)) pz},A fp,y8 I T,zB ep z} .nil,bq _},A fB,A fK,zB (c _ _ I) z,fr fB,fr fK} q
end
section
variable {tab:zD}{s hd:af}{ts:List zD}{m k:Nat}{o1 o2 o3 o8:Option V}
def σL(s cl dv d:af)(n f:Int)(o1 o2 o3 o7 o10 o11 o12:Option V):St:=[Y (.ref s),o1,o2,o3,Y (.ref cl),Y (.ref dv),Y (.int n),o7,Y (.ref d),Y (.int f),o10,o11,o12]
structure LwG(K:bL)(H0:Hp)(s cl:af)(ns:ym)(vs:LV)(CA:vy):Prop where
 c:LwC K H0 s ns CA
 hc:H0 cl=Y (.lst vs)
 pc:Bl (Ar H0) vs CA
def Ah.s0(Bp:Ah t H0 H g CA ps ts d dv n f X):aJ H0 H:=λb o e=>(Bp.sm b o e).1
theorem LwG.add(G:LwG K H0 s cl ns vs CA)(Bp:Ah t H0 H g CA ps ts d dv n f X)(O:vs[i]?=Y v)(w:X.CC=CA.take i)(q:∀H' X',Up1 t g d n f H X (CA.take (i+1)) H' X'->Ah t H0 H' g CA ps ts d dv n f X'->Q (.bl U) H'):zy σ H λxs H2=>v5 t ((.ref d::(v::xs))++[]) H2 Q E0:=by
 have #[C,u,A]:=Paired.getP G.pc O;have J:=(bd.mp u).1;have l8:=G.c.cc.le;have z:CA.take (i+1)=CA.take i++[C]:=by rw[cI,u];rfl
 rw[z,<-w] at q;exact{d,v,n,f,g,C,X,Z,Bp.dk,A.same Bp.s0,λc e=>by have #[c2,ys,e2,T,_]:=A;cases e2.symm.trans e;exact(Bp.sm _ _ T).2,G.c.cc.ok C (bA u),by rw[w,bX];lia,λH' X' I=>q H' X' I (Bp.up I {i+1,by rw[z,w],J})}
theorem ze1(Bp:Ah t H0 H g CA ps ts d dv n f X)(G:LwG K H0 s cl ns vs CA)(O:1<=n)(J:n<=8)(A:X.CC=CA)(q:∀H',Q (.bl U) H') :
  Qp K t (u9 Q) (σL s cl dv d n f o1 o2 o3 o7 o10 o11 o12) H:=by have lv:=bG G.pc;refine(x8 Bp.dk.k.cmp.1 Z Z (zc7 Bp.dk O J λl xs es H1 I Bo c _ _ _ _=>?_));have u:=Bp.up Bo {CA.length,by rw[A,cU],bq _};refine{_,Z,_,Z,_,Z,d,dv,n,f,am,g,CA,ps,ts,I,H0,Z,u,λH2 w=>?_};have #[z,_,en,_,T,_,le]:=(u.same w).dk.k.cmp;refine{_,Z,yE Z (x8 z Z Z {d,_,I.a,n,f,en,Z,z,T,_,Z,_,Z,.ref cl,vs.length,Z,.inl {_,aO.of ((u.same w).s0 _ _ G.hc),Z},_,_,Z,Z,Z,?_})};rw[A] at c;rw[show f+(en.length:Int)=f+(vs.length:Int) by lia];exact zdX (q _)
theorem ze2(Bp:Ah t H0 H g CA ps ts d dv n f X)(G:LwG K H0 s cl ns vs CA)(J:1<=n)(I:n<=8)(u:X.CC=CA)(q:∀H',Q (.bl U) H') :
  Qq K t (u9 Q) (σL s cl dv d n f o1 o2 o3 o7 o10 o11 o12) H:=by
 refine{_,Z,s,_,Z,G.c.hS.mono Bp.s0,zfR (ns.map V.int) (λi σ H=>(∃o12,σ=σL s cl dv d n f o1 o2 o3 o7 o10 o11 o12)/\∃X,Ah t H0 H g CA ps ts d dv n f X/\X.CC=CA) {{_,Z},X,Bp,u} (λi σ H ⟨_,_,Bp,_⟩=>G.c.hS.mono Bp.s0) ?_ ?_}
 .rintro i v σ H1 _ z ⟨⟨o12,rfl⟩,X,Bp,u⟩;rw[bF] at z;have #[c,_,rfl]:=cr.mp z;exact x8 Bp.dk.k.cmp.1 Z Z {_,Z,_,_,Z,Z,dB,_,Z,_,_,Z,Z,by show (0:Int)<n;lia,zd6 Bp.dk (cW _ ()) (cM _ ()) λw H1 O e A _=>{{_,Z},O,Bp.up A {CA.length,by rw[u,cU],bq _},A.cc.trans u}}
 .rintro σ H1 ⟨⟨o12,rfl⟩,X,Bp,u⟩;exact ze1 Bp G J I u q
theorem ze3(Bp:Ah t H0 H g CA ps ts d dv n f X)(G:LwG K H0 s cl ns vs CA)(n1:1<=n)(n8:n<=8)(u:X.CC=CA.take k)(ek:X.S.en=k)(kA:k<=CA.length)(q:∀H',Q (.bl U) H') :
  Qr K t (u9 Q) (σL s cl dv d n f o1 o2 o3 o7 o10 o11 o12) H:=by
 have lv:=bG G.pc;have #[O,_,en,_,ee,_,le]:=Bp.dk.k.cmp;have e0:f+(en.length:Int)-f=(k:Int):=by lia
 refine{_,Z,x8 O Z Z {d,_,X.a,n,f,en,Z,O,ee,_,Z,_,_,Z,Z,?_}};dsimp only;rw[e0];refine{_,Z,cl,vs,Z,aO.of (Bp.s0 _ _ G.hc),λb I=>?_};have ec:kB vs (Y (k:Int)) L=vs.drop k:=by have e3:HT.sIx vs.length 0 (Y (k:Int))=min k vs.length:=HT.sIx_nat ..;have e8:HT.sIx vs.length vs.length L=vs.length:=rfl;unfold kB;rw[e3,e8,dq (),b9 (by rw[cq];exact bq _)]
 rw[ec];generalize c_:upd H b _=H1;have #[s1,J]:=yI c_ I;refine{b,Z,{_,aO.of J},xD (vs.drop k) (λi σ w=>(∃o11,σ=σL s cl dv d n f o1 o2 o3 o7 o10 o11 o12)/\∃X,Ah t H0 w g CA ps ts d dv n f X/\X.CC=CA.take (k+i)/\w b=Y (.lst (vs.drop k))/\X.lb b=0) {{_,Z},X,Bp.same s1,u,J,Bp.dk.k.l0 I} (λi σ w ⟨_,_,_,_,z,_⟩=>aO.of z) ?_ ?_}
 .rintro i v σ w A ⟨⟨o11,rfl⟩,X,Bp,u,h2,z2⟩;rw[eV] at A;exact{_,Z,_,Z,G.add Bp A u λH3 X3 T L3=>{_,Z,yj Z (let ⟨a,c⟩:=T.kp _ _ z2 h2;{{_,Z},X3,L3,T.cc,a,c})}}
 .rintro σ w ⟨⟨o11,rfl⟩,X,Bp,u,_⟩;rw[cq,show k+(vs.length-k)=CA.length by lia,cU] at u;exact ze2 Bp G n1 n8 u q
def lo(lb:AN_)(H:Hp):Hp:=λb=>if lb b=0 then H b else L
def zjc{lb:AN_}(z:lb b=0)(e:H b=Y o):lo lb H b=Y o:=(ao z).trans e
def zkv{lb:AN_}(e:lo lb H b=Y o):H b=Y o/\lb b=0:=by
 unfold lo at e;by_cases z:lb b=0
 .rw[ao z] at e;exact{e,z}
 .rw[ak z] at e;cases e
theorem ze4(Bp:Ah t H0 H g CA ps ts d dv n f X)(G:LwG K H0 s cl ns vs CA)(J:1<=n)(I:n<=8)(cX:X.CC=[])(mA:m<=CA.length)(q:∀H',Q (.bl U) H') :
  Qs K t (u9 Q) (σL s cl dv d n f o1 o2 o3 o7 (Y (.int m)) o11 o12) H:=by
 have lv:=bG G.pc;refine{_,Z,_,Z,_,Z,_,Z,cl,vs,Z,aO.of (Bp.s0 _ _ G.hc),λb O=>?_};rw[zc9 ()];generalize c_:upd H b _=H1;have #[T,eb]:=yI c_ O;have w:=Bp.same T;have S:aJ H0 (lo X.lb H1):=λb o e=>let ⟨a,z⟩:=w.sm b o e;zjc z a
 have A:LwG K (lo X.lb H1) s cl ns vs CA:={{G.c.hS.mono S,G.c.hn,G.c.hb,G.c.cc},S _ _ G.hc,Paired.mapP G.pc λ_ _ z=>z.same S};have u:Ah t (lo X.lb H1) H1 g CA ps ts d dv n f X:={ w with du:=let ⟨pl,tl,xs,ys,h1,h2,h3,h4,h5⟩:=w.du.ex;{pl,tl,xs,ys,S _ _ h1,S _ _ h2,Paired.mapP h3 λ_ _ z=>PpC.same z S,S _ _ h4,Paired.mapP h5 λ_ _ z=>z.same S},sm:=λb o e=>zkv e };exact{_,Z,_,Z,_,Z,_,Z,d,b,s,dv,n,f,g,CA,m,ps,ts,X,ns,vs.take m,lo X.lb H1,Z,A.c,u,cX,J,I,mA,zjc (Bp.dk.k.l0 O) eb,zd7 m A.pc,λH2 X2 k km L3 c ek=>{_,Z,yj Z (ze3 L3 A J I c ek () q)}}
theorem ze5(Bp:Ah t H0 H g CA ps ts d dv n f X)(G:LwG K H0 s cl ns vs CA)(z:1<=n)(w:n<=8)(I:X.CC=[])(q:∀H',Q (.bl U) H') :
  Qt K t (u9 Q) (σL s cl dv d n f o1 o2 o3 o7 o10 o11 o12) H:=by have J:=bG G.pc;refine{_,Z,s,ns,2,Z,G.c.hS.mono Bp.s0,G.c.hn,G.c.hb,λc H1 u _ _=>{_,_,Z,Z,dB,_,Z,.ref cl,vs.length,Z,.inl {_,aO.of (u _ _ (Bp.s0 _ _ G.hc)),Z},_,_,Z,Z,_,_,Z,Z,by show (0:Int)<(vs.length:Int)+1;lia,?_}};have a:=cW (c/56) (show (vs.length:Int)+1≠0 by lia);have b:=cM (c/56) (show (0:Int)<(vs.length:Int)+1 by lia);dsimp only;have #[m,A]:=Int.eq_ofNat_of_zero_le a;rw[A] at b ⊢;exact ze4 (m:=m) (Bp.same u) G z w I () q
def zkw{r:Row}(h:PrAt H v r):∃a,v=.ref a:=let ⟨a,_,e,_⟩:=h;{a,e}
theorem zhj(Bp:Ah t H0 H g CA ps ts d dv n f X)(G:LwG K H0 s cl ns vs CA)(n1:1<=n)(T:n<=8)(cX:X.CC=[]){xs:LV}(ht:H0 tl=Y (.lst xs))(w:Bl (PrAt H0) xs tab)(l5:tab.length<=5)(c:H hd=Y (.lst xs))(z:X.lb hd=0)(O:H0 hd=L)(q:∀H',Q (.bl U) H') :
  zbO K t (u9 Q) (σL s cl dv d n f o1 o2 (Y (.ref tl)) (Y (.ref hd)) o10 o11 o12) H:=by have lx:=bG w;refine{_,Z,_,Z,hd,tl,xs,Z,Z,aO.of c,aO.of (Bp.s0 _ _ ht),Vs (λ_ _=>zkw) w,_,Z,yj Z {_,Z,.inl {Z,_,aO.of c},(),λp hp=>?_}};generalize c1:upd H p _=H1;have #[I,_]:=yI c1 hp;refine{(),λJ u=>?_};generalize c2:upd H1 J _=H2;have #[A,_]:=yI c2 u;have S:=I.trans A;exact{hd,xs,_,Z,Z,S _ _ c,bM (show xs.length<=5 by lia) (),ze5 ((Bp.same S).put (S _ _ c) z O) G n1 T cX q}
theorem zhk(w:aJ H0 H)(G:LwG K H0 s cl ns vs CA)(n1:1<=n)(n8:n<=8){xs:LV}(ht:H0 tl=Y (.lst xs))(pt:Bl (PrAt H0) xs tab)(l5:tab.length<=5)(tg:wD tab tab)(iw:∀r∈tab,u3 r.2=U)(A:H hd=Y (.lst xs))(nh:H0 hd=L)(D:zgO H0 dv ps ts)(du:Due CA tab ps ts)(q:∀H',Q (.bl U) H') :
  zbP K t (u9 Q) [Y (.ref s),o1,o2,Y (.ref tl),Y (.ref cl),Y (.ref dv),Y (.int n),Y (.ref hd),o8,o9,o10,o11,o12] H:=by refine{_,Z,_,Z,_,Z,s,ns,0,Z,G.c.hS.mono w,G.c.hn,G.c.hb,λc H1 u cb ec=>{hd,n,c,tab,Z,{xs,u _ _ A,vb (w.trans u) pt},l5,cb,λd a lb H2 s2 O G2=>{_,Z,s,ns,0,Z,G.c.hS.mono (w.trans (u.trans s2)),G.c.hn,G.c.hb,λc2 H3 T J I=>{c2,Z,J,?_}}}};obtain rfl:=ec.trans I.symm;have ok:uS n (fsW c) tab [] S0:={zhh c,{(),cf _},bq _,.refl _,.nil,cY,(),(),(),(),λp=>zbw iw p,()};have st:StI (fsW c) tab [] S0:={Z,(),(),(nofun),(λ_ _=>uE),(),cY,(),()};have S:=u.trans (s2.trans T);exact zhj (X:={a,lb,[],S0}) {{G2.same T,ok,st},l5,D,du,tg,G.c.cc,{0,Z,cf _},λb o e=>{S _ _ (w _ _ e),O b o (u _ _ (w _ _ e))}} G n1 n8 Z ht pt l5 (S _ _ A) (O _ _ (u _ _ A)) nh q
theorem zhl(G:LwG K H s cl ns vs CA)(O:gV H tl tab)(l5:tab.length<=5)(A:wD tab tab)(J:∀r∈tab,u3 r.2=U)(D:zgO H dv ps ts)(T:Due CA tab ps ts)(q:∀H',Q (.bl U) H') :
  zbQ K t (u9 Q) [Y (.ref s),o1,o2,Y (.ref tl),Y (.ref cl),Y (.ref dv),o3,o7,o8,o9,o10,o11,o12] H:=by have #[xs,w,I]:=O;refine{_,Z,s,ns,0,Z,G.c.hS,G.c.hn,G.c.hb,λc H1 u _ _=>{_,_,Z,Z,(by lia:(0:Int)<8),_,_,Z,Z,_,Z,tl,xs,Z,.inl (aO.of (u _ _ w)),λp z=>?_}};have a:=cW c (show (8:Int)≠0 by lia);have b:=cM c (show (0:Int)<8 by lia);exact zhk (n:=1+c%8) (u.trans (u5 (o:=HO.lst xs) p z)) G () () w I l5 A J zo (zK u z) D T q
def zhm{a b:af}{us ws:yu}(hS:aO K H s (ns.map V.int))(O:ns.length<=63)(hb:∀i∈ns,Cb i)(h1:aT H a us)(h2:us.length=2)(h3:aT H b ws)(h4:ws.length=2)(J:gV H tl tab)(l5:tab.length<=5)(w:wD tab tab)(I:∀r∈tab,u3 r.2=U)(q:∀H',Q (.bl U) H') :
  zbR K t (u9 Q) [Y (.ref s),Y (.ref a),Y (.ref b),Y (.ref tl),o1,o2,o3,o7,o8,o9,o10,o11,o12] H:=
 {_,Z,_,Z,_,Z,s,a,b,ns,us,ws,Z,hS,O,hb,h1,h2,h3,h4,λcl vs CC H1 u T A cc=>{_,Z,_,Z,cl,tl,vs,CC,tab,Z,T,A,cc,J.same u,l5,w.1,I,λdv ps ts H2 c D du=>
  zhl {{hS.mono (u.trans c),O,hb,cc},c _ _ T,Paired.mapP A λ_ _ z=>z.same c} (J.same (u.trans c)) l5 w I D du q}}
def ziK{vs:LV}{_E:XK}(h:sp_law K vs H Q _E) :
  zgP K t (u9 Q) (zZZ 13 vs) H:=by have #[s,ns,rfl,A,u,w,q]:=h;refine{_,Z,s,ns,1,Z,A,u,w,λc1 H1 s1 _ _=>{c1,Z,λa us H2 s2 _ na la=>?_}};have S2:=s1.trans s2;refine{_,Z,s,ns,2,Z,A.mono S2,u,w,λc2 H3 O _ _=>{c2,Z,λb ws H4 J _ nb lb=>?_}};have S4:=S2.trans (O.trans J);refine{_,Z,s,ns,1,Z,A.mono S4,u,w,λc3 H5 c _ _=>{_,_,Z,Z,dB,_,Z,_,a,us,Z,na.same (O.trans (J.trans c)),la,λtl tab H6 I _ ht ri T l5=>?_}};have S6:=S4.trans (c.trans I);exact zhm (A.mono S6) u w (na.same (O.trans (J.trans (c.trans I)))) la (nb.same (c.trans I)) lb ht l5 (zlk ri λr z=>(T r z).2.2) (λr z=>(T r z).2.1) q
end
section
variable {a:RAd}
def Z3{k:Int}{xs e:LV}(R:aZ t H x a C s)(c:xT s.sl)(h0:σ[0]?=Y (Y (.ref x)))(u:σ[1]?=Y (Y (.ref p)))(A:H p=Y (.tup xs))(w:Ay xs k=Y (.ref te))(z:H te=Y (.tup e))(m:aW e)(q:∀H1,aJ H H1->fin t (rk s.sl e) Q E H1) :
  yo t.q01 "worth_of" (xF t) [] E (zk 0) (zj (aN (xR K) (zk 1) (tC (.int k))) zy) σ H Q:=
 {_,h0,x,_,_,Z,R.ix,Z,X0 u A w {x,te,e,a,C,s,Z,R,c,z,m,q}}
def zce{xs e:LV}{sh:Str}(R:aZ t H x a C s)(k:xT s.sl)(h0:σ[0]?=Y (Y (.ref x)))(I:σ[1]?=Y (Y (.ref p)))(O:H p=Y (.tup xs))(A:Ay xs 1=Y (.str sh))(z:Ay xs 2=Y (.ref te))(J:H te=Y (.tup e))(w:aW e)(u:∀i q H',rk s.sl e=.ok i->aJ H H'->H' q=Y (.tup [.str sh,.int i])->Q (.ref q) H')(m:∀c H',rk s.sl e=.error c->aJ H H'->zgN t c E H') :
  yo t.q01 "place_in" (xG t) [] E (zk 0) (zj (zk 1) zy) σ H Q:=
 {_,h0,x,_,_,Z,R.ix,Z,_,I,x,p,xs,sh,te,e,a,C,s,Z,R,k,O,A,z,J,w,u,m}
theorem zav{vs:LV}(F:RnF K t)(h:ZI t vs H Q E) :
  WI K t E (u9 Q) (zZZ 4 vs) H:=by
 have #[x,v,r,w,m,a,C,s,rfl,R,O,h2,I,h4,h5,q1,q2]:=h;have l1:=h4.l1;have l2:=h4.l2;have l4:=h4.l4;have so:=h4.so;cases r with
 |take sh e sl'=>
  unfold bv at O;unfold Zv at I;have #[r,te,rfl,_,_,u,e3]:=O;refine qy Z u Z (λ_=>?_) λz=>absurd Z z;refine{_,Z,x,_,_,Z,R.ix,Z,zce R so Z Z u Z Z e3 I (λi q H1 A c hq=>?_) λJ H1 A c=>q2 H1 J (by unfold Ai;simp only[A]) c};have T:=R.same c;refine{_,Z,x,q,(sh,i),w,a,C,s,Z,T,hq,by have:=h4.l3;lia,λH2 K2 R2=>?_};have aa:=R2.hs;rw[zgS] at aa;exact Zy Z R2.ix F.cl F.n4 Z (X0 Z (K2 _ _ (T.notup (c _ _ u)) (c _ _ u)) Z {_,_,Z,DPut.k (k:=.inr sl') aa (bM (by lia:_<=900) ()),q1 _ _ (by unfold Ai;simp only[A]) ((Kp.of_same c).trans (K2.trans (vK (.inr (.inl Z))))) (R2.putS _)})
 |give sh e f=>
  unfold bv at O;unfold Zv at I;have #[r,te,tf,rfl,_,_,_,u,e3,e4]:=O;refine qy Z u Z (λz=>absurd z ()) λ_=>qy Z u Z (λ_=>?_) λz=>absurd Z z;refine zce R so Z Z u Z Z e3 I.1 (λi q H1 A c hq=>?_) λJ H1 A c=>q2 H1 J (by unfold Ai;simp only[A]) c;have T:=R.same c;refine Z3 T so Z Z (c _ _ u) Z (c _ _ e4) I.2 λH3 s3=>?_;cases hk2:rk s.sl f with
  |error J=>exact AF.mpr (q2 H3 J (by unfold Ai;simp only[A,hk2]) (c.trans s3))
  |ok n=>
   have R3:=T.same s3;have ld:=wO s.gi;refine fin_ok.mpr (Zy Z R3.ix F.cl F.n5 Z {_,Z,_,_,Z,DPut.t (k:=zI (sh,i)) R3.hg (s3 _ _ hq) (bM (by lia:_<=900) ()),?_});rw[show xo (uU s.gi) (zI (sh,i)) (V.int n)=uU (s.gi++[((sh,i),n)]) from (Zu s.gi ((sh,i),n)).symm];exact q1 _ _ (by unfold Ai;simp only[A,hk2]) ((Kp.of_same (c.trans s3)).trans (vK (.inr (.inr (.inl Z))))) (R3.putG _)
 |lt sl' e=>
  unfold bv at O;unfold Zv at I;have #[r,te,rfl,_,_,u,e3]:=O;refine qy Z u Z (λz=>absurd z ()) λ_=>qy Z u Z (λz=>absurd z ()) λ_=>qy Z u Z (λ_=>?_) λz=>absurd Z z;refine Z3 R so Z Z u Z e3 I λH1 c=>?_;cases A:rk s.sl e with
  |error J=>exact AF.mpr (q2 H1 J (by unfold Ai;simp only[A]) c)
  |ok n=>
   have R2:=R.same c;exact fin_ok.mpr (Zy Z R2.ix F.cl F.n4 Z (X0 Z (c _ _ u) Z {_,_,Z,DPut.k (k:=.inr sl') R2.hs (bM (by lia:_<=900) ()),q1 _ _ (by unfold Ai;simp only[A]) ((Kp.of_same c).trans (vK (.inr (.inl Z)))) (R2.putS _)}))
 |say e=>
  unfold bv at O;unfold Zv at I;have #[r,te,rfl,_,_,u,e3]:=O;refine qy Z u Z (λz=>absurd z ()) λ_=>qy Z u Z (λz=>absurd z ()) λ_=>qy Z u Z (λz=>absurd z ()) λ_=>?_;unfold Ys yV tBM;refine Zy Z R.ix F.cl F.n7 Z {.inl {Z,_,aO.of R.ha},?_};refine Z3 R so Z Z u Z e3 I λH1 c=>?_;cases A:rk s.sl e with
  |error J=>exact AF.mpr (q2 H1 J (by unfold Ai;simp only[A]) c)
  |ok n=>
   have T:=R.same c;refine fin_ok.mpr {_,_,_,Z,Z,T.ha,bM (by rw[bn];lia:_<=900) (),?_};rw[show tJ V.int s.sa++[V.int n]=tJ V.int (s.sa++[n]) by simp];exact q1 _ _ (by unfold Ai;simp only[A]) ((Kp.of_same c).trans (vK (.inr (.inr (.inr (.inr Z)))))) (T.putA _)
 |off e=>exact h2.elim
 |iff e b d=>exact h2.elim
end
section
variable {a:RAd}
theorem zaw{vs:LV}{_E:XK}{P:AG}(T:Txt K P t)(h:kc t vs H Q _E) :
  WH K t (u9 Q) (zZZ 2 vs) H:=by
 have #[x,a,C,s,rfl,R,h2,h3,m,I]:=h;have F:=rnF T;refine{_,Z,x,_,_,Z,R.ix,Z,x,a,C,s,Z,R,λH1 k=>{_,Z,?_}};show if _ then _ else _
 have c:=R.same k;by_cases ho:yy C s=U
 .rw[ao ho];show if _ then _ else _
  rw[ao rfl];exact m H1 (by unfold j7;rw[ao ho]) k
 rw[ak ho];have #[xs,hx,pr]:=c.hc;have lx:=bG pr;have lt:=qJ ho;have hc:C[s.n]?=Y C[s.n]:=ba lt;have O:xs[s.n]?=Y xs[s.n]:=ba ();have cv:=xz pr O hc;have J:=h2 _ (eE lt);have es:j7 C s=kZ C[s.n] s:=by unfold j7;rw[ak ho,hc];rfl
 rw[es] at m I;have #[p,zs,hd,ev,hp,h0,ht,aa]:=zj2 cv;unfold yK aN;refine Zy Z c.ix F.cl F.n1 Z (Zy Z c.ix F.cl F.n2 Z {_,xs,_,_,Z,Z,aO.of hx,xS O,p,zs,0,_,ev,Z,uZ.of hp,h0,Z,_,Z,?_});show if _ then _ else _
 by_cases hh:hd=br "take"
 case neg=>
  rw[ao (by rw[Bk (λz=>hh (V.str.inj z))];rfl)];exact m H1 (aa hh s) k
 rw[ak (by rw[hh];decide)];have #[sh,e,sl,te,ec,a1,a2,ht]:=ht hh;rw[ec] at m I J;unfold zai Zv at J;refine{_,Z,x,_,_,Z,c.ix,Z,?_};unfold zj aN;refine Zy Z c.ix F.cl F.n1 Z (Zy Z c.ix F.cl F.n2 Z {_,xs,_,_,Z,Z,aO.of hx,xS O,?_});refine{x,p,zs,sh,te,e,a,C,s,by rw[ev];rfl,c,h3,hp,a1,a2,ht,J,λi q u A w hq=>?_,λer u A w=>?_}
 case refine_2=>
  have q':=m u (by unfold kZ;simp only[A]) (k.trans w);cases er with
  |nought=>exact{t.q08,Z,T.m_Nought_Great_Nought,q'}
  |great=>exact{t.q0a,Z,T.m_Great_Great_Nought,q'}
  |stuck=>trivial
 have R2:=c.same w;have g1:Ab u a.gi (.ref q) ((zE s.gi (sh,i)).map V.int):=.inr {uU s.gi,zI (sh,i),q,.inl R2.hg,Z,hq,(wN _ _).symm};have g2:Ab u a.no (.ref q) ((zE s.no (sh,i)).map V.int):=.inr {uU s.no,zI (sh,i),q,.inl R2.hn,Z,hq,(wN _ _).symm};refine{_,Z,?_};refine Zy Z R2.ix F.cl F.n5 Z {_,_,Z,g1,_,Z,?_};show if _ then _ else _
 cases hg:zE s.gi (sh,i) with
 |some j=>
  rw[ao (by rfl)];show if _ then _ else _
  rw[ao rfl];exact m u (by unfold kZ;simp only[A,hg];rfl) (k.trans w)
 |none=>
  rw[ak ()];refine{_,Z,?_};refine Zy Z R2.ix F.cl F.n6 Z {_,_,Z,g2,_,Z,?_};show if _ then _ else _
  cases hn:zE s.no (sh,i) with
  |some j=>
   rw[ao (by rfl)];exact m u (by unfold kZ;simp only[A,hg,hn];rfl) (k.trans w)
  |none=>
   rw[ak ()];refine{_,Z,?_};exact I (sh,i) q u (by unfold kZ;simp only[A,hg,hn];rfl) (k.trans w) hq
end
theorem zax{vs:LV}{_E:XK}{P:AG}(T:Txt K P t)(h:j9 t vs H Q _E) :
  WJ K t (u9 Q) (zZZ 2 vs) H:=by
 have #[x,w,m,a,C,s,rfl,R,h2,h3,h4,q]:=h;have F:=rnF T;refine{_,Z,x,_,_,Z,R.ix,Z,x,a,C,s,Z,R,λH1 u=>{_,Z,?_}};have c:=R.same u;by_cases ho:yy C s=U
 .exact yE ho (q H1 (.of_same u) (by unfold xh;rw[ao ho];exact c))
 refine yj (uq _ ▸ ho) ?_;have #[xs,hx,O]:=c.hc;have lx:=bG O;have lt:=qJ ho;have hc:C[s.n]?=Y C[s.n]:=ba lt;have hv:xs[s.n]?=Y xs[s.n]:=ba ();have cv:=xz O hv hc;have es:∀w,xh C w s=yP C[s.n] w s:=λw=>by unfold xh;rw[ak ho,hc]
 rw[es] at q;refine{_,Z,x,_,_,Z,c.ix,Z,yh c.ix F.cl F.n1 Z Z (yh c.ix F.cl F.n2 Z Z {a.co,xs,_,_,Z,Z,aO.of hx,xS hv,_,Z,x,_,C[s.n],w,m,a,C,s,Z,c,cv,h2 _ (eE lt),h3,h4,λH2 s' k e K2 R2=>{_,Z,x,_,_,_,Z,R2.ix,F.cl,F.n2,(),?_},λH2 er e I=>?_})}
 .have z:=R2.putI { s' with n:=k } rfl rfl rfl rfl;exact q _ ((Kp.of_same u).trans (K2.trans (vK (.inl Z)))) (by unfold yP;rw[e];exact z)
 .have A:=c.same I;have z:=A.putI { s with why:=Y (zbx er) } rfl rfl rfl rfl;have J:=q _ ((Kp.of_same u).trans ((Kp.of_same I).trans (vK (.inl Z)))) (by unfold yP;rw[e];exact z);cases er with
  |nought=>exact{t.q08,Z,.inr {T.q31,T.q32,_,Z,x,_,_,_,Z,A.ix,F.cl,F.n3,(),J}}
  |great=>exact{t.q0a,Z,.inl {T.q34,_,Z,x,_,_,_,Z,A.ix,F.cl,F.n3,(),J}}
  |stuck=>trivial
theorem ze6{m p:af}{ae aa:Int}{F:Ad}{g:zD}{lays:Aj}{c:Pl}(MF:MkF K t)(A:Ak t H m F g lays aa)(h2:aa<=ae)(h3:H p=Y (.tup [.str c.1,.int c.2]))(q:∀H',aJ H H'->Q (.int (yg g lays c ae)) H') :
  Kq K t (u9 Q) (zZZ 5 [.ref m,.ref p,.int ae]) H:=by
 have #[dx,gr,wo,rk,wk,kk,M]:=A.ex;refine{_,Z,m,_,_,Z,M.im,jF (),_,Z,m,_,_,_,_,Z,M.im,zj8,h2,λH1 s1=>?_};have M1:=M.keep A.me λb o _ e=>s1 _ _ e;refine(yh M1.im MF.cl MF.r Z zg1 {rk,Z,.inr {_,.inl M1.rr.at_},_,Z,(),λl hl=>?_});generalize c_:upd H1 l _=H2;have #[s2,q2]:=yI c_ hl;have S2:=s1.trans s2;have M2:=M1.keep A.me λb o _ e=>s2 _ _ e;have T:H2 p=Y (.tup ((zI c).map kV)):=S2 _ _ h3;refine{_,.t M2.rr.at_ T,?_};have gd:∀ {J:Hp}{σ:St},σ[0]?=Y (Y (.ref m))->σ[1]?=Y (Y (.ref p))->MrIn t J m F g lays aa dx gr wo rk wk kk->J p=Y (.tup ((zI c).map kV))->aJ H J->(∀r,jP lays c r->¬ r<ae)->VG (xg K (zk 0) "ground") (zk 1) (tC (.int 0)) σ J Q:=λ{J σ} e0 I M3 az S3 ac=>by
  refine(yh M3.im MF.cl MF.g e0 zlh {gr,Z,.inr {_,.inl M3.hg},_,I,_,.t M3.hg az,?_});have ev:yg g lays c ae=(zE g c).getD 0:=by
   unfold yg;obtain ⟨I,_⟩|⟨y,hy,w,I,e2,_⟩:=xH c ae lays (-1,(zE g c).getD 0)
   .rw[I]
   .exact absurd e2 (ac y.1 {y.2,hy,(wa (A.ok y hy).2.nd).mpr (by rw[I];exact nofun)})
  have e2:(yt (uU g) (zI c)).getD (V.int 0)=V.int ((zE g c).getD 0):=by rw[wN];cases zE g c <;> rfl
  rw[e2,<-ev];exact q J S3
 obtain ⟨a,rs,hk,hv,fa,ha,hs,hne,hi⟩|⟨hv,hk,ac⟩:=M2.rr.get c
 .rw[hv];refine{_,Z,_,Z,a,rs,_,Z,ha,hs,λk J O ai aP al=>{_,Z,Z,_,Z,?_}};have S3:=S2.trans O;have M3:=M2.keep A.me λb o _ e=>O _ _ e;by_cases h0:k=0
  .subst h0;exact yE Z (gd Z Z M3 (O _ _ T) S3 λr hr a3=>by have:=al r (by rw[dM];exact(hi r).mpr hr);lia)
  .refine yj (Bk λz=>h0 (by injection z with z;lia)) ?_;obtain⟨x,hx⟩:∃x,rs[k-1]?=Y x:={_,ba ()};have ek:(k:Int)-1=((k-1:Nat):Int):=by lia
   have #[gs,u,ar]:=(hi x).mp (bA hx);have #[d,v1,fd,nd,hd]:=zam M3.wp A.nd u;have an:=(A.ok _ u).2;obtain⟨w,hw⟩:∃w,zE gs c=Y w:=by
    cases e:zE gs c with
    |none=>exact absurd e ((wa an.nd).mp ar)
    |some w=>exact{w,Z}
   have vd:yt (uU gs) (zI c)=Y (.int w):=by rw[wN,hw];rfl
   refine(yh M3.im MF.cl MF.w Z zik {_,Z,_,Z,_,_,Z,Z,a,_,((k-1:Nat):Int),_,Z,congrArg V.int ek,aO.of (O _ _ ha),xS (j:=k-1) (by rw[bF,hx];rfl),wo,.ref d,Z,(show Ab J wo (kV (.inl x)) (Y (.ref d)) by rw[<-v1];exact .k M3.hw),_,Z,d,V.int w,Z,by rw[<-vd];exact .t hd (O _ _ T),?_});have xr:x<ae:=aP x (List.mem_iff_getElem?.mpr {k-1,by rw[dP,ao ()];exact hx});have x0:0<=x:=(A.ok _ u).1;have ev:yg g lays c ae=w:=by
    unfold yg;obtain ⟨I,e2⟩|⟨y,hy,w',I,e2,e3,e4,e5⟩:=xH c ae lays (-1,(zE g c).getD 0)
    .have:=e2 _ u (by show (-1:Int)<x;lia) xr;rw[this] at hw;cases hw
    .rw[e4];have yx:x<=y.1:=e5 _ u xr (by rw[hw];exact nofun);have yr:y.1∈rs:=(hi y.1).mpr {y.2,hy,(wa (A.ok y hy).2.nd).mpr (by rw[I];exact nofun)};have xy:y.1<=x:=by
      have:y.1∈rs.take k\/y.1∈rs.drop k:=bp.mp (by rw[cB];exact yr);obtain z|z:=this
      .have aS:k=k-1+1:=by lia
       rw[aS] at z;exact zdS hs hx _ z
      .have:=al _ z;lia
     have ey:y.1=x:=by lia
     have e6:y=(x,gs):=by
      have n1:=A.nd;have #[i,ag]:=cE hy;have #[j,aj]:=cE u;have a1:(lays.map (·.1))[i]?=Y x:=by rw[bF,ag,<-ey];rfl
      have a2:(lays.map (·.1))[j]?=Y x:=by rw[bF,aj];rfl
      have ij:=(iM (bd.mp a1).1 n1).mp (a1.trans a2.symm);rw[ij,aj] at ag;exact(bU ag).symm
     rw[e6] at I;rw[hw] at I;exact(bU I).symm
   rw[<-ev];exact q J S3
 .rw[hv];refine{_,Z,_,Z,l,[],_,Z,q2,gD,λk J O ai _ _=>{_,Z,Z,_,Z,?_}};obtain rfl:k=0:=pL.mp ai;exact yE Z (gd Z Z (M2.keep A.me λb o _ e=>O _ _ e) (O _ _ T) (S2.trans O) λr hr=>absurd hr (ac r))
theorem zay{E:XK}{J:xB}{tm sl:af}{ps:LV}{r:Except Er Int}(hK:gL K (.type "int") (.type "str")=Y am)(hJ:∀H:Hp,uZ K H t.q0v jw)(h1:H tm=Y (.tup ps))(h2:H sl=Y (.dK J))(h3:Good J ps r)(h4:∀v∈ps,qv v)(h5:ps.length<=1000)(h6:xT J)(q:∀H',aJ H H'->fin t r Q E H'):WG K t E (u9 Q) (zZZ 6 [.ref tm,.ref sl]) H:=by
 refine{(),λw hw=>{_,Z,tm,Z,{_,uZ.of ((u5 w hw) _ _ h1)},?_}};have m:=h3.1 [];have fe:∀ {e:Er}{H':Hp},vE J ps []=.error e->aJ H H'->fin t (.error e) Q E H':=λ{e H'} z s=>by
  rw[z] at m;cases r with
  |ok i=>cases m
  |error e'=>
   cases m;exact q _ s
 have ns:vE J ps []≠.error .stuck:=λz=>by
  rw[z] at m;cases r with
  |ok i=>cases m
  |error e'=>
   cases m;exact h3.2 rfl
 refine zfG ps (rkI J ps tm sl w H) {[],{_,_,_,Z},Z,(λx z=>nomatch z),bq _,zo,u5 w hw} (λi σ H' ⟨st,a,b,c,d,e,s⟩=>uZ.of (s _ _ h1)) ?_ ?_
 .rintro i v σ H' hv ⟨st,⟨o3,o4,o5,rfl⟩,hr,hW,hl,I,hS⟩;have hi:i<ps.length:=(bd.mp hv).1;have T:=zhL hr hv;have ok:=h4 v (bA hv);have fl:YY v=U:=by obtain ⟨j,rfl,_⟩|⟨x,rfl,_⟩:=ok <;> rfl
  have aa:∀ {l:ym}{d:Int}{H2:Hp}{o4 o5:Option V},vE J (ps.take (i+1)) []=.ok (l++[d])->(∀y∈l,u3 y=U)->u3 d=U->l.length<=i->H2 w=Y (.lst (l.map V.int))->aJ H H2->(Vg (.ref w) [.int d] H2 λ_ H3=>rkI J ps tm sl w H (i+1) [Y (V.ref tm),Y (V.ref sl),Y (V.ref w),Y v,o4,o5] H3):=λ{l d H2 o4 o5} A ai hd ll ag S2=>by
   refine{w,_,_,Z,Z,ag,?_,l++[d],{_,_,_,Z},A,?_,?_,?_,xL S2 hw}
   .rw[bn];exact bM (by lia:l.length<=1000) ()
   .intro y hy;obtain h|h:=bp.mp hy
    .exact ai y h
    .rw[bo.mp h];exact hd
   .rw[bh];show l.length+1<=i+1;lia
   .rw[bZ];exact zo
  refine{_,Z,t.q0v,jw,Z,.inr (hJ H'),fl,Z,_,Z,?_};by_cases c:inV v jw=U
  .refine yE c ?_;obtain ⟨l,a,b,rfl⟩|z:=zj1 st
   .obtain⟨x,rfl,hx⟩:∃x:Str,v=.str x/\x.length<=1000:=by
     obtain ⟨j,rfl,_⟩|h:=ok
     .exact absurd c (by rw[show inV (V.int j) jw=am from rfl];decide)
     .exact h
    have e1:tJ V.int (l++[a,b])=(l.map V.int++[.int a])++[.int b]:=by simp
    rw[e1] at I;have A:=T.trans (zgR c);have ln:(l++[a,b]).length=l.length+2:=by simp
    refine{_,Z,.inl {Z,_,aO.of I},w,_,_,Z,Z,I,JB,_,Z,.inl {Z,_,aO.of zo},w,_,_,Z,Z,by rw[Wd];exact zo,JB,_,Z,.inl {Z,_,aO.of zo},_,Z,_,Z,_,Z,x,a,b,Z,hx,hW a (by simp),hW b (by simp),λH2 s2=>?_};rw[Wd,Wd] at s2;have S2:aJ H H2:=(xL (xL hS hw) hw).trans s2;cases e:kS x a b with
    |ok d=>
     rw[e] at A;have hd:u3 d=U:=by
      unfold kS at e;split at e
      .cases e
      .split at e
       .rename_i z;cases e;exact z
       .cases e
     exact aa A (λy hy=>hW y (cz _ hy)) hd () (s2 _ _ zo) S2
    |error er=>
     rw[e] at A;have:=fe (zdv A) S2;cases er with
     |nought=>exact this
     |great=>exact this
     |stuck=>trivial
   .exact absurd (zdv (T.trans (z J v c))) ns
  .refine yj (uq _ ▸ c) ?_;have ac:vA J st v=.ok (st++[zfO J v]):=by unfold vA;rw[ak (by unfold isJ;exact c)]
   have O:=aa (o4:=o4) (o5:=o5) (T.trans ac) hW (za6 h6 ok) hl I hS;refine{_,Z,.inl {Z,_,aO.of I},?_};obtain ⟨j,rfl,hj⟩|⟨x,rfl,hx⟩:=ok
   .exact jg Z (.int j) hK (yj Z {_,Z,O})
   .refine jg Z (.str x) (wu _) (yE Z {_,Z,sl,Z,.inl {J,.inl (hS _ _ h2)},_,Z,_,Ab.k (k:=.inr x) (hS _ _ h2),?_});have ev:(yt J (.inr x)).getD (V.int 0)=V.int (zfO J (.str x)):=by
     show _=V.int (match yt J (.inr x) with|some (.int i)=>i|_=>0);cases e:yt J (.inr x) with
     |none=>rfl
     |some u=>
      have #[i,rfl,_]:=h6 _ _ e;rfl
    rw[ev];exact O
 .rintro σ H' ⟨st,⟨o3,o4,o5,rfl⟩,hr,hW,hl,I,hS⟩;rw[cU] at hr;rw[hr] at m;cases r with
  |error e=>cases m
  |ok i=>
   have e:st=[i]:=by injection m
   subst e;exact{_,Z,.inl {Z,_,aO.of I},w,_,_,Z,Z,I,Z,q _ (xL hS hw)}
theorem zea{m Bp dx gr wo rk:af}{ae aa:Int}{ys:LV}{F:Ad}{P:Pl->Int->Prop}{gs:zD}{kk:yd}{o3:Option V}(MF:MkF K t)(hm:H m=Y (.ins t.q02 dx (YK gr aa wo rk)))(hL:H Bp=Y (.lst ys))(nL:¬ F Bp)(hy:Bl (zbC H) ys (uU gs))(nd:(gs.map (·.1)).Nodup)(hP:∀r∈gs,P r.1 ae)(hr:uT H rk F P kk)(fk:F rk)(q:∀H' w,dl F rk H H'->Dm H H'->uT H' rk F (λp r=>P p r/\¬ (r=ae/\p∈gs.map (·.1))) w->Q .non H') :
  ZW K t (u9 Q) [Y (.ref m),Y (.int ae),Y (.ref Bp),o3] H:=by
 have mr:m≠rk:=zQ hm hr.at_ ();have ly:ys.length=gs.length:=by rw[bG hy,We nd,bn]
 refine{_,Z,Bp,Z,{_,aO.of hL},xD ys (taI m Bp rk ae ys F P gs H) {{_,Z},dl.refl,Dm.refl,kk,hr.eqv λp r=>by simp} (λi σ H' ⟨_,k,_⟩=>aO.of (k _ _ hL (λz=>nL (by rw[z];exact fk)) (.inr nL))) ?_ ?_}
 .rintro i u σ H' hu ⟨⟨o3,rfl⟩,k,dm,w,I⟩;have #[kv,O,p,rfl,T]:=Paired.getP hy hu;rw[We nd,bF] at O;have #[A,J,rfl]:=cr.mp O;have T:H p=Y (.tup ((zI A.1).map kV)):=T;have ag:H' p=Y (.tup ((zI A.1).map kV)):=k _ _ T (zQ T hr.at_ ()) (.inl nofun);have aj:=k _ _ hm mr (.inl nofun);have ai:A.1 ∉ (gs.take i).map (·.1):=λz=>by
   have #[j,hj]:=cE z;rw[bF,dP] at hj;split at hj
   .rename_i hji;have a1:(gs.map (·.1))[j]?=Y A.1:=by rw[bF];exact hj
    have a2:(gs.map (·.1))[i]?=Y A.1:=by rw[bF,J];rfl
    have:=(iM (bd.mp a1).1 nd).mp (a1.trans a2.symm);lia
   .cases hj
  have al:∀p r,((P p r/\¬ (r=ae/\p∈(gs.take i).map (·.1)))/\¬ (r=ae/\p=A.1))↔(P p r/\¬ (r=ae/\p∈(gs.take (i+1)).map (·.1))):=λp r=>by
   rw[cI,J,bZ,bp];have:p∈tJ (·.1) (Y A).toList↔p=A.1:=by simp
   rw[this];exact{λ⟨⟨a,b⟩,c⟩=>{a,λd=>d.2.elim (λe=>b {d.1,e}) λe=>c {d.1,e}},λ⟨a,b⟩=>{{a,λc=>b {c.1,.inl c.2}},λc=>b {c.1,.inr c.2}}}
  refine yh aj MF.cl MF.r Z zg1 {_,Z,_,Z,rk,p,ae,F,_,w,A.1,Z,I,fk,ag,{hP A (bA J),λz=>ai z.2},λH2 ac k2 d2 r2=>{{_,Z},k.trans k2,dm.trans d2,ac,r2.eqv al}}
 .rintro σ H' ⟨⟨o3,rfl⟩,k,dm,w,I⟩;rw[ly,cU] at I;exact q H' w k dm I
theorem zhn{D:Vt}{gv d m dx gr wo rk:af}{ae O:Int}{G:Ad}{c:zD}{l:Aj}{kk:yd}(MF:MkF K t)(hm:H m=Y (.ins t.q02 dx (YK gr O wo rk)))(hd:H d=Y (.dT (uU c)))(dr:d≠rk)(gf:Jw c)(hr:uT H rk G (jP l) kk)(ar:ae ∉ l.map (·.1))(ok:∀y∈l,Jw y.2)(hl:l.length<=200)(gk:G rk)(gn:∀b,H b=L->G b)(q:∀H' o4 u,dl G rk H H'->(∀b o,H b=Y o->∃o',H' b=Y o')->uT H' rk G (λp r=>jP l p r\/(r=ae/\p∈c.map (·.1))) u->ZX K t D [Y (.ref m),Y (.int ae),Y (.ref gv),Y (.ref d),o4] H') :
  ZY K t D [Y (.ref m),Y (.int ae),Y (.ref gv),Y (.ref d),L] H:=by
 have mr:m≠rk:=zQ hm hr.at_ ();have md:m≠d:=zQ hm hd ();refine{d,_,uU c,hd,.inl Z,λI=>?_};have f0:upd H d (.frz I (.dT (uU c))) d=Y (.frz I (.dT (uU c))):=zo;have aj:uT (upd H d (.frz I (.dT (uU c)))) rk G (jP l) kk:=hr.keep2 (by rw[zt dr.symm]) (λb xs _ e=>by rw[zt (zQ e hd ())];exact e) (λ_ z _=>z);have aP:upd H d (.frz I (.dT (uU c))) m=Y (.ins t.q02 dx (YK gr O wo rk)):=by rw[zt md];exact hm
 have d0:Dm H (upd H d (.frz I (.dT (uU c)))):=Dm.upd nofun
 have ai:∀ {H'},dl G rk (upd H d (.frz I (.dT (uU c)))) H'->dl G rk H (upd H' d (.dT (uU c))):=λ{H'} k b o e n z=>by
  by_cases eb:b=d
  .subst eb;rw[zo,<-hd];exact e
  .rw[zt eb];exact k b o (by rw[zt eb];exact e) n z
 have a5:∀b,upd H d (.frz I (.dT (uU c))) b=L->G b:=λb e=>gn b (by
  by_cases eb:b=d
  .subst eb;rw[zo] at e;cases e
  .rw[zt eb] at e;exact e)
 generalize upd H d (.frz I (.dT (uU c)))=H0 at *
 have kd:∀ {H'},dl G rk H0 H'->H' d=Y (.frz I (.dT (uU c))):=λ{H'} k=>k _ _ f0 dr (.inl nofun);refine{_,Z,d,I,uU c,Z,f0,zcG (lyI m gv d rk ae G (jP l) c H0) {{_,Z},dl.refl,Dm.refl,kk,aj.eqv λp r=>by simp} (λi σ H' ⟨_,k,_⟩=>kd k) ?_ ?_}
 .rintro i k v p σ H' ac hp ⟨⟨o4,rfl⟩,J,dm,u,A⟩;rw[We gf.nd,bF] at ac;have #[w,T,er]:=cr.mp ac;cases er;have aS:=J _ _ aP mr (.inl nofun);have aa:w.1 ∉ (c.take i).map (·.1):=λz=>by
   have #[j,hj]:=cE z;rw[bF,dP] at hj;split at hj
   .rename_i hji;have a1:(c.map (·.1))[j]?=Y w.1:=by rw[bF];exact hj
    have a2:(c.map (·.1))[i]?=Y w.1:=by rw[bF,T];rfl
    have:=(iM (bd.mp a1).1 gf.nd).mp (a1.trans a2.symm);lia
   .cases hj
  have a3:∀p r,((jP l p r\/(r=ae/\p∈(c.take i).map (·.1)))\/(r=ae/\p=w.1))↔(jP l p r\/(r=ae/\p∈(c.take (i+1)).map (·.1))):=λp r=>by
   rw[cI,T,bZ,bp];have:p∈tJ (·.1) (Y w).toList↔p=w.1:=by simp
   rw[this,and_or_left,or_assoc]
  have az:¬ (jP l w.1 ae\/(ae=ae/\w.1∈(c.take i).map (·.1))):=λz=>z.elim (λ⟨g2,h2,_⟩=>ar (bK.mpr {_,h2,Z})) λy=>aa y.2;have kl:u.length<=18900:=zg4 (l:=(ae,c)::l) A (λp r z=>z.elim (λ⟨g2,h2,h3⟩=>{g2,bt _ h2,h3}) λ⟨e,h3⟩=>{c,by rw[e];exact bw,(by
   have #[x,hx,rfl]:=bK.mp h3;exact bE (cH hx))}) (λy hy=>by
   obtain rfl|hy:=bC.mp hy
   .exact gf
   .exact ok y hy) (by rw[b7];lia)
  have a4:∀b,H' b=L->G b:=λb e=>a5 b (by
   cases e0:H0 b with
   |none=>rfl
   |some o=>have #[o',e',_]:=dm b o e0;rw[e] at e';cases e')
  have an:∀rs:ym,rs.Pairwise (· < ·)->(∀r∈rs,jP l w.1 r\/(r=ae/\w.1∈(c.take i).map (·.1)))->rs.length<=300:=λrs hs ag=>by have rl:rs.length<=((ae,c)::l).length:=zj9 (p:=w.1) hs λr hr=>(ag r hr).elim (λ⟨g2,h2,h3⟩=>{g2,bt _ h2,h3}) λy=>absurd y.2 aa;rw[b7] at rl;lia
  exact yh aS MF.cl MF.r Z zg1 {_,Z,_,Z,rk,p,ae,G,_,u,w.1,Z,A,gk,a4,hp,az,kl,an,λH2 al k2 d2 r2=>{{_,Z},J.trans k2,dm.trans d2,al,r2.eqv a3}}
 .rintro σ H' ⟨⟨o4,rfl⟩,J,dm,u,A⟩;rw[We gf.nd,bn,cU] at A;have D2:Dm H (upd H' d (.dT (uU c))):=(d0.trans dm).trans (Dm.upd nofun);refine{kd J,q _ o4 u (ai J) (λb o e=>let ⟨o',e',_⟩:=D2 b o e;{o',e'}) (A.keep2 (by rw[zt dr.symm]) (λb xs _ e=>by rw[zt (zQ e (kd J) ())];exact e) (λ_ z _=>z))}
theorem zho{m gv:af}{ae T:Int}{F:Ad}{g:zD}{lays:Aj}{gs:zD}(MF:MkF K t)(h1:Ak t H m F g lays T)(h2:T<=ae)(a7:0<=ae)(h3:gV H gv gs)(a5:¬ F gv)(h4:Jw gs)(h5:lays.length<=200)(q:∀H' F',(∀b o,¬ F b->H b=Y o->H' b=Y o)->(∀b zs,H b=Y (.tup zs)->H' b=Y (.tup zs))->Ak t H' m F' g (we lays ae gs) T->(∀b,F' b->F b\/H b=L)->(∀b,F b->F' b)->Q .non H') :
  zaj K t (u9 Q) (zZZ 5 [.ref m,.int ae,.ref gv]) H:=by
 have #[dx,gr,wo,rk,wk,kk,M]:=h1.ex;refine x8 M.im Z (jF ()) {_,Z,m,_,_,_,_,Z,M.im,zj8,h2,λH1 A=>?_};have M1:=h1.keep (H':=H1) λb o _ e=>A _ _ e;refine x8 (A _ _ M.im) Z (jF ()) {_,Z,m,ae,F,g,lays,T,Z,M1,λH2 F2 al aa O aP az=>?_};clear M wk kk gr wo rk dx;have #[xs,hx,hp]:=h3;have a3:=al _ _ a5 (A _ _ hx);have a4:Bl (PrAt H2) xs gs:=Paired.mapP hp λ_ _ ⟨r,p,e,e1,w⟩=>{r,p,e,aa _ _ (A _ _ e1),aa _ _ (A _ _ w)};refine{_,Z,gv,xs,gs,Z,a3,a4,by have:=h4.le;lia,λd hd=>?_};generalize c_:upd _ d _=H3;have #[s3,q3]:=yI c_ hd;have #[dx,gr,wo,rk,wk,kk,M2]:=O.ex;have u:=M2.keep O.me λb o _ e=>s3 _ _ e;have a1:¬ F2 d:=λz=>by have #[o,e]:=O.own d z;rw[hd] at e;cases e
 have dr:d≠rk:=λz=>a1 (by rw[z];exact M2.fk);have hl:(Kd lays ae).length<=200:=bI (mG _ _) h5;have aj:∀b,H2 b=L->H b=L:=λb e=>by
  cases w:H b with
  |none=>rfl
  |some o=>
   exfalso;by_cases fb:F b
   .have #[o',e']:=O.own b (az b fb);rw[e] at e';cases e'
   .have:=al _ _ fb (A _ _ w);rw[e] at this;cases this
 refine zhn (G:=λb=>F2 b\/H2 b=L) MF u.im q3 dr h4 (u.rr.keep (F':=λb=>F2 b\/H2 b=L) u.fk (λb o _ e=>e) (λ_ z=>.inl z)) JI (λy hy=>(O.ok y hy).2) hl (.inl M2.fk) (λb e=>.inr (zK s3 e)) λH4 o4 a2 ke dm J=>?_;have ag:=ke _ _ u.im (zQ u.im u.rr.at_ ()) (.inl nofun);have c:=ke _ _ u.hw (zQ u.hw u.rr.at_ ()) (.inl nofun);have ar:=ke _ _ u.hg u.nr (.inl nofun);have ai:=ke _ _ q3 dr (.inl nofun);have wl:wk.length<=200:=by rw[bG M2.wp];exact hl
 refine{_,Z,yh ag MF.cl MF.w Z zik {_,Z,wo,_,Z,(.k (k:=.inl ae) c (by rw[bN];lia)),?_}};rw[jr _ (zan u.wp JI)];have mw:m≠wo:=zQ ag c ();have gw:gr≠wo:=zQ ar c ();have aS:rk≠wo:=zQ J.at_ c ();have dw:d≠wo:=zQ ai c ();have I:∀b o,b≠wo->H4 b=Y o->upd H4 wo (HO.dK (wk++[(.inl ae,V.ref d)])) b=Y o:=λb o n e=>by rw[zt n];exact e
 have w5:upd H4 wo (HO.dK (wk++[(.inl ae,V.ref d)])) wo=Y (HO.dK (wk++[(.inl ae,V.ref d)])):=zo;have a8:∀b o,H3 b=Y o->∃o',upd H4 wo (HO.dK (wk++[(.inl ae,V.ref d)])) b=Y o':=λb o e=>by
  by_cases eb:b=wo
  .subst eb;exact{_,w5}
  .have #[o',e']:=dm b o e;exact{o',I _ _ eb e'}
 generalize upd H4 wo (HO.dK (wk++[(.inl ae,V.ref d)]))=H5 at *
 refine q H5 (λb=>F2 b\/(H2 b=L/\∃o,H5 b=Y o)) (λb o nf e=>?_) (λb zs e=>?_) ?_ (λb z=>?_) λb z=>.inl (az b z)
 .have w:=al _ _ nf (A _ _ e);have ac:¬ F2 b:=λz=>(aP b z).elim nf λy=>by rw[A _ _ e] at y;cases y
  have nr:b≠rk:=λz=>ac (by rw[z];exact M2.fk);have nw:b≠wo:=λz=>ac (by rw[z];exact M2.fw);exact I _ _ nw (ke _ _ (s3 _ _ w) nr (.inr λz=>z.elim ac λy=>by rw[w] at y;cases y))
 .have w:=s3 _ _ (aa _ _ (A _ _ e));have e4:=ke _ _ w (zQ w u.rr.at_ ()) (.inl nofun);exact I _ _ (zQ e4 c ()) e4
 .refine{λb z=>z.elim (λf=>let ⟨o,e⟩:=O.own b f;a8 b o (s3 _ _ e)) λy=>y.2,.inl O.me,?_,?_,dx,gr,wo,rk,_,a2,I _ _ mw ag,.inl M2.fg,.inl M2.fw,.inl M2.fk,M2.nr,I _ _ gw ar,w5,?_,?_}
  .unfold we;rw[bZ,dh];refine{O.nd,by simp,λx hx y hy=>?_};have:y=ae:=by simpa using hy
   rw[this];exact λz=>JI (l:=lays) (r:=ae) (by have h:=hx;rw[z] at h;exact h)
  .intro y hy;obtain hy|hy:=bp.mp hy
   .exact O.ok y hy
   .rw[bo.mp hy];exact{a7,h4}
  .refine Paired.snocP (Paired.mapP u.wp λ_ _ ⟨e,d',w,fd,an,a6⟩=>?_) {Z,d,Z,.inr {hd,_,I _ _ dw ai},dr,I _ _ dw ai};have e4:=ke _ _ a6 an (.inl nofun);exact{e,d',w,.inl fd,an,I _ _ (zQ e4 c ()) e4}
  .refine(J.keep2 (F':=λb=>F2 b\/(H2 b=L/\∃o,H5 b=Y o)) ((I _ _ aS J.at_).trans J.at_.symm) (λb xs _ e=>I _ _ (zQ e c ()) e) (λb z ex=>z.imp id λy=>{y,ex})).eqv λp r=>?_;unfold we;constructor
   .rintro(⟨g2,h6,h7⟩|⟨rfl,h7⟩)
    .exact{g2,cz _ h6,h7}
    .exact{gs,bQ _ (bo.mpr Z),h7}
   .rintro⟨g2,h6,h7⟩;obtain h6|h6:=bp.mp h6
    .exact .inl {g2,h6,h7}
    .cases bo.mp h6;exact .inr {Z,h7}
 .obtain z|z:=z
  .exact(aP b z).imp id λy=>zK A y
  .exact .inr (aj b z.1)
theorem JV{vs:LV}{_E:XK}(k:MkF K t)(h:vP t vs H Q _E) :
  kJ K t (u9 Q) (zZZ 2 vs) H:=by
 have #[x,h,dx,ah,rfl,A,h2,h3,q]:=h;have #[xs,hx,hp]:=h2;have #[lb,P,_]:=PO.init A {_,A};unfold kJ zL;refine{_,Z,h,xs,ah,Z,hx,hp,(),P.so (.dT (uU ah)) 4 () () Z k.cl k.g () λI H1 T P=>P.st Z k.cl k.f () λH2 P=>P.so (.dK []) 5 () () Z k.cl k.w () λwo H3 O P=>P.so (.dT []) 6 () () Z k.cl k.r () λrk J m P=>?_};have w:∀n c o,(n,c,o)∈_->J c=Y o/\m c=n:=λn c o z=>(P.ob (n,c,o) z).2;have o6:=w 6 rk _ (.head _);have o5:=w 5 wo _ (.tail _ (.head _));have u:=w 4 I _ (.tail _ (.tail _ (.head _)));refine q J (λb=>m b≠0) P.kp {P.ow,(by rw[P.lx];decide),cY,(λ_ h=>(nomatch h)),dx,I,wo,rk,[],[],P.hx,(by rw[u.2];decide),(by rw[o5.2];decide),(by rw[o6.2];decide),(λz=>by rw[z,o6.2] at u;exact absurd u.2 ()),u.1,o5.1,.nil,o6.1,cY,cY,λ_ h=>(nomatch h),λp r ⟨_,h,_⟩=>(nomatch h)} λb z=>?_;obtain y|y|y:=P.fr b z
 .exact .inl y
 .exact .inl y
 .exact .inr y
def jh{p:Prop}[Decidable p]{A Bn:Prop}(a:p->A)(b:¬ p->Bn):if decide p=U then A else Bn:=by
 by_cases h:p
 .exact yE (Bj h) (a h)
 .exact yj (Bk h) (b h)
theorem zaz{i:Int}(m:zh5 K)(q:∀H',aJ H H'->Q (.bl (u3 i)) H') :
  ZR K t (u9 Q) (zZZ 1 [.int i]) H:=by
 have q:=q H (aJ.refl H);unfold ZR zL xc tOr Yk;have k:(10:Int)^(30:Int).toNat=1000000000000000000000000000000:=by lia
 refine jg Z (.int i) (wu _) (yj Z (jg Z (.int i) m (yj Z {_,_,Z,Z,zgQ () (),_,Z,_,Z,_,_,Z,Z,_,Z,jh (λc=>{_,_,Z,Z,zgQ () (),_,_,Z,Z,?_}) λc=>?_})))
 .rw[k] at c ⊢;have e:u3 i=decide (i<=1000000000000000000000000000000):=by
   unfold u3;by_cases h:i<=1000000000000000000000000000000
   .rw[Bj h,Bj {c,h}]
   .rw[Bk h,Bk λz=>h z.2]
  rw[e] at q;exact q
 .rw[k] at c;have e:u3 i=am:=Bk λz=>c z.1;rw[e] at q;exact q
section
variable {x:Str}{c:Int}
theorem ze7{J:Option V}(z:xx x=U)(q:∀m ws H',aJ H H'->H m=L->aT H' m ws->ws.length=2->Q (.ref m) H') :
  ZO K t (u9 Q) [Y (.int c),Y (.str "abcdefghijklmnopqrstuvwxyz"),J,Y (.str x),L,L] H:=by
 have #[h1,h2,h3]:=zdV z;have u:=cW (c/6) (b:=(x.length:Int)) ();have A:=cM (c/6) (b:=(x.length:Int)) ();have w:x.length<=Bb:=xM ();refine{_,Z,_,_,Z,Z,dB,_,Z,.str x,x.length,Z,{w,Z},_,_,Z,Z,by show (0:Int)<x.length;lia,?_};obtain⟨k,ek⟩:∃k:Nat,c/6%(x.length:Int)=k:={(c/6%(x.length:Int)).toNat,(oh u).symm};dsimp only;rw[ek] at u A ⊢;have #[y,O,my]:=zdJ (xs:=x.cps.toList) (i:=(k:Int)) u (by rw[<-Y3];exact A);have I:(br "abcdefghijklmnopqrstuvwxyz").length<=Bb:=by lia
 have f1:=cW (zdu (br "abcdefghijklmnopqrstuvwxyz") ⟨#[y]⟩+1+c/36%25) (b:=26) ();have f2:=cM (zdu (br "abcdefghijklmnopqrstuvwxyz") ⟨#[y]⟩+1+c/36%25) (b:=26) ();have #[d,T,ld]:=zg6 f1 f2;exact{_,Z,_,Z,Z,_,Z,_,Z,x,k,y,Z,Z,w,O,_,_,Z,Z,_,_,Z,Z,_,Z,_,_,Z,Z,dB,_,_,Z,Z,(),_,_,Z,Z,_,_,Z,Z,(),_,_,d,Z,Z,I,T,zeV (t:=t) z () ld q}
end
section
variable {f:LV}
theorem zhp{m:Int}(od:okD m)(hp:∃xs,H p=Y (.lst xs)/\Ay xs 1=Y (.int m))(w:xx sh=U)(k:xx sl=U)(T:aW e0)(pe:tmP e0)(hs:H sp=Y (.tup e0))(fs:Hb sp=L)(A:aW f)(I:tmP f)(J:H tp=Y (.tup f))(O:Hb tp=L)(S:aJ Hb H)(q:∀v r H',aJ Hb H'->bv (λb=>Hb b=L) H' v r->rwW r->Q v H') :
  Kf K t (u9 Q) [Y (.ref p),Y (.ref a),Y (.ref b),Y (.int kd),Y (.str sh),Y (.str sl),Y (.ref sp),Y (.ref tp)] H:=by
 have #[ts,ps]:=Xw (u:=.str sl) (.inr {sl,Z,k});have #[xs,h1,h2]:=hp;refine{_,Z,_,_,Z,Z,_,Z,jh (λ_=>{_,Z,_,Z,_,Z,(),λr c=>?_}) λ_=>{_,Z,_,_,Z,Z,_,Z,jh (λ_=>{_,Z,_,Z,_,Z,(),λr c=>?_}) λ_=>{_,Z,Z,_,Z,jh (λ_=>{_,Z,_,Z,(),λr c=>?_}) λ_=>{_,Z,Z,_,Z,jh (λ_=>{_,Z,(),λr c=>?_}) λ_=>{_,Z,Kr Z h1 h2 {_,_,Z,Z,(),_,_,Z,Z,(),λp2 z=>{(),λr c=>?_}}}}}}}
 .exact q _ (.take sh e0 sl) _ (S.trans (u5 r c)) {r,sp,Z,zK S c,fs,zo,u5 r c _ _ hs} {trivial,{Yh w,pe,Yh k},T}
 .exact q _ (.give sh e0 f) _ (S.trans (u5 r c)) {r,sp,tp,Z,zK S c,fs,O,zo,u5 r c _ _ hs,u5 r c _ _ J} {trivial,{Yh w,pe,I},{T,A}}
 .exact q _ (.lt sl f) _ (S.trans (u5 r c)) {r,tp,Z,zK S c,O,zo,u5 r c _ _ J} {trivial,{Yh k,I},A}
 .exact q _ (.say f) _ (S.trans (u5 r c)) {r,tp,Z,zK S c,O,zo,u5 r c _ _ J} {trivial,I,A}
 .have s3:=u5 (o:=HO.tup [V.str sl,V.int (m%3+1),V.str (br "same")]) p2 z;have jw:wdJ (br "same"):={(),(),()};have #[t2,p3]:=Xw (u:=.int (m%3+1)) (.inl {_,Z,AS.mpr ()});exact q _ (.off ([.str sl]++[.int (m%3+1)]++[.str (br "same")])) _ (S.trans (s3.trans (u5 r c))) {r,p2,Z,zK (S.trans s3) c,zK S z,zo,u5 r c _ _ zo} {trivial,(by unfold V6;exact zdR ps p3 jw),(by unfold Zv;exact Qv ts t2 jw (by simp))}
end
section
variable {c:Int}
theorem Kx{vs:LV}{_E:XK}(h:jm vs H Q _E) :
  Xr K t (u9 Q) (zZZ 6 vs) H:=by
 have #[c,rfl,q]:=h;have g1:=cW c (b:=6) ();have g2:=cM c (b:=6) ();obtain⟨m,em⟩:∃m:Nat,1+c%6=m:={(1+c%6).toNat,()};refine{Z,_,Z,_,Z,_,_,Z,Z,(by lia:(0:Int)<6),_,_,Z,Z,c,m,congrArg (λz=>[V.int c,V.int z]) em,(),λl ds H1 T fl hl ld od=>{l,Z,{_,aO.of hl},λD hD=>?_}};have lm:(ds.map V.int).length=ds.length:=bn ..;refine qe (J:=Itl K l) ds.length () (λI=>∃o,I=[o,Y (.str "abcdefghijklmnopqrstuvwxyz")]) (λi ys _=>ys.length=i/\∀v∈ys,zlD v) (λ_ _ _ _ _ h=>h) {_,Z} {Z,nofun} (λi H s h=>{_,_,aO.of (s _ _ hl),ba (by rw[lm];exact h)}) (λH s=>{_,aO.of (s _ _ hl),by rw[lm];exact bq _}) hD ?_ ?_
 .rintro i v I us H2 H' ⟨o,rfl⟩ s hi ⟨l9,hR⟩ _ ⟨rfl,k⟩;have k:=k _ (aO.of (s _ _ hl));have #[e,_,rfl]:=bK.mp (bA k);have f1:=cW e (b:=26) ();have f2:=cM e (b:=26) ();have #[d,hd,ld]:=zg6 f1 f2;exact yE (R:=False) Z {_,Z,_,Z,_,_,Z,Z,(by lia:(0:Int)<26),_,_,d,Z,Z,(),hd,{_,Z},{by rw[bh,l9];rfl,λu z=>(bp.mp z).elim (hR u) λy=>by rw[bo.mp y];exact{d,Z,ld}},aJ.refl _}
 .intro ys H2 _ ⟨A,k⟩ s hq;have #[ls,rfl,hp]:=zdO (P:=λx=>∃c,x=⟨#[c]⟩/\inL c=U) (ys:=ys) λv w=>by have #[c,e,h]:=k v w;exact{_,e,c,Z,h}
  rw[bn] at A;have #[j1,j2,j3]:=zb0 hp;have jc:=zfK ls;have jl:(K0 (br "") ls).length=ls.length:=by rw[Y3,jc,j1]
  have sl:=QT (br "") ls 0;refine{_,D,ls,Z,Z,aO.of hq,?_,_,Z,_,Z,{(),(),by unfold Xp;rw[jc];exact j2},λx H3 hx O=>?_}
  .unfold zfJ;rw[sl,j3,show (br "").length=0 from by lia];exact xM ()
  .exact ze7 hx λnm ws H' s' fn hn l2=>q nm ws H' (T.trans (s.trans (O.trans s'))) (zK T (zK s (zK O fn))) hn l2
end
end
abbrev Ba(P:au)(w:av)(K:bL)(k:AG)(c:aw):=pv P w K k c (CX1 P w)
section
variable {P:au}{w:av}{K:bL}{mg:AG}{base:aw}{t:uQ}(T:Txt K mg t)
include T
theorem wd:Ba P w K mg base 1 t.a0 t.d0 ["word"] (xK):=by
 refine T.g0.f.okA Xm λvs H Q E h=>{?_,λ_ _ _ _ J=>{_,(zd (zR (zC XQ (B 0) (zY (qw (x:="take") (qw (x:="give") (qw (x:="let") (qw (x:="say") (qw (x:="off") (qw (x:="if") (qw (x:="else") (qw (x:="end") (qw (x:="as") ze)))))))))) (by with_unfolding_all rfl)) (zm (zA (zu vD (B 0) zO)))
   zG) (zd (zR (zC XQ (B 0) (zY (zc zO (zc zO (zc zO (zc zO (zc zO (zc zO (zc zO ze)))))))) (by with_unfolding_all rfl)) (zm (zA (zu vD (B 0) zO)))
    zG) (zm (zA (B 0))))),by
   have #[w,rfl,h,q]:=h;have #[h1,O,_]:=id h;refine{_,Z,(),λp A=>{p,wl,Z,.inr (uZ.of zo),Z,(),_,Z,?_}};have u:=u5 (o:=HO.tup wl) p A;have I:(br "z").length=1:=by lia
   by_cases c:inV (.str w) wl=U
   .exact yE c {_,Z,_,_,Z,Z,xM (),q _ _ (zli (by rw[zdU,c,Bool.or_true])) u}
   refine yj (gF.mpr c) {_,Z,(),λz k=>{z,jw,Z,.inr (uZ.of zo),Z,(),_,Z,?_}};have m:=u.trans (u5 (o:=HO.tup jw) z k);by_cases c2:inV (.str w) jw=U
   .exact yE c2 {_,Z,_,_,Z,Z,xM (),q _ _ (zli (by rw[zdU,c2,Bool.true_or])) m}
   .exact yj (gF.mpr c2) {_,Z,q _ _ (ziq h (gF.mpr c2) (gF.mpr c)) m}}}
 have #[w,rfl,_]:=h;rfl
theorem wJ:Ba P w K mg base 1 t.a1 t.d1 ["cell","many"] (wG):=by
 refine T.g1.f.okA q0h λvs H Q E h=>{?_,λ_ _ _ _ hr=>{_,(zd (zx 2 q0h.nd (yQ ze)) (zd (zx 3 q0h.nd (zu yc (zu zS (B 0) zi) zi)) (zd (zx 4 q0h.nd (zu yc (zu zS (zu zT (B 0) zi) zi) zi)) (zd (x5 cO Z (Z7 Z T.q12 (zc (B 1) ze)) (yB 5 q0h.nd) (zd (zx 3 q0h.nd (zu zS (zu yc (zu yc (zu wx (B 3) (B 3)) (zu wx zi (B 4))) (B 5)) zi)) (zd (zx 4 q0h.nd (zu zS (zu yc (zu yc (zu wx (B 4) (B 3)) (zu wx zi (B 3))) zi) zi)) (zm (zN (x9 bO cg ck yC (B 2) (zc (zu yc (zu wx (B 3) zi) (B 4)) ze))))))) (zm (zA (B 2))))))),by
   have #[c,m,rfl,hm,q]:=h;refine{(),λl hl=>?_};generalize c_:upd H l _=H0;have #[s0,e0]:=yI c_ hl;unfold zL yF zM;show aN ad (zk 0) (tC (.int 1000003)) _ _ _;refine zbY (λ_ q=>{_,Z,q}) () λA a1 a2=>{_,_,Z,Z,?_};show aN ad (aN aE (zk 0) (tC (.int 1000003))) (tC (.int 999983)) _ _ _;refine zbY (λ_ q=>{_,Z,_,_,Z,Z,dB,q}) () λu a3 a4=>{_,_,Z,Z,?_};refine{_,Z,m,Z,(),(),VO (drI c m l H) {[],A+17,u+29,{_,Z},s0,e0,Z,(λd z=>nomatch z),(),(),(),()} ?_ ?_}
   .rintro i σ H1 hi ⟨ds,x,y,⟨o5,rfl⟩,s1,J,li,od,A,x1,u,y1⟩;have hi:i<m:=by lia
    show aN _ _ (tC (.int 1000003)) _ _ _;refine zbY (λ_ q=>{_,Z,_,Z,_,_,Z,Z,mS A x1 A x1,_,Z,_,_,Z,Z,mS () () u y1,_,_,Z,Z,_,Z,_,_,Z,Z,q}) () λx' I n2=>?_;have k:x'<1000100:=by lia
    dsimp only;refine zbY (λ_ q=>{_,Z,_,Z,_,_,Z,Z,mS u y1 I k,_,Z,_,_,Z,Z,mS () () I k,_,_,Z,Z,_,_,Z,Z,q}) () λO n3 n4=>?_;have aa:O<1000100:=by lia
    refine{_,Z,.inl {Z,_,aO.of J},_,Z,_,_,Z,Z,mS I k () (),_,Z,_,_,Z,Z,l,_,_,Z,Z,J,bM (by rw[bn];lia:_<=120) (),ds++[x'*999983+O],x',O,{_,Z},xL s1 hl,by rw[bZ];exact zo,by rw[bh,li];rfl,λd hd=>?_,I,k,n3,aa};obtain hd|hd:=bp.mp hd
    .exact od d hd
    .rw[bo.mp hd];exact{(),()}
   .rintro σ H1 ⟨ds,x,y,⟨o5,rfl⟩,s1,J,li,od,_⟩;exact{_,Z,q l ds H1 s1 hl J (by simpa using li) od}}}
 have #[c,m,rfl,_]:=h;rfl
theorem XC:Ba P w K mg base 2 t.a2 t.d2 ["cell"] (jm):=by
 refine T.g2.f.okA q0k λvs H Q E h=>{?_,λ_ _ _ _ k=>{Xr K t,(zd (Yz (i:=1) q0k.nd Z (sC Z) zO) (zd (zx 2 q0k.nd (x9 rq PySem.F.slot_str_join PySem.F.type_str_join zhK zO (zc (qq Z (osc:=zq Zz) (N:=["cell","letters","word","one","at","letter"]) (xs:=["number"]) (ix:=[1]) () (xj (u4 (wJ T) T.g1 k zw (zc (B 0) (zc (zu yc zi (zu zS (B 0) zi)) ze)))) (λ_ _ _ _=>(vM (i:=0) (show gJ (["number","letters"]:yu) from ()) Z (m6 Z) (.inr Z))) (λ_ _ _ _=>jR) (λ_ _ _ _=>(zF zcq (B 1) (zu zS (B 0) zi)))) ze))) (zd (zx 3 q0k.nd (u4 (wd T) T.g0 k zw (zc (B 2) ze))) (zd (zx 4 q0k.nd (zu zS (zu zT (B 0) zi) (zP yv Z T.q06 xv (zc (B 3) ze)))) (zd (zx 5 q0k.nd (zF zcq (B 1) (zu zS (zu yc (zu yc (x9 rq PySem.F.slot_str_find PySem.F.type_str_find zhJ (B 1) (zc (zF zcq (B 3) (B 4)) ze)) zi) (zu zS (zu zT (B 0) zi) zi)) zi))) (zd (zR (PW.pt (Yy (zC yA (zu zS (zu zT (B 0) zi) zi) zi (zJ _)) (qk (zC jq (zP yv Z T.q06 xv (zc (B 3) ze)) zi (zJ _))))) (zm (zA (yQ (zc (B 3) (zc (u4 (wd T) T.g0 k zw (zc (zu vD (B 3) (B 5)) ze)) ze)))))
    zG) (zd (zR (PW.pt (Yy (zC yA (zu zS (zu zT (B 0) zi) zi) zi (zJ _)) (qk (zC jq (zP yv Z T.q06 xv (zc (B 3) ze)) zi (zJ _))))) (zm (zA (yQ (zc (u4 (wd T) T.g0 k zw (zc (zu vD (B 5) (B 3)) ze)) (zc (B 3) ze)))))
    zG) (zm (zA (yQ (zc (B 3) (zc (u4 (wd T) T.g0 k zw (zc (zu vD (zu vD (xJ zfC (B 3) ji (xm (B 4))) (B 5)) (xJ zfC (B 3) (xm (zu yc (B 4) zi)) ji)) ze)) ze)))))))))))),Kx h}}
 have #[c,rfl,_]:=h;rfl
theorem vx:Ba P w K mg base 1 t.a3 t.d3 ["number"] (Jt):=by
 refine T.g3.f.okA Jl λvs H Q E h=>{?_,λ_ _ _ _ u=>{_,(zd (zR (zC yA (zu zS (B 0) zi) zi (zJ _)) (zm (zA (zu vC (zu zS (zu wx (B 0) (zu YA zi zi)) (zu yc (zu wx zi (zu YA zi zi)) zi)) (zu YA zi zi))))
   zG) (zm (zA (zu vC (zu zS (zu zT (B 0) zi) zi) zi)))),by
   have #[n,rfl,A,z,q]:=h;have m:=zgQ (j:=30) () ();have c:(10:Int)^(30:Int).toNat=1000000000000000000000000000000:=by lia
   have k:(1000000007:Int)^(3:Int).toNat=1000000021000000147000000343:=by lia
   refine{_,Z,_,_,Z,Z,(),Z,_,Z,jh (λ_=>{_,Z,_,_,Z,Z,{(),(),()},_,_,Z,Z,mB () () (by rw[k];lia) (by rw[k];lia),_,_,Z,Z,m,_,_,Z,Z,mB () () (by rw[c];lia) (by rw[c];lia),_,_,Z,Z,_,_,Z,Z,by rw[c];show (0:Int)<2*1000000000000000000000000000000+1;decide,_,_,Z,Z,m,_,_,Z,Z,?_}) λ_=>{_,Z,_,_,Z,Z,dB,_,_,Z,Z,(),_,_,Z,Z,q _ _ (AS.mpr ()) (aJ.refl _)}};rw[c,k];exact q _ _ zkb (aJ.refl _)}}
 have #[n,rfl,_]:=h;rfl
theorem Ky:Ba P w K mg base 2 t.a4 t.d4 ["cell","shelves"] (kF):=by
 refine T.g4.f.okA q0o λvs H Q E h=>{?_,λ_ _ _ _ m=>{_,(zd (zx 2 q0o.nd (u4 (wJ T) T.g1 m zw (zc (B 0) (zc zi ze)))) (zd (Yz (i:=3) q0o.nd Z (sC Z) kP) (zd (x5 cO Z (Z7 Z T.q12 (zc (zu zS (B 0) zi) ze)) (yB 4 q0o.nd) (zd (zx 5 q0o.nd (u4 (vx T) T.g3 m zw (zc (zF zU (B 2) (zu yc (B 4) zi)) ze))) (zm (zR (zC Wk (B 5) zi (zJ _)) (zm (vO (yY m) (B 3) (zY (zc (zF zU (B 1) (zu zS (zF zU (B 2) (B 4)) zi)) (zc (zu zS (zu zT (zF zU (B 2) (B 4)) zi) zi) ze))) (B 5) Z))
    zG)))) (zm (zA (qq Z (osc:=zq qA) (N:=["cell","shelves","xs","found","k","worth"]) (xs:=["place"]) (ix:=[3]) () (xj (zP (Y6 Z) Z T.q13 Yc (zc (B 3) ze))) (λ_ _ _ _=>(vM (i:=0) (show gJ (["place","found"]:yu) from ()) Z (m6 Z) (.inr Z))) (λ_ _ _ _=>jR) (λ_ _ _ _=>(zY (zc (B 0) (zc (vg (yY m) (B 1) (B 0) (λ_ _=>rfl)) ze)))))))))),by
   have #[c,a,ws,rfl,h1,h2,q]:=h;refine{_,Z,c,10,Z,(),λx ds H1 s1 fx hx ld od d hd=>?_};have g1:=cW c (b:=6) ();have g2:=cM c (b:=6) ();have I:=u5 (o:=HO.dT []) d hd;have S2:=s1.trans I;have fd:=zK s1 hd;refine{_,Z,_,_,Z,Z,(),c%6,Z,(),(),VO (tbI c a x d H1) {[],{_,_,Z},I,zo,bq _,nofun} ?_ ?_}
   .rintro i σ H' hi ⟨ah,⟨o1,o2,rfl⟩,s,hD,hl,m⟩;rw[Int.zero_add];have lm:(ds.map V.int).length=ds.length:=bn ..;have O:aO K H' x (ds.map V.int):=aO.of (s _ _ hx);have aa:=h1.same (s1.trans s);have i6:i<6:=by lia
    have ac:∀ {j:Nat},j<10->Ay (ds.map V.int) ((j:Nat):Int)=Y (.int (ds.getD j 0))/\okD (ds.getD j 0):=λ{j} hj=>by
     have hj:j<ds.length:=by lia
     have e:ds.getD j 0=ds[j]:=by rw[bD,ba hj];rfl
     exact{xS (by rw[bF,ba hj,e];rfl),by rw[e];exact od _ (eE hj)}
    have #[e5,o5]:=ac (j:=i+5) ();have #[e0,o0]:=ac (j:=i) ();generalize ds.getD (i+5) 0=u at *
    generalize ds.getD i 0=v at *
    refine{_,Z,_,Z,_,_,Z,Z,x,_,((i+5:Nat):Int),_,Z,Z,O,e5,u,Z,o5.1,o5.2,λw H2 hw I=>{_,Z,Z,_,Z,?_}};by_cases w0:w=0
    .exact yj (by rw[w0];rfl) {ah,{_,_,Z},s.trans I,I _ _ hD,(),m}
    refine yE (by rw[Bk (λz=>w0 (V.int.inj z))];rfl) ?_;have #[sh,aj,_,ai]:=zbW (aa.same I) 2 h2 () v;have J:=O.mono I;refine{_,Z,_,Z,_,Z,_,Z,_,Z,x,_,i,_,Z,Z,J,e0,_,_,Z,Z,(),a,_,v%2,_,Z,Z,aO.of (aa.same I).1,aj,_,Z,_,Z,x,_,i,_,Z,Z,J,e0,_,_,Z,Z,dB,_,_,Z,Z,(),(),λp hp=>?_};have s5:=u5 (o:=HO.tup [V.str sh,V.int (v/2%3)]) p hp;have S5:=I.trans s5;have lD:=wO ah;refine{d,_,Z,DPut.t (k:=zI (sh,v/2%3)) (S5 _ _ hD) zo (bM (by lia:_<=900) ()),ah++[((sh,v/2%3),w)],{_,_,Z},xL (s.trans S5) hd,?_,by simp;lia,?_}
    .rw[Zu];exact zo
    .intro z hz;obtain hz|hz:=bp.mp hz
     .exact m z hz
     .rw[bo.mp hz];exact{Yh ai,hw,λz=>w0 z}
   .rintro σ H' ⟨ah,⟨o1,o2,rfl⟩,s,hD,hl,m⟩;have lD:=wO ah;refine zi5 (ah:=ah) Z Z hD () (λp q0 w H' A Bn hw _ a _=>yE (P:=A H') (R:=Bn H') Z (a (m _ (v7 hw)).2.2)) λl ag H3 s3 al ho T lo=>?_;have S:=s1.trans s;exact q l ag H3 (S.trans s3) (zK S al) ho T.1 (λr h=>m _ (v7 ((T.2 r.1 r.2).mp h).1)) ()}}
 have #[c,a,ws,rfl,_]:=h;rfl
theorem JW(n:Nat)(m:Ba P w K mg base (2+2*n) t.a6 t.d6 ["rows","first"] (vZ n)):Ba P w K mg base (2+2*n+1) t.a5 t.d5 ["row","at"] (ZG n):=by
 refine T.g5.f.okA q0w (k:=2+2*n) λvs H Q E h=>?_;have #[v,e,a,b,k,rfl,I,A,z,u,q]:=h;exact{Z,λ_ _ _ _ c=>{ZP K t n,(zd (zx 2 q0w.nd (YX (pv.mono m ()) c Z T.g6.m T.g6.f.kp T.g6.b .nil zw (zc (zF ya (B 0) zi) (zc (zu yc (B 1) zi) ze)))) (zd (zx 3 q0w.nd (zu yc (zu yc (B 1) zi) (zP yv Z T.q06 xv (zc (B 2) ze)))) (zd (zR (zC (za5 (za4 c)) (zF ya (B 0) zi) (yQ ze) (zJ _)) (zm (zA (zu kC (yQ (zc (zY (zc zO (zc (zF ya (B 0) zi) (zc (B 3) ze)))) ze)) (B 2))))
    zG) (zd (zx 4 q0w.nd (YX (pv.mono m ()) c Z T.g6.m T.g6.f.kp T.g6.b .nil zw (zc (zF ya (B 0) zi) (zc (zu yc (B 3) zi) ze)))) (zm (zA (zu kC (zu kC (zu kC (yQ (zc (zY (zc zO (zc (zF ya (B 0) zi) (zc (zu yc (B 3) zi) ze)))) ze)) (B 2)) (yQ (zc (zY (zc zO (zc (zu yc (zu yc (B 3) zi) (zP yv Z T.q06 xv (zc (B 4) ze))) ze))) ze))) (B 4)))))))),W9 I A z u q}}
theorem zcf:∀n,pv P w K mg base (CX1 P w) (2+2*n) t.a6 t.d6 ["rows","first"] (vZ n):=by
 intro n;induction n with
 |zero=>exact{λvs H Q E h=>(Xt h).elim,λA c s H u us vs Q E m he hb O h=>(Xt h).elim}
 |succ n IH=>
 refine T.g6.f.okA q14 (k:=2+2*n+1) λvs H Q E h=>?_;have #[v,r,k,rfl,J,I,z,q]:=h;exact{Z,λ_ _ _ _ m=>{WF K t n,(zd (zx 2 q14.nd (yQ ze)) (zd (x5 cO Z (xj (B 0)) (yB 3 q14.nd) (zm (zR (zC yA (zF ya (B 3) zi) zO (zJ _)) (zm (zN (x9 bO PySem.F.slot_list_extend PySem.F.type_list_extend zeo (B 2) (zc (YX (pv.mono (JW T n IH) ()) m Z T.g5.m T.g5.f.kp T.g5.b .nil zw (zc (B 3) (zc (zu yc (B 1) (zP yv Z T.q06 xv (zc (B 2) ze))) ze))) ze)))) (zm (zN (x9 bO cg ck yC (B 2) (zc (B 3) ze))))))) (zm (zA (B 2))))),zak J I z q}}
theorem JX:Ba P w K mg base 15 t.a7 t.d7 ["rows"] (vG):=by refine T.g7.f.okA zcR λvs H Q E h=>?_;have #[v,r,rfl,m,k,u,q]:=h;exact{Z,λ_ _ _ _ c=>{_,(zm (zA (u4 (zcf T 6) T.g6 c zw (zc (B 0) (zc zi ze))))),({_,Z,v,r,0,Z,m,k,(),q})}}
theorem zaA:Ba P w K mg base 2 t.a8 t.d8 ["number","slots"] (Xq):=by
 refine T.g8.f.okA q1e λvs H Q E h=>{?_,λ_ _ _ _ hr=>{_,(zd (zx 2 q1e.nd (zu zS (B 0) zi)) (zd (zR (zC jq (B 2) zi (zJ _)) (zm (zA (zY (zc (zu zS (zu zT (B 0) zi) zi) ze))))
    zG) (zd (zR (zC yA (B 2) zi (zJ _)) (zm (zA (zY (zc (zF zU (B 1) (zu zS (zu zT (B 0) zi) zi)) ze))))
    zG) (zd (zR (PW.pt (Yy (zC yA (B 2) zi (zJ _)) (qk (zC yA (zu zS (zu zT (B 0) zi) zi) zi (zJ _))))) (zm (zA (zY (zc zi (zc (zF zU (B 1) (zu zS (zu zT (B 0) zi) zi)) (zc zO ze))))))
    zG) (zd (zR (zC yA (B 2) zi (zJ _)) (zm (zA (zY (zc (zF zU (B 1) (zu zS (zu zT (B 0) zi) zi)) (zc zi (zc zO ze))))))
    zG) (zm (zA (zY (zc (u4 (vx T) T.g3 hr zw (zc (zu zT (B 0) zi) ze)) ze))))))))),by have #[n,a,ws,rfl,h1,A,z,q]:=h;have u:wdJ (br "over"):={(),(),()};have m:wdJ (br "rest"):={(),(),()};unfold zL xc QB yF;refine zbY (λ_ q=>{_,Z,q}) () λk k0 O=>?_;have fin:∀ {e:LV}{H1:Hp},aJ H H1->e.length<=3->aW e/\tmP e->zel .tup Q e H1:=λs l h=>{bI l (),λp I=>q p _ _ (s.trans (u5 p I)) (zK s I) zo h.1 h.2};refine{_,Z,_,_,Z,Z,_,Z,Y0 (λ_=>zbY (zbZ dB Z) () λk k0 O=>fin (aJ.refl _) (by lia:1<=3) (Xw (.inl {_,Z,AS.mpr ()}))) λ_=>{_,Z,Z,_,Z,Y0 (λ_=>zaq A z Z (zbZ dB Z) λx c=>fin (aJ.refl _) (by lia:1<=3) (lx c)) λ_=>?_}};refine zka (λJ=>{_,Z,Z,_,Z,Y0 (λ_=>{_,Z,_,_,Z,Z,dB,_,_,Z,Z,(by lia:(0:Int)<3),Z,_,Z,Y0 (λ_=>zaq A z Z (zbZ dB Z) λx c=>fin (aJ.refl _) (bq 3) (tm3 (Xw (.inl {7,Z,()})) (lx c) u)) λ_=>J}) λ_=>J}) ?_;have o:=zg5 (k:=5) h1 ();exact{_,Z,Z,_,Z,Y0 (λ_=>zaq A z Z (zbZ dB Z) λx c=>fin (aJ.refl _) (bq 3) (tm3 (lx c) (Xw (.inl {3,Z,()})) m)) λ_=>{_,Z,_,_,Z,Z,dB,_,Z,o.1,o.2,λw H' hw s=>fin s (by lia:1<=3) (Xw (.inl {_,Z,hw}))}}}}
 have #[n,a,ws,rfl,_]:=h;rfl
theorem XD:Ba P w K mg base 2 t.a9 t.d9 ["number","slots"] (qD):=by
 refine T.g9.f.okA q15 λvs H Q E h=>{?_,λ_ _ _ _ hr=>{_,(zd (zx 2 q15.nd (yQ (zc zO (zc zO (zc zO (zc zO (zc zO (zc zO (zc zO ze))))))))) (zd (zx 3 q15.nd (zu zS (B 0) zi)) (zd (zR (zC yA (B 3) zi (zJ _)) (zm (zA (zY (zc (u4 (vx T) T.g3 hr zw (zc (zu zT (B 0) zi) ze)) ze))))
    zG) (zd (zR (zC yA (B 3) zi (zJ _)) (zm (zA (zY (zc (zF zU (B 1) (zu zS (zu zT (B 0) zi) zi)) ze))))
    zG) (zd (zR (zC yA (zu zS (zu zT (B 0) zi) zi) zi (zJ _)) (zm (zA (zY (zc (zF zU (B 1) (zu zS (zu zT (B 0) zi) zi)) (zc (u4 (vx T) T.g3 hr zw (zc (zu zT (B 0) zi) ze)) (zc (zF zU (B 2) (zu vC (B 3) zi)) ze))))))
    zG) (zm (zA (zY (zc (zF zU (B 1) (zu zS (zu zT (B 0) zi) zi)) (zc (zF zU (B 1) (zu zS (zu zT (B 0) zi) zi)) (zc (zF zU (B 2) (zu vC (B 3) zi)) ze))))))))))),by have #[n,a,ws,rfl,h1,c,A,q]:=h;have fin:∀ {e:LV}{H1:Hp},aJ H H1->e.length<=3->aW e/\tmP e->zel .tup Q e H1:=λs l h=>{bI l (),λp hp=>q p _ _ (s.trans (u5 p hp)) (zK s hp) zo h.1 h.2};unfold zL xc yF;refine{(by lia:7<=Bb),λl hl=>?_};generalize c_:upd H l _=H0;have #[m,e0]:=yI c_ hl;have e0:H0 l=Y (.lst tw8):=e0;have c:=c.same m;have o:=zg5 (k:=9) h1 ();have o':=zg5 (k:=36) h1 ();refine zbY (σ:=[Y (.int n),Y (.ref a),Y (.ref l),L]) (te:=zk 0) (n:=9) (λ_ q=>{_,Z,q}) () λk k0 k1=>?_;refine{_,Z,Z,_,Z,Y0 (λ_=>{_,Z,_,_,Z,Z,dB,_,Z,o.1,o.2,λw H' I s=>fin (m.trans s) (by lia:1<=3) (Xw (.inl {_,Z,I}))}) λO=>{_,Z,Z,_,Z,Y0 (λ_=>zaq c A Z (zbZ dB Z) λx u=>fin m (by lia:1<=3) (lx u)) λJ=>?_}};have O:k≠0:=λe=>O (Bj (congrArg V.int e));have J:k≠1:=λe=>J (Bj (congrArg V.int e));have #[y,hy,jy]:=zkc (i:=k-2) () ();exact{_,Z,_,_,Z,Z,dB,_,_,Z,Z,(by lia:(0:Int)<2),Z,_,Z,Y0 (λ_=>zaq c A Z (zbZ dB Z) λx u=>{_,Z,_,_,Z,Z,dB,_,Z,o'.1,o'.2,λw H' I s=>{_,Z,_,Z,_,_,Z,Z,_,_,_,_,Z,Z,aO.of (s _ _ e0),hy,fin (m.trans s) (bq 3) (tm3 (lx u) (Xw (.inl {_,Z,I})) jy)}}) λ_=>zaq c A Z (zbZ dB Z) λx u=>zaq c A Z (zbZ dB Z) λz nz=>{_,Z,_,Z,_,_,Z,Z,_,_,_,_,Z,Z,aO.of e0,hy,fin m (bq 3) (tm3 (lx u) (lx nz) jy)}}}}
 have #[n,a,ws,rfl,_]:=h;rfl
theorem WL:Ba P w K mg base 3 t.a10 t.d10 ["xs","shelves","slots"] (v3):=by
 refine T.g10.f.okA q0l λvs H Q E h=>{?_,λ_ _ _ _ hr=>{_,(zd (zx 3 q0l.nd (zu zS (zF zU (B 0) zi) zi)) (zd (zx 4 q0l.nd (zF zU (B 1) (zu zS (zu zT (zF zU (B 0) zi) zi) zi))) (zd (zx 5 q0l.nd (zF zU (B 2) (zu zS (zu zT (zF zU (B 0) zi) zi) zi))) (zd (zx 6 q0l.nd (u4 (zaA T) T.g8 hr zw (zc (zF zU (B 0) zi) (zc (B 2) ze)))) (zd (zx 7 q0l.nd (u4 (XD T) T.g9 hr zw (zc (zF zU (B 0) zi) (zc (B 2) ze)))) (zd (zR (zC jq (B 3) zi (zJ _)) (zm (zA (zY (zc zO (zc (B 4) (zc (B 6) (zc (B 5) ze)))))))
    zG) (zd (zR (zC jq (B 3) zi (zJ _)) (zm (zA (zY (zc zO (zc (B 4) (zc (B 6) (zc (B 7) ze)))))))
    zG) (zd (zR (zC yA (B 3) zi (zJ _)) (zm (zA (zY (zc zO (zc (B 5) (zc (B 7) ze))))))
    zG) (zd (zR (zC yA (B 3) zi (zJ _)) (zm (zA (zY (zc zO (zc (B 7) ze)))))
    zG) (zm (zA (zY (zc zO (zc (zY (zc (B 5) (zc (zu yc (zu zS (zF zU (B 0) zi) zi) zi) (zc zO ze)))) ze)))))))))))))),by
   have #[p,a,b,ds,us,ws,rfl,c,h2,h3,h4,h5,I,A,q]:=h
   match ds,h2 with
   |[x0,x1,x2],_=>
   have O:=h3 x1 (.tail _ (.head _));have o2:=h3 x2 (.tail _ (.tail _ (.head _)));unfold zL yF zM;refine zbY (λ_ q=>Kr Z c Z q) () λk _ _=>?_;refine zaq h4 h5 Z (λ_ q=>Kr Z c Z {_,_,Z,Z,dB,q}) λsh z=>?_;refine zaq I A Z (λ_ q=>Kr Z c Z {_,_,Z,Z,dB,q}) λsl u=>?_;refine Kr Z c Z {_,Z,_,_,ws,Z,O,I,A,λsp e H1 m fs hs te pe=>?_};refine Kr Z (m _ _ c) Z {_,Z,_,_,ws,Z,o2,I.same m,A,λtp f H2 J ft ht tf pf=>?_};have S:=m.trans J;exact zhp (t:=t) O {_,S _ _ c,Z} z u te pe (J _ _ hs) fs tf pf ht (zK m ft) S q}}
 have #[p,a,b,ds,us,ws,rfl,_]:=h;rfl
theorem XE:Ba P w K mg base 4 t.a11 t.d11 ["cell","shelves","slots"] (xU):=by
 refine T.g11.f.okA q0i λvs H Q E h=>{?_,λ_ _ _ _ k=>{Xs K t,(zd (Yz (i:=3) q0i.nd Z (sC Z) (u4 (wJ T) T.g1 k zw (zc (B 0) (zc zi ze)))) (zd (VJ (j:=4) q0i.nd Z Z (m6 Z) (osc:=zq ZA) (N:=["cell","shelves","slots","xs","rows","at","to","row"]) (xs:=["k"]) (ix:=[3,1,2]) () (Z7 Z T.q12 (zc (zu zS (B 0) zi) ze)) (λ_ _ _ _=>(vM (i:=0) (show gJ (["k","xs","shelves","slots"]:yu) from ()) Z (m6 Z) (.inr Z))) (λ_ _ _ _=>jR) (λ_ _ _ _=>(u4 (WL T) T.g10 k zw (zc (xJ wL (B 1) (xm (zu wx zi (B 0))) (xm (zu yc (zu wx zi (B 0)) zi))) (zc (B 2) (zc (B 3) ze)))))) (zd (zR (zC yA (zu zS (zu zT (B 0) zi) zi) zi (zJ _)) (zd (zx 5 q0i.nd (zu zS (zF zU (B 3) zi) (zu yc (zP yv Z T.q06 xv (zc (B 4) ze)) zi))) (zd (zx 6 q0i.nd (zu yc (B 5) (zu zS (zF zU (B 3) zi) (zu vC (zu yc (zP yv Z T.q06 xv (zc (B 4) ze)) zi) (B 5))))) (zd (zx 7 q0i.nd (zY (zc zO (zc (u4 (XD T) T.g9 k zw (zc (zF zU (B 3) zi) (zc (B 2) ze))) (zc (xJ wL (B 4) (xm (B 5)) (xm (B 6))) (zc (xJ wL (B 4) ji (xm (zu zS (zF zU (B 3) zi) zi))) ze)))))) (zm (zx 4 q0i.nd (zu kC (zu kC (xJ wL (B 4) ji (xm (B 5))) (yQ (zc (B 7) ze))) (xJ wL (B 4) (xm (B 6)) ji)))))))
   zG) (zm (zA (B 4)))))),Ks h}}
 have #[c,a,b,us,ws,rfl,_]:=h;rfl
theorem yw:Ba P w K mg base 1 t.a12 t.d12 ["script","k"] (ye K):=by
 refine T.g12.f.okA WV λvs H Q E h=>{?_,λ_ _ _ _ u=>{_,(zd (zR (zC jq (B 1) (zP yv Z T.q06 xv (zc (B 0) ze)) (zJ _)) (zm (zA (zF zU (B 0) (B 1))))
   zG) (zm (zA zi))),by
   have #[a,ns,k,rfl,c,hl,m,q]:=h;refine{_,Z,_,Z,.ref a,ns.length,Z,.inl {_,c,(bn ..).symm},_,_,Z,Z,_,Z,jh (λe=>?_) λe=>q _ _ (aJ.refl _) (Cb.of ()) ?_}
   .have e:k<ns.length:=by lia
    exact{_,Z,_,Z,a,_,_,_,Z,Z,c,xS (by rw[bF,ba e];rfl),q _ _ (aJ.refl _) (m _ (eE e)) (by rw[bD,ba e];rfl)}
   .rw[bD,cR ()];rfl}}
 have #[a,ns,k,rfl,_]:=h;rfl
theorem Kz:Ba P w K mg base 16 t.a13 t.d13 ["script","shelves","slots"] (vQ K):=by
 refine T.g13.f.okA q0m λvs H Q E h=>{?_,λ_ _ _ _ c=>{kI K t,(zd (VJ (j:=3) q0m.nd Z Z (m6 Z) (osc:=zq vi) (N:=["script","shelves","slots","codes","kind","xs"]) (xs:=["cell"]) (ix:=[1,2]) () (xj (xJ wL (B 0) (xm zi) (xm zi))) (λ_ _ _ _=>(vM (i:=0) (show gJ (["cell","shelves","slots"]:yu) from ()) Z (m6 Z) (.inr Z))) (λ_ _ _ _=>jR) (λ_ _ _ _=>(u4 (JX T) T.g7 c zw (zc (u4 (XE T) T.g11 c zw (zc (B 0) (zc (B 1) (zc (B 2) ze)))) ze)))) (zd (zx 4 q0m.nd (zu zS (zu zT (u4 (yw T) T.g12 c zw (zc (B 0) (zc zi ze))) zi) zi)) (zd (zR (zC yA (B 4) zi (zJ _)) (zd (Yz (i:=5) q0m.nd Z (sC Z) (u4 (wJ T) T.g1 c zw (zc (zu yc (u4 (yw T) T.g12 c zw (zc (B 0) (zc zi ze))) zi) (zc zi ze)))) (zm (zx 3 q0m.nd (zu kC (B 3) (qq Z (osc:=zq vi) (N:=["script","shelves","slots","codes","kind","xs"]) (xs:=["x"]) (ix:=[1,2]) () (xj (B 5)) (λ_ _ _ _=>(vM (i:=0) (show gJ (["x","shelves","slots"]:yu) from ()) Z (m6 Z) (.inr Z))) (λ_ _ _ _=>jR) (λ_ _ _ _=>(u4 (JX T) T.g7 c zw (zc (u4 (XE T) T.g11 c zw (zc (zu yc (zu wx zi (B 0)) (zu zS (B 0) zi)) (zc (B 1) (zc (B 2) ze)))) ze))))))))
   zG) (zd (zR (zC yA (B 4) zi (zJ _)) (zd (Yz (i:=5) q0m.nd Z (sC Z) (u4 (wJ T) T.g1 c zw (zc (zu yc (u4 (yw T) T.g12 c zw (zc (B 0) (zc zi ze))) zi) (zc zi ze)))) (zm (zN (x9 bO cg ck yC (B 3) (zc (qq Z (osc:=zq vi) (N:=["script","shelves","slots","codes","kind","xs"]) (xs:=["k"]) (ix:=[5,1,2]) () (Z7 Z T.q12 (zc zi ze)) (λ_ _ _ _=>(vM (i:=0) (show gJ (["k","xs","shelves","slots"]:yu) from ()) Z (m6 Z) (.inr Z))) (λ_ _ _ _=>jR) (λ_ _ _ _=>(u4 (WL T) T.g10 c zw (zc (xJ wL (B 1) (xm (zu wx zi (B 0))) (xm (zu yc (zu wx zi (B 0)) zi))) (zc (B 2) (zc (B 3) ze)))))) ze)))))
   zG) (zm (zA (B 3))))))),JT h}}
 have #[s,a,b,ns,us,ws,rfl,_]:=h;rfl
def WM:Ba P w K mg base 1 t.a14 t.d14 ["self","code"] (ZH t):=by
 refine T.q1y.ok0 zbG (λvs H Q E h=>?_) (λz A c s H vs Q E I h=>?_)
 .have #[x,l,dx,xs,C,rfl,_]:=h;rfl
 have #[x,l,dx,xs,C,rfl,u,m,k,q]:=h;exact{ZQ K t,(zd (yS (f:="code") (B 0) (yz yZ Z T.q09 xA (zc (B 1) ze)) Z) (zd (yS (f:="at") (B 0) zi Z) (zd (yS (f:="why") (B 0) x4 Z) (zd (yS (f:="slots") (B 0) Zo Z) (zd (yS (f:="gifts") (B 0) kP Z) (zd (yS (f:="notes") (B 0) kP Z) (zm (yS (f:="sayings") (B 0) (yQ ze) Z)))))))),Ku (rnF T) u m k q}
theorem v9:Ba P w K mg base 1 t.a15 t.d15 ["self"] (j8 t):=by
 refine T.g15.f.okA zbH λvs H Q E h=>{?_,λ_ _ _ _ m=>{_,(zm (zA (zky (jQ Ve (zH (B 0) Z) x4 (zJ _)) (Vv (jQ ziN (zH (B 0) Z) (zP yv Z T.q06 xv (zc (zH (B 0) Z) ze)) (zJ _)))))),by
   have F:=(rnF T);have #[x,a,C,s,rfl,R,q]:=h;have #[xs,k,c]:=R.hc;have lx:=bG c;have q:=q H λ_ _ z=>z;refine(yh R.ix F.cl F.n3 Z Z {Z,_,Z,?_});cases hw:s.why with
   |some w=>
    have e:yy C s=U:=by unfold yy;rw[hw];rfl
    rw[e] at q;exact yE Z q
   |none=>
    refine yj Z (yh R.ix F.cl F.n2 Z Z (yh R.ix F.cl F.n1 Z Z {.ref a.co,xs.length,Z,.inl {_,aO.of k,Z},_,_,Z,Z,?_}));have e:yy C s=decide ((xs.length:Int)<=(s.n:Int)):=by unfold yy;rw[hw,lx];simp
    rw[e] at q;exact q}}
 have #[x,a,C,s,rfl,_]:=h;rfl
theorem XG:Ba P w K mg base 2 t.a16 t.d16 ["self"] (qC t):=by
 refine T.g16.f.okA q1f λvs H Q E h=>{?_,λ_ _ _ _ hr=>{_,(zd (zR (wE (xi (ve (B 0) T.q05 (v9 T) T.g15 hr zw))) (zm (zA x4))
   zG) (zd (zx 1 q1f.nd (yz (WT Z) Z T.q09 xA (zc (zbt (zH (B 0) Z)) ze))) (zd (zR (zC Ve (zH (B 0) Z) x4 (zJ _)) (zm (zA (zY (zc (zY (zc zO (zc (zH (B 0) Z) ze))) (zc (B 1) (zc (yQ ze) ze))))))
    zG) (zm (zA (zY (zc (zY (zc zO (zc (yz JZ Z T.b_tuple VL (zc (zH (B 0) Z) ze)) ze))) (zc (B 1) (zc (zP (Y9 Z (hu3 hr)) Z T.q13 Yc (zc (zbt (zH (B 0) Z)) ze)) ze))))))))),by
   have F:=(rnF T);have #[x,a,C,s,rfl,R,h2,h3,h4,q1,q2]:=h;refine(x8 R.ix Z Z {x,a,C,s,Z,R,λH1 k=>{_,Z,?_}});have R1:=R.same k;cases ho:yy C s with
   |false=>exact yE Z (q1 H1 ho k)
   |true=>
    refine yj Z (yh R1.ix F.cl F.n6 Z Z {a.no,_,Z,R1.hn,λr hr=>?_});generalize c_:upd H1 r _=Hv;have #[sv,ev]:=yI c_ hr;refine{r,a.no,uU s.no,Z,ev,sv _ _ R1.hn,(by have:=wO s.no;lia),λl ys H2 s2 fl hl pr=>?_};have S2:=sv.trans s2;have R2:=R1.same S2;have nl:H l=L:=zK (k.trans sv) fl;rw[We h3] at pr;have pn:=zgz pr;have c:=R2.ix;unfold zjY at c;cases hw:s.why with
    |some w=>
     rw[hw] at c;refine(yh c F.cl F.n3 Z Z {Z,_,Z,yE Z (yh c F.cl F.n3 Z Z {(),λp hp=>?_})});generalize c1:upd H2 p _=H3;have #[J,e1]:=yI c1 hp;refine{_,Z,(),λg u=>?_};generalize c2:upd H3 g _=H4;have #[I,e2]:=yI c2 u;refine{(),λO m=>?_};have t3:=u5 (o:=HO.tup [V.ref p,V.ref l,V.ref g]) O m;have T3:=J.trans (I.trans t3);refine q2 O (.ref p) l g [] _ ho (k.trans (S2.trans T3)) nl (zK (k.trans (S2.trans J)) u) (λz=>by rw[<-z,J _ _ hl] at u;cases u) zo ?_ {ys,T3 _ _ hl,Xu T3 pn} {[],t3 _ _ e2,.nil} ?_
     .unfold zcV;rw[hw];exact{p,Z,(I.trans t3) _ _ e1}
     .unfold k9;rw[hw]
    |none=>
     rw[hw] at c;refine(yh c F.cl F.n3 Z Z {Z,_,Z,yj Z (yh c F.cl F.n7 Z Z {a.sa,_,Z,.inl {aO.of R2.ha,λy hy=>?_}})});generalize c1:upd H2 y _=H3;have #[J,e1]:=yI c1 hy;refine{(),λp hp=>?_};generalize c2:upd H3 p _=H4;have #[I,e2]:=yI c2 hp;have A:=J.trans I;have R3:=R2.same A;refine{_,Z,yh R3.ix F.cl F.n5 Z Z {a.gi,_,Z,R3.hg,λr3 ac=>?_}};generalize c3:upd H4 r3 _=H5;have #[t4,e4]:=yI c3 ac;refine{r3,a.gi,s.gi,Z,e4,t4 _ _ R3.hg,(by have:=wO s.gi;lia),λg zs aa H6 s6 fg u ps ri mi=>{(),λO m=>?_}};have t5:=u5 (o:=HO.tup [V.ref p,V.ref l,V.ref g]) O m;have T5:=(t4.trans s6).trans t5;have q:H4 g=L:=zK t4 fg;refine q2 O (.ref p) l g aa _ ho (k.trans (S2.trans (A.trans T5))) nl (zK (k.trans (S2.trans A)) q) (λz=>by rw[<-z,A _ _ hl] at q;cases q) zo ?_ {ys,(A.trans T5) _ _ hl,Xu (A.trans T5) pn} {zs,t5 _ _ u,Xu t5 ps} ?_
     .unfold zcV;rw[hw];exact{p,y,Z,T5 _ _ e2,T5 _ _ (I _ _ e1)}
     .unfold k9;rw[hw];exact{ri,mi}}}
 have #[x,a,C,s,rfl,_]:=h;rfl
theorem zdb:Ba P w K mg base 1 t.a17 t.d17 ["word","first","second"] (Jn t):=by
 refine T.g17.f.okB zcS λvs H Q E h=>{?_,λ_ _ _ _ A=>{_,(zd (zR (zC yA (B 2) zi (zJ _)) (zm (za2 Z T.q30 zds Z T.g_Nought (zc (zdt (B 0)) ze)))
   zG) (zm (zA (vT (zC yA (B 0) zO (zJ _)) (zu zfL (B 1) (B 2)) (zu zhv (B 1) (B 2)))))),by
   have #[w,a,b,rfl,u,I,k,q]:=h;have q:=q H (aJ.refl H);have m:=QV k;refine{_,Z,Z,_,Z,jh (λc=>?_) λc=>?_}
   .rw[ao (V.int.inj c)] at q;exact{_,Z,_,Z,(),λy=>{(),q}}
   .have c:b≠0:=λz=>c (congrArg V.int z);rw[ak c] at q;refine{_,Z,Z,_,Z,jh (λe=>?_) λe=>?_}
    .rw[ao (V.str.inj e)] at q;exact{_,Z,_,Z,_,_,Z,Z,{c,m},q}
    .rw[ak λz=>e (congrArg V.str z)] at q;exact{_,Z,_,Z,_,_,Z,Z,c,q}}}
 have #[w,a,b,rfl,_]:=h;rfl
def zdc:Ba P w K mg base 2 t.a18 t.d18 ["word","first","second"] (Jo t):=by
 refine T.g18.f.okB zcT λvs H Q E h=>{?_,λ_ _ _ _ hr=>{_,(zd (zR (zC yA (B 0) zO (zJ _)) (zm (zA (zu yc (B 1) (B 2))))
   zG) (zd (zR (zC yA (B 0) zO (zJ _)) (zm (zA (zu vC (B 1) (B 2))))
    zG) (zd (zR (zC yA (B 0) zO (zJ _)) (zm (zA (zu wx (B 1) (B 2))))
    zG) (zd (zR (zC yA (B 0) zO (zJ _)) (zm (zA (vT (zC jq (B 1) (B 2) (zJ _)) zi zi)))
    zG) (zd (zR (zC yA (B 0) zO (zJ _)) (zm (zA (vT (zC yA (B 1) (B 2) (zJ _)) zi zi)))
    zG) (zm (zA (u4 (zdb T) T.g17 hr ju (zc (B 0) (zc (B 1) (zc (B 2) ze))))))))))),by
   have #[w,a,b,rfl,hw,ha,hb,q]:=h;have A:=QV ha;have Bn:=QV hb;have u:¬ VS w->Q (.int (VR w a b)) H:=λh=>by have q:=q H (aJ.refl H);rw[ak λz=>h z.1] at q;exact q
   unfold VR at u q;refine{_,Z,Z,_,Z,jh (λc=>?_) λk=>{_,Z,Z,_,Z,jh (λc=>?_) λm=>{_,Z,Z,_,Z,jh (λc=>?_) λI=>{_,Z,Z,_,Z,jh (λc=>?_) λJ=>{_,Z,Z,_,Z,jh (λc=>?_) λO=>?_}}}}}
   .cases c;exact{_,Z,_,Z,_,_,Z,Z,by have q:=u λz=>z.1 rfl;rw[ao rfl] at q;exact q}
   .cases c;exact{_,Z,_,Z,_,_,Z,Z,by have q:=u λz=>z.2.1 rfl;rw[ak (λz=>k (congrArg V.str z)),ao rfl] at q;exact q}
   .cases c;exact{_,Z,_,Z,_,_,Z,Z,{A,Bn},by have q:=u λz=>z.2.2.1 rfl;rw[ak (λz=>k (congrArg V.str z)),ak (λz=>m (congrArg V.str z)),ao rfl] at q;exact q}
   .cases c;have q:=u λz=>z.2.2.2.1 rfl;rw[ak (λz=>k (congrArg V.str z)),ak (λz=>m (congrArg V.str z)),ak (λz=>I (congrArg V.str z)),ao rfl] at q;refine{_,Z,_,Z,_,_,Z,Z,_,Z,jh (λd=>?_) λd=>?_}
    .rw[ao d] at q;exact q
    .rw[ak d] at q;exact q
   .cases c;have q:=u λz=>z.2.2.2.2 rfl;rw[ak (λz=>k (congrArg V.str z)),ak (λz=>m (congrArg V.str z)),ak (λz=>I (congrArg V.str z)),ak (λz=>J (congrArg V.str z)),ao rfl] at q;refine{_,Z,_,Z,Z,_,Z,jh (λd=>?_) λd=>?_}
    .rw[ao (V.int.inj d)] at q;exact q
    .rw[ak λz=>d (congrArg V.int z)] at q;exact q
   .have k:w≠"plus":=λz=>k (congrArg V.str z);have m:w≠"minus":=λz=>m (congrArg V.str z);have I:w≠"times":=λz=>I (congrArg V.str z);have J:w≠"under":=λz=>J (congrArg V.str z);have O:w≠"same":=λz=>O (congrArg V.str z);refine{_,Z,_,Z,_,Z,w,a,b,Z,hw,ha,hb,λH' s=>?_};have q:=q H' s;have hd:VS w:={k,m,I,J,O};refine Y0 (λd=>?_) λd=>?_
    .rw[ao {hd,d}] at q;exact q
    .rw[ak λz=>d z.2,ak k,ak m,ak I,ak J,ak O] at q;exact q}}
 have #[w,a,b,rfl,_]:=h;rfl
def zcg:Ba P w K mg base 1 t.a19 t.d19 ["thing"] (zbK):=by
 refine T.g19.f.okA zbI λvs H Q E h=>?_;have #[i,rfl,q]:=h;exact{Z,λ_ _ _ _ c=>{ZR K t,(zd (zR (PW.pt (Zl (wE (xi (zP xP Z T.q0d yq (zc (B 0) (zc (ww Z T.b_int zfB Z) ze))))) (ku (xi (zP xP Z T.q0d yq (zc (B 0) (zc (ww Z T.q1v zdr Z) ze))))))) (zm (zA (wX (b:=am))))
   zG) (zm (zA (zfj zfi zfi (zde QD (zu YA zi zi)) (B 0) (zu YA zi zi))))),zaz (kf K).i_b q}}
theorem ze8:Ba P w K mg base 3 t.a20 t.d20 ["word","first","second"] (X4 t):=by
 refine T.g20.f.okB q1g λvs H Q E h=>{?_,λ_ _ _ _ m=>{_,(zd (zx 3 q1g.nd (u4 (zdc T) T.g18 m ju (zc (B 0) (zc (B 1) (zc (B 2) ze))))) (zd (zR (wE (xi (u4 (zcg T) T.g19 m ju (zc (B 3) ze)))) (zm (za2 Z T.q33 zds Z T.g_Great (zc (zdt (B 0)) ze)))
    zG) (zm (zA (B 3))))),by
   have #[w,a,b,rfl,z,I,A,q]:=h;unfold kS at q;refine{_,Z,_,Z,_,Z,w,a,b,Z,z,I,A,λH1 k=>Y0 (λc=>?_) λc=>{_,Z,_,Z,λJ u=>{_,Z,?_}}}
   .have q:=q H1 k;rw[ao c] at q;exact q
   .have q:=q J (k.trans u);rw[ak c] at q;by_cases d:u3 (VR w a b)=U
    .rw[ao d] at q;exact yj (by rw[d];rfl) {_,Z,q}
    .rw[ak d] at q;exact yE (by rw[gF.mpr d];rfl) {_,Z,_,Z,(),λy=>{(),q}}}}
 have #[w,a,b,rfl,_]:=h;rfl
def zch:Ba P w K mg base 4 t.a21 t.d21 ["term","slots"] (WE t):=by refine T.g21.f.okB q0p λvs H Q E h=>?_;have #[O,J,sl,ps,r,rfl,I,A,z,u,m,k,q]:=h;exact{Z,λ_ _ _ _ c=>{WG K t E,(zd (zx 2 q0p.nd (yQ ze)) (zd (x5 zlv Z (zjn (B 0)) (yB 3 q0p.nd) (zm (zR (zC XQ (B 3) (zhs Z T.g_JOINING Z) (by with_unfolding_all rfl)) (zd (zx 4 q0p.nd (XR bO mT mU zcs (B 2))) (zd (zx 5 q0p.nd (XR bO mT mU zcs (B 2))) (zm (zN (x9 bO cg ck yC (B 2) (zc (u4 (ze8 T) T.g20 c ju (zc (B 3) (zc (B 5) (zc (B 4) ze)))) ze)))))) (zm (zN (x9 bO cg ck yC (B 2) (zc (vT (xi (zP xP Z T.q0d yq (zc (B 3) (zc (ww Z T.q1d zcv Z) ze)))) (jt (yY c) (B 1) (B 3) zi {Z,Z,Z,Z}) (B 3)) ze))))))) (zm (zA (XR bO mT mU zcs (B 2)))))),zay (kf K).i_s T.q2a I A z u m k q}}
def xI:Ba P w K mg base 5 t.a22 t.d22 ["self","term"] (xF t):=by
 refine T.g22.f.okB WW λvs H Q E h=>?_;have #[x,k,e,a,C,s,rfl,A,z,u,c,q]:=h;exact{Z,λ_ _ _ _ m=>{_,(zm (zA (u4 (zch T) T.g21 m ju (zc (B 1) (zc (zH (B 0) Z) ze))))),by have F:=(rnF T);have R:=A;exact{_,Z,yh R.ix F.cl F.n4 Z Z {s.sl,k,a.sl,e,_,Z,u,R.hs,c.good s.sl,c.2.1,c.2.2,z,q}}}}
theorem jd:Ba P w K mg base 6 t.a23 t.d23 ["self","due"] (xG t):=by
 refine T.g23.f.okB WX λvs H Q E h=>{?_,λ_ _ _ _ z=>{_,(zm (zA (zY (zc (zF ya (B 1) zi) (zc (AE (B 0) T.q05 (xI T) T.g22 z ju (zc (zF ya (B 1) zi) ze)) ze))))),by
   have F:=(rnF T);have #[x,p,xs,sh,c,e,a,C,s,rfl,R,h2,m,h4,O,J,I,u,q]:=h;refine X0 Z m h4 (x8 R.ix Z Z (X0 Z m O {x,c,e,a,C,s,Z,R,h2,J,I,λH1 k=>?_}));cases hk:rk s.sl e with
   |error er=>exact AF.mpr (q er H1 hk k)
   |ok n=>
    refine fin_ok.mpr {(),λp A=>?_};exact u n p _ hk (k.trans (u5 (o:=HO.tup [V.str sh,V.int n]) p A)) zo}}
 have #[x,p,xs,sh,c,e,a,C,s,rfl,_]:=h;rfl
theorem WN:Ba P w K mg base 7 t.a24 t.d24 ["self"] (kc t):=by
 refine T.g24.f.okA q1h λvs H Q E h=>{?_,λ_ _ _ _ c=>{WH K t,(zd (zR (PW.pt (Zl (xi (ve (B 0) T.q05 (v9 T) T.g15 c zw)) (ku (zC Wk (zF ya (zF zU (zH (B 0) Z) (zH (B 0) Z)) zi) zO (zJ _))))) (zm (zA x4))
   zG) (zd (zh3 (And.intro rfl rfl) rfl (zhF (i:=1) q1h.nd rfl (m6 rfl) (zbs (B 0) T.q05 T.g23.me (pv.mono (jd T) ()) c T.g23.b (zc (zF zU (zH (B 0) rfl) (zH (B 0) rfl)) ze))) rfl T.g_Great rfl T.g_Nought (λ_=>(zm (zA x4)))) (zd (zR (PW.pt (Zl (zC (Vl (yY c)) (B 1) (zH (B 0) Z) (by with_unfolding_all rfl)) (ku (zC (Vl (yY c)) (B 1) (zH (B 0) Z) (by with_unfolding_all rfl))))) (zm (zA x4))
    zG) (zm (zA (B 1)))))),zaw T h}}
 have #[x,a,C,s,rfl,_]:=h;rfl
theorem zaB:Ba P w K mg base 1 t.a25 t.d25 ["self","place","worth"] (qB t):=by
 refine T.g25.f.okA zaf λvs H Q E h=>{?_,λ_ _ _ _ c=>{_,(zd (zR (zC (Vl (yY c)) (B 1) (zH (B 0) Z) (by with_unfolding_all rfl)) (zm (zA (vg (yY c) (zH (B 0) Z) (B 1) (λ_ _=>rfl))))
   zG) (zd (zR (zC (V2 (yY c)) (B 1) (zH (B 0) Z) (by with_unfolding_all rfl)) (zm (vO (yY c) (zH (B 0) Z) (B 1) (B 2) Z))
    zG) (zm (zA (vg (yY c) (zH (B 0) Z) (B 1) (λ_ _=>rfl)))))),by
   have F:=(rnF T);have #[x,q,p,w,a,C,s,rfl,R,m,O,k]:=h;have u:Ab H a.gi (.ref q) ((zE s.gi p).map V.int):=.inr {uU s.gi,zI p,q,.inl R.hg,Z,m,(wN _ _).symm};have A:Ab H a.no (.ref q) ((zE s.no p).map V.int):=.inr {uU s.no,zI p,q,.inl R.hn,Z,m,(wN _ _).symm};unfold j6 Jr at k;cases hg:zE s.gi p with
   |some i=>
    rw[hg,ao (.inl Z)] at k;rw[hg] at u;exact{_,Z,yh R.ix F.cl F.n5 Z Z {a.gi,_,Z,u,_,Z,yE Z (yh R.ix F.cl F.n5 Z Z {_,Z,a.gi,_,Z,u,k H (.of_same λ_ _ z=>z) R})}}
   |none=>
    rw[hg] at k u;refine{_,Z,yh R.ix F.cl F.n5 Z Z {a.gi,_,Z,u,_,Z,yj Z {_,Z,yh R.ix F.cl F.n6 Z Z {a.no,_,Z,A,_,Z,?_}}}};cases ho:zE s.no p with
    |some i=>
     rw[ho,ao (.inr Z)] at k;rw[ho] at A;exact yj Z (yh R.ix F.cl F.n6 Z Z {_,Z,a.no,_,Z,A,k H (.of_same λ_ _ z=>z) R})
    |none=>
     rw[ho,ak (λz=>z.elim () nofun)] at k;have ld:=wO s.no;have J:xo (uU s.no) (zI p) (V.int w)=uU (s.no++[(p,w)]):=(Zu s.no (p,w)).symm;have D:=DPut.t (k:=zI p) (v:=V.int w) R.hn m (bM (by lia:_<=900) ());rw[J] at D;have R2:=R.putO (s.no++[(p,w)]);have I:Kp x a H (upd H a.no (.dT (uU (s.no++[(p,w)])))):=vK (.inr (.inr (.inr (.inl Z))));refine yE Z {_,Z,yh R.ix F.cl F.n6 Z Z {_,Z,a.no,_,Z,D,yh R2.ix F.cl F.n6 Z Z {_,Z,a.no,V.int w,Z,?_,k _ I R2}}};refine .inr {_,zI p,q,.inl R2.hn,Z,I _ _ (R.notup m) m,?_};rw[wN,zc0];rfl}}
 have #[x,q,p,w,a,C,s,rfl,_]:=h;rfl
def zci:Ba P w K mg base 7 t.a26 t.d26 ["self","due","worth"] (ZI t):=by
 refine T.g26.f.okB q1i λvs H Q E h=>{?_,λ_ _ _ _ c=>{WI K t E,(zm (zR (zC yA (zF ya (B 1) zi) zO (zJ _)) (zm (vO (yY c) (zH (B 0) Z) (zF ya (B 1) zi) (AE (B 0) T.q05 (zaB T) T.g25 c ju (zc (AE (B 0) T.q05 (jd T) T.g23 c ju (zc (B 1) ze)) (zc (B 2) ze))) Z)) (zm (zR (zC yA (zF ya (B 1) zi) zO (zJ _)) (zd (zx 3 q1i.nd (AE (B 0) T.q05 (jd T) T.g23 c ju (zc (B 1) ze))) (zm (vO (yY c) (zH (B 0) Z) (B 3) (AE (B 0) T.q05 (xI T) T.g22 c ju (zc (zF ya (B 1) zi) ze)) Z))) (zm (zR (zC yA (zF ya (B 1) zi) zO (zJ _)) (zm (vO (yY c) (zH (B 0) Z) (zF ya (B 1) zi) (AE (B 0) T.q05 (xI T) T.g22 c ju (zc (zF ya (B 1) zi) ze)) Z)) (zm (zN (x9 bO cg ck yC (zH (B 0) Z) (zc (AE (B 0) T.q05 (xI T) T.g22 c ju (zc (zF ya (B 1) zi) ze)) ze)))))))))),zav (rnF T) h}}
 have #[x,v,r,w,m,a,C,s,rfl,_]:=h;rfl
theorem KA:Ba P w K mg base 8 t.a27 t.d27 ["self","due","worth"] (kE t):=by
 refine T.g27.f.okB J7 λvs H Q E h=>{?_,λ_ _ _ _ hr=>{_,(zd (zR (zC yA (zF ya (B 1) zi) zO (zJ _)) (zm (zA (zF ya (B 1) zi)))
   zG) (zd (zR (zC yA (zF ya (B 1) zi) zO (zJ _)) (zm (zA (vT (zC yA (AE (B 0) T.q05 (xI T) T.g22 hr ju (zc (zF ya (B 1) zi) ze)) zi (zJ _)) (zF ya (B 1) zi) (zu yc (zH (B 0) Z) zi))))
    zG) (zd (zR (zC yA (zF ya (B 1) zi) zO (zJ _)) (zm (zR (zC Wk (AE (B 0) T.q05 (xI T) T.g22 hr ju (zc (zF ya (B 1) zi) ze)) zi (zJ _)) (zm (yS (f:="why") (B 0) zO Z))
    zG)) (zm (zN (AE (B 0) T.q05 (zci T) T.g26 hr ju (zc (B 1) (zc (B 2) ze)))))) (zm (zA (zu yc (zH (B 0) Z) zi)))))),by
   have F:=(rnF T);have #[x,v,c,w,m,a,C,s,rfl,R,J,h2,h3,h4,q1,q2]:=h;have so:=h3.so;have nx:∀ {v' H1 A},aZ t H1 x a C A->(∀k:Nat,k=A.n+1->Q (.int (k:Nat)) H1)->yJ (aN aD (xg K (zk 0) "at") (tC (.int 1))) (u9 Q) (zZZ 3 [.ref x,v',.int w]) H1:=λR1 q=>by unfold yJ aN;exact Zy Z R1.ix F.cl F.n2 Z {_,_,Z,Z,q _ Z}
   cases c with
   |go en=>
    have #[p,rfl,u]:=J;refine qy Z u Z (λ_=>?_) λz=>absurd Z z;exact X0 Z u Z (q1 H s en Z (.of_same λ_ _ z=>z) R)
   |skip e to=>
    have #[p,te,rfl,u,e3]:=J;refine qy Z u Z (λz=>absurd z ()) λ_=>qy Z u Z (λ_=>?_) λz=>absurd Z z;refine Z3 R so Z Z u Z e3 h2 λH1 A=>?_;cases hk:rk s.sl e with
    |error er=>exact AF.mpr (q2 H1 er (by unfold x6;simp only[hk]) A)
    |ok n=>
     have R2:=R.same A;refine fin_ok.mpr {Z,_,Z,zlc (λO=>?_) λO=>?_}
     .exact X0 Z (A _ _ u) Z (q1 H1 s to (by unfold x6;simp only[hk,ao O]) (.of_same A) R2)
     .exact nx R2 λk I=>q1 H1 s k (by unfold x6;simp only[hk,ak O,I]) (.of_same A) R2
   |row r=>
    have #[J,aa]:=J;obtain ⟨e,rfl⟩|hdo:=zib r aa
    .unfold bv at J;unfold zai Zv at h2;have #[r,te,rfl,_,_,u,e3]:=J;refine qy Z u Z (λz=>absurd z ()) λ_=>qy Z u Z (λz=>absurd z ()) λ_=>qy Z u Z (λ_=>?_) λz=>absurd Z z;refine Z3 R so Z Z u Z e3 h2 λH1 A=>?_;cases hk:rk s.sl e with
     |error er=>exact AF.mpr (q2 H1 er (by unfold x6;simp only[hk]) A)
     |ok n=>
      have R2:=R.same A;refine fin_ok.mpr {Z,_,Z,zlb (λO=>?_) λO=>?_}
      .have R3:=R2.putI { s with why:=Y (br "told") } rfl rfl rfl rfl;refine{_,Z,_,_,_,_,Z,R2.ix,F.cl,F.n3,(),?_};exact nx R3 λk I=>q1 _ { s with why:=Y (br "told") } k (by unfold x6;simp only[hk,ak O,I]) ((Kp.of_same A).trans (vK (.inl Z))) R3
      .exact nx R2 λk I=>q1 H1 s k (by unfold x6;simp only[hk,ao O,I]) (.of_same A) R2
    .have #[p,zs,hd,rfl,u,e3,n1,n2,n3]:=zic J hdo;have el:=zbS (w:=w) (s:=s) hdo;refine qy Z u e3 (λz=>absurd z n1) λ_=>qy Z u e3 (λz=>absurd z n2) λ_=>qy Z u e3 (λz=>absurd z n3) λ_=>?_;refine{_,Z,x,_,_,Z,R.ix,Z,_,Z,_,Z,x,_,r,w,m,a,C,s,Z,R,J,hdo,h2,h3,h4,λH1 s' e K1 R1=>?_,λH1 er e A=>q2 H1 er (by rw[el,e]) A};have en:=zle hdo e;exact nx R1 λk I=>q1 H1 s' k (by rw[el,e,I,en]) K1 R1}}
 have #[x,v,c,w,m,a,C,s,rfl,_]:=h;rfl
theorem Z4:Ba P w K mg base 9 t.a28 t.d28 ["self","worth"] (j9 t):=by
 refine T.q1z.ok0 zbJ (λvs H Q E h=>?_) (λq A c s H vs Q E k h=>?_)
 .have #[x,w,m,a,C,s,rfl,_]:=h;rfl
 exact{WJ K t,(zd (zR (xi (ve (B 0) T.q05 (v9 T) T.g15 k zw)) (zm zht)
   zG) (zm (zgp (And.intro rfl rfl) rfl (zh2 (f:="at") (B 0) (zbs (B 0) T.q05 T.g27.me (pv.mono (KA T) ()) k T.g27.b (zc (zF zU (zH (B 0) rfl) (zH (B 0) rfl)) (zc (B 1) ze))) rfl) rfl T.g_Great rfl T.g_Nought (λ_=>(zm (yS (f:="why") (B 0) zO rfl))) (λ_=>(zm (yS (f:="why") (B 0) zO rfl)))))),zax T h}
theorem ze9:Ba P w K mg base 1 t.a29 t.d29 ["table","place"] (Qo):=by
 refine T.g29.f.okA zeR λvs H Q E h=>{?_,λ_ _ _ _ u=>{_,(zm (zA (jt (yY u) (yz (wP Z (hu3 u)) Z T.q11 Vh (zc (B 0) ze)) (B 1) zi {Z,Z,Z,Z}))),by
   have #[a,p,c,k,rfl,m,J,A,q]:=h;have #[xs,m,I]:=m;refine{_,Z,a,xs,c,Z,m,I,(),λd z=>{d,Z,.inr {uU c,.inl zo},_,Z,?_}};have S:=u5 (o:=HO.dT (uU c)) d z;have g:Ab (upd H d (.dT (uU c))) d (.ref p) ((zE c k).map V.int):=.inr {uU c,zI k,p,.inl zo,Z,S _ _ A,(wN c k).symm};refine{_,g,?_};have:=q _ S;cases e:zE c k with
   |none=>rw[e] at this;exact this
   |some w=>rw[e] at this;exact this}}
 have #[l,k,ah,p,rfl,_]:=h;rfl
theorem zkx:Ba P w K mg base 10 t.a30 t.d30 ["code","table"] (zcX t):=by
 refine T.g30.f.okA q16 λvs H Q E h=>{?_,λ_ _ _ _ u=>{_,(zd (zx 2 q16.nd (Z8 T.mk_Run (pv.mono (WM T) ()) u Z T.g_Run T.q1t .nil zw (zc (B 0) ze))) (zd (Vw cO (wE (xi (ve (B 2) T.q05 (v9 T) T.g15 u zw))) (zd (zx 3 q16.nd (ve (B 2) T.q05 (WN T) T.g24 u zw)) (zm (zN (QK (B 2) T.q05 T.me_Run_step (pv.mono (Z4 T) ()) u T.q1u .nil zw (zc (vT (zC QE (B 3) x4 (zJ _)) zi (u4 (ze9 T) T.g29 u zw (zc (B 1) (zc (B 3) ze)))) ze)))))) (zm (zA (ve (B 2) T.q05 (XG T) T.g16 u zw))))),by
   have #[l,tl,xs,C,ah,rfl,h1,h2,O,h4,h5,h6,q]:=h;refine{_,Z,λx dx hx hd n=>?_};have ag:H dx=L:=hd;have n1:∀b o,H b=Y o->b≠x:=λb o e=>zB e hx;have n2:∀b o,H b=Y o->b≠dx:=λb o e=>zB e hd;have s2:aJ H (upd (upd H dx (HO.own x)) x (HO.ins t.q01 dx [])):=λb o e=>by rw[zt (n1 b o e),zt (n2 b o e)];exact e
   refine{x,l,dx,xs,C,Z,zo,s2 _ _ h1,wB s2 h2,λH3 a k3 R3 fr=>{Z,?_}};have #[s3,ow]:=zgZ (aJ.refl H) hx hd k3 fr;refine{fdI t H l tl x a C (YJ ah),{_,0,mt,Z,{_,Z},s3,R3,rn0,Z,bq _,cf _},?_};rintro m σ H4 ⟨k,s,rfl,⟨o,rfl⟩,S⟩;have lc:=O.le;have lk:=S.le;refine{_,Z,x,_,_,Z,S.R.ix,Z,x,a,C,s,Z,S.R,λH5 s5=>{_,Z,?_}};show if _ then _ else _
   have c:=S.same s5;cases ho:yy C s with
   |true=>
    rw[ak ()];have l2:=S.I.ok.l2;have l3:=S.I.ok.l3;refine{_,Z,x,_,_,Z,c.R.ix,Z,x,a,C,s,Z,c.R,(),S.I.ok.nd,(),λH6 z=>(by rw[ho] at z;cases z),λr o' nl gl aa H6 _ I fn fg _ u oc hn hg gi=>?_};exact q r s H6 (c.sm.trans I) {ho,{k,S.rc},{k,S.le,S.I},bI S.fw S.le} {o',nl,gl,aa,u,oc,hn,hg,gi,zK c.sm fn,zK c.sm fg}
   |false=>
    rw[ao ()];refine{fdI t H l tl x a C (YJ ah) (C.length-(k+1)),λac H' z=>{_,?_,z},?_}
    .have:=qJ (C:=C) (s:=s) (by rw[ho];decide);have wn:s.why=L:=by
      cases e:s.why with
      |none=>rfl
      |some v=>rw[show yy C s=U by unfold yy;rw[e];rfl] at ho;cases ho
     have:=S.I.at_ wn;lia
    refine{_,Z,x,_,_,Z,c.R.ix,Z,x,a,C,s,Z,c.R,O.ok,S.I.ok.so,λH6 ha I=>?_,λp q1 H6 ha I hq=>?_}
    .have A:=c.same I;have J:Kc C (YJ ah) s=0:=by unfold Kc;rw[ha]
     refine{_,Z,x,_,_,Z,A.R.ix,Z,_,Z,Z,_,Z,?_};show if _ then _ else _
     rw[ao (Bj Z)];refine{x,0,k,a,C,s,Z,A.R,O.ok,S.I.ok,(),λH7 k7 R7=>?_};rw[<-J] at R7;exact{k+1,_,Z,{_,Z},A.step O ow ho (by rw[J];rfl) k7 R7}
    .have A:=c.same I;have J:Kc C (YJ ah) s=YJ ah p:=by unfold Kc;rw[ha]
     refine{_,Z,x,_,_,Z,A.R.ix,Z,_,Z,Z,_,Z,?_};show if _ then _ else _
     rw[ak (by rw[decide_eq_true_eq];exact nofun)];refine{_,Z,_,Z,tl,q1,ah,p,Z,zif h4 A.sm,h5,hq,λH7 s7=>?_};have S7:=A.same s7;refine{x,_,k,a,C,s,Z,S7.R,O.ok,S.I.ok,(),λH8 k8 R8=>?_};have R9:aZ t H8 x a C (xh C (Kc C (YJ ah) s) s):=by rw[J];exact R8
     exact{k+1,_,Z,{_,Z},S7.step O ow ho (by rw[J];exact zbw h6 p) k8 R9}}}
 have #[l,tl,xs,C,ah,rfl,_]:=h;rfl
theorem WO:Ba P w K mg base 1 t.a31 t.d31 ["rows"] (ZK):=by
 refine T.g31.f.okA q1j λvs H Q E h=>{?_,λ_ _ _ _ k=>{_,(zd (Yz (i:=1) q1j.nd Z (sC Z) (yz (wP Z (hu3 k)) Z T.q11 Vh (zc (B 0) ze))) (zm (zA (qq Z (osc:=zq YF) (N:=["rows","worths"]) (xs:=["place"]) (ix:=[1]) () (xj (zP (Y6 Z) Z T.q13 Yc (zc (B 1) ze))) (λ_ _ _ _=>(vM (i:=0) (show gJ (["place","worths"]:yu) from ()) Z (m6 Z) (.inr Z))) (λ_ _ _ _=>(zhD (zC Wk (vg (yY k) (B 1) (B 0) (λ_ _=>rfl)) zi (zJ _)))) (λ_ _ _ _=>(zY (zc (B 0) (zc (vg (yY k) (B 1) (B 0) (λ_ _=>rfl)) ze)))))))),by
   have #[a,ah,rfl,h1,h2,h3,q]:=h;have #[xs,I,u]:=h1;refine{_,Z,a,xs,ah,Z,I,u,h3,λd O=>?_};generalize c_:upd H d _=H0;have #[m,d0]:=yI c_ O;refine zi5 (ah:=ah) Z Z d0 h2 (λp q0 w H' A Bn _ g a b=>{_,Z,_,Z,d,_,Z,g,Z,_,Z,?_}) λl c H' s hl J T _=>q l c H' (m.trans s) (zK m hl) J T;by_cases w0:w=0
   .exact yj (by rw[w0];rfl) (b w0)
   .exact yE (by rw[Bk (λz=>w0 (V.int.inj z))];rfl) (a w0)}}
 have #[a,ah,rfl,_]:=h;rfl
theorem zdd:Ba P w K mg base 2 t.a32 t.d32 ["table","gifts"] (YL):=by
 refine T.g32.f.okA zcU λvs H Q E h=>{?_,λ_ _ _ _ hr=>{_,(zm (zA (u4 (WO T) T.g31 hr zw (zc (zu kC (B 0) (B 1)) ze)))),by have #[a,b,k,c,rfl,h1,h2,h3,I,q]:=h;have #[xs,hx,A]:=h1;have #[ys,O,z]:=h2;have l:=I;rw[bh,<-zbU A,<-zbU z] at l;exact{_,Z,_,Z,a,b,xs,ys,Z,Z,hx,O,bI l (),λp u=>{p,k++c,Z,{xs++ys,zo,vb (u5 p u) (zbV z A)},h3,I,λl m H' s fr hl J=>q l m H' ((u5 p u).trans s) (zK (u5 p u) fr) hl J}}}}
 have #[a,b,k,c,rfl,_]:=h;rfl
theorem zcj:Ba P w K mg base 11 t.a33 t.d33 ["codes","table"] (ZN t):=by
 refine T.g33.f.okA q0q λvs H Q E h=>{?_,λ_ _ _ _ O=>{_,(zd (zx 2 q0q.nd (yQ ze)) (zd (zx 3 q0q.nd (yQ (zc (B 1) ze))) (zd (x5 cO Z (xj (B 0)) (yB 4 q0q.nd) (zd (zx 5 q0q.nd (u4 (zkx T) T.g30 O zw (zc (B 4) (zc (zF zU (B 3) (zde QD zi)) ze)))) (zd (zN (x9 bO cg ck yC (B 2) (zc (B 5) ze))) (zm (zN (x9 bO cg ck yC (B 3) (zc (u4 (zdd T) T.g32 O zw (zc (zF zU (B 3) (zde QD zi)) (zc (zF ya (B 5) zi) ze))) ze))))))) (zm (zA (zY (zc (B 2) (zc (B 3) ze)))))))),by
   have #[cl,tl,m,CC,c,rfl,hc,pc,cc,ht,l5,rt,it,q]:=h;refine{(),λP I=>?_};have z:=u5 (o:=HO.lst []) P I;have k:upd H P (.lst []) P=Y (.lst []):=zo;generalize upd H P (.lst [])=H1 at *
   refine{_,Z,(),λT A=>?_};have ne:=zB k A;have J:=zK z A;have u:=u5 (o:=HO.lst [.ref tl]) T A;exact zhi hc pc cc I J ne {z.trans u,[],[],.ref tl,[],[],c,u _ _ k,zo,.nil,.nil,{tl,Z,ht.same λb o e=>zat (zB e I) (zB e J) ((z.trans u) _ _ e)},.nil,(),it} q}}
 have #[cl,tl,m,CC,c,rfl,_]:=h;rfl
def KB:Ba P w K mg base 1 t.a34 t.d34 ["self","table"] (vP t):=by
 refine T.q20.ok0 J8 (λvs H Q E h=>?_) (λm A c s H vs Q E k h=>?_)
 .have #[x,h,dx,ah,rfl,_]:=h;rfl
 exact{kJ K t,(zd (yS (f:="ground") (B 0) (yz (wP Z (hu3 k)) Z T.q11 Vh (zc (B 1) ze)) Z) (zd (yS (f:="folded") (B 0) zi Z) (zd (yS (f:="worths") (B 0) Zo Z) (zm (yS (f:="ranks") (B 0) kP Z))))),JV (mkF T) h}
def zaC:Ba P w K mg base 1 t.a35 t.d35 ["self","makes"] (qF t):=by
 refine T.q22.ok0 zag (λvs H Q E h=>?_) (λk A c s H vs Q E q h=>?_)
 .have #[x,m,dx,rfl,_]:=h;rfl
 exact{qH K t,(zd (yS (f:="makes") (B 0) (B 1) Z) (zd (yS (f:="laid") (B 0) Zo Z) (zd (yS (f:="readers") (B 0) kP Z) (zm (yS (f:="doubted") (B 0) Zo Z))))),Kv (dkF T) h}
theorem XH:Ba P w K mg base 3 t.a36 t.d36 ["self","table","hands","way","first"] (wA t):=by
 refine T.q24.ok0 zah (λvs H Q E h=>?_) (λm A c s H vs Q E k h=>?_)
 .have #[x,l,w,dx,dw,n,f,wo,g,rfl,_]:=h;rfl
 exact{qI K t,(zd (yS (f:="hands") (B 0) (B 2) Z) (zd (yS (f:="way") (B 0) (B 3) Z) (zd (yS (f:="first") (B 0) (B 4) Z) (zd (yS (f:="codes") (B 0) (yQ ze) Z) (zd (yS (f:="waiting") (B 0) (yQ ze) Z) (zd (yS (f:="held") (B 0) Zo Z) (zd (yS (f:="makes") (B 0) (Z8 T.mk_Makes (pv.mono (KB T) ()) k Z T.g_Makes T.q21 .nil zw (zc (B 1) ze)) Z) (zd (yS (f:="jobs") (B 0) (Z8 T.mk_Jobs (pv.mono (zaC T) ()) k Z T.g_Jobs T.q23 .nil zw (zc (zH (B 0) Z) ze)) Z) (zm (yS (f:="ended") (B 0) (yQ ze) Z)))))))))),Kw (dkF T) h}
def Vb:Ba P w K mg base 1 t.a37 t.d37 ["self"] (W0 t):=by
 refine T.q26.ok0 WY (λvs H Q E h=>?_) (λm A c s H vs Q E u h=>?_)
 .have #[x,dx,rfl,_]:=h;rfl
 have #[x,dx,rfl,k,q]:=h;exact{qU K t,(zm (yS (f:="times") (B 0) zi Z)),Wf (dkF T) k q}
theorem Yx:Ba P w K mg base 1 t.a38 t.d38 ["cell"] (kH):=by
 refine T.g38.f.okA J9 λvs H Q E h=>?_;have #[k,rfl,m,q]:=h;exact{Z,λ_ _ _ _ A=>{_,(zd (zR (zC yA (zu zS (zu zT (B 0) zi) zi) zi (zJ _)) (zm (zA zi))
   zG) (zm (zA (zu zS (zu zh1 (zu zT (B 0) zi) (zu YA zi zi)) (zu vC (zu YA zi zi) zi))))),by
   have u:=m;refine{_,Z,_,_,Z,Z,dB,_,_,Z,Z,(),Z,_,Z,?_};unfold fsW at q;by_cases c:k/24%2=0
   .rw[ao c] at q;exact yE (Bj (congrArg V.int c)) q
   .rw[ak c] at q;exact yj (Bk λz=>c (V.int.inj z)) {_,Z,_,_,Z,Z,dB,_,_,Z,Z,{(),(),()},_,_,Z,Z,{u.w.div,by unfold Cw;lia},_,_,Z,Z,{(),(),()},_,_,Z,Z,_,_,Z,Z,by show (0:Int)<10^29-300;decide,q}}}
theorem zaD:Ba P w K mg base 5 t.a39 t.d39 ["table","hands","cell"] (qG t):=by
 refine T.g39.f.okA q0x λvs H Q E h=>{?_,λ_ _ _ _ hr=>{_,(zd (zx 3 q0x.nd (zbD T.mo_Way Z T.g_Way)) (zd (zR (zC yA (zu zS (zu zT (B 2) zi) zi) zi (zJ _)) (zm (zx 3 q0x.nd (zbD T.mo_Highest Z T.g_Highest)))
    zG) (zd (zR (zC yA (zu zS (zu zT (B 2) zi) zi) zi (zJ _)) (zm (zx 3 q0x.nd (zfo T.mk_Turning (pv.mono (Vb T) ()) hr Z T.g_Turning T.q27 .nil zw)))
    zG) (zd (zR (zC yA (zu zS (zu zT (B 2) zi) zi) zi (zJ _)) (zm (zA (zgK T.mk_Desk (pv.mono (XH T) ()) hr Z T.g_Desk T.bd_Desk_init zw (zc (B 0) (zc (B 1) (zc (B 3) ze))))))
    zG) (zm (zA (Z8 T.mk_Desk (pv.mono (XH T) ()) hr Z T.g_Desk T.q25 .nil zw (zc (B 0) (zc (B 1) (zc (B 3) (zc (u4 (Yx T) T.g38 hr zw (zc (B 2) ze)) ze))))))))))),by
   have #[tl,n,k,g,rfl,ht,l5,cb,q]:=h;have s2:∀ {H:Hp}{w dw o},H w=L->H dw=L->aJ H (upd (upd H dw (.own w)) w o):=λhw J b o z=>by rw[zt (zB z hw),zt (zB z J)];exact z
   intro w dw hw J nw;have e2:upd (upd H dw (.own w)) w (.ins t.q0g dw []) w=Y (.ins t.q0g dw []):=zo;have S2:=s2 (o:=.ins t.q0g dw []) hw J;generalize upd (upd H dw (.own w)) w (.ins t.q0g dw [])=H2 at *
   refine{_,Z,_,_,Z,Z,dB,_,_,Z,Z,(),Z,_,Z,?_};by_cases k1:k/8%3=1
   .refine yE (Bj (congrArg V.int k1)) ?_;intro m c u A aa;have e3:upd (upd H2 c (.own m)) m (.ins t.q0f c []) m=Y (.ins t.q0f c []):=zo;have S3:=S2.trans (s2 (o:=.ins t.q0f c []) u A);have I:=zK S2 u;generalize upd (upd H2 c (.own m)) m (.ins t.q0f c [])=H3 at *
    exact{_,Z,_,_,Z,Z,dB,_,_,Z,Z,(),Z,_,Z,yj (Bk λz=>by have:=V.int.inj z;lia) (Wh (K:=K) (dw:=c) ht l5 cb S3 e3 I (λa O=>.inr (.inl (by rw[O]))) q)}
   .refine yj (Bk λz=>k1 (V.int.inj z)) {_,Z,_,_,Z,Z,dB,_,_,Z,Z,(),Z,_,Z,?_};by_cases k2:k/8%3=2
    .refine yE (Bj (congrArg V.int k2)) ?_;intro m c u A aa;have e3:upd (upd H2 c (.own m)) m (.ins t.q07 c []) m=Y (.ins t.q07 c []):=zo;have S3:=S2.trans (s2 (o:=.ins t.q07 c []) u A);have I:=zK S2 u;generalize upd (upd H2 c (.own m)) m (.ins t.q07 c [])=H3 at *
     exact{m,c,Z,e3,Z,Wh (K:=K) (dw:=c) ht l5 cb (xL S3 I) zo I (λa O=>.inr (.inr {0,by rw[O];rfl})) q}
    .exact yj (Bk λz=>k2 (V.int.inj z)) (Wh (K:=K) (dw:=dw) ht l5 cb S2 e2 (by assumption) (λa O=>.inl (by rw[O])) q)}}
 have #[tl,n,k,g,rfl,_]:=h;rfl
def yG:Ba P w K mg base 1 t.a40 t.d40 ["self"] (yR t):=by
 refine T.g40.f.okA WZ λvs H Q E h=>?_;have #[d,dx,a,n,f,en,rfl,k,c,q]:=h;exact{Z,λ_ _ _ _ m=>{_,(zm (zA (zu yc (zH (B 0) Z) (zP yv Z T.q06 xv (zc (zH (B 0) Z) ze))))),by have D:=(dkF T);have h:=k;exact(yh h D.cD D.d3 Z Z (yh h D.cD D.d9 Z Z {.ref a.en,en.length,Z,.inl {_,aO.of c,Z},_,_,Z,Z,q}))}}
def kr:Ba P w K mg base 1 t.a41 t.d41 ["self"] (kh t):=by
 refine T.g41.f.okA Xn λvs H Q E h=>?_;have #[d,dx,a,n,f,cs,rfl,k,c,q]:=h;exact{Z,λ_ _ _ _ m=>{_,(zm (zA (zu yc (zH (B 0) Z) (zP yv Z T.q06 xv (zc (zH (B 0) Z) ze))))),by have D:=(dkF T);have h:=k;exact(yh h D.cD D.d3 Z Z (yh h D.cD D.d4 Z Z {.ref a.cl,cs.length,Z,.inl {_,aO.of c,Z},_,_,Z,Z,q}))}}
theorem wV:Ba P w K mg base 1 t.a42 t.d42 ["self","rank"] (xV t):=by
 refine T.g42.f.okA YG λvs H Q E h=>?_;have #[m,dx,J,k,ae,rfl,z,u,I,q]:=h;exact{Z,λ_ _ _ _ A=>{_,(zm (zR (zC jq (B 1) (zH (B 0) Z) (zJ _)) (zm zaI)
   zG)),by have c:=(mkF T);exact{_,Z,yh z c.cl c.f Z u {_,_,Z,Z,_,Z,yj (Bk ()) (q H (aJ.refl H))}}}}
theorem x3:Ba P w K mg base 1 t.a43 t.d43 ["ranks","rank"] (wH):=by
 refine T.g43.f.okA q0n λvs H Q E h=>{?_,λ_ _ _ _ k=>{_,(zd (zx 2 q0n.nd zi) (zd (zx 3 q0n.nd (zP yv Z T.q06 xv (zc (B 0) ze))) (zd (Vw cO (zC jq (B 2) (B 3) (zJ _)) (zd (zx 4 q0n.nd (zu zT (zu yc (B 2) (B 3)) zi)) (zm (zR (zC jq (zF zU (B 0) (B 4)) (B 1) (zJ _)) (zm (zx 2 q0n.nd (zu yc (B 4) zi))) (zm (zx 3 q0n.nd (B 4))))))) (zm (zA (B 2)))))),by
   have #[a,rs,ae,rfl,h1,h2,q]:=h;refine{_,Z,.ref a,rs.length,Z,.inl {_,aO.of h1,(bn ..).symm},mbW a ae rs H,{_,0,rs.length,L,Z,aJ.refl H,cf _,bq _,Z,by simp,by simp},?_};rintro m σ H' ⟨lo,hi,o,rfl,s,h4,h5,rfl,h6,O⟩;refine{_,Z,_,Z,_,_,Z,Z,_,Z,?_};by_cases hl:lo<hi
   .refine yE (Bj ()) {λu H'=>∃J,J<hi-lo/\mbW a ae rs H J u H',λ_ _ z=>z,_,Z,_,Z,_,_,Z,Z,_,_,Z,Z,dB,?_};obtain⟨md,I⟩:∃md:Nat,((lo:Int)+hi)/2=md:={(lo+hi)/2,()};dsimp only;rw[I];have l1:lo<=md:=by lia
    have l2:md<hi:=by lia
    obtain⟨x,A⟩:∃x,rs[md]?=Y x:={_,ba ()};refine{_,Z,_,Z,a,_,md,_,Z,Z,aO.of (s _ _ h1),xS (j:=md) (by rw[bF,A];rfl),_,Z,_,_,Z,Z,_,Z,?_};by_cases k:x<ae
    .exact yE (Bj k) {_,Z,_,_,Z,Z,_,(by lia:hi-(md+1)<hi-lo),md+1,hi,_,Z,s,(),h5,Z,λr c=>Int.lt_of_le_of_lt (zdS h2 A r c) k,O}
    .exact yj (Bk k) {_,Z,_,(by lia:md-lo<hi-lo),lo,md,_,Z,s,(),(),Z,h6,λr c=>Int.le_trans () (zil h2 A r c)}
   .refine yj (Bk ()) {_,Z,?_};obtain rfl:lo=hi:=by lia
    exact q lo H' s h5 h6 O}}
 have #[a,rs,ae,rfl,_]:=h;rfl
def kL:Ba P w K mg base 2 t.a44 t.d44 ["self","place","rank"] (wI t):=by
 refine T.g44.f.okA q17 λvs H Q E h=>?_;have #[m,p,ae,F,g,lays,I,rfl,z,u,k,q]:=h;exact{Z,λ_ _ _ _ c=>{_,(zd (zN (AE (B 0) T.q0b (wV T) T.g42 c zw (zc (B 2) ze))) (zd (zx 3 q17.nd (jt (yY c) (zH (B 0) Z) (B 1) (yQ ze) {Z,Z,Z,Z})) (zd (zx 4 q17.nd (u4 (x3 T) T.g43 c zw (zc (B 3) (zc (B 2) ze)))) (zd (zR (zC yA (B 4) zi (zJ _)) (zm (zA (jt (yY c) (zH (B 0) Z) (B 1) zi {Z,Z,Z,Z})))
    zG) (zm (zA (vg (yY c) (vg (yY c) (zH (B 0) Z) (zF zU (B 3) (zu vC (B 4) zi)) (λ_ _=>rfl)) (B 1) (λ_ _=>rfl)))))))),by have A:=(mkF T);exact ze6 A z u k q}}
def Z5:Ba P w K mg base 3 t.a45 t.d45 ["self","rank"] (wq t):=by
 refine T.g45.f.okA q0y λvs H Q E h=>?_;have #[d,a,lb,Bp,la,g,lays,PP,cs,CC,ae,r,no,gi,rfl,J,I,A,z,u,q,m,k]:=h;exact{Z,λ_ _ _ _ c=>{v6 K t,(zd (x5 cO Z (xj (zF ya (vg (yY c) (zH (B 0) Z) (B 1) (λ_ _=>rfl)) zi)) (QC Z (vU (yB 2 q0y.nd) (vU (yB 3 q0y.nd) Vd))) (zd (zx 4 q0y.nd (AE (zH (B 0) Z) T.q0b (kL T) T.g44 c zw (zc (B 2) (zc (B 1) ze)))) (zm (zR (zC Wk (B 4) (B 3) (zJ _)) (zm (zA (zY (zc (B 2) (zc (B 3) (zc (B 4) ze))))))
    zG)))) (zm (zA x4))),Zk (dkF T) J I A z u q m k}}
def qM:Ba P w K mg base 4 t.a46 t.d46 ["self"] (vm t):=by
 refine T.g46.f.okA q0z λvs H Q E h=>?_;have #[#[d,a,lb,n,f,wo,cs,ws,kv,la,db,en,g,lays,ld,CC],rfl,J,I,A,z,u,q,k,c]:=h;exact{Z,λ_ _ _ _ m=>{vo K t,(zd (zx 1 q0z.nd (zP (zae Z) Z T.q13 Yc (zc (zH (B 0) Z) ze))) (zd (x5 cO Z (xj (B 1)) (yB 2 q0z.nd) (zd (zx 3 q0z.nd (AE (B 0) T.q0j (Z5 T) T.g45 m zw (zc (B 2) ze))) (zd (zR (zC Ve (B 3) x4 (zJ _)) (zm (zA (zu zdj (zY (zc (B 2) ze)) (B 3))))
    zG) (zm (zN (VH (zH (B 0) Z) (B 2) {Z,Z,Z,Z})))))) (zm (zA x4)))),qg (dkF T) J I A z u q k c}}
theorem XI:Ba P w K mg base 1 t.a47 t.d47 ["ranks_at","place","rank"] (jn):=by
 refine T.g47.f.okA q1k λvs H Q E h=>{?_,λ_ _ _ _ k=>{_,(zd (zx 3 q1k.nd (vg (yY k) (B 0) (B 1) (λ_ _=>rfl))) (zd (zN (x9 bO oW oX Qh (B 3) (zc (B 2) ze))) (zm (zR (zC (za5 (za4 k)) (B 3) (yQ ze) (zJ _)) (zm (zN (zgF (yY k) (B 0) (B 1) {Z,Z,Z,Z})))
    zG)))),by
    have #[rk,J,ae,G,P,A,u,rfl,k,fk,hp,hP,q]:=h;obtain ⟨a,rs,hk,hv,fa,ha,hs,hne,hi⟩|⟨_,_,hn⟩:=k.get u
    .have aa:ae∈rs:=(hi ae).mpr hP;have ar:=zbX k ha;refine{_,Z,_,Z,rk,.ref a,Z,(by rw[<-hv];exact .t k.at_ hp),_,Z,.inl {Z,_,aO.of ha},_,Z,a,rs,ae,Z,Z,ha,aa,_,Z,(),λz hz=>?_};have k2:=(dl.refl (G:=G) (rk:=rk) (H:=H)).lst (ys:=(rs.erase ae).map V.int) ha fa;have d2:Dm H (upd H a (.lst ((rs.erase ae).map V.int))):=Dm.upd nofun
     have pa:J≠a:=zQ hp ha ();have O:upd H a (.lst ((rs.erase ae).map V.int)) J=Y (.tup ((zI u).map kV)):=by rw[zt pa];exact hp
     have I:upd H a (.lst ((rs.erase ae).map V.int)) rk=Y (.dT A):=by rw[zt ar];exact k.at_
     generalize c_:upd _ z _=H3;have #[c,q3]:=yI c_ hz;refine{a,z,_,Z,Z,aO.of (c _ _ zo),aO.of q3,_,Z,?_};by_cases e:rs.erase ae=[]
     .refine yE (Bj (by rw[e];rfl)) {_,Z,rk,Z,.inr {_,.inl (c _ _ I)},_,Z,A,zI u,J,_,c _ _ I,Z,c _ _ O,hv,q _ (yO A (zI u)) ((k2.same c).dct _) (d2.trans ((Dm.of_same c).trans (Dm.upd nofun))) ?_};refine(k.out2 (us:=(rs.erase ae).map V.int) hk ha hs hi e λp r=>uE).keep fk (λb o fb m=>?_) (λ_ z=>z);by_cases hb:b=rk
      .subst hb;rw[zo] at m ⊢;exact m
      .rw[zt hb] at m ⊢;exact c _ _ m
     .refine yj (Bk λz=>e (List.map_eq_nil_iff.mp z)) ?_;exact q _ A (k2.same c) (d2.trans (Dm.of_same c)) ((k.out1 hk ha hs hi e λp r=>uE).keep fk (λb o _ m=>c _ _ m) (λ_ z=>z))
    .exact absurd hP (hn ae)}}
 have #[rk,J,ae,G,P,A,u,rfl,_]:=h;rfl
theorem qh:Ba P w K mg base 2 t.a48 t.d48 ["self","rank"] (wz t):=by
 refine T.g48.f.okA q10 λvs H Q E h=>?_;have #[#[d,a,lb,n,f,wo,cs,ws,kv,la,db,en,g,lays,ld,CC],ae,s,gi,rfl,h1,J,h3,h4,h5,h6,q]:=h;exact{Z,λ_ _ _ _ hr=>{_,(zd (zx 2 q10.nd (VH (zH (B 0) Z) (B 1) {Z,Z,Z,Z})) (zd (zN (zaX (zH (B 0) Z) (B 1) x4 {Z,Z,Z,Z})) (zd (x5 cO Z (xj (zF ya (B 2) zi)) (QC Z (vU (yB 3 q10.nd) (vU (yB 4 q10.nd) Vd))) (zm (zN (u4 (XI T) T.g47 hr zw (zc (zH (B 0) Z) (zc (B 3) (zc (B 1) ze))))))) (zm (zA (B 2)))))),by
   have D:=(dkF T);have h:=h1;have hl:=J;have ha:=h3;have nl:=h4;have hm:=h5;have nd:=h6;obtain ⟨_,z⟩|⟨v,b,hv,hb,r,rfl,hr⟩:=hl.get (h:=ae)
   .exact absurd (bE (f:=λe:Int×hU×zD=>e.1) hm) z
   obtain rfl:b=(s,gi):=by have:=Kt nl hb hm rfl;injection this
   refine(yh (h.at (i:=2) Z) D.cJ D.j2 Z Z {a.la,Z,.inl {_,.inl (h.at (i:=6) Z)},_,Z,_,.inl ae,_,h.at (i:=6) Z,Z,hv,?_});have J:=h.put (i:=6) (o':=.dK (yO la (.inl ae))) Z Z ();have F2:=h.fput (i:=6) (o':=.dK (yO la (.inl ae))) Z ();generalize upd H a.la (.dK (yO la (.inl ae)))=H2 at *
   have J:u7 t H2 lb (AT t d a n f wo cs ws kv (yO la (.inl ae)) db en) a.mks a.re g lays (AD ld) cs CC:=J;have fin:∀H3 O,Fr M1 H H3 lb lb->u7 t H3 lb (AT t d a n f wo cs ws kv (yO la (.inl ae)) O en) a.mks a.re g lays (AD ld) cs CC->DbA g lays (yH ld ae) O->zL (Zm (vf K (aN (xR K) (zk 2) (tC (.int 1)))) (zfd K 2 (YW (zM 3) (YW (zM 4) zfb))) (yV (zV jn [] E0 (zj (xg K (zk 0) "readers") (zj (zk 3) (zj (zk 1) zy)))))) (yJ (zk 2)) (u9 Q) [Y (.ref a.jb),Y (.int ae),Y (.ref r),L,L] H3:=λH3 O F3 h3 aj=>by
    have #[o,ag,gl,er,_,#[xs,A,px],_,z1,z2]:=hr.fr F3 (.inr ());have e1:H3 a.jb=Y (.ins t.q03 a.dj (Ke a.mks a.la a.re a.db)):=h3.at (i:=2) rfl;have rl:=h3.rl;have #[kk,r0]:=h3.rr;refine{_,Z,r,_,1,_,Z,Z,uZ.of er,Z,ag,Z,{_,aO.of A},xD xs (tkI a (.ref r) ae (λb=>lb b=11\/H3 b=L) (AD ld) s.no H3) {{_,_,Z},dl.refl,Dm.refl,kk,(r0.keep (F':=λb=>lb b=11\/H3 b=L) rl (λb o _ e=>e) λ_ z=>.inl z).eqv λp i=>by simp} (λi σ H' ⟨_,k,_⟩=>aO.of (k _ _ A (λz=>by rw[z,rl] at z1;cases z1) (.inr λz=>z.elim (λy=>by rw[z1] at y;cases y) λy=>by rw[A] at y;cases y))) ?_ ?_}
    .rintro i u σ H' hu ⟨⟨o3,o4,rfl⟩,k,dm,ac,I⟩;have #[y,hy,w,p,rfl,ew,ep]:=Paired.getP px hu;have tk:∀b zs,H3 b=Y (.tup zs)->H' b=Y (.tup zs):=λb zs e=>k _ _ e (zQ e r0.at_ ()) (.inl nofun);refine{w,_,Z,uZ.of (tk _ _ ew),Z,_,_,Z,_,_,Z,Z,yh (k _ _ e1 (zQ e1 r0.at_ ()) (.inl nofun)) D.cJ D.j3 Z Z {_,Z,_,Z,a.re,p,ae,_,_,ac,y.1,Z,I,.inl rl,tk _ _ ep,{{_,hm,Z,bE (bA hy)},λz=>zdZ nd hy z.2},λH3 ai k3 d3 r3=>{{_,_,Z},k.trans k3,dm.trans d3,ai,r3.eqv λp j=>?_}}};rw[zb5 hy];exact{λ⟨⟨a,b⟩,c⟩=>{a,λd=>d.2.elim (λe=>b {d.1,e}) λe=>c {d.1,e}},λ⟨a,b⟩=>{{a,λc=>b {c.1,.inl c.2}},λc=>b {c.1,.inr c.2}}}
    .rintro σ H' ⟨⟨o3,o4,rfl⟩,k,dm,ac,I⟩;rw[bG px,cU] at I;have #[lb',F4,h4]:=h3.regrow Z k dm (I.eqv (P':=AD (yH ld ae)) λp i=>{λ⟨⟨e,m,ei,ep⟩,z⟩=>{e,aV.mpr {m,λy=>z {ei.symm.trans y,by rw[Kt nl m hm y] at ep;exact ep}},ei,ep},λ⟨e,m,ei,ep⟩=>{{e,(aV.mp m).1,ei,ep},λz=>(aV.mp m).2 (ei.trans z.1)}});have F5:=F3.trans F4;exact{_,Z,q r H' lb' _ O F5 h4 (vp hl F5 (.inr ())).drop aj (hr.fr F5 (.inr ()))}
   have hd:=ha.wk;have aa:∀x,x∈db->x≠ae->x∈(yH ld ae).map (·.1):=λx A n=>by have #[e,m,rfl]:=bK.mp (hd.su x A);exact bE (f:=λe:Int×hU×zD=>e.1) (aV.mpr {m,n})
   have h7:H2 a.db=Y (.dK (dbL db)):=J.at (i:=7) rfl;refine(yh (J.at (i:=2) Z) D.cJ D.j4 Z Z {a.db,Z,.inl {_,.inl h7},_,Z,dbL db,.inl ae,h7,Z,λv _=>?_,λz=>?_})
   .rw[zdY];have h4:=J.put (i:=7) (o':=.dK (dbL (db.filter λy=>decide (y≠ae)))) Z Z ();have F4:=J.fput (i:=7) (o':=.dK (dbL (db.filter λy=>decide (y≠ae)))) Z ();exact fin _ _ (F2.trans F4) h4 {{hd.nd.sublist dD,λx A=>aa x (cC.mp A).1 (of_decide_eq_true (cC.mp A).2)},λe m nm=>ha.ag e (aV.mp m).1 λz=>nm (cC.mpr {z,Bj (aV.mp m).2})}
   .exact fin _ _ F2 J {{hd.nd,λx A=>aa x A λe=>by rw[<-e,zg9 A] at z;cases z},λe m=>ha.ag e (aV.mp m).1}}}
def XJ:Ba P w K mg base 1 t.a49 t.d49 ["self","ranks"] (ki t):=by
 refine T.g49.f.okA Xo λvs H Q E h=>?_;have #[x,l,ws,rfl,c,k,q]:=h;exact{Z,λ_ _ _ _ m=>{_,(zm (zA (zF zU (B 1) (zde QD zi)))),by
   have h:=c;have c:=k;refine{_,Z,1,Z,l,_,-1,.int (ws.getLast c),Z,Z,aO.of h,?_,q _ (List.getLast_mem c)};have z:ws.map V.int=ws.dropLast.map V.int++[V.int (ws.getLast c)]:=by rw[<-List.map_singleton,<-bZ,nF]
   rw[z];exact L2.atI_last _ _}}
def XL:Ba P w K mg base 1 t.a50 t.d50 ["self","ranks"] (kj t):=by refine T.g50.f.okA q1l λvs H Q E h=>?_;have #[x,l,dw,ws,k,rfl,u,m,c,q]:=h;exact{Z,λ_ _ _ _ z=>{ko K t,(zd (zx 2 q1l.nd (zu zS (zH (B 0) Z) (zP yv Z T.q06 xv (zc (B 1) ze)))) (zd (zej (f:="times") (B 0) zi zjq) (zm (zA (zF zU (B 1) (B 2)))))),YQ (dkF T) u m c q}}
theorem KC:Ba P w K mg base 1 t.a51 t.d51 ["self","ranks"] (Yr t):=by
 refine T.g51.f.okA Ka λvs H Q E h=>?_;have #[x,l,ws,rfl,c,k,q]:=h;exact{Z,λ_ _ _ _ m=>{_,(zm (zA (zF zU (B 1) zi))),by
   have h:=c;have c:=k;cases ws with
   |nil=>exact absurd Z c
   |cons w ws=>exact{_,Z,l,_,0,_,Z,Z,aO.of h,by simp[Ay,ixN],q w bw}}}
theorem Wi:Ba P w K mg base 3 t.a52 t.d52 ["self","hand"] (vI t):=by
 refine T.g52.f.okA q1m λvs H Q E h=>{?_,λ_ _ _ _ A=>{_,(zd (zx 2 q1m.nd (zgJ (zH (B 0) Z) (zad (zgI T.q1w T.g49.me (pv.mono (XJ T) ()) A T.g49.b) (zad (zgI T.q1s T.g50.me (pv.mono (XL T) ()) A T.g50.b) (zad (zgI T.q1x T.g51.me (pv.mono (KC T) ()) A T.g51.b) zjW))) zw (zc (yz yZ Z T.q09 xA (zc (zH (B 0) Z) ze)) ze))) (zd (zN (x9 bO oW oX Qh (zH (B 0) Z) (zc (B 2) ze))) (zd (vO (yY A) (zH (B 0) Z) (B 1) (zY (zc (B 2) (zc (Z8 T.mk_Run (pv.mono (WM T) ()) A Z T.g_Run T.q1t .nil zw (zc (zF zU (zH (B 0) Z) (zu vC (B 2) (zH (B 0) Z))) ze)) ze))) Z) (zm (zA (zY (zc zO (zc (B 1) (zc (B 2) ze))))))))),by
   have D:=(dkF T);have #[d,a,lb,n,f,h0,g,CC,S,rfl,h,O,fr,J,q]:=h;have G:=h;have #[wo,cs,kv,la,db,en,h,hh,hl,hd,le,wy]:=h;have z:H d=Y (.ins t.q00 a.dx (X9 a n f)):=h.at (i:=0) rfl;have ew:H a.wy=Y wo:=h.at (i:=1) rfl;obtain rfl|rfl|⟨k,rfl⟩:=wy
   .refine yh z D.cD D.d2 Z Z {a.wy,_,_,_,_,Z,ew,Z,.tail _ (.tail _ (.head _)),yh z D.cD D.d5 Z Z {a.wl,_,Z,.inl (aO.of (h.at (i:=4) Z)),λl c=>{a.wy,l,_,Z,zo,J,λw u=>?_}}};have m:=u5 (o:=HO.lst (S.ws.map V.int)) l c;exact YR D (G.same m) O fr u λv H' lb' F=>q v H' lb' w ((Fr.same m).trans F) u
   .refine yh z D.cD D.d2 Z Z {a.wy,_,_,_,_,Z,ew,Z,.head _,yh z D.cD D.d5 Z Z {a.wl,_,Z,.inl (aO.of (h.at (i:=4) Z)),λl c=>{a.wy,l,_,Z,zo,J,λw u=>?_}}};have m:=u5 (o:=HO.lst (S.ws.map V.int)) l c;exact YR D (G.same m) O fr u λv H' lb' F=>q v H' lb' w ((Fr.same m).trans F) u
   .refine yh z D.cD D.d2 Z Z {a.wy,_,_,_,_,Z,ew,Z,.tail _ (.head _),yh z D.cD D.d5 Z Z {a.wl,_,Z,.inl (aO.of (h.at (i:=4) Z)),λl c=>?_}};have m:=u5 (o:=HO.lst (S.ws.map V.int)) l c;have h2:=h.same Z m;have h3:=h2.put (i:=1) (o':=.ins t.q07 a.dw [(br "times",.int (k+1:Nat))]) Z Z ();have I:=(Fr.same m).trans (h2.fput (i:=1) (o':=.ins t.q07 a.dw [(br "times",.int (k+1:Nat))]) Z ());exact{a.wy,l,a.dw,_,k,Z,zo,J,h2.at (i:=1) Z,λw u=>YR D {_,cs,kv,la,db,en,h3,qK hh I Yw,vp hl I (.inr ()),hd,le.fr I (.inr ()),.inr (.inr {_,Z})} O fr u λv H' lb' F=>q v H' lb' w (I.m0.trans F) u}}}
 have #[d,a,lb,n,f,h,g,CC,S,rfl,_]:=h;rfl
theorem YS:Ba P w K mg base 5 t.a53 t.d53 ["self","hand"] (jG t):=by
 refine T.g53.f.okA q18 λvs H Q E h=>{?_,λ_ _ _ _ O=>{_,(zd (zx 2 q18.nd (ve (B 0) T.q04 (yG T) T.g40 O zw)) (zd (zx 3 q18.nd (ve (zH (B 0) Z) T.q0j (qM T) T.g46 O zw)) (zd (zR (PW.pt (Yy (zC (Vl (yY O)) (B 2) (zH (zH (B 0) Z) Z) (by with_unfolding_all rfl)) (qk (PW.pt (Zl (zC QE (B 3) x4 (zJ _)) (ku (zC Wk (zF ya (B 3) zi) (B 2) (zJ _)))))))) (zd (zN (x9 bO cg ck yC (zH (B 0) Z) (zc (AE (zH (B 0) Z) T.q0j (qh T) T.g48 O zw (zc (B 2) ze)) ze))) (zm (zA (zY (zc zO (zc (B 1) (zc (B 2) ze)))))))
   zG) (zd (zR (zC Ve (B 3) x4 (zJ _)) (zd (zN (AE (zH (B 0) Z) T.q0j (qh T) T.g48 O zw (zc (zF ya (B 3) zi) ze))) (zd (zN (x9 bO oY oZ Qg (zH (B 0) Z) (zc (u4 (x3 T) T.g43 O zw (zc (zH (B 0) Z) (zc (zF ya (B 3) zi) ze))) (zc (zF ya (B 3) zi) ze)))) (zm (zA (zu zdj (zY (zc zO (zc (B 1) ze))) (B 3))))))
   zG) (zd (zR (zC (zbz (za4 O)) (zH (B 0) Z) (yQ ze) (zJ _)) (zm (zA (AE (B 0) T.q04 (Wi T) T.g52 O zw (zc (B 1) ze))))
    zG) (zm (zA (zY (zc zO (zc (B 1) ze)))))))))),by
   have D:=(dkF T);have #[d,a,lb,n,f,h0,g,CC,S,rfl,h,A,fr,q]:=h;have #[wo,cs,kv,la,db,en,h,hh,hl,hd,le,wy]:=h;have l5:=A.cc.le;have ln:=A.len;have e1:H d=Y (.ins t.q00 a.dx (X9 a n f)):=h.at (i:=0) rfl;have nn:∀e∈S.ld,0<=e.1:=λe he=>by have #[j,z,_]:=A.rl (bE (f:=λe:Int×hU×zD=>e.1) he);have:=A.f0;lia
   refine(x8 e1 Z Z {d,_,a,n,f,en,Z,e1,h.at (i:=8) Z,?_});rw[le.le];have gt:∀ {J I},Fr M1 H J lb lb->u7 t J lb (AT t d a n f wo cs S.ws kv la I en) a.mks a.re g S.ls (AD S.ld) cs CC->DbA g S.ls S.ld I->Au t J d a lb n f g CC S/\mvP t J d a lb n f h0 g CC S Q:=λF2 u AO=>{{wo,cs,kv,la,_,en,u,qK hh F2 Yw,vp hl F2 (.inr ()),AO,le.fr F2 (.inr ()),wy},λv H' lb' e S' F=>q v H' lb' e S' (F2.m0.trans F)};have dg:∀ {J I},u7 t J lb (AT t d a n f wo cs S.ws kv la I en) a.mks a.re g S.ls (AD S.ld) cs CC->Ab J a.la (.int (f+S.en)) (yt la (.inl (f+S.en))):=λu=>.k (k:=.inl (f+(S.en:Int))) (u.at (i:=6) Z);refine(yh e1 D.cD D.d8 Z Z {a.jb,_,_,Z,h.at (i:=2) Z,Z,{d,a,lb,n,f,wo,cs,S.ws,kv,la,db,en,g,S.ls,S.ld,CC},Z,h,hl,hd,show S.ld.length<=10 by lia,A.nd.2.1.2.1,nn,λJ F2 u AO=>?_,λv J I qa r s gi y F2 u AO lo hm hy hn hv hq=>?_})
   .have #[G2,q2]:=gt F2 u AO;refine{_,Z,yh (u.at (i:=0) Z) D.cD D.d8 Z Z {a.jb,_,_,_,_,Z,u.at (i:=2) Z,D.cJ,D.j2,Z,a.la,_,Z,dg u,_,Z,?_}};obtain ⟨z,nm⟩|⟨v,b,z,m,_⟩:=hl.get (h:=f+(S.en:Int))
    .rw[z];exact yj Z (yj Z {_,Z,Z,_,Z,yj Z (ziv D G2 A fr nm q2)})
    .rw[z];exact yE Z {_,Z,Z,_,Z,yE Z (yE Z (zd0 D G2 A fr m (AO.ag _ m nofun) q2))}
   .have #[G2,q2]:=gt F2 u AO;refine{_,Z,yh (u.at (i:=0) Z) D.cD D.d8 Z Z {a.jb,_,_,_,_,Z,u.at (i:=2) Z,D.cJ,D.j2,Z,a.la,_,Z,dg u,_,Z,?_}};obtain ⟨z,nm⟩|⟨w,b,z,m,_⟩:=hl.get (h:=f+(S.en:Int))
    .rw[z];exact yj Z (yj Z {_,Z,Z,_,Z,yE Z (zd1 D G2 A fr hm hy hn hv hq q2)})
    .rw[z];refine yE Z {_,Z,Z,_,Z,yj Z {_,Z,v,_,0,_,Z,Z,uZ.of hv,Z,_,Z,Z,_,Z,?_}};by_cases c:r=f+S.en
     .refine yj (by rw[Bj (congrArg V.int c)];rfl) ?_;exact{_,Z,Z,_,Z,yE Z (zd1 D G2 A fr hm hy hn hv hq q2)}
     .refine yE (by rw[Bk (λe=>c (V.int.inj e))];rfl) (zd0 D G2 A fr m (AO.ag _ m λz=>c ?_) q2);have #[j,e,jl,_]:=A.rl (bE (f:=λe:Int×hU×zD=>e.1) hm);have e:r=f+j:=e;have:=lo _ z;lia}}
 have #[d,a,lb,n,f,h,g,CC,S,rfl,_]:=h;rfl
def wW:Ba P w K mg base 1 t.a54 t.d54 ["self","rank"] (xW t):=by
 refine T.g54.f.okA YH λvs H Q E h=>{?_,λ_ _ _ _ hr=>{_,(zm (zA (yz (jC Z) Z T.q09 xA (zc (jt (yY hr) (zH (B 0) Z) (B 1) kP {Z,Z,Z,Z}) ze)))),by
   have MF:=(mkF T);have #[m,ae,F,g,lays,I,rfl,J,q]:=h;have #[dx,gr,wo,rk,wk,kk,M]:=J.ex;refine yh M.im MF.cl MF.w Z zik {wo,Z,.inl {_,.inl M.hw},_,Z,λp hp=>?_};generalize c_:upd _ p _=H1;have #[u,q1]:=yI c_ hp;have M1:=M.keep J.me λb o _ e=>u _ _ e;by_cases hin:ae∈lays.map (·.1)
   .have #[y,hy,O]:=bK.mp hin;have #[r',gs]:=y;have O:r'=ae:=O;subst O;have #[d,v1,fd,nd,hd]:=zam M1.wp J.nd hy;have z:=Ab.k (k:=.inl r') M1.hw;rw[v1] at z;refine{_,z,d,uU gs,Z,hd,λl ys hl A=>?_};have c:=u5 (o:=HO.lst ys) l hl;exact q l ys gs _ (u.trans c) (zK u hl) zo (Paired.mapP A λ_ _ ⟨p,e,h⟩=>{p,e,c _ _ h}) (.inl hy)
   .have z:=Ab.k (k:=.inl ae) M1.hw;rw[zan M1.wp hin] at z;refine{_,z,p,[],Z,q1,λl ys hl A=>?_};have c:=u5 (o:=HO.lst ys) l hl;exact q l ys [] _ (u.trans c) (zK u hl) zo (Paired.mapP A λ_ _ ⟨p,e,h⟩=>{p,e,c _ _ h}) (.inr {hin,Z})}}
 have #[m,ae,F,g,lays,I,rfl,_]:=h;rfl
theorem YT:Ba P w K mg base 2 t.a55 t.d55 ["self","rank"] (wU t):=by
 refine T.g55.f.okA q19 λvs H Q E h=>{?_,λ_ _ _ _ hr=>{_,(zd (zx 2 q19.nd (AE (B 0) T.q0b (wW T) T.g54 hr zw (zc (B 1) ze))) (zd (zN (zaX (zH (B 0) Z) (B 1) x4 {Z,Z,Z,Z})) (zm (x5 cO Z (xj (B 2)) (yB 3 q19.nd) (zm (zN (u4 (XI T) T.g47 hr zw (zc (zH (B 0) Z) (zc (B 3) (zc (B 1) ze)))))))))),by
   have MF:=(mkF T);have #[m,ae,F,g,lays,al,rfl,c,q]:=h;have #[dx,gr,wo,rk,O,kk,M]:=c.ex;refine x8 M.im Z (jF ()) {_,Z,m,ae,F,g,lays,al,Z,c,λBp ys gs H1 A fL hL hy ho=>?_};have M1:=M.keep c.me λb o _ e=>A _ _ e;have ac:∀y∈Kd lays ae,0<=y.1/\Jw y.2:=λy hy=>c.ok y (cC.mp hy).1;have ag:((Kd lays ae).map (·.1)).Nodup:=ie (f8 _ dD) c.nd;have nL:¬ F Bp:=λz=>by have #[o,e]:=c.own Bp z;rw[fL] at e;cases e
   have J:∀ {H2:Hp},Dm H1 H2->∀b,F b->∃o,H2 b=Y o:=λdm b hb=>by have #[o,e]:=c.own b hb;have #[o',e',_]:=dm b o (A _ _ e);exact{o',e'}
   refine yh M1.im MF.cl MF.w Z zik {wo,Z,.inl {_,.inl M1.hw},_,Z,O,.inl ae,M1.hw,Z,λv hv=>?_,λhv=>?_}
   .have I:ae∈lays.map (·.1):=gu λz=>by rw[zan M1.wp z] at hv;cases hv
    have ai:(ae,gs)∈lays:=ho.resolve_right λz=>z.1 I;have ar:=(c.ok _ ai).2;have wm:m≠wo:=zQ M1.im M1.hw ();have wg:gr≠wo:=zQ M1.hg M1.hw ();have wr:rk≠wo:=zQ M1.rr.at_ M1.hw ();have u:∀b o,b≠wo->H1 b=Y o->upd H1 wo (HO.dK (yO O (.inl ae))) b=Y o:=λb o n e=>by rw[zt n];exact e
    have w2:upd H1 wo (HO.dK (yO O (.inl ae))) wo=Y (HO.dK (yO O (.inl ae))):=zo;have d2:Dm H1 (upd H1 wo (HO.dK (yO O (.inl ae)))):=Dm.upd nofun
    generalize upd H1 wo (HO.dK (yO O (.inl ae)))=H2 at *
    have aj:uT H2 rk F (jP lays) kk:=M1.rr.keep2 (by rw[u _ _ wr M1.rr.at_,M1.rr.at_]) (λb xs _ e=>u _ _ (zQ e M1.hw ()) e) (λ_ z _=>z);refine zea MF (u _ _ wm M1.im) (u _ _ (zQ hL M1.hw ()) hL) nL (Paired.mapP hy λ_ _ ⟨p,e,h⟩=>{p,e,u _ _ (zQ h M1.hw ()) h}) ar.nd (λr hr=>{gs,ai,bE hr}) aj M.fk λH' az k dm aa=>?_;have an:Bl (zbM H2 rk F) (yO O (.inl ae)) (Kd lays ae):=Paired.mapP (zao M1.wp) λ_ _ ⟨e,d,e2,fd,nd,hd⟩=>{e,d,e2,fd,nd,u _ _ (zQ hd M1.hw ()) hd};refine q H' F (λb o nf e=>Qx M.fk k b o nf (u _ _ (λz=>nf (by rw[z];exact M.fw)) (A _ _ e))) (λb zs e=>k _ _ (u _ _ (zQ (A _ _ e) M1.hw ()) (A _ _ e)) (zQ (A _ _ e) M1.rr.at_ ()) (.inl nofun)) ?_ (λ_ z=>.inl z) λ_ z=>z;exact zg2 c.me M.fg M.fw M.fk M.nr (u _ _ wm M1.im) (u _ _ wg M1.hg) w2 {_,aj.at_} an k (J (d2.trans dm)) (aa.eqv (zg3 c.nd ai)) ag ac
   .have I:ae ∉ lays.map (·.1):=λz=>by have #[y,hy,ey]:=bK.mp z;have #[r',gs]:=y;have ey:r'=ae:=ey;subst ey;have #[d,v1,_]:=zam M1.wp c.nd hy;rw[v1] at hv;cases hv
    have eg:gs=[]:=(ho.resolve_left λz=>I (bK.mpr {_,z,Z})).2;subst eg;rw[zim I] at ac ag q;refine zea (gs:=[]) MF M1.im hL nL hy cY (λr hr=>nomatch hr) M1.rr M.fk λH' az k dm aa=>?_;refine q H' F (λb o nf e=>Qx M.fk k b o nf (A _ _ e)) (λb zs e=>k _ _ (A _ _ e) (zQ (A _ _ e) M1.rr.at_ ()) (.inl nofun)) ?_ (λ_ z=>.inl z) λ_ z=>z;exact zg2 c.me M.fg M.fw M.fk M.nr M1.im M1.hg M1.hw {_,M1.rr.at_} M1.wp k (J dm) (aa.eqv λp r=>by simp) ag ac}}
 have #[m,ae,F,g,lays,al,rfl,_]:=h;rfl
theorem WP:Ba P w K mg base 2 t.a56 t.d56 ["ranks_at","place","rank"] (kg):=by
 refine T.g56.f.okA q1n λvs H Q E h=>{?_,λ_ _ _ _ A=>{_,(zd (zx 3 q1n.nd (zgG (yY A) (B 0) (B 1) (yQ ze) {Z,Z,Z,Z})) (zm (zN (x9 bO oY oZ Qg (B 3) (zc (u4 (x3 T) T.g43 A zw (zc (B 3) (zc (B 2) ze))) (zc (B 2) ze)))))),by
   have #[rk,pl,ae,G,P,J,I,rfl,A,gk,gn,hp,ar,kl,al,q]:=h;refine{_,Z,rk,Z,.inr {_,.inl A.at_},_,Z,(),λz hz=>?_};generalize c_:upd H z _=H2;have #[s2,q2]:=yI c_ hz;have c:=A.keep (F':=G) gk (λb o _ e=>s2 _ _ e) (λ_ z=>z);have aa:dl G rk H H2:=dl.refl.same s2;have aj:Dm H H2:=Dm.of_same s2;have gz:G z:=gn z hz;refine{J,zI I,pl,c.at_,Z,s2 _ _ hp,by rw[bN];lia,λv u=>?_,λu=>?_}
   .obtain ⟨a,rs,hk,hv2,fa,ha,hs,hne,hi⟩|⟨hv2,_,_⟩:=c.get I
    .rw[hv2] at u;cases u;have rl:=al rs hs λr A=>(hi r).mp A;refine{_,Z,.inl {Z,_,aO.of ha},_,Z,_,Z,a,rs,ae,Z,ha,hs,λk H3 m O ac ag=>{_,Z,a,_,k,_,Z,Z,m _ _ ha,by rw[bn];exact O,by rw[bn];lia,?_}};rw[<-lH,<-lI,<-bB (f:=V.int),<-bZ];have an:=c.keep (F':=G) gk (λb o _ e=>m _ _ e) (λ_ z=>z);exact q _ J ((aa.same m).lst (m _ _ ha) fa) ((aj.trans (Dm.of_same m)).trans (Dm.upd nofun)) (an.in1 hk (m _ _ ha) hs hi ac ag ar λp r=>uE)
    .rw[hv2] at u;cases u
   .have zr:z≠rk:=zQ q2 c.at_ ();rw[jr _ u];have qz:upd H2 rk (HO.dT (J++[(zI I,V.ref z)])) z=Y (.lst (([]:ym).map V.int)):=by rw[zt zr];exact q2
    have hf:∀kv∈J,kv.2≠.ref z:=λkv hk e=>by have #[p',a',az,rfl,_,ai,_]:=A.ls kv hk;cases e;rw[hz] at ai;cases ai
    obtain ⟨a,rs,hk,hv2,_⟩|⟨_,hkn,hn⟩:=c.get I
    .rw[hv2] at u;cases u
    refine{_,Z,.inl {Z,_,aO.of qz},_,Z,_,Z,z,[],ae,Z,qz,gD,λk H3 m O ac ag=>?_};have k0:k=0:=pL.mp O;subst k0;have d3:Dm H (upd H2 rk (HO.dT (J++[(zI I,V.ref z)]))):=aj.trans (Dm.upd nofun);refine{_,Z,z,[],0,_,Z,Z,m _ _ qz,bq _,(),q _ (J++[(zI I,V.ref z)]) (((aa.dct _).same m).lst (m _ _ qz) gz) ((d3.trans (Dm.of_same m)).trans (Dm.upd nofun)) ?_};refine(c.in2 (a:=z) (ae:=ae) hkn hn gz hf zr λp r=>uE).keep gk (λb o fb eb=>?_) (λ_ z=>z);show upd H3 z (HO.lst [V.int ae]) b=Y o;by_cases hb:b=z
    .subst hb;rw[zo] at eb ⊢;exact eb
    .rw[zt hb] at eb ⊢;exact m _ _ eb}}
 have #[rk,pl,ae,G,P,J,I,rfl,_]:=h;rfl
def zaE:Ba P w K mg base 3 t.a57 t.d57 ["self","rank","gifts"] (qE t):=by
 refine T.g57.f.okA q1a λvs H Q E h=>?_;have #[m,ae,gv,F,g,lays,gs,rfl,O,A,J,z,u,I,q]:=h;exact{Z,λ_ _ _ _ c=>{_,(zd (zN (AE (B 0) T.q0b (wV T) T.g42 c zw (zc (B 1) ze))) (zd (zN (AE (B 0) T.q0b (YT T) T.g55 c zw (zc (B 1) ze))) (zd (zx 3 q1a.nd (yz (wP Z (hu3 c)) Z T.q11 Vh (zc (B 2) ze))) (zd (zjJ (x5 cO Z (zgj (B 3)) (yB 4 q1a.nd) (zm (zN (u4 (WP T) T.g56 c zw (zc (zH (B 0) Z) (zc (B 4) (zc (B 1) ze)))))))) (zm (vO (yY c) (zH (B 0) Z) (B 1) (B 3) Z)))))),by have MF:=(mkF T);have k:=z;have z:=u;have u:=I;exact zho MF O A A J k z u q}}
theorem Ym:Ba P w K mg base 2 t.a58 t.d58 ["self","place","rank"] (jf t):=by
 refine T.g58.f.okA q1b λvs H Q E h=>{?_,λ_ _ _ _ u=>{_,(zd (zx 3 q1b.nd (jt (yY u) (zH (B 0) Z) (B 1) (yQ ze) {Z,Z,Z,Z})) (zd (zx 4 q1b.nd (u4 (x3 T) T.g43 u zw (zc (B 3) (zc (zu yc (B 2) zi) ze)))) (zm (zA (vT (zC yA (B 4) (zP yv Z T.q06 xv (zc (B 3) ze)) (zJ _)) x4 (zF zU (B 3) (B 4))))))),by
   have MF:=(mkF T);have #[m,p,ae,F,g,lays,O,rfl,h1,h2,q]:=h;have #[dx,gr,wo,rk,wk,kk,M]:=Ak.ex h1;refine(yh M.im MF.cl MF.r Z zg1 {rk,Z,.inr {_,.inl M.rr.at_},_,Z,(),λl hl=>?_});generalize c_:upd H l _=H2;have #[J,q2]:=yI c_ hl;have M2:=M.keep h1.me λb o _ e=>J _ _ e;refine{_,.t M2.rr.at_ (J _ _ h2),?_};have go:∃(c:af)(rs:ym),((yt kk (zI O)).getD (.ref l))=.ref c/\H2 c=Y (.lst (rs.map V.int))/\rs.Pairwise (· < ·)/\∀r,r∈rs↔jP lays O r:=by
    obtain ⟨c,rs,hk,hv,fa,ha,A,hne,I⟩|⟨hv,_,no⟩:=M2.rr.get O
    .exact{c,rs,by rw[hv];rfl,ha,A,I}
    .exact{l,[],by rw[hv];rfl,q2,gD,λr=>{(),λz=>absurd z (no r)}}
   have #[c,rs,ev,ha,A,I]:=go;rw[ev];refine{_,Z,_,Z,_,_,Z,Z,c,rs,_,Z,ha,A,λk H3 s3 hk k1 k2=>?_};have e3:=s3 _ _ ha;refine{_,Z,_,Z,.ref c,rs.length,Z,.inl {_,aO.of e3,(bn ..).symm},Z,_,Z,?_};by_cases z:k=rs.length
   .exact yE (Bj (by rw[z])) (q _ H3 (J.trans s3) (.inl {Z,λr u=>by have:=k1 r (by rw[z,cU];exact(I r).mpr u);lia}))
   .refine yj (Bk (λy=>z (by injection y with y;lia))) ?_;have lt:k<rs.length:=by lia
    have dk:rs.drop k=rs[k]::rs.drop (k+1):=eD lt;refine{_,Z,_,Z,c,_,k,_,Z,Z,aO.of e3,xS (by rw[bF,ba lt];rfl),q _ H3 (J.trans s3) (.inr {rs[k],Z,(I _).mp (eE lt),?_,λr u h=>?_})}
    .have:=k2 rs[k] (by rw[dk];exact bw);lia
    .have m:=(I r).mpr u;rw[<-cB k rs] at m;obtain m|m:=bp.mp m
     .have:=k1 r m;lia
     .rw[dk] at m;obtain m|m:=bC.mp m
      .lia
      .rw[<-cB k rs,dk] at A;exact uf (oH (bW.mp A).2.1 m)}}
 have #[m,p,ae,F,g,lays,O,rfl,_]:=h;rfl
theorem KD:Ba P w K mg base 3 t.a59 t.d59 ["self","place","rank"] (kG t):=by
 refine T.g59.f.okA q0r λvs H Q E h=>?_;have #[#[d,a,lb,n,f,wo,cs,ws,kv,la,db,en,g,lays,ld,CC],p,ae,q0,rfl,h1,h2,h3,h4,q]:=h;exact{Z,λ_ _ _ _ m=>{_,(zd (zx 3 q0r.nd (jt (yY m) (zH (B 0) Z) (B 1) (yQ ze) {Z,Z,Z,Z})) (zd (zx 4 q0r.nd (AE (zH (B 0) Z) T.q0b (Ym T) T.g58 m zw (zc (B 1) (zc (B 2) ze)))) (zd (zx 5 q0r.nd (vT (zC QE (B 4) x4 (zJ _)) (zP yv Z T.q06 xv (zc (B 3) ze)) (u4 (x3 T) T.g43 m zw (zc (B 3) (zc (zu yc (B 4) zi) ze))))) (zm (x5 cO Z (xj (xJ wL (B 3) (xm (u4 (x3 T) T.g43 m zw (zc (B 3) (zc (zu yc (B 2) zi) ze)))) (xm (B 5)))) (yB 6 q0r.nd) (zm (vO (yY m) (zH (B 0) Z) (B 6) (wX (b:=U)) Z))))))),by
   have D:=(dkF T);have h:=h1;have hd:=h2;have O:=h3;have hp:=h4;have #[kk,r0]:=h.rr;have e1:H a.jb=Y (.ins t.q03 a.dj (Ke a.mks a.la a.re a.db)):=h.at (i:=2) rfl;refine(yh e1 D.cJ D.j3 Z Z {a.re,Z,.inr {_,.inl r0.at_},_,Z,(),λl hl=>?_});generalize c_:upd H l _=H2;have #[u,q2]:=yI c_ hl;have h2:=h.same Z u;have #[dx,gr,aa,rk,wk,kx,M]:=Ak.ex h2.ms;refine{_,.t (u _ _ r0.at_) (u _ _ hp),?_};have go:∃(c:af)(rs:ym),((yt kk (zI q0)).getD (.ref l))=.ref c/\H2 c=Y (.lst (rs.map V.int))/\rs.Pairwise (· < ·)/\(∀r∈rs,r∈ld.map (·.1))/\∀r,AD ld q0 r->r∈rs:=by
    obtain ⟨c,rs,hk,hv,fa,J,hs,hne,hi⟩|⟨hv,_,no⟩:=r0.get q0
    .refine{c,rs,by rw[hv];rfl,u _ _ J,hs,λr m=>?_,λr z=>(hi r).mpr z};have #[e,he,er,_]:=(hi r).mp m;exact bK.mpr {e,he,er}
    .exact{l,[],by rw[hv];rfl,q2,gD,(),λr z=>absurd z (no r)}
   have #[c,rs,ev,J,hs,m,hi]:=go;rw[ev];refine(yh (u _ _ e1) D.cJ D.j1 Z Z {a.mks,_,_,Z,M.im,jF (),_,Z,_,Z,a.mks,p,ae,_,g,lays,q0,Z,h2.ms,u _ _ hp,λv H3 I hv=>?_});have h3:=h2.same Z I;have S3:=u.trans I;obtain ⟨rfl,_⟩|⟨i,rfl,hi2,lt2,_⟩:=hv
   .exact{_,Z,Z,_,Z,yE Z {_,Z,.ref c,rs.length,Z,.inl {_,aO.of (I _ _ J),(bn ..).symm},JM (R:=λ_=>True) D h3 hd O (I _ _ J) hs m (λr z _ _=>by rw[cU];exact z) λH' A F o w su y=>q H' A ((Fr.same S3).trans F) o w su λr z lt _=>y r (hi r z) lt trivial}}
   .refine{_,Z,Z,_,Z,yj Z {_,Z,_,Z,_,_,Z,Z,c,rs,_,Z,I _ _ J,hs,λk H4 s4 _ _ k2=>?_}};refine JM (R:=λr=>r<=i) D (h3.same Z s4) hd O (s4 _ _ (I _ _ J)) hs m (λr z _ hR=>?_) λH' A F o w su y=>q H' A ((Fr.same (S3.trans s4)).trans F) o w su λr z lt hm=>y r (hi r z) lt (hm i hi2 lt2);rw[<-cB k rs] at z;obtain z|z:=bp.mp z
    .exact z
    .have:=k2 r z;have:r<=i:=hR;lia}}
def Wj:Ba P w K mg base 4 t.a60 t.d60 ["self","rank","paper"] (vH t):=by refine T.g60.f.okA q0s λvs H Q E h=>?_;have #[#[d,a,lb,n,f,wo,cs,ws,kv,la,db,en,g,lays,ld,CC],r,ae,s,gi,rfl,h1,h2,O,J,I,A,z,u,m,k,q]:=h;exact{Z,λ_ _ _ _ c=>{qd K t,(zd (zx 3 q0s.nd (AE (zH (B 0) Z) T.q0b (wW T) T.g54 c zw (zc (B 1) ze))) (zd (zN (AE (zH (B 0) Z) T.q0b (zaE T) T.g57 c zw (zc (B 1) (zc (zF ya (B 2) zi) ze)))) (zd (x5 cO Z (xj (zu kC (B 3) (AE (zH (B 0) Z) T.q0b (wW T) T.g54 c zw (zc (B 1) ze)))) (yB 4 q0s.nd) (zm (zN (AE (B 0) T.q0j (KD T) T.g59 c zw (zc (B 4) (zc (B 1) ze)))))) (zd (vO (yY c) (zH (B 0) Z) (B 1) (B 2) Z) (zd (vO (yY c) (zH (B 0) Z) (B 1) (wX (b:=U)) Z) (zm (x5 cO Z (xj (zF ya (B 2) zi)) (QC Z (vU (yB 4 q0s.nd) (vU (yB 5 q0s.nd) Vd))) (zm (zN (u4 (WP T) T.g56 c zw (zc (zH (B 0) Z) (zc (B 4) (zc (B 1) ze))))))))))))),Xz (dkF T) h1 h2 O J I A z u m k q}}
theorem qN:Ba P w K mg base 10 t.a61 t.d61 ["self","hand"] (vn t):=by
 refine T.g61.f.okA q0t λvs H Q E h=>{?_,λ_ _ _ _ c=>{_,(zd (zR (PW.pt (Zl (zC jq (B 1) zi (zJ _)) (ku (zC ziN (B 1) (zH (B 0) Z) (zJ _))))) (zm zaI)
   zG) (zd (zR (zC (V2 (yY c)) (B 1) (zH (B 0) Z) (by with_unfolding_all rfl)) (zm (zA (AE (B 0) T.q04 (YS T) T.g53 c zw (zc (B 1) ze))))
    zG) (zd (zx 2 q0t.nd (zF ya (vg (yY c) (zH (B 0) Z) (B 1) (λ_ _=>rfl)) zi)) (zd (zx 3 q0t.nd (zF ya (vg (yY c) (zH (B 0) Z) (B 1) (λ_ _=>rfl)) zi)) (zd (zR (xi (ve (B 3) T.q05 (v9 T) T.g15 c zw)) (zd (zN (VH (zH (B 0) Z) (B 1) {Z,Z,Z,Z})) (zd (zN (AE (zH (B 0) Z) T.q0j (Wj T) T.g60 c zw (zc (B 2) (zc (ve (B 3) T.q05 (XG T) T.g16 c zw) ze)))) (zm (zA (zY (zc zO (zc (B 1) (zc (B 2) ze))))))))
   zG) (zd (zx 4 q0t.nd (ve (B 3) T.q05 (WN T) T.g24 c zw)) (zd (zR (zC QE (B 4) x4 (zJ _)) (zd (zN (zeO (B 3) T.q05 T.me_Run_step (pv.mono (Z4 T) ()) c T.bd_Run_step zw)) (zm (zA (zY (zc zO (zc (B 1) (zc (B 2) ze)))))))
   zG) (zd (zx 5 q0t.nd (AE (zH (B 0) Z) T.q0b (kL T) T.g44 c zw (zc (B 4) (zc (B 2) ze)))) (zd (zN (QK (B 3) T.q05 T.me_Run_step (pv.mono (Z4 T) ()) c T.q1u .nil zw (zc (B 5) ze))) (zm (zA (zY (zc zO (zc (B 1) (zc (B 2) (zc (B 4) (zc (B 5) ze))))))))))))))))),by
   have D:=(dkF T);have #[d,a,lb,n,f,h0,g,CC,S,rfl,h,u,p0,pn,q]:=h;have G:=h;have #[wo,cs,kv,la,db,en,h,O,hl,hd,le,wy]:=h;have m:H d=Y (.ins t.q00 a.dx (X9 a n f)):=h.at (i:=0) rfl;have eh:H a.hd=Y (.dK kv):=h.at (i:=5) rfl;refine{_,Z,_,_,Z,Z,_,Z,yj (Bk ()) {_,Z,yh m D.cD D.d1 Z Z {_,_,Z,Z,_,Z,yj (Bk ()) {_,Z,yh m D.cD D.d6 Z Z {a.hd,_,Z,.k (k:=.inl h0) eh,_,Z,?_}}}}};obtain ⟨z,nm⟩|⟨v,⟨r,j,s⟩,z,hm,tp,x,ra,C,rfl,ht,ec,R,l20⟩:=O.get (h:=h0)
   .rw[z];exact yE Z (x8 m Z Z {_,Z,d,a,lb,n,f,h0,g,CC,S,Z,G,u,nm,q})
   .have dg:Ab H a.hd (.int h0) (Y (.ref tp)):=by
     have y:=Ab.k (k:=.inl h0) eh
     rwa [z] at y
    rw[z];refine yj Z (yh m D.cD D.d6 Z Z {_,Z,a.hd,_,Z,dg,tp,_,0,_,Z,Z,uZ.of ht,Z,?_});refine(yh m D.cD D.d6 Z Z {_,Z,a.hd,_,Z,dg,tp,_,1,_,Z,Z,uZ.of ht,Z,?_});refine(x8 R.ix Z Z {x,ra,C,s,Z,R,λH2 A=>{_,Z,?_}});have I:MvI t H2 d a lb n f h0 g CC S wo cs kv la db en r j s tp x ra C:=MvI.same {h,O,hl,hd,le,wy,hm,z,ht,ec,R,l20} A;have J:mvP t H2 d a lb n f h0 g CC S Q:=λv H' lb' e S' F=>q v H' lb' e S' ((Fr.same A).trans F);cases ho:yy C s with
    |true=>exact yE Z (zeY D I u ho J)
    |false=>exact yj Z (zeZ D I u ho J)}}
 have #[d,a,lb,n,f,h,g,CC,S,rfl,_]:=h;rfl
theorem jN:Ba P w K mg base 11 t.a62 t.d62 ["self"] (xQ t):=by
 refine T.g62.f.okA q1o λvs H Q E h=>{?_,λ_ _ _ _ O=>{_,(zd (zx 1 q1o.nd (yQ ze)) (zd (Vw cO (zC jq (ve (B 0) T.q04 (yG T) T.g40 O zw) (ve (B 0) T.q04 (kr T) T.g41 O zw) (zJ _)) (zm (zN (x9 bO cg ck yC (B 1) (zc (AE (B 0) T.q04 (qN T) T.g61 O zw (zc (zu zS (zP yv Z T.q06 xv (zc (B 1) ze)) (zH (B 0) Z)) ze)) ze))))) (zm (zA (B 1))))),by
   have D:=(dkF T);have #[d,a,lb,n,f,g,CC,S,J,rfl,h,A,h1,h8,j0,js,q]:=h;refine{(),λl hl=>?_};have s0:=u5 (o:=HO.lst []) l hl;have P1:=zkl A;have #[t0,T0]:=zhg A h1 h8 0;have:=T0.1;refine{FnE t H d l a lb n f g CC J,{_,Z,lb,[],[],S,t0,Z,by show 0+_<=300000;lia,T0,Fr.same s0,zo,h.l0 hl,.nil,j0,A,h.same s0},?_};rintro m σ H1 ⟨rfl,k,xs,es,S1,t1,I⟩;have #[c,cs,en,ec,ee,lc,le]:=I.dk.cmp;refine(x8 c Z Z {d,_,a,n,f,en,Z,c,ee,x8 c Z Z {d,_,a,n,f,cs,Z,c,ec,_,_,Z,Z,_,Z,?_}});have el:=I.ok.el;have lm:=I.lm;obtain lt|ge:=mO en.length cs.length
   .refine yE (Bj ()) {λu H'=>∃m',m'<m/\FnE t H d l a lb n f g CC J m' u H',λ_ _ z=>z,?_};have b1:=cW (xs.length:Int) (show n≠0 by lia);have b2:=cM (xs.length:Int) (show 0<n by lia);refine{_,Z,.inl {Z,_,aO.of I.hl},x8 c Z Z {_,Z,.ref l,xs.length,Z,.inl {_,aO.of I.hl,Z},yh c D.cD D.d1 Z Z {_,_,Z,Z,by show (0:Int)<n;lia,d,a,k,n,f,(xs.length:Int)%n,g,CC,S1,Z,I.dk,I.ok,b1,b2,λv H2 ac e S2 F2 ev mv G2=>?_}}};have #[aa,z]:=I.next h1 h8 hl () js F2 ev mv G2;exact{l,xs,v,Z,Z,aa,bM (show xs.length<=300000 by lia) (),z}
   .exact yj (Bk ()) {_,Z,q l xs es H1 k S1 I.fr I.l0 hl I.hl I.pd () I.js I.ok () I.dk}}}
 have #[d,a,lb,n,f,g,CC,S,J,rfl,_]:=h;rfl
theorem Z6:Ba P w K mg base 1 t.a63 t.d63 ["self"] (wt t):=by refine T.g63.f.okA Jm λvs H Q E h=>{?_,λ_ _ _ _ c=>{ZZ K t,(zm (zA (qq Z (osc:=zq kD) (N:=["self"]) (xs:=["paper"]) (ix:=[]) () (xj (zH (B 0) Z)) (λ_ _ _ _=>(vM (i:=0) (show gJ (["paper"]:yu) from ()) Z (m6 Z) (.inr Z))) (λ_ _ _ _=>jR) (λ_ _ _ _=>(zY (zc (zF ya (B 0) zi) (zc (yz yZ Z T.q09 xA (zc (zF ya (B 0) zi) ze)) (zc (yz yZ Z T.q09 xA (zc (zF ya (B 0) zi) ze)) ze)))))))),Va (dkF T) h}};have #[d,a,lb,n,f,g,CC,S,rfl,_]:=h;rfl
theorem YU:Ba P w K mg base 3 t.a64 t.d64 ["self","rank"] (jH t):=by
 refine T.g64.f.okA q1p λvs H Q E h=>{?_,λ_ _ _ _ A=>{_,(zd (zN (AE (B 0) T.q0b (wV T) T.g42 A zw (zc (B 1) ze))) (zd (zx 2 q1p.nd (zu kC (yz (jC Z) Z T.q09 xA (zc (zH (B 0) Z) ze)) (yz (jC Z) Z T.q09 xA (zc (zH (B 0) Z) ze)))) (zm (zA (u4 (WO T) T.g31 A zw (zc (qq Z (osc:=zq vj) (N:=["self","rank","places"]) (xs:=["place"]) (ix:=[0,1]) () (xj (B 2)) (λ_ _ _ _=>(vM (i:=0) (show gJ (["place","self","rank"]:yu) from ()) Z (m6 Z) (.inr Z))) (λ_ _ _ _=>jR) (λ_ _ _ _=>(zY (zc (B 0) (zc (AE (B 1) T.q0b (kL T) T.g44 A zw (zc (B 0) (zc (B 2) ze))) ze))))) ze)))))),by
   have MF:=(mkF T);have #[m,ae,F,g,lays,rfl,h1,h2,h3,q]:=h;have M:Ak t H m F g lays 0:=h1;have #[dx,gr,wo,rk,wk,kk,c]:=M.ex;have #[gs,e1,_,gm]:=JF g;obtain⟨ks,e2⟩:∃ks:List Pl,kk.map (·.1)=ks.map zI:=by
    have:=c.rr.ls;clear c M;induction kk with
    |nil=>exact{[],Z}
    |cons kv kk ih=>
     have #[ks,e]:=ih λx hx=>this x (bt _ hx);have #[p,a,rs,rfl,_]:=this kv bw;exact{p::ks,by rw[bB,bB,e]}
   have kn:ks.Nodup:=xX (f:=zI) (by rw[<-e2];exact c.rr.nk);have kp:∀p∈ks,p∈lays.flatMap λy=>y.2.map (·.1):=λp k=>by
    have:zI p∈kk.map (·.1):=by rw[e2];exact bE k
    have #[kv,an,e]:=bK.mp this;have #[p',a,rs,rfl,_,_,_,hn,hi]:=c.rr.ls kv an;obtain rfl:p'=p:=y9 e;have #[r,A]:=List.exists_mem_of_ne_nil _ hn;have #[gs,hg,al]:=(hi r).mp A;exact pW.mpr {_,hg,al}
   have l2:=xE kn kp;rw[sT] at l2;have l1:=wO g;have l3:g.length+(lays.map λy=>y.2.length).sum<=400:=h3;have l4:(uU g).length=gs.length:=by have:=congrArg gM e1;rw[bn,bn] at this;exact this
   have l5:(lays.map λy=>(y.2.map (·.1)).length)=lays.map λy=>y.2.length:=dR λy _=>bn ..;rw[l5] at l2;refine{_,Z,m,_,_,Z,c.im,jF (),_,Z,m,_,_,_,_,Z,c.im,zj8,h2,λH1 s1=>?_};have u:=c.keep M.me λb o _ e=>s1 _ _ e;refine(yh u.im MF.cl MF.g Z zlh {gr,_,Z,u.hg,λa1 ac aP aj=>?_});generalize c_:upd H1 a1 _=H2;have #[s2,q2]:=yI c_ aP;have J:=u.keep M.me λb o _ e=>s2 _ _ e;refine(yh J.im MF.cl MF.r Z zg1 {rk,_,Z,J.rr.at_,λa2 aa az ai=>?_});generalize c2:upd H2 a2 _=H3;have #[O,q3]:=yI c2 az;have p1:Bl (PlV H3) ac gs:=zar (Paired.mapP aj λ_ _ ⟨p,e,h⟩=>{p,e,(s2.trans O) _ _ h}) e1;have p2:Bl (PlV H3) aa ks:=zar (Paired.mapP ai λ_ _ ⟨p,e,h⟩=>{p,e,O _ _ h}) e2;have n1:=bG p1;have n2:=bG p2;refine{a1,a2,_,_,Z,Z,O _ _ q2,q3,xM (),λa3 ar=>?_};generalize c3:upd H3 a3 _=H4;have #[s4,q4]:=yI c3 ar;have S4:=s1.trans (s2.trans (O.trans s4));refine zir (qs:=gs++ks) (h1.same S4) h2 q4 (zlj (Paired.mapP p1 λ_ _ ⟨p,e,h⟩=>{p,e,s4 _ _ h}) (Paired.mapP p2 λ_ _ ⟨p,e,h⟩=>{p,e,s4 _ _ h})) (by rw[bh];lia) λl ag H' s hl ho ht=>q l ag H' (S4.trans s) (zK S4 hl) ho {ht.1,λp w=>?_};rw[ht.2 p w,zb1];by_cases k:p∈gs++ks
   .rw[ao k];exact{λz=>{bU z.1,z.2},λz=>{by rw[<-z.1],z.2}}
   .rw[ak k];refine{λz=>(nomatch z.1),λz=>absurd ?_ z.2};rw[bp,not_or] at k;have z1:yg g lays p ae=w:=z.1;rw[<-z1];unfold yg;obtain ⟨e,_⟩|⟨y,hy,w,e,_⟩:=xH p ae lays (-1,(zE g p).getD 0)
    .rw[e];cases e:zE g p with
     |none=>rfl
     |some w=>exact absurd ((gm p).mpr (by rw[e];rfl)) k.1
    .have:=c.rr.al p y.1 {y.2,hy,(wa (M.ok y hy).2.nd).mpr (by rw[e];exact nofun)};rw[e2] at this;have #[p',I,e3]:=bK.mp this;rw[y9 e3] at I;exact absurd I k.2}}
 have #[m,ae,F,g,lays,rfl,_]:=h;rfl
theorem vS:Ba P w K mg base 4 t.a65 t.d65 ["self"] (xY t):=by
 refine T.g65.f.okA Kb λvs H Q E h=>{?_,λ_ _ _ _ k=>{_,(zm (zA (AE (zH (B 0) Z) T.q0b (YU T) T.g64 k zw (zc (ve (B 0) T.q04 (yG T) T.g40 k zw) ze)))),by have F:=(dkF T);have #[d,a,lb,n,f,g,CC,S,rfl,h,J,m,q]:=h;have #[wo,cs,kv,la,db,en,h,_,_,_,E,_]:=h;have c:H d=Y (.ins t.q00 a.dx (X9 a n f)):=h.at (i:=0) rfl;have M:Ak t H a.mks (λb=>lb b=10) g S.ls 0:=h.ms;have #[dx,I,wo,rk,z,A,u]:=M.ex;rw[<-E.le] at q;exact(yh c F.cD F.d7 Z Z {a.mks,_,_,Z,u.im,jF (),x8 c Z Z {d,_,a,n,f,en,Z,c,h.at (i:=8) Z,a.mks,f+en.length,_,g,S.ls,Z,h.ms,(),m,q}})}}
 have #[d,a,lb,n,f,g,CC,S,rfl,_]:=h;rfl
theorem wK:∀n,pv P w K mg base (CX1 P w) (1+n) t.a66 t.d66 ["found","due"] (xq n):=by
 intro n;induction n with
 |zero=>exact{λvs H Q E h=>(Z2 h).elim,λA c s H z us vs Q E m O hb J h=>(Z2 h).elim}
 |succ n IH=>
 refine T.g66.f.okA q1c (k:=1+n) λvs H Q E h=>?_;have #[v,u,rfl,I,q]:=h;exact{Z,λ_ _ _ _ m=>{kK K t n,(zd (zR (PW.pt (Zl (xi (zP xP Z T.q0d yq (zc (B 1) (zc (ww Z T.q09 xA Z) ze)))) (ku (xi (zP xP Z T.q0d yq (zc (B 1) (zc (ww Z T.b_tuple VL Z) ze))))))) (zd (zR (PW.pt (Yy (wE (xi (zP xP Z T.q0d yq (zc (B 0) (zc (ww Z T.q09 xA Z) ze))))) (qk (wE (xi (zP xP Z T.q0d yq (zc (B 0) (zc (ww Z T.b_tuple VL Z) ze)))))))) (zm (zA (wX (b:=am))))
   zG) (zd (zR (PW.pt (Zl (zC Wk (zP xP Z T.q0d yq (zc (B 0) (zc (ww Z T.q09 xA Z) ze))) (zP xP Z T.q0d yq (zc (B 1) (zc (ww Z T.q09 xA Z) ze))) (zJ _)) (ku (zC Wk (zP yv Z T.q06 xv (zc (B 0) ze)) (zP yv Z T.q06 xv (zc (B 1) ze)) (zJ _))))) (zm (zA (wX (b:=am))))
    zG) (zd (x5 cO Z (zh0 Z T.b_zip (zc (B 0) (zc (B 1) ze))) (QC Z (vU (yB 2 q1c.nd) (vU (yB 3 q1c.nd) Vd))) (zm (zR (wE (xi (YX (pv.mono IH ()) m Z T.g66.m T.g66.f.kp T.g66.b .nil zw (zc (B 2) (zc (B 3) ze))))) (zm (zA (wX (b:=am))))
    zG))) (zm (zA (wX (b:=U)))))))
   zG) (zd (zR (xi (zP xP Z T.q0d yq (zc (B 1) (zc (ww Z T.q1d zcv Z) ze)))) (zm (zA (XN (zP xP Z T.q0d yq (zc (B 0) (zc (ww Z T.q1d zcv Z) ze))) (Vv (jQ yA (B 0) (B 1) (zJ _))))))
    zG) (zm (zA (XN (zP xP Z T.q0d yq (zc (B 0) (zc (ww Z T.b_int zfB Z) ze))) (XN (zji (zP xP Z T.q0d yq (zc (B 0) (zc (ww Z T.q1v zdr Z) ze)))) (Vv (jQ yA (B 0) (B 1) (zJ _))))))))),JK (kf K) I q}}
def kM:Ba P w K mg base 8 t.a67 t.d67 ["desk","first","due","turned"] (xZ t):=by
 refine T.g67.f.okA q0u λvs H Q E h=>{?_,λ_ _ _ _ c=>{Yt K t,(zd (zx 4 q0u.nd (zu vC (ve (B 0) T.q04 (yG T) T.g40 c zw) (B 1))) (zd (zR (wE (zfk zfi jq zi (B 4) (zP yv Z T.q06 xv (zc (zF ya (B 2) zi) ze)))) (zm (zA (wX (b:=am))))
    zG) (zd (zR (PW.pt (Yy (xi (B 3)) (qk (wE (xi (u4 (wK T 6) T.g66 c zw (zc (ve (B 0) T.q04 (vS T) T.g65 c zw) (zc (zF zU (zF ya (B 2) zi) (B 4)) ze)))))))) (zm (zA (wX (b:=am))))
    zG) (zd (zx 5 q0u.nd (ve (B 0) T.q04 (Z6 T) T.g63 c zw)) (zd (zx 6 q0u.nd (ve (B 0) T.q04 (vS T) T.g65 c zw)) (zd (zR (PW.pt (Zl (wE (xi (u4 (wK T 6) T.g66 c zw (zc (B 5) (zc (xJ wL (zF ya (B 2) zi) ji (xm (B 4))) ze))))) (ku (wE (xi (u4 (wK T 6) T.g66 c zw (zc (B 6) (zc (zF zU (zF ya (B 2) zi) (B 4)) ze)))))))) (zm (zA (wX (b:=am))))
    zG) (zd (x5 cO Z (xj (B 5)) (yB 7 q0u.nd) (zd (zN (x9 bO cg ck yC (zF ya (B 7) zi) (zc (zY (zc (zY (zc zO (zc zi ze))) (zc zi ze))) ze))) (zm (zN (XR bO lQ lR VA (zF ya (B 7) zi)))))) (zd (zN (XR bO lQ lR VA (B 5))) (zd (zN (x9 bO cg ck yC (B 6) (zc (zY (zc (zY (zc zO (zc zi ze))) (zc zi ze))) ze))) (zm (zA (wX (b:=U))))))))))))),JR h}}
 have #[d,dv,n,f,tu,g,CA,ps,k,X,H0,rfl,_]:=h;rfl
theorem zck:Ba P w K mg base 2 t.a68 t.d68 ["self","code"] (ZM t):=by
 refine T.g68.f.okA q1q λvs H Q E h=>{?_,λ_ _ _ _ hr=>{_,(zd (zx 2 q1q.nd (ve (B 0) T.q04 (kr T) T.g41 hr zw)) (zd (zN (x9 bO cg ck yC (zH (B 0) Z) (zc (yz yZ Z T.q09 xA (zc (B 1) ze)) ze))) (zd (zN (x9 bO cg ck yC (zH (B 0) Z) (zc (B 2) ze))) (zm (zA (B 2)))))),by
   have D:=(dkF T);have #[d,v,a,lb,n,f,g,CC,C,S,rfl,h1,h,h2,h3,q]:=h;have #[wo,cs,kv,la,db,en,h,hh,hl,z,z2,z3]:=h;have lc:=bG h.cc;have I:H d=Y (.ins t.q00 a.dx (X9 a n f)):=h.at (i:=0) rfl;have #[c0,ys,rfl,hy,py]:=h1;refine(x8 I Z Z {d,_,a,n,f,cs,Z,I,h.at (i:=3) Z,?_});rw[lc];refine(yh I D.cD D.d4 Z Z {.inl {Z,_,aO.of (h.at (i:=3) Z)},_,Z,c0,ys,Z,.inl (aO.of hy),λc O=>?_});generalize c_:upd H c _=H2;have #[J,e2]:=yI c_ O;have #[m,F2,A]:=h.addC (M:=M1) (C:=C) J O {c,ys,Z,e2,wB J py};have k:=A.put (i:=3) (o':=.lst (cs++[.ref c])) Z Z ();have F5:=F2.trans (A.fput (i:=3) (o':=.lst (cs++[.ref c])) Z ());refine{a.cl,cs,_,Z,Z,A.at (i:=3) Z,bM (show cs.length<=10 by lia) (),?_};generalize upd H2 a.cl (.lst (cs++[.ref c]))=H5 at *
   have k:u7 t H5 m (AT t d a n f wo (cs++[.ref c]) S.ws kv la db en) a.mks a.re g S.ls (AD S.ld) (cs++[.ref c]) (CC++[C]):=k;refine(yh (k.at (i:=0) Z) D.cD D.d5 Z Z {.inl {Z,_,aO.of (k.at (i:=4) Z)},_,Z,a.wl,_,_,Z,Z,k.at (i:=4) Z,bM (by rw[bn];exact h3) (),_,Z,?_});have h6:=k.put (i:=4) (o':=.lst ((S.ws++[f+CC.length]).map V.int)) Z Z ();have u:=F5.trans (k.fput (i:=4) (o':=.lst ((S.ws++[f+CC.length]).map V.int)) Z ());rw[bZ] at h6 u;refine q _ m u.m0 {wo,_,kv,la,db,en,by rw[AT,zh9,bZ];exact h6,Paired.mapP (qK hh u Yw) λ_ _ ⟨e,tp,x,ra,C,ev,et,ec,z,z5⟩=>{e,tp,x,ra,C,ev,et,?_,z,z5},vp hl u (.inr ()),z,z2.fr u (.inr ()),z3};rw[cx (bd.mp ec).1];exact ec}}
 have #[d,v,a,lb,n,f,g,CC,C,S,rfl,_]:=h;rfl
def WQ:Ba P w K mg base 3 t.a69 t.d69 ["desk","code"] (v5 t):=by
 refine T.g69.f.okA q1r λvs H Q E h=>{?_,λ_ _ _ _ hr=>{_,(zd (zx 2 q1r.nd (yz yZ Z T.q09 xA (zc (B 1) ze))) (zd (zN (AE (B 0) T.q04 (zck T) T.g68 hr zw (zc (B 2) ze))) (zd (zR (zC (zcQ (za4 hr)) (B 2) (B 1) (zJ _)) (zm (zA (wX (b:=am))))
    zG) (zd (zN (XR bO lQ lR VA (B 2))) (zm (zA (wX (b:=U)))))))),by
   have #[d,v,n,f,g,C,X,rfl,I,hv,z,hC,h8,q]:=h;have #[c,ys,rfl,hc,O]:=hv;refine{_,Z,c,ys,Z,.inl (aO.of hc),λp A=>?_};generalize c_:upd H p _=H1;have #[u,e1]:=yI c_ A;have zp:=I.k.l0 A;have I1:=I.same u;refine(x8 I1.k.cmp.1 Z Z {_,Z,zkn I1 {p,ys,Z,e1,wB u O} hC h8 λw H2 X2 m=>?_});have #[J,yp]:=m.kp p _ zp e1;have #[ec,_]:=m.kp c _ (z c Z) (u _ _ hc);refine{_,Z,_,Z,p,c,ys,Z,Z,aO.of J,aO.of ec,Vs (λ_ _=>zku) O,_,Z,yj Z {_,Z,.inl {Z,_,aO.of J},p,ys,Z,Z,J,q _ X2 {{ m.k with k:=m.k.k.put J yp },λb zs e=>?_,λb o zb e=>?_,m.cc}}}
   .rw[zt (zB e A)];exact m.ts b zs (u _ _ e)
   .rw[zt (zB e A)];exact m.kp b o zb (u _ _ e)}}
 have #[d,v,n,f,g,C,X,rfl,_]:=h;rfl
def KG:Ba P w K mg base 12 t.a70 t.d70 ["desk","codes","cells","hands","first","due"] (vR K t):=by
 refine T.g70.f.okA q0e λvs H Q E h=>{?_,λ_ _ _ _ c=>{Yu K t,(zd (zx 6 q0e.nd (zu vC (ve (B 0) T.q04 (yG T) T.g40 c zw) (B 4))) (zd (zx 7 q0e.nd (yQ (zc (ve (B 0) T.q04 (vS T) T.g65 c zw) ze))) (zd (zx 8 q0e.nd (yQ (zc (yz yZ Z T.q09 xA (zc (zF zU (B 7) zi) ze)) ze))) (zd (x5 cO Z (xj (B 2)) (yB 9 q0e.nd) (zd (zR (PW.pt (Yy (zC jq (zu zS (B 9) zi) zi (zJ _)) (qk (zC jq (B 6) (zP yv Z T.q06 xv (zc (B 1) ze)) (zJ _))))) (zd (zR (wE (xi (u4 (WQ T) T.g69 c zw (zc (B 0) (zc (zF zU (B 1) (B 6)) ze))))) (zm (zA (wX (b:=am))))
    zG) (zm (zjk (i:=6) q0e.nd Z (m6 Z) zi zjl)))
   zG) (zd (zx 10 q0e.nd (AE (B 0) T.q04 (qN T) T.g61 c zw (zc (zu zS (zu zT (B 9) zi) (B 3)) ze))) (zm (zR (PW.pt (Zl (zC yA (zF ya (B 10) zi) zO (zJ _)) (ku (zC yA (zu zS (zu zT (B 9) zi) zi) zi (zJ _))))) (zd (zR (wE (xi (u4 (kM T) T.g67 c zw (zc (B 0) (zc (B 4) (zc (B 5) (zc (jQ yA (zu zS (zu zT (B 9) zi) zi) zi (zJ _)) ze))))))) (zm (zA (wX (b:=am))))
    zG) (zd (zN (x9 bO cg ck yC (B 7) (zc (ve (B 0) T.q04 (vS T) T.g65 c zw) ze))) (zm (zN (x9 bO cg ck yC (B 8) (zc (yz yZ Z T.q09 xA (zc (zF zU (zF ya (B 5) zi) (zu vC (ve (B 0) T.q04 (yG T) T.g40 c zw) (B 4))) ze)) ze))))))
   zG))))) (zd (zx 11 q0e.nd (ve (B 0) T.q04 (jN T) T.g62 c zw)) (zd (zx 12 q0e.nd (yz yZ Z T.q09 xA (zc (B 11) ze))) (zd (zx 13 q0e.nd (ve (B 0) T.q04 (Z6 T) T.g63 c zw)) (zd (zR (PW.pt (Zl (zC (zbz (za4 c)) (ve (B 0) T.q04 (jN T) T.g62 c zw) (yQ ze) (zJ _)) (Zl (wE (xi (u4 (kM T) T.g67 c zw (zc (B 0) (zc (B 4) (zc (B 5) (zc (jQ yA (zu zS (B 6) zi) zi (zJ _)) ze))))))) (ku (zC (zcQ (za4 c)) (B 11) (B 12) (zJ _)))))) (zm (zA (wX (b:=am))))
    zG) (zm (zA (XN (u4 (wK T 6) T.g66 c zw (zc (B 7) (zc (B 8) ze))) (XN (u4 (wK T 6) T.g66 c zw (zc (B 13) (zc (xJ wL (zF ya (B 5) zi) ji (xm (B 6))) ze))) (Vv (jQ yA (ve (B 0) T.q04 (yG T) T.g40 c zw) (zu yc (B 4) (B 6)) (zJ _))))))))))))))),JU h}}
 have #[d,cl,s,dv,n,f,g,CA,m,ps,k,X,ns,ws,H0,rfl,_]:=h;rfl
def ok_law:Ba P w K mg base 17 t.a71 t.d71 ["script"] (sp_law K):=by
 refine T.q28.ok0 q0c (λvs H Q E h=>?_) (λm A k s H vs Q E c h=>?_)
 .have #[a,ns,rfl,_]:=h;rfl
 exact{zgP K t,(zd (zx 1 q0c.nd (u4 (XC T) T.g2 c zw (zc (u4 (yw T) T.g12 c zw (zc (B 0) (zc zi ze))) ze))) (zd (zx 2 q0c.nd (u4 (XC T) T.g2 c zw (zc (u4 (yw T) T.g12 c zw (zc (B 0) (zc zi ze))) ze))) (zd (zx 3 q0c.nd (u4 (Ky T) T.g4 c zw (zc (zu zT (u4 (yw T) T.g12 c zw (zc (B 0) (zc zi ze))) zi) (zc (B 1) ze)))) (zd (zx 4 q0c.nd (u4 (Kz T) T.g13 c zw (zc (B 0) (zc (B 1) (zc (B 2) ze))))) (zd (zx 5 q0c.nd (u4 (zcj T) T.g33 c zw (zc (B 4) (zc (B 3) ze)))) (zd (zx 6 q0c.nd (zu yc zi (zu zS (u4 (yw T) T.g12 c zw (zc (B 0) (zc zi ze))) zi))) (zd (zx 7 q0c.nd (yz yZ Z T.q09 xA (zc (B 3) ze))) (zd (zx 8 q0c.nd (u4 (zaD T) T.g39 c zw (zc (B 7) (zc (B 6) (zc (u4 (yw T) T.g12 c zw (zc (B 0) (zc zi ze))) ze))))) (zd (zx 9 q0c.nd (u4 (Yx T) T.g38 c zw (zc (u4 (yw T) T.g12 c zw (zc (B 0) (zc zi ze))) ze))) (zd (zR (zC (zcQ (za4 c)) (B 7) (B 3) (zJ _)) (zm (zA (wX (b:=am))))
    zG) (zd (zN (x9 bO cg ck yC (B 7) (zc (zY (zc (zY (zc zO (zc zi ze))) (zc zi ze))) ze))) (zd (zx 10 q0c.nd (zu zS (zu zT (u4 (yw T) T.g12 c zw (zc (B 0) (zc zi ze))) zi) (zu yc (zP yv Z T.q06 xv (zc (B 4) ze)) zi))) (zd (zR (wE (xi (u4 (KG T) T.g70 c zw (zc (B 8) (zc (xJ wL (B 4) ji (xm (B 10))) (zc (B 0) (zc (B 6) (zc (B 9) (zc (B 5) ze))))))))) (zm (zA (wX (b:=am))))
    zG) (zd (x5 cO Z (xj (xJ wL (B 4) (xm (zu vC (ve (B 8) T.q04 (yG T) T.g40 c zw) (B 9))) ji)) (yB 11 q0c.nd) (zm (zR (wE (xi (u4 (WQ T) T.g69 c zw (zc (B 8) (zc (B 11) ze))))) (zm (zA (wX (b:=am))))
    zG))) (zd (x5 cO Z (zjC Z T.q29 (zc (B 0) ze)) (yB 12 q0c.nd) (zm (zN (AE (B 8) T.q04 (qN T) T.g61 c zw (zc (zu zS (zu zT (B 12) zi) (B 6)) ze))))) (zd (zN (ve (B 8) T.q04 (jN T) T.g62 c zw)) (zm (zA (XN (u4 (kM T) T.g67 c zw (zc (B 8) (zc (B 9) (zc (B 5) (zc (wX (b:=am)) ze))))) (Vv (jQ yA (ve (B 8) T.q04 (yG T) T.g40 c zw) (zu yc (B 9) (zP yv Z T.q06 xv (zc (B 4) ze))) (zJ _)))))))))))))))))))))),ziK h}
end
end K46
open PySem PySem.W PyProof.Rows
set_option maxRecDepth 100000 in
set_option maxHeartbeats 0 in
theorem PySem.Challenge.cw_forerun_k46_whole_one_by_one_holds : PySem.Challenge.rw_forerun_k46_whole_one_by_one.Holds := by
 refine hdT ?_
 k_fill
 refine L2.walk_ofXB (l := PySem.Challenge.rw_forerun_k46_whole_one_by_one) (n := 63) (k := 17) (x := "script") (sp := K46.sp_law) Z (by decide) Z {Z,by decide,by decide} (fun w h Bm => PySem.W.kIn_of Bm) ?F ?S
 case F =>
  intro w mg fa h KX G hmg;have T : ∃ t,K46.Txt (L2.KOf KX) mg t := by
   dsimp only [L2.KOf];exact {.mk ..,by
    constructor
    all_goals try dsimp only
    all_goals first
     | exact PySem.W.mg_of KX G (by k_is)
     | exact {by k_is,by k_is,by k_is,by k_is}
     | exact {by k_is,by k_is,by k_is}
     | exact ⟨PySem.W.mg_of KX G (by k_is),L2.fun_mk (by k_is) (by k_is) (by k_is),.all (by (repeat refine L2.arS fun _ => ?_); exact L2.ar0 rfl)⟩
     | exact ⟨⟨by k_is,by k_is,by k_is⟩,L2.fun_mk (by k_is) (by k_is) (by k_is),.all (by (repeat refine L2.arS fun _ => ?_); exact L2.ar0 rfl)⟩
     | exact L2.fun_mk (by k_is) (by k_is) (by k_is)
     | exact L2.fun_mkD (by k_is) (by k_is) (by k_is)
     | exact .all (by (repeat refine L2.arS fun _ => ?_); exact L2.ar0 rfl)
     | exact .df rfl (by k_is) (by (repeat refine L2.arS fun _ => ?_); exact L2.ar0 fun _ e => .of_defaults rfl e rfl rfl rfl)
     | exact ⟨_,.cons ⟨_,rfl⟩ .nil,.df rfl (by k_is) (by (repeat refine L2.arS fun _ => ?_); exact L2.ar0 fun _ e => .of_defaults rfl e rfl rfl rfl)⟩
     | exact fun _ _ => .of_eq rfl
     | exact PySem.W.mg_none_of KX G (by k_is)
     | exact fun _ => .inr {_,_,_,by k_is,Z,Z,by decide,.cons {_,Z} (.cons {_,Z} (.cons {_,Z} (.cons {_,Z} (.cons {_,Z} (.cons {_,Z} (.cons {_,Z} .nil))))))}
     | exact L2.QX.to {_,by k_is,by k_is,by k_is,by k_is,by k_is,by k_is,by k_is,by k_is}
     | (show _ = _; first | k_is | k_exc | kernel_rfl)}
  obtain ⟨t,T⟩ := T;have e0 := hmg.symm.trans T.m_law;cases e0;exact {_,T.w_law,fun base _ _ => K46.ok_law T}
 case S => exact fun K H a ns hl hb _ hS => {a,ns,rfl,hS,hl,hb,fun _ => rfl}
