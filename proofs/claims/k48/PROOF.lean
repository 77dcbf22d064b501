import PyProof.Rows.All
import Wide.All
import OpenK.AllK
import PySem.Challenge.RW_forerun_k48_folding_changes_nothing
open Array renaming getElem?_eq_getElem->b8,length_toList->cq,getElem?_toList->c9,perm_iff_toList_perm->gO,getElem?_eq_none->iJ,toList_inj->nW
open Array.Perm renaming mem_iff->pX,trans->se,refl->sL
open Bool renaming false_ne_true->bK,and_eq_true->bX,false_eq_true->cy,eq_false_iff->eK,eq_iff_iff->e9,or_eq_false_iff->lG,not_eq_true'->mY,not_eq_true->sk
open Classical renaming byContradiction->cE,not_imp->rG
open Decidable renaming byContradiction->mP
open False renaming elim->dz
open ForInStep renaming yield->gB
open Iff renaming rfl->sY
open Int renaming emod_lt_of_pos->cw,emod_nonneg->cK,toNat_natCast->dR,eq_ofNat_of_zero_le->fV,lt_or_le->i9,le_refl->ma,toNat_of_nonneg->mf,le_trans->oQ,ne_of_lt->rX,le_of_lt->rY,not_lt->sQ
open Int.ofNat renaming inj->sV
open List renaming getElem?_eq_getElem->bb,length_map->bd,map_cons->bh,mem_singleton->bn,mem_cons_of_mem->bp,getElem?_eq_some_iff->bq,mem_cons_self->br,getElem?_map->bt,mem_append->bu,mem_cons->bw,length_append->bx,mem_map_of_mem->bB,mem_map->bD,getD_eq_getElem?_getD->bF,size_toArray->bG,mem_of_getElem?->bJ,map_append->bN,mem_append_right->bP,mem_filter->bQ,length_cons->bU,nodup_cons->bW,sum_cons->bZ,getElem?_eq_none->b6,take_of_length_le->b7,lookup_cons->b9,length_take->cg,filter_cons->cp,take_add_one->cx,not_mem_nil->cC,mem_append_left->cI,nodup_nil->cO,append_assoc->cP,take_length->cR,lookup->cU,getElem?_of_mem->cV,length_drop->cW,length_range->cY,take_append_drop->da,filter_sublist->dh,nodup_append->dn,mem_of_mem_take->dq,mem_of_mem_drop->dt,getElem?_set_self->du,map_congr_left->dC,cons_append->dE,getElem?_set_ne->dH,map_map->dJ,getElem?_append_left->dL,getElem_mem->dM,length_replicate->dQ,ext_getElem?->dU,getElem?_cons_zero->eo,getElem?_take->eu,range->eE,getElem?_range->eL,replicate->eW,filter_congr->eZ,foldl_cons->fj,Nodup->fu,length_singleton->fE,length_filter_le->fG,pairwise_iff_getElem->fJ,find?_cons->fO,length->fT,filter_cons_of_neg->fW,filter_cons_of_pos->fY,sum_append_nat->fZ,eq_nil_of_length_eq_zero->gb,drop_zero->gh,filter_filter->gp,append_nil->gy,nil_append->gC,length_set->gH,all_cons->gI,pairwise_map->gL,getElem?_inj->gM,getElem?_append_right->gN,pairwise_append->gQ,drop_eq_getElem_cons->gW,length_pos_iff->gZ,getElem?_take_of_lt->ib,mem_filterMap->ir,eraseIdx_cons_succ->iu,getElem?_cons_succ->iF,filter_append->iG,eraseIdxIfInBounds_toArray->iQ,getElem_inj->lj,any_eq_true->lz,all_eq_true->lA,perm_cons_erase->lI,any_cons->lJ,map_drop->lM,filterMap_cons->lQ,filter_eq_self->l8,map_nil->mD,getElem?_drop->mH,map_singleton->mJ,rel_of_pairwise_cons->mO,drop_sublist->m4,getElem?_replicate->nB,filter->nQ,map_take->nS,nodup_range->nY,mem_flatMap->nZ,drop_eq_nil_of_le->oo,drop_of_length_le->ot,of_mem_zip->oC,length_nil->oE,forIn_cons->oF,filterMap_append->oP,perm_append_comm->oR,map->oW,mem_erase_of_ne->oZ,reverse_append->pM,length_flatMap->pP,pairwise_cons->pZ,erase_sublist->rc,set_cons_zero->rf,take_sublist->rA,reverse_cons->rD,flatten_cons->rF,toArray->rQ,reverse_nil->r9,zipIdx_cons->sd,mem_reverse->sf,drop_length->sg,perm_middle->si,zipIdx_nil->sK,all_append->sM,sum_append->sN,range_succ->sO
open List.Nodup renaming sublist->gj
open List.Pairwise renaming nil->fP,imp->mZ,map->rH
open List.Perm renaming trans->eA
open List.Sublist renaming map->gc
open List.cons renaming injEq->gG,inj->sX
open Nat renaming le_refl->bo,le_trans->bM,ne_of_lt->bR,zero_le->bS,lt_of_lt_of_le->bV,lt_of_le_of_lt->ca,le_succ_of_le->cf,min_eq_left->dZ,le_add_right->eC,ne_of_gt->fA,lt_irrefl->fR,succ_le_succ->f9,lt_or_ge->iY,min_eq_right->lB,add_le_add_left->lS,le_of_eq->mz,eq_zero_or_pos->mI,lt_succ_self->nU,le_of_lt->oz,add_assoc->p9,lt_succ_of_lt->rB,lt_trichotomy->rJ,lt_trans->rO,sub_zero->rP,zero_add->rW,le_of_not_lt->r6,le_succ->sF
open Ne renaming symm->fq
open Option renaming map_eq_some_iff->bY,isSome_iff_exists->fN,map_some->iA,isSome_map->mT,isNone_some->p8,getD_none->rZ
open Option.some renaming inj->bH,injEq->eY
open Or renaming inl->ig,inr->pB
open Prod renaming ext->ss
open Prod.mk renaming inj->pN
open PyProof renaming noPylong_of_log2->mV
open PyProof.Rows renaming callWith_type1->gu,reads_newData->nK,subscriptTail_builtinR->oh,entry_list_sort->oJ,entry_proto_collect'->oY,slot_list_sort->pG,args_list_sort->pH,lt_int->pI,listUpdate_at->pY,plain_sorted->rR,entry_sorted->rS,args_sorted1->rT
open PySem renaming wpAny_bind->ba,wpAny_pure->bg,sizeLine_eq->bL,wpAny_callSpecial?_slot->cL,wpAny_call_entry->cQ,wpAny_newObj_type->cX,wpAny_setField_rec->c8,wpAny_holding->dF,wpAny_dictEntries->dG,wpAny_field->dO,tupleKind_room_in1->dX,wpAny_mono->eG,wpAny_truthy_bool->eI,wpAny_typeNameOfWhole_itemiter->eQ,wpAny_typeNameOfWhole_keyiter->eS,mem_of_lookup->fc,codeAny_builtin->fm,wpAny_Call_Name_kw->fC,wpAny_notOrdered_dict->fH,wpAny_seqItems->fI,wpAny_typeNameOf_itemiter->fK,wpAny_passesOwn->fM,wpAny_typeNameOf_keyiter->fQ,wpAny_execs_nil->gq,codeAny_mono->gA,wpAny_dictEpoch->gE,wpAny_loadPart'->gF,wpAny_Call_method->gJ,plainId_quiet->gK,call_meetsIn->ie,wpAny_attempt->iE,wpAny_isOneOf_itemiter->iK,plainObj_wpAny_Assign_Attribute->iN,call_meets->iP,slot_list_setitem->iS,wpAny_setField->iV,codeAny_handlers_test->i7,wpAny_pyIter_zip->lE,wpAny_pyIter_keyiter->lH,wpAny_rule->lN,wpAny_letGo->lU,wpAny_handleBy_cons->lX,wpAny_updateSeq->lY,wpAny_pyIter_tuple->mq,wpAny_letOwnedTupleGo_zip->mK,wpAny_fieldsOf->mL,wpAny_comprehension_free->mU,wpAny_Call_method0_late->nF,wpAny_newList->nM,wpAny_listSubscript_int->nP,wpAny_execs_cons->nT,wpAny_isInstance->nX,wpAny_pyNext_list_item->n9,wpAny_Assign_Subscript->om,wpAny_pyNext_list_end->oA,wpAny_isOneOf_keyiter->oK,size_of_entries->oO,wpAny_load->oS,typeIs_str->oU,call->oV,wpAny_updateSeq_pair->oX,wpAny_updateDictKeys->pA,wpAny_newTuple->pD,isSubtype_stop->pE,evalArgs_none->pJ,wpAny_handled->pV,wpAny_onRaise->pW,wpAny_call->rq,Within->rK,seqIndex_neg->rN,wpAny_typeOf->rV
open PySem.Around renaming under_plainId->dI,under->rL
open PySem.Builtin.Dict renaming showsAll->gD,keyAndDefault->mo,updateFrom->nN,takeOut->pq
open PySem.Builtin.Dict_items renaming ownsTuple->dW,ownedTupleFields->gX,ownedTupleIsFree->gY,pairFromOwner->iH
open PySem.Builtin.Int renaming intBits->dN,intTooBig->oN
open PySem.Builtin.List renaming listExtendWith->dD,listTooLong->ic,listItems->iL,listSubscript?->lZ,listSameRef->m3
open PySem.Builtin.SmallTypes renaming ownedTupleIsFree->dP,nextOf->eM,ownedTupleHandOut->gT
open PySem.Builtin.Str renaming occurrences->iB,strSliceIndices->lT,glued->mX,tooLong->pK
open PySem.Calls renaming spliced_cons->cZ,callWith_builtin->dv,evalArgs_plain->eB,spliced_nil->eX,call_function_entry->gU,Name_function_global->mh,Constant_str->pS
open PySem.Code renaming isFrame->rM
open PySem.F renaming plainAttrs_list->bT,slot_list_append->cG,type_list_append->cH,plainAttrs_dict->dY,plain_extend_loop->eN,slot_dict_pop->eO,slot_dict_itemiterator_next->eT,slot_dict_keyiterator_next->eU,plain_list_iadd->fU,entry_dict_pop->iI,args_dict_itemiterator_next_1->iR,slot_dict_get->iW,type_dict_pop->iX,args_dict_keyiterator_next_1->iZ,entry_dict_itemiterator_next->i8,slot_list_pop->lf,type_list_pop->lh,entry_dict_keyiterator_next->lF,slot_dict_setdefault->lL,slot_zip_next->lV,plain_proto_collect->lW,slot_tuple_iterator_next->mj,entry_extend_loop->mM,args_tuple_add_2->mR,slot_list_remove->m5,type_list_remove->m6,slot_list_insert->m7,type_list_insert->m8,entry_tuple_add->nE,args_dict_pop_2->nG,args_dict_pop_3->nH,args_dict_get_3->nI,slot_dict_items->nO,slot_tuple_add->og,entry_dict_get->on,slot_dict_items_iter->oq,plainAttrs_str->ou,slot_tuple_lt->oM
open PySem.Heap renaming get?_push_of_some->bc,get?_push_size->bC,lt_size->bI,SameBut->cN,get?_update_other->eD,get?_update_self->eP,size_push->eV,FlyingW->ii,get?_push_cases->ph,ExtBut->sJ
open PySem.Heap.SameBut renaming update->de
open PySem.NameKind renaming free->dy,cell->nJ
open PySem.Obj renaming mapSeq->dA,data_mapDictKeys->gP,data_mapFields->iD,isFreed_of_fields->oI,isFreed_of_dict->pO,cls_mapFields->rE
open PySem.Paired renaming length->bE
open PySem.PassesOwn renaming never->cF
open PySem.PyData renaming strOk->cS,depthAll->iC,depth->oH,canLay0->pC,canLayAll0->rC
open PySem.SeqAt renaming noMixAll->iU,shaped->oG,noMix->pL
open PySem.SeqAt.EqAt renaming int_int->mE,str_str->mF,int_str->pQ,str_int->pR
open PySem.Shared renaming TypeIs->sU
open PySem.Spec renaming sameAll->mG,same->sI
open PySem.Str renaming ofString->bf,length->iO,length_append->mW,empty->oB
open PySem.Txt renaming slice->gS
open PySem.Value renaming ref->bO,none->cM,int->f7,str->iq,bool->iM,type->mQ,float->sw
open PySem.W renaming Frag->bA,emptyDict->eJ,findIn->fB,kitOne->fS,instObj->f8,kia_one->gR,hideAll_none->iT,exmOne->lK,hideAll->lP,methodCall_KW->lR,callWith_K->mC,hideAll_get->nu,keepIn->nA,funFrames_hide->nV,of_hideAll->oy,plainGet_of->pT,callWith_K0->pU,plainGet->ro,codeIn->sq,methodObj->sy,hasDictIn->sC,makesIn->sD,specialIn->sE,fnOf->sG,OpenLaw->sH,lookIn->sR,mroIn->sS,excIn->sT,exmAny->sW
open PySem.W.KatTups renaming cons->sZ
open PySem.W.Looks renaming ld->sP
open Sum renaming inl->ik,inr->rm
open Sum.inl renaming inj->nh
open True renaming intro->eR
open Bool renaming true->ak,false->aq
open Option renaming some->U,none->am
open PySem renaming Addr->L,Value->af,Shared->ah,Program->av,Around->aw,Heap->ax,World->ay,Stmt->aA,Expr->aB,Scope->aC,Result->aD,sizeLine->Bb,FuncData->Bc,mainGlobals->Bd,starEach->Be,wpAny->Bf,model->Bg,bootBuiltins->Bh,compareOp->Bi
set_option Elab.async false
set_option linter.all false
set_option maxRecDepth 100000
theorem Bj{p:Prop}[Decidable p](h:p):decide p=true:=decide_eq_true h
theorem Bk{p:Prop}[Decidable p](h:¬p):decide p=false:=decide_eq_false h
set_option hygiene false
set_option compiler.extract_closed false
def zzzP:Nat->Lean.Syntax->Lean.MacroM (Lean.TSyntax `rcasesPat)
 |0,_=>Lean.Macro.throwUnsupported
 |n+1,s=>match s with
  |`(⟨$ps,*⟩)=>do
   let ls ← ps.getElems.mapM fun p=>do `(Lean.Parser.Tactic.rcasesPatLo|$(← zzzP n p):rcasesPat)
   `(rcasesPat|⟨$[$ls],*⟩)
  |`($x:ident)=>`(rcasesPat|$x:ident)
  |_=>`(rcasesPat|_)
local macro_rules|`(match $x:term with|⟨$ps,*⟩=>$b)=>do
 if (b.raw.find? (·.isOfKind `Lean.Parser.Term.syntheticHole)).isSome then Lean.Macro.throwUnsupported
 let q ← zzzP 9 (← `(⟨$ps,*⟩))
 `(by rcases $x:term with $q;exact $b)
local macro_rules|`(tactic|lia)=>`(tactic|first|with_reducible (first|assumption|exact Nat.le_refl _|exact Nat.zero_le _|exact Nat.le_of_lt ‹_›|exact Nat.le_succ_of_le ‹_›|exact Nat.le_trans ‹_› ‹_›|exact Nat.lt_of_lt_of_le ‹_› ‹_›|exact Nat.lt_of_le_of_lt ‹_› ‹_›|exact Nat.ne_of_gt ‹_›|exact Nat.ne_of_lt ‹_›|exact Int.le_of_lt ‹_›)|decide +kernel|(intro _ z;cases z;done)|(intro z;cases z;done)|lia -abstractProof)
theorem ao{c:Prop}{h:Decidable c}(n:¬c){α:Sort u}{t e:α}:ite c t e=e:=if_neg n
theorem au{c:Prop}{h:Decidable c}(n:c){α:Sort u}{t e:α}:ite c t e=t:=if_pos n
local macro_rules|`(())=>`(by lia)
theorem Z{α:Sort u}{a:α}:a=a:=rfl
namespace L2
open PySem PySem.Spec PyProof.Rows
abbrev aW:=Sum Int Str
def WI:aW->af->Bool
 |.inl k,v=>Value.isInt k v
 |.inr x,v=>Value.isStrOf x v
def zkJ(w:ay):aW->Int
 |.inl k=>hashInt k
 |.inr x=>hashStr w x
theorem yK:∀ {k:aW} {v:af},WI k v=ak->(∃i t,k=ik i/\v=f7 i t)\/(∃x t,k=rm x/\v=iq x t)
 |.inl i,v,h=>by
  obtain⟨t,e⟩:=Value.isInt_shape (k:=i) (v:=v) h;exact .inl ⟨i,t,Z,e⟩
 |.inr x,v,h=>by
  obtain⟨t,e⟩:=Value.isStrOf_shape (x:=x) (v:=v) h;exact .inr ⟨x,t,Z,e⟩
theorem zep(i:Int)(t:Tok):WI (.inl i) (.int i t)=ak:=by simp[WI,Value.isInt]
theorem zeq(x:Str)(t:Tok):WI (.inr x) (.str x t)=ak:=by simp[WI,Value.isStrOf]
theorem zjc(a b:Int):decide ((ik a:aW)=ik b)=(a==b):=by
 by_cases e:a=b
 .subst e;simp
 .have h:¬ (ik a:aW)=ik b:=λq=>e (nh q);rw[Bk h];exact(beq_eq_false_iff_ne.mpr e).symm
theorem zjd(a b:Str):decide ((rm a:aW)=rm b)=decide (a=b):=by
 by_cases e:a=b
 .subst e;simp
 .have h:¬ (rm a:aW)=rm b:=λq=>e (Sum.inr.inj q);rw[Bk h,Bk e]
theorem zje(a:Int)(b:Str):decide ((ik a:aW)=rm b)=aq:=Bk (λq=>nomatch q)
theorem zjf(a:Str)(b:Int):decide ((rm a:aW)=ik b)=aq:=Bk (λq=>nomatch q)
def yA(c:av)(w:ay):PySem.KeyKind c w aW where
 is:=WI
 hash:=zkJ w
 inj:=λv a b l f=>by
  rcases yK l with ⟨i,t,rfl,rfl⟩|⟨x,t,rfl,rfl⟩
  .rcases yK f with ⟨j,u,rfl,e⟩|⟨y,u,rfl,e⟩
   .injection e with e1 _;rw[e1]
   .exact nomatch e
  .rcases yK f with ⟨j,u,rfl,e⟩|⟨y,u,rfl,e⟩
   .exact nomatch e
   .injection e with e1 _;rw[e1]
 byValue:=λk v h=>by
  rcases yK h with ⟨i,t,rfl,rfl⟩|⟨x,t,rfl,rfl⟩ <;> rfl
 pyHash:=λd h=>by
  rcases yK d with ⟨i,t,rfl,rfl⟩|⟨x,t,rfl,rfl⟩
  .exact wpAny_pyHash_int h
  .exact wpAny_pyHash_str h
 eqBool:=λg d h=>by
  rcases yK g with ⟨i,t,rfl,rfl⟩|⟨x,t,rfl,rfl⟩
  .rcases yK d with ⟨j,u,rfl,rfl⟩|⟨y,u,rfl,rfl⟩
   .rw[zjc] at h;exact wpAny_eqBool_int h
   .rw[zje] at h;exact pQ i t y u _ _ _ _ h
  .rcases yK d with ⟨j,u,rfl,rfl⟩|⟨y,u,rfl,rfl⟩
   .rw[zjf] at h;exact pR x t j u _ _ _ _ h
   .rw[zjd] at h;exact wpAny_eqBool_str h
 «strs»:=λk x t v h=>by
  rcases yK h with ⟨i,u,rfl,e⟩|⟨y,u,rfl,e⟩
  .exact nomatch e
  .injection e with e1 _;subst e1;cases v <;> rfl
theorem zbb(a:av)(w:ay)(i:Int)(t:Tok):(yA a w).is (.inl i) (.int i t)=ak:=zep i t
theorem zbc(a:av)(w:ay)(x:Str)(t:Tok):(yA a w).is (.inr x) (.str x t)=ak:=zeq x t
inductive V where
 |non|bl (b:Bool)|int (i:Int)|str (x:Str)|byt (b:Array UInt8)|flt (b:UInt64)|ref (a:L)|ty (n:String)
 deriving DecidableEq
def aU:V->af->Prop
 |.non,u=>u=cM
 |.bl b,u=>u=iM b
 |.int i,u=>∃t,u=f7 i t
 |.str x,u=>∃t,u=iq x t
 |.byt b,u=>∃t,u=Value.bytes b t
 |.flt b,u=>∃t,u=sw b t
 |.ref a,u=>u=bO a
 |.ty n,u=>u=mQ n
abbrev aR:List V->List af->Prop:=Paired aU
theorem aR.length(r:aR xs us):xs.length=us.length:=bE r
theorem aR.get:∀ {a:List V} {b:List af} {i:Nat} {x:V},aR a b->a[i]?=U x->∃u,b[i]?=U u/\aU x u
 |_,_,_,_,.nil,e=>by simp at e
 |_,_,0,_,.cons r _,e=>by simp at e;subst e;exact⟨_,Z,r⟩
 |_,_,i+1,x,.cons _ t,e=>by
  obtain⟨u,d,c⟩:=aR.get (i:=i) (x:=x) t (by simpa using e);exact⟨u,by simpa using d,c⟩
theorem aR.append:∀ {b a:List V} {d c:List af},aR b d->aR a c->aR (b++a) (d++c)
 |_,_,_,_,.nil,s=>s
 |_,_,_,_,.cons r t,s=>.cons r (aR.append t s)
theorem aR.take:∀ {a:List V} {b:List af} (n:Nat),aR a b->aR (a.take n) (b.take n)
 |_,_,0,_=>.nil
 |_,_,_+1,.nil=>.nil
 |_,_,n+1,.cons r t=>.cons r (aR.take n t)
theorem aR.drop:∀ {a:List V} {b:List af} (n:Nat),aR a b->aR (a.drop n) (b.drop n)
 |_,_,0,r=>r
 |_,_,_+1,.nil=>.nil
 |_,_,n+1,.cons _ t=>aR.drop n t
def tY:Option V->Option af->Prop
 |some v,U u=>aU v u
 |none,am=>True
 |_,_=>False
def KV{a:Type}:List (a×V)->List (a×af)->Prop:=Paired λ(p:a×V) (q:a×af)=>p.1=q.1/\aU p.2 q.2
def kV:aW->V
 |.inl i=>.int i
 |.inr x=>.str x
inductive HO where
  |lst (xs:List V)
  |tup (xs:List V)
  |dK (aJ:List (aW×V))|dT (aJ:List (List aW×V))
  |set (S:Int->Bool) (n:Nat)
  |ins (C dx:L) (fs:List (Str×V))
  |own (x:L)
  |xd (fs:List (Str×V))
  |met (f x:L)
  |rng (lo hi:Int)
  |frz (o:Obj) (u:HO)
  |tbl (ps:Array af)
  |ext (φ:ax->Prop)
abbrev D:=L->Option HO
def upd(H:D)(a:L)(o:HO):D:=λb=>if b=a then U o else H b
theorem zj{H:D} :upd H a o a=U o:=by unfold upd;rw[au rfl]
theorem zm{H:D}(h:b≠a):upd H a o b=H b:=by unfold upd;rw[ao h]
theorem VH{H:D} :upd (upd H a o) a u=upd H a u:=by
 funext b;unfold upd;split <;> rfl
theorem zL{H:D}(h:H a=U o)(c:H b=U u)(d:o≠u):a≠b:=by
 intro e;subst e;rw[h] at c;exact d (bH c)
theorem zF{H:D}(h:H a=U o)(c:H b=am):a≠b:=by
 intro e;subst e;rw[h] at c;cases c
section
variable (P:av)(w:ay)
def aV(H:D)(h:ax)(a:L):HO->Prop
 |.lst c=>c.length<=Bb/\∃(b:List af) (n:Nat),aR c b/\h.get? a=U { cls:=.type "list",data:=.seq b.toArray n }
 |.tup c=>c.length<=Bb/\∃b:List af,aR c b/\IsTup h a b.toArray
 |.dK aJ=>aJ.length<=Bb/\(a==sysModules)=aq/\∃e,KV aJ e/\h.DictOf (yA P w) a e
 |.dT aJ=>aJ.length<=Bb/\(a==sysModules)=aq/\∃c:List (List aW×L×af),
   Paired (λ(p:List aW×V) (q:List aW×L×af)=>p.1=q.1/\H q.2.1=U (.tup (p.1.map kV))/\aU p.2 q.2.2) aJ c /\
   ∃o j k,h.get? a=U o/\o.ExactDict/\o.data=.dict j k/\j.toList=c.map (entryOfKey (tupleKind (yA P w)))/\(c.map (·.1)).Nodup
 |.set S n=>h.SetOf (intKind P w) a S n
 |.ins C dx fs=>H dx=U (.own a)/\fs.length<=1000/\dx≠a/\h.get? a=U (f8 C dx) /\
   ∃d,h.Ns1 dx d/\(∀f,tY (fs.lookup f) (d f))/\rK d (fs.map (·.1))
 |.own _=>∃o,h.get? a=U o
 |.xd fs=>∃d,h.Ns1 a d/\∀f,tY (fs.lookup f) (d f)
 |.rng lo hi=>∃t u v,h.get? a=U { cls:=.type "range",data:=.fields #[.int lo t,.int hi u,.int 1 v] }
 |.frz o u=>h.get? a=U o/\aV H h a u
 |.tbl ps=>h.get? a=U { cls:=.none,data:=.fields ps }
 |.met f x=>h.get? a=U (sy (.ref f) (.ref x))
 |.ext φ=>φ h/\(∃o,h.get? a=U o)/\∀i g:ax,φ i->(∀o,i.get? a=U o->g.get? a=U o)->φ g
def uk(H:D)(h:ax):Prop:=∀a o,H a=U o->aV P w H h a o
end
section
variable {P:av}{w:ay}{H H':D}{h h':ax}{a:L}{o:HO}
theorem aV.lt(x:aV P w H h a o):a<h.objs.size:=by
 cases o with
 |lst xs=>obtain⟨_,_,_,_,e⟩:=x;exact bI e
 |tup xs=>obtain⟨_,_,_,p⟩:=x;exact p.lt
 |dK aJ=>obtain⟨_,_,_,_,o,_,_,e,_⟩:=x;exact bI e
 |dT aJ=>obtain⟨_,_,_,_,o,_,_,e,_⟩:=x;exact bI e
 |set S n=>obtain⟨o,_,_,_,e,_⟩:=x;exact bI e
 |ins C dx fs=>obtain⟨_,_,_,e,_⟩:=x;exact bI e
 |own y=>obtain⟨_,e⟩:=x;exact bI e
 |xd fs=>obtain⟨_,⟨_,_,_,e,_⟩,_⟩:=x;exact bI e
 |rng lo hi=>obtain⟨_,_,_,e⟩:=x;exact bI e
 |frz ob u=>obtain⟨e,_⟩:=x;exact bI e
 |tbl ps=>exact bI (show h.get? a=U _ from x)
 |met f y=>exact bI (show h.get? a=U _ from x)
 |ext φ=>obtain⟨_,⟨_,e⟩,_⟩:=x;exact bI e
theorem Paired.mapP{g e:Type}{F G:g->e->Prop}:∀ {d:List g} {c:List e},Paired F d c->(∀a b,F a b->G a b)->Paired G d c
 |_,_,.nil,_=>.nil
 |_,_,.cons r t,f=>.cons (f _ _ r) (Paired.mapP t f)
theorem aV.stay(x:aV P w H h a o)(k:∀b u,(b=a\/H b=U (.own a))->h.get? b=U u->h'.get? b=U u) (M:∀b,H b=U (.own a)->H' b=U (.own a)) (J:∀b m,H b=U (.tup m)->H' b=U (.tup m)):aV P w H' h' a o:=by
 induction o with
 |lst m=>obtain⟨z,l,n,r,e⟩:=x;exact⟨z,l,n,r,k _ _ (.inl Z) e⟩
 |tup m=>obtain⟨z,l,r,g,e,c⟩:=x;exact⟨z,l,r,g,k _ _ (.inl Z) e,c⟩
 |dK aJ=>obtain⟨z,y,G,r,g,i,j,e,c⟩:=x;exact⟨z,y,G,r,g,i,j,k _ _ (.inl Z) e,c⟩
 |dT aJ =>
  obtain⟨z,y,m,r,g,i,j,e,c⟩:=x;exact⟨z,y,m,Paired.mapP r λp q z=>⟨z.1,J _ _ z.2.1,z.2.2⟩,g,i,j,k _ _ (.inl Z) e,c⟩
 |set S n=>obtain⟨g,i,j,t,e,c⟩:=x;exact⟨g,i,j,t,k _ _ (.inl Z) e,c⟩
 |ins C dx fs =>
  obtain⟨d,z,I,e,A,⟨s,i,j,N,c⟩,r⟩:=x;exact⟨M _ d,z,I,k _ _ (.inl Z) e,A,⟨s,i,j,k _ _ (.inr d) N,c⟩,r⟩
 |own y=>obtain⟨g,e⟩:=x;exact⟨g,k _ _ (.inl Z) e⟩
 |xd fs=>obtain⟨A,⟨s,i,j,e,c⟩,r⟩:=x;exact⟨A,⟨s,i,j,k _ _ (.inl Z) e,c⟩,r⟩
 |rng lo hi=>obtain⟨t,u,v,e⟩:=x;exact⟨t,u,v,k _ _ (.inl Z) e⟩
 |frz g u ih=>obtain⟨e,q⟩:=x;exact⟨k _ _ (.inl Z) e,ih q⟩
 |tbl ps =>
  have e:h.get? a=U { cls:=.none,data:=.fields ps }:=x;show h'.get? a=U { cls:=.none,data:=.fields ps };exact k a _ (.inl Z) e
 |met f y =>
  have e:h.get? a=U (sy (.ref f) (.ref y)):=x;show h'.get? a=U (sy (.ref f) (.ref y));exact k a _ (.inl Z) e
 |ext φ=>obtain⟨p,⟨o,e⟩,E⟩:=x;exact⟨E _ _ p λo q=>k _ _ (.inl Z) q,⟨o,k _ _ (.inl Z) e⟩,E⟩
theorem uk.lt(x:uk P w H h)(e:H a=U o):a<h.objs.size:=(x a o e).lt
theorem uk.fresh(x:uk P w H h)(e:h.objs.size<=a):H a=am:=by
 cases q:H a with
 |none=>rfl
 |some u=>exact absurd (bV (x.lt q) e) (fR _)
theorem uk.kept(x:uk P w H h)(k:∀b u,h.get? b=U u->h'.get? b=U u):uk P w H h':=λa o e =>
 (x a o e).stay (λb u _ q=>k b u q) (λ_ q=>q) λ_ _ q=>q
theorem uk.laid(x:uk P w H h)(k:∀b u,h.get? b=U u->h'.get? b=U u)(g:h.objs.size<=a)(d:aV P w (upd H a o) h' a o):uk P w (upd H a o) h':=λb u e=>by
 have f:=x.fresh g;by_cases hb:b=a
 .subst hb;rw[zj] at e;cases e;exact d
 .rw[zm hb] at e;exact(x b u e).stay (λc v _ q=>k c v q) (λc q=>by rw[zm (zF q f)];exact q) λc i q=>by rw[zm (zF q f)];exact q
end
def Rd(H:D)(a:L)(u:HO):Prop:=H a=U u\/∃o,H a=U (.frz o u)
theorem Rd.ok{H:D}(r:Rd H a u)(x:uk P w H h):aV P w H h a u:=by
 rcases r with r|⟨o,r⟩
 .exact x a u r
 .obtain⟨_,q⟩:=x a _ r;exact q
def Mut:Option HO->Prop
 |some (.lst _)=>True
 |some (.dK _)=>True
 |some (.dT _)=>True
 |some (.set _ _)=>True
 |some (.ins _ _ _)=>True
 |some (.ext _)=>True
 |_=>False
section
variable {P:av}{w:ay}{H:D}{h h':ax}{x e:L}{o':HO}
theorem uk.write(n:uk P w H h)(g:Mut (H x))(m:e=x\/H e=U (.own x))(k:∀b u,b≠e->h.get? b=U u->h'.get? b=U u)(j:∃u,h'.get? e=U u) (i:aV P w (upd H x o') h' x o'):uk P w (upd H x o') h':=λb u q=>by
 have a:∀c y,H c=U (.own y)->c≠x:=λc y r z=>by subst z;rw[r] at g;exact g
 have d:∀c f,H c=U (.tup f)->c≠x:=λc f r z=>by subst z;rw[r] at g;exact g
 by_cases hb:b=x
 .subst hb;rw[zj] at q;cases q;exact i
 .rw[zm hb] at q;by_cases hbe:b=e
  .have l:H b=U (.own x):=by
    rcases m with z|z
    .exact absurd (hbe.trans z) hb
    .rw[hbe];exact z
   rw[q] at l;cases l;obtain⟨v,o⟩:=j;exact⟨v,by rw[hbe];exact o⟩
  .refine(n b u q).stay (λc v hc r=>k c v ?_ r) (λc r=>by rw[zm (a c b r)];exact r) λc f r=>by rw[zm (d c f r)];exact r
   rcases hc with rfl|hc
   .exact hbe
   .rintro rfl;rcases m with z|z
    .exact a c b hc z
    .rw[hc] at z;cases z;exact hb rfl
end
structure Un(fs ex:List L)(H H':D)(h h':ax):Prop where
 keep:∀b o,h.get? b=U o->H b=am->b ∉ fs->b ∉ ex->h'.get? b=U o
 slot:∀b o,h.get? b=U o->H b=am->b∈fs->b ∉ ex->∃sl,h'.get? b=U { o with slots:=sl }
 free:∀b o,h.get? b=U o->H b=am->b ∉ ex->H' b=am
 there:∀b o,h.get? b=U o->b ∉ ex->∃o',h'.get? b=U o'
 tups:∀b xs,H b=U (.tup xs)->H' b=U (.tup xs)
 frzs:∀b o u,H b=U (.frz o u)->H' b=U (.frz o u)
 tbls:∀b ps,H b=U (.tbl ps)->∃more,H' b=U (.tbl (ps++more))
section
variable {fs fs' ex ex':List L}{H H1 H2:D}{h h1 h2 h':ax}{a x e:L}{o:HO}
theorem Un.any(u:Un fs ex H H1 h h1)(q:h.get? b=U ob)(n:H b=am)(c:b ∉ ex):∃sl,h1.get? b=U { ob with slots:=sl }:=by
 by_cases hb:b∈fs
 .exact u.slot b ob q n hb c
 .exact⟨ob.slots,u.keep b ob q n hb c⟩
theorem Un.kept(k:∀b u,h.get? b=U u->h'.get? b=U u):Un fs ex H H h h' :=
 ⟨λb c q _ _ _=>k b c q,λb c q _ _ _=>⟨c.slots,k b c q⟩,λ_ _ _ n _=>n,λb c q _=>⟨c,k b c q⟩,λ_ _ q=>q,λ_ _ _ q=>q,λ_ ps q=>⟨#[],by rw[q];simp⟩⟩
theorem Un.refl:Un fs ex H H h h:=Un.kept λ_ _ q=>q
theorem Un.laid(k:∀b u,h.get? b=U u->h'.get? b=U u)(d:h.objs.size<=a)(c:H a=am):Un fs ex H (upd H a o) h h' where
 keep:=λb u q _ _ _=>k b u q
 slot:=λb u q _ _ _=>⟨u.slots,k b u q⟩
 free:=λb u q n _=>by rw[zm (bR (bV (bI q) d))];exact n
 there:=λb u q _=>⟨u,k b u q⟩
 tups:=λb xs q=>by rw[zm (zF q c)];exact q
 frzs:=λb u xs q=>by rw[zm (zF q c)];exact q
 tbls:=λb ps q=>⟨#[],by rw[zm (zF q c),q];simp⟩
theorem Un.write(c:Mut (H x))(l:e=x\/H e=U (.own x))(k:∀b u,b≠e->h.get? b=U u->h'.get? b=U u)(f:∃u,h'.get? e=U u):Un fs ex H (upd H x o) h h':=by
 have g:∀b,H b=am->b≠x:=λb n z=>by subst z;rw[n] at c;exact c
 have i:∀b,H b=am->b≠e:=λb n z=>by
  subst z;rcases l with r|r
  .exact g b n r
  .rw[n] at r;cases r
 have d:∀b u,H b=U u->¬ Mut (U u)->b≠x:=λb u q j z=>by subst z;rw[q] at c;exact j c
 refine⟨λb u q n _ _=>k b u (i b n) q,λb u q n _ _=>⟨u.slots,k b u (i b n) q⟩,λb u q n _=>by rw[zm (g b n)];exact n,λb u q _=>?_,
  λb xs q=>by rw[zm (d b _ q λz=>z)];exact q,λb u xs q=>by rw[zm (d b _ q λz=>z)];exact q,λb ps q=>⟨#[],by rw[zm (d b _ q λz=>z),q];simp⟩⟩
 by_cases hbe:b=e
 .subst hbe;exact f
 .exact⟨u,k b u hbe q⟩
end
def trk(h:ax)(H:D):List L:=(eE h.objs.size).filter λa=>(H a).isSome
def Q5(h:ax)(H:D):ax:=lP h (trk h H)
theorem zer(h:ax)(H:D):(Q5 h H).objs.size=h.objs.size:=W.hideAll_size _ _
theorem zfq{H:D}(e:h.get? b=U o)(n:H b=am):(Q5 h H).get? b=U o:=
 nu _ e λa=>by
  have q:(H b).isSome=ak:=(bQ.mp a).2;rw[n] at q;simp at q
theorem zhD{H:D}(e:(Q5 h H).get? b=U o):h.get? b=U o/\H b=am:=by
 have a:h.get? b=U o:=oy (trk h H) e;refine⟨a,?_⟩;cases q:H b with
 |none=>rfl
 |some x =>
  have c:b∈trk h H:=bQ.mpr ⟨List.mem_range.mpr (bI a),by simp[q]⟩;have z:(Q5 h H).get? b=am:=iT (trk h H) c;rw[z] at e;cases e
def zhE(g h:ax)(b:L):List (L×Obj):=(eE h.objs.size).filterMap λa=>if a=b\/(g.get? a).isSome=ak then am else (h.get? a).map λo=>(a,o)
def rest(g h:ax)(a d:L):List (L×Obj):=(zhE g h a).filter λp=>decide (p.1≠d)
structure Mod(K:bA)(mg:Str->Option af)(base:ax):Prop where
 kin:K.In base
 glob:base.Ns Bd mg
 blt:∃mb,base.Ns builtinsNs mb/\∀x:Str,x≠"__name__"->mb x=Bh x
 nolimit:base.NoLimit
set_option genSizeOf false in
set_option genInjectivity false in
structure Cx where
 prog:av
 w:ay
 K:bA
 mg:Str->Option af
 base:ax
 A:aw
 N:List Str
 s₀:ah
 H₀:D
 env:Env
 outer:List Env
 stack:List Env
 ex:List L
 fn:Str->Bool
 calm:Bool
 pn:List (L×Obj)
 xe:af->ah->Prop
def ue(l:List Env):List L:=l.filterMap (·.frame)
abbrev Cx.fs(X:Cx):List L:=ue X.outer
def Vis(a:aC)(x:Str):Prop:=a.names.lookup x=U .local\/a.names.lookup x=U .cell\/a.names.lookup x=U .free
def Loc(a:aC)(x:Str):Prop:=a.names.lookup x=U .local\/a.names.lookup x=U .cell
def zkK(a:Env)(h:ax)(m:Str->Option af)(x:Str)(u:af):Prop :=
 (a.kindOf x=U .local/\m x=U u)\/((a.kindOf x=U .cell\/a.kindOf x=U .free)/\∃c,a.cells.lookup x=U c/\h.IsCell c (U u))
structure Cx.Ok(X:Cx):Prop where
 mod:Mod X.K X.mg X.base
 kind:X.env.scope.kind=.function
 glob:X.env.globals=Bd
 blt:X.env.builtins=builtinsNs
 above:X.s₀.heap.objs.size<=X.env.locals
 inj:∀x y c,X.env.cells.lookup x=U c->X.env.cells.lookup y=U c->x=y
 has:∀x,(X.env.kindOf x=U .cell\/X.env.kindOf x=U .free)->∃c,X.env.cells.lookup x=U c
 cab:∀x c,X.fn x=ak->X.env.cells.lookup x=U c->X.s₀.heap.objs.size<=c
 hd:X.calm=ak->X.A.handled=am
 frames:X.A.frames=U X.stack
 stk:X.stack=X.outer\/(X.stack=X.env::X.outer/\X.env.frame=U X.env.locals)
 exf:∀b∈X.ex,b≠X.env.locals/\∀x c,X.env.cells.lookup x=U c->c≠b
 bs:∀b o,X.base.get? b=U o->X.s₀.heap.get? b=U o/\X.H₀ b=am
 bsz:X.base.objs.size<=X.s₀.heap.objs.size
 noex:∀b o,X.base.get? b=U o->b ∉ X.ex
 exfs:∀b∈X.ex,b ∉ X.fs
 funs:X.s₀.heap.FunFrames X.base X.outer
 frf:∀b∈X.fs,X.H₀ b=am
structure aP(X:Cx)(aa:List (L×Obj))(σ:List (Option V))(H:D)(s:ah):Prop where
 ok:X.Ok
 os:s.os=X.s₀.os
 bare:AllBare s.gens
 base:Un X.fs X.ex X.H₀ H X.s₀.heap s.heap
 loc:∃m,s.heap.Ns X.env.locals m/\∀(i:Nat) (x:Str) (v:V),X.N[i]?=U x->σ[i]?=U (U v)->Vis X.env.scope x->∃u,aU v u/\zkK X.env s.heap m x u
 cell:∀x c,X.env.cells.lookup x=U c->∃v,s.heap.IsCell c v
 free:H X.env.locals=am
 freeC:∀x c,X.env.cells.lookup x=U c->H c=am
 pin:∀p∈X.pn++aa,s.heap.get? p.1=U p.2/\H p.1=am/\p.1≠X.env.locals/\p.1 ∉ X.fs/\∀v,p.2.data≠.cell v
 hok:uk X.prog X.w H s.heap
 len:σ.length=X.N.length
section
variable {X:Cx}{aa:List (L×Obj)}{σ:List (Option V)}{H H':D}{s:ah}{h':ax}
theorem Cx.Ok.nofr(a:X.Ok)(e:X.base.get? b=U o):b ∉ X.fs:=λd=>by
 have:=(a.funs.mem d).1;rw[e] at this;cases this
theorem aP.bs(I:aP X aa σ H s):∀b o,X.base.get? b=U o->s.heap.get? b=U o/\H b=am:=λb o e =>
 ⟨I.base.keep b o (I.ok.bs b o e).1 (I.ok.bs b o e).2 (I.ok.nofr e) (I.ok.noex b o e),I.base.free b o (I.ok.bs b o e).1 (I.ok.bs b o e).2 (I.ok.noex b o e)⟩
theorem aP.bk(I:aP X aa σ H s):∀b o,X.base.get? b=U o->s.heap.get? b=U o:=λb o e=>(I.bs b o e).1
theorem aP.mod(I:aP X aa σ H s):Mod X.K X.mg X.base:=I.ok.mod
theorem aP.kIn(I:aP X aa σ H s):X.K.In s.heap:=I.ok.mod.kin.keeps I.bk
theorem aP.lt(I:aP X aa σ H s):X.env.locals<s.heap.objs.size:=let ⟨_,hn,_⟩:=I.loc;hn.lt
theorem aP.sz(I:aP X aa σ H s):X.s₀.heap.objs.size<=s.heap.objs.size:=bM I.ok.above (oz I.lt)
theorem aP.nofs(I:aP X aa σ H s){a:L}(h:s.heap.objs.size<=a):a ∉ X.fs:=λd=>by
 obtain⟨_,o,b,_⟩:=I.ok.funs.mem d;exact absurd (bV (bI b) (bM I.sz h)) (fR _)
theorem aP.cne(I:aP X aa σ H s):∀x c,X.env.cells.lookup x=U c->c≠X.env.locals:=λx c e z=>by
 obtain⟨v,o,d,f⟩:=I.cell x c e;obtain⟨m,⟨g,h,j,a,b,_⟩,_⟩:=I.loc;rw[z,a] at d;cases d;rw[b] at f;cases f
theorem aP.funs(I:aP X aa σ H s):s.heap.FunFrames X.base X.outer:=by
 have h:∀(l:List Env),(∀b∈ue l,b∈X.fs)->X.s₀.heap.FunFrames X.base l->s.heap.FunFrames X.base l:=by
  intro l;induction l with
  |nil=>intro _ _;trivial
  |cons env r ih =>
   intro j t;obtain⟨y,⟨a,o,d,q,n,A⟩,k⟩:=t;have g:a∈X.fs:=j a (by unfold ue;rw[lQ,d];exact br);obtain⟨C,e⟩:=I.base.slot a o n (I.ok.frf a g) g λz=>I.ok.exfs a z g;exact⟨y,⟨a,_,d,q,e,A⟩,ih (λb f=>j b (by unfold ue;rw[lQ,d];exact bp _ f)) k⟩
 exact h X.outer (λ_ f=>f) I.ok.funs
theorem aP.stack(I:aP X aa σ H s):s.heap.FunFrames X.base X.stack:=by
 rcases I.ok.stk with e|⟨e,hf⟩
 .rw[e];exact I.funs
 .rw[e];obtain⟨m,a,_⟩:=I.loc;refine .cons (by rw[I.ok.kind];decide) hf a ?_ I.funs;exact Heap.get?_none_of_le (bM I.ok.bsz I.ok.above)
theorem aP.stkSub(I:aP X aa σ H s):∀b∈ue X.stack,b∈X.env.locals::X.fs:=λb a=>by
 rcases I.ok.stk with e|⟨e,hf⟩
 .rw[e] at a;exact bp _ a
 .rw[e] at a;unfold ue at a;rw[lQ,hf] at a;exact a
theorem aP.stkFree(I:aP X aa σ H s):∀b∈ue X.stack,H b=am:=λb hb=>by
 rcases bw.mp (I.stkSub b hb) with e|hb
 .rw[e];exact I.free
 .obtain⟨_,o,a,_⟩:=I.ok.funs.mem hb;exact I.base.free b o a (I.ok.frf b hb) λz=>I.ok.exfs b z hb
theorem aP.step{t':Nat}{d':Drawn}{ch:List L}(I:aP X aa σ H s) (h:∀b∈ch,(b∈X.ex\/X.s₀.heap.objs.size<=b)/\b≠X.env.locals/\(∀x c,X.env.cells.lookup x=U c->c≠b)/\∀p∈X.pn++aa,p.1≠b) (g:∀b o,b≠X.env.locals->b ∉ X.fs->b ∉ ch->s.heap.get? b=U o->H b=am->h'.get? b=U o) (C:∀b o,b≠X.env.locals->b∈X.fs->b ∉ ch->s.heap.get? b=U o->H b=am->∃sl,h'.get? b=U { o with slots:=sl }) (free:∀b o,b ∉ ch->s.heap.get? b=U o->H b=am->H' b=am) (E:∀b o,b ∉ ch->s.heap.get? b=U o->∃Q,h'.get? b=U Q) (M:∀b A,H b=U (.tup A)->H' b=U (.tup A)) (ag:∀b o u,H b=U (.frz o u)->H' b=U (.frz o u)) (O:∀b ps,H b=U (.tbl ps)->∃ae,H' b=U (.tbl (ps++ae))) (ns:∀m,s.heap.Ns X.env.locals m->h'.Ns X.env.locals m) (hok:uk X.prog X.w H' h') (hg:AllBare g') :
  aP X aa σ H' { s with heap:=h',gens:=g',drawn:=d',toks:=t' }:=by
 have T:∀b o,X.s₀.heap.get? b=U o->b≠X.env.locals:=λb o e=>bR (bV (bI e) I.ok.above);have t:∀b o,X.s₀.heap.get? b=U o->b ∉ X.ex->b ∉ ch:=λb o e a G=>by
  rcases(h b G).1 with z|z
  .exact a z
  .exact absurd (bV (bI e) z) (fR _)
 have j:∀x c,X.env.cells.lookup x=U c->∀v,s.heap.IsCell c v->h'.IsCell c v:=λx c e v ⟨o,J,hd⟩=>by
  have f:c ∉ ch:=λz=>(h c z).2.2.1 x c e rfl;by_cases hc:c∈X.fs
  .obtain⟨sl,q⟩:=C c o (I.cne x c e) hc f J (I.freeC x c e);exact⟨_,q,hd⟩
  .exact⟨o,g c o (I.cne x c e) hc f J (I.freeC x c e),hd⟩
 refine⟨I.ok,I.os,hg,⟨λb o e n G a=>?_,λb o e n G a=>?_,λb o e n a=>?_,λb o e a=>?_,λb A e=>M b A (I.base.tups b A e),λb o A e=>ag b o A (I.base.frzs b o A e),λb ps e=>?_⟩,?_,λx c e=>?_,?_,λx c e=>?_,λp hp=>?_,hok,I.len⟩
 .exact g b o (T b o e) G (t b o e a) (I.base.keep b o e n G a) (I.base.free b o e n a)
 .obtain⟨sl,y⟩:=I.base.slot b o e n G a;obtain⟨ai,e2⟩:=C b _ (T b o e) G (t b o e a) y (I.base.free b o e n a);exact⟨ai,e2⟩
 .obtain⟨Q,y⟩:=I.base.there b o e a;exact free b Q (t b o e a) y (I.base.free b o e n a)
 .obtain⟨Q,y⟩:=I.base.there b o e a;exact E b Q (t b o e a) y
 .obtain⟨m1,y⟩:=I.base.tbls b ps e;obtain⟨m2,e2⟩:=O b _ y;exact⟨m1++m2,by rw[e2,Array.append_assoc]⟩
 .obtain⟨m,hn,hl⟩:=I.loc;refine⟨m,ns m hn,λi x v y e2 e3=>?_⟩;obtain⟨u,r,l⟩:=hl i x v y e2 e3;refine⟨u,r,?_⟩;rcases l with l|⟨k,c,e,z⟩
  .exact .inl l
  .exact .inr ⟨k,c,e,j x c e _ z⟩
 .obtain⟨v,z⟩:=I.cell x c e;exact⟨v,j x c e v z⟩
 .obtain⟨m,⟨o,_,_,J,_⟩,_⟩:=I.loc;exact free _ o (λz=>(h _ z).2.1 Z) J I.free
 .obtain⟨v,o,J,hd⟩:=I.cell x c e;exact free c o (λz=>(h c z).2.2.1 x c e Z) J (I.freeC x c e)
 .obtain⟨e,n,ne,nf,d⟩:=I.pin p hp;have f:p.1 ∉ ch:=λz=>(h p.1 z).2.2.2 p hp rfl;exact⟨g p.1 p.2 ne nf f e n,free p.1 p.2 f e n,ne,nf,d⟩
theorem aP.un(I:aP X aa σ H s)(u:Un X.fs [] H H' s.heap h')(hok:uk X.prog X.w H' h'):aP X aa σ H' { s with heap:=h',toks:=t' }:=by
 obtain⟨m,⟨o,z,A,h,r⟩,_⟩:=id I.loc;obtain⟨q,l⟩:=u.any h I.free (by simp);exact I.step (g':=s.gens) (d':=s.drawn) (ch:=[]) () (λb o _ d _ e n=>u.keep b o e n d (by simp)) (λb o _ d _ e n=>u.slot b o e n d (by simp)) (λb o _ e n=>u.free b o e n (by simp)) (λb o _ e=>u.there b o e (by simp)) u.tups u.frzs u.tbls (λy k=>by
  obtain⟨t,f,g,a,j⟩:=k;rw[h] at a;cases a;exact⟨_,f,g,l,j⟩) hok I.bare
theorem aP.call(I:aP X aa σ H s)(u:Un (ue X.stack) ch H H' s.heap h')(hok:uk X.prog X.w H' h')(t:AllBare g') (f:∀b∈ch,(b∈X.ex\/X.s₀.heap.objs.size<=b)/\b≠X.env.locals/\(∀x c,X.env.cells.lookup x=U c->c≠b)/\∀p∈X.pn++aa,p.1≠b) :
  aP X aa σ H' { s with heap:=h',gens:=g',drawn:=d',toks:=t' }:=by
 obtain⟨m,⟨o,G,J,k,r⟩,_⟩:=id I.loc;obtain⟨A,g⟩:=u.any k I.free λz=>(f _ z).2.1 rfl;exact I.step (ch:=ch) f (λb o g y a e n=>u.keep b o e n (λz=>(bw.mp (I.stkSub b z)).elim g y) a) (λb o _ _ a e n=>u.any e n a) (λb o a e n=>u.free b o e n a) (λb o a e=>u.there b o e a) u.tups u.frzs u.tbls (λE q=>by
  obtain⟨C,h,j,d,l⟩:=q;rw[k] at d;cases d;exact⟨_,h,j,g,l⟩) hok t
theorem aP.turned(I:aP X aa σ H s)(k:∀b o,b≠it->s.heap.get? b=U o->h'.get? b=U o)(h:H it=am)(f:it≠X.env.locals) (A:it∈X.ex\/X.s₀.heap.objs.size<=it) (y:∀x c,X.env.cells.lookup x=U c->c≠it) (t:∀p∈X.pn++aa,p.1≠it):aP X aa σ H { s with heap:=h',toks:=t' }:=by
 have d:∀b u,H b=U u->b≠it:=λb u e z=>by rw[z,h] at e;cases e
 refine I.step (g':=s.gens) (d':=s.drawn) (ch:=[it]) (λb l=>?_) (λb o _ _ a e _=>k b o (λz=>a (by simp[z])) e) (λb o _ _ a e _=>⟨o.slots,k b o (λz=>a (by simp[z])) e⟩) (λ_ _ _ _ n=>n)
  (λb o a e=>⟨o,k b o (λz=>a (by simp[z])) e⟩) (λ_ _ e=>e) (λ_ _ _ e=>e) (λb G e=>⟨#[],by rw[e];simp⟩) (λm j=>?_) (λb u e=>?_) I.bare
 .have e:b=it:=by simpa using l
  subst e;exact⟨A,f,y,t⟩
 .obtain⟨o,C,E,g,r⟩:=j;exact⟨o,C,E,k _ o (fq f) g,r⟩
 .refine(I.hok b u e).stay (λc v a q=>k c v ?_ q) (λ_ q=>q) λ_ _ q=>q;rcases a with z|z
  .rw[z];exact d b u e
  .exact d c _ z
theorem aP.tok(I:aP X aa σ H s)(t:Nat):aP X aa σ H { s with toks:=t }:=I.un (h':=s.heap) (t':=t) Un.refl I.hok
theorem aP.kept(I:aP X aa σ H s)(k:∀b u,s.heap.get? b=U u->h'.get? b=U u):aP X aa σ H { s with heap:=h',toks:=t' }:=I.un (Un.kept k) (I.hok.kept k)
theorem aP.laid{a:L}{o:HO}(I:aP X aa σ H s)(k:∀b u,s.heap.get? b=U u->h'.get? b=U u)(e:s.heap.objs.size<=a)(d:aV X.prog X.w (upd H a o) h' a o) :
  aP X aa σ (upd H a o) { s with heap:=h',toks:=t' }:=I.un (Un.laid k e (I.hok.fresh e)) (I.hok.laid k e d)
theorem aP.write(I:aP X aa σ H s)(f:Mut (H x))(g:e=x\/H e=U (.own x))(k:∀b u,b≠e->s.heap.get? b=U u->h'.get? b=U u)(a:∃u,h'.get? e=U u) (d:aV X.prog X.w (upd H x o) h' x o):aP X aa σ (upd H x o) { s with heap:=h',toks:=t' }:=I.un (Un.write f g k a) (I.hok.write f g k a d)
theorem aP.pins_of(I:aP X aa σ H s)(h:∀p∈pins',s.heap.get? p.1=U p.2/\H p.1=am/\p.1≠X.env.locals/\p.1 ∉ X.fs/\∀v,p.2.data≠.cell v):aP X pins' σ H s:=
 ⟨I.ok,I.os,I.bare,I.base,I.loc,I.cell,I.free,I.freeC,λp a=>(bu.mp a).elim (λz=>I.pin p (cI _ z)) (h p),I.hok,I.len⟩
theorem zbd{N:List Str}(c:N.Nodup){i j:Nat}(a:N[i]?=U x)(b:N[j]?=U x):i=j:=by
 obtain⟨g,e⟩:=bq.mp a;obtain⟨f,d⟩:=bq.mp b;exact(lj c).mp (e.trans d.symm)
theorem Qe{E:af->ah->Prop}{Q:Unit->ah->Prop}(I:aP X aa σ H s)(hN:X.N.Nodup)(hi:X.N[i]?=U x)(t:Loc X.env.scope x)(r:aU v u) (h:∀s',aP X aa (σ.set i (U v)) H s'->(∃a,cN a s.heap s'.heap/\(a=X.env.locals\/X.env.cells.lookup x=U a))->Q PUnit.unit s') (hf:X.fn x=ak\/X.env.scope.names.lookup x=U .local:=by first|exact .inl rfl|exact .inr rfl|assumption):Bf M A (storeName X.env x u) Q E s:=by
 obtain⟨m,hn,hl⟩:=id I.loc;have ag:(X.env.scope.kind==.class || (X.env.scope.kind==.module&&X.env.locals != X.env.globals))=aq:=by rw[I.ok.kind];rfl
 have G:i<σ.length:=by rw[I.len];exact(bq.mp hi).1
 have O:=I.cne;have g:∀ {a:L} {h':ax},(∃o,s.heap.get? a=U o/\H a=am)->cN a s.heap h'->uk X.prog X.w H h':=λ{a h'} ha f b ob e=>by
  obtain⟨_,_,w⟩:=ha;refine(I.hok b ob e).stay (λc w' hc q=>(f.2 c ?_).trans q) (λ_ q=>q) λ_ _ q=>q;rintro rfl;rcases hc with rfl|hc
  .rw[w] at e;cases e
  .rw[w] at hc;cases hc
 rcases t with hk|hk
 .refine wpAny_storeName_local hk hn (λh' al f=>?_) ag;obtain⟨oL,_,_,aj,_⟩:=id hn;refine h _ ⟨I.ok,I.os,I.bare,⟨λb o e n N t=>?_,λb o e n N t=>?_,I.base.free,λb o e t=>?_,I.base.tups,I.base.frzs,I.base.tbls⟩,⟨_,al,λj y v' l C e3=>?_⟩,λy c e=>?_,I.free,I.freeC,λp hp=>?_,g ⟨oL,aj,I.free⟩ f,by simpa using I.len⟩ ⟨_,f,.inl Z⟩
  .exact(f.2 b (bR (bV (bI e) I.ok.above))).trans (I.base.keep b o e n N t)
  .obtain⟨sl,l⟩:=I.base.slot b o e n N t;exact⟨sl,(f.2 b (bR (bV (bI e) I.ok.above))).trans l⟩
  .obtain⟨o',l⟩:=I.base.there b o e t;exact⟨o',(f.2 b (bR (bV (bI e) I.ok.above))).trans l⟩
  .by_cases hj:j=i
   .subst hj;rw[hi] at l;cases l;rw[du G] at C;cases C;exact⟨u,r,.inl ⟨hk,by simp⟩⟩
   .rw[dH (fq hj)] at C;obtain⟨u',r',q⟩:=hl j y v' l C e3;refine⟨u',r',?_⟩;rcases q with ⟨k,e⟩|⟨k,c,e,z⟩
    .refine .inl ⟨k,?_⟩;have:y≠x:=λe=>hj (zbd hN l (e ▸ hi));simp[this,e]
    .exact .inr ⟨k,c,e,z.sameBut f (O y c e)⟩
  .obtain⟨w',z⟩:=I.cell y c e;exact⟨w',z.sameBut f (O y c e)⟩
  .obtain⟨e,n,ne,nf,d⟩:=I.pin p hp;exact⟨(f.2 p.1 ne).trans e,n,ne,nf,d⟩
 .have J:X.fn x=ak:=by
   rcases hf with z|z
   .exact z
   .rw[z] at hk;cases hk
  obtain⟨c,hc⟩:=I.ok.has x (.inl hk);obtain⟨w',z⟩:=I.cell x c hc;refine wpAny_storeName_cell I.ok.kind hk hc z (λh' ai f=>?_);obtain⟨oc,ae,T⟩:=id z;refine h { s with heap:=h' } ⟨I.ok,I.os,I.bare,⟨λb o e n N t=>?_,λb o e n N t=>?_,I.base.free,λb o e t=>?_,I.base.tups,I.base.frzs,I.base.tbls⟩,⟨m,hn.sameBut f (fq (O x c hc)),λj y v' l C e3=>?_⟩,λy c' e=>?_,I.free,I.freeC,λp hp=>?_,g ⟨oc,ae,I.freeC x c hc⟩ f,by simpa using I.len⟩ ⟨c,f,.inr hc⟩
  .exact(f.2 b (bR (bV (bI e) (I.ok.cab x c J hc)))).trans (I.base.keep b o e n N t)
  .obtain⟨sl,l⟩:=I.base.slot b o e n N t;exact⟨sl,(f.2 b (bR (bV (bI e) (I.ok.cab x c J hc)))).trans l⟩
  .obtain⟨o',l⟩:=I.base.there b o e t;exact⟨o',(f.2 b (bR (bV (bI e) (I.ok.cab x c J hc)))).trans l⟩
  .by_cases hj:j=i
   .subst hj;rw[hi] at l;cases l;rw[du G] at C;cases C;exact⟨u,r,.inr ⟨.inl hk,c,hc,ai⟩⟩
   .rw[dH (fq hj)] at C;obtain⟨u',r',q⟩:=hl j y v' l C e3;refine⟨u',r',?_⟩;rcases q with q|⟨k,c',e,z'⟩
    .exact .inl q
    .refine .inr ⟨k,c',e,z'.sameBut f ?_⟩;rintro rfl;exact hj (zbd hN l (I.ok.inj _ _ _ e hc ▸ hi))
  .by_cases hcc:c'=c
   .subst hcc;exact⟨_,ai⟩
   .obtain⟨w2,z2⟩:=I.cell y c' e;exact⟨w2,z2.sameBut f hcc⟩
  .obtain⟨e,n,ne,nf,d⟩:=I.pin p hp;refine⟨(f.2 p.1 ?_).trans e,n,ne,nf,d⟩;intro q;rw[q,ae] at e;have q':oc=p.2:=bH e;exact d w' (by rw[<-q'];exact T)
theorem VT{E:af->ah->Prop}{Q:Unit->ah->Prop}(I:aP X aa σ H s)(e:X.N.Nodup)(c:X.N[i]?=U x)(b:Loc X.env.scope x)(r:aU v u) (h:∀a,aP X aa (σ.set i (U v)) H a->Q PUnit.unit a) (d:X.fn x=ak\/X.env.scope.names.lookup x=U .local:=by first|exact .inl rfl|exact .inr rfl|assumption):Bf M A (storeName X.env x u) Q E s:=
 Qe I e c b r (λa f _=>h a f) d
theorem aP.call'(I:aP X aa σ H s)(f:s'.os=s.os)(u:Un (ue X.stack) ch H H' s.heap s'.heap)(hok:uk X.prog X.w H' s'.heap)(g:AllBare s'.gens) (a:∀b∈ch,(b∈X.ex\/X.s₀.heap.objs.size<=b)/\b≠X.env.locals/\(∀x c,X.env.cells.lookup x=U c->c≠b)/\∀p∈X.pn++aa,p.1≠b):aP X aa σ H' s':=by
 obtain⟨h',g',d',t',d⟩:=s';have e:d=s.os:=f;subst e;exact I.call (g':=g') (t':=t') (d':=d') u hok g a
end
abbrev XK:=af->Option L->D->Prop
abbrev St:=List (Option V)
abbrev VK:=V->D->Prop
abbrev TE:=St->D->VK->Prop
abbrev TT:=St->D->(Bool->D->Prop)->Prop
abbrev TA:=St->D->(List V->D->Prop)->Prop
set_option genSizeOf false in
set_option genInjectivity false in
structure Wg where
 nx:St->D->Prop
 rt:VK
 bk:St->D->Prop:=λ_ _=>False
 ct:St->D->Prop:=λ_ _=>False
abbrev TS:=Wg->St->D->Prop
def EP(X:Cx)(d:List (L×Obj))(b:St)(Q:VK)(u:af)(c:ah):Prop:=∃v a,aP X d b a c/\aU v u/\Q v a
def TP(X:Cx)(e:List (L×Obj))(c:St)(Q:Bool->D->Prop)(b:Bool)(d:ah):Prop:=∃a,aP X e c a d/\Q b a
def AP(X:Cx)(f:List (L×Obj))(c:St)(Q:List V->D->Prop)(d:List af)(e:ah):Prop:=∃a b,aP X f c b e/\aR a d/\Q a b
def SP(X:Cx)(d:List (L×Obj))(e:Wg)(f:Flow)(c:ah):Prop :=
 match f with
 |.next=>∃a b,aP X d a b c/\e.nx a b
 |.brk=>∃a b,aP X d a b c/\e.bk a b
 |.cont=>∃a b,aP X d a b c/\e.ct a b
 |.ret u=>∃v a b,aP X d a b c/\aU v u/\e.rt v b
def PE(X:Cx)(e:aB)(t:TE):Prop :=
 ∀(b:List (L×Obj)) (s:ah) (a:St) (H:D) (Q:VK),aP X b a H s->t a H Q->Bf (Bg X.prog X.w) X.A (eval e X.env) (EP X b a Q) X.xe s
def PT(X:Cx)(e:aB)(t:TT):Prop :=
 ∀(b:List (L×Obj)) (s:ah) (a:St) (H:D) (Q:Bool->D->Prop),aP X b a H s->t a H Q->Bf (Bg X.prog X.w) X.A (isTrue e X.env (eval e X.env)) (TP X b a Q) X.xe s
def PW(X:Cx)(e:aB)(t:TT):Prop :=
 ∀(a:Sem af) (c:List (L×Obj)) (s:ah) (b:St) (H:D) (Q:Bool->D->Prop),aP X c b H s->t b H Q->Bf (Bg X.prog X.w) X.A (isTrue e X.env a) (TP X c b Q) X.xe s
theorem PW.pt(h:PW X e t):PT X e t:=h _
def PA(X:Cx)(d:List aB)(t:TA):Prop :=
 ∀(b:Pos) (c:List (L×Obj)) (s:ah) (a:St) (H:D) (Q:List V->D->Prop),aP X c a H s->t a H Q->Bf (Bg X.prog X.w) X.A (spliced (backTo b (Be d X.env))) (AP X c a Q) X.xe s
def PS(X:Cx)(st:aA)(t:TS):Prop :=
 ∀(b:List (L×Obj)) (s:ah) (a:St) (H:D) (c:Wg),aP X b a H s->t c a H->Bf (Bg X.prog X.w) X.A (exec st X.env) (SP X b c) X.xe s
def PSs(X:Cx)(st:List aA)(t:TS):Prop :=
 ∀(b:List (L×Obj)) (s:ah) (a:St) (H:D) (c:Wg),aP X b a H s->t c a H->Bf (Bg X.prog X.w) X.A (execs st X.env) (SP X b c) X.xe s
theorem aZ{b:Type}{t:Sem b}{Q c:b->ah->Prop}{E:af->ah->Prop}(h:Bf M A t Q E s)(d:∀a s,Q a s->c a s):Bf M A t c E s:=eG h d λ_ _ x=>x
section
variable {X:Cx}
def B(i:Nat):TE:=λa H Q=>∃v,a[i]?=U (U v)/\Q v H
def tC(v:V):TE:=λ_ H Q=>Q v H
theorem zjg{x:Str}{a:Pos}(n:X.N[i]?=U x)(g:Vis X.env.scope x)(b:(x==("__debug__":Str))=aq:=by lia)(d:(x==("__classdict__":Str))=aq:=by lia):PE X (.Name x a) (B i):=by
 intro o s f H Q I h;obtain⟨v,e,h⟩:=h;obtain⟨m,j,k⟩:=I.loc;obtain⟨u,r,l⟩:=k i x v n e g;have fin:EP X o f Q u s:=⟨v,H,I,r,h⟩;rcases l with ⟨hk,hm⟩|⟨hk,c,hc,hcell⟩
 .exact wpAny_Name (wpAny_loadName_local I.ok.kind hk j hm fin) b
 .rcases hk with hk|hk
  .exact wpAny_Name (wpAny_loadName_cell I.ok.kind hk hc hcell fin) b
  .exact wpAny_Name (wpAny_loadName_free I.ok.kind hk hc hcell fin d) b
theorem zh{i j pos}:PE X (.Constant (.int i) j pos) (tC (.int i)):=λ_ _ _ H _ I h=>wpAny_Constant_int ⟨.int i,H,I.tok _,⟨_,Z⟩,h⟩
theorem wE{b j pos}:PE X (.Constant (.bool b) j pos) (tC (.bl b)):=λ_ _ _ H _ I h=>Constant_bool ⟨.bl b,H,I,Z,h⟩
theorem xh{j pos}:PE X (.Constant .none j pos) (tC .non):=λ_ _ _ H _ I h=>Constant_none ⟨.non,H,I,Z,h⟩
theorem zM{x j pos}:PE X (.Constant (.str x) j pos) (tC (.str x)):=λ_ _ _ H _ I h=>pS ⟨.str x,H,I.tok _,⟨_,Z⟩,h⟩
def Gl(X:Cx)(x:Str):Prop:=X.env.kindOf x=U .globalImplicit
theorem vj{E:af->ah->Prop}{s:ah}{b:St}{H:D}{x:Str}{u:af}{a:Pos}{Q:af->ah->Prop}(I:aP X aa b H s)(d:Gl X x)(c:X.mg x=U u)(h:Q u s) (e:(x==("__debug__":Str))=aq:=by lia):Bf (Bg X.prog X.w) X.A (eval (.Name x a) X.env) Q E s:=
 mh I.ok.kind d (Calls.loadGlobal_global (by rw[I.ok.glob];exact I.mod.glob.keeps I.bk) c h) e
theorem VU{E:af->ah->Prop}{s:ah}{b:St}{H:D}{x:Str}{u:af}{a:Pos}{Q:af->ah->Prop}(I:aP X aa b H s)(f:Gl X x)(e:X.mg x=am)(c:Bh x=U u)(h:Q u s) (d:x≠"__name__":=by lia) (g:(x==("__debug__":Str))=aq:=by lia):Bf (Bg X.prog X.w) X.A (eval (.Name x a) X.env) Q E s:=by
 obtain⟨k,j,i⟩:=I.mod.blt;exact mh I.ok.kind f (Calls.loadGlobal_builtin (by rw[I.ok.glob];exact I.mod.glob.keeps I.bk) e (by rw[I.ok.blt];exact j.keeps I.bk) ((i x d).trans c) h) g
theorem zhF(b:Gl X x)(a:X.mg x=U u)(r:aU v u)(c:(x==("__debug__":Str))=aq:=by lia):PE X (.Name x pos) (tC v):=
 λ_ _ _ H _ I h=>vj I b a ⟨v,H,I,r,h⟩ c
theorem xV{x:Str}{a:Pos}(e:Gl X x)(d:X.mg x=am)(b:Bh x=U u)(r:aU v u)(c:x≠"__name__":=by lia)(f:(x==("__debug__":Str))=aq:=by lia):PE X (.Name x a) (tC v):=
 λ_ _ _ H _ I h=>VU I e d b ⟨v,H,I,r,h⟩ c f
variable {a b:aB}{ta tb:TE}{pos:Pos}
def tB(t:TE):TT:=λd H Q=>t d H λx e=>∃c,x=.bl c/\Q c e
theorem yL{e:aB}{t:TE}(h:PE X e t)(k:∀c,isTrue e X.env c=(do let v <-c;standAt e.pos;holding [v] (truthy v)):=by intro _;rfl):PT X e (tB t):=by
 intro l s f H Q I j;refine isTrue_plain (aZ (h l s f H _ I j) ?_) (k _);rintro v o ⟨x,n,m,g,i⟩;obtain⟨d,rfl,q⟩:=i;cases g;exact eI ⟨n,m,q⟩
variable {tA tB':TT}{rest:List aB}
def Xe(t u:TT):TT:=λd H Q=>t d H λc e=>if c=ak then u d e Q else Q aq e
def tOr(t u:TT):TT:=λd H Q=>t d H λc e=>if c=ak then Q ak e else u d e Q
def kj(t:TT):TT:=λd H Q=>t d H λc e=>Q (!c) e
theorem v3(f:PT X a tA):PW X (.BoolOp .And [a] pos) tA:=by
 intro i g s d H Q I h;refine isTrue_and (aZ (f g s d H Q I h) λc j e=>?_);cases c with
 |true=>exact isTrue_and_nil e
 |false=>exact e
theorem YQ(f:PT X a tA):PW X (.BoolOp .Or [a] pos) tA:=by
 intro i g s d H Q I h;refine isTrue_or (aZ (f g s d H Q I h) λc j e=>?_);cases c with
 |false=>exact isTrue_or_nil e
 |true=>exact e
theorem ko(m:PT X a tA)(l:PW X (.BoolOp .And (b::rest) pos) tB'):PW X (.BoolOp .And (a::b::rest) pos) (Xe tA tB'):=by
 intro j f s d H Q I h;refine isTrue_and (aZ (m f s d H _ I h) ?_);rintro c k ⟨i,g,e⟩;cases c with
 |true=>exact l j f k d i Q g e
 |false=>exact⟨i,g,e⟩
theorem VV(m:PT X a tA)(l:PW X (.BoolOp .Or (b::rest) pos) tB'):PW X (.BoolOp .Or (a::b::rest) pos) (tOr tA tB'):=by
 intro j f s d H Q I h;refine isTrue_or (aZ (m f s d H _ I h) ?_);rintro c k ⟨i,g,e⟩;cases c with
 |true=>exact⟨i,g,e⟩
 |false=>exact l j f k d i Q g e
theorem xP(e:PT X a tA):PT X (.UnaryOp .Not a pos) (kj tA):=by
 intro f s d H Q I h;exact isTrue_not (e f s d H (λc g=>Q (!c) g) I h)
def Qf(ta tb:TE):TE:=λd H Q=>ta d H λx e=>∃c,x=.bl c/\if c=ak then tb d e Q else Q (.bl aq) e
def zkb(ta tb:TE):TE:=λd H Q=>ta d H λx e=>∃c,x=.bl c/\if c=ak then Q (.bl ak) e else tb d e Q
def ziL(ta:TE):TE:=λd H Q=>ta d H λx e=>∃c,x=.bl c/\Q (.bl (!c)) e
theorem VW{op}{t:TE}(h:PE X a t):PE X (.BoolOp op [a] pos) t:=λe s c H Q I d=>BoolOp_one (h e s c H Q I d)
theorem VX(m:PE X a ta)(l:PE X (.BoolOp .And (b::rest) pos) tb):PE X (.BoolOp .And (a::b::rest) pos) (Qf ta tb):=by
 intro f s e H Q I h;refine BoolOp_and (aZ (m f s e H _ I h) ?_);rintro v j ⟨x,i,g,k,d⟩;obtain⟨c,rfl,d⟩:=d;cases k;refine eI ?_;cases c with
 |true=>exact l f j e i Q g d
 |false=>exact⟨.bl aq,i,g,Z,d⟩
theorem zkc(m:PE X a ta)(l:PE X (.BoolOp .Or (b::rest) pos) tb):PE X (.BoolOp .Or (a::b::rest) pos) (zkb ta tb):=by
 intro f s e H Q I h;refine BoolOp_or (aZ (m f s e H _ I h) ?_);rintro v j ⟨x,i,g,k,d⟩;obtain⟨c,rfl,d⟩:=d;cases k;refine eI ?_;cases c with
 |false=>exact l f j e i Q g d
 |true=>exact⟨.bl ak,i,g,Z,d⟩
theorem zjh(g:PE X a ta):PE X (.UnaryOp .Not a pos) (ziL ta):=by
 intro i s e H Q I h;refine UnaryOp_ (aZ (g i s e H _ I h) ?_);rintro v l ⟨x,k,j,f,d⟩;obtain⟨c,rfl,d⟩:=d;cases f;exact not_of (eI ⟨.bl (!c),k,j,Z,d⟩)
def tIf(t:TT)(ta tb:TE):TE:=λd H Q=>t d H λc e=>if c=ak then ta d e Q else tb d e Q
theorem jn(l:PT X c tA)(n:PE X a ta)(m:PE X b tb):PE X (.IfExp c a b pos) (tIf tA ta tb):=by
 intro f s e H Q I h;refine wpAny_IfExp (aZ (l f s e H _ I h) ?_);rintro d g ⟨k,j,i⟩;cases d with
 |true=>exact n f g e k Q j i
 |false=>exact m f g e k Q j i
end
def aT(K:bA)(H:D)(a:L)(c:List V):Prop :=
 Rd H a (.lst c) \/
  ∃(o:Obj) (b:Array af) (n:Nat),K.lookup a=U o/\o.cls=.type "list"/\o.dict=am/\o.data=.seq b n/\b.size<=Bb/\aR c b.toList
def tI(K:bA)(H:D)(a:L)(c:List V):Prop :=
 Rd H a (.tup c) \/
  ∃(o:Obj) (b:Array af) (n:Nat),K.lookup a=U o/\o.cls=.type "tuple"/\o.data=.seq b n/\b.size<=Bb/\aR c b.toList
def zkL:af->Option V
 |.none=>U .non
 |.bool b=>U (.bl b)
 |.int i _=>U (.int i)
 |.str x _=>U (.str x)
 |.bytes b _=>U (.byt b)
 |.float b _=>U (.flt b)
 |.ref a=>U (.ref a)
 |.type n=>U (.ty n)
 |_=>am
theorem aU.abs(r:aU x u):zkL u=U x:=by
 cases x with
 |non=>cases r;rfl
 |bl _=>cases r;rfl
 |int _=>obtain⟨t,rfl⟩:=r;rfl
 |str _=>obtain⟨t,rfl⟩:=r;rfl
 |byt _=>obtain⟨t,rfl⟩:=r;rfl
 |flt _=>obtain⟨t,rfl⟩:=r;rfl
 |ref _=>cases r;rfl
 |ty _=>cases r;rfl
theorem aU.inj(r:aU x u)(q:aU y u):x=y:=bH (r.abs.symm.trans q.abs)
theorem aR.inj:∀ {b a:List V} {c:List af},aR b c->aR a c->b=a
 |_,_,_,.nil,.nil=>rfl
 |_,_,_,.cons r t,.cons r' t'=>by rw[r.inj r',aR.inj t t']
section
variable {X:Cx}{aa:List (L×Obj)}{σ:St}{H:D}{s:ah}{a:L}{xs ys:List V}
theorem aT.of{K:bA}(h:H a=U (.lst xs)):aT K H a xs:=.inl (.inl h)
theorem tI.of{K:bA}(h:H a=U (.tup xs)):tI K H a xs:=.inl (.inl h)
theorem aP.list(I:aP X aa σ H s)(h:aT X.K H a xs):∃b:List af,aR xs b/\PlainL s.heap a b.toArray/\xs.length<=Bb:=by
 rcases h with h|⟨o,b,n,hk,hc,hd,hs,hz,r⟩
 .obtain⟨z,b,n,r,e⟩:=h.ok I.hok;exact⟨b,r,⟨_,n,e,Z,Z,Z⟩,z⟩
 .refine⟨b.toList,r,⟨o,n,I.kIn a o hk,hc,hd,by simpa using hs⟩,?_⟩;have e:=r.length;simp only[cq] at e;lia
theorem aP.tuple(I:aP X aa σ H s)(h:tI X.K H a xs):∃b:List af,aR xs b/\IsTup s.heap a b.toArray/\xs.length<=Bb:=by
 rcases h with h|⟨o,b,n,hk,hc,hs,hz,r⟩
 .obtain⟨z,b,r,p⟩:=h.ok I.hok;exact⟨b,r,p,z⟩
 .refine⟨b.toList,r,⟨o,I.kIn a o hk,hc,n,by simpa using hs⟩,?_⟩;have e:=r.length;simp only[cq] at e;lia
theorem aP.list_inj(I:aP X aa σ H s)(h:aT X.K H a xs)(k:aT X.K H a ys):xs=ys:=by
 obtain⟨b,r,⟨o,n,e,_,_,d⟩,_⟩:=I.list h;obtain⟨its',j,⟨l,q,f,_,_,g⟩,_⟩:=I.list k;rw[e] at f;cases f;rw[d] at g;injection g with d1 _;have:b=its':=by simpa using congrArg Array.toList d1
 subst this;exact r.inj j
theorem aP.tuple_inj(I:aP X aa σ H s)(h:tI X.K H a xs)(k:tI X.K H a ys):xs=ys:=by
 obtain⟨b,r,⟨o,e,_,n,d⟩,_⟩:=I.tuple h;obtain⟨its',j,⟨l,f,_,q,g⟩,_⟩:=I.tuple k;rw[e] at f;cases f;rw[d] at g;injection g with d1 _;have:b=its':=by simpa using congrArg Array.toList d1
 subst this;exact r.inj j
end
abbrev Cx.wish(X:Cx)(E:af->ah->Prop):Cx:={ X with xe:=E }
abbrev Cx.nox(X:Cx):Cx:=X.wish λ_ _=>False
theorem Cx.Ok.wish{X:Cx}(a:X.Ok)(E:af->ah->Prop):(X.wish E).Ok :=
 ⟨a.mod,a.kind,a.glob,a.blt,a.above,a.inj,a.has,a.cab,a.hd,a.frames,a.stk,a.exf,a.bs,a.bsz,a.noex,a.exfs,a.funs,a.frf⟩
theorem Cx.Ok.unwish{X:Cx}{E:af->ah->Prop}(a:(X.wish E).Ok):X.Ok :=
 ⟨a.mod,a.kind,a.glob,a.blt,a.above,a.inj,a.has,a.cab,a.hd,a.frames,a.stk,a.exf,a.bs,a.bsz,a.noex,a.exfs,a.funs,a.frf⟩
section
variable {X:Cx}{aa:List (L×Obj)}{σ:St}{H:D}{s:ah}{E:af->ah->Prop}
theorem aP.wish(I:aP X aa σ H s)(E:af->ah->Prop):aP (X.wish E) aa σ H s:=⟨I.ok.wish E,I.os,I.bare,I.base,I.loc,I.cell,I.free,I.freeC,I.pin,I.hok,I.len⟩
theorem aP.unwish(I:aP (X.wish E) aa σ H s):aP X aa σ H s:=⟨I.ok.unwish,I.os,I.bare,I.base,I.loc,I.cell,I.free,I.freeC,I.pin,I.hok,I.len⟩
theorem SP.unwish(h:SP (X.wish E) aa Bq f s'):SP X aa Bq f s':=by
 cases f with
 |next=>obtain⟨a,b,I,q⟩:=h;exact⟨a,b,I.unwish,q⟩
 |brk=>obtain⟨a,b,I,q⟩:=h;exact⟨a,b,I.unwish,q⟩
 |cont=>obtain⟨a,b,I,q⟩:=h;exact⟨a,b,I.unwish,q⟩
 |ret u=>obtain⟨v,a,b,I,r,q⟩:=h;exact⟨v,a,b,I.unwish,r,q⟩
theorem PSs.nox{a:List aA}{t:TS}(h:PSs X.nox a t):PSs X a t:=λaa s σ H c I b =>
 eG (h aa s σ H c (I.wish _) b) (λ_ _ q=>q.unwish) λ_ _ z=>dz z
end
section
variable {X:Cx}{st:aA}{rest:List aA}{t u:TS}{e:aB}{te:TE}{pos:Pos}
def zN:TS:=λb a H=>b.nx a H
def zt(t u:TS):TS:=λa b H=>t { a with nx:=u a } b H
theorem zy:PSs X [] zN:=λ_ _ a H _ I h=>gq ⟨a,H,I,h⟩
theorem ze(j:PS X st t)(i:PSs X rest u):PSs X (st::rest) (zt t u):=by
 intro c s d H b I h;refine nT (aZ (j c s d H { b with nx:=u b } I h) λf g q=>?_);cases f with
 |next =>
  obtain⟨a,l,k,q⟩:=q;exact i c g a l b k q
 |ret v=>exact q
 |brk=>exact q
 |cont=>exact q
theorem zi(b:PS X st t):PSs X [st] t:=by
 intro c s a H d I h;refine nT (aZ (b c s a H d I h) λf g q=>?_);cases f with
 |next=>exact gq q
 |ret v=>exact q
 |brk=>exact q
 |cont=>exact q
theorem aP.quiet{σ:St}{H:D}{s:ah}(I:aP X aa σ H s):interactive X.env=aq:=by simp[interactive,I.ok.kind]
def yn(te:TE):TS:=λc a H=>te a H λ_ b=>c.nx a b
theorem zQ(d:PE X e te)(c:swapsWith e am pos.line X.env=pure aq:=by rfl):PS X (.Expr e pos) (yn te):=by
 intro f s a H l I h;exact wpAny_Expr_any (aZ (d f s a H _ I h) λv j ⟨x,i,g,k,b⟩=>⟨a,i,g,b⟩) I.quiet c
def zJ(te:TE):TS:=λb a H=>te a H b.rt
theorem zq(d:PE X e te):PS X (.Return (U e) pos) (zJ te):=by
 intro f s a H k I h;exact wpAny_Return_some (aZ (d f s a H _ I h) λv j ⟨x,i,g,b,c⟩=>⟨x,a,i,g,b,c⟩)
def ziM:TS:=λa _ H=>a.rt .non H
theorem zhG:PS X (.Return am pos) ziM:=λ_ _ a H _ I h=>wpAny_Return_none ⟨.non,a,H,I,Z,h⟩
def zW(c:TT)(t u:TS):TS:=λf a H=>c a H λb d=>if b=ak then t f a d else u f a d
theorem zK(n:PT X c tc)(p:PSs X a t)(o:PSs X b u):PS X (.If c a b pos) (zW tc t u):=by
 intro g s f H m I h;refine wpAny_If (aZ (n g s f H _ I h) ?_);rintro d i ⟨l,k,j⟩;cases d with
 |true=>exact p g i f l m k j
 |false=>exact o g i f l m k j
def zcD:TS:=λ_ _ _=>False
theorem zbe:PS X st zcD:=λ_ _ _ _ _ _ h=>h.elim
end
abbrev TG:=V->St->D->(St->D->Prop)->Prop
abbrev TGs:=List V->St->D->(St->D->Prop)->Prop
def PG(X:Cx)(a:aB)(t:TG):Prop :=
 ∀(d:List (L×Obj)) (s:ah) (c:St) (H:D) (v:V) (u:af) (Q:St->D->Prop),aP X d c H s->aU v u->t v c H Q ->
  Bf (Bg X.prog X.w) X.A (assign a X.env u) (λ_ f=>∃b e,aP X d b e f/\Q b e) X.xe s
def PGs(X:Cx)(g:List aB)(t:TGs):Prop :=
 ∀(e:List (L×Obj)) (s:ah) (b:St) (H:D) (c:List V) (d:List af) (Q:St->D->Prop),aP X e b H s->aR c d->t c b H Q ->
  Bf (Bg X.prog X.w) X.A (assignInOrder ((assignEach g X.env).map (·.2)) d) (λ_ h=>∃a f,aP X e a f h/\Q a f) X.xe s
section
variable {X:Cx}{pos:Pos}
def zv(i:Nat):TG:=λv a H Q=>Q (a.set i (U v)) H
theorem wq(d:X.N.Nodup)(b:X.N[i]?=U x)(a:Loc X.env.scope x)(c:X.fn x=ak\/X.env.scope.names.lookup x=U .local:=by first|exact .inl rfl|exact .inr rfl|assumption):PG X (.Name x pos) (zv i):=by
 intro j s f H v u Q I r h;exact wpAny_assign_Name (VT I d b a r (λg e=>⟨_,H,e,h⟩) c)
def zes:TGs:=λb a H Q=>b=[]/\Q a H
def Zc(t:TG)(u:TGs):TGs:=λc b H Q=>∃v r,c=v::r/\t v b H λa d=>u r a d Q
theorem VI:PGs X [] zes:=by
 intro d s a H b c Q I r h;obtain⟨e,h⟩:=h;subst e;cases r;exact assignInOrder_nil ⟨a,H,I,h⟩
theorem vA{e:aB}{a:List aB}{t:TG}{u:TGs}(k:PG X e t)(j:PGs X a u) (i:(assignEach (e::a) X.env).map (·.2)=assign e X.env::(assignEach a X.env).map (·.2):=by rfl):PGs X (e::a) (Zc t u):=by
 intro c s d H o q Q I r h;obtain⟨v,p,l,h⟩:=h;subst l;cases r with
 |cons r rr =>
  rw[i];refine assignInOrder_cons (aZ (k c s d H _ _ _ I r h) ?_);rintro _ f ⟨b,n,m,g⟩;exact j c f b n _ _ Q m rr g
def zet(K:bA)(n:Nat)(t:TGs):TG:=λv c H Q=>∃a b,v=.ref a/\tI K H a b/\b.length=n/\t b c H Q
theorem Q6{c:List aB}{k:Nat}{t:TGs}{n:Nat}(z:X.calm=ak)(h:PGs X c t) (x:(assignEach c X.env).length=n:=by rfl) (f:(assignEach c X.env).findIdx? (·.1)=am:=by rfl):PG X (.Tuple c k pos) (zet X.K n t):=by
 intro j s g H v u Q I r d;obtain⟨a,l,C,w,y,d⟩:=d;subst C;cases r;obtain⟨m,i,q,G⟩:=I.tuple w;refine assign_Tuple_tuple (I.ok.hd z) q (by simp[x,<-y,i.length]) f λA p=>?_;have E:aP X j g H { s with heap:=A }:=I.kept (t':=s.toks) λb o e=>p b o (bR (bI e)) e;exact h j _ g H l _ Q E (by simpa using i) d
def zS(b:TE)(g:TG):TS:=λd a H=>b a H λx c=>g x a c d.nx
theorem YR{a:TE}(m:X.N.Nodup)(j:X.N[i]?=U x)(f:Loc X.env.scope x)(l:PE X e a)(g:swapsWith e (U (.Name x pos')) pos.line X.env=pure aq:=by rfl)(k:X.fn x=ak\/X.env.scope.names.lookup x=U .local:=by first|exact .inl rfl|exact .inr rfl|assumption) :
  PS X (.Assign [.Name x pos'] e pos) (zS a (zv i)):=by
 intro n s b H u I h;refine wpAny_Assign_Name (aZ (l n s b H _ I h) ?_) g;rintro v t ⟨y,q,p,c,d⟩;exact VT p m j f c (λr o=>⟨_,q,o,d⟩) k
end
section
variable {X:Cx}{pos:Pos}
def Q7(c:TT)(i:TS):TS:=λe a H=>∃W:Nat->St->D->Prop,(∃m,W m a H)/\∀m a H,W m a H ->
 c a H λb g=>if b=ak then ∃N:St->D->Prop,(∀d h,N d h->∃f,f<m/\W f d h)/\i { e with nx:=N,ct:=N,bk:=e.nx } a g else e.nx a g
theorem VY{t:TS}(u:PassesOwn (Bg X.prog X.w) X.A X.env X.xe)(T:PT X c tc)(hb:PSs X body t):PS X (.While c body [] pos) (Q7 tc t):=by
 intro q s C H Bq I h;obtain⟨W,⟨Q,G⟩,g⟩:=h;refine wpAny_While (codeAny_whileLoop (λn O=>∃e A,aP X q e A O/\W n e A) ?_ Q ⟨C,H,I,G⟩);rintro n M ⟨d,z,I1,E⟩;refine fM u (aZ (T q M d z _ I1 (g n d z E)) ?_);rintro b J ⟨y,x,k⟩;cases b with
 |true =>
  obtain⟨N,w,k⟩:=k;rw[au rfl];refine fM u (aZ (hb q J d y _ x k) λf s3 j=>?_);cases f with
  |next =>
   obtain⟨a,i,r,m⟩:=j;obtain⟨o,p,l⟩:=w a i m;exact⟨o,p,a,i,r,l⟩
  |cont =>
   obtain⟨a,i,r,m⟩:=j;obtain⟨o,p,l⟩:=w a i m;exact⟨o,p,a,i,r,l⟩
  |brk=>exact j
  |ret v=>exact j
 |false =>
  rw[ao bK];exact gq ⟨d,y,x,k⟩
end
set_option genSizeOf false in
set_option genInjectivity false in
structure It where
 go:Nat->D->Prop
 yld:Nat->D->V->D->Prop
 stop:Nat->D->Prop
def qY(X:Cx)(a:List (L×Obj))(H:D)(b:L):Prop :=
 H b=am/\b≠X.env.locals/\b ∉ X.fs/\(b∈X.ex\/X.s₀.heap.objs.size<=b)/\(∀x c,X.env.cells.lookup x=U c->c≠b)/\∀p∈X.pn++a,p.1≠b
theorem aP.fpOk{aa:List (L×Obj)}{σ:St}{H d:D}{s:ah}{b:L}(I:aP X aa σ H s)(a:s.heap.objs.size<=b)(g:d b=am):qY X aa d b:=by
 refine⟨g,fA (bV I.lt a),I.nofs a,.inr (bM I.sz a),λx c e z=>?_,λp f z=>?_⟩
 .obtain⟨v,q⟩:=I.cell x c e;exact absurd (bV q.lt (by rw[z];exact a)) (fR _)
 .exact absurd (bV (bI (I.pin p f).1) (by rw[z];exact a)) (fR _)
structure zbf(P:av)(w:ay)(K:bA)(tg:aB)(J:It)(fp:List L)(it:L)(tn:Nat->ax->Prop):Prop where
 mem:it∈fp
 obj:∀i h,tn i h->∀b∈fp,∃o,h.get? b=U o/\∀v,o.data≠.cell v
 keep:∀i h h',tn i h->(∀b∈fp,∀o,h.get? b=U o->h'.get? b=U o)->tn i h'
 item:∀(X:Cx),X.prog=P->X.w=w->X.K=K->X.calm=ak->∀(i:Nat) (aa:List (L×Obj)) (s:ah) (σ:St) (H:D) (E:af->ah->Prop),aP X aa σ H s->(∀b∈fp,qY X aa H b)->tn i s.heap->J.go i H ->
  Bf (Bg P w) X.A (pyNext (.ref it)) (λr s1=>∃u,r=U u /\
   Bf (Bg P w) X.A (letOwnedTupleGo tg (.ref it) u) (λ_ s2=>∃x H',aP X aa σ H' s2/\aU x u/\J.yld i H x H'/\tn (i+1) s2.heap/\∀b∈fp,H' b=am) E s1) E s
 done:∀(X:Cx),X.prog=P->X.w=w->X.K=K->X.calm=ak->∀(i:Nat) (aa:List (L×Obj)) (s:ah) (σ:St) (H:D) (E:af->ah->Prop),aP X aa σ H s->(∀b∈fp,qY X aa H b)->tn i s.heap->J.stop i H ->
  Bf (Bg P w) X.A (pyNext (.ref it)) (λr s1=>r=am/\aP X aa σ H s1) E s
 self:∀(A:aw) (i:Nat) (s:ah) (Q:af->ah->Prop) (E:af->ah->Prop),tn i s.heap->Q (.ref it) s->Bf (Bg P w) A (pyIter (.ref it)) Q E s
abbrev TI:=St->D->(It->D->Prop)->Prop
def PIE(X:Cx)(h:List (L×Obj))(i:St)(j:aB)(R:It->D->Prop)(a:af)(e:ah):Prop :=
 ∃(f:L) (g:List L) (d:Nat->ax->Prop) (J:It) (c:D),a=.ref f/\aP X h i c e/\zbf X.prog X.w X.K j J g f d/\d 0 e.heap/\(∀b∈g,qY X h c b)/\R J c
def PI(X:Cx)(e a:aB)(d:TI):Prop :=
 ∀(c:List (L×Obj)) (s:ah) (b:St) (H:D) (R:It->D->Prop),aP X c b H s->d b H R ->
  Bf (Bg X.prog X.w) X.A (eval a X.env) (λv f=>Bf (Bg X.prog X.w) X.A (pyIter v) (PIE X c b e R) X.xe f) X.xe s
theorem zbg{E:af->ah->Prop}{Q:Unit->ah->Prop}(b:s.heap.get? it=U o)(e:o.cls=.type n)(d:o.data=.fields vs) (c:["enumerate","zip","dict_itemiterator","dict_reverseitemiterator","odict_iterator","itertools.zip_longest","itertools.pairwise"].contains n=aq) (a:Q PUnit.unit s):Bf M A (letOwnedTupleGo tg (.ref it) u) Q E s:=by
 unfold letOwnedTupleGo;cases tg <;> first
  |exact bg a
  | (cases u <;> first
      |exact bg a
      | (refine ba (oS b ?_)
         rw[e,d];show Bf M A (if (["enumerate","zip","dict_itemiterator","dict_reverseitemiterator","odict_iterator","itertools.zip_longest","itertools.pairwise"].contains n&&vs[0]?==U (rawInt _))=ak then _ else _) Q E s;rw[ao (by intro h;rw[c,Bool.false_and] at h;cases h)];exact bg a))
def Itl(K:bA)(a:L):It :=
 ⟨λi H=>∃b x,aT K H a b/\b[i]?=U x,λi H x c=>c=H/\∀b,aT K H a b->b[i]?=U x,λi H=>∃b,aT K H a b/\b.length<=i⟩
def Itt(K:bA)(a:L):It :=
 ⟨λi H=>∃b x,tI K H a b/\b[i]?=U x,λi H x c=>c=H/\∀b,tI K H a b->b[i]?=U x,λi H=>∃b,tI K H a b/\b.length<=i⟩
def Itr(lo:Int)(n:Nat):It:=⟨λi _=>i<n,λi H x a=>a=H/\x=.int (lo+i),λi _=>n<=i⟩
theorem zeu{P:av}{w:ay}{K:bA}{tg:aB}(a it:L):zbf P w K tg (Itl K a) [it] it (λi h=>h.IsListIter it a i) where
 mem:=by simp
 obj:=λi h f b g=>by
  have e:b=it:=by simpa using g
  subst e;obtain⟨o,e,c,d⟩:=f;exact⟨o,e,λv z=>by rw[d] at z;cases z⟩
 keep:=λi h n f k=>f.at λo e=>k it (by simp) o e
 item:=by
  intro X C y G hc i aa s T H E I m f A;subst C y G;obtain⟨xs,x,l,t⟩:=A;obtain⟨r,q,p,hz⟩:=I.list l;obtain⟨u,hu,ru⟩:=q.get t;obtain⟨Q,O,f2,N,M,J⟩:=m it (by simp);refine n9 f p.isList (x:=u) (by simpa using hu) λn j sb=>?_;have I1:aP X aa T H { s with heap:=n }:=I.turned (t':=s.toks) (λb o g e=>(sb.2 b g).trans e) Q O N M J;obtain⟨o,e,c,d⟩:=id j;exact⟨u,Z,zbg (s:={ s with heap:=n }) e c d () ⟨x,H,I1,ru,⟨rfl,λys hy=>by rw[I.list_inj hy l];exact t⟩,j,λb g=>(m b g).1⟩⟩
 done:=by
  intro X C y G hc i aa s T H E I m f A;subst C y G;obtain⟨xs,l,t⟩:=A;obtain⟨r,q,p,hz⟩:=I.list l;obtain⟨Q,O,f2,N,M,J⟩:=m it (by simp);have hl:=q.length;exact oA (I.ok.hd hc) f p.isList (by simp;lia) λn eb=>⟨Z,I.turned (t':=s.toks) (λb o g e=>eb b o g e) Q O N M J⟩
 self:=λ_ _ _ _ _ f h=>wpAny_pyIter_listiter f h
theorem zcE{P:av}{w:ay}{K:bA}{tg:aB}(a it:L):zbf P w K tg (Itt K a) [it] it (λi h=>h.IsTupleIter it a i) where
 mem:=by simp
 obj:=λi h f b j=>by
  have e:b=it:=by simpa using j
  subst e;obtain⟨o,e,c,d⟩:=f;exact⟨o,e,λv z=>by rw[d] at z;cases z⟩
 keep:=λi h q f k=>f.at λo e=>k it (by simp) o e
 item:=by
  intro X C y G hc i aa s T H E I n f A;subst C y G;obtain⟨xs,x,m,t⟩:=A;obtain⟨g,r,p,hz⟩:=I.tuple m;obtain⟨u,hu,ru⟩:=r.get t;obtain⟨Q,O,f2,N,M,J⟩:=n it (by simp);refine wpAny_pyNext_tuple_item f (show s.heap.IsTuple a g.toArray from p) (x:=u) (by simpa using hu) λq l sb=>?_;have I1:aP X aa T H { s with heap:=q }:=I.turned (t':=s.toks) (λb o j e=>(sb.2 b j).trans e) Q O N M J;obtain⟨o,e,c,d⟩:=id l;exact⟨u,Z,zbg (s:={ s with heap:=q }) e c d () ⟨x,H,I1,ru,⟨rfl,λys hy=>by rw[I.tuple_inj hy m];exact t⟩,l,λb j=>(n b j).1⟩⟩
 done:=by
  intro X C y G hc i aa s T H E I n f A;subst C y G;obtain⟨xs,m,t⟩:=A;obtain⟨g,r,p,hz⟩:=I.tuple m;obtain⟨Q,O,f2,N,M,J⟩:=n it (by simp);have hl:=r.length;exact wpAny_pyNext_tuple_end (I.ok.hd hc) f (show s.heap.IsTuple a g.toArray from p) (by simp;lia) λq eb=>⟨Z,I.turned (t':=s.toks) (λb o j e=>eb b o j e) Q O N M J⟩
 self:=λ_ _ _ _ _ f h=>wpAny_pyIter_tupleiter f h
theorem zcF{P:av}{w:ay}{K:bA}{N:aB}(it:L)(lo:Int)(n:Nat):zbf P w K N (Itr lo n) [it] it (λi h=>IsRangeIter h it (lo+(i:Nat)*1) ((n:Int)-(i:Nat)) 1) where
 mem:=by simp
 obj:=λi h a b c=>by
  have e:b=it:=by simpa using c
  subst e;exact⟨_,a,λv z=>by
   have M:Data.fields _=Data.cell v:=z;cases M⟩
 keep:=λi h g a k=>k it (by simp) _ a
 item:=by
  intro X p j q m i J s C H E I f a l;subst p j q;obtain⟨A,y,T,x,u,r⟩:=f it (by simp);have W:=Walks.range (prog:=X.prog) (w:=X.w) (I.ok.hd m) it lo 1 n;refine W.item i s _ _ l a λv g G Q d O=>?_;obtain⟨t,rfl⟩:=Q;have I1:aP X J C H { s with heap:=g,toks:=G }:=I.turned (λb o c e=>O b o (by simpa using c) e) A y x u r;refine⟨_,Z,zbg (s:={ s with heap:=g,toks:=G }) (n:="range_iterator") d rfl rfl () ⟨.int (lo+i),H,I1,⟨t,?_⟩,⟨rfl,rfl⟩,d,λb c=>(f b c).1⟩⟩;rw[Int.mul_one]
 done:=by
  intro X p j q m i J s C H E I f a l;subst p j q;obtain⟨A,y,T,x,u,r⟩:=f it (by simp);exact wpAny_pyNext_range_end (I.ok.hd m) a (by have:n<=i:=l;lia) λg eb=>⟨Z,I.turned (t':=s.toks) (λb o c e=>eb b o c e) A y x u r⟩
 self:=λ_ _ _ _ _ a h=>wpAny_pyIter_rangeiter a h
section
variable {X:Cx}{tg:aB}
def wF(K:bA)(e:TE):TI:=λc H R=>e c H λx b=>∃a,x=.ref a/\(∃d,aT K b a d)/\R (Itl K a) b
def zkd(K:bA)(e:TE):TI:=λc H R=>e c H λx b=>∃a,x=.ref a/\(∃d,tI K b a d)/\R (Itt K a) b
theorem xm{f:TE}(n:PE X l f):PI X tg l (wF X.K f):=by
 intro t s g H R I h;refine aZ (n t s g H _ I h) ?_;rintro v c ⟨x,u,d,i,j⟩;obtain⟨a,e,⟨w,m⟩,q⟩:=j;subst e;cases i;obtain⟨k,y,p,z⟩:=d.list m;refine wpAny_pyIter_list p.isList ?_;refine⟨c.heap.objs.size,[c.heap.objs.size],_,_,u,Z,d.kept (t':=c.toks) λb o e=>bc _ e,zeu a _,⟨_,bC _ Z,Z,Z⟩,λb r=>?_,q⟩;have e:b=c.heap.objs.size:=by simpa using r
 subst e;exact d.fpOk (bo _) (d.hok.fresh (bo _))
theorem zji{g:TE}(n:PE X l g):PI X tg l (zkd X.K g):=by
 intro t s i H R I h;refine aZ (n t s i H _ I h) ?_;rintro v c ⟨x,u,d,j,k⟩;obtain⟨a,e,⟨w,m⟩,q⟩:=k;subst e;cases j;obtain⟨f,y,p,z⟩:=d.tuple m;refine mq (show c.heap.IsTuple a f.toArray from p) ?_;refine⟨c.heap.objs.size,[c.heap.objs.size],_,_,u,Z,d.kept (t':=c.toks) λb o e=>bc _ e,zcE a _,⟨_,bC _ Z,Z,Z⟩,λb r=>?_,q⟩;have e:b=c.heap.objs.size:=by simpa using r
 subst e;exact d.fpOk (bo _) (d.hok.fresh (bo _))
theorem zfr{c:St}{H:D}{s:ah}{R:It->D->Prop}{E:af->ah->Prop}{lo a:Int}{t u v:Tok}{d:Nat}(I:aP X aa c H s)(k:-(2^62)<=lo)(j:lo<2^62)(i:-(2^62)<=a)(h:a<2^62) (q:R (Itr lo (a-lo).toNat) H):Bf (Bg X.prog X.w) X.A (pyIter (.ref s.heap.objs.size)) (PIE X aa c tg R) E { s with heap:=s.heap.push { cls:=.type "range",data:=.fields #[.int lo t,.int a u,.int 1 v] },toks:=d }:=by
 refine wpAny_pyIter_range (IsRange.new ..) (small_one k j i h) ?_;have f:aP X aa c H { s with heap:=s.heap.push { cls:=.type "range",data:=.fields #[.int lo t,.int a u,.int 1 v] },toks:=d }:=I.kept λb o e=>bc _ e;refine⟨(s.heap.push { cls:=.type "range",data:=.fields #[.int lo t,.int a u,.int 1 v] }).objs.size,[(s.heap.push { cls:=.type "range",data:=.fields #[.int lo t,.int a u,.int 1 v] }).objs.size],_,_,H,Z,
  f.kept (t':=d) λb o e=>bc _ e,zcF _ lo (a-lo).toNat,?_,λb g=>?_,q⟩
 .have m:lo+((0:Nat):Int)*1=lo:=by simp
  have l:(((a-lo).toNat:Nat):Int)-((0:Nat):Int)=Builtin.Range.rangeSize lo a 1:=by rw[rangeSize_one];split <;> lia
  show IsRangeIter _ _ (lo+((0:Nat):Int)*1) ((((a-lo).toNat:Nat):Int)-((0:Nat):Int)) 1;rw[m,l];exact bC _ rfl
 .have e:b=(s.heap.push { cls:=.type "range",data:=.fields #[.int lo t,.int a u,.int 1 v] }).objs.size:=by simpa using g
  subst e;exact f.fpOk (bo _) (f.hok.fresh (bo _))
def WJ(c:TA):TI:=λa H R=>c a H λb d=>∃j:Int,b=[.int j]/\-(2^62)<=j/\j<2^62/\R (Itr 0 j.toNat) d
theorem ji{c:TA}(l:Gl X "range")(k:X.mg "range"=am)(m:PA X [a] c)(i:Be [a] X.env=[(aq,eval a X.env)]:=by rfl):PI X tg (.Call (.Name "range" p) [a] [] pos) (WJ c):=by
 intro n s d H R I h;refine Call_ (VU I l k boot_range (gu (aZ (m pos n s d H _ I h) ?_) i Z));rintro v w ⟨u,x,o,f,b⟩;obtain⟨j,e,b,g,q⟩:=b;subst e;cases f with
 |cons r rr =>
  cases rr;obtain⟨t,rfl⟩:=r;exact call_range_1 (zfr o () () b g (by simpa using q))
def qZ(h:TI)(g:TG)(j:TS):TS:=λe a H=>h a H λJ l=>∃W:Nat->Nat->St->D->Prop,(∃m,W 0 m a l)/\∀i m a H,W i m a H ->
 (J.stop i H/\e.nx a H)\/(J.go i H/\∃N:St->D->Prop,(∀b c,N b c->∃f,f<m/\W (i+1) f b c)/\∀x c,J.yld i H x c->g x a c λd k=>j { e with nx:=N,ct:=N,bk:=e.nx } d k)
def VZ(a:List L)(h:ax):List (L×Obj):=a.filterMap λb=>(h.get? b).map λo=>(b,o)
theorem qe(a:b∈fp)(e:h.get? b=U o):(b,o)∈VZ fp h:=ir.mpr ⟨b,a,by rw[e];rfl⟩
theorem zev(a:p∈VZ fp h):p.1∈fp/\h.get? p.1=U p.2:=by
 obtain⟨b,c,e⟩:=List.mem_filterMap.mp a;cases q:h.get? b with
 |none=>rw[q] at e;cases e
 |some o =>
  rw[q] at e;have d:(b,o)=p:=bH e;subst d;exact⟨c,q⟩
theorem aP.pinned{σ:St}{H:D}{s:ah}{a:List L}(I:aP X aa σ H s)(k:∀b∈a,qY X aa H b)(j:∀b∈a,∃o,s.heap.get? b=U o/\∀v,o.data≠.cell v):aP X (aa++VZ a s.heap) σ H s:=
 I.pins_of λp h=>(bu.mp h).elim (λz=>I.pin p (bP _ z)) λz=>by
  obtain⟨f,e⟩:=zev z;obtain⟨q,n,l,_⟩:=k p.1 f;obtain⟨o,g,d⟩:=j p.1 f;rw[e] at g;cases g;exact⟨e,q,n,l,d⟩
theorem aP.unpinned{σ:St}{H:D}{s:ah}(I:aP X (aa++pl) σ H s):aP X aa σ H s:=I.pins_of λp a=>I.pin p (bP _ (cI _ a))
theorem wa{wi:TI}{g:TG}{tb:TS}(G:PassesOwn (Bg X.prog X.w) X.A X.env X.xe)(hc:X.calm=ak)(hi:PI X tg iter wi)(hg:PG X tg g)(l:PSs X body tb) (hs:∀x,foldedSetIterable iter X.env x=pure x:=by intro _;rfl):PS X (.For tg iter body [] pos) (qZ wi g tb):=by
 intro z s σ H Bq I h;refine wpAny_For (aZ (hi z s σ H _ I h) λv s1 h1=>aZ h1 λal s2 h2=>?_) hs;obtain⟨it,O,tn,J,H2,e,I2,T,ag,f2,W,⟨m0,w0⟩,A⟩:=h2;subst e
 -- what stays ak of the iterator's objects through the loop
 have k:∀ {H':D},(∀b∈O,H' b=am)->∀b∈O,qY X z H' b:=λhn b l=>⟨hn b l,(f2 b l).2⟩;refine codeAny_forLoop_any (λn s'=>∃i j H',aP X z j H' s'/\tn i s'.heap/\(∀b∈O,H' b=am)/\W i n j H') ?_ m0 ⟨0,σ,H2,I2,ag,λb l=>(f2 b l).1,w0⟩;rintro n s3 ⟨i,c,Q,I3,C,M,w3⟩;rcases A i n c Q w3 with ⟨stop,qn⟩|⟨go,N,hN,step⟩
 .refine fM G (aZ (T.done X Z Z Z hc i z s3 c Q X.xe I3 (k M) C stop) ?_);rintro r s4 ⟨hr,I4⟩;subst hr;exact gq ⟨c,Q,I4,qn⟩
 .refine fM G (aZ (T.item X Z Z Z hc i z s3 c Q X.xe I3 (k M) C go) ?_);rintro r s4 ⟨u,hr,h4⟩;subst hr;refine fM G (aZ h4 ?_);rintro _ s5 ⟨x,H5,I5,r5,y5,y,ai⟩;have aj:=I5.pinned (k ai) (T.obj _ _ y);refine fM G (aZ (hg _ s5 c H5 x u _ aj r5 (step x H5 y5)) ?_);rintro _ s6 ⟨ae,H6,I6,q6⟩;refine fM G (aZ (l _ s6 ae H6 _ I6 q6) λf s7 w=>?_);have p:∀ {a:St} {t:D},aP X (z++VZ O s5.heap) a t s7->N a t->∃m,m<n/\∃i j H',aP X z j H' s7/\tn i s7.heap/\(∀b∈O,H' b=am)/\W i m j H':=λ{a t} q E=>by
   obtain⟨m',hm,w7⟩:=hN a t E;refine⟨m',hm,i+1,a,t,q.unpinned,T.keep _ _ _ y λb l o e=>(q.pin (b,o) (bP _ (bP _ (qe l e)))).1,λb l=>?_,w7⟩;obtain⟨o,e,d⟩:=T.obj _ _ y b l;exact(q.pin (b,o) (bP _ (bP _ (qe l e)))).2.1
  cases f with
  |next=>obtain⟨a,t,q,E⟩:=w;exact p q E
  |cont=>obtain⟨a,t,q,E⟩:=w;exact p q E
  |brk=>obtain⟨a,t,q,w⟩:=w;exact⟨a,t,q.unpinned,w⟩
  |ret v=>obtain⟨x7,a,t,q,r7,w⟩:=w;exact⟨x7,a,t,q.unpinned,r7,w⟩
end
abbrev R2:=V->V->D->VK->Prop
def ud(X:Cx)(f:af->af->Sem af)(r:R2):Prop :=
 ∀(b:List (L×Obj)) (s:ah) (a:St) (H:D) (x y:V) (v u:af) (Q:VK),aP X b a H s->aU x v->aU y u->r x y H Q ->
  Bf (Bg X.prog X.w) X.A (f v u) (EP X b a Q) X.xe s
def UnR(X:Cx)(f:af->Sem af)(r:V->D->VK->Prop):Prop :=
 ∀(b:List (L×Obj)) (s:ah) (a:St) (H:D) (x:V) (v:af) (Q:VK),aP X b a H s->aU x v->r x H Q ->
  Bf (Bg X.prog X.w) X.A (f v) (EP X b a Q) X.xe s
def jK(X:Cx)(f:af)(r:List V->D->VK->Prop):Prop :=
 ∀(d:List (L×Obj)) (s:ah) (a:St) (H:D) (b:List V) (c:List af) (Q:VK),aP X d a H s->aR b c->r b H Q ->
  Bf (Bg X.prog X.w) X.A (call f c) (EP X d a Q) X.xe s
def aN(r:R2)(c b:TE):TE:=λa H Q=>c a H λx e=>b a e λy d=>r x y d Q
def tUn(r:V->D->VK->Prop)(b:TE):TE:=λa H Q=>b a H λx c=>r x c Q
def rI(C:Int->Int->Prop)(g:Int->Int->V):R2:=λx y H Q=>∃i j,x=.int i/\y=.int j/\C i j/\Q (g i j) H
def rI0(g:Int->Int->V):R2:=λx y H Q=>∃i j,x=.int i/\y=.int j/\Q (g i j) H
def rU(g:Int->V):V->D->VK->Prop:=λx H Q=>∃i,x=.int i/\Q (g i) H
section
variable {X:Cx}{a b c:aB}{ta tb tc:TE}{pos:Pos}
theorem zjj(t:PE X a ta)(r:PE X b tb){s:ah}{d:St}{H:D}{R:V->V->D->Prop}(I:aP X aa d H s) (h:ta d H λx k=>tb d k λy e=>R x y e) {Q:af->ah->Prop} {f:af->af->Sem af}
  (q:∀v u j x y e,aP X aa d e j->aU x v->aU y u->R x y e->Bf (Bg X.prog X.w) X.A (f v u) Q X.xe j) :
  Bf (Bg X.prog X.w) X.A (eval a X.env) (λv i=>Bf (Bg X.prog X.w) X.A (eval b X.env) (λu g=>Bf (Bg X.prog X.w) X.A (f v u) Q X.xe g) X.xe i) X.xe s:=by
 refine aZ (t aa s d H _ I h) ?_;rintro v l ⟨x,k,z,n,p⟩;refine aZ (r aa l d k _ z p) ?_;rintro u j ⟨y,e,w,m,o⟩;exact q v u j x y e w n m o
theorem zp{r:R2}(i:ud X (binaryOp op) r)(k:PE X a ta)(j:PE X b tb):PE X (.BinOp a op b pos) (aN r ta tb):=by
 intro l s d H Q I h;exact wpAny_BinOp (zjj k j I h λv u e x y n m g f q=>i l e d n x y v u Q m g f q)
theorem ziN{r:V->D->VK->Prop}(j:UnR X (unaryOp op) r)(k:PE X a ta):PE X (.UnaryOp op a pos) (tUn r ta):=by
 intro e s d H Q I h;exact UnaryOp_ (aZ (k e s d H _ I h) λv f ⟨x,m,l,g,i⟩=>j e f d m x v Q l g i)
theorem opI{f:af->af->Sem af}{C:Int->Int->Prop}{g:Int->Int->Int}
  (rule:∀(i j:Int) (t u:Tok) (s:ah) (Q:af->ah->Prop) (E:af->ah->Prop),C i j->Q (.int (g i j) s.toks) { s with toks:=s.toks+1 }->Bf (Bg X.prog X.w) X.A (f (.int i t) (.int j u)) Q E s) :
  ud X f (rI C λi j=>.int (g i j)):=by
 intro n s m H x y v u Q I k e h;obtain⟨i,j,rfl,rfl,l,q⟩:=h;obtain⟨t,rfl⟩:=k;obtain⟨d,rfl⟩:=e;exact rule i j t d s _ _ l ⟨.int (g i j),H,I.tok _,⟨_,Z⟩,q⟩
theorem zke{f:af->af->Sem af}{g:Int->Int->Int}
  (rule:∀(i j:Int) (t u:Tok) (s:ah) (Q:af->ah->Prop) (E:af->ah->Prop),Q (.int (g i j) s.toks) { s with toks:=s.toks+1 }->Bf (Bg X.prog X.w) X.A (f (.int i t) (.int j u)) Q E s) :
  ud X f (rI0 λi j=>.int (g i j)):=by
 intro m s l H x y v u Q I k e h;obtain⟨i,j,rfl,rfl,q⟩:=h;obtain⟨t,rfl⟩:=k;obtain⟨d,rfl⟩:=e;exact rule i j t d s _ _ ⟨.int (g i j),H,I.tok _,⟨_,Z⟩,q⟩
theorem zjk{f:af->af->Sem af}{g:Int->Int->Bool}
  (rule:∀(i j:Int) (t u:Tok) (s:ah) (Q:af->ah->Prop) (E:af->ah->Prop),Q (.bool (g i j)) s->Bf (Bg X.prog X.w) X.A (f (.int i t) (.int j u)) Q E s) :
  ud X f (rI0 λi j=>.bl (g i j)):=by
 intro m s l H x y v u Q I k e h;obtain⟨i,j,rfl,rfl,q⟩:=h;obtain⟨t,rfl⟩:=k;obtain⟨d,rfl⟩:=e;exact rule i j t d s _ _ ⟨.bl (g i j),H,I,Z,q⟩
def Q8(i j:Int):Prop:=0<=j/\j<=1000000/\i.natAbs<2^64
theorem yf:ud X (binaryOp .Add) (rI0 λi j=>.int (i+j)):=zke λ_ _ _ _ _ _ _ q=>add_int q
theorem vc:ud X (binaryOp .Sub) (rI0 λi j=>.int (i-j)):=zke λ_ _ _ _ _ _ _ q=>sub_int q
theorem zT:ud X (binaryOp .Mod) (rI (λ_ j=>0<j) λi j=>.int (i%j)):=opI λi j _ _ _ _ _ d q=>by
 have e:(0:Int)<j:=d;exact mod_int' () (by rw[Int.fmod_eq_emod_of_nonneg i ()];exact q)
theorem zhH:ud X (binaryOp .Mod) (rI (λ_ j=>j≠0) λi j=>.int (i.fmod j)):=opI λ_ _ _ _ _ _ _ d q=>mod_int' d q
theorem YS:ud X (binaryOp .Pow) (rI Q8 λi j=>.int (i^j.toNat)):=opI λ_ _ _ _ _ _ _ d q=>pow_int_small d.1 d.2.1 d.2.2 q
theorem unI{f:af->Sem af}{g:Int->Int}
  (rule:∀(i:Int) (t:Tok) (s:ah) (Q:af->ah->Prop) (E:af->ah->Prop),Q (.int (g i) s.toks) { s with toks:=s.toks+1 }->Bf (Bg X.prog X.w) X.A (f (.int i t)) Q E s) :
  UnR X f (rU λi=>.int (g i)):=by
 intro j s e H x v Q I d h;obtain⟨i,rfl,q⟩:=h;obtain⟨t,rfl⟩:=d;exact rule i t s _ _ ⟨.int (g i),H,I.tok _,⟨_,Z⟩,q⟩
theorem zfs:UnR X (unaryOp .USub) (rU λi=>.int (-i)):=unI λ_ _ _ _ _ q=>neg_int q
end
def zkf:V->V->Bool
 |.non,.non=>ak|.non,.int _=>ak|.int _,.non=>ak|.non,.bl _=>ak|.bl _,.non=>ak|.non,.str _=>ak|.str _,.non=>ak
 |.int _,.int _=>ak|.bl _,.bl _=>ak|.str _,.str _=>ak|.byt _,.byt _=>ak
 |.int _,.str _=>ak|.str _,.int _=>ak|.bl _,.str _=>ak|.str _,.bl _=>ak
 |_,_=>aq
def tX:R2:=λx y H Q=>zkf x y=ak/\Q (.bl (decide (x=y))) H
def rNe:R2:=λx y H Q=>zkf x y=ak/\Q (.bl (!decide (x=y))) H
theorem zdy{i j:Int}:decide (V.int i=V.int j)=(i==j):=by
 rw[e9];simp
theorem zft :decide (V.bl i=V.bl j)=(i==j):=by
 rw[e9];simp
theorem zdz :decide (V.str i=V.str j)=(i==j):=by
 rw[e9];simp
theorem zdA :decide (V.byt i=V.byt j)=(i.toList==j.toList):=by
 rw[e9];cases i;cases j;simp
section
variable {X:Cx}{a b c:aB}{ta tb tc:TE}{pos:Pos}
theorem yo{d:St}{H:D}{s:ah}{Q:VK}{k f:Bool}(I:aP X aa d H s)(q:Q (.bl k) H)(e:k=f):EP X aa d Q (.bool f) s:=by
 subst e;exact⟨.bl k,H,I,Z,q⟩
theorem yt:ud X (Bi .Eq) tX:=by
 intro l s k H x y v u Q I g d h;obtain⟨f,q⟩:=h;cases x with
 |non =>
  cases g;cases y with
  |non=>cases d;exact PySem.EqNone.eq_none_none (yo I q (by simp))
  |bl j=>cases d;exact PySem.EqNone.eq_none_bool (yo I q (by simp))
  |int j=>obtain⟨e,rfl⟩:=d;exact PySem.EqNone.eq_none_int (yo I q (by simp))
  |str j=>obtain⟨e,rfl⟩:=d;exact PySem.EqNone.eq_none_str (yo I q (by simp))
  |_=>exact absurd (show aq=ak from f) bK
 |bl i =>
  cases g;cases y with
  |non=>cases d;exact PySem.EqNone.eq_bool_none (yo I q (by simp))
  |bl j=>cases d;exact eq_bool (yo I q zft)
  |str j=>obtain⟨e,rfl⟩:=d;exact PySem.EqMixed.eq_bool_str (yo I q (by simp))
  |_=>exact absurd (show aq=ak from f) bK
 |int i =>
  obtain⟨t,rfl⟩:=g;cases y with
  |non=>cases d;exact PySem.EqNone.eq_int_none (yo I q (by simp))
  |int j=>obtain⟨e,rfl⟩:=d;exact eq_int (yo I q zdy)
  |str j=>obtain⟨e,rfl⟩:=d;exact PySem.EqMixed.eq_int_str (yo I q (by simp))
  |_=>exact absurd (show aq=ak from f) bK
 |str i =>
  obtain⟨t,rfl⟩:=g;cases y with
  |non=>cases d;exact PySem.EqNone.eq_str_none (yo I q (by simp))
  |bl j=>cases d;exact PySem.EqMixed.eq_str_bool (yo I q (by simp))
  |int j=>obtain⟨e,rfl⟩:=d;exact PySem.EqMixed.eq_str_int (yo I q (by simp))
  |str j=>obtain⟨e,rfl⟩:=d;exact eq_str (yo I q zdz)
  |_=>exact absurd (show aq=ak from f) bK
 |byt i =>
  obtain⟨t,rfl⟩:=g;cases y with
  |byt j=>obtain⟨e,rfl⟩:=d;exact W.eq_bytes (yo I q zdA)
  |_=>exact absurd (show aq=ak from f) bK
 |_=>cases y <;> exact absurd (show aq=ak from f) bK
theorem WK:ud X (Bi .NotEq) rNe:=by
 intro l s k H x y v u Q I g d h;obtain⟨f,q⟩:=h;cases x with
 |non =>
  cases g;cases y with
  |non=>cases d;exact PySem.EqNone.ne_none_none (yo I q (by simp))
  |bl j=>cases d;exact PySem.EqNone.ne_none_bool (yo I q (by simp))
  |int j=>obtain⟨e,rfl⟩:=d;exact PySem.EqNone.ne_none_int (yo I q (by simp))
  |str j=>obtain⟨e,rfl⟩:=d;exact PySem.EqNone.ne_none_str (yo I q (by simp))
  |_=>exact absurd (show aq=ak from f) bK
 |bl i =>
  cases g;cases y with
  |non=>cases d;exact PySem.EqNone.ne_bool_none (yo I q (by simp))
  |bl j=>cases d;exact ne_bool (yo I q (congrArg not zft))
  |str j=>obtain⟨e,rfl⟩:=d;exact PySem.EqMixed.ne_bool_str (yo I q (by simp))
  |_=>exact absurd (show aq=ak from f) bK
 |int i =>
  obtain⟨t,rfl⟩:=g;cases y with
  |non=>cases d;exact PySem.EqNone.ne_int_none (yo I q (by simp))
  |int j=>obtain⟨e,rfl⟩:=d;exact ne_int (yo I q (congrArg not zdy))
  |str j=>obtain⟨e,rfl⟩:=d;exact PySem.EqMixed.ne_int_str (yo I q (by simp))
  |_=>exact absurd (show aq=ak from f) bK
 |str i =>
  obtain⟨t,rfl⟩:=g;cases y with
  |non=>cases d;exact PySem.EqNone.ne_str_none (yo I q (by simp))
  |bl j=>cases d;exact PySem.EqMixed.ne_str_bool (yo I q (by simp))
  |int j=>obtain⟨e,rfl⟩:=d;exact PySem.EqMixed.ne_str_int (yo I q (by simp))
  |str j=>obtain⟨e,rfl⟩:=d;exact ne_str (yo I q (congrArg not zdz))
  |_=>exact absurd (show aq=ak from f) bK
 |byt i =>
  obtain⟨t,rfl⟩:=g;cases y with
  |byt j=>obtain⟨e,rfl⟩:=d;exact W.ne_bytes (yo I q (congrArg not zdA))
  |_=>exact absurd (show aq=ak from f) bK
 |_=>cases y <;> exact absurd (show aq=ak from f) bK
theorem vB:ud X (Bi .Lt) (rI0 λi j=>.bl (decide (i<j))):=zjk λ_ _ _ _ _ _ _ q=>lt_int q
theorem zfu:ud X (Bi .LtE) (rI0 λi j=>.bl (decide (i<=j))):=zjk λ_ _ _ _ _ _ _ q=>le_int q
theorem ziO:ud X (Bi .GtE) (rI0 λi j=>.bl (decide (j<=i))):=zjk λ_ _ _ _ _ _ _ q=>ge_int q
theorem Q9:ud X (Bi .Is) (λx y H Q=>y=.non/\Q (.bl (decide (x=.non))) H):=by
 intro g s f H x y v u Q I d e h;obtain⟨rfl,q⟩:=h;cases e;refine is_none_gen (yo I q ?_);cases x <;> first
  |(cases d;rfl)
  |(obtain⟨t,rfl⟩:=d;rfl)
theorem VJ:ud X (Bi .IsNot) (λx y H Q=>y=.non/\Q (.bl (!decide (x=.non))) H):=by
 intro g s f H x y v u Q I d e h;obtain⟨rfl,q⟩:=h;cases e;refine isnot_none_gen (yo I q ?_);cases x <;> first
  |(cases d;rfl)
  |(obtain⟨t,rfl⟩:=d;rfl)
theorem zD(b:aB)(h:op≠.In:=by lia)(d:op≠.NotIn:=by lia):behindInMarks op b=aq:=by
 have f:(op==CmpOp.In)=aq:=by cases op <;> first|rfl|exact absurd Z h
 have e:(op==CmpOp.NotIn)=aq:=by cases op <;> first|rfl|exact absurd Z d
 cases b <;> simp[behindInMarks,f,e]
theorem VL{r:R2}(i:ud X (Bi op) r)(l:PE X a ta)(k:PE X b tb)(j:behindInMarks op b=aq):PE X (.Compare a [op] [b] pos) (aN r ta tb):=by
 intro m s d H Q I h;exact wpAny_Compare1 (zjj l k I h λv u e x y o n g f q=>i m e d o x y v u Q n g f q) j
def zG(t:TE):TT:=λd H Q=>t d H λx e=>∃k,x=.bl k/\Q k e
theorem zu{r:R2}(q:ud X (Bi op) r)(A:PE X a ta)(w:PE X b tb)(t:behindInMarks op b=aq):PT X (.Compare a [op] [b] pos) (zG (aN r ta tb)):=by
 intro f s d H Q I h;refine wpAny_isTrue_Compare1 (aZ (A f s d H _ I h) λv i ⟨x,N,G,m,p⟩=>aZ (w f i d N _ G p) λu g ⟨y,M,E,l,o⟩ =>
  aZ (q f g d M x y v u _ E m l o) λc O ⟨z,J,C,j,k,e,n⟩=>?_) t
 subst e;cases j;exact eI ⟨J,C,n⟩
def zaa(r g:R2)(ta tb tc:TE):TE:=λd H Q=>ta d H λx j=>tb d j λy i=>r x y i λz e=>∃k,z=.bl k /\
 (if k=ak then tc d e λf h=>g y f h Q else Q (.bl aq) e)
theorem zfv{r l:R2}(T:ud X (Bi op) r)(i:ud X (Bi op') l)(ha:PE X a ta)(hb:PE X b tb)(hc:PE X c tc) (hm:lastMarks [op,op'] [b,c]=aq:=by with_unfolding_all rfl):PE X (.Compare a [op,op'] [b,c] pos) (zaa r l ta tb tc):=by
 intro g s f H Q I h;refine Compare_chain (aZ (ha g s f H _ I h) λv C ⟨x,H1,I1,J,O⟩=>chain_link (aZ (hb g C f H1 _ I1 O) λu A ⟨y,H2,I2,j,N⟩ =>
  aZ (T g A f H2 x y v u _ I2 J j N) λd w ⟨z,o,n,G,k,e,m⟩=>?_)) hm
 subst e;cases G;refine eI ?_;cases k with
 |false=>exact ite_ff ⟨.bl aq,o,n,Z,m⟩
 |true=>exact ite_tt (chain_last (aZ (hc g w f o _ n m) λq t ⟨p,H4,I4,E,M⟩=>i g t f H4 y p u q Q I4 j E M))
theorem zfw{r l:R2}(ho:ud X (Bi op) r)(i:ud X (Bi op') l)(ha:PE X a ta)(hb:PE X b tb)(hc:PE X c tc) (hm:lastMarks [op,op'] [b,c]=aq:=by with_unfolding_all rfl):PT X (.Compare a [op,op'] [b,c] pos) (zG (zaa r l ta tb tc)):=by
 intro g s f H Q I h;refine isTrue_chain (aZ (ha g s f H _ I h) λv C ⟨x,H1,I1,M,q1⟩=>test_link (aZ (hb g C f H1 _ I1 q1) λu A ⟨y,H2,I2,j,T⟩ =>
  aZ (ho g A f H2 x y v u _ I2 M j T) λd w ⟨z,o,n,J,k,e,m⟩=>?_)) hm
 subst e;cases J;refine eI ?_;cases k with
 |false =>
  obtain⟨k',e',q'⟩:=m;cases e';exact ite_ff ⟨o,n,q'⟩
 |true =>
  refine ite_tt (test_last (aZ (hc g w f o _ n m) λq t ⟨p,H4,I4,G,O⟩=>aZ (i g t f H4 y p u q _ I4 j G O) ?_));rintro d' s5 ⟨z2,H5,I5,E,k2,e2,N⟩;subst e2;cases E;exact eI ⟨H5,I5,N⟩
theorem zab:(Bb:Nat)<2^63:=by rw[bL];decide
theorem ve:ud X (binaryOp .Add) (λx y H Q=>∃i j,x=.str i/\y=.str j/\i.length+j.length<=Bb/\Q (.str (i++j)) H):=by
 intro m s k H x y v u Q I f e h;obtain⟨i,j,rfl,rfl,g,q⟩:=h;obtain⟨t,rfl⟩:=f;obtain⟨d,rfl⟩:=e;exact add_str (λd l=>⟨.str (i++j),H,I.tok _,⟨_,Z⟩,q⟩) g
theorem kI(r:aR [x] us):∃u,us=[u]/\aU x u:=by
 cases r with
 |cons r1 r2=>cases r2;exact⟨_,Z,r1⟩
theorem ziP(r:aR [x,y] us):∃u w',us=[u,w']/\aU x u/\aU y w':=by
 cases r with
 |cons r1 r2 =>
  cases r2 with
  |cons r3 r4=>cases r4;exact⟨_,_,Z,r1,r3⟩
def zjl(K:bA)(x:V)(H:D)(n:Nat):Prop :=
 match x with
 |.str y=>y.length<=Bb/\n=y.length
 |.byt y=>y.size<=Bb/\n=y.size
 |.ref p=>(∃d,aT K H p d/\n=d.length)\/∃d,tI K H p d/\n=d.length
 |_=>False
theorem zX:jK X (.builtin "len") (λd H Q=>∃x n,d=[x]/\zjl X.K x H n/\Q (.int n) H):=by
 intro C s v H d w Q I r h;obtain⟨x,n,rfl,e,q⟩:=h;obtain⟨u,rfl,i⟩:=kI r;have A:=zab;have z:Bb=16777216:=bL;cases x with
 |str y =>
  obtain⟨t,rfl⟩:=i;obtain⟨o,g⟩:y.length<=Bb/\n=y.length:=e;subst g;exact len_str () ⟨.int _,H,I.tok _,⟨_,Z⟩,q⟩
 |byt y =>
  obtain⟨t,rfl⟩:=i;obtain⟨o,g⟩:y.size<=Bb/\n=y.size:=e;subst g;exact W.len_bytes () ⟨.int _,H,I.tok _,⟨_,Z⟩,q⟩
 |ref p =>
  cases i;have g:(∃d,aT X.K H p d/\n=d.length)\/∃d,tI X.K H p d/\n=d.length:=e;rcases g with ⟨d,hx,g⟩|⟨d,hx,g⟩
  .subst g;obtain⟨l,j,k,m⟩:=I.list hx;have f:=j.length;exact Calls.call_len_list k.isList (by simp only[bG];lia) ⟨.int d.length,H,I.tok _,⟨_,by simp only[bG];rw[f]⟩,q⟩
  .subst g;obtain⟨l,j,k,m⟩:=I.tuple hx;have f:=j.length;exact len_tuple k (by simp only[bG];lia) ⟨.int d.length,H,I.tok _,⟨_,by simp only[bG];rw[f]⟩,q⟩
 |_=>exact(show False from e).elim
end
structure ObjM(h:ax)(x dx C:L)(mA:Str->Option af):Prop where
 obj:h.get? x=U (f8 C dx)
 ns:h.Ns1 dx mA
 ne:dx≠x
theorem zew{h:ax}{f:Str->Option af}(n:h.Ns1 dx f):∃d,h.get? dx=U d/\∀b,sR b d=U (f b):=by
 obtain⟨o,g,r,j,m,l,_,k⟩:=n;refine⟨o,j,λb=>?_⟩;have e:=k b;unfold nsFind findBy at e;rw[<-Array.find?_toList] at e;unfold sR;rw[m];dsimp only;split
 .rename_i y q;rw[q] at e;exact congrArg U e
 .rename_i q;rw[q] at e;have a:g.toList.any (·.refKey)=aq:=by
   rw[List.any_eq_false];intro y i;obtain⟨z,t,c⟩:=l y (Array.mem_toList_iff.mp i);simp[DictEntry.refKey,c]
  have p:¬ g.toList.any (·.refKey)=ak:=by rw[a];exact bK
  rw[ao p];exact congrArg U e
theorem ObjM.look{mA:Str->Option af}(I:ObjM h x dx C mA):∃b,W.InstAt h x (f8 C dx) C (U b)/\∀a,sR a b=U (mA a):=
 let ⟨b,ho,hl⟩:=zew I.ns
 ⟨b,⟨I.obj,Z,Z,ho⟩,hl⟩
section
variable {prog:av}{w:ay}{A:aw}{E:af->ah->Prop}{s:ah}{K:bA}{x dx C f:L}{mA:Str->Option af}{name:Str}{v:af}
theorem zhI{Q:af->ah->Prop}(X:K.In s.heap)(I:ObjM s.heap x dx C mA)(e:ro K C name=ak)(d:sC K C=ak) (g:fB K (.ref C) name=U am) (b:mA name=U v) (a:W.handedIn v=ak) (h:Q v { s with toks:=s.toks+1 }) :
  Bf (Bg prog w) A (getAttr (.ref x) name expr) Q E s:=by
 obtain⟨i,J,c⟩:=I.look;exact W.get_value X J (pT e).1 (W.findObj_own d g Z (by rw[c,b])) a h
theorem zfx{b:Sem Bool}{Q:af×List af->ah->Prop}(X:K.In s.heap)(I:ObjM s.heap x dx C mA)(a:ro K C name=ak) (i:fB K (.ref C) name=U (U (.ref f))) (e:W.isFn K (.ref f)=ak) (d:mA name=am) (h:Q (.ref f,[.ref x]) s) :
  Bf (Bg prog w) A (getMethod (.ref x) name b) Q E s:=by
 obtain⟨c,J,g⟩:=I.look;exact W.method_fn X J (pT a).1 (pT a).2 i (beq_iff_eq.mp e) (by show (sR name c).map (·.isSome)=U aq;rw[g,d];rfl) h
theorem zhJ{Q:Unit->ah->Prop}(X:K.In s.heap)(I:ObjM s.heap x dx C mA) (o:fB K (.ref C) "__setattr__"=U (U (.builtin "object.__setattr__"))) (p:W.plainOver K C=ak) (m:W.takerIn K C name=U am) (q:sC K C=ak) (l:rK mA ns) (n:ns.length<=Bb) (h:∀e,ObjM e x dx C (λy=>if y=name then U v else mA y)->cN dx s.heap e->Q PUnit.unit { s with heap:=e,toks:=s.toks+2 }) :
  Bf (Bg prog w) A (setAttr (.ref x) name v) Q E s:=by
 obtain⟨G,J,M⟩:=I.look;refine W.set_plain X J o (W.osa_open (s:={ s with toks:=s.toks+1 }) (r:=am) X J p m λb=>?_);obtain⟨N,t,i⟩:=W.any_some q;have k:s.heap.get? x=U ⟨.ref C,U dx,.plain,#[]⟩:=I.obj;refine ba (bg (ba (ba (wpAny_loadPart k (ba (W.Looks.here (s:={ s with toks:=s.toks+1 }) (W.looks_clsIn X t) ?_))))));rw[i];refine bg (a:=U dx) (ba (bg (ba ?_)));refine wpAny_nsSet1 (s:={ s with toks:=s.toks+1 }) I.ns λe d c=>?_;obtain⟨H,u,z,g,hdD,j⟩:=d.count (PySem.Within.cons name v l);refine ba (wpAny_lookBehind g (by rw[hdD];exact pastItsLine_dict (bM j (by rw[bU];lia))) ?_);exact bg (h _ ⟨(c.2 _ (fq I.ne)).trans I.obj,d,I.ne⟩ c)
theorem zfy{R:aD->ah->Prop}(X:K.In s.heap)(b:sD K C=ak) (c:fB K (.ref C) "__init__"=U (U (.ref f))) (e:W.typeIn K (.ref f)=U (.type "function")) (h:codeAny (Bg prog w) (A.under (.builtin "type.__call__" ⟨.ref C::vs,kw⟩)) (.call (.ref f) ⟨.ref (s.heap.objs.size+1)::vs,kw⟩) (W.InitBack (s.heap.objs.size+1) R)
   { s with heap:=(s.heap.push eJ).push (f8 C s.heap.objs.size) }) :
  codeAny (Bg prog w) A (.call (.ref C) ⟨vs,kw⟩) R s:=by
 obtain⟨j,g,d,t,i⟩:=s;exact W.make_core (W.makes_of X b) (W.looks_findIn X c) (λa=>W.bind_fn X a e) (.inl Z) h
theorem zex{R:aD->ah->Prop}(X:K.In s.heap)(b:sD K C=ak) (c:fB K (.ref C) "__init__"=U (U (.builtin "object.__init__"))) (e:∀a,W.Looks (Bg prog w) s.heap (bindSpecial (.builtin "object.__init__") a) (.builtin "object.__init__",[a])) (h:codeAny (Bg prog w) (A.under (.builtin "type.__call__" ⟨[.ref C],[]⟩)) (.call (.builtin "object.__init__") ⟨[.ref (s.heap.objs.size+1)],[]⟩) (W.InitBack (s.heap.objs.size+1) R)
   { s with heap:=(s.heap.push eJ).push (f8 C s.heap.objs.size) }) :
  codeAny (Bg prog w) A (.call (.ref C) ⟨[],[]⟩) R s:=by
 obtain⟨j,g,d,t,i⟩:=s;exact W.make_core (W.makes_of X b) (W.looks_findIn X c) e (.inr ⟨Z,Z⟩) h
end
def wX(f:Str)(v:V):List (Str×V)->List (Str×V)
 |[]=>[(f,v)]
 |(g,x)::r=>if g=f then (g,v)::r else (g,x)::wX f v r
theorem WL(f g:Str)(v:V):∀b:List (Str×V),(wX f v b).lookup g=if g=f then U v else b.lookup g
 |[]=>by
  show cU g [(f,v)]=_;by_cases h:g=f
  .have a:(g==f)=ak:=beq_iff_eq.mpr h;simp only[cU,a,au h]
  .have a:(g==f)=aq:=beq_eq_false_iff_ne.mpr h;simp only[cU,a,ao h]
 |(k,x)::r=>by
  have c:=WL f g v r;rw[show wX f v ((k,x)::r)=(if k=f then (k,v)::r else (k,x)::wX f v r) from rfl];by_cases hk:k=f
  .rw[au hk];by_cases h:g=k
   .have a:(g==k)=ak:=beq_iff_eq.mpr h;simp only[cU,a,au (h.trans hk)]
   .have a:(g==k)=aq:=beq_eq_false_iff_ne.mpr h;simp only[cU,a,ao (λe:g=f=>h (e.trans hk.symm))]
  .rw[ao hk];by_cases h:g=k
   .have a:(g==k)=ak:=beq_iff_eq.mpr h;simp only[cU,a,ao (λe:g=f=>hk (h.symm.trans e))]
   .have a:(g==k)=aq:=beq_eq_false_iff_ne.mpr h;simp only[cU,a];exact c
theorem Wh(f:Str)(v:V):∀a:List (Str×V),f∈(wX f v a).map (·.1)/\∀g,g∈a.map (·.1)->g∈(wX f v a).map (·.1)
 |[]=>⟨by simp[wX],λg h=>by simp at h⟩
 |(k,x)::r=>by
  obtain⟨c,b⟩:=Wh f v r;rw[show wX f v ((k,x)::r)=(if k=f then (k,v)::r else (k,x)::wX f v r) from rfl];by_cases hk:k=f
  .rw[au hk];subst hk;exact⟨by simp,λg h=>by simpa using h⟩
  .rw[ao hk];refine⟨?_,λg h=>?_⟩
   .rw[bh];exact bp _ c
   .rw[bh] at h ⊢;rcases bw.mp h with e|e
    .exact bw.mpr (.inl e)
    .exact bp _ (b g e)
theorem WM(f:Str)(v:V):∀a:List (Str×V),(wX f v a).length<=a.length+1
 |[]=>by simp[wX]
 |(k,x)::r=>by
  have b:=WM f v r;rw[show wX f v ((k,x)::r)=(if k=f then (k,v)::r else (k,x)::wX f v r) from rfl];by_cases hk:k=f
  .rw[au hk,bU,bU];lia
  .rw[ao hk,bU,bU];lia
theorem tY.some_of(r:tY (U v) o):∃u,o=U u/\aU v u:=by
 cases o with
 |none=>exact(show False from r).elim
 |some u=>exact⟨u,Z,r⟩
theorem tY.none_of(r:tY am o):o=am:=by
 cases o with
 |none=>rfl
 |some u=>exact(show False from r).elim
theorem zey(r:aU v u):W.handedIn u=ak:=by
 cases v with
 |non=>cases (show u=cM from r);rfl
 |bl b=>cases (show u=iM b from r);rfl
 |int i=>obtain⟨t,e⟩:=(show ∃t,u=f7 i t from r);cases e;rfl
 |str x=>obtain⟨t,e⟩:=(show ∃t,u=iq x t from r);cases e;rfl
 |byt b=>obtain⟨t,e⟩:=(show ∃t,u=Value.bytes b t from r);cases e;rfl
 |flt b=>obtain⟨t,e⟩:=(show ∃t,u=sw b t from r);cases e;rfl
 |ref a=>cases (show u=bO a from r);rfl
 |ty n=>cases (show u=mQ n from r);rfl
section
variable {P:av}{w:ay}{H H':D}{h h':ax}{a C dx:L}{fs fs':List (Str×V)}
theorem VM(c:uk P w H h)(e:H a=U (.ins C dx fs)):∃b,ObjM h a dx C b/\(∀f,tY (fs.lookup f) (b f))/\rK b (fs.map (·.1))/\fs.length<=1000/\H dx=U (.own a):=by
 obtain⟨d,z,i,g,b,n,r,q⟩:=(show aV P w H h a (.ins C dx fs) from c a _ e);exact⟨b,⟨g,n,i⟩,r,q,z,d⟩
end
structure ua(K:bA)(C:L):Prop where
 pg:ro K C oB=ak
 hd:sC K C=ak
 po:W.plainOver K C=ak
 sa:fB K (.ref C) "__setattr__"=U (U (.builtin "object.__setattr__"))
theorem ua.get{K:bA}(c:ua K C)(f:Str):ro K C f=ak:=c.pg
def aQ(K:bA)(C:L)(f:Str):Prop:=fB K (.ref C) f=U am
theorem aQ.taker{K:bA}{C:L}(n:aQ K C f):W.takerIn K C f=U am:=by
 unfold W.takerIn;rw[show fB K (.ref C) f=U am from n];rfl
structure zac(K:bA)(C:L)(m:Str)(f:L):Prop where
 at_:fB K (.ref C) m=U (U (.ref f))
 fn:W.isFn K (.ref f)=ak
 kp:nA K (.ref f)=ak
section
variable {X:Cx}{aa:List (L×Obj)}{σ:St}{H:D}{s:ah}{a C dx:L}{fs:List (Str×V)}{f:Str}{v:V}{A:aw}{E:af->ah->Prop}
theorem V0{Q:af->ah->Prop}(I:aP X aa σ H s)(e:H a=U (.ins C dx fs))(c:ua X.K C)(n:aQ X.K C f)(l:fs.lookup f=U v) (h:∀u d,aP X aa σ H d->aU v u->Q u d):Bf (Bg X.prog X.w) A (getAttr (.ref a) f b) Q E s:=by
 obtain⟨i,O,r,_,_,_⟩:=VM I.hok e;obtain⟨u,j,g⟩:=tY.some_of (v:=v) (o:=i f) (by rw[<-l];exact r f);exact zhI I.kIn O (c.get f) c.hd n j (zey g) (h u _ (I.tok _) g)
theorem qf{b:Sem Bool}{Q:af×List af->ah->Prop}(I:aP X aa σ H s)(e:H a=U (.ins C dx fs))(c:ua X.K C)(k:zac X.K C m g)(l:fs.lookup m=am) (h:Q (.ref g,[.ref a]) s):Bf (Bg X.prog X.w) A (getMethod (.ref a) m b) Q E s:=by
 obtain⟨d,O,r,_,_,_⟩:=VM I.hok e;have i:d m=am:=tY.none_of (by rw[<-l];exact r m);exact zfx I.kIn O (c.get m) k.at_ k.fn i h
theorem YT{Q:Unit->ah->Prop}(I:aP X aa σ H s)(e:H a=U (.ins C dx fs))(c:ua X.K C)(n:aQ X.K C f)(N:fs.length<1000)(p:aU y u) (h:∀j,aP X aa σ (upd H a (.ins C dx (wX f y fs))) j->Q PUnit.unit j):Bf (Bg X.prog X.w) A (setAttr (.ref a) f u) Q E s:=by
 obtain⟨k,O,r,i,_,l⟩:=VM I.hok e;have t:(fs.map (·.1)).length<=Bb:=by rw[bd,bL];lia
 refine zhJ I.kIn O c.sa c.po n.taker c.hd i t λM d m=>h _ ?_;have G:∃o,M.get? dx=U o:=let ⟨o,_,_,e',_⟩:=d.ns;⟨o,e'⟩
 refine I.write (x:=a) (e:=dx) (by rw[e];exact eR) (.inr l) (λb q J z=>(m.2 b J).trans z) G ?_;refine⟨by rw[zm O.ne];exact l,?_,O.ne,d.obj,_,d.ns,λg=>?_,λg w=>?_⟩
 .have:=WM f y fs;lia
 .show tY ((wX f y fs).lookup g) (if g=f then U u else k g);rw[WL];by_cases q:g=f
  .rw[au q,au q];exact p
  .rw[ao q,ao q];exact r g
 .by_cases q:g=f
  .rw[q];exact(Wh f y fs).1
  .refine(Wh f y fs).2 g (i g λz=>w ?_);show (if g=f then U u else k g)=am;rw[ao q];exact z
theorem aP.made(I:aP X aa σ H s):aP X aa σ (upd (upd H s.heap.objs.size (.own (s.heap.objs.size+1))) (s.heap.objs.size+1) (.ins C s.heap.objs.size []))
  { s with heap:=(s.heap.push eJ).push (f8 C s.heap.objs.size) }:=by
 have g:(s.heap.push eJ).get? s.heap.objs.size=U eJ:=bC s.heap rfl;have l:((s.heap.push eJ).push (f8 C s.heap.objs.size)).get? (s.heap.objs.size+1)=U (f8 C s.heap.objs.size):=by
  have:=bC (s.heap.push eJ) (o:=f8 C s.heap.objs.size) rfl
  rwa [eV] at this
 have k:(s.heap.push eJ).Ns s.heap.objs.size (λ_=>am):=⟨eJ,#[],_,g,Z,(λe j=>absurd j (by simp)),λ_=>rfl⟩;have n:=I.laid (a:=s.heap.objs.size) (o:=.own (s.heap.objs.size+1)) (h':=s.heap.push eJ) (t':=s.toks) (λb u q=>bc _ q) (bo _) ⟨_,g⟩;refine n.laid (a:=s.heap.objs.size+1) (o:=.ins C s.heap.objs.size []) (t':=s.toks) (λb u q=>bc _ q) (mz (eV _ _)) ?_;have d:s.heap.objs.size≠s.heap.objs.size+1:=bR (nU _);refine⟨by rw[zm d,zj],bS _,d,l,λ_=>am,(Heap.Ns1.of_empty k).at λo q=>bc _ q,λ_=>eR,λy h=>absurd Z h⟩
theorem zhK{Q:af->ah->Prop}(c:attributeBase e f env (eval e env)=eval e env) (h:Bf (Bg prog w) A (eval e env) (λo b=>Bf (Bg prog w) A (getAttr o f ak) Q E b) E s):Bf (Bg prog w) A (eval (.Attribute e f pos) env) Q E s:=
 Attribute_any_ h (by rw[arm_eval_Attribute,c])
end
def zU(K:bA)(e:TE)(f:Str):TE:=λd H Q=>e d H λx c=>∃a C g b v,x=.ref a/\c a=U (.ins C g b)/\ua K C/\aQ K C f/\b.lookup f=U v/\Q v c
def wb(K:bA)(h g:TE)(f:Str):TS:=λj b H=>g b H λy i=>h b i λx e=>∃a C d c,x=.ref a/\e a=U (.ins C d c)/\ua K C/\aQ K C f/\c.length<1000 /\
 j.nx b (upd e a (.ins C d (wX f y c)))
def zkg(X:Cx)(d:Operator)(c:V->V->D->VK->Prop):Prop :=
 ∀(b:List (L×Obj)) (s:ah) (a:St) (H:D) (x y:V) (u v:af) (Q:VK),aP X b a H s->aU x u->aU y v->c x y H Q->Bf (Bg X.prog X.w) X.A (inplaceOp d u v) (EP X b a Q) X.xe s
def zdB(K:bA)(j i:TE)(k:V->V->D->VK->Prop)(f:Str):TS:=λn d H=>j d H λx h=>∃a C l e v,x=.ref a/\h a=U (.ins C l e)/\ua K C/\aQ K C f/\e.lookup f=U v /\
 i d h λy m=>k v y m λz g=>∃c b,g a=U (.ins C c b)/\b.length<1000/\n.nx d (upd g a (.ins C c (wX f z b)))
section
variable {X:Cx}{o e value:aB}{f:Str}{pos pos' tpos:Pos}{ta tv:TE}
theorem zx(i:PE X e ta)(j:attributeBase e f X.env (eval e X.env)=eval e X.env):PE X (.Attribute e f pos) (zU X.K ta f):=by
 intro p s b H Q I h;refine zhK j (aZ (i p s b H _ I h) ?_);rintro u A ⟨x,w,t,d,a,C,G,E,v,k,m,c,n,l,q⟩;subst k;obtain rfl:u=bO a:=d;exact V0 t m c n l λy z r g=>⟨v,w,r,g,q⟩
theorem yw(t:PE X o ta)(p:PE X value tv)(r:swapsWith value (U (.Attribute o f pos')) pos.line X.env=pure aq):PS X (.Assign [.Attribute o f pos'] value pos) (wb X.K ta tv f):=by
 intro d s b H T I h;refine iN (aZ (p d s b H _ I h) λu g ⟨y,G,E,i,q⟩=>aZ (t d g b G _ E q) ?_) r;rintro m M ⟨x,Q,A,j,a,C,O,N,v,w,c,n,l,k⟩;subst v;obtain rfl:m=bO a:=j;exact YT A w c n l i λJ z=>⟨b,_,z,k⟩
theorem zez{j:V->V->D->VK->Prop}(O:PE X o ta)(N:PE X value tv)(d:zkg X op j):PS X (.AugAssign (.Attribute o f tpos) op value pos) (zdB X.K ta tv j f):=by
 intro i s b H Bq I h;refine wpAny_AugAssign_AttributeAny (aZ (O i s b H _ I h) ?_);rintro J s1 ⟨x,H1,I1,w,a,C,dx,fs,v,T,ea,c,n,l,q⟩;subst T;obtain rfl:J=bO a:=w;refine V0 I1 ea c n l λu p I2 A=>aZ (N i p b H1 _ I2 q) λk m ⟨y,H2,I3,t,G⟩=>aZ (d i m b H2 v y u k _ I3 A t G) ?_;rintro w4 s4 ⟨z,H3,I4,r,ae,Q,g,M,E⟩;exact YT I4 g c n M r λs5 I5=>⟨b,_,I5,E⟩
def zkh:V->V->D->VK->Prop:=λx y H Q=>∃i j,x=.int i/\y=.int j/\Q (.int (i+j)) H
theorem zjm:zkg X .Add zkh:=by
 rintro g s d H x y u v Q I c b ⟨i,j,rfl,rfl,q⟩;obtain⟨t,rfl⟩:=(show ∃t,u=f7 i t from c);obtain⟨a,rfl⟩:=(show ∃a,v=f7 j a from b);exact PyProof.Rows.iadd_int ⟨.int (i+j),H,I.tok _,⟨_,Z⟩,q⟩
end
section
variable {X:Cx}{aa:List (L×Obj)}{σ:St}{H:D}{s:ah}{A:aw}{E:af->ah->Prop}{Q:af->ah->Prop}{c:af}{b:Bool}
inductive YU (K:bA) (H:D):V->af->Prop where
 |non:YU K H .non (.type "NoneType")
 |bl (x:Bool):YU K H (.bl x) (.type "bool")
 |int (i:Int):YU K H (.int i) (.type "int")
 |str (x:Str):YU K H (.str x) (.type "str")
 |flt (x:UInt64):YU K H (.flt x) (.type "float")
 |lst {a:L} {xs:List V} (e:H a=U (.lst xs)):YU K H (.ref a) (.type "list")
 |frz {a:L} {o:Obj} {xs:List V} (e:H a=U (.frz o (.lst xs))):YU K H (.ref a) (.type "list")
 |tup {a:L} {xs:List V} (e:H a=U (.tup xs)):YU K H (.ref a) (.type "tuple")
 |dK {a:L} {aJ:List (aW×V)} (e:H a=U (.dK aJ)):YU K H (.ref a) (.type "dict")
 |dT {a:L} {aJ:List (List aW×V)} (e:H a=U (.dT aJ)):YU K H (.ref a) (.type "dict")
 |ins {a C dx:L} {fs:List (Str×V)} (e:H a=U (.ins C dx fs)) (cl:ua K C) (ha:fB K (.ref C) "__class__"=U (U (.builtin "object.__class__"))) (hn:sE K (.builtin "object.__class__") "__get__"=U (U (.builtin "getset_descriptor.__get__"))) (htk:W.takesIn K (.builtin "object.__class__")=U ak) (hm:sS K C (.type "object")=U ak):YU K H (.ref a) (.ref C)
theorem zeA(I:aP X aa σ H s)(d:aU x u)(k:YU X.K H x t)(e:fS X.K t c=U b)(h:∀l,Q (.bool b) { s with toks:=l }) :
  Bf (Bg X.prog X.w) A (call (.builtin "isinstance") [u,c]) Q E s:=by
 cases k with
 |non=>cases (show u=cM from d);exact gR W.kitx_none I.kIn eR e () h
 |bl y=>cases (show u=iM y from d);exact gR W.kitx_bool I.kIn eR e () h
 |int i=>obtain⟨t,q⟩:=(show ∃t,u=f7 i t from d);cases q;exact gR W.kitx_int I.kIn eR e () h
 |str y=>obtain⟨t,q⟩:=(show ∃t,u=iq y t from d);cases q;exact gR W.kitx_str I.kIn eR e () h
 |flt y=>obtain⟨t,q⟩:=(show ∃t,u=sw y t from d);cases q;exact gR W.kitx_float I.kIn eR e () h
 |@lst a g ea =>
  cases (show u=bO a from d);obtain⟨_,_,n,_,f⟩:=(show aV X.prog X.w H s.heap a (.lst g) from I.hok a _ ea);exact gR W.kitx_list I.kIn ⟨_,f,Z⟩ e () h
 |@frz a ob g ea =>
  cases (show u=bO a from d);obtain⟨_,_,_,n,_,f⟩:=(show aV X.prog X.w H s.heap a (.frz ob (.lst g)) from I.hok a _ ea);exact gR W.kitx_list I.kIn ⟨_,f,Z⟩ e () h
 |@tup a g ea =>
  cases (show u=bO a from d);obtain⟨_,_,_,p⟩:=(show aV X.prog X.w H s.heap a (.tup g) from I.hok a _ ea);obtain⟨o,f,j,_⟩:=p;exact gR W.kitx_tuple I.kIn ⟨o,f,j⟩ e () h
 |@dK a aJ ea =>
  cases (show u=bO a from d);obtain⟨_,_,v,_,p⟩:=(show aV X.prog X.w H s.heap a (.dK aJ) from I.hok a _ ea);obtain⟨o,m,r,f,j,_⟩:=p;exact gR W.kitx_dict I.kIn ⟨o,f,j.1⟩ e () h
 |@dT a aJ ea =>
  cases (show u=bO a from d);obtain⟨_,_,g,_,o,m,r,f,j,_⟩:=(show aV X.prog X.w H s.heap a (.dT aJ) from I.hok a _ ea);exact gR W.kitx_dict I.kIn ⟨o,f,j.1⟩ e () h
 |@ins a C dx fs ea cl ha hn htk hm =>
  cases (show u=bO a from d);obtain⟨z,O,_⟩:=VM I.hok ea;obtain⟨w,J,_⟩:=O.look;exact gR (W.kitx_own (cl.get _) cl.hd ha hn htk hm) I.kIn J e () h
end
structure tD(k:Nat)(A:aw):Prop where
 hd:A.handled=am
 dp:A.depth+3*k+5<recursionLimit
 un:A.units+16*k+200<cLine
theorem tD.mono(r:tD k A)(h:j<=k):tD j A:=⟨r.hd,by have:=r.dp;lia,by have:=r.un;lia⟩
theorem tD.deeper(r:tD (k+1) A)(a:Env):tD k (A.deeper a):=
 ⟨r.hd,by have:=r.dp;show A.depth+1+3*k+5<_;lia,by have:=r.un;show A.units+3+16*k+200<_;lia⟩
theorem zcG{A:aw}{C:L}{a:List af} :(A.under (.builtin "type.__call__" ⟨.ref C::a,kw⟩)).depth=A.depth+1:=by
 first|rfl|simp[rL,Code.weight,Code.isCreation,Code.isGuard,Code.isCaller,Code.frames,rM,guardIds]
theorem zcH{A:aw}{C:L}{a:List af} :(A.under (.builtin "type.__call__" ⟨.ref C::a,kw⟩)).units=A.units+1:=by
 first|rfl|simp[rL,Code.cUnits,Code.frames,rM]
theorem tD.make(r:tD (k+1) A)(C:L)(a:List af)(b:List (Str×af)):tD k (A.under (.builtin "type.__call__" ⟨.ref C::a,b⟩)):=
 ⟨r.hd,by have:=r.dp;rw[zcG];lia,by have:=r.un;rw[zcH];lia⟩
theorem tD.depth(r:tD k A):A.depth<recursionLimit:=by have:=r.dp;lia
theorem tD.units(r:tD k A):A.units+64<cLine:=by have:=r.un;lia
def zk:TA:=λ_ H Q=>Q [] H
def zd(d:TE)(c:TA):TA:=λa H Q=>d a H λx f=>c a f λb e=>Q (x::b) e
section
variable {X:Cx}{e:aB}{es:List aB}{te:TE}{t:TA}{pos:Pos}
theorem zf:PA X [] zk:=λ_ _ _ _ H Q I h=>eX ⟨[],H,I,.nil,h⟩
theorem za(m:PE X e te)(l:PA X es t)(k:Be (e::es) X.env=(aq,eval e X.env)::Be es X.env:=by rfl):PA X (e::es) (zd te t):=by
 intro pos b s a H Q I h;rw[k];show Bf _ _ (spliced ((aq,eval e X.env)::backTo pos (Be es X.env))) _ _ s;refine cZ (aZ (m b s a H _ I h) ?_);rintro u d ⟨x,q,o,g,j⟩;exact aZ (l pos b d a q _ o j) λr v ⟨c,p,n,f,i⟩=>⟨x::c,p,n,.cons g f,i⟩
def xi(t:TA):TE:=λc H Q=>t c H λa b=>a.length<=Bb/\∀p,b p=am->Q (.ref p) (upd b p (.tup a))
def vC(t:TA):TE:=λc H Q=>t c H λa b=>a.length<=Bb/\∀p,b p=am->Q (.ref p) (upd b p (.lst a))
theorem yc{x1}(h:PA X es t):PE X (.Tuple es x1 pos) (xi t):=by
 intro l s f H Q I j;refine wpAny_Tuple_spliced (aZ (h pos l s f H _ I j) λi a ⟨g,d,c,r,z,q⟩=>⟨by rw[<-r.length];exact z,?_⟩);have k:d a.heap.objs.size=am:=c.hok.fresh (bo _);refine⟨.ref a.heap.objs.size,upd d a.heap.objs.size (.tup g),c.laid (t':=a.toks) (λb u e=>bc _ e) (bo _) ?_,Z,q _ k⟩;exact⟨z,i,r,⟨_,bC _ Z,Z,_,Z⟩⟩
theorem yM(h:PA X es t):PE X (.List es pos) (vC t):=by
 intro l s f H Q I j;refine wpAny_List_spliced (aZ (h pos l s f H _ I j) λi a ⟨g,d,c,r,z,q⟩=>⟨by rw[<-r.length];exact z,?_⟩);have k:d a.heap.objs.size=am:=c.hok.fresh (bo _);refine⟨.ref a.heap.objs.size,upd d a.heap.objs.size (.lst g),c.laid (t':=a.toks) (λb u e=>bc _ e) (bo _) ?_,Z,q _ k⟩;exact⟨z,i,0,r,bC _ Z⟩
end
abbrev Sp:=List V->D->VK->XK->Prop
abbrev CXT:=List Env->D->ah->XK->af->ah->Prop
structure Env0(P:av)(w:ay)(K:bA)(mg:Str->Option af)(base:ax)(A:aw)(outer:List Env)(s:ah)(H:D):Prop where
 frames:A.frames=U outer
 mod:Mod K mg base
 bs:∀b o,base.get? b=U o->s.heap.get? b=U o/\H b=am
 bsz:base.objs.size<=s.heap.objs.size
 funs:s.heap.FunFrames base outer
 frf:∀b∈ue outer,H b=am
 hok:uk P w H s.heap
 bare:AllBare s.gens
def CE(a:List Env)(P:av)(w:ay)(H:D)(s:ah)(Q:VK)(u:af)(b:ah):Prop :=
 ∃v c,b.os=s.os/\AllBare b.gens/\Un (ue a) [] H c s.heap b.heap/\uk P w c b.heap/\aU v u/\Q v c
def CR(c:CXT)(a:List Env)(P:av)(w:ay)(H:D)(s:ah)(Q:VK)(E:XK)(r:aD)(b:ah):Prop :=
 match r with
 |.ok (.ret u)=>CE a P w H s Q u b
 |.ok _=>False
 |.error e=>c a H s E e b
structure tq(P:av)(w:ay)(K:bA)(mg:Str->Option af)(base:ax)(CX:CXT)(k:Nat)(f:L)(fd:Bc)(ps:List Str)(sp:Sp):Prop where
 len:∀vs H Q E,sp vs H Q E->vs.length=ps.length
 run:∀(A:aw) (outer:List Env) (s:ah) (H:D) (args:Args) (us:List af) (vs:List V) (Q:VK) (E:XK),tD k A->Env0 P w K mg base A outer s H->BindsTo s fd args (ps.zip us)->aR vs us->sp vs H Q E ->
  codeAny (Bg P w) A (.call (.ref f) args) (CR CX outer P w H s Q E) s
theorem tq.mono{w:ay}{K:bA}{mg:Str->Option af}{base:ax}{CX:CXT}{j k:Nat}{f:L}{fd:Bc}{ps:List Str}{sp:Sp}(F:tq P w K mg base CX j f fd ps sp)(h:j<=k) :
  tq P w K mg base CX k f fd ps sp:=⟨F.len,λA outer s H args us vs Q E a=>F.run A outer s H args us vs Q E (a.mono h)⟩
theorem Env0.make{w:ay}{K:bA}{mg:Str->Option af}{base:ax}{A:aw}{outer:List Env}{s:ah}{H:D}(e:Env0 P w K mg base A outer s H)(C:L)(a:List af)(c:List (Str×af)) :
  Env0 P w K mg base (A.under (.builtin "type.__call__" ⟨.ref C::a,c⟩)) outer s H:=⟨by first|exact e.frames|(simpa[rL,Code.envs,rM,pushEnvs] using e.frames),e.mod,e.bs,e.bsz,e.funs,e.frf,e.hok,e.bare⟩
section
variable {X:Cx}{aa:List (L×Obj)}{σ:St}{H:D}{s s':ah}
theorem aP.env0(I:aP X aa σ H s):Env0 X.prog X.w X.K X.mg X.base X.A X.stack s H :=
 ⟨I.ok.frames,I.ok.mod,I.bs,bM I.ok.bsz I.sz,I.stack,I.stkFree,I.hok,I.bare⟩
theorem aP.after{Q:VK}(I:aP X aa σ H s)(h:CE X.stack X.prog X.w H s Q u s'):EP X aa σ Q u s':=by
 obtain⟨v,f,os,bare,un,hok,r,q⟩:=h;obtain⟨e,g,d,t,a⟩:=s';obtain rfl:a=s.os:=os;exact⟨v,f,I.call (h':=e) (g':=g) (d':=d) (t':=t) (ch:=[]) un hok bare (λb z=>absurd z (by simp)),r,q⟩
end
def zO(d:Sp)(a:List V)(E:XK)(t:TA):TE:=λb H Q=>t b H λc e=>d (c++a) e Q E
def zI(C:L)(m:Str)(h:Sp)(b:List V)(E:XK)(g:TE)(t:TA):TE:=λc H Q=>g c H λx e=>∃a i d,x=.ref a/\e a=U (.ins C i d)/\d.lookup m=am /\
 t c e λf j=>h (x::(f++b)) j Q E
def Yv(C:L)(f:Sp)(b:List V)(E:XK)(t:TA):TE:=λd H Q=>t d H λe c=>∀x a,c x=am->c a=am->a≠x ->
 f (.ref x::(e++b)) (upd (upd c a (.own x)) x (.ins C a [])) (λv g=>v=.non/\Q (.ref x) g) E
def tE(K:bA)(d:Bc)(b:List Str)(c:List af):Prop :=
 ∀(s:ah) (a:List af),K.In s.heap->(a++c).length=b.length->BindsTo s d ⟨a,[]⟩ (b.zip (a++c))
theorem tE.all{K:bA}{c:Bc}(h:∀a:List af,a.length=ps.length->bindArgs c ⟨a,[]⟩=pure (ps.zip a)):tE K c ps []:=λs a _ b=>by
 rw[gy] at b ⊢;exact .of_eq (h a b)
def wz(d:CXT)(X:Cx)(E:XK):Prop:=∀(c:List (L×Obj)) (b:St) (H:D) (s:ah) (e:af) (a:ah),aP X c b H s->d X.stack H s E e a->X.xe e a
section
variable {X:Cx}{CX:CXT}{k:Nat}{f C:L}{fd:Bc}{ps:List Str}{sp:Sp}{dvs:List V}{ds:List af}{E:XK}{x m:Str}{p pos tj:Pos}{e o:aB}{es:List aB}{ta:TE}{t:TA}
theorem zad{b:St}{H:D}{s:ah}{Q:VK}{us:List af}{vs:List V}(F:tq X.prog X.w X.K X.mg X.base CX k f fd ps sp)(i:tD k X.A)(n:tE X.K fd ps ds)(l:aR dvs ds)(g:wz CX X E) (I:aP X aa b H s) (r:aR vs us) (h:sp (vs++dvs) H Q E):Bf (Bg X.prog X.w) X.A (call (.ref f) us) (EP X aa b Q) X.xe s:=by
 have c:aR (vs++dvs) (us++ds):=r.append l;have j:(us++ds).length=ps.length:=by rw[<-c.length];exact F.len _ _ _ _ h
 refine rq (gA (F.run X.A X.stack s H ⟨us,[]⟩ (us++ds) (vs++dvs) Q E i I.env0 (n s us I.kIn j) c h) λr d a=>?_);cases r with
 |error e=>exact g aa b H s e d I a
 |ok fl =>
  cases fl with
  |ret u=>exact I.after a
  |next=>exact dz a
  |brk=>exact dz a
  |cont=>exact dz a
theorem Xf(F:tq X.prog X.w X.K X.mg X.base CX k f fd ps sp)(i:tD k X.A)(n:Gl X x)(j:X.mg x=U (.ref f))(l:nA X.K (.ref f)=ak)(w:tE X.K fd ps ds)(v:aR dvs ds)(g:wz CX X E) (y:PA X (e::es) t) (b:(x==("__debug__":Str))=aq:=by lia) (u:Be (e::es) X.env=(aq,eval e X.env)::Be es X.env:=by rfl) (a:(backTo pos (Be es X.env)).any (·.1)=aq:=by rfl) :
  PE X (.Call (.Name x p) (e::es) [] pos) (zO sp dvs E t):=by
 intro z s d H Q I h;refine fC (vj I n j ?_ b);refine mC (h₀:=X.base) I.ok.mod.kin l (aZ (y pos z s d H _ I h) λG J ⟨A,M,c,r,q⟩=>⟨c.kIn,?_⟩) u a;exact zad F i w v g c r q
theorem zae{pl:Sem Bool}(N:PE X o ta)(c:ua X.K C)(j:zac X.K C m f)(F:tq X.prog X.w X.K X.mg X.base CX k f fd ps sp)(M:tD k X.A)(T:tE X.K fd ps ds)(O:aR dvs ds)(G:wz CX X E)(ha:PA X (e::es) t) (b:Be (e::es) X.env=(aq,eval e X.env)::Be es X.env:=by rfl) (d:(backTo pos (Be es X.env)).any (·.1)=aq:=by rfl) (J:eval (.Call (.Attribute o m tj) (e::es) [] pos) X.env=(do
   let i <-eval o X.env
   standAt tj.atName
   let (f,first) <-holding [i] (getMethod i m pl)
   callWith pos f first (backTo pos (Be (e::es) X.env)) (backToKw pos (keywordEach [] X.env))):=by rfl) :
  PE X (.Call (.Attribute o m tj) (e::es) [] pos) (zI C m sp dvs E ta t):=by
 intro n s g H Q I h;refine lR (pl:=pl) (aZ (N n s g H _ I h) ?_) J;rintro u y ⟨x,H1,w,z,a,dx,fs,ex,ea,l,q⟩;subst ex;obtain rfl:u=bO a:=z;refine qf w ea c j l ?_;refine mC (first:=[.ref a]) (h₀:=X.base) I.ok.mod.kin j.kp (aZ (ha pos n y g H1 _ w q) λus s2 ⟨vs,H2,v,r,A⟩=>⟨v.kIn,?_⟩) b d;exact zad (us:=.ref a::us) (vs:=.ref a::vs) F M T O G v (.cons Z r) A
theorem zbh{pl:Sem Bool}(w:PE X o ta)(c:ua X.K C)(g:zac X.K C m f)(F:tq X.prog X.w X.K X.mg X.base CX k f fd ps sp)(v:tD k X.A)(z:tE X.K fd ps ds)(y:aR dvs ds)(n:wz CX X E) (r:eval (.Call (.Attribute o m tj) [] [] pos) X.env=(do
   let d <-eval o X.env
   standAt tj.atName
   let (f,first) <-holding [d] (getMethod d m pl)
   callWith pos f first (backTo pos (Be [] X.env)) (backToKw pos (keywordEach [] X.env))):=by rfl) :
  PE X (.Call (.Attribute o m tj) [] [] pos) (zI C m sp dvs E ta zk):=by
 intro J s i H Q I h;refine lR (pl:=pl) (aZ (w J s i H _ I h) ?_) r;rintro u M ⟨x,T,b,j,a,O,N,A,G,l,q⟩;subst A;obtain rfl:u=bO a:=j;refine qf b G c g l ?_;exact pU (first:=[.ref a]) b.kIn g.kp (zad (us:=[.ref a]) (vs:=[.ref a]) F v z y n b (.cons Z .nil) q)
structure Mk(K:bA)(C f:L):Prop where
 makes:sD K C=ak
 init:fB K (.ref C) "__init__"=U (U (.ref f))
 fn:W.isFn K (.ref f)=ak
 kp:nA K (.ref C)=ak
theorem zbi{d:St}{H:D}{s:ah}{Q:VK}{us:List af}{g:List V}(M:Mk X.K C f)(F:tq X.prog X.w X.K X.mg X.base CX k f fd ps sp)(y:tD (k+1) X.A)(G:tE X.K fd ps ds)(A:aR dvs ds) (w:wz CX X E) (I:aP X aa d H s) (r:aR g us) (h:∀x b,H x=am->H b=am->b≠x->sp (.ref x::(g++dvs)) (upd (upd H b (.own x)) x (.ins C b [])) (λv O=>v=.non/\Q (.ref x) O) E) :
  Bf (Bg X.prog X.w) X.A (call (.ref C) us) (EP X aa d Q) X.xe s:=by
 have j:=h (s.heap.objs.size+1) s.heap.objs.size (I.hok.fresh (sF _)) (I.hok.fresh (bo _)) (bR (nU _));have c:=aP.made (C:=C) I;have i:aR (V.ref (s.heap.objs.size+1)::(g++dvs)) (bO (s.heap.objs.size+1)::(us++ds)):=.cons Z (r.append A);have z:(bO (s.heap.objs.size+1)::us++ds).length=ps.length:=by
  have e:=i.length;rw[F.len _ _ _ _ j] at e;exact e.symm
 refine rq (zfy (f:=f) I.kIn M.makes M.init (beq_iff_eq.mp M.fn) (gA (F.run _ X.stack _ _ ⟨bO (s.heap.objs.size+1)::us,[]⟩ (bO (s.heap.objs.size+1)::(us++ds)) _ _ E (y.make C us []) (c.env0.make C us []) (G _ (bO (s.heap.objs.size+1)::us) c.kIn z) i j) λr l a=>?_))
 cases r with
 |error e=>exact w aa d _ _ e l c a
 |ok fl =>
  cases fl with
  |ret u =>
   obtain⟨v,T,N,n,J,q⟩:=c.after a;subst J;exact⟨n,⟨V.ref (s.heap.objs.size+1),T,N,Z,q⟩⟩
  |next=>exact dz a
  |brk=>exact dz a
  |cont=>exact dz a
theorem Z7(M:Mk X.K C f)(F:tq X.prog X.w X.K X.mg X.base CX k f fd ps sp)(i:tD (k+1) X.A)(l:Gl X x)(j:X.mg x=U (.ref C))(v:tE X.K fd ps ds)(u:aR dvs ds)(g:wz CX X E) (w:PA X (e::es) t) (b:(x==("__debug__":Str))=aq:=by lia) (n:Be (e::es) X.env=(aq,eval e X.env)::Be es X.env:=by rfl) (a:(backTo pos (Be es X.env)).any (·.1)=aq:=by rfl) :
  PE X (.Call (.Name x p) (e::es) [] pos) (Yv C sp dvs E t):=by
 intro y s d H Q I h;refine fC (vj I l j ?_ b);refine mC (h₀:=X.base) I.ok.mod.kin M.kp (aZ (w pos y s d H _ I h) λA G ⟨z,J,c,r,q⟩=>⟨c.kIn,?_⟩) n a;exact zbi M F i v u g c r q
theorem zfz(M:Mk X.K C f)(F:tq X.prog X.w X.K X.mg X.base CX k f fd ps sp)(c:tD (k+1) X.A)(g:Gl X x)(d:X.mg x=U (.ref C))(j:tE X.K fd ps ds)(i:aR dvs ds)(b:wz CX X E) (a:(x==("__debug__":Str))=aq:=by lia):PE X (.Call (.Name x p) [] [] pos) (Yv C sp dvs E zk):=by
 intro n s l H Q I h;refine fC (vj I g d ?_ a);exact pU I.kIn M.kp (zbi (us:=[]) M F c j i b I .nil h)
end
structure aM(N P:List Str)(sc:aC):Prop where
 kind:sc.kind=.function
 co:sc.isCoroutine=aq
 gen:sc.isGenerator=aq
 nd:N.Nodup
 pre:N.take P.length=P
 par:∀x∈P,sc.names.lookup x=U .local\/sc.names.lookup x=U .cell
 nofree:∀y∈sc.names,y.2≠.free
theorem Qg{b:Str->Option NameKind}{x:Str}:∀ {a:List (Str×af)} {m:Str->Option af},(∀v,(x,v) ∉ a)->bindL b a m x=m x
 |[],_,_=>rfl
 |(n,v)::r,m,h=>by
  unfold bindL;rw[Qg λw c=>h w (bp _ c)];split
  .have:x≠n:=by rintro rfl;exact h v br
   simp[this]
  .rfl
theorem Qh{b:Str->Option NameKind}{x:Str}:∀ {a:List (Str×af)} {m:Str->Option af},(∀v,(x,v) ∉ a)->bindC b a m x=m x
 |[],_,_=>rfl
 |(n,v)::r,m,h=>by
  unfold bindC;rw[Qh λw c=>h w (bp _ c)];split
  .rfl
  .have:x≠n:=by rintro rfl;exact h v br
   simp[this]
theorem Qi{a:Str->Option NameKind}{x:Str}{v:af}:∀ {P:List Str} {b:List af} {i:Nat} {m:Str->Option af},P.Nodup->P[i]?=U x->b[i]?=U v->a x=U .local ->
  bindL a (P.zip b) m x=U v
 |[],_,_,_,_,h,_,_=>by simp at h
 |_::_,[],_,_,_,_,h,_=>by simp at h
 |p::P,w::b,0,m,nd,h1,h2,hk=>by
  simp at h1 h2;subst h1;subst h2;show bindL a ((p,w)::P.zip b) m p=_;unfold bindL;rw[Qg λv c=>(bW.mp nd).1 (oC c).1,au hk];simp
 |p::P,w::b,i+1,m,nd,h1,h2,hk=>by
  show bindL a ((p,w)::P.zip b) m x=_;unfold bindL;exact Qi (i:=i) (bW.mp nd).2 (by simpa using h1) (by simpa using h2) hk
theorem Qj{a:Str->Option NameKind}{x:Str}{v:af}:∀ {P:List Str} {b:List af} {i:Nat} {m:Str->Option af},P.Nodup->P[i]?=U x->b[i]?=U v->a x≠U .local ->
  bindC a (P.zip b) m x=U v
 |[],_,_,_,_,h,_,_=>by simp at h
 |_::_,[],_,_,_,_,h,_=>by simp at h
 |p::P,w::b,0,m,nd,h1,h2,hk=>by
  simp at h1 h2;subst h1;subst h2;show bindC a ((p,w)::P.zip b) m p=_;unfold bindC;rw[Qh λv c=>(bW.mp nd).1 (oC c).1,ao hk];simp
 |p::P,w::b,i+1,m,nd,h1,h2,hk=>by
  show bindC a ((p,w)::P.zip b) m x=_;unfold bindC;exact Qj (i:=i) (bW.mp nd).2 (by simpa using h1) (by simpa using h2) hk
def start(N:List Str)(a:List V):St:=a.map U++eW (N.length-a.length) am
def q8(g:CXT)(P:av)(w:ay)(K:bA)(mg:Str->Option af)(base:ax)(N:List Str)(b:Str)(a:aC)(f:L)(d:af)(A:aw)(outer:List Env)(s:ah)(H:D)(E:XK):Cx where
 prog:=P
 w:=w
 K:=K
 mg:=mg
 base:=base
 A:=A.deeper (envOfC b a s.heap.objs.size f d)
 N:=N
 s₀:=s
 H₀:=H
 env:=envOfC b a s.heap.objs.size f d
 outer:=outer
 stack:=envOfC b a s.heap.objs.size f d::outer
 ex:=[]
 calm:=ak
 fn:=λ_=>ak
 pn:=[]
 xe:=λe h=>Bf (Bg P w) (A.deeper (envOfC b a s.heap.objs.size f d)) (leaving (envOfC b a s.heap.objs.size f d) e) (λ_ c=>g outer H s E e c) (λi c=>g outer H s E i c) h
theorem zbj{a:aC}{n:Nat}(h:a.names.lookup x=U .cell):∃c,(cellsFrom n a.names []).lookup x=U c:=by
 have q:=W.cellsFrom_some a.names n [] (.inl h);exact fN.mp q
theorem zeB{CX:CXT}{P:av}{w:ay}{K:bA}{mg:Str->Option af}{m:ax}{N C:List Str}{j:Str}{d:aC}{f:L}{Q:af}{A:aw}{g:List Env}{s s1:ah}{H:D}{E:XK}{T:List af}{t:List V}
  (S:aM N C d) (hd:A.handled=am) (o:Env0 P w K mg m A g s H) (hl:t.length=C.length) (r:aR t T) (x:InCallC s s.heap.objs.size (bindL (envOfC j d s.heap.objs.size f Q).kindOf (C.zip T) λ_=>am) (cellsFrom (s.heap.objs.size+1) d.names []) (bindC (envOfC j d s.heap.objs.size f Q).kindOf (C.zip T) λ_=>am) s1) :
  aP (q8 CX P w K mg m N j d f Q A g s H E) [] (start N t) H s1:=by
 have aa:C.length<=N.length:=by have:=congrArg fT S.pre;rw[cg] at this;lia
 obtain⟨O,tk,rfl,hk⟩:=x.done;have G:∀b:L,b ∉ (q8 CX P w K mg m N j d f Q A g s H E).ex:=λb z=>absurd (show b∈([]:List L) from z) (by simp);refine⟨⟨o.mod,S.kind,Z,Z,bo _,λy z c O l=>?_,λy hy=>?_,λy c _ h=>?_,λ_=>hd,Around.frames_deeper o.frames,.inr ⟨Z,Z⟩,λb z=>absurd z (G b),o.bs,o.bsz,λb _ _=>G b,λb z=>absurd z (G b),o.funs,o.frf⟩,
  rfl,o.bare,Un.kept hk,⟨_,x.toInCall.ns,λi y v O l h3=>?_⟩,λy c h=>⟨_,x.cell y c h⟩,o.hok.fresh (bo _),λy c h=>?_,λp J=>absurd (show p∈([]:List (L×Obj)) from J) (by simp),o.hok.kept hk,?_⟩
 .exact name_of_addr x.apart (fc O) (fc l)
 .have hy:d.names.lookup y=U .cell\/d.names.lookup y=U .free:=hy;rcases hy with hy|hy
  .exact zbj hy
  .exact absurd Z (S.nofree _ (fc hy))
 .exact oz (x.above y c (fc h))
 .have M:i<t.length:=by
   unfold start at l;by_cases M:i<t.length
   .exact M
   .rw[gN (by simpa using M)] at l;rw[nB] at l;split at l <;> cases l
  have ha:t[i]?=U v:=by
   unfold start at l;rw[dL (by simpa using M),bt] at l;cases e:t[i]? with
   |none=>rw[e] at l;cases l
   |some a=>rw[e] at l;cases l;rfl
  obtain⟨u,hu,rv⟩:=r.get ha;have J:C[i]?=U y:=by
   rw[<-S.pre,ib ()];exact O
  have I:C.Nodup:=by rw[<-S.pre];exact S.nd.sublist (rA _ _)
  refine⟨u,rv,?_⟩;rcases S.par y (bJ J) with k|k
  .exact .inl ⟨k,Qi I J hu k⟩
  .obtain⟨c,e⟩:=zbj (n:=s.heap.objs.size+1) k;refine .inr ⟨.inl k,c,e,?_⟩;have q:=x.cell y c e;rw[Qj I J hu (by show d.names.lookup y≠_;rw[k];decide)] at q;exact q
 .exact o.hok.fresh (oz (x.above y c (fc h)))
 .unfold start;show _=N.length;rw[bx,bd,dQ];lia
theorem ziQ{CX:CXT}{P:av}{w:ay}{K:bA}{mg:Str->Option af}{i:ax}{k:Nat}{f:L}{p d:Str}{h:Arguments}{j:List aA}{a:aC}{dV kV aa pm g ct oc:af}{an od:Option L}
  {ae:Array (Option af)} {N ps:List Str} {sp:Sp} (lk:K.lookup f=U ⟨oc,od,.func (sG p d h j a dV kV aa pm an g ct),ae⟩) (ai:sq K g d=ak) (S:aM N ps a) (O:∀m H Q E,sp m H Q E->m.length=ps.length) (G:∀(A:aw) (c:List Env) (s:ah) (H:D) (m:List V) (Q:VK) (E:XK),tD k (A.deeper (envOfC d a s.heap.objs.size f g))->sp m H Q E ->
   ∃t,PSs (q8 CX P w K mg i N d a f g A c s H E) j t/\t { nx:=λ_ z=>Q .non z,rt:=Q } (start N m) H) :
  tq P w K mg i CX (k+1) f (sG p d h j a dV kV aa pm an g ct) ps sp:=by
 refine⟨O,λA c s H aj us m Q E hr e0 hb r T=>?_⟩;have hl:=O _ _ _ _ T;have KX:K.In s.heap:=e0.mod.kin.keeps λb o e=>(e0.bs b o e).1;have ag:s.heap.NoLimit:=e0.mod.nolimit.keeps λb o e=>(e0.bs b o e).1;have C:∀y∈ps.zip us,a.names.lookup y.1=U .local\/(a.names.lookup y.1=U .cell/\((cellsFrom (s.heap.objs.size+1) a.names []).lookup y.1).isSome=ak):=λ⟨n,v⟩ hy=>by
  rcases S.par n (oC hy).1 with q|q
  .exact .inl q
  .exact .inr ⟨q,W.cellsFrom_some _ _ _ (.inl q)⟩
 refine codeAny_call_function hr.depth (KX _ _ lk) Z S.co S.gen Z (W.codeRec_of KX ai) (hb _ _ _ _ ?_);refine wpAny_newFunctionEnv_cells S.kind C λal he s1 x=>?_;subst he;refine⟨ag.keeps x.toInCall.keep,codeAny_func ?_⟩;obtain⟨t,ht,hq⟩:=G A c s H m Q E (hr.deeper _) T;have I:aP (q8 CX P w K mg i N d a f g A c s H E) [] (start N m) H s1:=zeB S hr.hd e0 hl r x;refine eG (ht [] s1 (start N m) H _ I hq) (λfl s' M=>?_) λe s' M=>M;have fin:∀ {l:St} {z:D} {v:V} {u:af},aP (q8 CX P w K mg i N d a f g A c s H E) [] l z s'->aU v u->Q v z->CE c P w H s Q u s' :=
  λ{l z v u} J rv q=>⟨v,z,J.os,J.bare,J.base,J.hok,rv,q⟩
 cases fl with
 |ret u =>
  obtain⟨v,l,z,J,rv,q⟩:=M;exact fin J rv q
 |next =>
  obtain⟨l,z,J,q⟩:=M;exact fin (v:=V.non) (u:=cM) J Z q
 |brk =>
  obtain⟨_,_,_,q⟩:=M;exact dz q
 |cont =>
  obtain⟨_,_,_,q⟩:=M;exact dz q
section
variable {X:Cx}{x:Str}{p pos:Pos}{e:aB}{es:List aB}{t:TA}{id T:String}{r:List V->D->VK->Prop}
def tJ(r:List V->D->VK->Prop)(t:TA):TE:=λa H Q=>t a H λb c=>r b c Q
theorem zE(u:jK X (.builtin id) r)(o:Gl X x)(n:X.mg x=am)(l:Bh x=U (.builtin id))(v:PA X (e::es) t)(m:x≠"__name__":=by lia)(b:(x==("__debug__":Str))=aq:=by lia) (q:Be (e::es) X.env=(aq,eval e X.env)::Be es X.env:=by rfl) (a:(backTo pos (Be es X.env)).any (·.1)=aq:=by rfl):PE X (.Call (.Name x p) (e::es) [] pos) (tJ r t):=by
 intro d s c H Q I h;refine fC (VU I o n l ?_ m b);exact PyProof.Rows.callWith_builtin1 (aZ (v pos d s c H _ I h) λg i ⟨f,y,w,j,k⟩=>u d i c y f g Q w j k) q a
theorem yD(u:jK X (.type T) r)(o:Gl X x)(n:X.mg x=am)(l:Bh x=U (.type T))(v:PA X (e::es) t)(m:x≠"__name__":=by lia)(b:(x==("__debug__":Str))=aq:=by lia) (q:Be (e::es) X.env=(aq,eval e X.env)::Be es X.env:=by rfl) (a:(backTo pos (Be es X.env)).any (·.1)=aq:=by rfl):PE X (.Call (.Name x p) (e::es) [] pos) (tJ r t):=by
 intro d s c H Q I h;refine fC (VU I o n l ?_ m b);exact gu (aZ (v pos d s c H _ I h) λg i ⟨f,y,w,j,k⟩=>u d i c y f g Q w j k) q a
end
end L2
namespace HT
open PySem PyProof.Rows
theorem rcLt_int(A:aw)(s:ah)(a:Int)(t:Tok)(c:Int)(u:Tok)(b:av)(w:ay)(E:af->ah->Prop)(Q:af->ah->Prop)(h:Q (.bool (decide (a<c))) s) :
  Bf (Bg b w) A (richCompare .Lt (.int a t) (.int c u)) Q E s :=
 (pI h:Bf (Bg b w) A (Bi .Lt (.int a t) (.int c u)) Q E s)
section
variable {prog:av}{w:ay}{A:aw}{E:af->ah->Prop}{s:ah}
theorem cat_tup{Q:af->ah->Prop}(u:IsTup s.heap t vs.toArray)(v:IsTup s.heap b ws.toArray)(m:vs≠[]) (y:ws=[]->Q (.ref t) s) (x:ws≠[]->Q (.ref s.heap.objs.size) { s with heap:=s.heap.push { cls:=.type "tuple",data:=.seq (vs++ws).toArray } }) (i:vs.length+ws.length<=Bb):Bf (Bg prog w) A (binaryOp .Add (.ref t) (.ref b)) Q E s:=by
 obtain⟨⟨cls,q,data,k⟩,h,p,n,o⟩:=id u;obtain⟨⟨r,g,j,c⟩,a,f,l,d⟩:=id v;simp only at p o f d;subst p o f d;have e:vs.toArray++ws.toArray=(vs++ws).toArray:=by simp
 by_cases hw:ws=[]
 .exact concat_meets ⟨_,h,Z⟩ ⟨_,a,Z⟩ noFill_tuple_add seq_tuple_add og nE (mR _ _) (tuple_addW1 t b vs.toArray ws.toArray n l q g k c (by simpa using m) (by simp[hw])) ⟨h,a,y hw⟩
 .refine concat_meets ⟨_,h,Z⟩ ⟨_,a,Z⟩ noFill_tuple_add seq_tuple_add og nE (mR _ _) (tuple_addW2 t b vs.toArray ws.toArray n l q g k c (by simpa using m) (by simpa using hw) (by rw[bG,bG];exact i)) ⟨h,a,?_⟩
  rw[e];exact x hw
def sIx(n d:Nat):Option Int->Nat
 |none=>d
 |some v=>if v<0 then (v+(n:Int)).toNat else min v.toNat n
theorem sIx_none(n d:Nat):sIx n d am=d:=rfl
theorem sIx_nat(n d k:Nat):sIx n d (U (k:Int))=min k n:=by
 show (if (k:Int)<0 then ((k:Int)+(n:Int)).toNat else min (k:Int).toNat n)=min k n;rw[ao (),dR]
theorem sIx_le(n d:Nat)(a:d<=n)(o:Option Int):sIx n d o<=n:=by
 cases o with
 |none=>exact a
 |some v =>
  show (if v<0 then (v+(n:Int)).toNat else min v.toNat n)<=n;by_cases hv:v<0
  .rw[au hv];lia
  .rw[ao hv];exact Nat.min_le_right _ _
end
end HT
namespace L2
open PySem PySem.Spec PyProof.Rows
abbrev TO:=St->D->(Option Int->D->Prop)->Prop
def PO(X:Cx)(e:Option aB)(t:TO):Prop :=
 ∀(b:List (L×Obj)) (s:ah) (a:St) (H:D) (Q:Option Int->D->Prop),aP X b a H s->t a H Q ->
  Bf (Bg X.prog X.w) X.A (evalPart e X.env) (λu d=>∃o c,aP X b a c d/\IsPart u o/\Q o c) X.xe s
def jL:TO:=λ_ H Q=>Q am H
def vV(t:TE):TO:=λa H Q=>t a H λx b=>∃i,x=.int i/\Q (U i) b
theorem zcI{ns:List Int}:∀ {a:List af},aR (ns.map V.int) a->IntsAre a ns:=by
 induction ns with
 |nil=>intro a r;rw[mD] at r;cases r;exact .nil
 |cons n ns ih =>
  intro a r;rw[bh] at r;cases r with
  |cons r1 r2 =>
   obtain⟨t,e⟩:=r1;subst e;exact .cons n t (ih r2)
section
variable {X:Cx}{e:aB}{te:TE}{lo hi:Option aB}{tl th:TO}{pos p2:Pos}
theorem qg:PO X am jL:=by
 intro b s a H Q I h;rw[evalPart_none];exact bg ⟨am,H,I,.none,h⟩
theorem xv(h:PE X e te):PO X (U e) (vV te):=by
 intro f s a H Q I d;rw[evalPart_some];refine aZ (h f s a H _ I d) ?_;rintro u k ⟨x,j,g,b,c⟩;obtain⟨i,rfl,q⟩:=c;obtain⟨t,rfl⟩:=b;exact⟨U i,j,g,.int i t,q⟩
def SlR(X:Cx)(r:V->Option Int->Option Int->D->VK->Prop):Prop :=
 ∀(f:List (L×Obj)) (s:ah) (a:St) (H:D) (x:V) (v c b:af) (lo hi:Option Int) (d:L) (Q:VK),aP X f a H s->aU x v->s.heap.IsSliceOf d c b .none->IsPart c lo->IsPart b hi->r x lo hi H Q ->
  ∃T id,typeLookup (.type T) "__getitem__"=pure (U (.builtin id))/\s.TypeIs v T/\Bf (Bg X.prog X.w) X.A (getItem v (.ref d)) (EP X f a Q) X.xe s
def tSl(r:V->Option Int->Option Int->D->VK->Prop)(te:TE)(tl th:TO):TE:=λa H Q=>te a H λx d=>tl a d λl c=>th a c λu b=>r x l u b Q
theorem xQ{r:V->Option Int->Option Int->D->VK->Prop}(A:SlR X r)(G:PE X e te)(C:PO X lo tl)(y:PO X hi th):PE X (.Subscript e (.Slice lo hi am p2) pos) (tSl r te tl th):=by
 intro d s c H Q I h;refine Subscript_ (aZ (G d s c H _ I h) ?_);rintro v k ⟨x,H1,I1,m,p⟩;refine wpAny_Slice (aZ (C d k c H1 _ I1 p) λg j ⟨l,H2,O,w,o⟩=>aZ (y d j c H2 _ O o) ?_);rintro f a ⟨u,i,N,t,n⟩;rw[evalPart_none];refine bg ?_;have M:aP X d c i { a with heap:=a.heap.push { cls:=.type "slice",data:=.fields #[g,f,.none] } }:=N.kept (t':=a.toks) λb ob q=>bc _ q;obtain⟨T,id,J,z,E⟩:=A d { a with heap:=a.heap.push { cls:=.type "slice",data:=.fields #[g,f,.none] } } c i x v g f l u a.heap.objs.size Q M m (Heap.IsSliceOf.new ..) w t n;show Bf (Bg X.prog X.w) X.A (subscriptTail e (.Slice lo hi am p2) v (.ref a.heap.objs.size)) (EP X d c Q) X.xe { a with heap:=a.heap.push { cls:=.type "slice",data:=.fields #[g,f,.none] } };exact tail_any (ops:=[.ref a.heap.objs.size,v]) z J E (by with_unfolding_all rfl)
def kq(a:List V)(lo hi:Option Int):List V:=(a.drop (HT.sIx a.length 0 lo)).take (HT.sIx a.length a.length hi-HT.sIx a.length 0 lo)
theorem zbk(a:List V)(lo hi:Option Int):(kq a lo hi).length<=a.length:=by
 unfold kq;rw[cg,cW];lia
def zfA(K:bA):R2:=λx y H Q=>∃a b d c,x=.ref a/\y=.ref b/\tI K H a d/\tI K H b c/\d≠[]/\d.length+c.length<=Bb /\
 (c=[]->Q (.ref a) H)/\(c≠[]->∀p,H p=am->Q (.ref p) (upd H p (.tup (d++c))))
theorem aR.nil_iff(r:aR xs us):us=[]↔xs=[]:=by
 cases r with
 |nil=>simp
 |cons _ _=>simp
theorem zdC:ud X (binaryOp .Add) (zfA X.K):=by
 intro J s E H x y v u Q I l k h;obtain⟨a,b,j,i,rfl,rfl,C,A,t,g,n,m⟩:=h;cases l;cases k;obtain⟨r,d,p,_⟩:=I.tuple C;obtain⟨f,c,p2,_⟩:=I.tuple A;refine HT.cat_tup p p2 (λz=>t (d.nil_iff.mp z)) (λz=>⟨.ref a,H,I,Z,n (c.nil_iff.mp z)⟩) (λz=>?_) (by rw[<-d.length,<-c.length];exact g);refine⟨.ref s.heap.objs.size,_,I.laid (t':=s.toks) (o:=.tup (j++i)) (λb G q=>bc _ q) (bo _) ?_,Z,m (λw=>z (c.nil_iff.mpr w)) _ (I.hok.fresh (bo _))⟩;exact⟨by rw[bx];exact g,_,d.append c,IsTup.new _ _⟩
end
def ixN(n:Nat)(i:Int):Option Nat:=if 0<=i then (if i<n then U i.toNat else am) else if -(n:Int)<=i then U (i+n).toNat else am
def uq{α:Type}(a:List α)(i:Int):Option α:=(ixN a.length i).bind λj=>a[j]?
theorem zhL{i:Int}(h:ixN n i=U j):seqIndex? i n=U j/\j<n/\-(n:Int)<=i/\i<n:=by
 unfold ixN at h;by_cases h0:0<=i
 .rw[au h0] at h;by_cases h1:i<n
  .rw[au h1] at h;have e:i.toNat=j:=bH h;exact⟨by rw[seqIndex_of h0 h1,e],(),(),h1⟩
  .rw[ao h1] at h;cases h
 .rw[ao h0] at h;by_cases h1:-(n:Int)<=i
  .rw[au h1] at h;have e:(i+n).toNat=j:=bH h;exact⟨by rw[rN () h1,e],(),h1,()⟩
  .rw[ao h1] at h;cases h
theorem zaf{b:Type}{a:List b}{i:Int}{v:b}(h:uq a i=U v):∃j,seqIndex? i a.length=U j/\a[j]?=U v/\j<a.length/\-(a.length:Int)<=i/\i<a.length:=by
 unfold uq at h;cases e:ixN a.length i with
 |none=>rw[e] at h;cases h
 |some j =>
  rw[e] at h;obtain⟨g,f,d,c⟩:=zhL e;exact⟨j,g,h,f,d,c⟩
theorem xa{b:Type}{a:List b}{j:Nat}{v:b}(h:a[j]?=U v):uq a (j:Int)=U v:=by
 have c:j<a.length:=(bq.mp h).1;have e:ixN a.length (j:Int)=U j:=by
  unfold ixN;rw[au (),au ()];simp
 unfold uq;rw[e];exact h
theorem atI_last{b:Type}(a:List b)(v:b):uq (a++[v]) (-1)=U v:=by
 have c:(a++[v]).length=a.length+1:=by simp
 have e:ixN (a++[v]).length (-1)=U a.length:=by
  unfold ixN;rw[c,ao (),au ()];congr 1;lia
 unfold uq;rw[e];show (a++[v])[a.length]?=U v;simp
def zdD(b:aB):Prop:=∀o i,subscripted b aq o i=operate [o,i] (getItem o i)
def IxR(X:Cx)(r:R2):Prop :=
 ∀(b a:aB) (d:List (L×Obj)) (s:ah) (c:St) (H:D) (x y:V) (v u:af) (Q:VK),aP X d c H s->aU x v->aU y u->r x y H Q ->
  subscripted a aq v u=operate [v,u] (getItem v u)->Bf (Bg X.prog X.w) X.A (subscriptTail b a v u) (EP X d c Q) X.xe s
def MtR(X:Cx)(id:String)(r:V->List V->D->VK->Prop):Prop :=
 ∀(d:List (L×Obj)) (s:ah) (a:St) (H:D) (x:V) (b:List V) (v:af) (c:List af) (Q:VK),aP X d a H s->aU x v->aR b c->r x b H Q ->
  Bf (Bg X.prog X.w) X.A (call (.builtin id) (v::c)) (EP X d a Q) X.xe s
section
variable {X:Cx}{a b:aB}{ta tb:TE}{pos:Pos}
theorem zkj{r:R2}(i:IxR X r)(k:PE X a ta)(j:PE X b tb)(g:zdD b):PE X (.Subscript a b pos) (aN r ta tb):=by
 intro l s c H Q I h;exact Subscript_ (zjj k j I h λv u d x y n m f e q=>i a b l d c n x y v u Q m f e q (g _ _))
def xj(K:bA):R2:=λx y H Q=>∃p c i v,x=.ref p/\y=.int i/\aT K H p c/\uq c i=U v/\Q v H
def yR(K:bA):R2:=λx y H Q=>∃p c i v,x=.ref p/\y=.int i/\tI K H p c/\uq c i=U v/\Q v H
def zfB:R2:=λx y H Q=>∃z i c,x=.str z/\y=.int i/\z.length<=Bb/\uq z.cps.toList i=U c/\Q (.str ⟨#[c]⟩) H
theorem zR:IxR X (xj X.K):=by
 intro d e A s m H x y v u Q I G E h n;obtain⟨p,xs,i,z,rfl,rfl,J,N,q⟩:=h;cases G;obtain⟨t,rfl⟩:=E;obtain⟨k,r,g,hz⟩:=I.list J;obtain⟨j,c,h2,h3,T,O⟩:=zaf N;obtain⟨w,o,f⟩:=r.get h2;have M:=r.length;have hn:=zab;have fin:EP X A m Q w s:=⟨z,H,I,f,q⟩;by_cases h0:0<=i
 .have l:i.toNat=j:=by
   rw[seqIndex_of h0 O] at c;exact bH c
  exact item_listR g.isList h0 () (by rw[l];simpa using o) fin n
 .have l:(i+(k.toArray.size:Int)).toNat=j:=by
   rw[rN () T] at c;rw[bG,<-M];exact bH c
  exact oh (x:=w) g.isList.typeIs slot_list_getitem.lookup
   (wpAny_getItem_list_neg (Q:=λr C=>r=w/\EP X A m Q r C) g.isList () (by rw[bG] <;> lia) () (by rw[l];simpa using o) ⟨Z,fin⟩) n
theorem zY:IxR X (yR X.K):=by
 intro c d k s f H x y v u Q I n m h A;obtain⟨p,O,i,z,rfl,rfl,C,G,q⟩:=h;cases n;obtain⟨t,rfl⟩:=m;obtain⟨o,r,g,T⟩:=I.tuple C;obtain⟨j,M,J,h3,h4,h5⟩:=zaf G;obtain⟨w,N,e⟩:=r.get J;have E:=r.length;have hn:=zab;have fin:EP X k f Q w s:=⟨z,H,I,e,q⟩;exact oh (x:=w) g.typeIs slot_tuple_getitem.lookup
  (getItem_tuple (j:=j) (Q:=λr l=>r=w/\EP X k f Q r l) g () () (by rw[bG,<-E];exact M) (by simpa using N) ⟨Z,fin⟩) A
theorem zcJ:IxR X zfB:=by
 intro d e N s C H x y v u Q I k g h l;obtain⟨z,i,c,rfl,rfl,G,n,q⟩:=h;obtain⟨t,rfl⟩:=k;obtain⟨E,rfl⟩:=g;obtain⟨j,f,r,M,p,o⟩:=zaf n;have m:z.cps.toList.length=z.length:=by simp[iO]
 rw[m] at f p o;have J:=zab;exact tail_any (oU s z t) slot_str_getitem.lookup (getItem_str (c:=c) (by
  have A:decide (i < -(2^63:Int))=aq:=Bk ();have w:decide (i >= 2^63)=aq:=Bk ();rw[A,w,Bool.or_false]) (by rw[f];simpa using r) ⟨.str ⟨#[c]⟩,H,I.tok _,⟨_,Z⟩,q⟩) l
theorem zag(lo c:Option Int)(n:Nat):(sliceBounds lo c am n).1=((HT.sIx n 0 lo:Nat):Int)/\(sliceBounds lo c am n).2.1=((HT.sIx n n c:Nat):Int)/\(sliceBounds lo c am n).2.2=1:=by
 refine⟨?_,?_,Z⟩
 .cases lo with
  |none=>simp[sliceBounds,HT.sIx]
  |some i =>
   simp only[sliceBounds,HT.sIx,rZ,show (1:Int) > 0 by lia,if_true];by_cases h:i<0
   .simp only[h,if_true] <;> lia
   .simp only[h,if_false] <;> lia
 .cases c with
  |none=>simp[sliceBounds,HT.sIx]
  |some i =>
   simp only[sliceBounds,HT.sIx,rZ,show (1:Int) > 0 by lia,if_true];by_cases h:i<0
   .simp only[h,if_true] <;> lia
   .simp only[h,if_false] <;> lia
theorem Km(c:List af)(lo d:Option Int):slicePick c.toArray lo d am=((c.drop (HT.sIx c.length 0 lo)).take (HT.sIx c.length c.length d-HT.sIx c.length 0 lo)).toArray:=by
 obtain⟨g,f,e⟩:=zag lo d c.toArray.size;unfold slicePick;rw[g,f,e];simp only[sliceRange_one,pick_run,bG] <;> rfl
def Kn(K:bA):V->Option Int->Option Int->D->VK->Prop:=λx d e H Q=>∃a c,x=.ref a/\aT K H a c/\∀p,H p=am->Q (.ref p) (upd H p (.lst (kq c d e)))
theorem v5:SlR X (Kn X.K):=by
 intro A s t H x v w u e f y Q I i p k j h;obtain⟨a,c,rfl,n,q⟩:=h;cases i;obtain⟨l,r,g,m⟩:=I.list n;have d:=r.length;refine⟨"list",_,slot_list_getitem.lookup,g.isList.typeIs,?_⟩;refine wpAny_getItem_list_slice g.isList p k j .none (by simp) ?_ (by rw[bG] <;> lia);rw[Km,<-d];refine⟨.ref s.heap.objs.size,_,I.laid (t':=s.toks) (o:=.lst (kq c e f)) (λb z q=>bc _ q) (bo _) ?_,Z,q _ (I.hok.fresh (bo _))⟩;exact⟨bM (zbk c e f) m,_,0,(r.drop (HT.sIx c.length 0 e)).take (HT.sIx c.length c.length f-HT.sIx c.length 0 e),bC _ Z⟩
def Xg:V->Bool
 |.non=>ak
 |.bl _=>ak
 |.int _=>ak
 |.str _=>ak
 |_=>aq
def eqV:V->V->Bool
 |.non,.non=>ak
 |.bl a,.bl b=>a==b
 |.bl a,.int b=>(if a then 1 else 0)==b
 |.int a,.bl b=>a==(if b then 1 else 0)
 |.int a,.int b=>a==b
 |.str a,.str b=>a==b
 |_,_=>aq
theorem zjn(e:aU y u)(c:aU x v)(g:Xg y=ak)(f:Xg x=ak):SeqAt.EqAt A s u v (eqV y x):=by
 cases y with
 |non =>
  cases e;cases x with
  |non=>cases c;exact SeqAt.EqAt.same _
  |bl b=>cases c;exact SeqAt.EqAt.none_bool b
  |int b=>obtain⟨t,rfl⟩:=c;exact SeqAt.EqAt.none_int b t
  |str b=>obtain⟨t,rfl⟩:=c;exact SeqAt.EqAt.none_str b t
  |_=>exact absurd (show aq=ak from f) bK
 |bl a =>
  cases e;cases x with
  |non=>cases c;exact SeqAt.EqAt.bool_none a
  |bl b=>cases c;exact SeqAt.EqAt.bool_bool a b
  |int b=>obtain⟨t,rfl⟩:=c;exact SeqAt.EqAt.bool_int a b t
  |str b=>obtain⟨t,rfl⟩:=c;exact SeqAt.EqAt.bool_str a b t
  |_=>exact absurd (show aq=ak from f) bK
 |int a =>
  obtain⟨d,rfl⟩:=e;cases x with
  |non=>cases c;exact SeqAt.EqAt.int_none a d
  |bl b=>cases c;exact SeqAt.EqAt.int_bool a d b
  |int b=>obtain⟨t,rfl⟩:=c;exact mE a d b t
  |str b=>obtain⟨t,rfl⟩:=c;exact pQ a d b t
  |_=>exact absurd (show aq=ak from f) bK
 |str a =>
  obtain⟨d,rfl⟩:=e;cases x with
  |non=>cases c;exact SeqAt.EqAt.str_none a d
  |bl b=>cases c;exact SeqAt.EqAt.str_bool a d b
  |int b=>obtain⟨t,rfl⟩:=c;exact pR a d b t
  |str b=>obtain⟨t,rfl⟩:=c;exact mF a d b t
  |_=>exact absurd (show aq=ak from f) bK
 |_=>exact absurd (show aq=ak from g) bK
def eqU(x:V)(u:af):Bool:=match u with
 |.none=>eqV .non x
 |.bool b=>eqV (.bl b) x
 |.int i _=>eqV (.int i) x
 |.str z _=>eqV (.str z) x
 |_=>aq
theorem zfC(r:aU y u)(f:Xg y=ak):eqU x u=eqV y x:=by
 cases y with
 |non=>cases r;rfl
 |bl b=>cases r;rfl
 |int i=>obtain⟨t,rfl⟩:=r;rfl
 |str z=>obtain⟨t,rfl⟩:=r;rfl
 |_=>exact absurd (show aq=ak from f) bK
theorem zah{x:V}:∀ {c:List V} {d:List af},aR c d->c.all Xg=ak->d.any (eqU x)=c.any λy=>eqV y x
 |_,_,.nil,_=>rfl
 |y::c,u::d,.cons r t,f=>by
  rw[gI,bX] at f;rw[lJ,lJ,zfC r f.1,zah t f.2]
theorem V1{A:aw}{s:ah}{x:V}{v:af}(e:aU x v)(g:Xg x=ak):∀ {c:List V} {d:List af},aR c d->c.all Xg=ak->∀u∈d,SeqAt.EqAt A s u v (eqU x u)
 |_,_,.nil,_=>λu hu=>by cases hu
 |y::c,u::d,.cons r t,f=>λh hu=>by
  rw[gI,bX] at f;rcases bw.mp hu with rfl|hu
  .rw[zfC r f.1];exact zjn r e f.1 g
  .exact V1 e g t f.2 h hu
def inV(x:V)(c:List V):Bool:=c.any λy=>eqV y x
def rIn(K:bA)(d:Bool):R2:=λx y H Q=>∃p c,y=.ref p/\(aT K H p c\/tI K H p c)/\Xg x=ak/\c.all Xg=ak/\Q (.bl (if d then !inV x c else inV x c)) H
theorem Wi:ud X (Bi .In) (rIn X.K aq):=by
 intro n s l H x y v u Q I g j h;obtain⟨p,m,rfl,hq,i,d,q⟩:=h;cases j;rcases hq with hq|hq
 .obtain⟨c,r,e,k⟩:=I.list hq;refine SeqAt.in_listAt (eqU x) e.isList (λw f=>V1 g i r d w (by simpa using f)) ⟨.bl _,H,I,Z,?_⟩;rw[show c.toArray.any (eqU x)=c.any (eqU x) by simp,zah r d];exact q
 .obtain⟨c,r,e,k⟩:=I.tuple hq;refine SeqAt.in_tupleAt (eqU x) e (λw f=>V1 g i r d w (by simpa using f)) ⟨.bl _,H,I,Z,?_⟩;rw[show c.toArray.any (eqU x)=c.any (eqU x) by simp,zah r d];exact q
theorem xw:jK X (.type "list") (λy H Q=>∃p f,y=[.ref p]/\(aT X.K H p f\/tI X.K H p f)/\∀l,H l=am->Q (.ref l) (upd H l (.lst f))):=by
 intro E s A H y G Q I r h;obtain⟨p,f,rfl,hq,q⟩:=h;obtain⟨u,rfl,C⟩:=kI r;cases C;have fin:∀(c:List af),aR f c->f.length<=Bb->∀(d:ax) (i:Nat),(∀b z,s.heap.get? b=U z->d.get? b=U z) ->
   d.get? s.heap.objs.size=U { cls:=.type "list",dict:=am,data:=.seq c.toArray i,slots:=#[] }->EP X E A Q (.ref s.heap.objs.size) { s with heap:=d }:=λc g k d i j e =>
  ⟨.ref s.heap.objs.size,_,I.laid (t':=s.toks) j (bo _) (show aV X.prog X.w _ d _ (.lst f) from ⟨k,c,i,g,e⟩),Z,q _ (I.hok.fresh (bo _))⟩
 rcases hq with hq|hq
 .obtain⟨c,g,t,k⟩:=I.list hq;have m:=g.length;obtain⟨o,v,x,n,w⟩:=t.isList;exact call_list_seq p (.inl Z) v x w (λd i j e=>fin c g k d i j e) (by simp only[bG] <;> lia)
 .obtain⟨c,g,t,k⟩:=I.tuple hq;have m:=g.length;obtain⟨o,v,x,n,w⟩:=t;exact call_list_seq p (.inr Z) v x w (λd i j e=>fin c g k d i j e) (by simp only[bG] <;> lia)
theorem Ko:jK X (.type "tuple") (λk H Q=>∃p d,k=[.ref p]/\((aT X.K H p d/\∀l,H l=am->Q (.ref l) (upd H l (.tup d)))\/(tI X.K H p d/\Q (.ref p) H))):=by
 intro t s j H k z Q I r h;obtain⟨p,d,rfl,h⟩:=h;obtain⟨u,rfl,w⟩:=kI r;cases w;rcases h with ⟨hq,q⟩|⟨hq,q⟩
 .obtain⟨c,g,i,m⟩:=I.list hq;have n:=g.length;refine call_tuple_list i.isList (λf x=>?_) (by simp only[bG] <;> lia);have v:aP X t j H { s with heap:=f }:=I.kept (t':=s.toks) x;have y:aP X t j (upd H f.objs.size (.tup d)) { s with heap:=f.push { cls:=.type "tuple",data:=.seq c.toArray } } :=
   v.laid (t':=s.toks) (λb o e=>bc _ e) (bo _) (show aV X.prog X.w _ _ _ (.tup d) from ⟨m,c,g,IsTup.new _ _⟩)
  exact⟨.ref f.objs.size,_,y,Z,q _ (v.hok.fresh (bo _))⟩
 .obtain⟨c,g,i,m⟩:=I.tuple hq;exact call_tuple_same i ⟨.ref p,H,I,Z,q⟩
def tyV(K:bA)(T:String)(x:V)(H:D):Prop:=match x with
 |.str _=>T="str"
 |.int _=>T="int"
 |.ref p=>(T="list"/\∃d,aT K H p d)\/(T="tuple"/\∃o,K.lookup p=U o/\o.cls=.type "tuple"/\o.dict=am) \/
   (T="dict"/\((∃c,H p=U (.dK c))\/∃c,H p=U (.dT c)))\/(T="set"/\∃S n,H p=U (.set S n))
 |_=>False
theorem zfD{l:St}{H:D}{s:ah}{T:String}{x:V}{v:af}(I:aP X aa l H s)(r:aU x v)(f:tyV X.K T x H) :
  s.TypeIs v T/\∀a,v=.ref a->∃k,s.heap.get? a=U k/\k.dict=am:=by
 cases x with
 |str z =>
  obtain⟨t,rfl⟩:=r;cases (show T="str" from f);exact⟨oU s z t,λ_ e=>nomatch e⟩
 |int i =>
  obtain⟨t,rfl⟩:=r;cases (show T="int" from f);exact⟨typeIs_int s i t,λ_ e=>nomatch e⟩
 |ref p =>
  cases r;rcases f with ⟨rfl,xs,hq⟩|⟨rfl,o,hk,hc,g⟩|⟨rfl,hk⟩|⟨rfl,S,n,hk⟩
  .obtain⟨m,_,j,_⟩:=I.list hq;refine⟨j.isList.typeIs,λa e=>?_⟩;cases e;obtain⟨o,n,e,c,g,_⟩:=j;exact⟨o,e,g⟩
  .refine⟨⟨o,I.kIn p o hk,hc⟩,λa e=>?_⟩;cases e;exact⟨o,I.kIn _ o hk,g⟩
  .have z:∃o,s.heap.get? p=U o/\o.ExactDict:=by
    rcases hk with ⟨aJ,hk⟩|⟨aJ,hk⟩
    .obtain⟨_,_,_,_,o,_,_,e,d,_⟩:=I.hok p _ hk;exact⟨o,e,d⟩
    .obtain⟨_,_,_,_,o,_,_,e,d,_⟩:=I.hok p _ hk;exact⟨o,e,d⟩
   obtain⟨o,e,d⟩:=z;refine⟨⟨o,e,d.1⟩,λa h=>?_⟩;cases h;exact⟨o,e,d.2.1⟩
  .obtain⟨o,_,_,_,e,d,_⟩:=I.hok p _ hk;refine⟨⟨o,e,d.1⟩,λa h=>?_⟩;cases h;exact⟨o,e,d.2.1⟩
 |_=>exact dz f
def zhM(K:bA)(T:String)(r:V->List V->D->VK->Prop)(e:TE):TE:=λd H Q=>e d H λx c=>tyV K T x c/\r x [] c Q
def tBM(K:bA)(T:String)(r:V->List V->D->VK->Prop)(f:TE)(t:TA):TE:=λc H Q=>f c H λx d=>tyV K T x d/\t c d λe g=>r x e g Q
variable {o e:aB}{es:List aB}{to:TE}{t:TA}{name:Str}{tj tG:Pos}{T id:String}{r:V->List V->D->VK->Prop}
theorem zcK(q:PlainAttrs T)(f:Slot T name id)(g:typeOf (.builtin id)=pure (.type "method_descriptor"))(w:MtR X id r)(u:PE X o to) (d:attributeBase o name X.env (eval o X.env)=eval o X.env:=by rfl) (c:(tj.endLine==tG.line)=ak:=by rfl):PE X (.Call (.Attribute o name tj) [] [] tG) (zhM X.K T r to):=by
 intro k s i H Q I h;refine nF d c (aZ (u k s i H _ I h) ?_);rintro v n ⟨x,A,l,j,m,p⟩;obtain⟨z,y⟩:=zfD l j m;exact⟨T,id,q,f,g,z,y,dv Z (pJ (w k n i A x [] v [] Q l j .nil p))⟩
theorem vD(G:PlainAttrs T)(g:Slot T name id)(k:typeOf (.builtin id)=pure (.type "method_descriptor"))(N:MtR X id r)(M:PE X o to)(O:PA X (e::es) t) (f:attributeBase o name X.env (eval o X.env)=eval o X.env:=by rfl) (i:((backTo tG (Be (e::es) X.env)).all (λx=>!x.1)&&(backToKw tG (keywordEach [] X.env)).all (λx=>x.1.isSome)
   && decide ((e::es).length+([]:List Keyword).length+(if ([]:List Keyword).isEmpty then 0 else 1)<30))=ak:=by rfl) (d:(tj.endLine==tG.line)=ak:=by rfl) (J:Be (e::es) X.env=(aq,eval e X.env)::Be es X.env:=by rfl) (c:(backTo tG (Be es X.env)).any (·.1)=aq:=by rfl) :
  PE X (.Call (.Attribute o name tj) (e::es) [] tG) (tBM X.K T r to t):=by
 intro l s j H Q I h;refine wpAny_Call_method_late f i d Z (aZ (M l s j H _ I h) ?_);rintro v z ⟨x,H1,p,m,w,E⟩;obtain⟨h1,h2⟩:=zfD p m w;refine⟨T,id,G,g,k,h1,h2,?_⟩;have n:=O tG l z j H1 _ p E;rw[J] at n ⊢;refine dv (by show (aq || (backTo tG (Be es X.env)).any (·.1))=aq;rw[c] <;> rfl) (eB ?_);exact aZ n λu y ⟨q,H2,I2,A,C⟩=>N l y j H2 x q v u Q I2 m A C
end
def MtM(X:Cx)(id:String)(r:V->List V->D->VK->Prop):Prop :=
 ∀(d:List (L×Obj)) (s:ah) (a:St) (H:D) (x:V) (b:List V) (v:af) (c:List af) (Q:VK),aP X d a H s->aU x v->aR b c->r x b H Q ->
  Bf (Bg X.prog X.w) X.A (call (.builtin id) (v::c)) (EP X d a Q) X.xe s
theorem aR.one:∀ {x:V} {a:List af},aR [x] a->∃u,a=[u]/\aU x u
 |_,_,.cons r .nil=>⟨_,Z,r⟩
theorem aR.zero:∀ {a:List af},aR [] a->a=[]
 |_,.nil=>rfl
theorem aR.dropLast(h:aR xs us):aR xs.dropLast us.dropLast:=by
 induction h with
 |nil=>exact .nil
 |cons r t ih =>
  cases t with
  |nil=>exact .nil
  |cons q t'=>exact .cons r ih
theorem aR.eraseIdx:∀ {a:List V} {b:List af} (i:Nat),aR a b->aR (a.eraseIdx i) (b.eraseIdx i)
 |_,_,_,.nil=>.nil
 |_,_,0,.cons _ t=>t
 |_,_,i+1,.cons r t=>.cons r (aR.eraseIdx i t)
theorem zcL{c:Type}(l:List c):l.eraseIdx (l.length-1)=l.dropLast:=by
 induction l with
 |nil=>rfl
 |cons a r ih =>
  cases r with
  |nil=>rfl
  |cons b r =>
   have e:(a::b::r).length-1=((b::r).length-1)+1:=by
    have f:(a::b::r).length=r.length+2:=rfl;have d:(b::r).length=r.length+1:=rfl;lia
   rw[e,iu,ih]
   all_goals rfl
theorem Qk{a:Type}:∀(l:List a) (i:Nat),(l.eraseIdx i).length<=l.length
 |[],_=>bo _
 |_::_,0=>sF _
 |_::r,i+1=>f9 (Qk r i)
section
variable {X:Cx}{aa:List (L×Obj)}{σ:St}{H:D}{s:ah}{l b:L}{xs ys zs:List V}
theorem aP.lset{its its':List af}{n:Nat}{f:Array af->Array af}(I:aP X aa σ H s)(k:H l=U (.lst xs)) (e:s.heap.get? l=U { cls:=.type "list",data:=.seq its.toArray n }) (h:f its.toArray=its'.toArray) (d:aR ys its') (a:ys.length<=Bb) :
  aP X aa σ (upd H l (.lst ys)) { s with heap:=s.heap.update l (dA f),toks:=t' }:=by
 have q:=PySem.IsL.update e f;rw[h] at q;refine I.write (x:=l) (e:=l) (by rw[k];exact trivial) (.inl Z) (λo u j g=>(eD s.heap (dA f) (fq j)).trans g) ⟨_,q⟩ ?_;exact⟨a,its',_,d,q⟩
theorem aP.lnew(I:aP X aa σ H s)(d:aR ys its)(a:ys.length<=Bb) :
  aP X aa σ (upd H s.heap.objs.size (.lst ys)) { s with heap:=s.heap.push { cls:=.type "list",data:=.seq its.toArray },toks:=t' }:=
 I.laid (λ_ _ q=>bc _ q) (bo _) ⟨a,its,0,d,bC _ Z⟩
theorem aP.fresh(I:aP X aa σ H s):H s.heap.objs.size=am:=I.hok.fresh (bo _)
theorem aP.lstM(I:aP X aa σ H s)(d:H l=U (.lst xs)):xs.length<=Bb/\∃(a:List af) (n:Nat),aR xs a/\xs.length=a.length/\s.heap.get? l=U { cls:=.type "list",data:=.seq a.toArray n }:=by
 obtain⟨z,a,n,r,e⟩:=I.hok l _ d;exact⟨z,a,n,r,r.length,e⟩
theorem zfE(h:n<=Bb):ic n=aq:=by
 unfold ic;exact Bk ()
end
section
variable {X:Cx}
def zdE:V->List V->D->VK->Prop:=λx b H Q=>∃l a y,x=.ref l/\b=[y]/\H l=U (.lst a)/\a.length<Bb/\Q .non (upd H l (.lst (a++[y])))
theorem xp:MtM X "list.append" zdE:=by
 intro p s g H x j v k Q I c d h;obtain⟨l,i,y,rfl,rfl,b,m,q⟩:=h;cases c;obtain⟨u,rfl,f⟩:=d.one;obtain⟨z,a,n,r,o,e⟩:=I.lstM b;refine iP F.slot_list_append ⟨_,e,Z⟩ F.entry_list_append (F.args_list_append_2 _ _) (PySem.list_append l a.toArray n u (by rw[bG];lia)) ⟨e,?_⟩;refine⟨.non,_,I.lset (its':=a++[u]) b e (by simp) (r.append (.cons f .nil)) ?_,Z,q⟩;rw[bx,fE];lia
def zdF:V->List V->D->VK->Prop:=λx d H Q=>∃l b c a,x=.ref l/\d=[.ref b]/\H l=U (.lst c)/\H b=U (.lst a)/\c.length+a.length<=Bb/\Q .non (upd H l (.lst (c++a)))
theorem zeC:MtM X "list.extend" zdF:=by
 intro O s y H x G v J Q I i j h;obtain⟨l,b,E,A,rfl,rfl,g,t,M,q⟩:=h;cases i;obtain⟨u,rfl,k⟩:=j.one;cases k;obtain⟨z,c,n,r,N,e⟩:=I.lstM g;obtain⟨C,a,o,m,p,w⟩:=I.lstM t;have f:c.toArray.size+a.toArray.size<=Bb:=by rw[bG,bG];lia
 have d:¬ (!c.toArray.isEmpty&&ic (c.toArray.size+a.toArray.size))=ak:=by
  rw[zfE f,Bool.and_false];exact bK
 refine iP F.slot_list_extend ⟨_,e,Z⟩ F.entry_list_extend (F.args_list_extend_2 _ _) (AutoSeq1.list_extend_list_list_0 l c.toArray n b a.toArray o d (by rw[bG];lia) ()) ⟨e,w,?_⟩
 refine⟨.non,_,I.lset (its':=c++a) g e (by simp) (r.append m) ?_,Z,q⟩;rw[bx];lia
def zkk:V->List V->D->VK->Prop:=λx b H Q=>∃l a y,x=.ref l/\b=[]/\H l=U (.lst a)/\a[a.length-1]?=U y/\Q y (upd H l (.lst a.dropLast))
theorem zcM:MtM X "list.pop" zkk:=by
 intro A s o H x t v w Q I f g h;obtain⟨l,p,y,rfl,rfl,d,j,q⟩:=h;cases f;have c:=g.zero;subst c;obtain⟨z,a,n,r,m,e⟩:=I.lstM d;obtain⟨u,k,i⟩:=r.get j;have b:a.toArray[a.toArray.size-1]?=U u:=by
  show a.toArray[a.length-1]?=U u;rw[<-c9,<-m];exact k
 refine iP F.slot_list_pop ⟨_,e,Z⟩ F.entry_list_pop (F.args_list_pop_1 _) (MeetsSeq.list_pop_last l a.toArray n u b (by rw[bG];lia)) ⟨e,?_⟩;refine⟨y,_,I.lset (its':=a.dropLast) d e ?_ r.dropLast ?_,i,q⟩
 .show a.toArray.eraseIdxIfInBounds (a.toArray.size-1)=a.dropLast.toArray;rw[bG,iQ,zcL]
 .rw[List.length_dropLast];lia
def zai:R2:=λx y H Q=>∃l b c a,x=.ref l/\y=.ref b/\H l=U (.lst c)/\H b=U (.lst a)/\c.length+a.length<=Bb/\∀p,H p=am->Q (.ref p) (upd H p (.lst (c++a)))
theorem Zd:ud X (binaryOp .Add) zai:=by
 intro J s p H x y v u Q I f d h;obtain⟨l,b,A,t,rfl,rfl,j,k,E,q⟩:=h;cases f;cases d;obtain⟨z,c,n,r,G,e⟩:=I.lstM j;obtain⟨w,a,C,g,i,o⟩:=I.lstM k;refine PySem.P.add_list e o ?_ (by rw[bG,bG];lia);have m:c.toArray++a.toArray=(c++a).toArray:=by simp
 rw[m];exact⟨.ref _,_,I.lnew (t':=s.toks) (r.append g) (by rw[bx];lia),Z,q _ I.fresh⟩
end
section
variable {prog:av}{w:ay}{A:aw}{E:af->ah->Prop}{s:ah}
set_option maxRecDepth 100000 in
end
section
variable {κ:Type} [DecidableEq κ]
def yj(b:List (κ×V))(k:κ):Option V:=(b.find? λa=>decide (a.1=k)).map (·.2)
def yS(b:List (κ×V))(k:κ)(v:V):List (κ×V) :=
 if (b.any λa=>decide (a.1=k))=ak then b.map (λa=>if a.1=k then (a.1,v) else a) else b++[(k,v)]
def yz(b:List (κ×V))(k:κ):List (κ×V):=b.filter λa=>decide (a.1≠k)
theorem zbl :yj ([]:List (κ×V)) k=am:=rfl
theorem yV{p:κ×V}{r:List (κ×V)}(e:p.1=k):yj (p::r) k=U p.2:=by simp[yj,fO,e]
theorem yW{p:κ×V}{r:List (κ×V)}(e:¬ p.1=k):yj (p::r) k=yj r k:=by simp[yj,fO,e]
theorem vE(k:κ):∀a:List (κ×V),(a.any λb=>decide (b.1=k))=(yj a k).isSome
 |[]=>rfl
 |p::r=>by
  rw[lJ];by_cases e:p.1=k
  .simp only[yV e,Bj e,Bool.true_or,Option.isSome_some]
  .rw[yW e,Bk e,Bool.false_or];exact vE k r
theorem zbm(k j:κ)(y:V):∀c:List (κ×V),yj (c.map λa=>if a.1=k then (a.1,y) else a) j=(yj c j).map λx=>if j=k then y else x
 |[]=>rfl
 |p::r=>by
  have b:=zbm k j y r;rw[bh];by_cases h:p.1=k
  .rw[au h];by_cases e:p.1=j
   .rw[yV (p:=(p.1,y)) e,yV e,iA,au (e.symm.trans h)]
   .rw[yW (p:=(p.1,y)) e,yW e,b]
  .rw[ao h];by_cases e:p.1=j
   .rw[yV (p:=p) e,yV e,iA,ao (λz=>h (e.trans z))]
   .rw[yW (p:=p) e,yW e,b]
theorem Ql(k j:κ)(y:V):∀a:List (κ×V),yj a k=am->yj (a++[(k,y)]) j=if j=k then U y else yj a j
 |[],_=>by
  by_cases e:k=j
  .rw[au e.symm];exact yV (p:=(k,y)) e
  .rw[ao (λz=>e z.symm)];exact yW (p:=(k,y)) e
 |p::r,hn=>by
  rw[dE];have b:¬ p.1=k:=λz=>by rw[yV z] at hn;cases hn
  rw[yW b] at hn;have c:=Ql k j y r hn;by_cases e:p.1=j
  .rw[yV e,yV e,ao (λz=>b (e.trans z))]
  .rw[yW e,yW e,c]
theorem V2(b:List (κ×V))(k j:κ)(y:V):yj (yS b k y) j=if j=k then U y else yj b j:=by
 unfold yS;by_cases a:(b.any λc=>decide (c.1=k))=ak
 .rw[au a,zbm];rw[vE] at a;by_cases e:j=k
  .obtain⟨x,d⟩:=fN.mp a;rw[au e,e,d,iA,au rfl]
  .rw[ao e];cases yj b j with
   |none=>rfl
   |some x=>rw[iA,ao e]
 .rw[ao a];refine Ql k j y b ?_;rw[vE] at a;cases q:yj b k with
  |none=>rfl
  |some x=>rw[q] at a;exact(a Z).elim
theorem wG(a:List (κ×V))(k:κ)(v:V):(yS a k v).length<=a.length+1:=by
 unfold yS;split
 .rw[bd];lia
 .rw[bx,bU,oE];lia
theorem jo{a:List (κ×V)}(v:V)(h:yj a k=am):yS a k v=a++[(k,v)]:=by
 unfold yS;rw[vE,h];exact ao ()
theorem tY.isSome_eq(r:tY o u):o.isSome=u.isSome:=by
 cases o with
 |none=>cases u with
  |none=>rfl
  |some _=>exact(show False from r).elim
 |some _=>cases u with
  |none=>exact(show False from r).elim
  |some _=>rfl
theorem tY.getD(r:tY o u)(a:aU d d'):aU (o.getD d) (u.getD d'):=by
 cases o with
 |none=>cases u with
  |none=>exact a
  |some _=>exact(show False from r).elim
 |some _=>cases u with
  |none=>exact(show False from r).elim
  |some _=>exact r
theorem KV.val(r:KV aJ vs)(k:κ):tY (yj aJ k) (valueAt vs k):=by
 unfold KV at r;induction r with
 |nil=>exact eR
 |@cons p q ps qs h t ih =>
  obtain⟨c,d⟩:=h;by_cases e:p.1=k
  .have a:q.1=k:=c.symm.trans e;have b:valueAt (q::qs) k=U q.2:=by simp[valueAt,fO,a]
   rw[yV e,b];exact d
  .have a:¬ q.1=k:=λz=>e (c.trans z);have b:valueAt (q::qs) k=valueAt qs k:=by simp[valueAt,fO,a]
   rw[yW e,b];exact ih
theorem KV.any(r:KV aJ vs)(k:κ):(aJ.any λa=>decide (a.1=k))=vs.any λa=>decide (a.1=k):=by
 unfold KV at r;induction r with
 |nil=>rfl
 |cons h t ih=>rw[lJ,lJ,ih,h.1]
theorem KV.repl(r:KV aJ vs)(k:κ)(c:aU y u) :
  KV (aJ.map λa=>if a.1=k then (a.1,y) else a) (vs.map λa=>if a.1=k then (a.1,u) else a):=by
 unfold KV at r ⊢;induction r with
 |nil=>exact .nil
 |@cons p q ps qs h t ih =>
  rw[bh,bh];refine .cons ?_ ih;obtain⟨b,d⟩:=h;by_cases e:p.1=k
  .rw[au e,au (b.symm.trans e)];exact⟨b,c⟩
  .rw[ao e,ao (λz=>e (b.trans z))];exact⟨b,d⟩
theorem KV.put(r:KV aJ vs)(k:κ)(a:aU y u):KV (yS aJ k y) (stored vs k u):=by
 unfold yS stored;rw[r.any k];by_cases e:(vs.any λb=>decide (b.1=k))=ak
 .rw[au e,au e];exact r.repl k a
 .rw[ao e,ao e];exact Paired.snoc r ⟨Z,a⟩
theorem KV.drop(r:KV aJ vs)(k:κ):KV (yz aJ k) (without vs k):=by
 unfold KV at r ⊢;unfold yz without;induction r with
 |nil=>exact .nil
 |@cons p q ps qs h t ih =>
  obtain⟨c,d⟩:=h;rw[cp,cp];by_cases e:p.1=k
  .have a:¬ decide (p.1≠k)=ak:=by simp[e]
   have b:¬ decide (q.1≠k)=ak:=by simp[c.symm.trans e]
   rw[ao a,ao b];exact ih
  .have f:¬ q.1=k:=λz=>e (c.trans z);have a:decide (p.1≠k)=ak:=by simp[e]
   have b:decide (q.1≠k)=ak:=by simp[f]
   rw[au a,au b];exact .cons ⟨c,d⟩ ih
theorem KV.length{a:List (κ×af)}(r:KV aJ a):aJ.length=a.length:=bE r
theorem zbn(a:List (κ×V))(k:κ):(yz a k).length<=a.length:=fG _ _
end
theorem WN(r:aU (kV k) u):(yA P w).is k u=ak:=by
 cases k with
 |inl i=>obtain⟨t,e⟩:=(show ∃t,u=f7 i t from r);subst e;exact zbb P w i t
 |inr x=>obtain⟨t,e⟩:=(show ∃t,u=iq x t from r);subst e;exact zbc P w x t
theorem Wj{P:av}{w:ay}:∀ {ks:List aW} {a:List af},aR (ks.map kV) a->ItemsAre (yA P w) ks a
 |[],_,r=>by rw[mD] at r;cases r;exact .nil
 |k::ks,_,r=>by
  rw[bh] at r;cases r with
  |cons h t=>exact .cons (WN h) (Wj t)
abbrev KT(H:D):List (List aW×V)->List (List aW×L×af)->Prop:=Paired λp q=>p.1=q.1/\H q.2.1=U (.tup (p.1.map kV))/\aU p.2 q.2.2
theorem KT.val{H:D}{f:List (List aW×V)}{c:List (List aW×L×af)}(r:KT H f c)(k:List aW):tY (yj f k) ((atKey c k).map (·.2)):=by
 induction r with
 |nil=>exact eR
 |@cons p q ps qs h t ih =>
  obtain⟨d,_,g⟩:=h;by_cases e:p.1=k
  .have a:q.1=k:=d.symm.trans e;have b:atKey (q::qs) k=U q.2:=by simp[atKey,fO,a]
   rw[yV e,b];exact g
  .have a:¬ q.1=k:=λz=>e (d.trans z);have b:atKey (q::qs) k=atKey qs k:=by simp[atKey,fO,a]
   rw[yW e,b];exact ih
theorem KT.repl{H:D}(r:KT H aJ xs)(k:List aW)(d:aU y u) :
  KT H (aJ.map λb=>if b.1=k then (b.1,y) else b) (xs.map (putAt k u)):=by
 induction r with
 |nil=>exact .nil
 |@cons p q ps qs h t ih =>
  rw[bh,bh];refine .cons ?_ ih;obtain⟨a,c,f⟩:=h;unfold putAt;by_cases e:p.1=k
  .rw[au e,au (a.symm.trans e)];exact⟨a,c,d⟩
  .rw[ao e,ao (λz=>e (a.trans z))];exact⟨a,c,f⟩
theorem KT.put{H:D}(r:KT H aJ xs)(k:List aW)(d:H b=U (.tup (k.map kV)))(a:aU y u) :
  KT H (yS aJ k y) (storedH xs k b u):=by
 have e:(aJ.any λc=>decide (c.1=k))=(atKey xs k).isSome:=by
  rw[vE,(r.val k).isSome_eq,mT]
 unfold yS storedH;rw[e];by_cases q:(atKey xs k).isSome=ak
 .rw[au q,au q];exact r.repl k a
 .rw[ao q,ao q];exact Paired.snoc r ⟨Z,d,a⟩
theorem KT.keeps{H c:D}(r:KT H aJ xs)(d:∀b a,H b=U (.tup a)->c b=U (.tup a)):KT c aJ xs:=
 Paired.mapP r λ_ _ z=>⟨z.1,d _ _ z.2.1,z.2.2⟩
section
variable {P:av}{w:ay}{H:D}{h:ax}{a:L}
theorem ziR(b:uk P w H h)(e:Rd H a u):aV P w H h a u:=e.ok b
theorem V3(b:uk P w H h)(e:Rd H a (.dK aJ)):aJ.length<=Bb/\(a==sysModules)=aq/\∃vs,KV aJ vs/\h.DictOf (yA P w) a vs:=
 show aV P w H h a (.dK aJ) from ziR b e
theorem zfF(b:uk P w H h)(e:H a=U (.dK aJ)):aJ.length<=Bb/\(a==sysModules)=aq/\∃vs,KV aJ vs/\h.DictOf (yA P w) a vs:=V3 b (.inl e)
theorem qh(c:uk P w H h)(e:H a=U (.tup (ks.map kV))):(tupleKind (yA P w)).is h ks a:=by
 obtain⟨_,b,r,o,g,f,n,d⟩:=(show aV P w H h a (.tup (ks.map kV)) from c a _ e);exact⟨o,b.toArray,n,g,f,d,by simpa using Wj r⟩
theorem V4(c:uk P w H h)(e:Rd H a (.dT aJ)):aJ.length<=Bb/\(a==sysModules)=aq /\
  ∃xs,KT H aJ xs/\h.DictOfH (tupleKind (yA P w)) a xs:=by
 obtain⟨z,y,xs,r,o,k,n,j,i,g,f,d⟩:=(show aV P w H h a (.dT aJ) from ziR c e);refine⟨z,y,xs,r,o,k,n,j,i,g,f,λx hx=>?_,d⟩;have b:∀ {l:List (List aW×V)} {m:List (List aW×L×af)},KT H l m->∀x∈m,(tupleKind (yA P w)).is h x.1 x.2.1:=by
  intro l m q;induction q with
  |nil=>intro x hx;exact nomatch hx
  |@cons p q ps qs hq t ih =>
   intro x hx;rcases bw.mp hx with e|hx
   .subst e;exact qh c (by rw[<-hq.1];exact hq.2.1)
   .exact ih x hx
 exact b r x hx
theorem Qm(b:uk P w H h)(e:H a=U (.dT aJ)):aJ.length<=Bb/\(a==sysModules)=aq /\
  ∃xs,KT H aJ xs/\h.DictOfH (tupleKind (yA P w)) a xs:=V4 b (.inl e)
end
def tP(H:D)(a:L)(y:V)(r:Option V):Prop :=
 (∃c k,Rd H a (.dK c)/\y=kV k/\r=yj c k)\/∃c k b,Rd H a (.dT c)/\y=.ref b/\H b=U (.tup (k.map kV))/\r=yj c k
def DPut(H:D)(a:L)(y v:V)(d:D):Prop :=
 (∃c k,H a=U (.dK c)/\y=kV k/\c.length<Bb/\d=upd H a (.dK (yS c k v))) \/
 ∃c k b,H a=U (.dT c)/\y=.ref b/\H b=U (.tup (k.map kV))/\c.length<Bb/\d=upd H a (.dT (yS c k v))
theorem tP.k{H:D}{b:List (aW×V)}{k:aW}(e:H a=U (.dK b)):tP H a (kV k) (yj b k):=.inl ⟨b,k,.inl e,Z,Z⟩
theorem tP.t{H:D}{c:List (List aW×V)}{k:List aW}(e:H a=U (.dT c))(d:H b=U (.tup (k.map kV))):tP H a (.ref b) (yj c k):=.inr ⟨c,k,b,.inl e,Z,d,Z⟩
theorem DPut.k{H:D}{b:List (aW×V)}{k:aW}(e:H a=U (.dK b))(c:b.length<Bb):DPut H a (kV k) v (upd H a (.dK (yS b k v))):=.inl ⟨b,k,e,Z,c,Z⟩
theorem DPut.t{H:D}{c:List (List aW×V)}{k:List aW}(e:H a=U (.dT c))(f:H b=U (.tup (k.map kV)))(d:c.length<Bb) :
  DPut H a (.ref b) v (upd H a (.dT (yS c k v))):=.inr ⟨c,k,b,e,Z,f,d,Z⟩
section
variable {X:Cx}{aa:List (L×Obj)}{σ:St}{H:D}{s:ah}{a:L}{y v:V}{u r:af}{o:Option V}{A:aw}{E:af->ah->Prop}
theorem aP.big(I:aP X aa σ H s):sysModules<s.heap.objs.size:=by
 have h:Bd<s.heap.objs.size:=(I.mod.glob.keeps I.bk).lt;exact rO () h
theorem zeD{Q:af->ah->Prop}(x:A.units+1<cLine)(I:aP X aa σ H s)(g:tP H a y (U v))(q:aU y u)(h:∀f n,aP X aa σ H n->aU v f->Q f n) :
  Bf (Bg X.prog X.w) A (getItem (.ref a) u) Q E s:=by
 rcases g with ⟨aJ,k,e,ey,l⟩|⟨aJ,k,b,e,ey,eb,l⟩
 .subst ey;obtain⟨z,G,w,d,m⟩:=V3 I.hok e;obtain⟨f,i,c⟩:=tY.some_of (v:=v) (o:=valueAt w k) (by rw[l];exact d.val k);exact wpAny_getItem_of (WN q) m.mapOf i (h f _ (I.tok _) c)
 .subst ey;cases (show u=bO b from q);obtain⟨z,G,t,d,m⟩:=V4 I.hok e;obtain⟨f,i,c⟩:=tY.some_of (v:=v) (o:=(atKey t k).map (·.2)) (by rw[l];exact d.val k);obtain⟨p,C,j⟩:=bY.mp i;refine wpAny_getItem_heap (dX x) (qh I.hok eb) m C ?_;rw[j];exact h f _ (I.tok _) c
theorem zkM{Q:af->ah->Prop}(m:A.units+1<cLine)(I:aP X aa σ H s)(g:tP H a y o)(j:aU y u)(h:∀i,aP X aa σ H i->Q (.bool o.isSome) i) :
  Bf (Bg X.prog X.w) A (Bi .In u (.ref a)) Q E s:=by
 rcases g with ⟨aJ,k,e,ey,l⟩|⟨aJ,k,b,e,ey,eb,l⟩
 .subst ey;obtain⟨z,d,p,c,f⟩:=V3 I.hok e;refine wpAny_in_of (WN j) d f.mapOf ?_;rw[<-(c.val k).isSome_eq,<-l];exact h _ (I.tok _)
 .subst ey;cases (show u=bO b from j);obtain⟨z,d,n,c,f⟩:=V4 I.hok e;refine wpAny_in_heap (dX m) (qh I.hok eb) d f ?_;have q:=(c.val k).isSome_eq;rw[mT] at q;rw[<-q,<-l];exact h _ (I.tok _)
theorem zhN{Q:af->ah->Prop}(m:A.units+1<cLine)(I:aP X aa σ H s)(g:tP H a y o)(j:aU y u)(h:∀i,aP X aa σ H i->Q (.bool (!o.isSome)) i) :
  Bf (Bg X.prog X.w) A (Bi .NotIn u (.ref a)) Q E s:=by
 rcases g with ⟨aJ,k,e,ey,l⟩|⟨aJ,k,b,e,ey,eb,l⟩
 .subst ey;obtain⟨z,d,p,c,f⟩:=V3 I.hok e;refine wpAny_notIn_of (WN j) d f.mapOf ?_;rw[<-(c.val k).isSome_eq,<-l];exact h _ (I.tok _)
 .subst ey;cases (show u=bO b from j);obtain⟨z,d,n,c,f⟩:=V4 I.hok e;refine wpAny_notIn_heap (dX m) (qh I.hok eb) d f ?_;have q:=(c.val k).isSome_eq;rw[mT] at q;rw[<-q,<-l];exact h _ (I.tok _)
theorem Z8(I:aP X aa σ H s)(d:Mut (H a))(f:cN a s.heap h')(g:∃q,h'.get? a=U q)(c:aV X.prog X.w (upd H a ob) h' a ob) :
  aP X aa σ (upd H a ob) { s with heap:=h',toks:=t' }:=
 I.write (x:=a) (e:=a) d (.inl Z) (λb q h z=>(f.2 b h).trans z) g c
theorem V5{e:D}(z:aJ.length<=Bb)(c:(a==sysModules)=aq)(b:KV aJ vs)(d:h'.DictOf (yA P w) a vs) :
  aV P w e h' a (.dK aJ):=⟨z,c,vs,b,d⟩
theorem zeE{M:D}{Q:Unit->ah->Prop}(T:A.units+1<cLine)(I:aP X aa σ H s)(g:DPut H a y v M)(x:aU y u)(C:aU v r)(h:∀w,aP X aa σ M w->Q PUnit.unit w) :
  Bf (Bg X.prog X.w) A (setItem (.ref a) u r) Q E s:=by
 rcases g with ⟨aJ,k,e,ey,l,eH⟩|⟨aJ,k,b,e,ey,eb,l,eH⟩
 .subst ey eH;obtain⟨z,p,O,d,t⟩:=zfF I.hok e;have j:O.length<=Bb:=by rw[<-d.length];exact z
  have n:(yS aJ k v).length<=Bb:=by have:=wG aJ k v;lia
  refine wpAny_setItem_pairs (hsz:=j) (WN x) t λG f m=>h _ ?_;have he:∃q,G.get? a=U q:=let ⟨q,_,_,i,_⟩:=f;⟨q,i⟩
  exact Z8 I (by rw[e];exact eR) m he (V5 n p (d.put k C) f)
 .subst ey eH;cases (show u=bO b from x);obtain⟨z,p,N,d,t⟩:=Qm I.hok e;have j:N.length<=Bb:=by rw[<-bE d];exact z
  have n:(yS aJ k v).length<=Bb:=by have:=wG aJ k v;lia
  refine wpAny_setItem_heap (hsz:=j) (dX T) (qh I.hok eb) t λG f m=>h _ ?_;obtain⟨q,es,ep,i,h2,h3,h4,_,h5⟩:=f;refine Z8 I (by rw[e];exact eR) m ⟨q,i⟩ ⟨n,p,_,(d.put k eb C).keeps λc ys J=>?_,q,es,ep,i,h2,h3,h4,h5⟩;rw[zm (zL J e ())];exact J
end
section
variable {X:Cx}{aa:List (L×Obj)}{σ:St}{H:D}{s:ah}{a:L}{aJ:List (aW×V)}{k:aW}{u:af}{A:aw}{E:af->ah->Prop}
theorem ziS{Q:af->ah->Prop}(I:aP X aa σ H s)(e:H a=U (.dK aJ))(f:aU (kV k) u)(l:yj aJ k=U v)(n:more=[]\/∃x,more=[x]) (h:∀c m,aP X aa σ (upd H a (.dK (yz aJ k))) m->aU v c->Q c m):Bf (Bg X.prog X.w) A (call (.builtin "dict.pop") (.ref a::u::more)) Q E s:=by
 obtain⟨z,G,j,b,p⟩:=zfF I.hok e;obtain⟨c,r,g⟩:=tY.some_of (v:=v) (o:=valueAt j k) (by rw[<-l];exact b.val k);have y:(keyPart u).isSome=ak:=by
  cases k with
  |inl i=>obtain⟨t,q⟩:=(show ∃t,u=f7 i t from f);subst q;rfl
  |inr x=>obtain⟨t,q⟩:=(show ∃t,u=iq x t from f);subst q;rfl
 have J:argsOk "dict.pop" ⟨.ref a::u::more,[]⟩:=by
  rcases n with q|⟨x,q⟩
  .subst q;exact nG _ _
  .subst q;exact nH _ _ _
 refine ie eO p.typeIs iI J (meets_dict_pop_there (yA X.prog X.w) a (WN f) more n y)
  ⟨j,c,p,by rw[<-b.length];exact z,r,λM d w=>h c _ ?_ g⟩
 have C:∃q,M.get? a=U q:=let ⟨q,_,_,hq,_⟩:=d;⟨q,hq⟩
 exact Z8 I (by rw[e];exact eR) w C (V5 (bM (zbn aJ k) z) G (b.drop k) d)
theorem zjo{Q:af->ah->Prop}(I:aP X aa σ H s)(e:H a=U (.dK aJ))(b:aU (kV k) u)(l:yj aJ k=am)(h:∀f,aP X aa σ H f->Q r f) :
  Bf (Bg X.prog X.w) A (call (.builtin "dict.pop") [.ref a,u,r]) Q E s:=by
 obtain⟨z,n,d,c,g⟩:=zfF I.hok e;have m:valueAt d k=am:=tY.none_of (by rw[<-l];exact c.val k);have j:(keyPart u).isSome=ak:=by
  cases k with
  |inl i=>obtain⟨t,q⟩:=(show ∃t,u=f7 i t from b);subst q;rfl
  |inr x=>obtain⟨t,q⟩:=(show ∃t,u=iq x t from b);subst q;rfl
 exact ie eO g.typeIs iI (nH _ _ _) (meets_dict_pop_default (yA X.prog X.w) a (WN b) n j r) ⟨d,g,m,h _ (I.tok _)⟩
end
def zkl(i:aB):Prop:=∀a b,subscripted i aq a b=operate [a,b] (getItem a b)
theorem zhO{E:af->ah->Prop}{d:Env}{g:Pos}{T id:String}{Q:af->ah->Prop}
  (l:typeLookup (.type T) "__getitem__"=pure (U (.builtin id))) (k:zkl slice) (h:Bf (Bg prog w) A (eval value d) (λo c=>Bf (Bg prog w) A (eval slice d) (λi s₂=>s₂.TypeIs o T/\Bf (Bg prog w) A (getItem o i) Q E s₂) E c) E s) :
  Bf (Bg prog w) A (eval (.Subscript value slice g) d) Q E s:=by
 refine Subscript_ (eG h (λo c f=>eG f (λi s₂ a=>?_) λ_ _ x=>x) λ_ _ x=>x);obtain⟨j,a⟩:=a;unfold subscriptTail;refine ba ?_;rw[getitemInPython_of_ne j.not_modules];refine ba (wpAny_specialOf j l ?_);have fin:Bf (Bg prog w) A (subscripted slice aq o i) (λr b=>Bf (Bg prog w) A (letTemporaryGo value o r >>= λ_=>pure r) Q E b) E s₂:=by
  rw[k o i];exact wpAny_operating (eG a (λr b e=>ba (wpAny_letTemporaryGo (bg e))) λ_ _ x=>x)
 first
  |exact bg (ba fin)
  |exact ba (bg (ba fin))
  |exact ba fin
theorem zbo{f:List (L×Obj)}{d:St}{H:D}{s:ah}{a:L}{y:V}{o:Option V}(I:aP X f d H s)(g:tP H a y o):s.TypeIs (.ref a) "dict":=by
 rcases g with ⟨aJ,k,e,_,_⟩|⟨aJ,k,b,e,_,_,_⟩
 .obtain⟨_,_,i,_,c⟩:=V3 I.hok e;exact c.typeIs
 .obtain⟨_,_,h,_,c⟩:=V4 I.hok e;exact c.typeIs
def jM(e d:TE):TE:=λb H Q=>e b H λx f=>d b f λy c=>∃a v,x=.ref a/\tP c a y (U v)/\Q v c
def Ze(f d e:TE):TS:=λj b H=>e b H λv i=>f b i λx h=>d b h λy g=>∃a c,x=.ref a/\DPut g a y v c/\j.nx b c
section
variable {X:Cx}{o i e value:aB}{pos pos' tpos:Pos}{td ty tv:TE}
theorem wt(p:X.A.units+1<cLine)(r:PE X o td)(t:PE X i ty)(q:zkl i):PE X (.Subscript o i pos) (jM td ty):=by
 intro d s c H Q I h;refine zhO PySem.F.slot_dict_getitem.lookup q (aZ (r d s c H _ I h) λu j ⟨x,E,A,l,n⟩=>aZ (t d j c E _ A n) ?_);rintro N M ⟨y,C,f,k,a,v,w,g,m⟩;subst w;obtain rfl:u=bO a:=l;exact⟨zbo f g,zeD p f g k λG J z b=>⟨v,C,z,b,m⟩⟩
theorem vm(t:X.A.units+1<cLine)(z:PE X o td)(A:PE X i ty)(q:PE X value tv)(w:swapsWith value (U (.Subscript o i pos')) pos.line X.env=pure aq) :
  PS X (.Assign [.Subscript o i pos'] value pos) (Ze td ty tv):=by
 intro c s b H Bq I h;refine om (aZ (q c s b H _ I h) λr f ⟨v,Q,M,l,p⟩=>aZ (z c f b Q _ M p) λu d ⟨x,O,J,k,n⟩=>aZ (A c d b O _ J n) ?_) w;rintro iv s3 ⟨y,H3,G,j,a,N,C,g,m⟩;subst C;obtain rfl:u=bO a:=k;exact zeE t G g j l λT E=>⟨b,N,E,m⟩
end
theorem zfG{H:D}(h:ax)(a:sysModules<h.objs.size):aV P w H (h.push { cls:=.type "dict",data:=.dict #[] }) h.objs.size (.dK []):=
 ⟨bS _,beq_eq_false_iff_ne.mpr (fq (bR a)),[],.nil,Heap.DictOf.new h⟩
theorem zbp{H:D}(h:ax)(a:sysModules<h.objs.size):aV P w H (h.push { cls:=.type "dict",data:=.dict #[] }) h.objs.size (.dT []):=
 ⟨bS _,beq_eq_false_iff_ne.mpr (fq (bR a)),[],.nil,_,#[],0,bC _ Z,⟨Z,Z,Z⟩,Z,Z,cO⟩
def Wk:TE:=λ_ H Q=>∀p,H p=am->Q (.ref p) (upd H p (.dK []))
def YV:TE:=λ_ H Q=>∀p,H p=am->Q (.ref p) (upd H p (.dT []))
section
variable {X:Cx}{pos:Pos}
theorem Zf:PE X (.Dict [] [] pos) Wk:=λc s b H Q I h =>
 wpAny_Dict_empty ⟨.ref s.heap.objs.size,_,I.laid (a:=s.heap.objs.size) (o:=.dK []) (t':=s.toks) (λ_ _ q=>bc _ q) (bo _) (zfG s.heap I.big),Z,h _ (I.hok.fresh (bo _))⟩
theorem kJ:PE X (.Dict [] [] pos) YV:=λc s b H Q I h =>
 wpAny_Dict_empty ⟨.ref s.heap.objs.size,_,I.laid (a:=s.heap.objs.size) (o:=.dT []) (t':=s.toks) (λ_ _ q=>bc _ q) (bo _) (zbp s.heap I.big),Z,h _ (I.hok.fresh (bo _))⟩
end
structure M1(X:Cx)(o:aB)(m:Str)(tj:Pos)(e:aB)(tG:Pos):Prop where
 base:attributeBase o m X.env (eval o X.env)=eval o X.env
 few:((backTo tG (Be [e] X.env)).all (λx=>!x.1)&&(backToKw tG (keywordEach [] X.env)).all (λx=>x.1.isSome)
  && decide (([e]:List aB).length+([]:List Keyword).length+(if ([]:List Keyword).isEmpty then 0 else 1)<30))=ak
 line:(tj.endLine==tG.line)=ak
 trees:backTo tG (Be [e] X.env)=[(aq,eval e X.env)]
structure M2(X:Cx)(o:aB)(m:Str)(tj:Pos)(e f:aB)(tG:Pos):Prop where
 base:attributeBase o m X.env (eval o X.env)=eval o X.env
 few:((backTo tG (Be [e,f] X.env)).all (λx=>!x.1)&&(backToKw tG (keywordEach [] X.env)).all (λx=>x.1.isSome)
  && decide (([e,f]:List aB).length+([]:List Keyword).length+(if ([]:List Keyword).isEmpty then 0 else 1)<30))=ak
 line:(tj.endLine==tG.line)=ak
 trees:backTo tG (Be [e,f] X.env)=[(aq,eval e X.env),(aq,eval f X.env)]
def IsD(H:D)(a:L):Prop:=(∃b,Rd H a (.dK b))\/∃b,Rd H a (.dT b)
theorem Wl{k:List (L×Obj)}{j:St}{H:D}{s:ah}{a:L}(I:aP X k j H s)(d:IsD H a) :
  s.TypeIs (.ref a) "dict"/\(∀b,bO a=.ref b->∃c,s.heap.get? b=U c/\c.dict=am)/\(a==sysModules)=aq:=by
 rcases d with ⟨aJ,e⟩|⟨aJ,e⟩
 .obtain⟨_,g,m,_,f⟩:=V3 I.hok e;refine⟨f.typeIs,λb q=>?_,g⟩;cases q;obtain⟨c,_,_,i,h,_⟩:=f;exact⟨c,i,h.2.1⟩
 .obtain⟨_,g,l,_,f⟩:=V4 I.hok e;refine⟨f.typeIs,λb q=>?_,g⟩;cases q;obtain⟨c,_,_,i,h,_⟩:=f;exact⟨c,i,h.2.1⟩
section
variable {X:Cx}{aa:List (L×Obj)}{σ:St}{H:D}{s:ah}{a:L}{y d:V}{u r:af}{o:Option V}{A:aw}{E:af->ah->Prop}
theorem zjq{Q:af->ah->Prop}(t:A.units+1<cLine)(I:aP X aa σ H s)(g:tP H a y o)(n:aU y u)(p:aU d r)(h:∀j m,aP X aa σ H m->aU (o.getD d) j->Q j m) :
  Bf (Bg X.prog X.w) A (call (.builtin "dict.get") [.ref a,u,r]) Q E s:=by
 rcases g with ⟨aJ,k,e,ey,l⟩|⟨aJ,k,b,e,ey,eb,l⟩
 .subst ey;obtain⟨z,i,v,c,f⟩:=V3 I.hok e;refine ie iW f.typeIs on (nI _ _ _) (meets_dict_get_default (yA X.prog X.w) a (WN n) i r) ⟨_,f.mapOf,h _ _ (I.tok _) ?_⟩;rw[l];exact(c.val k).getD p
 .subst ey;cases (show u=bO b from n);obtain⟨z,i,q,c,f⟩:=V4 I.hok e;refine ie iW f.typeIs on (nI _ _ _) (meetsH_dict_get_default (tupleKind (yA X.prog X.w)) a b i r) ⟨dX t,k,q,qh I.hok eb,f,h _ _ (I.tok _) ?_⟩;rw[l];exact(c.val k).getD p
end
def Zg(g e f:TE):TE:=λb H Q=>g b H λx d=>∃a,x=.ref a/\IsD d a/\e b d λy h=>f b h λz c=>∃o,tP c a y o/\Q (o.getD z) c
def zaj(g f:TE):TE:=λc H Q=>g c H λx e=>∃a,x=.ref a/\IsD e a/\f c e λy d=>∃b k v,d a=U (.dK b)/\y=kV k/\yj b k=U v/\Q v (upd d a (.dK (yz b k)))
def zcN(h f g:TE):TE:=λc H Q=>h c H λx e=>∃a,x=.ref a/\IsD e a/\f c e λy i=>g c i λz d=>∃b k,d a=U (.dK b)/\y=kV k /\
 (∀v,yj b k=U v->Q v (upd d a (.dK (yz b k))))/\(yj b k=am->Q z d)
section
variable {X:Cx}{o e f:aB}{tj tG:Pos}{td ty tx:TE}
theorem kK(C:X.A.units+1<cLine)(E:PE X o td)(J:PE X e ty)(G:PE X f tx)(m:M2 X o "get" tj e f tG):PE X (.Call (.Attribute o "get" tj) [e,f] [] tG) (Zg td ty tx):=by
 intro i s b H Q I h;refine gJ m.base m.few m.line dY iW PySem.F.type_dict_get (aZ (E i s b H _ I h) ?_);rintro u p ⟨x,H1,j,t,a,M,d,A⟩;subst M;obtain rfl:u=bO a:=t;obtain⟨l,k,_⟩:=Wl j d;refine⟨l,k,?_⟩;rw[m.trees];refine dv Z (eB (cZ (aZ (J i p b H1 _ j A) λiv n ⟨y,H2,T,r,w⟩ =>
  cZ (aZ (G i n b H2 _ T w) λfv s3 ⟨z,H3,O,q,ov,g,v⟩=>eX ?_))))
 exact zjq C O g r q λw' s4 N c=>⟨_,H3,N,c,v⟩
theorem V6(z:PE X o td)(A:PE X e ty)(m:M1 X o "pop" tj e tG):PE X (.Call (.Attribute o "pop" tj) [e] [] tG) (zaj td ty):=by
 intro g s c H Q I h;refine gJ m.base m.few m.line dY eO iX (aZ (z g s c H _ I h) ?_);rintro u p ⟨x,N,i,r,a,E,d,w⟩;subst E;obtain rfl:u=bO a:=r;obtain⟨n,j,_⟩:=Wl i d;refine⟨n,j,?_⟩;rw[m.trees];refine dv Z (eB (cZ (aZ (A g p c N _ i w) λiv s2 ⟨y,H2,M,q,aJ,k,v,G,C,l,t⟩=>eX ?_)));subst C;exact ziS M G q l (.inl Z) λO T J b=>⟨v,_,J,b,t⟩
theorem zbq(T:PE X o td)(he:PE X e ty)(hf:PE X f tx)(m:M2 X o "pop" tj e f tG):PE X (.Call (.Attribute o "pop" tj) [e,f] [] tG) (zcN td ty tx):=by
 intro g s b H Q I h;refine gJ m.base m.few m.line dY eO iX (aZ (T g s b H _ I h) ?_);rintro u C ⟨x,H1,q,G,a,ex,d,O⟩;subst ex;obtain rfl:u=bO a:=G;obtain⟨t,r,_⟩:=Wl q d;refine⟨t,r,?_⟩;rw[m.trees];refine dv Z (eB (cZ (aZ (he g C b H1 _ q O) λiv A ⟨y,H2,I2,j,N⟩ =>
  cZ (aZ (hf g A b H2 _ I2 N) λfv s3 ⟨z,H3,p,E,aJ,k,n,ey,M,J⟩=>eX ?_))))
 subst ey;cases l:yj aJ k with
 |some v=>exact ziS p n j l (.inr ⟨fv,Z⟩) λw' w i c=>⟨v,_,i,c,M v l⟩
 |none=>exact zjo p n j l λw i=>⟨z,H3,i,E,J l⟩
end
end L2
namespace Att
open PySem PySem.W PySem.Calls PyProof.Rows
theorem Vl :∀(ns:List Int) (c:List af),WellAll P h c (ns.map WData.int)->IntsAre c ns:=by
 intro ns;induction ns with
 |nil =>
  intro c w;rw[mD] at w;cases w;exact .nil
 |cons n ns ih =>
  intro c w;rw[bh] at w;cases w with
  |cons a b =>
   cases a;exact .cons _ _ (ih _ b)
theorem Qn{l:OpenLaw}{n:Nat}(s:l.most=U n){P:Params}{args:List WData}{c:List af}
  (e:l.row.toRowW.claim.pre args=ak) (j:WellAll P h c args) :
  ∃a m b,c=[bO a]/\args=[WData.list (b.map WData.int)]/\h.get? a=U { cls:=.type "list",data:=.seq m.toArray }/\IntsAre m b/\b.length<=n:=by
 have k:WShape.hasAll [] args [.list .int]=ak:=(pre_splitW e).1;have o:l.pre.holds [] { args:=args }=ak:=(pre_splitW e).2;obtain⟨d,r,rfl,v,u⟩:=hasAllW_cons k;obtain rfl:=hasAllW_nil u;obtain⟨w,rfl,t⟩:=hasW_list v;obtain⟨b,rfl⟩:=items_int t;have f:b.length<=n:=by
  unfold OpenLaw.pre at o;have i:(WTm.not (.lt (.lit (.int (n:Int))) (.len (.arg 0)))).holds [] { args:=[.list (b.map .int)] }=ak:=by
   have i:=(holds_andW o).1;rw[s] at i;exact i
  have g:=condW_of i (w_not (w_lt w_lit (w_len_list (w_arg Z))));rw[bd] at g;refine r6 λq=>?_;have p:(n:Int)<((b.length:Nat):Int):=by lia
  first
   |(rw[Bj p] at g;exact absurd g ())
   |(simp at g;lia)
 cases j with
 |cons w1 w2 =>
  cases w2;cases w1 with
  |list ho hall=>exact⟨_,_,b,Z,Z,ho,Vl b _ hall,f⟩
theorem Qo(l:OpenLaw)(args:List WData):l.row.toRowW.claim.post args (.bool ak) args=ak :=
 postW_of (r:=l.row.toRowW) (X:=(ak==ak))
  (show WShape.has [] (.bool ak) .bool=ak by first|rfl|decide|simp[WShape.has,WShape.arms,WShape.armsAll])
  (show (WTm.eq .res (.lit (.bool ak))).value [] { args:=args,res:=U (.bool ak),after:=args }=U (.bool (ak==ak)) from w_eq_bool (w_res Z) w_lit) rfl
section
variable {prog:av}{w:ay}{A:aw}{E:af->ah->Prop}{s:ah}{K:Frag}
end
end Att
namespace L2
open PySem PySem.Spec PyProof.Rows
theorem Qp:∀ {a:List af} {b:List Int},IntsAre a b->aR (b.map V.int) a
 |_,_,.nil=>.nil
 |_,_,.cons n t h=>.cons ⟨t,Z⟩ (Qp h)
def zeF(H:D):Prop:=∀b,H b=am\/∃o a,H b=U (.frz o (.lst a))
theorem zbr{P:av}{w:ay}{K:bA}{C mb:Str->Option af}{CX:CXT}{k:Nat}{fa a:L}{fd:Bc}{x:Str}{sp:Sp}{s₁:ah}{p:List af}{A:List Int}
  (KX:K.In s₁.heap) (J:s₁.heap.Ns Bd C) (f:s₁.heap.Ns builtinsNs mb) (ag:∀x:Str,x≠"__name__"->mb x=Bh x) (M:s₁.heap.NoLimit) (hg:s₁.gens=#[]) (T:s₁.heap.get? a=U { cls:=.type "list",data:=.seq p.toArray }) (hi:IntsAre p A) (hl:A.length<=Bb) (hr:tD k callerA) (F:∀i:ax,K.In i->i.Ns Bd C->tq P w K C i CX k fa fd [x] sp) (t:∀(s:ah) (u:af),BindsTo s fd ⟨[u],[]⟩ [(x,u)]) (ae:∀H:D,zeF H->aT K H a (A.map V.int)->sp [.ref a] H (λv _=>v=.bl ak) λ_ _ _=>False) (ai:∀H e g,CX [] H s₁ (λ_ _ _=>False) e g->False) :
  codeAny (Bg P w) callerA (.call (.ref fa) ⟨[.ref a],[]⟩) (λr g=>r=.ok (.ret (.bool ak))/\OldK s₁.heap g.heap/\g.os=s₁.os/\AllBare g.gens) s₁:=by
 have rv:=Qp hi;have E:=hi.length
 -- from an abstract heap in which nothing but the script may be tracked
 have l:∀H:D,zeF H->aT K H a (A.map V.int)->uk P w H s₁.heap->(∀b,H b≠am->b=a)->(H a≠am->K.lookup a=am) ->
   codeAny (Bg P w) callerA (.call (.ref fa) ⟨[.ref a],[]⟩) (λr g=>r=.ok (.ret (.bool ak))/\OldK s₁.heap g.heap/\g.os=s₁.os/\AllBare g.gens) s₁:=by
  intro H hO hS I hA hK;have c:∀ {b:L} {o:Obj},s₁.heap.get? b=U o->H b=am->(Q5 s₁.heap H).get? b=U o:=λe n=>zfq e n;have aa:∀ {b:L} {o:Obj} {O:Array DictEntry} {ep:Nat},s₁.heap.get? b=U o->o.data=.dict O ep->H b=am:=λ{b o O ep} e d=>by
   cases q:H b with
   |none=>rfl
   |some u =>
    have e':b=a:=hA b (by rw[q];simp);subst e';rw[T] at e;cases e;have d':Data.seq p.toArray _=Data.dict O ep:=d;cases d'
  have j:∀ {b:L} {m:Str->Option af},s₁.heap.Ns b m->(Q5 s₁.heap H).Ns b m:=λ{b m} ⟨o,O,ep,e,d,r⟩=>⟨o,O,ep,c e (aa e d),d,r⟩;have N:K.In (Q5 s₁.heap H):=λb o e=>c (KX b o e) (by
   cases q:H b with
   |none=>rfl
   |some u =>
    have e':b=a:=hA b (by rw[q];simp);subst e';rw[hK (by rw[q];simp)] at e;cases e)
  have hM:Mod K C (Q5 s₁.heap H):=⟨N,j J,⟨mb,j f,ag⟩,let ⟨mc,h1,h2⟩:=M;⟨mc,j h1,h2⟩⟩;have e0:Env0 P w K C (Q5 s₁.heap H) callerA [] s₁ H:=⟨Z,hM,λb o e=>zhD e,mz (zer _ _),trivial,λb f=>absurd (show b∈([]:List L) from f) (by simp),I,.of_eq hg⟩;refine gA ((F _ N (j J)).run callerA [] s₁ H ⟨[.ref a],[]⟩ [.ref a] [.ref a] _ _ hr e0 (t s₁ (.ref a)) (.cons Z .nil) (ae H hO hS)) λr g h=>?_;cases r with
  |error e=>exact(ai H e g h).elim
  |ok fl =>
   cases fl with
   |next=>exact dz h
   |brk=>exact dz h
   |cont=>exact dz h
   |ret u =>
    obtain⟨v,H',os,Q,un,G,r',q⟩:=h;have q':v=.bl ak:=q;subst q';obtain rfl:u=iM ak:=r';refine⟨Z,OldK.of_keep λb o e=>?_,os,Q⟩;cases q:H b with
    |none=>exact un.keep b o e q (by intro z;exact absurd (show b∈([]:List L) from z) (by simp)) (by simp)
    |some u =>
     rcases hO b with z|⟨ob,xs,z⟩
     .rw[q] at z;cases z
     .have z2:=un.frzs b ob _ z;obtain⟨e1,_⟩:=I b _ z;obtain⟨e2,_⟩:=G b _ z2;rw[e] at e1;cases e1;exact e2
 cases hk:K.lookup a with
 |some o =>
  -- the script is one of the module's own objects
  have e:=KX a o hk;rw[T] at e;cases e;refine l (λ_=>am) (λ_=>.inl Z) (.inr ⟨_,p.toArray,_,hk,Z,Z,Z,by rw[bG,E];exact hl,by simpa using rv⟩) (λb u z=>by have y:(am:Option HO)=U u:=z;cases y) (λb z=>absurd rfl z) λz=>absurd rfl z
 |none =>
  refine l (λb=>if b=a then U (.frz { cls:=.type "list",data:=.seq p.toArray } (.lst (A.map V.int))) else am) (λb=>?_) (.inl (.inr ⟨{ cls:=.type "list",data:=.seq p.toArray },au Z⟩)) (λb u z=>?_) (λb z=>?_) λ_=>hk
  .by_cases f:b=a
   .exact .inr ⟨_,_,au f⟩
   .exact .inl (ao f)
  .by_cases f:b=a
   .have y:=(au f).symm.trans z;cases y;subst f;exact⟨T,by rw[bd];exact hl,p,_,rv,T⟩
   .have y:=(ao f).symm.trans z;cases y
  .by_cases f:b=a
   .exact f
   .exact absurd (ao f) z
abbrev KOf{K:bA}{h:ax}(_:K.In h):bA:=K
def zP(s:aA)(j:Nat):aA:=match s with
 |.ClassDef _ _ _ body _ _ _ _ _ _ _=>body.getD j (.Pass ⟨0,0,0,0⟩)
 |_=>.Pass ⟨0,0,0,0⟩
def Z9(s:aA):Arguments:=match s with
 |.FunctionDef _ a _ _ _ _ _ _ _ _=>a
 |_=>{ posonlyargs:=[],args:=[],vararg:=am,kwonlyargs:=[],kw_defaults:=[],kwarg:=am,defaults:=[] }
def wu(s:aA):List aA:=match s with
 |.FunctionDef _ _ b _ _ _ _ _ _ _=>b
 |_=>[]
def zl(s:aA):aC:=match s with
 |.FunctionDef _ _ _ _ _ _ sc _ _ _=>sc
 |_=>{ kind:=.function,names:=[],isGenerator:=aq,isCoroutine:=aq }
abbrev E0:XK:=λ_ _ _=>False
structure Fun(K:bA)(x qual:Str)(st:aA)(f:L)(fd:Bc):Prop where
 ex:∃(oc:af) (od:Option L) (kV doc pm:af) (an:Option L) (cdv ct:af) (osl:Array (Option af)),
  fd=sG x qual (Z9 st) (wu st) (zl st) .none kV doc pm an cdv ct/\K.lookup f=U ⟨oc,od,.func fd,osl⟩/\sq K cdv qual=ak
 kp:nA K (.ref f)=ak
section
variable {P:av}{w:ay}{K:bA}{mg:Str->Option af}{base:ax}
theorem fun_mk{b:aA}{f:L}{m:af}{j i:Option L}{e:Array (Option af)}{kV d g a h:af}(l:K.lookup f=U ⟨m,j,.func (sG x qual (Z9 b) (wu b) (zl b) .none kV d g i a h),e⟩) (c:sq K a qual=ak) (k:nA K (.ref f)=ak):Fun K x qual b f (sG x qual (Z9 b) (wu b) (zl b) .none kV d g i a h):=⟨⟨m,j,kV,d,g,i,a,h,e,Z,l,c⟩,k⟩
end
theorem yH(a:tD k A):A.units+1<cLine:=ca (lS (by lia:1<=64) _) a.units
section
variable {X:Cx}
theorem Y(i:Nat){a:Pos}(e:X.N[i]?=U x:=by rfl)(c:Vis X.env.scope x:=by first|exact ig rfl|exact pB (ig Z)|exact pB (pB Z))(d:(x==("__debug__":Str))=aq:=by lia) (b:(x==("__classdict__":Str))=aq:=by lia):PE X (.Name x a) (B i):=zjg e c d b
end
theorem Xh{c A Bn:Prop} [Decidable c](b:c->A)(a:¬ c->Bn):if c then A else Bn:=by
 by_cases h:c
 .rw[au h];exact b h
 .rw[ao h];exact a h
def aL(H a:D):Prop:=∀b o,H b=U o->a b=U o
theorem aL.refl(H:D):aL H H:=λ_ _ h=>h
theorem aL.trans{H d H2:D}(a:aL H d)(b:aL d H2):aL H H2:=λc o h=>b c o (a c o h)
section
variable {κ:Type} [DecidableEq κ]
theorem zbs{a:List (κ×V)}{k:κ}(h:yj a k=am):¬ k∈a.map (·.1):=by
 intro m;obtain⟨p,c,e⟩:=bD.mp m;have q:(a.any λb=>decide (b.1=k))=ak:=lz.mpr ⟨p,c,Bj e⟩;rw[vE,h] at q;exact absurd q (by simp)
theorem zdH{a:List (κ×V)}{k:κ}{v:V}(h:yj a k=U v):k∈a.map (·.1):=by
 have q:(a.any λb=>decide (b.1=k))=ak:=by
  rw[vE,h]
  all_goals rfl
 obtain⟨p,c,e⟩:=lz.mp q;exact bD.mpr ⟨p,c,of_decide_eq_true e⟩
theorem zdI:∀ {l:List κ} {k:κ},l.Nodup->¬ k∈l->(l++[k]).Nodup
 |[],k,_,_=>by simp
 |a::r,k,h,hk=>by
  obtain⟨c,b⟩:=bW.mp h;show (a::(r++[k])).Nodup;refine bW.mpr ⟨λm=>?_,zdI b λm=>hk (bw.mpr (pB m))⟩;rcases bu.mp m with q|q
  .exact c q
  .exact hk (bw.mpr (ig (bn.mp q).symm))
theorem zhP{a:List (κ×V)}{k:κ}(v:V)(b:(a.map (·.1)).Nodup)(h:yj a k=am):((yS a k v).map (·.1)).Nodup:=by
 rw[jo v h,bN];exact zdI b (zbs h)
theorem Qq{p:κ×V}{r:List (κ×V)}(e:p.1=k):yz (p::r) k=yz r k:=by
 unfold yz;rw[cp,ao (by simp[e])]
theorem Wm{p:κ×V}{r:List (κ×V)}(e:¬ p.1=k):yz (p::r) k=p::yz r k:=by
 unfold yz;rw[cp,au (by simp[e])]
theorem zeG{aJ:List (κ×V)}{p:κ×V}(h:p∈yz aJ k):p∈aJ:=(bQ.mp h).1
end
end L2
set_option Elab.async false
set_option linter.all false
set_option maxRecDepth 100000
set_option maxHeartbeats 4000000
namespace L2
open PySem PySem.Spec PyProof.Rows
def Cx.comp(X:Cx)(a:aC)(c:List (Str×L))(C:L)(N:List Str)(b:List L)(s:ah)(H:D):Cx :=
 { X with env:=compEnvC a c C X.env,N:=N,s₀:=s,H₀:=H,outer:=X.stack,ex:=b,fn:=λ_=>aq,pn:=[],xe:=λ_ _=>False }
structure Ya(X:Cx)(scope:aC)(cl:List (Str×L))(ix:List Nat):Prop where
 clos:closureFor scope X.env=pure cl
 nocell:∀y∈scope.names,y.2≠.cell
 kind:scope.kind=.function
 names:∀y∈scope.names,y.2=.local->scope.names.lookup y.1=U .local
 sub:∀y c,cl.lookup y=U c->X.env.cells.lookup y=U c
 has:∀y,((relabel scope X.env).names.lookup y=U .cell\/(relabel scope X.env).names.lookup y=U .free)->∃c,cl.lookup y=U c
 cap:∀i∈ix,∃y,X.N[i]?=U y/\(X.env.kindOf y=U .cell\/X.env.kindOf y=U .free)/\((relabel scope X.env).names.lookup y=U .cell\/(relabel scope X.env).names.lookup y=U .free)
def Zh(a:aC)(b:Env):List (Str×L):=a.names.foldl (λc y=>if y.2==.free then (y.1,(b.cells.lookup y.1).getD 0)::c else c) []
def zdJ(a:aC)(N:List Str)(b:aC)(c:List Nat):Bool :=
 b.kind==.function&&b.names.all (λy=>y.2 != .cell&&(y.2 != .local || b.names.lookup y.1==U .local)&&(y.2 != .free || a.names.lookup y.1==U .cell || a.names.lookup y.1==U .free)) &&
  c.all λi=>match N[i]? with
   |some y=>b.names.lookup y==U .free
   |none=>aq
theorem vF{l:List (Str×NameKind)}{y:Str}(h:l.lookup y=U k):(y,k)∈l:=fc h
theorem qk{a:Env}:∀ {b:List (Str×NameKind)} {x:Str} {k:NameKind},(b.map λ(n,k)=>if (k==dy&&a.scope.kind==.function&&a.kindOf n==U .cell) then (n,nJ) else (n,k)).lookup x=U k ->
  ∃c,b.lookup x=U c/\(c=.free\/c=k)
 |[],_,_,h=>by simp at h
 |(n,c)::r,x,k,h=>by
  have f:=@qk a r x k;rw[bh] at h;cases hx:x==n with
  |true =>
   by_cases hc:(c==dy&&a.scope.kind==.function&&a.kindOf n==U .cell)=ak
   .have e:c=.free:=by
     have:=(bX _ _ ▸ (bX _ _ ▸ hc).1).1;simpa using this
    exact⟨c,by simp[b9,hx],.inl e⟩
   .simp only[ao hc,b9,hx] at h;exact⟨c,by simp[b9,hx],.inr (bH h)⟩
  |false =>
   have g:(r.map λ(n,k)=>if (k==dy&&a.scope.kind==.function&&a.kindOf n==U .cell) then (n,nJ) else (n,k)).lookup x=U k:=by
    by_cases hc:(c==dy&&a.scope.kind==.function&&a.kindOf n==U .cell)=ak
    .simp only[au hc,b9,hx] at h;exact h
    .simp only[ao hc,b9,hx] at h;exact h
   obtain⟨q,e,d⟩:=f g;exact⟨q,by simp only[b9,hx];exact e,d⟩
theorem Xi{a:Env}:∀ {b:List (Str×NameKind)} {x:Str},b.lookup x=U .free ->
  ((b.map λ(n,k)=>if (k==dy&&a.scope.kind==.function&&a.kindOf n==U .cell) then (n,nJ) else (n,k)).lookup x=U .cell \/
   (b.map λ(n,k)=>if (k==dy&&a.scope.kind==.function&&a.kindOf n==U .cell) then (n,nJ) else (n,k)).lookup x=U .free)
 |[],_,h=>by simp at h
 |(n,k')::r,x,h=>by
  have c:=@Xi a r x;rw[bh];cases hx:x==n with
  |true =>
   simp only[b9,hx] at h;cases h;by_cases hc:(dy==dy&&a.scope.kind==.function&&a.kindOf n==U .cell)=ak
   .left;simp only[au hc,b9,hx]
   .right;simp only[ao hc,b9,hx]
  |false =>
   simp only[b9,hx] at h;by_cases hc:(k'==dy&&a.scope.kind==.function&&a.kindOf n==U .cell)=ak
   .simp only[au hc,b9,hx];exact c h
   .simp only[ao hc,b9,hx];exact c h
theorem Qr{a:Env}:∀(l:List (Str×NameKind)) (d:List (Str×L)),(∀y∈l,y.2=.free->∃c,a.cells.lookup y.1=U c) ->
  (∀y c,d.lookup y=U c->a.cells.lookup y=U c)->∀y c,(l.foldl (λd y=>if y.2==.free then (y.1,(a.cells.lookup y.1).getD 0)::d else d) d).lookup y=U c->a.cells.lookup y=U c
 |[],_,_,h,y,c,e=>h y c e
 |z::r,d,hl,h,y,c,e=>by
  rw[fj] at e;refine Qr r _ (λy j=>hl y (bp _ j)) (λg n b=>?_) y c e;by_cases hz:z.2=.free
  .obtain⟨m,i⟩:=hl z br hz;have f:(z.2==dy)=ak:=by simpa using hz
   rw[au f,i,b9] at b;cases hq:g==z.1 with
   |true =>
    rw[hq] at b;have k:g=z.1:=by simpa using hq
    cases b;rw[k];exact i
   |false=>rw[hq] at b;exact h _ _ b
  .have f:(z.2==dy)=aq:=by simpa using hz
   rw[f] at b;exact h _ _ b
theorem zbt{b:Env}:∀(l:List (Str×NameKind)) (a:List (Str×L)) (y:Str),((∃c,a.lookup y=U c)\/(y,dy)∈l) ->
  ∃c,(l.foldl (λa y=>if y.2==.free then (y.1,(b.cells.lookup y.1).getD 0)::a else a) a).lookup y=U c
 |[],_,_,h=>h.elim id λz=>nomatch z
 |z::r,a,y,h=>by
  rw[fj];refine zbt r _ y ?_;rcases h with ⟨c,h⟩|h
  .left
   by_cases hz:(z.2==dy)=ak
   .rw[au hz,b9];cases y==z.1 with
    |true=>exact⟨_,Z⟩
    |false=>exact⟨c,h⟩
   .rw[ao hz];exact⟨c,h⟩
  .rcases bw.mp h with h|h
   .left
    subst h;rw[au (by rfl),b9];simp
   .exact .inr h
theorem zak{a:Env}:∀(l:List (Str×NameKind)) (b:List (Str×L)),(∀y∈l,y.2=.free->∃c,a.cells.lookup y.1=U c) ->
  forIn (m:=Sem) l b (λx r=>match x with|(name,kind)=>if (kind==dy)=ak then do let c <-cellOf a name;pure (gB ((name,c)::r)) else pure (gB r)) =
   pure (l.foldl (λb y=>if y.2==.free then (y.1,(a.cells.lookup y.1).getD 0)::b else b) b)
 |[],_,_=>rfl
 |(n,k)::r,b,h=>by
  rw[oF,fj];by_cases hz:(k==dy)=ak
  .obtain⟨c,f⟩:=h (n,k) br (by simpa using hz);have e:cellOf a n=pure c:=by unfold cellOf;rw[f]
   simp only[hz,if_true,e,pure_bind];rw[zak r _ λy d=>h y (bp _ d)];simp only[f,Option.getD_some]
  .simp only[hz,if_false,pure_bind];exact zak r _ λy d=>h y (bp _ d)
theorem Xj(k:X.Ok)(h:zdJ osc N scope ix=ak)(n:X.env.scope=osc)(r:X.N=N):Ya X scope (Zh scope X.env) ix:=by
 subst n r;unfold zdJ at h;rw[bX,bX,lA,lA] at h;obtain⟨⟨v,u⟩,t⟩:=h;have p:∀y∈scope.names,y.2≠.cell/\(y.2=.local->scope.names.lookup y.1=U .local)/\(y.2=.free->X.env.kindOf y.1=U .cell\/X.env.kindOf y.1=U .free):=λy hy=>by
  have q:=u y hy;rw[bX,bX] at q;obtain⟨⟨j,d⟩,b⟩:=q;refine⟨by simpa using j,λe=>?_,λe=>?_⟩
  .rw[e] at d;simpa using d
  .rw[e] at b;have a:X.env.scope.names.lookup y.1=U .cell\/X.env.scope.names.lookup y.1=U .free:=by simpa using b
   exact a
 have f:∀y∈scope.names,y.2=.free->∃c,X.env.cells.lookup y.1=U c:=λy hy e=>k.has y.1 ((p y hy).2.2 e);refine⟨?_,λy hy=>(p y hy).1,by simpa using v,λy hy=>(p y hy).2.1,λy c e=>Qr scope.names [] f (λ_ _ z=>by simp at z) y c e,λy hy=>?_,λi o=>?_⟩
 .have e:=zak scope.names [] f;unfold closureFor Zh;refine Eq.trans (congrArg (λm=>m >>= λs=>(pure s:Sem (List (Str×L)))) e) ?_;rw[pure_bind]
 .refine zbt scope.names [] y (.inr ?_);rcases hy with hy|hy
  .obtain⟨l,e,z|z⟩:=qk hy
   .subst z;exact vF e
   .subst z;exact absurd Z (p _ (vF e)).1
  .obtain⟨l,e,z|z⟩:=qk hy
   .subst z;exact vF e
   .subst z;exact vF e
 .have q:=t i o;cases hy:X.N[i]? with
  |none=>rw[hy] at q;cases q
  |some y =>
   rw[hy] at q;have g:scope.names.lookup y=U .free:=by simpa using q
   exact⟨y,Z,(p _ (vF g)).2.2 Z,Xi g⟩
def Kq(b:List Nat)(a:St):St:=b.map λi=>(a[i]?).getD am
def kL(a:List Nat)(N:List Str):List Str:=a.map λi=>(N[i]?).getD ""
section
variable {X:Cx}{aa:List (L×Obj)}{σ:St}{H:D}{s:ah}{scope:aC}{cl:List (Str×L)}{ix:List Nat}{fp:List L}{C:L}{xs:List Str}
theorem aP.compOk(I:aP X aa σ H s)(S:Ya X scope cl ix)(g:C=s.heap.objs.size)(d:∀b∈fp,qY X aa H b)(k:∀b∈fp,b<s.heap.objs.size)(n:List Str) :
  (X.comp scope cl C n fp s H).Ok where
 mod:=I.ok.mod
 kind:=S.kind
 glob:=I.ok.glob
 blt:=I.ok.blt
 above:=mz g.symm
 inj:=λx y c f l=>I.ok.inj x y c (S.sub x c f) (S.sub y c l)
 has:=λx j=>S.has x j
 cab:=λx c f _=>nomatch f
 hd:=I.ok.hd
 frames:=I.ok.frames
 stk:=.inl rfl
 exf:=λb a=>⟨λz=>absurd (k b a) (by rw[z];show ¬ C<_;rw[g];exact fR _),λx c h=>(d b a).2.2.2.2.1 x c (S.sub x c h)⟩
 bs:=I.bs
 bsz:=bM I.ok.bsz I.sz
 noex:=λb o e a=>by
  rcases(d b a).2.2.2.1 with z|z
  .exact I.ok.noex b o e z
  .exact absurd (bV (bI e) (bM I.ok.bsz z)) (fR _)
 exfs:=λb a z=>by
  rcases bw.mp (I.stkSub b z) with e|e
  .exact(d b a).2.1 e
  .exact(d b a).2.2.1 e
 funs:=I.stack
 frf:=I.stkFree
theorem aP.comp{d:ax}{f:Str->Option af}{t':Nat}(I:aP X aa σ H s)(S:Ya X scope cl ix)(G:C=s.heap.objs.size)(hf:∀b∈fp,qY X aa H b)(hl:∀b∈fp,b<s.heap.objs.size) (hn:d.Ns C f) (n:∀b o,s.heap.get? b=U o->d.get? b=U o) :
  aP (X.comp scope cl C (xs++kL ix X.N) fp s H) [] (eW xs.length am++Kq ix σ) H { s with heap:=d,toks:=t' } where
 ok:=I.compOk S G hf hl _
 os:=rfl
 bare:=I.bare
 base:=Un.kept n
 loc:=by
  refine⟨f,hn,λi y v e1 g e3=>?_⟩;by_cases hi:i<xs.length
  .rw[dL (by simpa using hi),nB,au hi] at g;cases g
  .have a:(xs++kL ix X.N)[i]?=U y:=e1;rw[gN ()] at a;rw[gN (by rw[dQ];lia),dQ] at g;generalize i-xs.length=j at a g;unfold kL at a;unfold Kq at g;rw[bt] at a g;cases hj:ix[j]? with
   |none=>rw[hj] at a;cases a
   |some k =>
    rw[hj] at a g;obtain⟨t,O,M,J⟩:=S.cap k (bJ hj);have ey:t=y:=by
     have q:(X.N[k]?).getD ""=y:=bH a;rw[O] at q;exact q
    subst ey;have ev:σ[k]?=U (U v):=by
     have q:(σ[k]?).getD am=U v:=bH g;cases hs:σ[k]? with
     |none=>rw[hs] at q;cases q
     |some o=>rw[hs] at q;exact congrArg U q
    obtain⟨m,hm,Q⟩:=I.loc;obtain⟨u,r,l⟩:=Q k t v O ev (M.elim (λz=>.inr (.inl z)) λz=>.inr (.inr z));refine⟨u,r,.inr ⟨J,?_⟩⟩;rcases l with ⟨l1,_⟩|⟨_,c,lc,⟨o,A,E⟩⟩
    .rcases M with z|z <;> (rw[l1] at z;cases z)
    .obtain⟨c',h⟩:=S.has t J;have e:=S.sub _ _ h;rw[lc] at e;cases e;exact⟨c,h,o,n _ _ A,E⟩
 cell:=λx c e=>by
  obtain⟨v,o,A,E⟩:=I.cell x c (S.sub x c e);exact⟨v,o,n _ _ A,E⟩
 free:=I.hok.fresh (mz G.symm)
 freeC:=λx c e=>I.freeC x c (S.sub x c e)
 pin:=λp T=>absurd (show p∈([]:List (L×Obj)) from T) (by simp)
 hok:=I.hok.kept n
 len:=by
  show (eW xs.length am++Kq ix σ).length=(xs++kL ix X.N).length;rw[bx,bx,dQ,Kq,kL,bd,bd]
theorem aP.uncomp{j:St}{h:D}{Q:List Str}{r:ax}(I:aP X aa σ H s)(A:C=s.heap.objs.size)(z:∀b∈fp,qY X aa H b) (J:aP (X.comp scope cl C Q fp s H) [] j h s') (g:cN C s'.heap r):aP X aa σ h { s' with heap:=r }:=by
 have lt:∀b o,s.heap.get? b=U o->b≠C:=λb o e=>by
  rw[A];exact bR (bI e)
 have a:Un (ue X.stack) fp H h s.heap s'.heap:=J.base;refine I.call' (s':={ s' with heap:=r }) (ch:=fp) J.os ?_ ?_ J.bare ?_
 .exact⟨λb o e n f l=>(g.2 b (lt b o e)).trans (a.keep b o e n f l),λb o e n f l=>by
   obtain⟨t,q⟩:=a.slot b o e n f l;exact⟨t,(g.2 b (lt b o e)).trans q⟩,a.free,λb o e f=>by
   obtain⟨y,q⟩:=a.there b o e f;exact⟨y,(g.2 b (lt b o e)).trans q⟩,a.tups,a.frzs,a.tbls⟩
 .intro b o e;refine(J.hok b o e).stay (λc u hc q=>(g.2 c ?_).trans q) (λ_ q=>q) λ_ _ q=>q;have d:h C=am:=J.free;rintro rfl;rcases hc with rfl|hc
  .rw[d] at e;cases e
  .rw[d] at hc;cases hc
 .intro b k;obtain⟨f0,O,T,M,G,E⟩:=z b k;exact⟨M,O,G,E⟩
end
def PTs(X:Cx)(b:List aB)(t:TT):Prop :=
 ∀(d:List (L×Obj)) (s:ah) (a:St) (H:D) (Q:Bool->D->Prop),aP X d a H s->t a H Q ->
  Bf (Bg X.prog X.w) X.A (forIn b ak λc r=>if r=ak then do let e <-isTrue c X.env (eval c X.env);pure (gB e) else pure (gB r)) (TP X d a Q) X.xe s
def Vm:TT:=λ_ H Q=>Q ak H
theorem v6 :PTs X [] Vm:=λ_ _ _ H _ I h=>wpAny_tests_nil ⟨H,I,h⟩
theorem zdK(h:PT X c t):PTs X [c] t:=λb s a H Q I q=>wpAny_tests_one (h b s a H Q I q)
section
variable {prog:av}{w:ay}{A:aw}{R:aD->ah->Prop}{s:ah}
theorem zal{y a o:aB}{u:List aB}{g:aC}{E:Pos}{O z:af}{b:Env}(W:Nat->ah->Prop){EE:af->ah->Prop}
  (T:∀e N,EE e N->notedBy (Bg prog w) A b (λe N=>R (.error e) N) e N) (C:∀n s,W n s->Bf (Bg prog w) A (pyNext O) (λr f=>match r with
   |none=>R (.ok .next) f
   |some v=>Bf (Bg prog w) A (letOwnedTupleGo a O v) (λ_ i=>Bf (Bg prog w) A (assign a b v) (λ_ l =>
     Bf (Bg prog w) A (forIn u ak λc r=>if r=ak then do let G <-isTrue c b (eval c b);pure (gB G) else pure (gB r)) (λG d =>
      if G=ak then Bf (Bg prog w) A (eval y b) (λx k=>Bf (Bg prog w) A (call (.builtin "list.append") [z,x]) (λ_ j=>∃m,m<n/\W m j) EE k) EE d
      else ∃m,m<n/\W m d) EE l) EE i) EE f) EE s) (n:Nat) (h:W n s):codeAny (Bg prog w) A (.compLoop (.ListComp y [⟨a,o,u,0⟩] g E) 0 O z b) R s:=by
 refine codeAny_loop Z W (λn s Q=>?_) n h;show Bf _ A ((compTurn (.ListComp y [⟨a,o,u,0⟩] g E) 0 O z b).onRaise (λx=>do noteFrame x b;theTreesLotGoes x)) _ _ s;refine wpAny_noted (eG ?_ (λ_ _ q=>q) T);rw[compTurn_list];refine ba (wpAny_standAt (ba (aZ (C n s Q) λr f t=>?_)));cases r with
 |none=>exact bg t
 |some v =>
  refine ba (aZ t λ_ i H=>?_);refine ba (aZ H λ_ l M=>ba (aZ M λG d p=>?_));cases G with
  |false=>exact bg ⟨Z,p⟩
  |true=>exact ba (ba (aZ p λx k J=>ba (aZ J λ_ j I=>bg (bg ⟨Z,I⟩))))
end
def vG(q:TI)(g:TG)(r:TT)(s:TE)(k:Nat)(t:List Nat):TE:=λl H Q=>q l H λJ p=>∀f,p f=am ->
 ∃W:Nat->Nat->List V->St->D->Prop,(∃m,W 0 m [] (eW k am++Kq t l) (upd p f (.lst [])))/\∀i m e j H,W i m e j H->H f=U (.lst e) /\
  ((J.stop i H/\Q (.ref f) H)\/(J.go i H/\e.length<Bb/\∃N:V->St->D->Prop,
   (∀v a d,N v a d->d f=U (.lst e)/\∃h,h<m/\W (i+1) h (e++[v]) a (upd d f (.lst (e++[v]))))/\∃n:St->D->Prop,(∀a d,n a d->∃h,h<m/\W (i+1) h e a d) /\
   ∀x d,J.yld i H x d->g x j d λc w=>r c w λb o=>if b=ak then s c o λv u=>N v c u else n c o))
section
variable {X:Cx}{elt iter tg:aB}{ifs:List aB}{scope:aC}{pos:Pos}{cl:List (Str×L)}{ix:List Nat}{xs:List Str}{wi:TI}{g:TG}{tt:TT}{te:TE}
theorem V7(S:Ya X scope cl ix)(hc:X.calm=ak)(hi:PI X tg iter wi) (hg:∀C f s H,PG (X.comp scope cl C (xs++kL ix X.N) f s H) tg g) (ht:∀C f s H,PTs (X.comp scope cl C (xs++kL ix X.N) f s H) ifs tt) (he:∀C f s H,PE (X.comp scope cl C (xs++kL ix X.N) f s H) elt te)
  {s:ah} {σ:St} {H:D} {Q:VK} (I:aP X aa σ H s) (h:vG wi g tt te xs.length ix σ H Q) {RR:af->L->aD->ah->Prop}
  (hR:∀v u M C,aU v u->(∃H',Q v H'/\(∃m,M.heap.Ns C m)/\(∀h',cN C M.heap h'->aP X aa σ H' { M with heap:=h' })/\qY X aa H' C)->RR u C (.ok .next) M) :
  Bf (Bg X.prog X.w) X.A (eval iter X.env) (λx ap=>Bf (Bg X.prog X.w) X.A (pyIter x) (λit an=>Bf (Bg X.prog X.w) X.A (newList []) (λa7 al =>
   Bf (Bg X.prog X.w) X.A (newFunctionEnv scope X.env.globals cl [] X.env.qual am .none (U X.env)) (λO aj =>
    codeAny (Bg X.prog X.w) X.A (.compStart (.ListComp elt [⟨tg,iter,ifs,0⟩] scope pos) 0 it a7 { O with scope:=relabel scope X.env }) (RR a7 O.locals) aj) X.xe al) X.xe an) X.xe ap) X.xe s:=by
 refine aZ (hi aa s σ H _ I h) λv s1 h1=>aZ h1 λbz a h2=>?_;obtain⟨it,f,tn,J,H2,e,I2,T,a1,f2,hW⟩:=h2;subst e;refine cX (wpAny_newFunctionEnv S.nocell (λy hy=>nomatch hy) (λh₁ k j=>?_) S.kind);dsimp only at k j ⊢;obtain⟨W,⟨m0,w0⟩,ai⟩:=hW a.heap.objs.size I2.fresh;have I3:=I2.lnew (t':=a.toks) (ys:=[]) (its:=[]) .nil (bS _);have a5:∀b∈f,b<a.heap.objs.size:=λb c=>by
  obtain⟨o,e,_⟩:=T.obj _ _ a1 b c;exact bI e
 generalize hs3:({ a with heap:=a.heap.push { cls:=.type "list",data:=.seq ([]:List af).toArray },toks:=a.toks }:ah)=s3 at I3;have E:s3.heap=a.heap.push { cls:=.type "list",data:=.seq ([]:List af).toArray }:=by rw[<-hs3]
 have a8:s3.heap.objs.size=a.heap.objs.size+1:=by rw[E,eV]
 have f3:∀b∈f,qY X aa (upd H2 a.heap.objs.size (.lst [])) b:=λb c=>by
  obtain⟨q0,q⟩:=f2 b c;exact⟨by rw[zm (bR (a5 b c))];exact q0,q⟩
 have a4:∀b∈f,b<s3.heap.objs.size:=λb c=>by rw[a8];exact rB (a5 b c)
 rw[<-E] at k j ⊢;have hk:∀b o,s3.heap.get? b=U o->h₁.get? b=U o:=λb o e=>(j.2 b (bR (bI e))).trans (bc _ e);have be:∀b o,a.heap.get? b=U o->s3.heap.get? b=U o:=λb o e=>by rw[E];exact bc _ e
 have J0:=I3.comp (xs:=xs) (t':=a.toks) (C:=s3.heap.objs.size) S Z f3 a4 k hk;have aS:tn 0 h₁:=T.keep _ _ _ a1 λb _ o e=>hk b o (be b o e);have a3:∀t,codeAny (Bg X.prog X.w) X.A (.compLoop (.ListComp elt [⟨tg,iter,ifs,0⟩] scope pos) 0 (.ref it) (.ref a.heap.objs.size) (compEnvC scope cl s3.heap.objs.size X.env)) (RR (.ref a.heap.objs.size) s3.heap.objs.size) { s3 with heap:=h₁,toks:=t }:=by
  intro t;refine zal (EE:=λ_ _=>False) (λn M=>∃i ys G H',aP (X.comp scope cl s3.heap.objs.size (xs++kL ix X.N) f s3 (upd H2 a.heap.objs.size (.lst []))) [] G H' M/\tn i M.heap/\(∀b∈f,H' b=am)/\W i n ys G H')
   (λ_ _ z=>z.elim) ?_ m0 ⟨0,[],_,_,J0.tok t,aS,λb c=>(f3 b c).1,w0⟩
  rintro n M ⟨i,ys,G,H',I',a2,a6,w'⟩;have w:∀ {H':D},(∀b∈f,H' b=am)->∀b∈f,qY (X.comp scope cl s3.heap.objs.size (xs++kL ix X.N) f s3 (upd H2 a.heap.objs.size (.lst []))) [] H' b:=λhn b c =>
   ⟨hn b c,(I'.ok.exf b c).1,I'.ok.exfs b c,.inl c,(I'.ok.exf b c).2,λp hp=>absurd (show p∈([]:List (L×Obj)) from hp) (by simp)⟩
  obtain⟨hD,⟨ar,q⟩|⟨go,hz,N,hN,Nf,bi,az⟩⟩:=ai i n ys G H' w'
  .refine aZ (T.done (X.comp scope cl s3.heap.objs.size (xs++kL ix X.N) f s3 (upd H2 a.heap.objs.size (.lst []))) Z Z Z hc i [] M G H' _ I' (w a6) a2 ar) ?_;rintro r s4 ⟨hr,I4⟩;subst hr;refine hR (.ref a.heap.objs.size) _ s4 _ Z ⟨H',q,?_,λh' c=>I3.uncomp Z f3 I4 c,I3.fpOk (bo _) I4.free⟩;obtain⟨m,hn,_⟩:=I4.loc;exact⟨m,hn⟩
  .refine aZ (T.item (X.comp scope cl s3.heap.objs.size (xs++kL ix X.N) f s3 (upd H2 a.heap.objs.size (.lst []))) Z Z Z hc i [] M G H' _ I' (w a6) a2 go) ?_;rintro r s4 ⟨u,hr,h4⟩;subst hr;refine aZ h4 ?_;rintro _ s5 ⟨x,H5,I5,r5,y5,ag,bk⟩;have bl:=I5.pinned (w bk) (T.obj _ _ ag);refine aZ (hg _ _ _ _ _ s5 G H5 x u _ bl r5 (az x H5 y5)) ?_;rintro _ s6 ⟨l,H6,I6,q6⟩;refine aZ (ht _ _ _ _ _ s6 l H6 _ I6 q6) ?_;rintro ok s7 ⟨H7,I7,q7⟩;have ae:∀ {s8:ah} {H8:D} {m:Nat} {zs:List V},aP (X.comp scope cl s3.heap.objs.size (xs++kL ix X.N) f s3 (upd H2 a.heap.objs.size (.lst []))) ([]++VZ f s5.heap) l H8 s8->W (i+1) m zs l H8 ->
     ∃i ys G H',aP (X.comp scope cl s3.heap.objs.size (xs++kL ix X.N) f s3 (upd H2 a.heap.objs.size (.lst []))) [] G H' s8/\tn i s8.heap/\(∀b∈f,H' b=am)/\W i m ys G H':=λ{s8 H8 m zs} I8 w8=>by
    refine⟨i+1,zs,l,H8,I8.unpinned,T.keep _ _ _ ag λb c o e=>(I8.pin (b,o) (bP _ (bP _ (qe c e)))).1,λb c=>?_,w8⟩;obtain⟨o,e,d⟩:=T.obj _ _ ag b c;exact(I8.pin (b,o) (bP _ (bP _ (qe c e)))).2.1
   cases ok with
   |false =>
    rw[ao bK] at q7 ⊢;obtain⟨m',hm,w7⟩:=bi _ _ q7;exact⟨m',hm,ae I7 w7⟩
   |true =>
    rw[au rfl] at q7 ⊢;refine aZ (he _ _ _ _ _ s7 l H7 _ I7 q7) ?_;rintro y s8 ⟨v8,H8,I8,r8,n8⟩;obtain⟨bj,m',hm,w8⟩:=hN _ _ _ n8;refine aZ (xp _ s8 l H8 (.ref a.heap.objs.size) [v8] (.ref a.heap.objs.size) [y] (λ_ Hn=>∃m,m<n/\W (i+1) m (ys++[v8]) l Hn) I8 Z (.cons r8 .nil) ⟨_,ys,v8,Z,Z,bj,hz,m',hm,w8⟩) ?_;rintro _ s9 ⟨_,H9,I9,_,m9,a9,w9⟩;exact⟨m9,a9,ae I9 w9⟩
 have e3:∀t,({ s3 with heap:=h₁,toks:=t }:ah)={ a with heap:=h₁,toks:=t }:=λt=>by rw[<-hs3]
 have A:∀t,codeAny (Bg X.prog X.w) X.A (.compLoop (.ListComp elt [⟨tg,iter,ifs,0⟩] scope pos) 0 (.ref it) (.ref a.heap.objs.size) (compEnvC scope cl s3.heap.objs.size X.env)) (RR (.ref a.heap.objs.size) s3.heap.objs.size) { a with heap:=h₁,toks:=t }:=λt=>by rw[<-e3];exact a3 t
 exact codeAny_compStart_list (A _) (T.self _ 0 _ _ _ aS (A _))
theorem Yb(n:X.calm=ak)(w:zdJ osc N scope ix=ak)(j:PI X tg iter wi) (k:∀C a s H,PG (X.comp scope (Zh scope X.env) C (xs++kL ix X.N) a s H) tg g) (e:∀C a s H,PTs (X.comp scope (Zh scope X.env) C (xs++kL ix X.N) a s H) ifs tt) (l:∀C a s H,PE (X.comp scope (Zh scope X.env) C (xs++kL ix X.N) a s H) elt te) (b:X.env.scope=osc:=by rfl) (p:X.N=N:=by rfl) (f:∀x,foldedSetIterable iter X.env x=pure x:=by intro _;rfl) :
  PE X (.ListComp elt [⟨tg,iter,ifs,0⟩] scope pos) (vG wi g tt te xs.length ix):=by
 intro z s d H Q I h;have S:=Xj I.ok w b p;rw[eval_ListComp];refine mU (use:=am) Z f S.clos S.kind S.names (V7 S n j k e l I h (RR:=λc C=>compPost (Bg X.prog X.w) X.A X.xe am (EP X z d Q) c C) ?_);rintro v u E C r ⟨A,q,⟨m,i⟩,t,_⟩;exact⟨m,i,λy o=>⟨v,A,t y o,r,q⟩⟩
theorem jp{N:List Str}{y:Str}{d:Pos}{j:Nat}{c:Pos}(p:X.N.Nodup)(hj:X.N[j]?=U y)(hc:X.calm=ak)(T:Loc X.env.scope y)(hD:zdJ osc N scope ix=ak)(hi:PI X tg iter wi) (hg:∀C f s H,PG (X.comp scope (Zh scope X.env) C (xs++kL ix X.N) f s H) tg g) (ht:∀C f s H,PTs (X.comp scope (Zh scope X.env) C (xs++kL ix X.N) f s H) ifs tt) (he:∀C f s H,PE (X.comp scope (Zh scope X.env) C (xs++kL ix X.N) f s H) elt te) (k:X.env.scope=osc:=by rfl) (hN:X.N=N:=by rfl) (i:swapsWith (.ListComp elt [⟨tg,iter,ifs,0⟩] scope pos) (U (.Name y d)) c.line X.env=pure ak:=by rfl) (hs:∀x,foldedSetIterable iter X.env x=pure x:=by intro _;rfl) (hf:X.fn y=ak\/X.env.scope.names.lookup y=U .local:=by first|exact .inl rfl|exact .inr rfl|assumption) :
  PS X (.Assign [.Name y d] (.ListComp elt [⟨tg,iter,ifs,0⟩] scope pos) c) (zS (vG wi g tt te xs.length ix) (zv j)):=by
 intro z s M H J I h;have S:=Xj I.ok hD k hN;rw[exec_Assign_Name_used _ _ _ _ i];refine ba (wpAny_standAt (ba ?_));show Bf _ X.A (do let _ <-comprehension (.ListComp elt [⟨tg,iter,ifs,0⟩] scope pos) scope X.env _ (newList []) aq (eval iter X.env) (U (assign (.Name y d) X.env))) _ _ s;refine ba (aZ (mU (use:=U (assign (.Name y d) X.env)) (Q:=λ_ s'=>SP X z J .next s') rfl hs S.clos S.kind S.names
  (V7 S hc hi hg ht he I h (RR:=λw C=>compPost (Bg X.prog X.w) X.A X.xe (U (assign (.Name y d) X.env)) (λ_ s'=>SP X z J .next s') w C) ?_)) λ_ s' hq=>bg (bg hq))
 rintro v u s' C r ⟨G,q,⟨m,hn⟩,hI,f0,E,f2,f3,A,f5⟩;have I':aP X z M G s':=hI s'.heap (.refl ..);show Bf _ X.A (assign (.Name y d) X.env u) _ _ _;refine wpAny_assign_Name (Qe I' p hj T r (λO I2 hx=>?_) hf);obtain⟨a,hb,ha⟩:=hx;have t:C≠a:=by
  rcases ha with rfl|ha
  .exact E
  .exact fq (A _ _ ha)
 refine⟨m,hn.sameBut hb t,λh' n=>⟨_,G,?_,q⟩⟩;exact I2.turned (t':=O.toks) (λb o l e=>(n.2 b l).trans e) f0 E f3 A f5
end
abbrev Qs:R2:=λx y H Q=>∃i j,x=.str i/\y=.str j/\i.length+j.length<=Bb/\Q (.str (i++j)) H
abbrev zhQ:R2:=λx y H Q=>y=.non/\Q (.bl (decide (x=.non))) H
abbrev zdL:R2:=λx y H Q=>y=.non/\Q (.bl (!decide (x=.non))) H
abbrev RC:=List V->D->VK->Prop
abbrev wJ(K:bA):RC:=λa H Q=>∃x n,a=[x]/\zjl K x H n/\Q (.int n) H
abbrev Yk(K:bA):RC:=λa H Q=>∃x c t b,a=[x,c]/\YU K H x t/\(∃T,c=.ty T/\fS K t (.type T)=U b)/\Q (.bl b) H
abbrev RM:=V->List V->D->VK->Prop
theorem tM(p:L){H:D}(h:H p=am):aL H (upd H p o):=λb u e=>by rw[zm (zF e h)];exact e
theorem yy:Bh "len"=U (.builtin "len"):=by lia
theorem yh:Bh "isinstance"=U (.builtin "isinstance"):=by lia
theorem Yc:Bh "sorted"=U (.builtin "sorted"):=by lia
theorem zcO:Bh "sum"=U (.builtin "sum"):=by lia
theorem zjr:Bh "zip"=U (.type "zip"):=by lia
theorem zcP:Bh "str"=U (.type "str"):=by lia
theorem zfI:Bh "int"=U (.type "int"):=by lia
theorem zdM:Bh "bool"=U (.type "bool"):=by lia
theorem xx:Bh "list"=U (.type "list"):=by lia
theorem V8:Bh "tuple"=U (.type "tuple"):=by lia
theorem VN:Bh "dict"=U (.type "dict"):=by lia
section
variable {X:Cx}
def big:Int:=10^200
def yF(_ j:Int):Prop:=0<j/\j<big
def CMulB(i j:Int):Prop:=(-big<i/\i<big)/\(-big<j/\j<big)
theorem V9{j:Int}(h:j.natAbs<10^200):j.natAbs.log2<700:=by
 by_cases h0:j.natAbs=0
 .rw[h0];decide
 .exact(Nat.log2_lt h0).mpr (bV h ())
theorem zam{j:Int}(h:-big<j/\j<big):j.natAbs<10^200:=by
 have e:big=((10^200:Nat):Int):=by lia
 rw[e] at h;lia
theorem CMulB.ok{i j:Int}(h:CMulB i j):IntMulOk i j:=by
 have b:∀k:Int,(-big<k/\k<big)->dN k<=2^20:=λk a=>by
  have q:=V9 (zam a);unfold dN;split <;> lia
 exact .of_bits (b i h.1) (b j h.2)
theorem vn:ud X (binaryOp .Mult) (rI CMulB λi j=>.int (i*j)):=opI λ_ _ _ _ _ _ _ a q=>mul_int q a.ok
theorem zV:ud X (binaryOp .FloorDiv) (rI yF λi j=>.int (i/j)):=opI λi j _ _ _ _ _ a q=>by
 have b:(0:Int)<j:=a.1;refine floordiv_int () ?_ (.inl (mV (rO (V9 (zam ⟨by have:=a.2;lia,a.2⟩)) ())));rw[Int.fdiv_eq_ediv_of_nonneg i ()];exact q
theorem xq:jK X (.builtin "isinstance") (Yk X.K):=by
 intro m s i H j l Q I r h;obtain⟨x,c,t,b,rfl,a,⟨T,rfl,e⟩,q⟩:=h;obtain⟨u,k,rfl,g,f⟩:=ziP r;cases f;exact zeA I g a e λd=>⟨.bl b,H,I.tok d,Z,q⟩
def zjs:V->Option Int->Option Int->D->VK->Prop:=λx a b H Q=>∃z,x=.str z/\z.length<=Bb/\Q (.str (gS z a b)) H
theorem zfJ:SlR X zjs:=by
 intro M s G H x v b a g p J Q I d m f e h;obtain⟨z,rfl,j,q⟩:=h;obtain⟨t,rfl⟩:=d;obtain⟨o,n,w,r⟩:=m;refine⟨"str",_,F.slot_str_getitem.lookup,oU _ _ _,?_⟩;obtain⟨l,E,C⟩:∃l:Option (Int×Tok),b=partValue l/\g=l.map (·.1):=by
  cases f with
  |none=>exact⟨am,Z,Z⟩
  |int i t=>exact⟨U (i,t),Z,Z⟩
 obtain⟨u,A,y⟩:∃l:Option (Int×Tok),a=partValue l/\p=l.map (·.1):=by
  cases e with
  |none=>exact⟨am,Z,Z⟩
  |int i t=>exact⟨U (i,t),Z,Z⟩
 subst E C A y;exact wpAny_getItem_str_slice (l:=l) (u:=u) (st:=am) ⟨o,n,w,r⟩ rfl
  (post_val_or_str ⟨bM (Txt.slice_le z _ _) j,λc k=>⟨.str (gS z (l.map (·.1)) (u.map (·.1))),H,I.tok k,⟨c,Z⟩,q⟩⟩)
end
theorem aV.there{H:D}(x:aV P w H h a o):∃u,h.get? a=U u:=by
 cases o with
 |lst xs=>obtain⟨_,_,_,_,e⟩:=x;exact⟨_,e⟩
 |tup xs=>obtain⟨_,_,_,o,e,_⟩:=x;exact⟨_,e⟩
 |dK aJ=>obtain⟨_,_,_,_,o,_,_,e,_⟩:=x;exact⟨_,e⟩
 |dT aJ=>obtain⟨_,_,_,_,o,_,_,e,_⟩:=x;exact⟨_,e⟩
 |set S n=>obtain⟨o,_,_,_,e,_⟩:=x;exact⟨_,e⟩
 |ins C dx fs=>obtain⟨_,_,_,e,_⟩:=x;exact⟨_,e⟩
 |own y=>exact x
 |xd fs=>obtain⟨_,⟨o,_,_,e,_⟩,_⟩:=x;exact⟨_,e⟩
 |rng lo hi=>obtain⟨_,_,_,e⟩:=x;exact⟨_,e⟩
 |frz ob u=>obtain⟨e,_⟩:=x;exact⟨_,e⟩
 |tbl ps=>exact⟨_,(show h.get? a=U _ from x)⟩
 |met f y=>exact⟨_,(show h.get? a=U _ from x)⟩
 |ext φ=>obtain⟨_,e,_⟩:=x;exact e
def XF(g h:ax)(H:D)(e:L)(c:af):Prop :=
 ∃b a i T f d,h.get? e=U b/\(b.cls=c/\a[0]?=U i)/\b.data=.fields a/\a[1]?=U (.ref T)/\T≠e/\h.get? T=U f/\f.data=.fields d/\d[3]?=U .none /\
  g.get? e=am/\g.get? T=am/\H e=am/\H T=am
def CX1(P:av)(w:ay):CXT:=λa H s E f b=>∃e c d,f=.ref e/\b.os=s.os/\AllBare b.gens/\Un (ue a) [] H d s.heap b.heap/\uk P w d b.heap/\XF s.heap b.heap d e c/\E c am d
theorem Yd{g h:ax}(k:∀b o,g.get? b=U o->∃a,h.get? b=U a)(e:h.get? b=am):g.get? b=am:=by
 cases q:g.get? b with
 |none=>rfl
 |some o =>
  obtain⟨a,z⟩:=k b o q;rw[e] at z;cases z
theorem XF.older{H:D}(x:XF g h H e cls)(k:∀b o,g'.get? b=U o->∃m,g.get? b=U m):XF g' h H e cls:=by
 obtain⟨j,f,y,T,l,i,w,v,u,t,s,r,q,p,n,d,c,a⟩:=x;exact⟨j,f,y,T,l,i,w,v,u,t,s,r,q,p,Yd k n,Yd k d,c,a⟩
section
variable {X:Cx}{aa:List (L×Obj)}{σ:St}{H:D}{s:ah}
theorem aP.stackFields(J:aP X aa σ H s)(a:b∈ue X.stack):∃o,s.heap.get? b=U o/\∀vs,o.data≠.fields vs:=(J.stack.mem a).2
theorem aP.there0(a:X.ex=[])(J:aP X aa σ H s):∀b o,X.s₀.heap.get? b=U o->∃o',s.heap.get? b=U o':=λb o e=>J.base.there b o e (by rw[a];simp)
theorem aP.behind{cs:List L}(r:X.ex=[])(J:aP X aa σ H s)(f:∀b∈cs,H b=am/\X.s₀.heap.get? b=am) (t:∀b o,s.heap.get? b=U o->b ∉ ue X.stack->b ∉ cs->h2.get? b=U o) (E:∀b o,s.heap.get? b=U o->b∈ue X.stack->∃d,h2.get? b=U { o with slots:=d }) :
  Un X.fs [] X.H₀ H X.s₀.heap h2/\uk X.prog X.w H h2:=by
 have a:Un X.fs [] X.H₀ H X.s₀.heap s.heap:=by have:=J.base;rw[r] at this;exact this
 have C:∀b o,X.s₀.heap.get? b=U o->b≠X.env.locals:=λb o e=>bR (bV (bI e) J.ok.above);have l:∀b o,X.s₀.heap.get? b=U o->b ∉ cs:=λb o e z=>by rw[(f b z).2] at e;cases e
 have h:∀b o,s.heap.get? b=U o->b ∉ cs->∃d,h2.get? b=U { o with slots:=d }:=λb o e n=>by
  by_cases hb:b∈ue X.stack
  .exact E b o e hb
  .exact⟨o.slots,t b o e hb n⟩
 refine⟨⟨λb o e n g _=>?_,λb o e n g _=>?_,a.free,λb o e g=>?_,a.tups,a.frzs,a.tbls⟩,λb u e=>?_⟩
 .refine t b o (a.keep b o e n g (by simp)) (λz=>?_) (l b o e);rcases bw.mp (J.stkSub b z) with q|q
  .exact C b o e q
  .exact g q
 .obtain⟨d,q⟩:=a.slot b o e n g (by simp);obtain⟨j,k⟩:=h b _ q (l b o e);exact⟨j,k⟩
 .obtain⟨A,q⟩:=a.there b o e (by simp);obtain⟨d,k⟩:=h b A q (l b o e);exact⟨_,k⟩
 .refine(J.hok b u e).stay (λc v hc q=>?_) (λ_ q=>q) λ_ _ q=>q;have y:H c≠am:=by
   rcases hc with rfl|hc
   .rw[e];simp
   .rw[hc];simp
  exact t c v q (λz=>y (J.stkFree c z)) λz=>y (f c z).1
theorem aP.flown{cs:List L}(f:X.ex=[])(J:aP X aa σ H s)(a:∀b∈cs,H b=am/\X.s₀.heap.get? b=am) (A:∀b o,s.heap.get? b=U o->b ∉ ue X.stack->b ∉ cs->Bn.get? b=U o) (y:∀b o,s.heap.get? b=U o->b∈ue X.stack->∃h,h2.get? b=U { o with slots:=h }) (he:H e=am) (k:X.s₀.heap.get? e=am) (kb:Bn.StaysIn h2) (O:h2.TracedW Bn e cls a0) :
  Un X.fs [] X.H₀ H X.s₀.heap h2/\uk X.prog X.w H h2/\XF X.s₀.heap h2 H e cls:=by
 have t:=J.behind (h2:=h2) f a (λb o q n1 n2=>kb b o (A b o q n1 n2)) y;refine⟨t.1,t.2,?_⟩;obtain⟨Q,M,T,r,n,h1,l,h3,h4,G,h6,E,C,h9⟩:=O;have d:∀o,s.heap.get? T=U o->T∈cs:=λo q=>by
  by_cases hb:T∈ue X.stack
  .obtain⟨g,j,nf⟩:=J.stackFields hb;obtain⟨h,z⟩:=y T g j hb;rw[E] at z;have I:r={ g with slots:=h }:=bH z;exact absurd (by rw[<-C,I]) (nf n)
  .by_cases hc:T∈cs
   .exact hc
   .rw[A T o q hb hc] at G;cases G
 refine⟨Q,M,a0,T,r,n,h1,l,h3,h4,h6,E,C,h9,k,?_,he,?_⟩
 .cases q:X.s₀.heap.get? T with
  |none=>rfl
  |some o =>
   obtain⟨g,j⟩:=J.there0 f T o q;rw[(a T (d g j)).2] at q;cases q
 .cases q:H T with
  |none=>rfl
  |some u =>
   obtain⟨o,z⟩:=(J.hok T u q).there;rw[(a T (d o z)).1] at q;cases q
theorem zeH{k:ax}{e:L}{d:af}{p:List af}{E:XK}{EE:af->ah->Prop}(c:X.stack=X.env::X.outer/\X.env.frame=U X.env.locals)(f:X.ex=[])(J:aP X aa σ H s)(g:Heap.MadeExcOf s.heap k e d p)(N:E d am H) :
  Bf (Bg X.prog X.w) X.A (leaving X.env (.ref e)) (λ_ v=>CX1 X.prog X.w X.outer X.H₀ X.s₀ E (.ref e) v) EE { s with heap:=k }:=by
 have Q:s.heap.FunFrames (lP s.heap (ue X.stack)) (X.env::X.outer):=by
  have q:=nV (as:=ue X.stack) J.stack λl C a I=>ir.mpr ⟨l,C,I⟩;rw[c.1] at q ⊢;exact q
 refine wpAny_leaves_madeW (s:={ s with heap:=k }) (base:=lP s.heap (ue X.stack)) (h:=s.heap) (by rw[J.ok.frames,c.1]) c.2 (λb o q=>oy _ q) Q g λO t j _ _ i=>?_;obtain⟨f1,f2,f3,T⟩:=j;have M:∀b o,s.heap.get? b=U o->b∈ue X.stack->∃r,O.get? b=U { o with slots:=r }:=λb o q G=>by
  obtain⟨o',m,A⟩:=J.stackFields G;rw[q] at m;cases m;exact i b o (g.keeps b o q) A
 obtain⟨y,x,w⟩:=J.flown (cs:=[]) f (λb z=>nomatch z) (λb o q n _=>nu _ q n) M
  (by
   cases q:H e with
   |none=>rfl
   |some u =>
    obtain⟨o,z⟩:=(J.hok e u q).there;rw[g.new] at z;cases z) (Yd (J.there0 f) g.new) f1 T
 exact⟨e,d,H,Z,J.os,J.bare,y,x,w,N⟩
theorem zfK{e:L}{d:af}{E:XK}{EE:af->ah->Prop}(c:X.stack=X.env::X.outer/\X.env.frame=U X.env.locals)(i:X.ex=[])(J:aP X aa σ H s)(u:XF X.s₀.heap s.heap H e d)(hE:E d am H) :
  Bf (Bg X.prog X.w) X.A (leaving X.env (.ref e)) (λ_ y=>CX1 X.prog X.w X.outer X.H₀ X.s₀ E (.ref e) y) EE s:=by
 obtain⟨I,v,a0,T,M,w,h1,h2,h3,h4,h5,h6,h7,h8,r,l,f,k⟩:=id u;have fr:s.heap.FunFrames (lP s.heap (ue X.stack++[e,T])) (X.env::X.outer):=by
  have q:=nV (as:=ue X.stack++[e,T]) J.stack λm Q a ha=>cI _ (ir.mpr ⟨m,Q,ha⟩);rw[c.1] at q ⊢;exact q
 refine wpAny_leaves_onW (base:=lP s.heap (ue X.stack++[e,T])) (a0:=a0) (by rw[J.ok.frames,c.1]) c.2
  ⟨λb o q=>oy _ q,iT _ (bP _ (by simp)),fr,I,v,T,M,w,h1,h2,h3,h4,iT _ (bP _ (by simp)),h5,h6,h7,h8⟩ λj h g=>?_
 obtain⟨f1,f2,f3,f4⟩:=h;have hF:∀b o,s.heap.get? b=U o->b∈ue X.stack->∃x,j.get? b=U { o with slots:=x }:=λb o q hb=>by
  obtain⟨o',p,N⟩:=J.stackFields hb;rw[q] at p;cases p;exact g b o q N
 obtain⟨G,C,A⟩:=J.flown (cs:=[e,T]) i (λb z=>by
   have t:b=e\/b=T:=by simpa using z
   rcases t with rfl|rfl
   .exact⟨f,r⟩
   .exact⟨k,l⟩) (λb o q n O=>nu _ q λz=>(bu.mp z).elim n O) hF f r f1 f4
 exact⟨e,d,H,Z,J.os,J.bare,G,C,A,hE⟩
end
def zfL(X:Cx)(E:XK):Prop:=∀(f:List (L×Obj)) (c:St) (H:D) (s:ah) (b:ax) (e:L) (a:af) (d:List af),aP X f c H s->Heap.MadeExcOf s.heap b e a d->E a am H->X.xe (.ref e) { s with heap:=b }
section
variable {P:av}{w:ay}{K:bA}{mg:Str->Option af}{base:ax}{N:List Str}{qual:Str}{scope:aC}{f:L}{cd:af}{A:aw}{outer:List Env}{s₀:ah}{H₀:D}{E:XK}
theorem jq:wz (CX1 P w) (q8 (CX1 P w) P w K mg base N qual scope f cd A outer s₀ H₀ E) E:=by
 intro o l H s n m I d;obtain⟨e,k,p,rfl,i,a,h,c,g,j⟩:=d;have J:=I.call' (ch:=[]) i h c a (λb z=>nomatch z);exact zfK (X:=q8 (CX1 P w) P w K mg base N qual scope f cd A outer s₀ H₀ E) ⟨Z,Z⟩ Z J (g.older (I.there0 Z)) j
theorem zdN:zfL (q8 (CX1 P w) P w K mg base N qual scope f cd A outer s₀ H₀ E) E:=by
 intro i d H s h e c g I a b;exact zeH (X:=q8 (CX1 P w) P w K mg base N qual scope f cd A outer s₀ H₀ E) ⟨Z,Z⟩ Z I a b
theorem zkO:PassesOwn (Bg P w) (q8 (CX1 P w) P w K mg base N qual scope f cd A outer s₀ H₀ E).A (q8 (CX1 P w) P w K mg base N qual scope f cd A outer s₀ H₀ E).env (q8 (CX1 P w) P w K mg base N qual scope f cd A outer s₀ H₀ E).xe:=PassesOwn.leaving
end
abbrev zfM:List af:=[.type "ValueError",.type "Exception",.type "BaseException",.type "object"]
abbrev zan:String:="ValueError.__new__"
def zcQ(C:L)(c:TA)(E:XK):TS:=λ_ a H=>c a H λb d=>b.length<=Bb/\E (.ref C) am d
theorem zhR{K:bA}{h:ax}{C:L}{e:List af}(X:K.In h)(q:sT K C e newId=ak) :
  ∃bm N o m v d l a w b u k j i g f y,h.get? C=U (excClassObj o m C N v bm d l a w b u k j i g f newId)/\h.Ns N y/\y "__init__"=am/\OwnTail h e bm:=by
 unfold sT at q;split at q
 case h_2=>cases q
 rename_i u cd sl ho;split at q
 case h_2=>cases q
 rename_i C' bm k j i g n f hm hs;rw[bX,bX,bX,bX,bX] at q;obtain⟨⟨⟨⟨⟨H,G⟩,E⟩,A⟩,x⟩,z⟩:=q;obtain rfl:C'=C:=by simpa using H
 obtain rfl:n=newId:=by simpa using G
 obtain⟨o,v,p,I,m,J,l,a,w,b,t⟩:=cd;have c:t=aq:=by simpa using E
 have s:p=.ref C'::bm:=hm;subst c s;have r:sl=#[k,j,i,g,U (.builtin n),f]:=by
  apply Array.ext';exact hs
 subst r;exact⟨bm,I,o,m,v,J,l,a,w,b,u,k,j,i,g,f,_,X _ _ ho,.of_isNs (W.isNs_of_in X x),W.nsMap_none_of_in X x (by simpa using z),W.tail_of_in X A⟩
section
variable {X:Cx}{x:Str}{C:L}{np tG pos:Pos}{e₀:aB}{rest:List aB}{ta:TA}{E:XK}
theorem zbu(v:X.calm=ak)(q:sT X.K C zfM zan=ak)(p:zfL X E)(t:Gl X x)(c:X.mg x=U (.ref C))(w:PA X (e₀::rest) ta) (f:Be (e₀::rest) X.env=(aq,eval e₀ X.env)::Be rest X.env:=by rfl) (r:(backTo tG (Be rest X.env)).any (·.1)=aq:=by rfl) (u:(x==("__debug__":Str))=aq:=by lia) :
  PS X (.Raise (U (.Call (.Name x np) (e₀::rest) [] tG)) am pos) (zcQ C ta E):=by
 intro i s d H O I h;obtain⟨k,N,nm,n,bs,hdct,sn,sub,ab,col,dd,k0,k1,k2,k3,k5,mN,z,y,b,T⟩:=zhR I.ok.mod.kin q;refine wpAny_Raise_call_subT (C:=C) (nm:=nm) (q:=n) (N:=N) (bs:=bs) (bm:=k) (hdct:=hdct) (sn:=sn) (sub:=sub) (ab:=ab) (col:=col) (dd:=dd) (k0:=k0) (k1:=k1) (k2:=k2) (k3:=k3) (k5:=k5) (newId:=zan)
  PySem.F.excBase_ValueError (mN:=mN) (T.hasType PySem.F.excBase_ValueError.hasBase) (I.ok.hd v) (by rw[f];exact r) b (vj I t c ⟨Z,?_⟩ u)
 have g:=w tG i s d H _ I h;rw[f] at g ⊢;refine eB (aZ g ?_);rintro M l ⟨J,G,a,m,j,o⟩;exact⟨Z,by rw[<-m.length];exact j,a.bk _ _ z,y.keeps a.bk,T.keeps a.bk,λA e c=>p i d G l A e _ _ a c o⟩
end
def Asc(x:Str):Prop:=∀c∈x.cps.toList,c<128
section
variable {X:Cx}{e:aB}{te:TE}{a:Str}{j:Nat}{p1 p2 p3:Pos}
def zfN(te:TE):TE:=λb H Q=>te b H λv c=>∃x:Str,v=.str x/\x.length<=100000/\∀y:Str,Q (.str y) c
theorem zdO(o:PE X e te)(E:a.length<=1000:=by lia):PE X (.JoinedStr [.FormattedValue e (-1) am p2,.Constant (.str a) j p1] p3) (zfN te):=by
 intro l s f H Q I h;refine wpAny_JoinedStr ?_;show Bf _ _ (eval (.FormattedValue e (-1) am p2) X.env) _ _ s;refine wpAny_FormattedValue_plain (aZ (o l _ f H _ I h) ?_);rintro v m ⟨x,w,r,n,z,p,A,q⟩;subst p;obtain⟨t,rfl⟩:=n;have C:Bb=16777216:=bL;have k:(oB++z).length=z.length:=by rw[mW];simp[oB,iO]
 have fin:∀(i:Tok) (g:Nat),∃y u,iq z i=iq y u/\(oB++y).length<=Bb/\Joins (Bg X.prog X.w) X.A X.xe (evalEach [.Constant (.str a) j p1] X.env) (oB++y) (λc b=>c.length<=Bb/\EP X l f Q (.str c b.toks) { b with toks:=b.toks+1 }) { m with toks:=g }:=λi g=>by
  refine⟨_,_,Z,by rw[k];lia,?_⟩;show Bf _ _ (eval (.Constant (.str a) j p1) X.env) _ _ _;have d:(oB++z++a).length<=Bb:=by rw[mW,k];lia
  refine pS ⟨a,_,Z,d,d,.str _,w,r.tok _,⟨_,Z⟩,q _⟩
 exact wpAny_formatField_str (fin _ _) (fin _ _) ()
end
structure ExC(K:bA)(C:L):Prop where
 ga:fB K (.ref C) "__getattribute__"=U (U (.builtin "BaseException.__getattribute__"))
 gx:fB K (.ref C) "__getattr__"=U am
 cl:fB K (.ref C) "__class__"=U (U (.builtin "object.__class__"))
 ob:sS K C (.type "object")=U ak
 be:sS K C (.type "BaseException")=U ak
 ge:sE K (.builtin "object.__class__") "__get__"=U (U (.builtin "getset_descriptor.__get__"))
 tk:W.takesIn K (.builtin "object.__class__")=U ak
section
variable {X:Cx}{aa:List (L×Obj)}{σ:St}{H:D}{s:ah}
theorem aP.land{t:List L}(a:X.ex=[])(I:aP X aa σ H s)(h:∀b∈t,H b=am/\X.s₀.heap.get? b=am)(j:∀b∈t,∀p∈X.pn++aa,p.1≠b) (J:∀b o,s.heap.get? b=U o->b ∉ ue X.stack->b ∉ t->h2.get? b=U o) (g:s.heap.UpToSlots h2):aP X aa σ H { s with heap:=h2 }:=by
 have hF:∀b o,s.heap.get? b=U o->b∈ue X.stack->∃y,h2.get? b=U { o with slots:=y }:=λb o q hb=>by
  obtain⟨o',A,f⟩:=I.stackFields hb;rw[q] at A;cases A;exact g b o q f
 obtain⟨Q,O⟩:=I.behind a h J hF;have M:∀c v,s.heap.IsCell c v->h2.IsCell c v:=λc v ⟨o,T,G⟩=>by
  obtain⟨y,q⟩:=g c o T λvs z=>by rw[G] at z;cases z
  exact⟨_,q,G⟩
 refine⟨I.ok,I.os,I.bare,by rw[a];exact Q,?_,λx c e=>?_,I.free,I.freeC,λp E=>?_,O,I.len⟩
 .obtain⟨m,hn,hl⟩:=I.loc;refine⟨m,g.ns hn,λi x v e1 e2 e3=>?_⟩;obtain⟨u,r,l⟩:=hl i x v e1 e2 e3;refine⟨u,r,?_⟩;rcases l with l|⟨k,c,e,z⟩
  .exact .inl l
  .exact .inr ⟨k,c,e,M c _ z⟩
 .obtain⟨v,z⟩:=I.cell x c e;exact⟨v,M c v z⟩
 .obtain⟨e,n,C,f,d⟩:=I.pin p E;exact⟨J _ _ e (λz=>(bw.mp (I.stkSub _ z)).elim C f) λz=>j _ z p E Z,n,C,f,d⟩
end
abbrev Cx.sub(X:Cx)(e:L):Cx:={ X with A:=X.A.mark (U (.ref e)),calm:=aq,xe:=λ_ _=>False }
section
variable {X:Cx}{aa:List (L×Obj)}{σ:St}{H:D}{s:ah}{e:L}
theorem aP.toSub(I:aP X aa σ H s):aP (X.sub e) aa σ H s :=
 ⟨⟨I.ok.mod,I.ok.kind,I.ok.glob,I.ok.blt,I.ok.above,I.ok.inj,I.ok.has,I.ok.cab,(),I.ok.frames,I.ok.stk,I.ok.exf,I.ok.bs,I.ok.bsz,I.ok.noex,I.ok.exfs,I.ok.funs,I.ok.frf⟩,I.os,I.bare,I.base,I.loc,I.cell,I.free,I.freeC,I.pin,I.hok,I.len⟩
theorem aP.ofSub{J:aP X aa σ H s}{a:St}{b:D}(I:aP (X.sub e) aa a b s'):aP X aa a b s':=
 ⟨J.ok,I.os,I.bare,I.base,I.loc,I.cell,I.free,I.freeC,I.pin,I.hok,I.len⟩
end
abbrev EXK:=af->St->D->Prop
def PX(X:Cx)(g:List (L×Obj))(j:EXK):af->ah->Prop:=λh f=>∃e a b d i c,h=.ref e/\aP X g b i d/\aP X g b c f/\XF d.heap f.heap c e a/\j a b c
def PEX(X:Cx)(d:aB)(t:EXK->TE):Prop :=
 ∀(b:List (L×Obj)) (s:ah) (a:St) (H:D) (Q:VK) (c:EXK),aP X b a H s->t c a H Q->Bf (Bg X.prog X.w) X.A (eval d X.env) (EP X b a Q) (PX X b c) s
def PSX(X:Cx)(st:aA)(t:EXK->TS):Prop :=
 ∀(a:List (L×Obj)) (s:ah) (b:St) (H:D) (d:Wg) (c:EXK),aP X a b H s->t c d b H->Bf (Bg X.prog X.w) X.A (exec st X.env) (SP X a d) (PX X a c) s
section
variable {X:Cx}{ex:aB}{tx:EXK->TE}{pos p1:Pos}{i:Nat}{y:Str}
def ziT(tx:EXK->TE)(i:Nat)(c:EXK):TS:=λd a H=>tx c a H λv b=>d.nx (a.set i (U v)) b
theorem zhS(k:X.N.Nodup)(f:X.N[i]?=U y)(d:Loc X.env.scope y)(j:PEX X ex tx)(e:swapsWith ex (U (.Name y pos')) pos.line X.env=pure aq:=by rfl)(g:X.fn y=ak\/X.env.scope.names.lookup y=U .local:=by first|exact .inl rfl|exact .inr rfl|assumption) :
  PSX X (.Assign [.Name y pos'] ex pos) (ziT tx i):=by
 intro l s a H t p I h;refine wpAny_Assign_Name (aZ (j l s a H _ p I h) ?_) e;rintro v r ⟨x,o,n,b,c⟩;exact VT n k f d b (λq m=>⟨_,o,m,c⟩) g
end
structure ExK(K:bA)(C:L):Prop extends ExC K C where
 has:(W.clsIn K C).isSome=ak
theorem zo :wz (CX1 P w) X E0:=λ_ _ _ _ _ _ _ h=>by
 obtain⟨_,_,_,_,_,_,_,_,_,z⟩:=h;exact z.elim
section
variable {P:av}{w:ay}{K:bA}{mg:Str->Option af}{base:ax}
theorem Fun.ok1{x qual:Str}{st:aA}{f:L}{fd:Bc}{N d:List Str}{k:Nat}{sp:Sp}(F:Fun K x qual st f fd)(S:aM N d (zl st))(e:∀b H Q E,sp b H Q E->b.length=d.length) (c:∀(cdv:af) (A:aw) (a:List Env) (s:ah) (H:D) (b:List V) (Q:VK) (E:XK),tD k (A.deeper (envOfC qual (zl st) s.heap.objs.size f cdv))->sp b H Q E ->
   ∃t,PSs (q8 (CX1 P w) P w K mg base N qual (zl st) f cdv A a s H E) (wu st) t/\t { nx:=λ_ l=>Q .non l,rt:=Q } (start N b) H):tq P w K mg base (CX1 P w) (k+1) f fd d sp:=by
 obtain⟨oc,od,kV,doc,pm,an,cdv,ct,osl,rfl,i,h⟩:=F.ex;exact ziQ i h S e λA a s H b Q E j g=>c cdv A a s H b Q E j g
theorem Fun.ok0{x qual:Str}{st:aA}{f:L}{fd:Bc}{N g:List Str}{k:Nat}{sp:Sp}(F:Fun K x qual st f fd)(S:aM N g (zl st))(i:∀d H Q E,sp d H Q E->d.length=g.length) (e:∀(cdv:af) (A:aw) (c:List Env) (s:ah) (H:D) (d:List V) (Q:VK) (E:XK),tD k (A.deeper (envOfC qual (zl st) s.heap.objs.size f cdv))->sp d H Q E ->
   ∃t,PSs (q8 (CX1 P w) P w K mg base N qual (zl st) f cdv A c s H E).nox (wu st) t/\t { nx:=λ_ l=>Q .non l,rt:=Q } (start N d) H):tq P w K mg base (CX1 P w) (k+1) f fd g sp :=
 F.ok1 S i λcdv A c s H d Q E j h=>let ⟨t,a,b⟩:=e cdv A c s H d Q E j h;⟨t,a.nox,b⟩
end
end L2
namespace L2
open PySem
section
variable {σ:St}{H:D}{nx:St->D->Prop}{Bn:V->St->D->(St->D->Prop)->Prop}
theorem YW{lo:Int}(Pv:Nat->St->D->Prop)(g:Pv 0 σ H)(e:∀i σ H,i<n->Pv i σ H->Bn (.int (lo+i)) σ H (Pv (i+1)))(f:∀σ H,Pv n σ H->nx σ H) :
  ∃W:Nat->Nat->St->D->Prop,(∃m,W 0 m σ H)/\∀i m σ H,W i m σ H->((Itr lo n).stop i H/\nx σ H)\/((Itr lo n).go i H/\∃N:St->D->Prop,(∀a b,N a b->∃c,c<m/\W (i+1) c a b)/\∀x b,(Itr lo n).yld i H x b->Bn x σ b N):=by
 refine⟨λi m σ H=>m=n-i/\i<=n/\Pv i σ H,⟨n,by simp,bS _,g⟩,?_⟩;rintro i m σ H ⟨rfl,h,p⟩;by_cases hlt:i<n
 .refine .inr ⟨hlt,Pv (i+1),λa b d=>⟨n-(i+1),(),Z,hlt,d⟩,?_⟩;rintro x b ⟨rfl,rfl⟩;exact e i σ _ hlt p
 .obtain rfl:i=n:=by lia
  exact .inl ⟨bo _,f σ H p⟩
theorem xG(b:List V)(Pv:Nat->St->D->Prop)(k:Pv 0 σ H)(h:∀i σ H,Pv i σ H->aT K H a b)(g:∀i x σ H,b[i]?=U x->Pv i σ H->Bn x σ H (Pv (i+1)))(j:∀σ H,Pv b.length σ H->nx σ H) :
  ∃W:Nat->Nat->St->D->Prop,(∃m,W 0 m σ H)/\∀i m σ H,W i m σ H->((Itl K a).stop i H/\nx σ H)\/((Itl K a).go i H/\∃N:St->D->Prop,(∀c d,N c d->∃e,e<m/\W (i+1) e c d)/\∀x d,(Itl K a).yld i H x d->Bn x σ d N):=by
 refine⟨λi m σ H=>m=b.length-i/\i<=b.length/\Pv i σ H,⟨b.length,by simp,bS _,k⟩,?_⟩;rintro i m σ H ⟨rfl,l,p⟩;have q:=h i σ H p;by_cases hlt:i<b.length
 .refine .inr ⟨⟨b,b[i],q,by simp[hlt]⟩,Pv (i+1),λc d f=>⟨b.length-(i+1),(),Z,hlt,f⟩,?_⟩;rintro x d ⟨rfl,y⟩;exact g i x σ _ (y b q) p
 .obtain rfl:i=b.length:=by lia
  exact .inl ⟨⟨b,q,bo _⟩,j σ H p⟩
theorem zfO(b:List V)(Pv:Nat->St->D->Prop)(k:Pv 0 σ H)(h:∀i σ H,Pv i σ H->tI K H a b)(g:∀i x σ H,b[i]?=U x->Pv i σ H->Bn x σ H (Pv (i+1)))(j:∀σ H,Pv b.length σ H->nx σ H) :
  ∃W:Nat->Nat->St->D->Prop,(∃m,W 0 m σ H)/\∀i m σ H,W i m σ H->((Itt K a).stop i H/\nx σ H)\/((Itt K a).go i H/\∃N:St->D->Prop,(∀c d,N c d->∃e,e<m/\W (i+1) e c d)/\∀x d,(Itt K a).yld i H x d->Bn x σ d N):=by
 refine⟨λi m σ H=>m=b.length-i/\i<=b.length/\Pv i σ H,⟨b.length,by simp,bS _,k⟩,?_⟩;rintro i m σ H ⟨rfl,l,p⟩;have q:=h i σ H p;by_cases hlt:i<b.length
 .refine .inr ⟨⟨b,b[i],q,by simp[hlt]⟩,Pv (i+1),λc d f=>⟨b.length-(i+1),(),Z,hlt,f⟩,?_⟩;rintro x d ⟨rfl,y⟩;exact g i x σ _ (y b q) p
 .obtain rfl:i=b.length:=by lia
  exact .inl ⟨⟨b,q,bo _⟩,j σ H p⟩
end
theorem zao(n d:Nat)(v:Int):max (0:Int) (min (if v<0 then v+n else v) n)=((HT.sIx n d (U v):Nat):Int):=by
 show _=(((if v<0 then (v+(n:Int)).toNat else min v.toNat n):Nat):Int);by_cases hv:v<0
 .simp only[au hv];lia
 .simp only[ao hv];lia
theorem zhT(a b:Nat):sliceRange (a:Int) (b:Int) 1=(eE (b-a)).map λk=>a+k:=by
 simp only[sliceRange,show ((1:Int) > 0)=True from by simp,if_true];by_cases hlt:(a:Int)<b
 .have c:(((b:Int)-a+1-1)/1).toNat=b-a:=by rw[Int.ediv_one];lia
  simp only[hlt,if_true,c];refine dC λk _=>?_;lia
 .have:b-a=0:=by lia
  simp[hlt,this]
theorem zfP(lo a:Option Int)(n:Nat):lT lo a 1 n=(eE (HT.sIx n n a-HT.sIx n 0 lo)).map λk=>HT.sIx n 0 lo+k:=by
 rw[<-zhT];unfold lT;simp only[show ((1:Int) > 0)=True from by simp,if_true];cases lo with
 |none =>
  cases a with
  |none=>rfl
  |some v=>simp only[zao n n v];rfl
 |some u =>
  cases a with
  |none=>simp only[zao n 0 u];rfl
  |some v=>simp only[zao n n v,zao n 0 u]
theorem Qt(x:Str)(lo a:Option Int):(gS x lo a).cps.toList=(x.cps.toList.drop (HT.sIx x.length 0 lo)).take (HT.sIx x.length x.length a-HT.sIx x.length 0 lo):=by
 have c:=HT.sIx_le x.length x.length (bo _) a;have b:x.cps.toList.length=x.length:=by simp[iO]
 unfold gS;rw[zfP];split
 .rename_i h;have d:HT.sIx x.length x.length a-HT.sIx x.length 0 lo=x.length:=by simpa using h
  have e0:HT.sIx x.length 0 lo=0\/x.length=0:=by lia
  rcases e0 with e0|e0
  .rw[e0,gh,b7];lia
  .rw[gb (by lia:x.cps.toList.length=0)];simp
 .by_cases hab:HT.sIx x.length 0 lo<=HT.sIx x.length x.length a
  .have h:=StrLaws.picks x.cps.toList (HT.sIx x.length x.length a-HT.sIx x.length 0 lo) (HT.sIx x.length 0 lo) ();simpa using h
  .have:HT.sIx x.length x.length a-HT.sIx x.length 0 lo=0:=by lia
   rw[this];simp
theorem Ja(x:Str)(k:Nat):(gS x (U (k:Int)) am).cps.toList=x.cps.toList.drop k:=by
 rw[Qt,HT.sIx_none,HT.sIx_nat];have a:x.cps.toList.length=x.length:=by simp[iO]
 by_cases h:k<=x.length
 .rw[dZ h,b7 (by rw[cW];lia)]
 .rw[oo (by lia:x.cps.toList.length<=k),lB (),oo ()];simp
theorem zbv(x:Str)(k:Nat):(gS x am (U (k:Int))).cps.toList=x.cps.toList.take k:=by
 rw[Qt,HT.sIx_none,HT.sIx_nat,gh,rP];have a:x.cps.toList.length=x.length:=by simp[iO]
 by_cases h:k<=x.length
 .rw[dZ h]
 .rw[lB (),b7 (),b7 ()]
theorem zhU{x y:Str}(h:x.cps.toList=y.cps.toList):x=y:=by
 obtain⟨a⟩:=x;obtain⟨b⟩:=y;have:a=b:=nW.mp h;rw[this]
theorem zhV(x y:Str):(x++y).cps.toList=x.cps.toList++y.cps.toList:=by
 show (x.cps++y.cps).toList=_;simp
open PySem.NumText in
section
def zkP(w:Int):Str:=bf (toString w)
def dg(m:Nat):List Nat:=(Nat.toDigits 10 m).map Char.toNat
theorem Xk(x:Str):x.length=x.cps.toList.length:=by simp[iO]
def inF(c:Nat):Bool:=!(iB "0123456789" ⟨#[c]⟩ 0 (iO "0123456789") 1).isEmpty
def zko(x:Str):Bool:=!decide (x="")&&x.cps.toList.all inF
def tK(i:Int):Bool:=decide (-1000000000000000000000000000000<=i/\i<=1000000000000000000000000000000)
def ziU(x:Str):Str:=if (x.cps.toList.take 1==[45])=ak then gS x (U 1) am else x
def zfQ(x:Str):Int:=(intText? x).getD 0
def zkp(x:Str):Bool:=!(decide (31<(ziU x).length) || !zko (ziU x))&&(tK (zfQ x)&&decide (zkP (zfQ x)=x))
end
end L2
namespace L2
open PySem PySem.Spec PyProof.Rows
def zdP(x y:Str):Int:=match iB x y 0 x.length 1 with|i::_=>(i:Int)|[]=>-1
abbrev Qu:RM:=λx c H Q=>∃a b,x=.str a/\c=[.str b]/\Q (.int (zdP a b)) H
def Qv(a:Str):List Str->Str
 |[p]=>p
 |l=>mX a l
def zfR(a:Str)(b:List Str):Nat:=b.foldl (λn p=>n+p.length+a.length) 0
abbrev Wn(K:bA):RM:=λx d H Q=>∃b a c,x=.str b/\d=[.ref a]/\aT K H a (c.map V.str)/\zfR b c<=Bb/\Q (.str (Qv b c)) H
theorem zap(a:Str):∀(b:List Str) (k:Nat),b.foldl (λn p=>n+p.length+a.length) k=k+(b.map (·.length)).sum+b.length*a.length
 |[],k=>by simp
 |p::r,k=>by
  rw[fj,zap a r,bh,bZ,bU,Nat.add_mul,Nat.one_mul];lia
theorem zeI(a:Str)(ls:List Str):(Qv a ls).length<=zfR a ls:=by
 unfold zfR;rw[zap];have g:(mX a ls).length<=0+(ls.map (·.length)).sum+ls.length*a.length:=by
  rw[size_glued];have:(ls.length-1)*a.length<=ls.length*a.length:=Nat.mul_le_mul_right _ ();lia
 unfold Qv;split
 .simp only[bh,mD,bZ,List.sum_nil,bU,oE];lia
 .exact g
theorem zfS(b:List Str):(Qv "" b).cps.toList=(b.map λp=>p.cps.toList).flatten:=by
 have g:∀(r:List Str) (a:Array Nat),(r.foldl (λc p=>c++(bf "").cps++p.cps) a).toList=a.toList++(r.map λp=>p.cps.toList).flatten:=by
  intro r;induction r with
  |nil=>intro a;simp
  |cons p r ih =>
   intro a;have e:(bf "").cps=#[]:=by lia
   rw[fj,ih,e];simp
 unfold Qv;split
 .simp
 .unfold mX;cases b with
  |nil=>lia
  |cons p r=>exact g r p.cps
theorem Qw:∀ {b:List Str} {a:List af},aR (b.map V.str) a->∃l:List (Str×Tok),a=strValues l/\l.map (·.1)=b
 |[],_,.nil=>⟨[],Z,Z⟩
 |x::r,_,.cons h t=>by
  obtain⟨l,rfl,e⟩:=Qw t;obtain⟨k,rfl⟩:=h;exact⟨(x,k)::l,Z,by rw[bh,e]⟩
section
variable {X:Cx}
theorem zhW:MtR X "str.find" Qu:=by
 intro j s f H x g v i Q I d e h;obtain⟨a,b,rfl,rfl,q⟩:=h;obtain⟨t,rfl⟩:=d;obtain⟨u,rfl,c,rfl⟩:=kI e;exact call_gives F.slot_str_find (oU s a t) F.entry_str_find (F.args_str_find_2 _ _) (gives_str_find a b t c) ⟨.int (zdP a b),H,I.tok _,⟨_,Z⟩,q⟩
theorem zhX:MtR X "str.join" (Wn X.K):=by
 intro C s w H x y v z Q I g j h;obtain⟨b,a,m,rfl,rfl,o,c,q⟩:=h;obtain⟨t,rfl⟩:=g;obtain⟨u,rfl,k⟩:=kI j;cases k;obtain⟨n,i,p,A⟩:=I.list o;obtain⟨l,rfl,e⟩:=Qw i;have f:pK ((l.map (·.1)).toArray.foldl (· + ·.length+b.length) 0)=aq:=by
  rw[e,List.foldl_toArray];unfold pK;exact Bk (by unfold zfR at c;lia)
 have d:=zeI b m;refine iP F.slot_str_join (oU s b t) F.entry_str_join (F.args_str_join_2 _ _) (meets_str_join_list b t a l f) ⟨p.isList,?_⟩;subst e
 match l,q,d,c with
 |[],q,d,c=>exact⟨bM d c,.str _,H,I.tok _,⟨_,Z⟩,q⟩
 |[p],q,d,c=>exact⟨.str p.1,H,I,⟨_,Z⟩,q⟩
 |p::p'::r,q,d,c=>exact⟨bM d c,.str _,H,I.tok _,⟨_,Z⟩,q⟩
end
theorem v7(x y:Str):(x++y).length=x.length+y.length:=mW x y
def ziV(_ j:Int):Prop:=j≠0/\-big<j/\j<big
section
variable {X:Cx}
theorem zfT:ud X (binaryOp .FloorDiv) (rI ziV λi j=>.int (i.fdiv j)):=opI λi j _ _ _ _ _ a q =>
 floordiv_int a.1 q (.inl (mV (rO (V9 (zam a.2)) ())))
end
theorem zhY(r:tD k A):A.units+64<cLine:=by have:=r.un;lia
def q9:V->PyData
 |.non=>.none
 |.bl b=>.bool b
 |.int i=>.int i
 |.str x=>.str x
 |_=>.none
def yX:V->Bool
 |.non=>ak
 |.bl _=>ak
 |.int _=>ak
 |.str x=>cS x
 |_=>aq
theorem Asc.flat(h:Asc x):yX (.str x)=ak:=by
 unfold yX cS;rw[Array.all_eq_true];intro i a;have:=h x.cps[i] (by simp);exact Bj ()
def zjt:V->V->Bool
 |.bl _,.int _=>aq
 |.int _,.bl _=>aq
 |_,_=>ak
def zaq:List V->List V->Bool
 |x::xs,y::ys=>zjt x y&&zaq xs ys
 |_,_=>ak
theorem jr:∀ {c:List V} {d:List af},c.all yX=ak->aR c d->CarriedAll d (c.map q9)
 |[],_,_,.nil=>.nil
 |x::r,_,h,.cons rx t=>by
  rw[gI,bX] at h;refine .cons ?_ (jr h.2 t);cases x with
  |non=>cases rx;exact .none
  |bl b=>cases rx;exact .bool b
  |int i=>obtain⟨t,rfl⟩:=rx;exact .int i t
  |str x=>obtain⟨t,rfl⟩:=rx;exact .str x t
  |byt b=>exact absurd h.1 (by simp[yX])
  |flt b=>exact absurd h.1 (by simp[yX])
  |ref a=>exact absurd h.1 (by simp[yX])
  |ty n=>exact absurd h.1 (by simp[yX])
theorem zfU(d:yX x=ak)(c:yX y=ak):sI (q9 x) (q9 y)=decide (x=y):=by
 cases x <;> cases y <;> simp_all [yX,q9,sI] <;> (rename_i a b;by_cases e:a=b <;> simp[e])
theorem Zi:∀ {d c:List V},d.all yX=ak->c.all yX=ak->mG (d.map q9) (c.map q9)=decide (d=c)
 |[],[],_,_=>by simp[mG]
 |[],_::_,_,_=>by simp[mG]
 |_::_,[],_,_=>by simp[mG]
 |x::r,y::t,hx,hy=>by
  rw[gI,bX] at hx hy;rw[bh,bh,mG,zfU hx.1 hy.1,Zi hx.2 hy.2];by_cases a:x=y <;> by_cases b:r=t <;> simp[a,b]
theorem zeJ(b:yX x=ak)(a:yX y=ak)(h:zjt x y=ak):pL (q9 x) (q9 y)=ak:=by
 cases x <;> cases y <;> simp_all [yX,q9,pL,zjt]
theorem ql:∀ {b a:List V},b.all yX=ak->a.all yX=ak->zaq b a=ak->iU (b.map q9) (a.map q9)=ak
 |[],[],_,_,_=>by simp[iU]
 |[],_::_,_,_,_=>by simp[iU]
 |_::_,[],_,_,_=>by simp[iU]
 |x::r,y::t,hx,hy,h=>by
  rw[gI,bX] at hx hy;rw[zaq,bX] at h;rw[bh,bh,iU,zeJ hx.1 hy.1 h.1,ql hx.2 hy.2 h.2];rfl
theorem qm{b:List V}(h:b.all yX=ak):oG (.list (b.map q9))=ak/\oG (.tuple (b.map q9))=ak:=by
 have a:∀x,yX x=ak->(q9 x).canLay0=ak/\(q9 x).depth=0:=λx=>by cases x <;> simp[q9,pC,oH,yX]
 have l:∀c:List V,c.all yX=ak->rC (c.map q9)=ak/\iC (c.map q9)=0:=by
  intro c;induction c with
  |nil=>exact λ_=>⟨Z,Z⟩
  |cons y r ih =>
   intro h;rw[gI,bX] at h;exact⟨by rw[bh,rC,(a y h.1).1,(ih h.2).1];rfl,by rw[bh,iC,(a y h.1).2,(ih h.2).2];rfl⟩
 exact⟨by simp[oG,pC,oH,(l b h).1,(l b h).2],by simp[oG,pC,oH,(l b h).1,(l b h).2]⟩
abbrev zkq(K:bA)(e:Bool):R2:=λx y H Q=>∃a b d c,x=.ref a/\y=.ref b/\aT K H a d/\aT K H b c/\(d.all yX=ak/\c.all yX=ak/\zaq d c=ak)/\Q (.bl (if e then !decide (d=c) else decide (d=c))) H
section
variable {X:Cx}
theorem zju(l:X.A.units+64<cLine):ud X (Bi .Eq) (zkq X.K aq):=by
 intro A s p H x y v u Q I f e h;obtain⟨a,b,t,r,rfl,rfl,n,m,⟨d,c,o⟩,q⟩:=h;cases f;cases e;obtain⟨z,i,k,_⟩:=I.list n;obtain⟨w,g,j,_⟩:=I.list m;refine eq_dataH_same (nK k.isList (jr d i)) (nK j.isList (jr c g)) (qm d).1 (qm c).1 l (by rw[pL];exact ql d c o) ?_;rw[sI,Zi d c];exact⟨.bl _,H,I,Z,q⟩
theorem zjv(l:X.A.units+64<cLine):ud X (Bi .NotEq) (zkq X.K ak):=by
 intro A s p H x y v u Q I f e h;obtain⟨a,b,t,r,rfl,rfl,n,m,⟨d,c,o⟩,q⟩:=h;cases f;cases e;obtain⟨z,i,k,_⟩:=I.list n;obtain⟨w,g,j,_⟩:=I.list m;refine ne_dataH_same (nK k.isList (jr d i)) (nK j.isList (jr c g)) (qm d).1 (qm c).1 l (by rw[pL];exact ql d c o) ?_;rw[sI,Zi d c];exact⟨.bl _,H,I,Z,q⟩
abbrev zcR(K:bA):R2:=λx y H Q=>∃a b c,x=.ref a/\y=.ref b/\aT K H a c/\aT K H b []/\Q (.bl (decide (c=[]))) H
theorem zbw(p:X.A.units+64<cLine):ud X (Bi .Eq) (zcR X.K):=by
 intro t s k H x y v u Q I f d h;obtain⟨a,b,c,rfl,rfl,i,g,q⟩:=h;by_cases e:c=[]
 .subst e;exact zju p t s k H _ _ v u Q I f d ⟨a,b,[],[],Z,Z,i,g,⟨Z,Z,Z⟩,q⟩
 .cases f;cases d;obtain⟨A,m,o,_⟩:=I.list i;obtain⟨w,l,n,_⟩:=I.list g;cases l;have j:=m.length;have r:c.length≠0:=λz=>e (gb z);refine PySem.SeqAt.eq_list_lengthsAt o.isList n.isList (by simp;intro z;rw[z] at j;exact r j) () ?_;rw[Bk e] at q;exact⟨.bl aq,H,I,Z,q⟩
end
abbrev yT:RM:=zdE
abbrev Jb:RM:=zkk
def jw:List V:=[.str "plus",.str "minus",.str "times",.str "over",.str "rest",.str "under",.str "same"]
def isJ(v:V):Bool:=inV v jw
inductive Er where
 |nought|great|stuck
 deriving DecidableEq
def Jc(w:Str)(a b:Int):Int :=
 if w="plus" then a+b else if w="minus" then a-b else if w="times" then a*b else if w="under" then (if a<b then 1 else 0) else if w="same" then (if a=b then 1 else 0) else if w="over" then a.fdiv b else a.fmod b
def Jd(w:Str):Prop:=¬ w="plus"/\¬ w="minus"/\¬ w="times"/\¬ w="under"/\¬ w="same"
instance (w:Str):Decidable (Jd w):=by unfold Jd;infer_instance
def kM(w:Str)(a b:Int):Except Er Int:=if Jd w/\b=0 then .error .nought else if tK (Jc w a b)=ak then .ok (Jc w a b) else .error .great
def zfV(a:List (aW×V)):V->Int
 |.int i=>i
 |.str x=>(match yj a (.inr x) with|some (.int i)=>i|_=>0)
 |_=>0
def wZ(d:List (aW×V))(st:List Int)(v:V):Except Er (List Int) :=
 if isJ v=ak then (match v,st.reverse with|.str w,b::a::r=>(match kM w a b with|.ok c=>.ok (r.reverse++[c])|.error e=>.error e)|_,_=>.error .stuck) else .ok (st++[zfV d v])
def vf(a:List (aW×V)):List V->List Int->Except Er (List Int)
 |[],st=>.ok st
 |v::r,st=>match wZ a st v with|.ok st'=>vf a r st'|.error e=>.error e
section
variable {aJ:List (aW×V)}
theorem Zj:∀(p q:List V) (a:List Int),vf aJ (p++q) a=match vf aJ p a with|.ok st'=>vf aJ q st'|.error e=>.error e
 |[],q,a=>rfl
 |v::r,q,a=>by
  show (match wZ aJ a v with|.ok st'=>vf aJ (r++q) st'|.error e=>.error e)=match (match wZ aJ a v with|.ok st'=>vf aJ r st'|.error e=>.error e) with|.ok st'=>vf aJ q st'|.error e=>.error e
  cases wZ aJ a v with
  |error e=>rfl
  |ok st'=>exact Zj r q st'
def Good(aJ:List (aW×V))(b:List V)(r:Except Er Int):Prop:=(∀a,vf aJ b a=match r with|.ok i=>.ok (a++[i])|.error e=>.error e)/\r≠.error .stuck
theorem zeK(h:isJ v=aq):Good aJ [v] (.ok (zfV aJ v)):=by
 refine⟨λa=>?_,λz=>nomatch z⟩;unfold vf wZ;rw[h,ao ()];rfl
def ziW(w:Str)(d c:Except Er Int):Except Er Int:=match d with|.error e=>.error e|.ok a=>match c with|.error e=>.error e|.ok b=>kM w a b
theorem zfW(w:Str)(a b:Int):kM w a b≠.error .stuck:=by
 unfold kM;split
 .exact λz=>nomatch z
 .split <;> exact λz=>nomatch z
theorem zeL{f d:Except Er Int}(k:isJ (.str w)=ak)(j:Good aJ p1 f)(h:Good aJ p2 d):Good aJ (p1++p2++[.str w]) (ziW w f d):=by
 refine⟨λg=>?_,?_⟩
 .rw[Zj,Zj,j.1];cases f with
  |error e=>rfl
  |ok a =>
   show (match vf aJ p2 (g++[a]) with|.ok st'=>vf aJ [.str w] st'|.error e=>.error e)=_;rw[h.1];cases d with
   |error e=>rfl
   |ok b =>
    show vf aJ [.str w] (g++[a]++[b])=match kM w a b with|.ok i=>.ok (g++[i])|.error e=>.error e
    unfold vf wZ;rw[k,au rfl];simp only[pM,rD,r9,gC,dE,cP];cases kM w a b with
    |error e=>rfl
    |ok c=>simp[vf]
 .unfold ziW;cases f with
  |error e=>exact j.2
  |ok a =>
   cases d with
   |error e=>exact h.2
   |ok b=>exact zfW w a b
theorem zdQ{a:List Int}(h:vf aJ (ps.take i) a=.error e):vf aJ ps a=.error e:=by
 have:=Zj (aJ:=aJ) (ps.take i) (ps.drop i) a;rw[da,h] at this;exact this
theorem zhZ{b:List V}{i:Nat}{a st0:List Int}(h:vf aJ (b.take i) st0=.ok a)(c:b[i]?=U v):vf aJ (b.take (i+1)) st0=wZ aJ a v:=by
 rw[cx,c];show vf aJ (b.take i++[v]) st0=_;rw[Zj,h];show (match wZ aJ a v with|.ok st'=>vf aJ [] st'|.error e=>.error e)=_;cases wZ aJ a v <;> rfl
end
def qo(v:V):Prop:=(∃i,v=.int i/\tK i=ak)\/∃x:Str,v=.str x/\x.length<=1000
def xn(a:List (aW×V)):Prop:=∀k v,yj a k=U v->∃i,v=.int i/\tK i=ak
theorem zbx(h:xn aJ)(b:qo v):tK (zfV aJ v)=ak:=by
 rcases b with ⟨i,rfl,a⟩|⟨x,rfl,_⟩
 .exact a
 .show tK (match yj aJ (.inr x) with|some (.int i)=>i|_=>0)=ak;cases e:yj aJ (.inr x) with
  |none=>rfl
  |some u =>
   obtain⟨i,rfl,a⟩:=h _ _ e;exact a
theorem uv{i:Int}:tK i=ak↔-1000000000000000000000000000000<=i/\i<=1000000000000000000000000000000:=by unfold tK;rw[decide_eq_true_eq]
theorem zar{i:Int}(h:tK i=ak):-big<i/\i<big:=by
 have:=uv.mp h;have a:(1000000000000000000000000000001:Int)<big:=by lia
 lia
abbrev zcS(K:bA):RC:=λb H Q=>∃p a,b=[.ref p]/\(aT K H p a\/tI K H p a)/\∀l,H l=am->Q (.ref l) (upd H l (.lst a))
def inL(c:Nat):Bool:=!(iB "abcdefghijklmnopqrstuvwxyz" ⟨#[c]⟩ 0 (iO "abcdefghijklmnopqrstuvwxyz") 1).isEmpty
def wl:List V:=[.str "take",.str "give",.str "let",.str "say",.str "off",.str "if",.str "else",.str "end",.str "as"]
def yY(x:Str):Bool:=!(decide (x="") || decide (6<x.length)) && !(inV (.str x) jw || inV (.str x) wl)&&x.cps.toList.all inL
theorem zh0(c:Nat):inL c=ak->97<=c/\c<=122:=by
 unfold inL;rw[StrLaws.found_one,decide_eq_true_eq];exact(by lia:∀c∈(bf "abcdefghijklmnopqrstuvwxyz").cps.toList,97<=c/\c<=122) c
theorem Xl(h:yY x=ak):x.cps.toList≠[]/\x.length<=6/\isJ (.str x)=aq/\x.cps.toList.all inL=ak:=by
 unfold yY at h;rw[bX,bX,mY,mY,lG,lG,decide_eq_false_iff_not,decide_eq_false_iff_not] at h;refine⟨λz=>h.1.1.1 (zhU (by rw[z];lia)),(),h.1.2.1,h.2⟩
def zfX(w:Str):Option V:=if yY w=ak then U (.str w) else if zkp w=ak then U (.int (zfQ w)) else am
inductive Tw where
 |leaf (w:Str)|node (w:Str) (a b:Tw)
def pre:Tw->List Str
 |.leaf w=>[w]
 |.node w a b=>w::(pre a++pre b)
def xD(st:List (List V))(w:Str):Except Bool (List (List V)) :=
 if isJ (.str w)=ak then (match st.reverse with|a::b::r=>.ok (r.reverse++[a++b++[.str w]])|_=>.error aq) else (match zfX w with|some v=>.ok (st++[[v]])|none=>.error ak)
theorem zcU :Be (.Constant c j p::es) env=(aq,eval (.Constant c j p) env)::Be es env:=by
 first|rfl|simp only[Be]
theorem qp{t:TA}(a:PA X es t):PA X (.Constant (.str x) j p::es) (zd (tC (.str x)) t):=za zM a zcU
section
variable {X:Cx}
theorem zfZ{a:List (aW×V)}{k:aW}(h:yj a k=U v):∃p∈a,p.2=v:=by
 unfold yj at h;obtain⟨p,b,e⟩:=bY.mp h;exact⟨p,List.mem_of_find?_eq_some b,e⟩
end
theorem zf0(h:yY x=ak):Asc x:=λc a=>by
 have:=zh0 c (List.all_eq_true.mp (Xl h).2.2.2 c a);lia
section
variable {P:av}{w:ay}{A:aw}{E:af->ah->Prop}{s:ah}
theorem zf1{Q:af->ah->Prop}(j:s.heap.IsTupleIter it tp i)(l:s.heap.IsTuple tp xs) (d:∀x h,xs[i]?=U x->h.IsTupleIter it tp (i+1)->cN it s.heap h->Q x { s with heap:=h }) (f:xs[i]?=am->A.handled=am/\∀h e,sJ it s.heap h->(∃o,h.get? e=U o/\o.cls=.type "StopIteration")->E (.ref e) { s with heap:=h }) :
  Bf (Bg P w) A (eM (.ref it)) Q E s:=by
 obtain⟨o,c,r,b⟩:=id j;obtain⟨q,p,_,n,g⟩:=l;unfold eM;refine ba (cL (name:=bf "__next__") j.typeIs mj (cQ mj j.typeIs F.entry_tuple_iterator_next ?_ (F.args_tuple_iterator_next_1 _)));show Bf _ _ (field (.ref it) 0 >>= _) _ _ s;refine ba (dO c b (x:=.ref tp) Z ?_);show Bf _ _ (if (bO tp==cM)=ak then _ else _) _ _ s;rw[ao (show ¬ ((bO tp==cM)=ak) from bK)];show Bf _ _ (field (.ref it) 1 >>= _) _ _ s;refine ba (dO c b (x:=.int i 0) Z ?_);show Bf _ _ (seqItems? (.ref tp) >>= _) _ _ s;refine ba (fI p g ?_);cases hx:xs[i]? with
 |some x =>
  simp only[dR,hx];refine ba (iV c b (by simp) (bg ⟨x,Z,bg (d x _ hx ?_ (de ..))⟩));refine⟨_,eP _ c (oI (iD b _)),(rE ..).trans r,?_⟩;rw[iD b];simp[rawInt]
 |none =>
  obtain⟨k,f⟩:=f hx;simp only[dR,hx];refine ba (lN (ba (iV c b (by simp) ?_)));show Bf _ _ (newExc (.type "StopIteration") [] >>= _) _ _ _;refine ba ?_;simp only[newExc,newTuple];refine ba (cX ?_ (by size_fits));refine ba (m:=firstArgMember _ _) (wpAny_of_eq (a:=cM) (by first|rfl|(simp only[firstArgMember];rfl)) ?_);refine cX ?_ (by size_fits);simp only[raiseNew];refine ba (pV ?_);first|rw[show A.in1.handled=am from k]|rw[k]
  refine ba (bg (wpAny_throw ?_));exact f _ _ (((de ..).extBut.push _).push _) ⟨_,bC _ Z,Z⟩
end
section
variable {P:av}{w:ay}{A:aw}{E:af->ah->Prop}{s:ah}
structure Wo(z a b i j p q:L):Prop where
 az:a≠z
 bz:b≠z
 iz:i≠z
 jz:j≠z
 ab:a≠b
 ai:a≠i
 aj:a≠j
 bi:b≠i
 bj:b≠j
 ij:i≠j
 pz:p≠z
 pb:p≠b
 pi:p≠i
 pj:p≠j
 qz:q≠z
 qb:q≠b
 qi:q≠i
 qj:q≠j
def ZT(z a b i j p q:L)(k:Nat)(h:ax):Prop:=IsZip h z a b .none/\IsPair h a (.ref i) (.ref j)/\(∃u v,IsPair h b u v)/\h.IsTupleIter i p k/\h.IsTupleIter j q k
theorem zeM{Q:af->ah->Prop}(d:Wo z a b i j p q)(st:ZT z a b i j p q k s.heap) (hp:s.heap.IsTuple p xs) (hq:s.heap.IsTuple q ys) (hx:xs[k]?=U x) (hy:ys[k]?=U y) (J:∀g h,(∀c o,c ∉ [z,b,i,j]->s.heap.get? c=U o->g.get? c=U o)->g.objs.size=s.heap.objs.size->IsPair g b x y->g.IsTupleIter i p (k+1)->g.IsTupleIter j q (k+1) ->
   cN z (g.push { cls:=.type "tuple",data:=.seq #[x,y] }) h->IsZip h z a b (rawInt g.objs.size)->Q (.ref g.objs.size) { s with heap:=h }) :
  Bf (Bg P w) A (Builtin.«zip.__next__» ⟨[.ref z],[]⟩) (λr s'=>∃v,r=.done (.ret v)/\Q v s') E s:=by
 obtain⟨I,ha,⟨u,v,hb⟩,hi,hj⟩:=st;show Bf _ _ (field (.ref z) 2 >>= _) _ _ _;refine ba (dO I Z (x:=.bool aq) Z ?_);show Bf _ _ (field (.ref z) 3 >>= _) _ _ _;refine ba (dO I Z (x:=.ref a) Z ?_);refine ba (fI ha Z ?_);show Bf _ _ (dP (.ref z) >>= _) _ _ _;refine ba ?_;unfold dP;refine ba (dO I Z (x:=.none) Z (bg ?_));simp only[if_true];refine ba (lN ?_);refine ba (dO I Z (x:=.ref b) Z ?_);refine ba (c8 I (by simp) λg1 z1 m=>?_);replace z1:IsZip g1 z a b .ellipsis:=z1;refine ba ?_;simp only[sd,sK,oF,List.forIn_nil];refine ba (ba (pW ?_));show Bf _ _ (eM (.ref i) >>= _) _ _ _;refine ba (zf1 (hi.extBut m.extBut d.iz) (hp.extBut m.extBut d.pz) (λC g2 N i2 t=>bg ?_) λN=>by rw[hx] at N;cases N);obtain rfl:C=x:=bH (N.symm.trans hx);have b2:IsPair g2 b u v:=t.extBut _ _ d.bi (m.extBut _ _ d.bz hb);refine ba (fI b2 Z ?_);refine ba (oX b2 λg3 b3 n=>?_);replace b3:IsPair g3 b C v:=b3;refine ba (lU (bg ?_));refine ba (ba (pW ?_));show Bf _ _ (eM (.ref j) >>= _) _ _ _;refine ba (zf1 (((hj.extBut m.extBut d.jz).extBut t.extBut d.ij.symm).extBut n.extBut d.bj.symm) (((hq.extBut m.extBut d.qz).extBut t.extBut d.qi).extBut n.extBut d.qb) (λy' g4 M j4 H=>bg ?_) λM=>by rw[hy] at M;cases M);obtain rfl:y'=y:=bH (M.symm.trans hy);have b4:IsPair g4 b C v:=H.extBut _ _ d.bj b3;refine ba (fI b4 Z ?_);refine ba (oX b4 λf O G=>?_);replace O:IsPair f b C y':=O;refine ba (lU (bg (bg ?_)));refine ba (fI O Z ?_);refine ba (pD ?_);have sz:f.objs.size=s.heap.objs.size:=by rw[G.1,H.1,n.1,t.1,m.1]
 have z5:IsZip f z a b .ellipsis:=G.extBut _ _ d.bz.symm (H.extBut _ _ d.jz.symm (n.extBut _ _ d.bz.symm (t.extBut _ _ d.iz.symm z1)));have k5:∀c o,c ∉ [z,b,i,j]->s.heap.get? c=U o->f.get? c=U o:=λc o l e=>by
  simp only[bw,cC,or_false,not_or] at l;exact G.extBut _ _ l.2.1 (H.extBut _ _ l.2.2.2 (n.extBut _ _ l.2.1 (t.extBut _ _ l.2.2.1 (m.extBut _ _ l.1 e))))
 have i5:f.IsTupleIter i p (k+1):=((i2.extBut n.extBut d.bi.symm).extBut H.extBut d.ij).extBut G.extBut d.bi.symm;have j5:f.IsTupleIter j q (k+1):=j4.extBut G.extBut d.bj.symm;show Bf _ _ (gT (.ref z) (.ref f.objs.size) >>= _) _ _ _;refine ba ?_;unfold gT;have z6:IsZip (f.push { cls:=.type "tuple",data:=.seq #[C,y'] }) z a b .ellipsis:=bc _ z5;refine ba (c8 z6 (by simp) λg7 z7 r7=>?_);replace z7:IsZip g7 z a b (rawInt f.objs.size):=z7;refine c8 z7 (by simp) λg8 T r8=>?_;replace T:IsZip g8 z a b (rawInt f.objs.size):=T;exact bg ⟨_,Z,J f g8 k5 sz O i5 j5 ⟨r8.1.trans r7.1,λc l=>(r8.2 c l).trans (r7.2 c l)⟩ T⟩
theorem zf2{Q:Fin->ah->Prop}(T:A.handled=am)(C:Wo z a b i j p q)(st:ZT z a b i j p q k s.heap) (N:s.heap.IsTuple p xs) (hq:s.heap.IsTuple q ys) (M:xs[k]?=am) (hE:∀h e,(∀c o,c ∉ [z,b,i,j]->s.heap.get? c=U o->h.get? c=U o)->(∃o,h.get? e=U o/\o.cls=.type "StopIteration")->E (.ref e) { s with heap:=h }) :
  Bf (Bg P w) A (Builtin.«zip.__next__» ⟨[.ref z],[]⟩) Q E s:=by
 obtain⟨f,ha,⟨u,v,hb⟩,O,hj⟩:=st;show Bf _ _ (field (.ref z) 2 >>= _) _ _ _;refine ba (dO f Z (x:=.bool aq) Z ?_);show Bf _ _ (field (.ref z) 3 >>= _) _ _ _;refine ba (dO f Z (x:=.ref a) Z ?_);refine ba (fI ha Z ?_);show Bf _ _ (dP (.ref z) >>= _) _ _ _;refine ba ?_;unfold dP;refine ba (dO f Z (x:=.none) Z (bg ?_));simp only[if_true];refine ba (lN ?_);refine ba (dO f Z (x:=.ref b) Z ?_);refine ba (c8 f (by simp) λg1 m r=>?_);replace m:IsZip g1 z a b .ellipsis:=m;refine ba ?_;simp only[sd,sK,oF,List.forIn_nil];refine ba (ba (pW ?_));show Bf _ _ (eM (.ref i) >>= _) _ _ _;refine ba (zf1 (O.extBut r.extBut C.iz) (N.extBut r.extBut C.pz) (λx' I t i2 n=>by rw[M] at t;cases t) λt=>⟨T,λI e n he=>?_⟩);obtain⟨J,d,g⟩:=he;have G:IsZip I z a b .ellipsis:=n _ _ C.iz.symm m;have ez:e≠z:=λx=>by subst x;rw[G] at d;cases d;simp at g
 refine c8 G (by simp) λg3 _ H=>hE g3 e (λc o l y=>?_) ⟨J,H.extBut _ _ ez d,g⟩;simp only[bw,cC,or_false,not_or] at l;exact H.extBut _ _ l.1 (n _ _ l.2.2.1 (r.extBut _ _ l.1 y))
theorem zcV{Q:Option af->ah->Prop}(H:Wo z a b i j p q)(st:ZT z a b i j p q k s.heap) (m:s.heap.IsTuple p xs) (l:s.heap.IsTuple q ys) (f:xs[k]?=U x) (e:ys[k]?=U y) (d:∀g h,(∀c o,c ∉ [z,b,i,j]->s.heap.get? c=U o->g.get? c=U o)->g.objs.size=s.heap.objs.size->IsPair g b x y->g.IsTupleIter i p (k+1)->g.IsTupleIter j q (k+1) ->
   cN z (g.push { cls:=.type "tuple",data:=.seq #[x,y] }) h->IsZip h z a b (rawInt g.objs.size)->Q (U (.ref g.objs.size)) { s with heap:=h }) :
  Bf (Bg P w) A (pyNext (.ref z)) Q E s:=by
 have T:s.TypeIs (.ref z) "zip":=⟨_,st.1,Z⟩;unfold pyNext;exact ba (iE (cL (name:=bf "__next__") T lV (cQ lV T F.entry_zip_next
   (zeM H st m l f e λg h G C v u t r n=>bg (d g h G C v u t r n)) (F.args_zip_next_1 _))))
theorem zeN{Q:Option af->ah->Prop}(r:A.handled=am)(v:Wo z a b i j p q)(st:ZT z a b i j p q k s.heap) (l:s.heap.IsTuple p xs) (g:s.heap.IsTuple q ys) (f:xs[k]?=am) (d:∀h,(∀c o,c ∉ [z,b,i,j]->s.heap.get? c=U o->h.get? c=U o)->Q am { s with heap:=h }):Bf (Bg P w) A (pyNext (.ref z)) Q E s:=by
 have T:s.TypeIs (.ref z) "zip":=⟨_,st.1,Z⟩;unfold pyNext;refine ba (iE (cL (name:=bf "__next__") T lV (cQ lV T F.entry_zip_next (zf2 r v st l g f λh e n t=>?_) (F.args_zip_next_1 _))));obtain⟨o,m,u⟩:=t;exact ba (nX (T:="StopIteration") (b:=ak) ⟨o,m,u⟩ pE (bg (d _ n)))
end
abbrev zp1(h:ax)(p:L):ax:=h.push { cls:=.type "tuple_iterator",data:=.fields #[.ref p,.int 0 0] }
abbrev zp3(h:ax)(p q:L):ax:=(zp1 (zp1 h p) q).push { cls:=.type "tuple",data:=.seq #[.ref h.objs.size,.ref (zp1 h p).objs.size] }
abbrev zp4(h:ax)(p q:L):ax:=(zp3 h p q).push { cls:=.type "tuple",data:=.seq #[.none,.none] }
abbrev zp5(h:ax)(p q:L):ax:=(zp4 h p q).push { cls:=.type "zip",data:=.fields #[.none,.bool aq,.bool aq,.ref (zp1 (zp1 h p) q).objs.size,.ref (zp3 h p q).objs.size] }
theorem zcW(p q:L)(xs ys:Array af):Meets (Builtin.«zip.__new__» ⟨[.type "zip",.ref p,.ref q],[]⟩) (λ_ R s=>s.heap.IsTuple p xs/\s.heap.IsTuple q ys /\
   R (.ok (.ret (.ref (zp4 s.heap p q).objs.size))) { s with heap:=zp5 s.heap p q }) :=
 .of_wp λb w A R s h=>by
  obtain⟨f,g,d,a,c⟩:=s;obtain⟨l,k,h⟩:=h;have e:=sub_zip;have j:Heap.IsTuple (Shared.heap ⟨f,g,d,a,c⟩) p xs:=l;have i:Heap.IsTuple (Shared.heap ⟨f.push { cls:=.type "tuple_iterator",data:=.fields #[.ref p,.int 0 0] },g,d,a,c⟩) q ys:=Heap.IsTuple.push k _
  wp_walk using mq j,mq i
  exact⟨_,Z,h⟩
section
variable {P:av}{w:ay}{A:aw}{E:af->ah->Prop}{s:ah}
theorem zeO{Q:af->ah->Prop}(n:s.heap.IsTuple p xs)(m:s.heap.IsTuple q ys) (h:∀b,ZT (s.heap.objs.size+4) (s.heap.objs.size+2) (s.heap.objs.size+3) s.heap.objs.size (s.heap.objs.size+1) p q 0 b->(∀c o,s.heap.get? c=U o->b.get? c=U o)->Q (.ref (s.heap.objs.size+4)) { s with heap:=b }) :
  Bf (Bg P w) A (call (.type "zip") [.ref p,.ref q]) Q E s:=by
 refine callType_new F.called_zip () (F.typeCall_zip_2 _ _) (F.newCall_zip_2 _ _) (λa=>F.args_object_init_3 a _ _) F.entry_zip_new (zcW p q xs ys) ⟨n,m,?_⟩;have g:(zp1 s.heap p).objs.size=s.heap.objs.size+1:=eV ..;have f:(zp1 (zp1 s.heap p) q).objs.size=s.heap.objs.size+2:=by rw[eV,g]
 have e:(zp3 s.heap p q).objs.size=s.heap.objs.size+3:=by rw[eV,f]
 have l:(zp4 s.heap p q).objs.size=s.heap.objs.size+4:=by rw[eV,e]
 have d:(zp5 s.heap p q).get? (zp4 s.heap p q).objs.size=U _:=bC _ rfl;have i:(zp5 s.heap p q).get? (zp3 s.heap p q).objs.size=U _:=bc _ (bC _ Z);have j:(zp5 s.heap p q).get? (zp1 (zp1 s.heap p) q).objs.size=U _:=bc _ (bc _ (bC _ Z));have k:(zp5 s.heap p q).get? (zp1 s.heap p).objs.size=U _:=bc _ (bc _ (bc _ (bC _ Z)));have r:(zp5 s.heap p q).get? s.heap.objs.size=U _:=bc _ (bc _ (bc _ (bc _ (bC _ Z))));show _/\_;rw[f,e,l] at d;rw[g,f] at j;rw[e] at i;rw[g] at k;rw[l];exact⟨⟨_,d,Z⟩,h _ ⟨d,j,⟨_,_,i⟩,⟨_,r,Z,Z⟩,⟨_,k,Z,Z⟩⟩ λc o x=>bc _ (bc _ (bc _ (bc _ (bc _ x))))⟩
end
theorem aP.turnedL{aa:List (L×Obj)}{σ:St}{H:D}{s:ah}{g:ax}{t':Nat}{ch:List L}(I:aP X aa σ H s)(k:∀b o,b ∉ ch->s.heap.get? b=U o->g.get? b=U o)(f:∀b∈ch,qY X aa H b) :
  aP X aa σ H { s with heap:=g,toks:=t' }:=by
 have d:∀b u,H b=U u->b ∉ ch:=λb u e z=>by rw[(f b z).1] at e;cases e
 refine I.step (g':=s.gens) (d':=s.drawn) (ch:=ch) (λb l=>?_) (λb o _ _ a e _=>k b o a e) (λb o _ _ a e _=>⟨o.slots,k b o a e⟩) (λ_ _ _ _ n=>n) (λb o a e=>⟨o,k b o a e⟩) (λ_ _ e=>e) (λ_ _ _ e=>e) (λb J e=>⟨#[],by rw[e];simp⟩) (λm j=>?_) (λb u e=>?_) I.bare
 .obtain⟨O,C,M,A,y,t⟩:=f b l;exact⟨A,C,y,t⟩
 .obtain⟨o,E,G,h,r⟩:=j;exact⟨o,E,G,k _ o (λz=>(f _ z).2.1 Z) h,r⟩
 .refine(I.hok b u e).stay (λc v a q=>k c v ?_ q) (λ_ q=>q) λ_ _ q=>q;rcases a with z|z
  .rw[z];exact d b u e
  .exact d c _ z
def Itz(K:bA)(p q:L)(a b:List V):It:=⟨λi H=>i<a.length/\tI K H p a/\tI K H q b,λi H x c=>∃T u v,x=.ref T/\H T=am/\c=upd H T (.tup [u,v])/\a[i]?=U u/\b[i]?=U v,λi H=>a.length<=i/\tI K H p a/\tI K H q b⟩
theorem zf3{P:av}{w:ay}{K:bA}{ae:List aB}{x1}{ai:Pos}{z a b i j p q:L}{r n:List V}(m:Wo z a b i j p q)(t:r.length=n.length) :
  zbf P w K (.Tuple ae x1 ai) (Itz K p q r n) [z,a,b,i,j] z (ZT z a b i j p q) where
 mem:=by simp
 obj:=λk h l c d=>by
  obtain⟨T,ha,⟨u,v,hb⟩,⟨O,J,ci,di⟩,⟨N,G,cj,dj⟩⟩:=l;simp only[bw,cC,or_false] at d;rcases d with rfl|rfl|rfl|rfl|rfl
  .exact⟨_,T,λv z=>by cases z⟩
  .exact⟨_,ha,λv z=>by cases z⟩
  .exact⟨_,hb,λv z=>by cases z⟩
  .exact⟨_,J,λv z=>by rw[di] at z;cases z⟩
  .exact⟨_,G,λv z=>by rw[dj] at z;cases z⟩
 keep:=λk h h' l Q=>by
  obtain⟨T,ha,⟨u,v,hb⟩,⟨O,J,ci⟩,⟨N,G,cj⟩⟩:=l;exact⟨Q z (by simp) _ T,Q a (by simp) _ ha,⟨u,v,Q b (by simp) _ hb⟩,⟨O,Q i (by simp) _ J,ci⟩,⟨N,Q j (by simp) _ G,cj⟩⟩
 item:=by
  intro X hP hw hK d k aa s σ H E I hf l hg;subst hP hw hK;obtain⟨f,h1,A⟩:=hg;obtain⟨us,r1,p1,_⟩:=I.tuple h1;obtain⟨vs,r2,p2,_⟩:=I.tuple A;obtain⟨u,hu,ru⟩:=r1.get (i:=k) (x:=r[k]) (bb f);obtain⟨v,hv,rv⟩:=r2.get (i:=k) (x:=n[k]'(t ▸ f)) (bb (t ▸ f));have ag:∀c∈[z,b,i,j],c∈[z,a,b,i,j]:=λc d=>by
   simp only[bw,cC,or_false] at d ⊢;rcases d with h|h|h|h <;> simp[h]
  refine zcV m l (show s.heap.IsTuple p us.toArray from p1) (show s.heap.IsTuple q vs.toArray from p2) (x:=u) (y:=v) (by simpa using hu) (by simpa using hv) λg h k5 sz b5 i5 j5 sb z8=>?_;have I5:aP X aa σ H { s with heap:=g }:=I.turnedL (t':=s.toks) k5 λc d=>hf c (ag c d);have I6:aP X aa σ (upd H g.objs.size (.tup [r[k],n[k]'(t ▸ f)])) { s with heap:=g.push { cls:=.type "tuple",data:=.seq #[u,v] } } :=
   I5.laid (a:=g.objs.size) (o:=.tup [r[k],n[k]'(t ▸ f)]) (t':=s.toks) (λb u e=>bc _ e) (bo _) ⟨by show 2<=Bb;decide,[u,v],.cons ru (.cons rv .nil),⟨_,bC _ Z,Z,_,Z⟩⟩
  have al:z<s.heap.objs.size:=bI l.1;have aj:∀c∈[z,a,b,i,j],c≠g.objs.size:=λc d=>by
   obtain⟨T,ha,⟨u,v,hb⟩,⟨O,J,ci⟩,⟨N,G,cj⟩⟩:=l;rw[sz];simp only[bw,cC,or_false] at d;rcases d with rfl|rfl|rfl|rfl|rfl
   .exact bR (bI T)
   .exact bR (bI ha)
   .exact bR (bI hb)
   .exact bR (bI J)
   .exact bR (bI G)
  have C:∀c∈[z,a,b,i,j],upd H g.objs.size (HO.tup [r[k],n[k]'(t ▸ f)]) c=am:=λc d=>by rw[zm (aj c d)];exact(hf c d).1
  have fz:qY X aa (upd H g.objs.size (HO.tup [r[k],n[k]'(t ▸ f)])) z:=⟨C z (by simp),(hf z (by simp)).2⟩;refine⟨.ref g.objs.size,Z,mK z8 λA z9 M=>?_⟩;have up:∀c o,c≠z->g.get? c=U o->A.get? c=U o:=λc o d e=>by
   rw[show A.get? c=h.get? c from M.2 c d,sb.2 c d];exact bc _ e
  have I7:aP X aa σ (upd H g.objs.size (.tup [r[k],n[k]'(t ▸ f)])) { s with heap:=A }:=I6.turnedL (s:={ s with heap:=g.push { cls:=.type "tuple",data:=.seq #[u,v] } }) (t':=s.toks) (ch:=[z]) (λc o d e=>by
   have d:c≠z:=by simpa using d
   rw[show A.get? c=h.get? c from M.2 c d,sb.2 c d];exact e) λc d=>by
    have:c=z:=by simpa using d
    rw[this];exact fz
  refine⟨.ref g.objs.size,_,I7,Z,⟨_,_,_,Z,by have:=I5.hok.fresh (bo g.objs.size);exact this,Z,bb f,bb (t ▸ f)⟩,?_,C⟩;have ka:g.get? a=_:=k5 a _ (by simp[m.az,m.ab,m.ai,m.aj]) l.2.1;obtain⟨O,J,ci⟩:=i5;obtain⟨N,G,cj⟩:=j5;exact⟨z9,up a _ m.az ka,⟨_,_,up b _ m.bz b5⟩,⟨O,up i _ m.iz J,ci⟩,⟨N,up j _ m.jz G,cj⟩⟩
 done:=by
  intro X hP hw hK d k aa s σ H E I hf l hg;subst hP hw hK;obtain⟨f,h1,A⟩:=hg;obtain⟨us,r1,p1,_⟩:=I.tuple h1;obtain⟨vs,r2,p2,_⟩:=I.tuple A;have an:=r1.length;refine zeN (I.ok.hd d) m l (show s.heap.IsTuple p us.toArray from p1) (show s.heap.IsTuple q vs.toArray from p2) (by simp;lia) λh hk=>⟨Z,I.turnedL (t':=s.toks) hk λc d=>hf c ?_⟩;simp only[bw,cC,or_false] at d ⊢;rcases d with h|h|h|h <;> simp[h]
 self:=λ_ _ _ _ _ l h=>lE l.1 h
section
variable {σ:St}{H:D}{nx:St->D->Prop}{Bn:V->St->D->(St->D->Prop)->Prop}
theorem zf4{K:bA}(a d:List V)(Pv:Nat->St->D->Prop)(o:Pv 0 σ H)(f:∀i σ H,Pv i σ H->tI K H p a/\tI K H q d) (k:∀i u v T σ H,a[i]?=U u->d[i]?=U v->H T=am->Pv i σ H->Bn (.ref T) σ (upd H T (.tup [u,v])) (Pv (i+1))) (l:∀σ H,Pv a.length σ H->nx σ H) :
  ∃W:Nat->Nat->St->D->Prop,(∃m,W 0 m σ H)/\∀i m σ H,W i m σ H->((Itz K p q a d).stop i H/\nx σ H)\/((Itz K p q a d).go i H/\∃N:St->D->Prop,(∀b c,N b c->∃e,e<m/\W (i+1) e b c)/\∀x c,(Itz K p q a d).yld i H x c->Bn x σ c N):=by
 refine⟨λi m σ H=>m=a.length-i/\i<=a.length/\Pv i σ H,⟨a.length,by simp,bS _,o⟩,?_⟩;rintro i m σ H ⟨rfl,r,Y⟩;by_cases hlt:i<a.length
 .refine .inr ⟨⟨hlt,f i σ H Y⟩,Pv (i+1),λb c g=>⟨a.length-(i+1),(),Z,hlt,g⟩,?_⟩;rintro x c ⟨T,u,v,rfl,n,rfl,j,h⟩;exact k i u v T σ H j h n Y
 .obtain rfl:i=a.length:=by lia
  exact .inl ⟨⟨bo _,f _ σ H Y⟩,l σ H Y⟩
end
abbrev zkQ(K:bA):RC:=λb H Q=>∃p a,b=[.ref p]/\((aT K H p a/\∀l,H l=am->Q (.ref l) (upd H l (.tup a)))\/(tI K H p a/\Q (.ref p) H))
end L2
namespace L2
open PySem PySem.W PyProof.Rows
section
variable {α β:Type}{lt:Nat->Nat->Bool}{n:Nat}
def kOk(lt:Nat->Nat->Bool)(n:Nat):KasT α->(α->Prop)->Prop
 |.ret a,R=>R a
 |.ask i j k,R=>i<n/\j<n/\i≠j/\kOk lt n (k (lt i j)) R
theorem kN:∀ {t:KasT α} {f:α->KasT β} {R:β->Prop},kOk lt n t (λa=>kOk lt n (f a) R)->kOk lt n (t.bind f) R
 |.ret _,_,_,h=>h
 |.ask _ _ _,_,_,h=>⟨h.1,h.2.1,h.2.2.1,kN h.2.2.2⟩
theorem vH:∀ {t:KasT α} {R b:α->Prop},kOk lt n t R->(∀a,R a->b a)->kOk lt n t b
 |.ret _,_,_,h,m=>m _ h
 |.ask _ _ _,_,_,h,m=>⟨h.1,h.2.1,h.2.2.1,vH h.2.2.2 m⟩
structure SO(lt:Nat->Nat->Bool)(n:Nat):Prop where
 irr:∀i,i<n->lt i i=aq
 trans:∀i j k,i<n->j<n->k<n->lt i j=ak->lt j k=ak->lt i k=ak
 tot:∀i j,i<n->j<n->i≠j->lt i j=aq->lt j i=ak
def PP(n:Nat)(p:Array Nat):Prop:=p.Perm (eE n).toArray
def gt(p:Array Nat)(k:Nat):Nat:=p.getD k 0
theorem kO(h:k<p.size):p[k]?=U (gt p k):=by
 unfold gt;rw[Array.getD_eq_getD_getElem?,b8 h];rfl
theorem PP.size(h:PP n p):p.size=n:=by
 have:=h.size_eq;simpa using this
theorem PP.blt(h:PP n p)(c:k<n):gt p k<n:=by
 have b:=h.size;have m:gt p k∈p:=Array.mem_of_getElem? (kO ());have a:gt p k∈(eE n).toArray:=(pX h).mp m;simpa using a
theorem PP.inj(h:PP n p)(q:i<n)(o:j<n)(e:gt p i=gt p j):i=j:=by
 have m:=h.size;have d:p.toList.Nodup:=by
  have:p.toList.Perm (eE n):=by
   have:=gO.mp h;simpa using this
  exact this.nodup_iff.mpr nY
 have f:=kO (p:=p) (k:=i) ();have c:=kO (p:=p) (k:=j) ();rw[<-e] at c;have b:p.toList[i]?=U (gt p i):=by simpa using f
 have a:p.toList[j]?=U (gt p i):=by simpa using c
 obtain⟨s,l⟩:=bq.mp b;obtain⟨r,g⟩:=bq.mp a;exact(lj d).mp (l.trans g.symm)
def Yl(lt:Nat->Nat->Bool)(p:Array Nat)(m:Nat):Prop:=∀i j,i<j->j<m->lt (gt p i) (gt p j)=ak
def zjw(lt:Nat->Nat->Bool)(p:Array Nat)(m:Nat):Prop:=∀i j,i<j->j<m->lt (gt p j) (gt p i)=ak
theorem zcY(S:SO lt n){p:Array Nat}(b:PP n p):∀(f a:Nat),1<=a->a+f<=n->Yl lt p a->kOk lt n (kas_asc p f a) λm=>a<=m/\m<=a+f/\Yl lt p m/\(m<a+f->lt (gt p m) (gt p (m-1))=ak)
 |0,a,h1,h2,hr=>⟨bo _,bo _,hr,λz=>absurd z (fR _)⟩
 |f+1,a,h1,h2,hr=>by
  refine⟨b.blt (),b.blt (),(λz=>by have:=b.inj () () z;lia),?_⟩;show kOk lt n (if lt (gt p a) (gt p (a-1))=ak then .ret a else kas_asc p f (a+1)) _;by_cases c:lt (gt p a) (gt p (a-1))=ak
  .rw[au c];exact⟨bo _,(),hr,λ_=>c⟩
  .rw[ao c];have e:lt (gt p (a-1)) (gt p a)=ak:=S.tot _ _ (b.blt ()) (b.blt ()) (λz=>by have:=b.inj () () z;lia) (eK.mpr c);refine vH (zcY S b f (a+1) () () λi j d o=>?_) λm ⟨l,k,h,g⟩=>⟨(),(),h,λz=>g ()⟩;by_cases hja:j<a
   .exact hr i j d hja
   .obtain rfl:j=a:=by lia
    by_cases hi:i=j-1
    .rw[hi];exact e
    .exact S.trans _ _ _ (b.blt ()) (b.blt ()) (b.blt ()) (hr i (j-1) () ()) e
theorem zdS(S:SO lt n){p:Array Nat}(b:PP n p):∀(f a:Nat),1<=a->a+f<=n->zjw lt p a->kOk lt n (kas_desc f p a 0) λr=>r.1=p/\r.2.2=0/\a<=r.2.1/\r.2.1<=a+f/\zjw lt p r.2.1
 |0,a,h1,h2,hr=>⟨Z,Z,bo _,bo _,hr⟩
 |f+1,a,h1,h2,hr=>by
  refine⟨b.blt (),b.blt (),(λz=>by have:=b.inj () () z;lia),?_⟩;show kOk lt n (if lt (gt p a) (gt p (a-1))=ak then (if 0 > 0 then _ else kas_desc f p (a+1) 0) else .ask (gt p (a-1)) (gt p a) λd=>if d=ak then .ret (p,a,0) else kas_desc f p (a+1) (0+1)) _;by_cases c:lt (gt p a) (gt p (a-1))=ak
  .rw[au c,ao ()];refine vH (zdS S b f (a+1) () () λi j e s=>?_) λm ⟨k,h,q,o,g⟩=>⟨k,h,(),(),g⟩;by_cases hja:j<a
   .exact hr i j e hja
   .obtain rfl:j=a:=by lia
    by_cases hi:i=j-1
    .rw[hi];exact c
    .exact S.trans _ _ _ (b.blt ()) (b.blt ()) (b.blt ()) c (hr i (j-1) () ())
  .rw[ao c];have l:lt (gt p (a-1)) (gt p a)=ak:=S.tot _ _ (b.blt ()) (b.blt ()) (λz=>by have:=b.inj () () z;lia) (eK.mpr c);refine⟨b.blt (),b.blt (),(λz=>by have:=b.inj () () z;lia),?_⟩;show kOk lt n (if lt (gt p (a-1)) (gt p a)=ak then .ret (p,a,0) else _) _;rw[au l];exact⟨Z,Z,bo _,eC _ _,hr⟩
theorem zf6(b:m<=p.size)(c:k<m):gt (kas_rev p 0 m) k=gt p (m-1-k):=by
 have e:=getElem?_mirror_all (xs:=p) (i:=0) (j:=m) b k;rw[au ⟨bS _,c⟩] at e;have a:=kO (p:=kas_rev p 0 m) (k:=k) (by unfold kas_rev;rw[mirror_size];lia);have d:=kO (p:=p) (k:=m-1-k) ();unfold kas_rev at a ⊢;rw[e,show 0+m-1-k=m-1-k by lia,d] at a;exact(bH a).symm
theorem PP.rev(h:PP n p)(m:Nat):PP n (kas_rev p 0 m):=se (mirror_perm _ _ _ _) h
theorem zh1(S:SO lt n)(b:PP n p)(g:1<=m)(o:m<=n)(f:zjw lt p m):kOk lt n (kas_tail3 m n p) λr=>PP n r.2/\Yl lt r.2 r.1/\1<=r.1/\r.1<=n:=by
 refine kN (vH (zcY S (b.rev m) (n-m) m g () λi j e d=>?_) λa ⟨k,h,c,_⟩=>⟨b.rev m,c,(),()⟩);have l:=b.size;rw[zf6 () (),zf6 () d];exact f _ _ () ()
theorem zf7(S:SO lt n)(a:PP n p)(w:1<=n):kOk lt n (kas_count n p) λr=>PP n r.2/\Yl lt r.2 r.1/\1<=r.1/\r.1<=n:=by
 refine kN (vH (zcY S a (n-1) 1 (bo _) () λi j d o=>by lia) λm ⟨f,u,b,l⟩=>?_);by_cases e:(m==n)=ak
 .rw[au e];exact⟨a,b,f,()⟩
 .rw[ao e];have v:m≠n:=by simpa using e
  by_cases h:m > 1
  .rw[au h];refine⟨a.blt (),a.blt (),(λz=>by have:=a.inj () () z;lia),?_⟩;show kOk lt n (if lt (gt p 0) (gt p (m-1))=ak then .ret (m,p) else _) _;rw[au (b 0 (m-1) () ())];exact⟨a,b,f,()⟩
  .rw[ao h];obtain rfl:m=1:=by lia
   have c:=l ();refine kN (vH (zdS S a (n-2) 2 () () λi j d o=>?_) λr ⟨k,t,s,q,g⟩=>?_)
   .obtain rfl:j=1:=by lia
    obtain rfl:i=0:=by lia
    exact c
   .rw[ao (),k];exact zh1 S a () () g
theorem Je(S:SO lt n){p:Array Nat}(a:PP n p){k:Nat}(o:k<n)(g:Yl lt p k):∀(f l r:Nat),l<=r->r<=k->r-l<=f->(∀i,i<l->lt (gt p i) (gt p k)=ak)->(∀i,r<=i->i<k->lt (gt p k) (gt p i)=ak) ->
  kOk lt n (kas_place p k f l r) λm=>m<=k/\(∀i,i<m->lt (gt p i) (gt p k)=ak)/\∀i,m<=i->i<k->lt (gt p k) (gt p i)=ak
 |0,l,r,h1,h2,h3,h4,h5=>⟨(),h4,λi h b=>h5 i () b⟩
 |f+1,l,r,h1,h2,h3,h4,h5=>by
  unfold kas_place;by_cases c:l >= r
  .rw[au c];exact⟨(),h4,λi h b=>h5 i () b⟩
  .rw[ao c];refine⟨a.blt (),a.blt (),(λz=>by have:=a.inj () () z;lia),?_⟩;show kOk lt n (if lt (gt p k) (gt p ((l+r)/2))=ak then _ else _) _;by_cases d:lt (gt p k) (gt p ((l+r)/2))=ak
   .rw[au d];refine Je S a o g f l ((l+r)/2) () () () h4 λi h b=>?_;by_cases e:i=(l+r)/2
    .rw[e];exact d
    .exact S.trans _ _ _ (a.blt ()) (a.blt ()) (a.blt ()) d (g _ i () b)
   .rw[ao d];have j:lt (gt p ((l+r)/2)) (gt p k)=ak:=S.tot _ _ (a.blt ()) (a.blt ()) (λz=>by have:=a.inj () () z;lia) (eK.mpr d);refine Je S a o g f ((l+r)/2+1) r () () () (λi h=>?_) h5;by_cases e:i=(l+r)/2
    .rw[e];exact j
    .exact S.trans _ _ _ (a.blt ()) (a.blt ()) (a.blt ()) (g i _ () ()) j
theorem zf8(a:k<p.size)(c:d<=k)(b:j<p.size):gt (bubble p k d) j=if j=k-d then gt p k else if k-d<j/\j<=k then gt p (j-1) else gt p j:=by
 have e:=getElem?_bubble a d c j;rw[kO (p:=bubble p k d) (k:=j) (by rw[bubble_size];exact b)] at e;by_cases h1:j=k-d
 .rw[au h1,kO a] at e;rw[au h1];exact bH e
 .rw[ao h1] at e ⊢;by_cases h2:k-d<j/\j<=k
  .rw[au h2,kO ()] at e;rw[au h2];exact bH e
  .rw[ao h2,kO b] at e;rw[ao h2];exact bH e
theorem zf9(S:SO lt n):∀(f:Nat) {p:Array Nat} (k:Nat),PP n p->k+f=n->Yl lt p k->kOk lt n (kas_bin f p k) λc=>PP n c/\Yl lt c n
 |0,p,k,hp,hk,hr=>⟨hp,by rw[<-hk];exact hr⟩
 |f+1,p,k,hp,hk,hr=>by
  have m:=hp.size;refine kN (vH (Je S hp () hr k 0 k (bS _) (bo _) () (λi b=>by lia) (λi r q=>by lia)) λl ⟨h,g,d⟩=>?_);refine zf9 S f (k+1) (se (bubble_perm _ _ _) hp) () λi j a o=>?_;rw[zf8 () () (),zf8 () () ()];have e:k-(k-l)=l:=by lia
  rw[e];by_cases b:i=l
  .rw[au b,ao (),au ()];exact d _ () ()
  .rw[ao b];by_cases hi2:l<i/\i<=k
   .rw[au hi2,ao (),au ()];exact hr _ _ () ()
   .rw[ao hi2];by_cases hj1:j=l
    .rw[au hj1];exact g _ ()
    .rw[ao hj1];by_cases hj2:l<j/\j<=k
     .rw[au hj2];by_cases hij2:i<j-1
      .exact hr _ _ hij2 ()
      .lia
     .rw[ao hj2];exact hr _ _ a ()
theorem zh2(S:SO lt n)(d:1<=n):kOk lt n (kas_sort n) λp=>PP n p/\Yl lt p n:=by
 refine kN (vH (zf7 S (p:=rQ (eE n)) (sL _) d) ?_);rintro r ⟨b,a,c,f⟩;by_cases h:r.1<n
 .rw[au h,Nat.max_eq_left c];exact zf9 S _ _ b () a
 .rw[ao h];obtain e:r.1=n:=by lia
  exact⟨b,by rw[<-e];rw[e] at a ⊢;exact a⟩
end
theorem zga{b:Type}{c:Nat->Nat->Bool}{n:Nat}{s:ah}{cmp:Nat->Nat->(Bool->ah->Prop)->ah->Prop}(d:∀i j C,i<n->j<n->i≠j->C (c i j) s->cmp i j C s):∀ {t:KasT b} {R:b->Prop} {Q:b->ah->Prop},kOk c n t R->(∀a,R a->Q a s)->t.kasWp cmp Q s
 |.ret _,_,_,h,m=>m _ h
 |.ask _ _ _,_,_,h,m=>d _ _ _ h.1 h.2.1 h.2.2.1 (zga d h.2.2.2 m)
def Kp(a:L)(h c:ax):Prop:=∀b o,b≠a->h.get? b=U o->c.get? b=U o
def jt(a:List af)(p:Array Nat):List af:=p.toList.map λi=>a.getD i cM
theorem zby(vs:List af):jt vs (rQ (eE vs.length))=vs:=by
 unfold jt;apply dU;intro i;simp only[bt];by_cases h:i<vs.length
 .rw[bb (l:=vs) h];simp[eL h,h]
 .rw[b6 (by lia:vs.length<=i)];simp;lia
section
variable {P:av}{w:ay}{A:aw}{E:af->ah->Prop}{s:ah}
theorem Jf{a:L}{d:List af}{n:Nat}{κ:SortKind}{lt:Nat->Nat->Bool}{R:PySem.Fin->ah->Prop}(z:s.heap.get? a=U (seqObj "list" d.toArray n))(O:d.length<64) (hk:2<=d.length->∀(h:ax) (Q:SortKind->ah->Prop),Kp a s.heap h->Q κ { s with heap:=h }->Bf (Bg P w) A (keyKind' d.toArray) Q (λ_ _=>False) { s with heap:=h }) (hc:∀(h:ax) i j C,Kp a s.heap h->i<d.length->j<d.length->i≠j->C (lt i j) { s with heap:=h }->kas_ask P w A κ d i j C { s with heap:=h }) (S:SO lt d.length) (fin:∀h p c,Kp a s.heap h->h.get? a=U (seqObj "list" (jt d p).toArray c)->PP d.length p->Yl lt p d.length->R (.done (.ret .none)) { s with heap:=h }) :
  Bf (Bg P w) A (Builtin.«list.sort» ⟨[.ref a],[]⟩) R E s:=by
 have ha:a<s.heap.objs.size:=bI z;obtain⟨T,o1⟩:∃T,(s.heap.update a (dA λ_=>(#[]:Array af))).get? a=U (seqObj "list" #[] T):=⟨_,get?_update_seq z λ_=>#[]⟩;have I:Kp a s.heap (((s.heap.update a (dA λ_=>(#[]:Array af))).push (seqObj "tuple" d.toArray 0)).push (seqObj "list" #[] 0)):=λb o G e =>
  bc _ (bc _ ((eD _ _ (fq G)).trans e))
 have t:(((s.heap.update a (dA λ_=>(#[]:Array af))).push (seqObj "tuple" d.toArray 0)).push (seqObj "list" #[] 0)).get? a=U (seqObj "list" #[] T):=bc _ (bc _ o1);have u:∀f:List af,f.length=d.length->∃c,((((s.heap.update a (dA λ_=>(#[]:Array af))).push (seqObj "tuple" d.toArray 0)).push (seqObj "list" #[] 0)).update a (dA λ_=>f.toArray)).get? a=U (seqObj "list" f.toArray c):=λf _=>⟨_,get?_update_seq t λ_=>f.toArray⟩;have m:∀f:List af,Kp a s.heap ((((s.heap.update a (dA λ_=>(#[]:Array af))).push (seqObj "tuple" d.toArray 0)).push (seqObj "list" #[] 0)).update a (dA λ_=>f.toArray)):=λf b o G e =>
  (eD _ _ (fq G)).trans (I b o G e)
 rw[list_sort_plain];refine ba (listItems_at z Z ?_);refine ba (pY z Z ?_ (by rw[bG,bL];lia) (bS _));refine ba (seqEpoch_at o1 Z ?_);refine ba (pD ?_ (by show d.length<=_;rw[bL];lia));refine ba (nM ?_ (bS _));refine dF ?_;show Bf (Bg P w) A _ R E { s with heap:=((s.heap.update a (dA λ_=>(#[]:Array af))).push (seqObj "tuple" d.toArray 0)).push (seqObj "list" #[] 0) };generalize hH:((s.heap.update a (dA λ_=>(#[]:Array af))).push (seqObj "tuple" d.toArray 0)).push (seqObj "list" #[] 0)=g at *
 dsimp only;have up:∀f:List af,f.length=d.length->∀p,f=jt d p->PP d.length p->Yl lt p d.length->R (.done (.ret .none)) { s with heap:=g.update a (dA λ_=>f.toArray) }:=λf hl p e r J=>by
  obtain⟨c,M⟩:=u f hl;refine fin _ p c (m f) ?_ r J;rw[<-e];exact M
 by_cases h2:d.toArray.size<2
 .have q:d.length<2:=by simpa using h2
  rw[au h2,au h2];refine ba (bg ?_);rw[StateT.run_pure];refine ba (bg ?_);dsimp only;have ez:((d.toArray.zip d.toArray).map (·.2))=d.toArray:=by
   apply nW.mp;rw[Array.toList_map,Array.toList_zip];simp[List.map_snd_zip]
  refine ba (seqEpoch_at t Z ?_);rw[show (arrOf (SortSt.mk' general' (d.toArray.zip d.toArray) #[] 7 am))=d.toArray.zip d.toArray from rfl,ez];refine ba (pY t Z ?_ (bS _) (by rw[bG,bL];lia));simp only[bne_self_eq_false,cy,if_false];exact bg (up d Z _ (zby d).symm (sL _) λi j v hj=>by lia)
 .have q:2<=d.length:=by simpa using h2
  rw[ao h2,ao h2];refine ba (eG (hk q g (λl k=>l=κ/\k={ s with heap:=g }) I ⟨rfl,rfl⟩) (λl k hs=>?_) λ_ _ x=>x.elim);obtain⟨rfl,rfl⟩:=hs;have H:=zga (s:={ s with heap:=g }) (cmp:=kas_ask P w A l d) (λi j C hi hj v hC=>hc g i j C I hi hj v hC) (zh2 S ()) (Q:=λp k=>k={ s with heap:=g }/\PP d.length p/\Yl lt p d.length) λp r=>⟨rfl,r⟩;refine ba (eG (kat_run (ks:=d) (Q:=λy k=>∃p:Array Nat,arrOf y=p.map (kas_item (d.toArray.zip d.toArray))/\failedOf y=am/\k={ s with heap:=g }/\PP d.length p/\Yl lt p d.length) rfl q O (λp y k _ a2 a3 a4=>⟨p,a2,a3,a4⟩) H) ?_ λ_ _ e=>e);rintro⟨⟨⟩,y⟩ k ⟨p,N,hf,rfl,r,J⟩;dsimp only;have f:=kat_snds (ks:=d) Z N;have ol:(jt d p).length=d.length:=by unfold jt;rw[bd,cq,r.size]
  rw[f];refine ba (seqEpoch_at t Z ?_);refine ba (pY t Z ?_ (bS _) (by show (rQ (jt d p)).size<=_;rw[bG,ol,bL];lia));rw[hf];simp only[bne_self_eq_false,cy,if_false];exact bg (up (jt d p) ol p Z r J)
theorem zbz{l:L}{vs:List af}{κ:SortKind}{lt:Nat->Nat->Bool}{Q:af->ah->Prop}(u:vs.length<64)(S:SO lt vs.length) (r:∀R:List af->ah->Prop,(∀(h:ax) (d:Nat),(∀b o,s.heap.get? b=U o->h.get? b=U o)->R vs { s with heap:=h,toks:=d })->Bf (Bg P w) A.in1 (collect (.ref l)) R E s) (z:2<=vs.length->∀(h:ax) (d:Nat) (Q:SortKind->ah->Prop),(∀b o,s.heap.get? b=U o->h.get? b=U o)->Q κ { s with heap:=h,toks:=d }->Bf (Bg P w) A.in1.in1 (keyKind' vs.toArray) Q (λ_ _=>False) { s with heap:=h,toks:=d }) (I:∀(h:ax) (d:Nat) i j C,(∀b o,s.heap.get? b=U o->h.get? b=U o)->i<vs.length->j<vs.length->i≠j->C (lt i j) { s with heap:=h,toks:=d }->kas_ask P w A.in1.in1 κ vs i j C { s with heap:=h,toks:=d }) (fin:∀(h:ax) (d:Nat) (a:ax) (p:Array Nat) (c:Nat),(∀b o,s.heap.get? b=U o->h.get? b=U o)->(∀b o,h.get? b=U o->a.get? b=U o)->a.get? h.objs.size=U (seqObj "list" (jt vs p).toArray c)->PP vs.length p->Yl lt p vs.length->Q (.ref h.objs.size) { s with heap:=a,toks:=d }) :
  Bf (Bg P w) A (call (.builtin "sorted") [.ref l]) Q E s:=by
 refine gU kind_sorted rR rS (rT _) ?_;unfold Builtin.«sorted»;refine ba (m:=checkCount "sorted" 1 1 _) (bg ?_);refine ba (r _ λh d g=>?_);refine ba (nM ?_ (by rw[bL];lia));have n:(h.push (seqObj "list" vs.toArray 0)).get? h.objs.size=U (seqObj "list" vs.toArray 0):=bC _ rfl;have f:∀a,Kp h.objs.size (h.push (seqObj "list" vs.toArray 0)) a->∀b o,h.get? b=U o->a.get? b=U o:=λa k b o e=>k b o (bR (bI e)) (bc _ e);refine ba (dF (cQ pG ⟨_,n,Z⟩ oJ (Jf (s:={ s with heap:=h.push (seqObj "list" vs.toArray 0),toks:=d }) n u (κ:=κ) (lt:=lt) (λJ a M k q=>?_) (λa i j C k H G t q=>?_) S λa p c k y x v=>?_) (pH _)))
 .exact z J a d M (λb o e=>f a k b o (g b o e)) q
 .exact I a d i j C (λb o e=>f a k b o (g b o e)) H G t q
 .exact⟨_,Z,bg ⟨_,Z,fin h d a p c g (f a k) y x v⟩⟩
end
def yv(a b:Str×Int):Bool:=if a.1=b.1 then decide (a.2<b.2) else decide (a.1.cps.toList<b.1.cps.toList)
def uw(h:ax)(v:af)(q:Str×Int):Prop:=∃a o t u n,v=.ref a/\h.get? a=U o/\o.cls=.type "tuple"/\o.data=.seq #[.str q.1 t,.int q.2 u] n
section
variable {P:av}{w:ay}{A:aw}{E:af->ah->Prop}{s:ah}
theorem zh3{Q:Bool->ah->Prop}(h:Q (decide (a.cps.toList<c.cps.toList)) s):Bf (Bg P w) A (oneLt' ak (.str a t) (.str c u)) Q E s:=by
 rw[<-keyLt'_oneType];exact kas_lt_str h
theorem zh4{a c:Int}{Q:Bool->ah->Prop}(h:Q (decide (a<c)) s):Bf (Bg P w) A (oneLt' aq (.int a t) (.int c u)) Q E s:=
 kat_one _ _ (pI (show W.BoolBack Q (.bool (decide (a<c))) s from h))
theorem zeP{a b:Str×Int}{Q:Bool->ah->Prop}(i:uw s.heap x a)(g:uw s.heap y b)(h:Q (yv a b) s)(k:a≠b):Bf (Bg P w) A (keyLt' (tuples' ak) x y) Q E s:=by
 obtain⟨p,o,t,u,n,rfl,j,G,l⟩:=i;obtain⟨v,z,r,q,C,rfl,c,m,d⟩:=g;refine kat_lt j l c d (kat_cons (wpAny_eqBool_str (kat_go (λe=>kat_yes (kat_cons (wpAny_eqBool_int (kat_go (λf=>?_) λf=>kat_no ?_)))) λe=>kat_no ?_)))
 .exact absurd (ss (of_decide_eq_true e) (by simpa using f)) k
 .have e:=of_decide_eq_true e;unfold yv at h;rw[au e] at h;exact zh4 h
 .have e:=of_decide_eq_false e;unfold yv at h;rw[ao e] at h;exact zh3 h
theorem zcZ{b:List af}{c:List (Str×Int)}{Q:SortKind->ah->Prop}(f:b.length=c.length)(d:∀(i:Nat) (v:af) (q:Str×Int),b[i]?=U v->c[i]?=U q->uw s.heap v q)(H:0<b.length)(h:Q (tuples' ak) s) :
  Bf (Bg P w) A (keyKind' b.toArray) Q E s:=by
 have T:∀(b:List af) (c:List (Str×Int)),b.length=c.length->(∀(i:Nat) (v:af) (q:Str×Int),b[i]?=U v->c[i]?=U q->uw s.heap v q)->∃e,KatTups s.heap b e/\e.length=b.length/\∀v∈e,∃x t,v=iq x t:=by
  intro b;induction b with
  |nil=>exact λc _ _=>⟨[],trivial,Z,λ_ z=>nomatch z⟩
  |cons v r ih =>
   intro c f d
   match c,f with
   |q::qr,f =>
    obtain⟨e,k,g,kf⟩:=ih qr (by simpa using f) λi j l G C=>d (i+1) j l (by simpa using G) (by simpa using C);obtain⟨a,o,t,u,n,rfl,m,y,p⟩:=d 0 v q Z rfl;refine⟨.str q.1 t::e,sZ m y p Z k,by simp[g],λz hz=>?_⟩;rcases bw.mp hz with rfl|hz
    .exact⟨_,_,Z⟩
    .exact kf z hz
 obtain⟨e,k,g,kf⟩:=T b c f d;refine kat_kind (T:=.type "str") k () (λv d=>?_) () h;obtain⟨x,t,rfl⟩:=kf v d;exact Looks.of_pure rfl
end
theorem zbA{x y:Str}(h:x.cps.toList=y.cps.toList):x=y:=by
 obtain⟨a⟩:=x;obtain⟨b⟩:=y;have:a=b:=nW.mp h;rw[this]
theorem Jg{d:List (Str×Int)}(o:d.Nodup):SO (λi j=>yv (d.getD i ("",0)) (d.getD j ("",0))) d.length where
 irr:=λi _=>by
  unfold yv;rw[au rfl];exact Bk ()
 trans:=λi j k _ _ _ g f=>by
  generalize d.getD i ("",0)=a at *
  generalize d.getD j ("",0)=b at *
  generalize d.getD k ("",0)=c at *
  unfold yv at *
  by_cases e1:a.1=b.1
  .rw[au e1] at g;by_cases e2:b.1=c.1
   .rw[au e2] at f;rw[au (e1.trans e2)];have g:=of_decide_eq_true g;have f:=of_decide_eq_true f;exact Bj ()
   .rw[ao e2] at f;rw[ao (by rw[e1];exact e2),e1];exact f
  .rw[ao e1] at g;have g:=of_decide_eq_true g;by_cases e2:b.1=c.1
   .rw[ao (by rw[<-e2];exact e1),<-e2];exact Bj g
   .rw[ao e2] at f;have f:=of_decide_eq_true f;have m:=List.lt_trans g f;rw[ao (λz=>by rw[z] at m;exact List.lt_irrefl _ m)];exact Bj m
 tot:=λi j q p l h=>by
  have n:d.getD i ("",0)≠d.getD j ("",0):=λz=>l (by
   rw[bF,bF,bb q,bb p] at z;exact(lj o).mp z)
  generalize d.getD i ("",0)=a at *
  generalize d.getD j ("",0)=b at *
  unfold yv at *
  by_cases e:a.1=b.1
  .rw[au e] at h;rw[au e.symm];have h:=of_decide_eq_false h;have:a.2≠b.2:=λz=>n (ss e z);exact Bj ()
  .rw[ao e] at h;rw[ao (λz=>e z.symm)];have h:=of_decide_eq_false h;refine Bj ?_;rcases List.le_iff_lt_or_eq.mp (List.not_lt.mp h) with z|z
   .exact z
   .exact absurd (zbA z.symm) e
end L2
namespace L2
open PySem
def tU(h:ax)(d:L)(a:Array DictEntry)(b:Nat):Prop:=∃o,h.get? d=U o/\o.ExactDict/\o.data=.dict a b
section
variable {P:av}{w:ay}{A:aw}{E:af->ah->Prop}{s:ah}
theorem tU.type(x:tU s.heap d es ep):s.TypeIs (.ref d) "dict":=let ⟨o,ho,hc,_⟩:=x;⟨o,ho,hc.1⟩
theorem tU.at(x:tU h d es ep)(e:∀o,h.get? d=U o->h'.get? d=U o):tU h' d es ep:=let ⟨o,ho,r⟩:=x;⟨o,e _ ho,r⟩
theorem Jh{Q:af->ah->Prop}(lo:(d==sysModules)=aq)(b:tU s.heap d es ep) (q:Q (.ref s.heap.objs.size) { s with heap:=s.heap.push { cls:=.type "dict_keyiterator",data:=.fields #[.ref d,.int 0 0,.int es.size 0,.int ep 0] } }):Bf (Bg P w) A (pyIter (.ref d)) Q E s:=by
 have T:=b.type;obtain⟨o,a,e,c⟩:=id b;refine wpAny_pyIter_slot T F.slot_dict_iter (cQ F.slot_dict_iter T F.entry_dict_iter ?_ (F.args_dict_iter_1 _));unfold Builtin.«dict.__iter__»;refine ba ?_;unfold Builtin.Dict.dictSlotNone;refine ba (fH T ?_);show Bf _ _ (pure (bO d)) _ _ s;refine bg ?_;show Bf _ _ (gD d >>= _) _ _ s;unfold gD;rw[ao (by rw[lo];exact bK)];refine ba (bg ?_);refine ba (dG a c ?_);refine ba (gE a c ?_);refine ba (cX (bg ⟨_,Z,"dict_keyiterator",_,⟨_,bC _ Z,Z⟩,F.slot_dict_keyiterator_next.lookup,?_⟩));simpa[rawInt] using q
theorem Ji{Q:Option af->ah->Prop}(a:s.heap.IsKeyIter it d i es.size ep)(m:tU s.heap d es ep)(k:es[i]?=U e) (q:∀h,h.IsKeyIter it d (i+1) es.size ep->cN it s.heap h->Q (U e.key) { s with heap:=h }):Bf (Bg P w) A (pyNext (.ref it)) Q E s:=by
 obtain⟨o,l,p,g⟩:=id a;obtain⟨r,c,n,f⟩:=id m;have t:i<es.size:=by
  rcases iY i es.size with h|h
  .exact h
  .rw[iJ h] at k;cases k
 unfold pyNext;refine ba (iE (cL (name:=bf "__next__") a.typeIs eU (cQ eU a.typeIs lF ?_ (iZ _))));refine ba (bg ?_);refine ba ?_;refine ba ?_
 first|(refine ba (eS a.typeIs (bg ?_)))|(refine ba (fQ a.typeIs (bg ?_)))
 refine ba (mL l g ?_);have j:dW "dict_keyiterator"=aq:=by lia
 simp only[j,cy,if_false];show Bf _ _ (if (bO d==cM)=ak then _ else _) _ _ s;rw[ao (show ¬ ((bO d==cM)=ak) from bK)];refine ba (bg ?_);refine ba (dG c f ?_);rw[ao (by simp)];refine ba (bg ?_);refine ba (gE c f ?_);rw[ao (by simp)];refine bg ?_;simp only[show ¬ ((i:Int)<0) from by lia,if_false,dR,k];refine ba ?_
 first|(refine ba (eS a.typeIs (bg ?_)))|(refine ba (fQ a.typeIs (bg ?_)))
 refine ba (oK a.typeIs ?_);show Bf _ _ (setField (.ref it) 1 (rawInt ((i:Int)+1)) >>= _) _ _ s;refine ba (iV l g (by simp) ?_);have b:(s.heap.update it (Obj.mapFields (·.setIfInBounds 1 (rawInt ((i:Int)+1))))).IsKeyIter it d (i+1) es.size ep:=by
  refine⟨_,eP _ l (oI (iD g _)),(rE ..).trans p,?_⟩;rw[iD g];simp[rawInt]
 refine ba (dF ?_);refine ba (oK (s:={ s with heap:=s.heap.update it (Obj.mapFields (·.setIfInBounds 1 (rawInt ((i:Int)+1)))) }) b.typeIs ?_);show Bf _ _ (pure e.key) _ _ _;exact bg (bg ⟨_,Z,bg (q _ b (de ..))⟩)
theorem zas{Q:Option af->ah->Prop}(p:A.handled=am)(c:s.heap.IsKeyIter it d i es.size ep)(n:tU s.heap d es ep)(l:es.size<=i) (q:∀h,sJ it s.heap h->Q am { s with heap:=h }):Bf (Bg P w) A (pyNext (.ref it)) Q E s:=by
 obtain⟨o,j,u,k⟩:=id c;obtain⟨t,e,r,f⟩:=id n;unfold pyNext;refine ba (iE (cL (name:=bf "__next__") c.typeIs eU (cQ eU c.typeIs lF ?_ (iZ _))));refine ba (bg ?_);refine ba ?_;refine ba ?_
 first|(refine ba (eS c.typeIs (bg ?_)))|(refine ba (fQ c.typeIs (bg ?_)))
 refine ba (mL j k ?_);have g:dW "dict_keyiterator"=aq:=by lia
 simp only[g,cy,if_false];show Bf _ _ (if (bO d==cM)=ak then _ else _) _ _ s;rw[ao (show ¬ ((bO d==cM)=ak) from bK)];refine ba (bg ?_);refine ba (dG e f ?_);rw[ao (by simp)];refine ba (bg ?_);refine ba (gE e f ?_);rw[ao (by simp)];refine bg ?_;simp only[show ¬ ((i:Int)<0) from by lia,if_false,dR,iJ l];refine ba ?_
 first|(refine ba (eS c.typeIs (bg ?_)))|(refine ba (fQ c.typeIs (bg ?_)))
 show Bf _ _ (setField (.ref it) 0 .none >>= _) _ _ s;refine ba (iV j k (by simp) ?_);show Bf _ _ (newExc (.type "StopIteration") [] >>= _) _ _ _;refine ba ?_;simp only[newExc,newTuple];refine ba (cX ?_ (by size_fits));refine ba (m:=firstArgMember _ _) (wpAny_of_eq (a:=cM) (by first|rfl|(simp only[firstArgMember];rfl)) ?_);refine cX ?_ (by size_fits);simp only[raiseNew];refine ba (pV ?_);rw[show A.in1.handled=am from p];refine ba (bg (wpAny_throw ?_));exact ba (nX (T:="StopIteration") (b:=ak) ⟨_,bC _ Z,Z⟩ pE (bg (q _ (((de ..).extBut.push _).push _))))
theorem zeQ(t:A.handled=am)(I d:L)(l:d≠I)(k:Array DictEntry)(r:Nat) :
  Walks P w A I [I,d] [I] k.size (λi v=>∃e,k[i]?=U e/\v=e.key) (λi h=>h.IsKeyIter I d i k.size r/\tU h d k r) where
 sub:=λb c=>by simp at c;simp[c]
 frame:=λ_ _ _ a p=>⟨a.1.at λo e=>p I (by simp) o e,a.2.at λo e=>p d (by simp) o e⟩
 item:=λi s Q E q a j=>by
  refine Ji a.1 a.2 (b8 q) λn g f=>?_;exact j _ n s.toks ⟨_,b8 q,Z⟩ ⟨g,a.2.at λo e=>f.extBut d o l e⟩ λb o c e=>f.extBut b o (λh=>c (by simp[h])) e
 done:=λs Q E a j=>zas t a.1 a.2 (bo _) λn m=>j n s.toks λb o c e=>m b o (λh=>c (by simp[h])) e
 self:=λ_ _ _ _ a j=>lH a.1 j
end
end L2
namespace L2
open PySem PySem.Spec PyProof.Rows
section
open PySem.SeqAt
open PySem.AutoSeq1 (wpAny_loadPart')
open PySem.MeetsSeq PySem.MeetsSeq2 PySem.MeetsSeq3
theorem Jj(l b:L)(x y:Str)(i j:Int)(t u m r:Tok)(n M:Nat)(N I:Option L)(J v:Array (Option af)) :
  Meets (Builtin.«tuple.__lt__» ⟨[.ref l,.ref b],[]⟩) (λ_ R s=>s.heap.get? l=U { cls:=.type "tuple",dict:=N,data:=.seq #[.str x t,.int i u] n,slots:=J } /\
   s.heap.get? b=U { cls:=.type "tuple",dict:=I,data:=.seq #[.str y m,.int j r] M,slots:=v }/\R (.ok (.ret (.bool (yv (x,i) (y,j))))) s) :=
 .of_wp λa w A R s h=>by
  obtain⟨p,g,d,k,o⟩:=s;obtain⟨G,H,h⟩:=h;have O:=AutoSeq1.sub_tuple_tuple;have C:∀(E:af->ah->Prop) (Q:af->ah->Prop) (s:ah),Q (.bool (decide (x.cps.toList<y.cps.toList))) s->Bf (Bg a w) A.in1 (richCompare .Lt (.str x t) (.str y m)) Q E s:=λE Q s q=>(PyProof.Rows.lt_str q:Bf (Bg a w) A.in1 (Bi .Lt (.str x t) (.str y m)) Q E s);have z:=HT.rcLt_int A.in1 ⟨p,g,d,k,o⟩ i u j r a w;by_cases e:x=y
  .subst e;have c:=mF (A:=A.in1) (s:=⟨p,g,d,k,o⟩) x t x m a w;rw[beq_self_eq_true] at c;unfold yv at h;rw[au rfl] at h;by_cases e2:i=j
   .subst e2;have f:=mE (A:=A.in1) (s:=⟨p,g,d,k,o⟩) i u i r a w;rw[beq_self_eq_true] at f
    wp_walk using gF G,gF H,c,f
    exact⟨_,Z,by simpa[Builtin.Tuple.tupleCompareSizes] using h⟩
   .have f:=mE (A:=A.in1) (s:=⟨p,g,d,k,o⟩) i u j r a w;rw[show (i==j)=aq from by simpa using e2] at f
    wp_walk using gF G,gF H,c,f,z
    exact⟨_,Z,by simpa using h⟩
  .have c:=mF (A:=A.in1) (s:=⟨p,g,d,k,o⟩) x t y m a w;rw[show (x==y)=aq from by simpa using e] at c;unfold yv at h;rw[ao e] at h
   wp_walk using gF G,gF H,c,C
   exact⟨_,Z,by simpa using h⟩
end
section
variable {P:av}{w:ay}{A:aw}{E:af->ah->Prop}{s:ah}
theorem tU.lt(x:tU h d es ep):d<h.objs.size:=let ⟨_,ho,_⟩:=x;bI ho
theorem zat{d:L}{es:Array DictEntry}{ep:Nat}(lo:(d==sysModules)=aq):W.KdlSrc P w "dict" d d es.size (λi v=>∃e,es[i]?=U e/\v=e.key) (λh=>tU h d es ep) where
 type:=λ_ a=>a.type
 there:=λ_ a=>⟨a.lt,a.lt⟩
 keep:=λ_ _ a c=>a.at λo e=>c d (.inl Z) o e
 notList:=by lia
 notTuple:=by lia
 hint:=λ_ _ _ _ a b=>W.kdl_hint_dict a.type b
 iter:=λ_ _ f a=>⟨_,_,(λ_ _ b=>Jh lo a b),zeQ f _ d (bR a.lt) es ep,⟨⟨_,bC _ Z,Z,Z⟩,a.at λo e=>bc _ e⟩⟩
theorem WO{G:Nat->af->Prop}{C:ax->Prop}{R:List af->ah->Prop}(K:W.KdlSrc P w T r d n G C)(M:A.handled=am)(p:C s.heap)(J:n<=Bb) (h:∀(i:ax) (m:Nat) (y:List af),(∀b o,s.heap.get? b=U o->i.get? b=U o)->y.length=n->(∀j v,y[j]?=U v->G j v)->R y { s with heap:=i,toks:=m }) :
  Bf (Bg P w) A (collect (.ref r)) R E s:=by
 obtain⟨H,I⟩:=K.there _ p;unfold collect;refine ba (wpAny_runValue (fm oY ?_));rw[dI lW _];show Bf _ A.in1 (newList [] >>= λl=>again (.builtin "list.__iadd__" ⟨[l,.ref r],[]⟩)) _ _ s;refine ba (cX ?_);refine bg ⟨gK fU _,fm entry_list_iadd' ?_⟩;rw[dI fU _];have N:(s.heap.push { cls:=.type "list",data:=.seq ([]:List af).toArray }).get? s.heap.objs.size=U { cls:=.type "list",data:=.seq #[] }:=bC _ rfl;show Bf _ A.in1 (dD (.ref s.heap.objs.size) (.ref r) (.ref s.heap.objs.size)) _ _ _;have z:=W.kdl_extend (A:=A) (s:={ s with heap:=s.heap.push { cls:=.type "list",data:=.seq ([]:List af).toArray } }) (R:=λ(q:aD) (u:ah)=>∃(i:ax) (m:Nat) (g:Array af) (c:Nat),q=.ok (.ret (.ref s.heap.objs.size))/\u={ s with heap:=i,toks:=m } /\
   (∀b o,s.heap.get? b=U o->i.get? b=U o)/\i.get? s.heap.objs.size=U { cls:=.type "list",dict:=am,data:=.seq g c,slots:=#[] }/\ItemsOf G g n) K M (K.keep _ _ p λb _ o e=>bc _ e) s.heap.objs.size (fA H) (fA I) (.ref s.heap.objs.size) 0 N
  (λi m g c t k a=>⟨i,m,g,c,Z,Z,λb o e=>t b o (bR (bI e)) (bc _ e),k,a⟩) J
 refine eG z (λfin u x=>?_) λe u x=>?_
 .cases fin with
  |done f =>
   obtain⟨i,m,g,c,e,rfl,t,k,a⟩:=x;cases e;show Bf _ A (load s.heap.objs.size >>= _) _ _ _;refine ba (oS k ?_);exact bg (h i m g.toList t (by rw[cq];exact a.1) λj v e=>a.2 j v (by rw[<-c9];exact e))
  |again c =>
   refine⟨x.1,gA x.2 λq u x=>?_⟩;obtain⟨i,m,g,c,rfl,rfl,t,k,a⟩:=x;show Bf _ A (load s.heap.objs.size >>= _) _ _ _;refine ba (oS k ?_);exact bg (h i m g.toList t (by rw[cq];exact a.1) λj v e=>a.2 j v (by rw[<-c9];exact e))
 .obtain⟨i,m,g,c,O,_⟩:=x;cases O
end
def zB(q:Str×Int):List aW:=[.inr q.1,.inl q.2]
abbrev zdT:RC:=λf H Q=>∃(a:L) (d:List (List aW×V)) (e:List (Str×Int)),f=[.ref a]/\H a=U (.dT d)/\d.map (·.1)=e.map zB/\d.length<64 /\
 ∀(l:L) (c:List (L×(Str×Int))),H l=am->(c.map (·.2)).Perm e->(c.map (·.2)).Pairwise (λa b=>yv a b=ak)->(∀n∈c,H n.1=U (.tup [.str n.2.1,.int n.2.2]))->Q (.ref l) (upd H l (.lst (c.map λn=>V.ref n.1)))
theorem yN{f e:Type}{F:f->e->Prop}:∀ {d:List f} {c:List e},Paired F d c->∀ {i:Nat} {a:f} {b:e},d[i]?=U a->c[i]?=U b->F a b
 |_,_,.nil,i,a,b,h,_=>by simp at h
 |_,_,.cons x r,0,a,b,h1,h2=>by
  simp only[eo,eY] at h1 h2;subst h1 h2;exact x
 |_,_,.cons x r,i+1,a,b,h1,h2=>yN r (by simpa using h1) (by simpa using h2)
theorem uw.keep{q:Str×Int}(x:uw h v q)(k:∀b o,h.get? b=U o->h'.get? b=U o):uw h' v q:=by
 obtain⟨a,o,t,u,n,e,c,r⟩:=x;exact⟨a,o,t,u,n,e,k _ _ c,r⟩
section
variable {X:Cx}
theorem zbB{b:St}{H:D}{s:ah}{a:L}{q:Str×Int}(I:aP X aa b H s)(h:H a=U (.tup [.str q.1,.int q.2])):uw s.heap (.ref a) q:=by
 obtain⟨d,c,⟨o,e,g,n,f⟩,_⟩:=I.tuple (tI.of h);cases c with
 |cons r1 rr =>
  cases rr with
  |cons r2 rn =>
   cases rn;obtain⟨t,rfl⟩:=r1;obtain⟨u,rfl⟩:=r2;exact⟨a,o,t,u,n,Z,e,g,f⟩
theorem xH{b c:Type}{f:b->c}:∀ {l:List b},(l.map f).Nodup->l.Nodup
 |[],_=>cO
 |a::r,h=>by
  rw[bh,bW] at h;exact bW.mpr ⟨λz=>h.1 (bB z),xH h.2⟩
theorem Xm(hc:X.calm=ak):jK X (.builtin "sorted") zdT:=by
 intro aa s σ H d us Q I r h;obtain⟨a,A,qs,rfl,ha,hk,ar,q⟩:=h;obtain⟨u,rfl,ru⟩:=kI r;cases ru;obtain⟨hz,lo,d,E,o,es,ep,ho,t,hd,he,hn⟩:=(show aV X.prog X.w H s.heap a (.dT A) from I.hok a _ ha);have hh:X.A.handled=am:=I.ok.hd hc;have lk:A.length=qs.length:=by have:=congrArg fT hk;simpa using this
 have lx:A.length=d.length:=bE E;have aj:es.size=d.length:=by rw[<-cq,he,bd]
 -- the keys in their order
 have T:∀(i:Nat) (x:List aW×L×af),d[i]?=U x->∃q,qs[i]?=U q/\x.1=zB q/\H x.2.1=U (.tup [.str q.1,.int q.2]):=λi x t=>by
  have b:=(bq.mp t).1;obtain⟨kv,k⟩:∃kv,A[i]?=U kv:=⟨_,bb ()⟩;obtain⟨q,y⟩:∃q,qs[i]?=U q:=⟨_,bb ()⟩;have rl:=yN E k t;have l:kv.1=zB q:=by
   have l:(A.map (·.1))[i]?=U kv.1:=by rw[bt,k];rfl
   have w:(qs.map zB)[i]?=U (zB q):=by rw[bt,y];rfl
   rw[hk,w] at l;exact(bH l).symm
  refine⟨q,y,by rw[<-rl.1,l],?_⟩;have:=rl.2.1;rw[l] at this;exact this
 have nq:qs.Nodup:=by
  refine xH (f:=zB) ?_;have e:d.map (·.1)=qs.map zB:=by
   rw[<-hk];apply dU;intro i;rw[bt,bt];cases t:d[i]? with
   |none =>
    have:d.length<=i:=by simpa using t
    rw[b6 (by lia:A.length<=i)];rfl
   |some x =>
    have b:=(bq.mp t).1;have k:A[i]?=U A[i]:=bb ();rw[k];have:=(yN E k t).1;simp[this]
  rw[<-e];exact hn
 have vv:∀(i:Nat) (v:af) (q:Str×Int),(d.map λx=>bO x.2.1)[i]?=U v->qs[i]?=U q->uw s.heap v q:=λi v q hv y=>by
  rw[bt] at hv;obtain⟨x,t,rfl⟩:=bY.mp hv;obtain⟨q',ae,_,hH⟩:=T i x t;rw[y] at ae;cases ae;exact zbB I hH
 have O:(d.map λx=>bO x.2.1).length=qs.length:=by rw[bd];lia
 have N:∀i,i<qs.length->uw s.heap ((d.map λx=>bO x.2.1).getD i cM) (qs.getD i ("",0)):=λi b=>by
  refine vv i _ _ ?_ ?_
  .rw[bF,bb (by rw[O];exact b)];rfl
  .rw[bF,bb b];rfl
 have S:=Jg nq;rw[<-O] at S;refine zbz (vs:=d.map λx=>bO x.2.1) (κ:=tuples' ak) (by rw[bd];lia) S (λR hR=>?_) (λh2 h m Q' M q'=>?_) (λh m i j C M b G J q'=>?_) λh m h' p c k1 k2 hD hp hr=>?_
 .refine WO (zat (ep:=ep) (es:=es) lo) hh ⟨o,ho,t,hd⟩ (by rw[aj];lia) λh' m vs M hl hG=>?_;have ev:vs=d.map λx=>bO x.2.1:=by
   apply dU;intro i;by_cases b:i<vs.length
   .obtain⟨e,an,ek⟩:=hG i vs[i] (bb b);have w:es.toList[i]?=U e:=by rw[c9];exact an
    rw[he,bt] at w;obtain⟨x,al,ex⟩:=bY.mp w;rw[bb b,ek,bt,al,<-ex];rfl
   .rw[b6 (),b6 (by rw[bd];lia)]
  rw[ev];exact hR h' m M
 .exact zcZ (s:={ s with heap:=h,toks:=m }) O (λi v q hv y=>(vv i v q hv y).keep M) () q'
 .rw[O] at b G;refine zeP (s:={ s with heap:=h,toks:=m }) ((N i b).keep M) ((N j G).keep M) q' λz=>J ?_;rw[bF,bF,bb b,bb G] at z;exact(lj nq).mp z
 .have I1:aP X aa σ H { s with heap:=h,toks:=m }:=I.kept k1;have g:∃g:List (L×(Str×Int)),g.map (λn=>bO n.1)=jt (d.map λx=>bO x.2.1) p/\g.map (·.2)=p.toList.map (λi=>qs.getD i ("",0))/\∀n∈g,H n.1=U (.tup [.str n.2.1,.int n.2.2]):=by
   have pl:∀i∈p.toList,i<d.length:=λi b=>by
    have:i∈p:=by simpa using b
    have:=(pX hp).mp this;rw[bd] at this;simpa using this
   refine⟨p.toList.map λi=>((d.getD i ([],0,.none)).2.1,qs.getD i ("",0)),?_,by rw[dJ];rfl,λn hn=>?_⟩
   .unfold jt;rw[dJ];refine dC λi b=>?_;have:=pl i b;simp[bF,bt,bb this]
   .obtain⟨i,b,rfl⟩:=bD.mp hn;have hl:=pl i b;obtain⟨q,y,_,hH⟩:=T i d[i] (bb hl);have l:d.getD i ([],0,.none)=d[i]:=by rw[bF,bb hl];rfl
    have w:qs.getD i ("",0)=q:=by rw[bF,y];rfl
    show H (d.getD i ([],0,.none)).2.1=U (.tup [.str (qs.getD i ("",0)).1,.int (qs.getD i ("",0)).2]);rw[l,w];exact hH
  obtain⟨g,l,w,ag⟩:=g;have vr:aR (g.map λn=>V.ref n.1) (g.map λn=>bO n.1):=by
   clear l w ag;induction g with
   |nil=>exact .nil
   |cons n r ih=>exact .cons Z ih
  have ai:p.size=d.length:=by have:=hp.size;rw[bd] at this;exact this
  have ap:g.length=d.length:=by have:=congrArg fT l;unfold jt at this;simpa[ai] using this
  have I2:aP X aa σ (upd H h.objs.size (.lst (g.map λn=>V.ref n.1))) { s with heap:=h',toks:=m }:=I1.laid (s:={ s with heap:=h,toks:=m }) (a:=h.objs.size) (o:=.lst (g.map λn=>V.ref n.1)) (t':=m) k2 (bo _)
   ⟨by rw[bd];lia,g.map λn=>bO n.1,c,vr,by rw[l];exact hD⟩
  refine⟨.ref h.objs.size,_,I2,Z,q _ g (I1.hok.fresh (bo _)) ?_ ?_ ag⟩
  .rw[w];have pr:p.toList.Perm (eE qs.length):=by
    have:=gO.mp hp;rw[O] at this;simpa using this
   refine(pr.map _).trans ?_;have:(eE qs.length).map (λi=>qs.getD i ("",0))=qs:=by
    apply dU;intro i;rw[bt];by_cases b:i<qs.length
    .rw[eL b,bb b];simp[bF,bb b]
    .rw[b6 (by simpa using b),b6 ()];rfl
   rw[this]
  .rw[w,gL,fJ];intro i j b G J;rw[cq] at b G;have g1:=kO b;have g2:=kO G;have r:=hr i j J (by rw[bd];lia);have x1:p.toList[i]=gt p i:=by
    rw[b8 b] at g1;simpa using g1
   have x2:p.toList[j]=gt p j:=by
    rw[b8 G] at g2;simpa using g2
   rw[x1,x2];exact r
end
def Itd(a:L)(o:Obj)(b:List (List aW×V)):It :=
 ⟨λi H=>H a=U (.frz o (.dT b))/\i<b.length,λi H x c=>c=H/\∃k v p,b[i]?=U (k,v)/\x=.ref p/\H p=U (.tup (k.map kV)),λi H=>H a=U (.frz o (.dT b))/\b.length<=i⟩
section
variable {X:Cx}
theorem zau{t:St}{H:D}{s:ah}{a:L}{o:Obj}{b:List (List aW×V)}(I:aP X aa t H s)(C:H a=U (.frz o (.dT b))) :
  (a==sysModules)=aq/\∃(c:Array DictEntry) (g:Nat),o.data=.dict c g/\tU s.heap a c g/\c.size=b.length/\∀(i:Nat) (e:DictEntry),c[i]?=U e->∃(k:List aW) (v:V) (p:L),b[i]?=U (k,v)/\e.key=bO p/\H p=U (.tup (k.map kV)):=by
 obtain⟨m,J,w,h,d,G,c,g,j,z,q,n,M⟩:=(show aV X.prog X.w H s.heap a (.frz o (.dT b)) from I.hok a _ C);rw[m] at j;cases j;have lx:b.length=h.length:=bE d;have y:c.size=h.length:=by rw[<-cq,n,bd]
 refine⟨w,c,g,q,⟨o,m,z,q⟩,(),λi e A=>?_⟩;have r:c.toList[i]?=U e:=by rw[c9];exact A
 rw[n,bt] at r;obtain⟨x,f,E⟩:=bY.mp r;have N:=(bq.mp f).1;have l:b[i]?=U b[i]:=bb ();have u:=yN d l f;refine⟨b[i].1,b[i].2,x.2.1,l,by rw[<-E];rfl,u.2.1⟩
theorem zc0{P:av}{w:ay}{K:bA}{tg:aB}{a it:L}{o:Obj}{aJ:List (List aW×V)}{t:Array DictEntry}{ep:Nat}(hd:o.data=.dict t ep) :
  zbf P w K tg (Itd a o aJ) [it] it (λi h=>h.IsKeyIter it a i t.size ep) where
 mem:=by simp
 obj:=λi h g b l=>by
  have e:b=it:=by simpa using l
  subst e;obtain⟨o,e,c,d⟩:=g;exact⟨o,e,λv z=>by rw[d] at z;cases z⟩
 keep:=λi h r g k=>g.at λo e=>k it (by simp) o e
 item:=by
  intro X A u C hc i aa s σ H E I q g x;subst A u C;obtain⟨y,hi⟩:=x;obtain⟨lo,Q,T,f,j,hs,n⟩:=zau I y;rw[hd] at f;cases f;obtain⟨O,N,f2,M,J,G⟩:=q it (by simp);have hx:t[i]?=U t[i]:=b8 ();obtain⟨k,v,p,hk,ek,hp⟩:=n i _ hx;refine Ji g j hx λr m sb=>?_;have I1:aP X aa σ H { s with heap:=r }:=I.turned (t':=s.toks) (λb o l e=>(sb.2 b l).trans e) O N M J G;obtain⟨o',e,c,d⟩:=id m;exact⟨_,Z,zbg (s:={ s with heap:=r }) e c d () ⟨.ref p,H,I1,by rw[ek];rfl,⟨Z,k,v,p,hk,Z,hp⟩,m,λb l=>(q b l).1⟩⟩
 done:=by
  intro X A u C hc i aa s σ H E I q g x;subst A u C;obtain⟨y,hi⟩:=x;obtain⟨lo,Q,T,f,j,hs,n⟩:=zau I y;rw[hd] at f;cases f;obtain⟨O,N,f2,M,J,G⟩:=q it (by simp);exact zas (I.ok.hd hc) g j () λr eb=>⟨Z,I.turned (t':=s.toks) (λb o l e=>eb b o l e) O N M J G⟩
 self:=λ_ _ _ _ _ g h=>lH g h
def iDT(e:TE):TI:=λd H R=>e d H λx c=>∃a o b,x=.ref a/\c a=U (.frz o (.dT b))/\R (Itd a o b) c
theorem zgb{g:TE}(p:PE X l g):PI X tg l (iDT g):=by
 intro w s i H R I h;refine aZ (p w s i H _ I h) ?_;rintro v c ⟨x,y,d,j,k⟩;obtain⟨a,o,E,e,u,q⟩:=k;subst e;cases j;obtain⟨m,A,C,r,f,z,n⟩:=zau d u;refine Jh m f ?_;refine⟨c.heap.objs.size,[c.heap.objs.size],_,_,y,Z,d.kept (t':=c.toks) λb o e=>bc _ e,zc0 r,⟨_,bC _ Z,Z,Z⟩,λb t=>?_,q⟩;have e:b=c.heap.objs.size:=by simpa using t
 subst e;exact d.fpOk (bo _) (d.hok.fresh (bo _))
def zbC:HO->Prop
 |.tup _=>False
 |.own _=>False
 |.tbl _=>False
 |_=>True
theorem aP.relab{σ:St}{H:D}{s:ah}{a:L}{u A:HO}(I:aP X aa σ H s)(k:H a=U u)(j:zbC u)(J:∀o z,X.H₀ a≠U (.frz o z))(G:aV X.prog X.w (upd H a A) s.heap a A):aP X aa σ (upd H a A) s:=by
 have l:∀b,H b=am->b≠a:=λb n z=>by subst z;rw[n] at k;cases k
 have d:∀b f,H b=U (.tup f)->b≠a:=λb f q z=>by subst z;rw[k] at q;cases q;exact j
 have h:∀b y,H b=U (.own y)->b≠a:=λb y q z=>by subst z;rw[k] at q;cases q;exact j
 have g:∀b y,H b=U (.tbl y)->b≠a:=λb y q z=>by subst z;rw[k] at q;cases q;exact j
 refine⟨I.ok,I.os,I.bare,⟨I.base.keep,I.base.slot,λb o q n t=>?_,I.base.there,λb f q=>?_,λb o z q=>?_,λb E q=>?_⟩,I.loc,I.cell,?_,λx c e=>?_,λp j=>?_,λb v q=>?_,I.len⟩
 .have:=I.base.free b o q n t;rw[zm (l b this)];exact this
 .have:=I.base.tups b f q;rw[zm (d b f this)];exact this
 .have:=I.base.frzs b o z q;rw[zm (λe=>J o z (by rw[<-e];exact q))];exact this
 .obtain⟨m,e⟩:=I.base.tbls b E q;exact⟨m,by rw[zm (g b _ e)];exact e⟩
 .rw[zm (l _ I.free)];exact I.free
 .have:=I.freeC x c e;rw[zm (l _ this)];exact this
 .obtain⟨O,C,M⟩:=I.pin p j;exact⟨O,by rw[zm (l _ C)];exact C,M⟩
 .by_cases t:b=a
  .subst t;rw[zj] at q;cases q;exact G
  .rw[zm t] at q;exact(I.hok b v q).stay (λ_ _ _ r=>r) (λc r=>by rw[zm (h c b r)];exact r) λc f r=>by rw[zm (d c f r)];exact r
def zks(t:TS):TS:=λf g H=>∃a d e,H a=U d/\(d=.dT e\/∃o,d=.frz o (.dT e))/\∀o,t
 ⟨λb c=>c a=U (.frz o (.dT e))/\f.nx b (upd c a d),λv c=>c a=U (.frz o (.dT e))/\f.rt v (upd c a d),λb c=>c a=U (.frz o (.dT e))/\f.bk b (upd c a d),λb c=>c a=U (.frz o (.dT e))/\f.ct b (upd c a d)⟩ g (upd H a (.frz o (.dT e)))
theorem aV.upd_dT{H:D}(d:H a=U u)(b:zbC u)(x:aV P w H h a (.dT aJ)):aV P w (upd H a u') h a (.dT aJ):=by
 refine x.stay (λ_ _ _ r=>r) (λc r=>?_) λc e r=>?_
 .rw[zm λz=>by subst z;rw[d] at r;cases r;exact b];exact r
 .rw[zm λz=>by subst z;rw[d] at r;cases r;exact b];exact r
theorem zjx{y:aA}{t:TS}(p:PS X y t):PS X y (zks t):=by
 rintro m s w H T I ⟨a,u0,j,k,l,h⟩;have J:zbC u0:=by rcases l with rfl|⟨o,rfl⟩ <;> trivial
 -- the object as it stands
 have C:∃o,s.heap.get? a=U o/\(u0=.dT j\/u0=.frz o (.dT j)):=by
  rcases l with rfl|⟨o,rfl⟩
  .obtain⟨N,M,G,A,o,O,Q,u,_⟩:=(show aV X.prog X.w H s.heap a (.dT j) from I.hok a _ k);exact⟨o,u,.inl Z⟩
  .exact⟨o,(show aV X.prog X.w H s.heap a (.frz o (.dT j)) from I.hok a _ k).1,.inr Z⟩
 obtain⟨o,u,l⟩:=C;have E:aP X m w (upd H a (.frz o (.dT j))) s:=by
  rcases l with rfl|rfl
  .refine I.relab k trivial (λn z q=>?_) ⟨u,aV.upd_dT k trivial (I.hok a _ k)⟩;have:=I.base.frzs a n z q;rw[k] at this;cases this
  .have e:upd H a (.frz o (.dT j))=H:=by
    funext b;unfold upd;split
    .next z=>rw[z];exact k.symm
    .rfl
   rw[e];exact I
 have g:∀ {d:St} {H':D} {s':ah},aP X m d H' s'->H' a=U (.frz o (.dT j))->aP X m d (upd H' a u0) s':=λ{d H' s'} i c=>by
  rcases l with rfl|rfl
  .refine i.relab c trivial (λn z q=>?_) (aV.upd_dT c trivial (show aV X.prog X.w H' s'.heap a (.frz o (.dT j)) from i.hok a _ c).2);have:=I.base.frzs a n z q;rw[k] at this;cases this
  .have e:upd H' a (.frz o (.dT j))=H':=by
    funext b;unfold upd;split
    .next z=>rw[z];exact c.symm
    .rfl
   rw[e];exact i
 refine aZ (p m s w _ _ E (h o)) λf s' q=>?_;cases f with
 |next=>obtain⟨d,H',i,c,q⟩:=q;exact⟨d,_,g i c,q⟩
 |brk=>obtain⟨d,H',i,c,q⟩:=q;exact⟨d,_,g i c,q⟩
 |cont=>obtain⟨d,H',i,c,q⟩:=q;exact⟨d,_,g i c,q⟩
 |ret v=>obtain⟨x,d,H',i,r,c,q⟩:=q;exact⟨x,d,_,g i c,r,q⟩
end
section
variable {σ:St}{H:D}{nx:St->D->Prop}{Bn:V->St->D->(St->D->Prop)->Prop}
theorem zc1(Pv:Nat->St->D->Prop)(n:Pv 0 σ H)(e:∀i σ H,Pv i σ H->H a=U (.frz o (.dT aJ))) (g:∀i k v p σ H,aJ[i]?=U (k,v)->H p=U (.tup (k.map kV))->Pv i σ H->Bn (.ref p) σ H (Pv (i+1))) (l:∀σ H,Pv aJ.length σ H->nx σ H) :
  ∃W:Nat->Nat->St->D->Prop,(∃m,W 0 m σ H)/\∀i m σ H,W i m σ H->((Itd a o aJ).stop i H/\nx σ H)\/((Itd a o aJ).go i H/\∃N:St->D->Prop,(∀b c,N b c->∃d,d<m/\W (i+1) d b c)/\∀x c,(Itd a o aJ).yld i H x c->Bn x σ c N):=by
 refine⟨λi m σ H=>m=aJ.length-i/\i<=aJ.length/\Pv i σ H,⟨aJ.length,by simp,bS _,n⟩,?_⟩;rintro i m σ H ⟨rfl,q,Y⟩;by_cases hlt:i<aJ.length
 .refine .inr ⟨⟨e i σ H Y,hlt⟩,Pv (i+1),λb c f=>⟨aJ.length-(i+1),(),Z,hlt,f⟩,?_⟩;rintro x c ⟨rfl,k,v,p,j,rfl,h⟩;exact g i k v p σ _ j h Y
 .obtain rfl:i=aJ.length:=by lia
  exact .inl ⟨⟨e _ σ H Y,bo _⟩,l σ H Y⟩
end
mutual
inductive Dat (K:bA) (H:D):V->PyData->Prop
 |non:Dat K H .non .none
 |bl (b:Bool):Dat K H (.bl b) (.bool b)
 |int (i:Int):Dat K H (.int i) (.int i)
 |str (x:Str):Dat K H (.str x) (.str x)
 |lst {a:L} {xs:List V} {ds:List PyData}:aT K H a xs->Wp K H xs ds->Dat K H (.ref a) (.list ds)
 |tup {a:L} {xs:List V} {ds:List PyData}:tI K H a xs->Wp K H xs ds->Dat K H (.ref a) (.tuple ds)
inductive Wp (K:bA) (H:D):List V->List PyData->Prop
 |nil:Wp K H [] []
 |cons {x:V} {d:PyData} {xs:List V} {ds:List PyData}:Dat K H x d->Wp K H xs ds->Wp K H (x::xs) (d::ds)
end
section
variable {K:bA}{H H':D}
theorem aT.mono(k:aL H H')(h:aT K H a xs):aT K H' a xs:=by
 rcases h with (h|⟨o,h⟩)|h
 .exact .inl (.inl (k _ _ h))
 .exact .inl (.inr ⟨o,k _ _ h⟩)
 .exact .inr h
end
mutual
def zc2:PyData->Bool
 |.none=>ak
 |.int _=>ak
 |.str x=>cS x
 |.list xs=>Ye xs
 |.tuple xs=>Ye xs
 |.bool _=>aq
 |.dict _=>aq
def Ye:List PyData->Bool
 |[]=>ak
 |x::xs=>zc2 x&&Ye xs
end
abbrev zbD(b:Bool):R2:=λx y H Q=>∃a o,y=.ref a/\tP H a x o/\Q (.bl (if b then !o.isSome else o.isSome)) H
section
variable {X:Cx}
theorem VO(d:X.A.units+1<cLine):ud X (Bi .In) (zbD aq):=by
 intro j s f H x y v u Q I c b h;obtain⟨a,o,rfl,g,q⟩:=h;cases b;exact zkM d I g c λi e=>⟨.bl _,H,e,Z,q⟩
theorem Jk(d:X.A.units+1<cLine):ud X (Bi .NotIn) (zbD ak):=by
 intro j s f H x y v u Q I c b h;obtain⟨a,o,rfl,g,q⟩:=h;cases b;exact zhN d I g c λi e=>⟨.bl _,H,e,Z,q⟩
end
end L2
namespace L2
open PySem
abbrev Pl:=Str×Int
abbrev aO:=Pl×Int
def zC:List aO->Pl->Option Int
 |[],_=>am
 |r::t,p=>(zC t p).or (if r.1=p then U r.2 else am)
def Xn(a:List (List aW×V))(q:aO):List (List aW×V):=yS a (zB q.1) (.int q.2)
def tF(a:List aO):List (List aW×V):=a.foldl Xn []
theorem yU{p q:Pl}(h:zB p=zB q):p=q:=by
 unfold zB at h;simp only[gG,Sum.inr.injEq,Sum.inl.injEq,and_true] at h;exact ss h.1 h.2
theorem zbE:∀(b:List aO) (a:List (List aW×V)) (p:Pl),yj (b.foldl Xn a) (zB p)=((zC b p).map V.int).or (yj a (zB p))
 |[],_,_=>rfl
 |r::t,a,p=>by
  rw[fj,zbE t,zC];show _=_;rw[Xn,V2];cases zC t p with
  |some w=>rfl
  |none =>
   by_cases e:r.1=p
   .subst e;simp
   .rw[ao (λz=>e (yU z).symm)];simp[e]
theorem wK(a:List aO)(p:Pl):yj (tF a) (zB p)=(zC a p).map V.int:=by
 unfold tF;rw[zbE,zbl];cases zC a p <;> rfl
theorem Zk(a:List aO)(q:aO):tF (a++[q])=yS (tF a) (zB q.1) (.int q.2):=by
 unfold tF;rw[List.foldl_append];rfl
def OkKv(a:List (List aW×V)):Prop:=(a.map (·.1)).Nodup/\∀b∈a,∃(p:Pl) (w:Int),b=(zB p,.int w)
theorem OkKv.put(h:OkKv aJ)(p:Pl)(w:Int):OkKv (yS aJ (zB p) (.int w)):=by
 cases e:yj aJ (zB p) with
 |none =>
  refine⟨zhP _ h.1 e,λa hk=>?_⟩;rw[jo _ e] at hk;rcases bu.mp hk with hk|hk
  .exact h.2 a hk
  .exact⟨p,w,bn.mp hk⟩
 |some v =>
  have q:(aJ.any λa=>decide (a.1=zB p))=ak:=by rw[vE,e];rfl
  unfold yS;rw[au q];constructor
  .rw[dJ];have:((λx:List aW×V=>x.1) ∘ λa:List aW×V=>if a.1=zB p then (a.1,V.int w) else a)=λx=>x.1:=by
    funext a
    show (if a.1=zB p then (a.1,V.int w) else a).1=a.1;split <;> rfl
   rw[this];exact h.1
  .intro a hk;obtain⟨z,b,rfl⟩:=bD.mp hk;by_cases e:z.1=zB p
   .exact⟨p,w,by rw[au e,e]⟩
   .rw[ao e];exact h.2 z b
theorem Qx:∀(b:List aO) (a:List (List aW×V)),OkKv a->OkKv (b.foldl Xn a)
 |[],_,h=>h
 |r::t,a,h=>Qx t _ (h.put r.1 r.2)
theorem kP(a:List aO):OkKv (tF a):=Qx a [] ⟨cO,λ_ h=>nomatch h⟩
theorem zh5(a:List (List aW×V))(k:List aW)(v:V):(yS a k v).length<=a.length+1:=by
 unfold yS;split
 .rw[bd];lia
 .rw[bx];simp
theorem zbF:∀(b:List aO) (a:List (List aW×V)),(b.foldl Xn a).length<=a.length+b.length
 |[],_=>by simp
 |r::t,a=>by
  have:=zbF t (Xn a r);have:=zh5 a (zB r.1) (.int r.2);rw[fj,bU];unfold Xn at *
  lia
theorem vo(a:List aO):(tF a).length<=a.length:=by have:=zbF a [];simpa[tF] using this
theorem zav{c:List (List aW×V)}:(c.map (·.1)).Nodup->∀b∈c,yj c b.1=U b.2:=by
 induction c with
 |nil=>exact λ_ b h=>nomatch h
 |cons a r ih =>
  intro d b hk;rw[bh,bW] at d;rcases bw.mp hk with rfl|hk
  .exact yV rfl
  .rw[yW λz=>d.1 (by rw[z];exact bB hk)];exact ih d.2 b hk
theorem uu :kv∈tF aK↔∃p w,kv=(zB p,.int w)/\zC aK p=U w:=by
 constructor
 .intro h;obtain⟨p,w,rfl⟩:=(kP aK).2 kv h;have:=zav (kP aK).1 _ h;rw[wK] at this;obtain⟨d,a,b⟩:=bY.mp this;cases b;exact⟨p,w,Z,a⟩
 .rintro⟨p,w,rfl,h⟩;have e:yj (tF aK) (zB p)=U (.int w):=by rw[wK,h];rfl
  obtain⟨kv,c,a⟩:=bD.mp (zdH e);have:=zav (kP aK).1 _ c;rw[a,e] at this;have b:kv=(zB p,V.int w):=ss a (bH this).symm;rw[<-b];exact c
theorem jN(a:Pl):yv a a=aq:=by
 unfold yv;rw[au rfl];exact Bk ()
theorem Kr{a b c:Pl}(e:yv a b=ak)(d:yv b c=ak):yv a c=ak:=by
 unfold yv at *
 by_cases e1:a.1=b.1
 .rw[au e1] at e;by_cases e2:b.1=c.1
  .rw[au e2] at d;rw[au (e1.trans e2)];have e:=of_decide_eq_true e;have d:=of_decide_eq_true d;exact Bj ()
  .rw[ao e2] at d;rw[ao (by rw[e1];exact e2),e1];exact d
 .rw[ao e1] at e;have e:=of_decide_eq_true e;by_cases e2:b.1=c.1
  .rw[ao (by rw[<-e2];exact e1),<-e2];exact Bj e
  .rw[ao e2] at d;have d:=of_decide_eq_true d;have f:=List.lt_trans e d;rw[ao (λz=>by rw[z] at f;exact List.lt_irrefl _ f)];exact Bj f
def tT(l:List aO):Prop:=l.Pairwise λa b=>yv a.1 b.1=ak
def zbG(b a:List aO):Prop:=tT a/\∀p w,(p,w)∈a↔zC b p=U w/\w≠0
theorem tT.nd(h:tT l):(l.map (·.1)).Nodup:=by
 unfold fu;rw[gL];exact mZ (λ{a b} h z=>by rw[z,jN] at h;cases h) h
theorem Qy{p:Pl}:∀ {l:List aO},(∀r∈l,r.1≠p)->zC l p=am
 |[],_=>rfl
 |r::t,h=>by
  rw[zC,Qy λr a=>h r (bp _ a),ao (h r br)];rfl
theorem Yf{p:Pl}{w:Int}:∀ {l:List aO},(l.map (·.1)).Nodup->(zC l p=U w↔(p,w)∈l)
 |[],_=>by simp[zC]
 |r::t,hn=>by
  rw[bh,bW] at hn;have b:=Yf (p:=p) (w:=w) hn.2;by_cases e:r.1=p
  .have z:zC t p=am:=Qy λq c a=>hn.1 (by rw[e,<-a];exact bB c);rw[zC,z,au e];constructor
   .intro h;have:r.2=w:=by simpa using h
    rw[<-e,<-this];exact br
   .intro h;rcases bw.mp h with h|h
    .rw[<-h];rfl
    .exact absurd (bB (f:=(·.1)) h) (by rw[<-e];exact hn.1)
  .rw[zC,ao e,Option.or_none,b,bw];constructor
   .exact .inr
   .rintro(h|h)
    .exact absurd (by rw[<-h]) e
    .exact h
theorem qq:∀ {a b:List aO},tT a->tT b->(∀x,x∈a↔x∈b)->a=b
 |[],[],_,_,_=>rfl
 |[],y::_,_,_,h=>absurd ((h y).mpr br) (by simp)
 |x::_,[],_,_,h=>absurd ((h x).mp br) (by simp)
 |x::a,y::b,ha,hb,h=>by
  unfold tT at ha hb;rw[pZ] at ha hb;have e:x=y:=by
   rcases bw.mp ((h x).mp br) with e|e
   .exact e
   .rcases bw.mp ((h y).mpr br) with e'|e'
    .exact e'.symm
    .have:=Kr (ha.1 y e') (hb.1 x e);rw[jN] at this;cases this
  subst e;have f:x ∉ a:=λz=>by have:=ha.1 x z;rw[jN] at this;cases this
  have d:x ∉ b:=λz=>by have:=hb.1 x z;rw[jN] at this;cases this
  rw[qq ha.2 hb.2 λz=>?_];constructor
  .intro c;rcases bw.mp ((h z).mp (bp _ c)) with e|e
   .subst e;exact absurd c f
   .exact e
  .intro c;rcases bw.mp ((h z).mpr (bp _ c)) with e|e
   .subst e;exact absurd c d
   .exact e
theorem xI{c:Type} [DecidableEq c]:∀ {a b:List c},a.Nodup->(∀x∈a,x∈b)->a.length<=b.length
 |[],_,_,_=>bS _
 |x::a,b,hn,h=>by
  rw[bW] at hn;have e:=h x br;have:=xI (a:=a) (b:=b.erase x) hn.2 λy d=>(oZ λz=>hn.1 (by rw[<-z];exact d)).mpr (h y (bp _ d));rw[List.length_erase_of_mem e] at this;have:0<b.length:=List.length_pos_of_mem e;rw[bU];lia
end L2
namespace L2
open PySem PySem.Spec PyProof.Rows
def ZL(z a b i j p q:L)(k:Nat)(h:ax):Prop:=IsZip h z a b .none/\IsPair h a (.ref i) (.ref j)/\(∃u v,IsPair h b u v)/\h.IsListIter i p k/\h.IsListIter j q k
def zgc(K:bA)(p q:L)(a b:List V):It:=⟨λi H=>i<a.length/\aT K H p a/\aT K H q b,λi H x c=>∃T u v,x=.ref T/\H T=am/\c=upd H T (.tup [u,v])/\a[i]?=U u/\b[i]?=U v,λi H=>a.length<=i/\aT K H p a/\aT K H q b⟩
theorem zeR{P:av}{w:ay}{K:bA}{ae:List aB}{x1}{aj:Pos}{z a b i j p q:L}{G C:List V}(r:ZipApart z a b i j p q)(J:G.length=C.length) :
  zbf P w K (.Tuple ae x1 aj) (zgc K p q G C) [z,a,b,i,j] z (ZL z a b i j p q) where
 mem:=by simp
 obj:=λk h m c d=>by
  obtain⟨t,n,⟨u,v,A⟩,⟨T,l,ci,di⟩,⟨Q,g,cj,dj⟩⟩:=m;simp only[bw,cC,or_false] at d;rcases d with rfl|rfl|rfl|rfl|rfl
  .exact⟨_,t,λv z=>by cases z⟩
  .exact⟨_,n,λv z=>by cases z⟩
  .exact⟨_,A,λv z=>by cases z⟩
  .exact⟨_,l,λv z=>by rw[di] at z;cases z⟩
  .exact⟨_,g,λv z=>by rw[dj] at z;cases z⟩
 keep:=λk h h' m kk=>by
  obtain⟨t,n,⟨u,v,A⟩,⟨T,l,ci⟩,⟨Q,g,cj⟩⟩:=m;exact⟨kk z (by simp) _ t,kk a (by simp) _ n,⟨u,v,kk b (by simp) _ A⟩,⟨T,kk i (by simp) _ l,ci⟩,⟨Q,kk j (by simp) _ g,cj⟩⟩
 item:=by
  intro X hP hw hK d k aa s σ H E I hf m hg;subst hP hw hK;obtain⟨f,h1,N⟩:=hg;obtain⟨us,r1,p1,_⟩:=I.list h1;obtain⟨vs,r2,p2,_⟩:=I.list N;obtain⟨u,hu,ru⟩:=r1.get (i:=k) (x:=G[k]) (bb f);obtain⟨v,hv,rv⟩:=r2.get (i:=k) (x:=C[k]'(J ▸ f)) (bb (J ▸ f));have ag:∀c∈[z,b,i,j],c∈[z,a,b,i,j]:=λc d=>by
   simp only[bw,cC,or_false] at d ⊢;rcases d with h|h|h|h <;> simp[h]
  have al:∀c∈[z,a,b,i,j],c≠s.heap.objs.size:=λc d=>by
   obtain⟨t,n,⟨u,v,A⟩,⟨T,l,ci⟩,⟨Q,g,cj⟩⟩:=m;simp only[bw,cC,or_false] at d;rcases d with rfl|rfl|rfl|rfl|rfl
   .exact bR (bI t)
   .exact bR (bI n)
   .exact bR (bI A)
   .exact bR (bI l)
   .exact bR (bI g)
  obtain⟨t,n,⟨u0,v0,A⟩,l,g⟩:=m;refine wpAny_pyNext_zip_item r t n A l g p1.isList p2.isList (x:=u) (y:=v) (by simpa using hu) (by simpa using hv) λh z8 b5 i5 j5 t5 sz k5=>?_;have I6:aP X aa σ (upd H s.heap.objs.size (.tup [G[k],C[k]'(J ▸ f)])) { s with heap:=s.heap.push { cls:=.type "tuple",data:=.seq #[u,v] } } :=
   I.laid (a:=s.heap.objs.size) (o:=.tup [G[k],C[k]'(J ▸ f)]) (t':=s.toks) (λb u e=>bc _ e) (bo _) ⟨by show 2<=Bb;decide,[u,v],.cons ru (.cons rv .nil),⟨_,bC _ Z,Z,_,Z⟩⟩
  have M:∀c∈[z,a,b,i,j],upd H s.heap.objs.size (HO.tup [G[k],C[k]'(J ▸ f)]) c=am:=λc d=>by rw[zm (al c d)];exact(hf c d).1
  have fz:∀c∈[z,a,b,i,j],qY X aa (upd H s.heap.objs.size (HO.tup [G[k],C[k]'(J ▸ f)])) c:=λc d=>⟨M c d,(hf c d).2⟩;refine⟨.ref s.heap.objs.size,Z,mK z8 λN z9 ai=>?_⟩;have O:∀c o,c≠z->h.get? c=U o->N.get? c=U o:=λc o d e=>by
   rw[show N.get? c=h.get? c from ai.2 c d];exact e
  have I7:aP X aa σ (upd H s.heap.objs.size (.tup [G[k],C[k]'(J ▸ f)])) { s with heap:=N }:=I6.turnedL (s:={ s with heap:=s.heap.push { cls:=.type "tuple",data:=.seq #[u,v] } }) (t':=s.toks) (ch:=[z,b,i,j]) (λc o d e=>by
   simp only[bw,cC,or_false,not_or] at d;refine O c o d.1 ?_;rcases ph (show (s.heap.push { cls:=.type "tuple",data:=.seq #[u,v] }).get? c=U o from e) with ⟨rfl,rfl⟩|e
   .exact t5
   .exact k5 c o d.1 d.2.1 d.2.2.1 d.2.2.2 e) λc d=>fz c (ag c d)
  refine⟨.ref s.heap.objs.size,_,I7,Z,⟨_,_,_,Z,I.hok.fresh (bo _),Z,bb f,bb (J ▸ f)⟩,?_,M⟩;have ka:h.get? a=_:=k5 a _ r.TIz r.TITO r.TIi1 r.TIi2 n;obtain⟨T,l,ci⟩:=i5;obtain⟨Q,g,cj⟩:=j5;exact⟨z9,O a _ r.TIz ka,⟨_,_,O b _ r.TOz b5⟩,⟨T,O i _ r.i1z l,ci⟩,⟨Q,O j _ r.i2z g,cj⟩⟩
 done:=by
  intro X hP hw hK d k aa s σ H E I hf m hg;subst hP hw hK;obtain⟨f,h1,N⟩:=hg;obtain⟨us,r1,p1,_⟩:=I.list h1;obtain⟨vs,r2,p2,_⟩:=I.list N;have an:=r1.length;obtain⟨t,n,⟨u0,v0,A⟩,l,g⟩:=m;refine wpAny_pyNext_zip_end (I.ok.hd d) r t n A l g p1.isList p2.isList (.inl (by simp;lia)) λh hk=>⟨Z,I.turnedL (t':=s.toks) (ch:=[z,b,i,j]) (λc o d e=>?_) λc d=>hf c ?_⟩
  .simp only[bw,cC,or_false,not_or] at d;exact hk c o d.1 d.2.1 d.2.2.1 d.2.2.2 e
  .simp only[bw,cC,or_false] at d ⊢;rcases d with h|h|h|h <;> simp[h]
 self:=λ_ _ _ _ _ m h=>lE m.1 h
section
variable {σ:St}{H:D}{nx:St->D->Prop}{Bn:V->St->D->(St->D->Prop)->Prop}
theorem zeS{K:bA}(a d:List V)(Pv:Nat->St->D->Prop)(o:Pv 0 σ H)(f:∀i σ H,Pv i σ H->aT K H p a/\aT K H q d) (k:∀i u v T σ H,a[i]?=U u->d[i]?=U v->H T=am->Pv i σ H->Bn (.ref T) σ (upd H T (.tup [u,v])) (Pv (i+1))) (l:∀σ H,Pv a.length σ H->nx σ H) :
  ∃W:Nat->Nat->St->D->Prop,(∃m,W 0 m σ H)/\∀i m σ H,W i m σ H->((zgc K p q a d).stop i H/\nx σ H)\/((zgc K p q a d).go i H/\∃N:St->D->Prop,(∀b c,N b c->∃e,e<m/\W (i+1) e b c)/\∀x c,(zgc K p q a d).yld i H x c->Bn x σ c N):=by
 refine⟨λi m σ H=>m=a.length-i/\i<=a.length/\Pv i σ H,⟨a.length,by simp,bS _,o⟩,?_⟩;rintro i m σ H ⟨rfl,r,Y⟩;by_cases hlt:i<a.length
 .refine .inr ⟨⟨hlt,f i σ H Y⟩,Pv (i+1),λb c g=>⟨a.length-(i+1),(),Z,hlt,g⟩,?_⟩;rintro x c ⟨T,u,v,rfl,n,rfl,j,h⟩;exact k i u v T σ H j h n Y
 .obtain rfl:i=a.length:=by lia
  exact .inl ⟨⟨bo _,f _ σ H Y⟩,l σ H Y⟩
end
theorem Yg:plainId "dict.update.loop"=ak:=by lia
theorem Qz:entryFor table "dict.update.loop"=U Builtin.«dict.update.loop»:=entryFor_of_fast (by kernel_rfl)
section
variable {X:Cx}{A:aw}{R:aD->ah->Prop}
def PrAt(H:D)(v:V)(q:aO):Prop:=∃r p,v=.ref r/\H r=U (.tup [.ref p,.int q.2])/\H p=U (.tup [.str q.1.1,.int q.1.2])
theorem zeT{j:St}{H:D}{s:ah}{d b:L}{f:List (List aW×V)}{k:List aW}{v:V}{u:af}{E:af->ah->Prop}{Q:Unit->ah->Prop}(y:A.units+1<cLine)(I:aP X aa j H s)(e:H d=U (.dT f))(r:H b=U (.tup (k.map kV)))(l:f.length<Bb)(w:aU v u) (h:∀g m,aP X aa j (upd H d (.dT (yS f k v))) { s with heap:=g,toks:=m }->cN d s.heap g->Q PUnit.unit { s with heap:=g,toks:=m }):Bf (Bg X.prog X.w) A.in1 (dictSet d (.ref b) u) Q E s:=by
 obtain⟨z,G,t,a,dd⟩:=Qm I.hok e;have x:t.length<=Bb:=by rw[<-bE a];exact z
 have C:(yS f k v).length<=Bb:=by have:=wG f k v;lia
 refine wpAny_dictSet_heap (hsz:=x) (dX y) (qh I.hok r) dd λg i n=>h _ _ ?_ n;obtain⟨q,T,ep,o,O,N,M,_,J⟩:=i;refine Z8 I (by rw[e];exact eR) n ⟨q,o⟩ ⟨C,G,_,(a.put k r w).keeps λc ys p=>?_,q,T,ep,o,O,N,M,J⟩;rw[zm (zL p e ())];exact p
theorem zgd{Q:St}{H:D}{d it l:L}{xs:List V}{aK:List aO}{res:af}(hu:A.units+1<cLine)(hh:A.handled=am)(hd:H d=am)(hl:H l=U (.lst xs))(hr:Paired (PrAt H) xs aK)(al:aK.length<=1000)(O:it≠d)(ai:l≠it) :
  ∀(k i:Nat) (s:ah),aK.length-i=k->i<=aK.length->aP X aa Q (upd H d (.dT (tF (aK.take i)))) s->s.heap.IsListIter it l i->(∀u,qY X aa (upd H d u) it) ->
  (∀s',aP X aa Q (upd H d (.dT (tF aK))) s'->R (.ok (.ret res)) s') ->
  codeAny (Bg X.prog X.w) A (.builtin "dict.update.loop" ⟨[.ref d,.ref it,rawInt i,res],[]⟩) R s:=by
 have lx:xs.length=aK.length:=bE hr;have S:∀u:HO,aL H (upd H d u):=λu=>tM (o:=u) d hd;intro k;induction k with
 |zero =>
  intro i s hk hi I m f fin;have e:i=aK.length:=by lia
  subst e;refine fm Qz ?_;rw[dI Yg _];show Bf _ A.in1 (pyNext (.ref it) >>= _) _ _ s;obtain⟨w,t,p,hz⟩:=I.list (aT.of (S _ _ _ hl));obtain⟨N,M,f2,J,G,E⟩:=f (.dT (tF (aK.take aK.length)));have aj:=t.length;refine ba (oA hh m p.isList (by simp;lia) λh' eb=>?_);have c:=I.turned (t':=s.toks) (λb o C e=>eb b o C e) N M J G E;rw[cR] at c;show Bf _ A.in1 (Builtin.Dict.addKeywords d [] >>= _) _ _ _;exact ba (bg (bg (fin _ c)))
 |succ k ih =>
  intro i s hk hi I m f fin;have a:i<aK.length:=by lia
  refine fm Qz ?_;rw[dI Yg _];show Bf _ A.in1 (pyNext (.ref it) >>= _) _ _ s;obtain⟨w,t,p,hz⟩:=I.list (aT.of (S _ _ _ hl));obtain⟨N,M,f2,J,G,E⟩:=f (.dT (tF (aK.take i)));have hx:xs[i]?=U xs[i]:=bb ();have hq:aK[i]?=U aK[i]:=bb a;obtain⟨r,pl,e1,t1,u1⟩:=yN hr hx hq;obtain⟨u,y,ru⟩:=t.get hx;rw[e1] at ru;cases ru;refine ba (n9 m p.isList (x:=.ref r) (by simpa using y) λh' j sb=>?_);have c:=I.turned (t':=s.toks) (λb o C e=>(sb.2 b C).trans e) N M J G E;obtain⟨ag,tv,⟨o,ho,hc,n,z⟩,_⟩:=c.tuple (tI.of (S _ _ _ t1));cases tv with
  |cons r1 rr =>
   cases rr with
   |cons r2 rn =>
    cases rn;cases r1;obtain⟨h,rfl⟩:=r2;refine ba (dF ?_);have T:({ s with heap:=h' }:ah).TypeIs (.ref r) "tuple":=⟨o,ho,hc⟩;refine ba (wpAny_tryCatch ?_);unfold Builtin.Dict.pairItems;refine ba (rV T ?_);rw[au ()];refine ba ?_;unfold seqItems?;refine ba (oS ho ?_);rw[z];refine bg (bg ?_);show Bf _ _ (holding [.ref pl,.int aK[i].2 h] (dictSet d (.ref pl) (.int aK[i].2 h))) _ _ _;refine dF ?_;have g:tF (aK.take (i+1))=yS (tF (aK.take i)) (zB aK[i].1) (.int aK[i].2):=by rw[cx,hq,<-Zk];rfl
    have l2:(tF (aK.take i)).length<Bb:=by
     have h1:=vo (aK.take i);have h2:=List.length_take_le' i aK;exact ca (by lia:_<=1000) ()
    refine zeT (k:=zB aK[i].1) (v:=.int aK[i].2) hu c zj (S _ _ _ u1) l2 ⟨h,Z⟩ λh2 ae I2 q=>?_;rw[VH,<-g] at I2;refine bg ⟨gK Yg _,ih (i+1) _ () a I2 (j.at λo e=>(q.2 it O).trans e) f fin⟩
end
theorem zaw:typeLookup (.type "list") "keys"=pure am:=by rw[typeLookup_type,builtinLookup_eq_fast];kernel_rfl
section
variable {prog:av}{w:ay}{A:aw}{E:af->ah->Prop}{s:ah}{a:L}{o:Obj}{xs:Array af}{k:Nat}
theorem Jl{Q:Option af->ah->Prop}(p:s.heap.get? a=U o)(r:o.cls=.type "list")(f:o.data=.seq xs k)(q:o.dict=am)(z:A.handled=am) (h:∀m n,(∀b l,s.heap.get? b=U l->m.get? b=U l)->Q am { s with heap:=m,toks:=n }):Bf (Bg prog w) A (getAttr? (.ref a) "keys") Q E s:=by
 obtain⟨c,C,G,u⟩:=o;simp only at r f q;subst r f q;obtain⟨y,g,d,n,v⟩:=s;have t:∀i,(⟨y,g,d,i,v⟩:ah).TypeIs (.ref a) "list":=λ_=>⟨_,p,Z⟩;have T:=sub_AttributeError;have O:=F.slot_list_getattribute.lookup;have N:=F.slot_list_getattribute.bind (.ref a);have M:=am_list_getattr_none;unfold getAttr? getAttrBy? getAttrBy
 repeat (any_goals (first|assumption|exact t _|((with_reducible show Bf _ _ (call (Value.builtin "list.__getattribute__") _ _) _ _ _);refine iP F.slot_list_getattribute (t _) am_entry_list_getattribute (F.args_list_getattribute_2 _ _) (meets_getattribute_miss_list a xs k u "keys" _ zaw () ()) ⟨p,z,λm i e j=>?_⟩)|wp_step))
 obtain⟨I,H,J⟩:=j.there;have x:=j.keeps;show Bf _ _ (getattributeRaised _ _ _ _ _ _ _) _ _ _;unfold getattributeRaised
 repeat (any_goals (first|assumption|wp_step))
 all_goals exact h _ _ λb l e=>x b l e
end
theorem hu3(r:tD k A):A.units+3<cLine:=by have:=zhY r;lia
abbrev zbH:RC:=λd H Q=>∃(a:L) (c:List V) (b:List aO),d=[.ref a]/\H a=U (.lst c)/\Paired (PrAt H) c b/\b.length<=1000/\∀p,H p=am->Q (.ref p) (upd H p (.dT (tF b)))
section
variable {X:Cx}
theorem ww(hc:X.calm=ak)(hu:X.A.units+3<cLine):jK X (.type "dict") zbH:=by
 intro x s p H vs us Q I r h;obtain⟨a,xs,aK,rfl,w,hr,hl,q⟩:=h;obtain⟨u,rfl,T⟩:=kI r;cases T;have J:X.A.handled=am:=I.ok.hd hc;refine callType_codes (Q₁:=λk c=>k=.ref s.heap.objs.size/\c={ s with heap:=s.heap.push { cls:=.type "dict",data:=.dict #[] } }) F.kt_called_dict (F.kt_typeCall_dict_1 _) F.entry_dict_init (kt_code_dict_new _ ⟨rfl,rfl⟩) ?_;rintro k c ⟨rfl,rfl⟩;have M:({ s with heap:=s.heap.push { cls:=.type "dict",data:=.dict #[] } }:ah).TypeIs (.ref s.heap.objs.size) "dict":=⟨_,bC _ rfl,rfl⟩;refine⟨M,F.args_dict_init_2 _ _,?_⟩;unfold Builtin.«dict.__init__»;refine ba ?_;unfold Builtin.Dict.selfAndRest;refine ba (fH M ?_);show Bf _ _ (pure (s.heap.objs.size,[bO a])) _ _ _;refine bg ?_;show Bf _ _ (nN "dict.__init__" s.heap.objs.size (.ref a) [] .none) _ _ _;unfold nN;have v:H s.heap.objs.size=am:=I.hok.fresh (bo _);have S:∀u:HO,aL H (upd H s.heap.objs.size u):=λu=>tM (o:=u) _ v;have N:aP X x p (upd H s.heap.objs.size (.dT [])) { s with heap:=s.heap.push { cls:=.type "dict",data:=.dict #[] } } :=
  I.laid (a:=s.heap.objs.size) (o:=.dT []) (t':=s.toks) (λb o z=>bc _ z) (bo _) (zbp s.heap I.big)
 obtain⟨ae,rv,pl,_⟩:=N.list (aT.of (S _ _ _ w));obtain⟨o,n,G,y,od,j⟩:=id pl;have T1:({ s with heap:=s.heap.push { cls:=.type "dict",data:=.dict #[] } }:ah).TypeIs (.ref a) "list":=⟨o,G,y⟩;refine ba (rV T1 ?_);rw[au ()];refine ba (Jl G y j od (by exact J) λg f C=>?_);rw[au (show (am:Option af).isNone=ak from rfl)];refine ba (lN ?_);have m:aP X x p (upd H s.heap.objs.size (.dT [])) { s with heap:=g,toks:=f }:=N.kept C;obtain⟨E,O,i,_⟩:=m.list (aT.of (S _ _ _ w));refine ba (wpAny_pyIter_list i.isList ?_);have I3:aP X x p (upd H s.heap.objs.size (.dT (tF (aK.take 0)))) { s with heap:=g.push { cls:=.type "list_iterator",data:=.fields #[.ref a,.int 0 0] },toks:=f }:=m.kept (t':=f) λb o e=>bc _ e;refine bg ⟨gK Yg _,?_⟩;have t:s.heap.objs.size<g.objs.size:=bI (C s.heap.objs.size _ (bC _ Z));have la:a<g.objs.size:=by obtain⟨_,_,z,_⟩:=i;exact bI z
 refine zgd (A:=X.A.in1) (H:=H) (d:=s.heap.objs.size) (it:=g.objs.size) (l:=a) (xs:=xs) (aK:=aK) (res:=.none) ?_ J v w hr hl (fA t) (bR la) aK.length 0 _ () (bS _) I3 ⟨_,bC _ Z,Z,Z⟩ (λu=>?_) λs' I'=>⟨Z,.ref s.heap.objs.size,_,I',Z,q _ v⟩
 .have e:X.A.in1.units=X.A.units+1:=rfl;lia
 .refine m.fpOk (bo _) ?_;rw[zm (fA t)];have:=m.hok.fresh (bo g.objs.size);rw[zm (fA t)] at this;exact this
end
section
variable {X:Cx}{k:Nat}{f C:L}{fd:Bc}{ps:List Str}{sp:Sp}{m:Str}{pos tj:Pos}{e o:aB}{es:List aB}{ta:TE}{t:TA}
def zc3(C:L)(m:Str)(sp:Sp)(ta:TE)(t:TA)(n:EXK):TE:=λb H Q=>ta b H λx g=>∃a i d,x=.ref a/\g a=U (.ins C i d)/\d.lookup m=am /\
 t b g λh l=>sp (x::(h++[])) l Q λc _ j=>n c b j
theorem zbI{pl:Sem Bool}(he:PE X.nox o ta)(c:ua X.K C)(T:zac X.K C m f)(F:tq X.prog X.w X.K X.mg X.base (CX1 X.prog X.w) k f fd ps sp)(hr:tD k X.A)(hb:tE X.K fd ps [])(ha:PA X.nox (e::es) t) (w:Be (e::es) X.env=(aq,eval e X.env)::Be es X.env:=by rfl) (y:(backTo pos (Be es X.env)).any (·.1)=aq:=by rfl) (ht:eval (.Call (.Attribute o m tj) (e::es) [] pos) X.env=(do
   let O <-eval o X.env
   standAt tj.atName
   let (f,first) <-holding [O] (getMethod O m pl)
   callWith pos f first (backTo pos (Be (e::es) X.env)) (backToKw pos (keywordEach [] X.env))):=by rfl) :
  PEX X (.Call (.Attribute o m tj) (e::es) [] pos) (zc3 C m sp ta t):=by
 intro aa s p H Q EX I h;refine lR (pl:=pl) (eG (he aa s p H _ (I.wish _) h) (?_) λ_ _ z=>dz z) ht;rintro u s1 ⟨x,H1,G,rx,a,dx,fs,ex,ea,l,q⟩;subst ex;obtain rfl:u=bO a:=rx;have I1:=G.unwish;refine qf I1 ea c T l ?_;refine mC (first:=[.ref a]) (h₀:=X.base) I.ok.mod.kin T.kp (eG (ha pos aa s1 p H1 _ (I1.wish _) q) (λd v ⟨J,H2,j,r,N⟩=>⟨j.kIn,?_⟩) λ_ _ z=>dz z) w y;have n:=j.unwish;have M:aR (V.ref a::(J++[])) (bO a::(d++[])):=.cons Z (r.append .nil);have hl:((bO a::d)++[]).length=ps.length:=by
  have e:=M.length;rw[F.len _ _ _ _ N] at e;exact e.symm
 refine rq (gA (F.run X.A X.stack v H2 ⟨.ref a::d,[]⟩ ((.ref a::d)++[]) (.ref a::(J++[])) _ _ hr n.env0 (hb v (.ref a::d) n.kIn hl) M N) λr s' g=>?_);cases r with
 |error ev =>
  obtain⟨e,E,H',rfl,os,i,un,A,xf,hE⟩:=g;exact⟨e,E,p,v,H2,H',Z,n,n.call' (ch:=[]) os un A i (λb z=>nomatch z),xf,hE⟩
 |ok fl =>
  cases fl with
  |ret u=>exact n.after g
  |next=>exact dz g
  |brk=>exact dz g
  |cont=>exact dz g
end
def zge(K:bA)(i:EXK->TS)(g:L)(c:TS)(j:L)(b:TS):TS:=λe h H=>i (λd a f=>∃C,d=.ref C /\
 ((lK K (.ref C) (.ref g)=U ak/\c e a f)\/(lK K (.ref C) (.ref g)=U aq/\lK K (.ref C) (.ref j)=U ak/\b e a f))) e h H
section
variable {X:Cx}{st b₀ b₁:aA}{suite suite1:List aA}{tb:EXK->TS}{th1 th2:TS}{c1 c2:Str}{C1 C2:L}{np hpos np2 hpos2 pos:Pos}
theorem zdU{W:Wg->L->St->D->Prop}(j:X.stack=X.env::X.outer/\X.env.frame=U X.env.locals)(t:X.ex=[])(hb:PSX X st tb) (go:∀r c m H (e C:L) (a0:af) (base:ax) (s:ah),ii base (X.env::X.outer) e (.ref C) a0 s.heap->(∀g,ii base (X.env::X.outer) e (.ref C) a0 g->s.heap.UpToSlots g->aP X r m H { s with heap:=g })->W c C m H ->
   Bf (Bg X.prog X.w) X.A (handleBy (.ref e) X.env (h0::hl)) (SP X r c) X.xe s):PS X (.Try [st] (h0::hl) [] [] pos) (λc m H=>tb (λcls d x=>∃C,cls=.ref C/\W c C d x) c m H):=by
 intro r s m H c I h;refine wpAny_Try_except (nT (eG (hb r s m H c _ I h) (λf n q=>?_) λev n q=>?_))
 .cases f with
  |next=>exact gq (gq q)
  |ret v=>exact q
  |brk=>exact q
  |cont=>exact q
 obtain⟨e,cls,d,s0,H0,x,rfl,I0,I1,xf,C,rfl,E⟩:=q;obtain⟨oe,vs,a0,T,oT,ts,h1,h2,h3,h4,h5,h6,h7,h8,h9,O,N,M⟩:=xf;have fr:n.heap.FunFrames (lP n.heap (ue X.stack++[e,T])) (X.env::X.outer):=by
  have q:=nV (as:=ue X.stack++[e,T]) I1.stack λQ he a ha=>cI _ (ir.mpr ⟨Q,he,ha⟩);rw[j.1] at q ⊢;exact q
 have i:∀b∈[e,T],s0.heap.get? b=am/\x b=am:=λb z=>by
  have z':b=e\/b=T:=by simpa using z
  rcases z' with rfl|rfl
  .exact⟨h9,N⟩
  .exact⟨O,M⟩
 have G:∀b∈[e,T],x b=am/\X.s₀.heap.get? b=am:=λb z=>⟨(i b z).2,Yd (I0.there0 t) (i b z).1⟩;have J:∀b∈[e,T],∀p∈X.pn++r,p.1≠b:=λb z p hp q=>by
  have:=(I0.pin p hp).1;rw[q,(i b z).1] at this;cases this
 refine wpAny_looks_onW (base:=lP n.heap (ue X.stack++[e,T])) (a0:=a0) (cls:=.ref C) (by rw[I1.ok.frames,j.1]) j.2
  ⟨λb o q=>oy _ q,iT _ (bP _ (by simp)),fr,oe,vs,T,oT,ts,h1,h2,h3,h4,iT _ (bP _ (by simp)),h5,h6,h7,h8⟩ λg4 l A=>?_
 refine wpAny_landsW l λg5 w y=>?_;have hB:∀ {g:ax},(lP n.heap (ue X.stack++[e,T])).StaysIn g->∀b o,n.heap.get? b=U o->b ∉ ue X.stack->b ∉ [e,T]->g.get? b=U o :=
  λ{g} k b o q n1 n2=>k b o (nu _ q λz=>(bu.mp z).elim n1 n2)
 exact go r c d x e C a0 _ _ w (λg f u=>by have z:=I1.land t G J (hB f.1) ((A.trans y).trans u);exact z) E
theorem zax{m:Wg}{d:St}{H:D}{e C:L}{p:af}{a:ax}{s:ah}{l:List Env}{R:aD->ah->Prop}{n:TS}(j:ii a l e (.ref C) p s.heap)(A:∀g,ii a l e (.ref C) p g->s.heap.UpToSlots g->aP X aa d H { s with heap:=g })(w:∀e,PSs (X.sub e) (b₀::suite) n)(i:n m d H)(x:∀f o,SP X aa m f o->R (.ok f) o) :
  codeAny (Bg X.prog X.w) (X.A.mark (U (.ref e))) (.handlers (.ref e) [.ExceptHandler am am (b₀::suite) hpos] X.env) R s:=by
 refine codeAny_handlers_suite (lands_againW j λy c h=>?_);have I:=A y c h;refine eG (w e aa _ d H m I.toSub i) (λf t q=>x f t ?_) λ_ _ z=>dz z;cases f with
 |ret u=>obtain⟨v,b,k,J,r,z⟩:=q;exact⟨v,b,k,aP.ofSub (J:=I) J,r,z⟩
 |_=>obtain⟨b,k,J,z⟩:=q;exact⟨b,k,aP.ofSub (J:=I) J,z⟩
theorem zay(a:ii base l e (.ref C) a0 g):W.Looks (Bg X.prog X.w) g (typeOf (.ref e)) (.ref C):=by
 obtain⟨o,c,b⟩:=a.there;exact b ▸ (sP c).andThen .now
theorem zgf(i:X.stack=X.env::X.outer/\X.env.frame=U X.env.locals)(p:X.ex=[])(x:PSX X st tb)(o:Gl X c1)(m:X.mg c1=U (.ref C1))(n:Gl X c2)(l:X.mg c2=U (.ref C2)) (k:∀e,PSs (X.sub e) (b₀::suite) th1) (j:∀e,PSs (X.sub e) (b₁::suite1) th2) (d:(c1==("__debug__":Str))=aq:=by lia) (c:(c2==("__debug__":Str))=aq:=by lia) :
  PS X (.Try [st] [.ExceptHandler (U (.Name c1 np)) am (b₀::suite) hpos,.ExceptHandler (U (.Name c2 np2)) am (b₁::suite1) hpos2] [] [] pos) (zge X.K tb C1 th1 C2 th2):=by
 refine zdU (W:=λt C b r=>(lK X.K (.ref C) (.ref C1)=U ak/\th1 t b r)\/(lK X.K (.ref C) (.ref C1)=U aq/\lK X.K (.ref C) (.ref C2)=U ak/\th2 t b r)) i p x λy t b r e C z v s a u h=>?_;have g:=u _ a (.refl _);refine lX (i7 ?_) (by intro q;cases q);refine vj (X:=X.sub e) (g.toSub (e:=e)) o m ?_ d;rcases h with ⟨hx,ht⟩|⟨hx,hx2,ht⟩
 .exact(W.exm_one g.kIn (zay a) hx).here (zax a u k ht λf w q=>q)
 .refine(W.exm_one g.kIn (zay a) hx).here ?_;show Bf _ _ (handleBy (.ref e) X.env _) _ _ _;refine lX (i7 ?_) (by intro q;cases q);exact vj (X:=X.sub e) (g.toSub (e:=e)) n l ((W.exm_one g.kIn (zay a) hx2).here (zax a u j ht λf w q=>q)) c
end
end L2
namespace L2
open PySem
def rk(b:List (aW×V))(a:List V):Except Er Int:=match vf b a [] with
 |.ok [i]=>.ok i
 |.ok _=>.error .stuck
 |.error e=>.error e
theorem Good.rk{r:Except Er Int}(h:Good aJ ps r):L2.rk aJ ps=r:=by
 unfold L2.rk;rw[h.1 []];cases r <;> rfl
theorem zgg(g:xn aJ)(f:qo v){d c:List Int}(h:∀x∈d,tK x=ak)(e:wZ aJ d v=.ok c):∀x∈c,tK x=ak:=by
 unfold wZ at e;split at e
 .split at e
  .rename_i w b a r hr hj;unfold kM at e;by_cases c1:Jd w/\b=0
   .rw[au c1] at e;cases e
   .rw[ao c1] at e;by_cases c2:tK (Jc w a b)=ak
    .rw[au c2] at e;cases e;intro x hx;rcases bu.mp hx with hx|hx
     .refine h x (sf.mp ?_);rw[hr];exact bp _ (bp _ (sf.mp hx))
     .rw[bn.mp hx];exact c2
    .rw[ao c2] at e;cases e
  .cases e
 .cases e;intro x hx;rcases bu.mp hx with hx|hx
  .exact h x hx
  .rw[bn.mp hx];exact zbx g f
theorem zdV{f:List (aW×V)}(d:xn f):∀ {c:List V} {b a:List Int},(∀v∈c,qo v)->(∀x∈b,tK x=ak)->vf f c b=.ok a->∀x∈a,tK x=ak
 |[],b,a,_,h,e=>by cases e;exact h
 |v::r,b,a,hp,h,e=>by
  unfold vf at e;split at e
  .rename_i st1 e1;exact zdV d (λv g=>hp v (bp _ g)) (zgg d (hp v br) h e1) e
  .cases e
theorem zgh(a:xn aJ)(b:∀v∈ps,qo v){i:Int}(e:rk aJ ps=.ok i):tK i=ak:=by
 unfold rk at e;split at e
 .rename_i j hj;cases e;exact zdV a b (λ_ z=>absurd z cC) hj i br
 .cases e
 .cases e
def aY(e:List V):Prop:=(∀a,∃r,Good a e r)/\(∀v∈e,qo v)/\e.length<=1000
theorem aY.good(h:aY e)(a:List (aW×V)):Good a e (rk a e):=by
 obtain⟨r,g⟩:=h.1 a;rw[g.rk];exact g
mutual
inductive Rw where
 |take (sh:Str) (e:List V) (sl:Str)
 |give (sh:Str) (e f:List V)
 |lt (sl:Str) (e:List V)
 |say (e:List V)
 |off (e:List V)
 |iff (e:List V) (a b:gV)
inductive gV where
 |nil
 |cons (r:Rw) (rs:gV)
end
set_option genSizeOf false in
set_option genInjectivity false in
structure Sta where
 sl:List (aW×V)
 wo:List aO
 sa:List Int
inductive Res where
 |go (s:Sta)
 |off
 |er (e:Er)
mutual
def goR:Rw->Sta->Res
 |.take sh e sl,s=>match rk s.sl e with
  |.ok n=>.go { s with sl:=yS s.sl (.inr sl) (.int ((zC s.wo (sh,n)).getD 0)) }
  |.error x=>.er x
 |.give sh e f,s=>match rk s.sl e with
  |.ok n=>(match rk s.sl f with
   |.ok w=>.go { s with wo:=s.wo++[((sh,n),w)] }
   |.error x=>.er x)
  |.error x=>.er x
 |.lt sl e,s=>match rk s.sl e with
  |.ok n=>.go { s with sl:=yS s.sl (.inr sl) (.int n) }
  |.error x=>.er x
 |.say e,s=>match rk s.sl e with
  |.ok n=>.go { s with sa:=s.sa++[n] }
  |.error x=>.er x
 |.off e,s=>match rk s.sl e with
  |.ok n=>if n=0 then .go s else .off
  |.error x=>.er x
 |.iff e a b,s=>match rk s.sl e with
  |.ok n=>if n=0 then zh6 b s else zh6 a s
  |.error x=>.er x
def zh6:gV->Sta->Res
 |.nil,s=>.go s
 |.cons r rs,s=>match goR r s with
  |.go s'=>zh6 rs s'
  |x=>x
end
mutual
def hZ(F:L->Prop)(H:D)(v:V):Rw->Prop
 |.take sh e sl=>∃r c,v=.ref r/\F r/\F c/\H r=U (.tup [.str "take",.str sh,.ref c,.str sl])/\H c=U (.tup e)
 |.give sh e f=>∃r c d,v=.ref r/\F r/\F c/\F d/\H r=U (.tup [.str "give",.str sh,.ref c,.ref d])/\H c=U (.tup e)/\H d=U (.tup f)
 |.lt sl e=>∃r c,v=.ref r/\F r/\F c/\H r=U (.tup [.str "let",.str sl,.ref c])/\H c=U (.tup e)
 |.say e=>∃r c,v=.ref r/\F r/\F c/\H r=U (.tup [.str "say",.ref c])/\H c=U (.tup e)
 |.off e=>∃r c,v=.ref r/\F r/\F c/\H r=U (.tup [.str "off",.ref c])/\H c=U (.tup e)
 |.iff e a b=>∃r c h g j i,v=.ref r/\F r/\F c/\F h/\F g/\H r=U (.tup [.str "if",.ref c,.ref h,.ref g])/\H c=U (.tup e)/\H h=U (.lst j)/\ti F H j a/\H g=U (.lst i)/\ti F H i b
def ti(F:L->Prop)(H:D)(b:List V):gV->Prop
 |.nil=>b=[]
 |.cons r rs=>∃v a,b=v::a/\hZ F H v r/\ti F H a rs
end
mutual
theorem hZ.to_{F G:L->Prop}{H t:D}(g:∀b o,F b->H b=U o->G b)(s:∀b o,F b->H b=U o->t b=U o):∀ {v:V} (r:Rw),hZ F H v r->hZ G t v r
 |v,.take sh e sl,h=>by
  unfold hZ at h ⊢;obtain⟨r,k,l,d,c,j,i⟩:=h;exact⟨r,k,l,g _ _ d j,g _ _ c i,s _ _ d j,s _ _ c i⟩
 |v,.give sh e f,h=>by
  unfold hZ at h ⊢;obtain⟨r,k,x,l,d,c,m,j,i,n⟩:=h;exact⟨r,k,x,l,g _ _ d j,g _ _ c i,g _ _ m n,s _ _ d j,s _ _ c i,s _ _ m n⟩
 |v,.lt sl e,h=>by
  unfold hZ at h ⊢;obtain⟨r,k,l,d,c,j,i⟩:=h;exact⟨r,k,l,g _ _ d j,g _ _ c i,s _ _ d j,s _ _ c i⟩
 |v,.say e,h=>by
  unfold hZ at h ⊢;obtain⟨r,k,l,d,c,j,i⟩:=h;exact⟨r,k,l,g _ _ d j,g _ _ c i,s _ _ d j,s _ _ c i⟩
 |v,.off e,h=>by
  unfold hZ at h ⊢;obtain⟨r,k,l,d,c,j,i⟩:=h;exact⟨r,k,l,g _ _ d j,g _ _ c i,s _ _ d j,s _ _ c i⟩
 |v,.iff e a b,h=>by
  unfold hZ at h ⊢;obtain⟨r,k,z,y,w,u,l,d,c,m,p,j,i,n,C,q,A⟩:=h;exact⟨r,k,z,y,w,u,l,g _ _ d j,g _ _ c i,g _ _ m n,g _ _ p q,s _ _ d j,s _ _ c i,s _ _ m n,ti.to_ g s a C,s _ _ p q,ti.to_ g s b A⟩
theorem ti.to_{F G:L->Prop}{H a:D}(g:∀b o,F b->H b=U o->G b)(s:∀b o,F b->H b=U o->a b=U o):∀ {vs:List V} (r:gV),ti F H vs r->ti G a vs r
 |vs,.nil,h=>by
  unfold ti at h ⊢;exact h
 |vs,.cons r rs,h=>by
  unfold ti at h ⊢;obtain⟨v,c,f,e,d⟩:=h;exact⟨v,c,f,hZ.to_ g s r e,ti.to_ g s rs d⟩
end
theorem hZ.to{F G:L->Prop}{H a:D}(r:Rw)(g:∀b o,F b->H b=U o->G b)(s:∀b o,F b->H b=U o->a b=U o)(h:hZ F H v r):hZ G a v r:=hZ.to_ g s r h
theorem ti.to{F G:L->Prop}{H a:D}(r:gV)(g:∀b o,F b->H b=U o->G b)(s:∀b o,F b->H b=U o->a b=U o)(h:ti F H vs r):ti G a vs r:=ti.to_ g s r h
theorem hZ.mono{F:L->Prop}{H a:D}(s:aL H a)(h:hZ F H v r):hZ F a v r:=h.to r (λ_ _ f _=>f) (λb o _ e=>s b o e)
theorem ti.mono{F:L->Prop}{H a:D}(s:aL H a)(h:ti F H vs r):ti F a vs r:=h.to r (λ_ _ f _=>f) (λb o _ e=>s b o e)
def RlAt(F:L->Prop)(H:D)(v:V)(r:gV):Prop:=∃a b,v=.ref a/\F a/\H a=U (.lst b)/\ti F H b r
theorem RlAt.to{F G:L->Prop}{H d:D}(g:∀b o,F b->H b=U o->G b)(s:∀b o,F b->H b=U o->d b=U o)(h:RlAt F H v r):RlAt G d v r:=by
 obtain⟨a,i,e,f,c,j⟩:=h;exact⟨a,i,e,g _ _ f c,s _ _ f c,ti.to r g s j⟩
abbrev Ks:L->Prop:=λ_=>True
theorem RlAt.any{F:L->Prop}{H:D}(h:RlAt F H v r):RlAt Ks H v r:=h.to (λ_ _ _ _=>trivial) λb o _ e=>e
mutual
def Zl:Rw->Prop
 |.take _ e _=>aY e
 |.give _ e f=>aY e/\aY f
 |.lt _ e=>aY e
 |.say e=>aY e
 |.off e=>aY e
 |.iff e a b=>aY e/\Yw a/\Yw b
def Yw:gV->Prop
 |.nil=>True
 |.cons r rs=>Zl r/\Yw rs
end
mutual
def Rw.deep:Rw->Nat
 |.iff _ a b=>max a.deep b.deep+1
 |_=>0
def gV.deep:gV->Nat
 |.nil=>0
 |.cons r rs=>max r.deep rs.deep
end
mutual
def Rw.cnt:Rw->Nat
 |.iff _ a b=>max a.cnt b.cnt+1
 |_=>1
def gV.cnt:gV->Nat
 |.nil=>0
 |.cons r rs=>r.cnt+rs.cnt
end
abbrev ItA(h:ax)(e d:L)(i n g:Nat)(c:af)(f:Bool)(b a:af):Prop :=
 h.get? e=U { cls:=.type "dict_itemiterator",dict:=am,data:=.fields #[c,.bool f,.ref d,.int i 0,.int n 0,.int g 0,b,a],slots:=#[] }
section
variable {P:av}{w:ay}{A:aw}{E:af->ah->Prop}{s:ah}
theorem zgi{Q:af->ah->Prop}(c:s.heap.IsItemsView v d)(h:tU s.heap d es ep) (q:Q (.ref s.heap.objs.size) { s with heap:=s.heap.push { cls:=.type "dict_itemiterator",data:=.fields #[.none,.bool aq,.ref d,.int 0 0,.int es.size 0,.int ep 0,.none,.none] } }):Bf (Bg P w) A (pyIter (.ref v)) Q E s:=by
 obtain⟨j,e,i,f⟩:=id c;obtain⟨o,g,k,a⟩:=id h;refine wpAny_pyIter_slot c.typeIs oq (cQ oq c.typeIs F.entry_dict_items_iter ?_ (F.args_dict_items_iter_1 _));unfold Builtin.«dict_items.__iter__»;refine ba (bg ?_);refine ba ?_;unfold Builtin.Dict_items.dictOf;refine ba (dO e f (x:=.ref d) Z (bg ?_));refine ba ?_;unfold Builtin.Dict_items.newIterator;refine ba (dG g a ?_);refine ba (gE g a ?_);have b:dW "dict_itemiterator"=ak:=by lia
 simp only[b,if_true];refine cX (bg ⟨_,Z,"dict_itemiterator",_,⟨_,bC _ Z,Z⟩,F.slot_dict_itemiterator_next.lookup,?_⟩) (by simp only[sizeOk,gX,bG,bx,bU,oE,bL];lia);simpa[rawInt,gX] using q
theorem zgj{Q:Option af->ah->Prop}(k:ItA s.heap it d i es.size ep o0 f ok ov)(hm:tU s.heap d es ep)(hx:es[i]?=U e) (ag:(o0=.none/\f=aq)\/∃(a:L) (oa:Obj),o0=rawInt (a:Nat)/\s.heap.get? a=U oa/\a≠it) (q:∀n M f1 k1 v1,ItA n it d (i+1) es.size ep M f1 k1 v1->((M=.none/\f1=aq)\/∃(a:L) (oa:Obj),M=rawInt (a:Nat)/\n.get? a=U oa/\a≠it)->n.get? s.heap.objs.size=U { cls:=.type "tuple",data:=.seq #[e.key,e.val] }->n.objs.size=s.heap.objs.size+1 ->
   (∀b o,b≠it->s.heap.get? b=U o->n.get? b=U o)->(∀a:L,M=rawInt (a:Nat)->a=s.heap.objs.size\/o0=rawInt (a:Nat))->Q (U (.ref s.heap.objs.size)) { s with heap:=n }):Bf (Bg P w) A (pyNext (.ref it)) Q E s:=by
 obtain⟨c,g,C,p,t⟩:=s;obtain⟨od,u,ai,v⟩:=id hm;have T:sU ⟨c,g,C,p,t⟩ (.ref it) "dict_itemiterator":=⟨_,k,Z⟩;unfold pyNext;refine ba (iE (cL (name:=bf "__next__") T eT (cQ eT T i8 ?_ (iR _))));refine ba (bg ?_);refine ba ?_;refine ba ?_
 first|(refine ba (eQ T (bg ?_)))|(refine ba (fK T (bg ?_)))
 refine ba (mL k Z ?_);have ae:dW "dict_itemiterator"=ak:=by lia
 simp only[ae,if_true];show Bf _ _ (if (bO d==cM)=ak then _ else _) _ _ _;rw[ao (show ¬ ((bO d==cM)=ak) from bK)];refine ba (bg ?_);refine ba (dG u v ?_);rw[ao (by simp)];refine ba (bg ?_);refine ba (gE u v ?_);rw[ao (by simp)];refine bg ?_;simp only[show ¬ ((i:Int)<0) from by lia,if_false,dR,hx];refine ba ?_
 first|(refine ba (eQ T (bg ?_)))|(refine ba (fK T (bg ?_)))
 refine ba (iK T ?_);show Bf _ _ (setField (.ref it) 3 (rawInt ((i:Int)+1)) >>= _) _ _ ⟨c,g,C,p,t⟩;refine ba (c8 k (by simp) λh₁ y r=>?_);replace r:cN it c h₁:=r;replace y:ItA h₁ it d (i+1) es.size ep o0 f ok ov:=by
  have z:((i+1:Nat):Int)=(i:Int)+1:=by lia
  unfold ItA;rw[z];simpa[rawInt] using y
 have T1:sU ⟨h₁,g,C,p,t⟩ (.ref it) "dict_itemiterator":=⟨_,y,Z⟩;refine ba (dF ?_);refine ba (iK T1 ?_);refine ba (iK T1 ?_);show Bf _ _ (iH (.ref it) 6 e.key e.val) _ _ ⟨h₁,g,C,p,t⟩;unfold iH;refine ba (pD ?_);have l:ItA (h₁.push { cls:=.type "tuple",data:=.seq #[e.key,e.val] }) it d (i+1) es.size ep o0 f ok ov:=bc _ y;generalize hg:h₁.push { cls:=.type "tuple",data:=.seq #[e.key,e.val] }=h₂ at l;have G:h₁.objs.size=c.objs.size:=r.1;have il:it<c.objs.size:=bI k;have t2:h₂.get? c.objs.size=U { cls:=.type "tuple",data:=.seq #[e.key,e.val] }:=by rw[<-hg,<-G];exact bC _ rfl
 have O:h₂.objs.size=c.objs.size+1:=by rw[<-hg,eV,G]
 have N:∀b o,b≠it->c.get? b=U o->h₂.get? b=U o:=λb o h z=>by rw[<-hg];exact bc _ (r.extBut b o h z)
 show Bf _ _ (gY (.ref it) >>= _) _ _ ⟨h₂,g,C,p,t⟩;rw[G];clear hg y r T1 G h₁;refine ba ?_;unfold gY;rcases ag with ⟨rfl,rfl⟩|⟨a,oa,rfl,ha,hai⟩
 .refine ba (dO l Z (x:=.none) Z (bg ?_));simp only[if_true];refine ba (dO l Z (x:=ok) Z ?_);refine ba (dO l Z (x:=ov) Z ?_);refine ba (c8 l (by simp) λh₃ m j=>?_);replace j:cN it h₂ h₃:=j;replace m:ItA h₃ it d (i+1) es.size ep .none aq e.key ov:=m;refine ba (c8 m (by simp) λh₄ e4 J=>?_);replace J:cN it h₃ h₄:=J;replace e4:ItA h₄ it d (i+1) es.size ep .none aq e.key e.val:=e4;refine ba (c8 e4 (by simp) λh₅ e5 I=>?_);replace I:cN it h₄ h₅:=I;replace e5:ItA h₅ it d (i+1) es.size ep (rawInt (c.objs.size:Nat)) aq e.key e.val:=e5;refine ba (c8 e5 (by simp) λh₆ e6 H=>?_);replace H:cN it h₅ h₆:=H;replace e6:ItA h₆ it d (i+1) es.size ep (rawInt (c.objs.size:Nat)) aq e.key e.val:=e6;have k6:∀b o,b≠it->h₂.get? b=U o->h₆.get? b=U o:=λb o h z=>H.extBut b o h (I.extBut b o h (J.extBut b o h (j.extBut b o h z)));have t6:=k6 _ _ (fA il) t2;refine ba (lU (bg (bg ⟨_,Z,bg (q h₆ _ _ _ _ e6 (.inr ⟨_,_,Z,t6,fA il⟩) t6 ?_ (λb o h z=>k6 b o h (N b o h z)) λa z=>?_)⟩)))
  .show h₆.objs.size=c.objs.size+1;rw[H.1,I.1,J.1,j.1,O]
  .refine .inl ?_;have z':(f7 (c.objs.size:Nat) 0:af)=f7 (a:Nat) 0:=z;have aa:((c.objs.size:Nat):Int)=((a:Nat):Int):=by injection z'
   exact(sV aa).symm
 .refine ba (dO l Z (x:=rawInt (a:Nat)) Z ?_);show Bf _ _ (loadIfAlive (((a:Nat):Int).toNat) >>= _) _ _ _;rw[dR];have a2:h₂.get? a=U oa:=N a oa hai ha;refine ba (W.kdx_alive a2 ?_);simp only[p8,cy,if_false];refine ba (dO l Z (x:=.bool f) Z ?_);cases f with
  |true =>
   rw[ao (show ¬ ((iM ak != iM ak)=ak) from bK)];refine bg ?_;simp only[cy,if_false];exact bg (bg ⟨_,Z,bg (q h₂ _ _ _ _ l (.inr ⟨_,_,Z,a2,hai⟩) t2 O N λa z=>.inr z)⟩)
  |false =>
   rw[au (show (iM aq != iM ak)=ak from rfl)];refine ba (c8 l (by simp) λh₃ m j=>?_);replace j:cN it h₂ h₃:=j;replace m:ItA h₃ it d (i+1) es.size ep (rawInt (a:Nat)) ak ok ov:=m;refine bg ?_;simp only[cy,if_false];exact bg (bg ⟨_,Z,bg (q h₃ _ _ _ _ m (.inr ⟨_,_,Z,j.extBut _ _ hai a2,hai⟩) (j.extBut _ _ (fA il) t2) (by show h₃.objs.size=_;rw[j.1,O]) (λb o h z=>j.extBut b o h (N b o h z)) λa z=>.inr z)⟩)
theorem zh7{Q:Option af->ah->Prop}(n:A.handled=am)(c:ItA s.heap it d i es.size ep o0 f ok ov)(l:tU s.heap d es ep)(k:es.size<=i) (q:∀j,sJ it s.heap j->Q am { s with heap:=j }):Bf (Bg P w) A (pyNext (.ref it)) Q E s:=by
 obtain⟨p,e,o,g⟩:=id l;have T:s.TypeIs (.ref it) "dict_itemiterator":=⟨_,c,Z⟩;unfold pyNext;refine ba (iE (cL (name:=bf "__next__") T eT (cQ eT T i8 ?_ (iR _))));refine ba (bg ?_);refine ba ?_;refine ba ?_
 first|(refine ba (eQ T (bg ?_)))|(refine ba (fK T (bg ?_)))
 refine ba (mL c Z ?_);have h:dW "dict_itemiterator"=ak:=by lia
 simp only[h,if_true];show Bf _ _ (if (bO d==cM)=ak then _ else _) _ _ s;rw[ao (show ¬ ((bO d==cM)=ak) from bK)];refine ba (bg ?_);refine ba (dG e g ?_);rw[ao (by simp)];refine ba (bg ?_);refine ba (gE e g ?_);rw[ao (by simp)];refine bg ?_;simp only[show ¬ ((i:Int)<0) from by lia,if_false,dR,iJ k];refine ba ?_
 first|(refine ba (eQ T (bg ?_)))|(refine ba (fK T (bg ?_)))
 show Bf _ _ (setField (.ref it) 2 .none >>= _) _ _ s;refine ba (iV c Z (by simp) ?_);show Bf _ _ (newExc (.type "StopIteration") [] >>= _) _ _ _;refine ba ?_;simp only[newExc,newTuple];refine ba (cX ?_ (by size_fits));refine ba (m:=firstArgMember _ _) (wpAny_of_eq (a:=cM) (by first|rfl|(simp only[firstArgMember];rfl)) ?_);refine cX ?_ (by size_fits);simp only[raiseNew];refine ba (pV ?_);rw[show A.in1.handled=am from n];refine ba (bg (wpAny_throw ?_));refine ba (nX (T:="StopIteration") (b:=ak) ⟨_,bC _ Z,Z⟩ pE ?_);exact bg (q _ (((de ..).extBut.push _).push _))
end
end L2
namespace L2
open PySem PySem.Spec PyProof.Rows
def Jm(r d:L):HO:=.ext λh=>h.IsItemsView r d
def zc4(c:TE):TE:=λb H Q=>c b H λx a=>∃d e,x=.ref d/\a d=U (.dT e)/\∀r,a r=am->Q (.ref r) (upd a r (Jm r d))
section
variable {X:Cx}{o:aB}{tj tG:Pos}{td:TE}
theorem zbJ(t:PE X o td)(g:attributeBase o "items" X.env (eval o X.env)=eval o X.env:=by rfl)(f:(tj.endLine==tG.line)=ak:=by rfl):PE X (.Call (.Attribute o "items" tj) [] [] tG) (zc4 td):=by
 intro E s m H Q I h;refine nF g f (aZ (t E s m H _ I h) ?_);rintro v c ⟨x,J,l,q,d,G,z,y,r⟩;subst z;obtain rfl:v=bO d:=q;obtain⟨j,p,n⟩:=Wl l (.inr ⟨G,.inl y⟩);refine⟨"dict","dict.items",dY,nO,PySem.F.type_dict_items,j,p,dv Z (pJ ?_)⟩;refine cQ nO j PySem.F.entry_dict_items ?_ (PySem.F.args_dict_items_1 _);unfold Builtin.«dict.items»;refine ba ?_;unfold Builtin.Dict.noArgs;refine ba (fH j ?_);show Bf _ _ (pure d) _ _ c;refine bg ?_;show Bf _ _ (gD d >>= _) _ _ c;unfold gD;rw[ao (by rw[n];exact bK)];refine ba (bg ?_);refine ba (cX (bg ⟨_,Z,?_⟩));have w:J c.heap.objs.size=am:=l.hok.fresh (bo _);have i:(c.heap.push { cls:=.type "dict_items",data:=.fields #[.ref d] }).get? c.heap.objs.size=U { cls:=.type "dict_items",data:=.fields #[.ref d] }:=bC _ rfl;refine⟨.ref c.heap.objs.size,_,l.laid (a:=c.heap.objs.size) (o:=Jm c.heap.objs.size d) (t':=c.toks) (λb u e=>bc _ e) (bo _) ?_,Z,r _ w⟩;exact⟨⟨_,i,Z,Z⟩,⟨_,i⟩,λN M ⟨o,C,A⟩ k=>⟨o,k o C,A⟩⟩
end
def Xo(H:D)(v:V)(a:List aW×V):Prop:=∃r p,v=.ref r/\H r=U (.tup [.ref p,a.2])/\H p=U (.tup (a.1.map kV))
theorem zbK{H f:D}(s:∀b a,H b=U (.tup a)->f b=U (.tup a)):∀ {c:List V} {d:List (List aW×V)},Paired (Xo H) c d->Paired (Xo f) c d
 |_,_,.nil=>.nil
 |_,_,.cons ⟨r,p,e,h1,h2⟩ t=>.cons ⟨r,p,e,s _ _ h1,s _ _ h2⟩ (zbK s t)
theorem zbL{H:D}{v:V}{q:List aW×V}:∀ {b:List V} {c:List (List aW×V)},Paired (Xo H) b c->Xo H v q->Paired (Xo H) (b++[v]) (c++[q])
 |_,_,.nil,h=>.cons h .nil
 |_,_,.cons a r,h=>.cons a (zbL r h)
section
variable {X:Cx}{A:aw}{R:aD->ah->Prop}
theorem zgk{σ:St}{H:D}{S it d:L}{c:List (List aW×V)}{es:Array DictEntry}{ep:Nat}{v:af}(hh:A.handled=am)(hS:H S=am)(hd:H d=U (.dT c))(O:S≠it)(ap:d≠it)(hz:c.length<=1000) (az:es.size=c.length) (aj:∀(i:Nat) (e:DictEntry) (kv:List aW×V),es[i]?=U e->c[i]?=U kv->∃p,e.key=.ref p/\H p=U (.tup (kv.1.map kV))/\aU kv.2 e.val) (fin:∀s' H' h,aP X aa σ H' s'->aL H H'->H' S=U (.lst h)->Paired (Xo H') h c->R (.ok (.ret v)) s') :
  ∀(k i:Nat) (s:ah) (g:D) (h:List V) (m ok ov:af) (f:Bool),c.length-i=k->i<=c.length->aP X aa σ g s->aL H g->g S=U (.lst h)->Paired (Xo g) h (c.take i)->tU s.heap d es ep->ItA s.heap it d i es.size ep m f ok ov ->
  ((m=.none/\f=aq)\/∃(a:L) (l:Obj),m=rawInt (a:Nat)/\s.heap.get? a=U l/\a≠it/\a≠S)->qY X aa g it ->
  codeAny (Bg X.prog X.w) A (.builtin "list.extend.loop" ⟨[.ref S,.ref it,v],[]⟩) R s:=by
 intro k;induction k with
 |zero =>
  intro i s g h m ok ov f hk hi I sm C w rd j q hf;have e:i=c.length:=by lia
  subst e;refine fm mM ?_;rw[dI eN _];show Bf _ A.in1 (pyNext (.ref it) >>= _) _ _ s;obtain⟨f0,f1,f2,f3,f4,f5⟩:=hf;refine ba (zh7 (A:=A.in1) hh j rd () λt eb=>?_);have I1:=I.turned (t':=s.toks) (λb o N e=>eb b o N e) f0 f1 f3 f4 f5;rw[cR] at w;exact bg (fin _ g h I1 sm C w)
 |succ k ih =>
  intro i s g h m ok ov f hk hi I sm C w rd j q hf;have G:i<c.length:=by lia
  have hx:es[i]?=U es[i]:=b8 ();have J:c[i]?=U c[i]:=bb G;obtain⟨p,ek,hp,rv⟩:=aj i _ _ hx J;refine fm mM ?_;rw[dI eN _];show Bf _ A.in1 (pyNext (.ref it) >>= _) _ _ s;obtain⟨f0,f1,f2,f3,f4,f5⟩:=id hf;have E:(m=.none/\f=aq)\/∃(a:L) (l:Obj),m=rawInt (a:Nat)/\s.heap.get? a=U l/\a≠it:=by
   rcases q with z|⟨a,l,z1,z2,z3,_⟩
   .exact .inl z
   .exact .inr ⟨a,l,z1,z2,z3⟩
  refine ba (zgj (A:=A.in1) j rd hx E λt o1 an k1 v1 M ai ht ar kp ag=>?_);have Sl:S<s.heap.objs.size:=by
   obtain⟨_,_,_,_,e⟩:=(show aV X.prog X.w g s.heap S (.lst h) from I.hok S _ C);exact bI e
  have tn:s.heap.objs.size≠it:=fA (bI j);have al:g s.heap.objs.size=am:=I.hok.fresh (bo _);have Q:S≠s.heap.objs.size:=bR Sl;generalize hT:s.heap.objs.size=T at *
  have I6:aP X aa σ (upd g T (.tup [.ref p,c[i].2])) { s with heap:=s.heap.push { cls:=.type "tuple",data:=.seq #[es[i].key,es[i].val] } } :=
   I.laid (a:=T) (o:=.tup [.ref p,c[i].2]) (t':=s.toks) (λb u e=>bc _ e) (by rw[hT];exact bo _) ⟨by show 2<=Bb;decide,[es[i].key,es[i].val],.cons (by rw[ek];exact rfl) (.cons rv .nil),⟨_,by rw[<-hT];exact bC _ Z,Z,_,Z⟩⟩
  have S6:aL g (upd g T (.tup [.ref p,c[i].2])):=tM T al;have I7:aP X aa σ (upd g T (.tup [.ref p,c[i].2])) { s with heap:=t }:=I6.turned (s:={ s with heap:=s.heap.push { cls:=.type "tuple",data:=.seq #[es[i].key,es[i].val] } }) (t':=s.toks) (λb o N e=>by
   rcases ph (show (s.heap.push { cls:=.type "tuple",data:=.seq #[es[i].key,es[i].val] }).get? b=U o from e) with ⟨rfl,rfl⟩|e
   .rw[hT];exact ht
   .exact kp b o N e) (by rw[zm (fq tn)];exact f0) f1 f3 f4 f5
  have y:(upd g T (.tup [.ref p,c[i].2])) S=U (.lst h):=S6 _ _ C;obtain⟨z,x,n,r,hl,e⟩:=I7.lstM y;have yl:h.length=i:=by
   have:=bE w;rw[cg] at this;lia
  show Bf _ A.in1 (updateSeq S (·.push (bO T)) >>= _) _ _ _;have e':t.get? S=U { cls:=.type "list",data:=.seq x.toArray n }:=e;refine ba (lY (s:={ s with heap:=t }) e' rfl ?_ (by rw[bG,<-r.length,yl];exact bM (by lia:i<=1000) ()) (by rw[Array.size_push,bG,<-r.length,yl];exact bM (by lia:i+1<=1001) ()));have I8:=I7.lset (f:=λxs=>xs.push (bO T)) (t':=s.toks) (its':=x++[bO T]) y e' (by simp) (r.append (.cons (show aU (.ref T) (.ref T) from rfl) .nil)) (by rw[bx,yl];exact bM (by show i+1<=1001;lia) ());have up:∀b o,b≠S->t.get? b=U o->(t.update S (dA (·.push (bO T)))).get? b=U o:=λb o N z=>(eD _ _ (fq N)).trans z;have dS:d≠S:=zF hd hS;have tS:∀b zs,g b=U (.tup zs)->(upd (upd g T (.tup [.ref p,c[i].2])) S (.lst (h++[.ref T]))) b=U (.tup zs):=λb zs z=>by
   rw[zm (zL z C (by intro z;cases z))];exact S6 _ _ z
  have ri:∀ {a b:Nat},(rawInt (a:Int):af)=rawInt (b:Int)->a=b:=λ{a b} z=>by
   have z':(f7 (a:Int) 0:af)=f7 (b:Int) 0:=z;have ae:(a:Int)=(b:Int):=by injection z'
   exact sV ae
  refine bg ⟨gK eN _,ih (i+1) _ _ (h++[.ref T]) o1 k1 v1 an (by rw[Nat.sub_add_eq,hk];rfl) G I8 (λb o z=>?_) zj ?_ (rd.at λo z=>up d o dS (kp d o ap z)) (up it _ (fq O) M) ?_ ⟨?_,f1,f2,f3,f4,f5⟩⟩
  .rw[zm (zF z hS)];exact S6 _ _ (sm _ _ z)
  .rw[cx,J];exact zbL (zbK tS w) ⟨T,p,Z,by rw[zm (fq Q),zj],tS _ _ (sm _ _ hp)⟩
  .rcases ai with z|⟨a,l,z1,z2,z3⟩
   .exact .inl z
   .have aS:a≠S:=by
     rcases ag a z1 with z|z
     .rw[z];exact fq Q
     .rcases q with ⟨y1,_⟩|⟨a',oa',y1,_,_,y4⟩
      .rw[y1] at z;cases z
      .rw[y1] at z;rw[<-ri z];exact y4
    exact .inr ⟨a,l,z1,up a _ aS z2,z3,aS⟩
  .rw[zm (fq O),zm (fq tn)];exact f0
end
abbrev ziX:RC:=λe H Q=>∃r d b,e=[.ref r]/\H r=U (Jm r d)/\H d=U (.dT b)/\b.length<=1000/\∀l c a,aL H a->H l=am->a l=U (.lst c)->Paired (Xo a) c b->Q (.ref l) a
theorem zh8{H:D}(k:uk P w H h)(e:H r=U (Jm r d)):h.IsItemsView r d:=(k r _ e).1
theorem zh9{H:D}:∀ {c:List (List aW×V)} {b:List (List aW×L×af)},Paired (λ(p:List aW×V) (q:List aW×L×af)=>p.1=q.1/\H q.2.1=U (.tup (p.1.map kV))/\aU p.2 q.2.2) c b->∀ {i:Nat} {a:List aW×V} {x:List aW×L×af},c[i]?=U a->b[i]?=U x->H x.2.1=U (.tup (a.1.map kV))/\aU a.2 x.2.2 :=
 λ{_ _} h {_ _ _} e d=>(yN h e d).2
section
variable {X:Cx}
theorem zc5{k:St}{H:D}{s:ah}{d:L}{f:List (List aW×V)}(I:aP X aa k H s)(e:H d=U (.dT f)):∃a g,tU s.heap d a g/\a.size=f.length /\
  ∀(i:Nat) (en:DictEntry) (c:List aW×V),a[i]?=U en->f[i]?=U c->∃p,en.key=.ref p/\H p=U (.tup (c.1.map kV))/\aU c.2 en.val:=by
 obtain⟨z,A,l,b,o,a,g,t,r,q,h,_⟩:=(show aV X.prog X.w H s.heap d (.dT f) from I.hok d _ e);have m:a.size=l.length:=by rw[<-cq,h,bd]
 refine⟨a,g,⟨o,t,r,q⟩,by rw[m,<-bE b],λi en c y w=>?_⟩;have j:a.toList[i]?=U en:=by rw[c9];exact y
 rw[h,bt] at j;obtain⟨x,n,rfl⟩:=bY.mp j;obtain⟨v,u⟩:=zh9 b w n;exact⟨x.2.1,Z,v,u⟩
theorem QA{A:aw}{R:aD->ah->Prop}{h:List (L×Obj)}{k:St}{H:D}{s:ah}{S r d:L}{j:List (List aW×V)}{res:af}{c:Nat}(hh:A.handled=am)(y:H S=am)(hr:H r=U (Jm r d))(hd:H d=U (.dT j))(hl:j.length<=1000) (w:aP X h k (upd H S (.lst [])) s) (T2:s.heap.get? S=U { cls:=.type "list",data:=.seq #[] c }) (z:∀a g ys,aP X h k g a->aL H g->g S=U (.lst ys)->Paired (Xo g) ys j->R (.ok (.ret res)) a) :
  Bf (Bg X.prog X.w) A.in1 (dD (.ref S) (.ref r) res) (λfin a=>match fin with|.done f=>R (.ok f) a|.again c'=>c'.quiet=ak/\codeAny (Bg X.prog X.w) A c' R a) (λe a=>R (.error e) a) s:=by
 have Sr:r≠S:=zF hr y;have Sd:d≠S:=zF hd y;have SS:aL H (upd H S (.lst [])):=tM S y;obtain⟨es,ep,M,O,t⟩:=zc5 w (SS _ _ hd);have Q:∀(i:Nat) (v:DictEntry) (n:List aW×V),es[i]?=U v->j[i]?=U n->∃p,v.key=.ref p/\H p=U (.tup (n.1.map kV))/\aU n.2 v.val:=λi v n e1 e2=>by
  obtain⟨p,g1,g2,g3⟩:=t i v n e1 e2;refine⟨p,g1,?_,g3⟩;by_cases hp:p=S
  .rw[hp,zj] at g2;cases g2
  .rwa [zm hp] at g2
 have G:=zh8 w.hok (SS _ _ hr);unfold dD;refine ba (rV (T:="dict_items") G.typeIs ?_);have c1:m3 (.ref S) (.ref r)=aq:=by simp[m3,fq Sr]
 have c2:(mQ "dict_items" == mQ "list")=aq:=by lia
 have c3:(mQ "dict_items" == mQ "tuple")=aq:=by lia
 simp only[c1,c2,c3,Bool.or_false,cy,if_false];refine ba (zgi G M ?_);have ni:(upd H S (.lst [])) s.heap.objs.size=am:=w.hok.fresh (bo _);have fp:qY X h (upd H S (.lst [])) s.heap.objs.size:=w.fpOk (bo _) ni;have Si:S≠s.heap.objs.size:=bR (bI T2);have di:d≠s.heap.objs.size:=bR M.lt;have I3:aP X h k (upd H S (.lst [])) { s with heap:=s.heap.push { cls:=.type "dict_itemiterator",data:=.fields #[.none,.bool aq,.ref d,.int 0 0,.int es.size 0,.int ep 0,.none,.none] } }:=w.kept (t':=s.toks) λb o e=>bc _ e;have T3:=bc { cls:=.type "dict_itemiterator",data:=.fields #[.none,.bool aq,.ref d,.int 0 0,.int es.size 0,.int ep 0,.none,.none] } T2;have q:ItA (s.heap.push { cls:=.type "dict_itemiterator",data:=.fields #[.none,.bool aq,.ref d,.int 0 0,.int es.size 0,.int ep 0,.none,.none] }) s.heap.objs.size d 0 es.size ep .none aq .none .none:=bC _ rfl;have l:tU (s.heap.push { cls:=.type "dict_itemiterator",data:=.fields #[.none,.bool aq,.ref d,.int 0 0,.int es.size 0,.int ep 0,.none,.none] }) d es ep:=M.at λo e=>bc _ e;have E:(s.heap.push { cls:=.type "dict_itemiterator",data:=.fields #[.none,.bool aq,.ref d,.int 0 0,.int es.size 0,.int ep 0,.none,.none] }).IsItemsView r d:=let ⟨o,ho,x⟩:=G;⟨o,bc _ ho,x⟩
 generalize hh3:s.heap.push { cls:=.type "dict_itemiterator",data:=.fields #[.none,.bool aq,.ref d,.int 0 0,.int es.size 0,.int ep 0,.none,.none] }=h3 at *
 generalize s.heap.objs.size=it at *
 refine ba (dF (W.kdx_hint E.typeIs ?_));have fin:∀(u:ax) (I:Nat) (R:aD->ah->Prop),(∀a g ys,aP X h k g a->aL H g->g S=U (.lst ys)->Paired (Xo g) ys j->R (.ok (.ret res)) a)->aP X h k (upd H S (.lst [])) { s with heap:=u,toks:=I }->tU u d es ep->ItA u it d 0 es.size ep .none aq .none .none ->
   codeAny (Bg X.prog X.w) A (.builtin "list.extend.loop" ⟨[.ref S,.ref it,res],[]⟩) R { s with heap:=u,toks:=I }:=λu I R z I4 J N =>
  zgk (A:=A) (H:=H) (es:=es) (ep:=ep) hh y hd Si di hl O Q z j.length 0 _ (upd H S (.lst [])) [] .none .none .none aq (rP _) (bS _) I4 SS zj .nil J N (.inl ⟨Z,Z⟩) fp
 refine wpAny_ite_split (λ_=>?_) (λ_=>bg ⟨gK eN _,fin h3 s.toks _ z I3 l q⟩);refine ba (lN ?_);refine ba ?_;show Bf _ _ (updateSeq S (·.push .none) >>= λ_=>updateSeq S (·.pop)) _ _ _;refine ba (lY T3 Z ?_);have T4:=eP (dA (·.push cM)) T3 rfl;refine lY (hz:=by seq_fits) T4 Z ?_;have I4:=I3.lset (f:=λC=>C.push cM) (its:=[]) (its':=[cM]) (ys:=[V.non]) (t':=s.toks) zj T3 Z (.cons Z .nil) (by show 1<=Bb;decide);have I5:=I4.lset (f:=λC=>C.pop) (its:=[cM]) (its':=[]) (ys:=[]) (t':=s.toks) zj T4 Z .nil (bS _);rw[VH,VH] at I5;have m:∀b o,b≠S->h3.get? b=U o->((h3.update S (dA (·.push cM))).update S (dA (·.pop))).get? b=U o:=λb o hb e=>(eD _ _ (fq hb)).trans ((eD _ _ (fq hb)).trans e);exact bg ⟨gK eN _,fin _ s.toks _ z I5 (l.at λo e=>m d o Sd e) (m it _ (fq Si) q)⟩
theorem Vn(y:X.calm=ak):jK X (.type "list") ziX:=by
 intro z s k H J M Q I n h;obtain⟨r,d,O,rfl,t,x,v,q⟩:=h;obtain⟨u,rfl,m⟩:=kI n;cases m;have w:X.A.handled=am:=I.ok.hd y;refine callType_codes (Q₁:=λb a=>b=.ref s.heap.objs.size/\a={ s with heap:=s.heap.push { cls:=.type "list",data:=.seq #[] } }) PySem.F.called_list (PySem.F.typeCall_list_1 _) PySem.F.entry_list_init (code_list_new _ ⟨rfl,rfl⟩) ?_;rintro b a ⟨rfl,rfl⟩;have g:H s.heap.objs.size=am:=I.hok.fresh (bo _);have E:aP X z k (upd H s.heap.objs.size (.lst [])) { s with heap:=s.heap.push { cls:=.type "list",data:=.seq #[] } }:=I.lnew (its:=[]) (t':=s.toks) .nil (bS _);have c:(s.heap.push { cls:=.type "list",data:=.seq #[] }).get? s.heap.objs.size=U { cls:=.type "list",data:=.seq #[] }:=bC _ rfl;generalize hT:s.heap.objs.size=S at *
 refine⟨⟨_,c,Z⟩,PySem.F.args_list_init_2 _ _,?_⟩;show Bf _ _ (do let e <-iL (.ref S);Builtin.List.listUpdate (.ref S) (λ_=>#[]);letGo e.toList.reverse;dD (.ref S) (.ref r) .none) _ _ _;refine ba ?_;unfold iL;refine ba (fI c Z (bg ?_));show Bf _ _ (updateSeq S (λ_=>#[]) >>= λ_=>letGo (#[]:Array af).toList.reverse >>= λ_=>dD (.ref S) (.ref r) .none) _ _ _;refine ba (lY c Z ?_);have i:=E.lset (f:=λ_=>(#[]:Array af)) (its:=[]) (its':=[]) (ys:=[]) (t':=s.toks) zj c Z .nil (bS _);rw[VH] at i;have C:=eP (dA (λ_=>(#[]:Array af))) c rfl;refine ba (lU ?_);generalize hh2:(s.heap.push { cls:=.type "list",data:=.seq #[] }).update S (dA (λ_=>(#[]:Array af)))=h2 at *
 exact QA (A:=X.A.in1) (H:=H) w g t x v i C λN j ys G l p o=>⟨Z,.ref S,j,G,Z,q S ys j l g p o⟩
end
end L2
namespace L2
open PySem PySem.Spec PyProof.Rows PySem.W
section
variable {X:Cx}
theorem zc6{E:af->ah->Prop}{R:List af->ah->Prop}{i:List (L×Obj)}{c:St}{H:D}{s:ah}{r d:L}{j:List (List aW×V)}(N:A.handled=am)(G:H r=U (Jm r d))(O:H d=U (.dT j))(M:j.length<=1000)(I:aP X i c H s) (h:∀w a b v,aP X i c a w->aL H a->Paired (Xo a) b j->aR b v->R v w):Bf (Bg X.prog X.w) A (collect (.ref r)) R E s:=by
 have Q:H s.heap.objs.size=am:=I.hok.fresh (bo _);have I1:aP X i c (upd H s.heap.objs.size (.lst [])) { s with heap:=s.heap.push { cls:=.type "list",data:=.seq ([]:List af).toArray } }:=I.lnew (its:=[]) (t':=s.toks) .nil (bS _);have T1:(s.heap.push { cls:=.type "list",data:=.seq ([]:List af).toArray }).get? s.heap.objs.size=U { cls:=.type "list",data:=.seq #[] }:=bC _ rfl;unfold collect;refine ba (wpAny_runValue (fm oY ?_));rw[dI lW _];show Bf _ A.in1 (newList [] >>= λl=>again (.builtin "list.__iadd__" ⟨[l,.ref r],[]⟩)) _ _ s;refine ba (cX ?_);refine bg ⟨gK fU _,fm entry_list_iadd' ?_⟩;rw[dI fU _];generalize s.heap.objs.size=S at *
 show Bf _ A.in1 (dD (.ref S) (.ref r) (.ref S)) _ _ _;have t:=QA (A:=A) (R:=λ(q:aD) (s':ah)=>∃a b,q=.ok (.ret (.ref S))/\aP X i c a s'/\aL H a/\a S=U (.lst b)/\Paired (Xo a) b j) (res:=.ref S) N Q G O M I1 T1 λs' a b k m u p=>⟨a,b,Z,k,m,u,p⟩;have fin:∀s':ah,(∃a b,aP X i c a s'/\aL H a/\a S=U (.lst b)/\Paired (Xo a) b j)->Bf (Bg X.prog X.w) A (load S >>= λo=>match o.data with|.seq xs _=>pure xs.toList|_=>unsupported "internal:collect") R E s':=λs' ⟨a,b,k,m,u,p⟩=>by
  obtain⟨z,its,n,C,J,e⟩:=k.lstM u;refine ba (oS e ?_);refine bg ?_;exact h s' a b its k m p C
 refine eG t (λf s' x=>?_) λe s' x=>?_
 .cases f with
  |done f =>
   obtain⟨a,b,e,x⟩:=x;cases e;exact fin s' ⟨a,b,x⟩
  |again c₁ =>
   refine⟨x.1,gA x.2 λq g y=>?_⟩;obtain⟨a,b,rfl,y⟩:=y;exact fin g ⟨a,b,y⟩
 .obtain⟨_,_,T,_⟩:=x;cases T
end
section
variable {P:av}{w:ay}{A:aw}{E:af->ah->Prop}{s:ah}
theorem zgl{a b:Str×Int}{Q:Bool->ah->Prop}(J:A.units<cLine)(I:uw s.heap (.ref x) a)(H:uw s.heap (.ref y) b)(h:Q (yv a b) s):Bf (Bg P w) A (oneLt' aq (.ref x) (.ref y)) Q E s:=by
 obtain⟨p,o,t,u,n,N,j,l,k⟩:=I;obtain⟨p2,C,v,r,G,M,d,f,e⟩:=H;cases N;cases M;obtain⟨c,O,T,z⟩:=o;obtain⟨c2,i,m,g⟩:=C;simp only at l k f e;subst l k f e;have q:s.TypeIs (.ref x) "tuple":=⟨_,j,Z⟩;have T2:s.TypeIs (.ref y) "tuple":=⟨_,d,Z⟩;refine kat_one _ _ ?_;show Bf _ _ (richCompare .Lt (.ref x) (.ref y)) _ _ _;refine wpAny_richCompare_same_room q T2 oM ?_ J;exact iP oM q PySem.F.entry_tuple_lt (PySem.F.args_tuple_lt_2 _ _) (Jj x y a.1 b.1 a.2 b.2 t u v r n G O i z g) ⟨j,d,by simp,h⟩
theorem zgm{a:Str×Int}(b:uw h (.ref x) a):IsTupleKey (yA P w) h (zB a) x:=by
 obtain⟨p,o,t,u,n,f,c,e,d⟩:=b;cases f;exact⟨o,_,n,c,e,d,Wj (ks:=zB a) (.cons ⟨t,Z⟩ (.cons ⟨u,Z⟩ .nil))⟩
def RvAt(h:ax)(v:af)(q:aO):Prop:=∃a o p t n,v=.ref a/\h.get? a=U o/\o.cls=.type "tuple"/\o.data=.seq #[.ref p,.int q.2 t] n/\uw h (.ref p) q.1
theorem RvAt.keep(x:RvAt h v q)(k:∀b o,h.get? b=U o->h'.get? b=U o):RvAt h' v q:=by
 obtain⟨a,o,p,t,n,e,d,g,f,c⟩:=x;exact⟨a,o,p,t,n,e,k _ _ d,g,f,c.keep k⟩
theorem zia{Q:Bool->ah->Prop}(g:A.units<cLine)(l:RvAt s.heap x a)(k:RvAt s.heap y b)(h:Q (yv a.1 b.1) s)(q:a.1≠b.1):Bf (Bg P w) A (keyLt' (tuples' aq) x y) Q E s:=by
 obtain⟨p,o,z,t,n,rfl,m,I,r,i⟩:=l;obtain⟨C,G,j,v,H,rfl,d,u,f,c⟩:=k;refine kat_lt m r d f (kat_cons (wpAny_eqBool_tuple (knd:=yA P w) g (zgm i) (zgm c) (kat_go (λe=>?_) λe=>kat_no ?_)))
 .exact absurd (yU (of_decide_eq_true e)) q
 .exact zgl g i c h
theorem zgn{b:List af}{qs:List aO}{Q:SortKind->ah->Prop}(f:b.length=qs.length)(c:∀(i:Nat) (v:af) (q:aO),b[i]?=U v->qs[i]?=U q->RvAt s.heap v q)(N:0<b.length)(h:Q (tuples' aq) s) :
  Bf (Bg P w) A (keyKind' b.toArray) Q E s:=by
 have T:∀(b:List af) (qs:List aO),b.length=qs.length->(∀(i:Nat) (v:af) (q:aO),b[i]?=U v->qs[i]?=U q->RvAt s.heap v q)->∃d,KatTups s.heap b d/\d.length=b.length/\∀v∈d,∃p o,v=bO p/\s.heap.get? p=U o/\o.cls=.type "tuple":=by
  intro b;induction b with
  |nil=>exact λqs _ _=>⟨[],trivial,Z,λ_ z=>nomatch z⟩
  |cons v r ih =>
   intro qs f c
   match qs,f with
   |q::qr,f =>
    obtain⟨d,k,l,kf⟩:=ih qr (by simpa using f) λi m u J I=>c (i+1) m u (by simpa using J) (by simpa using I);obtain⟨a,o,p,t,n,rfl,C,H,G,y⟩:=c 0 v q Z rfl;refine⟨.ref p::d,sZ C H G Z k,by simp[l],λz hz=>?_⟩;rcases bw.mp hz with rfl|hz
    .obtain⟨M,x,_,_,_,e,j,g,_⟩:=y;cases e;exact⟨_,x,Z,j,g⟩
    .exact kf z hz
 obtain⟨d,k,l,kf⟩:=T b qs f c;refine kat_kind (T:=.type "tuple") k () (λv c=>?_) () h;obtain⟨p,o,rfl,j,g⟩:=kf v c;exact g ▸ (sP j).andThen .now
theorem zaz{l:L}{κ:SortKind}{Q:af->ah->Prop}(G:List af->(Nat->Nat->Bool)->ah->Prop) (t:∀R:List af->ah->Prop,(∀d lt a,G d lt a->R d a)->Bf (Bg P w) A.in1 (collect (.ref l)) R E s) (x:∀d lt a,G d lt a->d.length<64/\SO lt d.length) (I:∀d lt a,G d lt a->2<=d.length->∀(h:ax) (Q:SortKind->ah->Prop),(∀b o,a.heap.get? b=U o->h.get? b=U o)->Q κ { a with heap:=h }->Bf (Bg P w) A.in1.in1 (keyKind' d.toArray) Q (λ_ _=>False) { a with heap:=h }) (N:∀d lt a,G d lt a->∀(h:ax) i j C,(∀b o,a.heap.get? b=U o->h.get? b=U o)->i<d.length->j<d.length->i≠j->C (lt i j) { a with heap:=h }->kas_ask P w A.in1.in1 κ d i j C { a with heap:=h }) (fin:∀d lt a,G d lt a->∀(f:ax) (p:Array Nat) (c:Nat),(∀b o,a.heap.get? b=U o->f.get? b=U o)->f.get? a.heap.objs.size=U (seqObj "list" (jt d p).toArray c)->PP d.length p->Yl lt p d.length->Q (.ref a.heap.objs.size) { a with heap:=f }) :
  Bf (Bg P w) A (call (.builtin "sorted") [.ref l]) Q E s:=by
 refine gU kind_sorted rR rS (rT _) ?_;unfold Builtin.«sorted»;refine ba (m:=checkCount "sorted" 1 1 _) (bg ?_);refine ba (t _ λd lt a g=>?_);obtain⟨u,S⟩:=x d lt a g;refine ba (nM ?_ (by rw[bL];lia));have r:(a.heap.push (seqObj "list" d.toArray 0)).get? a.heap.objs.size=U (seqObj "list" d.toArray 0):=bC _ rfl;have n:∀f,Kp a.heap.objs.size (a.heap.push (seqObj "list" d.toArray 0)) f->∀b o,a.heap.get? b=U o->f.get? b=U o:=λf k b o e=>k b o (bR (bI e)) (bc _ e);refine ba (dF (cQ pG ⟨_,r,Z⟩ oJ (Jf (s:={ a with heap:=a.heap.push (seqObj "list" d.toArray 0) }) r u (κ:=κ) (lt:=lt) (λO f T k q=>?_) (λf i j C k M J v q=>?_) S λf p c k H z y=>?_) (pH _)))
 .exact I d lt a g O f T (n f k) q
 .exact N d lt a g f i j C (n f k) M J v q
 .exact⟨_,Z,bg ⟨_,Z,fin d lt a g f p c (n f k) H z y⟩⟩
end
def d0:aO:=(("",0),0)
theorem zjy(aK:List aO):∃a:List aO,tF aK=a.map (λq=>(zB q.1,V.int q.2))/\(a.map (·.1)).Nodup/\∀p w,(p,w)∈a↔zC aK p=U w:=by
 have h:=kP aK;have:∀(d:List (List aW×V)),(∀kv∈d,∃(p:Pl) (w:Int),kv=(zB p,.int w))->∃a:List aO,d=a.map (λq=>(zB q.1,V.int q.2)):=λd=>by
  induction d with
  |nil=>exact λ_=>⟨[],Z⟩
  |cons kv r ih =>
   intro k;obtain⟨l,e⟩:=ih λz n=>k z (bp _ n);obtain⟨p,w,j⟩:=k kv br;exact⟨(p,w)::l,by rw[bh,<-e,j]⟩
 obtain⟨a,e⟩:=this _ h.2;refine⟨a,e,?_,λp w=>?_⟩
 .have:=h.1;rw[e,dJ] at this;refine xH (f:=zB) ?_;rw[dJ];exact this
 .have m:=uu (aK:=aK) (kv:=(zB p,V.int w));constructor
  .intro c;obtain⟨u,t,b,j⟩:=m.mp (by rw[e];exact bD.mpr ⟨_,c,Z⟩);have i:=yU (pN b).1;have g:=V.int.inj (pN b).2;rw[i,g];exact j
  .intro o;have c:=m.mpr ⟨p,w,Z,o⟩;rw[e] at c;obtain⟨q,s,b⟩:=bD.mp c;have i:=yU (pN b).1;have g:=V.int.inj (pN b).2;rw[<-i,<-g];exact s
theorem zc7{a:Type}(l:List a)(d:a):(eE l.length).map (λi=>l.getD i d)=l:=by
 apply dU;intro i;rw[bt];by_cases hi:i<l.length
 .rw[eL hi,bb hi];simp[bF,bb hi]
 .rw[b6 (by simpa using hi),b6 ()];rfl
theorem PP.list(h:PP n p):p.toList.Perm (eE n):=by
 have:=gO.mp h;simpa using this
theorem PP.lt(h:PP n p):∀i∈p.toList,i<n:=λi a=>by
 have:=h.list.mem_iff.mp a;simpa using this
theorem zc8{c:Type}{F:c->c->Bool}{l:List c}{d:c}{n:Nat}(s:PP n p)(q:Yl (λi j=>F (l.getD i d) (l.getD j d)) p n):(p.toList.map λi=>l.getD i d).Pairwise λa b=>F a b=ak:=by
 rw[gL,fJ];intro i j g e f;rw[cq] at g e;have k:=kO g;have h:=kO e;have t:=s.size;have r:=q i j f ();have o:p.toList[i]=gt p i:=by
  rw[b8 g] at k;simpa using k
 have m:p.toList[j]=gt p j:=by
  rw[b8 e] at h;simpa using h
 rw[o,m];exact r
theorem Zm{f e:Type}{F:f->e->Prop}{d:List f}{c:List e}(h:Paired F d c)(a:f)(b:e):∀ {is:List Nat},(∀i∈is,i<d.length)->Paired F (is.map λi=>d.getD i a) (is.map λi=>c.getD i b)
 |[],_=>.nil
 |i::r,hi=>by
  have l:=bE h;have n:=hi i br;refine .cons ?_ (Zm h a b λj m=>hi j (bp _ m));show F (d.getD i a) (c.getD i b);have k:=bb n;have g:c[i]?=U c[i]:=bb ();rw[bF,bF,k,g];exact yN h k g
abbrev ziY:RC:=λf H Q=>∃r d c,f=[.ref r]/\H r=U (Jm r d)/\H d=U (.dT (tF c))/\(tF c).length<64 /\
 ∀l e a b,aL H b->H l=am->b l=U (.lst e)->Paired (PrAt b) e a->tT a->(∀p w,(p,w)∈a↔zC c p=U w)->Q (.ref l) b
theorem zgo{H:D}:∀ {c:List V} {b:List aO},Paired (Xo H) c (b.map λq=>(zB q.1,V.int q.2))->Paired (PrAt H) c b
 |_,[],h=>by cases h;exact .nil
 |_,q::r,h=>by
  rw[bh] at h;cases h with
  |cons a t=>exact .cons a (zgo t)
section
variable {X:Cx}
theorem zkt{b:St}{H:D}{s:ah}{v:V}{u:af}{q:aO}(I:aP X aa b H s)(h:PrAt H v q)(r:aU v u):RvAt s.heap u q:=by
 obtain⟨a,p,rfl,j,i⟩:=h;cases r;obtain⟨_,g,c,o,f,e,n,d⟩:=(show aV X.prog X.w H s.heap a (.tup [.ref p,.int q.2]) from I.hok a _ j);cases c with
 |cons r1 rr =>
  cases rr with
  |cons r2 rn =>
   cases rn;cases r1;obtain⟨t,rfl⟩:=r2;exact⟨a,o,p,t,n,Z,f,e,d,zbB I i⟩
theorem Xp(hc:X.calm=ak)(hu:X.A.units+3<cLine):jK X (.builtin "sorted") ziY:=by
 intro aa s σ H l N Q I r0 h;obtain⟨r,d,aK,rfl,hr,hd,an,q⟩:=h;obtain⟨u,rfl,ru⟩:=kI r0;cases ru;have hh:X.A.handled=am:=I.ok.hd hc;obtain⟨its,ei,nd,mi⟩:=zjy aK;have li:(tF aK).length=its.length:=by rw[ei,bd]
 have so:=Jg nd;have J:∀ {b:ah} {f:D} {g:List V} {l:List af},aP X aa σ f b->Paired (PrAt f) g its->aR g l->∀(i:Nat) (q:aO),its[i]?=U q->∃v,l[i]?=U v/\RvAt b.heap v q:=λ{b f g l} x m n i q hq=>by
  have G:=(bq.mp hq).1;have l1:=bE m;obtain⟨y,hy⟩:∃y,g[i]?=U y:=⟨_,bb ()⟩;obtain⟨u,ai,ru⟩:=n.get hy;exact⟨u,ai,zkt x (yN m hy hq) ru⟩
 refine zaz (κ:=tuples' aq) (λl T b=>∃f g,aP X aa σ f b/\aL H f/\Paired (PrAt f) g its/\aR g l/\T=λi j=>yv ((its.map (·.1)).getD i (("",0):Pl)) ((its.map (·.1)).getD j (("",0):Pl)))
  (λR hR=>zc6 (A:=X.A.in1) hh hr hd () I λb f g N x M m n=>hR N _ b ⟨f,g,x,M,zgo (by rw[<-ei];exact m),n,Z⟩) ?_ ?_ ?_ ?_
 .rintro l T b ⟨f,g,x,M,m,n,rfl⟩;have l1:=bE m;have l2:=n.length;refine⟨(),?_⟩;rw[show l.length=(its.map (·.1)).length by rw[bd];lia];exact so
 .rintro l T b ⟨f,g,x,M,m,n,rfl⟩ h2 h Q' k q';have l1:=bE m;have l2:=n.length;refine zgn (s:={ b with heap:=h }) (qs:=its) () (λi v q hv hq=>?_) () q';obtain⟨v',ag,rr⟩:=J x m n i q hq;rw[hv] at ag;cases ag;exact rr.keep k
 .rintro l T b ⟨f,g,x,M,m,n,rfl⟩ h i j C k G hj al q';have l1:=bE m;have l2:=n.length;have e1:its[i]?=U its[i]:=bb ();have e2:its[j]?=U its[j]:=bb ();obtain⟨v1,g1,r1⟩:=J x m n i _ e1;obtain⟨v2,g2,r2⟩:=J x m n j _ e2;have n1:(its.map (·.1)).getD i (("",0):Pl)=its[i].1:=by rw[bF,bt,e1];rfl
  have n2:(its.map (·.1)).getD j (("",0):Pl)=its[j].1:=by rw[bF,bt,e2];rfl
  have m1:l.getD i cM=v1:=by rw[bF,g1];rfl
  have m2:l.getD j cM=v2:=by rw[bF,g2];rfl
  simp only[n1,n2] at q';have ae:=zia (P:=X.prog) (w:=X.w) (A:=X.A.in1.in1) (E:=λ_ _=>False) (s:={ b with heap:=h }) (Q:=C) (by have e:X.A.in1.in1.units=X.A.units+2:=rfl;lia) (r1.keep k) (r2.keep k) q' λz=>al (by
   have e3:(its.map (·.1))[i]?=U its[i].1:=by rw[bt,e1];rfl
   have e4:(its.map (·.1))[j]?=U its[j].1:=by rw[bt,e2];rfl
   rw[z] at e3;exact(gM (by rw[bd];lia) nd).mp (e3.trans e4.symm))
  rw[<-m1,<-m2] at ae;exact ae
 .rintro l T b ⟨f,g,x,M,m,n,rfl⟩ h' p c k hD hp hr;have l1:=bE m;have l2:=n.length;have t:PP its.length p:=by rw[show its.length=l.length by lia];exact hp
  have fr:f b.heap.objs.size=am:=x.hok.fresh (bo _);have sz:=t.size;have pk:=Zm m V.non d0 (is:=p.toList) λi G=>by have:=t.lt i G;lia
  have vk:aR (p.toList.map λi=>g.getD i V.non) (jt l p):=Zm n V.non cM (is:=p.toList) λi G=>by have:=t.lt i G;lia
  have I2:aP X aa σ (upd f b.heap.objs.size (.lst (p.toList.map λi=>g.getD i V.non))) { b with heap:=h' }:=x.laid (a:=b.heap.objs.size) (o:=.lst (p.toList.map λi=>g.getD i V.non)) (t':=b.toks) k (bo _)
   ⟨by rw[bd,cq];exact bM (by lia:_<=64) (),jt l p,c,vk,hD⟩
  have S2:aL f (upd f b.heap.objs.size (.lst (p.toList.map λi=>g.getD i V.non))):=tM _ fr;have hn:H b.heap.objs.size=am:=by
   cases e:H b.heap.objs.size with
   |none=>rfl
   |some o=>rw[M _ _ e] at fr;cases fr
  have O:∀ {N:List V} {ws:List aO},Paired (PrAt f) N ws->Paired (PrAt (upd f b.heap.objs.size (.lst (p.toList.map λi=>g.getD i V.non)))) N ws:=λ{N ws} h=>by
   induction h with
   |nil=>exact .nil
   |cons a _ ih =>
    obtain⟨r,p,e,h1,h2⟩:=a;exact .cons ⟨r,p,e,S2 _ _ h1,S2 _ _ h2⟩ ih
  refine⟨.ref b.heap.objs.size,_,I2,Z,q _ _ (p.toList.map λi=>its.getD i d0) _ (M.trans S2) hn zj (O pk) ?_ λpl wv=>?_⟩
  .have aj:Yl (λi j=>yv ((its.map (·.1)).getD i (("",0):Pl)) ((its.map (·.1)).getD j (("",0):Pl))) p its.length:=by rw[show its.length=l.length by lia];exact hr
   have pw:=zc8 (F:=yv) t aj;have eq:(p.toList.map λi=>its.getD i d0).map (·.1)=p.toList.map λi=>(its.map (·.1)).getD i (("",0):Pl):=by
    rw[dJ];refine dC λi G=>?_;have G:=t.lt i G;simp[bF,bt,bb G]
   rw[<-eq,gL] at pw;exact pw
  .have pm:(p.toList.map λi=>its.getD i d0).Perm its:=by
    refine(t.list.map _).trans ?_;rw[zc7]
   rw[pm.mem_iff];exact mi pl wv
end
end L2
namespace L2
open PySem PySem.Spec PyProof.Rows
end L2
namespace L2
open PySem
structure StOk(n:Nat)(s:Sta):Prop where
 so:xn s.sl
 wo:∀r∈s.wo,tK r.2=ak
 l1:s.sl.length<=n
 l2:s.wo.length<=n
 l3:s.sa.length<=n
theorem StOk.mono(h:StOk n s)(l:n<=m):StOk m s:=⟨h.so,h.wo,bM h.l1 l,bM h.l2 l,bM h.l3 l⟩
theorem QB(h:xn aJ)(k:aW){i:Int}(b:tK i=ak):xn (yS aJ k (.int i)):=λa v e=>by
 rw[V2] at e;by_cases c:a=k
 .rw[au c] at e;exact⟨i,(bH e).symm,b⟩
 .rw[ao c] at e;exact h a v e
theorem xz{P:aO->Prop}{p:Pl}{w:Int}:∀ {l:List aO},(∀r∈l,P r)->zC l p=U w->P (p,w)
 |[],_,h=>by cases h
 |r::t,hp,h=>by
  rw[zC] at h;cases e:zC t p with
  |some w' =>
   rw[e] at h;have:w'=w:=by simpa using h
   subst this;exact xz (λr a=>hp r (bp _ a)) e
  |none =>
   rw[e] at h;by_cases c:r.1=p
   .rw[au c] at h;have:r.2=w:=by simpa using h
    rw[<-c,<-this];exact hp r br
   .rw[ao c] at h;cases h
theorem zgp(h:∀r∈l,tK r.2=ak)(p:Pl):tK ((zC l p).getD 0)=ak:=by
 cases e:zC l p with
 |none=>rfl
 |some w=>exact xz (P:=λr=>tK r.2=ak) h e
mutual
def zkR(P:Pl->Prop):Rw->Prop
 |.give sh e _=>∀c n,rk c e=.ok n->P (sh,n)
 |.iff _ a b=>zgq P a/\zgq P b
 |_=>True
def zgq(P:Pl->Prop):gV->Prop
 |.nil=>True
 |.cons r rs=>zkR P r/\zgq P rs
end
inductive Oc where
 |done (sa:List Int)
 |off (why:Str)
def zbM:Er->Str
 |.great=>"great"
 |_=>"nought"
def WP:V->PyData
 |.int i=>.int i
 |.str x=>.str x
 |_=>.none
def plV(v:V):Prop:=(∃i,v=.int i)\/∃x,v=.str x/\cS x=ak
def Jn(e:List V):PyData:=.tuple (e.map WP)
mutual
def rwD:Rw->PyData
 |.take sh e sl=>.tuple [.str "take",.str sh,Jn e,.str sl]
 |.give sh e f=>.tuple [.str "give",.str sh,Jn e,Jn f]
 |.lt sl e=>.tuple [.str "let",.str sl,Jn e]
 |.say e=>.tuple [.str "say",Jn e]
 |.off e=>.tuple [.str "off",Jn e]
 |.iff e a b=>.tuple [.str "if",Jn e,.list (zjB a),.list (zjB b)]
def zjB:gV->List PyData
 |.nil=>[]
 |.cons r rs=>rwD r::zjB rs
end
def tmP(e:List V):Prop:=∀v∈e,plV v
mutual
def Jo:Rw->Prop
 |.take sh e sl=>cS sh=ak/\tmP e/\cS sl=ak
 |.give sh e f=>cS sh=ak/\tmP e/\tmP f
 |.lt sl e=>cS sl=ak/\tmP e
 |.say e=>tmP e
 |.off e=>tmP e
 |.iff e a b=>tmP e/\Zn a/\Zn b
def Zn:gV->Prop
 |.nil=>True
 |.cons r rs=>Jo r/\Zn rs
end
section
variable {K:bA}{H:D}{F:L->Prop}
end
def gV.snoc:gV->Rw->gV
 |.nil,x=>.cons x .nil
 |.cons r rs,x=>.cons r (rs.snoc x)
def gV.app:gV->gV->gV
 |.nil,x=>x
 |.cons r rs,x=>.cons r (rs.app x)
theorem ti.get{F:L->Prop}{H:D}:∀ {r:gV} {a:List V} {i:Nat} {v:V},ti F H (a.drop i) r->a[i]?=U v->∃x b,r=.cons x b/\hZ F H v x/\ti F H (a.drop (i+1)) b
 |.nil,a,i,v,h,e=>by
  unfold ti at h;have:=(bq.mp e).1;have:=congrArg fT h;rw[cW] at this;simp at this;lia
 |.cons x b,a,i,v,h,e=>by
  unfold ti at h;obtain⟨u,l,k,j,g⟩:=h;have c:=(bq.mp e).1;have d:=gW c;rw[k] at d;have f:a[i]=v:=(bq.mp e).2;rw[f] at d;injection d with d1 d2;subst d1 d2;exact⟨x,b,Z,j,g⟩
theorem ti.none{F:L->Prop}{H:D}{a:List V}(h:ti F H (a.drop a.length) r):r=.nil:=by
 rw[sg] at h;cases r with
 |nil=>rfl
 |cons x rs =>
  unfold ti at h;obtain⟨_,_,e,_⟩:=h;cases e
theorem zgs(h:qo v)(j:isJ v=aq):aY [v]:=
 ⟨λb=>⟨_,zeK j⟩,λu a=>by rw[bn.mp a];exact h,by simp⟩
theorem Paired.snocP{d c:Type}{F:d->c->Prop}{x:d}{y:c}:∀ {a:List d} {b:List c},Paired F a b->F x y->Paired F (a++[x]) (b++[y])
 |_,_,.nil,h=>.cons h .nil
 |_,_,.cons a r,h=>.cons a (Paired.snocP r h)
theorem Paired.getP{c d:Type}{F:c->d->Prop}{a:List c}{b:List d}{i:Nat}{x:c}(h:Paired F a b)(e:a[i]?=U x):∃y,b[i]?=U y/\F x y:=by
 have f:=(bq.mp e).1;have l:=bE h;exact⟨b[i],bb (),yN h e (bb ())⟩
end L2
namespace L2
open PySem PySem.Spec PyProof.Rows
section
variable {prog:av}{w:ay}{A:aw}{E:af->ah->Prop}{s:ah}
theorem zbO{l:L}{items:Array af}{n:Nat}{k:Int}{t:Tok}{v:af}{Q:Unit->ah->Prop}(c:s.heap.get? l=U { cls:=.type "list",data:=.seq items n }) (e:k<0) (m:-(items.size:Int)<=k) (a:-(2^63)<=k) (g:Q PUnit.unit { s with heap:=s.heap.update l (dA (·.setIfInBounds (k+items.size).toNat v)) }) :
  Bf (Bg prog w) A (setItem (.ref l) (.int k t) v) Q E s:=by
 have d:s.heap.IsList l items:=⟨_,c,Z,n,Z⟩;unfold setItem
 try with_reducible refine dF ?_
 first|refine ba (bg ?_)|skip
 refine ba (wpAny_sequenceKey d.typeIs () ?_);refine ba (cL (name:=bf "__setitem__") d.typeIs iS
  (cQ iS d.typeIs entry_list_setitem ?_ (args_list_setitem _ _ _)))
 show Bf _ _ (lZ (.int k t) >>= _) _ _ s;refine ba (nP (fitsIndex_neg e a) ?_);clear a;have b:=rN e m;have h:items[(k+items.size).toNat]?=U (items[(k+items.size).toNat]'()):=b8 ();obtain⟨j,rfl⟩:∃j:Nat,k=Int.negSucc j:=by
  cases k with
  |ofNat n=>exact absurd e (sQ.mpr (Int.ofNat_nonneg n))
  |negSucc n=>exact⟨n,Z⟩
 show Bf _ _ ((iL (.ref l) >>= λf=>pure ((seqIndex? (Int.negSucc j) f.size).bind λi=>f[i]?.map (i,·))) >>= _) _ _ s;refine ba (ba ?_);show Bf _ _ (seqItems? (.ref l) >>= _) _ _ s;refine ba (fI c Z (bg (bg ?_)));rw[b];simp only[Option.bind_some,h,iA];refine ba (wpAny_setSeqItemAt c Z ?_)
 first
  |exact ba (bg (bg ⟨.none,rfl,bg g⟩))
  |exact bg ⟨.none,rfl,bg g⟩
theorem zbP{l:L}{items:Array af}{n j:Nat}{k:Int}{t:Tok}{v:af}{Q:Unit->ah->Prop}(e:s.heap.get? l=U { cls:=.type "list",data:=.seq items n }) (h:0<=k) (a:k<2^63) (b:k.toNat=j) (i:j<items.size) (g:Q PUnit.unit { s with heap:=s.heap.update l (dA (·.setIfInBounds j v)) }) :
  Bf (Bg prog w) A (setItem (.ref l) (.int k t) v) Q E s:=by
 have f:s.heap.IsList l items:=⟨_,e,Z,n,Z⟩;unfold setItem
 try with_reducible refine dF ?_
 first|refine ba (bg ?_)|skip
 refine ba (wpAny_sequenceKey f.typeIs () ?_);refine ba (cL (name:=bf "__setitem__") f.typeIs iS
  (cQ iS f.typeIs entry_list_setitem ?_ (args_list_setitem _ _ _)))
 show Bf _ _ (lZ (.int k t) >>= _) _ _ s;refine ba (nP (fitsIndex_of h a) ?_);clear a;obtain⟨c,rfl⟩:=fV h;have b:c=j:=b;subst b;have d:items[c]?=U items[c]:=b8 i;show Bf _ _ ((seqItemAt l c >>= λr=>pure (r.map (c,·))) >>= _) _ _ s;refine ba (ba (wpAny_seqItemAt e Z (bg ?_)));rw[d];refine ba (wpAny_setSeqItemAt e Z ?_)
 first
  |exact ba (bg (bg ⟨.none,rfl,bg g⟩))
  |exact bg ⟨.none,rfl,bg g⟩
end
def zdW(g e f:TE):TS:=λl b H=>f b H λv k=>g b k λx h=>e b h λy d=>∃a c i j,x=.ref a/\y=.int i/\d a=U (.lst c)/\ixN c.length i=U j/\(-1000<=i/\i<=1000)/\l.nx b (upd d a (.lst (c.set j v)))
theorem zbQ{v:V}{u:af}(r:aU v u):∀ {b:List V} {c:List af},aR b c->∀j:Nat,aR (b.set j v) (c.set j u)
 |_,_,.nil,_=>.nil
 |_,_,.cons _ t,0=>.cons r t
 |_,_,.cons a t,j+1=>.cons a (zbQ r t j)
section
variable {X:Cx}{o i value:aB}{pos pos':Pos}{td ty tv:TE}
theorem zaA(T:PE X o td)(hi:PE X i ty)(O:PE X value tv)(Q:swapsWith value (U (.Subscript o i pos')) pos.line X.env=pure aq) :
  PS X (.Assign [.Subscript o i pos'] value pos) (zdW td ty tv):=by
 intro d s c H Bq I h;refine om (aZ (O d s c H _ I h) λr w ⟨v,H1,I1,E,N⟩=>aZ (T d w c H1 _ I1 N) λu q ⟨x,H2,I2,C,M⟩=>aZ (hi d q c H2 _ I2 M) ?_) Q;rintro iv f ⟨y,H3,p,A,a,xs,k,j,ex,ey,m,b,hk,J⟩;subst ex ey;obtain rfl:u=bO a:=C;obtain⟨t,rfl⟩:=A;obtain⟨z,g,n,G,l,e⟩:=p.lstM m;have fin:SP X d Bq .next { f with heap:=f.heap.update a (dA (·.setIfInBounds j r)) }:=⟨c,_,p.lset (its':=g.set j r) (t':=f.toks) m e (by simp) (zbQ E G _) (by rw[gH];exact z),J⟩
 unfold ixN at b;by_cases h0:0<=k
 .rw[au h0] at b;split at b
  .rename_i h1;cases b;exact zbP e h0 () Z (by rw[bG,<-l];lia) fin
  .cases b
 .rw[ao h0] at b;split at b
  .rename_i h1;cases b;refine zbO e () (by rw[bG,<-l];exact h1) () ?_;rw[bG,<-l];exact fin
  .cases b
end
def ziZ(K:bA)(f:TA):TI:=λd H R=>f d H λe a=>∃p q c b,e=[.ref p,.ref q]/\c.length=b.length/\((aT K a p c/\aT K a q b/\R (zgc K p q c b) a)\/(tI K a p c/\tI K a q b/\R (Itz K p q c b) a))
section
variable {X:Cx}
theorem zib{v:List aB}{x1}{tp:Pos}{z w:aB}{O:TA}{p m:Pos}(hg:Gl X "zip")(hm:X.mg "zip"=am)(ha:PA X [z,w] O)(he:Be [z,w] X.env=(aq,eval z X.env)::Be [w] X.env:=by rfl)(G:(backTo m (Be [w] X.env)).any (·.1)=aq:=by rfl) :
  PI X (.Tuple v x1 tp) (.Call (.Name "zip" p) [z,w] [] m) (ziZ X.K O):=by
 intro aa s σ H R I h;refine Call_ (VU I hg hm zjr (gu (aZ (ha m aa s σ H _ I h) ?_) he G));rintro us f ⟨vs,H1,i,A,q1⟩;obtain⟨a,b,xs,ys,e,T,q0⟩:=q1;subst e;obtain⟨u1,u2,rfl,ra,rb⟩:=ziP A;cases ra;cases rb;have d:∀ {x y:Nat},x≠y->(show L from x)≠(show L from y):=λh=>h;rcases q0 with ⟨h1,h2,q⟩|⟨h1,h2,q⟩
 .obtain⟨r,A,u,_⟩:=i.list h1;obtain⟨o,r2,t,_⟩:=i.list h2;have E:a<f.heap.objs.size:=by obtain⟨_,_,e,_⟩:=u;exact bI e
  have C:b<f.heap.objs.size:=by obtain⟨_,_,e,_⟩:=t;exact bI e
  refine call_zip_2 u.isList t.isList λJ N a0 b0 i0 j0 _ k=>?_;refine lE (s:={ f with heap:=J }) N ?_;generalize hn:f.heap.objs.size=n at *
  have l:∀k:Nat,(show Nat from a)≠n+k:=λk=>bR (bV E (eC _ _));have j:∀k:Nat,(show Nat from b)≠n+k:=λk=>bR (bV C (eC _ _));have M:ZipApart (n+4) (n+2) (n+3) n (n+1) a b:=⟨d (),d (),d (),d (),d (),d (),d (),d (),d (),d (),l 4,l 3,l 0,l 1,j 4,j 3,j 0,j 1⟩;refine⟨_,_,_,_,H1,Z,i.kept (t':=f.toks) k,zeR M T,⟨N,a0,⟨_,_,b0⟩,i0,j0⟩,λc g=>?_,q⟩;simp only[bw,cC,or_false] at g;have g:n<=c:=by rcases g with rfl|rfl|rfl|rfl|rfl <;> first|exact eC _ _|exact bo _
  exact i.fpOk (by rw[hn];exact g) (i.hok.fresh (by rw[hn];exact g))
 .obtain⟨r,A,u,_⟩:=i.tuple h1;obtain⟨o,r2,t,_⟩:=i.tuple h2;have E:a<f.heap.objs.size:=by obtain⟨_,e,_⟩:=u;exact bI e
  have C:b<f.heap.objs.size:=by obtain⟨_,e,_⟩:=t;exact bI e
  refine zeO (show f.heap.IsTuple a r.toArray from u) (show f.heap.IsTuple b o.toArray from t) λJ Q k=>?_;refine lE (s:={ f with heap:=J }) Q.1 ?_;generalize hn:f.heap.objs.size=n at *
  have l:∀k:Nat,(show Nat from a)≠n+k:=λk=>bR (bV E (eC _ _));have j:∀k:Nat,(show Nat from b)≠n+k:=λk=>bR (bV C (eC _ _));have M:Wo (n+4) (n+2) (n+3) n (n+1) a b:=⟨d (),d (),d (),d (),d (),d (),d (),d (),d (),d (),l 4,l 3,l 0,l 1,j 4,j 3,j 0,j 1⟩;refine⟨_,_,_,_,H1,Z,i.kept (t':=f.toks) k,zf3 M T,Q,λc g=>?_,q⟩;simp only[bw,cC,or_false] at g;have g:n<=c:=by rcases g with rfl|rfl|rfl|rfl|rfl <;> first|exact eC _ _|exact bo _
  exact i.fpOk (by rw[hn];exact g) (i.hok.fresh (by rw[hn];exact g))
abbrev zgt(K:bA):R2:=λx y H Q=>∃a b c,x=.ref a/\y=.ref b/\aT K H a c/\aT K H b []/\Q (.bl (!decide (c=[]))) H
theorem zgu(p:X.A.units+64<cLine):ud X (Bi .NotEq) (zgt X.K):=by
 intro t s k H x y v u Q I f d h;obtain⟨a,b,c,rfl,rfl,i,g,q⟩:=h;by_cases e:c=[]
 .subst e;exact zjv p t s k H _ _ v u Q I f d ⟨a,b,[],[],Z,Z,i,g,⟨Z,Z,Z⟩,q⟩
 .cases f;cases d;obtain⟨A,m,o,_⟩:=I.list i;obtain⟨w,l,n,_⟩:=I.list g;cases l;have j:=m.length;have r:c.length≠0:=λz=>e (gb z);rw[Bk e] at q;exact PySem.SeqAt.RcNeAt.lists_lengths o.isList n.isList (by simp;intro z;rw[z] at j;exact r j) () X.prog X.w X.xe _ ⟨.bl ak,H,I,Z,q⟩
end
mutual
inductive zgv (H:D):V->PyData->Prop
 |int (i:Int):zgv H (.int i) (.int i)
 |str (x:Str):zgv H (.str x) (.str x)
 |lst {a:L} {xs:List V} {ds:List PyData}:H a=U (.lst xs)->zbR H xs ds->zgv H (.ref a) (.list ds)
 |tup {a:L} {xs:List V} {ds:List PyData}:H a=U (.tup xs)->zbR H xs ds->zgv H (.ref a) (.tuple ds)
inductive zbR (H:D):List V->List PyData->Prop
 |nil:zbR H [] []
 |cons {x:V} {d:PyData} {xs:List V} {ds:List PyData}:zgv H x d->zbR H xs ds->zbR H (x::xs) (d::ds)
end
end L2
namespace L2
open PySem
abbrev zbS:RM:=zdF
end L2
namespace L2
open PySem PySem.Spec PyProof.Rows
abbrev zdX(K:bA):RC:=λc H Q=>∃a,∃b:List Int,c=[.ref a]/\aT K H a (b.map V.int)/\Q (.int b.sum) H
section
variable {X:Cx}
theorem Wq(l:X.calm=ak):jK X (.builtin "sum") (zdX X.K):=by
 intro A s o H t v Q I r h;obtain⟨a,ns,rfl,j,q⟩:=h;obtain⟨u,rfl,i⟩:=kI r;cases i;obtain⟨b,g,p,y⟩:=I.list j;have f:IntsAre b ns:=zcI g;obtain⟨c,e⟩:=f.allInts.items;have d:s.heap.IsList a (intItems c):=e ▸ p.isList;refine sum_intListG (I.ok.hd l) d λz w x k=>?_;have n:ns=c.toList.map (·.1):=by
  rw[<-nums_intItems,<-e];exact(show numsOf b.toArray.toList=ns from f.numsOf).symm
 have m:preSum (numAt c) c.size=ns.sum:=by
  rw[preSum_eq,b7 (by simp),n]
 rw[m];exact⟨.int ns.sum,H,I.kept k,⟨_,Z⟩,q⟩
end
section
variable {X:Cx}
open Classical in
end
def Cb(i:Int):Prop:=dN i<=1048576
theorem Cb.of{i:Int}(h:i.natAbs<2^64):Cb i:=bM (intBits_le_iff.mpr h) ()
def Cw(i:Int):Prop:=dN i<=4000000
theorem Cb.w{i:Int}(h:Cb i):Cw i:=bM h ()
theorem Cw.div{i k:Int}(h:Cw i):Cw (i/k):=intBits_le_of_natAbs (Int.natAbs_ediv_le_natAbs i k) h
def CMulC(i j:Int):Prop:=Cw i/\Cw j
theorem CMulC.ok{i j:Int}(h:CMulC i j):IntMulOk i j:=by
 unfold IntMulOk;have b:dN i<=4000000:=h.1;have a:dN j<=4000000:=h.2;have e:oN ((dN i:Int)+(dN j:Int))=aq:=by
  unfold oN;rw[decide_eq_false_iff_not];have:(bitsLine:Int)=134217728:=by lia
  lia
 rw[e];simp
section
variable {X:Cx}
theorem zic:ud X (binaryOp .Mult) (rI CMulC λi j=>.int (i*j)):=opI λ_ _ _ _ _ _ _ a q=>mul_int q a.ok
end
open Att PySem.W PySem.Calls in
theorem walk_ofXB{l:sH}{n k:Nat}{q:av}{e:List Str}{XP:(Str->Option af)->ax->Prop}{YP:ay->ax->Prop}{d:DefRec}{K:Params->bA}{sp:bA->Sp}{x:Str}
  (hn:l.most=U n) (J:n<=Bb) (N:d.params.defaults=[]) (hr:tD k callerA) (hY:∀(w:ay) (h:ax),YP w h->(K w.params).In h) (F:∀(w:ay) (m:Str->Option af) (C:L) (h:ax),(K w.params).In h->h.Ns Bd m->m d.name=U (.ref C) ->
   ∃Q:Bc,(∀(s:ah) (u:af),BindsTo s Q ⟨[u],[]⟩ [(x,u)]) /\
    ∀b:ax,(K w.params).In b->b.Ns Bd m->tq l.prog w (K w.params) m b (CX1 l.prog w) k C Q [x] (sp (K w.params))) (I:∀(K:bA) (H:D) (a:L) (j:List Int),j.length<=n->(∀i∈j,Cb i)->zeF H->aT K H a (j.map V.int)->sp K [.ref a] H (λv _=>v=.bl ak) λ_ _ _=>False) :
  W.WalkO q e XP YP l.row.toRowW d [] (λf T=>oV f T):=by
 intro w ag ae m mb G Bo C o pm cd ap dV kV ho hd an hD M hg ai aa as p A aj E al;obtain rfl:dV=.none:=Dflts.none hD N;obtain rfl:kV=.none:=Dflts.noKw hD;obtain⟨a,T,j,rfl,rfl,t,g,c⟩:=Qn hn p E;have hb:∀i∈j,Cb i:=λi hi=>intBits_le_of_layable (layable_of_mem (lay0_int (layableW_item (layableW_arg A _ br) _ (bD.mpr ⟨i,hi,Z⟩))) br);have KX:=hY w _ Bo;obtain⟨Q,O,hF⟩:=F w m C _ KX G.T.g M;refine enter_call (gA (zbr KX G.T.g G.T.b G.T.builtins G.T.nolimit hg t g (bM c J) hr hF O (λH hO hS=>I _ H a j c hb hO hS) λ_ _ _ z=>by
  obtain⟨_,_,_,_,_,_,_,_,_,y⟩:=z;exact y) λr s' hq=>?_)
 obtain⟨rfl,h2,h3,h4⟩:=hq;exact⟨.inl ⟨.bool ak,.bool ak,[],Z,λ_=>rfl,.bool ak,Qo l _,λ_=>⟨fP,λ_ hm=>(nomatch hm)⟩⟩,h2,h3,h4⟩
def Itk(a:L)(o:Obj)(b:List (aW×V)):It :=
 ⟨λi H=>H a=U (.frz o (.dK b))/\i<b.length,λi H x c=>c=H/\∃k v,b[i]?=U (k,v)/\x=kV k,λi H=>H a=U (.frz o (.dK b))/\b.length<=i⟩
theorem zeV(h:WI k u):aU (kV k) u:=by
 rcases yK h with ⟨i,t,rfl,rfl⟩|⟨x,t,rfl,rfl⟩
 .exact⟨t,Z⟩
 .exact⟨t,Z⟩
section
variable {X:Cx}
theorem QC{P:av}{w:ay}:∀ {d:List DictEntry} {c:List (aW×af)} {i:Nat} {e:DictEntry},Pairs (yA P w) d c->d[i]?=U e->∃k u,c[i]?=U (k,u)/\WI k e.key=ak
 |_,_,i,_,.nil,h=>by simp at h
 |_,_,0,_,.cons h1 _ _,h=>by
  simp only[eo,eY] at h;subst h;exact⟨_,_,Z,h1⟩
 |_,_,i+1,_,.cons _ _ t,h=>by
  obtain⟨k,u,a,b⟩:=QC (i:=i) t (by simpa using h);exact⟨k,u,by simpa using a,b⟩
theorem Jp{p:St}{H:D}{s:ah}{a:L}{o:Obj}{b:List (aW×V)}(I:aP X aa p H s)(z:H a=U (.frz o (.dK b))) :
  (a==sysModules)=aq/\∃(c:Array DictEntry) (f:Nat),o.data=.dict c f/\tU s.heap a c f/\c.size=b.length/\∀(i:Nat) (e:DictEntry),c[i]?=U e->∃(k:aW) (v:V),b[i]?=U (k,v)/\aU (kV k) e.key:=by
 obtain⟨l,E,w,q,h,C,c,f,j,x,m,M,g,G⟩:=(show aV X.prog X.w H s.heap a (.frz o (.dK b)) from I.hok a _ z);rw[l] at j;cases j;have lx:b.length=q.length:=bE h;have t:=g.length;rw[cq] at t;refine⟨w,c,f,m,⟨o,l,x,m⟩,(),λi e y=>?_⟩;obtain⟨k,u,n,A⟩:=QC g (by rw[c9];exact y);have J:=(bq.mp n).1;have d:b[i]?=U b[i]:=bb ();have r:=yN h d n;refine⟨b[i].1,b[i].2,d,?_⟩;rw[r.1];exact zeV A
theorem zda{P:av}{w:ay}{K:bA}{tg:aB}{a it:L}{o:Obj}{aJ:List (aW×V)}{r:Array DictEntry}{ep:Nat}(hd:o.data=.dict r ep) :
  zbf P w K tg (Itk a o aJ) [it] it (λi h=>h.IsKeyIter it a i r.size ep) where
 mem:=by simp
 obj:=λi h g b l=>by
  have e:b=it:=by simpa using l
  subst e;obtain⟨o,e,c,d⟩:=g;exact⟨o,e,λv z=>by rw[d] at z;cases z⟩
 keep:=λi h q g k=>g.at λo e=>k it (by simp) o e
 item:=by
  intro X y t A hc i aa s T H E I p g u;subst y t A;obtain⟨x,hi⟩:=u;obtain⟨lo,O,Q,f,j,hs,n⟩:=Jp I x;rw[hd] at f;cases f;obtain⟨N,M,f2,J,G,C⟩:=p it (by simp);have hx:r[i]?=U r[i]:=b8 ();obtain⟨k,v,hk,rk⟩:=n i _ hx;refine Ji g j hx λq m sb=>?_;have I1:aP X aa T H { s with heap:=q }:=I.turned (t':=s.toks) (λb o l e=>(sb.2 b l).trans e) N M J G C;obtain⟨o',e,c,d⟩:=id m;exact⟨_,Z,zbg (s:={ s with heap:=q }) e c d () ⟨kV k,H,I1,rk,⟨rfl,k,v,hk,rfl⟩,m,λb l=>(p b l).1⟩⟩
 done:=by
  intro X y t A hc i aa s T H E I p g u;subst y t A;obtain⟨x,hi⟩:=u;obtain⟨lo,O,Q,f,j,hs,n⟩:=Jp I x;rw[hd] at f;cases f;obtain⟨N,M,f2,J,G,C⟩:=p it (by simp);exact zas (I.ok.hd hc) g j () λq eb=>⟨Z,I.turned (t':=s.toks) (λb o l e=>eb b o l e) N M J G C⟩
 self:=λ_ _ _ _ _ g h=>lH g h
def iDK(e:TE):TI:=λd H R=>e d H λx c=>∃a o b,x=.ref a/\c a=U (.frz o (.dK b))/\R (Itk a o b) c
theorem zbT{g:TE}(p:PE X l g):PI X tg l (iDK g):=by
 intro w s i H R I h;refine aZ (p w s i H _ I h) ?_;rintro v c ⟨x,y,d,j,k⟩;obtain⟨a,o,E,e,u,q⟩:=k;subst e;cases j;obtain⟨m,A,C,r,f,z,n⟩:=Jp d u;refine Jh m f ?_;refine⟨c.heap.objs.size,[c.heap.objs.size],_,_,y,Z,d.kept (t':=c.toks) λb o e=>bc _ e,zda r,⟨_,bC _ Z,Z,Z⟩,λb t=>?_,q⟩;have e:b=c.heap.objs.size:=by simpa using t
 subst e;exact d.fpOk (bo _) (d.hok.fresh (bo _))
def zgw(t:TS):TS:=λf g H=>∃a d e,H a=U d/\(d=.dK e\/∃o,d=.frz o (.dK e))/\∀o,t
 ⟨λb c=>c a=U (.frz o (.dK e))/\f.nx b (upd c a d),λv c=>c a=U (.frz o (.dK e))/\f.rt v (upd c a d),λb c=>c a=U (.frz o (.dK e))/\f.bk b (upd c a d),λb c=>c a=U (.frz o (.dK e))/\f.ct b (upd c a d)⟩ g (upd H a (.frz o (.dK e)))
theorem aV.upd_dK{H:D}(d:H a=U u)(b:zbC u)(x:aV P w H h a (.dK aJ)):aV P w (upd H a u') h a (.dK aJ):=by
 refine x.stay (λ_ _ _ r=>r) (λc r=>?_) λc e r=>?_
 .rw[zm λz=>by subst z;rw[d] at r;cases r;exact b];exact r
 .rw[zm λz=>by subst z;rw[d] at r;cases r;exact b];exact r
theorem zdY{y:aA}{t:TS}(p:PS X y t):PS X y (zgw t):=by
 rintro m s w H T I ⟨a,u0,j,k,l,h⟩;have J:zbC u0:=by rcases l with rfl|⟨o,rfl⟩ <;> trivial
 -- the object as it stands
 have C:∃o,s.heap.get? a=U o/\(u0=.dK j\/u0=.frz o (.dK j)):=by
  rcases l with rfl|⟨o,rfl⟩
  .obtain⟨N,M,G,A,o,O,Q,u,_⟩:=(show aV X.prog X.w H s.heap a (.dK j) from I.hok a _ k);exact⟨o,u,.inl Z⟩
  .exact⟨o,(show aV X.prog X.w H s.heap a (.frz o (.dK j)) from I.hok a _ k).1,.inr Z⟩
 obtain⟨o,u,l⟩:=C;have E:aP X m w (upd H a (.frz o (.dK j))) s:=by
  rcases l with rfl|rfl
  .refine I.relab k trivial (λn z q=>?_) ⟨u,aV.upd_dK k trivial (I.hok a _ k)⟩;have:=I.base.frzs a n z q;rw[k] at this;cases this
  .have e:upd H a (.frz o (.dK j))=H:=by
    funext b;unfold upd;split
    .next z=>rw[z];exact k.symm
    .rfl
   rw[e];exact I
 have g:∀ {d:St} {H':D} {s':ah},aP X m d H' s'->H' a=U (.frz o (.dK j))->aP X m d (upd H' a u0) s':=λ{d H' s'} i c=>by
  rcases l with rfl|rfl
  .refine i.relab c trivial (λn z q=>?_) (aV.upd_dK c trivial (show aV X.prog X.w H' s'.heap a (.frz o (.dK j)) from i.hok a _ c).2);have:=I.base.frzs a n z q;rw[k] at this;cases this
  .have e:upd H' a (.frz o (.dK j))=H':=by
    funext b;unfold upd;split
    .next z=>rw[z];exact c.symm
    .rfl
   rw[e];exact i
 refine aZ (p m s w _ _ E (h o)) λf s' q=>?_;cases f with
 |next=>obtain⟨d,H',i,c,q⟩:=q;exact⟨d,_,g i c,q⟩
 |brk=>obtain⟨d,H',i,c,q⟩:=q;exact⟨d,_,g i c,q⟩
 |cont=>obtain⟨d,H',i,c,q⟩:=q;exact⟨d,_,g i c,q⟩
 |ret v=>obtain⟨x,d,H',i,r,c,q⟩:=q;exact⟨x,d,_,g i c,r,q⟩
end
section
variable {K:Type} [DecidableEq K]
def yk(a:List (K×L×af))(k:K):List (K×L×af):=a.filter λx=>decide (x.1≠k)
theorem zdb:∀ {xs:List (K×L×af)} {k:K},k ∉ xs.map (·.1)->yk xs k=xs:=λ{xs k} h=>l8.mpr λx a=>Bj λe=>h (bD.mpr ⟨x,a,e⟩)
theorem zgx:∀ {a:List (K×L×af)} {j:Nat} {k:K} {p:L×af},(a.map (·.1)).Nodup->a[j]?=U (k,p)->a.eraseIdx j=yk a k
 |[],j,k,p,_,h=>by simp at h
 |x::r,0,k,p,n,h=>by
  rw[bh,bW] at n;simp only[eo,eY] at h;subst h;show r=nQ _ ((k,p)::r);rw[fW (by simp)];exact(zdb n.1).symm
 |x::r,j+1,k,p,n,h=>by
  rw[bh,bW] at n;simp only[iF] at h;have m:k∈r.map (·.1):=bD.mpr ⟨(k,p),bJ h,Z⟩;have b:x.1≠k:=λe=>n.1 (e ▸ m);show x::r.eraseIdx j=nQ _ (x::r);rw[fY (by simp[b]),zgx n.2 h];rfl
end
theorem Wr{b c:Type}(f:b->c):∀(l:List b) (j:Nat),(l.map f).eraseIdx j=(l.eraseIdx j).map f
 |[],_=>rfl
 |_::_,0=>rfl
 |a::l,j+1=>by rw[bh,iu,iu,bh,Wr f l j]
theorem KT.dropT{H:D}(r:KT H aJ xs)(k:List aW):KT H (yz aJ k) (yk xs k):=by
 induction r with
 |nil=>exact .nil
 |@cons p q ps qs h t ih =>
  unfold yz yk;by_cases e:p.1=k
  .rw[fW (by simp[e]),fW (by simp[<-h.1,e])];exact ih
  .rw[fY (by simp[e]),fY (by simp[<-h.1,e])];exact .cons h ih
section
variable {prog:av}{w:ay}{K:Type} [DecidableEq K]{knd:HeapKind prog w K}{A:aw}{E:af->ah->Prop}{s:ah}{d a:L}{xs:List (K×L×af)}{k:K}
theorem zaB{Q:Option DictEntry->ah->Prop}(v:knd.room A)(b:knd.is s.heap k a)(H:s.heap.DictOfH knd d xs)(n:atKey xs k=U p) (c:∀e:DictEntry,e.val=p.2->∀u,u.DictOfH knd d (yk xs k)->cN d s.heap u->Q (U e) { s with heap:=u,toks:=s.toks+knd.draws k }) (G:xs.length<=Bb) :
  Bf (Bg prog w) A (pq d (.ref a)) Q E s:=by
 obtain⟨o,y,M,g,J,f,m,h,i⟩:=H;have I:y.size=xs.length:=oO m;unfold pq
 try with_reducible refine dF ?_
 refine ba (knd.pyHash v b ?_);refine ba (wpAny_dictFind_heap (s:={ s with toks:=s.toks+knd.draws k }) v b g f m h i ?_ ?_)
 .intro r;rw[atKey_none_of_get r] at n;cases n
 .intro j q t;have z:=atKey_of_get i t;rw[n] at z;cases z;refine ba (dG (s:={ s with toks:=s.toks+knd.draws k }) g f ?_);rw[entry_at m j,t];refine ba (pA (hz:=by lia) (s:={ s with toks:=s.toks+knd.draws k }) g f (bg (c (entryOfKey knd (k,p)) rfl _ ⟨_,_,M+1,eP _ g (pO (gP f _)),J.mapDictKeys _,gP f _,?_,?_,?_⟩ (de ..))))
  .rw[<-zgx i t,<-Wr,<-m];obtain⟨l⟩:=y;simp
  .intro x C;exact knd.keeps (h x (bQ.mp C).1) g f (de ..)
  .exact gj (gc _ dh) i
theorem zdc :MeetsIn prog w (Builtin.«dict.pop» ⟨[.ref d,.ref a],[]⟩) (λA R s=>knd.room A.in1/\∃k xs p,knd.is s.heap k a/\s.heap.DictOfH knd d xs/\xs.length<=Bb/\atKey xs k=U p /\
   ∀c,c.DictOfH knd d (yk xs k)->cN d s.heap c->R (.ok (.ret p.2)) { s with heap:=c,toks:=s.toks+knd.draws k }):=
 .of_wp λA R s ⟨t,k,xs,p,b,i,q,l,h⟩=>by
  unfold Builtin.«dict.pop»;refine ba ?_;unfold mo;refine ba (fH i.typeIs ?_);show Bf _ _ (pure (d,bO a,am)) _ _ s;refine bg ?_;have n:(keyPart (bO a)).isSome=aq:=rfl;simp only[n,cy,if_false];obtain⟨o,H,M,u,J,C,y,v,I⟩:=id i;refine ba (dG u C ?_);refine ba (bg ?_);have m:H.isEmpty=aq:=by
   have j:=oO y;cases xs with
   |nil=>simp[atKey] at l
   |cons x r =>
    rw[Array.isEmpty_eq_false_iff];intro z;rw[z] at j;simp at j
  simp only[m,cy,if_false];refine ba (zaB t b i l (λe G c g f=>?_) q);simp only[p8,cy,if_false];exact ba (lU (bg ⟨e.val,Z,by rw[G];exact h c g f⟩))
theorem Vo{c:af}{Q:af->ah->Prop}(u:knd.room A)(b:knd.is s.heap k a)(C:s.heap.DictOfH knd d xs) (J:∀p,atKey xs k=U p->Q p.2 { s with toks:=s.toks+knd.draws k }) (I:atKey xs k=am->∀r,r.DictOfH knd d (storedH xs k a c)->cN d s.heap r->Q c { s with heap:=r,toks:=s.toks+knd.draws k }) (z:xs.length<=Bb) :
  Bf (Bg prog w) A (dictSetDefault d (.ref a) c) Q E s:=by
 obtain⟨o,M,N,g,H,f,m,l,q⟩:=C;have G:M.size=xs.length:=oO m;unfold dictSetDefault
 try with_reducible refine dF ?_
 refine ba (knd.pyHash u b ?_);refine ba (wpAny_dictFind_heap (s:={ s with toks:=s.toks+knd.draws k }) u b g f m l q ?_ ?_)
 .intro i;have h:k ∉ xs.map (·.1):=not_mem_keys_of_get i;have n:=atKey_none_of_get i;refine ba (lN (ba (pA (hz:=by lia) (s:={ s with toks:=s.toks+knd.draws k }) g f (bg (I n _ ⟨_,_,N+1,eP _ g (pO (gP f _)),
   H.mapDictKeys _,gP f _,?_,?_,?_⟩ (de ..))))))
  .rw[storedH_new n];simp[m,entryOfKey]
  .rw[storedH_new n];intro x hx;rcases bu.mp hx with hx|hx
   .exact knd.keeps (l x hx) g f (de ..)
   .simp only[bn] at hx;subst hx;exact knd.keeps b g f (de ..)
  .rw[storedH_new n];rw[bN,dn];refine⟨q,by simp,?_⟩;intro x hx y t;simp only[bh,mD,bn] at t;subst t;exact λe=>h (e ▸ hx)
 .intro j p v;refine ba (dG (s:={ s with toks:=s.toks+knd.draws k }) g f ?_);rw[entry_at m j,v];exact ba (lN (bg (J p (atKey_of_get q v))))
theorem Kt(m:(d==sysModules)=aq)(dflt:af):MeetsIn prog w (Builtin.«dict.setdefault» ⟨[.ref d,.ref a,dflt],[]⟩) (λA R s=>knd.room A.in1/\∃k xs,knd.is s.heap k a/\s.heap.DictOfH knd d xs/\xs.length<=Bb /\
   (∀p,atKey xs k=U p->R (.ok (.ret p.2)) { s with toks:=s.toks+knd.draws k }) /\
   (atKey xs k=am->∀c,c.DictOfH knd d (storedH xs k a dflt)->cN d s.heap c->R (.ok (.ret dflt)) { s with heap:=c,toks:=s.toks+knd.draws k })):=
 .of_wp λA R s ⟨i,k,xs,b,g,h,o,n⟩=>by
  unfold Builtin.«dict.setdefault»;refine ba ?_;unfold mo;refine ba (fH g.typeIs ?_);show Bf _ _ (pure (d,bO a,U dflt)) _ _ s;refine bg ?_;show Bf _ _ (if (d==sysModules)=ak then _ else (dictSetDefault d (.ref a) dflt >>= _)) _ _ s;rw[ao (by rw[m];exact bK)];exact ba (Vo i b g (λp j=>bg ⟨_,Z,o p j⟩) (λl c f e=>bg ⟨dflt,Z,n l c f e⟩) h)
end
section
variable {X:Cx}{aa:List (L×Obj)}{σ:St}{H:D}{s:ah}{a b:L}{aJ:List (List aW×V)}{k:List aW}{A:aw}{E:af->ah->Prop}
theorem zjD{Q:af->ah->Prop}(x:A.units+1<cLine)(I:aP X aa σ H s)(e:H a=U (.dT aJ))(eb:H b=U (.tup (k.map kV)))(l:yj aJ k=U v) (h:∀f m,aP X aa σ (upd H a (.dT (yz aJ k))) m->aU v f->Q f m):Bf (Bg X.prog X.w) A (call (.builtin "dict.pop") [.ref a,.ref b]) Q E s:=by
 obtain⟨z,G,j,d,t⟩:=Qm I.hok e;have u:j.length<=Bb:=by rw[<-bE d];exact z
 have n:=d.val k;rw[l] at n;obtain⟨f,w,g⟩:=tY.some_of n;obtain⟨p,C,rfl⟩:=bY.mp w;refine ie eO t.typeIs iI (nG _ _) (zdc (knd:=tupleKind (yA X.prog X.w))) ⟨dX x,k,j,p,qh I.hok eb,t,u,C,λh' i y=>h _ _ ?_ g⟩;obtain⟨q,T,ep,o,O,N,M,_,J⟩:=i;refine Z8 I (by rw[e];exact eR) y ⟨q,o⟩ ⟨bM (zbn aJ k) z,G,_,(d.dropT k).keeps λc ys r=>?_,q,T,ep,o,O,N,M,J⟩;rw[zm (zL r e ())];exact r
theorem zeW{Q:af->ah->Prop}(G:A.units+1<cLine)(I:aP X aa σ H s)(e:H a=U (.dT aJ))(w:H b=U (.tup (k.map kV)))(y:aU d r)(hl:aJ.length<Bb) (T:∀v n i,yj aJ k=U v->aP X aa σ H i->aU v n->Q n i) (O:∀i,yj aJ k=am->aP X aa σ (upd H a (.dT (yS aJ k d))) i->Q r i):Bf (Bg X.prog X.w) A (call (.builtin "dict.setdefault") [.ref a,.ref b,r]) Q E s:=by
 obtain⟨z,t,m,g,x⟩:=Qm I.hok e;have C:m.length<=Bb:=by rw[<-bE g];exact z
 have f:=g.val k;refine ie lL x.typeIs PySem.F.entry_dict_setdefault (PySem.F.args_dict_setdefault_3 _ _ _) (Kt (knd:=tupleKind (yA X.prog X.w)) t r) ⟨dX G,k,m,qh I.hok w,x,C,λp M=>?_,λN h' l J=>?_⟩
 .rw[M] at f;cases h:yj aJ k with
  |none=>rw[h] at f;exact f.elim
  |some v=>rw[h] at f;exact T v _ _ h (I.tok _) f
 .rw[N] at f;have h:yj aJ k=am:=by
   cases h:yj aJ k with
   |none=>rfl
   |some v=>rw[h] at f;exact f.elim
  refine O _ h ?_;obtain⟨q,es,ep,o,g2,g3,g4,_,g5⟩:=l;have j:(yS aJ k d).length<=Bb:=by have:=wG aJ k d;lia
  refine Z8 I (by rw[e];exact eR) J ⟨q,o⟩ ⟨j,t,_,(g.put k w y).keeps λc ys u=>?_,q,es,ep,o,g2,g3,g4,g5⟩;rw[zm (zL u e ())];exact u
end
def zgy(h g:TE):TE:=λe H Q=>h e H λx f=>∃a,x=.ref a/\IsD f a/\g e f λy d=>∃c k b v,d a=U (.dT c)/\y=.ref b/\d b=U (.tup (k.map kV))/\yj c k=U v/\Q v (upd d a (.dT (yz c k)))
def zgz(i g h:TE):TE:=λe H Q=>i e H λx f=>∃a,x=.ref a/\IsD f a/\g e f λy j=>h e j λz d=>∃c k b,d a=U (.dT c)/\y=.ref b/\d b=U (.tup (k.map kV))/\c.length<Bb /\
 (∀v,yj c k=U v->Q v d)/\(yj c k=am->Q z (upd d a (.dT (yS c k z))))
section
variable {X:Cx}{o e f:aB}{tj tG:Pos}{td ty tx:TE}
theorem zgA(C:X.A.units+1<cLine)(E:PE X o td)(G:PE X e ty)(m:M1 X o "pop" tj e tG):PE X (.Call (.Attribute o "pop" tj) [e] [] tG) (zgy td ty):=by
 intro i s g H Q I h;refine gJ m.base m.few m.line dY eO iX (aZ (E i s g H _ I h) ?_);rintro u q ⟨x,H1,j,t,a,M,d,z⟩;subst M;obtain rfl:u=bO a:=t;obtain⟨p,n,_⟩:=Wl j d;refine⟨p,n,?_⟩;rw[m.trees];refine dv Z (eB (cZ (aZ (G i q g H1 _ j z) λA s2 ⟨y,H2,I2,r,aJ,k,b,v,O,J,N,l,w⟩=>eX ?_)));subst J;cases (show A=bO b from r);exact zjD C I2 O N l λw' s3 T c=>⟨v,_,T,c,w⟩
theorem zgB(T:X.A.units+1<cLine)(ho:PE X o td)(he:PE X e ty)(hf:PE X f tx)(m:M2 X o "setdefault" tj e f tG):PE X (.Call (.Attribute o "setdefault" tj) [e,f] [] tG) (zgz td ty tx):=by
 intro i s c H Q I h;refine gJ m.base m.few m.line dY lL PySem.F.type_dict_setdefault (aZ (ho i s c H _ I h) ?_);rintro u w ⟨x,H1,n,C,a,ex,d,M⟩;subst ex;obtain rfl:u=bO a:=C;obtain⟨q,p,_⟩:=Wl n d;refine⟨q,p,?_⟩;rw[m.trees];refine dv Z (eB (cZ (aZ (he i w c H1 _ n M) λN t ⟨y,H2,I2,A,J⟩ =>
  cZ (aZ (hf i t c H2 _ I2 J) λfv s3 ⟨z,H3,I3,l,aJ,k,b,ea,ey,eb,hl,G,E⟩=>eX ?_))))
 subst ey;cases (show N=bO b from A);exact zeW T I3 ea eb l hl (λv w' r O j g=>⟨v,_,j,g,G v O⟩) λr hn j=>⟨z,_,j,l,E hn⟩
end
abbrev Zo:RM:=λx b H Q=>∃(l:L) (a:List V) (k:Nat) (y:V),x=.ref l/\b=[.int k,y]/\H l=U (.lst a)/\k<=a.length/\a.length<1000000/\Q .non (upd H l (.lst (a.take k++y::a.drop k)))
abbrev Zp:RM:=λx b H Q=>∃(l:L) (a:List Int) (i:Int),x=.ref l/\b=[.int i]/\H l=U (.lst (a.map V.int))/\i∈a/\Q .non (upd H l (.lst ((a.erase i).map V.int)))
theorem aR.takeV:∀(k:Nat) {a:List V} {b:List af},aR a b->aR (a.take k) (b.take k)
 |0,_,_,_=>by rw[List.take_zero,List.take_zero];exact .nil
 |_+1,_,_,.nil=>.nil
 |k+1,_,_,.cons h r=>.cons h (aR.takeV k r)
theorem aR.dropV:∀(k:Nat) {a:List V} {b:List af},aR a b->aR (a.drop k) (b.drop k)
 |0,_,_,h=>h
 |_+1,_,_,.nil=>.nil
 |k+1,_,_,.cons _ r=>aR.dropV k r
section
variable {X:Cx}
theorem QD:MtM X "list.insert" Zo:=by
 intro T s w H x C v E Q I f g h;obtain⟨l,A,k,y,rfl,rfl,d,N,G,q⟩:=h;cases f;cases g with
 |cons r1 rr =>
  obtain⟨u,rfl,j⟩:=(show aR [y] _ from rr).one;obtain⟨t,rfl⟩:=r1;obtain⟨z,a,n,r,J,e⟩:=I.lstM d;have O:(1000000:Nat)<Bb:=by rw[bL];decide
  obtain⟨i,c⟩:∃i:Int,i=k:=⟨_,Z⟩;rw[<-c];have p:¬ (!Builtin.List.listFitsIndex i)=ak:=by rw[fitsIndex_both () ()];exact bK
  have m:a.toArray.size<=Bb:=by rw[bG];lia
  have M:=AutoSeq1.list_insert_list_int_val_1 l a.toArray n i t u p m;refine iP F.slot_list_insert ⟨_,e,Z⟩ F.entry_list_insert (F.args_list_insert_3 _ _ _) M ⟨e,?_⟩;refine⟨.non,_,I.lset (its':=a.take k++u::a.drop k) d e ?_ ((r.takeV k).append (.cons j (r.dropV k))) ?_,Z,q⟩
  .have b:k<=a.length:=by lia
   subst c;have o:¬ ((k:Int)<0):=by lia
   simp[dZ b,o];rw[b7 (by rw[cW];lia)]
  .rw[bx,bU,cg,cW];lia
theorem zdZ:∀ {b:List Int} {a:List af},aR (b.map V.int) a->∀(m:Nat) (v:af),a[m]?=U v->∃i t,b[m]?=U i/\v=.int i t
 |[],_,.nil,m,v,h=>by simp at h
 |i::b,_,.cons h r,0,v,e=>by
  simp only[eo,eY] at e;subst e;obtain⟨t,rfl⟩:=h;exact⟨i,t,Z,Z⟩
 |i::b,_,.cons h r,m+1,v,e=>by simpa using zdZ r m v (by simpa using e)
def isI(k:Int):af->Bool
 |.int a _=>a==k
 |_=>aq
theorem QE:MtM X "list.remove" Zp:=by
 intro aa s O H x T v us Q I w A h;obtain⟨l,a,i,rfl,rfl,j,M,q⟩:=h;cases w;obtain⟨u,rfl,C⟩:=A.one;obtain⟨t,rfl⟩:=C;obtain⟨z,b,n,r,G,e⟩:=I.lstM j;rw[bd] at G z;have J:a.idxOf i<a.length:=List.idxOf_lt_length_iff.mpr M;have gt:∀m (c:m<b.toArray.size),∃(d:m<a.length) (t':Tok),b.toArray[m]=.int a[m] t':=λm c=>by
  rw[bG] at c;obtain⟨i',t',o,d⟩:=zdZ r m b[m] (bb c);have k:m<a.length:=by lia
  rw[bb k] at o;refine⟨k,t',?_⟩;rw[bH o,<-d];simp
 refine iP F.slot_list_remove ⟨_,e,Z⟩ F.entry_list_remove (F.args_list_remove_2 _ _) (MeetsSeq.list_remove l b.toArray n (.int i t) (isI i) (λy E=>?_) (a.idxOf i) (by rw[bG];lia) ?_ (λm c g=>?_) (by rw[bG];lia)) ⟨e,?_⟩
 .obtain⟨m,c,rfl⟩:=Array.mem_iff_getElem.mp E;obtain⟨d,t',f⟩:=gt m c;rw[f];exact MeetsSeq.EqGives.int _ _ _ _
 .obtain⟨d,t',f⟩:=gt (a.idxOf i) (by rw[bG];lia);rw[f];show (a[a.idxOf i]==i)=ak;rw[List.getElem_idxOf J];exact beq_self_eq_true i
 .obtain⟨d,t',f⟩:=gt m c;rw[f];show (a[m]==i)=aq;exact List.not_of_lt_findIdx (p:=λy=>y==i) (xs:=a) (i:=m) g
 .have N:a.erase i=a.eraseIdx (a.idxOf i):=List.erase_eq_eraseIdx_of_idxOf rfl;rw[N] at q;refine⟨.non,_,I.lset (its':=b.eraseIdx (a.idxOf i)) j e ?_ (by rw[<-Wr];exact r.eraseIdx _) ?_,Z,q⟩
  .show b.toArray.eraseIdxIfInBounds _=_;rw[iQ]
  .rw[bd];have:=Qk a (a.idxOf i);lia
end
def zbU(H:D)(y:V)(a:List aW×V):Prop:=∃p,y=.ref p/\H p=U (.tup (a.1.map kV))
abbrev zd0:RC:=λd H Q=>∃a c,d=[.ref a]/\H a=U (.dT c)/\∀l b,H l=am->Paired (zbU H) b c->Q (.ref l) (upd H l (.lst b))
abbrev zi0:RC:=λc H Q=>∃a b,c=[.ref a]/\H a=U (.dT b)/\Q (.int (b.length:Nat)) H
section
variable {X:Cx}
theorem WQ{H:D}{es:Array DictEntry}:∀(b:List (List aW×V)) (a:List af) (j:Nat),a.length=b.length->(∀i v,a[i]?=U v->∃e,es[j+i]?=U e/\v=e.key) ->
  (∀(i:Nat) (d:DictEntry) (kv:List aW×V),es[j+i]?=U d->b[i]?=U kv->∃p,d.key=.ref p/\H p=U (.tup (kv.1.map kV)))->∃c,aR c a/\Paired (zbU H) c b
 |[],[],_,_,_,_=>⟨[],.nil,.nil⟩
 |[],v::a,_,hl,_,_=>by simp at hl
 |kv::b,[],_,hl,_,_=>by simp at hl
 |kv::b,v::a,j,hl,h1,h2=>by
  obtain⟨e,o,rfl⟩:=h1 0 v rfl;obtain⟨p,m,q⟩:=h2 0 e kv o rfl;obtain⟨c,k,h⟩:=WQ (es:=es) b a (j+1) (by simpa using hl) (λi u l=>by rw[p9,Nat.add_comm 1 i];exact h1 (i+1) u (by simpa using l)) (λi d f g n=>h2 (i+1) d f (by rw[<-p9,Nat.add_right_comm];exact g) (by simpa using n));exact⟨.ref p::c,.cons m k,.cons ⟨p,Z,q⟩ h⟩
theorem ju(M:X.calm=ak):jK X (.type "list") zd0:=by
 intro aa s t H vs us Q I A h;obtain⟨a,aJ,rfl,r,q⟩:=h;obtain⟨u,rfl,w⟩:=kI A;cases w;have J:X.A.handled=am:=I.ok.hd M;obtain⟨z,C,_⟩:=Qm I.hok r;obtain⟨es,ep,x,b,j⟩:=zc5 I r;refine W.kdl_call (zat (ep:=ep) (es:=es) C) J x (by rw[b];exact z) λh' k d c g N m=>?_;obtain⟨f,y,l⟩:=WQ (H:=H) (es:=es) aJ d.toList 0 (by rw[cq,m.1,b]) (λi v G=>by
   rw[rW];obtain⟨e,T,O⟩:=m.2 i v (by rw[<-c9];exact G);exact⟨e,T,O⟩) (λi en E n g=>by
   rw[rW] at n;obtain⟨p,g1,g2,_⟩:=j i en E n g;exact⟨p,g1,g2⟩)
 have I2:aP X aa t (upd H s.heap.objs.size (.lst f)) { s with heap:=h',toks:=k }:=I.laid (a:=s.heap.objs.size) (o:=.lst f) (t':=k) g (bo _)
  ⟨by have:=bE l;lia,d.toList,c,y,by rw[Array.toArray_toList];exact N⟩
 exact⟨.ref s.heap.objs.size,_,I2,Z,q _ f (I.hok.fresh (bo _)) l⟩
theorem zdd{a:av}{w:ay}{d:L}(i:(d==sysModules)=aq) :
  MeetsIn a w (Builtin.«dict.__len__» ⟨[.ref d],[]⟩) (λ_ R s=>∃c e,tU s.heap d c e/\R (.ok (.ret (.int (c.size:Nat) s.toks))) { s with toks:=s.toks+1 }) :=
 .of_wp λA R s ⟨c,e,g,h⟩=>by
  obtain⟨o,f,j,b⟩:=g;show Bf _ _ (dictSize d >>= _) _ _ s;unfold dictSize;refine ba (ba (dG f b (bg ?_)));show Bf _ _ (Builtin.Dict.pendingCount d >>= _) _ _ s;refine ba (wpAny_pendingCount_other i ?_);refine wpAny_ret_mkInt ?_;rw[Nat.add_zero];exact h
theorem zeX{w:ay}{A:aw}{E:af->ah->Prop}{s:ah}{d:L}{a:Array DictEntry}{e:Nat}{Q:af->ah->Prop}(g:(d==sysModules)=aq)(b:tU s.heap d a e)(c:(a.size:Int)<2^63) (h:Q (.int (a.size:Nat) (s.toks+1)) { s with toks:=s.toks+1+1 }):Bf (Bg prog w) A (Builtin.«len» ⟨[.ref d],[]⟩) (λfin f=>∃r,fin=.done (.ret r)/\Q r f) E s:=by
 unfold Builtin.«len»;refine ba (m:=oneArg "len" _) (bg ?_);refine ba (m:=callSpecial? (.ref d) (bf "__len__")) (cL (name:=bf "__len__") b.type F.slot_dict_len
  (ie F.slot_dict_len b.type F.entry_dict_len (F.args_dict_len_1 _) (zdd g) ⟨a,e,b,?_⟩))
 show Bf _ _ _ _ _ { s with toks:=s.toks+1 };refine ba (dF (bg ?_));refine ba (lU ?_);show Bf _ _ (if ((a.size:Nat):Int)<0 then _ else _) _ _ _;rw[ao ()];show Bf _ _ (if ((a.size:Nat):Int) >= 2^63 then _ else _) _ _ _;rw[ao ()];exact ba (wpAny_mkInt (bg ⟨_,Z,h⟩))
theorem zeY:jK X (.builtin "len") zi0:=by
 intro n s j H k l Q I f h;obtain⟨a,o,rfl,c,q⟩:=h;obtain⟨u,rfl,d⟩:=kI f;cases d;obtain⟨z,g,_⟩:=Qm I.hok c;obtain⟨i,m,e,b,_⟩:=zc5 I c;rw[<-b] at q;exact gU kind_len plain_len entry_len (args_len1 _) (zeX g e (by rw[b];rw[bL] at z;lia) ⟨.int (i.size:Nat),H,I.tok _,⟨_,Z⟩,q⟩)
end
structure FunD(K:bA)(x qual:Str)(st:aA)(f:L)(fd:Bc):Prop where
 ex:∃(oc:af) (od:Option L) (dV kV doc pm:af) (an:Option L) (cdv ct:af) (osl:Array (Option af)),fd=sG x qual (Z9 st) (wu st) (zl st) dV kV doc pm an cdv ct/\K.lookup f=U ⟨oc,od,.func fd,osl⟩/\sq K cdv qual=ak
 kp:nA K (.ref f)=ak
section
variable {P:av}{w:ay}{K:bA}{mg:Str->Option af}{base:ax}{x qual:Str}{st:aA}{f:L}{fd:Bc}{N ps:List Str}{k:Nat}{sp:Sp}
theorem FunD.ok1(F:FunD K x qual st f fd)(S:aM N ps (zl st))(d:∀b H Q E,sp b H Q E->b.length=ps.length) (c:∀(cdv:af) (A:aw) (a:List Env) (s:ah) (H:D) (b:List V) (Q:VK) (E:XK),tD k (A.deeper (envOfC qual (zl st) s.heap.objs.size f cdv))->sp b H Q E->∃t,PSs (q8 (CX1 P w) P w K mg base N qual (zl st) f cdv A a s H E) (wu st) t/\t { nx:=λ_ j=>Q .non j,rt:=Q } (start N b) H):tq P w K mg base (CX1 P w) (k+1) f fd ps sp:=by
 obtain⟨oc,od,dV,kV,doc,pm,an,cdv,ct,osl,rfl,h,g⟩:=F.ex;exact ziQ h g S d λA a s H b Q E i e=>c cdv A a s H b Q E i e
theorem FunD.ok0(F:FunD K x qual st f fd)(S:aM N ps (zl st))(g:∀d H Q E,sp d H Q E->d.length=ps.length) (e:∀(cdv:af) (A:aw) (c:List Env) (s:ah) (H:D) (d:List V) (Q:VK) (E:XK),tD k (A.deeper (envOfC qual (zl st) s.heap.objs.size f cdv))->sp d H Q E->∃t,PSs (q8 (CX1 P w) P w K mg base N qual (zl st) f cdv A c s H E).nox (wu st) t/\t { nx:=λ_ j=>Q .non j,rt:=Q } (start N d) H):tq P w K mg base (CX1 P w) (k+1) f fd ps sp :=
 F.ok1 S g λcdv A c s H d Q E i h=>let ⟨t,a,b⟩:=e cdv A c s H d Q E i h;⟨t,a.nox,b⟩
theorem fun_mkD{j i:Option L}{d:Array (Option af)}{g kV b e a h:af}(l:K.lookup f=U ⟨oc,j,.func (sG x qual (Z9 st) (wu st) (zl st) g kV b e i a h),d⟩) (c:sq K a qual=ak) (k:nA K (.ref f)=ak):FunD K x qual st f (sG x qual (Z9 st) (wu st) (zl st) g kV b e i a h):=⟨⟨oc,j,g,kV,b,e,i,a,h,d,Z,l,c⟩,k⟩
end
section
variable {X:Cx}{o value:aB}{f:Str}{pos pos':Pos}{ta:TE}{tx:EXK->TE}
def zi1(K:bA)(ta:TE)(tx:EXK->TE)(f:Str)(a:EXK):TS:=wb K ta (tx a) f
theorem zid(t:PE X.nox o ta)(p:PEX X value tx)(r:swapsWith value (U (.Attribute o f pos')) pos.line X.env=pure aq):PSX X (.Assign [.Attribute o f pos'] value pos) (zi1 X.K ta tx f):=by
 intro e s b H Bq J I h;refine iN (aZ (p e s b H _ J I h) λu g ⟨y,G,E,i,q⟩=>eG (t e g b G _ (E.wish _) q) (?_) λ_ _ z=>dz z) r;rintro m N ⟨x,T,d,j,a,C,Q,O,v,w,c,n,l,k⟩;subst v;obtain rfl:m=bO a:=j;exact YT d.unwish w c n l i λM A=>⟨b,_,A,k⟩
end
def zi2(K:bA)(f:EXK->TS)(i h:L)(e:TS):TS:=λc d H=>f (λb a g=>∃C,b=.ref C/\sW K (.ref C) [.ref i,.ref h]=U ak/\e c a g) c d H
theorem zgC(x:ii base l e cls a0 h)(o:Obj):ii base l e cls a0 (h.push o):=by
 obtain⟨j,i,g,d,a,T,f,c,w,v,t,s,r,p,n,m,k⟩:=x;exact⟨λb u q=>bc _ (j b u q),i,g.of_keeps (λb u q _=>⟨u,bc _ q,Z⟩),d,a,T,f,c,bc _ w,v,t,s,r,p,bc _ n,m,k⟩
section
variable {X:Cx}{st b₀:aA}{suite:List aA}{tb:EXK->TS}{th:TS}{c1 c2:Str}{C1 C2:L}{np np2 hpos tpos pos:Pos}{x1:Nat}
theorem zie(k:X.stack=X.env::X.outer/\X.env.frame=U X.env.locals)(r:X.ex=[])(G:PSX X st tb)(p:Gl X c1)(m:X.mg c1=U (.ref C1))(n:Gl X c2)(l:X.mg c2=U (.ref C2)) (E:∀e,PSs (X.sub e) (b₀::suite) th) (h:(c1==("__debug__":Str))=aq:=by lia) (d:(c2==("__debug__":Str))=aq:=by lia) :
  PS X (.Try [st] [.ExceptHandler (U (.Tuple [.Name c1 np,.Name c2 np2] x1 tpos)) am (b₀::suite) hpos] [] [] pos) (zi2 X.K tb C1 C2 th):=by
 refine zdU (W:=λy C c x=>sW X.K (.ref C) [.ref C1,.ref C2]=U ak/\th y c x) k r G λI y c x e C J w s i z ⟨A,j⟩=>?_;have t:=z _ i (.refl _);refine lX (i7 ?_) (by intro q;cases q);refine wpAny_Tuple_spliced (cZ (vj (X:=X.sub e) (t.toSub (e:=e)) p m (cZ (vj (X:=X.sub e) (t.toSub (e:=e)) n l (eX ⟨(by show 2<=Bb;decide),?_⟩) d)) h));have a:=zgC i { cls:=.type "tuple",data:=.seq [bO C1,bO C2].toArray };have v:∀b o,s.heap.get? b=U o->(s.heap.push { cls:=.type "tuple",data:=.seq [bO C1,bO C2].toArray }).get? b=U o:=λb o q=>bc _ q;exact(W.exm_tup2 (t.kept (t':=s.toks) v).kIn (zay a) (bC _ Z) A).here (zax a (λg f u=>z g f ((Heap.UpToSlots.of_keeps v).trans u)) E j λf H q=>q)
end
section
variable {X:Cx}{CX:CXT}{k:Nat}{f C:L}{fd:Bc}{ps:List Str}{sp:Sp}{dvs:List V}{E:XK}{m:Str}{pos tj:Pos}{o:aB}{ta:TE}
theorem QF{e:Sem Bool}(l:PE X o ta)(c:ua X.K C)(j:zac X.K C m f)(F:tq X.prog X.w X.K X.mg X.base CX k f fd ps sp)(i:tD k X.A)(a:∃b,aR dvs b/\tE X.K fd ps b)(g:wz CX X E) (h:eval (.Call (.Attribute o m tj) [] [] pos) X.env=(do
   let d <-eval o X.env
   standAt tj.atName
   let (f,first) <-holding [d] (getMethod d m e)
   callWith pos f first (backTo pos (Be [] X.env)) (backToKw pos (keywordEach [] X.env))):=by rfl) :
  PE X (.Call (.Attribute o m tj) [] [] pos) (zI C m sp dvs E ta zk):=by
 obtain⟨b,n,a⟩:=a;exact zbh l c j F i a n g h
end
structure MkO(K:bA)(C:L):Prop where
 makes:sD K C=ak
 init:fB K (.ref C) "__init__"=U (U (.builtin "object.__init__"))
 kp:nA K (.ref C)=ak
def zde(C:L):TE:=λ_ H Q=>∀x a,H x=am->H a=am->a≠x->Q (.ref x) (upd (upd H a (.own x)) x (.ins C a []))
section
variable {X:Cx}{C:L}{x:Str}{p pos:Pos}
theorem zeZ{d:St}{H:D}{s:ah}{Q:VK}(M:MkO X.K C)(I:aP X aa d H s)(h:∀x c,H x=am->H c=am->c≠x->Q (.ref x) (upd (upd H c (.own x)) x (.ins C c []))) :
  Bf (Bg X.prog X.w) X.A (call (.ref C) []) (EP X aa d Q) X.xe s:=by
 have f:=h (s.heap.objs.size+1) s.heap.objs.size (I.hok.fresh (sF _)) (I.hok.fresh (bo _)) (bR (nU _));have j:=aP.made (C:=C) I;refine rq (zex I.kIn M.makes M.init (λa=>W.Looks.of_pure (W.oi_bind a)) ?_);have k:=W.makes_of (M:=Bg X.prog X.w) I.kIn M.makes;have i:W.Looks (Bg X.prog X.w) ((s.heap.push eJ).push (f8 C s.heap.objs.size)) (typeOf (.ref (s.heap.objs.size+1))) (.ref C):=by
  have:=bC (s.heap.push eJ) (o:=f8 C s.heap.objs.size) rfl;rw[eV] at this;exact(sP this).andThen .now
 have g:W.Looks (Bg X.prog X.w) ((s.heap.push eJ).push (f8 C s.heap.objs.size)) (isInstance (.ref (s.heap.objs.size+1)) (.type "object")) ak:=i.andThen (k.top.keeps λb o e=>bc (f8 C s.heap.objs.size) (bc eJ e));refine codeAny_call_builtin W.oi_plain W.entry_oi (W.check_slot (rest:=[]) (kw:=[]) W.oi_kind W.oi_split g (W.oi_args _) ?_);rw[W.oi_run];exact bg ⟨Z,V.ref (s.heap.objs.size+1),_,j,Z,f⟩
theorem zbV(M:MkO X.K C)(c:Gl X x)(b:X.mg x=U (.ref C))(a:(x==("__debug__":Str))=aq:=by lia):PE X (.Call (.Name x p) [] [] pos) (zde C):=by
 intro e s d H Q I h;refine fC (vj I c b ?_ a);exact pU I.kIn M.kp (zeZ M I h)
end
def zgD(j:List (L×Sp))(m:Str)(E:XK)(g:TE)(t:TA):TE:=λb H Q=>g b H λx e=>∃a h d C c,x=.ref a/\e a=U (.ins C h d)/\d.lookup m=am/\(C,c)∈j/\t b e λf i=>c (x::f) i Q E
structure MOk(X:Cx)(CX:CXT)(m:Str)(C:L)(sp:Sp):Prop where
 cl:ua X.K C
 fn:∃k f fd ps,zac X.K C m f/\tq X.prog X.w X.K X.mg X.base CX k f fd ps sp/\tD k X.A/\tE X.K fd ps []
section
variable {X:Cx}{CX:CXT}{E:XK}{m:Str}{pos tj:Pos}{e o:aB}{es:List aB}{ta:TE}{t:TA}{Bp:List (L×Sp)}{C:L}{sp:Sp}
theorem zgE(c:ua X.K C)(b:zac X.K C m f)(F:tq X.prog X.w X.K X.mg X.base CX k f fd ps sp)(a:tD k X.A)(d:tE X.K fd ps []):MOk X CX m C sp:=⟨c,k,f,fd,ps,b,F,a,d⟩
theorem zjE:∀z∈([]:List (L×Sp)),MOk X CX m z.1 z.2:=λz h=>nomatch h
theorem zaC(h:MOk X CX m C sp)(r:∀z∈Bp,MOk X CX m z.1 z.2):∀z∈(C,sp)::Bp,MOk X CX m z.1 z.2:=λz hz=>by
 rcases bw.mp hz with rfl|hz
 .exact h
 .exact r z hz
theorem zgF{pl:Sem Bool}(O:PE X o ta)(hL:∀z∈Bp,MOk X CX m z.1 z.2)(J:wz CX X E)(ha:PA X (e::es) t) (b:Be (e::es) X.env=(aq,eval e X.env)::Be es X.env:=by rfl) (d:(backTo pos (Be es X.env)).any (·.1)=aq:=by rfl) (M:eval (.Call (.Attribute o m tj) (e::es) [] pos) X.env=(do
   let i <-eval o X.env
   standAt tj.atName
   let (f,first) <-holding [i] (getMethod i m pl)
   callWith pos f first (backTo pos (Be (e::es) X.env)) (backToKw pos (keywordEach [] X.env))):=by rfl) :
  PE X (.Call (.Attribute o m tj) (e::es) [] pos) (zgD Bp m E ta t):=by
 intro n s g H Q I h;refine lR (pl:=pl) (aZ (O n s g H _ I h) ?_) M;rintro u w ⟨x,H1,v,y,a,dx,fs,C,sp,ex,ea,l,G,q⟩;subst ex;obtain rfl:u=bO a:=y;obtain⟨c,k,f,fd,ps,j,F,N,T⟩:=hL _ G;refine qf v ea c j l ?_;refine mC (first:=[.ref a]) (h₀:=X.base) I.ok.mod.kin j.kp (aZ (ha pos n w g H1 _ v q) λus s2 ⟨vs,H2,p,r,A⟩=>⟨p.kIn,?_⟩) b d;exact zad (us:=.ref a::us) (vs:=.ref a::vs) (dvs:=[]) F N T .nil J p (.cons Z r) (by rw[gy];exact A)
end
section
variable {X:Cx}{CX:CXT}{k:Nat}{f C:L}{fd:Bc}{ps:List Str}{sp:Sp}{dvs:List V}{E:XK}{x:Str}{p pos:Pos}{e:aB}{es:List aB}{t:TA}
theorem zgG(M:Mk X.K C f)(F:tq X.prog X.w X.K X.mg X.base CX k f fd ps sp)(h:tD (k+1) X.A)(j:Gl X x)(i:X.mg x=U (.ref C))(c:∃d,aR dvs d/\tE X.K fd ps d)(g:wz CX X E) (n:PA X (e::es) t) (b:(x==("__debug__":Str))=aq:=by lia) (l:Be (e::es) X.env=(aq,eval e X.env)::Be es X.env:=by rfl) (a:(backTo pos (Be es X.env)).any (·.1)=aq:=by rfl) :
  PE X (.Call (.Name x p) (e::es) [] pos) (Yv C sp dvs E t):=by
 obtain⟨d,m,c⟩:=c;exact Z7 M F h j i c m g n b l a
end
end L2
namespace HT
open PySem PySem.Spec PyProof.Rows
end HT
namespace L2
open PySem PySem.Spec PyProof.Rows
end L2
namespace L2
open PySem
end L2
namespace L2
open PySem PySem.Spec PyProof.Rows
end L2
namespace L2
open PySem PySem.Spec PySem.W PyProof.Rows
end L2
namespace L2
open PySem PySem.Spec PySem.W PyProof.Rows PySem.Calls
end L2
namespace L2
open PySem PySem.Spec PyProof.Rows
structure FG(K:bA)(mg:Str->Option af)(x:Str)(st:aA)(ps:List Str)(a:L)(d:Bc):Prop where
 m:mg x=U (.ref a)
 f:Fun K x x st a d
 b:tE K d ps []
structure FM(K:bA)(C:L)(x qual:Str)(st:aA)(ps:List Str)(a:L)(d:Bc):Prop where
 me:zac K C x a
 f:Fun K x qual st a d
 b:tE K d ps []
theorem arS{P:List af->Prop}(h:∀a us,us.length=n->P (a::us)):∀us,us.length=n+1->P us:=λus e=>by
 cases us with
 |nil=>cases e
 |cons a us=>exact h a us (Nat.succ.inj e)
theorem ar0{P:List af->Prop}(h:P []):∀us,us.length=0->P us:=λus e=>by
 cases us with
 |nil=>exact h
 |cons=>cases e
theorem tE.df{K:bA}{c:Bc}{b:List Str}{ds:List af}{T:L}(_:c.defaults=.ref T)(q:K.lookup T=U o)(h:∀a:List af,a.length=b.length-ds.length->∀s:ah,s.heap.get? T=U o->BindsTo s c ⟨a,[]⟩ (b.zip (a++ds))):tE K c b ds:=λs a e d=>h a (by rw[<-d,bx,Nat.add_sub_cancel]) s (e _ _ q)
abbrev QX(K:bA)(a:L):Prop:=∃b,fB K (.ref a) "__getattribute__"=U (U (.builtin "BaseException.__getattribute__"))/\fB K (.ref a) "__getattr__"=U am/\fB K (.ref a) "__class__"=U (U (.builtin "object.__class__"))/\sS K a (.type "object")=U ak/\sS K a (.type "BaseException")=U ak/\sE K (.builtin "object.__class__") "__get__"=U (U (.builtin "getset_descriptor.__get__"))/\W.takesIn K (.builtin "object.__class__")=U ak/\W.clsIn K a=U b
theorem QX.to{K:bA}(q:QX K a):ExK K a:=by
 obtain⟨j,i,h,g,f,e,d,c,b⟩:=q;exact⟨⟨i,h,g,f,e,d,c⟩,by rw[b];rfl⟩
section
variable {X:Cx}{CX:CXT}{j k:Nat}{a C:L}{d:Bc}{ps:List Str}{sp:Sp}{x m qual:Str}{st:aA}{p pos tj:Pos}{o e:aB}{es:List aB}{ta:TE}{t:TA}{E:XK}
theorem tL(F:tq X.prog X.w X.K X.mg X.base CX j a d ps sp)(G:FG X.K X.mg x st ps a d)(g:tD k X.A)(f:wz CX X E)(n:PA X (e::es) t)(h:j<=k:=by lia)(i:Gl X x:=by exact rfl)(c:(x==("__debug__":Str))=aq:=by lia)(l:Be (e::es) X.env=(aq,eval e X.env)::Be es X.env:=by rfl)(b:(backTo pos (Be es X.env)).any (·.1)=aq:=by rfl) :
  PE X (.Call (.Name x p) (e::es) [] pos) (zO sp [] E t):=Xf (F.mono h) g i G.m G.f.kp G.b .nil f n c l b
end
theorem aM.m{N P:List Str}{sc:aC}(g:sc.kind=.function:=by rfl)(f:sc.isCoroutine=aq:=by rfl)(e:sc.isGenerator=aq:=by rfl)(d:N.Nodup:=by lia)(c:N.take P.length=P:=by rfl)(b:∀x∈P,sc.names.lookup x=U .local\/sc.names.lookup x=U .cell:=by lia)(a:∀y∈sc.names,y.2≠.free:=by lia):aM N P sc:=⟨g,f,e,d,c,b,a⟩
section
variable {P:av}{w:ay}{K:bA}{mg:Str->Option af}{base:ax}{x qual:Str}{st:aA}{f:L}{fd:Bc}{N ps:List Str}{k:Nat}{sp:Sp}
theorem Fun.okA(F:Fun K x qual st f fd)(S:aM N ps (zl st))(h:∀b H Q E,sp b H Q E->b.length=ps.length/\∀(cdv:af) (A:aw) (a:List Env) (s:ah),tD k (A.deeper (envOfC qual (zl st) s.heap.objs.size f cdv)) ->
   ∃t,PSs (q8 (CX1 P w) P w K mg base N qual (zl st) f cdv A a s H E).nox (wu st) t/\t { nx:=λ_ d=>Q .non d,rt:=Q } (start N b) H):tq P w K mg base (CX1 P w) (k+1) f fd ps sp:=F.ok0 S (λb H Q E z=>(h b H Q E z).1) λcdv A a s H b Q E c z=>(h b H Q E z).2 cdv A a s c
theorem Fun.okB(F:Fun K x qual st f fd)(S:aM N ps (zl st))(h:∀b H Q E,sp b H Q E->b.length=ps.length/\∀(cdv:af) (A:aw) (a:List Env) (s:ah),tD k (A.deeper (envOfC qual (zl st) s.heap.objs.size f cdv)) ->
   ∃t,PSs (q8 (CX1 P w) P w K mg base N qual (zl st) f cdv A a s H E) (wu st) t/\t { nx:=λ_ d=>Q .non d,rt:=Q } (start N b) H):tq P w K mg base (CX1 P w) (k+1) f fd ps sp:=F.ok1 S (λb H Q E z=>(h b H Q E z).1) λcdv A a s H b Q E c z=>(h b H Q E z).2 cdv A a s c
end
section
variable {K:bA}{σ:St}{H:D}{Q:VK}{i:Nat}{k:Int}{p a C dx:L}{xs:List V}{u v:V}{x w f:Str}{fs:List (Str×V)}{te:TE}{A Bn:TS}{Bq:Wg}
theorem Ym(d:σ[i]?=U (U (.ref p)))(c:H p=U (.tup xs))(b:uq xs k=U u)(q:Q u H):aN (yR K) (B i) (tC (.int k)) σ H Q:=⟨_,d,p,xs,k,u,Z,Z,tI.of c,b,q⟩
theorem Zq(d:σ[i]?=U (U (.ref a)))(b:H a=U (.ins C dx fs))(c:ua K C)(n:aQ K C f)(l:fs.lookup f=U v)(q:Q v H):zU K (B i) f σ H Q:=⟨_,d,a,C,dx,fs,v,Z,b,c,n,l,q⟩
theorem zku(h:∀Q:VK,Q (.str x) H->te σ H Q)(a:x=w->A Bq σ H)(b:x≠w->Bn Bq σ H):zW (zG (aN tX te (tC (.str w)))) A Bn Bq σ H:=by
 refine h _ ⟨Z,_,Z,?_⟩;by_cases c:x=w
 .show if _ then _ else _
  rw[au (by rw[c];exact Bj Z)];exact a c
 .show if _ then _ else _
  rw[ao (by rw[decide_eq_true_eq];exact λz=>c (V.str.inj z))];exact b c
theorem qt(e:σ[i]?=U (U (.ref p)))(d:H p=U (.tup xs))(c:uq xs k=U (.str x))(a:x=w->A Bq σ H)(b:x≠w->Bn Bq σ H):zW (zG (aN tX (aN (yR K) (B i) (tC (.int k))) (tC (.str w)))) A Bn Bq σ H:=zku (λQ q=>Ym e d c q) a b
theorem zgH(c:σ[i]?=U (U (.ref l)))(b:H l=U (.lst xs))(q:Q (.int xs.length) H):tJ (wJ K) (zd (B i) zk) σ H Q:=by
 refine⟨_,c,.ref l,xs.length,Z,?_,q⟩;simp only[zjl];exact .inl ⟨_,aT.of b,Z⟩
theorem zkv{n:Int}{P R:Prop}(a:n≠0->P)(b:n=0->R):if (!decide (V.int n=V.int 0))=ak then P else R:=by
 by_cases c:n=0
 .rw[ao (by rw[c];decide)];exact b c
 .rw[au (by rw[Bk (λz=>c (V.int.inj z))];rfl)];exact a c
theorem zkw{n:Int}{P R:Prop}(a:n=0->P)(b:n≠0->R):if decide (V.int n=V.int 0)=ak then P else R:=by
 by_cases c:n=0
 .rw[au (by rw[c];decide)];exact a c
 .rw[ao (by rw[Bk (λz=>c (V.int.inj z))];decide)];exact b c
end
end L2
namespace L2
open PySem PySem.Spec PySem.W PyProof.Rows
abbrev zi3:RC:=λe H Q=>∃(a:L) (c:List (aW×V)) (d:List Int),e=[.ref a]/\H a=U (.dK c)/\c.map (·.1)=d.map ik/\c.length<64 /\
 ∀(l:L) (b:List Int),H l=am->b.Perm d->b.Pairwise (· < ·)->Q (.ref l) (upd H l (.lst (b.map V.int)))
theorem QG:∀ {a:List af} {b:List Int},IntsAre a b->aR (b.map V.int) a
 |_,_,.nil=>.nil
 |_,_,.cons _ t h=>.cons ⟨t,Z⟩ (QG h)
theorem ze0{P:av}{w:ay}{i:List (aW×V)}{f:List (aW×af)}(a:KV i f):∀ {e:List DictEntry} {c:List Int},Pairs (yA P w) e f->i.map (·.1)=c.map ik->IntsAre (e.map (·.key)) c/\f.map (·.1)=c.map ik:=by
 induction a with
 |nil =>
  intro e c b d;cases b;cases c with
  |nil=>exact⟨.nil,Z⟩
  |cons=>cases d
 |cons h kv ih =>
  intro e c b d;cases c with
  |nil=>cases d
  |cons r c =>
   cases b with
   |cons hk _ pr =>
    obtain⟨n,m⟩:=sX d;obtain⟨l,k⟩:=ih pr m;have g:=h.1.symm.trans n;rcases yK hk with ⟨j,t,ej,et⟩|⟨x,t,ej,et⟩
    .rw[g] at ej;cases ej;refine⟨?_,by rw[bh,bh,k,g]⟩;rw[bh,et];exact .cons _ t l
    .rw[g] at ej;cases ej
section
variable {X:Cx}{p pos kp:Pos}{e:aB}{ta:TE}
theorem zif{A:List (L×Obj)}{w:St}{H:D}{s:ah}{a:L}{v:List (aW×V)}{k:List Int}{Q:VK}{u:List (Str×af)}{O:List Int->Prop}(hc:X.calm=ak)(I:aP X A w H s)(ha:H a=U (.dK v))(J:v.map (·.1)=k.map ik)(ag:v.length<64) (hs:∀(R:PySem.Fin->ah->Prop) (s:ah) (b:L) (r:List af),s.heap.get? b=U (seqObj "list" r.toArray 0)->IntsAre r k->r.length<64->(∀(out:Array af) (n:List Int),IntsAre out.toList n->n.Perm k->(k.Nodup->O n)->R (.done (.ret .none)) { s with heap:=sortedHeap s.heap b r out })->Bf (Bg X.prog X.w) X.A.in1.in1 (Builtin.«list.sort» ⟨[.ref b],u⟩) R X.xe s) (hw:argsOk "sorted" ⟨[.ref a],u⟩) (y:∀b:L,argsOk "list.sort" ⟨[.ref b],u⟩) (q:∀(l:L) (g:List Int),H l=am->g.Perm k->O g->Q (.ref l) (upd H l (.lst (g.map V.int)))) :
  Bf (Bg X.prog X.w) X.A (call (.builtin "sorted") [.ref a] u) (EP X A w Q) X.xe s:=by
 obtain⟨hz,lo,r,G,o,es,ep,ho,hx,hd,ae,C,hn⟩:=(show aV X.prog X.w H s.heap a (.dK v) from I.hok a _ ha);obtain⟨x,ev⟩:=ze0 G C J;have T:k.Nodup:=xH (f:=(ik:Int->aW)) (by rw[<-ev];exact hn);have il:es.size<64:=by have:=G.length;have:=C.length;rw[cq] at this;lia
 have cl:=bM (show es.size<=1000 by lia) (show 1000<=Bb by lia);refine call_function_entry_kw kind_sorted rR rS hw ?_;unfold Builtin.«sorted»;refine ba (m:=checkCount "sorted" 1 1 _) (bg ?_);refine ba (WO (zat (ep:=ep) (es:=es) lo) (I.ok.hd hc) ⟨o,ho,hx,hd⟩ cl λh t d k1 hl hG=>?_);have ew:d=es.toList.map (·.key):=by
  apply dU;intro i;by_cases hi:i<d.length
  .obtain⟨e,z,ek⟩:=hG i d[i] (bb hi);rw[bb hi,ek,bt,c9,z];rfl
  .rw[b6 (),b6 (by rw[bd,cq];lia)]
 rw[<-ew] at x;have j:(h.push (seqObj "list" d.toArray 0)).get? h.objs.size=U (seqObj "list" d.toArray 0):=bC _ rfl;refine ba (nM ?_ (by rw[bL];lia));refine ba (dF (wpAny_call_entry_kw pG ⟨_,j,Z⟩ oJ (hs _ { s with heap:=h.push (seqObj "list" d.toArray 0),toks:=t } _ d j x () λout n a1 M a3=>⟨_,rfl,bg ⟨_,rfl,?_⟩⟩) (y _)));obtain⟨c,hD⟩:=sortedHeap_at (out:=out) j;have N:aP X A w H { s with heap:=h,toks:=t }:=I.kept k1;have nl:=M.length_eq;have rl:=IntsAre.length x;refine⟨.ref h.objs.size,_,N.laid (s:={ s with heap:=h,toks:=t }) (a:=h.objs.size) (o:=.lst (n.map V.int)) (t':=t) (λb o e=>?_) (bo _) ⟨by rw[bd];exact bM (show n.length<=1000 by have:=congrArg fT J;rw[bd,bd] at this;lia) (),_,c,QG a1,hD⟩,Z,q _ _ (N.hok.fresh (bo _)) M (a3 T)⟩;have E:=bI e;exact(sortedHeap_old (bR E) (by rw[size_push'];exact rB E)).trans (bc _ e)
theorem zaD(l:X.calm=ak):jK X (.builtin "sorted") zi3:=by
 intro J s y H A E Q I r h;obtain⟨a,M,G,rfl,m,k,d,q⟩:=h;obtain⟨u,rfl,g⟩:=kI r;cases g;exact zif l I m k d (O:=λn=>n.Pairwise (· < ·)) (λR s b C v t o h=>list_sort_tree v t o λc i x f w=>h c i x f λj=>(w.and (f.nodup_iff.mpr j)).imp λz=>by lia) (rT _) (λ_=>pH _) q
end
section
variable {X:Cx}{CX:CXT}{i j k:Nat}{f C:L}{fd:Bc}{ps:List Str}{sp:Sp}{x m qual:Str}{st:aA}{pos pos' tj:Pos}{o a b e:aB}{es:List aB}{te ta tb:TE}{t:TA}{E:XK}
theorem zw(n:X.N.Nodup)(l:PE X e te)(g:X.N[i]?=U x:=by rfl)(c:Loc X.env.scope x:=by exact .inl Z)(d:swapsWith e (U (.Name x pos')) pos.line X.env=pure aq:=by rfl)(h:X.fn x=ak\/X.env.scope.names.lookup x=U .local:=by first|exact .inl rfl|exact .inr rfl|assumption) :
  PS X (.Assign [.Name x pos'] e pos) (zS te (zv i)):=YR n g c l d h
theorem yu(h:X.N.Nodup)(d:X.N[i]?=U x:=by rfl)(c:Loc X.env.scope x:=by exact .inl Z)(g:X.fn x=ak\/X.env.scope.names.lookup x=U .local:=by first|exact .inl rfl|exact .inr rfl|assumption):PG X (.Name x pos) (zv i):=wq h d c g
theorem zA{r:R2}(d:IxR X r)(h:PE X a ta)(g:PE X b tb)(c:zdD b:=by exact λ_ _=>rfl):PE X (.Subscript a b pos) (aN r ta tb):=zkj d h g c
theorem ub{l:Sem Bool}(s:PE X o ta)(c:ua X.K C)(F:tq X.prog X.w X.K X.mg X.base CX j f fd ps sp)(G:FM X.K C m qual st ps f fd)(q:tD k X.A)(n:wz CX X E)(u:PA X (e::es) t)(r:j<=k:=by lia) (d:Be (e::es) X.env=(aq,eval e X.env)::Be es X.env:=by rfl) (g:(backTo pos (Be es X.env)).any (·.1)=aq:=by rfl) (p:eval (.Call (.Attribute o m tj) (e::es) [] pos) X.env=(do
   let h <-eval o X.env
   standAt tj.atName
   let (f,first) <-holding [h] (getMethod h m l)
   callWith pos f first (backTo pos (Be (e::es) X.env)) (backToKw pos (keywordEach [] X.env))):=by rfl) :
  PE X (.Call (.Attribute o m tj) (e::es) [] pos) (zI C m sp [] E ta t):=zae s c G.me (F.mono r) q G.b .nil n u d g p
theorem we{g:Sem Bool}(q:PE X o ta)(c:ua X.K C)(F:tq X.prog X.w X.K X.mg X.base CX j f fd ps sp)(G:FM X.K C m qual st ps f fd)(n:tD k X.A)(h:wz CX X E)(p:j<=k:=by lia) (l:eval (.Call (.Attribute o m tj) [] [] pos) X.env=(do
   let d <-eval o X.env
   standAt tj.atName
   let (f,first) <-holding [d] (getMethod d m g)
   callWith pos f first (backTo pos (Be [] X.env)) (backToKw pos (keywordEach [] X.env))):=by rfl) :
  PE X (.Call (.Attribute o m tj) [] [] pos) (zI C m sp [] E ta zk):=zbh q c G.me (F.mono p) n G.b .nil h l
end
end L2
namespace K48
open PySem L2
abbrev zZZ(n:Nat)(x:List L2.V):L2.St:=x.map some++List.replicate (n-x.length) none
abbrev ad:=rI (λ_ j=>0<j) λi j=>.int (i%j)
abbrev aE:=rI0 λi j=>.int (i+j)
abbrev aF:=rI yF λi j=>.int (i/j)
abbrev aG:=rI0 λi j=>.bl (decide (i<j))
abbrev aH:=rI0 λi j=>.int (i-j)
abbrev aI:=rI CMulB λi j=>.int (i*j)
abbrev mt(Q:VK):Wg:={nx:=λ_ a=>Q .non a,rt:=Q}
def top(i:Nat):aA:=PySem.Challenge.pw_forerun_k48_folding_changes_nothing.main.body.getD i (.Pass ⟨0,0,0,0⟩)
abbrev kQ:aA:=top 38
abbrev Xq:aA:=top 37
abbrev Zr:aA:=top 39
abbrev Yx:aA:=top 40
abbrev qu:aA:=top 45
abbrev Xr:aA:=top 48
abbrev Xs:aA:=zP (top 12) 0
abbrev WR:aA:=zP (top 14) 0
abbrev WS:aA:=zP (top 26) 0
abbrev Zs:aA:=zP (top 34) 0
abbrev WT:aA:=top 47
abbrev jO:aA:=zP (top 12) 8
abbrev YX:aA:=top 7
abbrev Xt:aA:=top 9
abbrev Xu:aA:=zP (top 12) 1
abbrev wL:aA:=zP (top 12) 3
abbrev jP:aA:=zP (top 12) 6
abbrev WU:aA:=top 11
abbrev jQ:aA:=zP (top 12) 9
abbrev qv:aA:=zP (top 12) 4
abbrev Zt:aA:=zP (top 26) 4
abbrev WV:aA:=zP (top 26) 7
abbrev Zu:aA:=top 36
abbrev Yy:aA:=top 29
abbrev Jq:aA:=top 28
abbrev QH:aA:=top 30
abbrev Jr:aA:=zP (top 24) 1
abbrev QI:aA:=top 19
abbrev QJ:aA:=top 20
abbrev Js:aA:=top 16
abbrev zbW:aA:=top 21
abbrev Jt:aA:=top 22
abbrev Zv:aA:=zP (top 24) 5
abbrev Zw:aA:=zP (top 24) 6
abbrev Ju:aA:=zP (top 24) 2
abbrev WW:aA:=zP (top 24) 9
abbrev Jv:aA:=zP (top 24) 8
abbrev Xv:aA:=zP (top 24) 7
abbrev Jw:aA:=zP (top 24) 3
abbrev vW:aA:=zP (top 14) 4
abbrev w6:aA:=zP (top 14) 5
abbrev qM:aA:=zP (top 14) 2
abbrev kR:aA:=zP (top 33) 0
abbrev kS:aA:=zP (top 34) 1
abbrev Xw:aA:=zP (top 32) 0
abbrev Jx:aA:=zP (top 24) 0
abbrev qN:aA:=zP (top 26) 11
abbrev jR:aA:=zP (top 26) 10
abbrev Jy:aA:=top 10
abbrev WX:aA:=zP (top 12) 2
abbrev jv:aA:=zP (top 12) 7
abbrev Xx:aA:=zP (top 14) 3
abbrev qO:aA:=zP (top 14) 1
abbrev WY:aA:=zP (top 24) 4
abbrev WZ:aA:=zP (top 26) 2
abbrev Yz:aA:=top 49
abbrev Xy:aA:=top 46
abbrev kT:aA:=zP (top 26) 9
abbrev Jz:aA:=zP (top 26) 1
abbrev Xz:aA:=top 51
abbrev qw:aA:=zP (top 12) 5
abbrev W0:aA:=zP (top 26) 8
abbrev vX:aA:=top 50
abbrev XA:aA:=zP (top 26) 6
abbrev jS:aA:=top 52
abbrev W4:aA:=top 41
abbrev W5:aA:=top 42
abbrev JA:aA:=top 43
abbrev Zx:aA:=top 44
abbrev YA:aA:=zP (top 26) 3
abbrev ku:aA:=zP (top 26) 5
abbrev zgI:aA:=top 53
theorem XB:aM ["word"] ["word"] (zl kQ):=.m
theorem q0g:aM ["cell","many","found","one","two","k"] ["cell","many"] (zl Xq):=.m
theorem q0j:aM ["cell","letters","word","one","at","letter"] ["cell"] (zl Zr):=.m
theorem JB:aM ["number"] ["number"] (zl Yx):=.m
theorem q0o:aM ["cell","shelves","xs","found","k","worth"] ["cell","shelves"] (zl qu):=.m
theorem Ku:aM ["cell"] ["cell"] (zl Xr):=.m
theorem Kv:aM ["self","table"] ["self","table"] (zl Xs):=.m
theorem zaE:aM ["self","makes"] ["self","makes"] (zl WR):=.m
theorem zaF:aM ["self","table","hands","way","first"] ["self","table","hands","way","first"] (zl WS):=.m
theorem Vp:aM ["self"] ["self"] (zl Zs):=.m
theorem q0u:aM ["table","hands","cell","way"] ["table","hands","cell"] (zl WT):=.m
theorem YY:aM ["self","rank"] ["self","rank"] (zl jO):=.m
theorem q1d:aM ["rows","worths"] ["rows"] (zl YX):=.m
theorem q0k:aM ["ranks","rank","low","high","amid"] ["ranks","rank"] (zl Xt):=.m
theorem q11:aM ["self","place","rank","ranks","below"] ["self","place","rank"] (zl Xu):=.m
theorem q1e:aM ["self","rank","places"] ["self","rank"] (zl wL):=.m
theorem YZ:aM ["self","rank"] ["self","rank"] (zl jP):=.m
theorem q1f:aM ["ranks_at","place","rank","ranks"] ["ranks_at","place","rank"] (zl WU):=.m
theorem q12:aM ["self","rank","places","place"] ["self","rank"] (zl jQ):=.m
theorem q13:aM ["self","rank","lower","laid"] ["self","rank"] (zl qv):=.m
theorem Vq:aM ["self"] ["self"] (zl Zt):=.m
theorem zaG:aM ["self"] ["self"] (zl WV):=.m
theorem Vr:aM ["script","k"] ["script","k"] (zl Zu):=.m
theorem q0v:aM ["row","at","steps","to","others"] ["row","at"] (zl Yy):=.m
theorem q14:aM ["rows","first","steps","row"] ["rows","first"] (zl Jq):=.m
theorem zdf:aM ["rows"] ["rows"] (zl QH):=.m
theorem zbX:aM ["self"] ["self"] (zl Jr):=.m
theorem zdg:aM ["word","first","second"] ["word","first","second"] (zl QI):=.m
theorem zdh:aM ["word","first","second"] ["word","first","second"] (zl QJ):=.m
theorem zbY:aM ["thing"] ["thing"] (zl Js):=.m
theorem q1g:aM ["word","first","second","worth"] ["word","first","second"] (zl zbW):=.m
theorem q0p:aM ["term","slots","worths","part","second","first"] ["term","slots"] (zl Jt):=.m
theorem Vs:aM ["self","term"] ["self","term"] (zl Zv):=.m
theorem Vt:aM ["self","due"] ["self","due"] (zl Zw):=.m
theorem q1h:aM ["self","place"] ["self"] (zl Ju):=.m
theorem zaH:aM ["self","place","worth"] ["self","place","worth"] (zl WW):=.m
theorem q1i:aM ["self","due","worth","place"] ["self","due","worth"] (zl Jv):=.m
theorem Kw:aM ["self","due","worth"] ["self","due","worth"] (zl Xv):=.m
theorem zbZ:aM ["self","worth"] ["self","worth"] (zl Jw):=.m
theorem q0w:aM ["self","rank","place","worth","now"] ["self","rank"] (zl vW):=.m
theorem q0x:aM ["self","ranks","rank","note"] ["self"] (zl w6):=.m
theorem q0y:aM ["self","rank","paper","place","worth"] ["self","rank"] (zl qM):=.m
theorem XC:aM ["self","ranks"] ["self","ranks"] (zl kR):=.m
theorem q1j:aM ["self","ranks","at"] ["self","ranks"] (zl kS):=.m
theorem Kx:aM ["self","ranks"] ["self","ranks"] (zl Xw):=.m
theorem zb0:aM ["self","code"] ["self","code"] (zl Jx):=.m
theorem q1k:aM ["self","hand","rank"] ["self","hand"] (zl qN):=.m
theorem q15:aM ["self","hand","lowest","changed"] ["self","hand"] (zl jR):=.m
theorem q1l:aM ["ranks_at","place","rank","ranks"] ["ranks_at","place","rank"] (zl Jy):=.m
theorem q16:aM ["self","rank","gifts","worths","place"] ["self","rank","gifts"] (zl WX):=.m
theorem q17:aM ["self","place","rank","ranks","above"] ["self","place","rank"] (zl jv):=.m
theorem q0q:aM ["self","place","rank","readers","above","behind","reader"] ["self","place","rank"] (zl Xx):=.m
theorem q0r:aM ["self","rank","paper","before","place","worth"] ["self","rank","paper"] (zl qO):=.m
theorem q1m:aM ["self","notes"] ["self"] (zl WY):=.m
theorem q0s:aM ["self","hand","rank","run","place","worth"] ["self","hand"] (zl WZ):=.m
theorem q1n:aM ["row","hand","codes","first","runs","ranks","gifts","run"] ["row","hand","codes","first","runs","ranks","gifts"] (zl Yz):=.m
theorem q18:aM ["found","due","one","other"] ["found","due"] (zl Xy):=.m
theorem XD:aM ["self"] ["self"] (zl kT):=.m
theorem q1o:aM ["self","code","rank"] ["self","code"] (zl Jz):=.m
theorem q19:aM ["folds","beside","codes","first","gifts","rank","code"] ["folds","beside","codes","first","gifts"] (zl Xz):=.m
theorem Ky:aM ["self"] ["self"] (zl qw):=.m
theorem zaI:aM ["self"] ["self"] (zl W0):=.m
theorem q1p:aM ["desk","first","gifts","k"] ["desk","first","gifts"] (zl vX):=.m
theorem Kz:aM ["self"] ["self"] (zl XA):=.m
theorem q0l:aM ["folds","beside","codes","first","hands","script","gifts","runs","ranks","cell","hand","row"] ["folds","beside","codes","first","hands","script","gifts"] (zl jS):=.m
theorem q1q:aM ["number","slots","kind"] ["number","slots"] (zl W4):=.m
theorem q1a:aM ["number","slots","words","kind"] ["number","slots"] (zl W5):=.m
theorem q0m:aM ["xs","shelves","slots","kind","shelf","slot","spot","term"] ["xs","shelves","slots"] (zl JA):=.m
theorem q0h:aM ["cell","shelves","slots","xs","rows","at","to","row"] ["cell","shelves","slots"] (zl Zx):=.m
theorem q1r:aM ["self","told"] ["self"] (zl YA):=.m
theorem JC:aM ["self"] ["self"] (zl ku):=.m
theorem q0f:aM ["script","shelves","slots","table","codes","hands","first","folds","beside","gifts","early"] ["script"] (zl zgI):=.m
set_option genSizeOf false in
set_option genInjectivity false in
set_option genInjectivity false in
structure aX where
 a0:L
 d0:Bc
 a1:L
 d1:Bc
 a2:L
 d2:Bc
 a3:L
 d3:Bc
 a4:L
 d4:Bc
 a5:L
 d5:Bc
 a6:L
 d6:Bc
 a7:L
 d7:Bc
 a8:L
 d8:Bc
 a9:L
 d9:Bc
 a10:L
 d10:Bc
 a11:L
 d11:Bc
 a12:L
 d12:Bc
 a13:L
 d13:Bc
 a14:L
 d14:Bc
 a15:L
 d15:Bc
 a16:L
 d16:Bc
 a17:L
 d17:Bc
 a18:L
 d18:Bc
 a19:L
 d19:Bc
 a20:L
 d20:Bc
 a21:L
 d21:Bc
 a22:L
 d22:Bc
 a23:L
 d23:Bc
 a24:L
 d24:Bc
 a25:L
 d25:Bc
 a26:L
 d26:Bc
 a27:L
 d27:Bc
 a28:L
 d28:Bc
 a29:L
 d29:Bc
 a30:L
 d30:Bc
 a31:L
 d31:Bc
 a32:L
 d32:Bc
 a33:L
 d33:Bc
 a34:L
 d34:Bc
 a35:L
 d35:Bc
 a36:L
 d36:Bc
 a37:L
 d37:Bc
 a38:L
 d38:Bc
 a39:L
 d39:Bc
 a40:L
 d40:Bc
 a41:L
 d41:Bc
 a42:L
 d42:Bc
 a43:L
 d43:Bc
 a44:L
 d44:Bc
 a45:L
 d45:Bc
 a46:L
 d46:Bc
 a47:L
 d47:Bc
 a48:L
 d48:Bc
 a49:L
 d49:Bc
 a50:L
 d50:Bc
 a51:L
 d51:Bc
 a52:L
 d52:Bc
 a53:L
 d53:Bc
 a54:L
 d54:Bc
 a55:L
 d55:Bc
 a56:L
 d56:Bc
 a57:L
 d57:Bc
 a58:L
 d58:Bc
 a59:L
 d59:Bc
 a60:L
 d60:Bc
 a61:L
 d61:Bc
 a62:L
 d62:Bc
 a63:L
 d63:Bc
 a64:L
 d64:Bc
 a65:L
 d65:Bc
 a66:L
 d66:Bc
 a67:L
 d67:Bc
 a68:L
 d68:Bc
 a69:L
 d69:Bc
 a70:L
 d70:Bc
 a71:L
 d71:Bc
 q0t:L
 q00:L
 q0a:L
 q0d:L
 q03:L
 q02:L
 q08:L
 q01:L
 q06:L
 q0e:L
structure Txt(K:bA)(mg:Str->Option af)(t:aX):Prop where
 m_law:mg "law"=U (.ref t.a71)
 g_JOINING:mg "JOINING"=U (.ref t.q0t)
 g_Desk:mg "Desk"=U (.ref t.q00)
 g_Great:mg "Great"=U (.ref t.q0a)
 g_Highest:mg "Highest"=U (.ref t.q0d)
 g_Jobs:mg "Jobs"=U (.ref t.q03)
 g_Makes:mg "Makes"=U (.ref t.q02)
 g_Nought:mg "Nought"=U (.ref t.q08)
 g_Run:mg "Run"=U (.ref t.q01)
 g_Turning:mg "Turning"=U (.ref t.q06)
 g_Way:mg "Way"=U (.ref t.q0e)
 me_Run_step:zac K t.q01 "step" t.a38
 q04:ua K t.q00
 mk_Desk:Mk K t.q00 t.a8
 q1w:ua K t.q0d
 mo_Highest:MkO K t.q0d
 q0i:ua K t.q03
 mk_Jobs:Mk K t.q03 t.a7
 q09:ua K t.q02
 mk_Makes:Mk K t.q02 t.a6
 q07:ua K t.q01
 mk_Run:Mk K t.q01 t.a45
 q1s:ua K t.q06
 mk_Turning:Mk K t.q06 t.a9
 q1x:ua K t.q0e
 mo_Way:MkO K t.q0e
 g0:FG K mg "_law_free_name" kQ ["word"] t.a0 t.d0
 g1:FG K mg "_law_draws" Xq ["cell","many"] t.a1 t.d1
 g2:FG K mg "_law_pair" Zr ["cell"] t.a2 t.d2
 g3:FG K mg "_law_number" Yx ["number"] t.a3 t.d3
 g4:FG K mg "_law_table" qu ["cell","shelves"] t.a4 t.d4
 g5:FG K mg "_law_first" Xr ["cell"] t.a5 t.d5
 q1y:Fun K "__init__" "Makes.__init__" Xs t.a6 t.d6
 q1z:tE K t.d6 ["self","table"] []
 q20:Fun K "__init__" "Jobs.__init__" WR t.a7 t.d7
 q21:tE K t.d7 ["self","makes"] []
 q22:FunD K "__init__" "Desk.__init__" WS t.a8 t.d8
 q23:tE K t.d8 ["self","table","hands","way","first"] []
 bd_Desk_init:∃ds,aR [.int 0] ds/\tE K t.d8 ["self","table","hands","way","first"] ds
 q24:Fun K "__init__" "Turning.__init__" Zs t.a9 t.d9
 q25:tE K t.d9 ["self"] []
 g10:FG K mg "_law_desk" WT ["table","hands","cell"] t.a10 t.d10
 g11:FM K t.q02 "heed_fold" "Makes.heed_fold" jO ["self","rank"] t.a11 t.d11
 g12:FG K mg "table_of" YX ["rows"] t.a12 t.d12
 g13:FG K mg "many_below" Xt ["ranks","rank"] t.a13 t.d13
 g14:FM K t.q02 "seen" "Makes.seen" Xu ["self","place","rank"] t.a14 t.d14
 g15:FM K t.q02 "table_for" "Makes.table_for" wL ["self","rank"] t.a15 t.d15
 g16:FM K t.q02 "places_of" "Makes.places_of" jP ["self","rank"] t.a16 t.d16
 g17:FG K mg "drop_rank" WU ["ranks_at","place","rank"] t.a17 t.d17
 g18:FM K t.q02 "take_away" "Makes.take_away" jQ ["self","rank"] t.a18 t.d18
 g19:FM K t.q02 "fold" "Makes.fold" qv ["self","rank"] t.a19 t.d19
 g20:FM K t.q00 "settled" "Desk.settled" Zt ["self"] t.a20 t.d20
 g21:FM K t.q00 "fold" "Desk.fold" WV ["self"] t.a21 t.d21
 g22:FG K mg "_law_cell_at" Zu ["script","k"] t.a22 t.d22
 g23:FG K mg "block_steps" Yy ["row","at"] t.a23 t.d23
 g24:FG K mg "steps_of" Jq ["rows","first"] t.a24 t.d24
 g25:FG K mg "code_of" QH ["rows"] t.a25 t.d25
 g26:FM K t.q01 "over" "Run.over" Jr ["self"] t.a26 t.d26
 g27:FG K mg "divided" QI ["word","first","second"] t.a27 t.d27
 g28:FG K mg "come_to" QJ ["word","first","second"] t.a28 t.d28
 g29:FG K mg "is_worth" Js ["thing"] t.a29 t.d29
 g30:FG K mg "joined" zbW ["word","first","second"] t.a30 t.d30
 g31:FG K mg "reckoned" Jt ["term","slots"] t.a31 t.d31
 g32:FM K t.q01 "worth_of" "Run.worth_of" Zv ["self","term"] t.a32 t.d32
 g33:FM K t.q01 "place_in" "Run.place_in" Zw ["self","due"] t.a33 t.d33
 g34:FM K t.q01 "asks" "Run.asks" Ju ["self"] t.a34 t.d34
 g35:FM K t.q01 "taken" "Run.taken" WW ["self","place","worth"] t.a35 t.d35
 g36:FM K t.q01 "does" "Run.does" Jv ["self","due","worth"] t.a36 t.d36
 g37:FM K t.q01 "led_by" "Run.led_by" Xv ["self","due","worth"] t.a37 t.d37
 q26:FunD K "step" "Run.step" Jw t.a38 t.d38
 q1t:tE K t.d38 ["self","worth"] []
 bd_Run_step:∃ds,aR [.int 0] ds/\tE K t.d38 ["self","worth"] ds
 g39:FM K t.q03 "changed_note" "Jobs.changed_note" vW ["self","rank"] t.a39 t.d39
 g40:FM K t.q03 "lowest_changed" "Jobs.lowest_changed" w6 ["self"] t.a40 t.d40
 g41:FM K t.q03 "take_off" "Jobs.take_off" qM ["self","rank"] t.a41 t.d41
 g42:FM K t.q0d "chosen" "Highest.chosen" kR ["self","ranks"] t.a42 t.d42
 g43:FM K t.q06 "chosen" "Turning.chosen" kS ["self","ranks"] t.a43 t.d43
 g44:FM K t.q0e "chosen" "Way.chosen" Xw ["self","ranks"] t.a44 t.d44
 q27:Fun K "__init__" "Run.__init__" Jx t.a45 t.d45
 q1u:tE K t.d45 ["self","code"] []
 g46:FM K t.q00 "taken_up" "Desk.taken_up" qN ["self","hand"] t.a46 t.d46
 g47:FM K t.q00 "moved_free" "Desk.moved_free" jR ["self","hand"] t.a47 t.d47
 g48:FG K mg "put_rank" Jy ["ranks_at","place","rank"] t.a48 t.d48
 g49:FM K t.q02 "lay" "Makes.lay" WX ["self","rank","gifts"] t.a49 t.d49
 g50:FM K t.q02 "next_above" "Makes.next_above" jv ["self","place","rank"] t.a50 t.d50
 g51:FM K t.q03 "doubt" "Jobs.doubt" Xx ["self","place","rank"] t.a51 t.d51
 g52:FM K t.q03 "lay_down" "Jobs.lay_down" qO ["self","rank","paper"] t.a52 t.d52
 g53:FM K t.q01 "paper" "Run.paper" WY ["self"] t.a53 t.d53
 g54:FM K t.q00 "move" "Desk.move" WZ ["self","hand"] t.a54 t.d54
 g55:FG K mg "_law_follow" Yz ["row","hand","codes","first","runs","ranks","gifts"] t.a55 t.d55
 g56:FG K mg "_law_alike" Xy ["found","due"] t.a56 t.d56
 g57:FM K t.q00 "next_rank" "Desk.next_rank" kT ["self"] t.a57 t.d57
 g58:FM K t.q00 "add" "Desk.add" Jz ["self","code"] t.a58 t.d58
 g59:FG K mg "_law_added" Xz ["folds","beside","codes","first","gifts"] t.a59 t.d59
 g60:FM K t.q02 "kept" "Makes.kept" qw ["self"] t.a60 t.d60
 g61:FM K t.q00 "kept" "Desk.kept" W0 ["self"] t.a61 t.d61
 g62:FG K mg "_law_folded_right" vX ["desk","first","gifts"] t.a62 t.d62
 g63:FM K t.q00 "table" "Desk.table" XA ["self"] t.a63 t.d63
 g64:FG K mg "_law_walk" jS ["folds","beside","codes","first","hands","script","gifts"] t.a64 t.d64
 g65:FG K mg "_law_spot" W4 ["number","slots"] t.a65 t.d65
 g66:FG K mg "_law_term" W5 ["number","slots"] t.a66 t.d66
 g67:FG K mg "_law_row" JA ["xs","shelves","slots"] t.a67 t.d67
 g68:FG K mg "_law_rows" Zx ["cell","shelves","slots"] t.a68 t.d68
 g69:FM K t.q00 "finish" "Desk.finish" YA ["self"] t.a69 t.d69
 g70:FM K t.q00 "papers" "Desk.papers" ku ["self"] t.a70 t.d70
 q28:Fun K "law" "law" zgI t.a71 t.d71
 q34:tE K t.d71 ["script"] []
 w_law:∀(s:ah) (v:af),BindsTo s t.d71 ⟨[v],[]⟩ [("script",v)]
 q1v:mg "bool"=am
 q0z:mg "dict"=am
 b_int:mg "int"=am
 q0c:mg "isinstance"=am
 q05:mg "len"=am
 q0b:mg "list"=am
 q0n:mg "range"=am
 q10:mg "sorted"=am
 q1b:mg "str"=am
 q1c:mg "sum"=am
 b_tuple:mg "tuple"=am
 b_zip:mg "zip"=am
 q29:∀H:D,tI K H t.q0t [.str "plus",.str "minus",.str "times",.str "over",.str "rest",.str "under",.str "same"]
 q2a:aQ K t.q00 "codes"
 q2b:aQ K t.q00 "ended"
 q2c:aQ K t.q00 "first"
 q2d:aQ K t.q00 "hands"
 q2e:aQ K t.q00 "held"
 q2f:aQ K t.q00 "jobs"
 q2g:aQ K t.q00 "makes"
 q2h:aQ K t.q00 "waiting"
 q2i:aQ K t.q00 "way"
 q2j:aQ K t.q03 "doubted"
 q2k:aQ K t.q03 "laid"
 q2l:aQ K t.q03 "makes"
 q2m:aQ K t.q03 "readers"
 q2n:aQ K t.q02 "folded"
 q2o:aQ K t.q02 "ground"
 q2p:aQ K t.q02 "ranks"
 q2q:aQ K t.q02 "worths"
 q2r:aQ K t.q01 "at"
 q2s:aQ K t.q01 "code"
 q2t:aQ K t.q01 "gifts"
 q2u:aQ K t.q01 "notes"
 q2v:aQ K t.q01 "sayings"
 q2w:aQ K t.q01 "slots"
 q2x:aQ K t.q01 "why"
 q2y:aQ K t.q06 "times"
 q2z:sT K t.q08 zfM zan=ak
 y_Nought:ExK K t.q08
 q30:lK K (.ref t.q08) (.ref t.q0a)=U aq
 q31:lK K (.ref t.q08) (.ref t.q08)=U ak
 m_Nought_Great_Nought:sW K (.ref t.q08) [.ref t.q0a,.ref t.q08]=U ak
 q32:sT K t.q0a zfM zan=ak
 y_Great:ExK K t.q0a
 q33:lK K (.ref t.q0a) (.ref t.q0a)=U ak
 q35:lK K (.ref t.q0a) (.ref t.q08)=U aq
 m_Great_Great_Nought:sW K (.ref t.q0a) [.ref t.q0a,.ref t.q08]=U ak
structure KF(K:bA):Prop where
 i_b:fS K (.type "int") (.type "bool")=U aq
 i_s:fS K (.type "int") (.type "str")=U aq
 s_i:fS K (.type "str") (.type "int")=U aq
 i_l:fS K (.type "int") (.type "list")=U aq
 i_t:fS K (.type "int") (.type "tuple")=U aq
 s_l:fS K (.type "str") (.type "list")=U aq
 s_t:fS K (.type "str") (.type "tuple")=U aq
 t_l:fS K (.type "tuple") (.type "list")=U aq
def fin(t:aX)(r:Except Er Int)(Q:VK)(E:XK)(H:D):Prop:=match r with
 |.ok i=>Q (.int i) H
 |.error .nought=>E (.ref t.q08) am H
 |.error .great=>E (.ref t.q0a) am H
 |.error .stuck=>True
def zgJ(t:aX)(e:Er)(E:XK)(H:D):Prop:=match e with
 |.nought=>E (.ref t.q08) am H
 |.great=>E (.ref t.q0a) am H
 |.stuck=>True
def zig(K:bA):Prop:=fS K (.type "int") (.type "bool")=U aq
def tu(H:D)(b:L)(a:List Str):Prop:=H b=U (.lst (a.map V.str))/\∀w∈a,yY w=ak
def Y0:Rw->Prop
 |.off _=>False
 |.iff _ _ _=>False
 |_=>True
def W6:Sp:=λb H Q _=>∃i,b=[.int i]/\∀a,aL H a->Q (.bl (tK i)) a
inductive qx (t:aX) (vs:List V) (H:D) (Q:VK) (E:XK):Prop
 |mk (w a b):vs=[.str w,.int a,.int b]->w.length<=1000->tK a=ak->tK b=ak->(∀H',aL H H'->if b=0 then E (.ref t.q08) am H' else Q (.int (if w="over" then a.fdiv b else a.fmod b)) H')->qx t vs H Q E
inductive qy (t:aX) (vs:List V) (H:D) (Q:VK) (E:XK):Prop
 |mk (w a b):vs=[.str w,.int a,.int b]->w.length<=1000->tK a=ak->tK b=ak->(∀H',aL H H'->if Jd w/\b=0 then E (.ref t.q08) am H' else Q (.int (Jc w a b)) H')->qy t vs H Q E
inductive Yh (t:aX) (vs:List V) (H:D) (Q:VK) (E:XK):Prop
 |mk (w a b):vs=[.str w,.int a,.int b]->w.length<=1000->tK a=ak->tK b=ak->(∀H',aL H H'->fin t (kM w a b) Q E H')->Yh t vs H Q E
inductive Zy (t:aX) (vs:List V) (H:D) (Q:VK) (E:XK):Prop
 |mk (aJ tm sl ps r):vs=[.ref tm,.ref sl]->H tm=U (.tup ps)->H sl=U (.dK aJ)->Good aJ ps r->(∀v∈ps,qo v)->ps.length<=1000->xn aJ->(∀H',aL H H'->fin t r Q E H')->Zy t vs H Q E
inductive Cs where
 |row (r:Rw)
 |skip (e:List V) (to:Nat)
 |go (en:Nat)
def gV.isNil:gV->Bool
 |.nil=>ak
 |.cons _ _=>aq
def blk(e:List V)(k:Nat)(A:List Cs)(b:Bool)(a:List Cs):List Cs :=
 if b=ak then .skip e (k+1+A.length)::A else .skip e (k+2+A.length)::(A++(.go (k+2+A.length+a.length)::a))
mutual
def xM:Rw->Nat->List Cs
 |.iff e a b,k=>blk e k (yd a (k+1)) (gV.isNil b) (yd b (k+2+(yd a (k+1)).length))
 |r,_=>[.row r]
def yd:gV->Nat->List Cs
 |.nil,_=>[]
 |.cons r rs,k=>xM r k++yd rs (k+(xM r k).length)
end
def JE:Rw->Prop
 |.iff _ _ _=>False
 |_=>True
def tQ(H:D)(v:V):Cs->Prop
 |.row r=>hZ Ks H v r/\JE r
 |.skip e b=>∃p a,v=.ref p/\H p=U (.tup [.str "skip",.ref a,.int (b:Nat)])/\H a=U (.tup e)
 |.go c=>∃p,v=.ref p/\H p=U (.tup [.str "go",.int (c:Nat)])
structure Vu(n:Nat)(r:gV):Prop where
 dp:r.deep<n
 ct:r.cnt<=500
 pl:Zn r
def Zz(n:Nat):Sp:=λf H Q _=>∃v e a b,∃k:Nat,f=[v,.int k]/\hZ Ks H v (.iff e a b)/\Vu n a/\Vu n b/\k+(xM (.iff e a b) k).length<=500/\∀l d c,aL H c->c l=U (.lst d)->Paired (tQ c) d (xM (.iff e a b) k)->Q (.ref l) c
def wH(n:Nat):Sp:=λc H Q _=>∃v r,∃k:Nat,c=[v,.int k]/\RlAt Ks H v r/\Vu n r/\k+(yd r k).length<=500/\∀l b a,aL H a->H l=am->a l=U (.lst b)->Paired (tQ a) b (yd r k)->Q (.ref l) a
inductive Y3 (vs:List V) (H:D) (Q:VK) (_E:XK):Prop
 |mk (v r):vs=[v]->RlAt Ks H v r->Vu 6 r->(yd r 0).length<=500->(∀l xs H',aL H H'->H l=am->H' l=U (.lst xs)->Paired (tQ H') xs (yd r 0)->Q (.ref l) H')->Y3 vs H Q _E
structure bv where
 n:Nat
 why:Option Str
 sl:List (aW×V)
 gi:List aO
 no:List aO
 sa:List Int
structure RAd where
 dx:L
 co:L
 sl:L
 gi:L
 no:L
 sa:L
def zkS:Option Str->V
 |none=>.non
 |some w=>.str w
def zjF(a:RAd)(s:bv):List (Str×V):=[(bf "code",.ref a.co),(bf "at",.int s.n),(bf "why",zkS s.why),(bf "slots",.ref a.sl),(bf "gifts",.ref a.gi),(bf "notes",.ref a.no),(bf "sayings",.ref a.sa)]
structure dl(t:aX)(H:D)(x:L)(a:RAd)(C:List Cs)(s:bv):Prop where
 ix:H x=U (.ins t.q01 a.dx (zjF a s))
 hc:∃xs,H a.co=U (.lst xs)/\Paired (tQ H) xs C
 hs:H a.sl=U (.dK s.sl)
 hg:H a.gi=U (.dT (tF s.gi))
 hn:H a.no=U (.dT (tF s.no))
 ha:H a.sa=U (.lst (s.sa.map V.int))
 ng:a.gi≠a.no
 nc:a.co≠a.sa
def Ow(x:L)(a:RAd)(b:L):Prop:=b=x\/b=a.sl\/b=a.gi\/b=a.no\/b=a.sa
def OwA(x:L)(a:RAd)(b:L):Prop:=Ow x a b\/b=a.co
def Kp(x:L)(a:RAd)(H c:D):Prop:=∀b o,¬ Ow x a b->H b=U o->c b=U o
def W7(x:L)(H a:D):Prop:=∀b o,b≠x->H b=U o->a b=U o
structure RnOk(m:Nat)(s:bv):Prop where
 so:xn s.sl
 gw:∀r∈s.gi,tK r.2=ak
 nw:∀r∈s.no,tK r.2=ak
 l1:s.sl.length<=m
 l2:s.gi.length<=m
 l3:s.no.length<=m
 l4:s.sa.length<=m
 nd:(s.no.map (·.1)).Nodup
def zaJ:Cs->Prop
 |.row r=>Zl r
 |.skip e _=>aY e
 |.go _=>True
def yI(C:List Cs)(s:bv):Bool:=s.why.isSome || decide (C.length<=s.n)
def kU(p:Pl)(w:Int)(s:bv):bv:=if (zC s.gi p).isSome=ak\/(zC s.no p).isSome=ak then s else { s with no:=s.no++[(p,w)] }
def JF(p:Pl)(w:Int)(s:bv):Int:=(zC s.gi p).getD ((zC s.no p).getD w)
def t8:Rw->Int->bv->Except Er bv
 |.take sh e x,w,s=>match rk s.sl e with
  |.error er=>.error er
  |.ok n=>.ok { kU (sh,n) w s with sl:=yS s.sl (.inr x) (.int (JF (sh,n) w s)) }
 |.give sh e f,_,s=>match rk s.sl e with
  |.error er=>.error er
  |.ok n=>match rk s.sl f with
   |.error er=>.error er
   |.ok i=>.ok { s with gi:=s.gi++[((sh,n),i)] }
 |.lt x e,_,s=>match rk s.sl e with
  |.error er=>.error er
  |.ok i=>.ok { s with sl:=yS s.sl (.inr x) (.int i) }
 |.say e,_,s=>match rk s.sl e with
  |.error er=>.error er
  |.ok i=>.ok { s with sa:=s.sa++[i] }
 |_,_,s=>.ok s
def v9:Cs->Int->bv->Except Er (Nat×bv)
 |.go k,_,s=>.ok (k,s)
 |.skip e to,_,s=>match rk s.sl e with
  |.error er=>.error er
  |.ok i=>.ok (if i=0 then to else s.n+1,s)
 |.row (.off e),_,s=>match rk s.sl e with
  |.error er=>.error er
  |.ok i=>.ok (s.n+1,if i=0 then s else { s with why:=U (bf "told") })
 |.row r,w,s=>match t8 r w s with
  |.error er=>.error er
  |.ok s'=>.ok (s.n+1,s')
def xE(c:Cs)(w:Int)(s:bv):bv:=match v9 c w s with
 |.ok (k,s')=>{ s' with n:=k }
 |.error er=>{ s with why:=U (zbM er) }
def xD(C:List Cs)(w:Int)(s:bv):bv:=if yI C s=ak then s else match C[s.n]? with
 |none=>s
 |some c=>xE c w s
def kW(c:Cs)(s:bv):Option Pl:=match c with
 |.row (.take sh e _)=>match rk s.sl e with
  |.error _=>am
  |.ok n=>if (zC s.gi (sh,n)).isSome=ak\/(zC s.no (sh,n)).isSome=ak then am else U (sh,n)
 |_=>am
def jT(C:List Cs)(s:bv):Option Pl:=if yI C s=ak then am else (C[s.n]?).bind λc=>kW c s
abbrev zb1(H:D)(v:V)(q:aO):Prop:=PrAt H v q
abbrev Y4(H:D)(a:List V)(b:List aO):Prop:=Paired (PrAt H) a b
def tN(H:D)(a:L)(c:List aO):Prop:=∃b,H a=U (.lst b)/\Paired (PrAt H) b c
def zaK(H:D)(v:V):Oc->Prop
 |.done sa=>∃o y,v=.ref o/\H o=U (.tup [.str "done",.ref y])/\H y=U (.tup (sa.map V.int))
 |.off w=>∃o,v=.ref o/\H o=U (.tup [.str "off",.str w])
def zgK(s:bv):Oc:=match s.why with
 |some w=>.off w
 |none=>.done s.sa
def Y5(s:bv)(a:List aO):Prop:=match s.why with
 |some _=>a=[]
 |none=>tT a/\∀p w,(p,w)∈a↔zC s.gi p=U w
structure RnF(K:bA)(t:aX):Prop where
 cl:ua K t.q01
 n1:aQ K t.q01 "code"
 n2:aQ K t.q01 "at"
 n3:aQ K t.q01 "why"
 n4:aQ K t.q01 "slots"
 n5:aQ K t.q01 "gifts"
 n6:aQ K t.q01 "notes"
 n7:aQ K t.q01 "sayings"
def st0:bv:=⟨0,am,[],[],[],[]⟩
inductive jU (t:aX) (vs:List V) (H:D) (Q:VK) (_E:XK):Prop
 |mk (x l dx xs) (C:List Cs):vs=[.ref x,.ref l]->H x=U (.ins t.q01 dx [])->H l=U (.lst xs)->Paired (tQ H) xs C->(∀H' a,W7 x H H'->dl t H' x a C st0->(∀b,OwA x a b->b=x\/H b=am)->Q .non H')->jU t vs H Q _E
inductive xu (t:aX) (vs:List V) (H:D) (Q:VK) (_E:XK):Prop
 |mk (x) (a:RAd) (C:List Cs) (s:bv):vs=[.ref x]->dl t H x a C s->(∀H',aL H H'->Q (.bl (yI C s)) H')->xu t vs H Q _E
inductive yq (t:aX) (vs:List V) (H:D) (Q:VK) (E:XK):Prop
 |mk (x tm e) (a:RAd) (C:List Cs) (s:bv):vs=[.ref x,.ref tm]->dl t H x a C s->xn s.sl->H tm=U (.tup e)->aY e->(∀H',aL H H'->fin t (rk s.sl e) Q E H')->yq t vs H Q E
inductive yO (t:aX) (vs:List V) (H:D) (Q:VK) (E:XK):Prop
 |mk (x p xs sh te e) (a:RAd) (C:List Cs) (s:bv):vs=[.ref x,.ref p]->dl t H x a C s->xn s.sl->H p=U (.tup xs)->uq xs 1=U (.str sh)->uq xs 2=U (.ref te)->H te=U (.tup e)->aY e->((∀i q H',rk s.sl e=.ok i->aL H H'->H' q=U (.tup [.str sh,.int i])->Q (.ref q) H'))->(∀er H',rk s.sl e=.error er->aL H H'->zgJ t er E H')->yO t vs H Q E
inductive ja (t:aX) (vs:List V) (H:D) (Q:VK) (_E:XK):Prop
 |mk (x q) (p:Pl) (w) (a:RAd) (C:List Cs) (s:bv):vs=[.ref x,.ref q,.int w]->dl t H x a C s->H q=U (.tup [.str p.1,.int p.2])->s.no.length<=900->(∀H',Kp x a H H'->dl t H' x a C (kU p w s)->Q (.int (JF p w s)) H')->ja t vs H Q _E
inductive jV (t:aX) (vs:List V) (H:D) (Q:VK) (E:XK):Prop
 |mk (x v r w) (m:Nat) (a:RAd) (C:List Cs) (s:bv):vs=[.ref x,v,.int w]->dl t H x a C s->hZ Ks H v r->Y0 r->Zl r->RnOk m s->m<=900->((∀H' s',t8 r w s=.ok s'->Kp x a H H'->dl t H' x a C s'->Q .non H'))->(∀H' er,t8 r w s=.error er->aL H H'->zgJ t er E H')->jV t vs H Q E
inductive vp (t:aX) (vs:List V) (H:D) (Q:VK) (E:XK):Prop
 |mk (x v c w) (m:Nat) (a:RAd) (C:List Cs) (s:bv):vs=[.ref x,v,.int w]->dl t H x a C s->tQ H v c->zaJ c->RnOk m s->m<=900->((∀H' s' k,v9 c w s=.ok (k,s')->Kp x a H H'->dl t H' x a C s'->Q (.int (k:Nat)) H'))->(∀H' er,v9 c w s=.error er->aL H H'->zgJ t er E H')->vp t vs H Q E
def wI(t:aX):Sp:=λd H Q _=>∃x w,∃m:Nat,∃a:RAd,∃C:List Cs,∃s:bv,d=[.ref x,.int w]/\dl t H x a C s/\(∀c∈C,zaJ c)/\RnOk m s/\m<=900/\∀b,Kp x a H b->dl t b x a C (xD C w s)->Q .non b
inductive jW (t:aX) (vs:List V) (H:D) (Q:VK) (_E:XK):Prop
 |mk (x) (a:RAd) (C:List Cs) (s:bv):vs=[.ref x]->dl t H x a C s->(∀c∈C,zaJ c)->xn s.sl->((∀H',jT C s=am->aL H H'->Q .non H'))->(∀p q H',jT C s=U p->aL H H'->H' q=U (.tup [.str p.1,.int p.2])->Q (.ref q) H')->jW t vs H Q _E
inductive wM (t:aX) (vs:List V) (H:D) (Q:VK) (_E:XK):Prop
 |mk (x) (a:RAd) (C:List Cs) (s:bv):vs=[.ref x]->dl t H x a C s->s.no.length<=900->(s.no.map (·.1)).Nodup->s.gi.length<=63->((∀H',yI C s=aq->aL H H'->Q .non H'))->(∀r o nl gl out H',yI C s=ak->aL H H'->H nl=am->H gl=am->nl≠gl->H' r=U (.tup [o,.ref nl,.ref gl])->zaK H' o (zgK s)->tN H' nl s.no->tN H' gl out->Y5 s out->Q (.ref r) H')->wM t vs H Q _E
def wdJ(w:Str):Prop:=isJ (.str w)=ak/\w.length<=1000/\cS w=ak
def lfV(v:V):Prop:=(∃i,v=.int i/\tK i=ak)\/∃x,v=.str x/\yY x=ak
def okD(d:Int):Prop:=0<=d/\d<1000000000000
inductive yg (K:bA) (vs:List V) (H:D) (Q:VK) (_E:XK):Prop
 |mk (a) (ns:List Int) (k:Nat):vs=[.ref a,.int k]->aT K H a (ns.map V.int)->ns.length<=63->(∀i∈ns,Cb i)->(∀c H',aL H H'->Cb c->c=ns.getD k 0->Q (.int c) H')->yg K vs H Q _E
def xJ:Sp:=λe H Q _=>∃c,∃m:Nat,e=[.int c,.int m]/\m<=22/\∀(l:L) (a:List Int) (b:D),aL H b->H l=am->b l=U (.lst (a.map V.int))->a.length=m->(∀d∈a,okD d)->Q (.ref l) b
def XE(P:Nat->Bool)(x:Str):Prop:=x.cps.toList.all P=ak
def smW(w:Str):Prop:=1<=w.length/\w.length<=6/\XE inL w
def yB:Sp:=λb H Q _=>∃w,b=[.str w]/\smW w/\∀x a,yY x=ak->aL H a->Q (.str x) a
def jd:Sp:=λe H Q _=>∃c,e=[.int c]/\∀a d b,aL H b->H a=am->tu b a d->d.length=2->Q (.ref a) b
def xt:Sp:=λb H Q _=>∃n,b=[.int n]/\0<=n/\n<1000000000000/\∀w a,tK w=ak->aL H a->Q (.int w) a
inductive je (vs:List V) (H:D) (Q:VK) (_E:XK):Prop
 |mk (n a ws):vs=[.int n,.ref a]->okD n->tu H a ws->ws.length=2->(∀p e H',aL H H'->H p=am->H' p=U (.tup e)->aY e->tmP e->Q (.ref p) H')->je vs H Q _E
inductive wN (vs:List V) (H:D) (Q:VK) (_E:XK):Prop
 |mk (n a ws):vs=[.int n,.ref a]->okD n->tu H a ws->ws.length=2->(∀p e H',aL H H'->H p=am->H' p=U (.tup e)->aY e->tmP e->Q (.ref p) H')->wN vs H Q _E
inductive vq (vs:List V) (H:D) (Q:VK) (_E:XK):Prop
 |mk (c a ws):vs=[.int c,.ref a]->tu H a ws->ws.length=2->(∀l tab H',aL H H'->H l=am->tN H' l tab->tT tab->(∀r∈tab,cS r.1.1=ak/\tK r.2=ak/\r.2≠0)->tab.length<=5->Q (.ref l) H')->vq vs H Q _E
mutual
def szR:Rw->Nat
 |.iff _ a b=>ZA a+ZA b+2
 |_=>1
def ZA:gV->Nat
 |.nil=>0
 |.cons r rs=>szR r+ZA rs
end
def zih:Cs->Prop
 |.row r=>Jo r
 |_=>True
structure zb2(C:List Cs):Prop where
 ok:∀c∈C,zaJ c
 pl:∀c∈C,zih c
 fw:∀(i to:Nat) (e:List V),C[i]?=U (Cs.skip e to)->i<to
 fg:∀(i to:Nat),C[i]?=U (Cs.go to)->i<to
 le:C.length<=40
structure RnI(C:List Cs)(m:Nat)(s:bv):Prop where
 ok:RnOk m s
 ng:∀r∈s.gi,cS r.1.1=ak
 nn:∀r∈s.no,cS r.1.1=ak
 at_:s.why=am->m<=s.n
 wy:∀w,s.why=U w->cS w=ak
inductive jX (vs:List V) (H:D) (Q:VK) (_E:XK):Prop
 |mk (a aK):vs=[.ref a]->tN H a aK->(tF aK).length<=63->aK.length<=1000->(∀l out H',aL H H'->H l=am->tN H' l out->zbG aK out->Q (.ref l) H')->jX vs H Q _E
inductive tR (H:D):Nat->V->V->Prop
 |int {n:Nat} (i:Int):tR H (n+1) (.int i) (.int i)
 |str {n:Nat} (x:Str):tR H (n+1) (.str x) (.str x)
 |lst {n:Nat} {a b:L} {xs ys:List V}:H a=U (.lst xs)->H b=U (.lst ys)->xs.length=ys.length->(∀(i:Nat) (x y:V),xs[i]?=U x->ys[i]?=U y->tR H n x y)->tR H (n+1) (.ref a) (.ref b)
 |tup {n:Nat} {a b:L} {xs ys:List V}:H a=U (.tup xs)->H b=U (.tup ys)->xs.length=ys.length->(∀(i:Nat) (x y:V),xs[i]?=U x->ys[i]?=U y->tR H n x y)->tR H (n+1) (.ref a) (.ref b)
def yb(n:Nat):Sp:=λb H Q _=>∃v u,b=[v,u]/\tR H n v u/\∀a,aL H a->Q (.bl ak) a
structure rwW(r:Rw):Prop where
 nf:JE r
 pl:Jo r
 ok:Zl r
inductive jY (vs:List V) (H:D) (Q:VK) (_E:XK):Prop
 |mk (p a b) (ds:List Int) (us ws:List Str):vs=[.ref p,.ref a,.ref b]->H p=U (.lst (ds.map V.int))->ds.length=3->(∀d∈ds,okD d)->tu H a us->us.length=2->tu H b ws->ws.length=2->(∀v r H',aL H H'->hZ (λb=>H b=am) H' v r->rwW r->Q v H')->jY vs H Q _E
def gV.of:List Rw->gV
 |[]=>.nil
 |r::rs=>.cons r (gV.of rs)
structure zii(rs:List Rw):Prop where
 dp:(gV.of rs).deep<=1
 pl:Zn (gV.of rs)
 ok:Yw (gV.of rs)
 sz:(rs.map λr=>match r with|.iff _ a b=>a.cnt+b.cnt+3|_=>1).sum<=11
inductive jf (vs:List V) (H:D) (Q:VK) (_E:XK):Prop
 |mk (c a b) (us ws:List Str):vs=[.int c,.ref a,.ref b]->tu H a us->us.length=2->tu H b ws->ws.length=2->(∀l rs H',aL H H'->RlAt (λb=>H b=am) H' (.ref l) (gV.of rs)->zii rs->Q (.ref l) H')->jf vs H Q _E
def JG(p:Pl)(a:Int):List aO->Int×Int->Int×Int
 |[],s=>s
 |r::rs,s=>JG p a rs (if r.1=p then (a,r.2) else s)
def va(p:Pl)(a:Int):List (Int×List aO)->Int×Int->Int×Int
 |[],s=>s
 |l::ls,s=>va p a ls (if s.1<l.1/\l.1<a then JG p l.1 l.2 s else s)
def ye(c:List aO)(a:List (Int×List aO))(p:Pl)(b:Int):Int:=(va p b a (-1,(zC c p).getD 0)).2
structure Ws(gs:List aO):Prop where
 nd:(gs.map (·.1)).Nodup
 le:gs.length<=63
def vT(a:List (Int×List aO))(p:Pl)(r:Int):Prop:=∃b,(r,b)∈a/\p∈b.map (·.1)
structure tz(H:D)(rk:L)(F:L->Prop)(P:Pl->Int->Prop)(aJ:List (List aW×V)):Prop where
 at_:H rk=U (.dT aJ)
 nk:(aJ.map (·.1)).Nodup
 nv:(aJ.map (·.2)).Nodup
 ls:∀kv∈aJ,∃(p:Pl) (a:L) (rs:List Int),kv=(zB p,.ref a)/\F a/\H a=U (.lst (rs.map V.int))/\rs.Pairwise (· < ·)/\rs≠[]/\∀r,r∈rs↔P p r
 al:∀p r,P p r->zB p∈aJ.map (·.1)
def zb3(H:D)(rk:L)(F:L->Prop)(a:aW×V)(y:Int×List aO):Prop:=a.1=.inl y.1/\∃d,a.2=.ref d/\F d/\d≠rk/\H d=U (.dT (tF y.2))
def wY(c:L)(a:Int)(b rk:L):List (Str×V):=[(bf "ground",.ref c),(bf "folded",.int a),(bf "worths",.ref b),(bf "ranks",.ref rk)]
structure MrIn(t:aX)(H:D)(m:L)(F:L->Prop)(g:List aO)(l:List (Int×List aO))(low:Int)(dx gr wo rk:L)(wk:List (aW×V))(kk:List (List aW×V)):Prop where
 im:H m=U (.ins t.q02 dx (wY gr low wo rk))
 fg:F gr
 fw:F wo
 fk:F rk
 nr:gr≠rk
 hg:H gr=U (.dT (tF g))
 hw:H wo=U (.dK wk)
 wp:Paired (zb3 H rk F) wk l
 rr:tz H rk F (vT l) kk
theorem tz.keep{H H':D}{rk:L}{F F':L->Prop}{P:Pl->Int->Prop}(h:tz H rk F P aJ)(d:F rk)(k:∀b o,F b->H b=U o->H' b=U o)(f:∀b,F b->F' b):tz H' rk F' P aJ:=
 ⟨k _ _ d h.at_,h.nk,h.nv,λkv c=>let ⟨p,a,rs,e,fa,ha,z⟩:=h.ls kv c;⟨p,a,rs,e,f a fa,k _ _ fa ha,z⟩,h.al⟩
theorem MrIn.keep{H H':D}{m:L}{F:L->Prop}{g:List aO}{l:List (Int×List aO)}{low:Int}{dx gr wo rk:L}{wk:List (aW×V)}{kk:List (List aW×V)}(h:MrIn t H m F g l low dx gr wo rk wk kk)(f:F m)(k:∀b o,F b->H b=U o->H' b=U o):MrIn t H' m F g l low dx gr wo rk wk kk:=
 ⟨k _ _ f h.im,h.fg,h.fw,h.fk,h.nr,k _ _ h.fg h.hg,k _ _ h.fw h.hw,Paired.mapP h.wp λ_ _ ⟨e,d,j,a,c,i⟩=>⟨e,d,j,a,c,k _ _ a i⟩,h.rr.keep h.fk k λ_ z=>z⟩
structure tV(t:aX)(H:D)(m:L)(F:L->Prop)(g:List aO)(l:List (Int×List aO))(low:Int):Prop where
 own:∀b,F b->∃o,H b=U o
 me:F m
 nd:(l.map (·.1)).Nodup
 ok:∀y∈l,0<=y.1/\Ws y.2
 ex:∃dx gr wo rk wk kk,MrIn t H m F g l low dx gr wo rk wk kk
theorem vb{i b rk:L}{a:Int}(h:f≠bf "ground"/\f≠bf "folded"/\f≠bf "worths"/\f≠bf "ranks"):cU f (wY i a b rk)=am:=by
 obtain⟨g,e,d,c⟩:=h;simp only[wY,b9,beq_eq_false_iff_ne.mpr g,beq_eq_false_iff_ne.mpr e,beq_eq_false_iff_ne.mpr d,beq_eq_false_iff_ne.mpr c,List.lookup_nil]
theorem tV.ins{H:D}{F:L->Prop}{l:List (Int×List aO)}{low:Int}(h:tV t H m F g l low):∃dx a,H m=U (.ins t.q02 dx a)/\cU (bf "lay") a=am/\cU (bf "seen") a=am/\cU (bf "kept") a=am/\cU (bf "fold") a=am/\cU (bf "table_for") a=am:=by
 obtain⟨dx,gr,wo,rk,wk,kk,z⟩:=h.ex;exact⟨dx,_,z.im,vb (),vb (),vb (),vb (),vb ()⟩
theorem tV.keep{H H':D}{F:L->Prop}{l:List (Int×List aO)}{low:Int}(h:tV t H m F g l low)(k:∀b o,F b->H b=U o->H' b=U o):tV t H' m F g l low:=
 ⟨λb a=>let ⟨o,e⟩:=h.own b a;⟨o,k b o a e⟩,h.me,h.nd,h.ok,let ⟨dx,gr,wo,rk,wk,kk,z⟩:=h.ex;⟨dx,gr,wo,rk,wk,kk,z.keep h.me k⟩⟩
def Y6(l:List (Int×List aO))(a:Int):Nat:=((l.filter λy=>decide (y.1<a)).map λy=>y.2.length).sum
structure tO(t:aX)(H:D)(m:L)(F:L->Prop)(g:List aO)(l:List (Int×List aO))(low:Int):Prop where
 nd:(l.map (·.1)).Nodup
 ok:∀y∈l,0<=y.1/\Ws y.2
 ex:∃g',tV t H m F g' (l.filter λy=>decide (low<=y.1)) low/\g'.length<=g.length+Y6 l low/\∀p,(zC g' p).getD 0=ye g l p low
theorem tO.own{H:D}{F:L->Prop}{l:List (Int×List aO)}{low:Int}(h:tO t H m F g l low):∀b,F b->∃o,H b=U o:=λb a=>let ⟨_,M,_⟩:=h.ex;M.own b a
theorem tO.ins{H:D}{F:L->Prop}{l:List (Int×List aO)}{low:Int}(h:tO t H m F g l low):∃b a,H m=U (.ins t.q02 b a)/\cU (bf "lay") a=am/\cU (bf "seen") a=am/\cU (bf "kept") a=am/\cU (bf "fold") a=am/\cU (bf "table_for") a=am:=let ⟨_,M,_⟩:=h.ex;M.ins
theorem tO.im{H:D}{F:L->Prop}{l:List (Int×List aO)}{low:Int}(h:tO t H m F g l low):∃c b a rk,H m=U (.ins t.q02 c (wY b low a rk)):=let ⟨_,M,_⟩:=h.ex;let ⟨c,b,a,rk,_,_,z⟩:=M.ex;⟨c,b,a,rk,z.im⟩
theorem tO.keep{H:D}{F:L->Prop}{l:List (Int×List aO)}{low:Int}{H':D}(h:tO t H m F g l low)(k:∀b o,F b->H b=U o->H' b=U o):tO t H' m F g l low:=⟨h.nd,h.ok,let ⟨g',M,z⟩:=h.ex;⟨g',M.keep k,z⟩⟩
theorem tO.same{H:D}{F:L->Prop}{l:List (Int×List aO)}{low:Int}{a:D}(h:tO t H m F g l low)(s:aL H a):tO t a m F g l low:=h.keep λb o _ e=>s b o e
def LoR(a b:Int):Prop:=0<=a/\a<=b
def yZ(a:List (Int×List aO))(b:Int)(c:List aO):List (Int×List aO):=(a.filter λy=>decide (y.1≠b))++[(b,c)]
inductive yJ (vs:List V) (H:D) (Q:VK) (_E:XK):Prop
 |mk (a) (rs:List Int) (ac):vs=[.ref a,.int ac]->H a=U (.lst (rs.map V.int))->rs.Pairwise (· < ·)->(∀(k:Nat) H',aL H H'->k<=rs.length->(∀r∈rs.take k,r<ac)->(∀r∈rs.drop k,ac<=r)->Q (.int k) H')->yJ vs H Q _E
inductive y7 (t:aX) (vs:List V) (H:D) (Q:VK) (_E:XK):Prop
 |mk (m dx) (fs:List (Str×V)) (low ac):vs=[.ref m,.int ac]->H m=U (.ins t.q02 dx fs)->fs.lookup (bf "folded")=U (.int low)->low<=ac->(∀H',aL H H'->Q .non H')->y7 t vs H Q _E
def Vv(a:List (Int×List aO))(b:Int):List (Int×List aO):=a.filter λy=>decide (y.1≠b)
def hV(G:L->Prop)(rk:L)(H c:D):Prop:=∀b o,H b=U o->b≠rk->((∀a,o≠.lst a)\/¬ G b)->c b=U o
def Dm(H d:D):Prop:=∀b o,H b=U o->∃c,d b=U c/\∀a,c=.tup a->o=.tup a
inductive vI (vs:List V) (H:D) (Q:VK) (_E:XK):Prop
 |mk (rk pl ac) (G:L->Prop) (P:Pl->Int->Prop) (kk:List (List aW×V)) (q0:Pl):vs=[.ref rk,.ref pl,.int ac]->tz H rk G P kk->G rk->((∀b,H b=am->G b))->H pl=U (.tup ((zB q0).map kV))->¬ P q0 ac->kk.length<=18900->((∀rs:List Int,rs.Pairwise (· < ·)->(∀r∈rs,P q0 r)->rs.length<=300))->(∀H' kk',hV G rk H H'->Dm H H'->tz H' rk G (λp r=>P p r\/(r=ac/\p=q0)) kk'->Q .non H')->vI vs H Q _E
inductive xW (vs:List V) (H:D) (Q:VK) (_E:XK):Prop
 |mk (rk pl ac) (G:L->Prop) (P:Pl->Int->Prop) (kk) (q0:Pl):vs=[.ref rk,.ref pl,.int ac]->tz H rk G P kk->G rk->H pl=U (.tup ((zB q0).map kV))->P q0 ac->(∀H' kk',hV G rk H H'->Dm H H'->tz H' rk G (λp r=>P p r/\¬ (r=ac/\p=q0)) kk'->Q .non H')->xW vs H Q _E
inductive yG (t:aX) (vs:List V) (H:D) (Q:VK) (_E:XK):Prop
 |mk (m ac F g lays low):vs=[.ref m,.int ac]->tV t H m F g lays low->(∀l ys gs H',aL H H'->H l=am->H' l=U (.lst ys)->Paired (zbU H') ys (tF gs)->((ac,gs)∈lays\/(ac ∉ lays.map (·.1)/\gs=[]))->Q (.ref l) H')->yG t vs H Q _E
inductive y8 (t:aX) (vs:List V) (H:D) (Q:VK) (_E:XK):Prop
 |mk (m ac F g lays low):vs=[.ref m,.int ac]->tV t H m F g lays low->(∀H' F',(∀b o,¬ F b->H b=U o->H' b=U o)->(∀b zs,H b=U (.tup zs)->H' b=U (.tup zs))->tV t H' m F' g (Vv lays ac) low->(∀b,F' b->F b\/H b=am)->(∀b,F b->F' b)->Q .non H')->y8 t vs H Q _E
inductive kx (t:aX) (vs:List V) (H:D) (Q:VK) (_E:XK):Prop
 |mk (x h dx aK):vs=[.ref x,.ref h]->H x=U (.ins t.q02 dx [])->tN H h aK->aK.length<=63->(∀H' F,W7 x H H'->tO t H' x F aK [] 0->(∀b,F b->b=x\/H b=am)->Q .non H')->kx t vs H Q _E
inductive jg (t:aX) (vs:List V) (H:D) (Q:VK) (_E:XK):Prop
 |mk (m ac gv F g lays low gs):vs=[.ref m,.int ac,.ref gv]->tO t H m F g lays low->LoR low ac->tN H gv gs->¬ F gv->Ws gs->lays.length<=200->(∀H' F',(∀b o,¬ F b->H b=U o->H' b=U o)->(∀b zs,H b=U (.tup zs)->H' b=U (.tup zs))->tO t H' m F' g (yZ lays ac gs) low->(∀b,F' b->F b\/H b=am)->(∀b,F b->F' b)->Q .non H')->jg t vs H Q _E
inductive xK (t:aX) (vs:List V) (H:D) (Q:VK) (_E:XK):Prop
 |mk (m p ac F g lays low q):vs=[.ref m,.ref p,.int ac]->tO t H m F g lays low->LoR low ac->H p=U (.tup [.str q.1,.int q.2])->(∀H',aL H H'->Q (.int (ye g lays q ac)) H')->xK t vs H Q _E
inductive Ev where
 |rest
 |step (r:Int)
 |read (r:Int) (p:Pl) (w:Int)
 |take (r:Int)
 |lay (r:Int)
 |settle (r:Int)
 |again (r:Int) (p:Pl) (o n:Int)
abbrev He:=Int×Ev
def evW:Ev->Str
 |.rest=>"rest"
 |.step _=>"step"
 |.read ..=>"read"
 |.take _=>"take"
 |.lay _=>"lay"
 |.settle _=>"settle"
 |.again ..=>"again"
def evX(q:L):Ev->List V
 |.rest=>[]
 |.step r=>[.int r]
 |.read r _ w=>[.int r,.ref q,.int w]
 |.take r=>[.int r]
 |.lay r=>[.int r]
 |.settle r=>[.int r]
 |.again r _ o n=>[.int r,.ref q,.int o,.int n]
def evP:Ev->Option Pl
 |.read _ p _=>U p
 |.again _ p _ _=>U p
 |_=>am
def t9(H:D)(v:V)(x:He):Prop:=∃a q,v=.ref a/\H a=U (.tup (.str (evW x.2)::.int x.1::evX q x.2))/\∀p,evP x.2=U p->H q=U (.tup [.str p.1,.int p.2])
structure DS where
 ws:List Int
 hl:List (Int×Int×Nat×bv)
 ld:List (Int×bv×List aO)
 ls:List (Int×List aO)
 en:Nat
 es:List (bv×List aO)
 wk:Nat
 wc:Nat
def Yn{a:Type}(l:List (Int×a))(h:Int)(b:a):List (Int×a):=l.map λe=>if e.1=h then (h,b) else e
def yk{a:Type}(l:List (Int×a))(h:Int):List (Int×a):=l.filter λe=>decide (e.1≠h)
def Agr(g:List aO)(b:List (Int×List aO))(r:Int)(a:List aO):Prop:=∀y∈a,ye g b y.1 r=y.2
def FsN(g:List aO)(b:List (Int×List aO))(r:Int)(a:List aO)(y:aO):Prop:=∃i:Nat,a[i]?=U y/\Agr g b r (a.take i)/\ye g b y.1 r≠y.2
def chI(k n c:Nat):Nat:=if k=0 then 0 else if k=1 then n-1 else c%n
def chW(k:Nat)(a:List Int)(c:Nat):Int:=a.getD (chI k a.length c) 0
inductive Mv (f:Int) (g:List aO) (CC:List (List Cs)) (S:DS) (h:Int):Ev->DS->Prop
 |step {r j s C}:(h,r,j,s)∈S.hl->CC[(r-f).toNat]?=U C->yI C s=aq->jT C s=am->Mv f g CC S h (.step r) { S with hl:=Yn S.hl h (r,j+1,xD C 0 s) }
 |read {r j s C p}:(h,r,j,s)∈S.hl->CC[(r-f).toNat]?=U C->yI C s=aq->jT C s=U p->Mv f g CC S h (.read r p (ye g S.ls p r)) { S with hl:=Yn S.hl h (r,j+1,xD C (ye g S.ls p r) s) }
 |lay {r j s C gi}:(h,r,j,s)∈S.hl->CC[(r-f).toNat]?=U C->yI C s=ak->Y5 s gi->Mv f g CC S h (.lay r) { S with hl:=yk S.hl h,ls:=yZ S.ls r gi,ld:=S.ld++[(r,s,gi)] }
 |settle {s gi}:(f+S.en,s,gi)∈S.ld->Agr g S.ls (f+S.en) s.no->h ∉ S.hl.map (·.1)->Mv f g CC S h (.settle (f+S.en)) { S with ld:=yk S.ld (f+S.en),en:=S.en+1,es:=S.es++[(s,gi)] }
 |again {r s gi p o ws'}:(r,s,gi)∈S.ld->FsN g S.ls r s.no (p,o)->(∀e∈S.ld,e.1<r->Agr g S.ls e.1 e.2.1.no)->(f+(S.en:Int)∈S.ld.map (·.1)->r=f+S.en)->ws'.Perm (r::S.ws)->ws'.Pairwise (· < ·)->h ∉ S.hl.map (·.1)->Mv f g CC S h (.again r p o (ye g S.ls p r)) { S with ld:=yk S.ld r,ws:=ws' }
 |take {r}:r∈S.ws->r=chW S.wk S.ws S.wc->(∀e∈S.ld,Agr g S.ls e.1 e.2.1.no)->f+(S.en:Int) ∉ S.ld.map (·.1)->h ∉ S.hl.map (·.1)->Mv f g CC S h (.take r) { S with ws:=S.ws.erase r,hl:=S.hl++[(h,r,0,st0)],wc:=S.wc+1 }
 |rest:S.ws=[]->(∀e∈S.ld,Agr g S.ls e.1 e.2.1.no)->f+(S.en:Int) ∉ S.ld.map (·.1)->h ∉ S.hl.map (·.1)->Mv f g CC S h .rest S
structure zdi(no gi:List aO):Prop where
 nd:(no.map (·.1)).Nodup
 ng:(gi.map (·.1)).Nodup
 ln:no.length<=40
 lg:gi.length<=40
def vg(f:Int)(k n:Nat):List Int:=(eE (n-k)).map λi:Nat=>f+(k:Int)+(i:Int)
structure zjG(CC:List (List Cs)):Prop where
 ok:∀C∈CC,zb2 C/\C.length<=11
 le:CC.length<=5
structure pv(n f:Int)(g:List aO)(CC:List (List Cs))(S:DS):Prop where
 f0:0<=f
 cc:zjG CC
 el:S.en<=CC.length
 pm:(S.ws++(S.hl.map (·.2.1)++S.ld.map (·.1))).Perm (vg f S.en CC.length)
 so:S.ws.Pairwise (· < ·)
 hn:(S.hl.map (·.1)).Nodup
 hr:∀e∈S.hl,0<=e.1/\e.1<n
 rn:∀e∈S.hl,∃C,CC[(e.2.1-f).toNat]?=U C/\RnI C e.2.2.1 e.2.2.2/\e.2.2.1<=11
 nt:∀e∈S.ld,zdi e.2.1.no e.2.2
 ly:∀y∈S.ls,f<=y.1/\y.1<f+CC.length
 gw:∀p,tK ((zC g p).getD 0)=ak
 lw:∀y∈S.ls,∀w∈y.2,tK w.2=ak
structure um where
 dx:L
 wy:L
 dw:L
 cl:L
 wl:L
 hd:L
 mks:L
 jb:L
 dj:L
 en:L
 la:L
 re:L
 db:L
def Yo(a:um)(n f:Int):List (Str×V):=[(bf "hands",.int n),(bf "way",.ref a.wy),(bf "first",.int f),(bf "codes",.ref a.cl),(bf "waiting",.ref a.wl),(bf "held",.ref a.hd),(bf "makes",.ref a.mks),(bf "jobs",.ref a.jb),(bf "ended",.ref a.en)]
def KA(m b a c:L):List (Str×V):=[(bf "makes",.ref m),(bf "laid",.ref b),(bf "readers",.ref a),(bf "doubted",.ref c)]
def dbL(a:List Int):List (aW×V):=a.map λr=>(.inl r,.bl ak)
def uj(t:aX)(d:L)(a:um)(n f:Int)(c:HO)(j:List V)(b:List Int)(g e:List (aW×V))(i:List Int)(h:List V):List (L×HO):=[(d,.ins t.q00 a.dx (Yo a n f)),(a.wy,c),(a.jb,.ins t.q03 a.dj (KA a.mks a.la a.re a.db)),(a.cl,.lst j),(a.wl,.lst (b.map V.int)),(a.hd,.dK g),(a.la,.dK e),(a.db,.dK (dbL i)),(a.en,.lst h)]
def ug(H:D)(v:V)(C:List Cs):Prop:=∃a b,v=.ref a/\H a=U (.lst b)/\Paired (tQ H) b C
structure tH(t:aX)(H:D)(lb:L->Nat)(Bp:List (L×HO))(m re:L)(fo:Int)(g:List aO)(lays:List (Int×List aO))(P:Pl->Int->Prop)(cs:List V)(CC:List (List Cs)):Prop where
 ob:∀(i:Nat) b o,Bp[i]?=U (b,o)->H b=U o/\lb b=i+1
 ms:tO t H m (λb=>lb b=10) g lays fo
 rr:∃kk,tz H re (λb=>lb b=11) P kk
 rl:lb re=11
 cc:Paired (λv C=>ug H v C/\∀c,v=.ref c->lb c=13) cs CC
 ow:∀b,lb b≠0->∃o,H b=U o
structure Fr(M:Nat->Prop)(H H':D)(lb lb':L->Nat):Prop where
 ex:∀b o,H b=U o->lb' b=lb b
 kp:∀b o,M (lb b)->H b=U o->H' b=U o
 ts:∀b zs,H b=U (.tup zs)->H' b=U (.tup zs)
 al:∀b o,H b=U o->∃o',H' b=U o'
def M0(l:Nat):Prop:=l=0\/l=14
def M1(l:Nat):Prop:=l=0\/14<=l
inductive uc (H:D) (lb:L->Nat) (r:L) (s:bv) (gi:List aO):Prop
 |mk (o nl gl):H r=U (.tup [o,.ref nl,.ref gl])->zaK H o (zgK s)->tN H nl s.no->tN H gl gi->lb nl=14->lb gl=14->uc H lb r s gi
def Pk{a:Type}(R:Int->V->a->Prop)(b:List (aW×V))(l:List (Int×a)):Prop:=Paired (λx e=>x.1=.inl e.1/\R e.1 x.2 e.2) b l
inductive HdAt (t:aX) (H:D) (lb:L->Nat) (f:Int) (CC:List (List Cs)) (h:Int) (v:V) (e:Int×Nat×bv):Prop
 |mk (tp x ra C):v=.ref tp->H tp=U (.tup [.int e.1,.ref x])->CC[(e.1-f).toNat]?=U C->dl t H x ra C e.2.2->(∀b,OwA x ra b->lb b=20+h.toNat)->HdAt t H lb f CC h v e
def Y7(H:D)(a:L->Nat)(_:Int)(v:V)(e:bv×List aO):Prop:=∃r,v=.ref r/\uc H a r e.1 e.2
def tZ(ld:List (Int×bv×List aO))(p:Pl)(i:Int):Prop:=∃e∈ld,e.1=i/\p∈e.2.1.no.map (·.1)
def zkx(t:aX)(a:um)(b:HO)(k c:Nat):Prop:=(k=0/\b=.ins t.q0e a.dw [])\/(k=1/\b=.ins t.q0d a.dw [])\/(k=2/\b=.ins t.q06 a.dw [(bf "times",.int c)])
structure WyF(t:aX)(a:um)(wo:HO)(k c:Nat)(f fo:Int)(en:Nat):Prop where
 w:zkx t a wo k c
 l:LoR fo (f+en)
structure DbOk(ld:List (Int×bv×List aO))(db:List Int):Prop where
 nd:db.Nodup
 su:∀r∈db,r∈ld.map (·.1)
structure EnI(H:D)(lb:L->Nat)(en:List V)(k:Nat)(es:List (bv×List aO)):Prop where
 le:en.length=k
 ps:Paired (Y7 H lb 0) en es
structure DbA(g:List aO)(lays:List (Int×List aO))(ld:List (Int×bv×List aO))(db:List Int):Prop where
 wk:DbOk ld db
 ag:∀e∈ld,e.1 ∉ db->Agr g lays e.1 e.2.1.no
inductive tW (t:aX) (H:D) (d:L) (a:um) (lb:L->Nat) (n f fo:Int) (g:List aO) (CC:List (List Cs)) (S:DS):Prop
 |mk (wo cs kv la db en):tH t H lb (uj t d a n f wo cs S.ws kv la db en) a.mks a.re fo g S.ls (tZ S.ld) cs CC->Pk (HdAt t H lb f CC) kv S.hl->Pk (Y7 H lb) la S.ld->DbA g S.ls S.ld db->EnI H lb en S.en S.es->WyF t a wo S.wk S.wc f fo S.en->tW t H d a lb n f fo g CC S
structure DkF(K:bA)(t:aX):Prop where
 cD:ua K t.q00
 cJ:ua K t.q03
 cT:ua K t.q06
 d1:aQ K t.q00 "hands"
 d2:aQ K t.q00 "way"
 d3:aQ K t.q00 "first"
 d4:aQ K t.q00 "codes"
 d5:aQ K t.q00 "waiting"
 d6:aQ K t.q00 "held"
 d7:aQ K t.q00 "makes"
 d8:aQ K t.q00 "jobs"
 d9:aQ K t.q00 "ended"
 j1:aQ K t.q03 "makes"
 j2:aQ K t.q03 "laid"
 j3:aQ K t.q03 "readers"
 j4:aQ K t.q03 "doubted"
 t1:aQ K t.q06 "times"
def NxA(a:List (Int×List aO))(q:Pl)(b:Int)(v:V):Prop:=(v=.non/\∀r,vT a q r->r<=b)\/∃i,v=.int i/\vT a q i/\b<i/\∀r,vT a q r->b<r->i<=r
inductive xo (t:aX) (vs:List V) (H:D) (Q:VK) (_E:XK):Prop
 |mk (m p ac F g lays low q):vs=[.ref m,.ref p,.int ac]->tO t H m F g lays low->low<=ac->H p=U (.tup ((zB q).map kV))->(∀v H',aL H H'->NxA lays q ac v->Q v H')->xo t vs H Q _E
def qA(t:aX):Sp:=λf H Q _=>∃x m e,f=[.ref x,.ref m]/\H x=U (.ins t.q03 e [])/\∀a b d c,W7 x H a->a x=U (.ins t.q03 e (KA m b d c))->a b=U (.dK [])->a d=U (.dT [])->a c=U (.dK [])->H b=am->H d=am->H c=am->b≠c->Q .non a
structure JD where
 d:L
 a:um
 lb:L->Nat
 n:Int
 f:Int
 fo:Int
 wo:HO
 cs:List V
 ws:List Int
 kv:List (aW×V)
 la:List (aW×V)
 db:List Int
 en:List V
 g:List aO
 lays:List (Int×List aO)
 ld:List (Int×bv×List aO)
 CC:List (List Cs)
def JD.O(J:JD)(t:aX)(H:D):Prop:=tH t H J.lb (uj t J.d J.a J.n J.f J.wo J.cs J.ws J.kv J.la J.db J.en) J.a.mks J.a.re J.fo J.g J.lays (tZ J.ld) J.cs J.CC
inductive kz (t:aX) (vs:List V) (H:D) (Q:VK) (_E:XK):Prop
 |mk (J:JD) (p ac) (q:Pl):vs=[.ref J.a.jb,.ref p,.int ac]->J.O t H->DbOk J.ld J.db->J.ld.length<=10->LoR J.fo ac->H p=U (.tup ((zB q).map kV))->(∀H' db',Fr M1 H H' J.lb J.lb->JD.O { J with db:=db' } t H'->DbOk J.ld db'->(∀y∈J.db,y∈db')->(∀r,tZ J.ld q r->ac<r->(∀i,vT J.lays q i->ac<i->r<=i)->r∈db')->Q .non H')->kz t vs H Q _E
inductive vh (t:aX) (vs:List V) (H:D) (Q:VK) (_E:XK):Prop
 |mk (J:JD) (r ac) (s:bv) (gi:List aO):vs=[.ref J.a.jb,.int ac,.ref r]->J.O t H->Pk (Y7 H J.lb) J.la J.ld->DbA J.g J.lays J.ld J.db->(∀e∈J.ld,zdi e.2.1.no e.2.2)->J.ld.length<=10->ac ∉ J.ld.map (·.1)->LoR J.fo ac->J.lays.length<=10->uc H J.lb r s gi->zdi s.no gi->(∀H' lb' la' db',Fr M1 H H' J.lb lb'->JD.O { J with lb:=lb',la:=la',db:=db',lays:=yZ J.lays ac gi,ld:=J.ld++[(ac,s,gi)] } t H'->Pk (Y7 H' lb') la' (J.ld++[(ac,s,gi)])->DbA J.g (yZ J.lays ac gi) (J.ld++[(ac,s,gi)]) db'->Q .non H')->vh t vs H Q _E
inductive xR (t:aX) (vs:List V) (H:D) (Q:VK) (_E:XK):Prop
 |mk (d:L) (a:um) (lb:L->Nat) (Bp la fo) (g:List aO) (lays:List (Int×List aO)) (P:Pl->Int->Prop) (cs CC ac r) (s:bv) (gi:List aO):vs=[.ref a.jb,.int ac]->tH t H lb Bp a.mks a.re fo g lays P cs CC->Bp[2]?=U (a.jb,.ins t.q03 a.dj (KA a.mks a.la a.re a.db))->Bp[6]?=U (a.la,.dK la)->yj la (.inl ac)=U (.ref r)->LoR fo ac->uc H lb r s gi->((∀H',aL H H'->Agr g lays ac s.no->Q .non H'))->(∀v H' q y,aL H H'->FsN g lays ac s.no y->H' v=U (.tup [.ref q,.int y.2,.int (ye g lays y.1 ac)])->H' q=U (.tup [.str y.1.1,.int y.1.2])->Q (.ref v) H')->xR t vs H Q _E
inductive xA (t:aX) (vs:List V) (H:D) (Q:VK) (_E:XK):Prop
 |mk (J:JD):vs=[.ref J.a.jb]->J.O t H->Pk (Y7 H J.lb) J.la J.ld->DbA J.g J.lays J.ld J.db->J.ld.length<=10->(J.ld.map (·.1)).Nodup->(∀e∈J.ld,LoR J.fo e.1)->((∀H',Fr M1 H H' J.lb J.lb->JD.O { J with db:=[] } t H'->DbA J.g J.lays J.ld []->Q .non H'))->(∀v H' db' q r s gi y,Fr M1 H H' J.lb J.lb->JD.O { J with db:=db' } t H'->DbA J.g J.lays J.ld db'->(∀x∈db',r<=x)->(r,s,gi)∈J.ld->FsN J.g J.lays r s.no y->H' v=U (.tup [.int r,.ref q,.int y.2,.int (ye J.g J.lays y.1 r)])->H' q=U (.tup [.str y.1.1,.int y.1.2])->Q (.ref v) H')->xA t vs H Q _E
inductive xX (t:aX) (vs:List V) (H:D) (Q:VK) (_E:XK):Prop
 |mk (J:JD) (ac:Int) (s:bv) (gi:List aO):vs=[.ref J.a.jb,.int ac]->J.O t H->Pk (Y7 H J.lb) J.la J.ld->DbA J.g J.lays J.ld J.db->(J.ld.map (·.1)).Nodup->(ac,s,gi)∈J.ld->(s.no.map (·.1)).Nodup->(∀r H' lb' la' db',Fr M1 H H' J.lb lb'->JD.O { J with lb:=lb',la:=la',db:=db',ld:=yk J.ld ac } t H'->Pk (Y7 H' lb') la' (yk J.ld ac)->DbA J.g J.lays (yk J.ld ac) db'->uc H' lb' r s gi->Q (.ref r) H')->xX t vs H Q _E
def qP(t:aX):Sp:=λb H Q _=>∃x a,b=[.ref x]/\H x=U (.ins t.q06 a [])/\Q .non (upd H x (.ins t.q06 a [(bf "times",.int 0)]))
inductive xY (t:aX) (vs:List V) (H:D) (Q:VK) (_E:XK):Prop
 |mk (x l w dx dw n f wo) (g:List aO):vs=[.ref x,.ref l,.int n,.ref w,.int f]->H x=U (.ins t.q00 dx [])->tN H l g->g.length<=63->H w=U wo->w≠x->(∀H' a lb,a.wy=w->a.dw=dw->(∀b o,b≠x->H b=U o->H' b=U o)->(∀b o,b≠x->b≠w->H b=U o->lb b=0)->tH t H' lb (uj t x a n f wo [] [] [] [] [] []) a.mks a.re 0 g [] (tZ []) [] []->Q .non H')->xY t vs H Q _E
inductive yP (t:aX) (vs:List V) (H:D) (Q:VK) (_E:XK):Prop
 |mk (d dx) (a:um) (n f) (en:List V):vs=[.ref d]->H d=U (.ins t.q00 dx (Yo a n f))->H a.en=U (.lst en)->Q (.int (f+en.length)) H->yP t vs H Q _E
inductive xN (t:aX) (vs:List V) (H:D) (Q:VK) (_E:XK):Prop
 |mk (d dx) (a:um) (n f) (cs:List V):vs=[.ref d]->H d=U (.ins t.q00 dx (Yo a n f))->H a.cl=U (.lst cs)->Q (.int (f+cs.length)) H->xN t vs H Q _E
def zb4(f:Int)(n:Nat)(S:DS):DS:={ S with ws:=S.ws++[f+n] }
inductive vJ (t:aX) (vs:List V) (H:D) (Q:VK) (_E:XK):Prop
 |mk (d v) (a:um) (lb:L->Nat) (n f fo) (g:List aO) (CC:List (List Cs)) (C:List Cs) (S:DS):vs=[.ref d,v]->ug H v C->tW t H d a lb n f fo g CC S->CC.length<=10->S.ws.length<=10->(∀H' lb',Fr M0 H H' lb lb'->tW t H' d a lb' n f fo g (CC++[C]) (zb4 f CC.length S)->Q (.int (f+CC.length)) H')->vJ t vs H Q _E
inductive kA (t:aX) (vs:List V) (H:D) (Q:VK) (_E:XK):Prop
 |mk (x l) (ws:List Int):vs=[.ref x,.ref l]->H l=U (.lst (ws.map V.int))->ws≠[]->Q (.int (ws.getD 0 0)) H->kA t vs H Q _E
inductive wO (t:aX) (vs:List V) (H:D) (Q:VK) (_E:XK):Prop
 |mk (x l) (ws:List Int):vs=[.ref x,.ref l]->H l=U (.lst (ws.map V.int))->ws≠[]->Q (.int (ws.getD (ws.length-1) 0)) H->wO t vs H Q _E
inductive wP (t:aX) (vs:List V) (H:D) (Q:VK) (_E:XK):Prop
 |mk (x l dw) (ws:List Int) (k:Nat):vs=[.ref x,.ref l]->H l=U (.lst (ws.map V.int))->ws≠[]->H x=U (.ins t.q06 dw [(bf "times",.int k)])->Q (.int (ws.getD (k%ws.length) 0)) (upd H x (.ins t.q06 dw [(bf "times",.int (k+1:Nat))]))->wP t vs H Q _E
inductive xZ (t:aX) (vs:List V) (H:D) (Q:VK) (_E:XK):Prop
 |mk (d) (a:um) (lb:L->Nat) (n f h fo) (g:List aO) (CC) (S:DS):vs=[.ref d,.int h]->tW t H d a lb n f fo g CC S->pv n f g CC S->h ∉ S.hl.map (·.1)->S.ws≠[]->(∀v H' lb' r,Fr M0 H H' lb lb'->r∈S.ws->r=chW S.wk S.ws S.wc->t9 H' v (h,.take r)->tW t H' d a lb' n f fo g CC { S with ws:=S.ws.erase r,hl:=S.hl++[(h,r,0,st0)],wc:=S.wc+1 }->Q v H')->xZ t vs H Q _E
def mvP(t:aX)(H:D)(d:L)(a:um)(k:L->Nat)(n f h l:Int)(g:List aO)(j:List (List Cs))(S:DS)(Q:VK):Prop:=∀v c b e i,Fr M0 H c k b->t9 c v (h,e)->Mv f g j S h e i->tW t c d a b n f l g j i->Q v c
inductive xB (t:aX) (vs:List V) (H:D) (Q:VK) (_E:XK):Prop
 |mk (d) (a:um) (lb:L->Nat) (n f h fo) (g:List aO) (CC) (S:DS):vs=[.ref d,.int h]->tW t H d a lb n f fo g CC S->pv n f g CC S->h ∉ S.hl.map (·.1)->mvP t H d a lb n f h fo g CC S Q->xB t vs H Q _E
inductive x6 (t:aX) (vs:List V) (H:D) (Q:VK) (_E:XK):Prop
 |mk (d) (a:um) (lb:L->Nat) (n f h fo) (g:List aO) (CC) (S:DS):vs=[.ref d,.int h]->tW t H d a lb n f fo g CC S->pv n f g CC S->0<=h->h<n->mvP t H d a lb n f h fo g CC S Q->x6 t vs H Q _E
inductive yC (t:aX) (vs:List V) (H:D) (Q:VK) (_E:XK):Prop
 |mk (d:L) (a:um) (lb:L->Nat) (n f fo:Int) (g:List aO) (CC:List (List Cs)) (S:DS) (J:List He->DS->Prop):vs=[.ref d]->tW t H d a lb n f fo g CC S->pv n f g CC S->1<=n->n<=8->J [] S->((∀es S h e S',J es S->pv n f g CC S->S.en<CC.length->h=(es.length:Int)%n->Mv f g CC S h e S'->J (es++[(h,e)]) S'))->(∀l xs es H' lb' S',Fr M0 H H' lb lb'->lb' l=0->H l=am->H' l=U (.lst xs)->Paired (t9 H') xs es->xs.length<=10000->J es S'->pv n f g CC S'->S'.en=CC.length->tW t H' d a lb' n f fo g CC S'->Q (.ref l) H')->yC t vs H Q _E
def S0(k:Nat):DS:=⟨[],[],[],[],0,[],k,0⟩
def zgL(f:Pl->Int)(a:List aO):Prop:=tT a/\∀p w,(p,w)∈a↔f p=w/\w≠0
def ze1(g:List aO)(a:List (Int×List aO)):Prop:=g.length+(a.map λy=>y.2.length).sum<=63
def XG(a:List (Int×List aO))(b:Int):Int:=((a.filter λy=>decide (b<=y.1)).map λy=>(y.2.length:Int)).sum
inductive y9 (t:aX) (vs:List V) (H:D) (Q:VK) (_E:XK):Prop
 |mk (m ac) (F:L->Prop) (g:List aO) (lays:List (Int×List aO)) (low):vs=[.ref m,.int ac]->tO t H m F g lays low->LoR low ac->ze1 g lays->(∀l aK H',aL H H'->H l=am->tN H' l aK->zgL (λp=>ye g lays p ac) aK->Q (.ref l) H')->y9 t vs H Q _E
inductive vt (t:aX) (vs:List V) (H:D) (Q:VK) (_E:XK):Prop
 |mk (m) (F:L->Prop) (g:List aO) (lays:List (Int×List aO)) (low):vs=[.ref m]->tO t H m F g lays low->lays.length<=200->(∀H',aL H H'->Q (.int (XG lays low)) H')->vt t vs H Q _E
inductive vx (t:aX) (vs:List V) (H:D) (Q:VK) (_E:XK):Prop
 |mk (m ac) (F:L->Prop) (g:List aO) (lays:List (Int×List aO)) (low):vs=[.ref m,.int ac]->tO t H m F g lays low->LoR low ac->ze1 g lays->lays.length<=200->(∀H' F',(∀b o,¬ F b->H b=U o->H' b=U o)->(∀b zs,H b=U (.tup zs)->H' b=U (.tup zs))->tO t H' m F' g lays ac->(∀b,F' b->F b\/H b=am)->(∀b,F b->F' b)->Q .non H')->vx t vs H Q _E
def PpC(c H:D)(v:V)(e:bv×List aO):Prop:=∃r o a b,v=.ref r/\H r=U (.tup [o,.ref a,.ref b])/\zaK H o (zgK e.1)/\tN H a e.1.no/\tN H b e.2/\c a=am/\c b=am
inductive xS (t:aX) (vs:List V) (H:D) (Q:VK) (_E:XK):Prop
 |mk (d) (a:um) (lb:L->Nat) (n f fo) (g:List aO) (CC) (S:DS):vs=[.ref d]->tW t H d a lb n f fo g CC S->S.en<=5->(∀l xs H',aL H H'->H l=am->H' l=U (.lst xs)->Paired (PpC H H') xs S.es->Q (.ref l) H')->xS t vs H Q _E
inductive xk (t:aX) (vs:List V) (H:D) (Q:VK) (_E:XK):Prop
 |mk (d) (a:um) (lb:L->Nat) (n f fo) (g:List aO) (CC) (S:DS):vs=[.ref d]->tW t H d a lb n f fo g CC S->ze1 g S.ls->(∀l aK H',aL H H'->H l=am->tN H' l aK->zgL (λp=>ye g S.ls p (f+S.en)) aK->Q (.ref l) H')->xk t vs H Q _E
inductive x8 (t:aX) (vs:List V) (H:D) (Q:VK) (_E:XK):Prop
 |mk (d) (a:um) (lb:L->Nat) (n f fo) (g:List aO) (CC) (S:DS):vs=[.ref d]->tW t H d a lb n f fo g CC S->S.ls.length<=200->(∀H',aL H H'->Q (.int (XG S.ls fo)) H')->x8 t vs H Q _E
inductive wQ (t:aX) (vs:List V) (H:D) (Q:VK) (_E:XK):Prop
 |mk (d) (a:um) (lb:L->Nat) (n f fo) (g:List aO) (CC) (S:DS):vs=[.ref d]->tW t H d a lb n f fo g CC S->ze1 g S.ls->S.ls.length<=200->(∀H' lb',Fr M0 H H' lb lb'->tW t H' d a lb' n f (f+S.en) g CC S->Q .non H')->wQ t vs H Q _E
def gfN(a:List (Int×List aO))(r:Int):Nat:=((a.find? λy=>decide (y.1=r)).map λy=>y.2.length).getD 0
def ur(f:Int)(a:List (Int×List aO))(m:Nat):List Int:=(eE m).map λi:Nat=>((gfN a (f+(i:Int)):Nat):Int)
def fsW(k:Int):Int:=if k/24%2=0 then 0 else k/48*1000000007^(3:Int).toNat%(10^(29:Int).toNat-300)
def kB:Sp:=λa H Q _=>∃k:Int,a=[.int k]/\Cb k/\Q (.int (fsW k)) H
inductive wR (t:aX) (vs:List V) (H:D) (Q:VK) (_E:XK):Prop
 |mk (tl n k) (g:List aO):vs=[.ref tl,.int n,.int k]->tN H tl g->g.length<=5->Cb k->(∀d a lb H',aL H H'->(∀b o,H b=U o->lb b=0)->tW t H' d a lb n (fsW k) 0 g [] (S0 (k/8%3).toNat)->Q (.ref d) H')->wR t vs H Q _E
def HlE(C:List Cs)(s:bv)(g:List aO)(a:List (Int×List aO))(r:Int):Ev->Prop
 |.lay r'=>r'=r/\yI C s=ak
 |.step r'=>r'=r/\yI C s=aq/\jT C s=am
 |.read r' p w=>r'=r/\yI C s=aq/\jT C s=U p/\w=ye g a p r
 |_=>False
def hlW:Ev->Int
 |.read _ _ w=>w
 |_=>0
def zd1:Ev->Bool
 |.lay _=>ak
 |_=>aq
def RuAt(t:aX)(H:D)(d:L->Nat)(f:Int)(e:List (List Cs))(c:List (Int×Int×Nat×bv))(h:Nat)(v:V):Prop:=(v=.non/\(h:Int) ∉ c.map (·.1))\/∃x a r j s C,v=.ref x/\((h:Int),r,j,s)∈c/\e[(r-f).toNat]?=U C/\dl t H x a C s/\∀b,OwA x a b->d b=20+h
def CoZ(H:D)(a:L->Nat)(v:V)(C:List Cs):Prop:=ug H v C/\∀c,v=.ref c->a c=0
def N1(l:Nat):Prop:=l=0\/l=1
structure LgB(t:aX)(H:D)(lw:L->Nat)(kl gl:L)(n f:Int)(CC:List (List Cs))(hl:List (Int×Int×Nat×bv))(ls:List (Int×List aO))(us:List V):Prop where
 ln:(us.length:Int)=n
 ru:∀(h:Nat) v,us[h]?=U v->RuAt t H lw f CC hl h v
 kk:∃ks:List Int,H kl=U (.lst (ks.map V.int))/\(ks.length:Int)=n/\∀e∈hl,ks[e.1.toNat]?=U (e.2.1-f)
 gg:H gl=U (.lst ((ur f ls CC.length).map V.int))
 l2:lw kl=2
 l3:lw gl=3
 ow:∀b,lw b≠0->∃o,H b=U o
inductive wS (t:aX) (vs:List V) (H:D) (Q:VK) (_E:XK):Prop
 |mk (v) (h:Nat) (cl rl kl gl f n) (lw:L->Nat) (cvs xs us:List V) (g:List aO) (CC) (S S2:DS) (e:Ev):vs=[v,.int h,.ref cl,.int f,.ref rl,.ref kl,.ref gl]->t9 H v ((h:Int),e)->H cl=U (.lst (cvs++xs))->lw cl=0->Paired (CoZ H lw) cvs CC->H rl=U (.lst us)->lw rl=1->LgB t H lw kl gl n f CC S.hl S.ls us->pv n f g CC S->(h:Int)<n->n<=8->Mv f g CC S h e S2->(∀w H' lw',Fr N1 H H' lw lw'->LgB t H' lw' kl gl n f CC S2.hl S2.ls (us.set h w)->Q w H')->wS t vs H Q _E
structure DF where
 a:um
 lb:L->Nat
 fo:Int
def LsI(S:DS):Prop:=∀y∈S.ls,y.2.length<=11
structure uf(t:aX)(H:D)(g:List aO)(n f:Int)(CC:List (List Cs))(S:DS)(d1 d2:L)(X Bo:DF):Prop where
 x:tW t H d1 X.a X.lb n f X.fo g CC S
 y:tW t H d2 Bo.a Bo.lb n f 0 g CC S
 o:pv n f g CC S
 ls:LsI S
 ap:∀b,X.lb b≠0->Bo.lb b=0
structure Bz8(H:D)(X Bo:DF)(H':D)(X' Y':DF):Prop where
 ts:∀b zs,H b=U (.tup zs)->H' b=U (.tup zs)
 kp:∀b o,X.lb b=0/\Bo.lb b=0->H b=U o->H' b=U o/\X'.lb b=0/\Y'.lb b=0
 al:∀b o,H b=U o->∃o',H' b=U o'
inductive xc (t:aX) (vs:List V) (H:D) (Q:VK) (_E:XK):Prop
 |mk (d1 d2 gl f n) (g:List aO) (CC:List (List Cs)) (S:DS) (X Bo:DF):vs=[.ref d1,.int f,.ref gl]->uf t H g n f CC S d1 d2 X Bo->g.length<=5->H gl=U (.lst ((ur f S.ls CC.length).map V.int))->((X.lb gl=0/\Bo.lb gl=0))->(∀H' X',uf t H' g n f CC S d1 d2 X' Bo->Bz8 H X Bo H' X' Bo->Q (.bl ak) H')->xc t vs H Q _E
inductive wf (t:aX) (vs:List V) (H:D) (Q:VK) (_E:XK):Prop
 |mk (d1 d2 cl gl f n) (g:List aO) (CC:List (List Cs)) (C:List Cs) (S:DS) (X Bo:DF) (ws v) (qs:List Int):vs=[.ref d1,.ref d2,.ref cl,.int f,.ref gl]->uf t H g n f CC S d1 d2 X Bo->H gl=U (.lst (qs.map V.int))->qs.length=CC.length->((X.lb gl=0/\Bo.lb gl=0))->H cl=U (.lst ws)->ws[CC.length]?=U v->ug H v C->((∀c,v=.ref c->c≠gl/\X.lb c=0/\Bo.lb c=0))->((zb2 C/\C.length<=11))->CC.length<5->(∀H' X' Y',uf t H' g n f (CC++[C]) (zb4 f CC.length S) d1 d2 X' Y'->(∀b zs,H b=U (.tup zs)->H' b=U (.tup zs))->(∀b o,H b=U o->∃o',H' b=U o')->(∀b o,b≠gl->X.lb b=0/\Bo.lb b=0->H b=U o->H' b=U o/\X'.lb b=0/\Y'.lb b=0)->H' gl=U (.lst ((qs++[0]).map V.int))->(X'.lb gl=0/\Y'.lb gl=0)->X'.fo=X.fo->Q (.bl ak) H')->wf t vs H Q _E
structure WkI(t:aX)(H0 H:D)(g:List aO)(n f:Int)(CC:List (List Cs))(S:DS)(d1 d2:L)(X Bo:DF)(lw:L->Nat)(rl kl gl cl:L)(us ws:List V):Prop where
 tw:uf t H g n f CC S d1 d2 X Bo
 hr:H rl=U (.lst us)
 l1:lw rl=1
 lg:LgB t H lw kl gl n f CC S.hl S.ls us
 al:∀b,lw b≠0->X.lb b=0/\Bo.lb b=0
 hc:H cl=U (.lst ws)
 zc:lw cl=0/\X.lb cl=0/\Bo.lb cl=0
 sm:∀b o,H0 b=U o->H b=U o/\lw b=0/\X.lb b=0/\Bo.lb b=0
structure LwC(K:bA)(H0:D)(s:L)(ns:List Int)(ws:List V)(CA:List (List Cs))(g:List aO)(n f:Int):Prop where
 hS:aT K H0 s (ns.map V.int)
 hn:ns.length<=63
 hb:∀i∈ns,Cb i
 px:Paired (ug H0) ws CA
 cc:zjG CA
 l5:g.length<=5
 n1:1<=n
 n8:n<=8
inductive jh (K:bA) (t:aX) (vs:List V) (H:D) (Q:VK) (_E:XK):Prop
 |mk (d1 d2 cl s gl f n) (g:List aO) (CA:List (List Cs)) (S:DS) (X Bo:DF) (ns) (ws:List V) (H0):vs=[.ref d1,.ref d2,.ref cl,.int f,.int n,.ref s,.ref gl]->LwC K H0 s ns ws CA g n f->uf t H g n f [] S d1 d2 X Bo->S.hl=[]->S.ls=[]->H gl=U (.lst [])->((X.lb gl=0/\Bo.lb gl=0))->H0 gl=am->H cl=U (.lst ws)->cl≠gl->((X.lb cl=0/\Bo.lb cl=0))->((∀b o,H0 b=U o->H b=U o/\X.lb b=0/\Bo.lb b=0))->(∀H' X' Y' m S',m<=ws.length->uf t H' g n f (CA.take m) S' d1 d2 X' Y'->(∀b o,H0 b=U o->H' b=U o/\X'.lb b=0/\Y'.lb b=0)->H' gl=U (.lst ((ur f S'.ls m).map V.int))->(X'.lb gl=0/\Y'.lb gl=0)->Q (.bl ak) H')->jh K t vs H Q _E
inductive sp_law (K:bA) (vs:List V) (H:D) (Q:VK) (_E:XK):Prop
 |mk (a) (ns:List Int):vs=[.ref a]->aT K H a (ns.map V.int)->ns.length<=63->(∀i∈ns,Cb i)->(∀H',Q (.bl ak) H')->sp_law K vs H Q _E
section
variable(K:bA)(t:aX)
def jZ(K:bA)(t:aX):TS:=zt (zW (zG (aN (rIn K aq) (B 0) (xi (zd (tC (.str "take")) (zd (tC (.str "give")) (zd (tC (.str "let")) (zd (tC (.str "say")) (zd (tC (.str "off")) (zd (tC (.str "if")) (zd (tC (.str "else")) (zd (tC (.str "end")) (zd (tC (.str "as")) zk)))))))))))) (zJ (aN Qs (B 0) (tC (.str "z"))))
   zN) (zt (zW (zG (aN (rIn K aq) (B 0) (xi (zd (tC (.str "plus")) (zd (tC (.str "minus")) (zd (tC (.str "times")) (zd (tC (.str "over")) (zd (tC (.str "rest")) (zd (tC (.str "under")) (zd (tC (.str "same")) zk)))))))))) (zJ (aN Qs (B 0) (tC (.str "z"))))
    zN) (zJ (B 0)))
def YB(K:bA)(t:aX):TS:=zt (zS (vC zk) (zv 2)) (zt (zS (aN aE (aN ad (B 0) (tC (.int 1000003))) (tC (.int 17))) (zv 3)) (zt (zS (aN aE (aN ad (aN aF (B 0) (tC (.int 1000003))) (tC (.int 999983))) (tC (.int 29))) (zv 4)) (zt (qZ (WJ (zd (B 1) zk)) (zv 5) (zt (zS (aN ad (aN aE (aN aE (aN aI (B 3) (B 3)) (aN aI (tC (.int 3)) (B 4))) (B 5)) (tC (.int 1000003))) (zv 3)) (zt (zS (aN ad (aN aE (aN aE (aN aI (B 4) (B 3)) (aN aI (tC (.int 7)) (B 3))) (tC (.int 11))) (tC (.int 999983))) (zv 4)) (yn (tBM K "list" yT (B 2) (zd (aN aE (aN aI (B 3) (tC (.int 999983))) (B 4)) zk)))))) (zJ (B 2)))))
def jx(K:bA)(t:aX):TS:=zt (zW (Xe (zG (aN tX (aN ad (aN aF (B 0) (tC (.int 900))) (tC (.int 3))) (tC (.int 0)))) (zG (aN aG (tJ (wJ K) (zd (B 3) zk)) (tC (.int 6))))) (zJ (vC (zd (B 3) (zd (zO yB [] E0 (zd (aN Qs (B 3) (B 5)) zk)) zk))))
   zN) (zt (zW (Xe (zG (aN tX (aN ad (aN aF (B 0) (tC (.int 900))) (tC (.int 3))) (tC (.int 1)))) (zG (aN aG (tJ (wJ K) (zd (B 3) zk)) (tC (.int 6))))) (zJ (vC (zd (zO yB [] E0 (zd (aN Qs (B 5) (B 3)) zk)) (zd (B 3) zk))))
    zN) (zJ (vC (zd (B 3) (zd (zO yB [] E0 (zd (aN Qs (aN Qs (tSl zjs (B 3) jL (vV (B 4))) (B 5)) (tSl zjs (B 3) (vV (aN aE (B 4) (tC (.int 1)))) jL)) zk)) zk)))))
def ZB:TS:=zt (zS (aN ad (aN aF (B 0) (tC (.int 6))) (tJ (wJ K) (zd (B 3) zk))) (zv 4)) (zt (zS (aN zfB (B 1) (aN ad (aN aE (aN aE (tBM K "str" Qu (B 1) (zd (aN zfB (B 3) (B 4)) zk)) (tC (.int 1))) (aN ad (aN aF (B 0) (tC (.int 36))) (tC (.int 25)))) (tC (.int 26)))) (zv 5)) (jx K t))
def ZC:TS:=zt (zS (zO yB [] E0 (zd (B 2) zk)) (zv 3)) (ZB K t)
def qB:TS:=zt (zS (tC (.str "abcdefghijklmnopqrstuvwxyz")) (zv 1)) (zt (zS (tBM K "str" (Wn K) (tC (.str "")) (zd (vG (wF K (zO xJ [] E0 (zd (B 0) (zd (aN aE (tC (.int 1)) (aN ad (B 0) (tC (.int 6)))) zk)))) (zv 0) Vm (aN zfB (B 1) (aN ad (B 0) (tC (.int 26)))) 1 [1]) zk)) (zv 2)) (ZC K t))
def ZD(K:bA)(t:aX):TS:=zt (zW (zG (aN tX (aN ad (B 0) (tC (.int 4))) (tC (.int 0)))) (zJ (aN aH (aN ad (aN aI (B 0) (aN (rI Q8 λi j=>.int (i^j.toNat)) (tC (.int 1000000007)) (tC (.int 3)))) (aN aE (aN aI (tC (.int 2)) (aN (rI Q8 λi j=>.int (i^j.toNat)) (tC (.int 10)) (tC (.int 30)))) (tC (.int 1)))) (aN (rI Q8 λi j=>.int (i^j.toNat)) (tC (.int 10)) (tC (.int 30)))))
   zN) (zJ (aN aH (aN ad (aN aF (B 0) (tC (.int 4))) (tC (.int 6))) (tC (.int 2))))
def YC(K:bA)(t:aX):TS:=zt (zS (zO xJ [] E0 (zd (B 0) (zd (tC (.int 10)) zk))) (zv 2)) (zt (zS YV (zv 3)) (zt (qZ (WJ (zd (aN ad (B 0) (tC (.int 6))) zk)) (zv 4) (zt (zS (zO xt [] E0 (zd (aN (xj K) (B 2) (aN aE (B 4) (tC (.int 5)))) zk)) (zv 5)) (zW (zG (aN rNe (B 5) (tC (.int 0)))) (Ze (B 3) (xi (zd (aN (xj K) (B 1) (aN ad (aN (xj K) (B 2) (B 4)) (tC (.int 2)))) (zd (aN ad (aN aF (aN (xj K) (B 2) (B 4)) (tC (.int 2))) (tC (.int 3))) zk))) (B 5))
   zN))) (zJ (vG (wF K (tJ zdT (zd (B 3) zk))) (zv 0) Vm (xi (zd (B 0) (zd (jM (B 1) (B 0)) zk))) 1 [3]))))
def YD(K:bA)(t:aX):TS:=zt (zW (zG (aN tX (aN ad (aN aF (B 0) (tC (.int 24))) (tC (.int 2))) (tC (.int 0)))) (zJ (tC (.int 0)))
   zN) (zJ (aN ad (aN (rI CMulC λi j=>.int (i*j)) (aN aF (B 0) (tC (.int 48))) (aN (rI Q8 λi j=>.int (i^j.toNat)) (tC (.int 1000000007)) (tC (.int 3)))) (aN aH (aN (rI Q8 λi j=>.int (i^j.toNat)) (tC (.int 10)) (tC (.int 29))) (tC (.int 300)))))
def vy(K:bA)(t:aX):TS:=zt (wb K (B 0) (tJ zbH (zd (B 1) zk)) "ground") (zt (wb K (B 0) (tC (.int 0)) "folded") (zt (wb K (B 0) Wk "worths") (wb K (B 0) YV "ranks")))
def qC(K:bA)(t:aX):TS:=zt (wb K (B 0) (B 1) "makes") (zt (wb K (B 0) Wk "laid") (zt (wb K (B 0) YV "readers") (wb K (B 0) Wk "doubted")))
def qD:TS:=zt (wb K (B 0) (B 2) "hands") (zt (wb K (B 0) (B 3) "way") (zt (wb K (B 0) (B 4) "first") (zt (wb K (B 0) (vC zk) "codes") (zt (wb K (B 0) (vC zk) "waiting") (zt (wb K (B 0) Wk "held") (zt (wb K (B 0) (Yv t.q02 (kx t) [] E0 (zd (B 1) zk)) "makes") (zt (wb K (B 0) (Yv t.q03 (qA t) [] E0 (zd (zU K (B 0) "makes") zk)) "jobs") (wb K (B 0) (vC zk) "ended"))))))))
def qQ(K:bA)(t:aX):TS:=wb K (B 0) (tC (.int 0)) "times"
def ZE:TS:=zt (zW (zG (aN tX (aN ad (aN aF (B 2) (tC (.int 24))) (tC (.int 2))) (tC (.int 0)))) (zJ (Yv t.q00 (xY t) [.int 0] E0 (zd (tJ (zcS K) (zd (B 0) zk)) (zd (B 1) (zd (B 3) zk)))))
   zN) (zJ (Yv t.q00 (xY t) [] E0 (zd (tJ (zcS K) (zd (B 0) zk)) (zd (B 1) (zd (B 3) (zd (zO kB [] E0 (zd (B 2) zk)) zk))))))
def XH:TS:=zt (zS (zde t.q0e) (zv 3)) (zt (zW (zG (aN tX (aN ad (aN aF (B 2) (tC (.int 8))) (tC (.int 3))) (tC (.int 1)))) (zS (zde t.q0d) (zv 3))
    zN) (zt (zW (zG (aN tX (aN ad (aN aF (B 2) (tC (.int 8))) (tC (.int 3))) (tC (.int 2)))) (zS (Yv t.q06 (qP t) [] E0 zk) (zv 3))
    zN) (ZE K t)))
def jA(K:bA)(t:aX):TS:=zW (zG (aN aG (B 1) (zU K (B 0) "folded")))
   zcD
   zN
def W8(K:bA)(t:aX):TS:=zt (zS (tJ zbH (zd (B 0) zk)) (zv 1)) (zJ (vG (wF K (tJ zdT (zd (B 1) zk))) (zv 0) (zG (aN rNe (jM (B 1) (B 0)) (tC (.int 0)))) (xi (zd (B 0) (zd (jM (B 1) (B 0)) zk))) 1 [1]))
def YE(K:bA)(t:aX):TS:=zt (zS (tC (.int 0)) (zv 2)) (zt (zS (tJ (wJ K) (zd (B 0) zk)) (zv 3)) (zt (Q7 (zG (aN aG (B 2) (B 3))) (zt (zS (aN aF (aN aE (B 2) (B 3)) (tC (.int 2))) (zv 4)) (zW (zG (aN aG (aN (xj K) (B 0) (B 4)) (B 1))) (zS (aN aE (B 4) (tC (.int 1))) (zv 2)) (zS (B 4) (zv 3))))) (zJ (B 2))))
def kC:TS:=zt (yn (zI t.q02 "heed_fold" (y7 t) [] E0 (B 0) (zd (B 2) zk))) (zt (zS (Zg (zU K (B 0) "ranks") (B 1) (vC zk)) (zv 3)) (zt (zS (zO yJ [] E0 (zd (B 3) (zd (B 2) zk))) (zv 4)) (zt (zW (zG (aN tX (B 4) (tC (.int 0)))) (zJ (Zg (zU K (B 0) "ground") (B 1) (tC (.int 0))))
    zN) (zJ (jM (jM (zU K (B 0) "worths") (aN (xj K) (B 3) (aN aH (B 4) (tC (.int 1))))) (B 1))))))
def vK:TS:=zJ (zO jX [] E0 (zd (vG (wF K (B 2)) (zv 0) Vm (xi (zd (B 0) (zd (zI t.q02 "seen" (xK t) [] E0 (B 1) (zd (B 0) (zd (B 2) zk))) zk))) 1 [0,1]) zk))
def jB:TS:=zt (yn (zI t.q02 "heed_fold" (y7 t) [] E0 (B 0) (zd (B 1) zk))) (zt (zS (aN zai (tJ zd0 (zd (zU K (B 0) "ground") zk)) (tJ zd0 (zd (zU K (B 0) "ranks") zk))) (zv 2)) (vK K t))
def jC(K:bA)(t:aX):TS:=zJ (tJ zd0 (zd (Zg (zU K (B 0) "worths") (B 1) YV) zk))
def XI(K:bA)(t:aX):TS:=zt (zS (jM (B 0) (B 1)) (zv 3)) (zt (yn (tBM K "list" Zp (B 3) (zd (B 2) zk))) (zW (zG (aN (zcR K) (B 3) (vC zk))) (yn (zgy (B 0) (B 1)))
   zN))
def vL(K:bA)(t:aX):TS:=qZ (wF K (B 2)) (zv 3) (yn (zO xW [] E0 (zd (zU K (B 0) "ranks") (zd (B 3) (zd (B 1) zk)))))
def jD:TS:=zt (zS (zI t.q02 "places_of" (yG t) [] E0 (B 0) (zd (B 1) zk)) (zv 2)) (zt (yn (zcN (zU K (B 0) "worths") (B 1) (tC .non))) (vL K t))
def qR:TS:=zt (qZ (wF K (B 2)) (zv 3) (yn (zI t.q02 "take_away" (y8 t) [] E0 (B 0) (zd (B 3) zk)))) (wb K (B 0) (B 1) "folded")
def qS:TS:=zt (zgw (zS (vG (iDK (zU K (B 0) "worths")) (zv 0) (zG (aN aG (B 0) (B 1))) (B 0) 1 [1]) (zv 2))) (qR K t)
def YF:TS:=zt (wb K (B 0) (tJ zbH (zd (zI t.q02 "table_for" (y9 t) [] E0 (B 0) (zd (B 1) zk)) zk)) "ground") (qS K t)
def qT(K:bA)(t:aX):TS:=zJ (aN aE (zU K (B 0) "first") (tJ (wJ K) (zd (zU K (B 0) "ended") zk)))
def XJ:TS:=yn (zI t.q02 "fold" (vx t) [] E0 (zU K (B 0) "makes") (zd (zI t.q00 "settled" (yP t) [] E0 (B 0) zk) zk))
def qU(K:bA)(t:aX):TS:=zt (zW (zG (aN aG (B 1) (tJ (wJ K) (zd (B 0) zk)))) (zJ (aN (xj K) (B 0) (B 1)))
   zN) (zJ (tC (.int 0)))
def Wt(K:bA)(t:aX)(n:Nat):TS:=zJ (aN zai (vC (zd (xi (zd (tC (.str "skip")) (zd (aN (yR K) (B 0) (tC (.int 1))) (zd (B 3) zk)))) zk)) (B 2))
def Wu(K:bA)(t:aX)(n:Nat):TS:=zt (zS (zO (wH  n) [] E0 (zd (aN (yR K) (B 0) (tC (.int 3))) (zd (aN aE (B 3) (tC (.int 1))) zk))) (zv 4)) (zJ (aN zai (aN zai (aN zai (vC (zd (xi (zd (tC (.str "skip")) (zd (aN (yR K) (B 0) (tC (.int 1))) (zd (aN aE (B 3) (tC (.int 1))) zk)))) zk)) (B 2)) (vC (zd (xi (zd (tC (.str "go")) (zd (aN aE (aN aE (B 3) (tC (.int 1))) (tJ (wJ K) (zd (B 4) zk))) zk))) zk))) (B 4)))
def kX(n:Nat):TS:=zt (zW (zG (aN (zcR K) (aN (yR K) (B 0) (tC (.int 3))) (vC zk))) (Wt K t n)
   zN) (Wu K t n)
def ZF(n:Nat):TS:=zt (zS (zO (wH  n) [] E0 (zd (aN (yR K) (B 0) (tC (.int 2))) (zd (aN aE (B 1) (tC (.int 1))) zk))) (zv 2)) (zt (zS (aN aE (aN aE (B 1) (tC (.int 1))) (tJ (wJ K) (zd (B 2) zk))) (zv 3)) (kX K t n))
def W9(K:bA)(t:aX)(n:Nat):TS:=zt (zS (vC zk) (zv 2)) (zt (qZ (wF K (B 0)) (zv 3) (zW (zG (aN tX (aN (yR K) (B 3) (tC (.int 0))) (tC (.str "if")))) (yn (tBM K "list" zbS (B 2) (zd (zO (Zz  n) [] E0 (zd (B 3) (zd (aN aE (B 1) (tJ (wJ K) (zd (B 2) zk))) zk))) zk))) (yn (tBM K "list" yT (B 2) (zd (B 3) zk))))) (zJ (B 2)))
def JH(K:bA)(t:aX):TS:=zJ (zO (wH  6) [] E0 (zd (B 0) (zd (tC (.int 0)) zk)))
def Va(K:bA)(t:aX):TS:=zJ (zkb (aN zdL (zU K (B 0) "why") (tC .non)) (aN (rI0 λi j=>.bl (decide (j<=i))) (zU K (B 0) "at") (tJ (wJ K) (zd (zU K (B 0) "code") zk))))
def JI(K:bA)(t:aX)(E:XK):TS:=zt (zW (zG (aN tX (B 2) (tC (.int 0)))) (zcQ t.q08 (zd (zfN (B 0)) zk) E)
   zN) (zJ (tIf (zG (aN tX (B 0) (tC (.str "over")))) (aN (rI ziV λi j=>.int (i.fdiv j)) (B 1) (B 2)) (aN (rI (λ_ j=>j≠0) λi j=>.int (i.fmod j)) (B 1) (B 2))))
def JJ(K:bA)(t:aX)(E:XK):TS:=zt (zW (zG (aN tX (B 0) (tC (.str "plus")))) (zJ (aN aE (B 1) (B 2)))
   zN) (zt (zW (zG (aN tX (B 0) (tC (.str "minus")))) (zJ (aN aH (B 1) (B 2)))
    zN) (zt (zW (zG (aN tX (B 0) (tC (.str "times")))) (zJ (aN aI (B 1) (B 2)))
    zN) (zt (zW (zG (aN tX (B 0) (tC (.str "under")))) (zJ (tIf (zG (aN aG (B 1) (B 2))) (tC (.int 1)) (tC (.int 0))))
    zN) (zt (zW (zG (aN tX (B 0) (tC (.str "same")))) (zJ (tIf (zG (aN tX (B 1) (B 2))) (tC (.int 1)) (tC (.int 0))))
    zN) (zJ (zO (qx t) [] E (zd (B 0) (zd (B 1) (zd (B 2) zk)))))))))
def ZG(K:bA)(t:aX):TS:=zt (zW (tOr (kj (tB (tJ (Yk K) (zd (B 0) (zd (tC (.ty "int")) zk))))) (tB (tJ (Yk K) (zd (B 0) (zd (tC (.ty "bool")) zk))))) (zJ (tC (.bl aq)))
   zN) (zJ (zaa (rI0 λi j=>.bl (decide (i<=j))) (rI0 λi j=>.bl (decide (i<=j))) (tUn (rU λi=>.int (-i)) (aN (rI Q8 λi j=>.int (i^j.toNat)) (tC (.int 10)) (tC (.int 30)))) (B 0) (aN (rI Q8 λi j=>.int (i^j.toNat)) (tC (.int 10)) (tC (.int 30)))))
def QK(K:bA)(t:aX)(E:XK):TS:=zt (zS (zO (qy t) [] E (zd (B 0) (zd (B 1) (zd (B 2) zk)))) (zv 3)) (zt (zW (kj (tB (zO W6 [] E (zd (B 3) zk)))) (zcQ t.q0a (zd (zfN (B 0)) zk) E)
    zN) (zJ (B 3)))
def KB(E:XK):TS:=zt (zS (zhM K "list" Jb (B 2)) (zv 4)) (zt (zS (zhM K "list" Jb (B 2)) (zv 5)) (yn (tBM K "list" yT (B 2) (zd (zO (Yh t) [] E (zd (B 3) (zd (B 5) (zd (B 4) zk)))) zk))))
def KC(K:bA)(t:aX)(E:XK):TS:=yn (tBM K "list" yT (B 2) (zd (tIf (tB (tJ (Yk K) (zd (B 3) (zd (tC (.ty "str")) zk)))) (Zg (B 1) (B 3) (tC (.int 0))) (B 3)) zk))
def KD(E:XK):TS:=zW (zG (aN (rIn K aq) (B 3) (tC (.ref t.q0t)))) (KB K t E) (KC K t E)
def Vb(E:XK):TS:=zt (zS (vC zk) (zv 2)) (zt (qZ (zkd K (B 0)) (zv 3) (KD K t E)) (zJ (zhM K "list" Jb (B 2))))
def qV(E:XK):TS:=zJ (zO (Zy t) [] E (zd (B 1) (zd (zU K (B 0) "slots") zk)))
def qW(E:XK):TS:=zJ (xi (zd (aN (yR K) (B 1) (tC (.int 1))) (zd (zI t.q01 "worth_of" (yq t) [] E (B 0) (zd (aN (yR K) (B 1) (tC (.int 2))) zk)) zk)))
def KG(K:bA)(t:aX):TS:=zt (zW (tOr (zG (aN (zbD aq) (B 1) (zU K (B 0) "gifts"))) (zG (aN (zbD aq) (B 1) (zU K (B 0) "notes")))) (zJ (tC .non))
   zN) (zJ (B 1))
def KH:TS:=zt (zi2 K (ziT (zc3 t.q01 "place_in" (yO t) (B 0) (zd (aN (xj K) (zU K (B 0) "code") (zU K (B 0) "at")) zk)) 1) t.q0a t.q08 (zJ (tC .non))) (KG K t)
def Vc:TS:=zt (zW (tOr (tB (zI t.q01 "over" (xu t) [] E0 (B 0) zk)) (zG (aN rNe (aN (yR K) (aN (xj K) (zU K (B 0) "code") (zU K (B 0) "at")) (tC (.int 0))) (tC (.str "take"))))) (zJ (tC .non))
   zN) (KH K t)
def XL(K:bA)(t:aX):TS:=zt (zW (zG (aN (zbD aq) (B 1) (zU K (B 0) "gifts"))) (zJ (jM (zU K (B 0) "gifts") (B 1)))
   zN) (zt (zW (zG (aN (zbD ak) (B 1) (zU K (B 0) "notes"))) (Ze (zU K (B 0) "notes") (B 1) (B 2))
    zN) (zJ (jM (zU K (B 0) "notes") (B 1))))
def KI(E:XK):TS:=Ze (zU K (B 0) "slots") (aN (yR K) (B 1) (tC (.int 1))) (zI t.q01 "worth_of" (yq t) [] E (B 0) (zd (aN (yR K) (B 1) (tC (.int 2))) zk))
def YG(E:XK):TS:=yn (tBM K "list" yT (zU K (B 0) "sayings") (zd (zI t.q01 "worth_of" (yq t) [] E (B 0) (zd (aN (yR K) (B 1) (tC (.int 1))) zk)) zk))
def KJ(E:XK):TS:=zt (zS (zI t.q01 "place_in" (yO t) [] E (B 0) (zd (B 1) zk)) (zv 3)) (Ze (zU K (B 0) "gifts") (B 3) (zI t.q01 "worth_of" (yq t) [] E (B 0) (zd (aN (yR K) (B 1) (tC (.int 3))) zk)))
def KK(E:XK):TS:=Ze (zU K (B 0) "slots") (aN (yR K) (B 1) (tC (.int 3))) (zI t.q01 "taken" (ja t) [] E (B 0) (zd (zI t.q01 "place_in" (yO t) [] E (B 0) (zd (B 1) zk)) (zd (B 2) zk)))
def Vd(E:XK):TS:=zW (zG (aN tX (aN (yR K) (B 1) (tC (.int 0))) (tC (.str "take")))) (KK K t E) (zW (zG (aN tX (aN (yR K) (B 1) (tC (.int 0))) (tC (.str "give")))) (KJ K t E) (zW (zG (aN tX (aN (yR K) (B 1) (tC (.int 0))) (tC (.str "let")))) (KI K t E) (YG K t E)))
def Vw(E:XK):TS:=zW (zG (aN rNe (zI t.q01 "worth_of" (yq t) [] E (B 0) (zd (aN (yR K) (B 1) (tC (.int 1))) zk)) (tC (.int 0)))) (wb K (B 0) (tC (.str "told")) "why")
   zN
def Vx(K:bA)(t:aX)(E:XK):TS:=yn (zI t.q01 "does" (jV t) [] E (B 0) (zd (B 1) (zd (B 2) zk)))
def Vy(E:XK):TS:=zJ (tIf (zG (aN tX (zI t.q01 "worth_of" (yq t) [] E (B 0) (zd (aN (yR K) (B 1) (tC (.int 1))) zk)) (tC (.int 0)))) (aN (yR K) (B 1) (tC (.int 2))) (aN aE (zU K (B 0) "at") (tC (.int 1))))
def Vz(E:XK):TS:=zt (zW (zG (aN tX (aN (yR K) (B 1) (tC (.int 0))) (tC (.str "off")))) (Vw K t E) (Vx K t E)) (zJ (aN aE (zU K (B 0) "at") (tC (.int 1))))
def VA(E:XK):TS:=zt (zW (zG (aN tX (aN (yR K) (B 1) (tC (.int 0))) (tC (.str "skip")))) (Vy K t E)
   zN) (Vz K t E)
def YH(E:XK):TS:=zt (zW (zG (aN tX (aN (yR K) (B 1) (tC (.int 0))) (tC (.str "go")))) (zJ (aN (yR K) (B 1) (tC (.int 1))))
   zN) (VA K t E)
def Ve:TS:=zt (zW (tB (zI t.q01 "over" (xu t) [] E0 (B 0) zk))
   ziM
   zN) (zge K (zi1 K (B 0) (zc3 t.q01 "led_by" (vp t) (B 0) (zd (aN (xj K) (zU K (B 0) "code") (zU K (B 0) "at")) (zd (B 1) zk))) "at") t.q0a (wb K (B 0) (tC (.str "great")) "why") t.q08 (wb K (B 0) (tC (.str "nought")) "why"))
def vM:TS:=zt (qZ (wF K (aN (yR K) (jM (zU K (B 0) "laid") (B 1)) (tC (.int 1)))) (zet K 2 (Zc (zv 2) (Zc (zv 3) zes))) (zt (zS (zI t.q02 "seen" (xK t) [] E0 (zU K (B 0) "makes") (zd (B 2) (zd (B 1) zk))) (zv 4)) (zW (zG (aN rNe (B 4) (B 3))) (zJ (xi (zd (B 2) (zd (B 3) (zd (B 4) zk)))))
   zN))) (zJ (tC .non))
def wT:TS:=zt (zS (tJ zi3 (zd (zU K (B 0) "doubted") zk)) (zv 1)) (zt (qZ (wF K (B 1)) (zv 2) (zt (zS (zI t.q03 "changed_note" (xR t) [] E0 (B 0) (zd (B 2) zk)) (zv 3)) (zt (zW (zG (aN zdL (B 3) (tC .non))) (zJ (aN (zfA K) (xi (zd (B 2) zk)) (B 3)))
    zN) (yn (zaj (zU K (B 0) "doubted") (B 2)))))) (zJ (tC .non)))
def kY(K:bA)(t:aX):TS:=zt (zS (zaj (zU K (B 0) "laid") (B 1)) (zv 2)) (zt (yn (zcN (zU K (B 0) "doubted") (B 1) (tC .non))) (zt (qZ (wF K (aN (yR K) (B 2) (tC (.int 1)))) (zet K 2 (Zc (zv 3) (Zc (zv 4) zes))) (yn (zO xW [] E0 (zd (zU K (B 0) "readers") (zd (B 3) (zd (B 1) zk)))))) (zJ (B 2))))
def j6(K:bA)(t:aX):TS:=zJ (aN (xj K) (B 1) (tUn (rU λi=>.int (-i)) (tC (.int 1))))
def j7(K:bA)(t:aX):TS:=zt (zS (aN ad (zU K (B 0) "times") (tJ (wJ K) (zd (B 1) zk))) (zv 2)) (zt (zdB K (B 0) (tC (.int 1)) zkh "times") (zJ (aN (xj K) (B 1) (B 2))))
def YI(K:bA)(t:aX):TS:=zJ (aN (xj K) (B 1) (tC (.int 0)))
def ZH(K:bA)(t:aX):TS:=zt (wb K (B 0) (tJ (zcS K) (zd (B 1) zk)) "code") (zt (wb K (B 0) (tC (.int 0)) "at") (zt (wb K (B 0) (tC .non) "why") (zt (wb K (B 0) Wk "slots") (zt (wb K (B 0) YV "gifts") (zt (wb K (B 0) YV "notes") (wb K (B 0) (vC zk) "sayings"))))))
def wA:TS:=zt (yn (tBM K "list" Zp (zU K (B 0) "waiting") (zd (B 2) zk))) (zt (Ze (zU K (B 0) "held") (B 1) (xi (zd (B 2) (zd (Yv t.q01 (jU t) [] E0 (zd (aN (xj K) (zU K (B 0) "codes") (aN aH (B 2) (zU K (B 0) "first"))) zk)) zk)))) (zJ (xi (zd (tC (.str "take")) (zd (B 1) (zd (B 2) zk))))))
def kZ:TS:=zt (zS (zgD [(t.q0d,(wO t)),(t.q06,(wP t)),(t.q0e,(kA t))] "chosen" E0 (zU K (B 0) "way") (zd (tJ (zcS K) (zd (zU K (B 0) "waiting") zk)) zk)) (zv 2)) (wA K t)
def vN:TS:=zt (yn (zI t.q03 "take_off" (xX t) [] E0 (zU K (B 0) "jobs") (zd (aN (yR K) (B 3) (tC (.int 0))) zk))) (zt (yn (tBM K "list" Zo (zU K (B 0) "waiting") (zd (zO yJ [] E0 (zd (zU K (B 0) "waiting") (zd (aN (yR K) (B 3) (tC (.int 0))) zk))) (zd (aN (yR K) (B 3) (tC (.int 0))) zk)))) (zJ (aN (zfA K) (xi (zd (tC (.str "again")) (zd (B 1) zk))) (B 3))))
def vO:TS:=zt (yn (tBM K "list" yT (zU K (B 0) "ended") (zd (zI t.q03 "take_off" (xX t) [] E0 (zU K (B 0) "jobs") (zd (B 2) zk)) zk))) (zJ (xi (zd (tC (.str "settle")) (zd (B 1) (zd (B 2) zk)))))
def vP:TS:=zt (zW (zG (aN (zgt K) (zU K (B 0) "waiting") (vC zk))) (zJ (zI t.q00 "taken_up" (xZ t) [] E0 (B 0) (zd (B 1) zk)))
   zN) (zJ (xi (zd (tC (.str "rest")) (zd (B 1) zk))))
def ZI:TS:=zt (zW (zG (aN zdL (B 3) (tC .non))) (vN K t)
   zN) (vP K t)
def jE:TS:=zt (zS (zI t.q00 "settled" (yP t) [] E0 (B 0) zk) (zv 2)) (zt (zS (zI t.q03 "lowest_changed" (xA t) [] E0 (zU K (B 0) "jobs") zk) (zv 3)) (zt (zW (Xe (zG (aN (zbD aq) (B 2) (zU K (zU K (B 0) "jobs") "laid"))) (tOr (zG (aN zhQ (B 3) (tC .non))) (zG (aN rNe (aN (yR K) (B 3) (tC (.int 0))) (B 2))))) (vO K t)
    zN) (ZI K t)))
def Vf(K:bA)(t:aX):TS:=zt (zS (zgz (B 0) (B 1) (vC zk)) (zv 3)) (yn (tBM K "list" Zo (B 3) (zd (zO yJ [] E0 (zd (B 3) (zd (B 2) zk))) (zd (B 2) zk))))
def ZJ(K:bA)(t:aX):TS:=Ze (zU K (B 0) "worths") (B 1) (B 3)
def ZK:TS:=zt (zks (qZ (iDT (B 3)) (zv 4) (yn (zO vI [] E0 (zd (zU K (B 0) "ranks") (zd (B 4) (zd (B 1) zk))))))) (ZJ K t)
def qE:TS:=zt (yn (zI t.q02 "heed_fold" (y7 t) [] E0 (B 0) (zd (B 1) zk))) (zt (yn (zI t.q02 "take_away" (y8 t) [] E0 (B 0) (zd (B 1) zk))) (zt (zS (tJ zbH (zd (B 2) zk)) (zv 3)) (ZK K t)))
def wd(K:bA)(t:aX):TS:=zt (zS (Zg (zU K (B 0) "ranks") (B 1) (vC zk)) (zv 3)) (zt (zS (zO yJ [] E0 (zd (B 3) (zd (aN aE (B 2) (tC (.int 1))) zk))) (zv 4)) (zJ (tIf (zG (aN tX (B 4) (tJ (wJ K) (zd (B 3) zk)))) (tC .non) (aN (xj K) (B 3) (B 4)))))
def qX(K:bA)(t:aX):TS:=qZ (wF K (tSl (Kn K) (B 3) (vV (zO yJ [] E0 (zd (B 3) (zd (aN aE (B 2) (tC (.int 1))) zk)))) (vV (B 5)))) (zv 6) (Ze (zU K (B 0) "doubted") (B 6) (tC (.bl ak)))
def YJ:TS:=zt (zS (Zg (zU K (B 0) "readers") (B 1) (vC zk)) (zv 3)) (zt (zS (zI t.q02 "next_above" (xo t) [] E0 (zU K (B 0) "makes") (zd (B 1) (zd (B 2) zk))) (zv 4)) (zt (zS (tIf (zG (aN zhQ (B 4) (tC .non))) (tJ (wJ K) (zd (B 3) zk)) (zO yJ [] E0 (zd (B 3) (zd (aN aE (B 4) (tC (.int 1))) zk)))) (zv 5)) (qX K t)))
def k7:TS:=zt (zS (zI t.q02 "places_of" (yG t) [] E0 (zU K (B 0) "makes") (zd (B 1) zk)) (zv 3)) (zt (yn (zI t.q02 "lay" (jg t) [] E0 (zU K (B 0) "makes") (zd (B 1) (zd (aN (yR K) (B 2) (tC (.int 2))) zk)))) (zt (qZ (wF K (aN zai (B 3) (zI t.q02 "places_of" (yG t) [] E0 (zU K (B 0) "makes") (zd (B 1) zk)))) (zv 4) (yn (zI t.q03 "doubt" (kz t) [] E0 (B 0) (zd (B 4) (zd (B 1) zk))))) (zt (Ze (zU K (B 0) "laid") (B 1) (B 2)) (zt (Ze (zU K (B 0) "doubted") (B 1) (tC (.bl ak))) (qZ (wF K (aN (yR K) (B 2) (tC (.int 1)))) (zet K 2 (Zc (zv 4) (Zc (zv 5) zes))) (yn (zO vI [] E0 (zd (zU K (B 0) "readers") (zd (B 4) (zd (B 1) zk))))))))))
def JK(K:bA)(t:aX):TS:=zt (zW (zG (aN zdL (zU K (B 0) "why") (tC .non))) (zJ (xi (zd (xi (zd (tC (.str "off")) (zd (zU K (B 0) "why") zk))) (zd (B 1) (zd (vC zk) zk)))))
   zN) (zJ (xi (zd (xi (zd (tC (.str "done")) (zd (tJ (zkQ K) (zd (zU K (B 0) "sayings") zk)) zk))) (zd (B 1) (zd (tJ ziY (zd (zc4 (zU K (B 0) "gifts")) zk)) zk)))))
def JL:TS:=zt (zS (tJ ziX (zd (zc4 (zU K (B 0) "notes")) zk)) (zv 1)) (JK K t)
def XM:TS:=zt (zW (kj (tB (zI t.q01 "over" (xu t) [] E0 (B 0) zk))) (zJ (tC .non))
   zN) (JL K t)
def ZM:TS:=zt (yn (zaj (zU K (B 0) "held") (B 1))) (zt (yn (zI t.q03 "lay_down" (vh t) [] E0 (zU K (B 0) "jobs") (zd (B 2) (zd (zI t.q01 "paper" (wM t) [] E0 (B 3) zk) zk)))) (zJ (xi (zd (tC (.str "lay")) (zd (B 1) (zd (B 2) zk))))))
def ZN:TS:=zt (zS (zI t.q01 "asks" (jW t) [] E0 (B 3) zk) (zv 4)) (zt (zW (zG (aN zhQ (B 4) (tC .non))) (zt (yn (zI t.q01 "step" (wI t) [.int 0] E0 (B 3) zk)) (zJ (xi (zd (tC (.str "step")) (zd (B 1) (zd (B 2) zk))))))
   zN) (zt (zS (zI t.q02 "seen" (xK t) [] E0 (zU K (B 0) "makes") (zd (B 4) (zd (B 2) zk))) (zv 5)) (zt (yn (zI t.q01 "step" (wI t) [] E0 (B 3) (zd (B 5) zk))) (zJ (xi (zd (tC (.str "read")) (zd (B 1) (zd (B 2) (zd (B 4) (zd (B 5) zk))))))))))
def JM:TS:=zt (zS (aN (yR K) (jM (zU K (B 0) "held") (B 1)) (tC (.int 0))) (zv 2)) (zt (zS (aN (yR K) (jM (zU K (B 0) "held") (B 1)) (tC (.int 1))) (zv 3)) (zt (zW (tB (zI t.q01 "over" (xu t) [] E0 (B 3) zk)) (ZM K t)
    zN) (ZN K t)))
def XN:TS:=zt (zW (tOr (zG (aN aG (B 1) (tC (.int 0)))) (zG (aN (rI0 λi j=>.bl (decide (j<=i))) (B 1) (zU K (B 0) "hands"))))
   zcD
   zN) (zt (zW (zG (aN (zbD ak) (B 1) (zU K (B 0) "held"))) (zJ (zI t.q00 "moved_free" (xB t) [] E0 (B 0) (zd (B 1) zk)))
    zN) (JM K t))
def k8:TS:=zt (zdW (B 5) (B 1) (aN aH (aN (yR K) (B 0) (tC (.int 2))) (B 3))) (zJ (Yv t.q01 (jU t) [] E0 (zd (aN (xj K) (B 2) (aN aH (aN (yR K) (B 0) (tC (.int 2))) (B 3))) zk)))
def k9:TS:=zt (zW (tB (zI t.q01 "over" (xu t) [] E0 (B 7) zk)) (zt (zdW (B 6) (aN (xj K) (B 5) (B 1)) (tJ (wJ K) (zd (aN (yR K) (zI t.q01 "paper" (wM t) [] E0 (B 7) zk) (tC (.int 2))) zk))) (zJ (tC .non)))
   zN) (zt (zW (Xe (zG (aN tX (aN (yR K) (B 0) (tC (.int 0))) (tC (.str "read")))) (zG (aN tX (tJ (wJ K) (zd (B 0) zk)) (tC (.int 5))))) (yn (zI t.q01 "step" (wI t) [] E0 (B 7) (zd (aN (yR K) (B 0) (tC (.int 4))) zk))) (yn (zI t.q01 "step" (wI t) [.int 0] E0 (B 7) zk))) (zJ (B 7)))
def ZO:TS:=zt (zS (aN (xj K) (B 4) (B 1)) (zv 7)) (zt (zW (zG (aN zhQ (B 7) (tC .non))) (zt (zW (Xe (zG (aN tX (aN (yR K) (B 0) (tC (.int 0))) (tC (.str "take")))) (zG (zaa (rI0 λi j=>.bl (decide (i<=j))) aG (tC (.int 0)) (aN aH (aN (yR K) (B 0) (tC (.int 2))) (B 3)) (tJ (wJ K) (zd (B 2) zk))))) (k8 K t)
    zN) (zJ (tC .non)))
   zN) (k9 K t))
def kD(K:bA)(t:aX)(n:Nat):TS:=zt (zW (tOr (tB (tJ (Yk K) (zd (B 1) (zd (tC (.ty "list")) zk)))) (tB (tJ (Yk K) (zd (B 1) (zd (tC (.ty "tuple")) zk))))) (zt (zW (Xe (kj (tB (tJ (Yk K) (zd (B 0) (zd (tC (.ty "list")) zk))))) (kj (tB (tJ (Yk K) (zd (B 0) (zd (tC (.ty "tuple")) zk)))))) (zJ (tC (.bl aq)))
   zN) (zt (zW (tOr (zG (aN rNe (tJ (Yk K) (zd (B 0) (zd (tC (.ty "list")) zk))) (tJ (Yk K) (zd (B 1) (zd (tC (.ty "list")) zk))))) (zG (aN rNe (tJ (wJ K) (zd (B 0) zk)) (tJ (wJ K) (zd (B 1) zk))))) (zJ (tC (.bl aq)))
    zN) (zt (qZ (ziZ K (zd (B 0) (zd (B 1) zk))) (zet K 2 (Zc (zv 2) (Zc (zv 3) zes))) (zW (kj (tB (zO (yb  n) [] E0 (zd (B 2) (zd (B 3) zk))))) (zJ (tC (.bl aq)))
    zN)) (zJ (tC (.bl ak))))))
   zN) (zt (zW (tB (tJ (Yk K) (zd (B 1) (zd (tC (.ty "str")) zk)))) (zJ (Qf (tJ (Yk K) (zd (B 0) (zd (tC (.ty "str")) zk))) (aN tX (B 0) (B 1))))
    zN) (zJ (Qf (tJ (Yk K) (zd (B 0) (zd (tC (.ty "int")) zk))) (Qf (ziL (tJ (Yk K) (zd (B 0) (zd (tC (.ty "bool")) zk)))) (aN tX (B 0) (B 1))))))
def j8(K:bA)(t:aX):TS:=zJ (aN aE (zU K (B 0) "first") (tJ (wJ K) (zd (zU K (B 0) "codes") zk)))
def Vg:TS:=zt (zS (zI t.q00 "next_rank" (xN t) [] E0 (B 0) zk) (zv 2)) (zt (yn (tBM K "list" yT (zU K (B 0) "codes") (zd (tJ (zcS K) (zd (B 1) zk)) zk))) (zt (yn (tBM K "list" yT (zU K (B 0) "waiting") (zd (B 2) zk))) (zJ (B 2))))
def YK:TS:=zt (zS (aN aE (B 3) (tJ (wJ K) (zd (B 4) zk))) (zv 5)) (zt (zS (aN (xj K) (B 2) (tJ (wJ K) (zd (B 4) zk))) (zv 6)) (zt (yn (tBM K "list" yT (B 4) (zd (tC (.int 0)) zk))) (zJ (Qf (zO (yb  6) [] E0 (zd (zI t.q00 "add" (vJ t) [] E0 (B 0) (zd (B 6) zk)) (zd (B 5) zk))) (zO (yb  6) [] E0 (zd (zI t.q00 "add" (vJ t) [] E0 (B 1) (zd (B 6) zk)) (zd (B 5) zk)))))))
def kE(K:bA)(t:aX):TS:=zgw (zJ (tJ (zdX K) (zd (vG (iDK (zU K (B 0) "worths")) (zv 0) Vm (tJ zi0 (zd (jM (zU K (B 1) "worths") (B 0)) zk)) 1 [0]) zk)))
def XO:TS:=zJ (zI t.q02 "kept" (vt t) [] E0 (zU K (B 0) "makes") zk)
def vQ:TS:=zt (qZ (WJ (zd (tC (.int 2)) zk)) (zv 3) (zt (yn (zI t.q00 "fold" (wQ t) [] E0 (B 0) zk)) (zW (kj (tB (zO (yb  6) [] E0 (zd (zI t.q00 "kept" (x8 t) [] E0 (B 0) zk) (zd (tJ (zdX K) (zd (tSl (Kn K) (B 2) (vV (aN aH (zI t.q00 "settled" (yP t) [] E0 (B 0) zk) (B 1))) jL) zk)) zk))))) (zJ (tC (.bl aq)))
   zN))) (zJ (tC (.bl ak)))
def YL:TS:=zJ (zI t.q02 "table_for" (y9 t) [] E0 (zU K (B 0) "makes") (zd (zI t.q00 "settled" (yP t) [] E0 (B 0) zk) zk))
def ZP(K:bA)(t:aX):TS:=zW (kj (tB (zO (yb  6) [] E0 (zd (zI t.q00 "table" (xk t) [] E0 (B 0) zk) (zd (zI t.q00 "table" (xk t) [] E0 (B 1) zk) zk))))) (zJ (tC (.bl aq)))
   zN
def ZQ:TS:=zt (zW (Xe (zG (aN tX (aN ad (B 9) (tC (.int 5))) (tC (.int 0)))) (kj (tB (zO (xc t) [] E0 (zd (B 0) (zd (B 3) (zd (B 6) zk))))))) (zJ (tC (.bl aq)))
   zN) (ZP K t)
def ZR:TS:=zt (zdW (B 7) (B 10) (zO (wS t) [] E0 (zd (B 11) (zd (B 10) (zd (B 2) (zd (B 3) (zd (B 7) (zd (B 8) (zd (B 6) zk))))))))) (zt (zW (kj (tB (zO (yb  6) [] E0 (zd (zI t.q00 "kept" (x8 t) [] E0 (B 1) zk) (zd (tJ (zdX K) (zd (B 6) zk)) zk))))) (zJ (tC (.bl aq)))
    zN) (ZQ K t))
def ZS:TS:=zt (zS (aN ad (aN aF (B 9) (tC (.int 5))) (B 4)) (zv 10)) (zt (zS (zI t.q00 "move" (x6 t) [] E0 (B 1) (zd (B 10) zk)) (zv 11)) (zt (zW (kj (tB (zO (yb  6) [] E0 (zd (zI t.q00 "move" (x6 t) [] E0 (B 0) (zd (B 10) zk)) (zd (B 11) zk))))) (zJ (tC (.bl aq)))
    zN) (ZR K t)))
def ZU:TS:=zt (zW (Xe (zG (aN aG (aN ad (B 9) (tC (.int 5))) (tC (.int 2)))) (Xe (zG (aN aG (tJ (wJ K) (zd (B 6) zk)) (tJ (wJ K) (zd (B 2) zk)))) (kj (tB (zO (wf t) [] E0 (zd (B 0) (zd (B 1) (zd (B 2) (zd (B 3) (zd (B 6) zk)))))))))) (zJ (tC (.bl aq)))
   zN) (ZS K t)
def XQ:TS:=zt (zS (vG (WJ (zd (B 4) zk)) (zv 0) Vm (tC .non) 1 []) (zv 7)) (zt (zS (vG (WJ (zd (B 4) zk)) (zv 0) Vm (tC (.int 0)) 1 []) (zv 8)) (zt (qZ (wF K (B 5)) (zv 9) (ZU K t)) (zJ (tC (.bl ak)))))
def qF(K:bA)(t:aX):TS:=zt (zS (aN ad (B 0) (tC (.int 5))) (zv 2)) (zt (zW (zG (aN aG (B 2) (tC (.int 2)))) (zJ (xi (zd (aN ad (aN aF (B 0) (tC (.int 5))) (tC (.int 3))) zk)))
    zN) (zt (zW (zG (aN tX (B 2) (tC (.int 2)))) (zJ (xi (zd (aN (xj K) (B 1) (aN ad (aN aF (B 0) (tC (.int 5))) (tC (.int 2)))) zk)))
    zN) (zt (zW (Xe (zG (aN tX (B 2) (tC (.int 3)))) (zG (aN tX (aN ad (aN aF (B 0) (tC (.int 10))) (tC (.int 3))) (tC (.int 0))))) (zJ (xi (zd (tC (.int 7)) (zd (aN (xj K) (B 1) (aN ad (aN aF (B 0) (tC (.int 30))) (tC (.int 2)))) (zd (tC (.str "over")) zk)))))
    zN) (zt (zW (zG (aN tX (B 2) (tC (.int 3)))) (zJ (xi (zd (aN (xj K) (B 1) (aN ad (aN aF (B 0) (tC (.int 5))) (tC (.int 2)))) (zd (tC (.int 3)) (zd (tC (.str "rest")) zk)))))
    zN) (zJ (xi (zd (zO xt [] E0 (zd (aN aF (B 0) (tC (.int 5))) zk)) zk)))))))
def qG(K:bA)(t:aX):TS:=zt (zS (vC (zd (tC (.str "plus")) (zd (tC (.str "minus")) (zd (tC (.str "times")) (zd (tC (.str "over")) (zd (tC (.str "rest")) (zd (tC (.str "under")) (zd (tC (.str "same")) zk)))))))) (zv 2)) (zt (zS (aN ad (B 0) (tC (.int 9))) (zv 3)) (zt (zW (zG (aN tX (B 3) (tC (.int 0)))) (zJ (xi (zd (zO xt [] E0 (zd (aN aF (B 0) (tC (.int 9))) zk)) zk)))
    zN) (zt (zW (zG (aN tX (B 3) (tC (.int 1)))) (zJ (xi (zd (aN (xj K) (B 1) (aN ad (aN aF (B 0) (tC (.int 9))) (tC (.int 2)))) zk)))
    zN) (zt (zW (zG (aN tX (aN ad (aN aF (B 0) (tC (.int 9))) (tC (.int 2))) (tC (.int 0)))) (zJ (xi (zd (aN (xj K) (B 1) (aN ad (aN aF (B 0) (tC (.int 18))) (tC (.int 2)))) (zd (zO xt [] E0 (zd (aN aF (B 0) (tC (.int 36))) zk)) (zd (aN (xj K) (B 2) (aN aH (B 3) (tC (.int 2)))) zk)))))
    zN) (zJ (xi (zd (aN (xj K) (B 1) (aN ad (aN aF (B 0) (tC (.int 18))) (tC (.int 2)))) (zd (aN (xj K) (B 1) (aN ad (aN aF (B 0) (tC (.int 36))) (tC (.int 2)))) (zd (aN (xj K) (B 2) (aN aH (B 3) (tC (.int 2)))) zk)))))))))
def YM(K:bA)(t:aX):TS:=zt (zW (zG (aN aG (B 3) (tC (.int 4)))) (zJ (xi (zd (tC (.str "take")) (zd (B 4) (zd (B 6) (zd (B 5) zk))))))
   zN) (zt (zW (zG (aN aG (B 3) (tC (.int 7)))) (zJ (xi (zd (tC (.str "give")) (zd (B 4) (zd (B 6) (zd (B 7) zk))))))
    zN) (zt (zW (zG (aN tX (B 3) (tC (.int 7)))) (zJ (xi (zd (tC (.str "let")) (zd (B 5) (zd (B 7) zk)))))
    zN) (zt (zW (zG (aN tX (B 3) (tC (.int 8)))) (zJ (xi (zd (tC (.str "say")) (zd (B 7) zk))))
    zN) (zJ (xi (zd (tC (.str "off")) (zd (xi (zd (B 5) (zd (aN aE (aN ad (aN (xj K) (B 0) (tC (.int 1))) (tC (.int 3))) (tC (.int 1))) (zd (tC (.str "same")) zk)))) zk)))))))
def ZV:TS:=zt (zS (aN ad (aN (xj K) (B 0) (tC (.int 0))) (tC (.int 10))) (zv 3)) (zt (zS (aN (xj K) (B 1) (aN ad (aN aF (aN (xj K) (B 0) (tC (.int 0))) (tC (.int 10))) (tC (.int 2)))) (zv 4)) (zt (zS (aN (xj K) (B 2) (aN ad (aN aF (aN (xj K) (B 0) (tC (.int 0))) (tC (.int 20))) (tC (.int 2)))) (zv 5)) (zt (zS (zO je [] E0 (zd (aN (xj K) (B 0) (tC (.int 1))) (zd (B 2) zk))) (zv 6)) (zt (zS (zO wN [] E0 (zd (aN (xj K) (B 0) (tC (.int 2))) (zd (B 2) zk))) (zv 7)) (YM K t)))))
def jF(K:bA)(t:aX):TS:=zt (zW (zG (aN tX (aN ad (aN aF (B 0) (tC (.int 7))) (tC (.int 3))) (tC (.int 0)))) (zt (zS (aN ad (aN (xj K) (B 3) (tC (.int 18))) (aN aE (tJ (wJ K) (zd (B 4) zk)) (tC (.int 1)))) (zv 5)) (zt (zS (aN aE (B 5) (aN ad (aN (xj K) (B 3) (tC (.int 21))) (aN aH (aN aE (tJ (wJ K) (zd (B 4) zk)) (tC (.int 1))) (B 5)))) (zv 6)) (zt (zS (xi (zd (tC (.str "if")) (zd (zO wN [] E0 (zd (aN (xj K) (B 3) (tC (.int 19))) (zd (B 2) zk))) (zd (tSl (Kn K) (B 4) (vV (B 5)) (vV (B 6))) (zd (tSl (Kn K) (B 4) jL (vV (aN ad (aN (xj K) (B 3) (tC (.int 20))) (tC (.int 3))))) zk))))) (zv 7)) (zS (aN zai (aN zai (tSl (Kn K) (B 4) jL (vV (B 5))) (vC (zd (B 7) zk))) (tSl (Kn K) (B 4) (vV (B 6)) jL)) (zv 4)))))
   zN) (zJ (B 4))
def XR:TS:=zt (zS (zO xJ [] E0 (zd (B 0) (zd (tC (.int 22)) zk))) (zv 3)) (zt (zS (vG (WJ (zd (aN ad (B 0) (tC (.int 7))) zk)) (zv 0) Vm (zO jY [] E0 (zd (tSl (Kn K) (B 1) (vV (aN aI (tC (.int 3)) (B 0))) (vV (aN aE (aN aI (tC (.int 3)) (B 0)) (tC (.int 3))))) (zd (B 2) (zd (B 3) zk)))) 1 [3,1,2]) (zv 4)) (jF K t))
def ZW:TS:=zt (zS (vC zk) (zv 1)) (zt (Q7 (zG (aN aG (zI t.q00 "settled" (yP t) [] E0 (B 0) zk) (zI t.q00 "next_rank" (xN t) [] E0 (B 0) zk))) (yn (tBM K "list" yT (B 1) (zd (zI t.q00 "move" (x6 t) [] E0 (B 0) (zd (aN ad (tJ (wJ K) (zd (B 1) zk)) (zU K (B 0) "hands")) zk)) zk)))) (zJ (B 1)))
def ZX(K:bA)(t:aX):TS:=zJ (vG (wF K (zU K (B 0) "ended")) (zv 0) Vm (xi (zd (aN (yR K) (B 0) (tC (.int 0))) (zd (tJ (zcS K) (zd (aN (yR K) (B 0) (tC (.int 1))) zk)) (zd (tJ (zcS K) (zd (aN (yR K) (B 0) (tC (.int 2))) zk)) zk)))) 1 [])
def QL(K:bA)(t:aX):TS:=zJ (Qf (zO (yb  6) [] E0 (zd (zI t.q00 "papers" (xS t) [] E0 (B 7) zk) (zd (zI t.q00 "papers" (xS t) [] E0 (B 8) zk) zk))) (zO (yb  6) [] E0 (zd (zI t.q00 "table" (xk t) [] E0 (B 7) zk) (zd (zI t.q00 "table" (xk t) [] E0 (B 8) zk) zk))))
def QM:TS:=zt (zW (kj (tB (zO (yb  6) [] E0 (zd (zI t.q00 "finish" (yC t) [] E0 (B 7) zk) (zd (zI t.q00 "finish" (yC t) [] E0 (B 8) zk) zk))))) (zJ (tC (.bl aq)))
   zN) (QL K t)
def QN:TS:=zt (Q7 (zG (aN aG (tJ (wJ K) (zd (B 9) zk)) (tJ (wJ K) (zd (B 4) zk)))) (zW (kj (tB (zO (wf t) [] E0 (zd (B 7) (zd (B 8) (zd (B 4) (zd (B 6) (zd (B 9) zk)))))))) (zJ (tC (.bl aq)))
   zN)) (QM K t)
def ze2:TS:=zt (zW (kj (tB (zO (yb  6) [] E0 (zd (zI t.q00 "kept" (x8 t) [] E0 (B 7) zk) (zd (tC (.int 0)) zk))))) (zJ (tC (.bl aq)))
   zN) (QN K t)
def QO:TS:=zt (yn (zI t.q00 "fold" (wQ t) [] E0 (B 7) zk)) (ze2 K t)
def QP:TS:=zt (zW (kj (tB (zO (yb  6) [] E0 (zd (zI t.q00 "finish" (yC t) [] E0 (B 7) zk) (zd (zI t.q00 "finish" (yC t) [] E0 (B 8) zk) zk))))) (zJ (tC (.bl aq)))
   zN) (QO K t)
def QQ:TS:=zt (zW (kj (tB (zO (jh K t) [] E0 (zd (B 7) (zd (B 8) (zd (tSl (Kn K) (B 4) jL (vV (B 10))) (zd (B 6) (zd (B 5) (zd (B 0) (zd (B 9) zk)))))))))) (zJ (tC (.bl aq)))
   zN) (QP K t)
def zb5:TS:=zt (zS (vC zk) (zv 9)) (zt (zS (aN ad (aN aF (zO (yg K) [] E0 (zd (B 0) (zd (tC (.int 2)) zk))) (tC (.int 7))) (aN aE (tJ (wJ K) (zd (B 4) zk)) (tC (.int 1)))) (zv 10)) (QQ K t))
def zb6:TS:=zt (zS (zO (wR t) [] E0 (zd (B 3) (zd (B 5) (zd (zO (yg K) [] E0 (zd (B 0) (zd (tC (.int 0)) zk))) zk)))) (zv 7)) (zt (zS (zO (wR t) [] E0 (zd (B 3) (zd (B 5) (zd (zO (yg K) [] E0 (zd (B 0) (zd (tC (.int 0)) zk))) zk)))) (zv 8)) (zb5 K t))
def zb7:TS:=zt (zS (aN aE (tC (.int 1)) (aN ad (zO (yg K) [] E0 (zd (B 0) (zd (tC (.int 0)) zk))) (tC (.int 8)))) (zv 5)) (zt (zS (zO kB [] E0 (zd (zO (yg K) [] E0 (zd (B 0) (zd (tC (.int 0)) zk))) zk)) (zv 6)) (zb6 K t))
def zb8:TS:=zt (zS (vG (wF K (tSl (Kn K) (B 0) (vV (tC (.int 3))) (vV (tC (.int 7))))) (zv 0) Vm (zO Y3 [] E0 (zd (zO jf [] E0 (zd (B 0) (zd (B 1) (zd (B 2) zk)))) zk)) 1 [1,2]) (zv 4)) (zb7 K t)
def zgM:TS:=zt (zS (zO jd [] E0 (zd (zO (yg K) [] E0 (zd (B 0) (zd (tC (.int 1)) zk))) zk)) (zv 1)) (zt (zS (zO jd [] E0 (zd (zO (yg K) [] E0 (zd (B 0) (zd (tC (.int 2)) zk))) zk)) (zv 2)) (zt (zS (zO vq [] E0 (zd (aN aF (zO (yg K) [] E0 (zd (B 0) (zd (tC (.int 1)) zk))) (tC (.int 7))) (zd (B 1) zk))) (zv 3)) (zb8 K t)))
end
section
variable {K:bA}{t:aX}{H:D}{Q:VK}
theorem zgN{j:Int}(a:0<=j)(b:j<=100):Q8 10 j:=⟨a,(),()⟩
theorem xl(h:n<=100000):n<=Bb:=bM h ()
theorem xT(T:String):fS K (.type T) (.type T)=U ak:=by
 unfold fS;rw[au (by simp)]
theorem kf(K:bA):KF K:=⟨by with_unfolding_all rfl,by with_unfolding_all rfl,by with_unfolding_all rfl,by with_unfolding_all rfl,by with_unfolding_all rfl,by with_unfolding_all rfl,by with_unfolding_all rfl,by with_unfolding_all rfl⟩
theorem dB{i j:Int}(a:0<j:=by lia)(c:j<10000000000000000000000000000000000000000000000:=by lia):yF i j:=by
 have b:(10000000000000000000000000000000000000000000000:Int)<big:=by lia
 exact⟨a,()⟩
theorem zd2{b:Type}{xs:List b}{i:Int}(d:0<=i)(c:i<xs.length):∃x,uq xs i=U x/\x∈xs:=by
 obtain⟨n,rfl⟩:∃n:Nat,i=(n:Int):=⟨i.toNat,()⟩;have a:n<xs.length:=by lia
 refine⟨xs[n],?_,dM a⟩;unfold uq ixN;rw[au d,au c];simp[a]
theorem zjH{a:Type}{xs:List a}(e:Int)(n:Nat)(c:xs.length=n)(b:0<(n:Int)):∃x,uq xs (e%n)=U x/\x∈xs :=
 zd2 (cK _ ()) (by rw[c];exact cw _ b)
theorem zb9{a:List V} :(a++[y])[(a++[y]).length-1]?=U y:=by simp
theorem Wv{xs:List V} :(xs++[y]).dropLast=xs:=by simp
theorem xU{H a:D}(s:aL H a)(c:H w=am):aL H (upd a w o):=λb u e=>by rw[zm (zF e c)];exact s b u e
theorem zjI(st:List Int):(∃l a b,st=l++[a,b])\/∀d v,isJ v=ak->wZ d st v=.error .stuck:=by
 cases h:st.reverse with
 |nil =>
  refine .inr λd v c=>?_;unfold wZ;rw[c,au Z,h];split <;> rename_i e1 e2 <;> first|rfl|cases e2
 |cons b r =>
  cases r with
  |nil =>
   refine .inr λd v c=>?_;unfold wZ;rw[c,au Z,h];split <;> rename_i e1 e2 <;> first|rfl|cases e2
  |cons a r =>
   refine .inl ⟨r.reverse,a,b,?_⟩;have:=congrArg List.reverse h;rw[List.reverse_reverse] at this;rw[this];simp
theorem zgO{f:List (aW×V)}{l:List Int}{a b:Int}{w:Str}(d:isJ (.str w)=ak):wZ f (l++[a,b]) (.str w)=match kM w a b with|.ok c=>.ok (l++[c])|.error e=>.error e:=by
 unfold wZ;rw[d,au rfl];simp only[pM,rD,r9,gC,dE];cases kM w a b with
 |error e=>rfl
 |ok c=>simp
def rkI(k:List (aW×V))(f:List V)(d e w:L)(H:D)(i:Nat)(c:St)(b:D):Prop:=∃a,(∃j h g,c=[U (.ref d),U (.ref e),U (.ref w),j,h,g])/\vf k (f.take i) []=.ok a/\(∀x∈a,tK x=ak)/\a.length<=i/\b w=U (.lst (a.map V.int))/\aL H b
theorem zd3(c:Nat):({ cps:=#[c] }:Str).length=1:=rfl
theorem zH{H a:D}(s:aL H a)(h:a Bq=am):H Bq=am:=by
 cases e:H Bq with
 |none=>rfl
 |some o=>rw[s _ _ e] at h;cases h
theorem ui{Q:VK}{E:XK}{H:D}:fin t (.error e) Q E H↔zgJ t e E H:=by cases e <;> rfl
theorem fin_ok{i:Int}{Q:VK}{E:XK}{H:D}:fin t (.ok i) Q E H↔Q (.int i) H:=sY
theorem tQ.same{H d:D}(h:tQ H v c)(s:aL H d):tQ d v c:=by
 cases c with
 |row r=>exact⟨h.1.mono s,h.2⟩
 |skip e to =>
  obtain⟨p,f,b,a,g⟩:=h;exact⟨p,f,b,s _ _ a,s _ _ g⟩
 |go en =>
  obtain⟨p,b,a⟩:=h;exact⟨p,b,s _ _ a⟩
theorem wx{H b:D}(s:aL H b):∀ {a:List V} {C:List Cs},Paired (tQ H) a C->Paired (tQ b) a C
 |_,_,.nil=>.nil
 |_,_,.cons h r=>.cons (h.same s) (wx s r)
def TSm(H c:D):Prop:=∀b a,H b=U (.tup a)->c b=U (.tup a)
theorem tQ.ts{H q:D}(s:TSm H q)(h:tQ H v c):tQ q v c:=by
 cases c with
 |row r =>
  obtain⟨h,n⟩:=h;refine⟨?_,n⟩;cases r with
  |iff e a b=>exact n.elim
  |take sh e sl =>
   obtain⟨r,d,l,k,j,i,g⟩:=h;exact⟨r,d,l,k,j,s _ _ i,s _ _ g⟩
  |give sh e f =>
   obtain⟨r,d,u,l,k,j,i,g,y,x⟩:=h;exact⟨r,d,u,l,k,j,i,s _ _ g,s _ _ y,s _ _ x⟩
  |lt sl e =>
   obtain⟨r,d,l,k,j,i,g⟩:=h;exact⟨r,d,l,k,j,s _ _ i,s _ _ g⟩
  |say e =>
   obtain⟨r,d,l,k,j,i,g⟩:=h;exact⟨r,d,l,k,j,s _ _ i,s _ _ g⟩
  |off e =>
   obtain⟨r,d,l,k,j,i,g⟩:=h;exact⟨r,d,l,k,j,s _ _ i,s _ _ g⟩
 |skip e to =>
  obtain⟨p,d,o,m,w⟩:=h;exact⟨p,d,o,s _ _ m,s _ _ w⟩
 |go en =>
  obtain⟨p,o,m⟩:=h;exact⟨p,o,s _ _ m⟩
theorem xC{H b:D}(s:TSm H b):∀ {a:List V} {C:List Cs},Paired (tQ H) a C->Paired (tQ b) a C
 |_,_,.nil=>.nil
 |_,_,.cons h r=>.cons (h.ts s) (xC s r)
theorem zd4(x:Rw):(∃e a b,x=.iff e a b)\/JE x:=by
 cases x with
 |iff e a b=>exact .inl ⟨e,a,b,Z⟩
 |_=>exact .inr trivial
theorem jk(h:JE x)(k:Nat):xM x k=[.row x]:=by
 cases x with
 |iff e a b=>exact h.elim
 |_=>rw[xM];intro e a b z;cases z
theorem zij{F:L->Prop}(h:hZ F H v r):∃p i j,v=.ref p/\H p=U (.tup i)/\uq i 0=U (.str j)/\(j="if"↔¬ JE r):=by
 cases r with
 |take sh e sl =>
  unfold hZ at h;obtain⟨r,d,rfl,_,_,c,g⟩:=h;exact⟨r,_,_,Z,c,Z,⟨λz=>absurd z (),λz=>absurd trivial z⟩⟩
 |give sh e f =>
  unfold hZ at h;obtain⟨r,d,l,rfl,_,_,_,c,g⟩:=h;exact⟨r,_,_,Z,c,Z,⟨λz=>absurd z (),λz=>absurd trivial z⟩⟩
 |lt sl e =>
  unfold hZ at h;obtain⟨r,d,rfl,_,_,c,g⟩:=h;exact⟨r,_,_,Z,c,Z,⟨λz=>absurd z (),λz=>absurd trivial z⟩⟩
 |say e =>
  unfold hZ at h;obtain⟨r,d,rfl,_,_,c,g⟩:=h;exact⟨r,_,_,Z,c,Z,⟨λz=>absurd z (),λz=>absurd trivial z⟩⟩
 |off e =>
  unfold hZ at h;obtain⟨r,d,rfl,_,_,c,g⟩:=h;exact⟨r,_,_,Z,c,Z,⟨λz=>absurd z (),λz=>absurd trivial z⟩⟩
 |iff e a b =>
  unfold hZ at h;obtain⟨r,d,n,m,i,k,rfl,u,s,q,o,c,g⟩:=h;exact⟨r,_,_,Z,c,Z,⟨λ_ z=>z,λ_=>rfl⟩⟩
theorem Paired.app2{f e:Type}{F:f->e->Prop}:∀ {a:List f} {b:List e} {c:List f} {d:List e},Paired F a b->Paired F c d->Paired F (a++c) (b++d)
 |_,_,_,_,.nil,h=>h
 |_,_,_,_,.cons h r,h2=>.cons h (Paired.app2 r h2)
def sfI(v:V)(c:L)(e:List V)(k n:Nat)(r:gV)(H:D)(i:Nat)(d:St)(a:D):Prop:=∃(rest:gV) (b:List V) (C:List Cs),(∃o,d=[U v,U (.int k),U (.ref c),o])/\aL H a/\a c=U (.lst b)/\Paired (tQ a) b C/\ti Ks H (e.drop i) rest/\Vu (n+1) rest/\C++yd rest (k+C.length)=yd r k
theorem zdj{H:D}(h:H Bp=U (.lst ys)):TSm H (upd H Bp (.lst zs)):=λb a e=>by rw[zm (zL e h ())];exact e
theorem zaL{v:V}{r:gV}{k n:Nat}(h1:RlAt Ks H v r)(h2:Vu (n+1) r)(h3:k+(yd r k).length<=500)(q:∀l m d,aL H d->H l=am->d l=U (.lst m)->Paired (tQ d) m (yd r k)->Q (.ref l) d) :
  W9 K t n (mt Q) (zZZ 4 [v,.int k]) H:=by
 obtain⟨p,m,rfl,_,hp,hx⟩:=h1;refine⟨bS _,λf M=>?_⟩;have s0:=tM (o:=HO.lst []) f M;refine⟨_,Z,p,Z,⟨_,aT.of (s0 _ _ hp)⟩,?_⟩;refine xG m (sfI (.ref p) f m k n r H) ⟨r,[],[],⟨_,Z⟩,s0,zj,.nil,by rw[gh];exact hx,h2,Z⟩ (λi σ d ⟨_,_,_,_,s,_⟩=>aT.of (s _ _ hp)) ?_ ?_
 .rintro i u σ d hu ⟨rest,j,C,⟨o,rfl⟩,s,c,y,hr,J,A⟩;obtain⟨x,g,rfl,N,rr⟩:=hr.get hu;have e0:yd (.cons x g) (k+C.length)=xM x (k+C.length)++yd g (k+C.length+(xM x (k+C.length)).length):=by rw[yd]
  rw[e0] at A;have E:=J.dp;have c1:(gV.cons x g).deep=max x.deep g.deep:=by rw[gV.deep]
  rw[c1] at E;have G:=J.ct;have c2:(gV.cons x g).cnt=x.cnt+g.cnt:=by rw[gV.cnt]
  rw[c2] at G;have h:=J.pl;unfold Zn at h;have le:=congrArg fT A;rw[bx,bx] at le;have ly:=bE y;have T:∀ {H2:D} {o':Option V} {I:List V},aL H H2->H2 f=U (.lst I)->Paired (tQ H2) I (C++xM x (k+C.length))->sfI (.ref p) f m k n r H (i+1) [U (.ref p),U (.int k),U (.ref f),o'] H2:=λ{H2 o' I} w g2 p2 =>
   ⟨g,I,_,⟨_,Z⟩,w,g2,p2,rr,⟨(),(),h.2⟩,by rw[cP,bx,<-p9];exact A⟩
  obtain⟨p1,fs,hd,rfl,e2,e3,e4⟩:=zij N;refine qt Z (s _ _ e2) e3 (λez=>?_) λez=>?_
  .rcases zd4 x with ⟨e,a,b,rfl⟩|hni
   rotate_left
   .exact absurd hni (e4.mp ez)
   have d1:(Rw.iff e a b).deep=max a.deep b.deep+1:=by rw[Rw.deep]
   have d2:(Rw.iff e a b).cnt=max a.cnt b.cnt+1:=by rw[Rw.cnt]
   rw[d1] at E;rw[d2] at G;have O:=h.1;unfold Jo at O;refine⟨_,Z,.inl ⟨Z,_,aT.of c⟩,_,Z,_,Z,zgH Z c ⟨_,_,Z,Z,_,e,a,b,k+C.length,by rw[<-ly];rfl,N.mono s,⟨(),(),O.2.1⟩,⟨(),(),O.2.2⟩,(),λl us H2 w hl pu=>?_⟩⟩;have lu:=bE pu;refine⟨f,_,j,us,Z,Z,w _ _ c,hl,bM (by lia:j.length+us.length<=1000) (),?_⟩;exact T (xU (s.trans w) M) zj (xC (zdj (w _ _ c)) (Paired.app2 (wx w y) pu))
  .have hni:JE x:=by
    rcases zd4 x with ⟨e,a,b,rfl⟩|hni
    .exact absurd (e4.mpr (λz=>z)) ez
    .exact hni
   have ec:=jk hni (k+C.length);rw[ec] at T;refine⟨_,Z,.inl ⟨Z,_,aT.of c⟩,_,Z,f,j,_,Z,Z,c,ca (by lia:j.length<=900) (),?_⟩;exact T (xU s M) zj (Paired.snocP (xC (zdj c) y) (tQ.ts (zdj c) ⟨N.mono s,hni⟩))
 .rintro σ d ⟨rest,j,C,⟨o,rfl⟩,s,c,y,hr,J,A⟩;have e:=hr.none;subst e;rw[show yd .nil (k+C.length)=[] by rw[yd],gy] at A;rw[A] at y;exact⟨_,Z,q f j d s M c y⟩
theorem yQ{H b:D}(e:upd H a o=b)(h:H a=am):aL H b/\b a=U o:=⟨e ▸ tM a h,e ▸ zj⟩
theorem VB{v:V}{e:List V}{a b:gV}{k n:Nat}(h1:hZ Ks H v (.iff e a b))(h2:Vu n a)(h3:Vu n b)(h:k+(xM (.iff e a b) k).length<=500)(q:∀l N H',aL H H'->H' l=U (.lst N)->Paired (tQ H') N (xM (.iff e a b) k)->Q (.ref l) H') :
  ZF K t n (mt Q) (zZZ 5 [v,.int k]) H:=by
 unfold hZ at h1;obtain⟨p,te,la,lb,N,M,rfl,f1,f2,f3,f4,J,e3,e4,e6,e5,I⟩:=h1;have ec:xM (.iff e a b) k=blk e k (yd a (k+1)) (gV.isNil b) (yd b (k+2+(yd a (k+1)).length)):=by rw[xM]
 rw[ec] at h q;refine Ym Z J Z ⟨_,Z,_,_,Z,Z,.ref la,a,k+1,Z,⟨la,N,Z,f3,e4,e6⟩,h2,?_,λl c H1 s1 fl hl pu=>?_⟩
 .unfold blk at h;split at h <;> simp only[bU,bx] at h <;> lia
 have lu:=bE pu;generalize yd a (k+1)=A at *
 refine⟨_,Z,_,_,Z,Z,zgH Z hl ⟨_,_,Z,Z,?_⟩⟩;have ei:(k:Int)+1+c.length=((k+1+A.length:Nat):Int):=by lia
 show kX K t n _ [U (.ref p),U (.int k),U (.ref l),U (.int ((k:Int)+1+c.length)),am] H1;rw[ei];refine Ym Z (s1 _ _ J) Z ⟨bS _,λz gz=>?_⟩;generalize f0:upd H1 z _=H2;obtain⟨s2,hz⟩:=yQ f0 gz;have i:=s1.trans s2;refine⟨lb,z,M,Z,Z,aT.of (i _ _ e5),aT.of hz,_,Z,?_⟩;have nb:gV.isNil b=decide (M=[]):=by
  cases b with
  |nil=>unfold ti at I;simp[gV.isNil,I]
  |cons x r=>unfold ti at I;obtain⟨v,vs,rfl,_⟩:=I;simp[gV.isNil]
 have G:=s2 _ _ hl;have C:=wx s2 pu;show if _ then _ else _
 by_cases hb:M=[]
 .rw[au (Bj hb)];have eb:∀g,blk e k A (gV.isNil b) g=.skip e (k+1+A.length)::A:=λg=>by unfold blk;rw[au (by rw[nb];exact Bj hb)]
  rw[eb] at q h;rw[bU] at h;refine Ym Z (i _ _ J) Z ⟨_,Z,by show (3:Nat)<=Bb;decide,λd g1=>?_⟩;generalize c1:upd H2 d _=H3;obtain⟨t1,f⟩:=yQ c1 g1;refine⟨by show (1:Nat)<=Bb;decide,λp2 g2=>?_⟩;generalize c2:upd H3 p2 _=H4;obtain⟨y,s⟩:=yQ c2 g2;have T:=t1.trans y;refine⟨_,Z,_,_,_,c,Z,Z,s,T _ _ G,bM (by show 1+c.length<=1000;lia) (),λO g3=>?_⟩;have j:=tM (o:=HO.lst ([V.ref d]++c)) O g3;exact q O ([V.ref d]++c) _ (i.trans (T.trans j)) zj (.cons ⟨d,te,Z,(y.trans j) _ _ f,(i.trans (T.trans j)) _ _ e3⟩ (wx (T.trans j) C))
 .rw[ao (by rw[decide_eq_true_eq];exact hb)];have eb:∀g,blk e k A (gV.isNil b) g=.skip e (k+2+A.length)::(A++(.go (k+2+A.length+g.length)::g)):=λg=>by unfold blk;rw[ao (by rw[nb];simpa using hb)]
  rw[eb] at q h;rw[bU,bx,bU] at h;have ej:((k+1+A.length:Nat):Int)+1=((k+2+A.length:Nat):Int):=by lia
  refine Ym Z (i _ _ J) Z ⟨_,Z,_,_,Z,Z,.ref lb,b,k+2+A.length,?_,⟨lb,M,Z,f4,i _ _ e5,I.mono i⟩,h3,(),λl2 w H3 s3 aj E pw=>?_⟩
  .show [V.ref lb,V.int (((k+1+A.length:Nat):Int)+1)]=_;rw[ej]
  have lw:=bE pw;generalize yd b (k+2+A.length)=g at *
  have S3:=i.trans s3;refine Ym Z (S3 _ _ J) Z ⟨_,Z,_,_,Z,Z,by show (3:Nat)<=Bb;decide,λd g1=>?_⟩;generalize c1:upd H3 d _=H4;obtain⟨t1,f⟩:=yQ c1 g1;have f:H4 d=U (.tup [.str (bf "skip"),.ref te,.int ((k+2+A.length:Nat):Int)]):=by rw[<-ej];exact f
  refine⟨by show (1:Nat)<=Bb;decide,λp2 g2=>?_⟩;generalize c2:upd H4 p2 _=H5;obtain⟨y,s⟩:=yQ c2 g2;have T2:=t1.trans y;refine⟨_,Z,_,_,_,c,Z,Z,s,(s3.trans T2) _ _ G,bM (by show 1+c.length<=1000;lia) (),λO g3=>?_⟩;generalize c3:upd H5 O _=H6;obtain⟨j,ai⟩:=yQ c3 g3;have T3:=T2.trans j;refine⟨_,Z,_,_,Z,Z,zgH Z (T3 _ _ E) ⟨_,_,Z,Z,by show (2:Nat)<=Bb;decide,λu g4=>?_⟩⟩;generalize c4:upd H6 u _=H7;obtain⟨t4,m⟩:=yQ c4 g4;have eg:((k+1+A.length:Nat):Int)+1+w.length=((k+2+A.length+g.length:Nat):Int):=by lia
  have m:H7 u=U (.tup [.str (bf "go"),.int ((k+2+A.length+g.length:Nat):Int)]):=by rw[<-eg];exact m
  refine⟨by show (1:Nat)<=Bb;decide,λp5 g5=>?_⟩;generalize c5:upd H7 p5 _=H8;obtain⟨t5,ag⟩:=yQ c5 g5;refine⟨_,_,_,_,Z,Z,(t4.trans t5) _ _ ai,ag,bM (by show ([V.ref d]++c).length+1<=1000;rw[bx,fE];lia) (),λp6 g6=>?_⟩;generalize c6:upd H8 p6 _=H9;obtain⟨t6,ae⟩:=yQ c6 g6;have T6:=t4.trans (t5.trans t6);refine⟨_,Z,_,_,_,w,Z,Z,ae,(T3.trans T6) _ _ E,bM (by rw[bx,bx,fE,fE];lia:_<=1000) (),λp7 g7=>?_⟩;generalize c7:upd H9 p7 _=H10;obtain⟨t7,aa⟩:=yQ c7 g7;have T7:=T6.trans t7;have Bm:=T3.trans T7;have el:[V.ref d]++c++[V.ref u]++w=V.ref d::(c++(V.ref u::w)):=by simp
  refine q p7 ([V.ref d]++c++[V.ref u]++w) _ (S3.trans Bm) aa ?_;rw[el];exact .cons ⟨d,te,Z,(y.trans (j.trans T7)) _ _ f,(S3.trans Bm) _ _ e3⟩ (Paired.app2 (wx (s3.trans Bm) C) (.cons ⟨u,Z,(t5.trans (t6.trans t7)) _ _ m⟩ (wx Bm pw)))
theorem XS{H:D}{Q:VK}{E:XK}(h:wH 0 vs H Q E):False:=by
 obtain⟨v,r,k,e,c,a,b⟩:=h;have:=a.dp;lia
theorem rnF{P:Str->Option af}(T:Txt K P t):RnF K t:=⟨T.q07,T.q2s,T.q2r,T.q2x,T.q2w,T.q2t,T.q2u,T.q2v⟩
section
variable {x:L}{a:RAd}{C:List Cs}{s:bv}
theorem dl.notup(R:dl t H x a C s)(h:H b=U (.tup zs)):¬ Ow x a b:=by
 rintro(rfl|rfl|rfl|rfl|rfl)
 .rw[R.ix] at h;cases h
 .rw[R.hs] at h;cases h
 .rw[R.hg] at h;cases h
 .rw[R.hn] at h;cases h
 .rw[R.ha] at h;cases h
theorem dl.ts{H':D}(R:dl t H x a C s)(k:Kp x a H H'):TSm H H':=λb c e=>k b _ (R.notup e) e
theorem Kp.of_same{H':D}(s:aL H H'):Kp x a H H':=λb o _ e=>s b o e
theorem Kp.trans{c H'':D}(h:Kp x a H c)(k:Kp x a c H''):Kp x a H H'':=λb o n e=>k b o n (h b o n e)
theorem vi(h:Ow x a b):Kp x a H (upd H b o):=λc d n e=>by rw[zm (λz=>n (by rw[z];exact h))];exact e
theorem dl.same{b:D}(R:dl t H x a C s)(k:aL H b):dl t b x a C s :=
 ⟨k _ _ R.ix,let ⟨xs,h1,h2⟩:=R.hc;⟨xs,k _ _ h1,wx k h2⟩,k _ _ R.hs,k _ _ R.hg,k _ _ R.hn,k _ _ R.ha,R.ng,R.nc⟩
theorem dl.putI(R:dl t H x a C s)(s':bv)(g:s'.sl=s.sl)(f:s'.gi=s.gi)(e:s'.no=s.no)(d:s'.sa=s.sa):dl t (upd H x (.ins t.q01 a.dx (zjF a s'))) x a C s':=by
 refine⟨zj,?_,?_,?_,?_,?_,R.ng,R.nc⟩
 .obtain⟨xs,b,c⟩:=R.hc;exact⟨xs,by rw[zm (zL b R.ix ())];exact b,xC (R.ts (vi (.inl Z))) c⟩
 .rw[zm (zL R.hs R.ix ()),g];exact R.hs
 .rw[zm (zL R.hg R.ix ()),f];exact R.hg
 .rw[zm (zL R.hn R.ix ()),e];exact R.hn
 .rw[zm (zL R.ha R.ix ()),d];exact R.ha
theorem dl.putS(R:dl t H x a C s)(c:List (aW×V)):dl t (upd H a.sl (.dK c)) x a C { s with sl:=c }:=by
 refine⟨by rw[zm (zL R.ix R.hs ())];exact R.ix,?_,zj,?_,?_,?_,R.ng,R.nc⟩
 .obtain⟨xs,b,d⟩:=R.hc;exact⟨xs,by rw[zm (zL b R.hs ())];exact b,xC (R.ts (vi (.inr (.inl Z)))) d⟩
 .rw[zm (zL R.hg R.hs ())];exact R.hg
 .rw[zm (zL R.hn R.hs ())];exact R.hn
 .rw[zm (zL R.ha R.hs ())];exact R.ha
theorem dl.putG(R:dl t H x a C s)(c:List aO):dl t (upd H a.gi (.dT (tF c))) x a C { s with gi:=c }:=by
 refine⟨by rw[zm (zL R.ix R.hg ())];exact R.ix,?_,?_,zj,?_,?_,R.ng,R.nc⟩
 .obtain⟨xs,b,d⟩:=R.hc;exact⟨xs,by rw[zm (zL b R.hg ())];exact b,xC (R.ts (vi (.inr (.inr (.inl Z))))) d⟩
 .rw[zm (zL R.hs R.hg ())];exact R.hs
 .rw[zm (fq R.ng)];exact R.hn
 .rw[zm (zL R.ha R.hg ())];exact R.ha
theorem dl.putO(R:dl t H x a C s)(c:List aO):dl t (upd H a.no (.dT (tF c))) x a C { s with no:=c }:=by
 refine⟨by rw[zm (zL R.ix R.hn ())];exact R.ix,?_,?_,?_,zj,?_,R.ng,R.nc⟩
 .obtain⟨xs,b,d⟩:=R.hc;exact⟨xs,by rw[zm (zL b R.hn ())];exact b,xC (R.ts (vi (.inr (.inr (.inr (.inl Z)))))) d⟩
 .rw[zm (zL R.hs R.hn ())];exact R.hs
 .rw[zm R.ng];exact R.hg
 .rw[zm (zL R.ha R.hn ())];exact R.ha
theorem dl.putA(R:dl t H x a C s)(is:List Int):dl t (upd H a.sa (.lst (is.map V.int))) x a C { s with sa:=is }:=by
 refine⟨by rw[zm (zL R.ix R.ha ())];exact R.ix,?_,?_,?_,?_,zj,R.ng,R.nc⟩
 .obtain⟨xs,c,b⟩:=R.hc;exact⟨xs,by rw[zm R.nc];exact c,xC (R.ts (vi (.inr (.inr (.inr (.inr Z)))))) b⟩
 .rw[zm (zL R.hs R.ha ())];exact R.hs
 .rw[zm (zL R.hg R.ha ())];exact R.hg
 .rw[zm (zL R.hn R.ha ())];exact R.hn
end
theorem XT(h:¬ yI C s=ak):s.n<C.length:=by
 unfold yI at h;simp only[Bool.or_eq_true,decide_eq_true_eq,not_or] at h;lia
theorem zdk(a:List aO)(p:Pl)(w:Int):zC (a++[(p,w)]) p=U w:=by
 have h:=wK (a++[(p,w)]) p;rw[Zk,V2,au rfl] at h;cases hl:zC (a++[(p,w)]) p with
 |none=>rw[hl] at h;cases h
 |some i=>rw[hl] at h;cases h;rfl
theorem zjJ(h:tQ H v c):∃p l m,v=.ref p/\H p=U (.tup l)/\uq l 0=U (.str m)/\(m=bf "take"->∃j e x i,c=.row (.take j e x)/\uq l 1=U (.str j)/\uq l 2=U (.ref i)/\H i=U (.tup e))/\(m≠bf "take"->∀s,kW c s=am):=by
 cases c with
 |row r =>
  have g:=h.1;cases r with
  |take j e sl=>unfold hZ at g;obtain⟨r,i,rfl,_,_,a,k⟩:=g;exact⟨r,_,_,Z,a,Z,λ_=>⟨j,e,sl,i,Z,Z,Z,k⟩,λz=>absurd Z z⟩
  |give j e f=>unfold hZ at g;obtain⟨r,i,o,rfl,_,_,_,a,k⟩:=g;exact⟨r,_,_,Z,a,Z,λz=>absurd z (),λ_ _=>rfl⟩
  |lt sl e=>unfold hZ at g;obtain⟨r,i,rfl,_,_,a,k⟩:=g;exact⟨r,_,_,Z,a,Z,λz=>absurd z (),λ_ _=>rfl⟩
  |say e=>unfold hZ at g;obtain⟨r,i,rfl,_,_,a,k⟩:=g;exact⟨r,_,_,Z,a,Z,λz=>absurd z (),λ_ _=>rfl⟩
  |off e=>unfold hZ at g;obtain⟨r,i,rfl,_,_,a,k⟩:=g;exact⟨r,_,_,Z,a,Z,λz=>absurd z (),λ_ _=>rfl⟩
  |iff e b d=>exact(h.2:False).elim
 |skip e to=>obtain⟨p,i,n,a,_⟩:=h;exact⟨p,_,_,n,a,Z,λz=>absurd z (),λ_ _=>rfl⟩
 |go en=>obtain⟨p,n,a⟩:=h;exact⟨p,_,_,n,a,Z,λz=>absurd z (),λ_ _=>rfl⟩
theorem zaM{a:Type} [DecidableEq a]{b:List (a×V)}{k:a}(h:k ∉ b.map (·.1)):yj b k=am:=by
 cases e:yj b k with
 |none=>rfl
 |some v=>exact absurd (zdH e) h
theorem zd5:∀(a:List aO) (b:List (List aW×V)),(∀r∈a,zB r.1 ∉ b.map (·.1))->(a.map (·.1)).Nodup->a.foldl Xn b=b++a.map λr=>(zB r.1,V.int r.2)
 |[],b,_,_=>by simp
 |r::a,b,h,nd=>by
  rw[bh,bW] at nd;rw[fj,Xn,jo _ (zaM (h r br)),zd5 a _ (λq c=>?_) nd.2,bh,cP,List.singleton_append];rw[bN,bu,not_or];refine⟨h q (bp _ c),λz=>nd.1 ?_⟩;have d:zB q.1=zB r.1:=by simpa using z
  rw[<-yU d];exact bB c
theorem Y8{a:List aO}(b:(a.map (·.1)).Nodup):tF a=a.map λr=>(zB r.1,V.int r.2):=by
 unfold tF;rw[zd5 a [] (λ_ _ h=>nomatch h) b,gC]
theorem XU{H c:D}(s:aL H c):∀ {a:List V} {b:List aO},Paired (PrAt H) a b->Paired (PrAt c) a b
 |_,_,.nil=>.nil
 |_,_,.cons ⟨r,p,e1,e2,e3⟩ t=>.cons ⟨r,p,e1,s _ _ e2,s _ _ e3⟩ (XU s t)
theorem zgP(p:Pl)(w:Int)(s:bv):(kU p w s).sl=s.sl:=by unfold kU;split <;> rfl
theorem zik(p:Pl)(w:Int)(s:bv):(kU p w s).n=s.n:=by unfold kU;split <;> rfl
theorem zky{w:Int}(h:Y0 r)(e:t8 r w s=.ok s'):s'.n=s.n:=by
 cases r with
 |take sh e' x =>
  cases hk:rk s.sl e' with
  |error er=>simp only[t8,hk] at e;cases e
  |ok n=>simp only[t8,hk] at e;cases e;exact zik _ _ _
 |give sh e' f =>
  cases hk:rk s.sl e' with
  |error er=>simp only[t8,hk] at e;cases e
  |ok n =>
   cases hk2:rk s.sl f with
   |error er=>simp only[t8,hk,hk2] at e;cases e
   |ok i=>simp only[t8,hk,hk2] at e;cases e;rfl
 |lt x e' =>
  cases hk:rk s.sl e' with
  |error er=>simp only[t8,hk] at e;cases e
  |ok n=>simp only[t8,hk] at e;cases e;rfl
 |say e' =>
  cases hk:rk s.sl e' with
  |error er=>simp only[t8,hk] at e;cases e
  |ok n=>simp only[t8,hk] at e;cases e;rfl
 |off e'=>exact h.elim
 |iff e' b d=>exact h.elim
theorem zca{r:Rw}{w:Int}{s:bv}(h:Y0 r):v9 (.row r) w s=match t8 r w s with
  |.error er=>.error er
  |.ok s'=>.ok (s.n+1,s'):=by
 cases r with
 |off e'=>exact h.elim
 |iff e' b d=>exact h.elim
 |take sh e' x=>rfl
 |give sh e' f=>rfl
 |lt x e'=>rfl
 |say e'=>rfl
theorem zil(r:Rw)(h:JE r):(∃e,r=.off e)\/Y0 r:=by
 cases r with
 |off e'=>exact .inl ⟨e',Z⟩
 |iff e' b d=>exact h.elim
 |take sh e' x=>exact .inr trivial
 |give sh e' f=>exact .inr trivial
 |lt x e'=>exact .inr trivial
 |say e'=>exact .inr trivial
theorem zim{F:L->Prop}(h:hZ F H v r)(d:Y0 r):∃p k g,v=.ref p/\H p=U (.tup k)/\uq k 0=U (.str g)/\g≠bf "go"/\g≠bf "skip"/\g≠bf "off":=by
 cases r with
 |take sh e sl=>unfold hZ at h;obtain⟨r,i,rfl,_,_,c,j⟩:=h;exact⟨r,_,_,Z,c,Z,(),(),()⟩
 |give sh e f=>unfold hZ at h;obtain⟨r,i,l,rfl,_,_,_,c,j⟩:=h;exact⟨r,_,_,Z,c,Z,(),(),()⟩
 |lt sl e=>unfold hZ at h;obtain⟨r,i,rfl,_,_,c,j⟩:=h;exact⟨r,_,_,Z,c,Z,(),(),()⟩
 |say e=>unfold hZ at h;obtain⟨r,i,rfl,_,_,c,j⟩:=h;exact⟨r,_,_,Z,c,Z,(),(),()⟩
 |off e=>exact d.elim
 |iff e a b=>exact d.elim
theorem Yi(h:yY x=ak):cS x=ak:=(zf0 h).flat
def zcb(H c:D):Prop:=∀b a,H b=U (.tup a)->c b=U (.tup a)
theorem aL.ts{H H':D}(s:aL H H'):zcb H H':=λb a e=>s _ _ e
theorem jG{J:It}{f:D}{Q:D->Prop}{O:V->St->D->(V->St->D->Prop)->(St->D->Prop)->Prop}(n:Nat)(hn:n<=1000000)(C:St->Prop)(R:Nat->List V->D->Prop)(G:∀i a H d,zcb H d/\(∀b o,b≠Bq->H b=U o->d b=U o)->R i a H->R i a d)(hC:C τ₀)(h0:R 0 [] f) (go:∀i H,aL f H->i<n->J.go i H) (p:∀H,aL f H->J.stop n H) (hD:f Bq=am) (T:∀i x g a H d,C g->aL f H->i<n->R i a H->H Bq=U (.lst a)->J.yld i H x d->O x g d (λv c k=>C c/\R (i+1) (a++[v]) k/\aL H k) (λc k=>C c/\R (i+1) a k/\aL H k)) (hd:∀a H,a.length<=n->R n a H->aL f H->H Bq=U (.lst a)->Q H) :
  ∃W:Nat->Nat->List V->St->D->Prop,(∃m,W 0 m [] τ₀ (upd f Bq (.lst [])))/\∀i m a g H,W i m a g H->H Bq=U (.lst a) /\
  ((J.stop i H/\Q H)\/(J.go i H/\a.length<Bb/\∃N:V->St->D->Prop,
   (∀v c d,N v c d->d Bq=U (.lst a)/\∃r,r<m/\W (i+1) r (a++[v]) c (upd d Bq (.lst (a++[v]))))/\∃M:St->D->Prop,(∀c d,M c d->∃r,r<m/\W (i+1) r a c d) /\
   ∀x d,J.yld i H x d->O x g d N M)):=by
 have j:∀ {H:D} {o:HO},aL f H->aL f (upd H Bq o):=λ{H o} h b u e=>by
  rw[zm (zF e hD)];exact h b u e
 refine⟨λi m a g H=>m=n-i/\i<=n/\a.length<=i/\R i a H/\aL f H/\H Bq=U (.lst a)/\C g,⟨n,by simp,bS _,bo _,G _ _ _ _ ⟨aL.ts (j (aL.refl _)),λb o z e=>by rw[zm z];exact e⟩ h0,j (aL.refl _),zj,hC⟩,?_⟩;rintro i m a g H ⟨rfl,hi,hl,I,l,s,hc⟩;refine⟨s,?_⟩;by_cases hlt:i<n
 .refine .inr ⟨go i H l hlt,ca (by lia:a.length<=1000000) (),_,?_,_,?_,λx d y=>T i x g a H d hc l hlt I s y⟩
  .rintro v c k ⟨A,w,q⟩;have E:=q _ _ s;exact⟨E,n-(i+1),(),Z,hlt,by simp;lia,G _ _ _ _ ⟨λb zs e=>by rw[zm (zL e E (by simp))];exact e,λb o z e=>by rw[zm z];exact e⟩ w,j (l.trans q),zj,A⟩
  .rintro c k ⟨A,w,q⟩;exact⟨n-(i+1),(),Z,hlt,(),w,l.trans q,q _ _ s,A⟩
 .obtain rfl:i=n:=by lia
  exact .inl ⟨p H l,hd a H hl I l s⟩
theorem XV{P:Nat->Bool}(h:XE P x)(a:XE P y):XE P (x++y):=by
 unfold XE at *
 rw[zhV,sM,h,a];rfl
theorem zgQ{P:Nat->Bool}(h:P c=ak):XE P ⟨#[c]⟩:=by
 show [c].all P=ak;rw[gI,h];rfl
theorem zin{P:Nat->Bool}(h:XE P x)(k:Nat):XE P (gS x am (U (k:Int))):=by
 unfold XE at *
 rw[zbv];rw[lA] at *
 exact λc a=>h c (dq a)
theorem ze3{P:Nat->Bool}(h:XE P x)(k:Nat):XE P (gS x (U (k:Int)) am):=by
 unfold XE at *
 rw[Ja];rw[lA] at *
 exact λc a=>h c (dt a)
theorem zjK(x:Str)(k:Nat)(h:k<=x.length):(gS x am (U (k:Int))).length=k:=by
 rw[Xk] at *
 rw[zbv,cg];lia
theorem zgR(x:Str)(k:Nat):(gS x (U (k:Int)) am).length=x.length-k:=by
 rw[Xk,Xk,Ja,cW]
theorem zd6{P:Str->Prop}:∀ {ys:List V},(∀v∈ys,∃x,v=.str x/\P x)->∃a:List Str,ys=a.map V.str/\∀x∈a,P x
 |[],_=>⟨[],Z,λ_ z=>nomatch z⟩
 |v::r,h=>by
  obtain⟨x,rfl,b⟩:=h v br;obtain⟨a,rfl,c⟩:=zd6 (ys:=r) λu d=>h u (bp _ d);exact⟨x::a,Z,λy hy=>by
   rcases bw.mp hy with rfl|hy
   .exact b
   .exact c y hy⟩
structure RnP(m:Nat)(s:bv):Prop where
 ok:RnOk m s
 ng:∀r∈s.gi,cS r.1.1=ak
 nn:∀r∈s.no,cS r.1.1=ak
theorem RnOk.up(h:RnOk m s):RnOk (m+1) s:=⟨h.so,h.gw,h.nw,cf h.l1,cf h.l2,cf h.l3,cf h.l4,h.nd⟩
theorem RnP.up(h:RnP m s):RnP (m+1) s:=⟨h.ok.up,h.ng,h.nn⟩
theorem zgS{p:Pl}{l:List aO}(a:(l.map (·.1)).Nodup)(h:zC l p=am):p ∉ l.map (·.1):=λz=>by
 obtain⟨r,b,e⟩:=bD.mp z;have:=(Yf (w:=r.2) a).mpr (show (p,r.2)∈l by rw[<-e];exact b);rw[h] at this;cases this
theorem zgT{w:Int}(h:RnOk m s)(a:tK w=ak):tK (JF p w s)=ak:=by
 unfold JF;cases e:zC s.gi p with
 |some i=>exact xz (P:=λr=>tK r.2=ak) h.gw e
 |none =>
  cases e2:zC s.no p with
  |some i=>exact xz (P:=λr=>tK r.2=ak) h.nw e2
  |none=>exact a
theorem zio{m:Nat}{s:bv}{p:Pl}{w i:Int}{x:Str}(h:RnP m s)(k:cS p.1=ak)(j:tK w=ak)(l:tK i=ak):RnP (m+1) { kU p w s with sl:=yS s.sl (.inr x) (.int i) }:=by
 have f:=QB h.ok.so (.inr x) l;have g:(yS s.sl (.inr x) (V.int i)).length<=m+1:=bM (wG _ _ _) (f9 h.ok.l1);unfold kU;by_cases c:(zC s.gi p).isSome=ak\/(zC s.no p).isSome=ak
 .rw[au c];exact⟨⟨f,h.ok.gw,h.ok.nw,g,cf h.ok.l2,cf h.ok.l3,cf h.ok.l4,h.ok.nd⟩,h.ng,h.nn⟩
 .rw[ao c];have o:zC s.no p=am:=by
   cases e:zC s.no p with
   |none=>rfl
   |some i=>exact absurd (.inr (by rw[e];rfl)) c
  refine⟨⟨f,h.ok.gw,λr hr=>?_,g,cf h.ok.l2,?_,cf h.ok.l4,?_⟩,h.ng,λr hr=>?_⟩
  .rcases bu.mp hr with hr|hr
   .exact h.ok.nw r hr
   .rw[bn.mp hr];exact j
  .show (s.no++[(p,w)]).length<=m+1;rw[bx];exact f9 h.ok.l3
  .show ((s.no++[(p,w)]).map (·.1)).Nodup;rw[bN];refine dn.mpr ⟨h.ok.nd,by simp,λa n b d=>?_⟩;have d:b=p:=by simpa using d
   rw[d];exact λz=>zgS h.ok.nd o (by rw[<-z];exact n)
  .rcases bu.mp hr with hr|hr
   .exact h.nn r hr
   .rw[bn.mp hr];exact k
theorem zjL{w:Int}(h:RnP m s)(d:Y0 r)(k:Zl r)(g:Jo r)(j:tK w=ak)(e:t8 r w s=.ok s'):RnP (m+1) s'/\s'.why=s.why:=by
 cases r with
 |off e'=>exact d.elim
 |iff e' b c=>exact d.elim
 |take sh e' x =>
  cases hk:rk s.sl e' with
  |error er=>simp only[t8,hk] at e;cases e
  |ok n =>
   simp only[t8,hk] at e;cases e;exact⟨zio h g.1 j (zgT h.ok j),by show (kU _ _ _).why=_;unfold kU;split <;> rfl⟩
 |give sh e' f =>
  cases hk:rk s.sl e' with
  |error er=>simp only[t8,hk] at e;cases e
  |ok n =>
   cases hk2:rk s.sl f with
   |error er=>simp only[t8,hk,hk2] at e;cases e
   |ok i =>
    simp only[t8,hk,hk2] at e;cases e;have a:=zgh h.ok.so k.2.2.1 hk2;refine⟨⟨⟨h.ok.so,λr hr=>?_,h.ok.nw,cf h.ok.l1,?_,cf h.ok.l3,cf h.ok.l4,h.ok.nd⟩,λr hr=>?_,h.nn⟩,Z⟩
    .rcases bu.mp hr with hr|hr
     .exact h.ok.gw r hr
     .rw[bn.mp hr];exact a
    .show (s.gi++[((sh,n),i)]).length<=m+1;rw[bx];exact f9 h.ok.l2
    .rcases bu.mp hr with hr|hr
     .exact h.ng r hr
     .rw[bn.mp hr];exact g.1
 |lt x e' =>
  cases hk:rk s.sl e' with
  |error er=>simp only[t8,hk] at e;cases e
  |ok i =>
   simp only[t8,hk] at e;cases e;have a:=zgh h.ok.so k.2.1 hk;exact⟨⟨⟨QB h.ok.so _ a,h.ok.gw,h.ok.nw,bM (wG _ _ _) (f9 h.ok.l1),cf h.ok.l2,cf h.ok.l3,cf h.ok.l4,h.ok.nd⟩,h.ng,h.nn⟩,Z⟩
 |say e' =>
  cases hk:rk s.sl e' with
  |error er=>simp only[t8,hk] at e;cases e
  |ok i =>
   simp only[t8,hk] at e;cases e;exact⟨⟨⟨h.ok.so,h.ok.gw,h.ok.nw,cf h.ok.l1,cf h.ok.l2,cf h.ok.l3,by show (s.sa++[i]).length<=m+1;rw[bx];exact f9 h.ok.l4,h.ok.nd⟩,h.ng,h.nn⟩,Z⟩
theorem zjM(a:Er):cS (zbM a)=ak:=by cases a <;> lia
theorem ziq{w:Int}(O:zb2 C)(h:RnI C m s)(J:yI C s=aq)(G:tK w=ak):RnI C (m+1) (xD C w s):=by
 have q:¬ yI C s=ak:=by rw[J];decide
 have lt:=XT q;have u:C[s.n]?=U C[s.n]:=bb lt;have N:xD C w s=xE C[s.n] w s:=by unfold xD;rw[ao q,u]
 have E:s.why=am:=by
  cases e:s.why with
  |none=>rfl
  |some v=>exact absurd (show yI C s=ak by unfold yI;rw[e];rfl) q
 have mn:=h.at_ E;have ok:=O.ok _ (dM lt);have o:=O.pl _ (dM lt);have P:RnP m s:=⟨h.ok,h.ng,h.nn⟩;have fin:∀ {s':bv} {k:Nat},RnP (m+1) s'->(s'.why=am->m+1<=k)->(∀v,s'.why=U v->cS v=ak)->RnI C (m+1) { s' with n:=k }:=λ{s' k} p l y =>
  ⟨⟨p.ok.so,p.ok.gw,p.ok.nw,p.ok.l1,p.ok.l2,p.ok.l3,p.ok.l4,p.ok.nd⟩,p.ng,p.nn,l,y⟩
 have j:∀g,RnI C (m+1) { s with why:=U (zbM g) }:=λg=>⟨⟨P.up.ok.so,P.up.ok.gw,P.up.ok.nw,P.up.ok.l1,P.up.ok.l2,P.up.ok.l3,P.up.ok.l4,P.up.ok.nd⟩,P.ng,P.nn,λz=>(by cases z),λv z=>by cases z;exact zjM g⟩;have f:∀r:Rw,Y0 r->zaJ (.row r)->zih (.row r)->RnI C (m+1) (xE (.row r) w s):=λr A ok o=>by
  unfold xE;rw[zca A];cases hk:t8 r w s with
  |error g=>exact j g
  |ok s' =>
   obtain⟨a,b⟩:=zjL P A ok o G hk;exact fin a (λ_=>by lia) (λv z=>h.wy v (by rw[<-b];exact z))
 rw[N];have M:∀to,C[s.n]=.go to->s.n<to:=λto e=>O.fg s.n to (by rw[u,e]);have I:∀e to,C[s.n]=.skip e to->s.n<to:=λe to T=>O.fw s.n to e (by rw[u,T]);generalize C[s.n]=c at *
 cases c with
 |go to =>
  have:=M to rfl;exact fin P.up (λ_=>by lia) h.wy
 |skip e to =>
  have:=I e to rfl;cases hk:rk s.sl e with
  |error g=>simp only[xE,v9,hk];exact j g
  |ok i =>
   simp only[xE,v9,hk];refine fin P.up (λ_=>?_) h.wy;split <;> lia
 |row r =>
  cases r with
  |off e =>
   cases hk:rk s.sl e with
   |error g=>simp only[xE,v9,hk];exact j g
   |ok i =>
    by_cases hi:i=0
    .simp only[xE,v9,hk,au hi];exact fin P.up (λ_=>by lia) h.wy
    .simp only[xE,v9,hk,ao hi];exact fin (s':={ s with why:=U (bf "told") }) ⟨⟨P.up.ok.so,P.up.ok.gw,P.up.ok.nw,P.up.ok.l1,P.up.ok.l2,P.up.ok.l3,P.up.ok.l4,P.up.ok.nd⟩,P.ng,P.nn⟩ (λz=>by cases z) (λv z=>by cases z;lia)
  |iff e b d=>exact fin (k:=s.n+1) P.up (λ_=>by lia) h.wy
  |take sh e x=>exact f (.take sh e x) trivial ok o
  |give sh e x=>exact f (.give sh e x) trivial ok o
  |lt sh e=>exact f (.lt sh e) trivial ok o
  |say e=>exact f (.say e) trivial ok o
theorem zd7{w:Int}(l:yI C s=aq):(jT C s=am->(xD C w s).no=s.no)/\∀p,jT C s=U p->(xD C w s).no=s.no++[(p,w)]:=by
 have j:¬ yI C s=ak:=by rw[l];decide
 have lt:=XT j;have k:C[s.n]?=U C[s.n]:=bb lt;have m:xD C w s=xE C[s.n] w s:=by unfold xD;rw[ao j,k]
 have o:jT C s=kW C[s.n] s:=by unfold jT;rw[ao j,k];rfl
 rw[m,o];generalize C[s.n]=c at *
 have g:∀h,(∀p,kW h s≠U p)->(xE h w s).no=s.no->(kW h s=am->(xE h w s).no=s.no)/\∀p,kW h s=U p->(xE h w s).no=s.no++[(p,w)]:=λh a b=>⟨λ_=>b,λp z=>absurd z (a p)⟩;cases c with
 |go to=>exact g _ (λp z=>nomatch z) rfl
 |skip e to =>
  refine g _ (λp z=>nomatch z) ?_;cases hk:rk s.sl e <;> simp only[xE,v9,hk]
 |row r =>
  cases r with
  |off e =>
   refine g _ (λp z=>nomatch z) ?_;cases hk:rk s.sl e with
   |error er=>simp only[xE,v9,hk]
   |ok i =>
    simp only[xE,v9,hk];split <;> rfl
  |iff e b d=>exact g _ (λp z=>nomatch z) rfl
  |give sh e f =>
   refine g _ (λp z=>nomatch z) ?_;cases hk:rk s.sl e with
   |error er=>simp only[xE,v9,t8,hk]
   |ok i=>cases hk2:rk s.sl f <;> simp only[xE,v9,t8,hk,hk2]
  |lt x e =>
   refine g _ (λp z=>nomatch z) ?_;cases hk:rk s.sl e <;> simp only[xE,v9,t8,hk]
  |say e =>
   refine g _ (λp z=>nomatch z) ?_;cases hk:rk s.sl e <;> simp only[xE,v9,t8,hk]
  |take sh e x =>
   cases hk:rk s.sl e with
   |error er=>exact g _ (λp z=>by simp only[kW,hk] at z;cases z) (by simp only[xE,v9,t8,hk])
   |ok n =>
    simp only[xE,v9,t8,kW,hk];by_cases c:(zC s.gi (sh,n)).isSome=ak\/(zC s.no (sh,n)).isSome=ak
    .rw[au c];exact⟨λ_=>by unfold kU;rw[au c],λp z=>nomatch z⟩
    .rw[ao c];exact⟨λz=>(nomatch z),λp z=>by cases z;unfold kU;rw[ao c]⟩
structure FwC(k:Nat)(C:List Cs):Prop where
 ok:∀c∈C,zaJ c/\zih c
 fw:∀(i to:Nat) (e:List V),C[i]?=U (Cs.skip e to)->k+i<to
 fg:∀(i to:Nat),C[i]?=U (Cs.go to)->k+i<to
theorem FwC.nil(k:Nat):FwC k []:=⟨λc h=>(nomatch h),λi to e h=>by simp at h,λi to h=>by simp at h⟩
theorem FwC.cons(f:zaJ c/\zih c)(d:∀e to,c=.skip e to->k<to)(b:∀to,c=.go to->k<to)(h:FwC (k+1) C):FwC k (c::C):=by
 refine⟨λx hx=>?_,λi to e a=>?_,λi to a=>?_⟩
 .rcases bw.mp hx with rfl|hx
  .exact f
  .exact h.ok x hx
 .cases i with
  |zero=>have:=d e to (by simpa using a);lia
  |succ i=>have:=h.fw i to e (by simpa using a);lia
 .cases i with
  |zero=>have:=b to (by simpa using a);lia
  |succ i=>have:=h.fg i to (by simpa using a);lia
theorem FwC.app:∀ {A:List Cs} {k:Nat} {a:List Cs},FwC k A->FwC (k+A.length) a->FwC k (A++a)
 |[],k,a,_,h=>by simpa using h
 |c::A,k,a,h,h'=>by
  rw[dE];refine .cons (h.ok c br) (λe to z=>by have:=h.fw 0 to e (by rw[z];rfl);lia) (λto z=>by have:=h.fg 0 to (by rw[z];rfl);lia) (FwC.app ⟨λx d=>h.ok x (bp _ d),λi to e b=>?_,λi to b=>?_⟩ (by rw[bU] at h';rw[show k+1+A.length=k+(A.length+1) by lia];exact h'))
  .have:=h.fw (i+1) to e (by simpa using b);lia
  .have:=h.fg (i+1) to (by simpa using b);lia
mutual
theorem zgU:∀(r:Rw) (k:Nat),Zl r->Jo r->FwC k (xM r k)
 |.iff e a b,k,o,p=>by
  unfold Zl at o;unfold Jo at p;have d:=Yj a (k+1) o.2.1 p.2.1;have h:=Yj b (k+2+(yd a (k+1)).length) o.2.2 p.2.2;have i:xM (.iff e a b) k=blk e k (yd a (k+1)) (gV.isNil b) (yd b (k+2+(yd a (k+1)).length)):=by rw[xM]
  rw[i];generalize yd a (k+1)=A at *
  generalize yd b (k+2+A.length)=Bn at *
  unfold blk;split
  .exact .cons ⟨o.1,trivial⟩ (λg c z=>by cases z;lia) (λc z=>nomatch z) d
  .refine .cons ⟨o.1,trivial⟩ (λg c z=>by cases z;lia) (λc z=>nomatch z) (.app d (.cons ⟨trivial,trivial⟩ (λg c z=>nomatch z) (λc z=>by cases z;lia) ?_));rw[show k+1+A.length+1=k+2+A.length by lia];exact h
 |.take sh e sl,k,o,p=>by rw[jk (x:=.take sh e sl) trivial];exact .cons ⟨o,p⟩ (λ_ _ z=>nomatch z) () (.nil _)
 |.give sh e f,k,o,p=>by rw[jk (x:=.give sh e f) trivial];exact .cons ⟨o,p⟩ (λ_ _ z=>nomatch z) () (.nil _)
 |.lt sl e,k,o,p=>by rw[jk (x:=.lt sl e) trivial];exact .cons ⟨o,p⟩ (λ_ _ z=>nomatch z) () (.nil _)
 |.say e,k,o,p=>by rw[jk (x:=.say e) trivial];exact .cons ⟨o,p⟩ (λ_ _ z=>nomatch z) () (.nil _)
 |.off e,k,o,p=>by rw[jk (x:=.off e) trivial];exact .cons ⟨o,p⟩ (λ_ _ z=>nomatch z) () (.nil _)
theorem Yj:∀(r:gV) (k:Nat),Yw r->Zn r->FwC k (yd r k)
 |.nil,k,o,p=>by rw[yd];exact .nil k
 |.cons r rs,k,o,p=>by
  unfold Yw at o;unfold Zn at p;rw[yd];exact .app (zgU r k o.1 p.1) (Yj rs _ o.2 p.2)
end
theorem zkz(j:Vu 6 r)(g:Yw r)(d:(yd r 0).length<=40):zb2 (yd r 0):=by
 have f:=Yj r 0 g j.pl;exact⟨λc b=>(f.ok c b).1,λc b=>(f.ok c b).2,λi a e h=>by have:=f.fw i a e h;lia,λi a h=>by have:=f.fg i a h;lia,d⟩
section
variable {C:List Cs}{s:bv}{m:Nat}
theorem zd8{c:D}(h:zaK H v oc)(s:aL H c):zaK c v oc:=by
 cases oc with
 |done sa=>obtain⟨o,y,b,a,d⟩:=h;exact⟨o,y,b,s _ _ a,s _ _ d⟩
 |off w=>obtain⟨o,b,a⟩:=h;exact⟨o,b,s _ _ a⟩
theorem zkA{c:D}(h:zaK H v oc)(s:TSm H c):zaK c v oc:=by
 cases oc with
 |done sa=>obtain⟨o,y,b,a,d⟩:=h;exact⟨o,y,b,s _ _ a,s _ _ d⟩
 |off w=>obtain⟨o,b,a⟩:=h;exact⟨o,b,s _ _ a⟩
theorem zd9(h:Y5 s out)(a:Y5 s out'):out=out':=by
 unfold Y5 at h a;cases e:s.why with
 |some w=>rw[e] at h a;rw[h,a]
 |none=>rw[e] at h a;exact qq h.1 a.1 λ⟨p,w⟩=>(h.2 p w).trans (a.2 p w).symm
theorem zdl(h:Y5 s out):out.length<=s.gi.length:=by
 unfold Y5 at h;cases e:s.why with
 |some w=>rw[e] at h;rw[h];exact bS _
 |none =>
  rw[e] at h;have o:=vo s.gi;have n:((tF s.gi).map (·.1)).Nodup:=(kP s.gi).1;have g:((out.map (·.1)).map zB).Nodup:=by
   have:=h.1.nd;unfold fu at *
   rw[gL];exact this.imp λ{a b} d z=>d (yU z)
  have c:∀k∈(out.map (·.1)).map zB,k∈(tF s.gi).map (·.1):=λk l=>by
   obtain⟨p,j,rfl⟩:=bD.mp l;obtain⟨r,i,rfl⟩:=bD.mp j;exact bB (f:=(·.1)) (uu.mpr ⟨r.1,r.2,Z,(h.2 r.1 r.2).mp i⟩)
  have:=xI g c;simp only[bd] at this;lia
end
theorem zgV{l c h:D}(m:aL l c)(d:c x=am)(f:c dx=am)(j:W7 x (upd (upd c dx (.own x)) x (.ins t.q01 dx [])) h)(k:∀b,OwA x a b->b=x\/upd (upd c dx (.own x)) x (.ins t.q01 dx []) b=am):aL c h/\∀b,OwA x a b->c b=am:=by
 have g:aL c (upd (upd c dx (HO.own x)) x (HO.ins t.q01 dx [])):=λb o e=>by rw[zm (zF e d),zm (zF e f)];exact e
 refine⟨λb o e=>j b o (λz=>by rw[z,d] at e;cases e) (g b o e),λb i=>?_⟩;rcases k b i with z|z
 .rw[z];exact d
 .exact zH g z
section
variable {C:List Cs}
theorem dl.has(R:dl t H x a C s)(c:OwA x a b):H b≠am:=by
 obtain⟨e,d,_⟩:=R.hc;rcases c with (z|z|z|z|z)|z
 .rw[z,R.ix];exact λz=>nomatch z
 .rw[z,R.hs];exact λz=>nomatch z
 .rw[z,R.hg];exact λz=>nomatch z
 .rw[z,R.hn];exact λz=>nomatch z
 .rw[z,R.ha];exact λz=>nomatch z
 .rw[z,d];exact λz=>nomatch z
end
theorem _root_.L2.PrAt.same{H a:D}(h:zb1 H v q)(s:aL H a):zb1 a v q:=by
 obtain⟨r,p,e,c,b⟩:=h;exact⟨r,p,e,s _ _ c,s _ _ b⟩
theorem _root_.L2.PrAt.tsame{H a:D}(h:zb1 H v q)(s:zcb H a):zb1 a v q:=by
 obtain⟨r,p,e,c,b⟩:=h;exact⟨r,p,e,s _ _ c,s _ _ b⟩
theorem JN{H c:D}(s:zcb H c):∀ {a:List V} {b:List aO},Y4 H a b->Y4 c a b
 |_,_,.nil=>.nil
 |_,_,.cons h r=>.cons (h.tsame s) (JN s r)
theorem jm{H c:D}(s:aL H c):∀ {a:List V} {b:List aO},Y4 H a b->Y4 c a b
 |_,_,.nil=>.nil
 |_,_,.cons h r=>.cons (h.same s) (jm s r)
theorem QR{H:D}{v:V}{q:aO}:∀ {b:List V} {c:List aO},Y4 H b c->zb1 H v q->Y4 H (b++[v]) (c++[q])
 |_,_,.nil,h=>.cons h .nil
 |_,_,.cons a r,h=>.cons a (QR r h)
theorem JO(d:List aO):∃a:List Pl,(tF d).map (·.1)=a.map zB/\a.Nodup/\∀p,p∈a↔(zC d p).isSome=ak:=by
 have h:=kP d;have:∀(g:List (List aW×V)),(∀b∈g,∃(p:Pl) (w:Int),b=(zB p,.int w))->∃a:List Pl,g.map (·.1)=a.map zB:=λg=>by
  induction g with
  |nil=>exact λ_=>⟨[],Z⟩
  |cons b r ih =>
   intro c;obtain⟨a,e⟩:=ih λz n=>c z (bp _ n);obtain⟨p,w,o⟩:=c b br;exact⟨p::a,by rw[bh,bh,e,o]⟩
 obtain⟨a,e⟩:=this _ h.2;refine⟨a,e,xH (f:=zB) (by rw[<-e];exact h.1),λp=>?_⟩;constructor
 .intro k;have:zB p∈(tF d).map (·.1):=by rw[e];exact bB k
  obtain⟨b,c,l⟩:=bD.mp this;obtain⟨m,w,rfl,i⟩:=uu.mp c;have:=yU l;subst this;rw[i];rfl
 .intro k;obtain⟨w,i⟩:=fN.mp k;have:zB p∈a.map zB:=by rw[<-e];exact bB (f:=(·.1)) (uu.mpr ⟨p,w,Z,i⟩)
  obtain⟨m,j,l⟩:=bD.mp this;rw[<-yU l];exact j
def JP(a:List aO)(p:Pl):Option aO:=match zC a p with
 |some w=>if w=0 then am else U (p,w)
 |none=>am
def zjN(d:List aO)(c:List Pl)(i:Nat)(b:List V)(H:D):Prop:=∃a:List aO,Y4 H b a/\a=(c.take i).filterMap (JP d)
theorem zir{H H':D}(s:zcb H H')(h:zjN aK qs i ys H):zjN aK qs i ys H':=by
 obtain⟨a,c,b⟩:=h;exact⟨a,JN s c,b⟩
theorem uh :JP aK p=U b↔b.1=p/\zC aK p=U b.2/\b.2≠0:=by
 unfold JP;obtain⟨d,c⟩:=b;cases e:zC aK p with
 |none=>simp
 |some w =>
  by_cases h:w=0
  .subst h;simp only[if_true];constructor
   .intro z;cases z
   .rintro⟨_,z,a⟩;exact absurd (bH z).symm a
  .simp only[ao h,eY,Prod.mk.injEq];constructor
   .rintro⟨rfl,rfl⟩;exact⟨Z,Z,h⟩
   .rintro⟨rfl,rfl,_⟩;exact⟨Z,Z⟩
theorem zjO{d:List Pl}(g:d.Pairwise λa b=>yv a b=ak)(i:∀p,p∈d↔(zC aK p).isSome=ak):zbG aK (d.filterMap (JP aK)):=by
 constructor
 .unfold tT;rw[List.pairwise_filterMap];refine g.imp λ{a m} h b j l e=>?_;rw[(uh.mp j).1,(uh.mp e).1];exact h
 .intro p w;rw[List.mem_filterMap];constructor
  .rintro⟨a,_,h⟩;obtain⟨c,f,k⟩:=uh.mp h;cases c;exact⟨f,k⟩
  .rintro⟨c,f⟩;exact⟨p,(i p).mpr (by rw[c];rfl),uh.mpr ⟨Z,c,f⟩⟩
theorem XW{p:Pl}{w:Int}:∀ {l:List aO},zC l p=U w->(p,w)∈l
 |[],h=>by cases h
 |r::t,h=>by
  rw[zC] at h;cases e:zC t p with
  |some w' =>
   rw[e] at h;have:w'=w:=by simpa using h
   subst this;exact bp _ (XW e)
  |none =>
   rw[e] at h;by_cases c:r.1=p
   .rw[au c] at h;have:r.2=w:=by simpa using h
    rw[<-c,<-this];exact br
   .rw[ao c] at h;cases h
theorem tN.same{H b:D}(h:tN H a aK)(s:aL H b):tN b a aK:=by
 obtain⟨c,e,d⟩:=h;exact⟨c,s _ _ e,jm s d⟩
theorem zkB(h:lfV v):qo v/\isJ v=aq/\plV v:=by
 rcases h with ⟨i,rfl,hi⟩|⟨x,rfl,hx⟩
 .exact⟨.inl ⟨i,Z,hi⟩,Z,.inl ⟨i,Z⟩⟩
 .have:=Xl hx;exact⟨.inr ⟨x,Z,()⟩,this.2.2.1,.inr ⟨x,Z,Yi hx⟩⟩
theorem tu.same{H a:D}(h:tu H nm ws)(s:aL H a):tu a nm ws:=⟨s _ _ h.1,h.2⟩
theorem zcc(h:tu H nm ws)(n:Nat)(f:ws.length=n)(c:0<(n:Int))(e:Int):∃x,uq (ws.map V.str) (e%n)=U (.str x)/\x∈ws/\yY x=ak:=by
 obtain⟨v,b,d⟩:=zjH e n (xs:=ws.map V.str) (by rw[bd,f]) c;obtain⟨x,a,rfl⟩:=bD.mp d;exact⟨x,b,a,h.2 x a⟩
theorem QS(e:aY a)(d:aY b)(c:wdJ w)(l:a.length+b.length<1000):aY (a++b++[.str w]):=by
 refine⟨λf=>?_,λz hz=>?_,by rw[bx,bx,fE];lia⟩
 .obtain⟨j,h⟩:=e.1 f;obtain⟨i,g⟩:=d.1 f;exact⟨_,zeL c.1 h g⟩
 .rcases bu.mp hz with hz|hz
  .rcases bu.mp hz with hz|hz
   .exact e.2.1 z hz
   .exact d.2.1 z hz
  .rw[bn.mp hz];exact .inr ⟨w,Z,c.2.1⟩
theorem zea(e:tmP a)(d:tmP b)(c:wdJ w):tmP (a++b++[.str w]):=λz hz=>by
 rcases bu.mp hz with hz|hz
 .rcases bu.mp hz with hz|hz
  .exact e z hz
  .exact d z hz
 .rw[bn.mp hz];exact .inr ⟨w,Z,c.2.2⟩
theorem XX(h:lfV u):aY [u]/\tmP [u]:=by
 obtain⟨b,c,a⟩:=zkB h;exact⟨zgs b c,λz d=>by rw[bn.mp d];exact a⟩
mutual
theorem zis:∀(r:Rw) (k:Nat),(xM r k).length<=szR r/\r.cnt<=szR r
 |.iff e a b,k=>by
  have g:=XY a (k+1);have d:=XY b (k+2+(yd a (k+1)).length);have c:(Rw.iff e a b).cnt=max a.cnt b.cnt+1:=by rw[Rw.cnt]
  have z:szR (.iff e a b)=ZA a+ZA b+2:=by rw[szR]
  rw[xM,c,z];unfold blk;split
  .exact⟨by simp;lia,()⟩
  .exact⟨by simp;lia,()⟩
 |.take sh e sl,k=>by simp[xM,szR,Rw.cnt]
 |.give sh e f,k=>by simp[xM,szR,Rw.cnt]
 |.lt sl e,k=>by simp[xM,szR,Rw.cnt]
 |.say e,k=>by simp[xM,szR,Rw.cnt]
 |.off e,k=>by simp[xM,szR,Rw.cnt]
theorem XY:∀(r:gV) (k:Nat),(yd r k).length<=ZA r/\r.cnt<=ZA r
 |.nil,k=>by simp[yd,ZA,gV.cnt]
 |.cons r rs,k=>by
  have b:=zis r k;have a:=XY rs (k+(xM r k).length);rw[yd,ZA,gV.cnt,bx];lia
end
theorem rn0 :RnI C 0 st0:=⟨⟨(λk v e=>by cases e),(λr h=>nomatch h),(λr h=>nomatch h),bo _,bo _,bo _,bo _,cO⟩,(λr h=>nomatch h),(λr h=>nomatch h),λ_=>bS _,λw z=>nomatch z⟩
theorem zjP(I:RnI C m s)(h:Y5 s out):∀r∈out,tK r.2=ak:=by
 unfold Y5 at h;cases e:s.why with
 |some w=>rw[e] at h;rw[h];exact λr a=>nomatch a
 |none =>
  rw[e] at h;intro r a;exact xz (P:=λr=>tK r.2=ak) I.ok.gw ((h.2 r.1 r.2).mp a)
structure MkF(K:bA)(t:aX):Prop where
 cl:ua K t.q02
 g:aQ K t.q02 "ground"
 f:aQ K t.q02 "folded"
 w:aQ K t.q02 "worths"
 r:aQ K t.q02 "ranks"
theorem mkF{P:Str->Option af}(T:Txt K P t):MkF K t:=⟨T.q09,T.q2o,T.q2n,T.q2q,T.q2p⟩
section
variable {gr wo rk:L}{low:Int}
theorem zkC:cU (bf "ground") (wY gr low wo rk)=U (.ref gr):=by simp only[wY,b9,beq_self_eq_true]
theorem zjQ:cU (bf "folded") (wY gr low wo rk)=U (.int low):=by
 have a:(bf "folded" == bf "ground")=aq:=by lia
 simp only[wY,b9,a,beq_self_eq_true]
theorem zdm:cU (bf "worths") (wY gr low wo rk)=U (.ref wo):=by
 have b:(bf "worths" == bf "ground")=aq:=by lia
 have a:(bf "worths" == bf "folded")=aq:=by lia
 simp only[wY,b9,b,a,beq_self_eq_true]
theorem zgW:cU (bf "ranks") (wY gr low wo rk)=U (.ref rk):=by
 have c:(bf "ranks" == bf "ground")=aq:=by lia
 have b:(bf "ranks" == bf "folded")=aq:=by lia
 have a:(bf "ranks" == bf "worths")=aq:=by lia
 simp only[wY,b9,c,b,a,beq_self_eq_true]
end
theorem zeb{b:List Int}{k:Nat}{x:Int}(h:b.Pairwise (· < ·))(e:b[k]?=U x):∀r∈b.take (k+1),r<=x:=λr c=>by
 obtain⟨j,a⟩:=cV c;rw[eu] at a;split at a
 .obtain⟨f,i⟩:=bq.mp a;obtain⟨d,g⟩:=bq.mp e;rcases iY j k with hl|hg
  .have:=fJ.mp h j k f d hl;lia
  .have:j=k:=by lia
   subst this;lia
 .cases a
theorem zit{a:List Int}{k:Nat}{x:Int}(h:a.Pairwise (· < ·))(e:a[k]?=U x):∀r∈a.drop k,x<=r:=λr c=>by
 obtain⟨j,b⟩:=cV c;rw[mH] at b;obtain⟨g,f⟩:=bq.mp b;obtain⟨d,i⟩:=bq.mp e;rcases mI j with rfl|hp
 .simp only[Nat.add_zero] at f;lia
 .have:=fJ.mp h k (k+j) d g ();lia
def mbW(a:L)(e:Int)(d:List Int)(H:D)(m:Nat)(f:St)(g:D):Prop:=∃(c b:Nat) (o:Option V),f=[U (.ref a),U (.int e),U (.int c),U (.int b),o]/\aL H g/\c<=b/\b<=d.length/\m=b-c/\(∀r∈d.take c,r<e)/\(∀r∈d.drop b,e<=r)
theorem zjR{H:D}(h:H p=am):∃a,a=upd H p o/\aL H a/\a p=U o:=⟨_,Z,tM p h,zj⟩
theorem JQ(p:Pl)(a:Int):∀(b:List aO) (s:Int×Int),JG p a b s=match zC b p with|none=>s|some w=>(a,w)
 |[],s=>rfl
 |r::b,s=>by
  rw[JG,JQ p a b,zC];cases zC b p with
  |some w=>rfl
  |none =>
   by_cases e:r.1=p
   .rw[au e,au e];rfl
   .rw[ao e,ao e];rfl
theorem x9(p:Pl)(f:Int):∀(d:List (Int×List aO)) (s:Int×Int),(va p f d s=s/\∀y∈d,s.1<y.1->y.1<f->zC y.2 p=am) \/
  ∃y∈d,∃w,zC y.2 p=U w/\y.1<f/\s.1<y.1/\va p f d s=(y.1,w)/\∀z∈d,z.1<f->zC z.2 p≠am->z.1<=y.1
 |[],s=>.inl ⟨Z,λ_ h=>nomatch h⟩
 |l::ls,s=>by
  rw[va];by_cases c:s.1<l.1/\l.1<f
  .rw[au c,JQ];cases e:zC l.2 p with
   |some w =>
    rcases x9 p f ls (l.1,w) with ⟨h1,h2⟩|⟨y,hy,w',e1,e2,e3,e4,e5⟩
    .refine .inr ⟨l,br,w,e,c.2,c.1,h1,λz hz g i=>?_⟩;rcases bw.mp hz with rfl|hz
     .exact ma _
     .rcases i9 l.1 z.1 with hl|hl
      .exact absurd (h2 z hz hl g) i
      .exact hl
    .have j:l.1<y.1:=e3;refine .inr ⟨y,bp _ hy,w',e1,e2,(),e4,λz hz g i=>?_⟩;rcases bw.mp hz with rfl|hz
     .lia
     .exact e5 z hz g i
   |none =>
    rcases x9 p f ls s with ⟨h1,h2⟩|⟨y,hy,w',e1,e2,e3,e4,e5⟩
    .refine .inl ⟨h1,λy hy a b=>?_⟩;rcases bw.mp hy with rfl|hy
     .exact e
     .exact h2 y hy a b
    .refine .inr ⟨y,bp _ hy,w',e1,e2,e3,e4,λz hz g i=>?_⟩;rcases bw.mp hz with rfl|hz
     .exact absurd e i
     .exact e5 z hz g i
  .rw[ao c];rcases x9 p f ls s with ⟨h1,h2⟩|⟨y,hy,w',e1,e2,e3,e4,e5⟩
   .refine .inl ⟨h1,λy hy a b=>?_⟩;rcases bw.mp hy with rfl|hy
    .exact absurd ⟨a,b⟩ c
    .exact h2 y hy a b
   .refine .inr ⟨y,bp _ hy,w',e1,e2,e3,e4,λz hz g i=>?_⟩;rcases bw.mp hz with rfl|hz
    .rcases i9 s.1 z.1 with hl|hl
     .exact absurd ⟨hl,g⟩ c
     .lia
    .exact e5 z hz g i
theorem xz{a:List aO}{p:Pl}(b:(a.map (·.1)).Nodup):p∈a.map (·.1)↔zC a p≠am:=by
 constructor
 .intro h e;obtain⟨r,c,rfl⟩:=bD.mp h;have:=(Yf (p:=r.1) (w:=r.2) b).mpr c;rw[e] at this;cases this
 .intro h;cases e:zC a p with
  |none=>exact absurd e h
  |some w=>exact bD.mpr ⟨_,(Yf b).mp e,Z⟩
theorem JR{rk:L}{F:L->Prop}{r:Int}{b:List aO}:∀ {a:List (aW×V)} {l:List (Int×List aO)},Paired (zb3 H rk F) a l->(l.map (·.1)).Nodup->(r,b)∈l->∃d,yj a (.inl r)=U (.ref d)/\F d/\d≠rk/\H d=U (.dT (tF b))
 |_,_,.nil,_,h=>nomatch h
 |_,_,@Paired.cons _ _ _ kv y a l ⟨e,d,e2,fd,nd,hd⟩ rest,n,h=>by
  rw[bh,bW] at n;rcases bw.mp h with rfl|h
  .exact⟨d,by rw[yV e,e2],fd,nd,hd⟩
  .have c:¬ kv.1=.inl r:=λz=>n.1 (by rw[e] at z;cases z;exact bB (f:=(·.1)) h);rw[yW c];exact JR rest n.2 h
theorem zec{rk:L}{F:L->Prop}:∀ {a:List (aW×V)} {l:List (Int×List aO)},Paired (zb3 H rk F) a l->a.map (·.1)=l.map λy=>(ik y.1:aW)
 |_,_,.nil=>rfl
 |_,_,.cons h rest=>by rw[bh,bh,h.1,zec rest]
theorem zaN{rk:L}{F:L->Prop}{r:Int}{a:List (aW×V)}{l:List (Int×List aO)}(h:Paired (zb3 H rk F) a l)(n:r ∉ l.map (·.1)):yj a (.inl r)=am:=by
 refine zaM λz=>n ?_;rw[zec h] at z;obtain⟨y,b,e⟩:=bD.mp z;cases e;exact bB b
theorem zaO{rk:L}{F:L->Prop}{r:Int}:∀ {a:List (aW×V)} {l:List (Int×List aO)},Paired (zb3 H rk F) a l->Paired (zb3 H rk F) (yz a (.inl r)) (Vv l r)
 |_,_,.nil=>.nil
 |_,_,@Paired.cons _ _ _ kv y a l h rest=>by
  unfold Vv;by_cases e:y.1=r
  .rw[Qq (by rw[h.1,e]),fW (by simp[e])];exact zaO rest
  .rw[Wm (λz=>e (by rw[h.1] at z;cases z;rfl)),fY (by simp[e])];exact .cons h (zaO rest)
theorem ziu{l:List (Int×List aO)}{r:Int}(h:r ∉ l.map (·.1)):Vv l r=l:=l8.mpr λy a=>Bj λe=>h (by rw[<-e];exact bB a)
theorem XZ{l:List (Int×List aO)}{r:Int}:r ∉ (Vv l r).map (·.1):=λh=>by
 obtain⟨y,a,e⟩:=bD.mp h;exact of_decide_eq_true (bQ.mp a).2 e
theorem tz.get{rk:L}{F:L->Prop}{P:Pl->Int->Prop}{b:List (List aW×V)}(h:tz H rk F P b)(p:Pl):(∃a rs,(zB p,V.ref a)∈b/\yj b (zB p)=U (.ref a)/\F a/\H a=U (.lst (rs.map V.int))/\rs.Pairwise (· < ·)/\rs≠[]/\∀r,r∈rs↔P p r)\/(yj b (zB p)=am/\zB p ∉ b.map (·.1)/\∀r,¬ P p r):=by
 by_cases hm:zB p∈b.map (·.1)
 .obtain⟨kv,c,e⟩:=bD.mp hm;obtain⟨d,a,rs,rfl,z⟩:=h.ls kv c;have:d=p:=yU e;subst this;exact .inl ⟨a,rs,c,zav h.nk _ c,z⟩
 .exact .inr ⟨zaM hm,hm,λr f=>hm (h.al p r f)⟩
theorem zjS{a:List Int}{l:List (Int×List aO)}{p:Pl}(h:a.Pairwise (· < ·))(e:∀r,r∈a->vT l p r):a.length<=l.length:=by
 have c:a.Nodup:=mZ (λh=>rX h) h;have:=xI (b:=l.map (·.1)) c λx d=>let ⟨gs,h1,_⟩:=e x d;bD.mpr ⟨_,h1,Z⟩
 simpa using this
section
variable {G:L->Prop}{rk a:L}{H' H'':D}
theorem hV.refl:hV G rk H H:=λ_ _ e _ _=>e
theorem hV.same(k:hV G rk H H')(s:aL H' H''):hV G rk H H'':=λb o e n z=>s _ _ (k b o e n z)
theorem hV.dct(k:hV G rk H H')(o:HO):hV G rk H (upd H' rk o):=λb u e n z=>by rw[zm n];exact k b u e n z
theorem hV.lst(k:hV G rk H H')(d:H' a=U (.lst xs))(f:G a):hV G rk H (upd H' a (.lst ys)):=λb u e n z=>by
 have c:=k b u e n z;by_cases hb:b=a
 .subst hb;rcases z with z|z
  .rw[d] at c;exact absurd (bH c).symm (z xs)
  .exact absurd f z
 .rw[zm hb];exact c
end
theorem JS{a b:Type}{f:a->b}:∀ {l:List a},(l.map f).Nodup->∀ {x y:a},x∈l->y∈l->f x=f y->x=y
 |[],_,_,_,h,_,_=>nomatch h
 |c::l,n,x,y,hx,hy,e=>by
  rw[bh,bW] at n;rcases bw.mp hx with h1|h1
  .rcases bw.mp hy with h2|h2
   .rw[h1,h2]
   .exact absurd (by rw[<-h1,e];exact bB h2) n.1
  .rcases bw.mp hy with h2|h2
   .exact absurd (by rw[<-h2,<-e];exact bB h1) n.1
   .exact JS n.2 h1 h2 e
section
variable {G:L->Prop}{rk a:L}{P P':Pl->Int->Prop}{kk:List (List aW×V)}{q0:Pl}{ac:Int}{rs:List Int}
theorem tz.one(h:tz H rk G P kk)(d:(zB q0,V.ref a)∈kk){c:Pl}(b:(zB c,V.ref a')∈kk):a'=a↔c=q0:=by
 constructor
 .intro e;have:=JS h.nv b d (by rw[e]);exact yU (congrArg Prod.fst this)
 .intro e;have:=JS h.nk b d (by rw[e]);exact V.ref.inj (congrArg Prod.snd this)
theorem zcd(h:tz H rk G P kk)(b:H a=U (.lst (rs.map V.int))):rk≠a:=zL h.at_ b ()
theorem QT{r:Int}(c:rs.Pairwise (· < ·)):r∈rs.erase ac↔r∈rs/\r≠ac:=by
 have b:rs.Nodup:=mZ (λh=>rX h) c;rw[b.mem_erase_iff,and_comm]
theorem tz.out1(h:tz H rk G P kk)(q:(zB q0,V.ref a)∈kk)(v:H a=U (.lst (rs.map V.int)))(o:rs.Pairwise (· < ·))(u:∀r,r∈rs↔P q0 r)(g:rs.erase ac≠[])(l:∀p r,P' p r↔P p r/\¬ (r=ac/\p=q0)):tz (upd H a (.lst ((rs.erase ac).map V.int))) rk G P' kk where
 at_:=by rw[zm (zcd h v)];exact h.at_
 nk:=h.nk
 nv:=h.nv
 ls:=λkv b=>by
  obtain⟨d,n,c,rfl,s,k,f,i,j⟩:=h.ls kv b;by_cases e:n=a
  .have m:=(h.one q b).mp e;subst e m;refine⟨d,n,rs.erase ac,Z,s,zj,o.sublist rc,g,λr=>?_⟩;rw[QT o,l,u];exact⟨λz=>⟨z.1,λy=>z.2 y.1⟩,λz=>⟨z.1,λy=>z.2 ⟨y,Z⟩⟩⟩
  .have m:¬ d=q0:=λz=>e ((h.one q b).mpr z);refine⟨d,n,c,Z,s,by rw[zm e];exact k,f,i,λr=>?_⟩;rw[j,l];exact⟨λz=>⟨z,λy=>m y.2⟩,λz=>z.1⟩
 al:=λp r z=>h.al p r ((l p r).mp z).1
theorem tz.out2(h:tz H rk G P kk)(x:(zB q0,V.ref a)∈kk)(E:H a=U (.lst (rs.map V.int)))(v:rs.Pairwise (· < ·))(A:∀r,r∈rs↔P q0 r)(i:rs.erase ac=[])(n:∀p r,P' p r↔P p r/\¬ (r=ac/\p=q0)){us:List V}:tz (upd (upd H a (.lst us)) rk (.dT (yz kk (zB q0)))) rk G P' (yz kk (zB q0)) where
 at_:=zj
 nk:=gj (gc _ dh) h.nk
 nv:=gj (gc _ dh) h.nv
 ls:=λkv b=>by
  have c:=zeG b;have u:kv.1≠zB q0:=of_decide_eq_true (bQ.mp b).2;obtain⟨m,q,f,rfl,C,d,g,j,k⟩:=h.ls kv c;have o:¬ m=q0:=λz=>u (by rw[z]);have e:¬ q=a:=λz=>o ((h.one x c).mp z);refine⟨m,q,f,Z,C,by rw[zm (zcd h d).symm,zm e];exact d,g,j,λr=>?_⟩;rw[k,n];exact⟨λz=>⟨z,λy=>o y.2⟩,λz=>z.1⟩
 al:=λp r z=>by
  obtain⟨l,s⟩:=(n p r).mp z;obtain⟨kv,b,e⟩:=bD.mp (h.al p r l);refine bD.mpr ⟨kv,bQ.mpr ⟨b,Bj λy=>?_⟩,e⟩;have:p=q0:=yU (e.symm.trans y);subst this;have w:r∈rs:=(A r).mpr l;by_cases er:r=ac
  .exact s ⟨er,Z⟩
  .have:=(QT (ac:=ac) v).mpr ⟨w,er⟩;rw[i] at this;cases this
theorem zdn{k:Nat}(e:rs.Pairwise (· < ·))(c:∀r∈rs.take k,r<ac)(d:∀r∈rs.drop k,ac<=r)(b:ac ∉ rs):(rs.take k++ac::rs.drop k).Pairwise (· < ·):=by
 have gt:∀r∈rs.drop k,ac<r:=λr f=>by
  have i:=d r f;have h:r≠ac:=λz=>b (by rw[<-z];exact dt f);lia
 rw[gQ,pZ];refine⟨e.sublist (rA ..),⟨gt,e.sublist (m4 ..)⟩,λx g y hy=>?_⟩;have:=c x g;rcases bw.mp hy with rfl|hy
 .exact this
 .have:=gt y hy;lia
theorem ziv{r:Int}:r∈rs.take k++ac::rs.drop k↔r∈rs\/r=ac:=by
 rw[bu,bw];constructor
 .rintro(h|h|h)
  .exact .inl (dq h)
  .exact .inr h
  .exact .inl (dt h)
 .rintro(h|h)
  .have:r∈rs.take k++rs.drop k:=by rw[da];exact h
   rcases bu.mp this with z|z
   .exact .inl z
   .exact .inr (.inr z)
  .exact .inr (.inl h)
theorem tz.in1{k:Nat}(h:tz H rk G P kk)(l:(zB q0,V.ref a)∈kk)(A:H a=U (.lst (rs.map V.int)))(x:rs.Pairwise (· < ·))(v:∀r,r∈rs↔P q0 r)(j:∀r∈rs.take k,r<ac)(n:∀r∈rs.drop k,ac<=r)(g:¬ P q0 ac)(q:∀p r,P' p r↔P p r\/(r=ac/\p=q0)):tz (upd H a (.lst ((rs.take k++ac::rs.drop k).map V.int))) rk G P' kk where
 at_:=by rw[zm (zcd h A)];exact h.at_
 nk:=h.nk
 nv:=h.nv
 ls:=λkv b=>by
  obtain⟨d,u,c,rfl,w,o,f,i,m⟩:=h.ls kv b;by_cases e:u=a
  .have s:=(h.one l b).mp e;subst e s;refine⟨d,u,_,Z,w,zj,zdn x j n (λz=>g ((v _).mp z)),by simp,λr=>?_⟩;rw[ziv,q,v];exact⟨λz=>z.imp_right λy=>⟨y,Z⟩,λz=>z.imp_right λy=>y.1⟩
  .have s:¬ d=q0:=λz=>e ((h.one l b).mpr z);refine⟨d,u,c,Z,w,by rw[zm e];exact o,f,i,λr=>?_⟩;rw[m,q];exact⟨λz=>.inl z,λz=>z.elim id λy=>absurd y.2 s⟩
 al:=λp r z=>by
  rcases(q p r).mp z with z|⟨_,rfl⟩
  .exact h.al p r z
  .exact bD.mpr ⟨_,l,Z⟩
theorem tz.in2(h:tz H rk G P kk)(o:zB q0 ∉ kk.map (·.1))(i:∀r,¬ P q0 r)(v:G a)(q:∀kv∈kk,kv.2≠.ref a)(u:a≠rk)(l:∀p r,P' p r↔P p r\/(r=ac/\p=q0)):tz (upd (upd H rk (.dT (kk++[(zB q0,V.ref a)]))) a (.lst [V.int ac])) rk G P' (kk++[(zB q0,V.ref a)]) where
 at_:=by rw[zm u.symm];exact zj
 nk:=by
  rw[bN,dn];refine⟨h.nk,by simp,λx f y d=>?_⟩;have:y=zB q0:=by simpa using d
  rw[this];exact λz=>o (by rw[<-z];exact f)
 nv:=by
  rw[bN,dn];refine⟨h.nv,by simp,λx f y d=>?_⟩;have:y=V.ref a:=by simpa using d
  rw[this];obtain⟨kv,hkv,rfl⟩:=bD.mp f;exact q kv hkv
 ls:=λkv hkv=>by
  rcases bu.mp hkv with hkv|hkv
  .obtain⟨n,s,c,rfl,m,b,g,j,k⟩:=h.ls kv hkv;have e:s≠a:=λz=>q _ hkv (by rw[z]);have w:n≠q0:=λz=>o (bD.mpr ⟨_,hkv,by rw[z]⟩);refine⟨n,s,c,Z,m,by rw[zm e,zm (zcd h b).symm];exact b,g,j,λr=>?_⟩;rw[k,l];exact⟨λz=>.inl z,λz=>z.elim id λy=>absurd y.2 w⟩
  .have:=bn.mp hkv;subst this;refine⟨q0,a,[ac],Z,v,zj,by simp,by simp,λr=>?_⟩;rw[l,bn];exact⟨λz=>.inr ⟨z,Z⟩,λz=>z.elim (λy=>absurd y (i r)) λy=>y.1⟩
 al:=λp r z=>by
  rw[bN,bu];rcases(l p r).mp z with z|⟨_,rfl⟩
  .exact .inl (h.al p r z)
  .exact .inr (by simp)
theorem tz.eqv(h:tz H rk G P kk)(e:∀p r,P p r↔P' p r):tz H rk G P' kk:=⟨h.at_,h.nk,h.nv,λkv b=>let ⟨p,a,rs,e1,fa,ha,hs,hn,hi⟩:=h.ls kv b;⟨p,a,rs,e1,fa,ha,hs,hn,λr=>(hi r).trans (e p r)⟩,λp r z=>h.al p r ((e p r).mpr z)⟩
end
def taI(m g rk:L)(b:Int)(h:List V)(F:L->Prop)(P:Pl->Int->Prop)(f:List aO)(H:D)(i:Nat)(c:St)(a:D):Prop:=(∃d,c=[U (.ref m),U (.int b),U (.ref g),d])/\hV F rk H a/\Dm H a/\∃e,tz a rk F (λp r=>P p r/\¬ (r=b/\p∈(f.take i).map (·.1))) e
theorem tz.keep2{c:D}{rk:L}{F F':L->Prop}{P:Pl->Int->Prop}(h:tz H rk F P aJ)(f:c rk=H rk)(k:∀b d,F b->H b=U (.lst d)->c b=U (.lst d))(i:∀b,F b->(∃o,c b=U o)->F' b):tz c rk F' P aJ:=
 ⟨f.trans h.at_,h.nk,h.nv,λkv g=>let ⟨p,a,rs,e,fa,ha,z⟩:=h.ls kv g;⟨p,a,rs,e,i a fa ⟨_,k _ _ fa ha⟩,k _ _ fa ha,z⟩,h.al⟩
theorem Dm.refl:Dm H H:=λb o e=>⟨o,e,λ_ z=>z⟩
theorem Dm.trans{c H2:D}(h:Dm H c)(k:Dm c H2):Dm H H2:=λb o e=>by
 obtain⟨i,l,f⟩:=h b o e;obtain⟨g,j,d⟩:=k b i l;exact⟨g,j,λa z=>f a (d a z)⟩
theorem Dm.of_same{H1:D}(s:aL H H1):Dm H H1:=λb o e=>⟨o,s _ _ e,λ_ z=>z⟩
theorem Dm.upd(n:∀d,o'≠.tup d):Dm H (upd H a o'):=λb o e=>by
 by_cases c:b=a
 .subst c;exact⟨_,zj,λd z=>absurd z (n d)⟩
 .exact⟨o,by rw[zm c];exact e,λ_ z=>z⟩
theorem hV.trans{G:L->Prop}{rk:L}{a H2:D}(h:hV G rk H a)(k:hV G rk a H2):hV G rk H H2:=λb o e n z=>k b o (h b o e n z) n z
theorem zgX{m w j l rk:L}{low:Int}{F:L->Prop}{g:List aO}{h:List (Int×List aO)}{c:List (aW×V)}{i:List (List aW×V)}{f p:D}(E:F m)(N:F j)(J:F l)(M:F rk)(r:j≠rk)(u:f m=U (.ins t.q02 w (wY j low l rk)))(G:f j=U (.dT (tF g)))(v:f l=U (.dK c))(a:∃s,f rk=U (.dT s))(x:Paired (zb3 f rk F) c h)(k:hV F rk f p)(q:∀b,F b->∃o,p b=U o)(A:tz p rk F (vT h) i)(n:(h.map (·.1)).Nodup)(C:∀y∈h,0<=y.1/\Ws y.2):tV t p m F g h low:=by
 obtain⟨s,a⟩:=a;exact⟨q,E,n,C,w,j,l,rk,c,i,k _ _ u (zL u a ()) (.inl λ_ z=>nomatch z),N,J,M,r,k _ _ G r (.inl λ_ z=>nomatch z),k _ _ v (zL v a ()) (.inl λ_ z=>nomatch z),Paired.mapP x λ_ _ ⟨e,d,T,O,n,I⟩=>⟨e,d,T,O,n,k _ _ I n (.inl λ_ z=>nomatch z)⟩,A⟩
theorem QU{F:L->Prop}{rk:L}{H a:D}(c:F rk)(k:hV F rk H a):∀b o,¬ F b->H b=U o->a b=U o:=λb o n e=>k b o e (λz=>n (by rw[z];exact c)) (.inr n)
theorem zgY{l:List (Int×List aO)}{ac:Int}{d:List aO}(e:(l.map (·.1)).Nodup)(h:(ac,d)∈l)(p:Pl)(r:Int):(vT l p r/\¬ (r=ac/\p∈d.map (·.1)))↔vT (Vv l ac) p r:=by
 constructor
 .rintro⟨⟨c,b,a⟩,n⟩;refine⟨c,bQ.mpr ⟨b,Bj λz=>?_⟩,a⟩;have z:r=ac:=z;subst z;have:=JS e b h rfl;cases this;exact n ⟨Z,a⟩
 .rintro⟨c,b,a⟩;obtain⟨g,f⟩:=bQ.mp b;exact⟨⟨c,g,a⟩,λz=>of_decide_eq_true f z.1⟩
theorem zgZ{rk:L}{F:L->Prop}{l:List (Int×List aO)}{P:Pl->Int->Prop}(h:tz H rk F P kk)(k:∀p r,P p r->vT l p r)(c:∀y∈l,Ws y.2)(s:l.length<=300):kk.length<=18900:=by
 have q:=xI (b:=(l.flatMap λy=>y.2.map (·.1)).map zB) h.nk λx i=>by
  obtain⟨f,d,rfl⟩:=bD.mp i;obtain⟨p,a,rs,rfl,_,_,_,m,n⟩:=h.ls f d;obtain⟨r,j⟩:∃r,r∈rs:=by
   cases rs with
   |nil=>exact absurd Z m
   |cons r _=>exact⟨r,br⟩
  obtain⟨u,e,o⟩:=k p r ((n r).mp j);exact bB (nZ.mpr ⟨_,e,o⟩)
 rw[bd,bd] at q;have e:∀l:List (Int×List aO),(∀y∈l,Ws y.2)->(l.flatMap λy=>y.2.map (·.1)).length<=63*l.length:=by
  intro l;induction l with
  |nil=>intro _;simp
  |cons y l ih =>
   intro c;rw[List.flatMap_cons,bx,bd,bU];have:=(c y br).le;have:=ih λz g=>c z (bp _ g);lia
 have:=e l c;lia
def lyI(m g d rk:L)(b:Int)(G:L->Prop)(P:Pl->Int->Prop)(h:List aO)(H:D)(i:Nat)(c:St)(a:D):Prop:=(∃e,c=[U (.ref m),U (.int b),U (.ref g),U (.ref d),e])/\hV G rk H a/\Dm H a/\∃f,tz a rk G (λp r=>P p r\/(r=b/\p∈(h.take i).map (·.1))) f
theorem JT(p:Pl)(b:Int)(y:Int×List aO):∀(l:List (Int×List aO)) (s:Int×Int),va p b (l++[y]) s=(if (va p b l s).1<y.1/\y.1<b then JG p y.1 y.2 (va p b l s) else va p b l s)
 |[],s=>rfl
 |a::t,s=>by rw[dE,va,JT p b y t,va]
section
variable {g g':List aO}{l l2:List (Int×List aO)}{p:Pl}{ac low w w':Int}{y y':Int×List aO}
def Top(l:List (Int×List aO))(p:Pl)(ac:Int)(y:Int×List aO)(w:Int):Prop:=y∈l/\zC y.2 p=U w/\y.1<ac/\∀z∈l,z.1<ac->zC z.2 p≠am->z.1<=y.1
theorem vR(g:List aO)(b:∀y∈l,0<=y.1)(p:Pl)(ac:Int):(∃y w,Top l p ac y w/\ye g l p ac=w)\/((∀y∈l,y.1<ac->zC y.2 p=am)/\ye g l p ac=(zC g p).getD 0):=by
 unfold ye;rcases x9 p ac l (-1,(zC g p).getD 0) with ⟨e1,e2⟩|⟨y,a,w,e1,e2,e3,e4,e5⟩
 .exact .inr ⟨λy a c=>e2 y a (by have:=b y a;show (-1:Int)<y.1;lia) c,by rw[e1]⟩
 .exact .inl ⟨y,w,⟨a,e1,e2,e5⟩,by rw[e4]⟩
theorem Top.uniq(f:(l.map (·.1)).Nodup)(d:Top l p ac y w)(c:Top l p ac y' w'):w=w':=by
 have a:=d.2.2.2 y' c.1 c.2.2.1 (by rw[c.2.1];exact λz=>nomatch z);have b:=c.2.2.2 y d.1 d.2.2.1 (by rw[d.2.1];exact λz=>nomatch z);have e:y=y':=JS f d.1 c.1 ();subst e;exact bH (d.2.1.symm.trans c.2.1)
theorem Ww(g:List aO)(a:∀y∈l,0<=y.1)(b:(l.map (·.1)).Nodup)(h:Top l p ac y w):ye g l p ac=w:=by
 rcases vR g a p ac with ⟨y',w',h',e⟩|⟨h',e⟩
 .rw[e];exact h'.uniq b h
 .have:=h' y h.1 h.2.2.1;rw[h.2.1] at this;cases this
theorem JU(g:List aO)(a:∀y∈l,0<=y.1)(h:∀y∈l,y.1<ac->zC y.2 p=am):ye g l p ac=(zC g p).getD 0:=by
 rcases vR g a p ac with ⟨y',w',h',e⟩|⟨h',e⟩
 .have:=h y' h'.1 h'.2.2.1;rw[h'.2.1] at this;cases this
 .exact e
theorem zg0(i:∀y∈l,0<=y.1)(m:(l.map (·.1)).Nodup)(a:∀y∈l2,0<=y.1)(b:(l2.map (·.1)).Nodup)(h:∀y,y.1<ac->(y∈l↔y∈l2)):ye g l p ac=ye g l2 p ac:=by
 rcases vR g i p ac with ⟨y,w,t,e⟩|⟨t,e⟩
 .rw[e];exact(Ww g a b ⟨(h y t.2.2.1).mp t.1,t.2.1,t.2.2.1,λz j c f=>t.2.2.2 z ((h z c).mpr j) c f⟩).symm
 .rw[e];exact(JU g a λy k d=>t y ((h y d).mpr k) d).symm
theorem Wx(a:∀y∈l,0<=y.1)(j:(l.map (·.1)).Nodup)(n:(zC g' p).getD 0=ye g l p low)(h:low<=ac):ye g' (l.filter λy=>decide (low<=y.1)) p ac=ye g l p ac:=by
 have d:∀y∈l.filter λy=>decide (low<=y.1),0<=y.1:=λy f=>a y (bQ.mp f).1;have m:∀z∈l,low<=z.1->z∈l.filter λy=>decide (low<=y.1):=λz b hl=>bQ.mpr ⟨b,Bj hl⟩;rcases vR g' d p ac with ⟨y,w,t,e⟩|⟨t,e⟩
 .rw[e];have k:low<=y.1:=of_decide_eq_true (bQ.mp t.1).2;refine(Ww g a j ⟨(bQ.mp t.1).1,t.2.1,t.2.2.1,λz b i c=>?_⟩).symm;rcases i9 z.1 low with hl|hl
  .lia
  .exact t.2.2.2 z (m z b hl) i c
 .rw[e,n];rcases vR g a p ac with ⟨y,w,t2,e2⟩|⟨t2,e2⟩
  .rw[e2];have k:y.1<low:=by
    rcases i9 y.1 low with hl|hl
    .exact hl
    .have:=t y (m y t2.1 hl) t2.2.2.1;rw[t2.2.1] at this;cases this
   exact Ww g a j ⟨t2.1,t2.2.1,k,λz b i c=>t2.2.2.2 z b () c⟩
  .rw[e2];exact JU g a λy f o=>t2 y f ()
theorem zg3(h:low<=ac):((yZ l ac gs).filter λy=>decide (low<=y.1))=yZ (l.filter λy=>decide (low<=y.1)) ac gs:=by
 unfold yZ;rw[iG,gp,gp];have e:nQ (λy:Int×List aO=>decide (low<=y.1)) [(ac,gs)]=[(ac,gs)]:=by simp[h]
 rw[e];congr 1;exact eZ λy _=>Bool.and_comm _ _
end
theorem zg4{l:List (Int×List aO)}{a low:Int}(h:low<=a):Y6 (yZ l a gs) low=Y6 l low:=by
 unfold Y6 yZ;rw[iG,gp];have e:([(a,gs)].filter λy:Int×List aO=>decide (y.1<low))=[]:=by
  rw[cp,ao (by rw[decide_eq_true_eq];show ¬ a<low;lia)];rfl
 rw[e,gy];refine congrArg (λz:List (Int×List aO)=>(z.map λy=>y.2.length).sum) (eZ λy _=>?_);rw[e9,bX,decide_eq_true_eq,decide_eq_true_eq];exact⟨λz=>z.1,λz=>⟨z,()⟩⟩
theorem JV(l:List (Int×List aO))(a:Int):Y6 l a+((l.filter λy=>decide (a<=y.1)).map λy=>y.2.length).sum=(l.map λy=>y.2.length).sum:=by
 unfold Y6;induction l with
 |nil=>rfl
 |cons y l ih =>
  rw[cp,cp,bh,bZ,<-ih];by_cases c:y.1<a
  .rw[au (Bj c),ao (by rw[decide_eq_true_eq];lia),bh,bZ];lia
  .rw[ao (by rw[decide_eq_true_eq];exact c),au (Bj ()),bh,bZ];lia
theorem zZ{e:St}{i:Nat}{x C d:L}{b:List (Str×V)}{f:Str}{R:V->Prop}(h:H x=U (.ins C d b))(c:ua K C)(n:aQ K C f)(j:e[i]?=U (U (.ref x)))(g:b.lookup f=U v)(q:R v):∃y,e[i]?=U (U y)/\∃a C d b v,y=.ref a/\H a=U (.ins C d b)/\ua K C/\aQ K C f/\b.lookup f=U v/\R v:=⟨_,j,x,C,d,b,v,Z,h,c,n,g,q⟩
theorem xg{d:St}{i:Nat}{x C c:L}{b:List (Str×V)}{R:V->Prop}(f:H x=U (.ins C c b))(g:d[i]?=U (U (.ref x)))(e:b.lookup m=am)(q:R (.ref x)):∃y,d[i]?=U (U y)/\∃a c b,y=.ref a/\H a=U (.ins C c b)/\b.lookup m=am/\R y:=⟨_,g,x,c,b,Z,f,e,q⟩
theorem zjT{P a:Prop}(f:a->P)(u:a):P:=f u
theorem ya{P R:Prop}(h:b=aq)(r:R):if b=ak then P else R:=by rw[ao (by rw[h];decide)];exact r
theorem ym{P R:Prop}(h:b=ak)(p:P):if b=ak then P else R:=by rw[au h];exact p
theorem mB{i j:Int}(a:-10000000000000000000000000000000000000000000000<i)(b:i<10000000000000000000000000000000000000000000000)(c:-10000000000000000000000000000000000000000000000<j)(d:j<10000000000000000000000000000000000000000000000):CMulB i j:=by
 have e:(10000000000000000000000000000000000000000000000:Int)<big:=by lia
 exact⟨⟨(),()⟩,(),()⟩
def drI(c:Int)(m:Nat)(l:L)(f:D)(i:Nat)(b:St)(H:D):Prop:=∃(a:List Int) (x y:Int),(∃e,b=[U (.int c),U (.int (m:Nat)),U (.ref l),U (.int x),U (.int y),e])/\aL f H/\H l=U (.lst (a.map V.int))/\a.length=i/\(∀d∈a,okD d)/\0<=x/\x<1000100/\0<=y/\y<1000100
theorem mS{i j:Int}(a:0<=i)(b:i<1000100)(c:0<=j)(d:j<1000100):CMulB i j:=mB () () () ()
theorem KL{k:Int}(c:σ[i]?=U (U (.ref p)))(b:H p=U (.lst xs))(a:uq xs k=U v)(q:Q v H):aN (xj K) (B i) (tC (.int k)) σ H Q:=⟨_,c,p,xs,k,v,Z,Z,aT.of b,a,q⟩
theorem zaP{σ:St}{te:TE}{y n:Int}(b:∀Q:VK,Q (.int y) H->te σ H Q)(a:0<n)(q:∀k,0<=k->k<n->Q (.int k) H):aN ad te (tC (.int n)) σ H Q:=b _ ⟨_,_,Z,Z,a,q _ (cK _ ()) (cw _ a)⟩
theorem JW{A:List V}{_E:XK}(h:xJ A H Q _E) :
  YB K t (mt Q) (zZZ 6 A) H:=by
 obtain⟨c,m,rfl,hm,q⟩:=h;refine⟨(),λl s=>?_⟩;generalize c_:upd H l _=H0;obtain⟨G,N⟩:=yQ c_ s;unfold zt zS zv;show aN ad (B 0) (tC (.int 1000003)) _ _ _;refine zaP (λ_ q=>⟨_,Z,q⟩) () λe a1 a2=>⟨_,_,Z,Z,?_⟩;show aN ad (aN aF (B 0) (tC (.int 1000003))) (tC (.int 999983)) _ _ _;refine zaP (λ_ q=>⟨_,Z,_,_,Z,Z,dB,q⟩) () λb a3 a4=>⟨_,_,Z,Z,?_⟩;refine⟨_,Z,m,Z,(),(),YW (drI c m l H) ⟨[],e+17,b+29,⟨_,Z⟩,G,N,Z,(λd z=>nomatch z),(),(),(),()⟩ ?_ ?_⟩
 .rintro i E C M ⟨u,x,y,⟨I,rfl⟩,n,g,r,o,e,w,b,v⟩;have M:i<m:=by lia
  show aN _ _ (tC (.int 1000003)) _ _ _;refine zaP (λ_ q=>⟨_,Z,_,Z,_,_,Z,Z,mS e w e w,_,Z,_,_,Z,Z,mS () () b v,_,_,Z,Z,_,Z,_,_,Z,Z,q⟩) () λk f T=>?_;have a:k<1000100:=by lia
  dsimp only;refine zaP (λ_ q=>⟨_,Z,_,Z,_,_,Z,Z,mS b v f a,_,Z,_,_,Z,Z,mS () () f a,_,_,Z,Z,_,_,Z,Z,q⟩) () λj J O=>?_;have p:j<1000100:=by lia
  refine⟨_,Z,.inl ⟨Z,_,aT.of g⟩,_,Z,_,_,Z,Z,mS f a () (),_,Z,_,_,Z,Z,l,_,_,Z,Z,g,ca (by rw[bd];lia:_<=63) (),u++[k*999983+j],k,j,⟨_,Z⟩,xU n s,by rw[bN];exact zj,by rw[bx,r];rfl,λd hd=>?_,f,a,J,p⟩;rcases bu.mp hd with hd|hd
  .exact o d hd
  .rw[bn.mp hd];exact⟨(),()⟩
 .rintro E C ⟨u,x,y,⟨I,rfl⟩,n,g,r,o,_⟩;exact⟨_,Z,q l u C n s g (by simpa using r) o⟩
theorem zjU{n:Int}:tK (n*1000000021000000147000000343%2000000000000000000000000000001-1000000000000000000000000000000)=ak:=by
 have c:=cK (n*1000000021000000147000000343) (b:=2000000000000000000000000000001) ();have a:=cw (n*1000000021000000147000000343) (b:=2000000000000000000000000000001) ();exact uv.mpr ()
theorem ziw:∀v∈jw++wl,(match v with|.str w=>yY (w++bf "z")|_=>aq)=ak:=by lia
theorem zix(h:smW w)(f:inV (.str w) jw=aq)(e:inV (.str w) wl=aq):yY w=ak:=by
 obtain⟨b,g,a⟩:=h;have d:decide (w="")=aq:=Bk λz=>by rw[z] at b;exact absurd b ()
 have c:decide (6<w.length)=aq:=Bk ();unfold yY;unfold XE at a;rw[f,e,a,d,c];rfl
theorem zkD(h:inV (.str w) (jw++wl)=ak):yY (w++bf "z")=ak:=by
 unfold inV at h;obtain⟨v,a,e⟩:=lz.mp h;have z:=ziw v a;cases v <;> simp only[eqV,cy] at e;rename_i y;have b:y=w:=by simpa using e
 subst b;exact z
theorem zed :inV v (a++b)=(inV v a || inV v b):=by unfold inV;rw[List.any_append]
section
variable {n:Int}{a:L}{ws:List Str}{x:Str}
theorem zg5{k:Int}(h:okD n)(c:0<k):okD (n/k):=by
 obtain⟨a,b⟩:=h;have d:=Int.ediv_nonneg a (rY c);have e:=Int.ediv_le_self (a:=n) k a;exact⟨d,()⟩
theorem lx(h:yY x=ak):aY [.str x]/\tmP [.str x]:=XX (.inr ⟨x,Z,h⟩)
theorem zaQ{b:St}{j:Nat}{c:TE}{r:Int}(d:tu H a ws)(i:ws.length=2)(k:b[j]?=U (U (.ref a)))(g:∀Q:VK,Q (.int r) H->c b H Q)(h:∀x,yY x=ak->Q (.str x) H):aN (xj K) (B j) (aN ad c (tC (.int 2))) b H Q:=by
 obtain⟨x,f,_,e⟩:=zcc d 2 i () r;exact⟨_,k,g _ ⟨_,_,Z,Z,(by lia:(0:Int)<2),_,_,_,_,Z,Z,aT.of d.1,f,h x e⟩⟩
theorem zce{k:Int}(d:yF n k)(b:σ[0]?=U (U (.int n)))(Q:VK)(q:Q (.int (n/k)) H):aN aF (B 0) (tC (.int k)) σ H Q:=⟨_,b,_,_,Z,Z,d,q⟩
theorem tm3(a:aY [u]/\tmP [u])(b:aY [v]/\tmP [v])(j:wdJ w):aY [u,v,.str w]/\tmP [u,v,.str w]:=⟨QS a.1 b.1 j (by simp),zea a.2 b.2 j⟩
theorem KM{j:List V}{_E:XK}(h:je j H Q _E) :
  qF K t (mt Q) (zZZ 3 j) H:=by
 obtain⟨n,a,ws,rfl,z,g,f,q⟩:=h;have d:wdJ (bf "over"):=⟨(),(),()⟩;have c:wdJ (bf "rest"):=⟨(),(),()⟩;unfold qF zt zW Xe zS;refine zaP (λ_ q=>⟨_,Z,q⟩) () λk v u=>?_;have fin:∀ {e:List V} {i:D},aL H i->e.length<=3->aY e/\tmP e->e.length<=Bb/\∀p,i p=am->Q (.ref p) (upd i p (.tup e)):=λs l h=>⟨bM l (),λp m=>q p _ _ (s.trans (tM p m)) (zH s m) zj h.1 h.2⟩;refine⟨_,Z,_,_,Z,Z,_,Z,Xh (λ_=>zaP (zce dB Z) () λk v u=>fin (aL.refl _) (by lia:1<=3) (XX (.inl ⟨_,Z,uv.mpr ()⟩))) λ_=>⟨_,Z,Z,_,Z,Xh (λ_=>zaQ g f Z (zce dB Z) λx b=>fin (aL.refl _) (by lia:1<=3) (lx b)) λ_=>?_⟩⟩;refine zjT (λr=>⟨_,Z,Z,_,Z,Xh (λ_=>⟨_,Z,_,_,Z,Z,dB,_,_,Z,Z,(by lia:(0:Int)<3),Z,_,Z,Xh (λ_=>zaQ g f Z (zce dB Z) λx b=>fin (aL.refl _) (bo 3) (tm3 (XX (.inl ⟨7,Z,()⟩)) (lx b) d)) λ_=>r⟩) λ_=>r⟩) ?_;have o:=zg5 (k:=5) z ();exact⟨_,Z,Z,_,Z,Xh (λ_=>zaQ g f Z (zce dB Z) λx b=>fin (aL.refl _) (bo 3) (tm3 (lx b) (XX (.inl ⟨3,Z,()⟩)) c)) λ_=>⟨_,Z,_,_,Z,Z,dB,_,Z,o.1,o.2,λw A y s=>fin s (by lia:1<=3) (XX (.inl ⟨_,Z,y⟩))⟩⟩
def tw8:List V:=[V.str (bf "plus"),V.str (bf "minus"),V.str (bf "times"),V.str (bf "over"),V.str (bf "rest"),V.str (bf "under"),V.str (bf "same")]
theorem zjV{i:Int}(e:0<=i)(d:i<7):∃w:Str,uq tw8 i=U (.str w)/\wdJ w:=by
 obtain⟨x,c,b⟩:=zd2 (xs:=tw8) (i:=i) e d;unfold tw8 at b;simp only[bw,cC,or_false] at b;rcases b with rfl|rfl|rfl|rfl|rfl|rfl|rfl <;> exact⟨_,c,(),(),()⟩
theorem KN{v:List V}{_E:XK}(h:wN v H Q _E) :
  qG K t (mt Q) (zZZ 4 v) H:=by
 obtain⟨n,a,ws,rfl,I,b,f,q⟩:=h;have fin:∀ {e:List V} {m:D},aL H m->e.length<=3->aY e/\tmP e->e.length<=Bb/\∀p,m p=am->Q (.ref p) (upd m p (.tup e)):=λs l h=>⟨bM l (),λp G=>q p _ _ (s.trans (tM p G)) (zH s G) zj h.1 h.2⟩;unfold qG zt zW zS;refine⟨(by lia:7<=Bb),λl M=>?_⟩;generalize c_:upd H l _=H0;obtain⟨c,g⟩:=yQ c_ M;have g:H0 l=U (.lst tw8):=g;have b:=b.same c;have o:=zg5 (k:=9) I ();have A:=zg5 (k:=36) I ();refine zaP (σ:=[U (.int n),U (.ref a),U (.ref l),am]) (te:=B 0) (n:=9) (λ_ q=>⟨_,Z,q⟩) () λk T O=>?_;refine⟨_,Z,Z,_,Z,Xh (λ_=>⟨_,Z,_,_,Z,Z,dB,_,Z,o.1,o.2,λw N j s=>fin (c.trans s) (by lia:1<=3) (XX (.inl ⟨_,Z,j⟩))⟩) λu=>⟨_,Z,Z,_,Z,Xh (λ_=>zaQ b f Z (zce dB Z) λx d=>fin c (by lia:1<=3) (lx d)) λr=>?_⟩⟩;have u:k≠0:=λe=>u (Bj (congrArg V.int e));have r:k≠1:=λe=>r (Bj (congrArg V.int e));obtain⟨y,E,C⟩:=zjV (i:=k-2) () ();exact⟨_,Z,_,_,Z,Z,dB,_,_,Z,Z,(by lia:(0:Int)<2),Z,_,Z,Xh (λ_=>zaQ b f Z (zce dB Z) λx d=>⟨_,Z,_,_,Z,Z,dB,_,Z,A.1,A.2,λw N j s=>⟨_,Z,_,Z,_,_,Z,Z,_,_,_,_,Z,Z,aT.of (s _ _ g),E,fin (c.trans s) (bo 3) (tm3 (lx d) (XX (.inl ⟨_,Z,j⟩)) C)⟩⟩) λ_=>zaQ b f Z (zce dB Z) λx d=>zaQ b f Z (zce dB Z) λz J=>⟨_,Z,_,Z,_,_,Z,Z,_,_,_,_,Z,Z,aT.of g,E,fin c (bo 3) (tm3 (lx d) (lx J) C)⟩⟩
end
def abc:Str:="abcdefghijklmnopqrstuvwxyz"
theorem zjW:∀c∈abc.cps.toList,inL c=ak:=by lia
theorem zg6{e:Int}(f:0<=e)(d:e<26):∃c,uq abc.cps.toList e=U c/\inL c=ak:=by
 obtain⟨v,b,a⟩:=zd2 (xs:=abc.cps.toList) (i:=e) f (by rw[show abc.cps.toList.length=26 from by lia];exact d);exact⟨v,b,zjW v a⟩
def zkW(v:V):Prop:=∃c,v=.str ⟨#[c]⟩/\inL c=ak
theorem zcf:∀ {ls:List Str},(∀x∈ls,∃c,x=⟨#[c]⟩/\inL c=ak)->((ls.map λp=>p.cps.toList).flatten).length=ls.length/\((ls.map λp=>p.cps.toList).flatten).all inL=ak/\(ls.map (·.length)).sum=ls.length
 |[],_=>⟨Z,Z,Z⟩
 |x::ls,h=>by
  obtain⟨c,rfl,g⟩:=h x br;obtain⟨a,b,d⟩:=zcf (ls:=ls) λy f=>h y (bp _ f);have e:((⟨#[c]⟩:Str)::ls).length=ls.length+1:=rfl;refine⟨?_,?_,?_⟩
  .rw[bh,rF,bx,a,e];show 1+ls.length=_;lia
  .rw[bh,rF,sM,b];show ([c].all inL&&ak)=ak;simp[g]
  .rw[bh,bZ,d,zd3,e];lia
section
variable {c:Int}{x y:Str}
theorem zee(h:yY x=ak):smW x:=by
 unfold yY at h;simp only[bX,mY,lG,decide_eq_false_iff_not] at h;obtain⟨⟨⟨b,d⟩,_⟩,a⟩:=h;refine⟨?_,(),a⟩;cases z:x.length with
 |zero =>
  exfalso;apply b;obtain⟨⟨l⟩⟩:=x;have:l.length=0:=z;rw[List.length_eq_zero_iff.mp this];rfl
 |succ n=>lia
theorem ze4{k:Nat}{A:Option V}(i:yY x=ak)(J:k<x.length){d:Nat}(G:inL d=ak)(q:∀n o a,aL H a->H n=am->tu a n o->o.length=2->Q (.ref n) a) :
  jx K t (mt Q) [U (.int c),U (.str "abcdefghijklmnopqrstuvwxyz"),A,U (.str x),U (.int (k:Nat)),U (.str ⟨#[d]⟩)] H:=by
 obtain⟨N,M,j⟩:=zee i;have I:=zd3 d;have m:=zgQ G;have fin:∀ {u v:Str} {l:D},yY u=ak->yY v=ak->aL H l->2<=Bb/\∀p,l p=am->Q (.ref p) (upd l p (HO.lst [.str u,.str v])):=λ{u v l} E C s=>⟨(),λp r=>q p [u,v] _ (s.trans (tM p r)) (zH s r) ⟨zj,λw hw=>by
  rcases bw.mp hw with e|hw
  .rw[e];exact E
  .rw[bn.mp hw];exact C⟩ Z⟩
 have h:x.length<=Bb:=xl ();unfold jx zt zW Xe;refine zjT (λg=>⟨_,Z,_,_,Z,Z,dB,_,_,Z,Z,(by lia:(0:Int)<3),Z,_,Z,Xh (λ_=>⟨_,Z,_,_,Z,⟨h,Z⟩,_,_,Z,Z,_,Z,Xh (λf=>⟨_,Z,_,Z,_,Z,_,_,Z,Z,xl (by have:=of_decide_eq_true f;lia),_,Z,⟨by rw[v7];lia,by have:=of_decide_eq_true f;rw[v7];lia,XV j m⟩,λz a b s=>fin i b s⟩) λ_=>g⟩) λ_=>g⟩) ?_;refine zjT (λg=>⟨_,Z,_,_,Z,Z,dB,_,_,Z,Z,(by lia:(0:Int)<3),Z,_,Z,Xh (λ_=>⟨_,Z,_,_,Z,⟨h,Z⟩,_,_,Z,Z,_,Z,Xh (λf=>⟨_,Z,_,Z,_,_,Z,Z,xl (by have:=of_decide_eq_true f;lia),_,Z,⟨by rw[v7];lia,by have:=of_decide_eq_true f;rw[v7];lia,XV m j⟩,λz a b s=>⟨_,Z,fin b i s⟩⟩) λ_=>g⟩) λ_=>g⟩) ?_;have T:=zjK x k ();have O:=zgR x (k+1);have e:((k:Int)+1)=((k+1:Nat):Int):=by lia
 refine⟨_,Z,_,Z,_,Z,_,Z,_,Z,h,_,Z,_,_,Z,Z,xl (),_,Z,_,Z,_,_,Z,Z,_,Z,_,Z,h,_,_,Z,Z,?_⟩;rw[e];exact⟨xl (by rw[v7];lia),_,Z,⟨by rw[v7,v7];lia,by rw[v7,v7];lia,XV (XV (zin j k) m) (ze3 j (k+1))⟩,λz a b s=>fin i b s⟩
end
section
variable {fo:Int}
theorem zi4(h0:σ[k]?=U (U (.ref d)))(hc:Kq [k] σ=[U (.ref d)])(hd:H d=U (.dT (tF aK)))(hl:(tF aK).length<=63)(ht:∀(p:L) (q:Pl) (w:Int) (e:D) (A Bn:D->Prop),zC aK q=U w->tP e d (.ref p) (U (.int w))->(w≠0->A e)->(w=0->Bn e)->tt [U (.ref p),U (.ref d)] e λb H3=>if b=ak then A H3 else Bn H3)(q:∀l a e,aL H e->H l=am->tN e l a->zbG aK a->a.length<=(tF aK).length->Q (.ref l) e) :
  vG (wF K (tJ zdT (zd (B k) zk))) (zv 0) tt (xi (zd (B 0) (zd (jM (B 1) (B 0)) zk))) 1 [k] σ H Q:=by
 obtain⟨qs,u,ae,r⟩:=JO aK;refine⟨_,h0,d,tF aK,qs,Z,hd,u,(),λl j aa c N O=>?_⟩;generalize c_:upd H l _=H1;obtain⟨y,z⟩:=yQ c_ aa;have lp:j.length=(tF aK).length:=by
  have a1:=c.length_eq;have a2:=congrArg fT u;rw[bd] at a1;rw[bd,bd] at a2;lia
 refine⟨l,Z,⟨_,aT.of z⟩,λBq hD=>?_⟩;rw[hc];refine jG (J:=Itl K l) j.length () (λτ=>∃o,τ=[o,U (.ref d)]) (zjN aK (j.map (·.2))) (λi I H e s h=>zir s.1 h) ⟨_,Z⟩ ⟨[],.nil,Z⟩ (λi H s h=>⟨_,_,aT.of (s _ _ z),bb (by rw[bd];exact h)⟩) (λH s=>⟨_,aT.of (s _ _ z),by rw[bd];exact bo _⟩) hD ?_ ?_
 .rintro i v τ I H4 H5 ⟨o,rfl⟩ m hi hR _ ⟨rfl,E⟩;have E:=E _ (aT.of (m _ _ z));rw[bt] at E;obtain⟨n,T,rfl⟩:=bY.mp E;have hp:=m _ _ (y _ _ (O n (bJ T)));have hm:n.2∈qs:=c.mem_iff.mp (bB (bJ T));obtain⟨w,C⟩:=fN.mp ((r n.2).mp hm);have g:tP H5 d (.ref n.1) ((zC aK n.2).map V.int):=.inr ⟨tF aK,zB n.2,n.1,.inl (m _ _ (y _ _ hd)),Z,hp,(wK aK n.2).symm⟩;rw[C] at g;have tk:(j.map (·.2)).take (i+1)=(j.map (·.2)).take i++[n.2]:=by rw[cx,bt,T];rfl
  obtain⟨a,G,x⟩:=hR;refine ht n.1 n.2 w H5 _ _ C g (λM=>⟨_,Z,_,Z,_,Z,d,_,Z,g,by show 2<=Bb;rw[bL];decide,λp f=>⟨⟨_,Z⟩,?_,tM p f⟩⟩) λM=>⟨⟨_,Z⟩,?_,aL.refl _⟩
  .refine⟨a++[(n.2,w)],QR (jm (tM p f) G) ⟨p,n.1,Z,zj,tM p f _ _ hp⟩,?_⟩;rw[tk,oP,<-x];simp[JP,C,M]
  .refine⟨a,G,?_⟩;rw[tk,oP,<-x];simp[JP,C,M]
 .rintro I H4 ag ⟨a,G,x⟩ m hq;rw[b7 (by rw[bd];exact bo _)] at x;subst x;refine q Bq _ H4 (y.trans m) (zH y hD) ⟨I,hq,G⟩ (zjO N λp=>(c.mem_iff.trans (r p))) ?_;have:=List.length_filterMap_le (JP aK) (j.map (·.2));rw[bd] at this;lia
theorem zaR{e:List V}{_E:XK}(h:jX e H Q _E) :
  W8 K t (mt Q) (zZZ 2 e) H:=by
 obtain⟨a,aK,rfl,x,v,u,q⟩:=h;obtain⟨j,m,k⟩:=x;refine⟨_,Z,a,j,aK,Z,m,k,u,λd r=>?_⟩;generalize c_:upd H d _=H0;obtain⟨f,d0⟩:=yQ c_ r;refine zi4 (aK:=aK) Z Z d0 v (λp y w i A C _ g a b=>⟨_,Z,_,Z,d,_,Z,g,Z,_,Z,?_⟩) λl c i s o n T _=>q l c i (f.trans s) (zH f o) n T;by_cases w0:w=0
 .exact ya (by rw[w0];rfl) (b w0)
 .exact ym (by rw[Bk (λz=>w0 (V.int.inj z))];rfl) (a w0)
theorem zcg{f:Pl->Int}{p:Pl}:∀ {qs:List Pl},zC (qs.map λq=>(q,f q)) p=if p∈qs then U (f p) else am
 |[]=>rfl
 |q::qs=>by
  rw[bh,zC,zcg (qs:=qs)];by_cases h:p∈qs
  .rw[au h,au (bp _ h)];rfl
  .rw[ao h];by_cases e:q=p
   .subst e;rw[au Z,au br];rfl
   .rw[ao e,ao (λz=>(bw.mp z).elim (λy=>e y.symm) h)];rfl
def PlV(H:D)(v:V)(q:Pl):Prop:=∃p,v=.ref p/\H p=U (.tup [.str q.1,.int q.2])
theorem zaS:∀ {b:List V} {c:List (List aW×V)} {a:List Pl},Paired (zbU H) b c->c.map (·.1)=a.map zB->Paired (PlV H) b a
 |_,_,[],.nil,_=>.nil
 |_,_,_::_,.nil,e=>by cases e
 |_,_,[],.cons _ _,e=>by cases e
 |_,_,q::a,.cons ⟨p,e1,e2⟩ r,e=>by
  rw[bh,bh] at e;obtain⟨f,d⟩:=sX e;exact .cons ⟨p,e1,by rw[f] at e2;exact e2⟩ (zaS r d)
theorem zkE{f e:Type}{F:f->e->Prop}:∀ {a:List f} {b:List e} {c:List f} {d:List e},Paired F a b->Paired F c d->Paired F (a++c) (b++d)
 |_,_,_,_,.nil,h=>h
 |_,_,_,_,.cons h r,h2=>.cons h (zkE r h2)
def tfR(b:List aO)(i:Nat)(a:List V)(H:D):Prop:=Paired (PrAt H) a (b.take i)
section
variable {m:L}{ac:Int}{F:L->Prop}{g:List aO}{lays:List (Int×List aO)}
theorem ziy{k:L}{j:List V}{qs:List Pl}(h1:tO t H m F g lays fo)(h2:LoR fo ac)(n:H k=U (.lst j))(M:Paired (PlV H) j qs)(le:qs.length<=63) (q:∀l a d,aL H d->H l=am->tN d l a->zbG (qs.map λq=>(q,ye g lays q ac)) a->Q (.ref l) d) :
  vK K t (mt Q) [U (.ref m),U (.int ac),U (.ref k)] H:=by
 have ly:=bE M;obtain⟨b,E⟩:∃b,b=qs.map λq=>(q,ye g lays q ac):=⟨_,Z⟩;have lr:b.length=qs.length:=by rw[E,bd]
 rw[<-E] at q;refine⟨_,Z,k,Z,⟨_,aT.of n⟩,λBq hD=>?_⟩;refine jG (J:=Itl K k) j.length () (λG=>∃o,G=[o,U (.ref m),U (.int ac)]) (tfR b) (λi j H d s h=>Paired.mapP h λ_ _ z=>L2.PrAt.tsame z s.1) ⟨_,Z⟩ .nil (λi H s h=>⟨_,_,aT.of (s _ _ n),bb h⟩) (λH s=>⟨_,aT.of (s _ _ n),bo _⟩) hD ?_ ?_
 .rintro i v G I H4 H5 ⟨o,rfl⟩ c hi f _ ⟨rfl,x⟩;have x:=x _ (aT.of (c _ _ n));obtain⟨w,A,p,rfl,N⟩:=Paired.getP M x;have e:=h1.same c;obtain⟨dx,fs,i1,i2,T,i4⟩:=e.ins;refine ym (R:=False) Z ⟨_,Z,xg i1 Z T ⟨_,Z,_,Z,m,p,ac,F,g,lays,fo,w,Z,e,h2,c _ _ N,λH6 u=>⟨by show 2<=Bb;rw[bL];decide,λr y=>⟨⟨_,Z⟩,?_,u.trans (tM r y)⟩⟩⟩⟩;have O:b.take (i+1)=b.take i++[(w,ye g lays w ac)]:=by rw[cx,E,bt,A];rfl
  unfold tfR;rw[O];exact Paired.snocP (Paired.mapP f λ_ _ z=>L2.PrAt.same z (u.trans (tM r y))) ⟨r,p,Z,zj,(c.trans (u.trans (tM r y))) _ _ N⟩
 .intro I H4 aa f c hq;unfold tfR at f;rw[b7 ()] at f;have ld:=vo b;exact⟨Bq,b,Z,⟨I,hq,f⟩,(),(),λl a d s C ho ht=>q l a d (c.trans s) (zH c C) ho ht⟩
theorem Yp{vs:List V}{_E:XK}(G:MkF K t)(h:y9 t vs H Q _E) :
  jB K t (mt Q) (zZZ 3 vs) H:=by
 obtain⟨m,ac,F,g,lays,fo,rfl,C,h2,h3,q⟩:=h;obtain⟨k,M,gn,i1⟩:=C.ex;obtain⟨dx,gr,wo,rk,wk,v,c⟩:=M.ex;obtain⟨gs,e1,_,gm⟩:=JO k;obtain⟨ks,E⟩:∃ks:List Pl,v.map (·.1)=ks.map zB:=by
  have:=c.rr.ls;clear c M;induction v with
  |nil=>exact⟨[],Z⟩
  |cons kv v ih =>
   obtain⟨ks,e⟩:=ih λx hx=>this x (bp _ hx);obtain⟨p,a,rs,rfl,_⟩:=this kv br;exact⟨p::ks,by rw[bh,bh,e]⟩
 have kn:ks.Nodup:=xH (f:=zB) (by rw[<-E];exact c.rr.nk);have kp:∀p∈ks,p∈(lays.filter λy=>decide (fo<=y.1)).flatMap λy=>y.2.map (·.1):=λp d=>by
  have:zB p∈v.map (·.1):=by rw[E];exact bB d
  obtain⟨kv,ai,e⟩:=bD.mp this;obtain⟨p',a,rs,rfl,_,_,_,hn,hi⟩:=c.rr.ls kv ai;obtain rfl:p'=p:=yU e;obtain⟨r,hr⟩:=List.exists_mem_of_ne_nil _ hn;obtain⟨gs,hg,ag⟩:=(hi r).mp hr;exact nZ.mpr ⟨_,hg,ag⟩
 have l2:=xI kn kp;rw[pP] at l2;have l1:=vo k;have l6:=JV lays fo;have l3:g.length+(lays.map λy=>y.2.length).sum<=63:=h3;have l4:(tF k).length=gs.length:=by have:=congrArg fT e1;rw[bd,bd] at this;exact this
 have l5:((lays.filter λy=>decide (fo<=y.1)).map λy=>(y.2.map (·.1)).length)=(lays.filter λy=>decide (fo<=y.1)).map λy=>y.2.length:=dC λy _=>bd ..;rw[l5] at l2;refine⟨_,Z,m,_,_,Z,c.im,vb (),_,Z,m,_,_,_,_,Z,c.im,zjQ,h2.2,λH1 s1=>?_⟩;have i:=c.keep M.me λb o _ e=>s1 _ _ e;refine(zZ i.im G.cl G.g Z zkC ⟨gr,_,Z,i.hg,λa1 J an ae=>?_⟩);generalize c_:upd H1 a1 _=H2;obtain⟨O,q2⟩:=yQ c_ an;have n:=i.keep M.me λb o _ e=>O _ _ e;refine(zZ n.im G.cl G.r Z zgW ⟨rk,_,Z,n.rr.at_,λa2 I al aa=>?_⟩);generalize c2:upd H2 a2 _=H3;obtain⟨u,q3⟩:=yQ c2 al;have p1:Paired (PlV H3) J gs:=zaS (Paired.mapP ae λ_ _ ⟨p,e,h⟩=>⟨p,e,(O.trans u) _ _ h⟩) e1;have p2:Paired (PlV H3) I ks:=zaS (Paired.mapP aa λ_ _ ⟨p,e,h⟩=>⟨p,e,u _ _ h⟩) E;have n1:=bE p1;have n2:=bE p2;refine⟨a1,a2,_,_,Z,Z,u _ _ q2,q3,xl (),λa3 aj=>?_⟩;generalize c3:upd H3 a3 _=H4;obtain⟨N,q4⟩:=yQ c3 aj;have S4:=s1.trans (O.trans (u.trans N));refine ziy (qs:=gs++ks) (C.same S4) h2 q4 (zkE (Paired.mapP p1 λ_ _ ⟨p,e,h⟩=>⟨p,e,N _ _ h⟩) (Paired.mapP p2 λ_ _ ⟨p,e,h⟩=>⟨p,e,N _ _ h⟩)) (by rw[bx];lia) λl T H' s hl ho ht=>q l T H' (S4.trans s) (zH S4 hl) ho ⟨ht.1,λp w=>?_⟩;rw[ht.2 p w,zcg];by_cases d:p∈gs++ks
 .rw[au d];exact⟨λz=>⟨bH z.1,z.2⟩,λz=>⟨by rw[<-z.1],z.2⟩⟩
 .rw[ao d];refine⟨λz=>(nomatch z.1),λz=>absurd ?_ z.2⟩;rw[bu,not_or] at d;have z1:ye g lays p ac=w:=z.1;rw[<-z1,<-Wx (λy A=>(C.ok y A).1) C.nd (i1 p) h2.2];unfold ye;rcases x9 p ac (lays.filter λy=>decide (fo<=y.1)) (-1,(zC k p).getD 0) with ⟨e,_⟩|⟨y,A,w,e,_⟩
  .rw[e];cases e:zC k p with
   |none=>rfl
   |some w=>exact absurd ((gm p).mpr (by rw[e];rfl)) d.1
  .have:=c.rr.al p y.1 ⟨y.2,A,(xz (M.ok y A).2.nd).mpr (by rw[e];exact λz=>nomatch z)⟩;rw[E] at this;obtain⟨p',j,e3⟩:=bD.mp this;rw[yU e3] at j;exact absurd j d.2
end
end
def tbI(c:Int)(a x d:L)(j:D)(i:Nat)(f:St)(e:D):Prop:=∃b:List aO,(∃h g,f=[U (.int c),U (.ref a),U (.ref x),U (.ref d),h,g])/\aL j e/\e d=U (.dT (tF b))/\b.length<=i/\∀r∈b,cS r.1.1=ak/\tK r.2=ak/\r.2≠0
theorem JX{vs:List V}{_E:XK}(h:vq vs H Q _E) :
  YC K t (mt Q) (zZZ 6 vs) H:=by
 obtain⟨c,a,ws,rfl,h1,h2,q⟩:=h;refine⟨_,Z,c,10,Z,(),λx f H1 I fx hx ld od d hd=>?_⟩;have g1:=cK c (b:=6) ();have g2:=cw c (b:=6) ();have g:=tM (o:=HO.dT []) d hd;have S2:=I.trans g;have fd:=zH I hd;refine⟨_,Z,_,_,Z,Z,by show (0:Int)<6;decide,c%6,Z,(),(),YW (tbI c a x d H1) ⟨[],⟨_,_,Z⟩,g,zj,bo _,λ_ z=>nomatch z⟩ ?_ ?_⟩
 .rintro i σ G hi ⟨aK,⟨o1,o2,rfl⟩,s,M,hl,y⟩;rw[Int.zero_add];have lm:(f.map V.int).length=f.length:=bd ..;have n:aT K G x (f.map V.int):=aT.of (s _ _ hx);have C:=h1.same (I.trans s);have i6:i<6:=by lia
  have E:∀ {j:Nat},j<10->uq (f.map V.int) ((j:Nat):Int)=U (.int (f.getD j 0))/\okD (f.getD j 0):=λ{j} J=>by
   have J:j<f.length:=by lia
   have e:f.getD j 0=f[j]:=by rw[bF,bb J];rfl
   exact⟨xa (by rw[bt,bb J,e];rfl),by rw[e];exact od _ (dM J)⟩
  obtain⟨e5,o5⟩:=E (j:=i+5) ();obtain⟨e0,o0⟩:=E (j:=i) ();generalize f.getD (i+5) 0=u at *
  generalize f.getD i 0=v at *
  refine⟨_,Z,_,Z,_,_,Z,Z,x,_,((i+5:Nat):Int),_,Z,Z,n,e5,u,Z,o5.1,o5.2,λw H2 hw g=>⟨_,Z,Z,_,Z,?_⟩⟩;by_cases w0:w=0
  .exact ya (by rw[w0];rfl) ⟨aK,⟨_,_,Z⟩,s.trans g,g _ _ M,(),y⟩
  refine ym (by rw[Bk (λz=>w0 (V.int.inj z))];rfl) ?_;obtain⟨N,ae,_,aa⟩:=zcc (C.same g) 2 h2 () v;have m:=n.mono g;refine⟨_,Z,_,Z,_,Z,_,Z,_,Z,x,_,i,_,Z,Z,m,e0,_,_,Z,Z,by show (0:Int)<2;decide,a,_,v%2,_,Z,Z,aT.of (C.same g).1,ae,_,Z,_,Z,x,_,i,_,Z,Z,m,e0,_,_,Z,Z,dB,_,_,Z,Z,by show (0:Int)<3;decide,by show 2<=Bb;rw[bL];decide,λp hp=>?_⟩;have s5:=tM (o:=HO.tup [V.str N,V.int (v/2%3)]) p hp;have S5:=g.trans s5;have lD:=vo aK;refine⟨d,_,Z,DPut.t (k:=zB (N,v/2%3)) (S5 _ _ M) zj (ca (by lia:_<=900) ()),aK++[((N,v/2%3),w)],⟨_,_,Z⟩,xU (s.trans S5) hd,?_,by simp;lia,?_⟩
  .rw[Zk];exact zj
  .intro z hz;rcases bu.mp hz with hz|hz
   .exact y z hz
   .rw[bn.mp hz];exact⟨Yi aa,hw,λz=>w0 z⟩
 .rintro σ G ⟨aK,⟨o1,o2,rfl⟩,s,M,hl,y⟩;have lD:=vo aK;refine zi4 (aK:=aK) Z Z M () (λp q0 w G A Bn hw _ a _=>ym (P:=A G) (R:=Bn G) Z (a (y _ (XW hw)).2.2)) λl O H3 s3 ag ho T lo=>?_;have S:=I.trans s;exact q l O H3 (S.trans s3) (zH S ag) ho T.1 (λr h=>y _ (XW ((T.2 r.1 r.2).mp h).1)) ()
section
variable {F:L->Prop}{vs:List V}{rs:List Rw}
theorem zch:∀ {vs:List V} {rs:List Rw},Paired (hZ F H) vs rs->ti F H vs (gV.of rs)
 |_,_,.nil=>by unfold gV.of ti;rfl
 |_,_,.cons a t=>by
  unfold gV.of ti;exact⟨_,_,Z,a,zch t⟩
theorem zci:∀ {rs:List Rw},(∀r∈rs,Jo r)->Zn (gV.of rs)
 |[],_=>by unfold gV.of Zn;trivial
 |r::rs,h=>by
  unfold gV.of Zn;exact⟨h r br,zci λx a=>h x (bp _ a)⟩
theorem zcj:∀ {rs:List Rw},(∀r∈rs,Zl r)->Yw (gV.of rs)
 |[],_=>by unfold gV.of Yw;trivial
 |r::rs,h=>by
  unfold gV.of Yw;exact⟨h r br,zcj λx a=>h x (bp _ a)⟩
theorem X0{n:Nat}:∀ {rs:List Rw},(∀r∈rs,r.deep<=n)->(gV.of rs).deep<=n
 |[],_=>by unfold gV.of;simp[gV.deep]
 |r::rs,h=>by
  unfold gV.of;have c:=h r br;have b:=X0 (rs:=rs) λx a=>h x (bp _ a);simp only[gV.deep];lia
theorem VP(h:JE r):r.deep=0:=by
 cases r with
 |iff e a b=>exact absurd h (λz=>z)
 |take _ _ _=>simp[Rw.deep]
 |give _ _ _=>simp[Rw.deep]
 |lt _ _=>simp[Rw.deep]
 |say _=>simp[Rw.deep]
 |off _=>simp[Rw.deep]
theorem j9{c b:Type}{R:c->b->Prop}:∀ {e:List c} {d:List b} (k:Nat),Paired R e d->Paired R (e.take k) (d.take k)
 |_,_,0,_=>.nil
 |_,_,_+1,.nil=>.nil
 |_,_,k+1,.cons a t=>.cons a (j9 k t)
theorem ZY{b a:Type}{R:b->a->Prop}:∀ {d:List b} {c:List a} (k:Nat),Paired R d c->Paired R (d.drop k) (c.drop k)
 |_,_,0,h=>h
 |_,_,_+1,.nil=>.nil
 |_,_,k+1,.cons _ t=>ZY k t
end
theorem zg7(a:List V)(n:Nat):kq a am (U (n:Int))=a.take n:=by
 unfold kq;rw[HT.sIx_none,HT.sIx_nat,gh,rP];by_cases c:n<=a.length
 .rw[dZ c]
 .rw[lB (),b7 (bo _),b7 ()]
theorem zjX(a:List V)(n:Nat):kq a (U (n:Int)) am=a.drop n:=by
 unfold kq;rw[HT.sIx_none,HT.sIx_nat];by_cases c:n<=a.length
 .rw[dZ c];exact b7 (by rw[cW];exact bo _)
 .rw[lB (),ot (bo _),ot (),List.take_nil]
theorem zg8(a:List V)(k m:Nat)(c:k<=m)(b:m<=a.length):kq a (U (k:Int)) (U (m:Int))=(a.drop k).take (m-k):=by
 unfold kq;rw[HT.sIx_nat,HT.sIx_nat,dZ b,dZ (by lia:k<=a.length)]
section
variable {c:Int}{a b Bp X:L}{ds:List Int}{us ws:List Str}{vs:List V}{rs:List Rw}{Hb:D}
theorem JY{e d:Type}{R:e->d->Prop}:∀ {g:List e} {f:List d} {us:List e} {vs:List d},Paired R g f->Paired R us vs->Paired R (g++us) (f++vs)
 |_,_,_,_,.nil,h=>h
 |_,_,_,_,.cons a t,h=>.cons a (JY t h)
theorem zdo:∀ {rs:List Rw},(∀r∈rs,JE r)->(gV.of rs).cnt<=rs.length
 |[],_=>by unfold gV.of;simp[gV.cnt]
 |r::rs,h=>by
  have g:=zdo (rs:=rs) λx d=>h x (bp _ d);have f:=h r br;unfold gV.of;cases r with
  |iff e a b=>exact absurd f (λz=>z)
  |take _ _ _=>simp only[gV.cnt,Rw.cnt,bU];lia
  |give _ _ _=>simp only[gV.cnt,Rw.cnt,bU];lia
  |lt _ _=>simp only[gV.cnt,Rw.cnt,bU];lia
  |say _=>simp only[gV.cnt,Rw.cnt,bU];lia
  |off _=>simp only[gV.cnt,Rw.cnt,bU];lia
def szX(r:Rw):Nat:=match r with|.iff _ a b=>a.cnt+b.cnt+3|_=>1
theorem ziz(h:JE r):szX r=1:=by
 cases r with
 |iff e a b=>exact absurd h (λz=>z)
 |take _ _ _=>rfl
 |give _ _ _=>rfl
 |lt _ _=>rfl
 |say _=>rfl
 |off _=>rfl
theorem VQ:∀ {rs:List Rw},(∀r∈rs,JE r)->(rs.map szX).sum=rs.length
 |[],_=>rfl
 |r::rs,h=>by
  rw[bh,bZ,ziz (h r br),VQ λx d=>h x (bp _ d),bU];lia
theorem zjY(h:∀r∈rs,rwW r)(l:rs.length<=6):zii rs:=⟨bM (X0 (n:=0) λr d=>by rw[VP (h r d).nf];exact bo _) (),zci λr d=>(h r d).pl,zcj λr d=>(h r d).ok,by
 have:=VQ λr d=>(h r d).nf;show (rs.map szX).sum<=11;lia⟩
theorem zjZ{d:St}{f e:TE}{y:Int}{n:Nat}(i:∀Q:VK,Q (.int y) H->f d H Q)(h:∀Q:VK,Q (.int (n:Nat)) H->e d H Q)(g:0<n)(q:∀k:Nat,k<n->Q (.int (k:Nat)) H):aN ad f e d H Q:=i _ (h _ ⟨_,_,Z,Z,Int.ofNat_lt.mpr g,by
 have j:=cK y (b:=(n:Int)) ();have m:=cw y (b:=(n:Int)) ();obtain⟨k,l⟩:∃k:Nat,y%(n:Int)=k:=⟨(y%(n:Int)).toNat,(mf j).symm⟩;have z:=q k ();rw[<-l] at z;exact z⟩)
theorem ze5{o5 o6 o7:Option V}(G:H X=U (.lst (ds.map V.int)))(ld:ds.length=22)(od:∀d∈ds,okD d)(i:H Bp=U (.lst vs))(fL:Hb Bp=am)(pr:Paired (hZ (λb=>Hb b=am) H) vs rs)(f:∀r∈rs,rwW r)(l6:rs.length<=6)(hw:tu H b ws)(lw:ws.length=2)(S:aL Hb H) (q:∀l rs H',aL Hb H'->RlAt (λb=>Hb b=am) H' (.ref l) (gV.of rs)->zii rs->Q (.ref l) H') :
  jF K t (mt Q) [U (.int c),U (.ref a),U (.ref b),U (.ref X),U (.ref Bp),am,am,am] H:=by
 have lv:=bE pr;have g:∀ {j:Nat},j<22->uq (ds.map V.int) ((j:Nat):Int)=U (.int (ds.getD j 0))/\okD (ds.getD j 0):=λ{j} E=>by
  have E:j<ds.length:=by lia
  have e:ds.getD j 0=ds[j]:=by rw[bF,bb E];rfl
  exact⟨xa (by rw[bt,bb E,e];rfl),by rw[e];exact od _ (dM E)⟩
 unfold jF zt zW;refine⟨_,Z,_,_,Z,Z,dB,_,_,Z,Z,by show (0:Int)<3;decide,Z,_,Z,?_⟩;by_cases hc:c/7%3=0
 .refine ym (Bj (congrArg V.int hc)) ?_;refine zjZ (n:=vs.length+1) (λ_ q=>KL Z G (g (j:=18) ()).1 q) (λ_ q=>⟨_,Z,.ref Bp,vs.length,Z,.inl ⟨_,aT.of i,Z⟩,_,_,Z,Z,q⟩) (Nat.succ_pos vs.length) λk hk=>?_;have hk:k<vs.length+1:=hk;refine⟨_,Z,zjZ (n:=vs.length+1-k) (λ_ q=>KL Z G (g (j:=21) ()).1 q) (λ_ q=>⟨_,Z,.ref Bp,vs.length,Z,.inl ⟨_,aT.of i,Z⟩,_,_,Z,Z,_,Z,_,_,Z,Z,by rw[show ((vs.length+1-k:Nat):Int)=(vs.length:Int)+1-k by lia] at q;exact q⟩) () λm' hm=>⟨_,_,Z,Z,?_⟩⟩;obtain⟨m,em⟩:∃m,m=k+m':=⟨_,Z⟩;have km:k<=m:=by lia
  have ml:m<=vs.length:=by lia
  obtain⟨al,aa⟩:=g (j:=19) ();refine KL Z G al ⟨_,Z,_,b,ws,Z,aa,hw,lw,λtp e H1 T ft ht te pe=>?_⟩;refine⟨_,Z,_,Z,k,Z,_,Z,(m:Int),by rw[em];rfl,Bp,vs,Z,aT.of (T _ _ i),λp1 w=>?_⟩;rw[zg8 vs k m km ml];generalize c_:upd H1 p1 _=H2;obtain⟨s2,g2⟩:=yQ c_ w;have J:=T.trans s2;refine⟨_,Z,?_⟩;refine zjZ (n:=3) (λ_ q=>KL Z (J _ _ G) (g (j:=20) ()).1 q) (λ_ q=>q) () λj f6=>?_;refine⟨_,Z,Bp,vs,Z,aT.of (J _ _ i),λp2 v=>?_⟩;rw[zg7];generalize c_:upd H2 p2 _=H3;obtain⟨O,g3⟩:=yQ c_ v;refine⟨by show 4<=Bb;rw[bL];decide,λrp s=>?_⟩;generalize c_:upd H3 rp _=H4;obtain⟨A,g4⟩:=yQ c_ s;have S3:=J.trans O;have S4:=S3.trans A;refine⟨_,Z,_,Z,k,Z,Bp,vs,Z,aT.of (S4 _ _ i),λp3 aj=>?_⟩;rw[zg7];generalize c_:upd H4 p3 _=H5;obtain⟨s5,g5⟩:=yQ c_ aj;refine⟨_,Z,by show 1<=Bb;rw[bL];decide,λp4 ai=>?_⟩;generalize c_:upd H5 p4 _=H6;obtain⟨N,g6⟩:=yQ c_ ai;refine⟨_,_,_,_,Z,Z,N _ _ g5,g6,bM (by rw[cg];show min k vs.length+1<=110;lia:_<=110) (),λp5 ag=>?_⟩;generalize c_:upd H6 p5 _=H7;obtain⟨s7,g7⟩:=yQ c_ ag;have S7:=S4.trans (s5.trans (N.trans s7));refine⟨_,Z,_,Z,(m:Int),by rw[em];rfl,Bp,vs,Z,aT.of (S7 _ _ i),λp6 ae=>?_⟩;rw[zjX];generalize c_:upd H7 p6 _=H8;obtain⟨M,g8⟩:=yQ c_ ae;refine⟨_,_,_,_,Z,Z,M _ _ g7,g8,bM (by rw[bx,cg,cW];show min k vs.length+1+(vs.length-m)<=110;lia:_<=110) (),λp7 u=>?_⟩;generalize c_:upd H8 p7 _=H9;obtain⟨s9,g9⟩:=yQ c_ u;refine⟨_,Z,?_⟩;have y:=s5.trans (N.trans (s7.trans (M.trans s9)));have S9:=S4.trans y;have P:=Paired.mapP pr λ_ r z=>hZ.mono S9 z;have p:∀ {n:Nat} {x:Rw},x∈rs.take n->x∈rs:=λh=>dq h;have C:∀ {x:Rw},x∈(rs.drop k).take (m-k)->x∈rs:=λh=>dt (dq h);have I:hZ (λb=>Hb b=am) H9 (.ref rp) (.iff e (gV.of ((rs.drop k).take (m-k))) (gV.of (rs.take j))):=by
   unfold hZ;exact⟨rp,tp,p1,p2,_,_,Z,zH (S.trans S3) s,zH S ft,zH (S.trans T) w,zH (S.trans J) v,y _ _ g4,(s2.trans (O.trans (A.trans y))) _ _ ht,(O.trans (A.trans y)) _ _ g2,zch (j9 _ (ZY _ P)),(A.trans y) _ _ g3,zch (j9 _ P)⟩
  have o:∀x∈rs.take k++[.iff e (gV.of ((rs.drop k).take (m-k))) (gV.of (rs.take j))]++rs.drop m,x∈rs\/x=.iff e (gV.of ((rs.drop k).take (m-k))) (gV.of (rs.take j)):=λx hx=>by
   rcases bu.mp hx with hx|hx
   .rcases bu.mp hx with hx|hx
    .exact .inl (p hx)
    .exact .inr (bn.mp hx)
   .exact .inl (dt hx)
  have ip:Jo (.iff e (gV.of ((rs.drop k).take (m-k))) (gV.of (rs.take j))):=by
   unfold Jo;exact⟨pe,zci λx hx=>(f x (C hx)).pl,zci λx hx=>(f x (p hx)).pl⟩
  have io:Zl (.iff e (gV.of ((rs.drop k).take (m-k))) (gV.of (rs.take j))):=by
   unfold Zl;exact⟨te,zcj λx hx=>(f x (C hx)).ok,zcj λx hx=>(f x (p hx)).ok⟩
  have dp:Rw.deep (.iff e (gV.of ((rs.drop k).take (m-k))) (gV.of (rs.take j)))<=1:=by
   have a1:=X0 (n:=0) (rs:=(rs.drop k).take (m-k)) λx hx=>by rw[VP (f x (C hx)).nf];exact bo _
   have a2:=X0 (n:=0) (rs:=rs.take j) λx hx=>by rw[VP (f x (p hx)).nf];exact bo _
   simp only[Rw.deep];lia
  refine q p7 (rs.take k++[.iff e (gV.of ((rs.drop k).take (m-k))) (gV.of (rs.take j))]++rs.drop m) H9 (S.trans S9) ⟨p7,_,Z,zH (S.trans (S7.trans M)) u,g9,zch (JY (JY (j9 _ P) (.cons I .nil)) (ZY _ P))⟩ ⟨X0 λx hx=>?_,zci λx hx=>?_,zcj λx hx=>?_,?_⟩
  .rcases o x hx with h|rfl
   .rw[VP (f x h).nf];exact bS _
   .exact dp
  .rcases o x hx with h|rfl
   .exact(f x h).pl
   .exact ip
  .rcases o x hx with h|rfl
   .exact(f x h).ok
   .exact io
  .show ((rs.take k++[Rw.iff e (gV.of ((rs.drop k).take (m-k))) (gV.of (rs.take j))]++rs.drop m).map szX).sum<=11;rw[bN,bN,sN,sN,VQ λx hx=>(f x (p hx)).nf,VQ λx hx=>(f x (dt hx)).nf];have c1:=zdo (rs:=(rs.drop k).take (m-k)) λx hx=>(f x (C hx)).nf;have c2:=zdo (rs:=rs.take j) λx hx=>(f x (p hx)).nf;rw[cg,cW] at c1;rw[cg] at c2;rw[cg,cW];show min k rs.length+((gV.of ((rs.drop k).take (m-k))).cnt+(gV.of (rs.take j)).cnt+3+0)+(rs.length-m)<=11;lia
 .exact ya (Bk (λz=>hc (V.int.inj z))) ⟨_,Z,q Bp rs H S ⟨Bp,vs,Z,fL,i,zch pr⟩ (zjY f l6)⟩
def cRw(e:L)(Hb:D)(i:Nat)(d:List V)(H:D):Prop:=∃rs:List Rw,Paired (hZ (λb=>Hb b=am/\b≠e) H) d rs/\(∀r∈rs,rwW r)/\rs.length=i
theorem KO{vs:List V}{_E:XK}(h:jf vs H Q _E) :
  XR K t (mt Q) (zZZ 8 vs) H:=by
 obtain⟨c,a,b,us,ws,rfl,h1,h2,O,N,q⟩:=h;refine⟨_,Z,_,22,Z,(),λX ds H1 m fX I ld C=>?_⟩;unfold zt zS zv;refine zaP (σ:=[U (.int c),U (.ref a),U (.ref b),U (.ref X),am,am,am,am]) (te:=B 0) (n:=7) (λ_ q=>⟨_,Z,q⟩) () λk g1 g2=>?_;refine⟨_,Z,(),(),λBq M=>?_⟩;have fD:=zH m M;refine jG (J:=Itr 0 (k).toNat) (k).toNat () (λw=>∃o,w=[o,U (.ref X),U (.ref a),U (.ref b)]) (cRw Bq H) (λi y H2 H' s ⟨rs,p1,T⟩=>⟨rs,Paired.mapP p1 λ_ r z=>z.to r (λ_ _ f _=>f) (λb o f e=>s.2 b o f.2 e),T⟩) ⟨_,Z⟩ ⟨[],.nil,(λr z=>nomatch z),Z⟩ (λi H _ h=>h) (λH _=>bo _) M ?_ ?_
 .rintro i v w y H4 H5 ⟨o,rfl⟩ g hi ⟨rs,u,l,G⟩ hy ⟨rfl,rfl⟩;rw[Int.zero_add];have E:CMulB 3 i:=mS () () () ();refine⟨_,Z,_,Z,_,_,Z,Z,E,_,Z,_,Z,_,_,Z,Z,E,_,_,Z,Z,_,Z,_,_,Z,aT.of (g _ _ I),λp hp=>?_⟩;have e1:3*(i:Int)=((3*i:Nat):Int):=by lia
  have e2:3*(i:Int)+3=((3*i+3:Nat):Int):=by lia
  rw[e2,e1,zg8 _ _ _ () (by rw[bd];lia),<-lM,<-nS];have le:((ds.drop (3*i)).take (3*i+3-3*i)).length=3:=by rw[cg,cW];lia
  have oe:∀d∈(ds.drop (3*i)).take (3*i+3-3*i),okD d:=λd hd=>C d (dt (dq hd));generalize (ds.drop (3*i)).take (3*i+3-3*i)=es at *
  have j:=tM (o:=HO.lst (es.map V.int)) p hp;have S:=m.trans (g.trans j);have ne:∀ {b},upd H5 p (HO.lst (es.map V.int)) b=am->b≠Bq:=λ{b} e z=>by rw[z,j _ _ hy] at e;cases e
  refine⟨_,Z,_,Z,p,_,_,es,us,ws,Z,zj,le,oe,h1.same S,h2,O.same S,N,λv r H6 A hr hw=>⟨⟨_,Z⟩,⟨rs++[r],Paired.snocP (Paired.mapP u λ_ _ z=>z.mono (j.trans A)) (hr.to r (λb o f _=>⟨zH S f,ne f⟩) λb o _ e=>e),λx hx=>?_,by rw[bx,G];rfl⟩,j.trans A⟩⟩;rcases bu.mp hx with hx|hx
  .exact l x hx
  .rw[bn.mp hx];exact hw
 .rintro y H4 aa ⟨rs,u,l,G⟩ g hq;have S:=m.trans g;exact ze5 (t:=t) (o5:=am) (o6:=am) (o7:=am) (g _ _ I) ld C hq fD (Paired.mapP u λ_ r z=>z.to r (λ_ _ f _=>f.1) λb o _ e=>e) l () (O.same S) N S q
end
theorem tR.mono{H c:D}(s:aL H c)(h:tR H n v u):tR c n v u:=by
 induction h with
 |int i=>exact .int i
 |str x=>exact .str x
 |lst e1 e2 l _ ih=>exact .lst (s _ _ e1) (s _ _ e2) l ih
 |tup e1 e2 l _ ih=>exact .tup (s _ _ e1) (s _ _ e2) l ih
theorem ZZ{H:D}{Q:VK}{E:XK}(h:yb 0 vs H Q E):False:=by
 obtain⟨v,u,_,h,_⟩:=h;cases h
theorem Vh(c:σ[i]?=U (U v))(a:YU K H v tv)(k:fS K tv (.type T)=U b)(q:Q (.bl b) H):tJ (Yk K) (zd (B i) (zd (tC (.ty T)) zk)) σ H Q:=⟨_,c,v,.ty T,tv,b,Z,a,⟨T,Z,k⟩,q⟩
theorem vY{Q:Bool->D->Prop}(c:σ[i]?=U (U v))(a:YU K H v tv)(k:fS K tv (.type T)=U b)(q:Q b H):tB (tJ (Yk K) (zd (B i) (zd (tC (.ty T)) zk))) σ H Q:=Vh c a k ⟨b,Z,q⟩
theorem zi5{v:V}(q:Q (.bl ak) H):Q (.bl (decide (v=v))) H:=by rw[Bj rfl];exact q
theorem JZ{n:Nat}{v u:V}(F:KF K)(h:tR H (n+1) v u)(q:∀c,aL H c->Q (.bl ak) c) :
  kD K t n (mt Q) (zZZ 4 [v,u]) H:=by
 unfold kD zt zW tOr Xe kj;cases h with
 |int i =>
  refine vY Z (.int i) F.i_l (ya Z (vY Z (.int i) F.i_t (ya Z (vY Z (.int i) F.i_s (ya Z ?_)))));exact Vh Z (.int i) (xT _) ⟨ak,Z,ym Z (Vh Z (.int i) F.i_b ⟨aq,Z,ak,Z,ym Z ⟨_,Z,_,Z,Z,zi5 (q _ (aL.refl _))⟩⟩)⟩
 |str y =>
  refine vY Z (.str y) F.s_l (ya Z (vY Z (.str y) F.s_t (ya Z (vY Z (.str y) (xT _) (ym Z ?_)))));exact Vh Z (.str y) (xT _) ⟨ak,Z,ym Z ⟨_,Z,_,Z,Z,zi5 (q _ (aL.refl _))⟩⟩
 |@lst _ a b xs ys ha hb ll hx =>
  refine vY Z (.lst hb) (xT _) (ym Z (ym Z (vY Z (.lst ha) (xT _) (ya Z (ya Z ?_)))));refine Vh Z (.lst ha) (xT _) (Vh Z (.lst hb) (xT _) ⟨Z,_,Z,ya Z ?_⟩);refine⟨_,Z,.ref a,xs.length,Z,.inl ⟨_,aT.of ha,Z⟩,_,Z,.ref b,ys.length,Z,.inl ⟨_,aT.of hb,Z⟩,Z,_,Z,ya (by rw[Bj (by rw[ll])];rfl) ?_⟩;refine⟨_,Z,_,Z,a,b,xs,ys,Z,ll,.inl ⟨aT.of ha,aT.of hb,zeS xs ys (λ_ d c=>(∃g f,d=[U (.ref a),U (.ref b),g,f])/\aL H c) ⟨⟨_,_,Z⟩,aL.refl _⟩ (λi d c z=>⟨aT.of (z.2 _ _ ha),aT.of (z.2 _ _ hb)⟩) ?_ ?_⟩⟩
  .rintro i x y T d r l k m ⟨⟨g,f,rfl⟩,S⟩;have e:=tM (o:=HO.tup [x,y]) T m;exact⟨T,_,Z,tI.of zj,Z,_,_,Z,_,_,Z,Z,_,Z,_,Z,x,y,Z,tR.mono (S.trans e) (hx i x y l k),λp j=>⟨_,Z,ya Z ⟨⟨_,_,Z⟩,S.trans (e.trans j)⟩⟩⟩
  .rintro d c ⟨_,S⟩;exact q _ S
 |@tup _ a b xs ys ha hb ll hx =>
  refine vY Z (.tup hb) F.t_l (ya Z (vY Z (.tup hb) (xT _) (ym Z (vY Z (.tup ha) F.t_l (ym Z (vY Z (.tup ha) (xT _) (ya Z ?_)))))));refine Vh Z (.tup ha) F.t_l (Vh Z (.tup hb) F.t_l ⟨Z,_,Z,ya Z ?_⟩);refine⟨_,Z,.ref a,xs.length,Z,.inr ⟨_,tI.of ha,Z⟩,_,Z,.ref b,ys.length,Z,.inr ⟨_,tI.of hb,Z⟩,Z,_,Z,ya (by rw[Bj (by rw[ll])];rfl) ?_⟩;refine⟨_,Z,_,Z,a,b,xs,ys,Z,ll,.inr ⟨tI.of ha,tI.of hb,zf4 xs ys (λ_ d c=>(∃g f,d=[U (.ref a),U (.ref b),g,f])/\aL H c) ⟨⟨_,_,Z⟩,aL.refl _⟩ (λi d c z=>⟨tI.of (z.2 _ _ ha),tI.of (z.2 _ _ hb)⟩) ?_ ?_⟩⟩
  .rintro i x y T d r l k m ⟨⟨g,f,rfl⟩,S⟩;have e:=tM (o:=HO.tup [x,y]) T m;exact⟨T,_,Z,tI.of zj,Z,_,_,Z,_,_,Z,Z,_,Z,_,Z,x,y,Z,tR.mono (S.trans e) (hx i x y l k),λp j=>⟨_,Z,ya Z ⟨⟨_,_,Z⟩,S.trans (e.trans j)⟩⟩⟩
  .rintro d c ⟨_,S⟩;exact q _ S
theorem zi6{s:bv}{a:List aO}(h:Y5 s a):(a.map (·.1)).Nodup:=by
 unfold Y5 at h;split at h
 .rw[h];exact cO
 .exact h.1.nd
section
variable {fo:Int}
section
variable {β:Type}{R R':Int->V->β->Prop}{kv:List (aW×V)}{l:List (Int×β)}{h:Int}{b:β}{v:V}
theorem hU{e:Int×β}:e∈yk l h↔e∈l/\e.1≠h:=by unfold yk;rw[bQ,decide_eq_true_eq]
theorem Pk.get(p:Pk R kv l):(yj kv (.inl h)=am/\h ∉ l.map (·.1))\/∃v b,yj kv (.inl h)=U v/\(h,b)∈l/\R h v b:=by
 unfold Pk at p;induction p with
 |nil=>exact .inl ⟨zbl,λz=>nomatch z⟩
 |@cons x e kv l hd tl ih =>
  by_cases c:e.1=h
  .subst c;exact .inr ⟨x.2,e.2,yV hd.1,br,hd.2⟩
  .have n:¬ x.1=.inl h:=by rw[hd.1];exact λz=>c (nh z)
   rw[yW n,bh,bw];exact ih.imp (λz=>⟨z.1,λy=>y.elim (λy=>c y.symm) z.2⟩) λ⟨v,b,f,d,a⟩=>⟨v,b,f,bp _ d,a⟩
theorem Pk.drop(p:Pk R kv l):Pk R (yz kv (.inl h)) (yk l h):=by
 unfold Pk at p;induction p with
 |nil=>exact .nil
 |@cons x e kv l hd tl ih =>
  by_cases c:e.1=h
  .rw[Qq (hd.1.trans (congrArg _ c)),yk,cp,ao (by rw[decide_eq_true_eq];exact λz=>z c)];exact ih
  .rw[Wm (by rw[hd.1];exact λz=>c (nh z)),yk,cp,au (Bj c)];exact .cons hd ih
theorem Pk.put(p:Pk R kv l)(n:h ∉ l.map (·.1))(r:R h v b):Pk R (yS kv (.inl h) v) (l++[(h,b)]):=by
 rcases p.get (h:=h) with ⟨e,_⟩|⟨v,b,_,m,_⟩
 .rw[jo _ e];exact Paired.snocP p ⟨Z,r⟩
 .exact absurd (bB (f:=λe:Int×β=>e.1) m) n
theorem Pk.set(p:Pk R kv l)(d:(l.map (·.1)).Nodup)(f:∀k v a,(k,a)∈l->k≠h->R k v a->R' k v a)(g:∀v,yj kv (.inl h)=U v->R' h v b):Pk R' kv (Yn l h b):=by
 unfold Pk at p;induction p with
 |nil=>exact .nil
 |@cons x e kv l hd tl ih =>
  rw[bh,bW] at d;have i:=λk v a m=>f k v a (bp e m);by_cases c:e.1=h
  .refine .cons ?_ (ih d.2 i λv z=>?_)
   .dsimp only;rw[au c];subst c;exact⟨hd.1,g _ (yV hd.1)⟩
   .rcases Pk.get (R:=R) tl (h:=h) with ⟨y,_⟩|⟨_,a,_,m,_⟩
    .rw[y] at z;cases z
    .exact absurd (bB (f:=λe:Int×β=>e.1) m) (by rw[<-c];exact d.1)
  .refine .cons ?_ (ih d.2 i λv z=>g v ((yW (by rw[hd.1];exact λz=>c (nh z))).trans z));dsimp only;rw[ao c];exact⟨hd.1,f _ _ _ br c hd.2⟩
end
theorem dkF{P:Str->Option af}(T:Txt K P t):DkF K t:=⟨T.q04,T.q0i,T.q1s,T.q2d,T.q2i,T.q2c,T.q2a,T.q2h,T.q2e,T.q2g,T.q2f,T.q2b,T.q2l,T.q2k,T.q2m,T.q2j,T.q2y⟩
section
variable {H':D}{lb lb':L->Nat}{Bp L':List (L×HO)}{m re b:L}{g:List aO}{lays:List (Int×List aO)}{P:Pl->Int->Prop}{cs:List V}{CC:List (List Cs)}{n ac:Int}{la:List (aW×V)}{o o' wo:HO}{i:Nat}{r:L}{no gi:List aO}{ld:List (Int×bv×List aO)}{s:bv}{M:Nat->Prop}
theorem TSm.of(s:aL H H'):TSm H H':=λ_ _ e=>s _ _ e
theorem tH.at(h:tH t H lb Bp m re fo g lays P cs CC)(e:Bp[i]?=U (b,o)):H b=U o:=(h.ob i b o e).1
theorem tH.lb_(h:tH t H lb Bp m re fo g lays P cs CC)(e:Bp[i]?=U (b,o)):lb b=i+1:=(h.ob i b o e).2
theorem tH.core2{l:Pl->Int->Prop}(h:tH t H lb Bp m re fo g lays P cs CC)(e:∀b,lb b≠0->lb' b=lb b)(j:∀b,lb b=0->lb' b=0\/lb' b=11/\∃o,H' b=U o)(ob:∀i b o,L'[i]?=U (b,o)->H' b=U o/\lb b=i+1)(k:∀b o,lb b=10\/lb b=13->H b=U o->H' b=U o)(rr:∃kk,tz H' re (λb=>lb' b=11) l kk)(q:TSm H H')(I:∀b o,H b=U o->∃o',H' b=U o'):tH t H' lb' L' m re fo g lays l cs CC:=by
 have f:(λb=>lb' b=10)=λb=>lb b=10:=funext λb=>propext (by
  rcases mI (lb b) with z|z
  .rcases j b z with y|⟨y,_⟩ <;> rw[y,z] <;> decide
  .rw[e b ()])
 refine⟨λi b o z=>?_,by rw[f];exact h.ms.keep λb o G e=>k b o (.inl G) e,rr,(e _ (by rw[h.rl];decide)).trans h.rl,Paired.mapP h.cc λv C ⟨⟨c,p,a,w,u⟩,d⟩=>⟨⟨c,p,a,k c _ (.inr (d c a)) w,xC q u⟩,λc a=>(e c (by rw[d c a];decide)).trans (d c a)⟩,λb x=>?_⟩
 .obtain⟨E,A⟩:=ob i b o z;exact⟨E,(e b ()).trans A⟩
 .rcases mI (lb b) with z|z
  .rcases j b z with y|⟨_,y⟩
   .exact absurd y x
   .exact y
  .obtain⟨o,z⟩:=h.ow b ();exact I b o z
theorem tH.core(h:tH t H lb Bp m re fo g lays P cs CC)(ob:∀i b o,L'[i]?=U (b,o)->H' b=U o/\lb b=i+1)(k:∀b o,10<=lb b->lb b<14->H b=U o->H' b=U o)(d:TSm H H')(f:∀b o,H b=U o->∃o',H' b=U o'):tH t H' lb L' m re fo g lays P cs CC :=
 h.core2 (λ_ _=>rfl) (λ_=>.inl) ob (λb o z e=>k b o () () e) (let ⟨kk,z⟩:=h.rr;⟨kk,z.keep h.rl (λb o a e=>k b o (by rw[a];decide) (by rw[a];decide) e) λ_ z=>z⟩) d f
open Classical in
theorem tH.regrow{j:Pl->Int->Prop}(h:tH t H lb Bp m re fo g lays P cs CC)(J:Bp.length=9)(k:hV (λb=>lb b=11\/H b=am) re H H')(E:Dm H H')(rr:tz H' re (λb=>lb b=11\/H b=am) j kk):∃lb',Fr M1 H H' lb lb'/\tH t H' lb' Bp m re fo g lays j cs CC:=by
 have a:∀b o,lb b≠11->H b=U o->H' b=U o:=λb o z e=>k b o e (λy=>z (by rw[y];exact h.rl)) (.inr λy=>y.elim z λy=>by rw[e] at y;cases y);obtain⟨q,l⟩:=h.rr;have d:TSm H H':=λb G e=>k b _ e (zL e l.at_ ()) (.inl λ_ z=>nomatch z);have f:∀b o,H b=U o->∃o',H' b=U o':=λb o e=>let ⟨o',z,_⟩:=E b o e;⟨o',z⟩
 have p:∀b,lb b≠0->H b≠am:=λb z y=>by obtain⟨o,e⟩:=h.ow b z;rw[y] at e;cases e
 refine⟨λb=>if H b=am/\∃o,H' b=U o then 11 else lb b,⟨λb o e=>ao (λz=>by rw[z.1] at e;cases e),λb o z e=>a b o (by unfold M1 at z;lia) e,d,f⟩,h.core2 (λb z=>ao λy=>p b z y.1) (λb z=>?_) (λi b o z=>?_) (λb o z e=>a b o () e) ⟨kk,rr.keep2 Z (λb I _ e=>e) λb A z=>?_⟩ d f⟩
 .by_cases y:H b=am/\∃o,H' b=U o
  .exact .inr ⟨au y,y.2⟩
  .exact .inl ((ao y).trans z)
 .obtain⟨x,u⟩:=h.ob i b o z;have:=(bq.mp z).1;exact⟨a b o () x,u⟩
 .by_cases y:H b=am/\∃o,H' b=U o
  .exact au y
  .exact(ao y).trans (A.resolve_right λw=>y ⟨w,z⟩)
theorem tH.keep(h:tH t H lb Bp m re fo g lays P cs CC)(l:Bp.length=9)(k:∀b o,lb b≠0->lb b<14->H b=U o->H' b=U o)(f:TSm H H')(j:∀b o,H b=U o->∃o',H' b=U o'):tH t H' lb Bp m re fo g lays P cs CC :=
 h.core (λi b o e=>by
  obtain⟨d,a⟩:=h.ob i b o e;have:=(bq.mp e).1;exact⟨k b o () () d,a⟩) (λb o d a e=>k b o () a e) f j
theorem tH.same(h:tH t H lb Bp m re fo g lays P cs CC)(a:Bp.length=9)(s:aL H H'):tH t H' lb Bp m re fo g lays P cs CC:=h.keep a (λb o _ _ e=>s _ _ e) (TSm.of s) λb o e=>⟨o,s _ _ e⟩
theorem Z0:∀a u,H a=U u->∃u',upd H b o a=U u':=λa u e=>by
 by_cases c:a=b
 .exact⟨o,by rw[c];exact zj⟩
 .exact⟨u,by rw[zm c];exact e⟩
theorem qH(e:H b=U o)(n:∀c,o≠.tup c):TSm H (upd H b o'):=λf d a=>by rw[zm (zL a e (λz=>n d z.symm))];exact a
theorem tH.put(h:tH t H lb Bp m re fo g lays P cs CC)(w:Bp.length=9)(e:Bp[i]?=U (b,o))(n:∀p,o≠.tup p):tH t (upd H b o') lb (Bp.set i (b,o')) m re fo g lays P cs CC:=by
 have x:=(bq.mp e).1;obtain⟨u,q⟩:=h.ob i b o e;refine h.core (λj l k a=>?_) (λl k f d a=>?_) (qH u n) Z0
 .rw[List.getElem?_set] at a;by_cases c:i=j
  .rw[au c,au ()] at a;cases a;exact⟨zj,()⟩
  .rw[ao c] at a;obtain⟨f,d⟩:=h.ob j l k a;exact⟨by rw[zm (λz=>by rw[z] at d;lia)];exact f,d⟩
 .rw[zm (λz=>by rw[z] at f;lia)];exact a
theorem Fr.mono{a:Nat->Prop}(h:Fr M H H' lb lb')(k:∀l,a l->M l):Fr a H H' lb lb':=⟨h.ex,λb o z e=>h.kp b o (k _ z) e,h.ts,h.al⟩
theorem Fr.m0(h:Fr M1 H H' lb lb'):Fr M0 H H' lb lb':=h.mono λl z=>z.imp id λy=>by lia
theorem Fr.same(s:aL H H'):Fr M H H' lb lb:=⟨λ_ _ _=>rfl,λ_ _ _ e=>s _ _ e,λ_ _ e=>s _ _ e,λ_ o e=>⟨o,s _ _ e⟩⟩
theorem Fr.trans{a:D}{lb2:L->Nat}(h:Fr M H H' lb lb')(k:Fr M H' a lb' lb2):Fr M H a lb lb2 :=
 ⟨λb o e=>let ⟨o',e'⟩:=h.al b o e;(k.ex b o' e').trans (h.ex b o e),λb o z e=>k.kp b o (by rw[h.ex b o e];exact z) (h.kp b o z e),λb zs e=>k.ts b zs (h.ts b zs e),λb o e=>let ⟨o',e'⟩:=h.al b o e;k.al b o' e'⟩
theorem tH.fput(h:tH t H lb Bp m re fo g lays P cs CC)(e:Bp[i]?=U (b,o))(n:∀a,o≠.tup a)(f:i<9:=by lia):Fr M1 H (upd H b o') lb lb:=by
 have l:=h.lb_ e;exact⟨λ_ _ _=>rfl,λj u z d=>by rw[zm (λy=>by rw[y,l] at z;unfold M1 at z;lia)];exact d,qH (h.at e) n,Z0⟩
theorem zi7(h:tN H l aK)(F:Fr M H H' lb lb')(k:M 14)(z:lb l=14):tN H' l aK:=by
 obtain⟨a,c,d⟩:=h;exact⟨a,F.kp _ _ (by rw[z];exact k) c,Paired.mapP d λ_ _ y=>L2.PrAt.tsame y F.ts⟩
theorem uc.fr(h:uc H lb r s gi)(F:Fr M H H' lb lb')(k:M 14):uc H' lb' r s gi:=by
 obtain⟨o,nl,gl,e,j,f,d,c,a⟩:=h;obtain⟨u,p,w⟩:=id f;obtain⟨q,l,v⟩:=id d;exact⟨o,nl,gl,F.ts _ _ e,zkA j F.ts,zi7 f F k c,zi7 d F k a,(F.ex _ _ p).trans c,(F.ex _ _ l).trans a⟩
theorem wB(h:Pk (Y7 H lb) la ld)(F:Fr M H H' lb lb')(k:M 14):Pk (Y7 H' lb') la ld:=Paired.mapP h λ_ _ ⟨e,r,c,a⟩=>⟨e,r,c,a.fr F k⟩
theorem EnI.fr(h:EnI H lb en n0 es)(F:Fr M H H' lb lb')(k:M 14):EnI H' lb' en n0 es:=⟨h.le,Paired.mapP h.ps λ_ _ ⟨r,c,a⟩=>⟨r,c,a.fr F k⟩⟩
theorem tH.out(h:tH t H lb Bp m re fo g lays P cs CC)(e:H b=am):lb b=0:=cE λz=>by obtain⟨o,y⟩:=h.ow b z;rw[e] at y;cases y
theorem zg9{p:L}{F:L->Prop}{d:Pl}(N:MkF K t)(I:tV t H m F g lays fo)(h2:H p=U (.tup ((zB d).map kV)))(q:∀v H',aL H H'->NxA lays d ac v->Q v H') :
  wd K t (mt Q) (zZZ 5 [.ref m,.ref p,.int ac]) H:=by
 obtain⟨dx,gr,wo,rk,wk,kk,M⟩:=tV.ex I;refine(zZ M.im N.cl N.r Z zgW ⟨rk,Z,.inr ⟨_,.inl M.rr.at_⟩,_,Z,(),λl hl=>?_⟩);generalize c_:upd H l _=H2;obtain⟨u,T⟩:=yQ c_ hl;have M2:=M.keep I.me λb o _ e=>u _ _ e;refine⟨_,.t M2.rr.at_ (u _ _ h2),?_⟩;have go:∃(c:L) (a:List Int),((yj kk (zB d)).getD (.ref l))=.ref c/\H2 c=U (.lst (a.map V.int))/\a.Pairwise (· < ·)/\∀r,r∈a↔vT lays d r:=by
  rcases M2.rr.get d with ⟨c,a,hk,hv,fa,w,f,hne,j⟩|⟨hv,_,no⟩
  .exact⟨c,a,by rw[hv];rfl,w,f,j⟩
  .exact⟨l,[],by rw[hv];rfl,T,fP,λr=>⟨(),λz=>absurd z (no r)⟩⟩
 obtain⟨c,a,ev,w,f,j⟩:=go;rw[ev];refine⟨_,Z,_,Z,_,_,Z,Z,c,a,_,Z,w,f,λk O x hk G k2=>?_⟩;have J:=x _ _ w;refine⟨_,Z,_,Z,.ref c,a.length,Z,.inl ⟨_,aT.of J,(bd ..).symm⟩,Z,_,Z,?_⟩;by_cases z:k=a.length
 .exact ym (Bj (by rw[z])) (q _ O (u.trans x) (.inl ⟨Z,λr C=>by
   have:=G r (by rw[z,cR];exact(j r).mpr C);lia⟩))
 .refine ya (Bk (λy=>z (by injection y with y;lia))) ?_;have A:k<a.length:=by lia
  have E:a.drop k=a[k]::a.drop (k+1):=gW A;refine⟨_,Z,_,Z,c,_,k,_,Z,Z,aT.of J,xa (by rw[bt,bb A];rfl),q _ O (u.trans x) (.inr ⟨a[k],Z,(j _).mp (dM A),?_,λr C h=>?_⟩)⟩
  .have:=k2 a[k] (by rw[E];exact br);lia
  .have m:=(j r).mpr C;rw[<-da k a] at m;rcases bu.mp m with m|m
   .have:=G r m;lia
   .rw[E] at m;rcases bw.mp m with m|m
    .lia
    .rw[<-da k a,E] at f;exact rY (mO (List.pairwise_append.mp f).2.1 m)
theorem NxA.low(h:fo<=ac)(x:NxA (lays.filter λy=>decide (fo<=y.1)) q0 ac v):NxA lays q0 ac v:=by
 have j:∀r,ac<r->vT lays q0 r->vT (lays.filter λy=>decide (fo<=y.1)) q0 r:=λr f ⟨d,m,p⟩=>⟨d,bQ.mpr ⟨m,Bj (by show fo<=r;lia)⟩,p⟩;rcases x with ⟨e,n⟩|⟨i,e,⟨d,m,p⟩,f,mn⟩
 .refine .inl ⟨e,λr a=>?_⟩;rcases i9 ac r with c|c
  .exact n r (j r c a)
  .exact c
 .exact .inr ⟨i,e,⟨d,(bQ.mp m).1,p⟩,f,λr a c=>mn r (j r c a) c⟩
theorem Z1{a:List V}{_E:XK}(f:MkF K t)(h:xo t a H Q _E) :
  wd K t (mt Q) (zZZ 5 a) H:=by
 obtain⟨m,p,ac,F,g,lays,fo,j,rfl,e,c,d,q⟩:=h;obtain⟨k,M,_⟩:=e.ex;exact zg9 f M d λv H' s x=>q v H' s (x.low c)
end
end
section
variable {fo:Int}
section
variable {H':D}{lb:L->Nat}{Bp:List (L×HO)}{d b:L}{a:um}{g:List aO}{lays:List (Int×List aO)}{P:Pl->Int->Prop}{cs en:List V}{CC:List (List Cs)}{n f ac:Int}{ws db:List Int}{kv la:List (aW×V)}{o o' wo:HO}{i:Nat}{r:L}{no gi:List aO}{ld:List (Int×bv×List aO)}{s:bv}
theorem zj0(x:Int):∃h,yS (dbL db) (.inl x) (.bl ak)=dbL h/\(db.Nodup->h.Nodup)/\∀y,y∈h↔y∈db\/y=x:=by
 by_cases c:x∈db
 .refine⟨db,?_,id,λy=>⟨.inl,λz=>z.elim id λz=>by rw[z];exact c⟩⟩;unfold yS;rw[au (lz.mpr ⟨(.inl x,.bl ak),bB (f:=λr=>((.inl r:aW),V.bl ak)) c,Bj Z⟩)];refine(dC λkv m=>?_).trans (List.map_id _);obtain⟨y,_,rfl⟩:=bD.mp m;split <;> rfl
 .refine⟨db++[x],?_,λk=>?_,λy=>by rw[bu,bn]⟩
  .rw[jo _ (zaM λz=>?_)]
   .unfold dbL;rw[bN];rfl
   rw[dbL,dJ] at z;obtain⟨y,j,e⟩:=bD.mp z;exact c (by rw[<-nh e];exact j)
  .refine dn.mpr ⟨k,by simp,λy j z l e=>c ?_⟩;rw[<-bn.mp l,<-e];exact j
theorem zef(x:Int):yz (dbL db) (.inl x)=dbL (db.filter λy=>decide (y≠x)):=by
 unfold yz dbL;rw[List.filter_map];congr 1;refine eZ λy _=>?_;show decide ((ik y:aW)≠.inl x)=decide (y≠x);simp
theorem zha{x:Int}(h:x∈db):yj (dbL db) (.inl x)=U (.bl ak):=by
 cases e:yj (dbL db) (.inl x) with
 |none =>
  refine absurd ?_ (zbs e);rw[dbL,dJ];exact bB (f:=λy:Int=>(ik y:aW)) h
 |some v =>
  obtain⟨p,c,rfl⟩:=zfZ e;obtain⟨y,_,rfl⟩:=bD.mp c;rfl
theorem DbOk.len(h:DbOk ld db):db.length<=ld.length:=by
 have:=xI h.nd h.su
 rwa [bd] at this
theorem ziA{c e:Option Int}(h:x∈kq xs c e):x∈xs:=dt (dq h)
theorem tH.dbt(x:Int)(h:tH t H lb (uj t d a n f wo cs ws kv la db en) a.mks a.re fo g lays P cs CC)(l:db.length<=100):∃H' j,DPut H a.db (.int x) (.bl ak) H'/\Fr M1 H H' lb lb/\tH t H' lb (uj t d a n f wo cs ws kv la j en) a.mks a.re fo g lays P cs CC/\(db.Nodup->j.Nodup)/\(∀y,y∈j↔y∈db\/y=x)/\∀b o,b≠a.db->H b=U o->H' b=U o:=by
 obtain⟨j,e,p,q⟩:=zj0 (db:=db) x;have u:=h.put (i:=7) (o':=.dK (dbL j)) Z Z ();have w:=h.fput (i:=7) (o':=.dK (dbL j)) Z ();have z:=DPut.k (k:=.inl x) (v:=.bl ak) (h.at (i:=7) Z) (by rw[bL];unfold dbL;rw[bd];lia);rw[e] at z;exact⟨_,j,z,w,u,p,q,λb o z e=>by rw[zm z];exact e⟩
theorem J5{c p:L}{l:List Int}{k:Nat}{v4:V}(Bq:DkF K t)(h:tH t H lb (uj t d a n f wo cs ws kv la db en) a.mks a.re fo g lays (tZ ld) cs CC)(hd:DbOk ld db)(ag:ld.length<=10)(hc:H c=U (.lst (l.map V.int)))(hs:l.Pairwise (· < ·)){R:Int->Prop}(I:∀r∈l,r∈ld.map (·.1))(kt:∀r∈l,ac<r->R r->r∈l.take k)(q:∀H' j,Fr M1 H H' lb lb->tH t H' lb (uj t d a n f wo cs ws kv la j en) a.mks a.re fo g lays (tZ ld) cs CC->DbOk ld j->(∀y∈db,y∈j)->(∀r∈l,ac<r->R r->r∈j)->Q .non H') :
  qX K t (mt Q) [U (.ref a.jb),U (.ref p),U (.int ac),U (.ref c),U v4,U (.int k),am] H:=by
 refine⟨_,Z,_,Z,_,Z,_,_,Z,Z,c,l,_,Z,hc,hs,λv H1 s1 _ t1 _=>⟨v,Z,_,Z,k,Z,c,_,Z,aT.of (s1 _ _ hc),λz hz=>?_⟩⟩;have cm:∀x∈kq (l.map V.int) (U (v:Int)) (U (k:Int)),∃y∈l,V.int y=x:=λx hx=>bD.mp (ziA hx);have cu:∀r∈l,ac<r->R r->V.int r∈kq (l.map V.int) (U (v:Int)) (U (k:Int)):=λr I lt hR=>by
  obtain⟨m,E⟩:=cV (kt r I lt hR);rw[eu] at E;split at E
  .rename_i mk;have ml:=(bq.mp E).1;have m1:v<=m:=r6 λz=>by
    have:=t1 r (bJ (show (l.take v)[m]?=U r by rw[eu,au z];exact E));lia
   have e1:HT.sIx (l.map V.int).length 0 (U (v:Int))=min v (l.map V.int).length:=HT.sIx_nat ..;have O:HT.sIx (l.map V.int).length (l.map V.int).length (U (k:Int))=min k (l.map V.int).length:=HT.sIx_nat ..;unfold kq;rw[e1,O,bd];refine bJ (i:=m-min v l.length) ?_;rw[eu,au (),mH,show min v l.length+(m-min v l.length)=m by lia,bt,E];rfl
  .cases E
 generalize kq (l.map V.int) (U (v:Int)) (U (k:Int))=ys at *
 have h1:=h.same Z s1;generalize c_:upd H1 z _=H2;obtain⟨s2,O⟩:=yQ c_ hz;refine⟨z,Z,⟨_,aT.of O⟩,xG ys (λi M H'=>(∃o6,M=[U (.ref a.jb),U (.ref p),U (.int ac),U (.ref c),U v4,U (.int k),o6])/\H' z=U (.lst ys)/\Fr M1 H H' lb lb/\∃j,tH t H' lb (uj t d a n f wo cs ws kv la j en) a.mks a.re fo g lays (tZ ld) cs CC/\DbOk ld j/\(∀y∈db,y∈j)/\∀x,V.int x∈ys.take i->x∈j) ⟨⟨_,Z⟩,O,Fr.same (s1.trans s2),db,h1.same Z s2,hd,λ_ z=>z,λ_ z=>nomatch z⟩ (λi M H' ⟨_,z,_⟩=>aT.of z) ?_ ?_⟩
 .rintro i u M H' hu ⟨⟨o6,rfl⟩,G,F,j,J,w,T,N⟩;obtain⟨x,hx,rfl⟩:=cm u (bJ hu);have ll:=w.len;obtain⟨H4,ae,dp,F4,h4,aa,A,k4⟩:=J.dbt x ();exact zZ (J.at (i:=2) Z) Bq.cJ Bq.j4 Z Z ⟨_,Z,a.db,H4,Z,dp,⟨_,Z⟩,k4 _ _ (zL G (J.at (i:=7) Z) ()) G,F.trans F4,ae,h4,⟨aa w.nd,λy C=>((A y).mp C).elim (w.su y) λe=>by rw[e];exact I x hx⟩,λy C=>(A y).mpr (.inl (T y C)),λy C=>(A y).mpr (by
   rw[cx,hu] at C;rcases bu.mp C with z|z
   .exact .inl (N y z)
   .exact .inr (V.int.inj (bn.mp z)))⟩
 .rintro M H' ⟨_,_,F,j,J,w,T,N⟩;rw[cR] at N;exact q H' j F J w T λr I lt hR=>N r (cu r I lt hR)
theorem J6{p:L}{u:Pl}(C:DkF K t)(h:tH t H lb (uj t d a n f wo cs ws kv la db en) a.mks a.re fo g lays (tZ ld) cs CC)(hd:DbOk ld db)(E:ld.length<=10)(hf:LoR fo ac)(hp:H p=U (.tup ((zB u).map kV)))(q:∀H' j,Fr M1 H H' lb lb->tH t H' lb (uj t d a n f wo cs ws kv la j en) a.mks a.re fo g lays (tZ ld) cs CC->DbOk ld j->(∀y∈db,y∈j)->(∀r,tZ ld u r->ac<r->(∀i,vT lays u i->ac<i->r<=i)->r∈j)->Q .non H') :
  YJ K t (mt Q) (zZZ 7 [.ref a.jb,.ref p,.int ac]) H:=by
 obtain⟨kk,T⟩:=h.rr;have e1:H a.jb=U (.ins t.q03 a.dj (KA a.mks a.la a.re a.db)):=h.at (i:=2) rfl;refine(zZ e1 C.cJ C.j3 Z Z ⟨a.re,Z,.inr ⟨_,.inl T.at_⟩,_,Z,(),λl hl=>?_⟩);generalize c_:upd H l _=H2;obtain⟨m,q2⟩:=yQ c_ hl;have h2:=h.same Z m;obtain⟨dx,gr,aa,rk,Mi⟩:=h2.ms.im;refine⟨_,.t (m _ _ T.at_) (m _ _ hp),?_⟩;have go:∃(c:L) (rs:List Int),((yj kk (zB u)).getD (.ref l))=.ref c/\H2 c=U (.lst (rs.map V.int))/\rs.Pairwise (· < ·)/\(∀r∈rs,r∈ld.map (·.1))/\∀r,tZ ld u r->r∈rs:=by
  rcases T.get u with ⟨c,rs,hk,G,fa,A,I,hne,J⟩|⟨G,_,no⟩
  .refine⟨c,rs,by rw[G];rfl,m _ _ A,I,λr M=>?_,λr z=>(J r).mpr z⟩;obtain⟨e,he,er,_⟩:=(J r).mp M;exact bD.mpr ⟨e,he,er⟩
  .exact⟨l,[],by rw[G];rfl,q2,fP,(),λr z=>absurd z (no r)⟩
 obtain⟨c,rs,ev,A,I,M,J⟩:=go;rw[ev];refine(zZ (m _ _ e1) C.cJ C.j1 Z Z ⟨a.mks,_,_,Z,Mi,vb (),_,Z,_,Z,a.mks,p,ac,_,g,lays,fo,u,Z,h2.ms,hf.2,m _ _ hp,λv H3 x G=>?_⟩);have h3:=h2.same Z x;have S3:=m.trans x;rcases G with ⟨rfl,_⟩|⟨i,rfl,hi2,lt2,_⟩
 .exact⟨_,Z,Z,_,Z,ym Z ⟨_,Z,.ref c,rs.length,Z,.inl ⟨_,aT.of (x _ _ A),(bd ..).symm⟩,J5 (R:=λ_=>True) C h3 hd E (x _ _ A) I M (λr z _ _=>by rw[cR];exact z) λH' j F o w N y=>q H' j ((Fr.same S3).trans F) o w N λr z lt _=>y r (J r z) lt trivial⟩⟩
 .refine⟨_,Z,Z,_,Z,ya Z ⟨_,Z,_,Z,_,_,Z,Z,c,rs,_,Z,x _ _ A,I,λk H4 O _ _ k2=>?_⟩⟩;refine J5 (R:=λr=>r<=i) C (h3.same Z O) hd E (O _ _ (x _ _ A)) I M (λr z _ hR=>?_) λH' j F o w N y=>q H' j ((Fr.same (S3.trans O)).trans F) o w N λr z lt hm=>y r (J r z) lt (hm i hi2 lt2);rw[<-da k rs] at z;rcases bu.mp z with z|z
  .exact z
  .have:=k2 r z;have:r<=i:=hR;lia
theorem Za(C:DkF K t)(h:tH t H lb Bp a.mks a.re fo g lays P cs CC)(l2:Bp[2]?=U (a.jb,.ins t.q03 a.dj (KA a.mks a.la a.re a.db)))(l6:Bp[6]?=U (a.la,.dK la))(hv:yj la (.inl ac)=U (.ref r))(h0:LoR fo ac){s:bv}(hp:uc H lb r s gi)(q1:∀H',aL H H'->Agr g lays ac s.no->Q .non H')(q2:∀v H' q y,aL H H'->FsN g lays ac s.no y->H' v=U (.tup [.ref q,.int y.2,.int (ye g lays y.1 ac)])->H' q=U (.tup [.str y.1.1,.int y.1.2])->Q (.ref v) H') :
  vM K t (mt Q) (zZZ 5 [.ref a.jb,.int ac]) H:=by
 obtain⟨o,nl,gl,e,_,⟨xs,l,J⟩,_,z1,z2⟩:=hp;have e1:=h.at l2;have e2:=h.at l6;obtain⟨dx,fs,im,_,sn,_⟩:=h.ms.ins;have dg:tP H a.la (.int ac) (U (.ref r)):=by
  have z:=tP.k (k:=.inl ac) e2
  rwa [hv] at z
 refine(zZ e1 C.cJ C.j2 Z Z ⟨_,Z,a.la,_,Z,dg,r,_,1,_,Z,Z,tI.of e,Z,nl,Z,⟨_,aT.of l⟩,xG xs (λi A H'=>(∃T O N,A=[U (.ref a.jb),U (.int ac),T,O,N])/\aL H H'/\Agr g lays ac (s.no.take i)) ⟨⟨_,_,_,Z⟩,aL.refl _,λ_ z=>nomatch z⟩ (λi A H' ⟨_,j,_⟩=>aT.of (j _ _ l)) ?_ ?_⟩)
 .rintro i u A H' hu ⟨⟨T,O,N,rfl⟩,j,m⟩;obtain⟨y,hy,w,p,rfl,ew,ep⟩:=Paired.getP J hu;refine⟨w,_,Z,tI.of (j _ _ ew),Z,_,_,Z,_,_,Z,Z,zZ (j _ _ e1) C.cJ C.j1 Z Z ⟨a.mks,_,_,Z,j _ _ im,sn,_,Z,_,Z,a.mks,p,ac,_,g,lays,fo,y.1,Z,h.ms.same j,h0,j _ _ ep,λH2 E=>?_⟩⟩;refine⟨_,Z,_,Z,Z,_,Z,?_⟩;by_cases c:ye g lays y.1 ac=y.2
  .exact ya (by rw[Bj (congrArg V.int c)];rfl) ⟨⟨_,_,_,Z⟩,j.trans E,λx l=>by
    rw[cx,hy] at l;rcases bu.mp l with z|z
    .exact m x z
    .rw[bn.mp z];exact c⟩
  .refine ym (by rw[Bk (λz=>c (V.int.inj z))];rfl) ⟨_,Z,_,Z,_,Z,by show 3<=Bb;rw[bL];decide,λM G=>?_⟩;have I:=tM (o:=HO.tup [V.ref p,V.int y.2,V.int (ye g lays y.1 ac)]) M G;exact q2 M _ p y (j.trans (E.trans I)) ⟨i,hy,m,c⟩ zj (I _ _ (E _ _ (j _ _ ep)))
 .rintro A H' ⟨_,j,m⟩;rw[bE J,cR] at m;exact q1 H' j m
end
end
section
variable {fo:Int}
section
variable {H':D}{lb lb':L->Nat}{d b:L}{a:um}{g:List aO}{lays:List (Int×List aO)}{P:Pl->Int->Prop}{cs en:List V}{CC:List (List Cs)}{n f ac:Int}{ws db:List Int}{kv la:List (aW×V)}{o o' wo:HO}{i:Nat}{r:L}{no gi:List aO}{ld:List (Int×bv×List aO)}{s:bv}
theorem uniq{c:Type}{x y:Int×c}:∀ {l:List (Int×c)},(l.map (·.1)).Nodup->x∈l->y∈l->x.1=y.1->x=y
 |z::l,nd,hx,hy,e=>by
  rw[bh,bW] at nd;rcases bw.mp hx with h1|h1 <;> rcases bw.mp hy with h2|h2
  .rw[h1,h2]
  .exact absurd (bD.mpr ⟨y,h2,by rw[<-e,h1]⟩) nd.1
  .exact absurd (bD.mpr ⟨x,h1,by rw[e,h2]⟩) nd.1
  .exact uniq nd.2 h1 h2 e
theorem qc(Bq:DkF K t)(h:tH t H lb (uj t d a n f wo cs ws kv la db en) a.mks a.re fo g lays (tZ ld) cs CC)(hl:Pk (Y7 H lb) la ld)(ha:DbA g lays ld db)(an:ld.length<=10)(nl:(ld.map (·.1)).Nodup)(h0:∀e∈ld,LoR fo e.1)(q1:∀H',Fr M1 H H' lb lb->tH t H' lb (uj t d a n f wo cs ws kv la [] en) a.mks a.re fo g lays (tZ ld) cs CC->DbA g lays ld []->Q .non H') (q2:∀v H' db' q r s gi y,Fr M1 H H' lb lb->tH t H' lb (uj t d a n f wo cs ws kv la db' en) a.mks a.re fo g lays (tZ ld) cs CC->DbA g lays ld db'->(∀x∈db',r<=x)->(r,s,gi)∈ld->FsN g lays r s.no y->H' v=U (.tup [.int r,.ref q,.int y.2,.int (ye g lays y.1 r)])->H' q=U (.tup [.str y.1.1,.int y.1.2])->Q (.ref v) H') :
  wT K t (mt Q) (zZZ 4 [.ref a.jb]) H:=by
 have hd:=ha.wk;have ll:=hd.len;refine(zZ (h.at (i:=2) Z) Bq.cJ Bq.j4 Z Z ⟨a.db,dbL db,db,Z,h.at (i:=7) Z,by unfold dbL;rw[dJ];rfl,by unfold dbL;rw[bd];lia,λl j aj hs hp=>?_⟩);have nd:j.Nodup:=hs.nodup_iff.mpr hd.nd;generalize c_:upd H l _=H2;obtain⟨s2,e2⟩:=yQ c_ aj;refine⟨_,Z,l,Z,⟨_,aT.of e2⟩,xG (j.map V.int) (λi O H'=>(∃o2 o3,O=[U (.ref a.jb),U (.ref l),o2,o3])/\H' l=U (.lst (j.map V.int))/\Fr M1 H H' lb lb/\∃db',tH t H' lb (uj t d a n f wo cs ws kv la db' en) a.mks a.re fo g lays (tZ ld) cs CC/\DbA g lays ld db'/\∀r,r∈j.drop i↔r∈db') ⟨⟨_,_,Z⟩,e2,Fr.same s2,db,h.same Z s2,ha,λr=>hs.mem_iff⟩ (λi O H' ⟨_,z,_⟩=>aT.of z) ?_ ?_⟩
 .rintro i u O H' hu ⟨⟨o2,o3,rfl⟩,J,F,db',A,k,E⟩;have w:=k.wk;rw[bt] at hu;obtain⟨x,C,rfl⟩:=bY.mp hu;have li:=(bq.mp C).1;have ex:j[i]=x:=(bq.mp C).2;have ed:j.drop i=x::j.drop (i+1):=by rw[gW li,ex]
  have xd:x∈db':=(E x).mp (by rw[ed];exact br);obtain⟨e,he,rfl⟩:=bD.mp (w.su x xd);have ai:=wB hl F (M:=M1) (.inr ());rcases ai.get (h:=e.1) with ⟨_,z⟩|⟨v,b,hv,hm,r,rfl,hr⟩
  .exact absurd (bB (f:=λe:Int×bv×List aO=>e.1) he) z
  refine⟨_,Z,a.jb,_,_,Z,A.at (i:=2) Z,Z,_,Z,d,a,lb,_,la,fo,g,lays,_,cs,CC,e.1,r,b.1,b.2,Z,A,Z,Z,hv,h0 e he,hr,λH3 p ag=>?_,λv H3 q y p hy m hq=>?_⟩
  .have m:=A.same Z p;refine⟨_,Z,Z,_,Z,ya Z (zZ (m.at (i:=2) Z) Bq.cJ Bq.j4 Z Z ⟨a.db,Z,.inl ⟨_,.inl (m.at (i:=7) Z)⟩,_,Z,dbL db',.inl e.1,_,m.at (i:=7) Z,Z,zha xd,?_⟩)⟩;rw[zef];have h4:=m.put (i:=7) (o':=.dK (dbL (db'.filter λy=>decide (y≠e.1)))) Z Z ();have F4:=m.fput (i:=7) (o':=.dK (dbL (db'.filter λy=>decide (y≠e.1)))) Z ();refine⟨⟨_,_,Z⟩,by rw[zm (zL (p _ _ J) (m.at (i:=7) Z) ())];exact p _ _ J,F.trans ((Fr.same p).trans F4),_,h4,⟨⟨w.nd.sublist dh,λr hr=>w.su r (bQ.mp hr).1⟩,λe' N nm=>?_⟩,λr=>?_⟩
   .by_cases c:e'.1=e.1
    .rw[uniq nl N hm c];exact ag
    .exact k.ag e' N λz=>nm (bQ.mpr ⟨z,Bj c⟩)
   .have G:=nd.sublist (m4 i j);rw[ed,bW] at G;have sr:=E r;rw[ed,bw] at sr;rw[bQ,decide_eq_true_eq,<-sr];exact⟨λz=>⟨.inr z,λy=>G.1 (by rw[<-y];exact z)⟩,λz=>z.1.resolve_left z.2⟩
  .have al:=A.same Z p;refine⟨_,Z,Z,_,Z,ym Z ⟨_,Z,by show 1<=Bb;rw[bL];decide,λp1 ae=>?_⟩⟩;generalize c_:upd H3 p1 _=H4;obtain⟨T,e4⟩:=yQ c_ ae;refine⟨_,Z,p1,v,_,_,Z,Z,tI.of e4,tI.of (T _ _ m),(),by show 1+3<=Bb;rw[bL];decide,?_⟩;refine⟨(),λ_ p2 aa=>?_⟩;have s5:=tM (o:=HO.tup [V.int e.1,V.ref q,V.int y.2,V.int (ye g lays y.1 e.1)]) p2 aa;refine q2 p2 _ db' q e.1 b.1 b.2 y (F.trans (Fr.same (p.trans (T.trans s5)))) (al.same Z (T.trans s5)) k (λx C=>?_) hm hy zj (s5 _ _ (T _ _ hq));have I:=hp.sublist (m4 i j);have sx:=(E x).mpr C;rw[ed] at I sx;rcases bw.mp sx with z|z
   .exact Int.le_of_eq z.symm
   .exact rY (mO I z)
 .rintro O H' ⟨_,_,F,db',A,k,E⟩;have:db'=[]:=List.eq_nil_iff_forall_not_mem.mpr λx C=>by
   have:=(E x).mpr C;rw[bd,sg] at this;cases this
  rw[this] at A k;exact q1 H' F A k
theorem zeg{c:List aO}{e:aO}(m:(c.map (·.1)).Nodup)(h:c[i]?=U e):e.1 ∉ (c.take i).map (·.1):=λz=>by
 obtain⟨j,k⟩:=cV z;rw[bt,eu] at k;split at k
 .rename_i hji;have l:(c.map (·.1))[j]?=U e.1:=by rw[bt];exact k
  have p:(c.map (·.1))[i]?=U e.1:=by rw[bt,h];rfl
  have:=(gM (bq.mp l).1 m).mp (l.trans p.symm);lia
 .cases k
theorem zck{e:List aO}{c:aO}{p:Pl}(h:e[i]?=U c):p∈(e.take (i+1)).map (·.1)↔p∈(e.take i).map (·.1)\/p=c.1:=by
 rw[cx,h,bN,bu];have:p∈oW (·.1) (U c).toList↔p=c.1:=by simp
 rw[this]
def tkI(a:um)(v:V)(ac:Int)(G:L->Prop)(P:Pl->Int->Prop)(no:List aO)(H:D)(i:Nat)(c:St)(H':D):Prop:=(∃h e,c=[U (.ref a.jb),U (.int ac),U v,h,e])/\hV G a.re H H'/\Dm H H'/\∃k,tz H' a.re G (λp j=>P p j/\¬ (j=ac/\p∈(no.take i).map (·.1))) k
theorem X3(I:DkF K t)(h:tH t H lb (uj t d a n f wo cs ws kv la db en) a.mks a.re fo g lays (tZ ld) cs CC)(hl:Pk (Y7 H lb) la ld)(ha:DbA g lays ld db)(nl:(ld.map (·.1)).Nodup)(hm:(ac,s,gi)∈ld)(nd:(s.no.map (·.1)).Nodup)(q:∀r H' lb' M T,Fr M1 H H' lb lb'->tH t H' lb' (uj t d a n f wo cs ws kv M T en) a.mks a.re fo g lays (tZ (yk ld ac)) cs CC->Pk (Y7 H' lb') M (yk ld ac)->DbA g lays (yk ld ac) T->uc H' lb' r s gi->Q (.ref r) H') :
  kY K t (mt Q) (zZZ 5 [.ref a.jb,.int ac]) H:=by
 rcases hl.get (h:=ac) with ⟨_,z⟩|⟨v,b,hv,hb,r,rfl,hr⟩
 .exact absurd (bB (f:=λe:Int×bv×List aO=>e.1) hm) z
 obtain rfl:b=(s,gi):=by have:=uniq nl hb hm rfl;injection this
 refine(zZ (h.at (i:=2) Z) I.cJ I.j2 Z Z ⟨a.la,Z,.inl ⟨_,.inl (h.at (i:=6) Z)⟩,_,Z,_,.inl ac,_,h.at (i:=6) Z,Z,hv,?_⟩);have E:=h.put (i:=6) (o':=.dK (yz la (.inl ac))) Z Z ();have F2:=h.fput (i:=6) (o':=.dK (yz la (.inl ac))) Z ();generalize upd H a.la (.dK (yz la (.inl ac)))=H2 at *
 have E:tH t H2 lb (uj t d a n f wo cs ws kv (yz la (.inl ac)) db en) a.mks a.re fo g lays (tZ ld) cs CC:=E;have fin:∀H3 C,Fr M1 H H3 lb lb->tH t H3 lb (uj t d a n f wo cs ws kv (yz la (.inl ac)) C en) a.mks a.re fo g lays (tZ ld) cs CC->DbA g lays (yk ld ac) C->zt (qZ (wF K (aN (yR K) (B 2) (tC (.int 1)))) (zet K 2 (Zc (zv 3) (Zc (zv 4) zes))) (yn (zO xW [] E0 (zd (zU K (B 0) "readers") (zd (B 3) (zd (B 1) zk)))))) (zJ (B 2)) (mt Q) [U (.ref a.jb),U (.int ac),U (.ref r),am,am] H3:=λH3 C F3 h3 ag=>by
  obtain⟨o,aa,gl,er,_,⟨xs,m,px⟩,_,z1,z2⟩:=hr.fr F3 (.inr ());have e1:H3 a.jb=U (.ins t.q03 a.dj (KA a.mks a.la a.re a.db)):=h3.at (i:=2) rfl;have rl:=h3.rl;obtain⟨kk,r0⟩:=h3.rr;refine⟨_,Z,r,_,1,_,Z,Z,tI.of er,Z,aa,Z,⟨_,aT.of m⟩,xG xs (tkI a (.ref r) ac (λb=>lb b=11\/H3 b=am) (tZ ld) s.no H3) ⟨⟨_,_,Z⟩,hV.refl,Dm.refl,kk,(r0.keep (F':=λb=>lb b=11\/H3 b=am) rl (λb o _ e=>e) λ_ z=>.inl z).eqv λp i=>by simp⟩ (λi σ H' ⟨_,k,_⟩=>aT.of (k _ _ m (λz=>by rw[z,rl] at z1;cases z1) (.inr λz=>z.elim (λy=>by rw[z1] at y;cases y) λy=>by rw[m] at y;cases y))) ?_ ?_⟩
  .rintro i u σ H' hu ⟨⟨o3,o4,rfl⟩,k,dm,N,A⟩;obtain⟨y,hy,w,p,rfl,ew,G⟩:=Paired.getP px hu;have tk:∀b zs,H3 b=U (.tup zs)->H' b=U (.tup zs):=λb zs e=>k _ _ e (zL e r0.at_ ()) (.inl λ_ z=>nomatch z);refine⟨w,_,Z,tI.of (tk _ _ ew),Z,_,_,Z,_,_,Z,Z,zZ (k _ _ e1 (zL e1 r0.at_ ()) (.inl λ_ z=>nomatch z)) I.cJ I.j3 Z Z ⟨_,Z,_,Z,a.re,p,ac,_,_,N,y.1,Z,A,.inl rl,tk _ _ G,⟨⟨_,hm,Z,bB (bJ hy)⟩,λz=>zeg nd hy z.2⟩,λH3 ae k3 d3 r3=>⟨⟨_,_,Z⟩,k.trans k3,dm.trans d3,ae,r3.eqv λp j=>?_⟩⟩⟩;rw[zck hy];exact⟨λ⟨⟨a,b⟩,c⟩=>⟨a,λd=>d.2.elim (λe=>b ⟨d.1,e⟩) λe=>c ⟨d.1,e⟩⟩,λ⟨a,b⟩=>⟨⟨a,λc=>b ⟨c.1,.inl c.2⟩⟩,λc=>b ⟨c.1,.inr c.2⟩⟩⟩
  .rintro σ H' ⟨⟨o3,o4,rfl⟩,k,dm,N,A⟩;rw[bE px,cR] at A;obtain⟨lb',F4,h4⟩:=h3.regrow Z k dm (A.eqv (P':=tZ (yk ld ac)) λp i=>⟨λ⟨⟨e,l,O,G⟩,z⟩=>⟨e,hU.mpr ⟨l,λy=>z ⟨O.symm.trans y,by rw[uniq nl l hm y] at G;exact G⟩⟩,O,G⟩,λ⟨e,l,O,G⟩=>⟨⟨e,(hU.mp l).1,O,G⟩,λz=>(hU.mp l).2 (O.trans z.1)⟩⟩);have F5:=F3.trans F4;exact⟨_,Z,q r H' lb' _ C F5 h4 (wB hl F5 (.inr ())).drop ag (hr.fr F5 (.inr ()))⟩
 have hd:=ha.wk;have J:∀x,x∈db->x≠ac->x∈(yk ld ac).map (·.1):=λx m n=>by
  obtain⟨e,l,rfl⟩:=bD.mp (hd.su x m);exact bB (f:=λe:Int×bv×List aO=>e.1) (hU.mpr ⟨l,n⟩)
 have h7:H2 a.db=U (.dK (dbL db)):=E.at (i:=7) rfl;refine(zZ (E.at (i:=2) Z) I.cJ I.j4 Z Z ⟨a.db,Z,.inl ⟨_,.inl h7⟩,_,Z,dbL db,.inl ac,h7,Z,λv _=>?_,λz=>?_⟩)
 .rw[zef];have h4:=E.put (i:=7) (o':=.dK (dbL (db.filter λy=>decide (y≠ac)))) Z Z ();have F4:=E.fput (i:=7) (o':=.dK (dbL (db.filter λy=>decide (y≠ac)))) Z ();exact fin _ _ (F2.trans F4) h4 ⟨⟨hd.nd.sublist dh,λx m=>J x (bQ.mp m).1 (of_decide_eq_true (bQ.mp m).2)⟩,λe l nm=>ha.ag e (hU.mp l).1 λz=>nm (bQ.mpr ⟨z,Bj (hU.mp l).2⟩)⟩
 .exact fin _ _ F2 E ⟨⟨hd.nd,λx m=>J x m λe=>by rw[<-e,zha m] at z;cases z⟩,λe l=>ha.ag e (hU.mp l).1⟩
end
end
section
variable {fo:Int}
section
variable {H':D}{lb lb':L->Nat}{Bp:List (L×HO)}{m re d b:L}{a:um}{g:List aO}{lays:List (Int×List aO)}{P:Pl->Int->Prop}{cs en:List V}{CC:List (List Cs)}{n f ac:Int}{ws db:List Int}{kv la:List (aW×V)}{o o' wo:HO}{i:Nat}{r:L}{no gi:List aO}{ld:List (Int×bv×List aO)}{s:bv}
open Classical in
theorem tH.relay{F':L->Prop}{j:List (Int×List aO)}{fo2:Int}(h:tH t H lb Bp m re fo g lays P cs CC)(ll:Bp.length=9)(k:∀b o,lb b≠10->H b=U o->H' b=U o)(A:TSm H H')(M:tO t H' m F' g j fo2)(E:∀b,F' b->lb b=10\/H b=am)(u:∀b,lb b=10->F' b):∃lb',Fr M1 H H' lb lb'/\tH t H' lb' Bp m re fo2 g j P cs CC:=by
 have e0:∀b,lb b≠0->¬ lb b=10->¬ F' b:=λb z y w=>(E b w).elim y λv=>by obtain⟨o,e⟩:=h.ow b z;rw[v] at e;cases e
 have p:∀b,lb b≠0->(if F' b then 10 else lb b)=lb b:=λb z=>by
  by_cases y:lb b=10
  .rw[au (u b y),y]
  .rw[ao (e0 b z y)]
 have x:(λb=>(if F' b then 10 else lb b)=10)=F':=funext λb=>propext ⟨λz=>by
  by_cases y:F' b
  .exact y
  .rw[ao y] at z;exact u b z,λz=>au z⟩
 have G:∀b o,H b=U o->∃o',H' b=U o':=λb o e=>by
  by_cases y:lb b=10
  .exact M.own b (u b y)
  .exact⟨o,k b o y e⟩
 have rl:=h.rl;obtain⟨kk,J⟩:=h.rr;refine⟨λb=>if F' b then 10 else lb b,⟨λb o e=>?_,λb o z e=>k b o (by unfold M1 at z;lia) e,A,G⟩,λi b o e=>?_,by rw[x];exact M,⟨kk,J.keep rl (λb o fb e=>k b o () e) λb z=>(p b ()).trans z⟩,(p _ ()).trans rl,Paired.mapP h.cc λv C ⟨⟨c,I,l,O,N⟩,q⟩=>⟨⟨c,I,l,k c _ (by rw[q c l];decide) O,xC A N⟩,λc l=>(p c (by rw[q c l];decide)).trans (q c l)⟩,λb T=>?_⟩
 .by_cases y:F' b
  .rw[au y];exact((E b y).resolve_right λz=>by rw[z] at e;cases e).symm
  .rw[ao y]
 .obtain⟨h1,h2⟩:=h.ob i b o e;have:=(bq.mp e).1;exact⟨k b o () h1,(p b ()).trans h2⟩
 .by_cases y:F' b
  .exact M.own b y
  .obtain⟨o,e⟩:=h.ow b (λz=>T ((ao y).trans z));exact G b o e
theorem zi8(h:Paired (zbU H) ys (tF gs)):∀y∈ys,∃c q,y=.ref c/\H c=U (.tup ((zB q).map kV)):=λy j=>by
 obtain⟨i,l⟩:=cV j;obtain⟨kv,k,c,e,p⟩:=Paired.getP h l;obtain⟨w,u,_⟩:=JO gs;have z:=bB (f:=λx:List aW×V=>x.1) (bJ k);rw[u] at z;obtain⟨q,_,v⟩:=bD.mp z;exact⟨c,q,e,by rw[v];exact p⟩
theorem zhb{e:List V}{c:List aO}(h:Paired (zbU H) e (tF c))(j:(c.map (·.1)).Nodup):e.length=c.length:=by rw[bE h,Y8 j,bd]
def ptI(a:um)(r:L)(ac:Int)(l:L)(G:L->Prop)(P:Pl->Int->Prop)(no:List aO)(H:D)(i:Nat)(c:St)(H':D):Prop:=(∃h e,c=[U (.ref a.jb),U (.int ac),U (.ref r),U (.ref l),h,e])/\hV G a.re H H'/\Dm H H'/\∃k,tz H' a.re G (λp j=>P p j\/j=ac/\p∈(no.take i).map (·.1)) k
theorem ze6{g:List aO}{l c:List (Int×List aO)}{p:Pl}{r k:Int}(nd:(l.map (·.1)).Nodup)(x:(c.map (·.1)).Nodup)(T:∀y∈l,0<=y.1)(M:∀y∈c,0<=y.1)(v:∀y∈l,y.1≠r->y∈c)(C:∀y∈c,y.1≠r->y∈l) (G:k<=r\/((∀y∈l,y.1=r->zC y.2 p=am)/\∀y∈c,y.1=r->zC y.2 p=am)\/∃y∈l,r<y.1/\y.1<k/\zC y.2 p≠am):ye g l p k=ye g c p k:=by
 unfold ye;have J:∀y∈l,y.1<k->zC y.2 p≠am->(∀z∈l,z.1<k->zC z.2 p≠am->z.1<=y.1)->y.1≠r:=λy q O j A e=>by
  rcases G with h|⟨h,_⟩|⟨z,hz,h1,h2,h3⟩
  .lia
  .exact j (h y q e)
  .have:=A z hz h2 h3;lia
 have I:∀y∈c,y.1<k->zC y.2 p≠am->(∀z∈c,z.1<k->zC z.2 p≠am->z.1<=y.1)->y.1≠r:=λy q O j A e=>by
  rcases G with h|⟨_,h⟩|⟨z,hz,h1,h2,h3⟩
  .lia
  .exact j (h y q e)
  .have:=A z (v z hz ()) h2 h3;lia
 rcases x9 p k l (-1,(zC g p).getD 0) with ⟨e1,n1⟩|⟨y,q,w,e1,e2,e3,e4,e5⟩ <;> rcases x9 p k c (-1,(zC g p).getD 0) with ⟨f1,n2⟩|⟨y',hy',w',f1,f2,f3,f4,f5⟩
 .rw[e1,f1]
 .have j:zC y'.2 p≠am:=by rw[f1];exact λz=>nomatch z
  have:=n1 y' (C y' hy' (I y' hy' f2 j f5)) f3 f2;exact absurd this j
 .have j:zC y.2 p≠am:=by rw[e1];exact λz=>nomatch z
  have:=n2 y (v y q (J y q e2 j e5)) e3 e2;exact absurd this j
 .have j:zC y.2 p≠am:=by rw[e1];exact λz=>nomatch z
  have u:zC y'.2 p≠am:=by rw[f1];exact λz=>nomatch z
  have E:=v y q (J y q e2 j e5);have N:=C y' hy' (I y' hy' f2 u f5);have:y=y':=uniq x E hy' (Int.le_antisymm (f5 y E e2 j) (e5 y' N f2 u));rw[e4,f4];rw[this,f1] at e1;exact(bH e1).symm
theorem zi9{e:List V}{j:List aO}{p:Pl}(h:Paired (zbU H) e (tF j))(q:(j.map (·.1)).Nodup)(z:p∈j.map (·.1)):∃c,.ref c∈e/\H c=U (.tup ((zB p).map kV)):=by
 obtain⟨w,x⟩:=Option.ne_none_iff_exists'.mp ((xz q).mp z);obtain⟨i,l⟩:=cV (uu.mpr ⟨p,w,Z,x⟩);obtain⟨v,k⟩:∃v,e[i]?=U v:=⟨_,bb (by rw[bE h];exact(bq.mp l).1)⟩;obtain⟨y,u,c,rfl,A⟩:=Paired.getP h k;cases l.symm.trans u;exact⟨c,bJ k,A⟩
def Dd(ld:List (Int×bv×List aO))(lays:List (Int×List aO))(ac:Int)(p:Pl)(db:List Int):Prop:=∀r,tZ ld p r->ac<r->(∀i,vT lays p i->ac<i->r<=i)->r∈db
theorem ziB{p q:Pl}(h:HO.tup ((zB p).map kV)=.tup ((zB q).map kV)):p=q:=by
 injection h with h;have h:[V.str p.1,V.int p.2]=[V.str q.1,V.int q.2]:=h;injection h with h1 h2;injection h2 with h2;exact ss (V.str.inj h1) (V.int.inj h2)
theorem zj1{g:List aO}{lays:List (Int×List aO)}{ld:List (Int×bv×List aO)}{ac:Int}{gi u:List aO}{v:List Int}{e:Int×bv×List aO}(C:(lays.map (·.1)).Nodup)(G:∀y∈lays,0<=y.1)(h0:0<=ac)(M:(gi.map (·.1)).Nodup)(k:∀y∈lays,(y.2.map (·.1)).Nodup)(T:(ac,u)∈lays\/(ac ∉ lays.map (·.1)/\u=[]))(he:e∈ld)(ag:Agr g lays e.1 e.2.1.no)(no:e.1 ∉ v)(dd:∀p,p∈u.map (·.1)\/p∈gi.map (·.1)->Dd ld (yZ lays ac gi) ac p v):Agr g (yZ lays ac gi) e.1 e.2.1.no:=by
 have c:∀y,y∈yZ lays ac gi↔(y∈lays/\y.1≠ac)\/y=(ac,gi):=λy=>by
  unfold yZ;rw[bu,bQ,decide_eq_true_eq,bn]
 have A:((yZ lays ac gi).map (·.1)).Nodup:=by
  unfold yZ;rw[bN,dn];refine⟨C.sublist (gc _ dh),bW.mpr ⟨cC,cO⟩,λa ha b hb=>?_⟩;obtain⟨y,j,rfl⟩:=bD.mp ha;rw[bn.mp hb];exact of_decide_eq_true (bQ.mp j).2
 intro y j;rw[<-ag y j];refine(ze6 (r:=ac) C A G (λy j=>?_) (λy j n=>(c y).mpr (.inl ⟨j,n⟩)) (λy j n=>((c y).mp j).elim (λz=>z.1) λz=>absurd (by rw[z]) n) ?_).symm
 .rcases(c y).mp j with z|z
  .exact G y z.1
  .rw[z];exact h0
 by_cases c1:e.1<=ac
 .exact .inl c1
 by_cases c2:y.1∈u.map (·.1)\/y.1∈gi.map (·.1)
 .refine .inr (.inr ?_);have:=dd y.1 c2 e.1 ⟨e,he,Z,bB (f:=(·.1)) j⟩ ();obtain⟨i,E⟩:=Classical.not_forall.mp λz=>no (this z);obtain⟨⟨q,hg,O⟩,E⟩:=rG.mp E;obtain⟨N,J⟩:=rG.mp E;have I:(i,q)∈lays:=((c _).mp hg).elim (λz=>z.1) λz=>by cases z;lia
  exact⟨(i,q),I,N,by show i<e.1;lia,(xz (k _ I)).mp O⟩
 .refine .inr (.inl ⟨λx l w=>?_,λx l w=>?_⟩)
  .refine mP λz=>c2 (.inl ?_);have:u=x.2:=by
    rcases T with h|⟨h,_⟩
    .have:=uniq C h l w.symm;rw[<-this]
    .exact absurd (by rw[<-w];exact bB (f:=(·.1)) l) h
   rw[this];exact(xz (k x l)).mpr z
  .refine mP λz=>c2 (.inr ?_);rcases(c x).mp l with y|rfl
   .exact absurd w y.2
   .exact(xz M).mpr z
theorem zja{c:List aO}(h:fo<=ac)(x:(ac,c)∈lays.filter (λy=>decide (fo<=y.1))\/(ac ∉ (lays.filter λy=>decide (fo<=y.1)).map (·.1)/\c=[])):(ac,c)∈lays\/(ac ∉ lays.map (·.1)/\c=[]) :=
 x.imp (λz=>(bQ.mp z).1) λz=>⟨λy=>z.1 (by
  obtain⟨e,k,j⟩:=bD.mp y;exact bD.mpr ⟨e,bQ.mpr ⟨k,Bj (by rw[j];exact h)⟩,j⟩),z.2⟩
theorem X4(J:DkF K t)(h:tH t H lb (uj t d a n f wo cs ws kv la db en) a.mks a.re fo g lays (tZ ld) cs CC)(hl:Pk (Y7 H lb) la ld)(ha:DbA g lays ld db)(ap:∀e∈ld,zdi e.2.1.no e.2.2)(bi:ld.length<=10)(nr:ac ∉ ld.map (·.1))(h0:LoR fo ac)(ll:lays.length<=10)(hp:uc H lb r s gi)(nt:zdi s.no gi) (q:∀H' lb' ar v,Fr M1 H H' lb lb'->tH t H' lb' (uj t d a n f wo cs ws kv ar v en) a.mks a.re fo g (yZ lays ac gi) (tZ (ld++[(ac,s,gi)])) cs CC->Pk (Y7 H' lb') ar (ld++[(ac,s,gi)])->DbA g (yZ lays ac gi) (ld++[(ac,s,gi)]) v->Q .non H') :
  k7 K t (mt Q) (zZZ 6 [.ref a.jb,.int ac,.ref r]) H:=by
 have hd:=ha.wk;have al:=h.ms;have e1:H a.jb=U (.ins t.q03 a.dj (KA a.mks a.la a.re a.db)):=h.at (i:=2) rfl;obtain⟨dx,gr,a8,rk,Mi⟩:=h.ms.im;obtain⟨g0,M0,_⟩:=h.ms.ex;refine(zZ e1 J.cJ J.j1 Z Z ⟨a.mks,_,_,Z,Mi,vb (),_,Z,_,_,_,_,_,_,Z,M0,λl ys gs H1 s1 bl bk A ho=>?_⟩);have ho:=zja h0.2 ho;have ok:Ws gs:=ho.elim (λz=>(h.ms.ok _ z).2) λz=>by rw[z.2];exact⟨cO,bS _⟩
 have b3:ys.length<=63:=by rw[zhb A ok.nd];exact ok.le
 have h1:=h.same Z s1;obtain⟨o,nl,gl,er,_,ln,lg,z1,z2⟩:=hp.fr (Fr.same (M:=M1) s1) (.inr ());refine(zZ (s1 _ _ e1) J.cJ J.j1 Z Z ⟨a.mks,_,_,Z,s1 _ _ Mi,vb (),_,Z,_,Z,r,_,2,_,Z,Z,tI.of er,Z,_,_,_,_,_,_,_,_,Z,h1.ms,h0,lg,(λz=>by rw[z2] at z;cases z),⟨nt.ng,bM nt.lg ()⟩,bM ll (),λH2 F2 k2 t2 m2 f2 g2=>?_⟩);obtain⟨E,aa,h2⟩:=h1.relay Z k2 t2 m2 f2 g2;have F2:=(Fr.same s1).trans aa;have e2:H2 a.jb=U (.ins t.q03 a.dj (KA a.mks a.la a.re a.db)):=h2.at (i:=2) rfl;have a5:H2 l=U (.lst ys):=aa.kp _ _ (.inl (h.out bl)) bk;have aS:=zi8 A;clear Mi M0;obtain⟨dx,gr,a8,rk,Mi⟩:=h2.ms.im;obtain⟨g0,M0,_⟩:=h2.ms.ex;refine⟨_,Z,zZ e2 J.cJ J.j1 Z Z ⟨a.mks,_,_,Z,Mi,vb (),_,Z,_,_,_,_,_,_,Z,M0,λl2 G gs2 H3 s3 cb a4 ae O=>?_⟩⟩;have O:=zja h0.2 O;have ai:Ws gs2:=O.elim (λz=>(h2.ms.ok _ z).2) λz=>by rw[z.2];exact⟨cO,bS _⟩
 have b2:G.length<=63:=by rw[zhb ae ai.nd];exact ai.le
 have az:=zi8 ae;refine⟨l,l2,ys,G,Z,Z,s3 _ _ a5,a4,by rw[bL];lia,λp a3=>?_⟩;generalize c_:upd H3 p _=H4;obtain⟨s4,e4⟩:=yQ c_ a3;have S4:=s3.trans s4;have ky:∀y∈ys++G,∃c q,y=.ref c/\H4 c=U (.tup ((zB q).map kV)):=λy A=>by
  rcases bu.mp A with z|z
  .obtain⟨c,q,e,I⟩:=aS y z;exact⟨c,q,e,S4 _ _ (aa.ts _ _ I)⟩
  .obtain⟨c,q,e,I⟩:=az y z;exact⟨c,q,e,s4 _ _ I⟩
 have a2:∀p,p∈gs.map (·.1)\/p∈gi.map (·.1)->∃c,.ref c∈ys++G/\H4 c=U (.tup ((zB p).map kV)):=λp z=>by
  rcases z with z|z
  .obtain⟨c,m,I⟩:=zi9 A ok.nd z;exact⟨c,cI _ m,S4 _ _ (aa.ts _ _ I)⟩
  .have eg:gs2=gi:=by
    have m0:(ac,gi)∈yZ lays ac gi:=by unfold yZ;exact bP _ (bn.mpr Z)
    rcases O with h|⟨h,_⟩
    .have:=uniq h2.ms.nd h m0 rfl;injection this
    .exact absurd (bB (f:=(·.1)) m0) h
   obtain⟨c,m,I⟩:=zi9 ae ai.nd (by rw[eg];exact z);exact⟨c,bP _ m,s4 _ _ I⟩
 have lp:E p=0:=h2.out (zH s3 a3);refine⟨p,Z,⟨_,aT.of e4⟩,xG (ys++G) (λi σ H'=>(∃o4,σ=[U (.ref a.jb),U (.int ac),U (.ref r),U (.ref l),o4,am])/\Fr M1 H4 H' E E/\∃v,tH t H' E (uj t d a n f wo cs ws kv la v en) a.mks a.re fo g (yZ lays ac gi) (tZ ld) cs CC/\DbOk ld v/\(∀y∈db,y∈v)/\∀c p,.ref c∈(ys++G).take i->H4 c=U (.tup ((zB p).map kV))->Dd ld (yZ lays ac gi) ac p v) ⟨⟨_,Z⟩,Fr.same (aL.refl _),db,h2.same Z S4,hd,(λ_ z=>z),λ_ _ z=>nomatch z⟩ (λi σ H' ⟨_,F,_⟩=>aT.of (F.kp _ _ (.inl lp) e4)) ?_ ?_⟩
 .rintro i u σ H' hu ⟨⟨o4,rfl⟩,F,v,h',T,su,dd⟩;obtain⟨c,q0,rfl,I⟩:=ky u (bJ hu);refine⟨_,Z,a.jb,_,_,Z,h'.at (i:=2) Z,Z,_,Z,_,Z,⟨d,a,E,n,f,fo,wo,cs,ws,kv,la,v,en,g,_,ld,CC⟩,c,ac,q0,Z,h',T,bi,h0,F.ts _ _ I,λH6 b1 F6 h6 b0 an y6=>⟨⟨_,Z⟩,F.trans F6,b1,h6,b0,λy A=>an y (su y A),λc' p' m a6=>?_⟩⟩;rw[cx,hu] at m;rcases bu.mp m with m|m
  .exact λr z1 z2 z3=>an r (dd c' p' m a6 r z1 z2 z3)
  .cases bn.mp m;cases ziB (bH (a6.symm.trans I));exact y6
 .rintro σ H' ⟨⟨o4,rfl⟩,F,v,h5,T,su,dd⟩;rw[cR] at dd;have ag:∀e∈ld,e.1 ∉ v->Agr g (yZ lays ac gi) e.1 e.2.1.no:=λe C nm=>zj1 al.nd (λy A=>(al.ok y A).1) (oQ h0.1 h0.2) nt.ng (λy A=>(al.ok y A).2.nd) ho C (ha.ag e C λz=>nm (su _ z)) nm λp z=>let ⟨c,m,I⟩:=a2 p z;dd c p m I
  clear dd a2 su;have F5:=F2.trans ((Fr.same S4).trans F);clear F s4 e4 S4 a4 s3 Mi M0 F2 h2 e2 a5 e1 h1 ln lg er ho O ky aS az A ae aa lp;have b4:la.length=ld.length:=bE hl;refine⟨_,Z,zZ (h5.at (i:=2) Z) J.cJ J.j2 Z Z ⟨_,Z,a.la,_,Z,.k (k:=.inl ac) (h5.at (i:=6) Z) (by rw[bL];lia),?_⟩⟩;have h6:=h5.put (i:=6) (o':=.dK (yS la (.inl ac) (.ref r))) Z Z ();have F6:=F5.trans (h5.fput (i:=6) (o':=.dK (yS la (.inl ac) (.ref r))) Z ());generalize upd H' a.la (.dK (yS la (.inl ac) (.ref r)))=H6 at *
  clear h5 F5;have h6:tH t H6 E (uj t d a n f wo cs ws kv (yS la (.inl ac) (.ref r)) v en) a.mks a.re fo g (yZ lays ac gi) (tZ ld) cs CC:=h6;have b5:=T.len;obtain⟨H7,db7,dp,a7,h7,be,aj,_⟩:=h6.dbt ac ();refine(zZ (h6.at (i:=2) Z) J.cJ J.j4 Z Z ⟨_,Z,a.db,H7,Z,dp,?_⟩);have F7:=F6.trans a7;have bz:DbA g (yZ lays ac gi) (ld++[(ac,s,gi)]) db7:=⟨⟨be T.nd,λy A=>by
   rw[bN,bu];exact((aj y).mp A).imp (T.su y) λe=>bn.mpr e⟩,λe C nm=>by
   rcases bu.mp C with z|z
   .exact ag e z λy=>nm ((aj _).mpr (.inl y))
   .cases bn.mp z;exact absurd ((aj _).mpr (.inr Z)) nm⟩
  clear h6 F6 a7 dp;obtain⟨o,nl,gl,er,_,⟨xs,hx,px⟩,lg,z1,z2⟩:=hp.fr F7 (.inr ());have e1:H7 a.jb=U (.ins t.q03 a.dj (KA a.mks a.la a.re a.db)):=h7.at (i:=2) rfl;have rl:=h7.rl;obtain⟨kk,r0⟩:=h7.rr;refine⟨_,Z,r,_,1,_,Z,Z,tI.of er,Z,nl,Z,⟨_,aT.of hx⟩,xG xs (ptI a r ac l (λb=>E b=11\/H7 b=am) (tZ ld) s.no H7) ⟨⟨_,_,Z⟩,hV.refl,Dm.refl,kk,(r0.keep (F':=λb=>E b=11\/H7 b=am) rl (λb o _ e=>e) λ_ z=>.inl z).eqv λp i=>by simp⟩ (λi σ H' ⟨_,k,_⟩=>aT.of (k _ _ hx (λz=>by rw[z,rl] at z1;cases z1) (.inr λz=>z.elim (λy=>by rw[z1] at y;cases y) λy=>by rw[hx] at y;cases y))) ?_ ?_⟩
  .rintro i u σ H' hu ⟨⟨o3,o4,rfl⟩,k,dm,a1,N⟩;obtain⟨y,A,w,p,rfl,ew,ep⟩:=Paired.getP px hu;have tk:∀b zs,H7 b=U (.tup zs)->H' b=U (.tup zs):=λb zs e=>k _ _ e (zL e r0.at_ ()) (.inl λ_ z=>nomatch z);refine⟨w,_,Z,tI.of (tk _ _ ew),Z,_,_,Z,_,_,Z,Z,?_⟩;have np:=zeg nt.nd A;have a9:∀ {p:Pl},p∈(s.no.take i).map (·.1)->p∈s.no.map (·.1):=λz=>by
    obtain⟨x,hx,rfl⟩:=bD.mp z;exact bB (dq hx)
   have rk:∀p j,tZ ld p j->j∈ld.map (·.1):=λp j ⟨e,C,ei,_⟩=>bD.mpr ⟨e,C,ei⟩;refine(zZ (k _ _ e1 (zL e1 r0.at_ ()) (.inl λ_ z=>nomatch z)) J.cJ J.j3 Z Z ⟨_,Z,_,Z,a.re,p,ac,_,_,a1,y.1,Z,N,.inl rl,λb z=>.inr ?_,tk _ _ ep,λz=>z.elim (λz=>nr (rk _ _ z)) λz=>np z.2,?_,λrs hp ha=>?_,λH3 bj k3 d3 r3=>⟨⟨_,_,Z⟩,k.trans k3,dm.trans d3,bj,r3.eqv λp j=>?_⟩⟩)
   .cases e:H7 b with
    |none=>rfl
    |some o=>obtain⟨o',e',_⟩:=dm b o e;rw[z] at e';cases e'
   .refine zgZ (l:=ld.map (λe=>(e.1,e.2.1.no))++[(ac,s.no)]) N (λp r z=>?_) (λy A=>?_) (by rw[bx,bd];show _+1<=300;lia)
    .rcases z with ⟨e,C,ei,ep⟩|z
     .exact⟨e.2.1.no,cI _ (bD.mpr ⟨e,C,by rw[<-ei]⟩),ep⟩
     .exact⟨s.no,bP _ (by rw[z.1];exact bn.mpr Z),a9 z.2⟩
    .rcases bu.mp A with z|z
     .obtain⟨e,C,rfl⟩:=bD.mp z;exact⟨(ap e C).nd,bM (ap e C).ln ()⟩
     .cases bn.mp z;exact⟨nt.nd,bM nt.ln ()⟩
   .have:=xI (b:=ld.map (·.1)) (hp.imp λz=>rX z) λx hx=>(ha x hx).elim (rk _ _) λz=>absurd z.2 np;rw[bd] at this;lia
   .rw[zck A,and_or_left,or_assoc]
  .rintro σ H' ⟨⟨o3,o4,rfl⟩,k,dm,a1,N⟩;rw[bE px,cR] at N;obtain⟨lb',F8,h8⟩:=h7.regrow Z k dm (N.eqv (P':=tZ (ld++[(ac,s,gi)])) λp i=>⟨λz=>z.elim (λ⟨e,C,z⟩=>⟨e,cI _ C,z⟩) λz=>⟨_,bP _ (bn.mpr Z),z.1.symm,z.2⟩,λ⟨e,C,z⟩=>(bu.mp C).imp (λC=>⟨e,C,z⟩) λC=>by cases bn.mp C;exact⟨z.1.symm,z.2⟩⟩);have F9:=F7.trans F8;exact q H' lb' _ db7 F9 h8 ((wB hl F9 (.inr ())).put nr ⟨r,Z,hp.fr F9 (.inr ())⟩) bz
end
end
section
variable {fo:Int}
section
variable {f n:Int}{g:List aO}{CC:List (List Cs)}{S:DS}{r:Int}{k m:Nat}
theorem ut:r∈vg f k m↔∃j:Nat,r=f+j/\k<=j/\j<m:=by
 unfold vg;rw[bD];constructor
 .rintro⟨i,a,rfl⟩;rw[List.mem_range] at a;exact⟨k+i,(),(),()⟩
 .rintro⟨j,rfl,c,b⟩;exact⟨j-k,by rw[List.mem_range];lia,()⟩
theorem zhc:(vg f k m).Nodup:=by
 unfold vg;refine rH _ (λa b (h:a≠b)=>?_) nY;lia
theorem pv.rk(h:pv n f g CC S)(m:r∈S.ws++(S.hl.map (·.2.1)++S.ld.map (·.1))):∃j:Nat,r=f+j/\S.en<=j/\j<CC.length:=ut.mp (h.pm.mem_iff.mp m)
theorem pv.rw_(h:pv n f g CC S)(m:r∈S.ws):∃j:Nat,r=f+j/\S.en<=j/\j<CC.length:=h.rk (cI _ m)
theorem pv.rh(h:pv n f g CC S){e:Int×Int×Nat×bv}(m:e∈S.hl):∃j:Nat,e.2.1=f+j/\S.en<=j/\j<CC.length:=h.rk (bP _ (cI _ (bB (f:=λe:Int×Int×Nat×bv=>e.2.1) m)))
theorem pv.rl(h:pv n f g CC S)(m:r∈S.ld.map (·.1)):∃j:Nat,r=f+j/\S.en<=j/\j<CC.length:=h.rk (bP _ (bP _ m))
theorem pv.nd(h:pv n f g CC S):S.ws.Nodup/\((S.hl.map (·.2.1)).Nodup/\(S.ld.map (·.1)).Nodup/\∀x∈S.hl.map (·.2.1),∀y∈S.ld.map (·.1),x≠y)/\∀x∈S.ws,∀y∈S.hl.map (·.2.1)++S.ld.map (·.1),x≠y:=by
 have z:=h.pm.nodup_iff.mpr zhc;rw[dn,dn] at z;exact z
theorem pv.len(h:pv n f g CC S):S.ws.length+(S.hl.length+S.ld.length)+S.en=CC.length:=by
 have z:=h.pm.length_eq;have:=h.el;unfold vg at z;simp only[bx,bd,cY] at z;lia
end
section
variable {H':D}{lb lb':L->Nat}{Bp:List (L×HO)}{m re d b dx:L}{a:um}{g:List aO}{lays:List (Int×List aO)}{P:Pl->Int->Prop}{cs en:List V}{CC:List (List Cs)}{C:List Cs}{n f h0 ac:Int}{ws db:List Int}{kv la:List (aW×V)}{o o' wo:HO}{i k:Nat}{hl:List (Int×Int×Nat×bv)}{S:DS}{v:V}{s:bv}{M:Nat->Prop}
theorem Wy(c:DkF K t)(h:H d=U (.ins t.q00 dx (Yo a n f)))(e:H a.en=U (.lst en))(q:Q (.int (f+en.length)) H) :
  qT K t (mt Q) (zZZ 1 [.ref d]) H:=(zZ h c.cD c.d3 Z Z (zZ h c.cD c.d9 Z Z ⟨.ref a.en,en.length,Z,.inl ⟨_,aT.of e,Z⟩,_,_,Z,Z,q⟩))
theorem Y9(c:DkF K t)(h:H d=U (.ins t.q00 dx (Yo a n f)))(e:H a.cl=U (.lst cs))(q:Q (.int (f+cs.length)) H) :
  j8 K t (mt Q) (zZZ 1 [.ref d]) H:=(zZ h c.cD c.d3 Z Z (zZ h c.cD c.d4 Z Z ⟨.ref a.cl,cs.length,Z,.inl ⟨_,aT.of e,Z⟩,_,_,Z,Z,q⟩))
theorem zaT(h:i<ws.length):(ws.map V.int)[i]?=U (.int (ws.getD i 0))/\ws.getD i 0∈ws:=by
 have e:ws.getD i 0=ws[i]:=by rw[bF,bb h];rfl
 rw[e];exact⟨by rw[bt,bb h];rfl,dM h⟩
theorem J7{x l:L}(h:H l=U (.lst (ws.map V.int)))(c:ws≠[])(q:Q (.int (ws.getD 0 0)) H):YI K t (mt Q) (zZZ 2 [.ref x,.ref l]) H :=
 ⟨_,Z,l,_,(0:Nat),_,Z,Z,aT.of h,xa (zaT (gZ.mpr c)).1,q⟩
theorem ziC(h1:ws≠[]):uq (ws.map V.int) (-1)=U (.int (ws.getD (ws.length-1) 0)):=by
 have z:ws.map V.int=ws.dropLast.map V.int++[V.int (ws.getLast h1)]:=by rw[<-mJ,<-bN,List.dropLast_concat_getLast]
 have e:ws.getD (ws.length-1) 0=ws.getLast h1:=by
  have:=gZ.mpr h1;rw[List.getLast_eq_getElem,bF,bb ()];rfl
 rw[z,e];exact L2.atI_last _ _
theorem Xa{x l:L}(h:H l=U (.lst (ws.map V.int)))(c:ws≠[])(q:Q (.int (ws.getD (ws.length-1) 0)) H):j6 K t (mt Q) (zZZ 2 [.ref x,.ref l]) H :=
 ⟨_,Z,1,Z,l,_,-1,_,Z,Z,aT.of h,ziC c,q⟩
theorem Wz{x:L}(c:DkF K t)(h:H x=U (.ins t.q06 dx []))(q:Q .non (upd H x (.ins t.q06 dx [(bf "times",.int 0)]))):qQ K t (mt Q) (zZZ 1 [.ref x]) H:=⟨_,Z,x,_,dx,[],Z,h,c.cT,c.t1,(),q⟩
theorem Xb{x l:L}(e:DkF K t)(h:H l=U (.lst (ws.map V.int)))(r:ws≠[])(c:H x=U (.ins t.q06 dx [(bf "times",.int k)]))(q:Q (.int (ws.getD (k%ws.length) 0)) (upd H x (.ins t.q06 dx [(bf "times",.int (k+1:Nat))]))):j7 K t (mt Q) (zZZ 3 [.ref x,.ref l]) H:=by
 have p:0<ws.length:=gZ.mpr r;have j:k%ws.length<ws.length:=Nat.mod_lt _ p;refine(zZ c e.cT e.t1 Z Z ⟨_,Z,.ref l,ws.length,Z,.inl ⟨_,aT.of h,(bd ..).symm⟩,_,_,Z,Z,by show (0:Int)<(ws.length:Int);lia,?_⟩);refine⟨_,Z,x,_,dx,_,_,Z,c,e.cT,e.t1,Z,_,_,Z,Z,dx,_,c,by show 1<1000;decide,?_⟩;refine⟨_,Z,_,Z,l,_,(k%ws.length:Nat),_,Z,congrArg V.int (Int.natCast_emod _ _).symm,aT.of (by rw[zm (zL h c ())];exact h),xa (zaT j).1,q⟩
open Classical in
theorem tH.relab{N:L->Prop}(n:Nat)(T:13<=n)(h:tH t H lb Bp m re fo g lays P cs CC)(s:aL H H')(p:∀b,N b->H b=am/\∃o,H' b=U o):∃lb',Fr M H H' lb lb'/\tH t H' lb' Bp m re fo g lays P cs CC/\∀b,N b->lb' b=n:=by
 have u:∀b,N b->lb b=0:=λb z=>h.out (p b z).1;have j:∀b,lb b≠0->(if N b then n else lb b)=lb b:=λb z=>ao λy=>z (u b y);have q:(λb=>(if N b then n else lb b)=10)=λb=>lb b=10:=funext λb=>propext (by
  by_cases y:N b
  .rw[au y,u b y];lia
  .rw[ao y])
 have rl:=h.rl;obtain⟨kk,x⟩:=h.rr;refine⟨λb=>if N b then n else lb b,⟨λb o e=>ao (λy=>by rw[(p b y).1] at e;cases e),λb o _ e=>s _ _ e,λb O e=>s _ _ e,λb o e=>⟨o,s _ _ e⟩⟩,⟨λi b o e=>?_,by rw[q];exact h.ms.same s,⟨kk,x.keep rl (λb o _ e=>s _ _ e) λb z=>(j b ()).trans z⟩,(j _ ()).trans rl,Paired.mapP h.cc λv C ⟨⟨c,w,l,E,A⟩,r⟩=>⟨⟨c,w,l,s _ _ E,wx s A⟩,λc l=>(j c (by rw[r c l];decide)).trans (r c l)⟩,λb G=>?_⟩,λb z=>au z⟩
 .obtain⟨J,I⟩:=h.ob i b o e;exact⟨s _ _ J,(j b ()).trans I⟩
 .by_cases y:N b
  .exact(p b y).2
  .obtain⟨o,e⟩:=h.ow b (λz=>G ((ao y).trans z));exact⟨o,s _ _ e⟩
theorem tH.addC(h:tH t H lb Bp m re fo g lays P cs CC)(s:aL H H')(q:H c=am)(l:ug H' (.ref c) C):∃lb',Fr M H H' lb lb'/\tH t H' lb' Bp m re fo g lays P (cs++[.ref c]) (CC++[C]):=by
 obtain⟨u,w,r,p,x⟩:=id l;cases r;obtain⟨lb',F,j,z⟩:=h.relab (N:=λb=>b=c) 13 () s λb e=>by rw[e];exact⟨q,_,p⟩
 exact⟨lb',F,j.ob,j.ms,j.rr,j.rl,Paired.snocP j.cc ⟨l,λu e=>by cases e;exact z c Z⟩,j.ow⟩
theorem dl.fr(R:dl t H x ra C s)(l:∀b,OwA x ra b->lb b=N)(F:Fr M H H' lb lb')(c:M N):dl t H' x ra C s/\∀b,OwA x ra b->lb' b=N:=by
 have k:∀ {b o},OwA x ra b->H b=U o->H' b=U o:=λ{b o} z e=>F.kp b o (by rw[l b z];exact c) e;refine⟨⟨k (.inl (.inl Z)) R.ix,let ⟨xs,hx,px⟩:=R.hc;⟨xs,k (.inr Z) hx,xC F.ts px⟩,k (.inl (.inr (.inl Z))) R.hs,k (.inl (.inr (.inr (.inl Z)))) R.hg,k (.inl (.inr (.inr (.inr (.inl Z))))) R.hn,k (.inl (.inr (.inr (.inr (.inr Z))))) R.ha,R.ng,R.nc⟩,λb z=>?_⟩;cases e:H b with
 |none=>exact absurd e (R.has z)
 |some o=>exact(F.ex b o e).trans (l b z)
theorem HdAt.fr{e:Int×Nat×bv}(h:HdAt t H lb f CC h0 v e)(F:Fr M H H' lb lb')(j:M (20+h0.toNat)):HdAt t H' lb' f CC h0 v e:=by
 obtain⟨tp,x,ra,C,p,q,r,R,l⟩:=h;obtain⟨u,c⟩:=R.fr l F j;exact⟨tp,x,ra,C,p,F.ts _ _ q,r,u,c⟩
theorem kF(h:Pk (HdAt t H lb f CC) kv hl)(F:Fr M H H' lb lb')(c:∀k:Nat,M (20+k)):Pk (HdAt t H' lb' f CC) kv hl:=Paired.mapP h λ_ _ ⟨e,z⟩=>⟨e,z.fr F (c _)⟩
theorem Z2(k:Nat):M1 (20+k):=.inr ()
theorem tW.of(h:tW t H d a lb n f fo g CC S)(k:∀b o,lb b≠0->H b=U o->H' b=U o)(c:TSm H H')(j:∀b o,H b=U o->∃o',H' b=U o'):tW t H' d a lb n f fo g CC S:=by
 obtain⟨wo,cs,kv,la,db,en,h,u,hl,r,q,p⟩:=h;have F:Fr (λl=>l≠0) H H' lb lb:=⟨λ_ _ _=>rfl,k,c,j⟩;exact⟨wo,cs,kv,la,db,en,h.keep Z (λb o z _ e=>k b o z e) c j,kF u F (λk=>by lia),wB hl F (),r,q.fr F (),p⟩
theorem tW.same(h:tW t H d a lb n f fo g CC S)(s:aL H H'):tW t H' d a lb n f fo g CC S:=h.of (λb o _ e=>s _ _ e) (TSm.of s) λb o e=>⟨o,s _ _ e⟩
theorem tW.put(h:tW t H d a lb n f fo g CC S)(hl:H l=U (.lst xs))(z:lb l=0):tW t (upd H l (.lst ys)) d a lb n f fo g CC S:=h.of (λb o y e=>by rw[zm (λw=>y (by rw[w];exact z))];exact e) (qH hl λ_ z=>nomatch z) Z0
theorem tW.l0(h:tW t H d a lb n f fo g CC S)(e:H b=am):lb b=0:=by obtain⟨wo,cs,kv,la,db,en,h,_⟩:=h;exact h.out e
theorem tW.cmp(h:tW t H d a lb n f fo g CC S):H d=U (.ins t.q00 a.dx (Yo a n f))/\∃cs en,H a.cl=U (.lst cs)/\H a.en=U (.lst en)/\cs.length=CC.length/\en.length=S.en:=by
 obtain⟨wo,cs,kv,la,db,en,h,_,_,_,c,_⟩:=h;exact⟨h.at (i:=0) Z,cs,en,h.at (i:=3) Z,h.at (i:=8) Z,bE h.cc,c.le⟩
theorem zaU{E:List V}{_E:XK}(r:DkF K t)(h:vJ t E H Q _E) :
  Vg K t (mt Q) (zZZ 3 E) H:=by
 obtain⟨d,v,a,lb,n,f,fo,g,CC,C,S,rfl,h1,h,h2,h3,q⟩:=h;obtain⟨wo,cs,kv,la,db,en,h,hh,hl,z1,T,O⟩:=h;have lc:=bE h.cc;have w:H d=U (.ins t.q00 a.dx (Yo a n f)):=h.at (i:=0) rfl;obtain⟨c0,A,rfl,hy,py⟩:=h1;refine(xg w Z Z ⟨d,_,a,n,f,cs,Z,w,h.at (i:=3) Z,?_⟩);rw[lc];refine(zZ w r.cD r.d4 Z Z ⟨.inl ⟨Z,_,aT.of (h.at (i:=3) Z)⟩,_,Z,c0,A,Z,.inl (aT.of hy),λc I=>?_⟩);generalize c_:upd H c _=H2;obtain⟨G,e2⟩:=yQ c_ I;obtain⟨l,F2,u⟩:=h.addC (M:=M1) (C:=C) G I ⟨c,A,Z,e2,wx G py⟩;have j:=u.put (i:=3) (o':=.lst (cs++[.ref c])) Z Z ();have F5:=F2.trans (u.fput (i:=3) (o':=.lst (cs++[.ref c])) Z ());refine⟨a.cl,cs,_,Z,Z,u.at (i:=3) Z,ca (show cs.length<=10 by lia) (by rw[bL];decide),?_⟩;generalize upd H2 a.cl (.lst (cs++[.ref c]))=H5 at *
 have j:tH t H5 l (uj t d a n f wo (cs++[.ref c]) S.ws kv la db en) a.mks a.re fo g S.ls (tZ S.ld) (cs++[.ref c]) (CC++[C]):=j;refine(zZ (j.at (i:=0) Z) r.cD r.d5 Z Z ⟨.inl ⟨Z,_,aT.of (j.at (i:=4) Z)⟩,_,Z,a.wl,_,_,Z,Z,j.at (i:=4) Z,ca (by rw[bd];exact h3) (by rw[bL];decide),_,Z,?_⟩);have J:=j.put (i:=4) (o':=.lst ((S.ws++[f+CC.length]).map V.int)) Z Z ();have p:=F5.trans (j.fput (i:=4) (o':=.lst ((S.ws++[f+CC.length]).map V.int)) Z ());rw[bN] at J p;refine q _ l p.m0 ⟨wo,_,kv,la,db,en,by rw[uj,zb4,bN];exact J,Paired.mapP (kF hh p Z2) λ_ _ ⟨e,tp,x,ra,C,ev,et,N,z,y⟩=>⟨e,tp,x,ra,C,ev,et,?_,z,y⟩,wB hl p (.inr ()),z1,T.fr p (.inr ()),O⟩;rw[dL (bq.mp N).1];exact N
end
end
section
variable {fo:Int}
section
variable {H':D}{lb lb':L->Nat}{d b dx:L}{a:um}{g:List aO}{cs en:List V}{CC:List (List Cs)}{C:List Cs}{n f h0 ac w:Int}{ws db:List Int}{kv la:List (aW×V)}{o o' wo:HO}{i k:Nat}{r:L}{hl:List (Int×Int×Nat×bv)}{S:DS}{v:V}{M:Nat->Prop}
theorem J8(q:L)(h:H b=U (.tup (.str (evW e)::.int h0::evX q e)))(p:∀p,evP e=U p->H q=U (.tup [.str p.1,.int p.2])):t9 H (.ref b) (h0,e):=⟨b,q,Z,h,p⟩
theorem zdp(l:DkF K t)(h:tW t H d a lb n f fo g CC S)(T:pv n f g CC S)(fr:h0 ∉ S.hl.map (·.1))(hw:w∈S.ws)(q:∀v H' lb',Fr M0 H H' lb lb'->t9 H' v (h0,.take w)->tW t H' d a lb' n f fo g CC { S with ws:=S.ws.erase w,hl:=S.hl++[(h0,w,0,st0)] }->Q v H') :
  wA K t (mt Q) [U (.ref d),U (.int h0),U (.int w)] H:=by
 obtain⟨wo,cs,kv,la,db,en,h,hh,hl,hd,le,wy⟩:=h;obtain⟨k,rfl,_,hk⟩:=T.rw_ hw;have l5:=T.cc.le;have ln:=T.len;have e1:H d=U (.ins t.q00 a.dx (Yo a n f)):=h.at (i:=0) rfl;refine(zZ e1 l.cD l.d5 Z Z ⟨.inl ⟨Z,_,aT.of (h.at (i:=4) Z)⟩,_,Z,a.wl,_,f+k,Z,Z,h.at (i:=4) Z,hw,?_⟩);have j:=h.put (i:=4) (o':=.lst ((S.ws.erase (f+k)).map V.int)) Z Z ();have F3:=h.fput (i:=4) (o':=.lst ((S.ws.erase (f+k)).map V.int)) Z ();generalize upd H a.wl (.lst ((S.ws.erase (f+k)).map V.int))=H3 at *
 have j:tH t H3 lb (uj t d a n f wo cs (S.ws.erase (f+k)) kv la db en) a.mks a.re fo g S.ls (tZ S.ld) cs CC:=j;have e3:H3 d=U (.ins t.q00 a.dx (Yo a n f)):=j.at (i:=0) rfl;obtain⟨v,hv⟩:∃v,cs[k]?=U v:=⟨_,bb (by rw[bE j.cc];exact hk)⟩;obtain⟨C,hC,⟨c,ys,rfl,hc,pc⟩,_⟩:=Paired.getP j.cc hv;refine⟨_,Z,zZ e3 l.cD l.d4 Z Z ⟨_,Z,zZ e3 l.cD l.d3 Z Z ⟨_,_,Z,Z,a.cl,cs,k,_,Z,congrArg V.int (),aT.of (j.at (i:=3) Z),xa hv,?_⟩⟩⟩;intro x dx hx y n';have O:aL H3 (upd (upd H3 dx (HO.own x)) x (HO.ins t.q01 dx [])):=λb o e=>by rw[zm (zF e hx),zm (zF e y)];exact e
 refine⟨x,c,dx,ys,C,Z,zj,O _ _ hc,wx O pc,λH5 ra k5 R5 A=>?_⟩;obtain⟨s5,ow⟩:=zgV (aL.refl H3) hx y k5 A;obtain⟨u,F5,h5,aa⟩:=j.relab (M:=M1) (N:=OwA x ra) (20+h0.toNat) () s5 λb z=>⟨ow b z,by
  cases e:H5 b with
  |none=>exact absurd e (R5.has z)
  |some o=>exact⟨o,Z⟩⟩
 refine⟨Z,by show 2<=Bb;rw[bL];decide,λs ht=>?_⟩;generalize c_:upd H5 s _=H6;obtain⟨J,e6⟩:=yQ c_ ht;have G:=h5.same Z J;have F6:=(F3.trans F5).trans (Fr.same J);have R6:=R5.same J;clear h5 R5 j F3 F5 O k5 A s5;have ae:kv.length=S.hl.length:=bE hh;refine(zZ (G.at (i:=0) Z) l.cD l.d6 Z Z ⟨_,Z,a.hd,_,Z,.k (k:=.inl h0) (G.at (i:=5) Z) (by rw[bL];lia),?_⟩);have h7:=G.put (i:=5) (o':=.dK (yS kv (.inl h0) (.ref s))) Z Z ();have m:=G.fput (i:=5) (o':=.dK (yS kv (.inl h0) (.ref s))) Z ();generalize upd H6 a.hd (.dK (yS kv (.inl h0) (.ref s)))=H7 at *
 have h7:tH t H7 u (uj t d a n f wo cs (S.ws.erase (f+k)) (yS kv (.inl h0) (.ref s)) la db en) a.mks a.re fo g S.ls (tZ S.ld) cs CC:=h7;have F7:=F6.trans m;obtain⟨R7,l7⟩:=R6.fr aa m (Z2 _);refine⟨_,Z,_,Z,by show 3<=Bb;rw[bL];decide,λp hp=>?_⟩;have E:=tM (o:=HO.tup [V.str "take",V.int h0,V.int (f+k)]) p hp;have I:=F7.trans (Fr.same E);exact q (.ref p) _ u I.m0 (J8 p zj λ_ z=>nomatch z) ⟨wo,cs,_,la,db,en,h7.same Z E,(kF hh I Z2).put fr ⟨s,x,ra,C,Z,E _ _ (m.ts _ _ e6),by rw[show (f+(k:Int)-f).toNat=k by lia];exact hC,R7.same E,l7⟩,wB hl I (.inr ()),hd,le.fr I (.inr ()),wy⟩
theorem pv.wc(h:pv n f g CC S)(c:Nat):pv n f g CC { S with wc:=c }:=⟨h.f0,h.cc,h.el,h.pm,h.so,h.hn,h.hr,h.rn,h.nt,h.ly,h.gw,h.lw⟩
theorem zj2(h:ws≠[]):chW k ws c∈ws:=by
 have e:=gZ.mpr h;refine(zaT ?_).2;unfold chI;split
 .exact e
 .split
  .lia
  .exact Nat.mod_lt _ e
theorem X5{E:List V}{_E:XK}(e:DkF K t)(h:xZ t E H Q _E) :
  kZ K t (mt Q) (zZZ 3 E) H:=by
 obtain⟨d,a,lb,n,f,h0,fo,g,CC,S,rfl,h,N,fr,y,q⟩:=h;obtain⟨wo,cs,kv,la,db,en,h,T,hl,hd,O,A⟩:=h;have u:H d=U (.ins t.q00 a.dx (Yo a n f)):=h.at (i:=0) rfl;have z:H a.wy=U wo:=h.at (i:=1) rfl;have I:=zj2 (k:=S.wk) (c:=S.wc) y;have s:∀ {H2 m},Fr M1 H H2 lb lb->tH t H2 lb (uj t d a n f m cs S.ws kv la db en) a.mks a.re fo g S.ls (tZ S.ld) cs CC->WyF t a m S.wk (S.wc+1) f fo S.en->wA K t (mt Q) [U (.ref d),U (.int h0),U (.int (chW S.wk S.ws S.wc))] H2:=λ{H2 m} F x J=>zdp e (S:={ S with wc:=S.wc+1 }) ⟨m,cs,kv,la,db,en,x,kF T F Z2,wB hl F (.inr ()),hd,O.fr F (.inr ()),J⟩ (N.wc _) fr I λv H' lb' F' ev G=>q v H' lb' _ (F.m0.trans F') I rfl ev G;unfold chW chI at s;have wl:=A.l;rcases A.w with ⟨ek,rfl⟩|⟨ek,rfl⟩|⟨ek,rfl⟩
 .rw[ek] at s;refine zZ u e.cD e.d2 Z Z ⟨a.wy,_,_,_,_,Z,z,Z,.tail _ (.tail _ (.head _)),zZ u e.cD e.d5 Z Z ⟨a.wl,_,Z,.inl (aT.of (h.at (i:=4) Z)),λl j=>⟨a.wy,l,_,Z,zj,y,?_⟩⟩⟩;have p:=tM (o:=HO.lst (S.ws.map V.int)) l j;exact s (Fr.same p) (h.same Z p) ⟨.inl ⟨Z,Z⟩,wl⟩
 .rw[ek] at s;refine zZ u e.cD e.d2 Z Z ⟨a.wy,_,_,_,_,Z,z,Z,.head _,zZ u e.cD e.d5 Z Z ⟨a.wl,_,Z,.inl (aT.of (h.at (i:=4) Z)),λl j=>⟨a.wy,l,_,Z,zj,y,?_⟩⟩⟩;have p:=tM (o:=HO.lst (S.ws.map V.int)) l j;exact s (Fr.same p) (h.same Z p) ⟨.inr (.inl ⟨Z,Z⟩),wl⟩
 .rw[ek] at s;refine zZ u e.cD e.d2 Z Z ⟨a.wy,_,_,_,_,Z,z,Z,.tail _ (.head _),zZ u e.cD e.d5 Z Z ⟨a.wl,_,Z,.inl (aT.of (h.at (i:=4) Z)),λl j=>?_⟩⟩;have p:=tM (o:=HO.lst (S.ws.map V.int)) l j;have x:=h.same Z p;have h3:=x.put (i:=1) (o':=.ins t.q06 a.dw [(bf "times",.int (S.wc+1:Nat))]) Z Z ();have F3:=(Fr.same p).trans (x.fput (i:=1) (o':=.ins t.q06 a.dw [(bf "times",.int (S.wc+1:Nat))]) Z ());exact⟨a.wy,l,a.dw,_,S.wc,Z,zj,y,x.at (i:=1) Z,s F3 h3 ⟨.inr (.inr ⟨Z,Z⟩),wl⟩⟩
end
end
section
variable {fo:Int}
section
variable {H':D}{lb lb':L->Nat}{m d b u:L}{a:um}{g:List aO}{cs en:List V}{CC:List (List Cs)}{n f h0 w:Int}{ws db:List Int}{kv la:List (aW×V)}{o o' wo:HO}{i k:Nat}{r:Int}{gi:List aO}{hl:List (Int×Int×Nat×bv)}{S:DS}{v:V}{s:bv}{y:aO}{qa:L}{R:St->D->Prop}
theorem zeh(C:DkF K t)(h:tW t H d a lb n f fo g CC S)(A:pv n f g CC S)(fr:h0 ∉ S.hl.map (·.1))(I:(f+(S.en:Int),s,gi)∈S.ld)(ag:Agr g S.ls (f+S.en) s.no)(q:mvP t H d a lb n f h0 fo g CC S Q) :
  vO K t { nx:=λσ H'=>R σ H',rt:=Q } [U (.ref d),U (.int h0),U (.int (f+S.en)),U v] H:=by
 obtain⟨wo,cs,kv,la,db,en,h,hh,hl,hd,le,E⟩:=h;have e1:H d=U (.ins t.q00 a.dx (Yo a n f)):=h.at (i:=0) rfl;have l5:=A.cc.le;have ln:=A.len;refine(zZ e1 C.cD C.d9 Z Z ⟨.inl ⟨Z,_,aT.of (h.at (i:=8) Z)⟩,zZ e1 C.cD C.d8 Z Z ⟨a.jb,_,_,Z,h.at (i:=2) Z,Z,_,Z,⟨d,a,lb,n,f,fo,wo,cs,S.ws,kv,la,db,en,g,S.ls,S.ld,CC⟩,f+S.en,s,gi,Z,h,hl,hd,A.nd.2.1.2.1,I,(A.nt _ I).nd,λr H3 j l x F3 O J M G=>?_⟩⟩);have l0:=le.le;refine⟨a.en,en,_,Z,Z,O.at (i:=8) Z,ca (show en.length<=5 by lia) (by rw[bL];decide),?_⟩;have N:=O.put (i:=8) (o':=.lst (en++[.ref r])) Z Z ();have aa:=O.fput (i:=8) (o':=.lst (en++[.ref r])) Z ();generalize upd H3 a.en (.lst (en++[.ref r]))=H4 at *
 have N:tH t H4 j (uj t d a n f wo cs S.ws kv l x (en++[.ref r])) a.mks a.re fo g S.ls (tZ (yk S.ld (f+S.en))) cs CC:=N;refine⟨_,Z,_,Z,by show 3<=Bb;rw[bL];decide,λp hp=>?_⟩;have s5:=tM (o:=HO.tup [V.str "settle",V.int h0,V.int (f+S.en)]) p hp;have c:=aa.trans (Fr.same s5);have T:=F3.trans c;exact q _ _ j _ _ T.m0 (J8 (e:=.settle (f+S.en)) p zj λ_ z=>nomatch z) (.settle I ag fr) ⟨wo,cs,kv,l,x,en++[.ref r],N.same Z s5,kF hh T Z2,wB J c (.inr ()),M,⟨by rw[bx,l0];rfl,Paired.snocP (le.fr T (.inr ())).ps ⟨r,Z,G.fr c (.inr ())⟩⟩,E.w,E.l.1,by have:=E.l.2;show fo<=f+((S.en+1:Nat):Int);lia⟩
theorem zj3(k:Nat):(ws.take k++r::ws.drop k).Perm (r::ws):=by
 refine List.perm_middle.trans ?_;rw[da]
theorem zj4(h:ws.Pairwise (· < ·))(j:r ∉ ws)(p:∀x∈ws.take k,x<r)(l:∀x∈ws.drop k,r<=x):(ws.take k++r::ws.drop k).Pairwise (· < ·):=by
 have z:=h;rw[<-da k ws,gQ] at z;refine gQ.mpr ⟨z.1,List.pairwise_cons.mpr ⟨λx c=>?_,z.2.1⟩,λx c y hy=>?_⟩
 .have:=l x c;have:r≠x:=λe=>j (by rw[e];exact dt c);lia
 .rcases bw.mp hy with rfl|hy
  .exact p x c
  .exact z.2.2 x c y hy
theorem zei(C:DkF K t)(h:tW t H d a lb n f fo g CC S)(c:pv n f g CC S)(fr:h0 ∉ S.hl.map (·.1))(I:(r,s,gi)∈S.ld)(hy:FsN g S.ls r s.no y)(hn:∀e∈S.ld,e.1<r->Agr g S.ls e.1 e.2.1.no)(ns:f+(S.en:Int)∈S.ld.map (·.1)->r=f+S.en)(hu:H u=U (.tup [.int r,.ref qa,.int y.2,.int (ye g S.ls y.1 r)]))(hq:H qa=U (.tup [.str y.1.1,.int y.1.2]))(q:mvP t H d a lb n f h0 fo g CC S Q){o2:Option V} :
  vN K t { nx:=λσ H'=>R σ H',rt:=Q } [U (.ref d),U (.int h0),o2,U (.ref u)] H:=by
 obtain⟨wo,cs,kv,la,db,en,h,hh,hl,hd,le,wy⟩:=h;have l5:=c.cc.le;have ln:=c.len;have nr:r ∉ S.ws:=λz=>c.nd.2.2 r z r (bP _ (bB (f:=λe:Int×bv×List aO=>e.1) I)) rfl;refine(zZ (h.at (i:=0) Z) C.cD C.d8 Z Z ⟨a.jb,_,_,Z,h.at (i:=2) Z,Z,_,Z,u,_,0,_,Z,Z,tI.of hu,Z,⟨d,a,lb,n,f,fo,wo,cs,S.ws,kv,la,db,en,g,S.ls,S.ld,CC⟩,r,s,gi,Z,h,hl,hd,c.nd.2.1.2.1,I,(c.nt _ I).nd,λr' H3 j l x F3 A aa ae _=>?_⟩);have A:tH t H3 j (uj t d a n f wo cs S.ws kv l x en) a.mks a.re fo g S.ls (tZ (yk S.ld r)) cs CC:=A;have e3:H3 d=U (.ins t.q00 a.dx (Yo a n f)):=A.at (i:=0) rfl;have hu3:=F3.ts _ _ hu;refine(zZ e3 C.cD C.d5 Z Z ⟨.inl ⟨Z,_,aT.of (A.at (i:=4) Z)⟩,zZ e3 C.cD C.d5 Z Z ⟨_,Z,u,_,0,_,Z,Z,tI.of hu3,Z,a.wl,S.ws,r,Z,A.at (i:=4) Z,c.so,λk H4 N hk k1 k2=>?_⟩⟩);have h4:=A.same Z N;have O:=N _ _ hu3;refine⟨_,Z,u,_,0,_,Z,Z,tI.of O,Z,a.wl,_,k,_,Z,Z,h4.at (i:=4) Z,by rw[bd];exact hk,by rw[bd];lia,?_⟩;have em:(S.ws.map V.int).take k++V.int r::(S.ws.map V.int).drop k=(S.ws.take k++r::S.ws.drop k).map V.int:=by rw[bN,bh,nS,lM]
 rw[em];have h5:=h4.put (i:=4) (o':=.lst ((S.ws.take k++r::S.ws.drop k).map V.int)) Z Z ();have G:=(Fr.same N).trans (h4.fput (i:=4) (o':=.lst ((S.ws.take k++r::S.ws.drop k).map V.int)) Z ());generalize upd H4 a.wl (.lst ((S.ws.take k++r::S.ws.drop k).map V.int))=H5 at *
 have h5:tH t H5 j (uj t d a n f wo cs (S.ws.take k++r::S.ws.drop k) kv l x en) a.mks a.re fo g S.ls (tZ (yk S.ld r)) cs CC:=h5;refine⟨_,Z,by show 2<=Bb;rw[bL];decide,λp1 T=>?_⟩;generalize c_:upd H5 p1 _=H6;obtain⟨M,e6⟩:=yQ c_ T;refine⟨_,Z,p1,u,_,_,Z,Z,tI.of e6,tI.of (M _ _ (G.ts _ _ hu3)),(),by show 2+4<=Bb;rw[bL];decide,(),λ_ p hp=>?_⟩;have s7:=tM (o:=HO.tup [V.str "again",V.int h0,V.int r,V.ref qa,V.int y.2,V.int (ye g S.ls y.1 r)]) p hp;have E:=G.trans (Fr.same (M.trans s7));have J:=F3.trans E;exact q _ _ j _ _ J.m0 (J8 (e:=.again r y.1 y.2 _) qa zj λp e=>by cases e;exact J.ts _ _ hq) (.again I hy hn ns (zj3 k) (zj4 c.so nr k1 k2) fr) ⟨wo,cs,kv,l,x,en,h5.same Z (M.trans s7),kF hh J Z2,wB aa E (.inr ()),ae,le.fr J (.inr ()),wy⟩
theorem ziD(M:DkF K t)(h:tW t H d a lb n f fo g CC S)(N:pv n f g CC S)(l:h0 ∉ S.hl.map (·.1))(I:∀e∈S.ld,Agr g S.ls e.1 e.2.1.no)(C:f+(S.en:Int) ∉ S.ld.map (·.1))(q:mvP t H d a lb n f h0 fo g CC S Q){T O:Option V} :
  vP K t (mt Q) [U (.ref d),U (.int h0),T,O] H:=by
 have G:=h;obtain⟨wo,cs,kv,la,db,en,h,_⟩:=h;refine(zZ (h.at (i:=0) Z) M.cD M.d5 Z Z ⟨by show 0<=Bb;exact bS _,λz hz=>?_⟩);have c:=tM (o:=HO.lst []) z hz;have E:=h.same Z c;have J:=G.same c;refine⟨a.wl,z,_,Z,Z,aT.of (E.at (i:=4) Z),aT.of zj,_,Z,?_⟩;generalize upd H z (.lst [])=H3 at *
 cases ew:S.ws with
 |nil =>
  refine ya Z ⟨_,Z,by show 2<=Bb;rw[bL];decide,λp hp=>?_⟩;have A:=tM (o:=HO.tup [V.str "rest",V.int h0]) p hp;exact q _ _ lb _ _ (Fr.same (c.trans A)) (J8 (e:=.rest) p zj λ_ z=>nomatch z) (.rest ew I C l) (J.same A)
 |cons x xs=>exact ym Z (xg (E.at (i:=0) Z) Z Z ⟨_,Z,d,a,lb,n,f,h0,fo,g,CC,S,Z,J,N,l,(by rw[ew];exact λz=>nomatch z),λv H4 j r F4 hr er ev G4=>q v H4 j _ _ ((Fr.same c).trans F4) ev (.take hr er I C l) G4⟩)
theorem Yq{vs:List V}{_E:XK}(p:DkF K t)(h:xB t vs H Q _E) :
  jE K t (mt Q) (zZZ 4 vs) H:=by
 obtain⟨d,a,lb,n,f,h0,fo,g,CC,S,rfl,h,C,N,q⟩:=h;obtain⟨wo,cs,kv,la,db,en,h,hh,hl,hd,le,O⟩:=h;have l5:=C.cc.le;have ln:=C.len;have e1:H d=U (.ins t.q00 a.dx (Yo a n f)):=h.at (i:=0) rfl;have nn:∀e∈S.ld,LoR fo e.1:=λe M=>by
  obtain⟨j,z,zz,_⟩:=C.rl (bB (f:=λe:Int×bv×List aO=>e.1) M);have z:e.1=f+j:=z;exact⟨O.l.1,by have:=O.l.2;show fo<=e.1;lia⟩
 refine(xg e1 Z Z ⟨d,_,a,n,f,en,Z,e1,h.at (i:=8) Z,?_⟩);rw[le.le];have gt:∀ {E A},Fr M1 H E lb lb->tH t E lb (uj t d a n f wo cs S.ws kv la A en) a.mks a.re fo g S.ls (tZ S.ld) cs CC->DbA g S.ls S.ld A->tW t E d a lb n f fo g CC S/\mvP t E d a lb n f h0 fo g CC S Q:=λG x l=>⟨⟨wo,cs,kv,la,_,en,x,kF hh G Z2,wB hl G (.inr ()),l,le.fr G (.inr ()),O⟩,λv H' lb' e S' F=>q v H' lb' e S' (G.m0.trans F)⟩;have dg:∀ {E A},tH t E lb (uj t d a n f wo cs S.ws kv la A en) a.mks a.re fo g S.ls (tZ S.ld) cs CC->tP E a.la (.int (f+S.en)) (yj la (.inl (f+S.en))):=λx=>.k (k:=.inl (f+(S.en:Int))) (x.at (i:=6) Z);refine(zZ e1 p.cD p.d8 Z Z ⟨a.jb,_,_,Z,h.at (i:=2) Z,Z,⟨d,a,lb,n,f,fo,wo,cs,S.ws,kv,la,db,en,g,S.ls,S.ld,CC⟩,Z,h,hl,hd,show S.ld.length<=10 by lia,C.nd.2.1.2.1,nn,λE G x l=>?_,λv E A qa r s gi y G x l lo hm hy T hq=>?_⟩)
 .obtain⟨J,I⟩:=gt G x l;refine⟨_,Z,zZ (x.at (i:=0) Z) p.cD p.d8 Z Z ⟨a.jb,_,_,_,_,Z,x.at (i:=2) Z,p.cJ,p.j2,Z,a.la,_,Z,dg x,_,Z,?_⟩⟩;rcases hl.get (h:=f+(S.en:Int)) with ⟨z,nm⟩|⟨v,b,z,m,_⟩
  .rw[z];exact ya Z (ya Z ⟨_,Z,Z,_,Z,ya Z (ziD p J C N (λe M=>l.ag e M λz=>nomatch z) nm I)⟩)
  .rw[z];exact ym Z ⟨_,Z,Z,_,Z,ym Z (ym Z (zeh p J C N m (l.ag _ m λz=>nomatch z) I))⟩
 .obtain⟨J,I⟩:=gt G x l;have hn:∀e∈S.ld,e.1<r->Agr g S.ls e.1 e.2.1.no:=λe M lt=>l.ag e M λz=>sQ.mpr (lo _ z) lt;refine⟨_,Z,zZ (x.at (i:=0) Z) p.cD p.d8 Z Z ⟨a.jb,_,_,_,_,Z,x.at (i:=2) Z,p.cJ,p.j2,Z,a.la,_,Z,dg x,_,Z,?_⟩⟩;rcases hl.get (h:=f+(S.en:Int)) with ⟨z,nm⟩|⟨w,b,z,m,_⟩
  .rw[z];exact ya Z (ya Z ⟨_,Z,Z,_,Z,ym Z (zei p J C N hm hy hn (λz=>absurd z nm) T hq I)⟩)
  .rw[z];refine ym Z ⟨_,Z,Z,_,Z,ya Z ⟨_,Z,v,_,0,_,Z,Z,tI.of T,Z,_,Z,Z,_,Z,?_⟩⟩;by_cases c:r=f+S.en
   .refine ya (by rw[Bj (congrArg V.int c)];rfl) ?_;exact⟨_,Z,Z,_,Z,ym Z (zei p J C N hm hy hn (λ_=>c) T hq I)⟩
   .refine ym (by rw[Bk (λe=>c (V.int.inj e))];rfl) (zeh p J C N m (l.ag _ m λz=>c ?_) I);obtain⟨j,e,jl,_⟩:=C.rl (bB (f:=λe:Int×bv×List aO=>e.1) hm);have e:r=f+j:=e;have:=lo _ z;lia
end
end
section
variable {fo:Int}
section
variable {H':D}{lb lb':L->Nat}{Bp:List (L×HO)}{m re d b tp x:L}{a:um}{ra:RAd}{g:List aO}{lays:List (Int×List aO)}{P:Pl->Int->Prop}{cs en:List V}{CC:List (List Cs)}{C:List Cs}{n f h0 r:Int}{db:List Int}{kv la:List (aW×V)}{wo:HO}{i j k:Nat}{gi:List aO}{hl:List (Int×Int×Nat×bv)}{S:DS}{v:V}{s s':bv}{M:Nat->Prop}{R:St->D->Prop}
theorem Kp.ts(R:dl t H x ra C s)(k:Kp x ra H H'):TSm H H':=λb c e=>k b _ (λy=>by
 rcases y with y|y|y|y|y
 .rw[y,R.ix] at e;cases e
 .rw[y,R.hs] at e;cases e
 .rw[y,R.hg] at e;cases e
 .rw[y,R.hn] at e;cases e
 .rw[y,R.ha] at e;cases e) e
theorem zej(R:dl t H x ra C s)(c:dl t H' x ra C s')(l:∀b,OwA x ra b->lb b=N)(k:Kp x ra H H'):Fr (λl=>l≠N) H H' lb lb:=⟨λ_ _ _=>rfl,λb o z e=>k b o (λy=>z (l b (.inl y))) e,Kp.ts R k,λb o e=>by
 by_cases y:OwA x ra b
 .cases e:H' b with
  |none=>exact absurd e (c.has y)
  |some o=>exact⟨o,Z⟩
 .exact⟨o,k b o (λz=>y (.inl z)) e⟩⟩
theorem tH.step(u:20<=N)(h:tH t H lb Bp m re fo g lays P cs CC)(p:Bp.length=9)(R:dl t H x ra C s)(q:dl t H' x ra C s')(l:∀b,OwA x ra b->lb b=N)(k:Kp x ra H H'):Fr (λl=>l≠N) H H' lb lb/\tH t H' lb Bp m re fo g lays P cs CC:=
 have F:=zej R q l k
 ⟨F,h.keep p (λb o _ z e=>F.kp b o (show lb b≠N by lia) e) F.ts F.al⟩
structure MvI(t:aX)(H:D)(d:L)(a:um)(lb:L->Nat)(n f h0 fo:Int)(g:List aO)(CC:List (List Cs))(S:DS)(wo:HO)(cs:List V)(kv la:List (aW×V))(db:List Int)(en:List V)(r:Int)(j:Nat)(s:bv)(tp x:L)(ra:RAd)(C:List Cs):Prop where
 o:tH t H lb (uj t d a n f wo cs S.ws kv la db en) a.mks a.re fo g S.ls (tZ S.ld) cs CC
 hh:Pk (HdAt t H lb f CC) kv S.hl
 hl:Pk (Y7 H lb) la S.ld
 hd:DbA g S.ls S.ld db
 le:EnI H lb en S.en S.es
 wy:WyF t a wo S.wk S.wc f fo S.en
 hm:(h0,r,j,s)∈S.hl
 hv:yj kv (.inl h0)=U (.ref tp)
 ht:H tp=U (.tup [.int r,.ref x])
 ec:CC[(r-f).toNat]?=U C
 rn:dl t H x ra C s
 l20:∀b,OwA x ra b->lb b=20+h0.toNat
theorem MvI.same(h:MvI t H d a lb n f h0 fo g CC S wo cs kv la db en r j s tp x ra C)(k:aL H H'):MvI t H' d a lb n f h0 fo g CC S wo cs kv la db en r j s tp x ra C :=
 ⟨h.o.same Z k,kF h.hh (Fr.same (M:=M1) k) Z2,wB h.hl (Fr.same (M:=M1) k) (.inr ()),h.hd,h.le.fr (Fr.same (M:=M1) k) (.inr ()),h.wy,h.hm,h.hv,k _ _ h.ht,h.ec,h.rn.same k,h.l20⟩
theorem MvI.step(h:MvI t H d a lb n f h0 fo g CC S wo cs kv la db en r j s tp x ra C)(e:pv n f g CC S)(p:dl t H' x ra C s')(k:Kp x ra H H'):Fr M0 H H' lb lb/\tW t H' d a lb n f fo g CC { S with hl:=Yn S.hl h0 (r,j+1,s') }:=by
 obtain⟨F,q⟩:=h.o.step (N:=20+h0.toNat) () Z h.rn p h.l20 k;have c:=(e.hr _ h.hm).1;have c:0<=h0:=c;refine⟨F.mono λl z=>by unfold M0 at z;lia,wo,cs,kv,la,db,en,q,h.hh.set e.hn (λk v u m z y=>y.fr F ?_) (λv z=>?_),wB h.hl F (),h.hd,h.le.fr F (),h.wy⟩
 .have:=(e.hr _ m).1;have:0<=k:=this;lia
 .rw[h.hv] at z;cases z;exact⟨tp,x,ra,C,Z,F.ts _ _ h.ht,h.ec,p,h.l20⟩
theorem ze7(G:DkF K t)(h:MvI t H d a lb n f h0 fo g CC S wo cs kv la db en r j s tp x ra C)(c:pv n f g CC S)(ho:yI C s=ak)(q:mvP t H d a lb n f h0 fo g CC S Q) :
  ZM K t { nx:=λσ H'=>R σ H',rt:=Q } [U (.ref d),U (.int h0),U (.int r),U (.ref x),o4,o5] H:=by
 have eh:=h.o.at (i:=5) rfl;have l5:=c.cc.le;have ln:=c.len;obtain⟨C',aj,I,w⟩:=c.rn _ h.hm;obtain rfl:C'=C:=bH (aj.symm.trans h.ec);obtain⟨k,rk,_,kl⟩:=c.rh h.hm;have rk:r=f+k:=rk;have f0:=c.f0;refine(zZ (h.o.at (i:=0) Z) G.cD G.d6 Z Z ⟨a.hd,Z,.inl ⟨_,.inl eh⟩,_,Z,_,.inl h0,_,eh,Z,h.hv,?_⟩);have A:=h.o.put (i:=5) (o':=.dK (yz kv (.inl h0))) Z Z ();have F3:=h.o.fput (i:=5) (o':=.dK (yz kv (.inl h0))) Z ();generalize upd H a.hd (.dK (yz kv (.inl h0)))=H3 at *
 have A:tH t H3 lb (uj t d a n f wo cs S.ws (yz kv (.inl h0)) la db en) a.mks a.re fo g S.ls (tZ S.ld) cs CC:=A;obtain⟨R3,_⟩:=h.rn.fr h.l20 F3 (Z2 _);have l2:s.gi.length<=j:=I.ok.l2;have l3:s.no.length<=j:=I.ok.l3;have w:j<=11:=w;refine(zZ (A.at (i:=0) Z) G.cD G.d8 Z Z ⟨a.jb,_,_,Z,A.at (i:=2) Z,Z,_,Z,xg R3.ix Z Z ⟨x,ra,C',s,Z,R3,(),I.ok.nd,(),(λH' z=>by rw[ho] at z;cases z),λr' o nl gl out H4 _ s4 aa ag _ hr oc hn hg gi=>?_⟩⟩);obtain⟨l,F4,h4,u⟩:=A.relab (M:=M1) (N:=λb=>b=nl\/b=gl) 14 () s4 λb z=>by
  obtain⟨xs,hx,_⟩:=id hn;obtain⟨ys,hy,_⟩:=id hg;rcases z with rfl|rfl
  .exact⟨aa,_,hx⟩
  .exact⟨ag,_,hy⟩
 have hP:uc H4 l r' s out:=⟨o,nl,gl,hr,oc,hn,hg,u _ (.inl Z),u _ (.inr Z)⟩;have lo:out.length<=s.gi.length:=zdl gi;have nt:zdi s.no out:=⟨I.ok.nd,zi6 gi,(),()⟩;have ll:S.ls.length<=5:=by
  have:=xI (b:=vg f 0 CC.length) h.o.ms.nd λx hx=>by
   obtain⟨y,hy,rfl⟩:=bD.mp hx;have:=c.ly y hy;exact ut.mpr ⟨(y.1-f).toNat,(),(),()⟩
  unfold vg at this;rw[bd,bd,cY] at this;lia
 have nr:r ∉ S.ld.map (·.1):=λz=>c.nd.2.1.2.2 r (bB (f:=λe:Int×Int×Nat×bv=>e.2.1) h.hm) r z rfl;have E:=F3.trans F4;refine⟨⟨d,a,l,n,f,fo,wo,cs,S.ws,_,la,db,en,g,S.ls,S.ld,CC⟩,r',r,s,out,Z,h4,wB h.hl E (.inr ()),h.hd,c.nt,show S.ld.length<=10 by lia,nr,⟨h.wy.l.1,by have:=h.wy.l.2;show fo<=r;lia⟩,show S.ls.length<=10 by lia,hP,nt,λH5 O T al F5 h5 ae ai=>?_⟩;refine⟨_,Z,_,Z,by show 3<=Bb;rw[bL];decide,λp hp=>?_⟩;have J:=tM (o:=HO.tup [V.str "lay",V.int h0,V.int r]) p hp;have F6:=E.trans (F5.trans (Fr.same J));exact q _ _ O _ _ F6.m0 (J8 (e:=.lay r) p zj λ_ z=>nomatch z) (.lay h.hm h.ec ho gi) ⟨wo,cs,_,T,al,en,h5.same Z J,(kF h.hh F6 Z2).drop,wB ae (Fr.same (M:=M1) J) (.inr ()),ai,h.le.fr F6 (.inr ()),h.wy⟩
theorem ze8(Bq:DkF K t)(h:MvI t H d a lb n f h0 fo g CC S wo cs kv la db en r j s tp x ra C)(u:pv n f g CC S)(ho:yI C s=aq)(q:mvP t H d a lb n f h0 fo g CC S Q) :
  ZN K t (mt Q) [U (.ref d),U (.int h0),U (.int r),U (.ref x),am,am] H:=by
 obtain⟨A,aa,I,y⟩:=u.rn _ h.hm;obtain rfl:A=C:=bH (aa.symm.trans h.ec);obtain⟨O,lC⟩:=u.cc.ok A (bJ h.ec);obtain⟨k,rk,_,kl⟩:=u.rh h.hm;have rk:r=f+k:=rk;have f0:=u.f0;have y:j<=11:=y;refine(xg h.rn.ix Z Z ⟨x,ra,A,s,Z,h.rn,O.ok,I.ok.so,λH3 N w=>?_,λp G H3 N w hq=>?_⟩)
 .have c:=h.same w;refine⟨_,Z,Z,_,Z,ym Z (xg c.rn.ix Z Z ⟨x,0,j,ra,A,s,Z,c.rn,O.ok,I.ok,(),λH4 k4 R4=>?_⟩)⟩;obtain⟨F4,G4⟩:=c.step u R4 k4;refine⟨_,Z,_,Z,by show 3<=Bb;rw[bL];decide,λp J=>?_⟩;have l:=tM (o:=HO.tup [V.str "step",V.int h0,V.int r]) p J;exact q _ _ lb _ _ ((Fr.same w).trans (F4.trans (Fr.same l))) (J8 (e:=.step r) p zj λ_ z=>nomatch z) (.step h.hm h.ec ho N) (G4.same l)
 .have c:=h.same w;obtain⟨_,_,im,_,sn,_⟩:=c.o.ms.ins;refine⟨_,Z,Z,_,Z,ya Z (zZ (c.o.at (i:=0) Z) Bq.cD Bq.d7 Z Z ⟨a.mks,_,_,Z,im,sn,_,Z,_,Z,a.mks,G,r,_,g,S.ls,fo,p,Z,c.o.ms,⟨h.wy.l.1,by have:=h.wy.l.2;lia⟩,hq,λH4 E=>?_⟩)⟩;have T:=c.same E;refine(xg T.rn.ix Z Z ⟨_,Z,x,ye g S.ls p r,j,ra,A,s,Z,T.rn,O.ok,I.ok,(),λH5 k5 R5=>?_⟩);obtain⟨F5,G5⟩:=T.step u R5 k5;refine⟨_,Z,_,Z,_,Z,_,Z,by show 5<=Bb;rw[bL];decide,λp' J=>?_⟩;have l:=tM (o:=HO.tup [V.str "read",V.int h0,V.int r,V.ref G,V.int (ye g S.ls p r)]) p' J;exact q _ _ lb _ _ ((Fr.same (w.trans E)).trans (F5.trans (Fr.same l))) (J8 (e:=.read r p _) G zj λp e=>by cases e;exact l _ _ (F5.ts _ _ (E _ _ hq))) (.read h.hm h.ec ho N) (G5.same l)
theorem KP{p:List V}{_E:XK}(c:DkF K t)(h:x6 t p H Q _E) :
  XN K t (mt Q) (zZZ 6 p) H:=by
 obtain⟨d,a,lb,n,f,h0,fo,g,CC,S,rfl,h,o,p0,pn,q⟩:=h;have G:=h;obtain⟨wo,cs,kv,la,db,en,h,A,hl,T,O,N⟩:=h;have l:H d=U (.ins t.q00 a.dx (Yo a n f)):=h.at (i:=0) rfl;have E:H a.hd=U (.dK kv):=h.at (i:=5) rfl;refine⟨_,Z,_,_,Z,Z,_,Z,ya (Bk ()) ⟨_,Z,zZ l c.cD c.d1 Z Z ⟨_,_,Z,Z,_,Z,ya (Bk ()) ⟨_,Z,zZ l c.cD c.d6 Z Z ⟨a.hd,_,Z,.k (k:=.inl h0) E,_,Z,?_⟩⟩⟩⟩⟩;rcases A.get (h:=h0) with ⟨z,nm⟩|⟨v,⟨r,j,s⟩,z,hm,tp,x,ra,C,rfl,ht,ec,R,l20⟩
 .rw[z];exact ym Z (xg l Z Z ⟨_,Z,d,a,lb,n,f,h0,fo,g,CC,S,Z,G,o,nm,q⟩)
 .have dg:tP H a.hd (.int h0) (U (.ref tp)):=by
   have y:=tP.k (k:=.inl h0) E
   rwa [z] at y
  rw[z];refine ya Z (zZ l c.cD c.d6 Z Z ⟨_,Z,a.hd,_,Z,dg,tp,_,0,_,Z,Z,tI.of ht,Z,?_⟩);refine(zZ l c.cD c.d6 Z Z ⟨_,Z,a.hd,_,Z,dg,tp,_,1,_,Z,Z,tI.of ht,Z,?_⟩);refine(xg R.ix Z Z ⟨x,ra,C,s,Z,R,λJ u=>⟨_,Z,?_⟩⟩);have I:MvI t J d a lb n f h0 fo g CC S wo cs kv la db en r j s tp x ra C:=MvI.same ⟨h,A,hl,T,O,N,hm,z,ht,ec,R,l20⟩ u;have w:mvP t J d a lb n f h0 fo g CC S Q:=λv H' lb' e S' F=>q v H' lb' e S' ((Fr.same u).trans F);cases ho:yI C s with
  |true=>exact ym Z (ze7 c I o ho w)
  |false=>exact ya Z (ze8 c I o ho w)
end
end
section
variable {fo:Int}
structure PO(H0:D)(x w:L)(ox:HO)(H:D)(lb:L->Nat)(F:L->Prop)(E:List (Nat×L×HO)):Prop where
 hx:H x=U ox
 lx:lb x=1
 ob:∀e∈E,1<e.1/\H e.2.1=U e.2.2/\lb e.2.1=e.1
 ow:∀b,lb b≠0->∃o,H b=U o
 kp:W7 x H0 H
 fr:∀b,lb b≠0->b=x\/b=w\/H0 b=am
 f10:∀b,lb b=10↔F b
section
variable {H0 H':D}{x w c:L}{ox o:HO}{lb:L->Nat}{E:List (Nat×L×HO)}{n:Nat}{N F:L->Prop}
theorem PO.put(h:PO H0 x w ox H lb F E)(o:HO):PO H0 x w o (upd H x o) lb F E:=by
 refine⟨zj,h.lx,λe d=>?_,λb z=>?_,λb u z e=>by rw[zm z];exact h.kp b u z e,h.fr,h.f10⟩
 .obtain⟨g,f,a⟩:=h.ob e d;exact⟨g,by rw[zm (λy=>by rw[y,h.lx] at a;lia)];exact f,a⟩
 .obtain⟨u,e⟩:=h.ow b z;exact Z0 b u e
theorem PO.same(h:PO H0 x w ox H lb F E)(s:aL H H'):PO H0 x w ox H' lb F E:=⟨s _ _ h.hx,h.lx,λe a=>let ⟨h1,h2,h3⟩:=h.ob e a;⟨h1,s _ _ h2,h3⟩,λb z=>let ⟨o,e⟩:=h.ow b z;⟨o,s _ _ e⟩,λb o z e=>s _ _ (h.kp b o z e),h.fr,h.f10⟩
theorem PO.l0(h:PO H0 x w ox H lb F E)(a:H c=am):lb c=0/\H0 c=am:=by
 have d:c≠x:=λz=>by rw[z,h.hx] at a;cases a
 refine⟨cE (λz=>by obtain⟨o,e⟩:=h.ow c z;rw[a] at e;cases e),?_⟩;cases e:H0 c with
 |none=>rfl
 |some u=>have:=h.kp c u d e;rw[a] at this;cases this
open Classical in
theorem PO.lab{F':L->Prop}(h:PO H0 x w ox H lb F E)(n:Nat)(g:∀b,(N b/\n=10\/F b)↔F' b)(d:∀b,N b->lb b=0/\H0 b=am/\∃o,H b=U o):∃a,PO H0 x w ox H a F' E/\(∀b,N b->a b=n)/\∀b,¬ N b->a b=lb b:=by
 have l:∀b,lb b≠0->¬ N b:=λb z y=>z (d b y).1;refine⟨λb=>if N b then n else lb b,⟨h.hx,(ao (l x (by rw[h.lx];decide))).trans h.lx,λe f=>?_,λb z=>?_,h.kp,λb z=>?_,λb=>?_⟩,λb z=>au z,λb z=>ao z⟩
 .obtain⟨k,j,i⟩:=h.ob e f;by_cases y:N e.2.1
  .have:=(d _ y).1;lia
  .exact⟨k,j,(ao y).trans i⟩
 .by_cases y:N b
  .exact(d b y).2.2
  .exact h.ow b (λw=>z ((ao y).trans w))
 .by_cases y:N b
  .exact .inr (.inr (d b y).2.1)
  .exact h.fr b (λw=>z ((ao y).trans w))
 .rw[<-g,<-h.f10];by_cases y:N b
  .rw[au y,(d b y).1];simp[y]
  .rw[ao y];simp[y]
theorem PO.new(h:PO H0 x w ox H lb F E)(n:Nat)(i:1<n)(g:n≠10)(f:H c=am):∃a,PO H0 x w ox (upd H c o) a F ((n,c,o)::E):=by
 obtain⟨l0,j⟩:=h.l0 f;obtain⟨a,d,k,l⟩:=(h.same (tM c f (o:=o))).lab (N:=λb=>b=c) n (λb=>⟨λz=>z.resolve_left λy=>g y.2,.inr⟩) λb z=>by rw[z];exact⟨l0,j,_,zj⟩
 exact⟨a,d.hx,d.lx,λe he=>by
  rcases bw.mp he with rfl|he
  .exact⟨i,zj,k c Z⟩
  .exact d.ob e he,d.ow,d.kp,d.fr,d.f10⟩
open Classical in
theorem PO.init(h:H0 x=U o)(a:∃u,H0 w=U u):∃lb,PO H0 x w o H0 lb (λ_=>False) []/\(w≠x->lb w=2)/\∀b,b≠x->b≠w->lb b=0:=by
 refine⟨λb=>if b=x then 1 else if b=w then 2 else 0,⟨h,au Z,(λe d=>nomatch d),λb z=>?_,λb u _ e=>e,λb z=>?_,λb=>?_⟩,λz=>(ao z).trans (au Z),λb z y=>(ao z).trans (ao y)⟩
 .by_cases y:b=x
  .rw[y];exact⟨_,h⟩
  .by_cases v:b=w
   .rw[v];exact a
   .rw[ao y,ao v] at z;exact absurd Z z
 .by_cases y:b=x
  .exact .inl y
  .by_cases v:b=w
   .exact .inr (.inl v)
   .rw[ao y,ao v] at z;exact absurd Z z
 .by_cases y:b=x
  .rw[au y];simp
  .by_cases v:b=w
   .rw[ao y,au v];simp
   .rw[ao y,ao v];simp
section
variable {C dx:L}{fs:List (Str×V)}{fl:Str}{y:V}{σ:St}{Bq:Wg}{k:Nat}
theorem PO.st(P:PO H0 x w (.ins C dx fs) H lb F E)(h:σ[0]?=U (U (.ref x)))(c:ua K C)(n:aQ K C fl)(g:fs.length<1000)(q:∀H',PO H0 x w (.ins C dx (wX fl y fs)) H' lb F E->Bq.nx σ H'):B 0 σ H λf d=>∃a C dx fs,f=.ref a/\d a=U (.ins C dx fs)/\ua K C/\aQ K C fl/\fs.length<1000/\Bq.nx σ (upd d a (.ins C dx (wX fl y fs))):=⟨_,h,x,C,dx,fs,Z,P.hx,c,n,g,q _ (P.put _)⟩
theorem PO.stM(M:tO t H m F g [] 0)(P:PO H0 x w (.ins C dx fs) H lb F E)(i:σ[0]?=U (U (.ref x)))(c:ua K C)(n:aQ K C fl)(h:fs.length<1000)(q:∀H',PO H0 x w (.ins C dx (wX fl y fs)) H' lb F E->tO t H' m F g [] 0->Bq.nx σ H'):B 0 σ H λf d=>∃a C dx fs,f=.ref a/\d a=U (.ins C dx fs)/\ua K C/\aQ K C fl/\fs.length<1000/\Bq.nx σ (upd d a (.ins C dx (wX fl y fs))):=⟨_,i,x,C,dx,fs,Z,P.hx,c,n,h,q _ (P.put _) (M.keep λb o j e=>by rw[zm (λz=>by have:=(P.f10 b).mpr j;rw[z,P.lx] at this;cases this)];exact e)⟩
theorem PO.sv(P:PO H0 x w (.ins C dx fs) H lb F E)(f:σ[0]?=U (U (.ref x)))(d:σ[k]?=U (U y))(c:ua K C)(n:aQ K C fl)(a:fs.length<1000)(q:∀H',PO H0 x w (.ins C dx (wX fl y fs)) H' lb F E->Bq.nx σ H'):wb K (B 0) (B k) fl Bq σ H:=⟨_,d,P.st f c n a q⟩
theorem PO.so(o:HO)(m:Nat)(i:1<m)(h:m≠10)(P:PO H0 x w (.ins C dx fs) H lb F E)(r:σ[0]?=U (U (.ref x)))(c:ua K C)(n:aQ K C fl)(l:fs.length<1000)(q:∀c H' d,PO H0 x w (.ins C dx (wX fl (.ref c) fs)) H' d F ((m,c,o)::E)->Bq.nx σ H')(p:L)(j:H p=am):B 0 σ (upd H p o) λg f=>∃a C dx fs,g=.ref a/\f a=U (.ins C dx fs)/\ua K C/\aQ K C fl/\fs.length<1000/\Bq.nx σ (upd f a (.ins C dx (wX fl (.ref p) fs))):=by
 obtain⟨d,s⟩:=P.new (o:=o) m i h j;exact s.st r c n l λH'=>q p H' d
end
theorem KQ{l I:L}{d:List V}{C:List Cs}(F:RnF K t)(s:H x=U (.ins t.q01 I []))(h2:H l=U (.lst d))(h3:Paired (tQ H) d C)(q:∀H' a,W7 x H H'->dl t H' x a C st0->(∀b,OwA x a b->b=x\/H b=am)->Q .non H') :
  ZH K t (mt Q) (zZZ 2 [.ref x,.ref l]) H:=by
 obtain⟨lb,P,_⟩:=PO.init s ⟨_,s⟩;unfold ZH zt;refine⟨_,Z,l,d,Z,.inl (aT.of h2),P.so (.lst d) 2 () () Z F.cl F.n1 () λv H1 aa P=>P.st Z F.cl F.n2 (by show 1<1000;decide) λH2 P=>P.st Z F.cl F.n3 (by show 2<1000;decide) λH3 P=>P.so (.dK []) 3 () () Z F.cl F.n4 (by show 3<1000;decide) λA H4 T P=>P.so (.dT []) 4 () () Z F.cl F.n5 (by show 4<1000;decide) λu H5 O P=>P.so (.dT []) 5 () () Z F.cl F.n6 (by show 5<1000;decide) λr H6 M P=>⟨(),P.so (.lst []) 6 () () Z F.cl F.n7 (by show 6<1000;decide) λk J h P=>?_⟩⟩;have f:∀n c o,(n,c,o)∈_->J c=U o/\h c=n:=λn c o z=>(P.ob (n,c,o) z).2;have j:=f 2 v _ (.tail _ (.tail _ (.tail _ (.tail _ (.head _)))));have G:=f 3 A _ (.tail _ (.tail _ (.tail _ (.head _))));have i:=f 4 u _ (.tail _ (.tail _ (.head _)));have p:=f 5 r _ (.tail _ (.head _));have m:=f 6 k _ (.head _);have g:∀ {n:Nat} {b:L},h b=n+2->b=x\/H b=am:=λ{n b} z=>(P.fr b ()).imp id λy=>y.elim (λy=>by rw[y,P.lx] at z;lia) id;refine q J ⟨I,v,A,u,r,k⟩ P.kp ⟨P.hx,⟨d,j.1,xC (λb zs e=>P.kp _ _ (zL e s ()) e) h3⟩,G.1,i.1,p.1,m.1,λz=>by rw[show u=r from z,p.2] at i;exact absurd i.2 (),λz=>by rw[show v=k from z,m.2] at j;exact absurd j.2 ()⟩ λb z=>?_;rcases z with (z|z|z|z|z)|z
 .exact .inl z
 .rw[z];exact g G.2
 .rw[z];exact g i.2
 .rw[z];exact g p.2
 .rw[z];exact g m.2
 .rw[z];exact g j.2
theorem KR{l:List V}{_E:XK}(a:DkF K t)(h:qA t l H Q _E) :
  qC K t (mt Q) (zZZ 2 l) H:=by
 obtain⟨x,m,T,rfl,f,q⟩:=h;obtain⟨lb,P,_⟩:=PO.init f ⟨_,f⟩;unfold qC zt;refine P.sv Z Z a.cJ a.j1 () λH1 P=>P.so (.dK []) 7 () () Z a.cJ a.j2 (by show 1<1000;decide) λi H2 s P=>P.so (.dT []) 11 () () Z a.cJ a.j3 (by show 2<1000;decide) λg H3 r P=>P.so (.dK []) 8 () () Z a.cJ a.j4 (by show 3<1000;decide) λk O d b=>?_;have j:∀n c o,(n,c,o)∈[(8,k,HO.dK []),(11,g,.dT []),(7,i,.dK [])]->O c=U o/\H c=am/\d c=n:=λn c o z=>by
  obtain⟨f,u,e⟩:=b.ob _ z;have f:1<n:=f;have e:d c=n:=e;rcases b.fr c () with y|y|y
  .rw[y,b.lx] at e;lia
  .rw[y,b.lx] at e;lia
  .exact⟨u,y,e⟩
 obtain⟨M,J,p⟩:=j 7 i _ (.tail _ (.tail _ (.head _)));obtain⟨I,G,b3⟩:=j 11 g _ (.tail _ (.head _));obtain⟨C,A,v⟩:=j 8 k _ (.head _);exact q _ i g k b.kp b.hx M I C J G A (λz=>by rw[z,v] at p;cases p)
theorem KS{vs:List V}{_E:XK}(a:DkF K t)(h:xY t vs H Q _E) :
  qD K t (mt Q) (zZZ 5 vs) H:=by
 obtain⟨x,l,w,dx,dw,n,f,wo,g,rfl,h1,h2,h3,h4,nw,q⟩:=h;obtain⟨lb,P,lw,_⟩:=PO.init (w:=w) h1 ⟨_,h4⟩;have P:PO H x w _ H lb (λ_=>False) [(2,w,wo)]:=⟨P.hx,P.lx,λe he=>by cases bn.mp he;exact⟨by show 1<2;decide,h4,lw nw⟩,P.ow,P.kp,P.fr,P.f10⟩;obtain⟨xs,hx,px⟩:=h2;have az:l≠x:=zL hx h1 ();unfold qD zt;refine P.sv Z Z a.cD a.d1 () λH1 P=>P.sv Z Z a.cD a.d2 (by show 1<1000;decide) λH2 P=>P.sv Z Z a.cD a.d3 (by show 2<1000;decide) λH3 P=>⟨(),P.so (.lst []) 4 () () Z a.cD a.d4 (by show 3<1000;decide) λcl H4 k P=>⟨(),P.so (.lst []) 5 () () Z a.cD a.d5 (by show 4<1000;decide) λwl H5 u P=>P.so (.dK []) 6 () () Z a.cD a.d6 (by show 5<1000;decide) λhd H9 bi P=>?_⟩⟩;refine⟨_,Z,?_⟩;intro m dm hm aj nm;have sm:aL H9 (upd (upd H9 dm (HO.own m)) m (HO.ins t.q02 dm [])):=λb o e=>by rw[zm (zF e hm),zm (zF e aj)];exact e
 have ai:tN H9 l g:=⟨xs,P.kp _ _ az hx,Paired.mapP px λ_ _ ⟨r,p,e,e1,e2⟩=>⟨r,p,e,P.kp _ _ (zL e1 h1 ()) e1,P.kp _ _ (zL e2 h1 ()) e2⟩⟩;refine⟨m,l,dm,g,Z,zj,ai.same sm,h3,λH10 F ag ap an=>⟨Z,?_⟩⟩;have aa:aL H9 H10:=λb o e=>ag b o (zF e hm) (sm _ _ e);have fF:∀b,F b->H9 b=am:=λb z=>by
  rcases an b z with y|y
  .rw[y];exact hm
  .cases e:H9 b with
   |none=>rfl
   |some o=>have:=sm b o e;rw[y] at this;cases this
 obtain⟨be,P',bz,_⟩:=(P.same aa).lab (N:=F) (F':=F) 10 (λb=>⟨λz=>z.elim (λy=>y.1) dz,λz=>.inl ⟨z,Z⟩⟩) λb z=>⟨(P.l0 (fF b z)).1,(P.l0 (fF b z)).2,ap.own b z⟩;replace P:=P';clear P' ag an aa sm hm aj nm ai fF;refine P.stM ap Z a.cD a.d7 (by show 6<1000;decide) λd P a8=>?_;refine⟨_,Z,x,_,_,_,_,Z,P.hx,a.cD,a.d7,Z,?_⟩;intro jb O hj al nj;have sj:aL d (upd (upd d O (HO.own jb)) jb (HO.ins t.q03 O [])):=λb o e=>by rw[zm (zF e hj),zm (zF e al)];exact e
 refine⟨jb,m,O,Z,zj,λH12 la re T ae J v j C nl nr nd ld=>⟨Z,?_⟩⟩;have I:aL d H12:=λb o e=>ae b o (zF e hj) (sj _ _ e);have M:∀b,upd (upd d O (HO.own jb)) jb (HO.ins t.q03 O []) b=am->d b=am:=λb z=>by
  cases e:d b with
  |none=>rfl
  |some o=>have:=sj b o e;rw[z] at this;cases this
 have A:∀b,d b=am->_:=λb z=>P.l0 z;have a7:=a8.same I;have Q0:=P.same I;obtain⟨bl,Q1,a1,b1⟩:=Q0.lab (N:=λb=>b=jb) (F':=F) 3 (λb=>⟨λz=>z.resolve_left (λy=>nomatch y.2),.inr⟩) λb z=>by rw[z];exact⟨(A _ hj).1,(A _ hj).2,_,J⟩
 have n1:la≠jb:=λz=>by rw[z,zj] at nl;cases nl
 have n2:re≠jb:=λz=>by rw[z,zj] at nr;cases nr
 have n3:T≠jb:=λz=>by rw[z,zj] at nd;cases nd
 have n4:re≠la:=zL j v ();have n5:T≠re:=zL C j ();obtain⟨bk,Q2,a2,b2⟩:=Q1.lab (N:=λb=>b=la) (F':=F) 7 (λb=>⟨λz=>z.resolve_left (λy=>nomatch y.2),.inr⟩) λb z=>by rw[z,b1 _ n1];exact⟨(A _ (M _ nl)).1,(A _ (M _ nl)).2,_,v⟩
 obtain⟨bj,Q3,a3,b3⟩:=Q2.lab (N:=λb=>b=re) (F':=F) 11 (λb=>⟨λz=>z.resolve_left (λy=>nomatch y.2),.inr⟩) λb z=>by rw[z,b2 _ n4,b1 _ n2];exact⟨(A _ (M _ nr)).1,(A _ (M _ nr)).2,_,j⟩
 obtain⟨k,G,a4,b4⟩:=Q3.lab (N:=λb=>b=T) (F':=F) 8 (λb=>⟨λz=>z.resolve_left (λy=>nomatch y.2),.inr⟩) λb z=>by rw[z,b3 _ n5,b2 _ ld.symm,b1 _ n3];exact⟨(A _ (M _ nd)).1,(A _ (M _ nd)).2,_,C⟩
 have y1:k jb=3:=by rw[b4 _ n3.symm,b3 _ n2.symm,b2 _ n1.symm,a1 _ rfl]
 have y2:k la=7:=by rw[b4 _ ld,b3 _ n4.symm,a2 _ rfl]
 have y3:k re=11:=by rw[b4 _ n5.symm,a3 _ rfl]
 have y4:=a4 _ rfl;have P:PO H x w _ H12 k F [(3,jb,.ins t.q03 O (KA m la re T)),(7,la,.dK []),(11,re,.dT []),(8,T,.dK []),(6,hd,.dK []),(5,wl,.lst []),(4,cl,.lst []),(2,w,wo)]:=⟨G.hx,G.lx,λe he=>by
  rcases bw.mp he with rfl|he
  .exact⟨by show 1<3;decide,J,y1⟩
  rcases bw.mp he with rfl|he
  .exact⟨by show 1<7;decide,v,y2⟩
  rcases bw.mp he with rfl|he
  .exact⟨by show 1<11;decide,j,y3⟩
  rcases bw.mp he with rfl|he
  .exact⟨by show 1<8;decide,C,y4⟩
  exact G.ob e he,G.ow,G.kp,G.fr,G.f10⟩
 clear Q0 Q1 Q2 Q3 G a1 a2 a3 a4 b1 b2 b3 b4 y1 y2 y3 y4 n1 n2 n3 n4 n5 I sj ae A M nl nr nd ld hj al nj J v j C;refine P.stM a7 Z a.cD a.d8 (by show 7<1000;decide) λa9 P a6=>?_;refine⟨(),λen hc=>?_⟩;have a5:=a6.same (tM en hc (o:=.lst []));obtain⟨u,P'⟩:=P.new (o:=.lst []) 9 () () hc;replace P:=P';clear P';generalize upd a9 en (.lst [])=H14 at *
 refine P.stM a5 Z a.cD a.d9 (by show 8<1000;decide) λar P aS=>?_;have eF:(λb=>u b=10)=F:=funext λb=>propext (P.f10 b);have s:∀n c o,(n,c,o)∈_->ar c=U o/\u c=n:=λn c o z=>(P.ob (n,c,o) z).2;obtain⟨r1,r2⟩:=s 11 re _ (.tail _ (.tail _ (.tail _ (.head _))));refine q ar ⟨dx,w,dw,cl,wl,hd,m,jb,O,en,la,re,T⟩ u Z Z P.kp (λb o n1 n2 e=>cE λz=>by rcases P.fr b z with y|y|y;exact n1 y;exact n2 y;rw[y] at e;cases e) ⟨λi b o e=>?_,by rw[eF];exact aS,⟨[],⟨r1,cO,cO,(),λ_ _ ⟨_,z,_⟩=>nomatch z⟩⟩,r2,.nil,P.ow⟩
 match i,e with
 |0,e=>cases e;exact⟨P.hx,P.lx⟩
 |1,e=>cases e;exact s 2 _ _ (.tail _ (.tail _ (.tail _ (.tail _ (.tail _ (.tail _ (.tail _ (.tail _ (.head _)))))))))
 |2,e=>cases e;exact s 3 _ _ (.tail _ (.head _))
 |3,e=>cases e;exact s 4 _ _ (.tail _ (.tail _ (.tail _ (.tail _ (.tail _ (.tail _ (.tail _ (.head _))))))))
 |4,e=>cases e;exact s 5 _ _ (.tail _ (.tail _ (.tail _ (.tail _ (.tail _ (.tail _ (.head _)))))))
 |5,e=>cases e;exact s 6 _ _ (.tail _ (.tail _ (.tail _ (.tail _ (.tail _ (.head _))))))
 |6,e=>cases e;exact s 7 _ _ (.tail _ (.tail _ (.head _)))
 |7,e=>cases e;exact s 8 _ _ (.tail _ (.tail _ (.tail _ (.tail _ (.head _)))))
 |8,e=>cases e;exact s 9 _ _ (.head _)
end
end
section
variable {fo:Int}
section
variable {β:Type}{l:List (Int×β)}{h:Int}{b b0:β}{q:Int×β->Nat}
theorem zcl:∀ {l:List (Int×β)},h ∉ l.map (·.1)->yk l h=l
 |[],_=>rfl
 |e::l,n=>by
  rw[bh,bw] at n;have c:e.1≠h:=λz=>n (.inl z.symm);rw[yk,cp,au (Bj c)];exact congrArg _ (zcl λz=>n (.inr z))
theorem qI:∀ {l:List (Int×β)},(l.map (·.1)).Nodup->(h,b0)∈l->(Yn l h b).Perm ((h,b)::yk l h)/\l.Perm ((h,b0)::yk l h)
 |e::l,nd,m=>by
  rw[bh,bW] at nd;by_cases c:e.1=h
  .have g:e=(h,b0):=uniq (l:=e::l) (by rw[bh,bW];exact nd) br m c;have n:h ∉ l.map (·.1):=by rw[<-c];exact nd.1
   have z:yk (e::l) h=l:=by rw[yk,cp,ao (by rw[decide_eq_true_eq];exact λz=>z c)];exact zcl n
   have y:Yn l h b=l:=(dC λe f=>ao λw=>n (bD.mpr ⟨e,f,w⟩)).trans (List.map_id _);rw[z];refine⟨?_,by rw[g]⟩;show ((if e.1=h then (h,b) else e)::Yn l h b).Perm _;rw[au c,y]
  .have m:=(bw.mp m).resolve_left λz=>c (by rw[<-z]);obtain⟨d,a⟩:=qI nd.2 m;have z:yk (e::l) h=e::yk l h:=by rw[yk,cp,au (Bj c)];rfl
   rw[z];refine⟨?_,(a.cons e).trans (.swap ..)⟩;show ((if e.1=h then (h,b) else e)::Yn l h b).Perm _;rw[ao c];exact(d.cons e).trans (.swap ..)
theorem X6(d:(l.map (·.1)).Nodup)(m:(h,b0)∈l):((Yn l h b).map q).sum=q (h,b)+((yk l h).map q).sum/\(l.map q).sum=q (h,b0)+((yk l h).map q).sum:=by
 obtain⟨c,a⟩:=qI (b:=b) d m;exact⟨(c.map q).sum_nat.trans (by rw[bh,bZ]),(a.map q).sum_nat.trans (by rw[bh,bZ])⟩
end
theorem QV{q:Int->Nat}:∀ {a b:List Int},a.Nodup->(∀x∈a,x∈b)->(a.map q).sum<=(b.map q).sum
 |[],_,_,_=>bS _
 |x::a,b,nd,h=>by
  rw[bW] at nd;have p:=lI (h x br);rw[(p.map q).sum_nat,bh,bh,bZ,bZ];refine lS (QV nd.2 λy c=>?_) _;exact(oZ λz=>nd.1 (by rw[<-z];exact c)).mpr (h y (bp _ c))
theorem jH{a:Type}{q q':a->Nat}:∀ {l:List a},(∀x∈l,q x<=q' x)->(l.map q).sum<=(l.map q').sum
 |[],_=>bo _
 |x::l,h=>by
  have i:=jH λy b=>h y (bp x b);have:=h x br;rw[bh,bh,bZ,bZ];lia
theorem VR{a:Type}{q q':a->Nat}:∀ {l:List a},(l.map λx=>q x+q' x).sum=(l.map q).sum+(l.map q').sum
 |[]=>rfl
 |x::l=>by
  have i:=VR (q:=q) (q':=q') (l:=l);rw[bh,bh,bh,bZ,bZ,bZ,i];lia
theorem zek{a:Type}{p:a->Prop} [DecidablePred p]{q:a->Nat}:∀ {l:List a},(l.map λx=>if p x then q x else 0).sum=((l.filter λx=>decide (p x)).map q).sum
 |[]=>rfl
 |x::l=>by
  have i:=zek (p:=p) (q:=q) (l:=l);rw[bh,bZ,i,cp];by_cases c:p x
  .rw[au c,au (Bj c),bh,bZ]
  .rw[ao c,ao (by rw[decide_eq_true_eq];exact c),rW]
section
variable {g:List aO}{ls:List (Int×List aO)}{p:Pl}{r r':Int}{gi:List aO}
theorem WA{r r':Int}(h:r'<=r):∀(ls:List (Int×List aO)) (s:Int×Int),va p r' (ls.filter λy=>decide (y.1≠r)) s=va p r' ls s
 |[],_=>rfl
 |y::ls,s=>by
  rw[cp];by_cases c:y.1=r
  .rw[ao (by rw[decide_eq_true_eq];exact λz=>z c),WA h ls,va,ao ()]
  .rw[au (Bj c),va,va,WA h ls]
theorem zcm(h:r'<=r):ye g (yZ ls r gi) p r'=ye g ls p r':=by
 unfold ye yZ;rw[JT,ao (λz=>sQ.mpr h z.2),WA h]
theorem zcn:∀(a:List aO) (s:Int×Int),(∀w∈a,tK w.2=ak)->tK s.2=ak->tK (JG p r a s).2=ak
 |[],_,_,h=>h
 |w::a,s,hr,h=>by
  rw[JG];refine zcn a _ (λx b=>hr x (bp _ b)) ?_;split
  .exact hr w br
  .exact h
theorem zco:∀(ls:List (Int×List aO)) (s:Int×Int),(∀y∈ls,∀w∈y.2,tK w.2=ak)->tK s.2=ak->tK (va p r ls s).2=ak
 |[],_,_,h=>h
 |y::ls,s,hr,h=>by
  rw[va];refine zco ls _ (λx a=>hr x (bp _ a)) ?_;split
  .exact zcn _ _ (hr y br) h
  .exact h
end
section
variable {f n h:Int}{g:List aO}{CC:List (List Cs)}{S S':DS}{e:Ev}
theorem zhd(I:RnI C j s)(c:yI C s=aq):j<C.length:=by
 have a:¬ yI C s=ak:=by rw[c];decide
 have d:=XT a;have b:s.why=am:=by
  cases e:s.why with
  |none=>rfl
  |some v=>exact absurd (show yI C s=ak by unfold yI;rw[e];rfl) a
 have:=I.at_ b;lia
theorem J9{k n:Nat}(h:k<n):vg f k n=(f+k)::vg f (k+1) n:=by
 unfold vg;rw[show n-k=n-(k+1)+1 by lia,List.range_succ_eq_map,bh,dJ];refine congr (congrArg _ ()) (dC λi _=>?_);show f+(k:Int)+((i+1:Nat):Int)=f+((k+1:Nat):Int)+i;lia
theorem pv.run(a:pv n f g CC S){r:Int}{s s':bv}{w:Int}{C:List Cs}(m:(h,r,j,s)∈S.hl)(k:CC[(r-f).toNat]?=U C)(q:yI C s=aq)(u:tK w=ak):pv n f g CC { S with hl:=Yn S.hl h (r,j+1,xD C w s) }:=by
 obtain⟨d,l⟩:=qI (b:=(r,j+1,xD C w s)) a.hn m;obtain⟨c,i,I,_⟩:=a.rn _ m;obtain rfl:c=C:=bH (i.symm.trans k);have O:=a.cc.ok c (bJ k);have v:j<c.length:=zhd I q;have o:∀e∈Yn S.hl h (r,j+1,xD c w s),e=(h,r,j+1,xD c w s)\/e∈S.hl:=λe he=>(bw.mp (d.mem_iff.mp he)).imp id λz=>(hU.mp z).1;refine⟨a.f0,a.cc,a.el,?_,a.so,?_,λe he=>?_,λe he=>?_,a.nt,a.ly,a.gw,a.lw⟩
 .refine eA (.append_left _ (.append_right _ ?_)) a.pm;exact(d.map λe:Int×Int×Nat×bv=>e.2.1).trans (l.map λe:Int×Int×Nat×bv=>e.2.1).symm
 .exact((d.map λe:Int×Int×Nat×bv=>e.1).trans (l.map λe:Int×Int×Nat×bv=>e.1).symm).nodup_iff.mpr a.hn
 .rcases o e he with rfl|he
  .show 0<=h/\h<n;exact a.hr _ m
  .exact a.hr e he
 .rcases o e he with rfl|he
  .exact⟨c,k,ziq O.1 I q u,by show j+1<=11;have:=O.2;lia⟩
  .exact a.rn e he
theorem pv.iw(a:pv n f g CC S)(p:Pl)(r:Int):tK (ye g S.ls p r)=ak:=zco _ _ a.lw (a.gw p)
theorem Mv.ok(ok:pv n f g CC S)(m:Mv f g CC S h e S')(E:0<=h)(A:h<n):pv n f g CC S':=by
 cases m with
 |step m ec ho ha=>exact ok.run (s':=st0) m ec ho rfl
 |read m ec ho ha=>exact ok.run (s':=st0) m ec ho (ok.iw _ _)
 |@lay r j s C gi m ec ho hg =>
  obtain⟨_,d⟩:=qI (b:=(r,j,s)) ok.hn m;obtain⟨O,G,I,i⟩:=ok.rn _ m;obtain⟨k,rk,_,u⟩:=ok.rh m;have rk:r=f+k:=rk;have N:s.gi.length<=j:=I.ok.l2;have M:s.no.length<=j:=I.ok.l3;have i:j<=11:=i;have J:gi.length<=s.gi.length:=zdl hg;have q:∀y∈yZ S.ls r gi,y∈S.ls\/y=(r,gi):=λy c=>(bu.mp c).imp (λz=>(bQ.mp z).1) λz=>bn.mp z;refine⟨ok.f0,ok.cc,ok.el,?_,ok.so,ok.hn.sublist (dh.map _),λe he=>ok.hr e (hU.mp he).1,λe he=>ok.rn e (hU.mp he).1,λe he=>?_,λy c=>?_,ok.gw,λy c=>?_⟩
  .refine eA (.append_left _ ?_) ok.pm;refine eA ?_ (.append_right _ (d.map λe:Int×Int×Nat×bv=>e.2.1).symm);rw[bN,<-cP];exact oR
  .rcases bu.mp he with he|he
   .exact ok.nt e he
   .cases bn.mp he;exact(⟨I.ok.nd,zi6 hg,(),()⟩:zdi s.no gi)
  .rcases q y c with c|rfl
   .exact ok.ly y c
   .show f<=r/\r<_;lia
  .rcases q y c with c|rfl
   .exact ok.lw y c
   .exact zjP I hg
 |@settle s gi m fr =>
  obtain⟨_,d⟩:=qI (b:=(s,gi)) ok.nd.2.1.2.1 m;obtain⟨k,rk,_,u⟩:=ok.rl (bB (f:=λe:Int×bv×List aO=>e.1) m);have rk:f+(S.en:Int)=f+k:=rk;refine⟨ok.f0,ok.cc,by show S.en+1<=_;lia,?_,ok.so,ok.hn,ok.hr,ok.rn,λe he=>ok.nt e (hU.mp he).1,ok.ly,ok.gw,ok.lw⟩;have z:=ok.pm;rw[J9 (show S.en<CC.length by lia)] at z;refine List.Perm.cons_inv (a:=f+(S.en:Int)) (eA ?_ z);refine eA ?_ (.append_left _ (.append_left _ (d.map λe:Int×bv×List aO=>e.1).symm));rw[<-cP,<-cP];exact si.symm
 |@again r s gi p o ws' m c hn' ns pw so fr =>
  obtain⟨_,d⟩:=qI (b:=(s,gi)) ok.nd.2.1.2.1 m;refine⟨ok.f0,ok.cc,ok.el,?_,so,ok.hn,ok.hr,ok.rn,λe he=>ok.nt e (hU.mp he).1,ok.ly,ok.gw,ok.lw⟩;refine eA (.append_right _ pw) (eA ?_ ok.pm);refine eA ?_ (.append_left _ (.append_left _ (d.map λe:Int×bv×List aO=>e.1).symm));rw[<-cP,<-cP];exact si.symm
 |@take r m er al hm fr =>
  obtain⟨k,rk,_,u⟩:=ok.rw_ m;refine⟨ok.f0,ok.cc,ok.el,?_,ok.so.sublist rc,?_,λe he=>?_,λe he=>?_,ok.nt,ok.ly,ok.gw,ok.lw⟩
  .refine eA ?_ ((List.Perm.append_right _ (lI m)).symm.trans ok.pm);rw[bN,cP];show (S.ws.erase r++(S.hl.map (·.2.1)++r::S.ld.map (·.1))).Perm (r::(S.ws.erase r++(S.hl.map (·.2.1)++S.ld.map (·.1))));rw[<-cP,<-cP];exact List.perm_middle
  .rw[bN];refine dn.mpr ⟨ok.hn,by simp,λx v y c z=>fr ?_⟩;rw[<-show y=h from bn.mp c,<-z];exact v
  .rcases bu.mp he with he|he
   .exact ok.hr e he
   .cases bn.mp he;exact⟨E,A⟩
  .rcases bu.mp he with he|he
   .exact ok.rn e he
   .cases bn.mp he;exact⟨_,bb (show (r-f).toNat<CC.length by lia),rn0,bS _⟩
 |rest w al l fr=>exact ok
end
end
section
variable {fo:Int}
def uo(f:Int)(n:Nat)(r:Int):Nat:=14*2^(n-1-(r-f).toNat)
open Classical in
noncomputable def pen(f:Int)(n:Nat)(g:List aO)(b:List (Int×List aO))(r:Int)(a:List aO):Nat:=if Agr g b r a then 0 else uo f n r
noncomputable def phH(f:Int)(n:Nat)(g:List aO)(a:List (Int×List aO))(e:Int×Int×Nat×bv):Nat:=11-e.2.2.1+2+(uo f n e.2.1-14)+pen f n g a e.2.1 e.2.2.2.no
noncomputable def phL(f:Int)(n:Nat)(g:List aO)(a:List (Int×List aO))(e:Int×bv×List aO):Nat:=1+pen f n g a e.1 e.2.1.no
noncomputable def Phi(f:Int)(n:Nat)(g:List aO)(S:DS):Nat:=(S.ws.map (uo f n)).sum+((S.hl.map (phH f n g S.ls)).sum+(S.ld.map (phL f n g S.ls)).sum)
section
variable {f h r r':Int}{n k:Nat}{N:Int}{g gi no:List aO}{CC:List (List Cs)}{S S':DS}{e:Ev}{ls ls':List (Int×List aO)}
theorem zhe:14<=uo f n r:=Nat.le_mul_of_pos_right 14 (Nat.pow_pos ())
theorem zdq:∀m k:Nat,k+m=n->((vg f k n).map (uo f n)).sum=14*(2^m-1)
 |0,k,h=>by
  rw[show vg f k n=[] by unfold vg;rw[show n-k=0 by lia];rfl];rfl
 |m+1,k,h=>by
  rw[J9 (),bh,bZ,zdq m (k+1) ()];unfold uo;rw[show n-1-(f+(k:Int)-f).toNat=m by lia,Nat.pow_succ];have:1<=2^m:=Nat.pow_pos ();lia
theorem zdr:pen f n g ls r no<=uo f n r:=by unfold pen;split;exact bS _;exact bo _
theorem zhf(h:∀p,ye g ls' p r=ye g ls p r):pen f n g ls' r no=pen f n g ls r no:=by
 have:Agr g ls' r no↔Agr g ls r no:=forall_congr' λy=>by rw[h]
 unfold pen;rw[propext this]
def exR(f:Int)(n:Nat)(r x:Int):Nat:=if r<x then uo f n x else 0
theorem zel:pen f n g (yZ ls r gi) r' no<=pen f n g ls r' no+exR f n r r':=by
 by_cases c:r<r'
 .have:=zdr (f:=f) (n:=n) (g:=g) (ls:=yZ ls r gi) (r:=r') (no:=no);unfold exR;rw[au c];lia
 .rw[zhf λp=>zcm ()];exact eC _ _
theorem zem(a:pv N f g CC S)(m:(h,r,j,s)∈S.hl)(l:j<11)(c:Agr g S.ls r s.no->Agr g S.ls r s'.no):Phi f n g { S with hl:=Yn S.hl h (r,j+1,s') }<Phi f n g S:=by
 obtain⟨p,o⟩:=X6 (b:=(r,j+1,s')) (q:=phH f n g S.ls) a.hn m;have:pen f n g S.ls r s'.no<=pen f n g S.ls r s.no:=by
  unfold pen;split
  .exact bS _
  .rw[ao λz=>(by assumption:¬ _) (c z)];exact bo _
 have i:phH f n g S.ls (h,r,j+1,s')=11-(j+1)+2+(uo f n r-14)+pen f n g S.ls r s'.no:=rfl;have d:phH f n g S.ls (h,r,j,s)=11-j+2+(uo f n r-14)+pen f n g S.ls r s.no:=rfl;unfold Phi;dsimp only;lia
theorem Mv.dec(ok:pv N f g CC S)(m:Mv f g CC S h e S'):(e=.rest/\S'=S)\/Phi f CC.length g S'<Phi f CC.length g S:=by
 have d:∀ {r j s C},(h,r,j,s)∈S.hl->CC[(r-f).toNat]?=U C->yI C s=aq->j<11:=λ{r j s C} m c a=>by
  obtain⟨E,v,I,_⟩:=ok.rn _ m;obtain rfl:E=C:=bH (v.symm.trans c);have:=(ok.cc.ok E (bJ c)).2;have:j<E.length:=zhd I a;lia
 cases m with
 |step m c a ha =>
  refine .inr (zem ok m (d m c a) λz=>?_);rw[(zd7 a).1 ha];exact z
 |read m c a ha =>
  refine .inr (zem ok m (d m c a) λz=>?_);rw[(zd7 a).2 _ ha];intro y hy;rcases bu.mp hy with hy|hy
  .exact z y hy
  .rw[bn.mp hy]
 |@lay r j s C gi m c a hg =>
  refine .inr ?_;obtain⟨_,M⟩:=qI (b:=(r,j,s)) ok.hn m;obtain⟨_,A⟩:=X6 (b:=(r,j,s)) (q:=phH f CC.length g S.ls) ok.hn m;obtain⟨k,rk,_,kl⟩:=ok.rh m;have rk:r=f+k:=rk;have b1:((yk S.hl h).map (phH f CC.length g (yZ S.ls r gi))).sum<=((yk S.hl h).map (phH f CC.length g S.ls)).sum+((yk S.hl h).map λe=>exR f CC.length r e.2.1).sum:=by
   rw[<-VR];exact jH λx _=>by have:=zel (f:=f) (n:=CC.length) (g:=g) (ls:=S.ls) (r:=r) (gi:=gi) (r':=x.2.1) (no:=x.2.2.2.no);unfold phH;lia
  have b2:(S.ld.map (phL f CC.length g (yZ S.ls r gi))).sum<=(S.ld.map (phL f CC.length g S.ls)).sum+(S.ld.map λe=>exR f CC.length r e.1).sum:=by
   rw[<-VR];exact jH λx _=>by have:=zel (f:=f) (n:=CC.length) (g:=g) (ls:=S.ls) (r:=r) (gi:=gi) (r':=x.1) (no:=x.2.1.no);unfold phL;lia
  have b3:((yk S.hl h).map λe=>exR f CC.length r e.2.1).sum+(S.ld.map λe=>exR f CC.length r e.1).sum<=uo f CC.length r-14:=by
   have z:((yk S.hl h).map λe=>exR f CC.length r e.2.1).sum+(S.ld.map λe=>exR f CC.length r e.1).sum=((((yk S.hl h).map (·.2.1)++S.ld.map (·.1)).filter λx=>decide (r<x)).map (uo f CC.length)).sum:=by
    rw[<-zek,bN,fZ,dJ,dJ];rfl
   rw[z];have G:((yk S.hl h).map (·.2.1)++S.ld.map (·.1)).Sublist (S.hl.map (·.2.1)++S.ld.map (·.1)):=(dh.map _).append (List.Sublist.refl _);have T:=(ok.pm.nodup_iff.mpr zhc).sublist (List.sublist_append_right S.ws _);refine bM (QV (b:=vg f (k+1) CC.length) (T.sublist (List.filter_sublist.trans G)) λx hx=>?_) ?_
   .obtain⟨h1,h2⟩:=bQ.mp hx;obtain⟨j,ej,_,jl⟩:=ok.rk (bP _ (G.subset h1));have:=of_decide_eq_true h2;exact ut.mpr ⟨j,ej,(),jl⟩
   .rw[zdq (CC.length-(k+1)) (k+1) ()];unfold uo;rw[show CC.length-1-(r-f).toNat=CC.length-(k+1) by lia];lia
  have b4:=zhf (f:=f) (n:=CC.length) (g:=g) (no:=s.no) (ls:=S.ls) (ls':=yZ S.ls r gi) (r:=r) λp=>zcm (ma r);have u:phH f CC.length g S.ls (h,r,j,s)=11-j+2+(uo f CC.length r-14)+pen f CC.length g S.ls r s.no:=rfl;have M:([(r,s,gi)].map (phL f CC.length g (yZ S.ls r gi))).sum=1+pen f CC.length g (yZ S.ls r gi) r s.no+0:=rfl;unfold Phi;dsimp only;rw[bN,fZ];lia
 |@settle s gi m fr =>
  obtain⟨_,A⟩:=X6 (b:=(s,gi)) (q:=phL f CC.length g S.ls) ok.nd.2.1.2.1 m;refine .inr ?_;have u:phL f CC.length g S.ls (f+S.en,s,gi)=1+pen f CC.length g S.ls (f+S.en) s.no:=rfl;unfold Phi;dsimp only;lia
 |@again r s gi p o ws' m hy hn ns pw so fr =>
  obtain⟨_,A⟩:=X6 (b:=(s,gi)) (q:=phL f CC.length g S.ls) ok.nd.2.1.2.1 m;refine .inr ?_;have J:pen f CC.length g S.ls r s.no=uo f CC.length r:=by unfold pen;exact ao λz=>by obtain⟨i,hi,_,O⟩:=hy;exact O (z _ (bJ hi))
  have u:phL f CC.length g S.ls (r,s,gi)=1+pen f CC.length g S.ls r s.no:=rfl;unfold Phi;dsimp only;rw[(pw.map (uo f CC.length)).sum_nat,bh,bZ];lia
 |@take r m er al hm fr =>
  refine .inr ?_;have J:=((lI m).map (uo f CC.length)).sum_nat;rw[bh,bZ] at J;have A:pen f CC.length g S.ls r st0.no=0:=by unfold pen;exact au λy hy=>nomatch hy
  have:=zhe (f:=f) (n:=CC.length) (r:=r);have u:([(h,r,0,st0)].map (phH f CC.length g S.ls)).sum=11-0+2+(uo f CC.length r-14)+pen f CC.length g S.ls r st0.no+0:=rfl;unfold Phi;dsimp only;rw[bN,fZ];lia
 |rest w al l fr=>exact .inl ⟨Z,Z⟩
theorem zj5(b:pv N f g CC S):Phi f CC.length g S<=1000:=by
 have i:=b.cc.le;have w:∀ {e},e∈S.hl->phH f CC.length g S.ls e<=2*uo f CC.length e.2.1:=λ{e} a=>by
  have:=zhe (f:=f) (n:=CC.length) (r:=e.2.1);have:=zdr (f:=f) (n:=CC.length) (g:=g) (ls:=S.ls) (r:=e.2.1) (no:=e.2.2.2.no);unfold phH;lia
 have c:∀ {e},e∈S.ld->phL f CC.length g S.ls e<=2*uo f CC.length e.1:=λ{e} a=>by
  have:=zhe (f:=f) (n:=CC.length) (r:=e.1);have:=zdr (f:=f) (n:=CC.length) (g:=g) (ls:=S.ls) (r:=e.1) (no:=e.2.1.no);unfold phL;lia
 have o:(S.hl.map (phH f CC.length g S.ls)).sum<=(S.hl.map λe=>2*uo f CC.length e.2.1).sum:=jH λe a=>w a;have m:(S.ld.map (phL f CC.length g S.ls)).sum<=(S.ld.map λe=>2*uo f CC.length e.1).sum:=jH λe a=>c a;have j:=jH (l:=S.ws) (q:=uo f CC.length) (q':=λr=>2*uo f CC.length r) λe _=>by lia
 have z:=(b.pm.map λr=>2*uo f CC.length r).sum_nat;rw[bN,bN,fZ,fZ,dJ,dJ] at z;have y:=zdq (f:=f) (n:=CC.length) (CC.length-S.en) S.en (by have:=b.el;lia);have t:=VR (q:=uo f CC.length) (q':=uo f CC.length) (l:=vg f S.en CC.length);have d:((vg f S.en CC.length).map λr=>2*uo f CC.length r).sum=((vg f S.en CC.length).map λx=>uo f CC.length x+uo f CC.length x).sum:=by
  congr 1;exact dC λx _=>by lia
 have p:2^(CC.length-S.en)<=2^5:=Nat.pow_le_pow_right () ();have p:2^(CC.length-S.en)<=32:=p;have z:(S.ws.map λr=>2*uo f CC.length r).sum+((S.hl.map λe=>2*uo f CC.length e.2.1).sum+(S.ld.map λe=>2*uo f CC.length e.1).sum)=_:=z;unfold Phi;lia
end
end
section
variable {fo:Int}
section
variable {H':D}{lb lb':L->Nat}{d l:L}{a:um}{cs en xs ys:List V}{CC:List (List Cs)}{n f h:Int}{g:List aO}{S S':DS}{v:V}{es:List He}{e:Ev}{J:List He->DS->Prop}
theorem t9.ts(h:t9 H v x)(ts:TSm H H'):t9 H' v x:=let ⟨b,q,e,h1,h2⟩:=h;⟨b,q,e,ts _ _ h1,λp z=>ts _ _ (h2 p z)⟩
theorem zhg(h:Paired (t9 H) xs es)(b:TSm H H'):Paired (t9 H') xs es:=Paired.mapP h λ_ _ z=>z.ts b
theorem Fr.up{M:Nat->Prop}(h:Fr M H H' lb lb')(i:H' l=U (.lst xs))(c:H l=am):Fr M H (upd H' l (.lst ys)) lb lb':=⟨h.ex,λb o z e=>by rw[zm (λy=>by rw[y,c] at e;cases e)];exact h.kp b o z e,λb zs e=>qH i () _ _ (h.ts b zs e),λb o e=>let ⟨o',e'⟩:=h.al b o e;Z0 b o' e'⟩
def TnI(n:Int)(S:DS)(i t:Nat):Prop:=t<8/\(S.hl=[]\/∃e∈S.hl,((i:Int)+t)%n=e.1)
theorem zhh(b:pv n f g CC S)(p:1<=n)(o:n<=8)(i:Nat):∃t,TnI n S i t:=by
 cases e:S.hl with
 |nil=>exact⟨0,(),.inl e⟩
 |cons x xs =>
  have m:x∈S.hl:=by rw[e];exact br
  obtain⟨k,j⟩:=b.hr x m;have c:=cK (x.1-i) (show n≠0 by lia);have q:=cw (x.1-i) (show 0<n by lia);refine⟨((x.1-i)%n).toNat,(),.inr ⟨x,m,?_⟩⟩;rw[mf c,Int.add_emod,Int.emod_emod_of_dvd _ (Int.dvd_refl n),<-Int.add_emod,show (i:Int)+(x.1-i)=x.1 by lia,Int.emod_eq_of_lt k j]
structure FnI(t:aX)(H:D)(d l:L)(a:um)(lb:L->Nat)(n f fo:Int)(g:List aO)(CC:List (List Cs))(J:List He->DS->Prop)(m:Nat)(H':D)(lb':L->Nat)(xs:List V)(es:List He)(S:DS)(t':Nat):Prop where
 em:m=8*Phi f CC.length g S+t'
 lm:xs.length+m<=9000
 tn:TnI n S xs.length t'
 fr:Fr M0 H H' lb lb'
 hl:H' l=U (.lst xs)
 l0:lb' l=0
 pd:Paired (t9 H') xs es
 js:J es S
 ok:pv n f g CC S
 dk:tW t H' d a lb' n f fo g CC S
def FnE(t:aX)(H:D)(d l:L)(a:um)(lb:L->Nat)(n f fo:Int)(g:List aO)(CC:List (List Cs))(J:List He->DS->Prop)(m:Nat)(b:St)(H':D):Prop:=b=[U (.ref d),U (.ref l)]/\∃lb' xs es S c,FnI t H d l a lb n f fo g CC J m H' lb' xs es S c
theorem FnI.next{i:D}{b:L->Nat}(I:FnI t H d l a lb n f fo g CC J m H' lb' xs es S t')(O:1<=n)(N:n<=8)(M:H l=am)(A:S.en<CC.length)(js:∀es S h e S',J es S->pv n f g CC S->S.en<CC.length->h=(es.length:Int)%n->Mv f g CC S h e S'->J (es++[(h,e)]) S')(r:Fr M0 H' i lb' b)(T:t9 i v ((xs.length:Int)%n,e))(p:Mv f g CC S ((xs.length:Int)%n) e S2)(G2:tW t i d a b n f fo g CC S2):i l=U (.lst xs)/\∃o,o<m/\FnE t H d l a lb n f fo g CC J o [U (.ref d),U (.ref l)] (upd i l (.lst (xs++[v]))):=by
 have b1:=cK (xs.length:Int) (show n≠0 by lia);have b2:=cw (xs.length:Int) (show 0<n by lia);have c:=r.kp _ _ (by rw[I.l0];exact .inl Z) I.hl;have C:b l=0:=(r.ex _ _ I.hl).trans I.l0;have y:TSm i (upd i l (.lst (xs++[v]))):=qH c λ_ z=>nomatch z
 have k:=Mv.ok I.ok p b1 b2;have em:=I.em;have lm:=I.lm;refine⟨c,?_⟩;have fin:∀j,TnI n S2 (xs.length+1) j->8*Phi f CC.length g S2+j<m->∃o,o<m/\FnE t H d l a lb n f fo g CC J o [U (.ref d),U (.ref l)] (upd i l (.lst (xs++[v]))):=λj q s=>⟨_,s,Z,b,xs++[v],es++[((xs.length:Int)%n,e)],S2,j,Z,by rw[bx];show xs.length+1+_<=9000;lia,by rw[bx];exact q,(I.fr.trans r).up c M,zj,C,Paired.snocP (zhg (zhg I.pd r.ts) y) (T.ts y),js es S _ e S2 I.js I.ok A (by rw[bE I.pd]) p,k,G2.put c C⟩;rcases p.dec I.ok with ⟨rfl,e12⟩|dc
 .cases p with
  |rest w _ nl fr =>
   have G:S.hl≠[]:=λz=>by
    have:=I.ok.pm;rw[w,z,J9 A] at this;exact nl (this.mem_iff.mpr br)
   obtain⟨x,E,u⟩:=I.tn.2.resolve_left G;have t0:t'≠0:=λz=>fr (by
    rw[z,show (xs.length:Int)+((0:Nat):Int)=xs.length by lia] at u;rw[u];exact bB (f:=λe:Int×Int×Nat×bv=>e.1) E)
   have:=I.tn.1;exact fin (t'-1) ⟨(),.inr ⟨x,E,by rw[show ((xs.length+1:Nat):Int)+((t'-1:Nat):Int)=xs.length+t' by lia];exact u⟩⟩ ()
 .obtain⟨j,q⟩:=zhh k O N (xs.length+1);have:=q.1;exact fin j q ()
theorem VC{r:List V}{_E:XK}(C:DkF K t)(h:yC t r H Q _E) :
  ZW K t (mt Q) (zZZ 2 r) H:=by
 obtain⟨d,a,lb,n,f,fo,g,CC,S,J,rfl,h,k,x,w,O,N,q⟩:=h;refine⟨(),λl i=>?_⟩;have s:=tM (o:=HO.lst []) l i;have P1:=zj5 k;obtain⟨E,y⟩:=zhh k x w 0;have:=y.1;refine⟨FnE t H d l a lb n f fo g CC J,⟨_,Z,lb,[],[],S,E,Z,by show 0+_<=9000;lia,y,Fr.same s,zj,h.l0 i,.nil,O,k,h.same s⟩,?_⟩;rintro m σ H1 ⟨rfl,c,xs,es,A,t1,I⟩;obtain⟨b,cs,en,ec,ee,lc,le⟩:=I.dk.cmp;refine(xg b Z Z ⟨d,_,a,n,f,en,Z,b,ee,xg b Z Z ⟨d,_,a,n,f,cs,Z,b,ec,_,_,Z,Z,_,Z,?_⟩⟩);have el:=I.ok.el;have lm:=I.lm;rcases iY en.length cs.length with lt|ge
 .refine ym (Bj ()) ⟨λj H'=>∃u,u<m/\FnE t H d l a lb n f fo g CC J u j H',λ_ _ z=>z,?_⟩;have b1:=cK (xs.length:Int) (show n≠0 by lia);have b2:=cw (xs.length:Int) (show 0<n by lia);refine⟨_,Z,.inl ⟨Z,_,aT.of I.hl⟩,xg b Z Z ⟨_,Z,.ref l,xs.length,Z,.inl ⟨_,aT.of I.hl,Z⟩,zZ b C.cD C.d1 Z Z ⟨_,_,Z,Z,by show (0:Int)<n;lia,d,a,c,n,f,(xs.length:Int)%n,fo,g,CC,A,Z,I.dk,I.ok,b1,b2,λv H2 M e S2 F2 T G G2=>?_⟩⟩⟩;obtain⟨p,z⟩:=I.next x w i () N F2 T G G2;exact⟨l,xs,v,Z,Z,p,ca (show xs.length<=9000 by lia) (by rw[bL];decide),z⟩
 .exact ya (Bk ()) ⟨_,Z,q l xs es H1 c A I.fr I.l0 i I.hl I.pd () I.js I.ok () I.dk⟩
end
end
section
variable {fo:Int}
section
variable {H0 H1 H':D}{lb:L->Nat}{d l w x dx dw Bq tl:L}{a:um}{CC:List (List Cs)}{n f k:Int}{g:List aO}{S:DS}{wo:HO}{E:XK}{aK:List V}{v:V}{e:bv×List aO}{b:L}{o:HO}
def hdD(Bq:L)(H:D):D:=λb=>if b=Bq then am else H b
theorem QW(n:b≠Bq)(e:H b=U o):hdD Bq H b=U o:=(ao n).trans e
theorem WB(e:hdD Bq H b=U o):b≠Bq/\H b=U o:=by
 unfold hdD at e;by_cases z:b=Bq
 .rw[au z] at e;cases e
 .rw[ao z] at e;exact⟨z,e⟩
theorem PpC.same(h:PpC H0 H v e)(s:aL H H'):PpC H0 H' v e:=let ⟨r,o,nl,gl,e,h1,h2,h3,h4,z⟩:=h;⟨r,o,nl,gl,e,s _ _ h1,zd8 h2 s,h3.same s,h4.same s,z⟩
theorem VD{vs:List V}{_E:XK}(F:DkF K t)(h:xS t vs H Q _E) :
  ZX K t (mt Q) (zZZ 1 vs) H:=by
 obtain⟨d,a,lb,n,f,fo,g,CC,S,rfl,h,l5,q⟩:=h;obtain⟨wo,cs,kv,la,db,en,h,_,_,_,E,_⟩:=h;have T:H a.en=U (.lst en):=h.at (i:=8) rfl;have le:=E.le;have lp:=bE E.ps;refine(zZ (h.at (i:=0) Z) F.cD F.d9 Z Z ⟨a.en,Z,⟨_,aT.of T⟩,λBq hD=>?_⟩);have hs:∀ {N:D},aL H N->aL H (hdD Bq N):=λs b o z=>QW (zF z hD) (s _ _ z);refine jG (J:=Itl K a.en) en.length () (λτ=>∃o,τ=[o]) (λi A N=>Paired (PpC H (hdD Bq N)) A (S.es.take i)) (λi A N H3 s z=>Paired.mapP z λ_ _ y=>y.same λb o z=>QW (WB z).1 (s.2 _ _ (WB z).1 (WB z).2)) ⟨_,Z⟩ .nil (λi H s h=>⟨_,_,aT.of (s _ _ T),bb h⟩) (λH s=>⟨_,aT.of (s _ _ T),bo _⟩) hD ?_ ?_
 .rintro i v τ us H4 H5 ⟨o,rfl⟩ c hi O j ⟨rfl,hv⟩;have hv:=hv _ (aT.of (c _ _ T));obtain⟨e,he,r,rfl,M,nl,gl,hr,oc,⟨xs,hx,px⟩,⟨A,hy,py⟩,_⟩:=Paired.getP E.ps hv;refine ym (R:=False) Z ⟨_,Z,r,_,0,_,Z,Z,tI.of (c _ _ hr),Z,_,Z,r,_,1,_,Z,Z,tI.of (c _ _ hr),Z,nl,xs,Z,.inl (aT.of (c _ _ hx)),λu h1=>?_⟩;generalize c1:upd H5 u _=H6;obtain⟨I,e6⟩:=yQ c1 h1;have S6:=c.trans I;refine⟨_,Z,r,_,2,_,Z,Z,tI.of (S6 _ _ hr),Z,gl,A,Z,.inl (aT.of (S6 _ _ hy)),λp h2=>?_⟩;generalize c2:upd H6 p _=H7;obtain⟨G,e7⟩:=yQ c2 h2;have S7:=S6.trans G;refine⟨by show 3<=Bb;rw[bL];decide,λm h3=>?_⟩;have C:=tM (o:=HO.tup [M,.ref u,.ref p]) m h3;have e8:upd H7 m (HO.tup [M,.ref u,.ref p]) m=U (.tup [M,.ref u,.ref p]):=zj;refine⟨⟨_,Z⟩,?_,I.trans (G.trans C)⟩;have S8:=hs (S7.trans C);show Paired (PpC H (hdD Bq (upd H7 m (HO.tup [M,.ref u,.ref p])))) (us++[.ref m]) (S.es.take (i+1));rw[show S.es.take (i+1)=S.es.take i++[e] by rw[cx,he];rfl];refine Paired.snocP (Paired.mapP O λ_ _ y=>y.same λb o z=>QW (WB z).1 ((I.trans (G.trans C)) _ _ (WB z).2)) ⟨m,M,u,p,Z,QW (zF (G _ _ (I _ _ j)) h3).symm e8,zd8 oc S8,⟨xs,QW (zF j h1).symm (C _ _ (G _ _ e6)),jm S8 px⟩,⟨A,QW (zF (I _ _ j) h2).symm (C _ _ e7),jm S8 py⟩,zH c h1,zH S6 h2⟩
 .intro us H4 aa O c hq;rw[b7 ()] at O;exact q Bq us H4 c hD hq (Paired.mapP O λ_ _ y=>y.same λb o z=>(WB z).2)
theorem Ka{j:List V}{_E:XK}(F:DkF K t)(h:xk t j H Q _E) :
  YL K t (mt Q) (zZZ 1 j) H:=by
 obtain⟨d,a,lb,n,f,fo,g,CC,S,rfl,h,r,q⟩:=h;obtain⟨wo,C,y,u,A,m,h,_,_,_,E,W⟩:=h;have c:H d=U (.ins t.q00 a.dx (Yo a n f)):=h.at (i:=0) rfl;obtain⟨dx,z,p,rk,s⟩:=h.ms.im;have wl:=W.l;rw[<-E.le] at wl;rw[<-E.le] at q;exact(zZ c F.cD F.d7 Z Z ⟨a.mks,_,_,Z,s,vb (),xg c Z Z ⟨d,_,a,n,f,m,Z,c,h.at (i:=8) Z,a.mks,f+m.length,_,g,S.ls,fo,Z,h.ms,wl,r,q⟩⟩)
theorem KU{c:List V}{_E:XK}(F:DkF K t)(h:x8 t c H Q _E) :
  XO K t (mt Q) (zZZ 1 c) H:=by
 obtain⟨d,a,lb,n,f,fo,g,CC,S,rfl,h,m,q⟩:=h;obtain⟨wo,A,s,r,z,y,h,_⟩:=h;obtain⟨dx,u,j,rk,p⟩:=h.ms.im;exact zZ (h.at (i:=0) Z) F.cD F.d7 Z Z ⟨a.mks,_,_,Z,p,vb (),a.mks,_,g,S.ls,fo,Z,h.ms,m,q⟩
theorem KW{r:List V}{_E:XK}(F:DkF K t)(h:wQ t r H Q _E) :
  XJ K t (mt Q) (zZZ 1 r) H:=by
 obtain⟨d,a,lb,n,f,fo,g,CC,S,rfl,h,T,A,q⟩:=h;obtain⟨wo,cs,G,C,db,j,h,M,J,N,E,W⟩:=h;have p:H d=U (.ins t.q00 a.dx (Yo a n f)):=h.at (i:=0) rfl;obtain⟨dx,gr,u,rk,Mi⟩:=h.ms.im;have wl:=W.l;rw[<-E.le] at wl;have E':=E;refine zZ p F.cD F.d7 Z Z ⟨a.mks,_,_,Z,Mi,vb (),xg p Z Z ⟨d,_,a,n,f,j,Z,p,h.at (i:=8) Z,a.mks,f+j.length,_,g,S.ls,fo,Z,h.ms,wl,T,A,λH2 F2 I y z f2 O=>?_⟩⟩;obtain⟨m,c,s⟩:=h.relay (fo2:=f+j.length) Z I y z f2 O;rw[E.le] at s;exact q H2 m c.m0 ⟨wo,cs,G,C,db,j,s,kF M c Z2,wB J c (.inr ()),N,E.fr c (.inr ()),W.w,oQ W.l.1 W.l.2,ma _⟩
end
end
def kpR(a:List (Int×List aO))(i:Nat)(b:List V)(_:D):Prop:=b=((a.take i).map λy=>(y.2.length:Int)).map V.int
theorem ze9{m:L}{l:Int}{F:L->Prop}{g:List aO}{a:List (Int×List aO)}(r:MkF K t)(C:tV t H m F g a l)(hl:a.length<=200)(q:∀H',aL H H'->Q (.int ((a.map λy=>(y.2.length:Int)).sum)) H') :
  kE K t (mt Q) (zZZ 1 [.ref m]) H:=by
 obtain⟨dx,gr,wo,rk,c,kk,M⟩:=C.ex;have lk:=bE M.wp;refine⟨wo,_,c,M.hw,.inl Z,λo=>?_⟩;have mw:m≠wo:=zL M.im M.hw ();have p:upd H wo (.frz o (.dK c)) wo=U (.frz o (.dK c)):=zj;have N:upd H wo (.frz o (.dK c)) m=U (.ins t.q02 dx (wY gr l wo rk)):=by rw[zm mw];exact M.im
 have nl:∀d E,H d=U (.dT E)->upd H wo (.frz o (.dK c)) d=U (.dT E):=λd E e=>by rw[zm (zL e M.hw ())];exact e
 have bk:∀k,aL (upd H wo (.frz o (.dK c))) k->aL H (upd k wo (.dK c)):=λk s b u e=>by
  by_cases z:b=wo
  .subst z;rw[zj,<-M.hw,e]
  .rw[zm z];exact s _ _ (by rw[zm z];exact e)
 generalize upd H wo (.frz o (.dK c))=H0 at *
 refine zZ N r.cl r.w Z zdm ⟨wo,o,c,Z,p,λBq hD=>?_⟩;refine jG (J:=Itk wo o c) a.length () (λG=>∃I,G=[I,U (.ref m)]) (kpR a) (λ_ _ _ _ _ h=>h) ⟨_,Z⟩ Z (λi H s h=>⟨s _ _ p,()⟩) (λH s=>⟨s _ _ p,()⟩) hD ?_ ?_
 .rintro j v G us k H5 ⟨I,rfl⟩ f hj n _ ⟨rfl,k0,v0,x,rfl⟩;obtain⟨y,w,T,d,O,fd,nd,hd⟩:=Paired.getP M.wp x;simp only at T O;subst T O;obtain⟨d',v1,_,_,A⟩:=JR M.wp C.nd (bJ w);have ln:(tF y.2).length=y.2.length:=by rw[Y8 (C.ok y (bJ w)).2.nd,bd]
  exact ym (R:=False) Z (zZ (f _ _ N) r.cl r.w Z zdm ⟨_,Z,wo,.ref d',Z,.inl ⟨c,.inl y.1,.inr ⟨o,f _ _ p⟩,Z,v1.symm⟩,d',_,Z,f _ _ (nl _ _ A),⟨_,Z⟩,by unfold kpR at *;rw[cx,w,n,ln];simp,aL.refl _⟩)
 .intro ys k aa n f hq;unfold kpR at n;rw[cR] at n;subst n;exact⟨_,_,Z,aT.of hq,f _ _ p,q _ (bk k f)⟩
theorem Kb{a:List V}{_E:XK}(f:MkF K t)(h:vt t a H Q _E) :
  kE K t (mt Q) (zZZ 1 a) H:=by
 obtain⟨m,F,g,b,c,rfl,e,d,q⟩:=h;obtain⟨i,M,_⟩:=e.ex;exact ze9 f M (bM (fG _ _) d) q
theorem zkX{c b rk:L}{a d:Int}:wX (bf "folded") (V.int d) (wY c a b rk)=wY c d b rk:=by
 have h:bf "ground"≠bf "folded":=by lia
 simp only[wY,wX,ao h,if_true]
theorem zkY{d b c rk:L}{a:Int}:wX (bf "ground") (V.ref b) (wY d a c rk)=wY b a c rk:=by
 simp only[wY,wX,if_true]
theorem MrIn.setm{F i:L->Prop}{g j:List aO}{l:List (Int×List aO)}{low c:Int}{dx gr a wo rk:L}{wk:List (aW×V)}{kk:List (List aW×V)}(h:MrIn t H m F g l low dx gr wo rk wk kk)(f:∀b,F b->i b)(r:H a=U (.dT (tF j)))(w:i a)(q:a≠rk):MrIn t (upd H m (.ins t.q02 dx (wY a c wo rk))) m i j l c dx a wo rk wk kk:=by
 have n:∀b o,H b=U o->(∀C d u,o≠.ins C d u)->upd H m (.ins t.q02 dx (wY a c wo rk)) b=U o:=λb o e k=>by
  rw[zm (λz=>by subst z;rw[h.im] at e;exact k _ _ _ (bH e).symm)];exact e
 exact⟨zj,w,f _ h.fw,f _ h.fk,q,n _ _ r (λ_ _ _ z=>nomatch z),n _ _ h.hw (λ_ _ _ z=>nomatch z),Paired.mapP h.wp λ_ _ ⟨e,d,x,v,p,s⟩=>⟨e,d,x,f _ v,p,n _ _ s (λ_ _ _ z=>nomatch z)⟩,
  h.rr.keep2 (by rw[n _ _ h.rr.at_ (λ_ _ _ z=>nomatch z),h.rr.at_]) (λb y _ e=>n _ _ e (λ_ _ _ z=>nomatch z)) (λb z _=>f b z)⟩
def foI(t:aX)(m l:L)(k:Int)(j:List aO)(h:List (Int×List aO))(a:Int)(lo:List Int)(F:L->Prop)(H:D)(i:Nat)(f:St)(c:D):Prop:=(∃g,f=[U (.ref m),U (.int k),U (.ref l),g])/\∃d,tV t c m d j (h.filter λy=>decide (y.1 ∉ lo.take i)) a/\(∀b o,¬ F b->H b=U o->c b=U o)/\(∀b e,H b=U (.tup e)->c b=U (.tup e))/\(∀b,d b->F b\/H b=am)/\(∀b,F b->d b)
theorem zfa{m l:L}{w d:Int}{F:L->Prop}{v:List aO}{g:List (Int×List aO)}{f:List Int}{C:Option V}(MF:MkF K t)(h1:tV t H m F v g d)(hL:H l=U (.lst (f.map V.int)))(nL:¬ F l) (q:∀a h,(∀b o,¬ F b->H b=U o->a b=U o)->(∀b p,H b=U (.tup p)->a b=U (.tup p))->tV t a m h v (g.filter λy=>decide (y.1 ∉ f)) w->(∀b,h b->F b\/H b=am)->(∀b,F b->h b)->Q .non a) :
  qR K t (mt Q) [U (.ref m),U (.int w),U (.ref l),C] H:=by
 refine⟨_,Z,l,Z,⟨_,aT.of hL⟩,xG (f.map V.int) (foI t m l w v g d f F H) ⟨⟨_,Z⟩,F,by rw[show (g.filter λy=>decide (y.1 ∉ f.take 0))=g from l8.mpr λy _=>by simp];exact h1,λ_ _ _ e=>e,λ_ _ e=>e,λ_ z=>.inl z,λ_ z=>z⟩ (λi T a ⟨_,_,_,j,_⟩=>aT.of (j _ _ nL hL)) ?_ ?_⟩
 .rintro i u T a hu ⟨⟨C,rfl⟩,h,M,j,s,k,J⟩;rw[bt] at hu;obtain⟨r,hr,rfl⟩:=bY.mp hu;obtain⟨O,E,x,rk,wk,kk,c⟩:=M.ex;refine xg c.im Z (vb ()) ⟨_,Z,m,r,h,v,_,d,Z,M,λH2 F2 I A m2 N G=>⟨⟨_,Z⟩,F2,?_,λb o n e=>?_,λb p e=>A _ _ (s _ _ e),λb z=>?_,λb z=>G b (J b z)⟩⟩
  .have e:Vv (g.filter λy=>decide (y.1 ∉ f.take i)) r=g.filter λy=>decide (y.1 ∉ f.take (i+1)):=by
    unfold Vv;rw[gp,cx,hr];refine eZ λy _=>?_;rw[e9];simp only[bX,decide_eq_true_eq,bu,not_or,Option.toList_some,bn];exact⟨λz=>⟨z.2,z.1⟩,λz=>⟨z.2,z.1⟩⟩
   rw[<-e];exact m2
  .exact I _ _ (λz=>(k b z).elim n λy=>by rw[e] at y;cases y) (j _ _ n e)
  .rcases N b z with z|z
   .exact k b z
   .by_cases fb:F b
    .exact .inl fb
    .refine .inr ?_;cases e:H b with
     |none=>rfl
     |some o=>rw[j _ _ fb e] at z;cases z
 .rintro T a ⟨⟨C,rfl⟩,h,M,j,s,k,J⟩;rw[bd,cR] at M;obtain⟨O,E,x,rk,wk,kk,c⟩:=M.ex;refine⟨_,Z,_,Z,m,_,_,_,Z,c.im,MF.cl,MF.f,(by show 4<1000;decide),?_⟩;rw[zkX];have nm:∀b o,b≠m->a b=U o->upd a m (.ins t.q02 O (wY E w x rk)) b=U o:=λb o n e=>by rw[zm n];exact e
  refine q _ h (λb o n e=>nm _ _ (λz=>by subst z;exact(k b M.me).elim n λy=>by rw[e] at y;cases y) (j _ _ n e)) (λb p e=>nm _ _ (zL (s _ _ e) c.im ()) (s _ _ e)) ?_ k J;exact⟨λb z=>let ⟨o,e⟩:=M.own b z;Z0 b o e,M.me,M.nd,M.ok,O,E,x,rk,wk,kk,c.setm (λ_ z=>z) c.hg c.fg c.nr⟩
def loR(b:List (Int×List aO))(c:Int)(i:Nat)(a:List V)(_:D):Prop:=a=(((b.take i).map (·.1)).filter λr=>decide (r<c)).map V.int
theorem zfb{m:L}{k x:Int}{F:L->Prop}{g':List aO}{f:List (Int×List aO)}(MF:MkF K t)(O:tV t H m F g' f x)(hl:f.length<=200) (q:∀w C,(∀b o,¬ F b->H b=U o->w b=U o)->(∀b G,H b=U (.tup G)->w b=U (.tup G))->tV t w m C g' (f.filter λy=>decide (y.1 ∉ (f.map (·.1)).filter λr=>decide (r<k))) k->(∀b,C b->F b\/H b=am)->(∀b,F b->C b)->Q .non w) :
  qS K t (mt Q) [U (.ref m),U (.int k),am,am] H:=by
 obtain⟨dx,gr,wo,rk,a,kk,M⟩:=O.ex;have lk:=bE M.wp;refine⟨wo,_,a,M.hw,.inl Z,λo=>?_⟩;have mw:m≠wo:=zL M.im M.hw ();have A:upd H wo (.frz o (.dK a)) wo=U (.frz o (.dK a)):=zj;have im:upd H wo (.frz o (.dK a)) m=U (.ins t.q02 dx (wY gr x wo rk)):=by rw[zm mw];exact M.im
 have T:∀b,upd H wo (.frz o (.dK a)) b=am->H b=am:=λb e=>by
  by_cases z:b=wo
  .subst z;rw[zj] at e;cases e
  .rw[zm z] at e;exact e
 have bk:∀p,aL (upd H wo (.frz o (.dK a))) p->aL H (upd p wo (.dK a)):=λp s b u e=>by
  by_cases z:b=wo
  .subst z;rw[zj,<-M.hw,e]
  .rw[zm z];exact s _ _ (by rw[zm z];exact e)
 generalize upd H wo (.frz o (.dK a))=H0 at *
 refine zZ im MF.cl MF.w Z zdm ⟨wo,o,a,Z,A,λBq E=>?_⟩;have Dw:Bq≠wo:=λz=>by rw[z,A] at E;cases E
 refine jG (J:=Itk wo o a) f.length () (λτ=>∃o1,τ=[o1,U (.int k)]) (loR f k) (λ_ _ _ _ _ h=>h) ⟨_,Z⟩ Z (λi H s h=>⟨s _ _ A,()⟩) (λH s=>⟨s _ _ A,()⟩) E ?_ ?_
 .rintro j v τ us p H5 ⟨o1,rfl⟩ I hj g _ ⟨rfl,k0,v0,N,rfl⟩;obtain⟨y,hy,l,d,e2,_⟩:=Paired.getP M.wp N;simp only at l e2;subst l e2;have tk:f.take (j+1)=f.take j++[y]:=by rw[cx,hy];rfl
  refine⟨_,Z,_,Z,_,_,Z,Z,_,Z,?_⟩;by_cases c:y.1<k
  .refine ym (Bj c) ⟨_,Z,⟨_,Z⟩,?_,aL.refl _⟩;unfold loR at g ⊢;have l:(nQ (λr:Int=>decide (r<k)) [y.1])=[y.1]:=by simp[c]
   rw[tk,bN,mJ,iG,l,bN,g];rfl
  .refine ya (Bk c) ⟨⟨_,Z⟩,?_,aL.refl _⟩;unfold loR at g ⊢;have l:(nQ (λr:Int=>decide (r<k)) [y.1])=[]:=by simp[c]
   rw[tk,bN,mJ,iG,l,gy];exact g
 .intro us p ag g I hq;unfold loR at g;rw[b7 (bo _)] at g;subst g;have S:=bk p I;have nD:¬ F Bq:=λz=>by obtain⟨o',e⟩:=O.own Bq z;rw[T Bq E] at e;cases e
  refine⟨I _ _ A,zfa MF (O.keep λb o _ e=>S _ _ e) (by rw[zm Dw];exact hq) nD λw C fr ts m' ae aa=>q w C (λb o n e=>fr _ _ n (S _ _ e)) (λb G e=>ts _ _ (S _ _ e)) m' (λb z=>(ae b z).imp id λy=>zH S y) aa⟩
theorem zhi{l:List (Int×List aO)}{ac:Int}(h:zgL (λp=>ye g l p ac) aK)(p:Pl):(zC aK p).getD 0=ye g l p ac:=by
 have a:=h.1.nd;cases e:zC aK p with
 |some w=>exact((h.2 p w).mp ((Yf a).mp e)).1.symm
 |none =>
  by_cases z:ye g l p ac=0
  .exact z.symm
  .have:=(Yf a).mpr ((h.2 p _).mpr ⟨Z,z⟩);rw[e] at this;cases this
theorem zhj{a:List aO}{p:Pl}{w:Int}(e:zC a p=U w):p∈a.map (·.1):=by
 exact bD.mpr ⟨(p,w),XW e,Z⟩
theorem zhk{l:List (Int×List aO)}{a ac:Int}(h:a<=ac):Y6 l a+Y6 (l.filter λy=>decide (a<=y.1)) ac=Y6 l ac:=by
 unfold Y6;induction l with
 |nil=>rfl
 |cons y l ih =>
  by_cases c:y.1<a
  .have d:¬ a<=y.1:=by lia
   have b:y.1<ac:=by lia
   simp only[cp,c,d,b,decide_true,decide_false,if_true,cy,if_false,bh,bZ];lia
  .have d:a<=y.1:=by lia
   by_cases b:y.1<ac
   .simp only[cp,c,d,b,decide_true,decide_false,if_true,cy,if_false,bh,bZ];lia
   .simp only[cp,c,d,b,decide_true,decide_false,if_true,cy,if_false];exact ih
theorem Kc{I:List V}{_E:XK}(E:MkF K t)(h:vx t I H Q _E) :
  YF K t (mt Q) (zZZ 4 I) H:=by
 obtain⟨m,ac,F,g,c,low,rfl,j,h2,O,h5,q⟩:=h;obtain⟨ag,aa,i1,i2,i3,i4,i5,i6⟩:=j.ins;have T:=h2.2;refine xg i1 Z i6 ⟨_,Z,m,ac,F,g,c,low,Z,j,h2,O,λtl k H1 v hl A x=>?_⟩;obtain⟨xs,hx,C⟩:=A;obtain⟨s,M0,gn,i0⟩:=j.ex;have rl:k.length<=s.length+Y6 (c.filter λy=>decide (low<=y.1)) ac:=by
  have:=xI x.1.nd (b:=s.map (·.1)++((c.filter λy=>decide (low<=y.1)).filter λy=>decide (y.1<ac)).flatMap λy=>y.2.map (·.1)) λp C=>cE λn=>by
   obtain⟨r,A,rfl⟩:=bD.mp C;obtain⟨a,b⟩:=(x.2 r.1 r.2).mp A;have a:ye g c r.1 ac=r.2:=a;rw[bu,not_or] at n;rw[<-Wx (λy i=>(j.ok y i).1) j.nd (i0 r.1) T,JU s (λy i=>(M0.ok y i).1) (λy i lt=>?_)] at a
   .refine b (a.symm.trans ?_);cases e:zC s r.1 with
    |none=>rfl
    |some w=>exact absurd (zhj e) n.1
   .refine cE λz=>n.2 (nZ.mpr ⟨y,bQ.mpr ⟨i,Bj lt⟩,(xz (M0.ok y i).2.nd).mpr z⟩)
  rw[bd,bx,bd,pP] at this;refine bM this (lS (mz ?_) _);unfold Y6;exact congrArg List.sum (dC λy _=>bd ..)
 have sA:=JV c low;have sB:=JV (c.filter λy=>decide (low<=y.1)) ac;have ae:g.length+(c.map λy=>y.2.length).sum<=63:=O;refine⟨tl,xs,k,Z,hx,C,(),λp d=>?_⟩;obtain⟨H2,eH,s2,J⟩:=zjR (o:=HO.dT (tF k)) d;rw[<-eH];clear eH;have l:=v.trans s2;have M:=M0.keep (H':=H2) λb o _ e=>l _ _ e;obtain⟨dx,gr,G,rk,wk,kk,u⟩:=M.ex;refine⟨_,Z,m,_,_,_,Z,u.im,E.cl,E.g,(by show 4<1000;decide),?_⟩;rw[zkY];have pF:¬ F p:=λz=>by obtain⟨o,e⟩:=M0.own p z;rw[v _ _ e] at d;cases d
 have pk:p≠rk:=λz=>pF (by rw[z];exact u.fk);have M3:tV t (upd H2 m (.ins t.q02 dx (wY p low G rk))) m (λb=>F b\/b=p) k (c.filter λy=>decide (low<=y.1)) low :=
  ⟨λb z=>let ⟨o,e⟩:=z.elim (λf=>M.own b f) λe=>(by subst e;exact⟨_,J⟩);Z0 b o e,.inl M.me,M.nd,M.ok,dx,p,G,rk,wk,kk,u.setm (λ_ z=>.inl z) J (.inr Z) pk⟩
 refine zfb E M3 (bM (fG _ _) h5) λH' F' fr ts m' ff fg=>?_;have N:H p=am:=zH v d;refine q H' F' (λb o n e=>?_) (λb zs e=>?_) ?_ (λb z=>?_) λb z=>fg b (.inl z)
 .have nb:¬ (F b\/b=p):=λz=>z.elim n λy=>by rw[y,N] at e;cases e
  exact fr _ _ nb (by rw[zm (λz=>n (by rw[z];exact M0.me))];exact l _ _ e)
 .refine ts _ _ ?_;rw[zm (zL (l _ _ e) u.im ())];exact l _ _ e
 .refine⟨j.nd,j.ok,k,?_,?_,zhi x⟩
  rotate_left
  .have e3:Y6 c low+Y6 (c.filter λy=>decide (low<=y.1)) ac=Y6 c ac:=zhk T;lia
  have e:((c.filter λy=>decide (low<=y.1)).filter λy=>decide (y.1 ∉ ((c.filter λy=>decide (low<=y.1)).map (·.1)).filter λr=>decide (r<ac)))=c.filter λy=>decide (ac<=y.1):=by
   rw[gp];refine eZ λy i=>?_;rw[e9];simp only[bX,decide_eq_true_eq,bQ,not_and];constructor
   .rintro⟨a,b⟩;rcases i9 y.1 ac with hl|hl
    .exact absurd hl (a (bD.mpr ⟨y,bQ.mpr ⟨i,Bj b⟩,Z⟩))
    .exact hl
   .intro a;exact⟨λ_=>by lia,()⟩
  rw[<-e];exact m'
 .rcases ff b z with z|z
  .rcases z with z|rfl
   .exact .inl z
   .exact .inr N
  .refine .inr (zH l ?_);by_cases e:b=m
   .subst e;rw[zj] at z;cases z
   .rw[zm e] at z;exact z
section
variable {f n h:Int}{g:List aO}{CC:List (List Cs)}{S S1 S2:DS}{e e':Ev}{ls:List (Int×List aO)}{r:Int}{no:List aO}{y y':aO}
theorem FsN.uniq(h:FsN g ls r no y)(k:FsN g ls r no y'):y=y':=by
 obtain⟨i,a,b,c⟩:=h;obtain⟨j,d,o,m⟩:=k;rcases rJ i j with l|l|l
 .exact absurd (o y (bJ (by rw[ib l];exact a))) c
 .subst l;rw[a] at d;cases d;rfl
 .exact absurd (b y' (bJ (by rw[ib l];exact d))) m
theorem FsN.ab(h:FsN g ls r no y)(b:Agr g ls r no):False:=let ⟨_,a,_,c⟩:=h;c (b y (bJ a))
theorem Mv.det(ok:pv n f g CC S)(m:Mv f g CC S h e S1)(i:Mv f g CC S h e' S2):e=e'/\S1=S2:=by
 have d:=ok.hn;have q:=ok.nd.2.1.2.1;have c:∀ {r j s},(h,r,j,s)∈S.hl->h∈S.hl.map (·.1):=λm=>bB (f:=λe:Int×Int×Nat×bv=>e.1) m;have k:∀ {r s gi},(r,s,gi)∈S.ld->r∈S.ld.map (·.1):=λm=>bB (f:=λe:Int×bv×List aO=>e.1) m;cases m with
 |step m A o a =>
  cases i with
  |step m2 A2 o2 a2=>cases uniq d m m2 rfl;cases A.symm.trans A2;exact⟨Z,Z⟩
  |read m2 A2 o2 a2=>cases uniq d m m2 rfl;cases A.symm.trans A2;rw[a] at a2;cases a2
  |lay m2 A2 o2 _=>cases uniq d m m2 rfl;cases A.symm.trans A2;rw[o] at o2;cases o2
  |settle _ _ x=>exact absurd (c m) x
  |again _ _ _ _ _ _ x=>exact absurd (c m) x
  |take _ _ _ _ x=>exact absurd (c m) x
  |rest _ _ _ x=>exact absurd (c m) x
 |read m A o a =>
  cases i with
  |step m2 A2 o2 a2=>cases uniq d m m2 rfl;cases A.symm.trans A2;rw[a] at a2;cases a2
  |read m2 A2 o2 a2=>cases uniq d m m2 rfl;cases A.symm.trans A2;cases a.symm.trans a2;exact⟨Z,Z⟩
  |lay m2 A2 o2 _=>cases uniq d m m2 rfl;cases A.symm.trans A2;rw[o] at o2;cases o2
  |settle _ _ x=>exact absurd (c m) x
  |again _ _ _ _ _ _ x=>exact absurd (c m) x
  |take _ _ _ _ x=>exact absurd (c m) x
  |rest _ _ _ x=>exact absurd (c m) x
 |lay m A o a =>
  cases i with
  |step m2 A2 o2 a2=>cases uniq d m m2 rfl;cases A.symm.trans A2;rw[o] at o2;cases o2
  |read m2 A2 o2 a2=>cases uniq d m m2 rfl;cases A.symm.trans A2;rw[o] at o2;cases o2
  |lay m2 A2 o2 a2=>cases uniq d m m2 rfl;cases zd9 a a2;exact⟨Z,Z⟩
  |settle _ _ x=>exact absurd (c m) x
  |again _ _ _ _ _ _ x=>exact absurd (c m) x
  |take _ _ _ _ x=>exact absurd (c m) x
  |rest _ _ _ x=>exact absurd (c m) x
 |settle m a x =>
  cases i with
  |settle m2 a2 _=>cases uniq q m m2 rfl;exact⟨Z,Z⟩
  |again m2 F _ w _ _ _=>cases w (k m);cases uniq q m m2 rfl;exact(F.ab a).elim
  |take _ _ _ w _=>exact absurd (k m) w
  |rest _ _ w _=>exact absurd (k m) w
  |step m2=>exact absurd (c m2) x
  |read m2=>exact absurd (c m2) x
  |lay m2=>exact absurd (c m2) x
 |@again r s gi p o ws' m F lo w pm so x =>
  cases i with
  |settle m2 a2 _=>cases w (k m2);cases uniq q m m2 rfl;exact(F.ab a2).elim
  |@again r2 s2 gi2 p2 o2 ws2 m2 F2 lo2 w2 pm2 so2 _ =>
   have u:r=r2:=by
    rcases Int.lt_trichotomy r r2 with l|l|l
    .exact(F.ab (lo2 _ m l)).elim
    .exact l
    .exact(F2.ab (lo _ m2 l)).elim
   subst u;cases uniq q m m2 rfl;cases F.uniq F2;have v:ws'=ws2:=List.Perm.eq_of_pairwise (λa b _ _ x y=>by have x:a<b:=x;have y:b<a:=y;lia) so so2 (pm.trans pm2.symm);subst v;exact⟨Z,Z⟩
  |take _ _ ag _ _=>exact(F.ab (ag _ m)).elim
  |rest _ ag _ _=>exact(F.ab (ag _ m)).elim
  |step m2=>exact absurd (c m2) x
  |read m2=>exact absurd (c m2) x
  |lay m2=>exact absurd (c m2) x
 |take m u ag w x =>
  cases i with
  |settle m2=>exact absurd (k m2) w
  |again m2 F=>exact(F.ab (ag _ m2)).elim
  |take m2 er2=>cases u.trans er2.symm;exact⟨Z,Z⟩
  |rest e=>rw[e] at m;cases m
  |step m2=>exact absurd (c m2) x
  |read m2=>exact absurd (c m2) x
  |lay m2=>exact absurd (c m2) x
 |rest z ag w x =>
  cases i with
  |settle m2=>exact absurd (k m2) w
  |again m2 F=>exact(F.ab (ag _ m2)).elim
  |take m2=>rw[z] at m2;cases m2
  |rest=>exact⟨Z,Z⟩
  |step m2=>exact absurd (c m2) x
  |read m2=>exact absurd (c m2) x
  |lay m2=>exact absurd (c m2) x
inductive Fin (f n:Int) (g:List aO) (CC:List (List Cs)) (S0:DS):List He->DS->Prop
 |nil:Fin f n g CC S0 [] S0
 |snoc {es S h e S'}:Fin f n g CC S0 es S->pv n f g CC S->S.en<CC.length->h=(es.length:Int)%n->Mv f g CC S h e S'->Fin f n g CC S0 (es++[(h,e)]) S'
theorem Fin.eq{S0:DS}(a:Fin f n g CC S0 es S1):∀ {c S2},Fin f n g CC S0 c S2->es.length=c.length->es=c/\S1=S2:=by
 induction a with
 |nil =>
  intro c S2 b l;cases b with
  |nil=>exact⟨Z,Z⟩
  |snoc=>simp at l
 |snoc a ok lt eh mv ih =>
  intro c S2 b l;cases b with
  |nil=>simp at l
  |snoc b ok2 lt2 eh2 mv2 =>
   obtain⟨rfl,rfl⟩:=ih b (by simpa using l);cases eh.trans eh2.symm;obtain⟨rfl,rfl⟩:=mv.det ok mv2;exact⟨Z,Z⟩
theorem Fin.take{S0:DS}(b:Fin f n g CC S0 es S2):∀k,k<es.length->∃a,Fin f n g CC S0 (es.take k) a/\a.en<CC.length:=by
 induction b with
 |nil=>intro k h;cases h
 |@snoc es S h e S' b ok lt eh mv ih =>
  intro k c;rw[bx] at c;rcases iY k es.length with l|l
  .obtain⟨a,F,x⟩:=ih k l;exact⟨a,by rw[List.take_append_of_le_length (oz l)];exact F,x⟩
  .have:k=es.length:=by simp at c;lia
   subst this;exact⟨S,by rw[List.take_left];exact b,lt⟩
theorem Fin.det{S0:DS}(a:Fin f n g CC S0 es S1)(b:Fin f n g CC S0 es' S2)(i:S1.en=CC.length)(d:S2.en=CC.length):es=es'/\S1=S2:=by
 rcases rJ es.length es'.length with l|l|l
 .obtain⟨c,F,x⟩:=b.take _ l;have:=(a.eq F (by rw[cg];lia)).2;rw[<-this] at x;lia
 .exact a.eq b l
 .obtain⟨c,F,x⟩:=a.take _ l;have:=(b.eq F (by rw[cg];lia)).2;rw[<-this] at x;lia
end
section
variable {H0 H1 H':D}{l w x dx dw tl:L}{g:List aO}{aK:List V}{n f k:Int}{wo:HO}{E:XK}{c:Nat}
theorem zhl(k:Int):0<=fsW k:=by
 unfold fsW;by_cases c:k/24%2=0
 .rw[au c];exact ma _
 .rw[ao c];exact cK _ ()
theorem Kd(a:Cb k)(q:Q (.int (fsW k)) H):YD K t (mt Q) (zZZ 1 [.int k]) H:=by
 refine⟨_,Z,_,_,Z,Z,dB,_,_,Z,Z,by show (0:Int)<2;decide,Z,_,Z,?_⟩;unfold fsW at q;by_cases c:k/24%2=0
 .rw[au c] at q;exact ym (Bj (congrArg V.int c)) q
 .rw[ao c] at q;exact ya (Bk λz=>c (V.int.inj z)) ⟨_,Z,_,_,Z,Z,dB,_,_,Z,Z,⟨(),(),()⟩,_,_,Z,Z,⟨a.w.div,by unfold Cw;lia⟩,_,_,Z,Z,⟨(),(),()⟩,_,_,Z,Z,_,_,Z,Z,by show (0:Int)<10^29-300;decide,q⟩
def WyD(t:aX)(dw:L)(wo:HO)(k c:Nat):Prop:=(k=0/\wo=.ins t.q0e dw [])\/(k=1/\wo=.ins t.q0d dw [])\/(k=2/\wo=.ins t.q06 dw [(bf "times",.int c)])
theorem V5(f0:0<=f)(T:H0 tl=U (.lst aK))(G:Paired (PrAt H0) aK g)(O:g.length<=5)(s:aL H0 H)(y:H w=U wo)(I:H0 w=am)(C:WyD t dw wo c 0)(J:H l=am)(p:upd H l (.lst aK) x=am)(r:upd H l (.lst aK) dx=am)(q:∀d a i H',aL H0 H'->(∀b o,H0 b=U o->i b=0)->tW t H' d a i n f 0 g [] (S0 c)->Q (.ref d) H'):xY t [.ref x,.ref l,.int n,.ref w,.int f] (upd (upd (upd H l (.lst aK)) dx (.own x)) x (.ins t.q00 dx [])) (λv j=>v=.non/\Q (.ref x) j) E:=by
 have e:=tM (o:=HO.lst aK) l J;have N:upd H l (.lst aK) l=U (.lst aK):=zj;generalize upd H l (.lst aK)=j at *
 have m:aL j (upd (upd j dx (.own x)) x (.ins t.q00 dx [])):=λb o z=>by rw[zm (zF z p),zm (zF z r)];exact z
 have S:=s.trans (e.trans m);have u:∀b o,H0 b=U o->b≠x:=λb o z=>zF (e _ _ (s _ _ z)) p;exact⟨x,l,w,dx,dw,n,f,wo,g,Z,zj,⟨aK,m _ _ N,jm S G⟩,(),m _ _ (e _ _ y),zF (e _ _ y) p,λH' a i ea M k A h=>⟨Z,q x a i H' (λb o z=>k b o (u b o z) (S _ _ z)) (λb o z=>A b o (u b o z) (zF z I) (S _ _ z)) ⟨wo,[],[],[],[],[],h,.nil,.nil,⟨⟨cO,λ_ z=>nomatch z⟩,λ_ z=>nomatch z⟩,⟨Z,.nil⟩,by unfold zkx;rw[M];exact C,ma _,by show (0:Int)<=f+((0:Nat):Int);lia⟩⟩⟩
theorem WC(j:H0 tl=U (.lst aK))(s:Paired (PrAt H0) aK g)(y:g.length<=5)(G:Cb k)(i:aL H0 H)(A:H w=U wo)(u:H0 w=am)(r:WyD t dw wo c 0)(q:∀d a v H',aL H0 H'->(∀b o,H0 b=U o->v b=0)->tW t H' d a v n (fsW k) 0 g [] (S0 c)->Q (.ref d) H') :
  ZE K t (mt Q) [U (.ref tl),U (.int n),U (.int k),U (.ref w)] H:=by
 refine⟨_,Z,_,_,Z,Z,dB,_,_,Z,Z,by show (0:Int)<2;decide,Z,_,Z,?_⟩;by_cases c:k/24%2=0
 .refine ym (Bj (congrArg V.int c)) ⟨_,Z,tl,aK,Z,.inl (aT.of (i _ _ j)),λl p=>⟨_,Z,_,Z,?_⟩⟩;intro x dx m h C;have e:fsW k=0:=au c;rw[e] at q;exact V5 (ma _) j s y i A u r p m h q
 .refine ya (Bk λz=>c (V.int.inj z)) ⟨_,Z,tl,aK,Z,.inl (aT.of (i _ _ j)),λl p=>⟨_,Z,_,Z,_,Z,k,Z,G,?_⟩⟩;intro x dx m h C;exact V5 (zhl k) j s y i A u r p m h q
theorem KY{J:List V}{_E:XK}(h:wR t J H Q _E) :
  XH K t (mt Q) (zZZ 4 J) H:=by
 obtain⟨tl,n,k,g,rfl,N,v,G,q⟩:=h;obtain⟨aK,A,s⟩:=N;have b1:=cK (k/8) (show (3:Int)≠0 by lia);have b2:=cw (k/8) (show (0:Int)<3 by lia);have r:∀ {H:D} {w dw o},H w=am->H dw=am->aL H (upd (upd H dw (.own w)) w o):=λy m b o z=>by rw[zm (zF z y),zm (zF z m)];exact z
 intro w dw y m T;have O:upd (upd H dw (.own w)) w (.ins t.q0e dw []) w=U (.ins t.q0e dw []):=zj;have p:=r (o:=.ins t.q0e dw []) y m;generalize upd (upd H dw (.own w)) w (.ins t.q0e dw [])=H2 at *
 refine⟨_,Z,_,_,Z,Z,dB,_,_,Z,Z,by show (0:Int)<3;decide,Z,_,Z,?_⟩;by_cases k1:k/8%3=1
 .rw[k1] at q;refine ym (Bj (congrArg V.int k1)) ?_;intro d a e i u;have C:upd (upd H2 a (.own d)) d (.ins t.q0d a []) d=U (.ins t.q0d a []):=zj;have I:=p.trans (r (o:=.ins t.q0d a []) e i);have j:=zH p e;generalize upd (upd H2 a (.own d)) d (.ins t.q0d a [])=H3 at *
  exact⟨_,Z,_,_,Z,Z,dB,_,_,Z,Z,by show (0:Int)<3;decide,Z,_,Z,ya (Bk λz=>by have:=V.int.inj z;lia) (WC (dw:=a) (c:=1) A s v G I C j (.inr (.inl ⟨Z,Z⟩)) q)⟩
 .refine ya (Bk λz=>k1 (V.int.inj z)) ⟨_,Z,_,_,Z,Z,dB,_,_,Z,Z,by show (0:Int)<3;decide,Z,_,Z,?_⟩;by_cases k2:k/8%3=2
  .rw[k2] at q;refine ym (Bj (congrArg V.int k2)) ?_;intro d a e i u;have C:upd (upd H2 a (.own d)) d (.ins t.q06 a []) d=U (.ins t.q06 a []):=zj;have I:=p.trans (r (o:=.ins t.q06 a []) e i);have j:=zH p e;generalize upd (upd H2 a (.own d)) d (.ins t.q06 a [])=H3 at *
   exact⟨d,a,Z,C,Z,WC (dw:=a) (c:=2) A s v G (xU I j) zj j (.inr (.inr ⟨Z,Z⟩)) q⟩
  .have M:k/8%3=0:=by lia
   rw[M] at q;exact ya (Bk λz=>k2 (V.int.inj z)) (WC (dw:=dw) (c:=0) A s v G p O (by assumption) (.inl ⟨Z,Z⟩) q)
end
section
variable {ls:List (Int×List aO)}{y:Int×List aO}{r f:Int}{gi:List aO}{m k i:Nat}
theorem wj:gfN (y::ls) r=if y.1=r then y.2.length else gfN ls r:=by
 unfold gfN;rw[fO];by_cases c:y.1=r
 .rw[au c,Bj c];rfl
 .rw[ao c,Bk c]
theorem zhm(h:r ∉ ls.map (·.1)):gfN ls r=0:=by
 induction ls with
 |nil=>rfl
 |cons y ls ih =>
  rw[bh,bw,not_or] at h;rw[wj,ao (λz=>h.1 z.symm),ih h.2]
theorem zhn(n:y.1 ∉ ls.map (·.1)):∀ {R:List Int},R.Nodup->(R.map λr=>(gfN (y::ls) r:Int)).sum=(if y.1∈R then (y.2.length:Int) else 0)+(R.map λr=>(gfN ls r:Int)).sum
 |[],_=>rfl
 |r::R,nd=>by
  rw[bW] at nd;rw[bh,bZ,zhn n nd.2,bh,bZ,wj];by_cases c:y.1=r
  .subst c;rw[au Z,ao nd.1,au br,zhm n];lia
  .rw[ao c];by_cases d:y.1∈R
   .rw[au d,au (bp _ d)];lia
   .rw[ao d,ao (λz=>(bw.mp z).elim c d)];lia
theorem zho{R:List Int}(a:R.Nodup):∀ {ls:List (Int×List aO)},(ls.map (·.1)).Nodup->(R.map λr=>(gfN ls r:Int)).sum=((ls.filter λy=>decide (y.1∈R)).map λy=>(y.2.length:Int)).sum
 |[],_=>by
  induction R with
  |nil=>rfl
  |cons r R ih =>
   rw[bW] at a;rw[bh,bZ,ih a.2];rfl
 |y::ls,nd=>by
  rw[bh,bW] at nd;rw[zhn nd.1 a,zho a nd.2,cp];by_cases c:y.1∈R
  .rw[au c,au (Bj c),bh,bZ]
  .rw[ao c,ao (by rw[decide_eq_true_eq];exact c)];lia
theorem zhp(h:k<=m):(ur f ls m).drop k=(vg f k m).map λr=>(gfN ls r:Int):=by
 unfold ur vg;rw[dJ];apply dU;intro i;rw[mH,bt,bt];by_cases c:k+i<m
 .rw[eL c,eL ()];show U ((gfN ls (f+((k+i:Nat):Int)):Nat):Int)=U ((gfN ls (f+(k:Int)+(i:Int)):Nat):Int);rw[show f+((k+i:Nat):Int)=f+(k:Int)+(i:Int) by lia]
 .rw[b6 (by rw[cY];lia),b6 (by rw[cY];lia)];rfl
theorem zen(c:(ls.map (·.1)).Nodup)(d:∀y∈ls,f<=y.1/\y.1<f+m)(h:k<=m):((ur f ls m).drop k).sum=XG ls (f+k):=by
 rw[zhp h,zho ?_ c]
 .unfold XG;refine congrArg List.sum (congrArg _ (eZ λy g=>?_));rw[e9,decide_eq_true_eq,decide_eq_true_eq,ut];have:=d y g;exact⟨λ⟨j,e,a,_⟩=>by lia,λz=>⟨(y.1-f).toNat,(),(),()⟩⟩
 .unfold vg;refine rH _ (λa b (z:a≠b)=>by lia) nY
theorem ziE{a:List (Int×List aO)}(h:r ∉ ls.map (·.1)):gfN (ls++a) r=gfN a r:=by
 induction ls with
 |nil=>rfl
 |cons y ls ih =>
  rw[bh,bw,not_or] at h;rw[dE,wj,ao (λz=>h.1 z.symm),ih h.2]
theorem ziF{a:Int}(h:r≠a):gfN (ls.filter λy=>decide (y.1≠a)) r=gfN ls r:=by
 induction ls with
 |nil=>rfl
 |cons y ls ih =>
  rw[cp];by_cases c:y.1=a
  .rw[ao (by rw[decide_eq_true_eq];exact λz=>z c),ih,wj,ao (λz=>h (z.symm.trans c))]
  .rw[au (Bj c),wj,wj,ih]
theorem zhq{a:Int}(h:r≠a):gfN (ls++[(a,gi)]) r=gfN ls r:=by
 induction ls with
 |nil=>show gfN [(a,gi)] r=0;rw[wj,ao (λz=>h z.symm)];rfl
 |cons y ls ih=>rw[dE,wj,wj,ih]
theorem ziG(i:Nat):ur f (yZ ls (f+i) gi) m=(ur f ls m).set i (gi.length:Int):=by
 unfold ur;apply dU;intro j;rw[bt];by_cases c:j<m
 .rw[eL c];by_cases d:j=i
  .subst d;rw[du (by rw[bd,cY];exact c)];show U ((gfN (yZ ls (f+(j:Int)) gi) (f+(j:Int)):Nat):Int)=_;unfold yZ;rw[ziE (λz=>by obtain⟨y,a,e⟩:=bD.mp z;exact of_decide_eq_true (bQ.mp a).2 e),wj,au rfl]
  .rw[dH (λz=>d z.symm),bt,eL c];show U ((gfN (yZ ls (f+(i:Int)) gi) (f+(j:Int)):Nat):Int)=U ((gfN ls (f+(j:Int)):Nat):Int);unfold yZ;rw[zhq (),ziF ()]
 .rw[b6 (by rw[cY];lia),b6 (by rw[gH,bd,cY];lia)];rfl
theorem ziH(h:f+(m:Int) ∉ ls.map (·.1)):ur f ls (m+1)=ur f ls m++[0]:=by
 unfold ur;rw[sO,bN];refine congrArg _ ?_;show [((gfN ls (f+(m:Int)):Nat):Int)]=[0];rw[zhm h];rfl
end
section
variable {H':D}{lw lw':L->Nat}{tl ll rl kl al x b gl:L}{ra:RAd}{C:List Cs}{CC:List (List Cs)}{s s':bv}{j k i N m:Nat}{g gi:List aO}{kv:List (aW×V)}{rs:List Int}{ls:List (Int×List aO)}{h r f n:Int}{v:V}{e:Ev}{hl hl2:List (Int×Int×Nat×bv)}{S S2:DS}{M:Nat->Prop}{o o':HO}{β:Type}
theorem zds(e:H b=U o)(z:lw b=N)(d:∀a,o≠.tup a):Fr (λl=>l≠N) H (upd H b o') lw lw:=⟨λ_ _ _=>rfl,λc u y w=>by rw[zm (λx=>y (by rw[x];exact z))];exact w,qH e d,Z0⟩
theorem RuAt.fr(R:RuAt t H lw f CC hl i v)(F:Fr M H H' lw lw')(d:M (20+i)):RuAt t H' lw' f CC hl i v:=by
 rcases R with z|⟨x,ra,r,j,s,C,e,m,c,R,l⟩
 .exact .inl z
 .obtain⟨p,a⟩:=R.fr l F d;exact .inr ⟨x,ra,r,j,s,C,e,m,c,p,a⟩
theorem RuAt.mv(R:RuAt t H lw f CC hl i v)(z:∀b,((i:Int),b)∈hl2↔((i:Int),b)∈hl):RuAt t H lw f CC hl2 i v:=by
 rcases R with ⟨e,y⟩|⟨x,ra,r,j,s,C,e,m,c⟩
 .refine .inl ⟨e,λw=>y ?_⟩;obtain⟨⟨_,b⟩,a,rfl⟩:=bD.mp w;exact bB (f:=(·.1)) ((z b).mp a)
 .exact .inr ⟨x,ra,r,j,s,C,e,(z _).mpr m,c⟩
theorem zhr{l:List (Int×β)}{a:Int}(n:a≠h):(a,y)∈Yn l h c↔(a,y)∈l:=by
 unfold Yn;rw[bD];constructor
 .rintro⟨⟨d,p⟩,m,e⟩;by_cases z:d=h
  .rw[au z] at e;exact absurd (congrArg (·.1) e).symm n
  .rw[ao z] at e;rw[<-e];exact m
 .exact λm=>⟨_,m,ao n⟩
theorem ziI{l:List (Int×β)}(m:(h,y)∈l):(h,c)∈Yn l h c:=bD.mpr ⟨_,m,au Z⟩
theorem zaV(h:k<m):ixN m (k:Int)=U k:=by
 unfold ixN;simp;lia
theorem zhs(u:Mv f g CC S h e S2)(l:(h,r,j,s)∈S.hl)(p:(S.hl.map (·.1)).Nodup)(q:CC[(r-f).toNat]?=U C):HlE C s g S.ls r e/\(zd1 e=aq->S2={ S with hl:=Yn S.hl h (r,j+1,xD C (hlW e) s) })/\(zd1 e=ak->∃gi,Y5 s gi/\S2={ S with hl:=yk S.hl h,ls:=yZ S.ls r gi,ld:=S.ld++[(r,s,gi)] }):=by
 have d:h ∉ S.hl.map (·.1)->False:=λz=>z (bB (f:=(·.1)) l);cases u with
 |step m c o a=>cases uniq p l m rfl;cases bH (q.symm.trans c);exact⟨⟨Z,o,a⟩,λ_=>rfl,λz=>nomatch z⟩
 |read m c o a=>cases uniq p l m rfl;cases bH (q.symm.trans c);exact⟨⟨Z,o,a,Z⟩,λ_=>rfl,λz=>nomatch z⟩
 |lay m c o gi=>cases uniq p l m rfl;cases bH (q.symm.trans c);exact⟨⟨Z,o⟩,(),λ_=>⟨_,gi,Z⟩⟩
 |settle _ _ z=>exact(d z).elim
 |again _ _ _ _ _ _ z=>exact(d z).elim
 |take _ _ _ _ z=>exact(d z).elim
 |rest _ _ _ z=>exact(d z).elim
end
section
variable {H':D}{lw lw':L->Nat}{cl rl kl gl:L}{CC:List (List Cs)}{C:List Cs}{g:List aO}{ls:List (Int×List aO)}{f n:Int}{v:V}{e:Ev}{S S2:DS}{us cvs xs:List V}{k:Nat}{hl hl2:List (Int×Int×Nat×bv)}{M:Nat->Prop}
theorem CoZ.fr(P:Paired (CoZ H lw) cvs CC)(F:Fr M H H' lw lw')(h:M 0):Paired (CoZ H' lw') cvs CC:=Paired.mapP P λ_ _ ⟨⟨c,b,e,a,d⟩,z⟩=>⟨⟨c,b,e,F.kp _ _ (by rw[z c e];exact h) a,xC F.ts d⟩,λj i=>by cases e.symm.trans i;exact(F.ex _ _ a).trans (z c e)⟩
theorem zj6(h:us[k]?=U v):us.set k v=us:=by
 apply dU;intro i;by_cases c:i=k
 .subst c;rw[du (bq.mp h).1,h]
 .rw[dH (λz=>c z.symm)]
theorem LgB.fr(A:LgB t H lw kl gl n f CC hl ls us)(F:Fr M H H' lw lw')(i:M 2)(d:M 3)(a:∀k:Nat,M (20+k))(ow:∀b,lw' b≠0->lw b≠0\/∃o,H' b=U o):LgB t H' lw' kl gl n f CC hl ls us:=by
 obtain⟨ks,c,j⟩:=A.kk;exact⟨A.ln,λh v e=>(A.ru h v e).fr F (a h),⟨ks,F.kp _ _ (by rw[A.l2];exact i) c,j⟩,F.kp _ _ (by rw[A.l3];exact d) A.gg,(F.ex _ _ c).trans A.l2,(F.ex _ _ A.gg).trans A.l3,λb z=>(ow b z).elim (λy=>let ⟨o,e⟩:=A.ow b y;F.al b o e) id⟩
theorem zcp{r:Int}{a:L}(s:H a=U (.tup [.str "take",.int k,.int r]))(ha:H cl=U (.lst (cvs++xs)))(la:lw cl=0)(pc:Paired (CoZ H lw) cvs CC)(A:LgB t H lw kl gl n f CC S.hl S.ls us)(ok:pv n f g CC S)(hk:(k:Int)<n)(n8:n<=8)(no:(k:Int) ∉ S.hl.map (·.1))(hr:r∈S.ws)(q:∀w H' lw',Fr N1 H H' lw lw'->LgB t H' lw' kl gl n f CC (S.hl++[((k:Int),r,0,st0)]) S.ls (us.set k w)->Q w H') :
  k8 K t (mt Q) [U (.ref a),U (.int k),U (.ref cl),U (.int f),U (.ref rl),U (.ref kl),U (.ref gl),U .non] H:=by
 obtain⟨jj,rj,_,jl⟩:=ok.rw_ hr;have ul:=A.ln;obtain⟨p,h,kn,kk⟩:=A.kk;obtain⟨w,d⟩:∃w,cvs[(r-f).toNat]?=U w:=⟨_,bb (by rw[bE pc];lia)⟩;refine Ym Z s Z ⟨_,Z,_,_,Z,Z,_,Z,_,Z,kl,_,k,k,Z,Z,h,zaV (by rw[bd];lia),⟨(),()⟩,?_⟩;have j:Fr (λl=>l≠2) H (upd H kl (.lst ((p.map V.int).set k (.int (r-f))))) lw lw:=zds h A.l2 λ_ z=>nomatch z
 have e2:upd H kl (.lst ((p.map V.int).set k (.int (r-f)))) kl=U (.lst ((p.set k (r-f)).map V.int)):=by rw[List.map_set];exact zj
 generalize upd H kl (.lst ((p.map V.int).set k (.int (r-f))))=H2 at *
 have O:=j.ts _ _ s;have T:=j.kp _ _ (by rw[la];decide) ha;have J:=CoZ.fr pc j ();obtain⟨C,hC,⟨c,ys,rfl,hc,I⟩,_⟩:=Paired.getP J d;refine⟨_,Z,Ym Z O Z ⟨_,Z,_,_,Z,Z,cl,_,(r-f).toNat,_,Z,congrArg V.int (),aT.of T,xa ((dL (bq.mp d).1).trans d),?_⟩⟩;intro x dx hx u n';have s4:aL H2 (upd (upd H2 dx (HO.own x)) x (HO.ins t.q01 dx [])):=λb o e=>by rw[zm (zF e hx),zm (zF e u)];exact e
 refine⟨x,c,dx,ys,C,Z,zj,s4 _ _ hc,wx s4 I,λH5 G k5 R5 aa=>?_⟩;obtain⟨y,ow⟩:=zgV (aL.refl H2) hx u k5 aa
 open Classical in
 have F:Fr (λl=>l≠2) H H5 lw (λb=>if OwA x G b then 20+k else lw b):=⟨λb o e=>ao (λz=>by obtain⟨o',e'⟩:=j.al b o e;rw[ow b z] at e';cases e'),λb o z e=>y _ _ (j.kp b o z e),λb zs e=>y _ _ (j.ts _ _ e),λb o e=>let ⟨o',z⟩:=j.al b o e;⟨o',y _ _ z⟩⟩;have N:=F.kp _ _ (by rw[A.l3];decide) A.gg;refine⟨Z,q (.ref x) H5 _ (F.mono λl z=>by unfold N1 at z;lia) ⟨by rw[gH];exact ul,λi v E=>?_,⟨p.set k (r-f),y _ _ e2,by rw[gH];exact kn,λe m=>?_⟩,N,(F.ex _ _ h).trans A.l2,(F.ex _ _ A.gg).trans A.l3,λb z=>?_⟩⟩
 .by_cases c:i=k
  .subst c;rw[du ()] at E;cases E;exact .inr ⟨x,G,r,0,st0,C,Z,bP _ (bn.mpr Z),hC,R5,λb z=>au z⟩
  .rw[dH (λz=>c z.symm)] at E;refine((A.ru i v E).fr F ()).mv λb=>?_;rw[bu,bn];exact⟨λz=>z.elim id λz=>absurd (congrArg (·.1) z) (by show ¬ (i:Int)=k;lia),.inl⟩
 .rcases bu.mp m with m|m
  .have ne:e.1.toNat≠k:=λz=>no (bD.mpr ⟨e,m,by have:=(ok.hr e m).1;lia⟩);rw[dH (λz=>ne z.symm)];exact kk e m
  .rw[bn.mp m];show (p.set k (r-f))[((k:Int)).toNat]?=U (r-f);rw[dR,du ()]
 .by_cases c:OwA x G b
  .cases e:H5 b with
   |none=>exact absurd e (R5.has c)
   |some o=>exact⟨o,Z⟩
  .rw[ao c] at z;obtain⟨o,e⟩:=A.ow b z;exact F.al b o e
theorem zcq{x:L}{d:RAd}{r:Int}{j:Nat}{s:bv}(h1:t9 H v ((k:Int),e))(hr:H rl=U (.lst us))(l1:lw rl=1)(A:LgB t H lw kl gl n f CC S.hl S.ls us)(ok:pv n f g CC S)(hk:(k:Int)<n)(n8:n<=8)(mv:Mv f g CC S k e S2)(hv:us[k]?=U (.ref x))(J:((k:Int),r,j,s)∈S.hl)(hC:CC[(r-f).toNat]?=U C)(R:dl t H x d C s)(lO:∀b,OwA x d b->lw b=20+k)(q:∀w H' lw',Fr N1 H H' lw lw'->LgB t H' lw' kl gl n f CC S2.hl S2.ls (us.set k w)->Q w H') :
  k9 K t (mt Q) [U v,U (.int k),U (.ref cl),U (.int f),U (.ref rl),U (.ref kl),U (.ref gl),U (.ref x)] H:=by
 have ul:=A.ln;obtain⟨C',al,I,aa⟩:=ok.rn _ J;cases bH (al.symm.trans hC);obtain⟨O,lC⟩:=ok.cc.ok C (bJ hC);obtain⟨i,ri,_,il⟩:=ok.rh J;have ri:r=f+i:=ri;have aa:j<=11:=aa;obtain⟨N,m1,m2⟩:=zhs mv J ok.hn hC;obtain⟨ks,G,kn,kk⟩:=A.kk;have l2:s.gi.length<=j:=I.ok.l2;have l3:s.no.length<=j:=I.ok.l3;refine xg R.ix Z Z ⟨x,d,C,s,Z,R,λH2 s2=>⟨_,Z,?_⟩⟩;have R2:=R.same s2;cases ho:yI C s with
 |true =>
  have iy:zd1 e=ak:=by
   cases e with
   |lay r'=>rfl
   |step r'=>have:=N.2.1;rw[ho] at this;cases this
   |read r' p w=>have:=N.2.1;rw[ho] at this;cases this
   |_=>exact N.elim
  obtain⟨gi,ai,rfl⟩:=m2 iy;refine ym Z (xg R2.ix Z Z ⟨x,d,C,s,Z,R2,(),I.ok.nd,(),(λH' z=>by rw[ho] at z;cases z),λp o nl g2 an H4 _ s4 ap ar _ ag oc hn hg aj=>?_⟩);cases zd9 ai aj;have S4:=s2.trans s4;obtain⟨ys,hy,py⟩:=id hg;have ly:=bE py;have u:=S4 _ _ G;have g4:=S4 _ _ A.gg;have kr:ks[k]?=U (r-f):=kk _ J;have l5:=ok.cc.le;refine⟨p,_,2,_,Z,Z,tI.of ag,Z,.ref g2,ys.length,Z,.inl ⟨_,aT.of hy,Z⟩,_,Z,_,Z,_,Z,kl,_,k,.int (r-f),Z,Z,aT.of u,xa (by rw[bt,kr];rfl),gl,_,r-f,i,Z,Z,g4,by rw[show r-f=(i:Int) by lia];exact zaV (by rw[bd];unfold ur;rw[bd,cY];exact il),⟨(),()⟩,?_⟩;have F5:Fr (λl=>l≠3) H4 (upd H4 gl (.lst (((ur f S.ls CC.length).map V.int).set i (.int (ys.length:Nat))))) lw lw:=zds g4 A.l3 λ_ z=>nomatch z
  have e5:upd H4 gl (.lst (((ur f S.ls CC.length).map V.int).set i (.int (ys.length:Nat)))) gl=U (.lst ((ur f (yZ S.ls r gi) CC.length).map V.int)):=by
   rw[zj,ri,ziG i,List.map_set,ly]
  generalize upd H4 gl (.lst (((ur f S.ls CC.length).map V.int).set i (.int (ys.length:Nat))))=H5 at *
  have F:Fr (λl=>l≠3) H H5 lw lw:=(Fr.same S4).trans F5;refine q .non H5 lw (F.mono λl z=>by unfold N1 at z;lia) ⟨by rw[gH];exact ul,λh v z=>?_,⟨ks,F.kp _ _ (by rw[A.l2];decide) G,kn,λe m=>kk e (hU.mp m).1⟩,e5,A.l2,A.l3,λb z=>let ⟨o,e⟩:=A.ow b z;F.al b o e⟩;by_cases c:h=k
  .subst c;rw[du ()] at z;cases z;refine .inl ⟨Z,λy=>?_⟩;obtain⟨e,m,T⟩:=bD.mp y;exact(hU.mp m).2 T
  .rw[dH (λz=>c z.symm)] at z;refine((A.ru h v z).fr F ()).mv λb=>?_;rw[hU];exact⟨λy=>y.1,λy=>⟨y,by show (h:Int)≠k;lia⟩⟩
 |false =>
  have iy:zd1 e=aq:=by
   cases e with
   |lay r'=>have:=N.2;rw[ho] at this;cases this
   |_=>rfl
  obtain rfl:=m1 iy;obtain⟨a,qa,rfl,ae,_⟩:=h1;have E:=s2 _ _ ae;have fin:∀ {w H3 H4},aL H2 H3->w=hlW e->Kp x d H3 H4->dl t H4 x d C (xD C w s)->Q (.ref x) H4:=λ{w H3 H4} s3 ew u R4=>by
   have R3:=R2.same s3;have F:Fr (λl=>l≠20+k) H H4 lw lw:=(Fr.same (s2.trans s3)).trans (zej R3 R4 lO u);refine q (.ref x) H4 lw (F.mono λl z=>by unfold N1 at z;lia) ⟨by rw[gH];exact ul,λh v z=>?_,⟨ks,F.kp _ _ (by rw[A.l2];lia) G,kn,λe m=>?_⟩,F.kp _ _ (by rw[A.l3];lia) A.gg,A.l2,A.l3,λb z=>let ⟨o,e⟩:=A.ow b z;F.al b o e⟩
   .by_cases c:h=k
    .subst c;rw[du ()] at z;cases z;exact .inr ⟨x,d,r,j+1,_,C,Z,ziI J,hC,by rw[<-ew];exact R4,lO⟩
    .rw[dH (λz=>c z.symm)] at z;exact((A.ru h v z).fr F ()).mv λb=>zhr (by show (h:Int)≠k;lia)
   .obtain⟨e',m',T⟩:=bD.mp m;by_cases c:e'.1=(k:Int)
    .rw[au c] at T;rw[<-T];have:=kk _ J;exact this
    .rw[ao c] at T;rw[<-T];exact kk _ m'
  refine ya Z ⟨_,Z,a,_,0,.str (evW e),Z,Z,tI.of E,xa (j:=0) Z,Z,_,Z,?_⟩;cases e with
  |step r'=>exact ya Z (ya Z (xg R2.ix Z Z ⟨x,0,j,d,C,s,Z,R2,O.ok,I.ok,(),λH4 u R4=>⟨_,Z,fin (aL.refl _) Z u R4⟩⟩))
  |read r' p w=>exact ym Z ⟨_,Z,.ref a,5,Z,.inr ⟨_,tI.of E,Z⟩,Z,_,Z,ym Z (xg R2.ix Z Z ⟨_,Z,a,_,4,.int w,Z,Z,tI.of E,Z,x,w,j,d,C,s,Z,R2,O.ok,I.ok,(),λH4 u R4=>⟨_,Z,fin (aL.refl _) Z u R4⟩⟩)⟩
  |lay r' =>
   have:=N.2;rw[ho] at this;cases this
  |_=>exact N.elim
theorem VE{i:List V}{_E:XK}(h:wS t i H Q _E) :
  ZO K t (mt Q) (zZZ 8 i) H:=by
 obtain⟨v,k,cl,rl,kl,gl,f,n,lw,cvs,xs,us,g,CC,S,S2,e,rfl,E,z,G,l,u,I,A,d,y,o,p,q⟩:=h;have O:=A.ln;obtain⟨v0,c⟩:∃v0,us[k]?=U v0:=⟨_,bb ()⟩;refine⟨_,Z,_,Z,rl,us,k,v0,Z,Z,aT.of u,xa c,?_⟩;refine⟨_,Z,Z,_,Z,?_⟩;rcases A.ru k v0 c with ⟨rfl,no⟩|⟨x,ra,r,j,s,C,rfl,hm,hC,R,lO⟩
 .obtain⟨a,qa,rfl,b,_⟩:=E;refine ym Z ⟨_,Z,a,_,0,.str (evW e),Z,Z,tI.of b,xa (j:=0) Z,Z,_,Z,?_⟩;have fin:S2.hl=S.hl->S2.ls=S.ls->Q .non H:=λN J=>q .non H lw (Fr.same (aL.refl _)) (by rw[N,J,zj6 c];exact A);cases p with
  |step m=>exact absurd (bB (f:=λe:Int×Int×Nat×bv=>e.1) m) no
  |read m=>exact absurd (bB (f:=λe:Int×Int×Nat×bv=>e.1) m) no
  |lay m=>exact absurd (bB (f:=λe:Int×Int×Nat×bv=>e.1) m) no
  |settle=>exact ya Z (ya Z (fin Z Z))
  |again=>exact ya Z (ya Z (fin Z Z))
  |rest=>exact ya Z (ya Z (fin Z Z))
  |@take r m er ag w x =>
   obtain⟨jj,T,_,jl⟩:=d.rw_ m;have lp:=bE l;refine ym Z (Ym Z b Z ⟨_,Z,_,_,Z,Z,_,_,Z,Z,_,Z,ym (Bj ()) ⟨_,Z,.ref cl,(cvs++xs).length,Z,.inl ⟨_,aT.of z,Z⟩,_,_,Z,Z,_,Z,ym (Bj (by rw[bx];lia)) ?_⟩⟩);exact zcp b z G l A d y o no m q
 .exact ya Z (zcq E u I A d y o p c hm hC R lO q)
end
section
variable {f:Int}{g:List aO}{CC:List (List Cs)}{S:DS}{C:List Cs}{v:V}{H':D}
section
variable {N:Int}
theorem pv.add(a:pv N f g CC S)(m:zb2 C/\C.length<=11)(r:CC.length<5):pv N f g (CC++[C]) (zb4 f CC.length S):=by
 have i:(CC++[C]).length=CC.length+1:=bx ..;have el:=a.el;refine⟨a.f0,⟨λc h=>?_,()⟩,by show S.en<=_;lia,?_,?_,a.hn,a.hr,λe l=>?_,a.nt,λy b=>?_,a.gw,a.lw⟩
 .rcases bu.mp h with h|h
  .exact a.cc.ok c h
  .rw[bn.mp h];exact m
 .show ((S.ws++[f+(CC.length:Int)])++_).Perm (vg f S.en _);rw[i];have z:vg f S.en (CC.length+1)=vg f S.en CC.length++[f+(CC.length:Int)]:=by
   unfold vg;rw[show CC.length+1-S.en=CC.length-S.en+1 by lia,sO,bN];refine congrArg _ ?_;show [f+(S.en:Int)+((CC.length-S.en:Nat):Int)]=_;rw[show f+(S.en:Int)+((CC.length-S.en:Nat):Int)=f+CC.length by lia]
  rw[z,cP];refine eA ?_ (a.pm.append_right _);rw[cP];exact .append_left _ oR
 .refine gQ.mpr ⟨a.so,by simp,λx k y b=>?_⟩;obtain⟨j,rfl,_,q⟩:=a.rw_ k;rw[bn.mp b];lia
 .obtain⟨c,d,o⟩:=a.rn e l;exact⟨c,by rw[dL (bq.mp d).1];exact d,o⟩
 .have:=a.ly y b;lia
end
theorem ug.same(h:ug H v C)(k:aL H H'):ug H' v C:=let ⟨c,ys,e,hc,pc⟩:=h;⟨c,ys,e,k _ _ hc,wx k pc⟩
end
section
variable {H' H2:D}{g:List aO}{n f h:Int}{CC:List (List Cs)}{C:List Cs}{S S2:DS}{d1 d2 b:L}{X Bo X' Y' X2 Y2:DF}{lb':L->Nat}{v:V}{e:Ev}{fo:Int}
theorem LsI.mv(d:LsI S)(i:pv n f g CC S)(mv:Mv f g CC S h e S2):LsI S2:=by
 cases mv with
 |lay m A o gi =>
  intro y j;rcases bu.mp j with z|z
  .exact d y (bQ.mp z).1
  .rw[bn.mp z];obtain⟨C,_,I,c⟩:=i.rn _ m;have a:=I.ok.l2;have b:=zdl gi;have c:_<=11:=c;show _<=11;exact bM b (bM a c)
 |_=>exact d
theorem Fin.ls{S0:DS}(F:Fin f n g CC S0 es S)(c:LsI S0):LsI S:=by
 induction F with
 |nil=>exact c
 |snoc a ok lt eh mv ih=>exact ih.mv ok mv
theorem uf.nd(I:uf t H g n f CC S d1 d2 X Bo):(S.ls.map (·.1)).Nodup:=by
 obtain⟨_,_,_,_,_,_,h,_⟩:=I.x;exact h.ms.nd
theorem uf.few(I:uf t H g n f CC S d1 d2 X Bo)(j:g.length<=5):ze1 g S.ls/\S.ls.length<=5:=by
 have b:=xI I.nd (b:=vg f 0 CC.length) λx i=>by
  obtain⟨y,d,rfl⟩:=bD.mp i;have:=I.o.ly y d;exact ut.mpr ⟨(y.1-f).toNat,(),bS _,()⟩
 have c:=I.o.cc.le;unfold vg at b;rw[bd,bd,cY] at b;have a:=jH (q:=λy:Int×List aO=>y.2.length) (q':=λ_=>11) I.ls;rw[List.map_const',List.sum_replicate_nat] at a;exact⟨by unfold ze1;lia,()⟩
theorem uf.same(I:uf t H g n f CC S d1 d2 X Bo)(s:aL H H'):uf t H' g n f CC S d1 d2 X Bo:={ I with x:=I.x.same s,y:=I.y.same s }
theorem Bz8.same(s:aL H H'):Bz8 H X Bo H' X Bo:=⟨TSm.of s,λb o z e=>⟨s _ _ e,z⟩,λb o e=>⟨o,s _ _ e⟩⟩
theorem Bz8.trans(d:Bz8 H X Bo H' X' Y')(i:Bz8 H' X' Y' H2 X2 Y2):Bz8 H X Bo H2 X2 Y2:=⟨λb zs e=>i.ts _ _ (d.ts _ _ e),λb o z e=>let ⟨a,c⟩:=d.kp b o z e;i.kp b o c a,λb o e=>let ⟨o',e'⟩:=d.al b o e;i.al b o' e'⟩
theorem uf.ux(I:uf t H g n f CC S d1 d2 X Bo)(F:Fr M0 H H' X.lb lb'):tW t H' d2 Bo.a Bo.lb n f 0 g CC S/\(∀b,lb' b≠0->Bo.lb b=0)/\Bz8 H X Bo H' ⟨X.a,lb',fo⟩ Bo:=by
 refine⟨I.y.of (λb o z e=>F.kp b o (.inl (cE λy=>z (I.ap b y))) e) F.ts F.al,λb z=>?_,⟨F.ts,λb o z e=>⟨F.kp b o (.inl z.1) e,(F.ex b o e).trans z.1,z.2⟩,F.al⟩⟩;cases e:H b with
 |none=>exact I.y.l0 e
 |some o=>exact I.ap b λy=>z ((F.ex b o e).trans y)
theorem uf.uy(I:uf t H g n f CC S d1 d2 X Bo)(F:Fr M0 H H' Bo.lb lb'):tW t H' d1 X.a X.lb n f X.fo g CC S/\(∀b,X.lb b≠0->lb' b=0)/\Bz8 H X Bo H' X ⟨Bo.a,lb',0⟩:=by
 refine⟨I.x.of (λb o z e=>F.kp b o (.inl (I.ap b z)) e) F.ts F.al,λb z=>?_,⟨F.ts,λb o z e=>⟨F.kp b o (.inl z.2) e,z.1,(F.ex b o e).trans z.2⟩,F.al⟩⟩;cases e:H b with
 |none=>exact absurd (I.x.l0 e) z
 |some o=>exact(F.ex b o e).trans (I.ap b z)
end
section
variable {H':D}{g:List aO}{n f:Int}{CC:List (List Cs)}{C:List Cs}{S:DS}{d1 d2 cl gl:L}{X Bo X' Y':DF}{ws:List V}{v:V}{qs:List Int}
theorem Ke{vs:List V}{_E:XK}(h:wf t vs H Q _E) :
  YK K t (mt Q) (zZZ 7 vs) H:=by
 obtain⟨d1,d2,cl,gl,f,n,g,CC,C,S,X,Bo,ws,v,qs,rfl,I,j,lq,s,hc,hv,co,cz,hC,h5,q⟩:=h;have G:(qs.map V.int).length=CC.length:=by rw[bd];exact lq
 have ok:=I.o;refine⟨_,Z,_,Z,.ref gl,_,Z,.inl ⟨_,aT.of j,Z⟩,_,_,Z,Z,?_⟩;rw[G];refine⟨_,Z,_,Z,.ref gl,_,Z,.inl ⟨_,aT.of j,Z⟩,cl,ws,_,v,Z,Z,aT.of hc,by rw[G];exact xa hv,?_⟩;refine⟨_,Z,.inl ⟨Z,_,aT.of j⟩,gl,_,_,Z,Z,j,by rw[G,bL];lia,?_⟩;obtain⟨c,ys,rfl,m,l⟩:=co;obtain⟨ng,zc⟩:=cz c rfl;have w:∀b o,b≠gl->H b=U o->upd H gl (.lst (qs.map V.int++[.int 0])) b=U o:=λb o z e=>by rw[zm z];exact e
 have E:TSm H (upd H gl (.lst (qs.map V.int++[.int 0]))):=qH j λ_ z=>nomatch z
 have M:upd H gl (.lst (qs.map V.int++[.int 0])) gl=U (.lst ((qs++[0]).map V.int)):=by rw[zj,bN];rfl
 have A:=I.x.put (ys:=qs.map V.int++[.int 0]) j s.1;have y1:=I.y.put (ys:=qs.map V.int++[.int 0]) j s.2;generalize upd H gl (.lst (qs.map V.int++[.int 0]))=H1 at *
 have I1:uf t H1 g n f CC S d1 d2 X Bo:={ I with x:=A,y:=y1 };have O:ug H1 (.ref c) C:=⟨c,ys,Z,w _ _ ng m,xC E l⟩;have ln:=ok.len;refine xg A.cmp.1 Z Z ⟨_,Z,d1,.ref c,X.a,X.lb,n,f,X.fo,g,CC,C,S,Z,O,A,(),(),λH2 a F2 G2=>?_⟩;obtain⟨y2,p,B2⟩:=I1.ux (fo:=X.fo) F2;refine⟨_,Z,_,_,Z,.int _,λH3 u=>⟨ak,Z,ym Z ?_⟩⟩;have r:=B2.trans (Bz8.same u);have N:ug H3 (.ref c) C:=⟨c,ys,Z,(r.kp _ _ zc (w _ _ ng m)).1,xC r.ts (xC E l)⟩;have y3:=y2.same u;refine xg y3.cmp.1 Z Z ⟨_,Z,d2,.ref c,Bo.a,Bo.lb,n,f,0,g,CC,C,S,Z,N,y3,(),(),λH4 i d G4=>⟨_,Z,_,_,Z,.int _,λH5 k=>?_⟩⟩;have I3:uf t H3 g n f (CC++[C]) (zb4 f CC.length S) d1 d2 ⟨X.a,a,X.fo⟩ Bo->True:=λ_=>trivial;have x4:tW t H4 d1 X.a a n f X.fo g (CC++[C]) (zb4 f CC.length S):=(G2.same u).of (λb o z e=>d.kp b o (.inl (p b z)) e) d.ts d.al;have T:∀b,a b≠0->i b=0:=λb z=>by
  cases e:H3 b with
  |none=>exact absurd ((G2.same u).l0 e) z
  |some o=>exact(d.ex b o e).trans (p b z)
 have J:∀b o,X.lb b=0/\Bo.lb b=0->H1 b=U o->H5 b=U o/\a b=0/\i b=0:=λb o z e=>by
  obtain⟨a1,a2,a3⟩:=r.kp b o z e;exact⟨k _ _ (d.kp b o (.inl a3) a1),a2,(d.ex b o a1).trans a3⟩
 refine q H5 ⟨X.a,a,X.fo⟩ ⟨Bo.a,i,0⟩ ⟨x4.same k,G4.same k,ok.add hC h5,I.ls,T⟩ (λb zs e=>k _ _ (d.ts _ _ (r.ts _ _ (E _ _ e)))) (λb o e=>by
  obtain⟨o1,z1⟩:∃o1,H1 b=U o1:=by
   by_cases c:b=gl
   .subst c;exact⟨_,M⟩
   .exact⟨o,w b o c e⟩
  obtain⟨o2,z2⟩:=r.al b o1 z1;obtain⟨o4,z4⟩:=d.al b o2 z2;exact⟨o4,k _ _ z4⟩) (λb o n e h=>J b o e (w b o n h)) (J _ _ s M).1 (J _ _ s M).2 rfl
theorem Zb{o:List V}{_E:XK}(h:xc t o H Q _E) :
  vQ K t (mt Q) (zZZ 4 o) H:=by
 obtain⟨d1,d2,gl,f,n,g,CC,S,X,Bo,rfl,I,G,M,z,q⟩:=h;have u:=I.o.el;refine⟨2,Z,(),(),YW (n:=2) (lo:=0) (λi d c=>(∃e,d=[U (.ref d1),U (.int f),U (.ref gl),e])/\∃X',uf t c g n f CC S d1 d2 X' Bo/\Bz8 H X Bo c X' Bo) ⟨⟨_,Z⟩,X,I,Bz8.same (aL.refl _)⟩ ?_ ?_⟩
 .rintro i d c hi ⟨⟨e,rfl⟩,X',J,m⟩;obtain⟨T,l6⟩:=J.few G;refine xg J.x.cmp.1 Z Z ⟨d1,X'.a,X'.lb,n,f,X'.fo,g,CC,S,Z,J.x,T,(),λH3 a F3 l=>?_⟩;obtain⟨A,k,B3⟩:=J.ux (fo:=f+S.en) F3;have J3:uf t H3 g n f CC S d1 d2 ⟨X'.a,a,f+S.en⟩ Bo:=⟨l,A,J.o,J.ls,k⟩;have C3:=m.trans B3;refine xg l.cmp.1 Z Z ⟨d1,X'.a,a,n,f,f+S.en,g,CC,S,Z,l,(),λH4 s=>?_⟩;have x:=J3.same s;have y:=C3.trans (Bz8.same s);obtain⟨w,_,j,_,ee,_,le⟩:=x.x.cmp;have O:=(y.kp _ _ z M).1;refine⟨_,Z,xg w Z Z ⟨d1,_,X'.a,n,f,j,Z,w,ee,_,Z,_,_,Z,Z,_,Z,gl,_,Z,aT.of O,λb N=>?_⟩⟩;have E:(ur f S.ls CC.length).length=CC.length:=by unfold ur;rw[bd,cY]
  have ec:kq ((ur f S.ls CC.length).map V.int) (U (f+(j.length:Int)-f)) am=((ur f S.ls CC.length).drop S.en).map V.int:=by
   rw[show f+(j.length:Int)-f=(S.en:Int) by lia];have e3:HT.sIx ((ur f S.ls CC.length).map V.int).length 0 (U (S.en:Int))=min S.en ((ur f S.ls CC.length).map V.int).length:=HT.sIx_nat ..;unfold kq;rw[e3,show HT.sIx ((ur f S.ls CC.length).map V.int).length ((ur f S.ls CC.length).map V.int).length am=((ur f S.ls CC.length).map V.int).length from rfl,bd,E,dZ u,b7 (by rw[cW,bd];lia),lM]
  rw[ec];generalize c_:upd H4 b _=H5;obtain⟨r,eb⟩:=yQ c_ N;refine⟨b,_,Z,aT.of eb,_,_,Z,?_,λH6 p=>⟨_,Z,ya Z ⟨⟨_,Z⟩,_,x.same (r.trans p),y.trans (Bz8.same (r.trans p))⟩⟩⟩;rw[zen J.nd J.o.ly u];exact .int _
 .rintro d c ⟨⟨e,rfl⟩,X',J,m⟩;exact q c X' J m
end
section
variable {n:Nat}{x y x' y' u w v:V}{xs ys:List V}{a c qa qb:L}{aK:List aO}{z:He}{H0 H1:D}{es:List (bv×List aO)}
theorem Kf(i:Nat)(u w:V)(h:([]:List V)[i]?=U u):tR H n u w:=nomatch h
theorem wU(h:tR H n x x')(k:∀(i:Nat) u w,xs[i]?=U u->ys[i]?=U w->tR H n u w)(i:Nat)(u w:V)(d:(x::xs)[i]?=U u)(b:(x'::ys)[i]?=U w):tR H n u w:=by
 cases i with
 |zero=>cases d;cases b;exact h
 |succ i=>exact k i u w d b
theorem zdt{d:Type}{R h:V->d->Prop}{es:List d}(q:H a=U (.lst xs))(p:H c=U (.lst ys))(g:Paired R xs es)(f:Paired h ys es)(k:∀u w e,R u e->h w e->tR H n u w):tR H (n+1) (.ref a) (.ref c):=by
 refine .lst q p ((bE g).trans (bE f).symm) λi u w m l=>?_;obtain⟨e,o,r⟩:=Paired.getP g m;obtain⟨s,b,j⟩:=Paired.getP f l;cases o.symm.trans b;exact k u w e r j
theorem VS(k:tN H a aK)(j:tN H c aK):tR H (n+4) (.ref a) (.ref c):=by
 obtain⟨xs,q,o⟩:=k;obtain⟨ys,m,l⟩:=j;refine zdt q m o l ?_;rintro u w e ⟨r,p,rfl,g,f⟩ ⟨s,A,rfl,d,b⟩;exact .tup g d Z (wU (.tup f b Z (wU (.str _) (wU (.int _) λi u w h _=>Kf i u w h))) (wU (.int _) λi u w h _=>Kf i u w h))
theorem zkF(d:zaK H x oc)(b:zaK H y oc):tR H (n+3) x y:=by
 cases oc with
 |done sa =>
  obtain⟨o,z,rfl,g,m⟩:=d;obtain⟨j,p,rfl,f,l⟩:=b;refine .tup g f Z (wU (.str _) (wU (.tup m l Z λi u w d b=>?_) λi u w h _=>Kf i u w h));rw[bt] at d b;obtain⟨k,e,rfl⟩:=bY.mp d;rw[e] at b;cases b;exact .int k
 |off s =>
  obtain⟨o,rfl,g⟩:=d;obtain⟨j,rfl,f⟩:=b;exact .tup g f Z (wU (.str _) (wU (.str _) λi u w h _=>Kf i u w h))
theorem ziJ:∀(e:Ev) (i:Nat) (y z:V),(evX qa e)[i]?=U y->(evX qb e)[i]?=U z->(∃n,y=.int n/\z=.int n)\/(y=.ref qa/\z=.ref qb/\∃p,evP e=U p):=by
 intro e i y z;cases e <;> rcases i with _|_|_|_|i <;> intro b d <;> first|exact .inl ⟨_,(bH b).symm,(bH d).symm⟩|exact .inr ⟨(bH b).symm,(bH d).symm,_,Z⟩|cases b
theorem zht(j:t9 H v z)(h:t9 H u z):tR H (n+3) v u:=by
 obtain⟨a,qa,rfl,l,g⟩:=j;obtain⟨b,qb,rfl,k,f⟩:=h;refine .tup l k (by cases z.2 <;> rfl) λi x y d e=>?_;rcases i with _|_|i
 .cases d;cases e;exact .str _
 .cases d;cases e;exact .int _
 .rcases ziJ z.2 i x y d e with ⟨n,rfl,rfl⟩|⟨rfl,rfl,p,hp⟩
  .exact .int _
  .refine .tup (g p hp) (f p hp) Z λi x z d e=>?_;rcases i with _|_|i
   .cases d;cases e;exact .str _
   .cases d;cases e;exact .int _
   .cases d
theorem zj7{es:List He}(g:H a=U (.lst xs))(f:H c=U (.lst ys))(e:Paired (t9 H) xs es)(d:Paired (t9 H) ys es):tR H 6 (.ref a) (.ref c):=zdt g f e d λ_ _ _ a b=>zht (n:=2) a b
theorem zkG(C:H a=U (.lst xs))(A:H c=U (.lst ys))(q:Paired (PpC H0 H) xs es)(p:Paired (PpC H1 H) ys es):tR H 6 (.ref a) (.ref c):=by
 refine zdt C A q p ?_;rintro u w e ⟨r,o,J,M,rfl,m,l,k,j,_⟩ ⟨G,I,s,E,rfl,g,f,d,b,_⟩;exact .tup m g Z (wU (zkF l f) (wU (VS (n:=0) k d) (wU (VS (n:=0) j b) λi u w h _=>Kf i u w h)))
end
theorem zhu{d c:Type}{R:d->c->Prop}:∀(k:Nat) {a:List d} {b:List c},Paired R a b->Paired R (a.take k) (b.take k)
 |0,_,_,_=>.nil
 |_+1,_,_,.nil=>.nil
 |k+1,_,_,.cons h r=>.cons h (zhu k r)
def σW(i h j:L)(f n:Int)(s g c e:L)(d b a:Option V):St:=[U (.ref i),U (.ref h),U (.ref j),U (.int f),U (.int n),U (.ref s),U (.ref g),U (.ref c),U (.ref e),d,b,a]
section
variable {H0 H':D}{g:List aO}{n f c:Int}{CC CA:List (List Cs)}{S S2:DS}{d1 d2 cl gl rl kl s:L}{X Bo X' Y':DF}{us ws:List V}{v:V}{e:Ev}{k:Nat}{lw:L->Nat}{ns:List Int}{o9 o10 o11:Option V}{R:St->D->Prop}
theorem WkI.bz(W:WkI t H0 H g n f CC S d1 d2 X Bo lw rl kl gl cl us ws)(tw:uf t H' g n f CC S d1 d2 X' Y')(a:Bz8 H X Bo H' X' Y'):WkI t H0 H' g n f CC S d1 d2 X' Y' lw rl kl gl cl us ws:=by
 have F:Fr (λl=>l≠0) H H' lw lw:=⟨λ_ _ _=>rfl,λb o z e=>(a.kp b o (W.al b z) e).1,a.ts,a.al⟩;refine⟨tw,F.kp _ _ (by rw[W.l1];decide) W.hr,W.l1,W.lg.fr F () () (λk=>by lia) λb z=>.inl z,λb z=>?_,(a.kp _ _ W.zc.2 W.hc).1,⟨W.zc.1,(a.kp _ _ W.zc.2 W.hc).2⟩,λb o e=>?_⟩
 .obtain⟨o,e⟩:=W.lg.ow b z;exact(a.kp b o (W.al b z) e).2
 .obtain⟨h,i,d⟩:=W.sm b o e;exact⟨(a.kp b o d h).1,i,(a.kp b o d h).2⟩
theorem WkI.same(W:WkI t H0 H g n f CC S d1 d2 X Bo lw rl kl gl cl us ws)(s:aL H H'):WkI t H0 H' g n f CC S d1 d2 X Bo lw rl kl gl cl us ws:=W.bz (W.tw.same s) (Bz8.same s)
theorem QY(W:WkI t H0 H g n f CC S d1 d2 X Bo lw rl kl gl cl us ws)(o:g.length<=5)(q:∀H',WkI t H0 H' g n f CC S d1 d2 X Bo lw rl kl gl cl us ws->R (σW d1 d2 cl f n s gl rl kl o9 o10 o11) H') :
  ZP K t { nx:=R,rt:=Q } (σW d1 d2 cl f n s gl rl kl o9 o10 o11) H:=by
 have i:=(W.tw.few o).1;refine xg W.tw.x.cmp.1 Z Z ⟨d1,X.a,X.lb,n,f,X.fo,g,CC,S,Z,W.tw.x,i,λC m G l z r d=>?_⟩;have a:=W.same l;refine xg a.tw.y.cmp.1 Z Z ⟨d2,Bo.a,Bo.lb,n,f,0,g,CC,S,Z,a.tw.y,i,λA r2 E h y p b=>?_⟩;have u:m=r2:=qq d.1 b.1 λx=>(d.2 x.1 x.2).trans (b.2 x.1 x.2).symm;subst u;exact⟨_,_,Z,VS (n:=2) (r.same h) p,λw j=>⟨_,Z,ya Z (q w (a.same (h.trans j)))⟩⟩
theorem zfc(W:WkI t H0 H g n f CC S d1 d2 X Bo lw rl kl gl cl us ws)(a:g.length<=5)(q:∀H' X',WkI t H0 H' g n f CC S d1 d2 X' Bo lw rl kl gl cl us ws->R (σW d1 d2 cl f n s gl rl kl (U (.int c)) o10 o11) H') :
  ZQ K t { nx:=R,rt:=Q } (σW d1 d2 cl f n s gl rl kl (U (.int c)) o10 o11) H:=by
 refine⟨_,Z,_,_,Z,Z,by show (0:Int)<5;decide,Z,_,Z,?_⟩;by_cases z:V.int (c%5)=.int 0
 .refine ym (Bj z) ⟨_,Z,_,Z,_,Z,d1,d2,gl,f,n,g,CC,S,X,Bo,Z,W.tw,a,W.lg.gg,W.al gl (by rw[W.lg.l3];decide),λj d h i=>⟨_,Z,ya Z ?_⟩⟩;exact QY (K:=K) (W.bz h i) a λH' b=>q H' d b
 .exact ya (Bk z) (ya Z (QY (K:=K) W a λH' b=>q H' X b))
theorem zkH{a:List (Int×List aO)}(h:0<=f)(b:∀y∈a,f<=y.1):XG a 0=XG a (f+(0:Nat)):=by
 unfold XG;refine congrArg List.sum (congrArg _ (eZ λy d=>?_));have:=b y d;rw[Bj (show (0:Int)<=y.1 by lia),Bj (show f+((0:Nat):Int)<=y.1 by lia)]
theorem zfd(T:uf t H g n f CC S2 d1 d2 X Bo)(N:H rl=U (.lst us))(M:lw rl=1)(lg:LgB t H lw kl gl n f CC S.hl S.ls us)(al:∀b,lw b≠0->X.lb b=0/\Bo.lb b=0)(j:H cl=U (.lst ws))(p:lw cl=0/\X.lb cl=0/\Bo.lb cl=0)(G:∀b o,H0 b=U o->H b=U o/\lw b=0/\X.lb b=0/\Bo.lb b=0)(m:LwC K H0 s ns ws CA g n f)(cA:CC=CA.take CC.length)(ok:pv n f g CC S)(hk:(k:Int)<n)(mv:Mv f g CC S k e S2)(ev:t9 H v ((k:Int),e))(q:∀H' X' J E,WkI t H0 H' g n f CC S2 d1 d2 X' Bo J rl kl gl cl E ws->R (σW d1 d2 cl f n s gl rl kl (U (.int c)) (U (.int k)) (U v)) H') :
  ZR K t { nx:=R,rt:=Q } (σW d1 d2 cl f n s gl rl kl (U (.int c)) (U (.int k)) (U v)) H:=by
 have n8:=m.n8;have la:=bE m.px;have ul:=lg.ln;have s0:aL H0 H:=λb o e=>(G b o e).1;have I:Paired (CoZ H lw) (ws.take CC.length) CC:=by
  have:=zhu CC.length (Paired.mapP m.px λv C (z:ug H0 v C)=>show CoZ H lw v C from ⟨z.same s0,λc' e'=>by obtain⟨c,ys,e,j,_⟩:=z;cases e.symm.trans e';exact(G _ _ j).2.1⟩)
  rwa [<-cA] at this
 refine⟨_,Z,_,Z,_,Z,_,Z,_,Z,_,Z,_,Z,v,k,cl,rl,kl,gl,f,n,lw,ws.take CC.length,ws.drop CC.length,us,g,CC,S,S2,e,Z,ev,by rw[da];exact j,p.1,I,N,M,lg,ok,hk,n8,mv,λw u lw1 a L1=>?_⟩;have i:=a.kp _ _ (.inr M) N;have h:lw1 rl=1:=(a.ex _ _ N).trans M;refine⟨_,Z,_,Z,rl,us,k,k,Z,Z,i,zaV (),⟨(),()⟩,?_⟩;have A:Fr (λl=>l≠1) u (upd u rl (.lst (us.set k w))) lw1 lw1:=zds i h λ_ z=>nomatch z
 have e2:upd u rl (.lst (us.set k w)) rl=U (.lst (us.set k w)):=zj;generalize upd u rl (.lst (us.set k w))=H2 at *
 have O:∀b,X.lb b≠0\/Bo.lb b≠0->lw b=0:=λb z=>cE λy=>by have:=al b y;lia
 have d:∀b o,lw b=0->H b=U o->H2 b=U o/\lw1 b=0:=λb o z e=>by
  have y:=(a.ex b o e).trans z;exact⟨A.kp b o (by rw[y];decide) (a.kp b o (.inl z) e),y⟩
 have ts:TSm H H2:=λb zs e=>A.ts _ _ (a.ts _ _ e);have ae:∀b o,H b=U o->∃o',H2 b=U o':=λb o e=>let ⟨o',z⟩:=a.al b o e;A.al b o' z
 have T2:uf t H2 g n f CC S2 d1 d2 X Bo:=⟨T.x.of (λb o z e=>(d b o (O b (.inl z)) e).1) ts ae,T.y.of (λb o z e=>(d b o (O b (.inr z)) e).1) ts ae,T.o,T.ls,T.ap⟩;have r:WkI t H0 H2 g n f CC S2 d1 d2 X Bo lw1 rl kl gl cl (us.set k w) ws:=⟨T2,e2,h,L1.fr A () () (λk=>by lia) λb z=>.inl z,λb z=>by
  cases y:H b with
  |none=>exact⟨T.x.l0 y,T.y.l0 y⟩
  |some o=>exact al b λx=>z ((a.ex b o y).trans x),(d _ _ p.1 j).1,⟨(d _ _ p.1 j).2,p.2⟩,λb o e=>let ⟨a1,a2,a3⟩:=G b o e;⟨(d b o a2 a1).1,(d b o a2 a1).2,a3⟩⟩
 obtain⟨fw,l6⟩:=r.tw.few m.l5;refine xg r.tw.y.cmp.1 Z Z ⟨d2,Bo.a,Bo.lb,n,f,0,g,CC,S2,Z,r.tw.y,(),λH3 s3=>?_⟩;have W3:=r.same s3;refine⟨_,Z,gl,_,Z,aT.of W3.lg.gg,_,_,Z,?_,λH4 s4=>⟨_,Z,ya Z (zfc (W3.same s4) m.l5 λH' X' W'=>q H' X' lw1 _ W')⟩⟩;have gk:=zen (k:=0) T.nd T.o.ly (bS _);rw[gh] at gk;rw[gk,zkH T.o.f0 λy hy=>(T.o.ly y hy).1];exact .int _
theorem QZ(W:WkI t H0 H g n f CC S d1 d2 X Bo lw rl kl gl cl us ws)(Bp:LwC K H0 s ns ws CA g n f)(cA:CC=CA.take CC.length)(q:∀H' X' Y' j i S' o10 o11,WkI t H0 H' g n f CC S' d1 d2 X' Y' j rl kl gl cl i ws->R (σW d1 d2 cl f n s gl rl kl (U (.int c)) o10 o11) H') :
  ZS K t { nx:=R,rt:=Q } (σW d1 d2 cl f n s gl rl kl (U (.int c)) o10 o11) H:=by
 have n1:=Bp.n1;have p:=W.tw.o;refine⟨_,Z,_,_,Z,Z,dB,_,Z,_,_,Z,Z,by show (0:Int)<n;lia,?_⟩;have b1:=cK (c/5) (show n≠0 by lia);have x:=cw (c/5) (show 0<n by lia);obtain⟨k,N⟩:=fV b1;rw[N] at x;dsimp only;rw[N];refine xg W.tw.y.cmp.1 Z Z ⟨_,Z,d2,Bo.a,Bo.lb,n,f,k,0,g,CC,S,Z,W.tw.y,p,(),x,λv H1 a e S1 F1 ev E G1=>?_⟩;obtain⟨M,A,B1⟩:=W.tw.uy F1;refine xg M.cmp.1 Z Z ⟨_,Z,d1,X.a,X.lb,n,f,k,X.fo,g,CC,S,Z,M,p,(),x,λu H2 m e2 S2 d I G G2=>?_⟩;obtain⟨rfl,rfl⟩:=E.det p G;have r:=ev.ts d.ts;refine⟨_,Z,_,_,Z,zht (n:=3) I r,λO C=>⟨_,Z,ya Z ?_⟩⟩;have y2:tW t H2 d2 Bo.a a n f 0 g CC S1:=G1.of (λb o z e=>d.kp b o (.inl (cE λy=>z (A b y))) e) d.ts d.al;have J:∀b,m b≠0->a b=0:=λb z=>by
  cases y:H1 b with
  |none=>exact G1.l0 y
  |some o=>exact A b λw=>z ((d.ex b o y).trans w)
 have B2:Bz8 H1 X ⟨Bo.a,a,0⟩ H2 ⟨X.a,m,X.fo⟩ ⟨Bo.a,a,0⟩:=⟨d.ts,λb o z e=>⟨d.kp b o (.inl z.1) e,(d.ex b o e).trans z.1,z.2⟩,d.al⟩;have h:=B1.trans (B2.trans (Bz8.same C));have T:uf t O g n f CC S1 d1 d2 ⟨X.a,m,X.fo⟩ ⟨Bo.a,a,0⟩:=⟨G2.same C,y2.same C,Mv.ok p E () x,W.tw.ls.mv p E,J⟩;have F:Fr (λl=>l≠0) H O lw lw:=⟨λ_ _ _=>rfl,λb o z e=>(h.kp b o (W.al b z) e).1,h.ts,h.al⟩;exact zfd T (F.kp _ _ (by rw[W.l1];decide) W.hr) W.l1 (W.lg.fr F () () (λk=>by lia) λb z=>.inl z) (λb z=>by
  obtain⟨o,e⟩:=W.lg.ow b z;exact(h.kp b o (W.al b z) e).2) (h.kp _ _ W.zc.2 W.hc).1 ⟨W.zc.1,(h.kp _ _ W.zc.2 W.hc).2⟩ (λb o e=>let ⟨a1,a2,a3⟩:=W.sm b o e;⟨(h.kp b o a3 a1).1,a2,(h.kp b o a3 a1).2⟩) Bp cA p x E (r.ts (TSm.of C)) λH' X' j i W'=>q H' X' _ j i S1 _ _ W'
theorem RuAt.cc{a:List (Int×Int×Nat×bv)}(A:RuAt t H lw f CC a h v):RuAt t H lw f (CC++[C]) a h v:=by
 rcases A with z|⟨x,ra,r,j,s,C',e,m,c,y⟩
 .exact .inl z
 .exact .inr ⟨x,ra,r,j,s,C',e,m,by rw[dL (bq.mp c).1];exact c,y⟩
theorem zfe(W:WkI t H0 H g n f CC S d1 d2 X Bo lw rl kl gl cl us ws)(j:LwC K H0 s ns ws CA g n f)(E:CC=CA.take CC.length)(q:∀H' X' Y' d a p i o10 o11,i=CA.take i.length->WkI t H0 H' g n f i p d1 d2 X' Y' d rl kl gl cl a ws->R (σW d1 d2 cl f n s gl rl kl (U (.int c)) o10 o11) H') :
  ZU K t { nx:=R,rt:=Q } (σW d1 d2 cl f n s gl rl kl (U (.int c)) o10 o11) H:=by
 have la:=bE j.px;have l5:=j.cc.le;have J:((ur f S.ls CC.length).map V.int).length=CC.length:=by rw[bd];unfold ur;rw[bd,cY]
 have O:=QZ W j E (o10:=o10) (o11:=o11) (c:=c) (R:=R) (Q:=Q) λH' X' Y' d a p o10 o11 G=>q H' X' Y' d a p CC o10 o11 E G;refine⟨_,Z,_,_,Z,Z,by show (0:Int)<5;decide,_,_,Z,Z,_,Z,?_⟩;by_cases z:c%5<2
 .refine ym (Bj z) ⟨_,Z,.ref gl,_,Z,.inl ⟨_,aT.of W.lg.gg,Z⟩,_,Z,.ref cl,_,Z,.inl ⟨_,aT.of W.hc,Z⟩,_,_,Z,Z,_,Z,?_⟩;rw[J];by_cases y:(CC.length:Int)<ws.length
  .have M:ws[CC.length]?=U (ws[CC.length]'()):=bb ();obtain⟨C,N,co⟩:=Paired.getP j.px M;have s0:aL H0 H:=λb o e=>(W.sm b o e).1;have zg:=W.al gl (by rw[W.lg.l3];decide);refine ym (Bj y) ⟨_,Z,_,Z,_,Z,_,Z,_,Z,d1,d2,cl,gl,f,n,g,CC,C,S,X,Bo,ws,_,ur f S.ls CC.length,Z,W.tw,W.lg.gg,(by have:=J;rw[bd] at this;exact this),zg,W.hc,M,co.same s0,λc' e'=>?_,j.cc.ok C (bJ N),(),λI X1 Y1 T ts ae m A x _=>⟨_,Z,ya Z ?_⟩⟩
   .obtain⟨c0,ys,e,hc,_⟩:=co;cases e.symm.trans e';obtain⟨_,u,r⟩:=W.sm _ _ hc;exact⟨(λz=>by have:=W.lg.l3;rw[<-z,u] at this;cases this),r⟩
   .have F:Fr (λl=>l≠0/\l≠3) H I lw lw:=⟨λ_ _ _=>rfl,λb o z e=>(m b o (λw=>z.2 (by rw[w];exact W.lg.l3)) (W.al b z.1) e).1,ts,ae⟩;have nw:f+(CC.length:Int) ∉ S.ls.map (·.1):=λz=>by obtain⟨y,hy,e⟩:=bD.mp z;have:=W.tw.o.ly y hy;lia
    obtain⟨ks,k1,k2⟩:=W.lg.kk;have nc:cl≠gl:=λz=>by have:=W.lg.l3;rw[<-z,W.zc.1] at this;cases this
    have c1:=m _ _ nc W.zc.2 W.hc;have cB:CC++[C]=CA.take (CC++[C]).length:=by
     rw[bx];show _=CA.take (CC.length+1);rw[cx,N,<-E];rfl
    have W1:WkI t H0 I g n f (CC++[C]) (zb4 f CC.length S) d1 d2 X1 Y1 lw rl kl gl cl us ws:=⟨T,F.kp _ _ (by rw[W.l1];decide) W.hr,W.l1,⟨W.lg.ln,λh v e=>((W.lg.ru h v e).fr F ()).cc,⟨ks,F.kp _ _ (by rw[W.lg.l2];decide) k1,k2⟩,by rw[bx];show I gl=U (.lst ((ur f S.ls (CC.length+1)).map V.int));rw[ziH nw];exact A,W.lg.l2,W.lg.l3,λb z=>let ⟨o,e⟩:=W.lg.ow b z;ae b o e⟩,λb z=>by
     by_cases w:b=gl
     .rw[w];exact x
     .obtain⟨o,e⟩:=W.lg.ow b z;exact(m b o w (W.al b z) e).2,c1.1,⟨W.zc.1,c1.2⟩,λb o e=>by
     obtain⟨a1,u,r⟩:=W.sm b o e;have w:b≠gl:=λz=>by have:=W.lg.l3;rw[<-z,u] at this;cases this
     exact⟨(m b o w r a1).1,u,(m b o w r a1).2⟩⟩
    exact QZ W1 j cB λH' X' Y' d a p o10 o11 G=>q H' X' Y' d a p _ o10 o11 cB G
  .exact ya (Bk y) (ya Z O)
 .exact ya (Bk z) (ya Z O)
theorem zhv{w:TE}{rest:TS}(E:many<=1000)(C:σ[k]?=U (U (.int (many:Nat))))(p:∀(x:Option V) H' R,R vv H'->w (x::Kq ix σ) H' R)(q:∀l H',aL H H'->H l=am->H' l=U (.lst (eW many vv))->rest d (σ.set j (U (.ref l))) H'):zt (zS (vG (WJ (zd (B k) zk)) (zv 0) Vm w 1 ix) (zv j)) rest d σ H:=by
 refine⟨_,C,many,Z,(),(),λd r=>?_⟩;refine⟨λi m h u H'=>m=many-i/\i<=many/\(∃o,u=o::Kq ix σ)/\aL H H'/\H' d=U (.lst h)/\h=eW i vv,⟨_,Z,bS _,⟨_,Z⟩,tM d r,zj,Z⟩,?_⟩;rintro i m h u A ⟨rfl,G,⟨o,rfl⟩,y,a,rfl⟩;refine⟨a,?_⟩;rcases iY i many with c|c
 .refine .inr ⟨by show i<(many:Int).toNat;lia,by rw[dQ,bL];lia,λv b H'=>v=vv/\(∃o,b=o::Kq ix σ)/\aL A H',λv b H' ⟨e,z,s⟩=>⟨s _ _ a,many-(i+1),(),Z,c,z,xU (y.trans s) r,zj,by rw[e,List.replicate_succ']⟩,λ_ _=>False,λ_ _ z=>z.elim,?_⟩;rintro x I ⟨rfl,rfl⟩;exact ym (R:=False) Z (p _ _ _ ⟨Z,⟨_,Z⟩,aL.refl _⟩)
 .obtain rfl:i=many:=by lia
  exact .inl ⟨by show (i:Int).toNat<=i;lia,q d A y r a⟩
theorem KZ{vs:List V}{_E:XK}(h:jh K t vs H Q _E) :
  XQ K t (mt Q) (zZZ 12 vs) H:=by
 obtain⟨d1,d2,cl,s,gl,f,n,g,CA,S,X,Bo,ns,ws,H0,rfl,j,T,eh,el,G,zg,ng,p,nc,zc,sm,q⟩:=h;have n1:=j.n1;have n8:=j.n8;have la:=bE j.px;obtain⟨m,rfl⟩:=fV (show 0<=n by lia);refine zhv (vv:=.non) () Z (λ_ _ _ z=>z) λrl H2 O d er=>?_;refine zhv (vv:=.int 0) () Z (λ_ _ _ z=>z) λkl H3 s3 l ek=>?_;have x:=O.trans s3;have T3:=T.same x;have r:=s3 _ _ er;have rk:rl≠kl:=λz=>by rw[z] at er;rw[er] at l;cases l
 have rg:rl≠gl:=λz=>by rw[z,G] at d;cases d
 have kg:kl≠gl:=λz=>by rw[z,O _ _ G] at l;cases l
 have E:H kl=am:=zH O l;have cr:cl≠rl:=λz=>by rw[z,d] at p;cases p
 have ck:cl≠kl:=λz=>by rw[z,E] at p;cases p
 let lw:L->Nat:=λb=>if b=rl then 1 else if b=kl then 2 else if b=gl then 3 else 0
 have lr:lw rl=1:=au rfl;have lk:lw kl=2:=by show (if kl=rl then 1 else if kl=kl then 2 else _)=2;rw[ao (λz=>rk z.symm),au rfl]
 have ae:lw gl=3:=by show (if gl=rl then 1 else if gl=kl then 2 else if gl=gl then 3 else 0)=3;rw[ao (λz=>rg z.symm),ao (λz=>kg z.symm),au rfl]
 have l0:∀b,b≠rl->b≠kl->b≠gl->lw b=0:=λb a M a3=>by show (if b=rl then 1 else if b=kl then 2 else if b=gl then 3 else 0)=0;rw[ao a,ao M,ao a3]
 have ln:∀b,lw b≠0->b=rl\/b=kl\/b=gl:=λb z=>cE λy=>z (l0 b (λw=>y (.inl w)) (λw=>y (.inr (.inl w))) λw=>y (.inr (.inr w)));have W:WkI t H0 H3 g m f [] S d1 d2 X Bo lw rl kl gl cl (eW m .non) ws:=by
  refine⟨T3,r,lr,⟨by rw[dQ],λh v e=>.inl ⟨?_,by rw[eh];exact λz=>nomatch z⟩,⟨eW m 0,by rw[List.map_replicate];exact ek,by rw[dQ],by rw[eh];exact λ_ z=>nomatch z⟩,x _ _ G,lk,ae,λb z=>?_⟩,λb z=>?_,x _ _ p,⟨l0 _ cr ck nc,zc⟩,λb o e=>?_⟩
  .exact(List.eq_of_mem_replicate (bJ e))
  .rcases ln b z with rfl|rfl|rfl
   .exact⟨_,r⟩
   .exact⟨_,ek⟩
   .exact⟨_,x _ _ G⟩
  .rcases ln b z with rfl|rfl|rfl
   .exact⟨T.x.l0 d,T.y.l0 d⟩
   .exact⟨T.x.l0 E,T.y.l0 E⟩
   .exact zg
  .obtain⟨a,M⟩:=sm b o e;exact⟨x _ _ a,l0 b (λz=>by rw[z,d] at a;cases a) (λz=>by rw[z,E] at a;cases a) (λz=>by rw[z,ng] at e;cases e),M⟩
 refine⟨_,Z,s,Z,⟨_,j.hS.mono λb o e=>(W.sm b o e).1⟩,xG (ns.map V.int) (λi C A=>(∃o9 o10 o11,C=σW d1 d2 cl f m s gl rl kl o9 o10 o11)/\∃CC S X Bo lw us,CC=CA.take CC.length/\WkI t H0 A g m f CC S d1 d2 X Bo lw rl kl gl cl us ws) ⟨⟨_,_,_,Z⟩,[],S,X,Bo,lw,_,Z,W⟩ (λi C A ⟨_,_,_,_,_,_,_,_,J⟩=>j.hS.mono λb o e=>(J.sm b o e).1) ?_ ?_⟩
 .rintro i u C A hu ⟨⟨o9,o10,o11,rfl⟩,CC,S,X,Bo,lw,us,I,J⟩;rw[bt] at hu;obtain⟨c,_,rfl⟩:=bY.mp hu;exact zfe J j I λH' X' Y' aa N S' ag o10 o11 cB W'=>⟨⟨_,_,_,Z⟩,ag,S',X',Y',aa,N,cB,W'⟩
 .rintro C A ⟨⟨o9,o10,o11,rfl⟩,CC,S,X,Bo,lw,us,I,J⟩;have lc:=congrArg fT I;rw[cg] at lc;have T4:=J.tw;rw[I] at T4;exact q A X Bo CC.length S () T4 (λb o e=>let ⟨a,M,a3⟩:=J.sm b o e;⟨a,a3⟩) J.lg.gg (J.al gl (by rw[J.lg.l3];decide))
end
def σL(s:L)(e d:Option V)(b i:L)(n f:Int)(h g:L)(c a:Option V):St:=[U (.ref s),e,d,U (.ref b),U (.ref i),U (.int n),U (.int f),U (.ref h),U (.ref g),c,a]
section
variable {H0 H':D}{g:List aO}{n f:Int}{CC CA:List (List Cs)}{S:DS}{d1 d2 tl cl gl s:L}{X Bo X' Y':DF}{vs:List V}{ns:List Int}{o1 o2 o9 o10:Option V}{Bq:Wg}{rest:TS}
theorem zff(T:uf t H g n f CC S d1 d2 X Bo)(A:g.length<=5)(q:∀H',Q (.bl ak) H') :
  QL K t (mt Q) (σL s o1 o2 tl cl n f d1 d2 o9 o10) H:=by
 have j:=(T.few A).1;have el:=T.o.el;have O:=T.o.cc.le;refine xg T.x.cmp.1 Z Z ⟨d1,X.a,X.lb,n,f,X.fo,g,CC,S,Z,T.x,(),λE M H1 p y c v=>?_⟩;have e:=T.same p;refine xg e.y.cmp.1 Z Z ⟨d2,Bo.a,Bo.lb,n,f,0,g,CC,S,Z,e.y,(),λC J H2 a w b u=>?_⟩;refine⟨_,_,Z,zkG (a _ _ c) b (Paired.mapP v λ_ _ z=>z.same a) u,λH3 o=>⟨ak,Z,ym Z ?_⟩⟩;have d:=e.same (a.trans o);refine xg d.x.cmp.1 Z Z ⟨d1,X.a,X.lb,n,f,X.fo,g,CC,S,Z,d.x,j,λE r H4 m y c i=>?_⟩;have k:=d.same m;refine xg k.y.cmp.1 Z Z ⟨d2,Bo.a,Bo.lb,n,f,0,g,CC,S,Z,k.y,j,λC r2 H5 l w b h=>?_⟩;have G:r=r2:=qq i.1 h.1 λx=>(i.2 x.1 x.2).trans (h.2 x.1 x.2).symm;subst G;exact⟨_,_,Z,VS (n:=2) (c.same l) b,λI N=>q I⟩
theorem zcr(T:uf t H g n f CC S d1 d2 X Bo)(G:1<=n)(E:n<=8)(q:∀H' X' Y' k,uf t H' g n f CC k d1 d2 X' Y'->Bz8 H X Bo H' X' Y'->k.en=CC.length->rest (mt Q) (σL s o1 o2 tl cl n f d1 d2 o9 o10) H') :
  zt (zW (kj (tB (zO (yb 6) [] E0 (zd (zI t.q00 "finish" (yC t) [] E0 (B 7) zk) (zd (zI t.q00 "finish" (yC t) [] E0 (B 8) zk) zk))))) (zJ (tC (.bl aq))) zN) rest (mt Q) (σL s o1 o2 tl cl n f d1 d2 o9 o10) H:=by
 refine xg T.x.cmp.1 Z Z ⟨d1,X.a,X.lb,n,f,X.fo,g,CC,S,Fin f n g CC S,Z,T.x,T.o,G,E,.nil,(λes S h e k J r v y u=>.snoc J r v y u),λl1 x1 ag N a S1 F1 z1 m1 h1 p1 _ I p i O=>?_⟩;obtain⟨C,j,B1⟩:=T.ux (fo:=X.fo) F1;refine xg C.cmp.1 Z Z ⟨d2,Bo.a,Bo.lb,n,f,0,g,CC,S,Fin f n g CC S,Z,C,T.o,G,E,.nil,(λes S h e k J r v y u=>.snoc J r v y u),λl2 x2 ae M d S2 c z2 m2 h2 p2 _ J2 aa x G2=>?_⟩;obtain⟨rfl,rfl⟩:=I.det J2 i x;have yl:Bo.lb l1=0:=T.y.l0 m1;have w:=c.kp _ _ (.inl yl) h1;refine⟨_,_,Z,zj7 w h2 (Paired.mapP p1 λ_ _ z=>z.ts c.ts) p2,λH3 m=>⟨_,Z,ya Z ?_⟩⟩;have l:tW t M d1 X.a a n f X.fo g CC S1:=O.of (λb o z e=>c.kp b o (.inl (j b z)) e) c.ts c.al;have A:∀b,a b≠0->d b=0:=λb z=>by
  cases e:N b with
  |none=>exact absurd (O.l0 e) z
  |some o=>exact(c.ex b o e).trans (j b z)
 have B2:Bz8 N ⟨X.a,a,X.fo⟩ Bo M ⟨X.a,a,X.fo⟩ ⟨Bo.a,d,0⟩:=⟨c.ts,λb o z e=>⟨c.kp b o (.inl z.2) e,z.1,(c.ex b o e).trans z.2⟩,c.al⟩;exact q H3 ⟨X.a,a,X.fo⟩ ⟨Bo.a,d,0⟩ S1 ⟨l.same m,G2.same m,p,I.ls T.ls,A⟩ (B1.trans (B2.trans (Bz8.same m))) i
structure LwG(t:aX)(H0 H:D)(g:List aO)(n f:Int)(CC:List (List Cs))(S:DS)(d1 d2 gl:L)(X Bo:DF):Prop where
 tw:uf t H g n f CC S d1 d2 X Bo
 sm:∀b o,H0 b=U o->H b=U o/\X.lb b=0/\Bo.lb b=0
 gg:∃qs:List Int,H gl=U (.lst (qs.map V.int))/\qs.length=CC.length
 zg:X.lb gl=0/\Bo.lb gl=0
theorem zfg(G:uf t H g n f CC S d1 d2 X Bo)(c:g.length<=5)(b:1<=n)(a:n<=8)(q:∀H',Q (.bl ak) H') :
  QM K t (mt Q) (σL s o1 o2 tl cl n f d1 d2 o9 o10) H:=zcr G b a λH' X' Y' e d _ _=>zff d c q
theorem zfh(a:LwC K H0 s ns vs CA g n f)(d:H0 cl=U (.lst vs))(u:H0 gl=am)(m:Nat)(A:m<=vs.length)(G:LwG t H0 H g n f (CA.take m) S d1 d2 gl X Bo)(q:∀H',Q (.bl ak) H') :
  QN K t (mt Q) (σL s o1 o2 tl cl n f d1 d2 (U (.ref gl)) o10) H:=by
 have la:=bE a.px;have l5:=a.cc.le;refine⟨λj r H4=>r=σL s o1 o2 tl cl n f d1 d2 (U (.ref gl)) o10/\∃m S X Bo,m<=vs.length/\j=vs.length-m/\LwG t H0 H4 g n f (CA.take m) S d1 d2 gl X Bo,⟨_,Z,m,S,X,Bo,A,Z,G⟩,?_⟩;rintro j r H4 ⟨rfl,m,S,X,Bo,A,ej,G⟩;have v:(CA.take m).length=m:=by rw[cg];lia
 obtain⟨k,I,l⟩:=G.gg;have N:(k.map V.int).length=m:=by rw[bd,l,v]
 have c:=(G.sm _ _ d).1;refine⟨_,Z,.ref gl,_,Z,.inl ⟨_,aT.of I,Z⟩,_,Z,.ref cl,_,Z,.inl ⟨_,aT.of c,Z⟩,_,_,Z,Z,_,Z,?_⟩;rw[N];by_cases y:(m:Int)<vs.length
 .refine ym (Bj y) ⟨λh H'=>∃w,w<j/\(h=σL s o1 o2 tl cl n f d1 d2 (U (.ref gl)) o10/\∃m S X Bo,m<=vs.length/\w=vs.length-m/\LwG t H0 H' g n f (CA.take m) S d1 d2 gl X Bo),λ_ _ z=>z,?_⟩;have x:vs[m]?=U (vs[m]'()):=bb ();obtain⟨C,E,J⟩:=Paired.getP a.px x;have M:aL H0 H4:=λb o e=>(G.sm b o e).1;refine⟨_,Z,_,Z,_,Z,_,Z,_,Z,d1,d2,cl,gl,f,n,g,CA.take m,C,S,X,Bo,vs,_,k,Z,G.tw,I,l,G.zg,c,by rw[v];exact x,J.same M,λc' e'=>?_,a.cc.ok C (bJ E),(),λH1 X1 Y1 T ts ae O p i _=>⟨_,Z,ya Z ⟨_,(),Z,m+1,zb4 f (CA.take m).length S,X1,Y1,(),Z,?_⟩⟩⟩
  .obtain⟨c0,ys,e,d,_⟩:=J;cases e.symm.trans e';exact⟨(λz=>by rw[z,u] at d;cases d),(G.sm _ _ d).2⟩
  .have e1:CA.take (m+1)=CA.take m++[C]:=by rw[cx,E];rfl
   rw[e1];refine⟨T,λb o e=>?_,⟨k++[0],p,by rw[bx,bx,l];rfl⟩,i⟩;obtain⟨a1,a2⟩:=G.sm b o e;exact O b o (λz=>by rw[z,u] at e;cases e) a2 a1
 .exact ya (Bk y) (zfg G.tw a.l5 a.n1 a.n8 q)
theorem zfi{b:List (Int×List aO)}{a:Int}(c:∀y∈b,y.1<a):XG b a=0:=by
 unfold XG;have:(b.filter λy=>decide (a<=y.1))=[]:=List.filter_eq_nil_iff.mpr λy d z=>by
  have:=c y d;have:=of_decide_eq_true z;lia
 rw[this];rfl
theorem zfj(k:LwC K H0 s ns vs CA g n f)(z:H0 cl=U (.lst vs))(u:H0 gl=am)(m:Nat)(x:m<=vs.length)(G:LwG t H0 H g n f (CA.take m) S d1 d2 gl X Bo)(E:S.en=(CA.take m).length)(q:∀H',Q (.bl ak) H') :
  QO K t (mt Q) (σL s o1 o2 tl cl n f d1 d2 (U (.ref gl)) o10) H:=by
 obtain⟨C,O⟩:=G.tw.few k.l5;refine xg G.tw.x.cmp.1 Z Z ⟨d1,X.a,X.lb,n,f,X.fo,g,CA.take m,S,Z,G.tw.x,C,(),λJ a M d=>?_⟩;obtain⟨p,c,N⟩:=G.tw.ux (fo:=f+S.en) M;have I:uf t J g n f (CA.take m) S d1 d2 ⟨X.a,a,f+S.en⟩ Bo:=⟨d,p,G.tw.o,G.tw.ls,c⟩;refine xg d.cmp.1 Z Z ⟨d1,X.a,a,n,f,f+S.en,g,CA.take m,S,Z,d,(),λH2 i=>⟨_,_,Z,?_,λT h=>⟨_,Z,ya Z ?_⟩⟩⟩
 .rw[zfi λy w=>by have:=(G.tw.o.ly y w).2;rw[E];exact this];exact .int _
 .have l:=N.trans (Bz8.same (i.trans h));obtain⟨r,A,v⟩:=G.gg;have j:=l.kp _ _ G.zg A;exact zfh k z u m x ⟨I.same (i.trans h),λb o e=>let ⟨a1,a2⟩:=G.sm b o e;l.kp b o a2 a1,⟨r,j.1,v⟩,j.2⟩ q
theorem zfk(a:LwC K H0 s ns vs CA g n f)(l:H0 cl=U (.lst vs))(i:H0 gl=am)(m:Nat)(k:m<=vs.length)(G:LwG t H0 H g n f (CA.take m) S d1 d2 gl X Bo)(q:∀H',Q (.bl ak) H') :
  QP K t (mt Q) (σL s o1 o2 tl cl n f d1 d2 (U (.ref gl)) o10) H:=by
 exact zcr G.tw a.n1 a.n8 λH' X' Y' v u d r=>by
  obtain⟨h,p,j⟩:=G.gg;have c:=d.kp _ _ G.zg p;exact zfj a l i m k ⟨u,λb o e=>let ⟨a1,a2⟩:=G.sm b o e;d.kp b o a2 a1,⟨h,c.1,j⟩,c.2⟩ r q
theorem zj8{k:Nat}(h:k<=xs.length):kq xs am (U (k:Int))=xs.take k:=by
 unfold kq;rw[HT.sIx_none,HT.sIx_nat,dZ h];exact congrArg _ (gh ..)
theorem zfl(a:LwC K H0 s ns vs CA g n f)(v:H0 cl=U (.lst vs))(p:H0 gl=am)(T:uf t H g n f [] S d1 d2 X Bo)(G:S.hl=[])(E:S.ls=[])(u:H gl=U (.lst []))(x:X.lb gl=0/\Bo.lb gl=0)(l:∀b o,H0 b=U o->H b=U o/\X.lb b=0/\Bo.lb b=0)(m:Nat)(A:m<=vs.length)(q:∀H',Q (.bl ak) H') :
  QQ K t (mt Q) (σL s o1 o2 tl cl n f d1 d2 (U (.ref gl)) (U (.int m))) H:=by
 have N:=bE a.px;refine⟨_,Z,_,Z,_,Z,_,Z,_,Z,cl,vs,Z,aT.of (l _ _ v).1,λb c=>?_⟩;rw[zj8 A];generalize c_:upd H b _=H1;obtain⟨i,J⟩:=yQ c_ c;have y:(vs.take m).length=m:=by rw[cg];lia
 have M:LwC K H0 s ns (vs.take m) (CA.take m) g n f:=⟨a.hS,a.hn,a.hb,zhu m a.px,⟨λC z=>a.cc.ok C (dq z),by rw[cg];have:=a.cc.le;lia⟩,a.l5,a.n1,a.n8⟩;refine⟨_,Z,_,Z,_,Z,_,Z,d1,d2,b,s,gl,f,n,g,CA.take m,S,X,Bo,ns,vs.take m,H0,Z,M,T.same i,G,E,i _ _ u,x,p,J,(λz=>by rw[z,u] at c;cases c),⟨T.x.l0 c,T.y.l0 c⟩,(λb o e=>let ⟨a1,a2⟩:=l b o e;⟨i _ _ a1,a2⟩),λH2 X2 O k S2 r w h j d=>⟨_,Z,ya Z ?_⟩⟩;rw[y] at r;have I:(CA.take m).take k=CA.take k:=by rw[List.take_take,dZ r]
 rw[I] at w;exact zfk a v p k () ⟨w,h,⟨_,j,by unfold ur;rw[bd,cY,cg];lia⟩,d⟩ q
theorem zhw(d:LwC K H0 s ns vs CA g n f)(l:H0 cl=U (.lst vs))(T:uf t H g n f [] S d1 d2 X Bo)(w:S.hl=[])(v:S.ls=[])(h:∀b o,H0 b=U o->H b=U o/\X.lb b=0/\Bo.lb b=0)(q:∀H',Q (.bl ak) H') :
  zb5 K t (mt Q) (σL s o1 o2 tl cl n f d1 d2 o9 o10) H:=by
 refine⟨(),λgl a=>?_⟩;generalize c_:upd H gl _=H1;obtain⟨j,x⟩:=yQ c_ a;have u:H0 gl=am:=by
  cases e:H0 gl with
  |none=>rfl
  |some o=>rw[(h _ _ e).1] at a;cases a
 have k:aL H0 H1:=λb o e=>j _ _ (h b o e).1;refine⟨_,Z,s,ns,2,Z,d.hS.mono k,d.hn,d.hb,λc A i _ _=>⟨_,_,Z,Z,dB,_,Z,.ref cl,vs.length,Z,.inl ⟨_,aT.of (i _ _ (k _ _ l)),Z⟩,_,_,Z,Z,_,_,Z,Z,by show (0:Int)<(vs.length:Int)+1;lia,?_⟩⟩;have z:=cK (c/7) (show (vs.length:Int)+1≠0 by lia);have y:=cw (c/7) (show (0:Int)<(vs.length:Int)+1 by lia);obtain⟨m,p⟩:=fV z;rw[p] at y;dsimp only;rw[p];have r:=j.trans i;exact zfl d l u (T.same r) w v (i _ _ x) ⟨T.x.l0 a,T.y.l0 a⟩ (λb o e=>let ⟨a1,a2⟩:=h b o e;⟨r _ _ a1,a2⟩) m () q
theorem zj9(b:0<=f)(a:∀p,tK ((zC g p).getD 0)=ak)(k:Nat):pv n f g [] (S0 k):=⟨b,⟨λ_ z=>(nomatch z),bS _⟩,bS _,.refl _,.nil,cO,(),(),(),(),a,λ_ z=>nomatch z⟩
theorem zhx(a:LwC K H s ns vs CA g n f)(J:H cl=U (.lst vs))(w:tN H tl g)(M:∀p,tK ((zC g p).getD 0)=ak)(x:f=fsW (ns.getD 0 0))(q:∀H',Q (.bl ak) H'){I G:Option V} :
  zb6 K t (mt Q) [U (.ref s),o1,o2,U (.ref tl),U (.ref cl),U (.int n),U (.int f),I,G,o9,o10] H:=by
 refine⟨_,Z,_,Z,_,Z,s,ns,0,Z,a.hS,a.hn,a.hb,λc H1 i N y=>⟨tl,n,c,g,Z,w.same i,a.l5,N,λd1 a1 k H2 E C r=>?_⟩⟩;have h:=i.trans E;refine⟨_,Z,_,Z,_,Z,s,ns,0,Z,a.hS.mono h,a.hn,a.hb,λO H3 d m l=>⟨tl,n,O,g,Z,w.same (h.trans d),a.l5,m,λd2 a2 j H4 v u A=>?_⟩⟩;cases y.trans l.symm;rw[y,<-x] at r A;have T:uf t H4 g n f [] (S0 (ns.getD 0 0/8%3).toNat) d1 d2 ⟨a1,k,0⟩ ⟨a2,j,0⟩:=⟨r.same (d.trans v),A,zj9 (by rw[x];exact zhl _) M _,(),λb z=>by
  cases e:H2 b with
  |none=>exact absurd (r.l0 e) z
  |some o=>exact u b o (d _ _ e)⟩
 exact zhw a J T Z Z (λb o e=>⟨(h.trans (d.trans v)) _ _ e,C b o (i _ _ e),u b o ((h.trans d) _ _ e)⟩) q
theorem zhy{a b:Option V}{x w v u:Option V}{c:List aO}(j:aT K H s (ns.map V.int))(e:ns.length<=63)(h:∀i∈ns,Cb i)(C:H cl=U (.lst vs))(o:Paired (ug H) vs CC)(I:zjG CC)(E:tN H tl c)(y:c.length<=5)(A:∀r∈c,tK r.2=ak)(q:∀H',Q (.bl ak) H') :
  zb7 K t (mt Q) [U (.ref s),a,b,U (.ref tl),U (.ref cl),x,w,v,u,o9,o10] H:=by
 refine⟨_,Z,s,ns,0,Z,j,e,h,λl H1 k _ _=>⟨_,_,Z,Z,by show (0:Int)<8;decide,_,_,Z,Z,?_⟩⟩;have O:=cK l (show (8:Int)≠0 by lia);have N:=cw l (show (0:Int)<8 by lia);refine⟨_,Z,s,ns,0,Z,j.mono k,e,h,λM T m J G=>⟨M,Z,J,?_⟩⟩;have d:=k.trans m;exact zhx ⟨j.mono d,e,h,Paired.mapP o λ_ _ z=>z.same d,I,y,(),()⟩ (d _ _ C) (E.same d) (λp=>zgp A p) (by rw[G]) q
end
theorem zaW:∀a:gV,a.deep=0->ZA a<=a.cnt
 |.nil,_=>by rw[ZA];exact bS _
 |.cons r rs,h=>by
  rw[gV.deep] at h;have i:=zaW rs ();rw[ZA,gV.cnt];have:szR r<=r.cnt:=by
   cases r with
   |iff e a b=>rw[Rw.deep] at h;lia
   |_=>simp[szR,Rw.cnt]
  lia
theorem zjb:∀c:List Rw,(gV.of c).deep<=1->ZA (gV.of c)<=(c.map szX).sum
 |[],_=>by show ZA .nil<=_;rw[ZA];exact bS _
 |r::c,h=>by
  have h:(gV.cons r (gV.of c)).deep<=1:=h;rw[gV.deep] at h;have i:=zjb c ();show ZA (.cons r (gV.of c))<=_;rw[ZA,bh,bZ];have:szR r<=szX r:=by
   cases r with
   |iff e a b =>
    rw[Rw.deep] at h;have f:=zaW a ();have d:=zaW b ();rw[szR];show _<=a.cnt+b.cnt+3;lia
   |_=>simp[szR,szX]
  lia
theorem zka(h:zii rs):Vu 6 (gV.of rs)/\(yd (gV.of rs) 0).length<=11/\zb2 (yd (gV.of rs) 0):=by
 have z:=XY (gV.of rs) 0;have s:=zjb rs h.dp;have:(rs.map szX).sum<=11:=h.sz;have:=h.dp;have R:Vu 6 (gV.of rs):=⟨(),(),h.pl⟩;exact⟨R,(),zkz R h.ok ()⟩
theorem zkI(a:List Int):∃b:List Int,kq (a.map V.int) (U (3:Int)) (U (7:Int))=b.map V.int/\b.length<=4:=by
 have d:HT.sIx a.length 0 (U (3:Int))=min 3 a.length:=HT.sIx_nat ..;have c:HT.sIx a.length a.length (U (7:Int))=min 7 a.length:=HT.sIx_nat ..;refine⟨(a.drop (min 3 a.length)).take (min 7 a.length-min 3 a.length),?_,?_⟩
 .unfold kq;rw[bd,d,c,nS,lM]
 .rw[cg,cW];lia
section
variable {a b tl s:L}{CC:List (List Cs)}{ns:List Int}{us ws:List Str}{tab:List aO}
theorem zhz{o4 o5 o6 o7 o8 o9 aa:Option V}(hS:aT K H s (ns.map V.int))(hn:ns.length<=63)(hb:∀i∈ns,Cb i)(h1:tu H a us)(h2:us.length=2)(h3:tu H b ws)(h4:ws.length=2)(hT:tN H tl tab)(l5:tab.length<=5)(iw:∀r∈tab,tK r.2=ak)(q:∀g,Q (.bl ak) g) :
  zb8 K t (mt Q) [U (.ref s),U (.ref a),U (.ref b),U (.ref tl),o4,o5,o6,o7,o8,o9,aa] H:=by
 obtain⟨J,em,lm⟩:=zkI ns;refine⟨_,Z,3,Z,7,Z,s,_,Z,hS,λp hp=>?_⟩;rw[em];generalize c_:upd H p _=H1;obtain⟨s1,M⟩:=yQ c_ hp;refine⟨p,Z,⟨_,aT.of M⟩,λBq hD=>?_⟩;have s2:=tM (o:=HO.lst []) Bq hD;refine⟨λi m h τ g=>m=J.length-i/\i<=J.length/\(∃o,τ=[o,U (.ref a),U (.ref b)])/\aL H1 g/\g Bq=U (.lst h)/\∃CC:List (List Cs),Paired (λv C=>ug g v C/\v≠.ref Bq) h CC/\CC.length=i/\∀C∈CC,zb2 C/\C.length<=11,⟨_,Z,bS _,⟨_,Z⟩,s2,zj,[],.nil,Z,λ_ z=>nomatch z⟩,?_⟩;rintro i m h τ H2 ⟨rfl,hi,⟨o,rfl⟩,j,f,CC,d,lc,ok⟩;refine⟨f,?_⟩;have ly:=bE d;rcases iY i J.length with c|c
 .refine .inr ⟨⟨_,_,aT.of (j _ _ M),bb (by rw[bd];exact c)⟩,ca (show h.length<=5 by lia) (by rw[bL];decide),λv u g=>g Bq=U (.lst h)/\aL H2 g/\(∃o,u=[o,U (.ref a),U (.ref b)])/\∃C,ug g v C/\v≠.ref Bq/\zb2 C/\C.length<=11,?_,λ_ _=>False,λ_ _ z=>z.elim,?_⟩
  .rintro v u I ⟨N,s3,z2,C,cv,nv,z3⟩;have ts:TSm I (upd I Bq (.lst (h++[v]))):=qH N λ_ z=>nomatch z
   have kc:∀ {v C},ug I v C->v≠.ref Bq->ug (upd I Bq (.lst (h++[v]))) v C/\v≠.ref Bq:=λ{v C} ⟨c,w,e,G,d⟩ n=>⟨⟨c,w,e,by rw[zm (λy=>n (by rw[e,y]))];exact G,xC (qH N λ_ z=>nomatch z) d⟩,n⟩;refine⟨N,J.length-(i+1),(),Z,c,z2,xU (j.trans s3) hD,zj,CC++[C],Paired.snocP (Paired.mapP d λv C ⟨z,n⟩=>?_) ?_,by rw[bx,lc];rfl,λC' z=>?_⟩
   .obtain⟨c,w,e,G,d⟩:=z.same s3;exact⟨⟨c,w,e,by rw[zm (λy=>n (by rw[e,y]))];exact G,xC ts d⟩,n⟩
   .obtain⟨c,w,e,G,d⟩:=cv;exact⟨⟨c,w,e,by rw[zm (λy=>nv (by rw[e,y]))];exact G,xC ts d⟩,nv⟩
   .rcases bu.mp z with z|z
    .exact ok C' z
    .rw[bn.mp z];exact z3
  .rintro x I ⟨rfl,k⟩;have k:=k _ (aT.of (j _ _ M));rw[bt] at k;obtain⟨n,_,rfl⟩:=bY.mp k;have S:=s1.trans j;refine ym (R:=False) Z ⟨_,Z,_,Z,_,Z,n,a,b,us,ws,Z,h1.same S,h2,h3.same S,h4,λl rs H4 T rl rx=>?_⟩;obtain⟨R,A,O⟩:=zka rx;refine⟨.ref l,gV.of rs,Z,rl.any,R,bM A (),λl2 xs H5 s5 E k px=>?_⟩;exact⟨(T.trans s5) _ _ f,T.trans s5,⟨_,Z⟩,_,⟨l2,xs,Z,k,px⟩,(λz=>by cases z;rw[T _ _ f] at E;cases E),O,A⟩
 .refine .inl ⟨⟨_,aT.of (j _ _ M),by rw[bd];exact c⟩,?_⟩;have S:=s1.trans j;exact zhy (hS.mono S) hn hb f (Paired.mapP d λ_ _ z=>z.1) ⟨ok,()⟩ (hT.same S) l5 iw q
theorem ziK{k:List V}{_E:XK}(h:sp_law K k H Q _E) :
  zgM K t (mt Q) (zZZ 11 k) H:=by
 obtain⟨s,ns,rfl,f,d,e,q⟩:=h;refine⟨_,Z,s,ns,1,Z,f,d,e,λE H1 u _ _=>⟨E,Z,λa us H2 p _ l m=>?_⟩⟩;have o:=u.trans p;refine⟨_,Z,s,ns,2,Z,f.mono o,d,e,λC T j _ _=>⟨C,Z,λb ws O i _ w x=>?_⟩⟩;have n:=o.trans (j.trans i);refine⟨_,Z,s,ns,1,Z,f.mono n,d,e,λJ N c _ _=>⟨_,_,Z,Z,dB,_,Z,_,a,us,Z,l.same (j.trans (i.trans c)),m,λtl tab M g _ A I v y=>?_⟩⟩;have G:=n.trans (c.trans g);exact zhz (f.mono G) d e (l.same (j.trans (i.trans (c.trans g)))) m (w.same (c.trans g)) x A y (λr z=>(v r z).2.1) q
end
section
variable {x:L}{a:RAd}{C:List Cs}{s:bv}{E:XK}{σ:St}
theorem Z3{k:Int}(R:dl t H x a C s)(c:xn s.sl)(g:σ[0]?=U (U (.ref x)))(f:σ[1]?=U (U (.ref p)))(j:H p=U (.tup xs))(h:uq xs k=U (.ref te))(i:H te=U (.tup e))(d:aY e)(q:∀b,aL H b->fin t (rk s.sl e) Q E b) :
  zI t.q01 "worth_of" (yq t) [] E (B 0) (zd (aN (yR K) (B 1) (tC (.int k))) zk) σ H Q:=
 ⟨_,g,x,_,_,Z,R.ix,Z,Ym f j h ⟨x,te,e,a,C,s,Z,R,c,i,d,q⟩⟩
theorem zcs(R:dl t H x a C s)(d:xn s.sl)(m:σ[0]?=U (U (.ref x)))(l:σ[1]?=U (U (.ref p)))(o:H p=U (.tup xs))(k:uq xs 1=U (.str sh))(j:uq xs 2=U (.ref te))(n:H te=U (.tup e))(h:aY e)(g:∀i q b,rk s.sl e=.ok i->aL H b->b q=U (.tup [.str sh,.int i])->Q (.ref q) b)(f:∀c b,rk s.sl e=.error c->aL H b->zgJ t c E b) :
  zI t.q01 "place_in" (yO t) [] E (B 0) (zd (B 1) zk) σ H Q:=
 ⟨_,m,x,_,_,Z,R.ix,Z,_,l,x,p,xs,sh,te,e,a,C,s,Z,R,d,o,k,j,n,h,g,f⟩
theorem zaX{vs:List V}(F:RnF K t)(h:jV t vs H Q E) :
  Vd K t E (mt Q) (zZZ 4 vs) H:=by
 obtain⟨x,v,r,w,m,a,C,s,rfl,R,u,h2,l,M,h5,O,I⟩:=h;have l1:=M.l1;have l2:=M.l2;have l4:=M.l4;have G:=M.so;cases r with
 |take sh e sl' =>
  unfold hZ at u;unfold Zl at l;obtain⟨r,T,rfl,_,_,g,A⟩:=u;refine qt Z g Z (λ_=>?_) λz=>absurd Z z;refine⟨_,Z,x,_,_,Z,R.ix,Z,zcs R G Z Z g Z Z A l (λi q p j c hq=>?_) λo p j c=>I p o (by unfold t8;simp only[j]) c⟩;have y:=R.same c;refine⟨_,Z,x,q,(sh,i),w,a,C,s,Z,y,hq,by have:=M.l3;lia,λH2 K2 R2=>?_⟩;have J:=R2.hs;rw[zgP] at J;exact Zq Z R2.ix F.cl F.n4 Z (Ym Z (K2 _ _ (y.notup (c _ _ g)) (c _ _ g)) Z ⟨_,_,Z,DPut.k (k:=.inr sl') J (ca (by lia:_<=900) ()),O _ _ (by unfold t8;simp only[j]) ((Kp.of_same c).trans (K2.trans (vi (.inr (.inl Z))))) (R2.putS _)⟩)
 |give sh e f =>
  unfold hZ at u;unfold Zl at l;obtain⟨r,T,tf,rfl,_,_,_,g,A,e4⟩:=u;refine qt Z g Z (λz=>absurd z ()) λ_=>qt Z g Z (λ_=>?_) λz=>absurd Z z;refine zcs R G Z Z g Z Z A l.1 (λi q p j c hq=>?_) λo p j c=>I p o (by unfold t8;simp only[j]) c;have y:=R.same c;refine Z3 y G Z Z (c _ _ g) Z (c _ _ e4) l.2 λH3 N=>?_;cases hk2:rk s.sl f with
  |error o=>exact ui.mpr (I H3 o (by unfold t8;simp only[j,hk2]) (c.trans N))
  |ok n =>
   have R3:=y.same N;have ld:=vo s.gi;refine fin_ok.mpr (Zq Z R3.ix F.cl F.n5 Z ⟨_,Z,_,_,Z,DPut.t (k:=zB (sh,i)) R3.hg (N _ _ hq) (ca (by lia:_<=900) ()),?_⟩);rw[show yS (tF s.gi) (zB (sh,i)) (V.int n)=tF (s.gi++[((sh,i),n)]) from (Zk s.gi ((sh,i),n)).symm];exact O _ _ (by unfold t8;simp only[j,hk2]) ((Kp.of_same (c.trans N)).trans (vi (.inr (.inr (.inl Z))))) (R3.putG _)
 |lt sl' e =>
  unfold hZ at u;unfold Zl at l;obtain⟨r,T,rfl,_,_,g,A⟩:=u;refine qt Z g Z (λz=>absurd z ()) λ_=>qt Z g Z (λz=>absurd z ()) λ_=>qt Z g Z (λ_=>?_) λz=>absurd Z z;refine Z3 R G Z Z g Z A l λp c=>?_;cases j:rk s.sl e with
  |error o=>exact ui.mpr (I p o (by unfold t8;simp only[j]) c)
  |ok n =>
   have R2:=R.same c;exact fin_ok.mpr (Zq Z R2.ix F.cl F.n4 Z (Ym Z (c _ _ g) Z ⟨_,_,Z,DPut.k (k:=.inr sl') R2.hs (ca (by lia:_<=900) ()),O _ _ (by unfold t8;simp only[j]) ((Kp.of_same c).trans (vi (.inr (.inl Z)))) (R2.putS _)⟩))
 |say e =>
  unfold hZ at u;unfold Zl at l;obtain⟨r,T,rfl,_,_,g,A⟩:=u;refine qt Z g Z (λz=>absurd z ()) λ_=>qt Z g Z (λz=>absurd z ()) λ_=>qt Z g Z (λz=>absurd z ()) λ_=>?_;unfold YG yn tBM;refine Zq Z R.ix F.cl F.n7 Z ⟨.inl ⟨Z,_,aT.of R.ha⟩,?_⟩;refine Z3 R G Z Z g Z A l λp c=>?_;cases j:rk s.sl e with
  |error o=>exact ui.mpr (I p o (by unfold t8;simp only[j]) c)
  |ok n =>
   have y:=R.same c;refine fin_ok.mpr ⟨_,_,_,Z,Z,y.ha,ca (by rw[bd];lia:_<=900) (),?_⟩;rw[show oW V.int s.sa++[V.int n]=oW V.int (s.sa++[n]) by simp];exact O _ _ (by unfold t8;simp only[j]) ((Kp.of_same c).trans (vi (.inr (.inr (.inr (.inr Z)))))) (y.putA _)
 |off e=>exact h2.elim
 |iff e b d=>exact h2.elim
theorem Kg{M:List V}(F:RnF K t)(h:vp t M H Q E) :
  YH K t E (mt Q) (zZZ 3 M) H:=by
 obtain⟨x,v,c,w,m,a,C,s,rfl,R,g,y,O,h4,l,G⟩:=h;have N:=O.so;have u:∀ {v' H1 d},dl t H1 x a C d->(∀k:Nat,k=d.n+1->Q (.int (k:Nat)) H1)->zJ (aN aE (zU K (B 0) "at") (tC (.int 1))) (mt Q) (zZZ 3 [.ref x,v',.int w]) H1:=λA q=>by
  unfold zJ aN;exact Zq Z A.ix F.cl F.n2 Z ⟨_,_,Z,Z,q _ Z⟩
 cases c with
 |go J =>
  obtain⟨p,rfl,b⟩:=g;refine qt Z b Z (λ_=>?_) λz=>absurd Z z;exact Ym Z b Z (l H s J Z (.of_same λ_ _ z=>z) R)
 |skip e to =>
  obtain⟨p,te,rfl,b,j⟩:=g;refine qt Z b Z (λz=>absurd z ()) λ_=>qt Z b Z (λ_=>?_) λz=>absurd Z z;refine Z3 R N Z Z b Z j y λH1 d=>?_;cases hk:rk s.sl e with
  |error o=>exact ui.mpr (G H1 o (by unfold v9;simp only[hk]) d)
  |ok n =>
   have R2:=R.same d;refine fin_ok.mpr ⟨Z,_,Z,zkw (λi=>?_) λi=>?_⟩
   .exact Ym Z (d _ _ b) Z (l H1 s to (by unfold v9;simp only[hk,au i]) (.of_same d) R2)
   .exact u R2 λk f=>l H1 s k (by unfold v9;simp only[hk,ao i,f]) (.of_same d) R2
 |row r =>
  obtain⟨g,I⟩:=g;rcases zil r I with ⟨e,rfl⟩|hdo
  .unfold hZ at g;unfold zaJ Zl at y;obtain⟨r,te,rfl,_,_,b,j⟩:=g;refine qt Z b Z (λz=>absurd z ()) λ_=>qt Z b Z (λz=>absurd z ()) λ_=>qt Z b Z (λ_=>?_) λz=>absurd Z z;refine Z3 R N Z Z b Z j y λH1 d=>?_;cases hk:rk s.sl e with
   |error o=>exact ui.mpr (G H1 o (by unfold v9;simp only[hk]) d)
   |ok n =>
    have R2:=R.same d;refine fin_ok.mpr ⟨Z,_,Z,zkv (λi=>?_) λi=>?_⟩
    .have R3:=R2.putI { s with why:=U (bf "told") } rfl rfl rfl rfl;refine⟨_,Z,_,_,_,_,Z,R2.ix,F.cl,F.n3,(by show (7:Nat)<1000;decide),?_⟩;exact u R3 λk f=>l _ { s with why:=U (bf "told") } k (by unfold v9;simp only[hk,ao i,f]) ((Kp.of_same d).trans (vi (.inl Z))) R3
    .exact u R2 λk f=>l H1 s k (by unfold v9;simp only[hk,au i,f]) (.of_same d) R2
  .obtain⟨p,zs,hd,rfl,b,j,n1,n2,n3⟩:=zim g hdo;have T:=zca (w:=w) (s:=s) hdo;refine qt Z b j (λz=>absurd z n1) λ_=>qt Z b j (λz=>absurd z n2) λ_=>qt Z b j (λz=>absurd z n3) λ_=>?_;refine⟨_,Z,x,_,_,Z,R.ix,Z,_,Z,_,Z,x,_,r,w,m,a,C,s,Z,R,g,hdo,y,O,h4,λH1 s' e K1 A=>?_,λH1 o e d=>G H1 o (by rw[T,e]) d⟩;have J:=zky hdo e;exact u A λk f=>l H1 s' k (by rw[T,e,f,J]) K1 A
end
section
variable {x:L}{a:RAd}{C:List Cs}{s:bv}{E:XK}
theorem zaY{A:List V}{_E:XK}{P:Str->Option af}(T:Txt K P t)(h:jW t A H Q _E) :
  Vc K t (mt Q) (zZZ 2 A) H:=by
 obtain⟨x,a,C,s,rfl,R,h2,h3,f,n⟩:=h;have F:=rnF T;refine⟨_,Z,x,_,_,Z,R.ix,Z,x,a,C,s,Z,R,λH1 d=>⟨_,Z,?_⟩⟩;show if _ then _ else _
 have c:=R.same d;by_cases ho:yI C s=ak
 .rw[au ho];show if _ then _ else _
  rw[au rfl];exact f H1 (by unfold jT;rw[au ho]) d
 rw[ao ho];obtain⟨m,M,I⟩:=c.hc;have lx:=bE I;have J:=XT ho;have O:C[s.n]?=U C[s.n]:=bb J;have r:m[s.n]?=U m[s.n]:=bb ();have cv:=yN I r O;have o:=h2 _ (dM J);have es:jT C s=kW C[s.n] s:=by unfold jT;rw[ao ho,O];rfl
 rw[es] at f n;obtain⟨p,y,hd,ev,N,h0,u,w⟩:=zjJ cv;unfold zG aN;refine Zq Z c.ix F.cl F.n1 Z (Zq Z c.ix F.cl F.n2 Z ⟨_,m,_,_,Z,Z,aT.of M,xa r,p,y,0,_,ev,Z,tI.of N,h0,Z,_,Z,?_⟩);show if _ then _ else _
 by_cases hh:hd=bf "take"
 case neg =>
  rw[au (by rw[Bk (λz=>hh (V.str.inj z))];rfl)];exact f H1 (w hh s) d
 rw[ao (by rw[hh];decide)];obtain⟨b,e,sl,te,ec,a1,a2,u⟩:=u hh;rw[ec] at f n o;unfold zaJ Zl at o;refine⟨_,Z,x,_,_,Z,c.ix,Z,?_⟩;unfold zd aN;refine Zq Z c.ix F.cl F.n1 Z (Zq Z c.ix F.cl F.n2 Z ⟨_,m,_,_,Z,Z,aT.of M,xa r,?_⟩);refine⟨x,p,y,b,te,e,a,C,s,by rw[ev];rfl,c,h3,N,a1,a2,u,o,λi q g l k v=>?_,λer g l k=>?_⟩
 case refine_2 =>
  have G:=f g (by unfold kW;simp only[l]) (d.trans k);cases er with
  |nought=>exact⟨t.q08,Z,T.m_Nought_Great_Nought,G⟩
  |great=>exact⟨t.q0a,Z,T.m_Great_Great_Nought,G⟩
  |stuck=>trivial
 have R2:=c.same k;have g1:tP g a.gi (.ref q) ((zC s.gi (b,i)).map V.int):=.inr ⟨tF s.gi,zB (b,i),q,.inl R2.hg,Z,v,(wK _ _).symm⟩;have g2:tP g a.no (.ref q) ((zC s.no (b,i)).map V.int):=.inr ⟨tF s.no,zB (b,i),q,.inl R2.hn,Z,v,(wK _ _).symm⟩;refine⟨_,Z,?_⟩;refine Zq Z R2.ix F.cl F.n5 Z ⟨_,_,Z,g1,_,Z,?_⟩;show if _ then _ else _
 cases hg:zC s.gi (b,i) with
 |some j =>
  rw[au (by rfl)];show if _ then _ else _
  rw[au rfl];exact f g (by unfold kW;simp only[l,hg];rfl) (d.trans k)
 |none =>
  rw[ao ()];refine⟨_,Z,?_⟩;refine Zq Z R2.ix F.cl F.n6 Z ⟨_,_,Z,g2,_,Z,?_⟩;show if _ then _ else _
  cases hn:zC s.no (b,i) with
  |some j =>
   rw[au (by rfl)];exact f g (by unfold kW;simp only[l,hg,hn];rfl) (d.trans k)
  |none =>
   rw[ao ()];refine⟨_,Z,?_⟩;exact n (b,i) q g (by unfold kW;simp only[l,hg,hn];rfl) (d.trans k) v
end
theorem Kh{l:List V}{_E:XK}(h:yJ l H Q _E) :
  YE K t (mt Q) (zZZ 5 l) H:=by
 obtain⟨a,d,i,rfl,y,w,q⟩:=h;refine⟨_,Z,.ref a,d.length,Z,.inl ⟨_,aT.of y,(bd ..).symm⟩,mbW a i d H,⟨_,0,d.length,am,Z,aL.refl H,bS _,bo _,Z,by simp,by simp⟩,?_⟩;rintro m A k ⟨b,hi,o,rfl,s,G,v,rfl,u,p⟩;refine⟨_,Z,_,Z,_,_,Z,Z,_,Z,?_⟩;by_cases hl:b<hi
 .refine ym (Bj ()) ⟨λe k=>∃n,n<hi-b/\mbW a i d H n e k,λ_ _ z=>z,_,Z,_,Z,_,_,Z,Z,_,_,Z,Z,dB,?_⟩;obtain⟨md,g⟩:∃md:Nat,((b:Int)+hi)/2=md:=⟨(b+hi)/2,()⟩;dsimp only;rw[g];have E:b<=md:=by lia
  have C:md<hi:=by lia
  obtain⟨x,f⟩:∃x,d[md]?=U x:=⟨_,bb ()⟩;refine⟨_,Z,_,Z,a,_,md,_,Z,Z,aT.of (s _ _ y),xa (j:=md) (by rw[bt,f];rfl),_,Z,_,_,Z,Z,_,Z,?_⟩;by_cases hr:x<i
  .exact ym (Bj hr) ⟨_,Z,_,_,Z,Z,_,(by lia:hi-(md+1)<hi-b),md+1,hi,_,Z,s,(),v,Z,λr c=>Int.lt_of_le_of_lt (zeb w f r c) hr,p⟩
  .exact ya (Bk hr) ⟨_,Z,_,(by lia:md-b<hi-b),b,md,_,Z,s,(),(),Z,u,λr c=>oQ () (zit w f r c)⟩
 .refine ya (Bk ()) ⟨_,Z,?_⟩;obtain rfl:b=hi:=by lia
  exact q b k s v u p
theorem zaZ{g:List V}{_E:XK}{P:Str->Option af}(T:Txt K P t)(h:wI t g H Q _E) :
  Ve K t (mt Q) (zZZ 2 g) H:=by
 obtain⟨x,w,m,a,C,s,rfl,R,G,E,A,q⟩:=h;have F:=rnF T;refine⟨_,Z,x,_,_,Z,R.ix,Z,x,a,C,s,Z,R,λO c=>⟨_,Z,?_⟩⟩;have b:=R.same c;by_cases ho:yI C s=ak
 .exact ym ho (q O (.of_same c) (by unfold xD;rw[au ho];exact b))
 refine ya (sk _ ▸ ho) ?_;obtain⟨d,y,l⟩:=b.hc;have lx:=bE l;have o:=XT ho;have r:C[s.n]?=U C[s.n]:=bb o;have p:d[s.n]?=U d[s.n]:=bb ();have J:=yN l p r;have I:∀w,xD C w s=xE C[s.n] w s:=λw=>by unfold xD;rw[ao ho,r]
 rw[I] at q;refine⟨_,Z,x,_,_,Z,b.ix,Z,zZ b.ix F.cl F.n1 Z Z (zZ b.ix F.cl F.n2 Z Z ⟨a.co,d,_,_,Z,Z,aT.of y,xa p,_,Z,x,_,C[s.n],w,m,a,C,s,Z,b,J,G _ (dM o),E,A,λN v k e M R2=>⟨_,Z,x,_,_,_,Z,R2.ix,F.cl,F.n2,(by show (7:Nat)<1000;decide),?_⟩,λN u e i=>?_⟩)⟩
 .have z:=R2.putI { v with n:=k } rfl rfl rfl rfl;exact q _ ((Kp.of_same c).trans (M.trans (vi (.inl Z)))) (by unfold xE;rw[e];exact z)
 .have f:=b.same i;have z:=f.putI { s with why:=U (zbM u) } rfl rfl rfl rfl;have j:=q _ ((Kp.of_same c).trans ((Kp.of_same i).trans (vi (.inl Z)))) (by unfold xE;rw[e];exact z);cases u with
  |nought=>exact⟨t.q08,Z,.inr ⟨T.q30,T.q31,_,Z,x,_,_,_,Z,f.ix,F.cl,F.n3,(by show (7:Nat)<1000;decide),j⟩⟩
  |great=>exact⟨t.q0a,Z,.inl ⟨T.q33,_,Z,x,_,_,_,Z,f.ix,F.cl,F.n3,(by show (7:Nat)<1000;decide),j⟩⟩
  |stuck=>trivial
theorem zfm{m p:L}{ac E:Int}{F:L->Prop}{g:List aO}{c:List (Int×List aO)}{f:Pl}(N:MkF K t)(n:tV t H m F g c E)(h2:E<=ac)(h3:H p=U (.tup [.str f.1,.int f.2]))(q:∀H',aL H H'->Q (.int (ye g c f ac)) H') :
  kC K t (mt Q) (zZZ 5 [.ref m,.ref p,.int ac]) H:=by
 obtain⟨dx,gr,wo,rk,wk,kk,M⟩:=n.ex;refine⟨_,Z,m,_,_,Z,M.im,vb (),_,Z,m,_,_,_,_,Z,M.im,zjQ,h2,λH1 s1=>?_⟩;have M1:=M.keep n.me λb o _ e=>s1 _ _ e;refine(zZ M1.im N.cl N.r Z zgW ⟨rk,Z,.inr ⟨_,.inl M1.rr.at_⟩,_,Z,(),λl hl=>?_⟩);generalize c_:upd H1 l _=H2;obtain⟨s2,q2⟩:=yQ c_ hl;have S2:=s1.trans s2;have M2:=M1.keep n.me λb o _ e=>s2 _ _ e;have A:H2 p=U (.tup ((zB f).map kV)):=S2 _ _ h3;refine⟨_,.t M2.rr.at_ A,?_⟩;have gd:∀ {u:D} {σ:St},σ[0]?=U (U (.ref m))->σ[1]?=U (U (.ref p))->MrIn t u m F g c E dx gr wo rk wk kk->u p=U (.tup ((zB f).map kV))->aL H u->(∀r,vT c f r->¬ r<ac)->Zg (zU K (B 0) "ground") (B 1) (tC (.int 0)) σ u Q:=λ{u σ} e0 s C aj S3 G=>by
  refine(zZ C.im N.cl N.g e0 zkC ⟨gr,Z,.inr ⟨_,.inl C.hg⟩,_,s,_,.t C.hg aj,?_⟩);have ev:ye g c f ac=(zC g f).getD 0:=by
   unfold ye;rcases x9 f ac c (-1,(zC g f).getD 0) with ⟨s,_⟩|⟨y,hy,w,s,J,_⟩
   .rw[s]
   .exact absurd J (G y.1 ⟨y.2,hy,(xz (n.ok y hy).2.nd).mpr (by rw[s];exact λz=>nomatch z)⟩)
  have J:(yj (tF g) (zB f)).getD (V.int 0)=V.int ((zC g f).getD 0):=by
   rw[wK];cases zC g f <;> rfl
  rw[J,<-ev];exact q u S3
 rcases M2.rr.get f with ⟨a,rs,hk,hv,fa,ha,hs,hne,hi⟩|⟨hv,hk,G⟩
 .rw[hv];refine⟨_,Z,_,Z,a,rs,_,Z,ha,hs,λk u v T al ae=>⟨_,Z,Z,_,Z,?_⟩⟩;have S3:=S2.trans v;have C:=M2.keep n.me λb o _ e=>v _ _ e;by_cases h0:k=0
  .subst h0;exact ym Z (gd Z Z C (v _ _ A) S3 λr hr ap=>by
    have:=ae r (by rw[gh];exact(hi r).mpr hr);lia)
  .refine ya (Bk λz=>h0 (by injection z with z;lia)) ?_;obtain⟨x,hx⟩:∃x,rs[k-1]?=U x:=⟨_,bb ()⟩;have ek:(k:Int)-1=((k-1:Nat):Int):=by lia
   obtain⟨gs,h,ai⟩:=(hi x).mp (bJ hx);obtain⟨d,v1,fd,nd,hd⟩:=JR C.wp n.nd h;have ag:=(n.ok _ h).2;obtain⟨w,O⟩:∃w,zC gs f=U w:=by
    cases e:zC gs f with
    |none=>exact absurd e ((xz ag.nd).mp ai)
    |some w=>exact⟨w,Z⟩
   have vd:yj (tF gs) (zB f)=U (.int w):=by rw[wK,O];rfl
   refine(zZ C.im N.cl N.w Z zdm ⟨_,Z,_,Z,_,_,Z,Z,a,_,((k-1:Nat):Int),_,Z,congrArg V.int ek,aT.of (v _ _ ha),xa (j:=k-1) (by rw[bt,hx];rfl),wo,.ref d,Z,(show tP u wo (kV (.inl x)) (U (.ref d)) by rw[<-v1];exact .k C.hw),_,Z,d,V.int w,Z,by rw[<-vd];exact .t hd (v _ _ A),?_⟩);have xr:x<ac:=al x (List.mem_iff_getElem?.mpr ⟨k-1,by rw[eu,au ()];exact hx⟩);have x0:0<=x:=(n.ok _ h).1;have ev:ye g c f ac=w:=by
    unfold ye;rcases x9 f ac c (-1,(zC g f).getD 0) with ⟨s,J⟩|⟨y,hy,w',s,J,e3,e4,e5⟩
    .have:=J _ h (by show (-1:Int)<x;lia) xr;rw[this] at O;cases O
    .rw[e4];have yx:x<=y.1:=e5 _ h xr (by rw[O];exact λz=>nomatch z);have yr:y.1∈rs:=(hi y.1).mpr ⟨y.2,hy,(xz (n.ok y hy).2.nd).mpr (by rw[s];exact λz=>nomatch z)⟩;have xy:y.1<=x:=by
      have:y.1∈rs.take k\/y.1∈rs.drop k:=bu.mp (by rw[da];exact yr);rcases this with z|z
      .have an:k=k-1+1:=by lia
       rw[an] at z;exact zeb hs hx _ z
      .have:=ae _ z;lia
     have ey:y.1=x:=by lia
     have e6:y=(x,gs):=by
      have n1:=n.nd;obtain⟨i,I⟩:=cV hy;obtain⟨j,aa⟩:=cV h;have a1:(c.map (·.1))[i]?=U x:=by rw[bt,I,<-ey];rfl
      have a2:(c.map (·.1))[j]?=U x:=by rw[bt,aa];rfl
      have ij:=(gM (bq.mp a1).1 n1).mp (a1.trans a2.symm);rw[ij,aa] at I;exact(bH I).symm
     rw[e6] at s;rw[O] at s;exact(bH s).symm
   rw[<-ev];exact q u S3
 .rw[hv];refine⟨_,Z,_,Z,l,[],_,Z,q2,fP,λk u v T _ _=>⟨_,Z,Z,_,Z,?_⟩⟩;obtain rfl:k=0:=Nat.le_zero.mp T;exact ym Z (gd Z Z (M2.keep n.me λb o _ e=>v _ _ e) (v _ _ A) (S2.trans v) λr hr=>absurd hr (G r))
theorem za0{vs:List V}{_E:XK}(h:vI vs H Q _E) :
  Vf K t (mt Q) (zZZ 4 vs) H:=by
 obtain⟨rk,pl,ac,G,P,l,j,rfl,n,T,gn,hp,O,kl,M,q⟩:=h;refine⟨_,Z,rk,Z,.inr ⟨_,.inl n.at_⟩,_,Z,(),λz J=>?_⟩;generalize c_:upd H z _=H2;obtain⟨y,q2⟩:=yQ c_ J;have c:=n.keep (F':=G) T (λb o _ e=>y _ _ e) (λ_ z=>z);have m:hV G rk H H2:=hV.refl.same y;have x:Dm H H2:=Dm.of_same y;have gz:G z:=gn z J;refine⟨l,zB j,pl,c.at_,Z,y _ _ hp,by rw[bL];lia,λv g=>?_,λg=>?_⟩
 .rcases c.get j with ⟨a,rs,C,hv2,fa,ha,hs,hne,hi⟩|⟨hv2,_,_⟩
  .rw[hv2] at g;cases g;have rl:=M rs hs λr n=>(hi r).mp n;refine⟨_,Z,.inl ⟨Z,_,aT.of ha⟩,_,Z,_,Z,a,rs,ac,Z,ha,hs,λk H3 d i s u=>⟨_,Z,a,_,k,_,Z,Z,d _ _ ha,by rw[bd];exact i,by rw[bd];lia,?_⟩⟩;rw[<-nS,<-lM,<-bh (f:=V.int),<-bN];have N:=c.keep (F':=G) T (λb o _ e=>d _ _ e) (λ_ z=>z);exact q _ l ((m.same d).lst (d _ _ ha) fa) ((x.trans (Dm.of_same d)).trans (Dm.upd λ_ z=>nomatch z)) (N.in1 C (d _ _ ha) hs hi s u O λp r=>sY)
  .rw[hv2] at g;cases g
 .have zr:z≠rk:=zL q2 c.at_ ();rw[jo _ g];have A:upd H2 rk (HO.dT (l++[(zB j,V.ref z)])) z=U (.lst (([]:List Int).map V.int)):=by rw[zm zr];exact q2
  have hf:∀I∈l,I.2≠.ref z:=λI C e=>by
   obtain⟨p',a',aa,rfl,_,w,_⟩:=n.ls I C;cases e;rw[J] at w;cases w
  rcases c.get j with ⟨a,rs,C,hv2,_⟩|⟨_,hkn,hn⟩
  .rw[hv2] at g;cases g
  refine⟨_,Z,.inl ⟨Z,_,aT.of A⟩,_,Z,_,Z,z,[],ac,Z,A,fP,λk H3 d i s u=>?_⟩;have k0:k=0:=Nat.le_zero.mp i;subst k0;have d3:Dm H (upd H2 rk (HO.dT (l++[(zB j,V.ref z)]))):=x.trans (Dm.upd λ_ z=>nomatch z);refine⟨_,Z,z,[],0,_,Z,Z,d _ _ A,bo _,(),q _ (l++[(zB j,V.ref z)]) (((m.dct _).same d).lst (d _ _ A) gz) ((d3.trans (Dm.of_same d)).trans (Dm.upd λ_ z=>nomatch z)) ?_⟩;refine(c.in2 (a:=z) (ac:=ac) hkn hn gz hf zr λp r=>sY).keep T (λb o fb E=>?_) (λ_ z=>z);show upd H3 z (HO.lst [V.int ac]) b=U o;by_cases hb:b=z
  .subst hb;rw[zj] at E ⊢;exact E
  .rw[zm hb] at E ⊢;exact d _ _ E
theorem za1{E:XK}{n:List (aW×V)}{C I:L}{o:List V}{r:Except Er Int}(hK:fS K (.type "int") (.type "str")=U aq)(hJ:∀H:D,tI K H t.q0t jw)(h1:H C=U (.tup o))(h2:H I=U (.dK n))(h3:Good n o r)(h4:∀v∈o,qo v)(h5:o.length<=1000)(h6:xn n) (q:∀H',aL H H'->fin t r Q E H'):Vb K t E (mt Q) (zZZ 6 [.ref C,.ref I]) H:=by
 refine⟨(),λw J=>⟨_,Z,C,Z,⟨_,tI.of ((tM w J) _ _ h1)⟩,?_⟩⟩;have f:=h3.1 [];have fe:∀ {e:Er} {H':D},vf n o []=.error e->aL H H'->fin t (.error e) Q E H':=λ{e H'} z s=>by
  rw[z] at f;cases r with
  |ok i=>cases f
  |error e' =>
   cases f;exact q _ s
 have ns:vf n o []≠.error .stuck:=λz=>by
  rw[z] at f;cases r with
  |ok i=>cases f
  |error e' =>
   cases f;exact h3.2 rfl
 refine zfO o (rkI n o C I w H) ⟨[],⟨_,_,_,Z⟩,Z,(λx z=>nomatch z),bo _,zj,tM w J⟩ (λi σ H' ⟨G,a,b,c,d,e,s⟩=>tI.of (s _ _ h1)) ?_ ?_
 .rintro i v σ H' hv ⟨G,⟨o3,o4,o5,rfl⟩,T,N,hl,m,M⟩;have hi:i<o.length:=(bq.mp hv).1;have A:=zhZ T hv;have ok:=h4 v (bJ hv);have fl:Xg v=ak:=by rcases ok with ⟨j,rfl,_⟩|⟨x,rfl,_⟩ <;> rfl
  have O:∀ {l:List Int} {d:Int} {H2:D} {o4 o5:Option V},vf n (o.take (i+1)) []=.ok (l++[d])->(∀y∈l,tK y=ak)->tK d=ak->l.length<=i->H2 w=U (.lst (l.map V.int))->aL H H2->(∃k xs y,V.ref w=.ref k/\[V.int d]=[y]/\H2 k=U (.lst xs)/\xs.length<Bb/\rkI n o C I w H (i+1) [U (V.ref C),U (V.ref I),U (V.ref w),U v,o4,o5] (upd H2 k (.lst (xs++[y])))):=λ{l d H2 o4 o5} g ag hd ll ae S2=>by
   refine⟨w,_,_,Z,Z,ae,?_,l++[d],⟨_,_,_,Z⟩,g,?_,?_,?_,xU S2 J⟩
   .rw[bd];exact ca (by lia:l.length<=1000) ()
   .intro y hy;rcases bu.mp hy with h|h
    .exact ag y h
    .rw[bn.mp h];exact hd
   .rw[bx];show l.length+1<=i+1;lia
   .rw[bN];exact zj
  refine⟨_,Z,t.q0t,jw,Z,.inr (hJ H'),fl,Z,_,Z,?_⟩;by_cases c:inV v jw=ak
  .refine ym c ?_;rcases zjI G with ⟨l,a,b,rfl⟩|z
   .obtain⟨x,rfl,hx⟩:∃x:Str,v=.str x/\x.length<=1000:=by
     rcases ok with ⟨j,rfl,_⟩|h
     .exact absurd c (by rw[show inV (V.int j) jw=aq from rfl];decide)
     .exact h
    have e1:oW V.int (l++[a,b])=(l.map V.int++[.int a])++[.int b]:=by simp
    rw[e1] at m;have g:=A.trans (zgO c);have ln:(l++[a,b]).length=l.length+2:=by simp
    refine⟨_,Z,.inl ⟨Z,_,aT.of m⟩,w,_,_,Z,Z,m,zb9,_,Z,.inl ⟨Z,_,aT.of zj⟩,w,_,_,Z,Z,by rw[Wv];exact zj,zb9,_,Z,.inl ⟨Z,_,aT.of zj⟩,_,Z,_,Z,_,Z,x,a,b,Z,hx,N a (by simp),N b (by simp),λH2 s2=>?_⟩;rw[Wv,Wv] at s2;have S2:aL H H2:=(xU (xU M J) J).trans s2;cases e:kM x a b with
    |ok d =>
     rw[e] at g;have hd:tK d=ak:=by
      unfold kM at e;split at e
      .cases e
      .split at e
       .rename_i z;cases e;exact z
       .cases e
     exact O g (λy hy=>N y (cI _ hy)) hd () (s2 _ _ zj) S2
    |error er =>
     rw[e] at g;have:=fe (zdQ g) S2;cases er with
     |nought=>exact this
     |great=>exact this
     |stuck=>trivial
   .exact absurd (zdQ (A.trans (z n v c))) ns
  .refine ya (sk _ ▸ c) ?_;have aa:wZ n G v=.ok (G++[zfV n v]):=by
    unfold wZ;rw[ao (by unfold isJ;exact c)]
   have p:=O (o4:=o4) (o5:=o5) (A.trans aa) N (zbx h6 ok) hl m M;refine⟨_,Z,.inl ⟨Z,_,aT.of m⟩,?_⟩;rcases ok with ⟨j,rfl,hj⟩|⟨x,rfl,hx⟩
   .exact vY Z (.int j) hK (ya Z ⟨_,Z,p⟩)
   .refine vY Z (.str x) (xT _) (ym Z ⟨_,Z,I,Z,.inl ⟨n,.inl (M _ _ h2)⟩,_,Z,_,tP.k (k:=.inr x) (M _ _ h2),?_⟩);have ev:(yj n (.inr x)).getD (V.int 0)=V.int (zfV n (.str x)):=by
     show _=V.int (match yj n (.inr x) with|some (.int i)=>i|_=>0);cases e:yj n (.inr x) with
     |none=>rfl
     |some u =>
      obtain⟨i,rfl,_⟩:=h6 _ _ e;rfl
    rw[ev];exact p
 .rintro σ H' ⟨G,⟨o3,o4,o5,rfl⟩,T,N,hl,m,M⟩;rw[cR] at T;rw[T] at f;cases r with
  |error e=>cases f
  |ok i =>
   have e:G=[i]:=by injection f
   subst e;exact⟨_,Z,.inl ⟨Z,_,aT.of m⟩,w,_,_,Z,Z,m,Z,q _ (xU M J)⟩
section
variable {x:L}{a:RAd}{C:List Cs}{s:bv}
theorem K0{vs:List V}{_E:XK}(F:RnF K t)(h:wM t vs H Q _E) :
  XM K t (mt Q) (zZZ 2 vs) H:=by
 obtain⟨x,a,C,s,rfl,R,h2,h3,h4,q1,q2⟩:=h;refine(xg R.ix Z Z ⟨x,a,C,s,Z,R,λH1 c=>⟨_,Z,?_⟩⟩);have v:=R.same c;cases ho:yI C s with
 |false=>exact ym Z (q1 H1 ho c)
 |true =>
  refine ya Z (zZ v.ix F.cl F.n6 Z Z ⟨a.no,_,Z,v.hn,λr hr=>?_⟩);generalize c_:upd H1 r _=Hv;obtain⟨I,ev⟩:=yQ c_ hr;refine⟨r,a.no,tF s.no,Z,ev,I _ _ v.hn,(by have:=vo s.no;lia),λl ys H2 s2 fl u pr=>?_⟩;have q:=I.trans s2;have R2:=v.same q;have nl:H l=am:=zH (c.trans I) fl;rw[Y8 h3] at pr;have pn:=zgo pr;have b:=R2.ix;unfold zjF at b;cases hw:s.why with
  |some w =>
   rw[hw] at b;refine(zZ b F.cl F.n3 Z Z ⟨Z,_,Z,ym Z (zZ b F.cl F.n3 Z Z ⟨by show 2<=Bb;rw[bL];decide,λp N=>?_⟩)⟩);generalize c1:upd H2 p _=H3;obtain⟨k,T⟩:=yQ c1 N;refine⟨_,Z,(),λg f=>?_⟩;generalize c2:upd H3 g _=H4;obtain⟨j,O⟩:=yQ c2 f;refine⟨by show 3<=Bb;rw[bL];decide,λm d=>?_⟩;have G:=tM (o:=HO.tup [V.ref p,V.ref l,V.ref g]) m d;have T3:=k.trans (j.trans G);refine q2 m (.ref p) l g [] _ ho (c.trans (q.trans T3)) nl (zH (c.trans (q.trans k)) f) (λz=>by rw[<-z,k _ _ u] at f;cases f) zj ?_ ⟨ys,T3 _ _ u,XU T3 pn⟩ ⟨[],G _ _ O,.nil⟩ ?_
   .unfold zgK;rw[hw];exact⟨p,Z,(j.trans G) _ _ T⟩
   .unfold Y5;rw[hw]
  |none =>
   rw[hw] at b;refine(zZ b F.cl F.n3 Z Z ⟨Z,_,Z,ya Z (zZ b F.cl F.n7 Z Z ⟨a.sa,_,Z,.inl ⟨aT.of R2.ha,λy hy=>?_⟩⟩)⟩);generalize c1:upd H2 y _=H3;obtain⟨k,T⟩:=yQ c1 hy;refine⟨by show 2<=Bb;rw[bL];decide,λp N=>?_⟩;generalize c2:upd H3 p _=H4;obtain⟨j,O⟩:=yQ c2 N;have i:=k.trans j;have R3:=R2.same i;refine⟨_,Z,zZ R3.ix F.cl F.n5 Z Z ⟨a.gi,_,Z,R3.hg,λr3 M=>?_⟩⟩;generalize c3:upd H4 r3 _=H5;obtain⟨E,e4⟩:=yQ c3 M;refine⟨r3,a.gi,s.gi,Z,e4,E _ _ R3.hg,(by have:=vo s.gi;lia),λg zs J H6 s6 fg f ps ri mi=>⟨by show 3<=Bb;rw[bL];decide,λm d=>?_⟩⟩;have A:=tM (o:=HO.tup [V.ref p,V.ref l,V.ref g]) m d;have n:=(E.trans s6).trans A;have e:H4 g=am:=zH E fg;refine q2 m (.ref p) l g J _ ho (c.trans (q.trans (i.trans n))) nl (zH (c.trans (q.trans i)) e) (λz=>by rw[<-z,i _ _ u] at e;cases e) zj ?_ ⟨ys,(i.trans n) _ _ u,XU (i.trans n) pn⟩ ⟨zs,A _ _ f,XU A ps⟩ ?_
   .unfold zgK;rw[hw];exact⟨p,y,Z,n _ _ O,n _ _ (j _ _ T)⟩
   .unfold Y5;rw[hw];exact⟨ri,mi⟩
theorem K3{e:List V}{_E:XK}(F:RnF K t)(h:ja t e H Q _E) :
  XL K t (mt Q) (zZZ 3 e) H:=by
 obtain⟨x,q,p,w,a,C,s,rfl,R,b,m,k⟩:=h;have c:tP H a.gi (.ref q) ((zC s.gi p).map V.int):=.inr ⟨tF s.gi,zB p,q,.inl R.hg,Z,b,(wK _ _).symm⟩;have d:tP H a.no (.ref q) ((zC s.no p).map V.int):=.inr ⟨tF s.no,zB p,q,.inl R.hn,Z,b,(wK _ _).symm⟩;unfold kU JF at k;cases hg:zC s.gi p with
 |some i =>
  rw[hg,au (.inl Z)] at k;rw[hg] at c;exact⟨_,Z,zZ R.ix F.cl F.n5 Z Z ⟨a.gi,_,Z,c,_,Z,ym Z (zZ R.ix F.cl F.n5 Z Z ⟨_,Z,a.gi,_,Z,c,k H (.of_same λ_ _ z=>z) R⟩)⟩⟩
 |none =>
  rw[hg] at k c;refine⟨_,Z,zZ R.ix F.cl F.n5 Z Z ⟨a.gi,_,Z,c,_,Z,ya Z ⟨_,Z,zZ R.ix F.cl F.n6 Z Z ⟨a.no,_,Z,d,_,Z,?_⟩⟩⟩⟩;cases ho:zC s.no p with
  |some i =>
   rw[ho,au (.inr Z)] at k;rw[ho] at d;exact ya Z (zZ R.ix F.cl F.n6 Z Z ⟨_,Z,a.no,_,Z,d,k H (.of_same λ_ _ z=>z) R⟩)
  |none =>
   rw[ho,ao (λz=>z.elim () λz=>nomatch z)] at k;have l:=vo s.no;have j:yS (tF s.no) (zB p) (V.int w)=tF (s.no++[(p,w)]):=(Zk s.no (p,w)).symm;have g:=DPut.t (k:=zB p) (v:=V.int w) R.hn b (ca (by lia:_<=900) ());rw[j] at g;have R2:=R.putO (s.no++[(p,w)]);have f:Kp x a H (upd H a.no (.dT (tF (s.no++[(p,w)])))):=vi (.inr (.inr (.inr (.inl Z))));refine ym Z ⟨_,Z,zZ R.ix F.cl F.n6 Z Z ⟨_,Z,a.no,_,Z,g,zZ R2.ix F.cl F.n6 Z Z ⟨_,Z,a.no,V.int w,Z,?_,k _ f R2⟩⟩⟩;refine .inr ⟨_,zB p,q,.inl R2.hn,Z,f _ _ (R.notup b) b,?_⟩;rw[wK,zdk];rfl
end
theorem K4{u:List V}{_E:XK}(h:xW u H Q _E) :
  XI K t (mt Q) (zZZ 4 u) H:=by
 obtain⟨rk,l,d,G,P,k,j,rfl,f,x,n,w,q⟩:=h;rcases f.get j with ⟨a,rs,hk,hv,fa,ha,hs,hne,hi⟩|⟨_,_,hn⟩
 .have s:d∈rs:=(hi d).mpr w;have I:=zcd f ha;refine⟨_,Z,_,Z,rk,.ref a,Z,(by rw[<-hv];exact .t f.at_ n),_,Z,.inl ⟨Z,_,aT.of ha⟩,_,Z,a,rs,d,Z,Z,ha,s,_,Z,(),λz E=>?_⟩;have v:=(hV.refl (G:=G) (rk:=rk) (H:=H)).lst (ys:=(rs.erase d).map V.int) ha fa;have y:Dm H (upd H a (.lst ((rs.erase d).map V.int))):=Dm.upd λ_ z=>nomatch z
  have C:l≠a:=zL n ha ();have m:upd H a (.lst ((rs.erase d).map V.int)) l=U (.tup ((zB j).map kV)):=by rw[zm C];exact n
  have i:upd H a (.lst ((rs.erase d).map V.int)) rk=U (.dT k):=by rw[zm I];exact f.at_
  generalize c_:upd _ z _=H3;obtain⟨c,A⟩:=yQ c_ E;refine⟨a,z,_,Z,Z,aT.of (c _ _ zj),aT.of A,_,Z,?_⟩;by_cases e:rs.erase d=[]
  .refine ym (Bj (by rw[e];rfl)) ⟨_,Z,rk,Z,.inr ⟨_,.inl (c _ _ i)⟩,_,Z,k,zB j,l,_,c _ _ i,Z,c _ _ m,hv,q _ (yz k (zB j)) ((v.same c).dct _) (y.trans ((Dm.of_same c).trans (Dm.upd λ_ z=>nomatch z))) ?_⟩;refine(f.out2 (us:=(rs.erase d).map V.int) hk ha hs hi e λp r=>sY).keep x (λb o J g=>?_) (λ_ z=>z);by_cases hb:b=rk
   .subst hb;rw[zj] at g ⊢;exact g
   .rw[zm hb] at g ⊢;exact c _ _ g
  .refine ya (Bk λz=>e (List.map_eq_nil_iff.mp z)) ?_;exact q _ k (v.same c) (y.trans (Dm.of_same c)) ((f.out1 hk ha hs hi e λp r=>sY).keep x (λb o _ g=>c _ _ g) (λ_ z=>z))
 .exact absurd w (hn d)
theorem zeo{m w dx gr wo rk:L}{n E:Int}{s:List V}{F:L->Prop}{P:Pl->Int->Prop}{gs:List aO}{kk:List (List aW×V)}{A:Option V}(MF:MkF K t)(hm:H m=U (.ins t.q02 dx (wY gr E wo rk)))(hL:H w=U (.lst s))(nL:¬ F w)(hy:Paired (zbU H) s (tF gs))(C:(gs.map (·.1)).Nodup)(hP:∀r∈gs,P r.1 n)(I:tz H rk F P kk)(fk:F rk) (q:∀l f,hV F rk H l->Dm H l->tz l rk F (λp r=>P p r/\¬ (r=n/\p∈gs.map (·.1))) f->Q .non l) :
  vL K t (mt Q) [U (.ref m),U (.int n),U (.ref w),A] H:=by
 have mr:m≠rk:=zL hm I.at_ ();have ly:s.length=gs.length:=by rw[bE hy,Y8 C,bd]
 refine⟨_,Z,w,Z,⟨_,aT.of hL⟩,xG s (taI m w rk n s F P gs H) ⟨⟨_,Z⟩,hV.refl,Dm.refl,kk,I.eqv λp r=>by simp⟩ (λi σ l ⟨_,k,_⟩=>aT.of (k _ _ hL (λz=>nL (by rw[z];exact fk)) (.inr nL))) ?_ ?_⟩
 .rintro i u σ l hu ⟨⟨A,rfl⟩,k,T,f,h⟩;obtain⟨kv,v,p,rfl,x⟩:=Paired.getP hy hu;rw[Y8 C,bt] at v;obtain⟨g,o,rfl⟩:=bY.mp v;have x:H p=U (.tup ((zB g.1).map kV)):=x;have J:l p=U (.tup ((zB g.1).map kV)):=k _ _ x (zL x I.at_ ()) (.inl λ_ z=>nomatch z);have N:=k _ _ hm mr (.inl λ_ z=>nomatch z);have M:g.1 ∉ (gs.take i).map (·.1):=λz=>by
   obtain⟨j,y⟩:=cV z;rw[bt,eu] at y;split at y
   .rename_i hji;have a1:(gs.map (·.1))[j]?=U g.1:=by rw[bt];exact y
    have a2:(gs.map (·.1))[i]?=U g.1:=by rw[bt,o];rfl
    have:=(gM (bq.mp a1).1 C).mp (a1.trans a2.symm);lia
   .cases y
  have O:∀p r,((P p r/\¬ (r=n/\p∈(gs.take i).map (·.1)))/\¬ (r=n/\p=g.1))↔(P p r/\¬ (r=n/\p∈(gs.take (i+1)).map (·.1))):=λp r=>by
   rw[cx,o,bN,bu];have:p∈oW (·.1) (U g).toList↔p=g.1:=by simp
   rw[this];exact⟨λ⟨⟨a,b⟩,c⟩=>⟨a,λd=>d.2.elim (λe=>b ⟨d.1,e⟩) λe=>c ⟨d.1,e⟩⟩,λ⟨a,b⟩=>⟨⟨a,λc=>b ⟨c.1,.inl c.2⟩⟩,λc=>b ⟨c.1,.inr c.2⟩⟩⟩
  refine zZ N MF.cl MF.r Z zgW ⟨_,Z,_,Z,rk,p,n,F,_,f,g.1,Z,h,fk,J,⟨hP g (bJ o),λz=>M z.2⟩,λH2 G k2 d2 r2=>⟨⟨_,Z⟩,k.trans k2,T.trans d2,G,r2.eqv O⟩⟩
 .rintro σ l ⟨⟨A,rfl⟩,k,T,f,h⟩;rw[ly,cR] at h;exact q l f k T h
theorem Yr{v:List V}{_E:XK}(A:MkF K t)(h:yG t v H Q _E) :
  jC K t (mt Q) (zZZ 2 v) H:=by
 obtain⟨m,ac,F,g,i,I,rfl,s,q⟩:=h;obtain⟨dx,gr,C,rk,O,kk,M⟩:=s.ex;refine zZ M.im A.cl A.w Z zdm ⟨C,Z,.inl ⟨_,.inl M.hw⟩,_,Z,λp J=>?_⟩;generalize c_:upd _ p _=H1;obtain⟨f,G⟩:=yQ c_ J;have M1:=M.keep s.me λb o _ e=>f _ _ e;by_cases hin:ac∈i.map (·.1)
 .obtain⟨y,x,u⟩:=bD.mp hin;obtain⟨w,z⟩:=y;have u:w=ac:=u;subst u;obtain⟨d,E,fd,T,N⟩:=JR M1.wp s.nd x;have n:=tP.k (k:=.inl w) M1.hw;rw[E] at n;refine⟨_,n,d,tF z,Z,N,λl a j r=>?_⟩;have c:=tM (o:=HO.lst a) l j;exact q l a z _ (f.trans c) (zH f j) zj (Paired.mapP r λ_ _ ⟨p,e,h⟩=>⟨p,e,c _ _ h⟩) (.inl x)
 .have n:=tP.k (k:=.inl ac) M1.hw;rw[zaN M1.wp hin] at n;refine⟨_,n,p,[],Z,G,λl a j r=>?_⟩;have c:=tM (o:=HO.lst a) l j;exact q l a [] _ (f.trans c) (zH f j) zj (Paired.mapP r λ_ _ ⟨p,e,h⟩=>⟨p,e,c _ _ h⟩) (.inr ⟨hin,Z⟩)
theorem Ys{vs:List V}{_E:XK}(O:MkF K t)(h:y8 t vs H Q _E) :
  jD K t (mt Q) (zZZ 4 vs) H:=by
 obtain⟨m,ac,F,g,lays,ae,rfl,a,q⟩:=h;obtain⟨dx,gr,wo,rk,l,kk,M⟩:=a.ex;refine xg M.im Z (vb ()) ⟨_,Z,m,ac,F,g,lays,ae,Z,a,λBp ys gs A f fL hL C ho=>?_⟩;have M1:=M.keep a.me λb o _ e=>f _ _ e;have u:∀y∈Vv lays ac,0<=y.1/\Ws y.2:=λy C=>a.ok y (bQ.mp C).1;have w:((Vv lays ac).map (·.1)).Nodup:=gj (gc _ dh) a.nd;have nL:¬ F Bp:=λz=>by obtain⟨o,e⟩:=a.own Bp z;rw[fL] at e;cases e
 have j:∀ {J:D},Dm A J->∀b,F b->∃o,J b=U o:=λI b hb=>by
  obtain⟨o,e⟩:=a.own b hb;obtain⟨o',e',_⟩:=I b o (f _ _ e);exact⟨o',e'⟩
 refine zZ M1.im O.cl O.w Z zdm ⟨wo,Z,.inl ⟨_,.inl M1.hw⟩,_,Z,l,.inl ac,M1.hw,Z,λv G=>?_,λG=>?_⟩
 .have i:ac∈lays.map (·.1):=cE λz=>by rw[zaN M1.wp z] at G;cases G
  have x:(ac,gs)∈lays:=ho.resolve_right λz=>z.1 i;have aa:=(a.ok _ x).2;have wm:m≠wo:=zL M1.im M1.hw ();have wg:gr≠wo:=zL M1.hg M1.hw ();have wr:rk≠wo:=zL M1.rr.at_ M1.hw ();have c:∀b o,b≠wo->A b=U o->upd A wo (HO.dK (yz l (.inl ac))) b=U o:=λb o n e=>by rw[zm n];exact e
  have w2:upd A wo (HO.dK (yz l (.inl ac))) wo=U (HO.dK (yz l (.inl ac))):=zj;have d2:Dm A (upd A wo (HO.dK (yz l (.inl ac)))):=Dm.upd λ_ z=>nomatch z
  generalize upd A wo (HO.dK (yz l (.inl ac)))=J at *
  have E:tz J rk F (vT lays) kk:=M1.rr.keep2 (by rw[c _ _ wr M1.rr.at_,M1.rr.at_]) (λb xs _ e=>c _ _ (zL e M1.hw ()) e) (λ_ z _=>z);refine zeo O (c _ _ wm M1.im) (c _ _ (zL hL M1.hw ()) hL) nL (Paired.mapP C λ_ _ ⟨p,e,h⟩=>⟨p,e,c _ _ (zL h M1.hw ()) h⟩) aa.nd (λr hr=>⟨gs,x,bB hr⟩) E M.fk λH' ag k I s=>?_;have T:Paired (zb3 J rk F) (yz l (.inl ac)) (Vv lays ac):=Paired.mapP (zaO M1.wp) λ_ _ ⟨e,d,e2,fd,nd,hd⟩=>⟨e,d,e2,fd,nd,c _ _ (zL hd M1.hw ()) hd⟩;refine q H' F (λb o N e=>QU M.fk k b o N (c _ _ (λz=>N (by rw[z];exact M.fw)) (f _ _ e))) (λb zs e=>k _ _ (c _ _ (zL (f _ _ e) M1.hw ()) (f _ _ e)) (zL (f _ _ e) M1.rr.at_ ()) (.inl λ_ z=>nomatch z)) ?_ (λ_ z=>.inl z) λ_ z=>z;exact zgX a.me M.fg M.fw M.fk M.nr (c _ _ wm M1.im) (c _ _ wg M1.hg) w2 ⟨_,E.at_⟩ T k (j (d2.trans I)) (s.eqv (zgY a.nd x)) w u
 .have i:ac ∉ lays.map (·.1):=λz=>by
   obtain⟨y,C,ey⟩:=bD.mp z;obtain⟨r',gs⟩:=y;have ey:r'=ac:=ey;subst ey;obtain⟨d,v1,_⟩:=JR M1.wp a.nd C;rw[v1] at G;cases G
  have eg:gs=[]:=(ho.resolve_left λz=>i (bD.mpr ⟨_,z,Z⟩)).2;subst eg;rw[ziu i] at u w q;refine zeo (gs:=[]) O M1.im hL nL C cO (λr hr=>nomatch hr) M1.rr M.fk λH' ag k I s=>?_;refine q H' F (λb o N e=>QU M.fk k b o N (f _ _ e)) (λb zs e=>k _ _ (f _ _ e) (zL (f _ _ e) M1.rr.at_ ()) (.inl λ_ z=>nomatch z)) ?_ (λ_ z=>.inl z) λ_ z=>z;exact zgX a.me M.fg M.fw M.fk M.nr M1.im M1.hg M1.hw ⟨_,M1.rr.at_⟩ M1.wp k (j I) (s.eqv λp r=>by simp) w u
theorem zhA{Bq:Wg}{gv d m dx gr wo rk:L}{f C:Int}{G:L->Prop}{a:List aO}{l:List (Int×List aO)}{kk:List (List aW×V)}(MF:MkF K t)(hm:H m=U (.ins t.q02 dx (wY gr C wo rk)))(hd:H d=U (.dT (tF a)))(dr:d≠rk)(gf:Ws a)(hr:tz H rk G (vT l) kk)(ai:f ∉ l.map (·.1))(ok:∀y∈l,Ws y.2)(hl:l.length<=200)(gk:G rk)(gn:∀b,H b=am->G b) (q:∀c o4 g,hV G rk H c->(∀b o,H b=U o->∃o',c b=U o')->tz c rk G (λp r=>vT l p r\/(r=f/\p∈a.map (·.1))) g->ZJ K t Bq [U (.ref m),U (.int f),U (.ref gv),U (.ref d),o4] c) :
  ZK K t Bq [U (.ref m),U (.int f),U (.ref gv),U (.ref d),am] H:=by
 have mr:m≠rk:=zL hm hr.at_ ();have md:m≠d:=zL hm hd ();refine⟨d,_,tF a,hd,.inl Z,λu=>?_⟩;have f0:upd H d (.frz u (.dT (tF a))) d=U (.frz u (.dT (tF a))):=zj;have aa:tz (upd H d (.frz u (.dT (tF a)))) rk G (vT l) kk:=hr.keep2 (by rw[zm dr.symm]) (λb xs _ e=>by rw[zm (zL e hd ())];exact e) (λ_ z _=>z);have al:upd H d (.frz u (.dT (tF a))) m=U (.ins t.q02 dx (wY gr C wo rk)):=by rw[zm md];exact hm
 have d0:Dm H (upd H d (.frz u (.dT (tF a)))):=Dm.upd λ_ z=>nomatch z
 have T:∀ {c},hV G rk (upd H d (.frz u (.dT (tF a)))) c->hV G rk H (upd c d (.dT (tF a))):=λ{c} k b o e n z=>by
  by_cases eb:b=d
  .subst eb;rw[zj,<-hd];exact e
  .rw[zm eb];exact k b o (by rw[zm eb];exact e) n z
 have az:∀b,upd H d (.frz u (.dT (tF a))) b=am->G b:=λb e=>gn b (by
  by_cases eb:b=d
  .subst eb;rw[zj] at e;cases e
  .rw[zm eb] at e;exact e)
 generalize upd H d (.frz u (.dT (tF a)))=H0 at *
 have kd:∀ {c},hV G rk H0 c->c d=U (.frz u (.dT (tF a))):=λ{c} k=>k _ _ f0 dr (.inl λ_ z=>nomatch z);refine⟨_,Z,d,u,tF a,Z,f0,zc1 (lyI m gv d rk f G (vT l) a H0) ⟨⟨_,Z⟩,hV.refl,Dm.refl,kk,aa.eqv λp r=>by simp⟩ (λi σ c ⟨_,k,_⟩=>kd k) ?_ ?_⟩
 .rintro i k v p σ c J hp ⟨⟨o4,rfl⟩,w,dm,g,s⟩;rw[Y8 gf.nd,bt] at J;obtain⟨h,E,er⟩:=bY.mp J;cases er;have an:=w _ _ al mr (.inl λ_ z=>nomatch z);have I:h.1 ∉ (a.take i).map (·.1):=λz=>by
   obtain⟨j,hj⟩:=cV z;rw[bt,eu] at hj;split at hj
   .rename_i hji;have a1:(a.map (·.1))[j]?=U h.1:=by rw[bt];exact hj
    have a2:(a.map (·.1))[i]?=U h.1:=by rw[bt,E];rfl
    have:=(gM (bq.mp a1).1 gf.nd).mp (a1.trans a2.symm);lia
   .cases hj
  have ap:∀p r,((vT l p r\/(r=f/\p∈(a.take i).map (·.1)))\/(r=f/\p=h.1))↔(vT l p r\/(r=f/\p∈(a.take (i+1)).map (·.1))):=λp r=>by
   rw[cx,E,bN,bu];have:p∈oW (·.1) (U h).toList↔p=h.1:=by simp
   rw[this,and_or_left,or_assoc]
  have aj:¬ (vT l h.1 f\/(f=f/\h.1∈(a.take i).map (·.1))):=λz=>z.elim (λ⟨g2,O,_⟩=>ai (bD.mpr ⟨_,O,Z⟩)) λy=>I y.2;have kl:g.length<=18900:=zgZ (l:=(f,a)::l) s (λp r z=>z.elim (λ⟨g2,O,N⟩=>⟨g2,bp _ O,N⟩) λ⟨e,N⟩=>⟨a,by rw[e];exact br,(by
   obtain⟨x,hx,rfl⟩:=bD.mp N;exact bB (dq hx))⟩) (λy hy=>by
   rcases bw.mp hy with rfl|hy
   .exact gf
   .exact ok y hy) (by rw[bU];lia)
  have ar:∀b,c b=am->G b:=λb e=>az b (by
   cases e0:H0 b with
   |none=>rfl
   |some o=>obtain⟨o',e',_⟩:=dm b o e0;rw[e] at e';cases e')
  have ag:∀A:List Int,A.Pairwise (· < ·)->(∀r∈A,vT l h.1 r\/(r=f/\h.1∈(a.take i).map (·.1)))->A.length<=300:=λA hs M=>by
   have rl:A.length<=((f,a)::l).length:=zjS (p:=h.1) hs λr hr=>(M r hr).elim (λ⟨g2,O,N⟩=>⟨g2,bp _ O,N⟩) λy=>absurd y.2 I;rw[bU] at rl;lia
  exact zZ an MF.cl MF.r Z zgW ⟨_,Z,_,Z,rk,p,f,G,_,g,h.1,Z,s,gk,ar,hp,aj,kl,ag,λH2 ae k2 d2 r2=>⟨⟨_,Z⟩,w.trans k2,dm.trans d2,ae,r2.eqv ap⟩⟩
 .rintro σ c ⟨⟨o4,rfl⟩,w,dm,g,s⟩;rw[Y8 gf.nd,bd,cR] at s;have D2:Dm H (upd c d (.dT (tF a))):=(d0.trans dm).trans (Dm.upd λ_ z=>nomatch z);refine⟨kd w,q _ o4 g (T w) (λb o e=>let ⟨o',e',_⟩:=D2 b o e;⟨o',e'⟩) (s.keep2 (by rw[zm dr.symm]) (λb xs _ e=>by rw[zm (zL e (kd w) ())];exact e) (λ_ z _=>z))⟩
theorem zhB{m gv:L}{ac A:Int}{F:L->Prop}{g:List aO}{a:List (Int×List aO)}{gs:List aO}(MF:MkF K t)(h1:tV t H m F g a A)(h2:A<=ac)(a2:0<=ac)(h3:tN H gv gs)(aS:¬ F gv)(h4:Ws gs)(h5:a.length<=200)(q:∀H' F',(∀b o,¬ F b->H b=U o->H' b=U o)->(∀b zs,H b=U (.tup zs)->H' b=U (.tup zs))->tV t H' m F' g (yZ a ac gs) A->(∀b,F' b->F b\/H b=am)->(∀b,F b->F' b)->Q .non H') :
  qE K t (mt Q) (zZZ 5 [.ref m,.int ac,.ref gv]) H:=by
 obtain⟨dx,gr,wo,rk,C,kk,M⟩:=h1.ex;refine xg M.im Z (vb ()) ⟨_,Z,m,_,_,_,_,Z,M.im,zjQ,h2,λH1 s=>?_⟩;have M1:=h1.keep (H':=H1) λb o _ e=>s _ _ e;refine xg (s _ _ M.im) Z (vb ()) ⟨_,Z,m,ac,F,g,a,A,Z,M1,λH2 F2 aa E w aj ai=>?_⟩;clear M C kk gr wo rk dx;obtain⟨xs,hx,hp⟩:=h3;have ar:=aa _ _ aS (s _ _ hx);have az:Paired (PrAt H2) xs gs:=Paired.mapP hp λ_ _ ⟨r,p,e,e1,j⟩=>⟨r,p,e,E _ _ (s _ _ e1),E _ _ (s _ _ j)⟩;refine⟨_,Z,gv,xs,gs,Z,ar,az,by have:=h4.le;lia,λd hd=>?_⟩;generalize c_:upd _ d _=H3;obtain⟨s3,q3⟩:=yQ c_ hd;obtain⟨dx,gr,wo,rk,C,kk,M2⟩:=w.ex;have i:=M2.keep w.me λb o _ e=>s3 _ _ e;have an:¬ F2 d:=λz=>by obtain⟨o,e⟩:=w.own d z;rw[hd] at e;cases e
 have dr:d≠rk:=λz=>an (by rw[z];exact M2.fk);have hl:(Vv a ac).length<=200:=bM (fG _ _) h5;have T:∀b,H2 b=am->H b=am:=λb e=>by
  cases j:H b with
  |none=>rfl
  |some o =>
   exfalso;by_cases fb:F b
   .obtain⟨o',e'⟩:=w.own b (ai b fb);rw[e] at e';cases e'
   .have:=aa _ _ fb (s _ _ j);rw[e] at this;cases this
 refine zhA (G:=λb=>F2 b\/H2 b=am) MF i.im q3 dr h4 (i.rr.keep (F':=λb=>F2 b\/H2 b=am) i.fk (λb o _ e=>e) (λ_ z=>.inl z)) XZ (λy hy=>(w.ok y hy).2) hl (.inl M2.fk) (λb e=>.inr (zH s3 e)) λH4 o4 ap J dm v=>?_;have N:=J _ _ i.im (zL i.im i.rr.at_ ()) (.inl λ_ z=>nomatch z);have c:=J _ _ i.hw (zL i.hw i.rr.at_ ()) (.inl λ_ z=>nomatch z);have ag:=J _ _ i.hg i.nr (.inl λ_ z=>nomatch z);have O:=J _ _ q3 dr (.inl λ_ z=>nomatch z);have wl:C.length<=200:=by rw[bE M2.wp];exact hl
 refine⟨_,Z,zZ N MF.cl MF.w Z zdm ⟨_,Z,wo,_,Z,(.k (k:=.inl ac) c (by rw[bL];lia)),?_⟩⟩;rw[jo _ (zaN i.wp XZ)];have mw:m≠wo:=zL N c ();have gw:gr≠wo:=zL ag c ();have al:rk≠wo:=zL v.at_ c ();have dw:d≠wo:=zL O c ();have u:∀b o,b≠wo->H4 b=U o->upd H4 wo (HO.dK (C++[(.inl ac,V.ref d)])) b=U o:=λb o n e=>by rw[zm n];exact e
 have w5:upd H4 wo (HO.dK (C++[(.inl ac,V.ref d)])) wo=U (HO.dK (C++[(.inl ac,V.ref d)])):=zj;have a3:∀b o,H3 b=U o->∃o',upd H4 wo (HO.dK (C++[(.inl ac,V.ref d)])) b=U o':=λb o e=>by
  by_cases eb:b=wo
  .subst eb;exact⟨_,w5⟩
  .obtain⟨o',e'⟩:=dm b o e;exact⟨o',u _ _ eb e'⟩
 generalize upd H4 wo (HO.dK (C++[(.inl ac,V.ref d)]))=H5 at *
 refine q H5 (λb=>F2 b\/(H2 b=am/\∃o,H5 b=U o)) (λb o nf e=>?_) (λb zs e=>?_) ?_ (λb z=>?_) λb z=>.inl (ai b z)
 .have j:=aa _ _ nf (s _ _ e);have I:¬ F2 b:=λz=>(aj b z).elim nf λy=>by rw[s _ _ e] at y;cases y
  have nr:b≠rk:=λz=>I (by rw[z];exact M2.fk);have nw:b≠wo:=λz=>I (by rw[z];exact M2.fw);exact u _ _ nw (J _ _ (s3 _ _ j) nr (.inr λz=>z.elim I λy=>by rw[j] at y;cases y))
 .have j:=s3 _ _ (E _ _ (s _ _ e));have e4:=J _ _ j (zL j i.rr.at_ ()) (.inl λ_ z=>nomatch z);exact u _ _ (zL e4 c ()) e4
 .refine⟨λb z=>z.elim (λf=>let ⟨o,e⟩:=w.own b f;a3 b o (s3 _ _ e)) λy=>y.2,.inl w.me,?_,?_,dx,gr,wo,rk,_,ap,u _ _ mw N,.inl M2.fg,.inl M2.fw,.inl M2.fk,M2.nr,u _ _ gw ag,w5,?_,?_⟩
  .unfold yZ;rw[bN,dn];refine⟨w.nd,by simp,λx hx y hy=>?_⟩;have:y=ac:=by simpa using hy
   rw[this];exact λz=>XZ (l:=a) (r:=ac) (by have h:=hx;rw[z] at h;exact h)
  .intro y hy;rcases bu.mp hy with hy|hy
   .exact w.ok y hy
   .rw[bn.mp hy];exact⟨a2,h4⟩
  .refine Paired.snocP (Paired.mapP i.wp λ_ _ ⟨e,d',j,fd,ae,a1⟩=>?_) ⟨Z,d,Z,.inr ⟨hd,_,u _ _ dw O⟩,dr,u _ _ dw O⟩;have e4:=J _ _ a1 ae (.inl λ_ z=>nomatch z);exact⟨e,d',j,.inl fd,ae,u _ _ (zL e4 c ()) e4⟩
  .refine(v.keep2 (F':=λb=>F2 b\/(H2 b=am/\∃o,H5 b=U o)) ((u _ _ al v.at_).trans v.at_.symm) (λb xs _ e=>u _ _ (zL e c ()) e) (λb z ex=>z.imp id λy=>⟨y,ex⟩)).eqv λp r=>?_;unfold yZ;constructor
   .rintro(⟨g2,h6,h7⟩|⟨rfl,h7⟩)
    .exact⟨g2,cI _ h6,h7⟩
    .exact⟨gs,bP _ (bn.mpr Z),h7⟩
   .rintro⟨g2,h6,h7⟩;rcases bu.mp h6 with h6|h6
    .exact .inl ⟨g2,h6,h7⟩
    .cases bn.mp h6;exact .inr ⟨Z,h7⟩
 .rcases z with z|z
  .exact(aj b z).imp id λy=>zH s y
  .exact .inr (T b z.1)
theorem zfn{x h u:L}{e:List aO}(a:MkF K t)(m:H x=U (.ins t.q02 u []))(I:tN H h e)(M:e.length<=63)(q:∀j F,W7 x H j->tV t j x F e [] 0->(∀b,F b->b=x\/H b=am)->Q .non j) :
  vy K t (mt Q) (zZZ 2 [.ref x,.ref h]) H:=by
 obtain⟨w,E,G⟩:=I;obtain⟨J,P,_⟩:=PO.init m ⟨_,m⟩;unfold vy zt;refine⟨_,Z,h,w,e,Z,E,G,(),P.so (.dT (tF e)) 4 () () Z a.cl a.g () λs T C P=>P.st Z a.cl a.f (by show 1<1000;decide) λO P=>P.so (.dK []) 5 () () Z a.cl a.w (by show 2<1000;decide) λk N A P=>P.so (.dT []) 6 () () Z a.cl a.r (by show 3<1000;decide) λrk v d P=>?_⟩;have g:∀n c o,(n,c,o)∈_->v c=U o/\d c=n:=λn c o z=>(P.ob (n,c,o) z).2;have i:=g 6 rk _ (.head _);have l:=g 5 k _ (.tail _ (.head _));have f:=g 4 s _ (.tail _ (.tail _ (.head _)));refine q v (λb=>d b≠0) P.kp ⟨P.ow,(by rw[P.lx];decide),cO,(λ_ h=>(nomatch h)),u,s,k,rk,[],[],P.hx,(by rw[f.2];decide),(by rw[l.2];decide),(by rw[i.2];decide),(λz=>by rw[z,i.2] at f;exact absurd f.2 ()),f.1,l.1,.nil,i.1,cO,cO,λ_ h=>(nomatch h),λp r ⟨_,h,_⟩=>(nomatch h)⟩ λb z=>?_;rcases P.fr b z with y|y|y
 .exact .inl y
 .exact .inl y
 .exact .inr y
theorem vZ{p:Prop} [Decidable p]{A Bn:Prop}(a:p->A)(b:¬ p->Bn):if decide p=ak then A else Bn:=by
 by_cases h:p
 .exact ym (Bj h) (a h)
 .exact ya (Bk h) (b h)
theorem za2{i:Int}(d:zig K)(q:∀b,aL H b->Q (.bl (tK i)) b) :
  ZG K t (mt Q) (zZZ 1 [.int i]) H:=by
 have q:=q H (aL.refl H);unfold ZG zt zW tOr kj;have a:(10:Int)^(30:Int).toNat=1000000000000000000000000000000:=by lia
 refine vY Z (.int i) (xT _) (ya Z (vY Z (.int i) d (ya Z ⟨_,_,Z,Z,zgN () (),_,Z,_,Z,_,_,Z,Z,_,Z,vZ (λc=>⟨_,_,Z,Z,zgN () (),_,_,Z,Z,?_⟩) λc=>?_⟩)))
 .rw[a] at c ⊢;have e:tK i=decide (i<=1000000000000000000000000000000):=by
   unfold tK;by_cases h:i<=1000000000000000000000000000000
   .rw[Bj h,Bj ⟨c,h⟩]
   .rw[Bk h,Bk λz=>h z.2]
  rw[e] at q;exact q
 .rw[a] at c;have e:tK i=aq:=Bk λz=>c z.1;rw[e] at q;exact q
theorem zct{d:List V}{E:XK}(h:qx t d H Q E) :
  JI K t E (mt Q) (zZZ 3 d) H:=by
 obtain⟨w,a,b,rfl,i,j,f,q⟩:=h;have q:=q H (aL.refl H);have g:=zar f;refine⟨_,Z,Z,_,Z,vZ (λc=>?_) λc=>?_⟩
 .rw[au (V.int.inj c)] at q;exact⟨_,Z,_,Z,(),λy=>⟨by show 1<=Bb;rw[bL];decide,q⟩⟩
 .have c:b≠0:=λz=>c (congrArg V.int z);rw[ao c] at q;refine⟨_,Z,Z,_,Z,vZ (λe=>?_) λe=>?_⟩
  .rw[au (V.str.inj e)] at q;exact⟨_,Z,_,Z,_,_,Z,Z,⟨c,g⟩,q⟩
  .rw[ao λz=>e (congrArg V.str z)] at q;exact⟨_,Z,_,Z,_,_,Z,Z,c,q⟩
theorem zcu{l:List V}{E:XK}(h:qy t l H Q E) :
  JJ K t E (mt Q) (zZZ 3 l) H:=by
 obtain⟨w,a,b,rfl,o,n,m,q⟩:=h;have A:=zar n;have u:=zar m;have g:¬ Jd w->Q (.int (Jc w a b)) H:=λh=>by
  have q:=q H (aL.refl H);rw[ao λz=>h z.1] at q;exact q
 unfold Jc at g q;refine⟨_,Z,Z,_,Z,vZ (λc=>?_) λe=>⟨_,Z,Z,_,Z,vZ (λc=>?_) λf=>⟨_,Z,Z,_,Z,vZ (λc=>?_) λi=>⟨_,Z,Z,_,Z,vZ (λc=>?_) λj=>⟨_,Z,Z,_,Z,vZ (λc=>?_) λk=>?_⟩⟩⟩⟩⟩
 .cases c;exact⟨_,Z,_,Z,_,_,Z,Z,by have q:=g λz=>z.1 rfl;rw[au rfl] at q;exact q⟩
 .cases c;exact⟨_,Z,_,Z,_,_,Z,Z,by have q:=g λz=>z.2.1 rfl;rw[ao (λz=>e (congrArg V.str z)),au rfl] at q;exact q⟩
 .cases c;exact⟨_,Z,_,Z,_,_,Z,Z,⟨A,u⟩,by have q:=g λz=>z.2.2.1 rfl;rw[ao (λz=>e (congrArg V.str z)),ao (λz=>f (congrArg V.str z)),au rfl] at q;exact q⟩
 .cases c;have q:=g λz=>z.2.2.2.1 rfl;rw[ao (λz=>e (congrArg V.str z)),ao (λz=>f (congrArg V.str z)),ao (λz=>i (congrArg V.str z)),au rfl] at q;refine⟨_,Z,_,Z,_,_,Z,Z,_,Z,vZ (λd=>?_) λd=>?_⟩
  .rw[au d] at q;exact q
  .rw[ao d] at q;exact q
 .cases c;have q:=g λz=>z.2.2.2.2 rfl;rw[ao (λz=>e (congrArg V.str z)),ao (λz=>f (congrArg V.str z)),ao (λz=>i (congrArg V.str z)),ao (λz=>j (congrArg V.str z)),au rfl] at q;refine⟨_,Z,_,Z,Z,_,Z,vZ (λd=>?_) λd=>?_⟩
  .rw[au (V.int.inj d)] at q;exact q
  .rw[ao λz=>d (congrArg V.int z)] at q;exact q
 .have e:w≠"plus":=λz=>e (congrArg V.str z);have f:w≠"minus":=λz=>f (congrArg V.str z);have i:w≠"times":=λz=>i (congrArg V.str z);have j:w≠"under":=λz=>j (congrArg V.str z);have k:w≠"same":=λz=>k (congrArg V.str z);refine⟨_,Z,_,Z,_,Z,w,a,b,Z,o,n,m,λr s=>?_⟩;have q:=q r s;have p:Jd w:=⟨e,f,i,j,k⟩;refine Xh (λd=>?_) λd=>?_
  .rw[au ⟨p,d⟩] at q;exact q
  .rw[ao λz=>d z.2,ao e,ao f,ao i,ao j,ao k] at q;exact q
theorem zdu{e:List V}{E:XK}(h:Yh t e H Q E) :
  QK K t E (mt Q) (zZZ 4 e) H:=by
 obtain⟨w,a,b,rfl,i,k,j,q⟩:=h;unfold kM at q;refine⟨_,Z,_,Z,_,Z,w,a,b,Z,i,k,j,λm f=>Xh (λc=>?_) λc=>⟨_,Z,_,Z,λl g=>⟨_,Z,?_⟩⟩⟩
 .have q:=q m f;rw[au c] at q;exact q
 .have q:=q l (f.trans g);rw[ao c] at q;by_cases d:tK (Jc w a b)=ak
  .rw[au d] at q;exact ya (by rw[d];rfl) ⟨_,Z,q⟩
  .rw[ao d] at q;exact ym (by rw[eK.mpr d];rfl) ⟨_,Z,_,Z,(),λy=>⟨by show 1<=Bb;rw[bL];decide,q⟩⟩
theorem WD{b:List V}{_E:XK}(h:yg K b H Q _E) :
  qU K t (mt Q) (zZZ 2 b) H:=by
 obtain⟨a,c,k,rfl,d,g,f,q⟩:=h;refine⟨_,Z,_,Z,.ref a,c.length,Z,.inl ⟨_,d,(bd ..).symm⟩,_,_,Z,Z,_,Z,vZ (λe=>?_) λe=>q _ _ (aL.refl _) (Cb.of ()) ?_⟩
 .have e:k<c.length:=by lia
  exact⟨_,Z,_,Z,a,_,_,_,Z,Z,d,xa (by rw[bt,bb e];rfl),q _ _ (aL.refl _) (f _ (dM e)) (by rw[bF,bb e];rfl)⟩
 .rw[bF,b6 ()];rfl
theorem zcv{v:V}{r:gV}(d:RlAt Ks H v r)(c:Vu 6 r)(e:(yd r 0).length<=500)(q:∀l b a,aL H a->H l=am->a l=U (.lst b)->Paired (tQ a) b (yd r 0)->Q (.ref l) a) :
  JH K t (mt Q) (zZZ 1 [v]) H:=⟨_,Z,v,r,0,Z,d,c,(),q⟩
section
variable {E:XK}{x:L}{a:RAd}{C:List Cs}{s:bv}
theorem za3{c:List V}{_E:XK}(F:RnF K t)(h:xu t c H Q _E) :
  Va K t (mt Q) (zZZ 1 c) H:=by
 obtain⟨x,a,C,s,rfl,R,q⟩:=h;obtain⟨b,f,d⟩:=R.hc;have lx:=bE d;have q:=q H λ_ _ z=>z;refine(zZ R.ix F.cl F.n3 Z Z ⟨Z,_,Z,?_⟩);cases hw:s.why with
 |some w =>
  have e:yI C s=ak:=by unfold yI;rw[hw];rfl
  rw[e] at q;exact ym Z q
 |none =>
  refine ya Z (zZ R.ix F.cl F.n2 Z Z (zZ R.ix F.cl F.n1 Z Z ⟨.ref a.co,b.length,Z,.inl ⟨_,aT.of f,Z⟩,_,_,Z,Z,?_⟩));have e:yI C s=decide ((b.length:Int)<=(s.n:Int)):=by unfold yI;rw[hw,lx];simp
  rw[e] at q;exact q
theorem WE{b:L}{e:List V}(F:RnF K t)(R:dl t H x a C s)(g:xn s.sl)(f:H b=U (.tup e))(c:aY e) (q:∀d,aL H d->fin t (rk s.sl e) Q E d):qV K t E (mt Q) (zZZ 2 [.ref x,.ref b]) H :=
 ⟨_,Z,zZ R.ix F.cl F.n4 Z Z ⟨s.sl,b,a.sl,e,_,Z,f,R.hs,c.good s.sl,c.2.1,c.2.2,g,q⟩⟩
theorem WF{b:List V}(F:RnF K t)(h:yO t b H Q E) :
  qW K t E (mt Q) (zZZ 2 b) H:=by
 obtain⟨x,p,w,g,f,e,a,C,s,rfl,R,u,d,r,q,m,l,j,i⟩:=h;refine Ym Z d r (xg R.ix Z Z (Ym Z d q ⟨x,f,e,a,C,s,Z,R,u,m,l,λv c=>?_⟩));cases hk:rk s.sl e with
 |error er=>exact ui.mpr (i er v hk c)
 |ok n =>
  refine fin_ok.mpr ⟨by show 2<=Bb;rw[bL];decide,λp k=>?_⟩;exact j n p _ hk (c.trans (tM (o:=HO.tup [V.str g,V.int n]) p k)) zj
end
theorem Yt{m h:L}{b:List (Str×V)}{a c:Int}(d:MkF K t)(g:H m=U (.ins t.q02 h b))(f:b.lookup (bf "folded")=U (.int a))(i:a<=c)(q:∀e,aL H e->Q .non e) :
  jA K t (mt Q) (zZZ 2 [.ref m,.int c]) H:=⟨_,Z,zZ g d.cl d.f Z f ⟨_,_,Z,Z,_,Z,ya (Bk ()) (q H (aL.refl H))⟩⟩
theorem VF{c:List V}{_E:XK}(h:xt c H Q _E) :
  ZD K t (mt Q) (zZZ 1 c) H:=by
 obtain⟨n,rfl,f,e,q⟩:=h;have d:=zgN (j:=30) () ();have a:(10:Int)^(30:Int).toNat=1000000000000000000000000000000:=by lia
 have b:(1000000007:Int)^(3:Int).toNat=1000000021000000147000000343:=by lia
 refine⟨_,Z,_,_,Z,Z,by show (0:Int)<4;decide,Z,_,Z,vZ (λ_=>⟨_,Z,_,_,Z,Z,⟨(),(),()⟩,_,_,Z,Z,mB () () (by rw[b];lia) (by rw[b];lia),_,_,Z,Z,d,_,_,Z,Z,mB () () (by rw[a];lia) (by rw[a];lia),_,_,Z,Z,_,_,Z,Z,by rw[a];show (0:Int)<2*1000000000000000000000000000000+1;decide,_,_,Z,Z,d,_,_,Z,Z,?_⟩) λ_=>⟨_,Z,_,_,Z,Z,dB,_,_,Z,Z,by show (0:Int)<6;decide,_,_,Z,Z,q _ _ (uv.mpr ()) (aL.refl _)⟩⟩;rw[a,b];exact q _ _ zjU (aL.refl _)
theorem Xc{b:List V}{_E:XK}(h:yB b H Q _E) :
  jZ K t (mt Q) (zZZ 1 b) H:=by
 obtain⟨w,rfl,h,q⟩:=h;obtain⟨k,j,_⟩:=id h;refine⟨_,Z,by show 9<=Bb;rw[bL];decide,λp g=>⟨p,wl,Z,.inr (tI.of zj),Z,(),_,Z,?_⟩⟩;have e:=tM (o:=HO.tup wl) p g;have i:(bf "z").length=1:=by lia
 by_cases c:inV (.str w) wl=ak
 .exact ym c ⟨_,Z,_,_,Z,Z,xl (),q _ _ (zkD (by rw[zed,c,Bool.or_true])) e⟩
 refine ya (eK.mpr c) ⟨_,Z,by show 7<=Bb;rw[bL];decide,λf a=>⟨f,jw,Z,.inr (tI.of zj),Z,(),_,Z,?_⟩⟩;have d:=e.trans (tM (o:=HO.tup jw) f a);by_cases c2:inV (.str w) jw=ak
 .exact ym c2 ⟨_,Z,_,_,Z,Z,xl (),q _ _ (zkD (by rw[zed,c2,Bool.true_or])) d⟩
 .exact ya (eK.mpr c2) ⟨_,Z,q _ _ (zix h (eK.mpr c2) (eK.mpr c)) d⟩
section
variable {x:Str}{c:Int}
theorem zfo{n:Option V}(j:yY x=ak)(q:∀a g f,aL H f->H a=am->tu f a g->g.length=2->Q (.ref a) f) :
  ZB K t (mt Q) [U (.int c),U (.str "abcdefghijklmnopqrstuvwxyz"),n,U (.str x),am,am] H:=by
 obtain⟨C,A,z⟩:=zee j;have e:=cK (c/6) (b:=(x.length:Int)) ();have l:=cw (c/6) (b:=(x.length:Int)) ();have h:x.length<=Bb:=xl ();refine⟨_,Z,_,_,Z,Z,dB,_,Z,.str x,x.length,Z,⟨h,Z⟩,_,_,Z,Z,by show (0:Int)<x.length;lia,?_⟩;obtain⟨k,v⟩:∃k:Nat,c/6%(x.length:Int)=k:=⟨(c/6%(x.length:Int)).toNat,(mf e).symm⟩;dsimp only;rw[v] at e l ⊢;obtain⟨y,p,w⟩:=zd2 (xs:=x.cps.toList) (i:=(k:Int)) e (by rw[<-Xk];exact l);have m:(bf "abcdefghijklmnopqrstuvwxyz").length<=Bb:=by lia
 have u:=cK (zdP (bf "abcdefghijklmnopqrstuvwxyz") ⟨#[y]⟩+1+c/36%25) (b:=26) ();have s:=cw (zdP (bf "abcdefghijklmnopqrstuvwxyz") ⟨#[y]⟩+1+c/36%25) (b:=26) ();obtain⟨d,r,o⟩:=zg6 u s;exact⟨_,Z,_,Z,Z,_,Z,_,Z,x,k,y,Z,Z,h,p,_,_,Z,Z,_,_,Z,Z,_,Z,_,_,Z,Z,dB,_,_,Z,Z,by show (0:Int)<25;decide,_,_,Z,Z,_,_,Z,Z,by show (0:Int)<26;decide,_,_,d,Z,Z,m,r,ze4 (t:=t) j () o q⟩
end
section
variable {p a b sp tp:L}{Hb:D}{kd:Int}{sh sl:Str}{e0 f:List V}
theorem zhC{e:Int}(O:okD e)(J:∃i,H p=U (.lst i)/\uq i 1=U (.int e))(g:yY sh=ak)(d:yY sl=ak)(s:aY e0)(x:tmP e0)(z:H sp=U (.tup e0))(A:Hb sp=am)(j:aY f)(k:tmP f)(l:H tp=U (.tup f))(m:Hb tp=am)(S:aL Hb H) (q:∀v r n,aL Hb n->hZ (λb=>Hb b=am) n v r->rwW r->Q v n) :
  YM K t (mt Q) [U (.ref p),U (.ref a),U (.ref b),U (.int kd),U (.str sh),U (.str sl),U (.ref sp),U (.ref tp)] H:=by
 obtain⟨C,G⟩:=XX (u:=.str sl) (.inr ⟨sl,Z,d⟩);obtain⟨i,N,M⟩:=J;refine⟨_,Z,_,_,Z,Z,_,Z,vZ (λ_=>⟨_,Z,_,Z,_,Z,by show 4<=Bb;rw[bL];decide,λr c=>?_⟩) λ_=>⟨_,Z,_,_,Z,Z,_,Z,vZ (λ_=>⟨_,Z,_,Z,_,Z,by show 4<=Bb;rw[bL];decide,λr c=>?_⟩) λ_=>⟨_,Z,Z,_,Z,vZ (λ_=>⟨_,Z,_,Z,by show 3<=Bb;rw[bL];decide,λr c=>?_⟩) λ_=>⟨_,Z,Z,_,Z,vZ (λ_=>⟨_,Z,by show 2<=Bb;rw[bL];decide,λr c=>?_⟩) λ_=>⟨_,Z,KL Z N M ⟨_,_,Z,Z,by show (0:Int)<3;decide,_,_,Z,Z,by show 3<=Bb;rw[bL];decide,λy h=>⟨by show 2<=Bb;rw[bL];decide,λr c=>?_⟩⟩⟩⟩⟩⟩⟩
 .exact q _ (.take sh e0 sl) _ (S.trans (tM r c)) ⟨r,sp,Z,zH S c,A,zj,tM r c _ _ z⟩ ⟨trivial,⟨Yi g,x,Yi d⟩,s⟩
 .exact q _ (.give sh e0 f) _ (S.trans (tM r c)) ⟨r,sp,tp,Z,zH S c,A,m,zj,tM r c _ _ z,tM r c _ _ l⟩ ⟨trivial,⟨Yi g,x,k⟩,⟨s,j⟩⟩
 .exact q _ (.lt sl f) _ (S.trans (tM r c)) ⟨r,tp,Z,zH S c,m,zj,tM r c _ _ l⟩ ⟨trivial,⟨Yi d,k⟩,j⟩
 .exact q _ (.say f) _ (S.trans (tM r c)) ⟨r,tp,Z,zH S c,m,zj,tM r c _ _ l⟩ ⟨trivial,k,j⟩
 .have w:=tM (o:=HO.tup [V.str sl,V.int (e%3+1),V.str (bf "same")]) y h;have jw:wdJ (bf "same"):=⟨(),(),()⟩;obtain⟨E,I⟩:=XX (u:=.int (e%3+1)) (.inl ⟨_,Z,uv.mpr ()⟩);exact q _ (.off ([.str sl]++[.int (e%3+1)]++[.str (bf "same")])) _ (S.trans (w.trans (tM r c))) ⟨r,y,Z,zH (S.trans w) c,zH S h,zj,tM r c _ _ zj⟩ ⟨trivial,(by unfold Jo;exact zea G I jw),(by unfold Zl;exact QS C E jw (by simp))⟩
end
section
variable {c:Int}{p a b:L}{ds:List Int}{us ws:List Str}
theorem K5{w:List V}{_E:XK}(h:jd w H Q _E) :
  qB K t (mt Q) (zZZ 6 w) H:=by
 obtain⟨c,rfl,q⟩:=h;simp only[qB,ZC,xJ,yB,zZZ,Wn,zt,zS,zv,aN,B,tC,zd,zk,tBM,tyV,zO,vG,Vm,Kq,wF,zfB,rI,rI0,oW,eW,fT,dE,gC,gy,eo,iF,eY,exists_eq_left',V.int.injEq,V.ref.injEq,V.str.injEq,gG,and_true,true_and,and_assoc,exists_and_left,rf,List.set_cons_succ,Nat.reduceSub,Nat.reduceAdd,if_true];have g1:=cK c (b:=6) ();have g2:=cw c (b:=6) ();obtain⟨m,em⟩:∃m:Nat,1+c%6=m:=⟨(1+c%6).toNat,()⟩;rw[em];refine⟨(),m,Z,(),λl ds H1 C fl j G od=>⟨⟨_,aT.of j⟩,λBq hD=>?_⟩⟩;have E:(ds.map V.int).length=ds.length:=bd ..;refine jG (J:=Itl K l) ds.length () (λr=>∃o,r=[o,U (.str "abcdefghijklmnopqrstuvwxyz")]) (λi ys _=>ys.length=i/\∀v∈ys,zkW v) (λ_ _ _ _ _ h=>h) ⟨_,Z⟩ ⟨Z,λ_ z=>nomatch z⟩ (λi H s h=>⟨_,_,aT.of (s _ _ j),bb (by rw[E];exact h)⟩) (λH s=>⟨_,aT.of (s _ _ j),by rw[E];exact bo _⟩) hD ?_ ?_
 .rintro i v r us H2 M ⟨o,rfl⟩ s hi ⟨l9,hR⟩ _ ⟨rfl,g⟩;have g:=g _ (aT.of (s _ _ j));obtain⟨e,_,rfl⟩:=bD.mp (bJ g);simp only[eo,iF,eY,exists_eq_left',V.int.injEq,V.str.injEq,gG,and_true,rf];have f1:=cK e (b:=26) ();have f2:=cw e (b:=26) ();obtain⟨d,hd,G⟩:=zg6 f1 f2;exact⟨(),(),d,hd,⟨_,Z⟩,⟨by rw[bx,l9];rfl,λu z=>(bu.mp z).elim (hR u) λy=>by rw[bn.mp y];exact⟨d,Z,G⟩⟩,aL.refl _⟩
 .intro ys H2 _ ⟨n,g⟩ s hq;obtain⟨f,rfl,hp⟩:=zd6 (P:=λx=>∃c,x=⟨#[c]⟩/\inL c=ak) (ys:=ys) λv k=>by
   obtain⟨c,e,h⟩:=g v k;exact⟨_,e,c,Z,h⟩
  rw[bd] at n;obtain⟨j1,j2,j3⟩:=zcf hp;have I:=zfS f;have jl:(Qv (bf "") f).length=f.length:=by rw[Xk,I,j1]
  have N:=zap (bf "") f 0;refine⟨f,aT.of hq,?_,⟨(),(),by unfold XE;rw[I];exact j2⟩,λx H3 hx A=>?_⟩
  .unfold zfR;rw[N,j3,show (bf "").length=0 from by lia];exact xl ()
  .exact zfo hx λT ws M O fn hn l2=>q T ws M (C.trans (s.trans (A.trans O))) (zH C (zH s (zH A fn))) hn l2
theorem za4{n:List V}{_E:XK}(h:jY n H Q _E) :
  ZV K t (mt Q) (zZZ 8 n) H:=by
 obtain⟨p,a,b,ds,us,ws,rfl,d,G,s,E,C,m,l,q⟩:=h
 match ds,G with
 |[x0,x1,x2],_ =>
 have r:=s x1 (.tail _ (.head _));have y:=s x2 (.tail _ (.tail _ (.head _)));unfold ZV zt zS zv;refine zaP (λ_ q=>KL Z d Z q) () λk _ _=>?_;refine zaQ E C Z (λ_ q=>KL Z d Z ⟨_,_,Z,Z,dB,q⟩) λT j=>?_;refine zaQ m l Z (λ_ q=>KL Z d Z ⟨_,_,Z,Z,dB,q⟩) λO i=>?_;refine KL Z d Z ⟨_,Z,_,_,ws,Z,r,m,l,λN e H1 g J A v x=>?_⟩;refine KL Z (g _ _ d) Z ⟨_,Z,_,_,ws,Z,y,m.same g,l,λM f H2 o I z u w=>?_⟩;have S:=g.trans o;exact zhC (t:=t) r ⟨_,S _ _ d,Z⟩ j i v x (o _ _ A) J u w z (zH g I) S q
end
theorem Ki{x h i:L}{c:List aO}(j:MkF K t)(g:H x=U (.ins t.q02 i []))(e:tN H h c)(d:c.length<=63)(q:∀a F,W7 x H a->tO t a x F c [] 0->(∀b,F b->b=x\/H b=am)->Q .non a) :
  vy K t (mt Q) (zZZ 2 [.ref x,.ref h]) H :=
 zfn j g e d λa F s m f=>q a F s ⟨cO,λ_ h=>(nomatch h),c,m,eC _ _,λp=>rfl⟩ f
theorem Kj{b:List V}{_E:XK}(l:MkF K t)(h:xK t b H Q _E) :
  kC K t (mt Q) (zZZ 5 b) H:=by
 obtain⟨m,p,r,F,g,c,f,e,rfl,a,d,k,q⟩:=h;obtain⟨o,M,_,i⟩:=a.ex;refine zfm l M d.2 k λn s=>?_;rw[Wx (λy j=>(a.ok y j).1) a.nd (i e) d.2];exact q n s
theorem K6{j:List V}{_E:XK}(N:MkF K t)(h:jg t j H Q _E) :
  qE K t (mt Q) (zZZ 5 j) H:=by
 obtain⟨m,ac,gv,F,g,a,low,o,rfl,e,n,C,i,k,A,q⟩:=h;obtain⟨G,M,E,v⟩:=e.ex;have f:=n.2;have d:0<=ac:=oQ n.1 f;refine zhB N M f d C i k (bM (fG _ _) A) λO T I s u J=>q O T I s ?_ J;have b:∀y∈yZ a ac o,0<=y.1/\Ws y.2:=λy hy=>by
  rcases bu.mp hy with hy|hy
  .exact e.ok y (bQ.mp hy).1
  .rw[bn.mp hy];exact⟨d,k⟩
 have c:((yZ a ac o).map (·.1)).Nodup:=by
  unfold yZ;rw[bN,dn];refine⟨gj (gc _ dh) e.nd,by simp,λx w y hy=>?_⟩;have:y=ac:=by simpa using hy
  rw[this];exact λz=>XZ (l:=a) (r:=ac) (by have h:=w;rw[z] at h;exact h)
 refine⟨c,b,G,by rw[zg3 f];exact u,by rw[zg4 f];exact E,λp=>?_⟩;rw[v p];refine zg0 (λy hy=>(e.ok y hy).1) e.nd (λy hy=>(b y hy).1) c λy hy=>?_;constructor
 .intro h;exact cI _ (bQ.mpr ⟨h,Bj λz=>by lia⟩)
 .intro h;rcases bu.mp h with h|h
  .exact(bQ.mp h).1
  .rw[bn.mp h] at hy;have hy:ac<low:=hy;lia
end
abbrev Ba(P:av)(w:ay)(K:bA)(b:Str->Option af)(a:ax):=tq P w K b a (CX1 P w)
section
variable {P:av}{w:ay}{K:bA}{mg:Str->Option af}{base:ax}{t:aX}(T:Txt K mg t)
include T
theorem xO:Ba P w K mg base 1 t.a0 t.d0 ["word"] (yB):=by
 refine T.g0.f.okA XB λa H Q E h=>⟨?_,λ_ _ _ _ b=>⟨jZ K t,(ze (zK (zu Wi (Y 0) (yc (qp (x:="take") (qp (x:="give") (qp (x:="let") (qp (x:="say") (qp (x:="off") (qp (x:="if") (qp (x:="else") (qp (x:="end") (qp (x:="as") zf)))))))))) (by with_unfolding_all rfl)) (zi (zq (zp ve (Y 0) zM)))
   zy) (ze (zK (zu Wi (Y 0) (yc (za zM (za zM (za zM (za zM (za zM (za zM (za zM zf)))))))) (by with_unfolding_all rfl)) (zi (zq (zp ve (Y 0) zM)))
    zy) (zi (zq (Y 0))))),Xc h⟩⟩
 obtain⟨w,rfl,_⟩:=h;rfl
theorem kG:Ba P w K mg base 1 t.a1 t.d1 ["cell","many"] (xJ):=by
 refine T.g1.f.okA q0g λa H Q E h=>⟨?_,λ_ _ _ _ b=>⟨YB K t,(ze (zw q0g.nd (yM zf)) (ze (zw q0g.nd (zp yf (zp zT (Y 0) zh) zh)) (ze (zw q0g.nd (zp yf (zp zT (zp zV (Y 0) zh) zh) zh)) (ze (wa cF Z (ji Z T.q0n (za (Y 1) zf)) (yu q0g.nd) (ze (zw q0g.nd (zp zT (zp yf (zp yf (zp vn (Y 3) (Y 3)) (zp vn zh (Y 4))) (Y 5)) zh)) (ze (zw q0g.nd (zp zT (zp yf (zp yf (zp vn (Y 4) (Y 3)) (zp vn zh (Y 3))) zh) zh)) (zi (zQ (vD bT cG cH xp (Y 2) (za (zp yf (zp vn (Y 3) zh) (Y 4)) zf))))))) (zi (zq (Y 2))))))),JW h⟩⟩
 obtain⟨c,m,rfl,_⟩:=h;rfl
theorem X7:Ba P w K mg base 2 t.a2 t.d2 ["cell"] (jd):=by
 refine T.g2.f.okA q0j λb H Q E h=>⟨?_,λ_ _ _ _ a=>⟨qB K t,(ze (YR (i:=1) q0j.nd Z (pB Z) zM) (ze (zw q0j.nd (vD ou PySem.F.slot_str_join PySem.F.type_str_join zhX zM (za (Yb Z (osc:=zl Zr) (N:=["cell","letters","word","one","at","letter"]) (xs:=["number"]) (ix:=[1]) () (xm (tL (kG T) T.g1 a zo (za (Y 0) (za (zp yf zh (zp zT (Y 0) zh)) zf)))) (λ_ _ _ _=>(wq (i:=0) (show fu (["number","letters"]:List Str) from ()) Z (ig Z) (.inr Z))) (λ_ _ _ _=>v6) (λ_ _ _ _=>(zA zcJ (Y 1) (zp zT (Y 0) zh)))) zf))) (ze (zw q0j.nd (tL (xO T) T.g0 a zo (za (Y 2) zf))) (ze (zw q0j.nd (zp zT (zp zV (Y 0) zh) (zE zX Z T.q05 yy (za (Y 3) zf)))) (ze (zw q0j.nd (zA zcJ (Y 1) (zp zT (zp yf (zp yf (vD ou PySem.F.slot_str_find PySem.F.type_str_find zhW (Y 1) (za (zA zcJ (Y 3) (Y 4)) zf)) zh) (zp zT (zp zV (Y 0) zh) zh)) zh))) (ze (zK (PW.pt (ko (zu yt (zp zT (zp zV (Y 0) zh) zh) zh (zD _)) (v3 (zu vB (zE zX Z T.q05 yy (za (Y 3) zf)) zh (zD _))))) (zi (zq (yM (za (Y 3) (za (tL (xO T) T.g0 a zo (za (zp ve (Y 3) (Y 5)) zf)) zf)))))
    zy) (ze (zK (PW.pt (ko (zu yt (zp zT (zp zV (Y 0) zh) zh) zh (zD _)) (v3 (zu vB (zE zX Z T.q05 yy (za (Y 3) zf)) zh (zD _))))) (zi (zq (yM (za (tL (xO T) T.g0 a zo (za (zp ve (Y 5) (Y 3)) zf)) (za (Y 3) zf)))))
    zy) (zi (zq (yM (za (Y 3) (za (tL (xO T) T.g0 a zo (za (zp ve (zp ve (xQ zfJ (Y 3) qg (xv (Y 4))) (Y 5)) (xQ zfJ (Y 3) (xv (zp yf (Y 4) zh)) qg)) zf)) zf)))))))))))),K5 h⟩⟩
 obtain⟨c,rfl,_⟩:=h;rfl
theorem wV:Ba P w K mg base 1 t.a3 t.d3 ["number"] (xt):=by
 refine T.g3.f.okA JB λa H Q E h=>⟨?_,λ_ _ _ _ b=>⟨ZD K t,(ze (zK (zu yt (zp zT (Y 0) zh) zh (zD _)) (zi (zq (zp vc (zp zT (zp vn (Y 0) (zp YS zh zh)) (zp yf (zp vn zh (zp YS zh zh)) zh)) (zp YS zh zh))))
   zy) (zi (zq (zp vc (zp zT (zp zV (Y 0) zh) zh) zh)))),VF h⟩⟩
 obtain⟨n,rfl,_⟩:=h;rfl
theorem K7:Ba P w K mg base 2 t.a4 t.d4 ["cell","shelves"] (vq):=by
 refine T.g4.f.okA q0o λe H Q E h=>⟨?_,λ_ _ _ _ b=>⟨YC K t,(ze (zw q0o.nd (tL (kG T) T.g1 b zo (za (Y 0) (za zh zf)))) (ze (YR (i:=3) q0o.nd Z (pB Z) kJ) (ze (wa cF Z (ji Z T.q0n (za (zp zT (Y 0) zh) zf)) (yu q0o.nd) (ze (zw q0o.nd (tL (wV T) T.g3 b zo (za (zA zR (Y 2) (zp yf (Y 4) zh)) zf))) (zi (zK (zu WK (Y 5) zh (zD _)) (zi (vm (yH b) (Y 3) (yc (za (zA zR (Y 1) (zp zT (zA zR (Y 2) (Y 4)) zh)) (za (zp zT (zp zV (zA zR (Y 2) (Y 4)) zh) zh) zf))) (Y 5) Z))
    zy)))) (zi (zq (Yb Z (osc:=zl qu) (N:=["cell","shelves","xs","found","k","worth"]) (xs:=["place"]) (ix:=[3]) () (xm (zE (Xm Z) Z T.q10 Yc (za (Y 3) zf))) (λ_ _ _ _=>(wq (i:=0) (show fu (["place","found"]:List Str) from ()) Z (ig Z) (.inr Z))) (λ_ _ _ _=>v6) (λ_ _ _ _=>(yc (za (Y 0) (za (wt (yH b) (Y 1) (Y 0) (λ_ _=>rfl)) zf)))))))))),JX h⟩⟩
 obtain⟨c,a,d,rfl,_⟩:=h;rfl
theorem YN:Ba P w K mg base 1 t.a5 t.d5 ["cell"] (kB):=by
 refine T.g5.f.okA Ku λb H Q E h=>?_;obtain⟨k,rfl,a,q⟩:=h;exact⟨Z,λ_ _ _ _ c=>⟨YD K t,(ze (zK (zu yt (zp zT (zp zV (Y 0) zh) zh) zh (zD _)) (zi (zq zh))
   zy) (zi (zq (zp zT (zp zic (zp zV (Y 0) zh) (zp YS zh zh)) (zp vc (zp YS zh zh) zh))))),Kd a q⟩⟩
theorem K8:Ba P w K mg base 1 t.a6 t.d6 ["self","table"] (kx t):=by
 refine T.q1y.ok0 Kv (λb H Q E h=>?_) (λj A a s H b Q E c h=>?_)
 .obtain⟨x,h,i,k,rfl,_⟩:=h;rfl
 obtain⟨x,h,i,k,rfl,g,e,d,q⟩:=h;exact⟨vy K t,(ze (yw (f:="ground") (Y 0) (yD (ww Z (hu3 c)) Z T.q0z VN (za (Y 1) zf)) Z) (ze (yw (f:="folded") (Y 0) zh Z) (ze (yw (f:="worths") (Y 0) Zf Z) (zi (yw (f:="ranks") (Y 0) kJ Z))))),Ki (mkF T) g e d q⟩
theorem za5:Ba P w K mg base 1 t.a7 t.d7 ["self","makes"] (qA t):=by
 refine T.q20.ok0 zaE (λb H Q E h=>?_) (λc A a s H b Q E d h=>?_)
 .obtain⟨x,m,e,rfl,_⟩:=h;rfl
 exact⟨qC K t,(ze (yw (f:="makes") (Y 0) (Y 1) Z) (ze (yw (f:="laid") (Y 0) Zf Z) (ze (yw (f:="readers") (Y 0) kJ Z) (zi (yw (f:="doubted") (Y 0) Zf Z))))),KR (dkF T) h⟩
theorem X8:Ba P w K mg base 3 t.a8 t.d8 ["self","table","hands","way","first"] (xY t):=by
 refine T.q22.ok0 zaF (λc H Q E h=>?_) (λd A a s H c Q E b h=>?_)
 .obtain⟨x,l,w,i,j,n,f,e,g,rfl,_⟩:=h;rfl
 exact⟨qD K t,(ze (yw (f:="hands") (Y 0) (Y 2) Z) (ze (yw (f:="way") (Y 0) (Y 3) Z) (ze (yw (f:="first") (Y 0) (Y 4) Z) (ze (yw (f:="codes") (Y 0) (yM zf) Z) (ze (yw (f:="waiting") (Y 0) (yM zf) Z) (ze (yw (f:="held") (Y 0) Zf Z) (ze (yw (f:="makes") (Y 0) (Z7 T.mk_Makes (tq.mono (K8 T) ()) b Z T.g_Makes T.q1z .nil zo (za (Y 1) zf)) Z) (ze (yw (f:="jobs") (Y 0) (Z7 T.mk_Jobs (tq.mono (za5 T) ()) b Z T.g_Jobs T.q21 .nil zo (za (zx (Y 0) Z) zf)) Z) (zi (yw (f:="ended") (Y 0) (yM zf) Z)))))))))),KS (dkF T) h⟩
theorem VG:Ba P w K mg base 1 t.a9 t.d9 ["self"] (qP t):=by
 refine T.q24.ok0 Vp (λb H Q E h=>?_) (λe A a s H b Q E g h=>?_)
 .obtain⟨x,d,rfl,_⟩:=h;rfl
 obtain⟨x,d,rfl,c,q⟩:=h;exact⟨qQ K t,(zi (yw (f:="times") (Y 0) zh Z)),Wz (dkF T) c q⟩
theorem X9:Ba P w K mg base 5 t.a10 t.d10 ["table","hands","cell"] (wR t):=by
 refine T.g10.f.okA q0u λb H Q E h=>⟨?_,λ_ _ _ _ a=>⟨XH K t,(ze (zw q0u.nd (zbV T.mo_Way Z T.g_Way)) (ze (zK (zu yt (zp zT (zp zV (Y 2) zh) zh) zh (zD _)) (zi (zw q0u.nd (zbV T.mo_Highest Z T.g_Highest)))
    zy) (ze (zK (zu yt (zp zT (zp zV (Y 2) zh) zh) zh (zD _)) (zi (zw q0u.nd (zfz T.mk_Turning (tq.mono (VG T) ()) a Z T.g_Turning T.q25 .nil zo)))
    zy) (ze (zK (zu yt (zp zT (zp zV (Y 2) zh) zh) zh (zD _)) (zi (zq (zgG T.mk_Desk (tq.mono (X8 T) ()) a Z T.g_Desk T.bd_Desk_init zo (za (yD xw Z T.q0b xx (za (Y 0) zf)) (za (Y 1) (za (Y 3) zf))))))
    zy) (zi (zq (Z7 T.mk_Desk (tq.mono (X8 T) ()) a Z T.g_Desk T.q23 .nil zo (za (yD xw Z T.q0b xx (za (Y 0) zf)) (za (Y 1) (za (Y 3) (za (tL (YN T) T.g5 a zo (za (Y 2) zf)) zf))))))))))),KY h⟩⟩
 obtain⟨c,n,k,g,rfl,_⟩:=h;rfl
theorem wC:Ba P w K mg base 1 t.a11 t.d11 ["self","rank"] (y7 t):=by
 refine T.g11.f.okA YY λe H Q E h=>?_;obtain⟨m,i,g,a,j,rfl,d,c,b,q⟩:=h;exact⟨Z,λ_ _ _ _ f=>⟨jA K t,(zi (zK (zu vB (Y 1) (zx (Y 0) Z) (zD _)) (zi zbe)
   zy)),Yt (mkF T) d c b q⟩⟩
theorem zcw:Ba P w K mg base 1 t.a12 t.d12 ["rows"] (jX):=by
 refine T.g12.f.okA q1d λc H Q E h=>⟨?_,λ_ _ _ _ b=>⟨W8 K t,(ze (YR (i:=1) q1d.nd Z (pB Z) (yD (ww Z (hu3 b)) Z T.q0z VN (za (Y 0) zf))) (zi (zq (Yb Z (osc:=zl YX) (N:=["rows","worths"]) (xs:=["place"]) (ix:=[1]) () (xm (zE (Xm Z) Z T.q10 Yc (za (Y 1) zf))) (λ_ _ _ _=>(wq (i:=0) (show fu (["place","worths"]:List Str) from ()) Z (ig Z) (.inr Z))) (λ_ _ _ _=>(zdK (zu WK (wt (yH b) (Y 1) (Y 0) (λ_ _=>rfl)) zh (zD _)))) (λ_ _ _ _=>(yc (za (Y 0) (za (wt (yH b) (Y 1) (Y 0) (λ_ _=>rfl)) zf)))))))),zaR h⟩⟩
 obtain⟨a,d,rfl,_⟩:=h;rfl
theorem xL:Ba P w K mg base 1 t.a13 t.d13 ["ranks","rank"] (yJ):=by
 refine T.g13.f.okA q0k λb H Q E h=>⟨?_,λ_ _ _ _ d=>⟨YE K t,(ze (zw q0k.nd zh) (ze (zw q0k.nd (zE zX Z T.q05 yy (za (Y 0) zf))) (ze (VY cF (zu vB (Y 2) (Y 3) (zD _)) (ze (zw q0k.nd (zp zV (zp yf (Y 2) (Y 3)) zh)) (zi (zK (zu vB (zA zR (Y 0) (Y 4)) (Y 1) (zD _)) (zi (zw q0k.nd (zp yf (Y 4) zh))) (zi (zw q0k.nd (Y 4))))))) (zi (zq (Y 2)))))),Kh h⟩⟩
 obtain⟨a,c,e,rfl,_⟩:=h;rfl
theorem kH:Ba P w K mg base 2 t.a14 t.d14 ["self","place","rank"] (xK t):=by
 refine T.g14.f.okA q11 λd H Q E h=>⟨?_,λ_ _ _ _ a=>⟨kC K t,(ze (zQ (ub (Y 0) T.q09 (wC T) T.g11 a zo (za (Y 2) zf))) (ze (zw q11.nd (kK (yH a) (zx (Y 0) Z) (Y 1) (yM zf) ⟨Z,Z,Z,Z⟩)) (ze (zw q11.nd (tL (xL T) T.g13 a zo (za (Y 3) (za (Y 2) zf)))) (ze (zK (zu yt (Y 4) zh (zD _)) (zi (zq (kK (yH a) (zx (Y 0) Z) (Y 1) zh ⟨Z,Z,Z,Z⟩)))
    zy) (zi (zq (wt (yH a) (wt (yH a) (zx (Y 0) Z) (zA zR (Y 3) (zp vc (Y 4) zh)) (λ_ _=>rfl)) (Y 1) (λ_ _=>rfl)))))))),Kj (mkF T) h⟩⟩
 obtain⟨m,p,f,F,g,b,c,e,rfl,_⟩:=h;rfl
theorem jI:Ba P w K mg base 3 t.a15 t.d15 ["self","rank"] (y9 t):=by
 refine T.g15.f.okA q1e λd H Q E h=>⟨?_,λ_ _ _ _ a=>⟨jB K t,(ze (zQ (ub (Y 0) T.q09 (wC T) T.g11 a zo (za (Y 1) zf))) (ze (zw q1e.nd (zp Zd (yD (ju Z) Z T.q0b xx (za (zx (Y 0) Z) zf)) (yD (ju Z) Z T.q0b xx (za (zx (Y 0) Z) zf)))) (zi (zq (tL (zcw T) T.g12 a zo (za (Yb Z (osc:=zl wL) (N:=["self","rank","places"]) (xs:=["place"]) (ix:=[0,1]) () (xm (Y 2)) (λ_ _ _ _=>(wq (i:=0) (show fu (["place","self","rank"]:List Str) from ()) Z (ig Z) (.inr Z))) (λ_ _ _ _=>v6) (λ_ _ _ _=>(yc (za (Y 0) (za (ub (Y 1) T.q09 (kH T) T.g14 a zo (za (Y 0) (za (Y 2) zf))) zf))))) zf)))))),Yp (mkF T) h⟩⟩
 obtain⟨m,e,F,g,b,c,rfl,_⟩:=h;rfl
theorem wD:Ba P w K mg base 1 t.a16 t.d16 ["self","rank"] (yG t):=by
 refine T.g16.f.okA YZ λd H Q E h=>⟨?_,λ_ _ _ _ c=>⟨jC K t,(zi (zq (yD (ju Z) Z T.q0b xx (za (kK (yH c) (zx (Y 0) Z) (Y 1) kJ ⟨Z,Z,Z,Z⟩) zf)))),Yr (mkF T) h⟩⟩;obtain⟨m,e,F,g,a,b,rfl,_⟩:=h;rfl
theorem Wa:Ba P w K mg base 1 t.a17 t.d17 ["ranks_at","place","rank"] (xW):=by
 refine T.g17.f.okA q1f λb H Q E h=>⟨?_,λ_ _ _ _ a=>⟨XI K t,(ze (zw q1f.nd (wt (yH a) (Y 0) (Y 1) (λ_ _=>rfl))) (ze (zQ (vD bT m5 m6 QE (Y 3) (za (Y 2) zf))) (zi (zK (zu (zbw (zhY a)) (Y 3) (yM zf) (zD _)) (zi (zQ (zgA (yH a) (Y 0) (Y 1) ⟨Z,Z,Z,Z⟩)))
    zy)))),K4 h⟩⟩
 obtain⟨rk,d,f,G,P,e,c,rfl,_⟩:=h;rfl
theorem jJ:Ba P w K mg base 2 t.a18 t.d18 ["self","rank"] (y8 t):=by
 refine T.g18.f.okA q12 λd H Q E h=>⟨?_,λ_ _ _ _ b=>⟨jD K t,(ze (zw q12.nd (ub (Y 0) T.q09 (wD T) T.g16 b zo (za (Y 1) zf))) (ze (zQ (zbq (zx (Y 0) Z) (Y 1) xh ⟨Z,Z,Z,Z⟩)) (zi (wa cF Z (xm (Y 2)) (yu q12.nd) (zi (zQ (tL (Wa T) T.g17 b zo (za (zx (Y 0) Z) (za (Y 3) (za (Y 1) zf)))))))))),Ys (mkF T) h⟩⟩
 obtain⟨m,e,F,g,a,c,rfl,_⟩:=h;rfl
theorem K9:Ba P w K mg base 4 t.a19 t.d19 ["self","rank"] (vx t):=by
 refine T.g19.f.okA q13 λd H Q E h=>⟨?_,λ_ _ _ _ a=>⟨YF K t,(ze (yw (f:="ground") (Y 0) (yD (ww Z (hu3 a)) Z T.q0z VN (za (ub (Y 0) T.q09 (jI T) T.g15 a zo (za (Y 1) zf)) zf)) Z) (ze (zdY (jp (j:=2) q13.nd Z Z (ig Z) (osc:=zl qv) (N:=["self","rank","lower","laid"]) (xs:=["laid"]) (ix:=[1]) () (zbT (zx (Y 0) Z)) (λ_ _ _ _=>(wq (i:=0) (show fu (["laid","rank"]:List Str) from ()) Z (ig Z) (.inr Z))) (λ_ _ _ _=>(zdK (zu vB (Y 0) (Y 1) (zD _)))) (λ_ _ _ _=>(Y 0)))) (ze (wa cF Z (xm (Y 2)) (yu q13.nd) (zi (zQ (ub (Y 0) T.q09 (jJ T) T.g18 a zo (za (Y 3) zf))))) (zi (yw (f:="folded") (Y 0) (Y 1) Z))))),Kc (mkF T) h⟩⟩
 obtain⟨m,e,F,g,b,c,rfl,_⟩:=h;rfl
theorem xF:Ba P w K mg base 1 t.a20 t.d20 ["self"] (yP t):=by
 refine T.g20.f.okA Vq λe H Q E h=>?_;obtain⟨d,j,a,n,f,i,rfl,c,b,q⟩:=h;exact⟨Z,λ_ _ _ _ g=>⟨qT K t,(zi (zq (zp yf (zx (Y 0) Z) (zE zX Z T.q05 yy (za (zx (Y 0) Z) zf))))),Wy (dkF T) c b q⟩⟩
theorem Wb:Ba P w K mg base 5 t.a21 t.d21 ["self"] (wQ t):=by
 refine T.g21.f.okA zaG λc H Q E h=>⟨?_,λ_ _ _ _ b=>⟨XJ K t,(zi (zQ (ub (zx (Y 0) Z) T.q09 (K9 T) T.g19 b zo (za (we (Y 0) T.q04 (xF T) T.g20 b zo) zf)))),KW (dkF T) h⟩⟩;obtain⟨d,a,e,n,f,i,g,j,S,rfl,_⟩:=h;rfl
theorem yE:Ba P w K mg base 1 t.a22 t.d22 ["script","k"] (yg K):=by
 refine T.g22.f.okA Vr λb H Q E h=>⟨?_,λ_ _ _ _ d=>⟨qU K t,(ze (zK (zu vB (Y 1) (zE zX Z T.q05 yy (za (Y 0) zf)) (zD _)) (zi (zq (zA zR (Y 0) (Y 1))))
   zy) (zi (zq zh))),WD h⟩⟩
 obtain⟨a,c,k,rfl,_⟩:=h;rfl
theorem Kk(n:Nat)(d:Ba P w K mg base (2+2*n) t.a24 t.d24 ["rows","first"] (wH n)):Ba P w K mg base (2+2*n+1) t.a23 t.d23 ["row","at"] (Zz n):=by
 refine T.g23.f.okA q0v (k:=2+2*n) λl H Q E h=>?_;obtain⟨v,e,a,b,k,rfl,j,i,g,f,q⟩:=h;exact⟨Z,λ_ _ _ _ c=>⟨ZF K t n,(ze (zw q0v.nd (Xf (tq.mono d ()) c Z T.g24.m T.g24.f.kp T.g24.b .nil zo (za (zA zY (Y 0) zh) (za (zp yf (Y 1) zh) zf)))) (ze (zw q0v.nd (zp yf (zp yf (Y 1) zh) (zE zX Z T.q05 yy (za (Y 2) zf)))) (ze (zK (zu (zbw (zhY c)) (zA zY (Y 0) zh) (yM zf) (zD _)) (zi (zq (zp Zd (yM (za (yc (za zM (za (zA zY (Y 0) zh) (za (Y 3) zf)))) zf)) (Y 2))))
    zy) (ze (zw q0v.nd (Xf (tq.mono d ()) c Z T.g24.m T.g24.f.kp T.g24.b .nil zo (za (zA zY (Y 0) zh) (za (zp yf (Y 3) zh) zf)))) (zi (zq (zp Zd (zp Zd (zp Zd (yM (za (yc (za zM (za (zA zY (Y 0) zh) (za (zp yf (Y 3) zh) zf)))) zf)) (Y 2)) (yM (za (yc (za zM (za (zp yf (zp yf (Y 3) zh) (zE zX Z T.q05 yy (za (Y 4) zf))) zf))) zf))) (Y 4)))))))),VB j i g f q⟩⟩
theorem zcx:∀n,tq P w K mg base (CX1 P w) (2+2*n) t.a24 t.d24 ["rows","first"] (wH n):=by
 intro n;induction n with
 |zero=>exact⟨λb H Q E h=>(XS h).elim,λA a s H d i b Q E c l m j h=>(XS h).elim⟩
 |succ n IH =>
 refine T.g24.f.okA q14 (k:=2+2*n+1) λb H Q E h=>?_;obtain⟨v,r,k,rfl,g,f,e,q⟩:=h;exact⟨Z,λ_ _ _ _ c=>⟨W9 K t n,(ze (zw q14.nd (yM zf)) (ze (wa cF Z (xm (Y 0)) (yu q14.nd) (zi (zK (zu yt (zA zY (Y 3) zh) zM (zD _)) (zi (zQ (vD bT PySem.F.slot_list_extend PySem.F.type_list_extend zeC (Y 2) (za (Xf (tq.mono (Kk T n IH) ()) c Z T.g23.m T.g23.f.kp T.g23.b .nil zo (za (Y 3) (za (zp yf (Y 1) (zE zX Z T.q05 yy (za (Y 2) zf))) zf))) zf)))) (zi (zQ (vD bT cG cH xp (Y 2) (za (Y 3) zf))))))) (zi (zq (Y 2))))),zaL g f e q⟩⟩
theorem zdv:Ba P w K mg base 15 t.a25 t.d25 ["rows"] (Y3):=by
 refine T.g25.f.okA zdf λe H Q E h=>?_;obtain⟨v,r,rfl,d,c,b,q⟩:=h;exact⟨Z,λ_ _ _ _ a=>⟨JH K t,(zi (zq (tL (zcx T 6) T.g24 a zo (za (Y 0) (za zh zf))))),zcv d c b q⟩⟩
theorem vS:Ba P w K mg base 1 t.a26 t.d26 ["self"] (xu t):=by
 refine T.g26.f.okA zbX λb H Q E h=>⟨?_,λ_ _ _ _ c=>⟨Va K t,(zi (zq (zkc (VL VJ (zx (Y 0) Z) xh (zD _)) (VW (VL ziO (zx (Y 0) Z) (zE zX Z T.q05 yy (za (zx (Y 0) Z) zf)) (zD _)))))),za3 (rnF T) h⟩⟩;obtain⟨x,a,C,s,rfl,_⟩:=h;rfl
theorem zdw:Ba P w K mg base 1 t.a27 t.d27 ["word","first","second"] (qx t):=by
 refine T.g27.f.okB zdg λc H Q E h=>⟨?_,λ_ _ _ _ d=>⟨JI K t E,(ze (zK (zu yt (Y 2) zh (zD _)) (zi (zbu Z T.q2z zdN Z T.g_Nought (za (zdO (Y 0)) zf)))
   zy) (zi (zq (jn (zu yt (Y 0) zM (zD _)) (zp zfT (Y 1) (Y 2)) (zp zhH (Y 1) (Y 2)))))),zct h⟩⟩
 obtain⟨w,a,b,rfl,_⟩:=h;rfl
theorem zdx:Ba P w K mg base 2 t.a28 t.d28 ["word","first","second"] (qy t):=by
 refine T.g28.f.okB zdh λd H Q E h=>⟨?_,λ_ _ _ _ c=>⟨JJ K t E,(ze (zK (zu yt (Y 0) zM (zD _)) (zi (zq (zp yf (Y 1) (Y 2))))
   zy) (ze (zK (zu yt (Y 0) zM (zD _)) (zi (zq (zp vc (Y 1) (Y 2))))
    zy) (ze (zK (zu yt (Y 0) zM (zD _)) (zi (zq (zp vn (Y 1) (Y 2))))
    zy) (ze (zK (zu yt (Y 0) zM (zD _)) (zi (zq (jn (zu vB (Y 1) (Y 2) (zD _)) zh zh)))
    zy) (ze (zK (zu yt (Y 0) zM (zD _)) (zi (zq (jn (zu yt (Y 1) (Y 2) (zD _)) zh zh)))
    zy) (zi (zq (tL (zdw T) T.g27 c jq (za (Y 0) (za (Y 1) (za (Y 2) zf))))))))))),zcu h⟩⟩
 obtain⟨w,a,b,rfl,_⟩:=h;rfl
theorem zcy:Ba P w K mg base 1 t.a29 t.d29 ["thing"] (W6):=by
 refine T.g29.f.okA zbY λa H Q E h=>?_;obtain⟨i,rfl,q⟩:=h;exact⟨Z,λ_ _ _ _ c=>⟨ZG K t,(ze (zK (PW.pt (VV (xP (yL (zE xq Z T.q0c yh (za (Y 0) (za (xV Z T.b_int zfI Z) zf))))) (YQ (yL (zE xq Z T.q0c yh (za (Y 0) (za (xV Z T.q1v zdM Z) zf))))))) (zi (zq (wE (b:=aq))))
   zy) (zi (zq (zfv zfu zfu (ziN zfs (zp YS zh zh)) (Y 0) (zp YS zh zh))))),za2 (kf K).i_b q⟩⟩
theorem zfp:Ba P w K mg base 3 t.a30 t.d30 ["word","first","second"] (Yh t):=by
 refine T.g30.f.okB q1g λd H Q E h=>⟨?_,λ_ _ _ _ c=>⟨QK K t E,(ze (zw q1g.nd (tL (zdx T) T.g28 c jq (za (Y 0) (za (Y 1) (za (Y 2) zf))))) (ze (zK (xP (yL (tL (zcy T) T.g29 c jq (za (Y 3) zf)))) (zi (zbu Z T.q32 zdN Z T.g_Great (za (zdO (Y 0)) zf)))
    zy) (zi (zq (Y 3))))),zdu h⟩⟩
 obtain⟨w,a,b,rfl,_⟩:=h;rfl
theorem zcz:Ba P w K mg base 4 t.a31 t.d31 ["term","slots"] (Zy t):=by
 refine T.g31.f.okB q0p λi H Q E h=>?_;obtain⟨m,j,k,l,r,rfl,g,f,e,d,c,b,q⟩:=h;exact⟨Z,λ_ _ _ _ a=>⟨Vb K t E,(ze (zw q0p.nd (yM zf)) (ze (wa zkO Z (zji (Y 0)) (yu q0p.nd) (zi (zK (zu Wi (Y 3) (zhF Z T.g_JOINING Z) (by with_unfolding_all rfl)) (ze (zw q0p.nd (zcK bT lf lh zcM (Y 2))) (ze (zw q0p.nd (zcK bT lf lh zcM (Y 2))) (zi (zQ (vD bT cG cH xp (Y 2) (za (tL (zfp T) T.g30 a jq (za (Y 3) (za (Y 5) (za (Y 4) zf)))) zf)))))) (zi (zQ (vD bT cG cH xp (Y 2) (za (jn (yL (zE xq Z T.q0c yh (za (Y 3) (za (xV Z T.q1b zcP Z) zf)))) (kK (yH a) (Y 1) (Y 3) zh ⟨Z,Z,Z,Z⟩) (Y 3)) zf))))))) (zi (zq (zcK bT lf lh zcM (Y 2)))))),za1 (kf K).i_s T.q29 g f e d c b q⟩⟩
theorem xb:Ba P w K mg base 5 t.a32 t.d32 ["self","term"] (yq t):=by
 refine T.g32.f.okB Vs λi H Q E h=>?_;obtain⟨x,j,e,a,C,s,rfl,g,f,d,c,q⟩:=h;exact⟨Z,λ_ _ _ _ b=>⟨qV K t E,(zi (zq (tL (zcz T) T.g31 b jq (za (Y 1) (za (zx (Y 0) Z) zf))))),WE (rnF T) g f d c q⟩⟩
theorem vU:Ba P w K mg base 6 t.a33 t.d33 ["self","due"] (yO t):=by
 refine T.g33.f.okB Vt λd H Q E h=>⟨?_,λ_ _ _ _ b=>⟨qW K t E,(zi (zq (yc (za (zA zY (Y 1) zh) (za (ub (Y 0) T.q07 (xb T) T.g32 b jq (za (zA zY (Y 1) zh) zf)) zf))))),WF (rnF T) h⟩⟩;obtain⟨x,p,c,g,f,e,a,C,s,rfl,_⟩:=h;rfl
theorem zcA:Ba P w K mg base 7 t.a34 t.d34 ["self"] (jW t):=by
 refine T.g34.f.okA q1h λc H Q E h=>⟨?_,λ_ _ _ _ b=>⟨Vc K t,(ze (zK (PW.pt (VV (yL (we (Y 0) T.q07 (vS T) T.g26 b zo)) (YQ (zu WK (zA zY (zA zR (zx (Y 0) Z) (zx (Y 0) Z)) zh) zM (zD _))))) (zi (zq xh))
   zy) (ze (zie (And.intro rfl rfl) rfl (zhS (i:=1) q1h.nd rfl (ig rfl) (zbI (Y 0) T.q07 T.g33.me (tq.mono (vU T) ()) b T.g33.b (za (zA zR (zx (Y 0) rfl) (zx (Y 0) rfl)) zf))) rfl T.g_Great rfl T.g_Nought (λ_=>(zi (zq xh)))) (ze (zK (PW.pt (VV (zu (VO (yH b)) (Y 1) (zx (Y 0) Z) (by with_unfolding_all rfl)) (YQ (zu (VO (yH b)) (Y 1) (zx (Y 0) Z) (by with_unfolding_all rfl))))) (zi (zq xh))
    zy) (zi (zq (Y 1)))))),zaY T h⟩⟩
 obtain⟨x,a,C,s,rfl,_⟩:=h;rfl
theorem za6:Ba P w K mg base 1 t.a35 t.d35 ["self","place","worth"] (ja t):=by
 refine T.g35.f.okA zaH λc H Q E h=>⟨?_,λ_ _ _ _ b=>⟨XL K t,(ze (zK (zu (VO (yH b)) (Y 1) (zx (Y 0) Z) (by with_unfolding_all rfl)) (zi (zq (wt (yH b) (zx (Y 0) Z) (Y 1) (λ_ _=>rfl))))
   zy) (ze (zK (zu (Jk (yH b)) (Y 1) (zx (Y 0) Z) (by with_unfolding_all rfl)) (zi (vm (yH b) (zx (Y 0) Z) (Y 1) (Y 2) Z))
    zy) (zi (zq (wt (yH b) (zx (Y 0) Z) (Y 1) (λ_ _=>rfl)))))),K3 (rnF T) h⟩⟩
 obtain⟨x,q,p,w,a,C,s,rfl,_⟩:=h;rfl
theorem zcB:Ba P w K mg base 7 t.a36 t.d36 ["self","due","worth"] (jV t):=by
 refine T.g36.f.okB q1i λc H Q E h=>⟨?_,λ_ _ _ _ b=>⟨Vd K t E,(zi (zK (zu yt (zA zY (Y 1) zh) zM (zD _)) (zi (vm (yH b) (zx (Y 0) Z) (zA zY (Y 1) zh) (ub (Y 0) T.q07 (za6 T) T.g35 b jq (za (ub (Y 0) T.q07 (vU T) T.g33 b jq (za (Y 1) zf)) (za (Y 2) zf))) Z)) (zi (zK (zu yt (zA zY (Y 1) zh) zM (zD _)) (ze (zw q1i.nd (ub (Y 0) T.q07 (vU T) T.g33 b jq (za (Y 1) zf))) (zi (vm (yH b) (zx (Y 0) Z) (Y 3) (ub (Y 0) T.q07 (xb T) T.g32 b jq (za (zA zY (Y 1) zh) zf)) Z))) (zi (zK (zu yt (zA zY (Y 1) zh) zM (zD _)) (zi (vm (yH b) (zx (Y 0) Z) (zA zY (Y 1) zh) (ub (Y 0) T.q07 (xb T) T.g32 b jq (za (zA zY (Y 1) zh) zf)) Z)) (zi (zQ (vD bT cG cH xp (zx (Y 0) Z) (za (ub (Y 0) T.q07 (xb T) T.g32 b jq (za (zA zY (Y 1) zh) zf)) zf)))))))))),zaX (rnF T) h⟩⟩
 obtain⟨x,v,r,w,m,a,C,s,rfl,_⟩:=h;rfl
theorem Qa:Ba P w K mg base 8 t.a37 t.d37 ["self","due","worth"] (vp t):=by
 refine T.g37.f.okB Kw λd H Q E h=>⟨?_,λ_ _ _ _ b=>⟨YH K t E,(ze (zK (zu yt (zA zY (Y 1) zh) zM (zD _)) (zi (zq (zA zY (Y 1) zh)))
   zy) (ze (zK (zu yt (zA zY (Y 1) zh) zM (zD _)) (zi (zq (jn (zu yt (ub (Y 0) T.q07 (xb T) T.g32 b jq (za (zA zY (Y 1) zh) zf)) zh (zD _)) (zA zY (Y 1) zh) (zp yf (zx (Y 0) Z) zh))))
    zy) (ze (zK (zu yt (zA zY (Y 1) zh) zM (zD _)) (zi (zK (zu WK (ub (Y 0) T.q07 (xb T) T.g32 b jq (za (zA zY (Y 1) zh) zf)) zh (zD _)) (zi (yw (f:="why") (Y 0) zM Z))
    zy)) (zi (zQ (ub (Y 0) T.q07 (zcB T) T.g36 b jq (za (Y 1) (za (Y 2) zf)))))) (zi (zq (zp yf (zx (Y 0) Z) zh)))))),Kg (rnF T) h⟩⟩
 obtain⟨x,v,c,w,m,a,C,s,rfl,_⟩:=h;rfl
theorem kh:Ba P w K mg base 9 t.a38 t.d38 ["self","worth"] (wI t):=by
 refine T.q26.ok0 zbZ (λd H Q E h=>?_) (λe A b s H d Q E c h=>?_)
 .obtain⟨x,w,m,a,C,s,rfl,_⟩:=h;rfl
 exact⟨Ve K t,(ze (zK (yL (we (Y 0) T.q07 (vS T) T.g26 c zo)) (zi zhG)
   zy) (zi (zgf (And.intro rfl rfl) rfl (zid (f:="at") (Y 0) (zbI (Y 0) T.q07 T.g37.me (tq.mono (Qa T) ()) c T.g37.b (za (zA zR (zx (Y 0) rfl) (zx (Y 0) rfl)) (za (Y 1) zf))) rfl) rfl T.g_Great rfl T.g_Nought (λ_=>(zi (yw (f:="why") (Y 0) zM rfl))) (λ_=>(zi (yw (f:="why") (Y 0) zM rfl)))))),zaZ T h⟩
theorem Z4:Ba P w K mg base 3 t.a39 t.d39 ["self","rank"] (xR t):=by
 refine T.g39.f.okA q0w λo H Q E h=>?_;obtain⟨d,a,q,A,s,v,g,b,PP,x,z,y,r,p,u,rfl,n,m,l,k,j,i,f,e⟩:=h;exact⟨Z,λ_ _ _ _ c=>⟨vM K t,(ze (wa cF Z (xm (zA zY (wt (yH c) (zx (Y 0) Z) (Y 1) (λ_ _=>rfl)) zh)) (Q6 Z (vA (yu q0w.nd) (vA (yu q0w.nd) VI))) (ze (zw q0w.nd (ub (zx (Y 0) Z) T.q09 (kH T) T.g14 c zo (za (Y 2) (za (Y 1) zf)))) (zi (zK (zu WK (Y 4) (Y 3) (zD _)) (zi (zq (yc (za (Y 2) (za (Y 3) (za (Y 4) zf))))))
    zy)))) (zi (zq xh))),Za (dkF T) n m l k j i f e⟩⟩
theorem qJ:Ba P w K mg base 4 t.a40 t.d40 ["self"] (xA t):=by
 refine T.g40.f.okA q0x λs H Q E h=>?_;obtain⟨⟨d,a,v,n,f,z,r,G,q,y,x,C,A,g,b,u,I⟩,rfl,p,o,m,l,k,j,e,c⟩:=h;exact⟨Z,λ_ _ _ _ i=>⟨wT K t,(ze (zw q0x.nd (zE (zaD Z) Z T.q10 Yc (za (zx (Y 0) Z) zf))) (ze (wa cF Z (xm (Y 1)) (yu q0x.nd) (ze (zw q0x.nd (ub (Y 0) T.q0i (Z4 T) T.g39 i zo (za (Y 2) zf))) (ze (zK (zu VJ (Y 3) xh (zD _)) (zi (zq (zp zdC (yc (za (Y 2) zf)) (Y 3))))
    zy) (zi (zQ (V6 (zx (Y 0) Z) (Y 2) ⟨Z,Z,Z,Z⟩)))))) (zi (zq xh)))),qc (dkF T) p o m l k j e c⟩⟩
theorem qd:Ba P w K mg base 2 t.a41 t.d41 ["self","rank"] (xX t):=by
 refine T.g41.f.okA q0y λr H Q E h=>?_;obtain⟨⟨d,a,v,n,f,A,p,I,o,y,x,G,C,g,b,u,M⟩,J,s,z,rfl,m,l,k,j,i,e,q⟩:=h;exact⟨Z,λ_ _ _ _ c=>⟨kY K t,(ze (zw q0y.nd (V6 (zx (Y 0) Z) (Y 1) ⟨Z,Z,Z,Z⟩)) (ze (zQ (zbq (zx (Y 0) Z) (Y 1) xh ⟨Z,Z,Z,Z⟩)) (ze (wa cF Z (xm (zA zY (Y 2) zh)) (Q6 Z (vA (yu q0y.nd) (vA (yu q0y.nd) VI))) (zi (zQ (tL (Wa T) T.g17 c zo (za (zx (Y 0) Z) (za (Y 3) (za (Y 1) zf))))))) (zi (zq (Y 2)))))),X3 (dkF T) m l k j i e q⟩⟩
theorem Wc:Ba P w K mg base 1 t.a42 t.d42 ["self","ranks"] (wO t):=by
 refine T.g42.f.okA XC λd H Q E h=>?_;obtain⟨x,l,c,rfl,b,a,q⟩:=h;exact⟨Z,λ_ _ _ _ e=>⟨j6 K t,(zi (zq (zA zR (Y 1) (ziN zfs zh)))),Xa  b a q⟩⟩
theorem Wd:Ba P w K mg base 1 t.a43 t.d43 ["self","ranks"] (wP t):=by
 refine T.g43.f.okA q1j λe H Q E h=>?_;obtain⟨x,l,i,d,k,rfl,c,b,a,q⟩:=h;exact⟨Z,λ_ _ _ _ g=>⟨j7 K t,(ze (zw q1j.nd (zp zT (zx (Y 0) Z) (zE zX Z T.q05 yy (za (Y 1) zf)))) (ze (zez (f:="times") (Y 0) zh zjm) (zi (zq (zA zR (Y 1) (Y 2)))))),Xb (dkF T) c b a q⟩⟩
theorem Qb:Ba P w K mg base 1 t.a44 t.d44 ["self","ranks"] (kA t):=by
 refine T.g44.f.okA Kx λd H Q E h=>?_;obtain⟨x,l,c,rfl,b,a,q⟩:=h;exact⟨Z,λ_ _ _ _ e=>⟨YI K t,(zi (zq (zA zR (Y 1) zh))),J7  b a q⟩⟩
theorem Vi:Ba P w K mg base 1 t.a45 t.d45 ["self","code"] (jU t):=by
 refine T.q27.ok0 zb0 (λc H Q E h=>?_) (λj A a s H c Q E k h=>?_)
 .obtain⟨x,l,i,b,C,rfl,_⟩:=h;rfl
 obtain⟨x,l,i,b,C,rfl,g,e,d,q⟩:=h;exact⟨ZH K t,(ze (yw (f:="code") (Y 0) (yD xw Z T.q0b xx (za (Y 1) zf)) Z) (ze (yw (f:="at") (Y 0) zh Z) (ze (yw (f:="why") (Y 0) xh Z) (ze (yw (f:="slots") (Y 0) Zf Z) (ze (yw (f:="gifts") (Y 0) kJ Z) (ze (yw (f:="notes") (Y 0) kJ Z) (zi (yw (f:="sayings") (Y 0) (yM zf) Z)))))))),KQ (rnF T) g e d q⟩
theorem WG:Ba P w K mg base 3 t.a46 t.d46 ["self","hand"] (xZ t):=by
 refine T.g46.f.okA q1k λc H Q E h=>⟨?_,λ_ _ _ _ b=>⟨kZ K t,(ze (zw q1k.nd (zgF (zx (Y 0) Z) (zaC (zgE T.q1w T.g42.me (tq.mono (Wc T) ()) b T.g42.b) (zaC (zgE T.q1s T.g43.me (tq.mono (Wd T) ()) b T.g43.b) (zaC (zgE T.q1x T.g44.me (tq.mono (Qb T) ()) b T.g44.b) zjE))) zo (za (yD xw Z T.q0b xx (za (zx (Y 0) Z) zf)) zf))) (ze (zQ (vD bT m5 m6 QE (zx (Y 0) Z) (za (Y 2) zf))) (ze (vm (yH b) (zx (Y 0) Z) (Y 1) (yc (za (Y 2) (za (Z7 T.mk_Run (tq.mono (Vi T) ()) b Z T.g_Run T.q1u .nil zo (za (zA zR (zx (Y 0) Z) (zp vc (Y 2) (zx (Y 0) Z))) zf)) zf))) Z) (zi (zq (yc (za zM (za (Y 1) (za (Y 2) zf))))))))),X5 (dkF T) h⟩⟩
 obtain⟨d,a,e,n,f,h,i,g,j,S,rfl,_⟩:=h;rfl
theorem Xd:Ba P w K mg base 5 t.a47 t.d47 ["self","hand"] (xB t):=by
 refine T.g47.f.okA q15 λc H Q E h=>⟨?_,λ_ _ _ _ b=>⟨jE K t,(ze (zw q15.nd (we (Y 0) T.q04 (xF T) T.g20 b zo)) (ze (zw q15.nd (we (zx (Y 0) Z) T.q0i (qJ T) T.g40 b zo)) (ze (zK (PW.pt (ko (zu (VO (yH b)) (Y 2) (zx (zx (Y 0) Z) Z) (by with_unfolding_all rfl)) (v3 (PW.pt (VV (zu Q9 (Y 3) xh (zD _)) (YQ (zu WK (zA zY (Y 3) zh) (Y 2) (zD _)))))))) (ze (zQ (vD bT cG cH xp (zx (Y 0) Z) (za (ub (zx (Y 0) Z) T.q0i (qd T) T.g41 b zo (za (Y 2) zf)) zf))) (zi (zq (yc (za zM (za (Y 1) (za (Y 2) zf)))))))
   zy) (ze (zK (zu VJ (Y 3) xh (zD _)) (ze (zQ (ub (zx (Y 0) Z) T.q0i (qd T) T.g41 b zo (za (zA zY (Y 3) zh) zf))) (ze (zQ (vD bT m7 m8 QD (zx (Y 0) Z) (za (tL (xL T) T.g13 b zo (za (zx (Y 0) Z) (za (zA zY (Y 3) zh) zf))) (za (zA zY (Y 3) zh) zf)))) (zi (zq (zp zdC (yc (za zM (za (Y 1) zf))) (Y 3))))))
   zy) (ze (zK (zu (zgu (zhY b)) (zx (Y 0) Z) (yM zf) (zD _)) (zi (zq (ub (Y 0) T.q04 (WG T) T.g46 b zo (za (Y 1) zf))))
    zy) (zi (zq (yc (za zM (za (Y 1) zf)))))))))),Yq (dkF T) h⟩⟩
 obtain⟨d,a,e,n,f,h,i,g,j,S,rfl,_⟩:=h;rfl
theorem Vj:Ba P w K mg base 2 t.a48 t.d48 ["ranks_at","place","rank"] (vI):=by
 refine T.g48.f.okA q1l λb H Q E h=>⟨?_,λ_ _ _ _ a=>⟨Vf K t,(ze (zw q1l.nd (zgB (yH a) (Y 0) (Y 1) (yM zf) ⟨Z,Z,Z,Z⟩)) (zi (zQ (vD bT m7 m8 QD (Y 3) (za (tL (xL T) T.g13 a zo (za (Y 3) (za (Y 2) zf))) (za (Y 2) zf)))))),za0 h⟩⟩
 obtain⟨rk,d,f,G,P,e,c,rfl,_⟩:=h;rfl
theorem za7:Ba P w K mg base 3 t.a49 t.d49 ["self","rank","gifts"] (jg t):=by
 refine T.g49.f.okA q16 λd H Q E h=>⟨?_,λ_ _ _ _ a=>⟨qE K t,(ze (zQ (ub (Y 0) T.q09 (wC T) T.g11 a zo (za (Y 1) zf))) (ze (zQ (ub (Y 0) T.q09 (jJ T) T.g18 a zo (za (Y 1) zf))) (ze (zw q16.nd (yD (ww Z (hu3 a)) Z T.q0z VN (za (Y 2) zf))) (ze (zjx (wa cF Z (zgb (Y 3)) (yu q16.nd) (zi (zQ (tL (Vj T) T.g48 a zo (za (zx (Y 0) Z) (za (Y 4) (za (Y 1) zf)))))))) (zi (vm (yH a) (zx (Y 0) Z) (Y 1) (Y 3) Z)))))),K6 (mkF T) h⟩⟩
 obtain⟨m,i,e,F,g,b,c,f,rfl,_⟩:=h;rfl
theorem Yu:Ba P w K mg base 2 t.a50 t.d50 ["self","place","rank"] (xo t):=by
 refine T.g50.f.okA q17 λd H Q E h=>⟨?_,λ_ _ _ _ b=>⟨wd K t,(ze (zw q17.nd (kK (yH b) (zx (Y 0) Z) (Y 1) (yM zf) ⟨Z,Z,Z,Z⟩)) (ze (zw q17.nd (tL (xL T) T.g13 b zo (za (Y 3) (za (zp yf (Y 2) zh) zf)))) (zi (zq (jn (zu yt (Y 4) (zE zX Z T.q05 yy (za (Y 3) zf)) (zD _)) xh (zA zR (Y 3) (Y 4))))))),Z1 (mkF T) h⟩⟩
 obtain⟨m,p,f,F,g,a,c,e,rfl,_⟩:=h;rfl
theorem Qc:Ba P w K mg base 3 t.a51 t.d51 ["self","place","rank"] (kz t):=by
 refine T.g51.f.okA q0q λs H Q E h=>?_;obtain⟨⟨d,a,x,n,f,A,r,I,o,z,y,G,C,g,e,v,M⟩,p,J,u,rfl,m,l,k,j,i,q⟩:=h;exact⟨Z,λ_ _ _ _ c=>⟨YJ K t,(ze (zw q0q.nd (kK (yH c) (zx (Y 0) Z) (Y 1) (yM zf) ⟨Z,Z,Z,Z⟩)) (ze (zw q0q.nd (ub (zx (Y 0) Z) T.q09 (Yu T) T.g50 c zo (za (Y 1) (za (Y 2) zf)))) (ze (zw q0q.nd (jn (zu Q9 (Y 4) xh (zD _)) (zE zX Z T.q05 yy (za (Y 3) zf)) (tL (xL T) T.g13 c zo (za (Y 3) (za (zp yf (Y 4) zh) zf))))) (zi (wa cF Z (xm (xQ v5 (Y 3) (xv (tL (xL T) T.g13 c zo (za (Y 3) (za (zp yf (Y 2) zh) zf)))) (xv (Y 5)))) (yu q0q.nd) (zi (vm (yH c) (zx (Y 0) Z) (Y 6) (wE (b:=ak)) Z))))))),J6 (dkF T) m l k j i q⟩⟩
theorem WH:Ba P w K mg base 4 t.a52 t.d52 ["self","rank","paper"] (vh t):=by
 refine T.g52.f.okA q0r λA H Q E h=>?_;obtain⟨⟨d,a,G,n,f,N,z,cs,y,J,I,db,O,g,i,C,CC⟩,r,ac,s,M,rfl,x,v,u,p,o,m,l,k,j,e,q⟩:=h;exact⟨Z,λ_ _ _ _ c=>⟨k7 K t,(ze (zw q0r.nd (ub (zx (Y 0) Z) T.q09 (wD T) T.g16 c zo (za (Y 1) zf))) (ze (zQ (ub (zx (Y 0) Z) T.q09 (za7 T) T.g49 c zo (za (Y 1) (za (zA zY (Y 2) zh) zf)))) (ze (wa cF Z (xm (zp Zd (Y 3) (ub (zx (Y 0) Z) T.q09 (wD T) T.g16 c zo (za (Y 1) zf)))) (yu q0r.nd) (zi (zQ (ub (Y 0) T.q0i (Qc T) T.g51 c zo (za (Y 4) (za (Y 1) zf)))))) (ze (vm (yH c) (zx (Y 0) Z) (Y 1) (Y 2) Z) (ze (vm (yH c) (zx (Y 0) Z) (Y 1) (wE (b:=ak)) Z) (zi (wa cF Z (xm (zA zY (Y 2) zh)) (Q6 Z (vA (yu q0r.nd) (vA (yu q0r.nd) VI))) (zi (zQ (tL (Vj T) T.g48 c zo (za (zx (Y 0) Z) (za (Y 4) (za (Y 1) zf))))))))))))),X4 (dkF T) x v u p o m l k j e q⟩⟩
theorem We:Ba P w K mg base 2 t.a53 t.d53 ["self"] (wM t):=by
 refine T.g53.f.okA q1m λc H Q E h=>⟨?_,λ_ _ _ _ b=>⟨XM K t,(ze (zK (xP (yL (we (Y 0) T.q07 (vS T) T.g26 b zo))) (zi (zq xh))
   zy) (ze (zw q1m.nd (yD (Vn Z) Z T.q0b xx (za (zbJ (zx (Y 0) Z)) zf))) (ze (zK (zu VJ (zx (Y 0) Z) xh (zD _)) (zi (zq (yc (za (yc (za zM (za (zx (Y 0) Z) zf))) (za (Y 1) (za (yM zf) zf))))))
    zy) (zi (zq (yc (za (yc (za zM (za (yD Ko Z T.b_tuple V8 (za (zx (Y 0) Z) zf)) zf))) (za (Y 1) (za (zE (Xp Z (hu3 b)) Z T.q10 Yc (za (zbJ (zx (Y 0) Z)) zf)) zf))))))))),K0 (rnF T) h⟩⟩
 obtain⟨x,a,C,s,rfl,_⟩:=h;rfl
theorem qK:Ba P w K mg base 10 t.a54 t.d54 ["self","hand"] (x6 t):=by
 refine T.g54.f.okA q0s λc H Q E h=>⟨?_,λ_ _ _ _ b=>⟨XN K t,(ze (zK (PW.pt (VV (zu vB (Y 1) zh (zD _)) (YQ (zu ziO (Y 1) (zx (Y 0) Z) (zD _))))) (zi zbe)
   zy) (ze (zK (zu (Jk (yH b)) (Y 1) (zx (Y 0) Z) (by with_unfolding_all rfl)) (zi (zq (ub (Y 0) T.q04 (Xd T) T.g47 b zo (za (Y 1) zf))))
    zy) (ze (zw q0s.nd (zA zY (wt (yH b) (zx (Y 0) Z) (Y 1) (λ_ _=>rfl)) zh)) (ze (zw q0s.nd (zA zY (wt (yH b) (zx (Y 0) Z) (Y 1) (λ_ _=>rfl)) zh)) (ze (zK (yL (we (Y 3) T.q07 (vS T) T.g26 b zo)) (ze (zQ (V6 (zx (Y 0) Z) (Y 1) ⟨Z,Z,Z,Z⟩)) (ze (zQ (ub (zx (Y 0) Z) T.q0i (WH T) T.g52 b zo (za (Y 2) (za (we (Y 3) T.q07 (We T) T.g53 b zo) zf)))) (zi (zq (yc (za zM (za (Y 1) (za (Y 2) zf))))))))
   zy) (ze (zw q0s.nd (we (Y 3) T.q07 (zcA T) T.g34 b zo)) (ze (zK (zu Q9 (Y 4) xh (zD _)) (ze (zQ (QF (Y 3) T.q07 T.me_Run_step (tq.mono (kh T) ()) b T.bd_Run_step zo)) (zi (zq (yc (za zM (za (Y 1) (za (Y 2) zf)))))))
   zy) (ze (zw q0s.nd (ub (zx (Y 0) Z) T.q09 (kH T) T.g14 b zo (za (Y 4) (za (Y 2) zf)))) (ze (zQ (zae (Y 3) T.q07 T.me_Run_step (tq.mono (kh T) ()) b T.q1t .nil zo (za (Y 5) zf))) (zi (zq (yc (za zM (za (Y 1) (za (Y 2) (za (Y 4) (za (Y 5) zf))))))))))))))))),KP (dkF T) h⟩⟩
 obtain⟨d,a,e,n,f,h,i,g,j,S,rfl,_⟩:=h;rfl
theorem Kl:Ba P w K mg base 10 t.a55 t.d55 ["row","hand","codes","first","runs","ranks","gifts"] (wS t):=by
 refine T.g55.f.okA q1n λd H Q E h=>⟨?_,λ_ _ _ _ a=>⟨ZO K t,(ze (zw q1n.nd (zA zR (Y 4) (Y 1))) (ze (zK (zu Q9 (Y 7) xh (zD _)) (ze (zK (PW.pt (ko (zu yt (zA zY (Y 0) zh) zM (zD _)) (v3 (zfw zfu vB zh (zp vc (zA zY (Y 0) zh) (Y 3)) (zE zX Z T.q05 yy (za (Y 2) zf)))))) (ze (zaA (Y 5) (Y 1) (zp vc (zA zY (Y 0) zh) (Y 3)) Z) (zi (zq (Z7 T.mk_Run (tq.mono (Vi T) ()) a Z T.g_Run T.q1u .nil zo (za (zA zR (Y 2) (zp vc (zA zY (Y 0) zh) (Y 3))) zf)))))
   zy) (zi (zq xh)))
   zy) (ze (zK (yL (we (Y 7) T.q07 (vS T) T.g26 a zo)) (ze (zaA (Y 6) (zA zR (Y 5) (Y 1)) (zE zX Z T.q05 yy (za (zA zY (we (Y 7) T.q07 (We T) T.g53 a zo) zh) zf)) Z) (zi (zq xh)))
   zy) (ze (zK (PW.pt (ko (zu yt (zA zY (Y 0) zh) zM (zD _)) (v3 (zu yt (zE zX Z T.q05 yy (za (Y 0) zf)) zh (zD _))))) (zi (zQ (zae (Y 7) T.q07 T.me_Run_step (tq.mono (kh T) ()) a T.q1t .nil zo (za (zA zY (Y 0) zh) zf)))) (zi (zQ (QF (Y 7) T.q07 T.me_Run_step (tq.mono (kh T) ()) a T.bd_Run_step zo)))) (zi (zq (Y 7))))))),VE h⟩⟩
 obtain⟨v,h,o,j,l,m,f,n,k,b,c,i,g,q,S,p,e,rfl,_⟩:=h;rfl
theorem yp:∀n,tq P w K mg base (CX1 P w) (1+n) t.a56 t.d56 ["found","due"] (yb n):=by
 intro n;induction n with
 |zero=>exact⟨λc H Q E h=>(ZZ h).elim,λA a s H e g c Q E d j l i h=>(ZZ h).elim⟩
 |succ n IH =>
 refine T.g56.f.okA q18 (k:=1+n) λc H Q E h=>?_;obtain⟨v,u,rfl,f,q⟩:=h;exact⟨Z,λ_ _ _ _ d=>⟨kD K t n,(ze (zK (PW.pt (VV (yL (zE xq Z T.q0c yh (za (Y 1) (za (xV Z T.q0b xx Z) zf)))) (YQ (yL (zE xq Z T.q0c yh (za (Y 1) (za (xV Z T.b_tuple V8 Z) zf))))))) (ze (zK (PW.pt (ko (xP (yL (zE xq Z T.q0c yh (za (Y 0) (za (xV Z T.q0b xx Z) zf))))) (v3 (xP (yL (zE xq Z T.q0c yh (za (Y 0) (za (xV Z T.b_tuple V8 Z) zf)))))))) (zi (zq (wE (b:=aq))))
   zy) (ze (zK (PW.pt (VV (zu WK (zE xq Z T.q0c yh (za (Y 0) (za (xV Z T.q0b xx Z) zf))) (zE xq Z T.q0c yh (za (Y 1) (za (xV Z T.q0b xx Z) zf))) (zD _)) (YQ (zu WK (zE zX Z T.q05 yy (za (Y 0) zf)) (zE zX Z T.q05 yy (za (Y 1) zf)) (zD _))))) (zi (zq (wE (b:=aq))))
    zy) (ze (wa cF Z (zib Z T.b_zip (za (Y 0) (za (Y 1) zf))) (Q6 Z (vA (yu q18.nd) (vA (yu q18.nd) VI))) (zi (zK (xP (yL (Xf (tq.mono IH ()) d Z T.g56.m T.g56.f.kp T.g56.b .nil zo (za (Y 2) (za (Y 3) zf))))) (zi (zq (wE (b:=aq))))
    zy))) (zi (zq (wE (b:=ak)))))))
   zy) (ze (zK (yL (zE xq Z T.q0c yh (za (Y 1) (za (xV Z T.q1b zcP Z) zf)))) (zi (zq (VX (zE xq Z T.q0c yh (za (Y 0) (za (xV Z T.q1b zcP Z) zf))) (VW (VL yt (Y 0) (Y 1) (zD _))))))
    zy) (zi (zq (VX (zE xq Z T.q0c yh (za (Y 0) (za (xV Z T.b_int zfI Z) zf))) (VX (zjh (zE xq Z T.q0c yh (za (Y 0) (za (xV Z T.q1v zdM Z) zf)))) (VW (VL yt (Y 0) (Y 1) (zD _))))))))),JZ (kf K) f q⟩⟩
theorem ki:Ba P w K mg base 1 t.a57 t.d57 ["self"] (xN t):=by
 refine T.g57.f.okA XD λe H Q E h=>?_;obtain⟨d,i,a,n,f,j,rfl,c,b,q⟩:=h;exact⟨Z,λ_ _ _ _ g=>⟨j8 K t,(zi (zq (zp yf (zx (Y 0) Z) (zE zX Z T.q05 yy (za (zx (Y 0) Z) zf))))),Y9 (dkF T) c b q⟩⟩
theorem Vk:Ba P w K mg base 2 t.a58 t.d58 ["self","code"] (vJ t):=by
 refine T.g58.f.okA q1o λc H Q E h=>⟨?_,λ_ _ _ _ b=>⟨Vg K t,(ze (zw q1o.nd (we (Y 0) T.q04 (ki T) T.g57 b zo)) (ze (zQ (vD bT cG cH xp (zx (Y 0) Z) (za (yD xw Z T.q0b xx (za (Y 1) zf)) zf))) (ze (zQ (vD bT cG cH xp (zx (Y 0) Z) (za (Y 2) zf))) (zi (zq (Y 2)))))),zaU (dkF T) h⟩⟩
 obtain⟨d,v,a,e,n,f,i,g,j,C,S,rfl,_⟩:=h;rfl
theorem YO:Ba P w K mg base 8 t.a59 t.d59 ["folds","beside","codes","first","gifts"] (wf t):=by
 refine T.g59.f.okA q19 λc H Q E h=>⟨?_,λ_ _ _ _ a=>⟨YK K t,(ze (zw q19.nd (zp yf (Y 3) (zE zX Z T.q05 yy (za (Y 4) zf)))) (ze (zw q19.nd (zA zR (Y 2) (zE zX Z T.q05 yy (za (Y 4) zf)))) (ze (zQ (vD bT cG cH xp (Y 4) (za zh zf))) (zi (zq (VX (tL (yp T 6) T.g56 a zo (za (ub (Y 0) T.q04 (Vk T) T.g58 a zo (za (Y 6) zf)) (za (Y 5) zf))) (VW (tL (yp T 6) T.g56 a zo (za (ub (Y 1) T.q04 (Vk T) T.g58 a zo (za (Y 6) zf)) (za (Y 5) zf)))))))))),Ke h⟩⟩
 obtain⟨j,i,k,e,f,n,g,l,C,S,X,m,b,v,d,rfl,_⟩:=h;rfl
theorem Qd:Ba P w K mg base 1 t.a60 t.d60 ["self"] (vt t):=by
 refine T.g60.f.okA Ky λd H Q E h=>⟨?_,λ_ _ _ _ c=>⟨kE K t,(zi (zdY (zq (zE (Wq Z) Z T.q1c zcO (za (Yb Z (osc:=zl qw) (N:=["self"]) (xs:=["rank"]) (ix:=[0]) () (zbT (zx (Y 0) Z)) (λ_ _ _ _=>(wq (i:=0) (show fu (["rank","self"]:List Str) from ()) Z (ig Z) (.inr Z))) (λ_ _ _ _=>v6) (λ_ _ _ _=>(zE zeY Z T.q05 yy (za (wt (yH c) (zx (Y 1) Z) (Y 0) (λ_ _=>rfl)) zf)))) zf))))),Kb (mkF T) h⟩⟩;obtain⟨m,F,g,a,b,rfl,_⟩:=h;rfl
theorem qL:Ba P w K mg base 2 t.a61 t.d61 ["self"] (x8 t):=by
 refine T.g61.f.okA zaI λc H Q E h=>⟨?_,λ_ _ _ _ b=>⟨XO K t,(zi (zq (we (zx (Y 0) Z) T.q09 (Qd T) T.g60 b zo))),KU (dkF T) h⟩⟩;obtain⟨d,a,e,n,f,i,g,j,S,rfl,_⟩:=h;rfl
theorem Z5:Ba P w K mg base 8 t.a62 t.d62 ["desk","first","gifts"] (xc t):=by
 refine T.g62.f.okA q1p λc H Q E h=>⟨?_,λ_ _ _ _ a=>⟨vQ K t,(ze (wa cF Z (ji Z T.q0n (za zh zf)) (yu q1p.nd) (ze (zQ (we (Y 0) T.q04 (Wb T) T.g21 a zo)) (zi (zK (xP (yL (tL (yp T 6) T.g56 a zo (za (we (Y 0) T.q04 (qL T) T.g61 a zo) (za (zE (Wq Z) Z T.q1c zcO (za (xQ v5 (Y 2) (xv (zp vc (we (Y 0) T.q04 (xF T) T.g20 a zo) (Y 1))) qg) zf)) zf))))) (zi (zq (wE (b:=aq))))
    zy)))) (zi (zq (wE (b:=ak))))),Zb h⟩⟩
 obtain⟨i,e,d,f,n,g,j,S,X,k,rfl,_⟩:=h;rfl
theorem vz:Ba P w K mg base 4 t.a63 t.d63 ["self"] (xk t):=by
 refine T.g63.f.okA Kz λc H Q E h=>⟨?_,λ_ _ _ _ b=>⟨YL K t,(zi (zq (ub (zx (Y 0) Z) T.q09 (jI T) T.g15 b zo (za (we (Y 0) T.q04 (xF T) T.g20 b zo) zf)))),Ka (dkF T) h⟩⟩;obtain⟨d,a,e,n,f,i,g,j,S,rfl,_⟩:=h;rfl
theorem za8:Ba P w K mg base 11 t.a64 t.d64 ["folds","beside","codes","first","hands","script","gifts"] (jh K t):=by
 refine T.g64.f.okA q0l λd H Q E h=>⟨?_,λ_ _ _ _ a=>⟨XQ K t,(ze (jp (j:=7) q0l.nd Z Z (ig Z) (osc:=zl jS) (N:=["folds","beside","codes","first","hands","script","gifts","runs","ranks","cell","hand","row"]) (xs:=["k"]) (ix:=[]) () (ji Z T.q0n (za (Y 4) zf)) (λ_ _ _ _=>(wq (i:=0) (show fu (["k"]:List Str) from ()) Z (ig Z) (.inr Z))) (λ_ _ _ _=>v6) (λ_ _ _ _=>xh)) (ze (jp (j:=8) q0l.nd Z Z (ig Z) (osc:=zl jS) (N:=["folds","beside","codes","first","hands","script","gifts","runs","ranks","cell","hand","row"]) (xs:=["k"]) (ix:=[]) () (ji Z T.q0n (za (Y 4) zf)) (λ_ _ _ _=>(wq (i:=0) (show fu (["k"]:List Str) from ()) Z (ig Z) (.inr Z))) (λ_ _ _ _=>v6) (λ_ _ _ _=>zh)) (ze (wa cF Z (xm (Y 5)) (yu q0l.nd) (ze (zK (PW.pt (ko (zu vB (zp zT (Y 9) zh) zh (zD _)) (ko (zu vB (zE zX Z T.q05 yy (za (Y 6) zf)) (zE zX Z T.q05 yy (za (Y 2) zf)) (zD _)) (v3 (xP (yL (tL (YO T) T.g59 a zo (za (Y 0) (za (Y 1) (za (Y 2) (za (Y 3) (za (Y 6) zf)))))))))))) (zi (zq (wE (b:=aq))))
    zy) (ze (zw q0l.nd (zp zT (zp zV (Y 9) zh) (Y 4))) (ze (zw q0l.nd (ub (Y 1) T.q04 (qK T) T.g54 a zo (za (Y 10) zf))) (ze (zK (xP (yL (tL (yp T 6) T.g56 a zo (za (ub (Y 0) T.q04 (qK T) T.g54 a zo (za (Y 10) zf)) (za (Y 11) zf))))) (zi (zq (wE (b:=aq))))
    zy) (ze (zaA (Y 7) (Y 10) (tL (Kl T) T.g55 a zo (za (Y 11) (za (Y 10) (za (Y 2) (za (Y 3) (za (Y 7) (za (Y 8) (za (Y 6) zf)))))))) Z) (ze (zK (xP (yL (tL (yp T 6) T.g56 a zo (za (we (Y 1) T.q04 (qL T) T.g61 a zo) (za (zE (Wq Z) Z T.q1c zcO (za (Y 6) zf)) zf))))) (zi (zq (wE (b:=aq))))
    zy) (ze (zK (PW.pt (ko (zu yt (zp zT (Y 9) zh) zh (zD _)) (v3 (xP (yL (tL (Z5 T) T.g62 a zo (za (Y 0) (za (Y 3) (za (Y 6) zf))))))))) (zi (zq (wE (b:=aq))))
    zy) (zi (zK (xP (yL (tL (yp T 6) T.g56 a zo (za (we (Y 0) T.q04 (vz T) T.g63 a zo) (za (we (Y 1) T.q04 (vz T) T.g63 a zo) zf))))) (zi (zq (wE (b:=aq))))
    zy)))))))))) (zi (zq (wE (b:=ak))))))),KZ h⟩⟩
 obtain⟨m,l,o,s,k,f,n,g,q,S,X,r,e,c,p,rfl,_⟩:=h;rfl
theorem za9:Ba P w K mg base 2 t.a65 t.d65 ["number","slots"] (je):=by
 refine T.g65.f.okA q1q λd H Q E h=>⟨?_,λ_ _ _ _ b=>⟨qF K t,(ze (zw q1q.nd (zp zT (Y 0) zh)) (ze (zK (zu vB (Y 2) zh (zD _)) (zi (zq (yc (za (zp zT (zp zV (Y 0) zh) zh) zf))))
    zy) (ze (zK (zu yt (Y 2) zh (zD _)) (zi (zq (yc (za (zA zR (Y 1) (zp zT (zp zV (Y 0) zh) zh)) zf))))
    zy) (ze (zK (PW.pt (ko (zu yt (Y 2) zh (zD _)) (v3 (zu yt (zp zT (zp zV (Y 0) zh) zh) zh (zD _))))) (zi (zq (yc (za zh (za (zA zR (Y 1) (zp zT (zp zV (Y 0) zh) zh)) (za zM zf))))))
    zy) (ze (zK (zu yt (Y 2) zh (zD _)) (zi (zq (yc (za (zA zR (Y 1) (zp zT (zp zV (Y 0) zh) zh)) (za zh (za zM zf))))))
    zy) (zi (zq (yc (za (tL (wV T) T.g3 b zo (za (zp zV (Y 0) zh) zf)) zf))))))))),KM h⟩⟩
 obtain⟨n,a,c,rfl,_⟩:=h;rfl
theorem Wf:Ba P w K mg base 2 t.a66 t.d66 ["number","slots"] (wN):=by
 refine T.g66.f.okA q1a λd H Q E h=>⟨?_,λ_ _ _ _ b=>⟨qG K t,(ze (zw q1a.nd (yM (za zM (za zM (za zM (za zM (za zM (za zM (za zM zf))))))))) (ze (zw q1a.nd (zp zT (Y 0) zh)) (ze (zK (zu yt (Y 3) zh (zD _)) (zi (zq (yc (za (tL (wV T) T.g3 b zo (za (zp zV (Y 0) zh) zf)) zf))))
    zy) (ze (zK (zu yt (Y 3) zh (zD _)) (zi (zq (yc (za (zA zR (Y 1) (zp zT (zp zV (Y 0) zh) zh)) zf))))
    zy) (ze (zK (zu yt (zp zT (zp zV (Y 0) zh) zh) zh (zD _)) (zi (zq (yc (za (zA zR (Y 1) (zp zT (zp zV (Y 0) zh) zh)) (za (tL (wV T) T.g3 b zo (za (zp zV (Y 0) zh) zf)) (za (zA zR (Y 2) (zp vc (Y 3) zh)) zf))))))
    zy) (zi (zq (yc (za (zA zR (Y 1) (zp zT (zp zV (Y 0) zh) zh)) (za (zA zR (Y 1) (zp zT (zp zV (Y 0) zh) zh)) (za (zA zR (Y 2) (zp vc (Y 3) zh)) zf))))))))))),KN h⟩⟩
 obtain⟨n,a,c,rfl,_⟩:=h;rfl
theorem zcC:Ba P w K mg base 3 t.a67 t.d67 ["xs","shelves","slots"] (jY):=by
 refine T.g67.f.okA q0m λe H Q E h=>⟨?_,λ_ _ _ _ c=>⟨ZV K t,(ze (zw q0m.nd (zp zT (zA zR (Y 0) zh) zh)) (ze (zw q0m.nd (zA zR (Y 1) (zp zT (zp zV (zA zR (Y 0) zh) zh) zh))) (ze (zw q0m.nd (zA zR (Y 2) (zp zT (zp zV (zA zR (Y 0) zh) zh) zh))) (ze (zw q0m.nd (tL (za9 T) T.g65 c zo (za (zA zR (Y 0) zh) (za (Y 2) zf)))) (ze (zw q0m.nd (tL (Wf T) T.g66 c zo (za (zA zR (Y 0) zh) (za (Y 2) zf)))) (ze (zK (zu vB (Y 3) zh (zD _)) (zi (zq (yc (za zM (za (Y 4) (za (Y 6) (za (Y 5) zf)))))))
    zy) (ze (zK (zu vB (Y 3) zh (zD _)) (zi (zq (yc (za zM (za (Y 4) (za (Y 6) (za (Y 7) zf)))))))
    zy) (ze (zK (zu yt (Y 3) zh (zD _)) (zi (zq (yc (za zM (za (Y 5) (za (Y 7) zf))))))
    zy) (ze (zK (zu yt (Y 3) zh (zD _)) (zi (zq (yc (za zM (za (Y 7) zf)))))
    zy) (zi (zq (yc (za zM (za (yc (za (Y 5) (za (zp yf (zp zT (zA zR (Y 0) zh) zh) zh) (za zM zf)))) zf)))))))))))))),za4 h⟩⟩
 obtain⟨p,a,b,g,f,d,rfl,_⟩:=h;rfl
theorem zba:Ba P w K mg base 4 t.a68 t.d68 ["cell","shelves","slots"] (jf):=by
 refine T.g68.f.okA q0h λf H Q E h=>⟨?_,λ_ _ _ _ d=>⟨XR K t,(ze (YR (i:=3) q0h.nd Z (pB Z) (tL (kG T) T.g1 d zo (za (Y 0) (za zh zf)))) (ze (jp (j:=4) q0h.nd Z Z (ig Z) (osc:=zl Zx) (N:=["cell","shelves","slots","xs","rows","at","to","row"]) (xs:=["k"]) (ix:=[3,1,2]) () (ji Z T.q0n (za (zp zT (Y 0) zh) zf)) (λ_ _ _ _=>(wq (i:=0) (show fu (["k","xs","shelves","slots"]:List Str) from ()) Z (ig Z) (.inr Z))) (λ_ _ _ _=>v6) (λ_ _ _ _=>(tL (zcC T) T.g67 d zo (za (xQ v5 (Y 1) (xv (zp vn zh (Y 0))) (xv (zp yf (zp vn zh (Y 0)) zh))) (za (Y 2) (za (Y 3) zf)))))) (ze (zK (zu yt (zp zT (zp zV (Y 0) zh) zh) zh (zD _)) (ze (zw q0h.nd (zp zT (zA zR (Y 3) zh) (zp yf (zE zX Z T.q05 yy (za (Y 4) zf)) zh))) (ze (zw q0h.nd (zp yf (Y 5) (zp zT (zA zR (Y 3) zh) (zp vc (zp yf (zE zX Z T.q05 yy (za (Y 4) zf)) zh) (Y 5))))) (ze (zw q0h.nd (yc (za zM (za (tL (Wf T) T.g66 d zo (za (zA zR (Y 3) zh) (za (Y 2) zf))) (za (xQ v5 (Y 4) (xv (Y 5)) (xv (Y 6))) (za (xQ v5 (Y 4) qg (xv (zp zT (zA zR (Y 3) zh) zh))) zf)))))) (zi (zw q0h.nd (zp Zd (zp Zd (xQ v5 (Y 4) qg (xv (Y 5))) (yM (za (Y 7) zf))) (xQ v5 (Y 4) (xv (Y 6)) qg)))))))
   zy) (zi (zq (Y 4)))))),KO h⟩⟩
 obtain⟨c,a,b,g,e,rfl,_⟩:=h;rfl
theorem wW:Ba P w K mg base 11 t.a69 t.d69 ["self"] (yC t):=by
 refine T.g69.f.okA q1r λc H Q E h=>⟨?_,λ_ _ _ _ b=>⟨ZW K t,(ze (zw q1r.nd (yM zf)) (ze (VY cF (zu vB (we (Y 0) T.q04 (xF T) T.g20 b zo) (we (Y 0) T.q04 (ki T) T.g57 b zo) (zD _)) (zi (zQ (vD bT cG cH xp (Y 1) (za (ub (Y 0) T.q04 (qK T) T.g54 b zo (za (zp zT (zE zX Z T.q05 yy (za (Y 1) zf)) (zx (Y 0) Z)) zf)) zf))))) (zi (zq (Y 1))))),VC (dkF T) h⟩⟩
 obtain⟨d,a,e,n,f,i,g,j,S,J,rfl,_⟩:=h;rfl
theorem Z6:Ba P w K mg base 1 t.a70 t.d70 ["self"] (xS t):=by
 refine T.g70.f.okA JC λb H Q E h=>⟨?_,λ_ _ _ _ e=>⟨ZX K t,(zi (zq (Yb Z (osc:=zl ku) (N:=["self"]) (xs:=["paper"]) (ix:=[]) () (xm (zx (Y 0) Z)) (λ_ _ _ _=>(wq (i:=0) (show fu (["paper"]:List Str) from ()) Z (ig Z) (.inr Z))) (λ_ _ _ _=>v6) (λ_ _ _ _=>(yc (za (zA zY (Y 0) zh) (za (yD xw Z T.q0b xx (za (zA zY (Y 0) zh) zf)) (za (yD xw Z T.q0b xx (za (zA zY (Y 0) zh) zf)) zf)))))))),VD (dkF T) h⟩⟩;obtain⟨d,a,c,n,f,j,g,k,S,rfl,_⟩:=h;rfl
theorem ok_law:Ba P w K mg base 16 t.a71 t.d71 ["script"] (sp_law K):=by
 refine T.q28.ok0 q0f (λe H Q E h=>?_) (λf A d s H e Q E c h=>?_)
 .obtain⟨a,g,rfl,_⟩:=h;rfl
 exact⟨zgM K t,(ze (YR (i:=1) q0f.nd Z (pB Z) (tL (X7 T) T.g2 c zo (za (tL (yE T) T.g22 c zo (za (Y 0) (za zh zf))) zf))) (ze (YR (i:=2) q0f.nd Z (pB Z) (tL (X7 T) T.g2 c zo (za (tL (yE T) T.g22 c zo (za (Y 0) (za zh zf))) zf))) (ze (zw q0f.nd (tL (K7 T) T.g4 c zo (za (zp zV (tL (yE T) T.g22 c zo (za (Y 0) (za zh zf))) zh) (za (Y 1) zf)))) (ze (jp (j:=4) q0f.nd Z Z (ig Z) (osc:=zl zgI) (N:=["script","shelves","slots","table","codes","hands","first","folds","beside","gifts","early"]) (xs:=["cell"]) (ix:=[1,2]) () (xm (xQ v5 (Y 0) (xv zh) (xv zh))) (λ_ _ _ _=>(wq (i:=0) (show fu (["cell","shelves","slots"]:List Str) from ()) Z (ig Z) (.inr Z))) (λ_ _ _ _=>v6) (λ_ _ _ _=>(tL (zdv T) T.g25 c zo (za (tL (zba T) T.g68 c zo (za (Y 0) (za (Y 1) (za (Y 2) zf)))) zf)))) (ze (zw q0f.nd (zp yf zh (zp zT (tL (yE T) T.g22 c zo (za (Y 0) (za zh zf))) zh))) (ze (zw q0f.nd (tL (YN T) T.g5 c zo (za (tL (yE T) T.g22 c zo (za (Y 0) (za zh zf))) zf))) (ze (zw q0f.nd (tL (X9 T) T.g10 c zo (za (Y 3) (za (Y 5) (za (tL (yE T) T.g22 c zo (za (Y 0) (za zh zf))) zf))))) (ze (zw q0f.nd (tL (X9 T) T.g10 c zo (za (Y 3) (za (Y 5) (za (tL (yE T) T.g22 c zo (za (Y 0) (za zh zf))) zf))))) (ze (zw q0f.nd (yM zf)) (ze (zw q0f.nd (zp zT (zp zV (tL (yE T) T.g22 c zo (za (Y 0) (za zh zf))) zh) (zp yf (zE zX Z T.q05 yy (za (Y 4) zf)) zh))) (ze (zK (xP (yL (tL (za8 T) T.g64 c zo (za (Y 7) (za (Y 8) (za (xQ v5 (Y 4) qg (xv (Y 10))) (za (Y 6) (za (Y 5) (za (Y 0) (za (Y 9) zf)))))))))) (zi (zq (wE (b:=aq))))
    zy) (ze (zK (xP (yL (tL (yp T 6) T.g56 c zo (za (we (Y 7) T.q04 (wW T) T.g69 c zo) (za (we (Y 8) T.q04 (wW T) T.g69 c zo) zf))))) (zi (zq (wE (b:=aq))))
    zy) (ze (zQ (we (Y 7) T.q04 (Wb T) T.g21 c zo)) (ze (zK (xP (yL (tL (yp T 6) T.g56 c zo (za (we (Y 7) T.q04 (qL T) T.g61 c zo) (za zh zf))))) (zi (zq (wE (b:=aq))))
    zy) (ze (VY cF (zu vB (zE zX Z T.q05 yy (za (Y 9) zf)) (zE zX Z T.q05 yy (za (Y 4) zf)) (zD _)) (zi (zK (xP (yL (tL (YO T) T.g59 c zo (za (Y 7) (za (Y 8) (za (Y 4) (za (Y 6) (za (Y 9) zf)))))))) (zi (zq (wE (b:=aq))))
    zy))) (ze (zK (xP (yL (tL (yp T 6) T.g56 c zo (za (we (Y 7) T.q04 (wW T) T.g69 c zo) (za (we (Y 8) T.q04 (wW T) T.g69 c zo) zf))))) (zi (zq (wE (b:=aq))))
    zy) (zi (zq (VX (tL (yp T 6) T.g56 c zo (za (we (Y 7) T.q04 (Z6 T) T.g70 c zo) (za (we (Y 8) T.q04 (Z6 T) T.g70 c zo) zf))) (VW (tL (yp T 6) T.g56 c zo (za (we (Y 7) T.q04 (vz T) T.g63 c zo) (za (we (Y 8) T.q04 (vz T) T.g63 c zo) zf))))))))))))))))))))))),ziK h⟩
end
end K48
open PySem PySem.W PyProof.Rows
local macro_rules|`(#where)=>do
 let f:=λ(s:String)(l:List Nat)=>l.map λi=>Lean.Name.str `PySem.Challenge.cw_forerun_k48_folding_changes_nothing_holds s!"{s}_{i}"
 return Lean.mkNullNode (←(f "heap" [39,46,731]++f "tree" [47,63,78,93,108,149,229,230,289,327,414,415,515,559,581,631,711,730]++f "view" [39]++f "sts" [49,64,79,94,109,150,230,232,290,328,415,417,516,560,582,632,712]++f "o" (List.range' 43 688)++f "env" [41]++[`PySem.Challenge.pw_forerun_k48_folding_changes_nothing,`PySem.Challenge.rw_forerun_k48_folding_changes_nothing]).toArray.mapM λn=>do return (←`(command|def $(Lean.mkIdent (.str `PySem.W.Fast s!"tw{n.hash}")):ident :=Nat)).raw)
#where
set_option maxRecDepth 100000 in
set_option maxHeartbeats 0 in
theorem PySem.Challenge.cw_forerun_k48_folding_changes_nothing_holds : PySem.Challenge.rw_forerun_k48_folding_changes_nothing.Holds := by
 w_on; o_law; k_head; (case hw => w_witness2)
 k_fill
 refine L2.walk_ofXB (l := PySem.Challenge.rw_forerun_k48_folding_changes_nothing) (n := 63) (k := 16) (x := "script") (sp := K48.sp_law) Z (by decide) Z ⟨Z,by decide,by decide⟩ (fun w h Bo => PySem.W.kIn_of Bo) ?F ?S
 case F =>
  intro w mg fa h KX G hmg;have T : ∃ t,K48.Txt (L2.KOf KX) mg t := by
   dsimp only [L2.KOf];exact ⟨.mk ..,by
    constructor
    all_goals try dsimp only
    all_goals first
     | exact PySem.W.mg_of KX G (by k_is)
     | exact ⟨by k_is,by k_is,by k_is,by k_is⟩
     | exact ⟨by k_is,by k_is,by k_is⟩
     | exact ⟨PySem.W.mg_of KX G (by k_is),L2.fun_mk (by k_is) (by k_is) (by k_is),.all (by (repeat refine L2.arS fun _ => ?_); exact L2.ar0 rfl)⟩
     | exact ⟨⟨by k_is,by k_is,by k_is⟩,L2.fun_mk (by k_is) (by k_is) (by k_is),.all (by (repeat refine L2.arS fun _ => ?_); exact L2.ar0 rfl)⟩
     | exact L2.fun_mk (by k_is) (by k_is) (by k_is)
     | exact L2.fun_mkD (by k_is) (by k_is) (by k_is)
     | exact .all (by (repeat refine L2.arS fun _ => ?_); exact L2.ar0 rfl)
     | exact .df rfl (by k_is) (by (repeat refine L2.arS fun _ => ?_); exact L2.ar0 fun _ e => .of_defaults rfl e rfl rfl rfl)
     | exact ⟨_,.cons ⟨_,rfl⟩ .nil,.df rfl (by k_is) (by (repeat refine L2.arS fun _ => ?_); exact L2.ar0 fun _ e => .of_defaults rfl e rfl rfl rfl)⟩
     | exact fun _ _ => .of_eq rfl
     | exact PySem.W.mg_none_of KX G (by k_is)
     | exact fun _ => .inr ⟨_,_,_,by k_is,Z,Z,by decide,.cons ⟨_,Z⟩ (.cons ⟨_,Z⟩ (.cons ⟨_,Z⟩ (.cons ⟨_,Z⟩ (.cons ⟨_,Z⟩ (.cons ⟨_,Z⟩ (.cons ⟨_,Z⟩ .nil))))))⟩
     | exact L2.QX.to ⟨_,by k_is,by k_is,by k_is,by k_is,by k_is,by k_is,by k_is,by k_is⟩
     | (show _ = _; first | k_is | k_exc | kernel_rfl)⟩
  obtain ⟨t,T⟩ := T;have e0 := hmg.symm.trans T.m_law;cases e0;exact ⟨_,T.w_law,fun base _ _ => K48.ok_law T⟩
 case S => exact fun K H a ns hl hb _ hS => ⟨a,ns,rfl,hS,hl,hb,fun _ => rfl⟩
