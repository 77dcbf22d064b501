import PyProof.Rows.All
import Wide.All
import OpenK.AllK
import PySem.Challenge.RW_forerun_k43_what_is_read_is_seen
open Array renaming getElem?_eq_getElem->cg,length_toList->cu,getElem?_toList->c8,perm_iff_toList_perm->gB,getElem?_eq_none->iq,toList_inj->nB
open Array.Perm renaming mem_iff->pB,trans->rF,refl->rT
open Bool renaming false_ne_true->bK,and_eq_true->bW,false_eq_true->cL,eq_false_iff->dP,or_eq_false_iff->i7,eq_iff_iff->lF,not_eq_true'->mK,not_eq_true->rJ
open Classical renaming byContradiction->e9
open Decidable renaming byContradiction->mz
open False renaming elim->cS
open ForInStep renaming yield->fY
open Iff renaming rfl->rV
open Int renaming emod_lt_of_pos->ck,emod_nonneg->cA,toNat_natCast->dO,eq_ofNat_of_zero_le->ic,toNat_of_nonneg->lR,ne_of_lt->rq,zero_add->rA,le_refl->rX
open Int.ofNat renaming inj->sg
open List renaming getElem?_eq_getElem->bb,length_map->bf,mem_cons_of_mem->bh,getElem?_eq_some_iff->bn,mem_cons_self->bo,mem_singleton->br,mem_map_of_mem->bt,map_cons->bw,getElem?_map->bx,mem_append->bB,mem_map->bC,mem_cons->bD,length_append->bF,size_toArray->bH,getD_eq_getElem?_getD->bM,mem_append_right->bP,map_append->bQ,mem_of_getElem?->bS,length_cons->bU,nodup_cons->bZ,lookup_cons->b8,mem_filter->cr,nodup_nil->cw,length_take->cx,mem_append_left->cy,getElem?_eq_none->cz,take_of_length_le->cB,sum_cons->cC,length_drop->cG,append_assoc->cH,getElem?_of_mem->cM,lookup->cQ,getElem?_append_left->cT,take_add_one->cU,nodup_append->cV,mem_of_mem_drop->cW,map_map->da,filter_sublist->de,filter_cons->df,not_mem_nil->dh,mem_of_mem_take->dq,range->dt,map_congr_left->dy,cons_append->dJ,take_length->dL,pairwise_iff_getElem->dU,length_singleton->dX,getElem_mem->eD,getElem?_cons_zero->eG,foldl_cons->eN,getElem?_set_self->eQ,getElem?_append_right->eR,take_append_drop->eU,getElem?_take->eW,getElem?_set_ne->fc,ext_getElem?->fo,length_range->fA,length->fE,filter_cons_of_neg->fH,filter_cons_of_pos->fI,sum_append_nat->fJ,eq_nil_of_length_eq_zero->fN,mem_filterMap->fP,length_replicate->fV,find?_cons->fW,nil_append->gb,all_cons->gm,pairwise_map->gy,getElem?_inj->gA,pairwise_append->gD,any_eq_true->gK,eraseIdx_cons_succ->gW,getElem?_cons_succ->ie,eraseIdxIfInBounds_toArray->iD,Nodup->iF,replicate->iI,drop_zero->iJ,getElem_inj->iX,all_eq_true->iZ,perm_cons_erase->i8,any_cons->lf,filterMap_cons->lE,append_nil->lG,getElem?_range->lK,length_set->lQ,drop_eq_getElem_cons->mq,getElem?_replicate->mT,map_drop->nh,map_take->nu,drop_eq_nil_of_le->nJ,drop_of_length_le->nN,of_mem_zip->nS,length_nil->nT,length_filter_le->nU,map_nil->nV,forIn_cons->nW,filterMap_append->om,perm_append_comm->on,map->ot,mem_erase_of_ne->oA,reverse_append->oP,filter_eq_self->oR,pairwise_cons->pE,getElem?_drop->pH,erase_sublist->pI,set_cons_zero->pJ,take_sublist->pM,reverse_cons->pP,drop_sublist->pS,flatten_cons->pT,toArray->p9,reverse_nil->rC,zipIdx_cons->rD,nodup_range->rE,mem_reverse->rG,perm_middle->rH,zipIdx_nil->rS,all_append->rW,sum_append->rY,range_succ->rZ
open List.Nodup renaming sublist->ig
open List.Pairwise renaming nil->fm,imp->mL
open List.Perm renaming trans->dH
open List.Sublist renaming map->gM
open List.cons renaming injEq->eP
open Nat renaming le_refl->bp,le_trans->bN,zero_le->bT,lt_of_le_of_lt->bV,ne_of_lt->bX,lt_of_lt_of_le->b6,le_succ_of_le->ca,min_eq_left->dZ,ne_of_gt->eS,lt_irrefl->fB,succ_le_succ->fM,le_add_right->gL,lt_or_ge->gR,min_eq_right->i3,eq_zero_or_pos->mf,lt_succ_self->nA,le_of_lt->nP,le_of_eq->nR,not_succ_le_self->oE,add_le_add_left->oM,add_assoc->pG,lt_succ_of_lt->pN,lt_trans->pZ,sub_zero->p8,zero_add->ro,le_succ->rP
open Ne renaming symm->eA
open Option renaming map_eq_some_iff->bY,isSome_iff_exists->fj,map_some->gX,isSome_map->mE,isNone_some->pF,getD_none->rB
open Option.some renaming inj->bJ,injEq->fu
open Or renaming inl->l8,inr->ph
open Prod renaming ext->rK
open Prod.mk renaming inj->oQ
open PyProof renaming noPylong_of_log2->mH
open PyProof.Rows renaming callWith_type1->fR,reads_newData->m3,subscriptTail_builtinR->nG,entry_list_sort->nZ,entry_proto_collect'->oz,slot_list_sort->oH,args_list_sort->oI,lt_int->oJ,listUpdate_at->pC,plain_sorted->rc,entry_sorted->rf,args_sorted1->rj
open PySem renaming wpAny_bind->ba,wpAny_pure->bd,sizeLine_eq->bG,wpAny_call_entry->cI,wpAny_callSpecial?_slot->cK,wpAny_newObj_type->cN,wpAny_setField_rec->cP,wpAny_holding->du,wpAny_field->dz,wpAny_mono->dC,wpAny_dictEntries->dD,tupleKind_room_in1->dF,wpAny_typeNameOfWhole_itemiter->eo,wpAny_typeNameOfWhole_keyiter->eB,wpAny_execs_nil->eL,mem_of_lookup->eM,codeAny_builtin->eO,wpAny_Call_Name_kw->eT,wpAny_notOrdered_dict->eV,wpAny_seqItems->eY,wpAny_typeNameOf_itemiter->eZ,wpAny_truthy_bool->fh,wpAny_passesOwn->fi,wpAny_typeNameOf_keyiter->fq,codeAny_mono->fU,wpAny_dictEpoch->gg,wpAny_loadPart'->gh,wpAny_Call_method->gp,plainId_quiet->gu,wpAny_attempt->ib,wpAny_isOneOf_itemiter->ir,plainObj_wpAny_Assign_Attribute->iA,call_meets->iC,slot_list_setitem->iH,wpAny_setField->iL,call_meetsIn->iO,codeAny_handlers_test->iT,wpAny_execs_cons->iY,wpAny_rule->lq,wpAny_handleBy_cons->lM,wpAny_updateSeq->lN,wpAny_pyIter_tuple->lW,wpAny_fieldsOf->mj,call->mF,wpAny_comprehension_free->mG,wpAny_Call_method0_late->mV,wpAny_letGo->m4,wpAny_newList->m5,wpAny_listSubscript_int->m8,wpAny_isInstance->nD,wpAny_pyNext_list_item->nE,wpAny_Assign_Subscript->nH,codeAny_handlers_suite->nK,wpAny_pyNext_list_end->nQ,wpAny_isOneOf_keyiter->n0,size_of_entries->oh,wpAny_load->oo,typeIs_str->oq,wpAny_updateSeq_pair->ou,wpAny_pyIter_keyiter->oy,wpAny_updateDictKeys->oC,wpAny_newTuple->oF,isSubtype_stop->oG,evalArgs_none->oK,wpAny_standAt->oY,wpAny_handled->pq,wpAny_onRaise->pA,wpAny_call->pL,Within->pU,seqIndex_neg->pY,wpAny_typeOf->rm
open PySem.Around renaming under_plainId->dn,under->pW
open PySem.Builtin.Dict renaming showsAll->gc,keyAndDefault->lU,updateFrom->m6,takeOut->oB
open PySem.Builtin.Dict_items renaming ownsTuple->dE,ownedTupleFields->gO,ownedTupleIsFree->gP,pairFromOwner->ii
open PySem.Builtin.Int renaming intBits->dv,intTooBig->og
open PySem.Builtin.List renaming listExtendWith->c9,listTooLong->gQ,listItems->iu,listSubscript?->lP,listSameRef->mM
open PySem.Builtin.SmallTypes renaming ownedTupleIsFree->dA,nextOf->dR,ownedTupleHandOut->gI
open PySem.Builtin.Str renaming occurrences->gY,strSliceIndices->lI,glued->mJ,tooLong->oN
open PySem.Calls renaming spliced_cons->cO,callWith_builtin->cX,evalArgs_plain->dI,spliced_nil->eK,Name_function_global->lS,call_function_entry->mh,Constant_str->oW
open PySem.Code renaming isFrame->pX
open PySem.F renaming plainAttrs_list->bR,slot_list_append->cp,type_list_append->cq,plainAttrs_dict->dG,plain_extend_loop->dW,slot_dict_pop->dY,slot_dict_itemiterator_next->eC,slot_dict_keyiterator_next->eE,plain_list_iadd->fG,entry_dict_pop->ik,args_dict_itemiterator_next_1->iG,slot_dict_get->iP,type_dict_pop->iQ,args_dict_keyiterator_next_1->iS,entry_dict_itemiterator_next->iU,slot_list_pop->iV,type_list_pop->iW,entry_dict_keyiterator_next->i4,slot_dict_setdefault->lj,slot_zip_next->lJ,plain_proto_collect->lL,slot_tuple_iterator_next->lT,entry_extend_loop->mo,args_tuple_add_2->mD,slot_list_remove->mO,type_list_remove->mP,slot_list_insert->mQ,type_list_insert->mR,entry_tuple_add->mU,args_dict_pop_2->mW,args_dict_pop_3->mX,args_dict_get_3->mY,slot_dict_items->m7,slot_tuple_add->nF,entry_dict_get->nI,slot_dict_items_iter->nM,plainAttrs_str->nO,slot_tuple_lt->n9
open PySem.Heap renaming get?_push_of_some->bc,get?_push_size->bE,lt_size->bO,SameBut->cF,get?_update_other->dM,get?_update_self->ef,size_push->eI,ExtBut->rR
open PySem.Heap.SameBut renaming update->cR
open PySem.NameKind renaming free->cY,cell->mZ
open PySem.Obj renaming mapSeq->cZ,data_mapDictKeys->gC,data_mapFields->gZ,isFreed_of_fields->nX,isFreed_of_dict->oS,cls_mapFields->pQ
open PySem.Paired renaming length->bL
open PySem.PassesOwn renaming never->cf
open PySem.PyData renaming strOk->b9,canLay0->eX,depthAll->fZ,canLayAll0->gq,eqv->iE,eqvAll->lh,depth->ma
open PySem.PyData.tuple renaming injEq->pD
open PySem.SeqAt renaming noMixAll->iK,shaped->iR,noMix->oO
open PySem.SeqAt.EqAt renaming int_int->lY,str_str->lZ,int_str->oU,str_int->oV
open PySem.Shared renaming TypeIs->sf
open PySem.Spec renaming sameAll->l9,same->rQ
open PySem.Str renaming ofString->bg,empty->fT,length->iB,length_append->mI
open PySem.Txt renaming slice->gH
open PySem.Value renaming ref->bI,none->cE,int->gE,str->gS,bool->iy,type->mC,float->rM
open PySem.W renaming Frag->bu,findIn->b7,emptyDict->dN,keepIn->dQ,mg_none_of->eJ,kitOne->fC,instObj->fK,hideAll_none->fO,hasDictIn->fS,plainGet->gj,hideAll->gF,kia_one->gG,nsIn->gJ,plainOver->gN,makesIn->gT,codeIn->gU,exmOne->iM,fnOf->iN,funFrames_hide->i0,hideAll_get->i9,methodCall_KW->lH,of_hideAll->lV,callWith_K->lX,mg_of->mx,kas_place->nY,plainGet_of->oX,OpenLaw->oZ,excIn->pO,isFn->pV,exmAny->rL,methodObj->rN,specialIn->rO,lookIn->r6,Looks->r9,mroIn->sd,WalkO->se
open PySem.W.KatTups renaming cons->si
open PySem.W.Looks renaming ld->pR
open Sum renaming inl->fQ,inr->pK
open Sum.inl renaming inj->lB
open True renaming intro->eu
open Bool renaming true->D,false->aq
open Option renaming some->U,none->ao
open PySem renaming Addr->L,Value->af,Shared->am,Program->av,Heap->aw,World->ax,Around->ay,Stmt->aA,Expr->aB,Scope->aC,Result->aD,sizeLine->Bb,FuncData->Bc,mainGlobals->Bd,starEach->Be,wpAny->Bf,model->Bg,bootBuiltins->Bh,compareOp->Bi
set_option Elab.async false
set_option linter.all false
set_option maxRecDepth 100000
theorem Bj{p:Prop}[Decidable p](h:p):decide p=true:=decide_eq_true h
theorem Bk{p:Prop}[Decidable p](h:¬p):decide p=false:=decide_eq_false h
set_option hygiene false
set_option compiler.extract_closed false
def zzzP:Nat->Lean.Syntax->Lean.MacroM (Lean.TSyntax `rcasesPat)
 |0,_=>Lean.Macro.throwUnsupported
 |n+1,s=>match s with
  |`(⟨$ps,*⟩)=>do
   let ls ← ps.getElems.mapM fun p=>do `(Lean.Parser.Tactic.rcasesPatLo|$(← zzzP n p):rcasesPat)
   `(rcasesPat|⟨$[$ls],*⟩)
  |`($x:ident)=>`(rcasesPat|$x:ident)
  |_=>`(rcasesPat|_)
local macro_rules|`(match $x:term with|⟨$ps,*⟩=>$b)=>do
 if (b.raw.find? (·.isOfKind `Lean.Parser.Term.syntheticHole)).isSome then Lean.Macro.throwUnsupported
 let q ← zzzP 9 (← `(⟨$ps,*⟩))
 `(by rcases $x:term with $q;exact $b)
local macro_rules|`(tactic|lia)=>`(tactic|first|with_reducible (first|assumption|exact Nat.le_refl _|exact Nat.zero_le _|exact Nat.le_of_lt ‹_›|exact Nat.le_succ_of_le ‹_›|exact Nat.le_trans ‹_› ‹_›|exact Nat.lt_of_lt_of_le ‹_› ‹_›|exact Nat.lt_of_le_of_lt ‹_› ‹_›|exact Nat.ne_of_gt ‹_›|exact Nat.ne_of_lt ‹_›|exact Int.le_of_lt ‹_›)|decide +kernel|(intro _ z;cases z;done)|(intro z;cases z;done)|lia -abstractProof)
theorem ap{c:Prop}{h:Decidable c}(n:¬c){α:Sort u}{t e:α}:ite c t e=e:=if_neg n
theorem au{c:Prop}{h:Decidable c}(n:c){α:Sort u}{t e:α}:ite c t e=t:=if_pos n
local macro_rules|`(())=>`(by lia)
theorem Y{α:Sort u}{a:α}:a=a:=rfl
namespace L2
open PySem PySem.Spec PyProof.Rows
abbrev aV:=Sum Int Str
def JA:aV->af->Bool
 |.inl k,v=>Value.isInt k v
 |.inr x,v=>Value.isStrOf x v
def ziv(w:ax):aV->Int
 |.inl k=>hashInt k
 |.inr x=>hashStr w x
theorem yL:∀ {k:aV} {v:af},JA k v=D->(∃i t,k=fQ i/\v=gE i t)\/(∃x t,k=pK x/\v=gS x t)
 |.inl i,v,h=>by
  obtain⟨t,e⟩:=Value.isInt_shape (k:=i) (v:=v) h;exact .inl ⟨i,t,Y,e⟩
 |.inr x,v,h=>by
  obtain⟨t,e⟩:=Value.isStrOf_shape (x:=x) (v:=v) h;exact .inr ⟨x,t,Y,e⟩
theorem zcL(i:Int)(t:Tok):JA (.inl i) (.int i t)=D:=by simp[JA,Value.isInt]
theorem zcM(x:Str)(t:Tok):JA (.inr x) (.str x t)=D:=by simp[JA,Value.isStrOf]
theorem zg5(a b:Int):decide ((fQ a:aV)=fQ b)=(a==b):=by
 by_cases e:a=b
 ·subst e;simp
 ·have h:¬ (fQ a:aV)=fQ b:=λq=>e (lB q);rw[Bk h];exact(beq_eq_false_iff_ne.mpr e).symm
theorem zg6(a b:Str):decide ((pK a:aV)=pK b)=decide (a=b):=by
 by_cases e:a=b
 ·subst e;simp
 ·have h:¬ (pK a:aV)=pK b:=λq=>e (Sum.inr.inj q);rw[Bk h,Bk e]
theorem zg7(a:Int)(b:Str):decide ((fQ a:aV)=pK b)=aq:=Bk (λq=>nomatch q)
theorem zg8(a:Str)(b:Int):decide ((pK a:aV)=fQ b)=aq:=Bk (λq=>nomatch q)
def yB(prog:av)(w:ax):PySem.KeyKind prog w aV where
 is:=JA
 hash:=ziv w
 inj:=λv a b ha hb=>by
  rcases yL ha with ⟨i,t,rfl,rfl⟩|⟨x,t,rfl,rfl⟩
  ·rcases yL hb with ⟨j,u,rfl,e⟩|⟨y,u,rfl,e⟩
   ·injection e with e1 _;rw[e1]
   ·exact nomatch e
  ·rcases yL hb with ⟨j,u,rfl,e⟩|⟨y,u,rfl,e⟩
   ·exact nomatch e
   ·injection e with e1 _;rw[e1]
 byValue:=λk v h=>by
  rcases yL h with ⟨i,t,rfl,rfl⟩|⟨x,t,rfl,rfl⟩ <;> rfl
 pyHash:=λhv h=>by
  rcases yL hv with ⟨i,t,rfl,rfl⟩|⟨x,t,rfl,rfl⟩
  ·exact wpAny_pyHash_int h
  ·exact wpAny_pyHash_str h
 eqBool:=λhu hv h=>by
  rcases yL hu with ⟨i,t,rfl,rfl⟩|⟨x,t,rfl,rfl⟩
  ·rcases yL hv with ⟨j,u,rfl,rfl⟩|⟨y,u,rfl,rfl⟩
   ·rw[zg5] at h;exact wpAny_eqBool_int h
   ·rw[zg7] at h;exact oU i t y u _ _ _ _ h
  ·rcases yL hv with ⟨j,u,rfl,rfl⟩|⟨y,u,rfl,rfl⟩
   ·rw[zg8] at h;exact oV x t j u _ _ _ _ h
   ·rw[zg6] at h;exact wpAny_eqBool_str h
 «strs»:=λk x t v h=>by
  rcases yL h with ⟨i,u,rfl,e⟩|⟨y,u,rfl,e⟩
  ·exact nomatch e
  ·injection e with e1 _;subst e1;cases v <;> rfl
theorem Qv(prog:av)(w:ax)(i:Int)(t:Tok):(yB prog w).is (.inl i) (.int i t)=D:=zcL i t
theorem Qw(prog:av)(w:ax)(x:Str)(t:Tok):(yB prog w).is (.inr x) (.str x t)=D:=zcM x t
inductive V where
 |non|bl (b:Bool)|int (i:Int)|str (x:Str)|byt (b:Array UInt8)|flt (b:UInt64)|ref (a:L)|ty (n:String)
 deriving DecidableEq
def aU:V->af->Prop
 |.non,u=>u=cE
 |.bl b,u=>u=iy b
 |.int i,u=>∃t,u=gE i t
 |.str x,u=>∃t,u=gS x t
 |.byt b,u=>∃t,u=Value.bytes b t
 |.flt b,u=>∃t,u=rM b t
 |.ref a,u=>u=bI a
 |.ty n,u=>u=mC n
abbrev aR:List V->List af->Prop:=Paired aU
theorem aR.length(r:aR xs us):xs.length=us.length:=bL r
theorem aR.get:∀ {xs:List V} {us:List af} {i:Nat} {x:V},aR xs us->xs[i]?=U x->∃u,us[i]?=U u/\aU x u
 |_,_,_,_,.nil,e=>by simp at e
 |_,_,0,_,.cons r _,e=>by simp at e;subst e;exact⟨_,Y,r⟩
 |_,_,i+1,x,.cons _ t,e=>by
  obtain⟨u,h1,h2⟩:=aR.get (i:=i) (x:=x) t (by simpa using e);exact⟨u,by simpa using h1,h2⟩
theorem aR.append:∀ {xs ys:List V} {us ws:List af},aR xs us->aR ys ws->aR (xs++ys) (us++ws)
 |_,_,_,_,.nil,s=>s
 |_,_,_,_,.cons r t,s=>.cons r (aR.append t s)
theorem aR.take:∀ {xs:List V} {us:List af} (n:Nat),aR xs us->aR (xs.take n) (us.take n)
 |_,_,0,_=>.nil
 |_,_,_+1,.nil=>.nil
 |_,_,n+1,.cons r t=>.cons r (aR.take n t)
theorem aR.drop:∀ {xs:List V} {us:List af} (n:Nat),aR xs us->aR (xs.drop n) (us.drop n)
 |_,_,0,r=>r
 |_,_,_+1,.nil=>.nil
 |_,_,n+1,.cons _ t=>aR.drop n t
def sT:Option V->Option af->Prop
 |some v,U u=>aU v u
 |none,ao=>True
 |_,_=>False
def KV{κ:Type}:List (κ×V)->List (κ×af)->Prop:=Paired λ(p:κ×V) (q:κ×af)=>p.1=q.1/\aU p.2 q.2
def kV:aV->V
 |.inl i=>.int i
 |.inr x=>.str x
inductive HO where
  |lst (xs:List V)
  |tup (xs:List V)
  |dK (ah:List (aV×V))|dT (ah:List (List aV×V))
  |set (S:Int->Bool) (n:Nat)
  |ins (C dx:L) (fs:List (Str×V))
  |own (x:L)
  |xd (fs:List (Str×V))
  |met (f x:L)
  |rng (lo hi:Int)
  |frz (o:Obj) (u:HO)
  |tbl (ps:Array af)
  |ext (φ:aw->Prop)
abbrev Hp:=L->Option HO
def upd(H:Hp)(a:L)(o:HO):Hp:=λb=>if b=a then U o else H b
theorem zh{H:Hp} :upd H a o a=U o:=by unfold upd;rw[au rfl]
theorem zk{H:Hp}(h:b≠a):upd H a o b=H b:=by unfold upd;rw[ap h]
theorem WP{H:Hp} :upd (upd H a o) a u=upd H a u:=by
 funext b;unfold upd;split <;> rfl
theorem zJ{H:Hp}(h:H a=U o)(h':H b=U u)(d:o≠u):a≠b:=by
 intro e;subst e;rw[h] at h';exact d (bJ h')
theorem zy{H:Hp}(h:H a=U o)(h':H b=ao):a≠b:=by
 intro e;subst e;rw[h] at h';cases h'
section
variable (P:av)(w:ax)
def aW(H:Hp)(h:aw)(a:L):HO->Prop
 |.lst xs=>xs.length<=Bb/\∃(its:List af) (n:Nat),aR xs its/\h.get? a=U { cls:=.type "list",data:=.seq its.toArray n }
 |.tup xs=>xs.length<=Bb/\∃its:List af,aR xs its/\IsTup h a its.toArray
 |.dK ah=>ah.length<=Bb/\(a==sysModules)=aq/\∃vs,KV ah vs/\h.DictOf (yB P w) a vs
 |.dT ah=>ah.length<=Bb/\(a==sysModules)=aq/\∃xs:List (List aV×L×af),
   Paired (λ(p:List aV×V) (q:List aV×L×af)=>p.1=q.1/\H q.2.1=U (.tup (p.1.map kV))/\aU p.2 q.2.2) ah xs /\
   ∃o es ep,h.get? a=U o/\o.ExactDict/\o.data=.dict es ep/\es.toList=xs.map (entryOfKey (tupleKind (yB P w)))/\(xs.map (·.1)).Nodup
 |.set S n=>h.SetOf (intKind P w) a S n
 |.ins C dx fs=>H dx=U (.own a)/\fs.length<=1000/\dx≠a/\h.get? a=U (fK C dx) /\
   ∃mA,h.Ns1 dx mA/\(∀f,sT (fs.lookup f) (mA f))/\pU mA (fs.map (·.1))
 |.own _=>∃o,h.get? a=U o
 |.xd fs=>∃mA,h.Ns1 a mA/\∀f,sT (fs.lookup f) (mA f)
 |.rng lo hi=>∃t u v,h.get? a=U { cls:=.type "range",data:=.fields #[.int lo t,.int hi u,.int 1 v] }
 |.frz o u=>h.get? a=U o/\aW H h a u
 |.tbl ps=>h.get? a=U { cls:=.none,data:=.fields ps }
 |.met f x=>h.get? a=U (rN (.ref f) (.ref x))
 |.ext φ=>φ h/\(∃o,h.get? a=U o)/\∀h1 h2:aw,φ h1->(∀o,h1.get? a=U o->h2.get? a=U o)->φ h2
def tF(H:Hp)(h:aw):Prop:=∀a o,H a=U o->aW P w H h a o
end
section
variable {P:av}{w:ax}{H H':Hp}{h h':aw}{a:L}{o:HO}
theorem aW.lt(x:aW P w H h a o):a<h.objs.size:=by
 cases o with
 |lst xs=>obtain⟨_,_,_,_,e⟩:=x;exact bO e
 |tup xs=>obtain⟨_,_,_,p⟩:=x;exact p.lt
 |dK ah=>obtain⟨_,_,_,_,o,_,_,e,_⟩:=x;exact bO e
 |dT ah=>obtain⟨_,_,_,_,o,_,_,e,_⟩:=x;exact bO e
 |set S n=>obtain⟨o,_,_,_,e,_⟩:=x;exact bO e
 |ins C dx fs=>obtain⟨_,_,_,e,_⟩:=x;exact bO e
 |own y=>obtain⟨_,e⟩:=x;exact bO e
 |xd fs=>obtain⟨_,⟨_,_,_,e,_⟩,_⟩:=x;exact bO e
 |rng lo hi=>obtain⟨_,_,_,e⟩:=x;exact bO e
 |frz ob u=>obtain⟨e,_⟩:=x;exact bO e
 |tbl ps=>exact bO (show h.get? a=U _ from x)
 |met f y=>exact bO (show h.get? a=U _ from x)
 |ext φ=>obtain⟨_,⟨_,e⟩,_⟩:=x;exact bO e
theorem Paired.mapP{α β:Type}{F G:α->β->Prop}:∀ {l₁:List α} {l₂:List β},Paired F l₁ l₂->(∀a b,F a b->G a b)->Paired G l₁ l₂
 |_,_,.nil,_=>.nil
 |_,_,.cons r t,f=>.cons (f _ _ r) (Paired.mapP t f)
theorem aW.stay(x:aW P w H h a o)(k:∀b u,(b=a\/H b=U (.own a))->h.get? b=U u->h'.get? b=U u)
  (ho:∀b,H b=U (.own a)->H' b=U (.own a)) (ht:∀b xs,H b=U (.tup xs)->H' b=U (.tup xs)):aW P w H' h' a o:=by
 induction o with
 |lst xs=>obtain⟨z,its,n,r,e⟩:=x;exact⟨z,its,n,r,k _ _ (.inl Y) e⟩
 |tup xs=>obtain⟨z,its,r,ob,e,c⟩:=x;exact⟨z,its,r,ob,k _ _ (.inl Y) e,c⟩
 |dK ah=>obtain⟨z,y,vs,r,ob,es,ep,e,c⟩:=x;exact⟨z,y,vs,r,ob,es,ep,k _ _ (.inl Y) e,c⟩
 |dT ah =>
  obtain⟨z,y,xs,r,ob,es,ep,e,c⟩:=x;exact⟨z,y,xs,Paired.mapP r λp q z=>⟨z.1,ht _ _ z.2.1,z.2.2⟩,ob,es,ep,k _ _ (.inl Y) e,c⟩
 |set S n=>obtain⟨ob,es,ep,t,e,c⟩:=x;exact⟨ob,es,ep,t,k _ _ (.inl Y) e,c⟩
 |ins C dx fs =>
  obtain⟨d,z,ne,e,mA,⟨od,es,ep,e2,c⟩,r⟩:=x;exact⟨ho _ d,z,ne,k _ _ (.inl Y) e,mA,⟨od,es,ep,k _ _ (.inr d) e2,c⟩,r⟩
 |own y=>obtain⟨ob,e⟩:=x;exact⟨ob,k _ _ (.inl Y) e⟩
 |xd fs=>obtain⟨mA,⟨od,es,ep,e,c⟩,r⟩:=x;exact⟨mA,⟨od,es,ep,k _ _ (.inl Y) e,c⟩,r⟩
 |rng lo hi=>obtain⟨t,u,v,e⟩:=x;exact⟨t,u,v,k _ _ (.inl Y) e⟩
 |frz ob u ih=>obtain⟨e,q⟩:=x;exact⟨k _ _ (.inl Y) e,ih q⟩
 |tbl ps =>
  have e:h.get? a=U { cls:=.none,data:=.fields ps }:=x;show h'.get? a=U { cls:=.none,data:=.fields ps };exact k a _ (.inl Y) e
 |met f y =>
  have e:h.get? a=U (rN (.ref f) (.ref y)):=x;show h'.get? a=U (rN (.ref f) (.ref y));exact k a _ (.inl Y) e
 |ext φ=>obtain⟨p,⟨o,e⟩,st⟩:=x;exact⟨st _ _ p λo q=>k _ _ (.inl Y) q,⟨o,k _ _ (.inl Y) e⟩,st⟩
theorem tF.lt(x:tF P w H h)(e:H a=U o):a<h.objs.size:=(x a o e).lt
theorem tF.fresh(x:tF P w H h)(e:h.objs.size<=a):H a=ao:=by
 cases q:H a with
 |none=>rfl
 |some u=>exact absurd (b6 (x.lt q) e) (fB _)
theorem tF.kept(x:tF P w H h)(k:∀b u,h.get? b=U u->h'.get? b=U u):tF P w H h':=λa o e =>
 (x a o e).stay (λb u _ q=>k b u q) (λ_ q=>q) λ_ _ q=>q
theorem tF.laid(x:tF P w H h)(k:∀b u,h.get? b=U u->h'.get? b=U u)(hp:h.objs.size<=a)(new:aW P w (upd H a o) h' a o):tF P w (upd H a o) h':=λb u e=>by
 have hn:=x.fresh hp;by_cases hb:b=a
 ·subst hb;rw[zh] at e;cases e;exact new
 ·rw[zk hb] at e;exact(x b u e).stay (λc v _ q=>k c v q) (λc q=>by rw[zk (zy q hn)];exact q) λc xs q=>by rw[zk (zy q hn)];exact q
end
def Rd(H:Hp)(a:L)(u:HO):Prop:=H a=U u\/∃o,H a=U (.frz o u)
theorem Rd.ok{H:Hp}(r:Rd H a u)(x:tF P w H h):aW P w H h a u:=by
 rcases r with r|⟨o,r⟩
 ·exact x a u r
 ·obtain⟨_,q⟩:=x a _ r;exact q
def Mut:Option HO->Prop
 |some (.lst _)=>True
 |some (.dK _)=>True
 |some (.dT _)=>True
 |some (.set _ _)=>True
 |some (.ins _ _ _)=>True
 |some (.ext _)=>True
 |_=>False
section
variable {P:av}{w:ax}{H:Hp}{h h':aw}{x e:L}{o':HO}
theorem tF.write(ok:tF P w H h)(mu:Mut (H x))(he:e=x\/H e=U (.own x))(k:∀b u,b≠e->h.get? b=U u->h'.get? b=U u)(heo:∃u,h'.get? e=U u)
  (new:aW P w (upd H x o') h' x o'):tF P w (upd H x o') h':=λb u q=>by
 have nown:∀c y,H c=U (.own y)->c≠x:=λc y r z=>by subst z;rw[r] at mu;exact mu
 have ntup:∀c xs,H c=U (.tup xs)->c≠x:=λc xs r z=>by subst z;rw[r] at mu;exact mu
 by_cases hb:b=x
 ·subst hb;rw[zh] at q;cases q;exact new
 ·rw[zk hb] at q;by_cases hbe:b=e
  ·have q':H b=U (.own x):=by
    rcases he with z|z
    ·exact absurd (hbe.trans z) hb
    ·rw[hbe];exact z
   rw[q] at q';cases q';obtain⟨v,hv⟩:=heo;exact⟨v,by rw[hbe];exact hv⟩
  ·refine(ok b u q).stay (λc v hc r=>k c v ?_ r) (λc r=>by rw[zk (nown c b r)];exact r) λc xs r=>by rw[zk (ntup c xs r)];exact r
   rcases hc with rfl|hc
   ·exact hbe
   ·rintro rfl;rcases he with z|z
    ·exact nown c b hc z
    ·rw[hc] at z;cases z;exact hb rfl
end
structure Un(fs ex:List L)(H H':Hp)(h h':aw):Prop where
 keep:∀b o,h.get? b=U o->H b=ao->b ∉ fs->b ∉ ex->h'.get? b=U o
 slot:∀b o,h.get? b=U o->H b=ao->b∈fs->b ∉ ex->∃sl,h'.get? b=U { o with slots:=sl }
 free:∀b o,h.get? b=U o->H b=ao->b ∉ ex->H' b=ao
 there:∀b o,h.get? b=U o->b ∉ ex->∃o',h'.get? b=U o'
 tups:∀b xs,H b=U (.tup xs)->H' b=U (.tup xs)
 frzs:∀b o u,H b=U (.frz o u)->H' b=U (.frz o u)
 tbls:∀b ps,H b=U (.tbl ps)->∃more,H' b=U (.tbl (ps++more))
section
variable {fs fs' ex ex':List L}{H H1 H2:Hp}{h h1 h2 h':aw}{a x e:L}{o:HO}
theorem Un.any(u:Un fs ex H H1 h h1)(q:h.get? b=U ob)(n:H b=ao)(hx:b ∉ ex):∃sl,h1.get? b=U { ob with slots:=sl }:=by
 by_cases hb:b∈fs
 ·exact u.slot b ob q n hb hx
 ·exact⟨ob.slots,u.keep b ob q n hb hx⟩
theorem Un.kept(k:∀b u,h.get? b=U u->h'.get? b=U u):Un fs ex H H h h' :=
 ⟨λb ob q _ _ _=>k b ob q,λb ob q _ _ _=>⟨ob.slots,k b ob q⟩,λ_ _ _ n _=>n,λb ob q _=>⟨ob,k b ob q⟩,λ_ _ q=>q,λ_ _ _ q=>q,λ_ ps q=>⟨#[],by rw[q];simp⟩⟩
theorem Un.refl:Un fs ex H H h h:=Un.kept λ_ _ q=>q
theorem Un.laid(k:∀b u,h.get? b=U u->h'.get? b=U u)(hp:h.objs.size<=a)(hn:H a=ao):Un fs ex H (upd H a o) h h' where
 keep:=λb u q _ _ _=>k b u q
 slot:=λb u q _ _ _=>⟨u.slots,k b u q⟩
 free:=λb u q n _=>by rw[zk (bX (b6 (bO q) hp))];exact n
 there:=λb u q _=>⟨u,k b u q⟩
 tups:=λb xs q=>by rw[zk (zy q hn)];exact q
 frzs:=λb u xs q=>by rw[zk (zy q hn)];exact q
 tbls:=λb ps q=>⟨#[],by rw[zk (zy q hn),q];simp⟩
theorem Un.write(mu:Mut (H x))(he:e=x\/H e=U (.own x))(k:∀b u,b≠e->h.get? b=U u->h'.get? b=U u)(heo:∃u,h'.get? e=U u):Un fs ex H (upd H x o) h h':=by
 have hx:∀b,H b=ao->b≠x:=λb n z=>by subst z;rw[n] at mu;exact mu
 have hb:∀b,H b=ao->b≠e:=λb n z=>by
  subst z;rcases he with r|r
  ·exact hx b n r
  ·rw[n] at r;cases r
 have hm:∀b u,H b=U u->¬ Mut (U u)->b≠x:=λb u q nm z=>by subst z;rw[q] at mu;exact nm mu
 refine⟨λb u q n _ _=>k b u (hb b n) q,λb u q n _ _=>⟨u.slots,k b u (hb b n) q⟩,λb u q n _=>by rw[zk (hx b n)];exact n,λb u q _=>?_,
  λb xs q=>by rw[zk (hm b _ q λz=>z)];exact q,λb u xs q=>by rw[zk (hm b _ q λz=>z)];exact q,λb ps q=>⟨#[],by rw[zk (hm b _ q λz=>z),q];simp⟩⟩
 by_cases hbe:b=e
 ·subst hbe;exact heo
 ·exact⟨u,k b u hbe q⟩
end
def trk(h:aw)(H:Hp):List L:=(dt h.objs.size).filter λa=>(H a).isSome
def Kj(h:aw)(H:Hp):aw:=gF h (trk h H)
theorem zcN(h:aw)(H:Hp):(Kj h H).objs.size=h.objs.size:=W.hideAll_size _ _
theorem zdA{H:Hp}(e:h.get? b=U o)(n:H b=ao):(Kj h H).get? b=U o:=
 i9 _ e λhm=>by
  have q:(H b).isSome=D:=(cr.mp hm).2;rw[n] at q;simp at q
theorem zfz{H:Hp}(e:(Kj h H).get? b=U o):h.get? b=U o/\H b=ao:=by
 have e':h.get? b=U o:=lV (trk h H) e;refine⟨e',?_⟩;cases q:H b with
 |none=>rfl
 |some x =>
  have hm:b∈trk h H:=cr.mpr ⟨List.mem_range.mpr (bO e'),by simp[q]⟩;have z:(Kj h H).get? b=ao:=fO (trk h H) hm;rw[z] at e;cases e
def zfA(g h:aw)(Bp:L):List (L×Obj):=(dt h.objs.size).filterMap λa=>if a=Bp\/(g.get? a).isSome=D then ao else (h.get? a).map λo=>(a,o)
def rest(g h:aw)(Bp d:L):List (L×Obj):=(zfA g h Bp).filter λp=>decide (p.1≠d)
structure Mod(K:bu)(mg:Str->Option af)(base:aw):Prop where
 kin:K.In base
 glob:base.Ns Bd mg
 blt:∃mb,base.Ns builtinsNs mb/\∀x:Str,x≠"__name__"->mb x=Bh x
 nolimit:base.NoLimit
set_option genSizeOf false in
set_option genInjectivity false in
structure Cx where
 prog:av
 w:ax
 K:bu
 mg:Str->Option af
 base:aw
 A:ay
 N:List Str
 s₀:am
 H₀:Hp
 env:Env
 outer:List Env
 stack:List Env
 ex:List L
 fn:Str->Bool
 calm:Bool
 pn:List (L×Obj)
 xe:af->am->Prop
def sX(l:List Env):List L:=l.filterMap (·.frame)
abbrev Cx.fs(X:Cx):List L:=sX X.outer
def Vis(sc:aC)(x:Str):Prop:=sc.names.lookup x=U .local\/sc.names.lookup x=U .cell\/sc.names.lookup x=U .free
def Loc(sc:aC)(x:Str):Prop:=sc.names.lookup x=U .local\/sc.names.lookup x=U .cell
def ziw(env:Env)(h:aw)(m:Str->Option af)(x:Str)(u:af):Prop :=
 (env.kindOf x=U .local/\m x=U u)\/((env.kindOf x=U .cell\/env.kindOf x=U .free)/\∃c,env.cells.lookup x=U c/\h.IsCell c (U u))
structure Cx.Ok(X:Cx):Prop where
 mod:Mod X.K X.mg X.base
 kind:X.env.scope.kind=.function
 glob:X.env.globals=Bd
 blt:X.env.builtins=builtinsNs
 above:X.s₀.heap.objs.size<=X.env.locals
 inj:∀x y c,X.env.cells.lookup x=U c->X.env.cells.lookup y=U c->x=y
 has:∀x,(X.env.kindOf x=U .cell\/X.env.kindOf x=U .free)->∃c,X.env.cells.lookup x=U c
 cab:∀x c,X.fn x=D->X.env.cells.lookup x=U c->X.s₀.heap.objs.size<=c
 hd:X.calm=D->X.A.handled=ao
 frames:X.A.frames=U X.stack
 stk:X.stack=X.outer\/(X.stack=X.env::X.outer/\X.env.frame=U X.env.locals)
 exf:∀b∈X.ex,b≠X.env.locals/\∀x c,X.env.cells.lookup x=U c->c≠b
 bs:∀b o,X.base.get? b=U o->X.s₀.heap.get? b=U o/\X.H₀ b=ao
 bsz:X.base.objs.size<=X.s₀.heap.objs.size
 noex:∀b o,X.base.get? b=U o->b ∉ X.ex
 exfs:∀b∈X.ex,b ∉ X.fs
 funs:X.s₀.heap.FunFrames X.base X.outer
 frf:∀b∈X.fs,X.H₀ b=ao
structure aO(X:Cx)(aa:List (L×Obj))(σ:List (Option V))(H:Hp)(s:am):Prop where
 ok:X.Ok
 os:s.os=X.s₀.os
 bare:AllBare s.gens
 base:Un X.fs X.ex X.H₀ H X.s₀.heap s.heap
 loc:∃m,s.heap.Ns X.env.locals m/\∀(i:Nat) (x:Str) (v:V),X.N[i]?=U x->σ[i]?=U (U v)->Vis X.env.scope x->∃u,aU v u/\ziw X.env s.heap m x u
 cell:∀x c,X.env.cells.lookup x=U c->∃v,s.heap.IsCell c v
 free:H X.env.locals=ao
 freeC:∀x c,X.env.cells.lookup x=U c->H c=ao
 pin:∀p∈X.pn++aa,s.heap.get? p.1=U p.2/\H p.1=ao/\p.1≠X.env.locals/\p.1 ∉ X.fs/\∀v,p.2.data≠.cell v
 hok:tF X.prog X.w H s.heap
 len:σ.length=X.N.length
section
variable {X:Cx}{aa:List (L×Obj)}{σ:List (Option V)}{H H':Hp}{s:am}{h':aw}
theorem Cx.Ok.nofr(ok:X.Ok)(e:X.base.get? b=U o):b ∉ X.fs:=λhb=>by
 have:=(ok.funs.mem hb).1;rw[e] at this;cases this
theorem aO.bs(I:aO X aa σ H s):∀b o,X.base.get? b=U o->s.heap.get? b=U o/\H b=ao:=λb o e =>
 ⟨I.base.keep b o (I.ok.bs b o e).1 (I.ok.bs b o e).2 (I.ok.nofr e) (I.ok.noex b o e),I.base.free b o (I.ok.bs b o e).1 (I.ok.bs b o e).2 (I.ok.noex b o e)⟩
theorem aO.bk(I:aO X aa σ H s):∀b o,X.base.get? b=U o->s.heap.get? b=U o:=λb o e=>(I.bs b o e).1
theorem aO.mod(I:aO X aa σ H s):Mod X.K X.mg X.base:=I.ok.mod
theorem aO.kIn(I:aO X aa σ H s):X.K.In s.heap:=I.ok.mod.kin.keeps I.bk
theorem aO.lt(I:aO X aa σ H s):X.env.locals<s.heap.objs.size:=let ⟨_,hn,_⟩:=I.loc;hn.lt
theorem aO.sz(I:aO X aa σ H s):X.s₀.heap.objs.size<=s.heap.objs.size:=bN I.ok.above (nP I.lt)
theorem aO.nofs(I:aO X aa σ H s){a:L}(h:s.heap.objs.size<=a):a ∉ X.fs:=λhb=>by
 obtain⟨_,o,ho,_⟩:=I.ok.funs.mem hb;exact absurd (b6 (bO ho) (bN I.sz h)) (fB _)
theorem aO.cne(I:aO X aa σ H s):∀x c,X.env.cells.lookup x=U c->c≠X.env.locals:=λx c e z=>by
 obtain⟨v,o,ho,hd⟩:=I.cell x c e;obtain⟨m,⟨o',es,ep,ho',hd',_⟩,_⟩:=I.loc;rw[z,ho'] at ho;cases ho;rw[hd'] at hd;cases hd
theorem aO.funs(I:aO X aa σ H s):s.heap.FunFrames X.base X.outer:=by
 have all:∀(l:List Env),(∀b∈sX l,b∈X.fs)->X.s₀.heap.FunFrames X.base l->s.heap.FunFrames X.base l:=by
  intro l;induction l with
  |nil=>intro _ _;trivial
  |cons env r ih =>
   intro hs hl;obtain⟨hk,⟨Bp,o,hf,hn,ho,hd⟩,hr⟩:=hl;have hL:Bp∈X.fs:=hs Bp (by unfold sX;rw[lE,hf];exact bo);obtain⟨sl,e⟩:=I.base.slot Bp o ho (I.ok.frf Bp hL) hL λz=>I.ok.exfs Bp z hL;exact⟨hk,⟨Bp,_,hf,hn,e,hd⟩,ih (λb hb=>hs b (by unfold sX;rw[lE,hf];exact bh _ hb)) hr⟩
 exact all X.outer (λ_ hb=>hb) I.ok.funs
theorem aO.stack(I:aO X aa σ H s):s.heap.FunFrames X.base X.stack:=by
 rcases I.ok.stk with e|⟨e,hf⟩
 ·rw[e];exact I.funs
 ·rw[e];obtain⟨m,hn,_⟩:=I.loc;refine .cons (by rw[I.ok.kind];decide) hf hn ?_ I.funs;exact Heap.get?_none_of_le (bN I.ok.bsz I.ok.above)
theorem aO.stkSub(I:aO X aa σ H s):∀b∈sX X.stack,b∈X.env.locals::X.fs:=λb hb=>by
 rcases I.ok.stk with e|⟨e,hf⟩
 ·rw[e] at hb;exact bh _ hb
 ·rw[e] at hb;unfold sX at hb;rw[lE,hf] at hb;exact hb
theorem aO.stkFree(I:aO X aa σ H s):∀b∈sX X.stack,H b=ao:=λb hb=>by
 rcases bD.mp (I.stkSub b hb) with e|hb
 ·rw[e];exact I.free
 ·obtain⟨_,o,ho,_⟩:=I.ok.funs.mem hb;exact I.base.free b o ho (I.ok.frf b hb) λz=>I.ok.exfs b z hb
theorem aO.step{t':Nat}{d':Drawn}{ch:List L}(I:aO X aa σ H s)
  (hch:∀b∈ch,(b∈X.ex\/X.s₀.heap.objs.size<=b)/\b≠X.env.locals/\(∀x c,X.env.cells.lookup x=U c->c≠b)/\∀p∈X.pn++aa,p.1≠b)
  (keep:∀b o,b≠X.env.locals->b ∉ X.fs->b ∉ ch->s.heap.get? b=U o->H b=ao->h'.get? b=U o)
  (slot:∀b o,b≠X.env.locals->b∈X.fs->b ∉ ch->s.heap.get? b=U o->H b=ao->∃sl,h'.get? b=U { o with slots:=sl }) (free:∀b o,b ∉ ch->s.heap.get? b=U o->H b=ao->H' b=ao)
  (there:∀b o,b ∉ ch->s.heap.get? b=U o->∃o',h'.get? b=U o')
  (tups:∀b xs,H b=U (.tup xs)->H' b=U (.tup xs)) (frzs:∀b o u,H b=U (.frz o u)->H' b=U (.frz o u)) (tbls:∀b ps,H b=U (.tbl ps)->∃more,H' b=U (.tbl (ps++more)))
  (ns:∀m,s.heap.Ns X.env.locals m->h'.Ns X.env.locals m) (hok:tF X.prog X.w H' h') (hg:AllBare g') :
  aO X aa σ H' { s with heap:=h',gens:=g',drawn:=d',toks:=t' }:=by
 have neL:∀b o,X.s₀.heap.get? b=U o->b≠X.env.locals:=λb o e=>bX (b6 (bO e) I.ok.above);have neC:∀b o,X.s₀.heap.get? b=U o->b ∉ X.ex->b ∉ ch:=λb o e hx hb=>by
  rcases(hch b hb).1 with z|z
  ·exact hx z
  ·exact absurd (b6 (bO e) z) (fB _)
 have cellK:∀x c,X.env.cells.lookup x=U c->∀v,s.heap.IsCell c v->h'.IsCell c v:=λx c e v ⟨o,ho,hd⟩=>by
  have nch:c ∉ ch:=λz=>(hch c z).2.2.1 x c e rfl;by_cases hc:c∈X.fs
  ·obtain⟨sl,q⟩:=slot c o (I.cne x c e) hc nch ho (I.freeC x c e);exact⟨_,q,hd⟩
  ·exact⟨o,keep c o (I.cne x c e) hc nch ho (I.freeC x c e),hd⟩
 refine⟨I.ok,I.os,hg,⟨λb o e n hb hx=>?_,λb o e n hb hx=>?_,λb o e n hx=>?_,λb o e hx=>?_,λb xs e=>tups b xs (I.base.tups b xs e),λb o xs e=>frzs b o xs (I.base.frzs b o xs e),λb ps e=>?_⟩,?_,λx c e=>?_,?_,λx c e=>?_,λp hp=>?_,hok,I.len⟩
 ·exact keep b o (neL b o e) hb (neC b o e hx) (I.base.keep b o e n hb hx) (I.base.free b o e n hx)
 ·obtain⟨sl,e1⟩:=I.base.slot b o e n hb hx;obtain⟨sl',e2⟩:=slot b _ (neL b o e) hb (neC b o e hx) e1 (I.base.free b o e n hx);exact⟨sl',e2⟩
 ·obtain⟨o',e1⟩:=I.base.there b o e hx;exact free b o' (neC b o e hx) e1 (I.base.free b o e n hx)
 ·obtain⟨o',e1⟩:=I.base.there b o e hx;exact there b o' (neC b o e hx) e1
 ·obtain⟨m1,e1⟩:=I.base.tbls b ps e;obtain⟨m2,e2⟩:=tbls b _ e1;exact⟨m1++m2,by rw[e2,Array.append_assoc]⟩
 ·obtain⟨m,hn,hl⟩:=I.loc;refine⟨m,ns m hn,λi x v e1 e2 e3=>?_⟩;obtain⟨u,r,l⟩:=hl i x v e1 e2 e3;refine⟨u,r,?_⟩;rcases l with l|⟨k,c,e,z⟩
  ·exact .inl l
  ·exact .inr ⟨k,c,e,cellK x c e _ z⟩
 ·obtain⟨v,z⟩:=I.cell x c e;exact⟨v,cellK x c e v z⟩
 ·obtain⟨m,⟨o,_,_,ho,_⟩,_⟩:=I.loc;exact free _ o (λz=>(hch _ z).2.1 Y) ho I.free
 ·obtain⟨v,o,ho,hd⟩:=I.cell x c e;exact free c o (λz=>(hch c z).2.2.1 x c e Y) ho (I.freeC x c e)
 ·obtain⟨e,n,ne,nf,d⟩:=I.pin p hp;have nch:p.1 ∉ ch:=λz=>(hch p.1 z).2.2.2 p hp rfl;exact⟨keep p.1 p.2 ne nf nch e n,free p.1 p.2 nch e n,ne,nf,d⟩
theorem aO.un(I:aO X aa σ H s)(u:Un X.fs [] H H' s.heap h')(hok:tF X.prog X.w H' h'):aO X aa σ H' { s with heap:=h',toks:=t' }:=by
 obtain⟨m,⟨o,es,ep,ho,r⟩,_⟩:=id I.loc;obtain⟨sl,hL⟩:=u.any ho I.free (by simp);exact I.step (g':=s.gens) (d':=s.drawn) (ch:=[]) () (λb o _ hb _ e n=>u.keep b o e n hb (by simp)) (λb o _ hb _ e n=>u.slot b o e n hb (by simp)) (λb o _ e n=>u.free b o e n (by simp)) (λb o _ e=>u.there b o e (by simp)) u.tups u.frzs u.tbls (λm' hm=>by
  obtain⟨o',es',ep',ho',r'⟩:=hm;rw[ho] at ho';cases ho';exact⟨_,es',ep',hL,r'⟩) hok I.bare
theorem aO.call(I:aO X aa σ H s)(u:Un (sX X.stack) ch H H' s.heap h')(hok:tF X.prog X.w H' h')(hg:AllBare g')
  (hch:∀b∈ch,(b∈X.ex\/X.s₀.heap.objs.size<=b)/\b≠X.env.locals/\(∀x c,X.env.cells.lookup x=U c->c≠b)/\∀p∈X.pn++aa,p.1≠b) :
  aO X aa σ H' { s with heap:=h',gens:=g',drawn:=d',toks:=t' }:=by
 obtain⟨m,⟨o,es,ep,ho,r⟩,_⟩:=id I.loc;obtain⟨sl,hL⟩:=u.any ho I.free λz=>(hch _ z).2.1 rfl;exact I.step (ch:=ch) hch (λb o hL hb hc e n=>u.keep b o e n (λz=>(bD.mp (I.stkSub b z)).elim hL hb) hc) (λb o _ _ hc e n=>u.any e n hc) (λb o hc e n=>u.free b o e n hc) (λb o hc e=>u.there b o e hc) u.tups u.frzs u.tbls (λm' hm=>by
  obtain⟨o',es',ep',ho',r'⟩:=hm;rw[ho] at ho';cases ho';exact⟨_,es',ep',hL,r'⟩) hok hg
theorem aO.turned(I:aO X aa σ H s)(k:∀b o,b≠it->s.heap.get? b=U o->h'.get? b=U o)(hn:H it=ao)(hL:it≠X.env.locals)
  (h1:it∈X.ex\/X.s₀.heap.objs.size<=it) (h2:∀x c,X.env.cells.lookup x=U c->c≠it) (h3:∀p∈X.pn++aa,p.1≠it):aO X aa σ H { s with heap:=h',toks:=t' }:=by
 have nit:∀b u,H b=U u->b≠it:=λb u e z=>by rw[z,hn] at e;cases e
 refine I.step (g':=s.gens) (d':=s.drawn) (ch:=[it]) (λb hb=>?_) (λb o _ _ hc e _=>k b o (λz=>hc (by simp[z])) e) (λb o _ _ hc e _=>⟨o.slots,k b o (λz=>hc (by simp[z])) e⟩) (λ_ _ _ _ n=>n)
  (λb o hc e=>⟨o,k b o (λz=>hc (by simp[z])) e⟩) (λ_ _ e=>e) (λ_ _ _ e=>e) (λb ps e=>⟨#[],by rw[e];simp⟩) (λm hm=>?_) (λb u e=>?_) I.bare
 ·have e:b=it:=by simpa using hb
  subst e;exact⟨h1,hL,h2,h3⟩
 ·obtain⟨o,es,ep,ho,r⟩:=hm;exact⟨o,es,ep,k _ o (eA hL) ho,r⟩
 ·refine(I.hok b u e).stay (λc v hc q=>k c v ?_ q) (λ_ q=>q) λ_ _ q=>q;rcases hc with z|z
  ·rw[z];exact nit b u e
  ·exact nit c _ z
theorem aO.tok(I:aO X aa σ H s)(t:Nat):aO X aa σ H { s with toks:=t }:=I.un (h':=s.heap) (t':=t) Un.refl I.hok
theorem aO.kept(I:aO X aa σ H s)(k:∀b u,s.heap.get? b=U u->h'.get? b=U u):aO X aa σ H { s with heap:=h',toks:=t' }:=I.un (Un.kept k) (I.hok.kept k)
theorem aO.laid{a:L}{o:HO}(I:aO X aa σ H s)(k:∀b u,s.heap.get? b=U u->h'.get? b=U u)(hp:s.heap.objs.size<=a)(new:aW X.prog X.w (upd H a o) h' a o) :
  aO X aa σ (upd H a o) { s with heap:=h',toks:=t' }:=I.un (Un.laid k hp (I.hok.fresh hp)) (I.hok.laid k hp new)
theorem aO.write(I:aO X aa σ H s)(mu:Mut (H x))(he:e=x\/H e=U (.own x))(k:∀b u,b≠e->s.heap.get? b=U u->h'.get? b=U u)(heo:∃u,h'.get? e=U u)
  (new:aW X.prog X.w (upd H x o) h' x o):aO X aa σ (upd H x o) { s with heap:=h',toks:=t' }:=I.un (Un.write mu he k heo) (I.hok.write mu he k heo new)
theorem aO.pins_of(I:aO X aa σ H s)(h:∀p∈pins',s.heap.get? p.1=U p.2/\H p.1=ao/\p.1≠X.env.locals/\p.1 ∉ X.fs/\∀v,p.2.data≠.cell v):aO X pins' σ H s:=
 ⟨I.ok,I.os,I.bare,I.base,I.loc,I.cell,I.free,I.freeC,λp hp=>(bB.mp hp).elim (λz=>I.pin p (cy _ z)) (h p),I.hok,I.len⟩
theorem Qx{N:List Str}(hN:N.Nodup){i j:Nat}(a:N[i]?=U x)(b:N[j]?=U x):i=j:=by
 obtain⟨h1,e1⟩:=bn.mp a;obtain⟨h2,e2⟩:=bn.mp b;exact(iX hN).mp (e1.trans e2.symm)
theorem JB{E:af->am->Prop}{Q:Unit->am->Prop}(I:aO X aa σ H s)(hN:X.N.Nodup)(hi:X.N[i]?=U x)(hx:Loc X.env.scope x)(r:aU v u)
  (h:∀s',aO X aa (σ.set i (U v)) H s'->(∃a,cF a s.heap s'.heap/\(a=X.env.locals\/X.env.cells.lookup x=U a))->Q PUnit.unit s') (hf:X.fn x=D\/X.env.scope.names.lookup x=U .local:=by first|exact .inl rfl|exact .inr rfl|assumption):Bf M A (storeName X.env x u) Q E s:=by
 obtain⟨m,hn,hl⟩:=id I.loc;have hcls:(X.env.scope.kind==.class || (X.env.scope.kind==.module&&X.env.locals != X.env.globals))=aq:=by rw[I.ok.kind];rfl
 have hiσ:i<σ.length:=by rw[I.len];exact(bn.mp hi).1
 have cne:=I.cne;have tracked:∀ {a:L} {h':aw},(∃o,s.heap.get? a=U o/\H a=ao)->cF a s.heap h'->tF X.prog X.w H h':=λ{a h'} ha hs b ob e=>by
  obtain⟨_,_,hfree⟩:=ha;refine(I.hok b ob e).stay (λc w' hc q=>(hs.2 c ?_).trans q) (λ_ q=>q) λ_ _ q=>q;rintro rfl;rcases hc with rfl|hc
  ·rw[hfree] at e;cases e
  ·rw[hfree] at hc;cases hc
 rcases hx with hk|hk
 ·refine wpAny_storeName_local hk hn (λh' hn' hs=>?_) hcls;obtain⟨oL,_,_,hoL,_⟩:=id hn;refine h _ ⟨I.ok,I.os,I.bare,⟨λb o e n hb hx=>?_,λb o e n hb hx=>?_,I.base.free,λb o e hx=>?_,I.base.tups,I.base.frzs,I.base.tbls⟩,⟨_,hn',λj y v' e1 e2 e3=>?_⟩,λy c e=>?_,I.free,I.freeC,λp hp=>?_,tracked ⟨oL,hoL,I.free⟩ hs,by simpa using I.len⟩ ⟨_,hs,.inl Y⟩
  ·exact(hs.2 b (bX (b6 (bO e) I.ok.above))).trans (I.base.keep b o e n hb hx)
  ·obtain⟨sl,e1⟩:=I.base.slot b o e n hb hx;exact⟨sl,(hs.2 b (bX (b6 (bO e) I.ok.above))).trans e1⟩
  ·obtain⟨o',e1⟩:=I.base.there b o e hx;exact⟨o',(hs.2 b (bX (b6 (bO e) I.ok.above))).trans e1⟩
  ·by_cases hj:j=i
   ·subst hj;rw[hi] at e1;cases e1;rw[eQ hiσ] at e2;cases e2;exact⟨u,r,.inl ⟨hk,by simp⟩⟩
   ·rw[fc (eA hj)] at e2;obtain⟨u',r',q⟩:=hl j y v' e1 e2 e3;refine⟨u',r',?_⟩;rcases q with ⟨k,e⟩|⟨k,c,e,z⟩
    ·refine .inl ⟨k,?_⟩;have:y≠x:=λe=>hj (Qx hN e1 (e ▸ hi));simp[this,e]
    ·exact .inr ⟨k,c,e,z.sameBut hs (cne y c e)⟩
  ·obtain⟨w',z⟩:=I.cell y c e;exact⟨w',z.sameBut hs (cne y c e)⟩
  ·obtain⟨e,n,ne,nf,d⟩:=I.pin p hp;exact⟨(hs.2 p.1 ne).trans e,n,ne,nf,d⟩
 ·have hfn:X.fn x=D:=by
   rcases hf with z|z
   ·exact z
   ·rw[z] at hk;cases hk
  obtain⟨c,hc⟩:=I.ok.has x (.inl hk);obtain⟨w',z⟩:=I.cell x c hc;refine wpAny_storeName_cell I.ok.kind hk hc z (λh' hc' hs=>?_);obtain⟨oc,hoc,hocd⟩:=id z;refine h { s with heap:=h' } ⟨I.ok,I.os,I.bare,⟨λb o e n hb hx=>?_,λb o e n hb hx=>?_,I.base.free,λb o e hx=>?_,I.base.tups,I.base.frzs,I.base.tbls⟩,⟨m,hn.sameBut hs (eA (cne x c hc)),λj y v' e1 e2 e3=>?_⟩,λy c' e=>?_,I.free,I.freeC,λp hp=>?_,tracked ⟨oc,hoc,I.freeC x c hc⟩ hs,by simpa using I.len⟩ ⟨c,hs,.inr hc⟩
  ·exact(hs.2 b (bX (b6 (bO e) (I.ok.cab x c hfn hc)))).trans (I.base.keep b o e n hb hx)
  ·obtain⟨sl,e1⟩:=I.base.slot b o e n hb hx;exact⟨sl,(hs.2 b (bX (b6 (bO e) (I.ok.cab x c hfn hc)))).trans e1⟩
  ·obtain⟨o',e1⟩:=I.base.there b o e hx;exact⟨o',(hs.2 b (bX (b6 (bO e) (I.ok.cab x c hfn hc)))).trans e1⟩
  ·by_cases hj:j=i
   ·subst hj;rw[hi] at e1;cases e1;rw[eQ hiσ] at e2;cases e2;exact⟨u,r,.inr ⟨.inl hk,c,hc,hc'⟩⟩
   ·rw[fc (eA hj)] at e2;obtain⟨u',r',q⟩:=hl j y v' e1 e2 e3;refine⟨u',r',?_⟩;rcases q with q|⟨k,c',e,z'⟩
    ·exact .inl q
    ·refine .inr ⟨k,c',e,z'.sameBut hs ?_⟩;rintro rfl;exact hj (Qx hN e1 (I.ok.inj _ _ _ e hc ▸ hi))
  ·by_cases hcc:c'=c
   ·subst hcc;exact⟨_,hc'⟩
   ·obtain⟨w2,z2⟩:=I.cell y c' e;exact⟨w2,z2.sameBut hs hcc⟩
  ·obtain⟨e,n,ne,nf,d⟩:=I.pin p hp;refine⟨(hs.2 p.1 ?_).trans e,n,ne,nf,d⟩;intro q;rw[q,hoc] at e;have q':oc=p.2:=bJ e;exact d w' (by rw[<-q'];exact hocd)
theorem WV{E:af->am->Prop}{Q:Unit->am->Prop}(I:aO X aa σ H s)(hN:X.N.Nodup)(hi:X.N[i]?=U x)(hx:Loc X.env.scope x)(r:aU v u)
  (h:∀s',aO X aa (σ.set i (U v)) H s'->Q PUnit.unit s') (hf:X.fn x=D\/X.env.scope.names.lookup x=U .local:=by first|exact .inl rfl|exact .inr rfl|assumption):Bf M A (storeName X.env x u) Q E s:=
 JB I hN hi hx r (λs' I' _=>h s' I') hf
theorem aO.call'(I:aO X aa σ H s)(ho:s'.os=s.os)(u:Un (sX X.stack) ch H H' s.heap s'.heap)(hok:tF X.prog X.w H' s'.heap)(hg:AllBare s'.gens)
  (hch:∀b∈ch,(b∈X.ex\/X.s₀.heap.objs.size<=b)/\b≠X.env.locals/\(∀x c,X.env.cells.lookup x=U c->c≠b)/\∀p∈X.pn++aa,p.1≠b):aO X aa σ H' s':=by
 obtain⟨h',g',d',t',o'⟩:=s';have e:o'=s.os:=ho;subst e;exact I.call (g':=g') (t':=t') (d':=d') u hok hg hch
end
abbrev XK:=af->Option L->Hp->Prop
abbrev St:=List (Option V)
abbrev VK:=V->Hp->Prop
abbrev TE:=St->Hp->VK->Prop
abbrev TT:=St->Hp->(Bool->Hp->Prop)->Prop
abbrev TA:=St->Hp->(List V->Hp->Prop)->Prop
set_option genSizeOf false in
set_option genInjectivity false in
structure Wx where
 nx:St->Hp->Prop
 rt:VK
 bk:St->Hp->Prop:=λ_ _=>False
 ct:St->Hp->Prop:=λ_ _=>False
abbrev TS:=Wx->St->Hp->Prop
def EP(X:Cx)(aa:List (L×Obj))(σ:St)(Q:VK)(u:af)(s':am):Prop:=∃v H',aO X aa σ H' s'/\aU v u/\Q v H'
def TP(X:Cx)(aa:List (L×Obj))(σ:St)(Q:Bool->Hp->Prop)(b:Bool)(s':am):Prop:=∃H',aO X aa σ H' s'/\Q b H'
def AP(X:Cx)(aa:List (L×Obj))(σ:St)(Q:List V->Hp->Prop)(us:List af)(s':am):Prop:=∃vs H',aO X aa σ H' s'/\aR vs us/\Q vs H'
def SP(X:Cx)(aa:List (L×Obj))(Bq:Wx)(f:Flow)(s':am):Prop :=
 match f with
 |.next=>∃σ' H',aO X aa σ' H' s'/\Bq.nx σ' H'
 |.brk=>∃σ' H',aO X aa σ' H' s'/\Bq.bk σ' H'
 |.cont=>∃σ' H',aO X aa σ' H' s'/\Bq.ct σ' H'
 |.ret u=>∃v σ' H',aO X aa σ' H' s'/\aU v u/\Bq.rt v H'
def PE(X:Cx)(e:aB)(t:TE):Prop :=
 ∀(aa:List (L×Obj)) (s:am) (σ:St) (H:Hp) (Q:VK),aO X aa σ H s->t σ H Q->Bf (Bg X.prog X.w) X.A (eval e X.env) (EP X aa σ Q) X.xe s
def PT(X:Cx)(e:aB)(t:TT):Prop :=
 ∀(aa:List (L×Obj)) (s:am) (σ:St) (H:Hp) (Q:Bool->Hp->Prop),aO X aa σ H s->t σ H Q->Bf (Bg X.prog X.w) X.A (isTrue e X.env (eval e X.env)) (TP X aa σ Q) X.xe s
def PW(X:Cx)(e:aB)(t:TT):Prop :=
 ∀(whole:Sem af) (aa:List (L×Obj)) (s:am) (σ:St) (H:Hp) (Q:Bool->Hp->Prop),aO X aa σ H s->t σ H Q->Bf (Bg X.prog X.w) X.A (isTrue e X.env whole) (TP X aa σ Q) X.xe s
theorem PW.pt(h:PW X e t):PT X e t:=h _
def PA(X:Cx)(es:List aB)(t:TA):Prop :=
 ∀(pos:Pos) (aa:List (L×Obj)) (s:am) (σ:St) (H:Hp) (Q:List V->Hp->Prop),aO X aa σ H s->t σ H Q->Bf (Bg X.prog X.w) X.A (spliced (backTo pos (Be es X.env))) (AP X aa σ Q) X.xe s
def PS(X:Cx)(st:aA)(t:TS):Prop :=
 ∀(aa:List (L×Obj)) (s:am) (σ:St) (H:Hp) (Bq:Wx),aO X aa σ H s->t Bq σ H->Bf (Bg X.prog X.w) X.A (exec st X.env) (SP X aa Bq) X.xe s
def PSs(X:Cx)(st:List aA)(t:TS):Prop :=
 ∀(aa:List (L×Obj)) (s:am) (σ:St) (H:Hp) (Bq:Wx),aO X aa σ H s->t Bq σ H->Bf (Bg X.prog X.w) X.A (execs st X.env) (SP X aa Bq) X.xe s
theorem dl{α:Type}{t:Sem α}{Q Q':α->am->Prop}{E:af->am->Prop}(h:Bf M A t Q E s)(hQ:∀a s,Q a s->Q' a s):Bf M A t Q' E s:=dC h hQ λ_ _ x=>x
section
variable {X:Cx}
def Z(i:Nat):TE:=λσ H Q=>∃v,σ[i]?=U (U v)/\Q v H
def tC(v:V):TE:=λ_ H Q=>Q v H
theorem zg9{x:Str}{pos:Pos}(hN:X.N[i]?=U x)(hv:Vis X.env.scope x)(hd:(x==("__debug__":Str))=aq:=by lia)(hcd:(x==("__classdict__":Str))=aq:=by lia):PE X (.Name x pos) (Z i):=by
 intro aa s σ H Q I h;obtain⟨v,e,h⟩:=h;obtain⟨m,hn,hl⟩:=I.loc;obtain⟨u,r,l⟩:=hl i x v hN e hv;have fin:EP X aa σ Q u s:=⟨v,H,I,r,h⟩;rcases l with ⟨hk,hm⟩|⟨hk,c,hc,hcell⟩
 ·exact wpAny_Name (wpAny_loadName_local I.ok.kind hk hn hm fin) hd
 ·rcases hk with hk|hk
  ·exact wpAny_Name (wpAny_loadName_cell I.ok.kind hk hc hcell fin) hd
  ·exact wpAny_Name (wpAny_loadName_free I.ok.kind hk hc hcell fin hcd) hd
theorem zf{i j pos}:PE X (.Constant (.int i) j pos) (tC (.int i)):=λ_ _ _ H _ I h=>wpAny_Constant_int ⟨.int i,H,I.tok _,⟨_,Y⟩,h⟩
theorem vQ{b j pos}:PE X (.Constant (.bool b) j pos) (tC (.bl b)):=λ_ _ _ H _ I h=>Constant_bool ⟨.bl b,H,I,Y,h⟩
theorem y8{j pos}:PE X (.Constant .none j pos) (tC .non):=λ_ _ _ H _ I h=>Constant_none ⟨.non,H,I,Y,h⟩
theorem zE{x j pos}:PE X (.Constant (.str x) j pos) (tC (.str x)):=λ_ _ _ H _ I h=>oW ⟨.str x,H,I.tok _,⟨_,Y⟩,h⟩
def Gl(X:Cx)(x:Str):Prop:=X.env.kindOf x=U .globalImplicit
theorem vG{E:af->am->Prop}{s:am}{σ:St}{H:Hp}{x:Str}{u:af}{pos:Pos}{Q:af->am->Prop}(I:aO X aa σ H s)(hg:Gl X x)(hm:X.mg x=U u)(h:Q u s)
  (hd:(x==("__debug__":Str))=aq:=by lia):Bf (Bg X.prog X.w) X.A (eval (.Name x pos) X.env) Q E s:=
 lS I.ok.kind hg (Calls.loadGlobal_global (by rw[I.ok.glob];exact I.mod.glob.keeps I.bk) hm h) hd
theorem XC{E:af->am->Prop}{s:am}{σ:St}{H:Hp}{x:Str}{u:af}{pos:Pos}{Q:af->am->Prop}(I:aO X aa σ H s)(hg:Gl X x)(hm:X.mg x=ao)(hv:Bh x=U u)(h:Q u s)
  (hn:x≠"__name__":=by lia) (hd:(x==("__debug__":Str))=aq:=by lia):Bf (Bg X.prog X.w) X.A (eval (.Name x pos) X.env) Q E s:=by
 obtain⟨mb,h1,h2⟩:=I.mod.blt;exact lS I.ok.kind hg (Calls.loadGlobal_builtin (by rw[I.ok.glob];exact I.mod.glob.keeps I.bk) hm (by rw[I.ok.blt];exact h1.keeps I.bk) ((h2 x hn).trans hv) h) hd
theorem zfB(hg:Gl X x)(hm:X.mg x=U u)(r:aU v u)(hd:(x==("__debug__":Str))=aq:=by lia):PE X (.Name x pos) (tC v):=
 λ_ _ _ H _ I h=>vG I hg hm ⟨v,H,I,r,h⟩ hd
theorem y6{x:Str}{pos:Pos}(hg:Gl X x)(hm:X.mg x=ao)(hv:Bh x=U u)(r:aU v u)(hn:x≠"__name__":=by lia)(hd:(x==("__debug__":Str))=aq:=by lia):PE X (.Name x pos) (tC v):=
 λ_ _ _ H _ I h=>XC I hg hm hv ⟨v,H,I,r,h⟩ hn hd
variable {a b:aB}{ta tb:TE}{pos:Pos}
def tB(t:TE):TT:=λσ H Q=>t σ H λx H1=>∃c,x=.bl c/\Q c H1
theorem yK{e:aB}{t:TE}(h:PE X e t)(he:∀whole,isTrue e X.env whole=(do let v <-whole;standAt e.pos;holding [v] (truthy v)):=by intro _;rfl):PT X e (tB t):=by
 intro aa s σ H Q I hw;refine isTrue_plain (dl (h aa s σ H _ I hw) ?_) (he _);rintro v s1 ⟨x,H1,I1,r1,q1⟩;obtain⟨d,rfl,q⟩:=q1;cases r1;exact fh ⟨H1,I1,q⟩
variable {tA tB':TT}{rest:List aB}
def VW(t u:TT):TT:=λσ H Q=>t σ H λc H1=>if c=D then u σ H1 Q else Q aq H1
def tOr(t u:TT):TT:=λσ H Q=>t σ H λc H1=>if c=D then Q D H1 else u σ H1 Q
def kL(t:TT):TT:=λσ H Q=>t σ H λc H1=>Q (!c) H1
theorem ZH(ha:PT X a tA):PW X (.BoolOp .And [a] pos) tA:=by
 intro wh aa s σ H Q I h;refine isTrue_and (dl (ha aa s σ H Q I h) λc s1 e=>?_);cases c with
 |true=>exact isTrue_and_nil e
 |false=>exact e
theorem jM(ha:PT X a tA):PW X (.BoolOp .Or [a] pos) tA:=by
 intro wh aa s σ H Q I h;refine isTrue_or (dl (ha aa s σ H Q I h) λc s1 e=>?_);cases c with
 |false=>exact isTrue_or_nil e
 |true=>exact e
theorem XD(ha:PT X a tA)(hb:PW X (.BoolOp .And (b::rest) pos) tB'):PW X (.BoolOp .And (a::b::rest) pos) (VW tA tB'):=by
 intro wh aa s σ H Q I h;refine isTrue_and (dl (ha aa s σ H _ I h) ?_);rintro c s1 ⟨H1,I1,q1⟩;cases c with
 |true=>exact hb wh aa s1 σ H1 Q I1 q1
 |false=>exact⟨H1,I1,q1⟩
theorem qy(ha:PT X a tA)(hb:PW X (.BoolOp .Or (b::rest) pos) tB'):PW X (.BoolOp .Or (a::b::rest) pos) (tOr tA tB'):=by
 intro wh aa s σ H Q I h;refine isTrue_or (dl (ha aa s σ H _ I h) ?_);rintro c s1 ⟨H1,I1,q1⟩;cases c with
 |true=>exact⟨H1,I1,q1⟩
 |false=>exact hb wh aa s1 σ H1 Q I1 q1
theorem wI(ha:PT X a tA):PT X (.UnaryOp .Not a pos) (kL tA):=by
 intro aa s σ H Q I h;exact isTrue_not (ha aa s σ H (λc H1=>Q (!c) H1) I h)
def Qy(ta tb:TE):TE:=λσ H Q=>ta σ H λx H1=>∃c,x=.bl c/\if c=D then tb σ H1 Q else Q (.bl aq) H1
def zh0(ta tb:TE):TE:=λσ H Q=>ta σ H λx H1=>∃c,x=.bl c/\if c=D then Q (.bl D) H1 else tb σ H1 Q
def zgI(ta:TE):TE:=λσ H Q=>ta σ H λx H1=>∃c,x=.bl c/\Q (.bl (!c)) H1
theorem Kk{op}{t:TE}(h:PE X a t):PE X (.BoolOp op [a] pos) t:=λaa s σ H Q I hw=>BoolOp_one (h aa s σ H Q I hw)
theorem Kl(ha:PE X a ta)(hb:PE X (.BoolOp .And (b::rest) pos) tb):PE X (.BoolOp .And (a::b::rest) pos) (Qy ta tb):=by
 intro aa s σ H Q I h;refine BoolOp_and (dl (ha aa s σ H _ I h) ?_);rintro v s1 ⟨x,H1,I1,r1,q1⟩;obtain⟨c,rfl,q1⟩:=q1;cases r1;refine fh ?_;cases c with
 |true=>exact hb aa s1 σ H1 Q I1 q1
 |false=>exact⟨.bl aq,H1,I1,Y,q1⟩
theorem zh1(ha:PE X a ta)(hb:PE X (.BoolOp .Or (b::rest) pos) tb):PE X (.BoolOp .Or (a::b::rest) pos) (zh0 ta tb):=by
 intro aa s σ H Q I h;refine BoolOp_or (dl (ha aa s σ H _ I h) ?_);rintro v s1 ⟨x,H1,I1,r1,q1⟩;obtain⟨c,rfl,q1⟩:=q1;cases r1;refine fh ?_;cases c with
 |false=>exact hb aa s1 σ H1 Q I1 q1
 |true=>exact⟨.bl D,H1,I1,Y,q1⟩
theorem zha(ha:PE X a ta):PE X (.UnaryOp .Not a pos) (zgI ta):=by
 intro aa s σ H Q I h;refine UnaryOp_ (dl (ha aa s σ H _ I h) ?_);rintro v s1 ⟨x,H1,I1,r1,q1⟩;obtain⟨c,rfl,q1⟩:=q1;cases r1;exact not_of (fh ⟨.bl (!c),H1,I1,Y,q1⟩)
def tIf(t:TT)(ta tb:TE):TE:=λσ H Q=>t σ H λc H1=>if c=D then ta σ H1 Q else tb σ H1 Q
theorem vR(hc:PT X c tA)(ha:PE X a ta)(hb:PE X b tb):PE X (.IfExp c a b pos) (tIf tA ta tb):=by
 intro aa s σ H Q I h;refine wpAny_IfExp (dl (hc aa s σ H _ I h) ?_);rintro d s1 ⟨H1,I1,q1⟩;cases d with
 |true=>exact ha aa s1 σ H1 Q I1 q1
 |false=>exact hb aa s1 σ H1 Q I1 q1
end
def aT(K:bu)(H:Hp)(a:L)(xs:List V):Prop :=
 Rd H a (.lst xs) \/
  ∃(o:Obj) (its:Array af) (n:Nat),K.lookup a=U o/\o.cls=.type "list"/\o.dict=ao/\o.data=.seq its n/\its.size<=Bb/\aR xs its.toList
def sB(K:bu)(H:Hp)(a:L)(xs:List V):Prop :=
 Rd H a (.tup xs) \/
  ∃(o:Obj) (its:Array af) (n:Nat),K.lookup a=U o/\o.cls=.type "tuple"/\o.data=.seq its n/\its.size<=Bb/\aR xs its.toList
def zix:af->Option V
 |.none=>U .non
 |.bool b=>U (.bl b)
 |.int i _=>U (.int i)
 |.str x _=>U (.str x)
 |.bytes b _=>U (.byt b)
 |.float b _=>U (.flt b)
 |.ref a=>U (.ref a)
 |.type n=>U (.ty n)
 |_=>ao
theorem aU.abs(r:aU x u):zix u=U x:=by
 cases x with
 |non=>cases r;rfl
 |bl _=>cases r;rfl
 |int _=>obtain⟨t,rfl⟩:=r;rfl
 |str _=>obtain⟨t,rfl⟩:=r;rfl
 |byt _=>obtain⟨t,rfl⟩:=r;rfl
 |flt _=>obtain⟨t,rfl⟩:=r;rfl
 |ref _=>cases r;rfl
 |ty _=>cases r;rfl
theorem aU.inj(r:aU x u)(q:aU y u):x=y:=bJ (r.abs.symm.trans q.abs)
theorem aR.inj:∀ {xs ys:List V} {us:List af},aR xs us->aR ys us->xs=ys
 |_,_,_,.nil,.nil=>rfl
 |_,_,_,.cons r t,.cons r' t'=>by rw[r.inj r',aR.inj t t']
section
variable {X:Cx}{aa:List (L×Obj)}{σ:St}{H:Hp}{s:am}{a:L}{xs ys:List V}
theorem aT.of{K:bu}(h:H a=U (.lst xs)):aT K H a xs:=.inl (.inl h)
theorem sB.of{K:bu}(h:H a=U (.tup xs)):sB K H a xs:=.inl (.inl h)
theorem aO.list(I:aO X aa σ H s)(h:aT X.K H a xs):∃its:List af,aR xs its/\PlainL s.heap a its.toArray/\xs.length<=Bb:=by
 rcases h with h|⟨o,its,n,hk,hc,hd,hs,hz,r⟩
 ·obtain⟨z,its,n,r,e⟩:=h.ok I.hok;exact⟨its,r,⟨_,n,e,Y,Y,Y⟩,z⟩
 ·refine⟨its.toList,r,⟨o,n,I.kIn a o hk,hc,hd,by simpa using hs⟩,?_⟩;have e:=r.length;simp only[cu] at e;lia
theorem aO.tuple(I:aO X aa σ H s)(h:sB X.K H a xs):∃its:List af,aR xs its/\IsTup s.heap a its.toArray/\xs.length<=Bb:=by
 rcases h with h|⟨o,its,n,hk,hc,hs,hz,r⟩
 ·obtain⟨z,its,r,p⟩:=h.ok I.hok;exact⟨its,r,p,z⟩
 ·refine⟨its.toList,r,⟨o,I.kIn a o hk,hc,n,by simpa using hs⟩,?_⟩;have e:=r.length;simp only[cu] at e;lia
theorem aO.list_inj(I:aO X aa σ H s)(h:aT X.K H a xs)(h':aT X.K H a ys):xs=ys:=by
 obtain⟨its,r,⟨o,n,e,_,_,d⟩,_⟩:=I.list h;obtain⟨its',r',⟨o',n',e',_,_,d'⟩,_⟩:=I.list h';rw[e] at e';cases e';rw[d] at d';injection d' with d1 _;have:its=its':=by simpa using congrArg Array.toList d1
 subst this;exact r.inj r'
theorem aO.tuple_inj(I:aO X aa σ H s)(h:sB X.K H a xs)(h':sB X.K H a ys):xs=ys:=by
 obtain⟨its,r,⟨o,e,_,n,d⟩,_⟩:=I.tuple h;obtain⟨its',r',⟨o',e',_,n',d'⟩,_⟩:=I.tuple h';rw[e] at e';cases e';rw[d] at d';injection d' with d1 _;have:its=its':=by simpa using congrArg Array.toList d1
 subst this;exact r.inj r'
end
abbrev Cx.wish(X:Cx)(E:af->am->Prop):Cx:={ X with xe:=E }
abbrev Cx.nox(X:Cx):Cx:=X.wish λ_ _=>False
theorem Cx.Ok.wish{X:Cx}(ok:X.Ok)(E:af->am->Prop):(X.wish E).Ok :=
 ⟨ok.mod,ok.kind,ok.glob,ok.blt,ok.above,ok.inj,ok.has,ok.cab,ok.hd,ok.frames,ok.stk,ok.exf,ok.bs,ok.bsz,ok.noex,ok.exfs,ok.funs,ok.frf⟩
theorem Cx.Ok.unwish{X:Cx}{E:af->am->Prop}(ok:(X.wish E).Ok):X.Ok :=
 ⟨ok.mod,ok.kind,ok.glob,ok.blt,ok.above,ok.inj,ok.has,ok.cab,ok.hd,ok.frames,ok.stk,ok.exf,ok.bs,ok.bsz,ok.noex,ok.exfs,ok.funs,ok.frf⟩
section
variable {X:Cx}{aa:List (L×Obj)}{σ:St}{H:Hp}{s:am}{E:af->am->Prop}
theorem aO.wish(I:aO X aa σ H s)(E:af->am->Prop):aO (X.wish E) aa σ H s:=⟨I.ok.wish E,I.os,I.bare,I.base,I.loc,I.cell,I.free,I.freeC,I.pin,I.hok,I.len⟩
theorem aO.unwish(I:aO (X.wish E) aa σ H s):aO X aa σ H s:=⟨I.ok.unwish,I.os,I.bare,I.base,I.loc,I.cell,I.free,I.freeC,I.pin,I.hok,I.len⟩
theorem SP.unwish(h:SP (X.wish E) aa Bq f s'):SP X aa Bq f s':=by
 cases f with
 |next=>obtain⟨σ',H',I,q⟩:=h;exact⟨σ',H',I.unwish,q⟩
 |brk=>obtain⟨σ',H',I,q⟩:=h;exact⟨σ',H',I.unwish,q⟩
 |cont=>obtain⟨σ',H',I,q⟩:=h;exact⟨σ',H',I.unwish,q⟩
 |ret u=>obtain⟨v,σ',H',I,r,q⟩:=h;exact⟨v,σ',H',I.unwish,r,q⟩
theorem PSs.nox{st:List aA}{t:TS}(h:PSs X.nox st t):PSs X st t:=λaa s σ H Bq I hw =>
 dC (h aa s σ H Bq (I.wish _) hw) (λ_ _ q=>q.unwish) λ_ _ z=>cS z
end
section
variable {X:Cx}{st:aA}{rest:List aA}{t u:TS}{e:aB}{te:TE}{pos:Pos}
def zK:TS:=λBq σ H=>Bq.nx σ H
def zo(t u:TS):TS:=λBq σ H=>t { Bq with nx:=u Bq } σ H
theorem zx:PSs X [] zK:=λ_ _ σ H _ I h=>eL ⟨σ,H,I,h⟩
theorem zd(h1:PS X st t)(h2:PSs X rest u):PSs X (st::rest) (zo t u):=by
 intro aa s σ H Bq I h;refine iY (dl (h1 aa s σ H { Bq with nx:=u Bq } I h) λf s1 q=>?_);cases f with
 |next =>
  obtain⟨σ',H',I',q⟩:=q;exact h2 aa s1 σ' H' Bq I' q
 |ret v=>exact q
 |brk=>exact q
 |cont=>exact q
theorem zg(h1:PS X st t):PSs X [st] t:=by
 intro aa s σ H Bq I h;refine iY (dl (h1 aa s σ H Bq I h) λf s1 q=>?_);cases f with
 |next=>exact eL q
 |ret v=>exact q
 |brk=>exact q
 |cont=>exact q
theorem aO.quiet{σ:St}{H:Hp}{s:am}(I:aO X aa σ H s):interactive X.env=aq:=by simp[interactive,I.ok.kind]
def yk(te:TE):TS:=λBq σ H=>te σ H λ_ H1=>Bq.nx σ H1
theorem zO(he:PE X e te)(hs:swapsWith e ao pos.line X.env=pure aq:=by rfl):PS X (.Expr e pos) (yk te):=by
 intro aa s σ H Bq I h;exact wpAny_Expr_any (dl (he aa s σ H _ I h) λv s1 ⟨x,H1,I1,r1,q1⟩=>⟨σ,H1,I1,q1⟩) I.quiet hs
def zL(te:TE):TS:=λBq σ H=>te σ H Bq.rt
theorem zp(he:PE X e te):PS X (.Return (U e) pos) (zL te):=by
 intro aa s σ H Bq I h;exact wpAny_Return_some (dl (he aa s σ H _ I h) λv s1 ⟨x,H1,I1,r1,q1⟩=>⟨x,σ,H1,I1,r1,q1⟩)
def zgJ:TS:=λBq _ H=>Bq.rt .non H
theorem zfC:PS X (.Return ao pos) zgJ:=λ_ _ σ H _ I h=>wpAny_Return_none ⟨.non,σ,H,I,Y,h⟩
def zS(c:TT)(t u:TS):TS:=λBq σ H=>c σ H λb H1=>if b=D then t Bq σ H1 else u Bq σ H1
theorem zH(hc:PT X c tc)(ha:PSs X a t)(hb:PSs X b u):PS X (.If c a b pos) (zS tc t u):=by
 intro aa s σ H Bq I h;refine wpAny_If (dl (hc aa s σ H _ I h) ?_);rintro d s1 ⟨H1,I1,q1⟩;cases d with
 |true=>exact ha aa s1 σ H1 Bq I1 q1
 |false=>exact hb aa s1 σ H1 Bq I1 q1
def zba:TS:=λ_ _ _=>False
theorem Qz:PS X st zba:=λ_ _ _ _ _ _ h=>h.elim
end
abbrev TG:=V->St->Hp->(St->Hp->Prop)->Prop
abbrev TGs:=List V->St->Hp->(St->Hp->Prop)->Prop
def PG(X:Cx)(target:aB)(t:TG):Prop :=
 ∀(aa:List (L×Obj)) (s:am) (σ:St) (H:Hp) (v:V) (u:af) (Q:St->Hp->Prop),aO X aa σ H s->aU v u->t v σ H Q ->
  Bf (Bg X.prog X.w) X.A (assign target X.env u) (λ_ s'=>∃σ' H',aO X aa σ' H' s'/\Q σ' H') X.xe s
def PGs(X:Cx)(ts:List aB)(t:TGs):Prop :=
 ∀(aa:List (L×Obj)) (s:am) (σ:St) (H:Hp) (vs:List V) (us:List af) (Q:St->Hp->Prop),aO X aa σ H s->aR vs us->t vs σ H Q ->
  Bf (Bg X.prog X.w) X.A (assignInOrder ((assignEach ts X.env).map (·.2)) us) (λ_ s'=>∃σ' H',aO X aa σ' H' s'/\Q σ' H') X.xe s
section
variable {X:Cx}{pos:Pos}
def zt(i:Nat):TG:=λv σ H Q=>Q (σ.set i (U v)) H
theorem kM(hN:X.N.Nodup)(hi:X.N[i]?=U x)(hx:Loc X.env.scope x)(hf:X.fn x=D\/X.env.scope.names.lookup x=U .local:=by first|exact .inl rfl|exact .inr rfl|assumption):PG X (.Name x pos) (zt i):=by
 intro aa s σ H v u Q I r h;exact wpAny_assign_Name (WV I hN hi hx r (λs' I'=>⟨_,H,I',h⟩) hf)
def Km:TGs:=λvs σ H Q=>vs=[]/\Q σ H
def w4(t:TG)(u:TGs):TGs:=λvs σ H Q=>∃v r,vs=v::r/\t v σ H λσ' H'=>u r σ' H' Q
theorem ZI:PGs X [] Km:=by
 intro aa s σ H vs us Q I r h;obtain⟨e,h⟩:=h;subst e;cases r;exact assignInOrder_nil ⟨σ,H,I,h⟩
theorem xn{e:aB}{es:List aB}{t:TG}{u:TGs}(h1:PG X e t)(h2:PGs X es u)
  (hs:(assignEach (e::es) X.env).map (·.2)=assign e X.env::(assignEach es X.env).map (·.2):=by rfl):PGs X (e::es) (w4 t u):=by
 intro aa s σ H vs us Q I r h;obtain⟨v,vr,e1,h⟩:=h;subst e1;cases r with
 |cons r rr =>
  rw[hs];refine assignInOrder_cons (dl (h1 aa s σ H _ _ _ I r h) ?_);rintro _ s1 ⟨σ1,H1,I1,q1⟩;exact h2 aa s1 σ1 H1 _ _ Q I1 rr q1
def Kn(K:bu)(n:Nat)(t:TGs):TG:=λv σ H Q=>∃a xs,v=.ref a/\sB K H a xs/\xs.length=n/\t xs σ H Q
theorem XE{es:List aB}{k:Nat}{t:TGs}{n:Nat}(hc:X.calm=D)(h:PGs X es t)
  (hn:(assignEach es X.env).length=n:=by rfl) (hst:(assignEach es X.env).findIdx? (·.1)=ao:=by rfl):PG X (.Tuple es k pos) (Kn X.K n t):=by
 intro aa s σ H v u Q I r hw;obtain⟨a,xs,e1,hq,hl,hw⟩:=hw;subst e1;cases r;obtain⟨its,rv,ht,hz⟩:=I.tuple hq;refine assign_Tuple_tuple (I.ok.hd hc) ht (by simp[hn,<-hl,rv.length]) hst λh' hx=>?_;have I1:aO X aa σ H { s with heap:=h' }:=I.kept (t':=s.toks) λb o e=>hx b o (bX (bO e)) e;exact h aa _ σ H xs _ Q I1 (by simpa using rv) hw
def zN(te:TE)(g:TG):TS:=λBq σ H=>te σ H λx H1=>g x σ H1 Bq.nx
theorem XG{te:TE}(hN:X.N.Nodup)(hi:X.N[i]?=U x)(hx:Loc X.env.scope x)(he:PE X e te)(hs:swapsWith e (U (.Name x pos')) pos.line X.env=pure aq:=by rfl)(hf:X.fn x=D\/X.env.scope.names.lookup x=U .local:=by first|exact .inl rfl|exact .inr rfl|assumption) :
  PS X (.Assign [.Name x pos'] e pos) (zN te (zt i)):=by
 intro aa s σ H Bq I h;refine wpAny_Assign_Name (dl (he aa s σ H _ I h) ?_) hs;rintro v s1 ⟨y,H1,I1,r1,q1⟩;exact WV I1 hN hi hx r1 (λs2 I2=>⟨_,H1,I2,q1⟩) hf
end
section
variable {X:Cx}{pos:Pos}
def zbb(c:TT)(tb:TS):TS:=λBq σ H=>∃W:Nat->St->Hp->Prop,(∃m,W m σ H)/\∀m σ H,W m σ H ->
 c σ H λb H1=>if b=D then ∃N:St->Hp->Prop,(∀σ' H',N σ' H'->∃m',m'<m/\W m' σ' H')/\tb { Bq with nx:=N,ct:=N,bk:=Bq.nx } σ H1 else Bq.nx σ H1
theorem QA{tb:TS}(hp:PassesOwn (Bg X.prog X.w) X.A X.env X.xe)(hc:PT X c tc)(hb:PSs X body tb):PS X (.While c body [] pos) (zbb tc tb):=by
 intro aa s σ H Bq I h;obtain⟨W,⟨m0,w0⟩,turn⟩:=h;refine wpAny_While (codeAny_whileLoop (λn s'=>∃σ' H',aO X aa σ' H' s'/\W n σ' H') ?_ m0 ⟨σ,H,I,w0⟩);rintro n s1 ⟨σ1,H1,I1,w1⟩;refine fi hp (dl (hc aa s1 σ1 H1 _ I1 (turn n σ1 H1 w1)) ?_);rintro b s2 ⟨H2,I2,q2⟩;cases b with
 |true =>
  obtain⟨N,hN,q2⟩:=q2;rw[au rfl];refine fi hp (dl (hb aa s2 σ1 H2 _ I2 q2) λf s3 q3=>?_);cases f with
  |next =>
   obtain⟨σ3,H3,I3,n3⟩:=q3;obtain⟨m',hm,w3⟩:=hN σ3 H3 n3;exact⟨m',hm,σ3,H3,I3,w3⟩
  |cont =>
   obtain⟨σ3,H3,I3,n3⟩:=q3;obtain⟨m',hm,w3⟩:=hN σ3 H3 n3;exact⟨m',hm,σ3,H3,I3,w3⟩
  |brk=>exact q3
  |ret v=>exact q3
 |false =>
  rw[ap bK];exact eL ⟨σ1,H2,I2,q2⟩
end
set_option genSizeOf false in
set_option genInjectivity false in
structure It where
 go:Nat->Hp->Prop
 yld:Nat->Hp->V->Hp->Prop
 stop:Nat->Hp->Prop
def qL(X:Cx)(aa:List (L×Obj))(H:Hp)(b:L):Prop :=
 H b=ao/\b≠X.env.locals/\b ∉ X.fs/\(b∈X.ex\/X.s₀.heap.objs.size<=b)/\(∀x c,X.env.cells.lookup x=U c->c≠b)/\∀p∈X.pn++aa,p.1≠b
theorem aO.fpOk{aa:List (L×Obj)}{σ:St}{H H':Hp}{s:am}{b:L}(I:aO X aa σ H s)(hb:s.heap.objs.size<=b)(hn:H' b=ao):qL X aa H' b:=by
 refine⟨hn,eS (b6 I.lt hb),I.nofs hb,.inr (bN I.sz hb),λx c e z=>?_,λp hp z=>?_⟩
 ·obtain⟨v,q⟩:=I.cell x c e;exact absurd (b6 q.lt (by rw[z];exact hb)) (fB _)
 ·exact absurd (b6 (bO (I.pin p hp).1) (by rw[z];exact hb)) (fB _)
structure zcO(P:av)(w:ax)(K:bu)(tg:aB)(J:It)(fp:List L)(it:L)(tn:Nat->aw->Prop):Prop where
 mem:it∈fp
 obj:∀i h,tn i h->∀b∈fp,∃o,h.get? b=U o/\∀v,o.data≠.cell v
 keep:∀i h h',tn i h->(∀b∈fp,∀o,h.get? b=U o->h'.get? b=U o)->tn i h'
 item:∀(X:Cx),X.prog=P->X.w=w->X.K=K->X.calm=D->∀(i:Nat) (aa:List (L×Obj)) (s:am) (σ:St) (H:Hp) (E:af->am->Prop),aO X aa σ H s->(∀b∈fp,qL X aa H b)->tn i s.heap->J.go i H ->
  Bf (Bg P w) X.A (pyNext (.ref it)) (λr s1=>∃u,r=U u /\
   Bf (Bg P w) X.A (letOwnedTupleGo tg (.ref it) u) (λ_ s2=>∃x H',aO X aa σ H' s2/\aU x u/\J.yld i H x H'/\tn (i+1) s2.heap/\∀b∈fp,H' b=ao) E s1) E s
 done:∀(X:Cx),X.prog=P->X.w=w->X.K=K->X.calm=D->∀(i:Nat) (aa:List (L×Obj)) (s:am) (σ:St) (H:Hp) (E:af->am->Prop),aO X aa σ H s->(∀b∈fp,qL X aa H b)->tn i s.heap->J.stop i H ->
  Bf (Bg P w) X.A (pyNext (.ref it)) (λr s1=>r=ao/\aO X aa σ H s1) E s
 self:∀(A:ay) (i:Nat) (s:am) (Q:af->am->Prop) (E:af->am->Prop),tn i s.heap->Q (.ref it) s->Bf (Bg P w) A (pyIter (.ref it)) Q E s
abbrev TI:=St->Hp->(It->Hp->Prop)->Prop
def PIE(X:Cx)(aa:List (L×Obj))(σ:St)(tg:aB)(R:It->Hp->Prop)(itv:af)(s2:am):Prop :=
 ∃(it:L) (fp:List L) (tn:Nat->aw->Prop) (J:It) (H':Hp),itv=.ref it/\aO X aa σ H' s2/\zcO X.prog X.w X.K tg J fp it tn/\tn 0 s2.heap/\(∀b∈fp,qL X aa H' b)/\R J H'
def PI(X:Cx)(tg iter:aB)(wi:TI):Prop :=
 ∀(aa:List (L×Obj)) (s:am) (σ:St) (H:Hp) (R:It->Hp->Prop),aO X aa σ H s->wi σ H R ->
  Bf (Bg X.prog X.w) X.A (eval iter X.env) (λv s1=>Bf (Bg X.prog X.w) X.A (pyIter v) (PIE X aa σ tg R) X.xe s1) X.xe s
theorem zb0{E:af->am->Prop}{Q:Unit->am->Prop}(ho:s.heap.get? it=U o)(hc:o.cls=.type n)(hd:o.data=.fields vs)
  (hn:["enumerate","zip","dict_itemiterator","dict_reverseitemiterator","odict_iterator","itertools.zip_longest","itertools.pairwise"].contains n=aq) (hQ:Q PUnit.unit s):Bf M A (letOwnedTupleGo tg (.ref it) u) Q E s:=by
 unfold letOwnedTupleGo;cases tg <;> first
  |exact bd hQ
  | (cases u <;> first
      |exact bd hQ
      | (refine ba (oo ho ?_)
         rw[hc,hd];show Bf M A (if (["enumerate","zip","dict_itemiterator","dict_reverseitemiterator","odict_iterator","itertools.zip_longest","itertools.pairwise"].contains n&&vs[0]?==U (rawInt _))=D then _ else _) Q E s;rw[ap (by intro h;rw[hn,Bool.false_and] at h;cases h)];exact bd hQ))
def Itl(K:bu)(a:L):It :=
 ⟨λi H=>∃xs x,aT K H a xs/\xs[i]?=U x,λi H x H'=>H'=H/\∀xs,aT K H a xs->xs[i]?=U x,λi H=>∃xs,aT K H a xs/\xs.length<=i⟩
def Itt(K:bu)(a:L):It :=
 ⟨λi H=>∃xs x,sB K H a xs/\xs[i]?=U x,λi H x H'=>H'=H/\∀xs,sB K H a xs->xs[i]?=U x,λi H=>∃xs,sB K H a xs/\xs.length<=i⟩
def Itr(lo:Int)(n:Nat):It:=⟨λi _=>i<n,λi H x H'=>H'=H/\x=.int (lo+i),λi _=>n<=i⟩
theorem zcP{P:av}{w:ax}{K:bu}{tg:aB}(a it:L):zcO P w K tg (Itl K a) [it] it (λi h=>h.IsListIter it a i) where
 mem:=by simp
 obj:=λi h st b hb=>by
  have e:b=it:=by simpa using hb
  subst e;obtain⟨o,e,c,d⟩:=st;exact⟨o,e,λv z=>by rw[d] at z;cases z⟩
 keep:=λi h h' st k=>st.at λo e=>k it (by simp) o e
 item:=by
  intro X hP hw hK hc i aa s σ H E I hf st hg;subst hP hw hK;obtain⟨xs,x,hq,hx⟩:=hg;obtain⟨its,rv,p,hz⟩:=I.list hq;obtain⟨u,hu,ru⟩:=rv.get hx;obtain⟨f0,f1,f2,f3,f4,f5⟩:=hf it (by simp);refine nE st p.isList (x:=u) (by simpa using hu) λh' st' sb=>?_;have I1:aO X aa σ H { s with heap:=h' }:=I.turned (t':=s.toks) (λb o hb e=>(sb.2 b hb).trans e) f0 f1 f3 f4 f5;obtain⟨o,e,c,d⟩:=id st';exact⟨u,Y,zb0 (s:={ s with heap:=h' }) e c d () ⟨x,H,I1,ru,⟨rfl,λys hy=>by rw[I.list_inj hy hq];exact hx⟩,st',λb hb=>(hf b hb).1⟩⟩
 done:=by
  intro X hP hw hK hc i aa s σ H E I hf st hg;subst hP hw hK;obtain⟨xs,hq,hx⟩:=hg;obtain⟨its,rv,p,hz⟩:=I.list hq;obtain⟨f0,f1,f2,f3,f4,f5⟩:=hf it (by simp);have hl:=rv.length;exact nQ (I.ok.hd hc) st p.isList (by simp;lia) λh' eb=>⟨Y,I.turned (t':=s.toks) (λb o hb e=>eb b o hb e) f0 f1 f3 f4 f5⟩
 self:=λ_ _ _ _ _ st h=>wpAny_pyIter_listiter st h
theorem zbc{P:av}{w:ax}{K:bu}{tg:aB}(a it:L):zcO P w K tg (Itt K a) [it] it (λi h=>h.IsTupleIter it a i) where
 mem:=by simp
 obj:=λi h st b hb=>by
  have e:b=it:=by simpa using hb
  subst e;obtain⟨o,e,c,d⟩:=st;exact⟨o,e,λv z=>by rw[d] at z;cases z⟩
 keep:=λi h h' st k=>st.at λo e=>k it (by simp) o e
 item:=by
  intro X hP hw hK hc i aa s σ H E I hf st hg;subst hP hw hK;obtain⟨xs,x,hq,hx⟩:=hg;obtain⟨its,rv,p,hz⟩:=I.tuple hq;obtain⟨u,hu,ru⟩:=rv.get hx;obtain⟨f0,f1,f2,f3,f4,f5⟩:=hf it (by simp);refine wpAny_pyNext_tuple_item st (show s.heap.IsTuple a its.toArray from p) (x:=u) (by simpa using hu) λh' st' sb=>?_;have I1:aO X aa σ H { s with heap:=h' }:=I.turned (t':=s.toks) (λb o hb e=>(sb.2 b hb).trans e) f0 f1 f3 f4 f5;obtain⟨o,e,c,d⟩:=id st';exact⟨u,Y,zb0 (s:={ s with heap:=h' }) e c d () ⟨x,H,I1,ru,⟨rfl,λys hy=>by rw[I.tuple_inj hy hq];exact hx⟩,st',λb hb=>(hf b hb).1⟩⟩
 done:=by
  intro X hP hw hK hc i aa s σ H E I hf st hg;subst hP hw hK;obtain⟨xs,hq,hx⟩:=hg;obtain⟨its,rv,p,hz⟩:=I.tuple hq;obtain⟨f0,f1,f2,f3,f4,f5⟩:=hf it (by simp);have hl:=rv.length;exact wpAny_pyNext_tuple_end (I.ok.hd hc) st (show s.heap.IsTuple a its.toArray from p) (by simp;lia) λh' eb=>⟨Y,I.turned (t':=s.toks) (λb o hb e=>eb b o hb e) f0 f1 f3 f4 f5⟩
 self:=λ_ _ _ _ _ st h=>wpAny_pyIter_tupleiter st h
theorem zbd{P:av}{w:ax}{K:bu}{tg:aB}(it:L)(lo:Int)(n:Nat):zcO P w K tg (Itr lo n) [it] it (λi h=>IsRangeIter h it (lo+(i:Nat)*1) ((n:Int)-(i:Nat)) 1) where
 mem:=by simp
 obj:=λi h st b hb=>by
  have e:b=it:=by simpa using hb
  subst e;exact⟨_,st,λv z=>by
   have z':Data.fields _=Data.cell v:=z;cases z'⟩
 keep:=λi h h' st k=>k it (by simp) _ st
 item:=by
  intro X hP hw hK hc i aa s σ H E I hf st hg;subst hP hw hK;obtain⟨f0,f1,f2,f3,f4,f5⟩:=hf it (by simp);have W:=Walks.range (prog:=X.prog) (w:=X.w) (I.ok.hd hc) it lo 1 n;refine W.item i s _ _ hg st λv h' tk hv st' kk=>?_;obtain⟨t,rfl⟩:=hv;have I1:aO X aa σ H { s with heap:=h',toks:=tk }:=I.turned (λb o hb e=>kk b o (by simpa using hb) e) f0 f1 f3 f4 f5;refine⟨_,Y,zb0 (s:={ s with heap:=h',toks:=tk }) (n:="range_iterator") st' rfl rfl () ⟨.int (lo+i),H,I1,⟨t,?_⟩,⟨rfl,rfl⟩,st',λb hb=>(hf b hb).1⟩⟩;rw[Int.mul_one]
 done:=by
  intro X hP hw hK hc i aa s σ H E I hf st hg;subst hP hw hK;obtain⟨f0,f1,f2,f3,f4,f5⟩:=hf it (by simp);exact wpAny_pyNext_range_end (I.ok.hd hc) st (by have:n<=i:=hg;lia) λh' eb=>⟨Y,I.turned (t':=s.toks) (λb o hb e=>eb b o hb e) f0 f1 f3 f4 f5⟩
 self:=λ_ _ _ _ _ st h=>wpAny_pyIter_rangeiter st h
section
variable {X:Cx}{tg:aB}
def xx(K:bu)(tl:TE):TI:=λσ H R=>tl σ H λx H1=>∃a,x=.ref a/\(∃xs,aT K H1 a xs)/\R (Itl K a) H1
def zh2(K:bu)(tl:TE):TI:=λσ H R=>tl σ H λx H1=>∃a,x=.ref a/\(∃xs,sB K H1 a xs)/\R (Itt K a) H1
theorem yU{tl:TE}(hl:PE X l tl):PI X tg l (xx X.K tl):=by
 intro aa s σ H R I h;refine dl (hl aa s σ H _ I h) ?_;rintro v s1 ⟨x,H1,I1,r1,q1⟩;obtain⟨a,e,⟨xs,hq⟩,q⟩:=q1;subst e;cases r1;obtain⟨its,rv,p,hz⟩:=I1.list hq;refine wpAny_pyIter_list p.isList ?_;refine⟨s1.heap.objs.size,[s1.heap.objs.size],_,_,H1,Y,I1.kept (t':=s1.toks) λb o e=>bc _ e,zcP a _,⟨_,bE _ Y,Y,Y⟩,λb hb=>?_,q⟩;have e:b=s1.heap.objs.size:=by simpa using hb
 subst e;exact I1.fpOk (bp _) (I1.hok.fresh (bp _))
theorem zhb{tl:TE}(hl:PE X l tl):PI X tg l (zh2 X.K tl):=by
 intro aa s σ H R I h;refine dl (hl aa s σ H _ I h) ?_;rintro v s1 ⟨x,H1,I1,r1,q1⟩;obtain⟨a,e,⟨xs,hq⟩,q⟩:=q1;subst e;cases r1;obtain⟨its,rv,p,hz⟩:=I1.tuple hq;refine lW (show s1.heap.IsTuple a its.toArray from p) ?_;refine⟨s1.heap.objs.size,[s1.heap.objs.size],_,_,H1,Y,I1.kept (t':=s1.toks) λb o e=>bc _ e,zbc a _,⟨_,bE _ Y,Y,Y⟩,λb hb=>?_,q⟩;have e:b=s1.heap.objs.size:=by simpa using hb
 subst e;exact I1.fpOk (bp _) (I1.hok.fresh (bp _))
theorem zdB{σ:St}{H:Hp}{s:am}{R:It->Hp->Prop}{E:af->am->Prop}{lo hi:Int}{t u v:Tok}{tk:Nat}(I:aO X aa σ H s)(h1:-(2^62)<=lo)(h2:lo<2^62)(h3:-(2^62)<=hi)(h4:hi<2^62)
  (q:R (Itr lo (hi-lo).toNat) H):Bf (Bg X.prog X.w) X.A (pyIter (.ref s.heap.objs.size)) (PIE X aa σ tg R) E { s with heap:=s.heap.push { cls:=.type "range",data:=.fields #[.int lo t,.int hi u,.int 1 v] },toks:=tk }:=by
 refine wpAny_pyIter_range (IsRange.new ..) (small_one h1 h2 h3 h4) ?_;have I1:aO X aa σ H { s with heap:=s.heap.push { cls:=.type "range",data:=.fields #[.int lo t,.int hi u,.int 1 v] },toks:=tk }:=I.kept λb o e=>bc _ e;refine⟨(s.heap.push { cls:=.type "range",data:=.fields #[.int lo t,.int hi u,.int 1 v] }).objs.size,[(s.heap.push { cls:=.type "range",data:=.fields #[.int lo t,.int hi u,.int 1 v] }).objs.size],_,_,H,Y,
  I1.kept (t':=tk) λb o e=>bc _ e,zbd _ lo (hi-lo).toNat,?_,λb hb=>?_,q⟩
 ·have e1:lo+((0:Nat):Int)*1=lo:=by simp
  have e2:(((hi-lo).toNat:Nat):Int)-((0:Nat):Int)=Builtin.Range.rangeSize lo hi 1:=by rw[rangeSize_one];split <;> lia
  show IsRangeIter _ _ (lo+((0:Nat):Int)*1) ((((hi-lo).toNat:Nat):Int)-((0:Nat):Int)) 1;rw[e1,e2];exact bE _ rfl
 ·have e:b=(s.heap.push { cls:=.type "range",data:=.fields #[.int lo t,.int hi u,.int 1 v] }).objs.size:=by simpa using hb
  subst e;exact I1.fpOk (bp _) (I1.hok.fresh (bp _))
def Wa(ta:TA):TI:=λσ H R=>ta σ H λvs H1=>∃j:Int,vs=[.int j]/\-(2^62)<=j/\j<2^62/\R (Itr 0 j.toNat) H1
theorem jY{ta:TA}(hg:Gl X "range")(hm:X.mg "range"=ao)(ha:PA X [a] ta)(hs:Be [a] X.env=[(aq,eval a X.env)]:=by rfl):PI X tg (.Call (.Name "range" p) [a] [] pos) (Wa ta):=by
 intro aa s σ H R I h;refine Call_ (XC I hg hm boot_range (fR (dl (ha pos aa s σ H _ I h) ?_) hs Y));rintro us s1 ⟨vs,H1,I1,r1,q1⟩;obtain⟨j,e,q1,q2,q⟩:=q1;subst e;cases r1 with
 |cons r rr =>
  cases rr;obtain⟨t,rfl⟩:=r;exact call_range_1 (zdB I1 () () q1 q2 (by simpa using q))
def vS(wi:TI)(g:TG)(tb:TS):TS:=λBq σ H=>wi σ H λJ H1=>∃W:Nat->Nat->St->Hp->Prop,(∃m,W 0 m σ H1)/\∀i m σ H,W i m σ H ->
 (J.stop i H/\Bq.nx σ H)\/(J.go i H/\∃N:St->Hp->Prop,(∀σ' H',N σ' H'->∃m',m'<m/\W (i+1) m' σ' H')/\∀x H',J.yld i H x H'->g x σ H' λσ2 H2=>tb { Bq with nx:=N,ct:=N,bk:=Bq.nx } σ2 H2)
def WW(fp:List L)(h:aw):List (L×Obj):=fp.filterMap λb=>(h.get? b).map λo=>(b,o)
theorem kN(hb:b∈fp)(e:h.get? b=U o):(b,o)∈WW fp h:=fP.mpr ⟨b,hb,by rw[e];rfl⟩
theorem zcQ(hp:p∈WW fp h):p.1∈fp/\h.get? p.1=U p.2:=by
 obtain⟨b,hb,e⟩:=List.mem_filterMap.mp hp;cases q:h.get? b with
 |none=>rw[q] at e;cases e
 |some o =>
  rw[q] at e;have e':(b,o)=p:=bJ e;subst e';exact⟨hb,q⟩
theorem aO.pinned{σ:St}{H:Hp}{s:am}{fp:List L}(I:aO X aa σ H s)(hf:∀b∈fp,qL X aa H b)(ho:∀b∈fp,∃o,s.heap.get? b=U o/\∀v,o.data≠.cell v):aO X (aa++WW fp s.heap) σ H s:=
 I.pins_of λp hp=>(bB.mp hp).elim (λz=>I.pin p (bP _ z)) λz=>by
  obtain⟨hb,e⟩:=zcQ z;obtain⟨f0,f1,f2,_⟩:=hf p.1 hb;obtain⟨o,e',d⟩:=ho p.1 hb;rw[e] at e';cases e';exact⟨e,f0,f1,f2,d⟩
theorem aO.unpinned{σ:St}{H:Hp}{s:am}(I:aO X (aa++pl) σ H s):aO X aa σ H s:=I.pins_of λp hp=>I.pin p (bP _ (cy _ hp))
theorem xc{wi:TI}{g:TG}{tb:TS}(hp:PassesOwn (Bg X.prog X.w) X.A X.env X.xe)(hc:X.calm=D)(hi:PI X tg iter wi)(hg:PG X tg g)(hb:PSs X body tb)
  (hs:∀x,foldedSetIterable iter X.env x=pure x:=by intro _;rfl):PS X (.For tg iter body [] pos) (vS wi g tb):=by
 intro aa s σ H Bq I h;refine wpAny_For (dl (hi aa s σ H _ I h) λv s1 h1=>dl h1 λitv s2 h2=>?_) hs;obtain⟨it,fp,tn,J,H2,e,I2,T,st2,f2,W,⟨m0,w0⟩,turn⟩:=h2;subst e
 -- what stays D of the iterator's objects through the loop
 have stat:∀ {H':Hp},(∀b∈fp,H' b=ao)->∀b∈fp,qL X aa H' b:=λhn b hb=>⟨hn b hb,(f2 b hb).2⟩;refine codeAny_forLoop_any (λn s'=>∃i σ' H',aO X aa σ' H' s'/\tn i s'.heap/\(∀b∈fp,H' b=ao)/\W i n σ' H') ?_ m0 ⟨0,σ,H2,I2,st2,λb hb=>(f2 b hb).1,w0⟩;rintro n s3 ⟨i,σ3,H3,I3,st3,fr3,w3⟩;rcases turn i n σ3 H3 w3 with ⟨stop,qn⟩|⟨go,N,hN,step⟩
 ·refine fi hp (dl (T.done X Y Y Y hc i aa s3 σ3 H3 X.xe I3 (stat fr3) st3 stop) ?_);rintro r s4 ⟨hr,I4⟩;subst hr;exact eL ⟨σ3,H3,I4,qn⟩
 ·refine fi hp (dl (T.item X Y Y Y hc i aa s3 σ3 H3 X.xe I3 (stat fr3) st3 go) ?_);rintro r s4 ⟨u,hr,h4⟩;subst hr;refine fi hp (dl h4 ?_);rintro _ s5 ⟨x,H5,I5,r5,y5,st5,fr5⟩;have I5':=I5.pinned (stat fr5) (T.obj _ _ st5);refine fi hp (dl (hg _ s5 σ3 H5 x u _ I5' r5 (step x H5 y5)) ?_);rintro _ s6 ⟨σ6,H6,I6,q6⟩;refine fi hp (dl (hb _ s6 σ6 H6 _ I6 q6) λf s7 q7=>?_);have again:∀ {σ7:St} {H7:Hp},aO X (aa++WW fp s5.heap) σ7 H7 s7->N σ7 H7->∃m,m<n/\∃i σ' H',aO X aa σ' H' s7/\tn i s7.heap/\(∀b∈fp,H' b=ao)/\W i m σ' H':=λ{σ7 H7} I7 n7=>by
   obtain⟨m',hm,w7⟩:=hN σ7 H7 n7;refine⟨m',hm,i+1,σ7,H7,I7.unpinned,T.keep _ _ _ st5 λb hb o e=>(I7.pin (b,o) (bP _ (bP _ (kN hb e)))).1,λb hb=>?_,w7⟩;obtain⟨o,e,d⟩:=T.obj _ _ st5 b hb;exact(I7.pin (b,o) (bP _ (bP _ (kN hb e)))).2.1
  cases f with
  |next=>obtain⟨σ7,H7,I7,n7⟩:=q7;exact again I7 n7
  |cont=>obtain⟨σ7,H7,I7,n7⟩:=q7;exact again I7 n7
  |brk=>obtain⟨σ7,H7,I7,q7⟩:=q7;exact⟨σ7,H7,I7.unpinned,q7⟩
  |ret v=>obtain⟨x7,σ7,H7,I7,r7,q7⟩:=q7;exact⟨x7,σ7,H7,I7.unpinned,r7,q7⟩
end
abbrev R2:=V->V->Hp->VK->Prop
def ti(X:Cx)(f:af->af->Sem af)(r:R2):Prop :=
 ∀(aa:List (L×Obj)) (s:am) (σ:St) (H:Hp) (x y:V) (v u:af) (Q:VK),aO X aa σ H s->aU x v->aU y u->r x y H Q ->
  Bf (Bg X.prog X.w) X.A (f v u) (EP X aa σ Q) X.xe s
def UnR(X:Cx)(f:af->Sem af)(r:V->Hp->VK->Prop):Prop :=
 ∀(aa:List (L×Obj)) (s:am) (σ:St) (H:Hp) (x:V) (v:af) (Q:VK),aO X aa σ H s->aU x v->r x H Q ->
  Bf (Bg X.prog X.w) X.A (f v) (EP X aa σ Q) X.xe s
def jZ(X:Cx)(f:af)(r:List V->Hp->VK->Prop):Prop :=
 ∀(aa:List (L×Obj)) (s:am) (σ:St) (H:Hp) (xs:List V) (us:List af) (Q:VK),aO X aa σ H s->aR xs us->r xs H Q ->
  Bf (Bg X.prog X.w) X.A (call f us) (EP X aa σ Q) X.xe s
def aL(r:R2)(ta tb:TE):TE:=λσ H Q=>ta σ H λx H1=>tb σ H1 λy H2=>r x y H2 Q
def tUn(r:V->Hp->VK->Prop)(ta:TE):TE:=λσ H Q=>ta σ H λx H1=>r x H1 Q
def rI(C:Int->Int->Prop)(g:Int->Int->V):R2:=λx y H Q=>∃i j,x=.int i/\y=.int j/\C i j/\Q (g i j) H
def rI0(g:Int->Int->V):R2:=λx y H Q=>∃i j,x=.int i/\y=.int j/\Q (g i j) H
def rU(g:Int->V):V->Hp->VK->Prop:=λx H Q=>∃i,x=.int i/\Q (g i) H
section
variable {X:Cx}{a b c:aB}{ta tb tc:TE}{pos:Pos}
theorem zhc(ha:PE X a ta)(hb:PE X b tb){s:am}{σ:St}{H:Hp}{R:V->V->Hp->Prop}(I:aO X aa σ H s)
  (h:ta σ H λx H1=>tb σ H1 λy H2=>R x y H2) {Q:af->am->Prop} {f:af->af->Sem af}
  (hf:∀v u s2 x y H2,aO X aa σ H2 s2->aU x v->aU y u->R x y H2->Bf (Bg X.prog X.w) X.A (f v u) Q X.xe s2) :
  Bf (Bg X.prog X.w) X.A (eval a X.env) (λv s₁=>Bf (Bg X.prog X.w) X.A (eval b X.env) (λu s₂=>Bf (Bg X.prog X.w) X.A (f v u) Q X.xe s₂) X.xe s₁) X.xe s:=by
 refine dl (ha aa s σ H _ I h) ?_;rintro v s1 ⟨x,H1,I1,r1,q1⟩;refine dl (hb aa s1 σ H1 _ I1 q1) ?_;rintro u s2 ⟨y,H2,I2,r2,q2⟩;exact hf v u s2 x y H2 I2 r1 r2 q2
theorem zm{r:R2}(ho:ti X (binaryOp op) r)(ha:PE X a ta)(hb:PE X b tb):PE X (.BinOp a op b pos) (aL r ta tb):=by
 intro aa s σ H Q I h;exact wpAny_BinOp (zhc ha hb I h λv u s2 x y H2 I2 rx ry q=>ho aa s2 σ H2 x y v u Q I2 rx ry q)
theorem zdC{r:V->Hp->VK->Prop}(ho:UnR X (unaryOp op) r)(ha:PE X a ta):PE X (.UnaryOp op a pos) (tUn r ta):=by
 intro aa s σ H Q I h;exact UnaryOp_ (dl (ha aa s σ H _ I h) λv s1 ⟨x,H1,I1,r1,q1⟩=>ho aa s1 σ H1 x v Q I1 r1 q1)
theorem opI{f:af->af->Sem af}{C:Int->Int->Prop}{g:Int->Int->Int}
  (rule:∀(i j:Int) (t u:Tok) (s:am) (Q:af->am->Prop) (E:af->am->Prop),C i j->Q (.int (g i j) s.toks) { s with toks:=s.toks+1 }->Bf (Bg X.prog X.w) X.A (f (.int i t) (.int j u)) Q E s) :
  ti X f (rI C λi j=>.int (g i j)):=by
 intro aa s σ H x y v u Q I rx ry h;obtain⟨i,j,rfl,rfl,hc,q⟩:=h;obtain⟨t,rfl⟩:=rx;obtain⟨t',rfl⟩:=ry;exact rule i j t t' s _ _ hc ⟨.int (g i j),H,I.tok _,⟨_,Y⟩,q⟩
theorem zh3{f:af->af->Sem af}{g:Int->Int->Int}
  (rule:∀(i j:Int) (t u:Tok) (s:am) (Q:af->am->Prop) (E:af->am->Prop),Q (.int (g i j) s.toks) { s with toks:=s.toks+1 }->Bf (Bg X.prog X.w) X.A (f (.int i t) (.int j u)) Q E s) :
  ti X f (rI0 λi j=>.int (g i j)):=by
 intro aa s σ H x y v u Q I rx ry h;obtain⟨i,j,rfl,rfl,q⟩:=h;obtain⟨t,rfl⟩:=rx;obtain⟨t',rfl⟩:=ry;exact rule i j t t' s _ _ ⟨.int (g i j),H,I.tok _,⟨_,Y⟩,q⟩
theorem zhd{f:af->af->Sem af}{g:Int->Int->Bool}
  (rule:∀(i j:Int) (t u:Tok) (s:am) (Q:af->am->Prop) (E:af->am->Prop),Q (.bool (g i j)) s->Bf (Bg X.prog X.w) X.A (f (.int i t) (.int j u)) Q E s) :
  ti X f (rI0 λi j=>.bl (g i j)):=by
 intro aa s σ H x y v u Q I rx ry h;obtain⟨i,j,rfl,rfl,q⟩:=h;obtain⟨t,rfl⟩:=rx;obtain⟨t',rfl⟩:=ry;exact rule i j t t' s _ _ ⟨.bl (g i j),H,I,Y,q⟩
def Ko(i j:Int):Prop:=0<=j/\j<=1000000/\i.natAbs<2^64
theorem ya:ti X (binaryOp .Add) (rI0 λi j=>.int (i+j)):=zh3 λ_ _ _ _ _ _ _ q=>add_int q
theorem vT:ti X (binaryOp .Sub) (rI0 λi j=>.int (i-j)):=zh3 λ_ _ _ _ _ _ _ q=>sub_int q
theorem zQ:ti X (binaryOp .Mod) (rI (λ_ j=>0<j) λi j=>.int (i%j)):=opI λi j _ _ _ _ _ hc q=>by
 have h1:(0:Int)<j:=hc;exact mod_int' () (by rw[Int.fmod_eq_emod_of_nonneg i ()];exact q)
theorem zfD:ti X (binaryOp .Mod) (rI (λ_ j=>j≠0) λi j=>.int (i.fmod j)):=opI λ_ _ _ _ _ _ _ hc q=>mod_int' hc q
theorem Yj:ti X (binaryOp .Pow) (rI Ko λi j=>.int (i^j.toNat)):=opI λ_ _ _ _ _ _ _ hc q=>pow_int_small hc.1 hc.2.1 hc.2.2 q
theorem unI{f:af->Sem af}{g:Int->Int}
  (rule:∀(i:Int) (t:Tok) (s:am) (Q:af->am->Prop) (E:af->am->Prop),Q (.int (g i) s.toks) { s with toks:=s.toks+1 }->Bf (Bg X.prog X.w) X.A (f (.int i t)) Q E s) :
  UnR X f (rU λi=>.int (g i)):=by
 intro aa s σ H x v Q I rx h;obtain⟨i,rfl,q⟩:=h;obtain⟨t,rfl⟩:=rx;exact rule i t s _ _ ⟨.int (g i),H,I.tok _,⟨_,Y⟩,q⟩
theorem zbe:UnR X (unaryOp .USub) (rU λi=>.int (-i)):=unI λ_ _ _ _ _ q=>neg_int q
end
def zh4:V->V->Bool
 |.non,.non=>D|.non,.int _=>D|.int _,.non=>D|.non,.bl _=>D|.bl _,.non=>D|.non,.str _=>D|.str _,.non=>D
 |.int _,.int _=>D|.bl _,.bl _=>D|.str _,.str _=>D|.byt _,.byt _=>D
 |.int _,.str _=>D|.str _,.int _=>D|.bl _,.str _=>D|.str _,.bl _=>D
 |_,_=>aq
def sR:R2:=λx y H Q=>zh4 x y=D/\Q (.bl (decide (x=y))) H
def rNe:R2:=λx y H Q=>zh4 x y=D/\Q (.bl (!decide (x=y))) H
theorem zb1{i j:Int}:decide (V.int i=V.int j)=(i==j):=by
 rw[lF];simp
theorem zdD :decide (V.bl i=V.bl j)=(i==j):=by
 rw[lF];simp
theorem zb2 :decide (V.str i=V.str j)=(i==j):=by
 rw[lF];simp
theorem zb3 :decide (V.byt i=V.byt j)=(i.toList==j.toList):=by
 rw[lF];cases i;cases j;simp
section
variable {X:Cx}{a b c:aB}{ta tb tc:TE}{pos:Pos}
theorem yh{σ:St}{H:Hp}{s:am}{Q:VK}{k k':Bool}(I:aO X aa σ H s)(q:Q (.bl k) H)(e:k=k'):EP X aa σ Q (.bool k') s:=by
 subst e;exact⟨.bl k,H,I,Y,q⟩
theorem ym:ti X (Bi .Eq) sR:=by
 intro aa s σ H x y v u Q I rx ry h;obtain⟨hs,q⟩:=h;cases x with
 |non =>
  cases rx;cases y with
  |non=>cases ry;exact PySem.EqNone.eq_none_none (yh I q (by simp))
  |bl j=>cases ry;exact PySem.EqNone.eq_none_bool (yh I q (by simp))
  |int j=>obtain⟨t',rfl⟩:=ry;exact PySem.EqNone.eq_none_int (yh I q (by simp))
  |str j=>obtain⟨t',rfl⟩:=ry;exact PySem.EqNone.eq_none_str (yh I q (by simp))
  |_=>exact absurd (show aq=D from hs) bK
 |bl i =>
  cases rx;cases y with
  |non=>cases ry;exact PySem.EqNone.eq_bool_none (yh I q (by simp))
  |bl j=>cases ry;exact eq_bool (yh I q zdD)
  |str j=>obtain⟨t',rfl⟩:=ry;exact PySem.EqMixed.eq_bool_str (yh I q (by simp))
  |_=>exact absurd (show aq=D from hs) bK
 |int i =>
  obtain⟨t,rfl⟩:=rx;cases y with
  |non=>cases ry;exact PySem.EqNone.eq_int_none (yh I q (by simp))
  |int j=>obtain⟨t',rfl⟩:=ry;exact eq_int (yh I q zb1)
  |str j=>obtain⟨t',rfl⟩:=ry;exact PySem.EqMixed.eq_int_str (yh I q (by simp))
  |_=>exact absurd (show aq=D from hs) bK
 |str i =>
  obtain⟨t,rfl⟩:=rx;cases y with
  |non=>cases ry;exact PySem.EqNone.eq_str_none (yh I q (by simp))
  |bl j=>cases ry;exact PySem.EqMixed.eq_str_bool (yh I q (by simp))
  |int j=>obtain⟨t',rfl⟩:=ry;exact PySem.EqMixed.eq_str_int (yh I q (by simp))
  |str j=>obtain⟨t',rfl⟩:=ry;exact eq_str (yh I q zb2)
  |_=>exact absurd (show aq=D from hs) bK
 |byt i =>
  obtain⟨t,rfl⟩:=rx;cases y with
  |byt j=>obtain⟨t',rfl⟩:=ry;exact W.eq_bytes (yh I q zb3)
  |_=>exact absurd (show aq=D from hs) bK
 |_=>cases y <;> exact absurd (show aq=D from hs) bK
theorem WX:ti X (Bi .NotEq) rNe:=by
 intro aa s σ H x y v u Q I rx ry h;obtain⟨hs,q⟩:=h;cases x with
 |non =>
  cases rx;cases y with
  |non=>cases ry;exact PySem.EqNone.ne_none_none (yh I q (by simp))
  |bl j=>cases ry;exact PySem.EqNone.ne_none_bool (yh I q (by simp))
  |int j=>obtain⟨t',rfl⟩:=ry;exact PySem.EqNone.ne_none_int (yh I q (by simp))
  |str j=>obtain⟨t',rfl⟩:=ry;exact PySem.EqNone.ne_none_str (yh I q (by simp))
  |_=>exact absurd (show aq=D from hs) bK
 |bl i =>
  cases rx;cases y with
  |non=>cases ry;exact PySem.EqNone.ne_bool_none (yh I q (by simp))
  |bl j=>cases ry;exact ne_bool (yh I q (congrArg not zdD))
  |str j=>obtain⟨t',rfl⟩:=ry;exact PySem.EqMixed.ne_bool_str (yh I q (by simp))
  |_=>exact absurd (show aq=D from hs) bK
 |int i =>
  obtain⟨t,rfl⟩:=rx;cases y with
  |non=>cases ry;exact PySem.EqNone.ne_int_none (yh I q (by simp))
  |int j=>obtain⟨t',rfl⟩:=ry;exact ne_int (yh I q (congrArg not zb1))
  |str j=>obtain⟨t',rfl⟩:=ry;exact PySem.EqMixed.ne_int_str (yh I q (by simp))
  |_=>exact absurd (show aq=D from hs) bK
 |str i =>
  obtain⟨t,rfl⟩:=rx;cases y with
  |non=>cases ry;exact PySem.EqNone.ne_str_none (yh I q (by simp))
  |bl j=>cases ry;exact PySem.EqMixed.ne_str_bool (yh I q (by simp))
  |int j=>obtain⟨t',rfl⟩:=ry;exact PySem.EqMixed.ne_str_int (yh I q (by simp))
  |str j=>obtain⟨t',rfl⟩:=ry;exact ne_str (yh I q (congrArg not zb2))
  |_=>exact absurd (show aq=D from hs) bK
 |byt i =>
  obtain⟨t,rfl⟩:=rx;cases y with
  |byt j=>obtain⟨t',rfl⟩:=ry;exact W.ne_bytes (yh I q (congrArg not zb3))
  |_=>exact absurd (show aq=D from hs) bK
 |_=>cases y <;> exact absurd (show aq=D from hs) bK
theorem wD:ti X (Bi .Lt) (rI0 λi j=>.bl (decide (i<j))):=zhd λ_ _ _ _ _ _ _ q=>lt_int q
theorem zdE:ti X (Bi .LtE) (rI0 λi j=>.bl (decide (i<=j))):=zhd λ_ _ _ _ _ _ _ q=>le_int q
theorem zgK:ti X (Bi .GtE) (rI0 λi j=>.bl (decide (j<=i))):=zhd λ_ _ _ _ _ _ _ q=>ge_int q
theorem Kq:ti X (Bi .Is) (λx y H Q=>y=.non/\Q (.bl (decide (x=.non))) H):=by
 intro aa s σ H x y v u Q I rx ry h;obtain⟨rfl,q⟩:=h;cases ry;refine is_none_gen (yh I q ?_);cases x <;> first
  |(cases rx;rfl)
  |(obtain⟨t,rfl⟩:=rx;rfl)
theorem YQ:ti X (Bi .IsNot) (λx y H Q=>y=.non/\Q (.bl (!decide (x=.non))) H):=by
 intro aa s σ H x y v u Q I rx ry h;obtain⟨rfl,q⟩:=h;cases ry;refine isnot_none_gen (yh I q ?_);cases x <;> first
  |(cases rx;rfl)
  |(obtain⟨t,rfl⟩:=rx;rfl)
theorem zB(b:aB)(h:op≠.In:=by lia)(h2:op≠.NotIn:=by lia):behindInMarks op b=aq:=by
 have e1:(op==CmpOp.In)=aq:=by cases op <;> first|rfl|exact absurd Y h
 have e2:(op==CmpOp.NotIn)=aq:=by cases op <;> first|rfl|exact absurd Y h2
 cases b <;> simp[behindInMarks,e1,e2]
theorem jr{r:R2}(ho:ti X (Bi op) r)(ha:PE X a ta)(hb:PE X b tb)(hm:behindInMarks op b=aq):PE X (.Compare a [op] [b] pos) (aL r ta tb):=by
 intro aa s σ H Q I h;exact wpAny_Compare1 (zhc ha hb I h λv u s2 x y H2 I2 rx ry q=>ho aa s2 σ H2 x y v u Q I2 rx ry q) hm
def zG(t:TE):TT:=λσ H Q=>t σ H λx H'=>∃k,x=.bl k/\Q k H'
theorem zq{r:R2}(ho:ti X (Bi op) r)(ha:PE X a ta)(hb:PE X b tb)(hm:behindInMarks op b=aq):PT X (.Compare a [op] [b] pos) (zG (aL r ta tb)):=by
 intro aa s σ H Q I h;refine wpAny_isTrue_Compare1 (dl (ha aa s σ H _ I h) λv s1 ⟨x,H1,I1,r1,q1⟩=>dl (hb aa s1 σ H1 _ I1 q1) λu s2 ⟨y,H2,I2,r2,q2⟩ =>
  dl (ho aa s2 σ H2 x y v u _ I2 r1 r2 q2) λc s3 ⟨z,H3,I3,r3,k,e,q3⟩=>?_) hm
 subst e;cases r3;exact fh ⟨H3,I3,q3⟩
def zbf(r r':R2)(ta tb tc:TE):TE:=λσ H Q=>ta σ H λx H1=>tb σ H1 λy H2=>r x y H2 λz H3=>∃k,z=.bl k /\
 (if k=D then tc σ H3 λw' H4=>r' y w' H4 Q else Q (.bl aq) H3)
theorem QB{r r':R2}(ho:ti X (Bi op) r)(ho':ti X (Bi op') r')(ha:PE X a ta)(hb:PE X b tb)(hc:PE X c tc)
  (hm:lastMarks [op,op'] [b,c]=aq:=by with_unfolding_all rfl):PE X (.Compare a [op,op'] [b,c] pos) (zbf r r' ta tb tc):=by
 intro aa s σ H Q I h;refine Compare_chain (dl (ha aa s σ H _ I h) λv s1 ⟨x,H1,I1,r1,q1⟩=>chain_link (dl (hb aa s1 σ H1 _ I1 q1) λu s2 ⟨y,H2,I2,r2,q2⟩ =>
  dl (ho aa s2 σ H2 x y v u _ I2 r1 r2 q2) λd s3 ⟨z,H3,I3,r3,k,e,q3⟩=>?_)) hm
 subst e;cases r3;refine fh ?_;cases k with
 |false=>exact ite_ff ⟨.bl aq,H3,I3,Y,q3⟩
 |true=>exact ite_tt (chain_last (dl (hc aa s3 σ H3 _ I3 q3) λw' s4 ⟨z',H4,I4,r4,q4⟩=>ho' aa s4 σ H4 y z' u w' Q I4 r2 r4 q4))
theorem Kr:(Bb:Nat)<2^63:=by rw[bG];decide
theorem wJ:ti X (binaryOp .Add) (λx y H Q=>∃i j,x=.str i/\y=.str j/\i.length+j.length<=Bb/\Q (.str (i++j)) H):=by
 intro aa s σ H x y v u Q I rx ry h;obtain⟨i,j,rfl,rfl,hz,q⟩:=h;obtain⟨t,rfl⟩:=rx;obtain⟨t',rfl⟩:=ry;exact add_str (λt' tk=>⟨.str (i++j),H,I.tok _,⟨_,Y⟩,q⟩) hz
theorem jt(r:aR [x] us):∃u,us=[u]/\aU x u:=by
 cases r with
 |cons r1 r2=>cases r2;exact⟨_,Y,r1⟩
theorem zgL(r:aR [x,y] us):∃u w',us=[u,w']/\aU x u/\aU y w':=by
 cases r with
 |cons r1 r2 =>
  cases r2 with
  |cons r3 r4=>cases r4;exact⟨_,_,Y,r1,r3⟩
def zhe(K:bu)(x:V)(H:Hp)(n:Nat):Prop :=
 match x with
 |.str y=>y.length<=Bb/\n=y.length
 |.byt y=>y.size<=Bb/\n=y.size
 |.ref p=>(∃xs,aT K H p xs/\n=xs.length)\/∃xs,sB K H p xs/\n=xs.length
 |_=>False
theorem zX:jZ X (.builtin "len") (λxs H Q=>∃x n,xs=[x]/\zhe X.K x H n/\Q (.int n) H):=by
 intro aa s σ H xs us Q I r h;obtain⟨x,n,rfl,e,q⟩:=h;obtain⟨u,rfl,rx⟩:=jt r;have hl:=Kr;have hs:Bb=16777216:=bG;cases x with
 |str y =>
  obtain⟨t,rfl⟩:=rx;obtain⟨hy,e'⟩:y.length<=Bb/\n=y.length:=e;subst e';exact len_str () ⟨.int _,H,I.tok _,⟨_,Y⟩,q⟩
 |byt y =>
  obtain⟨t,rfl⟩:=rx;obtain⟨hy,e'⟩:y.size<=Bb/\n=y.size:=e;subst e';exact W.len_bytes () ⟨.int _,H,I.tok _,⟨_,Y⟩,q⟩
 |ref p =>
  cases rx;have e':(∃xs,aT X.K H p xs/\n=xs.length)\/∃xs,sB X.K H p xs/\n=xs.length:=e;rcases e' with ⟨xs,hx,e'⟩|⟨xs,hx,e'⟩
  ·subst e';obtain⟨its,r',pl,hz⟩:=I.list hx;have hlen:=r'.length;exact Calls.call_len_list pl.isList (by simp only[bH];lia) ⟨.int xs.length,H,I.tok _,⟨_,by simp only[bH];rw[hlen]⟩,q⟩
  ·subst e';obtain⟨its,r',pl,hz⟩:=I.tuple hx;have hlen:=r'.length;exact len_tuple pl (by simp only[bH];lia) ⟨.int xs.length,H,I.tok _,⟨_,by simp only[bH];rw[hlen]⟩,q⟩
 |_=>exact(show False from e).elim
end
structure ObjM(h:aw)(x dx C:L)(mA:Str->Option af):Prop where
 obj:h.get? x=U (fK C dx)
 ns:h.Ns1 dx mA
 ne:dx≠x
theorem zcR{h:aw}{mA:Str->Option af}(n:h.Ns1 dx mA):∃od,h.get? dx=U od/\∀name,r6 name od=U (mA name):=by
 obtain⟨o,es,ep,ho,hd,hk,_,hm⟩:=n;refine⟨o,ho,λname=>?_⟩;have e:=hm name;unfold nsFind findBy at e;rw[<-Array.find?_toList] at e;unfold r6;rw[hd];dsimp only;split
 ·rename_i y q;rw[q] at e;exact congrArg U e
 ·rename_i q;rw[q] at e;have a:es.toList.any (·.refKey)=aq:=by
   rw[List.any_eq_false];intro y hy;obtain⟨z,t,hkey⟩:=hk y (Array.mem_toList_iff.mp hy);simp[DictEntry.refKey,hkey]
  have a':¬ es.toList.any (·.refKey)=D:=by rw[a];exact bK
  rw[ap a'];exact congrArg U e
theorem ObjM.look{mA:Str->Option af}(I:ObjM h x dx C mA):∃od,W.InstAt h x (fK C dx) C (U od)/\∀name,r6 name od=U (mA name):=
 let ⟨od,ho,hl⟩:=zcR I.ns
 ⟨od,⟨I.obj,Y,Y,ho⟩,hl⟩
section
variable {prog:av}{w:ax}{A:ay}{E:af->am->Prop}{s:am}{K:bu}{x dx C f:L}{mA:Str->Option af}{name:Str}{v:af}
theorem zfE{Q:af->am->Prop}(X:K.In s.heap)(I:ObjM s.heap x dx C mA)(hg:gj K C name=D)(hh:fS K C=D)
  (ha:b7 K (.ref C) name=U ao) (hv:mA name=U v) (hv':W.handedIn v=D) (h:Q v { s with toks:=s.toks+1 }) :
  Bf (Bg prog w) A (getAttr (.ref x) name expr) Q E s:=by
 obtain⟨od,J,hl⟩:=I.look;exact W.get_value X J (oX hg).1 (W.findObj_own hh ha Y (by rw[hl,hv])) hv' h
theorem zdF{pl:Sem Bool}{Q:af×List af->am->Prop}(X:K.In s.heap)(I:ObjM s.heap x dx C mA)(hg:gj K C name=D)
  (hf:b7 K (.ref C) name=U (U (.ref f))) (ht:pV K (.ref f)=D) (hv:mA name=ao) (h:Q (.ref f,[.ref x]) s) :
  Bf (Bg prog w) A (getMethod (.ref x) name pl) Q E s:=by
 obtain⟨od,J,hl⟩:=I.look;exact W.method_fn X J (oX hg).1 (oX hg).2 hf (beq_iff_eq.mp ht) (by show (r6 name od).map (·.isSome)=U aq;rw[hl,hv];rfl) h
theorem zfF{Q:Unit->am->Prop}(X:K.In s.heap)(I:ObjM s.heap x dx C mA)
  (hs:b7 K (.ref C) "__setattr__"=U (U (.builtin "object.__setattr__"))) (hp:gN K C=D) (ht:W.takerIn K C name=U ao) (hh:fS K C=D)
  (hw:pU mA ns) (hsz:ns.length<=Bb)
  (h:∀h',ObjM h' x dx C (λy=>if y=name then U v else mA y)->cF dx s.heap h'->Q PUnit.unit { s with heap:=h',toks:=s.toks+2 }) :
  Bf (Bg prog w) A (setAttr (.ref x) name v) Q E s:=by
 obtain⟨od,J,hl⟩:=I.look;refine W.set_plain X J hs (W.osa_open (s:={ s with toks:=s.toks+1 }) (r:=ao) X J hp ht λb=>?_);obtain⟨cd,hc,hd'⟩:=W.any_some hh;have hx:s.heap.get? x=U ⟨.ref C,U dx,.plain,#[]⟩:=I.obj;refine ba (bd (ba (ba (wpAny_loadPart hx (ba (W.Looks.here (s:={ s with toks:=s.toks+1 }) (W.looks_clsIn X hc) ?_))))));rw[hd'];refine bd (a:=U dx) (ba (bd (ba ?_)));refine wpAny_nsSet1 (s:={ s with toks:=s.toks+1 }) I.ns λh' hn2 hs2=>?_;obtain⟨oD,esD,epD,hoD,hdD,hcD⟩:=hn2.count (PySem.Within.cons name v hw);refine ba (wpAny_lookBehind hoD (by rw[hdD];exact pastItsLine_dict (bN hcD (by rw[bU];lia))) ?_);exact bd (h _ ⟨(hs2.2 _ (eA I.ne)).trans I.obj,hn2,I.ne⟩ hs2)
theorem zdG{R:aD->am->Prop}(X:K.In s.heap)(hm:gT K C=D)
  (hi:b7 K (.ref C) "__init__"=U (U (.ref f))) (hf:W.typeIn K (.ref f)=U (.type "function"))
  (h:codeAny (Bg prog w) (A.under (.builtin "type.__call__" ⟨.ref C::vs,kw⟩)) (.call (.ref f) ⟨.ref (s.heap.objs.size+1)::vs,kw⟩) (W.InitBack (s.heap.objs.size+1) R)
   { s with heap:=(s.heap.push dN).push (fK C s.heap.objs.size) }) :
  codeAny (Bg prog w) A (.call (.ref C) ⟨vs,kw⟩) R s:=by
 obtain⟨hh,g,d,t,os⟩:=s;exact W.make_core (W.makes_of X hm) (W.looks_findIn X hi) (λself=>W.bind_fn X self hf) (.inl Y) h
theorem zcS{R:aD->am->Prop}(X:K.In s.heap)(hm:gT K C=D)
  (hi:b7 K (.ref C) "__init__"=U (U (.builtin "object.__init__")))
  (hb:∀self,r9 (Bg prog w) s.heap (bindSpecial (.builtin "object.__init__") self) (.builtin "object.__init__",[self]))
  (h:codeAny (Bg prog w) (A.under (.builtin "type.__call__" ⟨[.ref C],[]⟩)) (.call (.builtin "object.__init__") ⟨[.ref (s.heap.objs.size+1)],[]⟩) (W.InitBack (s.heap.objs.size+1) R)
   { s with heap:=(s.heap.push dN).push (fK C s.heap.objs.size) }) :
  codeAny (Bg prog w) A (.call (.ref C) ⟨[],[]⟩) R s:=by
 obtain⟨hh,g,d,t,os⟩:=s;exact W.make_core (W.makes_of X hm) (W.looks_findIn X hi) hb (.inr ⟨Y,Y⟩) h
end
def vU(f:Str)(v:V):List (Str×V)->List (Str×V)
 |[]=>[(f,v)]
 |(g,x)::r=>if g=f then (g,v)::r else (g,x)::vU f v r
theorem Wb(f g:Str)(v:V):∀fs:List (Str×V),(vU f v fs).lookup g=if g=f then U v else fs.lookup g
 |[]=>by
  show cQ g [(f,v)]=_;by_cases h:g=f
  ·have hb:(g==f)=D:=beq_iff_eq.mpr h;simp only[cQ,hb,au h]
  ·have hb:(g==f)=aq:=beq_eq_false_iff_ne.mpr h;simp only[cQ,hb,ap h]
 |(k,x)::r=>by
  have ih:=Wb f g v r;rw[show vU f v ((k,x)::r)=(if k=f then (k,v)::r else (k,x)::vU f v r) from rfl];by_cases hk:k=f
  ·rw[au hk];by_cases h:g=k
   ·have hb:(g==k)=D:=beq_iff_eq.mpr h;simp only[cQ,hb,au (h.trans hk)]
   ·have hb:(g==k)=aq:=beq_eq_false_iff_ne.mpr h;simp only[cQ,hb,ap (λe:g=f=>h (e.trans hk.symm))]
  ·rw[ap hk];by_cases h:g=k
   ·have hb:(g==k)=D:=beq_iff_eq.mpr h;simp only[cQ,hb,ap (λe:g=f=>hk (h.symm.trans e))]
   ·have hb:(g==k)=aq:=beq_eq_false_iff_ne.mpr h;simp only[cQ,hb];exact ih
theorem XH(f:Str)(v:V):∀fs:List (Str×V),f∈(vU f v fs).map (·.1)/\∀g,g∈fs.map (·.1)->g∈(vU f v fs).map (·.1)
 |[]=>⟨by simp[vU],λg h=>by simp at h⟩
 |(k,x)::r=>by
  obtain⟨i1,i2⟩:=XH f v r;rw[show vU f v ((k,x)::r)=(if k=f then (k,v)::r else (k,x)::vU f v r) from rfl];by_cases hk:k=f
  ·rw[au hk];subst hk;exact⟨by simp,λg h=>by simpa using h⟩
  ·rw[ap hk];refine⟨?_,λg h=>?_⟩
   ·rw[bw];exact bh _ i1
   ·rw[bw] at h ⊢;rcases bD.mp h with e|e
    ·exact bD.mpr (.inl e)
    ·exact bh _ (i2 g e)
theorem Wc(f:Str)(v:V):∀fs:List (Str×V),(vU f v fs).length<=fs.length+1
 |[]=>by simp[vU]
 |(k,x)::r=>by
  have ih:=Wc f v r;rw[show vU f v ((k,x)::r)=(if k=f then (k,v)::r else (k,x)::vU f v r) from rfl];by_cases hk:k=f
  ·rw[au hk,bU,bU];lia
  ·rw[ap hk,bU,bU];lia
theorem sT.some_of(r:sT (U v) o):∃u,o=U u/\aU v u:=by
 cases o with
 |none=>exact(show False from r).elim
 |some u=>exact⟨u,Y,r⟩
theorem sT.none_of(r:sT ao o):o=ao:=by
 cases o with
 |none=>rfl
 |some u=>exact(show False from r).elim
theorem zcT(r:aU v u):W.handedIn u=D:=by
 cases v with
 |non=>cases (show u=cE from r);rfl
 |bl b=>cases (show u=iy b from r);rfl
 |int i=>obtain⟨t,e⟩:=(show ∃t,u=gE i t from r);cases e;rfl
 |str x=>obtain⟨t,e⟩:=(show ∃t,u=gS x t from r);cases e;rfl
 |byt b=>obtain⟨t,e⟩:=(show ∃t,u=Value.bytes b t from r);cases e;rfl
 |flt b=>obtain⟨t,e⟩:=(show ∃t,u=rM b t from r);cases e;rfl
 |ref a=>cases (show u=bI a from r);rfl
 |ty n=>cases (show u=mC n from r);rfl
section
variable {P:av}{w:ax}{H H':Hp}{h h':aw}{a C dx:L}{fs fs':List (Str×V)}
theorem WQ(hok:tF P w H h)(e:H a=U (.ins C dx fs)):∃mA,ObjM h a dx C mA/\(∀f,sT (fs.lookup f) (mA f))/\pU mA (fs.map (·.1))/\fs.length<=1000/\H dx=U (.own a):=by
 obtain⟨d,z,ne,ob,mA,n,r,q⟩:=(show aW P w H h a (.ins C dx fs) from hok a _ e);exact⟨mA,⟨ob,n,ne⟩,r,q,z,d⟩
end
structure tq(K:bu)(C:L):Prop where
 pg:gj K C fT=D
 hd:fS K C=D
 po:gN K C=D
 sa:b7 K (.ref C) "__setattr__"=U (U (.builtin "object.__setattr__"))
theorem tq.get{K:bu}(c:tq K C)(f:Str):gj K C f=D:=c.pg
def aP(K:bu)(C:L)(f:Str):Prop:=b7 K (.ref C) f=U ao
theorem aP.taker{K:bu}{C:L}(n:aP K C f):W.takerIn K C f=U ao:=by
 unfold W.takerIn;rw[show b7 K (.ref C) f=U ao from n];rfl
structure Ks(K:bu)(C:L)(m:Str)(f:L):Prop where
 at_:b7 K (.ref C) m=U (U (.ref f))
 fn:pV K (.ref f)=D
 kp:dQ K (.ref f)=D
section
variable {X:Cx}{aa:List (L×Obj)}{σ:St}{H:Hp}{s:am}{a C dx:L}{fs:List (Str×V)}{f:Str}{v:V}{A:ay}{E:af->am->Prop}
theorem zbg{Q:af->am->Prop}(I:aO X aa σ H s)(e:H a=U (.ins C dx fs))(c:tq X.K C)(n:aP X.K C f)(l:fs.lookup f=U v)
  (h:∀u s',aO X aa σ H s'->aU v u->Q u s'):Bf (Bg X.prog X.w) A (getAttr (.ref a) f b) Q E s:=by
 obtain⟨mA,O,r,_,_,_⟩:=WQ I.hok e;obtain⟨u,hu,ru⟩:=sT.some_of (v:=v) (o:=mA f) (by rw[<-l];exact r f);exact zfE I.kIn O (c.get f) c.hd n hu (zcT ru) (h u _ (I.tok _) ru)
theorem kO{pl:Sem Bool}{Q:af×List af->am->Prop}(I:aO X aa σ H s)(e:H a=U (.ins C dx fs))(c:tq X.K C)(k:Ks X.K C m g)(l:fs.lookup m=ao)
  (h:Q (.ref g,[.ref a]) s):Bf (Bg X.prog X.w) A (getMethod (.ref a) m pl) Q E s:=by
 obtain⟨mA,O,r,_,_,_⟩:=WQ I.hok e;have hn:mA m=ao:=sT.none_of (by rw[<-l];exact r m);exact zdF I.kIn O (c.get m) k.at_ k.fn hn h
theorem WY{Q:Unit->am->Prop}(I:aO X aa σ H s)(e:H a=U (.ins C dx fs))(c:tq X.K C)(n:aP X.K C f)(hl:fs.length<1000)(ry:aU y u)
  (h:∀s',aO X aa σ (upd H a (.ins C dx (vU f y fs))) s'->Q PUnit.unit s'):Bf (Bg X.prog X.w) A (setAttr (.ref a) f u) Q E s:=by
 obtain⟨mA,O,r,wi,_,ho⟩:=WQ I.hok e;have hz:(fs.map (·.1)).length<=Bb:=by rw[bf,bG];lia
 refine zfF I.kIn O c.sa c.po n.taker c.hd wi hz λh' O' sb=>h _ ?_;have hd:∃o,h'.get? dx=U o:=let ⟨o,_,_,e',_⟩:=O'.ns;⟨o,e'⟩
 refine I.write (x:=a) (e:=dx) (by rw[e];exact eu) (.inr ho) (λb q hb z=>(sb.2 b hb).trans z) hd ?_;refine⟨by rw[zk O.ne];exact ho,?_,O.ne,O'.obj,_,O'.ns,λg=>?_,λg hg=>?_⟩
 ·have:=Wc f y fs;lia
 ·show sT ((vU f y fs).lookup g) (if g=f then U u else mA g);rw[Wb];by_cases q:g=f
  ·rw[au q,au q];exact ry
  ·rw[ap q,ap q];exact r g
 ·by_cases q:g=f
  ·rw[q];exact(XH f y fs).1
  ·refine(XH f y fs).2 g (wi g λz=>hg ?_);show (if g=f then U u else mA g)=ao;rw[ap q];exact z
theorem aO.made(I:aO X aa σ H s):aO X aa σ (upd (upd H s.heap.objs.size (.own (s.heap.objs.size+1))) (s.heap.objs.size+1) (.ins C s.heap.objs.size []))
  { s with heap:=(s.heap.push dN).push (fK C s.heap.objs.size) }:=by
 have e1:(s.heap.push dN).get? s.heap.objs.size=U dN:=bE s.heap rfl;have e2:((s.heap.push dN).push (fK C s.heap.objs.size)).get? (s.heap.objs.size+1)=U (fK C s.heap.objs.size):=by
  have:=bE (s.heap.push dN) (o:=fK C s.heap.objs.size) rfl
  rwa [eI] at this
 have e3:(s.heap.push dN).Ns s.heap.objs.size (λ_=>ao):=⟨dN,#[],_,e1,Y,(λe he=>absurd he (by simp)),λ_=>rfl⟩;have I1:=I.laid (a:=s.heap.objs.size) (o:=.own (s.heap.objs.size+1)) (h':=s.heap.push dN) (t':=s.toks) (λb u q=>bc _ q) (bp _) ⟨_,e1⟩;refine I1.laid (a:=s.heap.objs.size+1) (o:=.ins C s.heap.objs.size []) (t':=s.toks) (λb u q=>bc _ q) (nR (eI _ _)) ?_;have ne:s.heap.objs.size≠s.heap.objs.size+1:=bX (nA _);refine⟨by rw[zk ne,zh],bT _,ne,e2,λ_=>ao,(Heap.Ns1.of_empty e3).at λo q=>bc _ q,λ_=>eu,λy hy=>absurd Y hy⟩
theorem zfG{Q:af->am->Prop}(hb:attributeBase e f env (eval e env)=eval e env)
  (h:Bf (Bg prog w) A (eval e env) (λo s₁=>Bf (Bg prog w) A (getAttr o f D) Q E s₁) E s):Bf (Bg prog w) A (eval (.Attribute e f pos) env) Q E s:=
 Attribute_any_ h (by rw[arm_eval_Attribute,hb])
end
def zV(K:bu)(ta:TE)(f:Str):TE:=λσ H Q=>ta σ H λx H1=>∃a C dx fs v,x=.ref a/\H1 a=U (.ins C dx fs)/\tq K C/\aP K C f/\fs.lookup f=U v/\Q v H1
def xY(K:bu)(ta tv:TE)(f:Str):TS:=λBq σ H=>tv σ H λy H1=>ta σ H1 λx H2=>∃a C dx fs,x=.ref a/\H2 a=U (.ins C dx fs)/\tq K C/\aP K C f/\fs.length<1000 /\
 Bq.nx σ (upd H2 a (.ins C dx (vU f y fs)))
section
variable {X:Cx}{o e value:aB}{f:Str}{pos pos' tpos:Pos}{ta tv:TE}
theorem zA(he:PE X e ta)(hb:attributeBase e f X.env (eval e X.env)=eval e X.env):PE X (.Attribute e f pos) (zV X.K ta f):=by
 intro aa s σ H Q I h;refine zfG hb (dl (he aa s σ H _ I h) ?_);rintro u s1 ⟨x,H1,I1,rx,a,C,dx,fs,v,ex,ea,c,n,l,q⟩;subst ex;obtain rfl:u=bI a:=rx;exact zbg I1 ea c n l λu' s2 I2 ru=>⟨v,H1,I2,ru,q⟩
theorem yD(ha:PE X o ta)(hv:PE X value tv)(hs:swapsWith value (U (.Attribute o f pos')) pos.line X.env=pure aq):PS X (.Assign [.Attribute o f pos'] value pos) (xY X.K ta tv f):=by
 intro aa s σ H Bq I h;refine iA (dl (hv aa s σ H _ I h) λu s1 ⟨y,H1,I1,ry,q⟩=>dl (ha aa s1 σ H1 _ I1 q) ?_) hs;rintro ov s2 ⟨x,H2,I2,rx,a,C,dx,fs,ex,ea,c,n,l,q2⟩;subst ex;obtain rfl:ov=bI a:=rx;exact WY I2 ea c n l ry λs3 I3=>⟨σ,_,I3,q2⟩
end
section
variable {X:Cx}{aa:List (L×Obj)}{σ:St}{H:Hp}{s:am}{A:ay}{E:af->am->Prop}{Q:af->am->Prop}{c:af}{b:Bool}
inductive Yk (K:bu) (H:Hp):V->af->Prop where
 |non:Yk K H .non (.type "NoneType")
 |bl (x:Bool):Yk K H (.bl x) (.type "bool")
 |int (i:Int):Yk K H (.int i) (.type "int")
 |str (x:Str):Yk K H (.str x) (.type "str")
 |flt (x:UInt64):Yk K H (.flt x) (.type "float")
 |lst {a:L} {xs:List V} (e:H a=U (.lst xs)):Yk K H (.ref a) (.type "list")
 |frz {a:L} {o:Obj} {xs:List V} (e:H a=U (.frz o (.lst xs))):Yk K H (.ref a) (.type "list")
 |tup {a:L} {xs:List V} (e:H a=U (.tup xs)):Yk K H (.ref a) (.type "tuple")
 |dK {a:L} {ah:List (aV×V)} (e:H a=U (.dK ah)):Yk K H (.ref a) (.type "dict")
 |dT {a:L} {ah:List (List aV×V)} (e:H a=U (.dT ah)):Yk K H (.ref a) (.type "dict")
 |ins {a C dx:L} {fs:List (Str×V)} (e:H a=U (.ins C dx fs)) (cl:tq K C) (ha:b7 K (.ref C) "__class__"=U (U (.builtin "object.__class__")))
   (hn:rO K (.builtin "object.__class__") "__get__"=U (U (.builtin "getset_descriptor.__get__"))) (htk:W.takesIn K (.builtin "object.__class__")=U D)
   (hm:sd K C (.type "object")=U D):Yk K H (.ref a) (.ref C)
theorem zcU(I:aO X aa σ H s)(rx:aU x u)(ty:Yk X.K H x t)(e:fC X.K t c=U b)(h:∀tk,Q (.bool b) { s with toks:=tk }) :
  Bf (Bg X.prog X.w) A (call (.builtin "isinstance") [u,c]) Q E s:=by
 cases ty with
 |non=>cases (show u=cE from rx);exact gG W.kitx_none I.kIn eu e () h
 |bl y=>cases (show u=iy y from rx);exact gG W.kitx_bool I.kIn eu e () h
 |int i=>obtain⟨t,q⟩:=(show ∃t,u=gE i t from rx);cases q;exact gG W.kitx_int I.kIn eu e () h
 |str y=>obtain⟨t,q⟩:=(show ∃t,u=gS y t from rx);cases q;exact gG W.kitx_str I.kIn eu e () h
 |flt y=>obtain⟨t,q⟩:=(show ∃t,u=rM y t from rx);cases q;exact gG W.kitx_float I.kIn eu e () h
 |@lst a xs ea =>
  cases (show u=bI a from rx);obtain⟨_,_,n,_,h1⟩:=(show aW X.prog X.w H s.heap a (.lst xs) from I.hok a _ ea);exact gG W.kitx_list I.kIn ⟨_,h1,Y⟩ e () h
 |@frz a ob xs ea =>
  cases (show u=bI a from rx);obtain⟨_,_,_,n,_,h1⟩:=(show aW X.prog X.w H s.heap a (.frz ob (.lst xs)) from I.hok a _ ea);exact gG W.kitx_list I.kIn ⟨_,h1,Y⟩ e () h
 |@tup a xs ea =>
  cases (show u=bI a from rx);obtain⟨_,_,_,p⟩:=(show aW X.prog X.w H s.heap a (.tup xs) from I.hok a _ ea);obtain⟨o,h1,h2,_⟩:=p;exact gG W.kitx_tuple I.kIn ⟨o,h1,h2⟩ e () h
 |@dK a ah ea =>
  cases (show u=bI a from rx);obtain⟨_,_,vs,_,p⟩:=(show aW X.prog X.w H s.heap a (.dK ah) from I.hok a _ ea);obtain⟨o,es,ep,h1,h2,_⟩:=p;exact gG W.kitx_dict I.kIn ⟨o,h1,h2.1⟩ e () h
 |@dT a ah ea =>
  cases (show u=bI a from rx);obtain⟨_,_,xs,_,o,es,ep,h1,h2,_⟩:=(show aW X.prog X.w H s.heap a (.dT ah) from I.hok a _ ea);exact gG W.kitx_dict I.kIn ⟨o,h1,h2.1⟩ e () h
 |@ins a C dx fs ea cl ha hn htk hm =>
  cases (show u=bI a from rx);obtain⟨mA,O,_⟩:=WQ I.hok ea;obtain⟨od,J,_⟩:=O.look;exact gG (W.kitx_own (cl.get _) cl.hd ha hn htk hm) I.kIn J e () h
end
structure sy(k:Nat)(A:ay):Prop where
 hd:A.handled=ao
 dp:A.depth+3*k+5<recursionLimit
 un:A.units+16*k+200<cLine
theorem sy.mono(r:sy k A)(h:j<=k):sy j A:=⟨r.hd,by have:=r.dp;lia,by have:=r.un;lia⟩
theorem sy.deeper(r:sy (k+1) A)(env:Env):sy k (A.deeper env):=
 ⟨r.hd,by have:=r.dp;show A.depth+1+3*k+5<_;lia,by have:=r.un;show A.units+3+16*k+200<_;lia⟩
theorem zbh{A:ay}{C:L}{us:List af} :(A.under (.builtin "type.__call__" ⟨.ref C::us,kw⟩)).depth=A.depth+1:=by
 first|rfl|simp[pW,Code.weight,Code.isCreation,Code.isGuard,Code.isCaller,Code.frames,pX,guardIds]
theorem zbi{A:ay}{C:L}{us:List af} :(A.under (.builtin "type.__call__" ⟨.ref C::us,kw⟩)).units=A.units+1:=by
 first|rfl|simp[pW,Code.cUnits,Code.frames,pX]
theorem sy.make(r:sy (k+1) A)(C:L)(us:List af)(kw:List (Str×af)):sy k (A.under (.builtin "type.__call__" ⟨.ref C::us,kw⟩)):=
 ⟨r.hd,by have:=r.dp;rw[zbh];lia,by have:=r.un;rw[zbi];lia⟩
theorem sy.depth(r:sy k A):A.depth<recursionLimit:=by have:=r.dp;lia
theorem sy.units(r:sy k A):A.units+64<cLine:=by have:=r.un;lia
def zj:TA:=λ_ H Q=>Q [] H
def zc(ta:TE)(tr:TA):TA:=λσ H Q=>ta σ H λx H1=>tr σ H1 λxs H2=>Q (x::xs) H2
section
variable {X:Cx}{e:aB}{es:List aB}{te:TE}{t:TA}{pos:Pos}
theorem ze:PA X [] zj:=λ_ _ _ _ H Q I h=>eK ⟨[],H,I,.nil,h⟩
theorem za(ha:PE X e te)(hr:PA X es t)(hs:Be (e::es) X.env=(aq,eval e X.env)::Be es X.env:=by rfl):PA X (e::es) (zc te t):=by
 intro pos aa s σ H Q I h;rw[hs];show Bf _ _ (spliced ((aq,eval e X.env)::backTo pos (Be es X.env))) _ _ s;refine cO (dl (ha aa s σ H _ I h) ?_);rintro u s1 ⟨x,H1,I1,r1,q1⟩;exact dl (hr pos aa s1 σ H1 _ I1 q1) λus s2 ⟨xs,H2,I2,r2,q2⟩=>⟨x::xs,H2,I2,.cons r1 r2,q2⟩
def y7(t:TA):TE:=λσ H Q=>t σ H λxs H1=>xs.length<=Bb/\∀p,H1 p=ao->Q (.ref p) (upd H1 p (.tup xs))
def xZ(t:TA):TE:=λσ H Q=>t σ H λxs H1=>xs.length<=Bb/\∀p,H1 p=ao->Q (.ref p) (upd H1 p (.lst xs))
theorem zY{x1}(h:PA X es t):PE X (.Tuple es x1 pos) (y7 t):=by
 intro aa s σ H Q I hq;refine wpAny_Tuple_spliced (dl (h pos aa s σ H _ I hq) λus s1 ⟨xs,H1,I1,r,z,q⟩=>⟨by rw[<-r.length];exact z,?_⟩);have hf:H1 s1.heap.objs.size=ao:=I1.hok.fresh (bp _);refine⟨.ref s1.heap.objs.size,upd H1 s1.heap.objs.size (.tup xs),I1.laid (t':=s1.toks) (λb u e=>bc _ e) (bp _) ?_,Y,q _ hf⟩;exact⟨z,us,r,⟨_,bE _ Y,Y,_,Y⟩⟩
theorem yz(h:PA X es t):PE X (.List es pos) (xZ t):=by
 intro aa s σ H Q I hq;refine wpAny_List_spliced (dl (h pos aa s σ H _ I hq) λus s1 ⟨xs,H1,I1,r,z,q⟩=>⟨by rw[<-r.length];exact z,?_⟩);have hf:H1 s1.heap.objs.size=ao:=I1.hok.fresh (bp _);refine⟨.ref s1.heap.objs.size,upd H1 s1.heap.objs.size (.lst xs),I1.laid (t':=s1.toks) (λb u e=>bc _ e) (bp _) ?_,Y,q _ hf⟩;exact⟨z,us,0,r,bE _ Y⟩
end
abbrev Sp:=List V->Hp->VK->XK->Prop
abbrev CXT:=List Env->Hp->am->XK->af->am->Prop
structure Env0(P:av)(w:ax)(K:bu)(mg:Str->Option af)(base:aw)(A:ay)(outer:List Env)(s:am)(H:Hp):Prop where
 frames:A.frames=U outer
 mod:Mod K mg base
 bs:∀b o,base.get? b=U o->s.heap.get? b=U o/\H b=ao
 bsz:base.objs.size<=s.heap.objs.size
 funs:s.heap.FunFrames base outer
 frf:∀b∈sX outer,H b=ao
 hok:tF P w H s.heap
 bare:AllBare s.gens
def CE(outer:List Env)(P:av)(w:ax)(H:Hp)(s:am)(Q:VK)(u:af)(s':am):Prop :=
 ∃v H',s'.os=s.os/\AllBare s'.gens/\Un (sX outer) [] H H' s.heap s'.heap/\tF P w H' s'.heap/\aU v u/\Q v H'
def CR(CX:CXT)(outer:List Env)(P:av)(w:ax)(H:Hp)(s:am)(Q:VK)(E:XK)(r:aD)(s':am):Prop :=
 match r with
 |.ok (.ret u)=>CE outer P w H s Q u s'
 |.ok _=>False
 |.error e=>CX outer H s E e s'
structure sq(P:av)(w:ax)(K:bu)(mg:Str->Option af)(base:aw)(CX:CXT)(k:Nat)(f:L)(fd:Bc)(ps:List Str)(sp:Sp):Prop where
 len:∀vs H Q E,sp vs H Q E->vs.length=ps.length
 run:∀(A:ay) (outer:List Env) (s:am) (H:Hp) (args:Args) (us:List af) (vs:List V) (Q:VK) (E:XK),sy k A->Env0 P w K mg base A outer s H->BindsTo s fd args (ps.zip us)->aR vs us->sp vs H Q E ->
  codeAny (Bg P w) A (.call (.ref f) args) (CR CX outer P w H s Q E) s
theorem sq.mono{w:ax}{K:bu}{mg:Str->Option af}{base:aw}{CX:CXT}{j k:Nat}{f:L}{fd:Bc}{ps:List Str}{sp:Sp}(F:sq P w K mg base CX j f fd ps sp)(h:j<=k) :
  sq P w K mg base CX k f fd ps sp:=⟨F.len,λA outer s H args us vs Q E hr=>F.run A outer s H args us vs Q E (hr.mono h)⟩
theorem Env0.make{w:ax}{K:bu}{mg:Str->Option af}{base:aw}{A:ay}{outer:List Env}{s:am}{H:Hp}(e:Env0 P w K mg base A outer s H)(C:L)(us:List af)(kw:List (Str×af)) :
  Env0 P w K mg base (A.under (.builtin "type.__call__" ⟨.ref C::us,kw⟩)) outer s H:=⟨by first|exact e.frames|(simpa[pW,Code.envs,pX,pushEnvs] using e.frames),e.mod,e.bs,e.bsz,e.funs,e.frf,e.hok,e.bare⟩
section
variable {X:Cx}{aa:List (L×Obj)}{σ:St}{H:Hp}{s s':am}
theorem aO.env0(I:aO X aa σ H s):Env0 X.prog X.w X.K X.mg X.base X.A X.stack s H :=
 ⟨I.ok.frames,I.ok.mod,I.bs,bN I.ok.bsz I.sz,I.stack,I.stkFree,I.hok,I.bare⟩
theorem aO.after{Q:VK}(I:aO X aa σ H s)(h:CE X.stack X.prog X.w H s Q u s'):EP X aa σ Q u s':=by
 obtain⟨v,H',os,bare,un,hok,r,q⟩:=h;obtain⟨hh,g,d,t,os'⟩:=s';obtain rfl:os'=s.os:=os;exact⟨v,H',I.call (h':=hh) (g':=g) (d':=d) (t':=t) (ch:=[]) un hok bare (λb z=>absurd z (by simp)),r,q⟩
end
def zR(sp:Sp)(dvs:List V)(E:XK)(t:TA):TE:=λσ H Q=>t σ H λvs H1=>sp (vs++dvs) H1 Q E
def zW(C:L)(m:Str)(sp:Sp)(dvs:List V)(E:XK)(ta:TE)(t:TA):TE:=λσ H Q=>ta σ H λx H1=>∃a dx fs,x=.ref a/\H1 a=U (.ins C dx fs)/\fs.lookup m=ao /\
 t σ H1 λvs H2=>sp (x::(vs++dvs)) H2 Q E
def Wd(C:L)(sp:Sp)(dvs:List V)(E:XK)(t:TA):TE:=λσ H Q=>t σ H λvs H1=>∀x dx,H1 x=ao->H1 dx=ao->dx≠x ->
 sp (.ref x::(vs++dvs)) (upd (upd H1 dx (.own x)) x (.ins C dx [])) (λv H2=>v=.non/\Q (.ref x) H2) E
def sD(K:bu)(fd:Bc)(ps:List Str)(ds:List af):Prop :=
 ∀(s:am) (us:List af),K.In s.heap->(us++ds).length=ps.length->BindsTo s fd ⟨us,[]⟩ (ps.zip (us++ds))
theorem sD.all{K:bu}{fd:Bc}(h:∀us:List af,us.length=ps.length->bindArgs fd ⟨us,[]⟩=pure (ps.zip us)):sD K fd ps []:=λs us _ hl=>by
 rw[lG] at hl ⊢;exact .of_eq (h us hl)
def x6(CX:CXT)(X:Cx)(E:XK):Prop:=∀(aa:List (L×Obj)) (σ:St) (H:Hp) (s:am) (e:af) (s':am),aO X aa σ H s->CX X.stack H s E e s'->X.xe e s'
section
variable {X:Cx}{CX:CXT}{k:Nat}{f C:L}{fd:Bc}{ps:List Str}{sp:Sp}{dvs:List V}{ds:List af}{E:XK}{x m:Str}{p pos sk:Pos}{e o:aB}{es:List aB}{ta:TE}{t:TA}
theorem Kt{σ:St}{H:Hp}{s:am}{Q:VK}{us:List af}{vs:List V}(F:sq X.prog X.w X.K X.mg X.base CX k f fd ps sp)(hr:sy k X.A)(hb:sD X.K fd ps ds)(hd:aR dvs ds)(hx:x6 CX X E)
  (I:aO X aa σ H s) (r:aR vs us) (h:sp (vs++dvs) H Q E):Bf (Bg X.prog X.w) X.A (call (.ref f) us) (EP X aa σ Q) X.xe s:=by
 have r2:aR (vs++dvs) (us++ds):=r.append hd;have hl:(us++ds).length=ps.length:=by rw[<-r2.length];exact F.len _ _ _ _ h
 refine pL (fU (F.run X.A X.stack s H ⟨us,[]⟩ (us++ds) (vs++dvs) Q E hr I.env0 (hb s us I.kIn hl) r2 h) λr s' hq=>?_);cases r with
 |error e=>exact hx aa σ H s e s' I hq
 |ok fl =>
  cases fl with
  |ret u=>exact I.after hq
  |next=>exact cS hq
  |brk=>exact cS hq
  |cont=>exact cS hq
theorem YR(F:sq X.prog X.w X.K X.mg X.base CX k f fd ps sp)(hr:sy k X.A)(hg:Gl X x)(hm:X.mg x=U (.ref f))(hk:dQ X.K (.ref f)=D)(hb:sD X.K fd ps ds)(hd:aR dvs ds)(hx:x6 CX X E)
  (ha:PA X (e::es) t) (hdb:(x==("__debug__":Str))=aq:=by lia) (he:Be (e::es) X.env=(aq,eval e X.env)::Be es X.env:=by rfl) (hpl:(backTo pos (Be es X.env)).any (·.1)=aq:=by rfl) :
  PE X (.Call (.Name x p) (e::es) [] pos) (zR sp dvs E t):=by
 intro aa s σ H Q I h;refine eT (vG I hg hm ?_ hdb);refine lX (h₀:=X.base) I.ok.mod.kin hk (dl (ha pos aa s σ H _ I h) λus s1 ⟨vs,H1,I1,r,q⟩=>⟨I1.kIn,?_⟩) he hpl;exact Kt F hr hb hd hx I1 r q
theorem Ku{pl:Sem Bool}(he:PE X o ta)(c:tq X.K C)(hm:Ks X.K C m f)(F:sq X.prog X.w X.K X.mg X.base CX k f fd ps sp)(hr:sy k X.A)(hb:sD X.K fd ps ds)(hd:aR dvs ds)(hx:x6 CX X E)(ha:PA X (e::es) t)
  (hst:Be (e::es) X.env=(aq,eval e X.env)::Be es X.env:=by rfl) (hpl:(backTo pos (Be es X.env)).any (·.1)=aq:=by rfl)
  (ht:eval (.Call (.Attribute o m sk) (e::es) [] pos) X.env=(do
   let ov <-eval o X.env
   standAt sk.atName
   let (f,first) <-holding [ov] (getMethod ov m pl)
   callWith pos f first (backTo pos (Be (e::es) X.env)) (backToKw pos (keywordEach [] X.env))):=by rfl) :
  PE X (.Call (.Attribute o m sk) (e::es) [] pos) (zW C m sp dvs E ta t):=by
 intro aa s σ H Q I h;refine lH (pl:=pl) (dl (he aa s σ H _ I h) ?_) ht;rintro u s1 ⟨x,H1,I1,rx,a,dx,fs,ex,ea,l,q⟩;subst ex;obtain rfl:u=bI a:=rx;refine kO I1 ea c hm l ?_;refine lX (first:=[.ref a]) (h₀:=X.base) I.ok.mod.kin hm.kp (dl (ha pos aa s1 σ H1 _ I1 q) λus s2 ⟨vs,H2,I2,r,q2⟩=>⟨I2.kIn,?_⟩) hst hpl;exact Kt (us:=.ref a::us) (vs:=.ref a::vs) F hr hb hd hx I2 (.cons Y r) q2
theorem QC{pl:Sem Bool}(he:PE X o ta)(c:tq X.K C)(hm:Ks X.K C m f)(F:sq X.prog X.w X.K X.mg X.base CX k f fd ps sp)(hr:sy k X.A)(hb:sD X.K fd ps ds)(hd:aR dvs ds)(hx:x6 CX X E)
  (ht:eval (.Call (.Attribute o m sk) [] [] pos) X.env=(do
   let ov <-eval o X.env
   standAt sk.atName
   let (f,first) <-holding [ov] (getMethod ov m pl)
   callWith pos f first (backTo pos (Be [] X.env)) (backToKw pos (keywordEach [] X.env))):=by rfl) :
  PE X (.Call (.Attribute o m sk) [] [] pos) (zW C m sp dvs E ta zj):=by
 intro aa s σ H Q I h;refine lH (pl:=pl) (dl (he aa s σ H _ I h) ?_) ht;rintro u s1 ⟨x,H1,I1,rx,a,dx,fs,ex,ea,l,q⟩;subst ex;obtain rfl:u=bI a:=rx;refine kO I1 ea c hm l ?_;exact W.callWith_K0 (first:=[.ref a]) I1.kIn hm.kp (Kt (us:=[.ref a]) (vs:=[.ref a]) F hr hb hd hx I1 (.cons Y .nil) q)
structure Mk(K:bu)(C f:L):Prop where
 makes:gT K C=D
 init:b7 K (.ref C) "__init__"=U (U (.ref f))
 fn:pV K (.ref f)=D
 kp:dQ K (.ref C)=D
theorem zdH{σ:St}{H:Hp}{s:am}{Q:VK}{us:List af}{vs:List V}(M:Mk X.K C f)(F:sq X.prog X.w X.K X.mg X.base CX k f fd ps sp)(hr:sy (k+1) X.A)(hb:sD X.K fd ps ds)(hd:aR dvs ds)
  (hx:x6 CX X E) (I:aO X aa σ H s) (r:aR vs us)
  (h:∀x dx,H x=ao->H dx=ao->dx≠x->sp (.ref x::(vs++dvs)) (upd (upd H dx (.own x)) x (.ins C dx [])) (λv H2=>v=.non/\Q (.ref x) H2) E) :
  Bf (Bg X.prog X.w) X.A (call (.ref C) us) (EP X aa σ Q) X.xe s:=by
 have hq:=h (s.heap.objs.size+1) s.heap.objs.size (I.hok.fresh (rP _)) (I.hok.fresh (bp _)) (bX (nA _));have I2:=aO.made (C:=C) I;have r2:aR (V.ref (s.heap.objs.size+1)::(vs++dvs)) (bI (s.heap.objs.size+1)::(us++ds)):=.cons Y (r.append hd);have hl:(bI (s.heap.objs.size+1)::us++ds).length=ps.length:=by
  have e:=r2.length;rw[F.len _ _ _ _ hq] at e;exact e.symm
 refine pL (zdG (f:=f) I.kIn M.makes M.init (beq_iff_eq.mp M.fn) (fU (F.run _ X.stack _ _ ⟨bI (s.heap.objs.size+1)::us,[]⟩ (bI (s.heap.objs.size+1)::(us++ds)) _ _ E (hr.make C us [])
  (I2.env0.make C us []) (hb _ (bI (s.heap.objs.size+1)::us) I2.kIn hl) r2 hq) λr s' hq'=>?_))
 cases r with
 |error e=>exact hx aa σ _ _ e s' I2 hq'
 |ok fl =>
  cases fl with
  |ret u =>
   obtain⟨v,H',I3,rv,ev,q3⟩:=I2.after hq';subst ev;exact⟨rv,⟨V.ref (s.heap.objs.size+1),H',I3,Y,q3⟩⟩
  |next=>exact cS hq'
  |brk=>exact cS hq'
  |cont=>exact cS hq'
theorem ZJ(M:Mk X.K C f)(F:sq X.prog X.w X.K X.mg X.base CX k f fd ps sp)(hr:sy (k+1) X.A)(hg:Gl X x)(hm:X.mg x=U (.ref C))(hb:sD X.K fd ps ds)(hd:aR dvs ds)(hx:x6 CX X E)
  (ha:PA X (e::es) t) (hdb:(x==("__debug__":Str))=aq:=by lia) (he:Be (e::es) X.env=(aq,eval e X.env)::Be es X.env:=by rfl) (hpl:(backTo pos (Be es X.env)).any (·.1)=aq:=by rfl) :
  PE X (.Call (.Name x p) (e::es) [] pos) (Wd C sp dvs E t):=by
 intro aa s σ H Q I h;refine eT (vG I hg hm ?_ hdb);refine lX (h₀:=X.base) I.ok.mod.kin M.kp (dl (ha pos aa s σ H _ I h) λus s1 ⟨vs,H1,I1,r,q⟩=>⟨I1.kIn,?_⟩) he hpl;exact zdH M F hr hb hd hx I1 r q
end
def PK(X:Cx)(kws:List Keyword)(t:TA):Prop :=
 ∀(pos:Pos) (aa:List (L×Obj)) (s:am) (σ:St) (H:Hp) (Q:List V->Hp->Prop),aO X aa σ H s->t σ H Q->Bf (Bg X.prog X.w) X.A (evalAll ((backToKw pos (keywordEach kws X.env)).map (·.2))) (AP X aa σ Q) X.xe s
section
variable {X:Cx}{CX:CXT}{k:Nat}{f C:L}{fd:Bc}{ps ks:List Str}{sp:Sp}{E:XK}{x m:Str}{p pos sk kpos:Pos}{e o:aB}{es:List aB}{kws:List Keyword}{te ta:TE}{t tk:TA}{nm:Option Str}
theorem zhf:PK X [] zj:=λ_ _ _ _ H Q I h=>wpAny_evalAll_nil ⟨[],H,I,.nil,h⟩
theorem zfH(ha:PE X e te)(hr:PK X kws t):PK X (⟨nm,e,kpos⟩::kws) (zc te t):=by
 intro pos aa s σ H Q I h;show Bf _ _ (evalAll ((do let v <-eval e X.env;standAt pos;pure v)::(backToKw pos (keywordEach kws X.env)).map (·.2))) _ _ s;refine wpAny_evalAll_cons (ba (dl (ha aa s σ H _ I h) λu s1 ⟨x,H1,I1,r1,q1⟩=>ba (oY (bd ?_))));exact dl (hr pos aa s1 σ H1 _ I1 q1) λus s2 ⟨xs,H2,I2,r2,q2⟩=>⟨x::xs,H2,I2,.cons r1 r2,q2⟩
variable {g:List af->List af->List af}{gV:List V->List V->List V}
end
structure aN(N P:List Str)(sc:aC):Prop where
 kind:sc.kind=.function
 co:sc.isCoroutine=aq
 gen:sc.isGenerator=aq
 nd:N.Nodup
 pre:N.take P.length=P
 par:∀x∈P,sc.names.lookup x=U .local\/sc.names.lookup x=U .cell
 nofree:∀y∈sc.names,y.2≠.free
theorem JC{kindOf:Str->Option NameKind}{x:Str}:∀ {binds:List (Str×af)} {m:Str->Option af},(∀v,(x,v) ∉ binds)->bindL kindOf binds m x=m x
 |[],_,_=>rfl
 |(n,v)::r,m,h=>by
  unfold bindL;rw[JC λw hw=>h w (bh _ hw)];split
  ·have:x≠n:=by rintro rfl;exact h v bo
   simp[this]
  ·rfl
theorem JE{kindOf:Str->Option NameKind}{x:Str}:∀ {binds:List (Str×af)} {m:Str->Option af},(∀v,(x,v) ∉ binds)->bindC kindOf binds m x=m x
 |[],_,_=>rfl
 |(n,v)::r,m,h=>by
  unfold bindC;rw[JE λw hw=>h w (bh _ hw)];split
  ·rfl
  ·have:x≠n:=by rintro rfl;exact h v bo
   simp[this]
theorem JF{kindOf:Str->Option NameKind}{x:Str}{v:af}:∀ {P:List Str} {vs:List af} {i:Nat} {m:Str->Option af},P.Nodup->P[i]?=U x->vs[i]?=U v->kindOf x=U .local ->
  bindL kindOf (P.zip vs) m x=U v
 |[],_,_,_,_,h,_,_=>by simp at h
 |_::_,[],_,_,_,_,h,_=>by simp at h
 |p::P,w::vs,0,m,nd,h1,h2,hk=>by
  simp at h1 h2;subst h1;subst h2;show bindL kindOf ((p,w)::P.zip vs) m p=_;unfold bindL;rw[JC λv hv=>(bZ.mp nd).1 (nS hv).1,au hk];simp
 |p::P,w::vs,i+1,m,nd,h1,h2,hk=>by
  show bindL kindOf ((p,w)::P.zip vs) m x=_;unfold bindL;exact JF (i:=i) (bZ.mp nd).2 (by simpa using h1) (by simpa using h2) hk
theorem JG{kindOf:Str->Option NameKind}{x:Str}{v:af}:∀ {P:List Str} {vs:List af} {i:Nat} {m:Str->Option af},P.Nodup->P[i]?=U x->vs[i]?=U v->kindOf x≠U .local ->
  bindC kindOf (P.zip vs) m x=U v
 |[],_,_,_,_,h,_,_=>by simp at h
 |_::_,[],_,_,_,_,h,_=>by simp at h
 |p::P,w::vs,0,m,nd,h1,h2,hk=>by
  simp at h1 h2;subst h1;subst h2;show bindC kindOf ((p,w)::P.zip vs) m p=_;unfold bindC;rw[JE λv hv=>(bZ.mp nd).1 (nS hv).1,ap hk];simp
 |p::P,w::vs,i+1,m,nd,h1,h2,hk=>by
  show bindC kindOf ((p,w)::P.zip vs) m x=_;unfold bindC;exact JG (i:=i) (bZ.mp nd).2 (by simpa using h1) (by simpa using h2) hk
def start(N:List Str)(vs:List V):St:=vs.map U++iI (N.length-vs.length) ao
def qH(CX:CXT)(P:av)(w:ax)(K:bu)(mg:Str->Option af)(base:aw)(N:List Str)(qual:Str)(scope:aC)(f:L)(cd:af)(A:ay)(outer:List Env)(s:am)(H:Hp)(E:XK):Cx where
 prog:=P
 w:=w
 K:=K
 mg:=mg
 base:=base
 A:=A.deeper (envOfC qual scope s.heap.objs.size f cd)
 N:=N
 s₀:=s
 H₀:=H
 env:=envOfC qual scope s.heap.objs.size f cd
 outer:=outer
 stack:=envOfC qual scope s.heap.objs.size f cd::outer
 ex:=[]
 calm:=D
 fn:=λ_=>D
 pn:=[]
 xe:=λe s'=>Bf (Bg P w) (A.deeper (envOfC qual scope s.heap.objs.size f cd)) (leaving (envOfC qual scope s.heap.objs.size f cd) e) (λ_ s''=>CX outer H s E e s'') (λe' s''=>CX outer H s E e' s'') s'
theorem QD{sc:aC}{n:Nat}(h:sc.names.lookup x=U .cell):∃c,(cellsFrom n sc.names []).lookup x=U c:=by
 have q:=W.cellsFrom_some sc.names n [] (.inl h);exact fj.mp q
theorem zcV{CX:CXT}{P:av}{w:ax}{K:bu}{mg:Str->Option af}{base:aw}{N ps:List Str}{qual:Str}{scope:aC}{f:L}{cd:af}{A:ay}{outer:List Env}{s s1:am}{H:Hp}{E:XK}{us:List af}{vs:List V}
  (S:aN N ps scope) (hd:A.handled=ao) (e0:Env0 P w K mg base A outer s H) (hl:vs.length=ps.length) (r:aR vs us)
  (x:InCallC s s.heap.objs.size (bindL (envOfC qual scope s.heap.objs.size f cd).kindOf (ps.zip us) λ_=>ao) (cellsFrom (s.heap.objs.size+1) scope.names []) (bindC (envOfC qual scope s.heap.objs.size f cd).kindOf (ps.zip us) λ_=>ao) s1) :
  aO (qH CX P w K mg base N qual scope f cd A outer s H E) [] (start N vs) H s1:=by
 have hpl:ps.length<=N.length:=by have:=congrArg fE S.pre;rw[cx] at this;lia
 obtain⟨h1,tk,rfl,hk⟩:=x.done;have noA:∀b:L,b ∉ (qH CX P w K mg base N qual scope f cd A outer s H E).ex:=λb z=>absurd (show b∈([]:List L) from z) (by simp);refine⟨⟨e0.mod,S.kind,Y,Y,bp _,λy z c h1 h2=>?_,λy hy=>?_,λy c _ h=>?_,λ_=>hd,Around.frames_deeper e0.frames,.inr ⟨Y,Y⟩,λb z=>absurd z (noA b),e0.bs,e0.bsz,λb _ _=>noA b,λb z=>absurd z (noA b),e0.funs,e0.frf⟩,
  rfl,e0.bare,Un.kept hk,⟨_,x.toInCall.ns,λi y v h1 h2 h3=>?_⟩,λy c h=>⟨_,x.cell y c h⟩,e0.hok.fresh (bp _),λy c h=>?_,λp hp=>absurd (show p∈([]:List (L×Obj)) from hp) (by simp),e0.hok.kept hk,?_⟩
 ·exact name_of_addr x.apart (eM h1) (eM h2)
 ·have hy:scope.names.lookup y=U .cell\/scope.names.lookup y=U .free:=hy;rcases hy with hy|hy
  ·exact QD hy
  ·exact absurd Y (S.nofree _ (eM hy))
 ·exact nP (x.above y c (eM h))
 ·have hi:i<vs.length:=by
   unfold start at h2;by_cases hi:i<vs.length
   ·exact hi
   ·rw[eR (by simpa using hi)] at h2;rw[mT] at h2;split at h2 <;> cases h2
  have ha:vs[i]?=U v:=by
   unfold start at h2;rw[cT (by simpa using hi),bx] at h2;cases e:vs[i]? with
   |none=>rw[e] at h2;cases h2
   |some a=>rw[e] at h2;cases h2;rfl
  obtain⟨u,hu,rv⟩:=r.get ha;have hp:ps[i]?=U y:=by
   rw[<-S.pre,List.getElem?_take_of_lt ()];exact h1
  have ndP:ps.Nodup:=by rw[<-S.pre];exact S.nd.sublist (pM _ _)
  refine⟨u,rv,?_⟩;rcases S.par y (bS hp) with k|k
  ·exact .inl ⟨k,JF ndP hp hu k⟩
  ·obtain⟨c,e⟩:=QD (n:=s.heap.objs.size+1) k;refine .inr ⟨.inl k,c,e,?_⟩;have q:=x.cell y c e;rw[JG ndP hp hu (by show scope.names.lookup y≠_;rw[k];decide)] at q;exact q
 ·exact e0.hok.fresh (nP (x.above y c (eM h)))
 ·unfold start;show _=N.length;rw[bF,bf,fV];lia
theorem zgM{CX:CXT}{P:av}{w:ax}{K:bu}{mg:Str->Option af}{base:aw}{k:Nat}{f:L}{name qual:Str}{params:Arguments}{body:List aA}{scope:aC}{dV kV doc pm cdv ct oc:af}{an od:Option L}
  {osl:Array (Option af)} {N ps:List Str} {sp:Sp} (lk:K.lookup f=U ⟨oc,od,.func (iN name qual params body scope dV kV doc pm an cdv ct),osl⟩) (hcd:gU K cdv qual=D) (S:aN N ps scope)
  (len:∀vs H Q E,sp vs H Q E->vs.length=ps.length)
  (hbody:∀(A:ay) (outer:List Env) (s:am) (H:Hp) (vs:List V) (Q:VK) (E:XK),sy k (A.deeper (envOfC qual scope s.heap.objs.size f cdv))->sp vs H Q E ->
   ∃t,PSs (qH CX P w K mg base N qual scope f cdv A outer s H E) body t/\t { nx:=λ_ H'=>Q .non H',rt:=Q } (start N vs) H) :
  sq P w K mg base CX (k+1) f (iN name qual params body scope dV kV doc pm an cdv ct) ps sp:=by
 refine⟨len,λA outer s H args us vs Q E hr e0 hb r hsp=>?_⟩;have hl:=len _ _ _ _ hsp;have KX:K.In s.heap:=e0.mod.kin.keeps λb o e=>(e0.bs b o e).1;have lim:s.heap.NoLimit:=e0.mod.nolimit.keeps λb o e=>(e0.bs b o e).1;have hkind:∀y∈ps.zip us,scope.names.lookup y.1=U .local\/(scope.names.lookup y.1=U .cell/\((cellsFrom (s.heap.objs.size+1) scope.names []).lookup y.1).isSome=D):=λ⟨n,v⟩ hy=>by
  rcases S.par n (nS hy).1 with q|q
  ·exact .inl q
  ·exact .inr ⟨q,W.cellsFrom_some _ _ _ (.inl q)⟩
 refine codeAny_call_function hr.depth (KX _ _ lk) Y S.co S.gen Y (W.codeRec_of KX hcd) (hb _ _ _ _ ?_);refine wpAny_newFunctionEnv_cells S.kind hkind λenv he s1 x=>?_;subst he;refine⟨lim.keeps x.toInCall.keep,codeAny_func ?_⟩;obtain⟨t,ht,hq⟩:=hbody A outer s H vs Q E (hr.deeper _) hsp;have I:aO (qH CX P w K mg base N qual scope f cdv A outer s H E) [] (start N vs) H s1:=zcV S hr.hd e0 hl r x;refine dC (ht [] s1 (start N vs) H _ I hq) (λfl s' hs=>?_) λe s' hs=>hs;have fin:∀ {σ':St} {H':Hp} {v:V} {u:af},aO (qH CX P w K mg base N qual scope f cdv A outer s H E) [] σ' H' s'->aU v u->Q v H'->CE outer P w H s Q u s' :=
  λ{σ' H' v u} J rv q=>⟨v,H',J.os,J.bare,J.base,J.hok,rv,q⟩
 cases fl with
 |ret u =>
  obtain⟨v,σ',H',J,rv,q⟩:=hs;exact fin J rv q
 |next =>
  obtain⟨σ',H',J,q⟩:=hs;exact fin (v:=V.non) (u:=cE) J Y q
 |brk =>
  obtain⟨_,_,_,q⟩:=hs;exact cS q
 |cont =>
  obtain⟨_,_,_,q⟩:=hs;exact cS q
section
variable {X:Cx}{x:Str}{p pos:Pos}{e:aB}{es:List aB}{t:TA}{id T:String}{r:List V->Hp->VK->Prop}
def sG(r:List V->Hp->VK->Prop)(t:TA):TE:=λσ H Q=>t σ H λvs H1=>r vs H1 Q
theorem zD(hc:jZ X (.builtin id) r)(hg:Gl X x)(hm:X.mg x=ao)(hv:Bh x=U (.builtin id))(ha:PA X (e::es) t)(hn:x≠"__name__":=by lia)(hdb:(x==("__debug__":Str))=aq:=by lia)
  (he:Be (e::es) X.env=(aq,eval e X.env)::Be es X.env:=by rfl) (hpl:(backTo pos (Be es X.env)).any (·.1)=aq:=by rfl):PE X (.Call (.Name x p) (e::es) [] pos) (sG r t):=by
 intro aa s σ H Q I h;refine eT (XC I hg hm hv ?_ hn hdb);exact PyProof.Rows.callWith_builtin1 (dl (ha pos aa s σ H _ I h) λus s1 ⟨vs,H1,I1,r1,q1⟩=>hc aa s1 σ H1 vs us Q I1 r1 q1) he hpl
theorem xg(hc:jZ X (.type T) r)(hg:Gl X x)(hm:X.mg x=ao)(hv:Bh x=U (.type T))(ha:PA X (e::es) t)(hn:x≠"__name__":=by lia)(hdb:(x==("__debug__":Str))=aq:=by lia)
  (he:Be (e::es) X.env=(aq,eval e X.env)::Be es X.env:=by rfl) (hpl:(backTo pos (Be es X.env)).any (·.1)=aq:=by rfl):PE X (.Call (.Name x p) (e::es) [] pos) (sG r t):=by
 intro aa s σ H Q I h;refine eT (XC I hg hm hv ?_ hn hdb);exact fR (dl (ha pos aa s σ H _ I h) λus s1 ⟨vs,H1,I1,r1,q1⟩=>hc aa s1 σ H1 vs us Q I1 r1 q1) he hpl
end
end L2
namespace HT
open PySem PyProof.Rows
def zh5:List Int->List Int->Bool
 |[],[]=>aq
 |[],_::_=>D
 |_::_,[]=>aq
 |x::xs,y::ys=>if x=y then zh5 xs ys else decide (x<y)
theorem rcLt_int(A:ay)(s:am)(a:Int)(t:Tok)(c:Int)(u:Tok)(prog:av)(w:ax)(E:af->am->Prop)(Q:af->am->Prop)(h:Q (.bool (decide (a<c))) s) :
  Bf (Bg prog w) A (richCompare .Lt (.int a t) (.int c u)) Q E s :=
 (oJ h:Bf (Bg prog w) A (Bi .Lt (.int a t) (.int c u)) Q E s)
section
variable {prog:av}{w:ax}{A:ay}{E:af->am->Prop}{s:am}
theorem cat_tup{Q:af->am->Prop}(ht:IsTup s.heap t vs.toArray)(hb:IsTup s.heap b ws.toArray)(hv:vs≠[])
  (h1:ws=[]->Q (.ref t) s) (h2:ws≠[]->Q (.ref s.heap.objs.size) { s with heap:=s.heap.push { cls:=.type "tuple",data:=.seq (vs++ws).toArray } })
  (hsz:vs.length+ws.length<=Bb):Bf (Bg prog w) A (binaryOp .Add (.ref t) (.ref b)) Q E s:=by
 obtain⟨⟨cls,dd,data,sl⟩,ho,hc,n,hd⟩:=id ht;obtain⟨⟨cls2,dd2,data2,sl2⟩,ho2,hc2,n2,hd2⟩:=id hb;simp only at hc hd hc2 hd2;subst hc hd hc2 hd2;have e:vs.toArray++ws.toArray=(vs++ws).toArray:=by simp
 by_cases hw:ws=[]
 ·exact concat_meets ⟨_,ho,Y⟩ ⟨_,ho2,Y⟩ noFill_tuple_add seq_tuple_add nF mU (mD _ _)
   (tuple_addW1 t b vs.toArray ws.toArray n n2 dd dd2 sl sl2 (by simpa using hv) (by simp[hw])) ⟨ho,ho2,h1 hw⟩
 ·refine concat_meets ⟨_,ho,Y⟩ ⟨_,ho2,Y⟩ noFill_tuple_add seq_tuple_add nF mU (mD _ _)
   (tuple_addW2 t b vs.toArray ws.toArray n n2 dd dd2 sl sl2 (by simpa using hv) (by simpa using hw) (by rw[bH,bH];exact hsz)) ⟨ho,ho2,?_⟩
  rw[e];exact h2 hw
def sIx(n d:Nat):Option Int->Nat
 |none=>d
 |some v=>if v<0 then (v+(n:Int)).toNat else min v.toNat n
theorem sIx_none(n d:Nat):sIx n d ao=d:=rfl
theorem sIx_nat(n d k:Nat):sIx n d (U (k:Int))=min k n:=by
 show (if (k:Int)<0 then ((k:Int)+(n:Int)).toNat else min (k:Int).toNat n)=min k n;rw[ap (),dO]
theorem sIx_le(n d:Nat)(hd:d<=n)(o:Option Int):sIx n d o<=n:=by
 cases o with
 |none=>exact hd
 |some v =>
  show (if v<0 then (v+(n:Int)).toNat else min v.toNat n)<=n;by_cases hv:v<0
  ·rw[au hv];lia
  ·rw[ap hv];exact Nat.min_le_right _ _
end
end HT
namespace L2
open PySem PySem.Spec PyProof.Rows
abbrev TO:=St->Hp->(Option Int->Hp->Prop)->Prop
def PO(X:Cx)(e:Option aB)(t:TO):Prop :=
 ∀(aa:List (L×Obj)) (s:am) (σ:St) (H:Hp) (Q:Option Int->Hp->Prop),aO X aa σ H s->t σ H Q ->
  Bf (Bg X.prog X.w) X.A (evalPart e X.env) (λu s'=>∃o H',aO X aa σ H' s'/\IsPart u o/\Q o H') X.xe s
def kP:TO:=λ_ H Q=>Q ao H
def vV(t:TE):TO:=λσ H Q=>t σ H λx H1=>∃i,x=.int i/\Q (U i) H1
section
variable {X:Cx}{e:aB}{te:TE}{lo hi:Option aB}{tl th:TO}{pos p2:Pos}
theorem ZK:PO X ao kP:=by
 intro aa s σ H Q I h;rw[evalPart_none];exact bd ⟨ao,H,I,.none,h⟩
theorem xu(h:PE X e te):PO X (U e) (vV te):=by
 intro aa s σ H Q I hw;rw[evalPart_some];refine dl (h aa s σ H _ I hw) ?_;rintro u s1 ⟨x,H1,I1,r1,q1⟩;obtain⟨i,rfl,q⟩:=q1;obtain⟨t,rfl⟩:=r1;exact⟨U i,H1,I1,.int i t,q⟩
def SlR(X:Cx)(r:V->Option Int->Option Int->Hp->VK->Prop):Prop :=
 ∀(aa:List (L×Obj)) (s:am) (σ:St) (H:Hp) (x:V) (v vl vu:af) (lo hi:Option Int) (sl:L) (Q:VK),aO X aa σ H s->aU x v->s.heap.IsSliceOf sl vl vu .none->IsPart vl lo->IsPart vu hi->r x lo hi H Q ->
  ∃T id,typeLookup (.type T) "__getitem__"=pure (U (.builtin id))/\s.TypeIs v T/\Bf (Bg X.prog X.w) X.A (getItem v (.ref sl)) (EP X aa σ Q) X.xe s
def tSl(r:V->Option Int->Option Int->Hp->VK->Prop)(te:TE)(tl th:TO):TE:=λσ H Q=>te σ H λx H1=>tl σ H1 λl H2=>th σ H2 λu H3=>r x l u H3 Q
theorem xE{r:V->Option Int->Option Int->Hp->VK->Prop}(hr:SlR X r)(he:PE X e te)(hl:PO X lo tl)(hu:PO X hi th):PE X (.Subscript e (.Slice lo hi ao p2) pos) (tSl r te tl th):=by
 intro aa s σ H Q I h;refine Subscript_ (dl (he aa s σ H _ I h) ?_);rintro v s1 ⟨x,H1,I1,r1,q1⟩;refine wpAny_Slice (dl (hl aa s1 σ H1 _ I1 q1) λvl s2 ⟨l,H2,I2,pl,q2⟩=>dl (hu aa s2 σ H2 _ I2 q2) ?_);rintro vu s3 ⟨u,H3,I3,pu,q3⟩;rw[evalPart_none];refine bd ?_;have I4:aO X aa σ H3 { s3 with heap:=s3.heap.push { cls:=.type "slice",data:=.fields #[vl,vu,.none] } }:=I3.kept (t':=s3.toks) λb ob q=>bc _ q;obtain⟨T,id,hT,ht,hg⟩:=hr aa { s3 with heap:=s3.heap.push { cls:=.type "slice",data:=.fields #[vl,vu,.none] } } σ H3 x v vl vu l u s3.heap.objs.size Q I4 r1 (Heap.IsSliceOf.new ..) pl pu q3;show Bf (Bg X.prog X.w) X.A (subscriptTail e (.Slice lo hi ao p2) v (.ref s3.heap.objs.size)) (EP X aa σ Q) X.xe { s3 with heap:=s3.heap.push { cls:=.type "slice",data:=.fields #[vl,vu,.none] } };exact tail_any (ops:=[.ref s3.heap.objs.size,v]) ht hT hg (by with_unfolding_all rfl)
def qM(xs:List V)(lo hi:Option Int):List V:=(xs.drop (HT.sIx xs.length 0 lo)).take (HT.sIx xs.length xs.length hi-HT.sIx xs.length 0 lo)
theorem QE(xs:List V)(lo hi:Option Int):(qM xs lo hi).length<=xs.length:=by
 unfold qM;rw[cx,cG];lia
def zdI(K:bu):R2:=λx y H Q=>∃a b xs ys,x=.ref a/\y=.ref b/\sB K H a xs/\sB K H b ys/\xs≠[]/\xs.length+ys.length<=Bb /\
 (ys=[]->Q (.ref a) H)/\(ys≠[]->∀p,H p=ao->Q (.ref p) (upd H p (.tup (xs++ys))))
theorem aR.nil_iff(r:aR xs us):us=[]↔xs=[]:=by
 cases r with
 |nil=>simp
 |cons _ _=>simp
theorem zb4:ti X (binaryOp .Add) (zdI X.K):=by
 intro aa s σ H x y v u Q I rx ry h;obtain⟨a,b,xs,ys,rfl,rfl,ha,hb,hx,hz,q1,q2⟩:=h;cases rx;cases ry;obtain⟨its,r1,p1,_⟩:=I.tuple ha;obtain⟨its2,r2,p2,_⟩:=I.tuple hb;refine HT.cat_tup p1 p2 (λz=>hx (r1.nil_iff.mp z)) (λz=>⟨.ref a,H,I,Y,q1 (r2.nil_iff.mp z)⟩) (λz=>?_) (by rw[<-r1.length,<-r2.length];exact hz);refine⟨.ref s.heap.objs.size,_,I.laid (t':=s.toks) (o:=.tup (xs++ys)) (λb ob q=>bc _ q) (bp _) ?_,Y,q2 (λw=>z (r2.nil_iff.mpr w)) _ (I.hok.fresh (bp _))⟩;exact⟨by rw[bF];exact hz,_,r1.append r2,IsTup.new _ _⟩
end
def ixN(n:Nat)(i:Int):Option Nat:=if 0<=i then (if i<n then U i.toNat else ao) else if -(n:Int)<=i then U (i+n).toNat else ao
def tE{α:Type}(xs:List α)(i:Int):Option α:=(ixN xs.length i).bind λj=>xs[j]?
theorem zfI{i:Int}(h:ixN n i=U j):seqIndex? i n=U j/\j<n/\-(n:Int)<=i/\i<n:=by
 unfold ixN at h;by_cases h0:0<=i
 ·rw[au h0] at h;by_cases h1:i<n
  ·rw[au h1] at h;have e:i.toNat=j:=bJ h;exact⟨by rw[seqIndex_of h0 h1,e],(),(),h1⟩
  ·rw[ap h1] at h;cases h
 ·rw[ap h0] at h;by_cases h1:-(n:Int)<=i
  ·rw[au h1] at h;have e:(i+n).toNat=j:=bJ h;exact⟨by rw[pY () h1,e],(),h1,()⟩
  ·rw[ap h1] at h;cases h
theorem Kv{α:Type}{xs:List α}{i:Int}{v:α}(h:tE xs i=U v):∃j,seqIndex? i xs.length=U j/\xs[j]?=U v/\j<xs.length/\-(xs.length:Int)<=i/\i<xs.length:=by
 unfold tE at h;cases e:ixN xs.length i with
 |none=>rw[e] at h;cases h
 |some j =>
  rw[e] at h;obtain⟨h1,h2,h3,h4⟩:=zfI e;exact⟨j,h1,h,h2,h3,h4⟩
theorem yp{α:Type}{xs:List α}{j:Nat}{v:α}(h:xs[j]?=U v):tE xs (j:Int)=U v:=by
 have hj:j<xs.length:=(bn.mp h).1;have e:ixN xs.length (j:Int)=U j:=by
  unfold ixN;rw[au (),au ()];simp
 unfold tE;rw[e];exact h
theorem atI_last{α:Type}(xs:List α)(v:α):tE (xs++[v]) (-1)=U v:=by
 have hl:(xs++[v]).length=xs.length+1:=by simp
 have e:ixN (xs++[v]).length (-1)=U xs.length:=by
  unfold ixN;rw[hl,ap (),au ()];congr 1;lia
 unfold tE;rw[e];show (xs++[v])[xs.length]?=U v;simp
def zb5(b:aB):Prop:=∀o i,subscripted b aq o i=operate [o,i] (getItem o i)
def IxR(X:Cx)(r:R2):Prop :=
 ∀(value slice:aB) (aa:List (L×Obj)) (s:am) (σ:St) (H:Hp) (x y:V) (v u:af) (Q:VK),aO X aa σ H s->aU x v->aU y u->r x y H Q ->
  subscripted slice aq v u=operate [v,u] (getItem v u)->Bf (Bg X.prog X.w) X.A (subscriptTail value slice v u) (EP X aa σ Q) X.xe s
def MtR(X:Cx)(id:String)(r:V->List V->Hp->VK->Prop):Prop :=
 ∀(aa:List (L×Obj)) (s:am) (σ:St) (H:Hp) (x:V) (xs:List V) (v:af) (us:List af) (Q:VK),aO X aa σ H s->aU x v->aR xs us->r x xs H Q ->
  Bf (Bg X.prog X.w) X.A (call (.builtin id) (v::us)) (EP X aa σ Q) X.xe s
section
variable {X:Cx}{a b:aB}{ta tb:TE}{pos:Pos}
theorem zh6{r:R2}(hr:IxR X r)(ha:PE X a ta)(hb:PE X b tb)(hs:zb5 b):PE X (.Subscript a b pos) (aL r ta tb):=by
 intro aa s σ H Q I h;exact Subscript_ (zhc ha hb I h λv u s2 x y H2 I2 rx ry q=>hr a b aa s2 σ H2 x y v u Q I2 rx ry q (hs _ _))
def yV(K:bu):R2:=λx y H Q=>∃p xs i v,x=.ref p/\y=.int i/\aT K H p xs/\tE xs i=U v/\Q v H
def yJ(K:bu):R2:=λx y H Q=>∃p xs i v,x=.ref p/\y=.int i/\sB K H p xs/\tE xs i=U v/\Q v H
def zdJ:R2:=λx y H Q=>∃z i c,x=.str z/\y=.int i/\z.length<=Bb/\tE z.cps.toList i=U c/\Q (.str ⟨#[c]⟩) H
theorem zM:IxR X (yV X.K):=by
 intro value slice aa s σ H x y v u Q I rx ry h hs;obtain⟨p,xs,i,z,rfl,rfl,hq,he,q⟩:=h;cases rx;obtain⟨t,rfl⟩:=ry;obtain⟨its,r,pl,hz⟩:=I.list hq;obtain⟨j,h1,h2,h3,h4,h5⟩:=Kv he;obtain⟨w,ew,rw'⟩:=r.get h2;have hl:=r.length;have hn:=Kr;have fin:EP X aa σ Q w s:=⟨z,H,I,rw',q⟩;by_cases h0:0<=i
 ·have hj:i.toNat=j:=by
   rw[seqIndex_of h0 h5] at h1;exact bJ h1
  exact item_listR pl.isList h0 () (by rw[hj];simpa using ew) fin hs
 ·have hj:(i+(its.toArray.size:Int)).toNat=j:=by
   rw[pY () h4] at h1;rw[bH,<-hl];exact bJ h1
  exact nG (x:=w) pl.isList.typeIs slot_list_getitem.lookup
   (wpAny_getItem_list_neg (Q:=λr s'=>r=w/\EP X aa σ Q r s') pl.isList () (by rw[bH] <;> lia) () (by rw[hj];simpa using ew) ⟨Y,fin⟩) hs
theorem zT:IxR X (yJ X.K):=by
 intro value slice aa s σ H x y v u Q I rx ry h hs;obtain⟨p,xs,i,z,rfl,rfl,hq,he,q⟩:=h;cases rx;obtain⟨t,rfl⟩:=ry;obtain⟨its,r,pl,hz⟩:=I.tuple hq;obtain⟨j,h1,h2,h3,h4,h5⟩:=Kv he;obtain⟨w,ew,rw'⟩:=r.get h2;have hl:=r.length;have hn:=Kr;have fin:EP X aa σ Q w s:=⟨z,H,I,rw',q⟩;exact nG (x:=w) pl.typeIs slot_tuple_getitem.lookup
  (getItem_tuple (j:=j) (Q:=λr s'=>r=w/\EP X aa σ Q r s') pl () () (by rw[bH,<-hl];exact h1) (by simpa using ew) ⟨Y,fin⟩) hs
theorem zbj:IxR X zdJ:=by
 intro value slice aa s σ H x y v u Q I rx ry h hs;obtain⟨z,i,c,rfl,rfl,hz,he,q⟩:=h;obtain⟨t,rfl⟩:=rx;obtain⟨t',rfl⟩:=ry;obtain⟨j,h1,h2,h3,h4,h5⟩:=Kv he;have hl:z.cps.toList.length=z.length:=by simp[iB]
 rw[hl] at h1 h4 h5;have hn:=Kr;exact tail_any (oq s z t) slot_str_getitem.lookup (getItem_str (c:=c) (by
  have e1:decide (i < -(2^63:Int))=aq:=Bk ();have e2:decide (i >= 2^63)=aq:=Bk ();rw[e1,e2,Bool.or_false]) (by rw[h1];simpa using h2) ⟨.str ⟨#[c]⟩,H,I.tok _,⟨_,Y⟩,q⟩) hs
theorem Kw(lo hi:Option Int)(n:Nat):(sliceBounds lo hi ao n).1=((HT.sIx n 0 lo:Nat):Int)/\(sliceBounds lo hi ao n).2.1=((HT.sIx n n hi:Nat):Int)/\(sliceBounds lo hi ao n).2.2=1:=by
 refine⟨?_,?_,Y⟩
 ·cases lo with
  |none=>simp[sliceBounds,HT.sIx]
  |some i =>
   simp only[sliceBounds,HT.sIx,rB,show (1:Int) > 0 by lia,if_true];by_cases h:i<0
   ·simp only[h,if_true] <;> lia
   ·simp only[h,if_false] <;> lia
 ·cases hi with
  |none=>simp[sliceBounds,HT.sIx]
  |some i =>
   simp only[sliceBounds,HT.sIx,rB,show (1:Int) > 0 by lia,if_true];by_cases h:i<0
   ·simp only[h,if_true] <;> lia
   ·simp only[h,if_false] <;> lia
theorem VX(its:List af)(lo hi:Option Int):slicePick its.toArray lo hi ao=((its.drop (HT.sIx its.length 0 lo)).take (HT.sIx its.length its.length hi-HT.sIx its.length 0 lo)).toArray:=by
 obtain⟨h1,h2,h3⟩:=Kw lo hi its.toArray.size;unfold slicePick;rw[h1,h2,h3];simp only[sliceRange_one,pick_run,bH] <;> rfl
def Kx(K:bu):V->Option Int->Option Int->Hp->VK->Prop:=λx lo hi H Q=>∃a xs,x=.ref a/\aT K H a xs/\∀p,H p=ao->Q (.ref p) (upd H p (.lst (qM xs lo hi)))
theorem ju:SlR X (Kx X.K):=by
 intro aa s σ H x v vl vu lo hi sl Q I rx hs pl pu h;obtain⟨a,xs,rfl,hx,q⟩:=h;cases rx;obtain⟨its,r,ht,hz⟩:=I.list hx;have hlen:=r.length;refine⟨"list",_,slot_list_getitem.lookup,ht.isList.typeIs,?_⟩;refine wpAny_getItem_list_slice ht.isList hs pl pu .none (by simp) ?_ (by rw[bH] <;> lia);rw[VX,<-hlen];refine⟨.ref s.heap.objs.size,_,I.laid (t':=s.toks) (o:=.lst (qM xs lo hi)) (λb ob q=>bc _ q) (bp _) ?_,Y,q _ (I.hok.fresh (bp _))⟩;exact⟨bN (QE xs lo hi) hz,_,0,(r.drop (HT.sIx xs.length 0 lo)).take (HT.sIx xs.length xs.length hi-HT.sIx xs.length 0 lo),bE _ Y⟩
def YS:V->Bool
 |.non=>D
 |.bl _=>D
 |.int _=>D
 |.str _=>D
 |_=>aq
def eqV:V->V->Bool
 |.non,.non=>D
 |.bl a,.bl b=>a==b
 |.bl a,.int b=>(if a then 1 else 0)==b
 |.int a,.bl b=>a==(if b then 1 else 0)
 |.int a,.int b=>a==b
 |.str a,.str b=>a==b
 |_,_=>aq
theorem zhg(ry:aU y u)(rx:aU x v)(fy:YS y=D)(fx:YS x=D):SeqAt.EqAt A s u v (eqV y x):=by
 cases y with
 |non =>
  cases ry;cases x with
  |non=>cases rx;exact SeqAt.EqAt.same _
  |bl b=>cases rx;exact SeqAt.EqAt.none_bool b
  |int b=>obtain⟨t,rfl⟩:=rx;exact SeqAt.EqAt.none_int b t
  |str b=>obtain⟨t,rfl⟩:=rx;exact SeqAt.EqAt.none_str b t
  |_=>exact absurd (show aq=D from fx) bK
 |bl a =>
  cases ry;cases x with
  |non=>cases rx;exact SeqAt.EqAt.bool_none a
  |bl b=>cases rx;exact SeqAt.EqAt.bool_bool a b
  |int b=>obtain⟨t,rfl⟩:=rx;exact SeqAt.EqAt.bool_int a b t
  |str b=>obtain⟨t,rfl⟩:=rx;exact SeqAt.EqAt.bool_str a b t
  |_=>exact absurd (show aq=D from fx) bK
 |int a =>
  obtain⟨t',rfl⟩:=ry;cases x with
  |non=>cases rx;exact SeqAt.EqAt.int_none a t'
  |bl b=>cases rx;exact SeqAt.EqAt.int_bool a t' b
  |int b=>obtain⟨t,rfl⟩:=rx;exact lY a t' b t
  |str b=>obtain⟨t,rfl⟩:=rx;exact oU a t' b t
  |_=>exact absurd (show aq=D from fx) bK
 |str a =>
  obtain⟨t',rfl⟩:=ry;cases x with
  |non=>cases rx;exact SeqAt.EqAt.str_none a t'
  |bl b=>cases rx;exact SeqAt.EqAt.str_bool a t' b
  |int b=>obtain⟨t,rfl⟩:=rx;exact oV a t' b t
  |str b=>obtain⟨t,rfl⟩:=rx;exact lZ a t' b t
  |_=>exact absurd (show aq=D from fx) bK
 |_=>exact absurd (show aq=D from fy) bK
def eqU(x:V)(u:af):Bool:=match u with
 |.none=>eqV .non x
 |.bool b=>eqV (.bl b) x
 |.int i _=>eqV (.int i) x
 |.str z _=>eqV (.str z) x
 |_=>aq
theorem zdK(r:aU y u)(f:YS y=D):eqU x u=eqV y x:=by
 cases y with
 |non=>cases r;rfl
 |bl b=>cases r;rfl
 |int i=>obtain⟨t,rfl⟩:=r;rfl
 |str z=>obtain⟨t,rfl⟩:=r;rfl
 |_=>exact absurd (show aq=D from f) bK
theorem YT{x:V}:∀ {xs:List V} {us:List af},aR xs us->xs.all YS=D->us.any (eqU x)=xs.any λy=>eqV y x
 |_,_,.nil,_=>rfl
 |y::xs,u::us,.cons r t,f=>by
  rw[gm,bW] at f;rw[lf,lf,zdK r f.1,YT t f.2]
theorem qN{A:ay}{s:am}{x:V}{v:af}(rx:aU x v)(fx:YS x=D):∀ {xs:List V} {us:List af},aR xs us->xs.all YS=D->∀u∈us,SeqAt.EqAt A s u v (eqU x u)
 |_,_,.nil,_=>λu hu=>by cases hu
 |y::xs,u::us,.cons r t,f=>λu' hu=>by
  rw[gm,bW] at f;rcases bD.mp hu with rfl|hu
  ·rw[zdK r f.1];exact zhg r rx f.1 fx
  ·exact qN rx fx t f.2 u' hu
def inV(x:V)(xs:List V):Bool:=xs.any λy=>eqV y x
def rIn(K:bu)(neg:Bool):R2:=λx y H Q=>∃p xs,y=.ref p/\(aT K H p xs\/sB K H p xs)/\YS x=D/\xs.all YS=D/\Q (.bl (if neg then !inV x xs else inV x xs)) H
theorem XI:ti X (Bi .In) (rIn X.K aq):=by
 intro aa s σ H x y v u Q I rx ry h;obtain⟨p,xs,rfl,hq,fx,fs,q⟩:=h;cases ry;rcases hq with hq|hq
 ·obtain⟨its,r,pl,hz⟩:=I.list hq;refine SeqAt.in_listAt (eqU x) pl.isList (λw hw=>qN rx fx r fs w (by simpa using hw)) ⟨.bl _,H,I,Y,?_⟩;rw[show its.toArray.any (eqU x)=its.any (eqU x) by simp,YT r fs];exact q
 ·obtain⟨its,r,pl,hz⟩:=I.tuple hq;refine SeqAt.in_tupleAt (eqU x) pl (λw hw=>qN rx fx r fs w (by simpa using hw)) ⟨.bl _,H,I,Y,?_⟩;rw[show its.toArray.any (eqU x)=its.any (eqU x) by simp,YT r fs];exact q
theorem Ky:ti X (Bi .NotIn) (rIn X.K D):=by
 intro aa s σ H x y v u Q I rx ry h;obtain⟨p,xs,rfl,hq,fx,fs,q⟩:=h;cases ry;rcases hq with hq|hq
 ·obtain⟨its,r,pl,hz⟩:=I.list hq;refine SeqAt.notIn_listAt (eqU x) pl.isList (λw hw=>qN rx fx r fs w (by simpa using hw)) ⟨.bl _,H,I,Y,?_⟩;rw[show its.toArray.any (eqU x)=its.any (eqU x) by simp,YT r fs];exact q
 ·obtain⟨its,r,pl,hz⟩:=I.tuple hq;refine SeqAt.notIn_tupleAt (eqU x) pl (λw hw=>qN rx fx r fs w (by simpa using hw)) ⟨.bl _,H,I,Y,?_⟩;rw[show its.toArray.any (eqU x)=its.any (eqU x) by simp,YT r fs];exact q
theorem x8:jZ X (.type "list") (λxs H Q=>∃p ys,xs=[.ref p]/\(aT X.K H p ys\/sB X.K H p ys)/\∀l,H l=ao->Q (.ref l) (upd H l (.lst ys))):=by
 intro aa s σ H xs us Q I r h;obtain⟨p,ys,rfl,hq,q⟩:=h;obtain⟨u,rfl,rx⟩:=jt r;cases rx;have fin:∀(its:List af),aR ys its->ys.length<=Bb->∀(h':aw) (c':Nat),(∀b o',s.heap.get? b=U o'->h'.get? b=U o') ->
   h'.get? s.heap.objs.size=U { cls:=.type "list",dict:=ao,data:=.seq its.toArray c',slots:=#[] }->EP X aa σ Q (.ref s.heap.objs.size) { s with heap:=h' }:=λits r' hz h' c' kp e =>
  ⟨.ref s.heap.objs.size,_,I.laid (t':=s.toks) kp (bp _) (show aW X.prog X.w _ h' _ (.lst ys) from ⟨hz,its,c',r',e⟩),Y,q _ (I.hok.fresh (bp _))⟩
 rcases hq with hq|hq
 ·obtain⟨its,r',pl,hz⟩:=I.list hq;have hlen:=r'.length;obtain⟨o,ho,hc,n,hd⟩:=pl.isList;exact call_list_seq p (.inl Y) ho hc hd (λh' c' kp e=>fin its r' hz h' c' kp e) (by simp only[bH] <;> lia)
 ·obtain⟨its,r',pl,hz⟩:=I.tuple hq;have hlen:=r'.length;obtain⟨o,ho,hc,n,hd⟩:=pl;exact call_list_seq p (.inr Y) ho hc hd (λh' c' kp e=>fin its r' hz h' c' kp e) (by simp only[bH] <;> lia)
theorem VY:jZ X (.type "tuple") (λxs H Q=>∃p ys,xs=[.ref p]/\((aT X.K H p ys/\∀l,H l=ao->Q (.ref l) (upd H l (.tup ys)))\/(sB X.K H p ys/\Q (.ref p) H))):=by
 intro aa s σ H xs us Q I r h;obtain⟨p,ys,rfl,h⟩:=h;obtain⟨u,rfl,rx⟩:=jt r;cases rx;rcases h with ⟨hq,q⟩|⟨hq,q⟩
 ·obtain⟨its,r',pl,hz⟩:=I.list hq;have hlen:=r'.length;refine call_tuple_list pl.isList (λh' kp=>?_) (by simp only[bH] <;> lia);have I1:aO X aa σ H { s with heap:=h' }:=I.kept (t':=s.toks) kp;have I2:aO X aa σ (upd H h'.objs.size (.tup ys)) { s with heap:=h'.push { cls:=.type "tuple",data:=.seq its.toArray } } :=
   I1.laid (t':=s.toks) (λb o e=>bc _ e) (bp _) (show aW X.prog X.w _ _ _ (.tup ys) from ⟨hz,its,r',IsTup.new _ _⟩)
  exact⟨.ref h'.objs.size,_,I2,Y,q _ (I1.hok.fresh (bp _))⟩
 ·obtain⟨its,r',pl,hz⟩:=I.tuple hq;exact call_tuple_same pl ⟨.ref p,H,I,Y,q⟩
def tyV(K:bu)(T:String)(x:V)(H:Hp):Prop:=match x with
 |.str _=>T="str"
 |.int _=>T="int"
 |.ref p=>(T="list"/\∃xs,aT K H p xs)\/(T="tuple"/\∃o,K.lookup p=U o/\o.cls=.type "tuple"/\o.dict=ao) \/
   (T="dict"/\((∃ah,H p=U (.dK ah))\/∃ah,H p=U (.dT ah)))\/(T="set"/\∃S n,H p=U (.set S n))
 |_=>False
theorem zdL{σ:St}{H:Hp}{s:am}{T:String}{x:V}{v:af}(I:aO X aa σ H s)(r:aU x v)(ty:tyV X.K T x H) :
  s.TypeIs v T/\∀a,v=.ref a->∃ob,s.heap.get? a=U ob/\ob.dict=ao:=by
 cases x with
 |str z =>
  obtain⟨t,rfl⟩:=r;cases (show T="str" from ty);exact⟨oq s z t,λ_ e=>nomatch e⟩
 |int i =>
  obtain⟨t,rfl⟩:=r;cases (show T="int" from ty);exact⟨typeIs_int s i t,λ_ e=>nomatch e⟩
 |ref p =>
  cases r;rcases ty with ⟨rfl,xs,hq⟩|⟨rfl,o,hk,hc,hd⟩|⟨rfl,hk⟩|⟨rfl,S,n,hk⟩
  ·obtain⟨its,_,pl,_⟩:=I.list hq;refine⟨pl.isList.typeIs,λa e=>?_⟩;cases e;obtain⟨o,n,e,c,hd,_⟩:=pl;exact⟨o,e,hd⟩
  ·refine⟨⟨o,I.kIn p o hk,hc⟩,λa e=>?_⟩;cases e;exact⟨o,I.kIn _ o hk,hd⟩
  ·have z:∃o,s.heap.get? p=U o/\o.ExactDict:=by
    rcases hk with ⟨ah,hk⟩|⟨ah,hk⟩
    ·obtain⟨_,_,_,_,o,_,_,e,ex,_⟩:=I.hok p _ hk;exact⟨o,e,ex⟩
    ·obtain⟨_,_,_,_,o,_,_,e,ex,_⟩:=I.hok p _ hk;exact⟨o,e,ex⟩
   obtain⟨o,e,ex⟩:=z;refine⟨⟨o,e,ex.1⟩,λa e2=>?_⟩;cases e2;exact⟨o,e,ex.2.1⟩
  ·obtain⟨o,_,_,_,e,ex,_⟩:=I.hok p _ hk;refine⟨⟨o,e,ex.1⟩,λa e2=>?_⟩;cases e2;exact⟨o,e,ex.2.1⟩
 |_=>exact cS ty
def zfJ(K:bu)(T:String)(r:V->List V->Hp->VK->Prop)(to:TE):TE:=λσ H Q=>to σ H λx H1=>tyV K T x H1/\r x [] H1 Q
def tBM(K:bu)(T:String)(r:V->List V->Hp->VK->Prop)(to:TE)(t:TA):TE:=λσ H Q=>to σ H λx H1=>tyV K T x H1/\t σ H1 λxs H2=>r x xs H2 Q
variable {o e:aB}{es:List aB}{to:TE}{t:TA}{name:Str}{sk sC:Pos}{T id:String}{r:V->List V->Hp->VK->Prop}
theorem zbk(pa:PlainAttrs T)(slot:Slot T name id)(hty:typeOf (.builtin id)=pure (.type "method_descriptor"))(hm:MtR X id r)(ho:PE X o to)
  (hbase:attributeBase o name X.env (eval o X.env)=eval o X.env:=by rfl) (hline:(sk.endLine==sC.line)=D:=by rfl):PE X (.Call (.Attribute o name sk) [] [] sC) (zfJ X.K T r to):=by
 intro aa s σ H Q I h;refine mV hbase hline (dl (ho aa s σ H _ I h) ?_);rintro v s1 ⟨x,H1,I1,r1,ty,q1⟩;obtain⟨h1,h2⟩:=zdL I1 r1 ty;exact⟨T,id,pa,slot,hty,h1,h2,cX Y (oK (hm aa s1 σ H1 x [] v [] Q I1 r1 .nil q1))⟩
theorem wE(pa:PlainAttrs T)(slot:Slot T name id)(hty:typeOf (.builtin id)=pure (.type "method_descriptor"))(hm:MtR X id r)(ho:PE X o to)(ha:PA X (e::es) t)
  (hbase:attributeBase o name X.env (eval o X.env)=eval o X.env:=by rfl)
  (hfew:((backTo sC (Be (e::es) X.env)).all (λx=>!x.1)&&(backToKw sC (keywordEach [] X.env)).all (λx=>x.1.isSome)
   && decide ((e::es).length+([]:List Keyword).length+(if ([]:List Keyword).isEmpty then 0 else 1)<30))=D:=by rfl)
  (hline:(sk.endLine==sC.line)=D:=by rfl) (hs:Be (e::es) X.env=(aq,eval e X.env)::Be es X.env:=by rfl) (hplain:(backTo sC (Be es X.env)).any (·.1)=aq:=by rfl) :
  PE X (.Call (.Attribute o name sk) (e::es) [] sC) (tBM X.K T r to t):=by
 intro aa s σ H Q I h;refine wpAny_Call_method_late hbase hfew hline Y (dl (ho aa s σ H _ I h) ?_);rintro v s1 ⟨x,H1,I1,r1,ty,q1⟩;obtain⟨h1,h2⟩:=zdL I1 r1 ty;refine⟨T,id,pa,slot,hty,h1,h2,?_⟩;have hA:=ha sC aa s1 σ H1 _ I1 q1;rw[hs] at hA ⊢;refine cX (by show (aq || (backTo sC (Be es X.env)).any (·.1))=aq;rw[hplain] <;> rfl) (dI ?_);exact dl hA λus s2 ⟨vs,H2,I2,r2,q2⟩=>hm aa s2 σ H2 x vs v us Q I2 r1 r2 q2
end
def MtM(X:Cx)(id:String)(r:V->List V->Hp->VK->Prop):Prop :=
 ∀(aa:List (L×Obj)) (s:am) (σ:St) (H:Hp) (x:V) (xs:List V) (v:af) (us:List af) (Q:VK),aO X aa σ H s->aU x v->aR xs us->r x xs H Q ->
  Bf (Bg X.prog X.w) X.A (call (.builtin id) (v::us)) (EP X aa σ Q) X.xe s
theorem aR.one:∀ {x:V} {us:List af},aR [x] us->∃u,us=[u]/\aU x u
 |_,_,.cons r .nil=>⟨_,Y,r⟩
theorem aR.zero:∀ {us:List af},aR [] us->us=[]
 |_,.nil=>rfl
theorem aR.dropLast(h:aR xs us):aR xs.dropLast us.dropLast:=by
 induction h with
 |nil=>exact .nil
 |cons r t ih =>
  cases t with
  |nil=>exact .nil
  |cons q t'=>exact .cons r ih
theorem aR.eraseIdx:∀ {xs:List V} {us:List af} (i:Nat),aR xs us->aR (xs.eraseIdx i) (us.eraseIdx i)
 |_,_,_,.nil=>.nil
 |_,_,0,.cons _ t=>t
 |_,_,i+1,.cons r t=>.cons r (aR.eraseIdx i t)
theorem zbl{α:Type}(l:List α):l.eraseIdx (l.length-1)=l.dropLast:=by
 induction l with
 |nil=>rfl
 |cons a r ih =>
  cases r with
  |nil=>rfl
  |cons b r =>
   have e:(a::b::r).length-1=((b::r).length-1)+1:=by
    have h1:(a::b::r).length=r.length+2:=rfl;have h2:(b::r).length=r.length+1:=rfl;lia
   rw[e,gW,ih]
   all_goals rfl
theorem JH{α:Type}:∀(l:List α) (i:Nat),(l.eraseIdx i).length<=l.length
 |[],_=>bp _
 |_::_,0=>rP _
 |_::r,i+1=>fM (JH r i)
section
variable {X:Cx}{aa:List (L×Obj)}{σ:St}{H:Hp}{s:am}{l b:L}{xs ys zs:List V}
theorem aO.lset{its its':List af}{n:Nat}{f:Array af->Array af}(I:aO X aa σ H s)(hH:H l=U (.lst xs))
  (e:s.heap.get? l=U { cls:=.type "list",data:=.seq its.toArray n }) (hf:f its.toArray=its'.toArray) (hv:aR ys its') (hz:ys.length<=Bb) :
  aO X aa σ (upd H l (.lst ys)) { s with heap:=s.heap.update l (cZ f),toks:=t' }:=by
 have q:=PySem.IsL.update e f;rw[hf] at q;refine I.write (x:=l) (e:=l) (by rw[hH];exact trivial) (.inl Y) (λb' u hb hu=>(dM s.heap (cZ f) (eA hb)).trans hu) ⟨_,q⟩ ?_;exact⟨hz,its',_,hv,q⟩
theorem aO.lnew(I:aO X aa σ H s)(hv:aR ys its)(hz:ys.length<=Bb) :
  aO X aa σ (upd H s.heap.objs.size (.lst ys)) { s with heap:=s.heap.push { cls:=.type "list",data:=.seq its.toArray },toks:=t' }:=
 I.laid (λ_ _ q=>bc _ q) (bp _) ⟨hz,its,0,hv,bE _ Y⟩
theorem aO.fresh(I:aO X aa σ H s):H s.heap.objs.size=ao:=I.hok.fresh (bp _)
theorem aO.lstM(I:aO X aa σ H s)(hH:H l=U (.lst xs)):xs.length<=Bb/\∃(its:List af) (n:Nat),aR xs its/\xs.length=its.length/\s.heap.get? l=U { cls:=.type "list",data:=.seq its.toArray n }:=by
 obtain⟨z,its,n,r,e⟩:=I.hok l _ hH;exact⟨z,its,n,r,r.length,e⟩
theorem zdM(h:n<=Bb):gQ n=aq:=by
 unfold gQ;exact Bk ()
end
section
variable {X:Cx}
def zb6:V->List V->Hp->VK->Prop:=λx vs H Q=>∃l xs y,x=.ref l/\vs=[y]/\H l=U (.lst xs)/\xs.length<Bb/\Q .non (upd H l (.lst (xs++[y])))
theorem yX:MtM X "list.append" zb6:=by
 intro aa s σ H x vs v us Q I rx rv h;obtain⟨l,xs,y,rfl,rfl,hH,hz,q⟩:=h;cases rx;obtain⟨u,rfl,ru⟩:=rv.one;obtain⟨z,its,n,r,hl,e⟩:=I.lstM hH;refine iC F.slot_list_append ⟨_,e,Y⟩ F.entry_list_append (F.args_list_append_2 _ _) (PySem.list_append l its.toArray n u (by rw[bH];lia)) ⟨e,?_⟩;refine⟨.non,_,I.lset (its':=its++[u]) hH e (by simp) (r.append (.cons ru .nil)) ?_,Y,q⟩;rw[bF,dX];lia
def zb7:V->List V->Hp->VK->Prop:=λx vs H Q=>∃l b xs zs,x=.ref l/\vs=[.ref b]/\H l=U (.lst xs)/\H b=U (.lst zs)/\xs.length+zs.length<=Bb/\Q .non (upd H l (.lst (xs++zs)))
theorem zcW:MtM X "list.extend" zb7:=by
 intro aa s σ H x vs v us Q I rx rv h;obtain⟨l,b,xs,zs,rfl,rfl,hH,hB,hz,q⟩:=h;cases rx;obtain⟨u,rfl,ru⟩:=rv.one;cases ru;obtain⟨z,its,n,r,hl,e⟩:=I.lstM hH;obtain⟨z2,its2,n2,r2,hl2,e2⟩:=I.lstM hB;have hsz:its.toArray.size+its2.toArray.size<=Bb:=by rw[bH,bH];lia
 have hlong:¬ (!its.toArray.isEmpty&&gQ (its.toArray.size+its2.toArray.size))=D:=by
  rw[zdM hsz,Bool.and_false];exact bK
 refine iC F.slot_list_extend ⟨_,e,Y⟩ F.entry_list_extend (F.args_list_extend_2 _ _)
  (AutoSeq1.list_extend_list_list_0 l its.toArray n b its2.toArray n2 hlong (by rw[bH];lia) ()) ⟨e,e2,?_⟩
 refine⟨.non,_,I.lset (its':=its++its2) hH e (by simp) (r.append r2) ?_,Y,q⟩;rw[bF];lia
def zh7:V->List V->Hp->VK->Prop:=λx vs H Q=>∃l xs y,x=.ref l/\vs=[]/\H l=U (.lst xs)/\xs[xs.length-1]?=U y/\Q y (upd H l (.lst xs.dropLast))
theorem zbm:MtM X "list.pop" zh7:=by
 intro aa s σ H x vs v us Q I rx rv h;obtain⟨l,xs,y,rfl,rfl,hH,hy,q⟩:=h;cases rx;have hus:=rv.zero;subst hus;obtain⟨z,its,n,r,hl,e⟩:=I.lstM hH;obtain⟨u,hu,ru⟩:=r.get hy;have hy':its.toArray[its.toArray.size-1]?=U u:=by
  show its.toArray[its.length-1]?=U u;rw[<-c8,<-hl];exact hu
 refine iC F.slot_list_pop ⟨_,e,Y⟩ F.entry_list_pop (F.args_list_pop_1 _) (MeetsSeq.list_pop_last l its.toArray n u hy' (by rw[bH];lia)) ⟨e,?_⟩;refine⟨y,_,I.lset (its':=its.dropLast) hH e ?_ r.dropLast ?_,ru,q⟩
 ·show its.toArray.eraseIdxIfInBounds (its.toArray.size-1)=its.dropLast.toArray;rw[bH,iD,zbl]
 ·rw[List.length_dropLast];lia
def QH:R2:=λx y H Q=>∃l b xs zs,x=.ref l/\y=.ref b/\H l=U (.lst xs)/\H b=U (.lst zs)/\xs.length+zs.length<=Bb/\∀p,H p=ao->Q (.ref p) (upd H p (.lst (xs++zs)))
theorem Yl:ti X (binaryOp .Add) QH:=by
 intro aa s σ H x y v u Q I rx ry h;obtain⟨l,b,xs,zs,rfl,rfl,hH,hB,hz,q⟩:=h;cases rx;cases ry;obtain⟨z,its,n,r,hl,e⟩:=I.lstM hH;obtain⟨z2,its2,n2,r2,hl2,e2⟩:=I.lstM hB;refine PySem.P.add_list e e2 ?_ (by rw[bH,bH];lia);have ea:its.toArray++its2.toArray=(its++its2).toArray:=by simp
 rw[ea];exact⟨.ref _,_,I.lnew (t':=s.toks) (r.append r2) (by rw[bF];lia),Y,q _ I.fresh⟩
end
section
variable {prog:av}{w:ax}{A:ay}{E:af->am->Prop}{s:am}
set_option maxRecDepth 100000 in
end
section
variable {κ:Type} [DecidableEq κ]
def yc(ah:List (κ×V))(k:κ):Option V:=(ah.find? λkv=>decide (kv.1=k)).map (·.2)
def yq(ah:List (κ×V))(k:κ)(v:V):List (κ×V) :=
 if (ah.any λkv=>decide (kv.1=k))=D then ah.map (λkv=>if kv.1=k then (kv.1,v) else kv) else ah++[(k,v)]
def yo(ah:List (κ×V))(k:κ):List (κ×V):=ah.filter λkv=>decide (kv.1≠k)
theorem QI :yc ([]:List (κ×V)) k=ao:=rfl
theorem yN{p:κ×V}{r:List (κ×V)}(e:p.1=k):yc (p::r) k=U p.2:=by simp[yc,fW,e]
theorem yO{p:κ×V}{r:List (κ×V)}(e:¬ p.1=k):yc (p::r) k=yc r k:=by simp[yc,fW,e]
theorem w6(k:κ):∀ah:List (κ×V),(ah.any λkv=>decide (kv.1=k))=(yc ah k).isSome
 |[]=>rfl
 |p::r=>by
  rw[lf];by_cases e:p.1=k
  ·simp only[yN e,Bj e,Bool.true_or,Option.isSome_some]
  ·rw[yO e,Bk e,Bool.false_or];exact w6 k r
theorem QJ(k j:κ)(y:V):∀ah:List (κ×V),yc (ah.map λkv=>if kv.1=k then (kv.1,y) else kv) j=(yc ah j).map λx=>if j=k then y else x
 |[]=>rfl
 |p::r=>by
  have ih:=QJ k j y r;rw[bw];by_cases h:p.1=k
  ·rw[au h];by_cases e:p.1=j
   ·rw[yN (p:=(p.1,y)) e,yN e,gX,au (e.symm.trans h)]
   ·rw[yO (p:=(p.1,y)) e,yO e,ih]
  ·rw[ap h];by_cases e:p.1=j
   ·rw[yN (p:=p) e,yN e,gX,ap (λz=>h (e.trans z))]
   ·rw[yO (p:=p) e,yO e,ih]
theorem JI(k j:κ)(y:V):∀ah:List (κ×V),yc ah k=ao->yc (ah++[(k,y)]) j=if j=k then U y else yc ah j
 |[],_=>by
  by_cases e:k=j
  ·rw[au e.symm];exact yN (p:=(k,y)) e
  ·rw[ap (λz=>e z.symm)];exact yO (p:=(k,y)) e
 |p::r,hn=>by
  rw[dJ];have hk:¬ p.1=k:=λz=>by rw[yN z] at hn;cases hn
  rw[yO hk] at hn;have ih:=JI k j y r hn;by_cases e:p.1=j
  ·rw[yN e,yN e,ap (λz=>hk (e.trans z))]
  ·rw[yO e,yO e,ih]
theorem YU(ah:List (κ×V))(k j:κ)(y:V):yc (yq ah k y) j=if j=k then U y else yc ah j:=by
 unfold yq;by_cases a:(ah.any λkv=>decide (kv.1=k))=D
 ·rw[au a,QJ];rw[w6] at a;by_cases e:j=k
  ·obtain⟨x,hx⟩:=fj.mp a;rw[au e,e,hx,gX,au rfl]
  ·rw[ap e];cases yc ah j with
   |none=>rfl
   |some x=>rw[gX,ap e]
 ·rw[ap a];refine JI k j y ah ?_;rw[w6] at a;cases q:yc ah k with
  |none=>rfl
  |some x=>rw[q] at a;exact(a Y).elim
theorem xR(ah:List (κ×V))(k:κ)(v:V):(yq ah k v).length<=ah.length+1:=by
 unfold yq;split
 ·rw[bf];lia
 ·rw[bF,bU,nT];lia
theorem va{ah:List (κ×V)}(v:V)(h:yc ah k=ao):yq ah k v=ah++[(k,v)]:=by
 unfold yq;rw[w6,h];exact ap ()
theorem sT.isSome_eq(r:sT o u):o.isSome=u.isSome:=by
 cases o with
 |none=>cases u with
  |none=>rfl
  |some _=>exact(show False from r).elim
 |some _=>cases u with
  |none=>exact(show False from r).elim
  |some _=>rfl
theorem sT.getD(r:sT o u)(rd:aU d d'):aU (o.getD d) (u.getD d'):=by
 cases o with
 |none=>cases u with
  |none=>exact rd
  |some _=>exact(show False from r).elim
 |some _=>cases u with
  |none=>exact(show False from r).elim
  |some _=>exact r
theorem KV.val(r:KV ah vs)(k:κ):sT (yc ah k) (valueAt vs k):=by
 unfold KV at r;induction r with
 |nil=>exact eu
 |@cons p q ps qs h t ih =>
  obtain⟨h1,h2⟩:=h;by_cases e:p.1=k
  ·have e':q.1=k:=h1.symm.trans e;have b:valueAt (q::qs) k=U q.2:=by simp[valueAt,fW,e']
   rw[yN e,b];exact h2
  ·have e':¬ q.1=k:=λz=>e (h1.trans z);have b:valueAt (q::qs) k=valueAt qs k:=by simp[valueAt,fW,e']
   rw[yO e,b];exact ih
theorem KV.any(r:KV ah vs)(k:κ):(ah.any λkv=>decide (kv.1=k))=vs.any λkv=>decide (kv.1=k):=by
 unfold KV at r;induction r with
 |nil=>rfl
 |cons h t ih=>rw[lf,lf,ih,h.1]
theorem KV.repl(r:KV ah vs)(k:κ)(ry:aU y u) :
  KV (ah.map λkv=>if kv.1=k then (kv.1,y) else kv) (vs.map λkv=>if kv.1=k then (kv.1,u) else kv):=by
 unfold KV at r ⊢;induction r with
 |nil=>exact .nil
 |@cons p q ps qs h t ih =>
  rw[bw,bw];refine .cons ?_ ih;obtain⟨h1,h2⟩:=h;by_cases e:p.1=k
  ·rw[au e,au (h1.symm.trans e)];exact⟨h1,ry⟩
  ·rw[ap e,ap (λz=>e (h1.trans z))];exact⟨h1,h2⟩
theorem KV.put(r:KV ah vs)(k:κ)(ry:aU y u):KV (yq ah k y) (stored vs k u):=by
 unfold yq stored;rw[r.any k];by_cases e:(vs.any λkv=>decide (kv.1=k))=D
 ·rw[au e,au e];exact r.repl k ry
 ·rw[ap e,ap e];exact Paired.snoc r ⟨Y,ry⟩
theorem KV.drop(r:KV ah vs)(k:κ):KV (yo ah k) (without vs k):=by
 unfold KV at r ⊢;unfold yo without;induction r with
 |nil=>exact .nil
 |@cons p q ps qs h t ih =>
  obtain⟨h1,h2⟩:=h;rw[df,df];by_cases e:p.1=k
  ·have a:¬ decide (p.1≠k)=D:=by simp[e]
   have b:¬ decide (q.1≠k)=D:=by simp[h1.symm.trans e]
   rw[ap a,ap b];exact ih
  ·have e':¬ q.1=k:=λz=>e (h1.trans z);have a:decide (p.1≠k)=D:=by simp[e]
   have b:decide (q.1≠k)=D:=by simp[e']
   rw[au a,au b];exact .cons ⟨h1,h2⟩ ih
theorem KV.length{vs:List (κ×af)}(r:KV ah vs):ah.length=vs.length:=bL r
theorem QK(ah:List (κ×V))(k:κ):(yo ah k).length<=ah.length:=nU _ _
end
theorem We(r:aU (kV k) u):(yB P w).is k u=D:=by
 cases k with
 |inl i=>obtain⟨t,e⟩:=(show ∃t,u=gE i t from r);subst e;exact Qv P w i t
 |inr x=>obtain⟨t,e⟩:=(show ∃t,u=gS x t from r);subst e;exact Qw P w x t
theorem XJ{P:av}{w:ax}:∀ {ks:List aV} {us:List af},aR (ks.map kV) us->ItemsAre (yB P w) ks us
 |[],_,r=>by rw[nV] at r;cases r;exact .nil
 |k::ks,_,r=>by
  rw[bw] at r;cases r with
  |cons h t=>exact .cons (We h) (XJ t)
abbrev KT(H:Hp):List (List aV×V)->List (List aV×L×af)->Prop:=Paired λp q=>p.1=q.1/\H q.2.1=U (.tup (p.1.map kV))/\aU p.2 q.2.2
theorem KT.val{H:Hp}{ah:List (List aV×V)}{xs:List (List aV×L×af)}(r:KT H ah xs)(k:List aV):sT (yc ah k) ((atKey xs k).map (·.2)):=by
 induction r with
 |nil=>exact eu
 |@cons p q ps qs h t ih =>
  obtain⟨h1,_,h2⟩:=h;by_cases e:p.1=k
  ·have e':q.1=k:=h1.symm.trans e;have b:atKey (q::qs) k=U q.2:=by simp[atKey,fW,e']
   rw[yN e,b];exact h2
  ·have e':¬ q.1=k:=λz=>e (h1.trans z);have b:atKey (q::qs) k=atKey qs k:=by simp[atKey,fW,e']
   rw[yO e,b];exact ih
theorem KT.repl{H:Hp}(r:KT H ah xs)(k:List aV)(ry:aU y u) :
  KT H (ah.map λkv=>if kv.1=k then (kv.1,y) else kv) (xs.map (putAt k u)):=by
 induction r with
 |nil=>exact .nil
 |@cons p q ps qs h t ih =>
  rw[bw,bw];refine .cons ?_ ih;obtain⟨h1,h2,h3⟩:=h;unfold putAt;by_cases e:p.1=k
  ·rw[au e,au (h1.symm.trans e)];exact⟨h1,h2,ry⟩
  ·rw[ap e,ap (λz=>e (h1.trans z))];exact⟨h1,h2,h3⟩
theorem KT.put{H:Hp}(r:KT H ah xs)(k:List aV)(hb:H b=U (.tup (k.map kV)))(ry:aU y u) :
  KT H (yq ah k y) (storedH xs k b u):=by
 have e:(ah.any λkv=>decide (kv.1=k))=(atKey xs k).isSome:=by
  rw[w6,(r.val k).isSome_eq,mE]
 unfold yq storedH;rw[e];by_cases q:(atKey xs k).isSome=D
 ·rw[au q,au q];exact r.repl k ry
 ·rw[ap q,ap q];exact Paired.snoc r ⟨Y,hb,ry⟩
theorem KT.keeps{H H':Hp}(r:KT H ah xs)(ht:∀b ys,H b=U (.tup ys)->H' b=U (.tup ys)):KT H' ah xs:=
 Paired.mapP r λ_ _ z=>⟨z.1,ht _ _ z.2.1,z.2.2⟩
section
variable {P:av}{w:ax}{H:Hp}{h:aw}{a:L}
theorem zgN(ok:tF P w H h)(e:Rd H a u):aW P w H h a u:=e.ok ok
theorem WZ(ok:tF P w H h)(e:Rd H a (.dK ah)):ah.length<=Bb/\(a==sysModules)=aq/\∃vs,KV ah vs/\h.DictOf (yB P w) a vs:=
 show aW P w H h a (.dK ah) from zgN ok e
theorem zdN(ok:tF P w H h)(e:H a=U (.dK ah)):ah.length<=Bb/\(a==sysModules)=aq/\∃vs,KV ah vs/\h.DictOf (yB P w) a vs:=WZ ok (.inl e)
theorem kQ(ok:tF P w H h)(e:H a=U (.tup (ks.map kV))):(tupleKind (yB P w)).is h ks a:=by
 obtain⟨_,its,r,o,h1,h2,n,h3⟩:=(show aW P w H h a (.tup (ks.map kV)) from ok a _ e);exact⟨o,its.toArray,n,h1,h2,h3,by simpa using XJ r⟩
theorem W0(ok:tF P w H h)(e:Rd H a (.dT ah)):ah.length<=Bb/\(a==sysModules)=aq /\
  ∃xs,KT H ah xs/\h.DictOfH (tupleKind (yB P w)) a xs:=by
 obtain⟨z,y,xs,r,o,es,ep,h1,h2,h3,h4,h5⟩:=(show aW P w H h a (.dT ah) from zgN ok e);refine⟨z,y,xs,r,o,es,ep,h1,h2,h3,h4,λx hx=>?_,h5⟩;have all:∀ {l:List (List aV×V)} {m:List (List aV×L×af)},KT H l m->∀x∈m,(tupleKind (yB P w)).is h x.1 x.2.1:=by
  intro l m q;induction q with
  |nil=>intro x hx;exact nomatch hx
  |@cons p q ps qs hq t ih =>
   intro x hx;rcases bD.mp hx with e|hx
   ·subst e;exact kQ ok (by rw[<-hq.1];exact hq.2.1)
   ·exact ih x hx
 exact all r x hx
theorem QL(ok:tF P w H h)(e:H a=U (.dT ah)):ah.length<=Bb/\(a==sysModules)=aq /\
  ∃xs,KT H ah xs/\h.DictOfH (tupleKind (yB P w)) a xs:=W0 ok (.inl e)
end
def sL(H:Hp)(a:L)(y:V)(r:Option V):Prop :=
 (∃ah k,Rd H a (.dK ah)/\y=kV k/\r=yc ah k)\/∃ah k b,Rd H a (.dT ah)/\y=.ref b/\H b=U (.tup (k.map kV))/\r=yc ah k
def DPut(H:Hp)(a:L)(y v:V)(H':Hp):Prop :=
 (∃ah k,H a=U (.dK ah)/\y=kV k/\ah.length<Bb/\H'=upd H a (.dK (yq ah k v))) \/
 ∃ah k b,H a=U (.dT ah)/\y=.ref b/\H b=U (.tup (k.map kV))/\ah.length<Bb/\H'=upd H a (.dT (yq ah k v))
theorem sL.k{H:Hp}{ah:List (aV×V)}{k:aV}(e:H a=U (.dK ah)):sL H a (kV k) (yc ah k):=.inl ⟨ah,k,.inl e,Y,Y⟩
theorem sL.t{H:Hp}{ah:List (List aV×V)}{k:List aV}(e:H a=U (.dT ah))(eb:H b=U (.tup (k.map kV))):sL H a (.ref b) (yc ah k):=.inr ⟨ah,k,b,.inl e,Y,eb,Y⟩
theorem DPut.k{H:Hp}{ah:List (aV×V)}{k:aV}(e:H a=U (.dK ah))(hl:ah.length<Bb):DPut H a (kV k) v (upd H a (.dK (yq ah k v))):=.inl ⟨ah,k,e,Y,hl,Y⟩
theorem DPut.t{H:Hp}{ah:List (List aV×V)}{k:List aV}(e:H a=U (.dT ah))(eb:H b=U (.tup (k.map kV)))(hl:ah.length<Bb) :
  DPut H a (.ref b) v (upd H a (.dT (yq ah k v))):=.inr ⟨ah,k,b,e,Y,eb,hl,Y⟩
section
variable {X:Cx}{aa:List (L×Obj)}{σ:St}{H:Hp}{s:am}{a:L}{y v:V}{u r:af}{o:Option V}{A:ay}{E:af->am->Prop}
theorem aO.big(I:aO X aa σ H s):sysModules<s.heap.objs.size:=by
 have h:Bd<s.heap.objs.size:=(I.mod.glob.keeps I.bk).lt;exact pZ () h
theorem zcX{Q:af->am->Prop}(hu:A.units+1<cLine)(I:aO X aa σ H s)(g:sL H a y (U v))(ry:aU y u)(h:∀w' s',aO X aa σ H s'->aU v w'->Q w' s') :
  Bf (Bg X.prog X.w) A (getItem (.ref a) u) Q E s:=by
 rcases g with ⟨ah,k,e,ey,l⟩|⟨ah,k,b,e,ey,eb,l⟩
 ·subst ey;obtain⟨z,hd,vs,rel,dd⟩:=WZ I.hok e;obtain⟨w',hw,rw'⟩:=sT.some_of (v:=v) (o:=valueAt vs k) (by rw[l];exact rel.val k);exact wpAny_getItem_of (We ry) dd.mapOf hw (h w' _ (I.tok _) rw')
 ·subst ey;cases (show u=bI b from ry);obtain⟨z,hd,xs,rel,dd⟩:=W0 I.hok e;obtain⟨w',hw,rw'⟩:=sT.some_of (v:=v) (o:=(atKey xs k).map (·.2)) (by rw[l];exact rel.val k);obtain⟨p,hp,hp2⟩:=bY.mp hw;refine wpAny_getItem_heap (dF hu) (kQ I.hok eb) dd hp ?_;rw[hp2];exact h w' _ (I.tok _) rw'
theorem ziy{Q:af->am->Prop}(hu:A.units+1<cLine)(I:aO X aa σ H s)(g:sL H a y o)(ry:aU y u)(h:∀s',aO X aa σ H s'->Q (.bool o.isSome) s') :
  Bf (Bg X.prog X.w) A (Bi .In u (.ref a)) Q E s:=by
 rcases g with ⟨ah,k,e,ey,l⟩|⟨ah,k,b,e,ey,eb,l⟩
 ·subst ey;obtain⟨z,hd,vs,rel,dd⟩:=WZ I.hok e;refine wpAny_in_of (We ry) hd dd.mapOf ?_;rw[<-(rel.val k).isSome_eq,<-l];exact h _ (I.tok _)
 ·subst ey;cases (show u=bI b from ry);obtain⟨z,hd,xs,rel,dd⟩:=W0 I.hok e;refine wpAny_in_heap (dF hu) (kQ I.hok eb) hd dd ?_;have q:=(rel.val k).isSome_eq;rw[mE] at q;rw[<-q,<-l];exact h _ (I.tok _)
theorem zfK{Q:af->am->Prop}(hu:A.units+1<cLine)(I:aO X aa σ H s)(g:sL H a y o)(ry:aU y u)(h:∀s',aO X aa σ H s'->Q (.bool (!o.isSome)) s') :
  Bf (Bg X.prog X.w) A (Bi .NotIn u (.ref a)) Q E s:=by
 rcases g with ⟨ah,k,e,ey,l⟩|⟨ah,k,b,e,ey,eb,l⟩
 ·subst ey;obtain⟨z,hd,vs,rel,dd⟩:=WZ I.hok e;refine wpAny_notIn_of (We ry) hd dd.mapOf ?_;rw[<-(rel.val k).isSome_eq,<-l];exact h _ (I.tok _)
 ·subst ey;cases (show u=bI b from ry);obtain⟨z,hd,xs,rel,dd⟩:=W0 I.hok e;refine wpAny_notIn_heap (dF hu) (kQ I.hok eb) hd dd ?_;have q:=(rel.val k).isSome_eq;rw[mE] at q;rw[<-q,<-l];exact h _ (I.tok _)
theorem ZL(I:aO X aa σ H s)(mu:Mut (H a))(hs:cF a s.heap h')(he:∃q,h'.get? a=U q)(new:aW X.prog X.w (upd H a ob) h' a ob) :
  aO X aa σ (upd H a ob) { s with heap:=h',toks:=t' }:=
 I.write (x:=a) (e:=a) mu (.inl Y) (λb q hb z=>(hs.2 b hb).trans z) he new
theorem W1{H':Hp}(z:ah.length<=Bb)(hd:(a==sysModules)=aq)(rel:KV ah vs)(dd:h'.DictOf (yB P w) a vs) :
  aW P w H' h' a (.dK ah):=⟨z,hd,vs,rel,dd⟩
theorem zcY{H':Hp}{Q:Unit->am->Prop}(hu:A.units+1<cLine)(I:aO X aa σ H s)(g:DPut H a y v H')(ry:aU y u)(rv:aU v r)(h:∀s',aO X aa σ H' s'->Q PUnit.unit s') :
  Bf (Bg X.prog X.w) A (setItem (.ref a) u r) Q E s:=by
 rcases g with ⟨ah,k,e,ey,l,eH⟩|⟨ah,k,b,e,ey,eb,l,eH⟩
 ·subst ey eH;obtain⟨z,hd,vs,rel,dd⟩:=zdN I.hok e;have hz:vs.length<=Bb:=by rw[<-rel.length];exact z
  have hl:(yq ah k v).length<=Bb:=by have:=xR ah k v;lia
  refine wpAny_setItem_pairs (hsz:=hz) (We ry) dd λh' dd' hs=>h _ ?_;have he:∃q,h'.get? a=U q:=let ⟨q,_,_,hq,_⟩:=dd';⟨q,hq⟩
  exact ZL I (by rw[e];exact eu) hs he (W1 hl hd (rel.put k rv) dd')
 ·subst ey eH;cases (show u=bI b from ry);obtain⟨z,hd,xs,rel,dd⟩:=QL I.hok e;have hz:xs.length<=Bb:=by rw[<-bL rel];exact z
  have hl:(yq ah k v).length<=Bb:=by have:=xR ah k v;lia
  refine wpAny_setItem_heap (hsz:=hz) (dF hu) (kQ I.hok eb) dd λh' dd' hs=>h _ ?_;obtain⟨q,es,ep,hq,h2,h3,h4,_,h5⟩:=dd';refine ZL I (by rw[e];exact eu) hs ⟨q,hq⟩ ⟨hl,hd,_,(rel.put k eb rv).keeps λc ys ec=>?_,q,es,ep,hq,h2,h3,h4,h5⟩;rw[zk (zJ ec e ())];exact ec
end
section
variable {X:Cx}{aa:List (L×Obj)}{σ:St}{H:Hp}{s:am}{a:L}{ah:List (aV×V)}{k:aV}{u:af}{A:ay}{E:af->am->Prop}
theorem zgO{Q:af->am->Prop}(I:aO X aa σ H s)(e:H a=U (.dK ah))(ry:aU (kV k) u)(l:yc ah k=U v)(hm:more=[]\/∃x,more=[x])
  (h:∀w' s',aO X aa σ (upd H a (.dK (yo ah k))) s'->aU v w'->Q w' s'):Bf (Bg X.prog X.w) A (call (.builtin "dict.pop") (.ref a::u::more)) Q E s:=by
 obtain⟨z,hd,vs,rel,dd⟩:=zdN I.hok e;obtain⟨w',hw,rw'⟩:=sT.some_of (v:=v) (o:=valueAt vs k) (by rw[<-l];exact rel.val k);have hp:(keyPart u).isSome=D:=by
  cases k with
  |inl i=>obtain⟨t,q⟩:=(show ∃t,u=gE i t from ry);subst q;rfl
  |inr x=>obtain⟨t,q⟩:=(show ∃t,u=gS x t from ry);subst q;rfl
 have ha:argsOk "dict.pop" ⟨.ref a::u::more,[]⟩:=by
  rcases hm with q|⟨x,q⟩
  ·subst q;exact mW _ _
  ·subst q;exact mX _ _ _
 refine iO dY dd.typeIs ik ha (meets_dict_pop_there (yB X.prog X.w) a (We ry) more hm hp)
  ⟨vs,w',dd,by rw[<-rel.length];exact z,hw,λh' dd' hs=>h w' _ ?_ rw'⟩
 have he:∃q,h'.get? a=U q:=let ⟨q,_,_,hq,_⟩:=dd';⟨q,hq⟩
 exact ZL I (by rw[e];exact eu) hs he (W1 (bN (QK ah k) z) hd (rel.drop k) dd')
theorem zhh{Q:af->am->Prop}(I:aO X aa σ H s)(e:H a=U (.dK ah))(ry:aU (kV k) u)(l:yc ah k=ao)(h:∀s',aO X aa σ H s'->Q r s') :
  Bf (Bg X.prog X.w) A (call (.builtin "dict.pop") [.ref a,u,r]) Q E s:=by
 obtain⟨z,hd,vs,rel,dd⟩:=zdN I.hok e;have hn:valueAt vs k=ao:=sT.none_of (by rw[<-l];exact rel.val k);have hp:(keyPart u).isSome=D:=by
  cases k with
  |inl i=>obtain⟨t,q⟩:=(show ∃t,u=gE i t from ry);subst q;rfl
  |inr x=>obtain⟨t,q⟩:=(show ∃t,u=gS x t from ry);subst q;rfl
 exact iO dY dd.typeIs ik (mX _ _ _) (meets_dict_pop_default (yB X.prog X.w) a (We ry) hd hp r) ⟨vs,dd,hn,h _ (I.tok _)⟩
end
def zh8(i:aB):Prop:=∀ov iv,subscripted i aq ov iv=operate [ov,iv] (getItem ov iv)
theorem zfL{E:af->am->Prop}{env:Env}{pos:Pos}{T id:String}{Q:af->am->Prop}
  (hl:typeLookup (.type T) "__getitem__"=pure (U (.builtin id))) (hs:zh8 slice)
  (h:Bf (Bg prog w) A (eval value env) (λo s₁=>Bf (Bg prog w) A (eval slice env) (λi s₂=>s₂.TypeIs o T/\Bf (Bg prog w) A (getItem o i) Q E s₂) E s₁) E s) :
  Bf (Bg prog w) A (eval (.Subscript value slice pos) env) Q E s:=by
 refine Subscript_ (dC h (λo s₁ h₁=>dC h₁ (λi s₂ h₂=>?_) λ_ _ x=>x) λ_ _ x=>x);obtain⟨hT,h₂⟩:=h₂;unfold subscriptTail;refine ba ?_;rw[getitemInPython_of_ne hT.not_modules];refine ba (wpAny_specialOf hT hl ?_);have fin:Bf (Bg prog w) A (subscripted slice aq o i) (λr s₃=>Bf (Bg prog w) A (letTemporaryGo value o r >>= λ_=>pure r) Q E s₃) E s₂:=by
  rw[hs o i];exact wpAny_operating (dC h₂ (λr s₃ h₃=>ba (wpAny_letTemporaryGo (bd h₃))) λ_ _ x=>x)
 first
  |exact bd (ba fin)
  |exact ba (bd (ba fin))
  |exact ba fin
theorem QN{aa:List (L×Obj)}{σ:St}{H:Hp}{s:am}{a:L}{y:V}{o:Option V}(I:aO X aa σ H s)(g:sL H a y o):s.TypeIs (.ref a) "dict":=by
 rcases g with ⟨ah,k,e,_,_⟩|⟨ah,k,b,e,_,_,_⟩
 ·obtain⟨_,_,vs,_,dd⟩:=WZ I.hok e;exact dd.typeIs
 ·obtain⟨_,_,xs,_,dd⟩:=W0 I.hok e;exact dd.typeIs
def j6(td ty:TE):TE:=λσ H Q=>td σ H λx H1=>ty σ H1 λy H2=>∃a v,x=.ref a/\sL H2 a y (U v)/\Q v H2
def qA(td ty tv:TE):TS:=λBq σ H=>tv σ H λv H1=>td σ H1 λx H2=>ty σ H2 λy H3=>∃a H4,x=.ref a/\DPut H3 a y v H4/\Bq.nx σ H4
section
variable {X:Cx}{o i e value:aB}{pos pos' tpos:Pos}{td ty tv:TE}
theorem wW(hu:X.A.units+1<cLine)(ho:PE X o td)(hi:PE X i ty)(hs:zh8 i):PE X (.Subscript o i pos) (j6 td ty):=by
 intro aa s σ H Q I h;refine zfL PySem.F.slot_dict_getitem.lookup hs (dl (ho aa s σ H _ I h) λu s1 ⟨x,H1,I1,rx,q1⟩=>dl (hi aa s1 σ H1 _ I1 q1) ?_);rintro iv s2 ⟨y,H2,I2,ry,a,v,ex,g,q2⟩;subst ex;obtain rfl:u=bI a:=rx;exact⟨QN I2 g,zcX hu I2 g ry λw' s3 I3 rw'=>⟨v,H2,I3,rw',q2⟩⟩
theorem x9(hu:X.A.units+1<cLine)(ho:PE X o td)(hi:PE X i ty)(hv:PE X value tv)(hs:swapsWith value (U (.Subscript o i pos')) pos.line X.env=pure aq) :
  PS X (.Assign [.Subscript o i pos'] value pos) (qA td ty tv):=by
 intro aa s σ H Bq I h;refine nH (dl (hv aa s σ H _ I h) λr s1 ⟨v,H1,I1,rv,q1⟩=>dl (ho aa s1 σ H1 _ I1 q1) λu s2 ⟨x,H2,I2,rx,q2⟩=>dl (hi aa s2 σ H2 _ I2 q2) ?_) hs;rintro iv s3 ⟨y,H3,I3,ry,a,H4,ex,g,q3⟩;subst ex;obtain rfl:u=bI a:=rx;exact zcY hu I3 g ry rv λs4 I4=>⟨σ,H4,I4,q3⟩
end
theorem zdO{H:Hp}(h:aw)(hb:sysModules<h.objs.size):aW P w H (h.push { cls:=.type "dict",data:=.dict #[] }) h.objs.size (.dK []):=
 ⟨bT _,beq_eq_false_iff_ne.mpr (eA (bX hb)),[],.nil,Heap.DictOf.new h⟩
theorem QO{H:Hp}(h:aw)(hb:sysModules<h.objs.size):aW P w H (h.push { cls:=.type "dict",data:=.dict #[] }) h.objs.size (.dT []):=
 ⟨bT _,beq_eq_false_iff_ne.mpr (eA (bX hb)),[],.nil,_,#[],0,bE _ Y,⟨Y,Y,Y⟩,Y,Y,cw⟩
def Ym:TE:=λ_ H Q=>∀p,H p=ao->Q (.ref p) (upd H p (.dK []))
def Yn:TE:=λ_ H Q=>∀p,H p=ao->Q (.ref p) (upd H p (.dT []))
section
variable {X:Cx}{pos:Pos}
theorem j7:PE X (.Dict [] [] pos) Ym:=λaa s σ H Q I h =>
 wpAny_Dict_empty ⟨.ref s.heap.objs.size,_,I.laid (a:=s.heap.objs.size) (o:=.dK []) (t':=s.toks) (λ_ _ q=>bc _ q) (bp _) (zdO s.heap I.big),Y,h _ (I.hok.fresh (bp _))⟩
theorem j8:PE X (.Dict [] [] pos) Yn:=λaa s σ H Q I h =>
 wpAny_Dict_empty ⟨.ref s.heap.objs.size,_,I.laid (a:=s.heap.objs.size) (o:=.dT []) (t':=s.toks) (λ_ _ q=>bc _ q) (bp _) (QO s.heap I.big),Y,h _ (I.hok.fresh (bp _))⟩
end
def zhi:List (TE×TE)->St->Hp->(List (V×V)->Hp->Prop)->Prop
 |[],_,H,Q=>Q [] H
 |(tk,tv)::r,σ,H,Q=>tk σ H λx H1=>tv σ H1 λy H2=>zhi r σ H2 λps H3=>Q ((x,y)::ps) H3
structure M1(X:Cx)(o:aB)(m:Str)(sk:Pos)(e:aB)(sC:Pos):Prop where
 base:attributeBase o m X.env (eval o X.env)=eval o X.env
 few:((backTo sC (Be [e] X.env)).all (λx=>!x.1)&&(backToKw sC (keywordEach [] X.env)).all (λx=>x.1.isSome)
  && decide (([e]:List aB).length+([]:List Keyword).length+(if ([]:List Keyword).isEmpty then 0 else 1)<30))=D
 line:(sk.endLine==sC.line)=D
 trees:backTo sC (Be [e] X.env)=[(aq,eval e X.env)]
structure M2(X:Cx)(o:aB)(m:Str)(sk:Pos)(e f:aB)(sC:Pos):Prop where
 base:attributeBase o m X.env (eval o X.env)=eval o X.env
 few:((backTo sC (Be [e,f] X.env)).all (λx=>!x.1)&&(backToKw sC (keywordEach [] X.env)).all (λx=>x.1.isSome)
  && decide (([e,f]:List aB).length+([]:List Keyword).length+(if ([]:List Keyword).isEmpty then 0 else 1)<30))=D
 line:(sk.endLine==sC.line)=D
 trees:backTo sC (Be [e,f] X.env)=[(aq,eval e X.env),(aq,eval f X.env)]
def IsD(H:Hp)(a:L):Prop:=(∃ah,Rd H a (.dK ah))\/∃ah,Rd H a (.dT ah)
theorem XL{aa:List (L×Obj)}{σ:St}{H:Hp}{s:am}{a:L}(I:aO X aa σ H s)(d:IsD H a) :
  s.TypeIs (.ref a) "dict"/\(∀b,bI a=.ref b->∃ob,s.heap.get? b=U ob/\ob.dict=ao)/\(a==sysModules)=aq:=by
 rcases d with ⟨ah,e⟩|⟨ah,e⟩
 ·obtain⟨_,hd,vs,_,dd⟩:=WZ I.hok e;refine⟨dd.typeIs,λb q=>?_,hd⟩;cases q;obtain⟨ob,_,_,h1,h2,_⟩:=dd;exact⟨ob,h1,h2.2.1⟩
 ·obtain⟨_,hd,xs,_,dd⟩:=W0 I.hok e;refine⟨dd.typeIs,λb q=>?_,hd⟩;cases q;obtain⟨ob,_,_,h1,h2,_⟩:=dd;exact⟨ob,h1,h2.2.1⟩
section
variable {X:Cx}{aa:List (L×Obj)}{σ:St}{H:Hp}{s:am}{a:L}{y d:V}{u r:af}{o:Option V}{A:ay}{E:af->am->Prop}
theorem zhj{Q:af->am->Prop}(hu:A.units+1<cLine)(I:aO X aa σ H s)(g:sL H a y o)(ry:aU y u)(rd:aU d r)(h:∀w' s',aO X aa σ H s'->aU (o.getD d) w'->Q w' s') :
  Bf (Bg X.prog X.w) A (call (.builtin "dict.get") [.ref a,u,r]) Q E s:=by
 rcases g with ⟨ah,k,e,ey,l⟩|⟨ah,k,b,e,ey,eb,l⟩
 ·subst ey;obtain⟨z,hd,vs,rel,dd⟩:=WZ I.hok e;refine iO iP dd.typeIs nI (mY _ _ _) (meets_dict_get_default (yB X.prog X.w) a (We ry) hd r) ⟨_,dd.mapOf,h _ _ (I.tok _) ?_⟩;rw[l];exact(rel.val k).getD rd
 ·subst ey;cases (show u=bI b from ry);obtain⟨z,hd,xs,rel,dd⟩:=W0 I.hok e;refine iO iP dd.typeIs nI (mY _ _ _) (meetsH_dict_get_default (tupleKind (yB X.prog X.w)) a b hd r) ⟨dF hu,k,xs,kQ I.hok eb,dd,h _ _ (I.tok _) ?_⟩;rw[l];exact(rel.val k).getD rd
end
def qO(td ty tx:TE):TE:=λσ H Q=>td σ H λx H1=>∃a,x=.ref a/\IsD H1 a/\ty σ H1 λy H2=>tx σ H2 λz H3=>∃o,sL H3 a y o/\Q (o.getD z) H3
def Kz(td ty:TE):TE:=λσ H Q=>td σ H λx H1=>∃a,x=.ref a/\IsD H1 a/\ty σ H1 λy H2=>∃ah k v,H2 a=U (.dK ah)/\y=kV k/\yc ah k=U v/\Q v (upd H2 a (.dK (yo ah k)))
def zbn(td ty tx:TE):TE:=λσ H Q=>td σ H λx H1=>∃a,x=.ref a/\IsD H1 a/\ty σ H1 λy H2=>tx σ H2 λz H3=>∃ah k,H3 a=U (.dK ah)/\y=kV k /\
 (∀v,yc ah k=U v->Q v (upd H3 a (.dK (yo ah k))))/\(yc ah k=ao->Q z H3)
section
variable {X:Cx}{o e f:aB}{sk sC:Pos}{td ty tx:TE}
theorem j9(hu:X.A.units+1<cLine)(ho:PE X o td)(he:PE X e ty)(hf:PE X f tx)(m:M2 X o "get" sk e f sC):PE X (.Call (.Attribute o "get" sk) [e,f] [] sC) (qO td ty tx):=by
 intro aa s σ H Q I h;refine gp m.base m.few m.line dG iP PySem.F.type_dict_get (dl (ho aa s σ H _ I h) ?_);rintro u s1 ⟨x,H1,I1,rx,a,ex,d,q1⟩;subst ex;obtain rfl:u=bI a:=rx;obtain⟨t1,t2,_⟩:=XL I1 d;refine⟨t1,t2,?_⟩;rw[m.trees];refine cX Y (dI (cO (dl (he aa s1 σ H1 _ I1 q1) λiv s2 ⟨y,H2,I2,ry,q2⟩ =>
  cO (dl (hf aa s2 σ H2 _ I2 q2) λfv s3 ⟨z,H3,I3,rz,ov,g,q3⟩=>eK ?_))))
 exact zhj hu I3 g ry rz λw' s4 I4 rw'=>⟨_,H3,I4,rw',q3⟩
theorem W2(ho:PE X o td)(he:PE X e ty)(m:M1 X o "pop" sk e sC):PE X (.Call (.Attribute o "pop" sk) [e] [] sC) (Kz td ty):=by
 intro aa s σ H Q I h;refine gp m.base m.few m.line dG dY iQ (dl (ho aa s σ H _ I h) ?_);rintro u s1 ⟨x,H1,I1,rx,a,ex,d,q1⟩;subst ex;obtain rfl:u=bI a:=rx;obtain⟨t1,t2,_⟩:=XL I1 d;refine⟨t1,t2,?_⟩;rw[m.trees];refine cX Y (dI (cO (dl (he aa s1 σ H1 _ I1 q1) λiv s2 ⟨y,H2,I2,ry,ah,k,v,ea,ey,l,q2⟩=>eK ?_)));subst ey;exact zgO I2 ea ry l (.inl Y) λw' s3 I3 rw'=>⟨v,_,I3,rw',q2⟩
theorem QP(ho:PE X o td)(he:PE X e ty)(hf:PE X f tx)(m:M2 X o "pop" sk e f sC):PE X (.Call (.Attribute o "pop" sk) [e,f] [] sC) (zbn td ty tx):=by
 intro aa s σ H Q I h;refine gp m.base m.few m.line dG dY iQ (dl (ho aa s σ H _ I h) ?_);rintro u s1 ⟨x,H1,I1,rx,a,ex,d,q1⟩;subst ex;obtain rfl:u=bI a:=rx;obtain⟨t1,t2,_⟩:=XL I1 d;refine⟨t1,t2,?_⟩;rw[m.trees];refine cX Y (dI (cO (dl (he aa s1 σ H1 _ I1 q1) λiv s2 ⟨y,H2,I2,ry,q2⟩ =>
  cO (dl (hf aa s2 σ H2 _ I2 q2) λfv s3 ⟨z,H3,I3,rz,ah,k,ea,ey,q3,q4⟩=>eK ?_))))
 subst ey;cases l:yc ah k with
 |some v=>exact zgO I3 ea ry l (.inr ⟨fv,Y⟩) λw' s4 I4 rw'=>⟨v,_,I4,rw',q3 v l⟩
 |none=>exact zhh I3 ea ry l λs4 I4=>⟨z,H3,I4,rz,q4 l⟩
end
end L2
namespace Att
open PySem PySem.W PySem.Calls PyProof.Rows
theorem Wy :∀(ns:List Int) (vs:List af),WellAll P h vs (ns.map WData.int)->IntsAre vs ns:=by
 intro ns;induction ns with
 |nil =>
  intro vs w;rw[nV] at w;cases w;exact .nil
 |cons n ns ih =>
  intro vs w;rw[bw] at w;cases w with
  |cons a b =>
   cases a;exact .cons _ _ (ih _ b)
theorem JJ{l:OpenLaw}{n:Nat}(hn:l.most=U n){P:Params}{args:List WData}{vals:List af}
  (hpre:l.row.toRowW.claim.pre args=D) (hwl:WellAll P h vals args) :
  ∃a vs ns,vals=[bI a]/\args=[WData.list (ns.map WData.int)]/\h.get? a=U { cls:=.type "list",data:=.seq vs.toArray }/\IntsAre vs ns/\ns.length<=n:=by
 have hsh:WShape.hasAll [] args [.list .int]=D:=(pre_splitW hpre).1;have hc:l.pre.holds [] { args:=args }=D:=(pre_splitW hpre).2;obtain⟨d,r,rfl,h1,h2⟩:=hasAllW_cons hsh;obtain rfl:=hasAllW_nil h2;obtain⟨xs,rfl,h3⟩:=hasW_list h1;obtain⟨ns,rfl⟩:=items_int h3;have hlen:ns.length<=n:=by
  unfold OpenLaw.pre at hc;have h4:(WTm.not (.lt (.lit (.int (n:Int))) (.len (.arg 0)))).holds [] { args:=[.list (ns.map .int)] }=D:=by
   have h4:=(holds_andW hc).1;rw[hn] at h4;exact h4
  have h5:=condW_of h4 (w_not (w_lt w_lit (w_len_list (w_arg Y))));rw[bf] at h5;refine Nat.le_of_not_lt λq=>?_;have q':(n:Int)<((ns.length:Nat):Int):=by lia
  first
   |(rw[Bj q'] at h5;exact absurd h5 ())
   |(simp at h5;lia)
 cases hwl with
 |cons w1 w2 =>
  cases w2;cases w1 with
  |list ho hall=>exact⟨_,_,ns,Y,Y,ho,Wy ns _ hall,hlen⟩
theorem JK(l:OpenLaw)(args:List WData):l.row.toRowW.claim.post args (.bool D) args=D :=
 postW_of (r:=l.row.toRowW) (X:=(D==D))
  (show WShape.has [] (.bool D) .bool=D by first|rfl|decide|simp[WShape.has,WShape.arms,WShape.armsAll])
  (show (WTm.eq .res (.lit (.bool D))).value [] { args:=args,res:=U (.bool D),after:=args }=U (.bool (D==D)) from w_eq_bool (w_res Y) w_lit) rfl
theorem attach_call{l:OpenLaw}{n:Nat}{loose:List Str}{XP:(Str->Option af)->aw->Prop}{YP:ax->aw->Prop}{d:DefRec}
  (hn:l.most=U n) (hdf:d.params.defaults=[])
  (call:∀(w:ax) (s₀ s₁:am) (mg mb:Str->Option af) (fa:L) (o:Obj) (pm cd doc:af) (a:L) (vs:List af) (ns:List Int),
   Ground q loose [] XP w s₀ mg mb s₁.heap->YP w s₁.heap ->
   s₁.heap.get? fa=U o->o.data=.func (docDef d.name d.params d.body d.scope pm cd doc)->s₁.heap.CodeRec cd d.name->mg d.name=U (.ref fa) ->
   s₁.heap.get? a=U { cls:=.type "list",data:=.seq vs.toArray }->IntsAre vs ns->ns.length<=n->s₁.gens=#[] ->
   codeAny (Bg l.prog w) callerA (.call (.ref fa) ⟨[.ref a],[]⟩) (λr s'=>r=.ok (.ret (.bool D))/\OldK s₁.heap s'.heap/\s'.os=s₁.os/\AllBare s'.gens) s₁) :
  WalkO q loose XP YP l.row.toRowW d [] (λf vs=>mF f vs):=by
 intro w s₀ s₁ mg mb G Bl fa o pm cd doc dV kV ho hd hcd hD hmg hg args vals as hpre hlay hrd hwl hlo;obtain rfl:dV=.none:=Dflts.none hD hdf;obtain rfl:kV=.none:=Dflts.noKw hD;obtain⟨a,vs,ns,rfl,rfl,hobj,hints,hlen⟩:=JJ hn hpre hwl;refine enter_call (fU (call w s₀ s₁ mg mb fa o pm cd doc a vs ns G Bl ho (fd_plain hd) hcd hmg hobj hints hlen hg) λr s' hq=>?_);obtain⟨rfl,h2,h3,h4⟩:=hq;exact⟨.inl ⟨.bool D,.bool D,[],Y,λ_=>rfl,.bool D,JK l _,λ_=>⟨fm,λ_ hm=>(nomatch hm)⟩⟩,h2,h3,h4⟩
section
variable {prog:av}{w:ax}{A:ay}{E:af->am->Prop}{s:am}{K:Frag}
def ziz(h:aw)(Bp d:L):List (L×Obj):=(dt h.objs.size).filterMap λa=>if a=Bp\/a=d then ao else (h.get? a).map λo=>(a,o)
end
end Att
namespace L2
open PySem PySem.Spec PyProof.Rows
theorem JL:∀ {vs:List af} {ns:List Int},IntsAre vs ns->aR (ns.map V.int) vs
 |_,_,.nil=>.nil
 |_,_,.cons n t h=>.cons ⟨t,Y⟩ (JL h)
def zbo(H:Hp):Prop:=∀b,H b=ao\/∃o xs,H b=U (.frz o (.lst xs))
theorem QQ{P:av}{w:ax}{K:bu}{mg mb:Str->Option af}{CX:CXT}{k:Nat}{fa a:L}{fd:Bc}{x:Str}{sp:Sp}{s₁:am}{vs:List af}{ns:List Int}
  (KX:K.In s₁.heap) (hns:s₁.heap.Ns Bd mg) (hb:s₁.heap.Ns builtinsNs mb) (hbb:∀x:Str,x≠"__name__"->mb x=Bh x) (hlim:s₁.heap.NoLimit) (hg:s₁.gens=#[])
  (ha:s₁.heap.get? a=U { cls:=.type "list",data:=.seq vs.toArray }) (hi:IntsAre vs ns) (hl:ns.length<=Bb) (hr:sy k callerA)
  (F:∀base:aw,K.In base->base.Ns Bd mg->sq P w K mg base CX k fa fd [x] sp) (hbind:∀(s:am) (u:af),BindsTo s fd ⟨[u],[]⟩ [(x,u)])
  (hsp:∀H:Hp,zbo H->aT K H a (ns.map V.int)->sp [.ref a] H (λv _=>v=.bl D) λ_ _ _=>False)
  (hCX:∀H e s',CX [] H s₁ (λ_ _ _=>False) e s'->False) :
  codeAny (Bg P w) callerA (.call (.ref fa) ⟨[.ref a],[]⟩) (λr s'=>r=.ok (.ret (.bool D))/\OldK s₁.heap s'.heap/\s'.os=s₁.os/\AllBare s'.gens) s₁:=by
 have rv:=JL hi;have lenV:=hi.length
 -- from an abstract heap in which nothing but the script may be tracked
 have core:∀H:Hp,zbo H->aT K H a (ns.map V.int)->tF P w H s₁.heap->(∀b,H b≠ao->b=a)->(H a≠ao->K.lookup a=ao) ->
   codeAny (Bg P w) callerA (.call (.ref fa) ⟨[.ref a],[]⟩) (λr s'=>r=.ok (.ret (.bool D))/\OldK s₁.heap s'.heap/\s'.os=s₁.os/\AllBare s'.gens) s₁:=by
  intro H hO hS hok hA hK;have base_of:∀ {b:L} {o:Obj},s₁.heap.get? b=U o->H b=ao->(Kj s₁.heap H).get? b=U o:=λe n=>zdA e n;have noA:∀ {b:L} {o:Obj} {es:Array DictEntry} {ep:Nat},s₁.heap.get? b=U o->o.data=.dict es ep->H b=ao:=λ{b o es ep} e d=>by
   cases q:H b with
   |none=>rfl
   |some u =>
    have e':b=a:=hA b (by rw[q];simp);subst e';rw[ha] at e;cases e;have d':Data.seq vs.toArray _=Data.dict es ep:=d;cases d'
  have nsK:∀ {b:L} {m:Str->Option af},s₁.heap.Ns b m->(Kj s₁.heap H).Ns b m:=λ{b m} ⟨o,es,ep,e,d,r⟩=>⟨o,es,ep,base_of e (noA e d),d,r⟩;have hKb:K.In (Kj s₁.heap H):=λb o e=>base_of (KX b o e) (by
   cases q:H b with
   |none=>rfl
   |some u =>
    have e':b=a:=hA b (by rw[q];simp);subst e';rw[hK (by rw[q];simp)] at e;cases e)
  have hM:Mod K mg (Kj s₁.heap H):=⟨hKb,nsK hns,⟨mb,nsK hb,hbb⟩,let ⟨mc,h1,h2⟩:=hlim;⟨mc,nsK h1,h2⟩⟩;have e0:Env0 P w K mg (Kj s₁.heap H) callerA [] s₁ H:=⟨Y,hM,λb o e=>zfz e,nR (zcN _ _),trivial,λb hb=>absurd (show b∈([]:List L) from hb) (by simp),hok,.of_eq hg⟩;refine fU ((F _ hKb (nsK hns)).run callerA [] s₁ H ⟨[.ref a],[]⟩ [.ref a] [.ref a] _ _ hr e0 (hbind s₁ (.ref a)) (.cons Y .nil) (hsp H hO hS)) λr s' h=>?_;cases r with
  |error e=>exact(hCX H e s' h).elim
  |ok fl =>
   cases fl with
   |next=>exact cS h
   |brk=>exact cS h
   |cont=>exact cS h
   |ret u =>
    obtain⟨v,H',os,bare,un,hok',r',q⟩:=h;have q':v=.bl D:=q;subst q';obtain rfl:u=iy D:=r';refine⟨Y,OldK.of_keep λb o e=>?_,os,bare⟩;cases q:H b with
    |none=>exact un.keep b o e q (by intro z;exact absurd (show b∈([]:List L) from z) (by simp)) (by simp)
    |some u =>
     rcases hO b with z|⟨ob,xs,z⟩
     ·rw[q] at z;cases z
     ·have z2:=un.frzs b ob _ z;obtain⟨e1,_⟩:=hok b _ z;obtain⟨e2,_⟩:=hok' b _ z2;rw[e] at e1;cases e1;exact e2
 cases hk:K.lookup a with
 |some o =>
  -- the script is one of the module's own objects
  have e:=KX a o hk;rw[ha] at e;cases e;refine core (λ_=>ao) (λ_=>.inl Y) (.inr ⟨_,vs.toArray,_,hk,Y,Y,Y,by rw[bH,lenV];exact hl,by simpa using rv⟩) (λb u z=>by have z':(ao:Option HO)=U u:=z;cases z') (λb z=>absurd rfl z) λz=>absurd rfl z
 |none =>
  refine core (λb=>if b=a then U (.frz { cls:=.type "list",data:=.seq vs.toArray } (.lst (ns.map V.int))) else ao) (λb=>?_) (.inl (.inr ⟨{ cls:=.type "list",data:=.seq vs.toArray },au Y⟩)) (λb u z=>?_) (λb z=>?_) λ_=>hk
  ·by_cases hb:b=a
   ·exact .inr ⟨_,_,au hb⟩
   ·exact .inl (ap hb)
  ·by_cases hb:b=a
   ·have z':=(au hb).symm.trans z;cases z';subst hb;exact⟨ha,by rw[bf];exact hl,vs,_,rv,ha⟩
   ·have z':=(ap hb).symm.trans z;cases z'
  ·by_cases hb:b=a
   ·exact hb
   ·exact absurd (ap hb) z
abbrev KOf{K:bu}{h:aw}(_:K.In h):bu:=K
theorem zb8{l:oZ}{n k:Nat}{q:av}{loose:List Str}{XP:(Str->Option af)->aw->Prop}{YP:ax->aw->Prop}{d:DefRec}{K:Params->bu}{CX:ax->CXT}{sp:ax->Sp}{x:Str}
  (hn:l.most=U n) (hn2:n<=Bb) (hdf:d.params.defaults=[]) (hr:sy k callerA)
  (hY:∀(w:ax) (h:aw),YP w h->(K w.params).In h)
  (F:∀(w:ax) (mg:Str->Option af) (fa:L) (h:aw),(K w.params).In h->h.Ns Bd mg->mg d.name=U (.ref fa) ->
   ∃fd:Bc,(∀(s:am) (u:af),BindsTo s fd ⟨[u],[]⟩ [(x,u)]) /\
    ∀base:aw,(K w.params).In base->base.Ns Bd mg->sq l.prog w (K w.params) mg base (CX w) k fa fd [x] (sp w))
  (hsp:∀(w:ax) (H:Hp) (a:L) (ns:List Int),ns.length<=n->zbo H->aT (K w.params) H a (ns.map V.int)->sp w [.ref a] H (λv _=>v=.bl D) λ_ _ _=>False)
  (hCX:∀(w:ax) (H:Hp) (s:am) (e:af) (s':am),CX w [] H s (λ_ _ _=>False) e s'->False) :
  se q loose XP YP l.row.toRowW d [] (λf vs=>mF f vs):=by
 refine Att.attach_call hn hdf λw s₀ s₁ mg mb fa o pm cd doc a vs ns G Bl ho hd hcd hmg hobj hints hlen hg=>?_;have KX:=hY w _ Bl;obtain⟨fd,hb,hF⟩:=F w mg fa _ KX G.T.g hmg;exact QQ KX G.T.g G.T.b G.T.builtins G.T.nolimit hg hobj hints (bN hlen hn2) hr hF hb (λH hO hS=>hsp w H a ns hlen hO hS) λH e s'=>hCX w H s₁ e s'
theorem zh9{l:oZ}{n k:Nat}{q:av}{loose:List Str}{XP:(Str->Option af)->aw->Prop}{YP:ax->aw->Prop}{d:DefRec}{K:Params->bu}{CX:CXT}{sp:bu->Sp}{x:Str}
  (hn:l.most=U n) (hn2:n<=Bb) (hdf:d.params.defaults=[]) (hr:sy k callerA)
  (hY:∀(w:ax) (h:aw),YP w h->(K w.params).In h)
  (F:∀(w:ax) (mg:Str->Option af) (fa:L) (h:aw),(K w.params).In h->h.Ns Bd mg->mg d.name=U (.ref fa) ->
   ∃fd:Bc,(∀(s:am) (u:af),BindsTo s fd ⟨[u],[]⟩ [(x,u)]) /\
    ∀base:aw,(K w.params).In base->base.Ns Bd mg->sq l.prog w (K w.params) mg base CX k fa fd [x] (sp (K w.params)))
  (hsp:∀(K:bu) (H:Hp) (a:L) (ns:List Int),ns.length<=n->zbo H->aT K H a (ns.map V.int)->sp K [.ref a] H (λv _=>v=.bl D) λ_ _ _=>False)
  (hCX:∀(H:Hp) (s:am) (e:af) (s':am),CX [] H s (λ_ _ _=>False) e s'->False) :
  se q loose XP YP l.row.toRowW d [] (λf vs=>mF f vs) :=
 zb8 (K:=K) (CX:=λ_=>CX) (sp:=λw=>sp (K w.params)) hn hn2 hdf hr hY F (λw H a ns h1 h2 h3=>hsp (K w.params) H a ns h1 h2 h3) λ_ H s e s'=>hCX H s e s'
def zZ(s:aA)(j:Nat):aA:=match s with
 |.ClassDef _ _ _ body _ _ _ _ _ _ _=>body.getD j (.Pass ⟨0,0,0,0⟩)
 |_=>.Pass ⟨0,0,0,0⟩
def xa(s:aA):Arguments:=match s with
 |.FunctionDef _ a _ _ _ _ _ _ _ _=>a
 |_=>{ posonlyargs:=[],args:=[],vararg:=ao,kwonlyargs:=[],kw_defaults:=[],kwarg:=ao,defaults:=[] }
def yC(s:aA):List aA:=match s with
 |.FunctionDef _ _ b _ _ _ _ _ _ _=>b
 |_=>[]
def zi(s:aA):aC:=match s with
 |.FunctionDef _ _ _ _ _ _ sc _ _ _=>sc
 |_=>{ kind:=.function,names:=[],isGenerator:=aq,isCoroutine:=aq }
abbrev E0:XK:=λ_ _ _=>False
structure Fun(K:bu)(x qual:Str)(st:aA)(f:L)(fd:Bc):Prop where
 ex:∃(oc:af) (od:Option L) (kV doc pm:af) (an:Option L) (cdv ct:af) (osl:Array (Option af)),
  fd=iN x qual (xa st) (yC st) (zi st) .none kV doc pm an cdv ct/\K.lookup f=U ⟨oc,od,.func fd,osl⟩/\gU K cdv qual=D
 kp:dQ K (.ref f)=D
section
variable {P:av}{w:ax}{K:bu}{mg:Str->Option af}{base:aw}
theorem Fun.binds{st:aA}{f:L}{fd:Bc}{ps:List Str}(F:Fun K x qual st f fd)
  (h:∀(kV doc pm:af) (an:Option L) (cdv ct:af) (us:List af),us.length=ps.length->bindArgs (iN x qual (xa st) (yC st) (zi st) .none kV doc pm an cdv ct) ⟨us,[]⟩=pure (ps.zip us)):sD K fd ps []:=by
 obtain⟨oc,od,kV,doc,pm,an,cdv,ct,osl,rfl,lk,hcd⟩:=F.ex;exact .all (h kV doc pm an cdv ct)
theorem W3{st:aA}{f:L}{oc:af}{od an:Option L}{osl:Array (Option af)}{kV doc pm cdv ct:af}(l:K.lookup f=U ⟨oc,od,.func (iN x qual (xa st) (yC st) (zi st) .none kV doc pm an cdv ct),osl⟩)
  (c:gU K cdv qual=D) (k:dQ K (.ref f)=D):Fun K x qual st f (iN x qual (xa st) (yC st) (zi st) .none kV doc pm an cdv ct):=⟨⟨oc,od,kV,doc,pm,an,cdv,ct,osl,Y,l,c⟩,k⟩
end
theorem yE(hr:sy k A):A.units+1<cLine:=bV (oM (by lia:1<=64) _) hr.units
section
variable {X:Cx}
theorem B(i:Nat){pos:Pos}(hN:X.N[i]?=U x:=by rfl)(hv:Vis X.env.scope x:=by first|exact l8 rfl|exact ph (l8 Y)|exact ph (ph Y))(hd:(x==("__debug__":Str))=aq:=by lia)
  (hcd:(x==("__classdict__":Str))=aq:=by lia):PE X (.Name x pos) (Z i):=zg9 hN hv hd hcd
end
theorem YV{c A Bo:Prop} [Decidable c](h1:c->A)(h2:¬ c->Bo):if c then A else Bo:=by
 by_cases h:c
 ·rw[au h];exact h1 h
 ·rw[ap h];exact h2 h
def aK(H H':Hp):Prop:=∀b o,H b=U o->H' b=U o
theorem aK.refl(H:Hp):aK H H:=λ_ _ h=>h
theorem aK.trans{H H1 H2:Hp}(a:aK H H1)(b:aK H1 H2):aK H H2:=λc o h=>b c o (a c o h)
section
variable {κ:Type} [DecidableEq κ]
theorem QR{ah:List (κ×V)}{k:κ}(h:yc ah k=ao):¬ k∈ah.map (·.1):=by
 intro m;obtain⟨p,hp,e⟩:=bC.mp m;have q:(ah.any λkv=>decide (kv.1=k))=D:=gK.mpr ⟨p,hp,Bj e⟩;rw[w6,h] at q;exact absurd q (by simp)
theorem zb9{ah:List (κ×V)}{k:κ}{v:V}(h:yc ah k=U v):k∈ah.map (·.1):=by
 have q:(ah.any λkv=>decide (kv.1=k))=D:=by
  rw[w6,h]
  all_goals rfl
 obtain⟨p,hp,e⟩:=gK.mp q;exact bC.mpr ⟨p,hp,of_decide_eq_true e⟩
theorem zca:∀ {l:List κ} {k:κ},l.Nodup->¬ k∈l->(l++[k]).Nodup
 |[],k,_,_=>by simp
 |a::r,k,h,hk=>by
  obtain⟨h1,h2⟩:=bZ.mp h;show (a::(r++[k])).Nodup;refine bZ.mpr ⟨λm=>?_,zca h2 λm=>hk (bD.mpr (ph m))⟩;rcases bB.mp m with q|q
  ·exact h1 q
  ·exact hk (bD.mpr (l8 (br.mp q).symm))
theorem zfM{ah:List (κ×V)}{k:κ}(v:V)(hn:(ah.map (·.1)).Nodup)(h:yc ah k=ao):((yq ah k v).map (·.1)).Nodup:=by
 rw[va v h,bQ];exact zca hn (QR h)
theorem JM{p:κ×V}{r:List (κ×V)}(e:p.1=k):yo (p::r) k=yo r k:=by
 unfold yo;rw[df,ap (by simp[e])]
theorem XM{p:κ×V}{r:List (κ×V)}(e:¬ p.1=k):yo (p::r) k=p::yo r k:=by
 unfold yo;rw[df,au (by simp[e])]
theorem zdP:∀ {ah:List (κ×V)} {k:κ},¬ k∈ah.map (·.1)->yo ah k=ah
 |[],_,_=>rfl
 |p::r,k,h=>by
  have h':¬ k∈r.map (·.1):=λm=>by
   obtain⟨q,hq,e⟩:=bC.mp m;exact h (bC.mpr ⟨q,bD.mpr (ph hq),e⟩)
  rw[XM λe=>h (bC.mpr ⟨p,bD.mpr (l8 Y),e⟩),zdP h']
theorem zcZ{ah:List (κ×V)}{p:κ×V}(h:p∈yo ah k):p∈ah:=(cr.mp h).1
end
end L2
set_option Elab.async false
set_option linter.all false
set_option maxRecDepth 100000
set_option maxHeartbeats 4000000
namespace L2
open PySem PySem.Spec PyProof.Rows
def Cx.comp(X:Cx)(scope:aC)(cl:List (Str×L))(C:L)(N:List Str)(fp:List L)(s:am)(H:Hp):Cx :=
 { X with env:=compEnvC scope cl C X.env,N:=N,s₀:=s,H₀:=H,outer:=X.stack,ex:=fp,fn:=λ_=>aq,pn:=[],xe:=λ_ _=>False }
structure ZM(X:Cx)(scope:aC)(cl:List (Str×L))(ix:List Nat):Prop where
 clos:closureFor scope X.env=pure cl
 nocell:∀y∈scope.names,y.2≠.cell
 kind:scope.kind=.function
 names:∀y∈scope.names,y.2=.local->scope.names.lookup y.1=U .local
 sub:∀y c,cl.lookup y=U c->X.env.cells.lookup y=U c
 has:∀y,((relabel scope X.env).names.lookup y=U .cell\/(relabel scope X.env).names.lookup y=U .free)->∃c,cl.lookup y=U c
 cap:∀i∈ix,∃y,X.N[i]?=U y/\(X.env.kindOf y=U .cell\/X.env.kindOf y=U .free)/\((relabel scope X.env).names.lookup y=U .cell\/(relabel scope X.env).names.lookup y=U .free)
def qP(scope:aC)(env:Env):List (Str×L):=scope.names.foldl (λcs y=>if y.2==.free then (y.1,(env.cells.lookup y.1).getD 0)::cs else cs) []
def zcb(osc:aC)(N:List Str)(sc:aC)(ix:List Nat):Bool :=
 sc.kind==.function&&sc.names.all (λy=>y.2 != .cell&&(y.2 != .local || sc.names.lookup y.1==U .local)&&(y.2 != .free || osc.names.lookup y.1==U .cell || osc.names.lookup y.1==U .free)) &&
  ix.all λi=>match N[i]? with
   |some y=>sc.names.lookup y==U .free
   |none=>aq
theorem vb{l:List (Str×NameKind)}{y:Str}(h:l.lookup y=U k):(y,k)∈l:=eM h
theorem kR{env:Env}:∀ {names:List (Str×NameKind)} {x:Str} {k:NameKind},(names.map λ(n,k)=>if (k==cY&&env.scope.kind==.function&&env.kindOf n==U .cell) then (n,mZ) else (n,k)).lookup x=U k ->
  ∃k',names.lookup x=U k'/\(k'=.free\/k'=k)
 |[],_,_,h=>by simp at h
 |(n,k')::r,x,k,h=>by
  have ih:=@kR env r x k;rw[bw] at h;cases hx:x==n with
  |true =>
   by_cases hc:(k'==cY&&env.scope.kind==.function&&env.kindOf n==U .cell)=D
   ·have e:k'=.free:=by
     have:=(bW _ _ ▸ (bW _ _ ▸ hc).1).1;simpa using this
    exact⟨k',by simp[b8,hx],.inl e⟩
   ·simp only[ap hc,b8,hx] at h;exact⟨k',by simp[b8,hx],.inr (bJ h)⟩
  |false =>
   have h':(r.map λ(n,k)=>if (k==cY&&env.scope.kind==.function&&env.kindOf n==U .cell) then (n,mZ) else (n,k)).lookup x=U k:=by
    by_cases hc:(k'==cY&&env.scope.kind==.function&&env.kindOf n==U .cell)=D
    ·simp only[au hc,b8,hx] at h;exact h
    ·simp only[ap hc,b8,hx] at h;exact h
   obtain⟨q,e,r'⟩:=ih h';exact⟨q,by simp only[b8,hx];exact e,r'⟩
theorem YW{env:Env}:∀ {names:List (Str×NameKind)} {x:Str},names.lookup x=U .free ->
  ((names.map λ(n,k)=>if (k==cY&&env.scope.kind==.function&&env.kindOf n==U .cell) then (n,mZ) else (n,k)).lookup x=U .cell \/
   (names.map λ(n,k)=>if (k==cY&&env.scope.kind==.function&&env.kindOf n==U .cell) then (n,mZ) else (n,k)).lookup x=U .free)
 |[],_,h=>by simp at h
 |(n,k')::r,x,h=>by
  have ih:=@YW env r x;rw[bw];cases hx:x==n with
  |true =>
   simp only[b8,hx] at h;cases h;by_cases hc:(cY==cY&&env.scope.kind==.function&&env.kindOf n==U .cell)=D
   ·left;simp only[au hc,b8,hx]
   ·right;simp only[ap hc,b8,hx]
  |false =>
   simp only[b8,hx] at h;by_cases hc:(k'==cY&&env.scope.kind==.function&&env.kindOf n==U .cell)=D
   ·simp only[au hc,b8,hx];exact ih h
   ·simp only[ap hc,b8,hx];exact ih h
theorem JN{env:Env}:∀(l:List (Str×NameKind)) (cs:List (Str×L)),(∀y∈l,y.2=.free->∃c,env.cells.lookup y.1=U c) ->
  (∀y c,cs.lookup y=U c->env.cells.lookup y=U c)->∀y c,(l.foldl (λcs y=>if y.2==.free then (y.1,(env.cells.lookup y.1).getD 0)::cs else cs) cs).lookup y=U c->env.cells.lookup y=U c
 |[],_,_,h,y,c,e=>h y c e
 |z::r,cs,hl,h,y,c,e=>by
  rw[eN] at e;refine JN r _ (λy hy=>hl y (bh _ hy)) (λy' c' e'=>?_) y c e;by_cases hz:z.2=.free
  ·obtain⟨c0,h0⟩:=hl z bo hz;have hb:(z.2==cY)=D:=by simpa using hz
   rw[au hb,h0,b8] at e';cases hq:y'==z.1 with
   |true =>
    rw[hq] at e';have e2:y'=z.1:=by simpa using hq
    cases e';rw[e2];exact h0
   |false=>rw[hq] at e';exact h _ _ e'
  ·have hb:(z.2==cY)=aq:=by simpa using hz
   rw[hb] at e';exact h _ _ e'
theorem QS{env:Env}:∀(l:List (Str×NameKind)) (cs:List (Str×L)) (y:Str),((∃c,cs.lookup y=U c)\/(y,cY)∈l) ->
  ∃c,(l.foldl (λcs y=>if y.2==.free then (y.1,(env.cells.lookup y.1).getD 0)::cs else cs) cs).lookup y=U c
 |[],_,_,h=>h.elim id λz=>nomatch z
 |z::r,cs,y,h=>by
  rw[eN];refine QS r _ y ?_;rcases h with ⟨c,h⟩|h
  ·left
   by_cases hz:(z.2==cY)=D
   ·rw[au hz,b8];cases y==z.1 with
    |true=>exact⟨_,Y⟩
    |false=>exact⟨c,h⟩
   ·rw[ap hz];exact⟨c,h⟩
  ·rcases bD.mp h with h|h
   ·left
    subst h;rw[au (by rfl),b8];simp
   ·exact .inr h
theorem KA{env:Env}:∀(l:List (Str×NameKind)) (cs:List (Str×L)),(∀y∈l,y.2=.free->∃c,env.cells.lookup y.1=U c) ->
  forIn (m:=Sem) l cs (λx r=>match x with|(name,kind)=>if (kind==cY)=D then do let c <-cellOf env name;pure (fY ((name,c)::r)) else pure (fY r)) =
   pure (l.foldl (λcs y=>if y.2==.free then (y.1,(env.cells.lookup y.1).getD 0)::cs else cs) cs)
 |[],_,_=>rfl
 |(n,k)::r,cs,h=>by
  rw[nW,eN];by_cases hz:(k==cY)=D
  ·obtain⟨c,hc⟩:=h (n,k) bo (by simpa using hz);have e:cellOf env n=pure c:=by unfold cellOf;rw[hc]
   simp only[hz,if_true,e,pure_bind];rw[KA r _ λy hy=>h y (bh _ hy)];simp only[hc,Option.getD_some]
  ·simp only[hz,if_false,pure_bind];exact KA r _ λy hy=>h y (bh _ hy)
theorem YX(ok:X.Ok)(h:zcb osc N scope ix=D)(hs:X.env.scope=osc)(hN:X.N=N):ZM X scope (qP scope X.env) ix:=by
 subst hs hN;unfold zcb at h;rw[bW,bW,iZ,iZ] at h;obtain⟨⟨h1,h2⟩,h3⟩:=h;have p:∀y∈scope.names,y.2≠.cell/\(y.2=.local->scope.names.lookup y.1=U .local)/\(y.2=.free->X.env.kindOf y.1=U .cell\/X.env.kindOf y.1=U .free):=λy hy=>by
  have q:=h2 y hy;rw[bW,bW] at q;obtain⟨⟨q1,q2⟩,q3⟩:=q;refine⟨by simpa using q1,λe=>?_,λe=>?_⟩
  ·rw[e] at q2;simpa using q2
  ·rw[e] at q3;have q3':X.env.scope.names.lookup y.1=U .cell\/X.env.scope.names.lookup y.1=U .free:=by simpa using q3
   exact q3'
 have f:∀y∈scope.names,y.2=.free->∃c,X.env.cells.lookup y.1=U c:=λy hy e=>ok.has y.1 ((p y hy).2.2 e);refine⟨?_,λy hy=>(p y hy).1,by simpa using h1,λy hy=>(p y hy).2.1,λy c e=>JN scope.names [] f (λ_ _ z=>by simp at z) y c e,λy hy=>?_,λi hi=>?_⟩
 ·have e:=KA scope.names [] f;unfold closureFor qP;refine Eq.trans (congrArg (λm=>m >>= λs=>(pure s:Sem (List (Str×L)))) e) ?_;rw[pure_bind]
 ·refine QS scope.names [] y (.inr ?_);rcases hy with hy|hy
  ·obtain⟨k',e,z|z⟩:=kR hy
   ·subst z;exact vb e
   ·subst z;exact absurd Y (p _ (vb e)).1
  ·obtain⟨k',e,z|z⟩:=kR hy
   ·subst z;exact vb e
   ·subst z;exact vb e
 ·have q:=h3 i hi;cases hy:X.N[i]? with
  |none=>rw[hy] at q;cases q
  |some y =>
   rw[hy] at q;have q':scope.names.lookup y=U .free:=by simpa using q
   exact⟨y,Y,(p _ (vb q')).2.2 Y,YW q'⟩
def zbp(ix:List Nat)(σ:St):St:=ix.map λi=>(σ[i]?).getD ao
def kg(ix:List Nat)(N:List Str):List Str:=ix.map λi=>(N[i]?).getD ""
section
variable {X:Cx}{aa:List (L×Obj)}{σ:St}{H:Hp}{s:am}{scope:aC}{cl:List (Str×L)}{ix:List Nat}{fp:List L}{C:L}{xs:List Str}
theorem aO.compOk(I:aO X aa σ H s)(S:ZM X scope cl ix)(hC:C=s.heap.objs.size)(hf:∀b∈fp,qL X aa H b)(hl:∀b∈fp,b<s.heap.objs.size)(N':List Str) :
  (X.comp scope cl C N' fp s H).Ok where
 mod:=I.ok.mod
 kind:=S.kind
 glob:=I.ok.glob
 blt:=I.ok.blt
 above:=nR hC.symm
 inj:=λx y c h1 h2=>I.ok.inj x y c (S.sub x c h1) (S.sub y c h2)
 has:=λx hx=>S.has x hx
 cab:=λx c h1 _=>nomatch h1
 hd:=I.ok.hd
 frames:=I.ok.frames
 stk:=.inl rfl
 exf:=λb hb=>⟨λz=>absurd (hl b hb) (by rw[z];show ¬ C<_;rw[hC];exact fB _),λx c h=>(hf b hb).2.2.2.2.1 x c (S.sub x c h)⟩
 bs:=I.bs
 bsz:=bN I.ok.bsz I.sz
 noex:=λb o e hb=>by
  rcases(hf b hb).2.2.2.1 with z|z
  ·exact I.ok.noex b o e z
  ·exact absurd (b6 (bO e) (bN I.ok.bsz z)) (fB _)
 exfs:=λb hb z=>by
  rcases bD.mp (I.stkSub b z) with e|e
  ·exact(hf b hb).2.1 e
  ·exact(hf b hb).2.2.1 e
 funs:=I.stack
 frf:=I.stkFree
theorem aO.comp{h₁:aw}{m₁:Str->Option af}{t':Nat}(I:aO X aa σ H s)(S:ZM X scope cl ix)(hC:C=s.heap.objs.size)(hf:∀b∈fp,qL X aa H b)(hl:∀b∈fp,b<s.heap.objs.size)
  (hn:h₁.Ns C m₁) (hk:∀b o,s.heap.get? b=U o->h₁.get? b=U o) :
  aO (X.comp scope cl C (xs++kg ix X.N) fp s H) [] (iI xs.length ao++zbp ix σ) H { s with heap:=h₁,toks:=t' } where
 ok:=I.compOk S hC hf hl _
 os:=rfl
 bare:=I.bare
 base:=Un.kept hk
 loc:=by
  refine⟨m₁,hn,λi y v e1 e2 e3=>?_⟩;by_cases hi:i<xs.length
  ·rw[cT (by simpa using hi),mT,au hi] at e2;cases e2
  ·have e1':(xs++kg ix X.N)[i]?=U y:=e1;rw[eR ()] at e1';rw[eR (by rw[fV];lia),fV] at e2;generalize i-xs.length=j at e1' e2;unfold kg at e1';unfold zbp at e2;rw[bx] at e1' e2;cases hj:ix[j]? with
   |none=>rw[hj] at e1';cases e1'
   |some k =>
    rw[hj] at e1' e2;obtain⟨y',c1,c2,c3⟩:=S.cap k (bS hj);have ey:y'=y:=by
     have q:(X.N[k]?).getD ""=y:=bJ e1';rw[c1] at q;exact q
    subst ey;have ev:σ[k]?=U (U v):=by
     have q:(σ[k]?).getD ao=U v:=bJ e2;cases hs:σ[k]? with
     |none=>rw[hs] at q;cases q
     |some o=>rw[hs] at q;exact congrArg U q
    obtain⟨m,hm,hv⟩:=I.loc;obtain⟨u,r,l⟩:=hv k y' v c1 ev (c2.elim (λz=>.inr (.inl z)) λz=>.inr (.inr z));refine⟨u,r,.inr ⟨c3,?_⟩⟩;rcases l with ⟨l1,_⟩|⟨_,c,lc,⟨o,ho,hd⟩⟩
    ·rcases c2 with z|z <;> (rw[l1] at z;cases z)
    ·obtain⟨c',hc'⟩:=S.has y' c3;have e:=S.sub _ _ hc';rw[lc] at e;cases e;exact⟨c,hc',o,hk _ _ ho,hd⟩
 cell:=λx c e=>by
  obtain⟨v,o,ho,hd⟩:=I.cell x c (S.sub x c e);exact⟨v,o,hk _ _ ho,hd⟩
 free:=I.hok.fresh (nR hC.symm)
 freeC:=λx c e=>I.freeC x c (S.sub x c e)
 pin:=λp hp=>absurd (show p∈([]:List (L×Obj)) from hp) (by simp)
 hok:=I.hok.kept hk
 len:=by
  show (iI xs.length ao++zbp ix σ).length=(xs++kg ix X.N).length;rw[bF,bF,fV,zbp,kg,bf,bf]
theorem aO.uncomp{σ':St}{H':Hp}{N':List Str}{h':aw}(I:aO X aa σ H s)(hC:C=s.heap.objs.size)(hf:∀b∈fp,qL X aa H b)
  (J:aO (X.comp scope cl C N' fp s H) [] σ' H' s') (hb:cF C s'.heap h'):aO X aa σ H' { s' with heap:=h' }:=by
 have lt:∀b o,s.heap.get? b=U o->b≠C:=λb o e=>by
  rw[hC];exact bX (bO e)
 have Bo:Un (sX X.stack) fp H H' s.heap s'.heap:=J.base;refine I.call' (s':={ s' with heap:=h' }) (ch:=fp) J.os ?_ ?_ J.bare ?_
 ·exact⟨λb o e n h1 h2=>(hb.2 b (lt b o e)).trans (Bo.keep b o e n h1 h2),λb o e n h1 h2=>by
   obtain⟨sl,q⟩:=Bo.slot b o e n h1 h2;exact⟨sl,(hb.2 b (lt b o e)).trans q⟩,Bo.free,λb o e h1=>by
   obtain⟨o',q⟩:=Bo.there b o e h1;exact⟨o',(hb.2 b (lt b o e)).trans q⟩,Bo.tups,Bo.frzs,Bo.tbls⟩
 ·intro b o e;refine(J.hok b o e).stay (λc u hc q=>(hb.2 c ?_).trans q) (λ_ q=>q) λ_ _ q=>q;have hC0:H' C=ao:=J.free;rintro rfl;rcases hc with rfl|hc
  ·rw[hC0] at e;cases e
  ·rw[hC0] at hc;cases hc
 ·intro b hb';obtain⟨f0,f1,f2,f3,f4,f5⟩:=hf b hb';exact⟨f3,f1,f4,f5⟩
end
def PTs(X:Cx)(ifs:List aB)(t:TT):Prop :=
 ∀(aa:List (L×Obj)) (s:am) (σ:St) (H:Hp) (Q:Bool->Hp->Prop),aO X aa σ H s->t σ H Q ->
  Bf (Bg X.prog X.w) X.A (forIn ifs D λc r=>if r=D then do let ok <-isTrue c X.env (eval c X.env);pure (fY ok) else pure (fY r)) (TP X aa σ Q) X.xe s
def VZ:TT:=λ_ H Q=>Q D H
theorem ZN :PTs X [] VZ:=λ_ _ _ H _ I h=>wpAny_tests_nil ⟨H,I,h⟩
section
variable {prog:av}{w:ax}{A:ay}{R:aD->am->Prop}{s:am}
theorem KB{elt target iter:aB}{ifs:List aB}{scope:aC}{pos:Pos}{it acc:af}{env:Env}(W:Nat->am->Prop){EE:af->am->Prop}
  (hE:∀e s',EE e s'->notedBy (Bg prog w) A env (λe s'=>R (.error e) s') e s')
  (turn:∀n s,W n s->Bf (Bg prog w) A (pyNext it) (λr s₁=>match r with
   |none=>R (.ok .next) s₁
   |some v=>Bf (Bg prog w) A (letOwnedTupleGo target it v) (λ_ t₁=>Bf (Bg prog w) A (assign target env v) (λ_ s₂ =>
     Bf (Bg prog w) A (forIn ifs D λc r=>if r=D then do let ok <-isTrue c env (eval c env);pure (fY ok) else pure (fY r)) (λok s₃ =>
      if ok=D then Bf (Bg prog w) A (eval elt env) (λx s₄=>Bf (Bg prog w) A (call (.builtin "list.append") [acc,x]) (λ_ s₅=>∃m,m<n/\W m s₅) EE s₄) EE s₃
      else ∃m,m<n/\W m s₃) EE s₂) EE t₁) EE s₁) EE s)
  (n:Nat) (h:W n s):codeAny (Bg prog w) A (.compLoop (.ListComp elt [⟨target,iter,ifs,0⟩] scope pos) 0 it acc env) R s:=by
 refine codeAny_loop Y W (λn s hW=>?_) n h;show Bf _ A ((compTurn (.ListComp elt [⟨target,iter,ifs,0⟩] scope pos) 0 it acc env).onRaise (λx=>do noteFrame x env;theTreesLotGoes x)) _ _ s;refine wpAny_noted (dC ?_ (λ_ _ q=>q) hE);rw[compTurn_list];refine ba (oY (ba (dl (turn n s hW) λr s₁ h₁=>?_)));cases r with
 |none=>exact bd h₁
 |some v =>
  refine ba (dl h₁ λ_ t₁ k₁=>?_);refine ba (dl k₁ λ_ s₂ h₂=>ba (dl h₂ λok s₃ h₃=>?_));cases ok with
  |false=>exact bd ⟨Y,h₃⟩
  |true=>exact ba (ba (dl h₃ λx s₄ h₄=>ba (dl h₄ λ_ s₅ h₅=>bd (bd ⟨Y,h₅⟩))))
end
def kh(wi:TI)(g:TG)(tt:TT)(te:TE)(k:Nat)(ix:List Nat):TE:=λσ H Q=>wi σ H λJ H1=>∀Bq,H1 Bq=ao ->
 ∃W:Nat->Nat->List V->St->Hp->Prop,(∃m,W 0 m [] (iI k ao++zbp ix σ) (upd H1 Bq (.lst [])))/\∀i m ys τ H,W i m ys τ H->H Bq=U (.lst ys) /\
  ((J.stop i H/\Q (.ref Bq) H)\/(J.go i H/\ys.length<Bb/\∃N:V->St->Hp->Prop,
   (∀v τ' H',N v τ' H'->H' Bq=U (.lst ys)/\∃m',m'<m/\W (i+1) m' (ys++[v]) τ' (upd H' Bq (.lst (ys++[v]))))/\∃Nf:St->Hp->Prop,(∀τ' H',Nf τ' H'->∃m',m'<m/\W (i+1) m' ys τ' H') /\
   ∀x H',J.yld i H x H'->g x τ H' λτ2 H2=>tt τ2 H2 λb H3=>if b=D then te τ2 H3 λv H4=>N v τ2 H4 else Nf τ2 H3))
section
variable {X:Cx}{elt iter tg:aB}{ifs:List aB}{scope:aC}{pos:Pos}{cl:List (Str×L)}{ix:List Nat}{xs:List Str}{wi:TI}{g:TG}{tt:TT}{te:TE}
theorem W4(S:ZM X scope cl ix)(hc:X.calm=D)(hi:PI X tg iter wi)
  (hg:∀C fp s H,PG (X.comp scope cl C (xs++kg ix X.N) fp s H) tg g) (ht:∀C fp s H,PTs (X.comp scope cl C (xs++kg ix X.N) fp s H) ifs tt)
  (he:∀C fp s H,PE (X.comp scope cl C (xs++kg ix X.N) fp s H) elt te)
  {s:am} {σ:St} {H:Hp} {Q:VK} (I:aO X aa σ H s) (h:kh wi g tt te xs.length ix σ H Q) {RR:af->L->aD->am->Prop}
  (hR:∀v u s' C,aU v u->(∃H',Q v H'/\(∃m,s'.heap.Ns C m)/\(∀h',cF C s'.heap h'->aO X aa σ H' { s' with heap:=h' })/\qL X aa H' C)->RR u C (.ok .next) s') :
  Bf (Bg X.prog X.w) X.A (eval iter X.env) (λx s₁=>Bf (Bg X.prog X.w) X.A (pyIter x) (λit s₂=>Bf (Bg X.prog X.w) X.A (newList []) (λacc s₃ =>
   Bf (Bg X.prog X.w) X.A (newFunctionEnv scope X.env.globals cl [] X.env.qual ao .none (U X.env)) (λcenv s₄ =>
    codeAny (Bg X.prog X.w) X.A (.compStart (.ListComp elt [⟨tg,iter,ifs,0⟩] scope pos) 0 it acc { cenv with scope:=relabel scope X.env }) (RR acc cenv.locals) s₄) X.xe s₃) X.xe s₂) X.xe s₁) X.xe s:=by
 refine dl (hi aa s σ H _ I h) λv s1 h1=>dl h1 λitv s2 h2=>?_;obtain⟨it,fp,tn,J,H2,e,I2,T,st2,f2,hW⟩:=h2;subst e;refine cN (wpAny_newFunctionEnv S.nocell (λy hy=>nomatch hy) (λh₁ hns₁ hsb₁=>?_) S.kind);dsimp only at hns₁ hsb₁ ⊢;obtain⟨W,⟨m0,w0⟩,turn⟩:=hW s2.heap.objs.size I2.fresh;have I3:=I2.lnew (t':=s2.toks) (ys:=[]) (its:=[]) .nil (bT _);have hl3:∀b∈fp,b<s2.heap.objs.size:=λb hb=>by
  obtain⟨o,e,_⟩:=T.obj _ _ st2 b hb;exact bO e
 generalize hs3:({ s2 with heap:=s2.heap.push { cls:=.type "list",data:=.seq ([]:List af).toArray },toks:=s2.toks }:am)=s3 at I3;have hs3h:s3.heap=s2.heap.push { cls:=.type "list",data:=.seq ([]:List af).toArray }:=by rw[<-hs3]
 have hsz:s3.heap.objs.size=s2.heap.objs.size+1:=by rw[hs3h,eI]
 have f3:∀b∈fp,qL X aa (upd H2 s2.heap.objs.size (.lst [])) b:=λb hb=>by
  obtain⟨q0,q⟩:=f2 b hb;exact⟨by rw[zk (bX (hl3 b hb))];exact q0,q⟩
 have hl3':∀b∈fp,b<s3.heap.objs.size:=λb hb=>by rw[hsz];exact pN (hl3 b hb)
 rw[<-hs3h] at hns₁ hsb₁ ⊢;have hk:∀b o,s3.heap.get? b=U o->h₁.get? b=U o:=λb o e=>(hsb₁.2 b (bX (bO e))).trans (bc _ e);have hk2:∀b o,s2.heap.get? b=U o->s3.heap.get? b=U o:=λb o e=>by rw[hs3h];exact bc _ e
 have J0:=I3.comp (xs:=xs) (t':=s2.toks) (C:=s3.heap.objs.size) S Y f3 hl3' hns₁ hk;have st3:tn 0 h₁:=T.keep _ _ _ st2 λb _ o e=>hk b o (hk2 b o e);have loop:∀tk,codeAny (Bg X.prog X.w) X.A (.compLoop (.ListComp elt [⟨tg,iter,ifs,0⟩] scope pos) 0 (.ref it) (.ref s2.heap.objs.size) (compEnvC scope cl s3.heap.objs.size X.env))
   (RR (.ref s2.heap.objs.size) s3.heap.objs.size) { s3 with heap:=h₁,toks:=tk }:=by
  intro tk;refine KB (EE:=λ_ _=>False) (λn s'=>∃i ys τ H',aO (X.comp scope cl s3.heap.objs.size (xs++kg ix X.N) fp s3 (upd H2 s2.heap.objs.size (.lst []))) [] τ H' s'/\tn i s'.heap/\(∀b∈fp,H' b=ao)/\W i n ys τ H')
   (λ_ _ z=>z.elim) ?_ m0 ⟨0,[],_,_,J0.tok tk,st3,λb hb=>(f3 b hb).1,w0⟩
  rintro n s' ⟨i,ys,τ,H',I',st',fr',w'⟩;have stat:∀ {H':Hp},(∀b∈fp,H' b=ao)->∀b∈fp,qL (X.comp scope cl s3.heap.objs.size (xs++kg ix X.N) fp s3 (upd H2 s2.heap.objs.size (.lst []))) [] H' b:=λhn b hb =>
   ⟨hn b hb,(I'.ok.exf b hb).1,I'.ok.exfs b hb,.inl hb,(I'.ok.exf b hb).2,λp hp=>absurd (show p∈([]:List (L×Obj)) from hp) (by simp)⟩
  obtain⟨hD,⟨stop,q⟩|⟨go,hz,N,hN,Nf,hNf,step⟩⟩:=turn i n ys τ H' w'
  ·refine dl (T.done (X.comp scope cl s3.heap.objs.size (xs++kg ix X.N) fp s3 (upd H2 s2.heap.objs.size (.lst []))) Y Y Y hc i [] s' τ H' _ I' (stat fr') st' stop) ?_;rintro r s4 ⟨hr,I4⟩;subst hr;refine hR (.ref s2.heap.objs.size) _ s4 _ Y ⟨H',q,?_,λh' hb=>I3.uncomp Y f3 I4 hb,I3.fpOk (bp _) I4.free⟩;obtain⟨m,hn,_⟩:=I4.loc;exact⟨m,hn⟩
  ·refine dl (T.item (X.comp scope cl s3.heap.objs.size (xs++kg ix X.N) fp s3 (upd H2 s2.heap.objs.size (.lst []))) Y Y Y hc i [] s' τ H' _ I' (stat fr') st' go) ?_;rintro r s4 ⟨u,hr,h4⟩;subst hr;refine dl h4 ?_;rintro _ s5 ⟨x,H5,I5,r5,y5,st5,fr5⟩;have I5':=I5.pinned (stat fr5) (T.obj _ _ st5);refine dl (hg _ _ _ _ _ s5 τ H5 x u _ I5' r5 (step x H5 y5)) ?_;rintro _ s6 ⟨τ6,H6,I6,q6⟩;refine dl (ht _ _ _ _ _ s6 τ6 H6 _ I6 q6) ?_;rintro ok s7 ⟨H7,I7,q7⟩;have back:∀ {s8:am} {H8:Hp} {m:Nat} {zs:List V},aO (X.comp scope cl s3.heap.objs.size (xs++kg ix X.N) fp s3 (upd H2 s2.heap.objs.size (.lst []))) ([]++WW fp s5.heap) τ6 H8 s8->W (i+1) m zs τ6 H8 ->
     ∃i ys τ H',aO (X.comp scope cl s3.heap.objs.size (xs++kg ix X.N) fp s3 (upd H2 s2.heap.objs.size (.lst []))) [] τ H' s8/\tn i s8.heap/\(∀b∈fp,H' b=ao)/\W i m ys τ H':=λ{s8 H8 m zs} I8 w8=>by
    refine⟨i+1,zs,τ6,H8,I8.unpinned,T.keep _ _ _ st5 λb hb o e=>(I8.pin (b,o) (bP _ (bP _ (kN hb e)))).1,λb hb=>?_,w8⟩;obtain⟨o,e,d⟩:=T.obj _ _ st5 b hb;exact(I8.pin (b,o) (bP _ (bP _ (kN hb e)))).2.1
   cases ok with
   |false =>
    rw[ap bK] at q7 ⊢;obtain⟨m',hm,w7⟩:=hNf _ _ q7;exact⟨m',hm,back I7 w7⟩
   |true =>
    rw[au rfl] at q7 ⊢;refine dl (he _ _ _ _ _ s7 τ6 H7 _ I7 q7) ?_;rintro y s8 ⟨v8,H8,I8,r8,n8⟩;obtain⟨hD8,m',hm,w8⟩:=hN _ _ _ n8;refine dl (yX _ s8 τ6 H8 (.ref s2.heap.objs.size) [v8] (.ref s2.heap.objs.size) [y] (λ_ Hn=>∃m,m<n/\W (i+1) m (ys++[v8]) τ6 Hn) I8 Y (.cons r8 .nil) ⟨_,ys,v8,Y,Y,hD8,hz,m',hm,w8⟩) ?_;rintro _ s9 ⟨_,H9,I9,_,m9,hm9,w9⟩;exact⟨m9,hm9,back I9 w9⟩
 have e3:∀tk,({ s3 with heap:=h₁,toks:=tk }:am)={ s2 with heap:=h₁,toks:=tk }:=λtk=>by rw[<-hs3]
 have loop':∀tk,codeAny (Bg X.prog X.w) X.A (.compLoop (.ListComp elt [⟨tg,iter,ifs,0⟩] scope pos) 0 (.ref it) (.ref s2.heap.objs.size) (compEnvC scope cl s3.heap.objs.size X.env))
   (RR (.ref s2.heap.objs.size) s3.heap.objs.size) { s2 with heap:=h₁,toks:=tk }:=λtk=>by rw[<-e3];exact loop tk
 exact codeAny_compStart_list (loop' _) (T.self _ 0 _ _ _ st3 (loop' _))
theorem zcc(hc:X.calm=D)(hD:zcb osc N scope ix=D)(hi:PI X tg iter wi)
  (hg:∀C fp s H,PG (X.comp scope (qP scope X.env) C (xs++kg ix X.N) fp s H) tg g) (ht:∀C fp s H,PTs (X.comp scope (qP scope X.env) C (xs++kg ix X.N) fp s H) ifs tt)
  (he:∀C fp s H,PE (X.comp scope (qP scope X.env) C (xs++kg ix X.N) fp s H) elt te) (hsc:X.env.scope=osc:=by rfl) (hN:X.N=N:=by rfl) (hs:∀x,foldedSetIterable iter X.env x=pure x:=by intro _;rfl) :
  PE X (.ListComp elt [⟨tg,iter,ifs,0⟩] scope pos) (kh wi g tt te xs.length ix):=by
 intro aa s σ H Q I h;have S:=YX I.ok hD hsc hN;rw[eval_ListComp];refine mG (use:=ao) Y hs S.clos S.kind S.names (W4 S hc hi hg ht he I h (RR:=λacc C=>compPost (Bg X.prog X.w) X.A X.xe ao (EP X aa σ Q) acc C) ?_);rintro v u s' C r ⟨H',q,⟨m,hn⟩,hI,_⟩;exact⟨m,hn,λh' hb=>⟨v,H',hI h' hb,r,q⟩⟩
theorem kS{N:List Str}{y:Str}{py:Pos}{j:Nat}{spos:Pos}(hNd:X.N.Nodup)(hj:X.N[j]?=U y)(hc:X.calm=D)(hy:Loc X.env.scope y)(hD:zcb osc N scope ix=D)(hi:PI X tg iter wi)
  (hg:∀C fp s H,PG (X.comp scope (qP scope X.env) C (xs++kg ix X.N) fp s H) tg g) (ht:∀C fp s H,PTs (X.comp scope (qP scope X.env) C (xs++kg ix X.N) fp s H) ifs tt)
  (he:∀C fp s H,PE (X.comp scope (qP scope X.env) C (xs++kg ix X.N) fp s H) elt te) (hsc:X.env.scope=osc:=by rfl) (hN:X.N=N:=by rfl)
  (hsw:swapsWith (.ListComp elt [⟨tg,iter,ifs,0⟩] scope pos) (U (.Name y py)) spos.line X.env=pure D:=by rfl)
  (hs:∀x,foldedSetIterable iter X.env x=pure x:=by intro _;rfl) (hf:X.fn y=D\/X.env.scope.names.lookup y=U .local:=by first|exact .inl rfl|exact .inr rfl|assumption) :
  PS X (.Assign [.Name y py] (.ListComp elt [⟨tg,iter,ifs,0⟩] scope pos) spos) (zN (kh wi g tt te xs.length ix) (zt j)):=by
 intro aa s σ H Bq I h;have S:=YX I.ok hD hsc hN;rw[exec_Assign_Name_used _ _ _ _ hsw];refine ba (oY (ba ?_));show Bf _ X.A (do let _ <-comprehension (.ListComp elt [⟨tg,iter,ifs,0⟩] scope pos) scope X.env _ (newList []) aq (eval iter X.env) (U (assign (.Name y py) X.env))) _ _ s;refine ba (dl (mG (use:=U (assign (.Name y py) X.env)) (Q:=λ_ s'=>SP X aa Bq .next s') rfl hs S.clos S.kind S.names
  (W4 S hc hi hg ht he I h (RR:=λacc C=>compPost (Bg X.prog X.w) X.A X.xe (U (assign (.Name y py) X.env)) (λ_ s'=>SP X aa Bq .next s') acc C) ?_)) λ_ s' hq=>bd (bd hq))
 rintro v u s' C r ⟨H',q,⟨m,hn⟩,hI,f0,f1,f2,f3,f4,f5⟩;have I':aO X aa σ H' s':=hI s'.heap (.refl ..);show Bf _ X.A (assign (.Name y py) X.env u) _ _ _;refine wpAny_assign_Name (JB I' hNd hj hy r (λs2 I2 hx=>?_) hf);obtain⟨a,hb,ha⟩:=hx;have hCa:C≠a:=by
  rcases ha with rfl|ha
  ·exact f1
  ·exact eA (f4 _ _ ha)
 refine⟨m,hn.sameBut hb hCa,λh' hb'=>⟨_,H',?_,q⟩⟩;exact I2.turned (t':=s2.toks) (λb o hne e=>(hb'.2 b hne).trans e) f0 f1 f3 f4 f5
end
abbrev JO:R2:=λx y H Q=>∃i j,x=.str i/\y=.str j/\i.length+j.length<=Bb/\Q (.str (i++j)) H
abbrev zfN:R2:=λx y H Q=>y=.non/\Q (.bl (decide (x=.non))) H
abbrev QT:R2:=λx y H Q=>y=.non/\Q (.bl (!decide (x=.non))) H
abbrev RC:=List V->Hp->VK->Prop
abbrev wa(K:bu):RC:=λxs H Q=>∃x n,xs=[x]/\zhe K x H n/\Q (.int n) H
abbrev ki(K:bu):RC:=λxs H Q=>∃x c t b,xs=[x,c]/\Yk K H x t/\(∃T,c=.ty T/\fC K t (.type T)=U b)/\Q (.bl b) H
abbrev RM:=V->List V->Hp->VK->Prop
theorem sJ(p:L){H:Hp}(h:H p=ao):aK H (upd H p o):=λb u e=>by rw[zk (zy e h)];exact e
theorem yA:Bh "len"=U (.builtin "len"):=by lia
theorem zP:Bh "isinstance"=U (.builtin "isinstance"):=by lia
theorem ZO:Bh "sorted"=U (.builtin "sorted"):=by lia
theorem zhk:Bh "zip"=U (.type "zip"):=by lia
theorem KC:Bh "str"=U (.type "str"):=by lia
theorem KD:Bh "int"=U (.type "int"):=by lia
theorem KG:Bh "bool"=U (.type "bool"):=by lia
theorem wb:Bh "list"=U (.type "list"):=by lia
theorem YY:Bh "tuple"=U (.type "tuple"):=by lia
theorem zcd:Bh "dict"=U (.type "dict"):=by lia
section
variable {X:Cx}
def big:Int:=10^200
def yF(_ j:Int):Prop:=0<j/\j<big
def CMulB(i j:Int):Prop:=(-big<i/\i<big)/\(-big<j/\j<big)
theorem W5{j:Int}(h:j.natAbs<10^200):j.natAbs.log2<700:=by
 by_cases h0:j.natAbs=0
 ·rw[h0];decide
 ·exact(Nat.log2_lt h0).mpr (b6 h ())
theorem KH{j:Int}(h:-big<j/\j<big):j.natAbs<10^200:=by
 have e:big=((10^200:Nat):Int):=by lia
 rw[e] at h;lia
theorem CMulB.ok{i j:Int}(h:CMulB i j):IntMulOk i j:=by
 have b:∀k:Int,(-big<k/\k<big)->dv k<=2^20:=λk hk=>by
  have q:=W5 (KH hk);unfold dv;split <;> lia
 exact .of_bits (b i h.1) (b j h.2)
theorem wX:ti X (binaryOp .Mult) (rI CMulB λi j=>.int (i*j)):=opI λ_ _ _ _ _ _ _ hc q=>mul_int q hc.ok
theorem zU:ti X (binaryOp .FloorDiv) (rI yF λi j=>.int (i/j)):=opI λi j _ _ _ _ _ hc q=>by
 have h1:(0:Int)<j:=hc.1;refine floordiv_int () ?_ (.inl (mH (pZ (W5 (KH ⟨by have:=hc.2;lia,hc.2⟩)) ())));rw[Int.fdiv_eq_ediv_of_nonneg i ()];exact q
theorem yG:jZ X (.builtin "isinstance") (ki X.K):=by
 intro aa s σ H xs us Q I r h;obtain⟨x,c,t,b,rfl,ty,⟨T,rfl,e⟩,q⟩:=h;obtain⟨u,w',rfl,r1,r2⟩:=zgL r;cases r2;exact zcU I r1 ty e λtk=>⟨.bl b,H,I.tok tk,Y,q⟩
def zhl:V->Option Int->Option Int->Hp->VK->Prop:=λx lo hi H Q=>∃z,x=.str z/\z.length<=Bb/\Q (.str (gH z lo hi)) H
theorem zdQ:SlR X zhl:=by
 intro aa s σ H x v vl vu lo hi sl Q I rx hs pl pu h;obtain⟨z,rfl,hz,q⟩:=h;obtain⟨t,rfl⟩:=rx;obtain⟨o,ho,hc,hd⟩:=hs;refine⟨"str",_,F.slot_str_getitem.lookup,oq _ _ _,?_⟩;obtain⟨l,e1,e2⟩:∃l:Option (Int×Tok),vl=partValue l/\lo=l.map (·.1):=by
  cases pl with
  |none=>exact⟨ao,Y,Y⟩
  |int i t=>exact⟨U (i,t),Y,Y⟩
 obtain⟨u,e3,e4⟩:∃l:Option (Int×Tok),vu=partValue l/\hi=l.map (·.1):=by
  cases pu with
  |none=>exact⟨ao,Y,Y⟩
  |int i t=>exact⟨U (i,t),Y,Y⟩
 subst e1 e2 e3 e4;exact wpAny_getItem_str_slice (l:=l) (u:=u) (st:=ao) ⟨o,ho,hc,hd⟩ rfl
  (post_val_or_str ⟨bN (Txt.slice_le z _ _) hz,λt' k=>⟨.str (gH z (l.map (·.1)) (u.map (·.1))),H,I.tok k,⟨t',Y⟩,q⟩⟩)
end
theorem aW.there{H:Hp}(x:aW P w H h a o):∃u,h.get? a=U u:=by
 cases o with
 |lst xs=>obtain⟨_,_,_,_,e⟩:=x;exact⟨_,e⟩
 |tup xs=>obtain⟨_,_,_,o,e,_⟩:=x;exact⟨_,e⟩
 |dK ah=>obtain⟨_,_,_,_,o,_,_,e,_⟩:=x;exact⟨_,e⟩
 |dT ah=>obtain⟨_,_,_,_,o,_,_,e,_⟩:=x;exact⟨_,e⟩
 |set S n=>obtain⟨o,_,_,_,e,_⟩:=x;exact⟨_,e⟩
 |ins C dx fs=>obtain⟨_,_,_,e,_⟩:=x;exact⟨_,e⟩
 |own y=>exact x
 |xd fs=>obtain⟨_,⟨o,_,_,e,_⟩,_⟩:=x;exact⟨_,e⟩
 |rng lo hi=>obtain⟨_,_,_,e⟩:=x;exact⟨_,e⟩
 |frz ob u=>obtain⟨e,_⟩:=x;exact⟨_,e⟩
 |tbl ps=>exact⟨_,(show h.get? a=U _ from x)⟩
 |met f y=>exact⟨_,(show h.get? a=U _ from x)⟩
 |ext φ=>obtain⟨_,e,_⟩:=x;exact e
def XF(g h:aw)(H:Hp)(e:L)(cls:af):Prop :=
 ∃oe vs a0 T oT ts,h.get? e=U oe/\(oe.cls=cls/\vs[0]?=U a0)/\oe.data=.fields vs/\vs[1]?=U (.ref T)/\T≠e/\h.get? T=U oT/\oT.data=.fields ts/\ts[3]?=U .none /\
  g.get? e=ao/\g.get? T=ao/\H e=ao/\H T=ao
def tK(P:av)(w:ax):CXT:=λouter H s E ev s'=>∃e cls H',ev=.ref e/\s'.os=s.os/\AllBare s'.gens/\Un (sX outer) [] H H' s.heap s'.heap/\tF P w H' s'.heap/\XF s.heap s'.heap H' e cls/\E cls ao H'
theorem kj{g h:aw}(k:∀b o,g.get? b=U o->∃o',h.get? b=U o')(e:h.get? b=ao):g.get? b=ao:=by
 cases q:g.get? b with
 |none=>rfl
 |some o =>
  obtain⟨o',z⟩:=k b o q;rw[e] at z;cases z
theorem XF.older{H:Hp}(x:XF g h H e cls)(k:∀b o,g'.get? b=U o->∃o',g.get? b=U o'):XF g' h H e cls:=by
 obtain⟨oe,vs,a0,T,oT,ts,h1,h2,h3,h4,h5,h6,h7,h8,h9,h10,h11,h12⟩:=x;exact⟨oe,vs,a0,T,oT,ts,h1,h2,h3,h4,h5,h6,h7,h8,kj k h9,kj k h10,h11,h12⟩
section
variable {X:Cx}{aa:List (L×Obj)}{σ:St}{H:Hp}{s:am}
theorem aO.stackFields(J:aO X aa σ H s)(hb:b∈sX X.stack):∃o,s.heap.get? b=U o/\∀vs,o.data≠.fields vs:=(J.stack.mem hb).2
theorem aO.there0(hex:X.ex=[])(J:aO X aa σ H s):∀b o,X.s₀.heap.get? b=U o->∃o',s.heap.get? b=U o':=λb o e=>J.base.there b o e (by rw[hex];simp)
theorem aO.behind{cs:List L}(hex:X.ex=[])(J:aO X aa σ H s)(hcs:∀b∈cs,H b=ao/\X.s₀.heap.get? b=ao)
  (hB:∀b o,s.heap.get? b=U o->b ∉ sX X.stack->b ∉ cs->h2.get? b=U o) (hF:∀b o,s.heap.get? b=U o->b∈sX X.stack->∃sl,h2.get? b=U { o with slots:=sl }) :
  Un X.fs [] X.H₀ H X.s₀.heap h2/\tF X.prog X.w H h2:=by
 have Bo:Un X.fs [] X.H₀ H X.s₀.heap s.heap:=by have:=J.base;rw[hex] at this;exact this
 have nL:∀b o,X.s₀.heap.get? b=U o->b≠X.env.locals:=λb o e=>bX (b6 (bO e) J.ok.above);have nC:∀b o,X.s₀.heap.get? b=U o->b ∉ cs:=λb o e z=>by rw[(hcs b z).2] at e;cases e
 have any:∀b o,s.heap.get? b=U o->b ∉ cs->∃sl,h2.get? b=U { o with slots:=sl }:=λb o e n=>by
  by_cases hb:b∈sX X.stack
  ·exact hF b o e hb
  ·exact⟨o.slots,hB b o e hb n⟩
 refine⟨⟨λb o e n h1 _=>?_,λb o e n h1 _=>?_,Bo.free,λb o e h1=>?_,Bo.tups,Bo.frzs,Bo.tbls⟩,λb u e=>?_⟩
 ·refine hB b o (Bo.keep b o e n h1 (by simp)) (λz=>?_) (nC b o e);rcases bD.mp (J.stkSub b z) with q|q
  ·exact nL b o e q
  ·exact h1 q
 ·obtain⟨sl,q⟩:=Bo.slot b o e n h1 (by simp);obtain⟨sl',q'⟩:=any b _ q (nC b o e);exact⟨sl',q'⟩
 ·obtain⟨o',q⟩:=Bo.there b o e (by simp);obtain⟨sl,q'⟩:=any b o' q (nC b o e);exact⟨_,q'⟩
 ·refine(J.hok b u e).stay (λc v hc q=>?_) (λ_ q=>q) λ_ _ q=>q;have hn:H c≠ao:=by
   rcases hc with rfl|hc
   ·rw[e];simp
   ·rw[hc];simp
  exact hB c v q (λz=>hn (J.stkFree c z)) λz=>hn (hcs c z).1
theorem aO.flown{cs:List L}(hex:X.ex=[])(J:aO X aa σ H s)(hcs:∀b∈cs,H b=ao/\X.s₀.heap.get? b=ao)
  (hB:∀b o,s.heap.get? b=U o->b ∉ sX X.stack->b ∉ cs->Bo.get? b=U o) (hF:∀b o,s.heap.get? b=U o->b∈sX X.stack->∃sl,h2.get? b=U { o with slots:=sl })
  (he:H e=ao) (he0:X.s₀.heap.get? e=ao) (kb:Bo.StaysIn h2) (tr:h2.TracedW Bo e cls a0) :
  Un X.fs [] X.H₀ H X.s₀.heap h2/\tF X.prog X.w H h2/\XF X.s₀.heap h2 H e cls:=by
 have hk:=J.behind (h2:=h2) hex hcs (λb o q n1 n2=>kb b o (hB b o q n1 n2)) hF;refine⟨hk.1,hk.2,?_⟩;obtain⟨oe,vs,T,oT,ts,h1,h2',h3,h4,h5,h6,h7,h8,h9⟩:=tr;have noT:∀o,s.heap.get? T=U o->T∈cs:=λo q=>by
  by_cases hb:T∈sX X.stack
  ·obtain⟨o',q',nf⟩:=J.stackFields hb;obtain⟨sl,z⟩:=hF T o' q' hb;rw[h7] at z;have z':oT={ o' with slots:=sl }:=bJ z;exact absurd (by rw[<-h8,z']) (nf ts)
  ·by_cases hc:T∈cs
   ·exact hc
   ·rw[hB T o q hb hc] at h5;cases h5
 refine⟨oe,vs,a0,T,oT,ts,h1,h2',h3,h4,h6,h7,h8,h9,he0,?_,he,?_⟩
 ·cases q:X.s₀.heap.get? T with
  |none=>rfl
  |some o =>
   obtain⟨o',q'⟩:=J.there0 hex T o q;rw[(hcs T (noT o' q')).2] at q;cases q
 ·cases q:H T with
  |none=>rfl
  |some u =>
   obtain⟨o,z⟩:=(J.hok T u q).there;rw[(hcs T (noT o z)).1] at q;cases q
theorem zc0{h':aw}{e:L}{cls:af}{vs:List af}{E:XK}{EE:af->am->Prop}(hst:X.stack=X.env::X.outer/\X.env.frame=U X.env.locals)(hex:X.ex=[])(J:aO X aa σ H s)(hx:Heap.MadeExcOf s.heap h' e cls vs)(hE:E cls ao H) :
  Bf (Bg X.prog X.w) X.A (leaving X.env (.ref e)) (λ_ s2=>tK X.prog X.w X.outer X.H₀ X.s₀ E (.ref e) s2) EE { s with heap:=h' }:=by
 have fr:s.heap.FunFrames (gF s.heap (sX X.stack)) (X.env::X.outer):=by
  have q:=i0 (as:=sX X.stack) J.stack λenv he a ha=>fP.mpr ⟨env,he,ha⟩;rw[hst.1] at q ⊢;exact q
 refine wpAny_leaves_madeW (s:={ s with heap:=h' }) (base:=gF s.heap (sX X.stack)) (h:=s.heap) (by rw[J.ok.frames,hst.1]) hst.2 (λb o q=>lV _ q) fr hx λh2 t hfl _ _ hup=>?_;obtain⟨f1,f2,f3,f4⟩:=hfl;have hF:∀b o,s.heap.get? b=U o->b∈sX X.stack->∃sl,h2.get? b=U { o with slots:=sl }:=λb o q hb=>by
  obtain⟨o',q',nf⟩:=J.stackFields hb;rw[q] at q';cases q';exact hup b o (hx.keeps b o q) nf
 obtain⟨r1,r2,r3⟩:=J.flown (cs:=[]) hex (λb z=>nomatch z) (λb o q n _=>i9 _ q n) hF
  (by
   cases q:H e with
   |none=>rfl
   |some u =>
    obtain⟨o,z⟩:=(J.hok e u q).there;rw[hx.new] at z;cases z)
  (kj (J.there0 hex) hx.new) f1 f4
 exact⟨e,cls,H,Y,J.os,J.bare,r1,r2,r3,hE⟩
theorem zdR{e:L}{cls:af}{E:XK}{EE:af->am->Prop}(hst:X.stack=X.env::X.outer/\X.env.frame=U X.env.locals)(hex:X.ex=[])(J:aO X aa σ H s)(xf:XF X.s₀.heap s.heap H e cls)(hE:E cls ao H) :
  Bf (Bg X.prog X.w) X.A (leaving X.env (.ref e)) (λ_ s2=>tK X.prog X.w X.outer X.H₀ X.s₀ E (.ref e) s2) EE s:=by
 obtain⟨oe,vs,a0,T,oT,ts,h1,h2,h3,h4,h5,h6,h7,h8,h9,h10,h11,h12⟩:=id xf;have fr:s.heap.FunFrames (gF s.heap (sX X.stack++[e,T])) (X.env::X.outer):=by
  have q:=i0 (as:=sX X.stack++[e,T]) J.stack λenv he a ha=>cy _ (fP.mpr ⟨env,he,ha⟩);rw[hst.1] at q ⊢;exact q
 refine wpAny_leaves_onW (base:=gF s.heap (sX X.stack++[e,T])) (a0:=a0) (by rw[J.ok.frames,hst.1]) hst.2
  ⟨λb o q=>lV _ q,fO _ (bP _ (by simp)),fr,oe,vs,T,oT,ts,h1,h2,h3,h4,fO _ (bP _ (by simp)),h5,h6,h7,h8⟩ λh2' hfl hup=>?_
 obtain⟨f1,f2,f3,f4⟩:=hfl;have hF:∀b o,s.heap.get? b=U o->b∈sX X.stack->∃sl,h2'.get? b=U { o with slots:=sl }:=λb o q hb=>by
  obtain⟨o',q',nf⟩:=J.stackFields hb;rw[q] at q';cases q';exact hup b o q nf
 obtain⟨r1,r2,r3⟩:=J.flown (cs:=[e,T]) hex (λb z=>by
   have z':b=e\/b=T:=by simpa using z
   rcases z' with rfl|rfl
   ·exact⟨h11,h9⟩
   ·exact⟨h12,h10⟩) (λb o q n n2=>i9 _ q λz=>(bB.mp z).elim n n2) hF h11 h9 f1 f4
 exact⟨e,cls,H,Y,J.os,J.bare,r1,r2,r3,hE⟩
end
def zdS(X:Cx)(E:XK):Prop:=∀(aa:List (L×Obj)) (σ:St) (H:Hp) (s:am) (h':aw) (e:L) (cls:af) (vs:List af),aO X aa σ H s->Heap.MadeExcOf s.heap h' e cls vs->E cls ao H->X.xe (.ref e) { s with heap:=h' }
section
variable {P:av}{w:ax}{K:bu}{mg:Str->Option af}{base:aw}{N:List Str}{qual:Str}{scope:aC}{f:L}{cd:af}{A:ay}{outer:List Env}{s₀:am}{H₀:Hp}{E:XK}
theorem vW:x6 (tK P w) (qH (tK P w) P w K mg base N qual scope f cd A outer s₀ H₀ E) E:=by
 intro aa σ H s ev s' I hcx;obtain⟨e,cls,H',rfl,os,bare,un,hok,xf,hE⟩:=hcx;have J:=I.call' (ch:=[]) os un hok bare (λb z=>nomatch z);exact zdR (X:=qH (tK P w) P w K mg base N qual scope f cd A outer s₀ H₀ E) ⟨Y,Y⟩ Y J (xf.older (I.there0 Y)) hE
theorem zce:zdS (qH (tK P w) P w K mg base N qual scope f cd A outer s₀ H₀ E) E:=by
 intro aa σ H s h' e cls vs I hx hE;exact zc0 (X:=qH (tK P w) P w K mg base N qual scope f cd A outer s₀ H₀ E) ⟨Y,Y⟩ Y I hx hE
theorem ziA:PassesOwn (Bg P w) (qH (tK P w) P w K mg base N qual scope f cd A outer s₀ H₀ E).A (qH (tK P w) P w K mg base N qual scope f cd A outer s₀ H₀ E).env (qH (tK P w) P w K mg base N qual scope f cd A outer s₀ H₀ E).xe:=PassesOwn.leaving
end
abbrev QU:List af:=[.type "ValueError",.type "Exception",.type "BaseException",.type "object"]
abbrev XN:String:="ValueError.__new__"
def zbq(C:L)(ta:TA)(E:XK):TS:=λ_ σ H=>ta σ H λvs H1=>vs.length<=Bb/\E (.ref C) ao H1
theorem zfO{K:bu}{h:aw}{C:L}{bmB:List af}(X:K.In h)(q:pO K C bmB newId=D) :
  ∃bm N nm qn bs hdct sn sub ab col dd k0 k1 k2 k3 k5 mN,h.get? C=U (excClassObj nm qn C N bs bm hdct sn sub ab col dd k0 k1 k2 k3 k5 newId)/\h.Ns N mN/\mN "__init__"=ao/\OwnTail h bmB bm:=by
 unfold pO at q;split at q
 case h_2=>cases q
 rename_i dd cd sl ho;split at q
 case h_2=>cases q
 rename_i C' bm k0 k1 k2 k3 n k5 hm hs;rw[bW,bW,bW,bW,bW] at q;obtain⟨⟨⟨⟨⟨q1,q2⟩,q3⟩,q4⟩,q5⟩,q6⟩:=q;obtain rfl:C'=C:=by simpa using q1
 obtain rfl:n=newId:=by simpa using q2
 obtain⟨nm,bs,mro,ns,qn,hd,sn,sub,ab,col,del⟩:=cd;have hdel:del=aq:=by simpa using q3
 have hm':mro=.ref C'::bm:=hm;subst hdel hm';have hsl:sl=#[k0,k1,k2,k3,U (.builtin n),k5]:=by
  apply Array.ext';exact hs
 subst hsl;exact⟨bm,ns,nm,qn,bs,hd,sn,sub,ab,col,dd,k0,k1,k2,k3,k5,_,X _ _ ho,.of_isNs (W.isNs_of_in X q5),W.nsMap_none_of_in X q5 (by simpa using q6),W.tail_of_in X q4⟩
section
variable {X:Cx}{x:Str}{C:L}{np sC pos:Pos}{e₀:aB}{rest:List aB}{ta:TA}{E:XK}
theorem QV(hc:X.calm=D)(q:pO X.K C QU XN=D)(hr:zdS X E)(hg:Gl X x)(hm:X.mg x=U (.ref C))(ha:PA X (e₀::rest) ta)
  (he:Be (e₀::rest) X.env=(aq,eval e₀ X.env)::Be rest X.env:=by rfl) (hp:(backTo sC (Be rest X.env)).any (·.1)=aq:=by rfl) (hd:(x==("__debug__":Str))=aq:=by lia) :
  PS X (.Raise (U (.Call (.Name x np) (e₀::rest) [] sC)) ao pos) (zbq C ta E):=by
 intro aa s σ H Bq I h;obtain⟨tl,N,nm,qn,bs,hdct,sn,sub,ab,col,dd,k0,k1,k2,k3,k5,mN,hC,hN,hni,T⟩:=zfO I.ok.mod.kin q;refine wpAny_Raise_call_subT (C:=C) (nm:=nm) (q:=qn) (N:=N) (bs:=bs) (bm:=tl) (hdct:=hdct) (sn:=sn) (sub:=sub) (ab:=ab) (col:=col) (dd:=dd) (k0:=k0) (k1:=k1) (k2:=k2) (k3:=k3) (k5:=k5) (newId:=XN)
  PySem.F.excBase_ValueError (mN:=mN) (T.hasType PySem.F.excBase_ValueError.hasBase) (I.ok.hd hc) (by rw[he];exact hp) hni (vG I hg hm ⟨Y,?_⟩ hd)
 have hA:=ha sC aa s σ H _ I h;rw[he] at hA ⊢;refine dI (dl hA ?_);rintro us s2 ⟨vs,H2,I2,r2,z2,q2⟩;exact⟨Y,by rw[<-r2.length];exact z2,I2.bk _ _ hC,hN.keeps I2.bk,T.keeps I2.bk,λh' e hm=>hr aa σ H2 s2 h' e _ _ I2 hm q2⟩
end
def Asc(x:Str):Prop:=∀c∈x.cps.toList,c<128
section
variable {X:Cx}{e:aB}{te:TE}{a:Str}{j:Nat}{p1 p2 p3:Pos}
def zdT(te:TE):TE:=λσ H Q=>te σ H λv H1=>∃x:Str,v=.str x/\x.length<=100000/\∀y:Str,Q (.str y) H1
theorem zcf(he:PE X e te)(hl:a.length<=1000:=by lia):PE X (.JoinedStr [.FormattedValue e (-1) ao p2,.Constant (.str a) j p1] p3) (zdT te):=by
 intro aa s σ H Q I h;refine wpAny_JoinedStr ?_;show Bf _ _ (eval (.FormattedValue e (-1) ao p2) X.env) _ _ s;refine wpAny_FormattedValue_plain (dl (he aa _ σ H _ I h) ?_);rintro v s1 ⟨x,H1,I1,r1,z,ex,hz,q⟩;subst ex;obtain⟨t,rfl⟩:=r1;have hs:Bb=16777216:=bG;have e0:(fT++z).length=z.length:=by rw[mI];simp[fT,iB]
 have fin:∀(t':Tok) (tk:Nat),∃y u,gS z t'=gS y u/\(fT++y).length<=Bb/\Joins (Bg X.prog X.w) X.A X.xe (evalEach [.Constant (.str a) j p1] X.env) (fT++y) (λout s₁=>out.length<=Bb/\EP X aa σ Q (.str out s₁.toks) { s₁ with toks:=s₁.toks+1 }) { s1 with toks:=tk }:=λt' tk=>by
  refine⟨_,_,Y,by rw[e0];lia,?_⟩;show Bf _ _ (eval (.Constant (.str a) j p1) X.env) _ _ _;have hz2:(fT++z++a).length<=Bb:=by rw[mI,e0];lia
  refine oW ⟨a,_,Y,hz2,hz2,.str _,H1,I1.tok _,⟨_,Y⟩,q _⟩
 exact wpAny_formatField_str (fin _ _) (fin _ _) ()
end
structure ExC(K:bu)(C:L):Prop where
 ga:b7 K (.ref C) "__getattribute__"=U (U (.builtin "BaseException.__getattribute__"))
 gx:b7 K (.ref C) "__getattr__"=U ao
 cl:b7 K (.ref C) "__class__"=U (U (.builtin "object.__class__"))
 ob:sd K C (.type "object")=U D
 be:sd K C (.type "BaseException")=U D
 ge:rO K (.builtin "object.__class__") "__get__"=U (U (.builtin "getset_descriptor.__get__"))
 tk:W.takesIn K (.builtin "object.__class__")=U D
section
variable {X:Cx}{aa:List (L×Obj)}{σ:St}{H:Hp}{s:am}
theorem aO.land{cs:List L}(hex:X.ex=[])(I:aO X aa σ H s)(hcs:∀b∈cs,H b=ao/\X.s₀.heap.get? b=ao)(hcp:∀b∈cs,∀p∈X.pn++aa,p.1≠b)
  (hB:∀b o,s.heap.get? b=U o->b ∉ sX X.stack->b ∉ cs->h2.get? b=U o) (sm:s.heap.UpToSlots h2):aO X aa σ H { s with heap:=h2 }:=by
 have hF:∀b o,s.heap.get? b=U o->b∈sX X.stack->∃sl,h2.get? b=U { o with slots:=sl }:=λb o q hb=>by
  obtain⟨o',q',nf⟩:=I.stackFields hb;rw[q] at q';cases q';exact sm b o q nf
 obtain⟨r1,r2⟩:=I.behind hex hcs hB hF;have ce:∀c v,s.heap.IsCell c v->h2.IsCell c v:=λc v ⟨o,ho,hd⟩=>by
  obtain⟨sl,q⟩:=sm c o ho λvs z=>by rw[hd] at z;cases z
  exact⟨_,q,hd⟩
 refine⟨I.ok,I.os,I.bare,by rw[hex];exact r1,?_,λx c e=>?_,I.free,I.freeC,λp hp=>?_,r2,I.len⟩
 ·obtain⟨m,hn,hl⟩:=I.loc;refine⟨m,sm.ns hn,λi x v e1 e2 e3=>?_⟩;obtain⟨u,r,l⟩:=hl i x v e1 e2 e3;refine⟨u,r,?_⟩;rcases l with l|⟨k,c,e,z⟩
  ·exact .inl l
  ·exact .inr ⟨k,c,e,ce c _ z⟩
 ·obtain⟨v,z⟩:=I.cell x c e;exact⟨v,ce c v z⟩
 ·obtain⟨e,n,ne,nf,d⟩:=I.pin p hp;exact⟨hB _ _ e (λz=>(bD.mp (I.stkSub _ z)).elim ne nf) λz=>hcp _ z p hp Y,n,ne,nf,d⟩
end
abbrev Cx.sub(X:Cx)(e:L):Cx:={ X with A:=X.A.mark (U (.ref e)),calm:=aq,xe:=λ_ _=>False }
section
variable {X:Cx}{aa:List (L×Obj)}{σ:St}{H:Hp}{s:am}{e:L}
theorem aO.toSub(I:aO X aa σ H s):aO (X.sub e) aa σ H s :=
 ⟨⟨I.ok.mod,I.ok.kind,I.ok.glob,I.ok.blt,I.ok.above,I.ok.inj,I.ok.has,I.ok.cab,(),I.ok.frames,I.ok.stk,I.ok.exf,I.ok.bs,I.ok.bsz,I.ok.noex,I.ok.exfs,I.ok.funs,I.ok.frf⟩,I.os,I.bare,I.base,I.loc,I.cell,I.free,I.freeC,I.pin,I.hok,I.len⟩
theorem aO.ofSub{J:aO X aa σ H s}{σ':St}{H':Hp}(I:aO (X.sub e) aa σ' H' s'):aO X aa σ' H' s':=
 ⟨J.ok,I.os,I.bare,I.base,I.loc,I.cell,I.free,I.freeC,I.pin,I.hok,I.len⟩
end
abbrev EXK:=af->St->Hp->Prop
def PX(X:Cx)(aa:List (L×Obj))(EX:EXK):af->am->Prop:=λev s'=>∃e cls σ s1 H1 H',ev=.ref e/\aO X aa σ H1 s1/\aO X aa σ H' s'/\XF s1.heap s'.heap H' e cls/\EX cls σ H'
def PEX(X:Cx)(ex:aB)(t:EXK->TE):Prop :=
 ∀(aa:List (L×Obj)) (s:am) (σ:St) (H:Hp) (Q:VK) (EX:EXK),aO X aa σ H s->t EX σ H Q->Bf (Bg X.prog X.w) X.A (eval ex X.env) (EP X aa σ Q) (PX X aa EX) s
def PSX(X:Cx)(st:aA)(t:EXK->TS):Prop :=
 ∀(aa:List (L×Obj)) (s:am) (σ:St) (H:Hp) (Bq:Wx) (EX:EXK),aO X aa σ H s->t EX Bq σ H->Bf (Bg X.prog X.w) X.A (exec st X.env) (SP X aa Bq) (PX X aa EX) s
section
variable {X:Cx}{ex:aB}{tx:EXK->TE}{pos p1:Pos}{i:Nat}{y:Str}
def zgP(tx:EXK->TE)(i:Nat)(EX:EXK):TS:=λBq σ H=>tx EX σ H λv H1=>Bq.nx (σ.set i (U v)) H1
theorem zfP(hN:X.N.Nodup)(hi:X.N[i]?=U y)(hx:Loc X.env.scope y)(he:PEX X ex tx)(hs:swapsWith ex (U (.Name y pos')) pos.line X.env=pure aq:=by rfl)(hf:X.fn y=D\/X.env.scope.names.lookup y=U .local:=by first|exact .inl rfl|exact .inr rfl|assumption) :
  PSX X (.Assign [.Name y pos'] ex pos) (zgP tx i):=by
 intro aa s σ H Bq EX I h;refine wpAny_Assign_Name (dl (he aa s σ H _ EX I h) ?_) hs;rintro v s1 ⟨x,H1,I1,r1,q1⟩;exact WV I1 hN hi hx r1 (λs2 I2=>⟨_,H1,I2,q1⟩) hf
end
structure ExK(K:bu)(C:L):Prop extends ExC K C where
 has:(W.clsIn K C).isSome=D
theorem zu :x6 (tK P w) X E0:=λ_ _ _ _ _ _ _ h=>by
 obtain⟨_,_,_,_,_,_,_,_,_,z⟩:=h;exact z.elim
section
variable {P:av}{w:ax}{K:bu}{mg:Str->Option af}{base:aw}
theorem Fun.ok1{x qual:Str}{st:aA}{f:L}{fd:Bc}{N ps:List Str}{k:Nat}{sp:Sp}(F:Fun K x qual st f fd)(S:aN N ps (zi st))(len:∀vs H Q E,sp vs H Q E->vs.length=ps.length)
  (hbody:∀(cdv:af) (A:ay) (outer:List Env) (s:am) (H:Hp) (vs:List V) (Q:VK) (E:XK),sy k (A.deeper (envOfC qual (zi st) s.heap.objs.size f cdv))->sp vs H Q E ->
   ∃t,PSs (qH (tK P w) P w K mg base N qual (zi st) f cdv A outer s H E) (yC st) t/\t { nx:=λ_ H'=>Q .non H',rt:=Q } (start N vs) H):sq P w K mg base (tK P w) (k+1) f fd ps sp:=by
 obtain⟨oc,od,kV,doc,pm,an,cdv,ct,osl,rfl,lk,hcd⟩:=F.ex;exact zgM lk hcd S len λA outer s H vs Q E hr hsp=>hbody cdv A outer s H vs Q E hr hsp
theorem Fun.ok0{x qual:Str}{st:aA}{f:L}{fd:Bc}{N ps:List Str}{k:Nat}{sp:Sp}(F:Fun K x qual st f fd)(S:aN N ps (zi st))(len:∀vs H Q E,sp vs H Q E->vs.length=ps.length)
  (hbody:∀(cdv:af) (A:ay) (outer:List Env) (s:am) (H:Hp) (vs:List V) (Q:VK) (E:XK),sy k (A.deeper (envOfC qual (zi st) s.heap.objs.size f cdv))->sp vs H Q E ->
   ∃t,PSs (qH (tK P w) P w K mg base N qual (zi st) f cdv A outer s H E).nox (yC st) t/\t { nx:=λ_ H'=>Q .non H',rt:=Q } (start N vs) H):sq P w K mg base (tK P w) (k+1) f fd ps sp :=
 F.ok1 S len λcdv A outer s H vs Q E hr h=>let ⟨t,a,b⟩:=hbody cdv A outer s H vs Q E hr h;⟨t,a.nox,b⟩
end
theorem zia{l:oZ}{n k:Nat}{q:av}{loose:List Str}{XP:(Str->Option af)->aw->Prop}{YP:ax->aw->Prop}{d:DefRec}{K:Params->bu}{sp:bu->Sp}{x:Str}
  (hn:l.most=U n) (hn2:n<=Bb) (hdf:d.params.defaults=[]) (hr:sy k callerA)
  (hY:∀(w:ax) (h:aw),YP w h->(K w.params).In h)
  (F:∀(w:ax) (mg:Str->Option af) (fa:L) (h:aw),(K w.params).In h->h.Ns Bd mg->mg d.name=U (.ref fa) ->
   ∃fd:Bc,(∀(s:am) (u:af),BindsTo s fd ⟨[u],[]⟩ [(x,u)]) /\
    ∀base:aw,(K w.params).In base->base.Ns Bd mg->sq l.prog w (K w.params) mg base (tK l.prog w) k fa fd [x] (sp (K w.params)))
  (hsp:∀(K:bu) (H:Hp) (a:L) (ns:List Int),ns.length<=n->zbo H->aT K H a (ns.map V.int)->sp K [.ref a] H (λv _=>v=.bl D) λ_ _ _=>False) :
  se q loose XP YP l.row.toRowW d [] (λf vs=>mF f vs) :=
 zb8 (K:=K) (CX:=λw=>tK l.prog w) (sp:=λw=>sp (K w.params)) hn hn2 hdf hr hY F (λw H a ns h1 h2 h3=>hsp (K w.params) H a ns h1 h2 h3) λ_ _ _ _ _ z=>by
  obtain⟨_,_,_,_,_,_,_,_,_,y⟩:=z;exact y
end L2
namespace L2
open PySem
section
variable {σ:St}{H:Hp}{nx:St->Hp->Prop}{Bo:V->St->Hp->(St->Hp->Prop)->Prop}
theorem W6{lo:Int}(Pv:Nat->St->Hp->Prop)(h0:Pv 0 σ H)(hs:∀i σ H,i<n->Pv i σ H->Bo (.int (lo+i)) σ H (Pv (i+1)))(hd:∀σ H,Pv n σ H->nx σ H) :
  ∃W:Nat->Nat->St->Hp->Prop,(∃m,W 0 m σ H)/\∀i m σ H,W i m σ H->((Itr lo n).stop i H/\nx σ H)\/((Itr lo n).go i H/\∃N:St->Hp->Prop,(∀σ' H',N σ' H'->∃m',m'<m/\W (i+1) m' σ' H')/\∀x H',(Itr lo n).yld i H x H'->Bo x σ H' N):=by
 refine⟨λi m σ H=>m=n-i/\i<=n/\Pv i σ H,⟨n,by simp,bT _,h0⟩,?_⟩;rintro i m σ H ⟨rfl,hi,p⟩;by_cases hlt:i<n
 ·refine .inr ⟨hlt,Pv (i+1),λσ' H' p'=>⟨n-(i+1),(),Y,hlt,p'⟩,?_⟩;rintro x H' ⟨rfl,rfl⟩;exact hs i σ _ hlt p
 ·obtain rfl:i=n:=by lia
  exact .inl ⟨bp _,hd σ H p⟩
theorem yI(xs:List V)(Pv:Nat->St->Hp->Prop)(h0:Pv 0 σ H)(hl:∀i σ H,Pv i σ H->aT K H a xs)(hs:∀i x σ H,xs[i]?=U x->Pv i σ H->Bo x σ H (Pv (i+1)))(hd:∀σ H,Pv xs.length σ H->nx σ H) :
  ∃W:Nat->Nat->St->Hp->Prop,(∃m,W 0 m σ H)/\∀i m σ H,W i m σ H->((Itl K a).stop i H/\nx σ H)\/((Itl K a).go i H/\∃N:St->Hp->Prop,(∀σ' H',N σ' H'->∃m',m'<m/\W (i+1) m' σ' H')/\∀x H',(Itl K a).yld i H x H'->Bo x σ H' N):=by
 refine⟨λi m σ H=>m=xs.length-i/\i<=xs.length/\Pv i σ H,⟨xs.length,by simp,bT _,h0⟩,?_⟩;rintro i m σ H ⟨rfl,hi,p⟩;have q:=hl i σ H p;by_cases hlt:i<xs.length
 ·refine .inr ⟨⟨xs,xs[i],q,by simp[hlt]⟩,Pv (i+1),λσ' H' p'=>⟨xs.length-(i+1),(),Y,hlt,p'⟩,?_⟩;rintro x H' ⟨rfl,y⟩;exact hs i x σ _ (y xs q) p
 ·obtain rfl:i=xs.length:=by lia
  exact .inl ⟨⟨xs,q,bp _⟩,hd σ H p⟩
theorem zdU(xs:List V)(Pv:Nat->St->Hp->Prop)(h0:Pv 0 σ H)(hl:∀i σ H,Pv i σ H->sB K H a xs)(hs:∀i x σ H,xs[i]?=U x->Pv i σ H->Bo x σ H (Pv (i+1)))(hd:∀σ H,Pv xs.length σ H->nx σ H) :
  ∃W:Nat->Nat->St->Hp->Prop,(∃m,W 0 m σ H)/\∀i m σ H,W i m σ H->((Itt K a).stop i H/\nx σ H)\/((Itt K a).go i H/\∃N:St->Hp->Prop,(∀σ' H',N σ' H'->∃m',m'<m/\W (i+1) m' σ' H')/\∀x H',(Itt K a).yld i H x H'->Bo x σ H' N):=by
 refine⟨λi m σ H=>m=xs.length-i/\i<=xs.length/\Pv i σ H,⟨xs.length,by simp,bT _,h0⟩,?_⟩;rintro i m σ H ⟨rfl,hi,p⟩;have q:=hl i σ H p;by_cases hlt:i<xs.length
 ·refine .inr ⟨⟨xs,xs[i],q,by simp[hlt]⟩,Pv (i+1),λσ' H' p'=>⟨xs.length-(i+1),(),Y,hlt,p'⟩,?_⟩;rintro x H' ⟨rfl,y⟩;exact hs i x σ _ (y xs q) p
 ·obtain rfl:i=xs.length:=by lia
  exact .inl ⟨⟨xs,q,bp _⟩,hd σ H p⟩
end
theorem zdV{J:It}{Bq:L}{τ₀:St}{H1:Hp}{Q:Hp->Prop}{Bo:V->St->Hp->(V->St->Hp->Prop)->(St->Hp->Prop)->Prop}(n:Nat)(hn:n<=1000000)(C:St->Prop)(R:Nat->V->Prop)(hC:C τ₀)
  (go:∀i H,aK H1 H->i<n->J.go i H) (stop:∀H,aK H1 H->J.stop n H) (hD:H1 Bq=ao)
  (hs:∀i x τ H H',C τ->aK H1 H->i<n->J.yld i H x H'->Bo x τ H' (λv τ' H4=>C τ'/\R i v/\aK H H4) (λ_ _=>False))
  (hd:∀ys H,ys.length=n->(∀i v,ys[i]?=U v->R i v)->aK H1 H->H Bq=U (.lst ys)->Q H) :
  ∃W:Nat->Nat->List V->St->Hp->Prop,(∃m,W 0 m [] τ₀ (upd H1 Bq (.lst [])))/\∀i m ys τ H,W i m ys τ H->H Bq=U (.lst ys) /\
  ((J.stop i H/\Q H)\/(J.go i H/\ys.length<Bb/\∃N:V->St->Hp->Prop,
   (∀v τ' H',N v τ' H'->H' Bq=U (.lst ys)/\∃m',m'<m/\W (i+1) m' (ys++[v]) τ' (upd H' Bq (.lst (ys++[v]))))/\∃Nf:St->Hp->Prop,(∀τ' H',Nf τ' H'->∃m',m'<m/\W (i+1) m' ys τ' H') /\
   ∀x H',J.yld i H x H'->Bo x τ H' N Nf)):=by
 have ext:∀ {H:Hp} {o:HO},aK H1 H->aK H1 (upd H Bq o):=λ{H o} h b u e=>by
  rw[zk (zy e hD)];exact h b u e
 refine⟨λi m ys τ H=>m=n-i/\i<=n/\ys.length=i/\(∀j v,ys[j]?=U v->R j v)/\aK H1 H/\H Bq=U (.lst ys)/\C τ,⟨n,by simp,bT _,Y,by simp,ext (aK.refl _),zh,hC⟩,?_⟩;rintro i m ys τ H ⟨rfl,hi,hl,hR,hS,hy,hc⟩;refine⟨hy,?_⟩;by_cases hlt:i<n
 ·refine .inr ⟨go i H hS hlt,bV (by lia:ys.length<=1000000) (),(λv τ' H4=>C τ'/\R i v/\aK H H4),?_,(λ_ _=>False),λ_ _ z=>z.elim,λx H' y=>hs i x τ H H' hc hS hlt y⟩;rintro v τ' H4 ⟨c4,r4,s4⟩;refine⟨s4 _ _ hy,n-(i+1),(),Y,hlt,by simp[hl],λj u hj=>?_,ext (hS.trans s4),zh,c4⟩;rcases Nat.lt_trichotomy j ys.length with h|h|h
  ·exact hR j u (by rwa [cT h] at hj)
  ·subst h;simp at hj;subst hj;rw[hl];exact r4
  ·rw[cz (by simp;lia)] at hj;cases hj
 ·obtain rfl:i=n:=by lia
  exact .inl ⟨stop H hS,hd ys H hl hR hS hy⟩
theorem KI(n d:Nat)(v:Int):max (0:Int) (min (if v<0 then v+n else v) n)=((HT.sIx n d (U v):Nat):Int):=by
 show _=(((if v<0 then (v+(n:Int)).toNat else min v.toNat n):Nat):Int);by_cases hv:v<0
 ·simp only[au hv];lia
 ·simp only[ap hv];lia
theorem zfQ(a b:Nat):sliceRange (a:Int) (b:Int) 1=(dt (b-a)).map λk=>a+k:=by
 simp only[sliceRange,show ((1:Int) > 0)=True from by simp,if_true];by_cases hlt:(a:Int)<b
 ·have e3:(((b:Int)-a+1-1)/1).toNat=b-a:=by rw[Int.ediv_one];lia
  simp only[hlt,if_true,e3];refine dy λk _=>?_;lia
 ·have:b-a=0:=by lia
  simp[hlt,this]
theorem zdW(lo hi:Option Int)(n:Nat):lI lo hi 1 n=(dt (HT.sIx n n hi-HT.sIx n 0 lo)).map λk=>HT.sIx n 0 lo+k:=by
 rw[<-zfQ];unfold lI;simp only[show ((1:Int) > 0)=True from by simp,if_true];cases lo with
 |none =>
  cases hi with
  |none=>rfl
  |some v=>simp only[KI n n v];rfl
 |some u =>
  cases hi with
  |none=>simp only[KI n 0 u];rfl
  |some v=>simp only[KI n n v,KI n 0 u]
theorem JP(x:Str)(lo hi:Option Int):(gH x lo hi).cps.toList=(x.cps.toList.drop (HT.sIx x.length 0 lo)).take (HT.sIx x.length x.length hi-HT.sIx x.length 0 lo):=by
 have hb:=HT.sIx_le x.length x.length (bp _) hi;have hn:x.cps.toList.length=x.length:=by simp[iB]
 unfold gH;rw[zdW];split
 ·rename_i h;have h':HT.sIx x.length x.length hi-HT.sIx x.length 0 lo=x.length:=by simpa using h
  have e0:HT.sIx x.length 0 lo=0\/x.length=0:=by lia
  rcases e0 with e0|e0
  ·rw[e0,iJ,cB];lia
  ·rw[fN (by lia:x.cps.toList.length=0)];simp
 ·by_cases hab:HT.sIx x.length 0 lo<=HT.sIx x.length x.length hi
  ·have h:=StrLaws.picks x.cps.toList (HT.sIx x.length x.length hi-HT.sIx x.length 0 lo) (HT.sIx x.length 0 lo) ();simpa using h
  ·have:HT.sIx x.length x.length hi-HT.sIx x.length 0 lo=0:=by lia
   rw[this];simp
theorem W7(x:Str)(k:Nat):(gH x (U (k:Int)) ao).cps.toList=x.cps.toList.drop k:=by
 rw[JP,HT.sIx_none,HT.sIx_nat];have hn:x.cps.toList.length=x.length:=by simp[iB]
 by_cases h:k<=x.length
 ·rw[dZ h,cB (by rw[cG];lia)]
 ·rw[nJ (by lia:x.cps.toList.length<=k),i3 (),nJ ()];simp
theorem QW(x:Str)(k:Nat):(gH x ao (U (k:Int))).cps.toList=x.cps.toList.take k:=by
 rw[JP,HT.sIx_none,HT.sIx_nat,iJ,p8];have hn:x.cps.toList.length=x.length:=by simp[iB]
 by_cases h:k<=x.length
 ·rw[dZ h]
 ·rw[i3 (),cB (),cB ()]
theorem zfR{x y:Str}(h:x.cps.toList=y.cps.toList):x=y:=by
 obtain⟨a⟩:=x;obtain⟨b⟩:=y;have:a=b:=nB.mp h;rw[this]
theorem zfS(x y:Str):(x++y).cps.toList=x.cps.toList++y.cps.toList:=by
 show (x.cps++y.cps).toList=_;simp
open PySem.NumText in
section
def ziB(w:Int):Str:=bg (toString w)
def dg(m:Nat):List Nat:=(Nat.toDigits 10 m).map Char.toNat
theorem YZ(x:Str):x.length=x.cps.toList.length:=by simp[iB]
def inF(c:Nat):Bool:=!(gY "0123456789" ⟨#[c]⟩ 0 (iB "0123456789") 1).isEmpty
def zib(x:Str):Bool:=!decide (x="")&&x.cps.toList.all inF
def sH(i:Int):Bool:=decide (-1000000000000000000000000000000<=i/\i<=1000000000000000000000000000000)
def zgQ(x:Str):Str:=if (x.cps.toList.take 1==[45])=D then gH x (U 1) ao else x
def zdX(x:Str):Int:=(intText? x).getD 0
def zic(x:Str):Bool:=!(decide (31<(zgQ x).length) || !zib (zgQ x))&&(sH (zdX x)&&decide (ziB (zdX x)=x))
end
end L2
namespace L2
open PySem PySem.Spec PyProof.Rows
def zcg(x y:Str):Int:=match gY x y 0 x.length 1 with|i::_=>(i:Int)|[]=>-1
abbrev JQ:RM:=λx xs H Q=>∃a b,x=.str a/\xs=[.str b]/\Q (.int (zcg a b)) H
def JR(sep:Str):List Str->Str
 |[p]=>p
 |l=>mJ sep l
def zdY(sep:Str)(ls:List Str):Nat:=ls.foldl (λn p=>n+p.length+sep.length) 0
abbrev XO(K:bu):RM:=λx xs H Q=>∃sep a ls,x=.str sep/\xs=[.ref a]/\aT K H a (ls.map V.str)/\zdY sep ls<=Bb/\Q (.str (JR sep ls)) H
theorem KJ(sep:Str):∀(ls:List Str) (k:Nat),ls.foldl (λn p=>n+p.length+sep.length) k=k+(ls.map (·.length)).sum+ls.length*sep.length
 |[],k=>by simp
 |p::r,k=>by
  rw[eN,KJ sep r,bw,cC,bU,Nat.add_mul,Nat.one_mul];lia
theorem zc1(sep:Str)(ls:List Str):(JR sep ls).length<=zdY sep ls:=by
 unfold zdY;rw[KJ];have g:(mJ sep ls).length<=0+(ls.map (·.length)).sum+ls.length*sep.length:=by
  rw[size_glued];have:(ls.length-1)*sep.length<=ls.length*sep.length:=Nat.mul_le_mul_right _ ();lia
 unfold JR;split
 ·simp only[bw,nV,cC,List.sum_nil,bU,nT];lia
 ·exact g
theorem zdZ(ls:List Str):(JR "" ls).cps.toList=(ls.map λp=>p.cps.toList).flatten:=by
 have g:∀(r:List Str) (a:Array Nat),(r.foldl (λacc p=>acc++(bg "").cps++p.cps) a).toList=a.toList++(r.map λp=>p.cps.toList).flatten:=by
  intro r;induction r with
  |nil=>intro a;simp
  |cons p r ih =>
   intro a;have e:(bg "").cps=#[]:=by lia
   rw[eN,ih,e];simp
 unfold JR;split
 ·simp
 ·unfold mJ;cases ls with
  |nil=>lia
  |cons p r=>exact g r p.cps
theorem JS:∀ {ls:List Str} {us:List af},aR (ls.map V.str) us->∃l:List (Str×Tok),us=strValues l/\l.map (·.1)=ls
 |[],_,.nil=>⟨[],Y,Y⟩
 |x::r,_,.cons h t=>by
  obtain⟨l,rfl,e⟩:=JS t;obtain⟨k,rfl⟩:=h;exact⟨(x,k)::l,Y,by rw[bw,e]⟩
section
variable {X:Cx}
theorem zfT:MtR X "str.find" JQ:=by
 intro aa s σ H x xs v us Q I rx rs h;obtain⟨a,b,rfl,rfl,q⟩:=h;obtain⟨t,rfl⟩:=rx;obtain⟨u,rfl,t',rfl⟩:=jt rs;exact call_gives F.slot_str_find (oq s a t) F.entry_str_find (F.args_str_find_2 _ _) (gives_str_find a b t t') ⟨.int (zcg a b),H,I.tok _,⟨_,Y⟩,q⟩
theorem zfU:MtR X "str.join" (XO X.K):=by
 intro aa s σ H x xs v us Q I rx rs h;obtain⟨sep,a,ls,rfl,rfl,hq,hl,q⟩:=h;obtain⟨t,rfl⟩:=rx;obtain⟨u,rfl,r1⟩:=jt rs;cases r1;obtain⟨its,rv,p,hz⟩:=I.list hq;obtain⟨l,rfl,e⟩:=JS rv;have tl:oN ((l.map (·.1)).toArray.foldl (· + ·.length+sep.length) 0)=aq:=by
  rw[e,List.foldl_toArray];unfold oN;exact Bk (by unfold zdY at hl;lia)
 have jl:=zc1 sep ls;refine iC F.slot_str_join (oq s sep t) F.entry_str_join (F.args_str_join_2 _ _) (meets_str_join_list sep t a l tl) ⟨p.isList,?_⟩;subst e
 match l,q,jl,hl with
 |[],q,jl,hl=>exact⟨bN jl hl,.str _,H,I.tok _,⟨_,Y⟩,q⟩
 |[p],q,jl,hl=>exact⟨.str p.1,H,I,⟨_,Y⟩,q⟩
 |p::p'::r,q,jl,hl=>exact⟨bN jl hl,.str _,H,I.tok _,⟨_,Y⟩,q⟩
end
theorem vH(x y:Str):(x++y).length=x.length+y.length:=mI x y
def zgR(_ j:Int):Prop:=j≠0/\-big<j/\j<big
section
variable {X:Cx}
theorem zd0:ti X (binaryOp .FloorDiv) (rI zgR λi j=>.int (i.fdiv j)):=opI λi j _ _ _ _ _ hc q =>
 floordiv_int hc.1 q (.inl (mH (pZ (W5 (KH hc.2)) ())))
abbrev zgS:RC:=λxs H Q=>∃b:Bool,xs=[.bl b]/\Q (.int (if b then 1 else 0)) H
theorem QY:jZ X (.type "int") zgS:=by
 intro aa s σ H xs us Q I r h;obtain⟨b,rfl,q⟩:=h;obtain⟨u,rfl,r1⟩:=jt r;cases r1;exact call_int_bool ⟨.int _,H,I.tok _,⟨_,Y⟩,q⟩
end
theorem zc2(r:sy k A):A.units+64<cLine:=by have:=r.un;lia
def qI:V->PyData
 |.non=>.none
 |.bl b=>.bool b
 |.int i=>.int i
 |.str x=>.str x
 |_=>.none
def yP:V->Bool
 |.non=>D
 |.bl _=>D
 |.int _=>D
 |.str x=>b9 x
 |_=>aq
theorem Asc.flat(h:Asc x):yP (.str x)=D:=by
 unfold yP b9;rw[Array.all_eq_true];intro i hi;have:=h x.cps[i] (by simp);exact Bj ()
def zhm:V->V->Bool
 |.bl _,.int _=>aq
 |.int _,.bl _=>aq
 |_,_=>D
def KK:List V->List V->Bool
 |x::xs,y::ys=>zhm x y&&KK xs ys
 |_,_=>D
theorem vX:∀ {xs:List V} {us:List af},xs.all yP=D->aR xs us->CarriedAll us (xs.map qI)
 |[],_,_,.nil=>.nil
 |x::r,_,h,.cons rx t=>by
  rw[gm,bW] at h;refine .cons ?_ (vX h.2 t);cases x with
  |non=>cases rx;exact .none
  |bl b=>cases rx;exact .bool b
  |int i=>obtain⟨t,rfl⟩:=rx;exact .int i t
  |str x=>obtain⟨t,rfl⟩:=rx;exact .str x t
  |byt b=>exact absurd h.1 (by simp[yP])
  |flt b=>exact absurd h.1 (by simp[yP])
  |ref a=>exact absurd h.1 (by simp[yP])
  |ty n=>exact absurd h.1 (by simp[yP])
theorem zd1(hx:yP x=D)(hy:yP y=D):rQ (qI x) (qI y)=decide (x=y):=by
 cases x <;> cases y <;> simp_all [yP,qI,rQ] <;> (rename_i a b;by_cases e:a=b <;> simp[e])
theorem qQ:∀ {xs ys:List V},xs.all yP=D->ys.all yP=D->l9 (xs.map qI) (ys.map qI)=decide (xs=ys)
 |[],[],_,_=>by simp[l9]
 |[],_::_,_,_=>by simp[l9]
 |_::_,[],_,_=>by simp[l9]
 |x::r,y::t,hx,hy=>by
  rw[gm,bW] at hx hy;rw[bw,bw,l9,zd1 hx.1 hy.1,qQ hx.2 hy.2];by_cases a:x=y <;> by_cases b:r=t <;> simp[a,b]
theorem zc3(hx:yP x=D)(hy:yP y=D)(h:zhm x y=D):oO (qI x) (qI y)=D:=by
 cases x <;> cases y <;> simp_all [yP,qI,oO,zhm]
theorem kT:∀ {xs ys:List V},xs.all yP=D->ys.all yP=D->KK xs ys=D->iK (xs.map qI) (ys.map qI)=D
 |[],[],_,_,_=>by simp[iK]
 |[],_::_,_,_,_=>by simp[iK]
 |_::_,[],_,_,_=>by simp[iK]
 |x::r,y::t,hx,hy,h=>by
  rw[gm,bW] at hx hy;rw[KK,bW] at h;rw[bw,bw,iK,zc3 hx.1 hy.1 h.1,kT hx.2 hy.2 h.2];rfl
theorem kU{xs:List V}(h:xs.all yP=D):iR (.list (xs.map qI))=D/\iR (.tuple (xs.map qI))=D:=by
 have a:∀x,yP x=D->(qI x).canLay0=D/\(qI x).depth=0:=λx=>by cases x <;> simp[qI,eX,ma,yP]
 have l:∀ys:List V,ys.all yP=D->gq (ys.map qI)=D/\fZ (ys.map qI)=0:=by
  intro ys;induction ys with
  |nil=>exact λ_=>⟨Y,Y⟩
  |cons y r ih =>
   intro h;rw[gm,bW] at h;exact⟨by rw[bw,gq,(a y h.1).1,(ih h.2).1];rfl,by rw[bw,fZ,(a y h.1).2,(ih h.2).2];rfl⟩
 exact⟨by simp[iR,eX,ma,(l xs h).1,(l xs h).2],by simp[iR,eX,ma,(l xs h).1,(l xs h).2]⟩
abbrev zid(K:bu)(neg:Bool):R2:=λx y H Q=>∃a b xs ys,x=.ref a/\y=.ref b/\aT K H a xs/\aT K H b ys/\(xs.all yP=D/\ys.all yP=D/\KK xs ys=D)/\Q (.bl (if neg then !decide (xs=ys) else decide (xs=ys))) H
section
variable {X:Cx}
theorem zhn(hu:X.A.units+64<cLine):ti X (Bi .Eq) (zid X.K aq):=by
 intro aa s σ H x y v u Q I rx ry h;obtain⟨a,b,xs,ys,rfl,rfl,ha,hb,⟨f1,f2,f3⟩,q⟩:=h;cases rx;cases ry;obtain⟨us,r1,p1,_⟩:=I.list ha;obtain⟨ws,r2,p2,_⟩:=I.list hb;refine eq_dataH_same (m3 p1.isList (vX f1 r1)) (m3 p2.isList (vX f2 r2)) (kU f1).1 (kU f2).1 hu (by rw[oO];exact kT f1 f2 f3) ?_;rw[rQ,qQ f1 f2];exact⟨.bl _,H,I,Y,q⟩
theorem zho(hu:X.A.units+64<cLine):ti X (Bi .NotEq) (zid X.K D):=by
 intro aa s σ H x y v u Q I rx ry h;obtain⟨a,b,xs,ys,rfl,rfl,ha,hb,⟨f1,f2,f3⟩,q⟩:=h;cases rx;cases ry;obtain⟨us,r1,p1,_⟩:=I.list ha;obtain⟨ws,r2,p2,_⟩:=I.list hb;refine ne_dataH_same (m3 p1.isList (vX f1 r1)) (m3 p2.isList (vX f2 r2)) (kU f1).1 (kU f2).1 hu (by rw[oO];exact kT f1 f2 f3) ?_;rw[rQ,qQ f1 f2];exact⟨.bl _,H,I,Y,q⟩
abbrev zbr(K:bu):R2:=λx y H Q=>∃a b xs,x=.ref a/\y=.ref b/\aT K H a xs/\aT K H b []/\Q (.bl (decide (xs=[]))) H
theorem QZ(hu:X.A.units+64<cLine):ti X (Bi .Eq) (zbr X.K):=by
 intro aa s σ H x y v u Q I rx ry h;obtain⟨a,b,xs,rfl,rfl,ha,hb,q⟩:=h;by_cases e:xs=[]
 ·subst e;exact zhn hu aa s σ H _ _ v u Q I rx ry ⟨a,b,[],[],Y,Y,ha,hb,⟨Y,Y,Y⟩,q⟩
 ·cases rx;cases ry;obtain⟨us,r1,p1,_⟩:=I.list ha;obtain⟨ws,r2,p2,_⟩:=I.list hb;cases r2;have e1:=r1.length;have e2:xs.length≠0:=λz=>e (fN z);refine PySem.SeqAt.eq_list_lengthsAt p1.isList p2.isList (by simp;intro z;rw[z] at e1;exact e2 e1) () ?_;rw[Bk e] at q;exact⟨.bl aq,H,I,Y,q⟩
end
abbrev yH:RM:=zb6
abbrev W8:RM:=zh7
def jw:List V:=[.str "plus",.str "minus",.str "times",.str "over",.str "rest",.str "under",.str "same"]
def isJ(v:V):Bool:=inV v jw
inductive Er where
 |nought|great|stuck
 deriving DecidableEq
def W9(w:Str)(a b:Int):Int :=
 if w="plus" then a+b else if w="minus" then a-b else if w="times" then a*b else if w="under" then (if a<b then 1 else 0) else if w="same" then (if a=b then 1 else 0) else if w="over" then a.fdiv b else a.fmod b
def Va(w:Str):Prop:=¬ w="plus"/\¬ w="minus"/\¬ w="times"/\¬ w="under"/\¬ w="same"
instance (w:Str):Decidable (Va w):=by unfold Va;infer_instance
def ko(w:Str)(a b:Int):Except Er Int:=if Va w/\b=0 then .error .nought else if sH (W9 w a b)=D then .ok (W9 w a b) else .error .great
def zd2(ah:List (aV×V)):V->Int
 |.int i=>i
 |.str x=>(match yc ah (.inr x) with|some (.int i)=>i|_=>0)
 |_=>0
def wF(ah:List (aV×V))(st:List Int)(v:V):Except Er (List Int) :=
 if isJ v=D then (match v,st.reverse with|.str w,b::a::r=>(match ko w a b with|.ok c=>.ok (r.reverse++[c])|.error e=>.error e)|_,_=>.error .stuck) else .ok (st++[zd2 ah v])
def wK(ah:List (aV×V)):List V->List Int->Except Er (List Int)
 |[],st=>.ok st
 |v::r,st=>match wF ah st v with|.ok st'=>wK ah r st'|.error e=>.error e
section
variable {ah:List (aV×V)}
theorem qR:∀(p q:List V) (st:List Int),wK ah (p++q) st=match wK ah p st with|.ok st'=>wK ah q st'|.error e=>.error e
 |[],q,st=>rfl
 |v::r,q,st=>by
  show (match wF ah st v with|.ok st'=>wK ah (r++q) st'|.error e=>.error e)=match (match wF ah st v with|.ok st'=>wK ah r st'|.error e=>.error e) with|.ok st'=>wK ah q st'|.error e=>.error e
  cases wF ah st v with
  |error e=>rfl
  |ok st'=>exact qR r q st'
def Good(ah:List (aV×V))(ps:List V)(r:Except Er Int):Prop:=(∀st,wK ah ps st=match r with|.ok i=>.ok (st++[i])|.error e=>.error e)/\r≠.error .stuck
theorem zc4(h:isJ v=aq):Good ah [v] (.ok (zd2 ah v)):=by
 refine⟨λst=>?_,λz=>nomatch z⟩;unfold wK wF;rw[h,ap ()];rfl
def zgT(w:Str)(r1 r2:Except Er Int):Except Er Int:=match r1 with|.error e=>.error e|.ok a=>match r2 with|.error e=>.error e|.ok b=>ko w a b
theorem zd3(w:Str)(a b:Int):ko w a b≠.error .stuck:=by
 unfold ko;split
 ·exact λz=>nomatch z
 ·split <;> exact λz=>nomatch z
theorem zc5{r1 r2:Except Er Int}(hw:isJ (.str w)=D)(g1:Good ah p1 r1)(g2:Good ah p2 r2):Good ah (p1++p2++[.str w]) (zgT w r1 r2):=by
 refine⟨λst=>?_,?_⟩
 ·rw[qR,qR,g1.1];cases r1 with
  |error e=>rfl
  |ok a =>
   show (match wK ah p2 (st++[a]) with|.ok st'=>wK ah [.str w] st'|.error e=>.error e)=_;rw[g2.1];cases r2 with
   |error e=>rfl
   |ok b =>
    show wK ah [.str w] (st++[a]++[b])=match ko w a b with|.ok i=>.ok (st++[i])|.error e=>.error e
    unfold wK wF;rw[hw,au rfl];simp only[oP,pP,rC,gb,dJ,cH];cases ko w a b with
    |error e=>rfl
    |ok c=>simp[wK]
 ·unfold zgT;cases r1 with
  |error e=>exact g1.2
  |ok a =>
   cases r2 with
   |error e=>exact g2.2
   |ok b=>exact zd3 w a b
theorem zch{st:List Int}(h:wK ah (ps.take i) st=.error e):wK ah ps st=.error e:=by
 have:=qR (ah:=ah) (ps.take i) (ps.drop i) st;rw[eU,h] at this;exact this
theorem zfV{ps:List V}{i:Nat}{st st0:List Int}(h:wK ah (ps.take i) st0=.ok st)(hv:ps[i]?=U v):wK ah (ps.take (i+1)) st0=wF ah st v:=by
 rw[cU,hv];show wK ah (ps.take i++[v]) st0=_;rw[qR,h];show (match wF ah st v with|.ok st'=>wK ah [] st'|.error e=>.error e)=_;cases wF ah st v <;> rfl
end
def kW(v:V):Prop:=(∃i,v=.int i/\sH i=D)\/∃x:Str,v=.str x/\x.length<=1000
def xb(ah:List (aV×V)):Prop:=∀k v,yc ah k=U v->∃i,v=.int i/\sH i=D
theorem Q5(h:xb ah)(hv:kW v):sH (zd2 ah v)=D:=by
 rcases hv with ⟨i,rfl,hi⟩|⟨x,rfl,_⟩
 ·exact hi
 ·show sH (match yc ah (.inr x) with|some (.int i)=>i|_=>0)=D;cases e:yc ah (.inr x) with
  |none=>rfl
  |some u =>
   obtain⟨i,rfl,hi⟩:=h _ _ e;exact hi
theorem tL{i:Int}:sH i=D↔-1000000000000000000000000000000<=i/\i<=1000000000000000000000000000000:=by unfold sH;rw[decide_eq_true_eq]
theorem KL{i:Int}(h:sH i=D):-big<i/\i<big:=by
 have:=tL.mp h;have hb:(1000000000000000000000000000001:Int)<big:=by lia
 lia
abbrev zd4(K:bu):RC:=λxs H Q=>∃p ys,xs=[.ref p]/\(aT K H p ys\/sB K H p ys)/\∀l,H l=ao->Q (.ref l) (upd H l (.lst ys))
def inL(c:Nat):Bool:=!(gY "abcdefghijklmnopqrstuvwxyz" ⟨#[c]⟩ 0 (iB "abcdefghijklmnopqrstuvwxyz") 1).isEmpty
def wl:List V:=[.str "take",.str "give",.str "let",.str "say",.str "off",.str "if",.str "else",.str "end",.str "as"]
def yQ(x:Str):Bool:=!(decide (x="") || decide (6<x.length)) && !(inV (.str x) jw || inV (.str x) wl)&&x.cps.toList.all inL
theorem zfW(c:Nat):inL c=D->97<=c/\c<=122:=by
 unfold inL;rw[StrLaws.found_one,decide_eq_true_eq];exact(by lia:∀c∈(bg "abcdefghijklmnopqrstuvwxyz").cps.toList,97<=c/\c<=122) c
theorem Y0(h:yQ x=D):x.cps.toList≠[]/\x.length<=6/\isJ (.str x)=aq/\x.cps.toList.all inL=D:=by
 unfold yQ at h;rw[bW,bW,mK,mK,i7,i7,decide_eq_false_iff_not,decide_eq_false_iff_not] at h;refine⟨λz=>h.1.1.1 (zfR (by rw[z];lia)),(),h.1.2.1,h.2⟩
def zd5(w:Str):Option V:=if yQ w=D then U (.str w) else if zic w=D then U (.int (zdX w)) else ao
inductive Tw where
 |leaf (w:Str)|node (w:Str) (a b:Tw)
def pre:Tw->List Str
 |.leaf w=>[w]
 |.node w a b=>w::(pre a++pre b)
def wfT:Tw->Prop
 |.leaf w=>isJ (.str w)=aq
 |.node w a b=>isJ (.str w)=D/\wfT a/\wfT b
def okT:Tw->Bool
 |.leaf w=>(zd5 w).isSome
 |.node _ a b=>okT a&&okT b
def pvw(w:Str):V:=(zd5 w).getD (.str w)
def pst:Tw->List V
 |.leaf w=>[pvw w]
 |.node w a b=>pst a++pst b++[.str w]
def zie:List Str->Nat->Option Nat
 |_,0=>U 0
 |[],_+1=>ao
 |w::r,d+1=>(zie r (if isJ (.str w)=D then d+2 else d)).map (· + 1)
def xj(st:List (List V))(w:Str):Except Bool (List (List V)) :=
 if isJ (.str w)=D then (match st.reverse with|a::b::r=>.ok (r.reverse++[a++b++[.str w]])|_=>.error aq) else (match zd5 w with|some v=>.ok (st++[[v]])|none=>.error D)
def zbs:List Str->List (List V)->Except Bool (List (List V))
 |[],st=>.ok st
 |w::r,st=>match xj st w with|.ok st'=>zbs r st'|.error e=>.error e
theorem zd6:∀(p q:List Str) (st:List (List V)),zbs (p++q) st=match zbs p st with|.ok st'=>zbs q st'|.error e=>.error e
 |[],q,st=>rfl
 |v::r,q,st=>by
  show (match xj st v with|.ok st'=>zbs (r++q) st'|.error e=>.error e)=match (match xj st v with|.ok st'=>zbs r st'|.error e=>.error e) with|.ok st'=>zbs q st'|.error e=>.error e
  cases xj st v with
  |error e=>rfl
  |ok st'=>exact zd6 r q st'
theorem zbt :Be (.Constant c j p::es) env=(aq,eval (.Constant c j p) env)::Be es env:=by
 first|rfl|simp only[Be]
theorem kX{t:TA}(hr:PA X es t):PA X (.Constant (.str x) j p::es) (zc (tC (.str x)) t):=za zE hr zbt
section
variable {X:Cx}
theorem zd7{ah:List (aV×V)}{k:aV}(h:yc ah k=U v):∃p∈ah,p.2=v:=by
 unfold yc at h;obtain⟨p,hp,e⟩:=bY.mp h;exact⟨p,List.mem_of_find?_eq_some hp,e⟩
end
theorem zd8(h:yQ x=D):Asc x:=λc hc=>by
 have:=zfW c (List.all_eq_true.mp (Y0 h).2.2.2 c hc);lia
section
variable {P:av}{w:ax}{A:ay}{E:af->am->Prop}{s:am}
theorem zd9{Q:af->am->Prop}(hi:s.heap.IsTupleIter it tp i)(ht:s.heap.IsTuple tp xs)
  (yes:∀x h,xs[i]?=U x->h.IsTupleIter it tp (i+1)->cF it s.heap h->Q x { s with heap:=h })
  (no:xs[i]?=ao->A.handled=ao/\∀h e,rR it s.heap h->(∃o,h.get? e=U o/\o.cls=.type "StopIteration")->E (.ref e) { s with heap:=h }) :
  Bf (Bg P w) A (dR (.ref it)) Q E s:=by
 obtain⟨o,ho,hc,hd⟩:=id hi;obtain⟨q,hq,_,n,hq2⟩:=ht;unfold dR;refine ba (cK (name:=bg "__next__") hi.typeIs lT (cI lT hi.typeIs F.entry_tuple_iterator_next ?_ (F.args_tuple_iterator_next_1 _)));show Bf _ _ (field (.ref it) 0 >>= _) _ _ s;refine ba (dz ho hd (x:=.ref tp) Y ?_);show Bf _ _ (if (bI tp==cE)=D then _ else _) _ _ s;rw[ap (show ¬ ((bI tp==cE)=D) from bK)];show Bf _ _ (field (.ref it) 1 >>= _) _ _ s;refine ba (dz ho hd (x:=.int i 0) Y ?_);show Bf _ _ (seqItems? (.ref tp) >>= _) _ _ s;refine ba (eY hq hq2 ?_);cases hx:xs[i]? with
 |some x =>
  simp only[dO,hx];refine ba (iL ho hd (by simp) (bd ⟨x,Y,bd (yes x _ hx ?_ (cR ..))⟩));refine⟨_,ef _ ho (nX (gZ hd _)),(pQ ..).trans hc,?_⟩;rw[gZ hd];simp[rawInt]
 |none =>
  obtain⟨hh,no⟩:=no hx;simp only[dO,hx];refine ba (lq (ba (iL ho hd (by simp) ?_)));show Bf _ _ (newExc (.type "StopIteration") [] >>= _) _ _ _;refine ba ?_;simp only[newExc,newTuple];refine ba (cN ?_ (by size_fits));refine ba (m:=firstArgMember _ _) (wpAny_of_eq (a:=cE) (by first|rfl|(simp only[firstArgMember];rfl)) ?_);refine cN ?_ (by size_fits);simp only[raiseNew];refine ba (pq ?_);first|rw[show A.in1.handled=ao from hh]|rw[hh]
  refine ba (bd (wpAny_throw ?_));exact no _ _ (((cR ..).extBut.push _).push _) ⟨_,bE _ Y,Y⟩
end
section
variable {P:av}{w:ax}{A:ay}{E:af->am->Prop}{s:am}
structure XQ(z a b i j p q:L):Prop where
 az:a≠z
 bz:b≠z
 iz:i≠z
 jz:j≠z
 ab:a≠b
 ai:a≠i
 aj:a≠j
 bi:b≠i
 bj:b≠j
 ij:i≠j
 pz:p≠z
 pb:p≠b
 pi:p≠i
 pj:p≠j
 qz:q≠z
 qb:q≠b
 qi:q≠i
 qj:q≠j
def ZT(z a b i j p q:L)(k:Nat)(h:aw):Prop:=IsZip h z a b .none/\IsPair h a (.ref i) (.ref j)/\(∃u v,IsPair h b u v)/\h.IsTupleIter i p k/\h.IsTupleIter j q k
theorem zc6{Q:af->am->Prop}(Bq:XQ z a b i j p q)(st:ZT z a b i j p q k s.heap)
  (hp:s.heap.IsTuple p xs) (hq:s.heap.IsTuple q ys) (hx:xs[k]?=U x) (hy:ys[k]?=U y)
  (cont:∀g h,(∀c o,c ∉ [z,b,i,j]->s.heap.get? c=U o->g.get? c=U o)->g.objs.size=s.heap.objs.size->IsPair g b x y->g.IsTupleIter i p (k+1)->g.IsTupleIter j q (k+1) ->
   cF z (g.push { cls:=.type "tuple",data:=.seq #[x,y] }) h->IsZip h z a b (rawInt g.objs.size)->Q (.ref g.objs.size) { s with heap:=h }) :
  Bf (Bg P w) A (Builtin.«zip.__next__» ⟨[.ref z],[]⟩) (λr s'=>∃v,r=.done (.ret v)/\Q v s') E s:=by
 obtain⟨hz,ha,⟨u,v,hb⟩,hi,hj⟩:=st;show Bf _ _ (field (.ref z) 2 >>= _) _ _ _;refine ba (dz hz Y (x:=.bool aq) Y ?_);show Bf _ _ (field (.ref z) 3 >>= _) _ _ _;refine ba (dz hz Y (x:=.ref a) Y ?_);refine ba (eY ha Y ?_);show Bf _ _ (dA (.ref z) >>= _) _ _ _;refine ba ?_;unfold dA;refine ba (dz hz Y (x:=.none) Y (bd ?_));simp only[if_true];refine ba (lq ?_);refine ba (dz hz Y (x:=.ref b) Y ?_);refine ba (cP hz (by simp) λg1 z1 r1=>?_);replace z1:IsZip g1 z a b .ellipsis:=z1;refine ba ?_;simp only[rD,rS,nW,List.forIn_nil];refine ba (ba (pA ?_));show Bf _ _ (dR (.ref i) >>= _) _ _ _;refine ba (zd9 (hi.extBut r1.extBut Bq.iz) (hp.extBut r1.extBut Bq.pz) (λx' g2 ex i2 r2=>bd ?_) λex=>by rw[hx] at ex;cases ex);obtain rfl:x'=x:=bJ (ex.symm.trans hx);have b2:IsPair g2 b u v:=r2.extBut _ _ Bq.bi (r1.extBut _ _ Bq.bz hb);refine ba (eY b2 Y ?_);refine ba (ou b2 λg3 b3 r3=>?_);replace b3:IsPair g3 b x' v:=b3;refine ba (m4 (bd ?_));refine ba (ba (pA ?_));show Bf _ _ (dR (.ref j) >>= _) _ _ _;refine ba (zd9 (((hj.extBut r1.extBut Bq.jz).extBut r2.extBut Bq.ij.symm).extBut r3.extBut Bq.bj.symm) (((hq.extBut r1.extBut Bq.qz).extBut r2.extBut Bq.qi).extBut r3.extBut Bq.qb) (λy' g4 ey j4 r4=>bd ?_) λey=>by rw[hy] at ey;cases ey);obtain rfl:y'=y:=bJ (ey.symm.trans hy);have b4:IsPair g4 b x' v:=r4.extBut _ _ Bq.bj b3;refine ba (eY b4 Y ?_);refine ba (ou b4 λg5 b5 r5=>?_);replace b5:IsPair g5 b x' y':=b5;refine ba (m4 (bd (bd ?_)));refine ba (eY b5 Y ?_);refine ba (oF ?_);have sz:g5.objs.size=s.heap.objs.size:=by rw[r5.1,r4.1,r3.1,r2.1,r1.1]
 have z5:IsZip g5 z a b .ellipsis:=r5.extBut _ _ Bq.bz.symm (r4.extBut _ _ Bq.jz.symm (r3.extBut _ _ Bq.bz.symm (r2.extBut _ _ Bq.iz.symm z1)));have k5:∀c o,c ∉ [z,b,i,j]->s.heap.get? c=U o->g5.get? c=U o:=λc o hc e=>by
  simp only[bD,dh,or_false,not_or] at hc;exact r5.extBut _ _ hc.2.1 (r4.extBut _ _ hc.2.2.2 (r3.extBut _ _ hc.2.1 (r2.extBut _ _ hc.2.2.1 (r1.extBut _ _ hc.1 e))))
 have i5:g5.IsTupleIter i p (k+1):=((i2.extBut r3.extBut Bq.bi.symm).extBut r4.extBut Bq.ij).extBut r5.extBut Bq.bi.symm;have j5:g5.IsTupleIter j q (k+1):=j4.extBut r5.extBut Bq.bj.symm;show Bf _ _ (gI (.ref z) (.ref g5.objs.size) >>= _) _ _ _;refine ba ?_;unfold gI;have z6:IsZip (g5.push { cls:=.type "tuple",data:=.seq #[x',y'] }) z a b .ellipsis:=bc _ z5;refine ba (cP z6 (by simp) λg7 z7 r7=>?_);replace z7:IsZip g7 z a b (rawInt g5.objs.size):=z7;refine cP z7 (by simp) λg8 z8 r8=>?_;replace z8:IsZip g8 z a b (rawInt g5.objs.size):=z8;exact bd ⟨_,Y,cont g5 g8 k5 sz b5 i5 j5 ⟨r8.1.trans r7.1,λc hc=>(r8.2 c hc).trans (r7.2 c hc)⟩ z8⟩
theorem zea{Q:Fin->am->Prop}(hh:A.handled=ao)(Bq:XQ z a b i j p q)(st:ZT z a b i j p q k s.heap)
  (hp:s.heap.IsTuple p xs) (hq:s.heap.IsTuple q ys) (hx:xs[k]?=ao) (hE:∀h e,(∀c o,c ∉ [z,b,i,j]->s.heap.get? c=U o->h.get? c=U o)->(∃o,h.get? e=U o/\o.cls=.type "StopIteration")->E (.ref e) { s with heap:=h }) :
  Bf (Bg P w) A (Builtin.«zip.__next__» ⟨[.ref z],[]⟩) Q E s:=by
 obtain⟨hz,ha,⟨u,v,hb⟩,hi,hj⟩:=st;show Bf _ _ (field (.ref z) 2 >>= _) _ _ _;refine ba (dz hz Y (x:=.bool aq) Y ?_);show Bf _ _ (field (.ref z) 3 >>= _) _ _ _;refine ba (dz hz Y (x:=.ref a) Y ?_);refine ba (eY ha Y ?_);show Bf _ _ (dA (.ref z) >>= _) _ _ _;refine ba ?_;unfold dA;refine ba (dz hz Y (x:=.none) Y (bd ?_));simp only[if_true];refine ba (lq ?_);refine ba (dz hz Y (x:=.ref b) Y ?_);refine ba (cP hz (by simp) λg1 z1 r1=>?_);replace z1:IsZip g1 z a b .ellipsis:=z1;refine ba ?_;simp only[rD,rS,nW,List.forIn_nil];refine ba (ba (pA ?_));show Bf _ _ (dR (.ref i) >>= _) _ _ _;refine ba (zd9 (hi.extBut r1.extBut Bq.iz) (hp.extBut r1.extBut Bq.pz) (λx' g2 ex i2 r2=>by rw[hx] at ex;cases ex) λex=>⟨hh,λg2 e r2 he=>?_⟩);obtain⟨oe,hoe,hce⟩:=he;have z2:IsZip g2 z a b .ellipsis:=r2 _ _ Bq.iz.symm z1;have ez:e≠z:=λx=>by subst x;rw[z2] at hoe;cases hoe;simp at hce
 refine cP z2 (by simp) λg3 _ r3=>hE g3 e (λc o hc y=>?_) ⟨oe,r3.extBut _ _ ez hoe,hce⟩;simp only[bD,dh,or_false,not_or] at hc;exact r3.extBut _ _ hc.1 (r2 _ _ hc.2.2.1 (r1.extBut _ _ hc.1 y))
theorem zbu{Q:Option af->am->Prop}(Bq:XQ z a b i j p q)(st:ZT z a b i j p q k s.heap)
  (hp:s.heap.IsTuple p xs) (hq:s.heap.IsTuple q ys) (hx:xs[k]?=U x) (hy:ys[k]?=U y)
  (cont:∀g h,(∀c o,c ∉ [z,b,i,j]->s.heap.get? c=U o->g.get? c=U o)->g.objs.size=s.heap.objs.size->IsPair g b x y->g.IsTupleIter i p (k+1)->g.IsTupleIter j q (k+1) ->
   cF z (g.push { cls:=.type "tuple",data:=.seq #[x,y] }) h->IsZip h z a b (rawInt g.objs.size)->Q (U (.ref g.objs.size)) { s with heap:=h }) :
  Bf (Bg P w) A (pyNext (.ref z)) Q E s:=by
 have T:s.TypeIs (.ref z) "zip":=⟨_,st.1,Y⟩;unfold pyNext;exact ba (ib (cK (name:=bg "__next__") T lJ (cI lJ T F.entry_zip_next
   (zc6 Bq st hp hq hx hy λg h a1 a2 a3 a4 a5 a6 a7=>bd (cont g h a1 a2 a3 a4 a5 a6 a7)) (F.args_zip_next_1 _))))
theorem zc7{Q:Option af->am->Prop}(hh:A.handled=ao)(Bq:XQ z a b i j p q)(st:ZT z a b i j p q k s.heap)
  (hp:s.heap.IsTuple p xs) (hq:s.heap.IsTuple q ys) (hx:xs[k]?=ao) (cont:∀h,(∀c o,c ∉ [z,b,i,j]->s.heap.get? c=U o->h.get? c=U o)->Q ao { s with heap:=h }):Bf (Bg P w) A (pyNext (.ref z)) Q E s:=by
 have T:s.TypeIs (.ref z) "zip":=⟨_,st.1,Y⟩;unfold pyNext;refine ba (ib (cK (name:=bg "__next__") T lJ (cI lJ T F.entry_zip_next (zea hh Bq st hp hq hx λh e hk he=>?_) (F.args_zip_next_1 _))));obtain⟨o,ho,hc⟩:=he;exact ba (nD (T:="StopIteration") (b:=D) ⟨o,ho,hc⟩ oG (bd (cont _ hk)))
end
abbrev zp1(h:aw)(p:L):aw:=h.push { cls:=.type "tuple_iterator",data:=.fields #[.ref p,.int 0 0] }
abbrev zp3(h:aw)(p q:L):aw:=(zp1 (zp1 h p) q).push { cls:=.type "tuple",data:=.seq #[.ref h.objs.size,.ref (zp1 h p).objs.size] }
abbrev zp4(h:aw)(p q:L):aw:=(zp3 h p q).push { cls:=.type "tuple",data:=.seq #[.none,.none] }
abbrev zp5(h:aw)(p q:L):aw:=(zp4 h p q).push { cls:=.type "zip",data:=.fields #[.none,.bool aq,.bool aq,.ref (zp1 (zp1 h p) q).objs.size,.ref (zp3 h p q).objs.size] }
theorem zbv(p q:L)(xs ys:Array af):Meets (Builtin.«zip.__new__» ⟨[.type "zip",.ref p,.ref q],[]⟩) (λ_ R s=>s.heap.IsTuple p xs/\s.heap.IsTuple q ys /\
   R (.ok (.ret (.ref (zp4 s.heap p q).objs.size))) { s with heap:=zp5 s.heap p q }) :=
 .of_wp λprog w A R s h=>by
  obtain⟨hp,g,d,tk,os⟩:=s;obtain⟨h1,h2,h⟩:=h;have hsub:=sub_zip;have l1:Heap.IsTuple (Shared.heap ⟨hp,g,d,tk,os⟩) p xs:=h1;have l2:Heap.IsTuple (Shared.heap ⟨hp.push { cls:=.type "tuple_iterator",data:=.fields #[.ref p,.int 0 0] },g,d,tk,os⟩) q ys:=Heap.IsTuple.push h2 _
  wp_walk using lW l1,lW l2
  exact⟨_,Y,h⟩
section
variable {P:av}{w:ax}{A:ay}{E:af->am->Prop}{s:am}
theorem zc8{Q:af->am->Prop}(hp:s.heap.IsTuple p xs)(hq:s.heap.IsTuple q ys)
  (h:∀h',ZT (s.heap.objs.size+4) (s.heap.objs.size+2) (s.heap.objs.size+3) s.heap.objs.size (s.heap.objs.size+1) p q 0 h'->(∀c o,s.heap.get? c=U o->h'.get? c=U o)->Q (.ref (s.heap.objs.size+4)) { s with heap:=h' }) :
  Bf (Bg P w) A (call (.type "zip") [.ref p,.ref q]) Q E s:=by
 refine callType_new F.called_zip () (F.typeCall_zip_2 _ _) (F.newCall_zip_2 _ _) (λobj=>F.args_object_init_3 obj _ _) F.entry_zip_new (zbv p q xs ys) ⟨hp,hq,?_⟩;have e1:(zp1 s.heap p).objs.size=s.heap.objs.size+1:=eI ..;have e2:(zp1 (zp1 s.heap p) q).objs.size=s.heap.objs.size+2:=by rw[eI,e1]
 have e3:(zp3 s.heap p q).objs.size=s.heap.objs.size+3:=by rw[eI,e2]
 have e4:(zp4 s.heap p q).objs.size=s.heap.objs.size+4:=by rw[eI,e3]
 have f5:(zp5 s.heap p q).get? (zp4 s.heap p q).objs.size=U _:=bE _ rfl;have f4:(zp5 s.heap p q).get? (zp3 s.heap p q).objs.size=U _:=bc _ (bE _ Y);have f3:(zp5 s.heap p q).get? (zp1 (zp1 s.heap p) q).objs.size=U _:=bc _ (bc _ (bE _ Y));have f2:(zp5 s.heap p q).get? (zp1 s.heap p).objs.size=U _:=bc _ (bc _ (bc _ (bE _ Y)));have f1:(zp5 s.heap p q).get? s.heap.objs.size=U _:=bc _ (bc _ (bc _ (bc _ (bE _ Y))));show _/\_;rw[e2,e3,e4] at f5;rw[e1,e2] at f3;rw[e3] at f4;rw[e1] at f2;rw[e4];exact⟨⟨_,f5,Y⟩,h _ ⟨f5,f3,⟨_,_,f4⟩,⟨_,f1,Y,Y⟩,⟨_,f2,Y,Y⟩⟩ λc o x=>bc _ (bc _ (bc _ (bc _ (bc _ x))))⟩
end
theorem aO.turnedL{aa:List (L×Obj)}{σ:St}{H:Hp}{s:am}{h':aw}{t':Nat}{ch:List L}(I:aO X aa σ H s)(k:∀b o,b ∉ ch->s.heap.get? b=U o->h'.get? b=U o)(hf:∀b∈ch,qL X aa H b) :
  aO X aa σ H { s with heap:=h',toks:=t' }:=by
 have nit:∀b u,H b=U u->b ∉ ch:=λb u e z=>by rw[(hf b z).1] at e;cases e
 refine I.step (g':=s.gens) (d':=s.drawn) (ch:=ch) (λb hb=>?_) (λb o _ _ hc e _=>k b o hc e) (λb o _ _ hc e _=>⟨o.slots,k b o hc e⟩) (λ_ _ _ _ n=>n) (λb o hc e=>⟨o,k b o hc e⟩) (λ_ _ e=>e) (λ_ _ _ e=>e) (λb ps e=>⟨#[],by rw[e];simp⟩) (λm hm=>?_) (λb u e=>?_) I.bare
 ·obtain⟨f0,f1,f2,f3,f4,f5⟩:=hf b hb;exact⟨f3,f1,f4,f5⟩
 ·obtain⟨o,es,ep,ho,r⟩:=hm;exact⟨o,es,ep,k _ o (λz=>(hf _ z).2.1 Y) ho,r⟩
 ·refine(I.hok b u e).stay (λc v hc q=>k c v ?_ q) (λ_ q=>q) λ_ _ q=>q;rcases hc with z|z
  ·rw[z];exact nit b u e
  ·exact nit c _ z
def Itz(K:bu)(p q:L)(xs ys:List V):It:=⟨λi H=>i<xs.length/\sB K H p xs/\sB K H q ys,λi H x H'=>∃T u v,x=.ref T/\H T=ao/\H'=upd H T (.tup [u,v])/\xs[i]?=U u/\ys[i]?=U v,λi H=>xs.length<=i/\sB K H p xs/\sB K H q ys⟩
theorem zeb{P:av}{w:ax}{K:bu}{elts:List aB}{x1}{pos:Pos}{z a b i j p q:L}{xs ys:List V}(Bq:XQ z a b i j p q)(hl:xs.length=ys.length) :
  zcO P w K (.Tuple elts x1 pos) (Itz K p q xs ys) [z,a,b,i,j] z (ZT z a b i j p q) where
 mem:=by simp
 obj:=λk h st c hc=>by
  obtain⟨hz,ha,⟨u,v,hb⟩,⟨oi,hi,ci,di⟩,⟨oj,hj,cj,dj⟩⟩:=st;simp only[bD,dh,or_false] at hc;rcases hc with rfl|rfl|rfl|rfl|rfl
  ·exact⟨_,hz,λv z=>by cases z⟩
  ·exact⟨_,ha,λv z=>by cases z⟩
  ·exact⟨_,hb,λv z=>by cases z⟩
  ·exact⟨_,hi,λv z=>by rw[di] at z;cases z⟩
  ·exact⟨_,hj,λv z=>by rw[dj] at z;cases z⟩
 keep:=λk h h' st kk=>by
  obtain⟨hz,ha,⟨u,v,hb⟩,⟨oi,hi,ci⟩,⟨oj,hj,cj⟩⟩:=st;exact⟨kk z (by simp) _ hz,kk a (by simp) _ ha,⟨u,v,kk b (by simp) _ hb⟩,⟨oi,kk i (by simp) _ hi,ci⟩,⟨oj,kk j (by simp) _ hj,cj⟩⟩
 item:=by
  intro X hP hw hK hc k aa s σ H E I hf st hg;subst hP hw hK;obtain⟨hlt,h1,h2⟩:=hg;obtain⟨us,r1,p1,_⟩:=I.tuple h1;obtain⟨vs,r2,p2,_⟩:=I.tuple h2;obtain⟨u,hu,ru⟩:=r1.get (i:=k) (x:=xs[k]) (bb hlt);obtain⟨v,hv,rv⟩:=r2.get (i:=k) (x:=ys[k]'(hl ▸ hlt)) (bb (hl ▸ hlt));have sub:∀c∈[z,b,i,j],c∈[z,a,b,i,j]:=λc hc=>by
   simp only[bD,dh,or_false] at hc ⊢;rcases hc with h|h|h|h <;> simp[h]
  refine zbu Bq st (show s.heap.IsTuple p us.toArray from p1) (show s.heap.IsTuple q vs.toArray from p2) (x:=u) (y:=v) (by simpa using hu) (by simpa using hv) λg h k5 sz b5 i5 j5 sb z8=>?_;have I5:aO X aa σ H { s with heap:=g }:=I.turnedL (t':=s.toks) k5 λc hc=>hf c (sub c hc);have I6:aO X aa σ (upd H g.objs.size (.tup [xs[k],ys[k]'(hl ▸ hlt)])) { s with heap:=g.push { cls:=.type "tuple",data:=.seq #[u,v] } } :=
   I5.laid (a:=g.objs.size) (o:=.tup [xs[k],ys[k]'(hl ▸ hlt)]) (t':=s.toks) (λb u e=>bc _ e) (bp _) ⟨by show 2<=Bb;decide,[u,v],.cons ru (.cons rv .nil),⟨_,bE _ Y,Y,_,Y⟩⟩
  have zlt:z<s.heap.objs.size:=bO st.1;have old:∀c∈[z,a,b,i,j],c≠g.objs.size:=λc hc=>by
   obtain⟨hz,ha,⟨u,v,hb⟩,⟨oi,hi,ci⟩,⟨oj,hj,cj⟩⟩:=st;rw[sz];simp only[bD,dh,or_false] at hc;rcases hc with rfl|rfl|rfl|rfl|rfl
   ·exact bX (bO hz)
   ·exact bX (bO ha)
   ·exact bX (bO hb)
   ·exact bX (bO hi)
   ·exact bX (bO hj)
  have free:∀c∈[z,a,b,i,j],upd H g.objs.size (HO.tup [xs[k],ys[k]'(hl ▸ hlt)]) c=ao:=λc hc=>by rw[zk (old c hc)];exact(hf c hc).1
  have fz:qL X aa (upd H g.objs.size (HO.tup [xs[k],ys[k]'(hl ▸ hlt)])) z:=⟨free z (by simp),(hf z (by simp)).2⟩;refine⟨.ref g.objs.size,Y,wpAny_letOwnedTupleGo_zip z8 λh2 z9 sb2=>?_⟩;have up:∀c o,c≠z->g.get? c=U o->h2.get? c=U o:=λc o hc e=>by
   rw[show h2.get? c=h.get? c from sb2.2 c hc,sb.2 c hc];exact bc _ e
  have I7:aO X aa σ (upd H g.objs.size (.tup [xs[k],ys[k]'(hl ▸ hlt)])) { s with heap:=h2 }:=I6.turnedL (s:={ s with heap:=g.push { cls:=.type "tuple",data:=.seq #[u,v] } }) (t':=s.toks) (ch:=[z]) (λc o hc e=>by
   have hc:c≠z:=by simpa using hc
   rw[show h2.get? c=h.get? c from sb2.2 c hc,sb.2 c hc];exact e) λc hc=>by
    have:c=z:=by simpa using hc
    rw[this];exact fz
  refine⟨.ref g.objs.size,_,I7,Y,⟨_,_,_,Y,by have:=I5.hok.fresh (bp g.objs.size);exact this,Y,bb hlt,bb (hl ▸ hlt)⟩,?_,free⟩;have ka:g.get? a=_:=k5 a _ (by simp[Bq.az,Bq.ab,Bq.ai,Bq.aj]) st.2.1;obtain⟨oi,hi,ci⟩:=i5;obtain⟨oj,hj,cj⟩:=j5;exact⟨z9,up a _ Bq.az ka,⟨_,_,up b _ Bq.bz b5⟩,⟨oi,up i _ Bq.iz hi,ci⟩,⟨oj,up j _ Bq.jz hj,cj⟩⟩
 done:=by
  intro X hP hw hK hc k aa s σ H E I hf st hg;subst hP hw hK;obtain⟨hlt,h1,h2⟩:=hg;obtain⟨us,r1,p1,_⟩:=I.tuple h1;obtain⟨vs,r2,p2,_⟩:=I.tuple h2;have hl1:=r1.length;refine zc7 (I.ok.hd hc) Bq st (show s.heap.IsTuple p us.toArray from p1) (show s.heap.IsTuple q vs.toArray from p2) (by simp;lia) λh hk=>⟨Y,I.turnedL (t':=s.toks) hk λc hc=>hf c ?_⟩;simp only[bD,dh,or_false] at hc ⊢;rcases hc with h|h|h|h <;> simp[h]
 self:=λ_ _ _ _ _ st h=>wpAny_pyIter_zip st.1 h
def zif(K:bu)(ta:TA):TI:=λσ H R=>ta σ H λvs H1=>∃p q xs ys,vs=[.ref p,.ref q]/\sB K H1 p xs/\sB K H1 q ys/\xs.length=ys.length/\R (Itz K p q xs ys) H1
section
variable {X:Cx}
theorem zhp{elts:List aB}{x1}{tp:Pos}{e1 e2:aB}{ta:TA}{p pos:Pos}(hg:Gl X "zip")(hm:X.mg "zip"=ao)(ha:PA X [e1,e2] ta)(he:Be [e1,e2] X.env=(aq,eval e1 X.env)::Be [e2] X.env:=by rfl)(hpl:(backTo pos (Be [e2] X.env)).any (·.1)=aq:=by rfl) :
  PI X (.Tuple elts x1 tp) (.Call (.Name "zip" p) [e1,e2] [] pos) (zif X.K ta):=by
 intro aa s σ H R I h;refine Call_ (XC I hg hm zhk (fR (dl (ha pos aa s σ H _ I h) ?_) he hpl));rintro us s1 ⟨vs,H1,I1,r1,q1⟩;obtain⟨a,b,xs,ys,e,h1,h2,hl,q⟩:=q1;subst e;obtain⟨u1,u2,rfl,ra,rb⟩:=zgL r1;cases ra;cases rb;obtain⟨us1,r1,p1,_⟩:=I1.tuple h1;obtain⟨us2,r2,p2,_⟩:=I1.tuple h2;have l1:a<s1.heap.objs.size:=by obtain⟨_,e,_⟩:=p1;exact bO e
 have l2:b<s1.heap.objs.size:=by obtain⟨_,e,_⟩:=p2;exact bO e
 refine zc8 (show s1.heap.IsTuple a us1.toArray from p1) (show s1.heap.IsTuple b us2.toArray from p2) λh' st k=>?_;refine wpAny_pyIter_zip (s:={ s1 with heap:=h' }) st.1 ?_;generalize hn:s1.heap.objs.size=n at *
 have ne:∀ {x y:Nat},x≠y->(show L from x)≠(show L from y):=λh=>h;have la:∀k:Nat,(show Nat from a)≠n+k:=λk=>bX (b6 l1 (gL _ _));have lb:∀k:Nat,(show Nat from b)≠n+k:=λk=>bX (b6 l2 (gL _ _));have Bq:XQ (n+4) (n+2) (n+3) n (n+1) a b:=⟨ne (),ne (),ne (),ne (),ne (),ne (),ne (),ne (),ne (),ne (),la 4,la 3,la 0,la 1,lb 4,lb 3,lb 0,lb 1⟩;refine⟨_,_,_,_,H1,Y,I1.kept (t':=s1.toks) k,zeb Bq hl,st,λc hc=>?_,q⟩;simp only[bD,dh,or_false] at hc;have hc:n<=c:=by rcases hc with rfl|rfl|rfl|rfl|rfl <;> first|exact gL _ _|exact bp _
 exact I1.fpOk (by rw[hn];exact hc) (I1.hok.fresh (by rw[hn];exact hc))
end
section
variable {σ:St}{H:Hp}{nx:St->Hp->Prop}{Bo:V->St->Hp->(St->Hp->Prop)->Prop}
theorem zec{K:bu}(xs ys:List V)(Pv:Nat->St->Hp->Prop)(h0:Pv 0 σ H)(hl:∀i σ H,Pv i σ H->sB K H p xs/\sB K H q ys)
  (hs:∀i u v T σ H,xs[i]?=U u->ys[i]?=U v->H T=ao->Pv i σ H->Bo (.ref T) σ (upd H T (.tup [u,v])) (Pv (i+1))) (hd:∀σ H,Pv xs.length σ H->nx σ H) :
  ∃W:Nat->Nat->St->Hp->Prop,(∃m,W 0 m σ H)/\∀i m σ H,W i m σ H->((Itz K p q xs ys).stop i H/\nx σ H)\/((Itz K p q xs ys).go i H/\∃N:St->Hp->Prop,(∀σ' H',N σ' H'->∃m',m'<m/\W (i+1) m' σ' H')/\∀x H',(Itz K p q xs ys).yld i H x H'->Bo x σ H' N):=by
 refine⟨λi m σ H=>m=xs.length-i/\i<=xs.length/\Pv i σ H,⟨xs.length,by simp,bT _,h0⟩,?_⟩;rintro i m σ H ⟨rfl,hi,B⟩;by_cases hlt:i<xs.length
 ·refine .inr ⟨⟨hlt,hl i σ H B⟩,Pv (i+1),λσ' H' p'=>⟨xs.length-(i+1),(),Y,hlt,p'⟩,?_⟩;rintro x H' ⟨T,u,v,rfl,hT,rfl,hu,hv⟩;exact hs i u v T σ H hu hv hT B
 ·obtain rfl:i=xs.length:=by lia
  exact .inl ⟨⟨bp _,hl _ σ H B⟩,hd σ H B⟩
end
abbrev ziC(K:bu):RC:=λxs H Q=>∃p ys,xs=[.ref p]/\((aT K H p ys/\∀l,H l=ao->Q (.ref l) (upd H l (.tup ys)))\/(sB K H p ys/\Q (.ref p) H))
def zci(st:List (List V))(v:V):Option (List (List V)):=if isJ v=D then (match st.reverse with|b::a::r=>U (r.reverse++[v::(a++b)])|_=>ao) else U (st++[[v]])
def zbw:List V->List (List V)->Option (List (List V))
 |[],st=>U st
 |v::r,st=>(zci st v).bind (zbw r)
theorem zed:∀(p q:List V) (st:List (List V)),zbw (p++q) st=(zbw p st).bind (zbw q)
 |[],q,st=>rfl
 |v::r,q,st=>by
  show (zci st v).bind (zbw (r++q))=((zci st v).bind (zbw r)).bind (zbw q);cases zci st v with
  |none=>rfl
  |some st'=>exact zed r q st'
end L2
namespace L2
open PySem PySem.W PyProof.Rows
section
variable {α β:Type}{lt:Nat->Nat->Bool}{n:Nat}
def kOk(lt:Nat->Nat->Bool)(n:Nat):KasT α->(α->Prop)->Prop
 |.ret a,R=>R a
 |.ask i j k,R=>i<n/\j<n/\i≠j/\kOk lt n (k (lt i j)) R
theorem kt:∀ {t:KasT α} {f:α->KasT β} {R:β->Prop},kOk lt n t (λa=>kOk lt n (f a) R)->kOk lt n (t.bind f) R
 |.ret _,_,_,h=>h
 |.ask _ _ _,_,_,h=>⟨h.1,h.2.1,h.2.2.1,kt h.2.2.2⟩
theorem vc:∀ {t:KasT α} {R R':α->Prop},kOk lt n t R->(∀a,R a->R' a)->kOk lt n t R'
 |.ret _,_,_,h,m=>m _ h
 |.ask _ _ _,_,_,h,m=>⟨h.1,h.2.1,h.2.2.1,vc h.2.2.2 m⟩
structure SO(lt:Nat->Nat->Bool)(n:Nat):Prop where
 irr:∀i,i<n->lt i i=aq
 trans:∀i j k,i<n->j<n->k<n->lt i j=D->lt j k=D->lt i k=D
 tot:∀i j,i<n->j<n->i≠j->lt i j=aq->lt j i=D
def PP(n:Nat)(p:Array Nat):Prop:=p.Perm (dt n).toArray
def gt(p:Array Nat)(k:Nat):Nat:=p.getD k 0
theorem ku(h:k<p.size):p[k]?=U (gt p k):=by
 unfold gt;rw[Array.getD_eq_getD_getElem?,cg h];rfl
theorem PP.size(h:PP n p):p.size=n:=by
 have:=h.size_eq;simpa using this
theorem PP.blt(h:PP n p)(hk:k<n):gt p k<n:=by
 have hs:=h.size;have m:gt p k∈p:=Array.mem_of_getElem? (ku ());have m2:gt p k∈(dt n).toArray:=(pB h).mp m;simpa using m2
theorem PP.inj(h:PP n p)(hi:i<n)(hj:j<n)(e:gt p i=gt p j):i=j:=by
 have hs:=h.size;have nd:p.toList.Nodup:=by
  have:p.toList.Perm (dt n):=by
   have:=gB.mp h;simpa using this
  exact this.nodup_iff.mpr rE
 have e1:=ku (p:=p) (k:=i) ();have e2:=ku (p:=p) (k:=j) ();rw[<-e] at e2;have e1':p.toList[i]?=U (gt p i):=by simpa using e1
 have e2':p.toList[j]?=U (gt p i):=by simpa using e2
 obtain⟨a1,b1⟩:=bn.mp e1';obtain⟨a2,b2⟩:=bn.mp e2';exact(iX nd).mp (b1.trans b2.symm)
def ZV(lt:Nat->Nat->Bool)(p:Array Nat)(m:Nat):Prop:=∀i j,i<j->j<m->lt (gt p i) (gt p j)=D
def zhq(lt:Nat->Nat->Bool)(p:Array Nat)(m:Nat):Prop:=∀i j,i<j->j<m->lt (gt p j) (gt p i)=D
theorem zbx(S:SO lt n){p:Array Nat}(hp:PP n p):∀(f a:Nat),1<=a->a+f<=n->ZV lt p a->kOk lt n (kas_asc p f a) λm=>a<=m/\m<=a+f/\ZV lt p m/\(m<a+f->lt (gt p m) (gt p (m-1))=D)
 |0,a,h1,h2,hr=>⟨bp _,bp _,hr,λz=>absurd z (fB _)⟩
 |f+1,a,h1,h2,hr=>by
  refine⟨hp.blt (),hp.blt (),(λz=>by have:=hp.inj () () z;lia),?_⟩;show kOk lt n (if lt (gt p a) (gt p (a-1))=D then .ret a else kas_asc p f (a+1)) _;by_cases c:lt (gt p a) (gt p (a-1))=D
  ·rw[au c];exact⟨bp _,(),hr,λ_=>c⟩
  ·rw[ap c];have up:lt (gt p (a-1)) (gt p a)=D:=S.tot _ _ (hp.blt ()) (hp.blt ()) (λz=>by have:=hp.inj () () z;lia) (dP.mpr c);refine vc (zbx S hp f (a+1) () () λi j hij hj=>?_) λm ⟨x1,x2,x3,x4⟩=>⟨(),(),x3,λz=>x4 ()⟩;by_cases hja:j<a
   ·exact hr i j hij hja
   ·obtain rfl:j=a:=by lia
    by_cases hi:i=j-1
    ·rw[hi];exact up
    ·exact S.trans _ _ _ (hp.blt ()) (hp.blt ()) (hp.blt ()) (hr i (j-1) () ()) up
theorem zcj(S:SO lt n){p:Array Nat}(hp:PP n p):∀(f a:Nat),1<=a->a+f<=n->zhq lt p a->kOk lt n (kas_desc f p a 0) λr=>r.1=p/\r.2.2=0/\a<=r.2.1/\r.2.1<=a+f/\zhq lt p r.2.1
 |0,a,h1,h2,hr=>⟨Y,Y,bp _,bp _,hr⟩
 |f+1,a,h1,h2,hr=>by
  refine⟨hp.blt (),hp.blt (),(λz=>by have:=hp.inj () () z;lia),?_⟩;show kOk lt n (if lt (gt p a) (gt p (a-1))=D then (if 0 > 0 then _ else kas_desc f p (a+1) 0) else .ask (gt p (a-1)) (gt p a) λd=>if d=D then .ret (p,a,0) else kas_desc f p (a+1) (0+1)) _;by_cases c:lt (gt p a) (gt p (a-1))=D
  ·rw[au c,ap ()];refine vc (zcj S hp f (a+1) () () λi j hij hj=>?_) λm ⟨x1,x2,x3,x4,x5⟩=>⟨x1,x2,(),(),x5⟩;by_cases hja:j<a
   ·exact hr i j hij hja
   ·obtain rfl:j=a:=by lia
    by_cases hi:i=j-1
    ·rw[hi];exact c
    ·exact S.trans _ _ _ (hp.blt ()) (hp.blt ()) (hp.blt ()) c (hr i (j-1) () ())
  ·rw[ap c];have up:lt (gt p (a-1)) (gt p a)=D:=S.tot _ _ (hp.blt ()) (hp.blt ()) (λz=>by have:=hp.inj () () z;lia) (dP.mpr c);refine⟨hp.blt (),hp.blt (),(λz=>by have:=hp.inj () () z;lia),?_⟩;show kOk lt n (if lt (gt p (a-1)) (gt p a)=D then .ret (p,a,0) else _) _;rw[au up];exact⟨Y,Y,bp _,gL _ _,hr⟩
theorem zee(hm:m<=p.size)(hk:k<m):gt (kas_rev p 0 m) k=gt p (m-1-k):=by
 have e:=getElem?_mirror_all (xs:=p) (i:=0) (j:=m) hm k;rw[au ⟨bT _,hk⟩] at e;have e1:=ku (p:=kas_rev p 0 m) (k:=k) (by unfold kas_rev;rw[mirror_size];lia);have e2:=ku (p:=p) (k:=m-1-k) ();unfold kas_rev at e1 ⊢;rw[e,show 0+m-1-k=m-1-k by lia,e2] at e1;exact(bJ e1).symm
theorem PP.rev(h:PP n p)(m:Nat):PP n (kas_rev p 0 m):=rF (mirror_perm _ _ _ _) h
theorem zfX(S:SO lt n)(hp:PP n p)(h1:1<=m)(h2:m<=n)(hf:zhq lt p m):kOk lt n (kas_tail3 m n p) λr=>PP n r.2/\ZV lt r.2 r.1/\1<=r.1/\r.1<=n:=by
 refine kt (vc (zbx S (hp.rev m) (n-m) m h1 () λi j hij hj=>?_) λa ⟨x1,x2,x3,_⟩=>⟨hp.rev m,x3,(),()⟩);have hs:=hp.size;rw[zee () (),zee () hj];exact hf _ _ () ()
theorem zef(S:SO lt n)(hp:PP n p)(hn:1<=n):kOk lt n (kas_count n p) λr=>PP n r.2/\ZV lt r.2 r.1/\1<=r.1/\r.1<=n:=by
 refine kt (vc (zbx S hp (n-1) 1 (bp _) () λi j hij hj=>by lia) λm ⟨x1,x2,x3,x4⟩=>?_);by_cases e:(m==n)=D
 ·rw[au e];exact⟨hp,x3,x1,()⟩
 ·rw[ap e];have ne:m≠n:=by simpa using e
  by_cases h:m > 1
  ·rw[au h];refine⟨hp.blt (),hp.blt (),(λz=>by have:=hp.inj () () z;lia),?_⟩;show kOk lt n (if lt (gt p 0) (gt p (m-1))=D then .ret (m,p) else _) _;rw[au (x3 0 (m-1) () ())];exact⟨hp,x3,x1,()⟩
  ·rw[ap h];obtain rfl:m=1:=by lia
   have c:=x4 ();refine kt (vc (zcj S hp (n-2) 2 () () λi j hij hj=>?_) λr ⟨y1,y2,y3,y4,y5⟩=>?_)
   ·obtain rfl:j=1:=by lia
    obtain rfl:i=0:=by lia
    exact c
   ·rw[ap (),y1];exact zfX S hp () () y5
theorem Vb(S:SO lt n){p:Array Nat}(hp:PP n p){k:Nat}(hk:k<n)(hr:ZV lt p k):∀(f l r:Nat),l<=r->r<=k->r-l<=f->(∀i,i<l->lt (gt p i) (gt p k)=D)->(∀i,r<=i->i<k->lt (gt p k) (gt p i)=D) ->
  kOk lt n (nY p k f l r) λm=>m<=k/\(∀i,i<m->lt (gt p i) (gt p k)=D)/\∀i,m<=i->i<k->lt (gt p k) (gt p i)=D
 |0,l,r,h1,h2,h3,h4,h5=>⟨(),h4,λi hi hik=>h5 i () hik⟩
 |f+1,l,r,h1,h2,h3,h4,h5=>by
  unfold nY;by_cases c:l >= r
  ·rw[au c];exact⟨(),h4,λi hi hik=>h5 i () hik⟩
  ·rw[ap c];refine⟨hp.blt (),hp.blt (),(λz=>by have:=hp.inj () () z;lia),?_⟩;show kOk lt n (if lt (gt p k) (gt p ((l+r)/2))=D then _ else _) _;by_cases d:lt (gt p k) (gt p ((l+r)/2))=D
   ·rw[au d];refine Vb S hp hk hr f l ((l+r)/2) () () () h4 λi hi hik=>?_;by_cases e:i=(l+r)/2
    ·rw[e];exact d
    ·exact S.trans _ _ _ (hp.blt ()) (hp.blt ()) (hp.blt ()) d (hr _ i () hik)
   ·rw[ap d];have up:lt (gt p ((l+r)/2)) (gt p k)=D:=S.tot _ _ (hp.blt ()) (hp.blt ()) (λz=>by have:=hp.inj () () z;lia) (dP.mpr d);refine Vb S hp hk hr f ((l+r)/2+1) r () () () (λi hi=>?_) h5;by_cases e:i=(l+r)/2
    ·rw[e];exact up
    ·exact S.trans _ _ _ (hp.blt ()) (hp.blt ()) (hp.blt ()) (hr i _ () ()) up
theorem zeg(hk:k<p.size)(hd:d<=k)(hj:j<p.size):gt (bubble p k d) j=if j=k-d then gt p k else if k-d<j/\j<=k then gt p (j-1) else gt p j:=by
 have e:=getElem?_bubble hk d hd j;rw[ku (p:=bubble p k d) (k:=j) (by rw[bubble_size];exact hj)] at e;by_cases h1:j=k-d
 ·rw[au h1,ku hk] at e;rw[au h1];exact bJ e
 ·rw[ap h1] at e ⊢;by_cases h2:k-d<j/\j<=k
  ·rw[au h2,ku ()] at e;rw[au h2];exact bJ e
  ·rw[ap h2,ku hj] at e;rw[ap h2];exact bJ e
theorem zeh(S:SO lt n):∀(f:Nat) {p:Array Nat} (k:Nat),PP n p->k+f=n->ZV lt p k->kOk lt n (kas_bin f p k) λp'=>PP n p'/\ZV lt p' n
 |0,p,k,hp,hk,hr=>⟨hp,by rw[<-hk];exact hr⟩
 |f+1,p,k,hp,hk,hr=>by
  have hs:=hp.size;refine kt (vc (Vb S hp () hr k 0 k (bT _) (bp _) () (λi hi=>by lia) (λi h1 h2=>by lia)) λl ⟨x1,x2,x3⟩=>?_);refine zeh S f (k+1) (rF (bubble_perm _ _ _) hp) () λi j hij hj=>?_;rw[zeg () () (),zeg () () ()];have e:k-(k-l)=l:=by lia
  rw[e];by_cases hi:i=l
  ·rw[au hi,ap (),au ()];exact x3 _ () ()
  ·rw[ap hi];by_cases hi2:l<i/\i<=k
   ·rw[au hi2,ap (),au ()];exact hr _ _ () ()
   ·rw[ap hi2];by_cases hj1:j=l
    ·rw[au hj1];exact x2 _ ()
    ·rw[ap hj1];by_cases hj2:l<j/\j<=k
     ·rw[au hj2];by_cases hij2:i<j-1
      ·exact hr _ _ hij2 ()
      ·lia
     ·rw[ap hj2];exact hr _ _ hij ()
theorem zfY(S:SO lt n)(hn:1<=n):kOk lt n (kas_sort n) λp=>PP n p/\ZV lt p n:=by
 refine kt (vc (zef S (p:=p9 (dt n)) (rT _) hn) ?_);rintro r ⟨x1,x2,x3,x4⟩;by_cases h:r.1<n
 ·rw[au h,Nat.max_eq_left x3];exact zeh S _ _ x1 () x2
 ·rw[ap h];obtain e:r.1=n:=by lia
  exact⟨x1,by rw[<-e];rw[e] at x2 ⊢;exact x2⟩
end
theorem zei{α:Type}{lt:Nat->Nat->Bool}{n:Nat}{s:am}{cmp:Nat->Nat->(Bool->am->Prop)->am->Prop}(hc:∀i j C,i<n->j<n->i≠j->C (lt i j) s->cmp i j C s):∀ {t:KasT α} {R:α->Prop} {Q:α->am->Prop},kOk lt n t R->(∀a,R a->Q a s)->t.kasWp cmp Q s
 |.ret _,_,_,h,m=>m _ h
 |.ask _ _ _,_,_,h,m=>hc _ _ _ h.1 h.2.1 h.2.2.1 (zei hc h.2.2.2 m)
def Kp(a:L)(h h':aw):Prop:=∀b o,b≠a->h.get? b=U o->h'.get? b=U o
def vY(vs:List af)(p:Array Nat):List af:=p.toList.map λi=>vs.getD i cE
theorem Q6(vs:List af):vY vs (p9 (dt vs.length))=vs:=by
 unfold vY;apply fo;intro i;simp only[bx];by_cases h:i<vs.length
 ·rw[bb (l:=vs) h];simp[lK h,h]
 ·rw[cz (by lia:vs.length<=i)];simp;lia
section
variable {P:av}{w:ax}{A:ay}{E:af->am->Prop}{s:am}
theorem Vc{a:L}{vs:List af}{n:Nat}{κ:SortKind}{lt:Nat->Nat->Bool}{R:PySem.Fin->am->Prop}(ho:s.heap.get? a=U (seqObj "list" vs.toArray n))(h64:vs.length<64)
  (hk:2<=vs.length->∀(h:aw) (Q:SortKind->am->Prop),Kp a s.heap h->Q κ { s with heap:=h }->Bf (Bg P w) A (keyKind' vs.toArray) Q (λ_ _=>False) { s with heap:=h })
  (hc:∀(h:aw) i j C,Kp a s.heap h->i<vs.length->j<vs.length->i≠j->C (lt i j) { s with heap:=h }->kas_ask P w A κ vs i j C { s with heap:=h }) (S:SO lt vs.length)
  (fin:∀h p c,Kp a s.heap h->h.get? a=U (seqObj "list" (vY vs p).toArray c)->PP vs.length p->ZV lt p vs.length->R (.done (.ret .none)) { s with heap:=h }) :
  Bf (Bg P w) A (Builtin.«list.sort» ⟨[.ref a],[]⟩) R E s:=by
 have ha:a<s.heap.objs.size:=bO ho;obtain⟨e1,o1⟩:∃e1,(s.heap.update a (cZ λ_=>(#[]:Array af))).get? a=U (seqObj "list" #[] e1):=⟨_,get?_update_seq ho λ_=>#[]⟩;have k1:Kp a s.heap (((s.heap.update a (cZ λ_=>(#[]:Array af))).push (seqObj "tuple" vs.toArray 0)).push (seqObj "list" #[] 0)):=λb o hb e =>
  bc _ (bc _ ((dM _ _ (eA hb)).trans e))
 have o3:(((s.heap.update a (cZ λ_=>(#[]:Array af))).push (seqObj "tuple" vs.toArray 0)).push (seqObj "list" #[] 0)).get? a=U (seqObj "list" #[] e1):=bc _ (bc _ o1);have last:∀out:List af,out.length=vs.length->∃c,((((s.heap.update a (cZ λ_=>(#[]:Array af))).push (seqObj "tuple" vs.toArray 0)).push (seqObj "list" #[] 0)).update a (cZ λ_=>out.toArray)).get? a=U (seqObj "list" out.toArray c):=λout _=>⟨_,get?_update_seq o3 λ_=>out.toArray⟩;have keep2:∀out:List af,Kp a s.heap ((((s.heap.update a (cZ λ_=>(#[]:Array af))).push (seqObj "tuple" vs.toArray 0)).push (seqObj "list" #[] 0)).update a (cZ λ_=>out.toArray)):=λout b o hb e =>
  (dM _ _ (eA hb)).trans (k1 b o hb e)
 rw[list_sort_plain];refine ba (listItems_at ho Y ?_);refine ba (pC ho Y ?_ (by rw[bH,bG];lia) (bT _));refine ba (seqEpoch_at o1 Y ?_);refine ba (oF ?_ (by show vs.length<=_;rw[bG];lia));refine ba (m5 ?_ (bT _));refine du ?_;show Bf (Bg P w) A _ R E { s with heap:=((s.heap.update a (cZ λ_=>(#[]:Array af))).push (seqObj "tuple" vs.toArray 0)).push (seqObj "list" #[] 0) };generalize hH:((s.heap.update a (cZ λ_=>(#[]:Array af))).push (seqObj "tuple" vs.toArray 0)).push (seqObj "list" #[] 0)=g at *
 dsimp only;have up:∀out:List af,out.length=vs.length->∀p,out=vY vs p->PP vs.length p->ZV lt p vs.length->R (.done (.ret .none)) { s with heap:=g.update a (cZ λ_=>out.toArray) }:=λout hl p e hp hr=>by
  obtain⟨c,hcc⟩:=last out hl;refine fin _ p c (keep2 out) ?_ hp hr;rw[<-e];exact hcc
 by_cases h2:vs.toArray.size<2
 ·have hl2:vs.length<2:=by simpa using h2
  rw[au h2,au h2];refine ba (bd ?_);rw[StateT.run_pure];refine ba (bd ?_);dsimp only;have ez:((vs.toArray.zip vs.toArray).map (·.2))=vs.toArray:=by
   apply nB.mp;rw[Array.toList_map,Array.toList_zip];simp[List.map_snd_zip]
  refine ba (seqEpoch_at o3 Y ?_);rw[show (arrOf (SortSt.mk' general' (vs.toArray.zip vs.toArray) #[] 7 ao))=vs.toArray.zip vs.toArray from rfl,ez];refine ba (pC o3 Y ?_ (bT _) (by rw[bH,bG];lia));simp only[bne_self_eq_false,cL,if_false];exact bd (up vs Y _ (Q6 vs).symm (rT _) λi j hij hj=>by lia)
 ·have hl2:2<=vs.length:=by simpa using h2
  rw[ap h2,ap h2];refine ba (dC (hk hl2 g (λκ' s'=>κ'=κ/\s'={ s with heap:=g }) k1 ⟨rfl,rfl⟩) (λκ' s' hs=>?_) λ_ _ x=>x.elim);obtain⟨rfl,rfl⟩:=hs;have run:=zei (s:={ s with heap:=g }) (cmp:=kas_ask P w A κ' vs) (λi j C hi hj hij hC=>hc g i j C k1 hi hj hij hC) (zfY S ()) (Q:=λp s'=>s'={ s with heap:=g }/\PP vs.length p/\ZV lt p vs.length) λp hp=>⟨rfl,hp⟩;refine ba (dC (kat_run (ks:=vs) (Q:=λst s'=>∃p:Array Nat,arrOf st=p.map (kas_item (vs.toArray.zip vs.toArray))/\failedOf st=ao/\s'={ s with heap:=g }/\PP vs.length p/\ZV lt p vs.length) rfl hl2 h64 (λp st s' _ a2 a3 a4=>⟨p,a2,a3,a4⟩) run) ?_ λ_ _ e=>e);rintro⟨⟨⟩,st⟩ s' ⟨p,har,hf,rfl,hp,hr⟩;dsimp only;have out:=kat_snds (ks:=vs) Y har;have ol:(vY vs p).length=vs.length:=by unfold vY;rw[bf,cu,hp.size]
  rw[out];refine ba (seqEpoch_at o3 Y ?_);refine ba (pC o3 Y ?_ (bT _) (by show (p9 (vY vs p)).size<=_;rw[bH,ol,bG];lia));rw[hf];simp only[bne_self_eq_false,cL,if_false];exact bd (up (vY vs p) ol p Y hp hr)
theorem Q7{l:L}{vs:List af}{κ:SortKind}{lt:Nat->Nat->Bool}{Q:af->am->Prop}(h64:vs.length<64)(S:SO lt vs.length)
  (coll:∀R:List af->am->Prop,(∀(h:aw) (tk:Nat),(∀b o,s.heap.get? b=U o->h.get? b=U o)->R vs { s with heap:=h,toks:=tk })->Bf (Bg P w) A.in1 (collect (.ref l)) R E s)
  (hk:2<=vs.length->∀(h:aw) (tk:Nat) (Q:SortKind->am->Prop),(∀b o,s.heap.get? b=U o->h.get? b=U o)->Q κ { s with heap:=h,toks:=tk }->Bf (Bg P w) A.in1.in1 (keyKind' vs.toArray) Q (λ_ _=>False) { s with heap:=h,toks:=tk })
  (hc:∀(h:aw) (tk:Nat) i j C,(∀b o,s.heap.get? b=U o->h.get? b=U o)->i<vs.length->j<vs.length->i≠j->C (lt i j) { s with heap:=h,toks:=tk }->kas_ask P w A.in1.in1 κ vs i j C { s with heap:=h,toks:=tk })
  (fin:∀(h:aw) (tk:Nat) (h':aw) (p:Array Nat) (c:Nat),(∀b o,s.heap.get? b=U o->h.get? b=U o)->(∀b o,h.get? b=U o->h'.get? b=U o)->h'.get? h.objs.size=U (seqObj "list" (vY vs p).toArray c)->PP vs.length p->ZV lt p vs.length->Q (.ref h.objs.size) { s with heap:=h',toks:=tk }) :
  Bf (Bg P w) A (call (.builtin "sorted") [.ref l]) Q E s:=by
 refine mh kind_sorted rc rf (rj _) ?_;unfold Builtin.«sorted»;refine ba (m:=checkCount "sorted" 1 1 _) (bd ?_);refine ba (coll _ λh tk hk1=>?_);refine ba (m5 ?_ (by rw[bG];lia));have hoL:(h.push (seqObj "list" vs.toArray 0)).get? h.objs.size=U (seqObj "list" vs.toArray 0):=bE _ rfl;have kept:∀h',Kp h.objs.size (h.push (seqObj "list" vs.toArray 0)) h'->∀b o,h.get? b=U o->h'.get? b=U o:=λh' k b o e=>k b o (bX (bO e)) (bc _ e);refine ba (du (cI oH ⟨_,hoL,Y⟩ nZ (Vc (s:={ s with heap:=h.push (seqObj "list" vs.toArray 0),toks:=tk }) hoL h64 (κ:=κ) (lt:=lt) (λh2 h' Q' k q=>?_) (λh' i j C k hi hj hij q=>?_) S λh' p c k ho hp hr=>?_) (oI _)))
 ·exact hk h2 h' tk Q' (λb o e=>kept h' k b o (hk1 b o e)) q
 ·exact hc h' tk i j C (λb o e=>kept h' k b o (hk1 b o e)) hi hj hij q
 ·exact⟨_,Y,bd ⟨_,Y,fin h tk h' p c hk1 (kept h' k) ho hp hr⟩⟩
end
section
variable {lt:Nat->Nat->Bool}{n:Nat}
theorem PP.ask(h:PP n p)(hi:i<n)(hj:j<n)(hij:i≠j):gt p i<n/\gt p j<n/\gt p i≠gt p j:=⟨h.blt hi,h.blt hj,λz=>hij (h.inj hi hj z)⟩
theorem JT{p:Array Nat}(hp:PP n p){k:Nat}(hk:k<n):∀(f l r:Nat),l<=r->r<=k->kOk lt n (nY p k f l r) λm=>m<=k
 |0,l,r,h1,h2=>bN h1 h2
 |f+1,l,r,h1,h2=>by
  unfold nY;split
  ·exact bN h1 h2
  ·obtain⟨x,y,z⟩:=hp.ask (i:=k) (j:=(l+r)/2) () () ();refine⟨x,y,z,?_⟩;show kOk lt n (if lt (gt p k) (gt p ((l+r)/2))=D then nY p k f l ((l+r)/2) else nY p k f ((l+r)/2+1) r) _;split
   ·exact JT hp hk f l _ () ()
   ·exact JT hp hk f _ r () ()
end
def yn(a b:Str×Int):Bool:=if a.1=b.1 then decide (a.2<b.2) else decide (a.1.cps.toList<b.1.cps.toList)
def tN(h:aw)(v:af)(q:Str×Int):Prop:=∃a o t u n,v=.ref a/\h.get? a=U o/\o.cls=.type "tuple"/\o.data=.seq #[.str q.1 t,.int q.2 u] n
section
variable {P:av}{w:ax}{A:ay}{E:af->am->Prop}{s:am}
theorem zfZ{Q:Bool->am->Prop}(h:Q (decide (a.cps.toList<c.cps.toList)) s):Bf (Bg P w) A (oneLt' D (.str a t) (.str c u)) Q E s:=by
 rw[<-keyLt'_oneType];exact kas_lt_str h
theorem zf0{a c:Int}{Q:Bool->am->Prop}(h:Q (decide (a<c)) s):Bf (Bg P w) A (oneLt' aq (.int a t) (.int c u)) Q E s:=
 kat_one _ _ (oJ (show W.BoolBack Q (.bool (decide (a<c))) s from h))
theorem zc9{a b:Str×Int}{Q:Bool->am->Prop}(hx:tN s.heap x a)(hy:tN s.heap y b)(h:Q (yn a b) s)(hn:a≠b):Bf (Bg P w) A (keyLt' (tuples' D) x y) Q E s:=by
 obtain⟨p,o,t,u,n,rfl,ho,hc,hd⟩:=hx;obtain⟨p2,o2,t2,u2,n2,rfl,ho2,hc2,hd2⟩:=hy;refine kat_lt ho hd ho2 hd2 (kat_cons (wpAny_eqBool_str (kat_go (λe=>kat_yes (kat_cons (wpAny_eqBool_int (kat_go (λe2=>?_) λe2=>kat_no ?_)))) λe=>kat_no ?_)))
 ·exact absurd (rK (of_decide_eq_true e) (by simpa using e2)) hn
 ·have e:=of_decide_eq_true e;unfold yn at h;rw[au e] at h;exact zf0 h
 ·have e:=of_decide_eq_false e;unfold yn at h;rw[ap e] at h;exact zfZ h
theorem zby{vs:List af}{qs:List (Str×Int)}{Q:SortKind->am->Prop}(hl:vs.length=qs.length)(hv:∀(i:Nat) (v:af) (q:Str×Int),vs[i]?=U v->qs[i]?=U q->tN s.heap v q)(h2:0<vs.length)(h:Q (tuples' D) s) :
  Bf (Bg P w) A (keyKind' vs.toArray) Q E s:=by
 have T:∀(vs:List af) (qs:List (Str×Int)),vs.length=qs.length->(∀(i:Nat) (v:af) (q:Str×Int),vs[i]?=U v->qs[i]?=U q->tN s.heap v q)->∃fs,KatTups s.heap vs fs/\fs.length=vs.length/\∀v∈fs,∃x t,v=gS x t:=by
  intro vs;induction vs with
  |nil=>exact λqs _ _=>⟨[],trivial,Y,λ_ z=>nomatch z⟩
  |cons v r ih =>
   intro qs hl hv
   match qs,hl with
   |q::qr,hl =>
    obtain⟨fs,k,kl,kf⟩:=ih qr (by simpa using hl) λi v' q' e1 e2=>hv (i+1) v' q' (by simpa using e1) (by simpa using e2);obtain⟨a,o,t,u,n,rfl,ho,hc,hd⟩:=hv 0 v q Y rfl;refine⟨.str q.1 t::fs,si ho hc hd Y k,by simp[kl],λz hz=>?_⟩;rcases bD.mp hz with rfl|hz
    ·exact⟨_,_,Y⟩
    ·exact kf z hz
 obtain⟨fs,k,kl,kf⟩:=T vs qs hl hv;refine kat_kind (T:=.type "str") k () (λv hv=>?_) () h;obtain⟨x,t,rfl⟩:=kf v hv;exact Looks.of_pure rfl
end
theorem Q8{x y:Str}(h:x.cps.toList=y.cps.toList):x=y:=by
 obtain⟨a⟩:=x;obtain⟨b⟩:=y;have:a=b:=nB.mp h;rw[this]
theorem Vd{qs:List (Str×Int)}(hn:qs.Nodup):SO (λi j=>yn (qs.getD i ("",0)) (qs.getD j ("",0))) qs.length where
 irr:=λi _=>by
  unfold yn;rw[au rfl];exact Bk ()
 trans:=λi j k _ _ _ h1 h2=>by
  generalize qs.getD i ("",0)=a at *
  generalize qs.getD j ("",0)=b at *
  generalize qs.getD k ("",0)=c at *
  unfold yn at *
  by_cases e1:a.1=b.1
  ·rw[au e1] at h1;by_cases e2:b.1=c.1
   ·rw[au e2] at h2;rw[au (e1.trans e2)];have h1:=of_decide_eq_true h1;have h2:=of_decide_eq_true h2;exact Bj ()
   ·rw[ap e2] at h2;rw[ap (by rw[e1];exact e2),e1];exact h2
  ·rw[ap e1] at h1;have h1:=of_decide_eq_true h1;by_cases e2:b.1=c.1
   ·rw[ap (by rw[<-e2];exact e1),<-e2];exact Bj h1
   ·rw[ap e2] at h2;have h2:=of_decide_eq_true h2;have h3:=List.lt_trans h1 h2;rw[ap (λz=>by rw[z] at h3;exact List.lt_irrefl _ h3)];exact Bj h3
 tot:=λi j hi hj hij h=>by
  have ne:qs.getD i ("",0)≠qs.getD j ("",0):=λz=>hij (by
   rw[bM,bM,bb hi,bb hj] at z;exact(iX hn).mp z)
  generalize qs.getD i ("",0)=a at *
  generalize qs.getD j ("",0)=b at *
  unfold yn at *
  by_cases e:a.1=b.1
  ·rw[au e] at h;rw[au e.symm];have h:=of_decide_eq_false h;have:a.2≠b.2:=λz=>ne (rK e z);exact Bj ()
  ·rw[ap e] at h;rw[ap (λz=>e z.symm)];have h:=of_decide_eq_false h;refine Bj ?_;rcases List.le_iff_lt_or_eq.mp (List.not_lt.mp h) with z|z
   ·exact z
   ·exact absurd (Q8 z.symm) e
end L2
namespace L2
open PySem
def sW(h:aw)(d:L)(es:Array DictEntry)(ep:Nat):Prop:=∃o,h.get? d=U o/\o.ExactDict/\o.data=.dict es ep
section
variable {P:av}{w:ax}{A:ay}{E:af->am->Prop}{s:am}
theorem sW.type(x:sW s.heap d es ep):s.TypeIs (.ref d) "dict":=let ⟨o,ho,hc,_⟩:=x;⟨o,ho,hc.1⟩
theorem sW.at(x:sW h d es ep)(e:∀o,h.get? d=U o->h'.get? d=U o):sW h' d es ep:=let ⟨o,ho,r⟩:=x;⟨o,e _ ho,r⟩
theorem Q9{Q:af->am->Prop}(lo:(d==sysModules)=aq)(hm:sW s.heap d es ep)
  (q:Q (.ref s.heap.objs.size) { s with heap:=s.heap.push { cls:=.type "dict_keyiterator",data:=.fields #[.ref d,.int 0 0,.int es.size 0,.int ep 0] } }):Bf (Bg P w) A (pyIter (.ref d)) Q E s:=by
 have T:=hm.type;obtain⟨o,ho,hc,hd⟩:=id hm;refine wpAny_pyIter_slot T F.slot_dict_iter (cI F.slot_dict_iter T F.entry_dict_iter ?_ (F.args_dict_iter_1 _));unfold Builtin.«dict.__iter__»;refine ba ?_;unfold Builtin.Dict.dictSlotNone;refine ba (eV T ?_);show Bf _ _ (pure (bI d)) _ _ s;refine bd ?_;show Bf _ _ (gc d >>= _) _ _ s;unfold gc;rw[ap (by rw[lo];exact bK)];refine ba (bd ?_);refine ba (dD ho hd ?_);refine ba (gg ho hd ?_);refine ba (cN (bd ⟨_,Y,"dict_keyiterator",_,⟨_,bE _ Y,Y⟩,F.slot_dict_keyiterator_next.lookup,?_⟩));simpa[rawInt] using q
theorem zaa{Q:Option af->am->Prop}(hit:s.heap.IsKeyIter it d i es.size ep)(hm:sW s.heap d es ep)(hx:es[i]?=U e)
  (q:∀h,h.IsKeyIter it d (i+1) es.size ep->cF it s.heap h->Q (U e.key) { s with heap:=h }):Bf (Bg P w) A (pyNext (.ref it)) Q E s:=by
 obtain⟨o,ho,hc,hd⟩:=id hit;obtain⟨od,hod,hcd,hdd⟩:=id hm;have lt:i<es.size:=by
  rcases gR i es.size with h|h
  ·exact h
  ·rw[iq h] at hx;cases hx
 unfold pyNext;refine ba (ib (cK (name:=bg "__next__") hit.typeIs eE (cI eE hit.typeIs i4 ?_ (iS _))));refine ba (bd ?_);refine ba ?_;refine ba ?_
 first|(refine ba (eB hit.typeIs (bd ?_)))|(refine ba (fq hit.typeIs (bd ?_)))
 refine ba (mj ho hd ?_);have own:dE "dict_keyiterator"=aq:=by lia
 simp only[own,cL,if_false];show Bf _ _ (if (bI d==cE)=D then _ else _) _ _ s;rw[ap (show ¬ ((bI d==cE)=D) from bK)];refine ba (bd ?_);refine ba (dD hod hdd ?_);rw[ap (by simp)];refine ba (bd ?_);refine ba (gg hod hdd ?_);rw[ap (by simp)];refine bd ?_;simp only[show ¬ ((i:Int)<0) from by lia,if_false,dO,hx];refine ba ?_
 first|(refine ba (eB hit.typeIs (bd ?_)))|(refine ba (fq hit.typeIs (bd ?_)))
 refine ba (n0 hit.typeIs ?_);show Bf _ _ (setField (.ref it) 1 (rawInt ((i:Int)+1)) >>= _) _ _ s;refine ba (iL ho hd (by simp) ?_);have next:(s.heap.update it (Obj.mapFields (·.setIfInBounds 1 (rawInt ((i:Int)+1))))).IsKeyIter it d (i+1) es.size ep:=by
  refine⟨_,ef _ ho (nX (gZ hd _)),(pQ ..).trans hc,?_⟩;rw[gZ hd];simp[rawInt]
 refine ba (du ?_);refine ba (n0 (s:={ s with heap:=s.heap.update it (Obj.mapFields (·.setIfInBounds 1 (rawInt ((i:Int)+1)))) }) next.typeIs ?_);show Bf _ _ (pure e.key) _ _ _;exact bd (bd ⟨_,Y,bd (q _ next (cR ..))⟩)
theorem zck{Q:Option af->am->Prop}(hh:A.handled=ao)(hit:s.heap.IsKeyIter it d i es.size ep)(hm:sW s.heap d es ep)(hx:es.size<=i)
  (q:∀h,rR it s.heap h->Q ao { s with heap:=h }):Bf (Bg P w) A (pyNext (.ref it)) Q E s:=by
 obtain⟨o,ho,hc,hd⟩:=id hit;obtain⟨od,hod,hcd,hdd⟩:=id hm;unfold pyNext;refine ba (ib (cK (name:=bg "__next__") hit.typeIs eE (cI eE hit.typeIs i4 ?_ (iS _))));refine ba (bd ?_);refine ba ?_;refine ba ?_
 first|(refine ba (eB hit.typeIs (bd ?_)))|(refine ba (fq hit.typeIs (bd ?_)))
 refine ba (mj ho hd ?_);have own:dE "dict_keyiterator"=aq:=by lia
 simp only[own,cL,if_false];show Bf _ _ (if (bI d==cE)=D then _ else _) _ _ s;rw[ap (show ¬ ((bI d==cE)=D) from bK)];refine ba (bd ?_);refine ba (dD hod hdd ?_);rw[ap (by simp)];refine ba (bd ?_);refine ba (gg hod hdd ?_);rw[ap (by simp)];refine bd ?_;simp only[show ¬ ((i:Int)<0) from by lia,if_false,dO,iq hx];refine ba ?_
 first|(refine ba (eB hit.typeIs (bd ?_)))|(refine ba (fq hit.typeIs (bd ?_)))
 show Bf _ _ (setField (.ref it) 0 .none >>= _) _ _ s;refine ba (iL ho hd (by simp) ?_);show Bf _ _ (newExc (.type "StopIteration") [] >>= _) _ _ _;refine ba ?_;simp only[newExc,newTuple];refine ba (cN ?_ (by size_fits));refine ba (m:=firstArgMember _ _) (wpAny_of_eq (a:=cE) (by first|rfl|(simp only[firstArgMember];rfl)) ?_);refine cN ?_ (by size_fits);simp only[raiseNew];refine ba (pq ?_);rw[show A.in1.handled=ao from hh];refine ba (bd (wpAny_throw ?_));exact ba (nD (T:="StopIteration") (b:=D) ⟨_,bE _ Y,Y⟩ oG (bd (q _ (((cR ..).extBut.push _).push _))))
theorem zda(hh:A.handled=ao)(I d:L)(hne:d≠I)(es:Array DictEntry)(ep:Nat) :
  Walks P w A I [I,d] [I] es.size (λi v=>∃e,es[i]?=U e/\v=e.key) (λi h=>h.IsKeyIter I d i es.size ep/\sW h d es ep) where
 sub:=λb hb=>by simp at hb;simp[hb]
 frame:=λ_ _ _ st hk=>⟨st.1.at λo e=>hk I (by simp) o e,st.2.at λo e=>hk d (by simp) o e⟩
 item:=λi s Q E hi st hQ=>by
  refine zaa st.1 st.2 (cg hi) λh' hit' hs'=>?_;exact hQ _ h' s.toks ⟨_,cg hi,Y⟩ ⟨hit',st.2.at λo e=>hs'.extBut d o hne e⟩ λb o hb e=>hs'.extBut b o (λh=>hb (by simp[h])) e
 done:=λs Q E st hQ=>zck hh st.1 st.2 (bp _) λh' he'=>hQ h' s.toks λb o hb e=>he' b o (λh=>hb (by simp[h])) e
 self:=λ_ _ _ _ st hQ=>oy st.1 hQ
end
end L2
namespace L2
open PySem PySem.Spec PyProof.Rows
section
open PySem.SeqAt
open PySem.AutoSeq1 (wpAny_loadPart')
open PySem.MeetsSeq PySem.MeetsSeq2 PySem.MeetsSeq3
theorem Ve(l b:L)(x y:Str)(i j:Int)(t u t2 u2:Tok)(n n2:Nat)(dd dd2:Option L)(sl sl2:Array (Option af)) :
  Meets (Builtin.«tuple.__lt__» ⟨[.ref l,.ref b],[]⟩) (λ_ R s=>s.heap.get? l=U { cls:=.type "tuple",dict:=dd,data:=.seq #[.str x t,.int i u] n,slots:=sl } /\
   s.heap.get? b=U { cls:=.type "tuple",dict:=dd2,data:=.seq #[.str y t2,.int j u2] n2,slots:=sl2 }/\R (.ok (.ret (.bool (yn (x,i) (y,j))))) s) :=
 .of_wp λprog w A R s h=>by
  obtain⟨hp,g,d,tk,os⟩:=s;obtain⟨hl,hb,h⟩:=h;have f2:=AutoSeq1.sub_tuple_tuple;have lt1:∀(E:af->am->Prop) (Q:af->am->Prop) (s:am),Q (.bool (decide (x.cps.toList<y.cps.toList))) s->Bf (Bg prog w) A.in1 (richCompare .Lt (.str x t) (.str y t2)) Q E s:=λE Q s q=>(PyProof.Rows.lt_str q:Bf (Bg prog w) A.in1 (Bi .Lt (.str x t) (.str y t2)) Q E s);have lt2:=HT.rcLt_int A.in1 ⟨hp,g,d,tk,os⟩ i u j u2 prog w;by_cases e:x=y
  ·subst e;have eq1:=lZ (A:=A.in1) (s:=⟨hp,g,d,tk,os⟩) x t x t2 prog w;rw[beq_self_eq_true] at eq1;unfold yn at h;rw[au rfl] at h;by_cases e2:i=j
   ·subst e2;have eq2:=lY (A:=A.in1) (s:=⟨hp,g,d,tk,os⟩) i u i u2 prog w;rw[beq_self_eq_true] at eq2
    wp_walk using gh hl,gh hb,eq1,eq2
    exact⟨_,Y,by simpa[Builtin.Tuple.tupleCompareSizes] using h⟩
   ·have eq2:=lY (A:=A.in1) (s:=⟨hp,g,d,tk,os⟩) i u j u2 prog w;rw[show (i==j)=aq from by simpa using e2] at eq2
    wp_walk using gh hl,gh hb,eq1,eq2,lt2
    exact⟨_,Y,by simpa using h⟩
  ·have eq1:=lZ (A:=A.in1) (s:=⟨hp,g,d,tk,os⟩) x t y t2 prog w;rw[show (x==y)=aq from by simpa using e] at eq1;unfold yn at h;rw[ap e] at h
   wp_walk using gh hl,gh hb,eq1,lt1
   exact⟨_,Y,by simpa using h⟩
end
section
variable {P:av}{w:ax}{A:ay}{E:af->am->Prop}{s:am}
theorem sW.lt(x:sW h d es ep):d<h.objs.size:=let ⟨_,ho,_⟩:=x;bO ho
theorem KM{d:L}{es:Array DictEntry}{ep:Nat}(lo:(d==sysModules)=aq):W.KdlSrc P w "dict" d d es.size (λi v=>∃e,es[i]?=U e/\v=e.key) (λh=>sW h d es ep) where
 type:=λ_ hm=>hm.type
 there:=λ_ hm=>⟨hm.lt,hm.lt⟩
 keep:=λ_ _ hm hk=>hm.at λo e=>hk d (.inl Y) o e
 notList:=by lia
 notTuple:=by lia
 hint:=λ_ _ _ _ hm hq=>W.kdl_hint_dict hm.type hq
 iter:=λ_ _ hh hm=>⟨_,_,(λ_ _ hq=>Q9 lo hm hq),zda hh _ d (bX hm.lt) es ep,⟨⟨_,bE _ Y,Y,Y⟩,hm.at λo e=>bc _ e⟩⟩
theorem Wf{G:Nat->af->Prop}{OK:aw->Prop}{R:List af->am->Prop}(K:W.KdlSrc P w T r d n G OK)(hh:A.handled=ao)(hok:OK s.heap)(hn:n<=Bb)
  (h:∀(h':aw) (tk:Nat) (vs:List af),(∀b o,s.heap.get? b=U o->h'.get? b=U o)->vs.length=n->(∀j v,vs[j]?=U v->G j v)->R vs { s with heap:=h',toks:=tk }) :
  Bf (Bg P w) A (collect (.ref r)) R E s:=by
 obtain⟨lr,ld⟩:=K.there _ hok;unfold collect;refine ba (wpAny_runValue (eO oz ?_));rw[dn lL _];show Bf _ A.in1 (newList [] >>= λl=>again (.builtin "list.__iadd__" ⟨[l,.ref r],[]⟩)) _ _ s;refine ba (cN ?_);refine bd ⟨gu fG _,eO entry_list_iadd' ?_⟩;rw[dn fG _];have hS:(s.heap.push { cls:=.type "list",data:=.seq ([]:List af).toArray }).get? s.heap.objs.size=U { cls:=.type "list",data:=.seq #[] }:=bE _ rfl;show Bf _ A.in1 (c9 (.ref s.heap.objs.size) (.ref r) (.ref s.heap.objs.size)) _ _ _;have key:=W.kdl_extend (A:=A) (s:={ s with heap:=s.heap.push { cls:=.type "list",data:=.seq ([]:List af).toArray } }) (R:=λ(q:aD) (s':am)=>∃(h':aw) (tk:Nat) (acc:Array af) (c:Nat),q=.ok (.ret (.ref s.heap.objs.size))/\s'={ s with heap:=h',toks:=tk } /\
   (∀b o,s.heap.get? b=U o->h'.get? b=U o)/\h'.get? s.heap.objs.size=U { cls:=.type "list",dict:=ao,data:=.seq acc c,slots:=#[] }/\ItemsOf G acc n) K hh (K.keep _ _ hok λb _ o e=>bc _ e) s.heap.objs.size (eS lr) (eS ld) (.ref s.heap.objs.size) 0 hS
  (λh' tk acc c hk hS' hacc=>⟨h',tk,acc,c,Y,Y,λb o e=>hk b o (bX (bO e)) (bc _ e),hS',hacc⟩) hn
 refine dC key (λfin s' x=>?_) λe s' x=>?_
 ·cases fin with
  |done f =>
   obtain⟨h',tk,acc,c,e,rfl,hk,hS',hacc⟩:=x;cases e;show Bf _ A (load s.heap.objs.size >>= _) _ _ _;refine ba (oo hS' ?_);exact bd (h h' tk acc.toList hk (by rw[cu];exact hacc.1) λj v e=>hacc.2 j v (by rw[<-c8];exact e))
  |again c =>
   refine⟨x.1,fU x.2 λq s' x=>?_⟩;obtain⟨h',tk,acc,c,rfl,rfl,hk,hS',hacc⟩:=x;show Bf _ A (load s.heap.objs.size >>= _) _ _ _;refine ba (oo hS' ?_);exact bd (h h' tk acc.toList hk (by rw[cu];exact hacc.1) λj v e=>hacc.2 j v (by rw[<-c8];exact e))
 ·obtain⟨h',tk,acc,c,e',_⟩:=x;cases e'
end
def zC(q:Str×Int):List aV:=[.inr q.1,.inl q.2]
abbrev zej:RC:=λxs H Q=>∃(a:L) (ah:List (List aV×V)) (qs:List (Str×Int)),xs=[.ref a]/\H a=U (.dT ah)/\ah.map (·.1)=qs.map zC/\ah.length<64 /\
 ∀(l:L) (ps:List (L×(Str×Int))),H l=ao->(ps.map (·.2)).Perm qs->(ps.map (·.2)).Pairwise (λa b=>yn a b=D)->(∀n∈ps,H n.1=U (.tup [.str n.2.1,.int n.2.2]))->Q (.ref l) (upd H l (.lst (ps.map λn=>V.ref n.1)))
theorem yR{α β:Type}{F:α->β->Prop}:∀ {l₁:List α} {l₂:List β},Paired F l₁ l₂->∀ {i:Nat} {a:α} {b:β},l₁[i]?=U a->l₂[i]?=U b->F a b
 |_,_,.nil,i,a,b,h,_=>by simp at h
 |_,_,.cons x r,0,a,b,h1,h2=>by
  simp only[eG,fu] at h1 h2;subst h1 h2;exact x
 |_,_,.cons x r,i+1,a,b,h1,h2=>yR r (by simpa using h1) (by simpa using h2)
theorem tN.keep{q:Str×Int}(x:tN h v q)(k:∀b o,h.get? b=U o->h'.get? b=U o):tN h' v q:=by
 obtain⟨a,o,t,u,n,e,ho,r⟩:=x;exact⟨a,o,t,u,n,e,k _ _ ho,r⟩
section
variable {X:Cx}
theorem zab{σ:St}{H:Hp}{s:am}{a:L}{q:Str×Int}(I:aO X aa σ H s)(h:H a=U (.tup [.str q.1,.int q.2])):tN s.heap (.ref a) q:=by
 obtain⟨its,rv,⟨o,ho,hc,n,hd⟩,_⟩:=I.tuple (sB.of h);cases rv with
 |cons r1 rr =>
  cases rr with
  |cons r2 rn =>
   cases rn;obtain⟨t,rfl⟩:=r1;obtain⟨u,rfl⟩:=r2;exact⟨a,o,t,u,n,Y,ho,hc,hd⟩
theorem xF{α β:Type}{f:α->β}:∀ {l:List α},(l.map f).Nodup->l.Nodup
 |[],_=>cw
 |a::r,h=>by
  rw[bw,bZ] at h;exact bZ.mpr ⟨λz=>h.1 (bt z),xF h.2⟩
theorem KN(hc:X.calm=D):jZ X (.builtin "sorted") zej:=by
 intro aa s σ H xs us Q I r h;obtain⟨a,ah,qs,rfl,ha,hk,h64,q⟩:=h;obtain⟨u,rfl,ru⟩:=jt r;cases ru;obtain⟨hz,lo,xs,rel,o,es,ep,ho,hx,hd,he,hn⟩:=(show aW X.prog X.w H s.heap a (.dT ah) from I.hok a _ ha);have hh:X.A.handled=ao:=I.ok.hd hc;have lk:ah.length=qs.length:=by have:=congrArg fE hk;simpa using this
 have lx:ah.length=xs.length:=bL rel;have les:es.size=xs.length:=by rw[<-cu,he,bf]
 -- the keys in their order
 have key:∀(i:Nat) (x:List aV×L×af),xs[i]?=U x->∃q,qs[i]?=U q/\x.1=zC q/\H x.2.1=U (.tup [.str q.1,.int q.2]):=λi x hx=>by
  have hi:=(bn.mp hx).1;obtain⟨kv,hkv⟩:∃kv,ah[i]?=U kv:=⟨_,bb ()⟩;obtain⟨q,hq⟩:∃q,qs[i]?=U q:=⟨_,bb ()⟩;have rl:=yR rel hkv hx;have e1:kv.1=zC q:=by
   have e1:(ah.map (·.1))[i]?=U kv.1:=by rw[bx,hkv];rfl
   have e2:(qs.map zC)[i]?=U (zC q):=by rw[bx,hq];rfl
   rw[hk,e2] at e1;exact(bJ e1).symm
  refine⟨q,hq,by rw[<-rl.1,e1],?_⟩;have:=rl.2.1;rw[e1] at this;exact this
 have nq:qs.Nodup:=by
  refine xF (f:=zC) ?_;have e:xs.map (·.1)=qs.map zC:=by
   rw[<-hk];apply fo;intro i;rw[bx,bx];cases hx:xs[i]? with
   |none =>
    have:xs.length<=i:=by simpa using hx
    rw[cz (by lia:ah.length<=i)];rfl
   |some x =>
    have hi:=(bn.mp hx).1;have hkv:ah[i]?=U ah[i]:=bb ();rw[hkv];have:=(yR rel hkv hx).1;simp[this]
  rw[<-e];exact hn
 have vv:∀(i:Nat) (v:af) (q:Str×Int),(xs.map λx=>bI x.2.1)[i]?=U v->qs[i]?=U q->tN s.heap v q:=λi v q hv hq=>by
  rw[bx] at hv;obtain⟨x,hx,rfl⟩:=bY.mp hv;obtain⟨q',hq',_,hH⟩:=key i x hx;rw[hq] at hq';cases hq';exact zab I hH
 have lv:(xs.map λx=>bI x.2.1).length=qs.length:=by rw[bf];lia
 have vat:∀i,i<qs.length->tN s.heap ((xs.map λx=>bI x.2.1).getD i cE) (qs.getD i ("",0)):=λi hi=>by
  refine vv i _ _ ?_ ?_
  ·rw[bM,bb (by rw[lv];exact hi)];rfl
  ·rw[bM,bb hi];rfl
 have S:=Vd nq;rw[<-lv] at S;refine Q7 (vs:=xs.map λx=>bI x.2.1) (κ:=tuples' D) (by rw[bf];lia) S (λR hR=>?_) (λh2 h tk Q' kp q'=>?_) (λh tk i j C kp hi hj hij q'=>?_) λh tk h' p c k1 k2 hD hp hr=>?_
 ·refine Wf (KM (ep:=ep) (es:=es) lo) hh ⟨o,ho,hx,hd⟩ (by rw[les];lia) λh' tk vs kp hl hG=>?_;have ev:vs=xs.map λx=>bI x.2.1:=by
   apply fo;intro i;by_cases hi:i<vs.length
   ·obtain⟨e,hes,ek⟩:=hG i vs[i] (bb hi);have e2:es.toList[i]?=U e:=by rw[c8];exact hes
    rw[he,bx] at e2;obtain⟨x,hxx,ex⟩:=bY.mp e2;rw[bb hi,ek,bx,hxx,<-ex];rfl
   ·rw[cz (),cz (by rw[bf];lia)]
  rw[ev];exact hR h' tk kp
 ·exact zby (s:={ s with heap:=h,toks:=tk }) lv (λi v q hv hq=>(vv i v q hv hq).keep kp) () q'
 ·rw[lv] at hi hj;refine zc9 (s:={ s with heap:=h,toks:=tk }) ((vat i hi).keep kp) ((vat j hj).keep kp) q' λz=>hij ?_;rw[bM,bM,bb hi,bb hj] at z;exact(iX nq).mp z
 ·have I1:aO X aa σ H { s with heap:=h,toks:=tk }:=I.kept k1;have ps:∃ps:List (L×(Str×Int)),ps.map (λn=>bI n.1)=vY (xs.map λx=>bI x.2.1) p/\ps.map (·.2)=p.toList.map (λi=>qs.getD i ("",0))/\∀n∈ps,H n.1=U (.tup [.str n.2.1,.int n.2.2]):=by
   have pl:∀i∈p.toList,i<xs.length:=λi hi=>by
    have:i∈p:=by simpa using hi
    have:=(pB hp).mp this;rw[bf] at this;simpa using this
   refine⟨p.toList.map λi=>((xs.getD i ([],0,.none)).2.1,qs.getD i ("",0)),?_,by rw[da];rfl,λn hn=>?_⟩
   ·unfold vY;rw[da];refine dy λi hi=>?_;have:=pl i hi;simp[bM,bx,bb this]
   ·obtain⟨i,hi,rfl⟩:=bC.mp hn;have hl:=pl i hi;obtain⟨q,hq,_,hH⟩:=key i xs[i] (bb hl);have e1:xs.getD i ([],0,.none)=xs[i]:=by rw[bM,bb hl];rfl
    have e2:qs.getD i ("",0)=q:=by rw[bM,hq];rfl
    show H (xs.getD i ([],0,.none)).2.1=U (.tup [.str (qs.getD i ("",0)).1,.int (qs.getD i ("",0)).2]);rw[e1,e2];exact hH
  obtain⟨ps,e1,e2,hps⟩:=ps;have vr:aR (ps.map λn=>V.ref n.1) (ps.map λn=>bI n.1):=by
   clear e1 e2 hps;induction ps with
   |nil=>exact .nil
   |cons n r ih=>exact .cons Y ih
  have psz:p.size=xs.length:=by have:=hp.size;rw[bf] at this;exact this
  have pln:ps.length=xs.length:=by have:=congrArg fE e1;unfold vY at this;simpa[psz] using this
  have I2:aO X aa σ (upd H h.objs.size (.lst (ps.map λn=>V.ref n.1))) { s with heap:=h',toks:=tk }:=I1.laid (s:={ s with heap:=h,toks:=tk }) (a:=h.objs.size) (o:=.lst (ps.map λn=>V.ref n.1)) (t':=tk) k2 (bp _)
   ⟨by rw[bf];lia,ps.map λn=>bI n.1,c,vr,by rw[e1];exact hD⟩
  refine⟨.ref h.objs.size,_,I2,Y,q _ ps (I1.hok.fresh (bp _)) ?_ ?_ hps⟩
  ·rw[e2];have pr:p.toList.Perm (dt qs.length):=by
    have:=gB.mp hp;rw[lv] at this;simpa using this
   refine(pr.map _).trans ?_;have:(dt qs.length).map (λi=>qs.getD i ("",0))=qs:=by
    apply fo;intro i;rw[bx];by_cases hi:i<qs.length
    ·rw[lK hi,bb hi];simp[bM,bb hi]
    ·rw[cz (by simpa using hi),cz ()];rfl
   rw[this]
  ·rw[e2,gy,dU];intro i j hi hj hij;rw[cu] at hi hj;have g1:=ku hi;have g2:=ku hj;have r:=hr i j hij (by rw[bf];lia);have x1:p.toList[i]=gt p i:=by
    rw[cg hi] at g1;simpa using g1
   have x2:p.toList[j]=gt p j:=by
    rw[cg hj] at g2;simpa using g2
   rw[x1,x2];exact r
end
def Itd(a:L)(o:Obj)(ah:List (List aV×V)):It :=
 ⟨λi H=>H a=U (.frz o (.dT ah))/\i<ah.length,λi H x H'=>H'=H/\∃k v p,ah[i]?=U (k,v)/\x=.ref p/\H p=U (.tup (k.map kV)),λi H=>H a=U (.frz o (.dT ah))/\ah.length<=i⟩
section
variable {X:Cx}
theorem KO{σ:St}{H:Hp}{s:am}{a:L}{o:Obj}{ah:List (List aV×V)}(I:aO X aa σ H s)(ha:H a=U (.frz o (.dT ah))) :
  (a==sysModules)=aq/\∃(es:Array DictEntry) (ep:Nat),o.data=.dict es ep/\sW s.heap a es ep/\es.size=ah.length/\∀(i:Nat) (e:DictEntry),es[i]?=U e->∃(k:List aV) (v:V) (p:L),ah[i]?=U (k,v)/\e.key=bI p/\H p=U (.tup (k.map kV)):=by
 obtain⟨hg,hz,lo,xs,rel,o',es,ep,ho,hx,hd,he,hn⟩:=(show aW X.prog X.w H s.heap a (.frz o (.dT ah)) from I.hok a _ ha);rw[hg] at ho;cases ho;have lx:ah.length=xs.length:=bL rel;have les:es.size=xs.length:=by rw[<-cu,he,bf]
 refine⟨lo,es,ep,hd,⟨o,hg,hx,hd⟩,(),λi e hi=>?_⟩;have e2:es.toList[i]?=U e:=by rw[c8];exact hi
 rw[he,bx] at e2;obtain⟨x,hxx,ex⟩:=bY.mp e2;have hl:=(bn.mp hxx).1;have hk:ah[i]?=U ah[i]:=bb ();have rl:=yR rel hk hxx;refine⟨ah[i].1,ah[i].2,x.2.1,hk,by rw[<-ex];rfl,rl.2.1⟩
theorem zbz{P:av}{w:ax}{K:bu}{tg:aB}{a it:L}{o:Obj}{ah:List (List aV×V)}{es:Array DictEntry}{ep:Nat}(hd:o.data=.dict es ep) :
  zcO P w K tg (Itd a o ah) [it] it (λi h=>h.IsKeyIter it a i es.size ep) where
 mem:=by simp
 obj:=λi h st b hb=>by
  have e:b=it:=by simpa using hb
  subst e;obtain⟨o,e,c,d⟩:=st;exact⟨o,e,λv z=>by rw[d] at z;cases z⟩
 keep:=λi h h' st k=>st.at λo e=>k it (by simp) o e
 item:=by
  intro X hP hw hK hc i aa s σ H E I hf st hg;subst hP hw hK;obtain⟨ha,hi⟩:=hg;obtain⟨lo,es',ep',hd',raw,hs,key⟩:=KO I ha;rw[hd] at hd';cases hd';obtain⟨f0,f1,f2,f3,f4,f5⟩:=hf it (by simp);have hx:es[i]?=U es[i]:=cg ();obtain⟨k,v,p,hk,ek,hp⟩:=key i _ hx;refine zaa st raw hx λh' st' sb=>?_;have I1:aO X aa σ H { s with heap:=h' }:=I.turned (t':=s.toks) (λb o hb e=>(sb.2 b hb).trans e) f0 f1 f3 f4 f5;obtain⟨o',e,c,d⟩:=id st';exact⟨_,Y,zb0 (s:={ s with heap:=h' }) e c d () ⟨.ref p,H,I1,by rw[ek];rfl,⟨Y,k,v,p,hk,Y,hp⟩,st',λb hb=>(hf b hb).1⟩⟩
 done:=by
  intro X hP hw hK hc i aa s σ H E I hf st hg;subst hP hw hK;obtain⟨ha,hi⟩:=hg;obtain⟨lo,es',ep',hd',raw,hs,key⟩:=KO I ha;rw[hd] at hd';cases hd';obtain⟨f0,f1,f2,f3,f4,f5⟩:=hf it (by simp);exact zck (I.ok.hd hc) st raw () λh' eb=>⟨Y,I.turned (t':=s.toks) (λb o hb e=>eb b o hb e) f0 f1 f3 f4 f5⟩
 self:=λ_ _ _ _ _ st h=>oy st h
def iDT(tl:TE):TI:=λσ H R=>tl σ H λx H1=>∃a o ah,x=.ref a/\H1 a=U (.frz o (.dT ah))/\R (Itd a o ah) H1
theorem zek{tl:TE}(hl:PE X l tl):PI X tg l (iDT tl):=by
 intro aa s σ H R I h;refine dl (hl aa s σ H _ I h) ?_;rintro v s1 ⟨x,H1,I1,r1,q1⟩;obtain⟨a,o,ah,e,ha,q⟩:=q1;subst e;cases r1;obtain⟨lo,es,ep,hd,raw,hs,key⟩:=KO I1 ha;refine Q9 lo raw ?_;refine⟨s1.heap.objs.size,[s1.heap.objs.size],_,_,H1,Y,I1.kept (t':=s1.toks) λb o e=>bc _ e,zbz hd,⟨_,bE _ Y,Y,Y⟩,λb hb=>?_,q⟩;have e:b=s1.heap.objs.size:=by simpa using hb
 subst e;exact I1.fpOk (bp _) (I1.hok.fresh (bp _))
def zel:HO->Prop
 |.tup _=>False
 |.own _=>False
 |.tbl _=>False
 |_=>True
theorem aO.relab{σ:St}{H:Hp}{s:am}{a:L}{u u':HO}(I:aO X aa σ H s)(ha:H a=U u)(hp:zel u)(hf:∀o z,X.H₀ a≠U (.frz o z))(ho:aW X.prog X.w (upd H a u') s.heap a u'):aO X aa σ (upd H a u') s:=by
 have nn:∀b,H b=ao->b≠a:=λb n z=>by subst z;rw[n] at ha;cases ha
 have ntup:∀b xs,H b=U (.tup xs)->b≠a:=λb xs q z=>by subst z;rw[ha] at q;cases q;exact hp
 have nown:∀b y,H b=U (.own y)->b≠a:=λb y q z=>by subst z;rw[ha] at q;cases q;exact hp
 have ntbl:∀b y,H b=U (.tbl y)->b≠a:=λb y q z=>by subst z;rw[ha] at q;cases q;exact hp
 refine⟨I.ok,I.os,I.bare,⟨I.base.keep,I.base.slot,λb o q n hb=>?_,I.base.there,λb xs q=>?_,λb o z q=>?_,λb ps q=>?_⟩,I.loc,I.cell,?_,λx c e=>?_,λp hp=>?_,λb v q=>?_,I.len⟩
 ·have:=I.base.free b o q n hb;rw[zk (nn b this)];exact this
 ·have:=I.base.tups b xs q;rw[zk (ntup b xs this)];exact this
 ·have:=I.base.frzs b o z q;rw[zk (λe=>hf o z (by rw[<-e];exact q))];exact this
 ·obtain⟨m,e⟩:=I.base.tbls b ps q;exact⟨m,by rw[zk (ntbl b _ e)];exact e⟩
 ·rw[zk (nn _ I.free)];exact I.free
 ·have:=I.freeC x c e;rw[zk (nn _ this)];exact this
 ·obtain⟨h1,h2,h3⟩:=I.pin p hp;exact⟨h1,by rw[zk (nn _ h2)];exact h2,h3⟩
 ·by_cases hb:b=a
  ·subst hb;rw[zh] at q;cases q;exact ho
  ·rw[zk hb] at q;exact(I.hok b v q).stay (λ_ _ _ r=>r) (λc r=>by rw[zk (nown c b r)];exact r) λc xs r=>by rw[zk (ntup c xs r)];exact r
def zig(t:TS):TS:=λBq σ H=>∃a u0 ah,H a=U u0/\(u0=.dT ah\/∃o,u0=.frz o (.dT ah))/\∀o,t
 ⟨λσ' H'=>H' a=U (.frz o (.dT ah))/\Bq.nx σ' (upd H' a u0),λv H'=>H' a=U (.frz o (.dT ah))/\Bq.rt v (upd H' a u0),λσ' H'=>H' a=U (.frz o (.dT ah))/\Bq.bk σ' (upd H' a u0),λσ' H'=>H' a=U (.frz o (.dT ah))/\Bq.ct σ' (upd H' a u0)⟩ σ (upd H a (.frz o (.dT ah)))
theorem aW.upd_dT{H:Hp}(ha:H a=U u)(hp:zel u)(x:aW P w H h a (.dT ah)):aW P w (upd H a u') h a (.dT ah):=by
 refine x.stay (λ_ _ _ r=>r) (λc r=>?_) λc xs r=>?_
 ·rw[zk λz=>by subst z;rw[ha] at r;cases r;exact hp];exact r
 ·rw[zk λz=>by subst z;rw[ha] at r;cases r;exact hp];exact r
theorem zhr{st:aA}{t:TS}(hst:PS X st t):PS X st (zig t):=by
 rintro aa s σ H Bq I ⟨a,u0,ah,ha,hu,h⟩;have pl:zel u0:=by rcases hu with rfl|⟨o,rfl⟩ <;> trivial
 -- the object as it stands
 have ob:∃o,s.heap.get? a=U o/\(u0=.dT ah\/u0=.frz o (.dT ah)):=by
  rcases hu with rfl|⟨o,rfl⟩
  ·obtain⟨hz,lo,xs,rel,o,es,ep,ho,_⟩:=(show aW X.prog X.w H s.heap a (.dT ah) from I.hok a _ ha);exact⟨o,ho,.inl Y⟩
  ·exact⟨o,(show aW X.prog X.w H s.heap a (.frz o (.dT ah)) from I.hok a _ ha).1,.inr Y⟩
 obtain⟨o,ho,hu⟩:=ob;have I1:aO X aa σ (upd H a (.frz o (.dT ah))) s:=by
  rcases hu with rfl|rfl
  ·refine I.relab ha trivial (λo' z q=>?_) ⟨ho,aW.upd_dT ha trivial (I.hok a _ ha)⟩;have:=I.base.frzs a o' z q;rw[ha] at this;cases this
  ·have e:upd H a (.frz o (.dT ah))=H:=by
    funext b;unfold upd;split
    ·next z=>rw[z];exact ha.symm
    ·rfl
   rw[e];exact I
 have back:∀ {σ':St} {H':Hp} {s':am},aO X aa σ' H' s'->H' a=U (.frz o (.dT ah))->aO X aa σ' (upd H' a u0) s':=λ{σ' H' s'} I' ha'=>by
  rcases hu with rfl|rfl
  ·refine I'.relab ha' trivial (λo' z q=>?_) (aW.upd_dT ha' trivial (show aW X.prog X.w H' s'.heap a (.frz o (.dT ah)) from I'.hok a _ ha').2);have:=I.base.frzs a o' z q;rw[ha] at this;cases this
  ·have e:upd H' a (.frz o (.dT ah))=H':=by
    funext b;unfold upd;split
    ·next z=>rw[z];exact ha'.symm
    ·rfl
   rw[e];exact I'
 refine dl (hst aa s σ _ _ I1 (h o)) λf s' q=>?_;cases f with
 |next=>obtain⟨σ',H',I',ha',q⟩:=q;exact⟨σ',_,back I' ha',q⟩
 |brk=>obtain⟨σ',H',I',ha',q⟩:=q;exact⟨σ',_,back I' ha',q⟩
 |cont=>obtain⟨σ',H',I',ha',q⟩:=q;exact⟨σ',_,back I' ha',q⟩
 |ret v=>obtain⟨x,σ',H',I',r,ha',q⟩:=q;exact⟨x,σ',_,back I' ha',r,q⟩
end
section
variable {σ:St}{H:Hp}{nx:St->Hp->Prop}{Bo:V->St->Hp->(St->Hp->Prop)->Prop}
theorem zbA(Pv:Nat->St->Hp->Prop)(h0:Pv 0 σ H)(hl:∀i σ H,Pv i σ H->H a=U (.frz o (.dT ah)))
  (hs:∀i k v p σ H,ah[i]?=U (k,v)->H p=U (.tup (k.map kV))->Pv i σ H->Bo (.ref p) σ H (Pv (i+1))) (hd:∀σ H,Pv ah.length σ H->nx σ H) :
  ∃W:Nat->Nat->St->Hp->Prop,(∃m,W 0 m σ H)/\∀i m σ H,W i m σ H->((Itd a o ah).stop i H/\nx σ H)\/((Itd a o ah).go i H/\∃N:St->Hp->Prop,(∀σ' H',N σ' H'->∃m',m'<m/\W (i+1) m' σ' H')/\∀x H',(Itd a o ah).yld i H x H'->Bo x σ H' N):=by
 refine⟨λi m σ H=>m=ah.length-i/\i<=ah.length/\Pv i σ H,⟨ah.length,by simp,bT _,h0⟩,?_⟩;rintro i m σ H ⟨rfl,hi,B⟩;by_cases hlt:i<ah.length
 ·refine .inr ⟨⟨hl i σ H B,hlt⟩,Pv (i+1),λσ' H' p'=>⟨ah.length-(i+1),(),Y,hlt,p'⟩,?_⟩;rintro x H' ⟨rfl,k,v,p,hk,rfl,hp⟩;exact hs i k v p σ _ hk hp B
 ·obtain rfl:i=ah.length:=by lia
  exact .inl ⟨⟨hl _ σ H B,bp _⟩,hd σ H B⟩
end
mutual
inductive Dat (K:bu) (H:Hp):V->PyData->Prop
 |non:Dat K H .non .none
 |bl (b:Bool):Dat K H (.bl b) (.bool b)
 |int (i:Int):Dat K H (.int i) (.int i)
 |str (x:Str):Dat K H (.str x) (.str x)
 |lst {a:L} {xs:List V} {ds:List PyData}:aT K H a xs->sQ K H xs ds->Dat K H (.ref a) (.list ds)
 |tup {a:L} {xs:List V} {ds:List PyData}:sB K H a xs->sQ K H xs ds->Dat K H (.ref a) (.tuple ds)
inductive sQ (K:bu) (H:Hp):List V->List PyData->Prop
 |nil:sQ K H [] []
 |cons {x:V} {d:PyData} {xs:List V} {ds:List PyData}:Dat K H x d->sQ K H xs ds->sQ K H (x::xs) (d::ds)
end
section
variable {X:Cx}{aa:List (L×Obj)}{σ:St}{H:Hp}{s:am}
mutual
theorem Dat.reads(I:aO X aa σ H s):∀ {x:V} {d:PyData} {u:af},Dat X.K H x d->aU x u->∃as,Reads s.heap u d as
 |_,_,_,.non,r=>by cases r;exact⟨_,.none⟩
 |_,_,_,.bl b,r=>by cases r;exact⟨_,.bool b⟩
 |_,_,_,.int i,r=>by obtain⟨t,rfl⟩:=r;exact⟨_,.int i t⟩
 |_,_,_,.str x,r=>by obtain⟨t,rfl⟩:=r;exact⟨_,.str x t⟩
 |_,_,_,.lst hq ha,r=>by
  cases r;obtain⟨its,rv,⟨o,n,e,c,_,d⟩,_⟩:=I.list hq;obtain⟨as,ra⟩:=sQ.reads I ha rv;exact⟨_,.list e c d (by simpa using ra)⟩
 |_,_,_,.tup hq ha,r=>by
  cases r;obtain⟨its,rv,⟨o,e,c,n,d⟩,_⟩:=I.tuple hq;obtain⟨as,ra⟩:=sQ.reads I ha rv;exact⟨_,.tuple e c d (by simpa using ra)⟩
theorem sQ.reads(I:aO X aa σ H s):∀ {xs:List V} {ds:List PyData} {us:List af},sQ X.K H xs ds->aR xs us->∃as,ReadsAll s.heap us ds as
 |_,_,_,.nil,r=>by cases r;exact⟨_,.nil⟩
 |_,_,_,.cons hx ht,r=>by
  cases r with
  |cons r1 rr =>
   obtain⟨as,ra⟩:=Dat.reads I hx r1;obtain⟨bs,rb⟩:=sQ.reads I ht rr;exact⟨_,.cons ra rb⟩
end
end
section
variable {K:bu}{H H':Hp}
theorem aT.mono(k:aK H H')(h:aT K H a xs):aT K H' a xs:=by
 rcases h with (h|⟨o,h⟩)|h
 ·exact .inl (.inl (k _ _ h))
 ·exact .inl (.inr ⟨o,k _ _ h⟩)
 ·exact .inr h
end
mutual
def yi:PyData->Bool
 |.none=>D
 |.int _=>D
 |.str x=>b9 x
 |.list xs=>xH xs
 |.tuple xs=>xH xs
 |.bool _=>aq
 |.dict _=>aq
def xH:List PyData->Bool
 |[]=>D
 |x::xs=>yi x&&xH xs
end
mutual
theorem JU:∀ {d:PyData},yi d=D->d.canLay0=D
 |.none,_=>by simp[eX]
 |.int _,_=>by simp[eX]
 |.str x,h=>by simpa[eX,yi] using h
 |.list xs,h=>by rw[eX];exact Yo (by simpa[yi] using h)
 |.tuple xs,h=>by rw[eX];exact Yo (by simpa[yi] using h)
 |.bool _,h=>by simp[yi] at h
 |.dict _,h=>by simp[yi] at h
theorem Yo:∀ {ds:List PyData},xH ds=D->gq ds=D
 |[],_=>by simp[gq]
 |x::xs,h=>by
  rw[xH,bW] at h;rw[gq,JU h.1,Yo h.2];rfl
end
mutual
theorem JV:∀ {d e:PyData},yi d=D->yi e=D->(iE d e=D↔d=e)
 |.list xs,.list ys,h,h'=>by
  rw[iE,Yp (by simpa[yi] using h) (by simpa[yi] using h'),PyData.list.injEq]
 |.tuple xs,.tuple ys,h,h'=>by
  rw[iE,Yp (by simpa[yi] using h) (by simpa[yi] using h'),pD]
 |.bool _,_,h,_=>by simp[yi] at h
 |.dict _,_,h,_=>by simp[yi] at h
 |.none,.bool _,_,h=>by simp[yi] at h
 |.int _,.bool _,_,h=>by simp[yi] at h
 |.str _,.bool _,_,h=>by simp[yi] at h
 |.list _,.bool _,_,h=>by simp[yi] at h
 |.tuple _,.bool _,_,h=>by simp[yi] at h
 |.none,.dict _,_,h=>by simp[yi] at h
 |.int _,.dict _,_,h=>by simp[yi] at h
 |.str _,.dict _,_,h=>by simp[yi] at h
 |.list _,.dict _,_,h=>by simp[yi] at h
 |.tuple _,.dict _,_,h=>by simp[yi] at h
 |.none,.none,_,_|.none,.int _,_,_|.none,.str _,_,_|.none,.list _,_,_|.none,.tuple _,_,_=>by simp[iE]
 |.int _,.none,_,_|.int _,.int _,_,_|.int _,.str _,_,_|.int _,.list _,_,_|.int _,.tuple _,_,_=>by simp[iE]
 |.str _,.none,_,_|.str _,.int _,_,_|.str _,.str _,_,_|.str _,.list _,_,_|.str _,.tuple _,_,_=>by simp[iE]
 |.list _,.none,_,_|.list _,.int _,_,_|.list _,.str _,_,_|.list _,.tuple _,_,_=>by simp[iE]
 |.tuple _,.none,_,_|.tuple _,.int _,_,_|.tuple _,.str _,_,_|.tuple _,.list _,_,_=>by simp[iE]
theorem Yp:∀ {xs ys:List PyData},xH xs=D->xH ys=D->(lh xs ys=D↔xs=ys)
 |[],[],_,_=>by simp[lh]
 |[],_::_,_,_=>by simp[lh]
 |_::_,[],_,_=>by simp[lh]
 |x::xs,y::ys,h,h'=>by
  rw[xH,bW] at h h';rw[lh,bW,JV h.1 h'.1,Yp h.2 h'.2,eP]
end
abbrev zf1(K:bu)(neg:Bool):R2:=λx y H Q=>∃d e,Dat K H x d/\Dat K H y e/\(yi d=D/\yi e=D/\d.depth<=64/\e.depth<=64)/\∀b:Bool,(b=D↔d=e)->Q (.bl (if neg then !b else b)) H
section
variable {X:Cx}
theorem Y1(h:yi d=D)(h':d.depth<=64):iR d=D:=by
 unfold iR;rw[JU h,Bj h'];rfl
theorem zac(hu:X.A.units+64<cLine):ti X (Bi .Eq) (zf1 X.K aq):=by
 intro aa s σ H x y v u Q I rx ry h;obtain⟨d,e,hd,he,⟨p1,p2,l1,l2⟩,q⟩:=h;obtain⟨as,ra⟩:=hd.reads I rx;obtain⟨bs,rb⟩:=he.reads I ry;exact eq_dataH ra rb (Y1 p1 l1) (Y1 p2 l2) hu ⟨.bl _,H,I,Y,q _ (JV p1 p2)⟩
end
abbrev zad(neg:Bool):R2:=λx y H Q=>∃a o,y=.ref a/\sL H a x o/\Q (.bl (if neg then !o.isSome else o.isSome)) H
section
variable {X:Cx}
theorem WR(hu:X.A.units+1<cLine):ti X (Bi .In) (zad aq):=by
 intro aa s σ H x y v u Q I rx ry h;obtain⟨a,o,rfl,g,q⟩:=h;cases ry;exact ziy hu I g rx λs' I'=>⟨.bl _,H,I',Y,q⟩
theorem Vf(hu:X.A.units+1<cLine):ti X (Bi .NotIn) (zad D):=by
 intro aa s σ H x y v u Q I rx ry h;obtain⟨a,o,rfl,g,q⟩:=h;cases ry;exact zfK hu I g rx λs' I'=>⟨.bl _,H,I',Y,q⟩
end
end L2
namespace L2
open PySem
abbrev Pl:=Str×Int
abbrev aQ:=Pl×Int
def zF:List aQ->Pl->Option Int
 |[],_=>ao
 |r::t,p=>(zF t p).or (if r.1=p then U r.2 else ao)
def Y2(ah:List (List aV×V))(q:aQ):List (List aV×V):=yq ah (zC q.1) (.int q.2)
def sE(aM:List aQ):List (List aV×V):=aM.foldl Y2 []
theorem xh{p q:Pl}(h:zC p=zC q):p=q:=by
 unfold zC at h;simp only[eP,Sum.inr.injEq,Sum.inl.injEq,and_true] at h;exact rK h.1 h.2
theorem zae:∀(aM:List aQ) (ah:List (List aV×V)) (p:Pl),yc (aM.foldl Y2 ah) (zC p)=((zF aM p).map V.int).or (yc ah (zC p))
 |[],_,_=>rfl
 |r::t,ah,p=>by
  rw[eN,zae t,zF];show _=_;rw[Y2,YU];cases zF t p with
  |some w=>rfl
  |none =>
   by_cases e:r.1=p
   ·subst e;simp
   ·rw[ap (λz=>e (xh z).symm)];simp[e]
theorem wc(aM:List aQ)(p:Pl):yc (sE aM) (zC p)=(zF aM p).map V.int:=by
 unfold sE;rw[zae,QI];cases zF aM p <;> rfl
theorem qS(aM:List aQ)(q:aQ):sE (aM++[q])=yq (sE aM) (zC q.1) (.int q.2):=by
 unfold sE;rw[List.foldl_append];rfl
def OkKv(ah:List (List aV×V)):Prop:=(ah.map (·.1)).Nodup/\∀kv∈ah,∃(p:Pl) (w:Int),kv=(zC p,.int w)
theorem OkKv.put(h:OkKv ah)(p:Pl)(w:Int):OkKv (yq ah (zC p) (.int w)):=by
 cases e:yc ah (zC p) with
 |none =>
  refine⟨zfM _ h.1 e,λkv hk=>?_⟩;rw[va _ e] at hk;rcases bB.mp hk with hk|hk
  ·exact h.2 kv hk
  ·exact⟨p,w,br.mp hk⟩
 |some v =>
  have q:(ah.any λkv=>decide (kv.1=zC p))=D:=by rw[w6,e];rfl
  unfold yq;rw[au q];constructor
  ·rw[da];have:((λx:List aV×V=>x.1) ∘ λkv:List aV×V=>if kv.1=zC p then (kv.1,V.int w) else kv)=λx=>x.1:=by
    funext kv
    show (if kv.1=zC p then (kv.1,V.int w) else kv).1=kv.1;split <;> rfl
   rw[this];exact h.1
  ·intro kv hk;obtain⟨z,hz,rfl⟩:=bC.mp hk;by_cases e:z.1=zC p
   ·exact⟨p,w,by rw[au e,e]⟩
   ·rw[ap e];exact h.2 z hz
theorem JW:∀(aM:List aQ) (ah:List (List aV×V)),OkKv ah->OkKv (aM.foldl Y2 ah)
 |[],_,h=>h
 |r::t,ah,h=>JW t _ (h.put r.1 r.2)
theorem kA(aM:List aQ):OkKv (sE aM):=JW aM [] ⟨cw,λ_ h=>nomatch h⟩
theorem zf2(ah:List (List aV×V))(k:List aV)(v:V):(yq ah k v).length<=ah.length+1:=by
 unfold yq;split
 ·rw[bf];lia
 ·rw[bF];simp
theorem zaf:∀(aM:List aQ) (ah:List (List aV×V)),(aM.foldl Y2 ah).length<=ah.length+aM.length
 |[],_=>by simp
 |r::t,ah=>by
  have:=zaf t (Y2 ah r);have:=zf2 ah (zC r.1) (.int r.2);rw[eN,bU];unfold Y2 at *
  lia
theorem jv(aM:List aQ):(sE aM).length<=aM.length:=by have:=zaf aM [];simpa[sE] using this
theorem KP{ah:List (List aV×V)}:(ah.map (·.1)).Nodup->∀kv∈ah,yc ah kv.1=U kv.2:=by
 induction ah with
 |nil=>exact λ_ kv h=>nomatch h
 |cons a r ih =>
  intro hn kv hk;rw[bw,bZ] at hn;rcases bD.mp hk with rfl|hk
  ·exact yN rfl
  ·rw[yO λz=>hn.1 (by rw[z];exact bt hk)];exact ih hn.2 kv hk
theorem mem_dOf :kv∈sE aM↔∃p w,kv=(zC p,.int w)/\zF aM p=U w:=by
 constructor
 ·intro h;obtain⟨p,w,rfl⟩:=(kA aM).2 kv h;have:=KP (kA aM).1 _ h;rw[wc] at this;obtain⟨w',e1,e2⟩:=bY.mp this;cases e2;exact⟨p,w,Y,e1⟩
 ·rintro⟨p,w,rfl,h⟩;have e:yc (sE aM) (zC p)=U (.int w):=by rw[wc,h];rfl
  obtain⟨kv,hk,e1⟩:=bC.mp (zb9 e);have:=KP (kA aM).1 _ hk;rw[e1,e] at this;have e2:kv=(zC p,V.int w):=rK e1 (bJ this).symm;rw[<-e2];exact hk
theorem jx(a:Pl):yn a a=aq:=by
 unfold yn;rw[au rfl];exact Bk ()
theorem V0{a b c:Pl}(h1:yn a b=D)(h2:yn b c=D):yn a c=D:=by
 unfold yn at *
 by_cases e1:a.1=b.1
 ·rw[au e1] at h1;by_cases e2:b.1=c.1
  ·rw[au e2] at h2;rw[au (e1.trans e2)];have h1:=of_decide_eq_true h1;have h2:=of_decide_eq_true h2;exact Bj ()
  ·rw[ap e2] at h2;rw[ap (by rw[e1];exact e2),e1];exact h2
 ·rw[ap e1] at h1;have h1:=of_decide_eq_true h1;by_cases e2:b.1=c.1
  ·rw[ap (by rw[<-e2];exact e1),<-e2];exact Bj h1
  ·rw[ap e2] at h2;have h2:=of_decide_eq_true h2;have h3:=List.lt_trans h1 h2;rw[ap (λz=>by rw[z] at h3;exact List.lt_irrefl _ h3)];exact Bj h3
def sS(l:List aQ):Prop:=l.Pairwise λa b=>yn a.1 b.1=D
def zem(aM out:List aQ):Prop:=sS out/\∀p w,(p,w)∈out↔zF aM p=U w/\w≠0
theorem sS.nd(h:sS l):(l.map (·.1)).Nodup:=by
 unfold iF;rw[gy];exact mL (λ{a b} h z=>by rw[z,jx] at h;cases h) h
theorem XR{p:Pl}:∀ {l:List aQ},(∀r∈l,r.1≠p)->zF l p=ao
 |[],_=>rfl
 |r::t,h=>by
  rw[zF,XR λr hr=>h r (bh _ hr),ap (h r bo)];rfl
theorem Y3{p:Pl}{w:Int}:∀ {l:List aQ},(l.map (·.1)).Nodup->(zF l p=U w↔(p,w)∈l)
 |[],_=>by simp[zF]
 |r::t,hn=>by
  rw[bw,bZ] at hn;have ih:=Y3 (p:=p) (w:=w) hn.2;by_cases e:r.1=p
  ·have z:zF t p=ao:=XR λq hq zz=>hn.1 (by rw[e,<-zz];exact bt hq);rw[zF,z,au e];constructor
   ·intro h;have:r.2=w:=by simpa using h
    rw[<-e,<-this];exact bo
   ·intro h;rcases bD.mp h with h|h
    ·rw[<-h];rfl
    ·exact absurd (bt (f:=(·.1)) h) (by rw[<-e];exact hn.1)
  ·rw[zF,ap e,Option.or_none,ih,bD];constructor
   ·exact .inr
   ·rintro(h|h)
    ·exact absurd (by rw[<-h]) e
    ·exact h
theorem Vg:∀ {a b:List aQ},sS a->sS b->(∀x,x∈a↔x∈b)->a=b
 |[],[],_,_,_=>rfl
 |[],y::_,_,_,h=>absurd ((h y).mpr bo) (by simp)
 |x::_,[],_,_,h=>absurd ((h x).mp bo) (by simp)
 |x::a,y::b,ha,hb,h=>by
  unfold sS at ha hb;rw[pE] at ha hb;have e:x=y:=by
   rcases bD.mp ((h x).mp bo) with e|e
   ·exact e
   ·rcases bD.mp ((h y).mpr bo) with e'|e'
    ·exact e'.symm
    ·have:=V0 (ha.1 y e') (hb.1 x e);rw[jx] at this;cases this
  subst e;have nx:x ∉ a:=λz=>by have:=ha.1 x z;rw[jx] at this;cases this
  have ny:x ∉ b:=λz=>by have:=hb.1 x z;rw[jx] at this;cases this
  rw[Vg ha.2 hb.2 λz=>?_];constructor
  ·intro hz;rcases bD.mp ((h z).mp (bh _ hz)) with e|e
   ·subst e;exact absurd hz nx
   ·exact e
  ·intro hz;rcases bD.mp ((h z).mpr (bh _ hz)) with e|e
   ·subst e;exact absurd hz ny
   ·exact e
theorem xS{α:Type} [DecidableEq α]:∀ {a b:List α},a.Nodup->(∀x∈a,x∈b)->a.length<=b.length
 |[],_,_,_=>bT _
 |x::a,b,hn,h=>by
  rw[bZ] at hn;have hx:=h x bo;have:=xS (a:=a) (b:=b.erase x) hn.2 λy hy=>(oA λz=>hn.1 (by rw[<-z];exact hy)).mpr (h y (bh _ hy));rw[List.length_erase_of_mem hx] at this;have:0<b.length:=List.length_pos_of_mem hx;rw[bU];lia
end L2
namespace L2
open PySem PySem.Spec PyProof.Rows
theorem ZP:plainId "dict.update.loop"=D:=by lia
theorem JX:entryFor table "dict.update.loop"=U Builtin.«dict.update.loop»:=entryFor_of_fast (by kernel_rfl)
section
variable {X:Cx}{A:ay}{R:aD->am->Prop}
def PrAt(H:Hp)(v:V)(q:aQ):Prop:=∃r p,v=.ref r/\H r=U (.tup [.ref p,.int q.2])/\H p=U (.tup [.str q.1.1,.int q.1.2])
theorem zdb{σ:St}{H:Hp}{s:am}{d b:L}{ah:List (List aV×V)}{k:List aV}{v:V}{u:af}{E:af->am->Prop}{Q:Unit->am->Prop}(hu:A.units+1<cLine)(I:aO X aa σ H s)(e:H d=U (.dT ah))(eb:H b=U (.tup (k.map kV)))(l:ah.length<Bb)(rv:aU v u)
  (h:∀h' tk,aO X aa σ (upd H d (.dT (yq ah k v))) { s with heap:=h',toks:=tk }->cF d s.heap h'->Q PUnit.unit { s with heap:=h',toks:=tk }):Bf (Bg X.prog X.w) A.in1 (dictSet d (.ref b) u) Q E s:=by
 obtain⟨z,hd,xs,rel,dd⟩:=QL I.hok e;have hz:xs.length<=Bb:=by rw[<-bL rel];exact z
 have hl:(yq ah k v).length<=Bb:=by have:=xR ah k v;lia
 refine wpAny_dictSet_heap (hsz:=hz) (dF hu) (kQ I.hok eb) dd λh' dd' hs=>h _ _ ?_ hs;obtain⟨q,es,ep,hq,h2,h3,h4,_,h5⟩:=dd';refine ZL I (by rw[e];exact eu) hs ⟨q,hq⟩ ⟨hl,hd,_,(rel.put k eb rv).keeps λc ys ec=>?_,q,es,ep,hq,h2,h3,h4,h5⟩;rw[zk (zJ ec e ())];exact ec
theorem zen{σ:St}{H:Hp}{d it l:L}{xs:List V}{aM:List aQ}{res:af}(hu:A.units+1<cLine)(hh:A.handled=ao)(hd:H d=ao)(hl:H l=U (.lst xs))(hr:Paired (PrAt H) xs aM)(h63:aM.length<=1000)(dit:it≠d)(lit:l≠it) :
  ∀(k i:Nat) (s:am),aM.length-i=k->i<=aM.length->aO X aa σ (upd H d (.dT (sE (aM.take i)))) s->s.heap.IsListIter it l i->(∀u,qL X aa (upd H d u) it) ->
  (∀s',aO X aa σ (upd H d (.dT (sE aM))) s'->R (.ok (.ret res)) s') ->
  codeAny (Bg X.prog X.w) A (.builtin "dict.update.loop" ⟨[.ref d,.ref it,rawInt i,res],[]⟩) R s:=by
 have lx:xs.length=aM.length:=bL hr;have S:∀u:HO,aK H (upd H d u):=λu=>sJ (o:=u) d hd;intro k;induction k with
 |zero =>
  intro i s hk hi I st hf fin;have e:i=aM.length:=by lia
  subst e;refine eO JX ?_;rw[dn ZP _];show Bf _ A.in1 (pyNext (.ref it) >>= _) _ _ s;obtain⟨its,rv,p,hz⟩:=I.list (aT.of (S _ _ _ hl));obtain⟨f0,f1,f2,f3,f4,f5⟩:=hf (.dT (sE (aM.take aM.length)));have hl2:=rv.length;refine ba (nQ hh st p.isList (by simp;lia) λh' eb=>?_);have I1:=I.turned (t':=s.toks) (λb o hb e=>eb b o hb e) f0 f1 f3 f4 f5;rw[dL] at I1;show Bf _ A.in1 (Builtin.Dict.addKeywords d [] >>= _) _ _ _;exact ba (bd (bd (fin _ I1)))
 |succ k ih =>
  intro i s hk hi I st hf fin;have hlt:i<aM.length:=by lia
  refine eO JX ?_;rw[dn ZP _];show Bf _ A.in1 (pyNext (.ref it) >>= _) _ _ s;obtain⟨its,rv,p,hz⟩:=I.list (aT.of (S _ _ _ hl));obtain⟨f0,f1,f2,f3,f4,f5⟩:=hf (.dT (sE (aM.take i)));have hx:xs[i]?=U xs[i]:=bb ();have hq:aM[i]?=U aM[i]:=bb hlt;obtain⟨r,pl,e1,t1,u1⟩:=yR hr hx hq;obtain⟨u,hu',ru⟩:=rv.get hx;rw[e1] at ru;cases ru;refine ba (nE st p.isList (x:=.ref r) (by simpa using hu') λh' st' sb=>?_);have I1:=I.turned (t':=s.toks) (λb o hb e=>(sb.2 b hb).trans e) f0 f1 f3 f4 f5;obtain⟨tis,tv,⟨o,ho,hc,n,hdt⟩,_⟩:=I1.tuple (sB.of (S _ _ _ t1));cases tv with
  |cons r1 rr =>
   cases rr with
   |cons r2 rn =>
    cases rn;cases r1;obtain⟨tk,rfl⟩:=r2;refine ba (du ?_);have T:({ s with heap:=h' }:am).TypeIs (.ref r) "tuple":=⟨o,ho,hc⟩;refine ba (wpAny_tryCatch ?_);unfold Builtin.Dict.pairItems;refine ba (rm T ?_);rw[au ()];refine ba ?_;unfold seqItems?;refine ba (oo ho ?_);rw[hdt];refine bd (bd ?_);show Bf _ _ (holding [.ref pl,.int aM[i].2 tk] (dictSet d (.ref pl) (.int aM[i].2 tk))) _ _ _;refine du ?_;have tk2:sE (aM.take (i+1))=yq (sE (aM.take i)) (zC aM[i].1) (.int aM[i].2):=by rw[cU,hq,<-qS];rfl
    have l2:(sE (aM.take i)).length<Bb:=by
     have h1:=jv (aM.take i);have h2:=List.length_take_le' i aM;exact bV (by lia:_<=1000) ()
    refine zdb (k:=zC aM[i].1) (v:=.int aM[i].2) hu I1 zh (S _ _ _ u1) l2 ⟨tk,Y⟩ λh2 tk3 I2 sb2=>?_;rw[WP,<-tk2] at I2;refine bd ⟨gu ZP _,ih (i+1) _ () hlt I2 (st'.at λo e=>(sb2.2 it dit).trans e) hf fin⟩
end
theorem KQ:typeLookup (.type "list") "keys"=pure ao:=by rw[typeLookup_type,builtinLookup_eq_fast];kernel_rfl
section
variable {prog:av}{w:ax}{A:ay}{E:af->am->Prop}{s:am}{a:L}{o:Obj}{xs:Array af}{k:Nat}
theorem Vh{Q:Option af->am->Prop}(hx:s.heap.get? a=U o)(hc:o.cls=.type "list")(hdat:o.data=.seq xs k)(hd:o.dict=ao)(hA:A.handled=ao)
  (h:∀h' tk,(∀b ob,s.heap.get? b=U ob->h'.get? b=U ob)->Q ao { s with heap:=h',toks:=tk }):Bf (Bg prog w) A (getAttr? (.ref a) "keys") Q E s:=by
 obtain⟨c,dct,dat,sl⟩:=o;simp only at hc hdat hd;subst hc hdat hd;obtain⟨hp,g,d,tk,os⟩:=s;have hT:∀tk',(⟨hp,g,d,tk',os⟩:am).TypeIs (.ref a) "list":=λ_=>⟨_,hx,Y⟩;have f1:=sub_AttributeError;have f3:=F.slot_list_getattribute.lookup;have f4:=F.slot_list_getattribute.bind (.ref a);have f5:=am_list_getattr_none;unfold getAttr? getAttrBy? getAttrBy
 repeat (any_goals (first|assumption|exact hT _|((with_reducible show Bf _ _ (call (Value.builtin "list.__getattribute__") _ _) _ _ _);refine iC F.slot_list_getattribute (hT _) am_entry_list_getattribute (F.args_list_getattribute_2 _ _) (meets_getattribute_miss_list a xs k sl "keys" _ KQ () ()) ⟨hx,hA,λh' tk' e hx'=>?_⟩)|wp_step))
 obtain⟨t',u',he⟩:=hx'.there;have kp:=hx'.keeps;show Bf _ _ (getattributeRaised _ _ _ _ _ _ _) _ _ _;unfold getattributeRaised
 repeat (any_goals (first|assumption|wp_step))
 all_goals exact h _ _ λb ob e=>kp b ob e
end
theorem hu3(r:sy k A):A.units+3<cLine:=by have:=zc2 r;lia
abbrev zeo:RC:=λvs H Q=>∃(a:L) (xs:List V) (aM:List aQ),vs=[.ref a]/\H a=U (.lst xs)/\Paired (PrAt H) xs aM/\aM.length<=1000/\∀p,H p=ao->Q (.ref p) (upd H p (.dT (sE aM)))
section
variable {X:Cx}
theorem qB(hc:X.calm=D)(hu:X.A.units+3<cLine):jZ X (.type "dict") zeo:=by
 intro aa s σ H vs us Q I r h;obtain⟨a,xs,aM,rfl,ha,hr,hl,q⟩:=h;obtain⟨u,rfl,ru⟩:=jt r;cases ru;have hh:X.A.handled=ao:=I.ok.hd hc;refine callType_codes (Q₁:=λobj s₁=>obj=.ref s.heap.objs.size/\s₁={ s with heap:=s.heap.push { cls:=.type "dict",data:=.dict #[] } }) F.kt_called_dict (F.kt_typeCall_dict_1 _) F.entry_dict_init (kt_code_dict_new _ ⟨rfl,rfl⟩) ?_;rintro obj s₁ ⟨rfl,rfl⟩;have T0:({ s with heap:=s.heap.push { cls:=.type "dict",data:=.dict #[] } }:am).TypeIs (.ref s.heap.objs.size) "dict":=⟨_,bE _ rfl,rfl⟩;refine⟨T0,F.args_dict_init_2 _ _,?_⟩;unfold Builtin.«dict.__init__»;refine ba ?_;unfold Builtin.Dict.selfAndRest;refine ba (eV T0 ?_);show Bf _ _ (pure (s.heap.objs.size,[bI a])) _ _ _;refine bd ?_;show Bf _ _ (m6 "dict.__init__" s.heap.objs.size (.ref a) [] .none) _ _ _;unfold m6;have hn:H s.heap.objs.size=ao:=I.hok.fresh (bp _);have S:∀u:HO,aK H (upd H s.heap.objs.size u):=λu=>sJ (o:=u) _ hn;have I1:aO X aa σ (upd H s.heap.objs.size (.dT [])) { s with heap:=s.heap.push { cls:=.type "dict",data:=.dict #[] } } :=
  I.laid (a:=s.heap.objs.size) (o:=.dT []) (t':=s.toks) (λb o z=>bc _ z) (bp _) (QO s.heap I.big)
 obtain⟨its,rv,pl,_⟩:=I1.list (aT.of (S _ _ _ ha));obtain⟨o,n,ho,oc,od,odat⟩:=id pl;have T1:({ s with heap:=s.heap.push { cls:=.type "dict",data:=.dict #[] } }:am).TypeIs (.ref a) "list":=⟨o,ho,oc⟩;refine ba (rm T1 ?_);rw[au ()];refine ba (Vh ho oc odat od (by exact hh) λh2 tk2 k2=>?_);rw[au (show (ao:Option af).isNone=D from rfl)];refine ba (lq ?_);have I2:aO X aa σ (upd H s.heap.objs.size (.dT [])) { s with heap:=h2,toks:=tk2 }:=I1.kept k2;obtain⟨its2,rv2,pl2,_⟩:=I2.list (aT.of (S _ _ _ ha));refine ba (wpAny_pyIter_list pl2.isList ?_);have I3:aO X aa σ (upd H s.heap.objs.size (.dT (sE (aM.take 0)))) { s with heap:=h2.push { cls:=.type "list_iterator",data:=.fields #[.ref a,.int 0 0] },toks:=tk2 }:=I2.kept (t':=tk2) λb o e=>bc _ e;refine bd ⟨gu ZP _,?_⟩;have lt:s.heap.objs.size<h2.objs.size:=bO (k2 s.heap.objs.size _ (bE _ Y));have la:a<h2.objs.size:=by obtain⟨_,_,z,_⟩:=pl2;exact bO z
 refine zen (A:=X.A.in1) (H:=H) (d:=s.heap.objs.size) (it:=h2.objs.size) (l:=a) (xs:=xs) (aM:=aM) (res:=.none) ?_ hh hn ha hr hl (eS lt) (bX la) aM.length 0 _ () (bT _) I3 ⟨_,bE _ Y,Y,Y⟩ (λu=>?_) λs' I'=>⟨Y,.ref s.heap.objs.size,_,I',Y,q _ hn⟩
 ·have e:X.A.in1.units=X.A.units+1:=rfl;lia
 ·refine I2.fpOk (bp _) ?_;rw[zk (eS lt)];have:=I2.hok.fresh (bp h2.objs.size);rw[zk (eS lt)] at this;exact this
end
section
variable {X:Cx}{k:Nat}{f C:L}{fd:Bc}{ps:List Str}{sp:Sp}{m:Str}{pos sk:Pos}{e o:aB}{es:List aB}{ta:TE}{t:TA}
def zbB(C:L)(m:Str)(sp:Sp)(ta:TE)(t:TA)(EX:EXK):TE:=λσ H Q=>ta σ H λx H1=>∃a dx fs,x=.ref a/\H1 a=U (.ins C dx fs)/\fs.lookup m=ao /\
 t σ H1 λvs H2=>sp (x::(vs++[])) H2 Q λcls _ H3=>EX cls σ H3
theorem zag{pl:Sem Bool}(he:PE X.nox o ta)(c:tq X.K C)(hm:Ks X.K C m f)(F:sq X.prog X.w X.K X.mg X.base (tK X.prog X.w) k f fd ps sp)(hr:sy k X.A)(hb:sD X.K fd ps [])(ha:PA X.nox (e::es) t)
  (hst:Be (e::es) X.env=(aq,eval e X.env)::Be es X.env:=by rfl) (hpl:(backTo pos (Be es X.env)).any (·.1)=aq:=by rfl)
  (ht:eval (.Call (.Attribute o m sk) (e::es) [] pos) X.env=(do
   let ov <-eval o X.env
   standAt sk.atName
   let (f,first) <-holding [ov] (getMethod ov m pl)
   callWith pos f first (backTo pos (Be (e::es) X.env)) (backToKw pos (keywordEach [] X.env))):=by rfl) :
  PEX X (.Call (.Attribute o m sk) (e::es) [] pos) (zbB C m sp ta t):=by
 intro aa s σ H Q EX I h;refine lH (pl:=pl) (dC (he aa s σ H _ (I.wish _) h) (?_) λ_ _ z=>cS z) ht;rintro u s1 ⟨x,H1,I1',rx,a,dx,fs,ex,ea,l,q⟩;subst ex;obtain rfl:u=bI a:=rx;have I1:=I1'.unwish;refine kO I1 ea c hm l ?_;refine lX (first:=[.ref a]) (h₀:=X.base) I.ok.mod.kin hm.kp (dC (ha pos aa s1 σ H1 _ (I1.wish _) q) (λus s2 ⟨vs,H2,I2',r,q2⟩=>⟨I2'.kIn,?_⟩) λ_ _ z=>cS z) hst hpl;have I2:=I2'.unwish;have r2:aR (V.ref a::(vs++[])) (bI a::(us++[])):=.cons Y (r.append .nil);have hl:((bI a::us)++[]).length=ps.length:=by
  have e:=r2.length;rw[F.len _ _ _ _ q2] at e;exact e.symm
 refine pL (fU (F.run X.A X.stack s2 H2 ⟨.ref a::us,[]⟩ ((.ref a::us)++[]) (.ref a::(vs++[])) _ _ hr I2.env0 (hb s2 (.ref a::us) I2.kIn hl) r2 q2) λr s' hq=>?_);cases r with
 |error ev =>
  obtain⟨e,cls,H',rfl,os,bare,un,hok,xf,hE⟩:=hq;exact⟨e,cls,σ,s2,H2,H',Y,I2,I2.call' (ch:=[]) os un hok bare (λb z=>nomatch z),xf,hE⟩
 |ok fl =>
  cases fl with
  |ret u=>exact I2.after hq
  |next=>exact cS hq
  |brk=>exact cS hq
  |cont=>exact cS hq
end
def zep(K:bu)(tb:EXK->TS)(C1:L)(th1:TS)(C2:L)(th2:TS):TS:=λBq σ H=>tb (λcls σ1 H1=>∃C,cls=.ref C /\
 ((iM K (.ref C) (.ref C1)=U D/\th1 Bq σ1 H1)\/(iM K (.ref C) (.ref C1)=U aq/\iM K (.ref C) (.ref C2)=U D/\th2 Bq σ1 H1))) Bq σ H
section
variable {X:Cx}{st b₀ b₁:aA}{suite suite1:List aA}{tb:EXK->TS}{th1 th2:TS}{c1 c2:Str}{C1 C2:L}{np hpos np2 hpos2 pos:Pos}
theorem zeq(hst:X.stack=X.env::X.outer/\X.env.frame=U X.env.locals)(hex:X.ex=[])(hb:PSX X st tb)(hg1:Gl X c1)(hm1:X.mg c1=U (.ref C1))(hg2:Gl X c2)(hm2:X.mg c2=U (.ref C2))
  (hs1:∀e,PSs (X.sub e) (b₀::suite) th1) (hs2:∀e,PSs (X.sub e) (b₁::suite1) th2) (hdb1:(c1==("__debug__":Str))=aq:=by lia) (hdb2:(c2==("__debug__":Str))=aq:=by lia) :
  PS X (.Try [st] [.ExceptHandler (U (.Name c1 np)) ao (b₀::suite) hpos,.ExceptHandler (U (.Name c2 np2)) ao (b₁::suite1) hpos2] [] [] pos) (zep X.K tb C1 th1 C2 th2):=by
 intro aa s σ H Bq I h;refine wpAny_Try_except (iY (dC (hb aa s σ H Bq _ I h) (λf s1 q=>?_) λev s1 q=>?_))
 ·cases f with
  |next=>exact eL (eL q)
  |ret v=>exact q
  |brk=>exact q
  |cont=>exact q
 obtain⟨e,cls,σ1,s0,H0,H1,rfl,I0,I1,xf,C,rfl,hth⟩:=q;obtain⟨oe,vs,a0,T,oT,ts,h1,h2,h3,h4,h5,h6,h7,h8,h9,h10,h11,h12⟩:=xf;have fr:s1.heap.FunFrames (gF s1.heap (sX X.stack++[e,T])) (X.env::X.outer):=by
  have q:=i0 (as:=sX X.stack++[e,T]) I1.stack λenv he a ha=>cy _ (fP.mpr ⟨env,he,ha⟩);rw[hst.1] at q ⊢;exact q
 have two:∀b∈[e,T],s0.heap.get? b=ao/\H1 b=ao:=λb z=>by
  have z':b=e\/b=T:=by simpa using z
  rcases z' with rfl|rfl
  ·exact⟨h9,h11⟩
  ·exact⟨h10,h12⟩
 have hcs:∀b∈[e,T],H1 b=ao/\X.s₀.heap.get? b=ao:=λb z=>⟨(two b z).2,kj (I0.there0 hex) (two b z).1⟩;have hcp:∀b∈[e,T],∀p∈X.pn++aa,p.1≠b:=λb z p hp q=>by
  have:=(I0.pin p hp).1;rw[q,(two b z).1] at this;cases this
 refine wpAny_looks_onW (base:=gF s1.heap (sX X.stack++[e,T])) (a0:=a0) (cls:=.ref C) (by rw[I1.ok.frames,hst.1]) hst.2
  ⟨λb o q=>lV _ q,fO _ (bP _ (by simp)),fr,oe,vs,T,oT,ts,h1,h2,h3,h4,fO _ (bP _ (by simp)),h5,h6,h7,h8⟩ λg4 held4 sm4=>?_
 refine wpAny_landsW held4 λg5 fly5 sm5=>?_;have hB:∀ {g:aw},(gF s1.heap (sX X.stack++[e,T])).StaysIn g->∀b o,s1.heap.get? b=U o->b ∉ sX X.stack->b ∉ [e,T]->g.get? b=U o :=
  λ{g} k b o q n1 n2=>k b o (i9 _ q λz=>(bB.mp z).elim n1 n2)
 have I5:aO X aa σ1 H1 { s1 with heap:=g5 }:=I1.land hex hcs hcp (hB fly5.1) (sm4.trans sm5);have K5:=I5.kIn;have ty5:r9 (Bg X.prog X.w) g5 (typeOf (.ref e)) (.ref C):=by
  obtain⟨o,p1,p2⟩:=fly5.there;exact p2 ▸ (pR p1).andThen .now
 have run:∀ {b₂:aA} {su:List aA} {th:TS} {hp:Pos} {R:aD->am->Prop},(∀e,PSs (X.sub e) (b₂::su) th)->th Bq σ1 H1->(∀f s',SP X aa Bq f s'->R (.ok f) s') ->
   codeAny (Bg X.prog X.w) (X.A.mark (U (.ref e))) (.handlers (.ref e) [.ExceptHandler ao ao (b₂::su) hp] X.env) R { s1 with heap:=g5 }:=λ{b₂ su th hp R} hs hth hR=>by
  refine nK (lands_againW fly5 λg6 fly6 sm6=>?_);have I6:aO X aa σ1 H1 { s1 with heap:=g6 }:=I1.land hex hcs hcp (hB fly6.1) ((sm4.trans sm5).trans sm6);refine dC (hs e aa _ σ1 H1 Bq I6.toSub hth) (λf s9 q=>hR f s9 ?_) λ_ _ z=>cS z;cases f with
  |next=>obtain⟨σ9,H9,J,z⟩:=q;exact⟨σ9,H9,aO.ofSub (J:=I) J,z⟩
  |brk=>obtain⟨σ9,H9,J,z⟩:=q;exact⟨σ9,H9,aO.ofSub (J:=I) J,z⟩
  |cont=>obtain⟨σ9,H9,J,z⟩:=q;exact⟨σ9,H9,aO.ofSub (J:=I) J,z⟩
  |ret u=>obtain⟨v,σ9,H9,J,r,z⟩:=q;exact⟨v,σ9,H9,aO.ofSub (J:=I) J,r,z⟩
 refine lM (iT ?_) (by intro q;cases q);refine vG (X:=X.sub e) (I5.toSub (e:=e)) hg1 hm1 ?_ hdb1;rcases hth with ⟨hx,ht⟩|⟨hx,hx2,ht⟩
 ·refine(W.exm_one K5 ty5 hx).here ?_;exact run hs1 ht λf s' q=>q
 ·refine(W.exm_one K5 ty5 hx).here ?_;show Bf _ _ (handleBy (.ref e) X.env _) _ _ _;refine lM (iT ?_) (by intro q;cases q);refine vG (X:=X.sub e) (I5.toSub (e:=e)) hg2 hm2 ?_ hdb2;refine(W.exm_one K5 ty5 hx2).here ?_;exact run hs2 ht λf s' q=>q
end
end L2
namespace L2
open PySem
def rk(ah:List (aV×V))(ps:List V):Except Er Int:=match wK ah ps [] with
 |.ok [i]=>.ok i
 |.ok _=>.error .stuck
 |.error e=>.error e
theorem Good.rk{r:Except Er Int}(h:Good ah ps r):L2.rk ah ps=r:=by
 unfold L2.rk;rw[h.1 []];cases r <;> rfl
theorem zer(hs:xb ah)(hv:kW v){st st':List Int}(h:∀x∈st,sH x=D)(e:wF ah st v=.ok st'):∀x∈st',sH x=D:=by
 unfold wF at e;split at e
 ·split at e
  ·rename_i w b a r hr hj;unfold ko at e;by_cases c1:Va w/\b=0
   ·rw[au c1] at e;cases e
   ·rw[ap c1] at e;by_cases c2:sH (W9 w a b)=D
    ·rw[au c2] at e;cases e;intro x hx;rcases bB.mp hx with hx|hx
     ·refine h x (rG.mp ?_);rw[hr];exact bh _ (bh _ (rG.mp hx))
     ·rw[br.mp hx];exact c2
    ·rw[ap c2] at e;cases e
  ·cases e
 ·cases e;intro x hx;rcases bB.mp hx with hx|hx
  ·exact h x hx
  ·rw[br.mp hx];exact Q5 hs hv
theorem zcl{ah:List (aV×V)}(hs:xb ah):∀ {ps:List V} {st st':List Int},(∀v∈ps,kW v)->(∀x∈st,sH x=D)->wK ah ps st=.ok st'->∀x∈st',sH x=D
 |[],st,st',_,h,e=>by cases e;exact h
 |v::r,st,st',hp,h,e=>by
  unfold wK at e;split at e
  ·rename_i st1 e1;exact zcl hs (λv hv=>hp v (bh _ hv)) (zer hs (hp v bo) h e1) e
  ·cases e
theorem zes(hs:xb ah)(hp:∀v∈ps,kW v){i:Int}(e:rk ah ps=.ok i):sH i=D:=by
 unfold rk at e;split at e
 ·rename_i j hj;cases e;exact zcl hs hp (λ_ z=>absurd z dh) hj i bo
 ·cases e
 ·cases e
def aX(e:List V):Prop:=(∀ah,∃r,Good ah e r)/\(∀v∈e,kW v)/\e.length<=1000
theorem aX.good(h:aX e)(ah:List (aV×V)):Good ah e (rk ah e):=by
 obtain⟨r,g⟩:=h.1 ah;rw[g.rk];exact g
mutual
inductive Rw where
 |take (sh:Str) (e:List V) (sl:Str)
 |give (sh:Str) (e f:List V)
 |lt (sl:Str) (e:List V)
 |say (e:List V)
 |off (e:List V)
 |iff (e:List V) (a b:aZ)
inductive aZ where
 |nil
 |cons (r:Rw) (rs:aZ)
end
set_option genSizeOf false in
set_option genInjectivity false in
structure Sta where
 sl:List (aV×V)
 wo:List aQ
 sa:List Int
inductive Res where
 |go (s:Sta)
 |off
 |er (e:Er)
mutual
def goR:Rw->Sta->Res
 |.take sh e sl,s=>match rk s.sl e with
  |.ok n=>.go { s with sl:=yq s.sl (.inr sl) (.int ((zF s.wo (sh,n)).getD 0)) }
  |.error x=>.er x
 |.give sh e f,s=>match rk s.sl e with
  |.ok n=>(match rk s.sl f with
   |.ok w=>.go { s with wo:=s.wo++[((sh,n),w)] }
   |.error x=>.er x)
  |.error x=>.er x
 |.lt sl e,s=>match rk s.sl e with
  |.ok n=>.go { s with sl:=yq s.sl (.inr sl) (.int n) }
  |.error x=>.er x
 |.say e,s=>match rk s.sl e with
  |.ok n=>.go { s with sa:=s.sa++[n] }
  |.error x=>.er x
 |.off e,s=>match rk s.sl e with
  |.ok n=>if n=0 then .go s else .off
  |.error x=>.er x
 |.iff e a b,s=>match rk s.sl e with
  |.ok n=>if n=0 then zf3 b s else zf3 a s
  |.error x=>.er x
def zf3:aZ->Sta->Res
 |.nil,s=>.go s
 |.cons r rs,s=>match goR r s with
  |.go s'=>zf3 rs s'
  |x=>x
end
mutual
def hV(F:L->Prop)(H:Hp)(v:V):Rw->Prop
 |.take sh e sl=>∃r te,v=.ref r/\F r/\F te/\H r=U (.tup [.str "take",.str sh,.ref te,.str sl])/\H te=U (.tup e)
 |.give sh e f=>∃r te tf,v=.ref r/\F r/\F te/\F tf/\H r=U (.tup [.str "give",.str sh,.ref te,.ref tf])/\H te=U (.tup e)/\H tf=U (.tup f)
 |.lt sl e=>∃r te,v=.ref r/\F r/\F te/\H r=U (.tup [.str "let",.str sl,.ref te])/\H te=U (.tup e)
 |.say e=>∃r te,v=.ref r/\F r/\F te/\H r=U (.tup [.str "say",.ref te])/\H te=U (.tup e)
 |.off e=>∃r te,v=.ref r/\F r/\F te/\H r=U (.tup [.str "off",.ref te])/\H te=U (.tup e)
 |.iff e a b=>∃r te la lb xs ys,v=.ref r/\F r/\F te/\F la/\F lb/\H r=U (.tup [.str "if",.ref te,.ref la,.ref lb])/\H te=U (.tup e)/\H la=U (.lst xs)/\pv F H xs a/\H lb=U (.lst ys)/\pv F H ys b
def pv(F:L->Prop)(H:Hp)(vs:List V):aZ->Prop
 |.nil=>vs=[]
 |.cons r rs=>∃v ws,vs=v::ws/\hV F H v r/\pv F H ws rs
end
mutual
theorem hV.to_{F G:L->Prop}{H H':Hp}(g:∀b o,F b->H b=U o->G b)(s:∀b o,F b->H b=U o->H' b=U o):∀ {v:V} (r:Rw),hV F H v r->hV G H' v r
 |v,.take sh e sl,h=>by
  unfold hV at h ⊢;obtain⟨r,te,e1,f1,f2,e2,e3⟩:=h;exact⟨r,te,e1,g _ _ f1 e2,g _ _ f2 e3,s _ _ f1 e2,s _ _ f2 e3⟩
 |v,.give sh e f,h=>by
  unfold hV at h ⊢;obtain⟨r,te,tf,e1,f1,f2,f3,e2,e3,e4⟩:=h;exact⟨r,te,tf,e1,g _ _ f1 e2,g _ _ f2 e3,g _ _ f3 e4,s _ _ f1 e2,s _ _ f2 e3,s _ _ f3 e4⟩
 |v,.lt sl e,h=>by
  unfold hV at h ⊢;obtain⟨r,te,e1,f1,f2,e2,e3⟩:=h;exact⟨r,te,e1,g _ _ f1 e2,g _ _ f2 e3,s _ _ f1 e2,s _ _ f2 e3⟩
 |v,.say e,h=>by
  unfold hV at h ⊢;obtain⟨r,te,e1,f1,f2,e2,e3⟩:=h;exact⟨r,te,e1,g _ _ f1 e2,g _ _ f2 e3,s _ _ f1 e2,s _ _ f2 e3⟩
 |v,.off e,h=>by
  unfold hV at h ⊢;obtain⟨r,te,e1,f1,f2,e2,e3⟩:=h;exact⟨r,te,e1,g _ _ f1 e2,g _ _ f2 e3,s _ _ f1 e2,s _ _ f2 e3⟩
 |v,.iff e a b,h=>by
  unfold hV at h ⊢;obtain⟨r,te,la,lb,xs,ys,e1,f1,f2,f3,f4,e2,e3,e4,e5,e6,e7⟩:=h;exact⟨r,te,la,lb,xs,ys,e1,g _ _ f1 e2,g _ _ f2 e3,g _ _ f3 e4,g _ _ f4 e6,s _ _ f1 e2,s _ _ f2 e3,s _ _ f3 e4,pv.to_ g s a e5,s _ _ f4 e6,pv.to_ g s b e7⟩
theorem pv.to_{F G:L->Prop}{H H':Hp}(g:∀b o,F b->H b=U o->G b)(s:∀b o,F b->H b=U o->H' b=U o):∀ {vs:List V} (r:aZ),pv F H vs r->pv G H' vs r
 |vs,.nil,h=>by
  unfold pv at h ⊢;exact h
 |vs,.cons r rs,h=>by
  unfold pv at h ⊢;obtain⟨v,ws,e1,e2,e3⟩:=h;exact⟨v,ws,e1,hV.to_ g s r e2,pv.to_ g s rs e3⟩
end
theorem hV.to{F G:L->Prop}{H H':Hp}(r:Rw)(g:∀b o,F b->H b=U o->G b)(s:∀b o,F b->H b=U o->H' b=U o)(h:hV F H v r):hV G H' v r:=hV.to_ g s r h
theorem pv.to{F G:L->Prop}{H H':Hp}(r:aZ)(g:∀b o,F b->H b=U o->G b)(s:∀b o,F b->H b=U o->H' b=U o)(h:pv F H vs r):pv G H' vs r:=pv.to_ g s r h
theorem hV.mono{F:L->Prop}{H H':Hp}(s:aK H H')(h:hV F H v r):hV F H' v r:=h.to r (λ_ _ f _=>f) (λb o _ e=>s b o e)
theorem pv.mono{F:L->Prop}{H H':Hp}(s:aK H H')(h:pv F H vs r):pv F H' vs r:=h.to r (λ_ _ f _=>f) (λb o _ e=>s b o e)
def RlAt(F:L->Prop)(H:Hp)(v:V)(r:aZ):Prop:=∃a xs,v=.ref a/\F a/\H a=U (.lst xs)/\pv F H xs r
theorem RlAt.to{F G:L->Prop}{H H':Hp}(g:∀b o,F b->H b=U o->G b)(s:∀b o,F b->H b=U o->H' b=U o)(h:RlAt F H v r):RlAt G H' v r:=by
 obtain⟨a,xs,e,f,e1,e2⟩:=h;exact⟨a,xs,e,g _ _ f e1,s _ _ f e1,pv.to r g s e2⟩
abbrev V1:L->Prop:=λ_=>True
theorem RlAt.any{F:L->Prop}{H:Hp}(h:RlAt F H v r):RlAt V1 H v r:=h.to (λ_ _ _ _=>trivial) λb o _ e=>e
mutual
def qT:Rw->Prop
 |.take _ e _=>aX e
 |.give _ e f=>aX e/\aX f
 |.lt _ e=>aX e
 |.say e=>aX e
 |.off e=>aX e
 |.iff e a b=>aX e/\Z6 a/\Z6 b
def Z6:aZ->Prop
 |.nil=>True
 |.cons r rs=>qT r/\Z6 rs
end
mutual
def Rw.deep:Rw->Nat
 |.iff _ a b=>max a.deep b.deep+1
 |_=>0
def aZ.deep:aZ->Nat
 |.nil=>0
 |.cons r rs=>max r.deep rs.deep
end
mutual
def Rw.cnt:Rw->Nat
 |.iff _ a b=>max a.cnt b.cnt+1
 |_=>1
def aZ.cnt:aZ->Nat
 |.nil=>0
 |.cons r rs=>r.cnt+rs.cnt
end
abbrev ItA(h:aw)(it d:L)(i n ep:Nat)(o0:af)(f:Bool)(ok ov:af):Prop :=
 h.get? it=U { cls:=.type "dict_itemiterator",dict:=ao,data:=.fields #[o0,.bool f,.ref d,.int i 0,.int n 0,.int ep 0,ok,ov],slots:=#[] }
section
variable {P:av}{w:ax}{A:ay}{E:af->am->Prop}{s:am}
theorem zet{Q:af->am->Prop}(hv:s.heap.IsItemsView v d)(hm:sW s.heap d es ep)
  (q:Q (.ref s.heap.objs.size) { s with heap:=s.heap.push { cls:=.type "dict_itemiterator",data:=.fields #[.none,.bool aq,.ref d,.int 0 0,.int es.size 0,.int ep 0,.none,.none] } }):Bf (Bg P w) A (pyIter (.ref v)) Q E s:=by
 obtain⟨ov,hov,hcv,hdv⟩:=id hv;obtain⟨o,ho,hc,hdat⟩:=id hm;refine wpAny_pyIter_slot hv.typeIs nM (cI nM hv.typeIs F.entry_dict_items_iter ?_ (F.args_dict_items_iter_1 _));unfold Builtin.«dict_items.__iter__»;refine ba (bd ?_);refine ba ?_;unfold Builtin.Dict_items.dictOf;refine ba (dz hov hdv (x:=.ref d) Y (bd ?_));refine ba ?_;unfold Builtin.Dict_items.newIterator;refine ba (dD ho hdat ?_);refine ba (gg ho hdat ?_);have own:dE "dict_itemiterator"=D:=by lia
 simp only[own,if_true];refine cN (bd ⟨_,Y,"dict_itemiterator",_,⟨_,bE _ Y,Y⟩,F.slot_dict_itemiterator_next.lookup,?_⟩) (by simp only[sizeOk,gO,bH,bF,bU,nT,bG];lia);simpa[rawInt,gO] using q
theorem zeu{Q:Option af->am->Prop}(hit:ItA s.heap it d i es.size ep o0 f ok ov)(hm:sW s.heap d es ep)(hx:es[i]?=U e)
  (ho0:(o0=.none/\f=aq)\/∃(a:L) (oa:Obj),o0=rawInt (a:Nat)/\s.heap.get? a=U oa/\a≠it)
  (q:∀h' o1 f1 k1 v1,ItA h' it d (i+1) es.size ep o1 f1 k1 v1->((o1=.none/\f1=aq)\/∃(a:L) (oa:Obj),o1=rawInt (a:Nat)/\h'.get? a=U oa/\a≠it)->h'.get? s.heap.objs.size=U { cls:=.type "tuple",data:=.seq #[e.key,e.val] }->h'.objs.size=s.heap.objs.size+1 ->
   (∀b o,b≠it->s.heap.get? b=U o->h'.get? b=U o)->(∀a:L,o1=rawInt (a:Nat)->a=s.heap.objs.size\/o0=rawInt (a:Nat))->Q (U (.ref s.heap.objs.size)) { s with heap:=h' }):Bf (Bg P w) A (pyNext (.ref it)) Q E s:=by
 obtain⟨hp,g,dr,tk,os⟩:=s;obtain⟨od,hod,hcd,hdd⟩:=id hm;have T:sf ⟨hp,g,dr,tk,os⟩ (.ref it) "dict_itemiterator":=⟨_,hit,Y⟩;unfold pyNext;refine ba (ib (cK (name:=bg "__next__") T eC (cI eC T iU ?_ (iG _))));refine ba (bd ?_);refine ba ?_;refine ba ?_
 first|(refine ba (eo T (bd ?_)))|(refine ba (eZ T (bd ?_)))
 refine ba (mj hit Y ?_);have own:dE "dict_itemiterator"=D:=by lia
 simp only[own,if_true];show Bf _ _ (if (bI d==cE)=D then _ else _) _ _ _;rw[ap (show ¬ ((bI d==cE)=D) from bK)];refine ba (bd ?_);refine ba (dD hod hdd ?_);rw[ap (by simp)];refine ba (bd ?_);refine ba (gg hod hdd ?_);rw[ap (by simp)];refine bd ?_;simp only[show ¬ ((i:Int)<0) from by lia,if_false,dO,hx];refine ba ?_
 first|(refine ba (eo T (bd ?_)))|(refine ba (eZ T (bd ?_)))
 refine ba (ir T ?_);show Bf _ _ (setField (.ref it) 3 (rawInt ((i:Int)+1)) >>= _) _ _ ⟨hp,g,dr,tk,os⟩;refine ba (cP hit (by simp) λh₁ e1 s1=>?_);replace s1:cF it hp h₁:=s1;replace e1:ItA h₁ it d (i+1) es.size ep o0 f ok ov:=by
  have z:((i+1:Nat):Int)=(i:Int)+1:=by lia
  unfold ItA;rw[z];simpa[rawInt] using e1
 have T1:sf ⟨h₁,g,dr,tk,os⟩ (.ref it) "dict_itemiterator":=⟨_,e1,Y⟩;refine ba (du ?_);refine ba (ir T1 ?_);refine ba (ir T1 ?_);show Bf _ _ (ii (.ref it) 6 e.key e.val) _ _ ⟨h₁,g,dr,tk,os⟩;unfold ii;refine ba (oF ?_);have e2:ItA (h₁.push { cls:=.type "tuple",data:=.seq #[e.key,e.val] }) it d (i+1) es.size ep o0 f ok ov:=bc _ e1;generalize hg:h₁.push { cls:=.type "tuple",data:=.seq #[e.key,e.val] }=h₂ at e2;have z1:h₁.objs.size=hp.objs.size:=s1.1;have il:it<hp.objs.size:=bO hit;have t2:h₂.get? hp.objs.size=U { cls:=.type "tuple",data:=.seq #[e.key,e.val] }:=by rw[<-hg,<-z1];exact bE _ rfl
 have z2:h₂.objs.size=hp.objs.size+1:=by rw[<-hg,eI,z1]
 have k2:∀b o,b≠it->hp.get? b=U o->h₂.get? b=U o:=λb o hb z=>by rw[<-hg];exact bc _ (s1.extBut b o hb z)
 show Bf _ _ (gP (.ref it) >>= _) _ _ ⟨h₂,g,dr,tk,os⟩;rw[z1];clear hg e1 s1 T1 z1 h₁;refine ba ?_;unfold gP;rcases ho0 with ⟨rfl,rfl⟩|⟨a,oa,rfl,ha,hai⟩
 ·refine ba (dz e2 Y (x:=.none) Y (bd ?_));simp only[if_true];refine ba (dz e2 Y (x:=ok) Y ?_);refine ba (dz e2 Y (x:=ov) Y ?_);refine ba (cP e2 (by simp) λh₃ e3 s3=>?_);replace s3:cF it h₂ h₃:=s3;replace e3:ItA h₃ it d (i+1) es.size ep .none aq e.key ov:=e3;refine ba (cP e3 (by simp) λh₄ e4 s4=>?_);replace s4:cF it h₃ h₄:=s4;replace e4:ItA h₄ it d (i+1) es.size ep .none aq e.key e.val:=e4;refine ba (cP e4 (by simp) λh₅ e5 s5=>?_);replace s5:cF it h₄ h₅:=s5;replace e5:ItA h₅ it d (i+1) es.size ep (rawInt (hp.objs.size:Nat)) aq e.key e.val:=e5;refine ba (cP e5 (by simp) λh₆ e6 s6=>?_);replace s6:cF it h₅ h₆:=s6;replace e6:ItA h₆ it d (i+1) es.size ep (rawInt (hp.objs.size:Nat)) aq e.key e.val:=e6;have k6:∀b o,b≠it->h₂.get? b=U o->h₆.get? b=U o:=λb o hb z=>s6.extBut b o hb (s5.extBut b o hb (s4.extBut b o hb (s3.extBut b o hb z)));have t6:=k6 _ _ (eS il) t2;refine ba (m4 (bd (bd ⟨_,Y,bd (q h₆ _ _ _ _ e6 (.inr ⟨_,_,Y,t6,eS il⟩) t6 ?_ (λb o hb z=>k6 b o hb (k2 b o hb z)) λa z=>?_)⟩)))
  ·show h₆.objs.size=hp.objs.size+1;rw[s6.1,s5.1,s4.1,s3.1,z2]
  ·refine .inl ?_;have z':(gE (hp.objs.size:Nat) 0:af)=gE (a:Nat) 0:=z;have z'':((hp.objs.size:Nat):Int)=((a:Nat):Int):=by injection z'
   exact(sg z'').symm
 ·refine ba (dz e2 Y (x:=rawInt (a:Nat)) Y ?_);show Bf _ _ (loadIfAlive (((a:Nat):Int).toNat) >>= _) _ _ _;rw[dO];have a2:h₂.get? a=U oa:=k2 a oa hai ha;refine ba (W.kdx_alive a2 ?_);simp only[pF,cL,if_false];refine ba (dz e2 Y (x:=.bool f) Y ?_);cases f with
  |true =>
   rw[ap (show ¬ ((iy D != iy D)=D) from bK)];refine bd ?_;simp only[cL,if_false];exact bd (bd ⟨_,Y,bd (q h₂ _ _ _ _ e2 (.inr ⟨_,_,Y,a2,hai⟩) t2 z2 k2 λa z=>.inr z)⟩)
  |false =>
   rw[au (show (iy aq != iy D)=D from rfl)];refine ba (cP e2 (by simp) λh₃ e3 s3=>?_);replace s3:cF it h₂ h₃:=s3;replace e3:ItA h₃ it d (i+1) es.size ep (rawInt (a:Nat)) D ok ov:=e3;refine bd ?_;simp only[cL,if_false];exact bd (bd ⟨_,Y,bd (q h₃ _ _ _ _ e3 (.inr ⟨_,_,Y,s3.extBut _ _ hai a2,hai⟩) (s3.extBut _ _ (eS il) t2) (by show h₃.objs.size=_;rw[s3.1,z2]) (λb o hb z=>s3.extBut b o hb (k2 b o hb z)) λa z=>.inr z)⟩)
theorem zf4{Q:Option af->am->Prop}(hh:A.handled=ao)(hit:ItA s.heap it d i es.size ep o0 f ok ov)(hm:sW s.heap d es ep)(hx:es.size<=i)
  (q:∀h',rR it s.heap h'->Q ao { s with heap:=h' }):Bf (Bg P w) A (pyNext (.ref it)) Q E s:=by
 obtain⟨od,hod,hcd,hdd⟩:=id hm;have T:s.TypeIs (.ref it) "dict_itemiterator":=⟨_,hit,Y⟩;unfold pyNext;refine ba (ib (cK (name:=bg "__next__") T eC (cI eC T iU ?_ (iG _))));refine ba (bd ?_);refine ba ?_;refine ba ?_
 first|(refine ba (eo T (bd ?_)))|(refine ba (eZ T (bd ?_)))
 refine ba (mj hit Y ?_);have own:dE "dict_itemiterator"=D:=by lia
 simp only[own,if_true];show Bf _ _ (if (bI d==cE)=D then _ else _) _ _ s;rw[ap (show ¬ ((bI d==cE)=D) from bK)];refine ba (bd ?_);refine ba (dD hod hdd ?_);rw[ap (by simp)];refine ba (bd ?_);refine ba (gg hod hdd ?_);rw[ap (by simp)];refine bd ?_;simp only[show ¬ ((i:Int)<0) from by lia,if_false,dO,iq hx];refine ba ?_
 first|(refine ba (eo T (bd ?_)))|(refine ba (eZ T (bd ?_)))
 show Bf _ _ (setField (.ref it) 2 .none >>= _) _ _ s;refine ba (iL hit Y (by simp) ?_);show Bf _ _ (newExc (.type "StopIteration") [] >>= _) _ _ _;refine ba ?_;simp only[newExc,newTuple];refine ba (cN ?_ (by size_fits));refine ba (m:=firstArgMember _ _) (wpAny_of_eq (a:=cE) (by first|rfl|(simp only[firstArgMember];rfl)) ?_);refine cN ?_ (by size_fits);simp only[raiseNew];refine ba (pq ?_);rw[show A.in1.handled=ao from hh];refine ba (bd (wpAny_throw ?_));refine ba (nD (T:="StopIteration") (b:=D) ⟨_,bE _ Y,Y⟩ oG ?_);exact bd (q _ (((cR ..).extBut.push _).push _))
end
end L2
namespace L2
open PySem PySem.Spec PyProof.Rows
def Vi(r d:L):HO:=.ext λh=>h.IsItemsView r d
def zbC(td:TE):TE:=λσ H Q=>td σ H λx H1=>∃d ah,x=.ref d/\H1 d=U (.dT ah)/\∀r,H1 r=ao->Q (.ref r) (upd H1 r (Vi r d))
section
variable {X:Cx}{o:aB}{sk sC:Pos}{td:TE}
theorem zah(ho:PE X o td)(hbase:attributeBase o "items" X.env (eval o X.env)=eval o X.env:=by rfl)(hline:(sk.endLine==sC.line)=D:=by rfl):PE X (.Call (.Attribute o "items" sk) [] [] sC) (zbC td):=by
 intro aa s σ H Q I h;refine mV hbase hline (dl (ho aa s σ H _ I h) ?_);rintro v s1 ⟨x,H1,I1,r1,d,ah,ex,hd,q1⟩;subst ex;obtain rfl:v=bI d:=r1;obtain⟨t1,t2,t3⟩:=XL I1 (.inr ⟨ah,.inl hd⟩);refine⟨"dict","dict.items",dG,m7,PySem.F.type_dict_items,t1,t2,cX Y (oK ?_)⟩;refine cI m7 t1 PySem.F.entry_dict_items ?_ (PySem.F.args_dict_items_1 _);unfold Builtin.«dict.items»;refine ba ?_;unfold Builtin.Dict.noArgs;refine ba (eV t1 ?_);show Bf _ _ (pure d) _ _ s1;refine bd ?_;show Bf _ _ (gc d >>= _) _ _ s1;unfold gc;rw[ap (by rw[t3];exact bK)];refine ba (bd ?_);refine ba (cN (bd ⟨_,Y,?_⟩));have hn:H1 s1.heap.objs.size=ao:=I1.hok.fresh (bp _);have at0:(s1.heap.push { cls:=.type "dict_items",data:=.fields #[.ref d] }).get? s1.heap.objs.size=U { cls:=.type "dict_items",data:=.fields #[.ref d] }:=bE _ rfl;refine⟨.ref s1.heap.objs.size,_,I1.laid (a:=s1.heap.objs.size) (o:=Vi s1.heap.objs.size d) (t':=s1.toks) (λb u e=>bc _ e) (bp _) ?_,Y,q1 _ hn⟩;exact⟨⟨_,at0,Y,Y⟩,⟨_,at0⟩,λh1 h2 ⟨o,e1,e2⟩ k=>⟨o,k o e1,e2⟩⟩
end
def Y4(H:Hp)(v:V)(kv:List aV×V):Prop:=∃r p,v=.ref r/\H r=U (.tup [.ref p,kv.2])/\H p=U (.tup (kv.1.map kV))
theorem zai{H H':Hp}(s:∀b ys,H b=U (.tup ys)->H' b=U (.tup ys)):∀ {vs:List V} {ah:List (List aV×V)},Paired (Y4 H) vs ah->Paired (Y4 H') vs ah
 |_,_,.nil=>.nil
 |_,_,.cons ⟨r,p,e,h1,h2⟩ t=>.cons ⟨r,p,e,s _ _ h1,s _ _ h2⟩ (zai s t)
theorem zaj{H:Hp}{v:V}{q:List aV×V}:∀ {ys:List V} {ah:List (List aV×V)},Paired (Y4 H) ys ah->Y4 H v q->Paired (Y4 H) (ys++[v]) (ah++[q])
 |_,_,.nil,h=>.cons h .nil
 |_,_,.cons a r,h=>.cons a (zaj r h)
section
variable {X:Cx}{A:ay}{R:aD->am->Prop}
theorem zev{σ:St}{H:Hp}{S it d:L}{ah:List (List aV×V)}{es:Array DictEntry}{ep:Nat}{res:af}(hh:A.handled=ao)(hS:H S=ao)(hd:H d=U (.dT ah))(Sit:S≠it)(dit:d≠it)(hz:ah.length<=1000)
  (hes:es.size=ah.length) (hen:∀(i:Nat) (e:DictEntry) (kv:List aV×V),es[i]?=U e->ah[i]?=U kv->∃p,e.key=.ref p/\H p=U (.tup (kv.1.map kV))/\aU kv.2 e.val) (fin:∀s' H' ys,aO X aa σ H' s'->aK H H'->H' S=U (.lst ys)->Paired (Y4 H') ys ah->R (.ok (.ret res)) s') :
  ∀(k i:Nat) (s:am) (Hi:Hp) (ys:List V) (o0 ok ov:af) (f:Bool),ah.length-i=k->i<=ah.length->aO X aa σ Hi s->aK H Hi->Hi S=U (.lst ys)->Paired (Y4 Hi) ys (ah.take i)->sW s.heap d es ep->ItA s.heap it d i es.size ep o0 f ok ov ->
  ((o0=.none/\f=aq)\/∃(a:L) (oa:Obj),o0=rawInt (a:Nat)/\s.heap.get? a=U oa/\a≠it/\a≠S)->qL X aa Hi it ->
  codeAny (Bg X.prog X.w) A (.builtin "list.extend.loop" ⟨[.ref S,.ref it,res],[]⟩) R s:=by
 intro k;induction k with
 |zero =>
  intro i s Hi ys o0 ok ov f hk hi I sm hy pr rd hit ho0 hf;have e:i=ah.length:=by lia
  subst e;refine eO mo ?_;rw[dn dW _];show Bf _ A.in1 (pyNext (.ref it) >>= _) _ _ s;obtain⟨f0,f1,f2,f3,f4,f5⟩:=hf;refine ba (zf4 (A:=A.in1) hh hit rd () λh' eb=>?_);have I1:=I.turned (t':=s.toks) (λb o hb e=>eb b o hb e) f0 f1 f3 f4 f5;rw[dL] at pr;exact bd (fin _ Hi ys I1 sm hy pr)
 |succ k ih =>
  intro i s Hi ys o0 ok ov f hk hi I sm hy pr rd hit ho0 hf;have hlt:i<ah.length:=by lia
  have hx:es[i]?=U es[i]:=cg ();have hkv:ah[i]?=U ah[i]:=bb hlt;obtain⟨p,ek,hp,rv⟩:=hen i _ _ hx hkv;refine eO mo ?_;rw[dn dW _];show Bf _ A.in1 (pyNext (.ref it) >>= _) _ _ s;obtain⟨f0,f1,f2,f3,f4,f5⟩:=id hf;have ho0':(o0=.none/\f=aq)\/∃(a:L) (oa:Obj),o0=rawInt (a:Nat)/\s.heap.get? a=U oa/\a≠it:=by
   rcases ho0 with z|⟨a,oa,z1,z2,z3,_⟩
   ·exact .inl z
   ·exact .inr ⟨a,oa,z1,z2,z3⟩
  refine ba (zeu (A:=A.in1) hit rd hx ho0' λh' o1 f1' k1 v1 hit' ho1 ht hz' kp own=>?_);have Sl:S<s.heap.objs.size:=by
   obtain⟨_,_,_,_,e⟩:=(show aW X.prog X.w Hi s.heap S (.lst ys) from I.hok S _ hy);exact bO e
  have tn:s.heap.objs.size≠it:=eS (bO hit);have hTn:Hi s.heap.objs.size=ao:=I.hok.fresh (bp _);have STn:S≠s.heap.objs.size:=bX Sl;generalize hT:s.heap.objs.size=T at *
  have I6:aO X aa σ (upd Hi T (.tup [.ref p,ah[i].2])) { s with heap:=s.heap.push { cls:=.type "tuple",data:=.seq #[es[i].key,es[i].val] } } :=
   I.laid (a:=T) (o:=.tup [.ref p,ah[i].2]) (t':=s.toks) (λb u e=>bc _ e) (by rw[hT];exact bp _) ⟨by show 2<=Bb;decide,[es[i].key,es[i].val],.cons (by rw[ek];exact rfl) (.cons rv .nil),⟨_,by rw[<-hT];exact bE _ Y,Y,_,Y⟩⟩
  have S6:aK Hi (upd Hi T (.tup [.ref p,ah[i].2])):=sJ T hTn;have I7:aO X aa σ (upd Hi T (.tup [.ref p,ah[i].2])) { s with heap:=h' }:=I6.turned (s:={ s with heap:=s.heap.push { cls:=.type "tuple",data:=.seq #[es[i].key,es[i].val] } }) (t':=s.toks) (λb o hb e=>by
   rcases Heap.get?_push_cases (show (s.heap.push { cls:=.type "tuple",data:=.seq #[es[i].key,es[i].val] }).get? b=U o from e) with ⟨rfl,rfl⟩|e
   ·rw[hT];exact ht
   ·exact kp b o hb e) (by rw[zk (eA tn)];exact f0) f1 f3 f4 f5
  have hy7:(upd Hi T (.tup [.ref p,ah[i].2])) S=U (.lst ys):=S6 _ _ hy;obtain⟨z,its,n,r,hl,e⟩:=I7.lstM hy7;have yl:ys.length=i:=by
   have:=bL pr;rw[cx] at this;lia
  show Bf _ A.in1 (updateSeq S (·.push (bI T)) >>= _) _ _ _;have e':h'.get? S=U { cls:=.type "list",data:=.seq its.toArray n }:=e;refine ba (lN (s:={ s with heap:=h' }) e' rfl ?_ (by rw[bH,<-r.length,yl];exact bN (by lia:i<=1000) ()) (by rw[Array.size_push,bH,<-r.length,yl];exact bN (by lia:i+1<=1001) ()));have I8:=I7.lset (f:=λxs=>xs.push (bI T)) (t':=s.toks) (its':=its++[bI T]) hy7 e' (by simp) (r.append (.cons (show aU (.ref T) (.ref T) from rfl) .nil)) (by rw[bF,yl];exact bN (by show i+1<=1001;lia) ());have up:∀b o,b≠S->h'.get? b=U o->(h'.update S (cZ (·.push (bI T)))).get? b=U o:=λb o hb z=>(dM _ _ (eA hb)).trans z;have dS:d≠S:=zy hd hS;have tS:∀b zs,Hi b=U (.tup zs)->(upd (upd Hi T (.tup [.ref p,ah[i].2])) S (.lst (ys++[.ref T]))) b=U (.tup zs):=λb zs z=>by
   rw[zk (zJ z hy (by intro z;cases z))];exact S6 _ _ z
  have ri:∀ {a b:Nat},(rawInt (a:Int):af)=rawInt (b:Int)->a=b:=λ{a b} z=>by
   have z':(gE (a:Int) 0:af)=gE (b:Int) 0:=z;have z'':(a:Int)=(b:Int):=by injection z'
   exact sg z''
  refine bd ⟨gu dW _,ih (i+1) _ _ (ys++[.ref T]) o1 k1 v1 f1' (by rw[Nat.sub_add_eq,hk];rfl) hlt I8 (λb o z=>?_) zh ?_ (rd.at λo z=>up d o dS (kp d o dit z)) (up it _ (eA Sit) hit') ?_ ⟨?_,f1,f2,f3,f4,f5⟩⟩
  ·rw[zk (zy z hS)];exact S6 _ _ (sm _ _ z)
  ·rw[cU,hkv];exact zaj (zai tS pr) ⟨T,p,Y,by rw[zk (eA STn),zh],tS _ _ (sm _ _ hp)⟩
  ·rcases ho1 with z|⟨a,oa,z1,z2,z3⟩
   ·exact .inl z
   ·have aS:a≠S:=by
     rcases own a z1 with z|z
     ·rw[z];exact eA STn
     ·rcases ho0 with ⟨y1,_⟩|⟨a',oa',y1,_,_,y4⟩
      ·rw[y1] at z;cases z
      ·rw[y1] at z;rw[<-ri z];exact y4
    exact .inr ⟨a,oa,z1,up a _ aS z2,z3,aS⟩
  ·rw[zk (eA Sit),zk (eA tn)];exact f0
end
abbrev zgU:RC:=λvs H Q=>∃r d ah,vs=[.ref r]/\H r=U (Vi r d)/\H d=U (.dT ah)/\ah.length<=1000/\∀l ys H',aK H H'->H l=ao->H' l=U (.lst ys)->Paired (Y4 H') ys ah->Q (.ref l) H'
theorem zf5{H:Hp}(k:tF P w H h)(e:H r=U (Vi r d)):h.IsItemsView r d:=(k r _ e).1
theorem zf6{H:Hp}:∀ {ah:List (List aV×V)} {xs:List (List aV×L×af)},Paired (λ(p:List aV×V) (q:List aV×L×af)=>p.1=q.1/\H q.2.1=U (.tup (p.1.map kV))/\aU p.2 q.2.2) ah xs->∀ {i:Nat} {kv:List aV×V} {x:List aV×L×af},ah[i]?=U kv->xs[i]?=U x->H x.2.1=U (.tup (kv.1.map kV))/\aU kv.2 x.2.2 :=
 λ{_ _} h {_ _ _} e1 e2=>(yR h e1 e2).2
section
variable {X:Cx}
theorem zew{σ:St}{H:Hp}{s:am}{d:L}{ah:List (List aV×V)}(I:aO X aa σ H s)(e:H d=U (.dT ah)):∃es ep,sW s.heap d es ep/\es.size=ah.length /\
  ∀(i:Nat) (en:DictEntry) (kv:List aV×V),es[i]?=U en->ah[i]?=U kv->∃p,en.key=.ref p/\H p=U (.tup (kv.1.map kV))/\aU kv.2 en.val:=by
 obtain⟨z,hd,xs,rel,o,es,ep,h1,h2,h3,h4,_⟩:=(show aW X.prog X.w H s.heap d (.dT ah) from I.hok d _ e);have l1:es.size=xs.length:=by rw[<-cu,h4,bf]
 refine⟨es,ep,⟨o,h1,h2,h3⟩,by rw[l1,<-bL rel],λi en kv e1 e2=>?_⟩;have e3:es.toList[i]?=U en:=by rw[c8];exact e1
 rw[h4,bx] at e3;obtain⟨x,hx,rfl⟩:=bY.mp e3;obtain⟨g1,g2⟩:=zf6 rel e2 hx;exact⟨x.2.1,Y,g1,g2⟩
theorem JY{A:ay}{R:aD->am->Prop}{aa:List (L×Obj)}{σ:St}{H:Hp}{s:am}{S r d:L}{ah:List (List aV×V)}{res:af}{c:Nat}(hh:A.handled=ao)(hS:H S=ao)(hr:H r=U (Vi r d))(hd:H d=U (.dT ah))(hl:ah.length<=1000)
  (I2:aO X aa σ (upd H S (.lst [])) s) (T2:s.heap.get? S=U { cls:=.type "list",data:=.seq #[] c }) (hR:∀s' H' ys,aO X aa σ H' s'->aK H H'->H' S=U (.lst ys)->Paired (Y4 H') ys ah->R (.ok (.ret res)) s') :
  Bf (Bg X.prog X.w) A.in1 (c9 (.ref S) (.ref r) res) (λfin s'=>match fin with|.done f=>R (.ok f) s'|.again c'=>c'.quiet=D/\codeAny (Bg X.prog X.w) A c' R s') (λe s'=>R (.error e) s') s:=by
 have Sr:r≠S:=zy hr hS;have Sd:d≠S:=zy hd hS;have SS:aK H (upd H S (.lst [])):=sJ S hS;obtain⟨es,ep,rd,hes,hen0⟩:=zew I2 (SS _ _ hd);have hen:∀(i:Nat) (en:DictEntry) (kv:List aV×V),es[i]?=U en->ah[i]?=U kv->∃p,en.key=.ref p/\H p=U (.tup (kv.1.map kV))/\aU kv.2 en.val:=λi en kv e1 e2=>by
  obtain⟨p,g1,g2,g3⟩:=hen0 i en kv e1 e2;refine⟨p,g1,?_,g3⟩;by_cases hp:p=S
  ·rw[hp,zh] at g2;cases g2
  ·rwa [zk hp] at g2
 have vw:=zf5 I2.hok (SS _ _ hr);unfold c9;refine ba (rm (T:="dict_items") vw.typeIs ?_);have c1:mM (.ref S) (.ref r)=aq:=by simp[mM,eA Sr]
 have c2:(mC "dict_items" == mC "list")=aq:=by lia
 have c3:(mC "dict_items" == mC "tuple")=aq:=by lia
 simp only[c1,c2,c3,Bool.or_false,cL,if_false];refine ba (zet vw rd ?_);have ni:(upd H S (.lst [])) s.heap.objs.size=ao:=I2.hok.fresh (bp _);have fp:qL X aa (upd H S (.lst [])) s.heap.objs.size:=I2.fpOk (bp _) ni;have Si:S≠s.heap.objs.size:=bX (bO T2);have di:d≠s.heap.objs.size:=bX rd.lt;have I3:aO X aa σ (upd H S (.lst [])) { s with heap:=s.heap.push { cls:=.type "dict_itemiterator",data:=.fields #[.none,.bool aq,.ref d,.int 0 0,.int es.size 0,.int ep 0,.none,.none] } }:=I2.kept (t':=s.toks) λb o e=>bc _ e;have T3:=bc { cls:=.type "dict_itemiterator",data:=.fields #[.none,.bool aq,.ref d,.int 0 0,.int es.size 0,.int ep 0,.none,.none] } T2;have it3:ItA (s.heap.push { cls:=.type "dict_itemiterator",data:=.fields #[.none,.bool aq,.ref d,.int 0 0,.int es.size 0,.int ep 0,.none,.none] }) s.heap.objs.size d 0 es.size ep .none aq .none .none:=bE _ rfl;have rd3:sW (s.heap.push { cls:=.type "dict_itemiterator",data:=.fields #[.none,.bool aq,.ref d,.int 0 0,.int es.size 0,.int ep 0,.none,.none] }) d es ep:=rd.at λo e=>bc _ e;have vw3:(s.heap.push { cls:=.type "dict_itemiterator",data:=.fields #[.none,.bool aq,.ref d,.int 0 0,.int es.size 0,.int ep 0,.none,.none] }).IsItemsView r d:=let ⟨o,ho,x⟩:=vw;⟨o,bc _ ho,x⟩
 generalize hh3:s.heap.push { cls:=.type "dict_itemiterator",data:=.fields #[.none,.bool aq,.ref d,.int 0 0,.int es.size 0,.int ep 0,.none,.none] }=h3 at *
 generalize s.heap.objs.size=it at *
 refine ba (du (W.kdx_hint vw3.typeIs ?_));have fin:∀(h4:aw) (tk:Nat) (R:aD->am->Prop),(∀s' H' ys,aO X aa σ H' s'->aK H H'->H' S=U (.lst ys)->Paired (Y4 H') ys ah->R (.ok (.ret res)) s')->aO X aa σ (upd H S (.lst [])) { s with heap:=h4,toks:=tk }->sW h4 d es ep->ItA h4 it d 0 es.size ep .none aq .none .none ->
   codeAny (Bg X.prog X.w) A (.builtin "list.extend.loop" ⟨[.ref S,.ref it,res],[]⟩) R { s with heap:=h4,toks:=tk }:=λh4 tk R hR I4 rd4 it4 =>
  zev (A:=A) (H:=H) (es:=es) (ep:=ep) hh hS hd Si di hl hes hen hR ah.length 0 _ (upd H S (.lst [])) [] .none .none .none aq (p8 _) (bT _) I4 SS zh .nil rd4 it4 (.inl ⟨Y,Y⟩) fp
 refine wpAny_ite_split (λ_=>?_) (λ_=>bd ⟨gu dW _,fin h3 s.toks _ hR I3 rd3 it3⟩);refine ba (lq ?_);refine ba ?_;show Bf _ _ (updateSeq S (·.push .none) >>= λ_=>updateSeq S (·.pop)) _ _ _;refine ba (lN T3 Y ?_);have T4:=ef (cZ (·.push cE)) T3 rfl;refine lN (hz:=by seq_fits) T4 Y ?_;have I4:=I3.lset (f:=λxs=>xs.push cE) (its:=[]) (its':=[cE]) (ys:=[V.non]) (t':=s.toks) zh T3 Y (.cons Y .nil) (by show 1<=Bb;decide);have I5:=I4.lset (f:=λxs=>xs.pop) (its:=[cE]) (its':=[]) (ys:=[]) (t':=s.toks) zh T4 Y .nil (bT _);rw[WP,WP] at I5;have oth:∀b o,b≠S->h3.get? b=U o->((h3.update S (cZ (·.push cE))).update S (cZ (·.pop))).get? b=U o:=λb o hb e=>(dM _ _ (eA hb)).trans ((dM _ _ (eA hb)).trans e);exact bd ⟨gu dW _,fin _ s.toks _ hR I5 (rd3.at λo e=>oth d o Sd e) (oth it _ (eA Si) it3)⟩
theorem Wz(hc:X.calm=D):jZ X (.type "list") zgU:=by
 intro aa s σ H vs us Q I r0 h;obtain⟨r,d,ah,rfl,hr,hd,hl,q⟩:=h;obtain⟨u,rfl,ru⟩:=jt r0;cases ru;have hh:X.A.handled=ao:=I.ok.hd hc;refine callType_codes (Q₁:=λobj s₁=>obj=.ref s.heap.objs.size/\s₁={ s with heap:=s.heap.push { cls:=.type "list",data:=.seq #[] } }) PySem.F.called_list (PySem.F.typeCall_list_1 _) PySem.F.entry_list_init (code_list_new _ ⟨rfl,rfl⟩) ?_;rintro obj s₁ ⟨rfl,rfl⟩;have hS:H s.heap.objs.size=ao:=I.hok.fresh (bp _);have I1:aO X aa σ (upd H s.heap.objs.size (.lst [])) { s with heap:=s.heap.push { cls:=.type "list",data:=.seq #[] } }:=I.lnew (its:=[]) (t':=s.toks) .nil (bT _);have T0:(s.heap.push { cls:=.type "list",data:=.seq #[] }).get? s.heap.objs.size=U { cls:=.type "list",data:=.seq #[] }:=bE _ rfl;generalize hT:s.heap.objs.size=S at *
 refine⟨⟨_,T0,Y⟩,PySem.F.args_list_init_2 _ _,?_⟩;show Bf _ _ (do let old <-iu (.ref S);Builtin.List.listUpdate (.ref S) (λ_=>#[]);letGo old.toList.reverse;c9 (.ref S) (.ref r) .none) _ _ _;refine ba ?_;unfold iu;refine ba (eY T0 Y (bd ?_));show Bf _ _ (updateSeq S (λ_=>#[]) >>= λ_=>letGo (#[]:Array af).toList.reverse >>= λ_=>c9 (.ref S) (.ref r) .none) _ _ _;refine ba (lN T0 Y ?_);have I2:=I1.lset (f:=λ_=>(#[]:Array af)) (its:=[]) (its':=[]) (ys:=[]) (t':=s.toks) zh T0 Y .nil (bT _);rw[WP] at I2;have T2:=ef (cZ (λ_=>(#[]:Array af))) T0 rfl;refine ba (m4 ?_);generalize hh2:(s.heap.push { cls:=.type "list",data:=.seq #[] }).update S (cZ (λ_=>(#[]:Array af)))=h2 at *
 exact JY (A:=X.A.in1) (H:=H) hh hS hr hd hl I2 T2 λs' H' ys I' sm hy pr=>⟨Y,.ref S,H',I',Y,q S ys H' sm hS hy pr⟩
end
end L2
namespace L2
open PySem PySem.Spec PyProof.Rows PySem.W
section
variable {X:Cx}
theorem zbD{E:af->am->Prop}{R:List af->am->Prop}{aa:List (L×Obj)}{σ:St}{H:Hp}{s:am}{r d:L}{ah:List (List aV×V)}(hh:A.handled=ao)(hr:H r=U (Vi r d))(hd:H d=U (.dT ah))(hl:ah.length<=1000)(I:aO X aa σ H s)
  (h:∀s1 H' ys us,aO X aa σ H' s1->aK H H'->Paired (Y4 H') ys ah->aR ys us->R us s1):Bf (Bg X.prog X.w) A (collect (.ref r)) R E s:=by
 have hS:H s.heap.objs.size=ao:=I.hok.fresh (bp _);have I1:aO X aa σ (upd H s.heap.objs.size (.lst [])) { s with heap:=s.heap.push { cls:=.type "list",data:=.seq ([]:List af).toArray } }:=I.lnew (its:=[]) (t':=s.toks) .nil (bT _);have T1:(s.heap.push { cls:=.type "list",data:=.seq ([]:List af).toArray }).get? s.heap.objs.size=U { cls:=.type "list",data:=.seq #[] }:=bE _ rfl;unfold collect;refine ba (wpAny_runValue (eO oz ?_));rw[dn lL _];show Bf _ A.in1 (newList [] >>= λl=>again (.builtin "list.__iadd__" ⟨[l,.ref r],[]⟩)) _ _ s;refine ba (cN ?_);refine bd ⟨gu fG _,eO entry_list_iadd' ?_⟩;rw[dn fG _];generalize s.heap.objs.size=S at *
 show Bf _ A.in1 (c9 (.ref S) (.ref r) (.ref S)) _ _ _;have key:=JY (A:=A) (R:=λ(q:aD) (s':am)=>∃H' ys,q=.ok (.ret (.ref S))/\aO X aa σ H' s'/\aK H H'/\H' S=U (.lst ys)/\Paired (Y4 H') ys ah) (res:=.ref S) hh hS hr hd hl I1 T1 λs' H' ys I' sm hy pr=>⟨H',ys,Y,I',sm,hy,pr⟩;have fin:∀s':am,(∃H' ys,aO X aa σ H' s'/\aK H H'/\H' S=U (.lst ys)/\Paired (Y4 H') ys ah)->Bf (Bg X.prog X.w) A (load S >>= λo=>match o.data with|.seq xs _=>pure xs.toList|_=>unsupported "internal:collect") R E s':=λs' ⟨H',ys,I',sm,hy,pr⟩=>by
  obtain⟨z,its,n,rv,hl',e⟩:=I'.lstM hy;refine ba (oo e ?_);refine bd ?_;exact h s' H' ys its I' sm pr rv
 refine dC key (λf s' x=>?_) λe s' x=>?_
 ·cases f with
  |done f =>
   obtain⟨H',ys,e,x⟩:=x;cases e;exact fin s' ⟨H',ys,x⟩
  |again c₁ =>
   refine⟨x.1,fU x.2 λq s₂ y=>?_⟩;obtain⟨H',ys,rfl,y⟩:=y;exact fin s₂ ⟨H',ys,y⟩
 ·obtain⟨_,_,e',_⟩:=x;cases e'
end
section
variable {P:av}{w:ax}{A:ay}{E:af->am->Prop}{s:am}
theorem zex{a b:Str×Int}{Q:Bool->am->Prop}(hu:A.units<cLine)(hx:tN s.heap (.ref x) a)(hy:tN s.heap (.ref y) b)(h:Q (yn a b) s):Bf (Bg P w) A (oneLt' aq (.ref x) (.ref y)) Q E s:=by
 obtain⟨p,o,t,u,n,e1,ho,hc,hd⟩:=hx;obtain⟨p2,o2,t2,u2,n2,e2,ho2,hc2,hd2⟩:=hy;cases e1;cases e2;obtain⟨c,dd,dat,sl⟩:=o;obtain⟨c2,dd2,dat2,sl2⟩:=o2;simp only at hc hd hc2 hd2;subst hc hd hc2 hd2;have T1:s.TypeIs (.ref x) "tuple":=⟨_,ho,Y⟩;have T2:s.TypeIs (.ref y) "tuple":=⟨_,ho2,Y⟩;refine kat_one _ _ ?_;show Bf _ _ (richCompare .Lt (.ref x) (.ref y)) _ _ _;refine wpAny_richCompare_same_room T1 T2 n9 ?_ hu;exact iC n9 T1 PySem.F.entry_tuple_lt (PySem.F.args_tuple_lt_2 _ _) (Ve x y a.1 b.1 a.2 b.2 t u t2 u2 n n2 dd dd2 sl sl2) ⟨ho,ho2,by simp,h⟩
theorem zey{a:Str×Int}(hx:tN h (.ref x) a):IsTupleKey (yB P w) h (zC a) x:=by
 obtain⟨p,o,t,u,n,e1,ho,hc,hd⟩:=hx;cases e1;exact⟨o,_,n,ho,hc,hd,XJ (ks:=zC a) (.cons ⟨t,Y⟩ (.cons ⟨u,Y⟩ .nil))⟩
def RvAt(h:aw)(v:af)(q:aQ):Prop:=∃a o p t n,v=.ref a/\h.get? a=U o/\o.cls=.type "tuple"/\o.data=.seq #[.ref p,.int q.2 t] n/\tN h (.ref p) q.1
theorem RvAt.keep(x:RvAt h v q)(k:∀b o,h.get? b=U o->h'.get? b=U o):RvAt h' v q:=by
 obtain⟨a,o,p,t,n,e,ho,hc,hd,hp⟩:=x;exact⟨a,o,p,t,n,e,k _ _ ho,hc,hd,hp.keep k⟩
theorem zf7{Q:Bool->am->Prop}(hu:A.units<cLine)(hx:RvAt s.heap x a)(hy:RvAt s.heap y b)(h:Q (yn a.1 b.1) s)(hn:a.1≠b.1):Bf (Bg P w) A (keyLt' (tuples' aq) x y) Q E s:=by
 obtain⟨p,o,pp,t,n,rfl,ho,hc,hd,hp⟩:=hx;obtain⟨p2,o2,pp2,t2,n2,rfl,ho2,hc2,hd2,hp2⟩:=hy;refine kat_lt ho hd ho2 hd2 (kat_cons (wpAny_eqBool_tuple (knd:=yB P w) hu (zey hp) (zey hp2) (kat_go (λe=>?_) λe=>kat_no ?_)))
 ·exact absurd (xh (of_decide_eq_true e)) hn
 ·exact zex hu hp hp2 h
theorem zez{vs:List af}{qs:List aQ}{Q:SortKind->am->Prop}(hl:vs.length=qs.length)(hv:∀(i:Nat) (v:af) (q:aQ),vs[i]?=U v->qs[i]?=U q->RvAt s.heap v q)(h2:0<vs.length)(h:Q (tuples' aq) s) :
  Bf (Bg P w) A (keyKind' vs.toArray) Q E s:=by
 have T:∀(vs:List af) (qs:List aQ),vs.length=qs.length->(∀(i:Nat) (v:af) (q:aQ),vs[i]?=U v->qs[i]?=U q->RvAt s.heap v q)->∃fs,KatTups s.heap vs fs/\fs.length=vs.length/\∀v∈fs,∃p o,v=bI p/\s.heap.get? p=U o/\o.cls=.type "tuple":=by
  intro vs;induction vs with
  |nil=>exact λqs _ _=>⟨[],trivial,Y,λ_ z=>nomatch z⟩
  |cons v r ih =>
   intro qs hl hv
   match qs,hl with
   |q::qr,hl =>
    obtain⟨fs,k,kl,kf⟩:=ih qr (by simpa using hl) λi v' q' e1 e2=>hv (i+1) v' q' (by simpa using e1) (by simpa using e2);obtain⟨a,o,p,t,n,rfl,ho,hc,hd,hp⟩:=hv 0 v q Y rfl;refine⟨.ref p::fs,si ho hc hd Y k,by simp[kl],λz hz=>?_⟩;rcases bD.mp hz with rfl|hz
    ·obtain⟨p',o',_,_,_,e,g1,g2,_⟩:=hp;cases e;exact⟨_,o',Y,g1,g2⟩
    ·exact kf z hz
 obtain⟨fs,k,kl,kf⟩:=T vs qs hl hv;refine kat_kind (T:=.type "tuple") k () (λv hv=>?_) () h;obtain⟨p,o,rfl,g1,g2⟩:=kf v hv;exact g2 ▸ (pR g1).andThen .now
theorem KR{l:L}{κ:SortKind}{Q:af->am->Prop}(G:List af->(Nat->Nat->Bool)->am->Prop)
  (coll:∀R:List af->am->Prop,(∀vs lt s1,G vs lt s1->R vs s1)->Bf (Bg P w) A.in1 (collect (.ref l)) R E s)
  (h64:∀vs lt s1,G vs lt s1->vs.length<64/\SO lt vs.length)
  (hk:∀vs lt s1,G vs lt s1->2<=vs.length->∀(h:aw) (Q:SortKind->am->Prop),(∀b o,s1.heap.get? b=U o->h.get? b=U o)->Q κ { s1 with heap:=h }->Bf (Bg P w) A.in1.in1 (keyKind' vs.toArray) Q (λ_ _=>False) { s1 with heap:=h })
  (hc:∀vs lt s1,G vs lt s1->∀(h:aw) i j C,(∀b o,s1.heap.get? b=U o->h.get? b=U o)->i<vs.length->j<vs.length->i≠j->C (lt i j) { s1 with heap:=h }->kas_ask P w A.in1.in1 κ vs i j C { s1 with heap:=h })
  (fin:∀vs lt s1,G vs lt s1->∀(h':aw) (p:Array Nat) (c:Nat),(∀b o,s1.heap.get? b=U o->h'.get? b=U o)->h'.get? s1.heap.objs.size=U (seqObj "list" (vY vs p).toArray c)->PP vs.length p->ZV lt p vs.length->Q (.ref s1.heap.objs.size) { s1 with heap:=h' }) :
  Bf (Bg P w) A (call (.builtin "sorted") [.ref l]) Q E s:=by
 refine mh kind_sorted rc rf (rj _) ?_;unfold Builtin.«sorted»;refine ba (m:=checkCount "sorted" 1 1 _) (bd ?_);refine ba (coll _ λvs lt s1 g=>?_);obtain⟨l64,S⟩:=h64 vs lt s1 g;refine ba (m5 ?_ (by rw[bG];lia));have hoL:(s1.heap.push (seqObj "list" vs.toArray 0)).get? s1.heap.objs.size=U (seqObj "list" vs.toArray 0):=bE _ rfl;have kept:∀h',Kp s1.heap.objs.size (s1.heap.push (seqObj "list" vs.toArray 0)) h'->∀b o,s1.heap.get? b=U o->h'.get? b=U o:=λh' k b o e=>k b o (bX (bO e)) (bc _ e);refine ba (du (cI oH ⟨_,hoL,Y⟩ nZ (Vc (s:={ s1 with heap:=s1.heap.push (seqObj "list" vs.toArray 0) }) hoL l64 (κ:=κ) (lt:=lt) (λh2 h' Q' k q=>?_) (λh' i j C k hi hj hij q=>?_) S λh' p c k ho hp hr=>?_) (oI _)))
 ·exact hk vs lt s1 g h2 h' Q' (kept h' k) q
 ·exact hc vs lt s1 g h' i j C (kept h' k) hi hj hij q
 ·exact⟨_,Y,bd ⟨_,Y,fin vs lt s1 g h' p c (kept h' k) ho hp hr⟩⟩
end
def d0:aQ:=(("",0),0)
theorem zhs(aM:List aQ):∃its:List aQ,sE aM=its.map (λq=>(zC q.1,V.int q.2))/\(its.map (·.1)).Nodup/\∀p w,(p,w)∈its↔zF aM p=U w:=by
 have h:=kA aM;have:∀(ah:List (List aV×V)),(∀kv∈ah,∃(p:Pl) (w:Int),kv=(zC p,.int w))->∃its:List aQ,ah=its.map (λq=>(zC q.1,V.int q.2)):=λah=>by
  induction ah with
  |nil=>exact λ_=>⟨[],Y⟩
  |cons kv r ih =>
   intro hk;obtain⟨qs,e⟩:=ih λz hz=>hk z (bh _ hz);obtain⟨p,w,e2⟩:=hk kv bo;exact⟨(p,w)::qs,by rw[bw,<-e,e2]⟩
 obtain⟨its,e⟩:=this _ h.2;refine⟨its,e,?_,λp w=>?_⟩
 ·have:=h.1;rw[e,da] at this;refine xF (f:=zC) ?_;rw[da];exact this
 ·have m:=mem_dOf (aM:=aM) (kv:=(zC p,V.int w));constructor
  ·intro hm;obtain⟨p',w',e1,e2⟩:=m.mp (by rw[e];exact bC.mpr ⟨_,hm,Y⟩);have e3:=xh (oQ e1).1;have e4:=V.int.inj (oQ e1).2;rw[e3,e4];exact e2
  ·intro hw;have hm:=m.mpr ⟨p,w,Y,hw⟩;rw[e] at hm;obtain⟨q,hq,e1⟩:=bC.mp hm;have e3:=xh (oQ e1).1;have e4:=V.int.inj (oQ e1).2;rw[<-e3,<-e4];exact hq
theorem zbE{α:Type}(l:List α)(d:α):(dt l.length).map (λi=>l.getD i d)=l:=by
 apply fo;intro i;rw[bx];by_cases hi:i<l.length
 ·rw[lK hi,bb hi];simp[bM,bb hi]
 ·rw[cz (by simpa using hi),cz ()];rfl
theorem PP.list(h:PP n p):p.toList.Perm (dt n):=by
 have:=gB.mp h;simpa using this
theorem PP.lt(h:PP n p):∀i∈p.toList,i<n:=λi hi=>by
 have:=h.list.mem_iff.mp hi;simpa using this
theorem zbF{α:Type}{F:α->α->Bool}{l:List α}{d:α}{n:Nat}(hp:PP n p)(hr:ZV (λi j=>F (l.getD i d) (l.getD j d)) p n):(p.toList.map λi=>l.getD i d).Pairwise λa b=>F a b=D:=by
 rw[gy,dU];intro i j hi hj hij;rw[cu] at hi hj;have g1:=ku hi;have g2:=ku hj;have sz:=hp.size;have r:=hr i j hij ();have x1:p.toList[i]=gt p i:=by
  rw[cg hi] at g1;simpa using g1
 have x2:p.toList[j]=gt p j:=by
  rw[cg hj] at g2;simpa using g2
 rw[x1,x2];exact r
theorem qU{α β:Type}{F:α->β->Prop}{l₁:List α}{l₂:List β}(h:Paired F l₁ l₂)(a:α)(b:β):∀ {is:List Nat},(∀i∈is,i<l₁.length)->Paired F (is.map λi=>l₁.getD i a) (is.map λi=>l₂.getD i b)
 |[],_=>.nil
 |i::r,hi=>by
  have l:=bL h;have h1:=hi i bo;refine .cons ?_ (qU h a b λj hj=>hi j (bh _ hj));show F (l₁.getD i a) (l₂.getD i b);have e1:=bb h1;have e2:l₂[i]?=U l₂[i]:=bb ();rw[bM,bM,e1,e2];exact yR h e1 e2
abbrev zgV:RC:=λvs H Q=>∃r d aM,vs=[.ref r]/\H r=U (Vi r d)/\H d=U (.dT (sE aM))/\(sE aM).length<64 /\
 ∀l ys srt H',aK H H'->H l=ao->H' l=U (.lst ys)->Paired (PrAt H') ys srt->sS srt->(∀p w,(p,w)∈srt↔zF aM p=U w)->Q (.ref l) H'
theorem zeA{H:Hp}:∀ {ys:List V} {its:List aQ},Paired (Y4 H) ys (its.map λq=>(zC q.1,V.int q.2))->Paired (PrAt H) ys its
 |_,[],h=>by cases h;exact .nil
 |_,q::r,h=>by
  rw[bw] at h;cases h with
  |cons a t=>exact .cons a (zeA t)
section
variable {X:Cx}
theorem zih{σ:St}{H:Hp}{s:am}{v:V}{u:af}{q:aQ}(I:aO X aa σ H s)(h:PrAt H v q)(r:aU v u):RvAt s.heap u q:=by
 obtain⟨a,p,rfl,h1,h2⟩:=h;cases r;obtain⟨_,its,rv,o,o1,o2,n,o3⟩:=(show aW X.prog X.w H s.heap a (.tup [.ref p,.int q.2]) from I.hok a _ h1);cases rv with
 |cons r1 rr =>
  cases rr with
  |cons r2 rn =>
   cases rn;cases r1;obtain⟨t,rfl⟩:=r2;exact⟨a,o,p,t,n,Y,o1,o2,o3,zab I h2⟩
theorem Y5(hc:X.calm=D)(hu:X.A.units+3<cLine):jZ X (.builtin "sorted") zgV:=by
 intro aa s σ H vs us Q I r0 h;obtain⟨r,d,aM,rfl,hr,hd,h64,q⟩:=h;obtain⟨u,rfl,ru⟩:=jt r0;cases ru;have hh:X.A.handled=ao:=I.ok.hd hc;obtain⟨its,ei,nd,mi⟩:=zhs aM;have li:(sE aM).length=its.length:=by rw[ei,bf]
 have so:=Vd nd;have vat:∀ {s1:am} {H':Hp} {ys:List V} {vs:List af},aO X aa σ H' s1->Paired (PrAt H') ys its->aR ys vs->∀(i:Nat) (q:aQ),its[i]?=U q->∃v,vs[i]?=U v/\RvAt s1.heap v q:=λ{s1 H' ys vs} I' pr rv i q hq=>by
  have hi:=(bn.mp hq).1;have l1:=bL pr;obtain⟨y,hy⟩:∃y,ys[i]?=U y:=⟨_,bb ()⟩;obtain⟨u,hu',ru⟩:=rv.get hy;exact⟨u,hu',zih I' (yR pr hy hq) ru⟩
 refine KR (κ:=tuples' aq) (λvs lt s1=>∃H' ys,aO X aa σ H' s1/\aK H H'/\Paired (PrAt H') ys its/\aR ys vs/\lt=λi j=>yn ((its.map (·.1)).getD i (("",0):Pl)) ((its.map (·.1)).getD j (("",0):Pl)))
  (λR hR=>zbD (A:=X.A.in1) hh hr hd () I λs1 H' ys us I' sm pr rv=>hR us _ s1 ⟨H',ys,I',sm,zeA (by rw[<-ei];exact pr),rv,Y⟩) ?_ ?_ ?_ ?_
 ·rintro vs lt s1 ⟨H',ys,I',sm,pr,rv,rfl⟩;have l1:=bL pr;have l2:=rv.length;refine⟨(),?_⟩;rw[show vs.length=(its.map (·.1)).length by rw[bf];lia];exact so
 ·rintro vs lt s1 ⟨H',ys,I',sm,pr,rv,rfl⟩ h2 h Q' k q';have l1:=bL pr;have l2:=rv.length;refine zez (s:={ s1 with heap:=h }) (qs:=its) () (λi v q hv hq=>?_) () q';obtain⟨v',hv',rr⟩:=vat I' pr rv i q hq;rw[hv] at hv';cases hv';exact rr.keep k
 ·rintro vs lt s1 ⟨H',ys,I',sm,pr,rv,rfl⟩ h i j C k hi hj hij q';have l1:=bL pr;have l2:=rv.length;have e1:its[i]?=U its[i]:=bb ();have e2:its[j]?=U its[j]:=bb ();obtain⟨v1,g1,r1⟩:=vat I' pr rv i _ e1;obtain⟨v2,g2,r2⟩:=vat I' pr rv j _ e2;have n1:(its.map (·.1)).getD i (("",0):Pl)=its[i].1:=by rw[bM,bx,e1];rfl
  have n2:(its.map (·.1)).getD j (("",0):Pl)=its[j].1:=by rw[bM,bx,e2];rfl
  have m1:vs.getD i cE=v1:=by rw[bM,g1];rfl
  have m2:vs.getD j cE=v2:=by rw[bM,g2];rfl
  simp only[n1,n2] at q';have key:=zf7 (P:=X.prog) (w:=X.w) (A:=X.A.in1.in1) (E:=λ_ _=>False) (s:={ s1 with heap:=h }) (Q:=C) (by have e:X.A.in1.in1.units=X.A.units+2:=rfl;lia) (r1.keep k) (r2.keep k) q' λz=>hij (by
   have e3:(its.map (·.1))[i]?=U its[i].1:=by rw[bx,e1];rfl
   have e4:(its.map (·.1))[j]?=U its[j].1:=by rw[bx,e2];rfl
   rw[z] at e3;exact(gA (by rw[bf];lia) nd).mp (e3.trans e4.symm))
  rw[<-m1,<-m2] at key;exact key
 ·rintro vs lt s1 ⟨H',ys,I',sm,pr,rv,rfl⟩ h' p c k hD hp hr;have l1:=bL pr;have l2:=rv.length;have hp':PP its.length p:=by rw[show its.length=vs.length by lia];exact hp
  have fr:H' s1.heap.objs.size=ao:=I'.hok.fresh (bp _);have sz:=hp'.size;have pk:=qU pr V.non d0 (is:=p.toList) λi hi=>by have:=hp'.lt i hi;lia
  have vk:aR (p.toList.map λi=>ys.getD i V.non) (vY vs p):=qU rv V.non cE (is:=p.toList) λi hi=>by have:=hp'.lt i hi;lia
  have I2:aO X aa σ (upd H' s1.heap.objs.size (.lst (p.toList.map λi=>ys.getD i V.non))) { s1 with heap:=h' }:=I'.laid (a:=s1.heap.objs.size) (o:=.lst (p.toList.map λi=>ys.getD i V.non)) (t':=s1.toks) k (bp _)
   ⟨by rw[bf,cu];exact bN (by lia:_<=64) (),vY vs p,c,vk,hD⟩
  have S2:aK H' (upd H' s1.heap.objs.size (.lst (p.toList.map λi=>ys.getD i V.non))):=sJ _ fr;have hn:H s1.heap.objs.size=ao:=by
   cases e:H s1.heap.objs.size with
   |none=>rfl
   |some o=>rw[sm _ _ e] at fr;cases fr
  have mono:∀ {us:List V} {ws:List aQ},Paired (PrAt H') us ws->Paired (PrAt (upd H' s1.heap.objs.size (.lst (p.toList.map λi=>ys.getD i V.non)))) us ws:=λ{us ws} h=>by
   induction h with
   |nil=>exact .nil
   |cons a _ ih =>
    obtain⟨r,p,e,h1,h2⟩:=a;exact .cons ⟨r,p,e,S2 _ _ h1,S2 _ _ h2⟩ ih
  refine⟨.ref s1.heap.objs.size,_,I2,Y,q _ _ (p.toList.map λi=>its.getD i d0) _ (sm.trans S2) hn zh (mono pk) ?_ λpl wv=>?_⟩
  ·have hr':ZV (λi j=>yn ((its.map (·.1)).getD i (("",0):Pl)) ((its.map (·.1)).getD j (("",0):Pl))) p its.length:=by rw[show its.length=vs.length by lia];exact hr
   have pw:=zbF (F:=yn) hp' hr';have eq:(p.toList.map λi=>its.getD i d0).map (·.1)=p.toList.map λi=>(its.map (·.1)).getD i (("",0):Pl):=by
    rw[da];refine dy λi hi=>?_;have hi:=hp'.lt i hi;simp[bM,bx,bb hi]
   rw[<-eq,gy] at pw;exact pw
  ·have pm:(p.toList.map λi=>its.getD i d0).Perm its:=by
    refine(hp'.list.map _).trans ?_;rw[zbE]
   rw[pm.mem_iff];exact mi pl wv
end
end L2
namespace L2
open PySem PySem.Spec PyProof.Rows
end L2
namespace L2
open PySem
structure StOk(n:Nat)(s:Sta):Prop where
 so:xb s.sl
 wo:∀r∈s.wo,sH r.2=D
 l1:s.sl.length<=n
 l2:s.wo.length<=n
 l3:s.sa.length<=n
theorem StOk.mono(h:StOk n s)(l:n<=m):StOk m s:=⟨h.so,h.wo,bN h.l1 l,bN h.l2 l,bN h.l3 l⟩
theorem JZ(h:xb ah)(k:aV){i:Int}(hi:sH i=D):xb (yq ah k (.int i)):=λk' v e=>by
 rw[YU] at e;by_cases c:k'=k
 ·rw[au c] at e;exact⟨i,(bJ e).symm,hi⟩
 ·rw[ap c] at e;exact h k' v e
theorem wY{P:aQ->Prop}{p:Pl}{w:Int}:∀ {l:List aQ},(∀r∈l,P r)->zF l p=U w->P (p,w)
 |[],_,h=>by cases h
 |r::t,hp,h=>by
  rw[zF] at h;cases e:zF t p with
  |some w' =>
   rw[e] at h;have:w'=w:=by simpa using h
   subst this;exact wY (λr hr=>hp r (bh _ hr)) e
  |none =>
   rw[e] at h;by_cases c:r.1=p
   ·rw[au c] at h;have:r.2=w:=by simpa using h
    rw[<-c,<-this];exact hp r bo
   ·rw[ap c] at h;cases h
theorem zeB(h:∀r∈l,sH r.2=D)(p:Pl):sH ((zF l p).getD 0)=D:=by
 cases e:zF l p with
 |none=>rfl
 |some w=>exact wY (P:=λr=>sH r.2=D) h e
mutual
def ziD(P:Pl->Prop):Rw->Prop
 |.give sh e _=>∀ah n,rk ah e=.ok n->P (sh,n)
 |.iff _ a b=>zeC P a/\zeC P b
 |_=>True
def zeC(P:Pl->Prop):aZ->Prop
 |.nil=>True
 |.cons r rs=>ziD P r/\zeC P rs
end
inductive Oc where
 |done (sa:List Int)
 |off (why:Str)
def zak:Er->Str
 |.great=>"great"
 |_=>"nought"
def zht(rws:aZ)(tab:List aQ)(oc:Oc)(out:List aQ):Prop:=match zf3 rws ⟨[],tab,[]⟩ with
 |.go s=>oc=.done s.sa/\zem s.wo out
 |.off=>oc=.off "told"/\out=tab
 |.er e=>oc=.off (zak e)/\out=tab
inductive zhu:List aZ->List aQ->List Oc->List aQ->Prop
 |nil {tab:List aQ}:zhu [] tab [] tab
 |cons {d:aZ} {ds:List aZ} {tab mid out:List aQ} {oc:Oc} {ocs:List Oc}:zht d tab oc mid->zhu ds mid ocs out->zhu (d::ds) tab (oc::ocs) out
def Wg:V->PyData
 |.int i=>.int i
 |.str x=>.str x
 |_=>.none
def plV(v:V):Prop:=(∃i,v=.int i)\/∃x,v=.str x/\b9 x=D
def Vj(e:List V):PyData:=.tuple (e.map Wg)
mutual
def rwD:Rw->PyData
 |.take sh e sl=>.tuple [.str "take",.str sh,Vj e,.str sl]
 |.give sh e f=>.tuple [.str "give",.str sh,Vj e,Vj f]
 |.lt sl e=>.tuple [.str "let",.str sl,Vj e]
 |.say e=>.tuple [.str "say",Vj e]
 |.off e=>.tuple [.str "off",Vj e]
 |.iff e a b=>.tuple [.str "if",Vj e,.list (zhv a),.list (zhv b)]
def zhv:aZ->List PyData
 |.nil=>[]
 |.cons r rs=>rwD r::zhv rs
end
def tmP(e:List V):Prop:=∀v∈e,plV v
mutual
def Vk:Rw->Prop
 |.take sh e sl=>b9 sh=D/\tmP e/\b9 sl=D
 |.give sh e f=>b9 sh=D/\tmP e/\tmP f
 |.lt sl e=>b9 sl=D/\tmP e
 |.say e=>tmP e
 |.off e=>tmP e
 |.iff e a b=>tmP e/\qV a/\qV b
def qV:aZ->Prop
 |.nil=>True
 |.cons r rs=>Vk r/\qV rs
end
section
variable {K:bu}{H:Hp}{F:L->Prop}
theorem zeD(h:plV v):Dat K H v (Wg v):=by
 rcases h with ⟨i,rfl⟩|⟨x,rfl,_⟩
 ·exact .int i
 ·exact .str x
theorem zdc:∀ {e:List V},tmP e->sQ K H e (e.map Wg)
 |[],_=>.nil
 |v::r,h=>.cons (zeD (h v bo)) (zdc λu hu=>h u (bh _ hu))
end
theorem zal:∀ {e:List V},tmP e->xH (e.map Wg)=D
 |[],_=>by simp[xH]
 |v::r,h=>by
  rw[bw,xH,zal λu hu=>h u (bh _ hu),Bool.and_true];rcases h v bo with ⟨i,rfl⟩|⟨x,rfl,hx⟩
  ·rw[Wg,yi]
  ·rw[Wg,yi];exact hx
theorem zbG:∀(e:List V),fZ (e.map Wg)=0
 |[]=>by simp[fZ]
 |v::r=>by
  rw[bw,fZ,zbG r];cases v <;> simp[Wg,ma]
def aZ.snoc:aZ->Rw->aZ
 |.nil,x=>.cons x .nil
 |.cons r rs,x=>.cons r (rs.snoc x)
def aZ.app:aZ->aZ->aZ
 |.nil,x=>x
 |.cons r rs,x=>.cons r (rs.app x)
theorem pv.get{F:L->Prop}{H:Hp}:∀ {r:aZ} {vs:List V} {i:Nat} {v:V},pv F H (vs.drop i) r->vs[i]?=U v->∃x rs,r=.cons x rs/\hV F H v x/\pv F H (vs.drop (i+1)) rs
 |.nil,vs,i,v,h,e=>by
  unfold pv at h;have:=(bn.mp e).1;have:=congrArg fE h;rw[cG] at this;simp at this;lia
 |.cons x rs,vs,i,v,h,e=>by
  unfold pv at h;obtain⟨u,ws,e1,e2,e3⟩:=h;have hi:=(bn.mp e).1;have d:=mq hi;rw[e1] at d;have e4:vs[i]=v:=(bn.mp e).2;rw[e4] at d;injection d with d1 d2;subst d1 d2;exact⟨x,rs,Y,e2,e3⟩
theorem pv.none{F:L->Prop}{H:Hp}{vs:List V}(h:pv F H (vs.drop vs.length) r):r=.nil:=by
 rw[List.drop_length] at h;cases r with
 |nil=>rfl
 |cons x rs =>
  unfold pv at h;obtain⟨_,_,e,_⟩:=h;cases e
theorem zeE(h:kW v)(j:isJ v=aq):aX [v]:=
 ⟨λah=>⟨_,zc4 j⟩,λu hu=>by rw[br.mp hu];exact h,by simp⟩
theorem Paired.takeP{α β:Type}{F:α->β->Prop}:∀(k:Nat) {a:List α} {b:List β},Paired F a b->Paired F (a.take k) (b.take k)
 |0,_,_,_=>.nil
 |_+1,_,_,.nil=>.nil
 |k+1,_,_,.cons h r=>.cons h (Paired.takeP k r)
theorem Paired.snocP{α β:Type}{F:α->β->Prop}{x:α}{y:β}:∀ {a:List α} {b:List β},Paired F a b->F x y->Paired F (a++[x]) (b++[y])
 |_,_,.nil,h=>.cons h .nil
 |_,_,.cons a r,h=>.cons a (Paired.snocP r h)
theorem Paired.getP{α β:Type}{F:α->β->Prop}{a:List α}{b:List β}{i:Nat}{x:α}(h:Paired F a b)(e:a[i]?=U x):∃y,b[i]?=U y/\F x y:=by
 have hi:=(bn.mp e).1;have l:=bL h;exact⟨b[i],bb (),yR h e (bb ())⟩
end L2
namespace L2
open PySem PySem.Spec PyProof.Rows
theorem zhw{c:Nat}:∀ {a b r s:List Nat},c ∉ a->c ∉ b->a++c::r=b++c::s->a=b/\r=s
 |[],[],r,s,_,_,h=>by simpa using h
 |[],y::b,r,s,_,hb,h=>by
  simp only[gb,dJ,eP] at h;exact absurd h.1 (λz=>hb (by rw[z];exact bo))
 |x::a,[],r,s,ha,_,h=>by
  simp only[gb,dJ,eP] at h;exact absurd h.1.symm (λz=>ha (by rw[z];exact bo))
 |x::a,y::b,r,s,ha,hb,h=>by
  simp only[dJ,eP] at h;obtain⟨e1,e2⟩:=zhw (λz=>ha (bh _ z)) (λz=>hb (bh _ z)) h.2;exact⟨by rw[h.1,e1],e2⟩
section
variable {prog:av}{w:ax}{A:ay}{E:af->am->Prop}{s:am}
theorem zam{l:L}{items:Array af}{n:Nat}{k:Int}{t:Tok}{v:af}{Q:Unit->am->Prop}(hl:s.heap.get? l=U { cls:=.type "list",data:=.seq items n })
  (h0:k<0) (h1:-(items.size:Int)<=k) (hfit:-(2^63)<=k) (hQ:Q PUnit.unit { s with heap:=s.heap.update l (cZ (·.setIfInBounds (k+items.size).toNat v)) }) :
  Bf (Bg prog w) A (setItem (.ref l) (.int k t) v) Q E s:=by
 have hL:s.heap.IsList l items:=⟨_,hl,Y,n,Y⟩;unfold setItem
 try with_reducible refine du ?_
 first|refine ba (bd ?_)|skip
 refine ba (wpAny_sequenceKey hL.typeIs () ?_);refine ba (cK (name:=bg "__setitem__") hL.typeIs iH
  (cI iH hL.typeIs entry_list_setitem ?_ (args_list_setitem _ _ _)))
 show Bf _ _ (lP (.int k t) >>= _) _ _ s;refine ba (m8 (fitsIndex_neg h0 hfit) ?_);clear hfit;have hidx:=pY h0 h1;have hx:items[(k+items.size).toNat]?=U (items[(k+items.size).toNat]'()):=cg ();obtain⟨j,rfl⟩:∃j:Nat,k=Int.negSucc j:=by
  cases k with
  |ofNat n=>exact absurd h0 (Int.not_lt.mpr (Int.ofNat_nonneg n))
  |negSucc n=>exact⟨n,Y⟩
 show Bf _ _ ((iu (.ref l) >>= λxs=>pure ((seqIndex? (Int.negSucc j) xs.size).bind λi=>xs[i]?.map (i,·))) >>= _) _ _ s;refine ba (ba ?_);show Bf _ _ (seqItems? (.ref l) >>= _) _ _ s;refine ba (eY hl Y (bd (bd ?_)));rw[hidx];simp only[Option.bind_some,hx,gX];refine ba (wpAny_setSeqItemAt hl Y ?_)
 first
  |exact ba (bd (bd ⟨.none,rfl,bd hQ⟩))
  |exact bd ⟨.none,rfl,bd hQ⟩
theorem zan{l:L}{items:Array af}{n j:Nat}{k:Int}{t:Tok}{v:af}{Q:Unit->am->Prop}(hl:s.heap.get? l=U { cls:=.type "list",data:=.seq items n })
  (h0:0<=k) (hfit:k<2^63) (hkj:k.toNat=j) (hn:j<items.size) (hQ:Q PUnit.unit { s with heap:=s.heap.update l (cZ (·.setIfInBounds j v)) }) :
  Bf (Bg prog w) A (setItem (.ref l) (.int k t) v) Q E s:=by
 have hL:s.heap.IsList l items:=⟨_,hl,Y,n,Y⟩;unfold setItem
 try with_reducible refine du ?_
 first|refine ba (bd ?_)|skip
 refine ba (wpAny_sequenceKey hL.typeIs () ?_);refine ba (cK (name:=bg "__setitem__") hL.typeIs iH
  (cI iH hL.typeIs entry_list_setitem ?_ (args_list_setitem _ _ _)))
 show Bf _ _ (lP (.int k t) >>= _) _ _ s;refine ba (m8 (fitsIndex_of h0 hfit) ?_);clear hfit;obtain⟨j',rfl⟩:=ic h0;have hkj:j'=j:=hkj;subst hkj;have hx':items[j']?=U items[j']:=cg hn;show Bf _ _ ((seqItemAt l j' >>= λr=>pure (r.map (j',·))) >>= _) _ _ s;refine ba (ba (wpAny_seqItemAt hl Y (bd ?_)));rw[hx'];refine ba (wpAny_setSeqItemAt hl Y ?_)
 first
  |exact ba (bd (bd ⟨.none,rfl,bd hQ⟩))
  |exact bd ⟨.none,rfl,bd hQ⟩
end
def zcm(td ty tv:TE):TS:=λBq σ H=>tv σ H λv H1=>td σ H1 λx H2=>ty σ H2 λy H3=>∃a xs i j,x=.ref a/\y=.int i/\H3 a=U (.lst xs)/\ixN xs.length i=U j/\(-1000<=i/\i<=1000)/\Bq.nx σ (upd H3 a (.lst (xs.set j v)))
theorem zao{v:V}{u:af}(r:aU v u):∀ {xs:List V} {us:List af},aR xs us->∀j:Nat,aR (xs.set j v) (us.set j u)
 |_,_,.nil,_=>.nil
 |_,_,.cons _ t,0=>.cons r t
 |_,_,.cons a t,j+1=>.cons a (zao r t j)
section
variable {X:Cx}{o i value:aB}{pos pos':Pos}{td ty tv:TE}
theorem KS(ho:PE X o td)(hi:PE X i ty)(hv:PE X value tv)(hs:swapsWith value (U (.Subscript o i pos')) pos.line X.env=pure aq) :
  PS X (.Assign [.Subscript o i pos'] value pos) (zcm td ty tv):=by
 intro aa s σ H Bq I h;refine nH (dl (hv aa s σ H _ I h) λr s1 ⟨v,H1,I1,rv,q1⟩=>dl (ho aa s1 σ H1 _ I1 q1) λu s2 ⟨x,H2,I2,rx,q2⟩=>dl (hi aa s2 σ H2 _ I2 q2) ?_) hs;rintro iv s3 ⟨y,H3,I3,ry,a,xs,k,j,ex,ey,ea,hj,hk,q3⟩;subst ex ey;obtain rfl:u=bI a:=rx;obtain⟨t,rfl⟩:=ry;obtain⟨z,its,n,rl,hl,e⟩:=I3.lstM ea;have fin:SP X aa Bq .next { s3 with heap:=s3.heap.update a (cZ (·.setIfInBounds j r)) }:=⟨σ,_,I3.lset (its':=its.set j r) (t':=s3.toks) ea e (by simp) (zao rv rl _) (by rw[lQ];exact z),q3⟩
 unfold ixN at hj;by_cases h0:0<=k
 ·rw[au h0] at hj;split at hj
  ·rename_i h1;cases hj;exact zan e h0 () Y (by rw[bH,<-hl];lia) fin
  ·cases hj
 ·rw[ap h0] at hj;split at hj
  ·rename_i h1;cases hj;refine zam e () (by rw[bH,<-hl];exact h1) () ?_;rw[bH,<-hl];exact fin
  ·cases hj
end
section
variable {X:Cx}
abbrev zeF(K:bu):R2:=λx y H Q=>∃a b xs,x=.ref a/\y=.ref b/\aT K H a xs/\aT K H b []/\Q (.bl (!decide (xs=[]))) H
theorem zeG(hu:X.A.units+64<cLine):ti X (Bi .NotEq) (zeF X.K):=by
 intro aa s σ H x y v u Q I rx ry h;obtain⟨a,b,xs,rfl,rfl,ha,hb,q⟩:=h;by_cases e:xs=[]
 ·subst e;exact zho hu aa s σ H _ _ v u Q I rx ry ⟨a,b,[],[],Y,Y,ha,hb,⟨Y,Y,Y⟩,q⟩
 ·cases rx;cases ry;obtain⟨us,r1,p1,_⟩:=I.list ha;obtain⟨ws,r2,p2,_⟩:=I.list hb;cases r2;have e1:=r1.length;have e2:xs.length≠0:=λz=>e (fN z);rw[Bk e] at q;exact PySem.SeqAt.RcNeAt.lists_lengths p1.isList p2.isList (by simp;intro z;rw[z] at e1;exact e2 e1) () X.prog X.w X.xe _ ⟨.bl D,H,I,Y,q⟩
end
mutual
inductive zeH (H:Hp):V->PyData->Prop
 |int (i:Int):zeH H (.int i) (.int i)
 |str (x:Str):zeH H (.str x) (.str x)
 |lst {a:L} {xs:List V} {ds:List PyData}:H a=U (.lst xs)->zap H xs ds->zeH H (.ref a) (.list ds)
 |tup {a:L} {xs:List V} {ds:List PyData}:H a=U (.tup xs)->zap H xs ds->zeH H (.ref a) (.tuple ds)
inductive zap (H:Hp):List V->List PyData->Prop
 |nil:zap H [] []
 |cons {x:V} {d:PyData} {xs:List V} {ds:List PyData}:zeH H x d->zap H xs ds->zap H (x::xs) (d::ds)
end
end L2
namespace L2
open PySem
abbrev zaq:RM:=zb7
end L2
namespace L2
open PySem PySem.Spec PyProof.Rows
section
variable {X:Cx}
open Classical in
noncomputable def ziL(K:PySem.W.Frag)(H:Hp)(d:PyData)(u:af):Bool:=decide (∃x,aU x u/\Dat K H x d)
open Classical in
end
def Cb(i:Int):Prop:=dv i<=1048576
theorem Cb.of{i:Int}(h:i.natAbs<2^64):Cb i:=bN (intBits_le_iff.mpr h) ()
def Cw(i:Int):Prop:=dv i<=4000000
theorem Cb.w{i:Int}(h:Cb i):Cw i:=bN h ()
theorem Cw.div{i k:Int}(h:Cw i):Cw (i/k):=intBits_le_of_natAbs (Int.natAbs_ediv_le_natAbs i k) h
def CMulC(i j:Int):Prop:=Cw i/\Cw j
theorem CMulC.ok{i j:Int}(h:CMulC i j):IntMulOk i j:=by
 unfold IntMulOk;have h1:dv i<=4000000:=h.1;have h2:dv j<=4000000:=h.2;have e:og ((dv i:Int)+(dv j:Int))=aq:=by
  unfold og;rw[decide_eq_false_iff_not];have:(bitsLine:Int)=134217728:=by lia
  lia
 rw[e];simp
section
variable {X:Cx}
theorem zf8:ti X (binaryOp .Mult) (rI CMulC λi j=>.int (i*j)):=opI λ_ _ _ _ _ _ _ hc q=>mul_int q hc.ok
end
open Att PySem.W PySem.Calls in
theorem zeI{l:oZ}{n k:Nat}{q:av}{loose:List Str}{XP:(Str->Option af)->aw->Prop}{YP:ax->aw->Prop}{d:DefRec}{K:Params->bu}{CX:ax->CXT}{sp:ax->Sp}{x:Str}
  (hn:l.most=U n) (hn2:n<=Bb) (hdf:d.params.defaults=[]) (hr:sy k callerA) (hY:∀(w:ax) (h:aw),YP w h->(K w.params).In h)
  (F:∀(w:ax) (mg:Str->Option af) (fa:L) (h:aw),(K w.params).In h->h.Ns Bd mg->mg d.name=U (.ref fa) ->
   ∃fd:Bc,(∀(s:am) (u:af),BindsTo s fd ⟨[u],[]⟩ [(x,u)]) /\
    ∀base:aw,(K w.params).In base->base.Ns Bd mg->sq l.prog w (K w.params) mg base (CX w) k fa fd [x] (sp w))
  (hsp:∀(w:ax) (H:Hp) (a:L) (ns:List Int),ns.length<=n->(∀i∈ns,Cb i)->zbo H->aT (K w.params) H a (ns.map V.int)->sp w [.ref a] H (λv _=>v=.bl D) λ_ _ _=>False)
  (hCX:∀(w:ax) (H:Hp) (s:am) (e:af) (s':am),CX w [] H s (λ_ _ _=>False) e s'->False) :
  se q loose XP YP l.row.toRowW d [] (λf vs=>mF f vs):=by
 intro w s₀ s₁ mg mb G Bl fa o pm cd doc dV kV ho hd hcd hD hmg hg args vals as hpre hlay hrd hwl hlo;obtain rfl:dV=.none:=Dflts.none hD hdf;obtain rfl:kV=.none:=Dflts.noKw hD;obtain⟨a,vs,ns,rfl,rfl,hobj,hints,hlen⟩:=JJ hn hpre hwl;have hb:∀i∈ns,Cb i:=λi hi=>intBits_le_of_layable (layable_of_mem (lay0_int (layableW_item (layableW_arg hlay _ bo) _ (bC.mpr ⟨i,hi,Y⟩))) bo);have KX:=hY w _ Bl;obtain⟨fd,hbd,hF⟩:=F w mg fa _ KX G.T.g hmg;refine enter_call (fU (QQ KX G.T.g G.T.b G.T.builtins G.T.nolimit hg hobj hints (bN hlen hn2) hr hF hbd (λH hO hS=>hsp w H a ns hlen hb hO hS) λH e s'=>hCX w H s₁ e s') λr s' hq=>?_);obtain⟨rfl,h2,h3,h4⟩:=hq;exact⟨.inl ⟨.bool D,.bool D,[],Y,λ_=>rfl,.bool D,JK l _,λ_=>⟨fm,λ_ hm=>(nomatch hm)⟩⟩,h2,h3,h4⟩
theorem walk_ofXB{l:oZ}{n k:Nat}{q:av}{loose:List Str}{XP:(Str->Option af)->aw->Prop}{YP:ax->aw->Prop}{d:DefRec}{K:Params->bu}{sp:bu->Sp}{x:Str}
  (hn:l.most=U n) (hn2:n<=Bb) (hdf:d.params.defaults=[]) (hr:sy k callerA) (hY:∀(w:ax) (h:aw),YP w h->(K w.params).In h)
  (F:∀(w:ax) (mg:Str->Option af) (fa:L) (h:aw),(K w.params).In h->h.Ns Bd mg->mg d.name=U (.ref fa) ->
   ∃fd:Bc,(∀(s:am) (u:af),BindsTo s fd ⟨[u],[]⟩ [(x,u)]) /\
    ∀base:aw,(K w.params).In base->base.Ns Bd mg->sq l.prog w (K w.params) mg base (tK l.prog w) k fa fd [x] (sp (K w.params)))
  (hsp:∀(K:bu) (H:Hp) (a:L) (ns:List Int),ns.length<=n->(∀i∈ns,Cb i)->zbo H->aT K H a (ns.map V.int)->sp K [.ref a] H (λv _=>v=.bl D) λ_ _ _=>False) :
  se q loose XP YP l.row.toRowW d [] (λf vs=>mF f vs) :=
 zeI (K:=K) (CX:=λw=>tK l.prog w) (sp:=λw=>sp (K w.params)) hn hn2 hdf hr hY F (λw H a ns h1 hb h2 h3=>hsp (K w.params) H a ns h1 hb h2 h3) λ_ _ _ _ _ z=>by
  obtain⟨_,_,_,_,_,_,_,_,_,y⟩:=z;exact y
section
variable {K:Type} [DecidableEq K]
def yg(xs:List (K×L×af))(k:K):List (K×L×af):=xs.filter λx=>decide (x.1≠k)
theorem zbH:∀ {xs:List (K×L×af)} {k:K},k ∉ xs.map (·.1)->yg xs k=xs:=λ{xs k} h=>oR.mpr λx hx=>Bj λe=>h (bC.mpr ⟨x,hx,e⟩)
theorem zeJ:∀ {xs:List (K×L×af)} {j:Nat} {k:K} {p:L×af},(xs.map (·.1)).Nodup->xs[j]?=U (k,p)->xs.eraseIdx j=yg xs k
 |[],j,k,p,_,h=>by simp at h
 |x::r,0,k,p,n,h=>by
  rw[bw,bZ] at n;simp only[eG,fu] at h;subst h;show r=List.filter _ ((k,p)::r);rw[fH (by simp)];exact(zbH n.1).symm
 |x::r,j+1,k,p,n,h=>by
  rw[bw,bZ] at n;simp only[ie] at h;have m:k∈r.map (·.1):=bC.mpr ⟨(k,p),bS h,Y⟩;have ne:x.1≠k:=λe=>n.1 (e ▸ m);show x::r.eraseIdx j=List.filter _ (x::r);rw[fI (by simp[ne]),zeJ n.2 h];rfl
end
theorem XS{α β:Type}(f:α->β):∀(l:List α) (j:Nat),(l.map f).eraseIdx j=(l.eraseIdx j).map f
 |[],_=>rfl
 |_::_,0=>rfl
 |a::l,j+1=>by rw[bw,gW,gW,bw,XS f l j]
theorem KT.dropT{H:Hp}(r:KT H ah xs)(k:List aV):KT H (yo ah k) (yg xs k):=by
 induction r with
 |nil=>exact .nil
 |@cons p q ps qs h t ih =>
  unfold yo yg;by_cases e:p.1=k
  ·rw[fH (by simp[e]),fH (by simp[<-h.1,e])];exact ih
  ·rw[fI (by simp[e]),fI (by simp[<-h.1,e])];exact .cons h ih
section
variable {prog:av}{w:ax}{K:Type} [DecidableEq K]{knd:HeapKind prog w K}{A:ay}{E:af->am->Prop}{s:am}{d a:L}{xs:List (K×L×af)}{k:K}
theorem KU{Q:Option DictEntry->am->Prop}(hu:knd.room A)(hkey:knd.is s.heap k a)(hm:s.heap.DictOfH knd d xs)(hp:atKey xs k=U p)
  (hsome:∀e:DictEntry,e.val=p.2->∀h',h'.DictOfH knd d (yg xs k)->cF d s.heap h'->Q (U e) { s with heap:=h',toks:=s.toks+knd.draws k }) (hsz:xs.length<=Bb) :
  Bf (Bg prog w) A (oB d (.ref a)) Q E s:=by
 obtain⟨o,es,ep,ho,hc,hd,he,his,hn⟩:=hm;have hes:es.size=xs.length:=oh he;unfold oB
 try with_reducible refine du ?_
 refine ba (knd.pyHash hu hkey ?_);refine ba (wpAny_dictFind_heap (s:={ s with toks:=s.toks+knd.draws k }) hu hkey ho hd he his hn ?_ ?_)
 ·intro hno;rw[atKey_none_of_get hno] at hp;cases hp
 ·intro j q hj;have e1:=atKey_of_get hn hj;rw[hp] at e1;cases e1;refine ba (dD (s:={ s with toks:=s.toks+knd.draws k }) ho hd ?_);rw[entry_at he j,hj];refine ba (oC (hz:=by lia) (s:={ s with toks:=s.toks+knd.draws k }) ho hd (bd (hsome (entryOfKey knd (k,p)) rfl _ ⟨_,_,ep+1,ef _ ho (oS (gC hd _)),hc.mapDictKeys _,gC hd _,?_,?_,?_⟩ (cR ..))))
  ·rw[<-zeJ hn hj,<-XS,<-he];obtain⟨l⟩:=es;simp
  ·intro x hx;exact knd.keeps (his x (cr.mp hx).1) ho hd (cR ..)
  ·exact ig (gM _ de) hn
theorem zbI :MeetsIn prog w (Builtin.«dict.pop» ⟨[.ref d,.ref a],[]⟩) (λA R s=>knd.room A.in1/\∃k xs p,knd.is s.heap k a/\s.heap.DictOfH knd d xs/\xs.length<=Bb/\atKey xs k=U p /\
   ∀h',h'.DictOfH knd d (yg xs k)->cF d s.heap h'->R (.ok (.ret p.2)) { s with heap:=h',toks:=s.toks+knd.draws k }):=
 .of_wp λA R s ⟨hu,k,xs,p,hkey,hm,hz,hp,h⟩=>by
  unfold Builtin.«dict.pop»;refine ba ?_;unfold lU;refine ba (eV hm.typeIs ?_);show Bf _ _ (pure (d,bI a,ao)) _ _ s;refine bd ?_;have kp:(keyPart (bI a)).isSome=aq:=rfl;simp only[kp,cL,if_false];obtain⟨o,es,ep,ho,hc,hd,he,his,hn⟩:=id hm;refine ba (dD ho hd ?_);refine ba (bd ?_);have ne:es.isEmpty=aq:=by
   have l1:=oh he;cases xs with
   |nil=>simp[atKey] at hp
   |cons x r =>
    rw[Array.isEmpty_eq_false_iff];intro z;rw[z] at l1;simp at l1
  simp only[ne,cL,if_false];refine ba (KU hu hkey hm hp (λe ev h' hm' hs'=>?_) hz);simp only[pF,cL,if_false];exact ba (m4 (bd ⟨e.val,Y,by rw[ev];exact h h' hm' hs'⟩))
theorem WA{dflt:af}{Q:af->am->Prop}(hu:knd.room A)(hkey:knd.is s.heap k a)(hm:s.heap.DictOfH knd d xs)
  (h1:∀p,atKey xs k=U p->Q p.2 { s with toks:=s.toks+knd.draws k })
  (h2:atKey xs k=ao->∀h',h'.DictOfH knd d (storedH xs k a dflt)->cF d s.heap h'->Q dflt { s with heap:=h',toks:=s.toks+knd.draws k }) (hsz:xs.length<=Bb) :
  Bf (Bg prog w) A (dictSetDefault d (.ref a) dflt) Q E s:=by
 obtain⟨o,es,ep,ho,hc,hd,he,his,hn⟩:=hm;have hes:es.size=xs.length:=oh he;unfold dictSetDefault
 try with_reducible refine du ?_
 refine ba (knd.pyHash hu hkey ?_);refine ba (wpAny_dictFind_heap (s:={ s with toks:=s.toks+knd.draws k }) hu hkey ho hd he his hn ?_ ?_)
 ·intro hno;have hnot:k ∉ xs.map (·.1):=not_mem_keys_of_get hno;have e0:=atKey_none_of_get hno;refine ba (lq (ba (oC (hz:=by lia) (s:={ s with toks:=s.toks+knd.draws k }) ho hd (bd (h2 e0 _ ⟨_,_,ep+1,ef _ ho (oS (gC hd _)),
   hc.mapDictKeys _,gC hd _,?_,?_,?_⟩ (cR ..))))))
  ·rw[storedH_new e0];simp[he,entryOfKey]
  ·rw[storedH_new e0];intro x hx;rcases bB.mp hx with hx|hx
   ·exact knd.keeps (his x hx) ho hd (cR ..)
   ·simp only[br] at hx;subst hx;exact knd.keeps hkey ho hd (cR ..)
  ·rw[storedH_new e0];rw[bQ,cV];refine⟨hn,by simp,?_⟩;intro x hx y hy;simp only[bw,nV,br] at hy;subst hy;exact λe=>hnot (e ▸ hx)
 ·intro j p hj;refine ba (dD (s:={ s with toks:=s.toks+knd.draws k }) ho hd ?_);rw[entry_at he j,hj];exact ba (lq (bd (h1 p (atKey_of_get hn hj))))
theorem V2(hd:(d==sysModules)=aq)(dflt:af):MeetsIn prog w (Builtin.«dict.setdefault» ⟨[.ref d,.ref a,dflt],[]⟩) (λA R s=>knd.room A.in1/\∃k xs,knd.is s.heap k a/\s.heap.DictOfH knd d xs/\xs.length<=Bb /\
   (∀p,atKey xs k=U p->R (.ok (.ret p.2)) { s with toks:=s.toks+knd.draws k }) /\
   (atKey xs k=ao->∀h',h'.DictOfH knd d (storedH xs k a dflt)->cF d s.heap h'->R (.ok (.ret dflt)) { s with heap:=h',toks:=s.toks+knd.draws k })):=
 .of_wp λA R s ⟨hu,k,xs,hkey,hm,hz,h1,h2⟩=>by
  unfold Builtin.«dict.setdefault»;refine ba ?_;unfold lU;refine ba (eV hm.typeIs ?_);show Bf _ _ (pure (d,bI a,U dflt)) _ _ s;refine bd ?_;show Bf _ _ (if (d==sysModules)=D then _ else (dictSetDefault d (.ref a) dflt >>= _)) _ _ s;rw[ap (by rw[hd];exact bK)];exact ba (WA hu hkey hm (λp hp=>bd ⟨_,Y,h1 p hp⟩) (λhn h' hm' hs'=>bd ⟨dflt,Y,h2 hn h' hm' hs'⟩) hz)
end
section
variable {X:Cx}{aa:List (L×Obj)}{σ:St}{H:Hp}{s:am}{a b:L}{ah:List (List aV×V)}{k:List aV}{A:ay}{E:af->am->Prop}
theorem zhx{Q:af->am->Prop}(hu:A.units+1<cLine)(I:aO X aa σ H s)(e:H a=U (.dT ah))(eb:H b=U (.tup (k.map kV)))(l:yc ah k=U v)
  (h:∀w' s',aO X aa σ (upd H a (.dT (yo ah k))) s'->aU v w'->Q w' s'):Bf (Bg X.prog X.w) A (call (.builtin "dict.pop") [.ref a,.ref b]) Q E s:=by
 obtain⟨z,hd,xs,rel,dd⟩:=QL I.hok e;have hz:xs.length<=Bb:=by rw[<-bL rel];exact z
 have rv:=rel.val k;rw[l] at rv;obtain⟨w',hw,rw'⟩:=sT.some_of rv;obtain⟨p,hp,rfl⟩:=bY.mp hw;refine iO dY dd.typeIs ik (mW _ _) (zbI (knd:=tupleKind (yB X.prog X.w))) ⟨dF hu,k,xs,p,kQ I.hok eb,dd,hz,hp,λh' dd' hs=>h _ _ ?_ rw'⟩;obtain⟨q,es,ep,hq,h2,h3,h4,_,h5⟩:=dd';refine ZL I (by rw[e];exact eu) hs ⟨q,hq⟩ ⟨bN (QK ah k) z,hd,_,(rel.dropT k).keeps λc ys ec=>?_,q,es,ep,hq,h2,h3,h4,h5⟩;rw[zk (zJ ec e ())];exact ec
theorem zdd{Q:af->am->Prop}(hu:A.units+1<cLine)(I:aO X aa σ H s)(e:H a=U (.dT ah))(eb:H b=U (.tup (k.map kV)))(rd:aU d r)(hl:ah.length<Bb)
  (h1:∀v w' s',yc ah k=U v->aO X aa σ H s'->aU v w'->Q w' s') (h2:∀s',yc ah k=ao->aO X aa σ (upd H a (.dT (yq ah k d))) s'->Q r s'):Bf (Bg X.prog X.w) A (call (.builtin "dict.setdefault") [.ref a,.ref b,r]) Q E s:=by
 obtain⟨z,hd,xs,rel,dd⟩:=QL I.hok e;have hz:xs.length<=Bb:=by rw[<-bL rel];exact z
 have rv:=rel.val k;refine iO lj dd.typeIs PySem.F.entry_dict_setdefault (PySem.F.args_dict_setdefault_3 _ _ _) (V2 (knd:=tupleKind (yB X.prog X.w)) hd r) ⟨dF hu,k,xs,kQ I.hok eb,dd,hz,λp hp=>?_,λhn h' dd' hs=>?_⟩
 ·rw[hp] at rv;cases hv:yc ah k with
  |none=>rw[hv] at rv;exact rv.elim
  |some v=>rw[hv] at rv;exact h1 v _ _ hv (I.tok _) rv
 ·rw[hn] at rv;have hv:yc ah k=ao:=by
   cases hv:yc ah k with
   |none=>rfl
   |some v=>rw[hv] at rv;exact rv.elim
  refine h2 _ hv ?_;obtain⟨q,es,ep,hq,g2,g3,g4,_,g5⟩:=dd';have hl2:(yq ah k d).length<=Bb:=by have:=xR ah k d;lia
  refine ZL I (by rw[e];exact eu) hs ⟨q,hq⟩ ⟨hl2,hd,_,(rel.put k eb rd).keeps λc ys ec=>?_,q,es,ep,hq,g2,g3,g4,g5⟩;rw[zk (zJ ec e ())];exact ec
end
def zeK(td ty:TE):TE:=λσ H Q=>td σ H λx H1=>∃a,x=.ref a/\IsD H1 a/\ty σ H1 λy H2=>∃ah k b v,H2 a=U (.dT ah)/\y=.ref b/\H2 b=U (.tup (k.map kV))/\yc ah k=U v/\Q v (upd H2 a (.dT (yo ah k)))
def zeL(td ty tx:TE):TE:=λσ H Q=>td σ H λx H1=>∃a,x=.ref a/\IsD H1 a/\ty σ H1 λy H2=>tx σ H2 λz H3=>∃ah k b,H3 a=U (.dT ah)/\y=.ref b/\H3 b=U (.tup (k.map kV))/\ah.length<Bb /\
 (∀v,yc ah k=U v->Q v H3)/\(yc ah k=ao->Q z (upd H3 a (.dT (yq ah k z))))
section
variable {X:Cx}{o e f:aB}{sk sC:Pos}{td ty tx:TE}
theorem zeM(hu:X.A.units+1<cLine)(ho:PE X o td)(he:PE X e ty)(m:M1 X o "pop" sk e sC):PE X (.Call (.Attribute o "pop" sk) [e] [] sC) (zeK td ty):=by
 intro aa s σ H Q I h;refine gp m.base m.few m.line dG dY iQ (dl (ho aa s σ H _ I h) ?_);rintro u s1 ⟨x,H1,I1,rx,a,ex,d,q1⟩;subst ex;obtain rfl:u=bI a:=rx;obtain⟨t1,t2,_⟩:=XL I1 d;refine⟨t1,t2,?_⟩;rw[m.trees];refine cX Y (dI (cO (dl (he aa s1 σ H1 _ I1 q1) λiv s2 ⟨y,H2,I2,ry,ah,k,b,v,ea,ey,eb,l,q2⟩=>eK ?_)));subst ey;cases (show iv=bI b from ry);exact zhx hu I2 ea eb l λw' s3 I3 rw'=>⟨v,_,I3,rw',q2⟩
theorem zeN(hu:X.A.units+1<cLine)(ho:PE X o td)(he:PE X e ty)(hf:PE X f tx)(m:M2 X o "setdefault" sk e f sC):PE X (.Call (.Attribute o "setdefault" sk) [e,f] [] sC) (zeL td ty tx):=by
 intro aa s σ H Q I h;refine gp m.base m.few m.line dG lj PySem.F.type_dict_setdefault (dl (ho aa s σ H _ I h) ?_);rintro u s1 ⟨x,H1,I1,rx,a,ex,d,q1⟩;subst ex;obtain rfl:u=bI a:=rx;obtain⟨t1,t2,_⟩:=XL I1 d;refine⟨t1,t2,?_⟩;rw[m.trees];refine cX Y (dI (cO (dl (he aa s1 σ H1 _ I1 q1) λiv s2 ⟨y,H2,I2,ry,q2⟩ =>
  cO (dl (hf aa s2 σ H2 _ I2 q2) λfv s3 ⟨z,H3,I3,rz,ah,k,b,ea,ey,eb,hl,q3,q4⟩=>eK ?_))))
 subst ey;cases (show iv=bI b from ry);exact zdd hu I3 ea eb rz hl (λv w' s4 hv I4 rw'=>⟨v,_,I4,rw',q3 v hv⟩) λs4 hn I4=>⟨z,_,I4,rz,q4 hn⟩
end
abbrev qW:RM:=λx vs H Q=>∃(l:L) (xs:List V) (k:Nat) (y:V),x=.ref l/\vs=[.int k,y]/\H l=U (.lst xs)/\k<=xs.length/\xs.length<1000000/\Q .non (upd H l (.lst (xs.take k++y::xs.drop k)))
abbrev qX:RM:=λx vs H Q=>∃(l:L) (ns:List Int) (i:Int),x=.ref l/\vs=[.int i]/\H l=U (.lst (ns.map V.int))/\i∈ns/\Q .non (upd H l (.lst ((ns.erase i).map V.int)))
theorem aR.takeV:∀(k:Nat) {xs:List V} {us:List af},aR xs us->aR (xs.take k) (us.take k)
 |0,_,_,_=>by rw[List.take_zero,List.take_zero];exact .nil
 |_+1,_,_,.nil=>.nil
 |k+1,_,_,.cons h r=>.cons h (aR.takeV k r)
theorem aR.dropV:∀(k:Nat) {xs:List V} {us:List af},aR xs us->aR (xs.drop k) (us.drop k)
 |0,_,_,h=>h
 |_+1,_,_,.nil=>.nil
 |k+1,_,_,.cons _ r=>aR.dropV k r
section
variable {X:Cx}
theorem J1:MtM X "list.insert" qW:=by
 intro aa s σ H x vs v us Q I rx rv h;obtain⟨l,xs,k,y,rfl,rfl,hH,hk,hz,q⟩:=h;cases rx;cases rv with
 |cons r1 rr =>
  obtain⟨u,rfl,ru⟩:=(show aR [y] _ from rr).one;obtain⟨t,rfl⟩:=r1;obtain⟨z,its,n,r,hl,e⟩:=I.lstM hH;have h1:(1000000:Nat)<Bb:=by rw[bG];decide
  obtain⟨i,hi⟩:∃i:Int,i=k:=⟨_,Y⟩;rw[<-hi];have hc:¬ (!Builtin.List.listFitsIndex i)=D:=by rw[fitsIndex_both () ()];exact bK
  have hs:its.toArray.size<=Bb:=by rw[bH];lia
  have M:=AutoSeq1.list_insert_list_int_val_1 l its.toArray n i t u hc hs;refine iC F.slot_list_insert ⟨_,e,Y⟩ F.entry_list_insert (F.args_list_insert_3 _ _ _) M ⟨e,?_⟩;refine⟨.non,_,I.lset (its':=its.take k++u::its.drop k) hH e ?_ ((r.takeV k).append (.cons ru (r.dropV k))) ?_,Y,q⟩
  ·have hk2:k<=its.length:=by lia
   subst hi;have hn:¬ ((k:Int)<0):=by lia
   simp[dZ hk2,hn];rw[cB (by rw[cG];lia)]
  ·rw[bF,bU,cx,cG];lia
theorem zcn:∀ {ns:List Int} {its:List af},aR (ns.map V.int) its->∀(m:Nat) (v:af),its[m]?=U v->∃i t,ns[m]?=U i/\v=.int i t
 |[],_,.nil,m,v,h=>by simp at h
 |i::ns,_,.cons h r,0,v,e=>by
  simp only[eG,fu] at e;subst e;obtain⟨t,rfl⟩:=h;exact⟨i,t,Y,Y⟩
 |i::ns,_,.cons h r,m+1,v,e=>by simpa using zcn r m v (by simpa using e)
def isI(k:Int):af->Bool
 |.int a _=>a==k
 |_=>aq
theorem J2:MtM X "list.remove" qX:=by
 intro aa s σ H x vs v us Q I rx rv h;obtain⟨l,ns,i,rfl,rfl,hH,hi,q⟩:=h;cases rx;obtain⟨u,rfl,ru⟩:=rv.one;obtain⟨t,rfl⟩:=ru;obtain⟨z,its,n,r,hl,e⟩:=I.lstM hH;rw[bf] at hl z;have hj:ns.idxOf i<ns.length:=List.idxOf_lt_length_iff.mpr hi;have gt:∀m (hm:m<its.toArray.size),∃(h2:m<ns.length) (t':Tok),its.toArray[m]=.int ns[m] t':=λm hm=>by
  rw[bH] at hm;obtain⟨i',t',h1,h2⟩:=zcn r m its[m] (bb hm);have h3:m<ns.length:=by lia
  rw[bb h3] at h1;refine⟨h3,t',?_⟩;rw[bJ h1,<-h2];simp
 refine iC F.slot_list_remove ⟨_,e,Y⟩ F.entry_list_remove (F.args_list_remove_2 _ _)
  (MeetsSeq.list_remove l its.toArray n (.int i t) (isI i) (λy hy=>?_) (ns.idxOf i) (by rw[bH];lia) ?_ (λm hm hlt=>?_) (by rw[bH];lia)) ⟨e,?_⟩
 ·obtain⟨m,hm,rfl⟩:=Array.mem_iff_getElem.mp hy;obtain⟨h2,t',e2⟩:=gt m hm;rw[e2];exact MeetsSeq.EqGives.int _ _ _ _
 ·obtain⟨h2,t',e2⟩:=gt (ns.idxOf i) (by rw[bH];lia);rw[e2];show (ns[ns.idxOf i]==i)=D;rw[List.getElem_idxOf hj];exact beq_self_eq_true i
 ·obtain⟨h2,t',e2⟩:=gt m hm;rw[e2];show (ns[m]==i)=aq;exact List.not_of_lt_findIdx (p:=λy=>y==i) (xs:=ns) (i:=m) hlt
 ·have ee:ns.erase i=ns.eraseIdx (ns.idxOf i):=List.erase_eq_eraseIdx_of_idxOf rfl;rw[ee] at q;refine⟨.non,_,I.lset (its':=its.eraseIdx (ns.idxOf i)) hH e ?_ (by rw[<-XS];exact r.eraseIdx _) ?_,Y,q⟩
  ·show its.toArray.eraseIdxIfInBounds _=_;rw[iD]
  ·rw[bf];have:=JH ns (ns.idxOf i);lia
end
def zde(H:Hp)(y:V)(kv:List aV×V):Prop:=∃p,y=.ref p/\H p=U (.tup (kv.1.map kV))
abbrev zgW:RC:=λvs H Q=>∃a ah,vs=[.ref a]/\H a=U (.dT ah)/\∀l ys,H l=ao->Paired (zde H) ys ah->Q (.ref l) (upd H l (.lst ys))
section
variable {X:Cx}
theorem Wh{H:Hp}{es:Array DictEntry}:∀(ah:List (List aV×V)) (vs:List af) (j:Nat),vs.length=ah.length->(∀i v,vs[i]?=U v->∃e,es[j+i]?=U e/\v=e.key) ->
  (∀(i:Nat) (en:DictEntry) (kv:List aV×V),es[j+i]?=U en->ah[i]?=U kv->∃p,en.key=.ref p/\H p=U (.tup (kv.1.map kV)))->∃ys,aR ys vs/\Paired (zde H) ys ah
 |[],[],_,_,_,_=>⟨[],.nil,.nil⟩
 |[],v::vs,_,hl,_,_=>by simp at hl
 |kv::ah,[],_,hl,_,_=>by simp at hl
 |kv::ah,v::vs,j,hl,h1,h2=>by
  obtain⟨e,he,rfl⟩:=h1 0 v rfl;obtain⟨p,hp,hH⟩:=h2 0 e kv he rfl;obtain⟨ys,r1,r2⟩:=Wh (es:=es) ah vs (j+1) (by simpa using hl) (λi u hu=>by rw[pG,Nat.add_comm 1 i];exact h1 (i+1) u (by simpa using hu)) (λi en kv' he' hk=>h2 (i+1) en kv' (by rw[<-pG,Nat.add_right_comm];exact he') (by simpa using hk));exact⟨.ref p::ys,.cons hp r1,.cons ⟨p,Y,hH⟩ r2⟩
theorem Vl(hc:X.calm=D):jZ X (.type "list") zgW:=by
 intro aa s σ H vs us Q I r0 h;obtain⟨a,ah,rfl,ha,q⟩:=h;obtain⟨u,rfl,ru⟩:=jt r0;cases ru;have hh:X.A.handled=ao:=I.ok.hd hc;obtain⟨z,lo,_⟩:=QL I.hok ha;obtain⟨es,ep,rd,hes,hen⟩:=zew I ha;refine W.kdl_call (KM (ep:=ep) (es:=es) lo) hh rd (by rw[hes];exact z) λh' tk acc c hk hD hi=>?_;obtain⟨ys,r1,r2⟩:=Wh (H:=H) (es:=es) ah acc.toList 0 (by rw[cu,hi.1,hes]) (λi v hv=>by
   rw[ro];obtain⟨e,h1,h2⟩:=hi.2 i v (by rw[<-c8];exact hv);exact⟨e,h1,h2⟩) (λi en kv he hk=>by
   rw[ro] at he;obtain⟨p,g1,g2,_⟩:=hen i en kv he hk;exact⟨p,g1,g2⟩)
 have I2:aO X aa σ (upd H s.heap.objs.size (.lst ys)) { s with heap:=h',toks:=tk }:=I.laid (a:=s.heap.objs.size) (o:=.lst ys) (t':=tk) hk (bp _)
  ⟨by have:=bL r2;lia,acc.toList,c,r1,by rw[Array.toArray_toList];exact hD⟩
 exact⟨.ref s.heap.objs.size,_,I2,Y,q _ ys (I.hok.fresh (bp _)) r2⟩
end
structure FunD(K:bu)(x qual:Str)(st:aA)(f:L)(fd:Bc):Prop where
 ex:∃(oc:af) (od:Option L) (dV kV doc pm:af) (an:Option L) (cdv ct:af) (osl:Array (Option af)),fd=iN x qual (xa st) (yC st) (zi st) dV kV doc pm an cdv ct/\K.lookup f=U ⟨oc,od,.func fd,osl⟩/\gU K cdv qual=D
 kp:dQ K (.ref f)=D
section
variable {P:av}{w:ax}{K:bu}{mg:Str->Option af}{base:aw}{x qual:Str}{st:aA}{f:L}{fd:Bc}{N ps:List Str}{k:Nat}{sp:Sp}
theorem FunD.ok1(F:FunD K x qual st f fd)(S:aN N ps (zi st))(len:∀vs H Q E,sp vs H Q E->vs.length=ps.length)
  (hbody:∀(cdv:af) (A:ay) (outer:List Env) (s:am) (H:Hp) (vs:List V) (Q:VK) (E:XK),sy k (A.deeper (envOfC qual (zi st) s.heap.objs.size f cdv))->sp vs H Q E->∃t,PSs (qH (tK P w) P w K mg base N qual (zi st) f cdv A outer s H E) (yC st) t/\t { nx:=λ_ H'=>Q .non H',rt:=Q } (start N vs) H):sq P w K mg base (tK P w) (k+1) f fd ps sp:=by
 obtain⟨oc,od,dV,kV,doc,pm,an,cdv,ct,osl,rfl,lk,hcd⟩:=F.ex;exact zgM lk hcd S len λA outer s H vs Q E hr hsp=>hbody cdv A outer s H vs Q E hr hsp
theorem FunD.ok0(F:FunD K x qual st f fd)(S:aN N ps (zi st))(len:∀vs H Q E,sp vs H Q E->vs.length=ps.length)
  (hbody:∀(cdv:af) (A:ay) (outer:List Env) (s:am) (H:Hp) (vs:List V) (Q:VK) (E:XK),sy k (A.deeper (envOfC qual (zi st) s.heap.objs.size f cdv))->sp vs H Q E->∃t,PSs (qH (tK P w) P w K mg base N qual (zi st) f cdv A outer s H E).nox (yC st) t/\t { nx:=λ_ H'=>Q .non H',rt:=Q } (start N vs) H):sq P w K mg base (tK P w) (k+1) f fd ps sp :=
 F.ok1 S len λcdv A outer s H vs Q E hr h=>let ⟨t,a,b⟩:=hbody cdv A outer s H vs Q E hr h;⟨t,a.nox,b⟩
theorem zco{od an:Option L}{osl:Array (Option af)}{dV kV doc pm cdv ct:af}(l:K.lookup f=U ⟨oc,od,.func (iN x qual (xa st) (yC st) (zi st) dV kV doc pm an cdv ct),osl⟩)
  (c:gU K cdv qual=D) (k:dQ K (.ref f)=D):FunD K x qual st f (iN x qual (xa st) (yC st) (zi st) dV kV doc pm an cdv ct):=⟨⟨oc,od,dV,kV,doc,pm,an,cdv,ct,osl,Y,l,c⟩,k⟩
end
section
variable {X:Cx}{o value:aB}{f:Str}{pos pos':Pos}{ta:TE}{tx:EXK->TE}
def zgX(K:bu)(ta:TE)(tx:EXK->TE)(f:Str)(EX:EXK):TS:=xY K ta (tx EX) f
theorem zf9(ha:PE X.nox o ta)(hv:PEX X value tx)(hs:swapsWith value (U (.Attribute o f pos')) pos.line X.env=pure aq):PSX X (.Assign [.Attribute o f pos'] value pos) (zgX X.K ta tx f):=by
 intro aa s σ H Bq EX I h;refine iA (dl (hv aa s σ H _ EX I h) λu s1 ⟨y,H1,I1,ry,q⟩=>dC (ha aa s1 σ H1 _ (I1.wish _) q) (?_) λ_ _ z=>cS z) hs;rintro ov s2 ⟨x,H2,I2',rx,a,C,dx,fs,ex,ea,c,n,l,q2⟩;subst ex;obtain rfl:ov=bI a:=rx;exact WY I2'.unwish ea c n l ry λs3 I3=>⟨σ,_,I3,q2⟩
end
def zgY(K:bu)(tb:EXK->TS)(C1 C2:L)(th:TS):TS:=λBq σ H=>tb (λcls σ1 H1=>∃C,cls=.ref C/\rL K (.ref C) [.ref C1,.ref C2]=U D/\th Bq σ1 H1) Bq σ H
theorem zeO(x:Heap.FlyingW base l e cls a0 h)(o:Obj):Heap.FlyingW base l e cls a0 (h.push o):=by
 obtain⟨f1,f2,f3,oe,vs,T,oT,ts,a1,a2,a3,a4,a5,a6,a7,a8,a9⟩:=x;exact⟨λb u q=>bc _ (f1 b u q),f2,f3.of_keeps (λb u q _=>⟨u,bc _ q,Y⟩),oe,vs,T,oT,ts,bc _ a1,a2,a3,a4,a5,a6,bc _ a7,a8,a9⟩
section
variable {X:Cx}{st b₀:aA}{suite:List aA}{tb:EXK->TS}{th:TS}{c1 c2:Str}{C1 C2:L}{np np2 hpos tpos pos:Pos}{x1:Nat}
theorem zga(hst:X.stack=X.env::X.outer/\X.env.frame=U X.env.locals)(hex:X.ex=[])(hb:PSX X st tb)(hg1:Gl X c1)(hm1:X.mg c1=U (.ref C1))(hg2:Gl X c2)(hm2:X.mg c2=U (.ref C2))
  (hs:∀e,PSs (X.sub e) (b₀::suite) th) (hdb1:(c1==("__debug__":Str))=aq:=by lia) (hdb2:(c2==("__debug__":Str))=aq:=by lia) :
  PS X (.Try [st] [.ExceptHandler (U (.Tuple [.Name c1 np,.Name c2 np2] x1 tpos)) ao (b₀::suite) hpos] [] [] pos) (zgY X.K tb C1 C2 th):=by
 intro aa s σ H Bq I h;refine wpAny_Try_except (iY (dC (hb aa s σ H Bq _ I h) (λf s1 q=>?_) λev s1 q=>?_))
 ·cases f with
  |next=>exact eL (eL q)
  |ret v=>exact q
  |brk=>exact q
  |cont=>exact q
 obtain⟨e,cls,σ1,s0,H0,H1,rfl,I0,I1,xf,C,rfl,hx,hth⟩:=q;obtain⟨oe,vs,a0,T,oT,ts,h1,h2,h3,h4,h5,h6,h7,h8,h9,h10,h11,h12⟩:=xf;have fr:s1.heap.FunFrames (gF s1.heap (sX X.stack++[e,T])) (X.env::X.outer):=by
  have q:=i0 (as:=sX X.stack++[e,T]) I1.stack λenv he a ha=>cy _ (fP.mpr ⟨env,he,ha⟩);rw[hst.1] at q ⊢;exact q
 have two:∀b∈[e,T],s0.heap.get? b=ao/\H1 b=ao:=λb z=>by
  have z':b=e\/b=T:=by simpa using z
  rcases z' with rfl|rfl
  ·exact⟨h9,h11⟩
  ·exact⟨h10,h12⟩
 have hcs:∀b∈[e,T],H1 b=ao/\X.s₀.heap.get? b=ao:=λb z=>⟨(two b z).2,kj (I0.there0 hex) (two b z).1⟩;have hcp:∀b∈[e,T],∀p∈X.pn++aa,p.1≠b:=λb z p hp q=>by
  have:=(I0.pin p hp).1;rw[q,(two b z).1] at this;cases this
 refine wpAny_looks_onW (base:=gF s1.heap (sX X.stack++[e,T])) (a0:=a0) (cls:=.ref C) (by rw[I1.ok.frames,hst.1]) hst.2
  ⟨λb o q=>lV _ q,fO _ (bP _ (by simp)),fr,oe,vs,T,oT,ts,h1,h2,h3,h4,fO _ (bP _ (by simp)),h5,h6,h7,h8⟩ λg4 held4 sm4=>?_
 refine wpAny_landsW held4 λg5 fly5 sm5=>?_;have hB:∀ {g:aw},(gF s1.heap (sX X.stack++[e,T])).StaysIn g->∀b o,s1.heap.get? b=U o->b ∉ sX X.stack->b ∉ [e,T]->g.get? b=U o :=
  λ{g} k b o q n1 n2=>k b o (i9 _ q λz=>(bB.mp z).elim n1 n2)
 have I5:aO X aa σ1 H1 { s1 with heap:=g5 }:=I1.land hex hcs hcp (hB fly5.1) (sm4.trans sm5);refine lM (iT ?_) (by intro q;cases q);refine wpAny_Tuple_spliced (cO (vG (X:=X.sub e) (I5.toSub (e:=e)) hg1 hm1 (cO (vG (X:=X.sub e) (I5.toSub (e:=e)) hg2 hm2 (eK ⟨(by show 2<=Bb;decide),?_⟩) hdb2)) hdb1));have fly6:=zeO fly5 { cls:=.type "tuple",data:=.seq [bI C1,bI C2].toArray };have kp:∀b o,g5.get? b=U o->(g5.push { cls:=.type "tuple",data:=.seq [bI C1,bI C2].toArray }).get? b=U o:=λb o q=>bc _ q;have hp:(g5.push { cls:=.type "tuple",data:=.seq [bI C1,bI C2].toArray }).get? g5.objs.size=U { cls:=.type "tuple",data:=.seq [bI C1,bI C2].toArray }:=bE _ rfl;have K6:X.K.In (g5.push { cls:=.type "tuple",data:=.seq [bI C1,bI C2].toArray }):=(I5.kept (t':=s1.toks) kp).kIn;have ty6:r9 (Bg X.prog X.w) (g5.push { cls:=.type "tuple",data:=.seq [bI C1,bI C2].toArray }) (typeOf (.ref e)) (.ref C):=by
  obtain⟨o,p1,p2⟩:=fly6.there;exact p2 ▸ (pR p1).andThen .now
 refine(W.exm_tup2 K6 ty6 hp hx).here ?_;refine nK (lands_againW fly6 λg7 fly7 sm7=>?_);have I7:aO X aa σ1 H1 { s1 with heap:=g7 }:=I1.land hex hcs hcp (hB fly7.1) (((sm4.trans sm5).trans (Heap.UpToSlots.of_keeps kp)).trans sm7);refine dC (hs e aa _ σ1 H1 Bq I7.toSub hth) (λf s9 q=>?_) λ_ _ z=>cS z;cases f with
 |next=>obtain⟨σ9,H9,J,z⟩:=q;exact⟨σ9,H9,aO.ofSub (J:=I) J,z⟩
 |brk=>obtain⟨σ9,H9,J,z⟩:=q;exact⟨σ9,H9,aO.ofSub (J:=I) J,z⟩
 |cont=>obtain⟨σ9,H9,J,z⟩:=q;exact⟨σ9,H9,aO.ofSub (J:=I) J,z⟩
 |ret u=>obtain⟨v,σ9,H9,J,r,z⟩:=q;exact⟨v,σ9,H9,aO.ofSub (J:=I) J,r,z⟩
end
section
variable {X:Cx}{CX:CXT}{k:Nat}{f C:L}{fd:Bc}{ps:List Str}{sp:Sp}{dvs:List V}{E:XK}{m:Str}{pos sk:Pos}{o:aB}{ta:TE}
theorem J3{pl:Sem Bool}(he:PE X o ta)(c:tq X.K C)(hm:Ks X.K C m f)(F:sq X.prog X.w X.K X.mg X.base CX k f fd ps sp)(hr:sy k X.A)(hb:∃ds,aR dvs ds/\sD X.K fd ps ds)(hx:x6 CX X E)
  (ht:eval (.Call (.Attribute o m sk) [] [] pos) X.env=(do
   let ov <-eval o X.env
   standAt sk.atName
   let (f,first) <-holding [ov] (getMethod ov m pl)
   callWith pos f first (backTo pos (Be [] X.env)) (backToKw pos (keywordEach [] X.env))):=by rfl) :
  PE X (.Call (.Attribute o m sk) [] [] pos) (zW C m sp dvs E ta zj):=by
 obtain⟨ds,hd,hb⟩:=hb;exact QC he c hm F hr hb hd hx ht
end
structure MkO(K:bu)(C:L):Prop where
 makes:gT K C=D
 init:b7 K (.ref C) "__init__"=U (U (.builtin "object.__init__"))
 kp:dQ K (.ref C)=D
def zbJ(C:L):TE:=λ_ H Q=>∀x dx,H x=ao->H dx=ao->dx≠x->Q (.ref x) (upd (upd H dx (.own x)) x (.ins C dx []))
section
variable {X:Cx}{C:L}{x:Str}{p pos:Pos}
theorem zdf{σ:St}{H:Hp}{s:am}{Q:VK}(M:MkO X.K C)(I:aO X aa σ H s)(h:∀x dx,H x=ao->H dx=ao->dx≠x->Q (.ref x) (upd (upd H dx (.own x)) x (.ins C dx []))) :
  Bf (Bg X.prog X.w) X.A (call (.ref C) []) (EP X aa σ Q) X.xe s:=by
 have hq:=h (s.heap.objs.size+1) s.heap.objs.size (I.hok.fresh (rP _)) (I.hok.fresh (bp _)) (bX (nA _));have I2:=aO.made (C:=C) I;refine pL (zcS I.kIn M.makes M.init (λself=>W.Looks.of_pure (W.oi_bind self)) ?_);have Bl:=W.makes_of (M:=Bg X.prog X.w) I.kIn M.makes;have g1:r9 (Bg X.prog X.w) ((s.heap.push dN).push (fK C s.heap.objs.size)) (typeOf (.ref (s.heap.objs.size+1))) (.ref C):=by
  have:=bE (s.heap.push dN) (o:=fK C s.heap.objs.size) rfl;rw[eI] at this;exact(pR this).andThen .now
 have g2:r9 (Bg X.prog X.w) ((s.heap.push dN).push (fK C s.heap.objs.size)) (isInstance (.ref (s.heap.objs.size+1)) (.type "object")) D:=g1.andThen (Bl.top.keeps λb o e=>bc (fK C s.heap.objs.size) (bc dN e));refine codeAny_call_builtin W.oi_plain W.entry_oi (W.check_slot (rest:=[]) (kw:=[]) W.oi_kind W.oi_split g2 (W.oi_args _) ?_);rw[W.oi_run];exact bd ⟨Y,V.ref (s.heap.objs.size+1),_,I2,Y,hq⟩
theorem zar(M:MkO X.K C)(hg:Gl X x)(hm:X.mg x=U (.ref C))(hdb:(x==("__debug__":Str))=aq:=by lia):PE X (.Call (.Name x p) [] [] pos) (zbJ C):=by
 intro aa s σ H Q I h;refine eT (vG I hg hm ?_ hdb);exact W.callWith_K0 I.kIn M.kp (zdf M I h)
end
def zeP(Bp:List (L×Sp))(m:Str)(E:XK)(ta:TE)(t:TA):TE:=λσ H Q=>ta σ H λx H1=>∃a dx fs C sp,x=.ref a/\H1 a=U (.ins C dx fs)/\fs.lookup m=ao/\(C,sp)∈Bp/\t σ H1 λvs H2=>sp (x::vs) H2 Q E
structure MOk(X:Cx)(CX:CXT)(m:Str)(C:L)(sp:Sp):Prop where
 cl:tq X.K C
 fn:∃k f fd ps,Ks X.K C m f/\sq X.prog X.w X.K X.mg X.base CX k f fd ps sp/\sy k X.A/\sD X.K fd ps []
section
variable {X:Cx}{CX:CXT}{E:XK}{m:Str}{pos sk:Pos}{e o:aB}{es:List aB}{ta:TE}{t:TA}{Bp:List (L×Sp)}{C:L}{sp:Sp}
theorem zgZ(c:tq X.K C)(hm:Ks X.K C m f)(F:sq X.prog X.w X.K X.mg X.base CX k f fd ps sp)(hr:sy k X.A)(hb:sD X.K fd ps []):MOk X CX m C sp:=⟨c,k,f,fd,ps,hm,F,hr,hb⟩
theorem zhy:∀z∈([]:List (L×Sp)),MOk X CX m z.1 z.2:=λz h=>nomatch h
theorem zcp(h:MOk X CX m C sp)(r:∀z∈Bp,MOk X CX m z.1 z.2):∀z∈(C,sp)::Bp,MOk X CX m z.1 z.2:=λz hz=>by
 rcases bD.mp hz with rfl|hz
 ·exact h
 ·exact r z hz
theorem zeQ{pl:Sem Bool}(he:PE X o ta)(hL:∀z∈Bp,MOk X CX m z.1 z.2)(hx:x6 CX X E)(ha:PA X (e::es) t)
  (hst:Be (e::es) X.env=(aq,eval e X.env)::Be es X.env:=by rfl) (hpl:(backTo pos (Be es X.env)).any (·.1)=aq:=by rfl)
  (ht:eval (.Call (.Attribute o m sk) (e::es) [] pos) X.env=(do
   let ov <-eval o X.env
   standAt sk.atName
   let (f,first) <-holding [ov] (getMethod ov m pl)
   callWith pos f first (backTo pos (Be (e::es) X.env)) (backToKw pos (keywordEach [] X.env))):=by rfl) :
  PE X (.Call (.Attribute o m sk) (e::es) [] pos) (zeP Bp m E ta t):=by
 intro aa s σ H Q I h;refine lH (pl:=pl) (dl (he aa s σ H _ I h) ?_) ht;rintro u s1 ⟨x,H1,I1,rx,a,dx,fs,C,sp,ex,ea,l,hz,q⟩;subst ex;obtain rfl:u=bI a:=rx;obtain⟨c,k,f,fd,ps,hm,F,hr,hb⟩:=hL _ hz;refine kO I1 ea c hm l ?_;refine lX (first:=[.ref a]) (h₀:=X.base) I.ok.mod.kin hm.kp (dl (ha pos aa s1 σ H1 _ I1 q) λus s2 ⟨vs,H2,I2,r,q2⟩=>⟨I2.kIn,?_⟩) hst hpl;exact Kt (us:=.ref a::us) (vs:=.ref a::vs) (dvs:=[]) F hr hb .nil hx I2 (.cons Y r) (by rw[lG];exact q2)
end
section
variable {X:Cx}{CX:CXT}{k:Nat}{f C:L}{fd:Bc}{ps:List Str}{sp:Sp}{dvs:List V}{E:XK}{x:Str}{p pos:Pos}{e:aB}{es:List aB}{t:TA}
theorem zeR(M:Mk X.K C f)(F:sq X.prog X.w X.K X.mg X.base CX k f fd ps sp)(hr:sy (k+1) X.A)(hg:Gl X x)(hm:X.mg x=U (.ref C))(hb:∃ds,aR dvs ds/\sD X.K fd ps ds)(hx:x6 CX X E)
  (ha:PA X (e::es) t) (hdb:(x==("__debug__":Str))=aq:=by lia) (he:Be (e::es) X.env=(aq,eval e X.env)::Be es X.env:=by rfl) (hpl:(backTo pos (Be es X.env)).any (·.1)=aq:=by rfl) :
  PE X (.Call (.Name x p) (e::es) [] pos) (Wd C sp dvs E t):=by
 obtain⟨ds,hd,hb⟩:=hb;exact ZJ M F hr hg hm hb hd hx ha hdb he hpl
end
end L2
namespace HT
open PySem PySem.Spec PyProof.Rows
end HT
namespace L2
open PySem PySem.Spec PyProof.Rows
end L2
namespace L2
open PySem
end L2
namespace L2
open PySem PySem.Spec PyProof.Rows
end L2
namespace L2
open PySem PySem.Spec PySem.W PyProof.Rows
end L2
namespace L2
open PySem PySem.Spec PySem.W PyProof.Rows PySem.Calls
end L2
namespace L2
open PySem PySem.Spec PyProof.Rows
structure FG(K:bu)(mg:Str->Option af)(x:Str)(st:aA)(ps:List Str)(a:L)(d:Bc):Prop where
 f:Fun K x x st a d
 b:sD K d ps []
 m:mg x=U (.ref a)
structure FM(K:bu)(C:L)(x qual:Str)(st:aA)(ps:List Str)(a:L)(d:Bc):Prop where
 f:Fun K x qual st a d
 b:sD K d ps []
 me:Ks K C x a
abbrev QF(K:bu)(x qual:Str)(st:aA)(a:L):Prop:=∃oc od sl kV dc pm an cd ct,K.lookup a=U ⟨oc,od,.func (iN x qual (xa st) (yC st) (zi st) .none kV dc pm an cd ct),sl⟩/\gU K cd qual=D/\dQ K (.ref a)=D
abbrev QG(K:bu)(x:Str)(st:aA):Prop:=∃a,gJ K Bd x=U (U (.ref a))/\QF K x x st a
abbrev QM(K:bu)(C:L)(x qual:Str)(st:aA):Prop:=∃a,b7 K (.ref C) x=U (U (.ref a))/\pV K (.ref a)=D/\QF K x qual st a
section
variable {K:bu}{h:aw}{mg:Str->Option af}{x qual:Str}{st:aA}{a C:L}{ps:List Str}
theorem QF.to(q:QF K x qual st a)(hb:∀(kV doc pm:af) (an:Option L) (cdv ct:af) (us:List af),us.length=ps.length->bindArgs (iN x qual (xa st) (yC st) (zi st) .none kV doc pm an cdv ct) ⟨us,[]⟩=pure (ps.zip us)):∃d,Fun K x qual st a d/\sD K d ps []/\dQ K (.ref a)=D:=by
 obtain⟨oc,od,sl,kV,dc,pm,an,cd,ct,h1,h2,h3⟩:=q;have F:=W3 (st:=st) h1 h2 h3;exact⟨_,F,F.binds hb,h3⟩
abbrev bA(x qual:Str)(st:aA)(us:List af)(bs:List (Str×af)):Prop:=∀(kV doc pm:af) (an:Option L) (cdv ct:af),bindArgs (iN x qual (xa st) (yC st) (zi st) .none kV doc pm an cdv ct) ⟨us,[]⟩=pure bs
theorem QG.to(X:K.In h)(G:h.Ns Bd mg)(q:QG K x st)(hb:∀us:List af,us.length=ps.length->bA x x st us (ps.zip us)):∃a d,FG K mg x st ps a d:=by
 obtain⟨a,n,q⟩:=q;obtain⟨d,F,Bo,_⟩:=QF.to q λ_ _ _ _ _ _ us hl=>hb us hl _ _ _ _ _ _;exact⟨a,d,F,Bo,mx X G n⟩
theorem QM.to(q:QM K C x qual st)(hb:∀us:List af,us.length=ps.length->bA x qual st us (ps.zip us)):∃a d,FM K C x qual st ps a d:=by
 obtain⟨a,n,i,q⟩:=q;obtain⟨d,F,Bo,k⟩:=QF.to q λ_ _ _ _ _ _ us hl=>hb us hl _ _ _ _ _ _;exact⟨a,d,F,Bo,n,i,k⟩
theorem arS{P:List af->Prop}(h:∀a us,us.length=n->P (a::us)):∀us,us.length=n+1->P us:=λus e=>by
 cases us with
 |nil=>cases e
 |cons a us=>exact h a us (Nat.succ.inj e)
theorem ar0{P:List af->Prop}(h:P []):∀us,us.length=0->P us:=λus e=>by
 cases us with
 |nil=>exact h
 |cons=>cases e
theorem ar1{P:List af->Prop}(h:∀a,P [a]):∀us,us.length=1->P us:=arS λa=>ar0 (P:=λus=>P (a::us)) (h a)
theorem ar2{P:List af->Prop}(h:∀a b,P [a,b]):∀us,us.length=2->P us:=arS λa=>ar1 (P:=λus=>P (a::us)) (h a)
theorem ar3{P:List af->Prop}(h:∀a b c,P [a,b,c]):∀us,us.length=3->P us:=arS λa=>ar2 (P:=λus=>P (a::us)) (h a)
theorem ar4{P:List af->Prop}(h:∀a b c d,P [a,b,c,d]):∀us,us.length=4->P us:=arS λa=>ar3 (P:=λus=>P (a::us)) (h a)
theorem ar5{P:List af->Prop}(h:∀a b c d e,P [a,b,c,d,e]):∀us,us.length=5->P us:=arS λa=>ar4 (P:=λus=>P (a::us)) (h a)
variable (X:K.In h)(G:h.Ns Bd mg)(u v w y z:Str)
include X G in
theorem QG.a1(q:QG K x st)(hb:∀a,bA x x st [a] [(u,a)]:=by exact λ_ _ _ _ _ _ _=>rfl):∃a d,FG K mg x st [u] a d:=QG.to X G q (ar1 hb)
include X G in
theorem QG.a2(q:QG K x st)(hb:∀a b,bA x x st [a,b] [(u,a),(v,b)]:=by exact λ_ _ _ _ _ _ _ _=>rfl):∃a d,FG K mg x st [u,v] a d:=QG.to X G q (ar2 hb)
include X G in
theorem QG.a3(q:QG K x st)(hb:∀a b c,bA x x st [a,b,c] [(u,a),(v,b),(w,c)]:=by exact λ_ _ _ _ _ _ _ _ _=>rfl):∃a d,FG K mg x st [u,v,w] a d:=QG.to X G q (ar3 hb)
include X G in
theorem QG.a4(q:QG K x st)(hb:∀a b c d,bA x x st [a,b,c,d] [(u,a),(v,b),(w,c),(y,d)]:=by exact λ_ _ _ _ _ _ _ _ _ _=>rfl):∃a d,FG K mg x st [u,v,w,y] a d:=QG.to X G q (ar4 hb)
theorem QM.a1(q:QM K C x qual st)(hb:∀a,bA x qual st [a] [(u,a)]:=by exact λ_ _ _ _ _ _ _=>rfl):∃a d,FM K C x qual st [u] a d:=QM.to q (ar1 hb)
theorem QM.a2(q:QM K C x qual st)(hb:∀a b,bA x qual st [a,b] [(u,a),(v,b)]:=by exact λ_ _ _ _ _ _ _ _=>rfl):∃a d,FM K C x qual st [u,v] a d:=QM.to q (ar2 hb)
theorem QM.a3(q:QM K C x qual st)(hb:∀a b c,bA x qual st [a,b,c] [(u,a),(v,b),(w,c)]:=by exact λ_ _ _ _ _ _ _ _ _=>rfl):∃a d,FM K C x qual st [u,v,w] a d:=QM.to q (ar3 hb)
end
abbrev QX(K:bu)(a:L):Prop:=∃cl,b7 K (.ref a) "__getattribute__"=U (U (.builtin "BaseException.__getattribute__"))/\b7 K (.ref a) "__getattr__"=U ao/\b7 K (.ref a) "__class__"=U (U (.builtin "object.__class__"))/\sd K a (.type "object")=U D/\sd K a (.type "BaseException")=U D/\rO K (.builtin "object.__class__") "__get__"=U (U (.builtin "getset_descriptor.__get__"))/\W.takesIn K (.builtin "object.__class__")=U D/\W.clsIn K a=U cl
theorem QX.to{K:bu}(q:QX K a):ExK K a:=by
 obtain⟨cl,h1,h2,h3,h4,h5,h6,h7,h8⟩:=q;exact⟨⟨h1,h2,h3,h4,h5,h6,h7⟩,by rw[h8];rfl⟩
section
variable {X:Cx}{CX:CXT}{j k:Nat}{a C:L}{d:Bc}{ps:List Str}{sp:Sp}{x m qual:Str}{st:aA}{p pos sk:Pos}{o e:aB}{es:List aB}{ta:TE}{t:TA}{E:XK}
theorem sM(F:sq X.prog X.w X.K X.mg X.base CX j a d ps sp)(G:FG X.K X.mg x st ps a d)(hr:sy k X.A)(hx:x6 CX X E)(ha:PA X (e::es) t)(hj:j<=k:=by lia)(hg:Gl X x:=by exact rfl)(hdb:(x==("__debug__":Str))=aq:=by lia)(he:Be (e::es) X.env=(aq,eval e X.env)::Be es X.env:=by rfl)(hpl:(backTo pos (Be es X.env)).any (·.1)=aq:=by rfl) :
  PE X (.Call (.Name x p) (e::es) [] pos) (zR sp [] E t):=YR (F.mono hj) hr hg G.m G.f.kp G.b .nil hx ha hdb he hpl
end
theorem aN.m{N P:List Str}{sc:aC}(h1:sc.kind=.function:=by rfl)(h2:sc.isCoroutine=aq:=by rfl)(h3:sc.isGenerator=aq:=by rfl)(h4:N.Nodup:=by lia)(h5:N.take P.length=P:=by rfl)(h6:∀x∈P,sc.names.lookup x=U .local\/sc.names.lookup x=U .cell:=by lia)(h7:∀y∈sc.names,y.2≠.free:=by lia):aN N P sc:=⟨h1,h2,h3,h4,h5,h6,h7⟩
section
variable {P:av}{w:ax}{K:bu}{mg:Str->Option af}{base:aw}{x qual:Str}{st:aA}{f:L}{fd:Bc}{N ps:List Str}{k:Nat}{sp:Sp}
theorem Fun.okA(F:Fun K x qual st f fd)(S:aN N ps (zi st))(h:∀vs H Q E,sp vs H Q E->vs.length=ps.length/\∀(cdv:af) (A:ay) (outer:List Env) (s:am),sy k (A.deeper (envOfC qual (zi st) s.heap.objs.size f cdv)) ->
   ∃t,PSs (qH (tK P w) P w K mg base N qual (zi st) f cdv A outer s H E).nox (yC st) t/\t { nx:=λ_ H'=>Q .non H',rt:=Q } (start N vs) H):sq P w K mg base (tK P w) (k+1) f fd ps sp:=F.ok0 S (λvs H Q E z=>(h vs H Q E z).1) λcdv A outer s H vs Q E hr z=>(h vs H Q E z).2 cdv A outer s hr
theorem Fun.okB(F:Fun K x qual st f fd)(S:aN N ps (zi st))(h:∀vs H Q E,sp vs H Q E->vs.length=ps.length/\∀(cdv:af) (A:ay) (outer:List Env) (s:am),sy k (A.deeper (envOfC qual (zi st) s.heap.objs.size f cdv)) ->
   ∃t,PSs (qH (tK P w) P w K mg base N qual (zi st) f cdv A outer s H E) (yC st) t/\t { nx:=λ_ H'=>Q .non H',rt:=Q } (start N vs) H):sq P w K mg base (tK P w) (k+1) f fd ps sp:=F.ok1 S (λvs H Q E z=>(h vs H Q E z).1) λcdv A outer s H vs Q E hr z=>(h vs H Q E z).2 cdv A outer s hr
end
section
variable {K:bu}{σ:St}{H:Hp}{Q:VK}{i:Nat}{k:Int}{p a C dx:L}{xs:List V}{u v:V}{x w f:Str}{fs:List (Str×V)}{te:TE}{A Bo:TS}{Bq:Wx}
theorem XT(h0:σ[i]?=U (U (.ref p)))(h1:H p=U (.tup xs))(h2:tE xs k=U u)(q:Q u H):aL (yJ K) (Z i) (tC (.int k)) σ H Q:=⟨_,h0,p,xs,k,u,Y,Y,sB.of h1,h2,q⟩
theorem qY(h0:σ[i]?=U (U (.ref a)))(h1:H a=U (.ins C dx fs))(c:tq K C)(n:aP K C f)(l:fs.lookup f=U v)(q:Q v H):zV K (Z i) f σ H Q:=⟨_,h0,a,C,dx,fs,v,Y,h1,c,n,l,q⟩
theorem zii(h:∀Q:VK,Q (.str x) H->te σ H Q)(a:x=w->A Bq σ H)(b:x≠w->Bo Bq σ H):zS (zG (aL sR te (tC (.str w)))) A Bo Bq σ H:=by
 refine h _ ⟨Y,_,Y,?_⟩;by_cases c:x=w
 ·show if _ then _ else _
  rw[au (by rw[c];exact Bj Y)];exact a c
 ·show if _ then _ else _
  rw[ap (by rw[decide_eq_true_eq];exact λz=>c (V.str.inj z))];exact b c
theorem kY(h0:σ[i]?=U (U (.ref p)))(h1:H p=U (.tup xs))(h2:tE xs k=U (.str x))(a:x=w->A Bq σ H)(b:x≠w->Bo Bq σ H):zS (zG (aL sR (aL (yJ K) (Z i) (tC (.int k))) (tC (.str w)))) A Bo Bq σ H:=zii (λQ q=>XT h0 h1 h2 q) a b
theorem zeS(h0:σ[i]?=U (U (.ref l)))(h1:H l=U (.lst xs))(q:Q (.int xs.length) H):sG (wa K) (zc (Z i) zj) σ H Q:=by
 refine⟨_,h0,.ref l,xs.length,Y,?_,q⟩;simp only[zhe];exact .inl ⟨_,aT.of h1,Y⟩
theorem zij{n:Int}{P R:Prop}(a:n≠0->P)(b:n=0->R):if (!decide (V.int n=V.int 0))=D then P else R:=by
 by_cases c:n=0
 ·rw[ap (by rw[c];decide)];exact b c
 ·rw[au (by rw[Bk (λz=>c (V.int.inj z))];rfl)];exact a c
theorem zik{n:Int}{P R:Prop}(a:n=0->P)(b:n≠0->R):if decide (V.int n=V.int 0)=D then P else R:=by
 by_cases c:n=0
 ·rw[au (by rw[c];decide)];exact a c
 ·rw[ap (by rw[Bk (λz=>c (V.int.inj z))];decide)];exact b c
end
end L2
namespace L2
open PySem PySem.Spec PySem.W PyProof.Rows
abbrev zg0:RC:=λxs H Q=>∃(a:L) (ah:List (aV×V)) (rs:List Int),xs=[.ref a]/\H a=U (.dK ah)/\ah.map (·.1)=rs.map fQ/\ah.length<64 /\
 ∀(l:L) (srt:List Int),H l=ao->srt.Perm rs->srt.Pairwise (· < ·)->Q (.ref l) (upd H l (.lst (srt.map V.int)))
abbrev zg1:RC:=λxs H Q=>∃(a:L) (ah:List (aV×V)) (rs:List Int),xs=[.ref a]/\H a=U (.dK ah)/\ah.map (·.1)=rs.map fQ/\ah.length<64 /\
 ∀(l:L) (srt:List Int),H l=ao->srt.Perm rs->srt.Pairwise (λx y=>y<x)->Q (.ref l) (upd H l (.lst (srt.map V.int)))
theorem J5:∀ {vs:List af} {ns:List Int},IntsAre vs ns->aR (ns.map V.int) vs
 |_,_,.nil=>.nil
 |_,_,.cons _ t h=>.cons ⟨t,Y⟩ (J5 h)
theorem zdg{P:av}{w:ax}{ah:List (aV×V)}{vs:List (aV×af)}(a:KV ah vs):∀ {es:List DictEntry} {rs:List Int},Pairs (yB P w) es vs->ah.map (·.1)=rs.map fQ->IntsAre (es.map (·.key)) rs/\vs.map (·.1)=rs.map fQ:=by
 induction a with
 |nil =>
  intro es rs b hr;cases b;cases rs with
  |nil=>exact⟨.nil,Y⟩
  |cons=>cases hr
 |cons h kv ih =>
  intro es rs b hr;cases rs with
  |nil=>cases hr
  |cons r rs =>
   cases b with
   |cons hk _ pr =>
    obtain⟨e1,e2⟩:=List.cons.inj hr;obtain⟨i1,i2⟩:=ih pr e2;have e3:=h.1.symm.trans e1;rcases yL hk with ⟨j,t,ej,et⟩|⟨x,t,ej,et⟩
    ·rw[e3] at ej;cases ej;refine⟨?_,by rw[bw,bw,i2,e3]⟩;rw[bw,et];exact .cons _ t i1
    ·rw[e3] at ej;cases ej
section
variable {X:Cx}{p pos kp:Pos}{e:aB}{ta:TE}
theorem zcq{aa:List (L×Obj)}{σ:St}{H:Hp}{s:am}{a:L}{ah:List (aV×V)}{rs:List Int}{Q:VK}{kw:List (Str×af)}{O:List Int->Prop}(hc:X.calm=D)(I:aO X aa σ H s)(ha:H a=U (.dK ah))(hk:ah.map (·.1)=rs.map fQ)(h64:ah.length<64)
  (hs:∀(R:PySem.Fin->am->Prop) (s:am) (b:L) (vs:List af),s.heap.get? b=U (seqObj "list" vs.toArray 0)->IntsAre vs rs->vs.length<64->(∀(out:Array af) (ns:List Int),IntsAre out.toList ns->ns.Perm rs->(rs.Nodup->O ns)->R (.done (.ret .none)) { s with heap:=sortedHeap s.heap b vs out })->Bf (Bg X.prog X.w) X.A.in1.in1 (Builtin.«list.sort» ⟨[.ref b],kw⟩) R X.xe s)
  (hw:argsOk "sorted" ⟨[.ref a],kw⟩) (hw2:∀b:L,argsOk "list.sort" ⟨[.ref b],kw⟩)
  (q:∀(l:L) (srt:List Int),H l=ao->srt.Perm rs->O srt->Q (.ref l) (upd H l (.lst (srt.map V.int)))) :
  Bf (Bg X.prog X.w) X.A (call (.builtin "sorted") [.ref a] kw) (EP X aa σ Q) X.xe s:=by
 obtain⟨hz,lo,vs,kv,o,es,ep,ho,hx,hd,hk',pr,hn⟩:=(show aW X.prog X.w H s.heap a (.dK ah) from I.hok a _ ha);obtain⟨ia,ev⟩:=zdg kv pr hk;have nr:rs.Nodup:=xF (f:=(fQ:Int->aV)) (by rw[<-ev];exact hn);have il:es.size<64:=by have:=kv.length;have:=pr.length;rw[cu] at this;lia
 have cl:=bN (show es.size<=1000 by lia) (show 1000<=Bb by lia);refine call_function_entry_kw kind_sorted rc rf hw ?_;unfold Builtin.«sorted»;refine ba (m:=checkCount "sorted" 1 1 _) (bd ?_);refine ba (Wf (KM (ep:=ep) (es:=es) lo) (I.ok.hd hc) ⟨o,ho,hx,hd⟩ cl λh tk ws k1 hl hG=>?_);have ew:ws=es.toList.map (·.key):=by
  apply fo;intro i;by_cases hi:i<ws.length
  ·obtain⟨e,hes,ek⟩:=hG i ws[i] (bb hi);rw[bb hi,ek,bx,c8,hes];rfl
  ·rw[cz (),cz (by rw[bf,cu];lia)]
 rw[<-ew] at ia;have hoL:(h.push (seqObj "list" ws.toArray 0)).get? h.objs.size=U (seqObj "list" ws.toArray 0):=bE _ rfl;refine ba (m5 ?_ (by rw[bG];lia));refine ba (du (wpAny_call_entry_kw oH ⟨_,hoL,Y⟩ nZ (hs _ { s with heap:=h.push (seqObj "list" ws.toArray 0),toks:=tk } _ ws hoL ia () λout ns a1 a2 a3=>⟨_,rfl,bd ⟨_,rfl,?_⟩⟩) (hw2 _)));obtain⟨c,hD⟩:=sortedHeap_at (out:=out) hoL;have I1:aO X aa σ H { s with heap:=h,toks:=tk }:=I.kept k1;have nl:=a2.length_eq;have rl:=IntsAre.length ia;refine⟨.ref h.objs.size,_,I1.laid (s:={ s with heap:=h,toks:=tk }) (a:=h.objs.size) (o:=.lst (ns.map V.int)) (t':=tk) (λb o e=>?_) (bp _) ⟨by rw[bf];exact bN (show ns.length<=1000 by have:=congrArg fE hk;rw[bf,bf] at this;lia) (),_,c,J5 a1,hD⟩,Y,q _ _ (I1.hok.fresh (bp _)) a2 (a3 nr)⟩;have lt:=bO e;exact(sortedHeap_old (bX lt) (by rw[size_push'];exact pN lt)).trans (bc _ e)
theorem KW(hc:X.calm=D):jZ X (.builtin "sorted") zg0:=by
 intro aa s σ H xs us Q I r h;obtain⟨a,ah,rs,rfl,ha,hk,h64,q⟩:=h;obtain⟨u,rfl,ru⟩:=jt r;cases ru;exact zcq hc I ha hk h64 (O:=λn=>n.Pairwise (· < ·)) (λR s b vs h1 h2 h3 h=>list_sort_tree h1 h2 h3 λout ns a1 a2 a3=>h out ns a1 a2 λnd=>(a3.and (a2.nodup_iff.mpr nd)).imp λz=>by lia) (rj _) (λ_=>oI _) q
theorem zgb{ta:TA}{j:Nat}{kq:Pos}(hc:X.calm=D)(hg:Gl X "sorted")(hm:X.mg "sorted"=ao)(hv:Bh "sorted"=U (.builtin "sorted"))(ha:PA X [e] ta)(he:backTo pos (Be [e] X.env)=[(aq,eval e X.env)]:=by rfl)(hp:(backTo pos (Be [e] X.env)).any (·.1)=aq:=by rfl) :
  PE X (.Call (.Name "sorted" p) [e] [⟨U (bg "reverse"),.Constant (.bool D) j kq,kp⟩] pos) (sG zg1 ta):=by
 intro aa s σ H Q I h;refine eT (XC I hg hm hv ?_ () ());refine callWith_kw (dl (ha pos aa s σ H _ I h) ?_) he hp;rintro us s1 ⟨vs,H1,I1,r1,a,ah,rs,e1,ha,hk,h64,q⟩;subst e1;obtain⟨u,rfl,ru⟩:=jt r1;cases ru;refine dl (zfH (nm:=U (bg "reverse")) (kpos:=kp) vQ zhf pos aa s1 σ H1 (λvs H'=>vs=[.bl D]/\H'=H1) I1 ⟨Y,Y⟩) ?_;rintro ws s2 ⟨zs,H2,I2,rz,ez,eh⟩;subst ez eh;obtain⟨u,rfl,ru⟩:=jt rz;cases ru;exact zcq hc I2 ha hk h64 (O:=λn=>n.Pairwise (λx y=>y<x)) (λR s b vs h1 h2 h3 h=>list_sort_tree_rev (b:=D) h1 h2 h3 λout ns a1 a2 a3=>h out ns a1 a2 λnd=>(List.Pairwise.and (show ns.Pairwise (· >= ·) from a3) (a2.nodup_iff.mpr nd)).imp λz=>by lia) (args_sorted_rev _ _) (λ_=>args_list_sort_rev _ _) q
end
section
variable {X:Cx}{CX:CXT}{i j k:Nat}{f C:L}{fd:Bc}{ps:List Str}{sp:Sp}{x m qual:Str}{st:aA}{pos pos' sk:Pos}{o a b e:aB}{es:List aB}{te ta tb:TE}{t:TA}{E:XK}
theorem zv(hN:X.N.Nodup)(he:PE X e te)(hi:X.N[i]?=U x:=by rfl)(hx:Loc X.env.scope x:=by exact .inl Y)(hs:swapsWith e (U (.Name x pos')) pos.line X.env=pure aq:=by rfl)(hf:X.fn x=D\/X.env.scope.names.lookup x=U .local:=by first|exact .inl rfl|exact .inr rfl|assumption) :
  PS X (.Assign [.Name x pos'] e pos) (zN te (zt i)):=XG hN hi hx he hs hf
theorem yb(hN:X.N.Nodup)(hi:X.N[i]?=U x:=by rfl)(hx:Loc X.env.scope x:=by exact .inl Y)(hf:X.fn x=D\/X.env.scope.names.lookup x=U .local:=by first|exact .inl rfl|exact .inr rfl|assumption):PG X (.Name x pos) (zt i):=kM hN hi hx hf
theorem zw{r:R2}(hr:IxR X r)(ha:PE X a ta)(hb:PE X b tb)(hs:zb5 b:=by exact λ_ _=>rfl):PE X (.Subscript a b pos) (aL r ta tb):=zh6 hr ha hb hs
theorem tJ{pl:Sem Bool}(he:PE X o ta)(c:tq X.K C)(F:sq X.prog X.w X.K X.mg X.base CX j f fd ps sp)(G:FM X.K C m qual st ps f fd)(hr:sy k X.A)(hx:x6 CX X E)(ha:PA X (e::es) t)(hj:j<=k:=by lia)
  (hst:Be (e::es) X.env=(aq,eval e X.env)::Be es X.env:=by rfl) (hpl:(backTo pos (Be es X.env)).any (·.1)=aq:=by rfl)
  (ht:eval (.Call (.Attribute o m sk) (e::es) [] pos) X.env=(do
   let ov <-eval o X.env
   standAt sk.atName
   let (f,first) <-holding [ov] (getMethod ov m pl)
   callWith pos f first (backTo pos (Be (e::es) X.env)) (backToKw pos (keywordEach [] X.env))):=by rfl) :
  PE X (.Call (.Attribute o m sk) (e::es) [] pos) (zW C m sp [] E ta t):=Ku he c G.me (F.mono hj) hr G.b .nil hx ha hst hpl ht
theorem qZ{pl:Sem Bool}(he:PE X o ta)(c:tq X.K C)(F:sq X.prog X.w X.K X.mg X.base CX j f fd ps sp)(G:FM X.K C m qual st ps f fd)(hr:sy k X.A)(hx:x6 CX X E)(hj:j<=k:=by lia)
  (ht:eval (.Call (.Attribute o m sk) [] [] pos) X.env=(do
   let ov <-eval o X.env
   standAt sk.atName
   let (f,first) <-holding [ov] (getMethod ov m pl)
   callWith pos f first (backTo pos (Be [] X.env)) (backToKw pos (keywordEach [] X.env))):=by rfl) :
  PE X (.Call (.Attribute o m sk) [] [] pos) (zW C m sp [] E ta zj):=QC he c G.me (F.mono hj) hr G.b .nil hx ht
end
section
variable {K:bu}{h:aw}{mg:Str->Option af}{x:Str}{st:aA}
theorem ar6{P:List af->Prop}(h:∀a b c d e f,P [a,b,c,d,e,f]):∀us,us.length=6->P us:=arS λa=>ar5 (P:=λus=>P (a::us)) (h a)
theorem ar8{P:List af->Prop}(h:∀a b c d e f g i,P [a,b,c,d,e,f,g,i]):∀us,us.length=8->P us:=arS λa=>arS (P:=λus=>P (a::us)) λb=>ar6 (P:=λus=>P (a::b::us)) (h a b)
theorem QG.a6(X:K.In h)(G:h.Ns Bd mg)(u v w y z o:Str)(q:QG K x st)(hb:∀a b c d e f,bA x x st [a,b,c,d,e,f] [(u,a),(v,b),(w,c),(y,d),(z,e),(o,f)]:=by exact λ_ _ _ _ _ _ _ _ _ _ _ _=>rfl):∃a d,FG K mg x st [u,v,w,y,z,o] a d:=QG.to X G q (ar6 hb)
theorem QG.a8(X:K.In h)(G:h.Ns Bd mg)(u v w y z o l m:Str)(q:QG K x st)(hb:∀a b c d e f g i,bA x x st [a,b,c,d,e,f,g,i] [(u,a),(v,b),(w,c),(y,d),(z,e),(o,f),(l,g),(m,i)]:=by exact λ_ _ _ _ _ _ _ _ _ _ _ _ _ _=>rfl):∃a d,FG K mg x st [u,v,w,y,z,o,l,m] a d:=QG.to X G q (ar8 hb)
end
end L2
namespace K43
open PySem L2
abbrev aE:=rI (λ_ j=>0<j) λi j=>.int (i%j)
abbrev aF:=rI0 λi j=>.int (i+j)
abbrev aG:=rI yF λi j=>.int (i/j)
abbrev aH:=rI0 λi j=>.bl (decide (i<j))
abbrev aI:=rI0 λi j=>.int (i-j)
abbrev aJ:=rI CMulB λi j=>.int (i*j)
abbrev sA(Q:VK):Wx:={nx:=λ_ H'=>Q .non H',rt:=Q}
def top(i:Nat):aA:=PySem.Challenge.pw_forerun_k43_what_is_read_is_seen.main.body.getD i (.Pass ⟨0,0,0,0⟩)
abbrev wL:aA:=top 38
abbrev kZ:aA:=top 37
abbrev jA:aA:=top 39
abbrev jN:aA:=top 40
abbrev vI:aA:=top 45
abbrev vZ:aA:=top 36
abbrev jO:aA:=top 30
abbrev Yq:aA:=top 29
abbrev XU:aA:=top 31
abbrev xA:aA:=zZ (top 13) 0
abbrev xT:aA:=zZ (top 15) 0
abbrev xU:aA:=zZ (top 27) 0
abbrev v0:aA:=zZ (top 27) 4
abbrev wM:aA:=zZ (top 27) 9
abbrev Yr:aA:=zZ (top 25) 1
abbrev XV:aA:=top 20
abbrev XW:aA:=top 21
abbrev Ys:aA:=top 17
abbrev Vm:aA:=top 22
abbrev Yt:aA:=top 23
abbrev v3:aA:=zZ (top 25) 5
abbrev v6:aA:=zZ (top 25) 6
abbrev Yu:aA:=zZ (top 25) 2
abbrev wd:aA:=zZ (top 13) 8
abbrev k7:aA:=top 10
abbrev k8:aA:=zZ (top 13) 1
abbrev q8:aA:=zZ (top 25) 9
abbrev Yv:aA:=zZ (top 25) 8
abbrev k9:aA:=zZ (top 25) 7
abbrev wN:aA:=zZ (top 25) 3
abbrev xC:aA:=zZ (top 15) 4
abbrev xt:aA:=zZ (top 15) 5
abbrev q9:aA:=top 12
abbrev vy:aA:=zZ (top 15) 2
abbrev wO:aA:=zZ (top 34) 0
abbrev qc:aA:=zZ (top 33) 0
abbrev wP:aA:=zZ (top 25) 0
abbrev vz:aA:=zZ (top 27) 11
abbrev we:aA:=zZ (top 27) 10
abbrev wf:aA:=zZ (top 13) 6
abbrev wj:aA:=zZ (top 13) 9
abbrev Yw:aA:=top 11
abbrev Za:aA:=zZ (top 13) 2
abbrev xJ:aA:=zZ (top 13) 7
abbrev qd:aA:=zZ (top 15) 3
abbrev vA:aA:=zZ (top 15) 1
abbrev Zb:aA:=zZ (top 25) 4
abbrev Zc:aA:=zZ (top 27) 2
abbrev jP:aA:=zZ (top 27) 3
abbrev Zd:aA:=top 41
abbrev Ze:aA:=top 42
abbrev Yx:aA:=top 43
abbrev jB:aA:=top 44
abbrev Yy:aA:=zZ (top 27) 1
abbrev Zf:aA:=top 47
abbrev qe:aA:=top 46
abbrev wq:aA:=top 48
abbrev wt:aA:=top 49
abbrev wu:aA:=top 50
abbrev Y6:aA:=top 51
theorem Y7:aN ["word"] ["word"] (zi wL):=.m
theorem q0f:aN ["cell","many","found","one","two","k"] ["cell","many"] (zi kZ):=.m
theorem q0i:aN ["cell","letters","word","one","at","letter"] ["cell"] (zi jA):=.m
theorem Vn:aN ["number"] ["number"] (zi jN):=.m
theorem q0m:aN ["cell","shelves","xs","found","k","worth"] ["cell","shelves"] (zi vI):=.m
theorem WB:aN ["script","k"] ["script","k"] (zi vZ):=.m
theorem q0t:aN ["row","at","steps","to","others"] ["row","at"] (zi jO):=.m
theorem q0z:aN ["rows","first","steps","row"] ["rows","first"] (zi Yq):=.m
theorem zbK:aN ["rows"] ["rows"] (zi XU):=.m
theorem V3:aN ["self","table"] ["self","table"] (zi xA):=.m
theorem KY:aN ["self","makes"] ["self","makes"] (zi xT):=.m
theorem KZ:aN ["self","table","hands","way","first"] ["self","table","hands","way","first"] (zi xU):=.m
theorem WC:aN ["self"] ["self"] (zi v0):=.m
theorem Y8:aN ["self"] ["self"] (zi wM):=.m
theorem zas:aN ["self"] ["self"] (zi Yr):=.m
theorem zbL:aN ["word","first","second"] ["word","first","second"] (zi XV):=.m
theorem zbM:aN ["word","first","second"] ["word","first","second"] (zi XW):=.m
theorem zat:aN ["thing"] ["thing"] (zi Ys):=.m
theorem q19:aN ["word","first","second","worth"] ["word","first","second"] (zi Vm):=.m
theorem q0n:aN ["term","slots","worths","part","second","first"] ["term","slots"] (zi Yt):=.m
theorem WD:aN ["self","term"] ["self","term"] (zi v3):=.m
theorem WE:aN ["self","due"] ["self","due"] (zi v6):=.m
theorem q1a:aN ["self","place"] ["self"] (zi Yu):=.m
theorem Yz:aN ["self","rank"] ["self","rank"] (zi wd):=.m
theorem q0j:aN ["ranks","rank","low","high","amid"] ["ranks","rank"] (zi k7):=.m
theorem q10:aN ["self","place","rank","ranks","below"] ["self","place","rank"] (zi k8):=.m
theorem K0:aN ["self","place","worth"] ["self","place","worth"] (zi q8):=.m
theorem q1b:aN ["self","due","worth","place"] ["self","due","worth"] (zi Yv):=.m
theorem V4:aN ["self","due","worth"] ["self","due","worth"] (zi k9):=.m
theorem zau:aN ["self","worth"] ["self","worth"] (zi wN):=.m
theorem q0u:aN ["self","rank","place","worth","now"] ["self","rank"] (zi xC):=.m
theorem q0v:aN ["self","ranks","rank","note"] ["self"] (zi xt):=.m
theorem q1c:aN ["ranks_at","place","rank","ranks"] ["ranks_at","place","rank"] (zi q9):=.m
theorem q0w:aN ["self","rank","paper","place","worth"] ["self","rank"] (zi vy):=.m
theorem Y9:aN ["self","ranks"] ["self","ranks"] (zi wO):=.m
theorem V5:aN ["self","ranks"] ["self","ranks"] (zi qc):=.m
theorem zav:aN ["self","code"] ["self","code"] (zi wP):=.m
theorem q1d:aN ["self","hand","rank"] ["self","hand"] (zi vz):=.m
theorem q11:aN ["self","hand","lowest","changed"] ["self","hand"] (zi we):=.m
theorem YA:aN ["self","rank"] ["self","rank"] (zi wf):=.m
theorem q12:aN ["self","rank","places","place"] ["self","rank"] (zi wj):=.m
theorem q1e:aN ["ranks_at","place","rank","ranks"] ["ranks_at","place","rank"] (zi Yw):=.m
theorem q13:aN ["self","rank","gifts","worths","place"] ["self","rank","gifts"] (zi Za):=.m
theorem q14:aN ["self","place","rank","ranks","above"] ["self","place","rank"] (zi xJ):=.m
theorem q0o:aN ["self","place","rank","readers","above","behind","reader"] ["self","place","rank"] (zi qd):=.m
theorem q0p:aN ["self","rank","paper","before","place","worth"] ["self","rank","paper"] (zi vA):=.m
theorem q1f:aN ["self","notes"] ["self"] (zi Zb):=.m
theorem q0q:aN ["self","hand","rank","run","place","worth"] ["self","hand"] (zi Zc):=.m
theorem q1g:aN ["self","told"] ["self"] (zi jP):=.m
theorem q1h:aN ["number","slots","kind"] ["number","slots"] (zi Zd):=.m
theorem q15:aN ["number","slots","words","kind"] ["number","slots"] (zi Ze):=.m
theorem q0k:aN ["xs","shelves","slots","kind","shelf","slot","spot","term"] ["xs","shelves","slots"] (zi Yx):=.m
theorem q0g:aN ["cell","shelves","slots","xs","rows","at","to","row"] ["cell","shelves","slots"] (zi jB):=.m
theorem q1i:aN ["self","code","rank"] ["self","code"] (zi Yy):=.m
theorem q0l:aN ["table","laid","place","rank","other","spot","worth"] ["table","laid","place","rank"] (zi Zf):=.m
theorem q16:aN ["found","due","one","other"] ["found","due"] (zi qe):=.m
theorem q17:aN ["row","hand","rank","run","table","laid","place","worth"] ["row","hand","rank","run","table","laid"] (zi wq):=.m
theorem YB:aN ["row","hand","added","first"] ["row","hand","added","first"] (zi wt):=.m
theorem q1j:aN ["row","hand","codes","first","runs","ranks","table","laid","held"] ["row","hand","codes","first","runs","ranks","table","laid"] (zi wu):=.m
theorem q06:aN ["script","shelves","slots","table","codes","hands","way","first","desk","early","added","runs","ranks","laid","cell","hand","batch","code","row"] ["script"] (zi Y6):=.m
set_option genSizeOf false in
set_option genInjectivity false in
set_option genInjectivity false in
structure bv where
 a0:L
 d0:Bc
 a1:L
 d1:Bc
 a2:L
 d2:Bc
 a3:L
 d3:Bc
 a4:L
 d4:Bc
 a5:L
 d5:Bc
 a6:L
 d6:Bc
 a7:L
 d7:Bc
 a8:L
 d8:Bc
 a9:L
 d9:Bc
 a10:L
 d10:Bc
 a11:L
 d11:Bc
 a12:L
 d12:Bc
 a13:L
 d13:Bc
 a14:L
 d14:Bc
 a15:L
 d15:Bc
 a16:L
 d16:Bc
 a17:L
 d17:Bc
 a18:L
 d18:Bc
 a19:L
 d19:Bc
 a20:L
 d20:Bc
 a21:L
 d21:Bc
 a22:L
 d22:Bc
 a23:L
 d23:Bc
 a24:L
 d24:Bc
 a25:L
 d25:Bc
 a26:L
 d26:Bc
 a27:L
 d27:Bc
 a28:L
 d28:Bc
 a29:L
 d29:Bc
 a30:L
 d30:Bc
 a31:L
 d31:Bc
 a32:L
 d32:Bc
 a33:L
 d33:Bc
 a34:L
 d34:Bc
 a35:L
 d35:Bc
 a36:L
 d36:Bc
 a37:L
 d37:Bc
 a38:L
 d38:Bc
 a39:L
 d39:Bc
 a40:L
 d40:Bc
 a41:L
 d41:Bc
 a42:L
 d42:Bc
 a43:L
 d43:Bc
 a44:L
 d44:Bc
 a45:L
 d45:Bc
 a46:L
 d46:Bc
 a47:L
 d47:Bc
 a48:L
 d48:Bc
 a49:L
 d49:Bc
 a50:L
 d50:Bc
 a51:L
 d51:Bc
 a52:L
 d52:Bc
 a53:L
 d53:Bc
 a54:L
 d54:Bc
 a55:L
 d55:Bc
 a56:L
 d56:Bc
 a57:L
 d57:Bc
 a58:L
 d58:Bc
 a59:L
 d59:Bc
 q0r:L
 q01:L
 q08:L
 q0e:L
 q03:L
 q02:L
 q07:L
 q00:L
 q0a:L
structure Txt(K:bu)(mg:Str->Option af)(t:bv):Prop where
 g0:FG K mg "_law_free_name" wL ["word"] t.a0 t.d0
 g1:FG K mg "_law_draws" kZ ["cell","many"] t.a1 t.d1
 g2:FG K mg "_law_pair" jA ["cell"] t.a2 t.d2
 g3:FG K mg "_law_number" jN ["number"] t.a3 t.d3
 g4:FG K mg "_law_table" vI ["cell","shelves"] t.a4 t.d4
 g5:FG K mg "_law_cell_at" vZ ["script","k"] t.a5 t.d5
 g6:FG K mg "block_steps" jO ["row","at"] t.a6 t.d6
 g7:FG K mg "steps_of" Yq ["rows","first"] t.a7 t.d7
 g8:FG K mg "code_of" XU ["rows"] t.a8 t.d8
 q1n:Fun K "__init__" "Makes.__init__" xA t.a9 t.d9
 q1o:sD K t.d9 ["self","table"] []
 q1p:Fun K "__init__" "Jobs.__init__" xT t.a10 t.d10
 q1q:sD K t.d10 ["self","makes"] []
 q1r:FunD K "__init__" "Desk.__init__" xU t.a11 t.d11
 q1s:sD K t.d11 ["self","table","hands","way","first"] []
 bd_Desk_init:∃ds,aR [.int 0] ds/\sD K t.d11 ["self","table","hands","way","first"] ds
 g12:FM K t.q01 "settled" "Desk.settled" v0 ["self"] t.a12 t.d12
 g13:FM K t.q01 "next_rank" "Desk.next_rank" wM ["self"] t.a13 t.d13
 g14:FM K t.q00 "over" "Run.over" Yr ["self"] t.a14 t.d14
 g15:FG K mg "divided" XV ["word","first","second"] t.a15 t.d15
 g16:FG K mg "come_to" XW ["word","first","second"] t.a16 t.d16
 g17:FG K mg "is_worth" Ys ["thing"] t.a17 t.d17
 g18:FG K mg "joined" Vm ["word","first","second"] t.a18 t.d18
 g19:FG K mg "reckoned" Yt ["term","slots"] t.a19 t.d19
 g20:FM K t.q00 "worth_of" "Run.worth_of" v3 ["self","term"] t.a20 t.d20
 g21:FM K t.q00 "place_in" "Run.place_in" v6 ["self","due"] t.a21 t.d21
 g22:FM K t.q00 "asks" "Run.asks" Yu ["self"] t.a22 t.d22
 g23:FM K t.q02 "heed_fold" "Makes.heed_fold" wd ["self","rank"] t.a23 t.d23
 g24:FG K mg "many_below" k7 ["ranks","rank"] t.a24 t.d24
 g25:FM K t.q02 "seen" "Makes.seen" k8 ["self","place","rank"] t.a25 t.d25
 g26:FM K t.q00 "taken" "Run.taken" q8 ["self","place","worth"] t.a26 t.d26
 g27:FM K t.q00 "does" "Run.does" Yv ["self","due","worth"] t.a27 t.d27
 g28:FM K t.q00 "led_by" "Run.led_by" k9 ["self","due","worth"] t.a28 t.d28
 q1t:FunD K "step" "Run.step" wN t.a29 t.d29
 q1k:sD K t.d29 ["self","worth"] []
 bd_Run_step:∃ds,aR [.int 0] ds/\sD K t.d29 ["self","worth"] ds
 me_Run_step:Ks K t.q00 "step" t.a29
 g30:FM K t.q03 "changed_note" "Jobs.changed_note" xC ["self","rank"] t.a30 t.d30
 g31:FM K t.q03 "lowest_changed" "Jobs.lowest_changed" xt ["self"] t.a31 t.d31
 g32:FG K mg "drop_rank" q9 ["ranks_at","place","rank"] t.a32 t.d32
 g33:FM K t.q03 "take_off" "Jobs.take_off" vy ["self","rank"] t.a33 t.d33
 g34:FM K t.q0e "chosen" "Highest.chosen" wO ["self","ranks"] t.a34 t.d34
 g35:FM K t.q0a "chosen" "Way.chosen" qc ["self","ranks"] t.a35 t.d35
 q1u:Fun K "__init__" "Run.__init__" wP t.a36 t.d36
 q1l:sD K t.d36 ["self","code"] []
 g37:FM K t.q01 "taken_up" "Desk.taken_up" vz ["self","hand"] t.a37 t.d37
 g38:FM K t.q01 "moved_free" "Desk.moved_free" we ["self","hand"] t.a38 t.d38
 g39:FM K t.q02 "places_of" "Makes.places_of" wf ["self","rank"] t.a39 t.d39
 g40:FM K t.q02 "take_away" "Makes.take_away" wj ["self","rank"] t.a40 t.d40
 g41:FG K mg "put_rank" Yw ["ranks_at","place","rank"] t.a41 t.d41
 g42:FM K t.q02 "lay" "Makes.lay" Za ["self","rank","gifts"] t.a42 t.d42
 g43:FM K t.q02 "next_above" "Makes.next_above" xJ ["self","place","rank"] t.a43 t.d43
 g44:FM K t.q03 "doubt" "Jobs.doubt" qd ["self","place","rank"] t.a44 t.d44
 g45:FM K t.q03 "lay_down" "Jobs.lay_down" vA ["self","rank","paper"] t.a45 t.d45
 g46:FM K t.q00 "paper" "Run.paper" Zb ["self"] t.a46 t.d46
 g47:FM K t.q01 "move" "Desk.move" Zc ["self","hand"] t.a47 t.d47
 g48:FM K t.q01 "finish" "Desk.finish" jP ["self"] t.a48 t.d48
 g49:FG K mg "_law_spot" Zd ["number","slots"] t.a49 t.d49
 g50:FG K mg "_law_term" Ze ["number","slots"] t.a50 t.d50
 g51:FG K mg "_law_row" Yx ["xs","shelves","slots"] t.a51 t.d51
 g52:FG K mg "_law_rows" jB ["cell","shelves","slots"] t.a52 t.d52
 g53:FM K t.q01 "add" "Desk.add" Yy ["self","code"] t.a53 t.d53
 g54:FG K mg "_law_seen" Zf ["table","laid","place","rank"] t.a54 t.d54
 g55:FG K mg "_law_alike" qe ["found","due"] t.a55 t.d55
 g56:FG K mg "_law_held_right" wq ["row","hand","rank","run","table","laid"] t.a56 t.d56
 g57:FG K mg "_law_free_right" wt ["row","hand","added","first"] t.a57 t.d57
 g58:FG K mg "_law_told_right" wu ["row","hand","codes","first","runs","ranks","table","laid"] t.a58 t.d58
 q1v:Fun K "law" "law" Y6 t.a59 t.d59
 q2s:sD K t.d59 ["script"] []
 m_law:mg "law"=U (.ref t.a59)
 w_law:∀(s:am) (v:af),BindsTo s t.d59 ⟨[v],[]⟩ [("script",v)]
 q18:mg "bool"=ao
 q1m:mg "dict"=ao
 b_int:mg "int"=ao
 q09:mg "isinstance"=ao
 q04:mg "len"=ao
 q0c:mg "list"=ao
 q0s:mg "range"=ao
 q0x:mg "sorted"=ao
 q0y:mg "str"=ao
 b_tuple:mg "tuple"=ao
 b_zip:mg "zip"=ao
 g_JOINING:mg "JOINING"=U (.ref t.q0r)
 q1w:∀H:Hp,sB K H t.q0r [.str "plus",.str "minus",.str "times",.str "over",.str "rest",.str "under",.str "same"]
 g_Desk:mg "Desk"=U (.ref t.q01)
 g_Great:mg "Great"=U (.ref t.q08)
 g_Highest:mg "Highest"=U (.ref t.q0e)
 g_Jobs:mg "Jobs"=U (.ref t.q03)
 g_Makes:mg "Makes"=U (.ref t.q02)
 g_Nought:mg "Nought"=U (.ref t.q07)
 g_Run:mg "Run"=U (.ref t.q00)
 g_Way:mg "Way"=U (.ref t.q0a)
 q0b:tq K t.q01
 mk_Desk:Mk K t.q01 t.a11
 q1x:aP K t.q01 "codes"
 q1y:aP K t.q01 "ended"
 q1z:aP K t.q01 "first"
 q20:aP K t.q01 "hands"
 q21:aP K t.q01 "held"
 q22:aP K t.q01 "jobs"
 q23:aP K t.q01 "makes"
 q24:aP K t.q01 "waiting"
 q25:aP K t.q01 "way"
 q26:tq K t.q0e
 mo_Highest:MkO K t.q0e
 q0h:tq K t.q03
 mk_Jobs:Mk K t.q03 t.a10
 q27:aP K t.q03 "doubted"
 q28:aP K t.q03 "laid"
 q29:aP K t.q03 "makes"
 q2a:aP K t.q03 "readers"
 q0d:tq K t.q02
 mk_Makes:Mk K t.q02 t.a9
 q2b:aP K t.q02 "folded"
 q2c:aP K t.q02 "ground"
 q2d:aP K t.q02 "ranks"
 q2e:aP K t.q02 "worths"
 q05:tq K t.q00
 mk_Run:Mk K t.q00 t.a36
 q2f:aP K t.q00 "at"
 q2g:aP K t.q00 "code"
 q2h:aP K t.q00 "gifts"
 q2i:aP K t.q00 "notes"
 q2j:aP K t.q00 "sayings"
 q2k:aP K t.q00 "slots"
 q2l:aP K t.q00 "why"
 q2m:tq K t.q0a
 mo_Way:MkO K t.q0a
 q2n:pO K t.q07 QU XN=D
 y_Nought:ExK K t.q07
 q2o:iM K (.ref t.q07) (.ref t.q08)=U aq
 q2p:iM K (.ref t.q07) (.ref t.q07)=U D
 m_Nought_Great_Nought:rL K (.ref t.q07) [.ref t.q08,.ref t.q07]=U D
 q2q:pO K t.q08 QU XN=D
 y_Great:ExK K t.q08
 q2r:iM K (.ref t.q08) (.ref t.q08)=U D
 q2t:iM K (.ref t.q08) (.ref t.q07)=U aq
 m_Great_Great_Nought:rL K (.ref t.q08) [.ref t.q08,.ref t.q07]=U D
theorem txt_mk{mg:Str->Option af}(X:K.In h)(G:h.Ns Bd mg)
  
  
  
  
  
  
  
  
  
  
  
  
  
  
  
  (h0:QG K "_law_free_name" wL)
  (h1:QG K "_law_draws" kZ)
  (h2:QG K "_law_pair" jA)
  (h3:QG K "_law_number" jN)
  (h4:QG K "_law_table" vI)
  (h5:QG K "_law_cell_at" vZ)
  (h6:QG K "block_steps" jO)
  (h7:QG K "steps_of" Yq)
  (h8:QG K "code_of" XU)
  (qa9:b7 K (.ref ca4) "__init__"=U (U (.ref f9))) (qi9:pV K (.ref f9)=D) (ql9:K.lookup f9=U ⟨oc9,od9,.func (iN "__init__" "Makes.__init__" (xa xA) (yC xA) (zi xA) .none kV9 dc9 pm9 an9 cd9 ct9),sl9⟩) (qc9:gU K cd9 "Makes.__init__"=D) (qk9:dQ K (.ref f9)=D)
  (qa10:b7 K (.ref ca3) "__init__"=U (U (.ref f10))) (qi10:pV K (.ref f10)=D) (ql10:K.lookup f10=U ⟨oc10,od10,.func (iN "__init__" "Jobs.__init__" (xa xT) (yC xT) (zi xT) .none kV10 dc10 pm10 an10 cd10 ct10),sl10⟩) (qc10:gU K cd10 "Jobs.__init__"=D) (qk10:dQ K (.ref f10)=D)
  (qa11:b7 K (.ref ca0) "__init__"=U (U (.ref f11))) (qi11:pV K (.ref f11)=D) (ql11:K.lookup f11=U ⟨oc11,od11,.func (iN "__init__" "Desk.__init__" (xa xU) (yC xU) (zi xU) (.ref dA11) kV11 dc11 pm11 an11 cd11 ct11),sl11⟩) (qc11:gU K cd11 "Desk.__init__"=D) (qk11:dQ K (.ref f11)=D) (qd11:K.lookup dA11=U ⟨.type "tuple",ao,.seq #[.int 0 dt11_0] dn11,#[]⟩)
  (h12:QM K ca0 "settled" "Desk.settled" v0)
  (h13:QM K ca0 "next_rank" "Desk.next_rank" wM)
  (h14:QM K ca6 "over" "Run.over" Yr)
  (h15:QG K "divided" XV)
  (h16:QG K "come_to" XW)
  (h17:QG K "is_worth" Ys)
  (h18:QG K "joined" Vm)
  (h19:QG K "reckoned" Yt)
  (h20:QM K ca6 "worth_of" "Run.worth_of" v3)
  (h21:QM K ca6 "place_in" "Run.place_in" v6)
  (h22:QM K ca6 "asks" "Run.asks" Yu)
  (h23:QM K ca4 "heed_fold" "Makes.heed_fold" wd)
  (h24:QG K "many_below" k7)
  (h25:QM K ca4 "seen" "Makes.seen" k8)
  (h26:QM K ca6 "taken" "Run.taken" q8)
  (h27:QM K ca6 "does" "Run.does" Yv)
  (h28:QM K ca6 "led_by" "Run.led_by" k9)
  (qa29:b7 K (.ref ca6) "step"=U (U (.ref f29))) (qi29:pV K (.ref f29)=D) (ql29:K.lookup f29=U ⟨oc29,od29,.func (iN "step" "Run.step" (xa wN) (yC wN) (zi wN) (.ref dA29) kV29 dc29 pm29 an29 cd29 ct29),sl29⟩) (qc29:gU K cd29 "Run.step"=D) (qk29:dQ K (.ref f29)=D) (qd29:K.lookup dA29=U ⟨.type "tuple",ao,.seq #[.int 0 dt29_0] dn29,#[]⟩)
  (h30:QM K ca3 "changed_note" "Jobs.changed_note" xC)
  (h31:QM K ca3 "lowest_changed" "Jobs.lowest_changed" xt)
  (h32:QG K "drop_rank" q9)
  (h33:QM K ca3 "take_off" "Jobs.take_off" vy)
  (h34:QM K ca2 "chosen" "Highest.chosen" wO)
  (h35:QM K ca7 "chosen" "Way.chosen" qc)
  (qa36:b7 K (.ref ca6) "__init__"=U (U (.ref f36))) (qi36:pV K (.ref f36)=D) (ql36:K.lookup f36=U ⟨oc36,od36,.func (iN "__init__" "Run.__init__" (xa wP) (yC wP) (zi wP) .none kV36 dc36 pm36 an36 cd36 ct36),sl36⟩) (qc36:gU K cd36 "Run.__init__"=D) (qk36:dQ K (.ref f36)=D)
  (h37:QM K ca0 "taken_up" "Desk.taken_up" vz)
  (h38:QM K ca0 "moved_free" "Desk.moved_free" we)
  (h39:QM K ca4 "places_of" "Makes.places_of" wf)
  (h40:QM K ca4 "take_away" "Makes.take_away" wj)
  (h41:QG K "put_rank" Yw)
  (h42:QM K ca4 "lay" "Makes.lay" Za)
  (h43:QM K ca4 "next_above" "Makes.next_above" xJ)
  (h44:QM K ca3 "doubt" "Jobs.doubt" qd)
  (h45:QM K ca3 "lay_down" "Jobs.lay_down" vA)
  (h46:QM K ca6 "paper" "Run.paper" Zb)
  (h47:QM K ca0 "move" "Desk.move" Zc)
  (h48:QM K ca0 "finish" "Desk.finish" jP)
  (h49:QG K "_law_spot" Zd)
  (h50:QG K "_law_term" Ze)
  (h51:QG K "_law_row" Yx)
  (h52:QG K "_law_rows" jB)
  (h53:QM K ca0 "add" "Desk.add" Yy)
  (h54:QG K "_law_seen" Zf)
  (h55:QG K "_law_alike" qe)
  (h56:QG K "_law_held_right" wq)
  (h57:QG K "_law_free_right" wt)
  (h58:QG K "_law_told_right" wu)
  (qa59:gJ K Bd "law"=U (U (.ref f59))) (ql59:K.lookup f59=U ⟨oc59,od59,.func (iN "law" "law" (xa Y6) (yC Y6) (zi Y6) .none kV59 dc59 pm59 an59 cd59 ct59),sl59⟩) (qc59:gU K cd59 "law"=D) (qk59:dQ K (.ref f59)=D)
  (qz0:gJ K Bd "bool"=U ao)
  (qz1:gJ K Bd "dict"=U ao)
  (qz2:gJ K Bd "int"=U ao)
  (qz3:gJ K Bd "isinstance"=U ao)
  (qz4:gJ K Bd "len"=U ao)
  (qz5:gJ K Bd "list"=U ao)
  (qz6:gJ K Bd "range"=U ao)
  (qz7:gJ K Bd "sorted"=U ao)
  (qz8:gJ K Bd "str"=U ao)
  (qz9:gJ K Bd "tuple"=U ao)
  (qz10:gJ K Bd "zip"=U ao)
  (qg0:gJ K Bd "JOINING"=U (U (.ref ga0))) (qh0:K.lookup ga0=U ⟨.type "tuple",ao,.seq #[.str "plus" gt0_0,.str "minus" gt0_1,.str "times" gt0_2,.str "over" gt0_3,.str "rest" gt0_4,.str "under" gt0_5,.str "same" gt0_6] gn0,#[]⟩)
  (qv0:gJ K Bd "Desk"=U (U (.ref ca0)))
  (qv1:gJ K Bd "Great"=U (U (.ref ca1)))
  (qv2:gJ K Bd "Highest"=U (U (.ref ca2)))
  (qv3:gJ K Bd "Jobs"=U (U (.ref ca3)))
  (qv4:gJ K Bd "Makes"=U (U (.ref ca4)))
  (qv5:gJ K Bd "Nought"=U (U (.ref ca5)))
  (qv6:gJ K Bd "Run"=U (U (.ref ca6)))
  (qv7:gJ K Bd "Way"=U (U (.ref ca7)))
  (pg0:gj K ca0 fT=D) (pd0:fS K ca0=D) (po0:gN K ca0=D) (pe0:b7 K (.ref ca0) "__setattr__"=U (U (.builtin "object.__setattr__"))) (pm0_:gT K ca0=D) (pk0:dQ K (.ref ca0)=D)
  (pn0_0:b7 K (.ref ca0) "codes"=U ao)
  (pn0_1:b7 K (.ref ca0) "ended"=U ao)
  (pn0_2:b7 K (.ref ca0) "first"=U ao)
  (pn0_3:b7 K (.ref ca0) "hands"=U ao)
  (pn0_4:b7 K (.ref ca0) "held"=U ao)
  (pn0_5:b7 K (.ref ca0) "jobs"=U ao)
  (pn0_6:b7 K (.ref ca0) "makes"=U ao)
  (pn0_7:b7 K (.ref ca0) "waiting"=U ao)
  (pn0_8:b7 K (.ref ca0) "way"=U ao)
  (pi2:b7 K (.ref ca2) "__init__"=U (U (.builtin "object.__init__")))
  (pg2:gj K ca2 fT=D) (pd2:fS K ca2=D) (po2:gN K ca2=D) (pe2:b7 K (.ref ca2) "__setattr__"=U (U (.builtin "object.__setattr__"))) (pm2_:gT K ca2=D) (pk2:dQ K (.ref ca2)=D)
  (pg3:gj K ca3 fT=D) (pd3:fS K ca3=D) (po3:gN K ca3=D) (pe3:b7 K (.ref ca3) "__setattr__"=U (U (.builtin "object.__setattr__"))) (pm3_:gT K ca3=D) (pk3:dQ K (.ref ca3)=D)
  (pn3_0:b7 K (.ref ca3) "doubted"=U ao)
  (pn3_1:b7 K (.ref ca3) "laid"=U ao)
  (pn3_2:b7 K (.ref ca3) "makes"=U ao)
  (pn3_3:b7 K (.ref ca3) "readers"=U ao)
  (pg4:gj K ca4 fT=D) (pd4:fS K ca4=D) (po4:gN K ca4=D) (pe4:b7 K (.ref ca4) "__setattr__"=U (U (.builtin "object.__setattr__"))) (pm4_:gT K ca4=D) (pk4:dQ K (.ref ca4)=D)
  (pn4_0:b7 K (.ref ca4) "folded"=U ao)
  (pn4_1:b7 K (.ref ca4) "ground"=U ao)
  (pn4_2:b7 K (.ref ca4) "ranks"=U ao)
  (pn4_3:b7 K (.ref ca4) "worths"=U ao)
  (pg6:gj K ca6 fT=D) (pd6:fS K ca6=D) (po6:gN K ca6=D) (pe6:b7 K (.ref ca6) "__setattr__"=U (U (.builtin "object.__setattr__"))) (pm6_:gT K ca6=D) (pk6:dQ K (.ref ca6)=D)
  (pn6_0:b7 K (.ref ca6) "at"=U ao)
  (pn6_1:b7 K (.ref ca6) "code"=U ao)
  (pn6_2:b7 K (.ref ca6) "gifts"=U ao)
  (pn6_3:b7 K (.ref ca6) "notes"=U ao)
  (pn6_4:b7 K (.ref ca6) "sayings"=U ao)
  (pn6_5:b7 K (.ref ca6) "slots"=U ao)
  (pn6_6:b7 K (.ref ca6) "why"=U ao)
  (pi7:b7 K (.ref ca7) "__init__"=U (U (.builtin "object.__init__")))
  (pg7:gj K ca7 fT=D) (pd7:fS K ca7=D) (po7:gN K ca7=D) (pe7:b7 K (.ref ca7) "__setattr__"=U (U (.builtin "object.__setattr__"))) (pm7_:gT K ca7=D) (pk7:dQ K (.ref ca7)=D)
  (rx0:pO K ca5 QU XN=D)
  (ry0:QX K ca5)
  (re0_0:iM K (.ref ca5) (.ref ca1)=U aq)
  (re0_1:iM K (.ref ca5) (.ref ca5)=U D)
  (rm0_0:rL K (.ref ca5) [(.ref ca1),(.ref ca5)]=U D)
  (rx1:pO K ca1 QU XN=D)
  (ry1:QX K ca1)
  (re1_0:iM K (.ref ca1) (.ref ca1)=U D)
  (re1_1:iM K (.ref ca1) (.ref ca5)=U aq)
  (rm1_0:rL K (.ref ca1) [(.ref ca1),(.ref ca5)]=U D):∃t,Txt K mg t:=by
 obtain⟨f0,d0,F0⟩:=QG.a1 X G "word" h0;obtain⟨f1,d1,F1⟩:=QG.a2 X G "cell" "many" h1;obtain⟨f2,d2,F2⟩:=QG.a1 X G "cell" h2;obtain⟨f3,d3,F3⟩:=QG.a1 X G "number" h3;obtain⟨f4,d4,F4⟩:=QG.a2 X G "cell" "shelves" h4;obtain⟨f5,d5,F5⟩:=QG.a2 X G "script" "k" h5;obtain⟨f6,d6,F6⟩:=QG.a2 X G "row" "at" h6;obtain⟨f7,d7,F7⟩:=QG.a2 X G "rows" "first" h7;obtain⟨f8,d8,F8⟩:=QG.a1 X G "rows" h8;have F9:=W3 (st:=xA) ql9 qc9 qk9;have F10:=W3 (st:=xT) ql10 qc10 qk10;have F11:=zco (st:=xU) ql11 qc11 qk11;obtain⟨f12,d12,F12⟩:=QM.a1 "self" h12;obtain⟨f13,d13,F13⟩:=QM.a1 "self" h13;obtain⟨f14,d14,F14⟩:=QM.a1 "self" h14;obtain⟨f15,d15,F15⟩:=QG.a3 X G "word" "first" "second" h15;obtain⟨f16,d16,F16⟩:=QG.a3 X G "word" "first" "second" h16;obtain⟨f17,d17,F17⟩:=QG.a1 X G "thing" h17;obtain⟨f18,d18,F18⟩:=QG.a3 X G "word" "first" "second" h18;obtain⟨f19,d19,F19⟩:=QG.a2 X G "term" "slots" h19;obtain⟨f20,d20,F20⟩:=QM.a2 "self" "term" h20;obtain⟨f21,d21,F21⟩:=QM.a2 "self" "due" h21;obtain⟨f22,d22,F22⟩:=QM.a1 "self" h22;obtain⟨f23,d23,F23⟩:=QM.a2 "self" "rank" h23;obtain⟨f24,d24,F24⟩:=QG.a2 X G "ranks" "rank" h24;obtain⟨f25,d25,F25⟩:=QM.a3 "self" "place" "rank" h25;obtain⟨f26,d26,F26⟩:=QM.a3 "self" "place" "worth" h26;obtain⟨f27,d27,F27⟩:=QM.a3 "self" "due" "worth" h27;obtain⟨f28,d28,F28⟩:=QM.a3 "self" "due" "worth" h28;have F29:=zco (st:=wN) ql29 qc29 qk29;obtain⟨f30,d30,F30⟩:=QM.a2 "self" "rank" h30;obtain⟨f31,d31,F31⟩:=QM.a1 "self" h31;obtain⟨f32,d32,F32⟩:=QG.a3 X G "ranks_at" "place" "rank" h32;obtain⟨f33,d33,F33⟩:=QM.a2 "self" "rank" h33;obtain⟨f34,d34,F34⟩:=QM.a2 "self" "ranks" h34;obtain⟨f35,d35,F35⟩:=QM.a2 "self" "ranks" h35;have F36:=W3 (st:=wP) ql36 qc36 qk36;obtain⟨f37,d37,F37⟩:=QM.a2 "self" "hand" h37;obtain⟨f38,d38,F38⟩:=QM.a2 "self" "hand" h38;obtain⟨f39,d39,F39⟩:=QM.a2 "self" "rank" h39;obtain⟨f40,d40,F40⟩:=QM.a2 "self" "rank" h40;obtain⟨f41,d41,F41⟩:=QG.a3 X G "ranks_at" "place" "rank" h41;obtain⟨f42,d42,F42⟩:=QM.a3 "self" "rank" "gifts" h42;obtain⟨f43,d43,F43⟩:=QM.a3 "self" "place" "rank" h43;obtain⟨f44,d44,F44⟩:=QM.a3 "self" "place" "rank" h44;obtain⟨f45,d45,F45⟩:=QM.a3 "self" "rank" "paper" h45;obtain⟨f46,d46,F46⟩:=QM.a1 "self" h46;obtain⟨f47,d47,F47⟩:=QM.a2 "self" "hand" h47;obtain⟨f48,d48,F48⟩:=QM.a1 "self" h48;obtain⟨f49,d49,F49⟩:=QG.a2 X G "number" "slots" h49;obtain⟨f50,d50,F50⟩:=QG.a2 X G "number" "slots" h50;obtain⟨f51,d51,F51⟩:=QG.a3 X G "xs" "shelves" "slots" h51;obtain⟨f52,d52,F52⟩:=QG.a3 X G "cell" "shelves" "slots" h52;obtain⟨f53,d53,F53⟩:=QM.a2 "self" "code" h53;obtain⟨f54,d54,F54⟩:=QG.a4 X G "table" "laid" "place" "rank" h54;obtain⟨f55,d55,F55⟩:=QG.a2 X G "found" "due" h55;obtain⟨f56,d56,F56⟩:=QG.a6 X G "row" "hand" "rank" "run" "table" "laid" h56;obtain⟨f57,d57,F57⟩:=QG.a4 X G "row" "hand" "added" "first" h57;obtain⟨f58,d58,F58⟩:=QG.a8 X G "row" "hand" "codes" "first" "runs" "ranks" "table" "laid" h58;have F59:=W3 (st:=Y6) ql59 qc59 qk59;exact⟨⟨f0,d0,f1,d1,f2,d2,f3,d3,f4,d4,f5,d5,f6,d6,f7,d7,f8,d8,f9,_,f10,_,f11,_,f12,d12,f13,d13,f14,d14,f15,d15,f16,d16,f17,d17,f18,d18,f19,d19,f20,d20,f21,d21,f22,d22,f23,d23,f24,d24,f25,d25,f26,d26,f27,d27,f28,d28,f29,_,f30,d30,f31,d31,f32,d32,f33,d33,f34,d34,f35,d35,f36,_,f37,d37,f38,d38,f39,d39,f40,d40,f41,d41,f42,d42,f43,d43,f44,d44,f45,d45,f46,d46,f47,d47,f48,d48,f49,d49,f50,d50,f51,d51,f52,d52,f53,d53,f54,d54,f55,d55,f56,d56,f57,d57,f58,d58,f59,_,ga0,ca0,ca1,ca2,ca3,ca4,ca5,ca6,ca7⟩,⟨F0,
  F1,
  F2,
  F3,
  F4,
  F5,
  F6,
  F7,
  F8,
  F9,F9.binds (ps:=["self","table"]) (λ_ _ _ _ _ _=>ar2 λ_ _=>rfl),
  F10,F10.binds (ps:=["self","makes"]) (λ_ _ _ _ _ _=>ar2 λ_ _=>rfl),
  F11,(λs us hK hl=>by have e:us.length=5:=(by simpa using hl);clear hl;revert us;exact ar5 λ_ _ _ _ _=>.of_defaults (T:=dA11) Y (hK _ _ qd11) Y Y Y),⟨[.int 0 dt11_0],(.cons ⟨_,Y⟩ .nil),(λs us hK hl=>by have e:us.length=4:=(by simpa using hl);clear hl;revert us;exact ar4 λ_ _ _ _=>.of_defaults (T:=dA11) Y (hK _ _ qd11) Y Y Y)⟩,
  F12,
  F13,
  F14,
  F15,
  F16,
  F17,
  F18,
  F19,
  F20,
  F21,
  F22,
  F23,
  F24,
  F25,
  F26,
  F27,
  F28,
  F29,(λs us hK hl=>by have e:us.length=2:=(by simpa using hl);clear hl;revert us;exact ar2 λ_ _=>.of_defaults (T:=dA29) Y (hK _ _ qd29) Y Y Y),⟨[.int 0 dt29_0],(.cons ⟨_,Y⟩ .nil),(λs us hK hl=>by have e:us.length=1:=(by simpa using hl);clear hl;revert us;exact ar1 λ_=>.of_defaults (T:=dA29) Y (hK _ _ qd29) Y Y Y)⟩,⟨qa29,qi29,qk29⟩,
  F30,
  F31,
  F32,
  F33,
  F34,
  F35,
  F36,F36.binds (ps:=["self","code"]) (λ_ _ _ _ _ _=>ar2 λ_ _=>rfl),
  F37,
  F38,
  F39,
  F40,
  F41,
  F42,
  F43,
  F44,
  F45,
  F46,
  F47,
  F48,
  F49,
  F50,
  F51,
  F52,
  F53,
  F54,
  F55,
  F56,
  F57,
  F58,
  F59,F59.binds (ps:=["script"]) (λ_ _ _ _ _ _=>ar1 λ_=>rfl),mx X G qa59,
  λs v=>.of_eq Y,
  eJ X G qz0,
  eJ X G qz1,
  eJ X G qz2,
  eJ X G qz3,
  eJ X G qz4,
  eJ X G qz5,
  eJ X G qz6,
  eJ X G qz7,
  eJ X G qz8,
  eJ X G qz9,
  eJ X G qz10,
  mx X G qg0,λ_=>.inr ⟨_,_,_,qh0,Y,Y,(by show 7<=Bb;decide),(.cons ⟨_,Y⟩ (.cons ⟨_,Y⟩ (.cons ⟨_,Y⟩ (.cons ⟨_,Y⟩ (.cons ⟨_,Y⟩ (.cons ⟨_,Y⟩ (.cons ⟨_,Y⟩ .nil)))))))⟩,
  mx X G qv0,
  mx X G qv1,
  mx X G qv2,
  mx X G qv3,
  mx X G qv4,
  mx X G qv5,
  mx X G qv6,
  mx X G qv7,
  ⟨pg0,pd0,po0,pe0⟩,
  ⟨pm0_,qa11,qi11,pk0⟩,
  pn0_0,
  pn0_1,
  pn0_2,
  pn0_3,
  pn0_4,
  pn0_5,
  pn0_6,
  pn0_7,
  pn0_8,
  ⟨pg2,pd2,po2,pe2⟩,
  ⟨pm2_,pi2,pk2⟩,
  ⟨pg3,pd3,po3,pe3⟩,
  ⟨pm3_,qa10,qi10,pk3⟩,
  pn3_0,
  pn3_1,
  pn3_2,
  pn3_3,
  ⟨pg4,pd4,po4,pe4⟩,
  ⟨pm4_,qa9,qi9,pk4⟩,
  pn4_0,
  pn4_1,
  pn4_2,
  pn4_3,
  ⟨pg6,pd6,po6,pe6⟩,
  ⟨pm6_,qa36,qi36,pk6⟩,
  pn6_0,
  pn6_1,
  pn6_2,
  pn6_3,
  pn6_4,
  pn6_5,
  pn6_6,
  ⟨pg7,pd7,po7,pe7⟩,
  ⟨pm7_,pi7,pk7⟩,
  rx0,
  ry0.to,
  re0_0,
  re0_1,
  rm0_0,
  rx1,
  ry1.to,
  re1_0,
  re1_1,
  rm1_0⟩⟩
structure KF(K:bu):Prop where
 i_b:fC K (.type "int") (.type "bool")=U aq
 i_s:fC K (.type "int") (.type "str")=U aq
 s_i:fC K (.type "str") (.type "int")=U aq
 i_l:fC K (.type "int") (.type "list")=U aq
 i_t:fC K (.type "int") (.type "tuple")=U aq
 s_l:fC K (.type "str") (.type "list")=U aq
 s_t:fC K (.type "str") (.type "tuple")=U aq
 t_l:fC K (.type "tuple") (.type "list")=U aq
def fin(t:bv)(r:Except Er Int)(Q:VK)(E:XK)(H:Hp):Prop:=match r with
 |.ok i=>Q (.int i) H
 |.error .nought=>E (.ref t.q07) ao H
 |.error .great=>E (.ref t.q08) ao H
 |.error .stuck=>True
def zeT(t:bv)(e:Er)(E:XK)(H:Hp):Prop:=match e with
 |.nought=>E (.ref t.q07) ao H
 |.great=>E (.ref t.q08) ao H
 |.stuck=>True
def zgc(K:bu):Prop:=fC K (.type "int") (.type "bool")=U aq
def ss(H:Hp)(nm:L)(ws:List Str):Prop:=H nm=U (.lst (ws.map V.str))/\∀w∈ws,yQ w=D
def YC:Rw->Prop
 |.off _=>False
 |.iff _ _ _=>False
 |_=>True
def Wi:Sp:=λvs H Q _=>∃i,vs=[.int i]/\∀H',aK H H'->Q (.bl (sH i)) H'
def YD(t:bv):Sp:=λvs H Q E=>∃w a b,vs=[.str w,.int a,.int b]/\w.length<=1000/\sH a=D/\sH b=D/\∀H',aK H H'->if b=0 then E (.ref t.q07) ao H' else Q (.int (if w="over" then a.fdiv b else a.fmod b)) H'
def YE(t:bv):Sp:=λvs H Q E=>∃w a b,vs=[.str w,.int a,.int b]/\w.length<=1000/\sH a=D/\sH b=D/\∀H',aK H H'->if Va w/\b=0 then E (.ref t.q07) ao H' else Q (.int (W9 w a b)) H'
def XX(t:bv):Sp:=λvs H Q E=>∃w a b,vs=[.str w,.int a,.int b]/\w.length<=1000/\sH a=D/\sH b=D/\∀H',aK H H'->fin t (ko w a b) Q E H'
def Wj(t:bv):Sp:=λvs H Q E=>∃ah tm sl ps r,vs=[.ref tm,.ref sl]/\H tm=U (.tup ps)/\H sl=U (.dK ah)/\Good ah ps r/\(∀v∈ps,kW v)/\ps.length<=1000/\xb ah/\∀H',aK H H'->fin t r Q E H'
inductive Cs where
 |row (r:Rw)
 |skip (e:List V) (to:Nat)
 |go (en:Nat)
def aZ.isNil:aZ->Bool
 |.nil=>D
 |.cons _ _=>aq
def blk(e:List V)(k:Nat)(A:List Cs)(nl:Bool)(Bo:List Cs):List Cs :=
 if nl=D then .skip e (k+1+A.length)::A else .skip e (k+2+A.length)::(A++(.go (k+2+A.length+Bo.length)::Bo))
mutual
def xv:Rw->Nat->List Cs
 |.iff e a b,k=>blk e k (z4 a (k+1)) (aZ.isNil b) (z4 b (k+2+(z4 a (k+1)).length))
 |r,_=>[.row r]
def z4:aZ->Nat->List Cs
 |.nil,_=>[]
 |.cons r rs,k=>xv r k++z4 rs (k+(xv r k).length)
end
def Vo:Rw->Prop
 |.iff _ _ _=>False
 |_=>True
def sN(H:Hp)(v:V):Cs->Prop
 |.row r=>hV V1 H v r/\Vo r
 |.skip e to=>∃p te,v=.ref p/\H p=U (.tup [.str "skip",.ref te,.int (to:Nat)])/\H te=U (.tup e)
 |.go en=>∃p,v=.ref p/\H p=U (.tup [.str "go",.int (en:Nat)])
structure WF(n:Nat)(r:aZ):Prop where
 dp:r.deep<n
 ct:r.cnt<=500
 pl:qV r
def Zg(n:Nat):Sp:=λvs H Q _=>∃v e a b,∃k:Nat,vs=[v,.int k]/\hV V1 H v (.iff e a b)/\WF n a/\WF n b/\k+(xv (.iff e a b) k).length<=500/\∀l xs H',aK H H'->H' l=U (.lst xs)->Paired (sN H') xs (xv (.iff e a b) k)->Q (.ref l) H'
def xV(n:Nat):Sp:=λvs H Q _=>∃v r,∃k:Nat,vs=[v,.int k]/\RlAt V1 H v r/\WF n r/\k+(z4 r k).length<=500/\∀l xs H',aK H H'->H l=ao->H' l=U (.lst xs)->Paired (sN H') xs (z4 r k)->Q (.ref l) H'
def Vp:Sp:=λvs H Q _=>∃v r,vs=[v]/\RlAt V1 H v r/\WF 6 r/\(z4 r 0).length<=500/\∀l xs H',aK H H'->H l=ao->H' l=U (.lst xs)->Paired (sN H') xs (z4 r 0)->Q (.ref l) H'
structure hZ where
 n:Nat
 why:Option Str
 sl:List (aV×V)
 gi:List aQ
 no:List aQ
 sa:List Int
structure RAd where
 dx:L
 co:L
 sl:L
 gi:L
 no:L
 sa:L
def ziE:Option Str->V
 |none=>.non
 |some w=>.str w
def zhz(a:RAd)(s:hZ):List (Str×V):=[(bg "code",.ref a.co),(bg "at",.int s.n),(bg "why",ziE s.why),(bg "slots",.ref a.sl),(bg "gifts",.ref a.gi),(bg "notes",.ref a.no),(bg "sayings",.ref a.sa)]
structure aY(t:bv)(H:Hp)(x:L)(a:RAd)(C:List Cs)(s:hZ):Prop where
 ix:H x=U (.ins t.q00 a.dx (zhz a s))
 hc:∃xs,H a.co=U (.lst xs)/\Paired (sN H) xs C
 hs:H a.sl=U (.dK s.sl)
 hg:H a.gi=U (.dT (sE s.gi))
 hn:H a.no=U (.dT (sE s.no))
 ha:H a.sa=U (.lst (s.sa.map V.int))
 ng:a.gi≠a.no
 nc:a.co≠a.sa
def Ow(x:L)(a:RAd)(b:L):Prop:=b=x\/b=a.sl\/b=a.gi\/b=a.no\/b=a.sa
def OwA(x:L)(a:RAd)(b:L):Prop:=Ow x a b\/b=a.co
def Kp(x:L)(a:RAd)(H H':Hp):Prop:=∀b o,¬ Ow x a b->H b=U o->H' b=U o
def J6(x:L)(H H':Hp):Prop:=∀b o,b≠x->H b=U o->H' b=U o
structure RnOk(m:Nat)(s:hZ):Prop where
 so:xb s.sl
 gw:∀r∈s.gi,sH r.2=D
 nw:∀r∈s.no,sH r.2=D
 l1:s.sl.length<=m
 l2:s.gi.length<=m
 l3:s.no.length<=m
 l4:s.sa.length<=m
 nd:(s.no.map (·.1)).Nodup
def K3:Cs->Prop
 |.row r=>qT r
 |.skip e _=>aX e
 |.go _=>True
def yt(C:List Cs)(s:hZ):Bool:=s.why.isSome || decide (C.length<=s.n)
def kB(p:Pl)(w:Int)(s:hZ):hZ:=if (zF s.gi p).isSome=D\/(zF s.no p).isSome=D then s else { s with no:=s.no++[(p,w)] }
def Vq(p:Pl)(w:Int)(s:hZ):Int:=(zF s.gi p).getD ((zF s.no p).getD w)
def sY:Rw->Int->hZ->Except Er hZ
 |.take sh e x,w,s=>match rk s.sl e with
  |.error er=>.error er
  |.ok n=>.ok { kB (sh,n) w s with sl:=yq s.sl (.inr x) (.int (Vq (sh,n) w s)) }
 |.give sh e f,_,s=>match rk s.sl e with
  |.error er=>.error er
  |.ok n=>match rk s.sl f with
   |.error er=>.error er
   |.ok i=>.ok { s with gi:=s.gi++[((sh,n),i)] }
 |.lt x e,_,s=>match rk s.sl e with
  |.error er=>.error er
  |.ok i=>.ok { s with sl:=yq s.sl (.inr x) (.int i) }
 |.say e,_,s=>match rk s.sl e with
  |.error er=>.error er
  |.ok i=>.ok { s with sa:=s.sa++[i] }
 |_,_,s=>.ok s
def vJ:Cs->Int->hZ->Except Er (Nat×hZ)
 |.go k,_,s=>.ok (k,s)
 |.skip e to,_,s=>match rk s.sl e with
  |.error er=>.error er
  |.ok i=>.ok (if i=0 then to else s.n+1,s)
 |.row (.off e),_,s=>match rk s.sl e with
  |.error er=>.error er
  |.ok i=>.ok (s.n+1,if i=0 then s else { s with why:=U (bg "told") })
 |.row r,w,s=>match sY r w s with
  |.error er=>.error er
  |.ok s'=>.ok (s.n+1,s')
def xo(c:Cs)(w:Int)(s:hZ):hZ:=match vJ c w s with
 |.ok (k,s')=>{ s' with n:=k }
 |.error er=>{ s with why:=U (zak er) }
def xj(C:List Cs)(w:Int)(s:hZ):hZ:=if yt C s=D then s else match C[s.n]? with
 |none=>s
 |some c=>xo c w s
def vD(c:Cs)(s:hZ):Option Pl:=match c with
 |.row (.take sh e _)=>match rk s.sl e with
  |.error _=>ao
  |.ok n=>if (zF s.gi (sh,n)).isSome=D\/(zF s.no (sh,n)).isSome=D then ao else U (sh,n)
 |_=>ao
def wG(C:List Cs)(s:hZ):Option Pl:=if yt C s=D then ao else (C[s.n]?).bind λc=>vD c s
abbrev zaw(H:Hp)(v:V)(q:aQ):Prop:=PrAt H v q
abbrev YF(H:Hp)(vs:List V)(aM:List aQ):Prop:=Paired (PrAt H) vs aM
def sI(H:Hp)(a:L)(aM:List aQ):Prop:=∃xs,H a=U (.lst xs)/\Paired (PrAt H) xs aM
def ziF(H:Hp)(v:V):Oc->Prop
 |.done sa=>∃o y,v=.ref o/\H o=U (.tup [.str "done",.ref y])/\H y=U (.tup (sa.map V.int))
 |.off w=>∃o,v=.ref o/\H o=U (.tup [.str "off",.str w])
def zhA(s:hZ):Oc:=match s.why with
 |some w=>.off w
 |none=>.done s.sa
def qJ(s:hZ)(out:List aQ):Prop:=match s.why with
 |some _=>out=[]
 |none=>sS out/\∀p w,(p,w)∈out↔zF s.gi p=U w
structure RnF(K:bu)(t:bv):Prop where
 cl:tq K t.q00
 n1:aP K t.q00 "code"
 n2:aP K t.q00 "at"
 n3:aP K t.q00 "why"
 n4:aP K t.q00 "slots"
 n5:aP K t.q00 "gifts"
 n6:aP K t.q00 "notes"
 n7:aP K t.q00 "sayings"
def st0:hZ:=⟨0,ao,[],[],[],[]⟩
def Zh(t:bv):Sp:=λvs H Q _=>∃x l dx xs,∃C:List Cs,vs=[.ref x,.ref l]/\H x=U (.ins t.q00 dx [])/\H l=U (.lst xs)/\Paired (sN H) xs C/\∀H' a,J6 x H H'->aY t H' x a C st0->(∀b,OwA x a b->b=x\/H b=ao)->Q .non H'
def xk(t:bv):Sp:=λvs H Q _=>∃x,∃a:RAd,∃C:List Cs,∃s:hZ,vs=[.ref x]/\aY t H x a C s/\∀H',aK H H'->Q (.bl (yt C s)) H'
def yw(t:bv):Sp:=λvs H Q E=>∃x tm e,∃a:RAd,∃C:List Cs,∃s:hZ,vs=[.ref x,.ref tm]/\aY t H x a C s/\xb s.sl/\H tm=U (.tup e)/\aX e/\∀H',aK H H'->fin t (rk s.sl e) Q E H'
def yY(t:bv):Sp:=λvs H Q E=>∃x p xs sh te e,∃a:RAd,∃C:List Cs,∃s:hZ,vs=[.ref x,.ref p]/\aY t H x a C s/\xb s.sl/\H p=U (.tup xs)/\tE xs 1=U (.str sh)/\tE xs 2=U (.ref te)/\H te=U (.tup e)/\aX e /\
 (∀i q H',rk s.sl e=.ok i->aK H H'->H' q=U (.tup [.str sh,.int i])->Q (.ref q) H')/\∀er H',rk s.sl e=.error er->aK H H'->zeT t er E H'
def qf(t:bv):Sp:=λvs H Q _=>∃x q,∃p:Pl,∃w,∃a:RAd,∃C:List Cs,∃s:hZ,vs=[.ref x,.ref q,.int w]/\aY t H x a C s/\H q=U (.tup [.str p.1,.int p.2])/\s.no.length<=900/\∀H',Kp x a H H'->aY t H' x a C (kB p w s)->Q (.int (Vq p w s)) H'
def Zi(t:bv):Sp:=λvs H Q E=>∃x v r w,∃m:Nat,∃a:RAd,∃C:List Cs,∃s:hZ,vs=[.ref x,v,.int w]/\aY t H x a C s/\hV V1 H v r/\YC r/\qT r/\RnOk m s/\m<=900 /\
 (∀H' s',sY r w s=.ok s'->Kp x a H H'->aY t H' x a C s'->Q .non H')/\∀H' er,sY r w s=.error er->aK H H'->zeT t er E H'
def jQ(t:bv):Sp:=λvs H Q E=>∃x v c w,∃m:Nat,∃a:RAd,∃C:List Cs,∃s:hZ,vs=[.ref x,v,.int w]/\aY t H x a C s/\sN H v c/\K3 c/\RnOk m s/\m<=900 /\
 (∀H' s' k,vJ c w s=.ok (k,s')->Kp x a H H'->aY t H' x a C s'->Q (.int (k:Nat)) H')/\∀H' er,vJ c w s=.error er->aK H H'->zeT t er E H'
def xW(t:bv):Sp:=λvs H Q _=>∃x w,∃m:Nat,∃a:RAd,∃C:List Cs,∃s:hZ,vs=[.ref x,.int w]/\aY t H x a C s/\(∀c∈C,K3 c)/\RnOk m s/\m<=900/\∀H',Kp x a H H'->aY t H' x a C (xj C w s)->Q .non H'
def jC(t:bv):Sp:=λvs H Q _=>∃x,∃a:RAd,∃C:List Cs,∃s:hZ,vs=[.ref x]/\aY t H x a C s/\(∀c∈C,K3 c)/\xb s.sl/\(∀H',wG C s=ao->aK H H'->Q .non H')/\∀p q H',wG C s=U p->aK H H'->H' q=U (.tup [.str p.1,.int p.2])->Q (.ref q) H'
def vK(t:bv):Sp:=λvs H Q _=>∃x,∃a:RAd,∃C:List Cs,∃s:hZ,vs=[.ref x]/\aY t H x a C s/\s.no.length<=900/\(s.no.map (·.1)).Nodup/\s.gi.length<=63/\(∀H',yt C s=aq->aK H H'->Q .non H') /\
 ∀r o nl gl out H',yt C s=D->aK H H'->H nl=ao->H gl=ao->nl≠gl->H' r=U (.tup [o,.ref nl,.ref gl])->ziF H' o (zhA s)->sI H' nl s.no->sI H' gl out->qJ s out->Q (.ref r) H'
def wdJ(w:Str):Prop:=isJ (.str w)=D/\w.length<=1000/\b9 w=D
def lfV(v:V):Prop:=(∃i,v=.int i/\sH i=D)\/∃x,v=.str x/\yQ x=D
def okD(d:Int):Prop:=0<=d/\d<1000000000000
def yf(K:bu):Sp:=λvs H Q _=>∃a,∃ns:List Int,∃k:Nat,vs=[.ref a,.int k]/\aT K H a (ns.map V.int)/\ns.length<=63/\(∀i∈ns,Cb i)/\∀c H',aK H H'->Cb c->Q (.int c) H'
def xp:Sp:=λvs H Q _=>∃c,∃m:Nat,vs=[.int c,.int m]/\m<=22/\∀(l:L) (ds:List Int) (H':Hp),aK H H'->H l=ao->H' l=U (.lst (ds.map V.int))->ds.length=m->(∀d∈ds,okD d)->Q (.ref l) H'
def Xa(P:Nat->Bool)(x:Str):Prop:=x.cps.toList.all P=D
def smW(w:Str):Prop:=1<=w.length/\w.length<=6/\Xa inL w
def yu:Sp:=λvs H Q _=>∃w,vs=[.str w]/\smW w/\∀x H',yQ x=D->aK H H'->Q (.str x) H'
def vL:Sp:=λvs H Q _=>∃c,vs=[.int c]/\∀nm ws H',aK H H'->H nm=ao->ss H' nm ws->ws.length=2->Q (.ref nm) H'
def xi:Sp:=λvs H Q _=>∃n,vs=[.int n]/\0<=n/\n<1000000000000/\∀w H',sH w=D->aK H H'->Q (.int w) H'
def qg:Sp:=λvs H Q _=>∃n a ws,vs=[.int n,.ref a]/\okD n/\ss H a ws/\ws.length=2/\∀p e H',aK H H'->H p=ao->H' p=U (.tup e)->aX e->tmP e->Q (.ref p) H'
def vM:Sp:=λvs H Q _=>∃n a ws,vs=[.int n,.ref a]/\okD n/\ss H a ws/\ws.length=2/\∀p e H',aK H H'->H p=ao->H' p=U (.tup e)->aX e->tmP e->Q (.ref p) H'
def jR:Sp:=λvs H Q _=>∃c a ws,vs=[.int c,.ref a]/\ss H a ws/\ws.length=2/\∀l tab H',aK H H'->H l=ao->sI H' l tab->sS tab->(∀r∈tab,b9 r.1.1=D/\sH r.2=D/\r.2≠0)->tab.length<=5->Q (.ref l) H'
mutual
def szR:Rw->Nat
 |.iff _ a b=>Zj a+Zj b+2
 |_=>1
def Zj:aZ->Nat
 |.nil=>0
 |.cons r rs=>szR r+Zj rs
end
def zgd:Cs->Prop
 |.row r=>Vk r
 |_=>True
structure V6(C:List Cs):Prop where
 ok:∀c∈C,K3 c
 pl:∀c∈C,zgd c
 fw:∀(i to:Nat) (e:List V),C[i]?=U (Cs.skip e to)->i<to
 fg:∀(i to:Nat),C[i]?=U (Cs.go to)->i<to
 le:C.length<=40
structure RnI(C:List Cs)(m:Nat)(s:hZ):Prop where
 ok:RnOk m s
 ng:∀r∈s.gi,b9 r.1.1=D
 nn:∀r∈s.no,b9 r.1.1=D
 at_:s.why=ao->m<=s.n
 wy:∀w,s.why=U w->b9 w=D
def ziG(C:List Cs)(tb:Pl->Int)(s:hZ):Int:=match wG C s with
 |none=>0
 |some p=>tb p
def ziH(C:List Cs)(tb:Pl->Int)(s:hZ):hZ:=xj C (ziG C tb s) s
def ziI(C:List Cs)(tb:Pl->Int):Nat->hZ->hZ
 |0,s=>s
 |k+1,s=>ziI C tb k (ziH C tb s)
noncomputable def giS(s:hZ):List aQ:=@Classical.epsilon (List aQ) ⟨[]⟩ (qJ s)
inductive AlkV (H:Hp):Nat->V->V->Prop
 |int {n:Nat} (i:Int):AlkV H (n+1) (.int i) (.int i)
 |str {n:Nat} (x:Str):AlkV H (n+1) (.str x) (.str x)
 |tup {n:Nat} {a b:L} {xs ys:List V}:H a=U (.tup xs)->H b=U (.tup ys)->xs.length=ys.length->(∀(i:Nat) (x y:V),xs[i]?=U x->ys[i]?=U y->AlkV H n x y)->AlkV H (n+1) (.ref a) (.ref b)
def y9(n:Nat):Sp:=λvs H Q _=>∃v u,vs=[v,u]/\AlkV H n v u/\∀H',aK H H'->Q (.bl D) H'
structure rwW(r:Rw):Prop where
 nf:Vo r
 pl:Vk r
 ok:qT r
def Zk:Sp:=λvs H Q _=>∃p a b,∃ds:List Int,∃us ws:List Str,vs=[.ref p,.ref a,.ref b]/\H p=U (.lst (ds.map V.int))/\ds.length=3/\(∀d∈ds,okD d)/\ss H a us/\us.length=2/\ss H b ws/\ws.length=2/\∀v r H',aK H H'->hV (λb=>H b=ao) H' v r->rwW r->Q v H'
def aZ.of:List Rw->aZ
 |[]=>.nil
 |r::rs=>.cons r (aZ.of rs)
structure zge(rs:List Rw):Prop where
 dp:(aZ.of rs).deep<=1
 pl:qV (aZ.of rs)
 ok:Z6 (aZ.of rs)
 sz:(rs.map λr=>match r with|.iff _ a b=>a.cnt+b.cnt+3|_=>1).sum<=11
def qh:Sp:=λvs H Q _=>∃c a b,∃us ws:List Str,vs=[.int c,.ref a,.ref b]/\ss H a us/\us.length=2/\ss H b ws/\ws.length=2/\∀l rs H',aK H H'->RlAt (λb=>H b=ao) H' (.ref l) (aZ.of rs)->zge rs->Q (.ref l) H'
def Vr(p:Pl)(made:Int):List aQ->Int×Int->Int×Int
 |[],s=>s
 |r::rs,s=>Vr p made rs (if r.1=p then (made,r.2) else s)
def wH(p:Pl)(ac:Int):List (Int×List aQ)->Int×Int->Int×Int
 |[],s=>s
 |l::ls,s=>wH p ac ls (if s.1<l.1/\l.1<ac then Vr p l.1 l.2 s else s)
def yj(aM:List aQ)(lays:List (Int×List aQ))(p:Pl)(ac:Int):Int:=(wH p ac lays (-1,(zF aM p).getD 0)).2
structure WG(gs:List aQ):Prop where
 nd:(gs.map (·.1)).Nodup
 le:gs.length<=63
def ZW(lays:List (Int×List aQ))(p:Pl)(r:Int):Prop:=∃gs,(r,gs)∈lays/\p∈gs.map (·.1)
structure sw(H:Hp)(rk:L)(F:L->Prop)(P:Pl->Int->Prop)(ah:List (List aV×V)):Prop where
 at_:H rk=U (.dT ah)
 nk:(ah.map (·.1)).Nodup
 nv:(ah.map (·.2)).Nodup
 ls:∀kv∈ah,∃(p:Pl) (a:L) (rs:List Int),kv=(zC p,.ref a)/\F a/\H a=U (.lst (rs.map V.int))/\rs.Pairwise (· < ·)/\rs≠[]/\∀r,r∈rs↔P p r
 al:∀p r,P p r->zC p∈ah.map (·.1)
def zax(H:Hp)(rk:L)(F:L->Prop)(kv:aV×V)(y:Int×List aQ):Prop:=kv.1=.inl y.1/\∃d,kv.2=.ref d/\F d/\d≠rk/\H d=U (.dT (sE y.2))
def YG(gr:L)(low:Int)(wo rk:L):List (Str×V):=[(bg "ground",.ref gr),(bg "folded",.int low),(bg "worths",.ref wo),(bg "ranks",.ref rk)]
structure MrIn(t:bv)(H:Hp)(m:L)(F:L->Prop)(g:List aQ)(l:List (Int×List aQ))(low:Int)(dx gr wo rk:L)(wk:List (aV×V))(kk:List (List aV×V)):Prop where
 im:H m=U (.ins t.q02 dx (YG gr low wo rk))
 fg:F gr
 fw:F wo
 fk:F rk
 nr:gr≠rk
 hg:H gr=U (.dT (sE g))
 hw:H wo=U (.dK wk)
 wp:Paired (zax H rk F) wk l
 rr:sw H rk F (ZW l) kk
theorem sw.keep{H H':Hp}{rk:L}{F F':L->Prop}{P:Pl->Int->Prop}(h:sw H rk F P ah)(fk:F rk)(k:∀b o,F b->H b=U o->H' b=U o)(ff:∀b,F b->F' b):sw H' rk F' P ah:=
 ⟨k _ _ fk h.at_,h.nk,h.nv,λkv hk=>let ⟨p,a,rs,e,fa,ha,z⟩:=h.ls kv hk;⟨p,a,rs,e,ff a fa,k _ _ fa ha,z⟩,h.al⟩
theorem MrIn.keep{H H':Hp}{m:L}{F:L->Prop}{g:List aQ}{l:List (Int×List aQ)}{low:Int}{dx gr wo rk:L}{wk:List (aV×V)}{kk:List (List aV×V)}(h:MrIn t H m F g l low dx gr wo rk wk kk)(me:F m)(k:∀b o,F b->H b=U o->H' b=U o):MrIn t H' m F g l low dx gr wo rk wk kk:=
 ⟨k _ _ me h.im,h.fg,h.fw,h.fk,h.nr,k _ _ h.fg h.hg,k _ _ h.fw h.hw,Paired.mapP h.wp λ_ _ ⟨e,d,e2,fd,nd,hd⟩=>⟨e,d,e2,fd,nd,k _ _ fd hd⟩,h.rr.keep h.fk k λ_ z=>z⟩
structure sU(t:bv)(H:Hp)(m:L)(F:L->Prop)(g:List aQ)(l:List (Int×List aQ))(low:Int):Prop where
 own:∀b,F b->∃o,H b=U o
 me:F m
 nd:(l.map (·.1)).Nodup
 ok:∀y∈l,0<=y.1/\WG y.2
 ex:∃dx gr wo rk wk kk,MrIn t H m F g l low dx gr wo rk wk kk
theorem kC{gr wo rk:L}{low:Int}(h:f≠bg "ground"/\f≠bg "folded"/\f≠bg "worths"/\f≠bg "ranks"):cQ f (YG gr low wo rk)=ao:=by
 obtain⟨h1,h2,h3,h4⟩:=h;simp only[YG,b8,beq_eq_false_iff_ne.mpr h1,beq_eq_false_iff_ne.mpr h2,beq_eq_false_iff_ne.mpr h3,beq_eq_false_iff_ne.mpr h4,List.lookup_nil]
theorem sU.ins{H:Hp}{F:L->Prop}{l:List (Int×List aQ)}{low:Int}(h:sU t H m F g l low):∃dx fs,H m=U (.ins t.q02 dx fs)/\cQ (bg "lay") fs=ao/\cQ (bg "seen") fs=ao/\cQ (bg "kept") fs=ao/\cQ (bg "fold") fs=ao/\cQ (bg "table_for") fs=ao:=by
 obtain⟨dx,gr,wo,rk,wk,kk,z⟩:=h.ex;exact⟨dx,_,z.im,kC (),kC (),kC (),kC (),kC ()⟩
theorem sU.keep{H H':Hp}{F:L->Prop}{l:List (Int×List aQ)}{low:Int}(h:sU t H m F g l low)(k:∀b o,F b->H b=U o->H' b=U o):sU t H' m F g l low:=
 ⟨λb hb=>let ⟨o,e⟩:=h.own b hb;⟨o,k b o hb e⟩,h.me,h.nd,h.ok,let ⟨dx,gr,wo,rk,wk,kk,z⟩:=h.ex;⟨dx,gr,wo,rk,wk,kk,z.keep h.me k⟩⟩
def sO(t:bv)(H:Hp)(m:L)(F:L->Prop)(g:List aQ)(l:List (Int×List aQ)):Prop:=sU t H m F g l 0
theorem sO.own{H:Hp}{F:L->Prop}{l:List (Int×List aQ)}(h:sO t H m F g l):∀b,F b->∃o,H b=U o:=sU.own h
theorem sO.me{H:Hp}{F:L->Prop}{l:List (Int×List aQ)}(h:sO t H m F g l):F m:=sU.me h
theorem sO.ins{H:Hp}{F:L->Prop}{l:List (Int×List aQ)}(h:sO t H m F g l):∃dx fs,H m=U (.ins t.q02 dx fs)/\cQ (bg "lay") fs=ao/\cQ (bg "seen") fs=ao/\cQ (bg "kept") fs=ao:=let ⟨dx,fs,a,b,c,d,_⟩:=sU.ins h;⟨dx,fs,a,b,c,d⟩
theorem sO.keep{H H':Hp}{F:L->Prop}{l:List (Int×List aQ)}(h:sO t H m F g l)(k:∀b o,F b->H b=U o->H' b=U o)(ts:∀b zs,H b=U (.tup zs)->H' b=U (.tup zs)):sO t H' m F g l:=sU.keep h k
theorem sO.same{H H':Hp}{F:L->Prop}{l:List (Int×List aQ)}(h:sO t H m F g l)(s:aK H H'):sO t H' m F g l:=h.keep (λb o _ e=>s b o e) λb zs e=>s b _ e
def wQ(lays:List (Int×List aQ))(ac:Int)(gs:List aQ):List (Int×List aQ):=(lays.filter λy=>decide (y.1≠ac))++[(ac,gs)]
def yM:Sp:=λvs H Q _=>∃a,∃rs:List Int,∃ac,vs=[.ref a,.int ac]/\H a=U (.lst (rs.map V.int))/\rs.Pairwise (· < ·)/\∀(k:Nat) H',aK H H'->k<=rs.length->(∀r∈rs.take k,r<ac)->(∀r∈rs.drop k,ac<=r)->Q (.int k) H'
def xK(t:bv):Sp:=λvs H Q _=>∃m dx,∃fs:List (Str×V),∃low ac,vs=[.ref m,.int ac]/\H m=U (.ins t.q02 dx fs)/\fs.lookup (bg "folded")=U (.int low)/\low<=ac/\∀H',aK H H'->Q .non H'
def V7(lays:List (Int×List aQ))(ac:Int):List (Int×List aQ):=lays.filter λy=>decide (y.1≠ac)
def hU(G:L->Prop)(rk:L)(H H':Hp):Prop:=∀b o,H b=U o->b≠rk->((∀xs,o≠.lst xs)\/¬ G b)->H' b=U o
def Dm(H H':Hp):Prop:=∀b o,H b=U o->∃o',H' b=U o'/\∀zs,o'=.tup zs->o=.tup zs
def jD:Sp:=λvs H Q _=>∃rk pl ac,∃G:L->Prop,∃P:Pl->Int->Prop,∃kk:List (List aV×V),∃q0:Pl,vs=[.ref rk,.ref pl,.int ac]/\sw H rk G P kk/\G rk/\(∀b,H b=ao->G b)/\H pl=U (.tup ((zC q0).map kV))/\¬ P q0 ac/\kk.length<=18900/\(∀rs:List Int,rs.Pairwise (· < ·)->(∀r∈rs,P q0 r)->rs.length<=300)/\∀H' kk',hU G rk H H'->Dm H H'->sw H' rk G (λp r=>P p r\/(r=ac/\p=q0)) kk'->Q .non H'
def ww:Sp:=λvs H Q _=>∃rk pl ac,∃G:L->Prop,∃P:Pl->Int->Prop,∃kk,∃q0:Pl,vs=[.ref rk,.ref pl,.int ac]/\sw H rk G P kk/\G rk/\H pl=U (.tup ((zC q0).map kV))/\P q0 ac/\∀H' kk',hU G rk H H'->Dm H H'->sw H' rk G (λp r=>P p r/\¬ (r=ac/\p=q0)) kk'->Q .non H'
def yS(t:bv):Sp:=λvs H Q _=>∃m ac F g lays low,vs=[.ref m,.int ac]/\sU t H m F g lays low/\∀l ys gs H',aK H H'->H l=ao->H' l=U (.lst ys)->Paired (zde H') ys (sE gs)->((ac,gs)∈lays\/(ac ∉ lays.map (·.1)/\gs=[]))->Q (.ref l) H'
def xL(t:bv):Sp:=λvs H Q _=>∃m ac F g lays low,vs=[.ref m,.int ac]/\sU t H m F g lays low/\∀H' F',(∀b o,¬ F b->H b=U o->H' b=U o)->(∀b zs,H b=U (.tup zs)->H' b=U (.tup zs))->sU t H' m F' g (V7 lays ac) low->(∀b,F' b->F b\/H b=ao)->(∀b,F b->F' b)->Q .non H'
def jS(t:bv):Sp:=λvs H Q _=>∃x h dx aM,vs=[.ref x,.ref h]/\H x=U (.ins t.q02 dx [])/\sI H h aM/\aM.length<=63/\∀H' F,J6 x H H'->sO t H' x F aM []->(∀b,F b->b=x\/H b=ao)->Q .non H'
def Xb(t:bv):Sp:=λvs H Q _=>∃m ac gv F g lays gs,vs=[.ref m,.int ac,.ref gv]/\sO t H m F g lays/\0<=ac/\sI H gv gs/\¬ F gv/\WG gs/\lays.length<=200/\∀H' F',(∀b o,¬ F b->H b=U o->H' b=U o)->(∀b zs,H b=U (.tup zs)->H' b=U (.tup zs))->sO t H' m F' g (wQ lays ac gs)->(∀b,F' b->F b\/H b=ao)->(∀b,F b->F' b)->Q .non H'
def jT(t:bv):Sp:=λvs H Q _=>∃m p ac F g lays q,vs=[.ref m,.ref p,.int ac]/\sO t H m F g lays/\0<=ac/\H p=U (.tup [.str q.1,.int q.2])/\∀H',aK H H'->Q (.int (yj g lays q ac)) H'
inductive Ev where
 |rest
 |step (r:Int)
 |read (r:Int) (p:Pl) (w:Int)
 |take (r:Int)
 |lay (r:Int)
 |settle (r:Int)
 |again (r:Int) (p:Pl) (o n:Int)
abbrev He:=Int×Ev
def evW:Ev->Str
 |.rest=>"rest"
 |.step _=>"step"
 |.read ..=>"read"
 |.take _=>"take"
 |.lay _=>"lay"
 |.settle _=>"settle"
 |.again ..=>"again"
def evX(q:L):Ev->List V
 |.rest=>[]
 |.step r=>[.int r]
 |.read r _ w=>[.int r,.ref q,.int w]
 |.take r=>[.int r]
 |.lay r=>[.int r]
 |.settle r=>[.int r]
 |.again r _ o n=>[.int r,.ref q,.int o,.int n]
def evP:Ev->Option Pl
 |.read _ p _=>U p
 |.again _ p _ _=>U p
 |_=>ao
def sV(H:Hp)(v:V)(x:He):Prop:=∃a q,v=.ref a/\H a=U (.tup (.str (evW x.2)::.int x.1::evX q x.2))/\∀p,evP x.2=U p->H q=U (.tup [.str p.1,.int p.2])
structure DS where
 ws:List Int
 hl:List (Int×Int×Nat×hZ)
 ld:List (Int×hZ×List aQ)
 ls:List (Int×List aQ)
 en:Nat
def ZX{β:Type}(l:List (Int×β))(h:Int)(b:β):List (Int×β):=l.map λe=>if e.1=h then (h,b) else e
def yg{β:Type}(l:List (Int×β))(h:Int):List (Int×β):=l.filter λe=>decide (e.1≠h)
inductive Mv (f:Int) (g:List aQ) (CC:List (List Cs)) (S:DS) (h:Int):Ev->DS->Prop
 |step {r j s C}:(h,r,j,s)∈S.hl->CC[(r-f).toNat]?=U C->yt C s=aq->wG C s=ao->Mv f g CC S h (.step r) { S with hl:=ZX S.hl h (r,j+1,xj C 0 s) }
 |read {r j s C p}:(h,r,j,s)∈S.hl->CC[(r-f).toNat]?=U C->yt C s=aq->wG C s=U p->Mv f g CC S h (.read r p (yj g S.ls p r)) { S with hl:=ZX S.hl h (r,j+1,xj C (yj g S.ls p r) s) }
 |lay {r j s C gi}:(h,r,j,s)∈S.hl->CC[(r-f).toNat]?=U C->yt C s=D->qJ s gi->Mv f g CC S h (.lay r) { S with hl:=yg S.hl h,ls:=wQ S.ls r gi,ld:=S.ld++[(r,s,gi)] }
 |settle {s gi}:(f+S.en,s,gi)∈S.ld->h ∉ S.hl.map (·.1)->Mv f g CC S h (.settle (f+S.en)) { S with ld:=yg S.ld (f+S.en),en:=S.en+1 }
 |again {r s gi p o ws'}:(r,s,gi)∈S.ld->(p,o)∈s.no->yj g S.ls p r≠o->ws'.Perm (r::S.ws)->ws'.Pairwise (· < ·)->h ∉ S.hl.map (·.1)->Mv f g CC S h (.again r p o (yj g S.ls p r)) { S with ld:=yg S.ld r,ws:=ws' }
 |take {r}:r∈S.ws->h ∉ S.hl.map (·.1)->Mv f g CC S h (.take r) { S with ws:=S.ws.erase r,hl:=S.hl++[(h,r,0,st0)] }
 |rest:S.ws=[]->f+(S.en:Int) ∉ S.ld.map (·.1)->h ∉ S.hl.map (·.1)->Mv f g CC S h .rest S
structure zbN(no gi:List aQ):Prop where
 nd:(no.map (·.1)).Nodup
 ng:(gi.map (·.1)).Nodup
 ln:no.length<=40
 lg:gi.length<=40
def vN(f:Int)(k n:Nat):List Int:=(dt (n-k)).map λi:Nat=>f+(k:Int)+(i:Int)
structure zgf(CC:List (List Cs)):Prop where
 ok:∀C∈CC,V6 C/\C.length<=11
 le:CC.length<=5
structure mt(n f:Int)(g:List aQ)(CC:List (List Cs))(S:DS):Prop where
 f0:0<=f
 cc:zgf CC
 el:S.en<=CC.length
 pm:(S.ws++(S.hl.map (·.2.1)++S.ld.map (·.1))).Perm (vN f S.en CC.length)
 so:S.ws.Pairwise (· < ·)
 hn:(S.hl.map (·.1)).Nodup
 hr:∀e∈S.hl,0<=e.1/\e.1<n
 rn:∀e∈S.hl,∃C,CC[(e.2.1-f).toNat]?=U C/\RnI C e.2.2.1 e.2.2.2/\e.2.2.1<=11
 nt:∀e∈S.ld,zbN e.2.1.no e.2.2
 ly:∀y∈S.ls,f<=y.1/\y.1<f+CC.length
 gw:∀p,sH ((zF g p).getD 0)=D
 lw:∀y∈S.ls,∀w∈y.2,sH w.2=D
def Agr(g:List aQ)(ls:List (Int×List aQ))(r:Int)(no:List aQ):Prop:=∀y∈no,yj g ls y.1 r=y.2
structure tI where
 dx:L
 wy:L
 dw:L
 cl:L
 wl:L
 hd:L
 mks:L
 jb:L
 dj:L
 en:L
 la:L
 re:L
 db:L
def Xc(a:tI)(n f:Int):List (Str×V):=[(bg "hands",.int n),(bg "way",.ref a.wy),(bg "first",.int f),(bg "codes",.ref a.cl),(bg "waiting",.ref a.wl),(bg "held",.ref a.hd),(bg "makes",.ref a.mks),(bg "jobs",.ref a.jb),(bg "ended",.ref a.en)]
def V8(m la re db:L):List (Str×V):=[(bg "makes",.ref m),(bg "laid",.ref la),(bg "readers",.ref re),(bg "doubted",.ref db)]
def dbL(db:List Int):List (aV×V):=db.map λr=>(.inl r,.bl D)
def tG(t:bv)(d:L)(a:tI)(n f:Int)(wo:HO)(cs:List V)(ws:List Int)(kv la:List (aV×V))(db:List Int)(en:List V):List (L×HO):=[(d,.ins t.q01 a.dx (Xc a n f)),(a.wy,wo),(a.jb,.ins t.q03 a.dj (V8 a.mks a.la a.re a.db)),(a.cl,.lst cs),(a.wl,.lst (ws.map V.int)),(a.hd,.dK kv),(a.la,.dK la),(a.db,.dK (dbL db)),(a.en,.lst en)]
def tO(H:Hp)(v:V)(C:List Cs):Prop:=∃a ys,v=.ref a/\H a=U (.lst ys)/\Paired (sN H) ys C
structure sF(t:bv)(H:Hp)(lb:L->Nat)(Bp:List (L×HO))(m re:L)(g:List aQ)(lays:List (Int×List aQ))(P:Pl->Int->Prop)(cs:List V)(CC:List (List Cs)):Prop where
 ob:∀(i:Nat) b o,Bp[i]?=U (b,o)->H b=U o/\lb b=i+1
 ms:sO t H m (λb=>lb b=10) g lays
 rr:∃kk,sw H re (λb=>lb b=11) P kk
 rl:lb re=11
 cc:Paired (λv C=>tO H v C/\∀c,v=.ref c->lb c=13) cs CC
 ow:∀b,lb b≠0->∃o,H b=U o
structure Fr(M:Nat->Prop)(H H':Hp)(lb lb':L->Nat):Prop where
 ex:∀b o,H b=U o->lb' b=lb b
 kp:∀b o,M (lb b)->H b=U o->H' b=U o
 ts:∀b zs,H b=U (.tup zs)->H' b=U (.tup zs)
 al:∀b o,H b=U o->∃o',H' b=U o'
def M0(l:Nat):Prop:=l=0\/l=14
def M1(l:Nat):Prop:=l=0\/14<=l
def tM(H:Hp)(lb:L->Nat)(r:L)(no gi:List aQ):Prop:=∃o nl gl,H r=U (.tup [o,.ref nl,.ref gl])/\sI H nl no/\sI H gl gi/\lb nl=14/\lb gl=14
def Pk{β:Type}(R:Int->V->β->Prop)(kv:List (aV×V))(l:List (Int×β)):Prop:=Paired (λx e=>x.1=.inl e.1/\R e.1 x.2 e.2) kv l
def HdAt(t:bv)(H:Hp)(lb:L->Nat)(f:Int)(CC:List (List Cs))(h:Int)(v:V)(e:Int×Nat×hZ):Prop:=∃tp x ra C,v=.ref tp/\H tp=U (.tup [.int e.1,.ref x])/\CC[(e.1-f).toNat]?=U C/\aY t H x ra C e.2.2/\∀b,OwA x ra b->lb b=20+h.toNat
def Xd(H:Hp)(lb:L->Nat)(_:Int)(v:V)(e:hZ×List aQ):Prop:=∃r,v=.ref r/\tM H lb r e.1.no e.2
def tu(ld:List (Int×hZ×List aQ))(p:Pl)(i:Int):Prop:=∃e∈ld,e.1=i/\p∈e.2.1.no.map (·.1)
def zhB(t:bv)(a:tI)(wo:HO):Prop:=wo=.ins t.q0a a.dw []\/wo=.ins t.q0e a.dw []
structure sK(ld:List (Int×hZ×List aQ))(db:List Int):Prop where
 nd:db.Nodup
 su:∀r∈db,r∈ld.map (·.1)
def tj(t:bv)(H:Hp)(d:L)(a:tI)(lb:L->Nat)(n f:Int)(g:List aQ)(CC:List (List Cs))(S:DS):Prop:=∃wo cs kv la db en,sF t H lb (tG t d a n f wo cs S.ws kv la db en) a.mks a.re g S.ls (tu S.ld) cs CC/\Pk (HdAt t H lb f CC) kv S.hl/\Pk (Xd H lb) la S.ld/\sK S.ld db/\en.length=S.en/\zhB t a wo
structure DkF(K:bu)(t:bv):Prop where
 cD:tq K t.q01
 cJ:tq K t.q03
 d1:aP K t.q01 "hands"
 d2:aP K t.q01 "way"
 d3:aP K t.q01 "first"
 d4:aP K t.q01 "codes"
 d5:aP K t.q01 "waiting"
 d6:aP K t.q01 "held"
 d7:aP K t.q01 "makes"
 d8:aP K t.q01 "jobs"
 d9:aP K t.q01 "ended"
 j1:aP K t.q03 "makes"
 j2:aP K t.q03 "laid"
 j3:aP K t.q03 "readers"
 j4:aP K t.q03 "doubted"
def xD(t:bv):Sp:=λvs H Q _=>∃m p ac F g lays q,vs=[.ref m,.ref p,.int ac]/\sO t H m F g lays/\H p=U (.tup ((zC q).map kV))/\∀v H',aK H H'->(v=.non\/∃i,v=.int i)->Q v H'
def qk(t:bv):Sp:=λvs H Q _=>∃x m dx,vs=[.ref x,.ref m]/\H x=U (.ins t.q03 dx [])/\∀H' la re db,J6 x H H'->H' x=U (.ins t.q03 dx (V8 m la re db))->H' la=U (.dK [])->H' re=U (.dT [])->H' db=U (.dK [])->H la=ao->H re=ao->H db=ao->la≠db->Q .non H'
structure JD where
 d:L
 a:tI
 lb:L->Nat
 n:Int
 f:Int
 wo:HO
 cs:List V
 ws:List Int
 kv:List (aV×V)
 la:List (aV×V)
 db:List Int
 en:List V
 g:List aQ
 lays:List (Int×List aQ)
 ld:List (Int×hZ×List aQ)
 CC:List (List Cs)
def JD.O(J:JD)(t:bv)(H:Hp):Prop:=sF t H J.lb (tG t J.d J.a J.n J.f J.wo J.cs J.ws J.kv J.la J.db J.en) J.a.mks J.a.re J.g J.lays (tu J.ld) J.cs J.CC
def Z7(t:bv):Sp:=λvs H Q _=>∃J:JD,∃p ac,∃q:Pl,vs=[.ref J.a.jb,.ref p,.int ac]/\J.O t H/\sK J.ld J.db/\J.ld.length<=10/\H p=U (.tup ((zC q).map kV))/\∀H' db',Fr M1 H H' J.lb J.lb->JD.O { J with db:=db' } t H'->sK J.ld db'->Q .non H'
def kD(t:bv):Sp:=λvs H Q _=>∃J:JD,∃r ac,∃s:hZ,∃gi:List aQ,vs=[.ref J.a.jb,.int ac,.ref r]/\J.O t H/\Pk (Xd H J.lb) J.la J.ld/\sK J.ld J.db/\(∀e∈J.ld,zbN e.2.1.no e.2.2)/\J.ld.length<=10/\ac ∉ J.ld.map (·.1)/\0<=ac/\J.lays.length<=10/\tM H J.lb r s.no gi/\zbN s.no gi/\∀H' lb' la' db',Fr M1 H H' J.lb lb'->JD.O { J with lb:=lb',la:=la',db:=db',lays:=wQ J.lays ac gi,ld:=J.ld++[(ac,s,gi)] } t H'->Pk (Xd H' lb') la' (J.ld++[(ac,s,gi)])->sK (J.ld++[(ac,s,gi)]) db'->Q .non H'
def ve(t:bv):Sp:=λvs H Q _=>∃d:L,∃a:tI,∃lb:L->Nat,∃Bp la,∃g:List aQ,∃lays:List (Int×List aQ),∃P:Pl->Int->Prop,∃cs CC ac r,∃no gi:List aQ,vs=[.ref a.jb,.int ac]/\sF t H lb Bp a.mks a.re g lays P cs CC/\Bp[2]?=U (a.jb,.ins t.q03 a.dj (V8 a.mks a.la a.re a.db))/\Bp[6]?=U (a.la,.dK la)/\yc la (.inl ac)=U (.ref r)/\0<=ac/\tM H lb r no gi/\(∀H',aK H H'->Q .non H')/\∀v H' q y,aK H H'->y∈no->yj g lays y.1 ac≠y.2->H' v=U (.tup [.ref q,.int y.2,.int (yj g lays y.1 ac)])->H' q=U (.tup [.str y.1.1,.int y.1.2])->Q (.ref v) H'
def wx(t:bv):Sp:=λvs H Q _=>∃J:JD,vs=[.ref J.a.jb]/\J.O t H/\Pk (Xd H J.lb) J.la J.ld/\sK J.ld J.db/\J.ld.length<=10/\(∀e∈J.ld,0<=e.1)/\(∀H' db',Fr M1 H H' J.lb J.lb->JD.O { J with db:=db' } t H'->sK J.ld db'->Q .non H')/\∀v H' db' q r s gi y,Fr M1 H H' J.lb J.lb->JD.O { J with db:=db' } t H'->sK J.ld db'->(r,s,gi)∈J.ld->y∈s.no->yj J.g J.lays y.1 r≠y.2->H' v=U (.tup [.int r,.ref q,.int y.2,.int (yj J.g J.lays y.1 r)])->H' q=U (.tup [.str y.1.1,.int y.1.2])->Q (.ref v) H'
def wR(t:bv):Sp:=λvs H Q _=>∃(J:JD) (ac:Int) (s:hZ) (gi:List aQ),vs=[.ref J.a.jb,.int ac]/\J.O t H/\Pk (Xd H J.lb) J.la J.ld/\sK J.ld J.db/\(J.ld.map (·.1)).Nodup/\(ac,s,gi)∈J.ld/\(s.no.map (·.1)).Nodup/\∀r H' lb' la' db',Fr M1 H H' J.lb lb'->JD.O { J with lb:=lb',la:=la',db:=db',ld:=yg J.ld ac } t H'->Pk (Xd H' lb') la' (yg J.ld ac)->sK (yg J.ld ac) db'->Q (.ref r) H'
def wz(t:bv):Sp:=λvs H Q _=>∃x l w dx dw n f wo,∃g:List aQ,vs=[.ref x,.ref l,.int n,.ref w,.int f]/\H x=U (.ins t.q01 dx [])/\sI H l g/\g.length<=63/\H w=U wo/\w≠x/\∀H' a lb,a.wy=w->a.dw=dw->(∀b o,b≠x->H b=U o->H' b=U o)->(∀b o,b≠x->b≠w->H b=U o->lb b=0)->sF t H' lb (tG t x a n f wo [] [] [] [] [] []) a.mks a.re g [] (tu []) [] []->Q .non H'
def xI(t:bv):Sp:=λvs H Q _=>∃d dx,∃a:tI,∃n f,∃en:List V,vs=[.ref d]/\H d=U (.ins t.q01 dx (Xc a n f))/\H a.en=U (.lst en)/\Q (.int (f+en.length)) H
def wA(t:bv):Sp:=λvs H Q _=>∃d dx,∃a:tI,∃n f,∃cs:List V,vs=[.ref d]/\H d=U (.ins t.q01 dx (Xc a n f))/\H a.cl=U (.lst cs)/\Q (.int (f+cs.length)) H
def zdh(f:Int)(n:Nat)(S:DS):DS:={ S with ws:=S.ws++[f+n] }
def jE(t:bv):Sp:=λvs H Q _=>∃d v,∃a:tI,∃lb:L->Nat,∃n f,∃g:List aQ,∃CC:List (List Cs),∃C:List Cs,∃S:DS,vs=[.ref d,v]/\tO H v C/\tj t H d a lb n f g CC S/\CC.length<=10/\S.ws.length<=10/\∀H' lb',Fr M0 H H' lb lb'->tj t H' d a lb' n f g (CC++[C]) (zdh f CC.length S)->Q (.int (f+CC.length)) H'
def Z8(t:bv):Sp:=λvs H Q _=>∃x l,∃ws:List Int,vs=[.ref x,.ref l]/\H l=U (.lst (ws.map V.int))/\ws≠[]/\∀w∈ws,Q (.int w) H
def jF(t:bv):Sp:=λvs H Q _=>∃x l,∃ws:List Int,vs=[.ref x,.ref l]/\H l=U (.lst (ws.map V.int))/\ws≠[]/\∀w∈ws,Q (.int w) H
def wS(t:bv):Sp:=λvs H Q _=>∃d,∃a:tI,∃lb:L->Nat,∃n f h,∃g:List aQ,∃CC,∃S:DS,vs=[.ref d,.int h]/\tj t H d a lb n f g CC S/\mt n f g CC S/\h ∉ S.hl.map (·.1)/\S.ws≠[]/\∀v H' lb' r,Fr M0 H H' lb lb'->r∈S.ws->sV H' v (h,.take r)->tj t H' d a lb' n f g CC { S with ws:=S.ws.erase r,hl:=S.hl++[(h,r,0,st0)] }->Q v H'
def mvP(t:bv)(H:Hp)(d:L)(a:tI)(lb:L->Nat)(n f h:Int)(g:List aQ)(CC:List (List Cs))(S:DS)(Q:VK):Prop:=∀v H' lb' e S',Fr M0 H H' lb lb'->sV H' v (h,e)->Mv f g CC S h e S'->tj t H' d a lb' n f g CC S'->Q v H'
def xM(t:bv):Sp:=λvs H Q _=>∃d,∃a:tI,∃lb:L->Nat,∃n f h,∃g:List aQ,∃CC,∃S:DS,vs=[.ref d,.int h]/\tj t H d a lb n f g CC S/\mt n f g CC S/\h ∉ S.hl.map (·.1)/\mvP t H d a lb n f h g CC S Q
def vO(t:bv):Sp:=λvs H Q _=>∃d,∃a:tI,∃lb:L->Nat,∃n f h,∃g:List aQ,∃CC,∃S:DS,vs=[.ref d,.int h]/\tj t H d a lb n f g CC S/\mt n f g CC S/\0<=h/\h<n/\mvP t H d a lb n f h g CC S Q
def v7(t:bv):Sp:=λvs H Q _=>∃(d:L) (a:tI) (lb:L->Nat) (n f:Int) (g:List aQ) (CC:List (List Cs)) (S:DS) (J:List He->DS->Prop),vs=[.ref d]/\tj t H d a lb n f g CC S/\mt n f g CC S/\1<=n/\n<=8/\J [] S/\(∀es S h e S',J es S->mt n f g CC S->h=(es.length:Int)%n->Mv f g CC S h e S'->J (es++[(h,e)]) S')/\∀l xs es H' lb' S',Fr M0 H H' lb lb'->lb' l=0->H l=ao->H' l=U (.lst xs)->Paired (sV H') xs es->xs.length<=10000->J es S'->mt n f g CC S'->S'.en=CC.length->tj t H' d a lb' n f g CC S'->Q (.ref l) H'
structure TbK(g:List aQ):Prop where
 nd:(g.map (·.1)).Nodup
 so:∀r∈g,b9 r.1.1=D
structure LdR(H:Hp)(lw:L->Nat)(kv:List (aV×V))(rs:List Int)(ls:List (Int×List aQ)):Prop where
 ks:kv.map (·.1)=rs.map fQ
 nd:rs.Nodup
 mm:∀r,r∈rs↔r∈ls.map (·.1)
 vv:∀y∈ls,∃gl,yc kv (.inl y.1)=U (.ref gl)/\sI H gl y.2/\lw gl=5
 nl:(ls.map (·.1)).Nodup
 tk:∀y∈ls,TbK y.2
 z0:∀y∈ls,0<=y.1
 le:rs.length<=10
def ql:Sp:=λvs H Q _=>∃tl ll p ac,∃g:List aQ,∃kv rs,∃ls:List (Int×List aQ),∃lw:L->Nat,∃q:Pl,vs=[.ref tl,.ref ll,.ref p,.int ac]/\sI H tl g/\TbK g/\H ll=U (.dK kv)/\LdR H lw kv rs ls/\H p=U (.tup [.str q.1,.int q.2])/\b9 q.1=D/\∀H',aK H H'->Q (.int (yj g ls q ac)) H'
def HlE(C:List Cs)(s:hZ)(g:List aQ)(ls:List (Int×List aQ))(r:Int):Ev->Prop
 |.lay r'=>r'=r/\yt C s=D
 |.step r'=>r'=r/\yt C s=aq/\wG C s=ao
 |.read r' p w=>r'=r/\yt C s=aq/\wG C s=U p/\w=yj g ls p r
 |_=>False
def hlW:Ev->Int
 |.read _ _ w=>w
 |_=>0
def Wk:Ev->Bool
 |.lay _=>D
 |_=>aq
def xl(t:bv):Sp:=λvs H Q _=>∃v h r x tl ll,∃ra:RAd,∃C:List Cs,∃s:hZ,∃j:Nat,∃e:Ev,∃g:List aQ,∃kv rs,∃ls:List (Int×List aQ),∃lw:L->Nat,vs=[v,.int h,.int r,.ref x,.ref tl,.ref ll]/\sV H v (h,e)/\aY t H x ra C s/\V6 C/\RnI C j s/\j<=11/\sI H tl g/\TbK g/\H ll=U (.dK kv)/\LdR H lw kv rs ls/\HlE C s g ls r e /\
 (∀H' gl gi,Wk e=D->(∀b o,b≠ll->H b=U o->H' b=U o)->H' ll=U (.dK (yq kv (.inl r) (.ref gl)))->H gl=ao->sI H' gl gi->qJ s gi->Q (.bl D) H')/\∀H',Wk e=aq->Kp x ra H H'->aY t H' x ra C (xj C (hlW e) s)->Q (.bl D) H'
def FrE(f m:Int):Ev->Prop
 |.rest=>True
 |.take r=>0<=r-f/\r-f<m
 |.settle r=>0<=r-f/\r-f<m
 |.again r _ _ _=>0<=r-f/\r-f<m
 |_=>False
def xN:Sp:=λvs H Q _=>∃v h f m,∃e:Ev,vs=[v,.int h,.int m,.int f]/\sV H v (h,e)/\FrE f m e/\∀H',aK H H'->Q (.bl D) H'
def RuAt(t:bv)(H:Hp)(lw:L->Nat)(f:Int)(CC:List (List Cs))(hl:List (Int×Int×Nat×hZ))(h:Nat)(v:V):Prop:=(v=.non/\(h:Int) ∉ hl.map (·.1))\/∃x ra r j s C,v=.ref x/\((h:Int),r,j,s)∈hl/\CC[(r-f).toNat]?=U C/\aY t H x ra C s/\∀b,OwA x ra b->lw b=20+h
structure sP(t:bv)(H:Hp)(lw:L->Nat)(rl kl ll:L)(n f:Int)(CC:List (List Cs))(hl:List (Int×Int×Nat×hZ))(ls:List (Int×List aQ)):Prop where
 rr:∃us,H rl=U (.lst us)/\(us.length:Int)=n/\∀(h:Nat) v,us[h]?=U v->RuAt t H lw f CC hl h v
 kk:∃ks:List Int,H kl=U (.lst (ks.map V.int))/\(ks.length:Int)=n/\∀e∈hl,ks[e.1.toNat]?=U e.2.1
 dd:∃kv rs,H ll=U (.dK kv)/\LdR H lw kv rs ls
 l1:lw rl=1
 l2:lw kl=2
 l3:lw ll=3
 ow:∀b,lw b≠0->∃o,H b=U o
def N0(l:Nat):Prop:=l=0
def yT(t:bv):Sp:=λvs H Q _=>∃v h f n al rl kl tl ll,∃lw:L->Nat,∃cvs,∃g:List aQ,∃CC,∃S S':DS,∃e:Ev,vs=[v,.int h,.ref al,.int f,.ref rl,.ref kl,.ref tl,.ref ll]/\sV H v (h,e)/\H al=U (.lst cvs)/\Paired (tO H) cvs CC/\sI H tl g/\TbK g/\lw tl=0/\sP t H lw rl kl ll n f CC S.hl S.ls/\mt n f g CC S/\0<=h/\h<n/\n<=8/\Mv f g CC S h e S'/\∀H' lw',Fr N0 H H' lw lw'->sP t H' lw' rl kl ll n f CC S'.hl S'.ls->Q (.bl D) H'
def sp_law(K:bu):Sp:=λvs H Q _=>∃a,∃ns:List Int,vs=[.ref a]/\aT K H a (ns.map V.int)/\ns.length<=63/\(∀i∈ns,Cb i)/\∀H',Q (.bl D) H'
section
variable(K:bu)(t:bv)
def jG(K:bu)(t:bv):TS:=zo (zS (zG (aL (rIn K aq) (Z 0) (y7 (zc (tC (.str "take")) (zc (tC (.str "give")) (zc (tC (.str "let")) (zc (tC (.str "say")) (zc (tC (.str "off")) (zc (tC (.str "if")) (zc (tC (.str "else")) (zc (tC (.str "end")) (zc (tC (.str "as")) zj))))))))))))
   (zL (aL JO (Z 0) (tC (.str "z"))))
   zK)
  (zo (zS (zG (aL (rIn K aq) (Z 0) (y7 (zc (tC (.str "plus")) (zc (tC (.str "minus")) (zc (tC (.str "times")) (zc (tC (.str "over")) (zc (tC (.str "rest")) (zc (tC (.str "under")) (zc (tC (.str "same")) zj))))))))))
    (zL (aL JO (Z 0) (tC (.str "z"))))
    zK)
  (zL (Z 0)))
def Z9(K:bu)(t:bv):TS:=zo (zN (xZ zj) (zt 2))
  (zo (zN (aL aF (aL aE (Z 0) (tC (.int 1000003))) (tC (.int 17))) (zt 3))
  (zo (zN (aL aF (aL aE (aL aG (Z 0) (tC (.int 1000003))) (tC (.int 999983))) (tC (.int 29))) (zt 4))
  (zo (vS (Wa (zc (Z 1) zj)) (zt 5)
    (zo (zN (aL aE (aL aF (aL aF (aL aJ (Z 3) (Z 3)) (aL aJ (tC (.int 3)) (Z 4))) (Z 5)) (tC (.int 1000003))) (zt 3))
  (zo (zN (aL aE (aL aF (aL aF (aL aJ (Z 4) (Z 3)) (aL aJ (tC (.int 7)) (Z 3))) (tC (.int 11))) (tC (.int 999983))) (zt 4))
  (yk (tBM K "list" yH (Z 2) (zc (aL aF (aL aJ (Z 3) (tC (.int 999983))) (Z 4)) zj))))))
  (zL (Z 2)))))
def v9(K:bu)(t:bv):TS:=zo (zS (VW (zG (aL sR (aL aE (aL aG (Z 0) (tC (.int 900))) (tC (.int 3))) (tC (.int 0)))) (zG (aL aH (sG (wa K) (zc (Z 3) zj)) (tC (.int 6)))))
   (zL (xZ (zc (Z 3) (zc (zR yu [] E0 (zc (aL JO (Z 3) (Z 5)) zj)) zj))))
   zK)
  (zo (zS (VW (zG (aL sR (aL aE (aL aG (Z 0) (tC (.int 900))) (tC (.int 3))) (tC (.int 1)))) (zG (aL aH (sG (wa K) (zc (Z 3) zj)) (tC (.int 6)))))
    (zL (xZ (zc (zR yu [] E0 (zc (aL JO (Z 5) (Z 3)) zj)) (zc (Z 3) zj))))
    zK)
  (zL (xZ (zc (Z 3) (zc (zR yu [] E0 (zc (aL JO (aL JO (tSl zhl (Z 3) kP (vV (Z 4))) (Z 5)) (tSl zhl (Z 3) (vV (aL aF (Z 4) (tC (.int 1)))) kP)) zj)) zj)))))
def Zl:TS:=zo (zN (aL aE (aL aG (Z 0) (tC (.int 6))) (sG (wa K) (zc (Z 3) zj))) (zt 4))
  (zo (zN (aL zdJ (Z 1) (aL aE (aL aF (aL aF (tBM K "str" JQ (Z 1) (zc (aL zdJ (Z 3) (Z 4)) zj)) (tC (.int 1))) (aL aE (aL aG (Z 0) (tC (.int 36))) (tC (.int 25)))) (tC (.int 26)))) (zt 5))
  (v9 K t))
def Zm:TS:=zo (zN (zR yu [] E0 (zc (Z 2) zj)) (zt 3))
  (Zl K t)
def qm:TS:=zo (zN (tC (.str "abcdefghijklmnopqrstuvwxyz")) (zt 1))
  (zo (zN (tBM K "str" (XO K) (tC (.str "")) (zc (kh (xx K (zR xp [] E0 (zc (Z 0) (zc (aL aF (tC (.int 1)) (aL aE (Z 0) (tC (.int 6)))) zj)))) (zt 0) VZ (aL zdJ (Z 1) (aL aE (Z 0) (tC (.int 26)))) 1 [1]) zj)) (zt 2))
  (Zm K t))
def Zn(K:bu)(t:bv):TS:=zo (zS (zG (aL sR (aL aE (Z 0) (tC (.int 4))) (tC (.int 0))))
   (zL (aL aI (aL aE (aL aJ (Z 0) (aL (rI Ko λi j=>.int (i^j.toNat)) (tC (.int 1000000007)) (tC (.int 3)))) (aL aF (aL aJ (tC (.int 2)) (aL (rI Ko λi j=>.int (i^j.toNat)) (tC (.int 10)) (tC (.int 30)))) (tC (.int 1)))) (aL (rI Ko λi j=>.int (i^j.toNat)) (tC (.int 10)) (tC (.int 30)))))
   zK)
  (zL (aL aI (aL aE (aL aG (Z 0) (tC (.int 4))) (tC (.int 6))) (tC (.int 2))))
def Ya(K:bu)(t:bv):TS:=zo (zN (zR xp [] E0 (zc (Z 0) (zc (tC (.int 10)) zj))) (zt 2))
  (zo (zN Yn (zt 3))
  (zo (vS (Wa (zc (aL aE (Z 0) (tC (.int 6))) zj)) (zt 4)
    (zo (zN (zR xi [] E0 (zc (aL (yV K) (Z 2) (aL aF (Z 4) (tC (.int 5)))) zj)) (zt 5))
  (zS (zG (aL rNe (Z 5) (tC (.int 0))))
   (qA (Z 3) (y7 (zc (aL (yV K) (Z 1) (aL aE (aL (yV K) (Z 2) (Z 4)) (tC (.int 2)))) (zc (aL aE (aL aG (aL (yV K) (Z 2) (Z 4)) (tC (.int 2))) (tC (.int 3))) zj))) (Z 5))
   zK)))
  (zL (kh (xx K (sG zej (zc (Z 3) zj))) (zt 0) VZ (y7 (zc (Z 0) (zc (j6 (Z 1) (Z 0)) zj))) 1 [3]))))
def qC(K:bu)(t:bv):TS:=zo (zS (zG (aL aH (Z 1) (sG (wa K) (zc (Z 0) zj))))
   (zL (aL (yV K) (Z 0) (Z 1)))
   zK)
  (zL (tC (.int 0)))
def XY(K:bu)(t:bv)(n:Nat):TS:=zL (aL QH (xZ (zc (y7 (zc (tC (.str "skip")) (zc (aL (yJ K) (Z 0) (tC (.int 1))) (zc (Z 3) zj)))) zj)) (Z 2))
def XZ(K:bu)(t:bv)(n:Nat):TS:=zo (zN (zR (xV  n) [] E0 (zc (aL (yJ K) (Z 0) (tC (.int 3))) (zc (aL aF (Z 3) (tC (.int 1))) zj))) (zt 4))
  (zL (aL QH (aL QH (aL QH (xZ (zc (y7 (zc (tC (.str "skip")) (zc (aL (yJ K) (Z 0) (tC (.int 1))) (zc (aL aF (Z 3) (tC (.int 1))) zj)))) zj)) (Z 2)) (xZ (zc (y7 (zc (tC (.str "go")) (zc (aL aF (aL aF (Z 3) (tC (.int 1))) (sG (wa K) (zc (Z 4) zj))) zj))) zj))) (Z 4)))
def kE(n:Nat):TS:=zo (zS (zG (aL (zbr K) (aL (yJ K) (Z 0) (tC (.int 3))) (xZ zj)))
   (XY K t n)
   zK)
  (XZ K t n)
def Zo(n:Nat):TS:=zo (zN (zR (xV  n) [] E0 (zc (aL (yJ K) (Z 0) (tC (.int 2))) (zc (aL aF (Z 1) (tC (.int 1))) zj))) (zt 2))
  (zo (zN (aL aF (aL aF (Z 1) (tC (.int 1))) (sG (wa K) (zc (Z 2) zj))) (zt 3))
  (kE K t n))
def Wl(K:bu)(t:bv)(n:Nat):TS:=zo (zN (xZ zj) (zt 2))
  (zo (vS (xx K (Z 0)) (zt 3)
    (zS (zG (aL sR (aL (yJ K) (Z 3) (tC (.int 0))) (tC (.str "if"))))
    (yk (tBM K "list" zaq (Z 2) (zc (zR (Zg  n) [] E0 (zc (Z 3) (zc (aL aF (Z 1) (sG (wa K) (zc (Z 2) zj))) zj))) zj)))
    (yk (tBM K "list" yH (Z 2) (zc (Z 3) zj)))))
  (zL (Z 2)))
def Vs(K:bu)(t:bv):TS:=zL (zR (xV  6) [] E0 (zc (Z 0) (zc (tC (.int 0)) zj)))
def jU(K:bu)(t:bv):TS:=zo (xY K (Z 0) (sG zeo (zc (Z 1) zj)) "ground")
  (zo (xY K (Z 0) (tC (.int 0)) "folded")
  (zo (xY K (Z 0) Ym "worths")
  (xY K (Z 0) Yn "ranks")))
def qo(K:bu)(t:bv):TS:=zo (xY K (Z 0) (Z 1) "makes")
  (zo (xY K (Z 0) Ym "laid")
  (zo (xY K (Z 0) Yn "readers")
  (xY K (Z 0) Ym "doubted")))
def qp:TS:=zo (xY K (Z 0) (Z 2) "hands")
  (zo (xY K (Z 0) (Z 3) "way")
  (zo (xY K (Z 0) (Z 4) "first")
  (zo (xY K (Z 0) (xZ zj) "codes")
  (zo (xY K (Z 0) (xZ zj) "waiting")
  (zo (xY K (Z 0) Ym "held")
  (zo (xY K (Z 0) (Wd t.q02 (jS t) [] E0 (zc (Z 1) zj)) "makes")
  (zo (xY K (Z 0) (Wd t.q03 (qk t) [] E0 (zc (zV K (Z 0) "makes") zj)) "jobs")
  (xY K (Z 0) (xZ zj) "ended"))))))))
def qD(K:bu)(t:bv):TS:=zL (aL aF (zV K (Z 0) "first") (sG (wa K) (zc (zV K (Z 0) "ended") zj)))
def jH(K:bu)(t:bv):TS:=zL (aL aF (zV K (Z 0) "first") (sG (wa K) (zc (zV K (Z 0) "codes") zj)))
def Wm(K:bu)(t:bv):TS:=zL (zh0 (aL QT (zV K (Z 0) "why") (tC .non)) (aL (rI0 λi j=>.bl (decide (j<=i))) (zV K (Z 0) "at") (sG (wa K) (zc (zV K (Z 0) "code") zj))))
def Vt(K:bu)(t:bv)(E:XK):TS:=zo (zS (zG (aL sR (Z 2) (tC (.int 0))))
   (zbq t.q07 (zc (zdT (Z 0)) zj) E)
   zK)
  (zL (tIf (zG (aL sR (Z 0) (tC (.str "over")))) (aL (rI zgR λi j=>.int (i.fdiv j)) (Z 1) (Z 2)) (aL (rI (λ_ j=>j≠0) λi j=>.int (i.fmod j)) (Z 1) (Z 2))))
def Vu(K:bu)(t:bv)(E:XK):TS:=zo (zS (zG (aL sR (Z 0) (tC (.str "plus"))))
   (zL (aL aF (Z 1) (Z 2)))
   zK)
  (zo (zS (zG (aL sR (Z 0) (tC (.str "minus"))))
    (zL (aL aI (Z 1) (Z 2)))
    zK)
  (zo (zS (zG (aL sR (Z 0) (tC (.str "times"))))
    (zL (aL aJ (Z 1) (Z 2)))
    zK)
  (zo (zS (zG (aL sR (Z 0) (tC (.str "under"))))
    (zL (tIf (zG (aL aH (Z 1) (Z 2))) (tC (.int 1)) (tC (.int 0))))
    zK)
  (zo (zS (zG (aL sR (Z 0) (tC (.str "same"))))
    (zL (tIf (zG (aL sR (Z 1) (Z 2))) (tC (.int 1)) (tC (.int 0))))
    zK)
  (zL (zR (YD t) [] E (zc (Z 0) (zc (Z 1) (zc (Z 2) zj)))))))))
def Zp(K:bu)(t:bv):TS:=zo (zS (tOr (kL (tB (sG (ki K) (zc (Z 0) (zc (tC (.ty "int")) zj))))) (tB (sG (ki K) (zc (Z 0) (zc (tC (.ty "bool")) zj)))))
   (zL (tC (.bl aq)))
   zK)
  (zL (zbf (rI0 λi j=>.bl (decide (i<=j))) (rI0 λi j=>.bl (decide (i<=j))) (tUn (rU λi=>.int (-i)) (aL (rI Ko λi j=>.int (i^j.toNat)) (tC (.int 10)) (tC (.int 30)))) (Z 0) (aL (rI Ko λi j=>.int (i^j.toNat)) (tC (.int 10)) (tC (.int 30)))))
def J7(K:bu)(t:bv)(E:XK):TS:=zo (zN (zR (YE t) [] E (zc (Z 0) (zc (Z 1) (zc (Z 2) zj)))) (zt 3))
  (zo (zS (kL (tB (zR Wi [] E (zc (Z 3) zj))))
    (zbq t.q08 (zc (zdT (Z 0)) zj) E)
    zK)
  (zL (Z 3)))
def V9(E:XK):TS:=zo (zN (zfJ K "list" W8 (Z 2)) (zt 4))
  (zo (zN (zfJ K "list" W8 (Z 2)) (zt 5))
  (yk (tBM K "list" yH (Z 2) (zc (zR (XX t) [] E (zc (Z 3) (zc (Z 5) (zc (Z 4) zj)))) zj))))
def Ja(K:bu)(t:bv)(E:XK):TS:=yk (tBM K "list" yH (Z 2) (zc (tIf (tB (sG (ki K) (zc (Z 3) (zc (tC (.ty "str")) zj)))) (qO (Z 1) (Z 3) (tC (.int 0))) (Z 3)) zj))
def Jb(E:XK):TS:=zS (zG (aL (rIn K aq) (Z 3) (tC (.ref t.q0r))))
   (V9 K t E)
   (Ja K t E)
def Wn(E:XK):TS:=zo (zN (xZ zj) (zt 2))
  (zo (vS (zh2 K (Z 0)) (zt 3)
    (Jb K t E))
  (zL (zfJ K "list" W8 (Z 2))))
def qE(E:XK):TS:=zL (zR (Wj t) [] E (zc (Z 1) (zc (zV K (Z 0) "slots") zj)))
def qF(E:XK):TS:=zL (y7 (zc (aL (yJ K) (Z 1) (tC (.int 1))) (zc (zW t.q00 "worth_of" (yw t) [] E (Z 0) (zc (aL (yJ K) (Z 1) (tC (.int 2))) zj)) zj)))
def Jc(K:bu)(t:bv):TS:=zo (zS (tOr (zG (aL (zad aq) (Z 1) (zV K (Z 0) "gifts"))) (zG (aL (zad aq) (Z 1) (zV K (Z 0) "notes"))))
   (zL (tC .non))
   zK)
  (zL (Z 1))
def Jd:TS:=zo (zgY K (zgP (zbB t.q00 "place_in" (yY t) (Z 0) (zc (aL (yV K) (zV K (Z 0) "code") (zV K (Z 0) "at")) zj)) 1) t.q08 t.q07 (zL (tC .non)))
  (Jc K t)
def Wo:TS:=zo (zS (tOr (tB (zW t.q00 "over" (xk t) [] E0 (Z 0) zj)) (zG (aL rNe (aL (yJ K) (aL (yV K) (zV K (Z 0) "code") (zV K (Z 0) "at")) (tC (.int 0))) (tC (.str "take")))))
   (zL (tC .non))
   zK)
  (Jd K t)
def ja(K:bu)(t:bv):TS:=zS (zG (aL aH (Z 1) (zV K (Z 0) "folded")))
   zba
   zK
def Yb(K:bu)(t:bv):TS:=zo (zN (tC (.int 0)) (zt 2))
  (zo (zN (sG (wa K) (zc (Z 0) zj)) (zt 3))
  (zo (zbb (zG (aL aH (Z 2) (Z 3))) (zo (zN (aL aG (aL aF (Z 2) (Z 3)) (tC (.int 2))) (zt 4))
  (zS (zG (aL aH (aL (yV K) (Z 0) (Z 4)) (Z 1)))
   (zN (aL aF (Z 4) (tC (.int 1))) (zt 2))
   (zN (Z 4) (zt 3)))))
  (zL (Z 2))))
def jV:TS:=zo (yk (zW t.q02 "heed_fold" (xK t) [] E0 (Z 0) (zc (Z 2) zj)))
  (zo (zN (qO (zV K (Z 0) "ranks") (Z 1) (xZ zj)) (zt 3))
  (zo (zN (zR yM [] E0 (zc (Z 3) (zc (Z 2) zj))) (zt 4))
  (zo (zS (zG (aL sR (Z 4) (tC (.int 0))))
    (zL (qO (zV K (Z 0) "ground") (Z 1) (tC (.int 0))))
    zK)
  (zL (j6 (j6 (zV K (Z 0) "worths") (aL (yV K) (Z 3) (aL aI (Z 4) (tC (.int 1))))) (Z 1))))))
def Xe(K:bu)(t:bv):TS:=zo (zS (zG (aL (zad aq) (Z 1) (zV K (Z 0) "gifts")))
   (zL (j6 (zV K (Z 0) "gifts") (Z 1)))
   zK)
  (zo (zS (zG (aL (zad D) (Z 1) (zV K (Z 0) "notes")))
    (qA (zV K (Z 0) "notes") (Z 1) (Z 2))
    zK)
  (zL (j6 (zV K (Z 0) "notes") (Z 1))))
def Je(E:XK):TS:=qA (zV K (Z 0) "slots") (aL (yJ K) (Z 1) (tC (.int 1))) (zW t.q00 "worth_of" (yw t) [] E (Z 0) (zc (aL (yJ K) (Z 1) (tC (.int 2))) zj))
def Yc(E:XK):TS:=yk (tBM K "list" yH (zV K (Z 0) "sayings") (zc (zW t.q00 "worth_of" (yw t) [] E (Z 0) (zc (aL (yJ K) (Z 1) (tC (.int 1))) zj)) zj))
def Jf(E:XK):TS:=zo (zN (zW t.q00 "place_in" (yY t) [] E (Z 0) (zc (Z 1) zj)) (zt 3))
  (qA (zV K (Z 0) "gifts") (Z 3) (zW t.q00 "worth_of" (yw t) [] E (Z 0) (zc (aL (yJ K) (Z 1) (tC (.int 3))) zj)))
def Jg(E:XK):TS:=qA (zV K (Z 0) "slots") (aL (yJ K) (Z 1) (tC (.int 3))) (zW t.q00 "taken" (qf t) [] E (Z 0) (zc (zW t.q00 "place_in" (yY t) [] E (Z 0) (zc (Z 1) zj)) (zc (Z 2) zj)))
def Wp(E:XK):TS:=zS (zG (aL sR (aL (yJ K) (Z 1) (tC (.int 0))) (tC (.str "take"))))
   (Jg K t E)
   (zS (zG (aL sR (aL (yJ K) (Z 1) (tC (.int 0))) (tC (.str "give"))))
   (Jf K t E)
   (zS (zG (aL sR (aL (yJ K) (Z 1) (tC (.int 0))) (tC (.str "let"))))
   (Je K t E)
   (Yc K t E)))
def WH(E:XK):TS:=zS (zG (aL rNe (zW t.q00 "worth_of" (yw t) [] E (Z 0) (zc (aL (yJ K) (Z 1) (tC (.int 1))) zj)) (tC (.int 0))))
   (xY K (Z 0) (tC (.str "told")) "why")
   zK
def WI(K:bu)(t:bv)(E:XK):TS:=yk (zW t.q00 "does" (Zi t) [] E (Z 0) (zc (Z 1) (zc (Z 2) zj)))
def WJ(E:XK):TS:=zL (tIf (zG (aL sR (zW t.q00 "worth_of" (yw t) [] E (Z 0) (zc (aL (yJ K) (Z 1) (tC (.int 1))) zj)) (tC (.int 0)))) (aL (yJ K) (Z 1) (tC (.int 2))) (aL aF (zV K (Z 0) "at") (tC (.int 1))))
def WK(E:XK):TS:=zo (zS (zG (aL sR (aL (yJ K) (Z 1) (tC (.int 0))) (tC (.str "off"))))
   (WH K t E)
   (WI K t E))
  (zL (aL aF (zV K (Z 0) "at") (tC (.int 1))))
def WL(E:XK):TS:=zo (zS (zG (aL sR (aL (yJ K) (Z 1) (tC (.int 0))) (tC (.str "skip"))))
   (WJ K t E)
   zK)
  (WK K t E)
def Yd(E:XK):TS:=zo (zS (zG (aL sR (aL (yJ K) (Z 1) (tC (.int 0))) (tC (.str "go"))))
   (zL (aL (yJ K) (Z 1) (tC (.int 1))))
   zK)
  (WL K t E)
def Wq:TS:=zo (zS (tB (zW t.q00 "over" (xk t) [] E0 (Z 0) zj))
   zgJ
   zK)
  (zep K (zgX K (Z 0) (zbB t.q00 "led_by" (jQ t) (Z 0) (zc (aL (yV K) (zV K (Z 0) "code") (zV K (Z 0) "at")) (zc (Z 1) zj))) "at") t.q08 (xY K (Z 0) (tC (.str "great")) "why") t.q07 (xY K (Z 0) (tC (.str "nought")) "why"))
def vf:TS:=zo (vS (xx K (aL (yJ K) (j6 (zV K (Z 0) "laid") (Z 1)) (tC (.int 1)))) (Kn K 2 (w4 (zt 2) (w4 (zt 3) Km)))
   (zo (zN (zW t.q02 "seen" (jT t) [] E0 (zV K (Z 0) "makes") (zc (Z 2) (zc (Z 1) zj))) (zt 4))
  (zS (zG (aL rNe (Z 4) (Z 3)))
   (zL (y7 (zc (Z 2) (zc (Z 3) (zc (Z 4) zj)))))
   zK)))
  (zL (tC .non))
def wB:TS:=zo (zN (sG zg0 (zc (zV K (Z 0) "doubted") zj)) (zt 1))
  (zo (vS (xx K (Z 1)) (zt 2)
    (zo (zN (zW t.q03 "changed_note" (ve t) [] E0 (Z 0) (zc (Z 2) zj)) (zt 3))
  (zo (zS (zG (aL QT (Z 3) (tC .non)))
    (zL (aL (zdI K) (y7 (zc (Z 2) zj)) (Z 3)))
    zK)
  (yk (Kz (zV K (Z 0) "doubted") (Z 2))))))
  (zL (tC .non)))
def Xf(K:bu)(t:bv):TS:=zo (zN (j6 (Z 0) (Z 1)) (zt 3))
  (zo (yk (tBM K "list" qX (Z 3) (zc (Z 2) zj)))
  (zS (zG (aL (zbr K) (Z 3) (xZ zj)))
   (yk (zeK (Z 0) (Z 1)))
   zK))
def kF(K:bu)(t:bv):TS:=zo (zN (Kz (zV K (Z 0) "laid") (Z 1)) (zt 2))
  (zo (yk (zbn (zV K (Z 0) "doubted") (Z 1) (tC .non)))
  (zo (vS (xx K (aL (yJ K) (Z 2) (tC (.int 1)))) (Kn K 2 (w4 (zt 3) (w4 (zt 4) Km)))
    (yk (zR ww [] E0 (zc (zV K (Z 0) "readers") (zc (Z 3) (zc (Z 1) zj))))))
  (zL (Z 2))))
def jI(K:bu)(t:bv):TS:=zL (aL (yV K) (Z 1) (tUn (rU λi=>.int (-i)) (tC (.int 1))))
def Ye(K:bu)(t:bv):TS:=zL (aL (yV K) (Z 1) (tC (.int 0)))
def Zq(K:bu)(t:bv):TS:=zo (xY K (Z 0) (sG (zd4 K) (zc (Z 1) zj)) "code")
  (zo (xY K (Z 0) (tC (.int 0)) "at")
  (zo (xY K (Z 0) (tC .non) "why")
  (zo (xY K (Z 0) Ym "slots")
  (zo (xY K (Z 0) Yn "gifts")
  (zo (xY K (Z 0) Yn "notes")
  (xY K (Z 0) (xZ zj) "sayings"))))))
def jd:TS:=zo (yk (tBM K "list" qX (zV K (Z 0) "waiting") (zc (Z 2) zj)))
  (zo (qA (zV K (Z 0) "held") (Z 1) (y7 (zc (Z 2) (zc (Wd t.q00 (Zh t) [] E0 (zc (aL (yV K) (zV K (Z 0) "codes") (aL aI (Z 2) (zV K (Z 0) "first"))) zj)) zj))))
  (zL (y7 (zc (tC (.str "take")) (zc (Z 1) (zc (Z 2) zj))))))
def kG:TS:=zo (zN (zeP [(t.q0e,(jF t)),(t.q0a,(Z8 t))] "chosen" E0 (zV K (Z 0) "way") (zc (sG (zd4 K) (zc (zV K (Z 0) "waiting") zj)) zj)) (zt 2))
  (jd K t)
def vg:TS:=zo (yk (zW t.q03 "take_off" (wR t) [] E0 (zV K (Z 0) "jobs") (zc (aL (yJ K) (Z 3) (tC (.int 0))) zj)))
  (zo (yk (tBM K "list" qW (zV K (Z 0) "waiting") (zc (zR yM [] E0 (zc (zV K (Z 0) "waiting") (zc (aL (yJ K) (Z 3) (tC (.int 0))) zj))) (zc (aL (yJ K) (Z 3) (tC (.int 0))) zj))))
  (zL (aL (zdI K) (y7 (zc (tC (.str "again")) (zc (Z 1) zj))) (Z 3))))
def vh:TS:=zo (yk (tBM K "list" yH (zV K (Z 0) "ended") (zc (zW t.q03 "take_off" (wR t) [] E0 (zV K (Z 0) "jobs") (zc (Z 2) zj)) zj)))
  (zL (y7 (zc (tC (.str "settle")) (zc (Z 1) (zc (Z 2) zj)))))
def vi:TS:=zo (zS (zG (aL (zeF K) (zV K (Z 0) "waiting") (xZ zj)))
   (zL (zW t.q01 "taken_up" (wS t) [] E0 (Z 0) (zc (Z 1) zj)))
   zK)
  (zL (y7 (zc (tC (.str "rest")) (zc (Z 1) zj))))
def Zr:TS:=zo (zS (zG (aL QT (Z 3) (tC .non)))
   (vg K t)
   zK)
  (vi K t)
def je:TS:=zo (zN (zW t.q01 "settled" (xI t) [] E0 (Z 0) zj) (zt 2))
  (zo (zN (zW t.q03 "lowest_changed" (wx t) [] E0 (zV K (Z 0) "jobs") zj) (zt 3))
  (zo (zS (VW (zG (aL (zad aq) (Z 2) (zV K (zV K (Z 0) "jobs") "laid"))) (tOr (zG (aL zfN (Z 3) (tC .non))) (zG (aL rNe (aL (yJ K) (Z 3) (tC (.int 0))) (Z 2)))))
    (vh K t)
    zK)
  (Zr K t)))
def jf(K:bu)(t:bv):TS:=zL (sG zgW (zc (qO (zV K (Z 0) "worths") (Z 1) Yn) zj))
def vj(K:bu)(t:bv):TS:=vS (xx K (Z 2)) (zt 3)
   (yk (zR ww [] E0 (zc (zV K (Z 0) "ranks") (zc (Z 3) (zc (Z 1) zj)))))
def jg:TS:=zo (zN (zW t.q02 "places_of" (yS t) [] E0 (Z 0) (zc (Z 1) zj)) (zt 2))
  (zo (yk (zbn (zV K (Z 0) "worths") (Z 1) (tC .non)))
  (vj K t))
def Wr(K:bu)(t:bv):TS:=zo (zN (zeL (Z 0) (Z 1) (xZ zj)) (zt 3))
  (yk (tBM K "list" qW (Z 3) (zc (zR yM [] E0 (zc (Z 3) (zc (Z 2) zj))) (zc (Z 2) zj))))
def Zs(K:bu)(t:bv):TS:=qA (zV K (Z 0) "worths") (Z 1) (Z 3)
def Zt:TS:=zo (zig (vS (iDT (Z 3)) (zt 4)
   (yk (zR jD [] E0 (zc (zV K (Z 0) "ranks") (zc (Z 4) (zc (Z 1) zj)))))))
  (Zs K t)
def qq:TS:=zo (yk (zW t.q02 "heed_fold" (xK t) [] E0 (Z 0) (zc (Z 1) zj)))
  (zo (yk (zW t.q02 "take_away" (xL t) [] E0 (Z 0) (zc (Z 1) zj)))
  (zo (zN (sG zeo (zc (Z 2) zj)) (zt 3))
  (Zt K t)))
def vE(K:bu)(t:bv):TS:=zo (zN (qO (zV K (Z 0) "ranks") (Z 1) (xZ zj)) (zt 3))
  (zo (zN (zR yM [] E0 (zc (Z 3) (zc (aL aF (Z 2) (tC (.int 1))) zj))) (zt 4))
  (zL (tIf (zG (aL sR (Z 4) (sG (wa K) (zc (Z 3) zj)))) (tC .non) (aL (yV K) (Z 3) (Z 4)))))
def qG(K:bu)(t:bv):TS:=vS (xx K (tSl (Kx K) (Z 3) (vV (zR yM [] E0 (zc (Z 3) (zc (aL aF (Z 2) (tC (.int 1))) zj)))) (vV (Z 5)))) (zt 6)
   (qA (zV K (Z 0) "doubted") (Z 6) (tC (.bl D)))
def Yf:TS:=zo (zN (qO (zV K (Z 0) "readers") (Z 1) (xZ zj)) (zt 3))
  (zo (zN (zW t.q02 "next_above" (xD t) [] E0 (zV K (Z 0) "makes") (zc (Z 1) (zc (Z 2) zj))) (zt 4))
  (zo (zN (tIf (zG (aL zfN (Z 4) (tC .non))) (sG (wa K) (zc (Z 3) zj)) (zR yM [] E0 (zc (Z 3) (zc (aL aF (Z 4) (tC (.int 1))) zj)))) (zt 5))
  (qG K t)))
def kH:TS:=zo (zN (zW t.q02 "places_of" (yS t) [] E0 (zV K (Z 0) "makes") (zc (Z 1) zj)) (zt 3))
  (zo (yk (zW t.q02 "lay" (Xb t) [] E0 (zV K (Z 0) "makes") (zc (Z 1) (zc (aL (yJ K) (Z 2) (tC (.int 2))) zj))))
  (zo (vS (xx K (aL QH (Z 3) (zW t.q02 "places_of" (yS t) [] E0 (zV K (Z 0) "makes") (zc (Z 1) zj)))) (zt 4)
    (yk (zW t.q03 "doubt" (Z7 t) [] E0 (Z 0) (zc (Z 4) (zc (Z 1) zj)))))
  (zo (qA (zV K (Z 0) "laid") (Z 1) (Z 2))
  (zo (qA (zV K (Z 0) "doubted") (Z 1) (tC (.bl D)))
  (vS (xx K (aL (yJ K) (Z 2) (tC (.int 1)))) (Kn K 2 (w4 (zt 4) (w4 (zt 5) Km)))
   (yk (zR jD [] E0 (zc (zV K (Z 0) "readers") (zc (Z 4) (zc (Z 1) zj))))))))))
def Vv(K:bu)(t:bv):TS:=zo (zS (zG (aL QT (zV K (Z 0) "why") (tC .non)))
   (zL (y7 (zc (y7 (zc (tC (.str "off")) (zc (zV K (Z 0) "why") zj))) (zc (Z 1) (zc (xZ zj) zj)))))
   zK)
  (zL (y7 (zc (y7 (zc (tC (.str "done")) (zc (sG (ziC K) (zc (zV K (Z 0) "sayings") zj)) zj))) (zc (Z 1) (zc (sG zgV (zc (zbC (zV K (Z 0) "gifts")) zj)) zj)))))
def Vw:TS:=zo (zN (sG zgU (zc (zbC (zV K (Z 0) "notes")) zj)) (zt 1))
  (Vv K t)
def Xg:TS:=zo (zS (kL (tB (zW t.q00 "over" (xk t) [] E0 (Z 0) zj)))
   (zL (tC .non))
   zK)
  (Vw K t)
def Zu:TS:=zo (yk (Kz (zV K (Z 0) "held") (Z 1)))
  (zo (yk (zW t.q03 "lay_down" (kD t) [] E0 (zV K (Z 0) "jobs") (zc (Z 2) (zc (zW t.q00 "paper" (vK t) [] E0 (Z 3) zj) zj))))
  (zL (y7 (zc (tC (.str "lay")) (zc (Z 1) (zc (Z 2) zj))))))
def Zv:TS:=zo (zN (zW t.q00 "asks" (jC t) [] E0 (Z 3) zj) (zt 4))
  (zo (zS (zG (aL zfN (Z 4) (tC .non)))
    (zo (yk (zW t.q00 "step" (xW t) [.int 0] E0 (Z 3) zj))
  (zL (y7 (zc (tC (.str "step")) (zc (Z 1) (zc (Z 2) zj))))))
   zK)
  (zo (zN (zW t.q02 "seen" (jT t) [] E0 (zV K (Z 0) "makes") (zc (Z 4) (zc (Z 2) zj))) (zt 5))
  (zo (yk (zW t.q00 "step" (xW t) [] E0 (Z 3) (zc (Z 5) zj)))
  (zL (y7 (zc (tC (.str "read")) (zc (Z 1) (zc (Z 2) (zc (Z 4) (zc (Z 5) zj))))))))))
def Vx:TS:=zo (zN (aL (yJ K) (j6 (zV K (Z 0) "held") (Z 1)) (tC (.int 0))) (zt 2))
  (zo (zN (aL (yJ K) (j6 (zV K (Z 0) "held") (Z 1)) (tC (.int 1))) (zt 3))
  (zo (zS (tB (zW t.q00 "over" (xk t) [] E0 (Z 3) zj))
    (Zu K t)
    zK)
  (Zv K t)))
def Xh:TS:=zo (zS (tOr (zG (aL aH (Z 1) (tC (.int 0)))) (zG (aL (rI0 λi j=>.bl (decide (j<=i))) (Z 1) (zV K (Z 0) "hands"))))
   zba
   zK)
  (zo (zS (zG (aL (zad D) (Z 1) (zV K (Z 0) "held")))
    (zL (zW t.q01 "moved_free" (xM t) [] E0 (Z 0) (zc (Z 1) zj)))
    zK)
  (Vx K t))
def Zw:TS:=zo (zN (xZ zj) (zt 1))
  (zo (zbb (zG (aL aH (zW t.q01 "settled" (xI t) [] E0 (Z 0) zj) (zW t.q01 "next_rank" (wA t) [] E0 (Z 0) zj))) (yk (tBM K "list" yH (Z 1) (zc (zW t.q01 "move" (vO t) [] E0 (Z 0) (zc (aL aE (sG (wa K) (zc (Z 1) zj)) (zV K (Z 0) "hands")) zj)) zj))))
  (zL (Z 1)))
def qt(K:bu)(t:bv):TS:=zo (zN (aL aE (Z 0) (tC (.int 5))) (zt 2))
  (zo (zS (zG (aL aH (Z 2) (tC (.int 2))))
    (zL (y7 (zc (aL aE (aL aG (Z 0) (tC (.int 5))) (tC (.int 3))) zj)))
    zK)
  (zo (zS (zG (aL sR (Z 2) (tC (.int 2))))
    (zL (y7 (zc (aL (yV K) (Z 1) (aL aE (aL aG (Z 0) (tC (.int 5))) (tC (.int 2)))) zj)))
    zK)
  (zo (zS (VW (zG (aL sR (Z 2) (tC (.int 3)))) (zG (aL sR (aL aE (aL aG (Z 0) (tC (.int 10))) (tC (.int 3))) (tC (.int 0)))))
    (zL (y7 (zc (tC (.int 7)) (zc (aL (yV K) (Z 1) (aL aE (aL aG (Z 0) (tC (.int 30))) (tC (.int 2)))) (zc (tC (.str "over")) zj)))))
    zK)
  (zo (zS (zG (aL sR (Z 2) (tC (.int 3))))
    (zL (y7 (zc (aL (yV K) (Z 1) (aL aE (aL aG (Z 0) (tC (.int 5))) (tC (.int 2)))) (zc (tC (.int 3)) (zc (tC (.str "rest")) zj)))))
    zK)
  (zL (y7 (zc (zR xi [] E0 (zc (aL aG (Z 0) (tC (.int 5))) zj)) zj)))))))
def qu(K:bu)(t:bv):TS:=zo (zN (xZ (zc (tC (.str "plus")) (zc (tC (.str "minus")) (zc (tC (.str "times")) (zc (tC (.str "over")) (zc (tC (.str "rest")) (zc (tC (.str "under")) (zc (tC (.str "same")) zj)))))))) (zt 2))
  (zo (zN (aL aE (Z 0) (tC (.int 9))) (zt 3))
  (zo (zS (zG (aL sR (Z 3) (tC (.int 0))))
    (zL (y7 (zc (zR xi [] E0 (zc (aL aG (Z 0) (tC (.int 9))) zj)) zj)))
    zK)
  (zo (zS (zG (aL sR (Z 3) (tC (.int 1))))
    (zL (y7 (zc (aL (yV K) (Z 1) (aL aE (aL aG (Z 0) (tC (.int 9))) (tC (.int 2)))) zj)))
    zK)
  (zo (zS (zG (aL sR (aL aE (aL aG (Z 0) (tC (.int 9))) (tC (.int 2))) (tC (.int 0))))
    (zL (y7 (zc (aL (yV K) (Z 1) (aL aE (aL aG (Z 0) (tC (.int 18))) (tC (.int 2)))) (zc (zR xi [] E0 (zc (aL aG (Z 0) (tC (.int 36))) zj)) (zc (aL (yV K) (Z 2) (aL aI (Z 3) (tC (.int 2)))) zj)))))
    zK)
  (zL (y7 (zc (aL (yV K) (Z 1) (aL aE (aL aG (Z 0) (tC (.int 18))) (tC (.int 2)))) (zc (aL (yV K) (Z 1) (aL aE (aL aG (Z 0) (tC (.int 36))) (tC (.int 2)))) (zc (aL (yV K) (Z 2) (aL aI (Z 3) (tC (.int 2)))) zj)))))))))
def Yg(K:bu)(t:bv):TS:=zo (zS (zG (aL aH (Z 3) (tC (.int 4))))
   (zL (y7 (zc (tC (.str "take")) (zc (Z 4) (zc (Z 6) (zc (Z 5) zj))))))
   zK)
  (zo (zS (zG (aL aH (Z 3) (tC (.int 7))))
    (zL (y7 (zc (tC (.str "give")) (zc (Z 4) (zc (Z 6) (zc (Z 7) zj))))))
    zK)
  (zo (zS (zG (aL sR (Z 3) (tC (.int 7))))
    (zL (y7 (zc (tC (.str "let")) (zc (Z 5) (zc (Z 7) zj)))))
    zK)
  (zo (zS (zG (aL sR (Z 3) (tC (.int 8))))
    (zL (y7 (zc (tC (.str "say")) (zc (Z 7) zj))))
    zK)
  (zL (y7 (zc (tC (.str "off")) (zc (y7 (zc (Z 5) (zc (aL aF (aL aE (aL (yV K) (Z 0) (tC (.int 1))) (tC (.int 3))) (tC (.int 1))) (zc (tC (.str "same")) zj)))) zj)))))))
def Zx:TS:=zo (zN (aL aE (aL (yV K) (Z 0) (tC (.int 0))) (tC (.int 10))) (zt 3))
  (zo (zN (aL (yV K) (Z 1) (aL aE (aL aG (aL (yV K) (Z 0) (tC (.int 0))) (tC (.int 10))) (tC (.int 2)))) (zt 4))
  (zo (zN (aL (yV K) (Z 2) (aL aE (aL aG (aL (yV K) (Z 0) (tC (.int 0))) (tC (.int 20))) (tC (.int 2)))) (zt 5))
  (zo (zN (zR qg [] E0 (zc (aL (yV K) (Z 0) (tC (.int 1))) (zc (Z 2) zj))) (zt 6))
  (zo (zN (zR vM [] E0 (zc (aL (yV K) (Z 0) (tC (.int 2))) (zc (Z 2) zj))) (zt 7))
  (Yg K t)))))
def jh(K:bu)(t:bv):TS:=zo (zS (zG (aL sR (aL aE (aL aG (Z 0) (tC (.int 7))) (tC (.int 3))) (tC (.int 0))))
   (zo (zN (aL aE (aL (yV K) (Z 3) (tC (.int 18))) (aL aF (sG (wa K) (zc (Z 4) zj)) (tC (.int 1)))) (zt 5))
  (zo (zN (aL aF (Z 5) (aL aE (aL (yV K) (Z 3) (tC (.int 21))) (aL aI (aL aF (sG (wa K) (zc (Z 4) zj)) (tC (.int 1))) (Z 5)))) (zt 6))
  (zo (zN (y7 (zc (tC (.str "if")) (zc (zR vM [] E0 (zc (aL (yV K) (Z 3) (tC (.int 19))) (zc (Z 2) zj))) (zc (tSl (Kx K) (Z 4) (vV (Z 5)) (vV (Z 6))) (zc (tSl (Kx K) (Z 4) kP (vV (aL aE (aL (yV K) (Z 3) (tC (.int 20))) (tC (.int 3))))) zj))))) (zt 7))
  (zN (aL QH (aL QH (tSl (Kx K) (Z 4) kP (vV (Z 5))) (xZ (zc (Z 7) zj))) (tSl (Kx K) (Z 4) (vV (Z 6)) kP)) (zt 4)))))
   zK)
  (zL (Z 4))
def Xi:TS:=zo (zN (zR xp [] E0 (zc (Z 0) (zc (tC (.int 22)) zj))) (zt 3))
  (zo (zN (kh (Wa (zc (aL aE (Z 0) (tC (.int 7))) zj)) (zt 0) VZ (zR Zk [] E0 (zc (tSl (Kx K) (Z 1) (vV (aL aJ (tC (.int 3)) (Z 0))) (vV (aL aF (aL aJ (tC (.int 3)) (Z 0)) (tC (.int 3))))) (zc (Z 2) (zc (Z 3) zj)))) 1 [3,1,2]) (zt 4))
  (jh K t))
def Ws:TS:=zo (zN (zW t.q01 "next_rank" (wA t) [] E0 (Z 0) zj) (zt 2))
  (zo (yk (tBM K "list" yH (zV K (Z 0) "codes") (zc (sG (zd4 K) (zc (Z 1) zj)) zj)))
  (zo (yk (tBM K "list" yH (zV K (Z 0) "waiting") (zc (Z 2) zj)))
  (zL (Z 2))))
def Vy(K:bu)(t:bv):TS:=zS (zG (aL aH (Z 4) (Z 3)))
   (vS (xx K (j6 (Z 1) (Z 4))) (Kn K 2 (w4 (zt 5) (w4 (zt 6) Km)))
   (zS (zG (aL (zf1 K aq) (Z 5) (Z 2)))
   (zL (Z 6))
   zK))
   zK
def Zy(K:bu)(t:bv):TS:=zo (vS (xx K (Z 0)) (Kn K 2 (w4 (zt 5) (w4 (zt 6) Km)))
   (zS (zG (aL (zf1 K aq) (Z 5) (Z 2)))
   (zL (Z 6))
   zK))
  (zL (tC (.int 0)))
def Xj:TS:=zo (vS (xx K (sG zg1 (zc (Z 1) zj))) (zt 4)
   (Vy K t))
  (Zy K t)
def jW(K:bu)(t:bv)(n:Nat):TS:=zo (zS (tOr (tB (sG (ki K) (zc (Z 1) (zc (tC (.ty "list")) zj)))) (tB (sG (ki K) (zc (Z 1) (zc (tC (.ty "tuple")) zj)))))
   (zo (zS (VW (kL (tB (sG (ki K) (zc (Z 0) (zc (tC (.ty "list")) zj))))) (kL (tB (sG (ki K) (zc (Z 0) (zc (tC (.ty "tuple")) zj))))))
   (zL (tC (.bl aq)))
   zK)
  (zo (zS (tOr (zG (aL rNe (sG (ki K) (zc (Z 0) (zc (tC (.ty "list")) zj))) (sG (ki K) (zc (Z 1) (zc (tC (.ty "list")) zj))))) (zG (aL rNe (sG (wa K) (zc (Z 0) zj)) (sG (wa K) (zc (Z 1) zj)))))
    (zL (tC (.bl aq)))
    zK)
  (zo (vS (zif K (zc (Z 0) (zc (Z 1) zj))) (Kn K 2 (w4 (zt 2) (w4 (zt 3) Km)))
    (zS (kL (tB (zR (y9  n) [] E0 (zc (Z 2) (zc (Z 3) zj)))))
    (zL (tC (.bl aq)))
    zK))
  (zL (tC (.bl D))))))
   zK)
  (zo (zS (tB (sG (ki K) (zc (Z 1) (zc (tC (.ty "str")) zj))))
    (zL (Qy (sG (ki K) (zc (Z 0) (zc (tC (.ty "str")) zj))) (aL sR (Z 0) (Z 1))))
    zK)
  (zL (Qy (sG (ki K) (zc (Z 0) (zc (tC (.ty "int")) zj))) (Qy (zgI (sG (ki K) (zc (Z 0) (zc (tC (.ty "bool")) zj)))) (aL sR (Z 0) (Z 1))))))
def vm(K:bu)(t:bv):TS:=zo (zS (zG (aL zfN (Z 6) (tC .non)))
   (zo (yk (zW t.q00 "step" (xW t) [.int 0] E0 (Z 3) zj))
  (zL (zR (y9  3) [] E0 (zc (Z 0) (zc (y7 (zc (tC (.str "step")) (zc (Z 1) (zc (Z 2) zj)))) zj)))))
   zK)
  (zo (zN (zR (ql ) [] E0 (zc (Z 4) (zc (Z 5) (zc (Z 6) (zc (Z 2) zj))))) (zt 7))
  (zo (yk (zW t.q00 "step" (xW t) [] E0 (Z 3) (zc (Z 7) zj)))
  (zL (zR (y9  3) [] E0 (zc (Z 0) (zc (y7 (zc (tC (.str "read")) (zc (Z 1) (zc (Z 2) (zc (Z 6) (zc (Z 7) zj)))))) zj))))))
def Zz:TS:=zo (zN (zW t.q00 "asks" (jC t) [] E0 (Z 3) zj) (zt 6))
  (vm K t)
def ji:TS:=zo (zS (tB (zW t.q00 "over" (xk t) [] E0 (Z 3) zj))
   (zo (qA (Z 5) (Z 2) (aL (yJ K) (zW t.q00 "paper" (vK t) [] E0 (Z 3) zj) (tC (.int 2))))
  (zL (zR (y9  3) [] E0 (zc (Z 0) (zc (y7 (zc (tC (.str "lay")) (zc (Z 1) (zc (Z 2) zj)))) zj)))))
   zK)
  (Zz K t)
def vn(K:bu)(t:bv):TS:=zL (Qy (zbf (rI0 λi j=>.bl (decide (i<=j))) aH (tC (.int 0)) (aL aI (aL (yJ K) (Z 0) (tC (.int 2))) (Z 3)) (Z 2)) (aL sR (sG (wa K) (zc (Z 0) zj)) (aL (yV K) (xZ (zc (tC (.int 3)) (zc (tC (.int 6)) zj))) (sG zgS (zc (aL sR (aL (yJ K) (Z 0) (tC (.int 0))) (tC (.str "again"))) zj)))))
def vo:TS:=zo (zS (tOr (zG (aL aH (sG (wa K) (zc (Z 0) zj)) (tC (.int 3)))) (tOr (kL (tB (sG (ki K) (zc (aL (yJ K) (Z 0) (tC (.int 2))) (zc (tC (.ty "int")) zj))))) (tB (sG (ki K) (zc (aL (yJ K) (Z 0) (tC (.int 2))) (zc (tC (.ty "bool")) zj))))))
   (zL (tC (.bl aq)))
   zK)
  (vn K t)
def vp:TS:=zo (zS (zG (aL sR (aL (yJ K) (Z 0) (tC (.int 0))) (tC (.str "rest"))))
   (zL (aL sR (sG (wa K) (zc (Z 0) zj)) (tC (.int 2))))
   zK)
  (vo K t)
def vq:TS:=zo (zS (tOr (zG (aL (rIn K D) (aL (yJ K) (Z 0) (tC (.int 0))) (y7 (zc (tC (.str "settle")) (zc (tC (.str "again")) (zc (tC (.str "take")) (zc (tC (.str "rest")) zj))))))) (kL (tB (zR (y9  3) [] E0 (zc (aL (yJ K) (Z 0) (tC (.int 1))) (zc (Z 1) zj))))))
   (zL (tC (.bl aq)))
   zK)
  (vp K t)
def xO:TS:=zo (zS (tOr (kL (tB (sG (ki K) (zc (Z 0) (zc (tC (.ty "tuple")) zj))))) (tOr (zG (aL aH (sG (wa K) (zc (Z 0) zj)) (tC (.int 2)))) (kL (tB (sG (ki K) (zc (aL (yJ K) (Z 0) (tC (.int 0))) (zc (tC (.ty "str")) zj)))))))
   (zL (tC (.bl aq)))
   zK)
  (vq K t)
def vt:TS:=zo (zcm (Z 4) (Z 1) (Wd t.q00 (Zh t) [] E0 (zc (aL (yV K) (Z 2) (aL aI (aL (yJ K) (Z 0) (tC (.int 2))) (Z 3))) zj)))
  (zcm (Z 5) (Z 1) (aL (yJ K) (Z 0) (tC (.int 2))))
def vx:TS:=zo (zN (aL (yV K) (Z 4) (Z 1)) (zt 8))
  (zo (zS (tB (zW t.q00 "over" (xk t) [] E0 (Z 8) zj))
    (zcm (Z 4) (Z 1) (tC .non))
    zK)
  (zL (zR (xl t) [] E0 (zc (Z 0) (zc (Z 1) (zc (aL (yV K) (Z 5) (Z 1)) (zc (Z 8) (zc (Z 6) (zc (Z 7) zj)))))))))
def ZA:TS:=zo (zS (kL (tB (zR xN [] E0 (zc (Z 0) (zc (Z 1) (zc (sG (wa K) (zc (Z 2) zj)) (zc (Z 3) zj)))))))
   (zL (tC (.bl aq)))
   zK)
  (zo (zS (zG (aL sR (aL (yJ K) (Z 0) (tC (.int 0))) (tC (.str "take"))))
    (vt K t)
    zK)
  (zL (tC (.bl D))))
def jj:TS:=zo (zS (zG (aL QT (aL (yV K) (Z 4) (Z 1)) (tC .non)))
   (vx K t)
   zK)
  (ZA K t)
def zeU(K:bu)(t:bv):TS:=zo (zS (kL (tB (zR (yT t) [] E0 (zc (Z 18) (zc (Z 15) (zc (Z 10) (zc (Z 7) (zc (Z 11) (zc (Z 12) (zc (Z 3) (zc (Z 13) zj)))))))))))
   (zL (tC (.bl aq)))
   zK)
  (zN (aL aE (aL aF (Z 15) (tC (.int 1))) (Z 5)) (zt 15))
def zeV:TS:=zo (yk (tBM K "list" yH (Z 10) (zc (Z 17) zj)))
  (yk (zW t.q01 "add" (jE t) [] E0 (Z 8) (zc (Z 17) zj)))
def zay:TS:=zo (zN (tC (.int 0)) (zt 15))
  (vS (xx K (zW t.q01 "finish" (v7 t) [] E0 (Z 8) zj)) (zt 18)
   (zeU K t))
def zaz(K:bu)(t:bv):TS:=zo (zN (aL aE (aL aG (Z 14) (tC (.int 7))) (Z 5)) (zt 15))
  (zS (kL (tB (zR (yT t) [] E0 (zc (zW t.q01 "move" (vO t) [] E0 (Z 8) (zc (Z 15) zj)) (zc (Z 15) (zc (Z 10) (zc (Z 7) (zc (Z 11) (zc (Z 12) (zc (Z 3) (zc (Z 13) zj)))))))))))
   (zL (tC (.bl aq)))
   zK)
def zaA:TS:=zo (vS (xx K (Z 16)) (zt 17)
   (zeV K t))
  (zay K t)
def zeW:TS:=zo (zS (VW (zG (aL aH (aL aE (Z 14) (tC (.int 7))) (tC (.int 2)))) (zG (aL aH (sG (wa K) (zc (Z 10) zj)) (Z 9))))
   (zo (yk (tBM K "list" yH (Z 10) (zc (aL (yV K) (Z 4) (sG (wa K) (zc (Z 10) zj))) zj)))
  (yk (zW t.q01 "add" (jE t) [] E0 (Z 8) (zc (aL (yV K) (Z 10) (tUn (rU λi=>.int (-i)) (tC (.int 1)))) zj))))
   zK)
  (zaz K t)
def J8:TS:=zL (aL sR (zW t.q01 "settled" (xI t) [] E0 (Z 8) zj) (aL aF (Z 7) (sG (wa K) (zc (Z 4) zj))))
def J9:TS:=zo (vS (xx K (xZ (zc (xZ zj) (zc (tSl (Kx K) (Z 4) (vV (sG (wa K) (zc (Z 10) zj))) kP) zj)))) (zt 16)
   (zaA K t))
  (J8 K t)
def Ka:TS:=zo (vS (xx K (Z 0)) (zt 14)
   (zeW K t))
  (J9 K t)
def zdi:TS:=zo (zN Ym (zt 13))
  (Ka K t)
def zdj:TS:=zo (zN (kh (Wa (zc (Z 5) zj)) (zt 0) VZ (tC .non) 1 []) (zt 11))
  (zo (zN (kh (Wa (zc (Z 5) zj)) (zt 0) VZ (tC (.int 0)) 1 []) (zt 12))
  (zdi K t))
def zaB:TS:=zo (zN (aL aE (aL aG (zR (yf K) [] E0 (zc (Z 0) (zc (tC (.int 2)) zj))) (tC (.int 7))) (aL aF (sG (wa K) (zc (Z 4) zj)) (tC (.int 1)))) (zt 9))
  (zo (zN (xZ zj) (zt 10))
  (zdj K t))
def zaC:TS:=zo (zS (zG (aL sR (aL aE (aL aG (zR (yf K) [] E0 (zc (Z 0) (zc (tC (.int 0)) zj))) (tC (.int 16))) (tC (.int 2))) (tC (.int 0))))
   (zN (Wd t.q01 (wz t) [.int 0] E0 (zc (sG (zd4 K) (zc (Z 3) zj)) (zc (Z 5) (zc (Z 6) zj)))) (zt 8))
   (zo (zN (aL aE (aL (rI CMulC λi j=>.int (i*j)) (aL aG (zR (yf K) [] E0 (zc (Z 0) (zc (tC (.int 0)) zj))) (tC (.int 32))) (aL (rI Ko λi j=>.int (i^j.toNat)) (tC (.int 1000000007)) (tC (.int 3)))) (aL aI (aL (rI Ko λi j=>.int (i^j.toNat)) (tC (.int 10)) (tC (.int 29))) (tC (.int 300)))) (zt 7))
  (zN (Wd t.q01 (wz t) [] E0 (zc (sG (zd4 K) (zc (Z 3) zj)) (zc (Z 5) (zc (Z 6) (zc (Z 7) zj))))) (zt 8))))
  (zaB K t)
def zaD:TS:=zo (zN (aL aF (tC (.int 1)) (aL aE (zR (yf K) [] E0 (zc (Z 0) (zc (tC (.int 0)) zj))) (tC (.int 8)))) (zt 5))
  (zo (zN (zbJ t.q0a) (zt 6))
  (zo (zS (zG (aL sR (aL aE (aL aG (zR (yf K) [] E0 (zc (Z 0) (zc (tC (.int 0)) zj))) (tC (.int 8))) (tC (.int 2))) (tC (.int 1))))
    (zN (zbJ t.q0e) (zt 6))
    zK)
  (zo (zN (tC (.int 0)) (zt 7))
  (zaC K t))))
def zaE:TS:=zo (zN (kh (xx K (tSl (Kx K) (Z 0) (vV (tC (.int 3))) (vV (tC (.int 7))))) (zt 0) VZ (zR Vp [] E0 (zc (zR qh [] E0 (zc (Z 0) (zc (Z 1) (zc (Z 2) zj)))) zj)) 1 [1,2]) (zt 4))
  (zaD K t)
def zeX:TS:=zo (zN (zR vL [] E0 (zc (zR (yf K) [] E0 (zc (Z 0) (zc (tC (.int 1)) zj))) zj)) (zt 1))
  (zo (zN (zR vL [] E0 (zc (zR (yf K) [] E0 (zc (Z 0) (zc (tC (.int 2)) zj))) zj)) (zt 2))
  (zo (zN (zR jR [] E0 (zc (aL aG (zR (yf K) [] E0 (zc (Z 0) (zc (tC (.int 1)) zj))) (tC (.int 7))) (zc (Z 1) zj))) (zt 3))
  (zaE K t)))
end
section
variable {K:bu}{t:bv}{H:Hp}{Q:VK}
theorem zeY{j:Int}(h0:0<=j)(h1:j<=100):Ko 10 j:=⟨h0,(),()⟩
theorem xm(h:n<=100000):n<=Bb:=bN h ()
theorem xG(T:String):fC K (.type T) (.type T)=U D:=by
 unfold fC;rw[au (by simp)]
theorem kf(K:bu):KF K:=⟨by with_unfolding_all rfl,by with_unfolding_all rfl,by with_unfolding_all rfl,by with_unfolding_all rfl,by with_unfolding_all rfl,by with_unfolding_all rfl,by with_unfolding_all rfl,by with_unfolding_all rfl⟩
theorem dB{i j:Int}(h0:0<j:=by lia)(h1:j<10000000000000000000000000000000000000000000000:=by lia):yF i j:=by
 have hb:(10000000000000000000000000000000000000000000000:Int)<big:=by lia
 exact⟨h0,()⟩
theorem zaF{α:Type}{xs:List α}{i:Int}(h0:0<=i)(h1:i<xs.length):∃x,tE xs i=U x/\x∈xs:=by
 obtain⟨n,rfl⟩:∃n:Nat,i=(n:Int):=⟨i.toNat,()⟩;have hn:n<xs.length:=by lia
 refine⟨xs[n],?_,eD hn⟩;unfold tE ixN;rw[au h0,au h1];simp[hn]
theorem zhC{α:Type}{xs:List α}(e:Int)(n:Nat)(hl:xs.length=n)(hn:0<(n:Int)):∃x,tE xs (e%n)=U x/\x∈xs :=
 zaF (cA _ ()) (by rw[hl];exact ck _ hn)
theorem zaG{xs:List V} :(xs++[y])[(xs++[y]).length-1]?=U y:=by simp
theorem X0{xs:List V} :(xs++[y]).dropLast=xs:=by simp
theorem xz{H H':Hp}(s:aK H H')(hw:H w=ao):aK H (upd H' w o):=λb u e=>by rw[zk (zy e hw)];exact s b u e
theorem zhD(st:List Int):(∃l a b,st=l++[a,b])\/∀ah v,isJ v=D->wF ah st v=.error .stuck:=by
 cases h:st.reverse with
 |nil =>
  refine .inr λah v hv=>?_;unfold wF;rw[hv,au Y,h];split <;> rename_i e1 e2 <;> first|rfl|cases e2
 |cons b r =>
  cases r with
  |nil =>
   refine .inr λah v hv=>?_;unfold wF;rw[hv,au Y,h];split <;> rename_i e1 e2 <;> first|rfl|cases e2
  |cons a r =>
   refine .inl ⟨r.reverse,a,b,?_⟩;have:=congrArg List.reverse h;rw[List.reverse_reverse] at this;rw[this];simp
theorem zeZ{ah:List (aV×V)}{l:List Int}{a b:Int}{w:Str}(hw:isJ (.str w)=D):wF ah (l++[a,b]) (.str w)=match ko w a b with|.ok c=>.ok (l++[c])|.error e=>.error e:=by
 unfold wF;rw[hw,au rfl];simp only[oP,pP,rC,gb,dJ];cases ko w a b with
 |error e=>rfl
 |ok c=>simp
def rkI(ah:List (aV×V))(ps:List V)(tm sl w:L)(H:Hp)(i:Nat)(σ:St)(H':Hp):Prop:=∃st,(∃o3 o4 o5,σ=[U (.ref tm),U (.ref sl),U (.ref w),o3,o4,o5])/\wK ah (ps.take i) []=.ok st/\(∀x∈st,sH x=D)/\st.length<=i/\H' w=U (.lst (st.map V.int))/\aK H H'
theorem zcr(c:Nat):({ cps:=#[c] }:Str).length=1:=rfl
theorem zI{H H':Hp}(s:aK H H')(h:H' Bq=ao):H Bq=ao:=by
 cases e:H Bq with
 |none=>rfl
 |some o=>rw[s _ _ e] at h;cases h
theorem tD{Q:VK}{E:XK}{H:Hp}:fin t (.error e) Q E H↔zeT t e E H:=by cases e <;> rfl
theorem fin_ok{i:Int}{Q:VK}{E:XK}{H:Hp}:fin t (.ok i) Q E H↔Q (.int i) H:=rV
theorem sN.same{H H':Hp}(h:sN H v c)(s:aK H H'):sN H' v c:=by
 cases c with
 |row r=>exact⟨h.1.mono s,h.2⟩
 |skip e to =>
  obtain⟨p,te,h1,h2,h3⟩:=h;exact⟨p,te,h1,s _ _ h2,s _ _ h3⟩
 |go en =>
  obtain⟨p,h1,h2⟩:=h;exact⟨p,h1,s _ _ h2⟩
theorem xB{H H':Hp}(s:aK H H'):∀ {xs:List V} {C:List Cs},Paired (sN H) xs C->Paired (sN H') xs C
 |_,_,.nil=>.nil
 |_,_,.cons h r=>.cons (h.same s) (xB s r)
def tw(H H':Hp):Prop:=∀b ys,H b=U (.tup ys)->H' b=U (.tup ys)
theorem sN.ts{H H':Hp}(s:tw H H')(h:sN H v c):sN H' v c:=by
 cases c with
 |row r =>
  obtain⟨h,n⟩:=h;refine⟨?_,n⟩;cases r with
  |iff e a b=>exact n.elim
  |take sh e sl =>
   obtain⟨r,te,a1,a2,a3,a4,a5⟩:=h;exact⟨r,te,a1,a2,a3,s _ _ a4,s _ _ a5⟩
  |give sh e f =>
   obtain⟨r,te,tf,a1,a2,a3,a4,a5,a6,a7⟩:=h;exact⟨r,te,tf,a1,a2,a3,a4,s _ _ a5,s _ _ a6,s _ _ a7⟩
  |lt sl e =>
   obtain⟨r,te,a1,a2,a3,a4,a5⟩:=h;exact⟨r,te,a1,a2,a3,s _ _ a4,s _ _ a5⟩
  |say e =>
   obtain⟨r,te,a1,a2,a3,a4,a5⟩:=h;exact⟨r,te,a1,a2,a3,s _ _ a4,s _ _ a5⟩
  |off e =>
   obtain⟨r,te,a1,a2,a3,a4,a5⟩:=h;exact⟨r,te,a1,a2,a3,s _ _ a4,s _ _ a5⟩
 |skip e to =>
  obtain⟨p,te,h1,h2,h3⟩:=h;exact⟨p,te,h1,s _ _ h2,s _ _ h3⟩
 |go en =>
  obtain⟨p,h1,h2⟩:=h;exact⟨p,h1,s _ _ h2⟩
theorem xP{H H':Hp}(s:tw H H'):∀ {xs:List V} {C:List Cs},Paired (sN H) xs C->Paired (sN H') xs C
 |_,_,.nil=>.nil
 |_,_,.cons h r=>.cons (h.ts s) (xP s r)
theorem zcs(x:Rw):(∃e a b,x=.iff e a b)\/Vo x:=by
 cases x with
 |iff e a b=>exact .inl ⟨e,a,b,Y⟩
 |_=>exact .inr trivial
theorem vP(h:Vo x)(k:Nat):xv x k=[.row x]:=by
 cases x with
 |iff e a b=>exact h.elim
 |_=>rw[xv];intro e a b z;cases z
theorem zgg{F:L->Prop}(h:hV F H v r):∃p xs hd,v=.ref p/\H p=U (.tup xs)/\tE xs 0=U (.str hd)/\(hd="if"↔¬ Vo r):=by
 cases r with
 |take sh e sl =>
  unfold hV at h;obtain⟨r,te,rfl,_,_,e2,e3⟩:=h;exact⟨r,_,_,Y,e2,Y,⟨λz=>absurd z (),λz=>absurd trivial z⟩⟩
 |give sh e f =>
  unfold hV at h;obtain⟨r,te,tf,rfl,_,_,_,e2,e3⟩:=h;exact⟨r,_,_,Y,e2,Y,⟨λz=>absurd z (),λz=>absurd trivial z⟩⟩
 |lt sl e =>
  unfold hV at h;obtain⟨r,te,rfl,_,_,e2,e3⟩:=h;exact⟨r,_,_,Y,e2,Y,⟨λz=>absurd z (),λz=>absurd trivial z⟩⟩
 |say e =>
  unfold hV at h;obtain⟨r,te,rfl,_,_,e2,e3⟩:=h;exact⟨r,_,_,Y,e2,Y,⟨λz=>absurd z (),λz=>absurd trivial z⟩⟩
 |off e =>
  unfold hV at h;obtain⟨r,te,rfl,_,_,e2,e3⟩:=h;exact⟨r,_,_,Y,e2,Y,⟨λz=>absurd z (),λz=>absurd trivial z⟩⟩
 |iff e a b =>
  unfold hV at h;obtain⟨r,te,la,lb,xs,ys,rfl,f1,f2,f3,f4,e2,e3⟩:=h;exact⟨r,_,_,Y,e2,Y,⟨λ_ z=>z,λ_=>rfl⟩⟩
theorem Paired.app2{α β:Type}{F:α->β->Prop}:∀ {a:List α} {b:List β} {c:List α} {d:List β},Paired F a b->Paired F c d->Paired F (a++c) (b++d)
 |_,_,_,_,.nil,h=>h
 |_,_,_,_,.cons h r,h2=>.cons h (Paired.app2 r h2)
def sfI(v:V)(Bp:L)(xs:List V)(k n:Nat)(r:aZ)(H:Hp)(i:Nat)(σ:St)(H':Hp):Prop:=∃(rest:aZ) (ys:List V) (C:List Cs),(∃o,σ=[U v,U (.int k),U (.ref Bp),o])/\aK H H'/\H' Bp=U (.lst ys)/\Paired (sN H') ys C/\pv V1 H (xs.drop i) rest/\WF (n+1) rest/\C++z4 rest (k+C.length)=z4 r k
theorem zbO{H:Hp}(h:H Bp=U (.lst ys)):tw H (upd H Bp (.lst zs)):=λb us e=>by rw[zk (zJ e h ())];exact e
theorem K4{v:V}{r:aZ}{k n:Nat}(h1:RlAt V1 H v r)(h2:WF (n+1) r)(h3:k+(z4 r k).length<=500)(q:∀l xs H',aK H H'->H l=ao->H' l=U (.lst xs)->Paired (sN H') xs (z4 r k)->Q (.ref l) H') :
  Wl K t n (sA Q) (L2.start ["rows","first","steps","row"] [v,.int k]) H:=by
 obtain⟨p,xs,rfl,_,hp,hx⟩:=h1;refine⟨bT _,λBp hL=>?_⟩;have s0:=sJ (o:=HO.lst []) Bp hL;refine⟨_,Y,p,Y,⟨_,aT.of (s0 _ _ hp)⟩,?_⟩;refine yI xs (sfI (.ref p) Bp xs k n r H) ⟨r,[],[],⟨_,Y⟩,s0,zh,.nil,by rw[iJ];exact hx,h2,Y⟩ (λi σ H' ⟨_,_,_,_,s,_⟩=>aT.of (s _ _ hp)) ?_ ?_
 ·rintro i u σ H' hu ⟨rest,ys,C,⟨o,rfl⟩,s,hy,pr,hr,ok,eq⟩;obtain⟨x,rs,rfl,rx,rr⟩:=hr.get hu;have e0:z4 (.cons x rs) (k+C.length)=xv x (k+C.length)++z4 rs (k+C.length+(xv x (k+C.length)).length):=by rw[z4]
  rw[e0] at eq;have okd:=ok.dp;have c1:(aZ.cons x rs).deep=max x.deep rs.deep:=by rw[aZ.deep]
  rw[c1] at okd;have okc:=ok.ct;have c2:(aZ.cons x rs).cnt=x.cnt+rs.cnt:=by rw[aZ.cnt]
  rw[c2] at okc;have okp:=ok.pl;unfold qV at okp;have le:=congrArg fE eq;rw[bF,bF] at le;have ly:=bL pr;have nx:∀ {H2:Hp} {o':Option V} {zs:List V},aK H H2->H2 Bp=U (.lst zs)->Paired (sN H2) zs (C++xv x (k+C.length))->sfI (.ref p) Bp xs k n r H (i+1) [U (.ref p),U (.int k),U (.ref Bp),o'] H2:=λ{H2 o' zs} s2 g2 p2 =>
   ⟨rs,zs,_,⟨_,Y⟩,s2,g2,p2,rr,⟨(),(),okp.2⟩,by rw[cH,bF,<-pG];exact eq⟩
  obtain⟨p1,fs,hd,rfl,e2,e3,e4⟩:=zgg rx;refine kY Y (s _ _ e2) e3 (λez=>?_) λez=>?_
  ·rcases zcs x with ⟨e,a,b,rfl⟩|hni
   rotate_left
   ·exact absurd hni (e4.mp ez)
   have d1:(Rw.iff e a b).deep=max a.deep b.deep+1:=by rw[Rw.deep]
   have d2:(Rw.iff e a b).cnt=max a.cnt b.cnt+1:=by rw[Rw.cnt]
   rw[d1] at okd;rw[d2] at okc;have pl:=okp.1;unfold Vk at pl;refine⟨_,Y,.inl ⟨Y,_,aT.of hy⟩,_,Y,_,Y,zeS Y hy ⟨_,_,Y,Y,_,e,a,b,k+C.length,by rw[<-ly];rfl,rx.mono s,⟨(),(),pl.2.1⟩,⟨(),(),pl.2.2⟩,(),λl us H2 s2 hl pu=>?_⟩⟩;have lu:=bL pu;refine⟨Bp,_,ys,us,Y,Y,s2 _ _ hy,hl,bN (by lia:ys.length+us.length<=1000) (),?_⟩;exact nx (xz (s.trans s2) hL) zh (xP (zbO (s2 _ _ hy)) (Paired.app2 (xB s2 pr) pu))
  ·have hni:Vo x:=by
    rcases zcs x with ⟨e,a,b,rfl⟩|hni
    ·exact absurd (e4.mpr (λz=>z)) ez
    ·exact hni
   have ec:=vP hni (k+C.length);rw[ec] at nx;refine⟨_,Y,.inl ⟨Y,_,aT.of hy⟩,_,Y,Bp,ys,_,Y,Y,hy,bV (by lia:ys.length<=900) (),?_⟩;exact nx (xz s hL) zh (Paired.snocP (xP (zbO hy) pr) (sN.ts (zbO hy) ⟨rx.mono s,hni⟩))
 ·rintro σ H' ⟨rest,ys,C,⟨o,rfl⟩,s,hy,pr,hr,ok,eq⟩;have e:=hr.none;subst e;rw[show z4 .nil (k+C.length)=[] by rw[z4],lG] at eq;rw[eq] at pr;exact⟨_,Y,q Bp ys H' s hL hy pr⟩
theorem yW{H H':Hp}(e:upd H a o=H')(h:H a=ao):aK H H'/\H' a=U o:=⟨e ▸ sJ a h,e ▸ zh⟩
theorem WM{v:V}{e:List V}{a b:aZ}{k n:Nat}(h1:hV V1 H v (.iff e a b))(h2:WF n a)(h3:WF n b)(h4:k+(xv (.iff e a b) k).length<=500)(q:∀l xs H',aK H H'->H' l=U (.lst xs)->Paired (sN H') xs (xv (.iff e a b) k)->Q (.ref l) H') :
  Zo K t n (sA Q) (L2.start ["row","at","steps","to","others"] [v,.int k]) H:=by
 unfold hV at h1;obtain⟨p,te,la,lb,xs,ys,rfl,f1,f2,f3,f4,e2,e3,e4,e6,e5,e7⟩:=h1;have ec:xv (.iff e a b) k=blk e k (z4 a (k+1)) (aZ.isNil b) (z4 b (k+2+(z4 a (k+1)).length)):=by rw[xv]
 rw[ec] at h4 q;refine XT Y e2 Y ⟨_,Y,_,_,Y,Y,.ref la,a,k+1,Y,⟨la,xs,Y,f3,e4,e6⟩,h2,?_,λl us H1 s1 fl hl pu=>?_⟩
 ·unfold blk at h4;split at h4 <;> simp only[bU,bF] at h4 <;> lia
 have lu:=bL pu;generalize z4 a (k+1)=A at *
 refine⟨_,Y,_,_,Y,Y,zeS Y hl ⟨_,_,Y,Y,?_⟩⟩;have ei:(k:Int)+1+us.length=((k+1+A.length:Nat):Int):=by lia
 show kE K t n _ [U (.ref p),U (.int k),U (.ref l),U (.int ((k:Int)+1+us.length)),ao] H1;rw[ei];refine XT Y (s1 _ _ e2) Y ⟨bT _,λz gz=>?_⟩;generalize f0:upd H1 z _=H2;obtain⟨s2,hz⟩:=yW f0 gz;have S2:=s1.trans s2;refine⟨lb,z,ys,Y,Y,aT.of (S2 _ _ e5),aT.of hz,_,Y,?_⟩;have nb:aZ.isNil b=decide (ys=[]):=by
  cases b with
  |nil=>unfold pv at e7;simp[aZ.isNil,e7]
  |cons x r=>unfold pv at e7;obtain⟨v,vs,rfl,_⟩:=e7;simp[aZ.isNil]
 have hl2:=s2 _ _ hl;have pu2:=xB s2 pu;show if _ then _ else _
 by_cases hb:ys=[]
 ·rw[au (Bj hb)];have eb:∀Bo,blk e k A (aZ.isNil b) Bo=.skip e (k+1+A.length)::A:=λBo=>by unfold blk;rw[au (by rw[nb];exact Bj hb)]
  rw[eb] at q h4;rw[bU] at h4;refine XT Y (S2 _ _ e2) Y ⟨_,Y,by show (3:Nat)<=Bb;decide,λp1 g1=>?_⟩;generalize c1:upd H2 p1 _=H3;obtain⟨t1,hp1⟩:=yW c1 g1;refine⟨by show (1:Nat)<=Bb;decide,λp2 g2=>?_⟩;generalize c2:upd H3 p2 _=H4;obtain⟨t2,hp2⟩:=yW c2 g2;have T:=t1.trans t2;refine⟨_,Y,_,_,_,us,Y,Y,hp2,T _ _ hl2,bN (by show 1+us.length<=1000;lia) (),λp3 g3=>?_⟩;have t3:=sJ (o:=HO.lst ([V.ref p1]++us)) p3 g3;exact q p3 ([V.ref p1]++us) _ (S2.trans (T.trans t3)) zh (.cons ⟨p1,te,Y,(t2.trans t3) _ _ hp1,(S2.trans (T.trans t3)) _ _ e3⟩ (xB (T.trans t3) pu2))
 ·rw[ap (by rw[decide_eq_true_eq];exact hb)];have eb:∀Bo,blk e k A (aZ.isNil b) Bo=.skip e (k+2+A.length)::(A++(.go (k+2+A.length+Bo.length)::Bo)):=λBo=>by unfold blk;rw[ap (by rw[nb];simpa using hb)]
  rw[eb] at q h4;rw[bU,bF,bU] at h4;have ej:((k+1+A.length:Nat):Int)+1=((k+2+A.length:Nat):Int):=by lia
  refine XT Y (S2 _ _ e2) Y ⟨_,Y,_,_,Y,Y,.ref lb,b,k+2+A.length,?_,⟨lb,ys,Y,f4,S2 _ _ e5,e7.mono S2⟩,h3,(),λl2 ws H3 s3 fl2 hl3 pw=>?_⟩
  ·show [V.ref lb,V.int (((k+1+A.length:Nat):Int)+1)]=_;rw[ej]
  have lw:=bL pw;generalize z4 b (k+2+A.length)=Bo at *
  have S3:=S2.trans s3;refine XT Y (S3 _ _ e2) Y ⟨_,Y,_,_,Y,Y,by show (3:Nat)<=Bb;decide,λp1 g1=>?_⟩;generalize c1:upd H3 p1 _=H4;obtain⟨t1,hp1⟩:=yW c1 g1;have hp1:H4 p1=U (.tup [.str (bg "skip"),.ref te,.int ((k+2+A.length:Nat):Int)]):=by rw[<-ej];exact hp1
  refine⟨by show (1:Nat)<=Bb;decide,λp2 g2=>?_⟩;generalize c2:upd H4 p2 _=H5;obtain⟨t2,hp2⟩:=yW c2 g2;have T2:=t1.trans t2;refine⟨_,Y,_,_,_,us,Y,Y,hp2,(s3.trans T2) _ _ hl2,bN (by show 1+us.length<=1000;lia) (),λp3 g3=>?_⟩;generalize c3:upd H5 p3 _=H6;obtain⟨t3,hp3⟩:=yW c3 g3;have T3:=T2.trans t3;refine⟨_,Y,_,_,Y,Y,zeS Y (T3 _ _ hl3) ⟨_,_,Y,Y,by show (2:Nat)<=Bb;decide,λp4 g4=>?_⟩⟩;generalize c4:upd H6 p4 _=H7;obtain⟨t4,hp4⟩:=yW c4 g4;have eg:((k+1+A.length:Nat):Int)+1+ws.length=((k+2+A.length+Bo.length:Nat):Int):=by lia
  have hp4:H7 p4=U (.tup [.str (bg "go"),.int ((k+2+A.length+Bo.length:Nat):Int)]):=by rw[<-eg];exact hp4
  refine⟨by show (1:Nat)<=Bb;decide,λp5 g5=>?_⟩;generalize c5:upd H7 p5 _=H8;obtain⟨t5,hp5⟩:=yW c5 g5;refine⟨_,_,_,_,Y,Y,(t4.trans t5) _ _ hp3,hp5,bN (by show ([V.ref p1]++us).length+1<=1000;rw[bF,dX];lia) (),λp6 g6=>?_⟩;generalize c6:upd H8 p6 _=H9;obtain⟨t6,hp6⟩:=yW c6 g6;have T6:=t4.trans (t5.trans t6);refine⟨_,Y,_,_,_,ws,Y,Y,hp6,(T3.trans T6) _ _ hl3,bN (by rw[bF,bF,dX,dX];lia:_<=1000) (),λp7 g7=>?_⟩;generalize c7:upd H9 p7 _=H10;obtain⟨t7,hp7⟩:=yW c7 g7;have T7:=T6.trans t7;have Bm:=T3.trans T7;have el:[V.ref p1]++us++[V.ref p4]++ws=V.ref p1::(us++(V.ref p4::ws)):=by simp
  refine q p7 ([V.ref p1]++us++[V.ref p4]++ws) _ (S3.trans Bm) hp7 ?_;rw[el];exact .cons ⟨p1,te,Y,(t2.trans (t3.trans T7)) _ _ hp1,(S3.trans Bm) _ _ e3⟩ (Paired.app2 (xB (s3.trans Bm) pu2) (.cons ⟨p4,Y,(t5.trans (t6.trans t7)) _ _ hp4⟩ (xB Bm pw)))
theorem Xk{H:Hp}{Q:VK}{E:XK}(h:xV 0 vs H Q E):False:=by
 obtain⟨v,r,k,e,h1,h2,h3⟩:=h;have:=h2.dp;lia
theorem rnF{P:Str->Option af}(T:Txt K P t):RnF K t:=⟨T.q05,T.q2g,T.q2f,T.q2l,T.q2k,T.q2h,T.q2i,T.q2j⟩
section
variable {x:L}{a:RAd}{C:List Cs}{s:hZ}
theorem aY.notup(R:aY t H x a C s)(h:H b=U (.tup zs)):¬ Ow x a b:=by
 rintro(rfl|rfl|rfl|rfl|rfl)
 ·rw[R.ix] at h;cases h
 ·rw[R.hs] at h;cases h
 ·rw[R.hg] at h;cases h
 ·rw[R.hn] at h;cases h
 ·rw[R.ha] at h;cases h
theorem aY.ts{H':Hp}(R:aY t H x a C s)(k:Kp x a H H'):tw H H':=λb ys e=>k b _ (R.notup e) e
theorem Kp.of_same{H':Hp}(s:aK H H'):Kp x a H H':=λb o _ e=>s b o e
theorem Kp.trans{H' H'':Hp}(h:Kp x a H H')(k:Kp x a H' H''):Kp x a H H'':=λb o n e=>k b o n (h b o n e)
theorem wT(h:Ow x a b):Kp x a H (upd H b o):=λc o' n e=>by rw[zk (λz=>n (by rw[z];exact h))];exact e
theorem aY.same{H':Hp}(R:aY t H x a C s)(k:aK H H'):aY t H' x a C s :=
 ⟨k _ _ R.ix,let ⟨xs,h1,h2⟩:=R.hc;⟨xs,k _ _ h1,xB k h2⟩,k _ _ R.hs,k _ _ R.hg,k _ _ R.hn,k _ _ R.ha,R.ng,R.nc⟩
theorem aY.putI(R:aY t H x a C s)(s':hZ)(e1:s'.sl=s.sl)(e2:s'.gi=s.gi)(e3:s'.no=s.no)(e4:s'.sa=s.sa):aY t (upd H x (.ins t.q00 a.dx (zhz a s'))) x a C s':=by
 refine⟨zh,?_,?_,?_,?_,?_,R.ng,R.nc⟩
 ·obtain⟨xs,h1,h2⟩:=R.hc;exact⟨xs,by rw[zk (zJ h1 R.ix ())];exact h1,xP (R.ts (wT (.inl Y))) h2⟩
 ·rw[zk (zJ R.hs R.ix ()),e1];exact R.hs
 ·rw[zk (zJ R.hg R.ix ()),e2];exact R.hg
 ·rw[zk (zJ R.hn R.ix ()),e3];exact R.hn
 ·rw[zk (zJ R.ha R.ix ()),e4];exact R.ha
theorem aY.putS(R:aY t H x a C s)(ah:List (aV×V)):aY t (upd H a.sl (.dK ah)) x a C { s with sl:=ah }:=by
 refine⟨by rw[zk (zJ R.ix R.hs ())];exact R.ix,?_,zh,?_,?_,?_,R.ng,R.nc⟩
 ·obtain⟨xs,h1,h2⟩:=R.hc;exact⟨xs,by rw[zk (zJ h1 R.hs ())];exact h1,xP (R.ts (wT (.inr (.inl Y)))) h2⟩
 ·rw[zk (zJ R.hg R.hs ())];exact R.hg
 ·rw[zk (zJ R.hn R.hs ())];exact R.hn
 ·rw[zk (zJ R.ha R.hs ())];exact R.ha
theorem aY.putG(R:aY t H x a C s)(aM:List aQ):aY t (upd H a.gi (.dT (sE aM))) x a C { s with gi:=aM }:=by
 refine⟨by rw[zk (zJ R.ix R.hg ())];exact R.ix,?_,?_,zh,?_,?_,R.ng,R.nc⟩
 ·obtain⟨xs,h1,h2⟩:=R.hc;exact⟨xs,by rw[zk (zJ h1 R.hg ())];exact h1,xP (R.ts (wT (.inr (.inr (.inl Y))))) h2⟩
 ·rw[zk (zJ R.hs R.hg ())];exact R.hs
 ·rw[zk (eA R.ng)];exact R.hn
 ·rw[zk (zJ R.ha R.hg ())];exact R.ha
theorem aY.putO(R:aY t H x a C s)(aM:List aQ):aY t (upd H a.no (.dT (sE aM))) x a C { s with no:=aM }:=by
 refine⟨by rw[zk (zJ R.ix R.hn ())];exact R.ix,?_,?_,?_,zh,?_,R.ng,R.nc⟩
 ·obtain⟨xs,h1,h2⟩:=R.hc;exact⟨xs,by rw[zk (zJ h1 R.hn ())];exact h1,xP (R.ts (wT (.inr (.inr (.inr (.inl Y)))))) h2⟩
 ·rw[zk (zJ R.hs R.hn ())];exact R.hs
 ·rw[zk R.ng];exact R.hg
 ·rw[zk (zJ R.ha R.hn ())];exact R.ha
theorem aY.putA(R:aY t H x a C s)(is:List Int):aY t (upd H a.sa (.lst (is.map V.int))) x a C { s with sa:=is }:=by
 refine⟨by rw[zk (zJ R.ix R.ha ())];exact R.ix,?_,?_,?_,?_,zh,R.ng,R.nc⟩
 ·obtain⟨xs,h1,h2⟩:=R.hc;exact⟨xs,by rw[zk R.nc];exact h1,xP (R.ts (wT (.inr (.inr (.inr (.inr Y)))))) h2⟩
 ·rw[zk (zJ R.hs R.ha ())];exact R.hs
 ·rw[zk (zJ R.hg R.ha ())];exact R.hg
 ·rw[zk (zJ R.hn R.ha ())];exact R.hn
end
theorem ZQ(h:¬ yt C s=D):s.n<C.length:=by
 unfold yt at h;simp only[Bool.or_eq_true,decide_eq_true_eq,not_or] at h;lia
theorem zbP(aM:List aQ)(p:Pl)(w:Int):zF (aM++[(p,w)]) p=U w:=by
 have h:=wc (aM++[(p,w)]) p;rw[qS,YU,au rfl] at h;cases hl:zF (aM++[(p,w)]) p with
 |none=>rw[hl] at h;cases h
 |some i=>rw[hl] at h;cases h;rfl
theorem zhE(h:sN H v c):∃p zs hd,v=.ref p/\H p=U (.tup zs)/\tE zs 0=U (.str hd)/\(hd=bg "take"->∃sh e x te,c=.row (.take sh e x)/\tE zs 1=U (.str sh)/\tE zs 2=U (.ref te)/\H te=U (.tup e))/\(hd≠bg "take"->∀s,vD c s=ao):=by
 cases c with
 |row r =>
  have h1:=h.1;cases r with
  |take sh e sl=>unfold hV at h1;obtain⟨r,te,rfl,_,_,e2,e3⟩:=h1;exact⟨r,_,_,Y,e2,Y,λ_=>⟨sh,e,sl,te,Y,Y,Y,e3⟩,λz=>absurd Y z⟩
  |give sh e f=>unfold hV at h1;obtain⟨r,te,tf,rfl,_,_,_,e2,e3⟩:=h1;exact⟨r,_,_,Y,e2,Y,λz=>absurd z (),λ_ _=>rfl⟩
  |lt sl e=>unfold hV at h1;obtain⟨r,te,rfl,_,_,e2,e3⟩:=h1;exact⟨r,_,_,Y,e2,Y,λz=>absurd z (),λ_ _=>rfl⟩
  |say e=>unfold hV at h1;obtain⟨r,te,rfl,_,_,e2,e3⟩:=h1;exact⟨r,_,_,Y,e2,Y,λz=>absurd z (),λ_ _=>rfl⟩
  |off e=>unfold hV at h1;obtain⟨r,te,rfl,_,_,e2,e3⟩:=h1;exact⟨r,_,_,Y,e2,Y,λz=>absurd z (),λ_ _=>rfl⟩
  |iff e b d=>exact(h.2:False).elim
 |skip e to=>obtain⟨p,te,e1,e2,_⟩:=h;exact⟨p,_,_,e1,e2,Y,λz=>absurd z (),λ_ _=>rfl⟩
 |go en=>obtain⟨p,e1,e2⟩:=h;exact⟨p,_,_,e1,e2,Y,λz=>absurd z (),λ_ _=>rfl⟩
theorem Vz{κ:Type} [DecidableEq κ]{ah:List (κ×V)}{k:κ}(h:k ∉ ah.map (·.1)):yc ah k=ao:=by
 cases e:yc ah k with
 |none=>rfl
 |some v=>exact absurd (zb9 e) h
theorem zct:∀(gs:List aQ) (ah:List (List aV×V)),(∀r∈gs,zC r.1 ∉ ah.map (·.1))->(gs.map (·.1)).Nodup->gs.foldl Y2 ah=ah++gs.map λr=>(zC r.1,V.int r.2)
 |[],ah,_,_=>by simp
 |r::gs,ah,h,nd=>by
  rw[bw,bZ] at nd;rw[eN,Y2,va _ (Vz (h r bo)),zct gs _ (λq hq=>?_) nd.2,bw,cH,List.singleton_append];rw[bQ,bB,not_or];refine⟨h q (bh _ hq),λz=>nd.1 ?_⟩;have z2:zC q.1=zC r.1:=by simpa using z
  rw[<-xh z2];exact bt hq
theorem X1{gs:List aQ}(nd:(gs.map (·.1)).Nodup):sE gs=gs.map λr=>(zC r.1,V.int r.2):=by
 unfold sE;rw[zct gs [] (λ_ _ h=>nomatch h) nd,gb]
theorem Xl{H H':Hp}(s:aK H H'):∀ {ys:List V} {aM:List aQ},Paired (PrAt H) ys aM->Paired (PrAt H') ys aM
 |_,_,.nil=>.nil
 |_,_,.cons ⟨r,p,e1,e2,e3⟩ t=>.cons ⟨r,p,e1,s _ _ e2,s _ _ e3⟩ (Xl s t)
theorem ze0(p:Pl)(w:Int)(s:hZ):(kB p w s).sl=s.sl:=by unfold kB;split <;> rfl
theorem zgh(p:Pl)(w:Int)(s:hZ):(kB p w s).n=s.n:=by unfold kB;split <;> rfl
theorem zil{w:Int}(h:YC r)(e:sY r w s=.ok s'):s'.n=s.n:=by
 cases r with
 |take sh e' x =>
  cases hk:rk s.sl e' with
  |error er=>simp only[sY,hk] at e;cases e
  |ok n=>simp only[sY,hk] at e;cases e;exact zgh _ _ _
 |give sh e' f =>
  cases hk:rk s.sl e' with
  |error er=>simp only[sY,hk] at e;cases e
  |ok n =>
   cases hk2:rk s.sl f with
   |error er=>simp only[sY,hk,hk2] at e;cases e
   |ok i=>simp only[sY,hk,hk2] at e;cases e;rfl
 |lt x e' =>
  cases hk:rk s.sl e' with
  |error er=>simp only[sY,hk] at e;cases e
  |ok n=>simp only[sY,hk] at e;cases e;rfl
 |say e' =>
  cases hk:rk s.sl e' with
  |error er=>simp only[sY,hk] at e;cases e
  |ok n=>simp only[sY,hk] at e;cases e;rfl
 |off e'=>exact h.elim
 |iff e' b d=>exact h.elim
theorem zaH{r:Rw}{w:Int}{s:hZ}(h:YC r):vJ (.row r) w s=match sY r w s with
  |.error er=>.error er
  |.ok s'=>.ok (s.n+1,s'):=by
 cases r with
 |off e'=>exact h.elim
 |iff e' b d=>exact h.elim
 |take sh e' x=>rfl
 |give sh e' f=>rfl
 |lt x e'=>rfl
 |say e'=>rfl
theorem zgi(r:Rw)(h:Vo r):(∃e,r=.off e)\/YC r:=by
 cases r with
 |off e'=>exact .inl ⟨e',Y⟩
 |iff e' b d=>exact h.elim
 |take sh e' x=>exact .inr trivial
 |give sh e' f=>exact .inr trivial
 |lt x e'=>exact .inr trivial
 |say e'=>exact .inr trivial
theorem zgj{F:L->Prop}(h:hV F H v r)(d:YC r):∃p xs hd,v=.ref p/\H p=U (.tup xs)/\tE xs 0=U (.str hd)/\hd≠bg "go"/\hd≠bg "skip"/\hd≠bg "off":=by
 cases r with
 |take sh e sl=>unfold hV at h;obtain⟨r,te,rfl,_,_,e2,e3⟩:=h;exact⟨r,_,_,Y,e2,Y,(),(),()⟩
 |give sh e f=>unfold hV at h;obtain⟨r,te,tf,rfl,_,_,_,e2,e3⟩:=h;exact⟨r,_,_,Y,e2,Y,(),(),()⟩
 |lt sl e=>unfold hV at h;obtain⟨r,te,rfl,_,_,e2,e3⟩:=h;exact⟨r,_,_,Y,e2,Y,(),(),()⟩
 |say e=>unfold hV at h;obtain⟨r,te,rfl,_,_,e2,e3⟩:=h;exact⟨r,_,_,Y,e2,Y,(),(),()⟩
 |off e=>exact d.elim
 |iff e a b=>exact d.elim
theorem ZR(h:yQ x=D):b9 x=D:=(zd8 h).flat
def zaI(H H':Hp):Prop:=∀b ys,H b=U (.tup ys)->H' b=U (.tup ys)
theorem aK.ts{H H':Hp}(s:aK H H'):zaI H H':=λb ys e=>s _ _ e
theorem ze1{J:It}{H1:Hp}{Q:Hp->Prop}{Bo:V->St->Hp->(V->St->Hp->Prop)->(St->Hp->Prop)->Prop}(n:Nat)(hn:n<=1000000)(C:St->Prop)(R:Nat->List V->Hp->Prop)(hm:∀i ys H H',zaI H H'->R i ys H->R i ys H')(hC:C τ₀)(h0:R 0 [] H1)
  (go:∀i H,aK H1 H->i<n->J.go i H) (stop:∀H,aK H1 H->J.stop n H) (hD:H1 Bq=ao)
  (hs:∀i x τ ys H H',C τ->aK H1 H->i<n->R i ys H->J.yld i H x H'->Bo x τ H' (λv τ' H4=>C τ'/\R (i+1) (ys++[v]) H4/\aK H H4) (λτ' H4=>C τ'/\R (i+1) ys H4/\aK H H4))
  (hd:∀ys H,ys.length<=n->R n ys H->aK H1 H->H Bq=U (.lst ys)->Q H) :
  ∃W:Nat->Nat->List V->St->Hp->Prop,(∃m,W 0 m [] τ₀ (upd H1 Bq (.lst [])))/\∀i m ys τ H,W i m ys τ H->H Bq=U (.lst ys) /\
  ((J.stop i H/\Q H)\/(J.go i H/\ys.length<Bb/\∃N:V->St->Hp->Prop,
   (∀v τ' H',N v τ' H'->H' Bq=U (.lst ys)/\∃m',m'<m/\W (i+1) m' (ys++[v]) τ' (upd H' Bq (.lst (ys++[v]))))/\∃Nf:St->Hp->Prop,(∀τ' H',Nf τ' H'->∃m',m'<m/\W (i+1) m' ys τ' H') /\
   ∀x H',J.yld i H x H'->Bo x τ H' N Nf)):=by
 have ext:∀ {H:Hp} {o:HO},aK H1 H->aK H1 (upd H Bq o):=λ{H o} h b u e=>by
  rw[zk (zy e hD)];exact h b u e
 refine⟨λi m ys τ H=>m=n-i/\i<=n/\ys.length<=i/\R i ys H/\aK H1 H/\H Bq=U (.lst ys)/\C τ,⟨n,by simp,bT _,bp _,hm _ _ _ _ (aK.ts (ext (aK.refl _))) h0,ext (aK.refl _),zh,hC⟩,?_⟩;rintro i m ys τ H ⟨rfl,hi,hl,hR,hS,hy,hc⟩;refine⟨hy,?_⟩;by_cases hlt:i<n
 ·refine .inr ⟨go i H hS hlt,bV (by lia:ys.length<=1000000) (),_,?_,_,?_,λx H' y=>hs i x τ ys H H' hc hS hlt hR y⟩
  ·rintro v τ' H4 ⟨c4,r4,s4⟩;have y4:=s4 _ _ hy;exact⟨y4,n-(i+1),(),Y,hlt,by simp;lia,hm _ _ _ _ (λb zs e=>by rw[zk (zJ e y4 (by simp))];exact e) r4,ext (hS.trans s4),zh,c4⟩
  ·rintro τ' H4 ⟨c4,r4,s4⟩;exact⟨n-(i+1),(),Y,hlt,(),r4,hS.trans s4,s4 _ _ hy,c4⟩
 ·obtain rfl:i=n:=by lia
  exact .inl ⟨stop H hS,hd ys H hl hR hS hy⟩
theorem Xm{P:Nat->Bool}(h:Xa P x)(h':Xa P y):Xa P (x++y):=by
 unfold Xa at *
 rw[zfS,rW,h,h'];rfl
theorem ze2{P:Nat->Bool}(h:P c=D):Xa P ⟨#[c]⟩:=by
 show [c].all P=D;rw[gm,h];rfl
theorem zgk{P:Nat->Bool}(h:Xa P x)(k:Nat):Xa P (gH x ao (U (k:Int))):=by
 unfold Xa at *
 rw[QW];rw[iZ] at *
 exact λc hc=>h c (dq hc)
theorem zdk{P:Nat->Bool}(h:Xa P x)(k:Nat):Xa P (gH x (U (k:Int)) ao):=by
 unfold Xa at *
 rw[W7];rw[iZ] at *
 exact λc hc=>h c (cW hc)
theorem zhF(x:Str)(k:Nat)(h:k<=x.length):(gH x ao (U (k:Int))).length=k:=by
 rw[YZ] at *
 rw[QW,cx];lia
theorem ze3(x:Str)(k:Nat):(gH x (U (k:Int)) ao).length=x.length-k:=by
 rw[YZ,YZ,W7,cG]
theorem zcu{P:Str->Prop}:∀ {ys:List V},(∀v∈ys,∃x,v=.str x/\P x)->∃ls:List Str,ys=ls.map V.str/\∀x∈ls,P x
 |[],_=>⟨[],Y,λ_ z=>nomatch z⟩
 |v::r,h=>by
  obtain⟨x,rfl,px⟩:=h v bo;obtain⟨ls,rfl,pl⟩:=zcu (ys:=r) λu hu=>h u (bh _ hu);exact⟨x::ls,Y,λy hy=>by
   rcases bD.mp hy with rfl|hy
   ·exact px
   ·exact pl y hy⟩
structure RnP(m:Nat)(s:hZ):Prop where
 ok:RnOk m s
 ng:∀r∈s.gi,b9 r.1.1=D
 nn:∀r∈s.no,b9 r.1.1=D
theorem RnOk.up(h:RnOk m s):RnOk (m+1) s:=⟨h.so,h.gw,h.nw,ca h.l1,ca h.l2,ca h.l3,ca h.l4,h.nd⟩
theorem RnP.up(h:RnP m s):RnP (m+1) s:=⟨h.ok.up,h.ng,h.nn⟩
theorem ze4{p:Pl}{l:List aQ}(nd:(l.map (·.1)).Nodup)(h:zF l p=ao):p ∉ l.map (·.1):=λz=>by
 obtain⟨r,hr,e⟩:=bC.mp z;have:=(Y3 (w:=r.2) nd).mpr (show (p,r.2)∈l by rw[<-e];exact hr);rw[h] at this;cases this
theorem ze5{w:Int}(h:RnOk m s)(hw:sH w=D):sH (Vq p w s)=D:=by
 unfold Vq;cases e:zF s.gi p with
 |some i=>exact wY (P:=λr=>sH r.2=D) h.gw e
 |none =>
  cases e2:zF s.no p with
  |some i=>exact wY (P:=λr=>sH r.2=D) h.nw e2
  |none=>exact hw
theorem zgl{m:Nat}{s:hZ}{p:Pl}{w i:Int}{x:Str}(h:RnP m s)(hp:b9 p.1=D)(hw:sH w=D)(hi:sH i=D):RnP (m+1) { kB p w s with sl:=yq s.sl (.inr x) (.int i) }:=by
 have so:=JZ h.ok.so (.inr x) hi;have l1:(yq s.sl (.inr x) (V.int i)).length<=m+1:=bN (xR _ _ _) (fM h.ok.l1);unfold kB;by_cases c:(zF s.gi p).isSome=D\/(zF s.no p).isSome=D
 ·rw[au c];exact⟨⟨so,h.ok.gw,h.ok.nw,l1,ca h.ok.l2,ca h.ok.l3,ca h.ok.l4,h.ok.nd⟩,h.ng,h.nn⟩
 ·rw[ap c];have cn:zF s.no p=ao:=by
   cases e:zF s.no p with
   |none=>rfl
   |some i=>exact absurd (.inr (by rw[e];rfl)) c
  refine⟨⟨so,h.ok.gw,λr hr=>?_,l1,ca h.ok.l2,?_,ca h.ok.l4,?_⟩,h.ng,λr hr=>?_⟩
  ·rcases bB.mp hr with hr|hr
   ·exact h.ok.nw r hr
   ·rw[br.mp hr];exact hw
  ·show (s.no++[(p,w)]).length<=m+1;rw[bF];exact fM h.ok.l3
  ·show ((s.no++[(p,w)]).map (·.1)).Nodup;rw[bQ];refine cV.mpr ⟨h.ok.nd,by simp,λa ha b hb=>?_⟩;have hb:b=p:=by simpa using hb
   rw[hb];exact λz=>ze4 h.ok.nd cn (by rw[<-z];exact ha)
  ·rcases bB.mp hr with hr|hr
   ·exact h.nn r hr
   ·rw[br.mp hr];exact hp
theorem zhG{w:Int}(h:RnP m s)(d:YC r)(k:qT r)(pl:Vk r)(hw:sH w=D)(e:sY r w s=.ok s'):RnP (m+1) s'/\s'.why=s.why:=by
 cases r with
 |off e'=>exact d.elim
 |iff e' b c=>exact d.elim
 |take sh e' x =>
  cases hk:rk s.sl e' with
  |error er=>simp only[sY,hk] at e;cases e
  |ok n =>
   simp only[sY,hk] at e;cases e;exact⟨zgl h pl.1 hw (ze5 h.ok hw),by show (kB _ _ _).why=_;unfold kB;split <;> rfl⟩
 |give sh e' f =>
  cases hk:rk s.sl e' with
  |error er=>simp only[sY,hk] at e;cases e
  |ok n =>
   cases hk2:rk s.sl f with
   |error er=>simp only[sY,hk,hk2] at e;cases e
   |ok i =>
    simp only[sY,hk,hk2] at e;cases e;have hi:=zes h.ok.so k.2.2.1 hk2;refine⟨⟨⟨h.ok.so,λr hr=>?_,h.ok.nw,ca h.ok.l1,?_,ca h.ok.l3,ca h.ok.l4,h.ok.nd⟩,λr hr=>?_,h.nn⟩,Y⟩
    ·rcases bB.mp hr with hr|hr
     ·exact h.ok.gw r hr
     ·rw[br.mp hr];exact hi
    ·show (s.gi++[((sh,n),i)]).length<=m+1;rw[bF];exact fM h.ok.l2
    ·rcases bB.mp hr with hr|hr
     ·exact h.ng r hr
     ·rw[br.mp hr];exact pl.1
 |lt x e' =>
  cases hk:rk s.sl e' with
  |error er=>simp only[sY,hk] at e;cases e
  |ok i =>
   simp only[sY,hk] at e;cases e;have hi:=zes h.ok.so k.2.1 hk;exact⟨⟨⟨JZ h.ok.so _ hi,h.ok.gw,h.ok.nw,bN (xR _ _ _) (fM h.ok.l1),ca h.ok.l2,ca h.ok.l3,ca h.ok.l4,h.ok.nd⟩,h.ng,h.nn⟩,Y⟩
 |say e' =>
  cases hk:rk s.sl e' with
  |error er=>simp only[sY,hk] at e;cases e
  |ok i =>
   simp only[sY,hk] at e;cases e;exact⟨⟨⟨h.ok.so,h.ok.gw,h.ok.nw,ca h.ok.l1,ca h.ok.l2,ca h.ok.l3,by show (s.sa++[i]).length<=m+1;rw[bF];exact fM h.ok.l4,h.ok.nd⟩,h.ng,h.nn⟩,Y⟩
theorem zhH(er:Er):b9 (zak er)=D:=by cases er <;> lia
theorem zgm{w:Int}(O:V6 C)(h:RnI C m s)(ho:yt C s=aq)(hw:sH w=D):RnI C (m+1) (xj C w s):=by
 have no:¬ yt C s=D:=by rw[ho];decide
 have lt:=ZQ no;have hc:C[s.n]?=U C[s.n]:=bb lt;have es:xj C w s=xo C[s.n] w s:=by unfold xj;rw[ap no,hc]
 have wn:s.why=ao:=by
  cases e:s.why with
  |none=>rfl
  |some v=>exact absurd (show yt C s=D by unfold yt;rw[e];rfl) no
 have mn:=h.at_ wn;have ok:=O.ok _ (eD lt);have pl:=O.pl _ (eD lt);have P:RnP m s:=⟨h.ok,h.ng,h.nn⟩;have fin:∀ {s':hZ} {k:Nat},RnP (m+1) s'->(s'.why=ao->m+1<=k)->(∀v,s'.why=U v->b9 v=D)->RnI C (m+1) { s' with n:=k }:=λ{s' k} p l y =>
  ⟨⟨p.ok.so,p.ok.gw,p.ok.nw,p.ok.l1,p.ok.l2,p.ok.l3,p.ok.l4,p.ok.nd⟩,p.ng,p.nn,l,y⟩
 have bad:∀er,RnI C (m+1) { s with why:=U (zak er) }:=λer=>⟨⟨P.up.ok.so,P.up.ok.gw,P.up.ok.nw,P.up.ok.l1,P.up.ok.l2,P.up.ok.l3,P.up.ok.l4,P.up.ok.nd⟩,P.ng,P.nn,λz=>(by cases z),λv z=>by cases z;exact zhH er⟩;have does:∀r:Rw,YC r->K3 (.row r)->zgd (.row r)->RnI C (m+1) (xo (.row r) w s):=λr hf ok pl=>by
  unfold xo;rw[zaH hf];cases hk:sY r w s with
  |error er=>exact bad er
  |ok s' =>
   obtain⟨a,b⟩:=zhG P hf ok pl hw hk;exact fin a (λ_=>by lia) (λv z=>h.wy v (by rw[<-b];exact z))
 rw[es];have hg:∀to,C[s.n]=.go to->s.n<to:=λto e=>O.fg s.n to (by rw[hc,e]);have hs:∀e to,C[s.n]=.skip e to->s.n<to:=λe to e2=>O.fw s.n to e (by rw[hc,e2]);generalize C[s.n]=c at *
 cases c with
 |go to =>
  have:=hg to rfl;exact fin P.up (λ_=>by lia) h.wy
 |skip e to =>
  have:=hs e to rfl;cases hk:rk s.sl e with
  |error er=>simp only[xo,vJ,hk];exact bad er
  |ok i =>
   simp only[xo,vJ,hk];refine fin P.up (λ_=>?_) h.wy;split <;> lia
 |row r =>
  cases r with
  |off e =>
   cases hk:rk s.sl e with
   |error er=>simp only[xo,vJ,hk];exact bad er
   |ok i =>
    by_cases hi:i=0
    ·simp only[xo,vJ,hk,au hi];exact fin P.up (λ_=>by lia) h.wy
    ·simp only[xo,vJ,hk,ap hi];exact fin (s':={ s with why:=U (bg "told") }) ⟨⟨P.up.ok.so,P.up.ok.gw,P.up.ok.nw,P.up.ok.l1,P.up.ok.l2,P.up.ok.l3,P.up.ok.l4,P.up.ok.nd⟩,P.ng,P.nn⟩ (λz=>by cases z) (λv z=>by cases z;lia)
  |iff e b d=>exact fin (k:=s.n+1) P.up (λ_=>by lia) h.wy
  |take sh e x=>exact does (.take sh e x) trivial ok pl
  |give sh e x=>exact does (.give sh e x) trivial ok pl
  |lt sh e=>exact does (.lt sh e) trivial ok pl
  |say e=>exact does (.say e) trivial ok pl
theorem zcv{w:Int}(ho:yt C s=aq):(wG C s=ao->(xj C w s).no=s.no)/\∀p,wG C s=U p->(xj C w s).no=s.no++[(p,w)]:=by
 have no:¬ yt C s=D:=by rw[ho];decide
 have lt:=ZQ no;have hc:C[s.n]?=U C[s.n]:=bb lt;have es:xj C w s=xo C[s.n] w s:=by unfold xj;rw[ap no,hc]
 have ea:wG C s=vD C[s.n] s:=by unfold wG;rw[ap no,hc];rfl
 rw[es,ea];generalize C[s.n]=c at *
 have triv:∀c',(∀p,vD c' s≠U p)->(xo c' w s).no=s.no->(vD c' s=ao->(xo c' w s).no=s.no)/\∀p,vD c' s=U p->(xo c' w s).no=s.no++[(p,w)]:=λc' a b=>⟨λ_=>b,λp z=>absurd z (a p)⟩;cases c with
 |go to=>exact triv _ (λp z=>nomatch z) rfl
 |skip e to =>
  refine triv _ (λp z=>nomatch z) ?_;cases hk:rk s.sl e <;> simp only[xo,vJ,hk]
 |row r =>
  cases r with
  |off e =>
   refine triv _ (λp z=>nomatch z) ?_;cases hk:rk s.sl e with
   |error er=>simp only[xo,vJ,hk]
   |ok i =>
    simp only[xo,vJ,hk];split <;> rfl
  |iff e b d=>exact triv _ (λp z=>nomatch z) rfl
  |give sh e f =>
   refine triv _ (λp z=>nomatch z) ?_;cases hk:rk s.sl e with
   |error er=>simp only[xo,vJ,sY,hk]
   |ok i=>cases hk2:rk s.sl f <;> simp only[xo,vJ,sY,hk,hk2]
  |lt x e =>
   refine triv _ (λp z=>nomatch z) ?_;cases hk:rk s.sl e <;> simp only[xo,vJ,sY,hk]
  |say e =>
   refine triv _ (λp z=>nomatch z) ?_;cases hk:rk s.sl e <;> simp only[xo,vJ,sY,hk]
  |take sh e x =>
   cases hk:rk s.sl e with
   |error er=>exact triv _ (λp z=>by simp only[vD,hk] at z;cases z) (by simp only[xo,vJ,sY,hk])
   |ok n =>
    simp only[xo,vJ,sY,vD,hk];by_cases c:(zF s.gi (sh,n)).isSome=D\/(zF s.no (sh,n)).isSome=D
    ·rw[au c];exact⟨λ_=>by unfold kB;rw[au c],λp z=>nomatch z⟩
    ·rw[ap c];exact⟨λz=>(nomatch z),λp z=>by cases z;unfold kB;rw[ap c]⟩
structure FwC(k:Nat)(C:List Cs):Prop where
 ok:∀c∈C,K3 c/\zgd c
 fw:∀(i to:Nat) (e:List V),C[i]?=U (Cs.skip e to)->k+i<to
 fg:∀(i to:Nat),C[i]?=U (Cs.go to)->k+i<to
theorem FwC.nil(k:Nat):FwC k []:=⟨λc h=>(nomatch h),λi to e h=>by simp at h,λi to h=>by simp at h⟩
theorem FwC.cons(h1:K3 c/\zgd c)(h2:∀e to,c=.skip e to->k<to)(h3:∀to,c=.go to->k<to)(h:FwC (k+1) C):FwC k (c::C):=by
 refine⟨λx hx=>?_,λi to e hi=>?_,λi to hi=>?_⟩
 ·rcases bD.mp hx with rfl|hx
  ·exact h1
  ·exact h.ok x hx
 ·cases i with
  |zero=>have:=h2 e to (by simpa using hi);lia
  |succ i=>have:=h.fw i to e (by simpa using hi);lia
 ·cases i with
  |zero=>have:=h3 to (by simpa using hi);lia
  |succ i=>have:=h.fg i to (by simpa using hi);lia
theorem FwC.app:∀ {A:List Cs} {k:Nat} {Bo:List Cs},FwC k A->FwC (k+A.length) Bo->FwC k (A++Bo)
 |[],k,Bo,_,h=>by simpa using h
 |c::A,k,Bo,h,h'=>by
  rw[dJ];refine .cons (h.ok c bo) (λe to z=>by have:=h.fw 0 to e (by rw[z];rfl);lia) (λto z=>by have:=h.fg 0 to (by rw[z];rfl);lia) (FwC.app ⟨λx hx=>h.ok x (bh _ hx),λi to e hi=>?_,λi to hi=>?_⟩ (by rw[bU] at h';rw[show k+1+A.length=k+(A.length+1) by lia];exact h'))
  ·have:=h.fw (i+1) to e (by simpa using hi);lia
  ·have:=h.fg (i+1) to (by simpa using hi);lia
mutual
theorem ze6:∀(r:Rw) (k:Nat),qT r->Vk r->FwC k (xv r k)
 |.iff e a b,k,o,p=>by
  unfold qT at o;unfold Vk at p;have ha:=ZS a (k+1) o.2.1 p.2.1;have hb:=ZS b (k+2+(z4 a (k+1)).length) o.2.2 p.2.2;have ec:xv (.iff e a b) k=blk e k (z4 a (k+1)) (aZ.isNil b) (z4 b (k+2+(z4 a (k+1)).length)):=by rw[xv]
  rw[ec];generalize z4 a (k+1)=A at *
  generalize z4 b (k+2+A.length)=Bo at *
  unfold blk;split
  ·exact .cons ⟨o.1,trivial⟩ (λe' to z=>by cases z;lia) (λto z=>nomatch z) ha
  ·refine .cons ⟨o.1,trivial⟩ (λe' to z=>by cases z;lia) (λto z=>nomatch z) (.app ha (.cons ⟨trivial,trivial⟩ (λe' to z=>nomatch z) (λto z=>by cases z;lia) ?_));rw[show k+1+A.length+1=k+2+A.length by lia];exact hb
 |.take sh e sl,k,o,p=>by rw[vP (x:=.take sh e sl) trivial];exact .cons ⟨o,p⟩ (λ_ _ z=>nomatch z) () (.nil _)
 |.give sh e f,k,o,p=>by rw[vP (x:=.give sh e f) trivial];exact .cons ⟨o,p⟩ (λ_ _ z=>nomatch z) () (.nil _)
 |.lt sl e,k,o,p=>by rw[vP (x:=.lt sl e) trivial];exact .cons ⟨o,p⟩ (λ_ _ z=>nomatch z) () (.nil _)
 |.say e,k,o,p=>by rw[vP (x:=.say e) trivial];exact .cons ⟨o,p⟩ (λ_ _ z=>nomatch z) () (.nil _)
 |.off e,k,o,p=>by rw[vP (x:=.off e) trivial];exact .cons ⟨o,p⟩ (λ_ _ z=>nomatch z) () (.nil _)
theorem ZS:∀(r:aZ) (k:Nat),Z6 r->qV r->FwC k (z4 r k)
 |.nil,k,o,p=>by rw[z4];exact .nil k
 |.cons r rs,k,o,p=>by
  unfold Z6 at o;unfold qV at p;rw[z4];exact .app (ze6 r k o.1 p.1) (ZS rs _ o.2 p.2)
end
theorem zim(h1:WF 6 r)(h2:Z6 r)(h3:(z4 r 0).length<=40):V6 (z4 r 0):=by
 have f:=ZS r 0 h2 h1.pl;exact⟨λc hc=>(f.ok c hc).1,λc hc=>(f.ok c hc).2,λi to e h=>by have:=f.fw i to e h;lia,λi to h=>by have:=f.fg i to h;lia,h3⟩
def plD(p:Pl):PyData:=.tuple [.str p.1,.int p.2]
theorem ze7(h:H q=U (.tup [.str p.1,.int p.2])):Dat K H (.ref q) (plD p):=.tup (sB.of h) (.cons (.str _) (.cons (.int _) .nil))
theorem zaJ(h:b9 p.1=D):yi (plD p)=D:=by simp[plD,yi,xH,h]
theorem zhI(h:plD p=plD q):p=q:=by
 unfold plD at h;simp only[pD,eP,PyData.str.injEq,PyData.int.injEq,and_true] at h;exact rK h.1 h.2
theorem zaK(p:Pl):(plD p).depth<=2:=by simp[plD,ma,fZ]
section
variable {C:List Cs}{s:hZ}{m:Nat}
theorem zgn(h:qJ s out)(h':qJ s out'):out=out':=by
 unfold qJ at h h';cases e:s.why with
 |some w=>rw[e] at h h';rw[h,h']
 |none=>rw[e] at h h';exact Vg h.1 h'.1 λ⟨p,w⟩=>(h.2 p w).trans (h'.2 p w).symm
theorem zin(I:RnI C m s)(h:qJ s out):∀r∈out,b9 r.1.1=D:=by
 unfold qJ at h;cases e:s.why with
 |some w=>rw[e] at h;rw[h];exact λr hr=>nomatch hr
 |none =>
  rw[e] at h;intro r hr;exact wY (P:=λr=>b9 r.1.1=D) I.ng ((h.2 r.1 r.2).mp hr)
theorem ze8(h:qJ s out):out.length<=s.gi.length:=by
 unfold qJ at h;cases e:s.why with
 |some w=>rw[e] at h;rw[h];exact bT _
 |none =>
  rw[e] at h;have ld:=jv s.gi;have n1:((sE s.gi).map (·.1)).Nodup:=(kA s.gi).1;have n2:((out.map (·.1)).map zC).Nodup:=by
   have:=h.1.nd;unfold iF at *
   rw[gy];exact this.imp λ{a b} hab z=>hab (xh z)
  have sub2:∀k∈(out.map (·.1)).map zC,k∈(sE s.gi).map (·.1):=λk hk=>by
   obtain⟨p,hp,rfl⟩:=bC.mp hk;obtain⟨r,hr,rfl⟩:=bC.mp hp;exact bt (f:=(·.1)) (mem_dOf.mpr ⟨r.1,r.2,Y,(h.2 r.1 r.2).mp hr⟩)
  have:=xS n2 sub2;simp only[bf] at this;lia
end
theorem ze9{H0 H1 H3:Hp}(s1:aK H0 H1)(hx:H1 x=ao)(hdx:H1 dx=ao)(k3:J6 x (upd (upd H1 dx (.own x)) x (.ins t.q00 dx [])) H3)(fr:∀b,OwA x a b->b=x\/upd (upd H1 dx (.own x)) x (.ins t.q00 dx []) b=ao):aK H1 H3/\∀b,OwA x a b->H1 b=ao:=by
 have s2:aK H1 (upd (upd H1 dx (HO.own x)) x (HO.ins t.q00 dx [])):=λb o e=>by rw[zk (zy e hx),zk (zy e hdx)];exact e
 refine⟨λb o e=>k3 b o (λz=>by rw[z,hx] at e;cases e) (s2 b o e),λb ob=>?_⟩;rcases fr b ob with z|z
 ·rw[z];exact hx
 ·exact zI s2 z
section
variable {C:List Cs}
theorem aY.has(R:aY t H x a C s)(ow:OwA x a b):H b≠ao:=by
 obtain⟨ys,hy,_⟩:=R.hc;rcases ow with (z|z|z|z|z)|z
 ·rw[z,R.ix];exact λz=>nomatch z
 ·rw[z,R.hs];exact λz=>nomatch z
 ·rw[z,R.hg];exact λz=>nomatch z
 ·rw[z,R.hn];exact λz=>nomatch z
 ·rw[z,R.ha];exact λz=>nomatch z
 ·rw[z,hy];exact λz=>nomatch z
end
theorem _root_.L2.PrAt.same{H H':Hp}(h:zaw H v q)(s:aK H H'):zaw H' v q:=by
 obtain⟨r,p,e,h1,h2⟩:=h;exact⟨r,p,e,s _ _ h1,s _ _ h2⟩
theorem _root_.L2.PrAt.tsame{H H':Hp}(h:zaw H v q)(s:zaI H H'):zaw H' v q:=by
 obtain⟨r,p,e,h1,h2⟩:=h;exact⟨r,p,e,s _ _ h1,s _ _ h2⟩
theorem jk{H H':Hp}(s:zaI H H'):∀ {vs:List V} {aM:List aQ},YF H vs aM->YF H' vs aM
 |_,_,.nil=>.nil
 |_,_,.cons h r=>.cons (h.tsame s) (jk s r)
theorem ZU{H H':Hp}(s:aK H H'):∀ {vs:List V} {aM:List aQ},YF H vs aM->YF H' vs aM
 |_,_,.nil=>.nil
 |_,_,.cons h r=>.cons (h.same s) (ZU s r)
theorem Kb{H:Hp}{v:V}{q:aQ}:∀ {ys:List V} {aM:List aQ},YF H ys aM->zaw H v q->YF H (ys++[v]) (aM++[q])
 |_,_,.nil,h=>.cons h .nil
 |_,_,.cons a r,h=>.cons a (Kb r h)
theorem zaL(aM:List aQ):∃qs:List Pl,(sE aM).map (·.1)=qs.map zC/\qs.Nodup/\∀p,p∈qs↔(zF aM p).isSome=D:=by
 have h:=kA aM;have:∀(ah:List (List aV×V)),(∀kv∈ah,∃(p:Pl) (w:Int),kv=(zC p,.int w))->∃qs:List Pl,ah.map (·.1)=qs.map zC:=λah=>by
  induction ah with
  |nil=>exact λ_=>⟨[],Y⟩
  |cons kv r ih =>
   intro hk;obtain⟨qs,e⟩:=ih λz hz=>hk z (bh _ hz);obtain⟨p,w,e2⟩:=hk kv bo;exact⟨p::qs,by rw[bw,bw,e,e2]⟩
 obtain⟨qs,e⟩:=this _ h.2;refine⟨qs,e,xF (f:=zC) (by rw[<-e];exact h.1),λp=>?_⟩;constructor
 ·intro hp;have:zC p∈(sE aM).map (·.1):=by rw[e];exact bt hp
  obtain⟨kv,hk,e1⟩:=bC.mp this;obtain⟨p',w,rfl,hw⟩:=mem_dOf.mp hk;have:=xh e1;subst this;rw[hw];rfl
 ·intro hp;obtain⟨w,hw⟩:=fj.mp hp;have:zC p∈qs.map zC:=by rw[<-e];exact bt (f:=(·.1)) (mem_dOf.mpr ⟨p,w,Y,hw⟩)
  obtain⟨p',hp',e1⟩:=bC.mp this;rw[<-xh e1];exact hp'
def VA(aM:List aQ)(p:Pl):Option aQ:=match zF aM p with
 |some w=>if w=0 then ao else U (p,w)
 |none=>ao
def zhJ(aM:List aQ)(qs:List Pl)(i:Nat)(ys:List V)(H:Hp):Prop:=∃out:List aQ,YF H ys out/\out=(qs.take i).filterMap (VA aM)
theorem zgo{H H':Hp}(s:zaI H H')(h:zhJ aM qs i ys H):zhJ aM qs i ys H':=by
 obtain⟨out,h1,h2⟩:=h;exact⟨out,jk s h1,h2⟩
theorem tz :VA aM p=U b↔b.1=p/\zF aM p=U b.2/\b.2≠0:=by
 unfold VA;obtain⟨p',w'⟩:=b;cases e:zF aM p with
 |none=>simp
 |some w =>
  by_cases h:w=0
  ·subst h;simp only[if_true];constructor
   ·intro z;cases z
   ·rintro⟨_,z,h2⟩;exact absurd (bJ z).symm h2
  ·simp only[ap h,fu,Prod.mk.injEq];constructor
   ·rintro⟨rfl,rfl⟩;exact⟨Y,Y,h⟩
   ·rintro⟨rfl,rfl,_⟩;exact⟨Y,Y⟩
theorem zhK{ps:List Pl}(hw:ps.Pairwise λa b=>yn a b=D)(hm:∀p,p∈ps↔(zF aM p).isSome=D):zem aM (ps.filterMap (VA aM)):=by
 constructor
 ·unfold sS;rw[List.pairwise_filterMap];refine hw.imp λ{a a'} h b hb b' hb'=>?_;rw[(tz.mp hb).1,(tz.mp hb').1];exact h
 ·intro p w;rw[List.mem_filterMap];constructor
  ·rintro⟨a,_,h⟩;obtain⟨h1,h2,h3⟩:=tz.mp h;cases h1;exact⟨h2,h3⟩
  ·rintro⟨h1,h2⟩;exact⟨p,(hm p).mpr (by rw[h1];rfl),tz.mpr ⟨Y,h1,h2⟩⟩
theorem VB{p:Pl}{w:Int}:∀ {l:List aQ},zF l p=U w->(p,w)∈l
 |[],h=>by cases h
 |r::t,h=>by
  rw[zF] at h;cases e:zF t p with
  |some w' =>
   rw[e] at h;have:w'=w:=by simpa using h
   subst this;exact bh _ (VB e)
  |none =>
   rw[e] at h;by_cases c:r.1=p
   ·rw[au c] at h;have:r.2=w:=by simpa using h
    rw[<-c,<-this];exact bo
   ·rw[ap c] at h;cases h
theorem sI.same{H H':Hp}(h:sI H a aM)(s:aK H H'):sI H' a aM:=by
 obtain⟨xs,h1,h2⟩:=h;exact⟨xs,s _ _ h1,ZU s h2⟩
theorem zio(h:lfV v):kW v/\isJ v=aq/\plV v:=by
 rcases h with ⟨i,rfl,hi⟩|⟨x,rfl,hx⟩
 ·exact⟨.inl ⟨i,Y,hi⟩,Y,.inl ⟨i,Y⟩⟩
 ·have:=Y0 hx;exact⟨.inr ⟨x,Y,()⟩,this.2.2.1,.inr ⟨x,Y,ZR hx⟩⟩
theorem ss.same{H H':Hp}(h:ss H nm ws)(s:aK H H'):ss H' nm ws:=⟨s _ _ h.1,h.2⟩
theorem zaM(h:ss H nm ws)(n:Nat)(hl:ws.length=n)(hn:0<(n:Int))(e:Int):∃x,tE (ws.map V.str) (e%n)=U (.str x)/\x∈ws/\yQ x=D:=by
 obtain⟨v,hv,hm⟩:=zhC e n (xs:=ws.map V.str) (by rw[bf,hl]) hn;obtain⟨x,hx,rfl⟩:=bC.mp hm;exact⟨x,hv,hx,h.2 x hx⟩
theorem Kc(ha:aX a)(hb:aX b)(hw:wdJ w)(l:a.length+b.length<1000):aX (a++b++[.str w]):=by
 refine⟨λah=>?_,λz hz=>?_,by rw[bF,bF,dX];lia⟩
 ·obtain⟨r1,g1⟩:=ha.1 ah;obtain⟨r2,g2⟩:=hb.1 ah;exact⟨_,zc5 hw.1 g1 g2⟩
 ·rcases bB.mp hz with hz|hz
  ·rcases bB.mp hz with hz|hz
   ·exact ha.2.1 z hz
   ·exact hb.2.1 z hz
  ·rw[br.mp hz];exact .inr ⟨w,Y,hw.2.1⟩
theorem zcw(ha:tmP a)(hb:tmP b)(hw:wdJ w):tmP (a++b++[.str w]):=λz hz=>by
 rcases bB.mp hz with hz|hz
 ·rcases bB.mp hz with hz|hz
  ·exact ha z hz
  ·exact hb z hz
 ·rw[br.mp hz];exact .inr ⟨w,Y,hw.2.2⟩
theorem Xn(h:lfV u):aX [u]/\tmP [u]:=by
 obtain⟨o1,j1,p1⟩:=zio h;exact⟨zeE o1 j1,λz hz=>by rw[br.mp hz];exact p1⟩
mutual
theorem zgp:∀(r:Rw) (k:Nat),(xv r k).length<=szR r/\r.cnt<=szR r
 |.iff e a b,k=>by
  have h1:=Xo a (k+1);have h2:=Xo b (k+2+(z4 a (k+1)).length);have c:(Rw.iff e a b).cnt=max a.cnt b.cnt+1:=by rw[Rw.cnt]
  have z:szR (.iff e a b)=Zj a+Zj b+2:=by rw[szR]
  rw[xv,c,z];unfold blk;split
  ·exact⟨by simp;lia,()⟩
  ·exact⟨by simp;lia,()⟩
 |.take sh e sl,k=>by simp[xv,szR,Rw.cnt]
 |.give sh e f,k=>by simp[xv,szR,Rw.cnt]
 |.lt sl e,k=>by simp[xv,szR,Rw.cnt]
 |.say e,k=>by simp[xv,szR,Rw.cnt]
 |.off e,k=>by simp[xv,szR,Rw.cnt]
theorem Xo:∀(r:aZ) (k:Nat),(z4 r k).length<=Zj r/\r.cnt<=Zj r
 |.nil,k=>by simp[z4,Zj,aZ.cnt]
 |.cons r rs,k=>by
  have h1:=zgp r k;have h2:=Xo rs (k+(xv r k).length);rw[z4,Zj,aZ.cnt,bF];lia
end
theorem rn0 :RnI C 0 st0:=⟨⟨(λk v e=>by cases e),(λr h=>nomatch h),(λr h=>nomatch h),bp _,bp _,bp _,bp _,cw⟩,(λr h=>nomatch h),(λr h=>nomatch h),λ_=>bT _,λw z=>nomatch z⟩
theorem zdl{J:It}{H1:Hp}{Q:Hp->Prop}{Bo:V->St->Hp->(V->St->Hp->Prop)->(St->Hp->Prop)->Prop}(n:Nat)(hn:n<=1000000)(C:St->Prop)(R:Nat->List V->Hp->Prop)(hm:∀i ys H H',(∀b o,b≠Bq->H b=U o->H' b=U o)->R i ys H->R i ys H')(hC:C τ₀)(h0:R 0 [] H1)
  (go:∀i H,aK H1 H->i<n->J.go i H) (stop:∀H,aK H1 H->J.stop n H) (hD:H1 Bq=ao)
  (hs:∀i x τ ys H H',C τ->aK H1 H->i<n->R i ys H->H Bq=U (.lst ys)->J.yld i H x H'->Bo x τ H' (λv τ' H4=>C τ'/\R (i+1) (ys++[v]) H4/\aK H H4) (λτ' H4=>C τ'/\R (i+1) ys H4/\aK H H4))
  (hd:∀ys H,ys.length<=n->R n ys H->aK H1 H->H Bq=U (.lst ys)->Q H) :
  ∃W:Nat->Nat->List V->St->Hp->Prop,(∃m,W 0 m [] τ₀ (upd H1 Bq (.lst [])))/\∀i m ys τ H,W i m ys τ H->H Bq=U (.lst ys) /\
  ((J.stop i H/\Q H)\/(J.go i H/\ys.length<Bb/\∃N:V->St->Hp->Prop,
   (∀v τ' H',N v τ' H'->H' Bq=U (.lst ys)/\∃m',m'<m/\W (i+1) m' (ys++[v]) τ' (upd H' Bq (.lst (ys++[v]))))/\∃Nf:St->Hp->Prop,(∀τ' H',Nf τ' H'->∃m',m'<m/\W (i+1) m' ys τ' H') /\
   ∀x H',J.yld i H x H'->Bo x τ H' N Nf)):=by
 have ext:∀ {H:Hp} {o:HO},aK H1 H->aK H1 (upd H Bq o):=λ{H o} h b u e=>by
  rw[zk (zy e hD)];exact h b u e
 refine⟨λi m ys τ H=>m=n-i/\i<=n/\ys.length<=i/\R i ys H/\aK H1 H/\H Bq=U (.lst ys)/\C τ,⟨n,by simp,bT _,bp _,hm _ _ _ _ (λb o hb e=>by rw[zk hb];exact e) h0,ext (aK.refl _),zh,hC⟩,?_⟩;rintro i m ys τ H ⟨rfl,hi,hl,hR,hS,hy,hc⟩;refine⟨hy,?_⟩;by_cases hlt:i<n
 ·refine .inr ⟨go i H hS hlt,bV (by lia:ys.length<=1000000) (),_,?_,_,?_,λx H' y=>hs i x τ ys H H' hc hS hlt hR hy y⟩
  ·rintro v τ' H4 ⟨c4,r4,s4⟩;have y4:=s4 _ _ hy;exact⟨y4,n-(i+1),(),Y,hlt,by simp;lia,hm _ _ _ _ (λb o hb e=>by rw[zk hb];exact e) r4,ext (hS.trans s4),zh,c4⟩
  ·rintro τ' H4 ⟨c4,r4,s4⟩;exact⟨n-(i+1),(),Y,hlt,(),r4,hS.trans s4,s4 _ _ hy,c4⟩
 ·obtain rfl:i=n:=by lia
  exact .inl ⟨stop H hS,hd ys H hl hR hS hy⟩
theorem zhL(I:RnI C m s)(h:qJ s out):∀r∈out,sH r.2=D:=by
 unfold qJ at h;cases e:s.why with
 |some w=>rw[e] at h;rw[h];exact λr hr=>nomatch hr
 |none =>
  rw[e] at h;intro r hr;exact wY (P:=λr=>sH r.2=D) I.ok.gw ((h.2 r.1 r.2).mp hr)
structure MkF(K:bu)(t:bv):Prop where
 cl:tq K t.q02
 g:aP K t.q02 "ground"
 f:aP K t.q02 "folded"
 w:aP K t.q02 "worths"
 r:aP K t.q02 "ranks"
theorem mkF{P:Str->Option af}(T:Txt K P t):MkF K t:=⟨T.q0d,T.q2c,T.q2b,T.q2e,T.q2d⟩
section
variable {gr wo rk:L}{low:Int}
theorem ziJ:cQ (bg "ground") (YG gr low wo rk)=U (.ref gr):=by simp only[YG,b8,beq_self_eq_true]
theorem ziq:cQ (bg "folded") (YG gr low wo rk)=U (.int low):=by
 have h1:(bg "folded" == bg "ground")=aq:=by lia
 simp only[YG,b8,h1,beq_self_eq_true]
theorem zgq:cQ (bg "worths") (YG gr low wo rk)=U (.ref wo):=by
 have h1:(bg "worths" == bg "ground")=aq:=by lia
 have h2:(bg "worths" == bg "folded")=aq:=by lia
 simp only[YG,b8,h1,h2,beq_self_eq_true]
theorem zgr:cQ (bg "ranks") (YG gr low wo rk)=U (.ref rk):=by
 have h1:(bg "ranks" == bg "ground")=aq:=by lia
 have h2:(bg "ranks" == bg "folded")=aq:=by lia
 have h3:(bg "ranks" == bg "worths")=aq:=by lia
 simp only[YG,b8,h1,h2,h3,beq_self_eq_true]
end
theorem zcx{rs:List Int}{k:Nat}{x:Int}(h:rs.Pairwise (· < ·))(e:rs[k]?=U x):∀r∈rs.take (k+1),r<=x:=λr hr=>by
 obtain⟨j,hj⟩:=cM hr;rw[eW] at hj;split at hj
 ·obtain⟨h1,h2⟩:=bn.mp hj;obtain⟨h3,h4⟩:=bn.mp e;rcases gR j k with hl|hg
  ·have:=dU.mp h j k h1 h3 hl;lia
  ·have:j=k:=by lia
   subst this;lia
 ·cases hj
theorem zgs{rs:List Int}{k:Nat}{x:Int}(h:rs.Pairwise (· < ·))(e:rs[k]?=U x):∀r∈rs.drop k,x<=r:=λr hr=>by
 obtain⟨j,hj⟩:=cM hr;rw[pH] at hj;obtain⟨h1,h2⟩:=bn.mp hj;obtain⟨h3,h4⟩:=bn.mp e;rcases mf j with rfl|hp
 ·simp only[Nat.add_zero] at h2;lia
 ·have:=dU.mp h k (k+j) h3 h1 ();lia
def mbW(a:L)(ac:Int)(rs:List Int)(H:Hp)(m:Nat)(σ:St)(H':Hp):Prop:=∃(lo hi:Nat) (o:Option V),σ=[U (.ref a),U (.int ac),U (.int lo),U (.int hi),o]/\aK H H'/\lo<=hi/\hi<=rs.length/\m=hi-lo/\(∀r∈rs.take lo,r<ac)/\(∀r∈rs.drop hi,ac<=r)
theorem VC(p:Pl)(made:Int):∀(gs:List aQ) (s:Int×Int),Vr p made gs s=match zF gs p with|none=>s|some w=>(made,w)
 |[],s=>rfl
 |r::gs,s=>by
  rw[Vr,VC p made gs,zF];cases zF gs p with
  |some w=>rfl
  |none =>
   by_cases e:r.1=p
   ·rw[au e,au e];rfl
   ·rw[ap e,ap e];rfl
theorem wU(p:Pl)(ac:Int):∀(lays:List (Int×List aQ)) (s:Int×Int),(wH p ac lays s=s/\∀y∈lays,s.1<y.1->y.1<ac->zF y.2 p=ao) \/
  ∃y∈lays,∃w,zF y.2 p=U w/\y.1<ac/\s.1<y.1/\wH p ac lays s=(y.1,w)/\∀z∈lays,z.1<ac->zF z.2 p≠ao->z.1<=y.1
 |[],s=>.inl ⟨Y,λ_ h=>nomatch h⟩
 |l::ls,s=>by
  rw[wH];by_cases c:s.1<l.1/\l.1<ac
  ·rw[au c,VC];cases e:zF l.2 p with
   |some w =>
    rcases wU p ac ls (l.1,w) with ⟨h1,h2⟩|⟨y,hy,w',e1,e2,e3,e4,e5⟩
    ·refine .inr ⟨l,bo,w,e,c.2,c.1,h1,λz hz zr zn=>?_⟩;rcases bD.mp hz with rfl|hz
     ·exact rX _
     ·rcases Int.lt_or_le l.1 z.1 with hl|hl
      ·exact absurd (h2 z hz hl zr) zn
      ·exact hl
    ·have e3':l.1<y.1:=e3;refine .inr ⟨y,bh _ hy,w',e1,e2,(),e4,λz hz zr zn=>?_⟩;rcases bD.mp hz with rfl|hz
     ·lia
     ·exact e5 z hz zr zn
   |none =>
    rcases wU p ac ls s with ⟨h1,h2⟩|⟨y,hy,w',e1,e2,e3,e4,e5⟩
    ·refine .inl ⟨h1,λy hy a b=>?_⟩;rcases bD.mp hy with rfl|hy
     ·exact e
     ·exact h2 y hy a b
    ·refine .inr ⟨y,bh _ hy,w',e1,e2,e3,e4,λz hz zr zn=>?_⟩;rcases bD.mp hz with rfl|hz
     ·exact absurd e zn
     ·exact e5 z hz zr zn
  ·rw[ap c];rcases wU p ac ls s with ⟨h1,h2⟩|⟨y,hy,w',e1,e2,e3,e4,e5⟩
   ·refine .inl ⟨h1,λy hy a b=>?_⟩;rcases bD.mp hy with rfl|hy
    ·exact absurd ⟨a,b⟩ c
    ·exact h2 y hy a b
   ·refine .inr ⟨y,bh _ hy,w',e1,e2,e3,e4,λz hz zr zn=>?_⟩;rcases bD.mp hz with rfl|hz
    ·rcases Int.lt_or_le s.1 z.1 with hl|hl
     ·exact absurd ⟨hl,zr⟩ c
     ·lia
    ·exact e5 z hz zr zn
theorem wY{gs:List aQ}{p:Pl}(nd:(gs.map (·.1)).Nodup):p∈gs.map (·.1)↔zF gs p≠ao:=by
 constructor
 ·intro h e;obtain⟨r,hr,rfl⟩:=bC.mp h;have:=(Y3 (p:=r.1) (w:=r.2) nd).mpr hr;rw[e] at this;cases this
 ·intro h;cases e:zF gs p with
  |none=>exact absurd e h
  |some w=>exact bC.mpr ⟨_,(Y3 nd).mp e,Y⟩
theorem K7{rk:L}{F:L->Prop}{r:Int}{gs:List aQ}:∀ {wk:List (aV×V)} {l:List (Int×List aQ)},Paired (zax H rk F) wk l->(l.map (·.1)).Nodup->(r,gs)∈l->∃d,yc wk (.inl r)=U (.ref d)/\F d/\d≠rk/\H d=U (.dT (sE gs))
 |_,_,.nil,_,h=>nomatch h
 |_,_,@Paired.cons _ _ _ kv y wk l ⟨e,d,e2,fd,nd,hd⟩ rest,n,h=>by
  rw[bw,bZ] at n;rcases bD.mp h with rfl|h
  ·exact⟨d,by rw[yN e,e2],fd,nd,hd⟩
  ·have ne:¬ kv.1=.inl r:=λz=>n.1 (by rw[e] at z;cases z;exact bt (f:=(·.1)) h);rw[yO ne];exact K7 rest n.2 h
theorem zcy{rk:L}{F:L->Prop}:∀ {wk:List (aV×V)} {l:List (Int×List aQ)},Paired (zax H rk F) wk l->wk.map (·.1)=l.map λy=>(fQ y.1:aV)
 |_,_,.nil=>rfl
 |_,_,.cons h rest=>by rw[bw,bw,h.1,zcy rest]
theorem K8{rk:L}{F:L->Prop}{r:Int}{wk:List (aV×V)}{l:List (Int×List aQ)}(h:Paired (zax H rk F) wk l)(n:r ∉ l.map (·.1)):yc wk (.inl r)=ao:=by
 refine Vz λz=>n ?_;rw[zcy h] at z;obtain⟨y,hy,e⟩:=bC.mp z;cases e;exact bt hy
theorem K9{rk:L}{F:L->Prop}{r:Int}:∀ {wk:List (aV×V)} {l:List (Int×List aQ)},Paired (zax H rk F) wk l->Paired (zax H rk F) (yo wk (.inl r)) (V7 l r)
 |_,_,.nil=>.nil
 |_,_,@Paired.cons _ _ _ kv y wk l h rest=>by
  unfold V7;by_cases e:y.1=r
  ·rw[JM (by rw[h.1,e]),fH (by simp[e])];exact K9 rest
  ·rw[XM (λz=>e (by rw[h.1] at z;cases z;rfl)),fI (by simp[e])];exact .cons h (K9 rest)
theorem zgt{l:List (Int×List aQ)}{r:Int}(h:r ∉ l.map (·.1)):V7 l r=l:=oR.mpr λy hy=>Bj λe=>h (by rw[<-e];exact bt hy)
theorem VD{l:List (Int×List aQ)}{r:Int}:r ∉ (V7 l r).map (·.1):=λh=>by
 obtain⟨y,hy,e⟩:=bC.mp h;exact of_decide_eq_true (cr.mp hy).2 e
theorem sw.get{rk:L}{F:L->Prop}{P:Pl->Int->Prop}{kk:List (List aV×V)}(h:sw H rk F P kk)(p:Pl):(∃a rs,(zC p,V.ref a)∈kk/\yc kk (zC p)=U (.ref a)/\F a/\H a=U (.lst (rs.map V.int))/\rs.Pairwise (· < ·)/\rs≠[]/\∀r,r∈rs↔P p r)\/(yc kk (zC p)=ao/\zC p ∉ kk.map (·.1)/\∀r,¬ P p r):=by
 by_cases hm:zC p∈kk.map (·.1)
 ·obtain⟨kv,hk,e⟩:=bC.mp hm;obtain⟨p',a,rs,rfl,z⟩:=h.ls kv hk;have:p'=p:=xh e;subst this;exact .inl ⟨a,rs,hk,KP h.nk _ hk,z⟩
 ·exact .inr ⟨Vz hm,hm,λr hr=>hm (h.al p r hr)⟩
theorem zhM{rs:List Int}{l:List (Int×List aQ)}{p:Pl}(h:rs.Pairwise (· < ·))(hr:∀r,r∈rs->ZW l p r):rs.length<=l.length:=by
 have nd:rs.Nodup:=mL (λh=>rq h) h;have:=xS (b:=l.map (·.1)) nd λx hx=>let ⟨gs,h1,_⟩:=hr x hx;bC.mpr ⟨_,h1,Y⟩
 simpa using this
section
variable {G:L->Prop}{rk a:L}{H' H'':Hp}
theorem hU.refl:hU G rk H H:=λ_ _ e _ _=>e
theorem hU.same(k:hU G rk H H')(s:aK H' H''):hU G rk H H'':=λb o e n z=>s _ _ (k b o e n z)
theorem hU.dct(k:hU G rk H H')(o:HO):hU G rk H (upd H' rk o):=λb u e n z=>by rw[zk n];exact k b u e n z
theorem hU.lst(k:hU G rk H H')(ha:H' a=U (.lst xs))(ga:G a):hU G rk H (upd H' a (.lst ys)):=λb u e n z=>by
 have e2:=k b u e n z;by_cases hb:b=a
 ·subst hb;rcases z with z|z
  ·rw[ha] at e2;exact absurd (bJ e2).symm (z xs)
  ·exact absurd ga z
 ·rw[zk hb];exact e2
end
theorem Qa{α β:Type}{f:α->β}:∀ {l:List α},(l.map f).Nodup->∀ {x y:α},x∈l->y∈l->f x=f y->x=y
 |[],_,_,_,h,_,_=>nomatch h
 |c::l,n,x,y,hx,hy,e=>by
  rw[bw,bZ] at n;rcases bD.mp hx with h1|h1
  ·rcases bD.mp hy with h2|h2
   ·rw[h1,h2]
   ·exact absurd (by rw[<-h1,e];exact bt h2) n.1
  ·rcases bD.mp hy with h2|h2
   ·exact absurd (by rw[<-h2,<-e];exact bt h1) n.1
   ·exact Qa n.2 h1 h2 e
section
variable {G:L->Prop}{rk a:L}{P P':Pl->Int->Prop}{kk:List (List aV×V)}{q0:Pl}{ac:Int}{rs:List Int}
theorem sw.one(h:sw H rk G P kk)(hk:(zC q0,V.ref a)∈kk){p':Pl}(hk2:(zC p',V.ref a')∈kk):a'=a↔p'=q0:=by
 constructor
 ·intro e;have:=Qa h.nv hk2 hk (by rw[e]);exact xh (congrArg Prod.fst this)
 ·intro e;have:=Qa h.nk hk2 hk (by rw[e]);exact V.ref.inj (congrArg Prod.snd this)
theorem zaN(h:sw H rk G P kk)(ha:H a=U (.lst (rs.map V.int))):rk≠a:=zJ h.at_ ha ()
theorem Kd{r:Int}(hs:rs.Pairwise (· < ·)):r∈rs.erase ac↔r∈rs/\r≠ac:=by
 have nd:rs.Nodup:=mL (λh=>rq h) hs;rw[nd.mem_erase_iff,and_comm]
theorem sw.out1(h:sw H rk G P kk)(hk:(zC q0,V.ref a)∈kk)(ha:H a=U (.lst (rs.map V.int)))(hs:rs.Pairwise (· < ·))(hi:∀r,r∈rs↔P q0 r)(hne:rs.erase ac≠[])(hP:∀p r,P' p r↔P p r/\¬ (r=ac/\p=q0)):sw (upd H a (.lst ((rs.erase ac).map V.int))) rk G P' kk where
 at_:=by rw[zk (zaN h ha)];exact h.at_
 nk:=h.nk
 nv:=h.nv
 ls:=λkv hkv=>by
  obtain⟨p',a',rs',rfl,ga,ha',hs',hn',hi'⟩:=h.ls kv hkv;by_cases e:a'=a
  ·have ep:=(h.one hk hkv).mp e;subst e ep;refine⟨p',a',rs.erase ac,Y,ga,zh,hs.sublist pI,hne,λr=>?_⟩;rw[Kd hs,hP,hi];exact⟨λz=>⟨z.1,λy=>z.2 y.1⟩,λz=>⟨z.1,λy=>z.2 ⟨y,Y⟩⟩⟩
  ·have ep:¬ p'=q0:=λz=>e ((h.one hk hkv).mpr z);refine⟨p',a',rs',Y,ga,by rw[zk e];exact ha',hs',hn',λr=>?_⟩;rw[hi',hP];exact⟨λz=>⟨z,λy=>ep y.2⟩,λz=>z.1⟩
 al:=λp r z=>h.al p r ((hP p r).mp z).1
theorem sw.out2(h:sw H rk G P kk)(hk:(zC q0,V.ref a)∈kk)(ha:H a=U (.lst (rs.map V.int)))(hs:rs.Pairwise (· < ·))(hi:∀r,r∈rs↔P q0 r)(hne:rs.erase ac=[])(hP:∀p r,P' p r↔P p r/\¬ (r=ac/\p=q0)){us:List V}:sw (upd (upd H a (.lst us)) rk (.dT (yo kk (zC q0)))) rk G P' (yo kk (zC q0)) where
 at_:=zh
 nk:=ig (gM _ de) h.nk
 nv:=ig (gM _ de) h.nv
 ls:=λkv hkv=>by
  have hkv2:=zcZ hkv;have ne:kv.1≠zC q0:=of_decide_eq_true (cr.mp hkv).2;obtain⟨p',a',rs',rfl,ga,ha',hs',hn',hi'⟩:=h.ls kv hkv2;have ep:¬ p'=q0:=λz=>ne (by rw[z]);have e:¬ a'=a:=λz=>ep ((h.one hk hkv2).mp z);refine⟨p',a',rs',Y,ga,by rw[zk (zaN h ha').symm,zk e];exact ha',hs',hn',λr=>?_⟩;rw[hi',hP];exact⟨λz=>⟨z,λy=>ep y.2⟩,λz=>z.1⟩
 al:=λp r z=>by
  obtain⟨z1,z2⟩:=(hP p r).mp z;obtain⟨kv,hkv,e⟩:=bC.mp (h.al p r z1);refine bC.mpr ⟨kv,cr.mpr ⟨hkv,Bj λy=>?_⟩,e⟩;have:p=q0:=xh (e.symm.trans y);subst this;have hr:r∈rs:=(hi r).mpr z1;by_cases er:r=ac
  ·exact z2 ⟨er,Y⟩
  ·have:=(Kd (ac:=ac) hs).mpr ⟨hr,er⟩;rw[hne] at this;cases this
theorem zbQ{k:Nat}(hs:rs.Pairwise (· < ·))(hlt:∀r∈rs.take k,r<ac)(hge:∀r∈rs.drop k,ac<=r)(hno:ac ∉ rs):(rs.take k++ac::rs.drop k).Pairwise (· < ·):=by
 have gt:∀r∈rs.drop k,ac<r:=λr hr=>by
  have h1:=hge r hr;have h2:r≠ac:=λz=>hno (by rw[<-z];exact cW hr);lia
 rw[gD,pE];refine⟨hs.sublist (pM ..),⟨gt,hs.sublist (pS ..)⟩,λx hx y hy=>?_⟩;have:=hlt x hx;rcases bD.mp hy with rfl|hy
 ·exact this
 ·have:=gt y hy;lia
theorem zgu{r:Int}:r∈rs.take k++ac::rs.drop k↔r∈rs\/r=ac:=by
 rw[bB,bD];constructor
 ·rintro(h|h|h)
  ·exact .inl (dq h)
  ·exact .inr h
  ·exact .inl (cW h)
 ·rintro(h|h)
  ·have:r∈rs.take k++rs.drop k:=by rw[eU];exact h
   rcases bB.mp this with z|z
   ·exact .inl z
   ·exact .inr (.inr z)
  ·exact .inr (.inl h)
theorem sw.in1{k:Nat}(h:sw H rk G P kk)(hk:(zC q0,V.ref a)∈kk)(ha:H a=U (.lst (rs.map V.int)))(hs:rs.Pairwise (· < ·))(hi:∀r,r∈rs↔P q0 r)(hlt:∀r∈rs.take k,r<ac)(hge:∀r∈rs.drop k,ac<=r)(hno:¬ P q0 ac)(hP:∀p r,P' p r↔P p r\/(r=ac/\p=q0)):sw (upd H a (.lst ((rs.take k++ac::rs.drop k).map V.int))) rk G P' kk where
 at_:=by rw[zk (zaN h ha)];exact h.at_
 nk:=h.nk
 nv:=h.nv
 ls:=λkv hkv=>by
  obtain⟨p',a',rs',rfl,ga,ha',hs',hn',hi'⟩:=h.ls kv hkv;by_cases e:a'=a
  ·have ep:=(h.one hk hkv).mp e;subst e ep;refine⟨p',a',_,Y,ga,zh,zbQ hs hlt hge (λz=>hno ((hi _).mp z)),by simp,λr=>?_⟩;rw[zgu,hP,hi];exact⟨λz=>z.imp_right λy=>⟨y,Y⟩,λz=>z.imp_right λy=>y.1⟩
  ·have ep:¬ p'=q0:=λz=>e ((h.one hk hkv).mpr z);refine⟨p',a',rs',Y,ga,by rw[zk e];exact ha',hs',hn',λr=>?_⟩;rw[hi',hP];exact⟨λz=>.inl z,λz=>z.elim id λy=>absurd y.2 ep⟩
 al:=λp r z=>by
  rcases(hP p r).mp z with z|⟨_,rfl⟩
  ·exact h.al p r z
  ·exact bC.mpr ⟨_,hk,Y⟩
theorem sw.in2(h:sw H rk G P kk)(hk:zC q0 ∉ kk.map (·.1))(hno:∀r,¬ P q0 r)(ga:G a)(hf:∀kv∈kk,kv.2≠.ref a)(ha:a≠rk)(hP:∀p r,P' p r↔P p r\/(r=ac/\p=q0)):sw (upd (upd H rk (.dT (kk++[(zC q0,V.ref a)]))) a (.lst [V.int ac])) rk G P' (kk++[(zC q0,V.ref a)]) where
 at_:=by rw[zk ha.symm];exact zh
 nk:=by
  rw[bQ,cV];refine⟨h.nk,by simp,λx hx y hy=>?_⟩;have:y=zC q0:=by simpa using hy
  rw[this];exact λz=>hk (by rw[<-z];exact hx)
 nv:=by
  rw[bQ,cV];refine⟨h.nv,by simp,λx hx y hy=>?_⟩;have:y=V.ref a:=by simpa using hy
  rw[this];obtain⟨kv,hkv,rfl⟩:=bC.mp hx;exact hf kv hkv
 ls:=λkv hkv=>by
  rcases bB.mp hkv with hkv|hkv
  ·obtain⟨p',a',rs',rfl,ga',ha',hs',hn',hi'⟩:=h.ls kv hkv;have e:a'≠a:=λz=>hf _ hkv (by rw[z]);have ep:p'≠q0:=λz=>hk (bC.mpr ⟨_,hkv,by rw[z]⟩);refine⟨p',a',rs',Y,ga',by rw[zk e,zk (zaN h ha').symm];exact ha',hs',hn',λr=>?_⟩;rw[hi',hP];exact⟨λz=>.inl z,λz=>z.elim id λy=>absurd y.2 ep⟩
  ·have:=br.mp hkv;subst this;refine⟨q0,a,[ac],Y,ga,zh,by simp,by simp,λr=>?_⟩;rw[hP,br];exact⟨λz=>.inr ⟨z,Y⟩,λz=>z.elim (λy=>absurd y (hno r)) λy=>y.1⟩
 al:=λp r z=>by
  rw[bQ,bB];rcases(hP p r).mp z with z|⟨_,rfl⟩
  ·exact .inl (h.al p r z)
  ·exact .inr (by simp)
theorem sw.eqv(h:sw H rk G P kk)(e:∀p r,P p r↔P' p r):sw H rk G P' kk:=⟨h.at_,h.nk,h.nv,λkv hk=>let ⟨p,a,rs,e1,fa,ha,hs,hn,hi⟩:=h.ls kv hk;⟨p,a,rs,e1,fa,ha,hs,hn,λr=>(hi r).trans (e p r)⟩,λp r z=>h.al p r ((e p r).mpr z)⟩
end
def taI(m Bp rk:L)(ac:Int)(ys:List V)(F:L->Prop)(P:Pl->Int->Prop)(gs:List aQ)(H:Hp)(i:Nat)(σ:St)(H':Hp):Prop:=(∃o3,σ=[U (.ref m),U (.int ac),U (.ref Bp),o3])/\hU F rk H H'/\Dm H H'/\∃kk,sw H' rk F (λp r=>P p r/\¬ (r=ac/\p∈(gs.take i).map (·.1))) kk
theorem sw.keep2{H':Hp}{rk:L}{F F':L->Prop}{P:Pl->Int->Prop}(h:sw H rk F P ah)(hr:H' rk=H rk)(k:∀b xs,F b->H b=U (.lst xs)->H' b=U (.lst xs))(ff:∀b,F b->(∃o,H' b=U o)->F' b):sw H' rk F' P ah:=
 ⟨hr.trans h.at_,h.nk,h.nv,λkv hk=>let ⟨p,a,rs,e,fa,ha,z⟩:=h.ls kv hk;⟨p,a,rs,e,ff a fa ⟨_,k _ _ fa ha⟩,k _ _ fa ha,z⟩,h.al⟩
theorem Dm.refl:Dm H H:=λb o e=>⟨o,e,λ_ z=>z⟩
theorem Dm.trans{H1 H2:Hp}(h:Dm H H1)(k:Dm H1 H2):Dm H H2:=λb o e=>by
 obtain⟨o1,e1,z1⟩:=h b o e;obtain⟨o2,e2,z2⟩:=k b o1 e1;exact⟨o2,e2,λzs z=>z1 zs (z2 zs z)⟩
theorem Dm.of_same{H1:Hp}(s:aK H H1):Dm H H1:=λb o e=>⟨o,s _ _ e,λ_ z=>z⟩
theorem Dm.upd(n:∀zs,o'≠.tup zs):Dm H (upd H a o'):=λb o e=>by
 by_cases c:b=a
 ·subst c;exact⟨_,zh,λzs z=>absurd z (n zs)⟩
 ·exact⟨o,by rw[zk c];exact e,λ_ z=>z⟩
theorem hU.trans{G:L->Prop}{rk:L}{H1 H2:Hp}(h:hU G rk H H1)(k:hU G rk H1 H2):hU G rk H H2:=λb o e n z=>k b o (h b o e n z) n z
theorem zfa{m dx gr wo rk:L}{low:Int}{F:L->Prop}{g:List aQ}{l':List (Int×List aQ)}{wk':List (aV×V)}{kk':List (List aV×V)}{H3 H':Hp}(me:F m)(fg:F gr)(fw:F wo)(fk:F rk)(nr:gr≠rk)(im:H3 m=U (.ins t.q02 dx (YG gr low wo rk)))(hg:H3 gr=U (.dT (sE g)))(hw:H3 wo=U (.dK wk'))(hk3:∃kk,H3 rk=U (.dT kk))(wp:Paired (zax H3 rk F) wk' l')(k:hU F rk H3 H')(own:∀b,F b->∃o,H' b=U o)(rr:sw H' rk F (ZW l') kk')(nd:(l'.map (·.1)).Nodup)(ok:∀y∈l',0<=y.1/\WG y.2):sU t H' m F g l' low:=by
 obtain⟨kk,hk3⟩:=hk3;exact⟨own,me,nd,ok,dx,gr,wo,rk,wk',kk',k _ _ im (zJ im hk3 ()) (.inl λ_ z=>nomatch z),fg,fw,fk,nr,k _ _ hg nr (.inl λ_ z=>nomatch z),k _ _ hw (zJ hw hk3 ()) (.inl λ_ z=>nomatch z),Paired.mapP wp λ_ _ ⟨e,d,e2,fd,nd,hd⟩=>⟨e,d,e2,fd,nd,k _ _ hd nd (.inl λ_ z=>nomatch z)⟩,rr⟩
theorem Ke{F:L->Prop}{rk:L}{H H':Hp}(fk:F rk)(k:hU F rk H H'):∀b o,¬ F b->H b=U o->H' b=U o:=λb o n e=>k b o e (λz=>n (by rw[z];exact fk)) (.inr n)
theorem zfb{l:List (Int×List aQ)}{ac:Int}{gs:List aQ}(nd:(l.map (·.1)).Nodup)(h:(ac,gs)∈l)(p:Pl)(r:Int):(ZW l p r/\¬ (r=ac/\p∈gs.map (·.1)))↔ZW (V7 l ac) p r:=by
 constructor
 ·rintro⟨⟨g2,h1,h2⟩,n⟩;refine⟨g2,cr.mpr ⟨h1,Bj λz=>?_⟩,h2⟩;have z:r=ac:=z;subst z;have:=Qa nd h1 h rfl;cases this;exact n ⟨Y,h2⟩
 ·rintro⟨g2,h1,h2⟩;obtain⟨h3,h4⟩:=cr.mp h1;exact⟨⟨g2,h3,h2⟩,λz=>of_decide_eq_true h4 z.1⟩
theorem zfc{rk:L}{F:L->Prop}{l:List (Int×List aQ)}{P:Pl->Int->Prop}(h:sw H rk F P kk)(hp:∀p r,P p r->ZW l p r)(ok:∀y∈l,WG y.2)(hl:l.length<=300):kk.length<=18900:=by
 have h1:=xS (b:=(l.flatMap λy=>y.2.map (·.1)).map zC) h.nk λx hx=>by
  obtain⟨kv,hkv,rfl⟩:=bC.mp hx;obtain⟨p,a,rs,rfl,_,_,_,hn,hi⟩:=h.ls kv hkv;obtain⟨r,hr⟩:∃r,r∈rs:=by
   cases rs with
   |nil=>exact absurd Y hn
   |cons r _=>exact⟨r,bo⟩
  obtain⟨gs,h2,h3⟩:=hp p r ((hi r).mp hr);exact bt (List.mem_flatMap.mpr ⟨_,h2,h3⟩)
 rw[bf,bf] at h1;have h2:∀l:List (Int×List aQ),(∀y∈l,WG y.2)->(l.flatMap λy=>y.2.map (·.1)).length<=63*l.length:=by
  intro l;induction l with
  |nil=>intro _;simp
  |cons y l ih =>
   intro ok;rw[List.flatMap_cons,bF,bf,bU];have:=(ok y bo).le;have:=ih λz hz=>ok z (bh _ hz);lia
 have:=h2 l ok;lia
def lyI(m gv d rk:L)(ac:Int)(G:L->Prop)(P:Pl->Int->Prop)(gs:List aQ)(H:Hp)(i:Nat)(σ:St)(H':Hp):Prop:=(∃o4,σ=[U (.ref m),U (.int ac),U (.ref gv),U (.ref d),o4])/\hU G rk H H'/\Dm H H'/\∃kk,sw H' rk G (λp r=>P p r\/(r=ac/\p∈(gs.take i).map (·.1))) kk
theorem VE(p:Pl)(ac:Int)(y:Int×List aQ):∀(l:List (Int×List aQ)) (s:Int×Int),wH p ac (l++[y]) s=(if (wH p ac l s).1<y.1/\y.1<ac then Vr p y.1 y.2 (wH p ac l s) else wH p ac l s)
 |[],s=>rfl
 |a::t,s=>by rw[dJ,wH,VE p ac y t,wH]
theorem yd{σ:St}{i:Nat}{x C dx:L}{fs:List (Str×V)}{f:Str}{R:V->Prop}(h1:H x=U (.ins C dx fs))(c:tq K C)(n:aP K C f)(h0:σ[i]?=U (U (.ref x)))(hv:fs.lookup f=U v)(q:R v):∃y,σ[i]?=U (U y)/\∃a C dx fs v,y=.ref a/\H a=U (.ins C dx fs)/\tq K C/\aP K C f/\fs.lookup f=U v/\R v:=⟨_,h0,x,C,dx,fs,v,Y,h1,c,n,hv,q⟩
theorem jm{σ:St}{i:Nat}{x C dx:L}{fs:List (Str×V)}{R:V->Prop}(h1:H x=U (.ins C dx fs))(h0:σ[i]?=U (U (.ref x)))(hv:fs.lookup m=ao)(q:R (.ref x)):∃y,σ[i]?=U (U y)/\∃a dx fs,y=.ref a/\H a=U (.ins C dx fs)/\fs.lookup m=ao/\R y:=⟨_,h0,x,dx,fs,Y,h1,hv,q⟩
theorem zhN{P Bm:Prop}(f:Bm->P)(u:Bm):P:=f u
theorem ye{P R:Prop}(h:b=aq)(r:R):if b=D then P else R:=by rw[ap (by rw[h];decide)];exact r
theorem yv{P R:Prop}(h:b=D)(p:P):if b=D then P else R:=by rw[au h];exact p
theorem mB{i j:Int}(a:-10000000000000000000000000000000000000000000000<i)(b:i<10000000000000000000000000000000000000000000000)(c:-10000000000000000000000000000000000000000000000<j)(d:j<10000000000000000000000000000000000000000000000):CMulB i j:=by
 have hb:(10000000000000000000000000000000000000000000000:Int)<big:=by lia
 exact⟨⟨(),()⟩,(),()⟩
def drI(c:Int)(m:Nat)(l:L)(H0:Hp)(i:Nat)(σ:St)(H:Hp):Prop:=∃(ds:List Int) (x y:Int),(∃o5,σ=[U (.int c),U (.int (m:Nat)),U (.ref l),U (.int x),U (.int y),o5])/\aK H0 H/\H l=U (.lst (ds.map V.int))/\ds.length=i/\(∀d∈ds,okD d)/\0<=x/\x<1000100/\0<=y/\y<1000100
theorem mS{i j:Int}(a:0<=i)(b:i<1000100)(c:0<=j)(d:j<1000100):CMulB i j:=mB () () () ()
theorem Jh{k:Int}(h0:σ[i]?=U (U (.ref p)))(h1:H p=U (.lst xs))(h2:tE xs k=U v)(q:Q v H):aL (yV K) (Z i) (tC (.int k)) σ H Q:=⟨_,h0,p,xs,k,v,Y,Y,aT.of h1,h2,q⟩
theorem Qb{σ:St}{te:TE}{y n:Int}(he:∀Q:VK,Q (.int y) H->te σ H Q)(hn:0<n)(q:∀k,0<=k->k<n->Q (.int k) H):aL aE te (tC (.int n)) σ H Q:=he _ ⟨_,_,Y,Y,hn,q _ (cA _ ()) (ck _ hn)⟩
theorem VF{vs:List V}{_E:XK}(h:xp vs H Q _E) :
  Z9 K t (sA Q) (L2.start ["cell","many","found","one","two","k"] vs) H:=by
 obtain⟨c,m,rfl,hm,q⟩:=h;refine⟨(),λl hl=>?_⟩;generalize c_:upd H l _=H0;obtain⟨s0,e0⟩:=yW c_ hl;unfold zo zN zt;show aL aE (Z 0) (tC (.int 1000003)) _ _ _;refine Qb (λ_ q=>⟨_,Y,q⟩) () λx0 a1 a2=>⟨_,_,Y,Y,?_⟩;show aL aE (aL aG (Z 0) (tC (.int 1000003))) (tC (.int 999983)) _ _ _;refine Qb (λ_ q=>⟨_,Y,_,_,Y,Y,dB,q⟩) () λy0 a3 a4=>⟨_,_,Y,Y,?_⟩;refine⟨_,Y,m,Y,(),(),W6 (drI c m l H) ⟨[],x0+17,y0+29,⟨_,Y⟩,s0,e0,Y,(λd z=>nomatch z),(),(),(),()⟩ ?_ ?_⟩
 ·rintro i σ H1 hi ⟨ds,x,y,⟨o5,rfl⟩,s1,h1,li,od,x0,x1,y0,y1⟩;have hi:i<m:=by lia
  show aL _ _ (tC (.int 1000003)) _ _ _;refine Qb (λ_ q=>⟨_,Y,_,Y,_,_,Y,Y,mS x0 x1 x0 x1,_,Y,_,_,Y,Y,mS () () y0 y1,_,_,Y,Y,_,Y,_,_,Y,Y,q⟩) () λx' n1 n2=>?_;have n2':x'<1000100:=by lia
  dsimp only;refine Qb (λ_ q=>⟨_,Y,_,Y,_,_,Y,Y,mS y0 y1 n1 n2',_,Y,_,_,Y,Y,mS () () n1 n2',_,_,Y,Y,_,_,Y,Y,q⟩) () λy' n3 n4=>?_;have n4':y'<1000100:=by lia
  refine⟨_,Y,.inl ⟨Y,_,aT.of h1⟩,_,Y,_,_,Y,Y,mS n1 n2' () (),_,Y,_,_,Y,Y,l,_,_,Y,Y,h1,bV (by rw[bf];lia:_<=63) (),ds++[x'*999983+y'],x',y',⟨_,Y⟩,xz s1 hl,by rw[bQ];exact zh,by rw[bF,li];rfl,λd hd=>?_,n1,n2',n3,n4'⟩;rcases bB.mp hd with hd|hd
  ·exact od d hd
  ·rw[br.mp hd];exact⟨(),()⟩
 ·rintro σ H1 ⟨ds,x,y,⟨o5,rfl⟩,s1,h1,li,od,_⟩;exact⟨_,Y,q l ds H1 s1 hl h1 (by simpa using li) od⟩
theorem zhO{n:Int}:sH (n*1000000021000000147000000343%2000000000000000000000000000001-1000000000000000000000000000000)=D:=by
 have g1:=cA (n*1000000021000000147000000343) (b:=2000000000000000000000000000001) ();have g2:=ck (n*1000000021000000147000000343) (b:=2000000000000000000000000000001) ();exact tL.mpr ()
theorem zgv:∀v∈jw++wl,(match v with|.str w=>yQ (w++bg "z")|_=>aq)=D:=by lia
theorem zgw(h:smW w)(n1:inV (.str w) jw=aq)(n2:inV (.str w) wl=aq):yQ w=D:=by
 obtain⟨h1,h2,h3⟩:=h;have ne:decide (w="")=aq:=Bk λz=>by rw[z] at h1;exact absurd h1 ()
 have nl:decide (6<w.length)=aq:=Bk ();unfold yQ;unfold Xa at h3;rw[n1,n2,h3,ne,nl];rfl
theorem zir(h:inV (.str w) (jw++wl)=D):yQ (w++bg "z")=D:=by
 unfold inV at h;obtain⟨v,hv,e⟩:=gK.mp h;have z:=zgv v hv;cases v <;> simp only[eqV,cL] at e;rename_i y;have e':y=w:=by simpa using e
 subst e';exact z
theorem zcz :inV v (a++b)=(inV v a || inV v b):=by unfold inV;rw[List.any_append]
section
variable {n:Int}{a:L}{ws:List Str}{x:Str}
theorem zfd{k:Int}(h:okD n)(hk:0<k):okD (n/k):=by
 obtain⟨a,b⟩:=h;have h1:=Int.ediv_nonneg a (Int.le_of_lt hk);have h2:=Int.ediv_le_self (a:=n) k a;exact⟨h1,()⟩
theorem lx(h:yQ x=D):aX [.str x]/\tmP [.str x]:=Xn (.inr ⟨x,Y,h⟩)
theorem Qc{σ:St}{j:Nat}{te:TE}{r:Int}(h3:ss H a ws)(h4:ws.length=2)(h0:σ[j]?=U (U (.ref a)))(ht:∀Q:VK,Q (.int r) H->te σ H Q)(hq:∀x,yQ x=D->Q (.str x) H):aL (yV K) (Z j) (aL aE te (tC (.int 2))) σ H Q:=by
 obtain⟨x,hx,_,nx⟩:=zaM h3 2 h4 () r;exact⟨_,h0,ht _ ⟨_,_,Y,Y,(by lia:(0:Int)<2),_,_,_,_,Y,Y,aT.of h3.1,hx,hq x nx⟩⟩
theorem zaO{k:Int}(d:yF n k)(h0:σ[0]?=U (U (.int n)))(Q:VK)(q:Q (.int (n/k)) H):aL aG (Z 0) (tC (.int k)) σ H Q:=⟨_,h0,_,_,Y,Y,d,q⟩
theorem tm3(a:aX [u]/\tmP [u])(b:aX [v]/\tmP [v])(j:wdJ w):aX [u,v,.str w]/\tmP [u,v,.str w]:=⟨Kc a.1 b.1 j (by simp),zcw a.2 b.2 j⟩
theorem Ji{vs:List V}{_E:XK}(h:qg vs H Q _E) :
  qt K t (sA Q) (L2.start ["number","slots","kind"] vs) H:=by
 obtain⟨n,a,ws,rfl,h1,h3,h4,q⟩:=h;have jw1:wdJ (bg "over"):=⟨(),(),()⟩;have jw2:wdJ (bg "rest"):=⟨(),(),()⟩;unfold qt zo zS VW zN;refine Qb (λ_ q=>⟨_,Y,q⟩) () λk k0 k1=>?_;have fin:∀ {e:List V} {H1:Hp},aK H H1->e.length<=3->aX e/\tmP e->e.length<=Bb/\∀p,H1 p=ao->Q (.ref p) (upd H1 p (.tup e)):=λs l h=>⟨bN l (),λp hp=>q p _ _ (s.trans (sJ p hp)) (zI s hp) zh h.1 h.2⟩;refine⟨_,Y,_,_,Y,Y,_,Y,YV (λ_=>Qb (zaO dB Y) () λk k0 k1=>fin (aK.refl _) (by lia:1<=3) (Xn (.inl ⟨_,Y,tL.mpr ()⟩))) λ_=>⟨_,Y,Y,_,Y,YV (λ_=>Qc h3 h4 Y (zaO dB Y) λx nx=>fin (aK.refl _) (by lia:1<=3) (lx nx)) λ_=>?_⟩⟩;refine zhN (λBm=>⟨_,Y,Y,_,Y,YV (λ_=>⟨_,Y,_,_,Y,Y,dB,_,_,Y,Y,(by lia:(0:Int)<3),Y,_,Y,YV (λ_=>Qc h3 h4 Y (zaO dB Y) λx nx=>fin (aK.refl _) (bp 3) (tm3 (Xn (.inl ⟨7,Y,()⟩)) (lx nx) jw1)) λ_=>Bm⟩) λ_=>Bm⟩) ?_;have o:=zfd (k:=5) h1 ();exact⟨_,Y,Y,_,Y,YV (λ_=>Qc h3 h4 Y (zaO dB Y) λx nx=>fin (aK.refl _) (bp 3) (tm3 (lx nx) (Xn (.inl ⟨3,Y,()⟩)) jw2)) λ_=>⟨_,Y,_,_,Y,Y,dB,_,Y,o.1,o.2,λw H' hw s=>fin s (by lia:1<=3) (Xn (.inl ⟨_,Y,hw⟩))⟩⟩
def tw8:List V:=[V.str (bg "plus"),V.str (bg "minus"),V.str (bg "times"),V.str (bg "over"),V.str (bg "rest"),V.str (bg "under"),V.str (bg "same")]
theorem zhP{i:Int}(h0:0<=i)(h1:i<7):∃w:Str,tE tw8 i=U (.str w)/\wdJ w:=by
 obtain⟨x,hx,hm⟩:=zaF (xs:=tw8) (i:=i) h0 h1;unfold tw8 at hm;simp only[bD,dh,or_false] at hm;rcases hm with rfl|rfl|rfl|rfl|rfl|rfl|rfl <;> exact⟨_,hx,(),(),()⟩
theorem Jj{vs:List V}{_E:XK}(h:vM vs H Q _E) :
  qu K t (sA Q) (L2.start ["number","slots","words","kind"] vs) H:=by
 obtain⟨n,a,ws,rfl,h1,h3,h4,q⟩:=h;have fin:∀ {e:List V} {H1:Hp},aK H H1->e.length<=3->aX e/\tmP e->e.length<=Bb/\∀p,H1 p=ao->Q (.ref p) (upd H1 p (.tup e)):=λs l h=>⟨bN l (),λp hp=>q p _ _ (s.trans (sJ p hp)) (zI s hp) zh h.1 h.2⟩;unfold qu zo zS zN;refine⟨(by lia:7<=Bb),λl hl=>?_⟩;generalize c_:upd H l _=H0;obtain⟨s0,e0⟩:=yW c_ hl;have e0:H0 l=U (.lst tw8):=e0;have h3:=h3.same s0;have o:=zfd (k:=9) h1 ();have o':=zfd (k:=36) h1 ();refine Qb (σ:=[U (.int n),U (.ref a),U (.ref l),ao]) (te:=Z 0) (n:=9) (λ_ q=>⟨_,Y,q⟩) () λk k0 k1=>?_;refine⟨_,Y,Y,_,Y,YV (λ_=>⟨_,Y,_,_,Y,Y,dB,_,Y,o.1,o.2,λw H' hw s=>fin (s0.trans s) (by lia:1<=3) (Xn (.inl ⟨_,Y,hw⟩))⟩) λz0=>⟨_,Y,Y,_,Y,YV (λ_=>Qc h3 h4 Y (zaO dB Y) λx nx=>fin s0 (by lia:1<=3) (lx nx)) λz1=>?_⟩⟩;have z0:k≠0:=λe=>z0 (Bj (congrArg V.int e));have z1:k≠1:=λe=>z1 (Bj (congrArg V.int e));obtain⟨y,hy,jy⟩:=zhP (i:=k-2) () ();exact⟨_,Y,_,_,Y,Y,dB,_,_,Y,Y,(by lia:(0:Int)<2),Y,_,Y,YV (λ_=>Qc h3 h4 Y (zaO dB Y) λx nx=>⟨_,Y,_,_,Y,Y,dB,_,Y,o'.1,o'.2,λw H' hw s=>⟨_,Y,_,Y,_,_,Y,Y,_,_,_,_,Y,Y,aT.of (s _ _ e0),hy,fin (s0.trans s) (bp 3) (tm3 (lx nx) (Xn (.inl ⟨_,Y,hw⟩)) jy)⟩⟩) λ_=>Qc h3 h4 Y (zaO dB Y) λx nx=>Qc h3 h4 Y (zaO dB Y) λz nz=>⟨_,Y,_,Y,_,_,Y,Y,_,_,_,_,Y,Y,aT.of e0,hy,fin s0 (bp 3) (tm3 (lx nx) (lx nz) jy)⟩⟩
end
def abc:Str:="abcdefghijklmnopqrstuvwxyz"
theorem zhQ:∀c∈abc.cps.toList,inL c=D:=by lia
theorem zfe{e:Int}(g1:0<=e)(g2:e<26):∃c,tE abc.cps.toList e=U c/\inL c=D:=by
 obtain⟨v,h1,h2⟩:=zaF (xs:=abc.cps.toList) (i:=e) g1 (by rw[show abc.cps.toList.length=26 from by lia];exact g2);exact⟨v,h1,zhQ v h2⟩
def ziK(v:V):Prop:=∃c,v=.str ⟨#[c]⟩/\inL c=D
theorem zaP:∀ {ls:List Str},(∀x∈ls,∃c,x=⟨#[c]⟩/\inL c=D)->((ls.map λp=>p.cps.toList).flatten).length=ls.length/\((ls.map λp=>p.cps.toList).flatten).all inL=D/\(ls.map (·.length)).sum=ls.length
 |[],_=>⟨Y,Y,Y⟩
 |x::ls,h=>by
  obtain⟨c,rfl,hc⟩:=h x bo;obtain⟨a,b,d⟩:=zaP (ls:=ls) λy hy=>h y (bh _ hy);have l1:((⟨#[c]⟩:Str)::ls).length=ls.length+1:=rfl;refine⟨?_,?_,?_⟩
  ·rw[bw,pT,bF,a,l1];show 1+ls.length=_;lia
  ·rw[bw,pT,rW,b];show ([c].all inL&&D)=D;simp[hc]
  ·rw[bw,cC,d,zcr,l1];lia
section
variable {c:Int}{x y:Str}
theorem zcA(h:yQ x=D):smW x:=by
 unfold yQ at h;simp only[bW,mK,i7,decide_eq_false_iff_not] at h;obtain⟨⟨⟨h1,h2⟩,_⟩,h3⟩:=h;refine⟨?_,(),h3⟩;cases z:x.length with
 |zero =>
  exfalso;apply h1;obtain⟨⟨l⟩⟩:=x;have:l.length=0:=z;rw[List.length_eq_zero_iff.mp this];rfl
 |succ n=>lia
theorem zdm{k:Nat}{o2:Option V}(hx:yQ x=D)(hk:k<x.length){d:Nat}(hd:inL d=D)(q:∀nm ws H',aK H H'->H nm=ao->ss H' nm ws->ws.length=2->Q (.ref nm) H') :
  v9 K t (sA Q) [U (.int c),U (.str "abcdefghijklmnopqrstuvwxyz"),o2,U (.str x),U (.int (k:Nat)),U (.str ⟨#[d]⟩)] H:=by
 obtain⟨h1,h2,h3⟩:=zcA hx;have ol:=zcr d;have od:=ze2 hd;have fin:∀ {u v:Str} {H1:Hp},yQ u=D->yQ v=D->aK H H1->2<=Bb/\∀p,H1 p=ao->Q (.ref p) (upd H1 p (HO.lst [.str u,.str v])):=λ{u v H1} hu hv s=>⟨(),λp hp=>q p [u,v] _ (s.trans (sJ p hp)) (zI s hp) ⟨zh,λw hw=>by
  rcases bD.mp hw with e|hw
  ·rw[e];exact hu
  ·rw[br.mp hw];exact hv⟩ Y⟩
 have sx:x.length<=Bb:=xm ();unfold v9 zo zS VW;refine zhN (λBm=>⟨_,Y,_,_,Y,Y,dB,_,_,Y,Y,(by lia:(0:Int)<3),Y,_,Y,YV (λ_=>⟨_,Y,_,_,Y,⟨sx,Y⟩,_,_,Y,Y,_,Y,YV (λc6=>⟨_,Y,_,Y,_,Y,_,_,Y,Y,xm (by have:=of_decide_eq_true c6;lia),_,Y,⟨by rw[vH];lia,by have:=of_decide_eq_true c6;rw[vH];lia,Xm h3 od⟩,λz H' hz s=>fin hx hz s⟩) λ_=>Bm⟩) λ_=>Bm⟩) ?_;refine zhN (λBm=>⟨_,Y,_,_,Y,Y,dB,_,_,Y,Y,(by lia:(0:Int)<3),Y,_,Y,YV (λ_=>⟨_,Y,_,_,Y,⟨sx,Y⟩,_,_,Y,Y,_,Y,YV (λc6=>⟨_,Y,_,Y,_,_,Y,Y,xm (by have:=of_decide_eq_true c6;lia),_,Y,⟨by rw[vH];lia,by have:=of_decide_eq_true c6;rw[vH];lia,Xm od h3⟩,λz H' hz s=>⟨_,Y,fin hz hx s⟩⟩) λ_=>Bm⟩) λ_=>Bm⟩) ?_;have a1:=zhF x k ();have a2:=ze3 x (k+1);have e:((k:Int)+1)=((k+1:Nat):Int):=by lia
 refine⟨_,Y,_,Y,_,Y,_,Y,_,Y,sx,_,Y,_,_,Y,Y,xm (),_,Y,_,Y,_,_,Y,Y,_,Y,_,Y,sx,_,_,Y,Y,?_⟩;rw[e];exact⟨xm (by rw[vH];lia),_,Y,⟨by rw[vH,vH];lia,by rw[vH,vH];lia,Xm (Xm (zgk h3 k) od) (zdk h3 (k+1))⟩,λz H' hz s=>fin hx hz s⟩
end
theorem zis(h0:σ[k]?=U (U (.ref d)))(hc:zbp [k] σ=[U (.ref d)])(hd:H d=U (.dT (sE aM)))(hl:(sE aM).length<=63)(ht:∀(p:L) (q:Pl) (w:Int) (H':Hp) (A Bo:Hp->Prop),zF aM q=U w->sL H' d (.ref p) (U (.int w))->(w≠0->A H')->(w=0->Bo H')->tt [U (.ref p),U (.ref d)] H' λb H3=>if b=D then A H3 else Bo H3)(q:∀l out H',aK H H'->H l=ao->sI H' l out->zem aM out->out.length<=(sE aM).length->Q (.ref l) H') :
  kh (xx K (sG zej (zc (Z k) zj))) (zt 0) tt (y7 (zc (Z 0) (zc (j6 (Z 1) (Z 0)) zj))) 1 [k] σ H Q:=by
 obtain⟨qs,hqs,nqs,mqs⟩:=zaL aM;refine⟨_,h0,d,sE aM,qs,Y,hd,hqs,(),λl ps hl0 hperm hpw hps=>?_⟩;generalize c_:upd H l _=H1;obtain⟨s1,q1⟩:=yW c_ hl0;have lp:ps.length=(sE aM).length:=by
  have a1:=hperm.length_eq;have a2:=congrArg fE hqs;rw[bf] at a1;rw[bf,bf] at a2;lia
 refine⟨l,Y,⟨_,aT.of q1⟩,λBq hD=>?_⟩;rw[hc];refine ze1 (J:=Itl K l) ps.length () (λτ=>∃o,τ=[o,U (.ref d)]) (zhJ aM (ps.map (·.2))) (λi ys H H' s h=>zgo s h) ⟨_,Y⟩ ⟨[],.nil,Y⟩ (λi H s h=>⟨_,_,aT.of (s _ _ q1),bb (by rw[bf];exact h)⟩) (λH s=>⟨_,aT.of (s _ _ q1),by rw[bf];exact bp _⟩) hD ?_ ?_
 ·rintro i v τ ys H4 H5 ⟨o,rfl⟩ s4 hi hR ⟨rfl,hv⟩;have hv:=hv _ (aT.of (s4 _ _ q1));rw[bx] at hv;obtain⟨n,hn,rfl⟩:=bY.mp hv;have hp:=s4 _ _ (s1 _ _ (hps n (bS hn)));have hm:n.2∈qs:=hperm.mem_iff.mp (bt (bS hn));obtain⟨w,hw⟩:=fj.mp ((mqs n.2).mp hm);have g:sL H5 d (.ref n.1) ((zF aM n.2).map V.int):=.inr ⟨sE aM,zC n.2,n.1,.inl (s4 _ _ (s1 _ _ hd)),Y,hp,(wc aM n.2).symm⟩;rw[hw] at g;have tk:(ps.map (·.2)).take (i+1)=(ps.map (·.2)).take i++[n.2]:=by rw[cU,bx,hn];rfl
  obtain⟨out,hr,ho⟩:=hR;refine ht n.1 n.2 w H5 _ _ hw g (λw0=>⟨_,Y,_,Y,_,Y,d,_,Y,g,by show 2<=Bb;rw[bG];decide,λp hp2=>⟨⟨_,Y⟩,?_,sJ p hp2⟩⟩) λw0=>⟨⟨_,Y⟩,?_,aK.refl _⟩
  ·refine⟨out++[(n.2,w)],Kb (ZU (sJ p hp2) hr) ⟨p,n.1,Y,zh,sJ p hp2 _ _ hp⟩,?_⟩;rw[tk,om,<-ho];simp[VA,hw,w0]
  ·refine⟨out,hr,?_⟩;rw[tk,om,<-ho];simp[VA,hw,w0]
 ·rintro ys H4 hly ⟨out,hr,ho⟩ s4 hq;rw[cB (by rw[bf];exact bp _)] at ho;subst ho;refine q Bq _ H4 (s1.trans s4) (zI s1 hD) ⟨ys,hq,hr⟩ (zhK hpw λp=>(hperm.mem_iff.trans (mqs p))) ?_;have:=List.length_filterMap_le (VA aM) (ps.map (·.2));rw[bf] at this;lia
def tbI(c:Int)(a x d:L)(H0:Hp)(i:Nat)(σ:St)(H':Hp):Prop:=∃aM:List aQ,(∃o1 o2,σ=[U (.int c),U (.ref a),U (.ref x),U (.ref d),o1,o2])/\aK H0 H'/\H' d=U (.dT (sE aM))/\aM.length<=i/\∀r∈aM,b9 r.1.1=D/\sH r.2=D/\r.2≠0
theorem VG{vs:List V}{_E:XK}(h:jR vs H Q _E) :
  Ya K t (sA Q) (L2.start ["cell","shelves","xs","found","k","worth"] vs) H:=by
 obtain⟨c,a,ws,rfl,h1,h2,q⟩:=h;refine⟨_,Y,c,10,Y,(),λx ds H1 s1 fx hx ld od d hd=>?_⟩;have g1:=cA c (b:=6) ();have g2:=ck c (b:=6) ();have s2:=sJ (o:=HO.dT []) d hd;have S2:=s1.trans s2;have fd:=zI s1 hd;refine⟨_,Y,_,_,Y,Y,by show (0:Int)<6;decide,c%6,Y,(),(),W6 (tbI c a x d H1) ⟨[],⟨_,_,Y⟩,s2,zh,bp _,λ_ z=>nomatch z⟩ ?_ ?_⟩
 ·rintro i σ H' hi ⟨aM,⟨o1,o2,rfl⟩,s,hD,hl,hr⟩;rw[rA];have lm:(ds.map V.int).length=ds.length:=bf ..;have hx':aT K H' x (ds.map V.int):=aT.of (s _ _ hx);have h1':=h1.same (s1.trans s);have i6:i<6:=by lia
  have at1:∀ {j:Nat},j<10->tE (ds.map V.int) ((j:Nat):Int)=U (.int (ds.getD j 0))/\okD (ds.getD j 0):=λ{j} hj=>by
   have hj:j<ds.length:=by lia
   have e:ds.getD j 0=ds[j]:=by rw[bM,bb hj];rfl
   exact⟨yp (by rw[bx,bb hj,e];rfl),by rw[e];exact od _ (eD hj)⟩
  obtain⟨e5,o5⟩:=at1 (j:=i+5) ();obtain⟨e0,o0⟩:=at1 (j:=i) ();generalize ds.getD (i+5) 0=u at *
  generalize ds.getD i 0=v at *
  refine⟨_,Y,_,Y,_,_,Y,Y,x,_,((i+5:Nat):Int),_,Y,Y,hx',e5,u,Y,o5.1,o5.2,λw H2 hw s2=>⟨_,Y,Y,_,Y,?_⟩⟩;by_cases w0:w=0
  ·exact ye (by rw[w0];rfl) ⟨aM,⟨_,_,Y⟩,s.trans s2,s2 _ _ hD,(),hr⟩
  refine yv (by rw[Bk (λz=>w0 (V.int.inj z))];rfl) ?_;obtain⟨sh,hsh,_,nsh⟩:=zaM (h1'.same s2) 2 h2 () v;have hx2:=hx'.mono s2;refine⟨_,Y,_,Y,_,Y,_,Y,_,Y,x,_,i,_,Y,Y,hx2,e0,_,_,Y,Y,by show (0:Int)<2;decide,a,_,v%2,_,Y,Y,aT.of (h1'.same s2).1,hsh,_,Y,_,Y,x,_,i,_,Y,Y,hx2,e0,_,_,Y,Y,dB,_,_,Y,Y,by show (0:Int)<3;decide,by show 2<=Bb;rw[bG];decide,λp hp=>?_⟩;have s5:=sJ (o:=HO.tup [V.str sh,V.int (v/2%3)]) p hp;have S5:=s2.trans s5;have lD:=jv aM;refine⟨d,_,Y,DPut.t (k:=zC (sh,v/2%3)) (S5 _ _ hD) zh (bV (by lia:_<=900) ()),aM++[((sh,v/2%3),w)],⟨_,_,Y⟩,xz (s.trans S5) hd,?_,by simp;lia,?_⟩
  ·rw[qS];exact zh
  ·intro z hz;rcases bB.mp hz with hz|hz
   ·exact hr z hz
   ·rw[br.mp hz];exact⟨ZR nsh,hw,λz=>w0 z⟩
 ·rintro σ H' ⟨aM,⟨o1,o2,rfl⟩,s,hD,hl,hr⟩;have lD:=jv aM;refine zis (aM:=aM) Y Y hD () (λp q0 w H' A Bo hw _ a _=>yv (P:=A H') (R:=Bo H') Y (a (hr _ (VB hw)).2.2)) λl out H3 s3 hl0 ho T lo=>?_;have S:=s1.trans s;exact q l out H3 (S.trans s3) (zI S hl0) ho T.1 (λr h=>hr _ (VB ((T.2 r.1 r.2).mp h).1)) ()
section
variable {F:L->Prop}{vs:List V}{rs:List Rw}
theorem zaQ:∀ {vs:List V} {rs:List Rw},Paired (hV F H) vs rs->pv F H vs (aZ.of rs)
 |_,_,.nil=>by unfold aZ.of pv;rfl
 |_,_,.cons a t=>by
  unfold aZ.of pv;exact⟨_,_,Y,a,zaQ t⟩
theorem zaR:∀ {rs:List Rw},(∀r∈rs,Vk r)->qV (aZ.of rs)
 |[],_=>by unfold aZ.of qV;trivial
 |r::rs,h=>by
  unfold aZ.of qV;exact⟨h r bo,zaR λx hx=>h x (bh _ hx)⟩
theorem zaS:∀ {rs:List Rw},(∀r∈rs,qT r)->Z6 (aZ.of rs)
 |[],_=>by unfold aZ.of Z6;trivial
 |r::rs,h=>by
  unfold aZ.of Z6;exact⟨h r bo,zaS λx hx=>h x (bh _ hx)⟩
theorem Xp{n:Nat}:∀ {rs:List Rw},(∀r∈rs,r.deep<=n)->(aZ.of rs).deep<=n
 |[],_=>by unfold aZ.of;simp[aZ.deep]
 |r::rs,h=>by
  unfold aZ.of;have h1:=h r bo;have h2:=Xp (rs:=rs) λx hx=>h x (bh _ hx);simp only[aZ.deep];lia
theorem WS(h:Vo r):r.deep=0:=by
 cases r with
 |iff e a b=>exact absurd h (λz=>z)
 |take _ _ _=>simp[Rw.deep]
 |give _ _ _=>simp[Rw.deep]
 |lt _ _=>simp[Rw.deep]
 |say _=>simp[Rw.deep]
 |off _=>simp[Rw.deep]
theorem jJ{α β:Type}{R:α->β->Prop}:∀ {xs:List α} {ys:List β} (k:Nat),Paired R xs ys->Paired R (xs.take k) (ys.take k)
 |_,_,0,_=>.nil
 |_,_,_+1,.nil=>.nil
 |_,_,k+1,.cons a t=>.cons a (jJ k t)
theorem ZB{α β:Type}{R:α->β->Prop}:∀ {xs:List α} {ys:List β} (k:Nat),Paired R xs ys->Paired R (xs.drop k) (ys.drop k)
 |_,_,0,h=>h
 |_,_,_+1,.nil=>.nil
 |_,_,k+1,.cons _ t=>ZB k t
end
theorem zff(xs:List V)(n:Nat):qM xs ao (U (n:Int))=xs.take n:=by
 unfold qM;rw[HT.sIx_none,HT.sIx_nat,iJ,p8];by_cases c:n<=xs.length
 ·rw[dZ c]
 ·rw[i3 (),cB (bp _),cB ()]
theorem zhR(xs:List V)(n:Nat):qM xs (U (n:Int)) ao=xs.drop n:=by
 unfold qM;rw[HT.sIx_none,HT.sIx_nat];by_cases c:n<=xs.length
 ·rw[dZ c];exact cB (by rw[cG];exact bp _)
 ·rw[i3 (),nN (bp _),nN (),List.take_nil]
theorem zfg(xs:List V)(k m:Nat)(hk:k<=m)(hm:m<=xs.length):qM xs (U (k:Int)) (U (m:Int))=(xs.drop k).take (m-k):=by
 unfold qM;rw[HT.sIx_nat,HT.sIx_nat,dZ hm,dZ (by lia:k<=xs.length)]
section
variable {c:Int}{a b Bp X:L}{ds:List Int}{us ws:List Str}{vs:List V}{rs:List Rw}{Hb:Hp}
theorem VH{α β:Type}{R:α->β->Prop}:∀ {xs:List α} {ys:List β} {us:List α} {vs:List β},Paired R xs ys->Paired R us vs->Paired R (xs++us) (ys++vs)
 |_,_,_,_,.nil,h=>h
 |_,_,_,_,.cons a t,h=>.cons a (VH t h)
theorem zbR:∀ {rs:List Rw},(∀r∈rs,Vo r)->(aZ.of rs).cnt<=rs.length
 |[],_=>by unfold aZ.of;simp[aZ.cnt]
 |r::rs,h=>by
  have h2:=zbR (rs:=rs) λx hx=>h x (bh _ hx);have h1:=h r bo;unfold aZ.of;cases r with
  |iff e a b=>exact absurd h1 (λz=>z)
  |take _ _ _=>simp only[aZ.cnt,Rw.cnt,bU];lia
  |give _ _ _=>simp only[aZ.cnt,Rw.cnt,bU];lia
  |lt _ _=>simp only[aZ.cnt,Rw.cnt,bU];lia
  |say _=>simp only[aZ.cnt,Rw.cnt,bU];lia
  |off _=>simp only[aZ.cnt,Rw.cnt,bU];lia
def szX(r:Rw):Nat:=match r with|.iff _ a b=>a.cnt+b.cnt+3|_=>1
theorem zgx(h:Vo r):szX r=1:=by
 cases r with
 |iff e a b=>exact absurd h (λz=>z)
 |take _ _ _=>rfl
 |give _ _ _=>rfl
 |lt _ _=>rfl
 |say _=>rfl
 |off _=>rfl
theorem WT:∀ {rs:List Rw},(∀r∈rs,Vo r)->(rs.map szX).sum=rs.length
 |[],_=>rfl
 |r::rs,h=>by
  rw[bw,cC,zgx (h r bo),WT λx hx=>h x (bh _ hx),bU];lia
theorem zhS(h:∀r∈rs,rwW r)(l:rs.length<=6):zge rs:=⟨bN (Xp (n:=0) λr hr=>by rw[WS (h r hr).nf];exact bp _) (),zaR λr hr=>(h r hr).pl,zaS λr hr=>(h r hr).ok,by
 have:=WT λr hr=>(h r hr).nf;show (rs.map szX).sum<=11;lia⟩
theorem zhT{σ:St}{te tf:TE}{y:Int}{n:Nat}(he:∀Q:VK,Q (.int y) H->te σ H Q)(hf:∀Q:VK,Q (.int (n:Nat)) H->tf σ H Q)(hn:0<n)(q:∀k:Nat,k<n->Q (.int (k:Nat)) H):aL aE te tf σ H Q:=he _ (hf _ ⟨_,_,Y,Y,Int.ofNat_lt.mpr hn,by
 have f1:=cA y (b:=(n:Int)) ();have f2:=ck y (b:=(n:Int)) ();obtain⟨k,ek⟩:∃k:Nat,y%(n:Int)=k:=⟨(y%(n:Int)).toNat,(lR f1).symm⟩;have z:=q k ();rw[<-ek] at z;exact z⟩)
theorem zdn{o5 o6 o7:Option V}(hX:H X=U (.lst (ds.map V.int)))(ld:ds.length=22)(od:∀d∈ds,okD d)(hL:H Bp=U (.lst vs))(fL:Hb Bp=ao)(pr:Paired (hV (λb=>Hb b=ao) H) vs rs)(rw_:∀r∈rs,rwW r)(l6:rs.length<=6)(hw:ss H b ws)(lw:ws.length=2)(S:aK Hb H)
  (q:∀l rs H',aK Hb H'->RlAt (λb=>Hb b=ao) H' (.ref l) (aZ.of rs)->zge rs->Q (.ref l) H') :
  jh K t (sA Q) [U (.int c),U (.ref a),U (.ref b),U (.ref X),U (.ref Bp),ao,ao,ao] H:=by
 have lv:=bL pr;have at1:∀ {j:Nat},j<22->tE (ds.map V.int) ((j:Nat):Int)=U (.int (ds.getD j 0))/\okD (ds.getD j 0):=λ{j} hj=>by
  have hj:j<ds.length:=by lia
  have e:ds.getD j 0=ds[j]:=by rw[bM,bb hj];rfl
  exact⟨yp (by rw[bx,bb hj,e];rfl),by rw[e];exact od _ (eD hj)⟩
 unfold jh zo zS;refine⟨_,Y,_,_,Y,Y,dB,_,_,Y,Y,by show (0:Int)<3;decide,Y,_,Y,?_⟩;by_cases hc:c/7%3=0
 ·refine yv (Bj (congrArg V.int hc)) ?_;refine zhT (n:=vs.length+1) (λ_ q=>Jh Y hX (at1 (j:=18) ()).1 q) (λ_ q=>⟨_,Y,.ref Bp,vs.length,Y,.inl ⟨_,aT.of hL,Y⟩,_,_,Y,Y,q⟩) (Nat.succ_pos vs.length) λk hk=>?_;have hk:k<vs.length+1:=hk;refine⟨_,Y,zhT (n:=vs.length+1-k) (λ_ q=>Jh Y hX (at1 (j:=21) ()).1 q) (λ_ q=>⟨_,Y,.ref Bp,vs.length,Y,.inl ⟨_,aT.of hL,Y⟩,_,_,Y,Y,_,Y,_,_,Y,Y,by rw[show ((vs.length+1-k:Nat):Int)=(vs.length:Int)+1-k by lia] at q;exact q⟩) () λm' hm=>⟨_,_,Y,Y,?_⟩⟩;obtain⟨m,em⟩:∃m,m=k+m':=⟨_,Y⟩;have km:k<=m:=by lia
  have ml:m<=vs.length:=by lia
  obtain⟨e19,o19⟩:=at1 (j:=19) ();refine Jh Y hX e19 ⟨_,Y,_,b,ws,Y,o19,hw,lw,λtp e H1 s1 ft ht te pe=>?_⟩;refine⟨_,Y,_,Y,k,Y,_,Y,(m:Int),by rw[em];rfl,Bp,vs,Y,aT.of (s1 _ _ hL),λp1 hp1=>?_⟩;rw[zfg vs k m km ml];generalize c_:upd H1 p1 _=H2;obtain⟨s2,g2⟩:=yW c_ hp1;have S2:=s1.trans s2;refine⟨_,Y,?_⟩;refine zhT (n:=3) (λ_ q=>Jh Y (S2 _ _ hX) (at1 (j:=20) ()).1 q) (λ_ q=>q) () λj f6=>?_;refine⟨_,Y,Bp,vs,Y,aT.of (S2 _ _ hL),λp2 hp2=>?_⟩;rw[zff];generalize c_:upd H2 p2 _=H3;obtain⟨s3,g3⟩:=yW c_ hp2;refine⟨by show 4<=Bb;rw[bG];decide,λrp hrp=>?_⟩;generalize c_:upd H3 rp _=H4;obtain⟨s4,g4⟩:=yW c_ hrp;have S3:=S2.trans s3;have S4:=S3.trans s4;refine⟨_,Y,_,Y,k,Y,Bp,vs,Y,aT.of (S4 _ _ hL),λp3 hp3=>?_⟩;rw[zff];generalize c_:upd H4 p3 _=H5;obtain⟨s5,g5⟩:=yW c_ hp3;refine⟨_,Y,by show 1<=Bb;rw[bG];decide,λp4 hp4=>?_⟩;generalize c_:upd H5 p4 _=H6;obtain⟨s6,g6⟩:=yW c_ hp4;refine⟨_,_,_,_,Y,Y,s6 _ _ g5,g6,bN (by rw[cx];show min k vs.length+1<=110;lia:_<=110) (),λp5 hp5=>?_⟩;generalize c_:upd H6 p5 _=H7;obtain⟨s7,g7⟩:=yW c_ hp5;have S7:=S4.trans (s5.trans (s6.trans s7));refine⟨_,Y,_,Y,(m:Int),by rw[em];rfl,Bp,vs,Y,aT.of (S7 _ _ hL),λp6 hp6=>?_⟩;rw[zhR];generalize c_:upd H7 p6 _=H8;obtain⟨s8,g8⟩:=yW c_ hp6;refine⟨_,_,_,_,Y,Y,s8 _ _ g7,g8,bN (by rw[bF,cx,cG];show min k vs.length+1+(vs.length-m)<=110;lia:_<=110) (),λp7 hp7=>?_⟩;generalize c_:upd H8 p7 _=H9;obtain⟨s9,g9⟩:=yW c_ hp7;refine⟨_,Y,?_⟩;have T4:=s5.trans (s6.trans (s7.trans (s8.trans s9)));have S9:=S4.trans T4;have P:=Paired.mapP pr λ_ r z=>hV.mono S9 z;have Bo:∀ {n:Nat} {x:Rw},x∈rs.take n->x∈rs:=λh=>dq h;have C:∀ {x:Rw},x∈(rs.drop k).take (m-k)->x∈rs:=λh=>cW (dq h);have I:hV (λb=>Hb b=ao) H9 (.ref rp) (.iff e (aZ.of ((rs.drop k).take (m-k))) (aZ.of (rs.take j))):=by
   unfold hV;exact⟨rp,tp,p1,p2,_,_,Y,zI (S.trans S3) hrp,zI S ft,zI (S.trans s1) hp1,zI (S.trans S2) hp2,T4 _ _ g4,(s2.trans (s3.trans (s4.trans T4))) _ _ ht,(s3.trans (s4.trans T4)) _ _ g2,zaQ (jJ _ (ZB _ P)),(s4.trans T4) _ _ g3,zaQ (jJ _ P)⟩
  have all:∀x∈rs.take k++[.iff e (aZ.of ((rs.drop k).take (m-k))) (aZ.of (rs.take j))]++rs.drop m,x∈rs\/x=.iff e (aZ.of ((rs.drop k).take (m-k))) (aZ.of (rs.take j)):=λx hx=>by
   rcases bB.mp hx with hx|hx
   ·rcases bB.mp hx with hx|hx
    ·exact .inl (Bo hx)
    ·exact .inr (br.mp hx)
   ·exact .inl (cW hx)
  have ip:Vk (.iff e (aZ.of ((rs.drop k).take (m-k))) (aZ.of (rs.take j))):=by
   unfold Vk;exact⟨pe,zaR λx hx=>(rw_ x (C hx)).pl,zaR λx hx=>(rw_ x (Bo hx)).pl⟩
  have io:qT (.iff e (aZ.of ((rs.drop k).take (m-k))) (aZ.of (rs.take j))):=by
   unfold qT;exact⟨te,zaS λx hx=>(rw_ x (C hx)).ok,zaS λx hx=>(rw_ x (Bo hx)).ok⟩
  have dp:Rw.deep (.iff e (aZ.of ((rs.drop k).take (m-k))) (aZ.of (rs.take j)))<=1:=by
   have a1:=Xp (n:=0) (rs:=(rs.drop k).take (m-k)) λx hx=>by rw[WS (rw_ x (C hx)).nf];exact bp _
   have a2:=Xp (n:=0) (rs:=rs.take j) λx hx=>by rw[WS (rw_ x (Bo hx)).nf];exact bp _
   simp only[Rw.deep];lia
  refine q p7 (rs.take k++[.iff e (aZ.of ((rs.drop k).take (m-k))) (aZ.of (rs.take j))]++rs.drop m) H9 (S.trans S9) ⟨p7,_,Y,zI (S.trans (S7.trans s8)) hp7,g9,zaQ (VH (VH (jJ _ P) (.cons I .nil)) (ZB _ P))⟩ ⟨Xp λx hx=>?_,zaR λx hx=>?_,zaS λx hx=>?_,?_⟩
  ·rcases all x hx with h|rfl
   ·rw[WS (rw_ x h).nf];exact bT _
   ·exact dp
  ·rcases all x hx with h|rfl
   ·exact(rw_ x h).pl
   ·exact ip
  ·rcases all x hx with h|rfl
   ·exact(rw_ x h).ok
   ·exact io
  ·show ((rs.take k++[Rw.iff e (aZ.of ((rs.drop k).take (m-k))) (aZ.of (rs.take j))]++rs.drop m).map szX).sum<=11;rw[bQ,bQ,rY,rY,WT λx hx=>(rw_ x (Bo hx)).nf,WT λx hx=>(rw_ x (cW hx)).nf];have c1:=zbR (rs:=(rs.drop k).take (m-k)) λx hx=>(rw_ x (C hx)).nf;have c2:=zbR (rs:=rs.take j) λx hx=>(rw_ x (Bo hx)).nf;rw[cx,cG] at c1;rw[cx] at c2;rw[cx,cG];show min k rs.length+((aZ.of ((rs.drop k).take (m-k))).cnt+(aZ.of (rs.take j)).cnt+3+0)+(rs.length-m)<=11;lia
 ·exact ye (Bk (λz=>hc (V.int.inj z))) ⟨_,Y,q Bp rs H S ⟨Bp,vs,Y,fL,hL,zaQ pr⟩ (zhS rw_ l6)⟩
def cRw(Bq:L)(Hb:Hp)(i:Nat)(ys:List V)(H:Hp):Prop:=∃rs:List Rw,Paired (hV (λb=>Hb b=ao/\b≠Bq) H) ys rs/\(∀r∈rs,rwW r)/\rs.length=i
theorem Jk{vs:List V}{_E:XK}(h:qh vs H Q _E) :
  Xi K t (sA Q) (L2.start ["cell","shelves","slots","xs","rows","at","to","row"] vs) H:=by
 obtain⟨c,a,b,us,ws,rfl,h1,h2,h3,h4,q⟩:=h;refine⟨_,Y,_,22,Y,(),λX ds H1 s1 fX hX ld od=>?_⟩;unfold zo zN zt;refine Qb (σ:=[U (.int c),U (.ref a),U (.ref b),U (.ref X),ao,ao,ao,ao]) (te:=Z 0) (n:=7) (λ_ q=>⟨_,Y,q⟩) () λk g1 g2=>?_;refine⟨_,Y,(),(),λBq hD=>?_⟩;have fD:=zI s1 hD;refine zdl (J:=Itr 0 (k).toNat) (k).toNat () (λτ=>∃o,τ=[o,U (.ref X),U (.ref a),U (.ref b)]) (cRw Bq H) (λi ys H2 H' s ⟨rs,p1,p2⟩=>⟨rs,Paired.mapP p1 λ_ r z=>z.to r (λ_ _ f _=>f) (λb o f e=>s b o f.2 e),p2⟩) ⟨_,Y⟩ ⟨[],.nil,(λr z=>nomatch z),Y⟩ (λi H _ h=>h) (λH _=>bp _) hD ?_ ?_
 ·rintro i v τ ys H4 H5 ⟨o,rfl⟩ s4 hi ⟨rs,pr,wr,li⟩ hy ⟨rfl,rfl⟩;rw[rA];have mb:CMulB 3 i:=mS () () () ();refine⟨_,Y,_,Y,_,_,Y,Y,mb,_,Y,_,Y,_,_,Y,Y,mb,_,_,Y,Y,_,Y,_,_,Y,aT.of (s4 _ _ hX),λp hp=>?_⟩;have e1:3*(i:Int)=((3*i:Nat):Int):=by lia
  have e2:3*(i:Int)+3=((3*i+3:Nat):Int):=by lia
  rw[e2,e1,zfg _ _ _ () (by rw[bf];lia),<-nh,<-nu];have le:((ds.drop (3*i)).take (3*i+3-3*i)).length=3:=by rw[cx,cG];lia
  have oe:∀d∈(ds.drop (3*i)).take (3*i+3-3*i),okD d:=λd hd=>od d (cW (dq hd));generalize (ds.drop (3*i)).take (3*i+3-3*i)=es at *
  have s5:=sJ (o:=HO.lst (es.map V.int)) p hp;have S:=s1.trans (s4.trans s5);have ne:∀ {b},upd H5 p (HO.lst (es.map V.int)) b=ao->b≠Bq:=λ{b} e z=>by rw[z,s5 _ _ hy] at e;cases e
  refine⟨_,Y,_,Y,p,_,_,es,us,ws,Y,zh,le,oe,h1.same S,h2,h3.same S,h4,λv r H6 s6 hr hw=>⟨⟨_,Y⟩,⟨rs++[r],Paired.snocP (Paired.mapP pr λ_ _ z=>z.mono (s5.trans s6)) (hr.to r (λb o f _=>⟨zI S f,ne f⟩) λb o _ e=>e),λx hx=>?_,by rw[bF,li];rfl⟩,s5.trans s6⟩⟩;rcases bB.mp hx with hx|hx
  ·exact wr x hx
  ·rw[br.mp hx];exact hw
 ·rintro ys H4 hly ⟨rs,pr,wr,li⟩ s4 hq;have S:=s1.trans s4;exact zdn (t:=t) (o5:=ao) (o6:=ao) (o7:=ao) (s4 _ _ hX) ld od hq fD (Paired.mapP pr λ_ r z=>z.to r (λ_ _ f _=>f.1) λb o _ e=>e) wr () (h3.same S) h4 S q
end
theorem zfh{s:hZ}{gi:List aQ}(h:qJ s gi):(gi.map (·.1)).Nodup:=by
 unfold qJ at h;split at h
 ·rw[h];exact cw
 ·exact h.1.nd
section
variable {β:Type}{R R':Int->V->β->Prop}{kv:List (aV×V)}{l:List (Int×β)}{h:Int}{b:β}{v:V}
theorem sr{e:Int×β}:e∈yg l h↔e∈l/\e.1≠h:=by unfold yg;rw[cr,decide_eq_true_eq]
theorem Pk.get(p:Pk R kv l):(yc kv (.inl h)=ao/\h ∉ l.map (·.1))\/∃v b,yc kv (.inl h)=U v/\(h,b)∈l/\R h v b:=by
 unfold Pk at p;induction p with
 |nil=>exact .inl ⟨QI,λz=>nomatch z⟩
 |@cons x e kv l hd tl ih =>
  by_cases c:e.1=h
  ·subst c;exact .inr ⟨x.2,e.2,yN hd.1,bo,hd.2⟩
  ·have n:¬ x.1=.inl h:=by rw[hd.1];exact λz=>c (lB z)
   rw[yO n,bw,bD];exact ih.imp (λz=>⟨z.1,λy=>y.elim (λy=>c y.symm) z.2⟩) λ⟨v,b,z1,z2,z3⟩=>⟨v,b,z1,bh _ z2,z3⟩
theorem Pk.drop(p:Pk R kv l):Pk R (yo kv (.inl h)) (yg l h):=by
 unfold Pk at p;induction p with
 |nil=>exact .nil
 |@cons x e kv l hd tl ih =>
  by_cases c:e.1=h
  ·rw[JM (hd.1.trans (congrArg _ c)),yg,df,ap (by rw[decide_eq_true_eq];exact λz=>z c)];exact ih
  ·rw[XM (by rw[hd.1];exact λz=>c (lB z)),yg,df,au (Bj c)];exact .cons hd ih
theorem Pk.put(p:Pk R kv l)(n:h ∉ l.map (·.1))(r:R h v b):Pk R (yq kv (.inl h) v) (l++[(h,b)]):=by
 rcases p.get (h:=h) with ⟨e,_⟩|⟨v,b,_,m,_⟩
 ·rw[va _ e];exact Paired.snocP p ⟨Y,r⟩
 ·exact absurd (bt (f:=λe:Int×β=>e.1) m) n
theorem Pk.set(p:Pk R kv l)(nd:(l.map (·.1)).Nodup)(f:∀k v b',(k,b')∈l->k≠h->R k v b'->R' k v b')(g:∀v,yc kv (.inl h)=U v->R' h v b):Pk R' kv (ZX l h b):=by
 unfold Pk at p;induction p with
 |nil=>exact .nil
 |@cons x e kv l hd tl ih =>
  rw[bw,bZ] at nd;have f':=λk v b' m=>f k v b' (bh e m);by_cases c:e.1=h
  ·refine .cons ?_ (ih nd.2 f' λv z=>?_)
   ·dsimp only;rw[au c];subst c;exact⟨hd.1,g _ (yN hd.1)⟩
   ·rcases Pk.get (R:=R) tl (h:=h) with ⟨y,_⟩|⟨_,b',_,m,_⟩
    ·rw[y] at z;cases z
    ·exact absurd (bt (f:=λe:Int×β=>e.1) m) (by rw[<-c];exact nd.1)
  ·refine .cons ?_ (ih nd.2 f' λv z=>g v ((yO (by rw[hd.1];exact λz=>c (lB z))).trans z));dsimp only;rw[ap c];exact⟨hd.1,f _ _ _ bo c hd.2⟩
end
theorem dkF{P:Str->Option af}(T:Txt K P t):DkF K t:=⟨T.q0b,T.q0h,T.q20,T.q25,T.q1z,T.q1x,T.q24,T.q21,T.q23,T.q22,T.q1y,T.q29,T.q28,T.q2a,T.q27⟩
section
variable {H':Hp}{lb lb':L->Nat}{Bp L':List (L×HO)}{m re b:L}{g:List aQ}{lays:List (Int×List aQ)}{P:Pl->Int->Prop}{cs:List V}{CC:List (List Cs)}{n ac:Int}{la:List (aV×V)}{o o' wo:HO}{i:Nat}{r:L}{no gi:List aQ}{ld:List (Int×hZ×List aQ)}{s:hZ}{M:Nat->Prop}
theorem tw.of(s:aK H H'):tw H H':=λ_ _ e=>s _ _ e
theorem sF.at(h:sF t H lb Bp m re g lays P cs CC)(e:Bp[i]?=U (b,o)):H b=U o:=(h.ob i b o e).1
theorem sF.lb_(h:sF t H lb Bp m re g lays P cs CC)(e:Bp[i]?=U (b,o)):lb b=i+1:=(h.ob i b o e).2
theorem sF.core2{P':Pl->Int->Prop}(h:sF t H lb Bp m re g lays P cs CC)(e:∀b,lb b≠0->lb' b=lb b)(e':∀b,lb b=0->lb' b=0\/lb' b=11/\∃o,H' b=U o)(ob:∀i b o,L'[i]?=U (b,o)->H' b=U o/\lb b=i+1)(k:∀b o,lb b=10\/lb b=13->H b=U o->H' b=U o)(rr:∃kk,sw H' re (λb=>lb' b=11) P' kk)(ts:tw H H')(al:∀b o,H b=U o->∃o',H' b=U o'):sF t H' lb' L' m re g lays P' cs CC:=by
 have e10:(λb=>lb' b=10)=λb=>lb b=10:=funext λb=>propext (by
  rcases mf (lb b) with z|z
  ·rcases e' b z with y|⟨y,_⟩ <;> rw[y,z] <;> decide
  ·rw[e b ()])
 refine⟨λi b o z=>?_,by rw[e10];exact h.ms.keep (λb o fb e=>k b o (.inl fb) e) ts,rr,(e _ (by rw[h.rl];decide)).trans h.rl,Paired.mapP h.cc λv C ⟨⟨c,ys,ev,hc,pc⟩,lc⟩=>⟨⟨c,ys,ev,k c _ (.inr (lc c ev)) hc,xP ts pc⟩,λc ev=>(e c (by rw[lc c ev];decide)).trans (lc c ev)⟩,λb hb=>?_⟩
 ·obtain⟨h1,h2⟩:=ob i b o z;exact⟨h1,(e b ()).trans h2⟩
 ·rcases mf (lb b) with z|z
  ·rcases e' b z with y|⟨_,y⟩
   ·exact absurd y hb
   ·exact y
  ·obtain⟨o,z⟩:=h.ow b ();exact al b o z
theorem sF.core(h:sF t H lb Bp m re g lays P cs CC)(ob:∀i b o,L'[i]?=U (b,o)->H' b=U o/\lb b=i+1)(k:∀b o,10<=lb b->lb b<14->H b=U o->H' b=U o)(ts:tw H H')(al:∀b o,H b=U o->∃o',H' b=U o'):sF t H' lb L' m re g lays P cs CC :=
 h.core2 (λ_ _=>rfl) (λ_=>.inl) ob (λb o z e=>k b o () () e) (let ⟨kk,z⟩:=h.rr;⟨kk,z.keep h.rl (λb o fb e=>k b o (by rw[fb];decide) (by rw[fb];decide) e) λ_ z=>z⟩) ts al
open Classical in
theorem sF.regrow{P':Pl->Int->Prop}(h:sF t H lb Bp m re g lays P cs CC)(ll:Bp.length=9)(k:hU (λb=>lb b=11\/H b=ao) re H H')(dm:Dm H H')(rr:sw H' re (λb=>lb b=11\/H b=ao) P' kk):∃lb',Fr M1 H H' lb lb'/\sF t H' lb' Bp m re g lays P' cs CC:=by
 have kp:∀b o,lb b≠11->H b=U o->H' b=U o:=λb o z e=>k b o e (λy=>z (by rw[y];exact h.rl)) (.inr λy=>y.elim z λy=>by rw[e] at y;cases y);obtain⟨kk0,r0⟩:=h.rr;have ts:tw H H':=λb zs e=>k b _ e (zJ e r0.at_ ()) (.inl λ_ z=>nomatch z);have al:∀b o,H b=U o->∃o',H' b=U o':=λb o e=>let ⟨o',z,_⟩:=dm b o e;⟨o',z⟩
 have ln:∀b,lb b≠0->H b≠ao:=λb z y=>by obtain⟨o,e⟩:=h.ow b z;rw[y] at e;cases e
 refine⟨λb=>if H b=ao/\∃o,H' b=U o then 11 else lb b,⟨λb o e=>ap (λz=>by rw[z.1] at e;cases e),λb o z e=>kp b o (by unfold M1 at z;lia) e,ts,al⟩,h.core2 (λb z=>ap λy=>ln b z y.1) (λb z=>?_) (λi b o z=>?_) (λb o z e=>kp b o () e) ⟨kk,rr.keep2 Y (λb xs _ e=>e) λb fb z=>?_⟩ ts al⟩
 ·by_cases y:H b=ao/\∃o,H' b=U o
  ·exact .inr ⟨au y,y.2⟩
  ·exact .inl ((ap y).trans z)
 ·obtain⟨h1,h2⟩:=h.ob i b o z;have:=(bn.mp z).1;exact⟨kp b o () h1,h2⟩
 ·by_cases y:H b=ao/\∃o,H' b=U o
  ·exact au y
  ·exact(ap y).trans (fb.resolve_right λw=>y ⟨w,z⟩)
theorem sF.keep(h:sF t H lb Bp m re g lays P cs CC)(ll:Bp.length=9)(k:∀b o,lb b≠0->lb b<14->H b=U o->H' b=U o)(ts:tw H H')(al:∀b o,H b=U o->∃o',H' b=U o'):sF t H' lb Bp m re g lays P cs CC :=
 h.core (λi b o e=>by
  obtain⟨h1,h2⟩:=h.ob i b o e;have:=(bn.mp e).1;exact⟨k b o () () h1,h2⟩) (λb o h1 h2 e=>k b o () h2 e) ts al
theorem sF.same(h:sF t H lb Bp m re g lays P cs CC)(ll:Bp.length=9)(s:aK H H'):sF t H' lb Bp m re g lays P cs CC:=h.keep ll (λb o _ _ e=>s _ _ e) (tw.of s) λb o e=>⟨o,s _ _ e⟩
theorem YH:∀b' u,H b'=U u->∃u',upd H b o b'=U u':=λb' u e=>by
 by_cases c:b'=b
 ·exact⟨o,by rw[c];exact zh⟩
 ·exact⟨u,by rw[zk c];exact e⟩
theorem jn(e:H b=U o)(n:∀zs,o≠.tup zs):tw H (upd H b o'):=λb' ys e'=>by rw[zk (zJ e' e (λz=>n ys z.symm))];exact e'
theorem sF.put(h:sF t H lb Bp m re g lays P cs CC)(ll:Bp.length=9)(e:Bp[i]?=U (b,o))(n:∀zs,o≠.tup zs):sF t (upd H b o') lb (Bp.set i (b,o')) m re g lays P cs CC:=by
 have li:=(bn.mp e).1;obtain⟨eb,lbb⟩:=h.ob i b o e;refine h.core (λj b2 o2 e2=>?_) (λb2 o2 h1 h2 e2=>?_) (jn eb n) YH
 ·rw[List.getElem?_set] at e2;by_cases c:i=j
  ·rw[au c,au ()] at e2;cases e2;exact⟨zh,()⟩
  ·rw[ap c] at e2;obtain⟨h1,h2⟩:=h.ob j b2 o2 e2;exact⟨by rw[zk (λz=>by rw[z] at h2;lia)];exact h1,h2⟩
 ·rw[zk (λz=>by rw[z] at h1;lia)];exact e2
theorem Fr.mono{M':Nat->Prop}(h:Fr M H H' lb lb')(k:∀l,M' l->M l):Fr M' H H' lb lb':=⟨h.ex,λb o z e=>h.kp b o (k _ z) e,h.ts,h.al⟩
theorem Fr.m0(h:Fr M1 H H' lb lb'):Fr M0 H H' lb lb':=h.mono λl z=>z.imp id λy=>by lia
theorem Fr.same(s:aK H H'):Fr M H H' lb lb:=⟨λ_ _ _=>rfl,λ_ _ _ e=>s _ _ e,λ_ _ e=>s _ _ e,λ_ o e=>⟨o,s _ _ e⟩⟩
theorem Fr.trans{H2:Hp}{lb2:L->Nat}(h:Fr M H H' lb lb')(k:Fr M H' H2 lb' lb2):Fr M H H2 lb lb2 :=
 ⟨λb o e=>let ⟨o',e'⟩:=h.al b o e;(k.ex b o' e').trans (h.ex b o e),λb o z e=>k.kp b o (by rw[h.ex b o e];exact z) (h.kp b o z e),λb zs e=>k.ts b zs (h.ts b zs e),λb o e=>let ⟨o',e'⟩:=h.al b o e;k.al b o' e'⟩
theorem sF.fput(h:sF t H lb Bp m re g lays P cs CC)(e:Bp[i]?=U (b,o))(n:∀zs,o≠.tup zs)(ll:i<9:=by lia):Fr M1 H (upd H b o') lb lb:=by
 have l:=h.lb_ e;exact⟨λ_ _ _=>rfl,λb2 u z e2=>by rw[zk (λy=>by rw[y,l] at z;unfold M1 at z;lia)];exact e2,jn (h.at e) n,YH⟩
theorem zg2(h:sI H l aM)(F:Fr M H H' lb lb')(k:M 14)(z:lb l=14):sI H' l aM:=by
 obtain⟨xs,hx,hp⟩:=h;exact⟨xs,F.kp _ _ (by rw[z];exact k) hx,Paired.mapP hp λ_ _ y=>L2.PrAt.tsame y F.ts⟩
theorem tM.fr(h:tM H lb r no gi)(F:Fr M H H' lb lb')(k:M 14):tM H' lb' r no gi:=by
 obtain⟨o,nl,gl,e,h1,h2,z1,z2⟩:=h;obtain⟨xs,hx,hp⟩:=id h1;obtain⟨ys,hy,hq⟩:=id h2;exact⟨o,nl,gl,F.ts _ _ e,zg2 h1 F k z1,zg2 h2 F k z2,(F.ex _ _ hx).trans z1,(F.ex _ _ hy).trans z2⟩
theorem wV(h:Pk (Xd H lb) la ld)(F:Fr M H H' lb lb')(k:M 14):Pk (Xd H' lb') la ld:=Paired.mapP h λ_ _ ⟨e,r,er,hr⟩=>⟨e,r,er,hr.fr F k⟩
theorem sF.out(h:sF t H lb Bp m re g lays P cs CC)(e:H b=ao):lb b=0:=e9 λz=>by obtain⟨o,y⟩:=h.ow b z;rw[e] at y;cases y
theorem ZC{vs:List V}{_E:XK}(MF:MkF K t)(h:xD t vs H Q _E) :
  vE K t (sA Q) (L2.start ["self","place","rank","ranks","above"] vs) H:=by
 obtain⟨m,p,ac,F,g,lays,q0,rfl,h1,h2,q⟩:=h;obtain⟨dx,gr,wo,rk,wk,kk,M⟩:=sU.ex h1;refine(yd M.im MF.cl MF.r Y zgr ⟨rk,Y,.inr ⟨_,.inl M.rr.at_⟩,_,Y,(),λl hl=>?_⟩);generalize c_:upd H l _=H2;obtain⟨s2,q2⟩:=yW c_ hl;have M2:=M.keep h1.me λb o _ e=>s2 _ _ e;refine⟨_,.t M2.rr.at_ (s2 _ _ h2),?_⟩;have go:∃(c:L) (rs:List Int),((yc kk (zC q0)).getD (.ref l))=.ref c/\H2 c=U (.lst (rs.map V.int))/\rs.Pairwise (· < ·):=by
  rcases M2.rr.get q0 with ⟨c,rs,hk,hv,fa,ha,hs,hne,hi⟩|⟨hv,_,_⟩
  ·exact⟨c,rs,by rw[hv];rfl,ha,hs⟩
  ·exact⟨l,[],by rw[hv];rfl,q2,fm⟩
 obtain⟨c,rs,ev,ha,hs⟩:=go;rw[ev];refine⟨_,Y,_,Y,_,_,Y,Y,c,rs,_,Y,ha,hs,λk H3 s3 hk _ _=>?_⟩;have e3:=s3 _ _ ha;refine⟨_,Y,_,Y,.ref c,rs.length,Y,.inl ⟨_,aT.of e3,(bf ..).symm⟩,Y,_,Y,?_⟩;by_cases z:k=rs.length
 ·exact yv (Bj (by rw[z])) (q _ H3 (s2.trans s3) (.inl Y))
 ·refine ye (Bk (λy=>z (by injection y with y;lia))) ?_;exact⟨_,Y,_,Y,c,_,k,_,Y,Y,aT.of e3,yp (by rw[bx,bb (show k<rs.length by lia)];rfl),q _ H3 (s2.trans s3) (.inr ⟨_,Y⟩)⟩
end
section
variable {H':Hp}{lb:L->Nat}{Bp:List (L×HO)}{d b:L}{a:tI}{g:List aQ}{lays:List (Int×List aQ)}{P:Pl->Int->Prop}{cs en:List V}{CC:List (List Cs)}{n f ac:Int}{ws db:List Int}{kv la:List (aV×V)}{o o' wo:HO}{i:Nat}{r:L}{no gi:List aQ}{ld:List (Int×hZ×List aQ)}{s:hZ}
theorem zhU(x:Int):∃db',yq (dbL db) (.inl x) (.bl D)=dbL db'/\(db.Nodup->db'.Nodup)/\∀y,y∈db'↔y∈db\/y=x:=by
 by_cases c:x∈db
 ·refine⟨db,?_,id,λy=>⟨.inl,λz=>z.elim id λz=>by rw[z];exact c⟩⟩;unfold yq;rw[au (gK.mpr ⟨(.inl x,.bl D),bt (f:=λr=>((.inl r:aV),V.bl D)) c,Bj Y⟩)];refine(dy λkv hk=>?_).trans (List.map_id _);obtain⟨y,_,rfl⟩:=bC.mp hk;split <;> rfl
 ·refine⟨db++[x],?_,λnd=>?_,λy=>by rw[bB,br]⟩
  ·rw[va _ (Vz λz=>?_)]
   ·unfold dbL;rw[bQ];rfl
   rw[dbL,da] at z;obtain⟨y,hy,e⟩:=bC.mp z;exact c (by rw[<-lB e];exact hy)
  ·refine cV.mpr ⟨nd,by simp,λy hy z hz e=>c ?_⟩;rw[<-br.mp hz,<-e];exact hy
theorem zcB(x:Int):yo (dbL db) (.inl x)=dbL (db.filter λy=>decide (y≠x)):=by
 unfold yo dbL;rw[List.filter_map];congr 1;refine List.filter_congr λy _=>?_;show decide ((fQ y:aV)≠.inl x)=decide (y≠x);simp
theorem zfi{x:Int}(h:x∈db):yc (dbL db) (.inl x)=U (.bl D):=by
 cases e:yc (dbL db) (.inl x) with
 |none =>
  refine absurd ?_ (QR e);rw[dbL,da];exact bt (f:=λy:Int=>(fQ y:aV)) h
 |some v =>
  obtain⟨p,hp,rfl⟩:=zd7 e;obtain⟨y,_,rfl⟩:=bC.mp hp;rfl
theorem sK.len(h:sK ld db):db.length<=ld.length:=by
 have:=xS h.nd h.su
 rwa [bf] at this
theorem zgy{lo hi:Option Int}(h:x∈qM xs lo hi):x∈xs:=cW (dq h)
theorem sF.dbt(x:Int)(h:sF t H lb (tG t d a n f wo cs ws kv la db en) a.mks a.re g lays P cs CC)(l:db.length<=100):∃H' db',DPut H a.db (.int x) (.bl D) H'/\Fr M1 H H' lb lb/\sF t H' lb (tG t d a n f wo cs ws kv la db' en) a.mks a.re g lays P cs CC/\(db.Nodup->db'.Nodup)/\(∀y,y∈db'↔y∈db\/y=x)/\∀b o,b≠a.db->H b=U o->H' b=U o:=by
 obtain⟨db',e,nd,mm⟩:=zhU (db:=db) x;have h2:=h.put (i:=7) (o':=.dK (dbL db')) Y Y ();have F2:=h.fput (i:=7) (o':=.dK (dbL db')) Y ();have z:=DPut.k (k:=.inl x) (v:=.bl D) (h.at (i:=7) Y) (by rw[bG];unfold dbL;rw[bf];lia);rw[e] at z;exact⟨_,db',z,F2,h2,nd,mm,λb o z e=>by rw[zk z];exact e⟩
theorem VI{c p:L}{rs:List Int}{k:Nat}{v4:V}(Bq:DkF K t)(h:sF t H lb (tG t d a n f wo cs ws kv la db en) a.mks a.re g lays (tu ld) cs CC)(hd:sK ld db)(l10:ld.length<=10)(hc:H c=U (.lst (rs.map V.int)))(hs:rs.Pairwise (· < ·))(hr:∀r∈rs,r∈ld.map (·.1))(q:∀H' db',Fr M1 H H' lb lb->sF t H' lb (tG t d a n f wo cs ws kv la db' en) a.mks a.re g lays (tu ld) cs CC->sK ld db'->Q .non H') :
  qG K t (sA Q) [U (.ref a.jb),U (.ref p),U (.int ac),U (.ref c),U v4,U (.int k),ao] H:=by
 refine⟨_,Y,_,Y,_,Y,_,_,Y,Y,c,rs,_,Y,hc,hs,λk1 H1 s1 _ _ _=>⟨k1,Y,_,Y,k,Y,c,_,Y,aT.of (s1 _ _ hc),λz hz=>?_⟩⟩;have cm:∀x∈qM (rs.map V.int) (U (k1:Int)) (U (k:Int)),∃y∈rs,V.int y=x:=λx hx=>bC.mp (zgy hx);generalize qM (rs.map V.int) (U (k1:Int)) (U (k:Int))=ys at *
 have h1:=h.same Y s1;generalize c_:upd H1 z _=H2;obtain⟨s2,e2⟩:=yW c_ hz;refine⟨z,Y,⟨_,aT.of e2⟩,yI ys (λi σ H'=>(∃o6,σ=[U (.ref a.jb),U (.ref p),U (.int ac),U (.ref c),U v4,U (.int k),o6])/\H' z=U (.lst ys)/\Fr M1 H H' lb lb/\∃db',sF t H' lb (tG t d a n f wo cs ws kv la db' en) a.mks a.re g lays (tu ld) cs CC/\sK ld db') ⟨⟨_,Y⟩,e2,Fr.same (s1.trans s2),db,h1.same Y s2,hd⟩ (λi σ H' ⟨_,z,_⟩=>aT.of z) ?_ ?_⟩
 ·rintro i u σ H' hu ⟨⟨o6,rfl⟩,hz',F,db',h',hd'⟩;obtain⟨x,hx,rfl⟩:=cm u (bS hu);have ll:=hd'.len;obtain⟨H4,db4,dp,F4,h4,nd4,mm4,k4⟩:=h'.dbt x ();exact yd (h'.at (i:=2) Y) Bq.cJ Bq.j4 Y Y ⟨_,Y,a.db,H4,Y,dp,⟨_,Y⟩,k4 _ _ (zJ hz' (h'.at (i:=7) Y) ()) hz',F.trans F4,db4,h4,nd4 hd'.nd,λy hy=>((mm4 y).mp hy).elim (hd'.su y) λe=>by rw[e];exact hr x hx⟩
 ·rintro σ H' ⟨_,_,F,db',h',hd'⟩;exact q H' db' F h' hd'
theorem VJ{p:L}{q0:Pl}(Bq:DkF K t)(h:sF t H lb (tG t d a n f wo cs ws kv la db en) a.mks a.re g lays (tu ld) cs CC)(hd:sK ld db)(l10:ld.length<=10)(hp:H p=U (.tup ((zC q0).map kV)))(q:∀H' db',Fr M1 H H' lb lb->sF t H' lb (tG t d a n f wo cs ws kv la db' en) a.mks a.re g lays (tu ld) cs CC->sK ld db'->Q .non H') :
  Yf K t (sA Q) (L2.start ["self","place","rank","readers","above","behind","reader"] [.ref a.jb,.ref p,.int ac]) H:=by
 obtain⟨kk,r0⟩:=h.rr;have e1:H a.jb=U (.ins t.q03 a.dj (V8 a.mks a.la a.re a.db)):=h.at (i:=2) rfl;refine(yd e1 Bq.cJ Bq.j3 Y Y ⟨a.re,Y,.inr ⟨_,.inl r0.at_⟩,_,Y,(),λl hl=>?_⟩);generalize c_:upd H l _=H2;obtain⟨s2,q2⟩:=yW c_ hl;have h2:=h.same Y s2;obtain⟨dx,gr,wo',rk,wk,kx,M⟩:=sU.ex h2.ms;refine⟨_,.t (s2 _ _ r0.at_) (s2 _ _ hp),?_⟩;have go:∃(c:L) (rs:List Int),((yc kk (zC q0)).getD (.ref l))=.ref c/\H2 c=U (.lst (rs.map V.int))/\rs.Pairwise (· < ·)/\∀r∈rs,r∈ld.map (·.1):=by
  rcases r0.get q0 with ⟨c,rs,hk,hv,fa,ha,hs,hne,hi⟩|⟨hv,_,_⟩
  ·refine⟨c,rs,by rw[hv];rfl,s2 _ _ ha,hs,λr hr=>?_⟩;obtain⟨e,he,er,_⟩:=(hi r).mp hr;exact bC.mpr ⟨e,he,er⟩
  ·exact⟨l,[],by rw[hv];rfl,q2,fm,λ_ z=>nomatch z⟩
 obtain⟨c,rs,ev,ha,hs,hr⟩:=go;rw[ev];refine(yd (s2 _ _ e1) Bq.cJ Bq.j1 Y Y ⟨a.mks,_,_,Y,M.im,kC (),_,Y,_,Y,a.mks,p,ac,_,g,lays,q0,Y,h2.ms,s2 _ _ hp,λv H3 s3 hv=>?_⟩);have h3:=h2.same Y s3;have S3:=s2.trans s3;rcases hv with rfl|⟨i,rfl⟩
 ·exact⟨_,Y,Y,_,Y,yv Y ⟨_,Y,.ref c,rs.length,Y,.inl ⟨_,aT.of (s3 _ _ ha),(bf ..).symm⟩,VI Bq h3 hd l10 (s3 _ _ ha) hs hr λH' db' F=>q H' db' ((Fr.same S3).trans F)⟩⟩
 ·refine⟨_,Y,Y,_,Y,ye Y ⟨_,Y,_,Y,_,_,Y,Y,c,rs,_,Y,s3 _ _ ha,hs,λk H4 s4 _ _ _=>?_⟩⟩;exact VI Bq (h3.same Y s4) hd l10 (s4 _ _ (s3 _ _ ha)) hs hr λH' db' F=>q H' db' ((Fr.same (S3.trans s4)).trans F)
theorem qK(Bq:DkF K t)(h:sF t H lb Bp a.mks a.re g lays P cs CC)(l2:Bp[2]?=U (a.jb,.ins t.q03 a.dj (V8 a.mks a.la a.re a.db)))(l6:Bp[6]?=U (a.la,.dK la))(hv:yc la (.inl ac)=U (.ref r))(h0:0<=ac)(hp:tM H lb r no gi)(q1:∀H',aK H H'->Q .non H')(q2:∀v H' q y,aK H H'->y∈no->yj g lays y.1 ac≠y.2->H' v=U (.tup [.ref q,.int y.2,.int (yj g lays y.1 ac)])->H' q=U (.tup [.str y.1.1,.int y.1.2])->Q (.ref v) H') :
  vf K t (sA Q) (L2.start ["self","rank","place","worth","now"] [.ref a.jb,.int ac]) H:=by
 obtain⟨o,nl,gl,e,⟨xs,hx,px⟩,_,z1,z2⟩:=hp;have e1:=h.at l2;have e2:=h.at l6;obtain⟨dx,fs,im,_,sn,_⟩:=h.ms.ins;have dg:sL H a.la (.int ac) (U (.ref r)):=by
  have z:=sL.k (k:=.inl ac) e2
  rwa [hv] at z
 refine(yd e1 Bq.cJ Bq.j2 Y Y ⟨_,Y,a.la,_,Y,dg,r,_,1,_,Y,Y,sB.of e,Y,nl,Y,⟨_,aT.of hx⟩,yI xs (λ_ σ H'=>(∃o2 o3 o4,σ=[U (.ref a.jb),U (.int ac),o2,o3,o4])/\aK H H') ⟨⟨_,_,_,Y⟩,aK.refl _⟩ (λi σ H' ⟨_,s⟩=>aT.of (s _ _ hx)) ?_ ?_⟩)
 ·rintro i u σ H' hu ⟨⟨o2,o3,o4,rfl⟩,s⟩;obtain⟨y,hy,w,p,rfl,ew,ep⟩:=Paired.getP px hu;refine⟨w,_,Y,sB.of (s _ _ ew),Y,_,_,Y,_,_,Y,Y,yd (s _ _ e1) Bq.cJ Bq.j1 Y Y ⟨a.mks,_,_,Y,s _ _ im,sn,_,Y,_,Y,a.mks,p,ac,_,g,lays,y.1,Y,h.ms.same s,h0,s _ _ ep,λH2 s2=>?_⟩⟩;refine⟨_,Y,_,Y,Y,_,Y,?_⟩;by_cases c:yj g lays y.1 ac=y.2
  ·exact ye (by rw[Bj (congrArg V.int c)];rfl) ⟨⟨_,_,_,Y⟩,s.trans s2⟩
  ·refine yv (by rw[Bk (λz=>c (V.int.inj z))];rfl) ⟨_,Y,_,Y,_,Y,by show 3<=Bb;rw[bG];decide,λp' hp'=>?_⟩;have s3:=sJ (o:=HO.tup [V.ref p,V.int y.2,V.int (yj g lays y.1 ac)]) p' hp';exact q2 p' _ p y (s.trans (s2.trans s3)) (bS hy) c zh (s3 _ _ (s2 _ _ (s _ _ ep)))
 ·rintro σ H' ⟨_,s⟩;exact q1 H' s
end
section
variable {H':Hp}{lb lb':L->Nat}{d b:L}{a:tI}{g:List aQ}{lays:List (Int×List aQ)}{P:Pl->Int->Prop}{cs en:List V}{CC:List (List Cs)}{n f ac:Int}{ws db:List Int}{kv la:List (aV×V)}{o o' wo:HO}{i:Nat}{r:L}{no gi:List aQ}{ld:List (Int×hZ×List aQ)}{s:hZ}
theorem kI(Bq:DkF K t)(h:sF t H lb (tG t d a n f wo cs ws kv la db en) a.mks a.re g lays (tu ld) cs CC)(hl:Pk (Xd H lb) la ld)(hd:sK ld db)(l10:ld.length<=10)(h0:∀e∈ld,0<=e.1)(q1:∀H' db',Fr M1 H H' lb lb->sF t H' lb (tG t d a n f wo cs ws kv la db' en) a.mks a.re g lays (tu ld) cs CC->sK ld db'->Q .non H')
  (q2:∀v H' db' q r s gi y,Fr M1 H H' lb lb->sF t H' lb (tG t d a n f wo cs ws kv la db' en) a.mks a.re g lays (tu ld) cs CC->sK ld db'->(r,s,gi)∈ld->y∈s.no->yj g lays y.1 r≠y.2->H' v=U (.tup [.int r,.ref q,.int y.2,.int (yj g lays y.1 r)])->H' q=U (.tup [.str y.1.1,.int y.1.2])->Q (.ref v) H') :
  wB K t (sA Q) (L2.start ["self","ranks","rank","note"] [.ref a.jb]) H:=by
 have ll:=hd.len;refine(yd (h.at (i:=2) Y) Bq.cJ Bq.j4 Y Y ⟨a.db,dbL db,db,Y,h.at (i:=7) Y,by unfold dbL;rw[da];rfl,by unfold dbL;rw[bf];lia,λl srt hl0 hs hp=>?_⟩);have nd:srt.Nodup:=hs.nodup_iff.mpr hd.nd;generalize c_:upd H l _=H2;obtain⟨s2,e2⟩:=yW c_ hl0;refine⟨_,Y,l,Y,⟨_,aT.of e2⟩,yI (srt.map V.int) (λi σ H'=>(∃o2 o3,σ=[U (.ref a.jb),U (.ref l),o2,o3])/\H' l=U (.lst (srt.map V.int))/\Fr M1 H H' lb lb/\∃db',sF t H' lb (tG t d a n f wo cs ws kv la db' en) a.mks a.re g lays (tu ld) cs CC/\sK ld db'/\∀r∈srt.drop i,r∈db') ⟨⟨_,_,Y⟩,e2,Fr.same s2,db,h.same Y s2,hd,λr hr=>hs.mem_iff.mp hr⟩ (λi σ H' ⟨_,z,_⟩=>aT.of z) ?_ ?_⟩
 ·rintro i u σ H' hu ⟨⟨o2,o3,rfl⟩,hl',F,db',h',hd',su⟩;rw[bx] at hu;obtain⟨x,hx,rfl⟩:=bY.mp hu;have li:=(bn.mp hx).1;have ex:srt[i]=x:=(bn.mp hx).2;have ed:srt.drop i=x::srt.drop (i+1):=by rw[mq li,ex]
  have xd:x∈db':=su x (by rw[ed];exact bo);obtain⟨e,he,rfl⟩:=bC.mp (hd'.su x xd);have hlF:=wV hl F (M:=M1) (.inr ());rcases hlF.get (h:=e.1) with ⟨_,z⟩|⟨v,b,hv,hm,r,rfl,hr⟩
  ·exact absurd (bt (f:=λe:Int×hZ×List aQ=>e.1) he) z
  refine⟨_,Y,a.jb,_,_,Y,h'.at (i:=2) Y,Y,_,Y,d,a,lb,_,la,g,lays,_,cs,CC,e.1,r,b.1.no,b.2,Y,h',Y,Y,hv,h0 e he,hr,λH3 s3=>?_,λv H3 q y s3 hy hn h3 hq=>?_⟩
  ·have h3:=h'.same Y s3;refine⟨_,Y,Y,_,Y,ye Y (yd (h3.at (i:=2) Y) Bq.cJ Bq.j4 Y Y ⟨a.db,Y,.inl ⟨_,.inl (h3.at (i:=7) Y)⟩,_,Y,dbL db',.inl e.1,_,h3.at (i:=7) Y,Y,zfi xd,?_⟩)⟩;rw[zcB];have h4:=h3.put (i:=7) (o':=.dK (dbL (db'.filter λy=>decide (y≠e.1)))) Y Y ();have F4:=h3.fput (i:=7) (o':=.dK (dbL (db'.filter λy=>decide (y≠e.1)))) Y ();refine⟨⟨_,_,Y⟩,by rw[zk (zJ (s3 _ _ hl') (h3.at (i:=7) Y) ())];exact s3 _ _ hl',F.trans ((Fr.same s3).trans F4),_,h4,⟨hd'.nd.sublist de,λr hr=>hd'.su r (cr.mp hr).1⟩,λr hr=>cr.mpr ⟨su r (by rw[ed];exact bh _ hr),Bj λz=>?_⟩⟩;have nd':=nd.sublist (pS i srt);rw[ed,bZ] at nd';exact nd'.1 (by rw[<-z];exact hr)
  ·have h3':=h'.same Y s3;refine⟨_,Y,Y,_,Y,yv Y ⟨_,Y,by show 1<=Bb;rw[bG];decide,λp1 hp1=>?_⟩⟩;generalize c_:upd H3 p1 _=H4;obtain⟨s4,e4⟩:=yW c_ hp1;refine⟨_,Y,p1,v,_,_,Y,Y,sB.of e4,sB.of (s4 _ _ h3),(),by show 1+3<=Bb;rw[bG];decide,?_⟩;refine⟨(),λ_ p2 hp2=>?_⟩;have s5:=sJ (o:=HO.tup [V.int e.1,V.ref q,V.int y.2,V.int (yj g lays y.1 e.1)]) p2 hp2;exact q2 p2 _ db' q e.1 b.1 b.2 y (F.trans (Fr.same (s3.trans (s4.trans s5)))) (h3'.same Y (s4.trans s5)) hd' hm hy hn zh (s5 _ _ (s4 _ _ hq))
 ·rintro σ H' ⟨_,_,F,db',h',hd',_⟩;exact q1 H' db' F h' hd'
theorem zcC{gs:List aQ}{r0:aQ}(nd:(gs.map (·.1)).Nodup)(h:gs[i]?=U r0):r0.1 ∉ (gs.take i).map (·.1):=λz=>by
 obtain⟨j,hj⟩:=cM z;rw[bx,eW] at hj;split at hj
 ·rename_i hji;have a1:(gs.map (·.1))[j]?=U r0.1:=by rw[bx];exact hj
  have a2:(gs.map (·.1))[i]?=U r0.1:=by rw[bx,h];rfl
  have:=(gA (bn.mp a1).1 nd).mp (a1.trans a2.symm);lia
 ·cases hj
theorem zaT{gs:List aQ}{r0:aQ}{p:Pl}(h:gs[i]?=U r0):p∈(gs.take (i+1)).map (·.1)↔p∈(gs.take i).map (·.1)\/p=r0.1:=by
 rw[cU,h,bQ,bB];have:p∈ot (·.1) (U r0).toList↔p=r0.1:=by simp
 rw[this]
theorem Qd{β:Type}{x y:Int×β}:∀ {l:List (Int×β)},(l.map (·.1)).Nodup->x∈l->y∈l->x.1=y.1->x=y
 |z::l,nd,hx,hy,e=>by
  rw[bw,bZ] at nd;rcases bD.mp hx with h1|h1 <;> rcases bD.mp hy with h2|h2
  ·rw[h1,h2]
  ·exact absurd (bC.mpr ⟨y,h2,by rw[<-e,h1]⟩) nd.1
  ·exact absurd (bC.mpr ⟨x,h1,by rw[e,h2]⟩) nd.1
  ·exact Qd nd.2 h1 h2 e
def tkI(a:tI)(v:V)(ac:Int)(G:L->Prop)(P:Pl->Int->Prop)(no:List aQ)(H:Hp)(i:Nat)(σ:St)(H':Hp):Prop:=(∃o3 o4,σ=[U (.ref a.jb),U (.int ac),U v,o3,o4])/\hU G a.re H H'/\Dm H H'/\∃kk,sw H' a.re G (λp j=>P p j/\¬ (j=ac/\p∈(no.take i).map (·.1))) kk
theorem Xq(Bq:DkF K t)(h:sF t H lb (tG t d a n f wo cs ws kv la db en) a.mks a.re g lays (tu ld) cs CC)(hl:Pk (Xd H lb) la ld)(hd:sK ld db)(nl:(ld.map (·.1)).Nodup)(hm:(ac,s,gi)∈ld)(nd:(s.no.map (·.1)).Nodup)(q:∀r H' lb' la' db',Fr M1 H H' lb lb'->sF t H' lb' (tG t d a n f wo cs ws kv la' db' en) a.mks a.re g lays (tu (yg ld ac)) cs CC->Pk (Xd H' lb') la' (yg ld ac)->sK (yg ld ac) db'->Q (.ref r) H') :
  kF K t (sA Q) (L2.start ["self","rank","paper","place","worth"] [.ref a.jb,.int ac]) H:=by
 rcases hl.get (h:=ac) with ⟨_,z⟩|⟨v,b,hv,hb,r,rfl,hr⟩
 ·exact absurd (bt (f:=λe:Int×hZ×List aQ=>e.1) hm) z
 obtain rfl:b=(s,gi):=by have:=Qd nl hb hm rfl;injection this
 refine(yd (h.at (i:=2) Y) Bq.cJ Bq.j2 Y Y ⟨a.la,Y,.inl ⟨_,.inl (h.at (i:=6) Y)⟩,_,Y,_,.inl ac,_,h.at (i:=6) Y,Y,hv,?_⟩);have h2:=h.put (i:=6) (o':=.dK (yo la (.inl ac))) Y Y ();have F2:=h.fput (i:=6) (o':=.dK (yo la (.inl ac))) Y ();generalize upd H a.la (.dK (yo la (.inl ac)))=H2 at *
 have h2:sF t H2 lb (tG t d a n f wo cs ws kv (yo la (.inl ac)) db en) a.mks a.re g lays (tu ld) cs CC:=h2;have fin:∀H3 db3,Fr M1 H H3 lb lb->sF t H3 lb (tG t d a n f wo cs ws kv (yo la (.inl ac)) db3 en) a.mks a.re g lays (tu ld) cs CC->sK (yg ld ac) db3->zo (vS (xx K (aL (yJ K) (Z 2) (tC (.int 1)))) (Kn K 2 (w4 (zt 3) (w4 (zt 4) Km))) (yk (zR ww [] E0 (zc (zV K (Z 0) "readers") (zc (Z 3) (zc (Z 1) zj)))))) (zL (Z 2)) (sA Q) [U (.ref a.jb),U (.int ac),U (.ref r),ao,ao] H3:=λH3 db3 F3 h3 hd3=>by
  obtain⟨o,nl',gl,er,⟨xs,hx,px⟩,_,z1,z2⟩:=hr.fr F3 (.inr ());have e1:H3 a.jb=U (.ins t.q03 a.dj (V8 a.mks a.la a.re a.db)):=h3.at (i:=2) rfl;have rl:=h3.rl;obtain⟨kk,r0⟩:=h3.rr;refine⟨_,Y,r,_,1,_,Y,Y,sB.of er,Y,nl',Y,⟨_,aT.of hx⟩,yI xs (tkI a (.ref r) ac (λb=>lb b=11\/H3 b=ao) (tu ld) s.no H3) ⟨⟨_,_,Y⟩,hU.refl,Dm.refl,kk,(r0.keep (F':=λb=>lb b=11\/H3 b=ao) rl (λb o _ e=>e) λ_ z=>.inl z).eqv λp i=>by simp⟩ (λi σ H' ⟨_,k,_⟩=>aT.of (k _ _ hx (λz=>by rw[z,rl] at z1;cases z1) (.inr λz=>z.elim (λy=>by rw[z1] at y;cases y) λy=>by rw[hx] at y;cases y))) ?_ ?_⟩
  ·rintro i u σ H' hu ⟨⟨o3,o4,rfl⟩,k,dm,kk',hr'⟩;obtain⟨y,hy,w,p,rfl,ew,ep⟩:=Paired.getP px hu;have tk:∀b zs,H3 b=U (.tup zs)->H' b=U (.tup zs):=λb zs e=>k _ _ e (zJ e r0.at_ ()) (.inl λ_ z=>nomatch z);refine⟨w,_,Y,sB.of (tk _ _ ew),Y,_,_,Y,_,_,Y,Y,yd (k _ _ e1 (zJ e1 r0.at_ ()) (.inl λ_ z=>nomatch z)) Bq.cJ Bq.j3 Y Y ⟨_,Y,_,Y,a.re,p,ac,_,_,kk',y.1,Y,hr',.inl rl,tk _ _ ep,⟨⟨_,hm,Y,bt (bS hy)⟩,λz=>zcC nd hy z.2⟩,λH3 kk3 k3 d3 r3=>⟨⟨_,_,Y⟩,k.trans k3,dm.trans d3,kk3,r3.eqv λp j=>?_⟩⟩⟩;rw[zaT hy];exact⟨λ⟨⟨a,b⟩,c⟩=>⟨a,λd=>d.2.elim (λe=>b ⟨d.1,e⟩) λe=>c ⟨d.1,e⟩⟩,λ⟨a,b⟩=>⟨⟨a,λc=>b ⟨c.1,.inl c.2⟩⟩,λc=>b ⟨c.1,.inr c.2⟩⟩⟩
  ·rintro σ H' ⟨⟨o3,o4,rfl⟩,k,dm,kk',hr'⟩;rw[bL px,dL] at hr';obtain⟨lb',F4,h4⟩:=h3.regrow Y k dm (hr'.eqv (P':=tu (yg ld ac)) λp i=>⟨λ⟨⟨e,he,ei,ep⟩,z⟩=>⟨e,sr.mpr ⟨he,λy=>z ⟨ei.symm.trans y,by rw[Qd nl he hm y] at ep;exact ep⟩⟩,ei,ep⟩,λ⟨e,he,ei,ep⟩=>⟨⟨e,(sr.mp he).1,ei,ep⟩,λz=>(sr.mp he).2 (ei.trans z.1)⟩⟩);have F5:=F3.trans F4;exact⟨_,Y,q r H' lb' _ db3 F5 h4 (wV hl F5 (.inr ())).drop hd3⟩
 have mem:∀x,x∈db->x≠ac->x∈(yg ld ac).map (·.1):=λx hx n=>by
  obtain⟨e,he,rfl⟩:=bC.mp (hd.su x hx);exact bt (f:=λe:Int×hZ×List aQ=>e.1) (sr.mpr ⟨he,n⟩)
 have h7:H2 a.db=U (.dK (dbL db)):=h2.at (i:=7) rfl;refine(yd (h2.at (i:=2) Y) Bq.cJ Bq.j4 Y Y ⟨a.db,Y,.inl ⟨_,.inl h7⟩,_,Y,dbL db,.inl ac,h7,Y,λv _=>?_,λz=>?_⟩)
 ·rw[zcB];have h4:=h2.put (i:=7) (o':=.dK (dbL (db.filter λy=>decide (y≠ac)))) Y Y ();have F4:=h2.fput (i:=7) (o':=.dK (dbL (db.filter λy=>decide (y≠ac)))) Y ();exact fin _ _ (F2.trans F4) h4 ⟨hd.nd.sublist de,λx hx=>mem x (cr.mp hx).1 (of_decide_eq_true (cr.mp hx).2)⟩
 ·exact fin _ _ F2 h2 ⟨hd.nd,λx hx=>mem x hx λe=>by rw[<-e,zfi hx] at z;cases z⟩
end
section
variable {H':Hp}{lb lb':L->Nat}{Bp:List (L×HO)}{m re d b:L}{a:tI}{g:List aQ}{lays:List (Int×List aQ)}{P:Pl->Int->Prop}{cs en:List V}{CC:List (List Cs)}{n f ac:Int}{ws db:List Int}{kv la:List (aV×V)}{o o' wo:HO}{i:Nat}{r:L}{no gi:List aQ}{ld:List (Int×hZ×List aQ)}{s:hZ}
open Classical in
theorem sF.relay{F':L->Prop}{lays':List (Int×List aQ)}(h:sF t H lb Bp m re g lays P cs CC)(ll:Bp.length=9)(k:∀b o,lb b≠10->H b=U o->H' b=U o)(ts:tw H H')(M:sO t H' m F' g lays')(f1:∀b,F' b->lb b=10\/H b=ao)(f2:∀b,lb b=10->F' b):∃lb',Fr M1 H H' lb lb'/\sF t H' lb' Bp m re g lays' P cs CC:=by
 have e0:∀b,lb b≠0->¬ lb b=10->¬ F' b:=λb z y w=>(f1 b w).elim y λv=>by obtain⟨o,e⟩:=h.ow b z;rw[v] at e;cases e
 have ex:∀b,lb b≠0->(if F' b then 10 else lb b)=lb b:=λb z=>by
  by_cases y:lb b=10
  ·rw[au (f2 b y),y]
  ·rw[ap (e0 b z y)]
 have e10:(λb=>(if F' b then 10 else lb b)=10)=F':=funext λb=>propext ⟨λz=>by
  by_cases y:F' b
  ·exact y
  ·rw[ap y] at z;exact f2 b z,λz=>au z⟩
 have al:∀b o,H b=U o->∃o',H' b=U o':=λb o e=>by
  by_cases y:lb b=10
  ·exact M.own b (f2 b y)
  ·exact⟨o,k b o y e⟩
 have rl:=h.rl;obtain⟨kk,r0⟩:=h.rr;refine⟨λb=>if F' b then 10 else lb b,⟨λb o e=>?_,λb o z e=>k b o (by unfold M1 at z;lia) e,ts,al⟩,λi b o e=>?_,by rw[e10];exact M,⟨kk,r0.keep rl (λb o fb e=>k b o () e) λb z=>(ex b ()).trans z⟩,(ex _ ()).trans rl,Paired.mapP h.cc λv C ⟨⟨c,ys,ev,hc,pc⟩,lc⟩=>⟨⟨c,ys,ev,k c _ (by rw[lc c ev];decide) hc,xP ts pc⟩,λc ev=>(ex c (by rw[lc c ev];decide)).trans (lc c ev)⟩,λb hb=>?_⟩
 ·by_cases y:F' b
  ·rw[au y];exact((f1 b y).resolve_right λz=>by rw[z] at e;cases e).symm
  ·rw[ap y]
 ·obtain⟨h1,h2⟩:=h.ob i b o e;have:=(bn.mp e).1;exact⟨k b o () h1,(ex b ()).trans h2⟩
 ·by_cases y:F' b
  ·exact M.own b y
  ·obtain⟨o,e⟩:=h.ow b (λz=>hb ((ap y).trans z));exact al b o e
theorem zg3(h:Paired (zde H) ys (sE gs)):∀y∈ys,∃c q,y=.ref c/\H c=U (.tup ((zC q).map kV)):=λy hy=>by
 obtain⟨i,hi⟩:=cM hy;obtain⟨kv,hk,c,e,hc⟩:=Paired.getP h hi;obtain⟨qs,eq,_⟩:=zaL gs;have z:=bt (f:=λx:List aV×V=>x.1) (bS hk);rw[eq] at z;obtain⟨q,_,e2⟩:=bC.mp z;exact⟨c,q,e,by rw[e2];exact hc⟩
theorem zfj{ys:List V}{gs:List aQ}(h:Paired (zde H) ys (sE gs))(nd:(gs.map (·.1)).Nodup):ys.length=gs.length:=by rw[bL h,X1 nd,bf]
def ptI(a:tI)(r:L)(ac:Int)(l:L)(G:L->Prop)(P:Pl->Int->Prop)(no:List aQ)(H:Hp)(i:Nat)(σ:St)(H':Hp):Prop:=(∃o4 o5,σ=[U (.ref a.jb),U (.int ac),U (.ref r),U (.ref l),o4,o5])/\hU G a.re H H'/\Dm H H'/\∃kk,sw H' a.re G (λp j=>P p j\/j=ac/\p∈(no.take i).map (·.1)) kk
theorem Xr(Bq:DkF K t)(h:sF t H lb (tG t d a n f wo cs ws kv la db en) a.mks a.re g lays (tu ld) cs CC)(hl:Pk (Xd H lb) la ld)(hd:sK ld db)(nts:∀e∈ld,zbN e.2.1.no e.2.2)(l10:ld.length<=10)(nr:ac ∉ ld.map (·.1))(h0:0<=ac)(ll:lays.length<=10)(hp:tM H lb r s.no gi)(nt:zbN s.no gi)
  (q:∀H' lb' la' db',Fr M1 H H' lb lb'->sF t H' lb' (tG t d a n f wo cs ws kv la' db' en) a.mks a.re g (wQ lays ac gi) (tu (ld++[(ac,s,gi)])) cs CC->Pk (Xd H' lb') la' (ld++[(ac,s,gi)])->sK (ld++[(ac,s,gi)]) db'->Q .non H') :
  kH K t (sA Q) (L2.start ["self","rank","paper","before","place","worth"] [.ref a.jb,.int ac,.ref r]) H:=by
 have e1:H a.jb=U (.ins t.q03 a.dj (V8 a.mks a.la a.re a.db)):=h.at (i:=2) rfl;obtain⟨dx,gr,wo',rk,wk,kx,M⟩:=sU.ex h.ms;refine(yd e1 Bq.cJ Bq.j1 Y Y ⟨a.mks,_,_,Y,M.im,kC (),_,Y,_,_,_,_,_,_,Y,h.ms,λl ys gs H1 s1 hl0 hl1 hy ho=>?_⟩);have ok:WG gs:=ho.elim (λz=>(h.ms.ok _ z).2) λz=>by rw[z.2];exact⟨cw,bT _⟩
 have y63:ys.length<=63:=by rw[zfj hy ok.nd];exact ok.le
 have h1:=h.same Y s1;obtain⟨o,nl,gl,er,ln,lg,z1,z2⟩:=hp.fr (Fr.same (M:=M1) s1) (.inr ());refine(yd (s1 _ _ e1) Bq.cJ Bq.j1 Y Y ⟨a.mks,_,_,Y,s1 _ _ M.im,kC (),_,Y,_,Y,r,_,2,_,Y,Y,sB.of er,Y,_,_,_,_,_,_,_,Y,h1.ms,h0,lg,(λz=>by rw[z2] at z;cases z),⟨nt.ng,bN nt.lg ()⟩,bN ll (),λH2 F2 k2 t2 m2 f2 g2=>?_⟩);obtain⟨lb2,Fr2,h2⟩:=h1.relay Y k2 t2 m2 f2 g2;have F2:=(Fr.same s1).trans Fr2;have e2:H2 a.jb=U (.ins t.q03 a.dj (V8 a.mks a.la a.re a.db)):=h2.at (i:=2) rfl;have hl2:H2 l=U (.lst ys):=Fr2.kp _ _ (.inl (h.out hl0)) hl1;have ky1:=zg3 hy;clear M wk kx;obtain⟨dx,gr,wo',rk,wk,kx,M⟩:=sU.ex h2.ms;refine⟨_,Y,yd e2 Bq.cJ Bq.j1 Y Y ⟨a.mks,_,_,Y,M.im,kC (),_,Y,_,_,_,_,_,_,Y,h2.ms,λl2 ys2 gs2 H3 s3 hl3 hl4 hy2 ho2=>?_⟩⟩;have ok2:WG gs2:=ho2.elim (λz=>(h2.ms.ok _ z).2) λz=>by rw[z.2];exact⟨cw,bT _⟩
 have y63':ys2.length<=63:=by rw[zfj hy2 ok2.nd];exact ok2.le
 have ky2:=zg3 hy2;refine⟨l,l2,ys,ys2,Y,Y,s3 _ _ hl2,hl4,by rw[bG];lia,λp hp4=>?_⟩;generalize c_:upd H3 p _=H4;obtain⟨s4,e4⟩:=yW c_ hp4;have S4:=s3.trans s4;have ky:∀y∈ys++ys2,∃c q,y=.ref c/\H4 c=U (.tup ((zC q).map kV)):=λy hy=>by
  rcases bB.mp hy with z|z
  ·obtain⟨c,q,e,hc⟩:=ky1 y z;exact⟨c,q,e,S4 _ _ (Fr2.ts _ _ hc)⟩
  ·obtain⟨c,q,e,hc⟩:=ky2 y z;exact⟨c,q,e,s4 _ _ hc⟩
 have lp:lb2 p=0:=h2.out (zI s3 hp4);refine⟨p,Y,⟨_,aT.of e4⟩,yI (ys++ys2) (λ_ σ H'=>(∃o4,σ=[U (.ref a.jb),U (.int ac),U (.ref r),U (.ref l),o4,ao])/\Fr M1 H4 H' lb2 lb2/\∃db',sF t H' lb2 (tG t d a n f wo cs ws kv la db' en) a.mks a.re g (wQ lays ac gi) (tu ld) cs CC/\sK ld db') ⟨⟨_,Y⟩,Fr.same (aK.refl _),db,h2.same Y S4,hd⟩ (λi σ H' ⟨_,F,_⟩=>aT.of (F.kp _ _ (.inl lp) e4)) ?_ ?_⟩
 ·rintro i u σ H' hu ⟨⟨o4,rfl⟩,F,db',h',hd'⟩;obtain⟨c,q0,rfl,hc⟩:=ky u (bS hu);exact⟨_,Y,a.jb,_,_,Y,h'.at (i:=2) Y,Y,_,Y,_,Y,⟨d,a,lb2,n,f,wo,cs,ws,kv,la,db',en,g,_,ld,CC⟩,c,ac,q0,Y,h',hd',l10,F.ts _ _ hc,λH6 db6 F6 h6 hd6=>⟨⟨_,Y⟩,F.trans F6,db6,h6,hd6⟩⟩
 ·rintro σ H' ⟨⟨o4,rfl⟩,F,db',h5,hd'⟩;have F5:=F2.trans ((Fr.same S4).trans F);clear F s4 e4 S4 hl4 s3 M F2 h2 e2 hl2 e1 h1 ln lg er ho ho2 ky ky1 ky2 hy hy2 Fr2 lp;have lla:la.length=ld.length:=bL hl;refine⟨_,Y,yd (h5.at (i:=2) Y) Bq.cJ Bq.j2 Y Y ⟨_,Y,a.la,_,Y,.k (k:=.inl ac) (h5.at (i:=6) Y) (by rw[bG];lia),?_⟩⟩;have h6:=h5.put (i:=6) (o':=.dK (yq la (.inl ac) (.ref r))) Y Y ();have F6:=F5.trans (h5.fput (i:=6) (o':=.dK (yq la (.inl ac) (.ref r))) Y ());generalize upd H' a.la (.dK (yq la (.inl ac) (.ref r)))=H6 at *
  clear h5 F5;have h6:sF t H6 lb2 (tG t d a n f wo cs ws kv (yq la (.inl ac) (.ref r)) db' en) a.mks a.re g (wQ lays ac gi) (tu ld) cs CC:=h6;have ldb:=hd'.len;obtain⟨H7,db7,dp,F7',h7,nd7,mm7,_⟩:=h6.dbt ac ();refine(yd (h6.at (i:=2) Y) Bq.cJ Bq.j4 Y Y ⟨_,Y,a.db,H7,Y,dp,?_⟩);have F7:=F6.trans F7';have hd7:sK (ld++[(ac,s,gi)]) db7:=⟨nd7 hd'.nd,λy hy=>by
   rw[bQ,bB];exact((mm7 y).mp hy).imp (hd'.su y) λe=>br.mpr e⟩
  clear h6 F6 F7' dp;obtain⟨o,nl,gl,er,⟨xs,hx,px⟩,lg,z1,z2⟩:=hp.fr F7 (.inr ());have e1:H7 a.jb=U (.ins t.q03 a.dj (V8 a.mks a.la a.re a.db)):=h7.at (i:=2) rfl;have rl:=h7.rl;obtain⟨kk,r0⟩:=h7.rr;refine⟨_,Y,r,_,1,_,Y,Y,sB.of er,Y,nl,Y,⟨_,aT.of hx⟩,yI xs (ptI a r ac l (λb=>lb2 b=11\/H7 b=ao) (tu ld) s.no H7) ⟨⟨_,_,Y⟩,hU.refl,Dm.refl,kk,(r0.keep (F':=λb=>lb2 b=11\/H7 b=ao) rl (λb o _ e=>e) λ_ z=>.inl z).eqv λp i=>by simp⟩ (λi σ H' ⟨_,k,_⟩=>aT.of (k _ _ hx (λz=>by rw[z,rl] at z1;cases z1) (.inr λz=>z.elim (λy=>by rw[z1] at y;cases y) λy=>by rw[hx] at y;cases y))) ?_ ?_⟩
  ·rintro i u σ H' hu ⟨⟨o3,o4,rfl⟩,k,dm,kk',hr'⟩;obtain⟨y,hy,w,p,rfl,ew,ep⟩:=Paired.getP px hu;have tk:∀b zs,H7 b=U (.tup zs)->H' b=U (.tup zs):=λb zs e=>k _ _ e (zJ e r0.at_ ()) (.inl λ_ z=>nomatch z);refine⟨w,_,Y,sB.of (tk _ _ ew),Y,_,_,Y,_,_,Y,Y,?_⟩;have np:=zcC nt.nd hy;have sub:∀ {p:Pl},p∈(s.no.take i).map (·.1)->p∈s.no.map (·.1):=λz=>by
    obtain⟨x,hx,rfl⟩:=bC.mp z;exact bt (dq hx)
   have rk:∀p j,tu ld p j->j∈ld.map (·.1):=λp j ⟨e,he,ei,_⟩=>bC.mpr ⟨e,he,ei⟩;refine(yd (k _ _ e1 (zJ e1 r0.at_ ()) (.inl λ_ z=>nomatch z)) Bq.cJ Bq.j3 Y Y ⟨_,Y,_,Y,a.re,p,ac,_,_,kk',y.1,Y,hr',.inl rl,λb z=>.inr ?_,tk _ _ ep,λz=>z.elim (λz=>nr (rk _ _ z)) λz=>np z.2,?_,λrs hp ha=>?_,λH3 kk3 k3 d3 r3=>⟨⟨_,_,Y⟩,k.trans k3,dm.trans d3,kk3,r3.eqv λp j=>?_⟩⟩)
   ·cases e:H7 b with
    |none=>rfl
    |some o=>obtain⟨o',e',_⟩:=dm b o e;rw[z] at e';cases e'
   ·refine zfc (l:=ld.map (λe=>(e.1,e.2.1.no))++[(ac,s.no)]) hr' (λp r z=>?_) (λy hy=>?_) (by rw[bF,bf];show _+1<=300;lia)
    ·rcases z with ⟨e,he,ei,ep⟩|z
     ·exact⟨e.2.1.no,cy _ (bC.mpr ⟨e,he,by rw[<-ei]⟩),ep⟩
     ·exact⟨s.no,bP _ (by rw[z.1];exact br.mpr Y),sub z.2⟩
    ·rcases bB.mp hy with z|z
     ·obtain⟨e,he,rfl⟩:=bC.mp z;exact⟨(nts e he).nd,bN (nts e he).ln ()⟩
     ·cases br.mp z;exact⟨nt.nd,bN nt.ln ()⟩
   ·have:=xS (b:=ld.map (·.1)) (hp.imp λz=>rq z) λx hx=>(ha x hx).elim (rk _ _) λz=>absurd z.2 np;rw[bf] at this;lia
   ·rw[zaT hy,and_or_left,or_assoc]
  ·rintro σ H' ⟨⟨o3,o4,rfl⟩,k,dm,kk',hr'⟩;rw[bL px,dL] at hr';obtain⟨lb',F8,h8⟩:=h7.regrow Y k dm (hr'.eqv (P':=tu (ld++[(ac,s,gi)])) λp i=>⟨λz=>z.elim (λ⟨e,he,z⟩=>⟨e,cy _ he,z⟩) λz=>⟨_,bP _ (br.mpr Y),z.1.symm,z.2⟩,λ⟨e,he,z⟩=>(bB.mp he).imp (λhe=>⟨e,he,z⟩) λhe=>by cases br.mp he;exact⟨z.1.symm,z.2⟩⟩);have F9:=F7.trans F8;exact q H' lb' _ db7 F9 h8 ((wV hl F9 (.inr ())).put nr ⟨r,Y,hp.fr F9 (.inr ())⟩) hd7
end
section
variable {f n:Int}{g:List aQ}{CC:List (List Cs)}{S:DS}{r:Int}{k m:Nat}
theorem rks_mem:r∈vN f k m↔∃j:Nat,r=f+j/\k<=j/\j<m:=by
 unfold vN;rw[bC];constructor
 ·rintro⟨i,hi,rfl⟩;rw[List.mem_range] at hi;exact⟨k+i,(),(),()⟩
 ·rintro⟨j,rfl,h1,h2⟩;exact⟨j-k,by rw[List.mem_range];lia,()⟩
theorem zfk:(vN f k m).Nodup:=by
 unfold vN;refine List.Pairwise.map _ (λa b (h:a≠b)=>?_) rE;lia
theorem mt.rk(h:mt n f g CC S)(m:r∈S.ws++(S.hl.map (·.2.1)++S.ld.map (·.1))):∃j:Nat,r=f+j/\S.en<=j/\j<CC.length:=rks_mem.mp (h.pm.mem_iff.mp m)
theorem mt.rw_(h:mt n f g CC S)(m:r∈S.ws):∃j:Nat,r=f+j/\S.en<=j/\j<CC.length:=h.rk (cy _ m)
theorem mt.rh(h:mt n f g CC S){e:Int×Int×Nat×hZ}(m:e∈S.hl):∃j:Nat,e.2.1=f+j/\S.en<=j/\j<CC.length:=h.rk (bP _ (cy _ (bt (f:=λe:Int×Int×Nat×hZ=>e.2.1) m)))
theorem mt.rl(h:mt n f g CC S)(m:r∈S.ld.map (·.1)):∃j:Nat,r=f+j/\S.en<=j/\j<CC.length:=h.rk (bP _ (bP _ m))
theorem mt.nd(h:mt n f g CC S):S.ws.Nodup/\((S.hl.map (·.2.1)).Nodup/\(S.ld.map (·.1)).Nodup/\∀x∈S.hl.map (·.2.1),∀y∈S.ld.map (·.1),x≠y)/\∀x∈S.ws,∀y∈S.hl.map (·.2.1)++S.ld.map (·.1),x≠y:=by
 have z:=h.pm.nodup_iff.mpr zfk;rw[cV,cV] at z;exact z
theorem mt.len(h:mt n f g CC S):S.ws.length+(S.hl.length+S.ld.length)+S.en=CC.length:=by
 have z:=h.pm.length_eq;have:=h.el;unfold vN at z;simp only[bF,bf,fA] at z;lia
end
section
variable {H':Hp}{lb lb':L->Nat}{Bp:List (L×HO)}{m re d b dx:L}{a:tI}{g:List aQ}{lays:List (Int×List aQ)}{P:Pl->Int->Prop}{cs en:List V}{CC:List (List Cs)}{C:List Cs}{n f h0 ac:Int}{ws db:List Int}{kv la:List (aV×V)}{o o' wo:HO}{i k:Nat}{hl:List (Int×Int×Nat×hZ)}{S:DS}{v:V}{s:hZ}{M:Nat->Prop}
theorem X2(Bq:DkF K t)(h:H d=U (.ins t.q01 dx (Xc a n f)))(h2:H a.en=U (.lst en))(q:Q (.int (f+en.length)) H) :
  qD K t (sA Q) (L2.start ["self"] [.ref d]) H:=(yd h Bq.cD Bq.d3 Y Y (yd h Bq.cD Bq.d9 Y Y ⟨.ref a.en,en.length,Y,.inl ⟨_,aT.of h2,Y⟩,_,_,Y,Y,q⟩))
theorem YI(Bq:DkF K t)(h:H d=U (.ins t.q01 dx (Xc a n f)))(h2:H a.cl=U (.lst cs))(q:Q (.int (f+cs.length)) H) :
  jH K t (sA Q) (L2.start ["self"] [.ref d]) H:=(yd h Bq.cD Bq.d3 Y Y (yd h Bq.cD Bq.d4 Y Y ⟨.ref a.cl,cs.length,Y,.inl ⟨_,aT.of h2,Y⟩,_,_,Y,Y,q⟩))
theorem VL{x l:L}(h:H l=U (.lst (ws.map V.int)))(h1:ws≠[])(q:∀w∈ws,Q (.int w) H):Ye K t (sA Q) (L2.start ["self","ranks"] [.ref x,.ref l]) H:=by
 cases ws with
 |nil=>exact absurd Y h1
 |cons w ws=>exact⟨_,Y,l,_,0,_,Y,Y,aT.of h,by simp[tE,ixN],q w bo⟩
theorem YJ{x l:L}(h:H l=U (.lst (ws.map V.int)))(h1:ws≠[])(q:∀w∈ws,Q (.int w) H):jI K t (sA Q) (L2.start ["self","ranks"] [.ref x,.ref l]) H:=by
 refine⟨_,Y,1,Y,l,_,-1,.int (ws.getLast h1),Y,Y,aT.of h,?_,q _ (List.getLast_mem h1)⟩;have z:ws.map V.int=ws.dropLast.map V.int++[V.int (ws.getLast h1)]:=by rw[<-List.map_singleton,<-bQ,List.dropLast_concat_getLast]
 rw[z];exact L2.atI_last _ _
open Classical in
theorem sF.relab{N:L->Prop}(n:Nat)(hn:13<=n)(h:sF t H lb Bp m re g lays P cs CC)(s:aK H H')(hN:∀b,N b->H b=ao/\∃o,H' b=U o):∃lb',Fr M H H' lb lb'/\sF t H' lb' Bp m re g lays P cs CC/\∀b,N b->lb' b=n:=by
 have l0:∀b,N b->lb b=0:=λb z=>h.out (hN b z).1;have ex:∀b,lb b≠0->(if N b then n else lb b)=lb b:=λb z=>ap λy=>z (l0 b y);have e10:(λb=>(if N b then n else lb b)=10)=λb=>lb b=10:=funext λb=>propext (by
  by_cases y:N b
  ·rw[au y,l0 b y];lia
  ·rw[ap y])
 have rl:=h.rl;obtain⟨kk,r0⟩:=h.rr;refine⟨λb=>if N b then n else lb b,⟨λb o e=>ap (λy=>by rw[(hN b y).1] at e;cases e),λb o _ e=>s _ _ e,λb zs e=>s _ _ e,λb o e=>⟨o,s _ _ e⟩⟩,⟨λi b o e=>?_,by rw[e10];exact h.ms.same s,⟨kk,r0.keep rl (λb o _ e=>s _ _ e) λb z=>(ex b ()).trans z⟩,(ex _ ()).trans rl,Paired.mapP h.cc λv C ⟨⟨c,ys,ev,hc,pc⟩,lc⟩=>⟨⟨c,ys,ev,s _ _ hc,xB s pc⟩,λc ev=>(ex c (by rw[lc c ev];decide)).trans (lc c ev)⟩,λb hb=>?_⟩,λb z=>au z⟩
 ·obtain⟨h1,h2⟩:=h.ob i b o e;exact⟨s _ _ h1,(ex b ()).trans h2⟩
 ·by_cases y:N b
  ·exact(hN b y).2
  ·obtain⟨o,e⟩:=h.ow b (λz=>hb ((ap y).trans z));exact⟨o,s _ _ e⟩
theorem sF.addC(h:sF t H lb Bp m re g lays P cs CC)(s:aK H H')(hc:H c=ao)(ha:tO H' (.ref c) C):∃lb',Fr M H H' lb lb'/\sF t H' lb' Bp m re g lays P (cs++[.ref c]) (CC++[C]):=by
 obtain⟨c',ys,ec,hy,py⟩:=id ha;cases ec;obtain⟨lb',F,h',z⟩:=h.relab (N:=λb=>b=c) 13 () s λb e=>by rw[e];exact⟨hc,_,hy⟩
 exact⟨lb',F,h'.ob,h'.ms,h'.rr,h'.rl,Paired.snocP h'.cc ⟨ha,λc' e=>by cases e;exact z c Y⟩,h'.ow⟩
theorem aY.fr(R:aY t H x ra C s)(l:∀b,OwA x ra b->lb b=N)(F:Fr M H H' lb lb')(hM:M N):aY t H' x ra C s/\∀b,OwA x ra b->lb' b=N:=by
 have k:∀ {b o},OwA x ra b->H b=U o->H' b=U o:=λ{b o} z e=>F.kp b o (by rw[l b z];exact hM) e;refine⟨⟨k (.inl (.inl Y)) R.ix,let ⟨xs,hx,px⟩:=R.hc;⟨xs,k (.inr Y) hx,xP F.ts px⟩,k (.inl (.inr (.inl Y))) R.hs,k (.inl (.inr (.inr (.inl Y)))) R.hg,k (.inl (.inr (.inr (.inr (.inl Y))))) R.hn,k (.inl (.inr (.inr (.inr (.inr Y))))) R.ha,R.ng,R.nc⟩,λb z=>?_⟩;cases e:H b with
 |none=>exact absurd e (R.has z)
 |some o=>exact(F.ex b o e).trans (l b z)
theorem HdAt.fr{e:Int×Nat×hZ}(h:HdAt t H lb f CC h0 v e)(F:Fr M H H' lb lb')(hM:M (20+h0.toNat)):HdAt t H' lb' f CC h0 v e:=by
 obtain⟨tp,x,ra,C,ev,et,ec,R,l⟩:=h;obtain⟨R',l'⟩:=R.fr l F hM;exact⟨tp,x,ra,C,ev,F.ts _ _ et,ec,R',l'⟩
theorem ZD(h:Pk (HdAt t H lb f CC) kv hl)(F:Fr M H H' lb lb')(hM:∀k:Nat,M (20+k)):Pk (HdAt t H' lb' f CC) kv hl:=Paired.mapP h λ_ _ ⟨e,z⟩=>⟨e,z.fr F (hM _)⟩
theorem Xs(k:Nat):M1 (20+k):=.inr ()
theorem tj.of(h:tj t H d a lb n f g CC S)(k:∀b o,lb b≠0->H b=U o->H' b=U o)(ts:tw H H')(al:∀b o,H b=U o->∃o',H' b=U o'):tj t H' d a lb n f g CC S:=by
 obtain⟨wo,cs,kv,la,db,en,h,hh,hl,z⟩:=h;have F:Fr (λl=>l≠0) H H' lb lb:=⟨λ_ _ _=>rfl,k,ts,al⟩;exact⟨wo,cs,kv,la,db,en,h.keep Y (λb o z _ e=>k b o z e) ts al,ZD hh F (λk=>by lia),wV hl F (),z⟩
theorem tj.same(h:tj t H d a lb n f g CC S)(s:aK H H'):tj t H' d a lb n f g CC S:=h.of (λb o _ e=>s _ _ e) (tw.of s) λb o e=>⟨o,s _ _ e⟩
theorem tj.put(h:tj t H d a lb n f g CC S)(hl:H l=U (.lst xs))(z:lb l=0):tj t (upd H l (.lst ys)) d a lb n f g CC S:=h.of (λb o y e=>by rw[zk (λw=>y (by rw[w];exact z))];exact e) (jn hl λ_ z=>nomatch z) YH
theorem tj.l0(h:tj t H d a lb n f g CC S)(e:H b=ao):lb b=0:=by obtain⟨wo,cs,kv,la,db,en,h,_⟩:=h;exact h.out e
theorem tj.cmp(h:tj t H d a lb n f g CC S):H d=U (.ins t.q01 a.dx (Xc a n f))/\∃cs en,H a.cl=U (.lst cs)/\H a.en=U (.lst en)/\cs.length=CC.length/\en.length=S.en:=by
 obtain⟨wo,cs,kv,la,db,en,h,_,_,_,le,_⟩:=h;exact⟨h.at (i:=0) Y,cs,en,h.at (i:=3) Y,h.at (i:=8) Y,bL h.cc,le⟩
theorem Qe{vs:List V}{_E:XK}(Bq:DkF K t)(h:jE t vs H Q _E) :
  Ws K t (sA Q) (L2.start ["self","code","rank"] vs) H:=by
 obtain⟨d,v,a,lb,n,f,g,CC,C,S,rfl,h1,h,h2,h3,q⟩:=h;obtain⟨wo,cs,kv,la,db,en,h,hh,hl,z⟩:=h;have lc:=bL h.cc;have e1:H d=U (.ins t.q01 a.dx (Xc a n f)):=h.at (i:=0) rfl;obtain⟨c0,ys,rfl,hy,py⟩:=h1;refine(jm e1 Y Y ⟨d,_,a,n,f,cs,Y,e1,h.at (i:=3) Y,?_⟩);rw[lc];refine(yd e1 Bq.cD Bq.d4 Y Y ⟨.inl ⟨Y,_,aT.of (h.at (i:=3) Y)⟩,_,Y,c0,ys,Y,.inl (aT.of hy),λc hc=>?_⟩);generalize c_:upd H c _=H2;obtain⟨s2,e2⟩:=yW c_ hc;obtain⟨lb2,F2,h4⟩:=h.addC (M:=M1) (C:=C) s2 hc ⟨c,ys,Y,e2,xB s2 py⟩;have h5:=h4.put (i:=3) (o':=.lst (cs++[.ref c])) Y Y ();have F5:=F2.trans (h4.fput (i:=3) (o':=.lst (cs++[.ref c])) Y ());refine⟨a.cl,cs,_,Y,Y,h4.at (i:=3) Y,bV (show cs.length<=10 by lia) (by rw[bG];decide),?_⟩;generalize upd H2 a.cl (.lst (cs++[.ref c]))=H5 at *
 have h5:sF t H5 lb2 (tG t d a n f wo (cs++[.ref c]) S.ws kv la db en) a.mks a.re g S.ls (tu S.ld) (cs++[.ref c]) (CC++[C]):=h5;refine(yd (h5.at (i:=0) Y) Bq.cD Bq.d5 Y Y ⟨.inl ⟨Y,_,aT.of (h5.at (i:=4) Y)⟩,_,Y,a.wl,_,_,Y,Y,h5.at (i:=4) Y,bV (by rw[bf];exact h3) (by rw[bG];decide),_,Y,?_⟩);have h6:=h5.put (i:=4) (o':=.lst ((S.ws++[f+CC.length]).map V.int)) Y Y ();have F6:=F5.trans (h5.fput (i:=4) (o':=.lst ((S.ws++[f+CC.length]).map V.int)) Y ());rw[bQ] at h6 F6;refine q _ lb2 F6.m0 ⟨wo,_,kv,la,db,en,by rw[tG,zdh,bQ];exact h6,Paired.mapP (ZD hh F6 Xs) λ_ _ ⟨e,tp,x,ra,C,ev,et,ec,z⟩=>⟨e,tp,x,ra,C,ev,et,?_,z⟩,wV hl F6 (.inr ()),z⟩;rw[cT (bn.mp ec).1];exact ec
end
section
variable {H':Hp}{lb lb':L->Nat}{d b dx:L}{a:tI}{g:List aQ}{cs en:List V}{CC:List (List Cs)}{C:List Cs}{n f h0 ac w:Int}{ws db:List Int}{kv la:List (aV×V)}{o o' wo:HO}{i k:Nat}{r:L}{hl:List (Int×Int×Nat×hZ)}{S:DS}{v:V}{M:Nat->Prop}
theorem Yh(q:L)(h:H b=U (.tup (.str (evW e)::.int h0::evX q e)))(p:∀p,evP e=U p->H q=U (.tup [.str p.1,.int p.2])):sV H (.ref b) (h0,e):=⟨b,q,Y,h,p⟩
theorem VM(Bq:DkF K t)(h:tj t H d a lb n f g CC S)(ok:mt n f g CC S)(fr:h0 ∉ S.hl.map (·.1))(hw:w∈S.ws)(q:∀v H' lb',Fr M0 H H' lb lb'->sV H' v (h0,.take w)->tj t H' d a lb' n f g CC { S with ws:=S.ws.erase w,hl:=S.hl++[(h0,w,0,st0)] }->Q v H') :
  jd K t (sA Q) [U (.ref d),U (.int h0),U (.int w)] H:=by
 obtain⟨wo,cs,kv,la,db,en,h,hh,hl,hd,le,wy⟩:=h;obtain⟨k,rfl,_,hk⟩:=ok.rw_ hw;have l5:=ok.cc.le;have ln:=ok.len;have e1:H d=U (.ins t.q01 a.dx (Xc a n f)):=h.at (i:=0) rfl;refine(yd e1 Bq.cD Bq.d5 Y Y ⟨.inl ⟨Y,_,aT.of (h.at (i:=4) Y)⟩,_,Y,a.wl,_,f+k,Y,Y,h.at (i:=4) Y,hw,?_⟩);have h3:=h.put (i:=4) (o':=.lst ((S.ws.erase (f+k)).map V.int)) Y Y ();have F3:=h.fput (i:=4) (o':=.lst ((S.ws.erase (f+k)).map V.int)) Y ();generalize upd H a.wl (.lst ((S.ws.erase (f+k)).map V.int))=H3 at *
 have h3:sF t H3 lb (tG t d a n f wo cs (S.ws.erase (f+k)) kv la db en) a.mks a.re g S.ls (tu S.ld) cs CC:=h3;have e3:H3 d=U (.ins t.q01 a.dx (Xc a n f)):=h3.at (i:=0) rfl;obtain⟨v,hv⟩:∃v,cs[k]?=U v:=⟨_,bb (by rw[bL h3.cc];exact hk)⟩;obtain⟨C,hC,⟨c,ys,rfl,hc,pc⟩,_⟩:=Paired.getP h3.cc hv;refine⟨_,Y,yd e3 Bq.cD Bq.d4 Y Y ⟨_,Y,yd e3 Bq.cD Bq.d3 Y Y ⟨_,_,Y,Y,a.cl,cs,k,_,Y,congrArg V.int (),aT.of (h3.at (i:=3) Y),yp hv,?_⟩⟩⟩;intro x dx hx hdx n';have s4:aK H3 (upd (upd H3 dx (HO.own x)) x (HO.ins t.q00 dx [])):=λb o e=>by rw[zk (zy e hx),zk (zy e hdx)];exact e
 refine⟨x,c,dx,ys,C,Y,zh,s4 _ _ hc,xB s4 pc,λH5 ra k5 R5 fr5=>?_⟩;obtain⟨s5,ow⟩:=ze9 (aK.refl H3) hx hdx k5 fr5;obtain⟨lb5,F5,h5,l20⟩:=h3.relab (M:=M1) (N:=OwA x ra) (20+h0.toNat) () s5 λb z=>⟨ow b z,by
  cases e:H5 b with
  |none=>exact absurd e (R5.has z)
  |some o=>exact⟨o,Y⟩⟩
 refine⟨Y,by show 2<=Bb;rw[bG];decide,λtp ht=>?_⟩;generalize c_:upd H5 tp _=H6;obtain⟨s6,e6⟩:=yW c_ ht;have h6:=h5.same Y s6;have F6:=(F3.trans F5).trans (Fr.same s6);have R6:=R5.same s6;clear h5 R5 h3 F3 F5 s4 k5 fr5 s5;have lkv:kv.length=S.hl.length:=bL hh;refine(yd (h6.at (i:=0) Y) Bq.cD Bq.d6 Y Y ⟨_,Y,a.hd,_,Y,.k (k:=.inl h0) (h6.at (i:=5) Y) (by rw[bG];lia),?_⟩);have h7:=h6.put (i:=5) (o':=.dK (yq kv (.inl h0) (.ref tp))) Y Y ();have F7':=h6.fput (i:=5) (o':=.dK (yq kv (.inl h0) (.ref tp))) Y ();generalize upd H6 a.hd (.dK (yq kv (.inl h0) (.ref tp)))=H7 at *
 have h7:sF t H7 lb5 (tG t d a n f wo cs (S.ws.erase (f+k)) (yq kv (.inl h0) (.ref tp)) la db en) a.mks a.re g S.ls (tu S.ld) cs CC:=h7;have F7:=F6.trans F7';obtain⟨R7,l7⟩:=R6.fr l20 F7' (Xs _);refine⟨_,Y,_,Y,by show 3<=Bb;rw[bG];decide,λp hp=>?_⟩;have s8:=sJ (o:=HO.tup [V.str "take",V.int h0,V.int (f+k)]) p hp;have F8:=F7.trans (Fr.same s8);exact q (.ref p) _ lb5 F8.m0 (Yh p zh λ_ z=>nomatch z) ⟨wo,cs,_,la,db,en,h7.same Y s8,(ZD hh F8 Xs).put fr ⟨tp,x,ra,C,Y,s8 _ _ (F7'.ts _ _ e6),by rw[show (f+(k:Int)-f).toNat=k by lia];exact hC,R7.same s8,l7⟩,wV hl F8 (.inr ()),hd,le,wy⟩
theorem Xt{vs:List V}{_E:XK}(Bq:DkF K t)(h:wS t vs H Q _E) :
  kG K t (sA Q) (L2.start ["self","hand","rank"] vs) H:=by
 obtain⟨d,a,lb,n,f,h0,g,CC,S,rfl,h,ok,fr,wn,q⟩:=h;have G:=h;obtain⟨wo,cs,kv,la,db,en,h,hh,hl,hd,le,wy⟩:=h;have e1:H d=U (.ins t.q01 a.dx (Xc a n f)):=h.at (i:=0) rfl;have ew:H a.wy=U wo:=h.at (i:=1) rfl;rcases wy with rfl|rfl
 ·refine yd e1 Bq.cD Bq.d2 Y Y ⟨a.wy,_,_,_,_,Y,ew,Y,.tail _ (.head _),yd e1 Bq.cD Bq.d5 Y Y ⟨a.wl,_,Y,.inl (aT.of (h.at (i:=4) Y)),λl hl0=>⟨a.wy,l,_,Y,zh,wn,λw hw=>?_⟩⟩⟩;have s2:=sJ (o:=HO.lst (S.ws.map V.int)) l hl0;exact VM Bq (G.same s2) ok fr hw λv H' lb' F=>q v H' lb' w ((Fr.same s2).trans F) hw
 ·refine yd e1 Bq.cD Bq.d2 Y Y ⟨a.wy,_,_,_,_,Y,ew,Y,.head _,yd e1 Bq.cD Bq.d5 Y Y ⟨a.wl,_,Y,.inl (aT.of (h.at (i:=4) Y)),λl hl0=>⟨a.wy,l,_,Y,zh,wn,λw hw=>?_⟩⟩⟩;have s2:=sJ (o:=HO.lst (S.ws.map V.int)) l hl0;exact VM Bq (G.same s2) ok fr hw λv H' lb' F=>q v H' lb' w ((Fr.same s2).trans F) hw
end
section
variable {H':Hp}{lb lb':L->Nat}{m d b u:L}{a:tI}{g:List aQ}{cs en:List V}{CC:List (List Cs)}{n f h0 w:Int}{ws db:List Int}{kv la:List (aV×V)}{o o' wo:HO}{i k:Nat}{r:Int}{gi:List aQ}{hl:List (Int×Int×Nat×hZ)}{S:DS}{v:V}{s:hZ}{y:aQ}{qa:L}{R:St->Hp->Prop}
theorem zcD(Bq:DkF K t)(h:tj t H d a lb n f g CC S)(ok:mt n f g CC S)(fr:h0 ∉ S.hl.map (·.1))(hm:(f+(S.en:Int),s,gi)∈S.ld)(q:mvP t H d a lb n f h0 g CC S Q) :
  vh K t { nx:=λσ H'=>R σ H',rt:=Q } [U (.ref d),U (.int h0),U (.int (f+S.en)),U v] H:=by
 obtain⟨wo,cs,kv,la,db,en,h,hh,hl,hd,le,wy⟩:=h;have e1:H d=U (.ins t.q01 a.dx (Xc a n f)):=h.at (i:=0) rfl;have l5:=ok.cc.le;have ln:=ok.len;refine(yd e1 Bq.cD Bq.d9 Y Y ⟨.inl ⟨Y,_,aT.of (h.at (i:=8) Y)⟩,yd e1 Bq.cD Bq.d8 Y Y ⟨a.jb,_,_,Y,h.at (i:=2) Y,Y,_,Y,⟨d,a,lb,n,f,wo,cs,S.ws,kv,la,db,en,g,S.ls,S.ld,CC⟩,f+S.en,s,gi,Y,h,hl,hd,ok.nd.2.1.2.1,hm,(ok.nt _ hm).nd,λr H3 lb3 la3 db3 F3 h3 hl3 hd3=>?_⟩⟩);refine⟨a.en,en,_,Y,Y,h3.at (i:=8) Y,bV (show en.length<=5 by lia) (by rw[bG];decide),?_⟩;have h4:=h3.put (i:=8) (o':=.lst (en++[.ref r])) Y Y ();have F4':=h3.fput (i:=8) (o':=.lst (en++[.ref r])) Y ();generalize upd H3 a.en (.lst (en++[.ref r]))=H4 at *
 have h4:sF t H4 lb3 (tG t d a n f wo cs S.ws kv la3 db3 (en++[.ref r])) a.mks a.re g S.ls (tu (yg S.ld (f+S.en))) cs CC:=h4;refine⟨_,Y,_,Y,by show 3<=Bb;rw[bG];decide,λp hp=>?_⟩;have s5:=sJ (o:=HO.tup [V.str "settle",V.int h0,V.int (f+S.en)]) p hp;have F5':=F4'.trans (Fr.same s5);have F5:=F3.trans F5';exact q _ _ lb3 _ _ F5.m0 (Yh (e:=.settle (f+S.en)) p zh λ_ z=>nomatch z) (.settle hm fr) ⟨wo,cs,kv,la3,db3,en++[.ref r],h4.same Y s5,ZD hh F5 Xs,wV hl3 F5' (.inr ()),hd3,by rw[bF,le];rfl,wy⟩
theorem zhV(k:Nat):(ws.take k++r::ws.drop k).Perm (r::ws):=by
 refine List.perm_middle.trans ?_;rw[eU]
theorem zhW(so:ws.Pairwise (· < ·))(nr:r ∉ ws)(h1:∀x∈ws.take k,x<r)(h2:∀x∈ws.drop k,r<=x):(ws.take k++r::ws.drop k).Pairwise (· < ·):=by
 have z:=so;rw[<-eU k ws,gD] at z;refine gD.mpr ⟨z.1,List.pairwise_cons.mpr ⟨λx hx=>?_,z.2.1⟩,λx hx y hy=>?_⟩
 ·have:=h2 x hx;have:r≠x:=λe=>nr (by rw[e];exact cW hx);lia
 ·rcases bD.mp hy with rfl|hy
  ·exact h1 x hx
  ·exact z.2.2 x hx y hy
theorem zcE(Bq:DkF K t)(h:tj t H d a lb n f g CC S)(ok:mt n f g CC S)(fr:h0 ∉ S.hl.map (·.1))(hm:(r,s,gi)∈S.ld)(hy:y∈s.no)(hn:yj g S.ls y.1 r≠y.2)(hu:H u=U (.tup [.int r,.ref qa,.int y.2,.int (yj g S.ls y.1 r)]))(hq:H qa=U (.tup [.str y.1.1,.int y.1.2]))(q:mvP t H d a lb n f h0 g CC S Q){o2:Option V} :
  vg K t { nx:=λσ H'=>R σ H',rt:=Q } [U (.ref d),U (.int h0),o2,U (.ref u)] H:=by
 obtain⟨wo,cs,kv,la,db,en,h,hh,hl,hd,le,wy⟩:=h;have l5:=ok.cc.le;have ln:=ok.len;have nr:r ∉ S.ws:=λz=>ok.nd.2.2 r z r (bP _ (bt (f:=λe:Int×hZ×List aQ=>e.1) hm)) rfl;refine(yd (h.at (i:=0) Y) Bq.cD Bq.d8 Y Y ⟨a.jb,_,_,Y,h.at (i:=2) Y,Y,_,Y,u,_,0,_,Y,Y,sB.of hu,Y,⟨d,a,lb,n,f,wo,cs,S.ws,kv,la,db,en,g,S.ls,S.ld,CC⟩,r,s,gi,Y,h,hl,hd,ok.nd.2.1.2.1,hm,(ok.nt _ hm).nd,λr' H3 lb3 la3 db3 F3 h3 hl3 hd3=>?_⟩);have h3:sF t H3 lb3 (tG t d a n f wo cs S.ws kv la3 db3 en) a.mks a.re g S.ls (tu (yg S.ld r)) cs CC:=h3;have e3:H3 d=U (.ins t.q01 a.dx (Xc a n f)):=h3.at (i:=0) rfl;have hu3:=F3.ts _ _ hu;refine(yd e3 Bq.cD Bq.d5 Y Y ⟨.inl ⟨Y,_,aT.of (h3.at (i:=4) Y)⟩,yd e3 Bq.cD Bq.d5 Y Y ⟨_,Y,u,_,0,_,Y,Y,sB.of hu3,Y,a.wl,S.ws,r,Y,h3.at (i:=4) Y,ok.so,λk H4 s4 hk k1 k2=>?_⟩⟩);have h4:=h3.same Y s4;have hu4:=s4 _ _ hu3;refine⟨_,Y,u,_,0,_,Y,Y,sB.of hu4,Y,a.wl,_,k,_,Y,Y,h4.at (i:=4) Y,by rw[bf];exact hk,by rw[bf];lia,?_⟩;have em:(S.ws.map V.int).take k++V.int r::(S.ws.map V.int).drop k=(S.ws.take k++r::S.ws.drop k).map V.int:=by rw[bQ,bw,nu,nh]
 rw[em];have h5:=h4.put (i:=4) (o':=.lst ((S.ws.take k++r::S.ws.drop k).map V.int)) Y Y ();have F5':=(Fr.same s4).trans (h4.fput (i:=4) (o':=.lst ((S.ws.take k++r::S.ws.drop k).map V.int)) Y ());generalize upd H4 a.wl (.lst ((S.ws.take k++r::S.ws.drop k).map V.int))=H5 at *
 have h5:sF t H5 lb3 (tG t d a n f wo cs (S.ws.take k++r::S.ws.drop k) kv la3 db3 en) a.mks a.re g S.ls (tu (yg S.ld r)) cs CC:=h5;refine⟨_,Y,by show 2<=Bb;rw[bG];decide,λp1 hp1=>?_⟩;generalize c_:upd H5 p1 _=H6;obtain⟨s6,e6⟩:=yW c_ hp1;refine⟨_,Y,p1,u,_,_,Y,Y,sB.of e6,sB.of (s6 _ _ (F5'.ts _ _ hu3)),(),by show 2+4<=Bb;rw[bG];decide,(),λ_ p hp=>?_⟩;have s7:=sJ (o:=HO.tup [V.str "again",V.int h0,V.int r,V.ref qa,V.int y.2,V.int (yj g S.ls y.1 r)]) p hp;have F7':=F5'.trans (Fr.same (s6.trans s7));have F7:=F3.trans F7';exact q _ _ lb3 _ _ F7.m0 (Yh (e:=.again r y.1 y.2 _) qa zh λp e=>by cases e;exact F7.ts _ _ hq) (.again hm hy hn (zhV k) (zhW ok.so nr k1 k2) fr) ⟨wo,cs,kv,la3,db3,en,h5.same Y (s6.trans s7),ZD hh F7 Xs,wV hl3 F7' (.inr ()),hd3,le,wy⟩
theorem zgz(Bq:DkF K t)(h:tj t H d a lb n f g CC S)(ok:mt n f g CC S)(fr:h0 ∉ S.hl.map (·.1))(hm:f+(S.en:Int) ∉ S.ld.map (·.1))(q:mvP t H d a lb n f h0 g CC S Q){o2 o3:Option V} :
  vi K t (sA Q) [U (.ref d),U (.int h0),o2,o3] H:=by
 have G:=h;obtain⟨wo,cs,kv,la,db,en,h,_⟩:=h;refine(yd (h.at (i:=0) Y) Bq.cD Bq.d5 Y Y ⟨by show 0<=Bb;exact bT _,λz hz=>?_⟩);have s3:=sJ (o:=HO.lst []) z hz;have h3:=h.same Y s3;have G3:=G.same s3;refine⟨a.wl,z,_,Y,Y,aT.of (h3.at (i:=4) Y),aT.of zh,_,Y,?_⟩;generalize upd H z (.lst [])=H3 at *
 cases ew:S.ws with
 |nil =>
  refine ye Y ⟨_,Y,by show 2<=Bb;rw[bG];decide,λp hp=>?_⟩;have s4:=sJ (o:=HO.tup [V.str "rest",V.int h0]) p hp;exact q _ _ lb _ _ (Fr.same (s3.trans s4)) (Yh (e:=.rest) p zh λ_ z=>nomatch z) (.rest ew hm fr) (G3.same s4)
 |cons x xs=>exact yv Y (jm (h3.at (i:=0) Y) Y Y ⟨_,Y,d,a,lb,n,f,h0,g,CC,S,Y,G3,ok,fr,(by rw[ew];exact λz=>nomatch z),λv H4 lb4 r F4 hr ev G4=>q v H4 lb4 _ _ ((Fr.same s3).trans F4) ev (.take hr fr) G4⟩)
theorem ZY{vs:List V}{_E:XK}(Bq:DkF K t)(h:xM t vs H Q _E) :
  je K t (sA Q) (L2.start ["self","hand","lowest","changed"] vs) H:=by
 obtain⟨d,a,lb,n,f,h0,g,CC,S,rfl,h,ok,fr,q⟩:=h;obtain⟨wo,cs,kv,la,db,en,h,hh,hl,hd,le,wy⟩:=h;have l5:=ok.cc.le;have ln:=ok.len;have e1:H d=U (.ins t.q01 a.dx (Xc a n f)):=h.at (i:=0) rfl;have nn:∀e∈S.ld,0<=e.1:=λe he=>by
  obtain⟨j,z,_⟩:=ok.rl (bt (f:=λe:Int×hZ×List aQ=>e.1) he);have:=ok.f0;lia
 refine(jm e1 Y Y ⟨d,_,a,n,f,en,Y,e1,h.at (i:=8) Y,?_⟩);rw[le];have gt:∀ {H2 db2},Fr M1 H H2 lb lb->sF t H2 lb (tG t d a n f wo cs S.ws kv la db2 en) a.mks a.re g S.ls (tu S.ld) cs CC->sK S.ld db2->tj t H2 d a lb n f g CC S/\mvP t H2 d a lb n f h0 g CC S Q:=λF2 h2 hd2=>⟨⟨wo,cs,kv,la,_,en,h2,ZD hh F2 Xs,wV hl F2 (.inr ()),hd2,le,wy⟩,λv H' lb' e S' F=>q v H' lb' e S' (F2.m0.trans F)⟩;have dg:∀ {H2 db2},sF t H2 lb (tG t d a n f wo cs S.ws kv la db2 en) a.mks a.re g S.ls (tu S.ld) cs CC->sL H2 a.la (.int (f+S.en)) (yc la (.inl (f+S.en))):=λh2=>.k (k:=.inl (f+(S.en:Int))) (h2.at (i:=6) Y);refine(yd e1 Bq.cD Bq.d8 Y Y ⟨a.jb,_,_,Y,h.at (i:=2) Y,Y,⟨d,a,lb,n,f,wo,cs,S.ws,kv,la,db,en,g,S.ls,S.ld,CC⟩,Y,h,hl,hd,show S.ld.length<=10 by lia,nn,λH2 db2 F2 h2 hd2=>?_,λv H2 db2 qa r s gi y F2 h2 hd2 hm hy hn hv hq=>?_⟩)
 ·obtain⟨G2,q2⟩:=gt F2 h2 hd2;refine⟨_,Y,yd (h2.at (i:=0) Y) Bq.cD Bq.d8 Y Y ⟨a.jb,_,_,_,_,Y,h2.at (i:=2) Y,Bq.cJ,Bq.j2,Y,a.la,_,Y,dg h2,_,Y,?_⟩⟩;rcases hl.get (h:=f+(S.en:Int)) with ⟨z,nm⟩|⟨v,b,z,m,_⟩
  ·rw[z];exact ye Y (ye Y ⟨_,Y,Y,_,Y,ye Y (zgz Bq G2 ok fr nm q2)⟩)
  ·rw[z];exact yv Y ⟨_,Y,Y,_,Y,yv Y (yv Y (zcD Bq G2 ok fr m q2))⟩
 ·obtain⟨G2,q2⟩:=gt F2 h2 hd2;refine⟨_,Y,yd (h2.at (i:=0) Y) Bq.cD Bq.d8 Y Y ⟨a.jb,_,_,_,_,Y,h2.at (i:=2) Y,Bq.cJ,Bq.j2,Y,a.la,_,Y,dg h2,_,Y,?_⟩⟩;rcases hl.get (h:=f+(S.en:Int)) with ⟨z,nm⟩|⟨w,b,z,m,_⟩
  ·rw[z];exact ye Y (ye Y ⟨_,Y,Y,_,Y,yv Y (zcE Bq G2 ok fr hm hy hn hv hq q2)⟩)
  ·rw[z];refine yv Y ⟨_,Y,Y,_,Y,ye Y ⟨_,Y,v,_,0,_,Y,Y,sB.of hv,Y,_,Y,Y,_,Y,?_⟩⟩;by_cases c:r=f+S.en
   ·refine ye (by rw[Bj (congrArg V.int c)];rfl) ?_;exact⟨_,Y,Y,_,Y,yv Y (zcE Bq G2 ok fr hm hy hn hv hq q2)⟩
   ·exact yv (by rw[Bk (λe=>c (V.int.inj e))];rfl) (zcD Bq G2 ok fr m q2)
end
section
variable {H':Hp}{lb lb':L->Nat}{Bp:List (L×HO)}{m re d b tp x:L}{a:tI}{ra:RAd}{g:List aQ}{lays:List (Int×List aQ)}{P:Pl->Int->Prop}{cs en:List V}{CC:List (List Cs)}{C:List Cs}{n f h0 r:Int}{db:List Int}{kv la:List (aV×V)}{wo:HO}{i j k:Nat}{gi:List aQ}{hl:List (Int×Int×Nat×hZ)}{S:DS}{v:V}{s s':hZ}{M:Nat->Prop}{R:St->Hp->Prop}
theorem Kp.ts(R:aY t H x ra C s)(k:Kp x ra H H'):tw H H':=λb zs e=>k b _ (λy=>by
 rcases y with y|y|y|y|y
 ·rw[y,R.ix] at e;cases e
 ·rw[y,R.hs] at e;cases e
 ·rw[y,R.hg] at e;cases e
 ·rw[y,R.hn] at e;cases e
 ·rw[y,R.ha] at e;cases e) e
theorem zcF(R:aY t H x ra C s)(R':aY t H' x ra C s')(l:∀b,OwA x ra b->lb b=N)(k:Kp x ra H H'):Fr (λl=>l≠N) H H' lb lb:=⟨λ_ _ _=>rfl,λb o z e=>k b o (λy=>z (l b (.inl y))) e,Kp.ts R k,λb o e=>by
 by_cases y:OwA x ra b
 ·cases e:H' b with
  |none=>exact absurd e (R'.has y)
  |some o=>exact⟨o,Y⟩
 ·exact⟨o,k b o (λz=>y (.inl z)) e⟩⟩
theorem sF.step(hN:20<=N)(h:sF t H lb Bp m re g lays P cs CC)(ll:Bp.length=9)(R:aY t H x ra C s)(R':aY t H' x ra C s')(l:∀b,OwA x ra b->lb b=N)(k:Kp x ra H H'):Fr (λl=>l≠N) H H' lb lb/\sF t H' lb Bp m re g lays P cs CC:=
 have F:=zcF R R' l k
 ⟨F,h.keep ll (λb o _ z e=>F.kp b o (show lb b≠N by lia) e) F.ts F.al⟩
structure MvI(t:bv)(H:Hp)(d:L)(a:tI)(lb:L->Nat)(n f h0:Int)(g:List aQ)(CC:List (List Cs))(S:DS)(wo:HO)(cs:List V)(kv la:List (aV×V))(db:List Int)(en:List V)(r:Int)(j:Nat)(s:hZ)(tp x:L)(ra:RAd)(C:List Cs):Prop where
 o:sF t H lb (tG t d a n f wo cs S.ws kv la db en) a.mks a.re g S.ls (tu S.ld) cs CC
 hh:Pk (HdAt t H lb f CC) kv S.hl
 hl:Pk (Xd H lb) la S.ld
 hd:sK S.ld db
 le:en.length=S.en
 wy:zhB t a wo
 hm:(h0,r,j,s)∈S.hl
 hv:yc kv (.inl h0)=U (.ref tp)
 ht:H tp=U (.tup [.int r,.ref x])
 ec:CC[(r-f).toNat]?=U C
 rn:aY t H x ra C s
 l20:∀b,OwA x ra b->lb b=20+h0.toNat
theorem MvI.same(h:MvI t H d a lb n f h0 g CC S wo cs kv la db en r j s tp x ra C)(k:aK H H'):MvI t H' d a lb n f h0 g CC S wo cs kv la db en r j s tp x ra C :=
 ⟨h.o.same Y k,ZD h.hh (Fr.same (M:=M1) k) Xs,wV h.hl (Fr.same (M:=M1) k) (.inr ()),h.hd,h.le,h.wy,h.hm,h.hv,k _ _ h.ht,h.ec,h.rn.same k,h.l20⟩
theorem MvI.step(h:MvI t H d a lb n f h0 g CC S wo cs kv la db en r j s tp x ra C)(ok:mt n f g CC S)(R':aY t H' x ra C s')(k:Kp x ra H H'):Fr M0 H H' lb lb/\tj t H' d a lb n f g CC { S with hl:=ZX S.hl h0 (r,j+1,s') }:=by
 obtain⟨F,h'⟩:=h.o.step (N:=20+h0.toNat) () Y h.rn R' h.l20 k;have h0p:=(ok.hr _ h.hm).1;have h0p:0<=h0:=h0p;refine⟨F.mono λl z=>by unfold M0 at z;lia,wo,cs,kv,la,db,en,h',h.hh.set ok.hn (λk v b' m z y=>y.fr F ?_) (λv z=>?_),wV h.hl F (),h.hd,h.le,h.wy⟩
 ·have:=(ok.hr _ m).1;have:0<=k:=this;lia
 ·rw[h.hv] at z;cases z;exact⟨tp,x,ra,C,Y,F.ts _ _ h.ht,h.ec,R',h.l20⟩
theorem zdo(Bq:DkF K t)(h:MvI t H d a lb n f h0 g CC S wo cs kv la db en r j s tp x ra C)(ok:mt n f g CC S)(ho:yt C s=D)(q:mvP t H d a lb n f h0 g CC S Q) :
  Zu K t { nx:=λσ H'=>R σ H',rt:=Q } [U (.ref d),U (.int h0),U (.int r),U (.ref x),o4,o5] H:=by
 have eh:=h.o.at (i:=5) rfl;have l5:=ok.cc.le;have ln:=ok.len;obtain⟨C',ec',I,j11⟩:=ok.rn _ h.hm;obtain rfl:C'=C:=bJ (ec'.symm.trans h.ec);obtain⟨k,rk,_,kl⟩:=ok.rh h.hm;have rk:r=f+k:=rk;have f0:=ok.f0;refine(yd (h.o.at (i:=0) Y) Bq.cD Bq.d6 Y Y ⟨a.hd,Y,.inl ⟨_,.inl eh⟩,_,Y,_,.inl h0,_,eh,Y,h.hv,?_⟩);have h3:=h.o.put (i:=5) (o':=.dK (yo kv (.inl h0))) Y Y ();have F3:=h.o.fput (i:=5) (o':=.dK (yo kv (.inl h0))) Y ();generalize upd H a.hd (.dK (yo kv (.inl h0)))=H3 at *
 have h3:sF t H3 lb (tG t d a n f wo cs S.ws (yo kv (.inl h0)) la db en) a.mks a.re g S.ls (tu S.ld) cs CC:=h3;obtain⟨R3,_⟩:=h.rn.fr h.l20 F3 (Xs _);have l2:s.gi.length<=j:=I.ok.l2;have l3:s.no.length<=j:=I.ok.l3;have j11:j<=11:=j11;refine(yd (h3.at (i:=0) Y) Bq.cD Bq.d8 Y Y ⟨a.jb,_,_,Y,h3.at (i:=2) Y,Y,_,Y,jm R3.ix Y Y ⟨x,ra,C',s,Y,R3,(),I.ok.nd,(),(λH' z=>by rw[ho] at z;cases z),λr' o nl gl out H4 _ s4 hnl hgl _ hr oc hn hg gi=>?_⟩⟩);obtain⟨lb4,F4,h4,l14⟩:=h3.relab (M:=M1) (N:=λb=>b=nl\/b=gl) 14 () s4 λb z=>by
  obtain⟨xs,hx,_⟩:=id hn;obtain⟨ys,hy,_⟩:=id hg;rcases z with rfl|rfl
  ·exact⟨hnl,_,hx⟩
  ·exact⟨hgl,_,hy⟩
 have hP:tM H4 lb4 r' s.no out:=⟨o,nl,gl,hr,hn,hg,l14 _ (.inl Y),l14 _ (.inr Y)⟩;have lo:out.length<=s.gi.length:=ze8 gi;have nt:zbN s.no out:=⟨I.ok.nd,zfh gi,(),()⟩;have ll:S.ls.length<=5:=by
  have:=xS (b:=vN f 0 CC.length) h.o.ms.nd λx hx=>by
   obtain⟨y,hy,rfl⟩:=bC.mp hx;have:=ok.ly y hy;exact rks_mem.mpr ⟨(y.1-f).toNat,(),(),()⟩
  unfold vN at this;rw[bf,bf,fA] at this;lia
 have nr:r ∉ S.ld.map (·.1):=λz=>ok.nd.2.1.2.2 r (bt (f:=λe:Int×Int×Nat×hZ=>e.2.1) h.hm) r z rfl;have F34:=F3.trans F4;refine⟨⟨d,a,lb4,n,f,wo,cs,S.ws,_,la,db,en,g,S.ls,S.ld,CC⟩,r',r,s,out,Y,h4,wV h.hl F34 (.inr ()),h.hd,ok.nt,show S.ld.length<=10 by lia,nr,show 0<=r by lia,show S.ls.length<=10 by lia,hP,nt,λH5 lb5 la5 db5 F5 h5 hl5 hd5=>?_⟩;refine⟨_,Y,_,Y,by show 3<=Bb;rw[bG];decide,λp hp=>?_⟩;have s6:=sJ (o:=HO.tup [V.str "lay",V.int h0,V.int r]) p hp;have F6:=F34.trans (F5.trans (Fr.same s6));exact q _ _ lb5 _ _ F6.m0 (Yh (e:=.lay r) p zh λ_ z=>nomatch z) (.lay h.hm h.ec ho gi) ⟨wo,cs,_,la5,db5,en,h5.same Y s6,(ZD h.hh F6 Xs).drop,wV hl5 (Fr.same (M:=M1) s6) (.inr ()),hd5,h.le,h.wy⟩
theorem zdp(Bq:DkF K t)(h:MvI t H d a lb n f h0 g CC S wo cs kv la db en r j s tp x ra C)(ok:mt n f g CC S)(ho:yt C s=aq)(q:mvP t H d a lb n f h0 g CC S Q) :
  Zv K t (sA Q) [U (.ref d),U (.int h0),U (.int r),U (.ref x),ao,ao] H:=by
 obtain⟨C',ec',I,j11⟩:=ok.rn _ h.hm;obtain rfl:C'=C:=bJ (ec'.symm.trans h.ec);obtain⟨O,lC⟩:=ok.cc.ok C' (bS h.ec);obtain⟨k,rk,_,kl⟩:=ok.rh h.hm;have rk:r=f+k:=rk;have f0:=ok.f0;have j11:j<=11:=j11;refine(jm h.rn.ix Y Y ⟨x,ra,C',s,Y,h.rn,O.ok,I.ok.so,λH3 ha s3=>?_,λp q1 H3 ha s3 hq=>?_⟩)
 ·have h3:=h.same s3;refine⟨_,Y,Y,_,Y,yv Y (jm h3.rn.ix Y Y ⟨x,0,j,ra,C',s,Y,h3.rn,O.ok,I.ok,(),λH4 k4 R4=>?_⟩)⟩;obtain⟨F4,G4⟩:=h3.step ok R4 k4;refine⟨_,Y,_,Y,by show 3<=Bb;rw[bG];decide,λp hp=>?_⟩;have s6:=sJ (o:=HO.tup [V.str "step",V.int h0,V.int r]) p hp;exact q _ _ lb _ _ ((Fr.same s3).trans (F4.trans (Fr.same s6))) (Yh (e:=.step r) p zh λ_ z=>nomatch z) (.step h.hm h.ec ho ha) (G4.same s6)
 ·have h3:=h.same s3;obtain⟨_,_,im,_,sn,_⟩:=h3.o.ms.ins;refine⟨_,Y,Y,_,Y,ye Y (yd (h3.o.at (i:=0) Y) Bq.cD Bq.d7 Y Y ⟨a.mks,_,_,Y,im,sn,_,Y,_,Y,a.mks,q1,r,_,g,S.ls,p,Y,h3.o.ms,(),hq,λH4 s4=>?_⟩)⟩;have h4:=h3.same s4;refine(jm h4.rn.ix Y Y ⟨_,Y,x,yj g S.ls p r,j,ra,C',s,Y,h4.rn,O.ok,I.ok,(),λH5 k5 R5=>?_⟩);obtain⟨F5,G5⟩:=h4.step ok R5 k5;refine⟨_,Y,_,Y,_,Y,_,Y,by show 5<=Bb;rw[bG];decide,λp' hp=>?_⟩;have s6:=sJ (o:=HO.tup [V.str "read",V.int h0,V.int r,V.ref q1,V.int (yj g S.ls p r)]) p' hp;exact q _ _ lb _ _ ((Fr.same (s3.trans s4)).trans (F5.trans (Fr.same s6))) (Yh (e:=.read r p _) q1 zh λp e=>by cases e;exact s6 _ _ (F5.ts _ _ (s4 _ _ hq))) (.read h.hm h.ec ho ha) (G5.same s6)
theorem Jl{vs:List V}{_E:XK}(Bq:DkF K t)(h:vO t vs H Q _E) :
  Xh K t (sA Q) (L2.start ["self","hand","rank","run","place","worth"] vs) H:=by
 obtain⟨d,a,lb,n,f,h0,g,CC,S,rfl,h,ok,p0,pn,q⟩:=h;have G:=h;obtain⟨wo,cs,kv,la,db,en,h,hh,hl,hd,le,wy⟩:=h;have e1:H d=U (.ins t.q01 a.dx (Xc a n f)):=h.at (i:=0) rfl;have eh:H a.hd=U (.dK kv):=h.at (i:=5) rfl;refine⟨_,Y,_,_,Y,Y,_,Y,ye (Bk ()) ⟨_,Y,yd e1 Bq.cD Bq.d1 Y Y ⟨_,_,Y,Y,_,Y,ye (Bk ()) ⟨_,Y,yd e1 Bq.cD Bq.d6 Y Y ⟨a.hd,_,Y,.k (k:=.inl h0) eh,_,Y,?_⟩⟩⟩⟩⟩;rcases hh.get (h:=h0) with ⟨z,nm⟩|⟨v,⟨r,j,s⟩,z,hm,tp,x,ra,C,rfl,ht,ec,R,l20⟩
 ·rw[z];exact yv Y (jm e1 Y Y ⟨_,Y,d,a,lb,n,f,h0,g,CC,S,Y,G,ok,nm,q⟩)
 ·have dg:sL H a.hd (.int h0) (U (.ref tp)):=by
   have y:=sL.k (k:=.inl h0) eh
   rwa [z] at y
  rw[z];refine ye Y (yd e1 Bq.cD Bq.d6 Y Y ⟨_,Y,a.hd,_,Y,dg,tp,_,0,_,Y,Y,sB.of ht,Y,?_⟩);refine(yd e1 Bq.cD Bq.d6 Y Y ⟨_,Y,a.hd,_,Y,dg,tp,_,1,_,Y,Y,sB.of ht,Y,?_⟩);refine(jm R.ix Y Y ⟨x,ra,C,s,Y,R,λH2 s2=>⟨_,Y,?_⟩⟩);have I:MvI t H2 d a lb n f h0 g CC S wo cs kv la db en r j s tp x ra C:=MvI.same ⟨h,hh,hl,hd,le,wy,hm,z,ht,ec,R,l20⟩ s2;have q2:mvP t H2 d a lb n f h0 g CC S Q:=λv H' lb' e S' F=>q v H' lb' e S' ((Fr.same s2).trans F);cases ho:yt C s with
  |true=>exact yv Y (zdo Bq I ok ho q2)
  |false=>exact ye Y (zdp Bq I ok ho q2)
end
structure PO(H0:Hp)(x w:L)(ox:HO)(H:Hp)(lb:L->Nat)(F:L->Prop)(E:List (Nat×L×HO)):Prop where
 hx:H x=U ox
 lx:lb x=1
 ob:∀e∈E,1<e.1/\H e.2.1=U e.2.2/\lb e.2.1=e.1
 ow:∀b,lb b≠0->∃o,H b=U o
 kp:J6 x H0 H
 fr:∀b,lb b≠0->b=x\/b=w\/H0 b=ao
 f10:∀b,lb b=10↔F b
section
variable {H0 H':Hp}{x w c:L}{ox o:HO}{lb:L->Nat}{E:List (Nat×L×HO)}{n:Nat}{N F:L->Prop}
theorem PO.put(h:PO H0 x w ox H lb F E)(o:HO):PO H0 x w o (upd H x o) lb F E:=by
 refine⟨zh,h.lx,λe he=>?_,λb z=>?_,λb u z e=>by rw[zk z];exact h.kp b u z e,h.fr,h.f10⟩
 ·obtain⟨h1,h2,h3⟩:=h.ob e he;exact⟨h1,by rw[zk (λy=>by rw[y,h.lx] at h3;lia)];exact h2,h3⟩
 ·obtain⟨u,e⟩:=h.ow b z;exact YH b u e
theorem PO.same(h:PO H0 x w ox H lb F E)(s:aK H H'):PO H0 x w ox H' lb F E:=⟨s _ _ h.hx,h.lx,λe he=>let ⟨h1,h2,h3⟩:=h.ob e he;⟨h1,s _ _ h2,h3⟩,λb z=>let ⟨o,e⟩:=h.ow b z;⟨o,s _ _ e⟩,λb o z e=>s _ _ (h.kp b o z e),h.fr,h.f10⟩
theorem PO.l0(h:PO H0 x w ox H lb F E)(hc:H c=ao):lb c=0/\H0 c=ao:=by
 have nx:c≠x:=λz=>by rw[z,h.hx] at hc;cases hc
 refine⟨e9 (λz=>by obtain⟨o,e⟩:=h.ow c z;rw[hc] at e;cases e),?_⟩;cases e:H0 c with
 |none=>rfl
 |some u=>have:=h.kp c u nx e;rw[hc] at this;cases this
open Classical in
theorem PO.lab{F':L->Prop}(h:PO H0 x w ox H lb F E)(n:Nat)(hF:∀b,(N b/\n=10\/F b)↔F' b)(hN:∀b,N b->lb b=0/\H0 b=ao/\∃o,H b=U o):∃lb',PO H0 x w ox H lb' F' E/\(∀b,N b->lb' b=n)/\∀b,¬ N b->lb' b=lb b:=by
 have e0:∀b,lb b≠0->¬ N b:=λb z y=>z (hN b y).1;refine⟨λb=>if N b then n else lb b,⟨h.hx,(ap (e0 x (by rw[h.lx];decide))).trans h.lx,λe he=>?_,λb z=>?_,h.kp,λb z=>?_,λb=>?_⟩,λb z=>au z,λb z=>ap z⟩
 ·obtain⟨h1,h2,h3⟩:=h.ob e he;by_cases y:N e.2.1
  ·have:=(hN _ y).1;lia
  ·exact⟨h1,h2,(ap y).trans h3⟩
 ·by_cases y:N b
  ·exact(hN b y).2.2
  ·exact h.ow b (λw=>z ((ap y).trans w))
 ·by_cases y:N b
  ·exact .inr (.inr (hN b y).2.1)
  ·exact h.fr b (λw=>z ((ap y).trans w))
 ·rw[<-hF,<-h.f10];by_cases y:N b
  ·rw[au y,(hN b y).1];simp[y]
  ·rw[ap y];simp[y]
theorem PO.new(h:PO H0 x w ox H lb F E)(n:Nat)(n1:1<n)(n2:n≠10)(hc:H c=ao):∃lb',PO H0 x w ox (upd H c o) lb' F ((n,c,o)::E):=by
 obtain⟨l0,f0⟩:=h.l0 hc;obtain⟨lb',h',e1,e2⟩:=(h.same (sJ c hc (o:=o))).lab (N:=λb=>b=c) n (λb=>⟨λz=>z.resolve_left λy=>n2 y.2,.inr⟩) λb z=>by rw[z];exact⟨l0,f0,_,zh⟩
 exact⟨lb',h'.hx,h'.lx,λe he=>by
  rcases bD.mp he with rfl|he
  ·exact⟨n1,zh,e1 c Y⟩
  ·exact h'.ob e he,h'.ow,h'.kp,h'.fr,h'.f10⟩
open Classical in
theorem PO.init(h:H0 x=U o)(hw:∃u,H0 w=U u):∃lb,PO H0 x w o H0 lb (λ_=>False) []/\(w≠x->lb w=2)/\∀b,b≠x->b≠w->lb b=0:=by
 refine⟨λb=>if b=x then 1 else if b=w then 2 else 0,⟨h,au Y,(λe he=>nomatch he),λb z=>?_,λb u _ e=>e,λb z=>?_,λb=>?_⟩,λz=>(ap z).trans (au Y),λb z y=>(ap z).trans (ap y)⟩
 ·by_cases y:b=x
  ·rw[y];exact⟨_,h⟩
  ·by_cases v:b=w
   ·rw[v];exact hw
   ·rw[ap y,ap v] at z;exact absurd Y z
 ·by_cases y:b=x
  ·exact .inl y
  ·by_cases v:b=w
   ·exact .inr (.inl v)
   ·rw[ap y,ap v] at z;exact absurd Y z
 ·by_cases y:b=x
  ·rw[au y];simp
  ·by_cases v:b=w
   ·rw[ap y,au v];simp
   ·rw[ap y,ap v];simp
section
variable {C dx:L}{fs:List (Str×V)}{fl:Str}{y:V}{σ:St}{Bq:Wx}{k:Nat}
theorem PO.st(P:PO H0 x w (.ins C dx fs) H lb F E)(h0:σ[0]?=U (U (.ref x)))(c:tq K C)(n:aP K C fl)(hl:fs.length<1000)(q:∀H',PO H0 x w (.ins C dx (vU fl y fs)) H' lb F E->Bq.nx σ H'):Z 0 σ H λx' H2=>∃a C dx fs,x'=.ref a/\H2 a=U (.ins C dx fs)/\tq K C/\aP K C fl/\fs.length<1000/\Bq.nx σ (upd H2 a (.ins C dx (vU fl y fs))):=⟨_,h0,x,C,dx,fs,Y,P.hx,c,n,hl,q _ (P.put _)⟩
theorem PO.stM(M:sO t H m F g [])(P:PO H0 x w (.ins C dx fs) H lb F E)(h0:σ[0]?=U (U (.ref x)))(c:tq K C)(n:aP K C fl)(hl:fs.length<1000)(q:∀H',PO H0 x w (.ins C dx (vU fl y fs)) H' lb F E->sO t H' m F g []->Bq.nx σ H'):Z 0 σ H λx' H2=>∃a C dx fs,x'=.ref a/\H2 a=U (.ins C dx fs)/\tq K C/\aP K C fl/\fs.length<1000/\Bq.nx σ (upd H2 a (.ins C dx (vU fl y fs))):=⟨_,h0,x,C,dx,fs,Y,P.hx,c,n,hl,q _ (P.put _) (M.keep (λb o fb e=>by rw[zk (λz=>by have:=(P.f10 b).mpr fb;rw[z,P.lx] at this;cases this)];exact e) (jn P.hx λ_ z=>nomatch z))⟩
theorem PO.sv(P:PO H0 x w (.ins C dx fs) H lb F E)(h0:σ[0]?=U (U (.ref x)))(h1:σ[k]?=U (U y))(c:tq K C)(n:aP K C fl)(hl:fs.length<1000)(q:∀H',PO H0 x w (.ins C dx (vU fl y fs)) H' lb F E->Bq.nx σ H'):xY K (Z 0) (Z k) fl Bq σ H:=⟨_,h1,P.st h0 c n hl q⟩
theorem PO.so(o:HO)(m:Nat)(m1:1<m)(m2:m≠10)(P:PO H0 x w (.ins C dx fs) H lb F E)(h0:σ[0]?=U (U (.ref x)))(c:tq K C)(n:aP K C fl)(hl:fs.length<1000)(q:∀c H' lb',PO H0 x w (.ins C dx (vU fl (.ref c) fs)) H' lb' F ((m,c,o)::E)->Bq.nx σ H')(p:L)(hp:H p=ao):Z 0 σ (upd H p o) λx' H2=>∃a C dx fs,x'=.ref a/\H2 a=U (.ins C dx fs)/\tq K C/\aP K C fl/\fs.length<1000/\Bq.nx σ (upd H2 a (.ins C dx (vU fl (.ref p) fs))):=by
 obtain⟨lb',P'⟩:=P.new (o:=o) m m1 m2 hp;exact P'.st h0 c n hl λH'=>q p H' lb'
end
theorem Jm{l dx:L}{xs:List V}{C:List Cs}(F:RnF K t)(h1:H x=U (.ins t.q00 dx []))(h2:H l=U (.lst xs))(h3:Paired (sN H) xs C)(q:∀H' a,J6 x H H'->aY t H' x a C st0->(∀b,OwA x a b->b=x\/H b=ao)->Q .non H') :
  Zq K t (sA Q) (L2.start ["self","code"] [.ref x,.ref l]) H:=by
 obtain⟨lb,P,_⟩:=PO.init h1 ⟨_,h1⟩;unfold Zq zo;refine⟨_,Y,l,xs,Y,.inl (aT.of h2),P.so (.lst xs) 2 () () Y F.cl F.n1 () λco H1 lb1 P=>P.st Y F.cl F.n2 (by show 1<1000;decide) λH2 P=>P.st Y F.cl F.n3 (by show 2<1000;decide) λH3 P=>P.so (.dK []) 3 () () Y F.cl F.n4 (by show 3<1000;decide) λsl H4 lb4 P=>P.so (.dT []) 4 () () Y F.cl F.n5 (by show 4<1000;decide) λgi H5 lb5 P=>P.so (.dT []) 5 () () Y F.cl F.n6 (by show 5<1000;decide) λno H6 lb6 P=>⟨(),P.so (.lst []) 6 () () Y F.cl F.n7 (by show 6<1000;decide) λsa H7 lb7 P=>?_⟩⟩;have ob:∀n c o,(n,c,o)∈_->H7 c=U o/\lb7 c=n:=λn c o z=>(P.ob (n,c,o) z).2;have o2:=ob 2 co _ (.tail _ (.tail _ (.tail _ (.tail _ (.head _)))));have o3:=ob 3 sl _ (.tail _ (.tail _ (.tail _ (.head _))));have o4:=ob 4 gi _ (.tail _ (.tail _ (.head _)));have o5:=ob 5 no _ (.tail _ (.head _));have o6:=ob 6 sa _ (.head _);have nx:∀ {n:Nat} {b:L},lb7 b=n+2->b=x\/H b=ao:=λ{n b} z=>(P.fr b ()).imp id λy=>y.elim (λy=>by rw[y,P.lx] at z;lia) id;refine q H7 ⟨dx,co,sl,gi,no,sa⟩ P.kp ⟨P.hx,⟨xs,o2.1,xP (λb zs e=>P.kp _ _ (zJ e h1 ()) e) h3⟩,o3.1,o4.1,o5.1,o6.1,λz=>by rw[show gi=no from z,o5.2] at o4;exact absurd o4.2 (),λz=>by rw[show co=sa from z,o6.2] at o2;exact absurd o2.2 ()⟩ λb z=>?_;rcases z with (z|z|z|z|z)|z
 ·exact .inl z
 ·rw[z];exact nx o3.2
 ·rw[z];exact nx o4.2
 ·rw[z];exact nx o5.2
 ·rw[z];exact nx o6.2
 ·rw[z];exact nx o2.2
theorem Jn{vs:List V}{_E:XK}(Bq:DkF K t)(h:qk t vs H Q _E) :
  qo K t (sA Q) (L2.start ["self","makes"] vs) H:=by
 obtain⟨x,m,dx,rfl,h1,q⟩:=h;obtain⟨lb,P,_⟩:=PO.init h1 ⟨_,h1⟩;unfold qo zo;refine P.sv Y Y Bq.cJ Bq.j1 () λH1 P=>P.so (.dK []) 7 () () Y Bq.cJ Bq.j2 (by show 1<1000;decide) λla H2 lb2 P=>P.so (.dT []) 11 () () Y Bq.cJ Bq.j3 (by show 2<1000;decide) λre H3 lb3 P=>P.so (.dK []) 8 () () Y Bq.cJ Bq.j4 (by show 3<1000;decide) λdb H7 lb6 P7=>?_;have go:∀n c o,(n,c,o)∈[(8,db,HO.dK []),(11,re,.dT []),(7,la,.dK [])]->H7 c=U o/\H c=ao/\lb6 c=n:=λn c o z=>by
  obtain⟨h1,h2,h3⟩:=P7.ob _ z;have h1:1<n:=h1;have h3:lb6 c=n:=h3;rcases P7.fr c () with y|y|y
  ·rw[y,P7.lx] at h3;lia
  ·rw[y,P7.lx] at h3;lia
  ·exact⟨h2,y,h3⟩
 obtain⟨a1,a2,a3⟩:=go 7 la _ (.tail _ (.tail _ (.head _)));obtain⟨b1,b2,b3⟩:=go 11 re _ (.tail _ (.head _));obtain⟨c1,c2,c3⟩:=go 8 db _ (.head _);exact q _ la re db P7.kp P7.hx a1 b1 c1 a2 b2 c2 (λz=>by rw[z,c3] at a3;cases a3)
theorem Jo{vs:List V}{_E:XK}(Bq:DkF K t)(h:wz t vs H Q _E) :
  qp K t (sA Q) (L2.start ["self","table","hands","way","first"] vs) H:=by
 obtain⟨x,l,w,dx,dw,n,f,wo,g,rfl,h1,h2,h3,h4,nw,q⟩:=h;obtain⟨lb,P,lw,_⟩:=PO.init (w:=w) h1 ⟨_,h4⟩;have P:PO H x w _ H lb (λ_=>False) [(2,w,wo)]:=⟨P.hx,P.lx,λe he=>by cases br.mp he;exact⟨by show 1<2;decide,h4,lw nw⟩,P.ow,P.kp,P.fr,P.f10⟩;obtain⟨xs,hx,px⟩:=h2;have nlx:l≠x:=zJ hx h1 ();unfold qp zo;refine P.sv Y Y Bq.cD Bq.d1 () λH1 P=>P.sv Y Y Bq.cD Bq.d2 (by show 1<1000;decide) λH2 P=>P.sv Y Y Bq.cD Bq.d3 (by show 2<1000;decide) λH3 P=>⟨(),P.so (.lst []) 4 () () Y Bq.cD Bq.d4 (by show 3<1000;decide) λcl H4 lb4 P=>⟨(),P.so (.lst []) 5 () () Y Bq.cD Bq.d5 (by show 4<1000;decide) λwl H5 lb5 P=>P.so (.dK []) 6 () () Y Bq.cD Bq.d6 (by show 5<1000;decide) λhd H9 lb9 P=>?_⟩⟩;refine⟨_,Y,?_⟩;intro m dm hm hdm nm;have sm:aK H9 (upd (upd H9 dm (HO.own m)) m (HO.ins t.q02 dm [])):=λb o e=>by rw[zk (zy e hm),zk (zy e hdm)];exact e
 have hl9:sI H9 l g:=⟨xs,P.kp _ _ nlx hx,Paired.mapP px λ_ _ ⟨r,p,e,e1,e2⟩=>⟨r,p,e,P.kp _ _ (zJ e1 h1 ()) e1,P.kp _ _ (zJ e2 h1 ()) e2⟩⟩;refine⟨m,l,dm,g,Y,zh,hl9.same sm,h3,λH10 F k10 M10 f10=>⟨Y,?_⟩⟩;have s10:aK H9 H10:=λb o e=>k10 b o (zy e hm) (sm _ _ e);have fF:∀b,F b->H9 b=ao:=λb z=>by
  rcases f10 b z with y|y
  ·rw[y];exact hm
  ·cases e:H9 b with
   |none=>rfl
   |some o=>have:=sm b o e;rw[y] at this;cases this
 obtain⟨lb10,P',e10,_⟩:=(P.same s10).lab (N:=F) (F':=F) 10 (λb=>⟨λz=>z.elim (λy=>y.1) cS,λz=>.inl ⟨z,Y⟩⟩) λb z=>⟨(P.l0 (fF b z)).1,(P.l0 (fF b z)).2,M10.own b z⟩;replace P:=P';clear P' k10 f10 s10 sm hm hdm nm hl9 fF;refine P.stM M10 Y Bq.cD Bq.d7 (by show 6<1000;decide) λH11 P M11=>?_;refine⟨_,Y,x,_,_,_,_,Y,P.hx,Bq.cD,Bq.d7,Y,?_⟩;intro jb dj hj hdj nj;have sj:aK H11 (upd (upd H11 dj (HO.own jb)) jb (HO.ins t.q03 dj [])):=λb o e=>by rw[zk (zy e hj),zk (zy e hdj)];exact e
 refine⟨jb,m,dj,Y,zh,λH12 la re db k12 j12 l12 r12 d12 nl nr nd ld=>⟨Y,?_⟩⟩;have s12:aK H11 H12:=λb o e=>k12 b o (zy e hj) (sj _ _ e);have fr:∀b,upd (upd H11 dj (HO.own jb)) jb (HO.ins t.q03 dj []) b=ao->H11 b=ao:=λb z=>by
  cases e:H11 b with
  |none=>rfl
  |some o=>have:=sj b o e;rw[z] at this;cases this
 have e0:∀b,H11 b=ao->_:=λb z=>P.l0 z;have M12:=M11.same s12;have Q0:=P.same s12;obtain⟨lb1,Q1,a1,b1⟩:=Q0.lab (N:=λb=>b=jb) (F':=F) 3 (λb=>⟨λz=>z.resolve_left (λy=>nomatch y.2),.inr⟩) λb z=>by rw[z];exact⟨(e0 _ hj).1,(e0 _ hj).2,_,j12⟩
 have n1:la≠jb:=λz=>by rw[z,zh] at nl;cases nl
 have n2:re≠jb:=λz=>by rw[z,zh] at nr;cases nr
 have n3:db≠jb:=λz=>by rw[z,zh] at nd;cases nd
 have n4:re≠la:=zJ r12 l12 ();have n5:db≠re:=zJ d12 r12 ();obtain⟨lb2,Q2,a2,b2⟩:=Q1.lab (N:=λb=>b=la) (F':=F) 7 (λb=>⟨λz=>z.resolve_left (λy=>nomatch y.2),.inr⟩) λb z=>by rw[z,b1 _ n1];exact⟨(e0 _ (fr _ nl)).1,(e0 _ (fr _ nl)).2,_,l12⟩
 obtain⟨lb3,Q3,a3,b3⟩:=Q2.lab (N:=λb=>b=re) (F':=F) 11 (λb=>⟨λz=>z.resolve_left (λy=>nomatch y.2),.inr⟩) λb z=>by rw[z,b2 _ n4,b1 _ n2];exact⟨(e0 _ (fr _ nr)).1,(e0 _ (fr _ nr)).2,_,r12⟩
 obtain⟨lb4,Q4,a4,b4⟩:=Q3.lab (N:=λb=>b=db) (F':=F) 8 (λb=>⟨λz=>z.resolve_left (λy=>nomatch y.2),.inr⟩) λb z=>by rw[z,b3 _ n5,b2 _ ld.symm,b1 _ n3];exact⟨(e0 _ (fr _ nd)).1,(e0 _ (fr _ nd)).2,_,d12⟩
 have y1:lb4 jb=3:=by rw[b4 _ n3.symm,b3 _ n2.symm,b2 _ n1.symm,a1 _ rfl]
 have y2:lb4 la=7:=by rw[b4 _ ld,b3 _ n4.symm,a2 _ rfl]
 have y3:lb4 re=11:=by rw[b4 _ n5.symm,a3 _ rfl]
 have y4:=a4 _ rfl;have P:PO H x w _ H12 lb4 F [(3,jb,.ins t.q03 dj (V8 m la re db)),(7,la,.dK []),(11,re,.dT []),(8,db,.dK []),(6,hd,.dK []),(5,wl,.lst []),(4,cl,.lst []),(2,w,wo)]:=⟨Q4.hx,Q4.lx,λe he=>by
  rcases bD.mp he with rfl|he
  ·exact⟨by show 1<3;decide,j12,y1⟩
  rcases bD.mp he with rfl|he
  ·exact⟨by show 1<7;decide,l12,y2⟩
  rcases bD.mp he with rfl|he
  ·exact⟨by show 1<11;decide,r12,y3⟩
  rcases bD.mp he with rfl|he
  ·exact⟨by show 1<8;decide,d12,y4⟩
  exact Q4.ob e he,Q4.ow,Q4.kp,Q4.fr,Q4.f10⟩
 clear Q0 Q1 Q2 Q3 Q4 a1 a2 a3 a4 b1 b2 b3 b4 y1 y2 y3 y4 n1 n2 n3 n4 n5 s12 sj k12 e0 fr nl nr nd ld hj hdj nj j12 l12 r12 d12;refine P.stM M12 Y Bq.cD Bq.d8 (by show 7<1000;decide) λH13 P M13=>?_;refine⟨(),λen hc=>?_⟩;have M14:=M13.same (sJ en hc (o:=.lst []));obtain⟨lb5,P'⟩:=P.new (o:=.lst []) 9 () () hc;replace P:=P';clear P';generalize upd H13 en (.lst [])=H14 at *
 refine P.stM M14 Y Bq.cD Bq.d9 (by show 8<1000;decide) λH15 P M15=>?_;have eF:(λb=>lb5 b=10)=F:=funext λb=>propext (P.f10 b);have ob:∀n c o,(n,c,o)∈_->H15 c=U o/\lb5 c=n:=λn c o z=>(P.ob (n,c,o) z).2;obtain⟨r1,r2⟩:=ob 11 re _ (.tail _ (.tail _ (.tail _ (.head _))));refine q H15 ⟨dx,w,dw,cl,wl,hd,m,jb,dj,en,la,re,db⟩ lb5 Y Y P.kp (λb o n1 n2 e=>e9 λz=>by rcases P.fr b z with y|y|y;exact n1 y;exact n2 y;rw[y] at e;cases e) ⟨λi b o e=>?_,by rw[eF];exact M15,⟨[],⟨r1,cw,cw,(),λ_ _ ⟨_,z,_⟩=>nomatch z⟩⟩,r2,.nil,P.ow⟩
 match i,e with
 |0,e=>cases e;exact⟨P.hx,P.lx⟩
 |1,e=>cases e;exact ob 2 _ _ (.tail _ (.tail _ (.tail _ (.tail _ (.tail _ (.tail _ (.tail _ (.tail _ (.head _)))))))))
 |2,e=>cases e;exact ob 3 _ _ (.tail _ (.head _))
 |3,e=>cases e;exact ob 4 _ _ (.tail _ (.tail _ (.tail _ (.tail _ (.tail _ (.tail _ (.tail _ (.head _))))))))
 |4,e=>cases e;exact ob 5 _ _ (.tail _ (.tail _ (.tail _ (.tail _ (.tail _ (.tail _ (.head _)))))))
 |5,e=>cases e;exact ob 6 _ _ (.tail _ (.tail _ (.tail _ (.tail _ (.tail _ (.head _))))))
 |6,e=>cases e;exact ob 7 _ _ (.tail _ (.tail _ (.head _)))
 |7,e=>cases e;exact ob 8 _ _ (.tail _ (.tail _ (.tail _ (.tail _ (.head _)))))
 |8,e=>cases e;exact ob 9 _ _ (.head _)
end
section
variable {β:Type}{l:List (Int×β)}{h:Int}{b b0:β}{q:Int×β->Nat}
theorem zaU:∀ {l:List (Int×β)},h ∉ l.map (·.1)->yg l h=l
 |[],_=>rfl
 |e::l,n=>by
  rw[bw,bD] at n;have c:e.1≠h:=λz=>n (.inl z.symm);rw[yg,df,au (Bj c)];exact congrArg _ (zaU λz=>n (.inr z))
theorem qw:∀ {l:List (Int×β)},(l.map (·.1)).Nodup->(h,b0)∈l->(ZX l h b).Perm ((h,b)::yg l h)/\l.Perm ((h,b0)::yg l h)
 |e::l,nd,m=>by
  rw[bw,bZ] at nd;by_cases c:e.1=h
  ·have e0:e=(h,b0):=Qd (l:=e::l) (by rw[bw,bZ];exact nd) bo m c;have n:h ∉ l.map (·.1):=by rw[<-c];exact nd.1
   have z:yg (e::l) h=l:=by rw[yg,df,ap (by rw[decide_eq_true_eq];exact λz=>z c)];exact zaU n
   have y:ZX l h b=l:=(dy λe he=>ap λw=>n (bC.mpr ⟨e,he,w⟩)).trans (List.map_id _);rw[z];refine⟨?_,by rw[e0]⟩;show ((if e.1=h then (h,b) else e)::ZX l h b).Perm _;rw[au c,y]
  ·have m:=(bD.mp m).resolve_left λz=>c (by rw[<-z]);obtain⟨p1,p2⟩:=qw nd.2 m;have z:yg (e::l) h=e::yg l h:=by rw[yg,df,au (Bj c)];rfl
   rw[z];refine⟨?_,(p2.cons e).trans (.swap ..)⟩;show ((if e.1=h then (h,b) else e)::ZX l h b).Perm _;rw[ap c];exact(p1.cons e).trans (.swap ..)
theorem Xu(nd:(l.map (·.1)).Nodup)(m:(h,b0)∈l):((ZX l h b).map q).sum=q (h,b)+((yg l h).map q).sum/\(l.map q).sum=q (h,b0)+((yg l h).map q).sum:=by
 obtain⟨p1,p2⟩:=qw (b:=b) nd m;exact⟨(p1.map q).sum_nat.trans (by rw[bw,cC]),(p2.map q).sum_nat.trans (by rw[bw,cC])⟩
end
theorem Kf{q:Int->Nat}:∀ {a b:List Int},a.Nodup->(∀x∈a,x∈b)->(a.map q).sum<=(b.map q).sum
 |[],_,_,_=>bT _
 |x::a,b,nd,h=>by
  rw[bZ] at nd;have p:=i8 (h x bo);rw[(p.map q).sum_nat,bw,bw,cC,cC];refine oM (Kf nd.2 λy hy=>?_) _;exact(oA λz=>nd.1 (by rw[<-z];exact hy)).mpr (h y (bh _ hy))
theorem kJ{α:Type}{q q':α->Nat}:∀ {l:List α},(∀x∈l,q x<=q' x)->(l.map q).sum<=(l.map q').sum
 |[],_=>bp _
 |x::l,h=>by
  have i:=kJ λy hy=>h y (bh x hy);have:=h x bo;rw[bw,bw,cC,cC];lia
theorem WU{α:Type}{q q':α->Nat}:∀ {l:List α},(l.map λx=>q x+q' x).sum=(l.map q).sum+(l.map q').sum
 |[]=>rfl
 |x::l=>by
  have i:=WU (q:=q) (q':=q') (l:=l);rw[bw,bw,bw,cC,cC,cC,i];lia
theorem zcG{α:Type}{p:α->Prop} [DecidablePred p]{q:α->Nat}:∀ {l:List α},(l.map λx=>if p x then q x else 0).sum=((l.filter λx=>decide (p x)).map q).sum
 |[]=>rfl
 |x::l=>by
  have i:=zcG (p:=p) (q:=q) (l:=l);rw[bw,cC,i,df];by_cases c:p x
  ·rw[au c,au (Bj c),bw,cC]
  ·rw[ap c,ap (by rw[decide_eq_true_eq];exact c),ro]
section
variable {g:List aQ}{ls:List (Int×List aQ)}{p:Pl}{r r':Int}{gi:List aQ}
theorem X3{r r':Int}(h:r'<=r):∀(ls:List (Int×List aQ)) (s:Int×Int),wH p r' (ls.filter λy=>decide (y.1≠r)) s=wH p r' ls s
 |[],_=>rfl
 |y::ls,s=>by
  rw[df];by_cases c:y.1=r
  ·rw[ap (by rw[decide_eq_true_eq];exact λz=>z c),X3 h ls,wH,ap ()]
  ·rw[au (Bj c),wH,wH,X3 h ls]
theorem zaV(h:r'<=r):yj g (wQ ls r gi) p r'=yj g ls p r':=by
 unfold yj wQ;rw[VE,ap (λz=>Int.not_lt.mpr h z.2),X3 h]
theorem zaW:∀(aM:List aQ) (s:Int×Int),(∀w∈aM,sH w.2=D)->sH s.2=D->sH (Vr p r aM s).2=D
 |[],_,_,h=>h
 |w::aM,s,hr,h=>by
  rw[Vr];refine zaW aM _ (λx hx=>hr x (bh _ hx)) ?_;split
  ·exact hr w bo
  ·exact h
theorem zaX:∀(ls:List (Int×List aQ)) (s:Int×Int),(∀y∈ls,∀w∈y.2,sH w.2=D)->sH s.2=D->sH (wH p r ls s).2=D
 |[],_,_,h=>h
 |y::ls,s,hr,h=>by
  rw[wH];refine zaX ls _ (λx hx=>hr x (bh _ hx)) ?_;split
  ·exact zaW _ _ (hr y bo) h
  ·exact h
end
section
variable {f n h:Int}{g:List aQ}{CC:List (List Cs)}{S S':DS}{e:Ev}
theorem zfl(I:RnI C j s)(ho:yt C s=aq):j<C.length:=by
 have no:¬ yt C s=D:=by rw[ho];decide
 have lt:=ZQ no;have wn:s.why=ao:=by
  cases e:s.why with
  |none=>rfl
  |some v=>exact absurd (show yt C s=D by unfold yt;rw[e];rfl) no
 have:=I.at_ wn;lia
theorem VN{k n:Nat}(h:k<n):vN f k n=(f+k)::vN f (k+1) n:=by
 unfold vN;rw[show n-k=n-(k+1)+1 by lia,List.range_succ_eq_map,bw,da];refine congr (congrArg _ ()) (dy λi _=>?_);show f+(k:Int)+((i+1:Nat):Int)=f+((k+1:Nat):Int)+i;lia
theorem mt.run(ok:mt n f g CC S){r:Int}{s s':hZ}{w:Int}{C:List Cs}(m:(h,r,j,s)∈S.hl)(ec:CC[(r-f).toNat]?=U C)(ho:yt C s=aq)(hw:sH w=D):mt n f g CC { S with hl:=ZX S.hl h (r,j+1,xj C w s) }:=by
 obtain⟨p1,p2⟩:=qw (b:=(r,j+1,xj C w s)) ok.hn m;obtain⟨C',ec',I,_⟩:=ok.rn _ m;obtain rfl:C'=C:=bJ (ec'.symm.trans ec);have O:=ok.cc.ok C' (bS ec);have jl:j<C'.length:=zfl I ho;have mm:∀e∈ZX S.hl h (r,j+1,xj C' w s),e=(h,r,j+1,xj C' w s)\/e∈S.hl:=λe he=>(bD.mp (p1.mem_iff.mp he)).imp id λz=>(sr.mp z).1;refine⟨ok.f0,ok.cc,ok.el,?_,ok.so,?_,λe he=>?_,λe he=>?_,ok.nt,ok.ly,ok.gw,ok.lw⟩
 ·refine dH (.append_left _ (.append_right _ ?_)) ok.pm;exact(p1.map λe:Int×Int×Nat×hZ=>e.2.1).trans (p2.map λe:Int×Int×Nat×hZ=>e.2.1).symm
 ·exact((p1.map λe:Int×Int×Nat×hZ=>e.1).trans (p2.map λe:Int×Int×Nat×hZ=>e.1).symm).nodup_iff.mpr ok.hn
 ·rcases mm e he with rfl|he
  ·show 0<=h/\h<n;exact ok.hr _ m
  ·exact ok.hr e he
 ·rcases mm e he with rfl|he
  ·exact⟨C',ec,zgm O.1 I ho hw,by show j+1<=11;have:=O.2;lia⟩
  ·exact ok.rn e he
theorem mt.iw(ok:mt n f g CC S)(p:Pl)(r:Int):sH (yj g S.ls p r)=D:=zaX _ _ ok.lw (ok.gw p)
theorem Mv.ok(ok:mt n f g CC S)(m:Mv f g CC S h e S')(h0:0<=h)(hn:h<n):mt n f g CC S':=by
 cases m with
 |step m ec ho ha=>exact ok.run (s':=st0) m ec ho rfl
 |read m ec ho ha=>exact ok.run (s':=st0) m ec ho (ok.iw _ _)
 |@lay r j s C gi m ec ho hg =>
  obtain⟨_,p2⟩:=qw (b:=(r,j,s)) ok.hn m;obtain⟨C',ec',I,j11⟩:=ok.rn _ m;obtain⟨k,rk,_,kl⟩:=ok.rh m;have rk:r=f+k:=rk;have l2:s.gi.length<=j:=I.ok.l2;have l3:s.no.length<=j:=I.ok.l3;have j11:j<=11:=j11;have lo:gi.length<=s.gi.length:=ze8 hg;have mm:∀y∈wQ S.ls r gi,y∈S.ls\/y=(r,gi):=λy hy=>(bB.mp hy).imp (λz=>(cr.mp z).1) λz=>br.mp z;refine⟨ok.f0,ok.cc,ok.el,?_,ok.so,ok.hn.sublist (de.map _),λe he=>ok.hr e (sr.mp he).1,λe he=>ok.rn e (sr.mp he).1,λe he=>?_,λy hy=>?_,ok.gw,λy hy=>?_⟩
  ·refine dH (.append_left _ ?_) ok.pm;refine dH ?_ (.append_right _ (p2.map λe:Int×Int×Nat×hZ=>e.2.1).symm);rw[bQ,<-cH];exact on
  ·rcases bB.mp he with he|he
   ·exact ok.nt e he
   ·cases br.mp he;exact(⟨I.ok.nd,zfh hg,(),()⟩:zbN s.no gi)
  ·rcases mm y hy with hy|rfl
   ·exact ok.ly y hy
   ·show f<=r/\r<_;lia
  ·rcases mm y hy with hy|rfl
   ·exact ok.lw y hy
   ·exact zhL I hg
 |@settle s gi m fr =>
  obtain⟨_,p2⟩:=qw (b:=(s,gi)) ok.nd.2.1.2.1 m;obtain⟨k,rk,_,kl⟩:=ok.rl (bt (f:=λe:Int×hZ×List aQ=>e.1) m);have rk:f+(S.en:Int)=f+k:=rk;refine⟨ok.f0,ok.cc,by show S.en+1<=_;lia,?_,ok.so,ok.hn,ok.hr,ok.rn,λe he=>ok.nt e (sr.mp he).1,ok.ly,ok.gw,ok.lw⟩;have z:=ok.pm;rw[VN (show S.en<CC.length by lia)] at z;refine List.Perm.cons_inv (a:=f+(S.en:Int)) (dH ?_ z);refine dH ?_ (.append_left _ (.append_left _ (p2.map λe:Int×hZ×List aQ=>e.1).symm));rw[<-cH,<-cH];exact rH.symm
 |@again r s gi p o ws' m hy hn' pw so fr =>
  obtain⟨_,p2⟩:=qw (b:=(s,gi)) ok.nd.2.1.2.1 m;refine⟨ok.f0,ok.cc,ok.el,?_,so,ok.hn,ok.hr,ok.rn,λe he=>ok.nt e (sr.mp he).1,ok.ly,ok.gw,ok.lw⟩;refine dH (.append_right _ pw) (dH ?_ ok.pm);refine dH ?_ (.append_left _ (.append_left _ (p2.map λe:Int×hZ×List aQ=>e.1).symm));rw[<-cH,<-cH];exact rH.symm
 |@take r m fr =>
  obtain⟨k,rk,_,kl⟩:=ok.rw_ m;refine⟨ok.f0,ok.cc,ok.el,?_,ok.so.sublist pI,?_,λe he=>?_,λe he=>?_,ok.nt,ok.ly,ok.gw,ok.lw⟩
  ·refine dH ?_ ((List.Perm.append_right _ (i8 m)).symm.trans ok.pm);rw[bQ,cH];show (S.ws.erase r++(S.hl.map (·.2.1)++r::S.ld.map (·.1))).Perm (r::(S.ws.erase r++(S.hl.map (·.2.1)++S.ld.map (·.1))));rw[<-cH,<-cH];exact List.perm_middle
  ·rw[bQ];refine cV.mpr ⟨ok.hn,by simp,λx hx y hy z=>fr ?_⟩;rw[<-show y=h from br.mp hy,<-z];exact hx
  ·rcases bB.mp he with he|he
   ·exact ok.hr e he
   ·cases br.mp he;exact⟨h0,hn⟩
  ·rcases bB.mp he with he|he
   ·exact ok.rn e he
   ·cases br.mp he;exact⟨_,bb (show (r-f).toNat<CC.length by lia),rn0,bT _⟩
 |rest w l fr=>exact ok
end
def tH(f:Int)(n:Nat)(r:Int):Nat:=14*2^(n-1-(r-f).toNat)
open Classical in
noncomputable def pen(f:Int)(n:Nat)(g:List aQ)(ls:List (Int×List aQ))(r:Int)(no:List aQ):Nat:=if Agr g ls r no then 0 else tH f n r
noncomputable def phH(f:Int)(n:Nat)(g:List aQ)(ls:List (Int×List aQ))(e:Int×Int×Nat×hZ):Nat:=11-e.2.2.1+2+(tH f n e.2.1-14)+pen f n g ls e.2.1 e.2.2.2.no
noncomputable def phL(f:Int)(n:Nat)(g:List aQ)(ls:List (Int×List aQ))(e:Int×hZ×List aQ):Nat:=1+pen f n g ls e.1 e.2.1.no
noncomputable def Phi(f:Int)(n:Nat)(g:List aQ)(S:DS):Nat:=(S.ws.map (tH f n)).sum+((S.hl.map (phH f n g S.ls)).sum+(S.ld.map (phL f n g S.ls)).sum)
section
variable {f h r r':Int}{n k:Nat}{N:Int}{g gi no:List aQ}{CC:List (List Cs)}{S S':DS}{e:Ev}{ls ls':List (Int×List aQ)}
theorem zfm:14<=tH f n r:=Nat.le_mul_of_pos_right 14 (Nat.pow_pos ())
theorem zbS:∀m k:Nat,k+m=n->((vN f k n).map (tH f n)).sum=14*(2^m-1)
 |0,k,h=>by
  rw[show vN f k n=[] by unfold vN;rw[show n-k=0 by lia];rfl];rfl
 |m+1,k,h=>by
  rw[VN (),bw,cC,zbS m (k+1) ()];unfold tH;rw[show n-1-(f+(k:Int)-f).toNat=m by lia,Nat.pow_succ];have:1<=2^m:=Nat.pow_pos ();lia
theorem zbT:pen f n g ls r no<=tH f n r:=by unfold pen;split;exact bT _;exact bp _
theorem zfn(h:∀p,yj g ls' p r=yj g ls p r):pen f n g ls' r no=pen f n g ls r no:=by
 have:Agr g ls' r no↔Agr g ls r no:=forall_congr' λy=>by rw[h]
 unfold pen;rw[propext this]
def exR(f:Int)(n:Nat)(r x:Int):Nat:=if r<x then tH f n x else 0
theorem zcH:pen f n g (wQ ls r gi) r' no<=pen f n g ls r' no+exR f n r r':=by
 by_cases c:r<r'
 ·have:=zbT (f:=f) (n:=n) (g:=g) (ls:=wQ ls r gi) (r:=r') (no:=no);unfold exR;rw[au c];lia
 ·rw[zfn λp=>zaV ()];exact gL _ _
theorem zcI(ok:mt N f g CC S)(m:(h,r,j,s)∈S.hl)(jl:j<11)(ag:Agr g S.ls r s.no->Agr g S.ls r s'.no):Phi f n g { S with hl:=ZX S.hl h (r,j+1,s') }<Phi f n g S:=by
 obtain⟨e1,e2⟩:=Xu (b:=(r,j+1,s')) (q:=phH f n g S.ls) ok.hn m;have:pen f n g S.ls r s'.no<=pen f n g S.ls r s.no:=by
  unfold pen;split
  ·exact bT _
  ·rw[ap λz=>(by assumption:¬ _) (ag z)];exact bp _
 have p1:phH f n g S.ls (h,r,j+1,s')=11-(j+1)+2+(tH f n r-14)+pen f n g S.ls r s'.no:=rfl;have p2:phH f n g S.ls (h,r,j,s)=11-j+2+(tH f n r-14)+pen f n g S.ls r s.no:=rfl;unfold Phi;dsimp only;lia
theorem Mv.dec(ok:mt N f g CC S)(m:Mv f g CC S h e S'):(e=.rest/\S'=S)\/Phi f CC.length g S'<Phi f CC.length g S:=by
 have run:∀ {r j s C},(h,r,j,s)∈S.hl->CC[(r-f).toNat]?=U C->yt C s=aq->j<11:=λ{r j s C} m ec ho=>by
  obtain⟨C',ec',I,_⟩:=ok.rn _ m;obtain rfl:C'=C:=bJ (ec'.symm.trans ec);have:=(ok.cc.ok C' (bS ec)).2;have:j<C'.length:=zfl I ho;lia
 cases m with
 |step m ec ho ha =>
  refine .inr (zcI ok m (run m ec ho) λz=>?_);rw[(zcv ho).1 ha];exact z
 |read m ec ho ha =>
  refine .inr (zcI ok m (run m ec ho) λz=>?_);rw[(zcv ho).2 _ ha];intro y hy;rcases bB.mp hy with hy|hy
  ·exact z y hy
  ·rw[br.mp hy]
 |@lay r j s C gi m ec ho hg =>
  refine .inr ?_;obtain⟨_,p2⟩:=qw (b:=(r,j,s)) ok.hn m;obtain⟨_,e2⟩:=Xu (b:=(r,j,s)) (q:=phH f CC.length g S.ls) ok.hn m;obtain⟨k,rk,_,kl⟩:=ok.rh m;have rk:r=f+k:=rk;have b1:((yg S.hl h).map (phH f CC.length g (wQ S.ls r gi))).sum<=((yg S.hl h).map (phH f CC.length g S.ls)).sum+((yg S.hl h).map λe=>exR f CC.length r e.2.1).sum:=by
   rw[<-WU];exact kJ λx _=>by have:=zcH (f:=f) (n:=CC.length) (g:=g) (ls:=S.ls) (r:=r) (gi:=gi) (r':=x.2.1) (no:=x.2.2.2.no);unfold phH;lia
  have b2:(S.ld.map (phL f CC.length g (wQ S.ls r gi))).sum<=(S.ld.map (phL f CC.length g S.ls)).sum+(S.ld.map λe=>exR f CC.length r e.1).sum:=by
   rw[<-WU];exact kJ λx _=>by have:=zcH (f:=f) (n:=CC.length) (g:=g) (ls:=S.ls) (r:=r) (gi:=gi) (r':=x.1) (no:=x.2.1.no);unfold phL;lia
  have b3:((yg S.hl h).map λe=>exR f CC.length r e.2.1).sum+(S.ld.map λe=>exR f CC.length r e.1).sum<=tH f CC.length r-14:=by
   have z:((yg S.hl h).map λe=>exR f CC.length r e.2.1).sum+(S.ld.map λe=>exR f CC.length r e.1).sum=((((yg S.hl h).map (·.2.1)++S.ld.map (·.1)).filter λx=>decide (r<x)).map (tH f CC.length)).sum:=by
    rw[<-zcG,bQ,fJ,da,da];rfl
   rw[z];have sb:((yg S.hl h).map (·.2.1)++S.ld.map (·.1)).Sublist (S.hl.map (·.2.1)++S.ld.map (·.1)):=(de.map _).append (List.Sublist.refl _);have nd:=(ok.pm.nodup_iff.mpr zfk).sublist (List.sublist_append_right S.ws _);refine bN (Kf (b:=vN f (k+1) CC.length) (nd.sublist (List.filter_sublist.trans sb)) λx hx=>?_) ?_
   ·obtain⟨h1,h2⟩:=cr.mp hx;obtain⟨j,ej,_,jl⟩:=ok.rk (bP _ (sb.subset h1));have:=of_decide_eq_true h2;exact rks_mem.mpr ⟨j,ej,(),jl⟩
   ·rw[zbS (CC.length-(k+1)) (k+1) ()];unfold tH;rw[show CC.length-1-(r-f).toNat=CC.length-(k+1) by lia];lia
  have b4:=zfn (f:=f) (n:=CC.length) (g:=g) (no:=s.no) (ls:=S.ls) (ls':=wQ S.ls r gi) (r:=r) λp=>zaV (rX r);have p1:phH f CC.length g S.ls (h,r,j,s)=11-j+2+(tH f CC.length r-14)+pen f CC.length g S.ls r s.no:=rfl;have p2:([(r,s,gi)].map (phL f CC.length g (wQ S.ls r gi))).sum=1+pen f CC.length g (wQ S.ls r gi) r s.no+0:=rfl;unfold Phi;dsimp only;rw[bQ,fJ];lia
 |@settle s gi m fr =>
  obtain⟨_,e2⟩:=Xu (b:=(s,gi)) (q:=phL f CC.length g S.ls) ok.nd.2.1.2.1 m;refine .inr ?_;have p1:phL f CC.length g S.ls (f+S.en,s,gi)=1+pen f CC.length g S.ls (f+S.en) s.no:=rfl;unfold Phi;dsimp only;lia
 |@again r s gi p o ws' m hy hn pw so fr =>
  obtain⟨_,e2⟩:=Xu (b:=(s,gi)) (q:=phL f CC.length g S.ls) ok.nd.2.1.2.1 m;refine .inr ?_;have e1:pen f CC.length g S.ls r s.no=tH f CC.length r:=by unfold pen;exact ap λz=>hn (z _ hy)
  have p1:phL f CC.length g S.ls (r,s,gi)=1+pen f CC.length g S.ls r s.no:=rfl;unfold Phi;dsimp only;rw[(pw.map (tH f CC.length)).sum_nat,bw,cC];lia
 |@take r m fr =>
  refine .inr ?_;have e1:=((i8 m).map (tH f CC.length)).sum_nat;rw[bw,cC] at e1;have e2:pen f CC.length g S.ls r st0.no=0:=by unfold pen;exact au λy hy=>nomatch hy
  have:=zfm (f:=f) (n:=CC.length) (r:=r);have p1:([(h,r,0,st0)].map (phH f CC.length g S.ls)).sum=11-0+2+(tH f CC.length r-14)+pen f CC.length g S.ls r st0.no+0:=rfl;unfold Phi;dsimp only;rw[bQ,fJ];lia
 |rest w l fr=>exact .inl ⟨Y,Y⟩
theorem zhX(ok:mt N f g CC S):Phi f CC.length g S<=1000:=by
 have l5:=ok.cc.le;have w:∀ {e},e∈S.hl->phH f CC.length g S.ls e<=2*tH f CC.length e.2.1:=λ{e} he=>by
  have:=zfm (f:=f) (n:=CC.length) (r:=e.2.1);have:=zbT (f:=f) (n:=CC.length) (g:=g) (ls:=S.ls) (r:=e.2.1) (no:=e.2.2.2.no);unfold phH;lia
 have w2:∀ {e},e∈S.ld->phL f CC.length g S.ls e<=2*tH f CC.length e.1:=λ{e} he=>by
  have:=zfm (f:=f) (n:=CC.length) (r:=e.1);have:=zbT (f:=f) (n:=CC.length) (g:=g) (ls:=S.ls) (r:=e.1) (no:=e.2.1.no);unfold phL;lia
 have a1:(S.hl.map (phH f CC.length g S.ls)).sum<=(S.hl.map λe=>2*tH f CC.length e.2.1).sum:=kJ λe he=>w he;have a2:(S.ld.map (phL f CC.length g S.ls)).sum<=(S.ld.map λe=>2*tH f CC.length e.1).sum:=kJ λe he=>w2 he;have a3:=kJ (l:=S.ws) (q:=tH f CC.length) (q':=λr=>2*tH f CC.length r) λe _=>by lia
 have z:=(ok.pm.map λr=>2*tH f CC.length r).sum_nat;rw[bQ,bQ,fJ,fJ,da,da] at z;have y:=zbS (f:=f) (n:=CC.length) (CC.length-S.en) S.en (by have:=ok.el;lia);have t:=WU (q:=tH f CC.length) (q':=tH f CC.length) (l:=vN f S.en CC.length);have t':((vN f S.en CC.length).map λr=>2*tH f CC.length r).sum=((vN f S.en CC.length).map λx=>tH f CC.length x+tH f CC.length x).sum:=by
  congr 1;exact dy λx _=>by lia
 have p:2^(CC.length-S.en)<=2^5:=Nat.pow_le_pow_right () ();have p:2^(CC.length-S.en)<=32:=p;have z:(S.ws.map λr=>2*tH f CC.length r).sum+((S.hl.map λe=>2*tH f CC.length e.2.1).sum+(S.ld.map λe=>2*tH f CC.length e.1).sum)=_:=z;unfold Phi;lia
end
section
variable {H':Hp}{lb lb':L->Nat}{d l:L}{a:tI}{cs en xs ys:List V}{CC:List (List Cs)}{n f h:Int}{g:List aQ}{S S':DS}{v:V}{es:List He}{e:Ev}{J:List He->DS->Prop}
theorem sV.ts(h:sV H v x)(ts:tw H H'):sV H' v x:=let ⟨b,q,e,h1,h2⟩:=h;⟨b,q,e,ts _ _ h1,λp z=>ts _ _ (h2 p z)⟩
theorem zfo(h:Paired (sV H) xs es)(ts:tw H H'):Paired (sV H') xs es:=Paired.mapP h λ_ _ z=>z.ts ts
theorem Fr.up{M:Nat->Prop}(h:Fr M H H' lb lb')(hl:H' l=U (.lst xs))(hn:H l=ao):Fr M H (upd H' l (.lst ys)) lb lb':=⟨h.ex,λb o z e=>by rw[zk (λy=>by rw[y,hn] at e;cases e)];exact h.kp b o z e,λb zs e=>jn hl () _ _ (h.ts b zs e),λb o e=>let ⟨o',e'⟩:=h.al b o e;YH b o' e'⟩
def TnI(n:Int)(S:DS)(i t:Nat):Prop:=t<8/\(S.hl=[]\/∃e∈S.hl,((i:Int)+t)%n=e.1)
theorem zfp(ok:mt n f g CC S)(h1:1<=n)(h8:n<=8)(i:Nat):∃t,TnI n S i t:=by
 cases e:S.hl with
 |nil=>exact⟨0,(),.inl e⟩
 |cons x xs =>
  have m:x∈S.hl:=by rw[e];exact bo
  obtain⟨a1,a2⟩:=ok.hr x m;have b1:=cA (x.1-i) (show n≠0 by lia);have b2:=ck (x.1-i) (show 0<n by lia);refine⟨((x.1-i)%n).toNat,(),.inr ⟨x,m,?_⟩⟩;rw[lR b1,Int.add_emod,Int.emod_emod_of_dvd _ (Int.dvd_refl n),<-Int.add_emod,show (i:Int)+(x.1-i)=x.1 by lia,Int.emod_eq_of_lt a1 a2]
structure FnI(t:bv)(H:Hp)(d l:L)(a:tI)(lb:L->Nat)(n f:Int)(g:List aQ)(CC:List (List Cs))(J:List He->DS->Prop)(m:Nat)(H':Hp)(lb':L->Nat)(xs:List V)(es:List He)(S:DS)(t':Nat):Prop where
 em:m=8*Phi f CC.length g S+t'
 lm:xs.length+m<=9000
 tn:TnI n S xs.length t'
 fr:Fr M0 H H' lb lb'
 hl:H' l=U (.lst xs)
 l0:lb' l=0
 pd:Paired (sV H') xs es
 js:J es S
 ok:mt n f g CC S
 dk:tj t H' d a lb' n f g CC S
def FnE(t:bv)(H:Hp)(d l:L)(a:tI)(lb:L->Nat)(n f:Int)(g:List aQ)(CC:List (List Cs))(J:List He->DS->Prop)(m:Nat)(σ:St)(H':Hp):Prop:=σ=[U (.ref d),U (.ref l)]/\∃lb' xs es S t',FnI t H d l a lb n f g CC J m H' lb' xs es S t'
theorem FnI.next{H2:Hp}{lb2:L->Nat}(I:FnI t H d l a lb n f g CC J m H' lb' xs es S t')(h1:1<=n)(h8:n<=8)(hn:H l=ao)(lt:S.en<CC.length)(js:∀es S h e S',J es S->mt n f g CC S->h=(es.length:Int)%n->Mv f g CC S h e S'->J (es++[(h,e)]) S')(F2:Fr M0 H' H2 lb' lb2)(ev:sV H2 v ((xs.length:Int)%n,e))(mv:Mv f g CC S ((xs.length:Int)%n) e S2)(G2:tj t H2 d a lb2 n f g CC S2):H2 l=U (.lst xs)/\∃m',m'<m/\FnE t H d l a lb n f g CC J m' [U (.ref d),U (.ref l)] (upd H2 l (.lst (xs++[v]))):=by
 have b1:=cA (xs.length:Int) (show n≠0 by lia);have b2:=ck (xs.length:Int) (show 0<n by lia);have hl2:=F2.kp _ _ (by rw[I.l0];exact .inl Y) I.hl;have l2:lb2 l=0:=(F2.ex _ _ I.hl).trans I.l0;have ts:tw H2 (upd H2 l (.lst (xs++[v]))):=jn hl2 λ_ z=>nomatch z
 have ok2:=Mv.ok I.ok mv b1 b2;have em:=I.em;have lm:=I.lm;refine⟨hl2,?_⟩;have fin:∀t2,TnI n S2 (xs.length+1) t2->8*Phi f CC.length g S2+t2<m->∃m',m'<m/\FnE t H d l a lb n f g CC J m' [U (.ref d),U (.ref l)] (upd H2 l (.lst (xs++[v]))):=λt2 T2 lt2=>⟨_,lt2,Y,lb2,xs++[v],es++[((xs.length:Int)%n,e)],S2,t2,Y,by rw[bF];show xs.length+1+_<=9000;lia,by rw[bF];exact T2,(I.fr.trans F2).up hl2 hn,zh,l2,Paired.snocP (zfo (zfo I.pd F2.ts) ts) (ev.ts ts),js es S _ e S2 I.js I.ok (by rw[bL I.pd]) mv,ok2,G2.put hl2 l2⟩;rcases mv.dec I.ok with ⟨rfl,e12⟩|dc
 ·cases mv with
  |rest w nl fr =>
   have ne:S.hl≠[]:=λz=>by
    have:=I.ok.pm;rw[w,z,VN lt] at this;exact nl (this.mem_iff.mpr bo)
   obtain⟨x,hx,ex⟩:=I.tn.2.resolve_left ne;have t0:t'≠0:=λz=>fr (by
    rw[z,show (xs.length:Int)+((0:Nat):Int)=xs.length by lia] at ex;rw[ex];exact bt (f:=λe:Int×Int×Nat×hZ=>e.1) hx)
   have:=I.tn.1;exact fin (t'-1) ⟨(),.inr ⟨x,hx,by rw[show ((xs.length+1:Nat):Int)+((t'-1:Nat):Int)=xs.length+t' by lia];exact ex⟩⟩ ()
 ·obtain⟨t2,T2⟩:=zfp ok2 h1 h8 (xs.length+1);have:=T2.1;exact fin t2 T2 ()
theorem WN{vs:List V}{_E:XK}(Bq:DkF K t)(h:v7 t vs H Q _E) :
  Zw K t (sA Q) (L2.start ["self","told"] vs) H:=by
 obtain⟨d,a,lb,n,f,g,CC,S,J,rfl,h,ok,h1,h8,j0,js,q⟩:=h;refine⟨(),λl hl=>?_⟩;have s0:=sJ (o:=HO.lst []) l hl;have P1:=zhX ok;obtain⟨t0,T0⟩:=zfp ok h1 h8 0;have:=T0.1;refine⟨FnE t H d l a lb n f g CC J,⟨_,Y,lb,[],[],S,t0,Y,by show 0+_<=9000;lia,T0,Fr.same s0,zh,h.l0 hl,.nil,j0,ok,h.same s0⟩,?_⟩;rintro m σ H1 ⟨rfl,lb1,xs,es,S1,t1,I⟩;obtain⟨e1,cs,en,ec,ee,lc,le⟩:=I.dk.cmp;refine(jm e1 Y Y ⟨d,_,a,n,f,en,Y,e1,ee,jm e1 Y Y ⟨d,_,a,n,f,cs,Y,e1,ec,_,_,Y,Y,_,Y,?_⟩⟩);have el:=I.ok.el;have lm:=I.lm;rcases gR en.length cs.length with lt|ge
 ·refine yv (Bj ()) ⟨λσ' H'=>∃m',m'<m/\FnE t H d l a lb n f g CC J m' σ' H',λ_ _ z=>z,?_⟩;have b1:=cA (xs.length:Int) (show n≠0 by lia);have b2:=ck (xs.length:Int) (show 0<n by lia);refine⟨_,Y,.inl ⟨Y,_,aT.of I.hl⟩,jm e1 Y Y ⟨_,Y,.ref l,xs.length,Y,.inl ⟨_,aT.of I.hl,Y⟩,yd e1 Bq.cD Bq.d1 Y Y ⟨_,_,Y,Y,by show (0:Int)<n;lia,d,a,lb1,n,f,(xs.length:Int)%n,g,CC,S1,Y,I.dk,I.ok,b1,b2,λv H2 lb2 e S2 F2 ev mv G2=>?_⟩⟩⟩;obtain⟨hl2,z⟩:=I.next h1 h8 hl () js F2 ev mv G2;exact⟨l,xs,v,Y,Y,hl2,bV (show xs.length<=9000 by lia) (by rw[bG];decide),z⟩
 ·exact ye (Bk ()) ⟨_,Y,q l xs es H1 lb1 S1 I.fr I.l0 hl I.hl I.pd () I.js I.ok () I.dk⟩
end
section
variable {H':Hp}{lw lw':L->Nat}{tl ll p gl:L}{g gi gs:List aQ}{kv:List (aV×V)}{rs:List Int}{ls:List (Int×List aQ)}{q0:Pl}{ac r w:Int}{te:TE}{Bq:Wx}{o0 o1 o3 o4 o5 o6:Option V}
theorem zgA(Bp:LdR H lw kv rs ls)(hr:(r,gi)∈ls)(lt:r<ac)(hw:zF gi q0=U w)(hi:∀y∈ls,r<y.1->y.1<ac->zF y.2 q0=ao):yj g ls q0 ac=w:=by
 unfold yj;have z0:0<=r:=Bp.z0 _ hr;rcases wU q0 ac ls (-1,(zF g q0).getD 0) with ⟨_,e2⟩|⟨y,hy,w',e1,e2,e3,e4,e5⟩
 ·have:=e2 _ hr (show (-1:Int)<r by lia) lt;rw[hw] at this;cases this
 ·rw[e4];have le:r<=y.1:=e5 _ hr lt (by rw[hw];exact λz=>nomatch z);rcases Int.lt_or_eq_of_le le with c|c
  ·rw[hi y hy c e2] at e1;cases e1
  ·rw[<-Qd Bp.nl hr hy c,hw] at e1;exact(bJ e1).symm
theorem zgB(h:∀y∈ls,y.1<ac->zF y.2 q0=ao):yj g ls q0 ac=(zF g q0).getD 0:=by
 unfold yj;rcases wU q0 ac ls (-1,(zF g q0).getD 0) with ⟨e1,_⟩|⟨y,hy,w',e1,e2,_⟩
 ·rw[e1]
 ·rw[h y hy e2] at e1;cases e1
theorem zcJ(hte:∀Q:VK,Q (.ref gl) H->te [o0,o1,U (.ref p),o3,o4,o5,o6] H Q)(h1:sI H gl gs)(tb:TbK gs)(hp:H p=U (.tup [.str q0.1,.int q0.2]))(hq:b9 q0.1=D)(kr:∀w,zF gs q0=U w->Bq.rt (.int w) H)(kn:zF gs q0=ao->∀o5 o6,Bq.nx [o0,o1,U (.ref p),o3,o4,o5,o6] H) :
  vS (xx K te) (Kn K 2 (w4 (zt 5) (w4 (zt 6) Km))) (zS (zG (aL (zf1 K aq) (Z 5) (Z 2))) (zL (Z 6)) zK) Bq [o0,o1,U (.ref p),o3,o4,o5,o6] H:=by
 obtain⟨ys,e1,e2⟩:=h1;refine hte _ ⟨gl,Y,⟨_,aT.of e1⟩,yI ys (λi σ H'=>H'=H/\(∃o5 o6,σ=[o0,o1,U (.ref p),o3,o4,o5,o6])/\∀r∈gs.take i,r.1≠q0) ⟨Y,⟨_,_,Y⟩,λ_ z=>nomatch z⟩ (λi σ H' z=>by rw[z.1];exact aT.of e1) ?_ ?_⟩
 ·rintro i v σ H' hi ⟨rfl,⟨o5,o6,rfl⟩,no⟩;obtain⟨r,hr,a,pl,rfl,ha,hpl⟩:=Paired.getP e2 hi;have mr:=bS hr;refine⟨a,_,Y,sB.of ha,Y,_,_,Y,_,_,Y,Y,_,Y,_,Y,plD r.1,plD q0,ze7 hpl,ze7 hp,⟨zaJ (tb.so r mr),zaJ hq,bN (zaK _) (),bN (zaK _) ()⟩,λb hb=>?_⟩;cases b with
  |true =>
   have e:r.1=q0:=zhI (hb.mp Y);refine⟨D,Y,yv Y ⟨_,Y,kr _ ((Y3 tb.nd).mpr ?_)⟩⟩;rw[<-e];exact mr
  |false =>
   refine⟨aq,Y,ye Y ⟨Y,⟨_,_,Y⟩,λx hx=>?_⟩⟩;rw[cU,hr] at hx;rcases bB.mp hx with z|z
   ·exact no x z
   ·cases br.mp z;exact λz=>nomatch hb.mpr (by rw[z])
 ·rintro σ H' ⟨rfl,⟨o5,o6,rfl⟩,no⟩;rw[bL e2,dL] at no;exact kn (XR no) _ _
theorem zdq(h1:sI H tl g)(tb:TbK g)(hp:H p=U (.tup [.str q0.1,.int q0.2]))(hq:b9 q0.1=D)(no:∀y∈ls,y.1<ac->zF y.2 q0=ao)(q:Q (.int (yj g ls q0 ac)) H) :
  Zy K t (sA Q) [U (.ref tl),o1,U (.ref p),o3,o4,o5,o6] H:=by
 rw[zgB no] at q;exact zcJ (te:=Z 0) (λQ z=>⟨_,Y,z⟩) h1 tb hp hq (λw z=>by rw[z] at q;exact q) λz o5 o6=>by rw[z] at q;exact q
theorem Jp{vs:List V}{_E:XK}(h:ql  vs H Q _E) :
  Xj K t (sA Q) (L2.start ["table","laid","place","rank","other","spot","worth"] vs) H:=by
 obtain⟨tl,ll,p,ac,g,kv,rs,ls,lw,q0,rfl,h1,tb,h3,Bp,hp,hq,q⟩:=h;have lk:kv.length=rs.length:=by have:=congrArg fE Bp.ks;rwa [bf,bf] at this
 have:=Bp.le;refine⟨_,Y,ll,kv,rs,Y,h3,Bp.ks,(),λl srt hl pm so=>?_⟩;generalize c_:upd H l _=H2;obtain⟨s2,e2⟩:=yW c_ hl;have q2:=q H2 s2;refine⟨l,Y,⟨_,aT.of e2⟩,yI (srt.map V.int) (λi σ H'=>H'=H2/\(∃o4 o5 o6,σ=[U (.ref tl),U (.ref ll),U (.ref p),U (.int ac),o4,o5,o6])/\∀y∈ls,y.1∈srt.take i->y.1<ac->zF y.2 q0=ao) ⟨Y,⟨_,_,_,Y⟩,λ_ _ z=>nomatch z⟩ (λi σ H' z=>by rw[z.1];exact aT.of e2) ?_ ?_⟩
 ·rintro i v σ H' hi ⟨rfl,⟨o4,o5,o6,rfl⟩,no⟩;rw[bx] at hi;obtain⟨r,hr,rfl⟩:=bY.mp hi;obtain⟨⟨r',gi⟩,hy,er⟩:=bC.mp ((Bp.mm r).mp (pm.mem_iff.mp (bS hr)));have hy:(r,gi)∈ls:=by rw[<-er];exact hy
  obtain⟨gl,hv,hg,_⟩:=Bp.vv _ hy;have tk:∀y∈ls,y.1∈srt.take (i+1)->y=(r,gi)\/y.1∈srt.take i:=λy my z=>by
   rw[cU,hr] at z;rcases bB.mp z with z|z
   ·exact .inr z
   ·exact .inl (Qd Bp.nl my hy (br.mp z))
  refine⟨_,Y,_,Y,_,_,Y,Y,_,Y,?_⟩;by_cases c:r<ac
  ·have dg:sL H' ll (.int r) (U (.ref gl)):=by
    have z:=sL.k (k:=.inl r) (s2 _ _ h3)
    rwa [hv] at z
   refine yv (Bj c) (zcJ (te:=j6 (Z 1) (Z 4)) (λQ z=>⟨_,Y,_,Y,ll,_,Y,dg,z⟩) (hg.same s2) (Bp.tk _ hy) (s2 _ _ hp) hq (λw z=>?_) λz o5 o6=>⟨Y,⟨_,_,_,Y⟩,λy my m lt=>?_⟩)
   ·rw[zgA (g:=g) Bp hy c z λy my ly lt=>no y my ?_ lt] at q2
    ·exact q2
    ·have m:=pm.mem_iff.mpr ((Bp.mm y.1).mpr (bt (f:=(·.1)) my));obtain⟨k,hk⟩:=cM m;rcases gR k i with c|c
     ·exact bS (show (srt.take i)[k]?=U y.1 by rw[eW,au c];exact hk)
     ·obtain⟨h1,e1⟩:=bn.mp hk;obtain⟨h2,e2⟩:=bn.mp hr;rcases Nat.lt_or_eq_of_le c with c|c
      ·have:=dU.mp so i k h2 h1 c;rw[e1,e2] at this;lia
      ·subst c;rw[e1] at e2;lia
   ·rcases tk y my m with rfl|z
    ·exact z
    ·exact no y my z lt
  ·exact ye (Bk c) ⟨Y,⟨_,_,_,Y⟩,λy my m lt=>by
    rcases tk y my m with rfl|z
    ·exact absurd lt c
    ·exact no y my z lt⟩
 ·rintro σ H' ⟨rfl,⟨o4,o5,o6,rfl⟩,no⟩;rw[bf,dL] at no;exact zdq (t:=t) (h1.same s2) tb (s2 _ _ hp) hq (λy my=>no y my (pm.mem_iff.mpr ((Bp.mm y.1).mpr (bt (f:=(·.1)) my)))) q2
end
theorem AlkV.mono{H H':Hp}(s:aK H H')(h:AlkV H n v u):AlkV H' n v u:=by
 induction h with
 |int i=>exact .int i
 |str x=>exact .str x
 |tup e1 e2 l _ ih=>exact .tup (s _ _ e1) (s _ _ e2) l ih
theorem ZE{H:Hp}{Q:VK}{E:XK}(h:y9 0 vs H Q E):False:=by
 obtain⟨v,u,_,h,_⟩:=h;cases h
theorem Kg(h0:σ[i]?=U (U v))(ty:Yk K H v tv)(k:fC K tv (.type T)=U b)(q:Q (.bl b) H):sG (ki K) (zc (Z i) (zc (tC (.ty T)) zj)) σ H Q:=⟨_,h0,v,.ty T,tv,b,Y,ty,⟨T,Y,k⟩,q⟩
theorem jo{Q:Bool->Hp->Prop}(h0:σ[i]?=U (U v))(ty:Yk K H v tv)(k:fC K tv (.type T)=U b)(q:Q b H):tB (sG (ki K) (zc (Z i) (zc (tC (.ty T)) zj))) σ H Q:=Kg h0 ty k ⟨b,Y,q⟩
theorem Kh{v:V}(q:Q (.bl D) H):Q (.bl (decide (v=v))) H:=by rw[Bj rfl];exact q
theorem VO{n:Nat}{v u:V}(F:KF K)(h:AlkV H (n+1) v u)(q:∀H',aK H H'->Q (.bl D) H') :
  jW K t n (sA Q) (L2.start ["found","due","one","other"] [v,u]) H:=by
 unfold jW zo zS tOr VW kL;cases h with
 |int i =>
  refine jo Y (.int i) F.i_l (ye Y (jo Y (.int i) F.i_t (ye Y (jo Y (.int i) F.i_s (ye Y ?_)))));exact Kg Y (.int i) (xG _) ⟨D,Y,yv Y (Kg Y (.int i) F.i_b ⟨aq,Y,D,Y,yv Y ⟨_,Y,_,Y,Y,Kh (q _ (aK.refl _))⟩⟩)⟩
 |str y =>
  refine jo Y (.str y) F.s_l (ye Y (jo Y (.str y) F.s_t (ye Y (jo Y (.str y) (xG _) (yv Y ?_)))));exact Kg Y (.str y) (xG _) ⟨D,Y,yv Y ⟨_,Y,_,Y,Y,Kh (q _ (aK.refl _))⟩⟩
 |@tup _ a b xs ys ha hb ll hx =>
  refine jo Y (.tup hb) F.t_l (ye Y (jo Y (.tup hb) (xG _) (yv Y (jo Y (.tup ha) F.t_l (yv Y (jo Y (.tup ha) (xG _) (ye Y ?_)))))));refine Kg Y (.tup ha) F.t_l (Kg Y (.tup hb) F.t_l ⟨Y,_,Y,ye Y ?_⟩);refine⟨_,Y,.ref a,xs.length,Y,.inr ⟨_,sB.of ha,Y⟩,_,Y,.ref b,ys.length,Y,.inr ⟨_,sB.of hb,Y⟩,Y,_,Y,ye (by rw[Bj (by rw[ll])];rfl) ?_⟩;refine⟨_,Y,_,Y,a,b,xs,ys,Y,sB.of ha,sB.of hb,ll,zec xs ys (λ_ σ H'=>(∃o1 o2,σ=[U (.ref a),U (.ref b),o1,o2])/\aK H H') ⟨⟨_,_,Y⟩,aK.refl _⟩ (λi σ H' z=>⟨sB.of (z.2 _ _ ha),sB.of (z.2 _ _ hb)⟩) ?_ ?_⟩
  ·rintro i x y T σ H1 hi hj hT ⟨⟨o1,o2,rfl⟩,S⟩;have s1:=sJ (o:=HO.tup [x,y]) T hT;exact⟨T,_,Y,sB.of zh,Y,_,_,Y,_,_,Y,Y,_,Y,_,Y,x,y,Y,AlkV.mono (S.trans s1) (hx i x y hi hj),λH2 s2=>⟨_,Y,ye Y ⟨⟨_,_,Y⟩,S.trans (s1.trans s2)⟩⟩⟩
  ·rintro σ H' ⟨_,S⟩;exact q _ S
section
variable {C:List Cs}{s:hZ}
theorem zgC(O:V6 C)(e:wG C s=U p):zF s.no p=ao/\b9 p.1=D:=by
 unfold wG at e;split at e
 ·cases e
 ·rename_i no;have lt:=ZQ no;have hc:C[s.n]?=U C[s.n]:=bb lt;have pl:=O.pl _ (eD lt);rw[hc] at e;generalize C[s.n]=c at *
  have e:vD c s=U p:=e;cases c with
  |go to=>cases e
  |skip e' to=>cases e
  |row r =>
   cases r with
   |off e'=>cases e
   |iff e' b d=>cases e
   |give sh e' f=>cases e
   |lt x e'=>cases e
   |say e'=>cases e
   |take sh e' x =>
    cases hk:rk s.sl e' with
    |error er=>simp only[vD,hk] at e;cases e
    |ok n =>
     simp only[vD,hk] at e;split at e
     ·cases e
     ·rename_i c;cases e;refine⟨?_,pl.1⟩;cases hl:zF s.no (sh,n) with
      |none=>rfl
      |some i=>exact absurd (.inr (by rw[hl];rfl)) c
end
section
variable {H':Hp}{lw:L->Nat}{tl ll x qa qb:L}{ra:RAd}{C:List Cs}{s s':hZ}{j:Nat}{g:List aQ}{kv:List (aV×V)}{rs:List Int}{ls:List (Int×List aQ)}{h r f m:Int}{v u:V}{e:Ev}{y:He}
theorem zgD:∀(e:Ev) (i:Nat) (y z:V),(evX qa e)[i]?=U y->(evX qb e)[i]?=U z->(∃n,y=.int n/\z=.int n)\/(y=.ref qa/\z=.ref qb/\∃p,evP e=U p):=by
 intro e i y z;cases e <;> rcases i with _|_|_|_|i <;> intro h1 h2 <;> first|exact .inl ⟨_,(bJ h1).symm,(bJ h2).symm⟩|exact .inr ⟨(bJ h1).symm,(bJ h2).symm,_,Y⟩|cases h1
theorem zbU(h1:sV H v y)(h2:sV H u y):AlkV H 3 v u:=by
 obtain⟨a,qa,rfl,e1,p1⟩:=h1;obtain⟨b,qb,rfl,e2,p2⟩:=h2;refine .tup e1 e2 (by cases y.2 <;> rfl) λi x z hx hz=>?_;rcases i with _|_|i
 ·cases hx;cases hz;exact .str _
 ·cases hx;cases hz;exact .int _
 ·rcases zgD y.2 i x z hx hz with ⟨n,rfl,rfl⟩|⟨rfl,rfl,p,hp⟩
  ·exact .int _
  ·refine .tup (p1 p hp) (p2 p hp) Y λi x z hx hz=>?_;rcases i with _|_|i
   ·cases hx;cases hz;exact .str _
   ·cases hx;cases hz;exact .int _
   ·cases hx
theorem LdR.same(Bp:LdR H lw kv rs ls)(k:aK H H'):LdR H' lw kv rs ls:={ Bp with vv:=λy hy=>let ⟨gl,a,b,c⟩:=Bp.vv y hy;⟨gl,a,b.same k,c⟩ }
theorem Ki{o7:Option V}{w0:V}(h1:sV H v (h,e))(R:aY t H x ra C s)(O:V6 C)(I:RnI C j s)(j11:j<=11)(ht:sI H tl g)(tb:TbK g)(hd:H ll=U (.dK kv))(Bp:LdR H lw kv rs ls)(he:HlE C s g ls r e)(ho:yt C s=aq)(ha:(wG C s=ao/\w0=.non)\/∃p q,wG C s=U p/\w0=.ref q/\H q=U (.tup [.str p.1,.int p.2]))
  (q2:∀H',Wk e=aq->Kp x ra H H'->aY t H' x ra C (xj C (hlW e) s)->Q (.bl D) H') :
  vm K t (sA Q) [U v,U (.int h),U (.int r),U (.ref x),U (.ref tl),U (.ref ll),U w0,o7] H:=by
 cases e with
 |step r' =>
  obtain⟨rfl,_,na⟩:=he;rcases ha with ⟨_,rfl⟩|⟨p,q,ea,_⟩
  ·refine⟨_,Y,Y,_,Y,yv Y (jm R.ix Y Y ⟨x,0,j,ra,C,s,Y,R,O.ok,I.ok,(),λH4 k4 R4=>?_⟩)⟩;refine⟨_,Y,_,Y,_,Y,by show 3<=Bb;rw[bG];decide,λp hp=>?_⟩;have s6:=sJ (o:=HO.tup [V.str "step",V.int h,V.int r']) p hp;exact⟨v,.ref p,Y,zbU ((h1.ts (Kp.ts R k4)).ts (tw.of s6)) (Yh (e:=.step r') p zh λ_ z=>nomatch z),λH7 s7=>q2 H7 Y (λb o z y=>s7 _ _ (s6 _ _ (k4 b o z y))) ((R4.same s6).same s7)⟩
  ·rw[na] at ea;cases ea
 |read r' p w =>
  obtain⟨rfl,_,ea,rfl⟩:=he;rcases ha with ⟨na,_⟩|⟨p',q1,ea',rfl,hq⟩
  ·rw[na] at ea;cases ea
  ·obtain rfl:p'=p:=bJ (ea'.symm.trans ea);refine⟨_,Y,Y,_,Y,ye Y ⟨_,Y,_,Y,_,Y,_,Y,tl,ll,q1,r',g,kv,rs,ls,lw,p',Y,ht,tb,hd,Bp,hq,(zgC O ea).2,λH4 s4=>?_⟩⟩;refine jm (R.same s4).ix Y Y ⟨_,Y,x,yj g ls p' r',j,ra,C,s,Y,R.same s4,O.ok,I.ok,(),λH5 k5 R5=>?_⟩;have ts:=Kp.ts (R.same s4) k5;refine⟨_,Y,_,Y,_,Y,_,Y,_,Y,by show 5<=Bb;rw[bG];decide,λp hp=>?_⟩;have s6:=sJ (o:=HO.tup [V.str "read",V.int h,V.int r',V.ref q1,V.int (yj g ls p' r')]) p hp;exact⟨v,.ref p,Y,zbU (((h1.ts (tw.of s4)).ts ts).ts (tw.of s6)) (Yh (e:=.read r' p' _) q1 zh λp e=>by cases e;exact s6 _ _ (ts _ _ (s4 _ _ hq))),λH7 s7=>q2 H7 Y (λb o z y=>s7 _ _ (s6 _ _ (k5 b o z (s4 _ _ y)))) ((R5.same s6).same s7)⟩
 |lay r' =>
  have:=he.2;rw[ho] at this;cases this
 |_=>exact he.elim
theorem ZZ{vs:List V}{_E:XK}(h:xl t vs H Q _E) :
  ji K t (sA Q) (L2.start ["row","hand","rank","run","table","laid","place","worth"] vs) H:=by
 obtain⟨v,h,r,x,tl,ll,ra,C,s,j,e,g,kv,rs,ls,lw,rfl,h1,R,O,I,j11,ht,tb,hd,Bp,he,q1,q2⟩:=h;refine jm R.ix Y Y ⟨x,ra,C,s,Y,R,λH2 s2=>⟨_,Y,?_⟩⟩;have R2:=R.same s2;have l2:s.gi.length<=j:=I.ok.l2;have l3:s.no.length<=j:=I.ok.l3;cases ho:yt C s with
 |true =>
  have er:e=.lay r:=by
   cases e with
   |lay r'=>rw[he.1]
   |step r'=>have:=he.2.1;rw[ho] at this;cases this
   |read r' p w=>have:=he.2.1;rw[ho] at this;cases this
   |_=>exact he.elim
  subst er;have lk:kv.length=rs.length:=by have:=congrArg fE Bp.ks;rwa [bf,bf] at this
  have:=Bp.le;refine yv Y (jm R2.ix Y Y ⟨x,ra,C,s,Y,R2,(),I.ok.nd,(),(λH' z=>by rw[ho] at z;cases z),λr' o nl gl out H4 _ s4 hnl hgl _ hr oc hn hg gi=>?_⟩);have hd4:=s4 _ _ (s2 _ _ hd);refine⟨r',_,2,_,Y,Y,sB.of hr,Y,_,Y,_,Y,ll,_,Y,.k (k:=.inl r) hd4 (by rw[bG];lia),?_⟩;have ng:gl≠ll:=λz=>by rw[z,s2 _ _ hd] at hgl;cases hgl
  have ts:tw H4 (upd H4 ll (.dK (yq kv (.inl r) (.ref gl)))):=jn hd4 λ_ z=>nomatch z
  have k5:∀b o,b≠ll->H b=U o->upd H4 ll (.dK (yq kv (.inl r) (.ref gl))) b=U o:=λb o z e=>by rw[zk z];exact s4 _ _ (s2 _ _ e)
  have g5:sI (upd H4 ll (.dK (yq kv (.inl r) (.ref gl)))) gl out:=let ⟨xs,a,b⟩:=hg;⟨xs,by rw[zk ng];exact a,jk ts b⟩
  have e5:upd H4 ll (.dK (yq kv (.inl r) (.ref gl))) ll=U (.dK (yq kv (.inl r) (.ref gl))):=zh;have v5:=((h1.ts (tw.of (s2.trans s4))).ts ts);generalize upd H4 ll (.dK (yq kv (.inl r) (.ref gl)))=H5 at *
  refine⟨_,Y,_,Y,_,Y,by show 3<=Bb;rw[bG];decide,λp hp=>?_⟩;have s6:=sJ (o:=HO.tup [V.str "lay",V.int h,V.int r]) p hp;have fg:H gl=ao:=by
   cases z:H gl with
   |none=>rfl
   |some o=>rw[s2 _ _ z] at hgl;cases hgl
  exact⟨v,.ref p,Y,zbU (v5.ts (tw.of s6)) (Yh (e:=.lay r) p zh λ_ z=>nomatch z),λH7 s7=>q1 H7 gl out Y (λb o z e=>s7 _ _ (s6 _ _ (k5 b o z e))) (s7 _ _ (s6 _ _ e5)) fg ((g5.same s6).same s7) gi⟩
 |false =>
  refine ye Y (jm R2.ix Y Y ⟨x,ra,C,s,Y,R2,O.ok,I.ok.so,λH3 ha s3=>?_,λp q1 H3 ha s3 hq=>?_⟩)
  ·exact Ki (K:=K) (h1.ts (tw.of (s2.trans s3))) (R2.same s3) O I j11 (ht.same (s2.trans s3)) tb (s3 _ _ (s2 _ _ hd)) (Bp.same (s2.trans s3)) he ho (.inl ⟨ha,Y⟩) λH' z k=>q2 H' z λb o y e=>k b o y (s3 _ _ (s2 _ _ e))
  ·exact Ki (K:=K) (h1.ts (tw.of (s2.trans s3))) (R2.same s3) O I j11 (ht.same (s2.trans s3)) tb (s3 _ _ (s2 _ _ hd)) (Bp.same (s2.trans s3)) he ho (.inr ⟨p,q1,ha,Y,hq⟩) λH' z k=>q2 H' z λb o y e=>k b o y (s3 _ _ (s2 _ _ e))
end
section
variable {h r f m:Int}{v:V}{e:Ev}{a qa:L}
theorem zdr(ha:H a=U (.tup (.str (evW e)::.int h::evX qa e)))(e2:(evX qa e)[0]?=U (.int r))(b1:0<=r-f)(b2:r-f<m)(ln:(evX qa e).length+2=if V.str (evW e)=.str "again" then 6 else 3)(q:∀H',aK H H'->Q (.bl D) H') :
  vn K t (sA Q) [U (.ref a),U (.int h),U (.int m),U (.int f)] H:=by
 have ix:tE (V.str (evW e)::V.int h::evX qa e) 2=U (.int r):=yp (j:=2) e2;refine⟨_,Y,a,_,2,_,Y,Y,sB.of ha,ix,_,Y,_,_,Y,Y,_,_,Y,Y,_,Y,yv (Bj b1) ⟨_,Y,_,_,Y,Y,_,Y,yv (Bj b2) ?_⟩⟩;refine⟨_,Y,.ref a,(evX qa e).length+2,Y,.inr ⟨_,sB.of ha,Y⟩,by show 2<=Bb;rw[bG];decide,λl hl=>?_⟩;generalize c_:upd H l _=H2;obtain⟨s2,e2⟩:=yW c_ hl;refine⟨_,Y,a,_,0,.str (evW e),Y,Y,sB.of (s2 _ _ ha),yp (j:=0) Y,Y,_,Y,?_⟩;by_cases c:V.str (evW e)=.str "again"
 ·rw[au c] at ln;rw[Bj c];exact⟨l,_,1,.int 6,Y,Y,aT.of e2,Y,Y,by rw[ln];exact Kh (q _ s2)⟩
 ·rw[ap c] at ln;rw[Bk c];exact⟨l,_,0,.int 3,Y,Y,aT.of e2,Y,Y,by rw[ln];exact Kh (q _ s2)⟩
theorem X4(F:KF K)(ha:H a=U (.tup (.str (evW e)::.int h::evX qa e)))(e2:(evX qa e)[0]?=U (.int r))(b1:0<=r-f)(b2:r-f<m)(ln:(evX qa e).length+2=if V.str (evW e)=.str "again" then 6 else 3)(nr:V.str (evW e)≠.str "rest")(q:∀H',aK H H'->Q (.bl D) H') :
  vp K t (sA Q) [U (.ref a),U (.int h),U (.int m),U (.int f)] H:=by
 have ix:tE (V.str (evW e)::V.int h::evX qa e) 2=U (.int r):=yp (j:=2) e2;have l1:=(bn.mp e2).1;refine⟨_,Y,a,_,0,.str (evW e),Y,Y,sB.of ha,yp (j:=0) Y,Y,_,Y,ye (Bk nr) ?_⟩;unfold vo zo zS tOr kL;refine⟨_,Y,.ref a,(evX qa e).length+2,Y,.inr ⟨_,sB.of ha,Y⟩,_,_,Y,Y,_,Y,ye (Bk ()) ?_⟩;refine⟨_,Y,a,_,2,_,Y,Y,sB.of ha,ix,_,.ty "int",_,_,Y,.int _,⟨"int",Y,xG _⟩,D,Y,ye Y ?_⟩;refine⟨_,Y,a,_,2,_,Y,Y,sB.of ha,ix,_,.ty "bool",_,_,Y,.int _,⟨"bool",Y,F.i_b⟩,aq,Y,ye Y ?_⟩;exact zdr (t:=t) ha e2 b1 b2 ln q
theorem Z0{vs:List V}{_E:XK}(F:KF K)(h:xN vs H Q _E) :
  xO K t (sA Q) (L2.start ["row","hand","added","first"] vs) H:=by
 obtain⟨v,h,f,m,e,rfl,h1,he,q⟩:=h;obtain⟨a,qa,rfl,ha,_⟩:=h1;have ln:¬ ((2+(evX qa e).length:Nat):Int)<2:=by lia
 unfold xO zo zS tOr kL;refine jo Y (.tup ha) (xG _) (ye Y ?_);refine⟨_,Y,.ref a,2+(evX qa e).length,Y,.inr ⟨_,sB.of ha,by simp;lia⟩,_,_,Y,Y,_,Y,ye (Bk ln) ?_⟩;refine⟨_,Y,a,_,0,.str (evW e),Y,Y,sB.of ha,yp (j:=0) Y,_,.ty "str",_,_,Y,.str _,⟨"str",Y,xG _⟩,D,Y,ye Y ?_⟩;unfold vq zo zS tOr kL;refine⟨_,Y,a,_,0,.str (evW e),Y,Y,sB.of ha,yp (j:=0) Y,by show 4<=Bb;rw[bG];decide,λp hp=>?_⟩;generalize c_:upd H p _=H1;obtain⟨s1,e1⟩:=yW c_ hp;refine⟨p,_,Y,.inr (sB.of e1),Y,Y,_,Y,ye (by cases e <;> first|exact he.elim|(simp only[evW];decide)) ?_⟩;refine⟨_,Y,a,_,1,_,Y,Y,sB.of (s1 _ _ ha),yp (j:=1) Y,_,Y,.int h,.int h,Y,.int _,λH2 s2=>⟨_,Y,ye Y ?_⟩⟩;have S:=s1.trans s2;have ha:=S _ _ ha;have q:=λH' s'=>q H' (S.trans s');cases e with
 |rest=>exact⟨_,Y,a,_,0,_,Y,Y,sB.of ha,yp (j:=0) Y,Y,_,Y,yv (Bj Y) ⟨_,Y,.ref a,2,Y,.inr ⟨_,sB.of ha,Y⟩,Y,Kh (q _ (aK.refl _))⟩⟩
 |take r=>exact X4 F (e:=.take r) (qa:=qa) ha Y he.1 he.2 Y (by simp only[evW];decide) q
 |settle r=>exact X4 F (e:=.settle r) (qa:=qa) ha Y he.1 he.2 Y (by simp only[evW];decide) q
 |again r p o n=>exact X4 F (e:=.again r p o n) (qa:=qa) ha Y he.1 he.2 Y (by simp only[evW];decide) q
 |_=>exact he.elim
end
section
variable {H':Hp}{lw lw':L->Nat}{tl ll rl kl al x b gl:L}{ra:RAd}{C:List Cs}{CC:List (List Cs)}{s s':hZ}{j k i N m:Nat}{g gi:List aQ}{kv:List (aV×V)}{rs:List Int}{ls:List (Int×List aQ)}{h r f n:Int}{v:V}{e:Ev}{hl hl2:List (Int×Int×Nat×hZ)}{S S2:DS}{M:Nat->Prop}{o o':HO}{β:Type}
theorem zbV(e:H b=U o)(z:lw b=N)(nt:∀zs,o≠.tup zs):Fr (λl=>l≠N) H (upd H b o') lw lw:=⟨λ_ _ _=>rfl,λc u y w=>by rw[zk (λx=>y (by rw[x];exact z))];exact w,jn e nt,YH⟩
theorem LdR.fr(Bp:LdR H lw kv rs ls)(F:Fr M H H' lw lw')(hM:M 5):LdR H' lw' kv rs ls:={ Bp with vv:=λy hy=>let ⟨gl,a,⟨xs,b,c⟩,d⟩:=Bp.vv y hy;⟨gl,a,⟨xs,F.kp _ _ (by rw[d];exact hM) b,jk F.ts c⟩,(F.ex _ _ b).trans d⟩ }
theorem RuAt.fr(R:RuAt t H lw f CC hl i v)(F:Fr M H H' lw lw')(hM:M (20+i)):RuAt t H' lw' f CC hl i v:=by
 rcases R with z|⟨x,ra,r,j,s,C,e,m,c,R,l⟩
 ·exact .inl z
 ·obtain⟨R',l'⟩:=R.fr l F hM;exact .inr ⟨x,ra,r,j,s,C,e,m,c,R',l'⟩
theorem RuAt.mv(R:RuAt t H lw f CC hl i v)(z:∀b,((i:Int),b)∈hl2↔((i:Int),b)∈hl):RuAt t H lw f CC hl2 i v:=by
 rcases R with ⟨e,y⟩|⟨x,ra,r,j,s,C,e,m,c⟩
 ·refine .inl ⟨e,λw=>y ?_⟩;obtain⟨⟨_,b⟩,hb,rfl⟩:=bC.mp w;exact bt (f:=(·.1)) ((z b).mp hb)
 ·exact .inr ⟨x,ra,r,j,s,C,e,(z _).mpr m,c⟩
theorem sP.of(A:sP t H lw rl kl ll n f CC hl ls)(k:∀b o,lw b≠0->H b=U o->H' b=U o)(ts:tw H H')(ae:∀b o,H b=U o->∃o',H' b=U o'):sP t H' lw rl kl ll n f CC hl ls:=by
 have F:Fr (λl=>l≠0) H H' lw lw:=⟨λ_ _ _=>rfl,k,ts,ae⟩;obtain⟨⟨us,a1,a2,a3⟩,⟨ks,b1,b2⟩,⟨kv,rs,c1,c2⟩,l1,l2,l3,ow⟩:=A;exact⟨⟨us,k _ _ (by rw[l1];decide) a1,a2,λh v e=>(a3 h v e).fr F ()⟩,⟨ks,k _ _ (by rw[l2];decide) b1,b2⟩,⟨kv,rs,k _ _ (by rw[l3];decide) c1,c2.fr F ()⟩,l1,l2,l3,λb z=>let ⟨o,e⟩:=ow b z;ae b o e⟩
theorem zfq{l:List (Int×β)}{a:Int}(n:a≠h):(a,y)∈ZX l h c↔(a,y)∈l:=by
 unfold ZX;rw[bC];constructor
 ·rintro⟨⟨a',y'⟩,m,e⟩;by_cases z:a'=h
  ·rw[au z] at e;exact absurd (congrArg (·.1) e).symm n
  ·rw[ap z] at e;rw[<-e];exact m
 ·exact λm=>⟨_,m,ap n⟩
theorem zgE{l:List (Int×β)}(m:(h,y)∈l):(h,c)∈ZX l h c:=bC.mpr ⟨_,m,au Y⟩
theorem LdR.put(Bp:LdR H lw kv rs ls)(hg:sI H gl gi)(l5:lw gl=5)(tb:TbK gi)(hb:∀y∈wQ ls r gi,f<=y.1/\y.1<f+m)(f0:0<=f)(hm:m<=5):∃rs',LdR H lw (yq kv (.inl r) (.ref gl)) rs' (wQ ls r gi):=by
 have mem:∀y,y∈wQ ls r gi↔(y∈ls/\y.1≠r)\/y=(r,gi):=λy=>by
  unfold wQ;rw[bB,cr,decide_eq_true_eq,br]
 obtain⟨rs',e1,e2,e3⟩:∃rs':List Int,(yq kv (.inl r) (.ref gl)).map (·.1)=rs'.map fQ/\rs'.Nodup/\∀a,a∈rs'↔a∈rs\/a=r:=by
  by_cases c:r∈rs
  ·refine⟨rs,?_,Bp.nd,λa=>⟨.inl,λz=>z.elim id λz=>z ▸ c⟩⟩;unfold yq;have an:(kv.any λkv=>decide (kv.1=.inl r))=D:=by
    have:(.inl r:aV)∈kv.map (·.1):=by rw[Bp.ks];exact bt c
    obtain⟨y,hy,ey⟩:=bC.mp this;exact gK.mpr ⟨y,hy,Bj ey⟩
   rw[au an,da,<-Bp.ks];refine dy λy _=>?_;show (if y.1=(.inl r:aV) then (y.1,V.ref gl) else y).1=y.1;split <;> rfl
  ·refine⟨rs++[r],?_,cV.mpr ⟨Bp.nd,bZ.mpr ⟨dh,cw⟩,λa ha b hb=>by rw[br.mp hb];exact λz=>c (z ▸ ha)⟩,λa=>by rw[bB,br]⟩;rw[va _ (Vz (by rw[Bp.ks];intro z;obtain⟨y,hy,ey⟩:=bC.mp z;cases ey;exact c hy)),bQ,Bp.ks,bQ];rfl
 have mm:∀a,a∈rs'↔a∈(wQ ls r gi).map (·.1):=λa=>by
  rw[e3,Bp.mm];constructor
  ·intro z;by_cases c:a=r
   ·exact bC.mpr ⟨(r,gi),(mem _).mpr (.inr Y),c.symm⟩
   ·obtain⟨y,hy,ey⟩:=bC.mp (z.resolve_right c);exact bC.mpr ⟨y,(mem _).mpr (.inl ⟨hy,by rw[ey];exact c⟩),ey⟩
  ·intro z;obtain⟨y,hy,rfl⟩:=bC.mp z;rcases(mem y).mp hy with ⟨a,_⟩|rfl
   ·exact .inl (bt (f:=(·.1)) a)
   ·exact .inr rfl
 have le:=xS (b:=vN f 0 m) e2 λa ha=>by
  obtain⟨y,hy,rfl⟩:=bC.mp ((mm a).mp ha);have:=hb y hy;exact rks_mem.mpr ⟨(y.1-f).toNat,(),(),()⟩
 unfold vN at le;rw[bf,fA] at le;refine⟨rs',e1,e2,mm,λy hy=>?_,?_,λy hy=>?_,λy hy=>by have:=hb y hy;lia,()⟩
 ·rw[YU];rcases(mem y).mp hy with ⟨a,b⟩|rfl
  ·rw[ap (λz=>b (lB z))];exact Bp.vv y a
  ·exact⟨gl,au Y,hg,l5⟩
 ·unfold wQ;rw[bQ,cV];refine⟨Bp.nl.sublist (gM _ de),bZ.mpr ⟨dh,cw⟩,λa ha b hb=>?_⟩;obtain⟨y,hy,rfl⟩:=bC.mp ha;rw[br.mp hb];exact of_decide_eq_true (cr.mp hy).2
 ·rcases(mem y).mp hy with ⟨a,_⟩|rfl
  ·exact Bp.tk y a
  ·exact tb
theorem zgF(mv:Mv f g CC S h e S2)(hm:(h,r,j,s)∈S.hl)(nd:(S.hl.map (·.1)).Nodup)(hC:CC[(r-f).toNat]?=U C):HlE C s g S.ls r e/\(Wk e=aq->S2.hl=ZX S.hl h (r,j+1,xj C (hlW e) s)/\S2.ls=S.ls)/\(Wk e=D->∃gi,qJ s gi/\S2.hl=yg S.hl h/\S2.ls=wQ S.ls r gi):=by
 have no:h ∉ S.hl.map (·.1)->False:=λz=>z (bt (f:=(·.1)) hm);cases mv with
 |step m c o a=>cases Qd nd hm m rfl;cases bJ (hC.symm.trans c);exact⟨⟨Y,o,a⟩,λ_=>⟨Y,Y⟩,λz=>nomatch z⟩
 |read m c o a=>cases Qd nd hm m rfl;cases bJ (hC.symm.trans c);exact⟨⟨Y,o,a,Y⟩,λ_=>⟨Y,Y⟩,λz=>nomatch z⟩
 |lay m c o gi=>cases Qd nd hm m rfl;cases bJ (hC.symm.trans c);exact⟨⟨Y,o⟩,(),λ_=>⟨_,gi,Y,Y⟩⟩
 |settle _ z=>exact(no z).elim
 |again _ _ _ _ _ z=>exact(no z).elim
 |take _ z=>exact(no z).elim
 |rest _ _ z=>exact(no z).elim
theorem zgG(mv:Mv f g CC S h e S2)(ok:mt n f g CC S)(no:h ∉ S.hl.map (·.1)):FrE f CC.length e/\S2.ls=S.ls/\((∃r,e=.take r/\S2.hl=S.hl++[(h,r,0,st0)])\/((∀r,e≠.take r)/\S2.hl=S.hl)):=by
 have rg:∀r,(∃j:Nat,r=f+j/\S.en<=j/\j<CC.length)->0<=r-f/\r-f<CC.length:=λr ⟨j,e,_,l⟩=>by lia
 cases mv with
 |step m=>exact(no (bt (f:=(·.1)) m)).elim
 |read m=>exact(no (bt (f:=(·.1)) m)).elim
 |lay m=>exact(no (bt (f:=(·.1)) m)).elim
 |settle m=>exact⟨rg _ (ok.rl (bt (f:=(·.1)) m)),Y,.inr ⟨(),Y⟩⟩
 |again m=>exact⟨rg _ (ok.rl (bt (f:=(·.1)) m)),Y,.inr ⟨(),Y⟩⟩
 |take m=>exact⟨rg _ (ok.rw_ m),Y,.inl ⟨_,Y,Y⟩⟩
 |rest=>exact⟨trivial,Y,.inr ⟨(),Y⟩⟩
end
section
variable {H':Hp}{lw lw':L->Nat}{tl ll rl kl al x b gl:L}{ra:RAd}{C:List Cs}{CC:List (List Cs)}{s s':hZ}{j k:Nat}{g gi:List aQ}{kv:List (aV×V)}{rs:List Int}{ls:List (Int×List aQ)}{h r f n:Int}{v:V}{e:Ev}{hl hl2:List (Int×Int×Nat×hZ)}{S S2:DS}{X:St->Hp->Prop}{us cvs:List V}
theorem zhY(h:HlE C s g ls r e):Wk e=yt C s:=by
 cases e with
 |lay r'=>exact h.2.symm
 |step r'=>exact h.2.1.symm
 |read r' p w=>exact h.2.1.symm
 |_=>exact h.elim
theorem Qf(h:k<m):ixN m (k:Int)=U k:=by
 unfold ixN;simp;lia
theorem zds(ev:sV H v ((k:Int),e))(ht:sI H tl g)(tb:TbK g)(l0:lw tl=0)(A:sP t H lw rl kl ll n f CC S.hl S.ls)(ok:mt n f g CC S)(hk:(k:Int)<n)(n8:n<=8)(mv:Mv f g CC S k e S2)(hr:H rl=U (.lst us))(ul:(us.length:Int)=n)(a3:∀(h:Nat) v,us[h]?=U v->RuAt t H lw f CC S.hl h v)(hv:us[k]?=U (.ref x))(hm:((k:Int),r,j,s)∈S.hl)(hC:CC[(r-f).toNat]?=U C)(R:aY t H x ra C s)(l20:∀b,OwA x ra b->lw b=20+k)(q:∀H' lw',Fr N0 H H' lw lw'->sP t H' lw' rl kl ll n f CC S2.hl S2.ls->Q (.bl D) H') :
  vx K t { nx:=X,rt:=Q } [U v,U (.int k),U (.ref al),U (.int f),U (.ref rl),U (.ref kl),U (.ref tl),U (.ref ll),ao] H:=by
 obtain⟨C',ec',I,j11⟩:=ok.rn _ hm;obtain rfl:C'=C:=bJ (ec'.symm.trans hC);obtain⟨O,_⟩:=ok.cc.ok C' (bS hC);obtain⟨hE,st,ly⟩:=zgF mv hm ok.hn hC;obtain⟨ks,hk1,kn,kk⟩:=A.kk;obtain⟨kv,rs,hd,Bp⟩:=A.dd;have ek:ks[k]?=U r:=kk _ hm;have ok2:=Mv.ok ok mv () hk;have fin:∀H3,Fr (λl=>l≠1) H H3 lw lw->(Wk e=D->H3 rl=U (.lst (us.set k .non)))->(Wk e=aq->aK H H3)->zL (zR (xl t) [] E0 (zc (Z 0) (zc (Z 1) (zc (aL (yV K) (Z 5) (Z 1)) (zc (Z 8) (zc (Z 6) (zc (Z 7) zj))))))) { nx:=X,rt:=Q } [U v,U (.int k),U (.ref al),U (.int f),U (.ref rl),U (.ref kl),U (.ref tl),U (.ref ll),U (.ref x)] H3:=λH3 F3 e3 s3=>by
  have R3:=(R.fr l20 F3 ()).1;have hd3:=F3.kp _ _ (by rw[A.l3];decide) hd;have hk3:=F3.kp _ _ (by rw[A.l2];decide) hk1;have ht3:sI H3 tl g:=let ⟨xs,a,b⟩:=ht;⟨xs,F3.kp _ _ (by rw[l0];decide) a,jk F3.ts b⟩
  refine⟨_,Y,_,Y,_,Y,_,Y,kl,_,k,.int r,Y,Y,aT.of hk3,yp (by rw[bx,ek];rfl),_,Y,_,Y,_,Y,v,k,r,x,tl,ll,ra,C',s,j,e,g,kv,rs,S.ls,lw,Y,ev.ts F3.ts,R3,O,I,j11,ht3,tb,hd3,Bp.fr F3 (),hE,λH4 gl gi il k4 e4 hgl hg4 gi4=>?_,λH4 il k4 R4=>?_⟩
  ·obtain⟨gi',hgi,eh,els⟩:=ly il;obtain rfl:=zgn hgi gi4;have ng:∀b o,H b=U o->b≠gl:=λb o z y=>by
    obtain⟨o',w⟩:=F3.al b o z;rw[y,hgl] at w;cases w
   have nl:rl≠ll:=λz=>by have:=A.l1;rw[z,A.l3] at this;cases this
   have F:Fr (λl=>l≠1/\l≠3) H H4 lw (λb=>if b=gl then 5 else lw b):=⟨λb o e=>ap (ng b o e),λb o z e=>k4 b o (λy=>z.2 (by rw[y];exact A.l3)) (F3.kp b o z.1 e),λb zs e=>k4 b _ (λy=>by have:=F3.ts _ _ e;rw[y,hd3] at this;cases this) (F3.ts _ _ e),λb o e=>by
    by_cases y:b=ll
    ·rw[y];exact⟨_,e4⟩
    ·obtain⟨o',z⟩:=F3.al b o e;exact⟨o',k4 b o' y z⟩⟩
   obtain⟨rs',L'⟩:=LdR.put (f:=f) (m:=CC.length) (Bp.fr F ()) hg4 (au Y) ⟨zfh gi4,zin I gi4⟩ (by rw[<-els];exact ok2.ly) ok.f0 ok.cc.le;refine q H4 _ (F.mono λl z=>by unfold N0 at z;lia) ⟨⟨us.set k .non,k4 _ _ nl (e3 il),by rw[lQ];exact ul,λi v hv=>?_⟩,⟨ks,F.kp _ _ (by rw[A.l2];decide) hk1,kn,λe m=>kk e (sr.mp (by rw[<-eh];exact m)).1⟩,⟨_,rs',e4,by rw[els];exact L'⟩,(F.ex _ _ hr).trans A.l1,(F.ex _ _ hk1).trans A.l2,(F.ex _ _ hd).trans A.l3,λb z=>?_⟩
   ·rw[eh];by_cases c:i=k
    ·subst c;rw[eQ ()] at hv;cases hv;refine .inl ⟨Y,λz=>?_⟩;obtain⟨y,hy,ey⟩:=bC.mp z;exact(sr.mp hy).2 ey
    ·rw[fc (eA c)] at hv;exact((a3 i v hv).fr F ()).mv λb=>⟨λz=>(sr.mp z).1,λz=>sr.mpr ⟨z,by show (i:Int)≠k;lia⟩⟩
   ·by_cases c:b=gl
    ·obtain⟨xs,a,_⟩:=hg4;rw[c];exact⟨_,a⟩
    ·rw[ap c] at z;obtain⟨o,y⟩:=A.ow b z;exact F.al b o y
  ·obtain⟨eh,els⟩:=st il;have F:Fr (λl=>l≠20+k) H H4 lw lw:=(Fr.same (s3 il)).trans (zcF R3 R4 l20 k4);refine q H4 _ (F.mono λl z=>by unfold N0 at z;lia) ⟨⟨us,F.kp _ _ (by rw[A.l1];lia) hr,ul,λi v hv'=>?_⟩,⟨ks,F.kp _ _ (by rw[A.l2];lia) hk1,kn,λe m=>?_⟩,⟨kv,rs,F.kp _ _ (by rw[A.l3];lia) hd,by rw[els];exact Bp.fr F ()⟩,A.l1,A.l2,A.l3,λb z=>let ⟨o,y⟩:=A.ow b z;F.al b o y⟩
   ·rw[eh];by_cases c:i=k
    ·subst c;cases bJ (hv'.symm.trans hv);exact .inr ⟨x,ra,r,j+1,_,C',Y,zgE hm,hC,R4,l20⟩
    ·exact((a3 i v hv').fr F ()).mv λb=>zfq ()
   ·rw[eh] at m;obtain⟨e',m',rfl⟩:=bC.mp m;by_cases c:e'.1=k
    ·rw[au c];exact ek
    ·rw[ap c];exact kk _ m'
 refine⟨_,Y,_,Y,rl,us,k,.ref x,Y,Y,aT.of hr,yp hv,?_⟩;refine jm R.ix Y Y ⟨x,ra,C',s,Y,R,λH2 s2=>⟨_,Y,?_⟩⟩;rw[zhY hE] at fin;cases ho:yt C' s with
 |true =>
  refine yv Y ⟨_,Y,_,Y,rl,us,k,k,Y,Y,s2 _ _ hr,Qf (),⟨(),()⟩,?_⟩;exact fin _ ((Fr.same s2).trans (zbV (s2 _ _ hr) A.l1 λ_ z=>nomatch z)) (λ_=>zh) (by rw[ho];exact λz=>nomatch z)
 |false=>exact ye Y (fin H2 (Fr.same s2) (by rw[ho];exact λz=>nomatch z) λ_=>s2)
theorem zdt(ev:sV H v ((k:Int),.take r))(ha:H al=U (.lst cvs))(pc:Paired (tO H) cvs CC)(A:sP t H lw rl kl ll n f CC S.hl S.ls)(ok:mt n f g CC S)(hk:(k:Int)<n)(n8:n<=8)(no:(k:Int) ∉ S.hl.map (·.1))(b1:0<=r-f)(b2:r-f<CC.length)(q:∀H' lw',Fr N0 H H' lw lw'->sP t H' lw' rl kl ll n f CC (S.hl++[((k:Int),r,0,st0)]) S.ls->X [U v,U (.int k),U (.ref al),U (.int f),U (.ref rl),U (.ref kl),U (.ref tl),U (.ref ll),ao] H') :
  vt K t { nx:=X,rt:=Q } [U v,U (.int k),U (.ref al),U (.int f),U (.ref rl),U (.ref kl),U (.ref tl),U (.ref ll),ao] H:=by
 obtain⟨a,qa,rfl,hv,_⟩:=ev;have hv:H a=U (.tup [.str "take",.int k,.int r]):=hv;obtain⟨us,hr,ul,a3⟩:=A.rr;obtain⟨ks,hk1,kn,kk⟩:=A.kk;obtain⟨kv,rs,hd,Bp⟩:=A.dd;obtain⟨w,hw⟩:∃w,cvs[(r-f).toNat]?=U w:=⟨_,bb (by rw[bL pc];lia)⟩;obtain⟨C,hC,c,ys,rfl,hc,pcs⟩:=Paired.getP pc hw;refine⟨_,Y,_,Y,a,_,2,.int r,Y,Y,sB.of hv,Y,_,Y,_,_,Y,Y,al,cvs,(r-f).toNat,_,Y,congrArg V.int (),aT.of ha,yp hw,?_⟩;intro x dx hx hdx n';have s4:aK H (upd (upd H dx (HO.own x)) x (HO.ins t.q00 dx [])):=λb o e=>by rw[zk (zy e hx),zk (zy e hdx)];exact e
 refine⟨x,c,dx,ys,C,Y,zh,s4 _ _ hc,xB s4 pcs,λH5 ra k5 R5 fr5=>?_⟩;obtain⟨s5,ow⟩:=ze9 (aK.refl H) hx hdx k5 fr5;have hr5:=s5 _ _ hr;have nk:rl≠kl:=λz=>by have:=A.l1;rw[z,A.l2] at this;cases this
 refine⟨Y,_,Y,_,Y,rl,us,k,k,Y,Y,hr5,Qf (),⟨(),()⟩,?_⟩;have e6:upd H5 rl (.lst (us.set k (.ref x))) rl=U (.lst (us.set k (.ref x))):=zh;have F6:Fr (λl=>l≠1) H5 (upd H5 rl (.lst (us.set k (.ref x)))) lw lw:=zbV hr5 A.l1 λ_ z=>nomatch z
 generalize upd H5 rl (.lst (us.set k (.ref x)))=H6 at *
 have hk6:=F6.kp _ _ (by rw[A.l2];decide) (s5 _ _ hk1);refine⟨_,Y,a,_,2,.int r,Y,Y,sB.of (F6.ts _ _ (s5 _ _ hv)),Y,_,Y,_,Y,kl,_,k,k,Y,Y,hk6,Qf (by rw[bf];lia),⟨(),()⟩,?_⟩;have F7:Fr (λl=>l≠2) H6 (upd H6 kl (.lst ((ks.map V.int).set k (.int r)))) lw lw:=zbV hk6 A.l2 λ_ z=>nomatch z
 have e7:upd H6 kl (.lst ((ks.map V.int).set k (.int r))) kl=U (.lst ((ks.set k r).map V.int)):=by rw[List.map_set];exact zh
 generalize upd H6 kl (.lst ((ks.map V.int).set k (.int r)))=H7 at *
 open Classical in
 have F:Fr (λl=>l≠1/\l≠2) H H7 lw (λb=>if OwA x ra b then 20+k else lw b):=⟨λb o e=>ap (λz=>by rw[ow b z] at e;cases e),λb o z e=>F7.kp b o z.2 (F6.kp b o z.1 (s5 _ _ e)),λb zs e=>F7.ts _ _ (F6.ts _ _ (s5 _ _ e)),λb o e=>let ⟨o',z⟩:=F6.al b o (s5 _ _ e);F7.al b o' z⟩;have lO:∀b,OwA x ra b->lw b=0:=λb z=>by
  cases c:decide (lw b=0) with
  |true=>exact of_decide_eq_true c
  |false =>
   obtain⟨o,e⟩:=A.ow b (of_decide_eq_false c);rw[ow b z] at e;cases e
 have R7:aY t H7 x ra C st0:=(((R5.fr lO F6 ()).1).fr lO F7 ()).1;refine q H7 _ (F.mono λl z=>by unfold N0 at z;lia) ⟨⟨us.set k (.ref x),F7.kp _ _ (by rw[A.l1];decide) e6,by rw[lQ];exact ul,λi v hv=>?_⟩,⟨ks.set k r,e7,by rw[lQ];exact kn,λe m=>?_⟩,⟨kv,rs,F.kp _ _ (by rw[A.l3];decide) hd,Bp.fr F ()⟩,(F.ex _ _ hr).trans A.l1,(F.ex _ _ hk1).trans A.l2,(F.ex _ _ hd).trans A.l3,λb z=>?_⟩
 ·by_cases c:i=k
  ·subst c;rw[eQ ()] at hv;cases hv;exact .inr ⟨x,ra,r,0,st0,C,Y,bP _ (br.mpr Y),hC,R7,λb z=>au z⟩
  ·rw[fc (eA c)] at hv;refine((a3 i v hv).fr F ()).mv λb=>⟨λz=>(bB.mp z).resolve_right λy=>c ?_,λz=>cy _ z⟩;have:=congrArg (·.1) (br.mp y);have:(i:Int)=k:=this;lia
 ·rcases bB.mp m with m|m
  ·have ne:e.1.toNat≠k:=λz=>no (by
    have:=(ok.hr e m).1;rw[show (k:Int)=e.1 by lia];exact bt (f:=(·.1)) m)
   rw[fc (eA ne)];exact kk e m
  ·cases br.mp m;exact eQ (show k<ks.length by lia)
 ·by_cases c:OwA x ra b
  ·cases e:H7 b with
   |none=>exact absurd e (R7.has c)
   |some o=>exact⟨o,Y⟩
  ·rw[ap c] at z;obtain⟨o,y⟩:=A.ow b z;exact F.al b o y
theorem Z1{vs:List V}{_E:XK}(h:yT t vs H Q _E) :
  jj K t (sA Q) (L2.start ["row","hand","codes","first","runs","ranks","table","laid","held"] vs) H:=by
 obtain⟨v,h,f,n,al,rl,kl,tl,ll,lw,cvs,g,CC,S,S2,e,rfl,h1,ha,pc,ht,tb,l0,A,ok,h0,hn,n8,mv,q⟩:=h;obtain⟨k,rfl⟩:=ic h0;obtain⟨us,hr,ul,a3⟩:=id A.rr;obtain⟨w,hw⟩:∃w,us[k]?=U w:=⟨_,bb ()⟩;refine⟨_,Y,_,Y,rl,us,k,w,Y,Y,aT.of hr,yp hw,Y,_,Y,?_⟩;rcases a3 k w hw with ⟨rfl,no⟩|⟨x,ra,r,j,s,C,rfl,hm,hC,R,l20⟩
 ·obtain⟨fe,els,hh⟩:=zgG mv ok no;rw[els] at q;have lc:=bL pc;refine ye Y ⟨_,Y,_,Y,_,Y,.ref al,cvs.length,Y,.inl ⟨_,aT.of ha,Y⟩,_,Y,v,k,f,cvs.length,e,Y,h1,by rw[lc];exact fe,λH2 s2=>⟨_,Y,ye Y ?_⟩⟩;have A2:sP t H2 lw rl kl ll n f CC S.hl S.ls:=A.of (λb o _ e=>s2 _ _ e) (tw.of s2) λb o e=>⟨o,s2 _ _ e⟩;have h2:=h1.ts (tw.of s2);obtain⟨a,qa,rfl,hv,_⟩:=id h2;refine⟨_,Y,a,_,0,.str (evW e),Y,Y,sB.of hv,yp (j:=0) Y,Y,_,Y,?_⟩;rcases hh with ⟨r,rfl,eh⟩|⟨ne,eh⟩
  ·rw[eh] at q;exact yv (Bj Y) (zdt h2 (s2 _ _ ha) (Paired.mapP pc λ_ _ z=>let ⟨c,ys,e,hc,pc⟩:=z;⟨c,ys,e,s2 _ _ hc,xB s2 pc⟩) A2 ok hn n8 no fe.1 fe.2 λH' lw' F A'=>q H' lw' ((Fr.same s2).trans F) A')
  ·rw[eh] at q;refine ye (Bk λz=>?_) (q H2 lw (Fr.same s2) A2);cases e with
   |take r=>exact ne r rfl
   |_=>revert z;simp only[evW];decide
 ·exact yv Y (zds h1 ht tb l0 A ok hn n8 mv hr ul a3 hw hm hC R l20 q)
end
theorem zit{te:TE}{qv:Nat->V}(hm:many<=1000)(h0:σ[k]?=U (U (.int (many:Nat))))(hte:∀(i:Nat) H' R,R (qv i) H'->te [U (.int i)] H' R)(q:∀Bq H',aK H H'->H Bq=ao->H' Bq=U (.lst ((dt many).map qv))->Q (.ref Bq) H'):kh (Wa (zc (Z k) zj)) (zt 0) VZ te 1 [] σ H Q:=by
 refine⟨_,h0,many,Y,(),(),λBq hD=>?_⟩;refine⟨λi m ys τ H'=>m=many-i/\i<=many/\(∃o,τ=[o])/\aK H H'/\H' Bq=U (.lst ys)/\ys=(dt i).map qv,⟨_,Y,bT _,⟨_,Y⟩,sJ Bq hD,zh,Y⟩,?_⟩;rintro i m ys τ H1 ⟨rfl,hi,⟨o,rfl⟩,s1,hD1,rfl⟩;refine⟨hD1,?_⟩;rcases gR i many with c|c
 ·refine .inr ⟨by show i<(many:Int).toNat;lia,by rw[bf,fA,bG];lia,λv τ' H'=>v=qv i/\(∃o,τ'=[o])/\aK H1 H',λv τ' H' ⟨e,z,s⟩=>⟨s _ _ hD1,many-(i+1),(),Y,c,z,xz (s1.trans s) hD,zh,by rw[rZ,bQ,e];rfl⟩,λ_ _=>False,λ_ _ z=>z.elim,?_⟩;rintro x H2 ⟨rfl,rfl⟩;rw[rA];exact yv (R:=False) Y (hte i _ _ ⟨Y,⟨_,Y⟩,aK.refl _⟩)
 ·obtain rfl:i=many:=by lia
  exact .inl ⟨by show (i:Int).toNat<=i;lia,q Bq H1 s1 hD hD1⟩
theorem zfr{te:TE}{rest:TS}{qv:Nat->V}(hm:many<=1000)(h0:σ[k]?=U (U (.int (many:Nat))))(hte:∀(i:Nat) H' R,R (qv i) H'->te [U (.int i)] H' R)(q:∀l H',aK H H'->H l=ao->H' l=U (.lst ((dt many).map qv))->rest Bq (σ.set j (U (.ref l))) H'):zo (zN (kh (Wa (zc (Z k) zj)) (zt 0) VZ te 1 []) (zt j)) rest Bq σ H:=by
 unfold zo zN;exact zit hm h0 hte λl H' s n e=>q l H' s n e
def S0:DS:=⟨[],[],[],[],0⟩
structure LA where
 s:L
 tl:L
 cl:L
 d:L
 al:L
 rl:L
 kl:L
 ll:L
def σL(A:LA)(o1 o2:Option V)(n:Int)(o6:Option V)(f ea:Int)(o14 o15 o16 o17 o18:Option V):St:=[U (.ref A.s),o1,o2,U (.ref A.tl),U (.ref A.cl),U (.int n),o6,U (.int f),U (.ref A.d),U (.int ea),U (.ref A.al),U (.ref A.rl),U (.ref A.kl),U (.ref A.ll),o14,o15,o16,o17,o18]
def Tr(n f:Int)(g:List aQ)(CC:List (List Cs))(S:DS)(es:List He)(S':DS):Prop:=∃tr:Nat->DS,tr 0=S/\tr es.length=S'/\∀(i:Nat) (x:He),es[i]?=U x->x.1=(i:Int)%n/\mt n f g CC (tr i)/\Mv f g CC (tr i) x.1 x.2 (tr (i+1))
structure zfs(H:Hp)(l:L)(vs:List V)(CC:List (List Cs)):Prop where
 hx:H l=U (.lst vs)
 px:Paired (tO H) vs CC
structure LwC(K:bu)(H:Hp)(A:LA)(ns:List Int)(g:List aQ)(vs:List V)(CC:List (List Cs))(n:Int):Prop where
 hS:aT K H A.s (ns.map V.int)
 hn:ns.length<=63
 hc:zfs H A.cl vs CC
 cc:zgf CC
 ht:sI H A.tl g
 tb:TbK g
 n1:1<=n
 n8:n<=8
structure sZ(t:bv)(H0:Hp)(Bn:List (L×HO))(A:LA)(a:tI)(n f:Int)(g:List aQ)(vs:List V)(CC:List (List Cs))(ad:Nat)(H:Hp)(lb lw:L->Nat)(S T:DS):Prop where
 sm:aK H0 H
 z0:∀b o,H0 b=U o->lb b=0/\lw b=0
 kz:∀y∈Bn,H y.1=U y.2/\(lb y.1=0/\lw y.1=0)/\y.1≠A.al
 zl:∀b,lw b≠0->lb b=0
 ha:H A.al=U (.lst (vs.take ad))
 la:lb A.al=0/\lw A.al=0
 hn:H0 A.al=ao
 dk:tj t H A.d a lb n f g (CC.take ad) S
 ok:mt n f g (CC.take ad) S
 lA:sP t H lw A.rl A.kl A.ll n f (CC.take ad) T.hl T.ls
 oT:mt n f g (CC.take ad) T
 al:ad<=CC.length
section
variable {H0 H':Hp}{lb lb' lw lw':L->Nat}{Bn:List (L×HO)}{A:LA}{a:tI}{CC CC2:List (List Cs)}{C:List Cs}{n f h:Int}{g:List aQ}{S S' T T' S1 S2:DS}{v:V}{vs xs:List V}{es:List He}{e:Ev}{ad:Nat}{E:XK}{ns:List Int}{hl:List (Int×Int×Nat×hZ)}{ls:List (Int×List aQ)}{rl kl ll b:L}{o:HO}
section
variable {N:Int}
theorem mt.add(ok:mt N f g CC S)(hC:V6 C/\C.length<=11)(h5:CC.length<5):mt N f g (CC++[C]) (zdh f CC.length S):=by
 have ln:(CC++[C]).length=CC.length+1:=bF ..;have el:=ok.el;refine⟨ok.f0,⟨λC' h=>?_,()⟩,by show S.en<=_;lia,?_,?_,ok.hn,ok.hr,λe he=>?_,ok.nt,λy hy=>?_,ok.gw,ok.lw⟩
 ·rcases bB.mp h with h|h
  ·exact ok.cc.ok C' h
  ·rw[br.mp h];exact hC
 ·show ((S.ws++[f+(CC.length:Int)])++_).Perm (vN f S.en _);rw[ln];have z:vN f S.en (CC.length+1)=vN f S.en CC.length++[f+(CC.length:Int)]:=by
   unfold vN;rw[show CC.length+1-S.en=CC.length-S.en+1 by lia,rZ,bQ];refine congrArg _ ?_;show [f+(S.en:Int)+((CC.length-S.en:Nat):Int)]=_;rw[show f+(S.en:Int)+((CC.length-S.en:Nat):Int)=f+CC.length by lia]
  rw[z,cH];refine dH ?_ (ok.pm.append_right _);rw[cH];exact .append_left _ on
 ·refine gD.mpr ⟨ok.so,by simp,λx hx y hy=>?_⟩;obtain⟨j,rfl,_,jl⟩:=ok.rw_ hx;rw[br.mp hy];lia
 ·obtain⟨C',h1,h2⟩:=ok.rn e he;exact⟨C',by rw[cT (bn.mp h1).1];exact h1,h2⟩
 ·have:=ok.ly y hy;lia
end
theorem tO.same(h:tO H v C)(k:aK H H'):tO H' v C:=let ⟨c,ys,e,hc,pc⟩:=h;⟨c,ys,e,k _ _ hc,xB k pc⟩
theorem Tr.nil:Tr n f g CC S [] S:=⟨λ_=>S,Y,Y,λi x z=>nomatch z⟩
theorem Tr.snoc(J:Tr n f g CC S es S1)(ok:mt n f g CC S1)(hh:h=(es.length:Int)%n)(mv:Mv f g CC S1 h e S2):Tr n f g CC S (es++[(h,e)]) S2:=by
 obtain⟨tr,e0,e1,k⟩:=J;refine⟨λi=>if i<=es.length then tr i else S2,(au (bT _)).trans e0,ap (by rw[bF];exact oE _),λi x hx=>?_⟩;dsimp only;rcases gR i es.length with c|c
 ·rw[cT c] at hx;rw[au (nP c),au (Nat.succ_le_of_lt c)];exact k i x hx
 ·rw[eR c] at hx;obtain rfl:i=es.length:=by
   have:=(bn.mp hx).1;rw[dX] at this;lia
  rw[Nat.sub_self] at hx;cases hx;rw[au (bp _),ap (oE _),e1];exact⟨hh,ok,mv⟩
theorem sZ.ln(I:sZ t H0 Bn A a n f g vs CC ad H lb lw S T):(CC.take ad).length=ad:=by rw[cx];exact dZ I.al
theorem sZ.desk(I:sZ t H0 Bn A a n f g vs CC ad H lb lw S T)(F:Fr M0 H H' lb lb')(G:tj t H' A.d a lb' n f g (CC.take ad) S')(ok:mt n f g (CC.take ad) S'):sZ t H0 Bn A a n f g vs CC ad H' lb' lw S' T:=by
 have k:∀b o,lb b=0->H b=U o->H' b=U o/\lb' b=0:=λb o z e=>⟨F.kp b o (.inl z) e,(F.ex b o e).trans z⟩;exact⟨λb o e=>(k b o (I.z0 b o e).1 (I.sm b o e)).1,λb o e=>⟨(k b o (I.z0 b o e).1 (I.sm b o e)).2,(I.z0 b o e).2⟩,λy hy=>let ⟨a,b,c⟩:=I.kz y hy;let ⟨p,q⟩:=k _ _ b.1 a;⟨p,⟨q,b.2⟩,c⟩,λb z=>let ⟨o,e⟩:=I.lA.ow b z;(k b o (I.zl b z) e).2,(k _ _ I.la.1 I.ha).1,⟨(k _ _ I.la.1 I.ha).2,I.la.2⟩,I.hn,G,ok,I.lA.of (λb o z e=>(k b o (I.zl b z) e).1) F.ts F.al,I.oT,I.al⟩
theorem sZ.same(I:sZ t H0 Bn A a n f g vs CC ad H lb lw S T)(s:aK H H'):sZ t H0 Bn A a n f g vs CC ad H' lb lw S T:=I.desk (Fr.same s) (I.dk.same s) I.ok
theorem sZ.law(I:sZ t H0 Bn A a n f g vs CC ad H lb lw S T)(F:Fr N0 H H' lw lw')(A':sP t H' lw' A.rl A.kl A.ll n f (CC.take ad) T'.hl T'.ls)(oT:mt n f g (CC.take ad) T'):sZ t H0 Bn A a n f g vs CC ad H' lb lw' S T':=by
 have k:∀b o,lw b=0->H b=U o->H' b=U o/\lw' b=0:=λb o z e=>⟨F.kp b o z e,(F.ex b o e).trans z⟩;have nz:∀b,lb b≠0->lw b=0:=λb z=>mz λy=>z (I.zl b y);refine⟨λb o e=>(k b o (I.z0 b o e).2 (I.sm b o e)).1,λb o e=>⟨(I.z0 b o e).1,(k b o (I.z0 b o e).2 (I.sm b o e)).2⟩,λy hy=>let ⟨a,b,c⟩:=I.kz y hy;let ⟨p,q⟩:=k _ _ b.2 a;⟨p,⟨b.1,q⟩,c⟩,λb z=>?_,(k _ _ I.la.2 I.ha).1,⟨I.la.1,(k _ _ I.la.2 I.ha).2⟩,I.hn,I.dk.of (λb o z e=>(k b o (nz b z) e).1) F.ts F.al,I.ok,A',oT,I.al⟩;cases e:H b with
 |none=>exact I.dk.l0 e
 |some o=>exact I.zl b (by rw[<-F.ex b o e];exact z)
theorem sP.cc(Bp:sP t H lw rl kl ll n f CC hl ls)(k:∀(i:Nat) (C:List Cs),CC[i]?=U C->CC2[i]?=U C):sP t H lw rl kl ll n f CC2 hl ls:=by
 obtain⟨us,a1,a2,a3⟩:=Bp.rr;refine { Bp with rr:=⟨us,a1,a2,λi v e=>?_⟩ };rcases a3 i v e with z|⟨x,ra,r,j,s,C,e,m,c,R⟩
 ·exact .inl z
 ·exact .inr ⟨x,ra,r,j,s,C,e,m,k _ _ c,R⟩
theorem sZ.add(I:sZ t H0 Bn A a n f g vs CC ad H lb lw S S)(c:LwC K H0 A ns g vs CC n)(hv:vs[ad]?=U v):∃C,tO (upd H A.al (.lst (vs.take ad++[v]))) v C/\tj t (upd H A.al (.lst (vs.take ad++[v]))) A.d a lb n f g (CC.take ad) S/\(CC.take ad).length<=10/\S.ws.length<=10/\∀H' lb',Fr M0 (upd H A.al (.lst (vs.take ad++[v]))) H' lb lb'->tj t H' A.d a lb' n f g (CC.take ad++[C]) (zdh f (CC.take ad).length S)->sZ t H0 Bn A a n f g vs CC (ad+1) H' lb' lw (zdh f ad S) (zdh f ad S):=by
 obtain⟨C,hC,co⟩:=Paired.getP c.hc.px hv;have ln:=I.ln;have lt:=(bn.mp hC).1;have l5:=c.cc.le;have ll:=I.ok.len;have ts:tw H (upd H A.al (.lst (vs.take ad++[v]))):=jn I.ha λ_ z=>nomatch z
 have sm:aK H0 (upd H A.al (.lst (vs.take ad++[v]))):=xz I.sm I.hn;have e1:upd H A.al (.lst (vs.take ad++[v])) A.al=U (.lst (vs.take ad++[v])):=zh;have dk:=I.dk.put (ys:=vs.take ad++[v]) I.ha I.la.1;have lA:=I.lA.of (H':=upd H A.al (.lst (vs.take ad++[v]))) (λb o z e=>by rw[zk (λy=>z (by rw[y];exact I.la.2))];exact e) ts YH;have kz:∀y∈Bn,upd H A.al (.lst (vs.take ad++[v])) y.1=U y.2:=λy hy=>let ⟨a,b,c⟩:=I.kz y hy;by rw[zk c];exact a
 generalize upd H A.al (.lst (vs.take ad++[v]))=H1 at *
 refine⟨C,co.same sm,dk,(),(),λH' lb' F G=>?_⟩;have k:∀b o,lb b=0->H1 b=U o->H' b=U o/\lb' b=0:=λb o z e=>⟨F.kp b o (.inl z) e,(F.ex b o e).trans z⟩;have e:CC.take ad++[C]=CC.take (ad+1):=by rw[cU,hC];rfl
 have ev:vs.take ad++[v]=vs.take (ad+1):=by rw[cU,hv];rfl
 have ok:=I.ok.add (c.cc.ok C (bS hC)) ();rw[ln] at G ok;rw[e] at G ok;rw[ev] at e1;refine⟨λb o e=>(k b o (I.z0 b o e).1 (sm b o e)).1,λb o e=>⟨(k b o (I.z0 b o e).1 (sm b o e)).2,(I.z0 b o e).2⟩,λy hy=>let ⟨a,b,c⟩:=I.kz y hy;let ⟨p,q⟩:=k _ _ b.1 (kz y hy);⟨p,⟨q,b.2⟩,c⟩,λb z=>let ⟨o,e⟩:=lA.ow b z;(k b o (I.zl b z) e).2,(k _ _ I.la.1 e1).1,⟨(k _ _ I.la.1 e1).2,I.la.2⟩,I.hn,G,ok,(lA.of (λb o z e=>(k b o (I.zl b z) e).1) F.ts F.al).cc λi C' z=>?_,ok,lt⟩;rw[<-e,cT (bn.mp z).1];exact z
theorem sZ.told(I:sZ t H0 Bn A a n f g vs CC ad H lb lw S T)(c:LwC K H0 A ns g vs CC n)(ev:sV H v (h,e))(p0:0<=h)(pn:h<n)(mv:Mv f g (CC.take ad) T h e T')(q:∀H' lw',tw H H'->sZ t H0 Bn A a n f g vs CC ad H' lb lw' S T'->Q (.bl D) H'):yT t [v,.int h,.ref A.al,.int f,.ref A.rl,.ref A.kl,.ref A.tl,.ref A.ll] H Q E:=by
 obtain⟨xs,ht,_⟩:=id c.ht;exact⟨v,h,f,n,A.al,A.rl,A.kl,A.tl,A.ll,lw,vs.take ad,g,CC.take ad,T,T',e,Y,ev,I.ha,Paired.mapP (Paired.takeP ad c.hc.px) λ_ _ z=>z.same I.sm,c.ht.same I.sm,c.tb,(I.z0 _ _ ht).2,I.lA,I.oT,p0,pn,c.n8,mv,λH' lw' F A'=>q H' lw' F.ts (I.law F A' (Mv.ok I.oT mv p0 pn))⟩
theorem sZ.keep(I:sZ t H0 Bn A a n f g vs CC ad H lb lw S T)(h1:H b=U o)(h2:lb b=0)(h3:lw b=0)(h4:b≠A.al):sZ t H0 ((b,o)::Bn) A a n f g vs CC ad H lb lw S T:=by
 refine { I with kz:=λy hy=>?_ };rcases bD.mp hy with rfl|hy
 ·exact⟨h1,⟨h2,h3⟩,h4⟩
 ·exact I.kz y hy
theorem sZ.out(I:sZ t H0 Bn A a n f g vs CC ad H lb lw S T)(h:H b=ao):lb b=0/\lw b=0/\b≠A.al:=by
 refine⟨I.dk.l0 h,mz λz=>?_,λz=>?_⟩
 ·obtain⟨o,e⟩:=I.lA.ow b z;rw[h] at e;cases e
 ·rw[z,I.ha] at h;cases h
theorem sZ.new(I:sZ t H0 Bn A a n f g vs CC ad H lb lw S T)(h:H b=ao):sZ t H0 ((b,o)::Bn) A a n f g vs CC ad (upd H b o) lb lw S T:=let ⟨x,y,z⟩:=I.out h;(I.same (sJ b h)).keep zh x y z
end
section
variable {H0 H':Hp}{lb lb' lw lw':L->Nat}{Bn:List (L×HO)}{A:LA}{a:tI}{CC:List (List Cs)}{C:List Cs}{n f ea:Int}{g:List aQ}{S S' T:DS}{v:V}{vs xs bs:List V}{es:List He}{ad:Nat}{ns:List Int}{b bq:L}{Bq:Wx}{o1 o2 o6 o14 o15 o16 o17 o18:Option V}
theorem zdu(I:sZ t H0 Bn A a n f g vs CC CC.length H lb lw S T)(c:LwC K H0 A ns g vs CC n)(en:S.en=CC.length)(q:∀H',Q (.bl D) H') :
  J8 K t (sA Q) (σL A o1 o2 n o6 f ea o14 o15 o16 o17 o18) H:=by
 obtain⟨e1,cs',en',_,ee,_,le⟩:=I.dk.cmp;have lv:=bL c.hc.px;refine⟨_,Y,A.d,_,_,Y,e1,Y,A.d,_,a,n,f,en',Y,e1,ee,_,Y,_,Y,.ref A.cl,vs.length,Y,.inl ⟨_,aT.of (I.sm _ _ c.hc.hx),Y⟩,_,_,Y,Y,Y,?_⟩;rw[show f+(en'.length:Int)=f+(vs.length:Int) by lia];exact Kh (q _)
theorem zft(I:sZ t H0 Bn A a n f g vs CC ad H lb lw S S)(c:LwC K H0 A ns g vs CC n)(q:∀H' lb' lw' S' o15 o18,sZ t H0 Bn A a n f g vs CC ad H' lb' lw' S' S'->S'.en=ad->Bq.nx (σL A o1 o2 n o6 f ea o14 o15 o16 o17 o18) H') :
  zay K t Bq (σL A o1 o2 n o6 f ea o14 o15 o16 o17 o18) H:=by
 obtain⟨e1,_⟩:=I.dk.cmp;have n1:=c.n1;refine⟨_,Y,A.d,_,_,Y,e1,Y,A.d,a,lb,n,f,g,CC.take ad,S,Tr n f g (CC.take ad) S,Y,I.dk,I.ok,c.n1,c.n8,Tr.nil,(λes S h e S' J ok hh mv=>J.snoc ok hh mv),λl xs es H2 lb2 S2 F2 l2 hn2 hl2 pd x10 ⟨tr,t0,t1,tk⟩ ok2 en G=>?_⟩;obtain⟨_,lz,la⟩:=I.out hn2;have I2:=(I.desk F2 G ok2).keep hl2 l2 lz la;rw[<-t0] at I2;refine⟨l,Y,⟨_,aT.of hl2⟩,yI xs (λi σ H3=>(∃o18,σ=σL A o1 o2 n o6 f ea o14 (U (.int ((i:Int)%n))) o16 o17 o18)/\tw H2 H3/\∃lw3,sZ t H0 ((l,.lst xs)::Bn) A a n f g vs CC ad H3 lb2 lw3 S2 (tr i)) ⟨⟨_,by rw[show ((0:Nat):Int)%n=0 from Int.zero_emod n];rfl⟩,tw.of (aK.refl _),lw,I2⟩ (λi σ H3 ⟨_,_,_,J⟩=>aT.of (J.kz _ bo).1) ?_ ?_⟩
 ·rintro i v σ H3 hi ⟨⟨o18,rfl⟩,ts,lw3,J⟩;obtain⟨⟨h,e⟩,he,ev⟩:=Paired.getP pd hi;obtain⟨hh,_,mv⟩:=tk i _ he;have hh:h=(i:Int)%n:=hh;subst hh;refine⟨_,Y,_,Y,_,Y,_,Y,_,Y,_,Y,_,Y,_,Y,?_⟩;dsimp only[zj];refine J.told (E:=E0) c (ev.ts ts) (cA _ ()) (ck _ ()) mv λH4 lw4 ts4 J4=>?_;refine⟨_,Y,ye Y ⟨_,Y,_,_,Y,Y,_,Y,_,_,Y,Y,by show (0:Int)<n;lia,⟨U v,?_⟩,λb zs z=>ts4 _ _ (ts _ _ z),lw4,J4⟩⟩;rw[show ((i+1:Nat):Int)%n=((i:Int)%n+1)%n by rw[Int.emod_add_emod];rfl];rfl
 ·rintro σ H3 ⟨⟨o18,rfl⟩,ts,lw3,J⟩;rw[bL pd,t1] at J;exact q _ _ _ _ _ _ { J with kz:=λy hy=>J.kz y (bh _ hy) } (by rw[en,I.ln])
theorem zaY(I:sZ t H0 Bn A a n f g vs CC ad H lb lw S S)(c:LwC K H0 A ns g vs CC n)(hb:(bq,.lst bs)∈Bn)(hv:∀(i:Nat) v,bs[i]?=U v->vs[ad+i]?=U v)(q:∀H' lb' lw' S' o15 o17 o18,sZ t H0 Bn A a n f g vs CC (ad+bs.length) H' lb' lw' S' S'->S'.en=ad+bs.length->Bq.nx (σL A o1 o2 n o6 f ea o14 o15 (U (.ref bq)) o17 o18) H') :
  zaA K t Bq (σL A o1 o2 n o6 f ea o14 o15 (U (.ref bq)) o17 o18) H:=by
 refine⟨_,Y,bq,Y,⟨_,aT.of (I.kz _ hb).1⟩,yI bs (λi σ H2=>(∃o17,σ=σL A o1 o2 n o6 f ea o14 o15 (U (.ref bq)) o17 o18)/\∃lb2 S2,sZ t H0 Bn A a n f g vs CC (ad+i) H2 lb2 lw S2 S2) ⟨⟨_,Y⟩,lb,S,I⟩ (λi σ H2 ⟨_,_,_,J⟩=>aT.of (J.kz _ hb).1) ?_ ?_⟩
 ·rintro i v σ H2 hi ⟨⟨o17,rfl⟩,lb2,S2,J⟩;obtain⟨C,co,dk,b1,b2,b3⟩:=J.add c (hv i v hi);obtain⟨e1,_⟩:=dk.cmp;have:=c.cc.le;have:=J.al;exact⟨_,Y,.inl ⟨Y,_,aT.of J.ha⟩,_,Y,A.al,_,v,Y,Y,J.ha,bV (show _<=10 by rw[cx];lia) (by rw[bG];decide),_,Y,A.d,_,_,Y,e1,Y,_,Y,A.d,v,a,lb2,n,f,g,_,C,S2,Y,co,dk,b1,b2,λH3 lb3 F3 G3=>⟨⟨_,Y⟩,lb3,_,b3 H3 lb3 F3 G3⟩⟩
 ·rintro σ H2 ⟨⟨o17,rfl⟩,lb2,S2,J⟩;exact zft J c λH' lb' lw' S' o15 o18=>q H' lb' lw' S' o15 o17 o18
theorem zdv(I:sZ t H0 [] A a n f g vs CC ad H lb lw S S)(c:LwC K H0 A ns g vs CC n)(q:∀H',Q (.bl D) H') :
  J9 K t (sA Q) (σL A o1 o2 n o6 f ea o14 o15 o16 o17 o18) H:=by
 have lv:=bL c.hc.px;have al:=I.al;have lt:(vs.take ad).length=ad:=by rw[cx];lia
 refine⟨(),λb0 h0=>?_⟩;have I0:=I.new (o:=.lst []) h0;generalize upd H b0 (.lst [])=H1 at *
 refine⟨_,Y,_,Y,.ref A.al,ad,Y,.inl ⟨_,aT.of I0.ha,lt.symm⟩,ad,Y,A.cl,vs,Y,aT.of (I0.sm _ _ c.hc.hx),λb1 h1=>?_⟩;have ec:qM vs (U (ad:Int)) ao=vs.drop ad:=by
  have e3:HT.sIx vs.length 0 (U (ad:Int))=min ad vs.length:=HT.sIx_nat ..;have e8:HT.sIx vs.length vs.length ao=vs.length:=rfl;unfold qM;rw[e3,e8,dZ (),cB (by rw[cG];exact bp _)]
 rw[ec];have I1:=I0.new (o:=.lst (vs.drop ad)) h1;generalize upd H1 b1 (.lst (vs.drop ad))=H2 at *
 refine⟨by show 2<=Bb;rw[bG];decide,λz hz=>?_⟩;have I2:=I1.new (o:=.lst [.ref b0,.ref b1]) hz;generalize upd H2 z (.lst [.ref b0,.ref b1])=H3 at *
 refine⟨z,Y,⟨_,aT.of (I2.kz _ bo).1⟩,yI [.ref b0,.ref b1] (λi σ H4=>(∃o15 o16 o17 o18,σ=σL A o1 o2 n o6 f ea o14 o15 o16 o17 o18)/\∃lb4 lw4 S4,sZ t H0 [(z,.lst [.ref b0,.ref b1]),(b1,.lst (vs.drop ad)),(b0,.lst [])] A a n f g vs CC (if i<2 then ad else CC.length) H4 lb4 lw4 S4 S4/\(i=2->S4.en=CC.length)) ⟨⟨_,_,_,_,Y⟩,lb,lw,S,I2,λz=>nomatch z⟩ (λi σ H4 ⟨_,_,_,_,J,_⟩=>aT.of (J.kz _ bo).1) ?_ ?_⟩
 ·rintro i v σ H4 hi ⟨⟨o15,o16,o17,o18,rfl⟩,lb4,lw4,S4,J,_⟩;rcases i with _|_|i
  ·cases hi;exact zaY (bq:=b0) (bs:=[]) J c (bh _ (bh _ bo)) (λi v z=>nomatch z) λH' lb' lw' S' o15 o17 o18 J' _=>⟨⟨_,_,_,_,Y⟩,lb',lw',S',J',λz=>nomatch z⟩
  ·cases hi;refine zaY (bq:=b1) (bs:=vs.drop ad) J c (bh _ bo) (λi v z=>by rw[<-pH];exact z) λH' lb' lw' S' o15 o17 o18 J' en=>?_;have el:ad+(vs.drop ad).length=CC.length:=by rw[cG];lia
   have J':sZ t H0 _ A a n f g vs CC (ad+(vs.drop ad).length) H' lb' lw' S' S':=J';have en:S'.en=ad+(vs.drop ad).length:=en;rw[el] at J' en;exact⟨⟨_,_,_,_,Y⟩,lb',lw',S',J',λ_=>en⟩
  ·cases hi
 ·rintro σ H4 ⟨⟨o15,o16,o17,o18,rfl⟩,lb4,lw4,S4,J,en⟩;exact zdu J c (en Y) q
theorem VP{cell:Int}(I:sZ t H0 Bn A a n f g vs CC ad H lb lw S S)(c:LwC K H0 A ns g vs CC n)(q:∀H' lb' lw' S' o15,sZ t H0 Bn A a n f g vs CC ad H' lb' lw' S' S'->Bq.nx (σL A o1 o2 n o6 f ea (U (.int cell)) o15 o16 o17 o18) H') :
  zaz K t Bq (σL A o1 o2 n o6 f ea (U (.int cell)) o15 o16 o17 o18) H:=by
 obtain⟨e1,_⟩:=I.dk.cmp;have n1:=c.n1;have p0:=cA (cell/7) (show n≠0 by lia);have pn:=ck (cell/7) (show 0<n by lia);refine⟨_,Y,_,_,Y,Y,dB,_,Y,_,_,Y,Y,by show (0:Int)<n;lia,_,Y,A.d,_,_,Y,e1,Y,_,Y,A.d,a,lb,n,f,cell/7%n,g,CC.take ad,S,Y,I.dk,I.ok,p0,pn,λv H2 lb2 e S2 F2 ev mv G=>?_⟩;have I2:=I.desk F2 G (Mv.ok I.ok mv p0 pn);refine⟨_,Y,_,Y,_,Y,_,Y,_,Y,_,Y,_,Y,?_⟩;dsimp only[zj];refine I2.told (E:=E0) c ev p0 pn mv λH3 lw3 _ I3=>?_;exact⟨_,Y,ye Y (q _ _ _ _ _ I3)⟩
theorem zdw(I:sZ t H0 [] A a n f g vs CC 0 H lb lw S S)(c:LwC K H0 A ns g vs CC n)(he:ea<=CC.length)(q:∀H',Q (.bl D) H') :
  Ka K t (sA Q) (σL A o1 o2 n o6 f ea o14 o15 o16 o17 o18) H:=by
 have lv:=bL c.hc.px;refine⟨_,Y,A.s,Y,⟨_,c.hS.mono I.sm⟩,yI (ns.map V.int) (λi σ H2=>(∃o14 o15,σ=σL A o1 o2 n o6 f ea o14 o15 o16 o17 o18)/\∃ad lb lw S,sZ t H0 [] A a n f g vs CC ad H2 lb lw S S) ⟨⟨_,_,Y⟩,0,lb,lw,S,I⟩ (λi σ H' ⟨_,_,_,_,_,J⟩=>c.hS.mono J.sm) ?_ ?_⟩
 ·rintro i u σ H2 hu ⟨⟨o14,o15,rfl⟩,ad,lb,lw,S,J⟩;rw[bx] at hu;obtain⟨cell,_,rfl⟩:=bY.mp hu;have lt:(vs.take ad).length=ad:=by rw[cx];have:=J.al;lia
  refine⟨_,Y,_,_,Y,Y,by show (0:Int)<7;decide,_,_,Y,Y,_,Y,?_⟩;by_cases c1:cell%7<2
  ·refine yv (Bj c1) ⟨_,Y,.ref A.al,ad,Y,.inl ⟨_,aT.of J.ha,lt.symm⟩,_,Y,_,_,Y,Y,_,Y,?_⟩;by_cases c2:(ad:Int)<ea
   ·obtain⟨v,hv⟩:∃v,vs[ad]?=U v:=⟨_,bb ()⟩;obtain⟨C,co,dk,b1,b2,b3⟩:=J.add c hv;obtain⟨e1,_⟩:=dk.cmp;have:=c.cc.le;exact yv (Bj c2) ⟨_,Y,.inl ⟨Y,_,aT.of J.ha⟩,_,Y,_,Y,.ref A.al,ad,Y,.inl ⟨_,aT.of J.ha,lt.symm⟩,A.cl,vs,ad,v,Y,Y,aT.of (J.sm _ _ c.hc.hx),yp hv,A.al,_,v,Y,Y,J.ha,bV (show _<=10 by lia) (by rw[bG];decide),_,Y,A.d,_,_,Y,e1,Y,_,Y,1,Y,A.al,_,-1,v,Y,Y,aT.of zh,L2.atI_last _ _,A.d,v,a,lb,n,f,g,_,C,S,Y,co,dk,b1,b2,λH3 lb3 F3 G3=>VP (b3 H3 lb3 F3 G3) c λH' lb' lw' S' o15 J'=>⟨⟨_,_,Y⟩,ad+1,lb',lw',S',J'⟩⟩
   ·exact ye (Bk c2) (VP J c λH' lb' lw' S' o15 J'=>⟨⟨_,_,Y⟩,ad,lb',lw',S',J'⟩)
  ·exact ye (Bk c1) (ye Y (VP J c λH' lb' lw' S' o15 J'=>⟨⟨_,_,Y⟩,ad,lb',lw',S',J'⟩))
 ·rintro σ H2 ⟨⟨o14,o15,rfl⟩,ad,lb,lw,S,J⟩;exact zdv J c q
end
section
variable {H0 H1 H':Hp}{lb:L->Nat}{d l lr cl tl s w x dx dw:L}{a:tI}{CC:List (List Cs)}{n f:Int}{tab:List aQ}{xs vs aM:List V}{ns:List Int}{wo:HO}{E:XK}{o1 o2 o6 o7 o8 o9 o10 o11 o12 o13 o14 o15 o16 o17 o18:Option V}
structure NwD(t:bv)(H0 H:Hp)(d:L)(a:tI)(lb:L->Nat)(n f:Int)(tab:List aQ):Prop where
 sm:aK H0 H
 z0:∀b o,H0 b=U o->lb b=0
 dk:tj t H d a lb n f tab [] S0
structure LwS(K:bu)(H:Hp)(s tl cl:L)(ns:List Int)(tab:List aQ)(aM vs:List V)(CC:List (List Cs))(n:Int):Prop where
 hS:aT K H s (ns.map V.int)
 hn:ns.length<=63
 hb:∀i∈ns,Cb i
 hc:zfs H cl vs CC
 cc:zgf CC
 ht:H tl=U (.lst aM)
 pt:Paired (PrAt H) aM tab
 l5:tab.length<=5
 iw:∀r∈tab,sH r.2=D
 tb:TbK tab
 n1:1<=n
 n8:n<=8
theorem zaZ(Bp:LwS K H0 s tl cl ns tab aM vs CC n)(N:NwD t H0 H d a lb n f tab)(f0:0<=f)(q:∀H',Q (.bl D) H') :
  zaB K t (sA Q) [U (.ref s),o1,o2,U (.ref tl),U (.ref cl),U (.int n),o6,U (.int f),U (.ref d),o9,o10,o11,o12,o13,o14,o15,o16,o17,o18] H:=by
 have lv:=bL Bp.hc.px;have n8:=Bp.n8;have n1:=Bp.n1;obtain⟨m,rfl⟩:=ic (show 0<=n by lia);refine⟨_,Y,s,ns,2,Y,Bp.hS.mono N.sm,Bp.hn,Bp.hb,λc H3 s3 _=>⟨_,_,Y,Y,dB,_,Y,.ref cl,vs.length,Y,.inl ⟨_,aT.of (s3 _ _ (N.sm _ _ Bp.hc.hx)),Y⟩,_,_,Y,Y,_,_,Y,Y,by show (0:Int)<(vs.length:Int)+1;lia,(),λal ha=>?_⟩⟩;refine zfr (qv:=λ_=>.non) () Y (λ_ _ _ z=>z) λrl H4 s4 nr er=>?_;refine zfr (qv:=λ_=>.int 0) () Y (λ_ _ _ z=>z) λkl H5 s5 nk ek=>?_;intro ll hl;have S3:=N.sm.trans s3;have s0:=sJ (o:=HO.lst []) al ha;have e0:upd H3 al (.lst []) al=U (.lst []):=zh;have fa:=zI S3 ha;have dk:=(N.dk.same s3).same s0;have la:=(N.dk.same s3).l0 ha;have S4:=S3.trans s0;generalize upd H3 al (.lst [])=H4' at *
 have fr:=zI S4 nr;have lr:=dk.l0 nr;have dk:=dk.same s4;have lk:=dk.l0 nk;have S5:=S4.trans s4;have fk:=zI S5 nk;have dk:=dk.same s5;have l3:=dk.l0 hl;have S6:=S5.trans s5;have fl:=zI S6 hl;have s6:=sJ (o:=HO.dK []) ll hl;have e6:upd H5 ll (.dK []) ll=U (.dK []):=zh;have ar:al≠rl:=zy e0 nr;have ak:al≠kl:=zy (s4 _ _ e0) nk;have an:al≠ll:=zy (s5 _ _ (s4 _ _ e0)) hl;have rk:rl≠kl:=zy er nk;have rn:rl≠ll:=zy (s5 _ _ er) hl;have kn:kl≠ll:=zy ek hl;have dk:=dk.same s6;have S6:=S6.trans s6;have ea:=s6 _ _ (s5 _ _ (s4 _ _ e0));have er:=s6 _ _ (s5 _ _ er);have ek:=s6 _ _ ek;generalize upd H5 ll (.dK [])=H6 at *
 have w0:∀b,(if b=rl then 1 else if b=kl then 2 else if b=ll then 3 else 0)≠0->b=rl\/b=kl\/b=ll:=λb z=>by
  by_cases c1:b=rl
  ·exact .inl c1
  ·by_cases c2:b=kl
   ·exact .inr (.inl c2)
   ·by_cases c3:b=ll
    ·exact .inr (.inr c3)
    ·rw[ap c1,ap c2,ap c3] at z;exact absurd Y z
 have nn:∀b o,H0 b=U o->b≠rl/\b≠kl/\b≠ll:=λb o e=>⟨zy e fr,zy e fk,zy e fl⟩;have ok:mt m f tab [] S0:=⟨f0,⟨(),bT _⟩,bp _,.refl _,.nil,cw,(),(),(),(),λp=>zeB Bp.iw p,()⟩;refine zdw (A:=⟨s,tl,cl,d,al,rl,kl,ll⟩) (ns:=ns) (g:=tab) (vs:=vs) (CC:=CC) (S:=S0) (lb:=lb) (lw:=λb=>if b=rl then 1 else if b=kl then 2 else if b=ll then 3 else 0) (H0:=H0) ⟨S6,λb o e=>?_,(),λb z=>?_,ea,⟨la,?_⟩,fa,dk,ok,⟨⟨_,er,?_,λh v e=>.inl ⟨?_,λz=>nomatch z⟩⟩,⟨(dt m).map λ_=>0,?_,?_,λ_ z=>nomatch z⟩,⟨[],[],e6,⟨Y,cw,λ_=>rV,(),cw,(),(),()⟩⟩,au Y,?_,?_,λb z=>?_⟩,ok,bT _⟩ ⟨Bp.hS,Bp.hn,Bp.hc,Bp.cc,⟨aM,Bp.ht,Bp.pt⟩,Bp.tb,Bp.n1,Bp.n8⟩ ?_ q
 ·obtain⟨a1,a2,a3⟩:=nn b o e;exact⟨N.z0 b o e,by rw[ap a1,ap a2,ap a3]⟩
 ·rcases w0 b z with rfl|rfl|rfl
  ·exact lr
  ·exact lk
  ·exact l3
 ·show (if al=rl then 1 else if al=kl then 2 else if al=ll then 3 else 0)=0;rw[ap ar,ap ak,ap an]
 ·rw[bf,fA]
 ·rw[bx] at e;obtain⟨_,_,rfl⟩:=bY.mp e;rfl
 ·rw[da];exact ek
 ·rw[bf,fA]
 ·show (if kl=rl then 1 else if kl=kl then 2 else if kl=ll then 3 else 0)=2;rw[ap rk.symm,au rfl]
 ·show (if ll=rl then 1 else if ll=kl then 2 else if ll=ll then 3 else 0)=3;rw[ap rn.symm,ap kn.symm,au rfl]
 ·rcases w0 b z with rfl|rfl|rfl
  ·exact⟨_,er⟩
  ·exact⟨_,ek⟩
  ·exact⟨_,e6⟩
 ·have:=ck (c/7) (show (0:Int)<(vs.length:Int)+1 by lia);lia
theorem W1(Bp:LwS K H0 s tl cl ns tab aM vs CC n)(s0:aK H0 H)(hw:H w=U wo)(nw:H0 w=ao)(wy:wo=.ins t.q0a dw []\/wo=.ins t.q0e dw [])(hl:H l=ao)(hx:upd H l (.lst aM) x=ao)(hdx:upd H l (.lst aM) dx=ao)(q:∀H' a lb,NwD t H0 H' x a lb n f tab->Q .non H'):wz t [.ref x,.ref l,.int n,.ref w,.int f] (upd (upd (upd H l (.lst aM)) dx (.own x)) x (.ins t.q01 dx [])) Q E:=by
 have s2:=sJ (o:=HO.lst aM) l hl;have e1:upd H l (.lst aM) l=U (.lst aM):=zh;generalize upd H l (.lst aM)=H2 at *
 have s3:aK H2 (upd (upd H2 dx (.own x)) x (.ins t.q01 dx [])):=λb o z=>by rw[zk (zy z hx),zk (zy z hdx)];exact z
 have S:=s0.trans (s2.trans s3);have nx:∀b o,H0 b=U o->b≠x:=λb o z=>zy (s2 _ _ (s0 _ _ z)) hx;have l5:=Bp.l5;exact⟨x,l,w,dx,dw,n,f,wo,tab,Y,zh,⟨aM,s3 _ _ e1,ZU S Bp.pt⟩,(),s3 _ _ (s2 _ _ hw),zy (s2 _ _ hw) hx,λH' a lb ea ed k z0 h=>q H' a lb ⟨λb o z=>k b o (nx b o z) (S _ _ z),λb o z=>z0 b o (nx b o z) (zy z nw) (S _ _ z),wo,[],[],[],[],[],h,.nil,.nil,⟨cw,λ_ z=>nomatch z⟩,Y,by unfold zhB;rw[ed];exact wy⟩⟩
theorem za0(Bp:LwS K H0 s tl cl ns tab aM vs CC n)(s0:aK H0 H)(hw:H w=U wo)(nw:H0 w=ao)(wy:wo=.ins t.q0a dw []\/wo=.ins t.q0e dw [])(q:∀H',Q (.bl D) H') :
  zaC K t (sA Q) [U (.ref s),o1,o2,U (.ref tl),U (.ref cl),U (.int n),U (.ref w),U (.int 0),o8,o9,o10,o11,o12,o13,o14,o15,o16,o17,o18] H:=by
 refine⟨_,Y,s,ns,0,Y,Bp.hS.mono s0,Bp.hn,Bp.hb,λc1 H1 s1 _=>⟨_,_,Y,Y,dB,_,_,Y,Y,by show (0:Int)<2;decide,Y,_,Y,?_⟩⟩;have S1:=s0.trans s1;by_cases k:V.int (c1/16%2)=.int 0
 ·refine yv (Bj k) ⟨_,Y,tl,aM,Y,.inl (aT.of (S1 _ _ Bp.ht)),λl hl=>⟨_,Y,_,Y,?_⟩⟩;intro x dx hx hdx nx;exact W1 Bp S1 (s1 _ _ hw) nw wy hl hx hdx λH' a lb N=>⟨Y,zaZ Bp N (rX _) q⟩
 ·refine ye (Bk k) ⟨_,Y,s,ns,0,Y,Bp.hS.mono S1,Bp.hn,Bp.hb,λc3 H3 s3 cb=>⟨_,_,Y,Y,dB,_,_,Y,Y,⟨(),(),()⟩,_,_,Y,Y,⟨cb.w.div,by unfold Cw;lia⟩,_,_,Y,Y,⟨(),(),()⟩,_,_,Y,Y,_,_,Y,Y,by show (0:Int)<10^29-300;decide,?_⟩⟩;have S3:=S1.trans s3;refine⟨_,Y,tl,aM,Y,.inl (aT.of (S3 _ _ Bp.ht)),λl hl=>⟨_,Y,_,Y,_,Y,?_⟩⟩;intro x dx hx hdx nx;exact W1 Bp S3 (s3 _ _ (s1 _ _ hw)) nw wy hl hx hdx λH' a lb N=>⟨Y,zaZ Bp N (cA _ ()) q⟩
theorem zfu{o5:Option V}(Bq:DkF K t)(hS:aT K H s (ns.map V.int))(hn:ns.length<=63)(hb:∀i∈ns,Cb i)(hc:zfs H cl vs CC)(cc:zgf CC)(hT:sI H tl tab)(l5:tab.length<=5)(iw:∀r∈tab,sH r.2=D)(tb:TbK tab)(q:∀H',Q (.bl D) H') :
  zaD K t (sA Q) [U (.ref s),o1,o2,U (.ref tl),U (.ref cl),o5,o6,o7,o8,o9,o10,o11,o12,o13,o14,o15,o16,o17,o18] H:=by
 obtain⟨aM,hr,pr⟩:=hT;refine⟨_,Y,s,ns,0,Y,hS,hn,hb,λc1 H1 s1 _=>⟨_,_,Y,Y,by show (0:Int)<8;decide,_,_,Y,Y,?_⟩⟩;have b1:=cA c1 (show (8:Int)≠0 by lia);have b2:=ck c1 (show (0:Int)<8 by lia);have Bp:LwS K H s tl cl ns tab aM vs CC (1+c1%8):=⟨hS,hn,hb,hc,cc,hr,pr,l5,iw,tb,(),()⟩;intro w dw hw hdw nw;have s2:aK H1 (upd (upd H1 dw (.own w)) w (.ins t.q0a dw [])):=λb o z=>by rw[zk (zy z hw),zk (zy z hdw)];exact z
 have e2:upd (upd H1 dw (.own w)) w (.ins t.q0a dw []) w=U (.ins t.q0a dw []):=zh;have S2:=s1.trans s2;generalize upd (upd H1 dw (.own w)) w (.ins t.q0a dw [])=H2 at *
 refine⟨_,Y,s,ns,0,Y,hS.mono S2,hn,hb,λc2 H3 s3 _=>⟨_,_,Y,Y,dB,_,_,Y,Y,by show (0:Int)<2;decide,Y,_,Y,?_⟩⟩;have S3:=S2.trans s3;by_cases k:V.int (c2/8%2)=.int 1
 ·refine yv (Bj k) ?_;intro w' dw' hw' hdw' nw';have s4:aK H3 (upd (upd H3 dw' (.own w')) w' (.ins t.q0e dw' [])):=λb o z=>by rw[zk (zy z hw'),zk (zy z hdw')];exact z
  exact za0 (dw:=dw') Bp (S3.trans s4) zh (zI S3 hw') (.inr Y) q
 ·exact ye (Bk k) (za0 (dw:=dw) Bp S3 (s3 _ _ e2) (zI s1 hw) (.inl Y) q)
end
theorem Qg:∀a:aZ,a.deep=0->Zj a<=a.cnt
 |.nil,_=>by rw[Zj];exact bT _
 |.cons r rs,h=>by
  rw[aZ.deep] at h;have i:=Qg rs ();rw[Zj,aZ.cnt];have:szR r<=r.cnt:=by
   cases r with
   |iff e a b=>rw[Rw.deep] at h;lia
   |_=>simp[szR,Rw.cnt]
  lia
theorem zg4:∀rs:List Rw,(aZ.of rs).deep<=1->Zj (aZ.of rs)<=(rs.map szX).sum
 |[],_=>by show Zj .nil<=_;rw[Zj];exact bT _
 |r::rs,h=>by
  have h:(aZ.cons r (aZ.of rs)).deep<=1:=h;rw[aZ.deep] at h;have i:=zg4 rs ();show Zj (.cons r (aZ.of rs))<=_;rw[Zj,bw,cC];have:szR r<=szX r:=by
   cases r with
   |iff e a b =>
    rw[Rw.deep] at h;have h1:=Qg a ();have h2:=Qg b ();rw[szR];show _<=a.cnt+b.cnt+3;lia
   |_=>simp[szR,szX]
  lia
theorem zhZ(h:zge rs):WF 6 (aZ.of rs)/\(z4 (aZ.of rs) 0).length<=11/\V6 (z4 (aZ.of rs) 0):=by
 have z:=Xo (aZ.of rs) 0;have s:=zg4 rs h.dp;have:(rs.map szX).sum<=11:=h.sz;have:=h.dp;have R:WF 6 (aZ.of rs):=⟨(),(),h.pl⟩;exact⟨R,(),zim R h.ok ()⟩
theorem ziu(ns:List Int):∃ys:List Int,qM (ns.map V.int) (U (3:Int)) (U (7:Int))=ys.map V.int/\ys.length<=4:=by
 have e3:HT.sIx ns.length 0 (U (3:Int))=min 3 ns.length:=HT.sIx_nat ..;have e8:HT.sIx ns.length ns.length (U (7:Int))=min 7 ns.length:=HT.sIx_nat ..;refine⟨(ns.drop (min 3 ns.length)).take (min 7 ns.length-min 3 ns.length),?_,?_⟩
 ·unfold qM;rw[bf,e3,e8,nu,nh]
 ·rw[cx,cG];lia
section
variable {a b tl s:L}{CC:List (List Cs)}{ns:List Int}{us ws:List Str}{tab:List aQ}
theorem zfv{o4 o5 o6 o7 o8 o9 o10 o11 o12 o13 o14 o15 o16 o17 o18:Option V}(Dk:DkF K t)(hS:aT K H s (ns.map V.int))(hn:ns.length<=63)(hb:∀i∈ns,Cb i)(h1:ss H a us)(h2:us.length=2)(h3:ss H b ws)(h4:ws.length=2)(hT:sI H tl tab)(l5:tab.length<=5)(iw:∀r∈tab,sH r.2=D)(tb:TbK tab)(q:∀H',Q (.bl D) H') :
  zaE K t (sA Q) [U (.ref s),U (.ref a),U (.ref b),U (.ref tl),o4,o5,o6,o7,o8,o9,o10,o11,o12,o13,o14,o15,o16,o17,o18] H:=by
 obtain⟨ms,em,lm⟩:=ziu ns;refine⟨_,Y,3,Y,7,Y,s,_,Y,hS,λp hp=>?_⟩;rw[em];generalize c_:upd H p _=H1;obtain⟨s1,e1⟩:=yW c_ hp;refine⟨p,Y,⟨_,aT.of e1⟩,λBq hD=>?_⟩;have s2:=sJ (o:=HO.lst []) Bq hD;refine⟨λi m ys τ H'=>m=ms.length-i/\i<=ms.length/\(∃o,τ=[o,U (.ref a),U (.ref b)])/\aK H1 H'/\H' Bq=U (.lst ys)/\∃CC:List (List Cs),Paired (λv C=>tO H' v C/\v≠.ref Bq) ys CC/\CC.length=i/\∀C∈CC,V6 C/\C.length<=11,⟨_,Y,bT _,⟨_,Y⟩,s2,zh,[],.nil,Y,λ_ z=>nomatch z⟩,?_⟩;rintro i m ys τ H2 ⟨rfl,hi,⟨o,rfl⟩,sm,hD2,CC,pc,lc,ok⟩;refine⟨hD2,?_⟩;have ly:=bL pc;rcases gR i ms.length with c|c
 ·refine .inr ⟨⟨_,_,aT.of (sm _ _ e1),bb (by rw[bf];exact c)⟩,bV (show ys.length<=5 by lia) (by rw[bG];decide),λv τ' H'=>H' Bq=U (.lst ys)/\aK H2 H'/\(∃o,τ'=[o,U (.ref a),U (.ref b)])/\∃C,tO H' v C/\v≠.ref Bq/\V6 C/\C.length<=11,?_,λ_ _=>False,λ_ _ z=>z.elim,?_⟩
  ·rintro v τ' H3 ⟨z1,s3,z2,C,cv,nv,z3⟩;have ts:tw H3 (upd H3 Bq (.lst (ys++[v]))):=jn z1 λ_ z=>nomatch z
   have kc:∀ {v C},tO H3 v C->v≠.ref Bq->tO (upd H3 Bq (.lst (ys++[v]))) v C/\v≠.ref Bq:=λ{v C} ⟨c,zs,e,hc,pc⟩ n=>⟨⟨c,zs,e,by rw[zk (λy=>n (by rw[e,y]))];exact hc,xP (jn z1 λ_ z=>nomatch z) pc⟩,n⟩;refine⟨z1,ms.length-(i+1),(),Y,c,z2,xz (sm.trans s3) hD,zh,CC++[C],Paired.snocP (Paired.mapP pc λv C ⟨z,n⟩=>?_) ?_,by rw[bF,lc];rfl,λC' z=>?_⟩
   ·obtain⟨c,zs,e,hc,pc⟩:=z.same s3;exact⟨⟨c,zs,e,by rw[zk (λy=>n (by rw[e,y]))];exact hc,xP ts pc⟩,n⟩
   ·obtain⟨c,zs,e,hc,pc⟩:=cv;exact⟨⟨c,zs,e,by rw[zk (λy=>nv (by rw[e,y]))];exact hc,xP ts pc⟩,nv⟩
   ·rcases bB.mp z with z|z
    ·exact ok C' z
    ·rw[br.mp z];exact z3
  ·rintro x H3 ⟨rfl,hx⟩;have hx:=hx _ (aT.of (sm _ _ e1));rw[bx] at hx;obtain⟨n,_,rfl⟩:=bY.mp hx;have S:=s1.trans sm;refine yv (R:=False) Y ⟨_,Y,_,Y,_,Y,n,a,b,us,ws,Y,h1.same S,h2,h3.same S,h4,λl rs H4 s4 rl rx=>?_⟩;obtain⟨R,l11,O⟩:=zhZ rx;refine⟨.ref l,aZ.of rs,Y,rl.any,R,bN l11 (),λl2 xs H5 s5 hl2 hx px=>?_⟩;exact⟨(s4.trans s5) _ _ hD2,s4.trans s5,⟨_,Y⟩,_,⟨l2,xs,Y,hx,px⟩,(λz=>by cases z;rw[s4 _ _ hD2] at hl2;cases hl2),O,l11⟩
 ·refine .inl ⟨⟨_,aT.of (sm _ _ e1),by rw[bf];exact c⟩,?_⟩;have S:=s1.trans sm;exact zfu Dk (hS.mono S) hn hb ⟨hD2,Paired.mapP pc λ_ _ z=>z.1⟩ ⟨ok,()⟩ (hT.same S) l5 iw tb q
theorem zgH{vs:List V}{_E:XK}(Dk:DkF K t)(h:sp_law K vs H Q _E) :
  zeX K t (sA Q) (L2.start ["script","shelves","slots","table","codes","hands","way","first","desk","early","added","runs","ranks","laid","cell","hand","batch","code","row"] vs) H:=by
 obtain⟨s,ns,rfl,hS,hn,hb,q⟩:=h;refine⟨_,Y,s,ns,1,Y,hS,hn,hb,λc1 H1 s1 _=>⟨c1,Y,λa us H2 s2 _ na la=>?_⟩⟩;have S2:=s1.trans s2;refine⟨_,Y,s,ns,2,Y,hS.mono S2,hn,hb,λc2 H3 s3 _=>⟨c2,Y,λb ws H4 s4 _ nb lb=>?_⟩⟩;have S4:=S2.trans (s3.trans s4);refine⟨_,Y,s,ns,1,Y,hS.mono S4,hn,hb,λc3 H5 s5 _=>⟨_,_,Y,Y,dB,_,Y,_,a,us,Y,na.same (s3.trans (s4.trans s5)),la,λtl tab H6 s6 _ ht ri ok l5=>?_⟩⟩;have S6:=S4.trans (s5.trans s6);exact zfv Dk (hS.mono S6) hn hb (na.same (s3.trans (s4.trans (s5.trans s6)))) la (nb.same (s5.trans s6)) lb ht l5 (λr z=>(ok r z).2.1) ⟨ri.nd,λr z=>(ok r z).1⟩ q
end
section
variable {x:L}{a:RAd}{C:List Cs}{s:hZ}{E:XK}{σ:St}
theorem ZF{k:Int}(R:aY t H x a C s)(so:xb s.sl)(h0:σ[0]?=U (U (.ref x)))(h1:σ[1]?=U (U (.ref p)))(e2:H p=U (.tup xs))(ek:tE xs k=U (.ref te))(e3:H te=U (.tup e))(ok:aX e)(q:∀H1,aK H H1->fin t (rk s.sl e) Q E H1) :
  zW t.q00 "worth_of" (yw t) [] E (Z 0) (zc (aL (yJ K) (Z 1) (tC (.int k))) zj) σ H Q:=
 ⟨_,h0,x,_,_,Y,R.ix,Y,XT h1 e2 ek ⟨x,te,e,a,C,s,Y,R,so,e3,ok,q⟩⟩
theorem za1(R:aY t H x a C s)(so:xb s.sl)(h0:σ[0]?=U (U (.ref x)))(h1:σ[1]?=U (U (.ref p)))(e2:H p=U (.tup xs))(i1:tE xs 1=U (.str sh))(i2:tE xs 2=U (.ref te))(e3:H te=U (.tup e))(ok:aX e)(q1:∀i q H',rk s.sl e=.ok i->aK H H'->H' q=U (.tup [.str sh,.int i])->Q (.ref q) H')(q2:∀er H',rk s.sl e=.error er->aK H H'->zeT t er E H') :
  zW t.q00 "place_in" (yY t) [] E (Z 0) (zc (Z 1) zj) σ H Q:=
 ⟨_,h0,x,_,_,Y,R.ix,Y,_,h1,x,p,xs,sh,te,e,a,C,s,Y,R,so,e2,i1,i2,e3,ok,q1,q2⟩
theorem Qh{vs:List V}(F:RnF K t)(h:Zi t vs H Q E) :
  Wp K t E (sA Q) (L2.start ["self","due","worth","place"] vs) H:=by
 obtain⟨x,v,r,w,m,a,C,s,rfl,R,h1,h2,h3,h4,h5,q1,q2⟩:=h;have l1:=h4.l1;have l2:=h4.l2;have l4:=h4.l4;have so:=h4.so;cases r with
 |take sh e sl' =>
  unfold hV at h1;unfold qT at h3;obtain⟨r,te,rfl,_,_,e2,e3⟩:=h1;refine kY Y e2 Y (λ_=>?_) λz=>absurd Y z;refine⟨_,Y,x,_,_,Y,R.ix,Y,za1 R so Y Y e2 Y Y e3 h3 (λi q H1 hk s1 hq=>?_) λer H1 hk s1=>q2 H1 er (by unfold sY;simp only[hk]) s1⟩;have R1:=R.same s1;refine⟨_,Y,x,q,(sh,i),w,a,C,s,Y,R1,hq,by have:=h4.l3;lia,λH2 K2 R2=>?_⟩;have hs2:=R2.hs;rw[ze0] at hs2;exact qY Y R2.ix F.cl F.n4 Y (XT Y (K2 _ _ (R1.notup (s1 _ _ e2)) (s1 _ _ e2)) Y ⟨_,_,Y,DPut.k (k:=.inr sl') hs2 (bV (by lia:_<=900) ()),q1 _ _ (by unfold sY;simp only[hk]) ((Kp.of_same s1).trans (K2.trans (wT (.inr (.inl Y))))) (R2.putS _)⟩)
 |give sh e f =>
  unfold hV at h1;unfold qT at h3;obtain⟨r,te,tf,rfl,_,_,_,e2,e3,e4⟩:=h1;refine kY Y e2 Y (λz=>absurd z ()) λ_=>kY Y e2 Y (λ_=>?_) λz=>absurd Y z;refine za1 R so Y Y e2 Y Y e3 h3.1 (λi q H1 hk s1 hq=>?_) λer H1 hk s1=>q2 H1 er (by unfold sY;simp only[hk]) s1;have R1:=R.same s1;refine ZF R1 so Y Y (s1 _ _ e2) Y (s1 _ _ e4) h3.2 λH3 s3=>?_;cases hk2:rk s.sl f with
  |error er=>exact tD.mpr (q2 H3 er (by unfold sY;simp only[hk,hk2]) (s1.trans s3))
  |ok n =>
   have R3:=R1.same s3;have ld:=jv s.gi;refine fin_ok.mpr (qY Y R3.ix F.cl F.n5 Y ⟨_,Y,_,_,Y,DPut.t (k:=zC (sh,i)) R3.hg (s3 _ _ hq) (bV (by lia:_<=900) ()),?_⟩);rw[show yq (sE s.gi) (zC (sh,i)) (V.int n)=sE (s.gi++[((sh,i),n)]) from (qS s.gi ((sh,i),n)).symm];exact q1 _ _ (by unfold sY;simp only[hk,hk2]) ((Kp.of_same (s1.trans s3)).trans (wT (.inr (.inr (.inl Y))))) (R3.putG _)
 |lt sl' e =>
  unfold hV at h1;unfold qT at h3;obtain⟨r,te,rfl,_,_,e2,e3⟩:=h1;refine kY Y e2 Y (λz=>absurd z ()) λ_=>kY Y e2 Y (λz=>absurd z ()) λ_=>kY Y e2 Y (λ_=>?_) λz=>absurd Y z;refine ZF R so Y Y e2 Y e3 h3 λH1 s1=>?_;cases hk:rk s.sl e with
  |error er=>exact tD.mpr (q2 H1 er (by unfold sY;simp only[hk]) s1)
  |ok n =>
   have R2:=R.same s1;exact fin_ok.mpr (qY Y R2.ix F.cl F.n4 Y (XT Y (s1 _ _ e2) Y ⟨_,_,Y,DPut.k (k:=.inr sl') R2.hs (bV (by lia:_<=900) ()),q1 _ _ (by unfold sY;simp only[hk]) ((Kp.of_same s1).trans (wT (.inr (.inl Y)))) (R2.putS _)⟩))
 |say e =>
  unfold hV at h1;unfold qT at h3;obtain⟨r,te,rfl,_,_,e2,e3⟩:=h1;refine kY Y e2 Y (λz=>absurd z ()) λ_=>kY Y e2 Y (λz=>absurd z ()) λ_=>kY Y e2 Y (λz=>absurd z ()) λ_=>?_;unfold Yc yk tBM;refine qY Y R.ix F.cl F.n7 Y ⟨.inl ⟨Y,_,aT.of R.ha⟩,?_⟩;refine ZF R so Y Y e2 Y e3 h3 λH1 s1=>?_;cases hk:rk s.sl e with
  |error er=>exact tD.mpr (q2 H1 er (by unfold sY;simp only[hk]) s1)
  |ok n =>
   have R1:=R.same s1;refine fin_ok.mpr ⟨_,_,_,Y,Y,R1.ha,bV (by rw[bf];lia:_<=900) (),?_⟩;rw[show ot V.int s.sa++[V.int n]=ot V.int (s.sa++[n]) by simp];exact q1 _ _ (by unfold sY;simp only[hk]) ((Kp.of_same s1).trans (wT (.inr (.inr (.inr (.inr Y)))))) (R1.putA _)
 |off e=>exact h2.elim
 |iff e b d=>exact h2.elim
theorem VQ{vs:List V}(F:RnF K t)(h:jQ t vs H Q E) :
  Yd K t E (sA Q) (L2.start ["self","due","worth"] vs) H:=by
 obtain⟨x,v,c,w,m,a,C,s,rfl,R,h1,h2,h3,h4,q1,q2⟩:=h;have so:=h3.so;have nx:∀ {v' H1 s1},aY t H1 x a C s1->(∀k:Nat,k=s1.n+1->Q (.int (k:Nat)) H1)->zL (aL aF (zV K (Z 0) "at") (tC (.int 1))) (sA Q) (L2.start ["self","due","worth"] [.ref x,v',.int w]) H1:=λR1 q=>by
  unfold zL aL;exact qY Y R1.ix F.cl F.n2 Y ⟨_,_,Y,Y,q _ Y⟩
 cases c with
 |go en =>
  obtain⟨p,rfl,e2⟩:=h1;refine kY Y e2 Y (λ_=>?_) λz=>absurd Y z;exact XT Y e2 Y (q1 H s en Y (.of_same λ_ _ z=>z) R)
 |skip e to =>
  obtain⟨p,te,rfl,e2,e3⟩:=h1;refine kY Y e2 Y (λz=>absurd z ()) λ_=>kY Y e2 Y (λ_=>?_) λz=>absurd Y z;refine ZF R so Y Y e2 Y e3 h2 λH1 s1=>?_;cases hk:rk s.sl e with
  |error er=>exact tD.mpr (q2 H1 er (by unfold vJ;simp only[hk]) s1)
  |ok n =>
   have R2:=R.same s1;refine fin_ok.mpr ⟨Y,_,Y,zik (λhn=>?_) λhn=>?_⟩
   ·exact XT Y (s1 _ _ e2) Y (q1 H1 s to (by unfold vJ;simp only[hk,au hn]) (.of_same s1) R2)
   ·exact nx R2 λk hk'=>q1 H1 s k (by unfold vJ;simp only[hk,ap hn,hk']) (.of_same s1) R2
 |row r =>
  obtain⟨h1,hni⟩:=h1;rcases zgi r hni with ⟨e,rfl⟩|hdo
  ·unfold hV at h1;unfold K3 qT at h2;obtain⟨r,te,rfl,_,_,e2,e3⟩:=h1;refine kY Y e2 Y (λz=>absurd z ()) λ_=>kY Y e2 Y (λz=>absurd z ()) λ_=>kY Y e2 Y (λ_=>?_) λz=>absurd Y z;refine ZF R so Y Y e2 Y e3 h2 λH1 s1=>?_;cases hk:rk s.sl e with
   |error er=>exact tD.mpr (q2 H1 er (by unfold vJ;simp only[hk]) s1)
   |ok n =>
    have R2:=R.same s1;refine fin_ok.mpr ⟨Y,_,Y,zij (λhn=>?_) λhn=>?_⟩
    ·have R3:=R2.putI { s with why:=U (bg "told") } rfl rfl rfl rfl;refine⟨_,Y,_,_,_,_,Y,R2.ix,F.cl,F.n3,(by show (7:Nat)<1000;decide),?_⟩;exact nx R3 λk hk'=>q1 _ { s with why:=U (bg "told") } k (by unfold vJ;simp only[hk,ap hn,hk']) ((Kp.of_same s1).trans (wT (.inl Y))) R3
    ·exact nx R2 λk hk'=>q1 H1 s k (by unfold vJ;simp only[hk,au hn,hk']) (.of_same s1) R2
  ·obtain⟨p,zs,hd,rfl,e2,e3,n1,n2,n3⟩:=zgj h1 hdo;have el:=zaH (w:=w) (s:=s) hdo;refine kY Y e2 e3 (λz=>absurd z n1) λ_=>kY Y e2 e3 (λz=>absurd z n2) λ_=>kY Y e2 e3 (λz=>absurd z n3) λ_=>?_;refine⟨_,Y,x,_,_,Y,R.ix,Y,_,Y,_,Y,x,_,r,w,m,a,C,s,Y,R,h1,hdo,h2,h3,h4,λH1 s' e K1 R1=>?_,λH1 er e s1=>q2 H1 er (by rw[el,e]) s1⟩;have en:=zil hdo e;exact nx R1 λk hk'=>q1 H1 s' k (by rw[el,e,hk',en]) K1 R1
end
section
variable {x:L}{a:RAd}{C:List Cs}{s:hZ}{E:XK}
theorem Qi{vs:List V}{_E:XK}{P:Str->Option af}(T:Txt K P t)(h:jC t vs H Q _E) :
  Wo K t (sA Q) (L2.start ["self","place"] vs) H:=by
 obtain⟨x,a,C,s,rfl,R,h2,h3,q1,q2⟩:=h;have F:=rnF T;refine⟨_,Y,x,_,_,Y,R.ix,Y,x,a,C,s,Y,R,λH1 s1=>⟨_,Y,?_⟩⟩;show if _ then _ else _
 have R1:=R.same s1;by_cases ho:yt C s=D
 ·rw[au ho];show if _ then _ else _
  rw[au rfl];exact q1 H1 (by unfold wG;rw[au ho]) s1
 rw[ap ho];obtain⟨xs,hx,pr⟩:=R1.hc;have lx:=bL pr;have lt:=ZQ ho;have hc:C[s.n]?=U C[s.n]:=bb lt;have hv:xs[s.n]?=U xs[s.n]:=bb ();have cv:=yR pr hv hc;have ok:=h2 _ (eD lt);have es:wG C s=vD C[s.n] s:=by unfold wG;rw[ap ho,hc];rfl
 rw[es] at q1 q2;obtain⟨p,zs,hd,ev,hp,h0,ht,hnt⟩:=zhE cv;unfold zG aL;refine qY Y R1.ix F.cl F.n1 Y (qY Y R1.ix F.cl F.n2 Y ⟨_,xs,_,_,Y,Y,aT.of hx,yp hv,p,zs,0,_,ev,Y,sB.of hp,h0,Y,_,Y,?_⟩);show if _ then _ else _
 by_cases hh:hd=bg "take"
 case neg =>
  rw[au (by rw[Bk (λz=>hh (V.str.inj z))];rfl)];exact q1 H1 (hnt hh s) s1
 rw[ap (by rw[hh];decide)];obtain⟨sh,e,sl,te,ec,a1,a2,ht⟩:=ht hh;rw[ec] at q1 q2 ok;unfold K3 qT at ok;refine⟨_,Y,x,_,_,Y,R1.ix,Y,?_⟩;unfold zc aL;refine qY Y R1.ix F.cl F.n1 Y (qY Y R1.ix F.cl F.n2 Y ⟨_,xs,_,_,Y,Y,aT.of hx,yp hv,?_⟩);refine⟨x,p,zs,sh,te,e,a,C,s,by rw[ev];rfl,R1,h3,hp,a1,a2,ht,ok,λi q H2 hk s2 hq=>?_,λer H2 hk s2=>?_⟩
 case refine_2 =>
  have q':=q1 H2 (by unfold vD;simp only[hk]) (s1.trans s2);cases er with
  |nought=>exact⟨t.q07,Y,T.m_Nought_Great_Nought,q'⟩
  |great=>exact⟨t.q08,Y,T.m_Great_Great_Nought,q'⟩
  |stuck=>trivial
 have R2:=R1.same s2;have g1:sL H2 a.gi (.ref q) ((zF s.gi (sh,i)).map V.int):=.inr ⟨sE s.gi,zC (sh,i),q,.inl R2.hg,Y,hq,(wc _ _).symm⟩;have g2:sL H2 a.no (.ref q) ((zF s.no (sh,i)).map V.int):=.inr ⟨sE s.no,zC (sh,i),q,.inl R2.hn,Y,hq,(wc _ _).symm⟩;refine⟨_,Y,?_⟩;refine qY Y R2.ix F.cl F.n5 Y ⟨_,_,Y,g1,_,Y,?_⟩;show if _ then _ else _
 cases hg:zF s.gi (sh,i) with
 |some j =>
  rw[au (by rfl)];show if _ then _ else _
  rw[au rfl];exact q1 H2 (by unfold vD;simp only[hk,hg];rfl) (s1.trans s2)
 |none =>
  rw[ap ()];refine⟨_,Y,?_⟩;refine qY Y R2.ix F.cl F.n6 Y ⟨_,_,Y,g2,_,Y,?_⟩;show if _ then _ else _
  cases hn:zF s.no (sh,i) with
  |some j =>
   rw[au (by rfl)];exact q1 H2 (by unfold vD;simp only[hk,hg,hn];rfl) (s1.trans s2)
  |none =>
   rw[ap ()];refine⟨_,Y,?_⟩;exact q2 (sh,i) q H2 (by unfold vD;simp only[hk,hg,hn];rfl) (s1.trans s2) hq
end
theorem VR{vs:List V}{_E:XK}(h:yM vs H Q _E) :
  Yb K t (sA Q) (L2.start ["ranks","rank","low","high","amid"] vs) H:=by
 obtain⟨a,rs,ac,rfl,h1,h2,q⟩:=h;refine⟨_,Y,.ref a,rs.length,Y,.inl ⟨_,aT.of h1,(bf ..).symm⟩,mbW a ac rs H,⟨_,0,rs.length,ao,Y,aK.refl H,bT _,bp _,Y,by simp,by simp⟩,?_⟩;rintro m σ H' ⟨lo,hi,o,rfl,s,h4,h5,rfl,h6,h7⟩;refine⟨_,Y,_,Y,_,_,Y,Y,_,Y,?_⟩;by_cases hl:lo<hi
 ·refine yv (Bj ()) ⟨λσ' H'=>∃m',m'<hi-lo/\mbW a ac rs H m' σ' H',λ_ _ z=>z,_,Y,_,Y,_,_,Y,Y,_,_,Y,Y,dB,?_⟩;obtain⟨md,emd⟩:∃md:Nat,((lo:Int)+hi)/2=md:=⟨(lo+hi)/2,()⟩;dsimp only;rw[emd];have l1:lo<=md:=by lia
  have l2:md<hi:=by lia
  obtain⟨x,hx⟩:∃x,rs[md]?=U x:=⟨_,bb ()⟩;refine⟨_,Y,_,Y,a,_,md,_,Y,Y,aT.of (s _ _ h1),yp (j:=md) (by rw[bx,hx];rfl),_,Y,_,_,Y,Y,_,Y,?_⟩;by_cases hr:x<ac
  ·exact yv (Bj hr) ⟨_,Y,_,_,Y,Y,_,(by lia:hi-(md+1)<hi-lo),md+1,hi,_,Y,s,(),h5,Y,λr hr2=>Int.lt_of_le_of_lt (zcx h2 hx r hr2) hr,h7⟩
  ·exact ye (Bk hr) ⟨_,Y,_,(by lia:md-lo<hi-lo),lo,md,_,Y,s,(),(),Y,h6,λr hr2=>Int.le_trans () (zgs h2 hx r hr2)⟩
 ·refine ye (Bk ()) ⟨_,Y,?_⟩;obtain rfl:lo=hi:=by lia
  exact q lo H' s h5 h6 h7
theorem Qj{vs:List V}{_E:XK}{P:Str->Option af}(T:Txt K P t)(h:xW t vs H Q _E) :
  Wq K t (sA Q) (L2.start ["self","worth"] vs) H:=by
 obtain⟨x,w,m,a,C,s,rfl,R,h2,h3,h4,q⟩:=h;have F:=rnF T;refine⟨_,Y,x,_,_,Y,R.ix,Y,x,a,C,s,Y,R,λH1 s1=>⟨_,Y,?_⟩⟩;have R1:=R.same s1;by_cases ho:yt C s=D
 ·exact yv ho (q H1 (.of_same s1) (by unfold xj;rw[au ho];exact R1))
 refine ye (rJ _ ▸ ho) ?_;obtain⟨xs,hx,pr⟩:=R1.hc;have lx:=bL pr;have lt:=ZQ ho;have hc:C[s.n]?=U C[s.n]:=bb lt;have hv:xs[s.n]?=U xs[s.n]:=bb ();have cv:=yR pr hv hc;have es:∀w,xj C w s=xo C[s.n] w s:=λw=>by unfold xj;rw[ap ho,hc]
 rw[es] at q;refine⟨_,Y,x,_,_,Y,R1.ix,Y,yd R1.ix F.cl F.n1 Y Y (yd R1.ix F.cl F.n2 Y Y ⟨a.co,xs,_,_,Y,Y,aT.of hx,yp hv,_,Y,x,_,C[s.n],w,m,a,C,s,Y,R1,cv,h2 _ (eD lt),h3,h4,λH2 s' k e K2 R2=>⟨_,Y,x,_,_,_,Y,R2.ix,F.cl,F.n2,(by show (7:Nat)<1000;decide),?_⟩,λH2 er e s2=>?_⟩)⟩
 ·have z:=R2.putI { s' with n:=k } rfl rfl rfl rfl;exact q _ ((Kp.of_same s1).trans (K2.trans (wT (.inl Y)))) (by unfold xo;rw[e];exact z)
 ·have R3:=R1.same s2;have z:=R3.putI { s with why:=U (zak er) } rfl rfl rfl rfl;have q':=q _ ((Kp.of_same s1).trans ((Kp.of_same s2).trans (wT (.inl Y)))) (by unfold xo;rw[e];exact z);cases er with
  |nought=>exact⟨t.q07,Y,.inr ⟨T.q2o,T.q2p,_,Y,x,_,_,_,Y,R3.ix,F.cl,F.n3,(by show (7:Nat)<1000;decide),q'⟩⟩
  |great=>exact⟨t.q08,Y,.inl ⟨T.q2r,_,Y,x,_,_,_,Y,R3.ix,F.cl,F.n3,(by show (7:Nat)<1000;decide),q'⟩⟩
  |stuck=>trivial
theorem zdx{m p:L}{ac low:Int}{F:L->Prop}{g:List aQ}{lays:List (Int×List aQ)}{q0:Pl}(MF:MkF K t)(h1:sU t H m F g lays low)(h2:low<=ac)(h3:H p=U (.tup [.str q0.1,.int q0.2]))(q:∀H',aK H H'->Q (.int (yj g lays q0 ac)) H') :
  jV K t (sA Q) (L2.start ["self","place","rank","ranks","below"] [.ref m,.ref p,.int ac]) H:=by
 obtain⟨dx,gr,wo,rk,wk,kk,M⟩:=h1.ex;refine⟨_,Y,m,_,_,Y,M.im,kC (),_,Y,m,_,_,_,_,Y,M.im,ziq,h2,λH1 s1=>?_⟩;have M1:=M.keep h1.me λb o _ e=>s1 _ _ e;refine(yd M1.im MF.cl MF.r Y zgr ⟨rk,Y,.inr ⟨_,.inl M1.rr.at_⟩,_,Y,(),λl hl=>?_⟩);generalize c_:upd H1 l _=H2;obtain⟨s2,q2⟩:=yW c_ hl;have S2:=s1.trans s2;have M2:=M1.keep h1.me λb o _ e=>s2 _ _ e;have hp2:H2 p=U (.tup ((zC q0).map kV)):=S2 _ _ h3;refine⟨_,.t M2.rr.at_ hp2,?_⟩;have gd:∀ {H3:Hp} {σ:St},σ[0]?=U (U (.ref m))->σ[1]?=U (U (.ref p))->MrIn t H3 m F g lays low dx gr wo rk wk kk->H3 p=U (.tup ((zC q0).map kV))->aK H H3->(∀r,ZW lays q0 r->¬ r<ac)->qO (zV K (Z 0) "ground") (Z 1) (tC (.int 0)) σ H3 Q:=λ{H3 σ} e0 e1 M3 hp3 S3 hno=>by
  refine(yd M3.im MF.cl MF.g e0 ziJ ⟨gr,Y,.inr ⟨_,.inl M3.hg⟩,_,e1,_,.t M3.hg hp3,?_⟩);have ev:yj g lays q0 ac=(zF g q0).getD 0:=by
   unfold yj;rcases wU q0 ac lays (-1,(zF g q0).getD 0) with ⟨e1,_⟩|⟨y,hy,w,e1,e2,_⟩
   ·rw[e1]
   ·exact absurd e2 (hno y.1 ⟨y.2,hy,(wY (h1.ok y hy).2.nd).mpr (by rw[e1];exact λz=>nomatch z)⟩)
  have e2:(yc (sE g) (zC q0)).getD (V.int 0)=V.int ((zF g q0).getD 0):=by
   rw[wc];cases zF g q0 <;> rfl
  rw[e2,<-ev];exact q H3 S3
 rcases M2.rr.get q0 with ⟨a,rs,hk,hv,fa,ha,hs,hne,hi⟩|⟨hv,hk,hno⟩
 ·rw[hv];refine⟨_,Y,_,Y,a,rs,_,Y,ha,hs,λk H3 s3 hk3 hlt hge=>⟨_,Y,Y,_,Y,?_⟩⟩;have S3:=S2.trans s3;have M3:=M2.keep h1.me λb o _ e=>s3 _ _ e;by_cases h0:k=0
  ·subst h0;exact yv Y (gd Y Y M3 (s3 _ _ hp2) S3 λr hr hlr=>by
    have:=hge r (by rw[iJ];exact(hi r).mpr hr);lia)
  ·refine ye (Bk λz=>h0 (by injection z with z;lia)) ?_;obtain⟨x,hx⟩:∃x,rs[k-1]?=U x:=⟨_,bb ()⟩;have ek:(k:Int)-1=((k-1:Nat):Int):=by lia
   obtain⟨gs,hgs,hpg⟩:=(hi x).mp (bS hx);obtain⟨d,v1,fd,nd,hd⟩:=K7 M3.wp h1.nd hgs;have okg:=(h1.ok _ hgs).2;obtain⟨w,hw⟩:∃w,zF gs q0=U w:=by
    cases e:zF gs q0 with
    |none=>exact absurd e ((wY okg.nd).mp hpg)
    |some w=>exact⟨w,Y⟩
   have vd:yc (sE gs) (zC q0)=U (.int w):=by rw[wc,hw];rfl
   refine(yd M3.im MF.cl MF.w Y zgq ⟨_,Y,_,Y,_,_,Y,Y,a,_,((k-1:Nat):Int),_,Y,congrArg V.int ek,aT.of (s3 _ _ ha),yp (j:=k-1) (by rw[bx,hx];rfl),wo,.ref d,Y,(show sL H3 wo (kV (.inl x)) (U (.ref d)) by rw[<-v1];exact .k M3.hw),_,Y,d,V.int w,Y,by rw[<-vd];exact .t hd (s3 _ _ hp2),?_⟩);have xr:x<ac:=hlt x (List.mem_iff_getElem?.mpr ⟨k-1,by rw[eW,au ()];exact hx⟩);have x0:0<=x:=(h1.ok _ hgs).1;have ev:yj g lays q0 ac=w:=by
    unfold yj;rcases wU q0 ac lays (-1,(zF g q0).getD 0) with ⟨e1,e2⟩|⟨y,hy,w',e1,e2,e3,e4,e5⟩
    ·have:=e2 _ hgs (by show (-1:Int)<x;lia) xr;rw[this] at hw;cases hw
    ·rw[e4];have yx:x<=y.1:=e5 _ hgs xr (by rw[hw];exact λz=>nomatch z);have yr:y.1∈rs:=(hi y.1).mpr ⟨y.2,hy,(wY (h1.ok y hy).2.nd).mpr (by rw[e1];exact λz=>nomatch z)⟩;have xy:y.1<=x:=by
      have:y.1∈rs.take k\/y.1∈rs.drop k:=bB.mp (by rw[eU];exact yr);rcases this with z|z
      ·have ek2:k=k-1+1:=by lia
       rw[ek2] at z;exact zcx hs hx _ z
      ·have:=hge _ z;lia
     have ey:y.1=x:=by lia
     have e6:y=(x,gs):=by
      have n1:=h1.nd;obtain⟨i,hi1⟩:=cM hy;obtain⟨j,hj1⟩:=cM hgs;have a1:(lays.map (·.1))[i]?=U x:=by rw[bx,hi1,<-ey];rfl
      have a2:(lays.map (·.1))[j]?=U x:=by rw[bx,hj1];rfl
      have ij:=(gA (bn.mp a1).1 n1).mp (a1.trans a2.symm);rw[ij,hj1] at hi1;exact(bJ hi1).symm
     rw[e6] at e1;rw[hw] at e1;exact(bJ e1).symm
   rw[<-ev];exact q H3 S3
 ·rw[hv];refine⟨_,Y,_,Y,l,[],_,Y,q2,fm,λk H3 s3 hk3 _ _=>⟨_,Y,Y,_,Y,?_⟩⟩;obtain rfl:k=0:=Nat.le_zero.mp hk3;exact yv Y (gd Y Y (M2.keep h1.me λb o _ e=>s3 _ _ e) (s3 _ _ hp2) (S2.trans s3) λr hr=>absurd hr (hno r))
theorem Qk{vs:List V}{_E:XK}(h:jD vs H Q _E) :
  Wr K t (sA Q) (L2.start ["ranks_at","place","rank","ranks"] vs) H:=by
 obtain⟨rk,pl,ac,G,P,kk,q0,rfl,hr,gk,gn,hp,hnP,kl,hrl,q⟩:=h;refine⟨_,Y,rk,Y,.inr ⟨_,.inl hr.at_⟩,_,Y,(),λz hz=>?_⟩;generalize c_:upd H z _=H2;obtain⟨s2,q2⟩:=yW c_ hz;have hr2:=hr.keep (F':=G) gk (λb o _ e=>s2 _ _ e) (λ_ z=>z);have ke2:hU G rk H H2:=hU.refl.same s2;have dm2:Dm H H2:=Dm.of_same s2;have gz:G z:=gn z hz;refine⟨kk,zC q0,pl,hr2.at_,Y,s2 _ _ hp,by rw[bG];lia,λv hv=>?_,λhv=>?_⟩
 ·rcases hr2.get q0 with ⟨a,rs,hk,hv2,fa,ha,hs,hne,hi⟩|⟨hv2,_,_⟩
  ·rw[hv2] at hv;cases hv;have rl:=hrl rs hs λr hr=>(hi r).mp hr;refine⟨_,Y,.inl ⟨Y,_,aT.of ha⟩,_,Y,_,Y,a,rs,ac,Y,ha,hs,λk H3 s3 hk3 hlt hge=>⟨_,Y,a,_,k,_,Y,Y,s3 _ _ ha,by rw[bf];exact hk3,by rw[bf];lia,?_⟩⟩;rw[<-nu,<-nh,<-bw (f:=V.int),<-bQ];have hr3:=hr2.keep (F':=G) gk (λb o _ e=>s3 _ _ e) (λ_ z=>z);exact q _ kk ((ke2.same s3).lst (s3 _ _ ha) fa) ((dm2.trans (Dm.of_same s3)).trans (Dm.upd λ_ z=>nomatch z)) (hr3.in1 hk (s3 _ _ ha) hs hi hlt hge hnP λp r=>rV)
  ·rw[hv2] at hv;cases hv
 ·have zr:z≠rk:=zJ q2 hr2.at_ ();rw[va _ hv];have qz:upd H2 rk (HO.dT (kk++[(zC q0,V.ref z)])) z=U (.lst (([]:List Int).map V.int)):=by rw[zk zr];exact q2
  have hf:∀kv∈kk,kv.2≠.ref z:=λkv hk e=>by
   obtain⟨p',a',rs',rfl,_,ha',_⟩:=hr.ls kv hk;cases e;rw[hz] at ha';cases ha'
  rcases hr2.get q0 with ⟨a,rs,hk,hv2,_⟩|⟨_,hkn,hn⟩
  ·rw[hv2] at hv;cases hv
  refine⟨_,Y,.inl ⟨Y,_,aT.of qz⟩,_,Y,_,Y,z,[],ac,Y,qz,fm,λk H3 s3 hk3 hlt hge=>?_⟩;have k0:k=0:=Nat.le_zero.mp hk3;subst k0;have d3:Dm H (upd H2 rk (HO.dT (kk++[(zC q0,V.ref z)]))):=dm2.trans (Dm.upd λ_ z=>nomatch z);refine⟨_,Y,z,[],0,_,Y,Y,s3 _ _ qz,bp _,(),q _ (kk++[(zC q0,V.ref z)]) (((ke2.dct _).same s3).lst (s3 _ _ qz) gz) ((d3.trans (Dm.of_same s3)).trans (Dm.upd λ_ z=>nomatch z)) ?_⟩;refine(hr2.in2 (a:=z) (ac:=ac) hkn hn gz hf zr λp r=>rV).keep gk (λb o fb eb=>?_) (λ_ z=>z);show upd H3 z (HO.lst [V.int ac]) b=U o;by_cases hb:b=z
  ·subst hb;rw[zh] at eb ⊢;exact eb
  ·rw[zk hb] at eb ⊢;exact s3 _ _ eb
theorem VS{m p:L}{ac:Int}{F:L->Prop}{g:List aQ}{lays:List (Int×List aQ)}{q0:Pl}(MF:MkF K t)(h1:sO t H m F g lays)(h2:0<=ac)(h3:H p=U (.tup [.str q0.1,.int q0.2]))(q:∀H',aK H H'->Q (.int (yj g lays q0 ac)) H') :
  jV K t (sA Q) (L2.start ["self","place","rank","ranks","below"] [.ref m,.ref p,.int ac]) H:=zdx MF h1 h2 h3 q
theorem Ql{E:XK}{ah:List (aV×V)}{tm sl:L}{ps:List V}{r:Except Er Int}(hK:fC K (.type "int") (.type "str")=U aq)(hJ:∀H:Hp,sB K H t.q0r jw)(h1:H tm=U (.tup ps))(h2:H sl=U (.dK ah))(h3:Good ah ps r)(h4:∀v∈ps,kW v)(h5:ps.length<=1000)(h6:xb ah)
  (q:∀H',aK H H'->fin t r Q E H'):Wn K t E (sA Q) (L2.start ["term","slots","worths","part","second","first"] [.ref tm,.ref sl]) H:=by
 refine⟨(),λw hw=>⟨_,Y,tm,Y,⟨_,sB.of ((sJ w hw) _ _ h1)⟩,?_⟩⟩;have run0:=h3.1 [];have fe:∀ {e:Er} {H':Hp},wK ah ps []=.error e->aK H H'->fin t (.error e) Q E H':=λ{e H'} z s=>by
  rw[z] at run0;cases r with
  |ok i=>cases run0
  |error e' =>
   cases run0;exact q _ s
 have ns:wK ah ps []≠.error .stuck:=λz=>by
  rw[z] at run0;cases r with
  |ok i=>cases run0
  |error e' =>
   cases run0;exact h3.2 rfl
 refine zdU ps (rkI ah ps tm sl w H) ⟨[],⟨_,_,_,Y⟩,Y,(λx z=>nomatch z),bp _,zh,sJ w hw⟩ (λi σ H' ⟨st,a,b,c,d,e,s⟩=>sB.of (s _ _ h1)) ?_ ?_
 ·rintro i v σ H' hv ⟨st,⟨o3,o4,o5,rfl⟩,hr,hW,hl,hst,hS⟩;have hi:i<ps.length:=(bn.mp hv).1;have one:=zfV hr hv;have ok:=h4 v (bS hv);have fl:YS v=D:=by rcases ok with ⟨j,rfl,_⟩|⟨x,rfl,_⟩ <;> rfl
  have add:∀ {l:List Int} {d:Int} {H2:Hp} {o4 o5:Option V},wK ah (ps.take (i+1)) []=.ok (l++[d])->(∀y∈l,sH y=D)->sH d=D->l.length<=i->H2 w=U (.lst (l.map V.int))->aK H H2->(∃k xs y,V.ref w=.ref k/\[V.int d]=[y]/\H2 k=U (.lst xs)/\xs.length<Bb/\rkI ah ps tm sl w H (i+1) [U (V.ref tm),U (V.ref sl),U (V.ref w),U v,o4,o5] (upd H2 k (.lst (xs++[y])))):=λ{l d H2 o4 o5} one' hl' hd ll hw2 S2=>by
   refine⟨w,_,_,Y,Y,hw2,?_,l++[d],⟨_,_,_,Y⟩,one',?_,?_,?_,xz S2 hw⟩
   ·rw[bf];exact bV (by lia:l.length<=1000) ()
   ·intro y hy;rcases bB.mp hy with h|h
    ·exact hl' y h
    ·rw[br.mp h];exact hd
   ·rw[bF];show l.length+1<=i+1;lia
   ·rw[bQ];exact zh
  refine⟨_,Y,t.q0r,jw,Y,.inr (hJ H'),fl,Y,_,Y,?_⟩;by_cases c:inV v jw=D
  ·refine yv c ?_;rcases zhD st with ⟨l,a,b,rfl⟩|z
   ·obtain⟨x,rfl,hx⟩:∃x:Str,v=.str x/\x.length<=1000:=by
     rcases ok with ⟨j,rfl,_⟩|h
     ·exact absurd c (by rw[show inV (V.int j) jw=aq from rfl];decide)
     ·exact h
    have e1:ot V.int (l++[a,b])=(l.map V.int++[.int a])++[.int b]:=by simp
    rw[e1] at hst;have one':=one.trans (zeZ c);have ln:(l++[a,b]).length=l.length+2:=by simp
    refine⟨_,Y,.inl ⟨Y,_,aT.of hst⟩,w,_,_,Y,Y,hst,zaG,_,Y,.inl ⟨Y,_,aT.of zh⟩,w,_,_,Y,Y,by rw[X0];exact zh,zaG,_,Y,.inl ⟨Y,_,aT.of zh⟩,_,Y,_,Y,_,Y,x,a,b,Y,hx,hW a (by simp),hW b (by simp),λH2 s2=>?_⟩;rw[X0,X0] at s2;have S2:aK H H2:=(xz (xz hS hw) hw).trans s2;cases e:ko x a b with
    |ok d =>
     rw[e] at one';have hd:sH d=D:=by
      unfold ko at e;split at e
      ·cases e
      ·split at e
       ·rename_i z;cases e;exact z
       ·cases e
     exact add one' (λy hy=>hW y (cy _ hy)) hd () (s2 _ _ zh) S2
    |error er =>
     rw[e] at one';have:=fe (zch one') S2;cases er with
     |nought=>exact this
     |great=>exact this
     |stuck=>trivial
   ·exact absurd (zch (one.trans (z ah v c))) ns
  ·refine ye (rJ _ ▸ c) ?_;have st1:wF ah st v=.ok (st++[zd2 ah v]):=by
    unfold wF;rw[ap (by unfold isJ;exact c)]
   have fin1:=add (o4:=o4) (o5:=o5) (one.trans st1) hW (Q5 h6 ok) hl hst hS;refine⟨_,Y,.inl ⟨Y,_,aT.of hst⟩,?_⟩;rcases ok with ⟨j,rfl,hj⟩|⟨x,rfl,hx⟩
   ·exact jo Y (.int j) hK (ye Y ⟨_,Y,fin1⟩)
   ·refine jo Y (.str x) (xG _) (yv Y ⟨_,Y,sl,Y,.inl ⟨ah,.inl (hS _ _ h2)⟩,_,Y,_,sL.k (k:=.inr x) (hS _ _ h2),?_⟩);have ev:(yc ah (.inr x)).getD (V.int 0)=V.int (zd2 ah (.str x)):=by
     show _=V.int (match yc ah (.inr x) with|some (.int i)=>i|_=>0);cases e:yc ah (.inr x) with
     |none=>rfl
     |some u =>
      obtain⟨i,rfl,_⟩:=h6 _ _ e;rfl
    rw[ev];exact fin1
 ·rintro σ H' ⟨st,⟨o3,o4,o5,rfl⟩,hr,hW,hl,hst,hS⟩;rw[dL] at hr;rw[hr] at run0;cases r with
  |error e=>cases run0
  |ok i =>
   have e:st=[i]:=by injection run0
   subst e;exact⟨_,Y,.inl ⟨Y,_,aT.of hst⟩,w,_,_,Y,Y,hst,Y,q _ (xz hS hw)⟩
section
variable {x:L}{a:RAd}{C:List Cs}{s:hZ}
theorem Jq{vs:List V}{_E:XK}(F:RnF K t)(h:vK t vs H Q _E) :
  Xg K t (sA Q) (L2.start ["self","notes"] vs) H:=by
 obtain⟨x,a,C,s,rfl,R,h2,h3,h4,q1,q2⟩:=h;refine(jm R.ix Y Y ⟨x,a,C,s,Y,R,λH1 s1=>⟨_,Y,?_⟩⟩);have R1:=R.same s1;cases ho:yt C s with
 |false=>exact yv Y (q1 H1 ho s1)
 |true =>
  refine ye Y (yd R1.ix F.cl F.n6 Y Y ⟨a.no,_,Y,R1.hn,λr hr=>?_⟩);generalize c_:upd H1 r _=Hv;obtain⟨sv,ev⟩:=yW c_ hr;refine⟨r,a.no,sE s.no,Y,ev,sv _ _ R1.hn,(by have:=jv s.no;lia),λl ys H2 s2 fl hl pr=>?_⟩;have S2:=sv.trans s2;have R2:=R1.same S2;have nl:H l=ao:=zI (s1.trans sv) fl;rw[X1 h3] at pr;have pn:=zeA pr;have R2':=R2.ix;unfold zhz at R2';cases hw:s.why with
  |some w =>
   rw[hw] at R2';refine(yd R2' F.cl F.n3 Y Y ⟨Y,_,Y,yv Y (yd R2' F.cl F.n3 Y Y ⟨by show 2<=Bb;rw[bG];decide,λp hp=>?_⟩)⟩);generalize c1:upd H2 p _=H3;obtain⟨t1,e1⟩:=yW c1 hp;refine⟨_,Y,(),λg hg=>?_⟩;generalize c2:upd H3 g _=H4;obtain⟨t2,e2⟩:=yW c2 hg;refine⟨by show 3<=Bb;rw[bG];decide,λr2 hr2=>?_⟩;have t3:=sJ (o:=HO.tup [V.ref p,V.ref l,V.ref g]) r2 hr2;have T3:=t1.trans (t2.trans t3);refine q2 r2 (.ref p) l g [] _ ho (s1.trans (S2.trans T3)) nl (zI (s1.trans (S2.trans t1)) hg) (λz=>by rw[<-z,t1 _ _ hl] at hg;cases hg) zh ?_ ⟨ys,T3 _ _ hl,Xl T3 pn⟩ ⟨[],t3 _ _ e2,.nil⟩ ?_
   ·unfold zhA;rw[hw];exact⟨p,Y,(t2.trans t3) _ _ e1⟩
   ·unfold qJ;rw[hw]
  |none =>
   rw[hw] at R2';refine(yd R2' F.cl F.n3 Y Y ⟨Y,_,Y,ye Y (yd R2' F.cl F.n7 Y Y ⟨a.sa,_,Y,.inl ⟨aT.of R2.ha,λy hy=>?_⟩⟩)⟩);generalize c1:upd H2 y _=H3;obtain⟨t1,e1⟩:=yW c1 hy;refine⟨by show 2<=Bb;rw[bG];decide,λp hp=>?_⟩;generalize c2:upd H3 p _=H4;obtain⟨t2,e2⟩:=yW c2 hp;have T2:=t1.trans t2;have R3:=R2.same T2;refine⟨_,Y,yd R3.ix F.cl F.n5 Y Y ⟨a.gi,_,Y,R3.hg,λr3 hr3=>?_⟩⟩;generalize c3:upd H4 r3 _=H5;obtain⟨t4,e4⟩:=yW c3 hr3;refine⟨r3,a.gi,s.gi,Y,e4,t4 _ _ R3.hg,(by have:=jv s.gi;lia),λg zs srt H6 s6 fg hg ps ri mi=>⟨by show 3<=Bb;rw[bG];decide,λr2 hr2=>?_⟩⟩;have t5:=sJ (o:=HO.tup [V.ref p,V.ref l,V.ref g]) r2 hr2;have T5:=(t4.trans s6).trans t5;have fg3:H4 g=ao:=zI t4 fg;refine q2 r2 (.ref p) l g srt _ ho (s1.trans (S2.trans (T2.trans T5))) nl (zI (s1.trans (S2.trans T2)) fg3) (λz=>by rw[<-z,T2 _ _ hl] at fg3;cases fg3) zh ?_ ⟨ys,(T2.trans T5) _ _ hl,Xl (T2.trans T5) pn⟩ ⟨zs,t5 _ _ hg,Xl t5 ps⟩ ?_
   ·unfold zhA;rw[hw];exact⟨p,y,Y,T5 _ _ e2,T5 _ _ (t2 _ _ e1)⟩
   ·unfold qJ;rw[hw];exact⟨ri,mi⟩
theorem Jr{vs:List V}{_E:XK}(F:RnF K t)(h:qf t vs H Q _E) :
  Xe K t (sA Q) (L2.start ["self","place","worth"] vs) H:=by
 obtain⟨x,q,p,w,a,C,s,rfl,R,h2,h3,k⟩:=h;have g1:sL H a.gi (.ref q) ((zF s.gi p).map V.int):=.inr ⟨sE s.gi,zC p,q,.inl R.hg,Y,h2,(wc _ _).symm⟩;have g2:sL H a.no (.ref q) ((zF s.no p).map V.int):=.inr ⟨sE s.no,zC p,q,.inl R.hn,Y,h2,(wc _ _).symm⟩;unfold kB Vq at k;cases hg:zF s.gi p with
 |some i =>
  rw[hg,au (.inl Y)] at k;rw[hg] at g1;exact⟨_,Y,yd R.ix F.cl F.n5 Y Y ⟨a.gi,_,Y,g1,_,Y,yv Y (yd R.ix F.cl F.n5 Y Y ⟨_,Y,a.gi,_,Y,g1,k H (.of_same λ_ _ z=>z) R⟩)⟩⟩
 |none =>
  rw[hg] at k g1;refine⟨_,Y,yd R.ix F.cl F.n5 Y Y ⟨a.gi,_,Y,g1,_,Y,ye Y ⟨_,Y,yd R.ix F.cl F.n6 Y Y ⟨a.no,_,Y,g2,_,Y,?_⟩⟩⟩⟩;cases ho:zF s.no p with
  |some i =>
   rw[ho,au (.inr Y)] at k;rw[ho] at g2;exact ye Y (yd R.ix F.cl F.n6 Y Y ⟨_,Y,a.no,_,Y,g2,k H (.of_same λ_ _ z=>z) R⟩)
  |none =>
   rw[ho,ap (λz=>z.elim () λz=>nomatch z)] at k;have ld:=jv s.no;have ep:yq (sE s.no) (zC p) (V.int w)=sE (s.no++[(p,w)]):=(qS s.no (p,w)).symm;have Bq:=DPut.t (k:=zC p) (v:=V.int w) R.hn h2 (bV (by lia:_<=900) ());rw[ep] at Bq;have R2:=R.putO (s.no++[(p,w)]);have K2:Kp x a H (upd H a.no (.dT (sE (s.no++[(p,w)])))):=wT (.inr (.inr (.inr (.inl Y))));refine yv Y ⟨_,Y,yd R.ix F.cl F.n6 Y Y ⟨_,Y,a.no,_,Y,Bq,yd R2.ix F.cl F.n6 Y Y ⟨_,Y,a.no,V.int w,Y,?_,k _ K2 R2⟩⟩⟩;refine .inr ⟨_,zC p,q,.inl R2.hn,Y,K2 _ _ (R.notup h2) h2,?_⟩;rw[wc,zbP];rfl
end
theorem Js{vs:List V}{_E:XK}(h:ww vs H Q _E) :
  Xf K t (sA Q) (L2.start ["ranks_at","place","rank","ranks"] vs) H:=by
 obtain⟨rk,pl,ac,G,P,kk,q0,rfl,hr,fk,hp,hP,q⟩:=h;rcases hr.get q0 with ⟨a,rs,hk,hv,fa,ha,hs,hne,hi⟩|⟨_,_,hn⟩
 ·have hir:ac∈rs:=(hi ac).mpr hP;have ar:=zaN hr ha;refine⟨_,Y,_,Y,rk,.ref a,Y,(by rw[<-hv];exact .t hr.at_ hp),_,Y,.inl ⟨Y,_,aT.of ha⟩,_,Y,a,rs,ac,Y,Y,ha,hir,_,Y,(),λz hz=>?_⟩;have k2:=(hU.refl (G:=G) (rk:=rk) (H:=H)).lst (ys:=(rs.erase ac).map V.int) ha fa;have d2:Dm H (upd H a (.lst ((rs.erase ac).map V.int))):=Dm.upd λ_ z=>nomatch z
  have pa:pl≠a:=zJ hp ha ();have hp2:upd H a (.lst ((rs.erase ac).map V.int)) pl=U (.tup ((zC q0).map kV)):=by rw[zk pa];exact hp
  have hk2:upd H a (.lst ((rs.erase ac).map V.int)) rk=U (.dT kk):=by rw[zk ar];exact hr.at_
  generalize c_:upd _ z _=H3;obtain⟨s3,q3⟩:=yW c_ hz;refine⟨a,z,_,Y,Y,aT.of (s3 _ _ zh),aT.of q3,_,Y,?_⟩;by_cases e:rs.erase ac=[]
  ·refine yv (Bj (by rw[e];rfl)) ⟨_,Y,rk,Y,.inr ⟨_,.inl (s3 _ _ hk2)⟩,_,Y,kk,zC q0,pl,_,s3 _ _ hk2,Y,s3 _ _ hp2,hv,q _ (yo kk (zC q0)) ((k2.same s3).dct _) (d2.trans ((Dm.of_same s3).trans (Dm.upd λ_ z=>nomatch z))) ?_⟩;refine(hr.out2 (us:=(rs.erase ac).map V.int) hk ha hs hi e λp r=>rV).keep fk (λb o fb eb=>?_) (λ_ z=>z);by_cases hb:b=rk
   ·subst hb;rw[zh] at eb ⊢;exact eb
   ·rw[zk hb] at eb ⊢;exact s3 _ _ eb
  ·refine ye (Bk λz=>e (List.map_eq_nil_iff.mp z)) ?_;exact q _ kk (k2.same s3) (d2.trans (Dm.of_same s3)) ((hr.out1 hk ha hs hi e λp r=>rV).keep fk (λb o _ eb=>s3 _ _ eb) (λ_ z=>z))
 ·exact absurd hP (hn ac)
theorem zcK{m Bp dx gr wo rk:L}{ac low:Int}{ys:List V}{F:L->Prop}{P:Pl->Int->Prop}{gs:List aQ}{kk:List (List aV×V)}{o3:Option V}(MF:MkF K t)(hm:H m=U (.ins t.q02 dx (YG gr low wo rk)))(hL:H Bp=U (.lst ys))(nL:¬ F Bp)(hy:Paired (zde H) ys (sE gs))(nd:(gs.map (·.1)).Nodup)(hP:∀r∈gs,P r.1 ac)(hr:sw H rk F P kk)(fk:F rk)
  (q:∀H' kk',hU F rk H H'->Dm H H'->sw H' rk F (λp r=>P p r/\¬ (r=ac/\p∈gs.map (·.1))) kk'->Q .non H') :
  vj K t (sA Q) [U (.ref m),U (.int ac),U (.ref Bp),o3] H:=by
 have mr:m≠rk:=zJ hm hr.at_ ();have ly:ys.length=gs.length:=by rw[bL hy,X1 nd,bf]
 refine⟨_,Y,Bp,Y,⟨_,aT.of hL⟩,yI ys (taI m Bp rk ac ys F P gs H) ⟨⟨_,Y⟩,hU.refl,Dm.refl,kk,hr.eqv λp r=>by simp⟩ (λi σ H' ⟨_,k,_⟩=>aT.of (k _ _ hL (λz=>nL (by rw[z];exact fk)) (.inr nL))) ?_ ?_⟩
 ·rintro i u σ H' hu ⟨⟨o3,rfl⟩,k,dm,kk',hr'⟩;obtain⟨kv,hkv,p,rfl,hp⟩:=Paired.getP hy hu;rw[X1 nd,bx] at hkv;obtain⟨r0,hr0,rfl⟩:=bY.mp hkv;have hp:H p=U (.tup ((zC r0.1).map kV)):=hp;have hp':H' p=U (.tup ((zC r0.1).map kV)):=k _ _ hp (zJ hp hr.at_ ()) (.inl λ_ z=>nomatch z);have hm':=k _ _ hm mr (.inl λ_ z=>nomatch z);have hno:r0.1 ∉ (gs.take i).map (·.1):=λz=>by
   obtain⟨j,hj⟩:=cM z;rw[bx,eW] at hj;split at hj
   ·rename_i hji;have a1:(gs.map (·.1))[j]?=U r0.1:=by rw[bx];exact hj
    have a2:(gs.map (·.1))[i]?=U r0.1:=by rw[bx,hr0];rfl
    have:=(gA (bn.mp a1).1 nd).mp (a1.trans a2.symm);lia
   ·cases hj
  have hPi:∀p r,((P p r/\¬ (r=ac/\p∈(gs.take i).map (·.1)))/\¬ (r=ac/\p=r0.1))↔(P p r/\¬ (r=ac/\p∈(gs.take (i+1)).map (·.1))):=λp r=>by
   rw[cU,hr0,bQ,bB];have:p∈ot (·.1) (U r0).toList↔p=r0.1:=by simp
   rw[this];exact⟨λ⟨⟨a,b⟩,c⟩=>⟨a,λd=>d.2.elim (λe=>b ⟨d.1,e⟩) λe=>c ⟨d.1,e⟩⟩,λ⟨a,b⟩=>⟨⟨a,λc=>b ⟨c.1,.inl c.2⟩⟩,λc=>b ⟨c.1,.inr c.2⟩⟩⟩
  refine yd hm' MF.cl MF.r Y zgr ⟨_,Y,_,Y,rk,p,ac,F,_,kk',r0.1,Y,hr',fk,hp',⟨hP r0 (bS hr0),λz=>hno z.2⟩,λH2 kk2 k2 d2 r2=>⟨⟨_,Y⟩,k.trans k2,dm.trans d2,kk2,r2.eqv hPi⟩⟩
 ·rintro σ H' ⟨⟨o3,rfl⟩,k,dm,kk',hr'⟩;rw[ly,dL] at hr';exact q H' kk' k dm hr'
theorem Z2{vs:List V}{_E:XK}(MF:MkF K t)(h:yS t vs H Q _E) :
  jf K t (sA Q) (L2.start ["self","rank"] vs) H:=by
 obtain⟨m,ac,F,g,lays,low,rfl,h1,q⟩:=h;obtain⟨dx,gr,wo,rk,wk,kk,M⟩:=h1.ex;refine yd M.im MF.cl MF.w Y zgq ⟨wo,Y,.inl ⟨_,.inl M.hw⟩,_,Y,λp hp=>?_⟩;generalize c_:upd _ p _=H1;obtain⟨s1,q1⟩:=yW c_ hp;have M1:=M.keep h1.me λb o _ e=>s1 _ _ e;by_cases hin:ac∈lays.map (·.1)
 ·obtain⟨y,hy,ey⟩:=bC.mp hin;obtain⟨r',gs⟩:=y;have ey:r'=ac:=ey;subst ey;obtain⟨d,v1,fd,nd,hd⟩:=K7 M1.wp h1.nd hy;have hg:=sL.k (k:=.inl r') M1.hw;rw[v1] at hg;refine⟨_,hg,d,sE gs,Y,hd,λl ys hl pr=>?_⟩;have s3:=sJ (o:=HO.lst ys) l hl;exact q l ys gs _ (s1.trans s3) (zI s1 hl) zh (Paired.mapP pr λ_ _ ⟨p,e,h⟩=>⟨p,e,s3 _ _ h⟩) (.inl hy)
 ·have hg:=sL.k (k:=.inl ac) M1.hw;rw[K8 M1.wp hin] at hg;refine⟨_,hg,p,[],Y,q1,λl ys hl pr=>?_⟩;have s3:=sJ (o:=HO.lst ys) l hl;exact q l ys [] _ (s1.trans s3) (zI s1 hl) zh (Paired.mapP pr λ_ _ ⟨p,e,h⟩=>⟨p,e,s3 _ _ h⟩) (.inr ⟨hin,Y⟩)
theorem Z3{vs:List V}{_E:XK}(MF:MkF K t)(h:xL t vs H Q _E) :
  jg K t (sA Q) (L2.start ["self","rank","places","place"] vs) H:=by
 obtain⟨m,ac,F,g,lays,low,rfl,h1,q⟩:=h;obtain⟨dx,gr,wo,rk,wk,kk,M⟩:=h1.ex;refine jm M.im Y (kC ()) ⟨_,Y,m,ac,F,g,lays,low,Y,h1,λBp ys gs H1 s1 fL hL hy ho=>?_⟩;have M1:=M.keep h1.me λb o _ e=>s1 _ _ e;have okf:∀y∈V7 lays ac,0<=y.1/\WG y.2:=λy hy=>h1.ok y (cr.mp hy).1;have ndf:((V7 lays ac).map (·.1)).Nodup:=ig (gM _ de) h1.nd;have nL:¬ F Bp:=λz=>by obtain⟨o,e⟩:=h1.own Bp z;rw[fL] at e;cases e
 have ownD:∀ {H2:Hp},Dm H1 H2->∀b,F b->∃o,H2 b=U o:=λdm b hb=>by
  obtain⟨o,e⟩:=h1.own b hb;obtain⟨o',e',_⟩:=dm b o (s1 _ _ e);exact⟨o',e'⟩
 refine yd M1.im MF.cl MF.w Y zgq ⟨wo,Y,.inl ⟨_,.inl M1.hw⟩,_,Y,wk,.inl ac,M1.hw,Y,λv hv=>?_,λhv=>?_⟩
 ·have hin:ac∈lays.map (·.1):=e9 λz=>by rw[K8 M1.wp z] at hv;cases hv
  have hy0:(ac,gs)∈lays:=ho.resolve_right λz=>z.1 hin;have okg:=(h1.ok _ hy0).2;have wm:m≠wo:=zJ M1.im M1.hw ();have wg:gr≠wo:=zJ M1.hg M1.hw ();have wr:rk≠wo:=zJ M1.rr.at_ M1.hw ();have n2:∀b o,b≠wo->H1 b=U o->upd H1 wo (HO.dK (yo wk (.inl ac))) b=U o:=λb o n e=>by rw[zk n];exact e
  have w2:upd H1 wo (HO.dK (yo wk (.inl ac))) wo=U (HO.dK (yo wk (.inl ac))):=zh;have d2:Dm H1 (upd H1 wo (HO.dK (yo wk (.inl ac)))):=Dm.upd λ_ z=>nomatch z
  generalize upd H1 wo (HO.dK (yo wk (.inl ac)))=H2 at *
  have rr2:sw H2 rk F (ZW lays) kk:=M1.rr.keep2 (by rw[n2 _ _ wr M1.rr.at_,M1.rr.at_]) (λb xs _ e=>n2 _ _ (zJ e M1.hw ()) e) (λ_ z _=>z);refine zcK MF (n2 _ _ wm M1.im) (n2 _ _ (zJ hL M1.hw ()) hL) nL (Paired.mapP hy λ_ _ ⟨p,e,h⟩=>⟨p,e,n2 _ _ (zJ h M1.hw ()) h⟩) okg.nd (λr hr=>⟨gs,hy0,bt hr⟩) rr2 M.fk λH' kk' k dm rr'=>?_;have wp3:Paired (zax H2 rk F) (yo wk (.inl ac)) (V7 lays ac):=Paired.mapP (K9 M1.wp) λ_ _ ⟨e,d,e2,fd,nd,hd⟩=>⟨e,d,e2,fd,nd,n2 _ _ (zJ hd M1.hw ()) hd⟩;refine q H' F (λb o nf e=>Ke M.fk k b o nf (n2 _ _ (λz=>nf (by rw[z];exact M.fw)) (s1 _ _ e))) (λb zs e=>k _ _ (n2 _ _ (zJ (s1 _ _ e) M1.hw ()) (s1 _ _ e)) (zJ (s1 _ _ e) M1.rr.at_ ()) (.inl λ_ z=>nomatch z)) ?_ (λ_ z=>.inl z) λ_ z=>z;exact zfa h1.me M.fg M.fw M.fk M.nr (n2 _ _ wm M1.im) (n2 _ _ wg M1.hg) w2 ⟨_,rr2.at_⟩ wp3 k (ownD (d2.trans dm)) (rr'.eqv (zfb h1.nd hy0)) ndf okf
 ·have hin:ac ∉ lays.map (·.1):=λz=>by
   obtain⟨y,hy,ey⟩:=bC.mp z;obtain⟨r',gs⟩:=y;have ey:r'=ac:=ey;subst ey;obtain⟨d,v1,_⟩:=K7 M1.wp h1.nd hy;rw[v1] at hv;cases hv
  have eg:gs=[]:=(ho.resolve_left λz=>hin (bC.mpr ⟨_,z,Y⟩)).2;subst eg;rw[zgt hin] at okf ndf q;refine zcK (gs:=[]) MF M1.im hL nL hy cw (λr hr=>nomatch hr) M1.rr M.fk λH' kk' k dm rr'=>?_;refine q H' F (λb o nf e=>Ke M.fk k b o nf (s1 _ _ e)) (λb zs e=>k _ _ (s1 _ _ e) (zJ (s1 _ _ e) M1.rr.at_ ()) (.inl λ_ z=>nomatch z)) ?_ (λ_ z=>.inl z) λ_ z=>z;exact zfa h1.me M.fg M.fw M.fk M.nr M1.im M1.hg M1.hw ⟨_,M1.rr.at_⟩ M1.wp k (ownD dm) (rr'.eqv λp r=>by simp) ndf okf
theorem zfw{Bq:Wx}{gv d m dx gr wo rk:L}{ac low:Int}{G:L->Prop}{gs:List aQ}{l:List (Int×List aQ)}{kk:List (List aV×V)}(MF:MkF K t)(hm:H m=U (.ins t.q02 dx (YG gr low wo rk)))(hd:H d=U (.dT (sE gs)))(dr:d≠rk)(gf:WG gs)(hr:sw H rk G (ZW l) kk)(hno:ac ∉ l.map (·.1))(ok:∀y∈l,WG y.2)(hl:l.length<=200)(gk:G rk)(gn:∀b,H b=ao->G b)
  (q:∀H' o4 kk',hU G rk H H'->(∀b o,H b=U o->∃o',H' b=U o')->sw H' rk G (λp r=>ZW l p r\/(r=ac/\p∈gs.map (·.1))) kk'->Zs K t Bq [U (.ref m),U (.int ac),U (.ref gv),U (.ref d),o4] H') :
  Zt K t Bq [U (.ref m),U (.int ac),U (.ref gv),U (.ref d),ao] H:=by
 have mr:m≠rk:=zJ hm hr.at_ ();have md:m≠d:=zJ hm hd ();refine⟨d,_,sE gs,hd,.inl Y,λob=>?_⟩;have f0:upd H d (.frz ob (.dT (sE gs))) d=U (.frz ob (.dT (sE gs))):=zh;have rr0:sw (upd H d (.frz ob (.dT (sE gs)))) rk G (ZW l) kk:=hr.keep2 (by rw[zk dr.symm]) (λb xs _ e=>by rw[zk (zJ e hd ())];exact e) (λ_ z _=>z);have hm0:upd H d (.frz ob (.dT (sE gs))) m=U (.ins t.q02 dx (YG gr low wo rk)):=by rw[zk md];exact hm
 have d0:Dm H (upd H d (.frz ob (.dT (sE gs)))):=Dm.upd λ_ z=>nomatch z
 have back:∀ {H'},hU G rk (upd H d (.frz ob (.dT (sE gs)))) H'->hU G rk H (upd H' d (.dT (sE gs))):=λ{H'} k b o e n z=>by
  by_cases eb:b=d
  ·subst eb;rw[zh,<-hd];exact e
  ·rw[zk eb];exact k b o (by rw[zk eb];exact e) n z
 have gn0:∀b,upd H d (.frz ob (.dT (sE gs))) b=ao->G b:=λb e=>gn b (by
  by_cases eb:b=d
  ·subst eb;rw[zh] at e;cases e
  ·rw[zk eb] at e;exact e)
 generalize upd H d (.frz ob (.dT (sE gs)))=H0 at *
 have kd:∀ {H'},hU G rk H0 H'->H' d=U (.frz ob (.dT (sE gs))):=λ{H'} k=>k _ _ f0 dr (.inl λ_ z=>nomatch z);refine⟨_,Y,d,ob,sE gs,Y,f0,zbA (lyI m gv d rk ac G (ZW l) gs H0) ⟨⟨_,Y⟩,hU.refl,Dm.refl,kk,rr0.eqv λp r=>by simp⟩ (λi σ H' ⟨_,k,_⟩=>kd k) ?_ ?_⟩
 ·rintro i k v p σ H' hkv hp ⟨⟨o4,rfl⟩,ke,dm,kk',hr'⟩;rw[X1 gf.nd,bx] at hkv;obtain⟨r0,hr0,er⟩:=bY.mp hkv;cases er;have hm':=ke _ _ hm0 mr (.inl λ_ z=>nomatch z);have hnr:r0.1 ∉ (gs.take i).map (·.1):=λz=>by
   obtain⟨j,hj⟩:=cM z;rw[bx,eW] at hj;split at hj
   ·rename_i hji;have a1:(gs.map (·.1))[j]?=U r0.1:=by rw[bx];exact hj
    have a2:(gs.map (·.1))[i]?=U r0.1:=by rw[bx,hr0];rfl
    have:=(gA (bn.mp a1).1 gf.nd).mp (a1.trans a2.symm);lia
   ·cases hj
  have hPi:∀p r,((ZW l p r\/(r=ac/\p∈(gs.take i).map (·.1)))\/(r=ac/\p=r0.1))↔(ZW l p r\/(r=ac/\p∈(gs.take (i+1)).map (·.1))):=λp r=>by
   rw[cU,hr0,bQ,bB];have:p∈ot (·.1) (U r0).toList↔p=r0.1:=by simp
   rw[this,and_or_left,or_assoc]
  have hnP:¬ (ZW l r0.1 ac\/(ac=ac/\r0.1∈(gs.take i).map (·.1))):=λz=>z.elim (λ⟨g2,h2,_⟩=>hno (bC.mpr ⟨_,h2,Y⟩)) λy=>hnr y.2;have kl:kk'.length<=18900:=zfc (l:=(ac,gs)::l) hr' (λp r z=>z.elim (λ⟨g2,h2,h3⟩=>⟨g2,bh _ h2,h3⟩) λ⟨e,h3⟩=>⟨gs,by rw[e];exact bo,(by
   obtain⟨x,hx,rfl⟩:=bC.mp h3;exact bt (dq hx))⟩) (λy hy=>by
   rcases bD.mp hy with rfl|hy
   ·exact gf
   ·exact ok y hy) (by rw[bU];lia)
  have gn1:∀b,H' b=ao->G b:=λb e=>gn0 b (by
   cases e0:H0 b with
   |none=>rfl
   |some o=>obtain⟨o',e',_⟩:=dm b o e0;rw[e] at e';cases e')
  have hrl:∀rs:List Int,rs.Pairwise (· < ·)->(∀r∈rs,ZW l r0.1 r\/(r=ac/\r0.1∈(gs.take i).map (·.1)))->rs.length<=300:=λrs hs hall=>by
   have rl:rs.length<=((ac,gs)::l).length:=zhM (p:=r0.1) hs λr hr=>(hall r hr).elim (λ⟨g2,h2,h3⟩=>⟨g2,bh _ h2,h3⟩) λy=>absurd y.2 hnr;rw[bU] at rl;lia
  exact yd hm' MF.cl MF.r Y zgr ⟨_,Y,_,Y,rk,p,ac,G,_,kk',r0.1,Y,hr',gk,gn1,hp,hnP,kl,hrl,λH2 kk2 k2 d2 r2=>⟨⟨_,Y⟩,ke.trans k2,dm.trans d2,kk2,r2.eqv hPi⟩⟩
 ·rintro σ H' ⟨⟨o4,rfl⟩,ke,dm,kk',hr'⟩;rw[X1 gf.nd,bf,dL] at hr';have D2:Dm H (upd H' d (.dT (sE gs))):=(d0.trans dm).trans (Dm.upd λ_ z=>nomatch z);refine⟨kd ke,q _ o4 kk' (back ke) (λb o e=>let ⟨o',e',_⟩:=D2 b o e;⟨o',e'⟩) (hr'.keep2 (by rw[zk dr.symm]) (λb xs _ e=>by rw[zk (zJ e (kd ke) ())];exact e) (λ_ z _=>z))⟩
theorem zfx{m gv:L}{ac low:Int}{F:L->Prop}{g:List aQ}{lays:List (Int×List aQ)}{gs:List aQ}(MF:MkF K t)(h1:sU t H m F g lays low)(h2:low<=ac)(h20:0<=ac)(h3:sI H gv gs)(hgv:¬ F gv)(h4:WG gs)(h5:lays.length<=200)(q:∀H' F',(∀b o,¬ F b->H b=U o->H' b=U o)->(∀b zs,H b=U (.tup zs)->H' b=U (.tup zs))->sU t H' m F' g (wQ lays ac gs) low->(∀b,F' b->F b\/H b=ao)->(∀b,F b->F' b)->Q .non H') :
  qq K t (sA Q) (L2.start ["self","rank","gifts","worths","place"] [.ref m,.int ac,.ref gv]) H:=by
 obtain⟨dx,gr,wo,rk,wk,kk,M⟩:=h1.ex;refine jm M.im Y (kC ()) ⟨_,Y,m,_,_,_,_,Y,M.im,ziq,h2,λH1 s1=>?_⟩;have M1:=h1.keep (H':=H1) λb o _ e=>s1 _ _ e;refine jm (s1 _ _ M.im) Y (kC ()) ⟨_,Y,m,ac,F,g,lays,low,Y,M1,λH2 F2 fr2 ts2 m2 ff2 fs2=>?_⟩;clear M wk kk gr wo rk dx;obtain⟨xs,hx,hp⟩:=h3;have hx2:=fr2 _ _ hgv (s1 _ _ hx);have hp2:Paired (PrAt H2) xs gs:=Paired.mapP hp λ_ _ ⟨r,p,e,e1,e2⟩=>⟨r,p,e,ts2 _ _ (s1 _ _ e1),ts2 _ _ (s1 _ _ e2)⟩;refine⟨_,Y,gv,xs,gs,Y,hx2,hp2,by have:=h4.le;lia,λd hd=>?_⟩;generalize c_:upd _ d _=H3;obtain⟨s3,q3⟩:=yW c_ hd;obtain⟨dx,gr,wo,rk,wk,kk,M2⟩:=m2.ex;have M3:=M2.keep m2.me λb o _ e=>s3 _ _ e;have ndF:¬ F2 d:=λz=>by obtain⟨o,e⟩:=m2.own d z;rw[hd] at e;cases e
 have dr:d≠rk:=λz=>ndF (by rw[z];exact M2.fk);have hl:(V7 lays ac).length<=200:=bN (nU _ _) h5;have fresh:∀b,H2 b=ao->H b=ao:=λb e=>by
  cases e2:H b with
  |none=>rfl
  |some o =>
   exfalso;by_cases fb:F b
   ·obtain⟨o',e'⟩:=m2.own b (fs2 b fb);rw[e] at e';cases e'
   ·have:=fr2 _ _ fb (s1 _ _ e2);rw[e] at this;cases this
 refine zfw (G:=λb=>F2 b\/H2 b=ao) MF M3.im q3 dr h4 (M3.rr.keep (F':=λb=>F2 b\/H2 b=ao) M3.fk (λb o _ e=>e) (λ_ z=>.inl z)) VD (λy hy=>(m2.ok y hy).2) hl (.inl M2.fk) (λb e=>.inr (zI s3 e)) λH4 o4 kk' ke dm rr4=>?_;have im4:=ke _ _ M3.im (zJ M3.im M3.rr.at_ ()) (.inl λ_ z=>nomatch z);have hw4:=ke _ _ M3.hw (zJ M3.hw M3.rr.at_ ()) (.inl λ_ z=>nomatch z);have hg4:=ke _ _ M3.hg M3.nr (.inl λ_ z=>nomatch z);have hd4:=ke _ _ q3 dr (.inl λ_ z=>nomatch z);have wl:wk.length<=200:=by rw[bL M2.wp];exact hl
 refine⟨_,Y,yd im4 MF.cl MF.w Y zgq ⟨_,Y,wo,_,Y,(.k (k:=.inl ac) hw4 (by rw[bG];lia)),?_⟩⟩;rw[va _ (K8 M3.wp VD)];have mw:m≠wo:=zJ im4 hw4 ();have gw:gr≠wo:=zJ hg4 hw4 ();have rw_:rk≠wo:=zJ rr4.at_ hw4 ();have dw:d≠wo:=zJ hd4 hw4 ();have n5:∀b o,b≠wo->H4 b=U o->upd H4 wo (HO.dK (wk++[(.inl ac,V.ref d)])) b=U o:=λb o n e=>by rw[zk n];exact e
 have w5:upd H4 wo (HO.dK (wk++[(.inl ac,V.ref d)])) wo=U (HO.dK (wk++[(.inl ac,V.ref d)])):=zh;have dm5:∀b o,H3 b=U o->∃o',upd H4 wo (HO.dK (wk++[(.inl ac,V.ref d)])) b=U o':=λb o e=>by
  by_cases eb:b=wo
  ·subst eb;exact⟨_,w5⟩
  ·obtain⟨o',e'⟩:=dm b o e;exact⟨o',n5 _ _ eb e'⟩
 generalize upd H4 wo (HO.dK (wk++[(.inl ac,V.ref d)]))=H5 at *
 refine q H5 (λb=>F2 b\/(H2 b=ao/\∃o,H5 b=U o)) (λb o nf e=>?_) (λb zs e=>?_) ?_ (λb z=>?_) λb z=>.inl (fs2 b z)
 ·have e2:=fr2 _ _ nf (s1 _ _ e);have nf2:¬ F2 b:=λz=>(ff2 b z).elim nf λy=>by rw[s1 _ _ e] at y;cases y
  have nr:b≠rk:=λz=>nf2 (by rw[z];exact M2.fk);have nw:b≠wo:=λz=>nf2 (by rw[z];exact M2.fw);exact n5 _ _ nw (ke _ _ (s3 _ _ e2) nr (.inr λz=>z.elim nf2 λy=>by rw[e2] at y;cases y))
 ·have e2:=s3 _ _ (ts2 _ _ (s1 _ _ e));have e4:=ke _ _ e2 (zJ e2 M3.rr.at_ ()) (.inl λ_ z=>nomatch z);exact n5 _ _ (zJ e4 hw4 ()) e4
 ·refine⟨λb z=>z.elim (λf=>let ⟨o,e⟩:=m2.own b f;dm5 b o (s3 _ _ e)) λy=>y.2,.inl m2.me,?_,?_,dx,gr,wo,rk,_,kk',n5 _ _ mw im4,.inl M2.fg,.inl M2.fw,.inl M2.fk,M2.nr,n5 _ _ gw hg4,w5,?_,?_⟩
  ·unfold wQ;rw[bQ,cV];refine⟨m2.nd,by simp,λx hx y hy=>?_⟩;have:y=ac:=by simpa using hy
   rw[this];exact λz=>VD (l:=lays) (r:=ac) (by have h:=hx;rw[z] at h;exact h)
  ·intro y hy;rcases bB.mp hy with hy|hy
   ·exact m2.ok y hy
   ·rw[br.mp hy];exact⟨h20,h4⟩
  ·refine Paired.snocP (Paired.mapP M3.wp λ_ _ ⟨e,d',e2,fd,nd',hd'⟩=>?_) ⟨Y,d,Y,.inr ⟨hd,_,n5 _ _ dw hd4⟩,dr,n5 _ _ dw hd4⟩;have e4:=ke _ _ hd' nd' (.inl λ_ z=>nomatch z);exact⟨e,d',e2,.inl fd,nd',n5 _ _ (zJ e4 hw4 ()) e4⟩
  ·refine(rr4.keep2 (F':=λb=>F2 b\/(H2 b=ao/\∃o,H5 b=U o)) ((n5 _ _ rw_ rr4.at_).trans rr4.at_.symm) (λb xs _ e=>n5 _ _ (zJ e hw4 ()) e) (λb z ex=>z.imp id λy=>⟨y,ex⟩)).eqv λp r=>?_;unfold wQ;constructor
   ·rintro(⟨g2,h6,h7⟩|⟨rfl,h7⟩)
    ·exact⟨g2,cy _ h6,h7⟩
    ·exact⟨gs,bP _ (br.mpr Y),h7⟩
   ·rintro⟨g2,h6,h7⟩;rcases bB.mp h6 with h6|h6
    ·exact .inl ⟨g2,h6,h7⟩
    ·cases br.mp h6;exact .inr ⟨Y,h7⟩
 ·rcases z with z|z
  ·exact(ff2 b z).imp id λy=>zI s1 y
  ·exact .inr (fresh b z.1)
theorem VT{vs:List V}{_E:XK}(MF:MkF K t)(h:jS t vs H Q _E) :
  jU K t (sA Q) (L2.start ["self","table"] vs) H:=by
 obtain⟨x,h,dx,aM,rfl,h1,h2,h3,q⟩:=h;obtain⟨xs,hx,hp⟩:=h2;obtain⟨lb,P,_⟩:=PO.init h1 ⟨_,h1⟩;unfold jU zo;refine⟨_,Y,h,xs,aM,Y,hx,hp,(),P.so (.dT (sE aM)) 4 () () Y MF.cl MF.g () λgr H1 lb1 P=>P.st Y MF.cl MF.f (by show 1<1000;decide) λH2 P=>P.so (.dK []) 5 () () Y MF.cl MF.w (by show 2<1000;decide) λwo H3 lb3 P=>P.so (.dT []) 6 () () Y MF.cl MF.r (by show 3<1000;decide) λrk H7 lb7 P=>?_⟩;have ob:∀n c o,(n,c,o)∈_->H7 c=U o/\lb7 c=n:=λn c o z=>(P.ob (n,c,o) z).2;have o6:=ob 6 rk _ (.head _);have o5:=ob 5 wo _ (.tail _ (.head _));have o4:=ob 4 gr _ (.tail _ (.tail _ (.head _)));refine q H7 (λb=>lb7 b≠0) P.kp ⟨P.ow,(by rw[P.lx];decide),cw,(λ_ h=>(nomatch h)),dx,gr,wo,rk,[],[],P.hx,(by rw[o4.2];decide),(by rw[o5.2];decide),(by rw[o6.2];decide),(λz=>by rw[z,o6.2] at o4;exact absurd o4.2 ()),o4.1,o5.1,.nil,o6.1,cw,cw,λ_ h=>(nomatch h),λp r ⟨_,h,_⟩=>(nomatch h)⟩ λb z=>?_;rcases P.fr b z with y|y|y
 ·exact .inl y
 ·exact .inl y
 ·exact .inr y
theorem Jt{m gv:L}{ac:Int}{F:L->Prop}{g:List aQ}{lays:List (Int×List aQ)}{gs:List aQ}(MF:MkF K t)(h1:sO t H m F g lays)(h2:0<=ac)(h3:sI H gv gs)(hgv:¬ F gv)(h4:WG gs)(h5:lays.length<=200)(q:∀H' F',(∀b o,¬ F b->H b=U o->H' b=U o)->(∀b zs,H b=U (.tup zs)->H' b=U (.tup zs))->sO t H' m F' g (wQ lays ac gs)->(∀b,F' b->F b\/H b=ao)->(∀b,F b->F' b)->Q .non H') :
  qq K t (sA Q) (L2.start ["self","rank","gifts","worths","place"] [.ref m,.int ac,.ref gv]) H:=zfx MF h1 h2 h2 h3 hgv h4 h5 q
theorem vF{p:Prop} [Decidable p]{A Bo:Prop}(a:p->A)(b:¬ p->Bo):if decide p=D then A else Bo:=by
 by_cases h:p
 ·exact yv (Bj h) (a h)
 ·exact ye (Bk h) (b h)
theorem Qm{i:Int}(hK:zgc K)(q:∀H',aK H H'->Q (.bl (sH i)) H') :
  Zp K t (sA Q) (L2.start ["thing"] [.int i]) H:=by
 have q:=q H (aK.refl H);unfold Zp zo zS tOr kL;have e30:(10:Int)^(30:Int).toNat=1000000000000000000000000000000:=by lia
 refine jo Y (.int i) (xG _) (ye Y (jo Y (.int i) hK (ye Y ⟨_,_,Y,Y,zeY () (),_,Y,_,Y,_,_,Y,Y,_,Y,vF (λc=>⟨_,_,Y,Y,zeY () (),_,_,Y,Y,?_⟩) λc=>?_⟩)))
 ·rw[e30] at c ⊢;have e:sH i=decide (i<=1000000000000000000000000000000):=by
   unfold sH;by_cases h:i<=1000000000000000000000000000000
   ·rw[Bj h,Bj ⟨c,h⟩]
   ·rw[Bk h,Bk λz=>h z.2]
  rw[e] at q;exact q
 ·rw[e30] at c;have e:sH i=aq:=Bk λz=>c z.1;rw[e] at q;exact q
theorem za2{vs:List V}{E:XK}(h:YD t vs H Q E) :
  Vt K t E (sA Q) (L2.start ["word","first","second"] vs) H:=by
 obtain⟨w,a,b,rfl,hw,ha,hb,q⟩:=h;have q:=q H (aK.refl H);have Bo:=KL hb;refine⟨_,Y,Y,_,Y,vF (λc=>?_) λc=>?_⟩
 ·rw[au (V.int.inj c)] at q;exact⟨_,Y,_,Y,(),λy=>⟨by show 1<=Bb;rw[bG];decide,q⟩⟩
 ·have c:b≠0:=λz=>c (congrArg V.int z);rw[ap c] at q;refine⟨_,Y,Y,_,Y,vF (λe=>?_) λe=>?_⟩
  ·rw[au (V.str.inj e)] at q;exact⟨_,Y,_,Y,_,_,Y,Y,⟨c,Bo⟩,q⟩
  ·rw[ap λz=>e (congrArg V.str z)] at q;exact⟨_,Y,_,Y,_,_,Y,Y,c,q⟩
theorem za3{vs:List V}{E:XK}(h:YE t vs H Q E) :
  Vu K t E (sA Q) (L2.start ["word","first","second"] vs) H:=by
 obtain⟨w,a,b,rfl,hw,ha,hb,q⟩:=h;have A:=KL ha;have Bo:=KL hb;have nd:¬ Va w->Q (.int (W9 w a b)) H:=λh=>by
  have q:=q H (aK.refl H);rw[ap λz=>h z.1] at q;exact q
 unfold W9 at nd q;refine⟨_,Y,Y,_,Y,vF (λc=>?_) λc1=>⟨_,Y,Y,_,Y,vF (λc=>?_) λc2=>⟨_,Y,Y,_,Y,vF (λc=>?_) λc3=>⟨_,Y,Y,_,Y,vF (λc=>?_) λc4=>⟨_,Y,Y,_,Y,vF (λc=>?_) λc5=>?_⟩⟩⟩⟩⟩
 ·cases c;exact⟨_,Y,_,Y,_,_,Y,Y,by have q:=nd λz=>z.1 rfl;rw[au rfl] at q;exact q⟩
 ·cases c;exact⟨_,Y,_,Y,_,_,Y,Y,by have q:=nd λz=>z.2.1 rfl;rw[ap (λz=>c1 (congrArg V.str z)),au rfl] at q;exact q⟩
 ·cases c;exact⟨_,Y,_,Y,_,_,Y,Y,⟨A,Bo⟩,by have q:=nd λz=>z.2.2.1 rfl;rw[ap (λz=>c1 (congrArg V.str z)),ap (λz=>c2 (congrArg V.str z)),au rfl] at q;exact q⟩
 ·cases c;have q:=nd λz=>z.2.2.2.1 rfl;rw[ap (λz=>c1 (congrArg V.str z)),ap (λz=>c2 (congrArg V.str z)),ap (λz=>c3 (congrArg V.str z)),au rfl] at q;refine⟨_,Y,_,Y,_,_,Y,Y,_,Y,vF (λd=>?_) λd=>?_⟩
  ·rw[au d] at q;exact q
  ·rw[ap d] at q;exact q
 ·cases c;have q:=nd λz=>z.2.2.2.2 rfl;rw[ap (λz=>c1 (congrArg V.str z)),ap (λz=>c2 (congrArg V.str z)),ap (λz=>c3 (congrArg V.str z)),ap (λz=>c4 (congrArg V.str z)),au rfl] at q;refine⟨_,Y,_,Y,Y,_,Y,vF (λd=>?_) λd=>?_⟩
  ·rw[au (V.int.inj d)] at q;exact q
  ·rw[ap λz=>d (congrArg V.int z)] at q;exact q
 ·have c1:w≠"plus":=λz=>c1 (congrArg V.str z);have c2:w≠"minus":=λz=>c2 (congrArg V.str z);have c3:w≠"times":=λz=>c3 (congrArg V.str z);have c4:w≠"under":=λz=>c4 (congrArg V.str z);have c5:w≠"same":=λz=>c5 (congrArg V.str z);refine⟨_,Y,_,Y,_,Y,w,a,b,Y,hw,ha,hb,λH' s=>?_⟩;have q:=q H' s;have hd:Va w:=⟨c1,c2,c3,c4,c5⟩;refine YV (λd=>?_) λd=>?_
  ·rw[au ⟨hd,d⟩] at q;exact q
  ·rw[ap λz=>d z.2,ap c1,ap c2,ap c3,ap c4,ap c5] at q;exact q
theorem zbW{vs:List V}{E:XK}(h:XX t vs H Q E) :
  J7 K t E (sA Q) (L2.start ["word","first","second","worth"] vs) H:=by
 obtain⟨w,a,b,rfl,hw,ha,hb,q⟩:=h;unfold ko at q;refine⟨_,Y,_,Y,_,Y,w,a,b,Y,hw,ha,hb,λH1 s1=>YV (λc=>?_) λc=>⟨_,Y,_,Y,λH2 s2=>⟨_,Y,?_⟩⟩⟩
 ·have q:=q H1 s1;rw[au c] at q;exact q
 ·have q:=q H2 (s1.trans s2);rw[ap c] at q;by_cases d:sH (W9 w a b)=D
  ·rw[au d] at q;exact ye (by rw[d];rfl) ⟨_,Y,q⟩
  ·rw[ap d] at q;exact yv (by rw[dP.mpr d];rfl) ⟨_,Y,_,Y,(),λy=>⟨by show 1<=Bb;rw[bG];decide,q⟩⟩
theorem X5{vs:List V}{_E:XK}(h:yf K vs H Q _E) :
  qC K t (sA Q) (L2.start ["script","k"] vs) H:=by
 obtain⟨a,ns,k,rfl,hS,hl,hb,q⟩:=h;refine⟨_,Y,_,Y,.ref a,ns.length,Y,.inl ⟨_,hS,(bf ..).symm⟩,_,_,Y,Y,_,Y,vF (λe=>?_) λe=>q _ _ (aK.refl _) (Cb.of ())⟩;obtain⟨v,h1,h2⟩:=zaF (xs:=ns.map V.int) (i:=(k:Int)) () (by rw[bf];lia);obtain⟨x,hx,rfl⟩:=bC.mp h2;exact⟨_,Y,_,Y,a,_,_,_,Y,Y,hS,h1,q _ _ (aK.refl _) (hb x hx)⟩
theorem za4{v:V}{r:aZ}(h1:RlAt V1 H v r)(h2:WF 6 r)(h3:(z4 r 0).length<=500)(q:∀l xs H',aK H H'->H l=ao->H' l=U (.lst xs)->Paired (sN H') xs (z4 r 0)->Q (.ref l) H') :
  Vs K t (sA Q) (L2.start ["rows"] [v]) H:=⟨_,Y,v,r,0,Y,h1,h2,(),q⟩
section
variable {E:XK}{x:L}{a:RAd}{C:List Cs}{s:hZ}
theorem Qn{vs:List V}{_E:XK}(F:RnF K t)(h:xk t vs H Q _E) :
  Wm K t (sA Q) (L2.start ["self"] vs) H:=by
 obtain⟨x,a,C,s,rfl,R,q⟩:=h;obtain⟨xs,hx,pr⟩:=R.hc;have lx:=bL pr;have q:=q H λ_ _ z=>z;refine(yd R.ix F.cl F.n3 Y Y ⟨Y,_,Y,?_⟩);cases hw:s.why with
 |some w =>
  have e:yt C s=D:=by unfold yt;rw[hw];rfl
  rw[e] at q;exact yv Y q
 |none =>
  refine ye Y (yd R.ix F.cl F.n2 Y Y (yd R.ix F.cl F.n1 Y Y ⟨.ref a.co,xs.length,Y,.inl ⟨_,aT.of hx,Y⟩,_,_,Y,Y,?_⟩));have e:yt C s=decide ((xs.length:Int)<=(s.n:Int)):=by unfold yt;rw[hw,lx];simp
  rw[e] at q;exact q
theorem X6{tm:L}{e:List V}(F:RnF K t)(R:aY t H x a C s)(h2:xb s.sl)(h3:H tm=U (.tup e))(h4:aX e)
  (q:∀H',aK H H'->fin t (rk s.sl e) Q E H'):qE K t E (sA Q) (L2.start ["self","term"] [.ref x,.ref tm]) H :=
 ⟨_,Y,yd R.ix F.cl F.n4 Y Y ⟨s.sl,tm,a.sl,e,_,Y,h3,R.hs,h4.good s.sl,h4.2.1,h4.2.2,h2,q⟩⟩
theorem X7{vs:List V}(F:RnF K t)(h:yY t vs H Q E) :
  qF K t E (sA Q) (L2.start ["self","due"] vs) H:=by
 obtain⟨x,p,xs,sh,te,e,a,C,s,rfl,R,h2,h3,h4,h5,h6,h7,q1,q2⟩:=h;refine XT Y h3 h4 (jm R.ix Y Y (XT Y h3 h5 ⟨x,te,e,a,C,s,Y,R,h2,h6,h7,λH1 s1=>?_⟩));cases hk:rk s.sl e with
 |error er=>exact tD.mpr (q2 er H1 hk s1)
 |ok n =>
  refine fin_ok.mpr ⟨by show 2<=Bb;rw[bG];decide,λp hp=>?_⟩;exact q1 n p _ hk (s1.trans (sJ (o:=HO.tup [V.str sh,V.int n]) p hp)) zh
end
theorem Z4{m dx:L}{fs:List (Str×V)}{low ac:Int}(MF:MkF K t)(h1:H m=U (.ins t.q02 dx fs))(h2:fs.lookup (bg "folded")=U (.int low))(h3:low<=ac)(q:∀H',aK H H'->Q .non H') :
  ja K t (sA Q) (L2.start ["self","rank"] [.ref m,.int ac]) H:=⟨_,Y,yd h1 MF.cl MF.f Y h2 ⟨_,_,Y,Y,_,Y,ye (Bk ()) (q H (aK.refl H))⟩⟩
theorem WO{vs:List V}{_E:XK}(h:xi vs H Q _E) :
  Zn K t (sA Q) (L2.start ["number"] vs) H:=by
 obtain⟨n,rfl,h1,h2,q⟩:=h;have P3:=zeY (j:=30) () ();have e30:(10:Int)^(30:Int).toNat=1000000000000000000000000000000:=by lia
 have e3:(1000000007:Int)^(3:Int).toNat=1000000021000000147000000343:=by lia
 refine⟨_,Y,_,_,Y,Y,by show (0:Int)<4;decide,Y,_,Y,vF (λ_=>⟨_,Y,_,_,Y,Y,⟨(),(),()⟩,_,_,Y,Y,mB () () (by rw[e3];lia) (by rw[e3];lia),_,_,Y,Y,P3,_,_,Y,Y,mB () () (by rw[e30];lia) (by rw[e30];lia),_,_,Y,Y,_,_,Y,Y,by rw[e30];show (0:Int)<2*1000000000000000000000000000000+1;decide,_,_,Y,Y,P3,_,_,Y,Y,?_⟩) λ_=>⟨_,Y,_,_,Y,Y,dB,_,_,Y,Y,by show (0:Int)<6;decide,_,_,Y,Y,q _ _ (tL.mpr ()) (aK.refl _)⟩⟩;rw[e30,e3];exact q _ _ zhO (aK.refl _)
theorem YK{vs:List V}{_E:XK}(h:yu vs H Q _E) :
  jG K t (sA Q) (L2.start ["word"] vs) H:=by
 obtain⟨w,rfl,h,q⟩:=h;obtain⟨h1,h2,_⟩:=id h;refine⟨_,Y,by show 9<=Bb;rw[bG];decide,λp hp=>⟨p,wl,Y,.inr (sB.of zh),Y,(),_,Y,?_⟩⟩;have s1:=sJ (o:=HO.tup wl) p hp;have z1:(bg "z").length=1:=by lia
 by_cases c:inV (.str w) wl=D
 ·exact yv c ⟨_,Y,_,_,Y,Y,xm (),q _ _ (zir (by rw[zcz,c,Bool.or_true])) s1⟩
 refine ye (dP.mpr c) ⟨_,Y,by show 7<=Bb;rw[bG];decide,λp2 hp2=>⟨p2,jw,Y,.inr (sB.of zh),Y,(),_,Y,?_⟩⟩;have s2:=s1.trans (sJ (o:=HO.tup jw) p2 hp2);by_cases c2:inV (.str w) jw=D
 ·exact yv c2 ⟨_,Y,_,_,Y,Y,xm (),q _ _ (zir (by rw[zcz,c2,Bool.true_or])) s2⟩
 ·exact ye (dP.mpr c2) ⟨_,Y,q _ _ (zgw h (dP.mpr c2) (dP.mpr c)) s2⟩
section
variable {x:Str}{c:Int}
theorem zdy{o2:Option V}(hx:yQ x=D)(q:∀nm ws H',aK H H'->H nm=ao->ss H' nm ws->ws.length=2->Q (.ref nm) H') :
  Zl K t (sA Q) [U (.int c),U (.str "abcdefghijklmnopqrstuvwxyz"),o2,U (.str x),ao,ao] H:=by
 obtain⟨h1,h2,h3⟩:=zcA hx;have g1:=cA (c/6) (b:=(x.length:Int)) ();have g2:=ck (c/6) (b:=(x.length:Int)) ();have sx:x.length<=Bb:=xm ();refine⟨_,Y,_,_,Y,Y,dB,_,Y,.str x,x.length,Y,⟨sx,Y⟩,_,_,Y,Y,by show (0:Int)<x.length;lia,?_⟩;obtain⟨k,ek⟩:∃k:Nat,c/6%(x.length:Int)=k:=⟨(c/6%(x.length:Int)).toNat,(lR g1).symm⟩;dsimp only;rw[ek] at g1 g2 ⊢;obtain⟨y,hy,my⟩:=zaF (xs:=x.cps.toList) (i:=(k:Int)) g1 (by rw[<-YZ];exact g2);have sz:(bg "abcdefghijklmnopqrstuvwxyz").length<=Bb:=by lia
 have f1:=cA (zcg (bg "abcdefghijklmnopqrstuvwxyz") ⟨#[y]⟩+1+c/36%25) (b:=26) ();have f2:=ck (zcg (bg "abcdefghijklmnopqrstuvwxyz") ⟨#[y]⟩+1+c/36%25) (b:=26) ();obtain⟨d,hd,ld⟩:=zfe f1 f2;exact⟨_,Y,_,Y,Y,_,Y,_,Y,x,k,y,Y,Y,sx,hy,_,_,Y,Y,_,_,Y,Y,_,Y,_,_,Y,Y,dB,_,_,Y,Y,by show (0:Int)<25;decide,_,_,Y,Y,_,_,Y,Y,by show (0:Int)<26;decide,_,_,d,Y,Y,sz,hd,zdm (t:=t) hx () ld q⟩
end
section
variable {p a b sp tp:L}{Hb:Hp}{kd:Int}{sh sl:Str}{e0 f:List V}
theorem zfy{y1:Int}(od:okD y1)(hp:∃xs,H p=U (.lst xs)/\tE xs 1=U (.int y1))(nsh:yQ sh=D)(nsl:yQ sl=D)(te:aX e0)(pe:tmP e0)(hs:H sp=U (.tup e0))(fs:Hb sp=ao)(tf:aX f)(pf:tmP f)(ht:H tp=U (.tup f))(ft:Hb tp=ao)(S:aK Hb H)
  (q:∀v r H',aK Hb H'->hV (λb=>Hb b=ao) H' v r->rwW r->Q v H') :
  Yg K t (sA Q) [U (.ref p),U (.ref a),U (.ref b),U (.int kd),U (.str sh),U (.str sl),U (.ref sp),U (.ref tp)] H:=by
 obtain⟨ts,ps⟩:=Xn (u:=.str sl) (.inr ⟨sl,Y,nsl⟩);obtain⟨xs,h1,h2⟩:=hp;refine⟨_,Y,_,_,Y,Y,_,Y,vF (λ_=>⟨_,Y,_,Y,_,Y,by show 4<=Bb;rw[bG];decide,λr hr=>?_⟩) λ_=>⟨_,Y,_,_,Y,Y,_,Y,vF (λ_=>⟨_,Y,_,Y,_,Y,by show 4<=Bb;rw[bG];decide,λr hr=>?_⟩) λ_=>⟨_,Y,Y,_,Y,vF (λ_=>⟨_,Y,_,Y,by show 3<=Bb;rw[bG];decide,λr hr=>?_⟩) λ_=>⟨_,Y,Y,_,Y,vF (λ_=>⟨_,Y,by show 2<=Bb;rw[bG];decide,λr hr=>?_⟩) λ_=>⟨_,Y,Jh Y h1 h2 ⟨_,_,Y,Y,by show (0:Int)<3;decide,_,_,Y,Y,by show 3<=Bb;rw[bG];decide,λp2 hp2=>⟨by show 2<=Bb;rw[bG];decide,λr hr=>?_⟩⟩⟩⟩⟩⟩⟩
 ·exact q _ (.take sh e0 sl) _ (S.trans (sJ r hr)) ⟨r,sp,Y,zI S hr,fs,zh,sJ r hr _ _ hs⟩ ⟨trivial,⟨ZR nsh,pe,ZR nsl⟩,te⟩
 ·exact q _ (.give sh e0 f) _ (S.trans (sJ r hr)) ⟨r,sp,tp,Y,zI S hr,fs,ft,zh,sJ r hr _ _ hs,sJ r hr _ _ ht⟩ ⟨trivial,⟨ZR nsh,pe,pf⟩,⟨te,tf⟩⟩
 ·exact q _ (.lt sl f) _ (S.trans (sJ r hr)) ⟨r,tp,Y,zI S hr,ft,zh,sJ r hr _ _ ht⟩ ⟨trivial,⟨ZR nsl,pf⟩,tf⟩
 ·exact q _ (.say f) _ (S.trans (sJ r hr)) ⟨r,tp,Y,zI S hr,ft,zh,sJ r hr _ _ ht⟩ ⟨trivial,pf,tf⟩
 ·have s3:=sJ (o:=HO.tup [V.str sl,V.int (y1%3+1),V.str (bg "same")]) p2 hp2;have jw:wdJ (bg "same"):=⟨(),(),()⟩;obtain⟨t2,p3⟩:=Xn (u:=.int (y1%3+1)) (.inl ⟨_,Y,tL.mpr ()⟩);exact q _ (.off ([.str sl]++[.int (y1%3+1)]++[.str (bg "same")])) _ (S.trans (s3.trans (sJ r hr))) ⟨r,p2,Y,zI (S.trans s3) hr,zI S hp2,zh,sJ r hr _ _ zh⟩ ⟨trivial,(by unfold Vk;exact zcw ps p3 jw),(by unfold qT;exact Kc ts t2 jw (by simp))⟩
end
section
variable {c:Int}{p a b:L}{ds:List Int}{us ws:List Str}
theorem Ju{vs:List V}{_E:XK}(h:vL vs H Q _E) :
  qm K t (sA Q) (L2.start ["cell","letters","word","one","at","letter"] vs) H:=by
 obtain⟨c,rfl,q⟩:=h;simp only[qm,Zm,xp,yu,L2.start,XO,zo,zN,zt,aL,Z,tC,zc,zj,tBM,tyV,zR,kh,VZ,zbp,xx,zdJ,rI,rI0,ot,iI,fE,dJ,gb,lG,eG,ie,fu,exists_eq_left',V.int.injEq,V.ref.injEq,V.str.injEq,eP,and_true,true_and,and_assoc,exists_and_left,pJ,List.set_cons_succ,Nat.reduceSub,Nat.reduceAdd,if_true];have g1:=cA c (b:=6) ();have g2:=ck c (b:=6) ();obtain⟨m,em⟩:∃m:Nat,1+c%6=m:=⟨(1+c%6).toNat,()⟩;rw[em];refine⟨(),m,Y,(),λl ds H1 s1 fl hl ld od=>⟨⟨_,aT.of hl⟩,λBq hD=>?_⟩⟩;have lm:(ds.map V.int).length=ds.length:=bf ..;refine zdV (J:=Itl K l) ds.length () (λτ=>∃o,τ=[o,U (.str "abcdefghijklmnopqrstuvwxyz")]) (λi v=>ziK v) ⟨_,Y⟩ (λi H s h=>⟨_,_,aT.of (s _ _ hl),bb (by rw[lm];exact h)⟩) (λH s=>⟨_,aT.of (s _ _ hl),by rw[lm];exact bp _⟩) hD ?_ ?_
 ·rintro i v τ H2 H' ⟨o,rfl⟩ s hi ⟨rfl,hv⟩;have hv:=hv _ (aT.of (s _ _ hl));obtain⟨e,_,rfl⟩:=bC.mp (bS hv);simp only[eG,ie,fu,exists_eq_left',V.int.injEq,V.str.injEq,eP,and_true,pJ];have f1:=cA e (b:=26) ();have f2:=ck e (b:=26) ();obtain⟨d,hd,ld⟩:=zfe f1 f2;exact⟨(),(),d,hd,⟨_,Y⟩,⟨d,Y,ld⟩,aK.refl _⟩
 ·intro ys H2 hly hv s hq;obtain⟨ls,rfl,hp⟩:=zcu (P:=λx=>∃c,x=⟨#[c]⟩/\inL c=D) (ys:=ys) λv hv2=>by
   obtain⟨i,hi⟩:=cM hv2;obtain⟨c,e,h⟩:=hv i v hi;exact⟨_,e,c,Y,h⟩
  rw[bf] at hly;obtain⟨j1,j2,j3⟩:=zaP hp;have jc:=zdZ ls;have jl:(JR (bg "") ls).length=ls.length:=by rw[YZ,jc,j1]
  have sl:=KJ (bg "") ls 0;refine⟨ls,aT.of hq,?_,⟨(),(),by unfold Xa;rw[jc];exact j2⟩,λx H3 hx s3=>?_⟩
  ·unfold zdY;rw[sl,j3,show (bg "").length=0 from by lia];exact xm ()
  ·exact zdy hx λnm ws H' s' fn hn l2=>q nm ws H' (s1.trans (s.trans (s3.trans s'))) (zI s1 (zI s (zI s3 fn))) hn l2
theorem Qo{vs:List V}{_E:XK}(h:Zk vs H Q _E) :
  Zx K t (sA Q) (L2.start ["xs","shelves","slots","kind","shelf","slot","spot","term"] vs) H:=by
 obtain⟨p,a,b,ds,us,ws,rfl,h1,h2,h3,h4,h5,h6,h7,q⟩:=h
 match ds,h2 with
 |[x0,x1,x2],_ =>
 have o1:=h3 x1 (.tail _ (.head _));have o2:=h3 x2 (.tail _ (.tail _ (.head _)));unfold Zx zo zN zt;refine Qb (λ_ q=>Jh Y h1 Y q) () λk _ _=>?_;refine Qc h4 h5 Y (λ_ q=>Jh Y h1 Y ⟨_,_,Y,Y,dB,q⟩) λsh nsh=>?_;refine Qc h6 h7 Y (λ_ q=>Jh Y h1 Y ⟨_,_,Y,Y,dB,q⟩) λsl nsl=>?_;refine Jh Y h1 Y ⟨_,Y,_,_,ws,Y,o1,h6,h7,λsp e H1 s1 fs hs te pe=>?_⟩;refine Jh Y (s1 _ _ h1) Y ⟨_,Y,_,_,ws,Y,o2,h6.same s1,h7,λtp f H2 s2 ft ht tf pf=>?_⟩;have S:=s1.trans s2;exact zfy (t:=t) o1 ⟨_,S _ _ h1,Y⟩ nsh nsl te pe (s2 _ _ hs) fs tf pf ht (zI s1 ft) S q
end
end
abbrev Ba(P:av)(w:ax)(K:bu)(mg:Str->Option af)(base:aw):=sq P w K mg base (tK P w)
section
variable {P:av}{w:ax}{K:bu}{mg:Str->Option af}{base:aw}{t:bv}(T:Txt K mg t)
include T
theorem xw:Ba P w K mg base 1 t.a0 t.d0 ["word"] (yu):=by
 refine T.g0.f.okA Y7 λvs H Q E h=>⟨?_,λ_ _ _ _ hr=>⟨jG K t,(zd (zH (zq XI (B 0) (zY (kX (x:="take") (kX (x:="give") (kX (x:="let") (kX (x:="say") (kX (x:="off") (kX (x:="if") (kX (x:="else") (kX (x:="end") (kX (x:="as") ze)))))))))) (by with_unfolding_all rfl)) (zg (zp (zm wJ (B 0) zE)))
   zx)
  (zd (zH (zq XI (B 0) (zY (za zE (za zE (za zE (za zE (za zE (za zE (za zE ze)))))))) (by with_unfolding_all rfl)) (zg (zp (zm wJ (B 0) zE)))
    zx)
  (zg (zp (B 0))))),YK h⟩⟩
 obtain⟨w,rfl,_⟩:=h;rfl
theorem jX:Ba P w K mg base 1 t.a1 t.d1 ["cell","many"] (xp):=by
 refine T.g1.f.okA q0f λvs H Q E h=>⟨?_,λ_ _ _ _ hr=>⟨Z9 K t,(zd (zv q0f.nd (yz ze))
  (zd (zv q0f.nd (zm ya (zm zQ (B 0) zf) zf))
  (zd (zv q0f.nd (zm ya (zm zQ (zm zU (B 0) zf) zf) zf))
  (zd (xc cf Y (jY Y T.q0s (za (B 1) ze)) (yb q0f.nd) (zd (zv q0f.nd (zm zQ (zm ya (zm ya (zm wX (B 3) (B 3)) (zm wX zf (B 4))) (B 5)) zf))
  (zd (zv q0f.nd (zm zQ (zm ya (zm ya (zm wX (B 4) (B 3)) (zm wX zf (B 3))) zf) zf))
  (zg (zO (wE bR cp cq yX (B 2) (za (zm ya (zm wX (B 3) zf) (B 4)) ze)))))))
  (zg (zp (B 2))))))),VF h⟩⟩
 obtain⟨c,m,rfl,_⟩:=h;rfl
theorem Xv:Ba P w K mg base 2 t.a2 t.d2 ["cell"] (vL):=by
 refine T.g2.f.okA q0i λvs H Q E h=>⟨?_,λ_ _ _ _ hr=>⟨qm K t,(zd (XG (i:=1) q0i.nd Y (ph Y) zE)
  (zd (zv q0i.nd (wE nO PySem.F.slot_str_join PySem.F.type_str_join zfU zE (za (zcc Y (osc:=zi jA) (N:=["cell","letters","word","one","at","letter"]) (xs:=["number"]) (ix:=[1]) () (yU (sM (jX T) T.g1 hr zu (za (B 0) (za (zm ya zf (zm zQ (B 0) zf)) ze)))) (λ_ _ _ _=>(kM (i:=0) (show iF (["number","letters"]:List Str) from ()) Y (l8 Y) (.inr Y))) (λ_ _ _ _=>ZN) (λ_ _ _ _=>(zw zbj (B 1) (zm zQ (B 0) zf)))) ze)))
  (zd (zv q0i.nd (sM (xw T) T.g0 hr zu (za (B 2) ze)))
  (zd (zv q0i.nd (zm zQ (zm zU (B 0) zf) (zD zX Y T.q04 yA (za (B 3) ze))))
  (zd (zv q0i.nd (zw zbj (B 1) (zm zQ (zm ya (zm ya (wE nO PySem.F.slot_str_find PySem.F.type_str_find zfT (B 1) (za (zw zbj (B 3) (B 4)) ze)) zf) (zm zQ (zm zU (B 0) zf) zf)) zf)))
  (zd (zH (PW.pt (XD (zq ym (zm zQ (zm zU (B 0) zf) zf) zf (zB _)) (ZH (zq wD (zD zX Y T.q04 yA (za (B 3) ze)) zf (zB _))))) (zg (zp (yz (za (B 3) (za (sM (xw T) T.g0 hr zu (za (zm wJ (B 3) (B 5)) ze)) ze)))))
    zx)
  (zd (zH (PW.pt (XD (zq ym (zm zQ (zm zU (B 0) zf) zf) zf (zB _)) (ZH (zq wD (zD zX Y T.q04 yA (za (B 3) ze)) zf (zB _))))) (zg (zp (yz (za (sM (xw T) T.g0 hr zu (za (zm wJ (B 5) (B 3)) ze)) (za (B 3) ze)))))
    zx)
  (zg (zp (yz (za (B 3) (za (sM (xw T) T.g0 hr zu (za (zm wJ (zm wJ (xE zdQ (B 3) ZK (xu (B 4))) (B 5)) (xE zdQ (B 3) (xu (zm ya (B 4) zf)) ZK)) ze)) ze)))))))))))),Ju h⟩⟩
 obtain⟨c,rfl,_⟩:=h;rfl
theorem wC:Ba P w K mg base 1 t.a3 t.d3 ["number"] (xi):=by
 refine T.g3.f.okA Vn λvs H Q E h=>⟨?_,λ_ _ _ _ hr=>⟨Zn K t,(zd (zH (zq ym (zm zQ (B 0) zf) zf (zB _)) (zg (zp (zm vT (zm zQ (zm wX (B 0) (zm Yj zf zf)) (zm ya (zm wX zf (zm Yj zf zf)) zf)) (zm Yj zf zf))))
   zx)
  (zg (zp (zm vT (zm zQ (zm zU (B 0) zf) zf) zf)))),WO h⟩⟩
 obtain⟨n,rfl,_⟩:=h;rfl
theorem Jv:Ba P w K mg base 2 t.a4 t.d4 ["cell","shelves"] (jR):=by
 refine T.g4.f.okA q0m λvs H Q E h=>⟨?_,λ_ _ _ _ hr=>⟨Ya K t,(zd (zv q0m.nd (sM (jX T) T.g1 hr zu (za (B 0) (za zf ze))))
  (zd (XG (i:=3) q0m.nd Y (ph Y) j8)
  (zd (xc cf Y (jY Y T.q0s (za (zm zQ (B 0) zf) ze)) (yb q0m.nd) (zd (zv q0m.nd (sM (wC T) T.g3 hr zu (za (zw zM (B 2) (zm ya (B 4) zf)) ze)))
  (zg (zH (zq WX (B 5) zf (zB _)) (zg (x9 (yE hr) (B 3) (zY (za (zw zM (B 1) (zm zQ (zw zM (B 2) (B 4)) zf)) (za (zm zQ (zm zU (zw zM (B 2) (B 4)) zf) zf) ze))) (B 5) Y))
    zx))))
  (zg (zp (zcc Y (osc:=zi vI) (N:=["cell","shelves","xs","found","k","worth"]) (xs:=["place"]) (ix:=[3]) () (yU (zD (KN Y) Y T.q0x ZO (za (B 3) ze))) (λ_ _ _ _=>(kM (i:=0) (show iF (["place","found"]:List Str) from ()) Y (l8 Y) (.inr Y))) (λ_ _ _ _=>ZN) (λ_ _ _ _=>(zY (za (B 0) (za (wW (yE hr) (B 1) (B 0) (λ_ _=>rfl)) ze)))))))))),VG h⟩⟩
 obtain⟨c,a,ws,rfl,_⟩:=h;rfl
theorem yy:Ba P w K mg base 1 t.a5 t.d5 ["script","k"] (yf K):=by
 refine T.g5.f.okA WB λvs H Q E h=>⟨?_,λ_ _ _ _ hr=>⟨qC K t,(zd (zH (zq wD (B 1) (zD zX Y T.q04 yA (za (B 0) ze)) (zB _)) (zg (zp (zw zM (B 0) (B 1))))
   zx)
  (zg (zp zf))),X5 h⟩⟩
 obtain⟨a,ns,k,rfl,_⟩:=h;rfl
theorem VU(n:Nat)(IH:Ba P w K mg base (2+2*n) t.a7 t.d7 ["rows","first"] (xV n)):Ba P w K mg base (2+2*n+1) t.a6 t.d6 ["row","at"] (Zg n):=by
 refine T.g6.f.okA q0t (k:=2+2*n) λvs H Q E h=>?_;obtain⟨v,e,a,b,k,rfl,h1,h2,h3,h4,q⟩:=h;exact⟨Y,λ_ _ _ _ hr=>⟨Zo K t n,(zd (zv q0t.nd (YR (sq.mono IH ()) hr Y T.g7.m T.g7.f.kp T.g7.b .nil zu (za (zw zT (B 0) zf) (za (zm ya (B 1) zf) ze))))
  (zd (zv q0t.nd (zm ya (zm ya (B 1) zf) (zD zX Y T.q04 yA (za (B 2) ze))))
  (zd (zH (zq (QZ (zc2 hr)) (zw zT (B 0) zf) (yz ze) (zB _)) (zg (zp (zm Yl (yz (za (zY (za zE (za (zw zT (B 0) zf) (za (B 3) ze)))) ze)) (B 2))))
    zx)
  (zd (zv q0t.nd (YR (sq.mono IH ()) hr Y T.g7.m T.g7.f.kp T.g7.b .nil zu (za (zw zT (B 0) zf) (za (zm ya (B 3) zf) ze))))
  (zg (zp (zm Yl (zm Yl (zm Yl (yz (za (zY (za zE (za (zw zT (B 0) zf) (za (zm ya (B 3) zf) ze)))) ze)) (B 2)) (yz (za (zY (za zE (za (zm ya (zm ya (B 3) zf) (zD zX Y T.q04 yA (za (B 4) ze))) ze))) ze))) (B 4)))))))),WM h1 h2 h3 h4 q⟩⟩
theorem za5:∀n,sq P w K mg base (tK P w) (2+2*n) t.a7 t.d7 ["rows","first"] (xV n):=by
 intro n;induction n with
 |zero=>exact⟨λvs H Q E h=>(Xk h).elim,λA outer s H args us vs Q E hr he hb hv h=>(Xk h).elim⟩
 |succ n IH =>
 refine T.g7.f.okA q0z (k:=2+2*n+1) λvs H Q E h=>?_;obtain⟨v,r,k,rfl,h1,h2,h3,q⟩:=h;exact⟨Y,λ_ _ _ _ hr=>⟨Wl K t n,(zd (zv q0z.nd (yz ze))
  (zd (xc cf Y (yU (B 0)) (yb q0z.nd) (zg (zH (zq ym (zw zT (B 3) zf) zE (zB _)) (zg (zO (wE bR PySem.F.slot_list_extend PySem.F.type_list_extend zcW (B 2) (za (YR (sq.mono (VU T n IH) ()) hr Y T.g6.m T.g6.f.kp T.g6.b .nil zu (za (B 3) (za (zm ya (B 1) (zD zX Y T.q04 yA (za (B 2) ze))) ze))) ze))))
    (zg (zO (wE bR cp cq yX (B 2) (za (B 3) ze)))))))
  (zg (zp (B 2))))),K4 h1 h2 h3 q⟩⟩
theorem zbX:Ba P w K mg base 15 t.a8 t.d8 ["rows"] (Vp):=by
 refine T.g8.f.okA zbK λvs H Q E h=>?_;obtain⟨v,r,rfl,h1,h2,h3,q⟩:=h;exact⟨Y,λ_ _ _ _ hr=>⟨Vs K t,(zg (zp (sM (za5 T 6) T.g7 hr zu (za (B 0) (za zf ze))))),za4 h1 h2 h3 q⟩⟩
theorem Jw:Ba P w K mg base 1 t.a9 t.d9 ["self","table"] (jS t):=by
 refine T.q1n.ok0 V3 (λvs H Q E h=>?_) (λcdv A outer s H vs Q E hr h=>?_)
 ·obtain⟨x,h,dx,aM,rfl,_⟩:=h;rfl
 exact⟨jU K t,(zd (yD (f:="ground") (B 0) (xg (qB Y (hu3 hr)) Y T.q1m zcd (za (B 1) ze)) Y)
  (zd (yD (f:="folded") (B 0) zf Y)
  (zd (yD (f:="worths") (B 0) j7 Y)
  (zg (yD (f:="ranks") (B 0) j8 Y))))),VT (mkF T) h⟩
theorem Qp:Ba P w K mg base 1 t.a10 t.d10 ["self","makes"] (qk t):=by
 refine T.q1p.ok0 KY (λvs H Q E h=>?_) (λcdv A outer s H vs Q E hr h=>?_)
 ·obtain⟨x,m,dx,rfl,_⟩:=h;rfl
 exact⟨qo K t,(zd (yD (f:="makes") (B 0) (B 1) Y)
  (zd (yD (f:="laid") (B 0) j7 Y)
  (zd (yD (f:="readers") (B 0) j8 Y)
  (zg (yD (f:="doubted") (B 0) j7 Y))))),Jn (dkF T) h⟩
theorem Xw:Ba P w K mg base 3 t.a11 t.d11 ["self","table","hands","way","first"] (wz t):=by
 refine T.q1r.ok0 KZ (λvs H Q E h=>?_) (λcdv A outer s H vs Q E hr h=>?_)
 ·obtain⟨x,l,w,dx,dw,n,f,wo,g,rfl,_⟩:=h;rfl
 exact⟨qp K t,(zd (yD (f:="hands") (B 0) (B 2) Y)
  (zd (yD (f:="way") (B 0) (B 3) Y)
  (zd (yD (f:="first") (B 0) (B 4) Y)
  (zd (yD (f:="codes") (B 0) (yz ze) Y)
  (zd (yD (f:="waiting") (B 0) (yz ze) Y)
  (zd (yD (f:="held") (B 0) j7 Y)
  (zd (yD (f:="makes") (B 0) (ZJ T.mk_Makes (sq.mono (Jw T) ()) hr Y T.g_Makes T.q1o .nil zu (za (B 1) ze)) Y)
  (zd (yD (f:="jobs") (B 0) (ZJ T.mk_Jobs (sq.mono (Qp T) ()) hr Y T.g_Jobs T.q1q .nil zu (za (zA (B 0) Y) ze)) Y)
  (zg (yD (f:="ended") (B 0) (yz ze) Y)))))))))),Jo (dkF T) h⟩
theorem vB:Ba P w K mg base 1 t.a12 t.d12 ["self"] (xI t):=by
 refine T.g12.f.okA WC λvs H Q E h=>?_;obtain⟨d,dx,a,n,f,en,rfl,h1,h2,q⟩:=h;exact⟨Y,λ_ _ _ _ hr=>⟨qD K t,(zg (zp (zm ya (zA (B 0) Y) (zD zX Y T.q04 yA (za (zA (B 0) Y) ze))))),X2 (dkF T) h1 h2 q⟩⟩
theorem jK:Ba P w K mg base 1 t.a13 t.d13 ["self"] (wA t):=by
 refine T.g13.f.okA Y8 λvs H Q E h=>?_;obtain⟨d,dx,a,n,f,cs,rfl,h1,h2,q⟩:=h;exact⟨Y,λ_ _ _ _ hr=>⟨jH K t,(zg (zp (zm ya (zA (B 0) Y) (zD zX Y T.q04 yA (za (zA (B 0) Y) ze))))),YI (dkF T) h1 h2 q⟩⟩
theorem xX:Ba P w K mg base 1 t.a14 t.d14 ["self"] (xk t):=by
 refine T.g14.f.okA zas λvs H Q E h=>⟨?_,λ_ _ _ _ hr=>⟨Wm K t,(zg (zp (zh1 (jr YQ (zA (B 0) Y) y8 (zB _)) (Kk (jr zgK (zA (B 0) Y) (zD zX Y T.q04 yA (za (zA (B 0) Y) ze)) (zB _)))))),Qn (rnF T) h⟩⟩;obtain⟨x,a,C,s,rfl,_⟩:=h;rfl
theorem zbY:Ba P w K mg base 1 t.a15 t.d15 ["word","first","second"] (YD t):=by
 refine T.g15.f.okB zbL λvs H Q E h=>⟨?_,λ_ _ _ _ hr=>⟨Vt K t E,(zd (zH (zq ym (B 2) zf (zB _)) (zg (QV Y T.q2n zce Y T.g_Nought (za (zcf (B 0)) ze)))
   zx)
  (zg (zp (vR (zq ym (B 0) zE (zB _)) (zm zd0 (B 1) (B 2)) (zm zfD (B 1) (B 2)))))),za2 h⟩⟩
 obtain⟨w,a,b,rfl,_⟩:=h;rfl
theorem zbZ:Ba P w K mg base 2 t.a16 t.d16 ["word","first","second"] (YE t):=by
 refine T.g16.f.okB zbM λvs H Q E h=>⟨?_,λ_ _ _ _ hr=>⟨Vu K t E,(zd (zH (zq ym (B 0) zE (zB _)) (zg (zp (zm ya (B 1) (B 2))))
   zx)
  (zd (zH (zq ym (B 0) zE (zB _)) (zg (zp (zm vT (B 1) (B 2))))
    zx)
  (zd (zH (zq ym (B 0) zE (zB _)) (zg (zp (zm wX (B 1) (B 2))))
    zx)
  (zd (zH (zq ym (B 0) zE (zB _)) (zg (zp (vR (zq wD (B 1) (B 2) (zB _)) zf zf)))
    zx)
  (zd (zH (zq ym (B 0) zE (zB _)) (zg (zp (vR (zq ym (B 1) (B 2) (zB _)) zf zf)))
    zx)
  (zg (zp (sM (zbY T) T.g15 hr vW (za (B 0) (za (B 1) (za (B 2) ze))))))))))),za3 h⟩⟩
 obtain⟨w,a,b,rfl,_⟩:=h;rfl
theorem za6:Ba P w K mg base 1 t.a17 t.d17 ["thing"] (Wi):=by
 refine T.g17.f.okA zat λvs H Q E h=>?_;obtain⟨i,rfl,q⟩:=h;exact⟨Y,λ_ _ _ _ hr=>⟨Zp K t,(zd (zH (PW.pt (qy (wI (yK (zD yG Y T.q09 zP (za (B 0) (za (y6 Y T.b_int KD Y) ze))))) (jM (yK (zD yG Y T.q09 zP (za (B 0) (za (y6 Y T.q18 KG Y) ze))))))) (zg (zp (vQ (b:=aq))))
   zx)
  (zg (zp (QB zdE zdE (zdC zbe (zm Yj zf zf)) (B 0) (zm Yj zf zf))))),Qm (kf K).i_b q⟩⟩
theorem zdz:Ba P w K mg base 3 t.a18 t.d18 ["word","first","second"] (XX t):=by
 refine T.g18.f.okB q19 λvs H Q E h=>⟨?_,λ_ _ _ _ hr=>⟨J7 K t E,(zd (zv q19.nd (sM (zbZ T) T.g16 hr vW (za (B 0) (za (B 1) (za (B 2) ze)))))
  (zd (zH (wI (yK (sM (za6 T) T.g17 hr vW (za (B 3) ze)))) (zg (QV Y T.q2q zce Y T.g_Great (za (zcf (B 0)) ze)))
    zx)
  (zg (zp (B 3))))),zbW h⟩⟩
 obtain⟨w,a,b,rfl,_⟩:=h;rfl
theorem za7:Ba P w K mg base 4 t.a19 t.d19 ["term","slots"] (Wj t):=by
 refine T.g19.f.okB q0n λvs H Q E h=>?_;obtain⟨ah,tm,sl,ps,r,rfl,h1,h2,h3,h4,h5,h6,q⟩:=h;exact⟨Y,λ_ _ _ _ hr=>⟨Wn K t E,(zd (zv q0n.nd (yz ze))
  (zd (xc ziA Y (zhb (B 0)) (yb q0n.nd) (zg (zH (zq XI (B 3) (zfB Y T.g_JOINING Y) (by with_unfolding_all rfl)) (zd (zv q0n.nd (zbk bR iV iW zbm (B 2)))
  (zd (zv q0n.nd (zbk bR iV iW zbm (B 2)))
  (zg (zO (wE bR cp cq yX (B 2) (za (sM (zdz T) T.g18 hr vW (za (B 3) (za (B 5) (za (B 4) ze)))) ze))))))
   (zg (zO (wE bR cp cq yX (B 2) (za (vR (yK (zD yG Y T.q09 zP (za (B 3) (za (y6 Y T.q0y KC Y) ze)))) (j9 (yE hr) (B 1) (B 3) zf ⟨Y,Y,Y,Y⟩) (B 3)) ze)))))))
  (zg (zp (zbk bR iV iW zbm (B 2)))))),Ql (kf K).i_s T.q1w h1 h2 h3 h4 h5 h6 q⟩⟩
theorem yZ:Ba P w K mg base 5 t.a20 t.d20 ["self","term"] (yw t):=by
 refine T.g20.f.okB WD λvs H Q E h=>?_;obtain⟨x,tm,e,a,C,s,rfl,h1,h2,h3,h4,q⟩:=h;exact⟨Y,λ_ _ _ _ hr=>⟨qE K t E,(zg (zp (sM (za7 T) T.g19 hr vW (za (B 1) (za (zA (B 0) Y) ze))))),X6 (rnF T) h1 h2 h3 h4 q⟩⟩
theorem vC:Ba P w K mg base 6 t.a21 t.d21 ["self","due"] (yY t):=by
 refine T.g21.f.okB WE λvs H Q E h=>⟨?_,λ_ _ _ _ hr=>⟨qF K t E,(zg (zp (zY (za (zw zT (B 1) zf) (za (tJ (B 0) T.q05 (yZ T) T.g20 hr vW (za (zw zT (B 1) zf) ze)) ze))))),X7 (rnF T) h⟩⟩;obtain⟨x,p,xs,sh,te,e,a,C,s,rfl,_⟩:=h;rfl
theorem Wt:Ba P w K mg base 7 t.a22 t.d22 ["self"] (jC t):=by
 refine T.g22.f.okA q1a λvs H Q E h=>⟨?_,λ_ _ _ _ hr=>⟨Wo K t,(zd (zH (PW.pt (qy (yK (qZ (B 0) T.q05 (xX T) T.g14 hr zu)) (jM (zq WX (zw zT (zw zM (zA (B 0) Y) (zA (B 0) Y)) zf) zE (zB _))))) (zg (zp y8))
   zx)
  (zd (zga (And.intro rfl rfl) rfl (zfP (i:=1) q1a.nd rfl (l8 rfl) (zag (B 0) T.q05 T.g21.me (sq.mono (vC T) ()) hr T.g21.b (za (zw zM (zA (B 0) rfl) (zA (B 0) rfl)) ze))) rfl T.g_Great rfl T.g_Nought (λ_=>(zg (zp y8))))
  (zd (zH (PW.pt (qy (zq (WR (yE hr)) (B 1) (zA (B 0) Y) (by with_unfolding_all rfl)) (jM (zq (WR (yE hr)) (B 1) (zA (B 0) Y) (by with_unfolding_all rfl))))) (zg (zp y8))
    zx)
  (zg (zp (B 1)))))),Qi T h⟩⟩
 obtain⟨x,a,C,s,rfl,_⟩:=h;rfl
theorem jp:Ba P w K mg base 1 t.a23 t.d23 ["self","rank"] (xK t):=by
 refine T.g23.f.okA Yz λvs H Q E h=>?_;obtain⟨m,dx,fs,low,ac,rfl,h1,h2,h3,q⟩:=h;exact⟨Y,λ_ _ _ _ hr=>⟨ja K t,(zg (zH (zq wD (B 1) (zA (B 0) Y) (zB _)) (zg Qz)
   zx)),Z4 (mkF T) h1 h2 h3 q⟩⟩
theorem xq:Ba P w K mg base 1 t.a24 t.d24 ["ranks","rank"] (yM):=by
 refine T.g24.f.okA q0j λvs H Q E h=>⟨?_,λ_ _ _ _ hr=>⟨Yb K t,(zd (zv q0j.nd zf)
  (zd (zv q0j.nd (zD zX Y T.q04 yA (za (B 0) ze)))
  (zd (QA cf (zq wD (B 2) (B 3) (zB _)) (zd (zv q0j.nd (zm zU (zm ya (B 2) (B 3)) zf))
  (zg (zH (zq wD (zw zM (B 0) (B 4)) (B 1) (zB _)) (zg (zv q0j.nd (zm ya (B 4) zf)))
    (zg (zv q0j.nd (B 4)))))))
  (zg (zp (B 2)))))),VR h⟩⟩
 obtain⟨a,rs,ac,rfl,_⟩:=h;rfl
theorem Yi:Ba P w K mg base 2 t.a25 t.d25 ["self","place","rank"] (jT t):=by
 refine T.g25.f.okA q10 λvs H Q E h=>?_;obtain⟨m,p,ac,F,g,lays,q0,rfl,h1,h2,h3,q⟩:=h;exact⟨Y,λ_ _ _ _ hr=>⟨jV K t,(zd (zO (tJ (B 0) T.q0d (jp T) T.g23 hr zu (za (B 2) ze)))
  (zd (zv q10.nd (j9 (yE hr) (zA (B 0) Y) (B 1) (yz ze) ⟨Y,Y,Y,Y⟩))
  (zd (zv q10.nd (sM (xq T) T.g24 hr zu (za (B 3) (za (B 2) ze))))
  (zd (zH (zq ym (B 4) zf (zB _)) (zg (zp (j9 (yE hr) (zA (B 0) Y) (B 1) zf ⟨Y,Y,Y,Y⟩)))
    zx)
  (zg (zp (wW (yE hr) (wW (yE hr) (zA (B 0) Y) (zw zM (B 3) (zm vT (B 4) zf)) (λ_ _=>rfl)) (B 1) (λ_ _=>rfl)))))))),VS (mkF T) h1 h2 h3 q⟩⟩
theorem Qq:Ba P w K mg base 1 t.a26 t.d26 ["self","place","worth"] (qf t):=by
 refine T.g26.f.okA K0 λvs H Q E h=>⟨?_,λ_ _ _ _ hr=>⟨Xe K t,(zd (zH (zq (WR (yE hr)) (B 1) (zA (B 0) Y) (by with_unfolding_all rfl)) (zg (zp (wW (yE hr) (zA (B 0) Y) (B 1) (λ_ _=>rfl))))
   zx)
  (zd (zH (zq (Vf (yE hr)) (B 1) (zA (B 0) Y) (by with_unfolding_all rfl)) (zg (x9 (yE hr) (zA (B 0) Y) (B 1) (B 2) Y))
    zx)
  (zg (zp (wW (yE hr) (zA (B 0) Y) (B 1) (λ_ _=>rfl)))))),Jr (rnF T) h⟩⟩
 obtain⟨x,q,p,w,a,C,s,rfl,_⟩:=h;rfl
theorem za8:Ba P w K mg base 7 t.a27 t.d27 ["self","due","worth"] (Zi t):=by
 refine T.g27.f.okB q1b λvs H Q E h=>⟨?_,λ_ _ _ _ hr=>⟨Wp K t E,(zg (zH (zq ym (zw zT (B 1) zf) zE (zB _)) (zg (x9 (yE hr) (zA (B 0) Y) (zw zT (B 1) zf) (tJ (B 0) T.q05 (Qq T) T.g26 hr vW (za (tJ (B 0) T.q05 (vC T) T.g21 hr vW (za (B 1) ze)) (za (B 2) ze))) Y))
   (zg (zH (zq ym (zw zT (B 1) zf) zE (zB _)) (zd (zv q1b.nd (tJ (B 0) T.q05 (vC T) T.g21 hr vW (za (B 1) ze)))
  (zg (x9 (yE hr) (zA (B 0) Y) (B 3) (tJ (B 0) T.q05 (yZ T) T.g20 hr vW (za (zw zT (B 1) zf) ze)) Y)))
   (zg (zH (zq ym (zw zT (B 1) zf) zE (zB _)) (zg (x9 (yE hr) (zA (B 0) Y) (zw zT (B 1) zf) (tJ (B 0) T.q05 (yZ T) T.g20 hr vW (za (zw zT (B 1) zf) ze)) Y))
   (zg (zO (wE bR cp cq yX (zA (B 0) Y) (za (tJ (B 0) T.q05 (yZ T) T.g20 hr vW (za (zw zT (B 1) zf) ze)) ze)))))))))),Qh (rnF T) h⟩⟩
 obtain⟨x,v,r,w,m,a,C,s,rfl,_⟩:=h;rfl
theorem Jx:Ba P w K mg base 8 t.a28 t.d28 ["self","due","worth"] (jQ t):=by
 refine T.g28.f.okB V4 λvs H Q E h=>⟨?_,λ_ _ _ _ hr=>⟨Yd K t E,(zd (zH (zq ym (zw zT (B 1) zf) zE (zB _)) (zg (zp (zw zT (B 1) zf)))
   zx)
  (zd (zH (zq ym (zw zT (B 1) zf) zE (zB _)) (zg (zp (vR (zq ym (tJ (B 0) T.q05 (yZ T) T.g20 hr vW (za (zw zT (B 1) zf) ze)) zf (zB _)) (zw zT (B 1) zf) (zm ya (zA (B 0) Y) zf))))
    zx)
  (zd (zH (zq ym (zw zT (B 1) zf) zE (zB _)) (zg (zH (zq WX (tJ (B 0) T.q05 (yZ T) T.g20 hr vW (za (zw zT (B 1) zf) ze)) zf (zB _)) (zg (yD (f:="why") (B 0) zE Y))
    zx))
    (zg (zO (tJ (B 0) T.q05 (za8 T) T.g27 hr vW (za (B 1) (za (B 2) ze))))))
  (zg (zp (zm ya (zA (B 0) Y) zf)))))),VQ (rnF T) h⟩⟩
 obtain⟨x,v,c,w,m,a,C,s,rfl,_⟩:=h;rfl
theorem jL:Ba P w K mg base 9 t.a29 t.d29 ["self","worth"] (xW t):=by
 refine T.q1t.ok0 zau (λvs H Q E h=>?_) (λcdv A outer s H vs Q E hr h=>?_)
 ·obtain⟨x,w,m,a,C,s,rfl,_⟩:=h;rfl
 exact⟨Wq K t,(zd (zH (yK (qZ (B 0) T.q05 (xX T) T.g14 hr zu)) (zg zfC)
   zx)
  (zg (zeq (And.intro rfl rfl) rfl (zf9 (f:="at") (B 0) (zag (B 0) T.q05 T.g28.me (sq.mono (Jx T) ()) hr T.g28.b (za (zw zM (zA (B 0) rfl) (zA (B 0) rfl)) (za (B 1) ze))) rfl) rfl T.g_Great rfl T.g_Nought (λ_=>(zg (yD (f:="why") (B 0) zE rfl))) (λ_=>(zg (yD (f:="why") (B 0) zE rfl)))))),Qj T h⟩
theorem ZG:Ba P w K mg base 3 t.a30 t.d30 ["self","rank"] (ve t):=by
 refine T.g30.f.okA q0u λvs H Q E h=>?_;obtain⟨d,a,lb,Bp,la,g,lays,PP,cs,CC,ac,r,no,gi,rfl,h1,h2,h3,h4,h5,h6,q1,q2⟩:=h;exact⟨Y,λ_ _ _ _ hr=>⟨vf K t,(zd (xc cf Y (yU (zw zT (wW (yE hr) (zA (B 0) Y) (B 1) (λ_ _=>rfl)) zf)) (XE Y (xn (yb q0u.nd) (xn (yb q0u.nd) ZI))) (zd (zv q0u.nd (tJ (zA (B 0) Y) T.q0d (Yi T) T.g25 hr zu (za (B 2) (za (B 1) ze))))
  (zg (zH (zq WX (B 4) (B 3) (zB _)) (zg (zp (zY (za (B 2) (za (B 3) (za (B 4) ze))))))
    zx))))
  (zg (zp y8))),qK (dkF T) h1 h2 h3 h4 h5 h6 q1 q2⟩⟩
theorem qx:Ba P w K mg base 4 t.a31 t.d31 ["self"] (wx t):=by
 refine T.g31.f.okA q0v λvs H Q E h=>?_;obtain⟨⟨d,a,lb,n,f,wo,cs,ws,kv,la,db,en,g,lays,ld,CC⟩,rfl,h1,h2,h3,h4,h5,q1,q2⟩:=h;exact⟨Y,λ_ _ _ _ hr=>⟨wB K t,(zd (zv q0v.nd (zD (KW Y) Y T.q0x ZO (za (zA (B 0) Y) ze)))
  (zd (xc cf Y (yU (B 1)) (yb q0v.nd) (zd (zv q0v.nd (tJ (B 0) T.q0h (ZG T) T.g30 hr zu (za (B 2) ze)))
  (zd (zH (zq YQ (B 3) y8 (zB _)) (zg (zp (zm zb4 (zY (za (B 2) ze)) (B 3))))
    zx)
  (zg (zO (W2 (zA (B 0) Y) (B 2) ⟨Y,Y,Y,Y⟩))))))
  (zg (zp y8)))),kI (dkF T) h1 h2 h3 h4 h5 q1 q2⟩⟩
theorem Xx:Ba P w K mg base 1 t.a32 t.d32 ["ranks_at","place","rank"] (ww):=by
 refine T.g32.f.okA q1c λvs H Q E h=>⟨?_,λ_ _ _ _ hr=>⟨Xf K t,(zd (zv q1c.nd (wW (yE hr) (B 0) (B 1) (λ_ _=>rfl)))
  (zd (zO (wE bR mO mP J2 (B 3) (za (B 2) ze)))
  (zg (zH (zq (QZ (zc2 hr)) (B 3) (yz ze) (zB _)) (zg (zO (zeM (yE hr) (B 0) (B 1) ⟨Y,Y,Y,Y⟩)))
    zx)))),Js h⟩⟩
 obtain⟨rk,pl,ac,G,P,kk,q0,rfl,_⟩:=h;rfl
theorem kK:Ba P w K mg base 2 t.a33 t.d33 ["self","rank"] (wR t):=by
 refine T.g33.f.okA q0w λvs H Q E h=>?_;obtain⟨⟨d,a,lb,n,f,wo,cs,ws,kv,la,db,en,g,lays,ld,CC⟩,ac,s,gi,rfl,h1,h2,h3,h4,h5,h6,q⟩:=h;exact⟨Y,λ_ _ _ _ hr=>⟨kF K t,(zd (zv q0w.nd (W2 (zA (B 0) Y) (B 1) ⟨Y,Y,Y,Y⟩))
  (zd (zO (QP (zA (B 0) Y) (B 1) y8 ⟨Y,Y,Y,Y⟩))
  (zd (xc cf Y (yU (zw zT (B 2) zf)) (XE Y (xn (yb q0w.nd) (xn (yb q0w.nd) ZI))) (zg (zO (sM (Xx T) T.g32 hr zu (za (zA (B 0) Y) (za (B 3) (za (B 1) ze)))))))
  (zg (zp (B 2)))))),Xq (dkF T) h1 h2 h3 h4 h5 h6 q⟩⟩
theorem Xy:Ba P w K mg base 1 t.a34 t.d34 ["self","ranks"] (jF t):=by
 refine T.g34.f.okA Y9 λvs H Q E h=>?_;obtain⟨x,l,ws,rfl,h1,h2,q⟩:=h;exact⟨Y,λ_ _ _ _ hr=>⟨jI K t,(zg (zp (zw zM (B 1) (zdC zbe zf)))),YJ  h1 h2 q⟩⟩
theorem Jy:Ba P w K mg base 1 t.a35 t.d35 ["self","ranks"] (Z8 t):=by
 refine T.g35.f.okA V5 λvs H Q E h=>?_;obtain⟨x,l,ws,rfl,h1,h2,q⟩:=h;exact⟨Y,λ_ _ _ _ hr=>⟨Ye K t,(zg (zp (zw zM (B 1) zf))),VL  h1 h2 q⟩⟩
theorem Wu:Ba P w K mg base 1 t.a36 t.d36 ["self","code"] (Zh t):=by
 refine T.q1u.ok0 zav (λvs H Q E h=>?_) (λcdv A outer s H vs Q E hr h=>?_)
 ·obtain⟨x,l,dx,xs,C,rfl,_⟩:=h;rfl
 obtain⟨x,l,dx,xs,C,rfl,h1,h2,h3,q⟩:=h;exact⟨Zq K t,(zd (yD (f:="code") (B 0) (xg x8 Y T.q0c wb (za (B 1) ze)) Y)
  (zd (yD (f:="at") (B 0) zf Y)
  (zd (yD (f:="why") (B 0) y8 Y)
  (zd (yD (f:="slots") (B 0) j7 Y)
  (zd (yD (f:="gifts") (B 0) j8 Y)
  (zd (yD (f:="notes") (B 0) j8 Y)
  (zg (yD (f:="sayings") (B 0) (yz ze) Y)))))))),Jm (rnF T) h1 h2 h3 q⟩
theorem X8:Ba P w K mg base 3 t.a37 t.d37 ["self","hand"] (wS t):=by
 refine T.g37.f.okA q1d λvs H Q E h=>⟨?_,λ_ _ _ _ hr=>⟨kG K t,(zd (zv q1d.nd (zeQ (zA (B 0) Y) (zcp (zgZ T.q26 T.g34.me (sq.mono (Xy T) ()) hr T.g34.b) (zcp (zgZ T.q2m T.g35.me (sq.mono (Jy T) ()) hr T.g35.b) zhy)) zu (za (xg x8 Y T.q0c wb (za (zA (B 0) Y) ze)) ze)))
  (zd (zO (wE bR mO mP J2 (zA (B 0) Y) (za (B 2) ze)))
  (zd (x9 (yE hr) (zA (B 0) Y) (B 1) (zY (za (B 2) (za (ZJ T.mk_Run (sq.mono (Wu T) ()) hr Y T.g_Run T.q1l .nil zu (za (zw zM (zA (B 0) Y) (zm vT (B 2) (zA (B 0) Y))) ze)) ze))) Y)
  (zg (zp (zY (za zE (za (B 1) (za (B 2) ze))))))))),Xt (dkF T) h⟩⟩
 obtain⟨d,a,lb,n,f,h,g,CC,S,rfl,_⟩:=h;rfl
theorem YL:Ba P w K mg base 5 t.a38 t.d38 ["self","hand"] (xM t):=by
 refine T.g38.f.okA q11 λvs H Q E h=>⟨?_,λ_ _ _ _ hr=>⟨je K t,(zd (zv q11.nd (qZ (B 0) T.q0b (vB T) T.g12 hr zu))
  (zd (zv q11.nd (qZ (zA (B 0) Y) T.q0h (qx T) T.g31 hr zu))
  (zd (zH (PW.pt (XD (zq (WR (yE hr)) (B 2) (zA (zA (B 0) Y) Y) (by with_unfolding_all rfl)) (ZH (PW.pt (qy (zq Kq (B 3) y8 (zB _)) (jM (zq WX (zw zT (B 3) zf) (B 2) (zB _)))))))) (zd (zO (wE bR cp cq yX (zA (B 0) Y) (za (tJ (zA (B 0) Y) T.q0h (kK T) T.g33 hr zu (za (B 2) ze)) ze)))
  (zg (zp (zY (za zE (za (B 1) (za (B 2) ze)))))))
   zx)
  (zd (zH (zq YQ (B 3) y8 (zB _)) (zd (zO (tJ (zA (B 0) Y) T.q0h (kK T) T.g33 hr zu (za (zw zT (B 3) zf) ze)))
  (zd (zO (wE bR mQ mR J1 (zA (B 0) Y) (za (sM (xq T) T.g24 hr zu (za (zA (B 0) Y) (za (zw zT (B 3) zf) ze))) (za (zw zT (B 3) zf) ze))))
  (zg (zp (zm zb4 (zY (za zE (za (B 1) ze))) (B 3))))))
   zx)
  (zd (zH (zq (zeG (zc2 hr)) (zA (B 0) Y) (yz ze) (zB _)) (zg (zp (tJ (B 0) T.q0b (X8 T) T.g37 hr zu (za (B 1) ze))))
    zx)
  (zg (zp (zY (za zE (za (B 1) ze)))))))))),ZY (dkF T) h⟩⟩
 obtain⟨d,a,lb,n,f,h,g,CC,S,rfl,_⟩:=h;rfl
theorem xQ:Ba P w K mg base 1 t.a39 t.d39 ["self","rank"] (yS t):=by
 refine T.g39.f.okA YA λvs H Q E h=>⟨?_,λ_ _ _ _ hr=>⟨jf K t,(zg (zp (xg (Vl Y) Y T.q0c wb (za (j9 (yE hr) (zA (B 0) Y) (B 1) j8 ⟨Y,Y,Y,Y⟩) ze)))),Z2 (mkF T) h⟩⟩;obtain⟨m,ac,F,g,lays,low,rfl,_⟩:=h;rfl
theorem YM:Ba P w K mg base 2 t.a40 t.d40 ["self","rank"] (xL t):=by
 refine T.g40.f.okA q12 λvs H Q E h=>⟨?_,λ_ _ _ _ hr=>⟨jg K t,(zd (zv q12.nd (tJ (B 0) T.q0d (xQ T) T.g39 hr zu (za (B 1) ze)))
  (zd (zO (QP (zA (B 0) Y) (B 1) y8 ⟨Y,Y,Y,Y⟩))
  (zg (xc cf Y (yU (B 2)) (yb q12.nd) (zg (zO (sM (Xx T) T.g32 hr zu (za (zA (B 0) Y) (za (B 3) (za (B 1) ze)))))))))),Z3 (mkF T) h⟩⟩
 obtain⟨m,ac,F,g,lays,low,rfl,_⟩:=h;rfl
theorem Wv:Ba P w K mg base 2 t.a41 t.d41 ["ranks_at","place","rank"] (jD):=by
 refine T.g41.f.okA q1e λvs H Q E h=>⟨?_,λ_ _ _ _ hr=>⟨Wr K t,(zd (zv q1e.nd (zeN (yE hr) (B 0) (B 1) (yz ze) ⟨Y,Y,Y,Y⟩))
  (zg (zO (wE bR mQ mR J1 (B 3) (za (sM (xq T) T.g24 hr zu (za (B 3) (za (B 2) ze))) (za (B 2) ze)))))),Qk h⟩⟩
 obtain⟨rk,pl,ac,G,P,kk,q0,rfl,_⟩:=h;rfl
theorem Qr:Ba P w K mg base 3 t.a42 t.d42 ["self","rank","gifts"] (Xb t):=by
 refine T.g42.f.okA q13 λvs H Q E h=>?_;obtain⟨m,ac,gv,F,g,lays,gs,rfl,h1,h2,h3,h4,h5,h6,q⟩:=h;exact⟨Y,λ_ _ _ _ hr=>⟨qq K t,(zd (zO (tJ (B 0) T.q0d (jp T) T.g23 hr zu (za (B 1) ze)))
  (zd (zO (tJ (B 0) T.q0d (YM T) T.g40 hr zu (za (B 1) ze)))
  (zd (zv q13.nd (xg (qB Y (hu3 hr)) Y T.q1m zcd (za (B 2) ze)))
  (zd (zhr (xc cf Y (zek (B 3)) (yb q13.nd) (zg (zO (sM (Wv T) T.g41 hr zu (za (zA (B 0) Y) (za (B 4) (za (B 1) ze))))))))
  (zg (x9 (yE hr) (zA (B 0) Y) (B 1) (B 3) Y)))))),Jt (mkF T) h1 h2 h3 h4 h5 h6 q⟩⟩
theorem Z5:Ba P w K mg base 2 t.a43 t.d43 ["self","place","rank"] (xD t):=by
 refine T.g43.f.okA q14 λvs H Q E h=>⟨?_,λ_ _ _ _ hr=>⟨vE K t,(zd (zv q14.nd (j9 (yE hr) (zA (B 0) Y) (B 1) (yz ze) ⟨Y,Y,Y,Y⟩))
  (zd (zv q14.nd (sM (xq T) T.g24 hr zu (za (B 3) (za (zm ya (B 2) zf) ze))))
  (zg (zp (vR (zq ym (B 4) (zD zX Y T.q04 yA (za (B 3) ze)) (zB _)) y8 (zw zM (B 3) (B 4))))))),ZC (mkF T) h⟩⟩
 obtain⟨m,p,ac,F,g,lays,q0,rfl,_⟩:=h;rfl
theorem Jz:Ba P w K mg base 3 t.a44 t.d44 ["self","place","rank"] (Z7 t):=by
 refine T.g44.f.okA q0o λvs H Q E h=>?_;obtain⟨⟨d,a,lb,n,f,wo,cs,ws,kv,la,db,en,g,lays,ld,CC⟩,p,ac,q0,rfl,h1,h2,h3,h4,q⟩:=h;exact⟨Y,λ_ _ _ _ hr=>⟨Yf K t,(zd (zv q0o.nd (j9 (yE hr) (zA (B 0) Y) (B 1) (yz ze) ⟨Y,Y,Y,Y⟩))
  (zd (zv q0o.nd (tJ (zA (B 0) Y) T.q0d (Z5 T) T.g43 hr zu (za (B 1) (za (B 2) ze))))
  (zd (zv q0o.nd (vR (zq Kq (B 4) y8 (zB _)) (zD zX Y T.q04 yA (za (B 3) ze)) (sM (xq T) T.g24 hr zu (za (B 3) (za (zm ya (B 4) zf) ze)))))
  (zg (xc cf Y (yU (xE ju (B 3) (xu (sM (xq T) T.g24 hr zu (za (B 3) (za (zm ya (B 2) zf) ze)))) (xu (B 5)))) (yb q0o.nd) (zg (x9 (yE hr) (zA (B 0) Y) (B 6) (vQ (b:=D)) Y))))))),VJ (dkF T) h1 h2 h3 h4 q⟩⟩
theorem X9:Ba P w K mg base 4 t.a45 t.d45 ["self","rank","paper"] (kD t):=by
 refine T.g45.f.okA q0p λvs H Q E h=>?_;obtain⟨⟨d,a,lb,n,f,wo,cs,ws,kv,la,db,en,g,lays,ld,CC⟩,r,ac,s,gi,rfl,h1,h2,h3,h4,h5,h6,h7,h8,h9,h10,q⟩:=h;exact⟨Y,λ_ _ _ _ hr=>⟨kH K t,(zd (zv q0p.nd (tJ (zA (B 0) Y) T.q0d (xQ T) T.g39 hr zu (za (B 1) ze)))
  (zd (zO (tJ (zA (B 0) Y) T.q0d (Qr T) T.g42 hr zu (za (B 1) (za (zw zT (B 2) zf) ze))))
  (zd (xc cf Y (yU (zm Yl (B 3) (tJ (zA (B 0) Y) T.q0d (xQ T) T.g39 hr zu (za (B 1) ze)))) (yb q0p.nd) (zg (zO (tJ (B 0) T.q0h (Jz T) T.g44 hr zu (za (B 4) (za (B 1) ze))))))
  (zd (x9 (yE hr) (zA (B 0) Y) (B 1) (B 2) Y)
  (zd (x9 (yE hr) (zA (B 0) Y) (B 1) (vQ (b:=D)) Y)
  (zg (xc cf Y (yU (zw zT (B 2) zf)) (XE Y (xn (yb q0p.nd) (xn (yb q0p.nd) ZI))) (zg (zO (sM (Wv T) T.g41 hr zu (za (zA (B 0) Y) (za (B 4) (za (B 1) ze))))))))))))),Xr (dkF T) h1 h2 h3 h4 h5 h6 h7 h8 h9 h10 q⟩⟩
theorem Xz:Ba P w K mg base 2 t.a46 t.d46 ["self"] (vK t):=by
 refine T.g46.f.okA q1f λvs H Q E h=>⟨?_,λ_ _ _ _ hr=>⟨Xg K t,(zd (zH (wI (yK (qZ (B 0) T.q05 (xX T) T.g14 hr zu))) (zg (zp y8))
   zx)
  (zd (zv q1f.nd (xg (Wz Y) Y T.q0c wb (za (zah (zA (B 0) Y)) ze)))
  (zd (zH (zq YQ (zA (B 0) Y) y8 (zB _)) (zg (zp (zY (za (zY (za zE (za (zA (B 0) Y) ze))) (za (B 1) (za (yz ze) ze))))))
    zx)
  (zg (zp (zY (za (zY (za zE (za (xg VY Y T.b_tuple YY (za (zA (B 0) Y) ze)) ze))) (za (B 1) (za (zD (Y5 Y (hu3 hr)) Y T.q0x ZO (za (zah (zA (B 0) Y)) ze)) ze))))))))),Jq (rnF T) h⟩⟩
 obtain⟨x,a,C,s,rfl,_⟩:=h;rfl
theorem XA:Ba P w K mg base 10 t.a47 t.d47 ["self","hand"] (vO t):=by
 refine T.g47.f.okA q0q λvs H Q E h=>⟨?_,λ_ _ _ _ hr=>⟨Xh K t,(zd (zH (PW.pt (qy (zq wD (B 1) zf (zB _)) (jM (zq zgK (B 1) (zA (B 0) Y) (zB _))))) (zg Qz)
   zx)
  (zd (zH (zq (Vf (yE hr)) (B 1) (zA (B 0) Y) (by with_unfolding_all rfl)) (zg (zp (tJ (B 0) T.q0b (YL T) T.g38 hr zu (za (B 1) ze))))
    zx)
  (zd (zv q0q.nd (zw zT (wW (yE hr) (zA (B 0) Y) (B 1) (λ_ _=>rfl)) zf))
  (zd (zv q0q.nd (zw zT (wW (yE hr) (zA (B 0) Y) (B 1) (λ_ _=>rfl)) zf))
  (zd (zH (yK (qZ (B 3) T.q05 (xX T) T.g14 hr zu)) (zd (zO (W2 (zA (B 0) Y) (B 1) ⟨Y,Y,Y,Y⟩))
  (zd (zO (tJ (zA (B 0) Y) T.q0h (X9 T) T.g45 hr zu (za (B 2) (za (qZ (B 3) T.q05 (Xz T) T.g46 hr zu) ze))))
  (zg (zp (zY (za zE (za (B 1) (za (B 2) ze))))))))
   zx)
  (zd (zv q0q.nd (qZ (B 3) T.q05 (Wt T) T.g22 hr zu))
  (zd (zH (zq Kq (B 4) y8 (zB _)) (zd (zO (J3 (B 3) T.q05 T.me_Run_step (sq.mono (jL T) ()) hr T.bd_Run_step zu))
  (zg (zp (zY (za zE (za (B 1) (za (B 2) ze)))))))
   zx)
  (zd (zv q0q.nd (tJ (zA (B 0) Y) T.q0d (Yi T) T.g25 hr zu (za (B 4) (za (B 2) ze))))
  (zd (zO (Ku (B 3) T.q05 T.me_Run_step (sq.mono (jL T) ()) hr T.q1k .nil zu (za (B 5) ze)))
  (zg (zp (zY (za zE (za (B 1) (za (B 2) (za (B 4) (za (B 5) ze))))))))))))))))),Jl (dkF T) h⟩⟩
 obtain⟨d,a,lb,n,f,h,g,CC,S,rfl,_⟩:=h;rfl
theorem VV:Ba P w K mg base 11 t.a48 t.d48 ["self"] (v7 t):=by
 refine T.g48.f.okA q1g λvs H Q E h=>⟨?_,λ_ _ _ _ hr=>⟨Zw K t,(zd (zv q1g.nd (yz ze))
  (zd (QA cf (zq wD (qZ (B 0) T.q0b (vB T) T.g12 hr zu) (qZ (B 0) T.q0b (jK T) T.g13 hr zu) (zB _)) (zg (zO (wE bR cp cq yX (B 1) (za (tJ (B 0) T.q0b (XA T) T.g47 hr zu (za (zm zQ (zD zX Y T.q04 yA (za (B 1) ze)) (zA (B 0) Y)) ze)) ze)))))
  (zg (zp (B 1))))),WN (dkF T) h⟩⟩
 obtain⟨d,a,lb,n,f,g,CC,S,J,rfl,_⟩:=h;rfl
theorem Qs:Ba P w K mg base 2 t.a49 t.d49 ["number","slots"] (qg):=by
 refine T.g49.f.okA q1h λvs H Q E h=>⟨?_,λ_ _ _ _ hr=>⟨qt K t,(zd (zv q1h.nd (zm zQ (B 0) zf))
  (zd (zH (zq wD (B 2) zf (zB _)) (zg (zp (zY (za (zm zQ (zm zU (B 0) zf) zf) ze))))
    zx)
  (zd (zH (zq ym (B 2) zf (zB _)) (zg (zp (zY (za (zw zM (B 1) (zm zQ (zm zU (B 0) zf) zf)) ze))))
    zx)
  (zd (zH (PW.pt (XD (zq ym (B 2) zf (zB _)) (ZH (zq ym (zm zQ (zm zU (B 0) zf) zf) zf (zB _))))) (zg (zp (zY (za zf (za (zw zM (B 1) (zm zQ (zm zU (B 0) zf) zf)) (za zE ze))))))
    zx)
  (zd (zH (zq ym (B 2) zf (zB _)) (zg (zp (zY (za (zw zM (B 1) (zm zQ (zm zU (B 0) zf) zf)) (za zf (za zE ze))))))
    zx)
  (zg (zp (zY (za (sM (wC T) T.g3 hr zu (za (zm zU (B 0) zf) ze)) ze))))))))),Ji h⟩⟩
 obtain⟨n,a,ws,rfl,_⟩:=h;rfl
theorem XB:Ba P w K mg base 2 t.a50 t.d50 ["number","slots"] (vM):=by
 refine T.g50.f.okA q15 λvs H Q E h=>⟨?_,λ_ _ _ _ hr=>⟨qu K t,(zd (zv q15.nd (yz (za zE (za zE (za zE (za zE (za zE (za zE (za zE ze)))))))))
  (zd (zv q15.nd (zm zQ (B 0) zf))
  (zd (zH (zq ym (B 3) zf (zB _)) (zg (zp (zY (za (sM (wC T) T.g3 hr zu (za (zm zU (B 0) zf) ze)) ze))))
    zx)
  (zd (zH (zq ym (B 3) zf (zB _)) (zg (zp (zY (za (zw zM (B 1) (zm zQ (zm zU (B 0) zf) zf)) ze))))
    zx)
  (zd (zH (zq ym (zm zQ (zm zU (B 0) zf) zf) zf (zB _)) (zg (zp (zY (za (zw zM (B 1) (zm zQ (zm zU (B 0) zf) zf)) (za (sM (wC T) T.g3 hr zu (za (zm zU (B 0) zf) ze)) (za (zw zM (B 2) (zm vT (B 3) zf)) ze))))))
    zx)
  (zg (zp (zY (za (zw zM (B 1) (zm zQ (zm zU (B 0) zf) zf)) (za (zw zM (B 1) (zm zQ (zm zU (B 0) zf) zf)) (za (zw zM (B 2) (zm vT (B 3) zf)) ze))))))))))),Jj h⟩⟩
 obtain⟨n,a,ws,rfl,_⟩:=h;rfl
theorem za9:Ba P w K mg base 3 t.a51 t.d51 ["xs","shelves","slots"] (Zk):=by
 refine T.g51.f.okA q0k λvs H Q E h=>⟨?_,λ_ _ _ _ hr=>⟨Zx K t,(zd (zv q0k.nd (zm zQ (zw zM (B 0) zf) zf))
  (zd (zv q0k.nd (zw zM (B 1) (zm zQ (zm zU (zw zM (B 0) zf) zf) zf)))
  (zd (zv q0k.nd (zw zM (B 2) (zm zQ (zm zU (zw zM (B 0) zf) zf) zf)))
  (zd (zv q0k.nd (sM (Qs T) T.g49 hr zu (za (zw zM (B 0) zf) (za (B 2) ze))))
  (zd (zv q0k.nd (sM (XB T) T.g50 hr zu (za (zw zM (B 0) zf) (za (B 2) ze))))
  (zd (zH (zq wD (B 3) zf (zB _)) (zg (zp (zY (za zE (za (B 4) (za (B 6) (za (B 5) ze)))))))
    zx)
  (zd (zH (zq wD (B 3) zf (zB _)) (zg (zp (zY (za zE (za (B 4) (za (B 6) (za (B 7) ze)))))))
    zx)
  (zd (zH (zq ym (B 3) zf (zB _)) (zg (zp (zY (za zE (za (B 5) (za (B 7) ze))))))
    zx)
  (zd (zH (zq ym (B 3) zf (zB _)) (zg (zp (zY (za zE (za (B 7) ze)))))
    zx)
  (zg (zp (zY (za zE (za (zY (za (B 5) (za (zm ya (zm zQ (zw zM (B 0) zf) zf) zf) (za zE ze)))) ze)))))))))))))),Qo h⟩⟩
 obtain⟨p,a,b,ds,us,ws,rfl,_⟩:=h;rfl
theorem Qt:Ba P w K mg base 4 t.a52 t.d52 ["cell","shelves","slots"] (qh):=by
 refine T.g52.f.okA q0g λvs H Q E h=>⟨?_,λ_ _ _ _ hr=>⟨Xi K t,(zd (XG (i:=3) q0g.nd Y (ph Y) (sM (jX T) T.g1 hr zu (za (B 0) (za zf ze))))
  (zd (kS (j:=4) q0g.nd Y Y (l8 Y) (osc:=zi jB) (N:=["cell","shelves","slots","xs","rows","at","to","row"]) (xs:=["k"]) (ix:=[3,1,2]) () (jY Y T.q0s (za (zm zQ (B 0) zf) ze)) (λ_ _ _ _=>(kM (i:=0) (show iF (["k","xs","shelves","slots"]:List Str) from ()) Y (l8 Y) (.inr Y))) (λ_ _ _ _=>ZN) (λ_ _ _ _=>(sM (za9 T) T.g51 hr zu (za (xE ju (B 1) (xu (zm wX zf (B 0))) (xu (zm ya (zm wX zf (B 0)) zf))) (za (B 2) (za (B 3) ze))))))
  (zd (zH (zq ym (zm zQ (zm zU (B 0) zf) zf) zf (zB _)) (zd (zv q0g.nd (zm zQ (zw zM (B 3) zf) (zm ya (zD zX Y T.q04 yA (za (B 4) ze)) zf)))
  (zd (zv q0g.nd (zm ya (B 5) (zm zQ (zw zM (B 3) zf) (zm vT (zm ya (zD zX Y T.q04 yA (za (B 4) ze)) zf) (B 5)))))
  (zd (zv q0g.nd (zY (za zE (za (sM (XB T) T.g50 hr zu (za (zw zM (B 3) zf) (za (B 2) ze))) (za (xE ju (B 4) (xu (B 5)) (xu (B 6))) (za (xE ju (B 4) ZK (xu (zm zQ (zw zM (B 3) zf) zf))) ze))))))
  (zg (zv q0g.nd (zm Yl (zm Yl (xE ju (B 4) ZK (xu (B 5))) (yz (za (B 7) ze))) (xE ju (B 4) (xu (B 6)) ZK)))))))
   zx)
  (zg (zp (B 4)))))),Jk h⟩⟩
 obtain⟨c,a,b,us,ws,rfl,_⟩:=h;rfl
theorem Ww:Ba P w K mg base 2 t.a53 t.d53 ["self","code"] (jE t):=by
 refine T.g53.f.okA q1i λvs H Q E h=>⟨?_,λ_ _ _ _ hr=>⟨Ws K t,(zd (zv q1i.nd (qZ (B 0) T.q0b (jK T) T.g13 hr zu))
  (zd (zO (wE bR cp cq yX (zA (B 0) Y) (za (xg x8 Y T.q0c wb (za (B 1) ze)) ze)))
  (zd (zO (wE bR cp cq yX (zA (B 0) Y) (za (B 2) ze)))
  (zg (zp (B 2)))))),Qe (dkF T) h⟩⟩
 obtain⟨d,v,a,lb,n,f,g,CC,C,S,rfl,_⟩:=h;rfl
theorem Qu:Ba P w K mg base 1 t.a54 t.d54 ["table","laid","place","rank"] (ql ):=by
 refine T.g54.f.okA q0l λvs H Q E h=>⟨?_,λ_ _ _ _ hr=>⟨Xj K t,(zd (xc cf Y (yU (zgb Y Y T.q0x ZO (za (B 1) ze))) (yb q0l.nd) (zg (zH (zq wD (B 4) (B 3) (zB _)) (zg (xc cf Y (yU (wW (yE hr) (B 1) (B 4) (λ_ _=>rfl))) (XE Y (xn (yb q0l.nd) (xn (yb q0l.nd) ZI))) (zg (zH (zq (zac (zc2 hr)) (B 5) (B 2) (zB _)) (zg (zp (B 6)))
   zx))))
   zx)))
  (zd (xc cf Y (yU (B 0)) (XE Y (xn (yb q0l.nd) (xn (yb q0l.nd) ZI))) (zg (zH (zq (zac (zc2 hr)) (B 5) (B 2) (zB _)) (zg (zp (B 6)))
    zx)))
  (zg (zp zf)))),Jp h⟩⟩
 obtain⟨tl,ll,p,ac,g,kv,rs,ls,lw,q0,rfl,_⟩:=h;rfl
theorem wZ:∀n,sq P w K mg base (tK P w) (1+n) t.a55 t.d55 ["found","due"] (y9 n):=by
 intro n;induction n with
 |zero=>exact⟨λvs H Q E h=>(ZE h).elim,λA outer s H args us vs Q E hr he hb hv h=>(ZE h).elim⟩
 |succ n IH =>
 refine T.g55.f.okA q16 (k:=1+n) λvs H Q E h=>?_;obtain⟨v,u,rfl,h1,q⟩:=h;exact⟨Y,λ_ _ _ _ hr=>⟨jW K t n,(zd (zH (PW.pt (qy (yK (zD yG Y T.q09 zP (za (B 1) (za (y6 Y T.q0c wb Y) ze)))) (jM (yK (zD yG Y T.q09 zP (za (B 1) (za (y6 Y T.b_tuple YY Y) ze))))))) (zd (zH (PW.pt (XD (wI (yK (zD yG Y T.q09 zP (za (B 0) (za (y6 Y T.q0c wb Y) ze))))) (ZH (wI (yK (zD yG Y T.q09 zP (za (B 0) (za (y6 Y T.b_tuple YY Y) ze)))))))) (zg (zp (vQ (b:=aq))))
   zx)
  (zd (zH (PW.pt (qy (zq WX (zD yG Y T.q09 zP (za (B 0) (za (y6 Y T.q0c wb Y) ze))) (zD yG Y T.q09 zP (za (B 1) (za (y6 Y T.q0c wb Y) ze))) (zB _)) (jM (zq WX (zD zX Y T.q04 yA (za (B 0) ze)) (zD zX Y T.q04 yA (za (B 1) ze)) (zB _))))) (zg (zp (vQ (b:=aq))))
    zx)
  (zd (xc cf Y (zhp Y T.b_zip (za (B 0) (za (B 1) ze))) (XE Y (xn (yb q16.nd) (xn (yb q16.nd) ZI))) (zg (zH (wI (yK (YR (sq.mono IH ()) hr Y T.g55.m T.g55.f.kp T.g55.b .nil zu (za (B 2) (za (B 3) ze))))) (zg (zp (vQ (b:=aq))))
    zx)))
  (zg (zp (vQ (b:=D)))))))
   zx)
  (zd (zH (yK (zD yG Y T.q09 zP (za (B 1) (za (y6 Y T.q0y KC Y) ze)))) (zg (zp (Kl (zD yG Y T.q09 zP (za (B 0) (za (y6 Y T.q0y KC Y) ze))) (Kk (jr ym (B 0) (B 1) (zB _))))))
    zx)
  (zg (zp (Kl (zD yG Y T.q09 zP (za (B 0) (za (y6 Y T.b_int KD Y) ze))) (Kl (zha (zD yG Y T.q09 zP (za (B 0) (za (y6 Y T.q18 KG Y) ze)))) (Kk (jr ym (B 0) (B 1) (zB _))))))))),VO (kf K) h1 q⟩⟩
theorem YN:Ba P w K mg base 10 t.a56 t.d56 ["row","hand","rank","run","table","laid"] (xl t):=by
 refine T.g56.f.okA q17 λvs H Q E h=>⟨?_,λ_ _ _ _ hr=>⟨ji K t,(zd (zH (yK (qZ (B 3) T.q05 (xX T) T.g14 hr zu)) (zd (x9 (yE hr) (B 5) (B 2) (zw zT (qZ (B 3) T.q05 (Xz T) T.g46 hr zu) zf) Y)
  (zg (zp (sM (wZ T 3) T.g55 hr zu (za (B 0) (za (zY (za zE (za (B 1) (za (B 2) ze)))) ze))))))
   zx)
  (zd (zv q17.nd (qZ (B 3) T.q05 (Wt T) T.g22 hr zu))
  (zd (zH (zq Kq (B 6) y8 (zB _)) (zd (zO (J3 (B 3) T.q05 T.me_Run_step (sq.mono (jL T) ()) hr T.bd_Run_step zu))
  (zg (zp (sM (wZ T 3) T.g55 hr zu (za (B 0) (za (zY (za zE (za (B 1) (za (B 2) ze)))) ze))))))
   zx)
  (zd (zv q17.nd (sM (Qu T) T.g54 hr zu (za (B 4) (za (B 5) (za (B 6) (za (B 2) ze))))))
  (zd (zO (Ku (B 3) T.q05 T.me_Run_step (sq.mono (jL T) ()) hr T.q1k .nil zu (za (B 7) ze)))
  (zg (zp (sM (wZ T 3) T.g55 hr zu (za (B 0) (za (zY (za zE (za (B 1) (za (B 2) (za (B 6) (za (B 7) ze)))))) ze)))))))))),ZZ h⟩⟩
 obtain⟨v,h,r,x,tl,ll,ra,C,s,j,e,g,kv,rs,ls,lw,rfl,_⟩:=h;rfl
theorem YO:Ba P w K mg base 5 t.a57 t.d57 ["row","hand","added","first"] (xN):=by
 refine T.g57.f.okA YB λvs H Q E h=>⟨?_,λ_ _ _ _ hr=>⟨xO K t,(zd (zH (PW.pt (qy (wI (yK (zD yG Y T.q09 zP (za (B 0) (za (y6 Y T.b_tuple YY Y) ze))))) (qy (zq wD (zD zX Y T.q04 yA (za (B 0) ze)) zf (zB _)) (jM (wI (yK (zD yG Y T.q09 zP (za (zw zT (B 0) zf) (za (y6 Y T.q0y KC Y) ze))))))))) (zg (zp (vQ (b:=aq))))
   zx)
  (zd (zH (PW.pt (qy (zq Ky (zw zT (B 0) zf) (zY (za zE (za zE (za zE (za zE ze))))) (by with_unfolding_all rfl)) (jM (wI (yK (sM (wZ T 3) T.g55 hr zu (za (zw zT (B 0) zf) (za (B 1) ze)))))))) (zg (zp (vQ (b:=aq))))
    zx)
  (zd (zH (zq ym (zw zT (B 0) zf) zE (zB _)) (zg (zp (jr ym (zD zX Y T.q04 yA (za (B 0) ze)) zf (zB _))))
    zx)
  (zd (zH (PW.pt (qy (zq wD (zD zX Y T.q04 yA (za (B 0) ze)) zf (zB _)) (qy (wI (yK (zD yG Y T.q09 zP (za (zw zT (B 0) zf) (za (y6 Y T.b_int KD Y) ze))))) (jM (yK (zD yG Y T.q09 zP (za (zw zT (B 0) zf) (za (y6 Y T.q18 KG Y) ze)))))))) (zg (zp (vQ (b:=aq))))
    zx)
  (zg (zp (Kl (QB zdE wD zf (zm vT (zw zT (B 0) zf) (B 3)) (B 2)) (Kk (jr ym (zD zX Y T.q04 yA (za (B 0) ze)) (zw zM (yz (za zf (za zf ze))) (xg QY Y T.b_int KD (za (jr ym (zw zT (B 0) zf) zE (zB _)) ze))) (zB _)))))))))),Z0 (kf K) h⟩⟩
 obtain⟨v,h,f,m,e,rfl,_⟩:=h;rfl
theorem jq:Ba P w K mg base 11 t.a58 t.d58 ["row","hand","codes","first","runs","ranks","table","laid"] (yT t):=by
 refine T.g58.f.okA q1j λvs H Q E h=>⟨?_,λ_ _ _ _ hr=>⟨jj K t,(zd (zH (zq YQ (zw zM (B 4) (B 1)) y8 (zB _)) (zd (zv q1j.nd (zw zM (B 4) (B 1)))
  (zd (zH (yK (qZ (B 8) T.q05 (xX T) T.g14 hr zu)) (zg (KS (B 4) (B 1) y8 Y))
    zx)
  (zg (zp (sM (YN T) T.g56 hr zu (za (B 0) (za (B 1) (za (zw zM (B 5) (B 1)) (za (B 8) (za (B 6) (za (B 7) ze)))))))))))
   zx)
  (zd (zH (wI (yK (sM (YO T) T.g57 hr zu (za (B 0) (za (B 1) (za (zD zX Y T.q04 yA (za (B 2) ze)) (za (B 3) ze))))))) (zg (zp (vQ (b:=aq))))
    zx)
  (zd (zH (zq ym (zw zT (B 0) zf) zE (zB _)) (zd (KS (B 4) (B 1) (ZJ T.mk_Run (sq.mono (Wu T) ()) hr Y T.g_Run T.q1l .nil zu (za (zw zM (B 2) (zm vT (zw zT (B 0) zf) (B 3))) ze)) Y)
  (zg (KS (B 5) (B 1) (zw zT (B 0) zf) Y)))
   zx)
  (zg (zp (vQ (b:=D))))))),Z1 h⟩⟩
 obtain⟨v,h,f,n,al,rl,kl,tl,ll,lw,cvs,g,CC,S,S2,e,rfl,_⟩:=h;rfl
theorem ok_law:Ba P w K mg base 16 t.a59 t.d59 ["script"] (sp_law K):=by
 refine T.q1v.ok0 q06 (λvs H Q E h=>?_) (λcdv A outer s H vs Q E hr h=>?_)
 ·obtain⟨a,ns,rfl,_⟩:=h;rfl
 exact⟨zeX K t,(zd (XG (i:=1) q06.nd Y (ph Y) (sM (Xv T) T.g2 hr zu (za (sM (yy T) T.g5 hr zu (za (B 0) (za zf ze))) ze)))
  (zd (XG (i:=2) q06.nd Y (ph Y) (sM (Xv T) T.g2 hr zu (za (sM (yy T) T.g5 hr zu (za (B 0) (za zf ze))) ze)))
  (zd (zv q06.nd (sM (Jv T) T.g4 hr zu (za (zm zU (sM (yy T) T.g5 hr zu (za (B 0) (za zf ze))) zf) (za (B 1) ze))))
  (zd (kS (j:=4) q06.nd Y Y (l8 Y) (osc:=zi Y6) (N:=["script","shelves","slots","table","codes","hands","way","first","desk","early","added","runs","ranks","laid","cell","hand","batch","code","row"]) (xs:=["cell"]) (ix:=[1,2]) () (yU (xE ju (B 0) (xu zf) (xu zf))) (λ_ _ _ _=>(kM (i:=0) (show iF (["cell","shelves","slots"]:List Str) from ()) Y (l8 Y) (.inr Y))) (λ_ _ _ _=>ZN) (λ_ _ _ _=>(sM (zbX T) T.g8 hr zu (za (sM (Qt T) T.g52 hr zu (za (B 0) (za (B 1) (za (B 2) ze)))) ze))))
  (zd (zv q06.nd (zm ya zf (zm zQ (sM (yy T) T.g5 hr zu (za (B 0) (za zf ze))) zf)))
  (zd (zv q06.nd (zar T.mo_Way Y T.g_Way))
  (zd (zH (zq ym (zm zQ (zm zU (sM (yy T) T.g5 hr zu (za (B 0) (za zf ze))) zf) zf) zf (zB _)) (zg (zv q06.nd (zar T.mo_Highest Y T.g_Highest)))
    zx)
  (zd (zv q06.nd zf)
  (zd (zH (zq ym (zm zQ (zm zU (sM (yy T) T.g5 hr zu (za (B 0) (za zf ze))) zf) zf) zf (zB _)) (zg (zv q06.nd (zeR T.mk_Desk (sq.mono (Xw T) ()) hr Y T.g_Desk T.bd_Desk_init zu (za (xg x8 Y T.q0c wb (za (B 3) ze)) (za (B 5) (za (B 6) ze))))))
    (zd (zv q06.nd (zm zQ (zm zf8 (zm zU (sM (yy T) T.g5 hr zu (za (B 0) (za zf ze))) zf) (zm Yj zf zf)) (zm vT (zm Yj zf zf) zf)))
  (zg (zv q06.nd (ZJ T.mk_Desk (sq.mono (Xw T) ()) hr Y T.g_Desk T.q1s .nil zu (za (xg x8 Y T.q0c wb (za (B 3) ze)) (za (B 5) (za (B 6) (za (B 7) ze)))))))))
  (zd (zv q06.nd (zm zQ (zm zU (sM (yy T) T.g5 hr zu (za (B 0) (za zf ze))) zf) (zm ya (zD zX Y T.q04 yA (za (B 4) ze)) zf)))
  (zd (zv q06.nd (yz ze))
  (zd (kS (j:=11) q06.nd Y Y (l8 Y) (osc:=zi Y6) (N:=["script","shelves","slots","table","codes","hands","way","first","desk","early","added","runs","ranks","laid","cell","hand","batch","code","row"]) (xs:=["k"]) (ix:=[]) () (jY Y T.q0s (za (B 5) ze)) (λ_ _ _ _=>(kM (i:=0) (show iF (["k"]:List Str) from ()) Y (l8 Y) (.inr Y))) (λ_ _ _ _=>ZN) (λ_ _ _ _=>y8))
  (zd (kS (j:=12) q06.nd Y Y (l8 Y) (osc:=zi Y6) (N:=["script","shelves","slots","table","codes","hands","way","first","desk","early","added","runs","ranks","laid","cell","hand","batch","code","row"]) (xs:=["k"]) (ix:=[]) () (jY Y T.q0s (za (B 5) ze)) (λ_ _ _ _=>(kM (i:=0) (show iF (["k"]:List Str) from ()) Y (l8 Y) (.inr Y))) (λ_ _ _ _=>ZN) (λ_ _ _ _=>zf))
  (zd (zv q06.nd j7)
  (zd (xc cf Y (yU (B 0)) (yb q06.nd) (zd (zH (PW.pt (XD (zq wD (zm zQ (B 14) zf) zf (zB _)) (ZH (zq wD (zD zX Y T.q04 yA (za (B 10) ze)) (B 9) (zB _))))) (zd (zO (wE bR cp cq yX (B 10) (za (zw zM (B 4) (zD zX Y T.q04 yA (za (B 10) ze))) ze)))
  (zg (zO (tJ (B 8) T.q0b (Ww T) T.g53 hr zu (za (zw zM (B 10) (zdC zbe zf)) ze)))))
   zx)
  (zd (zv q06.nd (zm zQ (zm zU (B 14) zf) (B 5)))
  (zg (zH (wI (yK (sM (jq T) T.g58 hr zu (za (tJ (B 8) T.q0b (XA T) T.g47 hr zu (za (B 15) ze)) (za (B 15) (za (B 10) (za (B 7) (za (B 11) (za (B 12) (za (B 3) (za (B 13) ze))))))))))) (zg (zp (vQ (b:=aq))))
    zx)))))
  (zd (xc cf Y (yU (yz (za (yz ze) (za (xE ju (B 4) (xu (zD zX Y T.q04 yA (za (B 10) ze))) ZK) ze)))) (yb q06.nd) (zd (xc cf Y (yU (B 16)) (yb q06.nd) (zd (zO (wE bR cp cq yX (B 10) (za (B 17) ze)))
  (zg (zO (tJ (B 8) T.q0b (Ww T) T.g53 hr zu (za (B 17) ze))))))
  (zd (zv q06.nd zf)
  (zg (xc cf Y (yU (qZ (B 8) T.q0b (VV T) T.g48 hr zu)) (yb q06.nd) (zd (zH (wI (yK (sM (jq T) T.g58 hr zu (za (B 18) (za (B 15) (za (B 10) (za (B 7) (za (B 11) (za (B 12) (za (B 3) (za (B 13) ze))))))))))) (zg (zp (vQ (b:=aq))))
    zx)
  (zg (zv q06.nd (zm zQ (zm ya (B 15) zf) (B 5))))))))))
  (zg (zp (jr ym (qZ (B 8) T.q0b (vB T) T.g12 hr zu) (zm ya (B 7) (zD zX Y T.q04 yA (za (B 4) ze))) (zB _)))))))))))))))))))),zgH (dkF T) h⟩
end
end K43
open PySem PySem.W PyProof.Rows
local macro_rules|`(#where)=>do
 let f:=λ(s:String)(l:List Nat)=>l.map λi=>Lean.Name.str `PySem.Challenge.cw_forerun_k43_what_is_read_is_seen_holds s!"{s}_{i}"
 return Lean.mkNullNode (←(f "heap" [39,46,701]++f "tree" [47,70,85,100,115,156,240,241,300,338,425,426,528,572,620,700]++f "view" [39]++f "sts" [49,71,86,101,116,157,241,243,301,339,426,428,529,573,621]++f "o" (List.range' 43 658)++f "env" [41]++[`PySem.Challenge.pw_forerun_k43_what_is_read_is_seen,`PySem.Challenge.rw_forerun_k43_what_is_read_is_seen]).toArray.mapM λn=>do return (←`(command|def $(Lean.mkIdent (.str `PySem.W.Fast s!"tw{n.hash}")):ident :=Nat)).raw)
#where
set_option maxRecDepth 100000 in
set_option maxHeartbeats 0 in
theorem PySem.Challenge.cw_forerun_k43_what_is_read_is_seen_holds : PySem.Challenge.rw_forerun_k43_what_is_read_is_seen.Holds := by
 w_on; o_law; k_head; (case hw => w_witness2)
 k_fill
 refine L2.walk_ofXB (l := PySem.Challenge.rw_forerun_k43_what_is_read_is_seen) (n := 63) (k := 16) (x := "script") (sp := K43.sp_law) Y (by decide) Y ⟨Y,by decide,by decide⟩ (fun w h Bl => PySem.W.kIn_of Bl) ?F ?S
 case F =>
  intro w mg fa h KX G hmg;have T : ∃ t,K43.Txt (L2.KOf KX) mg t := by
   dsimp only [L2.KOf];refine' K43.txt_mk KX G ?h0 ?h1 ?h2 ?h3 ?h4 ?h5 ?h6 ?h7 ?h8 ?qa9 ?qi9 ?ql9 ?qc9 ?qk9 ?qa10 ?qi10 ?ql10 ?qc10 ?qk10 ?qa11 ?qi11 ?ql11 ?qc11 ?qk11 ?qd11 ?h12 ?h13 ?h14 ?h15 ?h16 ?h17 ?h18 ?h19 ?h20 ?h21 ?h22 ?h23 ?h24 ?h25 ?h26 ?h27 ?h28 ?qa29 ?qi29 ?ql29 ?qc29 ?qk29 ?qd29 ?h30 ?h31 ?h32 ?h33 ?h34 ?h35 ?qa36 ?qi36 ?ql36 ?qc36 ?qk36 ?h37 ?h38 ?h39 ?h40 ?h41 ?h42 ?h43 ?h44 ?h45 ?h46 ?h47 ?h48 ?h49 ?h50 ?h51 ?h52 ?h53 ?h54 ?h55 ?h56 ?h57 ?h58 ?qa59 ?ql59 ?qc59 ?qk59 ?qz0 ?qz1 ?qz2 ?qz3 ?qz4 ?qz5 ?qz6 ?qz7 ?qz8 ?qz9 ?qz10 ?qg0 ?qh0 ?qv0 ?qv1 ?qv2 ?qv3 ?qv4 ?qv5 ?qv6 ?qv7 ?pg0 ?pd0 ?po0 ?pe0 ?pm0_ ?pk0 ?pn0_0 ?pn0_1 ?pn0_2 ?pn0_3 ?pn0_4 ?pn0_5 ?pn0_6 ?pn0_7 ?pn0_8 ?pi2 ?pg2 ?pd2 ?po2 ?pe2 ?pm2_ ?pk2 ?pg3 ?pd3 ?po3 ?pe3 ?pm3_ ?pk3 ?pn3_0 ?pn3_1 ?pn3_2 ?pn3_3 ?pg4 ?pd4 ?po4 ?pe4 ?pm4_ ?pk4 ?pn4_0 ?pn4_1 ?pn4_2 ?pn4_3 ?pg6 ?pd6 ?po6 ?pe6 ?pm6_ ?pk6 ?pn6_0 ?pn6_1 ?pn6_2 ?pn6_3 ?pn6_4 ?pn6_5 ?pn6_6 ?pi7 ?pg7 ?pd7 ?po7 ?pe7 ?pm7_ ?pk7 ?rx0 ?ry0 ?re0_0 ?re0_1 ?rm0_0 ?rx1 ?ry1 ?re1_0 ?re1_1 ?rm1_0
   (case qv0 | qv1 | qv2 | qv3 | qv4 | qv5 | qv6 | qv7 => k_is)
   (case h0 | h1 | h2 | h3 | h4 | h5 | h6 | h7 | h8 => exact ⟨_,by k_is,_,_,_,_,_,_,_,_,_,by k_is,by k_is,by k_is⟩)
   (case qa9 | qi9 | ql9 | qc9 | qk9 | qa10 | qi10 | ql10 | qc10 | qk10 | qa11 | qi11 | ql11 | qc11 | qk11 | qd11 => k_is)
   (case h12 | h13 | h14 => exact ⟨_,by k_is,by k_is,_,_,_,_,_,_,_,_,_,by k_is,by k_is,by k_is⟩)
   (case h15 | h16 | h17 | h18 | h19 => exact ⟨_,by k_is,_,_,_,_,_,_,_,_,_,by k_is,by k_is,by k_is⟩)
   (case h20 | h21 | h22 | h23 => exact ⟨_,by k_is,by k_is,_,_,_,_,_,_,_,_,_,by k_is,by k_is,by k_is⟩)
   (case h24 => exact ⟨_,by k_is,_,_,_,_,_,_,_,_,_,by k_is,by k_is,by k_is⟩)
   (case h25 | h26 | h27 | h28 => exact ⟨_,by k_is,by k_is,_,_,_,_,_,_,_,_,_,by k_is,by k_is,by k_is⟩)
   (case qa29 | qi29 | ql29 | qc29 | qk29 | qd29 => k_is)
   (case h30 | h31 => exact ⟨_,by k_is,by k_is,_,_,_,_,_,_,_,_,_,by k_is,by k_is,by k_is⟩)
   (case h32 => exact ⟨_,by k_is,_,_,_,_,_,_,_,_,_,by k_is,by k_is,by k_is⟩)
   (case h33 | h34 | h35 => exact ⟨_,by k_is,by k_is,_,_,_,_,_,_,_,_,_,by k_is,by k_is,by k_is⟩)
   (case qa36 | qi36 | ql36 | qc36 | qk36 => k_is)
   (case h37 | h38 | h39 | h40 => exact ⟨_,by k_is,by k_is,_,_,_,_,_,_,_,_,_,by k_is,by k_is,by k_is⟩)
   (case h41 => exact ⟨_,by k_is,_,_,_,_,_,_,_,_,_,by k_is,by k_is,by k_is⟩)
   (case h42 | h43 | h44 | h45 | h46 | h47 | h48 => exact ⟨_,by k_is,by k_is,_,_,_,_,_,_,_,_,_,by k_is,by k_is,by k_is⟩)
   (case h49 | h50 | h51 | h52 => exact ⟨_,by k_is,_,_,_,_,_,_,_,_,_,by k_is,by k_is,by k_is⟩)
   (case h53 => exact ⟨_,by k_is,by k_is,_,_,_,_,_,_,_,_,_,by k_is,by k_is,by k_is⟩)
   (case h54 | h55 | h56 | h57 | h58 => exact ⟨_,by k_is,_,_,_,_,_,_,_,_,_,by k_is,by k_is,by k_is⟩)
   (case qa59 | ql59 | qc59 | qk59 | qz0 | qz1 | qz2 | qz3 | qz4 | qz5 | qz6 | qz7 | qz8 | qz9 | qz10 | qg0 | qh0 | pg0 | pd0 | po0 | pe0 | pm0_ | pk0 | pn0_0 | pn0_1 | pn0_2 | pn0_3 | pn0_4 | pn0_5 | pn0_6 | pn0_7 | pn0_8 | pi2 | pg2 | pd2 | po2 | pe2 | pm2_ | pk2 | pg3 | pd3 | po3 | pe3 | pm3_ | pk3 | pn3_0 | pn3_1 | pn3_2 | pn3_3 | pg4 | pd4 | po4 | pe4 | pm4_ | pk4 | pn4_0 | pn4_1 | pn4_2 | pn4_3 | pg6 | pd6 | po6 | pe6 | pm6_ | pk6 | pn6_0 | pn6_1 | pn6_2 | pn6_3 | pn6_4 | pn6_5 | pn6_6 | pi7 | pg7 | pd7 | po7 | pe7 | pm7_ | pk7 => k_is)
   (case rx0 => k_exc)
   (case ry0 => exact ⟨_,by k_is,by k_is,by k_is,by k_is,by k_is,by k_is,by k_is,by k_is⟩)
   (case re0_0 | re0_1 | rm0_0 => kernel_rfl)
   (case rx1 => k_exc)
   (case ry1 => exact ⟨_,by k_is,by k_is,by k_is,by k_is,by k_is,by k_is,by k_is,by k_is⟩)
   (case re1_0 | re1_1 | rm1_0 => kernel_rfl)
  obtain ⟨t,T⟩ := T;have e0 := hmg.symm.trans T.m_law;cases e0;exact ⟨_,T.w_law,fun base _ _ => K43.ok_law T⟩
 case S => exact fun K H a ns hl hb _ hS => ⟨a,ns,rfl,hS,hl,hb,fun _ => rfl⟩
