import PyProof.Rows.All
import Wide.All
import OpenK.AllK
import PySem.Challenge.RW_forerun_k43_what_is_read_is_seen
open Array renaming getElem?_eq_getElem->cx,length_toList->cF,getElem?_toList->dC,perm_iff_toList_perm->gJ,getElem?_eq_none->iD,toList_inj->nH
open Array.Perm renaming mem_iff->pE,trans->rH,refl->rV
open Bool renaming false_ne_true->bM,and_eq_true->b6,false_eq_true->cE,not_eq_true'->dU,or_eq_false_iff->lq,eq_iff_iff->lL,eq_false_iff->mQ
open Classical renaming byContradiction->fC
open Decidable renaming byContradiction->mG
open False renaming elim->dn
open ForInStep renaming yield->gq
open Iff renaming rfl->rW
open Int renaming emod_lt_of_pos->cy,emod_nonneg->cO,toNat_natCast->eC,eq_ofNat_of_zero_le->iy,toNat_of_nonneg->lW,ne_of_lt->rB,zero_add->rC,le_refl->rY
open Int.ofNat renaming inj->sk
open List renaming getElem?_eq_getElem->bc,length_map->bg,mem_cons_of_mem->bh,getElem?_eq_some_iff->bn,mem_cons_self->bo,getElem?_cons_zero->br,mem_singleton->bt,mem_map_of_mem->bu,map_cons->bx,getElem?_map->bB,mem_append->bC,mem_map->bD,length_append->bE,mem_cons->bF,getElem?_cons_succ->bH,size_toArray->bJ,getD_eq_getElem?_getD->bO,mem_append_right->bR,map_append->bS,mem_of_getElem?->bV,length_cons->bY,append_nil->b9,nodup_cons->ca,replicate->cf,length->cp,lookup_cons->cq,mem_filter->cC,set_cons_zero->cH,nodup_nil->cI,length_take->cK,cons_append->cL,mem_append_left->cM,getElem?_eq_none->cN,take_of_length_le->cP,sum_cons->cQ,length_drop->cT,append_assoc->cU,set_cons_succ->cX,map->cY,getElem?_of_mem->cZ,lookup->de,nil_append->dh,getElem?_append_left->dq,take_add_one->dt,nodup_append->du,mem_of_mem_drop->dv,map_map->dE,filter_sublist->dF,filter_cons->dG,not_mem_nil->dH,mem_of_mem_take->dJ,range->dL,map_congr_left->dO,take_length->eu,pairwise_iff_getElem->eG,length_singleton->eJ,getElem_mem->eS,foldl_cons->eZ,getElem?_set_self->fc,getElem?_append_right->fh,take_append_drop->fm,getElem?_take->fq,getElem?_set_ne->fE,ext_getElem?->fK,length_range->fN,filter_cons_of_neg->fR,filter_cons_of_pos->fS,sum_append_nat->fT,eq_nil_of_length_eq_zero->fW,mem_filterMap->fZ,length_replicate->gm,find?_cons->gp,all_cons->gD,pairwise_map->gH,getElem?_inj->gI,pairwise_append->gL,any_eq_true->gS,eraseIdx_cons_succ->ii,eraseIdxIfInBounds_toArray->iK,Nodup->iM,drop_zero->iP,getElem_inj->i7,all_eq_true->i9,perm_cons_erase->lB,any_cons->lF,filterMap_cons->lK,getElem?_range->lQ,length_set->lV,drop_eq_getElem_cons->mE,getElem?_replicate->mY,map_drop->nE,map_take->nF,drop_eq_nil_of_le->nP,drop_of_length_le->nS,of_mem_zip->nX,length_nil->nY,length_filter_le->nZ,map_nil->n0,forIn_cons->n9,perm_append_comm->ou,mem_erase_of_ne->oE,reverse_append->oS,filter_eq_self->oV,pairwise_cons->pH,getElem?_drop->pK,erase_sublist->pL,take_sublist->pO,reverse_cons->pR,drop_sublist->pU,flatten_cons->pV,toArray->rf,reverse_nil->rE,zipIdx_cons->rF,nodup_range->rG,mem_reverse->rJ,perm_middle->rK,zipIdx_nil->rT,all_append->rX,sum_append->rZ,range_succ->r9
open List.Nodup renaming sublist->iA
open List.Pairwise renaming nil->fJ,imp->mR
open List.Perm renaming trans->ef
open List.Sublist renaming map->gU
open List.cons renaming injEq->bX
open Nat renaming le_refl->bp,le_trans->bP,zero_le->bW,lt_of_le_of_lt->bZ,ne_of_lt->b7,lt_of_lt_of_le->cg,le_succ_of_le->cu,reduceAdd->cz,reduceSub->cG,min_eq_left->eL,ne_of_gt->fi,lt_irrefl->fO,succ_le_succ->fV,le_add_right->gT,lt_or_ge->ib,min_eq_right->lh,eq_zero_or_pos->mx,lt_succ_self->nG,le_of_lt->nU,le_of_eq->nW,not_succ_le_self->oH,add_le_add_left->oP,add_assoc->pJ,lt_succ_of_lt->pP,lt_trans->p9,sub_zero->rc,zero_add->rA,le_succ->rQ
open Ne renaming symm->eP
open Option renaming map_eq_some_iff->b8,isSome_iff_exists->fI,map_some->ik,isSome_map->mJ,isNone_some->pI,getD_none->rD
open Option.some renaming injEq->bI,inj->bL
open Or renaming inl->mj,inr->pB
open Prod renaming ext->rL
open Prod.mk renaming inj->oU
open PyProof renaming noPylong_of_log2->mM
open PyProof.Rows renaming callWith_type1->gc,reads_newData->m8,subscriptTail_builtinR->nM,entry_list_sort->om,entry_proto_collect'->oC,slot_list_sort->oK,args_list_sort->oM,lt_int->oN,listUpdate_at->pF,plain_sorted->rj,entry_sorted->rm,args_sorted1->ro
open PySem renaming wpAny_bind->ba,wpAny_pure->bf,sizeLine_eq->bT,wpAny_call_entry->cV,wpAny_callSpecial?_slot->cW,wpAny_newObj_type->c8,wpAny_setField_rec->da,wpAny_holding->dM,wpAny_field->dP,wpAny_mono->dR,wpAny_dictEntries->dW,tupleKind_room_in1->dY,wpAny_typeNameOfWhole_itemiter->eN,wpAny_typeNameOfWhole_keyiter->eQ,wpAny_execs_nil->eX,mem_of_lookup->eY,codeAny_builtin->e9,wpAny_Call_Name_kw->fj,wpAny_notOrdered_dict->fo,wpAny_seqItems->fA,wpAny_typeNameOf_itemiter->fB,wpAny_truthy_bool->fG,wpAny_passesOwn->fH,wpAny_typeNameOf_keyiter->fM,codeAny_mono->gj,wpAny_dictEpoch->gA,wpAny_loadPart'->gB,wpAny_Call_method->gE,plainId_quiet->gG,wpAny_attempt->iu,wpAny_isOneOf_itemiter->iE,plainObj_wpAny_Assign_Attribute->iH,call_meets->iJ,slot_list_setitem->iO,wpAny_setField->iR,call_meetsIn->iU,codeAny_handlers_test->iZ,wpAny_execs_cons->i8,wpAny_rule->lI,wpAny_handleBy_cons->lS,wpAny_updateSeq->lT,wpAny_pyIter_tuple->l9,wpAny_fieldsOf->mC,call->mK,wpAny_comprehension_free->mL,wpAny_Call_method0_late->m3,wpAny_letGo->nh,wpAny_newList->nu,wpAny_listSubscript_int->nD,wpAny_isInstance->nI,wpAny_pyNext_list_item->nJ,wpAny_Assign_Subscript->nN,codeAny_handlers_suite->nQ,wpAny_pyNext_list_end->nV,wpAny_isOneOf_keyiter->on,size_of_entries->ot,wpAny_load->oy,typeIs_str->oz,wpAny_updateSeq_pair->oA,wpAny_pyIter_keyiter->oB,wpAny_updateDictKeys->oG,wpAny_newTuple->oI,isSubtype_stop->oJ,evalArgs_none->oO,wpAny_standAt->pq,wpAny_handled->pC,wpAny_onRaise->pD,wpAny_call->pN,Within->pW,seqIndex_neg->p8,wpAny_typeOf->rq
open PySem.Around renaming under_plainId->dI,under->pY
open PySem.Builtin.Dict renaming showsAll->gy,keyAndDefault->lZ,updateFrom->nA,takeOut->oF
open PySem.Builtin.Dict_items renaming ownsTuple->dX,ownedTupleFields->gX,ownedTupleIsFree->gY,pairFromOwner->iB
open PySem.Builtin.Int renaming intBits->dN,intTooBig->oq
open PySem.Builtin.List renaming listExtendWith->dD,listTooLong->gZ,listItems->iF,listSubscript?->lU,listSameRef->mT
open PySem.Builtin.SmallTypes renaming ownedTupleIsFree->dQ,nextOf->eE,ownedTupleHandOut->gQ
open PySem.Builtin.Str renaming occurrences->iq,strSliceIndices->lN,glued->mP,tooLong->oQ
open PySem.Calls renaming spliced_cons->c9,callWith_builtin->dy,evalArgs_plain->eo,spliced_nil->eW,Name_function_global->lX,call_function_entry->mz,Constant_str->oZ
open PySem.Code renaming isFrame->pZ
open PySem.F renaming plainAttrs_list->bU,slot_list_append->cA,type_list_append->cB,plainAttrs_dict->dZ,plain_extend_loop->eI,slot_dict_pop->eK,slot_dict_itemiterator_next->eR,slot_dict_keyiterator_next->eT,plain_list_iadd->fQ,entry_dict_pop->iC,args_dict_itemiterator_next_1->iN,slot_dict_get->iV,type_dict_pop->iW,args_dict_keyiterator_next_1->iY,entry_dict_itemiterator_next->i0,slot_list_pop->i3,type_list_pop->i4,entry_dict_keyiterator_next->lj,slot_dict_setdefault->lH,slot_zip_next->lP,plain_proto_collect->lR,slot_tuple_iterator_next->lY,entry_extend_loop->mD,args_tuple_add_2->mI,slot_list_remove->mU,type_list_remove->mV,slot_list_insert->mW,type_list_insert->mX,entry_tuple_add->mZ,args_dict_pop_2->m4,args_dict_pop_3->m5,args_dict_get_3->m6,slot_dict_items->nB,slot_tuple_add->nK,entry_dict_get->nO,slot_dict_items_iter->nR,plainAttrs_str->nT,slot_tuple_lt->oo
open PySem.Heap renaming get?_push_of_some->bd,get?_push_size->bG,lt_size->bQ,SameBut->cS,get?_update_other->eA,get?_update_self->eM,size_push->eU,ExtBut->rS
open PySem.Heap.SameBut renaming update->df
open PySem.NameKind renaming free->dz,cell->m7
open PySem.Obj renaming mapSeq->dA,data_mapDictKeys->gK,data_mapFields->ir,isFreed_of_fields->og,isFreed_of_dict->oW,cls_mapFields->pS
open PySem.Paired renaming length->bN
open PySem.PassesOwn renaming never->cw
open PySem.PyData renaming strOk->cr,canLay0->fu,depthAll->gu,canLayAll0->gF,eqv->iL,eqvAll->lG,depth->mq
open PySem.PyData.tuple renaming injEq->pG
open PySem.SeqAt renaming noMixAll->iQ,shaped->iX,noMix->oR
open PySem.SeqAt.EqAt renaming int_int->mf,str_str->mh,int_str->oX,str_int->oY
open PySem.Shared renaming TypeIs->si
open PySem.Spec renaming sameAll->mo,same->rR
open PySem.Str renaming ofString->bb,empty->gh,length->iI,length_append->mO
open PySem.Txt renaming slice->gP
open PySem.Value renaming ref->bK,none->cR,int->gM,str->ic,bool->iG,type->mH,float->rN
open PySem.W renaming Frag->bw,findIn->ck,emptyDict->eB,keepIn->eD,mg_none_of->eV,kitOne->fP,instObj->fU,hideAll_none->fY,hasDictIn->gg,plainGet->gC,hideAll->gN,kia_one->gO,nsIn->gR,plainOver->gW,makesIn->ie,codeIn->ig,exmOne->iS,fnOf->iT,funFrames_hide->lf,hideAll_get->lE,methodCall_KW->lM,of_hideAll->l8,callWith_K->ma,mg_of->mF,kas_place->oh,plainGet_of->ph,OpenLaw->pA,excIn->pQ,isFn->pX,exmAny->rM,methodObj->rO,specialIn->rP,lookIn->sd,Looks->se,mroIn->sf,WalkO->sg
open PySem.W.KatTups renaming cons->sq
open PySem.W.Looks renaming ld->pT
open Sum renaming inl->gb,inr->pM
open Sum.inl renaming inj->lJ
open True renaming intro->eO
open Bool renaming true->ah,false->aq
open Option renaming some->aa,none->ao
open PySem renaming Addr->ac,Value->af,Shared->am,Program->ax,Heap->ay,World->aA,Around->aB,Stmt->aC,Expr->aD,Scope->aE,Result->aF,sizeLine->Bb,FuncData->Bc,mainGlobals->Bd,starEach->Be,wpAny->Bf,model->Bg,bootBuiltins->Bh,compareOp->Bi
set_option Elab.async false
set_option linter.all false
set_option maxRecDepth 100000
theorem Bj{p:Prop}[Decidable p](h:p):decide p=true:=decide_eq_true h
theorem Bk{p:Prop}[Decidable p](h:¬p):decide p=false:=decide_eq_false h
local macro_rules|`(tactic|lia)=>`(tactic|first|with_reducible (first|assumption|exact Nat.le_refl _|exact Nat.zero_le _|exact Nat.le_of_lt ‹_›|exact Nat.le_succ_of_le ‹_›|exact Nat.le_trans ‹_› ‹_›|exact Nat.lt_of_lt_of_le ‹_› ‹_›|exact Nat.lt_of_le_of_lt ‹_› ‹_›|exact Nat.ne_of_gt ‹_›|exact Nat.ne_of_lt ‹_›|exact Int.le_of_lt ‹_›)|decide +kernel|(intro _ z;cases z;done)|(intro z;cases z;done))
theorem ap{c:Prop}{h:Decidable c}(n:¬c){α:Sort u}{t e:α}:ite c t e=e:=if_neg n
theorem au{c:Prop}{h:Decidable c}(n:c){α:Sort u}{t e:α}:ite c t e=t:=if_pos n
theorem av{α:Sort u}{p:α->Prop}{a:α}:(∃x,a=x/\p x)↔p a:=exists_eq_left'
theorem aw{α:Sort u}{p:α->Prop}{b:Prop}:(∃x,b/\p x)↔b/\∃x,p x:=exists_and_left
local macro_rules|`(())=>`(by lia)
theorem Y{α:Sort u}{a:α}:a=a:=rfl
namespace L2
open PySem PySem.Spec PyProof.Rows
abbrev bv:=Sum Int Str
def JT:bv->af->Bool
 |.inl k,v=>Value.isInt k v
 |.inr x,v=>Value.isStrOf x v
def ziM(w:aA):bv->Int
 |.inl k=>hashInt k
 |.inr x=>hashStr w x
theorem yw:∀ {k:bv} {v:af},JT k v=ah->(∃i t,k=gb i/\v=gM i t)\/(∃x t,k=pM x/\v=ic x t)
 |.inl i,v,h=>by
  obtain⟨t,e⟩:=Value.isInt_shape (k:=i) (v:=v) h;exact .inl ⟨i,t,Y,e⟩
 |.inr x,v,h=>by
  obtain⟨t,e⟩:=Value.isStrOf_shape (x:=x) (v:=v) h;exact .inr ⟨x,t,Y,e⟩
theorem zc2(i:Int)(t:Tok):JT (.inl i) (.int i t)=ah:=by simp[JT,Value.isInt]
theorem zc3(x:Str)(t:Tok):JT (.inr x) (.str x t)=ah:=by simp[JT,Value.isStrOf]
theorem zho(a b:Int):decide ((gb a:bv)=gb b)=(a==b):=by
 by_cases e:a=b
 ·subst e;simp
 ·have h:¬ (gb a:bv)=gb b:=λq=>e (lJ q);rw[Bk h];exact(beq_eq_false_iff_ne.mpr e).symm
theorem zhp(a b:Str):decide ((pM a:bv)=pM b)=decide (a=b):=by
 by_cases e:a=b
 ·subst e;simp
 ·have h:¬ (pM a:bv)=pM b:=λq=>e (Sum.inr.inj q);rw[Bk h,Bk e]
theorem zhq(a:Int)(b:Str):decide ((gb a:bv)=pM b)=aq:=Bk (λq=>nomatch q)
theorem zhr(a:Str)(b:Int):decide ((pM a:bv)=gb b)=aq:=Bk (λq=>nomatch q)
def yk(prog:ax)(w:aA):PySem.KeyKind prog w bv where
 is:=JT
 hash:=ziM w
 inj:=λv a b ha hb=>by
  rcases yw ha with ⟨i,t,rfl,rfl⟩|⟨x,t,rfl,rfl⟩
  ·rcases yw hb with ⟨j,u,rfl,e⟩|⟨y,u,rfl,e⟩
   ·injection e with e1 _;rw[e1]
   ·exact nomatch e
  ·rcases yw hb with ⟨j,u,rfl,e⟩|⟨y,u,rfl,e⟩
   ·exact nomatch e
   ·injection e with e1 _;rw[e1]
 byValue:=λk v h=>by
  rcases yw h with ⟨i,t,rfl,rfl⟩|⟨x,t,rfl,rfl⟩ <;> rfl
 pyHash:=λhv h=>by
  rcases yw hv with ⟨i,t,rfl,rfl⟩|⟨x,t,rfl,rfl⟩
  ·exact wpAny_pyHash_int h
  ·exact wpAny_pyHash_str h
 eqBool:=λhu hv h=>by
  rcases yw hu with ⟨i,t,rfl,rfl⟩|⟨x,t,rfl,rfl⟩
  ·rcases yw hv with ⟨j,u,rfl,rfl⟩|⟨y,u,rfl,rfl⟩
   ·rw[zho] at h;exact wpAny_eqBool_int h
   ·rw[zhq] at h;exact oX i t y u _ _ _ _ h
  ·rcases yw hv with ⟨j,u,rfl,rfl⟩|⟨y,u,rfl,rfl⟩
   ·rw[zhr] at h;exact oY x t j u _ _ _ _ h
   ·rw[zhp] at h;exact wpAny_eqBool_str h
 «strs»:=λk x t v h=>by
  rcases yw h with ⟨i,u,rfl,e⟩|⟨y,u,rfl,e⟩
  ·exact nomatch e
  ·injection e with e1 _;subst e1;cases v <;> rfl
theorem QW(prog:ax)(w:aA)(i:Int)(t:Tok):(yk prog w).is (.inl i) (.int i t)=ah:=zc2 i t
theorem QY(prog:ax)(w:aA)(x:Str)(t:Tok):(yk prog w).is (.inr x) (.str x t)=ah:=zc3 x t
inductive V where
 |non|bl (b:Bool)|int (i:Int)|str (x:Str)|byt (b:Array UInt8)|flt (b:UInt64)|ref (a:ac)|ty (n:String)
 deriving DecidableEq
def aZ:V->af->Prop
 |.non,u=>u=cR
 |.bl b,u=>u=iG b
 |.int i,u=>∃t,u=gM i t
 |.str x,u=>∃t,u=ic x t
 |.byt b,u=>∃t,u=Value.bytes b t
 |.flt b,u=>∃t,u=rN b t
 |.ref a,u=>u=bK a
 |.ty n,u=>u=mH n
abbrev aX:List V->List af->Prop:=Paired aZ
theorem aX.length(r:aX xs us):xs.length=us.length:=bN r
theorem aX.get:∀ {xs:List V} {us:List af} {i:Nat} {x:V},aX xs us->xs[i]?=aa x->∃u,us[i]?=aa u/\aZ x u
 |_,_,_,_,.nil,e=>by simp at e
 |_,_,0,_,.cons r _,e=>by simp at e;subst e;exact⟨_,Y,r⟩
 |_,_,i+1,x,.cons _ t,e=>by
  obtain⟨u,h1,h2⟩:=aX.get (i:=i) (x:=x) t (by simpa using e);exact⟨u,by simpa using h1,h2⟩
theorem aX.append:∀ {xs ys:List V} {us ws:List af},aX xs us->aX ys ws->aX (xs++ys) (us++ws)
 |_,_,_,_,.nil,s=>s
 |_,_,_,_,.cons r t,s=>.cons r (aX.append t s)
theorem aX.take:∀ {xs:List V} {us:List af} (n:Nat),aX xs us->aX (xs.take n) (us.take n)
 |_,_,0,_=>.nil
 |_,_,_+1,.nil=>.nil
 |_,_,n+1,.cons r t=>.cons r (aX.take n t)
theorem aX.drop:∀ {xs:List V} {us:List af} (n:Nat),aX xs us->aX (xs.drop n) (us.drop n)
 |_,_,0,r=>r
 |_,_,_+1,.nil=>.nil
 |_,_,n+1,.cons _ t=>aX.drop n t
def tj:Option V->Option af->Prop
 |some v,aa u=>aZ v u
 |none,ao=>True
 |_,_=>False
def KV{κ:Type}:List (κ×V)->List (κ×af)->Prop:=Paired λ(p:κ×V) (q:κ×af)=>p.1=q.1/\aZ p.2 q.2
def kV:bv->V
 |.inl i=>.int i
 |.inr x=>.str x
inductive HO where
  |lst (xs:List V)
  |tup (xs:List V)
  |dK (aO:List (bv×V))|dT (aO:List (List bv×V))
  |set (S:Int->Bool) (n:Nat)
  |ins (C dx:ac) (fs:List (Str×V))
  |own (x:ac)
  |xd (fs:List (Str×V))
  |met (f x:ac)
  |rng (lo hi:Int)
  |frz (o:Obj) (u:HO)
  |tbl (ps:Array af)
  |ext (φ:ay->Prop)
abbrev B:=ac->Option HO
def upd(H:B)(a:ac)(o:HO):B:=λb=>if b=a then aa o else H b
theorem ze{H:B} :upd H a o a=aa o:=by unfold upd;rw[au rfl]
theorem zh{H:B}(h:b≠a):upd H a o b=H b:=by unfold upd;rw[ap h]
theorem Xj{H:B} :upd (upd H a o) a u=upd H a u:=by
 funext b;unfold upd;split <;> rfl
theorem zD{H:B}(h:H a=aa o)(h':H b=aa u)(d:o≠u):a≠b:=by
 intro e;subst e;rw[h] at h';exact d (bL h')
theorem zo{H:B}(h:H a=aa o)(h':H b=ao):a≠b:=by
 intro e;subst e;rw[h] at h';cases h'
section
variable (P:ax)(w:aA)
def dl(H:B)(h:ay)(a:ac):HO->Prop
 |.lst xs=>xs.length<=Bb/\∃(its:List af) (n:Nat),aX xs its/\h.get? a=aa { cls:=.type "list",data:=.seq its.toArray n }
 |.tup xs=>xs.length<=Bb/\∃its:List af,aX xs its/\IsTup h a its.toArray
 |.dK aO=>aO.length<=Bb/\(a==sysModules)=aq/\∃vs,KV aO vs/\h.DictOf (yk P w) a vs
 |.dT aO=>aO.length<=Bb/\(a==sysModules)=aq/\∃xs:List (List bv×ac×af),
   Paired (λ(p:List bv×V) (q:List bv×ac×af)=>p.1=q.1/\H q.2.1=aa (.tup (p.1.map kV))/\aZ p.2 q.2.2) aO xs /\
   ∃o es ep,h.get? a=aa o/\o.ExactDict/\o.data=.dict es ep/\es.toList=xs.map (entryOfKey (tupleKind (yk P w)))/\(xs.map (·.1)).Nodup
 |.set S n=>h.SetOf (intKind P w) a S n
 |.ins C dx fs=>H dx=aa (.own a)/\fs.length<=1000/\dx≠a/\h.get? a=aa (fU C dx) /\
   ∃mA,h.Ns1 dx mA/\(∀f,tj (fs.lookup f) (mA f))/\pW mA (fs.map (·.1))
 |.own _=>∃o,h.get? a=aa o
 |.xd fs=>∃mA,h.Ns1 a mA/\∀f,tj (fs.lookup f) (mA f)
 |.rng lo hi=>∃t u v,h.get? a=aa { cls:=.type "range",data:=.fields #[.int lo t,.int hi u,.int 1 v] }
 |.frz o u=>h.get? a=aa o/\dl H h a u
 |.tbl ps=>h.get? a=aa { cls:=.none,data:=.fields ps }
 |.met f x=>h.get? a=aa (rO (.ref f) (.ref x))
 |.ext φ=>φ h/\(∃o,h.get? a=aa o)/\∀h1 h2:ay,φ h1->(∀o,h1.get? a=aa o->h2.get? a=aa o)->φ h2
def tM(H:B)(h:ay):Prop:=∀a o,H a=aa o->dl P w H h a o
end
section
variable {P:ax}{w:aA}{H H':B}{h h':ay}{a:ac}{o:HO}
theorem dl.lt(x:dl P w H h a o):a<h.objs.size:=by
 cases o with
 |lst xs=>obtain⟨_,_,_,_,e⟩:=x;exact bQ e
 |tup xs=>obtain⟨_,_,_,p⟩:=x;exact p.lt
 |dK aO=>obtain⟨_,_,_,_,o,_,_,e,_⟩:=x;exact bQ e
 |dT aO=>obtain⟨_,_,_,_,o,_,_,e,_⟩:=x;exact bQ e
 |set S n=>obtain⟨o,_,_,_,e,_⟩:=x;exact bQ e
 |ins C dx fs=>obtain⟨_,_,_,e,_⟩:=x;exact bQ e
 |own y=>obtain⟨_,e⟩:=x;exact bQ e
 |xd fs=>obtain⟨_,⟨_,_,_,e,_⟩,_⟩:=x;exact bQ e
 |rng lo hi=>obtain⟨_,_,_,e⟩:=x;exact bQ e
 |frz ob u=>obtain⟨e,_⟩:=x;exact bQ e
 |tbl ps=>exact bQ (show h.get? a=aa _ from x)
 |met f y=>exact bQ (show h.get? a=aa _ from x)
 |ext φ=>obtain⟨_,⟨_,e⟩,_⟩:=x;exact bQ e
theorem Paired.mapP{α β:Type}{F G:α->β->Prop}:∀ {l₁:List α} {l₂:List β},Paired F l₁ l₂->(∀a b,F a b->G a b)->Paired G l₁ l₂
 |_,_,.nil,_=>.nil
 |_,_,.cons r t,f=>.cons (f _ _ r) (Paired.mapP t f)
theorem dl.stay(x:dl P w H h a o)(k:∀b u,(b=a\/H b=aa (.own a))->h.get? b=aa u->h'.get? b=aa u)
  (ho:∀b,H b=aa (.own a)->H' b=aa (.own a)) (ht:∀b xs,H b=aa (.tup xs)->H' b=aa (.tup xs)):dl P w H' h' a o:=by
 induction o with
 |lst xs=>obtain⟨z,its,n,r,e⟩:=x;exact⟨z,its,n,r,k _ _ (.inl Y) e⟩
 |tup xs=>obtain⟨z,its,r,ob,e,c⟩:=x;exact⟨z,its,r,ob,k _ _ (.inl Y) e,c⟩
 |dK aO=>obtain⟨z,y,vs,r,ob,es,ep,e,c⟩:=x;exact⟨z,y,vs,r,ob,es,ep,k _ _ (.inl Y) e,c⟩
 |dT aO =>
  obtain⟨z,y,xs,r,ob,es,ep,e,c⟩:=x;exact⟨z,y,xs,Paired.mapP r λp q z=>⟨z.1,ht _ _ z.2.1,z.2.2⟩,ob,es,ep,k _ _ (.inl Y) e,c⟩
 |set S n=>obtain⟨ob,es,ep,t,e,c⟩:=x;exact⟨ob,es,ep,t,k _ _ (.inl Y) e,c⟩
 |ins C dx fs =>
  obtain⟨d,z,ne,e,mA,⟨od,es,ep,e2,c⟩,r⟩:=x;exact⟨ho _ d,z,ne,k _ _ (.inl Y) e,mA,⟨od,es,ep,k _ _ (.inr d) e2,c⟩,r⟩
 |own y=>obtain⟨ob,e⟩:=x;exact⟨ob,k _ _ (.inl Y) e⟩
 |xd fs=>obtain⟨mA,⟨od,es,ep,e,c⟩,r⟩:=x;exact⟨mA,⟨od,es,ep,k _ _ (.inl Y) e,c⟩,r⟩
 |rng lo hi=>obtain⟨t,u,v,e⟩:=x;exact⟨t,u,v,k _ _ (.inl Y) e⟩
 |frz ob u ih=>obtain⟨e,q⟩:=x;exact⟨k _ _ (.inl Y) e,ih q⟩
 |tbl ps =>
  have e:h.get? a=aa { cls:=.none,data:=.fields ps }:=x;show h'.get? a=aa { cls:=.none,data:=.fields ps };exact k a _ (.inl Y) e
 |met f y =>
  have e:h.get? a=aa (rO (.ref f) (.ref y)):=x;show h'.get? a=aa (rO (.ref f) (.ref y));exact k a _ (.inl Y) e
 |ext φ=>obtain⟨p,⟨o,e⟩,st⟩:=x;exact⟨st _ _ p λo q=>k _ _ (.inl Y) q,⟨o,k _ _ (.inl Y) e⟩,st⟩
theorem tM.lt(x:tM P w H h)(e:H a=aa o):a<h.objs.size:=(x a o e).lt
theorem tM.fresh(x:tM P w H h)(e:h.objs.size<=a):H a=ao:=by
 cases q:H a with
 |none=>rfl
 |some u=>exact absurd (cg (x.lt q) e) (fO _)
theorem tM.kept(x:tM P w H h)(k:∀b u,h.get? b=aa u->h'.get? b=aa u):tM P w H h':=λa o e =>
 (x a o e).stay (λb u _ q=>k b u q) (λ_ q=>q) λ_ _ q=>q
theorem tM.laid(x:tM P w H h)(k:∀b u,h.get? b=aa u->h'.get? b=aa u)(hp:h.objs.size<=a)(new:dl P w (upd H a o) h' a o):tM P w (upd H a o) h':=λb u e=>by
 have hn:=x.fresh hp;by_cases hb:b=a
 ·subst hb;rw[ze] at e;cases e;exact new
 ·rw[zh hb] at e;exact(x b u e).stay (λc v _ q=>k c v q) (λc q=>by rw[zh (zo q hn)];exact q) λc xs q=>by rw[zh (zo q hn)];exact q
end
def Rd(H:B)(a:ac)(u:HO):Prop:=H a=aa u\/∃o,H a=aa (.frz o u)
theorem Rd.ok{H:B}(r:Rd H a u)(x:tM P w H h):dl P w H h a u:=by
 rcases r with r|⟨o,r⟩
 ·exact x a u r
 ·obtain⟨_,q⟩:=x a _ r;exact q
def Mut:Option HO->Prop
 |some (.lst _)=>True
 |some (.dK _)=>True
 |some (.dT _)=>True
 |some (.set _ _)=>True
 |some (.ins _ _ _)=>True
 |some (.ext _)=>True
 |_=>False
section
variable {P:ax}{w:aA}{H:B}{h h':ay}{x e:ac}{o':HO}
theorem tM.write(ok:tM P w H h)(mu:Mut (H x))(he:e=x\/H e=aa (.own x))(k:∀b u,b≠e->h.get? b=aa u->h'.get? b=aa u)(heo:∃u,h'.get? e=aa u)
  (new:dl P w (upd H x o') h' x o'):tM P w (upd H x o') h':=λb u q=>by
 have nown:∀c y,H c=aa (.own y)->c≠x:=λc y r z=>by subst z;rw[r] at mu;exact mu
 have ntup:∀c xs,H c=aa (.tup xs)->c≠x:=λc xs r z=>by subst z;rw[r] at mu;exact mu
 by_cases hb:b=x
 ·subst hb;rw[ze] at q;cases q;exact new
 ·rw[zh hb] at q;by_cases hbe:b=e
  ·have q':H b=aa (.own x):=by
    rcases he with z|z
    ·exact absurd (hbe.trans z) hb
    ·rw[hbe];exact z
   rw[q] at q';cases q';obtain⟨v,hv⟩:=heo;exact⟨v,by rw[hbe];exact hv⟩
  ·refine(ok b u q).stay (λc v hc r=>k c v ?_ r) (λc r=>by rw[zh (nown c b r)];exact r) λc xs r=>by rw[zh (ntup c xs r)];exact r
   rcases hc with rfl|hc
   ·exact hbe
   ·rintro rfl;rcases he with z|z
    ·exact nown c b hc z
    ·rw[hc] at z;cases z;exact hb rfl
end
structure Un(fs ex:List ac)(H H':B)(h h':ay):Prop where
 keep:∀b o,h.get? b=aa o->H b=ao->b ∉ fs->b ∉ ex->h'.get? b=aa o
 slot:∀b o,h.get? b=aa o->H b=ao->b∈fs->b ∉ ex->∃sl,h'.get? b=aa { o with slots:=sl }
 free:∀b o,h.get? b=aa o->H b=ao->b ∉ ex->H' b=ao
 there:∀b o,h.get? b=aa o->b ∉ ex->∃o',h'.get? b=aa o'
 tups:∀b xs,H b=aa (.tup xs)->H' b=aa (.tup xs)
 frzs:∀b o u,H b=aa (.frz o u)->H' b=aa (.frz o u)
 tbls:∀b ps,H b=aa (.tbl ps)->∃more,H' b=aa (.tbl (ps++more))
section
variable {fs fs' ex ex':List ac}{H H1 H2:B}{h h1 h2 h':ay}{a x e:ac}{o:HO}
theorem Un.any(u:Un fs ex H H1 h h1)(q:h.get? b=aa ob)(n:H b=ao)(hx:b ∉ ex):∃sl,h1.get? b=aa { ob with slots:=sl }:=by
 by_cases hb:b∈fs
 ·exact u.slot b ob q n hb hx
 ·exact⟨ob.slots,u.keep b ob q n hb hx⟩
theorem Un.kept(k:∀b u,h.get? b=aa u->h'.get? b=aa u):Un fs ex H H h h' :=
 ⟨λb ob q _ _ _=>k b ob q,λb ob q _ _ _=>⟨ob.slots,k b ob q⟩,λ_ _ _ n _=>n,λb ob q _=>⟨ob,k b ob q⟩,λ_ _ q=>q,λ_ _ _ q=>q,λ_ ps q=>⟨#[],by rw[q];simp⟩⟩
theorem Un.refl:Un fs ex H H h h:=Un.kept λ_ _ q=>q
theorem Un.laid(k:∀b u,h.get? b=aa u->h'.get? b=aa u)(hp:h.objs.size<=a)(hn:H a=ao):Un fs ex H (upd H a o) h h' where
 keep:=λb u q _ _ _=>k b u q
 slot:=λb u q _ _ _=>⟨u.slots,k b u q⟩
 free:=λb u q n _=>by rw[zh (b7 (cg (bQ q) hp))];exact n
 there:=λb u q _=>⟨u,k b u q⟩
 tups:=λb xs q=>by rw[zh (zo q hn)];exact q
 frzs:=λb u xs q=>by rw[zh (zo q hn)];exact q
 tbls:=λb ps q=>⟨#[],by rw[zh (zo q hn),q];simp⟩
theorem Un.write(mu:Mut (H x))(he:e=x\/H e=aa (.own x))(k:∀b u,b≠e->h.get? b=aa u->h'.get? b=aa u)(heo:∃u,h'.get? e=aa u):Un fs ex H (upd H x o) h h':=by
 have hx:∀b,H b=ao->b≠x:=λb n z=>by subst z;rw[n] at mu;exact mu
 have hb:∀b,H b=ao->b≠e:=λb n z=>by
  subst z;rcases he with r|r
  ·exact hx b n r
  ·rw[n] at r;cases r
 have hm:∀b u,H b=aa u->¬ Mut (aa u)->b≠x:=λb u q nm z=>by subst z;rw[q] at mu;exact nm mu
 refine⟨λb u q n _ _=>k b u (hb b n) q,λb u q n _ _=>⟨u.slots,k b u (hb b n) q⟩,λb u q n _=>by rw[zh (hx b n)];exact n,λb u q _=>?_,
  λb xs q=>by rw[zh (hm b _ q λz=>z)];exact q,λb u xs q=>by rw[zh (hm b _ q λz=>z)];exact q,λb ps q=>⟨#[],by rw[zh (hm b _ q λz=>z),q];simp⟩⟩
 by_cases hbe:b=e
 ·subst hbe;exact heo
 ·exact⟨u,k b u hbe q⟩
end
def trk(h:ay)(H:B):List ac:=(dL h.objs.size).filter λa=>(H a).isSome
def KB(h:ay)(H:B):ay:=gN h (trk h H)
theorem zc4(h:ay)(H:B):(KB h H).objs.size=h.objs.size:=W.hideAll_size _ _
theorem zdU{H:B}(e:h.get? b=aa o)(n:H b=ao):(KB h H).get? b=aa o:=
 lE _ e λhm=>by
  have q:(H b).isSome=ah:=(cC.mp hm).2;rw[n] at q;simp at q
theorem zfT{H:B}(e:(KB h H).get? b=aa o):h.get? b=aa o/\H b=ao:=by
 have e':h.get? b=aa o:=l8 (trk h H) e;refine⟨e',?_⟩;cases q:H b with
 |none=>rfl
 |some x =>
  have hm:b∈trk h H:=cC.mpr ⟨List.mem_range.mpr (bQ e'),by simp[q]⟩;have z:(KB h H).get? b=ao:=fY (trk h H) hm;rw[z] at e;cases e
def zfU(g h:ay)(Bp:ac):List (ac×Obj):=(dL h.objs.size).filterMap λa=>if a=Bp\/(g.get? a).isSome=ah then ao else (h.get? a).map λo=>(a,o)
def rest(g h:ay)(Bp d:ac):List (ac×Obj):=(zfU g h Bp).filter λp=>decide (p.1≠d)
structure Mod(K:bw)(mg:Str->Option af)(base:ay):Prop where
 kin:K.In base
 glob:base.Ns Bd mg
 blt:∃mb,base.Ns builtinsNs mb/\∀x:Str,x≠"__name__"->mb x=Bh x
 nolimit:base.NoLimit
set_option genSizeOf false in
set_option genInjectivity false in
structure Cx where
 prog:ax
 w:aA
 K:bw
 mg:Str->Option af
 base:ay
 A:aB
 N:List Str
 s₀:am
 H₀:B
 env:Env
 outer:List Env
 stack:List Env
 ex:List ac
 fn:Str->Bool
 calm:Bool
 pn:List (ac×Obj)
 xe:af->am->Prop
def tz(l:List Env):List ac:=l.filterMap (·.frame)
abbrev Cx.fs(X:Cx):List ac:=tz X.outer
def Vis(sc:aE)(x:Str):Prop:=sc.names.lookup x=aa .local\/sc.names.lookup x=aa .cell\/sc.names.lookup x=aa .free
def Loc(sc:aE)(x:Str):Prop:=sc.names.lookup x=aa .local\/sc.names.lookup x=aa .cell
def ziN(env:Env)(h:ay)(m:Str->Option af)(x:Str)(u:af):Prop :=
 (env.kindOf x=aa .local/\m x=aa u)\/((env.kindOf x=aa .cell\/env.kindOf x=aa .free)/\∃c,env.cells.lookup x=aa c/\h.IsCell c (aa u))
structure Cx.Ok(X:Cx):Prop where
 mod:Mod X.K X.mg X.base
 kind:X.env.scope.kind=.function
 glob:X.env.globals=Bd
 blt:X.env.builtins=builtinsNs
 above:X.s₀.heap.objs.size<=X.env.locals
 inj:∀x y c,X.env.cells.lookup x=aa c->X.env.cells.lookup y=aa c->x=y
 has:∀x,(X.env.kindOf x=aa .cell\/X.env.kindOf x=aa .free)->∃c,X.env.cells.lookup x=aa c
 cab:∀x c,X.fn x=ah->X.env.cells.lookup x=aa c->X.s₀.heap.objs.size<=c
 hd:X.calm=ah->X.A.handled=ao
 frames:X.A.frames=aa X.stack
 stk:X.stack=X.outer\/(X.stack=X.env::X.outer/\X.env.frame=aa X.env.locals)
 exf:∀b∈X.ex,b≠X.env.locals/\∀x c,X.env.cells.lookup x=aa c->c≠b
 bs:∀b o,X.base.get? b=aa o->X.s₀.heap.get? b=aa o/\X.H₀ b=ao
 bsz:X.base.objs.size<=X.s₀.heap.objs.size
 noex:∀b o,X.base.get? b=aa o->b ∉ X.ex
 exfs:∀b∈X.ex,b ∉ X.fs
 funs:X.s₀.heap.FunFrames X.base X.outer
 frf:∀b∈X.fs,X.H₀ b=ao
structure aU(X:Cx)(aM:List (ac×Obj))(σ:List (Option V))(H:B)(s:am):Prop where
 ok:X.Ok
 os:s.os=X.s₀.os
 bare:AllBare s.gens
 base:Un X.fs X.ex X.H₀ H X.s₀.heap s.heap
 loc:∃m,s.heap.Ns X.env.locals m/\∀(i:Nat) (x:Str) (v:V),X.N[i]?=aa x->σ[i]?=aa (aa v)->Vis X.env.scope x->∃u,aZ v u/\ziN X.env s.heap m x u
 cell:∀x c,X.env.cells.lookup x=aa c->∃v,s.heap.IsCell c v
 free:H X.env.locals=ao
 freeC:∀x c,X.env.cells.lookup x=aa c->H c=ao
 pin:∀p∈X.pn++aM,s.heap.get? p.1=aa p.2/\H p.1=ao/\p.1≠X.env.locals/\p.1 ∉ X.fs/\∀v,p.2.data≠.cell v
 hok:tM X.prog X.w H s.heap
 len:σ.length=X.N.length
section
variable {X:Cx}{aM:List (ac×Obj)}{σ:List (Option V)}{H H':B}{s:am}{h':ay}
theorem Cx.Ok.nofr(ok:X.Ok)(e:X.base.get? b=aa o):b ∉ X.fs:=λhb=>by
 have:=(ok.funs.mem hb).1;rw[e] at this;cases this
theorem aU.bs(I:aU X aM σ H s):∀b o,X.base.get? b=aa o->s.heap.get? b=aa o/\H b=ao:=λb o e =>
 ⟨I.base.keep b o (I.ok.bs b o e).1 (I.ok.bs b o e).2 (I.ok.nofr e) (I.ok.noex b o e),I.base.free b o (I.ok.bs b o e).1 (I.ok.bs b o e).2 (I.ok.noex b o e)⟩
theorem aU.bk(I:aU X aM σ H s):∀b o,X.base.get? b=aa o->s.heap.get? b=aa o:=λb o e=>(I.bs b o e).1
theorem aU.mod(I:aU X aM σ H s):Mod X.K X.mg X.base:=I.ok.mod
theorem aU.kIn(I:aU X aM σ H s):X.K.In s.heap:=I.ok.mod.kin.keeps I.bk
theorem aU.lt(I:aU X aM σ H s):X.env.locals<s.heap.objs.size:=let ⟨_,hn,_⟩:=I.loc;hn.lt
theorem aU.sz(I:aU X aM σ H s):X.s₀.heap.objs.size<=s.heap.objs.size:=bP I.ok.above (nU I.lt)
theorem aU.nofs(I:aU X aM σ H s){a:ac}(h:s.heap.objs.size<=a):a ∉ X.fs:=λhb=>by
 obtain⟨_,o,ho,_⟩:=I.ok.funs.mem hb;exact absurd (cg (bQ ho) (bP I.sz h)) (fO _)
theorem aU.cne(I:aU X aM σ H s):∀x c,X.env.cells.lookup x=aa c->c≠X.env.locals:=λx c e z=>by
 obtain⟨v,o,ho,hd⟩:=I.cell x c e;obtain⟨m,⟨o',es,ep,ho',hd',_⟩,_⟩:=I.loc;rw[z,ho'] at ho;cases ho;rw[hd'] at hd;cases hd
theorem aU.funs(I:aU X aM σ H s):s.heap.FunFrames X.base X.outer:=by
 have all:∀(l:List Env),(∀b∈tz l,b∈X.fs)->X.s₀.heap.FunFrames X.base l->s.heap.FunFrames X.base l:=by
  intro l;induction l with
  |nil=>intro _ _;trivial
  |cons env r ih =>
   intro hs hl;obtain⟨hk,⟨Bp,o,hf,hn,ho,hd⟩,hr⟩:=hl;have hL:Bp∈X.fs:=hs Bp (by unfold tz;rw[lK,hf];exact bo);obtain⟨sl,e⟩:=I.base.slot Bp o ho (I.ok.frf Bp hL) hL λz=>I.ok.exfs Bp z hL;exact⟨hk,⟨Bp,_,hf,hn,e,hd⟩,ih (λb hb=>hs b (by unfold tz;rw[lK,hf];exact bh _ hb)) hr⟩
 exact all X.outer (λ_ hb=>hb) I.ok.funs
theorem aU.stack(I:aU X aM σ H s):s.heap.FunFrames X.base X.stack:=by
 rcases I.ok.stk with e|⟨e,hf⟩
 ·rw[e];exact I.funs
 ·rw[e];obtain⟨m,hn,_⟩:=I.loc;refine .cons (by rw[I.ok.kind];decide) hf hn ?_ I.funs;exact Heap.get?_none_of_le (bP I.ok.bsz I.ok.above)
theorem aU.stkSub(I:aU X aM σ H s):∀b∈tz X.stack,b∈X.env.locals::X.fs:=λb hb=>by
 rcases I.ok.stk with e|⟨e,hf⟩
 ·rw[e] at hb;exact bh _ hb
 ·rw[e] at hb;unfold tz at hb;rw[lK,hf] at hb;exact hb
theorem aU.stkFree(I:aU X aM σ H s):∀b∈tz X.stack,H b=ao:=λb hb=>by
 rcases bF.mp (I.stkSub b hb) with e|hb
 ·rw[e];exact I.free
 ·obtain⟨_,o,ho,_⟩:=I.ok.funs.mem hb;exact I.base.free b o ho (I.ok.frf b hb) λz=>I.ok.exfs b z hb
theorem aU.step{t':Nat}{d':Drawn}{ch:List ac}(I:aU X aM σ H s)
  (hch:∀b∈ch,(b∈X.ex\/X.s₀.heap.objs.size<=b)/\b≠X.env.locals/\(∀x c,X.env.cells.lookup x=aa c->c≠b)/\∀p∈X.pn++aM,p.1≠b)
  (keep:∀b o,b≠X.env.locals->b ∉ X.fs->b ∉ ch->s.heap.get? b=aa o->H b=ao->h'.get? b=aa o)
  (slot:∀b o,b≠X.env.locals->b∈X.fs->b ∉ ch->s.heap.get? b=aa o->H b=ao->∃sl,h'.get? b=aa { o with slots:=sl }) (free:∀b o,b ∉ ch->s.heap.get? b=aa o->H b=ao->H' b=ao)
  (there:∀b o,b ∉ ch->s.heap.get? b=aa o->∃o',h'.get? b=aa o')
  (tups:∀b xs,H b=aa (.tup xs)->H' b=aa (.tup xs)) (frzs:∀b o u,H b=aa (.frz o u)->H' b=aa (.frz o u)) (tbls:∀b ps,H b=aa (.tbl ps)->∃more,H' b=aa (.tbl (ps++more)))
  (ns:∀m,s.heap.Ns X.env.locals m->h'.Ns X.env.locals m) (hok:tM X.prog X.w H' h') (hg:AllBare g') :
  aU X aM σ H' { s with heap:=h',gens:=g',drawn:=d',toks:=t' }:=by
 have neL:∀b o,X.s₀.heap.get? b=aa o->b≠X.env.locals:=λb o e=>b7 (cg (bQ e) I.ok.above);have neC:∀b o,X.s₀.heap.get? b=aa o->b ∉ X.ex->b ∉ ch:=λb o e hx hb=>by
  rcases(hch b hb).1 with z|z
  ·exact hx z
  ·exact absurd (cg (bQ e) z) (fO _)
 have cellK:∀x c,X.env.cells.lookup x=aa c->∀v,s.heap.IsCell c v->h'.IsCell c v:=λx c e v ⟨o,ho,hd⟩=>by
  have nch:c ∉ ch:=λz=>(hch c z).2.2.1 x c e rfl;by_cases hc:c∈X.fs
  ·obtain⟨sl,q⟩:=slot c o (I.cne x c e) hc nch ho (I.freeC x c e);exact⟨_,q,hd⟩
  ·exact⟨o,keep c o (I.cne x c e) hc nch ho (I.freeC x c e),hd⟩
 refine⟨I.ok,I.os,hg,⟨λb o e n hb hx=>?_,λb o e n hb hx=>?_,λb o e n hx=>?_,λb o e hx=>?_,λb xs e=>tups b xs (I.base.tups b xs e),λb o xs e=>frzs b o xs (I.base.frzs b o xs e),λb ps e=>?_⟩,?_,λx c e=>?_,?_,λx c e=>?_,λp hp=>?_,hok,I.len⟩
 ·exact keep b o (neL b o e) hb (neC b o e hx) (I.base.keep b o e n hb hx) (I.base.free b o e n hx)
 ·obtain⟨sl,e1⟩:=I.base.slot b o e n hb hx;obtain⟨sl',e2⟩:=slot b _ (neL b o e) hb (neC b o e hx) e1 (I.base.free b o e n hx);exact⟨sl',e2⟩
 ·obtain⟨o',e1⟩:=I.base.there b o e hx;exact free b o' (neC b o e hx) e1 (I.base.free b o e n hx)
 ·obtain⟨o',e1⟩:=I.base.there b o e hx;exact there b o' (neC b o e hx) e1
 ·obtain⟨m1,e1⟩:=I.base.tbls b ps e;obtain⟨m2,e2⟩:=tbls b _ e1;exact⟨m1++m2,by rw[e2,Array.append_assoc]⟩
 ·obtain⟨m,hn,hl⟩:=I.loc;refine⟨m,ns m hn,λi x v e1 e2 e3=>?_⟩;obtain⟨u,r,l⟩:=hl i x v e1 e2 e3;refine⟨u,r,?_⟩;rcases l with l|⟨k,c,e,z⟩
  ·exact .inl l
  ·exact .inr ⟨k,c,e,cellK x c e _ z⟩
 ·obtain⟨v,z⟩:=I.cell x c e;exact⟨v,cellK x c e v z⟩
 ·obtain⟨m,⟨o,_,_,ho,_⟩,_⟩:=I.loc;exact free _ o (λz=>(hch _ z).2.1 Y) ho I.free
 ·obtain⟨v,o,ho,hd⟩:=I.cell x c e;exact free c o (λz=>(hch c z).2.2.1 x c e Y) ho (I.freeC x c e)
 ·obtain⟨e,n,ne,nf,d⟩:=I.pin p hp;have nch:p.1 ∉ ch:=λz=>(hch p.1 z).2.2.2 p hp rfl;exact⟨keep p.1 p.2 ne nf nch e n,free p.1 p.2 nch e n,ne,nf,d⟩
theorem aU.un(I:aU X aM σ H s)(u:Un X.fs [] H H' s.heap h')(hok:tM X.prog X.w H' h'):aU X aM σ H' { s with heap:=h',toks:=t' }:=by
 obtain⟨m,⟨o,es,ep,ho,r⟩,_⟩:=id I.loc;obtain⟨sl,hL⟩:=u.any ho I.free (by simp);exact I.step (g':=s.gens) (d':=s.drawn) (ch:=[]) () (λb o _ hb _ e n=>u.keep b o e n hb (by simp)) (λb o _ hb _ e n=>u.slot b o e n hb (by simp)) (λb o _ e n=>u.free b o e n (by simp)) (λb o _ e=>u.there b o e (by simp)) u.tups u.frzs u.tbls (λm' hm=>by
  obtain⟨o',es',ep',ho',r'⟩:=hm;rw[ho] at ho';cases ho';exact⟨_,es',ep',hL,r'⟩) hok I.bare
theorem aU.call(I:aU X aM σ H s)(u:Un (tz X.stack) ch H H' s.heap h')(hok:tM X.prog X.w H' h')(hg:AllBare g')
  (hch:∀b∈ch,(b∈X.ex\/X.s₀.heap.objs.size<=b)/\b≠X.env.locals/\(∀x c,X.env.cells.lookup x=aa c->c≠b)/\∀p∈X.pn++aM,p.1≠b) :
  aU X aM σ H' { s with heap:=h',gens:=g',drawn:=d',toks:=t' }:=by
 obtain⟨m,⟨o,es,ep,ho,r⟩,_⟩:=id I.loc;obtain⟨sl,hL⟩:=u.any ho I.free λz=>(hch _ z).2.1 rfl;exact I.step (ch:=ch) hch (λb o hL hb hc e n=>u.keep b o e n (λz=>(bF.mp (I.stkSub b z)).elim hL hb) hc) (λb o _ _ hc e n=>u.any e n hc) (λb o hc e n=>u.free b o e n hc) (λb o hc e=>u.there b o e hc) u.tups u.frzs u.tbls (λm' hm=>by
  obtain⟨o',es',ep',ho',r'⟩:=hm;rw[ho] at ho';cases ho';exact⟨_,es',ep',hL,r'⟩) hok hg
theorem aU.turned(I:aU X aM σ H s)(k:∀b o,b≠it->s.heap.get? b=aa o->h'.get? b=aa o)(hn:H it=ao)(hL:it≠X.env.locals)
  (h1:it∈X.ex\/X.s₀.heap.objs.size<=it) (h2:∀x c,X.env.cells.lookup x=aa c->c≠it) (h3:∀p∈X.pn++aM,p.1≠it):aU X aM σ H { s with heap:=h',toks:=t' }:=by
 have nit:∀b u,H b=aa u->b≠it:=λb u e z=>by rw[z,hn] at e;cases e
 refine I.step (g':=s.gens) (d':=s.drawn) (ch:=[it]) (λb hb=>?_) (λb o _ _ hc e _=>k b o (λz=>hc (by simp[z])) e) (λb o _ _ hc e _=>⟨o.slots,k b o (λz=>hc (by simp[z])) e⟩) (λ_ _ _ _ n=>n)
  (λb o hc e=>⟨o,k b o (λz=>hc (by simp[z])) e⟩) (λ_ _ e=>e) (λ_ _ _ e=>e) (λb ps e=>⟨#[],by rw[e];simp⟩) (λm hm=>?_) (λb u e=>?_) I.bare
 ·have e:b=it:=by simpa using hb
  subst e;exact⟨h1,hL,h2,h3⟩
 ·obtain⟨o,es,ep,ho,r⟩:=hm;exact⟨o,es,ep,k _ o (eP hL) ho,r⟩
 ·refine(I.hok b u e).stay (λc v hc q=>k c v ?_ q) (λ_ q=>q) λ_ _ q=>q;rcases hc with z|z
  ·rw[z];exact nit b u e
  ·exact nit c _ z
theorem aU.tok(I:aU X aM σ H s)(t:Nat):aU X aM σ H { s with toks:=t }:=I.un (h':=s.heap) (t':=t) Un.refl I.hok
theorem aU.kept(I:aU X aM σ H s)(k:∀b u,s.heap.get? b=aa u->h'.get? b=aa u):aU X aM σ H { s with heap:=h',toks:=t' }:=I.un (Un.kept k) (I.hok.kept k)
theorem aU.laid{a:ac}{o:HO}(I:aU X aM σ H s)(k:∀b u,s.heap.get? b=aa u->h'.get? b=aa u)(hp:s.heap.objs.size<=a)(new:dl X.prog X.w (upd H a o) h' a o) :
  aU X aM σ (upd H a o) { s with heap:=h',toks:=t' }:=I.un (Un.laid k hp (I.hok.fresh hp)) (I.hok.laid k hp new)
theorem aU.write(I:aU X aM σ H s)(mu:Mut (H x))(he:e=x\/H e=aa (.own x))(k:∀b u,b≠e->s.heap.get? b=aa u->h'.get? b=aa u)(heo:∃u,h'.get? e=aa u)
  (new:dl X.prog X.w (upd H x o) h' x o):aU X aM σ (upd H x o) { s with heap:=h',toks:=t' }:=I.un (Un.write mu he k heo) (I.hok.write mu he k heo new)
theorem aU.pins_of(I:aU X aM σ H s)(h:∀p∈pins',s.heap.get? p.1=aa p.2/\H p.1=ao/\p.1≠X.env.locals/\p.1 ∉ X.fs/\∀v,p.2.data≠.cell v):aU X pins' σ H s:=
 ⟨I.ok,I.os,I.bare,I.base,I.loc,I.cell,I.free,I.freeC,λp hp=>(bC.mp hp).elim (λz=>I.pin p (cM _ z)) (h p),I.hok,I.len⟩
theorem QZ{N:List Str}(hN:N.Nodup){i j:Nat}(a:N[i]?=aa x)(b:N[j]?=aa x):i=j:=by
 obtain⟨h1,e1⟩:=bn.mp a;obtain⟨h2,e2⟩:=bn.mp b;exact(i7 hN).mp (e1.trans e2.symm)
theorem JU{E:af->am->Prop}{Q:Unit->am->Prop}(I:aU X aM σ H s)(hN:X.N.Nodup)(hi:X.N[i]?=aa x)(hx:Loc X.env.scope x)(r:aZ v u)
  (h:∀s',aU X aM (σ.set i (aa v)) H s'->(∃a,cS a s.heap s'.heap/\(a=X.env.locals\/X.env.cells.lookup x=aa a))->Q PUnit.unit s') (hf:X.fn x=ah\/X.env.scope.names.lookup x=aa .local:=by first|exact .inl rfl|exact .inr rfl|assumption):Bf M A (storeName X.env x u) Q E s:=by
 obtain⟨m,hn,hl⟩:=id I.loc;have hcls:(X.env.scope.kind==.class || (X.env.scope.kind==.module&&X.env.locals != X.env.globals))=aq:=by rw[I.ok.kind];rfl
 have hiσ:i<σ.length:=by rw[I.len];exact(bn.mp hi).1
 have cne:=I.cne;have tracked:∀ {a:ac} {h':ay},(∃o,s.heap.get? a=aa o/\H a=ao)->cS a s.heap h'->tM X.prog X.w H h':=λ{a h'} ha hs b ob e=>by
  obtain⟨_,_,hfree⟩:=ha;refine(I.hok b ob e).stay (λc w' hc q=>(hs.2 c ?_).trans q) (λ_ q=>q) λ_ _ q=>q;rintro rfl;rcases hc with rfl|hc
  ·rw[hfree] at e;cases e
  ·rw[hfree] at hc;cases hc
 rcases hx with hk|hk
 ·refine wpAny_storeName_local hk hn (λh' hn' hs=>?_) hcls;obtain⟨oL,_,_,hoL,_⟩:=id hn;refine h _ ⟨I.ok,I.os,I.bare,⟨λb o e n hb hx=>?_,λb o e n hb hx=>?_,I.base.free,λb o e hx=>?_,I.base.tups,I.base.frzs,I.base.tbls⟩,⟨_,hn',λj y v' e1 e2 e3=>?_⟩,λy c e=>?_,I.free,I.freeC,λp hp=>?_,tracked ⟨oL,hoL,I.free⟩ hs,by simpa using I.len⟩ ⟨_,hs,.inl Y⟩
  ·exact(hs.2 b (b7 (cg (bQ e) I.ok.above))).trans (I.base.keep b o e n hb hx)
  ·obtain⟨sl,e1⟩:=I.base.slot b o e n hb hx;exact⟨sl,(hs.2 b (b7 (cg (bQ e) I.ok.above))).trans e1⟩
  ·obtain⟨o',e1⟩:=I.base.there b o e hx;exact⟨o',(hs.2 b (b7 (cg (bQ e) I.ok.above))).trans e1⟩
  ·by_cases hj:j=i
   ·subst hj;rw[hi] at e1;cases e1;rw[fc hiσ] at e2;cases e2;exact⟨u,r,.inl ⟨hk,by simp⟩⟩
   ·rw[fE (eP hj)] at e2;obtain⟨u',r',q⟩:=hl j y v' e1 e2 e3;refine⟨u',r',?_⟩;rcases q with ⟨k,e⟩|⟨k,c,e,z⟩
    ·refine .inl ⟨k,?_⟩;have:y≠x:=λe=>hj (QZ hN e1 (e ▸ hi));simp[this,e]
    ·exact .inr ⟨k,c,e,z.sameBut hs (cne y c e)⟩
  ·obtain⟨w',z⟩:=I.cell y c e;exact⟨w',z.sameBut hs (cne y c e)⟩
  ·obtain⟨e,n,ne,nf,d⟩:=I.pin p hp;exact⟨(hs.2 p.1 ne).trans e,n,ne,nf,d⟩
 ·have hfn:X.fn x=ah:=by
   rcases hf with z|z
   ·exact z
   ·rw[z] at hk;cases hk
  obtain⟨c,hc⟩:=I.ok.has x (.inl hk);obtain⟨w',z⟩:=I.cell x c hc;refine wpAny_storeName_cell I.ok.kind hk hc z (λh' hc' hs=>?_);obtain⟨oc,hoc,hocd⟩:=id z;refine h { s with heap:=h' } ⟨I.ok,I.os,I.bare,⟨λb o e n hb hx=>?_,λb o e n hb hx=>?_,I.base.free,λb o e hx=>?_,I.base.tups,I.base.frzs,I.base.tbls⟩,⟨m,hn.sameBut hs (eP (cne x c hc)),λj y v' e1 e2 e3=>?_⟩,λy c' e=>?_,I.free,I.freeC,λp hp=>?_,tracked ⟨oc,hoc,I.freeC x c hc⟩ hs,by simpa using I.len⟩ ⟨c,hs,.inr hc⟩
  ·exact(hs.2 b (b7 (cg (bQ e) (I.ok.cab x c hfn hc)))).trans (I.base.keep b o e n hb hx)
  ·obtain⟨sl,e1⟩:=I.base.slot b o e n hb hx;exact⟨sl,(hs.2 b (b7 (cg (bQ e) (I.ok.cab x c hfn hc)))).trans e1⟩
  ·obtain⟨o',e1⟩:=I.base.there b o e hx;exact⟨o',(hs.2 b (b7 (cg (bQ e) (I.ok.cab x c hfn hc)))).trans e1⟩
  ·by_cases hj:j=i
   ·subst hj;rw[hi] at e1;cases e1;rw[fc hiσ] at e2;cases e2;exact⟨u,r,.inr ⟨.inl hk,c,hc,hc'⟩⟩
   ·rw[fE (eP hj)] at e2;obtain⟨u',r',q⟩:=hl j y v' e1 e2 e3;refine⟨u',r',?_⟩;rcases q with q|⟨k,c',e,z'⟩
    ·exact .inl q
    ·refine .inr ⟨k,c',e,z'.sameBut hs ?_⟩;rintro rfl;exact hj (QZ hN e1 (I.ok.inj _ _ _ e hc ▸ hi))
  ·by_cases hcc:c'=c
   ·subst hcc;exact⟨_,hc'⟩
   ·obtain⟨w2,z2⟩:=I.cell y c' e;exact⟨w2,z2.sameBut hs hcc⟩
  ·obtain⟨e,n,ne,nf,d⟩:=I.pin p hp;refine⟨(hs.2 p.1 ?_).trans e,n,ne,nf,d⟩;intro q;rw[q,hoc] at e;have q':oc=p.2:=bL e;exact d w' (by rw[<-q'];exact hocd)
theorem Vo{E:af->am->Prop}{Q:Unit->am->Prop}(I:aU X aM σ H s)(hN:X.N.Nodup)(hi:X.N[i]?=aa x)(hx:Loc X.env.scope x)(r:aZ v u)
  (h:∀s',aU X aM (σ.set i (aa v)) H s'->Q PUnit.unit s') (hf:X.fn x=ah\/X.env.scope.names.lookup x=aa .local:=by first|exact .inl rfl|exact .inr rfl|assumption):Bf M A (storeName X.env x u) Q E s:=
 JU I hN hi hx r (λs' I' _=>h s' I') hf
theorem aU.call'(I:aU X aM σ H s)(ho:s'.os=s.os)(u:Un (tz X.stack) ch H H' s.heap s'.heap)(hok:tM X.prog X.w H' s'.heap)(hg:AllBare s'.gens)
  (hch:∀b∈ch,(b∈X.ex\/X.s₀.heap.objs.size<=b)/\b≠X.env.locals/\(∀x c,X.env.cells.lookup x=aa c->c≠b)/\∀p∈X.pn++aM,p.1≠b):aU X aM σ H' s':=by
 obtain⟨h',g',d',t',o'⟩:=s';have e:o'=s.os:=ho;subst e;exact I.call (g':=g') (t':=t') (d':=d') u hok hg hch
end
abbrev XK:=af->Option ac->B->Prop
abbrev St:=List (Option V)
abbrev VK:=V->B->Prop
abbrev TE:=St->B->VK->Prop
abbrev TT:=St->B->(Bool->B->Prop)->Prop
abbrev TA:=St->B->(List V->B->Prop)->Prop
set_option genSizeOf false in
set_option genInjectivity false in
structure W3 where
 nx:St->B->Prop
 rt:VK
 bk:St->B->Prop:=λ_ _=>False
 ct:St->B->Prop:=λ_ _=>False
abbrev TS:=W3->St->B->Prop
def EP(X:Cx)(aM:List (ac×Obj))(σ:St)(Q:VK)(u:af)(s':am):Prop:=∃v H',aU X aM σ H' s'/\aZ v u/\Q v H'
def TP(X:Cx)(aM:List (ac×Obj))(σ:St)(Q:Bool->B->Prop)(b:Bool)(s':am):Prop:=∃H',aU X aM σ H' s'/\Q b H'
def AP(X:Cx)(aM:List (ac×Obj))(σ:St)(Q:List V->B->Prop)(us:List af)(s':am):Prop:=∃vs H',aU X aM σ H' s'/\aX vs us/\Q vs H'
def SP(X:Cx)(aM:List (ac×Obj))(D:W3)(f:Flow)(s':am):Prop :=
 match f with
 |.next=>∃σ' H',aU X aM σ' H' s'/\D.nx σ' H'
 |.brk=>∃σ' H',aU X aM σ' H' s'/\D.bk σ' H'
 |.cont=>∃σ' H',aU X aM σ' H' s'/\D.ct σ' H'
 |.ret u=>∃v σ' H',aU X aM σ' H' s'/\aZ v u/\D.rt v H'
def PE(X:Cx)(e:aD)(t:TE):Prop :=
 ∀(aM:List (ac×Obj)) (s:am) (σ:St) (H:B) (Q:VK),aU X aM σ H s->t σ H Q->Bf (Bg X.prog X.w) X.A (eval e X.env) (EP X aM σ Q) X.xe s
def PT(X:Cx)(e:aD)(t:TT):Prop :=
 ∀(aM:List (ac×Obj)) (s:am) (σ:St) (H:B) (Q:Bool->B->Prop),aU X aM σ H s->t σ H Q->Bf (Bg X.prog X.w) X.A (isTrue e X.env (eval e X.env)) (TP X aM σ Q) X.xe s
def PW(X:Cx)(e:aD)(t:TT):Prop :=
 ∀(whole:Sem af) (aM:List (ac×Obj)) (s:am) (σ:St) (H:B) (Q:Bool->B->Prop),aU X aM σ H s->t σ H Q->Bf (Bg X.prog X.w) X.A (isTrue e X.env whole) (TP X aM σ Q) X.xe s
theorem PW.pt(h:PW X e t):PT X e t:=h _
def PA(X:Cx)(es:List aD)(t:TA):Prop :=
 ∀(pos:Pos) (aM:List (ac×Obj)) (s:am) (σ:St) (H:B) (Q:List V->B->Prop),aU X aM σ H s->t σ H Q->Bf (Bg X.prog X.w) X.A (spliced (backTo pos (Be es X.env))) (AP X aM σ Q) X.xe s
def PS(X:Cx)(st:aC)(t:TS):Prop :=
 ∀(aM:List (ac×Obj)) (s:am) (σ:St) (H:B) (D:W3),aU X aM σ H s->t D σ H->Bf (Bg X.prog X.w) X.A (exec st X.env) (SP X aM D) X.xe s
def PSs(X:Cx)(st:List aC)(t:TS):Prop :=
 ∀(aM:List (ac×Obj)) (s:am) (σ:St) (H:B) (D:W3),aU X aM σ H s->t D σ H->Bf (Bg X.prog X.w) X.A (execs st X.env) (SP X aM D) X.xe s
theorem sr{α:Type}{t:Sem α}{Q Q':α->am->Prop}{E:af->am->Prop}(h:Bf M A t Q E s)(hQ:∀a s,Q a s->Q' a s):Bf M A t Q' E s:=dR h hQ λ_ _ x=>x
section
variable {X:Cx}
def U(i:Nat):TE:=λσ H Q=>∃v,σ[i]?=aa (aa v)/\Q v H
def L(v:V):TE:=λ_ H Q=>Q v H
theorem zhs{x:Str}{pos:Pos}(hN:X.N[i]?=aa x)(hv:Vis X.env.scope x)(hd:(x==("__debug__":Str))=aq:=by lia)(hcd:(x==("__classdict__":Str))=aq:=by lia):PE X (.Name x pos) (U i):=by
 intro aM s σ H Q I h;obtain⟨v,e,h⟩:=h;obtain⟨m,hn,hl⟩:=I.loc;obtain⟨u,r,l⟩:=hl i x v hN e hv;have fin:EP X aM σ Q u s:=⟨v,H,I,r,h⟩;rcases l with ⟨hk,hm⟩|⟨hk,c,hc,hcell⟩
 ·exact wpAny_Name (wpAny_loadName_local I.ok.kind hk hn hm fin) hd
 ·rcases hk with hk|hk
  ·exact wpAny_Name (wpAny_loadName_cell I.ok.kind hk hc hcell fin) hd
  ·exact wpAny_Name (wpAny_loadName_free I.ok.kind hk hc hcell fin hcd) hd
theorem zq{i j pos}:PE X (.Constant (.int i) j pos) (L (.int i)):=λ_ _ _ H _ I h=>wpAny_Constant_int ⟨.int i,H,I.tok _,⟨_,Y⟩,h⟩
theorem vY{b j pos}:PE X (.Constant (.bool b) j pos) (L (.bl b)):=λ_ _ _ H _ I h=>Constant_bool ⟨.bl b,H,I,Y,h⟩
theorem xp{j pos}:PE X (.Constant .none j pos) (L .non):=λ_ _ _ H _ I h=>Constant_none ⟨.non,H,I,Y,h⟩
theorem yI{x j pos}:PE X (.Constant (.str x) j pos) (L (.str x)):=λ_ _ _ H _ I h=>oZ ⟨.str x,H,I.tok _,⟨_,Y⟩,h⟩
def Gl(X:Cx)(x:Str):Prop:=X.env.kindOf x=aa .globalImplicit
theorem vN{E:af->am->Prop}{s:am}{σ:St}{H:B}{x:Str}{u:af}{pos:Pos}{Q:af->am->Prop}(I:aU X aM σ H s)(hg:Gl X x)(hm:X.mg x=aa u)(h:Q u s)
  (hd:(x==("__debug__":Str))=aq:=by lia):Bf (Bg X.prog X.w) X.A (eval (.Name x pos) X.env) Q E s:=
 lX I.ok.kind hg (Calls.loadGlobal_global (by rw[I.ok.glob];exact I.mod.glob.keeps I.bk) hm h) hd
theorem X9{E:af->am->Prop}{s:am}{σ:St}{H:B}{x:Str}{u:af}{pos:Pos}{Q:af->am->Prop}(I:aU X aM σ H s)(hg:Gl X x)(hm:X.mg x=ao)(hv:Bh x=aa u)(h:Q u s)
  (hn:x≠"__name__":=by lia) (hd:(x==("__debug__":Str))=aq:=by lia):Bf (Bg X.prog X.w) X.A (eval (.Name x pos) X.env) Q E s:=by
 obtain⟨mb,h1,h2⟩:=I.mod.blt;exact lX I.ok.kind hg (Calls.loadGlobal_builtin (by rw[I.ok.glob];exact I.mod.glob.keeps I.bk) hm (by rw[I.ok.blt];exact h1.keeps I.bk) ((h2 x hn).trans hv) h) hd
theorem zfV(hg:Gl X x)(hm:X.mg x=aa u)(r:aZ v u)(hd:(x==("__debug__":Str))=aq:=by lia):PE X (.Name x pos) (L v):=
 λ_ _ _ H _ I h=>vN I hg hm ⟨v,H,I,r,h⟩ hd
theorem yM{x:Str}{pos:Pos}(hg:Gl X x)(hm:X.mg x=ao)(hv:Bh x=aa u)(r:aZ v u)(hn:x≠"__name__":=by lia)(hd:(x==("__debug__":Str))=aq:=by lia):PE X (.Name x pos) (L v):=
 λ_ _ _ H _ I h=>X9 I hg hm hv ⟨v,H,I,r,h⟩ hn hd
variable {a b:aD}{ta tb:TE}{pos:Pos}
def tB(t:TE):TT:=λσ H Q=>t σ H λx H1=>∃c,x=.bl c/\Q c H1
theorem yT{e:aD}{t:TE}(h:PE X e t)(he:∀whole,isTrue e X.env whole=(do let v <-whole;standAt e.pos;holding [v] (truthy v)):=by intro _;rfl):PT X e (tB t):=by
 intro aM s σ H Q I hw;refine isTrue_plain (sr (h aM s σ H _ I hw) λv s1 ⟨x,H1,I1,r1,q1⟩=>?_) (he _);obtain⟨d,rfl,q⟩:=q1;cases r1;exact fG ⟨H1,I1,q⟩
variable {tA tB':TT}{rest:List aD}
def Jn(t u:TT):TT:=λσ H Q=>t σ H λc H1=>if c=ah then u σ H1 Q else Q aq H1
def tOr(t u:TT):TT:=λσ H Q=>t σ H λc H1=>if c=ah then Q ah H1 else u σ H1 Q
def jZ(t:TT):TT:=λσ H Q=>t σ H λc H1=>Q (!c) H1
theorem Z5(ha:PT X a tA):PW X (.BoolOp .And [a] pos) tA:=by
 intro wh aM s σ H Q I h;refine isTrue_and (sr (ha aM s σ H Q I h) λc s1 e=>?_);cases c with
 |true=>exact isTrue_and_nil e
 |false=>exact e
theorem j6(ha:PT X a tA):PW X (.BoolOp .Or [a] pos) tA:=by
 intro wh aM s σ H Q I h;refine isTrue_or (sr (ha aM s σ H Q I h) λc s1 e=>?_);cases c with
 |false=>exact isTrue_or_nil e
 |true=>exact e
theorem Wa(ha:PT X a tA)(hb:PW X (.BoolOp .And (b::rest) pos) tB'):PW X (.BoolOp .And (a::b::rest) pos) (Jn tA tB'):=by
 intro wh aM s σ H Q I h;refine isTrue_and (sr (ha aM s σ H _ I h) λc s1 ⟨H1,I1,q1⟩=>?_);cases c with
 |true=>exact hb wh aM s1 σ H1 Q I1 q1
 |false=>exact⟨H1,I1,q1⟩
theorem qS(ha:PT X a tA)(hb:PW X (.BoolOp .Or (b::rest) pos) tB'):PW X (.BoolOp .Or (a::b::rest) pos) (tOr tA tB'):=by
 intro wh aM s σ H Q I h;refine isTrue_or (sr (ha aM s σ H _ I h) λc s1 ⟨H1,I1,q1⟩=>?_);cases c with
 |true=>exact⟨H1,I1,q1⟩
 |false=>exact hb wh aM s1 σ H1 Q I1 q1
theorem wJ(ha:PT X a tA):PT X (.UnaryOp .Not a pos) (jZ tA):=by
 intro aM s σ H Q I h;exact isTrue_not (ha aM s σ H (λc H1=>Q (!c) H1) I h)
def Q5(ta tb:TE):TE:=λσ H Q=>ta σ H λx H1=>∃c,x=.bl c/\if c=ah then tb σ H1 Q else Q (.bl aq) H1
def zht(ta tb:TE):TE:=λσ H Q=>ta σ H λx H1=>∃c,x=.bl c/\if c=ah then Q (.bl ah) H1 else tb σ H1 Q
def zg3(ta:TE):TE:=λσ H Q=>ta σ H λx H1=>∃c,x=.bl c/\Q (.bl (!c)) H1
theorem KC{op}{t:TE}(h:PE X a t):PE X (.BoolOp op [a] pos) t:=λaM s σ H Q I hw=>BoolOp_one (h aM s σ H Q I hw)
theorem KD(ha:PE X a ta)(hb:PE X (.BoolOp .And (b::rest) pos) tb):PE X (.BoolOp .And (a::b::rest) pos) (Q5 ta tb):=by
 intro aM s σ H Q I h;refine BoolOp_and (sr (ha aM s σ H _ I h) λv s1 ⟨x,H1,I1,r1,q1⟩=>?_);obtain⟨c,rfl,q1⟩:=q1;cases r1;refine fG ?_;cases c with
 |true=>exact hb aM s1 σ H1 Q I1 q1
 |false=>exact⟨.bl aq,H1,I1,Y,q1⟩
theorem zik(ha:PE X a ta)(hb:PE X (.BoolOp .Or (b::rest) pos) tb):PE X (.BoolOp .Or (a::b::rest) pos) (zht ta tb):=by
 intro aM s σ H Q I h;refine BoolOp_or (sr (ha aM s σ H _ I h) λv s1 ⟨x,H1,I1,r1,q1⟩=>?_);obtain⟨c,rfl,q1⟩:=q1;cases r1;refine fG ?_;cases c with
 |false=>exact hb aM s1 σ H1 Q I1 q1
 |true=>exact⟨.bl ah,H1,I1,Y,q1⟩
theorem zhu(ha:PE X a ta):PE X (.UnaryOp .Not a pos) (zg3 ta):=by
 intro aM s σ H Q I h;refine UnaryOp_ (sr (ha aM s σ H _ I h) λv s1 ⟨x,H1,I1,r1,q1⟩=>?_);obtain⟨c,rfl,q1⟩:=q1;cases r1;exact not_of (fG ⟨.bl (!c),H1,I1,Y,q1⟩)
def tIf(t:TT)(ta tb:TE):TE:=λσ H Q=>t σ H λc H1=>if c=ah then ta σ H1 Q else tb σ H1 Q
theorem Xk(hc:PT X c tA)(ha:PE X a ta)(hb:PE X b tb):PE X (.IfExp c a b pos) (tIf tA ta tb):=by
 intro aM s σ H Q I h;refine wpAny_IfExp (sr (hc aM s σ H _ I h) λd s1 ⟨H1,I1,q1⟩=>?_);cases d with
 |true=>exact ha aM s1 σ H1 Q I1 q1
 |false=>exact hb aM s1 σ H1 Q I1 q1
end
def aY(K:bw)(H:B)(a:ac)(xs:List V):Prop :=
 Rd H a (.lst xs) \/
  ∃(o:Obj) (its:Array af) (n:Nat),K.lookup a=aa o/\o.cls=.type "list"/\o.dict=ao/\o.data=.seq its n/\its.size<=Bb/\aX xs its.toList
def sI(K:bw)(H:B)(a:ac)(xs:List V):Prop :=
 Rd H a (.tup xs) \/
  ∃(o:Obj) (its:Array af) (n:Nat),K.lookup a=aa o/\o.cls=.type "tuple"/\o.data=.seq its n/\its.size<=Bb/\aX xs its.toList
def ziO:af->Option V
 |.none=>aa .non
 |.bool b=>aa (.bl b)
 |.int i _=>aa (.int i)
 |.str x _=>aa (.str x)
 |.bytes b _=>aa (.byt b)
 |.float b _=>aa (.flt b)
 |.ref a=>aa (.ref a)
 |.type n=>aa (.ty n)
 |_=>ao
theorem aZ.abs(r:aZ x u):ziO u=aa x:=by
 cases x with
 |non=>cases r;rfl
 |bl _=>cases r;rfl
 |int _=>obtain⟨t,rfl⟩:=r;rfl
 |str _=>obtain⟨t,rfl⟩:=r;rfl
 |byt _=>obtain⟨t,rfl⟩:=r;rfl
 |flt _=>obtain⟨t,rfl⟩:=r;rfl
 |ref _=>cases r;rfl
 |ty _=>cases r;rfl
theorem aZ.inj(r:aZ x u)(q:aZ y u):x=y:=bL (r.abs.symm.trans q.abs)
theorem aX.inj:∀ {xs ys:List V} {us:List af},aX xs us->aX ys us->xs=ys
 |_,_,_,.nil,.nil=>rfl
 |_,_,_,.cons r t,.cons r' t'=>by rw[r.inj r',aX.inj t t']
section
variable {X:Cx}{aM:List (ac×Obj)}{σ:St}{H:B}{s:am}{a:ac}{xs ys:List V}
theorem aY.of{K:bw}(h:H a=aa (.lst xs)):aY K H a xs:=.inl (.inl h)
theorem sI.of{K:bw}(h:H a=aa (.tup xs)):sI K H a xs:=.inl (.inl h)
theorem aU.list(I:aU X aM σ H s)(h:aY X.K H a xs):∃its:List af,aX xs its/\PlainL s.heap a its.toArray/\xs.length<=Bb:=by
 rcases h with h|⟨o,its,n,hk,hc,hd,hs,hz,r⟩
 ·obtain⟨z,its,n,r,e⟩:=h.ok I.hok;exact⟨its,r,⟨_,n,e,Y,Y,Y⟩,z⟩
 ·refine⟨its.toList,r,⟨o,n,I.kIn a o hk,hc,hd,by simpa using hs⟩,?_⟩;have e:=r.length;simp only[cF] at e;lia
theorem aU.tuple(I:aU X aM σ H s)(h:sI X.K H a xs):∃its:List af,aX xs its/\IsTup s.heap a its.toArray/\xs.length<=Bb:=by
 rcases h with h|⟨o,its,n,hk,hc,hs,hz,r⟩
 ·obtain⟨z,its,r,p⟩:=h.ok I.hok;exact⟨its,r,p,z⟩
 ·refine⟨its.toList,r,⟨o,I.kIn a o hk,hc,n,by simpa using hs⟩,?_⟩;have e:=r.length;simp only[cF] at e;lia
theorem aU.list_inj(I:aU X aM σ H s)(h:aY X.K H a xs)(h':aY X.K H a ys):xs=ys:=by
 obtain⟨its,r,⟨o,n,e,_,_,d⟩,_⟩:=I.list h;obtain⟨its',r',⟨o',n',e',_,_,d'⟩,_⟩:=I.list h';rw[e] at e';cases e';rw[d] at d';injection d' with d1 _;have:its=its':=by simpa using congrArg Array.toList d1
 subst this;exact r.inj r'
theorem aU.tuple_inj(I:aU X aM σ H s)(h:sI X.K H a xs)(h':sI X.K H a ys):xs=ys:=by
 obtain⟨its,r,⟨o,e,_,n,d⟩,_⟩:=I.tuple h;obtain⟨its',r',⟨o',e',_,n',d'⟩,_⟩:=I.tuple h';rw[e] at e';cases e';rw[d] at d';injection d' with d1 _;have:its=its':=by simpa using congrArg Array.toList d1
 subst this;exact r.inj r'
end
abbrev Cx.wish(X:Cx)(E:af->am->Prop):Cx:={ X with xe:=E }
abbrev Cx.nox(X:Cx):Cx:=X.wish λ_ _=>False
theorem Cx.Ok.wish{X:Cx}(ok:X.Ok)(E:af->am->Prop):(X.wish E).Ok :=
 ⟨ok.mod,ok.kind,ok.glob,ok.blt,ok.above,ok.inj,ok.has,ok.cab,ok.hd,ok.frames,ok.stk,ok.exf,ok.bs,ok.bsz,ok.noex,ok.exfs,ok.funs,ok.frf⟩
theorem Cx.Ok.unwish{X:Cx}{E:af->am->Prop}(ok:(X.wish E).Ok):X.Ok :=
 ⟨ok.mod,ok.kind,ok.glob,ok.blt,ok.above,ok.inj,ok.has,ok.cab,ok.hd,ok.frames,ok.stk,ok.exf,ok.bs,ok.bsz,ok.noex,ok.exfs,ok.funs,ok.frf⟩
section
variable {X:Cx}{aM:List (ac×Obj)}{σ:St}{H:B}{s:am}{E:af->am->Prop}
theorem aU.wish(I:aU X aM σ H s)(E:af->am->Prop):aU (X.wish E) aM σ H s:=⟨I.ok.wish E,I.os,I.bare,I.base,I.loc,I.cell,I.free,I.freeC,I.pin,I.hok,I.len⟩
theorem aU.unwish(I:aU (X.wish E) aM σ H s):aU X aM σ H s:=⟨I.ok.unwish,I.os,I.bare,I.base,I.loc,I.cell,I.free,I.freeC,I.pin,I.hok,I.len⟩
theorem SP.unwish(h:SP (X.wish E) aM D f s'):SP X aM D f s':=by
 cases f with
 |next=>obtain⟨σ',H',I,q⟩:=h;exact⟨σ',H',I.unwish,q⟩
 |brk=>obtain⟨σ',H',I,q⟩:=h;exact⟨σ',H',I.unwish,q⟩
 |cont=>obtain⟨σ',H',I,q⟩:=h;exact⟨σ',H',I.unwish,q⟩
 |ret u=>obtain⟨v,σ',H',I,r,q⟩:=h;exact⟨v,σ',H',I.unwish,r,q⟩
theorem PSs.nox{st:List aC}{t:TS}(h:PSs X.nox st t):PSs X st t:=λaM s σ H D I hw =>
 dR (h aM s σ H D (I.wish _) hw) (λ_ _ q=>q.unwish) λ_ _ z=>dn z
end
section
variable {X:Cx}{st:aC}{rest:List aC}{t u:TS}{e:aD}{te:TE}{pos:Pos}
def zy:TS:=λD σ H=>D.nx σ H
def zj(t u:TS):TS:=λD σ H=>t { D with nx:=u D } σ H
theorem zv:PSs X [] zy:=λ_ _ σ H _ I h=>eX ⟨σ,H,I,h⟩
theorem zc(h1:PS X st t)(h2:PSs X rest u):PSs X (st::rest) (zj t u):=by
 intro aM s σ H D I h;refine i8 (sr (h1 aM s σ H { D with nx:=u D } I h) λf s1 q=>?_);cases f with
 |next =>
  obtain⟨σ',H',I',q⟩:=q;exact h2 aM s1 σ' H' D I' q
 |ret v=>exact q
 |brk=>exact q
 |cont=>exact q
theorem zi(h1:PS X st t):PSs X [st] t:=by
 intro aM s σ H D I h;refine i8 (sr (h1 aM s σ H D I h) λf s1 q=>?_);cases f with
 |next=>exact eX q
 |ret v=>exact q
 |brk=>exact q
 |cont=>exact q
theorem aU.quiet{σ:St}{H:B}{s:am}(I:aU X aM σ H s):interactive X.env=aq:=by simp[interactive,I.ok.kind]
def zT(te:TE):TS:=λD σ H=>te σ H λ_ H1=>D.nx σ H1
theorem zI(he:PE X e te)(hs:swapsWith e ao pos.line X.env=pure aq:=by rfl):PS X (.Expr e pos) (zT te):=by
 intro aM s σ H D I h;exact wpAny_Expr_any (sr (he aM s σ H _ I h) λv s1 ⟨x,H1,I1,r1,q1⟩=>⟨σ,H1,I1,q1⟩) I.quiet hs
def zA(te:TE):TS:=λD σ H=>te σ H D.rt
theorem zJ(he:PE X e te):PS X (.Return (aa e) pos) (zA te):=by
 intro aM s σ H D I h;exact wpAny_Return_some (sr (he aM s σ H _ I h) λv s1 ⟨x,H1,I1,r1,q1⟩=>⟨x,σ,H1,I1,r1,q1⟩)
def zg4:TS:=λD _ H=>D.rt .non H
theorem zfW:PS X (.Return ao pos) zg4:=λ_ _ σ H _ I h=>wpAny_Return_none ⟨.non,σ,H,I,Y,h⟩
def zF(c:TT)(t u:TS):TS:=λD σ H=>c σ H λb H1=>if b=ah then t D σ H1 else u D σ H1
theorem zO(hc:PT X c tc)(ha:PSs X a t)(hb:PSs X b u):PS X (.If c a b pos) (zF tc t u):=by
 intro aM s σ H D I h;refine wpAny_If (sr (hc aM s σ H _ I h) λd s1 ⟨H1,I1,q1⟩=>?_);cases d with
 |true=>exact ha aM s1 σ H1 D I1 q1
 |false=>exact hb aM s1 σ H1 D I1 q1
def KG:TS:=λ_ _ _=>False
theorem Q6:PS X st KG:=λ_ _ _ _ _ _ h=>h.elim
end
abbrev TG:=V->St->B->(St->B->Prop)->Prop
abbrev TGs:=List V->St->B->(St->B->Prop)->Prop
def PG(X:Cx)(target:aD)(t:TG):Prop :=
 ∀(aM:List (ac×Obj)) (s:am) (σ:St) (H:B) (v:V) (u:af) (Q:St->B->Prop),aU X aM σ H s->aZ v u->t v σ H Q ->
  Bf (Bg X.prog X.w) X.A (assign target X.env u) (λ_ s'=>∃σ' H',aU X aM σ' H' s'/\Q σ' H') X.xe s
def PGs(X:Cx)(ts:List aD)(t:TGs):Prop :=
 ∀(aM:List (ac×Obj)) (s:am) (σ:St) (H:B) (vs:List V) (us:List af) (Q:St->B->Prop),aU X aM σ H s->aX vs us->t vs σ H Q ->
  Bf (Bg X.prog X.w) X.A (assignInOrder ((assignEach ts X.env).map (·.2)) us) (λ_ s'=>∃σ' H',aU X aM σ' H' s'/\Q σ' H') X.xe s
section
variable {X:Cx}{pos:Pos}
def zm(i:Nat):TG:=λv σ H Q=>Q (σ.set i (aa v)) H
theorem kY(hN:X.N.Nodup)(hi:X.N[i]?=aa x)(hx:Loc X.env.scope x)(hf:X.fn x=ah\/X.env.scope.names.lookup x=aa .local:=by first|exact .inl rfl|exact .inr rfl|assumption):PG X (.Name x pos) (zm i):=by
 intro aM s σ H v u Q I r h;exact wpAny_assign_Name (Vo I hN hi hx r (λs' I'=>⟨_,H,I',h⟩) hf)
def KH:TGs:=λvs σ H Q=>vs=[]/\Q σ H
def wY(t:TG)(u:TGs):TGs:=λvs σ H Q=>∃v r,vs=v::r/\t v σ H λσ' H'=>u r σ' H' Q
theorem zch:PGs X [] KH:=by
 intro aM s σ H vs us Q I r h;obtain⟨e,h⟩:=h;subst e;cases r;exact assignInOrder_nil ⟨σ,H,I,h⟩
theorem Vp{e:aD}{es:List aD}{t:TG}{u:TGs}(h1:PG X e t)(h2:PGs X es u)
  (hs:(assignEach (e::es) X.env).map (·.2)=assign e X.env::(assignEach es X.env).map (·.2):=by rfl):PGs X (e::es) (wY t u):=by
 intro aM s σ H vs us Q I r h;obtain⟨v,vr,e1,h⟩:=h;subst e1;cases r with
 |cons r rr =>
  rw[hs];refine assignInOrder_cons (sr (h1 aM s σ H _ _ _ I r h) λ_ s1 ⟨σ1,H1,I1,q1⟩=>?_);exact h2 aM s1 σ1 H1 _ _ Q I1 rr q1
def KI(K:bw)(n:Nat)(t:TGs):TG:=λv σ H Q=>∃a xs,v=.ref a/\sI K H a xs/\xs.length=n/\t xs σ H Q
theorem zdV{es:List aD}{k:Nat}{t:TGs}{n:Nat}(hc:X.calm=ah)(h:PGs X es t)
  (hn:(assignEach es X.env).length=n:=by rfl) (hst:(assignEach es X.env).findIdx? (·.1)=ao:=by rfl):PG X (.Tuple es k pos) (KI X.K n t):=by
 intro aM s σ H v u Q I r hw;obtain⟨a,xs,e1,hq,hl,hw⟩:=hw;subst e1;cases r;obtain⟨its,rv,ht,hz⟩:=I.tuple hq;refine assign_Tuple_tuple (I.ok.hd hc) ht (by simp[hn,<-hl,rv.length]) hst λh' hx=>?_;have I1:aU X aM σ H { s with heap:=h' }:=I.kept (t':=s.toks) λb o e=>hx b o (b7 (bQ e)) e;exact h aM _ σ H xs _ Q I1 (by simpa using rv) hw
def zE(te:TE)(g:TG):TS:=λD σ H=>te σ H λx H1=>g x σ H1 D.nx
theorem Wb{te:TE}(hN:X.N.Nodup)(hi:X.N[i]?=aa x)(hx:Loc X.env.scope x)(he:PE X e te)(hs:swapsWith e (aa (.Name x pos')) pos.line X.env=pure aq:=by rfl)(hf:X.fn x=ah\/X.env.scope.names.lookup x=aa .local:=by first|exact .inl rfl|exact .inr rfl|assumption) :
  PS X (.Assign [.Name x pos'] e pos) (zE te (zm i)):=by
 intro aM s σ H D I h;refine wpAny_Assign_Name (sr (he aM s σ H _ I h) λv s1 ⟨y,H1,I1,r1,q1⟩=>?_) hs;exact Vo I1 hN hi hx r1 (λs2 I2=>⟨_,H1,I2,q1⟩) hf
end
section
variable {X:Cx}{pos:Pos}
def zbv(c:TT)(tb:TS):TS:=λD σ H=>∃W:Nat->St->B->Prop,(∃m,W m σ H)/\∀m σ H,W m σ H ->
 c σ H λb H1=>if b=ah then ∃N:St->B->Prop,(∀σ' H',N σ' H'->∃m',m'<m/\W m' σ' H')/\tb { D with nx:=N,ct:=N,bk:=D.nx } σ H1 else D.nx σ H1
theorem Q7{tb:TS}(hp:PassesOwn (Bg X.prog X.w) X.A X.env X.xe)(hc:PT X c tc)(hb:PSs X body tb):PS X (.While c body [] pos) (zbv tc tb):=by
 intro aM s σ H D I h;obtain⟨W,⟨m0,w0⟩,turn⟩:=h;refine wpAny_While (codeAny_whileLoop (λn s'=>∃σ' H',aU X aM σ' H' s'/\W n σ' H') ?_ m0 ⟨σ,H,I,w0⟩);rintro n s1 ⟨σ1,H1,I1,w1⟩;refine fH hp (sr (hc aM s1 σ1 H1 _ I1 (turn n σ1 H1 w1)) λb s2 ⟨H2,I2,q2⟩=>?_);cases b with
 |true =>
  obtain⟨N,hN,q2⟩:=q2;rw[au rfl];refine fH hp (sr (hb aM s2 σ1 H2 _ I2 q2) λf s3 q3=>?_);cases f with
  |next =>
   obtain⟨σ3,H3,I3,n3⟩:=q3;obtain⟨m',hm,w3⟩:=hN σ3 H3 n3;exact⟨m',hm,σ3,H3,I3,w3⟩
  |cont =>
   obtain⟨σ3,H3,I3,n3⟩:=q3;obtain⟨m',hm,w3⟩:=hN σ3 H3 n3;exact⟨m',hm,σ3,H3,I3,w3⟩
  |brk=>exact q3
  |ret v=>exact q3
 |false =>
  rw[ap bM];exact eX ⟨σ1,H2,I2,q2⟩
end
set_option genSizeOf false in
set_option genInjectivity false in
structure It where
 go:Nat->B->Prop
 yld:Nat->B->V->B->Prop
 stop:Nat->B->Prop
def Zd(X:Cx)(aM:List (ac×Obj))(H:B)(b:ac):Prop :=
 H b=ao/\b≠X.env.locals/\b ∉ X.fs/\(b∈X.ex\/X.s₀.heap.objs.size<=b)/\(∀x c,X.env.cells.lookup x=aa c->c≠b)/\∀p∈X.pn++aM,p.1≠b
theorem aU.fpOk{aM:List (ac×Obj)}{σ:St}{H H':B}{s:am}{b:ac}(I:aU X aM σ H s)(hb:s.heap.objs.size<=b)(hn:H' b=ao):Zd X aM H' b:=by
 refine⟨hn,fi (cg I.lt hb),I.nofs hb,.inr (bP I.sz hb),λx c e z=>?_,λp hp z=>?_⟩
 ·obtain⟨v,q⟩:=I.cell x c e;exact absurd (cg q.lt (by rw[z];exact hb)) (fO _)
 ·exact absurd (cg (bQ (I.pin p hp).1) (by rw[z];exact hb)) (fO _)
structure zc5(P:ax)(w:aA)(K:bw)(tg:aD)(J:It)(fp:List ac)(it:ac)(tn:Nat->ay->Prop):Prop where
 mem:it∈fp
 obj:∀i h,tn i h->∀b∈fp,∃o,h.get? b=aa o/\∀v,o.data≠.cell v
 keep:∀i h h',tn i h->(∀b∈fp,∀o,h.get? b=aa o->h'.get? b=aa o)->tn i h'
 item:∀(X:Cx),X.prog=P->X.w=w->X.K=K->X.calm=ah->∀(i:Nat) (aM:List (ac×Obj)) (s:am) (σ:St) (H:B) (E:af->am->Prop),aU X aM σ H s->(∀b∈fp,Zd X aM H b)->tn i s.heap->J.go i H ->
  Bf (Bg P w) X.A (pyNext (.ref it)) (λr s1=>∃u,r=aa u /\
   Bf (Bg P w) X.A (letOwnedTupleGo tg (.ref it) u) (λ_ s2=>∃x H',aU X aM σ H' s2/\aZ x u/\J.yld i H x H'/\tn (i+1) s2.heap/\∀b∈fp,H' b=ao) E s1) E s
 done:∀(X:Cx),X.prog=P->X.w=w->X.K=K->X.calm=ah->∀(i:Nat) (aM:List (ac×Obj)) (s:am) (σ:St) (H:B) (E:af->am->Prop),aU X aM σ H s->(∀b∈fp,Zd X aM H b)->tn i s.heap->J.stop i H ->
  Bf (Bg P w) X.A (pyNext (.ref it)) (λr s1=>r=ao/\aU X aM σ H s1) E s
 self:∀(A:aB) (i:Nat) (s:am) (Q:af->am->Prop) (E:af->am->Prop),tn i s.heap->Q (.ref it) s->Bf (Bg P w) A (pyIter (.ref it)) Q E s
abbrev TI:=St->B->(It->B->Prop)->Prop
def PIE(X:Cx)(aM:List (ac×Obj))(σ:St)(tg:aD)(R:It->B->Prop)(itv:af)(s2:am):Prop :=
 ∃(it:ac) (fp:List ac) (tn:Nat->ay->Prop) (J:It) (H':B),itv=.ref it/\aU X aM σ H' s2/\zc5 X.prog X.w X.K tg J fp it tn/\tn 0 s2.heap/\(∀b∈fp,Zd X aM H' b)/\R J H'
def PI(X:Cx)(tg iter:aD)(wi:TI):Prop :=
 ∀(aM:List (ac×Obj)) (s:am) (σ:St) (H:B) (R:It->B->Prop),aU X aM σ H s->wi σ H R ->
  Bf (Bg X.prog X.w) X.A (eval iter X.env) (λv s1=>Bf (Bg X.prog X.w) X.A (pyIter v) (PIE X aM σ tg R) X.xe s1) X.xe s
theorem zci{E:af->am->Prop}{Q:Unit->am->Prop}(ho:s.heap.get? it=aa o)(hc:o.cls=.type n)(hd:o.data=.fields vs)
  (hn:["enumerate","zip","dict_itemiterator","dict_reverseitemiterator","odict_iterator","itertools.zip_longest","itertools.pairwise"].contains n=aq) (hQ:Q PUnit.unit s):Bf M A (letOwnedTupleGo tg (.ref it) u) Q E s:=by
 unfold letOwnedTupleGo;cases tg <;> first
  |exact bf hQ
  | (cases u <;> first
      |exact bf hQ
      | (refine ba (oy ho ?_)
         rw[hc,hd];show Bf M A (if (["enumerate","zip","dict_itemiterator","dict_reverseitemiterator","odict_iterator","itertools.zip_longest","itertools.pairwise"].contains n&&vs[0]?==aa (rawInt _))=ah then _ else _) Q E s;rw[ap (by intro h;rw[hn,Bool.false_and] at h;cases h)];exact bf hQ))
def Itl(K:bw)(a:ac):It :=
 ⟨λi H=>∃xs x,aY K H a xs/\xs[i]?=aa x,λi H x H'=>H'=H/\∀xs,aY K H a xs->xs[i]?=aa x,λi H=>∃xs,aY K H a xs/\xs.length<=i⟩
def Itt(K:bw)(a:ac):It :=
 ⟨λi H=>∃xs x,sI K H a xs/\xs[i]?=aa x,λi H x H'=>H'=H/\∀xs,sI K H a xs->xs[i]?=aa x,λi H=>∃xs,sI K H a xs/\xs.length<=i⟩
def Itr(lo:Int)(n:Nat):It:=⟨λi _=>i<n,λi H x H'=>H'=H/\x=.int (lo+i),λi _=>n<=i⟩
theorem zc6{P:ax}{w:aA}{K:bw}{tg:aD}(a it:ac):zc5 P w K tg (Itl K a) [it] it (λi h=>h.IsListIter it a i) where
 mem:=by simp
 obj:=λi h st b hb=>by
  have e:b=it:=by simpa using hb
  subst e;obtain⟨o,e,c,d⟩:=st;exact⟨o,e,λv z=>by rw[d] at z;cases z⟩
 keep:=λi h h' st k=>st.at λo e=>k it (by simp) o e
 item:=by
  intro X hP hw hK hc i aM s σ H E I hf st hg;subst hP hw hK;obtain⟨xs,x,hq,hx⟩:=hg;obtain⟨its,rv,p,hz⟩:=I.list hq;obtain⟨u,hu,ru⟩:=rv.get hx;obtain⟨f0,f1,f2,f3,f4,f5⟩:=hf it (by simp);refine nJ st p.isList (x:=u) (by simpa using hu) λh' st' sb=>?_;have I1:aU X aM σ H { s with heap:=h' }:=I.turned (t':=s.toks) (λb o hb e=>(sb.2 b hb).trans e) f0 f1 f3 f4 f5;obtain⟨o,e,c,d⟩:=id st';exact⟨u,Y,zci (s:={ s with heap:=h' }) e c d () ⟨x,H,I1,ru,⟨rfl,λys hy=>by rw[I.list_inj hy hq];exact hx⟩,st',λb hb=>(hf b hb).1⟩⟩
 done:=by
  intro X hP hw hK hc i aM s σ H E I hf st hg;subst hP hw hK;obtain⟨xs,hq,hx⟩:=hg;obtain⟨its,rv,p,hz⟩:=I.list hq;obtain⟨f0,f1,f2,f3,f4,f5⟩:=hf it (by simp);have hl:=rv.length;exact nV (I.ok.hd hc) st p.isList (by simp;lia) λh' eb=>⟨Y,I.turned (t':=s.toks) (λb o hb e=>eb b o hb e) f0 f1 f3 f4 f5⟩
 self:=λ_ _ _ _ _ st h=>wpAny_pyIter_listiter st h
theorem zbw{P:ax}{w:aA}{K:bw}{tg:aD}(a it:ac):zc5 P w K tg (Itt K a) [it] it (λi h=>h.IsTupleIter it a i) where
 mem:=by simp
 obj:=λi h st b hb=>by
  have e:b=it:=by simpa using hb
  subst e;obtain⟨o,e,c,d⟩:=st;exact⟨o,e,λv z=>by rw[d] at z;cases z⟩
 keep:=λi h h' st k=>st.at λo e=>k it (by simp) o e
 item:=by
  intro X hP hw hK hc i aM s σ H E I hf st hg;subst hP hw hK;obtain⟨xs,x,hq,hx⟩:=hg;obtain⟨its,rv,p,hz⟩:=I.tuple hq;obtain⟨u,hu,ru⟩:=rv.get hx;obtain⟨f0,f1,f2,f3,f4,f5⟩:=hf it (by simp);refine wpAny_pyNext_tuple_item st (show s.heap.IsTuple a its.toArray from p) (x:=u) (by simpa using hu) λh' st' sb=>?_;have I1:aU X aM σ H { s with heap:=h' }:=I.turned (t':=s.toks) (λb o hb e=>(sb.2 b hb).trans e) f0 f1 f3 f4 f5;obtain⟨o,e,c,d⟩:=id st';exact⟨u,Y,zci (s:={ s with heap:=h' }) e c d () ⟨x,H,I1,ru,⟨rfl,λys hy=>by rw[I.tuple_inj hy hq];exact hx⟩,st',λb hb=>(hf b hb).1⟩⟩
 done:=by
  intro X hP hw hK hc i aM s σ H E I hf st hg;subst hP hw hK;obtain⟨xs,hq,hx⟩:=hg;obtain⟨its,rv,p,hz⟩:=I.tuple hq;obtain⟨f0,f1,f2,f3,f4,f5⟩:=hf it (by simp);have hl:=rv.length;exact wpAny_pyNext_tuple_end (I.ok.hd hc) st (show s.heap.IsTuple a its.toArray from p) (by simp;lia) λh' eb=>⟨Y,I.turned (t':=s.toks) (λb o hb e=>eb b o hb e) f0 f1 f3 f4 f5⟩
 self:=λ_ _ _ _ _ st h=>wpAny_pyIter_tupleiter st h
theorem zbx{P:ax}{w:aA}{K:bw}{tg:aD}(it:ac)(lo:Int)(n:Nat):zc5 P w K tg (Itr lo n) [it] it (λi h=>IsRangeIter h it (lo+(i:Nat)*1) ((n:Int)-(i:Nat)) 1) where
 mem:=by simp
 obj:=λi h st b hb=>by
  have e:b=it:=by simpa using hb
  subst e;exact⟨_,st,λv z=>by
   have z':Data.fields _=Data.cell v:=z;cases z'⟩
 keep:=λi h h' st k=>k it (by simp) _ st
 item:=by
  intro X hP hw hK hc i aM s σ H E I hf st hg;subst hP hw hK;obtain⟨f0,f1,f2,f3,f4,f5⟩:=hf it (by simp);have W:=Walks.range (prog:=X.prog) (w:=X.w) (I.ok.hd hc) it lo 1 n;refine W.item i s _ _ hg st λv h' tk hv st' kk=>?_;obtain⟨t,rfl⟩:=hv;have I1:aU X aM σ H { s with heap:=h',toks:=tk }:=I.turned (λb o hb e=>kk b o (by simpa using hb) e) f0 f1 f3 f4 f5;refine⟨_,Y,zci (s:={ s with heap:=h',toks:=tk }) (n:="range_iterator") st' rfl rfl () ⟨.int (lo+i),H,I1,⟨t,?_⟩,⟨rfl,rfl⟩,st',λb hb=>(hf b hb).1⟩⟩;rw[Int.mul_one]
 done:=by
  intro X hP hw hK hc i aM s σ H E I hf st hg;subst hP hw hK;obtain⟨f0,f1,f2,f3,f4,f5⟩:=hf it (by simp);exact wpAny_pyNext_range_end (I.ok.hd hc) st (by have:n<=i:=hg;lia) λh' eb=>⟨Y,I.turned (t':=s.toks) (λb o hb e=>eb b o hb e) f0 f1 f3 f4 f5⟩
 self:=λ_ _ _ _ _ st h=>wpAny_pyIter_rangeiter st h
section
variable {X:Cx}{tg:aD}
def xc(K:bw)(tl:TE):TI:=λσ H R=>tl σ H λx H1=>∃a,x=.ref a/\(∃xs,aY K H1 a xs)/\R (Itl K a) H1
def zhv(K:bw)(tl:TE):TI:=λσ H R=>tl σ H λx H1=>∃a,x=.ref a/\(∃xs,sI K H1 a xs)/\R (Itt K a) H1
theorem xW{tl:TE}(hl:PE X l tl):PI X tg l (xc X.K tl):=by
 intro aM s σ H R I h;refine sr (hl aM s σ H _ I h) λv s1 ⟨x,H1,I1,r1,q1⟩=>?_;obtain⟨a,e,⟨xs,hq⟩,q⟩:=q1;subst e;cases r1;obtain⟨its,rv,p,hz⟩:=I1.list hq;refine wpAny_pyIter_list p.isList ?_;refine⟨s1.heap.objs.size,[s1.heap.objs.size],_,_,H1,Y,I1.kept (t':=s1.toks) λb o e=>bd _ e,zc6 a _,⟨_,bG _ Y,Y,Y⟩,λb hb=>?_,q⟩;have e:b=s1.heap.objs.size:=by simpa using hb
 subst e;exact I1.fpOk (bp _) (I1.hok.fresh (bp _))
theorem zhw{tl:TE}(hl:PE X l tl):PI X tg l (zhv X.K tl):=by
 intro aM s σ H R I h;refine sr (hl aM s σ H _ I h) λv s1 ⟨x,H1,I1,r1,q1⟩=>?_;obtain⟨a,e,⟨xs,hq⟩,q⟩:=q1;subst e;cases r1;obtain⟨its,rv,p,hz⟩:=I1.tuple hq;refine l9 (show s1.heap.IsTuple a its.toArray from p) ?_;refine⟨s1.heap.objs.size,[s1.heap.objs.size],_,_,H1,Y,I1.kept (t':=s1.toks) λb o e=>bd _ e,zbw a _,⟨_,bG _ Y,Y,Y⟩,λb hb=>?_,q⟩;have e:b=s1.heap.objs.size:=by simpa using hb
 subst e;exact I1.fpOk (bp _) (I1.hok.fresh (bp _))
theorem zdW{σ:St}{H:B}{s:am}{R:It->B->Prop}{E:af->am->Prop}{lo hi:Int}{t u v:Tok}{tk:Nat}(I:aU X aM σ H s)(h1:-(2^62)<=lo)(h2:lo<2^62)(h3:-(2^62)<=hi)(h4:hi<2^62)
  (q:R (Itr lo (hi-lo).toNat) H):Bf (Bg X.prog X.w) X.A (pyIter (.ref s.heap.objs.size)) (PIE X aM σ tg R) E { s with heap:=s.heap.push { cls:=.type "range",data:=.fields #[.int lo t,.int hi u,.int 1 v] },toks:=tk }:=by
 refine wpAny_pyIter_range (IsRange.new ..) (small_one h1 h2 h3 h4) ?_;have I1:aU X aM σ H { s with heap:=s.heap.push { cls:=.type "range",data:=.fields #[.int lo t,.int hi u,.int 1 v] },toks:=tk }:=I.kept λb o e=>bd _ e;refine⟨(s.heap.push { cls:=.type "range",data:=.fields #[.int lo t,.int hi u,.int 1 v] }).objs.size,[(s.heap.push { cls:=.type "range",data:=.fields #[.int lo t,.int hi u,.int 1 v] }).objs.size],_,_,H,Y,
  I1.kept (t':=tk) λb o e=>bd _ e,zbx _ lo (hi-lo).toNat,?_,λb hb=>?_,q⟩
 ·have e1:lo+((0:Nat):Int)*1=lo:=by simp
  have e2:(((hi-lo).toNat:Nat):Int)-((0:Nat):Int)=Builtin.Range.rangeSize lo hi 1:=by rw[rangeSize_one];split <;> lia
  show IsRangeIter _ _ (lo+((0:Nat):Int)*1) ((((hi-lo).toNat:Nat):Int)-((0:Nat):Int)) 1;rw[e1,e2];exact bG _ rfl
 ·have e:b=(s.heap.push { cls:=.type "range",data:=.fields #[.int lo t,.int hi u,.int 1 v] }).objs.size:=by simpa using hb
  subst e;exact I1.fpOk (bp _) (I1.hok.fresh (bp _))
def WF(ta:TA):TI:=λσ H R=>ta σ H λvs H1=>∃j:Int,vs=[.int j]/\-(2^62)<=j/\j<2^62/\R (Itr 0 j.toNat) H1
theorem Wc{ta:TA}(hg:Gl X "range")(hm:X.mg "range"=ao)(ha:PA X [a] ta)(hs:Be [a] X.env=[(aq,eval a X.env)]:=by rfl):PI X tg (.Call (.Name "range" p) [a] [] pos) (WF ta):=by
 intro aM s σ H R I h;refine Call_ (X9 I hg hm boot_range (gc (sr (ha pos aM s σ H _ I h) λus s1 ⟨vs,H1,I1,r1,q1⟩=>?_) hs Y));obtain⟨j,e,q1,q2,q⟩:=q1;subst e;cases r1 with
 |cons r rr =>
  cases rr;obtain⟨t,rfl⟩:=r;exact call_range_1 (zdW I1 () () q1 q2 (by simpa using q))
def wZ(wi:TI)(g:TG)(tb:TS):TS:=λD σ H=>wi σ H λJ H1=>∃W:Nat->Nat->St->B->Prop,(∃m,W 0 m σ H1)/\∀i m σ H,W i m σ H ->
 (J.stop i H/\D.nx σ H)\/(J.go i H/\∃N:St->B->Prop,(∀σ' H',N σ' H'->∃m',m'<m/\W (i+1) m' σ' H')/\∀x H',J.yld i H x H'->g x σ H' λσ2 H2=>tb { D with nx:=N,ct:=N,bk:=D.nx } σ2 H2)
def Vq(fp:List ac)(h:ay):List (ac×Obj):=fp.filterMap λb=>(h.get? b).map λo=>(b,o)
theorem kZ(hb:b∈fp)(e:h.get? b=aa o):(b,o)∈Vq fp h:=fZ.mpr ⟨b,hb,by rw[e];rfl⟩
theorem zc7(hp:p∈Vq fp h):p.1∈fp/\h.get? p.1=aa p.2:=by
 obtain⟨b,hb,e⟩:=List.mem_filterMap.mp hp;cases q:h.get? b with
 |none=>rw[q] at e;cases e
 |some o =>
  rw[q] at e;have e':(b,o)=p:=bL e;subst e';exact⟨hb,q⟩
theorem aU.pinned{σ:St}{H:B}{s:am}{fp:List ac}(I:aU X aM σ H s)(hf:∀b∈fp,Zd X aM H b)(ho:∀b∈fp,∃o,s.heap.get? b=aa o/\∀v,o.data≠.cell v):aU X (aM++Vq fp s.heap) σ H s:=
 I.pins_of λp hp=>(bC.mp hp).elim (λz=>I.pin p (bR _ z)) λz=>by
  obtain⟨hb,e⟩:=zc7 z;obtain⟨f0,f1,f2,_⟩:=hf p.1 hb;obtain⟨o,e',d⟩:=ho p.1 hb;rw[e] at e';cases e';exact⟨e,f0,f1,f2,d⟩
theorem aU.unpinned{σ:St}{H:B}{s:am}(I:aU X (aM++pl) σ H s):aU X aM σ H s:=I.pins_of λp hp=>I.pin p (bR _ (cM _ hp))
theorem yU{wi:TI}{g:TG}{tb:TS}(hp:PassesOwn (Bg X.prog X.w) X.A X.env X.xe)(hc:X.calm=ah)(hi:PI X tg iter wi)(hg:PG X tg g)(hb:PSs X body tb)
  (hs:∀x,foldedSetIterable iter X.env x=pure x:=by intro _;rfl):PS X (.For tg iter body [] pos) (wZ wi g tb):=by
 intro aM s σ H D I h;refine wpAny_For (sr (hi aM s σ H _ I h) λv s1 h1=>sr h1 λitv s2 h2=>?_) hs;obtain⟨it,fp,tn,J,H2,e,I2,T,st2,f2,W,⟨m0,w0⟩,turn⟩:=h2;subst e
 -- what stays ah of the iterator's objects through the loop
 have stat:∀ {H':B},(∀b∈fp,H' b=ao)->∀b∈fp,Zd X aM H' b:=λhn b hb=>⟨hn b hb,(f2 b hb).2⟩;refine codeAny_forLoop_any (λn s'=>∃i σ' H',aU X aM σ' H' s'/\tn i s'.heap/\(∀b∈fp,H' b=ao)/\W i n σ' H') ?_ m0 ⟨0,σ,H2,I2,st2,λb hb=>(f2 b hb).1,w0⟩;rintro n s3 ⟨i,σ3,H3,I3,st3,fr3,w3⟩;rcases turn i n σ3 H3 w3 with ⟨stop,qn⟩|⟨go,N,hN,step⟩
 ·refine fH hp (sr (T.done X Y Y Y hc i aM s3 σ3 H3 X.xe I3 (stat fr3) st3 stop) λr s4 ⟨hr,I4⟩=>?_);subst hr;exact eX ⟨σ3,H3,I4,qn⟩
 ·refine fH hp (sr (T.item X Y Y Y hc i aM s3 σ3 H3 X.xe I3 (stat fr3) st3 go) λr s4 ⟨u,hr,h4⟩=>?_);subst hr;refine fH hp (sr h4 λ_ s5 ⟨x,H5,I5,r5,y5,st5,fr5⟩=>?_);have I5':=I5.pinned (stat fr5) (T.obj _ _ st5);refine fH hp (sr (hg _ s5 σ3 H5 x u _ I5' r5 (step x H5 y5)) λ_ s6 ⟨σ6,H6,I6,q6⟩=>?_);refine fH hp (sr (hb _ s6 σ6 H6 _ I6 q6) λf s7 q7=>?_);have again:∀ {σ7:St} {H7:B},aU X (aM++Vq fp s5.heap) σ7 H7 s7->N σ7 H7->∃m,m<n/\∃i σ' H',aU X aM σ' H' s7/\tn i s7.heap/\(∀b∈fp,H' b=ao)/\W i m σ' H':=λ{σ7 H7} I7 n7=>by
   obtain⟨m',hm,w7⟩:=hN σ7 H7 n7;refine⟨m',hm,i+1,σ7,H7,I7.unpinned,T.keep _ _ _ st5 λb hb o e=>(I7.pin (b,o) (bR _ (bR _ (kZ hb e)))).1,λb hb=>?_,w7⟩;obtain⟨o,e,d⟩:=T.obj _ _ st5 b hb;exact(I7.pin (b,o) (bR _ (bR _ (kZ hb e)))).2.1
  cases f with
  |next=>obtain⟨σ7,H7,I7,n7⟩:=q7;exact again I7 n7
  |cont=>obtain⟨σ7,H7,I7,n7⟩:=q7;exact again I7 n7
  |brk=>obtain⟨σ7,H7,I7,q7⟩:=q7;exact⟨σ7,H7,I7.unpinned,q7⟩
  |ret v=>obtain⟨x7,σ7,H7,I7,r7,q7⟩:=q7;exact⟨x7,σ7,H7,I7.unpinned,r7,q7⟩
end
abbrev R2:=V->V->B->VK->Prop
def tE(X:Cx)(f:af->af->Sem af)(r:R2):Prop :=
 ∀(aM:List (ac×Obj)) (s:am) (σ:St) (H:B) (x y:V) (v u:af) (Q:VK),aU X aM σ H s->aZ x v->aZ y u->r x y H Q ->
  Bf (Bg X.prog X.w) X.A (f v u) (EP X aM σ Q) X.xe s
def UnR(X:Cx)(f:af->Sem af)(r:V->B->VK->Prop):Prop :=
 ∀(aM:List (ac×Obj)) (s:am) (σ:St) (H:B) (x:V) (v:af) (Q:VK),aU X aM σ H s->aZ x v->r x H Q ->
  Bf (Bg X.prog X.w) X.A (f v) (EP X aM σ Q) X.xe s
def jE(X:Cx)(f:af)(r:List V->B->VK->Prop):Prop :=
 ∀(aM:List (ac×Obj)) (s:am) (σ:St) (H:B) (xs:List V) (us:List af) (Q:VK),aU X aM σ H s->aX xs us->r xs H Q ->
  Bf (Bg X.prog X.w) X.A (call f us) (EP X aM σ Q) X.xe s
def aQ(r:R2)(ta tb:TE):TE:=λσ H Q=>ta σ H λx H1=>tb σ H1 λy H2=>r x y H2 Q
def tUn(r:V->B->VK->Prop)(ta:TE):TE:=λσ H Q=>ta σ H λx H1=>r x H1 Q
def rI(C:Int->Int->Prop)(g:Int->Int->V):R2:=λx y H Q=>∃i j,x=.int i/\y=.int j/\C i j/\Q (g i j) H
def rI0(g:Int->Int->V):R2:=λx y H Q=>∃i j,x=.int i/\y=.int j/\Q (g i j) H
def rU(g:Int->V):V->B->VK->Prop:=λx H Q=>∃i,x=.int i/\Q (g i) H
section
variable {X:Cx}{a b c:aD}{ta tb tc:TE}{pos:Pos}
theorem zhx(ha:PE X a ta)(hb:PE X b tb){s:am}{σ:St}{H:B}{R:V->V->B->Prop}(I:aU X aM σ H s)
  (h:ta σ H λx H1=>tb σ H1 λy H2=>R x y H2) {Q:af->am->Prop} {f:af->af->Sem af}
  (hf:∀v u s2 x y H2,aU X aM σ H2 s2->aZ x v->aZ y u->R x y H2->Bf (Bg X.prog X.w) X.A (f v u) Q X.xe s2) :
  Bf (Bg X.prog X.w) X.A (eval a X.env) (λv s₁=>Bf (Bg X.prog X.w) X.A (eval b X.env) (λu s₂=>Bf (Bg X.prog X.w) X.A (f v u) Q X.xe s₂) X.xe s₁) X.xe s:=by
 refine sr (ha aM s σ H _ I h) λv s1 ⟨x,H1,I1,r1,q1⟩=>?_;refine sr (hb aM s1 σ H1 _ I1 q1) λu s2 ⟨y,H2,I2,r2,q2⟩=>?_;exact hf v u s2 x y H2 I2 r1 r2 q2
theorem zQ{r:R2}(ho:tE X (binaryOp op) r)(ha:PE X a ta)(hb:PE X b tb):PE X (.BinOp a op b pos) (aQ r ta tb):=by
 intro aM s σ H Q I h;exact wpAny_BinOp (zhx ha hb I h λv u s2 x y H2 I2 rx ry q=>ho aM s2 σ H2 x y v u Q I2 rx ry q)
theorem zdX{r:V->B->VK->Prop}(ho:UnR X (unaryOp op) r)(ha:PE X a ta):PE X (.UnaryOp op a pos) (tUn r ta):=by
 intro aM s σ H Q I h;exact UnaryOp_ (sr (ha aM s σ H _ I h) λv s1 ⟨x,H1,I1,r1,q1⟩=>ho aM s1 σ H1 x v Q I1 r1 q1)
theorem opI{f:af->af->Sem af}{C:Int->Int->Prop}{g:Int->Int->Int}
  (rule:∀(i j:Int) (t u:Tok) (s:am) (Q:af->am->Prop) (E:af->am->Prop),C i j->Q (.int (g i j) s.toks) { s with toks:=s.toks+1 }->Bf (Bg X.prog X.w) X.A (f (.int i t) (.int j u)) Q E s) :
  tE X f (rI C λi j=>.int (g i j)):=by
 intro aM s σ H x y v u Q I rx ry h;obtain⟨i,j,rfl,rfl,hc,q⟩:=h;obtain⟨t,rfl⟩:=rx;obtain⟨t',rfl⟩:=ry;exact rule i j t t' s _ _ hc ⟨.int (g i j),H,I.tok _,⟨_,Y⟩,q⟩
theorem zil{f:af->af->Sem af}{g:Int->Int->Int}
  (rule:∀(i j:Int) (t u:Tok) (s:am) (Q:af->am->Prop) (E:af->am->Prop),Q (.int (g i j) s.toks) { s with toks:=s.toks+1 }->Bf (Bg X.prog X.w) X.A (f (.int i t) (.int j u)) Q E s) :
  tE X f (rI0 λi j=>.int (g i j)):=by
 intro aM s σ H x y v u Q I rx ry h;obtain⟨i,j,rfl,rfl,q⟩:=h;obtain⟨t,rfl⟩:=rx;obtain⟨t',rfl⟩:=ry;exact rule i j t t' s _ _ ⟨.int (g i j),H,I.tok _,⟨_,Y⟩,q⟩
theorem zhy{f:af->af->Sem af}{g:Int->Int->Bool}
  (rule:∀(i j:Int) (t u:Tok) (s:am) (Q:af->am->Prop) (E:af->am->Prop),Q (.bool (g i j)) s->Bf (Bg X.prog X.w) X.A (f (.int i t) (.int j u)) Q E s) :
  tE X f (rI0 λi j=>.bl (g i j)):=by
 intro aM s σ H x y v u Q I rx ry h;obtain⟨i,j,rfl,rfl,q⟩:=h;obtain⟨t,rfl⟩:=rx;obtain⟨t',rfl⟩:=ry;exact rule i j t t' s _ _ ⟨.bl (g i j),H,I,Y,q⟩
def KJ(i j:Int):Prop:=0<=j/\j<=1000000/\i.natAbs<2^64
theorem k7:tE X (binaryOp .Add) (rI0 λi j=>.int (i+j)):=zil λ_ _ _ _ _ _ _ q=>add_int q
theorem zby:tE X (binaryOp .Sub) (rI0 λi j=>.int (i-j)):=zil λ_ _ _ _ _ _ _ q=>sub_int q
theorem xE:tE X (binaryOp .Mod) (rI (λ_ j=>0<j) λi j=>.int (i%j)):=opI λi j _ _ _ _ _ hc q=>by
 have h1:(0:Int)<j:=hc;exact mod_int' () (by rw[Int.fmod_eq_emod_of_nonneg i ()];exact q)
theorem zfX:tE X (binaryOp .Mod) (rI (λ_ j=>j≠0) λi j=>.int (i.fmod j)):=opI λ_ _ _ _ _ _ _ hc q=>mod_int' hc q
theorem zbz:tE X (binaryOp .Pow) (rI KJ λi j=>.int (i^j.toNat)):=opI λ_ _ _ _ _ _ _ hc q=>pow_int_small hc.1 hc.2.1 hc.2.2 q
theorem unI{f:af->Sem af}{g:Int->Int}
  (rule:∀(i:Int) (t:Tok) (s:am) (Q:af->am->Prop) (E:af->am->Prop),Q (.int (g i) s.toks) { s with toks:=s.toks+1 }->Bf (Bg X.prog X.w) X.A (f (.int i t)) Q E s) :
  UnR X f (rU λi=>.int (g i)):=by
 intro aM s σ H x v Q I rx h;obtain⟨i,rfl,q⟩:=h;obtain⟨t,rfl⟩:=rx;exact rule i t s _ _ ⟨.int (g i),H,I.tok _,⟨_,Y⟩,q⟩
theorem zbA:UnR X (unaryOp .USub) (rU λi=>.int (-i)):=unI λ_ _ _ _ _ q=>neg_int q
end
def zc8:V->V->Bool
 |.non,.non=>ah|.non,.int _=>ah|.int _,.non=>ah|.non,.bl _=>ah|.bl _,.non=>ah|.non,.str _=>ah|.str _,.non=>ah
 |.int _,.int _=>ah|.bl _,.bl _=>ah|.str _,.str _=>ah|.byt _,.byt _=>ah
 |.int _,.str _=>ah|.str _,.int _=>ah|.bl _,.str _=>ah|.str _,.bl _=>ah
 |_,_=>aq
def sX:R2:=λx y H Q=>zc8 x y=ah/\Q (.bl (decide (x=y))) H
def rNe:R2:=λx y H Q=>zc8 x y=ah/\Q (.bl (!decide (x=y))) H
theorem zcj{i j:Int}:decide (V.int i=V.int j)=(i==j):=by
 rw[lL];simp
theorem zdY :decide (V.bl i=V.bl j)=(i==j):=by
 rw[lL];simp
theorem zck :decide (V.str i=V.str j)=(i==j):=by
 rw[lL];simp
theorem zcl :decide (V.byt i=V.byt j)=(i.toList==j.toList):=by
 rw[lL];cases i;cases j;simp
section
variable {X:Cx}{a b c:aD}{ta tb tc:TE}{pos:Pos}
theorem zW{σ:St}{H:B}{s:am}{Q:VK}{k k':Bool}(I:aU X aM σ H s)(q:Q (.bl k) H)(e:k=k'):EP X aM σ Q (.bool k') s:=by
 subst e;exact⟨.bl k,H,I,Y,q⟩
theorem vJ:tE X (Bi .Eq) sX:=by
 intro aM s σ H x y v u Q I rx ry h;obtain⟨hs,q⟩:=h;cases x with
 |non =>
  cases rx;cases y with
  |non=>cases ry;exact PySem.EqNone.eq_none_none (zW I q (by simp))
  |bl j=>cases ry;exact PySem.EqNone.eq_none_bool (zW I q (by simp))
  |int j=>obtain⟨t',rfl⟩:=ry;exact PySem.EqNone.eq_none_int (zW I q (by simp))
  |str j=>obtain⟨t',rfl⟩:=ry;exact PySem.EqNone.eq_none_str (zW I q (by simp))
  |_=>exact absurd (show aq=ah from hs) bM
 |bl i =>
  cases rx;cases y with
  |non=>cases ry;exact PySem.EqNone.eq_bool_none (zW I q (by simp))
  |bl j=>cases ry;exact eq_bool (zW I q zdY)
  |str j=>obtain⟨t',rfl⟩:=ry;exact PySem.EqMixed.eq_bool_str (zW I q (by simp))
  |_=>exact absurd (show aq=ah from hs) bM
 |int i =>
  obtain⟨t,rfl⟩:=rx;cases y with
  |non=>cases ry;exact PySem.EqNone.eq_int_none (zW I q (by simp))
  |int j=>obtain⟨t',rfl⟩:=ry;exact eq_int (zW I q zcj)
  |str j=>obtain⟨t',rfl⟩:=ry;exact PySem.EqMixed.eq_int_str (zW I q (by simp))
  |_=>exact absurd (show aq=ah from hs) bM
 |str i =>
  obtain⟨t,rfl⟩:=rx;cases y with
  |non=>cases ry;exact PySem.EqNone.eq_str_none (zW I q (by simp))
  |bl j=>cases ry;exact PySem.EqMixed.eq_str_bool (zW I q (by simp))
  |int j=>obtain⟨t',rfl⟩:=ry;exact PySem.EqMixed.eq_str_int (zW I q (by simp))
  |str j=>obtain⟨t',rfl⟩:=ry;exact eq_str (zW I q zck)
  |_=>exact absurd (show aq=ah from hs) bM
 |byt i =>
  obtain⟨t,rfl⟩:=rx;cases y with
  |byt j=>obtain⟨t',rfl⟩:=ry;exact W.eq_bytes (zW I q zcl)
  |_=>exact absurd (show aq=ah from hs) bM
 |_=>cases y <;> exact absurd (show aq=ah from hs) bM
theorem Vr:tE X (Bi .NotEq) rNe:=by
 intro aM s σ H x y v u Q I rx ry h;obtain⟨hs,q⟩:=h;cases x with
 |non =>
  cases rx;cases y with
  |non=>cases ry;exact PySem.EqNone.ne_none_none (zW I q (by simp))
  |bl j=>cases ry;exact PySem.EqNone.ne_none_bool (zW I q (by simp))
  |int j=>obtain⟨t',rfl⟩:=ry;exact PySem.EqNone.ne_none_int (zW I q (by simp))
  |str j=>obtain⟨t',rfl⟩:=ry;exact PySem.EqNone.ne_none_str (zW I q (by simp))
  |_=>exact absurd (show aq=ah from hs) bM
 |bl i =>
  cases rx;cases y with
  |non=>cases ry;exact PySem.EqNone.ne_bool_none (zW I q (by simp))
  |bl j=>cases ry;exact ne_bool (zW I q (congrArg not zdY))
  |str j=>obtain⟨t',rfl⟩:=ry;exact PySem.EqMixed.ne_bool_str (zW I q (by simp))
  |_=>exact absurd (show aq=ah from hs) bM
 |int i =>
  obtain⟨t,rfl⟩:=rx;cases y with
  |non=>cases ry;exact PySem.EqNone.ne_int_none (zW I q (by simp))
  |int j=>obtain⟨t',rfl⟩:=ry;exact ne_int (zW I q (congrArg not zcj))
  |str j=>obtain⟨t',rfl⟩:=ry;exact PySem.EqMixed.ne_int_str (zW I q (by simp))
  |_=>exact absurd (show aq=ah from hs) bM
 |str i =>
  obtain⟨t,rfl⟩:=rx;cases y with
  |non=>cases ry;exact PySem.EqNone.ne_str_none (zW I q (by simp))
  |bl j=>cases ry;exact PySem.EqMixed.ne_str_bool (zW I q (by simp))
  |int j=>obtain⟨t',rfl⟩:=ry;exact PySem.EqMixed.ne_str_int (zW I q (by simp))
  |str j=>obtain⟨t',rfl⟩:=ry;exact ne_str (zW I q (congrArg not zck))
  |_=>exact absurd (show aq=ah from hs) bM
 |byt i =>
  obtain⟨t,rfl⟩:=rx;cases y with
  |byt j=>obtain⟨t',rfl⟩:=ry;exact W.ne_bytes (zW I q (congrArg not zcl))
  |_=>exact absurd (show aq=ah from hs) bM
 |_=>cases y <;> exact absurd (show aq=ah from hs) bM
theorem Yt:tE X (Bi .Lt) (rI0 λi j=>.bl (decide (i<j))):=zhy λ_ _ _ _ _ _ _ q=>lt_int q
theorem zdZ:tE X (Bi .LtE) (rI0 λi j=>.bl (decide (i<=j))):=zhy λ_ _ _ _ _ _ _ q=>le_int q
theorem zg5:tE X (Bi .GtE) (rI0 λi j=>.bl (decide (j<=i))):=zhy λ_ _ _ _ _ _ _ q=>ge_int q
theorem KK:tE X (Bi .Is) (λx y H Q=>y=.non/\Q (.bl (decide (x=.non))) H):=by
 intro aM s σ H x y v u Q I rx ry h;obtain⟨rfl,q⟩:=h;cases ry;refine is_none_gen (zW I q ?_);cases x <;> first
  |(cases rx;rfl)
  |(obtain⟨t,rfl⟩:=rx;rfl)
theorem Xl:tE X (Bi .IsNot) (λx y H Q=>y=.non/\Q (.bl (!decide (x=.non))) H):=by
 intro aM s σ H x y v u Q I rx ry h;obtain⟨rfl,q⟩:=h;cases ry;refine isnot_none_gen (zW I q ?_);cases x <;> first
  |(cases rx;rfl)
  |(obtain⟨t,rfl⟩:=rx;rfl)
theorem zM(b:aD)(h:op≠.In:=by lia)(h2:op≠.NotIn:=by lia):behindInMarks op b=aq:=by
 have e1:(op==CmpOp.In)=aq:=by cases op <;> first|rfl|exact absurd Y h
 have e2:(op==CmpOp.NotIn)=aq:=by cases op <;> first|rfl|exact absurd Y h2
 cases b <;> simp[behindInMarks,e1,e2]
theorem k8{r:R2}(ho:tE X (Bi op) r)(ha:PE X a ta)(hb:PE X b tb)(hm:behindInMarks op b=aq):PE X (.Compare a [op] [b] pos) (aQ r ta tb):=by
 intro aM s σ H Q I h;exact wpAny_Compare1 (zhx ha hb I h λv u s2 x y H2 I2 rx ry q=>ho aM s2 σ H2 x y v u Q I2 rx ry q) hm
def zu(t:TE):TT:=λσ H Q=>t σ H λx H'=>∃k,x=.bl k/\Q k H'
theorem zB{r:R2}(ho:tE X (Bi op) r)(ha:PE X a ta)(hb:PE X b tb)(hm:behindInMarks op b=aq):PT X (.Compare a [op] [b] pos) (zu (aQ r ta tb)):=by
 intro aM s σ H Q I h;refine wpAny_isTrue_Compare1 (sr (ha aM s σ H _ I h) λv s1 ⟨x,H1,I1,r1,q1⟩=>sr (hb aM s1 σ H1 _ I1 q1) λu s2 ⟨y,H2,I2,r2,q2⟩ =>
  sr (ho aM s2 σ H2 x y v u _ I2 r1 r2 q2) λc s3 ⟨z,H3,I3,r3,k,e,q3⟩=>?_) hm
 subst e;cases r3;exact fG ⟨H3,I3,q3⟩
def KL(r r':R2)(ta tb tc:TE):TE:=λσ H Q=>ta σ H λx H1=>tb σ H1 λy H2=>r x y H2 λz H3=>∃k,z=.bl k /\
 (if k=ah then tc σ H3 λw' H4=>r' y w' H4 Q else Q (.bl aq) H3)
theorem Q8{r r':R2}(ho:tE X (Bi op) r)(ho':tE X (Bi op') r')(ha:PE X a ta)(hb:PE X b tb)(hc:PE X c tc)
  (hm:lastMarks [op,op'] [b,c]=aq:=by with_unfolding_all rfl):PE X (.Compare a [op,op'] [b,c] pos) (KL r r' ta tb tc):=by
 intro aM s σ H Q I h;refine Compare_chain (sr (ha aM s σ H _ I h) λv s1 ⟨x,H1,I1,r1,q1⟩=>chain_link (sr (hb aM s1 σ H1 _ I1 q1) λu s2 ⟨y,H2,I2,r2,q2⟩ =>
  sr (ho aM s2 σ H2 x y v u _ I2 r1 r2 q2) λd s3 ⟨z,H3,I3,r3,k,e,q3⟩=>?_)) hm
 subst e;cases r3;refine fG ?_;cases k with
 |false=>exact ite_ff ⟨.bl aq,H3,I3,Y,q3⟩
 |true=>exact ite_tt (chain_last (sr (hc aM s3 σ H3 _ I3 q3) λw' s4 ⟨z',H4,I4,r4,q4⟩=>ho' aM s4 σ H4 y z' u w' Q I4 r2 r4 q4))
theorem KM:(Bb:Nat)<2^63:=by rw[bT];decide
theorem YR:tE X (binaryOp .Add) (λx y H Q=>∃i j,x=.str i/\y=.str j/\i.length+j.length<=Bb/\Q (.str (i++j)) H):=by
 intro aM s σ H x y v u Q I rx ry h;obtain⟨i,j,rfl,rfl,hz,q⟩:=h;obtain⟨t,rfl⟩:=rx;obtain⟨t',rfl⟩:=ry;exact add_str (λt' tk=>⟨.str (i++j),H,I.tok _,⟨_,Y⟩,q⟩) hz
theorem jF(r:aX [x] us):∃u,us=[u]/\aZ x u:=by
 cases r with
 |cons r1 r2=>cases r2;exact⟨_,Y,r1⟩
theorem zg6(r:aX [x,y] us):∃u w',us=[u,w']/\aZ x u/\aZ y w':=by
 cases r with
 |cons r1 r2 =>
  cases r2 with
  |cons r3 r4=>cases r4;exact⟨_,_,Y,r1,r3⟩
def zc9(K:bw)(x:V)(H:B)(n:Nat):Prop :=
 match x with
 |.str y=>y.length<=Bb/\n=y.length
 |.byt y=>y.size<=Bb/\n=y.size
 |.ref p=>(∃xs,aY K H p xs/\n=xs.length)\/∃xs,sI K H p xs/\n=xs.length
 |_=>False
theorem yN:jE X (.builtin "len") (λxs H Q=>∃x n,xs=[x]/\zc9 X.K x H n/\Q (.int n) H):=by
 intro aM s σ H xs us Q I r h;obtain⟨x,n,rfl,e,q⟩:=h;obtain⟨u,rfl,rx⟩:=jF r;have hl:=KM;have hs:Bb=16777216:=bT;cases x with
 |str y =>
  obtain⟨t,rfl⟩:=rx;obtain⟨hy,e'⟩:y.length<=Bb/\n=y.length:=e;subst e';exact len_str () ⟨.int _,H,I.tok _,⟨_,Y⟩,q⟩
 |byt y =>
  obtain⟨t,rfl⟩:=rx;obtain⟨hy,e'⟩:y.size<=Bb/\n=y.size:=e;subst e';exact W.len_bytes () ⟨.int _,H,I.tok _,⟨_,Y⟩,q⟩
 |ref p =>
  cases rx;have e':(∃xs,aY X.K H p xs/\n=xs.length)\/∃xs,sI X.K H p xs/\n=xs.length:=e;rcases e' with ⟨xs,hx,e'⟩|⟨xs,hx,e'⟩
  ·subst e';obtain⟨its,r',pl,hz⟩:=I.list hx;have hlen:=r'.length;exact Calls.call_len_list pl.isList (by simp only[bJ];lia) ⟨.int xs.length,H,I.tok _,⟨_,by simp only[bJ];rw[hlen]⟩,q⟩
  ·subst e';obtain⟨its,r',pl,hz⟩:=I.tuple hx;have hlen:=r'.length;exact len_tuple pl (by simp only[bJ];lia) ⟨.int xs.length,H,I.tok _,⟨_,by simp only[bJ];rw[hlen]⟩,q⟩
 |_=>exact(show False from e).elim
end
structure ObjM(h:ay)(x dx C:ac)(mA:Str->Option af):Prop where
 obj:h.get? x=aa (fU C dx)
 ns:h.Ns1 dx mA
 ne:dx≠x
theorem zda{h:ay}{mA:Str->Option af}(n:h.Ns1 dx mA):∃od,h.get? dx=aa od/\∀name,sd name od=aa (mA name):=by
 obtain⟨o,es,ep,ho,hd,hk,_,hm⟩:=n;refine⟨o,ho,λname=>?_⟩;have e:=hm name;unfold nsFind findBy at e;rw[<-Array.find?_toList] at e;unfold sd;rw[hd];dsimp only;split
 ·rename_i y q;rw[q] at e;exact congrArg aa e
 ·rename_i q;rw[q] at e;have a:es.toList.any (·.refKey)=aq:=by
   rw[List.any_eq_false];intro y hy;obtain⟨z,t,hkey⟩:=hk y (Array.mem_toList_iff.mp hy);simp[DictEntry.refKey,hkey]
  have a':¬ es.toList.any (·.refKey)=ah:=by rw[a];exact bM
  rw[ap a'];exact congrArg aa e
theorem ObjM.look{mA:Str->Option af}(I:ObjM h x dx C mA):∃od,W.InstAt h x (fU C dx) C (aa od)/\∀name,sd name od=aa (mA name):=
 let ⟨od,ho,hl⟩:=zda I.ns
 ⟨od,⟨I.obj,Y,Y,ho⟩,hl⟩
section
variable {prog:ax}{w:aA}{A:aB}{E:af->am->Prop}{s:am}{K:bw}{x dx C f:ac}{mA:Str->Option af}{name:Str}{v:af}
theorem zfY{Q:af->am->Prop}(X:K.In s.heap)(I:ObjM s.heap x dx C mA)(hg:gC K C name=ah)(hh:gg K C=ah)
  (ha:ck K (.ref C) name=aa ao) (hv:mA name=aa v) (hv':W.handedIn v=ah) (h:Q v { s with toks:=s.toks+1 }) :
  Bf (Bg prog w) A (getAttr (.ref x) name expr) Q E s:=by
 obtain⟨od,J,hl⟩:=I.look;exact W.get_value X J (ph hg).1 (W.findObj_own hh ha Y (by rw[hl,hv])) hv' h
theorem zd0{pl:Sem Bool}{Q:af×List af->am->Prop}(X:K.In s.heap)(I:ObjM s.heap x dx C mA)(hg:gC K C name=ah)
  (hf:ck K (.ref C) name=aa (aa (.ref f))) (ht:pX K (.ref f)=ah) (hv:mA name=ao) (h:Q (.ref f,[.ref x]) s) :
  Bf (Bg prog w) A (getMethod (.ref x) name pl) Q E s:=by
 obtain⟨od,J,hl⟩:=I.look;exact W.method_fn X J (ph hg).1 (ph hg).2 hf (beq_iff_eq.mp ht) (by show (sd name od).map (·.isSome)=aa aq;rw[hl,hv];rfl) h
theorem zfZ{Q:Unit->am->Prop}(X:K.In s.heap)(I:ObjM s.heap x dx C mA)
  (hs:ck K (.ref C) "__setattr__"=aa (aa (.builtin "object.__setattr__"))) (hp:gW K C=ah) (ht:W.takerIn K C name=aa ao) (hh:gg K C=ah)
  (hw:pW mA ns) (hsz:ns.length<=Bb)
  (h:∀h',ObjM h' x dx C (λy=>if y=name then aa v else mA y)->cS dx s.heap h'->Q PUnit.unit { s with heap:=h',toks:=s.toks+2 }) :
  Bf (Bg prog w) A (setAttr (.ref x) name v) Q E s:=by
 obtain⟨od,J,hl⟩:=I.look;refine W.set_plain X J hs (W.osa_open (s:={ s with toks:=s.toks+1 }) (r:=ao) X J hp ht λb=>?_);obtain⟨cd,hc,hd'⟩:=W.any_some hh;have hx:s.heap.get? x=aa ⟨.ref C,aa dx,.plain,#[]⟩:=I.obj;refine ba (bf (ba (ba (wpAny_loadPart hx (ba (W.Looks.here (s:={ s with toks:=s.toks+1 }) (W.looks_clsIn X hc) ?_))))));rw[hd'];refine bf (a:=aa dx) (ba (bf (ba ?_)));refine wpAny_nsSet1 (s:={ s with toks:=s.toks+1 }) I.ns λh' hn2 hs2=>?_;obtain⟨oD,esD,epD,hoD,hdD,hcD⟩:=hn2.count (PySem.Within.cons name v hw);refine ba (wpAny_lookBehind hoD (by rw[hdD];exact pastItsLine_dict (bP hcD (by rw[bY];lia))) ?_);exact bf (h _ ⟨(hs2.2 _ (eP I.ne)).trans I.obj,hn2,I.ne⟩ hs2)
theorem zd1{R:aF->am->Prop}(X:K.In s.heap)(hm:ie K C=ah)
  (hi:ck K (.ref C) "__init__"=aa (aa (.ref f))) (hf:W.typeIn K (.ref f)=aa (.type "function"))
  (h:codeAny (Bg prog w) (A.under (.builtin "type.__call__" ⟨.ref C::vs,kw⟩)) (.call (.ref f) ⟨.ref (s.heap.objs.size+1)::vs,kw⟩) (W.InitBack (s.heap.objs.size+1) R)
   { s with heap:=(s.heap.push eB).push (fU C s.heap.objs.size) }) :
  codeAny (Bg prog w) A (.call (.ref C) ⟨vs,kw⟩) R s:=by
 obtain⟨hh,g,d,t,os⟩:=s;exact W.make_core (W.makes_of X hm) (W.looks_findIn X hi) (λself=>W.bind_fn X self hf) (.inl Y) h
theorem zdb{R:aF->am->Prop}(X:K.In s.heap)(hm:ie K C=ah)
  (hi:ck K (.ref C) "__init__"=aa (aa (.builtin "object.__init__")))
  (hb:∀self,se (Bg prog w) s.heap (bindSpecial (.builtin "object.__init__") self) (.builtin "object.__init__",[self]))
  (h:codeAny (Bg prog w) (A.under (.builtin "type.__call__" ⟨[.ref C],[]⟩)) (.call (.builtin "object.__init__") ⟨[.ref (s.heap.objs.size+1)],[]⟩) (W.InitBack (s.heap.objs.size+1) R)
   { s with heap:=(s.heap.push eB).push (fU C s.heap.objs.size) }) :
  codeAny (Bg prog w) A (.call (.ref C) ⟨[],[]⟩) R s:=by
 obtain⟨hh,g,d,t,os⟩:=s;exact W.make_core (W.makes_of X hm) (W.looks_findIn X hi) hb (.inr ⟨Y,Y⟩) h
end
def xV(f:Str)(v:V):List (Str×V)->List (Str×V)
 |[]=>[(f,v)]
 |(g,x)::r=>if g=f then (g,v)::r else (g,x)::xV f v r
theorem WG(f g:Str)(v:V):∀fs:List (Str×V),(xV f v fs).lookup g=if g=f then aa v else fs.lookup g
 |[]=>by
  show de g [(f,v)]=_;by_cases h:g=f
  ·have hb:(g==f)=ah:=beq_iff_eq.mpr h;simp only[de,hb,au h]
  ·have hb:(g==f)=aq:=beq_eq_false_iff_ne.mpr h;simp only[de,hb,ap h]
 |(k,x)::r=>by
  have ih:=WG f g v r;rw[show xV f v ((k,x)::r)=(if k=f then (k,v)::r else (k,x)::xV f v r) from rfl];by_cases hk:k=f
  ·rw[au hk];by_cases h:g=k
   ·have hb:(g==k)=ah:=beq_iff_eq.mpr h;simp only[de,hb,au (h.trans hk)]
   ·have hb:(g==k)=aq:=beq_eq_false_iff_ne.mpr h;simp only[de,hb,ap (λe:g=f=>h (e.trans hk.symm))]
  ·rw[ap hk];by_cases h:g=k
   ·have hb:(g==k)=ah:=beq_iff_eq.mpr h;simp only[de,hb,ap (λe:g=f=>hk (h.symm.trans e))]
   ·have hb:(g==k)=aq:=beq_eq_false_iff_ne.mpr h;simp only[de,hb];exact ih
theorem Wd(f:Str)(v:V):∀fs:List (Str×V),f∈(xV f v fs).map (·.1)/\∀g,g∈fs.map (·.1)->g∈(xV f v fs).map (·.1)
 |[]=>⟨by simp[xV],λg h=>by simp at h⟩
 |(k,x)::r=>by
  obtain⟨i1,i2⟩:=Wd f v r;rw[show xV f v ((k,x)::r)=(if k=f then (k,v)::r else (k,x)::xV f v r) from rfl];by_cases hk:k=f
  ·rw[au hk];subst hk;exact⟨by simp,λg h=>by simpa using h⟩
  ·rw[ap hk];refine⟨?_,λg h=>?_⟩
   ·rw[bx];exact bh _ i1
   ·rw[bx] at h ⊢;rcases bF.mp h with e|e
    ·exact bF.mpr (.inl e)
    ·exact bh _ (i2 g e)
theorem WH(f:Str)(v:V):∀fs:List (Str×V),(xV f v fs).length<=fs.length+1
 |[]=>by simp[xV]
 |(k,x)::r=>by
  have ih:=WH f v r;rw[show xV f v ((k,x)::r)=(if k=f then (k,v)::r else (k,x)::xV f v r) from rfl];by_cases hk:k=f
  ·rw[au hk,bY,bY];lia
  ·rw[ap hk,bY,bY];lia
theorem tj.some_of(r:tj (aa v) o):∃u,o=aa u/\aZ v u:=by
 cases o with
 |none=>exact(show False from r).elim
 |some u=>exact⟨u,Y,r⟩
theorem tj.none_of(r:tj ao o):o=ao:=by
 cases o with
 |none=>rfl
 |some u=>exact(show False from r).elim
theorem zdc(r:aZ v u):W.handedIn u=ah:=by
 cases v with
 |non=>cases (show u=cR from r);rfl
 |bl b=>cases (show u=iG b from r);rfl
 |int i=>obtain⟨t,e⟩:=(show ∃t,u=gM i t from r);cases e;rfl
 |str x=>obtain⟨t,e⟩:=(show ∃t,u=ic x t from r);cases e;rfl
 |byt b=>obtain⟨t,e⟩:=(show ∃t,u=Value.bytes b t from r);cases e;rfl
 |flt b=>obtain⟨t,e⟩:=(show ∃t,u=rN b t from r);cases e;rfl
 |ref a=>cases (show u=bK a from r);rfl
 |ty n=>cases (show u=mH n from r);rfl
section
variable {P:ax}{w:aA}{H H':B}{h h':ay}{a C dx:ac}{fs fs':List (Str×V)}
theorem Vg(hok:tM P w H h)(e:H a=aa (.ins C dx fs)):∃mA,ObjM h a dx C mA/\(∀f,tj (fs.lookup f) (mA f))/\pW mA (fs.map (·.1))/\fs.length<=1000/\H dx=aa (.own a):=by
 obtain⟨d,z,ne,ob,mA,n,r,q⟩:=(show dl P w H h a (.ins C dx fs) from hok a _ e);exact⟨mA,⟨ob,n,ne⟩,r,q,z,d⟩
end
structure tG(K:bw)(C:ac):Prop where
 pg:gC K C gh=ah
 hd:gg K C=ah
 po:gW K C=ah
 sa:ck K (.ref C) "__setattr__"=aa (aa (.builtin "object.__setattr__"))
theorem tG.get{K:bw}(c:tG K C)(f:Str):gC K C f=ah:=c.pg
def aV(K:bw)(C:ac)(f:Str):Prop:=ck K (.ref C) f=aa ao
theorem aV.taker{K:bw}{C:ac}(n:aV K C f):W.takerIn K C f=aa ao:=by
 unfold W.takerIn;rw[show ck K (.ref C) f=aa ao from n];rfl
structure KN(K:bw)(C:ac)(m:Str)(f:ac):Prop where
 at_:ck K (.ref C) m=aa (aa (.ref f))
 fn:pX K (.ref f)=ah
 kp:eD K (.ref f)=ah
section
variable {X:Cx}{aM:List (ac×Obj)}{σ:St}{H:B}{s:am}{a C dx:ac}{fs:List (Str×V)}{f:Str}{v:V}{A:aB}{E:af->am->Prop}
theorem zbB{Q:af->am->Prop}(I:aU X aM σ H s)(e:H a=aa (.ins C dx fs))(c:tG X.K C)(n:aV X.K C f)(l:fs.lookup f=aa v)
  (h:∀u s',aU X aM σ H s'->aZ v u->Q u s'):Bf (Bg X.prog X.w) A (getAttr (.ref a) f b) Q E s:=by
 obtain⟨mA,O,r,_,_,_⟩:=Vg I.hok e;obtain⟨u,hu,ru⟩:=tj.some_of (v:=v) (o:=mA f) (by rw[<-l];exact r f);exact zfY I.kIn O (c.get f) c.hd n hu (zdc ru) (h u _ (I.tok _) ru)
theorem k9{pl:Sem Bool}{Q:af×List af->am->Prop}(I:aU X aM σ H s)(e:H a=aa (.ins C dx fs))(c:tG X.K C)(k:KN X.K C m g)(l:fs.lookup m=ao)
  (h:Q (.ref g,[.ref a]) s):Bf (Bg X.prog X.w) A (getMethod (.ref a) m pl) Q E s:=by
 obtain⟨mA,O,r,_,_,_⟩:=Vg I.hok e;have hn:mA m=ao:=tj.none_of (by rw[<-l];exact r m);exact zd0 I.kIn O (c.get m) k.at_ k.fn hn h
theorem Vs{Q:Unit->am->Prop}(I:aU X aM σ H s)(e:H a=aa (.ins C dx fs))(c:tG X.K C)(n:aV X.K C f)(hl:fs.length<1000)(ry:aZ y u)
  (h:∀s',aU X aM σ (upd H a (.ins C dx (xV f y fs))) s'->Q PUnit.unit s'):Bf (Bg X.prog X.w) A (setAttr (.ref a) f u) Q E s:=by
 obtain⟨mA,O,r,wi,_,ho⟩:=Vg I.hok e;have hz:(fs.map (·.1)).length<=Bb:=by rw[bg,bT];lia
 refine zfZ I.kIn O c.sa c.po n.taker c.hd wi hz λh' O' sb=>h _ ?_;have hd:∃o,h'.get? dx=aa o:=let ⟨o,_,_,e',_⟩:=O'.ns;⟨o,e'⟩
 refine I.write (x:=a) (e:=dx) (by rw[e];exact eO) (.inr ho) (λb q hb z=>(sb.2 b hb).trans z) hd ?_;refine⟨by rw[zh O.ne];exact ho,?_,O.ne,O'.obj,_,O'.ns,λg=>?_,λg hg=>?_⟩
 ·have:=WH f y fs;lia
 ·show tj ((xV f y fs).lookup g) (if g=f then aa u else mA g);rw[WG];by_cases q:g=f
  ·rw[au q,au q];exact ry
  ·rw[ap q,ap q];exact r g
 ·by_cases q:g=f
  ·rw[q];exact(Wd f y fs).1
  ·refine(Wd f y fs).2 g (wi g λz=>hg ?_);show (if g=f then aa u else mA g)=ao;rw[ap q];exact z
theorem aU.made(I:aU X aM σ H s):aU X aM σ (upd (upd H s.heap.objs.size (.own (s.heap.objs.size+1))) (s.heap.objs.size+1) (.ins C s.heap.objs.size []))
  { s with heap:=(s.heap.push eB).push (fU C s.heap.objs.size) }:=by
 have e1:(s.heap.push eB).get? s.heap.objs.size=aa eB:=bG s.heap rfl;have e2:((s.heap.push eB).push (fU C s.heap.objs.size)).get? (s.heap.objs.size+1)=aa (fU C s.heap.objs.size):=by
  have:=bG (s.heap.push eB) (o:=fU C s.heap.objs.size) rfl
  rwa [eU] at this
 have e3:(s.heap.push eB).Ns s.heap.objs.size (λ_=>ao):=⟨eB,#[],_,e1,Y,(λe he=>absurd he (by simp)),λ_=>rfl⟩;have I1:=I.laid (a:=s.heap.objs.size) (o:=.own (s.heap.objs.size+1)) (h':=s.heap.push eB) (t':=s.toks) (λb u q=>bd _ q) (bp _) ⟨_,e1⟩;refine I1.laid (a:=s.heap.objs.size+1) (o:=.ins C s.heap.objs.size []) (t':=s.toks) (λb u q=>bd _ q) (nW (eU _ _)) ?_;have ne:s.heap.objs.size≠s.heap.objs.size+1:=b7 (nG _);refine⟨by rw[zh ne,ze],bW _,ne,e2,λ_=>ao,(Heap.Ns1.of_empty e3).at λo q=>bd _ q,λ_=>eO,λy hy=>absurd Y hy⟩
theorem zf0{Q:af->am->Prop}(hb:attributeBase e f env (eval e env)=eval e env)
  (h:Bf (Bg prog w) A (eval e env) (λo s₁=>Bf (Bg prog w) A (getAttr o f ah) Q E s₁) E s):Bf (Bg prog w) A (eval (.Attribute e f pos) env) Q E s:=
 Attribute_any_ h (by rw[arm_eval_Attribute,hb])
end
def zK(K:bw)(ta:TE)(f:Str):TE:=λσ H Q=>ta σ H λx H1=>∃a C dx fs v,x=.ref a/\H1 a=aa (.ins C dx fs)/\tG K C/\aV K C f/\fs.lookup f=aa v/\Q v H1
def xF(K:bw)(ta tv:TE)(f:Str):TS:=λD σ H=>tv σ H λy H1=>ta σ H1 λx H2=>∃a C dx fs,x=.ref a/\H2 a=aa (.ins C dx fs)/\tG K C/\aV K C f/\fs.length<1000 /\
 D.nx σ (upd H2 a (.ins C dx (xV f y fs)))
section
variable {X:Cx}{o e value:aD}{f:Str}{pos pos' tpos:Pos}{ta tv:TE}
theorem yj(he:PE X e ta)(hb:attributeBase e f X.env (eval e X.env)=eval e X.env):PE X (.Attribute e f pos) (zK X.K ta f):=by
 intro aM s σ H Q I h;refine zf0 hb (sr (he aM s σ H _ I h) λu s1 ⟨x,H1,I1,rx,a,C,dx,fs,v,ex,ea,c,n,l,q⟩=>?_);subst ex;obtain rfl:u=bK a:=rx;exact zbB I1 ea c n l λu' s2 I2 ru=>⟨v,H1,I2,ru,q⟩
theorem yn(ha:PE X o ta)(hv:PE X value tv)(hs:swapsWith value (aa (.Attribute o f pos')) pos.line X.env=pure aq):PS X (.Assign [.Attribute o f pos'] value pos) (xF X.K ta tv f):=by
 intro aM s σ H D I h;refine iH (sr (hv aM s σ H _ I h) λu s1 ⟨y,H1,I1,ry,q⟩=>sr (ha aM s1 σ H1 _ I1 q) λov s2 ⟨x,H2,I2,rx,a,C,dx,fs,ex,ea,c,n,l,q2⟩=>?_) hs;subst ex;obtain rfl:ov=bK a:=rx;exact Vs I2 ea c n l ry λs3 I3=>⟨σ,_,I3,q2⟩
end
section
variable {X:Cx}{aM:List (ac×Obj)}{σ:St}{H:B}{s:am}{A:aB}{E:af->am->Prop}{Q:af->am->Prop}{c:af}{b:Bool}
inductive YS (K:bw) (H:B):V->af->Prop where
 |non:YS K H .non (.type "NoneType")
 |bl (x:Bool):YS K H (.bl x) (.type "bool")
 |int (i:Int):YS K H (.int i) (.type "int")
 |str (x:Str):YS K H (.str x) (.type "str")
 |flt (x:UInt64):YS K H (.flt x) (.type "float")
 |lst {a:ac} {xs:List V} (e:H a=aa (.lst xs)):YS K H (.ref a) (.type "list")
 |frz {a:ac} {o:Obj} {xs:List V} (e:H a=aa (.frz o (.lst xs))):YS K H (.ref a) (.type "list")
 |tup {a:ac} {xs:List V} (e:H a=aa (.tup xs)):YS K H (.ref a) (.type "tuple")
 |dK {a:ac} {aO:List (bv×V)} (e:H a=aa (.dK aO)):YS K H (.ref a) (.type "dict")
 |dT {a:ac} {aO:List (List bv×V)} (e:H a=aa (.dT aO)):YS K H (.ref a) (.type "dict")
 |ins {a C dx:ac} {fs:List (Str×V)} (e:H a=aa (.ins C dx fs)) (cl:tG K C) (ha:ck K (.ref C) "__class__"=aa (aa (.builtin "object.__class__")))
   (hn:rP K (.builtin "object.__class__") "__get__"=aa (aa (.builtin "getset_descriptor.__get__"))) (htk:W.takesIn K (.builtin "object.__class__")=aa ah)
   (hm:sf K C (.type "object")=aa ah):YS K H (.ref a) (.ref C)
theorem zdd(I:aU X aM σ H s)(rx:aZ x u)(ty:YS X.K H x t)(e:fP X.K t c=aa b)(h:∀tk,Q (.bool b) { s with toks:=tk }) :
  Bf (Bg X.prog X.w) A (call (.builtin "isinstance") [u,c]) Q E s:=by
 cases ty with
 |non=>cases (show u=cR from rx);exact gO W.kitx_none I.kIn eO e () h
 |bl y=>cases (show u=iG y from rx);exact gO W.kitx_bool I.kIn eO e () h
 |int i=>obtain⟨t,q⟩:=(show ∃t,u=gM i t from rx);cases q;exact gO W.kitx_int I.kIn eO e () h
 |str y=>obtain⟨t,q⟩:=(show ∃t,u=ic y t from rx);cases q;exact gO W.kitx_str I.kIn eO e () h
 |flt y=>obtain⟨t,q⟩:=(show ∃t,u=rN y t from rx);cases q;exact gO W.kitx_float I.kIn eO e () h
 |@lst a xs ea =>
  cases (show u=bK a from rx);obtain⟨_,_,n,_,h1⟩:=(show dl X.prog X.w H s.heap a (.lst xs) from I.hok a _ ea);exact gO W.kitx_list I.kIn ⟨_,h1,Y⟩ e () h
 |@frz a ob xs ea =>
  cases (show u=bK a from rx);obtain⟨_,_,_,n,_,h1⟩:=(show dl X.prog X.w H s.heap a (.frz ob (.lst xs)) from I.hok a _ ea);exact gO W.kitx_list I.kIn ⟨_,h1,Y⟩ e () h
 |@tup a xs ea =>
  cases (show u=bK a from rx);obtain⟨_,_,_,p⟩:=(show dl X.prog X.w H s.heap a (.tup xs) from I.hok a _ ea);obtain⟨o,h1,h2,_⟩:=p;exact gO W.kitx_tuple I.kIn ⟨o,h1,h2⟩ e () h
 |@dK a aO ea =>
  cases (show u=bK a from rx);obtain⟨_,_,vs,_,p⟩:=(show dl X.prog X.w H s.heap a (.dK aO) from I.hok a _ ea);obtain⟨o,es,ep,h1,h2,_⟩:=p;exact gO W.kitx_dict I.kIn ⟨o,h1,h2.1⟩ e () h
 |@dT a aO ea =>
  cases (show u=bK a from rx);obtain⟨_,_,xs,_,o,es,ep,h1,h2,_⟩:=(show dl X.prog X.w H s.heap a (.dT aO) from I.hok a _ ea);exact gO W.kitx_dict I.kIn ⟨o,h1,h2.1⟩ e () h
 |@ins a C dx fs ea cl ha hn htk hm =>
  cases (show u=bK a from rx);obtain⟨mA,O,_⟩:=Vg I.hok ea;obtain⟨od,J,_⟩:=O.look;exact gO (W.kitx_own (cl.get _) cl.hd ha hn htk hm) I.kIn J e () h
end
structure sH(k:Nat)(A:aB):Prop where
 hd:A.handled=ao
 dp:A.depth+3*k+5<recursionLimit
 un:A.units+16*k+200<cLine
theorem sH.mono(r:sH k A)(h:j<=k):sH j A:=⟨r.hd,by have:=r.dp;lia,by have:=r.un;lia⟩
theorem sH.deeper(r:sH (k+1) A)(env:Env):sH k (A.deeper env):=
 ⟨r.hd,by have:=r.dp;show A.depth+1+3*k+5<_;lia,by have:=r.un;show A.units+3+16*k+200<_;lia⟩
theorem zbC{A:aB}{C:ac}{us:List af} :(A.under (.builtin "type.__call__" ⟨.ref C::us,kw⟩)).depth=A.depth+1:=by
 first|rfl|simp[pY,Code.weight,Code.isCreation,Code.isGuard,Code.isCaller,Code.frames,pZ,guardIds]
theorem zbD{A:aB}{C:ac}{us:List af} :(A.under (.builtin "type.__call__" ⟨.ref C::us,kw⟩)).units=A.units+1:=by
 first|rfl|simp[pY,Code.cUnits,Code.frames,pZ]
theorem sH.make(r:sH (k+1) A)(C:ac)(us:List af)(kw:List (Str×af)):sH k (A.under (.builtin "type.__call__" ⟨.ref C::us,kw⟩)):=
 ⟨r.hd,by have:=r.dp;rw[zbC];lia,by have:=r.un;rw[zbD];lia⟩
theorem sH.depth(r:sH k A):A.depth<recursionLimit:=by have:=r.dp;lia
theorem sH.units(r:sH k A):A.units+64<cLine:=by have:=r.un;lia
def zf:TA:=λ_ H Q=>Q [] H
def Z(ta:TE)(tr:TA):TA:=λσ H Q=>ta σ H λx H1=>tr σ H1 λxs H2=>Q (x::xs) H2
section
variable {X:Cx}{e:aD}{es:List aD}{te:TE}{t:TA}{pos:Pos}
theorem zk:PA X [] zf:=λ_ _ _ _ H Q I h=>eW ⟨[],H,I,.nil,h⟩
theorem zd(ha:PE X e te)(hr:PA X es t)(hs:Be (e::es) X.env=(aq,eval e X.env)::Be es X.env:=by rfl):PA X (e::es) (Z te t):=by
 intro pos aM s σ H Q I h;rw[hs];show Bf _ _ (spliced ((aq,eval e X.env)::backTo pos (Be es X.env))) _ _ s;refine c9 (sr (ha aM s σ H _ I h) λu s1 ⟨x,H1,I1,r1,q1⟩=>?_);exact sr (hr pos aM s1 σ H1 _ I1 q1) λus s2 ⟨xs,H2,I2,r2,q2⟩=>⟨x::xs,H2,I2,.cons r1 r2,q2⟩
def yz(t:TA):TE:=λσ H Q=>t σ H λxs H1=>xs.length<=Bb/\∀p,H1 p=ao->Q (.ref p) (upd H1 p (.tup xs))
def xu(t:TA):TE:=λσ H Q=>t σ H λxs H1=>xs.length<=Bb/\∀p,H1 p=ao->Q (.ref p) (upd H1 p (.lst xs))
theorem xG{x1}(h:PA X es t):PE X (.Tuple es x1 pos) (yz t):=by
 intro aM s σ H Q I hq;refine wpAny_Tuple_spliced (sr (h pos aM s σ H _ I hq) λus s1 ⟨xs,H1,I1,r,z,q⟩=>⟨by rw[<-r.length];exact z,?_⟩);have hf:H1 s1.heap.objs.size=ao:=I1.hok.fresh (bp _);refine⟨.ref s1.heap.objs.size,upd H1 s1.heap.objs.size (.tup xs),I1.laid (t':=s1.toks) (λb u e=>bd _ e) (bp _) ?_,Y,q _ hf⟩;exact⟨z,us,r,⟨_,bG _ Y,Y,_,Y⟩⟩
theorem wK(h:PA X es t):PE X (.List es pos) (xu t):=by
 intro aM s σ H Q I hq;refine wpAny_List_spliced (sr (h pos aM s σ H _ I hq) λus s1 ⟨xs,H1,I1,r,z,q⟩=>⟨by rw[<-r.length];exact z,?_⟩);have hf:H1 s1.heap.objs.size=ao:=I1.hok.fresh (bp _);refine⟨.ref s1.heap.objs.size,upd H1 s1.heap.objs.size (.lst xs),I1.laid (t':=s1.toks) (λb u e=>bd _ e) (bp _) ?_,Y,q _ hf⟩;exact⟨z,us,0,r,bG _ Y⟩
end
abbrev Sp:=List V->B->VK->XK->Prop
abbrev CXT:=List Env->B->am->XK->af->am->Prop
structure Env0(P:ax)(w:aA)(K:bw)(mg:Str->Option af)(base:ay)(A:aB)(outer:List Env)(s:am)(H:B):Prop where
 frames:A.frames=aa outer
 mod:Mod K mg base
 bs:∀b o,base.get? b=aa o->s.heap.get? b=aa o/\H b=ao
 bsz:base.objs.size<=s.heap.objs.size
 funs:s.heap.FunFrames base outer
 frf:∀b∈tz outer,H b=ao
 hok:tM P w H s.heap
 bare:AllBare s.gens
def CE(outer:List Env)(P:ax)(w:aA)(H:B)(s:am)(Q:VK)(u:af)(s':am):Prop :=
 ∃v H',s'.os=s.os/\AllBare s'.gens/\Un (tz outer) [] H H' s.heap s'.heap/\tM P w H' s'.heap/\aZ v u/\Q v H'
def CR(CX:CXT)(outer:List Env)(P:ax)(w:aA)(H:B)(s:am)(Q:VK)(E:XK)(r:aF)(s':am):Prop :=
 match r with
 |.ok (.ret u)=>CE outer P w H s Q u s'
 |.ok _=>False
 |.error e=>CX outer H s E e s'
structure sD(P:ax)(w:aA)(K:bw)(mg:Str->Option af)(base:ay)(CX:CXT)(k:Nat)(f:ac)(fd:Bc)(ps:List Str)(sp:Sp):Prop where
 len:∀vs H Q E,sp vs H Q E->vs.length=ps.length
 run:∀(A:aB) (outer:List Env) (s:am) (H:B) (args:Args) (us:List af) (vs:List V) (Q:VK) (E:XK),sH k A->Env0 P w K mg base A outer s H->BindsTo s fd args (ps.zip us)->aX vs us->sp vs H Q E ->
  codeAny (Bg P w) A (.call (.ref f) args) (CR CX outer P w H s Q E) s
theorem sD.mono{w:aA}{K:bw}{mg:Str->Option af}{base:ay}{CX:CXT}{j k:Nat}{f:ac}{fd:Bc}{ps:List Str}{sp:Sp}(F:sD P w K mg base CX j f fd ps sp)(h:j<=k) :
  sD P w K mg base CX k f fd ps sp:=⟨F.len,λA outer s H args us vs Q E hr=>F.run A outer s H args us vs Q E (hr.mono h)⟩
theorem Env0.make{w:aA}{K:bw}{mg:Str->Option af}{base:ay}{A:aB}{outer:List Env}{s:am}{H:B}(e:Env0 P w K mg base A outer s H)(C:ac)(us:List af)(kw:List (Str×af)) :
  Env0 P w K mg base (A.under (.builtin "type.__call__" ⟨.ref C::us,kw⟩)) outer s H:=⟨by first|exact e.frames|(simpa[pY,Code.envs,pZ,pushEnvs] using e.frames),e.mod,e.bs,e.bsz,e.funs,e.frf,e.hok,e.bare⟩
section
variable {X:Cx}{aM:List (ac×Obj)}{σ:St}{H:B}{s s':am}
theorem aU.env0(I:aU X aM σ H s):Env0 X.prog X.w X.K X.mg X.base X.A X.stack s H :=
 ⟨I.ok.frames,I.ok.mod,I.bs,bP I.ok.bsz I.sz,I.stack,I.stkFree,I.hok,I.bare⟩
theorem aU.after{Q:VK}(I:aU X aM σ H s)(h:CE X.stack X.prog X.w H s Q u s'):EP X aM σ Q u s':=by
 obtain⟨v,H',os,bare,un,hok,r,q⟩:=h;obtain⟨hh,g,d,t,os'⟩:=s';obtain rfl:os'=s.os:=os;exact⟨v,H',I.call (h':=hh) (g':=g) (d':=d) (t':=t) (ch:=[]) un hok bare (λb z=>absurd z (by simp)),r,q⟩
end
def zG(sp:Sp)(dvs:List V)(E:XK)(t:TA):TE:=λσ H Q=>t σ H λvs H1=>sp (vs++dvs) H1 Q E
def zN(C:ac)(m:Str)(sp:Sp)(dvs:List V)(E:XK)(ta:TE)(t:TA):TE:=λσ H Q=>ta σ H λx H1=>∃a dx fs,x=.ref a/\H1 a=aa (.ins C dx fs)/\fs.lookup m=ao /\
 t σ H1 λvs H2=>sp (x::(vs++dvs)) H2 Q E
def WI(C:ac)(sp:Sp)(dvs:List V)(E:XK)(t:TA):TE:=λσ H Q=>t σ H λvs H1=>∀x dx,H1 x=ao->H1 dx=ao->dx≠x ->
 sp (.ref x::(vs++dvs)) (upd (upd H1 dx (.own x)) x (.ins C dx [])) (λv H2=>v=.non/\Q (.ref x) H2) E
def sL(K:bw)(fd:Bc)(ps:List Str)(ds:List af):Prop :=
 ∀(s:am) (us:List af),K.In s.heap->(us++ds).length=ps.length->BindsTo s fd ⟨us,[]⟩ (ps.zip (us++ds))
theorem sL.all{K:bw}{fd:Bc}(h:∀us:List af,us.length=ps.length->bindArgs fd ⟨us,[]⟩=pure (ps.zip us)):sL K fd ps []:=λs us _ hl=>by
 rw[b9] at hl ⊢;exact .of_eq (h us hl)
def xX(CX:CXT)(X:Cx)(E:XK):Prop:=∀(aM:List (ac×Obj)) (σ:St) (H:B) (s:am) (e:af) (s':am),aU X aM σ H s->CX X.stack H s E e s'->X.xe e s'
section
variable {X:Cx}{CX:CXT}{k:Nat}{f C:ac}{fd:Bc}{ps:List Str}{sp:Sp}{dvs:List V}{ds:List af}{E:XK}{x m:Str}{p pos sC:Pos}{e o:aD}{es:List aD}{ta:TE}{t:TA}
theorem KO{σ:St}{H:B}{s:am}{Q:VK}{us:List af}{vs:List V}(F:sD X.prog X.w X.K X.mg X.base CX k f fd ps sp)(hr:sH k X.A)(hb:sL X.K fd ps ds)(hd:aX dvs ds)(hx:xX CX X E)
  (I:aU X aM σ H s) (r:aX vs us) (h:sp (vs++dvs) H Q E):Bf (Bg X.prog X.w) X.A (call (.ref f) us) (EP X aM σ Q) X.xe s:=by
 have r2:aX (vs++dvs) (us++ds):=r.append hd;have hl:(us++ds).length=ps.length:=by rw[<-r2.length];exact F.len _ _ _ _ h
 refine pN (gj (F.run X.A X.stack s H ⟨us,[]⟩ (us++ds) (vs++dvs) Q E hr I.env0 (hb s us I.kIn hl) r2 h) λr s' hq=>?_);cases r with
 |error e=>exact hx aM σ H s e s' I hq
 |ok fl =>
  cases fl with
  |ret u=>exact I.after hq
  |next=>exact dn hq
  |brk=>exact dn hq
  |cont=>exact dn hq
theorem Xm(F:sD X.prog X.w X.K X.mg X.base CX k f fd ps sp)(hr:sH k X.A)(hg:Gl X x)(hm:X.mg x=aa (.ref f))(hk:eD X.K (.ref f)=ah)(hb:sL X.K fd ps ds)(hd:aX dvs ds)(hx:xX CX X E)
  (ha:PA X (e::es) t) (hdb:(x==("__debug__":Str))=aq:=by lia) (he:Be (e::es) X.env=(aq,eval e X.env)::Be es X.env:=by rfl) (hpl:(backTo pos (Be es X.env)).any (·.1)=aq:=by rfl) :
  PE X (.Call (.Name x p) (e::es) [] pos) (zG sp dvs E t):=by
 intro aM s σ H Q I h;refine fj (vN I hg hm ?_ hdb);refine ma (h₀:=X.base) I.ok.mod.kin hk (sr (ha pos aM s σ H _ I h) λus s1 ⟨vs,H1,I1,r,q⟩=>⟨I1.kIn,?_⟩) he hpl;exact KO F hr hb hd hx I1 r q
theorem KP{pl:Sem Bool}(he:PE X o ta)(c:tG X.K C)(hm:KN X.K C m f)(F:sD X.prog X.w X.K X.mg X.base CX k f fd ps sp)(hr:sH k X.A)(hb:sL X.K fd ps ds)(hd:aX dvs ds)(hx:xX CX X E)(ha:PA X (e::es) t)
  (hst:Be (e::es) X.env=(aq,eval e X.env)::Be es X.env:=by rfl) (hpl:(backTo pos (Be es X.env)).any (·.1)=aq:=by rfl)
  (ht:eval (.Call (.Attribute o m sC) (e::es) [] pos) X.env=(do
   let ov <-eval o X.env
   standAt sC.atName
   let (f,first) <-holding [ov] (getMethod ov m pl)
   callWith pos f first (backTo pos (Be (e::es) X.env)) (backToKw pos (keywordEach [] X.env))):=by rfl) :
  PE X (.Call (.Attribute o m sC) (e::es) [] pos) (zN C m sp dvs E ta t):=by
 intro aM s σ H Q I h;refine lM (pl:=pl) (sr (he aM s σ H _ I h) λu s1 ⟨x,H1,I1,rx,a,dx,fs,ex,ea,l,q⟩=>?_) ht;subst ex;obtain rfl:u=bK a:=rx;refine k9 I1 ea c hm l ?_;refine ma (first:=[.ref a]) (h₀:=X.base) I.ok.mod.kin hm.kp (sr (ha pos aM s1 σ H1 _ I1 q) λus s2 ⟨vs,H2,I2,r,q2⟩=>⟨I2.kIn,?_⟩) hst hpl;exact KO (us:=.ref a::us) (vs:=.ref a::vs) F hr hb hd hx I2 (.cons Y r) q2
theorem Q9{pl:Sem Bool}(he:PE X o ta)(c:tG X.K C)(hm:KN X.K C m f)(F:sD X.prog X.w X.K X.mg X.base CX k f fd ps sp)(hr:sH k X.A)(hb:sL X.K fd ps ds)(hd:aX dvs ds)(hx:xX CX X E)
  (ht:eval (.Call (.Attribute o m sC) [] [] pos) X.env=(do
   let ov <-eval o X.env
   standAt sC.atName
   let (f,first) <-holding [ov] (getMethod ov m pl)
   callWith pos f first (backTo pos (Be [] X.env)) (backToKw pos (keywordEach [] X.env))):=by rfl) :
  PE X (.Call (.Attribute o m sC) [] [] pos) (zN C m sp dvs E ta zf):=by
 intro aM s σ H Q I h;refine lM (pl:=pl) (sr (he aM s σ H _ I h) λu s1 ⟨x,H1,I1,rx,a,dx,fs,ex,ea,l,q⟩=>?_) ht;subst ex;obtain rfl:u=bK a:=rx;refine k9 I1 ea c hm l ?_;exact W.callWith_K0 (first:=[.ref a]) I1.kIn hm.kp (KO (us:=[.ref a]) (vs:=[.ref a]) F hr hb hd hx I1 (.cons Y .nil) q)
structure Mk(K:bw)(C f:ac):Prop where
 makes:ie K C=ah
 init:ck K (.ref C) "__init__"=aa (aa (.ref f))
 fn:pX K (.ref f)=ah
 kp:eD K (.ref C)=ah
theorem zd2{σ:St}{H:B}{s:am}{Q:VK}{us:List af}{vs:List V}(M:Mk X.K C f)(F:sD X.prog X.w X.K X.mg X.base CX k f fd ps sp)(hr:sH (k+1) X.A)(hb:sL X.K fd ps ds)(hd:aX dvs ds)
  (hx:xX CX X E) (I:aU X aM σ H s) (r:aX vs us)
  (h:∀x dx,H x=ao->H dx=ao->dx≠x->sp (.ref x::(vs++dvs)) (upd (upd H dx (.own x)) x (.ins C dx [])) (λv H2=>v=.non/\Q (.ref x) H2) E) :
  Bf (Bg X.prog X.w) X.A (call (.ref C) us) (EP X aM σ Q) X.xe s:=by
 have hq:=h (s.heap.objs.size+1) s.heap.objs.size (I.hok.fresh (rQ _)) (I.hok.fresh (bp _)) (b7 (nG _));have I2:=aU.made (C:=C) I;have r2:aX (V.ref (s.heap.objs.size+1)::(vs++dvs)) (bK (s.heap.objs.size+1)::(us++ds)):=.cons Y (r.append hd);have hl:(bK (s.heap.objs.size+1)::us++ds).length=ps.length:=by
  have e:=r2.length;rw[F.len _ _ _ _ hq] at e;exact e.symm
 refine pN (zd1 (f:=f) I.kIn M.makes M.init (beq_iff_eq.mp M.fn) (gj (F.run _ X.stack _ _ ⟨bK (s.heap.objs.size+1)::us,[]⟩ (bK (s.heap.objs.size+1)::(us++ds)) _ _ E (hr.make C us [])
  (I2.env0.make C us []) (hb _ (bK (s.heap.objs.size+1)::us) I2.kIn hl) r2 hq) λr s' hq'=>?_))
 cases r with
 |error e=>exact hx aM σ _ _ e s' I2 hq'
 |ok fl =>
  cases fl with
  |ret u =>
   obtain⟨v,H',I3,rv,ev,q3⟩:=I2.after hq';subst ev;exact⟨rv,⟨V.ref (s.heap.objs.size+1),H',I3,Y,q3⟩⟩
  |next=>exact dn hq'
  |brk=>exact dn hq'
  |cont=>exact dn hq'
theorem Z6(M:Mk X.K C f)(F:sD X.prog X.w X.K X.mg X.base CX k f fd ps sp)(hr:sH (k+1) X.A)(hg:Gl X x)(hm:X.mg x=aa (.ref C))(hb:sL X.K fd ps ds)(hd:aX dvs ds)(hx:xX CX X E)
  (ha:PA X (e::es) t) (hdb:(x==("__debug__":Str))=aq:=by lia) (he:Be (e::es) X.env=(aq,eval e X.env)::Be es X.env:=by rfl) (hpl:(backTo pos (Be es X.env)).any (·.1)=aq:=by rfl) :
  PE X (.Call (.Name x p) (e::es) [] pos) (WI C sp dvs E t):=by
 intro aM s σ H Q I h;refine fj (vN I hg hm ?_ hdb);refine ma (h₀:=X.base) I.ok.mod.kin M.kp (sr (ha pos aM s σ H _ I h) λus s1 ⟨vs,H1,I1,r,q⟩=>⟨I1.kIn,?_⟩) he hpl;exact zd2 M F hr hb hd hx I1 r q
end
def PK(X:Cx)(kws:List Keyword)(t:TA):Prop :=
 ∀(pos:Pos) (aM:List (ac×Obj)) (s:am) (σ:St) (H:B) (Q:List V->B->Prop),aU X aM σ H s->t σ H Q->Bf (Bg X.prog X.w) X.A (evalAll ((backToKw pos (keywordEach kws X.env)).map (·.2))) (AP X aM σ Q) X.xe s
section
variable {X:Cx}{CX:CXT}{k:Nat}{f C:ac}{fd:Bc}{ps ks:List Str}{sp:Sp}{E:XK}{x m:Str}{p pos sC kpos:Pos}{e o:aD}{es:List aD}{kws:List Keyword}{te ta:TE}{t tk:TA}{nm:Option Str}
theorem zhz:PK X [] zf:=λ_ _ _ _ H Q I h=>wpAny_evalAll_nil ⟨[],H,I,.nil,h⟩
theorem zf1(ha:PE X e te)(hr:PK X kws t):PK X (⟨nm,e,kpos⟩::kws) (Z te t):=by
 intro pos aM s σ H Q I h;show Bf _ _ (evalAll ((do let v <-eval e X.env;standAt pos;pure v)::(backToKw pos (keywordEach kws X.env)).map (·.2))) _ _ s;refine wpAny_evalAll_cons (ba (sr (ha aM s σ H _ I h) λu s1 ⟨x,H1,I1,r1,q1⟩=>ba (pq (bf ?_))));exact sr (hr pos aM s1 σ H1 _ I1 q1) λus s2 ⟨xs,H2,I2,r2,q2⟩=>⟨x::xs,H2,I2,.cons r1 r2,q2⟩
variable {g:List af->List af->List af}{gV:List V->List V->List V}
end
structure aR(N P:List Str)(sc:aE):Prop where
 kind:sc.kind=.function
 co:sc.isCoroutine=aq
 gen:sc.isGenerator=aq
 nd:N.Nodup
 pre:N.take P.length=P
 par:∀x∈P,sc.names.lookup x=aa .local\/sc.names.lookup x=aa .cell
 nofree:∀y∈sc.names,y.2≠.free
theorem JV{kindOf:Str->Option NameKind}{x:Str}:∀ {binds:List (Str×af)} {m:Str->Option af},(∀v,(x,v) ∉ binds)->bindL kindOf binds m x=m x
 |[],_,_=>rfl
 |(n,v)::r,m,h=>by
  unfold bindL;rw[JV λw hw=>h w (bh _ hw)];split
  ·have:x≠n:=by rintro rfl;exact h v bo
   simp[this]
  ·rfl
theorem JW{kindOf:Str->Option NameKind}{x:Str}:∀ {binds:List (Str×af)} {m:Str->Option af},(∀v,(x,v) ∉ binds)->bindC kindOf binds m x=m x
 |[],_,_=>rfl
 |(n,v)::r,m,h=>by
  unfold bindC;rw[JW λw hw=>h w (bh _ hw)];split
  ·rfl
  ·have:x≠n:=by rintro rfl;exact h v bo
   simp[this]
theorem JX{kindOf:Str->Option NameKind}{x:Str}{v:af}:∀ {P:List Str} {vs:List af} {i:Nat} {m:Str->Option af},P.Nodup->P[i]?=aa x->vs[i]?=aa v->kindOf x=aa .local ->
  bindL kindOf (P.zip vs) m x=aa v
 |[],_,_,_,_,h,_,_=>by simp at h
 |_::_,[],_,_,_,_,h,_=>by simp at h
 |p::P,w::vs,0,m,nd,h1,h2,hk=>by
  simp at h1 h2;subst h1;subst h2;show bindL kindOf ((p,w)::P.zip vs) m p=_;unfold bindL;rw[JV λv hv=>(ca.mp nd).1 (nX hv).1,au hk];simp
 |p::P,w::vs,i+1,m,nd,h1,h2,hk=>by
  show bindL kindOf ((p,w)::P.zip vs) m x=_;unfold bindL;exact JX (i:=i) (ca.mp nd).2 (by simpa using h1) (by simpa using h2) hk
theorem JY{kindOf:Str->Option NameKind}{x:Str}{v:af}:∀ {P:List Str} {vs:List af} {i:Nat} {m:Str->Option af},P.Nodup->P[i]?=aa x->vs[i]?=aa v->kindOf x≠aa .local ->
  bindC kindOf (P.zip vs) m x=aa v
 |[],_,_,_,_,h,_,_=>by simp at h
 |_::_,[],_,_,_,_,h,_=>by simp at h
 |p::P,w::vs,0,m,nd,h1,h2,hk=>by
  simp at h1 h2;subst h1;subst h2;show bindC kindOf ((p,w)::P.zip vs) m p=_;unfold bindC;rw[JW λv hv=>(ca.mp nd).1 (nX hv).1,ap hk];simp
 |p::P,w::vs,i+1,m,nd,h1,h2,hk=>by
  show bindC kindOf ((p,w)::P.zip vs) m x=_;unfold bindC;exact JY (i:=i) (ca.mp nd).2 (by simpa using h1) (by simpa using h2) hk
def start(N:List Str)(vs:List V):St:=vs.map aa++cf (N.length-vs.length) ao
def q8(CX:CXT)(P:ax)(w:aA)(K:bw)(mg:Str->Option af)(base:ay)(N:List Str)(qual:Str)(scope:aE)(f:ac)(cd:af)(A:aB)(outer:List Env)(s:am)(H:B)(E:XK):Cx where
 prog:=P
 w:=w
 K:=K
 mg:=mg
 base:=base
 A:=A.deeper (envOfC qual scope s.heap.objs.size f cd)
 N:=N
 s₀:=s
 H₀:=H
 env:=envOfC qual scope s.heap.objs.size f cd
 outer:=outer
 stack:=envOfC qual scope s.heap.objs.size f cd::outer
 ex:=[]
 calm:=ah
 fn:=λ_=>ah
 pn:=[]
 xe:=λe s'=>Bf (Bg P w) (A.deeper (envOfC qual scope s.heap.objs.size f cd)) (leaving (envOfC qual scope s.heap.objs.size f cd) e) (λ_ s''=>CX outer H s E e s'') (λe' s''=>CX outer H s E e' s'') s'
theorem zaa{sc:aE}{n:Nat}(h:sc.names.lookup x=aa .cell):∃c,(cellsFrom n sc.names []).lookup x=aa c:=by
 have q:=W.cellsFrom_some sc.names n [] (.inl h);exact fI.mp q
theorem zde{CX:CXT}{P:ax}{w:aA}{K:bw}{mg:Str->Option af}{base:ay}{N ps:List Str}{qual:Str}{scope:aE}{f:ac}{cd:af}{A:aB}{outer:List Env}{s s1:am}{H:B}{E:XK}{us:List af}{vs:List V}
  (S:aR N ps scope) (hd:A.handled=ao) (e0:Env0 P w K mg base A outer s H) (hl:vs.length=ps.length) (r:aX vs us)
  (x:InCallC s s.heap.objs.size (bindL (envOfC qual scope s.heap.objs.size f cd).kindOf (ps.zip us) λ_=>ao) (cellsFrom (s.heap.objs.size+1) scope.names []) (bindC (envOfC qual scope s.heap.objs.size f cd).kindOf (ps.zip us) λ_=>ao) s1) :
  aU (q8 CX P w K mg base N qual scope f cd A outer s H E) [] (start N vs) H s1:=by
 have hpl:ps.length<=N.length:=by have:=congrArg cp S.pre;rw[cK] at this;lia
 obtain⟨h1,tk,rfl,hk⟩:=x.done;have noA:∀b:ac,b ∉ (q8 CX P w K mg base N qual scope f cd A outer s H E).ex:=λb z=>absurd (show b∈([]:List ac) from z) (by simp);refine⟨⟨e0.mod,S.kind,Y,Y,bp _,λy z c h1 h2=>?_,λy hy=>?_,λy c _ h=>?_,λ_=>hd,Around.frames_deeper e0.frames,.inr ⟨Y,Y⟩,λb z=>absurd z (noA b),e0.bs,e0.bsz,λb _ _=>noA b,λb z=>absurd z (noA b),e0.funs,e0.frf⟩,
  rfl,e0.bare,Un.kept hk,⟨_,x.toInCall.ns,λi y v h1 h2 h3=>?_⟩,λy c h=>⟨_,x.cell y c h⟩,e0.hok.fresh (bp _),λy c h=>?_,λp hp=>absurd (show p∈([]:List (ac×Obj)) from hp) (by simp),e0.hok.kept hk,?_⟩
 ·exact name_of_addr x.apart (eY h1) (eY h2)
 ·have hy:scope.names.lookup y=aa .cell\/scope.names.lookup y=aa .free:=hy;rcases hy with hy|hy
  ·exact zaa hy
  ·exact absurd Y (S.nofree _ (eY hy))
 ·exact nU (x.above y c (eY h))
 ·have hi:i<vs.length:=by
   unfold start at h2;by_cases hi:i<vs.length
   ·exact hi
   ·rw[fh (by simpa using hi)] at h2;rw[mY] at h2;split at h2 <;> cases h2
  have ha:vs[i]?=aa v:=by
   unfold start at h2;rw[dq (by simpa using hi),bB] at h2;cases e:vs[i]? with
   |none=>rw[e] at h2;cases h2
   |some a=>rw[e] at h2;cases h2;rfl
  obtain⟨u,hu,rv⟩:=r.get ha;have hp:ps[i]?=aa y:=by
   rw[<-S.pre,List.getElem?_take_of_lt ()];exact h1
  have ndP:ps.Nodup:=by rw[<-S.pre];exact S.nd.sublist (pO _ _)
  refine⟨u,rv,?_⟩;rcases S.par y (bV hp) with k|k
  ·exact .inl ⟨k,JX ndP hp hu k⟩
  ·obtain⟨c,e⟩:=zaa (n:=s.heap.objs.size+1) k;refine .inr ⟨.inl k,c,e,?_⟩;have q:=x.cell y c e;rw[JY ndP hp hu (by show scope.names.lookup y≠_;rw[k];decide)] at q;exact q
 ·exact e0.hok.fresh (nU (x.above y c (eY h)))
 ·unfold start;show _=N.length;rw[bE,bg,gm];lia
theorem zg7{CX:CXT}{P:ax}{w:aA}{K:bw}{mg:Str->Option af}{base:ay}{k:Nat}{f:ac}{name qual:Str}{params:Arguments}{body:List aC}{scope:aE}{dV kV doc pm cdv ct oc:af}{an od:Option ac}
  {osl:Array (Option af)} {N ps:List Str} {sp:Sp} (lk:K.lookup f=aa ⟨oc,od,.func (iT name qual params body scope dV kV doc pm an cdv ct),osl⟩) (hcd:ig K cdv qual=ah) (S:aR N ps scope)
  (len:∀vs H Q E,sp vs H Q E->vs.length=ps.length)
  (hbody:∀(A:aB) (outer:List Env) (s:am) (H:B) (vs:List V) (Q:VK) (E:XK),sH k (A.deeper (envOfC qual scope s.heap.objs.size f cdv))->sp vs H Q E ->
   ∃t,PSs (q8 CX P w K mg base N qual scope f cdv A outer s H E) body t/\t { nx:=λ_ H'=>Q .non H',rt:=Q } (start N vs) H) :
  sD P w K mg base CX (k+1) f (iT name qual params body scope dV kV doc pm an cdv ct) ps sp:=by
 refine⟨len,λA outer s H args us vs Q E hr e0 hb r hsp=>?_⟩;have hl:=len _ _ _ _ hsp;have KX:K.In s.heap:=e0.mod.kin.keeps λb o e=>(e0.bs b o e).1;have lim:s.heap.NoLimit:=e0.mod.nolimit.keeps λb o e=>(e0.bs b o e).1;have hkind:∀y∈ps.zip us,scope.names.lookup y.1=aa .local\/(scope.names.lookup y.1=aa .cell/\((cellsFrom (s.heap.objs.size+1) scope.names []).lookup y.1).isSome=ah):=λ⟨n,v⟩ hy=>by
  rcases S.par n (nX hy).1 with q|q
  ·exact .inl q
  ·exact .inr ⟨q,W.cellsFrom_some _ _ _ (.inl q)⟩
 refine codeAny_call_function hr.depth (KX _ _ lk) Y S.co S.gen Y (W.codeRec_of KX hcd) (hb _ _ _ _ ?_);refine wpAny_newFunctionEnv_cells S.kind hkind λenv he s1 x=>?_;subst he;refine⟨lim.keeps x.toInCall.keep,codeAny_func ?_⟩;obtain⟨t,ht,hq⟩:=hbody A outer s H vs Q E (hr.deeper _) hsp;have I:aU (q8 CX P w K mg base N qual scope f cdv A outer s H E) [] (start N vs) H s1:=zde S hr.hd e0 hl r x;refine dR (ht [] s1 (start N vs) H _ I hq) (λfl s' hs=>?_) λe s' hs=>hs;have fin:∀ {σ':St} {H':B} {v:V} {u:af},aU (q8 CX P w K mg base N qual scope f cdv A outer s H E) [] σ' H' s'->aZ v u->Q v H'->CE outer P w H s Q u s' :=
  λ{σ' H' v u} J rv q=>⟨v,H',J.os,J.bare,J.base,J.hok,rv,q⟩
 cases fl with
 |ret u =>
  obtain⟨v,σ',H',J,rv,q⟩:=hs;exact fin J rv q
 |next =>
  obtain⟨σ',H',J,q⟩:=hs;exact fin (v:=V.non) (u:=cR) J Y q
 |brk =>
  obtain⟨_,_,_,q⟩:=hs;exact dn q
 |cont =>
  obtain⟨_,_,_,q⟩:=hs;exact dn q
section
variable {X:Cx}{x:Str}{p pos:Pos}{e:aD}{es:List aD}{t:TA}{id T:String}{r:List V->B->VK->Prop}
def sM(r:List V->B->VK->Prop)(t:TA):TE:=λσ H Q=>t σ H λvs H1=>r vs H1 Q
theorem zH(hc:jE X (.builtin id) r)(hg:Gl X x)(hm:X.mg x=ao)(hv:Bh x=aa (.builtin id))(ha:PA X (e::es) t)(hn:x≠"__name__":=by lia)(hdb:(x==("__debug__":Str))=aq:=by lia)
  (he:Be (e::es) X.env=(aq,eval e X.env)::Be es X.env:=by rfl) (hpl:(backTo pos (Be es X.env)).any (·.1)=aq:=by rfl):PE X (.Call (.Name x p) (e::es) [] pos) (sM r t):=by
 intro aM s σ H Q I h;refine fj (X9 I hg hm hv ?_ hn hdb);exact PyProof.Rows.callWith_builtin1 (sr (ha pos aM s σ H _ I h) λus s1 ⟨vs,H1,I1,r1,q1⟩=>hc aM s1 σ H1 vs us Q I1 r1 q1) he hpl
theorem yV(hc:jE X (.type T) r)(hg:Gl X x)(hm:X.mg x=ao)(hv:Bh x=aa (.type T))(ha:PA X (e::es) t)(hn:x≠"__name__":=by lia)(hdb:(x==("__debug__":Str))=aq:=by lia)
  (he:Be (e::es) X.env=(aq,eval e X.env)::Be es X.env:=by rfl) (hpl:(backTo pos (Be es X.env)).any (·.1)=aq:=by rfl):PE X (.Call (.Name x p) (e::es) [] pos) (sM r t):=by
 intro aM s σ H Q I h;refine fj (X9 I hg hm hv ?_ hn hdb);exact gc (sr (ha pos aM s σ H _ I h) λus s1 ⟨vs,H1,I1,r1,q1⟩=>hc aM s1 σ H1 vs us Q I1 r1 q1) he hpl
end
end L2
namespace HT
open PySem PyProof.Rows
def zim:List Int->List Int->Bool
 |[],[]=>aq
 |[],_::_=>ah
 |_::_,[]=>aq
 |x::xs,y::ys=>if x=y then zim xs ys else decide (x<y)
theorem rcLt_int(A:aB)(s:am)(a:Int)(t:Tok)(c:Int)(u:Tok)(prog:ax)(w:aA)(E:af->am->Prop)(Q:af->am->Prop)(h:Q (.bool (decide (a<c))) s) :
  Bf (Bg prog w) A (richCompare .Lt (.int a t) (.int c u)) Q E s :=
 (oN h:Bf (Bg prog w) A (Bi .Lt (.int a t) (.int c u)) Q E s)
section
variable {prog:ax}{w:aA}{A:aB}{E:af->am->Prop}{s:am}
theorem cat_tup{Q:af->am->Prop}(ht:IsTup s.heap t vs.toArray)(hb:IsTup s.heap b ws.toArray)(hv:vs≠[])
  (h1:ws=[]->Q (.ref t) s) (h2:ws≠[]->Q (.ref s.heap.objs.size) { s with heap:=s.heap.push { cls:=.type "tuple",data:=.seq (vs++ws).toArray } })
  (hsz:vs.length+ws.length<=Bb):Bf (Bg prog w) A (binaryOp .Add (.ref t) (.ref b)) Q E s:=by
 obtain⟨⟨cls,dd,data,sl⟩,ho,hc,n,hd⟩:=id ht;obtain⟨⟨cls2,dd2,data2,sl2⟩,ho2,hc2,n2,hd2⟩:=id hb;simp only at hc hd hc2 hd2;subst hc hd hc2 hd2;have e:vs.toArray++ws.toArray=(vs++ws).toArray:=by simp
 by_cases hw:ws=[]
 ·exact concat_meets ⟨_,ho,Y⟩ ⟨_,ho2,Y⟩ noFill_tuple_add seq_tuple_add nK mZ (mI _ _)
   (tuple_addW1 t b vs.toArray ws.toArray n n2 dd dd2 sl sl2 (by simpa using hv) (by simp[hw])) ⟨ho,ho2,h1 hw⟩
 ·refine concat_meets ⟨_,ho,Y⟩ ⟨_,ho2,Y⟩ noFill_tuple_add seq_tuple_add nK mZ (mI _ _)
   (tuple_addW2 t b vs.toArray ws.toArray n n2 dd dd2 sl sl2 (by simpa using hv) (by simpa using hw) (by rw[bJ,bJ];exact hsz)) ⟨ho,ho2,?_⟩
  rw[e];exact h2 hw
def sIx(n d:Nat):Option Int->Nat
 |none=>d
 |some v=>if v<0 then (v+(n:Int)).toNat else min v.toNat n
theorem sIx_none(n d:Nat):sIx n d ao=d:=rfl
theorem sIx_nat(n d k:Nat):sIx n d (aa (k:Int))=min k n:=by
 show (if (k:Int)<0 then ((k:Int)+(n:Int)).toNat else min (k:Int).toNat n)=min k n;rw[ap (),eC]
theorem sIx_le(n d:Nat)(hd:d<=n)(o:Option Int):sIx n d o<=n:=by
 cases o with
 |none=>exact hd
 |some v =>
  show (if v<0 then (v+(n:Int)).toNat else min v.toNat n)<=n;by_cases hv:v<0
  ·rw[au hv];lia
  ·rw[ap hv];exact Nat.min_le_right _ _
end
end HT
namespace L2
open PySem PySem.Spec PyProof.Rows
abbrev TO:=St->B->(Option Int->B->Prop)->Prop
def PO(X:Cx)(e:Option aD)(t:TO):Prop :=
 ∀(aM:List (ac×Obj)) (s:am) (σ:St) (H:B) (Q:Option Int->B->Prop),aU X aM σ H s->t σ H Q ->
  Bf (Bg X.prog X.w) X.A (evalPart e X.env) (λu s'=>∃o H',aU X aM σ H' s'/\IsPart u o/\Q o H') X.xe s
def qc:TO:=λ_ H Q=>Q ao H
def vZ(t:TE):TO:=λσ H Q=>t σ H λx H1=>∃i,x=.int i/\Q (aa i) H1
section
variable {X:Cx}{e:aD}{te:TE}{lo hi:Option aD}{tl th:TO}{pos p2:Pos}
theorem Vh:PO X ao qc:=by
 intro aM s σ H Q I h;rw[evalPart_none];exact bf ⟨ao,H,I,.none,h⟩
theorem Z7(h:PE X e te):PO X (aa e) (vZ te):=by
 intro aM s σ H Q I hw;rw[evalPart_some];refine sr (h aM s σ H _ I hw) λu s1 ⟨x,H1,I1,r1,q1⟩=>?_;obtain⟨i,rfl,q⟩:=q1;obtain⟨t,rfl⟩:=r1;exact⟨aa i,H1,I1,.int i t,q⟩
def SlR(X:Cx)(r:V->Option Int->Option Int->B->VK->Prop):Prop :=
 ∀(aM:List (ac×Obj)) (s:am) (σ:St) (H:B) (x:V) (v vl vu:af) (lo hi:Option Int) (sl:ac) (Q:VK),aU X aM σ H s->aZ x v->s.heap.IsSliceOf sl vl vu .none->IsPart vl lo->IsPart vu hi->r x lo hi H Q ->
  ∃T id,typeLookup (.type T) "__getitem__"=pure (aa (.builtin id))/\s.TypeIs v T/\Bf (Bg X.prog X.w) X.A (getItem v (.ref sl)) (EP X aM σ Q) X.xe s
def tSl(r:V->Option Int->Option Int->B->VK->Prop)(te:TE)(tl th:TO):TE:=λσ H Q=>te σ H λx H1=>tl σ H1 λl H2=>th σ H2 λu H3=>r x l u H3 Q
theorem kE{r:V->Option Int->Option Int->B->VK->Prop}(hr:SlR X r)(he:PE X e te)(hl:PO X lo tl)(hu:PO X hi th):PE X (.Subscript e (.Slice lo hi ao p2) pos) (tSl r te tl th):=by
 intro aM s σ H Q I h;refine Subscript_ (sr (he aM s σ H _ I h) λv s1 ⟨x,H1,I1,r1,q1⟩=>?_);refine wpAny_Slice (sr (hl aM s1 σ H1 _ I1 q1) λvl s2 ⟨l,H2,I2,pl,q2⟩=>sr (hu aM s2 σ H2 _ I2 q2) λvu s3 ⟨u,H3,I3,pu,q3⟩=>?_);rw[evalPart_none];refine bf ?_;have I4:aU X aM σ H3 { s3 with heap:=s3.heap.push { cls:=.type "slice",data:=.fields #[vl,vu,.none] } }:=I3.kept (t':=s3.toks) λb ob q=>bd _ q;obtain⟨T,id,hT,ht,hg⟩:=hr aM { s3 with heap:=s3.heap.push { cls:=.type "slice",data:=.fields #[vl,vu,.none] } } σ H3 x v vl vu l u s3.heap.objs.size Q I4 r1 (Heap.IsSliceOf.new ..) pl pu q3;show Bf (Bg X.prog X.w) X.A (subscriptTail e (.Slice lo hi ao p2) v (.ref s3.heap.objs.size)) (EP X aM σ Q) X.xe { s3 with heap:=s3.heap.push { cls:=.type "slice",data:=.fields #[vl,vu,.none] } };exact tail_any (ops:=[.ref s3.heap.objs.size,v]) ht hT hg (by with_unfolding_all rfl)
def Ze(xs:List V)(lo hi:Option Int):List V:=(xs.drop (HT.sIx xs.length 0 lo)).take (HT.sIx xs.length xs.length hi-HT.sIx xs.length 0 lo)
theorem zab(xs:List V)(lo hi:Option Int):(Ze xs lo hi).length<=xs.length:=by
 unfold Ze;rw[cK,cT];lia
def zd3(K:bw):R2:=λx y H Q=>∃a b xs ys,x=.ref a/\y=.ref b/\sI K H a xs/\sI K H b ys/\xs≠[]/\xs.length+ys.length<=Bb /\
 (ys=[]->Q (.ref a) H)/\(ys≠[]->∀p,H p=ao->Q (.ref p) (upd H p (.tup (xs++ys))))
theorem aX.nil_iff(r:aX xs us):us=[]↔xs=[]:=by
 cases r with
 |nil=>simp
 |cons _ _=>simp
theorem zcm:tE X (binaryOp .Add) (zd3 X.K):=by
 intro aM s σ H x y v u Q I rx ry h;obtain⟨a,b,xs,ys,rfl,rfl,ha,hb,hx,hz,q1,q2⟩:=h;cases rx;cases ry;obtain⟨its,r1,p1,_⟩:=I.tuple ha;obtain⟨its2,r2,p2,_⟩:=I.tuple hb;refine HT.cat_tup p1 p2 (λz=>hx (r1.nil_iff.mp z)) (λz=>⟨.ref a,H,I,Y,q1 (r2.nil_iff.mp z)⟩) (λz=>?_) (by rw[<-r1.length,<-r2.length];exact hz);refine⟨.ref s.heap.objs.size,_,I.laid (t':=s.toks) (o:=.tup (xs++ys)) (λb ob q=>bd _ q) (bp _) ?_,Y,q2 (λw=>z (r2.nil_iff.mpr w)) _ (I.hok.fresh (bp _))⟩;exact⟨by rw[bE];exact hz,_,r1.append r2,IsTup.new _ _⟩
end
def ixN(n:Nat)(i:Int):Option Nat:=if 0<=i then (if i<n then aa i.toNat else ao) else if -(n:Int)<=i then aa (i+n).toNat else ao
def tL{α:Type}(xs:List α)(i:Int):Option α:=(ixN xs.length i).bind λj=>xs[j]?
theorem zf2{i:Int}(h:ixN n i=aa j):seqIndex? i n=aa j/\j<n/\-(n:Int)<=i/\i<n:=by
 unfold ixN at h;by_cases h0:0<=i
 ·rw[au h0] at h;by_cases h1:i<n
  ·rw[au h1] at h;have e:i.toNat=j:=bL h;exact⟨by rw[seqIndex_of h0 h1,e],(),(),h1⟩
  ·rw[ap h1] at h;cases h
 ·rw[ap h0] at h;by_cases h1:-(n:Int)<=i
  ·rw[au h1] at h;have e:(i+n).toNat=j:=bL h;exact⟨by rw[p8 () h1,e],(),h1,()⟩
  ·rw[ap h1] at h;cases h
theorem KQ{α:Type}{xs:List α}{i:Int}{v:α}(h:tL xs i=aa v):∃j,seqIndex? i xs.length=aa j/\xs[j]?=aa v/\j<xs.length/\-(xs.length:Int)<=i/\i<xs.length:=by
 unfold tL at h;cases e:ixN xs.length i with
 |none=>rw[e] at h;cases h
 |some j =>
  rw[e] at h;obtain⟨h1,h2,h3,h4⟩:=zf2 e;exact⟨j,h1,h,h2,h3,h4⟩
theorem yd{α:Type}{xs:List α}{j:Nat}{v:α}(h:xs[j]?=aa v):tL xs (j:Int)=aa v:=by
 have hj:j<xs.length:=(bn.mp h).1;have e:ixN xs.length (j:Int)=aa j:=by
  unfold ixN;rw[au (),au ()];simp
 unfold tL;rw[e];exact h
theorem atI_last{α:Type}(xs:List α)(v:α):tL (xs++[v]) (-1)=aa v:=by
 have hl:(xs++[v]).length=xs.length+1:=by simp
 have e:ixN (xs++[v]).length (-1)=aa xs.length:=by
  unfold ixN;rw[hl,ap (),au ()];congr 1;lia
 unfold tL;rw[e];show (xs++[v])[xs.length]?=aa v;simp
def zcn(b:aD):Prop:=∀o i,subscripted b aq o i=operate [o,i] (getItem o i)
def IxR(X:Cx)(r:R2):Prop :=
 ∀(value slice:aD) (aM:List (ac×Obj)) (s:am) (σ:St) (H:B) (x y:V) (v u:af) (Q:VK),aU X aM σ H s->aZ x v->aZ y u->r x y H Q ->
  subscripted slice aq v u=operate [v,u] (getItem v u)->Bf (Bg X.prog X.w) X.A (subscriptTail value slice v u) (EP X aM σ Q) X.xe s
def MtR(X:Cx)(id:String)(r:V->List V->B->VK->Prop):Prop :=
 ∀(aM:List (ac×Obj)) (s:am) (σ:St) (H:B) (x:V) (xs:List V) (v:af) (us:List af) (Q:VK),aU X aM σ H s->aZ x v->aX xs us->r x xs H Q ->
  Bf (Bg X.prog X.w) X.A (call (.builtin id) (v::us)) (EP X aM σ Q) X.xe s
section
variable {X:Cx}{a b:aD}{ta tb:TE}{pos:Pos}
theorem zin{r:R2}(hr:IxR X r)(ha:PE X a ta)(hb:PE X b tb)(hs:zcn b):PE X (.Subscript a b pos) (aQ r ta tb):=by
 intro aM s σ H Q I h;exact Subscript_ (zhx ha hb I h λv u s2 x y H2 I2 rx ry q=>hr a b aM s2 σ H2 x y v u Q I2 rx ry q (hs _ _))
def yA(K:bw):R2:=λx y H Q=>∃p xs i v,x=.ref p/\y=.int i/\aY K H p xs/\tL xs i=aa v/\Q v H
def yp(K:bw):R2:=λx y H Q=>∃p xs i v,x=.ref p/\y=.int i/\sI K H p xs/\tL xs i=aa v/\Q v H
def zdf:R2:=λx y H Q=>∃z i c,x=.str z/\y=.int i/\z.length<=Bb/\tL z.cps.toList i=aa c/\Q (.str ⟨#[c]⟩) H
theorem qd:IxR X (yA X.K):=by
 intro value slice aM s σ H x y v u Q I rx ry h hs;obtain⟨p,xs,i,z,rfl,rfl,hq,he,q⟩:=h;cases rx;obtain⟨t,rfl⟩:=ry;obtain⟨its,r,pl,hz⟩:=I.list hq;obtain⟨j,h1,h2,h3,h4,h5⟩:=KQ he;obtain⟨w,ew,rw'⟩:=r.get h2;have hl:=r.length;have hn:=KM;have fin:EP X aM σ Q w s:=⟨z,H,I,rw',q⟩;by_cases h0:0<=i
 ·have hj:i.toNat=j:=by
   rw[seqIndex_of h0 h5] at h1;exact bL h1
  exact item_listR pl.isList h0 () (by rw[hj];simpa using ew) fin hs
 ·have hj:(i+(its.toArray.size:Int)).toNat=j:=by
   rw[p8 () h4] at h1;rw[bJ,<-hl];exact bL h1
  exact nM (x:=w) pl.isList.typeIs slot_list_getitem.lookup
   (wpAny_getItem_list_neg (Q:=λr s'=>r=w/\EP X aM σ Q r s') pl.isList () (by rw[bJ] <;> lia) () (by rw[hj];simpa using ew) ⟨Y,fin⟩) hs
theorem yP:IxR X (yp X.K):=by
 intro value slice aM s σ H x y v u Q I rx ry h hs;obtain⟨p,xs,i,z,rfl,rfl,hq,he,q⟩:=h;cases rx;obtain⟨t,rfl⟩:=ry;obtain⟨its,r,pl,hz⟩:=I.tuple hq;obtain⟨j,h1,h2,h3,h4,h5⟩:=KQ he;obtain⟨w,ew,rw'⟩:=r.get h2;have hl:=r.length;have hn:=KM;have fin:EP X aM σ Q w s:=⟨z,H,I,rw',q⟩;exact nM (x:=w) pl.typeIs slot_tuple_getitem.lookup
  (getItem_tuple (j:=j) (Q:=λr s'=>r=w/\EP X aM σ Q r s') pl () () (by rw[bJ,<-hl];exact h1) (by simpa using ew) ⟨Y,fin⟩) hs
theorem zbE:IxR X zdf:=by
 intro value slice aM s σ H x y v u Q I rx ry h hs;obtain⟨z,i,c,rfl,rfl,hz,he,q⟩:=h;obtain⟨t,rfl⟩:=rx;obtain⟨t',rfl⟩:=ry;obtain⟨j,h1,h2,h3,h4,h5⟩:=KQ he;have hl:z.cps.toList.length=z.length:=by simp[iI]
 rw[hl] at h1 h4 h5;have hn:=KM;exact tail_any (oz s z t) slot_str_getitem.lookup (getItem_str (c:=c) (by
  have e1:decide (i < -(2^63:Int))=aq:=Bk ();have e2:decide (i >= 2^63)=aq:=Bk ();rw[e1,e2,Bool.or_false]) (by rw[h1];simpa using h2) ⟨.str ⟨#[c]⟩,H,I.tok _,⟨_,Y⟩,q⟩) hs
theorem KR(lo hi:Option Int)(n:Nat):(sliceBounds lo hi ao n).1=((HT.sIx n 0 lo:Nat):Int)/\(sliceBounds lo hi ao n).2.1=((HT.sIx n n hi:Nat):Int)/\(sliceBounds lo hi ao n).2.2=1:=by
 refine⟨?_,?_,Y⟩
 ·cases lo with
  |none=>simp[sliceBounds,HT.sIx]
  |some i =>
   simp only[sliceBounds,HT.sIx,rD,show (1:Int) > 0 by lia,if_true];by_cases h:i<0
   ·simp only[h,if_true] <;> lia
   ·simp only[h,if_false] <;> lia
 ·cases hi with
  |none=>simp[sliceBounds,HT.sIx]
  |some i =>
   simp only[sliceBounds,HT.sIx,rD,show (1:Int) > 0 by lia,if_true];by_cases h:i<0
   ·simp only[h,if_true] <;> lia
   ·simp only[h,if_false] <;> lia
theorem Jo(its:List af)(lo hi:Option Int):slicePick its.toArray lo hi ao=((its.drop (HT.sIx its.length 0 lo)).take (HT.sIx its.length its.length hi-HT.sIx its.length 0 lo)).toArray:=by
 obtain⟨h1,h2,h3⟩:=KR lo hi its.toArray.size;unfold slicePick;rw[h1,h2,h3];simp only[sliceRange_one,pick_run,bJ] <;> rfl
def KS(K:bw):V->Option Int->Option Int->B->VK->Prop:=λx lo hi H Q=>∃a xs,x=.ref a/\aY K H a xs/\∀p,H p=ao->Q (.ref p) (upd H p (.lst (Ze xs lo hi)))
theorem Vi:SlR X (KS X.K):=by
 intro aM s σ H x v vl vu lo hi sl Q I rx hs pl pu h;obtain⟨a,xs,rfl,hx,q⟩:=h;cases rx;obtain⟨its,r,ht,hz⟩:=I.list hx;have hlen:=r.length;refine⟨"list",_,slot_list_getitem.lookup,ht.isList.typeIs,?_⟩;refine wpAny_getItem_list_slice ht.isList hs pl pu .none (by simp) ?_ (by rw[bJ] <;> lia);rw[Jo,<-hlen];refine⟨.ref s.heap.objs.size,_,I.laid (t':=s.toks) (o:=.lst (Ze xs lo hi)) (λb ob q=>bd _ q) (bp _) ?_,Y,q _ (I.hok.fresh (bp _))⟩;exact⟨bP (zab xs lo hi) hz,_,0,(r.drop (HT.sIx xs.length 0 lo)).take (HT.sIx xs.length xs.length hi-HT.sIx xs.length 0 lo),bG _ Y⟩
def Xn:V->Bool
 |.non=>ah
 |.bl _=>ah
 |.int _=>ah
 |.str _=>ah
 |_=>aq
def eqV:V->V->Bool
 |.non,.non=>ah
 |.bl a,.bl b=>a==b
 |.bl a,.int b=>(if a then 1 else 0)==b
 |.int a,.bl b=>a==(if b then 1 else 0)
 |.int a,.int b=>a==b
 |.str a,.str b=>a==b
 |_,_=>aq
theorem zhA(ry:aZ y u)(rx:aZ x v)(fy:Xn y=ah)(fx:Xn x=ah):SeqAt.EqAt A s u v (eqV y x):=by
 cases y with
 |non =>
  cases ry;cases x with
  |non=>cases rx;exact SeqAt.EqAt.same _
  |bl b=>cases rx;exact SeqAt.EqAt.none_bool b
  |int b=>obtain⟨t,rfl⟩:=rx;exact SeqAt.EqAt.none_int b t
  |str b=>obtain⟨t,rfl⟩:=rx;exact SeqAt.EqAt.none_str b t
  |_=>exact absurd (show aq=ah from fx) bM
 |bl a =>
  cases ry;cases x with
  |non=>cases rx;exact SeqAt.EqAt.bool_none a
  |bl b=>cases rx;exact SeqAt.EqAt.bool_bool a b
  |int b=>obtain⟨t,rfl⟩:=rx;exact SeqAt.EqAt.bool_int a b t
  |str b=>obtain⟨t,rfl⟩:=rx;exact SeqAt.EqAt.bool_str a b t
  |_=>exact absurd (show aq=ah from fx) bM
 |int a =>
  obtain⟨t',rfl⟩:=ry;cases x with
  |non=>cases rx;exact SeqAt.EqAt.int_none a t'
  |bl b=>cases rx;exact SeqAt.EqAt.int_bool a t' b
  |int b=>obtain⟨t,rfl⟩:=rx;exact mf a t' b t
  |str b=>obtain⟨t,rfl⟩:=rx;exact oX a t' b t
  |_=>exact absurd (show aq=ah from fx) bM
 |str a =>
  obtain⟨t',rfl⟩:=ry;cases x with
  |non=>cases rx;exact SeqAt.EqAt.str_none a t'
  |bl b=>cases rx;exact SeqAt.EqAt.str_bool a t' b
  |int b=>obtain⟨t,rfl⟩:=rx;exact oY a t' b t
  |str b=>obtain⟨t,rfl⟩:=rx;exact mh a t' b t
  |_=>exact absurd (show aq=ah from fx) bM
 |_=>exact absurd (show aq=ah from fy) bM
def eqU(x:V)(u:af):Bool:=match u with
 |.none=>eqV .non x
 |.bool b=>eqV (.bl b) x
 |.int i _=>eqV (.int i) x
 |.str z _=>eqV (.str z) x
 |_=>aq
theorem zd4(r:aZ y u)(f:Xn y=ah):eqU x u=eqV y x:=by
 cases y with
 |non=>cases r;rfl
 |bl b=>cases r;rfl
 |int i=>obtain⟨t,rfl⟩:=r;rfl
 |str z=>obtain⟨t,rfl⟩:=r;rfl
 |_=>exact absurd (show aq=ah from f) bM
theorem Xo{x:V}:∀ {xs:List V} {us:List af},aX xs us->xs.all Xn=ah->us.any (eqU x)=xs.any λy=>eqV y x
 |_,_,.nil,_=>rfl
 |y::xs,u::us,.cons r t,f=>by
  rw[gD,b6] at f;rw[lF,lF,zd4 r f.1,Xo t f.2]
theorem Zf{A:aB}{s:am}{x:V}{v:af}(rx:aZ x v)(fx:Xn x=ah):∀ {xs:List V} {us:List af},aX xs us->xs.all Xn=ah->∀u∈us,SeqAt.EqAt A s u v (eqU x u)
 |_,_,.nil,_=>λu hu=>by cases hu
 |y::xs,u::us,.cons r t,f=>λu' hu=>by
  rw[gD,b6] at f;rcases bF.mp hu with rfl|hu
  ·rw[zd4 r f.1];exact zhA r rx f.1 fx
  ·exact Zf rx fx t f.2 u' hu
def inV(x:V)(xs:List V):Bool:=xs.any λy=>eqV y x
def rIn(K:bw)(neg:Bool):R2:=λx y H Q=>∃p xs,y=.ref p/\(aY K H p xs\/sI K H p xs)/\Xn x=ah/\xs.all Xn=ah/\Q (.bl (if neg then !inV x xs else inV x xs)) H
theorem We:tE X (Bi .In) (rIn X.K aq):=by
 intro aM s σ H x y v u Q I rx ry h;obtain⟨p,xs,rfl,hq,fx,fs,q⟩:=h;cases ry;rcases hq with hq|hq
 ·obtain⟨its,r,pl,hz⟩:=I.list hq;refine SeqAt.in_listAt (eqU x) pl.isList (λw hw=>Zf rx fx r fs w (by simpa using hw)) ⟨.bl _,H,I,Y,?_⟩;rw[show its.toArray.any (eqU x)=its.any (eqU x) by simp,Xo r fs];exact q
 ·obtain⟨its,r,pl,hz⟩:=I.tuple hq;refine SeqAt.in_tupleAt (eqU x) pl (λw hw=>Zf rx fx r fs w (by simpa using hw)) ⟨.bl _,H,I,Y,?_⟩;rw[show its.toArray.any (eqU x)=its.any (eqU x) by simp,Xo r fs];exact q
theorem KU:tE X (Bi .NotIn) (rIn X.K ah):=by
 intro aM s σ H x y v u Q I rx ry h;obtain⟨p,xs,rfl,hq,fx,fs,q⟩:=h;cases ry;rcases hq with hq|hq
 ·obtain⟨its,r,pl,hz⟩:=I.list hq;refine SeqAt.notIn_listAt (eqU x) pl.isList (λw hw=>Zf rx fx r fs w (by simpa using hw)) ⟨.bl _,H,I,Y,?_⟩;rw[show its.toArray.any (eqU x)=its.any (eqU x) by simp,Xo r fs];exact q
 ·obtain⟨its,r,pl,hz⟩:=I.tuple hq;refine SeqAt.notIn_tupleAt (eqU x) pl (λw hw=>Zf rx fx r fs w (by simpa using hw)) ⟨.bl _,H,I,Y,?_⟩;rw[show its.toArray.any (eqU x)=its.any (eqU x) by simp,Xo r fs];exact q
theorem xY:jE X (.type "list") (λxs H Q=>∃p ys,xs=[.ref p]/\(aY X.K H p ys\/sI X.K H p ys)/\∀l,H l=ao->Q (.ref l) (upd H l (.lst ys))):=by
 intro aM s σ H xs us Q I r h;obtain⟨p,ys,rfl,hq,q⟩:=h;obtain⟨u,rfl,rx⟩:=jF r;cases rx;have fin:∀(its:List af),aX ys its->ys.length<=Bb->∀(h':ay) (c':Nat),(∀b o',s.heap.get? b=aa o'->h'.get? b=aa o') ->
   h'.get? s.heap.objs.size=aa { cls:=.type "list",dict:=ao,data:=.seq its.toArray c',slots:=#[] }->EP X aM σ Q (.ref s.heap.objs.size) { s with heap:=h' }:=λits r' hz h' c' kp e =>
  ⟨.ref s.heap.objs.size,_,I.laid (t':=s.toks) kp (bp _) (show dl X.prog X.w _ h' _ (.lst ys) from ⟨hz,its,c',r',e⟩),Y,q _ (I.hok.fresh (bp _))⟩
 rcases hq with hq|hq
 ·obtain⟨its,r',pl,hz⟩:=I.list hq;have hlen:=r'.length;obtain⟨o,ho,hc,n,hd⟩:=pl.isList;exact call_list_seq p (.inl Y) ho hc hd (λh' c' kp e=>fin its r' hz h' c' kp e) (by simp only[bJ] <;> lia)
 ·obtain⟨its,r',pl,hz⟩:=I.tuple hq;have hlen:=r'.length;obtain⟨o,ho,hc,n,hd⟩:=pl;exact call_list_seq p (.inr Y) ho hc hd (λh' c' kp e=>fin its r' hz h' c' kp e) (by simp only[bJ] <;> lia)
theorem Jp:jE X (.type "tuple") (λxs H Q=>∃p ys,xs=[.ref p]/\((aY X.K H p ys/\∀l,H l=ao->Q (.ref l) (upd H l (.tup ys)))\/(sI X.K H p ys/\Q (.ref p) H))):=by
 intro aM s σ H xs us Q I r h;obtain⟨p,ys,rfl,h⟩:=h;obtain⟨u,rfl,rx⟩:=jF r;cases rx;rcases h with ⟨hq,q⟩|⟨hq,q⟩
 ·obtain⟨its,r',pl,hz⟩:=I.list hq;have hlen:=r'.length;refine call_tuple_list pl.isList (λh' kp=>?_) (by simp only[bJ] <;> lia);have I1:aU X aM σ H { s with heap:=h' }:=I.kept (t':=s.toks) kp;have I2:aU X aM σ (upd H h'.objs.size (.tup ys)) { s with heap:=h'.push { cls:=.type "tuple",data:=.seq its.toArray } } :=
   I1.laid (t':=s.toks) (λb o e=>bd _ e) (bp _) (show dl X.prog X.w _ _ _ (.tup ys) from ⟨hz,its,r',IsTup.new _ _⟩)
  exact⟨.ref h'.objs.size,_,I2,Y,q _ (I1.hok.fresh (bp _))⟩
 ·obtain⟨its,r',pl,hz⟩:=I.tuple hq;exact call_tuple_same pl ⟨.ref p,H,I,Y,q⟩
def tyV(K:bw)(T:String)(x:V)(H:B):Prop:=match x with
 |.str _=>T="str"
 |.int _=>T="int"
 |.ref p=>(T="list"/\∃xs,aY K H p xs)\/(T="tuple"/\∃o,K.lookup p=aa o/\o.cls=.type "tuple"/\o.dict=ao) \/
   (T="dict"/\((∃aO,H p=aa (.dK aO))\/∃aO,H p=aa (.dT aO)))\/(T="set"/\∃S n,H p=aa (.set S n))
 |_=>False
theorem zd5{σ:St}{H:B}{s:am}{T:String}{x:V}{v:af}(I:aU X aM σ H s)(r:aZ x v)(ty:tyV X.K T x H) :
  s.TypeIs v T/\∀a,v=.ref a->∃ob,s.heap.get? a=aa ob/\ob.dict=ao:=by
 cases x with
 |str z =>
  obtain⟨t,rfl⟩:=r;cases (show T="str" from ty);exact⟨oz s z t,λ_ e=>nomatch e⟩
 |int i =>
  obtain⟨t,rfl⟩:=r;cases (show T="int" from ty);exact⟨typeIs_int s i t,λ_ e=>nomatch e⟩
 |ref p =>
  cases r;rcases ty with ⟨rfl,xs,hq⟩|⟨rfl,o,hk,hc,hd⟩|⟨rfl,hk⟩|⟨rfl,S,n,hk⟩
  ·obtain⟨its,_,pl,_⟩:=I.list hq;refine⟨pl.isList.typeIs,λa e=>?_⟩;cases e;obtain⟨o,n,e,c,hd,_⟩:=pl;exact⟨o,e,hd⟩
  ·refine⟨⟨o,I.kIn p o hk,hc⟩,λa e=>?_⟩;cases e;exact⟨o,I.kIn _ o hk,hd⟩
  ·have z:∃o,s.heap.get? p=aa o/\o.ExactDict:=by
    rcases hk with ⟨aO,hk⟩|⟨aO,hk⟩
    ·obtain⟨_,_,_,_,o,_,_,e,ex,_⟩:=I.hok p _ hk;exact⟨o,e,ex⟩
    ·obtain⟨_,_,_,_,o,_,_,e,ex,_⟩:=I.hok p _ hk;exact⟨o,e,ex⟩
   obtain⟨o,e,ex⟩:=z;refine⟨⟨o,e,ex.1⟩,λa e2=>?_⟩;cases e2;exact⟨o,e,ex.2.1⟩
  ·obtain⟨o,_,_,_,e,ex,_⟩:=I.hok p _ hk;refine⟨⟨o,e,ex.1⟩,λa e2=>?_⟩;cases e2;exact⟨o,e,ex.2.1⟩
 |_=>exact dn ty
def zdg(K:bw)(T:String)(r:V->List V->B->VK->Prop)(to:TE):TE:=λσ H Q=>to σ H λx H1=>tyV K T x H1/\r x [] H1 Q
def tBM(K:bw)(T:String)(r:V->List V->B->VK->Prop)(to:TE)(t:TA):TE:=λσ H Q=>to σ H λx H1=>tyV K T x H1/\t σ H1 λxs H2=>r x xs H2 Q
variable {o e:aD}{es:List aD}{to:TE}{t:TA}{name:Str}{sC sK:Pos}{T id:String}{r:V->List V->B->VK->Prop}
theorem zbF(pa:PlainAttrs T)(slot:Slot T name id)(hty:typeOf (.builtin id)=pure (.type "method_descriptor"))(hm:MtR X id r)(ho:PE X o to)
  (hbase:attributeBase o name X.env (eval o X.env)=eval o X.env:=by rfl) (hline:(sC.endLine==sK.line)=ah:=by rfl):PE X (.Call (.Attribute o name sC) [] [] sK) (zdg X.K T r to):=by
 intro aM s σ H Q I h;refine m3 hbase hline (sr (ho aM s σ H _ I h) λv s1 ⟨x,H1,I1,r1,ty,q1⟩=>?_);obtain⟨h1,h2⟩:=zd5 I1 r1 ty;exact⟨T,id,pa,slot,hty,h1,h2,dy Y (oO (hm aM s1 σ H1 x [] v [] Q I1 r1 .nil q1))⟩
theorem wE(pa:PlainAttrs T)(slot:Slot T name id)(hty:typeOf (.builtin id)=pure (.type "method_descriptor"))(hm:MtR X id r)(ho:PE X o to)(ha:PA X (e::es) t)
  (hbase:attributeBase o name X.env (eval o X.env)=eval o X.env:=by rfl)
  (hfew:((backTo sK (Be (e::es) X.env)).all (λx=>!x.1)&&(backToKw sK (keywordEach [] X.env)).all (λx=>x.1.isSome)
   && decide ((e::es).length+([]:List Keyword).length+(if ([]:List Keyword).isEmpty then 0 else 1)<30))=ah:=by rfl)
  (hline:(sC.endLine==sK.line)=ah:=by rfl) (hs:Be (e::es) X.env=(aq,eval e X.env)::Be es X.env:=by rfl) (hplain:(backTo sK (Be es X.env)).any (·.1)=aq:=by rfl) :
  PE X (.Call (.Attribute o name sC) (e::es) [] sK) (tBM X.K T r to t):=by
 intro aM s σ H Q I h;refine wpAny_Call_method_late hbase hfew hline Y (sr (ho aM s σ H _ I h) λv s1 ⟨x,H1,I1,r1,ty,q1⟩=>?_);obtain⟨h1,h2⟩:=zd5 I1 r1 ty;refine⟨T,id,pa,slot,hty,h1,h2,?_⟩;have hA:=ha sK aM s1 σ H1 _ I1 q1;rw[hs] at hA ⊢;refine dy (by show (aq || (backTo sK (Be es X.env)).any (·.1))=aq;rw[hplain] <;> rfl) (eo ?_);exact sr hA λus s2 ⟨vs,H2,I2,r2,q2⟩=>hm aM s2 σ H2 x vs v us Q I2 r1 r2 q2
end
def MtM(X:Cx)(id:String)(r:V->List V->B->VK->Prop):Prop :=
 ∀(aM:List (ac×Obj)) (s:am) (σ:St) (H:B) (x:V) (xs:List V) (v:af) (us:List af) (Q:VK),aU X aM σ H s->aZ x v->aX xs us->r x xs H Q ->
  Bf (Bg X.prog X.w) X.A (call (.builtin id) (v::us)) (EP X aM σ Q) X.xe s
theorem aX.one:∀ {x:V} {us:List af},aX [x] us->∃u,us=[u]/\aZ x u
 |_,_,.cons r .nil=>⟨_,Y,r⟩
theorem aX.zero:∀ {us:List af},aX [] us->us=[]
 |_,.nil=>rfl
theorem aX.dropLast(h:aX xs us):aX xs.dropLast us.dropLast:=by
 induction h with
 |nil=>exact .nil
 |cons r t ih =>
  cases t with
  |nil=>exact .nil
  |cons q t'=>exact .cons r ih
theorem aX.eraseIdx:∀ {xs:List V} {us:List af} (i:Nat),aX xs us->aX (xs.eraseIdx i) (us.eraseIdx i)
 |_,_,_,.nil=>.nil
 |_,_,0,.cons _ t=>t
 |_,_,i+1,.cons r t=>.cons r (aX.eraseIdx i t)
theorem zbG{α:Type}(l:List α):l.eraseIdx (l.length-1)=l.dropLast:=by
 induction l with
 |nil=>rfl
 |cons a r ih =>
  cases r with
  |nil=>rfl
  |cons b r =>
   have e:(a::b::r).length-1=((b::r).length-1)+1:=by
    have h1:(a::b::r).length=r.length+2:=rfl;have h2:(b::r).length=r.length+1:=rfl;lia
   rw[e,ii,ih]
   all_goals rfl
theorem JZ{α:Type}:∀(l:List α) (i:Nat),(l.eraseIdx i).length<=l.length
 |[],_=>bp _
 |_::_,0=>rQ _
 |_::r,i+1=>fV (JZ r i)
section
variable {X:Cx}{aM:List (ac×Obj)}{σ:St}{H:B}{s:am}{l b:ac}{xs ys zs:List V}
theorem aU.lset{its its':List af}{n:Nat}{f:Array af->Array af}(I:aU X aM σ H s)(hH:H l=aa (.lst xs))
  (e:s.heap.get? l=aa { cls:=.type "list",data:=.seq its.toArray n }) (hf:f its.toArray=its'.toArray) (hv:aX ys its') (hz:ys.length<=Bb) :
  aU X aM σ (upd H l (.lst ys)) { s with heap:=s.heap.update l (dA f),toks:=t' }:=by
 have q:=PySem.IsL.update e f;rw[hf] at q;refine I.write (x:=l) (e:=l) (by rw[hH];exact trivial) (.inl Y) (λb' u hb hu=>(eA s.heap (dA f) (eP hb)).trans hu) ⟨_,q⟩ ?_;exact⟨hz,its',_,hv,q⟩
theorem aU.lnew(I:aU X aM σ H s)(hv:aX ys its)(hz:ys.length<=Bb) :
  aU X aM σ (upd H s.heap.objs.size (.lst ys)) { s with heap:=s.heap.push { cls:=.type "list",data:=.seq its.toArray },toks:=t' }:=
 I.laid (λ_ _ q=>bd _ q) (bp _) ⟨hz,its,0,hv,bG _ Y⟩
theorem aU.fresh(I:aU X aM σ H s):H s.heap.objs.size=ao:=I.hok.fresh (bp _)
theorem aU.lstM(I:aU X aM σ H s)(hH:H l=aa (.lst xs)):xs.length<=Bb/\∃(its:List af) (n:Nat),aX xs its/\xs.length=its.length/\s.heap.get? l=aa { cls:=.type "list",data:=.seq its.toArray n }:=by
 obtain⟨z,its,n,r,e⟩:=I.hok l _ hH;exact⟨z,its,n,r,r.length,e⟩
theorem zd6(h:n<=Bb):gZ n=aq:=by
 unfold gZ;exact Bk ()
end
section
variable {X:Cx}
def Vj:V->List V->B->VK->Prop:=λx vs H Q=>∃l xs y,x=.ref l/\vs=[y]/\H l=aa (.lst xs)/\xs.length<Bb/\Q .non (upd H l (.lst (xs++[y])))
theorem yK:MtM X "list.append" Vj:=by
 intro aM s σ H x vs v us Q I rx rv h;obtain⟨l,xs,y,rfl,rfl,hH,hz,q⟩:=h;cases rx;obtain⟨u,rfl,ru⟩:=rv.one;obtain⟨z,its,n,r,hl,e⟩:=I.lstM hH;refine iJ F.slot_list_append ⟨_,e,Y⟩ F.entry_list_append (F.args_list_append_2 _ _) (PySem.list_append l its.toArray n u (by rw[bJ];lia)) ⟨e,?_⟩;refine⟨.non,_,I.lset (its':=its++[u]) hH e (by simp) (r.append (.cons ru .nil)) ?_,Y,q⟩;rw[bE,eJ];lia
def zco:V->List V->B->VK->Prop:=λx vs H Q=>∃l b xs zs,x=.ref l/\vs=[.ref b]/\H l=aa (.lst xs)/\H b=aa (.lst zs)/\xs.length+zs.length<=Bb/\Q .non (upd H l (.lst (xs++zs)))
theorem zdh:MtM X "list.extend" zco:=by
 intro aM s σ H x vs v us Q I rx rv h;obtain⟨l,b,xs,zs,rfl,rfl,hH,hB,hz,q⟩:=h;cases rx;obtain⟨u,rfl,ru⟩:=rv.one;cases ru;obtain⟨z,its,n,r,hl,e⟩:=I.lstM hH;obtain⟨z2,its2,n2,r2,hl2,e2⟩:=I.lstM hB;have hsz:its.toArray.size+its2.toArray.size<=Bb:=by rw[bJ,bJ];lia
 have hlong:¬ (!its.toArray.isEmpty&&gZ (its.toArray.size+its2.toArray.size))=ah:=by
  rw[zd6 hsz,Bool.and_false];exact bM
 refine iJ F.slot_list_extend ⟨_,e,Y⟩ F.entry_list_extend (F.args_list_extend_2 _ _)
  (AutoSeq1.list_extend_list_list_0 l its.toArray n b its2.toArray n2 hlong (by rw[bJ];lia) ()) ⟨e,e2,?_⟩
 refine⟨.non,_,I.lset (its':=its++its2) hH e (by simp) (r.append r2) ?_,Y,q⟩;rw[bE];lia
def zf3:V->List V->B->VK->Prop:=λx vs H Q=>∃l xs y,x=.ref l/\vs=[]/\H l=aa (.lst xs)/\xs[xs.length-1]?=aa y/\Q y (upd H l (.lst xs.dropLast))
theorem zbH:MtM X "list.pop" zf3:=by
 intro aM s σ H x vs v us Q I rx rv h;obtain⟨l,xs,y,rfl,rfl,hH,hy,q⟩:=h;cases rx;have hus:=rv.zero;subst hus;obtain⟨z,its,n,r,hl,e⟩:=I.lstM hH;obtain⟨u,hu,ru⟩:=r.get hy;have hy':its.toArray[its.toArray.size-1]?=aa u:=by
  show its.toArray[its.length-1]?=aa u;rw[<-dC,<-hl];exact hu
 refine iJ F.slot_list_pop ⟨_,e,Y⟩ F.entry_list_pop (F.args_list_pop_1 _) (MeetsSeq.list_pop_last l its.toArray n u hy' (by rw[bJ];lia)) ⟨e,?_⟩;refine⟨y,_,I.lset (its':=its.dropLast) hH e ?_ r.dropLast ?_,ru,q⟩
 ·show its.toArray.eraseIdxIfInBounds (its.toArray.size-1)=its.dropLast.toArray;rw[bJ,iK,zbG]
 ·rw[List.length_dropLast];lia
def zac:R2:=λx y H Q=>∃l b xs zs,x=.ref l/\y=.ref b/\H l=aa (.lst xs)/\H b=aa (.lst zs)/\xs.length+zs.length<=Bb/\∀p,H p=ao->Q (.ref p) (upd H p (.lst (xs++zs)))
theorem zd7:tE X (binaryOp .Add) zac:=by
 intro aM s σ H x y v u Q I rx ry h;obtain⟨l,b,xs,zs,rfl,rfl,hH,hB,hz,q⟩:=h;cases rx;cases ry;obtain⟨z,its,n,r,hl,e⟩:=I.lstM hH;obtain⟨z2,its2,n2,r2,hl2,e2⟩:=I.lstM hB;refine PySem.P.add_list e e2 ?_ (by rw[bJ,bJ];lia);have ea:its.toArray++its2.toArray=(its++its2).toArray:=by simp
 rw[ea];exact⟨.ref _,_,I.lnew (t':=s.toks) (r.append r2) (by rw[bE];lia),Y,q _ I.fresh⟩
end
section
variable {prog:ax}{w:aA}{A:aB}{E:af->am->Prop}{s:am}
set_option maxRecDepth 100000 in
end
section
variable {κ:Type} [DecidableEq κ]
def zS(aO:List (κ×V))(k:κ):Option V:=(aO.find? λkv=>decide (kv.1=k)).map (·.2)
def ye(aO:List (κ×V))(k:κ)(v:V):List (κ×V) :=
 if (aO.any λkv=>decide (kv.1=k))=ah then aO.map (λkv=>if kv.1=k then (kv.1,v) else kv) else aO++[(k,v)]
def yc(aO:List (κ×V))(k:κ):List (κ×V):=aO.filter λkv=>decide (kv.1≠k)
theorem zad :zS ([]:List (κ×V)) k=ao:=rfl
theorem yB{p:κ×V}{r:List (κ×V)}(e:p.1=k):zS (p::r) k=aa p.2:=by simp[zS,gp,e]
theorem yC{p:κ×V}{r:List (κ×V)}(e:¬ p.1=k):zS (p::r) k=zS r k:=by simp[zS,gp,e]
theorem va(k:κ):∀aO:List (κ×V),(aO.any λkv=>decide (kv.1=k))=(zS aO k).isSome
 |[]=>rfl
 |p::r=>by
  rw[lF];by_cases e:p.1=k
  ·simp only[yB e,Bj e,Bool.true_or,Option.isSome_some]
  ·rw[yC e,Bk e,Bool.false_or];exact va k r
theorem zae(k j:κ)(y:V):∀aO:List (κ×V),zS (aO.map λkv=>if kv.1=k then (kv.1,y) else kv) j=(zS aO j).map λx=>if j=k then y else x
 |[]=>rfl
 |p::r=>by
  have ih:=zae k j y r;rw[bx];by_cases h:p.1=k
  ·rw[au h];by_cases e:p.1=j
   ·rw[yB (p:=(p.1,y)) e,yB e,ik,au (e.symm.trans h)]
   ·rw[yC (p:=(p.1,y)) e,yC e,ih]
  ·rw[ap h];by_cases e:p.1=j
   ·rw[yB (p:=p) e,yB e,ik,ap (λz=>h (e.trans z))]
   ·rw[yC (p:=p) e,yC e,ih]
theorem J1(k j:κ)(y:V):∀aO:List (κ×V),zS aO k=ao->zS (aO++[(k,y)]) j=if j=k then aa y else zS aO j
 |[],_=>by
  by_cases e:k=j
  ·rw[au e.symm];exact yB (p:=(k,y)) e
  ·rw[ap (λz=>e z.symm)];exact yC (p:=(k,y)) e
 |p::r,hn=>by
  rw[cL];have hk:¬ p.1=k:=λz=>by rw[yB z] at hn;cases hn
  rw[yC hk] at hn;have ih:=J1 k j y r hn;by_cases e:p.1=j
  ·rw[yB e,yB e,ap (λz=>hk (e.trans z))]
  ·rw[yC e,yC e,ih]
theorem Xp(aO:List (κ×V))(k j:κ)(y:V):zS (ye aO k y) j=if j=k then aa y else zS aO j:=by
 unfold ye;by_cases a:(aO.any λkv=>decide (kv.1=k))=ah
 ·rw[au a,zae];rw[va] at a;by_cases e:j=k
  ·obtain⟨x,hx⟩:=fI.mp a;rw[au e,e,hx,ik,au rfl]
  ·rw[ap e];cases zS aO j with
   |none=>rfl
   |some x=>rw[ik,ap e]
 ·rw[ap a];refine J1 k j y aO ?_;rw[va] at a;cases q:zS aO k with
  |none=>rfl
  |some x=>rw[q] at a;exact(a Y).elim
theorem xQ(aO:List (κ×V))(k:κ)(v:V):(ye aO k v).length<=aO.length+1:=by
 unfold ye;split
 ·rw[bg];lia
 ·rw[bE,bY,nY];lia
theorem vb{aO:List (κ×V)}(v:V)(h:zS aO k=ao):ye aO k v=aO++[(k,v)]:=by
 unfold ye;rw[va,h];exact ap ()
theorem tj.isSome_eq(r:tj o u):o.isSome=u.isSome:=by
 cases o with
 |none=>cases u with
  |none=>rfl
  |some _=>exact(show False from r).elim
 |some _=>cases u with
  |none=>exact(show False from r).elim
  |some _=>rfl
theorem tj.getD(r:tj o u)(rd:aZ d d'):aZ (o.getD d) (u.getD d'):=by
 cases o with
 |none=>cases u with
  |none=>exact rd
  |some _=>exact(show False from r).elim
 |some _=>cases u with
  |none=>exact(show False from r).elim
  |some _=>exact r
theorem KV.val(r:KV aO vs)(k:κ):tj (zS aO k) (valueAt vs k):=by
 unfold KV at r;induction r with
 |nil=>exact eO
 |@cons p q ps qs h t ih =>
  obtain⟨h1,h2⟩:=h;by_cases e:p.1=k
  ·have e':q.1=k:=h1.symm.trans e;have b:valueAt (q::qs) k=aa q.2:=by simp[valueAt,gp,e']
   rw[yB e,b];exact h2
  ·have e':¬ q.1=k:=λz=>e (h1.trans z);have b:valueAt (q::qs) k=valueAt qs k:=by simp[valueAt,gp,e']
   rw[yC e,b];exact ih
theorem KV.any(r:KV aO vs)(k:κ):(aO.any λkv=>decide (kv.1=k))=vs.any λkv=>decide (kv.1=k):=by
 unfold KV at r;induction r with
 |nil=>rfl
 |cons h t ih=>rw[lF,lF,ih,h.1]
theorem KV.repl(r:KV aO vs)(k:κ)(ry:aZ y u) :
  KV (aO.map λkv=>if kv.1=k then (kv.1,y) else kv) (vs.map λkv=>if kv.1=k then (kv.1,u) else kv):=by
 unfold KV at r ⊢;induction r with
 |nil=>exact .nil
 |@cons p q ps qs h t ih =>
  rw[bx,bx];refine .cons ?_ ih;obtain⟨h1,h2⟩:=h;by_cases e:p.1=k
  ·rw[au e,au (h1.symm.trans e)];exact⟨h1,ry⟩
  ·rw[ap e,ap (λz=>e (h1.trans z))];exact⟨h1,h2⟩
theorem KV.put(r:KV aO vs)(k:κ)(ry:aZ y u):KV (ye aO k y) (stored vs k u):=by
 unfold ye stored;rw[r.any k];by_cases e:(vs.any λkv=>decide (kv.1=k))=ah
 ·rw[au e,au e];exact r.repl k ry
 ·rw[ap e,ap e];exact Paired.snoc r ⟨Y,ry⟩
theorem KV.drop(r:KV aO vs)(k:κ):KV (yc aO k) (without vs k):=by
 unfold KV at r ⊢;unfold yc without;induction r with
 |nil=>exact .nil
 |@cons p q ps qs h t ih =>
  obtain⟨h1,h2⟩:=h;rw[dG,dG];by_cases e:p.1=k
  ·have a:¬ decide (p.1≠k)=ah:=by simp[e]
   have b:¬ decide (q.1≠k)=ah:=by simp[h1.symm.trans e]
   rw[ap a,ap b];exact ih
  ·have e':¬ q.1=k:=λz=>e (h1.trans z);have a:decide (p.1≠k)=ah:=by simp[e]
   have b:decide (q.1≠k)=ah:=by simp[e']
   rw[au a,au b];exact .cons ⟨h1,h2⟩ ih
theorem KV.length{vs:List (κ×af)}(r:KV aO vs):aO.length=vs.length:=bN r
theorem zaf(aO:List (κ×V))(k:κ):(yc aO k).length<=aO.length:=nZ _ _
end
theorem WJ(r:aZ (kV k) u):(yk P w).is k u=ah:=by
 cases k with
 |inl i=>obtain⟨t,e⟩:=(show ∃t,u=gM i t from r);subst e;exact QW P w i t
 |inr x=>obtain⟨t,e⟩:=(show ∃t,u=ic x t from r);subst e;exact QY P w x t
theorem Wf{P:ax}{w:aA}:∀ {ks:List bv} {us:List af},aX (ks.map kV) us->ItemsAre (yk P w) ks us
 |[],_,r=>by rw[n0] at r;cases r;exact .nil
 |k::ks,_,r=>by
  rw[bx] at r;cases r with
  |cons h t=>exact .cons (WJ h) (Wf t)
abbrev KT(H:B):List (List bv×V)->List (List bv×ac×af)->Prop:=Paired λp q=>p.1=q.1/\H q.2.1=aa (.tup (p.1.map kV))/\aZ p.2 q.2.2
theorem KT.val{H:B}{aO:List (List bv×V)}{xs:List (List bv×ac×af)}(r:KT H aO xs)(k:List bv):tj (zS aO k) ((atKey xs k).map (·.2)):=by
 induction r with
 |nil=>exact eO
 |@cons p q ps qs h t ih =>
  obtain⟨h1,_,h2⟩:=h;by_cases e:p.1=k
  ·have e':q.1=k:=h1.symm.trans e;have b:atKey (q::qs) k=aa q.2:=by simp[atKey,gp,e']
   rw[yB e,b];exact h2
  ·have e':¬ q.1=k:=λz=>e (h1.trans z);have b:atKey (q::qs) k=atKey qs k:=by simp[atKey,gp,e']
   rw[yC e,b];exact ih
theorem KT.repl{H:B}(r:KT H aO xs)(k:List bv)(ry:aZ y u) :
  KT H (aO.map λkv=>if kv.1=k then (kv.1,y) else kv) (xs.map (putAt k u)):=by
 induction r with
 |nil=>exact .nil
 |@cons p q ps qs h t ih =>
  rw[bx,bx];refine .cons ?_ ih;obtain⟨h1,h2,h3⟩:=h;unfold putAt;by_cases e:p.1=k
  ·rw[au e,au (h1.symm.trans e)];exact⟨h1,h2,ry⟩
  ·rw[ap e,ap (λz=>e (h1.trans z))];exact⟨h1,h2,h3⟩
theorem KT.put{H:B}(r:KT H aO xs)(k:List bv)(hb:H b=aa (.tup (k.map kV)))(ry:aZ y u) :
  KT H (ye aO k y) (storedH xs k b u):=by
 have e:(aO.any λkv=>decide (kv.1=k))=(atKey xs k).isSome:=by
  rw[va,(r.val k).isSome_eq,mJ]
 unfold ye storedH;rw[e];by_cases q:(atKey xs k).isSome=ah
 ·rw[au q,au q];exact r.repl k ry
 ·rw[ap q,ap q];exact Paired.snoc r ⟨Y,hb,ry⟩
theorem KT.keeps{H H':B}(r:KT H aO xs)(ht:∀b ys,H b=aa (.tup ys)->H' b=aa (.tup ys)):KT H' aO xs:=
 Paired.mapP r λ_ _ z=>⟨z.1,ht _ _ z.2.1,z.2.2⟩
section
variable {P:ax}{w:aA}{H:B}{h:ay}{a:ac}
theorem zg8(ok:tM P w H h)(e:Rd H a u):dl P w H h a u:=e.ok ok
theorem Vt(ok:tM P w H h)(e:Rd H a (.dK aO)):aO.length<=Bb/\(a==sysModules)=aq/\∃vs,KV aO vs/\h.DictOf (yk P w) a vs:=
 show dl P w H h a (.dK aO) from zg8 ok e
theorem zd8(ok:tM P w H h)(e:H a=aa (.dK aO)):aO.length<=Bb/\(a==sysModules)=aq/\∃vs,KV aO vs/\h.DictOf (yk P w) a vs:=Vt ok (.inl e)
theorem qe(ok:tM P w H h)(e:H a=aa (.tup (ks.map kV))):(tupleKind (yk P w)).is h ks a:=by
 obtain⟨_,its,r,o,h1,h2,n,h3⟩:=(show dl P w H h a (.tup (ks.map kV)) from ok a _ e);exact⟨o,its.toArray,n,h1,h2,h3,by simpa using Wf r⟩
theorem Vu(ok:tM P w H h)(e:Rd H a (.dT aO)):aO.length<=Bb/\(a==sysModules)=aq /\
  ∃xs,KT H aO xs/\h.DictOfH (tupleKind (yk P w)) a xs:=by
 obtain⟨z,y,xs,r,o,es,ep,h1,h2,h3,h4,h5⟩:=(show dl P w H h a (.dT aO) from zg8 ok e);refine⟨z,y,xs,r,o,es,ep,h1,h2,h3,h4,λx hx=>?_,h5⟩;have all:∀ {l:List (List bv×V)} {m:List (List bv×ac×af)},KT H l m->∀x∈m,(tupleKind (yk P w)).is h x.1 x.2.1:=by
  intro l m q;induction q with
  |nil=>intro x hx;exact nomatch hx
  |@cons p q ps qs hq t ih =>
   intro x hx;rcases bF.mp hx with e|hx
   ·subst e;exact qe ok (by rw[<-hq.1];exact hq.2.1)
   ·exact ih x hx
 exact all r x hx
theorem zag(ok:tM P w H h)(e:H a=aa (.dT aO)):aO.length<=Bb/\(a==sysModules)=aq /\
  ∃xs,KT H aO xs/\h.DictOfH (tupleKind (yk P w)) a xs:=Vu ok (.inl e)
end
def sT(H:B)(a:ac)(y:V)(r:Option V):Prop :=
 (∃aO k,Rd H a (.dK aO)/\y=kV k/\r=zS aO k)\/∃aO k b,Rd H a (.dT aO)/\y=.ref b/\H b=aa (.tup (k.map kV))/\r=zS aO k
def DPut(H:B)(a:ac)(y v:V)(H':B):Prop :=
 (∃aO k,H a=aa (.dK aO)/\y=kV k/\aO.length<Bb/\H'=upd H a (.dK (ye aO k v))) \/
 ∃aO k b,H a=aa (.dT aO)/\y=.ref b/\H b=aa (.tup (k.map kV))/\aO.length<Bb/\H'=upd H a (.dT (ye aO k v))
theorem sT.k{H:B}{aO:List (bv×V)}{k:bv}(e:H a=aa (.dK aO)):sT H a (kV k) (zS aO k):=.inl ⟨aO,k,.inl e,Y,Y⟩
theorem sT.t{H:B}{aO:List (List bv×V)}{k:List bv}(e:H a=aa (.dT aO))(eb:H b=aa (.tup (k.map kV))):sT H a (.ref b) (zS aO k):=.inr ⟨aO,k,b,.inl e,Y,eb,Y⟩
theorem DPut.k{H:B}{aO:List (bv×V)}{k:bv}(e:H a=aa (.dK aO))(hl:aO.length<Bb):DPut H a (kV k) v (upd H a (.dK (ye aO k v))):=.inl ⟨aO,k,e,Y,hl,Y⟩
theorem DPut.t{H:B}{aO:List (List bv×V)}{k:List bv}(e:H a=aa (.dT aO))(eb:H b=aa (.tup (k.map kV)))(hl:aO.length<Bb) :
  DPut H a (.ref b) v (upd H a (.dT (ye aO k v))):=.inr ⟨aO,k,b,e,Y,eb,hl,Y⟩
section
variable {X:Cx}{aM:List (ac×Obj)}{σ:St}{H:B}{s:am}{a:ac}{y v:V}{u r:af}{o:Option V}{A:aB}{E:af->am->Prop}
theorem aU.big(I:aU X aM σ H s):sysModules<s.heap.objs.size:=by
 have h:Bd<s.heap.objs.size:=(I.mod.glob.keeps I.bk).lt;exact p9 () h
theorem zdi{Q:af->am->Prop}(hu:A.units+1<cLine)(I:aU X aM σ H s)(g:sT H a y (aa v))(ry:aZ y u)(h:∀w' s',aU X aM σ H s'->aZ v w'->Q w' s') :
  Bf (Bg X.prog X.w) A (getItem (.ref a) u) Q E s:=by
 rcases g with ⟨aO,k,e,ey,l⟩|⟨aO,k,b,e,ey,eb,l⟩
 ·subst ey;obtain⟨z,hd,vs,rel,dd⟩:=Vt I.hok e;obtain⟨w',hw,rw'⟩:=tj.some_of (v:=v) (o:=valueAt vs k) (by rw[l];exact rel.val k);exact wpAny_getItem_of (WJ ry) dd.mapOf hw (h w' _ (I.tok _) rw')
 ·subst ey;cases (show u=bK b from ry);obtain⟨z,hd,xs,rel,dd⟩:=Vu I.hok e;obtain⟨w',hw,rw'⟩:=tj.some_of (v:=v) (o:=(atKey xs k).map (·.2)) (by rw[l];exact rel.val k);obtain⟨p,hp,hp2⟩:=b8.mp hw;refine wpAny_getItem_heap (dY hu) (qe I.hok eb) dd hp ?_;rw[hp2];exact h w' _ (I.tok _) rw'
theorem ziP{Q:af->am->Prop}(hu:A.units+1<cLine)(I:aU X aM σ H s)(g:sT H a y o)(ry:aZ y u)(h:∀s',aU X aM σ H s'->Q (.bool o.isSome) s') :
  Bf (Bg X.prog X.w) A (Bi .In u (.ref a)) Q E s:=by
 rcases g with ⟨aO,k,e,ey,l⟩|⟨aO,k,b,e,ey,eb,l⟩
 ·subst ey;obtain⟨z,hd,vs,rel,dd⟩:=Vt I.hok e;refine wpAny_in_of (WJ ry) hd dd.mapOf ?_;rw[<-(rel.val k).isSome_eq,<-l];exact h _ (I.tok _)
 ·subst ey;cases (show u=bK b from ry);obtain⟨z,hd,xs,rel,dd⟩:=Vu I.hok e;refine wpAny_in_heap (dY hu) (qe I.hok eb) hd dd ?_;have q:=(rel.val k).isSome_eq;rw[mJ] at q;rw[<-q,<-l];exact h _ (I.tok _)
theorem zf4{Q:af->am->Prop}(hu:A.units+1<cLine)(I:aU X aM σ H s)(g:sT H a y o)(ry:aZ y u)(h:∀s',aU X aM σ H s'->Q (.bool (!o.isSome)) s') :
  Bf (Bg X.prog X.w) A (Bi .NotIn u (.ref a)) Q E s:=by
 rcases g with ⟨aO,k,e,ey,l⟩|⟨aO,k,b,e,ey,eb,l⟩
 ·subst ey;obtain⟨z,hd,vs,rel,dd⟩:=Vt I.hok e;refine wpAny_notIn_of (WJ ry) hd dd.mapOf ?_;rw[<-(rel.val k).isSome_eq,<-l];exact h _ (I.tok _)
 ·subst ey;cases (show u=bK b from ry);obtain⟨z,hd,xs,rel,dd⟩:=Vu I.hok e;refine wpAny_notIn_heap (dY hu) (qe I.hok eb) hd dd ?_;have q:=(rel.val k).isSome_eq;rw[mJ] at q;rw[<-q,<-l];exact h _ (I.tok _)
theorem Z8(I:aU X aM σ H s)(mu:Mut (H a))(hs:cS a s.heap h')(he:∃q,h'.get? a=aa q)(new:dl X.prog X.w (upd H a ob) h' a ob) :
  aU X aM σ (upd H a ob) { s with heap:=h',toks:=t' }:=
 I.write (x:=a) (e:=a) mu (.inl Y) (λb q hb z=>(hs.2 b hb).trans z) he new
theorem Vv{H':B}(z:aO.length<=Bb)(hd:(a==sysModules)=aq)(rel:KV aO vs)(dd:h'.DictOf (yk P w) a vs) :
  dl P w H' h' a (.dK aO):=⟨z,hd,vs,rel,dd⟩
theorem zdj{H':B}{Q:Unit->am->Prop}(hu:A.units+1<cLine)(I:aU X aM σ H s)(g:DPut H a y v H')(ry:aZ y u)(rv:aZ v r)(h:∀s',aU X aM σ H' s'->Q PUnit.unit s') :
  Bf (Bg X.prog X.w) A (setItem (.ref a) u r) Q E s:=by
 rcases g with ⟨aO,k,e,ey,l,eH⟩|⟨aO,k,b,e,ey,eb,l,eH⟩
 ·subst ey eH;obtain⟨z,hd,vs,rel,dd⟩:=zd8 I.hok e;have hz:vs.length<=Bb:=by rw[<-rel.length];exact z
  have hl:(ye aO k v).length<=Bb:=by have:=xQ aO k v;lia
  refine wpAny_setItem_pairs (hsz:=hz) (WJ ry) dd λh' dd' hs=>h _ ?_;have he:∃q,h'.get? a=aa q:=let ⟨q,_,_,hq,_⟩:=dd';⟨q,hq⟩
  exact Z8 I (by rw[e];exact eO) hs he (Vv hl hd (rel.put k rv) dd')
 ·subst ey eH;cases (show u=bK b from ry);obtain⟨z,hd,xs,rel,dd⟩:=zag I.hok e;have hz:xs.length<=Bb:=by rw[<-bN rel];exact z
  have hl:(ye aO k v).length<=Bb:=by have:=xQ aO k v;lia
  refine wpAny_setItem_heap (hsz:=hz) (dY hu) (qe I.hok eb) dd λh' dd' hs=>h _ ?_;obtain⟨q,es,ep,hq,h2,h3,h4,_,h5⟩:=dd';refine Z8 I (by rw[e];exact eO) hs ⟨q,hq⟩ ⟨hl,hd,_,(rel.put k eb rv).keeps λc ys ec=>?_,q,es,ep,hq,h2,h3,h4,h5⟩;rw[zh (zD ec e ())];exact ec
end
section
variable {X:Cx}{aM:List (ac×Obj)}{σ:St}{H:B}{s:am}{a:ac}{aO:List (bv×V)}{k:bv}{u:af}{A:aB}{E:af->am->Prop}
theorem zg9{Q:af->am->Prop}(I:aU X aM σ H s)(e:H a=aa (.dK aO))(ry:aZ (kV k) u)(l:zS aO k=aa v)(hm:more=[]\/∃x,more=[x])
  (h:∀w' s',aU X aM σ (upd H a (.dK (yc aO k))) s'->aZ v w'->Q w' s'):Bf (Bg X.prog X.w) A (call (.builtin "dict.pop") (.ref a::u::more)) Q E s:=by
 obtain⟨z,hd,vs,rel,dd⟩:=zd8 I.hok e;obtain⟨w',hw,rw'⟩:=tj.some_of (v:=v) (o:=valueAt vs k) (by rw[<-l];exact rel.val k);have hp:(keyPart u).isSome=ah:=by
  cases k with
  |inl i=>obtain⟨t,q⟩:=(show ∃t,u=gM i t from ry);subst q;rfl
  |inr x=>obtain⟨t,q⟩:=(show ∃t,u=ic x t from ry);subst q;rfl
 have ha:argsOk "dict.pop" ⟨.ref a::u::more,[]⟩:=by
  rcases hm with q|⟨x,q⟩
  ·subst q;exact m4 _ _
  ·subst q;exact m5 _ _ _
 refine iU eK dd.typeIs iC ha (meets_dict_pop_there (yk X.prog X.w) a (WJ ry) more hm hp)
  ⟨vs,w',dd,by rw[<-rel.length];exact z,hw,λh' dd' hs=>h w' _ ?_ rw'⟩
 have he:∃q,h'.get? a=aa q:=let ⟨q,_,_,hq,_⟩:=dd';⟨q,hq⟩
 exact Z8 I (by rw[e];exact eO) hs he (Vv (bP (zaf aO k) z) hd (rel.drop k) dd')
theorem zhB{Q:af->am->Prop}(I:aU X aM σ H s)(e:H a=aa (.dK aO))(ry:aZ (kV k) u)(l:zS aO k=ao)(h:∀s',aU X aM σ H s'->Q r s') :
  Bf (Bg X.prog X.w) A (call (.builtin "dict.pop") [.ref a,u,r]) Q E s:=by
 obtain⟨z,hd,vs,rel,dd⟩:=zd8 I.hok e;have hn:valueAt vs k=ao:=tj.none_of (by rw[<-l];exact rel.val k);have hp:(keyPart u).isSome=ah:=by
  cases k with
  |inl i=>obtain⟨t,q⟩:=(show ∃t,u=gM i t from ry);subst q;rfl
  |inr x=>obtain⟨t,q⟩:=(show ∃t,u=ic x t from ry);subst q;rfl
 exact iU eK dd.typeIs iC (m5 _ _ _) (meets_dict_pop_default (yk X.prog X.w) a (WJ ry) hd hp r) ⟨vs,dd,hn,h _ (I.tok _)⟩
end
def zio(i:aD):Prop:=∀ov iv,subscripted i aq ov iv=operate [ov,iv] (getItem ov iv)
theorem zf5{E:af->am->Prop}{env:Env}{pos:Pos}{T id:String}{Q:af->am->Prop}
  (hl:typeLookup (.type T) "__getitem__"=pure (aa (.builtin id))) (hs:zio slice)
  (h:Bf (Bg prog w) A (eval value env) (λo s₁=>Bf (Bg prog w) A (eval slice env) (λi s₂=>s₂.TypeIs o T/\Bf (Bg prog w) A (getItem o i) Q E s₂) E s₁) E s) :
  Bf (Bg prog w) A (eval (.Subscript value slice pos) env) Q E s:=by
 refine Subscript_ (dR h (λo s₁ h₁=>dR h₁ (λi s₂ h₂=>?_) λ_ _ x=>x) λ_ _ x=>x);obtain⟨hT,h₂⟩:=h₂;unfold subscriptTail;refine ba ?_;rw[getitemInPython_of_ne hT.not_modules];refine ba (wpAny_specialOf hT hl ?_);have fin:Bf (Bg prog w) A (subscripted slice aq o i) (λr s₃=>Bf (Bg prog w) A (letTemporaryGo value o r >>= λ_=>pure r) Q E s₃) E s₂:=by
  rw[hs o i];exact wpAny_operating (dR h₂ (λr s₃ h₃=>ba (wpAny_letTemporaryGo (bf h₃))) λ_ _ x=>x)
 first
  |exact bf (ba fin)
  |exact ba (bf (ba fin))
  |exact ba fin
theorem zah{aM:List (ac×Obj)}{σ:St}{H:B}{s:am}{a:ac}{y:V}{o:Option V}(I:aU X aM σ H s)(g:sT H a y o):s.TypeIs (.ref a) "dict":=by
 rcases g with ⟨aO,k,e,_,_⟩|⟨aO,k,b,e,_,_,_⟩
 ·obtain⟨_,_,vs,_,dd⟩:=Vt I.hok e;exact dd.typeIs
 ·obtain⟨_,_,xs,_,dd⟩:=Vu I.hok e;exact dd.typeIs
def v0(td ty:TE):TE:=λσ H Q=>td σ H λx H1=>ty σ H1 λy H2=>∃a v,x=.ref a/\sT H2 a y (aa v)/\Q v H2
def jG(td ty tv:TE):TS:=λD σ H=>tv σ H λv H1=>td σ H1 λx H2=>ty σ H2 λy H3=>∃a H4,x=.ref a/\DPut H3 a y v H4/\D.nx σ H4
section
variable {X:Cx}{o i e value:aD}{pos pos' tpos:Pos}{td ty tv:TE}
theorem KW(hu:X.A.units+1<cLine)(ho:PE X o td)(hi:PE X i ty)(hs:zio i):PE X (.Subscript o i pos) (v0 td ty):=by
 intro aM s σ H Q I h;refine zf5 PySem.F.slot_dict_getitem.lookup hs (sr (ho aM s σ H _ I h) λu s1 ⟨x,H1,I1,rx,q1⟩=>sr (hi aM s1 σ H1 _ I1 q1) λiv s2 ⟨y,H2,I2,ry,a,v,ex,g,q2⟩=>?_);subst ex;obtain rfl:u=bK a:=rx;exact⟨zah I2 g,zdi hu I2 g ry λw' s3 I3 rw'=>⟨v,H2,I3,rw',q2⟩⟩
theorem jH(hu:X.A.units+1<cLine)(ho:PE X o td)(hi:PE X i ty)(hv:PE X value tv)(hs:swapsWith value (aa (.Subscript o i pos')) pos.line X.env=pure aq) :
  PS X (.Assign [.Subscript o i pos'] value pos) (jG td ty tv):=by
 intro aM s σ H D I h;refine nN (sr (hv aM s σ H _ I h) λr s1 ⟨v,H1,I1,rv,q1⟩=>sr (ho aM s1 σ H1 _ I1 q1) λu s2 ⟨x,H2,I2,rx,q2⟩=>sr (hi aM s2 σ H2 _ I2 q2) λiv s3 ⟨y,H3,I3,ry,a,H4,ex,g,q3⟩=>?_) hs;subst ex;obtain rfl:u=bK a:=rx;exact zdj hu I3 g ry rv λs4 I4=>⟨σ,H4,I4,q3⟩
end
theorem zd9{H:B}(h:ay)(hb:sysModules<h.objs.size):dl P w H (h.push { cls:=.type "dict",data:=.dict #[] }) h.objs.size (.dK []):=
 ⟨bW _,beq_eq_false_iff_ne.mpr (eP (b7 hb)),[],.nil,Heap.DictOf.new h⟩
theorem zai{H:B}(h:ay)(hb:sysModules<h.objs.size):dl P w H (h.push { cls:=.type "dict",data:=.dict #[] }) h.objs.size (.dT []):=
 ⟨bW _,beq_eq_false_iff_ne.mpr (eP (b7 hb)),[],.nil,_,#[],0,bG _ Y,⟨Y,Y,Y⟩,Y,Y,cI⟩
def Zg:TE:=λ_ H Q=>∀p,H p=ao->Q (.ref p) (upd H p (.dK []))
def qf:TE:=λ_ H Q=>∀p,H p=ao->Q (.ref p) (upd H p (.dT []))
section
variable {X:Cx}{pos:Pos}
theorem kF:PE X (.Dict [] [] pos) Zg:=λaM s σ H Q I h =>
 wpAny_Dict_empty ⟨.ref s.heap.objs.size,_,I.laid (a:=s.heap.objs.size) (o:=.dK []) (t':=s.toks) (λ_ _ q=>bd _ q) (bp _) (zd9 s.heap I.big),Y,h _ (I.hok.fresh (bp _))⟩
theorem kG:PE X (.Dict [] [] pos) qf:=λaM s σ H Q I h =>
 wpAny_Dict_empty ⟨.ref s.heap.objs.size,_,I.laid (a:=s.heap.objs.size) (o:=.dT []) (t':=s.toks) (λ_ _ q=>bd _ q) (bp _) (zai s.heap I.big),Y,h _ (I.hok.fresh (bp _))⟩
end
def zhC:List (TE×TE)->St->B->(List (V×V)->B->Prop)->Prop
 |[],_,H,Q=>Q [] H
 |(tk,tv)::r,σ,H,Q=>tk σ H λx H1=>tv σ H1 λy H2=>zhC r σ H2 λps H3=>Q ((x,y)::ps) H3
structure M1(X:Cx)(o:aD)(m:Str)(sC:Pos)(e:aD)(sK:Pos):Prop where
 base:attributeBase o m X.env (eval o X.env)=eval o X.env
 few:((backTo sK (Be [e] X.env)).all (λx=>!x.1)&&(backToKw sK (keywordEach [] X.env)).all (λx=>x.1.isSome)
  && decide (([e]:List aD).length+([]:List Keyword).length+(if ([]:List Keyword).isEmpty then 0 else 1)<30))=ah
 line:(sC.endLine==sK.line)=ah
 trees:backTo sK (Be [e] X.env)=[(aq,eval e X.env)]
structure M2(X:Cx)(o:aD)(m:Str)(sC:Pos)(e f:aD)(sK:Pos):Prop where
 base:attributeBase o m X.env (eval o X.env)=eval o X.env
 few:((backTo sK (Be [e,f] X.env)).all (λx=>!x.1)&&(backToKw sK (keywordEach [] X.env)).all (λx=>x.1.isSome)
  && decide (([e,f]:List aD).length+([]:List Keyword).length+(if ([]:List Keyword).isEmpty then 0 else 1)<30))=ah
 line:(sC.endLine==sK.line)=ah
 trees:backTo sK (Be [e,f] X.env)=[(aq,eval e X.env),(aq,eval f X.env)]
def IsD(H:B)(a:ac):Prop:=(∃aO,Rd H a (.dK aO))\/∃aO,Rd H a (.dT aO)
theorem Wg{aM:List (ac×Obj)}{σ:St}{H:B}{s:am}{a:ac}(I:aU X aM σ H s)(d:IsD H a) :
  s.TypeIs (.ref a) "dict"/\(∀b,bK a=.ref b->∃ob,s.heap.get? b=aa ob/\ob.dict=ao)/\(a==sysModules)=aq:=by
 rcases d with ⟨aO,e⟩|⟨aO,e⟩
 ·obtain⟨_,hd,vs,_,dd⟩:=Vt I.hok e;refine⟨dd.typeIs,λb q=>?_,hd⟩;cases q;obtain⟨ob,_,_,h1,h2,_⟩:=dd;exact⟨ob,h1,h2.2.1⟩
 ·obtain⟨_,hd,xs,_,dd⟩:=Vu I.hok e;refine⟨dd.typeIs,λb q=>?_,hd⟩;cases q;obtain⟨ob,_,_,h1,h2,_⟩:=dd;exact⟨ob,h1,h2.2.1⟩
section
variable {X:Cx}{aM:List (ac×Obj)}{σ:St}{H:B}{s:am}{a:ac}{y d:V}{u r:af}{o:Option V}{A:aB}{E:af->am->Prop}
theorem zhD{Q:af->am->Prop}(hu:A.units+1<cLine)(I:aU X aM σ H s)(g:sT H a y o)(ry:aZ y u)(rd:aZ d r)(h:∀w' s',aU X aM σ H s'->aZ (o.getD d) w'->Q w' s') :
  Bf (Bg X.prog X.w) A (call (.builtin "dict.get") [.ref a,u,r]) Q E s:=by
 rcases g with ⟨aO,k,e,ey,l⟩|⟨aO,k,b,e,ey,eb,l⟩
 ·subst ey;obtain⟨z,hd,vs,rel,dd⟩:=Vt I.hok e;refine iU iV dd.typeIs nO (m6 _ _ _) (meets_dict_get_default (yk X.prog X.w) a (WJ ry) hd r) ⟨_,dd.mapOf,h _ _ (I.tok _) ?_⟩;rw[l];exact(rel.val k).getD rd
 ·subst ey;cases (show u=bK b from ry);obtain⟨z,hd,xs,rel,dd⟩:=Vu I.hok e;refine iU iV dd.typeIs nO (m6 _ _ _) (meetsH_dict_get_default (tupleKind (yk X.prog X.w)) a b hd r) ⟨dY hu,k,xs,qe I.hok eb,dd,h _ _ (I.tok _) ?_⟩;rw[l];exact(rel.val k).getD rd
end
def vA(td ty tx:TE):TE:=λσ H Q=>td σ H λx H1=>∃a,x=.ref a/\IsD H1 a/\ty σ H1 λy H2=>tx σ H2 λz H3=>∃o,sT H3 a y o/\Q (o.getD z) H3
def KY(td ty:TE):TE:=λσ H Q=>td σ H λx H1=>∃a,x=.ref a/\IsD H1 a/\ty σ H1 λy H2=>∃aO k v,H2 a=aa (.dK aO)/\y=kV k/\zS aO k=aa v/\Q v (upd H2 a (.dK (yc aO k)))
def KZ(td ty tx:TE):TE:=λσ H Q=>td σ H λx H1=>∃a,x=.ref a/\IsD H1 a/\ty σ H1 λy H2=>tx σ H2 λz H3=>∃aO k,H3 a=aa (.dK aO)/\y=kV k /\
 (∀v,zS aO k=aa v->Q v (upd H3 a (.dK (yc aO k))))/\(zS aO k=ao->Q z H3)
section
variable {X:Cx}{o e f:aD}{sC sK:Pos}{td ty tx:TE}
theorem zaj(hu:X.A.units+1<cLine)(ho:PE X o td)(he:PE X e ty)(hf:PE X f tx)(m:M2 X o "get" sC e f sK):PE X (.Call (.Attribute o "get" sC) [e,f] [] sK) (vA td ty tx):=by
 intro aM s σ H Q I h;refine gE m.base m.few m.line dZ iV PySem.F.type_dict_get (sr (ho aM s σ H _ I h) λu s1 ⟨x,H1,I1,rx,a,ex,d,q1⟩=>?_);subst ex;obtain rfl:u=bK a:=rx;obtain⟨t1,t2,_⟩:=Wg I1 d;refine⟨t1,t2,?_⟩;rw[m.trees];refine dy Y (eo (c9 (sr (he aM s1 σ H1 _ I1 q1) λiv s2 ⟨y,H2,I2,ry,q2⟩ =>
  c9 (sr (hf aM s2 σ H2 _ I2 q2) λfv s3 ⟨z,H3,I3,rz,ov,g,q3⟩=>eW ?_))))
 exact zhD hu I3 g ry rz λw' s4 I4 rw'=>⟨_,H3,I4,rw',q3⟩
theorem Vw(ho:PE X o td)(he:PE X e ty)(m:M1 X o "pop" sC e sK):PE X (.Call (.Attribute o "pop" sC) [e] [] sK) (KY td ty):=by
 intro aM s σ H Q I h;refine gE m.base m.few m.line dZ eK iW (sr (ho aM s σ H _ I h) λu s1 ⟨x,H1,I1,rx,a,ex,d,q1⟩=>?_);subst ex;obtain rfl:u=bK a:=rx;obtain⟨t1,t2,_⟩:=Wg I1 d;refine⟨t1,t2,?_⟩;rw[m.trees];refine dy Y (eo (c9 (sr (he aM s1 σ H1 _ I1 q1) λiv s2 ⟨y,H2,I2,ry,aO,k,v,ea,ey,l,q2⟩=>eW ?_)));subst ey;exact zg9 I2 ea ry l (.inl Y) λw' s3 I3 rw'=>⟨v,_,I3,rw',q2⟩
theorem zak(ho:PE X o td)(he:PE X e ty)(hf:PE X f tx)(m:M2 X o "pop" sC e f sK):PE X (.Call (.Attribute o "pop" sC) [e,f] [] sK) (KZ td ty tx):=by
 intro aM s σ H Q I h;refine gE m.base m.few m.line dZ eK iW (sr (ho aM s σ H _ I h) λu s1 ⟨x,H1,I1,rx,a,ex,d,q1⟩=>?_);subst ex;obtain rfl:u=bK a:=rx;obtain⟨t1,t2,_⟩:=Wg I1 d;refine⟨t1,t2,?_⟩;rw[m.trees];refine dy Y (eo (c9 (sr (he aM s1 σ H1 _ I1 q1) λiv s2 ⟨y,H2,I2,ry,q2⟩ =>
  c9 (sr (hf aM s2 σ H2 _ I2 q2) λfv s3 ⟨z,H3,I3,rz,aO,k,ea,ey,q3,q4⟩=>eW ?_))))
 subst ey;cases l:zS aO k with
 |some v=>exact zg9 I3 ea ry l (.inr ⟨fv,Y⟩) λw' s4 I4 rw'=>⟨v,_,I4,rw',q3 v l⟩
 |none=>exact zhB I3 ea ry l λs4 I4=>⟨z,H3,I4,rz,q4 l⟩
end
end L2
namespace Att
open PySem PySem.W PySem.Calls PyProof.Rows
theorem W4 :∀(ns:List Int) (vs:List af),WellAll P h vs (ns.map WData.int)->IntsAre vs ns:=by
 intro ns;induction ns with
 |nil =>
  intro vs w;rw[n0] at w;cases w;exact .nil
 |cons n ns ih =>
  intro vs w;rw[bx] at w;cases w with
  |cons a b =>
   cases a;exact .cons _ _ (ih _ b)
theorem J2{l:OpenLaw}{n:Nat}(hn:l.most=aa n){P:Params}{args:List WData}{vals:List af}
  (hpre:l.row.toRowW.claim.pre args=ah) (hwl:WellAll P h vals args) :
  ∃a vs ns,vals=[bK a]/\args=[WData.list (ns.map WData.int)]/\h.get? a=aa { cls:=.type "list",data:=.seq vs.toArray }/\IntsAre vs ns/\ns.length<=n:=by
 have hsh:WShape.hasAll [] args [.list .int]=ah:=(pre_splitW hpre).1;have hc:l.pre.holds [] { args:=args }=ah:=(pre_splitW hpre).2;obtain⟨d,r,rfl,h1,h2⟩:=hasAllW_cons hsh;obtain rfl:=hasAllW_nil h2;obtain⟨xs,rfl,h3⟩:=hasW_list h1;obtain⟨ns,rfl⟩:=items_int h3;have hlen:ns.length<=n:=by
  unfold OpenLaw.pre at hc;have h4:(WTm.not (.lt (.lit (.int (n:Int))) (.len (.arg 0)))).holds [] { args:=[.list (ns.map .int)] }=ah:=by
   have h4:=(holds_andW hc).1;rw[hn] at h4;exact h4
  have h5:=condW_of h4 (w_not (w_lt w_lit (w_len_list (w_arg Y))));rw[bg] at h5;refine Nat.le_of_not_lt λq=>?_;have q':(n:Int)<((ns.length:Nat):Int):=by lia
  first
   |(rw[Bj q'] at h5;exact absurd h5 ())
   |(simp at h5;lia)
 cases hwl with
 |cons w1 w2 =>
  cases w2;cases w1 with
  |list ho hall=>exact⟨_,_,ns,Y,Y,ho,W4 ns _ hall,hlen⟩
theorem J3(l:OpenLaw)(args:List WData):l.row.toRowW.claim.post args (.bool ah) args=ah :=
 postW_of (r:=l.row.toRowW) (X:=(ah==ah))
  (show WShape.has [] (.bool ah) .bool=ah by first|rfl|decide|simp[WShape.has,WShape.arms,WShape.armsAll])
  (show (WTm.eq .res (.lit (.bool ah))).value [] { args:=args,res:=aa (.bool ah),after:=args }=aa (.bool (ah==ah)) from w_eq_bool (w_res Y) w_lit) rfl
theorem attach_call{l:OpenLaw}{n:Nat}{loose:List Str}{XP:(Str->Option af)->ay->Prop}{YP:aA->ay->Prop}{d:DefRec}
  (hn:l.most=aa n) (hdf:d.params.defaults=[])
  (call:∀(w:aA) (s₀ s₁:am) (mg mb:Str->Option af) (fa:ac) (o:Obj) (pm cd doc:af) (a:ac) (vs:List af) (ns:List Int),
   Ground q loose [] XP w s₀ mg mb s₁.heap->YP w s₁.heap ->
   s₁.heap.get? fa=aa o->o.data=.func (docDef d.name d.params d.body d.scope pm cd doc)->s₁.heap.CodeRec cd d.name->mg d.name=aa (.ref fa) ->
   s₁.heap.get? a=aa { cls:=.type "list",data:=.seq vs.toArray }->IntsAre vs ns->ns.length<=n->s₁.gens=#[] ->
   codeAny (Bg l.prog w) callerA (.call (.ref fa) ⟨[.ref a],[]⟩) (λr s'=>r=.ok (.ret (.bool ah))/\OldK s₁.heap s'.heap/\s'.os=s₁.os/\AllBare s'.gens) s₁) :
  WalkO q loose XP YP l.row.toRowW d [] (λf vs=>mK f vs):=by
 intro w s₀ s₁ mg mb G Bl fa o pm cd doc dV kV ho hd hcd hD hmg hg args vals as hpre hlay hrd hwl hlo;obtain rfl:dV=.none:=Dflts.none hD hdf;obtain rfl:kV=.none:=Dflts.noKw hD;obtain⟨a,vs,ns,rfl,rfl,hobj,hints,hlen⟩:=J2 hn hpre hwl;refine enter_call (gj (call w s₀ s₁ mg mb fa o pm cd doc a vs ns G Bl ho (fd_plain hd) hcd hmg hobj hints hlen hg) λr s' hq=>?_);obtain⟨rfl,h2,h3,h4⟩:=hq;exact⟨.inl ⟨.bool ah,.bool ah,[],Y,λ_=>rfl,.bool ah,J3 l _,λ_=>⟨fJ,λ_ hm=>(nomatch hm)⟩⟩,h2,h3,h4⟩
section
variable {prog:ax}{w:aA}{A:aB}{E:af->am->Prop}{s:am}{K:Frag}
def ziQ(h:ay)(Bp d:ac):List (ac×Obj):=(dL h.objs.size).filterMap λa=>if a=Bp\/a=d then ao else (h.get? a).map λo=>(a,o)
end
end Att
namespace L2
open PySem PySem.Spec PyProof.Rows
theorem J5:∀ {vs:List af} {ns:List Int},IntsAre vs ns->aX (ns.map V.int) vs
 |_,_,.nil=>.nil
 |_,_,.cons n t h=>.cons ⟨t,Y⟩ (J5 h)
def zbI(H:B):Prop:=∀b,H b=ao\/∃o xs,H b=aa (.frz o (.lst xs))
theorem zal{P:ax}{w:aA}{K:bw}{mg mb:Str->Option af}{CX:CXT}{k:Nat}{fa a:ac}{fd:Bc}{x:Str}{sp:Sp}{s₁:am}{vs:List af}{ns:List Int}
  (KX:K.In s₁.heap) (hns:s₁.heap.Ns Bd mg) (hb:s₁.heap.Ns builtinsNs mb) (hbb:∀x:Str,x≠"__name__"->mb x=Bh x) (hlim:s₁.heap.NoLimit) (hg:s₁.gens=#[])
  (ha:s₁.heap.get? a=aa { cls:=.type "list",data:=.seq vs.toArray }) (hi:IntsAre vs ns) (hl:ns.length<=Bb) (hr:sH k callerA)
  (F:∀base:ay,K.In base->base.Ns Bd mg->sD P w K mg base CX k fa fd [x] sp) (hbind:∀(s:am) (u:af),BindsTo s fd ⟨[u],[]⟩ [(x,u)])
  (hsp:∀H:B,zbI H->aY K H a (ns.map V.int)->sp [.ref a] H (λv _=>v=.bl ah) λ_ _ _=>False)
  (hCX:∀H e s',CX [] H s₁ (λ_ _ _=>False) e s'->False) :
  codeAny (Bg P w) callerA (.call (.ref fa) ⟨[.ref a],[]⟩) (λr s'=>r=.ok (.ret (.bool ah))/\OldK s₁.heap s'.heap/\s'.os=s₁.os/\AllBare s'.gens) s₁:=by
 have rv:=J5 hi;have lenV:=hi.length
 -- from an abstract heap in which nothing but the script may be tracked
 have core:∀H:B,zbI H->aY K H a (ns.map V.int)->tM P w H s₁.heap->(∀b,H b≠ao->b=a)->(H a≠ao->K.lookup a=ao) ->
   codeAny (Bg P w) callerA (.call (.ref fa) ⟨[.ref a],[]⟩) (λr s'=>r=.ok (.ret (.bool ah))/\OldK s₁.heap s'.heap/\s'.os=s₁.os/\AllBare s'.gens) s₁:=by
  intro H hO hS hok hA hK;have base_of:∀ {b:ac} {o:Obj},s₁.heap.get? b=aa o->H b=ao->(KB s₁.heap H).get? b=aa o:=λe n=>zdU e n;have noA:∀ {b:ac} {o:Obj} {es:Array DictEntry} {ep:Nat},s₁.heap.get? b=aa o->o.data=.dict es ep->H b=ao:=λ{b o es ep} e d=>by
   cases q:H b with
   |none=>rfl
   |some u =>
    have e':b=a:=hA b (by rw[q];simp);subst e';rw[ha] at e;cases e;have d':Data.seq vs.toArray _=Data.dict es ep:=d;cases d'
  have nsK:∀ {b:ac} {m:Str->Option af},s₁.heap.Ns b m->(KB s₁.heap H).Ns b m:=λ{b m} ⟨o,es,ep,e,d,r⟩=>⟨o,es,ep,base_of e (noA e d),d,r⟩;have hKb:K.In (KB s₁.heap H):=λb o e=>base_of (KX b o e) (by
   cases q:H b with
   |none=>rfl
   |some u =>
    have e':b=a:=hA b (by rw[q];simp);subst e';rw[hK (by rw[q];simp)] at e;cases e)
  have hM:Mod K mg (KB s₁.heap H):=⟨hKb,nsK hns,⟨mb,nsK hb,hbb⟩,let ⟨mc,h1,h2⟩:=hlim;⟨mc,nsK h1,h2⟩⟩;have e0:Env0 P w K mg (KB s₁.heap H) callerA [] s₁ H:=⟨Y,hM,λb o e=>zfT e,nW (zc4 _ _),trivial,λb hb=>absurd (show b∈([]:List ac) from hb) (by simp),hok,.of_eq hg⟩;refine gj ((F _ hKb (nsK hns)).run callerA [] s₁ H ⟨[.ref a],[]⟩ [.ref a] [.ref a] _ _ hr e0 (hbind s₁ (.ref a)) (.cons Y .nil) (hsp H hO hS)) λr s' h=>?_;cases r with
  |error e=>exact(hCX H e s' h).elim
  |ok fl =>
   cases fl with
   |next=>exact dn h
   |brk=>exact dn h
   |cont=>exact dn h
   |ret u =>
    obtain⟨v,H',os,bare,un,hok',r',q⟩:=h;have q':v=.bl ah:=q;subst q';obtain rfl:u=iG ah:=r';refine⟨Y,OldK.of_keep λb o e=>?_,os,bare⟩;cases q:H b with
    |none=>exact un.keep b o e q (by intro z;exact absurd (show b∈([]:List ac) from z) (by simp)) (by simp)
    |some u =>
     rcases hO b with z|⟨ob,xs,z⟩
     ·rw[q] at z;cases z
     ·have z2:=un.frzs b ob _ z;obtain⟨e1,_⟩:=hok b _ z;obtain⟨e2,_⟩:=hok' b _ z2;rw[e] at e1;cases e1;exact e2
 cases hk:K.lookup a with
 |some o =>
  -- the script is one of the module's own objects
  have e:=KX a o hk;rw[ha] at e;cases e;refine core (λ_=>ao) (λ_=>.inl Y) (.inr ⟨_,vs.toArray,_,hk,Y,Y,Y,by rw[bJ,lenV];exact hl,by simpa using rv⟩) (λb u z=>by have z':(ao:Option HO)=aa u:=z;cases z') (λb z=>absurd rfl z) λz=>absurd rfl z
 |none =>
  refine core (λb=>if b=a then aa (.frz { cls:=.type "list",data:=.seq vs.toArray } (.lst (ns.map V.int))) else ao) (λb=>?_) (.inl (.inr ⟨{ cls:=.type "list",data:=.seq vs.toArray },au Y⟩)) (λb u z=>?_) (λb z=>?_) λ_=>hk
  ·by_cases hb:b=a
   ·exact .inr ⟨_,_,au hb⟩
   ·exact .inl (ap hb)
  ·by_cases hb:b=a
   ·have z':=(au hb).symm.trans z;cases z';subst hb;exact⟨ha,by rw[bg];exact hl,vs,_,rv,ha⟩
   ·have z':=(ap hb).symm.trans z;cases z'
  ·by_cases hb:b=a
   ·exact hb
   ·exact absurd (ap hb) z
abbrev KOf{K:bw}{h:ay}(_:K.In h):bw:=K
theorem zcp{l:pA}{n k:Nat}{q:ax}{loose:List Str}{XP:(Str->Option af)->ay->Prop}{YP:aA->ay->Prop}{d:DefRec}{K:Params->bw}{CX:aA->CXT}{sp:aA->Sp}{x:Str}
  (hn:l.most=aa n) (hn2:n<=Bb) (hdf:d.params.defaults=[]) (hr:sH k callerA)
  (hY:∀(w:aA) (h:ay),YP w h->(K w.params).In h)
  (F:∀(w:aA) (mg:Str->Option af) (fa:ac) (h:ay),(K w.params).In h->h.Ns Bd mg->mg d.name=aa (.ref fa) ->
   ∃fd:Bc,(∀(s:am) (u:af),BindsTo s fd ⟨[u],[]⟩ [(x,u)]) /\
    ∀base:ay,(K w.params).In base->base.Ns Bd mg->sD l.prog w (K w.params) mg base (CX w) k fa fd [x] (sp w))
  (hsp:∀(w:aA) (H:B) (a:ac) (ns:List Int),ns.length<=n->zbI H->aY (K w.params) H a (ns.map V.int)->sp w [.ref a] H (λv _=>v=.bl ah) λ_ _ _=>False)
  (hCX:∀(w:aA) (H:B) (s:am) (e:af) (s':am),CX w [] H s (λ_ _ _=>False) e s'->False) :
  sg q loose XP YP l.row.toRowW d [] (λf vs=>mK f vs):=by
 refine Att.attach_call hn hdf λw s₀ s₁ mg mb fa o pm cd doc a vs ns G Bl ho hd hcd hmg hobj hints hlen hg=>?_;have KX:=hY w _ Bl;obtain⟨fd,hb,hF⟩:=F w mg fa _ KX G.T.g hmg;exact zal KX G.T.g G.T.b G.T.builtins G.T.nolimit hg hobj hints (bP hlen hn2) hr hF hb (λH hO hS=>hsp w H a ns hlen hO hS) λH e s'=>hCX w H s₁ e s'
theorem ziq{l:pA}{n k:Nat}{q:ax}{loose:List Str}{XP:(Str->Option af)->ay->Prop}{YP:aA->ay->Prop}{d:DefRec}{K:Params->bw}{CX:CXT}{sp:bw->Sp}{x:Str}
  (hn:l.most=aa n) (hn2:n<=Bb) (hdf:d.params.defaults=[]) (hr:sH k callerA)
  (hY:∀(w:aA) (h:ay),YP w h->(K w.params).In h)
  (F:∀(w:aA) (mg:Str->Option af) (fa:ac) (h:ay),(K w.params).In h->h.Ns Bd mg->mg d.name=aa (.ref fa) ->
   ∃fd:Bc,(∀(s:am) (u:af),BindsTo s fd ⟨[u],[]⟩ [(x,u)]) /\
    ∀base:ay,(K w.params).In base->base.Ns Bd mg->sD l.prog w (K w.params) mg base CX k fa fd [x] (sp (K w.params)))
  (hsp:∀(K:bw) (H:B) (a:ac) (ns:List Int),ns.length<=n->zbI H->aY K H a (ns.map V.int)->sp K [.ref a] H (λv _=>v=.bl ah) λ_ _ _=>False)
  (hCX:∀(H:B) (s:am) (e:af) (s':am),CX [] H s (λ_ _ _=>False) e s'->False) :
  sg q loose XP YP l.row.toRowW d [] (λf vs=>mK f vs) :=
 zcp (K:=K) (CX:=λ_=>CX) (sp:=λw=>sp (K w.params)) hn hn2 hdf hr hY F (λw H a ns h1 h2 h3=>hsp (K w.params) H a ns h1 h2 h3) λ_ H s e s'=>hCX H s e s'
def zP(s:aC)(j:Nat):aC:=match s with
 |.ClassDef _ _ _ body _ _ _ _ _ _ _=>body.getD j (.Pass ⟨0,0,0,0⟩)
 |_=>.Pass ⟨0,0,0,0⟩
def yR(s:aC):Arguments:=match s with
 |.FunctionDef _ a _ _ _ _ _ _ _ _=>a
 |_=>{ posonlyargs:=[],args:=[],vararg:=ao,kwonlyargs:=[],kw_defaults:=[],kwarg:=ao,defaults:=[] }
def ym(s:aC):List aC:=match s with
 |.FunctionDef _ _ b _ _ _ _ _ _ _=>b
 |_=>[]
def zg(s:aC):aE:=match s with
 |.FunctionDef _ _ _ _ _ _ sc _ _ _=>sc
 |_=>{ kind:=.function,names:=[],isGenerator:=aq,isCoroutine:=aq }
abbrev E0:XK:=λ_ _ _=>False
structure Fun(K:bw)(x qual:Str)(st:aC)(f:ac)(fd:Bc):Prop where
 ex:∃(oc:af) (od:Option ac) (kV doc pm:af) (an:Option ac) (cdv ct:af) (osl:Array (Option af)),
  fd=iT x qual (yR st) (ym st) (zg st) .none kV doc pm an cdv ct/\K.lookup f=aa ⟨oc,od,.func fd,osl⟩/\ig K cdv qual=ah
 kp:eD K (.ref f)=ah
section
variable {P:ax}{w:aA}{K:bw}{mg:Str->Option af}{base:ay}
theorem Fun.binds{st:aC}{f:ac}{fd:Bc}{ps:List Str}(F:Fun K x qual st f fd)
  (h:∀(kV doc pm:af) (an:Option ac) (cdv ct:af) (us:List af),us.length=ps.length->bindArgs (iT x qual (yR st) (ym st) (zg st) .none kV doc pm an cdv ct) ⟨us,[]⟩=pure (ps.zip us)):sL K fd ps []:=by
 obtain⟨oc,od,kV,doc,pm,an,cdv,ct,osl,rfl,lk,hcd⟩:=F.ex;exact .all (h kV doc pm an cdv ct)
theorem Vx{st:aC}{f:ac}{oc:af}{od an:Option ac}{osl:Array (Option af)}{kV doc pm cdv ct:af}(l:K.lookup f=aa ⟨oc,od,.func (iT x qual (yR st) (ym st) (zg st) .none kV doc pm an cdv ct),osl⟩)
  (c:ig K cdv qual=ah) (k:eD K (.ref f)=ah):Fun K x qual st f (iT x qual (yR st) (ym st) (zg st) .none kV doc pm an cdv ct):=⟨⟨oc,od,kV,doc,pm,an,cdv,ct,osl,Y,l,c⟩,k⟩
end
theorem xv(hr:sH k A):A.units+1<cLine:=bZ (oP (by lia:1<=64) _) hr.units
section
variable {X:Cx}
theorem pv(i:Nat){pos:Pos}(hN:X.N[i]?=aa x:=by rfl)(hv:Vis X.env.scope x:=by first|exact mj rfl|exact pB (mj Y)|exact pB (pB Y))(hd:(x==("__debug__":Str))=aq:=by lia)
  (hcd:(x==("__classdict__":Str))=aq:=by lia):PE X (.Name x pos) (U i):=zhs hN hv hd hcd
end
theorem xl{c A Bo:Prop} [Decidable c](h1:c->A)(h2:¬ c->Bo):if c then A else Bo:=by
 by_cases h:c
 ·rw[au h];exact h1 h
 ·rw[ap h];exact h2 h
def aP(H H':B):Prop:=∀b o,H b=aa o->H' b=aa o
theorem aP.refl(H:B):aP H H:=λ_ _ h=>h
theorem aP.trans{H H1 H2:B}(a:aP H H1)(b:aP H1 H2):aP H H2:=λc o h=>b c o (a c o h)
section
variable {κ:Type} [DecidableEq κ]
theorem zam{aO:List (κ×V)}{k:κ}(h:zS aO k=ao):¬ k∈aO.map (·.1):=by
 intro m;obtain⟨p,hp,e⟩:=bD.mp m;have q:(aO.any λkv=>decide (kv.1=k))=ah:=gS.mpr ⟨p,hp,Bj e⟩;rw[va,h] at q;exact absurd q (by simp)
theorem zcq{aO:List (κ×V)}{k:κ}{v:V}(h:zS aO k=aa v):k∈aO.map (·.1):=by
 have q:(aO.any λkv=>decide (kv.1=k))=ah:=by
  rw[va,h]
  all_goals rfl
 obtain⟨p,hp,e⟩:=gS.mp q;exact bD.mpr ⟨p,hp,of_decide_eq_true e⟩
theorem zcr:∀ {l:List κ} {k:κ},l.Nodup->¬ k∈l->(l++[k]).Nodup
 |[],k,_,_=>by simp
 |a::r,k,h,hk=>by
  obtain⟨h1,h2⟩:=ca.mp h;show (a::(r++[k])).Nodup;refine ca.mpr ⟨λm=>?_,zcr h2 λm=>hk (bF.mpr (pB m))⟩;rcases bC.mp m with q|q
  ·exact h1 q
  ·exact hk (bF.mpr (mj (bt.mp q).symm))
theorem zf6{aO:List (κ×V)}{k:κ}(v:V)(hn:(aO.map (·.1)).Nodup)(h:zS aO k=ao):((ye aO k v).map (·.1)).Nodup:=by
 rw[vb v h,bS];exact zcr hn (zam h)
theorem J6{p:κ×V}{r:List (κ×V)}(e:p.1=k):yc (p::r) k=yc r k:=by
 unfold yc;rw[dG,ap (by simp[e])]
theorem Wh{p:κ×V}{r:List (κ×V)}(e:¬ p.1=k):yc (p::r) k=p::yc r k:=by
 unfold yc;rw[dG,au (by simp[e])]
theorem zea:∀ {aO:List (κ×V)} {k:κ},¬ k∈aO.map (·.1)->yc aO k=aO
 |[],_,_=>rfl
 |p::r,k,h=>by
  have h':¬ k∈r.map (·.1):=λm=>by
   obtain⟨q,hq,e⟩:=bD.mp m;exact h (bD.mpr ⟨q,bF.mpr (pB hq),e⟩)
  rw[Wh λe=>h (bD.mpr ⟨p,bF.mpr (mj Y),e⟩),zea h']
theorem zdk{aO:List (κ×V)}{p:κ×V}(h:p∈yc aO k):p∈aO:=(cC.mp h).1
end
end L2
set_option Elab.async false
set_option linter.all false
set_option maxRecDepth 100000
set_option maxHeartbeats 4000000
namespace L2
open PySem PySem.Spec PyProof.Rows
def Cx.comp(X:Cx)(scope:aE)(cl:List (Str×ac))(C:ac)(N:List Str)(fp:List ac)(s:am)(H:B):Cx :=
 { X with env:=compEnvC scope cl C X.env,N:=N,s₀:=s,H₀:=H,outer:=X.stack,ex:=fp,fn:=λ_=>aq,pn:=[],xe:=λ_ _=>False }
structure Z9(X:Cx)(scope:aE)(cl:List (Str×ac))(ix:List Nat):Prop where
 clos:closureFor scope X.env=pure cl
 nocell:∀y∈scope.names,y.2≠.cell
 kind:scope.kind=.function
 names:∀y∈scope.names,y.2=.local->scope.names.lookup y.1=aa .local
 sub:∀y c,cl.lookup y=aa c->X.env.cells.lookup y=aa c
 has:∀y,((relabel scope X.env).names.lookup y=aa .cell\/(relabel scope X.env).names.lookup y=aa .free)->∃c,cl.lookup y=aa c
 cap:∀i∈ix,∃y,X.N[i]?=aa y/\(X.env.kindOf y=aa .cell\/X.env.kindOf y=aa .free)/\((relabel scope X.env).names.lookup y=aa .cell\/(relabel scope X.env).names.lookup y=aa .free)
def Zh(scope:aE)(env:Env):List (Str×ac):=scope.names.foldl (λcs y=>if y.2==.free then (y.1,(env.cells.lookup y.1).getD 0)::cs else cs) []
def zcs(osc:aE)(N:List Str)(sc:aE)(ix:List Nat):Bool :=
 sc.kind==.function&&sc.names.all (λy=>y.2 != .cell&&(y.2 != .local || sc.names.lookup y.1==aa .local)&&(y.2 != .free || osc.names.lookup y.1==aa .cell || osc.names.lookup y.1==aa .free)) &&
  ix.all λi=>match N[i]? with
   |some y=>sc.names.lookup y==aa .free
   |none=>aq
theorem vc{l:List (Str×NameKind)}{y:Str}(h:l.lookup y=aa k):(y,k)∈l:=eY h
theorem qg{env:Env}:∀ {names:List (Str×NameKind)} {x:Str} {k:NameKind},(names.map λ(n,k)=>if (k==dz&&env.scope.kind==.function&&env.kindOf n==aa .cell) then (n,m7) else (n,k)).lookup x=aa k ->
  ∃k',names.lookup x=aa k'/\(k'=.free\/k'=k)
 |[],_,_,h=>by simp at h
 |(n,k')::r,x,k,h=>by
  have ih:=@qg env r x k;rw[bx] at h;cases hx:x==n with
  |true =>
   by_cases hc:(k'==dz&&env.scope.kind==.function&&env.kindOf n==aa .cell)=ah
   ·have e:k'=.free:=by
     have:=(b6 _ _ ▸ (b6 _ _ ▸ hc).1).1;simpa using this
    exact⟨k',by simp[cq,hx],.inl e⟩
   ·simp only[ap hc,cq,hx] at h;exact⟨k',by simp[cq,hx],.inr (bL h)⟩
  |false =>
   have h':(r.map λ(n,k)=>if (k==dz&&env.scope.kind==.function&&env.kindOf n==aa .cell) then (n,m7) else (n,k)).lookup x=aa k:=by
    by_cases hc:(k'==dz&&env.scope.kind==.function&&env.kindOf n==aa .cell)=ah
    ·simp only[au hc,cq,hx] at h;exact h
    ·simp only[ap hc,cq,hx] at h;exact h
   obtain⟨q,e,r'⟩:=ih h';exact⟨q,by simp only[cq,hx];exact e,r'⟩
theorem Xq{env:Env}:∀ {names:List (Str×NameKind)} {x:Str},names.lookup x=aa .free ->
  ((names.map λ(n,k)=>if (k==dz&&env.scope.kind==.function&&env.kindOf n==aa .cell) then (n,m7) else (n,k)).lookup x=aa .cell \/
   (names.map λ(n,k)=>if (k==dz&&env.scope.kind==.function&&env.kindOf n==aa .cell) then (n,m7) else (n,k)).lookup x=aa .free)
 |[],_,h=>by simp at h
 |(n,k')::r,x,h=>by
  have ih:=@Xq env r x;rw[bx];cases hx:x==n with
  |true =>
   simp only[cq,hx] at h;cases h;by_cases hc:(dz==dz&&env.scope.kind==.function&&env.kindOf n==aa .cell)=ah
   ·left;simp only[au hc,cq,hx]
   ·right;simp only[ap hc,cq,hx]
  |false =>
   simp only[cq,hx] at h;by_cases hc:(k'==dz&&env.scope.kind==.function&&env.kindOf n==aa .cell)=ah
   ·simp only[au hc,cq,hx];exact ih h
   ·simp only[ap hc,cq,hx];exact ih h
theorem J7{env:Env}:∀(l:List (Str×NameKind)) (cs:List (Str×ac)),(∀y∈l,y.2=.free->∃c,env.cells.lookup y.1=aa c) ->
  (∀y c,cs.lookup y=aa c->env.cells.lookup y=aa c)->∀y c,(l.foldl (λcs y=>if y.2==.free then (y.1,(env.cells.lookup y.1).getD 0)::cs else cs) cs).lookup y=aa c->env.cells.lookup y=aa c
 |[],_,_,h,y,c,e=>h y c e
 |z::r,cs,hl,h,y,c,e=>by
  rw[eZ] at e;refine J7 r _ (λy hy=>hl y (bh _ hy)) (λy' c' e'=>?_) y c e;by_cases hz:z.2=.free
  ·obtain⟨c0,h0⟩:=hl z bo hz;have hb:(z.2==dz)=ah:=by simpa using hz
   rw[au hb,h0,cq] at e';cases hq:y'==z.1 with
   |true =>
    rw[hq] at e';have e2:y'=z.1:=by simpa using hq
    cases e';rw[e2];exact h0
   |false=>rw[hq] at e';exact h _ _ e'
  ·have hb:(z.2==dz)=aq:=by simpa using hz
   rw[hb] at e';exact h _ _ e'
theorem zan{env:Env}:∀(l:List (Str×NameKind)) (cs:List (Str×ac)) (y:Str),((∃c,cs.lookup y=aa c)\/(y,dz)∈l) ->
  ∃c,(l.foldl (λcs y=>if y.2==.free then (y.1,(env.cells.lookup y.1).getD 0)::cs else cs) cs).lookup y=aa c
 |[],_,_,h=>h.elim id λz=>nomatch z
 |z::r,cs,y,h=>by
  rw[eZ];refine zan r _ y ?_;rcases h with ⟨c,h⟩|h
  ·left
   by_cases hz:(z.2==dz)=ah
   ·rw[au hz,cq];cases y==z.1 with
    |true=>exact⟨_,Y⟩
    |false=>exact⟨c,h⟩
   ·rw[ap hz];exact⟨c,h⟩
  ·rcases bF.mp h with h|h
   ·left
    subst h;rw[au (by rfl),cq];simp
   ·exact .inr h
theorem K0{env:Env}:∀(l:List (Str×NameKind)) (cs:List (Str×ac)),(∀y∈l,y.2=.free->∃c,env.cells.lookup y.1=aa c) ->
  forIn (m:=Sem) l cs (λx r=>match x with|(name,kind)=>if (kind==dz)=ah then do let c <-cellOf env name;pure (gq ((name,c)::r)) else pure (gq r)) =
   pure (l.foldl (λcs y=>if y.2==.free then (y.1,(env.cells.lookup y.1).getD 0)::cs else cs) cs)
 |[],_,_=>rfl
 |(n,k)::r,cs,h=>by
  rw[n9,eZ];by_cases hz:(k==dz)=ah
  ·obtain⟨c,hc⟩:=h (n,k) bo (by simpa using hz);have e:cellOf env n=pure c:=by unfold cellOf;rw[hc]
   simp only[hz,if_true,e,pure_bind];rw[K0 r _ λy hy=>h y (bh _ hy)];simp only[hc,Option.getD_some]
  ·simp only[hz,if_false,pure_bind];exact K0 r _ λy hy=>h y (bh _ hy)
theorem Xr(ok:X.Ok)(h:zcs osc N scope ix=ah)(hs:X.env.scope=osc)(hN:X.N=N):Z9 X scope (Zh scope X.env) ix:=by
 subst hs hN;unfold zcs at h;rw[b6,b6,i9,i9] at h;obtain⟨⟨h1,h2⟩,h3⟩:=h;have p:∀y∈scope.names,y.2≠.cell/\(y.2=.local->scope.names.lookup y.1=aa .local)/\(y.2=.free->X.env.kindOf y.1=aa .cell\/X.env.kindOf y.1=aa .free):=λy hy=>by
  have q:=h2 y hy;rw[b6,b6] at q;obtain⟨⟨q1,q2⟩,q3⟩:=q;refine⟨by simpa using q1,λe=>?_,λe=>?_⟩
  ·rw[e] at q2;simpa using q2
  ·rw[e] at q3;have q3':X.env.scope.names.lookup y.1=aa .cell\/X.env.scope.names.lookup y.1=aa .free:=by simpa using q3
   exact q3'
 have f:∀y∈scope.names,y.2=.free->∃c,X.env.cells.lookup y.1=aa c:=λy hy e=>ok.has y.1 ((p y hy).2.2 e);refine⟨?_,λy hy=>(p y hy).1,by simpa using h1,λy hy=>(p y hy).2.1,λy c e=>J7 scope.names [] f (λ_ _ z=>by simp at z) y c e,λy hy=>?_,λi hi=>?_⟩
 ·have e:=K0 scope.names [] f;unfold closureFor Zh;refine Eq.trans (congrArg (λm=>m >>= λs=>(pure s:Sem (List (Str×ac)))) e) ?_;rw[pure_bind]
 ·refine zan scope.names [] y (.inr ?_);rcases hy with hy|hy
  ·obtain⟨k',e,z|z⟩:=qg hy
   ·subst z;exact vc e
   ·subst z;exact absurd Y (p _ (vc e)).1
  ·obtain⟨k',e,z|z⟩:=qg hy
   ·subst z;exact vc e
   ·subst z;exact vc e
 ·have q:=h3 i hi;cases hy:X.N[i]? with
  |none=>rw[hy] at q;cases q
  |some y =>
   rw[hy] at q;have q':scope.names.lookup y=aa .free:=by simpa using q
   exact⟨y,Y,(p _ (vc q')).2.2 Y,Xq q'⟩
def zbJ(ix:List Nat)(σ:St):St:=ix.map λi=>(σ[i]?).getD ao
def kH(ix:List Nat)(N:List Str):List Str:=ix.map λi=>(N[i]?).getD ""
section
variable {X:Cx}{aM:List (ac×Obj)}{σ:St}{H:B}{s:am}{scope:aE}{cl:List (Str×ac)}{ix:List Nat}{fp:List ac}{C:ac}{xs:List Str}
theorem aU.compOk(I:aU X aM σ H s)(S:Z9 X scope cl ix)(hC:C=s.heap.objs.size)(hf:∀b∈fp,Zd X aM H b)(hl:∀b∈fp,b<s.heap.objs.size)(N':List Str) :
  (X.comp scope cl C N' fp s H).Ok where
 mod:=I.ok.mod
 kind:=S.kind
 glob:=I.ok.glob
 blt:=I.ok.blt
 above:=nW hC.symm
 inj:=λx y c h1 h2=>I.ok.inj x y c (S.sub x c h1) (S.sub y c h2)
 has:=λx hx=>S.has x hx
 cab:=λx c h1 _=>nomatch h1
 hd:=I.ok.hd
 frames:=I.ok.frames
 stk:=.inl rfl
 exf:=λb hb=>⟨λz=>absurd (hl b hb) (by rw[z];show ¬ C<_;rw[hC];exact fO _),λx c h=>(hf b hb).2.2.2.2.1 x c (S.sub x c h)⟩
 bs:=I.bs
 bsz:=bP I.ok.bsz I.sz
 noex:=λb o e hb=>by
  rcases(hf b hb).2.2.2.1 with z|z
  ·exact I.ok.noex b o e z
  ·exact absurd (cg (bQ e) (bP I.ok.bsz z)) (fO _)
 exfs:=λb hb z=>by
  rcases bF.mp (I.stkSub b z) with e|e
  ·exact(hf b hb).2.1 e
  ·exact(hf b hb).2.2.1 e
 funs:=I.stack
 frf:=I.stkFree
theorem aU.comp{h₁:ay}{m₁:Str->Option af}{t':Nat}(I:aU X aM σ H s)(S:Z9 X scope cl ix)(hC:C=s.heap.objs.size)(hf:∀b∈fp,Zd X aM H b)(hl:∀b∈fp,b<s.heap.objs.size)
  (hn:h₁.Ns C m₁) (hk:∀b o,s.heap.get? b=aa o->h₁.get? b=aa o) :
  aU (X.comp scope cl C (xs++kH ix X.N) fp s H) [] (cf xs.length ao++zbJ ix σ) H { s with heap:=h₁,toks:=t' } where
 ok:=I.compOk S hC hf hl _
 os:=rfl
 bare:=I.bare
 base:=Un.kept hk
 loc:=by
  refine⟨m₁,hn,λi y v e1 e2 e3=>?_⟩;by_cases hi:i<xs.length
  ·rw[dq (by simpa using hi),mY,au hi] at e2;cases e2
  ·have e1':(xs++kH ix X.N)[i]?=aa y:=e1;rw[fh ()] at e1';rw[fh (by rw[gm];lia),gm] at e2;generalize i-xs.length=j at e1' e2;unfold kH at e1';unfold zbJ at e2;rw[bB] at e1' e2;cases hj:ix[j]? with
   |none=>rw[hj] at e1';cases e1'
   |some k =>
    rw[hj] at e1' e2;obtain⟨y',c1,c2,c3⟩:=S.cap k (bV hj);have ey:y'=y:=by
     have q:(X.N[k]?).getD ""=y:=bL e1';rw[c1] at q;exact q
    subst ey;have ev:σ[k]?=aa (aa v):=by
     have q:(σ[k]?).getD ao=aa v:=bL e2;cases hs:σ[k]? with
     |none=>rw[hs] at q;cases q
     |some o=>rw[hs] at q;exact congrArg aa q
    obtain⟨m,hm,hv⟩:=I.loc;obtain⟨u,r,l⟩:=hv k y' v c1 ev (c2.elim (λz=>.inr (.inl z)) λz=>.inr (.inr z));refine⟨u,r,.inr ⟨c3,?_⟩⟩;rcases l with ⟨l1,_⟩|⟨_,c,lc,⟨o,ho,hd⟩⟩
    ·rcases c2 with z|z <;> (rw[l1] at z;cases z)
    ·obtain⟨c',hc'⟩:=S.has y' c3;have e:=S.sub _ _ hc';rw[lc] at e;cases e;exact⟨c,hc',o,hk _ _ ho,hd⟩
 cell:=λx c e=>by
  obtain⟨v,o,ho,hd⟩:=I.cell x c (S.sub x c e);exact⟨v,o,hk _ _ ho,hd⟩
 free:=I.hok.fresh (nW hC.symm)
 freeC:=λx c e=>I.freeC x c (S.sub x c e)
 pin:=λp hp=>absurd (show p∈([]:List (ac×Obj)) from hp) (by simp)
 hok:=I.hok.kept hk
 len:=by
  show (cf xs.length ao++zbJ ix σ).length=(xs++kH ix X.N).length;rw[bE,bE,gm,zbJ,kH,bg,bg]
theorem aU.uncomp{σ':St}{H':B}{N':List Str}{h':ay}(I:aU X aM σ H s)(hC:C=s.heap.objs.size)(hf:∀b∈fp,Zd X aM H b)
  (J:aU (X.comp scope cl C N' fp s H) [] σ' H' s') (hb:cS C s'.heap h'):aU X aM σ H' { s' with heap:=h' }:=by
 have lt:∀b o,s.heap.get? b=aa o->b≠C:=λb o e=>by
  rw[hC];exact b7 (bQ e)
 have Bo:Un (tz X.stack) fp H H' s.heap s'.heap:=J.base;refine I.call' (s':={ s' with heap:=h' }) (ch:=fp) J.os ?_ ?_ J.bare ?_
 ·exact⟨λb o e n h1 h2=>(hb.2 b (lt b o e)).trans (Bo.keep b o e n h1 h2),λb o e n h1 h2=>by
   obtain⟨sl,q⟩:=Bo.slot b o e n h1 h2;exact⟨sl,(hb.2 b (lt b o e)).trans q⟩,Bo.free,λb o e h1=>by
   obtain⟨o',q⟩:=Bo.there b o e h1;exact⟨o',(hb.2 b (lt b o e)).trans q⟩,Bo.tups,Bo.frzs,Bo.tbls⟩
 ·intro b o e;refine(J.hok b o e).stay (λc u hc q=>(hb.2 c ?_).trans q) (λ_ q=>q) λ_ _ q=>q;have hC0:H' C=ao:=J.free;rintro rfl;rcases hc with rfl|hc
  ·rw[hC0] at e;cases e
  ·rw[hC0] at hc;cases hc
 ·intro b hb';obtain⟨f0,f1,f2,f3,f4,f5⟩:=hf b hb';exact⟨f3,f1,f4,f5⟩
end
def PTs(X:Cx)(ifs:List aD)(t:TT):Prop :=
 ∀(aM:List (ac×Obj)) (s:am) (σ:St) (H:B) (Q:Bool->B->Prop),aU X aM σ H s->t σ H Q ->
  Bf (Bg X.prog X.w) X.A (forIn ifs ah λc r=>if r=ah then do let ok <-isTrue c X.env (eval c X.env);pure (gq ok) else pure (gq r)) (TP X aM σ Q) X.xe s
def Vy:TT:=λ_ H Q=>Q ah H
theorem Ya :PTs X [] Vy:=λ_ _ _ H _ I h=>wpAny_tests_nil ⟨H,I,h⟩
section
variable {prog:ax}{w:aA}{A:aB}{R:aF->am->Prop}{s:am}
theorem K3{elt target iter:aD}{ifs:List aD}{scope:aE}{pos:Pos}{it acc:af}{env:Env}(W:Nat->am->Prop){EE:af->am->Prop}
  (hE:∀e s',EE e s'->notedBy (Bg prog w) A env (λe s'=>R (.error e) s') e s')
  (turn:∀n s,W n s->Bf (Bg prog w) A (pyNext it) (λr s₁=>match r with
   |none=>R (.ok .next) s₁
   |some v=>Bf (Bg prog w) A (letOwnedTupleGo target it v) (λ_ t₁=>Bf (Bg prog w) A (assign target env v) (λ_ s₂ =>
     Bf (Bg prog w) A (forIn ifs ah λc r=>if r=ah then do let ok <-isTrue c env (eval c env);pure (gq ok) else pure (gq r)) (λok s₃ =>
      if ok=ah then Bf (Bg prog w) A (eval elt env) (λx s₄=>Bf (Bg prog w) A (call (.builtin "list.append") [acc,x]) (λ_ s₅=>∃m,m<n/\W m s₅) EE s₄) EE s₃
      else ∃m,m<n/\W m s₃) EE s₂) EE t₁) EE s₁) EE s)
  (n:Nat) (h:W n s):codeAny (Bg prog w) A (.compLoop (.ListComp elt [⟨target,iter,ifs,0⟩] scope pos) 0 it acc env) R s:=by
 refine codeAny_loop Y W (λn s hW=>?_) n h;show Bf _ A ((compTurn (.ListComp elt [⟨target,iter,ifs,0⟩] scope pos) 0 it acc env).onRaise (λx=>do noteFrame x env;theTreesLotGoes x)) _ _ s;refine wpAny_noted (dR ?_ (λ_ _ q=>q) hE);rw[compTurn_list];refine ba (pq (ba (sr (turn n s hW) λr s₁ h₁=>?_)));cases r with
 |none=>exact bf h₁
 |some v =>
  refine ba (sr h₁ λ_ t₁ k₁=>?_);refine ba (sr k₁ λ_ s₂ h₂=>ba (sr h₂ λok s₃ h₃=>?_));cases ok with
  |false=>exact bf ⟨Y,h₃⟩
  |true=>exact ba (ba (sr h₃ λx s₄ h₄=>ba (sr h₄ λ_ s₅ h₅=>bf (bf ⟨Y,h₅⟩))))
end
def kI(wi:TI)(g:TG)(tt:TT)(te:TE)(k:Nat)(ix:List Nat):TE:=λσ H Q=>wi σ H λJ H1=>∀D,H1 D=ao ->
 ∃W:Nat->Nat->List V->St->B->Prop,(∃m,W 0 m [] (cf k ao++zbJ ix σ) (upd H1 D (.lst [])))/\∀i m ys τ H,W i m ys τ H->H D=aa (.lst ys) /\
  ((J.stop i H/\Q (.ref D) H)\/(J.go i H/\ys.length<Bb/\∃N:V->St->B->Prop,
   (∀v τ' H',N v τ' H'->H' D=aa (.lst ys)/\∃m',m'<m/\W (i+1) m' (ys++[v]) τ' (upd H' D (.lst (ys++[v]))))/\∃Nf:St->B->Prop,(∀τ' H',Nf τ' H'->∃m',m'<m/\W (i+1) m' ys τ' H') /\
   ∀x H',J.yld i H x H'->g x τ H' λτ2 H2=>tt τ2 H2 λb H3=>if b=ah then te τ2 H3 λv H4=>N v τ2 H4 else Nf τ2 H3))
section
variable {X:Cx}{elt iter tg:aD}{ifs:List aD}{scope:aE}{pos:Pos}{cl:List (Str×ac)}{ix:List Nat}{xs:List Str}{wi:TI}{g:TG}{tt:TT}{te:TE}
theorem Vz(S:Z9 X scope cl ix)(hc:X.calm=ah)(hi:PI X tg iter wi)
  (hg:∀C fp s H,PG (X.comp scope cl C (xs++kH ix X.N) fp s H) tg g) (ht:∀C fp s H,PTs (X.comp scope cl C (xs++kH ix X.N) fp s H) ifs tt)
  (he:∀C fp s H,PE (X.comp scope cl C (xs++kH ix X.N) fp s H) elt te)
  {s:am} {σ:St} {H:B} {Q:VK} (I:aU X aM σ H s) (h:kI wi g tt te xs.length ix σ H Q) {RR:af->ac->aF->am->Prop}
  (hR:∀v u s' C,aZ v u->(∃H',Q v H'/\(∃m,s'.heap.Ns C m)/\(∀h',cS C s'.heap h'->aU X aM σ H' { s' with heap:=h' })/\Zd X aM H' C)->RR u C (.ok .next) s') :
  Bf (Bg X.prog X.w) X.A (eval iter X.env) (λx s₁=>Bf (Bg X.prog X.w) X.A (pyIter x) (λit s₂=>Bf (Bg X.prog X.w) X.A (newList []) (λacc s₃ =>
   Bf (Bg X.prog X.w) X.A (newFunctionEnv scope X.env.globals cl [] X.env.qual ao .none (aa X.env)) (λcenv s₄ =>
    codeAny (Bg X.prog X.w) X.A (.compStart (.ListComp elt [⟨tg,iter,ifs,0⟩] scope pos) 0 it acc { cenv with scope:=relabel scope X.env }) (RR acc cenv.locals) s₄) X.xe s₃) X.xe s₂) X.xe s₁) X.xe s:=by
 refine sr (hi aM s σ H _ I h) λv s1 h1=>sr h1 λitv s2 h2=>?_;obtain⟨it,fp,tn,J,H2,e,I2,T,st2,f2,hW⟩:=h2;subst e;refine c8 (wpAny_newFunctionEnv S.nocell (λy hy=>nomatch hy) (λh₁ hns₁ hsb₁=>?_) S.kind);dsimp only at hns₁ hsb₁ ⊢;obtain⟨W,⟨m0,w0⟩,turn⟩:=hW s2.heap.objs.size I2.fresh;have I3:=I2.lnew (t':=s2.toks) (ys:=[]) (its:=[]) .nil (bW _);have hl3:∀b∈fp,b<s2.heap.objs.size:=λb hb=>by
  obtain⟨o,e,_⟩:=T.obj _ _ st2 b hb;exact bQ e
 generalize hs3:({ s2 with heap:=s2.heap.push { cls:=.type "list",data:=.seq ([]:List af).toArray },toks:=s2.toks }:am)=s3 at I3;have hs3h:s3.heap=s2.heap.push { cls:=.type "list",data:=.seq ([]:List af).toArray }:=by rw[<-hs3]
 have hsz:s3.heap.objs.size=s2.heap.objs.size+1:=by rw[hs3h,eU]
 have f3:∀b∈fp,Zd X aM (upd H2 s2.heap.objs.size (.lst [])) b:=λb hb=>by
  obtain⟨q0,q⟩:=f2 b hb;exact⟨by rw[zh (b7 (hl3 b hb))];exact q0,q⟩
 have hl3':∀b∈fp,b<s3.heap.objs.size:=λb hb=>by rw[hsz];exact pP (hl3 b hb)
 rw[<-hs3h] at hns₁ hsb₁ ⊢;have hk:∀b o,s3.heap.get? b=aa o->h₁.get? b=aa o:=λb o e=>(hsb₁.2 b (b7 (bQ e))).trans (bd _ e);have hk2:∀b o,s2.heap.get? b=aa o->s3.heap.get? b=aa o:=λb o e=>by rw[hs3h];exact bd _ e
 have J0:=I3.comp (xs:=xs) (t':=s2.toks) (C:=s3.heap.objs.size) S Y f3 hl3' hns₁ hk;have st3:tn 0 h₁:=T.keep _ _ _ st2 λb _ o e=>hk b o (hk2 b o e);have loop:∀tk,codeAny (Bg X.prog X.w) X.A (.compLoop (.ListComp elt [⟨tg,iter,ifs,0⟩] scope pos) 0 (.ref it) (.ref s2.heap.objs.size) (compEnvC scope cl s3.heap.objs.size X.env))
   (RR (.ref s2.heap.objs.size) s3.heap.objs.size) { s3 with heap:=h₁,toks:=tk }:=by
  intro tk;refine K3 (EE:=λ_ _=>False) (λn s'=>∃i ys τ H',aU (X.comp scope cl s3.heap.objs.size (xs++kH ix X.N) fp s3 (upd H2 s2.heap.objs.size (.lst []))) [] τ H' s'/\tn i s'.heap/\(∀b∈fp,H' b=ao)/\W i n ys τ H')
   (λ_ _ z=>z.elim) ?_ m0 ⟨0,[],_,_,J0.tok tk,st3,λb hb=>(f3 b hb).1,w0⟩
  rintro n s' ⟨i,ys,τ,H',I',st',fr',w'⟩;have stat:∀ {H':B},(∀b∈fp,H' b=ao)->∀b∈fp,Zd (X.comp scope cl s3.heap.objs.size (xs++kH ix X.N) fp s3 (upd H2 s2.heap.objs.size (.lst []))) [] H' b:=λhn b hb =>
   ⟨hn b hb,(I'.ok.exf b hb).1,I'.ok.exfs b hb,.inl hb,(I'.ok.exf b hb).2,λp hp=>absurd (show p∈([]:List (ac×Obj)) from hp) (by simp)⟩
  obtain⟨hD,⟨stop,q⟩|⟨go,hz,N,hN,Nf,hNf,step⟩⟩:=turn i n ys τ H' w'
  ·refine sr (T.done (X.comp scope cl s3.heap.objs.size (xs++kH ix X.N) fp s3 (upd H2 s2.heap.objs.size (.lst []))) Y Y Y hc i [] s' τ H' _ I' (stat fr') st' stop) λr s4 ⟨hr,I4⟩=>?_;subst hr;refine hR (.ref s2.heap.objs.size) _ s4 _ Y ⟨H',q,?_,λh' hb=>I3.uncomp Y f3 I4 hb,I3.fpOk (bp _) I4.free⟩;obtain⟨m,hn,_⟩:=I4.loc;exact⟨m,hn⟩
  ·refine sr (T.item (X.comp scope cl s3.heap.objs.size (xs++kH ix X.N) fp s3 (upd H2 s2.heap.objs.size (.lst []))) Y Y Y hc i [] s' τ H' _ I' (stat fr') st' go) λr s4 ⟨u,hr,h4⟩=>?_;subst hr;refine sr h4 λ_ s5 ⟨x,H5,I5,r5,y5,st5,fr5⟩=>?_;have I5':=I5.pinned (stat fr5) (T.obj _ _ st5);refine sr (hg _ _ _ _ _ s5 τ H5 x u _ I5' r5 (step x H5 y5)) λ_ s6 ⟨τ6,H6,I6,q6⟩=>?_;refine sr (ht _ _ _ _ _ s6 τ6 H6 _ I6 q6) λok s7 ⟨H7,I7,q7⟩=>?_;have back:∀ {s8:am} {H8:B} {m:Nat} {zs:List V},aU (X.comp scope cl s3.heap.objs.size (xs++kH ix X.N) fp s3 (upd H2 s2.heap.objs.size (.lst []))) ([]++Vq fp s5.heap) τ6 H8 s8->W (i+1) m zs τ6 H8 ->
     ∃i ys τ H',aU (X.comp scope cl s3.heap.objs.size (xs++kH ix X.N) fp s3 (upd H2 s2.heap.objs.size (.lst []))) [] τ H' s8/\tn i s8.heap/\(∀b∈fp,H' b=ao)/\W i m ys τ H':=λ{s8 H8 m zs} I8 w8=>by
    refine⟨i+1,zs,τ6,H8,I8.unpinned,T.keep _ _ _ st5 λb hb o e=>(I8.pin (b,o) (bR _ (bR _ (kZ hb e)))).1,λb hb=>?_,w8⟩;obtain⟨o,e,d⟩:=T.obj _ _ st5 b hb;exact(I8.pin (b,o) (bR _ (bR _ (kZ hb e)))).2.1
   cases ok with
   |false =>
    rw[ap bM] at q7 ⊢;obtain⟨m',hm,w7⟩:=hNf _ _ q7;exact⟨m',hm,back I7 w7⟩
   |true =>
    rw[au rfl] at q7 ⊢;refine sr (he _ _ _ _ _ s7 τ6 H7 _ I7 q7) λy s8 ⟨v8,H8,I8,r8,n8⟩=>?_;obtain⟨hD8,m',hm,w8⟩:=hN _ _ _ n8;refine sr (yK _ s8 τ6 H8 (.ref s2.heap.objs.size) [v8] (.ref s2.heap.objs.size) [y] (λ_ Hn=>∃m,m<n/\W (i+1) m (ys++[v8]) τ6 Hn) I8 Y (.cons r8 .nil) ⟨_,ys,v8,Y,Y,hD8,hz,m',hm,w8⟩) λ_ s9 ⟨_,H9,I9,_,m9,hm9,w9⟩=>?_;exact⟨m9,hm9,back I9 w9⟩
 have e3:∀tk,({ s3 with heap:=h₁,toks:=tk }:am)={ s2 with heap:=h₁,toks:=tk }:=λtk=>by rw[<-hs3]
 have loop':∀tk,codeAny (Bg X.prog X.w) X.A (.compLoop (.ListComp elt [⟨tg,iter,ifs,0⟩] scope pos) 0 (.ref it) (.ref s2.heap.objs.size) (compEnvC scope cl s3.heap.objs.size X.env))
   (RR (.ref s2.heap.objs.size) s3.heap.objs.size) { s2 with heap:=h₁,toks:=tk }:=λtk=>by rw[<-e3];exact loop tk
 exact codeAny_compStart_list (loop' _) (T.self _ 0 _ _ _ st3 (loop' _))
theorem zct(hc:X.calm=ah)(hD:zcs osc N scope ix=ah)(hi:PI X tg iter wi)
  (hg:∀C fp s H,PG (X.comp scope (Zh scope X.env) C (xs++kH ix X.N) fp s H) tg g) (ht:∀C fp s H,PTs (X.comp scope (Zh scope X.env) C (xs++kH ix X.N) fp s H) ifs tt)
  (he:∀C fp s H,PE (X.comp scope (Zh scope X.env) C (xs++kH ix X.N) fp s H) elt te) (hsc:X.env.scope=osc:=by rfl) (hN:X.N=N:=by rfl) (hs:∀x,foldedSetIterable iter X.env x=pure x:=by intro _;rfl) :
  PE X (.ListComp elt [⟨tg,iter,ifs,0⟩] scope pos) (kI wi g tt te xs.length ix):=by
 intro aM s σ H Q I h;have S:=Xr I.ok hD hsc hN;rw[eval_ListComp];refine mL (use:=ao) Y hs S.clos S.kind S.names (Vz S hc hi hg ht he I h (RR:=λacc C=>compPost (Bg X.prog X.w) X.A X.xe ao (EP X aM σ Q) acc C) ?_);rintro v u s' C r ⟨H',q,⟨m,hn⟩,hI,_⟩;exact⟨m,hn,λh' hb=>⟨v,H',hI h' hb,r,q⟩⟩
theorem qh{N:List Str}{y:Str}{py:Pos}{j:Nat}{spos:Pos}(hNd:X.N.Nodup)(hj:X.N[j]?=aa y)(hc:X.calm=ah)(hy:Loc X.env.scope y)(hD:zcs osc N scope ix=ah)(hi:PI X tg iter wi)
  (hg:∀C fp s H,PG (X.comp scope (Zh scope X.env) C (xs++kH ix X.N) fp s H) tg g) (ht:∀C fp s H,PTs (X.comp scope (Zh scope X.env) C (xs++kH ix X.N) fp s H) ifs tt)
  (he:∀C fp s H,PE (X.comp scope (Zh scope X.env) C (xs++kH ix X.N) fp s H) elt te) (hsc:X.env.scope=osc:=by rfl) (hN:X.N=N:=by rfl)
  (hsw:swapsWith (.ListComp elt [⟨tg,iter,ifs,0⟩] scope pos) (aa (.Name y py)) spos.line X.env=pure ah:=by rfl)
  (hs:∀x,foldedSetIterable iter X.env x=pure x:=by intro _;rfl) (hf:X.fn y=ah\/X.env.scope.names.lookup y=aa .local:=by first|exact .inl rfl|exact .inr rfl|assumption) :
  PS X (.Assign [.Name y py] (.ListComp elt [⟨tg,iter,ifs,0⟩] scope pos) spos) (zE (kI wi g tt te xs.length ix) (zm j)):=by
 intro aM s σ H D I h;have S:=Xr I.ok hD hsc hN;rw[exec_Assign_Name_used _ _ _ _ hsw];refine ba (pq (ba ?_));show Bf _ X.A (do let _ <-comprehension (.ListComp elt [⟨tg,iter,ifs,0⟩] scope pos) scope X.env _ (newList []) aq (eval iter X.env) (aa (assign (.Name y py) X.env))) _ _ s;refine ba (sr (mL (use:=aa (assign (.Name y py) X.env)) (Q:=λ_ s'=>SP X aM D .next s') rfl hs S.clos S.kind S.names
  (Vz S hc hi hg ht he I h (RR:=λacc C=>compPost (Bg X.prog X.w) X.A X.xe (aa (assign (.Name y py) X.env)) (λ_ s'=>SP X aM D .next s') acc C) ?_)) λ_ s' hq=>bf (bf hq))
 rintro v u s' C r ⟨H',q,⟨m,hn⟩,hI,f0,f1,f2,f3,f4,f5⟩;have I':aU X aM σ H' s':=hI s'.heap (.refl ..);show Bf _ X.A (assign (.Name y py) X.env u) _ _ _;refine wpAny_assign_Name (JU I' hNd hj hy r (λs2 I2 hx=>?_) hf);obtain⟨a,hb,ha⟩:=hx;have hCa:C≠a:=by
  rcases ha with rfl|ha
  ·exact f1
  ·exact eP (f4 _ _ ha)
 refine⟨m,hn.sameBut hb hCa,λh' hb'=>⟨_,H',?_,q⟩⟩;exact I2.turned (t':=s2.toks) (λb o hne e=>(hb'.2 b hne).trans e) f0 f1 f3 f4 f5
end
abbrev VA:R2:=λx y H Q=>∃i j,x=.str i/\y=.str j/\i.length+j.length<=Bb/\Q (.str (i++j)) H
abbrev zf7:R2:=λx y H Q=>y=.non/\Q (.bl (decide (x=.non))) H
abbrev VB:R2:=λx y H Q=>y=.non/\Q (.bl (!decide (x=.non))) H
abbrev RC:=List V->B->VK->Prop
abbrev xw(K:bw):RC:=λxs H Q=>∃x n,xs=[x]/\zc9 K x H n/\Q (.int n) H
abbrev jD(K:bw):RC:=λxs H Q=>∃x c t b,xs=[x,c]/\YS K H x t/\(∃T,c=.ty T/\fP K t (.type T)=aa b)/\Q (.bl b) H
abbrev RM:=V->List V->B->VK->Prop
theorem zf8{H:B}(h:H p=ao):∃H',H'=upd H p o/\aP H H'/\H' p=aa o:=
 ⟨_,Y,λb u e=>by rw[zh (zo e h)];exact e,ze⟩
theorem sN(p:ac){H:B}(h:H p=ao):aP H (upd H p o):=λb u e=>by rw[zh (zo e h)];exact e
theorem xZ:Bh "len"=aa (.builtin "len"):=by lia
theorem zL:Bh "isinstance"=aa (.builtin "isinstance"):=by lia
theorem Yb:Bh "sorted"=aa (.builtin "sorted"):=by lia
theorem zhE:Bh "zip"=aa (.type "zip"):=by lia
theorem K4:Bh "str"=aa (.type "str"):=by lia
theorem K7:Bh "int"=aa (.type "int"):=by lia
theorem K8:Bh "bool"=aa (.type "bool"):=by lia
theorem x8:Bh "list"=aa (.type "list"):=by lia
theorem Xs:Bh "tuple"=aa (.type "tuple"):=by lia
theorem zcu:Bh "dict"=aa (.type "dict"):=by lia
section
variable {X:Cx}
def big:Int:=10^200
def yq(_ j:Int):Prop:=0<j/\j<big
def CMulB(i j:Int):Prop:=(-big<i/\i<big)/\(-big<j/\j<big)
theorem VC{j:Int}(h:j.natAbs<10^200):j.natAbs.log2<700:=by
 by_cases h0:j.natAbs=0
 ·rw[h0];decide
 ·exact(Nat.log2_lt h0).mpr (cg h ())
theorem K9{j:Int}(h:-big<j/\j<big):j.natAbs<10^200:=by
 have e:big=((10^200:Nat):Int):=by lia
 rw[e] at h;lia
theorem CMulB.ok{i j:Int}(h:CMulB i j):IntMulOk i j:=by
 have b:∀k:Int,(-big<k/\k<big)->dN k<=2^20:=λk hk=>by
  have q:=VC (K9 hk);unfold dN;split <;> lia
 exact .of_bits (b i h.1) (b j h.2)
theorem Qa:tE X (binaryOp .Mult) (rI CMulB λi j=>.int (i*j)):=opI λ_ _ _ _ _ _ _ hc q=>mul_int q hc.ok
theorem xx:tE X (binaryOp .FloorDiv) (rI yq λi j=>.int (i/j)):=opI λi j _ _ _ _ _ hc q=>by
 have h1:(0:Int)<j:=hc.1;refine floordiv_int () ?_ (.inl (mM (p9 (VC (K9 ⟨by have:=hc.2;lia,hc.2⟩)) ())));rw[Int.fdiv_eq_ediv_of_nonneg i ()];exact q
theorem yt:jE X (.builtin "isinstance") (jD X.K):=by
 intro aM s σ H xs us Q I r h;obtain⟨x,c,t,b,rfl,ty,⟨T,rfl,e⟩,q⟩:=h;obtain⟨u,w',rfl,r1,r2⟩:=zg6 r;cases r2;exact zdd I r1 ty e λtk=>⟨.bl b,H,I.tok tk,Y,q⟩
def zhF:V->Option Int->Option Int->B->VK->Prop:=λx lo hi H Q=>∃z,x=.str z/\z.length<=Bb/\Q (.str (gP z lo hi)) H
theorem zeb:SlR X zhF:=by
 intro aM s σ H x v vl vu lo hi sl Q I rx hs pl pu h;obtain⟨z,rfl,hz,q⟩:=h;obtain⟨t,rfl⟩:=rx;obtain⟨o,ho,hc,hd⟩:=hs;refine⟨"str",_,F.slot_str_getitem.lookup,oz _ _ _,?_⟩;obtain⟨l,e1,e2⟩:∃l:Option (Int×Tok),vl=partValue l/\lo=l.map (·.1):=by
  cases pl with
  |none=>exact⟨ao,Y,Y⟩
  |int i t=>exact⟨aa (i,t),Y,Y⟩
 obtain⟨u,e3,e4⟩:∃l:Option (Int×Tok),vu=partValue l/\hi=l.map (·.1):=by
  cases pu with
  |none=>exact⟨ao,Y,Y⟩
  |int i t=>exact⟨aa (i,t),Y,Y⟩
 subst e1 e2 e3 e4;exact wpAny_getItem_str_slice (l:=l) (u:=u) (st:=ao) ⟨o,ho,hc,hd⟩ rfl
  (post_val_or_str ⟨bP (Txt.slice_le z _ _) hz,λt' k=>⟨.str (gP z (l.map (·.1)) (u.map (·.1))),H,I.tok k,⟨t',Y⟩,q⟩⟩)
end
theorem dl.there{H:B}(x:dl P w H h a o):∃u,h.get? a=aa u:=by
 cases o with
 |lst xs=>obtain⟨_,_,_,_,e⟩:=x;exact⟨_,e⟩
 |tup xs=>obtain⟨_,_,_,o,e,_⟩:=x;exact⟨_,e⟩
 |dK aO=>obtain⟨_,_,_,_,o,_,_,e,_⟩:=x;exact⟨_,e⟩
 |dT aO=>obtain⟨_,_,_,_,o,_,_,e,_⟩:=x;exact⟨_,e⟩
 |set S n=>obtain⟨o,_,_,_,e,_⟩:=x;exact⟨_,e⟩
 |ins C dx fs=>obtain⟨_,_,_,e,_⟩:=x;exact⟨_,e⟩
 |own y=>exact x
 |xd fs=>obtain⟨_,⟨o,_,_,e,_⟩,_⟩:=x;exact⟨_,e⟩
 |rng lo hi=>obtain⟨_,_,_,e⟩:=x;exact⟨_,e⟩
 |frz ob u=>obtain⟨e,_⟩:=x;exact⟨_,e⟩
 |tbl ps=>exact⟨_,(show h.get? a=aa _ from x)⟩
 |met f y=>exact⟨_,(show h.get? a=aa _ from x)⟩
 |ext φ=>obtain⟨_,e,_⟩:=x;exact e
def XF(g h:ay)(H:B)(e:ac)(cls:af):Prop :=
 ∃oe vs a0 T oT ts,h.get? e=aa oe/\(oe.cls=cls/\vs[0]?=aa a0)/\oe.data=.fields vs/\vs[1]?=aa (.ref T)/\T≠e/\h.get? T=aa oT/\oT.data=.fields ts/\ts[3]?=aa .none /\
  g.get? e=ao/\g.get? T=ao/\H e=ao/\H T=ao
def tQ(P:ax)(w:aA):CXT:=λouter H s E ev s'=>∃e cls H',ev=.ref e/\s'.os=s.os/\AllBare s'.gens/\Un (tz outer) [] H H' s.heap s'.heap/\tM P w H' s'.heap/\XF s.heap s'.heap H' e cls/\E cls ao H'
theorem kJ{g h:ay}(k:∀b o,g.get? b=aa o->∃o',h.get? b=aa o')(e:h.get? b=ao):g.get? b=ao:=by
 cases q:g.get? b with
 |none=>rfl
 |some o =>
  obtain⟨o',z⟩:=k b o q;rw[e] at z;cases z
theorem XF.older{H:B}(x:XF g h H e cls)(k:∀b o,g'.get? b=aa o->∃o',g.get? b=aa o'):XF g' h H e cls:=by
 obtain⟨oe,vs,a0,T,oT,ts,h1,h2,h3,h4,h5,h6,h7,h8,h9,h10,h11,h12⟩:=x;exact⟨oe,vs,a0,T,oT,ts,h1,h2,h3,h4,h5,h6,h7,h8,kJ k h9,kJ k h10,h11,h12⟩
section
variable {X:Cx}{aM:List (ac×Obj)}{σ:St}{H:B}{s:am}
theorem aU.stackFields(J:aU X aM σ H s)(hb:b∈tz X.stack):∃o,s.heap.get? b=aa o/\∀vs,o.data≠.fields vs:=(J.stack.mem hb).2
theorem aU.there0(hex:X.ex=[])(J:aU X aM σ H s):∀b o,X.s₀.heap.get? b=aa o->∃o',s.heap.get? b=aa o':=λb o e=>J.base.there b o e (by rw[hex];simp)
theorem aU.behind{cs:List ac}(hex:X.ex=[])(J:aU X aM σ H s)(hcs:∀b∈cs,H b=ao/\X.s₀.heap.get? b=ao)
  (hB:∀b o,s.heap.get? b=aa o->b ∉ tz X.stack->b ∉ cs->h2.get? b=aa o) (hF:∀b o,s.heap.get? b=aa o->b∈tz X.stack->∃sl,h2.get? b=aa { o with slots:=sl }) :
  Un X.fs [] X.H₀ H X.s₀.heap h2/\tM X.prog X.w H h2:=by
 have Bo:Un X.fs [] X.H₀ H X.s₀.heap s.heap:=by have:=J.base;rw[hex] at this;exact this
 have nL:∀b o,X.s₀.heap.get? b=aa o->b≠X.env.locals:=λb o e=>b7 (cg (bQ e) J.ok.above);have nC:∀b o,X.s₀.heap.get? b=aa o->b ∉ cs:=λb o e z=>by rw[(hcs b z).2] at e;cases e
 have any:∀b o,s.heap.get? b=aa o->b ∉ cs->∃sl,h2.get? b=aa { o with slots:=sl }:=λb o e n=>by
  by_cases hb:b∈tz X.stack
  ·exact hF b o e hb
  ·exact⟨o.slots,hB b o e hb n⟩
 refine⟨⟨λb o e n h1 _=>?_,λb o e n h1 _=>?_,Bo.free,λb o e h1=>?_,Bo.tups,Bo.frzs,Bo.tbls⟩,λb u e=>?_⟩
 ·refine hB b o (Bo.keep b o e n h1 (by simp)) (λz=>?_) (nC b o e);rcases bF.mp (J.stkSub b z) with q|q
  ·exact nL b o e q
  ·exact h1 q
 ·obtain⟨sl,q⟩:=Bo.slot b o e n h1 (by simp);obtain⟨sl',q'⟩:=any b _ q (nC b o e);exact⟨sl',q'⟩
 ·obtain⟨o',q⟩:=Bo.there b o e (by simp);obtain⟨sl,q'⟩:=any b o' q (nC b o e);exact⟨_,q'⟩
 ·refine(J.hok b u e).stay (λc v hc q=>?_) (λ_ q=>q) λ_ _ q=>q;have hn:H c≠ao:=by
   rcases hc with rfl|hc
   ·rw[e];simp
   ·rw[hc];simp
  exact hB c v q (λz=>hn (J.stkFree c z)) λz=>hn (hcs c z).1
theorem aU.flown{cs:List ac}(hex:X.ex=[])(J:aU X aM σ H s)(hcs:∀b∈cs,H b=ao/\X.s₀.heap.get? b=ao)
  (hB:∀b o,s.heap.get? b=aa o->b ∉ tz X.stack->b ∉ cs->Bo.get? b=aa o) (hF:∀b o,s.heap.get? b=aa o->b∈tz X.stack->∃sl,h2.get? b=aa { o with slots:=sl })
  (he:H e=ao) (he0:X.s₀.heap.get? e=ao) (kb:Bo.StaysIn h2) (tr:h2.TracedW Bo e cls a0) :
  Un X.fs [] X.H₀ H X.s₀.heap h2/\tM X.prog X.w H h2/\XF X.s₀.heap h2 H e cls:=by
 have hk:=J.behind (h2:=h2) hex hcs (λb o q n1 n2=>kb b o (hB b o q n1 n2)) hF;refine⟨hk.1,hk.2,?_⟩;obtain⟨oe,vs,T,oT,ts,h1,h2',h3,h4,h5,h6,h7,h8,h9⟩:=tr;have noT:∀o,s.heap.get? T=aa o->T∈cs:=λo q=>by
  by_cases hb:T∈tz X.stack
  ·obtain⟨o',q',nf⟩:=J.stackFields hb;obtain⟨sl,z⟩:=hF T o' q' hb;rw[h7] at z;have z':oT={ o' with slots:=sl }:=bL z;exact absurd (by rw[<-h8,z']) (nf ts)
  ·by_cases hc:T∈cs
   ·exact hc
   ·rw[hB T o q hb hc] at h5;cases h5
 refine⟨oe,vs,a0,T,oT,ts,h1,h2',h3,h4,h6,h7,h8,h9,he0,?_,he,?_⟩
 ·cases q:X.s₀.heap.get? T with
  |none=>rfl
  |some o =>
   obtain⟨o',q'⟩:=J.there0 hex T o q;rw[(hcs T (noT o' q')).2] at q;cases q
 ·cases q:H T with
  |none=>rfl
  |some u =>
   obtain⟨o,z⟩:=(J.hok T u q).there;rw[(hcs T (noT o z)).1] at q;cases q
theorem zdl{h':ay}{e:ac}{cls:af}{vs:List af}{E:XK}{EE:af->am->Prop}(hst:X.stack=X.env::X.outer/\X.env.frame=aa X.env.locals)(hex:X.ex=[])(J:aU X aM σ H s)(hx:Heap.MadeExcOf s.heap h' e cls vs)(hE:E cls ao H) :
  Bf (Bg X.prog X.w) X.A (leaving X.env (.ref e)) (λ_ s2=>tQ X.prog X.w X.outer X.H₀ X.s₀ E (.ref e) s2) EE { s with heap:=h' }:=by
 have fr:s.heap.FunFrames (gN s.heap (tz X.stack)) (X.env::X.outer):=by
  have q:=lf (as:=tz X.stack) J.stack λenv he a ha=>fZ.mpr ⟨env,he,ha⟩;rw[hst.1] at q ⊢;exact q
 refine wpAny_leaves_madeW (s:={ s with heap:=h' }) (base:=gN s.heap (tz X.stack)) (h:=s.heap) (by rw[J.ok.frames,hst.1]) hst.2 (λb o q=>l8 _ q) fr hx λh2 t hfl _ _ hup=>?_;obtain⟨f1,f2,f3,f4⟩:=hfl;have hF:∀b o,s.heap.get? b=aa o->b∈tz X.stack->∃sl,h2.get? b=aa { o with slots:=sl }:=λb o q hb=>by
  obtain⟨o',q',nf⟩:=J.stackFields hb;rw[q] at q';cases q';exact hup b o (hx.keeps b o q) nf
 obtain⟨r1,r2,r3⟩:=J.flown (cs:=[]) hex (λb z=>nomatch z) (λb o q n _=>lE _ q n) hF
  (by
   cases q:H e with
   |none=>rfl
   |some u =>
    obtain⟨o,z⟩:=(J.hok e u q).there;rw[hx.new] at z;cases z)
  (kJ (J.there0 hex) hx.new) f1 f4
 exact⟨e,cls,H,Y,J.os,J.bare,r1,r2,r3,hE⟩
theorem zec{e:ac}{cls:af}{E:XK}{EE:af->am->Prop}(hst:X.stack=X.env::X.outer/\X.env.frame=aa X.env.locals)(hex:X.ex=[])(J:aU X aM σ H s)(xf:XF X.s₀.heap s.heap H e cls)(hE:E cls ao H) :
  Bf (Bg X.prog X.w) X.A (leaving X.env (.ref e)) (λ_ s2=>tQ X.prog X.w X.outer X.H₀ X.s₀ E (.ref e) s2) EE s:=by
 obtain⟨oe,vs,a0,T,oT,ts,h1,h2,h3,h4,h5,h6,h7,h8,h9,h10,h11,h12⟩:=id xf;have fr:s.heap.FunFrames (gN s.heap (tz X.stack++[e,T])) (X.env::X.outer):=by
  have q:=lf (as:=tz X.stack++[e,T]) J.stack λenv he a ha=>cM _ (fZ.mpr ⟨env,he,ha⟩);rw[hst.1] at q ⊢;exact q
 refine wpAny_leaves_onW (base:=gN s.heap (tz X.stack++[e,T])) (a0:=a0) (by rw[J.ok.frames,hst.1]) hst.2
  ⟨λb o q=>l8 _ q,fY _ (bR _ (by simp)),fr,oe,vs,T,oT,ts,h1,h2,h3,h4,fY _ (bR _ (by simp)),h5,h6,h7,h8⟩ λh2' hfl hup=>?_
 obtain⟨f1,f2,f3,f4⟩:=hfl;have hF:∀b o,s.heap.get? b=aa o->b∈tz X.stack->∃sl,h2'.get? b=aa { o with slots:=sl }:=λb o q hb=>by
  obtain⟨o',q',nf⟩:=J.stackFields hb;rw[q] at q';cases q';exact hup b o q nf
 obtain⟨r1,r2,r3⟩:=J.flown (cs:=[e,T]) hex (λb z=>by
   have z':b=e\/b=T:=by simpa using z
   rcases z' with rfl|rfl
   ·exact⟨h11,h9⟩
   ·exact⟨h12,h10⟩) (λb o q n n2=>lE _ q λz=>(bC.mp z).elim n n2) hF h11 h9 f1 f4
 exact⟨e,cls,H,Y,J.os,J.bare,r1,r2,r3,hE⟩
end
def zed(X:Cx)(E:XK):Prop:=∀(aM:List (ac×Obj)) (σ:St) (H:B) (s:am) (h':ay) (e:ac) (cls:af) (vs:List af),aU X aM σ H s->Heap.MadeExcOf s.heap h' e cls vs->E cls ao H->X.xe (.ref e) { s with heap:=h' }
section
variable {P:ax}{w:aA}{K:bw}{mg:Str->Option af}{base:ay}{N:List Str}{qual:Str}{scope:aE}{f:ac}{cd:af}{A:aB}{outer:List Env}{s₀:am}{H₀:B}{E:XK}
theorem kK:xX (tQ P w) (q8 (tQ P w) P w K mg base N qual scope f cd A outer s₀ H₀ E) E:=by
 intro aM σ H s ev s' I hcx;obtain⟨e,cls,H',rfl,os,bare,un,hok,xf,hE⟩:=hcx;have J:=I.call' (ch:=[]) os un hok bare (λb z=>nomatch z);exact zec (X:=q8 (tQ P w) P w K mg base N qual scope f cd A outer s₀ H₀ E) ⟨Y,Y⟩ Y J (xf.older (I.there0 Y)) hE
theorem zcv:zed (q8 (tQ P w) P w K mg base N qual scope f cd A outer s₀ H₀ E) E:=by
 intro aM σ H s h' e cls vs I hx hE;exact zdl (X:=q8 (tQ P w) P w K mg base N qual scope f cd A outer s₀ H₀ E) ⟨Y,Y⟩ Y I hx hE
theorem ziR:PassesOwn (Bg P w) (q8 (tQ P w) P w K mg base N qual scope f cd A outer s₀ H₀ E).A (q8 (tQ P w) P w K mg base N qual scope f cd A outer s₀ H₀ E).env (q8 (tQ P w) P w K mg base N qual scope f cd A outer s₀ H₀ E).xe:=PassesOwn.leaving
end
abbrev zao:List af:=[.type "ValueError",.type "Exception",.type "BaseException",.type "object"]
abbrev Wi:String:="ValueError.__new__"
def VD(C:ac)(ta:TA)(E:XK):TS:=λ_ σ H=>ta σ H λvs H1=>vs.length<=Bb/\E (.ref C) ao H1
theorem zf9{K:bw}{h:ay}{C:ac}{bmB:List af}(X:K.In h)(q:pQ K C bmB newId=ah) :
  ∃bm N nm qn bs hdct sn sub ab col dd k0 k1 k2 k3 k5 mN,h.get? C=aa (excClassObj nm qn C N bs bm hdct sn sub ab col dd k0 k1 k2 k3 k5 newId)/\h.Ns N mN/\mN "__init__"=ao/\OwnTail h bmB bm:=by
 unfold pQ at q;split at q
 case h_2=>cases q
 rename_i dd cd sl ho;split at q
 case h_2=>cases q
 rename_i C' bm k0 k1 k2 k3 n k5 hm hs;rw[b6,b6,b6,b6,b6] at q;obtain⟨⟨⟨⟨⟨q1,q2⟩,q3⟩,q4⟩,q5⟩,q6⟩:=q;obtain rfl:C'=C:=by simpa using q1
 obtain rfl:n=newId:=by simpa using q2
 obtain⟨nm,bs,mro,ns,qn,hd,sn,sub,ab,col,del⟩:=cd;have hdel:del=aq:=by simpa using q3
 have hm':mro=.ref C'::bm:=hm;subst hdel hm';have hsl:sl=#[k0,k1,k2,k3,aa (.builtin n),k5]:=by
  apply Array.ext';exact hs
 subst hsl;exact⟨bm,ns,nm,qn,bs,hd,sn,sub,ab,col,dd,k0,k1,k2,k3,k5,_,X _ _ ho,.of_isNs (W.isNs_of_in X q5),W.nsMap_none_of_in X q5 (by simpa using q6),W.tail_of_in X q4⟩
section
variable {X:Cx}{x:Str}{C:ac}{np sK pos:Pos}{e₀:aD}{rest:List aD}{ta:TA}{E:XK}
theorem zap(hc:X.calm=ah)(q:pQ X.K C zao Wi=ah)(hr:zed X E)(hg:Gl X x)(hm:X.mg x=aa (.ref C))(ha:PA X (e₀::rest) ta)
  (he:Be (e₀::rest) X.env=(aq,eval e₀ X.env)::Be rest X.env:=by rfl) (hp:(backTo sK (Be rest X.env)).any (·.1)=aq:=by rfl) (hd:(x==("__debug__":Str))=aq:=by lia) :
  PS X (.Raise (aa (.Call (.Name x np) (e₀::rest) [] sK)) ao pos) (VD C ta E):=by
 intro aM s σ H D I h;obtain⟨tl,N,nm,qn,bs,hdct,sn,sub,ab,col,dd,k0,k1,k2,k3,k5,mN,hC,hN,hni,T⟩:=zf9 I.ok.mod.kin q;refine wpAny_Raise_call_subT (C:=C) (nm:=nm) (q:=qn) (N:=N) (bs:=bs) (bm:=tl) (hdct:=hdct) (sn:=sn) (sub:=sub) (ab:=ab) (col:=col) (dd:=dd) (k0:=k0) (k1:=k1) (k2:=k2) (k3:=k3) (k5:=k5) (newId:=Wi)
  PySem.F.excBase_ValueError (mN:=mN) (T.hasType PySem.F.excBase_ValueError.hasBase) (I.ok.hd hc) (by rw[he];exact hp) hni (vN I hg hm ⟨Y,?_⟩ hd)
 have hA:=ha sK aM s σ H _ I h;rw[he] at hA ⊢;refine eo (sr hA λus s2 ⟨vs,H2,I2,r2,z2,q2⟩=>?_);exact⟨Y,by rw[<-r2.length];exact z2,I2.bk _ _ hC,hN.keeps I2.bk,T.keeps I2.bk,λh' e hm=>hr aM σ H2 s2 h' e _ _ I2 hm q2⟩
end
def Asc(x:Str):Prop:=∀c∈x.cps.toList,c<128
section
variable {X:Cx}{e:aD}{te:TE}{a:Str}{j:Nat}{p1 p2 p3:Pos}
def zaq(te:TE):TE:=λσ H Q=>te σ H λv H1=>∃x:Str,v=.str x/\x.length<=100000/\∀y:Str,Q (.str y) H1
theorem zcw(he:PE X e te)(hl:a.length<=1000:=by lia):PE X (.JoinedStr [.FormattedValue e (-1) ao p2,.Constant (.str a) j p1] p3) (zaq te):=by
 intro aM s σ H Q I h;refine wpAny_JoinedStr ?_;show Bf _ _ (eval (.FormattedValue e (-1) ao p2) X.env) _ _ s;refine wpAny_FormattedValue_plain (sr (he aM _ σ H _ I h) λv s1 ⟨x,H1,I1,r1,z,ex,hz,q⟩=>?_);subst ex;obtain⟨t,rfl⟩:=r1;have hs:Bb=16777216:=bT;have e0:(gh++z).length=z.length:=by rw[mO];simp[gh,iI]
 have fin:∀(t':Tok) (tk:Nat),∃y u,ic z t'=ic y u/\(gh++y).length<=Bb/\Joins (Bg X.prog X.w) X.A X.xe (evalEach [.Constant (.str a) j p1] X.env) (gh++y) (λout s₁=>out.length<=Bb/\EP X aM σ Q (.str out s₁.toks) { s₁ with toks:=s₁.toks+1 }) { s1 with toks:=tk }:=λt' tk=>by
  refine⟨_,_,Y,by rw[e0];lia,?_⟩;show Bf _ _ (eval (.Constant (.str a) j p1) X.env) _ _ _;have hz2:(gh++z++a).length<=Bb:=by rw[mO,e0];lia
  refine oZ ⟨a,_,Y,hz2,hz2,.str _,H1,I1.tok _,⟨_,Y⟩,q _⟩
 exact wpAny_formatField_str (fin _ _) (fin _ _) ()
end
structure ExC(K:bw)(C:ac):Prop where
 ga:ck K (.ref C) "__getattribute__"=aa (aa (.builtin "BaseException.__getattribute__"))
 gx:ck K (.ref C) "__getattr__"=aa ao
 cl:ck K (.ref C) "__class__"=aa (aa (.builtin "object.__class__"))
 ob:sf K C (.type "object")=aa ah
 be:sf K C (.type "BaseException")=aa ah
 ge:rP K (.builtin "object.__class__") "__get__"=aa (aa (.builtin "getset_descriptor.__get__"))
 tk:W.takesIn K (.builtin "object.__class__")=aa ah
section
variable {X:Cx}{aM:List (ac×Obj)}{σ:St}{H:B}{s:am}
theorem aU.land{cs:List ac}(hex:X.ex=[])(I:aU X aM σ H s)(hcs:∀b∈cs,H b=ao/\X.s₀.heap.get? b=ao)(hcp:∀b∈cs,∀p∈X.pn++aM,p.1≠b)
  (hB:∀b o,s.heap.get? b=aa o->b ∉ tz X.stack->b ∉ cs->h2.get? b=aa o) (sm:s.heap.UpToSlots h2):aU X aM σ H { s with heap:=h2 }:=by
 have hF:∀b o,s.heap.get? b=aa o->b∈tz X.stack->∃sl,h2.get? b=aa { o with slots:=sl }:=λb o q hb=>by
  obtain⟨o',q',nf⟩:=I.stackFields hb;rw[q] at q';cases q';exact sm b o q nf
 obtain⟨r1,r2⟩:=I.behind hex hcs hB hF;have ce:∀c v,s.heap.IsCell c v->h2.IsCell c v:=λc v ⟨o,ho,hd⟩=>by
  obtain⟨sl,q⟩:=sm c o ho λvs z=>by rw[hd] at z;cases z
  exact⟨_,q,hd⟩
 refine⟨I.ok,I.os,I.bare,by rw[hex];exact r1,?_,λx c e=>?_,I.free,I.freeC,λp hp=>?_,r2,I.len⟩
 ·obtain⟨m,hn,hl⟩:=I.loc;refine⟨m,sm.ns hn,λi x v e1 e2 e3=>?_⟩;obtain⟨u,r,l⟩:=hl i x v e1 e2 e3;refine⟨u,r,?_⟩;rcases l with l|⟨k,c,e,z⟩
  ·exact .inl l
  ·exact .inr ⟨k,c,e,ce c _ z⟩
 ·obtain⟨v,z⟩:=I.cell x c e;exact⟨v,ce c v z⟩
 ·obtain⟨e,n,ne,nf,d⟩:=I.pin p hp;exact⟨hB _ _ e (λz=>(bF.mp (I.stkSub _ z)).elim ne nf) λz=>hcp _ z p hp Y,n,ne,nf,d⟩
end
abbrev Cx.sub(X:Cx)(e:ac):Cx:={ X with A:=X.A.mark (aa (.ref e)),calm:=aq,xe:=λ_ _=>False }
section
variable {X:Cx}{aM:List (ac×Obj)}{σ:St}{H:B}{s:am}{e:ac}
theorem aU.toSub(I:aU X aM σ H s):aU (X.sub e) aM σ H s :=
 ⟨⟨I.ok.mod,I.ok.kind,I.ok.glob,I.ok.blt,I.ok.above,I.ok.inj,I.ok.has,I.ok.cab,(),I.ok.frames,I.ok.stk,I.ok.exf,I.ok.bs,I.ok.bsz,I.ok.noex,I.ok.exfs,I.ok.funs,I.ok.frf⟩,I.os,I.bare,I.base,I.loc,I.cell,I.free,I.freeC,I.pin,I.hok,I.len⟩
theorem aU.ofSub{J:aU X aM σ H s}{σ':St}{H':B}(I:aU (X.sub e) aM σ' H' s'):aU X aM σ' H' s':=
 ⟨J.ok,I.os,I.bare,I.base,I.loc,I.cell,I.free,I.freeC,I.pin,I.hok,I.len⟩
end
abbrev EXK:=af->St->B->Prop
def PX(X:Cx)(aM:List (ac×Obj))(EX:EXK):af->am->Prop:=λev s'=>∃e cls σ s1 H1 H',ev=.ref e/\aU X aM σ H1 s1/\aU X aM σ H' s'/\XF s1.heap s'.heap H' e cls/\EX cls σ H'
def PEX(X:Cx)(ex:aD)(t:EXK->TE):Prop :=
 ∀(aM:List (ac×Obj)) (s:am) (σ:St) (H:B) (Q:VK) (EX:EXK),aU X aM σ H s->t EX σ H Q->Bf (Bg X.prog X.w) X.A (eval ex X.env) (EP X aM σ Q) (PX X aM EX) s
def PSX(X:Cx)(st:aC)(t:EXK->TS):Prop :=
 ∀(aM:List (ac×Obj)) (s:am) (σ:St) (H:B) (D:W3) (EX:EXK),aU X aM σ H s->t EX D σ H->Bf (Bg X.prog X.w) X.A (exec st X.env) (SP X aM D) (PX X aM EX) s
section
variable {X:Cx}{ex:aD}{tx:EXK->TE}{pos p1:Pos}{i:Nat}{y:Str}
def zha(tx:EXK->TE)(i:Nat)(EX:EXK):TS:=λD σ H=>tx EX σ H λv H1=>D.nx (σ.set i (aa v)) H1
theorem zga(hN:X.N.Nodup)(hi:X.N[i]?=aa y)(hx:Loc X.env.scope y)(he:PEX X ex tx)(hs:swapsWith ex (aa (.Name y pos')) pos.line X.env=pure aq:=by rfl)(hf:X.fn y=ah\/X.env.scope.names.lookup y=aa .local:=by first|exact .inl rfl|exact .inr rfl|assumption) :
  PSX X (.Assign [.Name y pos'] ex pos) (zha tx i):=by
 intro aM s σ H D EX I h;refine wpAny_Assign_Name (sr (he aM s σ H _ EX I h) λv s1 ⟨x,H1,I1,r1,q1⟩=>?_) hs;exact Vo I1 hN hi hx r1 (λs2 I2=>⟨_,H1,I2,q1⟩) hf
end
structure ExK(K:bw)(C:ac):Prop extends ExC K C where
 has:(W.clsIn K C).isSome=ah
theorem zp :xX (tQ P w) X E0:=λ_ _ _ _ _ _ _ h=>by
 obtain⟨_,_,_,_,_,_,_,_,_,z⟩:=h;exact z.elim
section
variable {P:ax}{w:aA}{K:bw}{mg:Str->Option af}{base:ay}
theorem Fun.ok1{x qual:Str}{st:aC}{f:ac}{fd:Bc}{N ps:List Str}{k:Nat}{sp:Sp}(F:Fun K x qual st f fd)(S:aR N ps (zg st))(len:∀vs H Q E,sp vs H Q E->vs.length=ps.length)
  (hbody:∀(cdv:af) (A:aB) (outer:List Env) (s:am) (H:B) (vs:List V) (Q:VK) (E:XK),sH k (A.deeper (envOfC qual (zg st) s.heap.objs.size f cdv))->sp vs H Q E ->
   ∃t,PSs (q8 (tQ P w) P w K mg base N qual (zg st) f cdv A outer s H E) (ym st) t/\t { nx:=λ_ H'=>Q .non H',rt:=Q } (start N vs) H):sD P w K mg base (tQ P w) (k+1) f fd ps sp:=by
 obtain⟨oc,od,kV,doc,pm,an,cdv,ct,osl,rfl,lk,hcd⟩:=F.ex;exact zg7 lk hcd S len λA outer s H vs Q E hr hsp=>hbody cdv A outer s H vs Q E hr hsp
theorem Fun.ok0{x qual:Str}{st:aC}{f:ac}{fd:Bc}{N ps:List Str}{k:Nat}{sp:Sp}(F:Fun K x qual st f fd)(S:aR N ps (zg st))(len:∀vs H Q E,sp vs H Q E->vs.length=ps.length)
  (hbody:∀(cdv:af) (A:aB) (outer:List Env) (s:am) (H:B) (vs:List V) (Q:VK) (E:XK),sH k (A.deeper (envOfC qual (zg st) s.heap.objs.size f cdv))->sp vs H Q E ->
   ∃t,PSs (q8 (tQ P w) P w K mg base N qual (zg st) f cdv A outer s H E).nox (ym st) t/\t { nx:=λ_ H'=>Q .non H',rt:=Q } (start N vs) H):sD P w K mg base (tQ P w) (k+1) f fd ps sp :=
 F.ok1 S len λcdv A outer s H vs Q E hr h=>let ⟨t,a,b⟩:=hbody cdv A outer s H vs Q E hr h;⟨t,a.nox,b⟩
end
theorem zir{l:pA}{n k:Nat}{q:ax}{loose:List Str}{XP:(Str->Option af)->ay->Prop}{YP:aA->ay->Prop}{d:DefRec}{K:Params->bw}{sp:bw->Sp}{x:Str}
  (hn:l.most=aa n) (hn2:n<=Bb) (hdf:d.params.defaults=[]) (hr:sH k callerA)
  (hY:∀(w:aA) (h:ay),YP w h->(K w.params).In h)
  (F:∀(w:aA) (mg:Str->Option af) (fa:ac) (h:ay),(K w.params).In h->h.Ns Bd mg->mg d.name=aa (.ref fa) ->
   ∃fd:Bc,(∀(s:am) (u:af),BindsTo s fd ⟨[u],[]⟩ [(x,u)]) /\
    ∀base:ay,(K w.params).In base->base.Ns Bd mg->sD l.prog w (K w.params) mg base (tQ l.prog w) k fa fd [x] (sp (K w.params)))
  (hsp:∀(K:bw) (H:B) (a:ac) (ns:List Int),ns.length<=n->zbI H->aY K H a (ns.map V.int)->sp K [.ref a] H (λv _=>v=.bl ah) λ_ _ _=>False) :
  sg q loose XP YP l.row.toRowW d [] (λf vs=>mK f vs) :=
 zcp (K:=K) (CX:=λw=>tQ l.prog w) (sp:=λw=>sp (K w.params)) hn hn2 hdf hr hY F (λw H a ns h1 h2 h3=>hsp (K w.params) H a ns h1 h2 h3) λ_ _ _ _ _ z=>by
  obtain⟨_,_,_,_,_,_,_,_,_,y⟩:=z;exact y
end L2
namespace L2
open PySem
section
variable {σ:St}{H:B}{nx:St->B->Prop}{Bo:V->St->B->(St->B->Prop)->Prop}
theorem VE{lo:Int}(Pv:Nat->St->B->Prop)(h0:Pv 0 σ H)(hs:∀i σ H,i<n->Pv i σ H->Bo (.int (lo+i)) σ H (Pv (i+1)))(hd:∀σ H,Pv n σ H->nx σ H) :
  ∃W:Nat->Nat->St->B->Prop,(∃m,W 0 m σ H)/\∀i m σ H,W i m σ H->((Itr lo n).stop i H/\nx σ H)\/((Itr lo n).go i H/\∃N:St->B->Prop,(∀σ' H',N σ' H'->∃m',m'<m/\W (i+1) m' σ' H')/\∀x H',(Itr lo n).yld i H x H'->Bo x σ H' N):=by
 refine⟨λi m σ H=>m=n-i/\i<=n/\Pv i σ H,⟨n,by simp,bW _,h0⟩,?_⟩;rintro i m σ H ⟨rfl,hi,p⟩;by_cases hlt:i<n
 ·refine .inr ⟨hlt,Pv (i+1),λσ' H' p'=>⟨n-(i+1),(),Y,hlt,p'⟩,?_⟩;rintro x H' ⟨rfl,rfl⟩;exact hs i σ _ hlt p
 ·obtain rfl:i=n:=by lia
  exact .inl ⟨bp _,hd σ H p⟩
theorem yv(xs:List V)(Pv:Nat->St->B->Prop)(h0:Pv 0 σ H)(hl:∀i σ H,Pv i σ H->aY K H a xs)(hs:∀i x σ H,xs[i]?=aa x->Pv i σ H->Bo x σ H (Pv (i+1)))(hd:∀σ H,Pv xs.length σ H->nx σ H) :
  ∃W:Nat->Nat->St->B->Prop,(∃m,W 0 m σ H)/\∀i m σ H,W i m σ H->((Itl K a).stop i H/\nx σ H)\/((Itl K a).go i H/\∃N:St->B->Prop,(∀σ' H',N σ' H'->∃m',m'<m/\W (i+1) m' σ' H')/\∀x H',(Itl K a).yld i H x H'->Bo x σ H' N):=by
 refine⟨λi m σ H=>m=xs.length-i/\i<=xs.length/\Pv i σ H,⟨xs.length,by simp,bW _,h0⟩,?_⟩;rintro i m σ H ⟨rfl,hi,p⟩;have q:=hl i σ H p;by_cases hlt:i<xs.length
 ·refine .inr ⟨⟨xs,xs[i],q,by simp[hlt]⟩,Pv (i+1),λσ' H' p'=>⟨xs.length-(i+1),(),Y,hlt,p'⟩,?_⟩;rintro x H' ⟨rfl,y⟩;exact hs i x σ _ (y xs q) p
 ·obtain rfl:i=xs.length:=by lia
  exact .inl ⟨⟨xs,q,bp _⟩,hd σ H p⟩
theorem zee(xs:List V)(Pv:Nat->St->B->Prop)(h0:Pv 0 σ H)(hl:∀i σ H,Pv i σ H->sI K H a xs)(hs:∀i x σ H,xs[i]?=aa x->Pv i σ H->Bo x σ H (Pv (i+1)))(hd:∀σ H,Pv xs.length σ H->nx σ H) :
  ∃W:Nat->Nat->St->B->Prop,(∃m,W 0 m σ H)/\∀i m σ H,W i m σ H->((Itt K a).stop i H/\nx σ H)\/((Itt K a).go i H/\∃N:St->B->Prop,(∀σ' H',N σ' H'->∃m',m'<m/\W (i+1) m' σ' H')/\∀x H',(Itt K a).yld i H x H'->Bo x σ H' N):=by
 refine⟨λi m σ H=>m=xs.length-i/\i<=xs.length/\Pv i σ H,⟨xs.length,by simp,bW _,h0⟩,?_⟩;rintro i m σ H ⟨rfl,hi,p⟩;have q:=hl i σ H p;by_cases hlt:i<xs.length
 ·refine .inr ⟨⟨xs,xs[i],q,by simp[hlt]⟩,Pv (i+1),λσ' H' p'=>⟨xs.length-(i+1),(),Y,hlt,p'⟩,?_⟩;rintro x H' ⟨rfl,y⟩;exact hs i x σ _ (y xs q) p
 ·obtain rfl:i=xs.length:=by lia
  exact .inl ⟨⟨xs,q,bp _⟩,hd σ H p⟩
end
theorem zef{J:It}{D:ac}{τ₀:St}{H1:B}{Q:B->Prop}{Bo:V->St->B->(V->St->B->Prop)->(St->B->Prop)->Prop}(n:Nat)(hn:n<=1000000)(C:St->Prop)(R:Nat->V->Prop)(hC:C τ₀)
  (go:∀i H,aP H1 H->i<n->J.go i H) (stop:∀H,aP H1 H->J.stop n H) (hD:H1 D=ao)
  (hs:∀i x τ H H',C τ->aP H1 H->i<n->J.yld i H x H'->Bo x τ H' (λv τ' H4=>C τ'/\R i v/\aP H H4) (λ_ _=>False))
  (hd:∀ys H,ys.length=n->(∀i v,ys[i]?=aa v->R i v)->aP H1 H->H D=aa (.lst ys)->Q H) :
  ∃W:Nat->Nat->List V->St->B->Prop,(∃m,W 0 m [] τ₀ (upd H1 D (.lst [])))/\∀i m ys τ H,W i m ys τ H->H D=aa (.lst ys) /\
  ((J.stop i H/\Q H)\/(J.go i H/\ys.length<Bb/\∃N:V->St->B->Prop,
   (∀v τ' H',N v τ' H'->H' D=aa (.lst ys)/\∃m',m'<m/\W (i+1) m' (ys++[v]) τ' (upd H' D (.lst (ys++[v]))))/\∃Nf:St->B->Prop,(∀τ' H',Nf τ' H'->∃m',m'<m/\W (i+1) m' ys τ' H') /\
   ∀x H',J.yld i H x H'->Bo x τ H' N Nf)):=by
 have ext:∀ {H:B} {o:HO},aP H1 H->aP H1 (upd H D o):=λ{H o} h b u e=>by
  rw[zh (zo e hD)];exact h b u e
 refine⟨λi m ys τ H=>m=n-i/\i<=n/\ys.length=i/\(∀j v,ys[j]?=aa v->R j v)/\aP H1 H/\H D=aa (.lst ys)/\C τ,⟨n,by simp,bW _,Y,by simp,ext (aP.refl _),ze,hC⟩,?_⟩;rintro i m ys τ H ⟨rfl,hi,hl,hR,hS,hy,hc⟩;refine⟨hy,?_⟩;by_cases hlt:i<n
 ·refine .inr ⟨go i H hS hlt,bZ (by lia:ys.length<=1000000) (),(λv τ' H4=>C τ'/\R i v/\aP H H4),?_,(λ_ _=>False),λ_ _ z=>z.elim,λx H' y=>hs i x τ H H' hc hS hlt y⟩;rintro v τ' H4 ⟨c4,r4,s4⟩;refine⟨s4 _ _ hy,n-(i+1),(),Y,hlt,by simp[hl],λj u hj=>?_,ext (hS.trans s4),ze,c4⟩;rcases Nat.lt_trichotomy j ys.length with h|h|h
  ·exact hR j u (by rwa [dq h] at hj)
  ·subst h;simp at hj;subst hj;rw[hl];exact r4
  ·rw[cN (by simp;lia)] at hj;cases hj
 ·obtain rfl:i=n:=by lia
  exact .inl ⟨stop H hS,hd ys H hl hR hS hy⟩
theorem Qb(n d:Nat)(v:Int):max (0:Int) (min (if v<0 then v+n else v) n)=((HT.sIx n d (aa v):Nat):Int):=by
 show _=(((if v<0 then (v+(n:Int)).toNat else min v.toNat n):Nat):Int);by_cases hv:v<0
 ·simp only[au hv];lia
 ·simp only[ap hv];lia
theorem zgb(a b:Nat):sliceRange (a:Int) (b:Int) 1=(dL (b-a)).map λk=>a+k:=by
 simp only[sliceRange,show ((1:Int) > 0)=True from by simp,if_true];by_cases hlt:(a:Int)<b
 ·have e3:(((b:Int)-a+1-1)/1).toNat=b-a:=by rw[Int.ediv_one];lia
  simp only[hlt,if_true,e3];refine dO λk _=>?_;lia
 ·have:b-a=0:=by lia
  simp[hlt,this]
theorem zeg(lo hi:Option Int)(n:Nat):lN lo hi 1 n=(dL (HT.sIx n n hi-HT.sIx n 0 lo)).map λk=>HT.sIx n 0 lo+k:=by
 rw[<-zgb];unfold lN;simp only[show ((1:Int) > 0)=True from by simp,if_true];cases lo with
 |none =>
  cases hi with
  |none=>rfl
  |some v=>simp only[Qb n n v];rfl
 |some u =>
  cases hi with
  |none=>simp only[Qb n 0 u];rfl
  |some v=>simp only[Qb n n v,Qb n 0 u]
theorem J8(x:Str)(lo hi:Option Int):(gP x lo hi).cps.toList=(x.cps.toList.drop (HT.sIx x.length 0 lo)).take (HT.sIx x.length x.length hi-HT.sIx x.length 0 lo):=by
 have hb:=HT.sIx_le x.length x.length (bp _) hi;have hn:x.cps.toList.length=x.length:=by simp[iI]
 unfold gP;rw[zeg];split
 ·rename_i h;have h':HT.sIx x.length x.length hi-HT.sIx x.length 0 lo=x.length:=by simpa using h
  have e0:HT.sIx x.length 0 lo=0\/x.length=0:=by lia
  rcases e0 with e0|e0
  ·rw[e0,iP,cP];lia
  ·rw[fW (by lia:x.cps.toList.length=0)];simp
 ·by_cases hab:HT.sIx x.length 0 lo<=HT.sIx x.length x.length hi
  ·have h:=StrLaws.picks x.cps.toList (HT.sIx x.length x.length hi-HT.sIx x.length 0 lo) (HT.sIx x.length 0 lo) ();simpa using h
  ·have:HT.sIx x.length x.length hi-HT.sIx x.length 0 lo=0:=by lia
   rw[this];simp
theorem VF(x:Str)(k:Nat):(gP x (aa (k:Int)) ao).cps.toList=x.cps.toList.drop k:=by
 rw[J8,HT.sIx_none,HT.sIx_nat];have hn:x.cps.toList.length=x.length:=by simp[iI]
 by_cases h:k<=x.length
 ·rw[eL h,cP (by rw[cT];lia)]
 ·rw[nP (by lia:x.cps.toList.length<=k),lh (),nP ()];simp
theorem zar(x:Str)(k:Nat):(gP x ao (aa (k:Int))).cps.toList=x.cps.toList.take k:=by
 rw[J8,HT.sIx_none,HT.sIx_nat,iP,rc];have hn:x.cps.toList.length=x.length:=by simp[iI]
 by_cases h:k<=x.length
 ·rw[eL h]
 ·rw[lh (),cP (),cP ()]
theorem zgc{x y:Str}(h:x.cps.toList=y.cps.toList):x=y:=by
 obtain⟨a⟩:=x;obtain⟨b⟩:=y;have:a=b:=nH.mp h;rw[this]
theorem zgd(x y:Str):(x++y).cps.toList=x.cps.toList++y.cps.toList:=by
 show (x.cps++y.cps).toList=_;simp
open PySem.NumText in
section
def ziS(w:Int):Str:=bb (toString w)
def dg(m:Nat):List Nat:=(Nat.toDigits 10 m).map Char.toNat
theorem Xt(x:Str):x.length=x.cps.toList.length:=by simp[iI]
def inF(c:Nat):Bool:=!(iq "0123456789" ⟨#[c]⟩ 0 (iI "0123456789") 1).isEmpty
def zis(x:Str):Bool:=!decide (x="")&&x.cps.toList.all inF
def sQ(i:Int):Bool:=decide (-1000000000000000000000000000000<=i/\i<=1000000000000000000000000000000)
def zhb(x:Str):Str:=if (x.cps.toList.take 1==[45])=ah then gP x (aa 1) ao else x
def zeh(x:Str):Int:=(intText? x).getD 0
def zit(x:Str):Bool:=!(decide (31<(zhb x).length) || !zis (zhb x))&&(sQ (zeh x)&&decide (ziS (zeh x)=x))
end
end L2
namespace L2
open PySem PySem.Spec PyProof.Rows
def zcx(x y:Str):Int:=match iq x y 0 x.length 1 with|i::_=>(i:Int)|[]=>-1
abbrev Wj:RM:=λx xs H Q=>∃a b,x=.str a/\xs=[.str b]/\Q (.int (zcx a b)) H
def J9(sep:Str):List Str->Str
 |[p]=>p
 |l=>mP sep l
def zei(sep:Str)(ls:List Str):Nat:=ls.foldl (λn p=>n+p.length+sep.length) 0
abbrev Wk(K:bw):RM:=λx xs H Q=>∃sep a ls,x=.str sep/\xs=[.ref a]/\aY K H a (ls.map V.str)/\zei sep ls<=Bb/\Q (.str (J9 sep ls)) H
theorem Qc(sep:Str):∀(ls:List Str) (k:Nat),ls.foldl (λn p=>n+p.length+sep.length) k=k+(ls.map (·.length)).sum+ls.length*sep.length
 |[],k=>by simp
 |p::r,k=>by
  rw[eZ,Qc sep r,bx,cQ,bY,Nat.add_mul,Nat.one_mul];lia
theorem zdm(sep:Str)(ls:List Str):(J9 sep ls).length<=zei sep ls:=by
 unfold zei;rw[Qc];have g:(mP sep ls).length<=0+(ls.map (·.length)).sum+ls.length*sep.length:=by
  rw[size_glued];have:(ls.length-1)*sep.length<=ls.length*sep.length:=Nat.mul_le_mul_right _ ();lia
 unfold J9;split
 ·simp only[bx,n0,cQ,List.sum_nil,bY,nY];lia
 ·exact g
theorem zej(ls:List Str):(J9 "" ls).cps.toList=(ls.map λp=>p.cps.toList).flatten:=by
 have g:∀(r:List Str) (a:Array Nat),(r.foldl (λacc p=>acc++(bb "").cps++p.cps) a).toList=a.toList++(r.map λp=>p.cps.toList).flatten:=by
  intro r;induction r with
  |nil=>intro a;simp
  |cons p r ih =>
   intro a;have e:(bb "").cps=#[]:=by lia
   rw[eZ,ih,e];simp
 unfold J9;split
 ·simp
 ·unfold mP;cases ls with
  |nil=>lia
  |cons p r=>exact g r p.cps
theorem Ka:∀ {ls:List Str} {us:List af},aX (ls.map V.str) us->∃l:List (Str×Tok),us=strValues l/\l.map (·.1)=ls
 |[],_,.nil=>⟨[],Y,Y⟩
 |x::r,_,.cons h t=>by
  obtain⟨l,rfl,e⟩:=Ka t;obtain⟨k,rfl⟩:=h;exact⟨(x,k)::l,Y,by rw[bx,e]⟩
section
variable {X:Cx}
theorem zge:MtR X "str.find" Wj:=by
 intro aM s σ H x xs v us Q I rx rs h;obtain⟨a,b,rfl,rfl,q⟩:=h;obtain⟨t,rfl⟩:=rx;obtain⟨u,rfl,t',rfl⟩:=jF rs;exact call_gives F.slot_str_find (oz s a t) F.entry_str_find (F.args_str_find_2 _ _) (gives_str_find a b t t') ⟨.int (zcx a b),H,I.tok _,⟨_,Y⟩,q⟩
theorem zgf:MtR X "str.join" (Wk X.K):=by
 intro aM s σ H x xs v us Q I rx rs h;obtain⟨sep,a,ls,rfl,rfl,hq,hl,q⟩:=h;obtain⟨t,rfl⟩:=rx;obtain⟨u,rfl,r1⟩:=jF rs;cases r1;obtain⟨its,rv,p,hz⟩:=I.list hq;obtain⟨l,rfl,e⟩:=Ka rv;have tl:oQ ((l.map (·.1)).toArray.foldl (· + ·.length+sep.length) 0)=aq:=by
  rw[e,List.foldl_toArray];unfold oQ;exact Bk (by unfold zei at hl;lia)
 have jl:=zdm sep ls;refine iJ F.slot_str_join (oz s sep t) F.entry_str_join (F.args_str_join_2 _ _) (meets_str_join_list sep t a l tl) ⟨p.isList,?_⟩;subst e
 match l,q,jl,hl with
 |[],q,jl,hl=>exact⟨bP jl hl,.str _,H,I.tok _,⟨_,Y⟩,q⟩
 |[p],q,jl,hl=>exact⟨.str p.1,H,I,⟨_,Y⟩,q⟩
 |p::p'::r,q,jl,hl=>exact⟨bP jl hl,.str _,H,I.tok _,⟨_,Y⟩,q⟩
end
theorem vO(x y:Str):(x++y).length=x.length+y.length:=mO x y
def zhc(_ j:Int):Prop:=j≠0/\-big<j/\j<big
section
variable {X:Cx}
theorem zek:tE X (binaryOp .FloorDiv) (rI zhc λi j=>.int (i.fdiv j)):=opI λi j _ _ _ _ _ hc q =>
 floordiv_int hc.1 q (.inl (mM (p9 (VC (K9 hc.2)) ())))
abbrev zhd:RC:=λxs H Q=>∃b:Bool,xs=[.bl b]/\Q (.int (if b then 1 else 0)) H
theorem zas:jE X (.type "int") zhd:=by
 intro aM s σ H xs us Q I r h;obtain⟨b,rfl,q⟩:=h;obtain⟨u,rfl,r1⟩:=jF r;cases r1;exact call_int_bool ⟨.int _,H,I.tok _,⟨_,Y⟩,q⟩
end
theorem zdn(r:sH k A):A.units+64<cLine:=by have:=r.un;lia
def q9:V->PyData
 |.non=>.none
 |.bl b=>.bool b
 |.int i=>.int i
 |.str x=>.str x
 |_=>.none
def yD:V->Bool
 |.non=>ah
 |.bl _=>ah
 |.int _=>ah
 |.str x=>cr x
 |_=>aq
theorem Asc.flat(h:Asc x):yD (.str x)=ah:=by
 unfold yD cr;rw[Array.all_eq_true];intro i hi;have:=h x.cps[i] (by simp);exact Bj ()
def zhG:V->V->Bool
 |.bl _,.int _=>aq
 |.int _,.bl _=>aq
 |_,_=>ah
def Qd:List V->List V->Bool
 |x::xs,y::ys=>zhG x y&&Qd xs ys
 |_,_=>ah
theorem v3:∀ {xs:List V} {us:List af},xs.all yD=ah->aX xs us->CarriedAll us (xs.map q9)
 |[],_,_,.nil=>.nil
 |x::r,_,h,.cons rx t=>by
  rw[gD,b6] at h;refine .cons ?_ (v3 h.2 t);cases x with
  |non=>cases rx;exact .none
  |bl b=>cases rx;exact .bool b
  |int i=>obtain⟨t,rfl⟩:=rx;exact .int i t
  |str x=>obtain⟨t,rfl⟩:=rx;exact .str x t
  |byt b=>exact absurd h.1 (by simp[yD])
  |flt b=>exact absurd h.1 (by simp[yD])
  |ref a=>exact absurd h.1 (by simp[yD])
  |ty n=>exact absurd h.1 (by simp[yD])
theorem zel(hx:yD x=ah)(hy:yD y=ah):rR (q9 x) (q9 y)=decide (x=y):=by
 cases x <;> cases y <;> simp_all [yD,q9,rR] <;> (rename_i a b;by_cases e:a=b <;> simp[e])
theorem Zi:∀ {xs ys:List V},xs.all yD=ah->ys.all yD=ah->mo (xs.map q9) (ys.map q9)=decide (xs=ys)
 |[],[],_,_=>by simp[mo]
 |[],_::_,_,_=>by simp[mo]
 |_::_,[],_,_=>by simp[mo]
 |x::r,y::t,hx,hy=>by
  rw[gD,b6] at hx hy;rw[bx,bx,mo,zel hx.1 hy.1,Zi hx.2 hy.2];by_cases a:x=y <;> by_cases b:r=t <;> simp[a,b]
theorem zdo(hx:yD x=ah)(hy:yD y=ah)(h:zhG x y=ah):oR (q9 x) (q9 y)=ah:=by
 cases x <;> cases y <;> simp_all [yD,q9,oR,zhG]
theorem qk:∀ {xs ys:List V},xs.all yD=ah->ys.all yD=ah->Qd xs ys=ah->iQ (xs.map q9) (ys.map q9)=ah
 |[],[],_,_,_=>by simp[iQ]
 |[],_::_,_,_,_=>by simp[iQ]
 |_::_,[],_,_,_=>by simp[iQ]
 |x::r,y::t,hx,hy,h=>by
  rw[gD,b6] at hx hy;rw[Qd,b6] at h;rw[bx,bx,iQ,zdo hx.1 hy.1 h.1,qk hx.2 hy.2 h.2];rfl
theorem ql{xs:List V}(h:xs.all yD=ah):iX (.list (xs.map q9))=ah/\iX (.tuple (xs.map q9))=ah:=by
 have a:∀x,yD x=ah->(q9 x).canLay0=ah/\(q9 x).depth=0:=λx=>by cases x <;> simp[q9,fu,mq,yD]
 have l:∀ys:List V,ys.all yD=ah->gF (ys.map q9)=ah/\gu (ys.map q9)=0:=by
  intro ys;induction ys with
  |nil=>exact λ_=>⟨Y,Y⟩
  |cons y r ih =>
   intro h;rw[gD,b6] at h;exact⟨by rw[bx,gF,(a y h.1).1,(ih h.2).1];rfl,by rw[bx,gu,(a y h.1).2,(ih h.2).2];rfl⟩
 exact⟨by simp[iX,fu,mq,(l xs h).1,(l xs h).2],by simp[iX,fu,mq,(l xs h).1,(l xs h).2]⟩
abbrev ziu(K:bw)(neg:Bool):R2:=λx y H Q=>∃a b xs ys,x=.ref a/\y=.ref b/\aY K H a xs/\aY K H b ys/\(xs.all yD=ah/\ys.all yD=ah/\Qd xs ys=ah)/\Q (.bl (if neg then !decide (xs=ys) else decide (xs=ys))) H
section
variable {X:Cx}
theorem zhH(hu:X.A.units+64<cLine):tE X (Bi .Eq) (ziu X.K aq):=by
 intro aM s σ H x y v u Q I rx ry h;obtain⟨a,b,xs,ys,rfl,rfl,ha,hb,⟨f1,f2,f3⟩,q⟩:=h;cases rx;cases ry;obtain⟨us,r1,p1,_⟩:=I.list ha;obtain⟨ws,r2,p2,_⟩:=I.list hb;refine eq_dataH_same (m8 p1.isList (v3 f1 r1)) (m8 p2.isList (v3 f2 r2)) (ql f1).1 (ql f2).1 hu (by rw[oR];exact qk f1 f2 f3) ?_;rw[rR,Zi f1 f2];exact⟨.bl _,H,I,Y,q⟩
theorem zhI(hu:X.A.units+64<cLine):tE X (Bi .NotEq) (ziu X.K ah):=by
 intro aM s σ H x y v u Q I rx ry h;obtain⟨a,b,xs,ys,rfl,rfl,ha,hb,⟨f1,f2,f3⟩,q⟩:=h;cases rx;cases ry;obtain⟨us,r1,p1,_⟩:=I.list ha;obtain⟨ws,r2,p2,_⟩:=I.list hb;refine ne_dataH_same (m8 p1.isList (v3 f1 r1)) (m8 p2.isList (v3 f2 r2)) (ql f1).1 (ql f2).1 hu (by rw[oR];exact qk f1 f2 f3) ?_;rw[rR,Zi f1 f2];exact⟨.bl _,H,I,Y,q⟩
abbrev Qe(K:bw):R2:=λx y H Q=>∃a b xs,x=.ref a/\y=.ref b/\aY K H a xs/\aY K H b []/\Q (.bl (decide (xs=[]))) H
theorem zat(hu:X.A.units+64<cLine):tE X (Bi .Eq) (Qe X.K):=by
 intro aM s σ H x y v u Q I rx ry h;obtain⟨a,b,xs,rfl,rfl,ha,hb,q⟩:=h;by_cases e:xs=[]
 ·subst e;exact zhH hu aM s σ H _ _ v u Q I rx ry ⟨a,b,[],[],Y,Y,ha,hb,⟨Y,Y,Y⟩,q⟩
 ·cases rx;cases ry;obtain⟨us,r1,p1,_⟩:=I.list ha;obtain⟨ws,r2,p2,_⟩:=I.list hb;cases r2;have e1:=r1.length;have e2:xs.length≠0:=λz=>e (fW z);refine PySem.SeqAt.eq_list_lengthsAt p1.isList p2.isList (by simp;intro z;rw[z] at e1;exact e2 e1) () ?_;rw[Bk e] at q;exact⟨.bl aq,H,I,Y,q⟩
end
abbrev ya:RM:=Vj
abbrev Zj:RM:=zf3
def jw:List V:=[.str "plus",.str "minus",.str "times",.str "over",.str "rest",.str "under",.str "same"]
def isJ(v:V):Bool:=inV v jw
inductive Er where
 |nought|great|stuck
 deriving DecidableEq
def jI(w:Str)(a b:Int):Int :=
 if w="plus" then a+b else if w="minus" then a-b else if w="times" then a*b else if w="under" then (if a<b then 1 else 0) else if w="same" then (if a=b then 1 else 0) else if w="over" then a.fdiv b else a.fmod b
def VG(w:Str):Prop:=¬ w="plus"/\¬ w="minus"/\¬ w="times"/\¬ w="under"/\¬ w="same"
instance (w:Str):Decidable (VG w):=by unfold VG;infer_instance
def v6(w:Str)(a b:Int):Except Er Int:=if VG w/\b=0 then .error .nought else if sQ (jI w a b)=ah then .ok (jI w a b) else .error .great
def zbK(aO:List (bv×V)):V->Int
 |.int i=>i
 |.str x=>(match zS aO (.inr x) with|some (.int i)=>i|_=>0)
 |_=>0
def wF(aO:List (bv×V))(st:List Int)(v:V):Except Er (List Int) :=
 if isJ v=ah then (match v,st.reverse with|.str w,b::a::r=>(match v6 w a b with|.ok c=>.ok (r.reverse++[c])|.error e=>.error e)|_,_=>.error .stuck) else .ok (st++[zbK aO v])
def ve(aO:List (bv×V)):List V->List Int->Except Er (List Int)
 |[],st=>.ok st
 |v::r,st=>match wF aO st v with|.ok st'=>ve aO r st'|.error e=>.error e
section
variable {aO:List (bv×V)}
theorem Zk:∀(p q:List V) (st:List Int),ve aO (p++q) st=match ve aO p st with|.ok st'=>ve aO q st'|.error e=>.error e
 |[],q,st=>rfl
 |v::r,q,st=>by
  show (match wF aO st v with|.ok st'=>ve aO (r++q) st'|.error e=>.error e)=match (match wF aO st v with|.ok st'=>ve aO r st'|.error e=>.error e) with|.ok st'=>ve aO q st'|.error e=>.error e
  cases wF aO st v with
  |error e=>rfl
  |ok st'=>exact Zk r q st'
def Good(aO:List (bv×V))(ps:List V)(r:Except Er Int):Prop:=(∀st,ve aO ps st=match r with|.ok i=>.ok (st++[i])|.error e=>.error e)/\r≠.error .stuck
theorem zdp(h:isJ v=aq):Good aO [v] (.ok (zbK aO v)):=by
 refine⟨λst=>?_,λz=>nomatch z⟩;unfold ve wF;rw[h,ap ()];rfl
def zhe(w:Str)(r1 r2:Except Er Int):Except Er Int:=match r1 with|.error e=>.error e|.ok a=>match r2 with|.error e=>.error e|.ok b=>v6 w a b
theorem zem(w:Str)(a b:Int):v6 w a b≠.error .stuck:=by
 unfold v6;split
 ·exact λz=>nomatch z
 ·split <;> exact λz=>nomatch z
theorem zdq{r1 r2:Except Er Int}(hw:isJ (.str w)=ah)(g1:Good aO p1 r1)(g2:Good aO p2 r2):Good aO (p1++p2++[.str w]) (zhe w r1 r2):=by
 refine⟨λst=>?_,?_⟩
 ·rw[Zk,Zk,g1.1];cases r1 with
  |error e=>rfl
  |ok a =>
   show (match ve aO p2 (st++[a]) with|.ok st'=>ve aO [.str w] st'|.error e=>.error e)=_;rw[g2.1];cases r2 with
   |error e=>rfl
   |ok b =>
    show ve aO [.str w] (st++[a]++[b])=match v6 w a b with|.ok i=>.ok (st++[i])|.error e=>.error e
    unfold ve wF;rw[hw,au rfl];simp only[oS,pR,rE,dh,cL,cU];cases v6 w a b with
    |error e=>rfl
    |ok c=>simp[ve]
 ·unfold zhe;cases r1 with
  |error e=>exact g1.2
  |ok a =>
   cases r2 with
   |error e=>exact g2.2
   |ok b=>exact zem w a b
theorem zcy{st:List Int}(h:ve aO (ps.take i) st=.error e):ve aO ps st=.error e:=by
 have:=Zk (aO:=aO) (ps.take i) (ps.drop i) st;rw[fm,h] at this;exact this
theorem zgg{ps:List V}{i:Nat}{st st0:List Int}(h:ve aO (ps.take i) st0=.ok st)(hv:ps[i]?=aa v):ve aO (ps.take (i+1)) st0=wF aO st v:=by
 rw[dt,hv];show ve aO (ps.take i++[v]) st0=_;rw[Zk,h];show (match wF aO st v with|.ok st'=>ve aO [] st'|.error e=>.error e)=_;cases wF aO st v <;> rfl
end
def qm(v:V):Prop:=(∃i,v=.int i/\sQ i=ah)\/∃x:Str,v=.str x/\x.length<=1000
def yS(aO:List (bv×V)):Prop:=∀k v,zS aO k=aa v->∃i,v=.int i/\sQ i=ah
theorem zau(h:yS aO)(hv:qm v):sQ (zbK aO v)=ah:=by
 rcases hv with ⟨i,rfl,hi⟩|⟨x,rfl,_⟩
 ·exact hi
 ·show sQ (match zS aO (.inr x) with|some (.int i)=>i|_=>0)=ah;cases e:zS aO (.inr x) with
  |none=>rfl
  |some u =>
   obtain⟨i,rfl,hi⟩:=h _ _ e;exact hi
theorem tT{i:Int}:sQ i=ah↔-1000000000000000000000000000000<=i/\i<=1000000000000000000000000000000:=by unfold sQ;rw[decide_eq_true_eq]
theorem Qf{i:Int}(h:sQ i=ah):-big<i/\i<big:=by
 have:=tT.mp h;have hb:(1000000000000000000000000000001:Int)<big:=by lia
 lia
abbrev zen(K:bw):RC:=λxs H Q=>∃p ys,xs=[.ref p]/\(aY K H p ys\/sI K H p ys)/\∀l,H l=ao->Q (.ref l) (upd H l (.lst ys))
def inL(c:Nat):Bool:=!(iq "abcdefghijklmnopqrstuvwxyz" ⟨#[c]⟩ 0 (iI "abcdefghijklmnopqrstuvwxyz") 1).isEmpty
def wl:List V:=[.str "take",.str "give",.str "let",.str "say",.str "off",.str "if",.str "else",.str "end",.str "as"]
def yE(x:Str):Bool:=!(decide (x="") || decide (6<x.length)) && !(inV (.str x) jw || inV (.str x) wl)&&x.cps.toList.all inL
theorem zgh(c:Nat):inL c=ah->97<=c/\c<=122:=by
 unfold inL;rw[StrLaws.found_one,decide_eq_true_eq];exact(by lia:∀c∈(bb "abcdefghijklmnopqrstuvwxyz").cps.toList,97<=c/\c<=122) c
theorem Xu(h:yE x=ah):x.cps.toList≠[]/\x.length<=6/\isJ (.str x)=aq/\x.cps.toList.all inL=ah:=by
 unfold yE at h;rw[b6,b6,dU,dU,lq,lq,decide_eq_false_iff_not,decide_eq_false_iff_not] at h;refine⟨λz=>h.1.1.1 (zgc (by rw[z];lia)),(),h.1.2.1,h.2⟩
def zeo(w:Str):Option V:=if yE w=ah then aa (.str w) else if zit w=ah then aa (.int (zeh w)) else ao
inductive Tw where
 |leaf (w:Str)|node (w:Str) (a b:Tw)
def pre:Tw->List Str
 |.leaf w=>[w]
 |.node w a b=>w::(pre a++pre b)
def wfT:Tw->Prop
 |.leaf w=>isJ (.str w)=aq
 |.node w a b=>isJ (.str w)=ah/\wfT a/\wfT b
def okT:Tw->Bool
 |.leaf w=>(zeo w).isSome
 |.node _ a b=>okT a&&okT b
def pvw(w:Str):V:=(zeo w).getD (.str w)
def pst:Tw->List V
 |.leaf w=>[pvw w]
 |.node w a b=>pst a++pst b++[.str w]
def ziv:List Str->Nat->Option Nat
 |_,0=>aa 0
 |[],_+1=>ao
 |w::r,d+1=>(ziv r (if isJ (.str w)=ah then d+2 else d)).map (· + 1)
def yY(st:List (List V))(w:Str):Except Bool (List (List V)) :=
 if isJ (.str w)=ah then (match st.reverse with|a::b::r=>.ok (r.reverse++[a++b++[.str w]])|_=>.error aq) else (match zeo w with|some v=>.ok (st++[[v]])|none=>.error ah)
def zbL:List Str->List (List V)->Except Bool (List (List V))
 |[],st=>.ok st
 |w::r,st=>match yY st w with|.ok st'=>zbL r st'|.error e=>.error e
theorem zep:∀(p q:List Str) (st:List (List V)),zbL (p++q) st=match zbL p st with|.ok st'=>zbL q st'|.error e=>.error e
 |[],q,st=>rfl
 |v::r,q,st=>by
  show (match yY st v with|.ok st'=>zbL (r++q) st'|.error e=>.error e)=match (match yY st v with|.ok st'=>zbL r st'|.error e=>.error e) with|.ok st'=>zbL q st'|.error e=>.error e
  cases yY st v with
  |error e=>rfl
  |ok st'=>exact zep r q st'
theorem zbM :Be (.Constant c j p::es) env=(aq,eval (.Constant c j p) env)::Be es env:=by
 first|rfl|simp only[Be]
theorem qo{t:TA}(hr:PA X es t):PA X (.Constant (.str x) j p::es) (Z (L (.str x)) t):=zd yI hr zbM
section
variable {X:Cx}
theorem zeq{aO:List (bv×V)}{k:bv}(h:zS aO k=aa v):∃p∈aO,p.2=v:=by
 unfold zS at h;obtain⟨p,hp,e⟩:=b8.mp h;exact⟨p,List.mem_of_find?_eq_some hp,e⟩
end
theorem zer(h:yE x=ah):Asc x:=λc hc=>by
 have:=zgh c (List.all_eq_true.mp (Xu h).2.2.2 c hc);lia
section
variable {P:ax}{w:aA}{A:aB}{E:af->am->Prop}{s:am}
theorem zes{Q:af->am->Prop}(hi:s.heap.IsTupleIter it tp i)(ht:s.heap.IsTuple tp xs)
  (yes:∀x h,xs[i]?=aa x->h.IsTupleIter it tp (i+1)->cS it s.heap h->Q x { s with heap:=h })
  (no:xs[i]?=ao->A.handled=ao/\∀h e,rS it s.heap h->(∃o,h.get? e=aa o/\o.cls=.type "StopIteration")->E (.ref e) { s with heap:=h }) :
  Bf (Bg P w) A (eE (.ref it)) Q E s:=by
 obtain⟨o,ho,hc,hd⟩:=id hi;obtain⟨q,hq,_,n,hq2⟩:=ht;unfold eE;refine ba (cW (name:=bb "__next__") hi.typeIs lY (cV lY hi.typeIs F.entry_tuple_iterator_next ?_ (F.args_tuple_iterator_next_1 _)));show Bf _ _ (field (.ref it) 0 >>= _) _ _ s;refine ba (dP ho hd (x:=.ref tp) Y ?_);show Bf _ _ (if (bK tp==cR)=ah then _ else _) _ _ s;rw[ap (show ¬ ((bK tp==cR)=ah) from bM)];show Bf _ _ (field (.ref it) 1 >>= _) _ _ s;refine ba (dP ho hd (x:=.int i 0) Y ?_);show Bf _ _ (seqItems? (.ref tp) >>= _) _ _ s;refine ba (fA hq hq2 ?_);cases hx:xs[i]? with
 |some x =>
  simp only[eC,hx];refine ba (iR ho hd (by simp) (bf ⟨x,Y,bf (yes x _ hx ?_ (df ..))⟩));refine⟨_,eM _ ho (og (ir hd _)),(pS ..).trans hc,?_⟩;rw[ir hd];simp[rawInt]
 |none =>
  obtain⟨hh,no⟩:=no hx;simp only[eC,hx];refine ba (lI (ba (iR ho hd (by simp) ?_)));show Bf _ _ (newExc (.type "StopIteration") [] >>= _) _ _ _;refine ba ?_;simp only[newExc,newTuple];refine ba (c8 ?_ (by size_fits));refine ba (m:=firstArgMember _ _) (wpAny_of_eq (a:=cR) (by first|rfl|(simp only[firstArgMember];rfl)) ?_);refine c8 ?_ (by size_fits);simp only[raiseNew];refine ba (pC ?_);first|rw[show A.in1.handled=ao from hh]|rw[hh]
  refine ba (bf (wpAny_throw ?_));exact no _ _ (((df ..).extBut.push _).push _) ⟨_,bG _ Y,Y⟩
end
section
variable {P:ax}{w:aA}{A:aB}{E:af->am->Prop}{s:am}
structure Wl(z a b i j p q:ac):Prop where
 az:a≠z
 bz:b≠z
 iz:i≠z
 jz:j≠z
 ab:a≠b
 ai:a≠i
 aj:a≠j
 bi:b≠i
 bj:b≠j
 ij:i≠j
 pz:p≠z
 pb:p≠b
 pi:p≠i
 pj:p≠j
 qz:q≠z
 qb:q≠b
 qi:q≠i
 qj:q≠j
def ZT(z a b i j p q:ac)(k:Nat)(h:ay):Prop:=IsZip h z a b .none/\IsPair h a (.ref i) (.ref j)/\(∃u v,IsPair h b u v)/\h.IsTupleIter i p k/\h.IsTupleIter j q k
theorem zdr{Q:af->am->Prop}(D:Wl z a b i j p q)(st:ZT z a b i j p q k s.heap)
  (hp:s.heap.IsTuple p xs) (hq:s.heap.IsTuple q ys) (hx:xs[k]?=aa x) (hy:ys[k]?=aa y)
  (cont:∀g h,(∀c o,c ∉ [z,b,i,j]->s.heap.get? c=aa o->g.get? c=aa o)->g.objs.size=s.heap.objs.size->IsPair g b x y->g.IsTupleIter i p (k+1)->g.IsTupleIter j q (k+1) ->
   cS z (g.push { cls:=.type "tuple",data:=.seq #[x,y] }) h->IsZip h z a b (rawInt g.objs.size)->Q (.ref g.objs.size) { s with heap:=h }) :
  Bf (Bg P w) A (Builtin.«zip.__next__» ⟨[.ref z],[]⟩) (λr s'=>∃v,r=.done (.ret v)/\Q v s') E s:=by
 obtain⟨hz,ha,⟨u,v,hb⟩,hi,hj⟩:=st;show Bf _ _ (field (.ref z) 2 >>= _) _ _ _;refine ba (dP hz Y (x:=.bool aq) Y ?_);show Bf _ _ (field (.ref z) 3 >>= _) _ _ _;refine ba (dP hz Y (x:=.ref a) Y ?_);refine ba (fA ha Y ?_);show Bf _ _ (dQ (.ref z) >>= _) _ _ _;refine ba ?_;unfold dQ;refine ba (dP hz Y (x:=.none) Y (bf ?_));simp only[if_true];refine ba (lI ?_);refine ba (dP hz Y (x:=.ref b) Y ?_);refine ba (da hz (by simp) λg1 z1 r1=>?_);replace z1:IsZip g1 z a b .ellipsis:=z1;refine ba ?_;simp only[rF,rT,n9,List.forIn_nil];refine ba (ba (pD ?_));show Bf _ _ (eE (.ref i) >>= _) _ _ _;refine ba (zes (hi.extBut r1.extBut D.iz) (hp.extBut r1.extBut D.pz) (λx' g2 ex i2 r2=>bf ?_) λex=>by rw[hx] at ex;cases ex);obtain rfl:x'=x:=bL (ex.symm.trans hx);have b2:IsPair g2 b u v:=r2.extBut _ _ D.bi (r1.extBut _ _ D.bz hb);refine ba (fA b2 Y ?_);refine ba (oA b2 λg3 b3 r3=>?_);replace b3:IsPair g3 b x' v:=b3;refine ba (nh (bf ?_));refine ba (ba (pD ?_));show Bf _ _ (eE (.ref j) >>= _) _ _ _;refine ba (zes (((hj.extBut r1.extBut D.jz).extBut r2.extBut D.ij.symm).extBut r3.extBut D.bj.symm) (((hq.extBut r1.extBut D.qz).extBut r2.extBut D.qi).extBut r3.extBut D.qb) (λy' g4 ey j4 r4=>bf ?_) λey=>by rw[hy] at ey;cases ey);obtain rfl:y'=y:=bL (ey.symm.trans hy);have b4:IsPair g4 b x' v:=r4.extBut _ _ D.bj b3;refine ba (fA b4 Y ?_);refine ba (oA b4 λg5 b5 r5=>?_);replace b5:IsPair g5 b x' y':=b5;refine ba (nh (bf (bf ?_)));refine ba (fA b5 Y ?_);refine ba (oI ?_);have sz:g5.objs.size=s.heap.objs.size:=by rw[r5.1,r4.1,r3.1,r2.1,r1.1]
 have z5:IsZip g5 z a b .ellipsis:=r5.extBut _ _ D.bz.symm (r4.extBut _ _ D.jz.symm (r3.extBut _ _ D.bz.symm (r2.extBut _ _ D.iz.symm z1)));have k5:∀c o,c ∉ [z,b,i,j]->s.heap.get? c=aa o->g5.get? c=aa o:=λc o hc e=>by
  simp only[bF,dH,or_false,not_or] at hc;exact r5.extBut _ _ hc.2.1 (r4.extBut _ _ hc.2.2.2 (r3.extBut _ _ hc.2.1 (r2.extBut _ _ hc.2.2.1 (r1.extBut _ _ hc.1 e))))
 have i5:g5.IsTupleIter i p (k+1):=((i2.extBut r3.extBut D.bi.symm).extBut r4.extBut D.ij).extBut r5.extBut D.bi.symm;have j5:g5.IsTupleIter j q (k+1):=j4.extBut r5.extBut D.bj.symm;show Bf _ _ (gQ (.ref z) (.ref g5.objs.size) >>= _) _ _ _;refine ba ?_;unfold gQ;have z6:IsZip (g5.push { cls:=.type "tuple",data:=.seq #[x',y'] }) z a b .ellipsis:=bd _ z5;refine ba (da z6 (by simp) λg7 z7 r7=>?_);replace z7:IsZip g7 z a b (rawInt g5.objs.size):=z7;refine da z7 (by simp) λg8 z8 r8=>?_;replace z8:IsZip g8 z a b (rawInt g5.objs.size):=z8;exact bf ⟨_,Y,cont g5 g8 k5 sz b5 i5 j5 ⟨r8.1.trans r7.1,λc hc=>(r8.2 c hc).trans (r7.2 c hc)⟩ z8⟩
theorem zet{Q:Fin->am->Prop}(hh:A.handled=ao)(D:Wl z a b i j p q)(st:ZT z a b i j p q k s.heap)
  (hp:s.heap.IsTuple p xs) (hq:s.heap.IsTuple q ys) (hx:xs[k]?=ao) (hE:∀h e,(∀c o,c ∉ [z,b,i,j]->s.heap.get? c=aa o->h.get? c=aa o)->(∃o,h.get? e=aa o/\o.cls=.type "StopIteration")->E (.ref e) { s with heap:=h }) :
  Bf (Bg P w) A (Builtin.«zip.__next__» ⟨[.ref z],[]⟩) Q E s:=by
 obtain⟨hz,ha,⟨u,v,hb⟩,hi,hj⟩:=st;show Bf _ _ (field (.ref z) 2 >>= _) _ _ _;refine ba (dP hz Y (x:=.bool aq) Y ?_);show Bf _ _ (field (.ref z) 3 >>= _) _ _ _;refine ba (dP hz Y (x:=.ref a) Y ?_);refine ba (fA ha Y ?_);show Bf _ _ (dQ (.ref z) >>= _) _ _ _;refine ba ?_;unfold dQ;refine ba (dP hz Y (x:=.none) Y (bf ?_));simp only[if_true];refine ba (lI ?_);refine ba (dP hz Y (x:=.ref b) Y ?_);refine ba (da hz (by simp) λg1 z1 r1=>?_);replace z1:IsZip g1 z a b .ellipsis:=z1;refine ba ?_;simp only[rF,rT,n9,List.forIn_nil];refine ba (ba (pD ?_));show Bf _ _ (eE (.ref i) >>= _) _ _ _;refine ba (zes (hi.extBut r1.extBut D.iz) (hp.extBut r1.extBut D.pz) (λx' g2 ex i2 r2=>by rw[hx] at ex;cases ex) λex=>⟨hh,λg2 e r2 he=>?_⟩);obtain⟨oe,hoe,hce⟩:=he;have z2:IsZip g2 z a b .ellipsis:=r2 _ _ D.iz.symm z1;have ez:e≠z:=λx=>by subst x;rw[z2] at hoe;cases hoe;simp at hce
 refine da z2 (by simp) λg3 _ r3=>hE g3 e (λc o hc y=>?_) ⟨oe,r3.extBut _ _ ez hoe,hce⟩;simp only[bF,dH,or_false,not_or] at hc;exact r3.extBut _ _ hc.1 (r2 _ _ hc.2.2.1 (r1.extBut _ _ hc.1 y))
theorem zbN{Q:Option af->am->Prop}(D:Wl z a b i j p q)(st:ZT z a b i j p q k s.heap)
  (hp:s.heap.IsTuple p xs) (hq:s.heap.IsTuple q ys) (hx:xs[k]?=aa x) (hy:ys[k]?=aa y)
  (cont:∀g h,(∀c o,c ∉ [z,b,i,j]->s.heap.get? c=aa o->g.get? c=aa o)->g.objs.size=s.heap.objs.size->IsPair g b x y->g.IsTupleIter i p (k+1)->g.IsTupleIter j q (k+1) ->
   cS z (g.push { cls:=.type "tuple",data:=.seq #[x,y] }) h->IsZip h z a b (rawInt g.objs.size)->Q (aa (.ref g.objs.size)) { s with heap:=h }) :
  Bf (Bg P w) A (pyNext (.ref z)) Q E s:=by
 have T:s.TypeIs (.ref z) "zip":=⟨_,st.1,Y⟩;unfold pyNext;exact ba (iu (cW (name:=bb "__next__") T lP (cV lP T F.entry_zip_next
   (zdr D st hp hq hx hy λg h a1 a2 a3 a4 a5 a6 a7=>bf (cont g h a1 a2 a3 a4 a5 a6 a7)) (F.args_zip_next_1 _))))
theorem zds{Q:Option af->am->Prop}(hh:A.handled=ao)(D:Wl z a b i j p q)(st:ZT z a b i j p q k s.heap)
  (hp:s.heap.IsTuple p xs) (hq:s.heap.IsTuple q ys) (hx:xs[k]?=ao) (cont:∀h,(∀c o,c ∉ [z,b,i,j]->s.heap.get? c=aa o->h.get? c=aa o)->Q ao { s with heap:=h }):Bf (Bg P w) A (pyNext (.ref z)) Q E s:=by
 have T:s.TypeIs (.ref z) "zip":=⟨_,st.1,Y⟩;unfold pyNext;refine ba (iu (cW (name:=bb "__next__") T lP (cV lP T F.entry_zip_next (zet hh D st hp hq hx λh e hk he=>?_) (F.args_zip_next_1 _))));obtain⟨o,ho,hc⟩:=he;exact ba (nI (T:="StopIteration") (b:=ah) ⟨o,ho,hc⟩ oJ (bf (cont _ hk)))
end
abbrev zp1(h:ay)(p:ac):ay:=h.push { cls:=.type "tuple_iterator",data:=.fields #[.ref p,.int 0 0] }
abbrev zp3(h:ay)(p q:ac):ay:=(zp1 (zp1 h p) q).push { cls:=.type "tuple",data:=.seq #[.ref h.objs.size,.ref (zp1 h p).objs.size] }
abbrev zp4(h:ay)(p q:ac):ay:=(zp3 h p q).push { cls:=.type "tuple",data:=.seq #[.none,.none] }
abbrev zp5(h:ay)(p q:ac):ay:=(zp4 h p q).push { cls:=.type "zip",data:=.fields #[.none,.bool aq,.bool aq,.ref (zp1 (zp1 h p) q).objs.size,.ref (zp3 h p q).objs.size] }
theorem zbO(p q:ac)(xs ys:Array af):Meets (Builtin.«zip.__new__» ⟨[.type "zip",.ref p,.ref q],[]⟩) (λ_ R s=>s.heap.IsTuple p xs/\s.heap.IsTuple q ys /\
   R (.ok (.ret (.ref (zp4 s.heap p q).objs.size))) { s with heap:=zp5 s.heap p q }) :=
 .of_wp λprog w A R s h=>by
  obtain⟨hp,g,d,tk,os⟩:=s;obtain⟨h1,h2,h⟩:=h;have hsub:=sub_zip;have l1:Heap.IsTuple (Shared.heap ⟨hp,g,d,tk,os⟩) p xs:=h1;have l2:Heap.IsTuple (Shared.heap ⟨hp.push { cls:=.type "tuple_iterator",data:=.fields #[.ref p,.int 0 0] },g,d,tk,os⟩) q ys:=Heap.IsTuple.push h2 _
  wp_walk using l9 l1,l9 l2
  exact⟨_,Y,h⟩
section
variable {P:ax}{w:aA}{A:aB}{E:af->am->Prop}{s:am}
theorem zdt{Q:af->am->Prop}(hp:s.heap.IsTuple p xs)(hq:s.heap.IsTuple q ys)
  (h:∀h',ZT (s.heap.objs.size+4) (s.heap.objs.size+2) (s.heap.objs.size+3) s.heap.objs.size (s.heap.objs.size+1) p q 0 h'->(∀c o,s.heap.get? c=aa o->h'.get? c=aa o)->Q (.ref (s.heap.objs.size+4)) { s with heap:=h' }) :
  Bf (Bg P w) A (call (.type "zip") [.ref p,.ref q]) Q E s:=by
 refine callType_new F.called_zip () (F.typeCall_zip_2 _ _) (F.newCall_zip_2 _ _) (λobj=>F.args_object_init_3 obj _ _) F.entry_zip_new (zbO p q xs ys) ⟨hp,hq,?_⟩;have e1:(zp1 s.heap p).objs.size=s.heap.objs.size+1:=eU ..;have e2:(zp1 (zp1 s.heap p) q).objs.size=s.heap.objs.size+2:=by rw[eU,e1]
 have e3:(zp3 s.heap p q).objs.size=s.heap.objs.size+3:=by rw[eU,e2]
 have e4:(zp4 s.heap p q).objs.size=s.heap.objs.size+4:=by rw[eU,e3]
 have f5:(zp5 s.heap p q).get? (zp4 s.heap p q).objs.size=aa _:=bG _ rfl;have f4:(zp5 s.heap p q).get? (zp3 s.heap p q).objs.size=aa _:=bd _ (bG _ Y);have f3:(zp5 s.heap p q).get? (zp1 (zp1 s.heap p) q).objs.size=aa _:=bd _ (bd _ (bG _ Y));have f2:(zp5 s.heap p q).get? (zp1 s.heap p).objs.size=aa _:=bd _ (bd _ (bd _ (bG _ Y)));have f1:(zp5 s.heap p q).get? s.heap.objs.size=aa _:=bd _ (bd _ (bd _ (bd _ (bG _ Y))));show _/\_;rw[e2,e3,e4] at f5;rw[e1,e2] at f3;rw[e3] at f4;rw[e1] at f2;rw[e4];exact⟨⟨_,f5,Y⟩,h _ ⟨f5,f3,⟨_,_,f4⟩,⟨_,f1,Y,Y⟩,⟨_,f2,Y,Y⟩⟩ λc o x=>bd _ (bd _ (bd _ (bd _ (bd _ x))))⟩
end
theorem aU.turnedL{aM:List (ac×Obj)}{σ:St}{H:B}{s:am}{h':ay}{t':Nat}{ch:List ac}(I:aU X aM σ H s)(k:∀b o,b ∉ ch->s.heap.get? b=aa o->h'.get? b=aa o)(hf:∀b∈ch,Zd X aM H b) :
  aU X aM σ H { s with heap:=h',toks:=t' }:=by
 have nit:∀b u,H b=aa u->b ∉ ch:=λb u e z=>by rw[(hf b z).1] at e;cases e
 refine I.step (g':=s.gens) (d':=s.drawn) (ch:=ch) (λb hb=>?_) (λb o _ _ hc e _=>k b o hc e) (λb o _ _ hc e _=>⟨o.slots,k b o hc e⟩) (λ_ _ _ _ n=>n) (λb o hc e=>⟨o,k b o hc e⟩) (λ_ _ e=>e) (λ_ _ _ e=>e) (λb ps e=>⟨#[],by rw[e];simp⟩) (λm hm=>?_) (λb u e=>?_) I.bare
 ·obtain⟨f0,f1,f2,f3,f4,f5⟩:=hf b hb;exact⟨f3,f1,f4,f5⟩
 ·obtain⟨o,es,ep,ho,r⟩:=hm;exact⟨o,es,ep,k _ o (λz=>(hf _ z).2.1 Y) ho,r⟩
 ·refine(I.hok b u e).stay (λc v hc q=>k c v ?_ q) (λ_ q=>q) λ_ _ q=>q;rcases hc with z|z
  ·rw[z];exact nit b u e
  ·exact nit c _ z
def Itz(K:bw)(p q:ac)(xs ys:List V):It:=⟨λi H=>i<xs.length/\sI K H p xs/\sI K H q ys,λi H x H'=>∃T u v,x=.ref T/\H T=ao/\H'=upd H T (.tup [u,v])/\xs[i]?=aa u/\ys[i]?=aa v,λi H=>xs.length<=i/\sI K H p xs/\sI K H q ys⟩
theorem zeu{P:ax}{w:aA}{K:bw}{elts:List aD}{x1}{pos:Pos}{z a b i j p q:ac}{xs ys:List V}(D:Wl z a b i j p q)(hl:xs.length=ys.length) :
  zc5 P w K (.Tuple elts x1 pos) (Itz K p q xs ys) [z,a,b,i,j] z (ZT z a b i j p q) where
 mem:=by simp
 obj:=λk h st c hc=>by
  obtain⟨hz,ha,⟨u,v,hb⟩,⟨oi,hi,ci,di⟩,⟨oj,hj,cj,dj⟩⟩:=st;simp only[bF,dH,or_false] at hc;rcases hc with rfl|rfl|rfl|rfl|rfl
  ·exact⟨_,hz,λv z=>by cases z⟩
  ·exact⟨_,ha,λv z=>by cases z⟩
  ·exact⟨_,hb,λv z=>by cases z⟩
  ·exact⟨_,hi,λv z=>by rw[di] at z;cases z⟩
  ·exact⟨_,hj,λv z=>by rw[dj] at z;cases z⟩
 keep:=λk h h' st kk=>by
  obtain⟨hz,ha,⟨u,v,hb⟩,⟨oi,hi,ci⟩,⟨oj,hj,cj⟩⟩:=st;exact⟨kk z (by simp) _ hz,kk a (by simp) _ ha,⟨u,v,kk b (by simp) _ hb⟩,⟨oi,kk i (by simp) _ hi,ci⟩,⟨oj,kk j (by simp) _ hj,cj⟩⟩
 item:=by
  intro X hP hw hK hc k aM s σ H E I hf st hg;subst hP hw hK;obtain⟨hlt,h1,h2⟩:=hg;obtain⟨us,r1,p1,_⟩:=I.tuple h1;obtain⟨vs,r2,p2,_⟩:=I.tuple h2;obtain⟨u,hu,ru⟩:=r1.get (i:=k) (x:=xs[k]) (bc hlt);obtain⟨v,hv,rv⟩:=r2.get (i:=k) (x:=ys[k]'(hl ▸ hlt)) (bc (hl ▸ hlt));have sub:∀c∈[z,b,i,j],c∈[z,a,b,i,j]:=λc hc=>by
   simp only[bF,dH,or_false] at hc ⊢;rcases hc with h|h|h|h <;> simp[h]
  refine zbN D st (show s.heap.IsTuple p us.toArray from p1) (show s.heap.IsTuple q vs.toArray from p2) (x:=u) (y:=v) (by simpa using hu) (by simpa using hv) λg h k5 sz b5 i5 j5 sb z8=>?_;have I5:aU X aM σ H { s with heap:=g }:=I.turnedL (t':=s.toks) k5 λc hc=>hf c (sub c hc);have I6:aU X aM σ (upd H g.objs.size (.tup [xs[k],ys[k]'(hl ▸ hlt)])) { s with heap:=g.push { cls:=.type "tuple",data:=.seq #[u,v] } } :=
   I5.laid (a:=g.objs.size) (o:=.tup [xs[k],ys[k]'(hl ▸ hlt)]) (t':=s.toks) (λb u e=>bd _ e) (bp _) ⟨by show 2<=Bb;decide,[u,v],.cons ru (.cons rv .nil),⟨_,bG _ Y,Y,_,Y⟩⟩
  have zlt:z<s.heap.objs.size:=bQ st.1;have old:∀c∈[z,a,b,i,j],c≠g.objs.size:=λc hc=>by
   obtain⟨hz,ha,⟨u,v,hb⟩,⟨oi,hi,ci⟩,⟨oj,hj,cj⟩⟩:=st;rw[sz];simp only[bF,dH,or_false] at hc;rcases hc with rfl|rfl|rfl|rfl|rfl
   ·exact b7 (bQ hz)
   ·exact b7 (bQ ha)
   ·exact b7 (bQ hb)
   ·exact b7 (bQ hi)
   ·exact b7 (bQ hj)
  have free:∀c∈[z,a,b,i,j],upd H g.objs.size (HO.tup [xs[k],ys[k]'(hl ▸ hlt)]) c=ao:=λc hc=>by rw[zh (old c hc)];exact(hf c hc).1
  have fz:Zd X aM (upd H g.objs.size (HO.tup [xs[k],ys[k]'(hl ▸ hlt)])) z:=⟨free z (by simp),(hf z (by simp)).2⟩;refine⟨.ref g.objs.size,Y,wpAny_letOwnedTupleGo_zip z8 λh2 z9 sb2=>?_⟩;have up:∀c o,c≠z->g.get? c=aa o->h2.get? c=aa o:=λc o hc e=>by
   rw[show h2.get? c=h.get? c from sb2.2 c hc,sb.2 c hc];exact bd _ e
  have I7:aU X aM σ (upd H g.objs.size (.tup [xs[k],ys[k]'(hl ▸ hlt)])) { s with heap:=h2 }:=I6.turnedL (s:={ s with heap:=g.push { cls:=.type "tuple",data:=.seq #[u,v] } }) (t':=s.toks) (ch:=[z]) (λc o hc e=>by
   have hc:c≠z:=by simpa using hc
   rw[show h2.get? c=h.get? c from sb2.2 c hc,sb.2 c hc];exact e) λc hc=>by
    have:c=z:=by simpa using hc
    rw[this];exact fz
  refine⟨.ref g.objs.size,_,I7,Y,⟨_,_,_,Y,by have:=I5.hok.fresh (bp g.objs.size);exact this,Y,bc hlt,bc (hl ▸ hlt)⟩,?_,free⟩;have ka:g.get? a=_:=k5 a _ (by simp[D.az,D.ab,D.ai,D.aj]) st.2.1;obtain⟨oi,hi,ci⟩:=i5;obtain⟨oj,hj,cj⟩:=j5;exact⟨z9,up a _ D.az ka,⟨_,_,up b _ D.bz b5⟩,⟨oi,up i _ D.iz hi,ci⟩,⟨oj,up j _ D.jz hj,cj⟩⟩
 done:=by
  intro X hP hw hK hc k aM s σ H E I hf st hg;subst hP hw hK;obtain⟨hlt,h1,h2⟩:=hg;obtain⟨us,r1,p1,_⟩:=I.tuple h1;obtain⟨vs,r2,p2,_⟩:=I.tuple h2;have hl1:=r1.length;refine zds (I.ok.hd hc) D st (show s.heap.IsTuple p us.toArray from p1) (show s.heap.IsTuple q vs.toArray from p2) (by simp;lia) λh hk=>⟨Y,I.turnedL (t':=s.toks) hk λc hc=>hf c ?_⟩;simp only[bF,dH,or_false] at hc ⊢;rcases hc with h|h|h|h <;> simp[h]
 self:=λ_ _ _ _ _ st h=>wpAny_pyIter_zip st.1 h
def ziw(K:bw)(ta:TA):TI:=λσ H R=>ta σ H λvs H1=>∃p q xs ys,vs=[.ref p,.ref q]/\sI K H1 p xs/\sI K H1 q ys/\xs.length=ys.length/\R (Itz K p q xs ys) H1
section
variable {X:Cx}
theorem zhJ{elts:List aD}{x1}{tp:Pos}{e1 e2:aD}{ta:TA}{p pos:Pos}(hg:Gl X "zip")(hm:X.mg "zip"=ao)(ha:PA X [e1,e2] ta)(he:Be [e1,e2] X.env=(aq,eval e1 X.env)::Be [e2] X.env:=by rfl)(hpl:(backTo pos (Be [e2] X.env)).any (·.1)=aq:=by rfl) :
  PI X (.Tuple elts x1 tp) (.Call (.Name "zip" p) [e1,e2] [] pos) (ziw X.K ta):=by
 intro aM s σ H R I h;refine Call_ (X9 I hg hm zhE (gc (sr (ha pos aM s σ H _ I h) λus s1 ⟨vs,H1,I1,r1,q1⟩=>?_) he hpl));obtain⟨a,b,xs,ys,e,h1,h2,hl,q⟩:=q1;subst e;obtain⟨u1,u2,rfl,ra,rb⟩:=zg6 r1;cases ra;cases rb;obtain⟨us1,r1,p1,_⟩:=I1.tuple h1;obtain⟨us2,r2,p2,_⟩:=I1.tuple h2;have l1:a<s1.heap.objs.size:=by obtain⟨_,e,_⟩:=p1;exact bQ e
 have l2:b<s1.heap.objs.size:=by obtain⟨_,e,_⟩:=p2;exact bQ e
 refine zdt (show s1.heap.IsTuple a us1.toArray from p1) (show s1.heap.IsTuple b us2.toArray from p2) λh' st k=>?_;refine wpAny_pyIter_zip (s:={ s1 with heap:=h' }) st.1 ?_;generalize hn:s1.heap.objs.size=n at *
 have ne:∀ {x y:Nat},x≠y->(show ac from x)≠(show ac from y):=λh=>h;have la:∀k:Nat,(show Nat from a)≠n+k:=λk=>b7 (cg l1 (gT _ _));have lb:∀k:Nat,(show Nat from b)≠n+k:=λk=>b7 (cg l2 (gT _ _));have D:Wl (n+4) (n+2) (n+3) n (n+1) a b:=⟨ne (),ne (),ne (),ne (),ne (),ne (),ne (),ne (),ne (),ne (),la 4,la 3,la 0,la 1,lb 4,lb 3,lb 0,lb 1⟩;refine⟨_,_,_,_,H1,Y,I1.kept (t':=s1.toks) k,zeu D hl,st,λc hc=>?_,q⟩;simp only[bF,dH,or_false] at hc;have hc:n<=c:=by rcases hc with rfl|rfl|rfl|rfl|rfl <;> first|exact gT _ _|exact bp _
 exact I1.fpOk (by rw[hn];exact hc) (I1.hok.fresh (by rw[hn];exact hc))
end
section
variable {σ:St}{H:B}{nx:St->B->Prop}{Bo:V->St->B->(St->B->Prop)->Prop}
theorem zev{K:bw}(xs ys:List V)(Pv:Nat->St->B->Prop)(h0:Pv 0 σ H)(hl:∀i σ H,Pv i σ H->sI K H p xs/\sI K H q ys)
  (hs:∀i u v T σ H,xs[i]?=aa u->ys[i]?=aa v->H T=ao->Pv i σ H->Bo (.ref T) σ (upd H T (.tup [u,v])) (Pv (i+1))) (hd:∀σ H,Pv xs.length σ H->nx σ H) :
  ∃W:Nat->Nat->St->B->Prop,(∃m,W 0 m σ H)/\∀i m σ H,W i m σ H->((Itz K p q xs ys).stop i H/\nx σ H)\/((Itz K p q xs ys).go i H/\∃N:St->B->Prop,(∀σ' H',N σ' H'->∃m',m'<m/\W (i+1) m' σ' H')/\∀x H',(Itz K p q xs ys).yld i H x H'->Bo x σ H' N):=by
 refine⟨λi m σ H=>m=xs.length-i/\i<=xs.length/\Pv i σ H,⟨xs.length,by simp,bW _,h0⟩,?_⟩;rintro i m σ H ⟨rfl,hi,pv⟩;by_cases hlt:i<xs.length
 ·refine .inr ⟨⟨hlt,hl i σ H pv⟩,Pv (i+1),λσ' H' p'=>⟨xs.length-(i+1),(),Y,hlt,p'⟩,?_⟩;rintro x H' ⟨T,u,v,rfl,hT,rfl,hu,hv⟩;exact hs i u v T σ H hu hv hT pv
 ·obtain rfl:i=xs.length:=by lia
  exact .inl ⟨⟨bp _,hl _ σ H pv⟩,hd σ H pv⟩
end
abbrev zix(K:bw):RC:=λxs H Q=>∃p ys,xs=[.ref p]/\((aY K H p ys/\∀l,H l=ao->Q (.ref l) (upd H l (.tup ys)))\/(sI K H p ys/\Q (.ref p) H))
def zcz(st:List (List V))(v:V):Option (List (List V)):=if isJ v=ah then (match st.reverse with|b::a::r=>aa (r.reverse++[v::(a++b)])|_=>ao) else aa (st++[[v]])
def zbP:List V->List (List V)->Option (List (List V))
 |[],st=>aa st
 |v::r,st=>(zcz st v).bind (zbP r)
theorem zew:∀(p q:List V) (st:List (List V)),zbP (p++q) st=(zbP p st).bind (zbP q)
 |[],q,st=>rfl
 |v::r,q,st=>by
  show (zcz st v).bind (zbP (r++q))=((zcz st v).bind (zbP r)).bind (zbP q);cases zcz st v with
  |none=>rfl
  |some st'=>exact zew r q st'
end L2
namespace L2
open PySem PySem.W PyProof.Rows
section
variable {α β:Type}{lt:Nat->Nat->Bool}{n:Nat}
def kOk(lt:Nat->Nat->Bool)(n:Nat):KasT α->(α->Prop)->Prop
 |.ret a,R=>R a
 |.ask i j k,R=>i<n/\j<n/\i≠j/\kOk lt n (k (lt i j)) R
theorem kL:∀ {t:KasT α} {f:α->KasT β} {R:β->Prop},kOk lt n t (λa=>kOk lt n (f a) R)->kOk lt n (t.bind f) R
 |.ret _,_,_,h=>h
 |.ask _ _ _,_,_,h=>⟨h.1,h.2.1,h.2.2.1,kL h.2.2.2⟩
theorem vf:∀ {t:KasT α} {R R':α->Prop},kOk lt n t R->(∀a,R a->R' a)->kOk lt n t R'
 |.ret _,_,_,h,m=>m _ h
 |.ask _ _ _,_,_,h,m=>⟨h.1,h.2.1,h.2.2.1,vf h.2.2.2 m⟩
structure SO(lt:Nat->Nat->Bool)(n:Nat):Prop where
 irr:∀i,i<n->lt i i=aq
 trans:∀i j k,i<n->j<n->k<n->lt i j=ah->lt j k=ah->lt i k=ah
 tot:∀i j,i<n->j<n->i≠j->lt i j=aq->lt j i=ah
def PP(n:Nat)(p:Array Nat):Prop:=p.Perm (dL n).toArray
def gt(p:Array Nat)(k:Nat):Nat:=p.getD k 0
theorem kM(h:k<p.size):p[k]?=aa (gt p k):=by
 unfold gt;rw[Array.getD_eq_getD_getElem?,cx h];rfl
theorem PP.size(h:PP n p):p.size=n:=by
 have:=h.size_eq;simpa using this
theorem PP.blt(h:PP n p)(hk:k<n):gt p k<n:=by
 have hs:=h.size;have m:gt p k∈p:=Array.mem_of_getElem? (kM ());have m2:gt p k∈(dL n).toArray:=(pE h).mp m;simpa using m2
theorem PP.inj(h:PP n p)(hi:i<n)(hj:j<n)(e:gt p i=gt p j):i=j:=by
 have hs:=h.size;have nd:p.toList.Nodup:=by
  have:p.toList.Perm (dL n):=by
   have:=gJ.mp h;simpa using this
  exact this.nodup_iff.mpr rG
 have e1:=kM (p:=p) (k:=i) ();have e2:=kM (p:=p) (k:=j) ();rw[<-e] at e2;have e1':p.toList[i]?=aa (gt p i):=by simpa using e1
 have e2':p.toList[j]?=aa (gt p i):=by simpa using e2
 obtain⟨a1,b1⟩:=bn.mp e1';obtain⟨a2,b2⟩:=bn.mp e2';exact(i7 nd).mp (b1.trans b2.symm)
def Yi(lt:Nat->Nat->Bool)(p:Array Nat)(m:Nat):Prop:=∀i j,i<j->j<m->lt (gt p i) (gt p j)=ah
def zhK(lt:Nat->Nat->Bool)(p:Array Nat)(m:Nat):Prop:=∀i j,i<j->j<m->lt (gt p j) (gt p i)=ah
theorem zbQ(S:SO lt n){p:Array Nat}(hp:PP n p):∀(f a:Nat),1<=a->a+f<=n->Yi lt p a->kOk lt n (kas_asc p f a) λm=>a<=m/\m<=a+f/\Yi lt p m/\(m<a+f->lt (gt p m) (gt p (m-1))=ah)
 |0,a,h1,h2,hr=>⟨bp _,bp _,hr,λz=>absurd z (fO _)⟩
 |f+1,a,h1,h2,hr=>by
  refine⟨hp.blt (),hp.blt (),(λz=>by have:=hp.inj () () z;lia),?_⟩;show kOk lt n (if lt (gt p a) (gt p (a-1))=ah then .ret a else kas_asc p f (a+1)) _;by_cases c:lt (gt p a) (gt p (a-1))=ah
  ·rw[au c];exact⟨bp _,(),hr,λ_=>c⟩
  ·rw[ap c];have up:lt (gt p (a-1)) (gt p a)=ah:=S.tot _ _ (hp.blt ()) (hp.blt ()) (λz=>by have:=hp.inj () () z;lia) (mQ.mpr c);refine vf (zbQ S hp f (a+1) () () λi j hij hj=>?_) λm ⟨x1,x2,x3,x4⟩=>⟨(),(),x3,λz=>x4 ()⟩;by_cases hja:j<a
   ·exact hr i j hij hja
   ·obtain rfl:j=a:=by lia
    by_cases hi:i=j-1
    ·rw[hi];exact up
    ·exact S.trans _ _ _ (hp.blt ()) (hp.blt ()) (hp.blt ()) (hr i (j-1) () ()) up
theorem zcA(S:SO lt n){p:Array Nat}(hp:PP n p):∀(f a:Nat),1<=a->a+f<=n->zhK lt p a->kOk lt n (kas_desc f p a 0) λr=>r.1=p/\r.2.2=0/\a<=r.2.1/\r.2.1<=a+f/\zhK lt p r.2.1
 |0,a,h1,h2,hr=>⟨Y,Y,bp _,bp _,hr⟩
 |f+1,a,h1,h2,hr=>by
  refine⟨hp.blt (),hp.blt (),(λz=>by have:=hp.inj () () z;lia),?_⟩;show kOk lt n (if lt (gt p a) (gt p (a-1))=ah then (if 0 > 0 then _ else kas_desc f p (a+1) 0) else .ask (gt p (a-1)) (gt p a) λd=>if d=ah then .ret (p,a,0) else kas_desc f p (a+1) (0+1)) _;by_cases c:lt (gt p a) (gt p (a-1))=ah
  ·rw[au c,ap ()];refine vf (zcA S hp f (a+1) () () λi j hij hj=>?_) λm ⟨x1,x2,x3,x4,x5⟩=>⟨x1,x2,(),(),x5⟩;by_cases hja:j<a
   ·exact hr i j hij hja
   ·obtain rfl:j=a:=by lia
    by_cases hi:i=j-1
    ·rw[hi];exact c
    ·exact S.trans _ _ _ (hp.blt ()) (hp.blt ()) (hp.blt ()) c (hr i (j-1) () ())
  ·rw[ap c];have up:lt (gt p (a-1)) (gt p a)=ah:=S.tot _ _ (hp.blt ()) (hp.blt ()) (λz=>by have:=hp.inj () () z;lia) (mQ.mpr c);refine⟨hp.blt (),hp.blt (),(λz=>by have:=hp.inj () () z;lia),?_⟩;show kOk lt n (if lt (gt p (a-1)) (gt p a)=ah then .ret (p,a,0) else _) _;rw[au up];exact⟨Y,Y,bp _,gT _ _,hr⟩
theorem zex(hm:m<=p.size)(hk:k<m):gt (kas_rev p 0 m) k=gt p (m-1-k):=by
 have e:=getElem?_mirror_all (xs:=p) (i:=0) (j:=m) hm k;rw[au ⟨bW _,hk⟩] at e;have e1:=kM (p:=kas_rev p 0 m) (k:=k) (by unfold kas_rev;rw[mirror_size];lia);have e2:=kM (p:=p) (k:=m-1-k) ();unfold kas_rev at e1 ⊢;rw[e,show 0+m-1-k=m-1-k by lia,e2] at e1;exact(bL e1).symm
theorem PP.rev(h:PP n p)(m:Nat):PP n (kas_rev p 0 m):=rH (mirror_perm _ _ _ _) h
theorem zgi(S:SO lt n)(hp:PP n p)(h1:1<=m)(h2:m<=n)(hf:zhK lt p m):kOk lt n (kas_tail3 m n p) λr=>PP n r.2/\Yi lt r.2 r.1/\1<=r.1/\r.1<=n:=by
 refine kL (vf (zbQ S (hp.rev m) (n-m) m h1 () λi j hij hj=>?_) λa ⟨x1,x2,x3,_⟩=>⟨hp.rev m,x3,(),()⟩);have hs:=hp.size;rw[zex () (),zex () hj];exact hf _ _ () ()
theorem zey(S:SO lt n)(hp:PP n p)(hn:1<=n):kOk lt n (kas_count n p) λr=>PP n r.2/\Yi lt r.2 r.1/\1<=r.1/\r.1<=n:=by
 refine kL (vf (zbQ S hp (n-1) 1 (bp _) () λi j hij hj=>by lia) λm ⟨x1,x2,x3,x4⟩=>?_);by_cases e:(m==n)=ah
 ·rw[au e];exact⟨hp,x3,x1,()⟩
 ·rw[ap e];have ne:m≠n:=by simpa using e
  by_cases h:m > 1
  ·rw[au h];refine⟨hp.blt (),hp.blt (),(λz=>by have:=hp.inj () () z;lia),?_⟩;show kOk lt n (if lt (gt p 0) (gt p (m-1))=ah then .ret (m,p) else _) _;rw[au (x3 0 (m-1) () ())];exact⟨hp,x3,x1,()⟩
  ·rw[ap h];obtain rfl:m=1:=by lia
   have c:=x4 ();refine kL (vf (zcA S hp (n-2) 2 () () λi j hij hj=>?_) λr ⟨y1,y2,y3,y4,y5⟩=>?_)
   ·obtain rfl:j=1:=by lia
    obtain rfl:i=0:=by lia
    exact c
   ·rw[ap (),y1];exact zgi S hp () () y5
theorem VH(S:SO lt n){p:Array Nat}(hp:PP n p){k:Nat}(hk:k<n)(hr:Yi lt p k):∀(f l r:Nat),l<=r->r<=k->r-l<=f->(∀i,i<l->lt (gt p i) (gt p k)=ah)->(∀i,r<=i->i<k->lt (gt p k) (gt p i)=ah) ->
  kOk lt n (oh p k f l r) λm=>m<=k/\(∀i,i<m->lt (gt p i) (gt p k)=ah)/\∀i,m<=i->i<k->lt (gt p k) (gt p i)=ah
 |0,l,r,h1,h2,h3,h4,h5=>⟨(),h4,λi hi hik=>h5 i () hik⟩
 |f+1,l,r,h1,h2,h3,h4,h5=>by
  unfold oh;by_cases c:l >= r
  ·rw[au c];exact⟨(),h4,λi hi hik=>h5 i () hik⟩
  ·rw[ap c];refine⟨hp.blt (),hp.blt (),(λz=>by have:=hp.inj () () z;lia),?_⟩;show kOk lt n (if lt (gt p k) (gt p ((l+r)/2))=ah then _ else _) _;by_cases d:lt (gt p k) (gt p ((l+r)/2))=ah
   ·rw[au d];refine VH S hp hk hr f l ((l+r)/2) () () () h4 λi hi hik=>?_;by_cases e:i=(l+r)/2
    ·rw[e];exact d
    ·exact S.trans _ _ _ (hp.blt ()) (hp.blt ()) (hp.blt ()) d (hr _ i () hik)
   ·rw[ap d];have up:lt (gt p ((l+r)/2)) (gt p k)=ah:=S.tot _ _ (hp.blt ()) (hp.blt ()) (λz=>by have:=hp.inj () () z;lia) (mQ.mpr d);refine VH S hp hk hr f ((l+r)/2+1) r () () () (λi hi=>?_) h5;by_cases e:i=(l+r)/2
    ·rw[e];exact up
    ·exact S.trans _ _ _ (hp.blt ()) (hp.blt ()) (hp.blt ()) (hr i _ () ()) up
theorem zez(hk:k<p.size)(hd:d<=k)(hj:j<p.size):gt (bubble p k d) j=if j=k-d then gt p k else if k-d<j/\j<=k then gt p (j-1) else gt p j:=by
 have e:=getElem?_bubble hk d hd j;rw[kM (p:=bubble p k d) (k:=j) (by rw[bubble_size];exact hj)] at e;by_cases h1:j=k-d
 ·rw[au h1,kM hk] at e;rw[au h1];exact bL e
 ·rw[ap h1] at e ⊢;by_cases h2:k-d<j/\j<=k
  ·rw[au h2,kM ()] at e;rw[au h2];exact bL e
  ·rw[ap h2,kM hj] at e;rw[ap h2];exact bL e
theorem zeA(S:SO lt n):∀(f:Nat) {p:Array Nat} (k:Nat),PP n p->k+f=n->Yi lt p k->kOk lt n (kas_bin f p k) λp'=>PP n p'/\Yi lt p' n
 |0,p,k,hp,hk,hr=>⟨hp,by rw[<-hk];exact hr⟩
 |f+1,p,k,hp,hk,hr=>by
  have hs:=hp.size;refine kL (vf (VH S hp () hr k 0 k (bW _) (bp _) () (λi hi=>by lia) (λi h1 h2=>by lia)) λl ⟨x1,x2,x3⟩=>?_);refine zeA S f (k+1) (rH (bubble_perm _ _ _) hp) () λi j hij hj=>?_;rw[zez () () (),zez () () ()];have e:k-(k-l)=l:=by lia
  rw[e];by_cases hi:i=l
  ·rw[au hi,ap (),au ()];exact x3 _ () ()
  ·rw[ap hi];by_cases hi2:l<i/\i<=k
   ·rw[au hi2,ap (),au ()];exact hr _ _ () ()
   ·rw[ap hi2];by_cases hj1:j=l
    ·rw[au hj1];exact x2 _ ()
    ·rw[ap hj1];by_cases hj2:l<j/\j<=k
     ·rw[au hj2];by_cases hij2:i<j-1
      ·exact hr _ _ hij2 ()
      ·lia
     ·rw[ap hj2];exact hr _ _ hij ()
theorem zgj(S:SO lt n)(hn:1<=n):kOk lt n (kas_sort n) λp=>PP n p/\Yi lt p n:=by
 refine kL (vf (zey S (p:=rf (dL n)) (rV _) hn) λr ⟨x1,x2,x3,x4⟩=>?_);by_cases h:r.1<n
 ·rw[au h,Nat.max_eq_left x3];exact zeA S _ _ x1 () x2
 ·rw[ap h];obtain e:r.1=n:=by lia
  exact⟨x1,by rw[<-e];rw[e] at x2 ⊢;exact x2⟩
end
theorem zeB{α:Type}{lt:Nat->Nat->Bool}{n:Nat}{s:am}{cmp:Nat->Nat->(Bool->am->Prop)->am->Prop}(hc:∀i j C,i<n->j<n->i≠j->C (lt i j) s->cmp i j C s):∀ {t:KasT α} {R:α->Prop} {Q:α->am->Prop},kOk lt n t R->(∀a,R a->Q a s)->t.kasWp cmp Q s
 |.ret _,_,_,h,m=>m _ h
 |.ask _ _ _,_,_,h,m=>hc _ _ _ h.1 h.2.1 h.2.2.1 (zeB hc h.2.2.2 m)
def Kp(a:ac)(h h':ay):Prop:=∀b o,b≠a->h.get? b=aa o->h'.get? b=aa o
def v7(vs:List af)(p:Array Nat):List af:=p.toList.map λi=>vs.getD i cR
theorem zav(vs:List af):v7 vs (rf (dL vs.length))=vs:=by
 unfold v7;apply fK;intro i;simp only[bB];by_cases h:i<vs.length
 ·rw[bc (l:=vs) h];simp[lQ h,h]
 ·rw[cN (by lia:vs.length<=i)];simp;lia
section
variable {P:ax}{w:aA}{A:aB}{E:af->am->Prop}{s:am}
theorem VI{a:ac}{vs:List af}{n:Nat}{κ:SortKind}{lt:Nat->Nat->Bool}{R:PySem.Fin->am->Prop}(ho:s.heap.get? a=aa (seqObj "list" vs.toArray n))(h64:vs.length<64)
  (hk:2<=vs.length->∀(h:ay) (Q:SortKind->am->Prop),Kp a s.heap h->Q κ { s with heap:=h }->Bf (Bg P w) A (keyKind' vs.toArray) Q (λ_ _=>False) { s with heap:=h })
  (hc:∀(h:ay) i j C,Kp a s.heap h->i<vs.length->j<vs.length->i≠j->C (lt i j) { s with heap:=h }->kas_ask P w A κ vs i j C { s with heap:=h }) (S:SO lt vs.length)
  (fin:∀h p c,Kp a s.heap h->h.get? a=aa (seqObj "list" (v7 vs p).toArray c)->PP vs.length p->Yi lt p vs.length->R (.done (.ret .none)) { s with heap:=h }) :
  Bf (Bg P w) A (Builtin.«list.sort» ⟨[.ref a],[]⟩) R E s:=by
 have ha:a<s.heap.objs.size:=bQ ho;obtain⟨e1,o1⟩:∃e1,(s.heap.update a (dA λ_=>(#[]:Array af))).get? a=aa (seqObj "list" #[] e1):=⟨_,get?_update_seq ho λ_=>#[]⟩;have k1:Kp a s.heap (((s.heap.update a (dA λ_=>(#[]:Array af))).push (seqObj "tuple" vs.toArray 0)).push (seqObj "list" #[] 0)):=λb o hb e =>
  bd _ (bd _ ((eA _ _ (eP hb)).trans e))
 have o3:(((s.heap.update a (dA λ_=>(#[]:Array af))).push (seqObj "tuple" vs.toArray 0)).push (seqObj "list" #[] 0)).get? a=aa (seqObj "list" #[] e1):=bd _ (bd _ o1);have last:∀out:List af,out.length=vs.length->∃c,((((s.heap.update a (dA λ_=>(#[]:Array af))).push (seqObj "tuple" vs.toArray 0)).push (seqObj "list" #[] 0)).update a (dA λ_=>out.toArray)).get? a=aa (seqObj "list" out.toArray c):=λout _=>⟨_,get?_update_seq o3 λ_=>out.toArray⟩;have keep2:∀out:List af,Kp a s.heap ((((s.heap.update a (dA λ_=>(#[]:Array af))).push (seqObj "tuple" vs.toArray 0)).push (seqObj "list" #[] 0)).update a (dA λ_=>out.toArray)):=λout b o hb e =>
  (eA _ _ (eP hb)).trans (k1 b o hb e)
 rw[list_sort_plain];refine ba (listItems_at ho Y ?_);refine ba (pF ho Y ?_ (by rw[bJ,bT];lia) (bW _));refine ba (seqEpoch_at o1 Y ?_);refine ba (oI ?_ (by show vs.length<=_;rw[bT];lia));refine ba (nu ?_ (bW _));refine dM ?_;show Bf (Bg P w) A _ R E { s with heap:=((s.heap.update a (dA λ_=>(#[]:Array af))).push (seqObj "tuple" vs.toArray 0)).push (seqObj "list" #[] 0) };generalize hH:((s.heap.update a (dA λ_=>(#[]:Array af))).push (seqObj "tuple" vs.toArray 0)).push (seqObj "list" #[] 0)=g at *
 dsimp only;have up:∀out:List af,out.length=vs.length->∀p,out=v7 vs p->PP vs.length p->Yi lt p vs.length->R (.done (.ret .none)) { s with heap:=g.update a (dA λ_=>out.toArray) }:=λout hl p e hp hr=>by
  obtain⟨c,hcc⟩:=last out hl;refine fin _ p c (keep2 out) ?_ hp hr;rw[<-e];exact hcc
 by_cases h2:vs.toArray.size<2
 ·have hl2:vs.length<2:=by simpa using h2
  rw[au h2,au h2];refine ba (bf ?_);rw[StateT.run_pure];refine ba (bf ?_);dsimp only;have ez:((vs.toArray.zip vs.toArray).map (·.2))=vs.toArray:=by
   apply nH.mp;rw[Array.toList_map,Array.toList_zip];simp[List.map_snd_zip]
  refine ba (seqEpoch_at o3 Y ?_);rw[show (arrOf (SortSt.mk' general' (vs.toArray.zip vs.toArray) #[] 7 ao))=vs.toArray.zip vs.toArray from rfl,ez];refine ba (pF o3 Y ?_ (bW _) (by rw[bJ,bT];lia));simp only[bne_self_eq_false,cE,if_false];exact bf (up vs Y _ (zav vs).symm (rV _) λi j hij hj=>by lia)
 ·have hl2:2<=vs.length:=by simpa using h2
  rw[ap h2,ap h2];refine ba (dR (hk hl2 g (λκ' s'=>κ'=κ/\s'={ s with heap:=g }) k1 ⟨rfl,rfl⟩) (λκ' s' hs=>?_) λ_ _ x=>x.elim);obtain⟨rfl,rfl⟩:=hs;have run:=zeB (s:={ s with heap:=g }) (cmp:=kas_ask P w A κ' vs) (λi j C hi hj hij hC=>hc g i j C k1 hi hj hij hC) (zgj S ()) (Q:=λp s'=>s'={ s with heap:=g }/\PP vs.length p/\Yi lt p vs.length) λp hp=>⟨rfl,hp⟩;refine ba (dR (kat_run (ks:=vs) (Q:=λst s'=>∃p:Array Nat,arrOf st=p.map (kas_item (vs.toArray.zip vs.toArray))/\failedOf st=ao/\s'={ s with heap:=g }/\PP vs.length p/\Yi lt p vs.length) rfl hl2 h64 (λp st s' _ a2 a3 a4=>⟨p,a2,a3,a4⟩) run) ?_ λ_ _ e=>e);rintro⟨⟨⟩,st⟩ s' ⟨p,har,hf,rfl,hp,hr⟩;dsimp only;have out:=kat_snds (ks:=vs) Y har;have ol:(v7 vs p).length=vs.length:=by unfold v7;rw[bg,cF,hp.size]
  rw[out];refine ba (seqEpoch_at o3 Y ?_);refine ba (pF o3 Y ?_ (bW _) (by show (rf (v7 vs p)).size<=_;rw[bJ,ol,bT];lia));rw[hf];simp only[bne_self_eq_false,cE,if_false];exact bf (up (v7 vs p) ol p Y hp hr)
theorem zaw{l:ac}{vs:List af}{κ:SortKind}{lt:Nat->Nat->Bool}{Q:af->am->Prop}(h64:vs.length<64)(S:SO lt vs.length)
  (coll:∀R:List af->am->Prop,(∀(h:ay) (tk:Nat),(∀b o,s.heap.get? b=aa o->h.get? b=aa o)->R vs { s with heap:=h,toks:=tk })->Bf (Bg P w) A.in1 (collect (.ref l)) R E s)
  (hk:2<=vs.length->∀(h:ay) (tk:Nat) (Q:SortKind->am->Prop),(∀b o,s.heap.get? b=aa o->h.get? b=aa o)->Q κ { s with heap:=h,toks:=tk }->Bf (Bg P w) A.in1.in1 (keyKind' vs.toArray) Q (λ_ _=>False) { s with heap:=h,toks:=tk })
  (hc:∀(h:ay) (tk:Nat) i j C,(∀b o,s.heap.get? b=aa o->h.get? b=aa o)->i<vs.length->j<vs.length->i≠j->C (lt i j) { s with heap:=h,toks:=tk }->kas_ask P w A.in1.in1 κ vs i j C { s with heap:=h,toks:=tk })
  (fin:∀(h:ay) (tk:Nat) (h':ay) (p:Array Nat) (c:Nat),(∀b o,s.heap.get? b=aa o->h.get? b=aa o)->(∀b o,h.get? b=aa o->h'.get? b=aa o)->h'.get? h.objs.size=aa (seqObj "list" (v7 vs p).toArray c)->PP vs.length p->Yi lt p vs.length->Q (.ref h.objs.size) { s with heap:=h',toks:=tk }) :
  Bf (Bg P w) A (call (.builtin "sorted") [.ref l]) Q E s:=by
 refine mz kind_sorted rj rm (ro _) ?_;unfold Builtin.«sorted»;refine ba (m:=checkCount "sorted" 1 1 _) (bf ?_);refine ba (coll _ λh tk hk1=>?_);refine ba (nu ?_ (by rw[bT];lia));have hoL:(h.push (seqObj "list" vs.toArray 0)).get? h.objs.size=aa (seqObj "list" vs.toArray 0):=bG _ rfl;have kept:∀h',Kp h.objs.size (h.push (seqObj "list" vs.toArray 0)) h'->∀b o,h.get? b=aa o->h'.get? b=aa o:=λh' k b o e=>k b o (b7 (bQ e)) (bd _ e);refine ba (dM (cV oK ⟨_,hoL,Y⟩ om (VI (s:={ s with heap:=h.push (seqObj "list" vs.toArray 0),toks:=tk }) hoL h64 (κ:=κ) (lt:=lt) (λh2 h' Q' k q=>?_) (λh' i j C k hi hj hij q=>?_) S λh' p c k ho hp hr=>?_) (oM _)))
 ·exact hk h2 h' tk Q' (λb o e=>kept h' k b o (hk1 b o e)) q
 ·exact hc h' tk i j C (λb o e=>kept h' k b o (hk1 b o e)) hi hj hij q
 ·exact⟨_,Y,bf ⟨_,Y,fin h tk h' p c hk1 (kept h' k) ho hp hr⟩⟩
end
section
variable {lt:Nat->Nat->Bool}{n:Nat}
theorem PP.ask(h:PP n p)(hi:i<n)(hj:j<n)(hij:i≠j):gt p i<n/\gt p j<n/\gt p i≠gt p j:=⟨h.blt hi,h.blt hj,λz=>hij (h.inj hi hj z)⟩
theorem Kb{p:Array Nat}(hp:PP n p){k:Nat}(hk:k<n):∀(f l r:Nat),l<=r->r<=k->kOk lt n (oh p k f l r) λm=>m<=k
 |0,l,r,h1,h2=>bP h1 h2
 |f+1,l,r,h1,h2=>by
  unfold oh;split
  ·exact bP h1 h2
  ·obtain⟨x,y,z⟩:=hp.ask (i:=k) (j:=(l+r)/2) () () ();refine⟨x,y,z,?_⟩;show kOk lt n (if lt (gt p k) (gt p ((l+r)/2))=ah then oh p k f l ((l+r)/2) else oh p k f ((l+r)/2+1) r) _;split
   ·exact Kb hp hk f l _ () ()
   ·exact Kb hp hk f _ r () ()
end
def yb(a b:Str×Int):Bool:=if a.1=b.1 then decide (a.2<b.2) else decide (a.1.cps.toList<b.1.cps.toList)
def tV(h:ay)(v:af)(q:Str×Int):Prop:=∃a o t u n,v=.ref a/\h.get? a=aa o/\o.cls=.type "tuple"/\o.data=.seq #[.str q.1 t,.int q.2 u] n
section
variable {P:ax}{w:aA}{A:aB}{E:af->am->Prop}{s:am}
theorem zgk{Q:Bool->am->Prop}(h:Q (decide (a.cps.toList<c.cps.toList)) s):Bf (Bg P w) A (oneLt' ah (.str a t) (.str c u)) Q E s:=by
 rw[<-keyLt'_oneType];exact kas_lt_str h
theorem zgl{a c:Int}{Q:Bool->am->Prop}(h:Q (decide (a<c)) s):Bf (Bg P w) A (oneLt' aq (.int a t) (.int c u)) Q E s:=
 kat_one _ _ (oN (show W.BoolBack Q (.bool (decide (a<c))) s from h))
theorem zdu{a b:Str×Int}{Q:Bool->am->Prop}(hx:tV s.heap x a)(hy:tV s.heap y b)(h:Q (yb a b) s)(hn:a≠b):Bf (Bg P w) A (keyLt' (tuples' ah) x y) Q E s:=by
 obtain⟨p,o,t,u,n,rfl,ho,hc,hd⟩:=hx;obtain⟨p2,o2,t2,u2,n2,rfl,ho2,hc2,hd2⟩:=hy;refine kat_lt ho hd ho2 hd2 (kat_cons (wpAny_eqBool_str (kat_go (λe=>kat_yes (kat_cons (wpAny_eqBool_int (kat_go (λe2=>?_) λe2=>kat_no ?_)))) λe=>kat_no ?_)))
 ·exact absurd (rL (of_decide_eq_true e) (by simpa using e2)) hn
 ·have e:=of_decide_eq_true e;unfold yb at h;rw[au e] at h;exact zgl h
 ·have e:=of_decide_eq_false e;unfold yb at h;rw[ap e] at h;exact zgk h
theorem zbR{vs:List af}{qs:List (Str×Int)}{Q:SortKind->am->Prop}(hl:vs.length=qs.length)(hv:∀(i:Nat) (v:af) (q:Str×Int),vs[i]?=aa v->qs[i]?=aa q->tV s.heap v q)(h2:0<vs.length)(h:Q (tuples' ah) s) :
  Bf (Bg P w) A (keyKind' vs.toArray) Q E s:=by
 have T:∀(vs:List af) (qs:List (Str×Int)),vs.length=qs.length->(∀(i:Nat) (v:af) (q:Str×Int),vs[i]?=aa v->qs[i]?=aa q->tV s.heap v q)->∃fs,KatTups s.heap vs fs/\fs.length=vs.length/\∀v∈fs,∃x t,v=ic x t:=by
  intro vs;induction vs with
  |nil=>exact λqs _ _=>⟨[],trivial,Y,λ_ z=>nomatch z⟩
  |cons v r ih =>
   intro qs hl hv
   match qs,hl with
   |q::qr,hl =>
    obtain⟨fs,k,kl,kf⟩:=ih qr (by simpa using hl) λi v' q' e1 e2=>hv (i+1) v' q' (by simpa using e1) (by simpa using e2);obtain⟨a,o,t,u,n,rfl,ho,hc,hd⟩:=hv 0 v q Y rfl;refine⟨.str q.1 t::fs,sq ho hc hd Y k,by simp[kl],λz hz=>?_⟩;rcases bF.mp hz with rfl|hz
    ·exact⟨_,_,Y⟩
    ·exact kf z hz
 obtain⟨fs,k,kl,kf⟩:=T vs qs hl hv;refine kat_kind (T:=.type "str") k () (λv hv=>?_) () h;obtain⟨x,t,rfl⟩:=kf v hv;exact Looks.of_pure rfl
end
theorem zax{x y:Str}(h:x.cps.toList=y.cps.toList):x=y:=by
 obtain⟨a⟩:=x;obtain⟨b⟩:=y;have:a=b:=nH.mp h;rw[this]
theorem VJ{qs:List (Str×Int)}(hn:qs.Nodup):SO (λi j=>yb (qs.getD i ("",0)) (qs.getD j ("",0))) qs.length where
 irr:=λi _=>by
  unfold yb;rw[au rfl];exact Bk ()
 trans:=λi j k _ _ _ h1 h2=>by
  generalize qs.getD i ("",0)=a at *
  generalize qs.getD j ("",0)=b at *
  generalize qs.getD k ("",0)=c at *
  unfold yb at *
  by_cases e1:a.1=b.1
  ·rw[au e1] at h1;by_cases e2:b.1=c.1
   ·rw[au e2] at h2;rw[au (e1.trans e2)];have h1:=of_decide_eq_true h1;have h2:=of_decide_eq_true h2;exact Bj ()
   ·rw[ap e2] at h2;rw[ap (by rw[e1];exact e2),e1];exact h2
  ·rw[ap e1] at h1;have h1:=of_decide_eq_true h1;by_cases e2:b.1=c.1
   ·rw[ap (by rw[<-e2];exact e1),<-e2];exact Bj h1
   ·rw[ap e2] at h2;have h2:=of_decide_eq_true h2;have h3:=List.lt_trans h1 h2;rw[ap (λz=>by rw[z] at h3;exact List.lt_irrefl _ h3)];exact Bj h3
 tot:=λi j hi hj hij h=>by
  have ne:qs.getD i ("",0)≠qs.getD j ("",0):=λz=>hij (by
   rw[bO,bO,bc hi,bc hj] at z;exact(i7 hn).mp z)
  generalize qs.getD i ("",0)=a at *
  generalize qs.getD j ("",0)=b at *
  unfold yb at *
  by_cases e:a.1=b.1
  ·rw[au e] at h;rw[au e.symm];have h:=of_decide_eq_false h;have:a.2≠b.2:=λz=>ne (rL e z);exact Bj ()
  ·rw[ap e] at h;rw[ap (λz=>e z.symm)];have h:=of_decide_eq_false h;refine Bj ?_;rcases List.le_iff_lt_or_eq.mp (List.not_lt.mp h) with z|z
   ·exact z
   ·exact absurd (zax z.symm) e
end L2
namespace L2
open PySem
def tw(h:ay)(d:ac)(es:Array DictEntry)(ep:Nat):Prop:=∃o,h.get? d=aa o/\o.ExactDict/\o.data=.dict es ep
section
variable {P:ax}{w:aA}{A:aB}{E:af->am->Prop}{s:am}
theorem tw.type(x:tw s.heap d es ep):s.TypeIs (.ref d) "dict":=let ⟨o,ho,hc,_⟩:=x;⟨o,ho,hc.1⟩
theorem tw.at(x:tw h d es ep)(e:∀o,h.get? d=aa o->h'.get? d=aa o):tw h' d es ep:=let ⟨o,ho,r⟩:=x;⟨o,e _ ho,r⟩
theorem zay{Q:af->am->Prop}(lo:(d==sysModules)=aq)(hm:tw s.heap d es ep)
  (q:Q (.ref s.heap.objs.size) { s with heap:=s.heap.push { cls:=.type "dict_keyiterator",data:=.fields #[.ref d,.int 0 0,.int es.size 0,.int ep 0] } }):Bf (Bg P w) A (pyIter (.ref d)) Q E s:=by
 have T:=hm.type;obtain⟨o,ho,hc,hd⟩:=id hm;refine wpAny_pyIter_slot T F.slot_dict_iter (cV F.slot_dict_iter T F.entry_dict_iter ?_ (F.args_dict_iter_1 _));unfold Builtin.«dict.__iter__»;refine ba ?_;unfold Builtin.Dict.dictSlotNone;refine ba (fo T ?_);show Bf _ _ (pure (bK d)) _ _ s;refine bf ?_;show Bf _ _ (gy d >>= _) _ _ s;unfold gy;rw[ap (by rw[lo];exact bM)];refine ba (bf ?_);refine ba (dW ho hd ?_);refine ba (gA ho hd ?_);refine ba (c8 (bf ⟨_,Y,"dict_keyiterator",_,⟨_,bG _ Y,Y⟩,F.slot_dict_keyiterator_next.lookup,?_⟩));simpa[rawInt] using q
theorem zaz{Q:Option af->am->Prop}(hit:s.heap.IsKeyIter it d i es.size ep)(hm:tw s.heap d es ep)(hx:es[i]?=aa e)
  (q:∀h,h.IsKeyIter it d (i+1) es.size ep->cS it s.heap h->Q (aa e.key) { s with heap:=h }):Bf (Bg P w) A (pyNext (.ref it)) Q E s:=by
 obtain⟨o,ho,hc,hd⟩:=id hit;obtain⟨od,hod,hcd,hdd⟩:=id hm;have lt:i<es.size:=by
  rcases ib i es.size with h|h
  ·exact h
  ·rw[iD h] at hx;cases hx
 unfold pyNext;refine ba (iu (cW (name:=bb "__next__") hit.typeIs eT (cV eT hit.typeIs lj ?_ (iY _))));refine ba (bf ?_);refine ba ?_;refine ba ?_
 first|(refine ba (eQ hit.typeIs (bf ?_)))|(refine ba (fM hit.typeIs (bf ?_)))
 refine ba (mC ho hd ?_);have own:dX "dict_keyiterator"=aq:=by lia
 simp only[own,cE,if_false];show Bf _ _ (if (bK d==cR)=ah then _ else _) _ _ s;rw[ap (show ¬ ((bK d==cR)=ah) from bM)];refine ba (bf ?_);refine ba (dW hod hdd ?_);rw[ap (by simp)];refine ba (bf ?_);refine ba (gA hod hdd ?_);rw[ap (by simp)];refine bf ?_;simp only[show ¬ ((i:Int)<0) from by lia,if_false,eC,hx];refine ba ?_
 first|(refine ba (eQ hit.typeIs (bf ?_)))|(refine ba (fM hit.typeIs (bf ?_)))
 refine ba (on hit.typeIs ?_);show Bf _ _ (setField (.ref it) 1 (rawInt ((i:Int)+1)) >>= _) _ _ s;refine ba (iR ho hd (by simp) ?_);have next:(s.heap.update it (Obj.mapFields (·.setIfInBounds 1 (rawInt ((i:Int)+1))))).IsKeyIter it d (i+1) es.size ep:=by
  refine⟨_,eM _ ho (og (ir hd _)),(pS ..).trans hc,?_⟩;rw[ir hd];simp[rawInt]
 refine ba (dM ?_);refine ba (on (s:={ s with heap:=s.heap.update it (Obj.mapFields (·.setIfInBounds 1 (rawInt ((i:Int)+1)))) }) next.typeIs ?_);show Bf _ _ (pure e.key) _ _ _;exact bf (bf ⟨_,Y,bf (q _ next (df ..))⟩)
theorem zcB{Q:Option af->am->Prop}(hh:A.handled=ao)(hit:s.heap.IsKeyIter it d i es.size ep)(hm:tw s.heap d es ep)(hx:es.size<=i)
  (q:∀h,rS it s.heap h->Q ao { s with heap:=h }):Bf (Bg P w) A (pyNext (.ref it)) Q E s:=by
 obtain⟨o,ho,hc,hd⟩:=id hit;obtain⟨od,hod,hcd,hdd⟩:=id hm;unfold pyNext;refine ba (iu (cW (name:=bb "__next__") hit.typeIs eT (cV eT hit.typeIs lj ?_ (iY _))));refine ba (bf ?_);refine ba ?_;refine ba ?_
 first|(refine ba (eQ hit.typeIs (bf ?_)))|(refine ba (fM hit.typeIs (bf ?_)))
 refine ba (mC ho hd ?_);have own:dX "dict_keyiterator"=aq:=by lia
 simp only[own,cE,if_false];show Bf _ _ (if (bK d==cR)=ah then _ else _) _ _ s;rw[ap (show ¬ ((bK d==cR)=ah) from bM)];refine ba (bf ?_);refine ba (dW hod hdd ?_);rw[ap (by simp)];refine ba (bf ?_);refine ba (gA hod hdd ?_);rw[ap (by simp)];refine bf ?_;simp only[show ¬ ((i:Int)<0) from by lia,if_false,eC,iD hx];refine ba ?_
 first|(refine ba (eQ hit.typeIs (bf ?_)))|(refine ba (fM hit.typeIs (bf ?_)))
 show Bf _ _ (setField (.ref it) 0 .none >>= _) _ _ s;refine ba (iR ho hd (by simp) ?_);show Bf _ _ (newExc (.type "StopIteration") [] >>= _) _ _ _;refine ba ?_;simp only[newExc,newTuple];refine ba (c8 ?_ (by size_fits));refine ba (m:=firstArgMember _ _) (wpAny_of_eq (a:=cR) (by first|rfl|(simp only[firstArgMember];rfl)) ?_);refine c8 ?_ (by size_fits);simp only[raiseNew];refine ba (pC ?_);rw[show A.in1.handled=ao from hh];refine ba (bf (wpAny_throw ?_));exact ba (nI (T:="StopIteration") (b:=ah) ⟨_,bG _ Y,Y⟩ oJ (bf (q _ (((df ..).extBut.push _).push _))))
theorem zdv(hh:A.handled=ao)(I d:ac)(hne:d≠I)(es:Array DictEntry)(ep:Nat) :
  Walks P w A I [I,d] [I] es.size (λi v=>∃e,es[i]?=aa e/\v=e.key) (λi h=>h.IsKeyIter I d i es.size ep/\tw h d es ep) where
 sub:=λb hb=>by simp at hb;simp[hb]
 frame:=λ_ _ _ st hk=>⟨st.1.at λo e=>hk I (by simp) o e,st.2.at λo e=>hk d (by simp) o e⟩
 item:=λi s Q E hi st hQ=>by
  refine zaz st.1 st.2 (cx hi) λh' hit' hs'=>?_;exact hQ _ h' s.toks ⟨_,cx hi,Y⟩ ⟨hit',st.2.at λo e=>hs'.extBut d o hne e⟩ λb o hb e=>hs'.extBut b o (λh=>hb (by simp[h])) e
 done:=λs Q E st hQ=>zcB hh st.1 st.2 (bp _) λh' he'=>hQ h' s.toks λb o hb e=>he' b o (λh=>hb (by simp[h])) e
 self:=λ_ _ _ _ st hQ=>oB st.1 hQ
end
end L2
namespace L2
open PySem PySem.Spec PyProof.Rows
section
open PySem.SeqAt
open PySem.AutoSeq1 (wpAny_loadPart')
open PySem.MeetsSeq PySem.MeetsSeq2 PySem.MeetsSeq3
theorem VL(l b:ac)(x y:Str)(i j:Int)(t u t2 u2:Tok)(n n2:Nat)(dd dd2:Option ac)(sl sl2:Array (Option af)) :
  Meets (Builtin.«tuple.__lt__» ⟨[.ref l,.ref b],[]⟩) (λ_ R s=>s.heap.get? l=aa { cls:=.type "tuple",dict:=dd,data:=.seq #[.str x t,.int i u] n,slots:=sl } /\
   s.heap.get? b=aa { cls:=.type "tuple",dict:=dd2,data:=.seq #[.str y t2,.int j u2] n2,slots:=sl2 }/\R (.ok (.ret (.bool (yb (x,i) (y,j))))) s) :=
 .of_wp λprog w A R s h=>by
  obtain⟨hp,g,d,tk,os⟩:=s;obtain⟨hl,hb,h⟩:=h;have f2:=AutoSeq1.sub_tuple_tuple;have lt1:∀(E:af->am->Prop) (Q:af->am->Prop) (s:am),Q (.bool (decide (x.cps.toList<y.cps.toList))) s->Bf (Bg prog w) A.in1 (richCompare .Lt (.str x t) (.str y t2)) Q E s:=λE Q s q=>(PyProof.Rows.lt_str q:Bf (Bg prog w) A.in1 (Bi .Lt (.str x t) (.str y t2)) Q E s);have lt2:=HT.rcLt_int A.in1 ⟨hp,g,d,tk,os⟩ i u j u2 prog w;by_cases e:x=y
  ·subst e;have eq1:=mh (A:=A.in1) (s:=⟨hp,g,d,tk,os⟩) x t x t2 prog w;rw[beq_self_eq_true] at eq1;unfold yb at h;rw[au rfl] at h;by_cases e2:i=j
   ·subst e2;have eq2:=mf (A:=A.in1) (s:=⟨hp,g,d,tk,os⟩) i u i u2 prog w;rw[beq_self_eq_true] at eq2
    wp_walk using gB hl,gB hb,eq1,eq2
    exact⟨_,Y,by simpa[Builtin.Tuple.tupleCompareSizes] using h⟩
   ·have eq2:=mf (A:=A.in1) (s:=⟨hp,g,d,tk,os⟩) i u j u2 prog w;rw[show (i==j)=aq from by simpa using e2] at eq2
    wp_walk using gB hl,gB hb,eq1,eq2,lt2
    exact⟨_,Y,by simpa using h⟩
  ·have eq1:=mh (A:=A.in1) (s:=⟨hp,g,d,tk,os⟩) x t y t2 prog w;rw[show (x==y)=aq from by simpa using e] at eq1;unfold yb at h;rw[ap e] at h
   wp_walk using gB hl,gB hb,eq1,lt1
   exact⟨_,Y,by simpa using h⟩
end
section
variable {P:ax}{w:aA}{A:aB}{E:af->am->Prop}{s:am}
theorem tw.lt(x:tw h d es ep):d<h.objs.size:=let ⟨_,ho,_⟩:=x;bQ ho
theorem Qg{d:ac}{es:Array DictEntry}{ep:Nat}(lo:(d==sysModules)=aq):W.KdlSrc P w "dict" d d es.size (λi v=>∃e,es[i]?=aa e/\v=e.key) (λh=>tw h d es ep) where
 type:=λ_ hm=>hm.type
 there:=λ_ hm=>⟨hm.lt,hm.lt⟩
 keep:=λ_ _ hm hk=>hm.at λo e=>hk d (.inl Y) o e
 notList:=by lia
 notTuple:=by lia
 hint:=λ_ _ _ _ hm hq=>W.kdl_hint_dict hm.type hq
 iter:=λ_ _ hh hm=>⟨_,_,(λ_ _ hq=>zay lo hm hq),zdv hh _ d (b7 hm.lt) es ep,⟨⟨_,bG _ Y,Y,Y⟩,hm.at λo e=>bd _ e⟩⟩
theorem WK{G:Nat->af->Prop}{OK:ay->Prop}{R:List af->am->Prop}(K:W.KdlSrc P w T r d n G OK)(hh:A.handled=ao)(hok:OK s.heap)(hn:n<=Bb)
  (h:∀(h':ay) (tk:Nat) (vs:List af),(∀b o,s.heap.get? b=aa o->h'.get? b=aa o)->vs.length=n->(∀j v,vs[j]?=aa v->G j v)->R vs { s with heap:=h',toks:=tk }) :
  Bf (Bg P w) A (collect (.ref r)) R E s:=by
 obtain⟨lr,ld⟩:=K.there _ hok;unfold collect;refine ba (wpAny_runValue (e9 oC ?_));rw[dI lR _];show Bf _ A.in1 (newList [] >>= λl=>again (.builtin "list.__iadd__" ⟨[l,.ref r],[]⟩)) _ _ s;refine ba (c8 ?_);refine bf ⟨gG fQ _,e9 entry_list_iadd' ?_⟩;rw[dI fQ _];have hS:(s.heap.push { cls:=.type "list",data:=.seq ([]:List af).toArray }).get? s.heap.objs.size=aa { cls:=.type "list",data:=.seq #[] }:=bG _ rfl;show Bf _ A.in1 (dD (.ref s.heap.objs.size) (.ref r) (.ref s.heap.objs.size)) _ _ _;have key:=W.kdl_extend (A:=A) (s:={ s with heap:=s.heap.push { cls:=.type "list",data:=.seq ([]:List af).toArray } }) (R:=λ(q:aF) (s':am)=>∃(h':ay) (tk:Nat) (acc:Array af) (c:Nat),q=.ok (.ret (.ref s.heap.objs.size))/\s'={ s with heap:=h',toks:=tk } /\
   (∀b o,s.heap.get? b=aa o->h'.get? b=aa o)/\h'.get? s.heap.objs.size=aa { cls:=.type "list",dict:=ao,data:=.seq acc c,slots:=#[] }/\ItemsOf G acc n) K hh (K.keep _ _ hok λb _ o e=>bd _ e) s.heap.objs.size (fi lr) (fi ld) (.ref s.heap.objs.size) 0 hS
  (λh' tk acc c hk hS' hacc=>⟨h',tk,acc,c,Y,Y,λb o e=>hk b o (b7 (bQ e)) (bd _ e),hS',hacc⟩) hn
 refine dR key (λfin s' x=>?_) λe s' x=>?_
 ·cases fin with
  |done f =>
   obtain⟨h',tk,acc,c,e,rfl,hk,hS',hacc⟩:=x;cases e;show Bf _ A (load s.heap.objs.size >>= _) _ _ _;refine ba (oy hS' ?_);exact bf (h h' tk acc.toList hk (by rw[cF];exact hacc.1) λj v e=>hacc.2 j v (by rw[<-dC];exact e))
  |again c =>
   refine⟨x.1,gj x.2 λq s' x=>?_⟩;obtain⟨h',tk,acc,c,rfl,rfl,hk,hS',hacc⟩:=x;show Bf _ A (load s.heap.objs.size >>= _) _ _ _;refine ba (oy hS' ?_);exact bf (h h' tk acc.toList hk (by rw[cF];exact hacc.1) λj v e=>hacc.2 j v (by rw[<-dC];exact e))
 ·obtain⟨h',tk,acc,c,e',_⟩:=x;cases e'
end
def zt(q:Str×Int):List bv:=[.inr q.1,.inl q.2]
abbrev zeC:RC:=λxs H Q=>∃(a:ac) (aO:List (List bv×V)) (qs:List (Str×Int)),xs=[.ref a]/\H a=aa (.dT aO)/\aO.map (·.1)=qs.map zt/\aO.length<64 /\
 ∀(l:ac) (ps:List (ac×(Str×Int))),H l=ao->(ps.map (·.2)).Perm qs->(ps.map (·.2)).Pairwise (λa b=>yb a b=ah)->(∀n∈ps,H n.1=aa (.tup [.str n.2.1,.int n.2.2]))->Q (.ref l) (upd H l (.lst (ps.map λn=>V.ref n.1)))
theorem yF{α β:Type}{F:α->β->Prop}:∀ {l₁:List α} {l₂:List β},Paired F l₁ l₂->∀ {i:Nat} {a:α} {b:β},l₁[i]?=aa a->l₂[i]?=aa b->F a b
 |_,_,.nil,i,a,b,h,_=>by simp at h
 |_,_,.cons x r,0,a,b,h1,h2=>by
  simp only[br,bI] at h1 h2;subst h1 h2;exact x
 |_,_,.cons x r,i+1,a,b,h1,h2=>yF r (by simpa using h1) (by simpa using h2)
theorem tV.keep{q:Str×Int}(x:tV h v q)(k:∀b o,h.get? b=aa o->h'.get? b=aa o):tV h' v q:=by
 obtain⟨a,o,t,u,n,e,ho,r⟩:=x;exact⟨a,o,t,u,n,e,k _ _ ho,r⟩
section
variable {X:Cx}
theorem zaA{σ:St}{H:B}{s:am}{a:ac}{q:Str×Int}(I:aU X aM σ H s)(h:H a=aa (.tup [.str q.1,.int q.2])):tV s.heap (.ref a) q:=by
 obtain⟨its,rv,⟨o,ho,hc,n,hd⟩,_⟩:=I.tuple (sI.of h);cases rv with
 |cons r1 rr =>
  cases rr with
  |cons r2 rn =>
   cases rn;obtain⟨t,rfl⟩:=r1;obtain⟨u,rfl⟩:=r2;exact⟨a,o,t,u,n,Y,ho,hc,hd⟩
theorem xz{α β:Type}{f:α->β}:∀ {l:List α},(l.map f).Nodup->l.Nodup
 |[],_=>cI
 |a::r,h=>by
  rw[bx,ca] at h;exact ca.mpr ⟨λz=>h.1 (bu z),xz h.2⟩
theorem Qh(hc:X.calm=ah):jE X (.builtin "sorted") zeC:=by
 intro aM s σ H xs us Q I r h;obtain⟨a,aO,qs,rfl,ha,hk,h64,q⟩:=h;obtain⟨u,rfl,ru⟩:=jF r;cases ru;obtain⟨hz,lo,xs,rel,o,es,ep,ho,hx,hd,he,hn⟩:=(show dl X.prog X.w H s.heap a (.dT aO) from I.hok a _ ha);have hh:X.A.handled=ao:=I.ok.hd hc;have lk:aO.length=qs.length:=by have:=congrArg cp hk;simpa using this
 have lx:aO.length=xs.length:=bN rel;have les:es.size=xs.length:=by rw[<-cF,he,bg]
 -- the keys in their order
 have key:∀(i:Nat) (x:List bv×ac×af),xs[i]?=aa x->∃q,qs[i]?=aa q/\x.1=zt q/\H x.2.1=aa (.tup [.str q.1,.int q.2]):=λi x hx=>by
  have hi:=(bn.mp hx).1;obtain⟨kv,hkv⟩:∃kv,aO[i]?=aa kv:=⟨_,bc ()⟩;obtain⟨q,hq⟩:∃q,qs[i]?=aa q:=⟨_,bc ()⟩;have rl:=yF rel hkv hx;have e1:kv.1=zt q:=by
   have e1:(aO.map (·.1))[i]?=aa kv.1:=by rw[bB,hkv];rfl
   have e2:(qs.map zt)[i]?=aa (zt q):=by rw[bB,hq];rfl
   rw[hk,e2] at e1;exact(bL e1).symm
  refine⟨q,hq,by rw[<-rl.1,e1],?_⟩;have:=rl.2.1;rw[e1] at this;exact this
 have nq:qs.Nodup:=by
  refine xz (f:=zt) ?_;have e:xs.map (·.1)=qs.map zt:=by
   rw[<-hk];apply fK;intro i;rw[bB,bB];cases hx:xs[i]? with
   |none =>
    have:xs.length<=i:=by simpa using hx
    rw[cN (by lia:aO.length<=i)];rfl
   |some x =>
    have hi:=(bn.mp hx).1;have hkv:aO[i]?=aa aO[i]:=bc ();rw[hkv];have:=(yF rel hkv hx).1;simp[this]
  rw[<-e];exact hn
 have vv:∀(i:Nat) (v:af) (q:Str×Int),(xs.map λx=>bK x.2.1)[i]?=aa v->qs[i]?=aa q->tV s.heap v q:=λi v q hv hq=>by
  rw[bB] at hv;obtain⟨x,hx,rfl⟩:=b8.mp hv;obtain⟨q',hq',_,hH⟩:=key i x hx;rw[hq] at hq';cases hq';exact zaA I hH
 have lv:(xs.map λx=>bK x.2.1).length=qs.length:=by rw[bg];lia
 have vat:∀i,i<qs.length->tV s.heap ((xs.map λx=>bK x.2.1).getD i cR) (qs.getD i ("",0)):=λi hi=>by
  refine vv i _ _ ?_ ?_
  ·rw[bO,bc (by rw[lv];exact hi)];rfl
  ·rw[bO,bc hi];rfl
 have S:=VJ nq;rw[<-lv] at S;refine zaw (vs:=xs.map λx=>bK x.2.1) (κ:=tuples' ah) (by rw[bg];lia) S (λR hR=>?_) (λh2 h tk Q' kp q'=>?_) (λh tk i j C kp hi hj hij q'=>?_) λh tk h' p c k1 k2 hD hp hr=>?_
 ·refine WK (Qg (ep:=ep) (es:=es) lo) hh ⟨o,ho,hx,hd⟩ (by rw[les];lia) λh' tk vs kp hl hG=>?_;have ev:vs=xs.map λx=>bK x.2.1:=by
   apply fK;intro i;by_cases hi:i<vs.length
   ·obtain⟨e,hes,ek⟩:=hG i vs[i] (bc hi);have e2:es.toList[i]?=aa e:=by rw[dC];exact hes
    rw[he,bB] at e2;obtain⟨x,hxx,ex⟩:=b8.mp e2;rw[bc hi,ek,bB,hxx,<-ex];rfl
   ·rw[cN (),cN (by rw[bg];lia)]
  rw[ev];exact hR h' tk kp
 ·exact zbR (s:={ s with heap:=h,toks:=tk }) lv (λi v q hv hq=>(vv i v q hv hq).keep kp) () q'
 ·rw[lv] at hi hj;refine zdu (s:={ s with heap:=h,toks:=tk }) ((vat i hi).keep kp) ((vat j hj).keep kp) q' λz=>hij ?_;rw[bO,bO,bc hi,bc hj] at z;exact(i7 nq).mp z
 ·have I1:aU X aM σ H { s with heap:=h,toks:=tk }:=I.kept k1;have ps:∃ps:List (ac×(Str×Int)),ps.map (λn=>bK n.1)=v7 (xs.map λx=>bK x.2.1) p/\ps.map (·.2)=p.toList.map (λi=>qs.getD i ("",0))/\∀n∈ps,H n.1=aa (.tup [.str n.2.1,.int n.2.2]):=by
   have pl:∀i∈p.toList,i<xs.length:=λi hi=>by
    have:i∈p:=by simpa using hi
    have:=(pE hp).mp this;rw[bg] at this;simpa using this
   refine⟨p.toList.map λi=>((xs.getD i ([],0,.none)).2.1,qs.getD i ("",0)),?_,by rw[dE];rfl,λn hn=>?_⟩
   ·unfold v7;rw[dE];refine dO λi hi=>?_;have:=pl i hi;simp[bO,bB,bc this]
   ·obtain⟨i,hi,rfl⟩:=bD.mp hn;have hl:=pl i hi;obtain⟨q,hq,_,hH⟩:=key i xs[i] (bc hl);have e1:xs.getD i ([],0,.none)=xs[i]:=by rw[bO,bc hl];rfl
    have e2:qs.getD i ("",0)=q:=by rw[bO,hq];rfl
    show H (xs.getD i ([],0,.none)).2.1=aa (.tup [.str (qs.getD i ("",0)).1,.int (qs.getD i ("",0)).2]);rw[e1,e2];exact hH
  obtain⟨ps,e1,e2,hps⟩:=ps;have vr:aX (ps.map λn=>V.ref n.1) (ps.map λn=>bK n.1):=by
   clear e1 e2 hps;induction ps with
   |nil=>exact .nil
   |cons n r ih=>exact .cons Y ih
  have psz:p.size=xs.length:=by have:=hp.size;rw[bg] at this;exact this
  have pln:ps.length=xs.length:=by have:=congrArg cp e1;unfold v7 at this;simpa[psz] using this
  have I2:aU X aM σ (upd H h.objs.size (.lst (ps.map λn=>V.ref n.1))) { s with heap:=h',toks:=tk }:=I1.laid (s:={ s with heap:=h,toks:=tk }) (a:=h.objs.size) (o:=.lst (ps.map λn=>V.ref n.1)) (t':=tk) k2 (bp _)
   ⟨by rw[bg];lia,ps.map λn=>bK n.1,c,vr,by rw[e1];exact hD⟩
  refine⟨.ref h.objs.size,_,I2,Y,q _ ps (I1.hok.fresh (bp _)) ?_ ?_ hps⟩
  ·rw[e2];have pr:p.toList.Perm (dL qs.length):=by
    have:=gJ.mp hp;rw[lv] at this;simpa using this
   refine(pr.map _).trans ?_;have:(dL qs.length).map (λi=>qs.getD i ("",0))=qs:=by
    apply fK;intro i;rw[bB];by_cases hi:i<qs.length
    ·rw[lQ hi,bc hi];simp[bO,bc hi]
    ·rw[cN (by simpa using hi),cN ()];rfl
   rw[this]
  ·rw[e2,gH,eG];intro i j hi hj hij;rw[cF] at hi hj;have g1:=kM hi;have g2:=kM hj;have r:=hr i j hij (by rw[bg];lia);have x1:p.toList[i]=gt p i:=by
    rw[cx hi] at g1;simpa using g1
   have x2:p.toList[j]=gt p j:=by
    rw[cx hj] at g2;simpa using g2
   rw[x1,x2];exact r
end
def Itd(a:ac)(o:Obj)(aO:List (List bv×V)):It :=
 ⟨λi H=>H a=aa (.frz o (.dT aO))/\i<aO.length,λi H x H'=>H'=H/\∃k v p,aO[i]?=aa (k,v)/\x=.ref p/\H p=aa (.tup (k.map kV)),λi H=>H a=aa (.frz o (.dT aO))/\aO.length<=i⟩
section
variable {X:Cx}
theorem Qi{σ:St}{H:B}{s:am}{a:ac}{o:Obj}{aO:List (List bv×V)}(I:aU X aM σ H s)(ha:H a=aa (.frz o (.dT aO))) :
  (a==sysModules)=aq/\∃(es:Array DictEntry) (ep:Nat),o.data=.dict es ep/\tw s.heap a es ep/\es.size=aO.length/\∀(i:Nat) (e:DictEntry),es[i]?=aa e->∃(k:List bv) (v:V) (p:ac),aO[i]?=aa (k,v)/\e.key=bK p/\H p=aa (.tup (k.map kV)):=by
 obtain⟨hg,hz,lo,xs,rel,o',es,ep,ho,hx,hd,he,hn⟩:=(show dl X.prog X.w H s.heap a (.frz o (.dT aO)) from I.hok a _ ha);rw[hg] at ho;cases ho;have lx:aO.length=xs.length:=bN rel;have les:es.size=xs.length:=by rw[<-cF,he,bg]
 refine⟨lo,es,ep,hd,⟨o,hg,hx,hd⟩,(),λi e hi=>?_⟩;have e2:es.toList[i]?=aa e:=by rw[dC];exact hi
 rw[he,bB] at e2;obtain⟨x,hxx,ex⟩:=b8.mp e2;have hl:=(bn.mp hxx).1;have hk:aO[i]?=aa aO[i]:=bc ();have rl:=yF rel hk hxx;refine⟨aO[i].1,aO[i].2,x.2.1,hk,by rw[<-ex];rfl,rl.2.1⟩
theorem zbS{P:ax}{w:aA}{K:bw}{tg:aD}{a it:ac}{o:Obj}{aO:List (List bv×V)}{es:Array DictEntry}{ep:Nat}(hd:o.data=.dict es ep) :
  zc5 P w K tg (Itd a o aO) [it] it (λi h=>h.IsKeyIter it a i es.size ep) where
 mem:=by simp
 obj:=λi h st b hb=>by
  have e:b=it:=by simpa using hb
  subst e;obtain⟨o,e,c,d⟩:=st;exact⟨o,e,λv z=>by rw[d] at z;cases z⟩
 keep:=λi h h' st k=>st.at λo e=>k it (by simp) o e
 item:=by
  intro X hP hw hK hc i aM s σ H E I hf st hg;subst hP hw hK;obtain⟨ha,hi⟩:=hg;obtain⟨lo,es',ep',hd',raw,hs,key⟩:=Qi I ha;rw[hd] at hd';cases hd';obtain⟨f0,f1,f2,f3,f4,f5⟩:=hf it (by simp);have hx:es[i]?=aa es[i]:=cx ();obtain⟨k,v,p,hk,ek,hp⟩:=key i _ hx;refine zaz st raw hx λh' st' sb=>?_;have I1:aU X aM σ H { s with heap:=h' }:=I.turned (t':=s.toks) (λb o hb e=>(sb.2 b hb).trans e) f0 f1 f3 f4 f5;obtain⟨o',e,c,d⟩:=id st';exact⟨_,Y,zci (s:={ s with heap:=h' }) e c d () ⟨.ref p,H,I1,by rw[ek];rfl,⟨Y,k,v,p,hk,Y,hp⟩,st',λb hb=>(hf b hb).1⟩⟩
 done:=by
  intro X hP hw hK hc i aM s σ H E I hf st hg;subst hP hw hK;obtain⟨ha,hi⟩:=hg;obtain⟨lo,es',ep',hd',raw,hs,key⟩:=Qi I ha;rw[hd] at hd';cases hd';obtain⟨f0,f1,f2,f3,f4,f5⟩:=hf it (by simp);exact zcB (I.ok.hd hc) st raw () λh' eb=>⟨Y,I.turned (t':=s.toks) (λb o hb e=>eb b o hb e) f0 f1 f3 f4 f5⟩
 self:=λ_ _ _ _ _ st h=>oB st h
def iDT(tl:TE):TI:=λσ H R=>tl σ H λx H1=>∃a o aO,x=.ref a/\H1 a=aa (.frz o (.dT aO))/\R (Itd a o aO) H1
theorem zeD{tl:TE}(hl:PE X l tl):PI X tg l (iDT tl):=by
 intro aM s σ H R I h;refine sr (hl aM s σ H _ I h) λv s1 ⟨x,H1,I1,r1,q1⟩=>?_;obtain⟨a,o,aO,e,ha,q⟩:=q1;subst e;cases r1;obtain⟨lo,es,ep,hd,raw,hs,key⟩:=Qi I1 ha;refine zay lo raw ?_;refine⟨s1.heap.objs.size,[s1.heap.objs.size],_,_,H1,Y,I1.kept (t':=s1.toks) λb o e=>bd _ e,zbS hd,⟨_,bG _ Y,Y,Y⟩,λb hb=>?_,q⟩;have e:b=s1.heap.objs.size:=by simpa using hb
 subst e;exact I1.fpOk (bp _) (I1.hok.fresh (bp _))
def zeE:HO->Prop
 |.tup _=>False
 |.own _=>False
 |.tbl _=>False
 |_=>True
theorem aU.relab{σ:St}{H:B}{s:am}{a:ac}{u u':HO}(I:aU X aM σ H s)(ha:H a=aa u)(hp:zeE u)(hf:∀o z,X.H₀ a≠aa (.frz o z))(ho:dl X.prog X.w (upd H a u') s.heap a u'):aU X aM σ (upd H a u') s:=by
 have nn:∀b,H b=ao->b≠a:=λb n z=>by subst z;rw[n] at ha;cases ha
 have ntup:∀b xs,H b=aa (.tup xs)->b≠a:=λb xs q z=>by subst z;rw[ha] at q;cases q;exact hp
 have nown:∀b y,H b=aa (.own y)->b≠a:=λb y q z=>by subst z;rw[ha] at q;cases q;exact hp
 have ntbl:∀b y,H b=aa (.tbl y)->b≠a:=λb y q z=>by subst z;rw[ha] at q;cases q;exact hp
 refine⟨I.ok,I.os,I.bare,⟨I.base.keep,I.base.slot,λb o q n hb=>?_,I.base.there,λb xs q=>?_,λb o z q=>?_,λb ps q=>?_⟩,I.loc,I.cell,?_,λx c e=>?_,λp hp=>?_,λb v q=>?_,I.len⟩
 ·have:=I.base.free b o q n hb;rw[zh (nn b this)];exact this
 ·have:=I.base.tups b xs q;rw[zh (ntup b xs this)];exact this
 ·have:=I.base.frzs b o z q;rw[zh (λe=>hf o z (by rw[<-e];exact q))];exact this
 ·obtain⟨m,e⟩:=I.base.tbls b ps q;exact⟨m,by rw[zh (ntbl b _ e)];exact e⟩
 ·rw[zh (nn _ I.free)];exact I.free
 ·have:=I.freeC x c e;rw[zh (nn _ this)];exact this
 ·obtain⟨h1,h2,h3⟩:=I.pin p hp;exact⟨h1,by rw[zh (nn _ h2)];exact h2,h3⟩
 ·by_cases hb:b=a
  ·subst hb;rw[ze] at q;cases q;exact ho
  ·rw[zh hb] at q;exact(I.hok b v q).stay (λ_ _ _ r=>r) (λc r=>by rw[zh (nown c b r)];exact r) λc xs r=>by rw[zh (ntup c xs r)];exact r
def zhL(t:TS):TS:=λD σ H=>∃a u0 aO,H a=aa u0/\(u0=.dT aO\/∃o,u0=.frz o (.dT aO))/\∀o,t
 ⟨λσ' H'=>H' a=aa (.frz o (.dT aO))/\D.nx σ' (upd H' a u0),λv H'=>H' a=aa (.frz o (.dT aO))/\D.rt v (upd H' a u0),λσ' H'=>H' a=aa (.frz o (.dT aO))/\D.bk σ' (upd H' a u0),λσ' H'=>H' a=aa (.frz o (.dT aO))/\D.ct σ' (upd H' a u0)⟩ σ (upd H a (.frz o (.dT aO)))
theorem dl.upd_dT{H:B}(ha:H a=aa u)(hp:zeE u)(x:dl P w H h a (.dT aO)):dl P w (upd H a u') h a (.dT aO):=by
 refine x.stay (λ_ _ _ r=>r) (λc r=>?_) λc xs r=>?_
 ·rw[zh λz=>by subst z;rw[ha] at r;cases r;exact hp];exact r
 ·rw[zh λz=>by subst z;rw[ha] at r;cases r;exact hp];exact r
theorem zhM{st:aC}{t:TS}(hst:PS X st t):PS X st (zhL t):=by
 rintro aM s σ H D I ⟨a,u0,aO,ha,hu,h⟩;have pl:zeE u0:=by rcases hu with rfl|⟨o,rfl⟩ <;> trivial
 -- the object as it stands
 have ob:∃o,s.heap.get? a=aa o/\(u0=.dT aO\/u0=.frz o (.dT aO)):=by
  rcases hu with rfl|⟨o,rfl⟩
  ·obtain⟨hz,lo,xs,rel,o,es,ep,ho,_⟩:=(show dl X.prog X.w H s.heap a (.dT aO) from I.hok a _ ha);exact⟨o,ho,.inl Y⟩
  ·exact⟨o,(show dl X.prog X.w H s.heap a (.frz o (.dT aO)) from I.hok a _ ha).1,.inr Y⟩
 obtain⟨o,ho,hu⟩:=ob;have I1:aU X aM σ (upd H a (.frz o (.dT aO))) s:=by
  rcases hu with rfl|rfl
  ·refine I.relab ha trivial (λo' z q=>?_) ⟨ho,dl.upd_dT ha trivial (I.hok a _ ha)⟩;have:=I.base.frzs a o' z q;rw[ha] at this;cases this
  ·have e:upd H a (.frz o (.dT aO))=H:=by
    funext b;unfold upd;split
    ·next z=>rw[z];exact ha.symm
    ·rfl
   rw[e];exact I
 have back:∀ {σ':St} {H':B} {s':am},aU X aM σ' H' s'->H' a=aa (.frz o (.dT aO))->aU X aM σ' (upd H' a u0) s':=λ{σ' H' s'} I' ha'=>by
  rcases hu with rfl|rfl
  ·refine I'.relab ha' trivial (λo' z q=>?_) (dl.upd_dT ha' trivial (show dl X.prog X.w H' s'.heap a (.frz o (.dT aO)) from I'.hok a _ ha').2);have:=I.base.frzs a o' z q;rw[ha] at this;cases this
  ·have e:upd H' a (.frz o (.dT aO))=H':=by
    funext b;unfold upd;split
    ·next z=>rw[z];exact ha'.symm
    ·rfl
   rw[e];exact I'
 refine sr (hst aM s σ _ _ I1 (h o)) λf s' q=>?_;cases f with
 |next=>obtain⟨σ',H',I',ha',q⟩:=q;exact⟨σ',_,back I' ha',q⟩
 |brk=>obtain⟨σ',H',I',ha',q⟩:=q;exact⟨σ',_,back I' ha',q⟩
 |cont=>obtain⟨σ',H',I',ha',q⟩:=q;exact⟨σ',_,back I' ha',q⟩
 |ret v=>obtain⟨x,σ',H',I',r,ha',q⟩:=q;exact⟨x,σ',_,back I' ha',r,q⟩
end
section
variable {σ:St}{H:B}{nx:St->B->Prop}{Bo:V->St->B->(St->B->Prop)->Prop}
theorem zbT(Pv:Nat->St->B->Prop)(h0:Pv 0 σ H)(hl:∀i σ H,Pv i σ H->H a=aa (.frz o (.dT aO)))
  (hs:∀i k v p σ H,aO[i]?=aa (k,v)->H p=aa (.tup (k.map kV))->Pv i σ H->Bo (.ref p) σ H (Pv (i+1))) (hd:∀σ H,Pv aO.length σ H->nx σ H) :
  ∃W:Nat->Nat->St->B->Prop,(∃m,W 0 m σ H)/\∀i m σ H,W i m σ H->((Itd a o aO).stop i H/\nx σ H)\/((Itd a o aO).go i H/\∃N:St->B->Prop,(∀σ' H',N σ' H'->∃m',m'<m/\W (i+1) m' σ' H')/\∀x H',(Itd a o aO).yld i H x H'->Bo x σ H' N):=by
 refine⟨λi m σ H=>m=aO.length-i/\i<=aO.length/\Pv i σ H,⟨aO.length,by simp,bW _,h0⟩,?_⟩;rintro i m σ H ⟨rfl,hi,pv⟩;by_cases hlt:i<aO.length
 ·refine .inr ⟨⟨hl i σ H pv,hlt⟩,Pv (i+1),λσ' H' p'=>⟨aO.length-(i+1),(),Y,hlt,p'⟩,?_⟩;rintro x H' ⟨rfl,k,v,p,hk,rfl,hp⟩;exact hs i k v p σ _ hk hp pv
 ·obtain rfl:i=aO.length:=by lia
  exact .inl ⟨⟨hl _ σ H pv,bp _⟩,hd σ H pv⟩
end
mutual
inductive Dat (K:bw) (H:B):V->PyData->Prop
 |non:Dat K H .non .none
 |bl (b:Bool):Dat K H (.bl b) (.bool b)
 |int (i:Int):Dat K H (.int i) (.int i)
 |str (x:Str):Dat K H (.str x) (.str x)
 |lst {a:ac} {xs:List V} {ds:List PyData}:aY K H a xs->sZ K H xs ds->Dat K H (.ref a) (.list ds)
 |tup {a:ac} {xs:List V} {ds:List PyData}:sI K H a xs->sZ K H xs ds->Dat K H (.ref a) (.tuple ds)
inductive sZ (K:bw) (H:B):List V->List PyData->Prop
 |nil:sZ K H [] []
 |cons {x:V} {d:PyData} {xs:List V} {ds:List PyData}:Dat K H x d->sZ K H xs ds->sZ K H (x::xs) (d::ds)
end
section
variable {X:Cx}{aM:List (ac×Obj)}{σ:St}{H:B}{s:am}
mutual
theorem Dat.reads(I:aU X aM σ H s):∀ {x:V} {d:PyData} {u:af},Dat X.K H x d->aZ x u->∃as,Reads s.heap u d as
 |_,_,_,.non,r=>by cases r;exact⟨_,.none⟩
 |_,_,_,.bl b,r=>by cases r;exact⟨_,.bool b⟩
 |_,_,_,.int i,r=>by obtain⟨t,rfl⟩:=r;exact⟨_,.int i t⟩
 |_,_,_,.str x,r=>by obtain⟨t,rfl⟩:=r;exact⟨_,.str x t⟩
 |_,_,_,.lst hq ha,r=>by
  cases r;obtain⟨its,rv,⟨o,n,e,c,_,d⟩,_⟩:=I.list hq;obtain⟨as,ra⟩:=sZ.reads I ha rv;exact⟨_,.list e c d (by simpa using ra)⟩
 |_,_,_,.tup hq ha,r=>by
  cases r;obtain⟨its,rv,⟨o,e,c,n,d⟩,_⟩:=I.tuple hq;obtain⟨as,ra⟩:=sZ.reads I ha rv;exact⟨_,.tuple e c d (by simpa using ra)⟩
theorem sZ.reads(I:aU X aM σ H s):∀ {xs:List V} {ds:List PyData} {us:List af},sZ X.K H xs ds->aX xs us->∃as,ReadsAll s.heap us ds as
 |_,_,_,.nil,r=>by cases r;exact⟨_,.nil⟩
 |_,_,_,.cons hx ht,r=>by
  cases r with
  |cons r1 rr =>
   obtain⟨as,ra⟩:=Dat.reads I hx r1;obtain⟨bs,rb⟩:=sZ.reads I ht rr;exact⟨_,.cons ra rb⟩
end
end
section
variable {K:bw}{H H':B}
theorem aY.mono(k:aP H H')(h:aY K H a xs):aY K H' a xs:=by
 rcases h with (h|⟨o,h⟩)|h
 ·exact .inl (.inl (k _ _ h))
 ·exact .inl (.inr ⟨o,k _ _ h⟩)
 ·exact .inr h
end
mutual
def zX:PyData->Bool
 |.none=>ah
 |.int _=>ah
 |.str x=>cr x
 |.list xs=>xB xs
 |.tuple xs=>xB xs
 |.bool _=>aq
 |.dict _=>aq
def xB:List PyData->Bool
 |[]=>ah
 |x::xs=>zX x&&xB xs
end
mutual
theorem Kc:∀ {d:PyData},zX d=ah->d.canLay0=ah
 |.none,_=>by simp[fu]
 |.int _,_=>by simp[fu]
 |.str x,h=>by simpa[fu,zX] using h
 |.list xs,h=>by rw[fu];exact YT (by simpa[zX] using h)
 |.tuple xs,h=>by rw[fu];exact YT (by simpa[zX] using h)
 |.bool _,h=>by simp[zX] at h
 |.dict _,h=>by simp[zX] at h
theorem YT:∀ {ds:List PyData},xB ds=ah->gF ds=ah
 |[],_=>by simp[gF]
 |x::xs,h=>by
  rw[xB,b6] at h;rw[gF,Kc h.1,YT h.2];rfl
end
mutual
theorem Kd:∀ {d e:PyData},zX d=ah->zX e=ah->(iL d e=ah↔d=e)
 |.list xs,.list ys,h,h'=>by
  rw[iL,YU (by simpa[zX] using h) (by simpa[zX] using h'),PyData.list.injEq]
 |.tuple xs,.tuple ys,h,h'=>by
  rw[iL,YU (by simpa[zX] using h) (by simpa[zX] using h'),pG]
 |.bool _,_,h,_=>by simp[zX] at h
 |.dict _,_,h,_=>by simp[zX] at h
 |.none,.bool _,_,h=>by simp[zX] at h
 |.int _,.bool _,_,h=>by simp[zX] at h
 |.str _,.bool _,_,h=>by simp[zX] at h
 |.list _,.bool _,_,h=>by simp[zX] at h
 |.tuple _,.bool _,_,h=>by simp[zX] at h
 |.none,.dict _,_,h=>by simp[zX] at h
 |.int _,.dict _,_,h=>by simp[zX] at h
 |.str _,.dict _,_,h=>by simp[zX] at h
 |.list _,.dict _,_,h=>by simp[zX] at h
 |.tuple _,.dict _,_,h=>by simp[zX] at h
 |.none,.none,_,_|.none,.int _,_,_|.none,.str _,_,_|.none,.list _,_,_|.none,.tuple _,_,_=>by simp[iL]
 |.int _,.none,_,_|.int _,.int _,_,_|.int _,.str _,_,_|.int _,.list _,_,_|.int _,.tuple _,_,_=>by simp[iL]
 |.str _,.none,_,_|.str _,.int _,_,_|.str _,.str _,_,_|.str _,.list _,_,_|.str _,.tuple _,_,_=>by simp[iL]
 |.list _,.none,_,_|.list _,.int _,_,_|.list _,.str _,_,_|.list _,.tuple _,_,_=>by simp[iL]
 |.tuple _,.none,_,_|.tuple _,.int _,_,_|.tuple _,.str _,_,_|.tuple _,.list _,_,_=>by simp[iL]
theorem YU:∀ {xs ys:List PyData},xB xs=ah->xB ys=ah->(lG xs ys=ah↔xs=ys)
 |[],[],_,_=>by simp[lG]
 |[],_::_,_,_=>by simp[lG]
 |_::_,[],_,_=>by simp[lG]
 |x::xs,y::ys,h,h'=>by
  rw[xB,b6] at h h';rw[lG,b6,Kd h.1 h'.1,YU h.2 h'.2,bX]
end
abbrev zgm(K:bw)(neg:Bool):R2:=λx y H Q=>∃d e,Dat K H x d/\Dat K H y e/\(zX d=ah/\zX e=ah/\d.depth<=64/\e.depth<=64)/\∀b:Bool,(b=ah↔d=e)->Q (.bl (if neg then !b else b)) H
section
variable {X:Cx}
theorem Xv(h:zX d=ah)(h':d.depth<=64):iX d=ah:=by
 unfold iX;rw[Kc h,Bj h'];rfl
theorem zaB(hu:X.A.units+64<cLine):tE X (Bi .Eq) (zgm X.K aq):=by
 intro aM s σ H x y v u Q I rx ry h;obtain⟨d,e,hd,he,⟨p1,p2,l1,l2⟩,q⟩:=h;obtain⟨as,ra⟩:=hd.reads I rx;obtain⟨bs,rb⟩:=he.reads I ry;exact eq_dataH ra rb (Xv p1 l1) (Xv p2 l2) hu ⟨.bl _,H,I,Y,q _ (Kd p1 p2)⟩
end
abbrev Qj(neg:Bool):R2:=λx y H Q=>∃a o,y=.ref a/\sT H a x o/\Q (.bl (if neg then !o.isSome else o.isSome)) H
section
variable {X:Cx}
theorem Vk(hu:X.A.units+1<cLine):tE X (Bi .In) (Qj aq):=by
 intro aM s σ H x y v u Q I rx ry h;obtain⟨a,o,rfl,g,q⟩:=h;cases ry;exact ziP hu I g rx λs' I'=>⟨.bl _,H,I',Y,q⟩
theorem VM(hu:X.A.units+1<cLine):tE X (Bi .NotIn) (Qj ah):=by
 intro aM s σ H x y v u Q I rx ry h;obtain⟨a,o,rfl,g,q⟩:=h;cases ry;exact zf4 hu I g rx λs' I'=>⟨.bl _,H,I',Y,q⟩
end
end L2
namespace L2
open PySem
abbrev Pl:=Str×Int
abbrev aW:=Pl×Int
def zw:List aW->Pl->Option Int
 |[],_=>ao
 |r::t,p=>(zw t p).or (if r.1=p then aa r.2 else ao)
def Xw(aO:List (List bv×V))(q:aW):List (List bv×V):=ye aO (zt q.1) (.int q.2)
def sO(aT:List aW):List (List bv×V):=aT.foldl Xw []
theorem yW{p q:Pl}(h:zt p=zt q):p=q:=by
 unfold zt at h;simp only[bX,Sum.inr.injEq,Sum.inl.injEq,and_true] at h;exact rL h.1 h.2
theorem zaC:∀(aT:List aW) (aO:List (List bv×V)) (p:Pl),zS (aT.foldl Xw aO) (zt p)=((zw aT p).map V.int).or (zS aO (zt p))
 |[],_,_=>rfl
 |r::t,aO,p=>by
  rw[eZ,zaC t,zw];show _=_;rw[Xw,Xp];cases zw t p with
  |some w=>rfl
  |none =>
   by_cases e:r.1=p
   ·subst e;simp
   ·rw[ap (λz=>e (yW z).symm)];simp[e]
theorem x9(aT:List aW)(p:Pl):zS (sO aT) (zt p)=(zw aT p).map V.int:=by
 unfold sO;rw[zaC,zad];cases zw aT p <;> rfl
theorem Zl(aT:List aW)(q:aW):sO (aT++[q])=ye (sO aT) (zt q.1) (.int q.2):=by
 unfold sO;rw[List.foldl_append];rfl
def OkKv(aO:List (List bv×V)):Prop:=(aO.map (·.1)).Nodup/\∀kv∈aO,∃(p:Pl) (w:Int),kv=(zt p,.int w)
theorem OkKv.put(h:OkKv aO)(p:Pl)(w:Int):OkKv (ye aO (zt p) (.int w)):=by
 cases e:zS aO (zt p) with
 |none =>
  refine⟨zf6 _ h.1 e,λkv hk=>?_⟩;rw[vb _ e] at hk;rcases bC.mp hk with hk|hk
  ·exact h.2 kv hk
  ·exact⟨p,w,bt.mp hk⟩
 |some v =>
  have q:(aO.any λkv=>decide (kv.1=zt p))=ah:=by rw[va,e];rfl
  unfold ye;rw[au q];constructor
  ·rw[dE];have:((λx:List bv×V=>x.1) ∘ λkv:List bv×V=>if kv.1=zt p then (kv.1,V.int w) else kv)=λx=>x.1:=by
    funext kv
    show (if kv.1=zt p then (kv.1,V.int w) else kv).1=kv.1;split <;> rfl
   rw[this];exact h.1
  ·intro kv hk;obtain⟨z,hz,rfl⟩:=bD.mp hk;by_cases e:z.1=zt p
   ·exact⟨p,w,by rw[au e,e]⟩
   ·rw[ap e];exact h.2 z hz
theorem Ke:∀(aT:List aW) (aO:List (List bv×V)),OkKv aO->OkKv (aT.foldl Xw aO)
 |[],_,h=>h
 |r::t,aO,h=>Ke t _ (h.put r.1 r.2)
theorem kN(aT:List aW):OkKv (sO aT):=Ke aT [] ⟨cI,λ_ h=>nomatch h⟩
theorem zgn(aO:List (List bv×V))(k:List bv)(v:V):(ye aO k v).length<=aO.length+1:=by
 unfold ye;split
 ·rw[bg];lia
 ·rw[bE];simp
theorem zaD:∀(aT:List aW) (aO:List (List bv×V)),(aT.foldl Xw aO).length<=aO.length+aT.length
 |[],_=>by simp
 |r::t,aO=>by
  have:=zaD t (Xw aO r);have:=zgn aO (zt r.1) (.int r.2);rw[eZ,bY];unfold Xw at *
  lia
theorem jJ(aT:List aW):(sO aT).length<=aT.length:=by have:=zaD aT [];simpa[sO] using this
theorem Qk{aO:List (List bv×V)}:(aO.map (·.1)).Nodup->∀kv∈aO,zS aO kv.1=aa kv.2:=by
 induction aO with
 |nil=>exact λ_ kv h=>nomatch h
 |cons a r ih =>
  intro hn kv hk;rw[bx,ca] at hn;rcases bF.mp hk with rfl|hk
  ·exact yB rfl
  ·rw[yC λz=>hn.1 (by rw[z];exact bu hk)];exact ih hn.2 kv hk
theorem mem_dOf :kv∈sO aT↔∃p w,kv=(zt p,.int w)/\zw aT p=aa w:=by
 constructor
 ·intro h;obtain⟨p,w,rfl⟩:=(kN aT).2 kv h;have:=Qk (kN aT).1 _ h;rw[x9] at this;obtain⟨w',e1,e2⟩:=b8.mp this;cases e2;exact⟨p,w,Y,e1⟩
 ·rintro⟨p,w,rfl,h⟩;have e:zS (sO aT) (zt p)=aa (.int w):=by rw[x9,h];rfl
  obtain⟨kv,hk,e1⟩:=bD.mp (zcq e);have:=Qk (kN aT).1 _ hk;rw[e1,e] at this;have e2:kv=(zt p,V.int w):=rL e1 (bL this).symm;rw[<-e2];exact hk
theorem jK(a:Pl):yb a a=aq:=by
 unfold yb;rw[au rfl];exact Bk ()
theorem Jq{a b c:Pl}(h1:yb a b=ah)(h2:yb b c=ah):yb a c=ah:=by
 unfold yb at *
 by_cases e1:a.1=b.1
 ·rw[au e1] at h1;by_cases e2:b.1=c.1
  ·rw[au e2] at h2;rw[au (e1.trans e2)];have h1:=of_decide_eq_true h1;have h2:=of_decide_eq_true h2;exact Bj ()
  ·rw[ap e2] at h2;rw[ap (by rw[e1];exact e2),e1];exact h2
 ·rw[ap e1] at h1;have h1:=of_decide_eq_true h1;by_cases e2:b.1=c.1
  ·rw[ap (by rw[<-e2];exact e1),<-e2];exact Bj h1
  ·rw[ap e2] at h2;have h2:=of_decide_eq_true h2;have h3:=List.lt_trans h1 h2;rw[ap (λz=>by rw[z] at h3;exact List.lt_irrefl _ h3)];exact Bj h3
def ti(l:List aW):Prop:=l.Pairwise λa b=>yb a.1 b.1=ah
def zhf(aT out:List aW):Prop:=ti out/\∀p w,(p,w)∈out↔zw aT p=aa w/\w≠0
theorem ti.nd(h:ti l):(l.map (·.1)).Nodup:=by
 unfold iM;rw[gH];exact mR (λ{a b} h z=>by rw[z,jK] at h;cases h) h
theorem Wm{p:Pl}:∀ {l:List aW},(∀r∈l,r.1≠p)->zw l p=ao
 |[],_=>rfl
 |r::t,h=>by
  rw[zw,Wm λr hr=>h r (bh _ hr),ap (h r bo)];rfl
theorem Xx{p:Pl}{w:Int}:∀ {l:List aW},(l.map (·.1)).Nodup->(zw l p=aa w↔(p,w)∈l)
 |[],_=>by simp[zw]
 |r::t,hn=>by
  rw[bx,ca] at hn;have ih:=Xx (p:=p) (w:=w) hn.2;by_cases e:r.1=p
  ·have z:zw t p=ao:=Wm λq hq zz=>hn.1 (by rw[e,<-zz];exact bu hq);rw[zw,z,au e];constructor
   ·intro h;have:r.2=w:=by simpa using h
    rw[<-e,<-this];exact bo
   ·intro h;rcases bF.mp h with h|h
    ·rw[<-h];rfl
    ·exact absurd (bu (f:=(·.1)) h) (by rw[<-e];exact hn.1)
  ·rw[zw,ap e,Option.or_none,ih,bF];constructor
   ·exact .inr
   ·rintro(h|h)
    ·exact absurd (by rw[<-h]) e
    ·exact h
theorem VN:∀ {a b:List aW},ti a->ti b->(∀x,x∈a↔x∈b)->a=b
 |[],[],_,_,_=>rfl
 |[],y::_,_,_,h=>absurd ((h y).mpr bo) (by simp)
 |x::_,[],_,_,h=>absurd ((h x).mp bo) (by simp)
 |x::a,y::b,ha,hb,h=>by
  unfold ti at ha hb;rw[pH] at ha hb;have e:x=y:=by
   rcases bF.mp ((h x).mp bo) with e|e
   ·exact e
   ·rcases bF.mp ((h y).mpr bo) with e'|e'
    ·exact e'.symm
    ·have:=Jq (ha.1 y e') (hb.1 x e);rw[jK] at this;cases this
  subst e;have nx:x ∉ a:=λz=>by have:=ha.1 x z;rw[jK] at this;cases this
  have ny:x ∉ b:=λz=>by have:=hb.1 x z;rw[jK] at this;cases this
  rw[VN ha.2 hb.2 λz=>?_];constructor
  ·intro hz;rcases bF.mp ((h z).mp (bh _ hz)) with e|e
   ·subst e;exact absurd hz nx
   ·exact e
  ·intro hz;rcases bF.mp ((h z).mpr (bh _ hz)) with e|e
   ·subst e;exact absurd hz ny
   ·exact e
theorem xR{α:Type} [DecidableEq α]:∀ {a b:List α},a.Nodup->(∀x∈a,x∈b)->a.length<=b.length
 |[],_,_,_=>bW _
 |x::a,b,hn,h=>by
  rw[ca] at hn;have hx:=h x bo;have:=xR (a:=a) (b:=b.erase x) hn.2 λy hy=>(oE λz=>hn.1 (by rw[<-z];exact hy)).mpr (h y (bh _ hy));rw[List.length_erase_of_mem hx] at this;have:0<b.length:=List.length_pos_of_mem hx;rw[bY];lia
end L2
namespace L2
open PySem PySem.Spec PyProof.Rows
theorem Yc:plainId "dict.update.loop"=ah:=by lia
theorem Kf:entryFor table "dict.update.loop"=aa Builtin.«dict.update.loop»:=entryFor_of_fast (by kernel_rfl)
section
variable {X:Cx}{A:aB}{R:aF->am->Prop}
def PrAt(H:B)(v:V)(q:aW):Prop:=∃r p,v=.ref r/\H r=aa (.tup [.ref p,.int q.2])/\H p=aa (.tup [.str q.1.1,.int q.1.2])
theorem zdw{σ:St}{H:B}{s:am}{d b:ac}{aO:List (List bv×V)}{k:List bv}{v:V}{u:af}{E:af->am->Prop}{Q:Unit->am->Prop}(hu:A.units+1<cLine)(I:aU X aM σ H s)(e:H d=aa (.dT aO))(eb:H b=aa (.tup (k.map kV)))(l:aO.length<Bb)(rv:aZ v u)
  (h:∀h' tk,aU X aM σ (upd H d (.dT (ye aO k v))) { s with heap:=h',toks:=tk }->cS d s.heap h'->Q PUnit.unit { s with heap:=h',toks:=tk }):Bf (Bg X.prog X.w) A.in1 (dictSet d (.ref b) u) Q E s:=by
 obtain⟨z,hd,xs,rel,dd⟩:=zag I.hok e;have hz:xs.length<=Bb:=by rw[<-bN rel];exact z
 have hl:(ye aO k v).length<=Bb:=by have:=xQ aO k v;lia
 refine wpAny_dictSet_heap (hsz:=hz) (dY hu) (qe I.hok eb) dd λh' dd' hs=>h _ _ ?_ hs;obtain⟨q,es,ep,hq,h2,h3,h4,_,h5⟩:=dd';refine Z8 I (by rw[e];exact eO) hs ⟨q,hq⟩ ⟨hl,hd,_,(rel.put k eb rv).keeps λc ys ec=>?_,q,es,ep,hq,h2,h3,h4,h5⟩;rw[zh (zD ec e ())];exact ec
theorem zeF{σ:St}{H:B}{d it l:ac}{xs:List V}{aT:List aW}{res:af}(hu:A.units+1<cLine)(hh:A.handled=ao)(hd:H d=ao)(hl:H l=aa (.lst xs))(hr:Paired (PrAt H) xs aT)(h63:aT.length<=1000)(dit:it≠d)(lit:l≠it) :
  ∀(k i:Nat) (s:am),aT.length-i=k->i<=aT.length->aU X aM σ (upd H d (.dT (sO (aT.take i)))) s->s.heap.IsListIter it l i->(∀u,Zd X aM (upd H d u) it) ->
  (∀s',aU X aM σ (upd H d (.dT (sO aT))) s'->R (.ok (.ret res)) s') ->
  codeAny (Bg X.prog X.w) A (.builtin "dict.update.loop" ⟨[.ref d,.ref it,rawInt i,res],[]⟩) R s:=by
 have lx:xs.length=aT.length:=bN hr;have S:∀u:HO,aP H (upd H d u):=λu=>sN (o:=u) d hd;intro k;induction k with
 |zero =>
  intro i s hk hi I st hf fin;have e:i=aT.length:=by lia
  subst e;refine e9 Kf ?_;rw[dI Yc _];show Bf _ A.in1 (pyNext (.ref it) >>= _) _ _ s;obtain⟨its,rv,p,hz⟩:=I.list (aY.of (S _ _ _ hl));obtain⟨f0,f1,f2,f3,f4,f5⟩:=hf (.dT (sO (aT.take aT.length)));have hl2:=rv.length;refine ba (nV hh st p.isList (by simp;lia) λh' eb=>?_);have I1:=I.turned (t':=s.toks) (λb o hb e=>eb b o hb e) f0 f1 f3 f4 f5;rw[eu] at I1;show Bf _ A.in1 (Builtin.Dict.addKeywords d [] >>= _) _ _ _;exact ba (bf (bf (fin _ I1)))
 |succ k ih =>
  intro i s hk hi I st hf fin;have hlt:i<aT.length:=by lia
  refine e9 Kf ?_;rw[dI Yc _];show Bf _ A.in1 (pyNext (.ref it) >>= _) _ _ s;obtain⟨its,rv,p,hz⟩:=I.list (aY.of (S _ _ _ hl));obtain⟨f0,f1,f2,f3,f4,f5⟩:=hf (.dT (sO (aT.take i)));have hx:xs[i]?=aa xs[i]:=bc ();have hq:aT[i]?=aa aT[i]:=bc hlt;obtain⟨r,pl,e1,t1,u1⟩:=yF hr hx hq;obtain⟨u,hu',ru⟩:=rv.get hx;rw[e1] at ru;cases ru;refine ba (nJ st p.isList (x:=.ref r) (by simpa using hu') λh' st' sb=>?_);have I1:=I.turned (t':=s.toks) (λb o hb e=>(sb.2 b hb).trans e) f0 f1 f3 f4 f5;obtain⟨tis,tv,⟨o,ho,hc,n,hdt⟩,_⟩:=I1.tuple (sI.of (S _ _ _ t1));cases tv with
  |cons r1 rr =>
   cases rr with
   |cons r2 rn =>
    cases rn;cases r1;obtain⟨tk,rfl⟩:=r2;refine ba (dM ?_);have T:({ s with heap:=h' }:am).TypeIs (.ref r) "tuple":=⟨o,ho,hc⟩;refine ba (wpAny_tryCatch ?_);unfold Builtin.Dict.pairItems;refine ba (rq T ?_);rw[au ()];refine ba ?_;unfold seqItems?;refine ba (oy ho ?_);rw[hdt];refine bf (bf ?_);show Bf _ _ (holding [.ref pl,.int aT[i].2 tk] (dictSet d (.ref pl) (.int aT[i].2 tk))) _ _ _;refine dM ?_;have tk2:sO (aT.take (i+1))=ye (sO (aT.take i)) (zt aT[i].1) (.int aT[i].2):=by rw[dt,hq,<-Zl];rfl
    have l2:(sO (aT.take i)).length<Bb:=by
     have h1:=jJ (aT.take i);have h2:=List.length_take_le' i aT;exact bZ (by lia:_<=1000) ()
    refine zdw (k:=zt aT[i].1) (v:=.int aT[i].2) hu I1 ze (S _ _ _ u1) l2 ⟨tk,Y⟩ λh2 tk3 I2 sb2=>?_;rw[Xj,<-tk2] at I2;refine bf ⟨gG Yc _,ih (i+1) _ () hlt I2 (st'.at λo e=>(sb2.2 it dit).trans e) hf fin⟩
end
theorem Ql:typeLookup (.type "list") "keys"=pure ao:=by rw[typeLookup_type,builtinLookup_eq_fast];kernel_rfl
section
variable {prog:ax}{w:aA}{A:aB}{E:af->am->Prop}{s:am}{a:ac}{o:Obj}{xs:Array af}{k:Nat}
theorem VO{Q:Option af->am->Prop}(hx:s.heap.get? a=aa o)(hc:o.cls=.type "list")(hdat:o.data=.seq xs k)(hd:o.dict=ao)(hA:A.handled=ao)
  (h:∀h' tk,(∀b ob,s.heap.get? b=aa ob->h'.get? b=aa ob)->Q ao { s with heap:=h',toks:=tk }):Bf (Bg prog w) A (getAttr? (.ref a) "keys") Q E s:=by
 obtain⟨c,dct,dat,sl⟩:=o;simp only at hc hdat hd;subst hc hdat hd;obtain⟨hp,g,d,tk,os⟩:=s;have hT:∀tk',(⟨hp,g,d,tk',os⟩:am).TypeIs (.ref a) "list":=λ_=>⟨_,hx,Y⟩;have f1:=sub_AttributeError;have f3:=F.slot_list_getattribute.lookup;have f4:=F.slot_list_getattribute.bind (.ref a);have f5:=am_list_getattr_none;unfold getAttr? getAttrBy? getAttrBy
 repeat (any_goals (first|assumption|exact hT _|((with_reducible show Bf _ _ (call (Value.builtin "list.__getattribute__") _ _) _ _ _);refine iJ F.slot_list_getattribute (hT _) am_entry_list_getattribute (F.args_list_getattribute_2 _ _) (meets_getattribute_miss_list a xs k sl "keys" _ Ql () ()) ⟨hx,hA,λh' tk' e hx'=>?_⟩)|wp_step))
 obtain⟨t',u',he⟩:=hx'.there;have kp:=hx'.keeps;show Bf _ _ (getattributeRaised _ _ _ _ _ _ _) _ _ _;unfold getattributeRaised
 repeat (any_goals (first|assumption|wp_step))
 all_goals exact h _ _ λb ob e=>kp b ob e
end
theorem hu3(r:sH k A):A.units+3<cLine:=by have:=zdn r;lia
abbrev zaE:RC:=λvs H Q=>∃(a:ac) (xs:List V) (aT:List aW),vs=[.ref a]/\H a=aa (.lst xs)/\Paired (PrAt H) xs aT/\aT.length<=1000/\∀p,H p=ao->Q (.ref p) (upd H p (.dT (sO aT)))
section
variable {X:Cx}
theorem qT(hc:X.calm=ah)(hu:X.A.units+3<cLine):jE X (.type "dict") zaE:=by
 intro aM s σ H vs us Q I r h;obtain⟨a,xs,aT,rfl,ha,hr,hl,q⟩:=h;obtain⟨u,rfl,ru⟩:=jF r;cases ru;have hh:X.A.handled=ao:=I.ok.hd hc;refine callType_codes (Q₁:=λobj s₁=>obj=.ref s.heap.objs.size/\s₁={ s with heap:=s.heap.push { cls:=.type "dict",data:=.dict #[] } }) F.kt_called_dict (F.kt_typeCall_dict_1 _) F.entry_dict_init (kt_code_dict_new _ ⟨rfl,rfl⟩) ?_;rintro obj s₁ ⟨rfl,rfl⟩;have T0:({ s with heap:=s.heap.push { cls:=.type "dict",data:=.dict #[] } }:am).TypeIs (.ref s.heap.objs.size) "dict":=⟨_,bG _ rfl,rfl⟩;refine⟨T0,F.args_dict_init_2 _ _,?_⟩;unfold Builtin.«dict.__init__»;refine ba ?_;unfold Builtin.Dict.selfAndRest;refine ba (fo T0 ?_);show Bf _ _ (pure (s.heap.objs.size,[bK a])) _ _ _;refine bf ?_;show Bf _ _ (nA "dict.__init__" s.heap.objs.size (.ref a) [] .none) _ _ _;unfold nA;have hn:H s.heap.objs.size=ao:=I.hok.fresh (bp _);have S:∀u:HO,aP H (upd H s.heap.objs.size u):=λu=>sN (o:=u) _ hn;have I1:aU X aM σ (upd H s.heap.objs.size (.dT [])) { s with heap:=s.heap.push { cls:=.type "dict",data:=.dict #[] } } :=
  I.laid (a:=s.heap.objs.size) (o:=.dT []) (t':=s.toks) (λb o z=>bd _ z) (bp _) (zai s.heap I.big)
 obtain⟨its,rv,pl,_⟩:=I1.list (aY.of (S _ _ _ ha));obtain⟨o,n,ho,oc,od,odat⟩:=id pl;have T1:({ s with heap:=s.heap.push { cls:=.type "dict",data:=.dict #[] } }:am).TypeIs (.ref a) "list":=⟨o,ho,oc⟩;refine ba (rq T1 ?_);rw[au ()];refine ba (VO ho oc odat od (by exact hh) λh2 tk2 k2=>?_);rw[au (show (ao:Option af).isNone=ah from rfl)];refine ba (lI ?_);have I2:aU X aM σ (upd H s.heap.objs.size (.dT [])) { s with heap:=h2,toks:=tk2 }:=I1.kept k2;obtain⟨its2,rv2,pl2,_⟩:=I2.list (aY.of (S _ _ _ ha));refine ba (wpAny_pyIter_list pl2.isList ?_);have I3:aU X aM σ (upd H s.heap.objs.size (.dT (sO (aT.take 0)))) { s with heap:=h2.push { cls:=.type "list_iterator",data:=.fields #[.ref a,.int 0 0] },toks:=tk2 }:=I2.kept (t':=tk2) λb o e=>bd _ e;refine bf ⟨gG Yc _,?_⟩;have lt:s.heap.objs.size<h2.objs.size:=bQ (k2 s.heap.objs.size _ (bG _ Y));have la:a<h2.objs.size:=by obtain⟨_,_,z,_⟩:=pl2;exact bQ z
 refine zeF (A:=X.A.in1) (H:=H) (d:=s.heap.objs.size) (it:=h2.objs.size) (l:=a) (xs:=xs) (aT:=aT) (res:=.none) ?_ hh hn ha hr hl (fi lt) (b7 la) aT.length 0 _ () (bW _) I3 ⟨_,bG _ Y,Y,Y⟩ (λu=>?_) λs' I'=>⟨Y,.ref s.heap.objs.size,_,I',Y,q _ hn⟩
 ·have e:X.A.in1.units=X.A.units+1:=rfl;lia
 ·refine I2.fpOk (bp _) ?_;rw[zh (fi lt)];have:=I2.hok.fresh (bp h2.objs.size);rw[zh (fi lt)] at this;exact this
end
section
variable {X:Cx}{k:Nat}{f C:ac}{fd:Bc}{ps:List Str}{sp:Sp}{m:Str}{pos sC:Pos}{e o:aD}{es:List aD}{ta:TE}{t:TA}
def zbU(C:ac)(m:Str)(sp:Sp)(ta:TE)(t:TA)(EX:EXK):TE:=λσ H Q=>ta σ H λx H1=>∃a dx fs,x=.ref a/\H1 a=aa (.ins C dx fs)/\fs.lookup m=ao /\
 t σ H1 λvs H2=>sp (x::(vs++[])) H2 Q λcls _ H3=>EX cls σ H3
theorem zaF{pl:Sem Bool}(he:PE X.nox o ta)(c:tG X.K C)(hm:KN X.K C m f)(F:sD X.prog X.w X.K X.mg X.base (tQ X.prog X.w) k f fd ps sp)(hr:sH k X.A)(hb:sL X.K fd ps [])(ha:PA X.nox (e::es) t)
  (hst:Be (e::es) X.env=(aq,eval e X.env)::Be es X.env:=by rfl) (hpl:(backTo pos (Be es X.env)).any (·.1)=aq:=by rfl)
  (ht:eval (.Call (.Attribute o m sC) (e::es) [] pos) X.env=(do
   let ov <-eval o X.env
   standAt sC.atName
   let (f,first) <-holding [ov] (getMethod ov m pl)
   callWith pos f first (backTo pos (Be (e::es) X.env)) (backToKw pos (keywordEach [] X.env))):=by rfl) :
  PEX X (.Call (.Attribute o m sC) (e::es) [] pos) (zbU C m sp ta t):=by
 intro aM s σ H Q EX I h;refine lM (pl:=pl) (dR (he aM s σ H _ (I.wish _) h) (λu s1 ⟨x,H1,I1',rx,a,dx,fs,ex,ea,l,q⟩=>?_) λ_ _ z=>dn z) ht;subst ex;obtain rfl:u=bK a:=rx;have I1:=I1'.unwish;refine k9 I1 ea c hm l ?_;refine ma (first:=[.ref a]) (h₀:=X.base) I.ok.mod.kin hm.kp (dR (ha pos aM s1 σ H1 _ (I1.wish _) q) (λus s2 ⟨vs,H2,I2',r,q2⟩=>⟨I2'.kIn,?_⟩) λ_ _ z=>dn z) hst hpl;have I2:=I2'.unwish;have r2:aX (V.ref a::(vs++[])) (bK a::(us++[])):=.cons Y (r.append .nil);have hl:((bK a::us)++[]).length=ps.length:=by
  have e:=r2.length;rw[F.len _ _ _ _ q2] at e;exact e.symm
 refine pN (gj (F.run X.A X.stack s2 H2 ⟨.ref a::us,[]⟩ ((.ref a::us)++[]) (.ref a::(vs++[])) _ _ hr I2.env0 (hb s2 (.ref a::us) I2.kIn hl) r2 q2) λr s' hq=>?_);cases r with
 |error ev =>
  obtain⟨e,cls,H',rfl,os,bare,un,hok,xf,hE⟩:=hq;exact⟨e,cls,σ,s2,H2,H',Y,I2,I2.call' (ch:=[]) os un hok bare (λb z=>nomatch z),xf,hE⟩
 |ok fl =>
  cases fl with
  |ret u=>exact I2.after hq
  |next=>exact dn hq
  |brk=>exact dn hq
  |cont=>exact dn hq
end
def zeG(K:bw)(tb:EXK->TS)(C1:ac)(th1:TS)(C2:ac)(th2:TS):TS:=λD σ H=>tb (λcls σ1 H1=>∃C,cls=.ref C /\
 ((iS K (.ref C) (.ref C1)=aa ah/\th1 D σ1 H1)\/(iS K (.ref C) (.ref C1)=aa aq/\iS K (.ref C) (.ref C2)=aa ah/\th2 D σ1 H1))) D σ H
section
variable {X:Cx}{st b₀ b₁:aC}{suite suite1:List aC}{tb:EXK->TS}{th1 th2:TS}{c1 c2:Str}{C1 C2:ac}{np hpos np2 hpos2 pos:Pos}
theorem zeH(hst:X.stack=X.env::X.outer/\X.env.frame=aa X.env.locals)(hex:X.ex=[])(hb:PSX X st tb)(hg1:Gl X c1)(hm1:X.mg c1=aa (.ref C1))(hg2:Gl X c2)(hm2:X.mg c2=aa (.ref C2))
  (hs1:∀e,PSs (X.sub e) (b₀::suite) th1) (hs2:∀e,PSs (X.sub e) (b₁::suite1) th2) (hdb1:(c1==("__debug__":Str))=aq:=by lia) (hdb2:(c2==("__debug__":Str))=aq:=by lia) :
  PS X (.Try [st] [.ExceptHandler (aa (.Name c1 np)) ao (b₀::suite) hpos,.ExceptHandler (aa (.Name c2 np2)) ao (b₁::suite1) hpos2] [] [] pos) (zeG X.K tb C1 th1 C2 th2):=by
 intro aM s σ H D I h;refine wpAny_Try_except (i8 (dR (hb aM s σ H D _ I h) (λf s1 q=>?_) λev s1 q=>?_))
 ·cases f with
  |next=>exact eX (eX q)
  |ret v=>exact q
  |brk=>exact q
  |cont=>exact q
 obtain⟨e,cls,σ1,s0,H0,H1,rfl,I0,I1,xf,C,rfl,hth⟩:=q;obtain⟨oe,vs,a0,T,oT,ts,h1,h2,h3,h4,h5,h6,h7,h8,h9,h10,h11,h12⟩:=xf;have fr:s1.heap.FunFrames (gN s1.heap (tz X.stack++[e,T])) (X.env::X.outer):=by
  have q:=lf (as:=tz X.stack++[e,T]) I1.stack λenv he a ha=>cM _ (fZ.mpr ⟨env,he,ha⟩);rw[hst.1] at q ⊢;exact q
 have two:∀b∈[e,T],s0.heap.get? b=ao/\H1 b=ao:=λb z=>by
  have z':b=e\/b=T:=by simpa using z
  rcases z' with rfl|rfl
  ·exact⟨h9,h11⟩
  ·exact⟨h10,h12⟩
 have hcs:∀b∈[e,T],H1 b=ao/\X.s₀.heap.get? b=ao:=λb z=>⟨(two b z).2,kJ (I0.there0 hex) (two b z).1⟩;have hcp:∀b∈[e,T],∀p∈X.pn++aM,p.1≠b:=λb z p hp q=>by
  have:=(I0.pin p hp).1;rw[q,(two b z).1] at this;cases this
 refine wpAny_looks_onW (base:=gN s1.heap (tz X.stack++[e,T])) (a0:=a0) (cls:=.ref C) (by rw[I1.ok.frames,hst.1]) hst.2
  ⟨λb o q=>l8 _ q,fY _ (bR _ (by simp)),fr,oe,vs,T,oT,ts,h1,h2,h3,h4,fY _ (bR _ (by simp)),h5,h6,h7,h8⟩ λg4 held4 sm4=>?_
 refine wpAny_landsW held4 λg5 fly5 sm5=>?_;have hB:∀ {g:ay},(gN s1.heap (tz X.stack++[e,T])).StaysIn g->∀b o,s1.heap.get? b=aa o->b ∉ tz X.stack->b ∉ [e,T]->g.get? b=aa o :=
  λ{g} k b o q n1 n2=>k b o (lE _ q λz=>(bC.mp z).elim n1 n2)
 have I5:aU X aM σ1 H1 { s1 with heap:=g5 }:=I1.land hex hcs hcp (hB fly5.1) (sm4.trans sm5);have K5:=I5.kIn;have ty5:se (Bg X.prog X.w) g5 (typeOf (.ref e)) (.ref C):=by
  obtain⟨o,p1,p2⟩:=fly5.there;exact p2 ▸ (pT p1).andThen .now
 have run:∀ {b₂:aC} {su:List aC} {th:TS} {hp:Pos} {R:aF->am->Prop},(∀e,PSs (X.sub e) (b₂::su) th)->th D σ1 H1->(∀f s',SP X aM D f s'->R (.ok f) s') ->
   codeAny (Bg X.prog X.w) (X.A.mark (aa (.ref e))) (.handlers (.ref e) [.ExceptHandler ao ao (b₂::su) hp] X.env) R { s1 with heap:=g5 }:=λ{b₂ su th hp R} hs hth hR=>by
  refine nQ (lands_againW fly5 λg6 fly6 sm6=>?_);have I6:aU X aM σ1 H1 { s1 with heap:=g6 }:=I1.land hex hcs hcp (hB fly6.1) ((sm4.trans sm5).trans sm6);refine dR (hs e aM _ σ1 H1 D I6.toSub hth) (λf s9 q=>hR f s9 ?_) λ_ _ z=>dn z;cases f with
  |next=>obtain⟨σ9,H9,J,z⟩:=q;exact⟨σ9,H9,aU.ofSub (J:=I) J,z⟩
  |brk=>obtain⟨σ9,H9,J,z⟩:=q;exact⟨σ9,H9,aU.ofSub (J:=I) J,z⟩
  |cont=>obtain⟨σ9,H9,J,z⟩:=q;exact⟨σ9,H9,aU.ofSub (J:=I) J,z⟩
  |ret u=>obtain⟨v,σ9,H9,J,r,z⟩:=q;exact⟨v,σ9,H9,aU.ofSub (J:=I) J,r,z⟩
 refine lS (iZ ?_) (by intro q;cases q);refine vN (X:=X.sub e) (I5.toSub (e:=e)) hg1 hm1 ?_ hdb1;rcases hth with ⟨hx,ht⟩|⟨hx,hx2,ht⟩
 ·refine(W.exm_one K5 ty5 hx).here ?_;exact run hs1 ht λf s' q=>q
 ·refine(W.exm_one K5 ty5 hx).here ?_;show Bf _ _ (handleBy (.ref e) X.env _) _ _ _;refine lS (iZ ?_) (by intro q;cases q);refine vN (X:=X.sub e) (I5.toSub (e:=e)) hg2 hm2 ?_ hdb2;refine(W.exm_one K5 ty5 hx2).here ?_;exact run hs2 ht λf s' q=>q
end
end L2
namespace L2
open PySem
def rk(aO:List (bv×V))(ps:List V):Except Er Int:=match ve aO ps [] with
 |.ok [i]=>.ok i
 |.ok _=>.error .stuck
 |.error e=>.error e
theorem Good.rk{r:Except Er Int}(h:Good aO ps r):L2.rk aO ps=r:=by
 unfold L2.rk;rw[h.1 []];cases r <;> rfl
theorem zeI(hs:yS aO)(hv:qm v){st st':List Int}(h:∀x∈st,sQ x=ah)(e:wF aO st v=.ok st'):∀x∈st',sQ x=ah:=by
 unfold wF at e;split at e
 ·split at e
  ·rename_i w b a r hr hj;unfold v6 at e;by_cases c1:VG w/\b=0
   ·rw[au c1] at e;cases e
   ·rw[ap c1] at e;by_cases c2:sQ (jI w a b)=ah
    ·rw[au c2] at e;cases e;intro x hx;rcases bC.mp hx with hx|hx
     ·refine h x (rJ.mp ?_);rw[hr];exact bh _ (bh _ (rJ.mp hx))
     ·rw[bt.mp hx];exact c2
    ·rw[ap c2] at e;cases e
  ·cases e
 ·cases e;intro x hx;rcases bC.mp hx with hx|hx
  ·exact h x hx
  ·rw[bt.mp hx];exact zau hs hv
theorem zcC{aO:List (bv×V)}(hs:yS aO):∀ {ps:List V} {st st':List Int},(∀v∈ps,qm v)->(∀x∈st,sQ x=ah)->ve aO ps st=.ok st'->∀x∈st',sQ x=ah
 |[],st,st',_,h,e=>by cases e;exact h
 |v::r,st,st',hp,h,e=>by
  unfold ve at e;split at e
  ·rename_i st1 e1;exact zcC hs (λv hv=>hp v (bh _ hv)) (zeI hs (hp v bo) h e1) e
  ·cases e
theorem zeJ(hs:yS aO)(hp:∀v∈ps,qm v){i:Int}(e:rk aO ps=.ok i):sQ i=ah:=by
 unfold rk at e;split at e
 ·rename_i j hj;cases e;exact zcC hs hp (λ_ z=>absurd z dH) hj i bo
 ·cases e
 ·cases e
def hU(e:List V):Prop:=(∀aO,∃r,Good aO e r)/\(∀v∈e,qm v)/\e.length<=1000
theorem hU.good(h:hU e)(aO:List (bv×V)):Good aO e (rk aO e):=by
 obtain⟨r,g⟩:=h.1 aO;rw[g.rk];exact g
mutual
inductive Rw where
 |take (sh:Str) (e:List V) (sl:Str)
 |give (sh:Str) (e f:List V)
 |lt (sl:Str) (e:List V)
 |say (e:List V)
 |off (e:List V)
 |iff (e:List V) (a b:hZ)
inductive hZ where
 |nil
 |cons (r:Rw) (rs:hZ)
end
set_option genSizeOf false in
set_option genInjectivity false in
structure Sta where
 sl:List (bv×V)
 wo:List aW
 sa:List Int
inductive Res where
 |go (s:Sta)
 |off
 |er (e:Er)
mutual
def goR:Rw->Sta->Res
 |.take sh e sl,s=>match rk s.sl e with
  |.ok n=>.go { s with sl:=ye s.sl (.inr sl) (.int ((zw s.wo (sh,n)).getD 0)) }
  |.error x=>.er x
 |.give sh e f,s=>match rk s.sl e with
  |.ok n=>(match rk s.sl f with
   |.ok w=>.go { s with wo:=s.wo++[((sh,n),w)] }
   |.error x=>.er x)
  |.error x=>.er x
 |.lt sl e,s=>match rk s.sl e with
  |.ok n=>.go { s with sl:=ye s.sl (.inr sl) (.int n) }
  |.error x=>.er x
 |.say e,s=>match rk s.sl e with
  |.ok n=>.go { s with sa:=s.sa++[n] }
  |.error x=>.er x
 |.off e,s=>match rk s.sl e with
  |.ok n=>if n=0 then .go s else .off
  |.error x=>.er x
 |.iff e a b,s=>match rk s.sl e with
  |.ok n=>if n=0 then zgo b s else zgo a s
  |.error x=>.er x
def zgo:hZ->Sta->Res
 |.nil,s=>.go s
 |.cons r rs,s=>match goR r s with
  |.go s'=>zgo rs s'
  |x=>x
end
mutual
def sw(F:ac->Prop)(H:B)(v:V):Rw->Prop
 |.take sh e sl=>∃r te,v=.ref r/\F r/\F te/\H r=aa (.tup [.str "take",.str sh,.ref te,.str sl])/\H te=aa (.tup e)
 |.give sh e f=>∃r te tf,v=.ref r/\F r/\F te/\F tf/\H r=aa (.tup [.str "give",.str sh,.ref te,.ref tf])/\H te=aa (.tup e)/\H tf=aa (.tup f)
 |.lt sl e=>∃r te,v=.ref r/\F r/\F te/\H r=aa (.tup [.str "let",.str sl,.ref te])/\H te=aa (.tup e)
 |.say e=>∃r te,v=.ref r/\F r/\F te/\H r=aa (.tup [.str "say",.ref te])/\H te=aa (.tup e)
 |.off e=>∃r te,v=.ref r/\F r/\F te/\H r=aa (.tup [.str "off",.ref te])/\H te=aa (.tup e)
 |.iff e a b=>∃r te la lb xs ys,v=.ref r/\F r/\F te/\F la/\F lb/\H r=aa (.tup [.str "if",.ref te,.ref la,.ref lb])/\H te=aa (.tup e)/\H la=aa (.lst xs)/\sB F H xs a/\H lb=aa (.lst ys)/\sB F H ys b
def sB(F:ac->Prop)(H:B)(vs:List V):hZ->Prop
 |.nil=>vs=[]
 |.cons r rs=>∃v ws,vs=v::ws/\sw F H v r/\sB F H ws rs
end
mutual
theorem sw.to_{F G:ac->Prop}{H H':B}(g:∀b o,F b->H b=aa o->G b)(s:∀b o,F b->H b=aa o->H' b=aa o):∀ {v:V} (r:Rw),sw F H v r->sw G H' v r
 |v,.take sh e sl,h=>by
  unfold sw at h ⊢;obtain⟨r,te,e1,f1,f2,e2,e3⟩:=h;exact⟨r,te,e1,g _ _ f1 e2,g _ _ f2 e3,s _ _ f1 e2,s _ _ f2 e3⟩
 |v,.give sh e f,h=>by
  unfold sw at h ⊢;obtain⟨r,te,tf,e1,f1,f2,f3,e2,e3,e4⟩:=h;exact⟨r,te,tf,e1,g _ _ f1 e2,g _ _ f2 e3,g _ _ f3 e4,s _ _ f1 e2,s _ _ f2 e3,s _ _ f3 e4⟩
 |v,.lt sl e,h=>by
  unfold sw at h ⊢;obtain⟨r,te,e1,f1,f2,e2,e3⟩:=h;exact⟨r,te,e1,g _ _ f1 e2,g _ _ f2 e3,s _ _ f1 e2,s _ _ f2 e3⟩
 |v,.say e,h=>by
  unfold sw at h ⊢;obtain⟨r,te,e1,f1,f2,e2,e3⟩:=h;exact⟨r,te,e1,g _ _ f1 e2,g _ _ f2 e3,s _ _ f1 e2,s _ _ f2 e3⟩
 |v,.off e,h=>by
  unfold sw at h ⊢;obtain⟨r,te,e1,f1,f2,e2,e3⟩:=h;exact⟨r,te,e1,g _ _ f1 e2,g _ _ f2 e3,s _ _ f1 e2,s _ _ f2 e3⟩
 |v,.iff e a b,h=>by
  unfold sw at h ⊢;obtain⟨r,te,la,lb,xs,ys,e1,f1,f2,f3,f4,e2,e3,e4,e5,e6,e7⟩:=h;exact⟨r,te,la,lb,xs,ys,e1,g _ _ f1 e2,g _ _ f2 e3,g _ _ f3 e4,g _ _ f4 e6,s _ _ f1 e2,s _ _ f2 e3,s _ _ f3 e4,sB.to_ g s a e5,s _ _ f4 e6,sB.to_ g s b e7⟩
theorem sB.to_{F G:ac->Prop}{H H':B}(g:∀b o,F b->H b=aa o->G b)(s:∀b o,F b->H b=aa o->H' b=aa o):∀ {vs:List V} (r:hZ),sB F H vs r->sB G H' vs r
 |vs,.nil,h=>by
  unfold sB at h ⊢;exact h
 |vs,.cons r rs,h=>by
  unfold sB at h ⊢;obtain⟨v,ws,e1,e2,e3⟩:=h;exact⟨v,ws,e1,sw.to_ g s r e2,sB.to_ g s rs e3⟩
end
theorem sw.to{F G:ac->Prop}{H H':B}(r:Rw)(g:∀b o,F b->H b=aa o->G b)(s:∀b o,F b->H b=aa o->H' b=aa o)(h:sw F H v r):sw G H' v r:=sw.to_ g s r h
theorem sB.to{F G:ac->Prop}{H H':B}(r:hZ)(g:∀b o,F b->H b=aa o->G b)(s:∀b o,F b->H b=aa o->H' b=aa o)(h:sB F H vs r):sB G H' vs r:=sB.to_ g s r h
theorem sw.mono{F:ac->Prop}{H H':B}(s:aP H H')(h:sw F H v r):sw F H' v r:=h.to r (λ_ _ f _=>f) (λb o _ e=>s b o e)
theorem sB.mono{F:ac->Prop}{H H':B}(s:aP H H')(h:sB F H vs r):sB F H' vs r:=h.to r (λ_ _ f _=>f) (λb o _ e=>s b o e)
def RlAt(F:ac->Prop)(H:B)(v:V)(r:hZ):Prop:=∃a xs,v=.ref a/\F a/\H a=aa (.lst xs)/\sB F H xs r
theorem RlAt.to{F G:ac->Prop}{H H':B}(g:∀b o,F b->H b=aa o->G b)(s:∀b o,F b->H b=aa o->H' b=aa o)(h:RlAt F H v r):RlAt G H' v r:=by
 obtain⟨a,xs,e,f,e1,e2⟩:=h;exact⟨a,xs,e,g _ _ f e1,s _ _ f e1,sB.to r g s e2⟩
abbrev Qm:ac->Prop:=λ_=>True
theorem RlAt.any{F:ac->Prop}{H:B}(h:RlAt F H v r):RlAt Qm H v r:=h.to (λ_ _ _ _=>trivial) λb o _ e=>e
mutual
def Zm:Rw->Prop
 |.take _ e _=>hU e
 |.give _ e f=>hU e/\hU f
 |.lt _ e=>hU e
 |.say e=>hU e
 |.off e=>hU e
 |.iff e a b=>hU e/\Yu a/\Yu b
def Yu:hZ->Prop
 |.nil=>True
 |.cons r rs=>Zm r/\Yu rs
end
mutual
def Rw.deep:Rw->Nat
 |.iff _ a b=>max a.deep b.deep+1
 |_=>0
def hZ.deep:hZ->Nat
 |.nil=>0
 |.cons r rs=>max r.deep rs.deep
end
mutual
def Rw.cnt:Rw->Nat
 |.iff _ a b=>max a.cnt b.cnt+1
 |_=>1
def hZ.cnt:hZ->Nat
 |.nil=>0
 |.cons r rs=>r.cnt+rs.cnt
end
abbrev ItA(h:ay)(it d:ac)(i n ep:Nat)(o0:af)(f:Bool)(ok ov:af):Prop :=
 h.get? it=aa { cls:=.type "dict_itemiterator",dict:=ao,data:=.fields #[o0,.bool f,.ref d,.int i 0,.int n 0,.int ep 0,ok,ov],slots:=#[] }
section
variable {P:ax}{w:aA}{A:aB}{E:af->am->Prop}{s:am}
theorem zeK{Q:af->am->Prop}(hv:s.heap.IsItemsView v d)(hm:tw s.heap d es ep)
  (q:Q (.ref s.heap.objs.size) { s with heap:=s.heap.push { cls:=.type "dict_itemiterator",data:=.fields #[.none,.bool aq,.ref d,.int 0 0,.int es.size 0,.int ep 0,.none,.none] } }):Bf (Bg P w) A (pyIter (.ref v)) Q E s:=by
 obtain⟨ov,hov,hcv,hdv⟩:=id hv;obtain⟨o,ho,hc,hdat⟩:=id hm;refine wpAny_pyIter_slot hv.typeIs nR (cV nR hv.typeIs F.entry_dict_items_iter ?_ (F.args_dict_items_iter_1 _));unfold Builtin.«dict_items.__iter__»;refine ba (bf ?_);refine ba ?_;unfold Builtin.Dict_items.dictOf;refine ba (dP hov hdv (x:=.ref d) Y (bf ?_));refine ba ?_;unfold Builtin.Dict_items.newIterator;refine ba (dW ho hdat ?_);refine ba (gA ho hdat ?_);have own:dX "dict_itemiterator"=ah:=by lia
 simp only[own,if_true];refine c8 (bf ⟨_,Y,"dict_itemiterator",_,⟨_,bG _ Y,Y⟩,F.slot_dict_itemiterator_next.lookup,?_⟩) (by simp only[sizeOk,gX,bJ,bE,bY,nY,bT];lia);simpa[rawInt,gX] using q
theorem zeL{Q:Option af->am->Prop}(hit:ItA s.heap it d i es.size ep o0 f ok ov)(hm:tw s.heap d es ep)(hx:es[i]?=aa e)
  (ho0:(o0=.none/\f=aq)\/∃(a:ac) (oa:Obj),o0=rawInt (a:Nat)/\s.heap.get? a=aa oa/\a≠it)
  (q:∀h' o1 f1 k1 v1,ItA h' it d (i+1) es.size ep o1 f1 k1 v1->((o1=.none/\f1=aq)\/∃(a:ac) (oa:Obj),o1=rawInt (a:Nat)/\h'.get? a=aa oa/\a≠it)->h'.get? s.heap.objs.size=aa { cls:=.type "tuple",data:=.seq #[e.key,e.val] }->h'.objs.size=s.heap.objs.size+1 ->
   (∀b o,b≠it->s.heap.get? b=aa o->h'.get? b=aa o)->(∀a:ac,o1=rawInt (a:Nat)->a=s.heap.objs.size\/o0=rawInt (a:Nat))->Q (aa (.ref s.heap.objs.size)) { s with heap:=h' }):Bf (Bg P w) A (pyNext (.ref it)) Q E s:=by
 obtain⟨hp,g,dr,tk,os⟩:=s;obtain⟨od,hod,hcd,hdd⟩:=id hm;have T:si ⟨hp,g,dr,tk,os⟩ (.ref it) "dict_itemiterator":=⟨_,hit,Y⟩;unfold pyNext;refine ba (iu (cW (name:=bb "__next__") T eR (cV eR T i0 ?_ (iN _))));refine ba (bf ?_);refine ba ?_;refine ba ?_
 first|(refine ba (eN T (bf ?_)))|(refine ba (fB T (bf ?_)))
 refine ba (mC hit Y ?_);have own:dX "dict_itemiterator"=ah:=by lia
 simp only[own,if_true];show Bf _ _ (if (bK d==cR)=ah then _ else _) _ _ _;rw[ap (show ¬ ((bK d==cR)=ah) from bM)];refine ba (bf ?_);refine ba (dW hod hdd ?_);rw[ap (by simp)];refine ba (bf ?_);refine ba (gA hod hdd ?_);rw[ap (by simp)];refine bf ?_;simp only[show ¬ ((i:Int)<0) from by lia,if_false,eC,hx];refine ba ?_
 first|(refine ba (eN T (bf ?_)))|(refine ba (fB T (bf ?_)))
 refine ba (iE T ?_);show Bf _ _ (setField (.ref it) 3 (rawInt ((i:Int)+1)) >>= _) _ _ ⟨hp,g,dr,tk,os⟩;refine ba (da hit (by simp) λh₁ e1 s1=>?_);replace s1:cS it hp h₁:=s1;replace e1:ItA h₁ it d (i+1) es.size ep o0 f ok ov:=by
  have z:((i+1:Nat):Int)=(i:Int)+1:=by lia
  unfold ItA;rw[z];simpa[rawInt] using e1
 have T1:si ⟨h₁,g,dr,tk,os⟩ (.ref it) "dict_itemiterator":=⟨_,e1,Y⟩;refine ba (dM ?_);refine ba (iE T1 ?_);refine ba (iE T1 ?_);show Bf _ _ (iB (.ref it) 6 e.key e.val) _ _ ⟨h₁,g,dr,tk,os⟩;unfold iB;refine ba (oI ?_);have e2:ItA (h₁.push { cls:=.type "tuple",data:=.seq #[e.key,e.val] }) it d (i+1) es.size ep o0 f ok ov:=bd _ e1;generalize hg:h₁.push { cls:=.type "tuple",data:=.seq #[e.key,e.val] }=h₂ at e2;have z1:h₁.objs.size=hp.objs.size:=s1.1;have il:it<hp.objs.size:=bQ hit;have t2:h₂.get? hp.objs.size=aa { cls:=.type "tuple",data:=.seq #[e.key,e.val] }:=by rw[<-hg,<-z1];exact bG _ rfl
 have z2:h₂.objs.size=hp.objs.size+1:=by rw[<-hg,eU,z1]
 have k2:∀b o,b≠it->hp.get? b=aa o->h₂.get? b=aa o:=λb o hb z=>by rw[<-hg];exact bd _ (s1.extBut b o hb z)
 show Bf _ _ (gY (.ref it) >>= _) _ _ ⟨h₂,g,dr,tk,os⟩;rw[z1];clear hg e1 s1 T1 z1 h₁;refine ba ?_;unfold gY;rcases ho0 with ⟨rfl,rfl⟩|⟨a,oa,rfl,ha,hai⟩
 ·refine ba (dP e2 Y (x:=.none) Y (bf ?_));simp only[if_true];refine ba (dP e2 Y (x:=ok) Y ?_);refine ba (dP e2 Y (x:=ov) Y ?_);refine ba (da e2 (by simp) λh₃ e3 s3=>?_);replace s3:cS it h₂ h₃:=s3;replace e3:ItA h₃ it d (i+1) es.size ep .none aq e.key ov:=e3;refine ba (da e3 (by simp) λh₄ e4 s4=>?_);replace s4:cS it h₃ h₄:=s4;replace e4:ItA h₄ it d (i+1) es.size ep .none aq e.key e.val:=e4;refine ba (da e4 (by simp) λh₅ e5 s5=>?_);replace s5:cS it h₄ h₅:=s5;replace e5:ItA h₅ it d (i+1) es.size ep (rawInt (hp.objs.size:Nat)) aq e.key e.val:=e5;refine ba (da e5 (by simp) λh₆ e6 s6=>?_);replace s6:cS it h₅ h₆:=s6;replace e6:ItA h₆ it d (i+1) es.size ep (rawInt (hp.objs.size:Nat)) aq e.key e.val:=e6;have k6:∀b o,b≠it->h₂.get? b=aa o->h₆.get? b=aa o:=λb o hb z=>s6.extBut b o hb (s5.extBut b o hb (s4.extBut b o hb (s3.extBut b o hb z)));have t6:=k6 _ _ (fi il) t2;refine ba (nh (bf (bf ⟨_,Y,bf (q h₆ _ _ _ _ e6 (.inr ⟨_,_,Y,t6,fi il⟩) t6 ?_ (λb o hb z=>k6 b o hb (k2 b o hb z)) λa z=>?_)⟩)))
  ·show h₆.objs.size=hp.objs.size+1;rw[s6.1,s5.1,s4.1,s3.1,z2]
  ·refine .inl ?_;have z':(gM (hp.objs.size:Nat) 0:af)=gM (a:Nat) 0:=z;have z'':((hp.objs.size:Nat):Int)=((a:Nat):Int):=by injection z'
   exact(sk z'').symm
 ·refine ba (dP e2 Y (x:=rawInt (a:Nat)) Y ?_);show Bf _ _ (loadIfAlive (((a:Nat):Int).toNat) >>= _) _ _ _;rw[eC];have a2:h₂.get? a=aa oa:=k2 a oa hai ha;refine ba (W.kdx_alive a2 ?_);simp only[pI,cE,if_false];refine ba (dP e2 Y (x:=.bool f) Y ?_);cases f with
  |true =>
   rw[ap (show ¬ ((iG ah != iG ah)=ah) from bM)];refine bf ?_;simp only[cE,if_false];exact bf (bf ⟨_,Y,bf (q h₂ _ _ _ _ e2 (.inr ⟨_,_,Y,a2,hai⟩) t2 z2 k2 λa z=>.inr z)⟩)
  |false =>
   rw[au (show (iG aq != iG ah)=ah from rfl)];refine ba (da e2 (by simp) λh₃ e3 s3=>?_);replace s3:cS it h₂ h₃:=s3;replace e3:ItA h₃ it d (i+1) es.size ep (rawInt (a:Nat)) ah ok ov:=e3;refine bf ?_;simp only[cE,if_false];exact bf (bf ⟨_,Y,bf (q h₃ _ _ _ _ e3 (.inr ⟨_,_,Y,s3.extBut _ _ hai a2,hai⟩) (s3.extBut _ _ (fi il) t2) (by show h₃.objs.size=_;rw[s3.1,z2]) (λb o hb z=>s3.extBut b o hb (k2 b o hb z)) λa z=>.inr z)⟩)
theorem zgp{Q:Option af->am->Prop}(hh:A.handled=ao)(hit:ItA s.heap it d i es.size ep o0 f ok ov)(hm:tw s.heap d es ep)(hx:es.size<=i)
  (q:∀h',rS it s.heap h'->Q ao { s with heap:=h' }):Bf (Bg P w) A (pyNext (.ref it)) Q E s:=by
 obtain⟨od,hod,hcd,hdd⟩:=id hm;have T:s.TypeIs (.ref it) "dict_itemiterator":=⟨_,hit,Y⟩;unfold pyNext;refine ba (iu (cW (name:=bb "__next__") T eR (cV eR T i0 ?_ (iN _))));refine ba (bf ?_);refine ba ?_;refine ba ?_
 first|(refine ba (eN T (bf ?_)))|(refine ba (fB T (bf ?_)))
 refine ba (mC hit Y ?_);have own:dX "dict_itemiterator"=ah:=by lia
 simp only[own,if_true];show Bf _ _ (if (bK d==cR)=ah then _ else _) _ _ s;rw[ap (show ¬ ((bK d==cR)=ah) from bM)];refine ba (bf ?_);refine ba (dW hod hdd ?_);rw[ap (by simp)];refine ba (bf ?_);refine ba (gA hod hdd ?_);rw[ap (by simp)];refine bf ?_;simp only[show ¬ ((i:Int)<0) from by lia,if_false,eC,iD hx];refine ba ?_
 first|(refine ba (eN T (bf ?_)))|(refine ba (fB T (bf ?_)))
 show Bf _ _ (setField (.ref it) 2 .none >>= _) _ _ s;refine ba (iR hit Y (by simp) ?_);show Bf _ _ (newExc (.type "StopIteration") [] >>= _) _ _ _;refine ba ?_;simp only[newExc,newTuple];refine ba (c8 ?_ (by size_fits));refine ba (m:=firstArgMember _ _) (wpAny_of_eq (a:=cR) (by first|rfl|(simp only[firstArgMember];rfl)) ?_);refine c8 ?_ (by size_fits);simp only[raiseNew];refine ba (pC ?_);rw[show A.in1.handled=ao from hh];refine ba (bf (wpAny_throw ?_));refine ba (nI (T:="StopIteration") (b:=ah) ⟨_,bG _ Y,Y⟩ oJ ?_);exact bf (q _ (((df ..).extBut.push _).push _))
end
end L2
namespace L2
open PySem PySem.Spec PyProof.Rows
def Yv(r d:ac):HO:=.ext λh=>h.IsItemsView r d
def Qn(td:TE):TE:=λσ H Q=>td σ H λx H1=>∃d aO,x=.ref d/\H1 d=aa (.dT aO)/\∀r,H1 r=ao->Q (.ref r) (upd H1 r (Yv r d))
section
variable {X:Cx}{o:aD}{sC sK:Pos}{td:TE}
theorem zaG(ho:PE X o td)(hbase:attributeBase o "items" X.env (eval o X.env)=eval o X.env:=by rfl)(hline:(sC.endLine==sK.line)=ah:=by rfl):PE X (.Call (.Attribute o "items" sC) [] [] sK) (Qn td):=by
 intro aM s σ H Q I h;refine m3 hbase hline (sr (ho aM s σ H _ I h) λv s1 ⟨x,H1,I1,r1,d,aO,ex,hd,q1⟩=>?_);subst ex;obtain rfl:v=bK d:=r1;obtain⟨t1,t2,t3⟩:=Wg I1 (.inr ⟨aO,.inl hd⟩);refine⟨"dict","dict.items",dZ,nB,PySem.F.type_dict_items,t1,t2,dy Y (oO ?_)⟩;refine cV nB t1 PySem.F.entry_dict_items ?_ (PySem.F.args_dict_items_1 _);unfold Builtin.«dict.items»;refine ba ?_;unfold Builtin.Dict.noArgs;refine ba (fo t1 ?_);show Bf _ _ (pure d) _ _ s1;refine bf ?_;show Bf _ _ (gy d >>= _) _ _ s1;unfold gy;rw[ap (by rw[t3];exact bM)];refine ba (bf ?_);refine ba (c8 (bf ⟨_,Y,?_⟩));have hn:H1 s1.heap.objs.size=ao:=I1.hok.fresh (bp _);have at0:(s1.heap.push { cls:=.type "dict_items",data:=.fields #[.ref d] }).get? s1.heap.objs.size=aa { cls:=.type "dict_items",data:=.fields #[.ref d] }:=bG _ rfl;refine⟨.ref s1.heap.objs.size,_,I1.laid (a:=s1.heap.objs.size) (o:=Yv s1.heap.objs.size d) (t':=s1.toks) (λb u e=>bd _ e) (bp _) ?_,Y,q1 _ hn⟩;exact⟨⟨_,at0,Y,Y⟩,⟨_,at0⟩,λh1 h2 ⟨o,e1,e2⟩ k=>⟨o,k o e1,e2⟩⟩
end
def Xy(H:B)(v:V)(kv:List bv×V):Prop:=∃r p,v=.ref r/\H r=aa (.tup [.ref p,kv.2])/\H p=aa (.tup (kv.1.map kV))
theorem zaH{H H':B}(s:∀b ys,H b=aa (.tup ys)->H' b=aa (.tup ys)):∀ {vs:List V} {aO:List (List bv×V)},Paired (Xy H) vs aO->Paired (Xy H') vs aO
 |_,_,.nil=>.nil
 |_,_,.cons ⟨r,p,e,h1,h2⟩ t=>.cons ⟨r,p,e,s _ _ h1,s _ _ h2⟩ (zaH s t)
theorem zaI{H:B}{v:V}{q:List bv×V}:∀ {ys:List V} {aO:List (List bv×V)},Paired (Xy H) ys aO->Xy H v q->Paired (Xy H) (ys++[v]) (aO++[q])
 |_,_,.nil,h=>.cons h .nil
 |_,_,.cons a r,h=>.cons a (zaI r h)
section
variable {X:Cx}{A:aB}{R:aF->am->Prop}
theorem zeM{σ:St}{H:B}{S it d:ac}{aO:List (List bv×V)}{es:Array DictEntry}{ep:Nat}{res:af}(hh:A.handled=ao)(hS:H S=ao)(hd:H d=aa (.dT aO))(Sit:S≠it)(dit:d≠it)(hz:aO.length<=1000)
  (hes:es.size=aO.length) (hen:∀(i:Nat) (e:DictEntry) (kv:List bv×V),es[i]?=aa e->aO[i]?=aa kv->∃p,e.key=.ref p/\H p=aa (.tup (kv.1.map kV))/\aZ kv.2 e.val) (fin:∀s' H' ys,aU X aM σ H' s'->aP H H'->H' S=aa (.lst ys)->Paired (Xy H') ys aO->R (.ok (.ret res)) s') :
  ∀(k i:Nat) (s:am) (Hi:B) (ys:List V) (o0 ok ov:af) (f:Bool),aO.length-i=k->i<=aO.length->aU X aM σ Hi s->aP H Hi->Hi S=aa (.lst ys)->Paired (Xy Hi) ys (aO.take i)->tw s.heap d es ep->ItA s.heap it d i es.size ep o0 f ok ov ->
  ((o0=.none/\f=aq)\/∃(a:ac) (oa:Obj),o0=rawInt (a:Nat)/\s.heap.get? a=aa oa/\a≠it/\a≠S)->Zd X aM Hi it ->
  codeAny (Bg X.prog X.w) A (.builtin "list.extend.loop" ⟨[.ref S,.ref it,res],[]⟩) R s:=by
 intro k;induction k with
 |zero =>
  intro i s Hi ys o0 ok ov f hk hi I sm hy pr rd hit ho0 hf;have e:i=aO.length:=by lia
  subst e;refine e9 mD ?_;rw[dI eI _];show Bf _ A.in1 (pyNext (.ref it) >>= _) _ _ s;obtain⟨f0,f1,f2,f3,f4,f5⟩:=hf;refine ba (zgp (A:=A.in1) hh hit rd () λh' eb=>?_);have I1:=I.turned (t':=s.toks) (λb o hb e=>eb b o hb e) f0 f1 f3 f4 f5;rw[eu] at pr;exact bf (fin _ Hi ys I1 sm hy pr)
 |succ k ih =>
  intro i s Hi ys o0 ok ov f hk hi I sm hy pr rd hit ho0 hf;have hlt:i<aO.length:=by lia
  have hx:es[i]?=aa es[i]:=cx ();have hkv:aO[i]?=aa aO[i]:=bc hlt;obtain⟨p,ek,hp,rv⟩:=hen i _ _ hx hkv;refine e9 mD ?_;rw[dI eI _];show Bf _ A.in1 (pyNext (.ref it) >>= _) _ _ s;obtain⟨f0,f1,f2,f3,f4,f5⟩:=id hf;have ho0':(o0=.none/\f=aq)\/∃(a:ac) (oa:Obj),o0=rawInt (a:Nat)/\s.heap.get? a=aa oa/\a≠it:=by
   rcases ho0 with z|⟨a,oa,z1,z2,z3,_⟩
   ·exact .inl z
   ·exact .inr ⟨a,oa,z1,z2,z3⟩
  refine ba (zeL (A:=A.in1) hit rd hx ho0' λh' o1 f1' k1 v1 hit' ho1 ht hz' kp own=>?_);have Sl:S<s.heap.objs.size:=by
   obtain⟨_,_,_,_,e⟩:=(show dl X.prog X.w Hi s.heap S (.lst ys) from I.hok S _ hy);exact bQ e
  have tn:s.heap.objs.size≠it:=fi (bQ hit);have hTn:Hi s.heap.objs.size=ao:=I.hok.fresh (bp _);have STn:S≠s.heap.objs.size:=b7 Sl;generalize hT:s.heap.objs.size=T at *
  have I6:aU X aM σ (upd Hi T (.tup [.ref p,aO[i].2])) { s with heap:=s.heap.push { cls:=.type "tuple",data:=.seq #[es[i].key,es[i].val] } } :=
   I.laid (a:=T) (o:=.tup [.ref p,aO[i].2]) (t':=s.toks) (λb u e=>bd _ e) (by rw[hT];exact bp _) ⟨by show 2<=Bb;decide,[es[i].key,es[i].val],.cons (by rw[ek];exact rfl) (.cons rv .nil),⟨_,by rw[<-hT];exact bG _ Y,Y,_,Y⟩⟩
  have S6:aP Hi (upd Hi T (.tup [.ref p,aO[i].2])):=sN T hTn;have I7:aU X aM σ (upd Hi T (.tup [.ref p,aO[i].2])) { s with heap:=h' }:=I6.turned (s:={ s with heap:=s.heap.push { cls:=.type "tuple",data:=.seq #[es[i].key,es[i].val] } }) (t':=s.toks) (λb o hb e=>by
   rcases Heap.get?_push_cases (show (s.heap.push { cls:=.type "tuple",data:=.seq #[es[i].key,es[i].val] }).get? b=aa o from e) with ⟨rfl,rfl⟩|e
   ·rw[hT];exact ht
   ·exact kp b o hb e) (by rw[zh (eP tn)];exact f0) f1 f3 f4 f5
  have hy7:(upd Hi T (.tup [.ref p,aO[i].2])) S=aa (.lst ys):=S6 _ _ hy;obtain⟨z,its,n,r,hl,e⟩:=I7.lstM hy7;have yl:ys.length=i:=by
   have:=bN pr;rw[cK] at this;lia
  show Bf _ A.in1 (updateSeq S (·.push (bK T)) >>= _) _ _ _;have e':h'.get? S=aa { cls:=.type "list",data:=.seq its.toArray n }:=e;refine ba (lT (s:={ s with heap:=h' }) e' rfl ?_ (by rw[bJ,<-r.length,yl];exact bP (by lia:i<=1000) ()) (by rw[Array.size_push,bJ,<-r.length,yl];exact bP (by lia:i+1<=1001) ()));have I8:=I7.lset (f:=λxs=>xs.push (bK T)) (t':=s.toks) (its':=its++[bK T]) hy7 e' (by simp) (r.append (.cons (show aZ (.ref T) (.ref T) from rfl) .nil)) (by rw[bE,yl];exact bP (by show i+1<=1001;lia) ());have up:∀b o,b≠S->h'.get? b=aa o->(h'.update S (dA (·.push (bK T)))).get? b=aa o:=λb o hb z=>(eA _ _ (eP hb)).trans z;have dS:d≠S:=zo hd hS;have tS:∀b zs,Hi b=aa (.tup zs)->(upd (upd Hi T (.tup [.ref p,aO[i].2])) S (.lst (ys++[.ref T]))) b=aa (.tup zs):=λb zs z=>by
   rw[zh (zD z hy (by intro z;cases z))];exact S6 _ _ z
  have ri:∀ {a b:Nat},(rawInt (a:Int):af)=rawInt (b:Int)->a=b:=λ{a b} z=>by
   have z':(gM (a:Int) 0:af)=gM (b:Int) 0:=z;have z'':(a:Int)=(b:Int):=by injection z'
   exact sk z''
  refine bf ⟨gG eI _,ih (i+1) _ _ (ys++[.ref T]) o1 k1 v1 f1' (by rw[Nat.sub_add_eq,hk];rfl) hlt I8 (λb o z=>?_) ze ?_ (rd.at λo z=>up d o dS (kp d o dit z)) (up it _ (eP Sit) hit') ?_ ⟨?_,f1,f2,f3,f4,f5⟩⟩
  ·rw[zh (zo z hS)];exact S6 _ _ (sm _ _ z)
  ·rw[dt,hkv];exact zaI (zaH tS pr) ⟨T,p,Y,by rw[zh (eP STn),ze],tS _ _ (sm _ _ hp)⟩
  ·rcases ho1 with z|⟨a,oa,z1,z2,z3⟩
   ·exact .inl z
   ·have aS:a≠S:=by
     rcases own a z1 with z|z
     ·rw[z];exact eP STn
     ·rcases ho0 with ⟨y1,_⟩|⟨a',oa',y1,_,_,y4⟩
      ·rw[y1] at z;cases z
      ·rw[y1] at z;rw[<-ri z];exact y4
    exact .inr ⟨a,oa,z1,up a _ aS z2,z3,aS⟩
  ·rw[zh (eP Sit),zh (eP tn)];exact f0
end
abbrev zeN:RC:=λvs H Q=>∃r d aO,vs=[.ref r]/\H r=aa (Yv r d)/\H d=aa (.dT aO)/\aO.length<=1000/\∀l ys H',aP H H'->H l=ao->H' l=aa (.lst ys)->Paired (Xy H') ys aO->Q (.ref l) H'
theorem zgq{H:B}(k:tM P w H h)(e:H r=aa (Yv r d)):h.IsItemsView r d:=(k r _ e).1
theorem zgr{H:B}:∀ {aO:List (List bv×V)} {xs:List (List bv×ac×af)},Paired (λ(p:List bv×V) (q:List bv×ac×af)=>p.1=q.1/\H q.2.1=aa (.tup (p.1.map kV))/\aZ p.2 q.2.2) aO xs->∀ {i:Nat} {kv:List bv×V} {x:List bv×ac×af},aO[i]?=aa kv->xs[i]?=aa x->H x.2.1=aa (.tup (kv.1.map kV))/\aZ kv.2 x.2.2 :=
 λ{_ _} h {_ _ _} e1 e2=>(yF h e1 e2).2
section
variable {X:Cx}
theorem zeO{σ:St}{H:B}{s:am}{d:ac}{aO:List (List bv×V)}(I:aU X aM σ H s)(e:H d=aa (.dT aO)):∃es ep,tw s.heap d es ep/\es.size=aO.length /\
  ∀(i:Nat) (en:DictEntry) (kv:List bv×V),es[i]?=aa en->aO[i]?=aa kv->∃p,en.key=.ref p/\H p=aa (.tup (kv.1.map kV))/\aZ kv.2 en.val:=by
 obtain⟨z,hd,xs,rel,o,es,ep,h1,h2,h3,h4,_⟩:=(show dl X.prog X.w H s.heap d (.dT aO) from I.hok d _ e);have l1:es.size=xs.length:=by rw[<-cF,h4,bg]
 refine⟨es,ep,⟨o,h1,h2,h3⟩,by rw[l1,<-bN rel],λi en kv e1 e2=>?_⟩;have e3:es.toList[i]?=aa en:=by rw[dC];exact e1
 rw[h4,bB] at e3;obtain⟨x,hx,rfl⟩:=b8.mp e3;obtain⟨g1,g2⟩:=zgr rel e2 hx;exact⟨x.2.1,Y,g1,g2⟩
theorem Kg{A:aB}{R:aF->am->Prop}{aM:List (ac×Obj)}{σ:St}{H:B}{s:am}{S r d:ac}{aO:List (List bv×V)}{res:af}{c:Nat}(hh:A.handled=ao)(hS:H S=ao)(hr:H r=aa (Yv r d))(hd:H d=aa (.dT aO))(hl:aO.length<=1000)
  (I2:aU X aM σ (upd H S (.lst [])) s) (T2:s.heap.get? S=aa { cls:=.type "list",data:=.seq #[] c }) (hR:∀s' H' ys,aU X aM σ H' s'->aP H H'->H' S=aa (.lst ys)->Paired (Xy H') ys aO->R (.ok (.ret res)) s') :
  Bf (Bg X.prog X.w) A.in1 (dD (.ref S) (.ref r) res) (λfin s'=>match fin with|.done f=>R (.ok f) s'|.again c'=>c'.quiet=ah/\codeAny (Bg X.prog X.w) A c' R s') (λe s'=>R (.error e) s') s:=by
 have Sr:r≠S:=zo hr hS;have Sd:d≠S:=zo hd hS;have SS:aP H (upd H S (.lst [])):=sN S hS;obtain⟨es,ep,rd,hes,hen0⟩:=zeO I2 (SS _ _ hd);have hen:∀(i:Nat) (en:DictEntry) (kv:List bv×V),es[i]?=aa en->aO[i]?=aa kv->∃p,en.key=.ref p/\H p=aa (.tup (kv.1.map kV))/\aZ kv.2 en.val:=λi en kv e1 e2=>by
  obtain⟨p,g1,g2,g3⟩:=hen0 i en kv e1 e2;refine⟨p,g1,?_,g3⟩;by_cases hp:p=S
  ·rw[hp,ze] at g2;cases g2
  ·rwa [zh hp] at g2
 have vw:=zgq I2.hok (SS _ _ hr);unfold dD;refine ba (rq (T:="dict_items") vw.typeIs ?_);have c1:mT (.ref S) (.ref r)=aq:=by simp[mT,eP Sr]
 have c2:(mH "dict_items" == mH "list")=aq:=by lia
 have c3:(mH "dict_items" == mH "tuple")=aq:=by lia
 simp only[c1,c2,c3,Bool.or_false,cE,if_false];refine ba (zeK vw rd ?_);have ni:(upd H S (.lst [])) s.heap.objs.size=ao:=I2.hok.fresh (bp _);have fp:Zd X aM (upd H S (.lst [])) s.heap.objs.size:=I2.fpOk (bp _) ni;have Si:S≠s.heap.objs.size:=b7 (bQ T2);have di:d≠s.heap.objs.size:=b7 rd.lt;have I3:aU X aM σ (upd H S (.lst [])) { s with heap:=s.heap.push { cls:=.type "dict_itemiterator",data:=.fields #[.none,.bool aq,.ref d,.int 0 0,.int es.size 0,.int ep 0,.none,.none] } }:=I2.kept (t':=s.toks) λb o e=>bd _ e;have T3:=bd { cls:=.type "dict_itemiterator",data:=.fields #[.none,.bool aq,.ref d,.int 0 0,.int es.size 0,.int ep 0,.none,.none] } T2;have it3:ItA (s.heap.push { cls:=.type "dict_itemiterator",data:=.fields #[.none,.bool aq,.ref d,.int 0 0,.int es.size 0,.int ep 0,.none,.none] }) s.heap.objs.size d 0 es.size ep .none aq .none .none:=bG _ rfl;have rd3:tw (s.heap.push { cls:=.type "dict_itemiterator",data:=.fields #[.none,.bool aq,.ref d,.int 0 0,.int es.size 0,.int ep 0,.none,.none] }) d es ep:=rd.at λo e=>bd _ e;have vw3:(s.heap.push { cls:=.type "dict_itemiterator",data:=.fields #[.none,.bool aq,.ref d,.int 0 0,.int es.size 0,.int ep 0,.none,.none] }).IsItemsView r d:=let ⟨o,ho,x⟩:=vw;⟨o,bd _ ho,x⟩
 generalize hh3:s.heap.push { cls:=.type "dict_itemiterator",data:=.fields #[.none,.bool aq,.ref d,.int 0 0,.int es.size 0,.int ep 0,.none,.none] }=h3 at *
 generalize s.heap.objs.size=it at *
 refine ba (dM (W.kdx_hint vw3.typeIs ?_));have fin:∀(h4:ay) (tk:Nat) (R:aF->am->Prop),(∀s' H' ys,aU X aM σ H' s'->aP H H'->H' S=aa (.lst ys)->Paired (Xy H') ys aO->R (.ok (.ret res)) s')->aU X aM σ (upd H S (.lst [])) { s with heap:=h4,toks:=tk }->tw h4 d es ep->ItA h4 it d 0 es.size ep .none aq .none .none ->
   codeAny (Bg X.prog X.w) A (.builtin "list.extend.loop" ⟨[.ref S,.ref it,res],[]⟩) R { s with heap:=h4,toks:=tk }:=λh4 tk R hR I4 rd4 it4 =>
  zeM (A:=A) (H:=H) (es:=es) (ep:=ep) hh hS hd Si di hl hes hen hR aO.length 0 _ (upd H S (.lst [])) [] .none .none .none aq (rc _) (bW _) I4 SS ze .nil rd4 it4 (.inl ⟨Y,Y⟩) fp
 refine wpAny_ite_split (λ_=>?_) (λ_=>bf ⟨gG eI _,fin h3 s.toks _ hR I3 rd3 it3⟩);refine ba (lI ?_);refine ba ?_;show Bf _ _ (updateSeq S (·.push .none) >>= λ_=>updateSeq S (·.pop)) _ _ _;refine ba (lT T3 Y ?_);have T4:=eM (dA (·.push cR)) T3 rfl;refine lT (hz:=by seq_fits) T4 Y ?_;have I4:=I3.lset (f:=λxs=>xs.push cR) (its:=[]) (its':=[cR]) (ys:=[V.non]) (t':=s.toks) ze T3 Y (.cons Y .nil) (by show 1<=Bb;decide);have I5:=I4.lset (f:=λxs=>xs.pop) (its:=[cR]) (its':=[]) (ys:=[]) (t':=s.toks) ze T4 Y .nil (bW _);rw[Xj,Xj] at I5;have oth:∀b o,b≠S->h3.get? b=aa o->((h3.update S (dA (·.push cR))).update S (dA (·.pop))).get? b=aa o:=λb o hb e=>(eA _ _ (eP hb)).trans ((eA _ _ (eP hb)).trans e);exact bf ⟨gG eI _,fin _ s.toks _ hR I5 (rd3.at λo e=>oth d o Sd e) (oth it _ (eP Si) it3)⟩
theorem W5(hc:X.calm=ah):jE X (.type "list") zeN:=by
 intro aM s σ H vs us Q I r0 h;obtain⟨r,d,aO,rfl,hr,hd,hl,q⟩:=h;obtain⟨u,rfl,ru⟩:=jF r0;cases ru;have hh:X.A.handled=ao:=I.ok.hd hc;refine callType_codes (Q₁:=λobj s₁=>obj=.ref s.heap.objs.size/\s₁={ s with heap:=s.heap.push { cls:=.type "list",data:=.seq #[] } }) PySem.F.called_list (PySem.F.typeCall_list_1 _) PySem.F.entry_list_init (code_list_new _ ⟨rfl,rfl⟩) ?_;rintro obj s₁ ⟨rfl,rfl⟩;have hS:H s.heap.objs.size=ao:=I.hok.fresh (bp _);have I1:aU X aM σ (upd H s.heap.objs.size (.lst [])) { s with heap:=s.heap.push { cls:=.type "list",data:=.seq #[] } }:=I.lnew (its:=[]) (t':=s.toks) .nil (bW _);have T0:(s.heap.push { cls:=.type "list",data:=.seq #[] }).get? s.heap.objs.size=aa { cls:=.type "list",data:=.seq #[] }:=bG _ rfl;generalize hT:s.heap.objs.size=S at *
 refine⟨⟨_,T0,Y⟩,PySem.F.args_list_init_2 _ _,?_⟩;show Bf _ _ (do let old <-iF (.ref S);Builtin.List.listUpdate (.ref S) (λ_=>#[]);letGo old.toList.reverse;dD (.ref S) (.ref r) .none) _ _ _;refine ba ?_;unfold iF;refine ba (fA T0 Y (bf ?_));show Bf _ _ (updateSeq S (λ_=>#[]) >>= λ_=>letGo (#[]:Array af).toList.reverse >>= λ_=>dD (.ref S) (.ref r) .none) _ _ _;refine ba (lT T0 Y ?_);have I2:=I1.lset (f:=λ_=>(#[]:Array af)) (its:=[]) (its':=[]) (ys:=[]) (t':=s.toks) ze T0 Y .nil (bW _);rw[Xj] at I2;have T2:=eM (dA (λ_=>(#[]:Array af))) T0 rfl;refine ba (nh ?_);generalize hh2:(s.heap.push { cls:=.type "list",data:=.seq #[] }).update S (dA (λ_=>(#[]:Array af)))=h2 at *
 exact Kg (A:=X.A.in1) (H:=H) hh hS hr hd hl I2 T2 λs' H' ys I' sm hy pr=>⟨Y,.ref S,H',I',Y,q S ys H' sm hS hy pr⟩
end
end L2
namespace L2
open PySem PySem.Spec PyProof.Rows PySem.W
section
variable {X:Cx}
theorem zbV{E:af->am->Prop}{R:List af->am->Prop}{aM:List (ac×Obj)}{σ:St}{H:B}{s:am}{r d:ac}{aO:List (List bv×V)}(hh:A.handled=ao)(hr:H r=aa (Yv r d))(hd:H d=aa (.dT aO))(hl:aO.length<=1000)(I:aU X aM σ H s)
  (h:∀s1 H' ys us,aU X aM σ H' s1->aP H H'->Paired (Xy H') ys aO->aX ys us->R us s1):Bf (Bg X.prog X.w) A (collect (.ref r)) R E s:=by
 have hS:H s.heap.objs.size=ao:=I.hok.fresh (bp _);have I1:aU X aM σ (upd H s.heap.objs.size (.lst [])) { s with heap:=s.heap.push { cls:=.type "list",data:=.seq ([]:List af).toArray } }:=I.lnew (its:=[]) (t':=s.toks) .nil (bW _);have T1:(s.heap.push { cls:=.type "list",data:=.seq ([]:List af).toArray }).get? s.heap.objs.size=aa { cls:=.type "list",data:=.seq #[] }:=bG _ rfl;unfold collect;refine ba (wpAny_runValue (e9 oC ?_));rw[dI lR _];show Bf _ A.in1 (newList [] >>= λl=>again (.builtin "list.__iadd__" ⟨[l,.ref r],[]⟩)) _ _ s;refine ba (c8 ?_);refine bf ⟨gG fQ _,e9 entry_list_iadd' ?_⟩;rw[dI fQ _];generalize s.heap.objs.size=S at *
 show Bf _ A.in1 (dD (.ref S) (.ref r) (.ref S)) _ _ _;have key:=Kg (A:=A) (R:=λ(q:aF) (s':am)=>∃H' ys,q=.ok (.ret (.ref S))/\aU X aM σ H' s'/\aP H H'/\H' S=aa (.lst ys)/\Paired (Xy H') ys aO) (res:=.ref S) hh hS hr hd hl I1 T1 λs' H' ys I' sm hy pr=>⟨H',ys,Y,I',sm,hy,pr⟩;have fin:∀s':am,(∃H' ys,aU X aM σ H' s'/\aP H H'/\H' S=aa (.lst ys)/\Paired (Xy H') ys aO)->Bf (Bg X.prog X.w) A (load S >>= λo=>match o.data with|.seq xs _=>pure xs.toList|_=>unsupported "internal:collect") R E s':=λs' ⟨H',ys,I',sm,hy,pr⟩=>by
  obtain⟨z,its,n,rv,hl',e⟩:=I'.lstM hy;refine ba (oy e ?_);refine bf ?_;exact h s' H' ys its I' sm pr rv
 refine dR key (λf s' x=>?_) λe s' x=>?_
 ·cases f with
  |done f =>
   obtain⟨H',ys,e,x⟩:=x;cases e;exact fin s' ⟨H',ys,x⟩
  |again c₁ =>
   refine⟨x.1,gj x.2 λq s₂ y=>?_⟩;obtain⟨H',ys,rfl,y⟩:=y;exact fin s₂ ⟨H',ys,y⟩
 ·obtain⟨_,_,e',_⟩:=x;cases e'
end
section
variable {P:ax}{w:aA}{A:aB}{E:af->am->Prop}{s:am}
theorem zeP{a b:Str×Int}{Q:Bool->am->Prop}(hu:A.units<cLine)(hx:tV s.heap (.ref x) a)(hy:tV s.heap (.ref y) b)(h:Q (yb a b) s):Bf (Bg P w) A (oneLt' aq (.ref x) (.ref y)) Q E s:=by
 obtain⟨p,o,t,u,n,e1,ho,hc,hd⟩:=hx;obtain⟨p2,o2,t2,u2,n2,e2,ho2,hc2,hd2⟩:=hy;cases e1;cases e2;obtain⟨c,dd,dat,sl⟩:=o;obtain⟨c2,dd2,dat2,sl2⟩:=o2;simp only at hc hd hc2 hd2;subst hc hd hc2 hd2;have T1:s.TypeIs (.ref x) "tuple":=⟨_,ho,Y⟩;have T2:s.TypeIs (.ref y) "tuple":=⟨_,ho2,Y⟩;refine kat_one _ _ ?_;show Bf _ _ (richCompare .Lt (.ref x) (.ref y)) _ _ _;refine wpAny_richCompare_same_room T1 T2 oo ?_ hu;exact iJ oo T1 PySem.F.entry_tuple_lt (PySem.F.args_tuple_lt_2 _ _) (VL x y a.1 b.1 a.2 b.2 t u t2 u2 n n2 dd dd2 sl sl2) ⟨ho,ho2,by simp,h⟩
theorem zeQ{a:Str×Int}(hx:tV h (.ref x) a):IsTupleKey (yk P w) h (zt a) x:=by
 obtain⟨p,o,t,u,n,e1,ho,hc,hd⟩:=hx;cases e1;exact⟨o,_,n,ho,hc,hd,Wf (ks:=zt a) (.cons ⟨t,Y⟩ (.cons ⟨u,Y⟩ .nil))⟩
def RvAt(h:ay)(v:af)(q:aW):Prop:=∃a o p t n,v=.ref a/\h.get? a=aa o/\o.cls=.type "tuple"/\o.data=.seq #[.ref p,.int q.2 t] n/\tV h (.ref p) q.1
theorem RvAt.keep(x:RvAt h v q)(k:∀b o,h.get? b=aa o->h'.get? b=aa o):RvAt h' v q:=by
 obtain⟨a,o,p,t,n,e,ho,hc,hd,hp⟩:=x;exact⟨a,o,p,t,n,e,k _ _ ho,hc,hd,hp.keep k⟩
theorem zgs{Q:Bool->am->Prop}(hu:A.units<cLine)(hx:RvAt s.heap x a)(hy:RvAt s.heap y b)(h:Q (yb a.1 b.1) s)(hn:a.1≠b.1):Bf (Bg P w) A (keyLt' (tuples' aq) x y) Q E s:=by
 obtain⟨p,o,pp,t,n,rfl,ho,hc,hd,hp⟩:=hx;obtain⟨p2,o2,pp2,t2,n2,rfl,ho2,hc2,hd2,hp2⟩:=hy;refine kat_lt ho hd ho2 hd2 (kat_cons (wpAny_eqBool_tuple (knd:=yk P w) hu (zeQ hp) (zeQ hp2) (kat_go (λe=>?_) λe=>kat_no ?_)))
 ·exact absurd (yW (of_decide_eq_true e)) hn
 ·exact zeP hu hp hp2 h
theorem zeR{vs:List af}{qs:List aW}{Q:SortKind->am->Prop}(hl:vs.length=qs.length)(hv:∀(i:Nat) (v:af) (q:aW),vs[i]?=aa v->qs[i]?=aa q->RvAt s.heap v q)(h2:0<vs.length)(h:Q (tuples' aq) s) :
  Bf (Bg P w) A (keyKind' vs.toArray) Q E s:=by
 have T:∀(vs:List af) (qs:List aW),vs.length=qs.length->(∀(i:Nat) (v:af) (q:aW),vs[i]?=aa v->qs[i]?=aa q->RvAt s.heap v q)->∃fs,KatTups s.heap vs fs/\fs.length=vs.length/\∀v∈fs,∃p o,v=bK p/\s.heap.get? p=aa o/\o.cls=.type "tuple":=by
  intro vs;induction vs with
  |nil=>exact λqs _ _=>⟨[],trivial,Y,λ_ z=>nomatch z⟩
  |cons v r ih =>
   intro qs hl hv
   match qs,hl with
   |q::qr,hl =>
    obtain⟨fs,k,kl,kf⟩:=ih qr (by simpa using hl) λi v' q' e1 e2=>hv (i+1) v' q' (by simpa using e1) (by simpa using e2);obtain⟨a,o,p,t,n,rfl,ho,hc,hd,hp⟩:=hv 0 v q Y rfl;refine⟨.ref p::fs,sq ho hc hd Y k,by simp[kl],λz hz=>?_⟩;rcases bF.mp hz with rfl|hz
    ·obtain⟨p',o',_,_,_,e,g1,g2,_⟩:=hp;cases e;exact⟨_,o',Y,g1,g2⟩
    ·exact kf z hz
 obtain⟨fs,k,kl,kf⟩:=T vs qs hl hv;refine kat_kind (T:=.type "tuple") k () (λv hv=>?_) () h;obtain⟨p,o,rfl,g1,g2⟩:=kf v hv;exact g2 ▸ (pT g1).andThen .now
theorem Qo{l:ac}{κ:SortKind}{Q:af->am->Prop}(G:List af->(Nat->Nat->Bool)->am->Prop)
  (coll:∀R:List af->am->Prop,(∀vs lt s1,G vs lt s1->R vs s1)->Bf (Bg P w) A.in1 (collect (.ref l)) R E s)
  (h64:∀vs lt s1,G vs lt s1->vs.length<64/\SO lt vs.length)
  (hk:∀vs lt s1,G vs lt s1->2<=vs.length->∀(h:ay) (Q:SortKind->am->Prop),(∀b o,s1.heap.get? b=aa o->h.get? b=aa o)->Q κ { s1 with heap:=h }->Bf (Bg P w) A.in1.in1 (keyKind' vs.toArray) Q (λ_ _=>False) { s1 with heap:=h })
  (hc:∀vs lt s1,G vs lt s1->∀(h:ay) i j C,(∀b o,s1.heap.get? b=aa o->h.get? b=aa o)->i<vs.length->j<vs.length->i≠j->C (lt i j) { s1 with heap:=h }->kas_ask P w A.in1.in1 κ vs i j C { s1 with heap:=h })
  (fin:∀vs lt s1,G vs lt s1->∀(h':ay) (p:Array Nat) (c:Nat),(∀b o,s1.heap.get? b=aa o->h'.get? b=aa o)->h'.get? s1.heap.objs.size=aa (seqObj "list" (v7 vs p).toArray c)->PP vs.length p->Yi lt p vs.length->Q (.ref s1.heap.objs.size) { s1 with heap:=h' }) :
  Bf (Bg P w) A (call (.builtin "sorted") [.ref l]) Q E s:=by
 refine mz kind_sorted rj rm (ro _) ?_;unfold Builtin.«sorted»;refine ba (m:=checkCount "sorted" 1 1 _) (bf ?_);refine ba (coll _ λvs lt s1 g=>?_);obtain⟨l64,S⟩:=h64 vs lt s1 g;refine ba (nu ?_ (by rw[bT];lia));have hoL:(s1.heap.push (seqObj "list" vs.toArray 0)).get? s1.heap.objs.size=aa (seqObj "list" vs.toArray 0):=bG _ rfl;have kept:∀h',Kp s1.heap.objs.size (s1.heap.push (seqObj "list" vs.toArray 0)) h'->∀b o,s1.heap.get? b=aa o->h'.get? b=aa o:=λh' k b o e=>k b o (b7 (bQ e)) (bd _ e);refine ba (dM (cV oK ⟨_,hoL,Y⟩ om (VI (s:={ s1 with heap:=s1.heap.push (seqObj "list" vs.toArray 0) }) hoL l64 (κ:=κ) (lt:=lt) (λh2 h' Q' k q=>?_) (λh' i j C k hi hj hij q=>?_) S λh' p c k ho hp hr=>?_) (oM _)))
 ·exact hk vs lt s1 g h2 h' Q' (kept h' k) q
 ·exact hc vs lt s1 g h' i j C (kept h' k) hi hj hij q
 ·exact⟨_,Y,bf ⟨_,Y,fin vs lt s1 g h' p c (kept h' k) ho hp hr⟩⟩
end
def d0:aW:=(("",0),0)
theorem zhN(aT:List aW):∃its:List aW,sO aT=its.map (λq=>(zt q.1,V.int q.2))/\(its.map (·.1)).Nodup/\∀p w,(p,w)∈its↔zw aT p=aa w:=by
 have h:=kN aT;have:∀(aO:List (List bv×V)),(∀kv∈aO,∃(p:Pl) (w:Int),kv=(zt p,.int w))->∃its:List aW,aO=its.map (λq=>(zt q.1,V.int q.2)):=λaO=>by
  induction aO with
  |nil=>exact λ_=>⟨[],Y⟩
  |cons kv r ih =>
   intro hk;obtain⟨qs,e⟩:=ih λz hz=>hk z (bh _ hz);obtain⟨p,w,e2⟩:=hk kv bo;exact⟨(p,w)::qs,by rw[bx,<-e,e2]⟩
 obtain⟨its,e⟩:=this _ h.2;refine⟨its,e,?_,λp w=>?_⟩
 ·have:=h.1;rw[e,dE] at this;refine xz (f:=zt) ?_;rw[dE];exact this
 ·have m:=mem_dOf (aT:=aT) (kv:=(zt p,V.int w));constructor
  ·intro hm;obtain⟨p',w',e1,e2⟩:=m.mp (by rw[e];exact bD.mpr ⟨_,hm,Y⟩);have e3:=yW (oU e1).1;have e4:=V.int.inj (oU e1).2;rw[e3,e4];exact e2
  ·intro hw;have hm:=m.mpr ⟨p,w,Y,hw⟩;rw[e] at hm;obtain⟨q,hq,e1⟩:=bD.mp hm;have e3:=yW (oU e1).1;have e4:=V.int.inj (oU e1).2;rw[<-e3,<-e4];exact hq
theorem zbW{α:Type}(l:List α)(d:α):(dL l.length).map (λi=>l.getD i d)=l:=by
 apply fK;intro i;rw[bB];by_cases hi:i<l.length
 ·rw[lQ hi,bc hi];simp[bO,bc hi]
 ·rw[cN (by simpa using hi),cN ()];rfl
theorem PP.list(h:PP n p):p.toList.Perm (dL n):=by
 have:=gJ.mp h;simpa using this
theorem PP.lt(h:PP n p):∀i∈p.toList,i<n:=λi hi=>by
 have:=h.list.mem_iff.mp hi;simpa using this
theorem zbX{α:Type}{F:α->α->Bool}{l:List α}{d:α}{n:Nat}(hp:PP n p)(hr:Yi (λi j=>F (l.getD i d) (l.getD j d)) p n):(p.toList.map λi=>l.getD i d).Pairwise λa b=>F a b=ah:=by
 rw[gH,eG];intro i j hi hj hij;rw[cF] at hi hj;have g1:=kM hi;have g2:=kM hj;have sz:=hp.size;have r:=hr i j hij ();have x1:p.toList[i]=gt p i:=by
  rw[cx hi] at g1;simpa using g1
 have x2:p.toList[j]=gt p j:=by
  rw[cx hj] at g2;simpa using g2
 rw[x1,x2];exact r
theorem Zn{α β:Type}{F:α->β->Prop}{l₁:List α}{l₂:List β}(h:Paired F l₁ l₂)(a:α)(b:β):∀ {is:List Nat},(∀i∈is,i<l₁.length)->Paired F (is.map λi=>l₁.getD i a) (is.map λi=>l₂.getD i b)
 |[],_=>.nil
 |i::r,hi=>by
  have l:=bN h;have h1:=hi i bo;refine .cons ?_ (Zn h a b λj hj=>hi j (bh _ hj));show F (l₁.getD i a) (l₂.getD i b);have e1:=bc h1;have e2:l₂[i]?=aa l₂[i]:=bc ();rw[bO,bO,e1,e2];exact yF h e1 e2
abbrev zeS:RC:=λvs H Q=>∃r d aT,vs=[.ref r]/\H r=aa (Yv r d)/\H d=aa (.dT (sO aT))/\(sO aT).length<64 /\
 ∀l ys srt H',aP H H'->H l=ao->H' l=aa (.lst ys)->Paired (PrAt H') ys srt->ti srt->(∀p w,(p,w)∈srt↔zw aT p=aa w)->Q (.ref l) H'
theorem zeT{H:B}:∀ {ys:List V} {its:List aW},Paired (Xy H) ys (its.map λq=>(zt q.1,V.int q.2))->Paired (PrAt H) ys its
 |_,[],h=>by cases h;exact .nil
 |_,q::r,h=>by
  rw[bx] at h;cases h with
  |cons a t=>exact .cons a (zeT t)
section
variable {X:Cx}
theorem ziy{σ:St}{H:B}{s:am}{v:V}{u:af}{q:aW}(I:aU X aM σ H s)(h:PrAt H v q)(r:aZ v u):RvAt s.heap u q:=by
 obtain⟨a,p,rfl,h1,h2⟩:=h;cases r;obtain⟨_,its,rv,o,o1,o2,n,o3⟩:=(show dl X.prog X.w H s.heap a (.tup [.ref p,.int q.2]) from I.hok a _ h1);cases rv with
 |cons r1 rr =>
  cases rr with
  |cons r2 rn =>
   cases rn;cases r1;obtain⟨t,rfl⟩:=r2;exact⟨a,o,p,t,n,Y,o1,o2,o3,zaA I h2⟩
theorem Xz(hc:X.calm=ah)(hu:X.A.units+3<cLine):jE X (.builtin "sorted") zeS:=by
 intro aM s σ H vs us Q I r0 h;obtain⟨r,d,aT,rfl,hr,hd,h64,q⟩:=h;obtain⟨u,rfl,ru⟩:=jF r0;cases ru;have hh:X.A.handled=ao:=I.ok.hd hc;obtain⟨its,ei,nd,mi⟩:=zhN aT;have li:(sO aT).length=its.length:=by rw[ei,bg]
 have so:=VJ nd;have vat:∀ {s1:am} {H':B} {ys:List V} {vs:List af},aU X aM σ H' s1->Paired (PrAt H') ys its->aX ys vs->∀(i:Nat) (q:aW),its[i]?=aa q->∃v,vs[i]?=aa v/\RvAt s1.heap v q:=λ{s1 H' ys vs} I' pr rv i q hq=>by
  have hi:=(bn.mp hq).1;have l1:=bN pr;obtain⟨y,hy⟩:∃y,ys[i]?=aa y:=⟨_,bc ()⟩;obtain⟨u,hu',ru⟩:=rv.get hy;exact⟨u,hu',ziy I' (yF pr hy hq) ru⟩
 refine Qo (κ:=tuples' aq) (λvs lt s1=>∃H' ys,aU X aM σ H' s1/\aP H H'/\Paired (PrAt H') ys its/\aX ys vs/\lt=λi j=>yb ((its.map (·.1)).getD i (("",0):Pl)) ((its.map (·.1)).getD j (("",0):Pl)))
  (λR hR=>zbV (A:=X.A.in1) hh hr hd () I λs1 H' ys us I' sm pr rv=>hR us _ s1 ⟨H',ys,I',sm,zeT (by rw[<-ei];exact pr),rv,Y⟩) ?_ ?_ ?_ ?_
 ·rintro vs lt s1 ⟨H',ys,I',sm,pr,rv,rfl⟩;have l1:=bN pr;have l2:=rv.length;refine⟨(),?_⟩;rw[show vs.length=(its.map (·.1)).length by rw[bg];lia];exact so
 ·rintro vs lt s1 ⟨H',ys,I',sm,pr,rv,rfl⟩ h2 h Q' k q';have l1:=bN pr;have l2:=rv.length;refine zeR (s:={ s1 with heap:=h }) (qs:=its) () (λi v q hv hq=>?_) () q';obtain⟨v',hv',rr⟩:=vat I' pr rv i q hq;rw[hv] at hv';cases hv';exact rr.keep k
 ·rintro vs lt s1 ⟨H',ys,I',sm,pr,rv,rfl⟩ h i j C k hi hj hij q';have l1:=bN pr;have l2:=rv.length;have e1:its[i]?=aa its[i]:=bc ();have e2:its[j]?=aa its[j]:=bc ();obtain⟨v1,g1,r1⟩:=vat I' pr rv i _ e1;obtain⟨v2,g2,r2⟩:=vat I' pr rv j _ e2;have n1:(its.map (·.1)).getD i (("",0):Pl)=its[i].1:=by rw[bO,bB,e1];rfl
  have n2:(its.map (·.1)).getD j (("",0):Pl)=its[j].1:=by rw[bO,bB,e2];rfl
  have m1:vs.getD i cR=v1:=by rw[bO,g1];rfl
  have m2:vs.getD j cR=v2:=by rw[bO,g2];rfl
  simp only[n1,n2] at q';have key:=zgs (P:=X.prog) (w:=X.w) (A:=X.A.in1.in1) (E:=λ_ _=>False) (s:={ s1 with heap:=h }) (Q:=C) (by have e:X.A.in1.in1.units=X.A.units+2:=rfl;lia) (r1.keep k) (r2.keep k) q' λz=>hij (by
   have e3:(its.map (·.1))[i]?=aa its[i].1:=by rw[bB,e1];rfl
   have e4:(its.map (·.1))[j]?=aa its[j].1:=by rw[bB,e2];rfl
   rw[z] at e3;exact(gI (by rw[bg];lia) nd).mp (e3.trans e4.symm))
  rw[<-m1,<-m2] at key;exact key
 ·rintro vs lt s1 ⟨H',ys,I',sm,pr,rv,rfl⟩ h' p c k hD hp hr;have l1:=bN pr;have l2:=rv.length;have hp':PP its.length p:=by rw[show its.length=vs.length by lia];exact hp
  have fr:H' s1.heap.objs.size=ao:=I'.hok.fresh (bp _);have sz:=hp'.size;have pk:=Zn pr V.non d0 (is:=p.toList) λi hi=>by have:=hp'.lt i hi;lia
  have vk:aX (p.toList.map λi=>ys.getD i V.non) (v7 vs p):=Zn rv V.non cR (is:=p.toList) λi hi=>by have:=hp'.lt i hi;lia
  have I2:aU X aM σ (upd H' s1.heap.objs.size (.lst (p.toList.map λi=>ys.getD i V.non))) { s1 with heap:=h' }:=I'.laid (a:=s1.heap.objs.size) (o:=.lst (p.toList.map λi=>ys.getD i V.non)) (t':=s1.toks) k (bp _)
   ⟨by rw[bg,cF];exact bP (by lia:_<=64) (),v7 vs p,c,vk,hD⟩
  have S2:aP H' (upd H' s1.heap.objs.size (.lst (p.toList.map λi=>ys.getD i V.non))):=sN _ fr;have hn:H s1.heap.objs.size=ao:=by
   cases e:H s1.heap.objs.size with
   |none=>rfl
   |some o=>rw[sm _ _ e] at fr;cases fr
  have mono:∀ {us:List V} {ws:List aW},Paired (PrAt H') us ws->Paired (PrAt (upd H' s1.heap.objs.size (.lst (p.toList.map λi=>ys.getD i V.non)))) us ws:=λ{us ws} h=>by
   induction h with
   |nil=>exact .nil
   |cons a _ ih =>
    obtain⟨r,p,e,h1,h2⟩:=a;exact .cons ⟨r,p,e,S2 _ _ h1,S2 _ _ h2⟩ ih
  refine⟨.ref s1.heap.objs.size,_,I2,Y,q _ _ (p.toList.map λi=>its.getD i d0) _ (sm.trans S2) hn ze (mono pk) ?_ λpl wv=>?_⟩
  ·have hr':Yi (λi j=>yb ((its.map (·.1)).getD i (("",0):Pl)) ((its.map (·.1)).getD j (("",0):Pl))) p its.length:=by rw[show its.length=vs.length by lia];exact hr
   have pw:=zbX (F:=yb) hp' hr';have eq:(p.toList.map λi=>its.getD i d0).map (·.1)=p.toList.map λi=>(its.map (·.1)).getD i (("",0):Pl):=by
    rw[dE];refine dO λi hi=>?_;have hi:=hp'.lt i hi;simp[bO,bB,bc hi]
   rw[<-eq,gH] at pw;exact pw
  ·have pm:(p.toList.map λi=>its.getD i d0).Perm its:=by
    refine(hp'.list.map _).trans ?_;rw[zbW]
   rw[pm.mem_iff];exact mi pl wv
end
end L2
namespace L2
open PySem PySem.Spec PyProof.Rows
end L2
namespace L2
open PySem
structure StOk(n:Nat)(s:Sta):Prop where
 so:yS s.sl
 wo:∀r∈s.wo,sQ r.2=ah
 l1:s.sl.length<=n
 l2:s.wo.length<=n
 l3:s.sa.length<=n
theorem StOk.mono(h:StOk n s)(l:n<=m):StOk m s:=⟨h.so,h.wo,bP h.l1 l,bP h.l2 l,bP h.l3 l⟩
theorem Kh(h:yS aO)(k:bv){i:Int}(hi:sQ i=ah):yS (ye aO k (.int i)):=λk' v e=>by
 rw[Xp] at e;by_cases c:k'=k
 ·rw[au c] at e;exact⟨i,(bL e).symm,hi⟩
 ·rw[ap c] at e;exact h k' v e
theorem wW{P:aW->Prop}{p:Pl}{w:Int}:∀ {l:List aW},(∀r∈l,P r)->zw l p=aa w->P (p,w)
 |[],_,h=>by cases h
 |r::t,hp,h=>by
  rw[zw] at h;cases e:zw t p with
  |some w' =>
   rw[e] at h;have:w'=w:=by simpa using h
   subst this;exact wW (λr hr=>hp r (bh _ hr)) e
  |none =>
   rw[e] at h;by_cases c:r.1=p
   ·rw[au c] at h;have:r.2=w:=by simpa using h
    rw[<-c,<-this];exact hp r bo
   ·rw[ap c] at h;cases h
theorem zeU(h:∀r∈l,sQ r.2=ah)(p:Pl):sQ ((zw l p).getD 0)=ah:=by
 cases e:zw l p with
 |none=>rfl
 |some w=>exact wW (P:=λr=>sQ r.2=ah) h e
mutual
def ziT(P:Pl->Prop):Rw->Prop
 |.give sh e _=>∀aO n,rk aO e=.ok n->P (sh,n)
 |.iff _ a b=>zeV P a/\zeV P b
 |_=>True
def zeV(P:Pl->Prop):hZ->Prop
 |.nil=>True
 |.cons r rs=>ziT P r/\zeV P rs
end
inductive Oc where
 |done (sa:List Int)
 |off (why:Str)
def zaJ:Er->Str
 |.great=>"great"
 |_=>"nought"
def zhO(rws:hZ)(tab:List aW)(oc:Oc)(out:List aW):Prop:=match zgo rws ⟨[],tab,[]⟩ with
 |.go s=>oc=.done s.sa/\zhf s.wo out
 |.off=>oc=.off "told"/\out=tab
 |.er e=>oc=.off (zaJ e)/\out=tab
inductive zhP:List hZ->List aW->List Oc->List aW->Prop
 |nil {tab:List aW}:zhP [] tab [] tab
 |cons {d:hZ} {ds:List hZ} {tab mid out:List aW} {oc:Oc} {ocs:List Oc}:zhO d tab oc mid->zhP ds mid ocs out->zhP (d::ds) tab (oc::ocs) out
def WL:V->PyData
 |.int i=>.int i
 |.str x=>.str x
 |_=>.none
def plV(v:V):Prop:=(∃i,v=.int i)\/∃x,v=.str x/\cr x=ah
def VP(e:List V):PyData:=.tuple (e.map WL)
mutual
def rwD:Rw->PyData
 |.take sh e sl=>.tuple [.str "take",.str sh,VP e,.str sl]
 |.give sh e f=>.tuple [.str "give",.str sh,VP e,VP f]
 |.lt sl e=>.tuple [.str "let",.str sl,VP e]
 |.say e=>.tuple [.str "say",VP e]
 |.off e=>.tuple [.str "off",VP e]
 |.iff e a b=>.tuple [.str "if",VP e,.list (zhQ a),.list (zhQ b)]
def zhQ:hZ->List PyData
 |.nil=>[]
 |.cons r rs=>rwD r::zhQ rs
end
def tmP(e:List V):Prop:=∀v∈e,plV v
mutual
def VQ:Rw->Prop
 |.take sh e sl=>cr sh=ah/\tmP e/\cr sl=ah
 |.give sh e f=>cr sh=ah/\tmP e/\tmP f
 |.lt sl e=>cr sl=ah/\tmP e
 |.say e=>tmP e
 |.off e=>tmP e
 |.iff e a b=>tmP e/\Zo a/\Zo b
def Zo:hZ->Prop
 |.nil=>True
 |.cons r rs=>VQ r/\Zo rs
end
section
variable {K:bw}{H:B}{F:ac->Prop}
theorem zeW(h:plV v):Dat K H v (WL v):=by
 rcases h with ⟨i,rfl⟩|⟨x,rfl,_⟩
 ·exact .int i
 ·exact .str x
theorem zdx:∀ {e:List V},tmP e->sZ K H e (e.map WL)
 |[],_=>.nil
 |v::r,h=>.cons (zeW (h v bo)) (zdx λu hu=>h u (bh _ hu))
end
theorem zaK:∀ {e:List V},tmP e->xB (e.map WL)=ah
 |[],_=>by simp[xB]
 |v::r,h=>by
  rw[bx,xB,zaK λu hu=>h u (bh _ hu),Bool.and_true];rcases h v bo with ⟨i,rfl⟩|⟨x,rfl,hx⟩
  ·rw[WL,zX]
  ·rw[WL,zX];exact hx
theorem zbY:∀(e:List V),gu (e.map WL)=0
 |[]=>by simp[gu]
 |v::r=>by
  rw[bx,gu,zbY r];cases v <;> simp[WL,mq]
def hZ.snoc:hZ->Rw->hZ
 |.nil,x=>.cons x .nil
 |.cons r rs,x=>.cons r (rs.snoc x)
def hZ.app:hZ->hZ->hZ
 |.nil,x=>x
 |.cons r rs,x=>.cons r (rs.app x)
theorem sB.get{F:ac->Prop}{H:B}:∀ {r:hZ} {vs:List V} {i:Nat} {v:V},sB F H (vs.drop i) r->vs[i]?=aa v->∃x rs,r=.cons x rs/\sw F H v x/\sB F H (vs.drop (i+1)) rs
 |.nil,vs,i,v,h,e=>by
  unfold sB at h;have:=(bn.mp e).1;have:=congrArg cp h;rw[cT] at this;simp at this;lia
 |.cons x rs,vs,i,v,h,e=>by
  unfold sB at h;obtain⟨u,ws,e1,e2,e3⟩:=h;have hi:=(bn.mp e).1;have d:=mE hi;rw[e1] at d;have e4:vs[i]=v:=(bn.mp e).2;rw[e4] at d;injection d with d1 d2;subst d1 d2;exact⟨x,rs,Y,e2,e3⟩
theorem sB.none{F:ac->Prop}{H:B}{vs:List V}(h:sB F H (vs.drop vs.length) r):r=.nil:=by
 rw[List.drop_length] at h;cases r with
 |nil=>rfl
 |cons x rs =>
  unfold sB at h;obtain⟨_,_,e,_⟩:=h;cases e
theorem zeX(h:qm v)(j:isJ v=aq):hU [v]:=
 ⟨λaO=>⟨_,zdp j⟩,λu hu=>by rw[bt.mp hu];exact h,by simp⟩
theorem Paired.takeP{α β:Type}{F:α->β->Prop}:∀(k:Nat) {a:List α} {b:List β},Paired F a b->Paired F (a.take k) (b.take k)
 |0,_,_,_=>.nil
 |_+1,_,_,.nil=>.nil
 |k+1,_,_,.cons h r=>.cons h (Paired.takeP k r)
theorem Paired.snocP{α β:Type}{F:α->β->Prop}{x:α}{y:β}:∀ {a:List α} {b:List β},Paired F a b->F x y->Paired F (a++[x]) (b++[y])
 |_,_,.nil,h=>.cons h .nil
 |_,_,.cons a r,h=>.cons a (Paired.snocP r h)
theorem Paired.getP{α β:Type}{F:α->β->Prop}{a:List α}{b:List β}{i:Nat}{x:α}(h:Paired F a b)(e:a[i]?=aa x):∃y,b[i]?=aa y/\F x y:=by
 have hi:=(bn.mp e).1;have l:=bN h;exact⟨b[i],bc (),yF h e (bc ())⟩
end L2
namespace L2
open PySem PySem.Spec PyProof.Rows
theorem zhR{c:Nat}:∀ {a b r s:List Nat},c ∉ a->c ∉ b->a++c::r=b++c::s->a=b/\r=s
 |[],[],r,s,_,_,h=>by simpa using h
 |[],y::b,r,s,_,hb,h=>by
  simp only[dh,cL,bX] at h;exact absurd h.1 (λz=>hb (by rw[z];exact bo))
 |x::a,[],r,s,ha,_,h=>by
  simp only[dh,cL,bX] at h;exact absurd h.1.symm (λz=>ha (by rw[z];exact bo))
 |x::a,y::b,r,s,ha,hb,h=>by
  simp only[cL,bX] at h;obtain⟨e1,e2⟩:=zhR (λz=>ha (bh _ z)) (λz=>hb (bh _ z)) h.2;exact⟨by rw[h.1,e1],e2⟩
section
variable {prog:ax}{w:aA}{A:aB}{E:af->am->Prop}{s:am}
theorem zaL{l:ac}{items:Array af}{n:Nat}{k:Int}{t:Tok}{v:af}{Q:Unit->am->Prop}(hl:s.heap.get? l=aa { cls:=.type "list",data:=.seq items n })
  (h0:k<0) (h1:-(items.size:Int)<=k) (hfit:-(2^63)<=k) (hQ:Q PUnit.unit { s with heap:=s.heap.update l (dA (·.setIfInBounds (k+items.size).toNat v)) }) :
  Bf (Bg prog w) A (setItem (.ref l) (.int k t) v) Q E s:=by
 have hL:s.heap.IsList l items:=⟨_,hl,Y,n,Y⟩;unfold setItem
 try with_reducible refine dM ?_
 first|refine ba (bf ?_)|skip
 refine ba (wpAny_sequenceKey hL.typeIs () ?_);refine ba (cW (name:=bb "__setitem__") hL.typeIs iO
  (cV iO hL.typeIs entry_list_setitem ?_ (args_list_setitem _ _ _)))
 show Bf _ _ (lU (.int k t) >>= _) _ _ s;refine ba (nD (fitsIndex_neg h0 hfit) ?_);clear hfit;have hidx:=p8 h0 h1;have hx:items[(k+items.size).toNat]?=aa (items[(k+items.size).toNat]'()):=cx ();obtain⟨j,rfl⟩:∃j:Nat,k=Int.negSucc j:=by
  cases k with
  |ofNat n=>exact absurd h0 (Int.not_lt.mpr (Int.ofNat_nonneg n))
  |negSucc n=>exact⟨n,Y⟩
 show Bf _ _ ((iF (.ref l) >>= λxs=>pure ((seqIndex? (Int.negSucc j) xs.size).bind λi=>xs[i]?.map (i,·))) >>= _) _ _ s;refine ba (ba ?_);show Bf _ _ (seqItems? (.ref l) >>= _) _ _ s;refine ba (fA hl Y (bf (bf ?_)));rw[hidx];simp only[Option.bind_some,hx,ik];refine ba (wpAny_setSeqItemAt hl Y ?_)
 first
  |exact ba (bf (bf ⟨.none,rfl,bf hQ⟩))
  |exact bf ⟨.none,rfl,bf hQ⟩
theorem zaM{l:ac}{items:Array af}{n j:Nat}{k:Int}{t:Tok}{v:af}{Q:Unit->am->Prop}(hl:s.heap.get? l=aa { cls:=.type "list",data:=.seq items n })
  (h0:0<=k) (hfit:k<2^63) (hkj:k.toNat=j) (hn:j<items.size) (hQ:Q PUnit.unit { s with heap:=s.heap.update l (dA (·.setIfInBounds j v)) }) :
  Bf (Bg prog w) A (setItem (.ref l) (.int k t) v) Q E s:=by
 have hL:s.heap.IsList l items:=⟨_,hl,Y,n,Y⟩;unfold setItem
 try with_reducible refine dM ?_
 first|refine ba (bf ?_)|skip
 refine ba (wpAny_sequenceKey hL.typeIs () ?_);refine ba (cW (name:=bb "__setitem__") hL.typeIs iO
  (cV iO hL.typeIs entry_list_setitem ?_ (args_list_setitem _ _ _)))
 show Bf _ _ (lU (.int k t) >>= _) _ _ s;refine ba (nD (fitsIndex_of h0 hfit) ?_);clear hfit;obtain⟨j',rfl⟩:=iy h0;have hkj:j'=j:=hkj;subst hkj;have hx':items[j']?=aa items[j']:=cx hn;show Bf _ _ ((seqItemAt l j' >>= λr=>pure (r.map (j',·))) >>= _) _ _ s;refine ba (ba (wpAny_seqItemAt hl Y (bf ?_)));rw[hx'];refine ba (wpAny_setSeqItemAt hl Y ?_)
 first
  |exact ba (bf (bf ⟨.none,rfl,bf hQ⟩))
  |exact bf ⟨.none,rfl,bf hQ⟩
end
def zcD(td ty tv:TE):TS:=λD σ H=>tv σ H λv H1=>td σ H1 λx H2=>ty σ H2 λy H3=>∃a xs i j,x=.ref a/\y=.int i/\H3 a=aa (.lst xs)/\ixN xs.length i=aa j/\(-1000<=i/\i<=1000)/\D.nx σ (upd H3 a (.lst (xs.set j v)))
theorem zaN{v:V}{u:af}(r:aZ v u):∀ {xs:List V} {us:List af},aX xs us->∀j:Nat,aX (xs.set j v) (us.set j u)
 |_,_,.nil,_=>.nil
 |_,_,.cons _ t,0=>.cons r t
 |_,_,.cons a t,j+1=>.cons a (zaN r t j)
section
variable {X:Cx}{o i value:aD}{pos pos':Pos}{td ty tv:TE}
theorem Qp(ho:PE X o td)(hi:PE X i ty)(hv:PE X value tv)(hs:swapsWith value (aa (.Subscript o i pos')) pos.line X.env=pure aq) :
  PS X (.Assign [.Subscript o i pos'] value pos) (zcD td ty tv):=by
 intro aM s σ H D I h;refine nN (sr (hv aM s σ H _ I h) λr s1 ⟨v,H1,I1,rv,q1⟩=>sr (ho aM s1 σ H1 _ I1 q1) λu s2 ⟨x,H2,I2,rx,q2⟩=>sr (hi aM s2 σ H2 _ I2 q2) λiv s3 ⟨y,H3,I3,ry,a,xs,k,j,ex,ey,ea,hj,hk,q3⟩=>?_) hs;subst ex ey;obtain rfl:u=bK a:=rx;obtain⟨t,rfl⟩:=ry;obtain⟨z,its,n,rl,hl,e⟩:=I3.lstM ea;have fin:SP X aM D .next { s3 with heap:=s3.heap.update a (dA (·.setIfInBounds j r)) }:=⟨σ,_,I3.lset (its':=its.set j r) (t':=s3.toks) ea e (by simp) (zaN rv rl _) (by rw[lV];exact z),q3⟩
 unfold ixN at hj;by_cases h0:0<=k
 ·rw[au h0] at hj;split at hj
  ·rename_i h1;cases hj;exact zaM e h0 () Y (by rw[bJ,<-hl];lia) fin
  ·cases hj
 ·rw[ap h0] at hj;split at hj
  ·rename_i h1;cases hj;refine zaL e () (by rw[bJ,<-hl];exact h1) () ?_;rw[bJ,<-hl];exact fin
  ·cases hj
end
section
variable {X:Cx}
abbrev zeY(K:bw):R2:=λx y H Q=>∃a b xs,x=.ref a/\y=.ref b/\aY K H a xs/\aY K H b []/\Q (.bl (!decide (xs=[]))) H
theorem zeZ(hu:X.A.units+64<cLine):tE X (Bi .NotEq) (zeY X.K):=by
 intro aM s σ H x y v u Q I rx ry h;obtain⟨a,b,xs,rfl,rfl,ha,hb,q⟩:=h;by_cases e:xs=[]
 ·subst e;exact zhI hu aM s σ H _ _ v u Q I rx ry ⟨a,b,[],[],Y,Y,ha,hb,⟨Y,Y,Y⟩,q⟩
 ·cases rx;cases ry;obtain⟨us,r1,p1,_⟩:=I.list ha;obtain⟨ws,r2,p2,_⟩:=I.list hb;cases r2;have e1:=r1.length;have e2:xs.length≠0:=λz=>e (fW z);rw[Bk e] at q;exact PySem.SeqAt.RcNeAt.lists_lengths p1.isList p2.isList (by simp;intro z;rw[z] at e1;exact e2 e1) () X.prog X.w X.xe _ ⟨.bl ah,H,I,Y,q⟩
end
mutual
inductive ze0 (H:B):V->PyData->Prop
 |int (i:Int):ze0 H (.int i) (.int i)
 |str (x:Str):ze0 H (.str x) (.str x)
 |lst {a:ac} {xs:List V} {ds:List PyData}:H a=aa (.lst xs)->zaO H xs ds->ze0 H (.ref a) (.list ds)
 |tup {a:ac} {xs:List V} {ds:List PyData}:H a=aa (.tup xs)->zaO H xs ds->ze0 H (.ref a) (.tuple ds)
inductive zaO (H:B):List V->List PyData->Prop
 |nil:zaO H [] []
 |cons {x:V} {d:PyData} {xs:List V} {ds:List PyData}:ze0 H x d->zaO H xs ds->zaO H (x::xs) (d::ds)
end
end L2
namespace L2
open PySem
abbrev zaP:RM:=zco
end L2
namespace L2
open PySem PySem.Spec PyProof.Rows
section
variable {X:Cx}
open Classical in
noncomputable def zi0(K:PySem.W.Frag)(H:B)(d:PyData)(u:af):Bool:=decide (∃x,aZ x u/\Dat K H x d)
open Classical in
end
def Cb(i:Int):Prop:=dN i<=1048576
theorem Cb.of{i:Int}(h:i.natAbs<2^64):Cb i:=bP (intBits_le_iff.mpr h) ()
def Cw(i:Int):Prop:=dN i<=4000000
theorem Cb.w{i:Int}(h:Cb i):Cw i:=bP h ()
theorem Cw.div{i k:Int}(h:Cw i):Cw (i/k):=intBits_le_of_natAbs (Int.natAbs_ediv_le_natAbs i k) h
def CMulC(i j:Int):Prop:=Cw i/\Cw j
theorem CMulC.ok{i j:Int}(h:CMulC i j):IntMulOk i j:=by
 unfold IntMulOk;have h1:dN i<=4000000:=h.1;have h2:dN j<=4000000:=h.2;have e:oq ((dN i:Int)+(dN j:Int))=aq:=by
  unfold oq;rw[decide_eq_false_iff_not];have:(bitsLine:Int)=134217728:=by lia
  lia
 rw[e];simp
section
variable {X:Cx}
theorem zgt:tE X (binaryOp .Mult) (rI CMulC λi j=>.int (i*j)):=opI λ_ _ _ _ _ _ _ hc q=>mul_int q hc.ok
end
open Att PySem.W PySem.Calls in
theorem ze1{l:pA}{n k:Nat}{q:ax}{loose:List Str}{XP:(Str->Option af)->ay->Prop}{YP:aA->ay->Prop}{d:DefRec}{K:Params->bw}{CX:aA->CXT}{sp:aA->Sp}{x:Str}
  (hn:l.most=aa n) (hn2:n<=Bb) (hdf:d.params.defaults=[]) (hr:sH k callerA) (hY:∀(w:aA) (h:ay),YP w h->(K w.params).In h)
  (F:∀(w:aA) (mg:Str->Option af) (fa:ac) (h:ay),(K w.params).In h->h.Ns Bd mg->mg d.name=aa (.ref fa) ->
   ∃fd:Bc,(∀(s:am) (u:af),BindsTo s fd ⟨[u],[]⟩ [(x,u)]) /\
    ∀base:ay,(K w.params).In base->base.Ns Bd mg->sD l.prog w (K w.params) mg base (CX w) k fa fd [x] (sp w))
  (hsp:∀(w:aA) (H:B) (a:ac) (ns:List Int),ns.length<=n->(∀i∈ns,Cb i)->zbI H->aY (K w.params) H a (ns.map V.int)->sp w [.ref a] H (λv _=>v=.bl ah) λ_ _ _=>False)
  (hCX:∀(w:aA) (H:B) (s:am) (e:af) (s':am),CX w [] H s (λ_ _ _=>False) e s'->False) :
  sg q loose XP YP l.row.toRowW d [] (λf vs=>mK f vs):=by
 intro w s₀ s₁ mg mb G Bl fa o pm cd doc dV kV ho hd hcd hD hmg hg args vals as hpre hlay hrd hwl hlo;obtain rfl:dV=.none:=Dflts.none hD hdf;obtain rfl:kV=.none:=Dflts.noKw hD;obtain⟨a,vs,ns,rfl,rfl,hobj,hints,hlen⟩:=J2 hn hpre hwl;have hb:∀i∈ns,Cb i:=λi hi=>intBits_le_of_layable (layable_of_mem (lay0_int (layableW_item (layableW_arg hlay _ bo) _ (bD.mpr ⟨i,hi,Y⟩))) bo);have KX:=hY w _ Bl;obtain⟨fd,hbd,hF⟩:=F w mg fa _ KX G.T.g hmg;refine enter_call (gj (zal KX G.T.g G.T.b G.T.builtins G.T.nolimit hg hobj hints (bP hlen hn2) hr hF hbd (λH hO hS=>hsp w H a ns hlen hb hO hS) λH e s'=>hCX w H s₁ e s') λr s' hq=>?_);obtain⟨rfl,h2,h3,h4⟩:=hq;exact⟨.inl ⟨.bool ah,.bool ah,[],Y,λ_=>rfl,.bool ah,J3 l _,λ_=>⟨fJ,λ_ hm=>(nomatch hm)⟩⟩,h2,h3,h4⟩
theorem walk_ofXB{l:pA}{n k:Nat}{q:ax}{loose:List Str}{XP:(Str->Option af)->ay->Prop}{YP:aA->ay->Prop}{d:DefRec}{K:Params->bw}{sp:bw->Sp}{x:Str}
  (hn:l.most=aa n) (hn2:n<=Bb) (hdf:d.params.defaults=[]) (hr:sH k callerA) (hY:∀(w:aA) (h:ay),YP w h->(K w.params).In h)
  (F:∀(w:aA) (mg:Str->Option af) (fa:ac) (h:ay),(K w.params).In h->h.Ns Bd mg->mg d.name=aa (.ref fa) ->
   ∃fd:Bc,(∀(s:am) (u:af),BindsTo s fd ⟨[u],[]⟩ [(x,u)]) /\
    ∀base:ay,(K w.params).In base->base.Ns Bd mg->sD l.prog w (K w.params) mg base (tQ l.prog w) k fa fd [x] (sp (K w.params)))
  (hsp:∀(K:bw) (H:B) (a:ac) (ns:List Int),ns.length<=n->(∀i∈ns,Cb i)->zbI H->aY K H a (ns.map V.int)->sp K [.ref a] H (λv _=>v=.bl ah) λ_ _ _=>False) :
  sg q loose XP YP l.row.toRowW d [] (λf vs=>mK f vs) :=
 ze1 (K:=K) (CX:=λw=>tQ l.prog w) (sp:=λw=>sp (K w.params)) hn hn2 hdf hr hY F (λw H a ns h1 hb h2 h3=>hsp (K w.params) H a ns h1 hb h2 h3) λ_ _ _ _ _ z=>by
  obtain⟨_,_,_,_,_,_,_,_,_,y⟩:=z;exact y
section
variable {K:Type} [DecidableEq K]
def zV(xs:List (K×ac×af))(k:K):List (K×ac×af):=xs.filter λx=>decide (x.1≠k)
theorem zbZ:∀ {xs:List (K×ac×af)} {k:K},k ∉ xs.map (·.1)->zV xs k=xs:=λ{xs k} h=>oV.mpr λx hx=>Bj λe=>h (bD.mpr ⟨x,hx,e⟩)
theorem ze2:∀ {xs:List (K×ac×af)} {j:Nat} {k:K} {p:ac×af},(xs.map (·.1)).Nodup->xs[j]?=aa (k,p)->xs.eraseIdx j=zV xs k
 |[],j,k,p,_,h=>by simp at h
 |x::r,0,k,p,n,h=>by
  rw[bx,ca] at n;simp only[br,bI] at h;subst h;show r=List.filter _ ((k,p)::r);rw[fR (by simp)];exact(zbZ n.1).symm
 |x::r,j+1,k,p,n,h=>by
  rw[bx,ca] at n;simp only[bH] at h;have m:k∈r.map (·.1):=bD.mpr ⟨(k,p),bV h,Y⟩;have ne:x.1≠k:=λe=>n.1 (e ▸ m);show x::r.eraseIdx j=List.filter _ (x::r);rw[fS (by simp[ne]),ze2 n.2 h];rfl
end
theorem Wn{α β:Type}(f:α->β):∀(l:List α) (j:Nat),(l.map f).eraseIdx j=(l.eraseIdx j).map f
 |[],_=>rfl
 |_::_,0=>rfl
 |a::l,j+1=>by rw[bx,ii,ii,bx,Wn f l j]
theorem KT.dropT{H:B}(r:KT H aO xs)(k:List bv):KT H (yc aO k) (zV xs k):=by
 induction r with
 |nil=>exact .nil
 |@cons p q ps qs h t ih =>
  unfold yc zV;by_cases e:p.1=k
  ·rw[fR (by simp[e]),fR (by simp[<-h.1,e])];exact ih
  ·rw[fS (by simp[e]),fS (by simp[<-h.1,e])];exact .cons h ih
section
variable {prog:ax}{w:aA}{K:Type} [DecidableEq K]{knd:HeapKind prog w K}{A:aB}{E:af->am->Prop}{s:am}{d a:ac}{xs:List (K×ac×af)}{k:K}
theorem Qq{Q:Option DictEntry->am->Prop}(hu:knd.room A)(hkey:knd.is s.heap k a)(hm:s.heap.DictOfH knd d xs)(hp:atKey xs k=aa p)
  (hsome:∀e:DictEntry,e.val=p.2->∀h',h'.DictOfH knd d (zV xs k)->cS d s.heap h'->Q (aa e) { s with heap:=h',toks:=s.toks+knd.draws k }) (hsz:xs.length<=Bb) :
  Bf (Bg prog w) A (oF d (.ref a)) Q E s:=by
 obtain⟨o,es,ep,ho,hc,hd,he,his,hn⟩:=hm;have hes:es.size=xs.length:=ot he;unfold oF
 try with_reducible refine dM ?_
 refine ba (knd.pyHash hu hkey ?_);refine ba (wpAny_dictFind_heap (s:={ s with toks:=s.toks+knd.draws k }) hu hkey ho hd he his hn ?_ ?_)
 ·intro hno;rw[atKey_none_of_get hno] at hp;cases hp
 ·intro j q hj;have e1:=atKey_of_get hn hj;rw[hp] at e1;cases e1;refine ba (dW (s:={ s with toks:=s.toks+knd.draws k }) ho hd ?_);rw[entry_at he j,hj];refine ba (oG (hz:=by lia) (s:={ s with toks:=s.toks+knd.draws k }) ho hd (bf (hsome (entryOfKey knd (k,p)) rfl _ ⟨_,_,ep+1,eM _ ho (oW (gK hd _)),hc.mapDictKeys _,gK hd _,?_,?_,?_⟩ (df ..))))
  ·rw[<-ze2 hn hj,<-Wn,<-he];obtain⟨l⟩:=es;simp
  ·intro x hx;exact knd.keeps (his x (cC.mp hx).1) ho hd (df ..)
  ·exact iA (gU _ dF) hn
theorem zb0 :MeetsIn prog w (Builtin.«dict.pop» ⟨[.ref d,.ref a],[]⟩) (λA R s=>knd.room A.in1/\∃k xs p,knd.is s.heap k a/\s.heap.DictOfH knd d xs/\xs.length<=Bb/\atKey xs k=aa p /\
   ∀h',h'.DictOfH knd d (zV xs k)->cS d s.heap h'->R (.ok (.ret p.2)) { s with heap:=h',toks:=s.toks+knd.draws k }):=
 .of_wp λA R s ⟨hu,k,xs,p,hkey,hm,hz,hp,h⟩=>by
  unfold Builtin.«dict.pop»;refine ba ?_;unfold lZ;refine ba (fo hm.typeIs ?_);show Bf _ _ (pure (d,bK a,ao)) _ _ s;refine bf ?_;have kp:(keyPart (bK a)).isSome=aq:=rfl;simp only[kp,cE,if_false];obtain⟨o,es,ep,ho,hc,hd,he,his,hn⟩:=id hm;refine ba (dW ho hd ?_);refine ba (bf ?_);have ne:es.isEmpty=aq:=by
   have l1:=ot he;cases xs with
   |nil=>simp[atKey] at hp
   |cons x r =>
    rw[Array.isEmpty_eq_false_iff];intro z;rw[z] at l1;simp at l1
  simp only[ne,cE,if_false];refine ba (Qq hu hkey hm hp (λe ev h' hm' hs'=>?_) hz);simp only[pI,cE,if_false];exact ba (nh (bf ⟨e.val,Y,by rw[ev];exact h h' hm' hs'⟩))
theorem W6{dflt:af}{Q:af->am->Prop}(hu:knd.room A)(hkey:knd.is s.heap k a)(hm:s.heap.DictOfH knd d xs)
  (h1:∀p,atKey xs k=aa p->Q p.2 { s with toks:=s.toks+knd.draws k })
  (h2:atKey xs k=ao->∀h',h'.DictOfH knd d (storedH xs k a dflt)->cS d s.heap h'->Q dflt { s with heap:=h',toks:=s.toks+knd.draws k }) (hsz:xs.length<=Bb) :
  Bf (Bg prog w) A (dictSetDefault d (.ref a) dflt) Q E s:=by
 obtain⟨o,es,ep,ho,hc,hd,he,his,hn⟩:=hm;have hes:es.size=xs.length:=ot he;unfold dictSetDefault
 try with_reducible refine dM ?_
 refine ba (knd.pyHash hu hkey ?_);refine ba (wpAny_dictFind_heap (s:={ s with toks:=s.toks+knd.draws k }) hu hkey ho hd he his hn ?_ ?_)
 ·intro hno;have hnot:k ∉ xs.map (·.1):=not_mem_keys_of_get hno;have e0:=atKey_none_of_get hno;refine ba (lI (ba (oG (hz:=by lia) (s:={ s with toks:=s.toks+knd.draws k }) ho hd (bf (h2 e0 _ ⟨_,_,ep+1,eM _ ho (oW (gK hd _)),
   hc.mapDictKeys _,gK hd _,?_,?_,?_⟩ (df ..))))))
  ·rw[storedH_new e0];simp[he,entryOfKey]
  ·rw[storedH_new e0];intro x hx;rcases bC.mp hx with hx|hx
   ·exact knd.keeps (his x hx) ho hd (df ..)
   ·simp only[bt] at hx;subst hx;exact knd.keeps hkey ho hd (df ..)
  ·rw[storedH_new e0];rw[bS,du];refine⟨hn,by simp,?_⟩;intro x hx y hy;simp only[bx,n0,bt] at hy;subst hy;exact λe=>hnot (e ▸ hx)
 ·intro j p hj;refine ba (dW (s:={ s with toks:=s.toks+knd.draws k }) ho hd ?_);rw[entry_at he j,hj];exact ba (lI (bf (h1 p (atKey_of_get hn hj))))
theorem Jr(hd:(d==sysModules)=aq)(dflt:af):MeetsIn prog w (Builtin.«dict.setdefault» ⟨[.ref d,.ref a,dflt],[]⟩) (λA R s=>knd.room A.in1/\∃k xs,knd.is s.heap k a/\s.heap.DictOfH knd d xs/\xs.length<=Bb /\
   (∀p,atKey xs k=aa p->R (.ok (.ret p.2)) { s with toks:=s.toks+knd.draws k }) /\
   (atKey xs k=ao->∀h',h'.DictOfH knd d (storedH xs k a dflt)->cS d s.heap h'->R (.ok (.ret dflt)) { s with heap:=h',toks:=s.toks+knd.draws k })):=
 .of_wp λA R s ⟨hu,k,xs,hkey,hm,hz,h1,h2⟩=>by
  unfold Builtin.«dict.setdefault»;refine ba ?_;unfold lZ;refine ba (fo hm.typeIs ?_);show Bf _ _ (pure (d,bK a,aa dflt)) _ _ s;refine bf ?_;show Bf _ _ (if (d==sysModules)=ah then _ else (dictSetDefault d (.ref a) dflt >>= _)) _ _ s;rw[ap (by rw[hd];exact bM)];exact ba (W6 hu hkey hm (λp hp=>bf ⟨_,Y,h1 p hp⟩) (λhn h' hm' hs'=>bf ⟨dflt,Y,h2 hn h' hm' hs'⟩) hz)
end
section
variable {X:Cx}{aM:List (ac×Obj)}{σ:St}{H:B}{s:am}{a b:ac}{aO:List (List bv×V)}{k:List bv}{A:aB}{E:af->am->Prop}
theorem zhS{Q:af->am->Prop}(hu:A.units+1<cLine)(I:aU X aM σ H s)(e:H a=aa (.dT aO))(eb:H b=aa (.tup (k.map kV)))(l:zS aO k=aa v)
  (h:∀w' s',aU X aM σ (upd H a (.dT (yc aO k))) s'->aZ v w'->Q w' s'):Bf (Bg X.prog X.w) A (call (.builtin "dict.pop") [.ref a,.ref b]) Q E s:=by
 obtain⟨z,hd,xs,rel,dd⟩:=zag I.hok e;have hz:xs.length<=Bb:=by rw[<-bN rel];exact z
 have rv:=rel.val k;rw[l] at rv;obtain⟨w',hw,rw'⟩:=tj.some_of rv;obtain⟨p,hp,rfl⟩:=b8.mp hw;refine iU eK dd.typeIs iC (m4 _ _) (zb0 (knd:=tupleKind (yk X.prog X.w))) ⟨dY hu,k,xs,p,qe I.hok eb,dd,hz,hp,λh' dd' hs=>h _ _ ?_ rw'⟩;obtain⟨q,es,ep,hq,h2,h3,h4,_,h5⟩:=dd';refine Z8 I (by rw[e];exact eO) hs ⟨q,hq⟩ ⟨bP (zaf aO k) z,hd,_,(rel.dropT k).keeps λc ys ec=>?_,q,es,ep,hq,h2,h3,h4,h5⟩;rw[zh (zD ec e ())];exact ec
theorem zdy{Q:af->am->Prop}(hu:A.units+1<cLine)(I:aU X aM σ H s)(e:H a=aa (.dT aO))(eb:H b=aa (.tup (k.map kV)))(rd:aZ d r)(hl:aO.length<Bb)
  (h1:∀v w' s',zS aO k=aa v->aU X aM σ H s'->aZ v w'->Q w' s') (h2:∀s',zS aO k=ao->aU X aM σ (upd H a (.dT (ye aO k d))) s'->Q r s'):Bf (Bg X.prog X.w) A (call (.builtin "dict.setdefault") [.ref a,.ref b,r]) Q E s:=by
 obtain⟨z,hd,xs,rel,dd⟩:=zag I.hok e;have hz:xs.length<=Bb:=by rw[<-bN rel];exact z
 have rv:=rel.val k;refine iU lH dd.typeIs PySem.F.entry_dict_setdefault (PySem.F.args_dict_setdefault_3 _ _ _) (Jr (knd:=tupleKind (yk X.prog X.w)) hd r) ⟨dY hu,k,xs,qe I.hok eb,dd,hz,λp hp=>?_,λhn h' dd' hs=>?_⟩
 ·rw[hp] at rv;cases hv:zS aO k with
  |none=>rw[hv] at rv;exact rv.elim
  |some v=>rw[hv] at rv;exact h1 v _ _ hv (I.tok _) rv
 ·rw[hn] at rv;have hv:zS aO k=ao:=by
   cases hv:zS aO k with
   |none=>rfl
   |some v=>rw[hv] at rv;exact rv.elim
  refine h2 _ hv ?_;obtain⟨q,es,ep,hq,g2,g3,g4,_,g5⟩:=dd';have hl2:(ye aO k d).length<=Bb:=by have:=xQ aO k d;lia
  refine Z8 I (by rw[e];exact eO) hs ⟨q,hq⟩ ⟨hl2,hd,_,(rel.put k eb rd).keeps λc ys ec=>?_,q,es,ep,hq,g2,g3,g4,g5⟩;rw[zh (zD ec e ())];exact ec
end
def zb1(td ty:TE):TE:=λσ H Q=>td σ H λx H1=>∃a,x=.ref a/\IsD H1 a/\ty σ H1 λy H2=>∃aO k b v,H2 a=aa (.dT aO)/\y=.ref b/\H2 b=aa (.tup (k.map kV))/\zS aO k=aa v/\Q v (upd H2 a (.dT (yc aO k)))
def ze3(td ty tx:TE):TE:=λσ H Q=>td σ H λx H1=>∃a,x=.ref a/\IsD H1 a/\ty σ H1 λy H2=>tx σ H2 λz H3=>∃aO k b,H3 a=aa (.dT aO)/\y=.ref b/\H3 b=aa (.tup (k.map kV))/\aO.length<Bb /\
 (∀v,zS aO k=aa v->Q v H3)/\(zS aO k=ao->Q z (upd H3 a (.dT (ye aO k z))))
section
variable {X:Cx}{o e f:aD}{sC sK:Pos}{td ty tx:TE}
theorem ze4(hu:X.A.units+1<cLine)(ho:PE X o td)(he:PE X e ty)(m:M1 X o "pop" sC e sK):PE X (.Call (.Attribute o "pop" sC) [e] [] sK) (zb1 td ty):=by
 intro aM s σ H Q I h;refine gE m.base m.few m.line dZ eK iW (sr (ho aM s σ H _ I h) λu s1 ⟨x,H1,I1,rx,a,ex,d,q1⟩=>?_);subst ex;obtain rfl:u=bK a:=rx;obtain⟨t1,t2,_⟩:=Wg I1 d;refine⟨t1,t2,?_⟩;rw[m.trees];refine dy Y (eo (c9 (sr (he aM s1 σ H1 _ I1 q1) λiv s2 ⟨y,H2,I2,ry,aO,k,b,v,ea,ey,eb,l,q2⟩=>eW ?_)));subst ey;cases (show iv=bK b from ry);exact zhS hu I2 ea eb l λw' s3 I3 rw'=>⟨v,_,I3,rw',q2⟩
theorem ze5(hu:X.A.units+1<cLine)(ho:PE X o td)(he:PE X e ty)(hf:PE X f tx)(m:M2 X o "setdefault" sC e f sK):PE X (.Call (.Attribute o "setdefault" sC) [e,f] [] sK) (ze3 td ty tx):=by
 intro aM s σ H Q I h;refine gE m.base m.few m.line dZ lH PySem.F.type_dict_setdefault (sr (ho aM s σ H _ I h) λu s1 ⟨x,H1,I1,rx,a,ex,d,q1⟩=>?_);subst ex;obtain rfl:u=bK a:=rx;obtain⟨t1,t2,_⟩:=Wg I1 d;refine⟨t1,t2,?_⟩;rw[m.trees];refine dy Y (eo (c9 (sr (he aM s1 σ H1 _ I1 q1) λiv s2 ⟨y,H2,I2,ry,q2⟩ =>
  c9 (sr (hf aM s2 σ H2 _ I2 q2) λfv s3 ⟨z,H3,I3,rz,aO,k,b,ea,ey,eb,hl,q3,q4⟩=>eW ?_))))
 subst ey;cases (show iv=bK b from ry);exact zdy hu I3 ea eb rz hl (λv w' s4 hv I4 rw'=>⟨v,_,I4,rw',q3 v hv⟩) λs4 hn I4=>⟨z,_,I4,rz,q4 hn⟩
end
abbrev Zp:RM:=λx vs H Q=>∃(l:ac) (xs:List V) (k:Nat) (y:V),x=.ref l/\vs=[.int k,y]/\H l=aa (.lst xs)/\k<=xs.length/\xs.length<1000000/\Q .non (upd H l (.lst (xs.take k++y::xs.drop k)))
abbrev jL:RM:=λx vs H Q=>∃(l:ac) (ns:List Int) (i:Int),x=.ref l/\vs=[.int i]/\H l=aa (.lst (ns.map V.int))/\i∈ns/\Q .non (upd H l (.lst ((ns.erase i).map V.int)))
theorem aX.takeV:∀(k:Nat) {xs:List V} {us:List af},aX xs us->aX (xs.take k) (us.take k)
 |0,_,_,_=>by rw[List.take_zero,List.take_zero];exact .nil
 |_+1,_,_,.nil=>.nil
 |k+1,_,_,.cons h r=>.cons h (aX.takeV k r)
theorem aX.dropV:∀(k:Nat) {xs:List V} {us:List af},aX xs us->aX (xs.drop k) (us.drop k)
 |0,_,_,h=>h
 |_+1,_,_,.nil=>.nil
 |k+1,_,_,.cons _ r=>aX.dropV k r
section
variable {X:Cx}
theorem Ki:MtM X "list.insert" Zp:=by
 intro aM s σ H x vs v us Q I rx rv h;obtain⟨l,xs,k,y,rfl,rfl,hH,hk,hz,q⟩:=h;cases rx;cases rv with
 |cons r1 rr =>
  obtain⟨u,rfl,ru⟩:=(show aX [y] _ from rr).one;obtain⟨t,rfl⟩:=r1;obtain⟨z,its,n,r,hl,e⟩:=I.lstM hH;have h1:(1000000:Nat)<Bb:=by rw[bT];decide
  obtain⟨i,hi⟩:∃i:Int,i=k:=⟨_,Y⟩;rw[<-hi];have hc:¬ (!Builtin.List.listFitsIndex i)=ah:=by rw[fitsIndex_both () ()];exact bM
  have hs:its.toArray.size<=Bb:=by rw[bJ];lia
  have M:=AutoSeq1.list_insert_list_int_val_1 l its.toArray n i t u hc hs;refine iJ F.slot_list_insert ⟨_,e,Y⟩ F.entry_list_insert (F.args_list_insert_3 _ _ _) M ⟨e,?_⟩;refine⟨.non,_,I.lset (its':=its.take k++u::its.drop k) hH e ?_ ((r.takeV k).append (.cons ru (r.dropV k))) ?_,Y,q⟩
  ·have hk2:k<=its.length:=by lia
   subst hi;have hn:¬ ((k:Int)<0):=by lia
   simp[eL hk2,hn];rw[cP (by rw[cT];lia)]
  ·rw[bE,bY,cK,cT];lia
theorem zcE:∀ {ns:List Int} {its:List af},aX (ns.map V.int) its->∀(m:Nat) (v:af),its[m]?=aa v->∃i t,ns[m]?=aa i/\v=.int i t
 |[],_,.nil,m,v,h=>by simp at h
 |i::ns,_,.cons h r,0,v,e=>by
  simp only[br,bI] at e;subst e;obtain⟨t,rfl⟩:=h;exact⟨i,t,Y,Y⟩
 |i::ns,_,.cons h r,m+1,v,e=>by simpa using zcE r m v (by simpa using e)
def isI(k:Int):af->Bool
 |.int a _=>a==k
 |_=>aq
theorem Kj:MtM X "list.remove" jL:=by
 intro aM s σ H x vs v us Q I rx rv h;obtain⟨l,ns,i,rfl,rfl,hH,hi,q⟩:=h;cases rx;obtain⟨u,rfl,ru⟩:=rv.one;obtain⟨t,rfl⟩:=ru;obtain⟨z,its,n,r,hl,e⟩:=I.lstM hH;rw[bg] at hl z;have hj:ns.idxOf i<ns.length:=List.idxOf_lt_length_iff.mpr hi;have gt:∀m (hm:m<its.toArray.size),∃(h2:m<ns.length) (t':Tok),its.toArray[m]=.int ns[m] t':=λm hm=>by
  rw[bJ] at hm;obtain⟨i',t',h1,h2⟩:=zcE r m its[m] (bc hm);have h3:m<ns.length:=by lia
  rw[bc h3] at h1;refine⟨h3,t',?_⟩;rw[bL h1,<-h2];simp
 refine iJ F.slot_list_remove ⟨_,e,Y⟩ F.entry_list_remove (F.args_list_remove_2 _ _)
  (MeetsSeq.list_remove l its.toArray n (.int i t) (isI i) (λy hy=>?_) (ns.idxOf i) (by rw[bJ];lia) ?_ (λm hm hlt=>?_) (by rw[bJ];lia)) ⟨e,?_⟩
 ·obtain⟨m,hm,rfl⟩:=Array.mem_iff_getElem.mp hy;obtain⟨h2,t',e2⟩:=gt m hm;rw[e2];exact MeetsSeq.EqGives.int _ _ _ _
 ·obtain⟨h2,t',e2⟩:=gt (ns.idxOf i) (by rw[bJ];lia);rw[e2];show (ns[ns.idxOf i]==i)=ah;rw[List.getElem_idxOf hj];exact beq_self_eq_true i
 ·obtain⟨h2,t',e2⟩:=gt m hm;rw[e2];show (ns[m]==i)=aq;exact List.not_of_lt_findIdx (p:=λy=>y==i) (xs:=ns) (i:=m) hlt
 ·have ee:ns.erase i=ns.eraseIdx (ns.idxOf i):=List.erase_eq_eraseIdx_of_idxOf rfl;rw[ee] at q;refine⟨.non,_,I.lset (its':=its.eraseIdx (ns.idxOf i)) hH e ?_ (by rw[<-Wn];exact r.eraseIdx _) ?_,Y,q⟩
  ·show its.toArray.eraseIdxIfInBounds _=_;rw[iK]
  ·rw[bg];have:=JZ ns (ns.idxOf i);lia
end
def zdz(H:B)(y:V)(kv:List bv×V):Prop:=∃p,y=.ref p/\H p=aa (.tup (kv.1.map kV))
abbrev ze6:RC:=λvs H Q=>∃a aO,vs=[.ref a]/\H a=aa (.dT aO)/\∀l ys,H l=ao->Paired (zdz H) ys aO->Q (.ref l) (upd H l (.lst ys))
section
variable {X:Cx}
theorem WM{H:B}{es:Array DictEntry}:∀(aO:List (List bv×V)) (vs:List af) (j:Nat),vs.length=aO.length->(∀i v,vs[i]?=aa v->∃e,es[j+i]?=aa e/\v=e.key) ->
  (∀(i:Nat) (en:DictEntry) (kv:List bv×V),es[j+i]?=aa en->aO[i]?=aa kv->∃p,en.key=.ref p/\H p=aa (.tup (kv.1.map kV)))->∃ys,aX ys vs/\Paired (zdz H) ys aO
 |[],[],_,_,_,_=>⟨[],.nil,.nil⟩
 |[],v::vs,_,hl,_,_=>by simp at hl
 |kv::aO,[],_,hl,_,_=>by simp at hl
 |kv::aO,v::vs,j,hl,h1,h2=>by
  obtain⟨e,he,rfl⟩:=h1 0 v rfl;obtain⟨p,hp,hH⟩:=h2 0 e kv he rfl;obtain⟨ys,r1,r2⟩:=WM (es:=es) aO vs (j+1) (by simpa using hl) (λi u hu=>by rw[pJ,Nat.add_comm 1 i];exact h1 (i+1) u (by simpa using hu)) (λi en kv' he' hk=>h2 (i+1) en kv' (by rw[<-pJ,Nat.add_right_comm];exact he') (by simpa using hk));exact⟨.ref p::ys,.cons hp r1,.cons ⟨p,Y,hH⟩ r2⟩
theorem VR(hc:X.calm=ah):jE X (.type "list") ze6:=by
 intro aM s σ H vs us Q I r0 h;obtain⟨a,aO,rfl,ha,q⟩:=h;obtain⟨u,rfl,ru⟩:=jF r0;cases ru;have hh:X.A.handled=ao:=I.ok.hd hc;obtain⟨z,lo,_⟩:=zag I.hok ha;obtain⟨es,ep,rd,hes,hen⟩:=zeO I ha;refine W.kdl_call (Qg (ep:=ep) (es:=es) lo) hh rd (by rw[hes];exact z) λh' tk acc c hk hD hi=>?_;obtain⟨ys,r1,r2⟩:=WM (H:=H) (es:=es) aO acc.toList 0 (by rw[cF,hi.1,hes]) (λi v hv=>by
   rw[rA];obtain⟨e,h1,h2⟩:=hi.2 i v (by rw[<-dC];exact hv);exact⟨e,h1,h2⟩) (λi en kv he hk=>by
   rw[rA] at he;obtain⟨p,g1,g2,_⟩:=hen i en kv he hk;exact⟨p,g1,g2⟩)
 have I2:aU X aM σ (upd H s.heap.objs.size (.lst ys)) { s with heap:=h',toks:=tk }:=I.laid (a:=s.heap.objs.size) (o:=.lst ys) (t':=tk) hk (bp _)
  ⟨by have:=bN r2;lia,acc.toList,c,r1,by rw[Array.toArray_toList];exact hD⟩
 exact⟨.ref s.heap.objs.size,_,I2,Y,q _ ys (I.hok.fresh (bp _)) r2⟩
end
structure FunD(K:bw)(x qual:Str)(st:aC)(f:ac)(fd:Bc):Prop where
 ex:∃(oc:af) (od:Option ac) (dV kV doc pm:af) (an:Option ac) (cdv ct:af) (osl:Array (Option af)),fd=iT x qual (yR st) (ym st) (zg st) dV kV doc pm an cdv ct/\K.lookup f=aa ⟨oc,od,.func fd,osl⟩/\ig K cdv qual=ah
 kp:eD K (.ref f)=ah
section
variable {P:ax}{w:aA}{K:bw}{mg:Str->Option af}{base:ay}{x qual:Str}{st:aC}{f:ac}{fd:Bc}{N ps:List Str}{k:Nat}{sp:Sp}
theorem FunD.ok1(F:FunD K x qual st f fd)(S:aR N ps (zg st))(len:∀vs H Q E,sp vs H Q E->vs.length=ps.length)
  (hbody:∀(cdv:af) (A:aB) (outer:List Env) (s:am) (H:B) (vs:List V) (Q:VK) (E:XK),sH k (A.deeper (envOfC qual (zg st) s.heap.objs.size f cdv))->sp vs H Q E->∃t,PSs (q8 (tQ P w) P w K mg base N qual (zg st) f cdv A outer s H E) (ym st) t/\t { nx:=λ_ H'=>Q .non H',rt:=Q } (start N vs) H):sD P w K mg base (tQ P w) (k+1) f fd ps sp:=by
 obtain⟨oc,od,dV,kV,doc,pm,an,cdv,ct,osl,rfl,lk,hcd⟩:=F.ex;exact zg7 lk hcd S len λA outer s H vs Q E hr hsp=>hbody cdv A outer s H vs Q E hr hsp
theorem FunD.ok0(F:FunD K x qual st f fd)(S:aR N ps (zg st))(len:∀vs H Q E,sp vs H Q E->vs.length=ps.length)
  (hbody:∀(cdv:af) (A:aB) (outer:List Env) (s:am) (H:B) (vs:List V) (Q:VK) (E:XK),sH k (A.deeper (envOfC qual (zg st) s.heap.objs.size f cdv))->sp vs H Q E->∃t,PSs (q8 (tQ P w) P w K mg base N qual (zg st) f cdv A outer s H E).nox (ym st) t/\t { nx:=λ_ H'=>Q .non H',rt:=Q } (start N vs) H):sD P w K mg base (tQ P w) (k+1) f fd ps sp :=
 F.ok1 S len λcdv A outer s H vs Q E hr h=>let ⟨t,a,b⟩:=hbody cdv A outer s H vs Q E hr h;⟨t,a.nox,b⟩
theorem zcF{od an:Option ac}{osl:Array (Option af)}{dV kV doc pm cdv ct:af}(l:K.lookup f=aa ⟨oc,od,.func (iT x qual (yR st) (ym st) (zg st) dV kV doc pm an cdv ct),osl⟩)
  (c:ig K cdv qual=ah) (k:eD K (.ref f)=ah):FunD K x qual st f (iT x qual (yR st) (ym st) (zg st) dV kV doc pm an cdv ct):=⟨⟨oc,od,dV,kV,doc,pm,an,cdv,ct,osl,Y,l,c⟩,k⟩
end
section
variable {X:Cx}{o value:aD}{f:Str}{pos pos':Pos}{ta:TE}{tx:EXK->TE}
def zhg(K:bw)(ta:TE)(tx:EXK->TE)(f:Str)(EX:EXK):TS:=xF K ta (tx EX) f
theorem zgu(ha:PE X.nox o ta)(hv:PEX X value tx)(hs:swapsWith value (aa (.Attribute o f pos')) pos.line X.env=pure aq):PSX X (.Assign [.Attribute o f pos'] value pos) (zhg X.K ta tx f):=by
 intro aM s σ H D EX I h;refine iH (sr (hv aM s σ H _ EX I h) λu s1 ⟨y,H1,I1,ry,q⟩=>dR (ha aM s1 σ H1 _ (I1.wish _) q) (λov s2 ⟨x,H2,I2',rx,a,C,dx,fs,ex,ea,c,n,l,q2⟩=>?_) λ_ _ z=>dn z) hs;subst ex;obtain rfl:ov=bK a:=rx;exact Vs I2'.unwish ea c n l ry λs3 I3=>⟨σ,_,I3,q2⟩
end
def zhh(K:bw)(tb:EXK->TS)(C1 C2:ac)(th:TS):TS:=λD σ H=>tb (λcls σ1 H1=>∃C,cls=.ref C/\rM K (.ref C) [.ref C1,.ref C2]=aa ah/\th D σ1 H1) D σ H
theorem ze7(x:Heap.FlyingW base l e cls a0 h)(o:Obj):Heap.FlyingW base l e cls a0 (h.push o):=by
 obtain⟨f1,f2,f3,oe,vs,T,oT,ts,a1,a2,a3,a4,a5,a6,a7,a8,a9⟩:=x;exact⟨λb u q=>bd _ (f1 b u q),f2,f3.of_keeps (λb u q _=>⟨u,bd _ q,Y⟩),oe,vs,T,oT,ts,bd _ a1,a2,a3,a4,a5,a6,bd _ a7,a8,a9⟩
section
variable {X:Cx}{st b₀:aC}{suite:List aC}{tb:EXK->TS}{th:TS}{c1 c2:Str}{C1 C2:ac}{np np2 hpos tpos pos:Pos}{x1:Nat}
theorem zgv(hst:X.stack=X.env::X.outer/\X.env.frame=aa X.env.locals)(hex:X.ex=[])(hb:PSX X st tb)(hg1:Gl X c1)(hm1:X.mg c1=aa (.ref C1))(hg2:Gl X c2)(hm2:X.mg c2=aa (.ref C2))
  (hs:∀e,PSs (X.sub e) (b₀::suite) th) (hdb1:(c1==("__debug__":Str))=aq:=by lia) (hdb2:(c2==("__debug__":Str))=aq:=by lia) :
  PS X (.Try [st] [.ExceptHandler (aa (.Tuple [.Name c1 np,.Name c2 np2] x1 tpos)) ao (b₀::suite) hpos] [] [] pos) (zhh X.K tb C1 C2 th):=by
 intro aM s σ H D I h;refine wpAny_Try_except (i8 (dR (hb aM s σ H D _ I h) (λf s1 q=>?_) λev s1 q=>?_))
 ·cases f with
  |next=>exact eX (eX q)
  |ret v=>exact q
  |brk=>exact q
  |cont=>exact q
 obtain⟨e,cls,σ1,s0,H0,H1,rfl,I0,I1,xf,C,rfl,hx,hth⟩:=q;obtain⟨oe,vs,a0,T,oT,ts,h1,h2,h3,h4,h5,h6,h7,h8,h9,h10,h11,h12⟩:=xf;have fr:s1.heap.FunFrames (gN s1.heap (tz X.stack++[e,T])) (X.env::X.outer):=by
  have q:=lf (as:=tz X.stack++[e,T]) I1.stack λenv he a ha=>cM _ (fZ.mpr ⟨env,he,ha⟩);rw[hst.1] at q ⊢;exact q
 have two:∀b∈[e,T],s0.heap.get? b=ao/\H1 b=ao:=λb z=>by
  have z':b=e\/b=T:=by simpa using z
  rcases z' with rfl|rfl
  ·exact⟨h9,h11⟩
  ·exact⟨h10,h12⟩
 have hcs:∀b∈[e,T],H1 b=ao/\X.s₀.heap.get? b=ao:=λb z=>⟨(two b z).2,kJ (I0.there0 hex) (two b z).1⟩;have hcp:∀b∈[e,T],∀p∈X.pn++aM,p.1≠b:=λb z p hp q=>by
  have:=(I0.pin p hp).1;rw[q,(two b z).1] at this;cases this
 refine wpAny_looks_onW (base:=gN s1.heap (tz X.stack++[e,T])) (a0:=a0) (cls:=.ref C) (by rw[I1.ok.frames,hst.1]) hst.2
  ⟨λb o q=>l8 _ q,fY _ (bR _ (by simp)),fr,oe,vs,T,oT,ts,h1,h2,h3,h4,fY _ (bR _ (by simp)),h5,h6,h7,h8⟩ λg4 held4 sm4=>?_
 refine wpAny_landsW held4 λg5 fly5 sm5=>?_;have hB:∀ {g:ay},(gN s1.heap (tz X.stack++[e,T])).StaysIn g->∀b o,s1.heap.get? b=aa o->b ∉ tz X.stack->b ∉ [e,T]->g.get? b=aa o :=
  λ{g} k b o q n1 n2=>k b o (lE _ q λz=>(bC.mp z).elim n1 n2)
 have I5:aU X aM σ1 H1 { s1 with heap:=g5 }:=I1.land hex hcs hcp (hB fly5.1) (sm4.trans sm5);refine lS (iZ ?_) (by intro q;cases q);refine wpAny_Tuple_spliced (c9 (vN (X:=X.sub e) (I5.toSub (e:=e)) hg1 hm1 (c9 (vN (X:=X.sub e) (I5.toSub (e:=e)) hg2 hm2 (eW ⟨(by show 2<=Bb;decide),?_⟩) hdb2)) hdb1));have fly6:=ze7 fly5 { cls:=.type "tuple",data:=.seq [bK C1,bK C2].toArray };have kp:∀b o,g5.get? b=aa o->(g5.push { cls:=.type "tuple",data:=.seq [bK C1,bK C2].toArray }).get? b=aa o:=λb o q=>bd _ q;have hp:(g5.push { cls:=.type "tuple",data:=.seq [bK C1,bK C2].toArray }).get? g5.objs.size=aa { cls:=.type "tuple",data:=.seq [bK C1,bK C2].toArray }:=bG _ rfl;have K6:X.K.In (g5.push { cls:=.type "tuple",data:=.seq [bK C1,bK C2].toArray }):=(I5.kept (t':=s1.toks) kp).kIn;have ty6:se (Bg X.prog X.w) (g5.push { cls:=.type "tuple",data:=.seq [bK C1,bK C2].toArray }) (typeOf (.ref e)) (.ref C):=by
  obtain⟨o,p1,p2⟩:=fly6.there;exact p2 ▸ (pT p1).andThen .now
 refine(W.exm_tup2 K6 ty6 hp hx).here ?_;refine nQ (lands_againW fly6 λg7 fly7 sm7=>?_);have I7:aU X aM σ1 H1 { s1 with heap:=g7 }:=I1.land hex hcs hcp (hB fly7.1) (((sm4.trans sm5).trans (Heap.UpToSlots.of_keeps kp)).trans sm7);refine dR (hs e aM _ σ1 H1 D I7.toSub hth) (λf s9 q=>?_) λ_ _ z=>dn z;cases f with
 |next=>obtain⟨σ9,H9,J,z⟩:=q;exact⟨σ9,H9,aU.ofSub (J:=I) J,z⟩
 |brk=>obtain⟨σ9,H9,J,z⟩:=q;exact⟨σ9,H9,aU.ofSub (J:=I) J,z⟩
 |cont=>obtain⟨σ9,H9,J,z⟩:=q;exact⟨σ9,H9,aU.ofSub (J:=I) J,z⟩
 |ret u=>obtain⟨v,σ9,H9,J,r,z⟩:=q;exact⟨v,σ9,H9,aU.ofSub (J:=I) J,r,z⟩
end
section
variable {X:Cx}{CX:CXT}{k:Nat}{f C:ac}{fd:Bc}{ps:List Str}{sp:Sp}{dvs:List V}{E:XK}{m:Str}{pos sC:Pos}{o:aD}{ta:TE}
theorem Kk{pl:Sem Bool}(he:PE X o ta)(c:tG X.K C)(hm:KN X.K C m f)(F:sD X.prog X.w X.K X.mg X.base CX k f fd ps sp)(hr:sH k X.A)(hb:∃ds,aX dvs ds/\sL X.K fd ps ds)(hx:xX CX X E)
  (ht:eval (.Call (.Attribute o m sC) [] [] pos) X.env=(do
   let ov <-eval o X.env
   standAt sC.atName
   let (f,first) <-holding [ov] (getMethod ov m pl)
   callWith pos f first (backTo pos (Be [] X.env)) (backToKw pos (keywordEach [] X.env))):=by rfl) :
  PE X (.Call (.Attribute o m sC) [] [] pos) (zN C m sp dvs E ta zf):=by
 obtain⟨ds,hd,hb⟩:=hb;exact Q9 he c hm F hr hb hd hx ht
end
structure MkO(K:bw)(C:ac):Prop where
 makes:ie K C=ah
 init:ck K (.ref C) "__init__"=aa (aa (.builtin "object.__init__"))
 kp:eD K (.ref C)=ah
def zb2(C:ac):TE:=λ_ H Q=>∀x dx,H x=ao->H dx=ao->dx≠x->Q (.ref x) (upd (upd H dx (.own x)) x (.ins C dx []))
section
variable {X:Cx}{C:ac}{x:Str}{p pos:Pos}
theorem zdA{σ:St}{H:B}{s:am}{Q:VK}(M:MkO X.K C)(I:aU X aM σ H s)(h:∀x dx,H x=ao->H dx=ao->dx≠x->Q (.ref x) (upd (upd H dx (.own x)) x (.ins C dx []))) :
  Bf (Bg X.prog X.w) X.A (call (.ref C) []) (EP X aM σ Q) X.xe s:=by
 have hq:=h (s.heap.objs.size+1) s.heap.objs.size (I.hok.fresh (rQ _)) (I.hok.fresh (bp _)) (b7 (nG _));have I2:=aU.made (C:=C) I;refine pN (zdb I.kIn M.makes M.init (λself=>W.Looks.of_pure (W.oi_bind self)) ?_);have Bl:=W.makes_of (M:=Bg X.prog X.w) I.kIn M.makes;have g1:se (Bg X.prog X.w) ((s.heap.push eB).push (fU C s.heap.objs.size)) (typeOf (.ref (s.heap.objs.size+1))) (.ref C):=by
  have:=bG (s.heap.push eB) (o:=fU C s.heap.objs.size) rfl;rw[eU] at this;exact(pT this).andThen .now
 have g2:se (Bg X.prog X.w) ((s.heap.push eB).push (fU C s.heap.objs.size)) (isInstance (.ref (s.heap.objs.size+1)) (.type "object")) ah:=g1.andThen (Bl.top.keeps λb o e=>bd (fU C s.heap.objs.size) (bd eB e));refine codeAny_call_builtin W.oi_plain W.entry_oi (W.check_slot (rest:=[]) (kw:=[]) W.oi_kind W.oi_split g2 (W.oi_args _) ?_);rw[W.oi_run];exact bf ⟨Y,V.ref (s.heap.objs.size+1),_,I2,Y,hq⟩
theorem zaQ(M:MkO X.K C)(hg:Gl X x)(hm:X.mg x=aa (.ref C))(hdb:(x==("__debug__":Str))=aq:=by lia):PE X (.Call (.Name x p) [] [] pos) (zb2 C):=by
 intro aM s σ H Q I h;refine fj (vN I hg hm ?_ hdb);exact W.callWith_K0 I.kIn M.kp (zdA M I h)
end
def ze8(Bp:List (ac×Sp))(m:Str)(E:XK)(ta:TE)(t:TA):TE:=λσ H Q=>ta σ H λx H1=>∃a dx fs C sp,x=.ref a/\H1 a=aa (.ins C dx fs)/\fs.lookup m=ao/\(C,sp)∈Bp/\t σ H1 λvs H2=>sp (x::vs) H2 Q E
structure MOk(X:Cx)(CX:CXT)(m:Str)(C:ac)(sp:Sp):Prop where
 cl:tG X.K C
 fn:∃k f fd ps,KN X.K C m f/\sD X.prog X.w X.K X.mg X.base CX k f fd ps sp/\sH k X.A/\sL X.K fd ps []
section
variable {X:Cx}{CX:CXT}{E:XK}{m:Str}{pos sC:Pos}{e o:aD}{es:List aD}{ta:TE}{t:TA}{Bp:List (ac×Sp)}{C:ac}{sp:Sp}
theorem zhi(c:tG X.K C)(hm:KN X.K C m f)(F:sD X.prog X.w X.K X.mg X.base CX k f fd ps sp)(hr:sH k X.A)(hb:sL X.K fd ps []):MOk X CX m C sp:=⟨c,k,f,fd,ps,hm,F,hr,hb⟩
theorem zhT:∀z∈([]:List (ac×Sp)),MOk X CX m z.1 z.2:=λz h=>nomatch h
theorem zcG(h:MOk X CX m C sp)(r:∀z∈Bp,MOk X CX m z.1 z.2):∀z∈(C,sp)::Bp,MOk X CX m z.1 z.2:=λz hz=>by
 rcases bF.mp hz with rfl|hz
 ·exact h
 ·exact r z hz
theorem ze9{pl:Sem Bool}(he:PE X o ta)(hL:∀z∈Bp,MOk X CX m z.1 z.2)(hx:xX CX X E)(ha:PA X (e::es) t)
  (hst:Be (e::es) X.env=(aq,eval e X.env)::Be es X.env:=by rfl) (hpl:(backTo pos (Be es X.env)).any (·.1)=aq:=by rfl)
  (ht:eval (.Call (.Attribute o m sC) (e::es) [] pos) X.env=(do
   let ov <-eval o X.env
   standAt sC.atName
   let (f,first) <-holding [ov] (getMethod ov m pl)
   callWith pos f first (backTo pos (Be (e::es) X.env)) (backToKw pos (keywordEach [] X.env))):=by rfl) :
  PE X (.Call (.Attribute o m sC) (e::es) [] pos) (ze8 Bp m E ta t):=by
 intro aM s σ H Q I h;refine lM (pl:=pl) (sr (he aM s σ H _ I h) λu s1 ⟨x,H1,I1,rx,a,dx,fs,C,sp,ex,ea,l,hz,q⟩=>?_) ht;subst ex;obtain rfl:u=bK a:=rx;obtain⟨c,k,f,fd,ps,hm,F,hr,hb⟩:=hL _ hz;refine k9 I1 ea c hm l ?_;refine ma (first:=[.ref a]) (h₀:=X.base) I.ok.mod.kin hm.kp (sr (ha pos aM s1 σ H1 _ I1 q) λus s2 ⟨vs,H2,I2,r,q2⟩=>⟨I2.kIn,?_⟩) hst hpl;exact KO (us:=.ref a::us) (vs:=.ref a::vs) (dvs:=[]) F hr hb .nil hx I2 (.cons Y r) (by rw[b9];exact q2)
end
section
variable {X:Cx}{CX:CXT}{k:Nat}{f C:ac}{fd:Bc}{ps:List Str}{sp:Sp}{dvs:List V}{E:XK}{x:Str}{p pos:Pos}{e:aD}{es:List aD}{t:TA}
theorem zfa(M:Mk X.K C f)(F:sD X.prog X.w X.K X.mg X.base CX k f fd ps sp)(hr:sH (k+1) X.A)(hg:Gl X x)(hm:X.mg x=aa (.ref C))(hb:∃ds,aX dvs ds/\sL X.K fd ps ds)(hx:xX CX X E)
  (ha:PA X (e::es) t) (hdb:(x==("__debug__":Str))=aq:=by lia) (he:Be (e::es) X.env=(aq,eval e X.env)::Be es X.env:=by rfl) (hpl:(backTo pos (Be es X.env)).any (·.1)=aq:=by rfl) :
  PE X (.Call (.Name x p) (e::es) [] pos) (WI C sp dvs E t):=by
 obtain⟨ds,hd,hb⟩:=hb;exact Z6 M F hr hg hm hb hd hx ha hdb he hpl
end
end L2
namespace HT
open PySem PySem.Spec PyProof.Rows
end HT
namespace L2
open PySem PySem.Spec PyProof.Rows
end L2
namespace L2
open PySem
end L2
namespace L2
open PySem PySem.Spec PyProof.Rows
end L2
namespace L2
open PySem PySem.Spec PySem.W PyProof.Rows
end L2
namespace L2
open PySem PySem.Spec PySem.W PyProof.Rows PySem.Calls
end L2
namespace L2
open PySem PySem.Spec PyProof.Rows
structure FG(K:bw)(mg:Str->Option af)(x:Str)(st:aC)(ps:List Str)(a:ac)(d:Bc):Prop where
 f:Fun K x x st a d
 b:sL K d ps []
 m:mg x=aa (.ref a)
structure FM(K:bw)(C:ac)(x qual:Str)(st:aC)(ps:List Str)(a:ac)(d:Bc):Prop where
 f:Fun K x qual st a d
 b:sL K d ps []
 me:KN K C x a
abbrev QF(K:bw)(x qual:Str)(st:aC)(a:ac):Prop:=∃oc od sl kV dc pm an cd ct,K.lookup a=aa ⟨oc,od,.func (iT x qual (yR st) (ym st) (zg st) .none kV dc pm an cd ct),sl⟩/\ig K cd qual=ah/\eD K (.ref a)=ah
abbrev QG(K:bw)(x:Str)(st:aC):Prop:=∃a,gR K Bd x=aa (aa (.ref a))/\QF K x x st a
abbrev QM(K:bw)(C:ac)(x qual:Str)(st:aC):Prop:=∃a,ck K (.ref C) x=aa (aa (.ref a))/\pX K (.ref a)=ah/\QF K x qual st a
section
variable {K:bw}{h:ay}{mg:Str->Option af}{x qual:Str}{st:aC}{a C:ac}{ps:List Str}
theorem QF.to(q:QF K x qual st a)(hb:∀(kV doc pm:af) (an:Option ac) (cdv ct:af) (us:List af),us.length=ps.length->bindArgs (iT x qual (yR st) (ym st) (zg st) .none kV doc pm an cdv ct) ⟨us,[]⟩=pure (ps.zip us)):∃d,Fun K x qual st a d/\sL K d ps []/\eD K (.ref a)=ah:=by
 obtain⟨oc,od,sl,kV,dc,pm,an,cd,ct,h1,h2,h3⟩:=q;have F:=Vx (st:=st) h1 h2 h3;exact⟨_,F,F.binds hb,h3⟩
abbrev bA(x qual:Str)(st:aC)(us:List af)(bs:List (Str×af)):Prop:=∀(kV doc pm:af) (an:Option ac) (cdv ct:af),bindArgs (iT x qual (yR st) (ym st) (zg st) .none kV doc pm an cdv ct) ⟨us,[]⟩=pure bs
theorem QG.to(X:K.In h)(G:h.Ns Bd mg)(q:QG K x st)(hb:∀us:List af,us.length=ps.length->bA x x st us (ps.zip us)):∃a d,FG K mg x st ps a d:=by
 obtain⟨a,n,q⟩:=q;obtain⟨d,F,Bo,_⟩:=QF.to q λ_ _ _ _ _ _ us hl=>hb us hl _ _ _ _ _ _;exact⟨a,d,F,Bo,mF X G n⟩
theorem QM.to(q:QM K C x qual st)(hb:∀us:List af,us.length=ps.length->bA x qual st us (ps.zip us)):∃a d,FM K C x qual st ps a d:=by
 obtain⟨a,n,i,q⟩:=q;obtain⟨d,F,Bo,k⟩:=QF.to q λ_ _ _ _ _ _ us hl=>hb us hl _ _ _ _ _ _;exact⟨a,d,F,Bo,n,i,k⟩
theorem ar1{P:List af->Prop}(h:∀a,P [a]):∀us,us.length=1->P us
 |[a],_=>h a
theorem ar2{P:List af->Prop}(h:∀a b,P [a,b]):∀us,us.length=2->P us
 |[a,b],_=>h a b
theorem ar3{P:List af->Prop}(h:∀a b c,P [a,b,c]):∀us,us.length=3->P us
 |[a,b,c],_=>h a b c
theorem ar4{P:List af->Prop}(h:∀a b c d,P [a,b,c,d]):∀us,us.length=4->P us
 |[a,b,c,d],_=>h a b c d
variable (X:K.In h)(G:h.Ns Bd mg)(u v w y z:Str)
include X G in
theorem QG.a1(q:QG K x st)(hb:∀a,bA x x st [a] [(u,a)]:=by exact λ_ _ _ _ _ _ _=>rfl):∃a d,FG K mg x st [u] a d:=QG.to X G q (ar1 hb)
include X G in
theorem QG.a2(q:QG K x st)(hb:∀a b,bA x x st [a,b] [(u,a),(v,b)]:=by exact λ_ _ _ _ _ _ _ _=>rfl):∃a d,FG K mg x st [u,v] a d:=QG.to X G q (ar2 hb)
include X G in
theorem QG.a3(q:QG K x st)(hb:∀a b c,bA x x st [a,b,c] [(u,a),(v,b),(w,c)]:=by exact λ_ _ _ _ _ _ _ _ _=>rfl):∃a d,FG K mg x st [u,v,w] a d:=QG.to X G q (ar3 hb)
include X G in
theorem QG.a4(q:QG K x st)(hb:∀a b c d,bA x x st [a,b,c,d] [(u,a),(v,b),(w,c),(y,d)]:=by exact λ_ _ _ _ _ _ _ _ _ _=>rfl):∃a d,FG K mg x st [u,v,w,y] a d:=QG.to X G q (ar4 hb)
theorem QM.a1(q:QM K C x qual st)(hb:∀a,bA x qual st [a] [(u,a)]:=by exact λ_ _ _ _ _ _ _=>rfl):∃a d,FM K C x qual st [u] a d:=QM.to q (ar1 hb)
theorem QM.a2(q:QM K C x qual st)(hb:∀a b,bA x qual st [a,b] [(u,a),(v,b)]:=by exact λ_ _ _ _ _ _ _ _=>rfl):∃a d,FM K C x qual st [u,v] a d:=QM.to q (ar2 hb)
theorem QM.a3(q:QM K C x qual st)(hb:∀a b c,bA x qual st [a,b,c] [(u,a),(v,b),(w,c)]:=by exact λ_ _ _ _ _ _ _ _ _=>rfl):∃a d,FM K C x qual st [u,v,w] a d:=QM.to q (ar3 hb)
end
abbrev QX(K:bw)(a:ac):Prop:=∃cl,ck K (.ref a) "__getattribute__"=aa (aa (.builtin "BaseException.__getattribute__"))/\ck K (.ref a) "__getattr__"=aa ao/\ck K (.ref a) "__class__"=aa (aa (.builtin "object.__class__"))/\sf K a (.type "object")=aa ah/\sf K a (.type "BaseException")=aa ah/\rP K (.builtin "object.__class__") "__get__"=aa (aa (.builtin "getset_descriptor.__get__"))/\W.takesIn K (.builtin "object.__class__")=aa ah/\W.clsIn K a=aa cl
theorem QX.to{K:bw}(q:QX K a):ExK K a:=by
 obtain⟨cl,h1,h2,h3,h4,h5,h6,h7,h8⟩:=q;exact⟨⟨h1,h2,h3,h4,h5,h6,h7⟩,by rw[h8];rfl⟩
section
variable {X:Cx}{CX:CXT}{j k:Nat}{a C:ac}{d:Bc}{ps:List Str}{sp:Sp}{x m qual:Str}{st:aC}{p pos sC:Pos}{o e:aD}{es:List aD}{ta:TE}{t:TA}{E:XK}
theorem sU(F:sD X.prog X.w X.K X.mg X.base CX j a d ps sp)(G:FG X.K X.mg x st ps a d)(hr:sH k X.A)(hx:xX CX X E)(ha:PA X (e::es) t)(hj:j<=k:=by lia)(hg:Gl X x:=by exact rfl)(hdb:(x==("__debug__":Str))=aq:=by lia)(he:Be (e::es) X.env=(aq,eval e X.env)::Be es X.env:=by rfl)(hpl:(backTo pos (Be es X.env)).any (·.1)=aq:=by rfl) :
  PE X (.Call (.Name x p) (e::es) [] pos) (zG sp [] E t):=Xm (F.mono hj) hr hg G.m G.f.kp G.b .nil hx ha hdb he hpl
end
theorem aR.m{N P:List Str}{sc:aE}(h1:sc.kind=.function:=by rfl)(h2:sc.isCoroutine=aq:=by rfl)(h3:sc.isGenerator=aq:=by rfl)(h4:N.Nodup:=by lia)(h5:N.take P.length=P:=by rfl)(h6:∀x∈P,sc.names.lookup x=aa .local\/sc.names.lookup x=aa .cell:=by lia)(h7:∀y∈sc.names,y.2≠.free:=by lia):aR N P sc:=⟨h1,h2,h3,h4,h5,h6,h7⟩
section
variable {P:ax}{w:aA}{K:bw}{mg:Str->Option af}{base:ay}{x qual:Str}{st:aC}{f:ac}{fd:Bc}{N ps:List Str}{k:Nat}{sp:Sp}
theorem Fun.okA(F:Fun K x qual st f fd)(S:aR N ps (zg st))(h:∀vs H Q E,sp vs H Q E->vs.length=ps.length/\∀(cdv:af) (A:aB) (outer:List Env) (s:am),sH k (A.deeper (envOfC qual (zg st) s.heap.objs.size f cdv)) ->
   ∃t,PSs (q8 (tQ P w) P w K mg base N qual (zg st) f cdv A outer s H E).nox (ym st) t/\t { nx:=λ_ H'=>Q .non H',rt:=Q } (start N vs) H):sD P w K mg base (tQ P w) (k+1) f fd ps sp:=F.ok0 S (λvs H Q E z=>(h vs H Q E z).1) λcdv A outer s H vs Q E hr z=>(h vs H Q E z).2 cdv A outer s hr
theorem Fun.okB(F:Fun K x qual st f fd)(S:aR N ps (zg st))(h:∀vs H Q E,sp vs H Q E->vs.length=ps.length/\∀(cdv:af) (A:aB) (outer:List Env) (s:am),sH k (A.deeper (envOfC qual (zg st) s.heap.objs.size f cdv)) ->
   ∃t,PSs (q8 (tQ P w) P w K mg base N qual (zg st) f cdv A outer s H E) (ym st) t/\t { nx:=λ_ H'=>Q .non H',rt:=Q } (start N vs) H):sD P w K mg base (tQ P w) (k+1) f fd ps sp:=F.ok1 S (λvs H Q E z=>(h vs H Q E z).1) λcdv A outer s H vs Q E hr z=>(h vs H Q E z).2 cdv A outer s hr
end
section
variable {K:bw}{σ:St}{H:B}{Q:VK}{i:Nat}{k:Int}{p a C dx:ac}{xs:List V}{u v:V}{x w f:Str}{fs:List (Str×V)}{te:TE}{A Bo:TS}{D:W3}
theorem VS(h0:σ[i]?=aa (aa (.ref p)))(h1:H p=aa (.tup xs))(h2:tL xs k=aa u)(q:Q u H):aQ (yp K) (U i) (L (.int k)) σ H Q:=⟨_,h0,p,xs,k,u,Y,Y,sI.of h1,h2,q⟩
theorem Zq(h0:σ[i]?=aa (aa (.ref a)))(h1:H a=aa (.ins C dx fs))(c:tG K C)(n:aV K C f)(l:fs.lookup f=aa v)(q:Q v H):zK K (U i) f σ H Q:=⟨_,h0,a,C,dx,fs,v,Y,h1,c,n,l,q⟩
theorem ziz(h:∀Q:VK,Q (.str x) H->te σ H Q)(a:x=w->A D σ H)(b:x≠w->Bo D σ H):zF (zu (aQ sX te (L (.str w)))) A Bo D σ H:=by
 refine h _ ⟨Y,_,Y,?_⟩;by_cases c:x=w
 ·show if _ then _ else _
  rw[au (by rw[c];exact Bj Y)];exact a c
 ·show if _ then _ else _
  rw[ap (by rw[decide_eq_true_eq];exact λz=>c (V.str.inj z))];exact b c
theorem qp(h0:σ[i]?=aa (aa (.ref p)))(h1:H p=aa (.tup xs))(h2:tL xs k=aa (.str x))(a:x=w->A D σ H)(b:x≠w->Bo D σ H):zF (zu (aQ sX (aQ (yp K) (U i) (L (.int k))) (L (.str w)))) A Bo D σ H:=ziz (λQ q=>VS h0 h1 h2 q) a b
theorem zfb(h0:σ[i]?=aa (aa (.ref l)))(h1:H l=aa (.lst xs))(q:Q (.int xs.length) H):sM (xw K) (Z (U i) zf) σ H Q:=by
 refine⟨_,h0,.ref l,xs.length,Y,?_,q⟩;simp only[zc9];exact .inl ⟨_,aY.of h1,Y⟩
theorem ziA{n:Int}{P R:Prop}(a:n≠0->P)(b:n=0->R):if (!decide (V.int n=V.int 0))=ah then P else R:=by
 by_cases c:n=0
 ·rw[ap (by rw[c];decide)];exact b c
 ·rw[au (by rw[Bk (λz=>c (V.int.inj z))];rfl)];exact a c
theorem ziB{n:Int}{P R:Prop}(a:n=0->P)(b:n≠0->R):if decide (V.int n=V.int 0)=ah then P else R:=by
 by_cases c:n=0
 ·rw[au (by rw[c];decide)];exact a c
 ·rw[ap (by rw[Bk (λz=>c (V.int.inj z))];decide)];exact b c
end
end L2
namespace L2
open PySem PySem.Spec PySem.W PyProof.Rows
abbrev zhj:RC:=λxs H Q=>∃(a:ac) (aO:List (bv×V)) (rs:List Int),xs=[.ref a]/\H a=aa (.dK aO)/\aO.map (·.1)=rs.map gb/\aO.length<64 /\
 ∀(l:ac) (srt:List Int),H l=ao->srt.Perm rs->srt.Pairwise (· < ·)->Q (.ref l) (upd H l (.lst (srt.map V.int)))
abbrev zhk:RC:=λxs H Q=>∃(a:ac) (aO:List (bv×V)) (rs:List Int),xs=[.ref a]/\H a=aa (.dK aO)/\aO.map (·.1)=rs.map gb/\aO.length<64 /\
 ∀(l:ac) (srt:List Int),H l=ao->srt.Perm rs->srt.Pairwise (λx y=>y<x)->Q (.ref l) (upd H l (.lst (srt.map V.int)))
theorem Kl:∀ {vs:List af} {ns:List Int},IntsAre vs ns->aX (ns.map V.int) vs
 |_,_,.nil=>.nil
 |_,_,.cons _ t h=>.cons ⟨t,Y⟩ (Kl h)
theorem Km{P:ax}{w:aA}:∀ {aO:List (bv×V)} {vs:List (bv×af)} {es:List DictEntry} {rs:List Int},KV aO vs->Pairs (yk P w) es vs->aO.map (·.1)=rs.map gb->IntsAre (es.map (·.key)) rs/\vs.map (·.1)=rs.map gb
 |_,_,_,[],.nil,.nil,_=>⟨.nil,Y⟩
 |_,_,_,r::rs,.cons h kv,.cons hk _ pr,hr=>by
  obtain⟨e1,e2⟩:=List.cons.inj hr;obtain⟨i1,i2⟩:=Km kv pr e2;have e3:=h.1.symm.trans e1;rcases yw hk with ⟨j,t,ej,et⟩|⟨x,t,ej,et⟩
  ·rw[e3] at ej;cases ej;refine⟨?_,by rw[bx,bx,i2,e3]⟩;rw[bx,et];exact .cons _ t i1
  ·rw[e3] at ej;cases ej
section
variable {X:Cx}{p pos kp:Pos}{e:aD}{ta:TE}
theorem zcH{aM:List (ac×Obj)}{σ:St}{H:B}{s:am}{a:ac}{aO:List (bv×V)}{rs:List Int}{Q:VK}{kw:List (Str×af)}{O:List Int->Prop}(hc:X.calm=ah)(I:aU X aM σ H s)(ha:H a=aa (.dK aO))(hk:aO.map (·.1)=rs.map gb)(h64:aO.length<64)
  (hs:∀(R:PySem.Fin->am->Prop) (s:am) (b:ac) (vs:List af),s.heap.get? b=aa (seqObj "list" vs.toArray 0)->IntsAre vs rs->vs.length<64->(∀(out:Array af) (ns:List Int),IntsAre out.toList ns->ns.Perm rs->(rs.Nodup->O ns)->R (.done (.ret .none)) { s with heap:=sortedHeap s.heap b vs out })->Bf (Bg X.prog X.w) X.A.in1.in1 (Builtin.«list.sort» ⟨[.ref b],kw⟩) R X.xe s)
  (hw:argsOk "sorted" ⟨[.ref a],kw⟩) (hw2:∀b:ac,argsOk "list.sort" ⟨[.ref b],kw⟩)
  (q:∀(l:ac) (srt:List Int),H l=ao->srt.Perm rs->O srt->Q (.ref l) (upd H l (.lst (srt.map V.int)))) :
  Bf (Bg X.prog X.w) X.A (call (.builtin "sorted") [.ref a] kw) (EP X aM σ Q) X.xe s:=by
 obtain⟨hz,lo,vs,kv,o,es,ep,ho,hx,hd,hk',pr,hn⟩:=(show dl X.prog X.w H s.heap a (.dK aO) from I.hok a _ ha);obtain⟨ia,ev⟩:=Km kv pr hk;have nr:rs.Nodup:=xz (f:=(gb:Int->bv)) (by rw[<-ev];exact hn);have il:es.size<64:=by have:=kv.length;have:=pr.length;rw[cF] at this;lia
 have cl:=bP (show es.size<=1000 by lia) (show 1000<=Bb by lia);refine call_function_entry_kw kind_sorted rj rm hw ?_;unfold Builtin.«sorted»;refine ba (m:=checkCount "sorted" 1 1 _) (bf ?_);refine ba (WK (Qg (ep:=ep) (es:=es) lo) (I.ok.hd hc) ⟨o,ho,hx,hd⟩ cl λh tk ws k1 hl hG=>?_);have ew:ws=es.toList.map (·.key):=by
  apply fK;intro i;by_cases hi:i<ws.length
  ·obtain⟨e,hes,ek⟩:=hG i ws[i] (bc hi);rw[bc hi,ek,bB,dC,hes];rfl
  ·rw[cN (),cN (by rw[bg,cF];lia)]
 rw[<-ew] at ia;have hoL:(h.push (seqObj "list" ws.toArray 0)).get? h.objs.size=aa (seqObj "list" ws.toArray 0):=bG _ rfl;refine ba (nu ?_ (by rw[bT];lia));refine ba (dM (wpAny_call_entry_kw oK ⟨_,hoL,Y⟩ om (hs _ { s with heap:=h.push (seqObj "list" ws.toArray 0),toks:=tk } _ ws hoL ia () λout ns a1 a2 a3=>⟨_,rfl,bf ⟨_,rfl,?_⟩⟩) (hw2 _)));obtain⟨c,hD⟩:=sortedHeap_at (out:=out) hoL;have I1:aU X aM σ H { s with heap:=h,toks:=tk }:=I.kept k1;have nl:=a2.length_eq;have rl:=IntsAre.length ia;refine⟨.ref h.objs.size,_,I1.laid (s:={ s with heap:=h,toks:=tk }) (a:=h.objs.size) (o:=.lst (ns.map V.int)) (t':=tk) (λb o e=>?_) (bp _) ⟨by rw[bg];exact bP (show ns.length<=1000 by have:=congrArg cp hk;rw[bg,bg] at this;lia) (),_,c,Kl a1,hD⟩,Y,q _ _ (I1.hok.fresh (bp _)) a2 (a3 nr)⟩;have lt:=bQ e;exact(sortedHeap_old (b7 lt) (by rw[size_push'];exact pP lt)).trans (bd _ e)
theorem Qr(hc:X.calm=ah):jE X (.builtin "sorted") zhj:=by
 intro aM s σ H xs us Q I r h;obtain⟨a,aO,rs,rfl,ha,hk,h64,q⟩:=h;obtain⟨u,rfl,ru⟩:=jF r;cases ru;exact zcH hc I ha hk h64 (O:=λn=>n.Pairwise (· < ·)) (λR s b vs h1 h2 h3 h=>list_sort_tree h1 h2 h3 λout ns a1 a2 a3=>h out ns a1 a2 λnd=>(a3.and (a2.nodup_iff.mpr nd)).imp λz=>by lia) (ro _) (λ_=>oM _) q
theorem zgw{ta:TA}{j:Nat}{kq:Pos}(hc:X.calm=ah)(hg:Gl X "sorted")(hm:X.mg "sorted"=ao)(hv:Bh "sorted"=aa (.builtin "sorted"))(ha:PA X [e] ta)(he:backTo pos (Be [e] X.env)=[(aq,eval e X.env)]:=by rfl)(hp:(backTo pos (Be [e] X.env)).any (·.1)=aq:=by rfl) :
  PE X (.Call (.Name "sorted" p) [e] [⟨aa (bb "reverse"),.Constant (.bool ah) j kq,kp⟩] pos) (sM zhk ta):=by
 intro aM s σ H Q I h;refine fj (X9 I hg hm hv ?_ () ());refine callWith_kw (sr (ha pos aM s σ H _ I h) λus s1 ⟨vs,H1,I1,r1,a,aO,rs,e1,ha,hk,h64,q⟩=>?_) he hp;subst e1;obtain⟨u,rfl,ru⟩:=jF r1;cases ru;refine sr (zf1 (nm:=aa (bb "reverse")) (kpos:=kp) vY zhz pos aM s1 σ H1 (λvs H'=>vs=[.bl ah]/\H'=H1) I1 ⟨Y,Y⟩) λws s2 ⟨zs,H2,I2,rz,ez,eh⟩=>?_;subst ez eh;obtain⟨u,rfl,ru⟩:=jF rz;cases ru;exact zcH hc I2 ha hk h64 (O:=λn=>n.Pairwise (λx y=>y<x)) (λR s b vs h1 h2 h3 h=>list_sort_tree_rev (b:=ah) h1 h2 h3 λout ns a1 a2 a3=>h out ns a1 a2 λnd=>(List.Pairwise.and (show ns.Pairwise (· >= ·) from a3) (a2.nodup_iff.mpr nd)).imp λz=>by lia) (args_sorted_rev _ _) (λ_=>args_list_sort_rev _ _) q
end
section
variable {X:Cx}{CX:CXT}{i j k:Nat}{f C:ac}{fd:Bc}{ps:List Str}{sp:Sp}{x m qual:Str}{st:aC}{pos pos' sC:Pos}{o a b e:aD}{es:List aD}{te ta tb:TE}{t:TA}{E:XK}
theorem zx(hN:X.N.Nodup)(he:PE X e te)(hi:X.N[i]?=aa x:=by rfl)(hx:Loc X.env.scope x:=by exact .inl Y)(hs:swapsWith e (aa (.Name x pos')) pos.line X.env=pure aq:=by rfl)(hf:X.fn x=ah\/X.env.scope.names.lookup x=aa .local:=by first|exact .inl rfl|exact .inr rfl|assumption) :
  PS X (.Assign [.Name x pos'] e pos) (zE te (zm i)):=Wb hN hi hx he hs hf
theorem wc(hN:X.N.Nodup)(hi:X.N[i]?=aa x:=by rfl)(hx:Loc X.env.scope x:=by exact .inl Y)(hf:X.fn x=ah\/X.env.scope.names.lookup x=aa .local:=by first|exact .inl rfl|exact .inr rfl|assumption):PG X (.Name x pos) (zm i):=kY hN hi hx hf
theorem z4{r:R2}(hr:IxR X r)(ha:PE X a ta)(hb:PE X b tb)(hs:zcn b:=by exact λ_ _=>rfl):PE X (.Subscript a b pos) (aQ r ta tb):=zin hr ha hb hs
theorem tR{pl:Sem Bool}(he:PE X o ta)(c:tG X.K C)(F:sD X.prog X.w X.K X.mg X.base CX j f fd ps sp)(G:FM X.K C m qual st ps f fd)(hr:sH k X.A)(hx:xX CX X E)(ha:PA X (e::es) t)(hj:j<=k:=by lia)
  (hst:Be (e::es) X.env=(aq,eval e X.env)::Be es X.env:=by rfl) (hpl:(backTo pos (Be es X.env)).any (·.1)=aq:=by rfl)
  (ht:eval (.Call (.Attribute o m sC) (e::es) [] pos) X.env=(do
   let ov <-eval o X.env
   standAt sC.atName
   let (f,first) <-holding [ov] (getMethod ov m pl)
   callWith pos f first (backTo pos (Be (e::es) X.env)) (backToKw pos (keywordEach [] X.env))):=by rfl) :
  PE X (.Call (.Attribute o m sC) (e::es) [] pos) (zN C m sp [] E ta t):=KP he c G.me (F.mono hj) hr G.b .nil hx ha hst hpl ht
theorem Wo{pl:Sem Bool}(he:PE X o ta)(c:tG X.K C)(F:sD X.prog X.w X.K X.mg X.base CX j f fd ps sp)(G:FM X.K C m qual st ps f fd)(hr:sH k X.A)(hx:xX CX X E)(hj:j<=k:=by lia)
  (ht:eval (.Call (.Attribute o m sC) [] [] pos) X.env=(do
   let ov <-eval o X.env
   standAt sC.atName
   let (f,first) <-holding [ov] (getMethod ov m pl)
   callWith pos f first (backTo pos (Be [] X.env)) (backToKw pos (keywordEach [] X.env))):=by rfl) :
  PE X (.Call (.Attribute o m sC) [] [] pos) (zN C m sp [] E ta zf):=Q9 he c G.me (F.mono hj) hr G.b .nil hx ht
end
section
variable {K:bw}{h:ay}{mg:Str->Option af}{x:Str}{st:aC}
theorem ar6{P:List af->Prop}(h:∀a b c d e f,P [a,b,c,d,e,f]):∀us,us.length=6->P us
 |[a,b,c,d,e,f],_=>h a b c d e f
theorem ar8{P:List af->Prop}(h:∀a b c d e f g i,P [a,b,c,d,e,f,g,i]):∀us,us.length=8->P us
 |[a,b,c,d,e,f,g,i],_=>h a b c d e f g i
theorem QG.a6(X:K.In h)(G:h.Ns Bd mg)(u v w y z o:Str)(q:QG K x st)(hb:∀a b c d e f,bA x x st [a,b,c,d,e,f] [(u,a),(v,b),(w,c),(y,d),(z,e),(o,f)]:=by exact λ_ _ _ _ _ _ _ _ _ _ _ _=>rfl):∃a d,FG K mg x st [u,v,w,y,z,o] a d:=QG.to X G q (ar6 hb)
theorem QG.a8(X:K.In h)(G:h.Ns Bd mg)(u v w y z o l m:Str)(q:QG K x st)(hb:∀a b c d e f g i,bA x x st [a,b,c,d,e,f,g,i] [(u,a),(v,b),(w,c),(y,d),(z,e),(o,f),(l,g),(m,i)]:=by exact λ_ _ _ _ _ _ _ _ _ _ _ _ _ _=>rfl):∃a d,FG K mg x st [u,v,w,y,z,o,l,m] a d:=QG.to X G q (ar8 hb)
end
end L2
namespace K43
open PySem L2
abbrev aG:=rI (λ_ j=>0<j) λi j=>.int (i%j)
abbrev aH:=rI0 λi j=>.int (i+j)
abbrev aI:=rI yq λi j=>.int (i/j)
abbrev aJ:=rI0 λi j=>.bl (decide (i<j))
abbrev aK:=rI0 λi j=>.int (i-j)
abbrev aL:=rI CMulB λi j=>.int (i*j)
abbrev sJ(Q:VK):W3:={nx:=λ_ H'=>Q .non H',rt:=Q}
def top(i:Nat):aC:=PySem.Challenge.pw_forerun_k43_what_is_read_is_seen.main.body.getD i (.Pass ⟨0,0,0,0⟩)
abbrev wL:aC:=top 38
abbrev qq:aC:=top 37
abbrev jM:aC:=top 39
abbrev j7:aC:=top 40
abbrev vP:aC:=top 45
abbrev v9:aC:=top 36
abbrev j8:aC:=top 30
abbrev YV:aC:=top 29
abbrev Wp:aC:=top 31
abbrev xm:aC:=zP (top 13) 0
abbrev xS:aC:=zP (top 15) 0
abbrev xT:aC:=zP (top 27) 0
abbrev ja:aC:=zP (top 27) 4
abbrev wM:aC:=zP (top 27) 9
abbrev YW:aC:=zP (top 25) 1
abbrev Wq:aC:=top 20
abbrev Wr:aC:=top 21
abbrev YX:aC:=top 17
abbrev VT:aC:=top 22
abbrev YY:aC:=top 23
abbrev jd:aC:=zP (top 25) 5
abbrev je:aC:=zP (top 25) 6
abbrev YZ:aC:=zP (top 25) 2
abbrev wd:aC:=zP (top 13) 8
abbrev qt:aC:=top 10
abbrev qu:aC:=zP (top 13) 1
abbrev Zr:aC:=zP (top 25) 9
abbrev Y0:aC:=zP (top 25) 8
abbrev qw:aC:=zP (top 25) 7
abbrev wN:aC:=zP (top 25) 3
abbrev xq:aC:=zP (top 15) 4
abbrev xb:aC:=zP (top 15) 5
abbrev Zs:aC:=top 12
abbrev vB:aC:=zP (top 15) 2
abbrev wO:aC:=zP (top 34) 0
abbrev qx:aC:=zP (top 33) 0
abbrev wP:aC:=zP (top 25) 0
abbrev vC:aC:=zP (top 27) 11
abbrev we:aC:=zP (top 27) 10
abbrev wf:aC:=zP (top 13) 6
abbrev wj:aC:=zP (top 13) 9
abbrev Y1:aC:=top 11
abbrev Zt:aC:=zP (top 13) 2
abbrev xH:aC:=zP (top 13) 7
abbrev qy:aC:=zP (top 15) 3
abbrev vD:aC:=zP (top 15) 1
abbrev Zu:aC:=zP (top 25) 4
abbrev Zv:aC:=zP (top 27) 2
abbrev j9:aC:=zP (top 27) 3
abbrev Zw:aC:=top 41
abbrev Zx:aC:=top 42
abbrev Y2:aC:=top 43
abbrev jN:aC:=top 44
abbrev Y3:aC:=zP (top 27) 1
abbrev Zy:aC:=top 47
abbrev qA:aC:=top 46
abbrev wq:aC:=top 48
abbrev wt:aC:=top 49
abbrev wu:aC:=top 50
abbrev XA:aC:=top 51
theorem jO:aR ["word"] ["word"] (zg wL):=.m
theorem Yw:aR ["cell","many","found","one","two","k"] ["cell","many"] (zg qq):=.m
theorem q0g:aR ["cell","letters","word","one","at","letter"] ["cell"] (zg jM):=.m
theorem Zz:aR ["number"] ["number"] (zg j7):=.m
theorem q0i:aR ["cell","shelves","xs","found","k","worth"] ["cell","shelves"] (zg vP):=.m
theorem qU:aR ["script","k"] ["script","k"] (zg v9):=.m
theorem q0k:aR ["row","at","steps","to","others"] ["row","at"] (zg j8):=.m
theorem q0u:aR ["rows","first","steps","row"] ["rows","first"] (zg YV):=.m
theorem VU:aR ["rows"] ["rows"] (zg Wp):=.m
theorem Yx:aR ["self","table"] ["self","table"] (zg xm):=.m
theorem XB:aR ["self","makes"] ["self","makes"] (zg xS):=.m
theorem XC:aR ["self","table","hands","way","first"] ["self","table","hands","way","first"] (zg xT):=.m
theorem qV:aR ["self"] ["self"] (zg ja):=.m
theorem jP:aR ["self"] ["self"] (zg wM):=.m
theorem WN:aR ["self"] ["self"] (zg YW):=.m
theorem VV:aR ["word","first","second"] ["word","first","second"] (zg Wq):=.m
theorem VW:aR ["word","first","second"] ["word","first","second"] (zg Wr):=.m
theorem WO:aR ["thing"] ["thing"] (zg YX):=.m
theorem q0v:aR ["word","first","second","worth"] ["word","first","second"] (zg VT):=.m
theorem q0h:aR ["term","slots","worths","part","second","first"] ["term","slots"] (zg YY):=.m
theorem qW:aR ["self","term"] ["self","term"] (zg jd):=.m
theorem qX:aR ["self","due"] ["self","due"] (zg je):=.m
theorem q0w:aR ["self","place"] ["self"] (zg YZ):=.m
theorem jf:aR ["self","rank"] ["self","rank"] (zg wd):=.m
theorem Yy:aR ["ranks","rank","low","high","amid"] ["ranks","rank"] (zg qt):=.m
theorem Yz:aR ["self","place","rank","ranks","below"] ["self","place","rank"] (zg qu):=.m
theorem XD:aR ["self","place","worth"] ["self","place","worth"] (zg Zr):=.m
theorem q0x:aR ["self","due","worth","place"] ["self","due","worth"] (zg Y0):=.m
theorem YA:aR ["self","due","worth"] ["self","due","worth"] (zg qw):=.m
theorem WP:aR ["self","worth"] ["self","worth"] (zg wN):=.m
theorem q0y:aR ["self","rank","place","worth","now"] ["self","rank"] (zg xq):=.m
theorem q0l:aR ["self","ranks","rank","note"] ["self"] (zg xb):=.m
theorem q0z:aR ["ranks_at","place","rank","ranks"] ["ranks_at","place","rank"] (zg Zs):=.m
theorem q10:aR ["self","rank","paper","place","worth"] ["self","rank"] (zg vB):=.m
theorem jQ:aR ["self","ranks"] ["self","ranks"] (zg wO):=.m
theorem YB:aR ["self","ranks"] ["self","ranks"] (zg qx):=.m
theorem WQ:aR ["self","code"] ["self","code"] (zg wP):=.m
theorem q11:aR ["self","hand","rank"] ["self","hand"] (zg vC):=.m
theorem q0m:aR ["self","hand","lowest","changed"] ["self","hand"] (zg we):=.m
theorem jg:aR ["self","rank"] ["self","rank"] (zg wf):=.m
theorem q12:aR ["self","rank","places","place"] ["self","rank"] (zg wj):=.m
theorem q13:aR ["ranks_at","place","rank","ranks"] ["ranks_at","place","rank"] (zg Y1):=.m
theorem q14:aR ["self","rank","gifts","worths","place"] ["self","rank","gifts"] (zg Zt):=.m
theorem vK:aR ["self","place","rank","ranks","above"] ["self","place","rank"] (zg xH):=.m
theorem q0n:aR ["self","place","rank","readers","above","behind","reader"] ["self","place","rank"] (zg qy):=.m
theorem q15:aR ["self","rank","paper","before","place","worth"] ["self","rank","paper"] (zg vD):=.m
theorem q16:aR ["self","notes"] ["self"] (zg Zu):=.m
theorem q0o:aR ["self","hand","rank","run","place","worth"] ["self","hand"] (zg Zv):=.m
theorem q17:aR ["self","told"] ["self"] (zg j9):=.m
theorem XE:aR ["number","slots","kind"] ["number","slots"] (zg Zw):=.m
theorem XG:aR ["number","slots","words","kind"] ["number","slots"] (zg Zx):=.m
theorem q0p:aR ["xs","shelves","slots","kind","shelf","slot","spot","term"] ["xs","shelves","slots"] (zg Y2):=.m
theorem q0j:aR ["cell","shelves","slots","xs","rows","at","to","row"] ["cell","shelves","slots"] (zg jN):=.m
theorem q18:aR ["self","code","rank"] ["self","code"] (zg Y3):=.m
theorem XH:aR ["table","laid","place","rank","other","spot","worth"] ["table","laid","place","rank"] (zg Zy):=.m
theorem q19:aR ["found","due","one","other"] ["found","due"] (zg qA):=.m
theorem q0q:aR ["row","hand","rank","run","table","laid","place","worth"] ["row","hand","rank","run","table","laid"] (zg wq):=.m
theorem jh:aR ["row","hand","added","first"] ["row","hand","added","first"] (zg wt):=.m
theorem ji:aR ["row","hand","codes","first","runs","ranks","table","laid","held"] ["row","hand","codes","first","runs","ranks","table","laid"] (zg wu):=.m
theorem q04:aR ["script","shelves","slots","table","codes","hands","way","first","desk","early","added","runs","ranks","laid","cell","hand","batch","code","row"] ["script"] (zg XA):=.m
set_option genSizeOf false in
set_option genInjectivity false in
set_option genInjectivity false in
structure mt where
 a0:ac
 d0:Bc
 a1:ac
 d1:Bc
 a2:ac
 d2:Bc
 a3:ac
 d3:Bc
 a4:ac
 d4:Bc
 a5:ac
 d5:Bc
 a6:ac
 d6:Bc
 a7:ac
 d7:Bc
 a8:ac
 d8:Bc
 a9:ac
 d9:Bc
 a10:ac
 d10:Bc
 a11:ac
 d11:Bc
 a12:ac
 d12:Bc
 a13:ac
 d13:Bc
 a14:ac
 d14:Bc
 a15:ac
 d15:Bc
 a16:ac
 d16:Bc
 a17:ac
 d17:Bc
 a18:ac
 d18:Bc
 a19:ac
 d19:Bc
 a20:ac
 d20:Bc
 a21:ac
 d21:Bc
 a22:ac
 d22:Bc
 a23:ac
 d23:Bc
 a24:ac
 d24:Bc
 a25:ac
 d25:Bc
 a26:ac
 d26:Bc
 a27:ac
 d27:Bc
 a28:ac
 d28:Bc
 a29:ac
 d29:Bc
 a30:ac
 d30:Bc
 a31:ac
 d31:Bc
 a32:ac
 d32:Bc
 a33:ac
 d33:Bc
 a34:ac
 d34:Bc
 a35:ac
 d35:Bc
 a36:ac
 d36:Bc
 a37:ac
 d37:Bc
 a38:ac
 d38:Bc
 a39:ac
 d39:Bc
 a40:ac
 d40:Bc
 a41:ac
 d41:Bc
 a42:ac
 d42:Bc
 a43:ac
 d43:Bc
 a44:ac
 d44:Bc
 a45:ac
 d45:Bc
 a46:ac
 d46:Bc
 a47:ac
 d47:Bc
 a48:ac
 d48:Bc
 a49:ac
 d49:Bc
 a50:ac
 d50:Bc
 a51:ac
 d51:Bc
 a52:ac
 d52:Bc
 a53:ac
 d53:Bc
 a54:ac
 d54:Bc
 a55:ac
 d55:Bc
 a56:ac
 d56:Bc
 a57:ac
 d57:Bc
 a58:ac
 d58:Bc
 a59:ac
 d59:Bc
 q0r:ac
 q01:ac
 q07:ac
 q0e:ac
 q03:ac
 q02:ac
 q06:ac
 q00:ac
 q0a:ac
structure Txt(K:bw)(mg:Str->Option af)(t:mt):Prop where
 g0:FG K mg "_law_free_name" wL ["word"] t.a0 t.d0
 g1:FG K mg "_law_draws" qq ["cell","many"] t.a1 t.d1
 g2:FG K mg "_law_pair" jM ["cell"] t.a2 t.d2
 g3:FG K mg "_law_number" j7 ["number"] t.a3 t.d3
 g4:FG K mg "_law_table" vP ["cell","shelves"] t.a4 t.d4
 g5:FG K mg "_law_cell_at" v9 ["script","k"] t.a5 t.d5
 g6:FG K mg "block_steps" j8 ["row","at"] t.a6 t.d6
 g7:FG K mg "steps_of" YV ["rows","first"] t.a7 t.d7
 g8:FG K mg "code_of" Wp ["rows"] t.a8 t.d8
 q1f:Fun K "__init__" "Makes.__init__" xm t.a9 t.d9
 q1g:sL K t.d9 ["self","table"] []
 q1h:Fun K "__init__" "Jobs.__init__" xS t.a10 t.d10
 q1i:sL K t.d10 ["self","makes"] []
 q1j:FunD K "__init__" "Desk.__init__" xT t.a11 t.d11
 q1k:sL K t.d11 ["self","table","hands","way","first"] []
 bd_Desk_init:∃ds,aX [.int 0] ds/\sL K t.d11 ["self","table","hands","way","first"] ds
 g12:FM K t.q01 "settled" "Desk.settled" ja ["self"] t.a12 t.d12
 g13:FM K t.q01 "next_rank" "Desk.next_rank" wM ["self"] t.a13 t.d13
 g14:FM K t.q00 "over" "Run.over" YW ["self"] t.a14 t.d14
 g15:FG K mg "divided" Wq ["word","first","second"] t.a15 t.d15
 g16:FG K mg "come_to" Wr ["word","first","second"] t.a16 t.d16
 g17:FG K mg "is_worth" YX ["thing"] t.a17 t.d17
 g18:FG K mg "joined" VT ["word","first","second"] t.a18 t.d18
 g19:FG K mg "reckoned" YY ["term","slots"] t.a19 t.d19
 g20:FM K t.q00 "worth_of" "Run.worth_of" jd ["self","term"] t.a20 t.d20
 g21:FM K t.q00 "place_in" "Run.place_in" je ["self","due"] t.a21 t.d21
 g22:FM K t.q00 "asks" "Run.asks" YZ ["self"] t.a22 t.d22
 g23:FM K t.q02 "heed_fold" "Makes.heed_fold" wd ["self","rank"] t.a23 t.d23
 g24:FG K mg "many_below" qt ["ranks","rank"] t.a24 t.d24
 g25:FM K t.q02 "seen" "Makes.seen" qu ["self","place","rank"] t.a25 t.d25
 g26:FM K t.q00 "taken" "Run.taken" Zr ["self","place","worth"] t.a26 t.d26
 g27:FM K t.q00 "does" "Run.does" Y0 ["self","due","worth"] t.a27 t.d27
 g28:FM K t.q00 "led_by" "Run.led_by" qw ["self","due","worth"] t.a28 t.d28
 q1l:FunD K "step" "Run.step" wN t.a29 t.d29
 q1c:sL K t.d29 ["self","worth"] []
 bd_Run_step:∃ds,aX [.int 0] ds/\sL K t.d29 ["self","worth"] ds
 me_Run_step:KN K t.q00 "step" t.a29
 g30:FM K t.q03 "changed_note" "Jobs.changed_note" xq ["self","rank"] t.a30 t.d30
 g31:FM K t.q03 "lowest_changed" "Jobs.lowest_changed" xb ["self"] t.a31 t.d31
 g32:FG K mg "drop_rank" Zs ["ranks_at","place","rank"] t.a32 t.d32
 g33:FM K t.q03 "take_off" "Jobs.take_off" vB ["self","rank"] t.a33 t.d33
 g34:FM K t.q0e "chosen" "Highest.chosen" wO ["self","ranks"] t.a34 t.d34
 g35:FM K t.q0a "chosen" "Way.chosen" qx ["self","ranks"] t.a35 t.d35
 q1m:Fun K "__init__" "Run.__init__" wP t.a36 t.d36
 q1d:sL K t.d36 ["self","code"] []
 g37:FM K t.q01 "taken_up" "Desk.taken_up" vC ["self","hand"] t.a37 t.d37
 g38:FM K t.q01 "moved_free" "Desk.moved_free" we ["self","hand"] t.a38 t.d38
 g39:FM K t.q02 "places_of" "Makes.places_of" wf ["self","rank"] t.a39 t.d39
 g40:FM K t.q02 "take_away" "Makes.take_away" wj ["self","rank"] t.a40 t.d40
 g41:FG K mg "put_rank" Y1 ["ranks_at","place","rank"] t.a41 t.d41
 g42:FM K t.q02 "lay" "Makes.lay" Zt ["self","rank","gifts"] t.a42 t.d42
 g43:FM K t.q02 "next_above" "Makes.next_above" xH ["self","place","rank"] t.a43 t.d43
 g44:FM K t.q03 "doubt" "Jobs.doubt" qy ["self","place","rank"] t.a44 t.d44
 g45:FM K t.q03 "lay_down" "Jobs.lay_down" vD ["self","rank","paper"] t.a45 t.d45
 g46:FM K t.q00 "paper" "Run.paper" Zu ["self"] t.a46 t.d46
 g47:FM K t.q01 "move" "Desk.move" Zv ["self","hand"] t.a47 t.d47
 g48:FM K t.q01 "finish" "Desk.finish" j9 ["self"] t.a48 t.d48
 g49:FG K mg "_law_spot" Zw ["number","slots"] t.a49 t.d49
 g50:FG K mg "_law_term" Zx ["number","slots"] t.a50 t.d50
 g51:FG K mg "_law_row" Y2 ["xs","shelves","slots"] t.a51 t.d51
 g52:FG K mg "_law_rows" jN ["cell","shelves","slots"] t.a52 t.d52
 g53:FM K t.q01 "add" "Desk.add" Y3 ["self","code"] t.a53 t.d53
 g54:FG K mg "_law_seen" Zy ["table","laid","place","rank"] t.a54 t.d54
 g55:FG K mg "_law_alike" qA ["found","due"] t.a55 t.d55
 g56:FG K mg "_law_held_right" wq ["row","hand","rank","run","table","laid"] t.a56 t.d56
 g57:FG K mg "_law_free_right" wt ["row","hand","added","first"] t.a57 t.d57
 g58:FG K mg "_law_told_right" wu ["row","hand","codes","first","runs","ranks","table","laid"] t.a58 t.d58
 q1n:Fun K "law" "law" XA t.a59 t.d59
 q2k:sL K t.d59 ["script"] []
 m_law:mg "law"=aa (.ref t.a59)
 w_law:∀(s:am) (v:af),BindsTo s t.d59 ⟨[v],[]⟩ [("script",v)]
 q1a:mg "bool"=ao
 q1e:mg "dict"=ao
 b_int:mg "int"=ao
 q08:mg "isinstance"=ao
 q09:mg "len"=ao
 q0c:mg "list"=ao
 q1b:mg "range"=ao
 q0s:mg "sorted"=ao
 q0t:mg "str"=ao
 b_tuple:mg "tuple"=ao
 b_zip:mg "zip"=ao
 g_JOINING:mg "JOINING"=aa (.ref t.q0r)
 q1o:∀H:B,sI K H t.q0r [.str "plus",.str "minus",.str "times",.str "over",.str "rest",.str "under",.str "same"]
 g_Desk:mg "Desk"=aa (.ref t.q01)
 g_Great:mg "Great"=aa (.ref t.q07)
 g_Highest:mg "Highest"=aa (.ref t.q0e)
 g_Jobs:mg "Jobs"=aa (.ref t.q03)
 g_Makes:mg "Makes"=aa (.ref t.q02)
 g_Nought:mg "Nought"=aa (.ref t.q06)
 g_Run:mg "Run"=aa (.ref t.q00)
 g_Way:mg "Way"=aa (.ref t.q0a)
 q0b:tG K t.q01
 mk_Desk:Mk K t.q01 t.a11
 q1p:aV K t.q01 "codes"
 q1q:aV K t.q01 "ended"
 q1r:aV K t.q01 "first"
 q1s:aV K t.q01 "hands"
 q1t:aV K t.q01 "held"
 q1u:aV K t.q01 "jobs"
 q1v:aV K t.q01 "makes"
 q1w:aV K t.q01 "waiting"
 q1x:aV K t.q01 "way"
 q1y:tG K t.q0e
 mo_Highest:MkO K t.q0e
 q0f:tG K t.q03
 mk_Jobs:Mk K t.q03 t.a10
 q1z:aV K t.q03 "doubted"
 q20:aV K t.q03 "laid"
 q21:aV K t.q03 "makes"
 q22:aV K t.q03 "readers"
 q0d:tG K t.q02
 mk_Makes:Mk K t.q02 t.a9
 q23:aV K t.q02 "folded"
 q24:aV K t.q02 "ground"
 q25:aV K t.q02 "ranks"
 q26:aV K t.q02 "worths"
 q05:tG K t.q00
 mk_Run:Mk K t.q00 t.a36
 q27:aV K t.q00 "at"
 q28:aV K t.q00 "code"
 q29:aV K t.q00 "gifts"
 q2a:aV K t.q00 "notes"
 q2b:aV K t.q00 "sayings"
 q2c:aV K t.q00 "slots"
 q2d:aV K t.q00 "why"
 q2e:tG K t.q0a
 mo_Way:MkO K t.q0a
 q2f:pQ K t.q06 zao Wi=ah
 y_Nought:ExK K t.q06
 q2g:iS K (.ref t.q06) (.ref t.q07)=aa aq
 q2h:iS K (.ref t.q06) (.ref t.q06)=aa ah
 m_Nought_Great_Nought:rM K (.ref t.q06) [.ref t.q07,.ref t.q06]=aa ah
 q2i:pQ K t.q07 zao Wi=ah
 y_Great:ExK K t.q07
 q2j:iS K (.ref t.q07) (.ref t.q07)=aa ah
 q2l:iS K (.ref t.q07) (.ref t.q06)=aa aq
 m_Great_Great_Nought:rM K (.ref t.q07) [.ref t.q07,.ref t.q06]=aa ah
theorem txt_mk{mg:Str->Option af}(X:K.In h)(G:h.Ns Bd mg)
  
  
  
  
  
  
  
  
  
  
  
  
  
  
  
  (h0:QG K "_law_free_name" wL)
  (h1:QG K "_law_draws" qq)
  (h2:QG K "_law_pair" jM)
  (h3:QG K "_law_number" j7)
  (h4:QG K "_law_table" vP)
  (h5:QG K "_law_cell_at" v9)
  (h6:QG K "block_steps" j8)
  (h7:QG K "steps_of" YV)
  (h8:QG K "code_of" Wp)
  (qa9:ck K (.ref ca4) "__init__"=aa (aa (.ref f9))) (qi9:pX K (.ref f9)=ah) (ql9:K.lookup f9=aa ⟨oc9,od9,.func (iT "__init__" "Makes.__init__" (yR xm) (ym xm) (zg xm) .none kV9 dc9 pm9 an9 cd9 ct9),sl9⟩) (qc9:ig K cd9 "Makes.__init__"=ah) (qk9:eD K (.ref f9)=ah)
  (qa10:ck K (.ref ca3) "__init__"=aa (aa (.ref f10))) (qi10:pX K (.ref f10)=ah) (ql10:K.lookup f10=aa ⟨oc10,od10,.func (iT "__init__" "Jobs.__init__" (yR xS) (ym xS) (zg xS) .none kV10 dc10 pm10 an10 cd10 ct10),sl10⟩) (qc10:ig K cd10 "Jobs.__init__"=ah) (qk10:eD K (.ref f10)=ah)
  (qa11:ck K (.ref ca0) "__init__"=aa (aa (.ref f11))) (qi11:pX K (.ref f11)=ah) (ql11:K.lookup f11=aa ⟨oc11,od11,.func (iT "__init__" "Desk.__init__" (yR xT) (ym xT) (zg xT) (.ref dA11) kV11 dc11 pm11 an11 cd11 ct11),sl11⟩) (qc11:ig K cd11 "Desk.__init__"=ah) (qk11:eD K (.ref f11)=ah) (qd11:K.lookup dA11=aa ⟨.type "tuple",ao,.seq #[.int 0 dt11_0] dn11,#[]⟩)
  (h12:QM K ca0 "settled" "Desk.settled" ja)
  (h13:QM K ca0 "next_rank" "Desk.next_rank" wM)
  (h14:QM K ca6 "over" "Run.over" YW)
  (h15:QG K "divided" Wq)
  (h16:QG K "come_to" Wr)
  (h17:QG K "is_worth" YX)
  (h18:QG K "joined" VT)
  (h19:QG K "reckoned" YY)
  (h20:QM K ca6 "worth_of" "Run.worth_of" jd)
  (h21:QM K ca6 "place_in" "Run.place_in" je)
  (h22:QM K ca6 "asks" "Run.asks" YZ)
  (h23:QM K ca4 "heed_fold" "Makes.heed_fold" wd)
  (h24:QG K "many_below" qt)
  (h25:QM K ca4 "seen" "Makes.seen" qu)
  (h26:QM K ca6 "taken" "Run.taken" Zr)
  (h27:QM K ca6 "does" "Run.does" Y0)
  (h28:QM K ca6 "led_by" "Run.led_by" qw)
  (qa29:ck K (.ref ca6) "step"=aa (aa (.ref f29))) (qi29:pX K (.ref f29)=ah) (ql29:K.lookup f29=aa ⟨oc29,od29,.func (iT "step" "Run.step" (yR wN) (ym wN) (zg wN) (.ref dA29) kV29 dc29 pm29 an29 cd29 ct29),sl29⟩) (qc29:ig K cd29 "Run.step"=ah) (qk29:eD K (.ref f29)=ah) (qd29:K.lookup dA29=aa ⟨.type "tuple",ao,.seq #[.int 0 dt29_0] dn29,#[]⟩)
  (h30:QM K ca3 "changed_note" "Jobs.changed_note" xq)
  (h31:QM K ca3 "lowest_changed" "Jobs.lowest_changed" xb)
  (h32:QG K "drop_rank" Zs)
  (h33:QM K ca3 "take_off" "Jobs.take_off" vB)
  (h34:QM K ca2 "chosen" "Highest.chosen" wO)
  (h35:QM K ca7 "chosen" "Way.chosen" qx)
  (qa36:ck K (.ref ca6) "__init__"=aa (aa (.ref f36))) (qi36:pX K (.ref f36)=ah) (ql36:K.lookup f36=aa ⟨oc36,od36,.func (iT "__init__" "Run.__init__" (yR wP) (ym wP) (zg wP) .none kV36 dc36 pm36 an36 cd36 ct36),sl36⟩) (qc36:ig K cd36 "Run.__init__"=ah) (qk36:eD K (.ref f36)=ah)
  (h37:QM K ca0 "taken_up" "Desk.taken_up" vC)
  (h38:QM K ca0 "moved_free" "Desk.moved_free" we)
  (h39:QM K ca4 "places_of" "Makes.places_of" wf)
  (h40:QM K ca4 "take_away" "Makes.take_away" wj)
  (h41:QG K "put_rank" Y1)
  (h42:QM K ca4 "lay" "Makes.lay" Zt)
  (h43:QM K ca4 "next_above" "Makes.next_above" xH)
  (h44:QM K ca3 "doubt" "Jobs.doubt" qy)
  (h45:QM K ca3 "lay_down" "Jobs.lay_down" vD)
  (h46:QM K ca6 "paper" "Run.paper" Zu)
  (h47:QM K ca0 "move" "Desk.move" Zv)
  (h48:QM K ca0 "finish" "Desk.finish" j9)
  (h49:QG K "_law_spot" Zw)
  (h50:QG K "_law_term" Zx)
  (h51:QG K "_law_row" Y2)
  (h52:QG K "_law_rows" jN)
  (h53:QM K ca0 "add" "Desk.add" Y3)
  (h54:QG K "_law_seen" Zy)
  (h55:QG K "_law_alike" qA)
  (h56:QG K "_law_held_right" wq)
  (h57:QG K "_law_free_right" wt)
  (h58:QG K "_law_told_right" wu)
  (qa59:gR K Bd "law"=aa (aa (.ref f59))) (ql59:K.lookup f59=aa ⟨oc59,od59,.func (iT "law" "law" (yR XA) (ym XA) (zg XA) .none kV59 dc59 pm59 an59 cd59 ct59),sl59⟩) (qc59:ig K cd59 "law"=ah) (qk59:eD K (.ref f59)=ah)
  (qz0:gR K Bd "bool"=aa ao)
  (qz1:gR K Bd "dict"=aa ao)
  (qz2:gR K Bd "int"=aa ao)
  (qz3:gR K Bd "isinstance"=aa ao)
  (qz4:gR K Bd "len"=aa ao)
  (qz5:gR K Bd "list"=aa ao)
  (qz6:gR K Bd "range"=aa ao)
  (qz7:gR K Bd "sorted"=aa ao)
  (qz8:gR K Bd "str"=aa ao)
  (qz9:gR K Bd "tuple"=aa ao)
  (qz10:gR K Bd "zip"=aa ao)
  (qg0:gR K Bd "JOINING"=aa (aa (.ref ga0))) (qh0:K.lookup ga0=aa ⟨.type "tuple",ao,.seq #[.str "plus" gt0_0,.str "minus" gt0_1,.str "times" gt0_2,.str "over" gt0_3,.str "rest" gt0_4,.str "under" gt0_5,.str "same" gt0_6] gn0,#[]⟩)
  (qv0:gR K Bd "Desk"=aa (aa (.ref ca0)))
  (qv1:gR K Bd "Great"=aa (aa (.ref ca1)))
  (qv2:gR K Bd "Highest"=aa (aa (.ref ca2)))
  (qv3:gR K Bd "Jobs"=aa (aa (.ref ca3)))
  (qv4:gR K Bd "Makes"=aa (aa (.ref ca4)))
  (qv5:gR K Bd "Nought"=aa (aa (.ref ca5)))
  (qv6:gR K Bd "Run"=aa (aa (.ref ca6)))
  (qv7:gR K Bd "Way"=aa (aa (.ref ca7)))
  (pg0:gC K ca0 gh=ah) (pd0:gg K ca0=ah) (po0:gW K ca0=ah) (pe0:ck K (.ref ca0) "__setattr__"=aa (aa (.builtin "object.__setattr__"))) (pm0_:ie K ca0=ah) (pk0:eD K (.ref ca0)=ah)
  (pn0_0:ck K (.ref ca0) "codes"=aa ao)
  (pn0_1:ck K (.ref ca0) "ended"=aa ao)
  (pn0_2:ck K (.ref ca0) "first"=aa ao)
  (pn0_3:ck K (.ref ca0) "hands"=aa ao)
  (pn0_4:ck K (.ref ca0) "held"=aa ao)
  (pn0_5:ck K (.ref ca0) "jobs"=aa ao)
  (pn0_6:ck K (.ref ca0) "makes"=aa ao)
  (pn0_7:ck K (.ref ca0) "waiting"=aa ao)
  (pn0_8:ck K (.ref ca0) "way"=aa ao)
  (pi2:ck K (.ref ca2) "__init__"=aa (aa (.builtin "object.__init__")))
  (pg2:gC K ca2 gh=ah) (pd2:gg K ca2=ah) (po2:gW K ca2=ah) (pe2:ck K (.ref ca2) "__setattr__"=aa (aa (.builtin "object.__setattr__"))) (pm2_:ie K ca2=ah) (pk2:eD K (.ref ca2)=ah)
  (pg3:gC K ca3 gh=ah) (pd3:gg K ca3=ah) (po3:gW K ca3=ah) (pe3:ck K (.ref ca3) "__setattr__"=aa (aa (.builtin "object.__setattr__"))) (pm3_:ie K ca3=ah) (pk3:eD K (.ref ca3)=ah)
  (pn3_0:ck K (.ref ca3) "doubted"=aa ao)
  (pn3_1:ck K (.ref ca3) "laid"=aa ao)
  (pn3_2:ck K (.ref ca3) "makes"=aa ao)
  (pn3_3:ck K (.ref ca3) "readers"=aa ao)
  (pg4:gC K ca4 gh=ah) (pd4:gg K ca4=ah) (po4:gW K ca4=ah) (pe4:ck K (.ref ca4) "__setattr__"=aa (aa (.builtin "object.__setattr__"))) (pm4_:ie K ca4=ah) (pk4:eD K (.ref ca4)=ah)
  (pn4_0:ck K (.ref ca4) "folded"=aa ao)
  (pn4_1:ck K (.ref ca4) "ground"=aa ao)
  (pn4_2:ck K (.ref ca4) "ranks"=aa ao)
  (pn4_3:ck K (.ref ca4) "worths"=aa ao)
  (pg6:gC K ca6 gh=ah) (pd6:gg K ca6=ah) (po6:gW K ca6=ah) (pe6:ck K (.ref ca6) "__setattr__"=aa (aa (.builtin "object.__setattr__"))) (pm6_:ie K ca6=ah) (pk6:eD K (.ref ca6)=ah)
  (pn6_0:ck K (.ref ca6) "at"=aa ao)
  (pn6_1:ck K (.ref ca6) "code"=aa ao)
  (pn6_2:ck K (.ref ca6) "gifts"=aa ao)
  (pn6_3:ck K (.ref ca6) "notes"=aa ao)
  (pn6_4:ck K (.ref ca6) "sayings"=aa ao)
  (pn6_5:ck K (.ref ca6) "slots"=aa ao)
  (pn6_6:ck K (.ref ca6) "why"=aa ao)
  (pi7:ck K (.ref ca7) "__init__"=aa (aa (.builtin "object.__init__")))
  (pg7:gC K ca7 gh=ah) (pd7:gg K ca7=ah) (po7:gW K ca7=ah) (pe7:ck K (.ref ca7) "__setattr__"=aa (aa (.builtin "object.__setattr__"))) (pm7_:ie K ca7=ah) (pk7:eD K (.ref ca7)=ah)
  (rx0:pQ K ca5 zao Wi=ah)
  (ry0:QX K ca5)
  (re0_0:iS K (.ref ca5) (.ref ca1)=aa aq)
  (re0_1:iS K (.ref ca5) (.ref ca5)=aa ah)
  (rm0_0:rM K (.ref ca5) [(.ref ca1),(.ref ca5)]=aa ah)
  (rx1:pQ K ca1 zao Wi=ah)
  (ry1:QX K ca1)
  (re1_0:iS K (.ref ca1) (.ref ca1)=aa ah)
  (re1_1:iS K (.ref ca1) (.ref ca5)=aa aq)
  (rm1_0:rM K (.ref ca1) [(.ref ca1),(.ref ca5)]=aa ah):∃t,Txt K mg t:=by
 obtain⟨f0,d0,F0⟩:=QG.a1 X G "word" h0;obtain⟨f1,d1,F1⟩:=QG.a2 X G "cell" "many" h1;obtain⟨f2,d2,F2⟩:=QG.a1 X G "cell" h2;obtain⟨f3,d3,F3⟩:=QG.a1 X G "number" h3;obtain⟨f4,d4,F4⟩:=QG.a2 X G "cell" "shelves" h4;obtain⟨f5,d5,F5⟩:=QG.a2 X G "script" "k" h5;obtain⟨f6,d6,F6⟩:=QG.a2 X G "row" "at" h6;obtain⟨f7,d7,F7⟩:=QG.a2 X G "rows" "first" h7;obtain⟨f8,d8,F8⟩:=QG.a1 X G "rows" h8;have F9:=Vx (st:=xm) ql9 qc9 qk9;have F10:=Vx (st:=xS) ql10 qc10 qk10;have F11:=zcF (st:=xT) ql11 qc11 qk11;obtain⟨f12,d12,F12⟩:=QM.a1 "self" h12;obtain⟨f13,d13,F13⟩:=QM.a1 "self" h13;obtain⟨f14,d14,F14⟩:=QM.a1 "self" h14;obtain⟨f15,d15,F15⟩:=QG.a3 X G "word" "first" "second" h15;obtain⟨f16,d16,F16⟩:=QG.a3 X G "word" "first" "second" h16;obtain⟨f17,d17,F17⟩:=QG.a1 X G "thing" h17;obtain⟨f18,d18,F18⟩:=QG.a3 X G "word" "first" "second" h18;obtain⟨f19,d19,F19⟩:=QG.a2 X G "term" "slots" h19;obtain⟨f20,d20,F20⟩:=QM.a2 "self" "term" h20;obtain⟨f21,d21,F21⟩:=QM.a2 "self" "due" h21;obtain⟨f22,d22,F22⟩:=QM.a1 "self" h22;obtain⟨f23,d23,F23⟩:=QM.a2 "self" "rank" h23;obtain⟨f24,d24,F24⟩:=QG.a2 X G "ranks" "rank" h24;obtain⟨f25,d25,F25⟩:=QM.a3 "self" "place" "rank" h25;obtain⟨f26,d26,F26⟩:=QM.a3 "self" "place" "worth" h26;obtain⟨f27,d27,F27⟩:=QM.a3 "self" "due" "worth" h27;obtain⟨f28,d28,F28⟩:=QM.a3 "self" "due" "worth" h28;have F29:=zcF (st:=wN) ql29 qc29 qk29;obtain⟨f30,d30,F30⟩:=QM.a2 "self" "rank" h30;obtain⟨f31,d31,F31⟩:=QM.a1 "self" h31;obtain⟨f32,d32,F32⟩:=QG.a3 X G "ranks_at" "place" "rank" h32;obtain⟨f33,d33,F33⟩:=QM.a2 "self" "rank" h33;obtain⟨f34,d34,F34⟩:=QM.a2 "self" "ranks" h34;obtain⟨f35,d35,F35⟩:=QM.a2 "self" "ranks" h35;have F36:=Vx (st:=wP) ql36 qc36 qk36;obtain⟨f37,d37,F37⟩:=QM.a2 "self" "hand" h37;obtain⟨f38,d38,F38⟩:=QM.a2 "self" "hand" h38;obtain⟨f39,d39,F39⟩:=QM.a2 "self" "rank" h39;obtain⟨f40,d40,F40⟩:=QM.a2 "self" "rank" h40;obtain⟨f41,d41,F41⟩:=QG.a3 X G "ranks_at" "place" "rank" h41;obtain⟨f42,d42,F42⟩:=QM.a3 "self" "rank" "gifts" h42;obtain⟨f43,d43,F43⟩:=QM.a3 "self" "place" "rank" h43;obtain⟨f44,d44,F44⟩:=QM.a3 "self" "place" "rank" h44;obtain⟨f45,d45,F45⟩:=QM.a3 "self" "rank" "paper" h45;obtain⟨f46,d46,F46⟩:=QM.a1 "self" h46;obtain⟨f47,d47,F47⟩:=QM.a2 "self" "hand" h47;obtain⟨f48,d48,F48⟩:=QM.a1 "self" h48;obtain⟨f49,d49,F49⟩:=QG.a2 X G "number" "slots" h49;obtain⟨f50,d50,F50⟩:=QG.a2 X G "number" "slots" h50;obtain⟨f51,d51,F51⟩:=QG.a3 X G "xs" "shelves" "slots" h51;obtain⟨f52,d52,F52⟩:=QG.a3 X G "cell" "shelves" "slots" h52;obtain⟨f53,d53,F53⟩:=QM.a2 "self" "code" h53;obtain⟨f54,d54,F54⟩:=QG.a4 X G "table" "laid" "place" "rank" h54;obtain⟨f55,d55,F55⟩:=QG.a2 X G "found" "due" h55;obtain⟨f56,d56,F56⟩:=QG.a6 X G "row" "hand" "rank" "run" "table" "laid" h56;obtain⟨f57,d57,F57⟩:=QG.a4 X G "row" "hand" "added" "first" h57;obtain⟨f58,d58,F58⟩:=QG.a8 X G "row" "hand" "codes" "first" "runs" "ranks" "table" "laid" h58;have F59:=Vx (st:=XA) ql59 qc59 qk59;exact⟨⟨f0,d0,f1,d1,f2,d2,f3,d3,f4,d4,f5,d5,f6,d6,f7,d7,f8,d8,f9,_,f10,_,f11,_,f12,d12,f13,d13,f14,d14,f15,d15,f16,d16,f17,d17,f18,d18,f19,d19,f20,d20,f21,d21,f22,d22,f23,d23,f24,d24,f25,d25,f26,d26,f27,d27,f28,d28,f29,_,f30,d30,f31,d31,f32,d32,f33,d33,f34,d34,f35,d35,f36,_,f37,d37,f38,d38,f39,d39,f40,d40,f41,d41,f42,d42,f43,d43,f44,d44,f45,d45,f46,d46,f47,d47,f48,d48,f49,d49,f50,d50,f51,d51,f52,d52,f53,d53,f54,d54,f55,d55,f56,d56,f57,d57,f58,d58,f59,_,ga0,ca0,ca1,ca2,ca3,ca4,ca5,ca6,ca7⟩,⟨F0,
  F1,
  F2,
  F3,
  F4,
  F5,
  F6,
  F7,
  F8,
  F9,F9.binds (ps:=["self","table"]) (λ_ _ _ _ _ _ us hl=>match us,hl with|[_,_],_=>rfl),
  F10,F10.binds (ps:=["self","makes"]) (λ_ _ _ _ _ _ us hl=>match us,hl with|[_,_],_=>rfl),
  F11,(λs us hK hl=>match us,(show us.length=5 by simpa using hl) with|[_,_,_,_,_],_=>.of_defaults (T:=dA11) rfl (hK _ _ qd11) rfl rfl rfl),⟨[.int 0 dt11_0],(.cons ⟨_,rfl⟩ .nil),(λs us hK hl=>match us,(show us.length=4 by simpa using hl) with|[_,_,_,_],_=>.of_defaults (T:=dA11) rfl (hK _ _ qd11) rfl rfl rfl)⟩,
  F12,
  F13,
  F14,
  F15,
  F16,
  F17,
  F18,
  F19,
  F20,
  F21,
  F22,
  F23,
  F24,
  F25,
  F26,
  F27,
  F28,
  F29,(λs us hK hl=>match us,(show us.length=2 by simpa using hl) with|[_,_],_=>.of_defaults (T:=dA29) rfl (hK _ _ qd29) rfl rfl rfl),⟨[.int 0 dt29_0],(.cons ⟨_,rfl⟩ .nil),(λs us hK hl=>match us,(show us.length=1 by simpa using hl) with|[_],_=>.of_defaults (T:=dA29) rfl (hK _ _ qd29) rfl rfl rfl)⟩,⟨qa29,qi29,qk29⟩,
  F30,
  F31,
  F32,
  F33,
  F34,
  F35,
  F36,F36.binds (ps:=["self","code"]) (λ_ _ _ _ _ _ us hl=>match us,hl with|[_,_],_=>rfl),
  F37,
  F38,
  F39,
  F40,
  F41,
  F42,
  F43,
  F44,
  F45,
  F46,
  F47,
  F48,
  F49,
  F50,
  F51,
  F52,
  F53,
  F54,
  F55,
  F56,
  F57,
  F58,
  F59,F59.binds (ps:=["script"]) (λ_ _ _ _ _ _ us hl=>match us,hl with|[_],_=>rfl),mF X G qa59,
  λs v=>.of_eq Y,
  eV X G qz0,
  eV X G qz1,
  eV X G qz2,
  eV X G qz3,
  eV X G qz4,
  eV X G qz5,
  eV X G qz6,
  eV X G qz7,
  eV X G qz8,
  eV X G qz9,
  eV X G qz10,
  mF X G qg0,λ_=>.inr ⟨_,_,_,qh0,Y,Y,(by show 7<=Bb;decide),(.cons ⟨_,Y⟩ (.cons ⟨_,Y⟩ (.cons ⟨_,Y⟩ (.cons ⟨_,Y⟩ (.cons ⟨_,Y⟩ (.cons ⟨_,Y⟩ (.cons ⟨_,Y⟩ .nil)))))))⟩,
  mF X G qv0,
  mF X G qv1,
  mF X G qv2,
  mF X G qv3,
  mF X G qv4,
  mF X G qv5,
  mF X G qv6,
  mF X G qv7,
  ⟨pg0,pd0,po0,pe0⟩,
  ⟨pm0_,qa11,qi11,pk0⟩,
  pn0_0,
  pn0_1,
  pn0_2,
  pn0_3,
  pn0_4,
  pn0_5,
  pn0_6,
  pn0_7,
  pn0_8,
  ⟨pg2,pd2,po2,pe2⟩,
  ⟨pm2_,pi2,pk2⟩,
  ⟨pg3,pd3,po3,pe3⟩,
  ⟨pm3_,qa10,qi10,pk3⟩,
  pn3_0,
  pn3_1,
  pn3_2,
  pn3_3,
  ⟨pg4,pd4,po4,pe4⟩,
  ⟨pm4_,qa9,qi9,pk4⟩,
  pn4_0,
  pn4_1,
  pn4_2,
  pn4_3,
  ⟨pg6,pd6,po6,pe6⟩,
  ⟨pm6_,qa36,qi36,pk6⟩,
  pn6_0,
  pn6_1,
  pn6_2,
  pn6_3,
  pn6_4,
  pn6_5,
  pn6_6,
  ⟨pg7,pd7,po7,pe7⟩,
  ⟨pm7_,pi7,pk7⟩,
  rx0,
  ry0.to,
  re0_0,
  re0_1,
  rm0_0,
  rx1,
  ry1.to,
  re1_0,
  re1_1,
  rm1_0⟩⟩
structure KF(K:bw):Prop where
 i_b:fP K (.type "int") (.type "bool")=aa aq
 i_s:fP K (.type "int") (.type "str")=aa aq
 s_i:fP K (.type "str") (.type "int")=aa aq
 i_l:fP K (.type "int") (.type "list")=aa aq
 i_t:fP K (.type "int") (.type "tuple")=aa aq
 s_l:fP K (.type "str") (.type "list")=aa aq
 s_t:fP K (.type "str") (.type "tuple")=aa aq
 t_l:fP K (.type "tuple") (.type "list")=aa aq
def fin(t:mt)(r:Except Er Int)(Q:VK)(E:XK)(H:B):Prop:=match r with
 |.ok i=>Q (.int i) H
 |.error .nought=>E (.ref t.q06) ao H
 |.error .great=>E (.ref t.q07) ao H
 |.error .stuck=>True
def zfc(t:mt)(e:Er)(E:XK)(H:B):Prop:=match e with
 |.nought=>E (.ref t.q06) ao H
 |.great=>E (.ref t.q07) ao H
 |.stuck=>True
def zgx(K:bw):Prop:=fP K (.type "int") (.type "bool")=aa aq
def sF(H:B)(nm:ac)(ws:List Str):Prop:=H nm=aa (.lst (ws.map V.str))/\∀w∈ws,yE w=ah
def Y4:Rw->Prop
 |.off _=>False
 |.iff _ _ _=>False
 |_=>True
def ZA:Sp:=λvs H Q _=>∃i,vs=[.int i]/\∀H',aP H H'->Q (.bl (sQ i)) H'
def qB(t:mt):Sp:=λvs H Q E=>∃w a b,vs=[.str w,.int a,.int b]/\w.length<=1000/\sQ a=ah/\sQ b=ah/\∀H',aP H H'->if b=0 then E (.ref t.q06) ao H' else Q (.int (if w="over" then a.fdiv b else a.fmod b)) H'
def qC(t:mt):Sp:=λvs H Q E=>∃w a b,vs=[.str w,.int a,.int b]/\w.length<=1000/\sQ a=ah/\sQ b=ah/\∀H',aP H H'->if VG w/\b=0 then E (.ref t.q06) ao H' else Q (.int (jI w a b)) H'
def Yd(t:mt):Sp:=λvs H Q E=>∃w a b,vs=[.str w,.int a,.int b]/\w.length<=1000/\sQ a=ah/\sQ b=ah/\∀H',aP H H'->fin t (v6 w a b) Q E H'
def ZB(t:mt):Sp:=λvs H Q E=>∃aO tm sl ps r,vs=[.ref tm,.ref sl]/\H tm=aa (.tup ps)/\H sl=aa (.dK aO)/\Good aO ps r/\(∀v∈ps,qm v)/\ps.length<=1000/\yS aO/\∀H',aP H H'->fin t r Q E H'
inductive Cs where
 |row (r:Rw)
 |skip (e:List V) (to:Nat)
 |go (en:Nat)
def hZ.isNil:hZ->Bool
 |.nil=>ah
 |.cons _ _=>aq
def blk(e:List V)(k:Nat)(A:List Cs)(nl:Bool)(Bo:List Cs):List Cs :=
 if nl=ah then .skip e (k+1+A.length)::A else .skip e (k+2+A.length)::(A++(.go (k+2+A.length+Bo.length)::Bo))
mutual
def xg:Rw->Nat->List Cs
 |.iff e a b,k=>blk e k (zR a (k+1)) (hZ.isNil b) (zR b (k+2+(zR a (k+1)).length))
 |r,_=>[.row r]
def zR:hZ->Nat->List Cs
 |.nil,_=>[]
 |.cons r rs,k=>xg r k++zR rs (k+(xg r k).length)
end
def VX:Rw->Prop
 |.iff _ _ _=>False
 |_=>True
def sW(H:B)(v:V):Cs->Prop
 |.row r=>sw Qm H v r/\VX r
 |.skip e to=>∃p te,v=.ref p/\H p=aa (.tup [.str "skip",.ref te,.int (to:Nat)])/\H te=aa (.tup e)
 |.go en=>∃p,v=.ref p/\H p=aa (.tup [.str "go",.int (en:Nat)])
structure VY(n:Nat)(r:hZ):Prop where
 dp:r.deep<n
 ct:r.cnt<=500
 pl:Zo r
def ZC(n:Nat):Sp:=λvs H Q _=>∃v e a b,∃k:Nat,vs=[v,.int k]/\sw Qm H v (.iff e a b)/\VY n a/\VY n b/\k+(xg (.iff e a b) k).length<=500/\∀l xs H',aP H H'->H' l=aa (.lst xs)->Paired (sW H') xs (xg (.iff e a b) k)->Q (.ref l) H'
def xi(n:Nat):Sp:=λvs H Q _=>∃v r,∃k:Nat,vs=[v,.int k]/\RlAt Qm H v r/\VY n r/\k+(zR r k).length<=500/\∀l xs H',aP H H'->H l=ao->H' l=aa (.lst xs)->Paired (sW H') xs (zR r k)->Q (.ref l) H'
def Y5:Sp:=λvs H Q _=>∃v r,vs=[v]/\RlAt Qm H v r/\VY 6 r/\(zR r 0).length<=500/\∀l xs H',aP H H'->H l=ao->H' l=aa (.lst xs)->Paired (sW H') xs (zR r 0)->Q (.ref l) H'
structure sy where
 n:Nat
 why:Option Str
 sl:List (bv×V)
 gi:List aW
 no:List aW
 sa:List Int
structure RAd where
 dx:ac
 co:ac
 sl:ac
 gi:ac
 no:ac
 sa:ac
def ziC:Option Str->V
 |none=>.non
 |some w=>.str w
def ziD(a:RAd)(s:sy):List (Str×V):=[(bb "code",.ref a.co),(bb "at",.int s.n),(bb "why",ziC s.why),(bb "slots",.ref a.sl),(bb "gifts",.ref a.gi),(bb "notes",.ref a.no),(bb "sayings",.ref a.sa)]
structure hV(t:mt)(H:B)(x:ac)(a:RAd)(C:List Cs)(s:sy):Prop where
 ix:H x=aa (.ins t.q00 a.dx (ziD a s))
 hc:∃xs,H a.co=aa (.lst xs)/\Paired (sW H) xs C
 hs:H a.sl=aa (.dK s.sl)
 hg:H a.gi=aa (.dT (sO s.gi))
 hn:H a.no=aa (.dT (sO s.no))
 ha:H a.sa=aa (.lst (s.sa.map V.int))
 ng:a.gi≠a.no
 nc:a.co≠a.sa
def Ow(x:ac)(a:RAd)(b:ac):Prop:=b=x\/b=a.sl\/b=a.gi\/b=a.no\/b=a.sa
def OwA(x:ac)(a:RAd)(b:ac):Prop:=Ow x a b\/b=a.co
def Kp(x:ac)(a:RAd)(H H':B):Prop:=∀b o,¬ Ow x a b->H b=aa o->H' b=aa o
def Kn(x:ac)(H H':B):Prop:=∀b o,b≠x->H b=aa o->H' b=aa o
structure RnOk(m:Nat)(s:sy):Prop where
 so:yS s.sl
 gw:∀r∈s.gi,sQ r.2=ah
 nw:∀r∈s.no,sQ r.2=ah
 l1:s.sl.length<=m
 l2:s.gi.length<=m
 l3:s.no.length<=m
 l4:s.sa.length<=m
 nd:(s.no.map (·.1)).Nodup
def Qs:Cs->Prop
 |.row r=>Zm r
 |.skip e _=>hU e
 |.go _=>True
def yf(C:List Cs)(s:sy):Bool:=s.why.isSome || decide (C.length<=s.n)
def wG(p:Pl)(w:Int)(s:sy):sy:=if (zw s.gi p).isSome=ah\/(zw s.no p).isSome=ah then s else { s with no:=s.no++[(p,w)] }
def kg(p:Pl)(w:Int)(s:sy):Int:=(zw s.gi p).getD ((zw s.no p).getD w)
def tC:Rw->Int->sy->Except Er sy
 |.take sh e x,w,s=>match rk s.sl e with
  |.error er=>.error er
  |.ok n=>.ok { wG (sh,n) w s with sl:=ye s.sl (.inr x) (.int (kg (sh,n) w s)) }
 |.give sh e f,_,s=>match rk s.sl e with
  |.error er=>.error er
  |.ok n=>match rk s.sl f with
   |.error er=>.error er
   |.ok i=>.ok { s with gi:=s.gi++[((sh,n),i)] }
 |.lt x e,_,s=>match rk s.sl e with
  |.error er=>.error er
  |.ok i=>.ok { s with sl:=ye s.sl (.inr x) (.int i) }
 |.say e,_,s=>match rk s.sl e with
  |.error er=>.error er
  |.ok i=>.ok { s with sa:=s.sa++[i] }
 |_,_,s=>.ok s
def vQ:Cs->Int->sy->Except Er (Nat×sy)
 |.go k,_,s=>.ok (k,s)
 |.skip e to,_,s=>match rk s.sl e with
  |.error er=>.error er
  |.ok i=>.ok (if i=0 then to else s.n+1,s)
 |.row (.off e),_,s=>match rk s.sl e with
  |.error er=>.error er
  |.ok i=>.ok (s.n+1,if i=0 then s else { s with why:=aa (bb "told") })
 |.row r,w,s=>match tC r w s with
  |.error er=>.error er
  |.ok s'=>.ok (s.n+1,s')
def y8(c:Cs)(w:Int)(s:sy):sy:=match vQ c w s with
 |.ok (k,s')=>{ s' with n:=k }
 |.error er=>{ s with why:=aa (zaJ er) }
def yY(C:List Cs)(w:Int)(s:sy):sy:=if yf C s=ah then s else match C[s.n]? with
 |none=>s
 |some c=>y8 c w s
def vL(c:Cs)(s:sy):Option Pl:=match c with
 |.row (.take sh e _)=>match rk s.sl e with
  |.error _=>ao
  |.ok n=>if (zw s.gi (sh,n)).isSome=ah\/(zw s.no (sh,n)).isSome=ah then ao else aa (sh,n)
 |_=>ao
def wH(C:List Cs)(s:sy):Option Pl:=if yf C s=ah then ao else (C[s.n]?).bind λc=>vL c s
abbrev zaR(H:B)(v:V)(q:aW):Prop:=PrAt H v q
abbrev Y6(H:B)(vs:List V)(aT:List aW):Prop:=Paired (PrAt H) vs aT
def sR(H:B)(a:ac)(aT:List aW):Prop:=∃xs,H a=aa (.lst xs)/\Paired (PrAt H) xs aT
def ziU(H:B)(v:V):Oc->Prop
 |.done sa=>∃o y,v=.ref o/\H o=aa (.tup [.str "done",.ref y])/\H y=aa (.tup (sa.map V.int))
 |.off w=>∃o,v=.ref o/\H o=aa (.tup [.str "off",.str w])
def zhU(s:sy):Oc:=match s.why with
 |some w=>.off w
 |none=>.done s.sa
def Za(s:sy)(out:List aW):Prop:=match s.why with
 |some _=>out=[]
 |none=>ti out/\∀p w,(p,w)∈out↔zw s.gi p=aa w
structure RnF(K:bw)(t:mt):Prop where
 cl:tG K t.q00
 n1:aV K t.q00 "code"
 n2:aV K t.q00 "at"
 n3:aV K t.q00 "why"
 n4:aV K t.q00 "slots"
 n5:aV K t.q00 "gifts"
 n6:aV K t.q00 "notes"
 n7:aV K t.q00 "sayings"
def st0:sy:=⟨0,ao,[],[],[],[]⟩
def ZD(t:mt):Sp:=λvs H Q _=>∃x l dx xs,∃C:List Cs,vs=[.ref x,.ref l]/\H x=aa (.ins t.q00 dx [])/\H l=aa (.lst xs)/\Paired (sW H) xs C/\∀H' a,Kn x H H'->hV t H' x a C st0->(∀b,OwA x a b->b=x\/H b=ao)->Q .non H'
def yO(t:mt):Sp:=λvs H Q _=>∃x,∃a:RAd,∃C:List Cs,∃s:sy,vs=[.ref x]/\hV t H x a C s/\∀H',aP H H'->Q (.bl (yf C s)) H'
def zZ(t:mt):Sp:=λvs H Q E=>∃x tm e,∃a:RAd,∃C:List Cs,∃s:sy,vs=[.ref x,.ref tm]/\hV t H x a C s/\yS s.sl/\H tm=aa (.tup e)/\hU e/\∀H',aP H H'->fin t (rk s.sl e) Q E H'
def yL(t:mt):Sp:=λvs H Q E=>∃x p xs sh te e,∃a:RAd,∃C:List Cs,∃s:sy,vs=[.ref x,.ref p]/\hV t H x a C s/\yS s.sl/\H p=aa (.tup xs)/\tL xs 1=aa (.str sh)/\tL xs 2=aa (.ref te)/\H te=aa (.tup e)/\hU e /\
 (∀i q H',rk s.sl e=.ok i->aP H H'->H' q=aa (.tup [.str sh,.int i])->Q (.ref q) H')/\∀er H',rk s.sl e=.error er->aP H H'->zfc t er E H'
def qD(t:mt):Sp:=λvs H Q _=>∃x q,∃p:Pl,∃w,∃a:RAd,∃C:List Cs,∃s:sy,vs=[.ref x,.ref q,.int w]/\hV t H x a C s/\H q=aa (.tup [.str p.1,.int p.2])/\s.no.length<=900/\∀H',Kp x a H H'->hV t H' x a C (wG p w s)->Q (.int (kg p w s)) H'
def ZE(t:mt):Sp:=λvs H Q E=>∃x v r w,∃m:Nat,∃a:RAd,∃C:List Cs,∃s:sy,vs=[.ref x,v,.int w]/\hV t H x a C s/\sw Qm H v r/\Y4 r/\Zm r/\RnOk m s/\m<=900 /\
 (∀H' s',tC r w s=.ok s'->Kp x a H H'->hV t H' x a C s'->Q .non H')/\∀H' er,tC r w s=.error er->aP H H'->zfc t er E H'
def kh(t:mt):Sp:=λvs H Q E=>∃x v c w,∃m:Nat,∃a:RAd,∃C:List Cs,∃s:sy,vs=[.ref x,v,.int w]/\hV t H x a C s/\sW H v c/\Qs c/\RnOk m s/\m<=900 /\
 (∀H' s' k,vQ c w s=.ok (k,s')->Kp x a H H'->hV t H' x a C s'->Q (.int (k:Nat)) H')/\∀H' er,vQ c w s=.error er->aP H H'->zfc t er E H'
def xU(t:mt):Sp:=λvs H Q _=>∃x w,∃m:Nat,∃a:RAd,∃C:List Cs,∃s:sy,vs=[.ref x,.int w]/\hV t H x a C s/\(∀c∈C,Qs c)/\RnOk m s/\m<=900/\∀H',Kp x a H H'->hV t H' x a C (yY C w s)->Q .non H'
def jR(t:mt):Sp:=λvs H Q _=>∃x,∃a:RAd,∃C:List Cs,∃s:sy,vs=[.ref x]/\hV t H x a C s/\(∀c∈C,Qs c)/\yS s.sl/\(∀H',wH C s=ao->aP H H'->Q .non H')/\∀p q H',wH C s=aa p->aP H H'->H' q=aa (.tup [.str p.1,.int p.2])->Q (.ref q) H'
def vR(t:mt):Sp:=λvs H Q _=>∃x,∃a:RAd,∃C:List Cs,∃s:sy,vs=[.ref x]/\hV t H x a C s/\s.no.length<=900/\(s.no.map (·.1)).Nodup/\s.gi.length<=63/\(∀H',yf C s=aq->aP H H'->Q .non H') /\
 ∀r o nl gl out H',yf C s=ah->aP H H'->H nl=ao->H gl=ao->nl≠gl->H' r=aa (.tup [o,.ref nl,.ref gl])->ziU H' o (zhU s)->sR H' nl s.no->sR H' gl out->Za s out->Q (.ref r) H'
def wdJ(w:Str):Prop:=isJ (.str w)=ah/\w.length<=1000/\cr w=ah
def lfV(v:V):Prop:=(∃i,v=.int i/\sQ i=ah)\/∃x,v=.str x/\yE x=ah
def okD(d:Int):Prop:=0<=d/\d<1000000000000
def zU(K:bw):Sp:=λvs H Q _=>∃a,∃ns:List Int,∃k:Nat,vs=[.ref a,.int k]/\aY K H a (ns.map V.int)/\ns.length<=63/\(∀i∈ns,Cb i)/\∀c H',aP H H'->Cb c->Q (.int c) H'
def xa:Sp:=λvs H Q _=>∃c,∃m:Nat,vs=[.int c,.int m]/\m<=22/\∀(l:ac) (ds:List Int) (H':B),aP H H'->H l=ao->H' l=aa (.lst (ds.map V.int))->ds.length=m->(∀d∈ds,okD d)->Q (.ref l) H'
def XI(P:Nat->Bool)(x:Str):Prop:=x.cps.toList.all P=ah
def smW(w:Str):Prop:=1<=w.length/\w.length<=6/\XI inL w
def yg:Sp:=λvs H Q _=>∃w,vs=[.str w]/\smW w/\∀x H',yE x=ah->aP H H'->Q (.str x) H'
def vS:Sp:=λvs H Q _=>∃c,vs=[.int c]/\∀nm ws H',aP H H'->H nm=ao->sF H' nm ws->ws.length=2->Q (.ref nm) H'
def yX:Sp:=λvs H Q _=>∃n,vs=[.int n]/\0<=n/\n<1000000000000/\∀w H',sQ w=ah->aP H H'->Q (.int w) H'
def qE:Sp:=λvs H Q _=>∃n a ws,vs=[.int n,.ref a]/\okD n/\sF H a ws/\ws.length=2/\∀p e H',aP H H'->H p=ao->H' p=aa (.tup e)->hU e->tmP e->Q (.ref p) H'
def vT:Sp:=λvs H Q _=>∃n a ws,vs=[.int n,.ref a]/\okD n/\sF H a ws/\ws.length=2/\∀p e H',aP H H'->H p=ao->H' p=aa (.tup e)->hU e->tmP e->Q (.ref p) H'
def ki:Sp:=λvs H Q _=>∃c a ws,vs=[.int c,.ref a]/\sF H a ws/\ws.length=2/\∀l tab H',aP H H'->H l=ao->sR H' l tab->ti tab->(∀r∈tab,cr r.1.1=ah/\sQ r.2=ah/\r.2≠0)->tab.length<=5->Q (.ref l) H'
mutual
def szR:Rw->Nat
 |.iff _ a b=>ZF a+ZF b+2
 |_=>1
def ZF:hZ->Nat
 |.nil=>0
 |.cons r rs=>szR r+ZF rs
end
def zgy:Cs->Prop
 |.row r=>VQ r
 |_=>True
structure Js(C:List Cs):Prop where
 ok:∀c∈C,Qs c
 pl:∀c∈C,zgy c
 fw:∀(i to:Nat) (e:List V),C[i]?=aa (Cs.skip e to)->i<to
 fg:∀(i to:Nat),C[i]?=aa (Cs.go to)->i<to
 le:C.length<=40
structure RnI(C:List Cs)(m:Nat)(s:sy):Prop where
 ok:RnOk m s
 ng:∀r∈s.gi,cr r.1.1=ah
 nn:∀r∈s.no,cr r.1.1=ah
 at_:s.why=ao->m<=s.n
 wy:∀w,s.why=aa w->cr w=ah
def ziV(C:List Cs)(tb:Pl->Int)(s:sy):Int:=match wH C s with
 |none=>0
 |some p=>tb p
def ziW(C:List Cs)(tb:Pl->Int)(s:sy):sy:=yY C (ziV C tb s) s
def ziX(C:List Cs)(tb:Pl->Int):Nat->sy->sy
 |0,s=>s
 |k+1,s=>ziX C tb k (ziW C tb s)
noncomputable def giS(s:sy):List aW:=@Classical.epsilon (List aW) ⟨[]⟩ (Za s)
inductive AlkV (H:B):Nat->V->V->Prop
 |int {n:Nat} (i:Int):AlkV H (n+1) (.int i) (.int i)
 |str {n:Nat} (x:Str):AlkV H (n+1) (.str x) (.str x)
 |tup {n:Nat} {a b:ac} {xs ys:List V}:H a=aa (.tup xs)->H b=aa (.tup ys)->xs.length=ys.length->(∀(i:Nat) (x y:V),xs[i]?=aa x->ys[i]?=aa y->AlkV H n x y)->AlkV H (n+1) (.ref a) (.ref b)
def yQ(n:Nat):Sp:=λvs H Q _=>∃v u,vs=[v,u]/\AlkV H n v u/\∀H',aP H H'->Q (.bl ah) H'
structure rwW(r:Rw):Prop where
 nf:VX r
 pl:VQ r
 ok:Zm r
def ZG:Sp:=λvs H Q _=>∃p a b,∃ds:List Int,∃us ws:List Str,vs=[.ref p,.ref a,.ref b]/\H p=aa (.lst (ds.map V.int))/\ds.length=3/\(∀d∈ds,okD d)/\sF H a us/\us.length=2/\sF H b ws/\ws.length=2/\∀v r H',aP H H'->sw (λb=>H b=ao) H' v r->rwW r->Q v H'
def hZ.of:List Rw->hZ
 |[]=>.nil
 |r::rs=>.cons r (hZ.of rs)
structure zgz(rs:List Rw):Prop where
 dp:(hZ.of rs).deep<=1
 pl:Zo (hZ.of rs)
 ok:Yu (hZ.of rs)
 sz:(rs.map λr=>match r with|.iff _ a b=>a.cnt+b.cnt+3|_=>1).sum<=11
def qF:Sp:=λvs H Q _=>∃c a b,∃us ws:List Str,vs=[.int c,.ref a,.ref b]/\sF H a us/\us.length=2/\sF H b ws/\ws.length=2/\∀l rs H',aP H H'->RlAt (λb=>H b=ao) H' (.ref l) (hZ.of rs)->zgz rs->Q (.ref l) H'
def VZ(p:Pl)(made:Int):List aW->Int×Int->Int×Int
 |[],s=>s
 |r::rs,s=>VZ p made rs (if r.1=p then (made,r.2) else s)
def wI(p:Pl)(aN:Int):List (Int×List aW)->Int×Int->Int×Int
 |[],s=>s
 |l::ls,s=>wI p aN ls (if s.1<l.1/\l.1<aN then VZ p l.1 l.2 s else s)
def zY(aT:List aW)(lays:List (Int×List aW))(p:Pl)(aN:Int):Int:=(wI p aN lays (-1,(zw aT p).getD 0)).2
structure W7(gs:List aW):Prop where
 nd:(gs.map (·.1)).Nodup
 le:gs.length<=63
def Yj(lays:List (Int×List aW))(p:Pl)(r:Int):Prop:=∃gs,(r,gs)∈lays/\p∈gs.map (·.1)
structure sG(H:B)(rk:ac)(F:ac->Prop)(P:Pl->Int->Prop)(aO:List (List bv×V)):Prop where
 at_:H rk=aa (.dT aO)
 nk:(aO.map (·.1)).Nodup
 nv:(aO.map (·.2)).Nodup
 ls:∀kv∈aO,∃(p:Pl) (a:ac) (rs:List Int),kv=(zt p,.ref a)/\F a/\H a=aa (.lst (rs.map V.int))/\rs.Pairwise (· < ·)/\rs≠[]/\∀r,r∈rs↔P p r
 al:∀p r,P p r->zt p∈aO.map (·.1)
def zaS(H:B)(rk:ac)(F:ac->Prop)(kv:bv×V)(y:Int×List aW):Prop:=kv.1=.inl y.1/\∃d,kv.2=.ref d/\F d/\d≠rk/\H d=aa (.dT (sO y.2))
def Y7(gr:ac)(low:Int)(wo rk:ac):List (Str×V):=[(bb "ground",.ref gr),(bb "folded",.int low),(bb "worths",.ref wo),(bb "ranks",.ref rk)]
structure MrIn(t:mt)(H:B)(m:ac)(F:ac->Prop)(g:List aW)(l:List (Int×List aW))(low:Int)(dx gr wo rk:ac)(wk:List (bv×V))(kk:List (List bv×V)):Prop where
 im:H m=aa (.ins t.q02 dx (Y7 gr low wo rk))
 fg:F gr
 fw:F wo
 fk:F rk
 nr:gr≠rk
 hg:H gr=aa (.dT (sO g))
 hw:H wo=aa (.dK wk)
 wp:Paired (zaS H rk F) wk l
 rr:sG H rk F (Yj l) kk
theorem sG.keep{H H':B}{rk:ac}{F F':ac->Prop}{P:Pl->Int->Prop}(h:sG H rk F P aO)(fk:F rk)(k:∀b o,F b->H b=aa o->H' b=aa o)(ff:∀b,F b->F' b):sG H' rk F' P aO:=
 ⟨k _ _ fk h.at_,h.nk,h.nv,λkv hk=>let ⟨p,a,rs,e,fa,ha,z⟩:=h.ls kv hk;⟨p,a,rs,e,ff a fa,k _ _ fa ha,z⟩,h.al⟩
theorem MrIn.keep{H H':B}{m:ac}{F:ac->Prop}{g:List aW}{l:List (Int×List aW)}{low:Int}{dx gr wo rk:ac}{wk:List (bv×V)}{kk:List (List bv×V)}(h:MrIn t H m F g l low dx gr wo rk wk kk)(me:F m)(k:∀b o,F b->H b=aa o->H' b=aa o):MrIn t H' m F g l low dx gr wo rk wk kk:=
 ⟨k _ _ me h.im,h.fg,h.fw,h.fk,h.nr,k _ _ h.fg h.hg,k _ _ h.fw h.hw,Paired.mapP h.wp λ_ _ ⟨e,d,e2,fd,nd,hd⟩=>⟨e,d,e2,fd,nd,k _ _ fd hd⟩,h.rr.keep h.fk k λ_ z=>z⟩
structure tq(t:mt)(H:B)(m:ac)(F:ac->Prop)(g:List aW)(l:List (Int×List aW))(low:Int):Prop where
 own:∀b,F b->∃o,H b=aa o
 me:F m
 nd:(l.map (·.1)).Nodup
 ok:∀y∈l,0<=y.1/\W7 y.2
 ex:∃dx gr wo rk wk kk,MrIn t H m F g l low dx gr wo rk wk kk
theorem kO{gr wo rk:ac}{low:Int}(h:f≠bb "ground"/\f≠bb "folded"/\f≠bb "worths"/\f≠bb "ranks"):de f (Y7 gr low wo rk)=ao:=by
 obtain⟨h1,h2,h3,h4⟩:=h;simp only[Y7,cq,beq_eq_false_iff_ne.mpr h1,beq_eq_false_iff_ne.mpr h2,beq_eq_false_iff_ne.mpr h3,beq_eq_false_iff_ne.mpr h4,List.lookup_nil]
theorem tq.ins{H:B}{F:ac->Prop}{l:List (Int×List aW)}{low:Int}(h:tq t H m F g l low):∃dx fs,H m=aa (.ins t.q02 dx fs)/\de (bb "lay") fs=ao/\de (bb "seen") fs=ao/\de (bb "kept") fs=ao/\de (bb "fold") fs=ao/\de (bb "table_for") fs=ao:=by
 obtain⟨dx,gr,wo,rk,wk,kk,z⟩:=h.ex;exact⟨dx,_,z.im,kO (),kO (),kO (),kO (),kO ()⟩
theorem tq.keep{H H':B}{F:ac->Prop}{l:List (Int×List aW)}{low:Int}(h:tq t H m F g l low)(k:∀b o,F b->H b=aa o->H' b=aa o):tq t H' m F g l low:=
 ⟨λb hb=>let ⟨o,e⟩:=h.own b hb;⟨o,k b o hb e⟩,h.me,h.nd,h.ok,let ⟨dx,gr,wo,rk,wk,kk,z⟩:=h.ex;⟨dx,gr,wo,rk,wk,kk,z.keep h.me k⟩⟩
def sV(t:mt)(H:B)(m:ac)(F:ac->Prop)(g:List aW)(l:List (Int×List aW)):Prop:=tq t H m F g l 0
theorem sV.own{H:B}{F:ac->Prop}{l:List (Int×List aW)}(h:sV t H m F g l):∀b,F b->∃o,H b=aa o:=tq.own h
theorem sV.me{H:B}{F:ac->Prop}{l:List (Int×List aW)}(h:sV t H m F g l):F m:=tq.me h
theorem sV.ins{H:B}{F:ac->Prop}{l:List (Int×List aW)}(h:sV t H m F g l):∃dx fs,H m=aa (.ins t.q02 dx fs)/\de (bb "lay") fs=ao/\de (bb "seen") fs=ao/\de (bb "kept") fs=ao:=let ⟨dx,fs,a,b,c,d,_⟩:=tq.ins h;⟨dx,fs,a,b,c,d⟩
theorem sV.keep{H H':B}{F:ac->Prop}{l:List (Int×List aW)}(h:sV t H m F g l)(k:∀b o,F b->H b=aa o->H' b=aa o)(ts:∀b zs,H b=aa (.tup zs)->H' b=aa (.tup zs)):sV t H' m F g l:=tq.keep h k
theorem sV.same{H H':B}{F:ac->Prop}{l:List (Int×List aW)}(h:sV t H m F g l)(s:aP H H'):sV t H' m F g l:=h.keep (λb o _ e=>s b o e) λb zs e=>s b _ e
def wQ(lays:List (Int×List aW))(aN:Int)(gs:List aW):List (Int×List aW):=(lays.filter λy=>decide (y.1≠aN))++[(aN,gs)]
def yy:Sp:=λvs H Q _=>∃a,∃rs:List Int,∃aN,vs=[.ref a,.int aN]/\H a=aa (.lst (rs.map V.int))/\rs.Pairwise (· < ·)/\∀(k:Nat) H',aP H H'->k<=rs.length->(∀r∈rs.take k,r<aN)->(∀r∈rs.drop k,aN<=r)->Q (.int k) H'
def yG(t:mt):Sp:=λvs H Q _=>∃m dx,∃fs:List (Str×V),∃low aN,vs=[.ref m,.int aN]/\H m=aa (.ins t.q02 dx fs)/\fs.lookup (bb "folded")=aa (.int low)/\low<=aN/\∀H',aP H H'->Q .non H'
def Jt(lays:List (Int×List aW))(aN:Int):List (Int×List aW):=lays.filter λy=>decide (y.1≠aN)
def ss(G:ac->Prop)(rk:ac)(H H':B):Prop:=∀b o,H b=aa o->b≠rk->((∀xs,o≠.lst xs)\/¬ G b)->H' b=aa o
def Dm(H H':B):Prop:=∀b o,H b=aa o->∃o',H' b=aa o'/\∀zs,o'=.tup zs->o=.tup zs
def vg:Sp:=λvs H Q _=>∃rk pl aN,∃G:ac->Prop,∃P:Pl->Int->Prop,∃kk:List (List bv×V),∃q0:Pl,vs=[.ref rk,.ref pl,.int aN]/\sG H rk G P kk/\G rk/\(∀b,H b=ao->G b)/\H pl=aa (.tup ((zt q0).map kV))/\¬ P q0 aN/\kk.length<=18900/\(∀rs:List Int,rs.Pairwise (· < ·)->(∀r∈rs,P q0 r)->rs.length<=300)/\∀H' kk',ss G rk H H'->Dm H H'->sG H' rk G (λp r=>P p r\/(r=aN/\p=q0)) kk'->Q .non H'
def xn:Sp:=λvs H Q _=>∃rk pl aN,∃G:ac->Prop,∃P:Pl->Int->Prop,∃kk,∃q0:Pl,vs=[.ref rk,.ref pl,.int aN]/\sG H rk G P kk/\G rk/\H pl=aa (.tup ((zt q0).map kV))/\P q0 aN/\∀H' kk',ss G rk H H'->Dm H H'->sG H' rk G (λp r=>P p r/\¬ (r=aN/\p=q0)) kk'->Q .non H'
def yo(t:mt):Sp:=λvs H Q _=>∃m aN F g lays low,vs=[.ref m,.int aN]/\tq t H m F g lays low/\∀l ys gs H',aP H H'->H l=ao->H' l=aa (.lst ys)->Paired (zdz H') ys (sO gs)->((aN,gs)∈lays\/(aN ∉ lays.map (·.1)/\gs=[]))->Q (.ref l) H'
def yZ(t:mt):Sp:=λvs H Q _=>∃m aN F g lays low,vs=[.ref m,.int aN]/\tq t H m F g lays low/\∀H' F',(∀b o,¬ F b->H b=aa o->H' b=aa o)->(∀b zs,H b=aa (.tup zs)->H' b=aa (.tup zs))->tq t H' m F' g (Jt lays aN) low->(∀b,F' b->F b\/H b=ao)->(∀b,F b->F' b)->Q .non H'
def kj(t:mt):Sp:=λvs H Q _=>∃x h dx aT,vs=[.ref x,.ref h]/\H x=aa (.ins t.q02 dx [])/\sR H h aT/\aT.length<=63/\∀H' F,Kn x H H'->sV t H' x F aT []->(∀b,F b->b=x\/H b=ao)->Q .non H'
def XJ(t:mt):Sp:=λvs H Q _=>∃m aN gv F g lays gs,vs=[.ref m,.int aN,.ref gv]/\sV t H m F g lays/\0<=aN/\sR H gv gs/\¬ F gv/\W7 gs/\lays.length<=200/\∀H' F',(∀b o,¬ F b->H b=aa o->H' b=aa o)->(∀b zs,H b=aa (.tup zs)->H' b=aa (.tup zs))->sV t H' m F' g (wQ lays aN gs)->(∀b,F' b->F b\/H b=ao)->(∀b,F b->F' b)->Q .non H'
def ko(t:mt):Sp:=λvs H Q _=>∃m p aN F g lays q,vs=[.ref m,.ref p,.int aN]/\sV t H m F g lays/\0<=aN/\H p=aa (.tup [.str q.1,.int q.2])/\∀H',aP H H'->Q (.int (zY g lays q aN)) H'
inductive Ev where
 |rest
 |step (r:Int)
 |read (r:Int) (p:Pl) (w:Int)
 |take (r:Int)
 |lay (r:Int)
 |settle (r:Int)
 |again (r:Int) (p:Pl) (o n:Int)
abbrev He:=Int×Ev
def evW:Ev->Str
 |.rest=>"rest"
 |.step _=>"step"
 |.read ..=>"read"
 |.take _=>"take"
 |.lay _=>"lay"
 |.settle _=>"settle"
 |.again ..=>"again"
def evX(q:ac):Ev->List V
 |.rest=>[]
 |.step r=>[.int r]
 |.read r _ w=>[.int r,.ref q,.int w]
 |.take r=>[.int r]
 |.lay r=>[.int r]
 |.settle r=>[.int r]
 |.again r _ o n=>[.int r,.ref q,.int o,.int n]
def evP:Ev->Option Pl
 |.read _ p _=>aa p
 |.again _ p _ _=>aa p
 |_=>ao
def tu(H:B)(v:V)(x:He):Prop:=∃a q,v=.ref a/\H a=aa (.tup (.str (evW x.2)::.int x.1::evX q x.2))/\∀p,evP x.2=aa p->H q=aa (.tup [.str p.1,.int p.2])
structure DS where
 ws:List Int
 hl:List (Int×Int×Nat×sy)
 ld:List (Int×sy×List aW)
 ls:List (Int×List aW)
 en:Nat
def Yk{β:Type}(l:List (Int×β))(h:Int)(b:β):List (Int×β):=l.map λe=>if e.1=h then (h,b) else e
def zV{β:Type}(l:List (Int×β))(h:Int):List (Int×β):=l.filter λe=>decide (e.1≠h)
inductive Mv (f:Int) (g:List aW) (CC:List (List Cs)) (S:DS) (h:Int):Ev->DS->Prop
 |step {r j s C}:(h,r,j,s)∈S.hl->CC[(r-f).toNat]?=aa C->yf C s=aq->wH C s=ao->Mv f g CC S h (.step r) { S with hl:=Yk S.hl h (r,j+1,yY C 0 s) }
 |read {r j s C p}:(h,r,j,s)∈S.hl->CC[(r-f).toNat]?=aa C->yf C s=aq->wH C s=aa p->Mv f g CC S h (.read r p (zY g S.ls p r)) { S with hl:=Yk S.hl h (r,j+1,yY C (zY g S.ls p r) s) }
 |lay {r j s C gi}:(h,r,j,s)∈S.hl->CC[(r-f).toNat]?=aa C->yf C s=ah->Za s gi->Mv f g CC S h (.lay r) { S with hl:=zV S.hl h,ls:=wQ S.ls r gi,ld:=S.ld++[(r,s,gi)] }
 |settle {s gi}:(f+S.en,s,gi)∈S.ld->h ∉ S.hl.map (·.1)->Mv f g CC S h (.settle (f+S.en)) { S with ld:=zV S.ld (f+S.en),en:=S.en+1 }
 |again {r s gi p o ws'}:(r,s,gi)∈S.ld->(p,o)∈s.no->zY g S.ls p r≠o->ws'.Perm (r::S.ws)->ws'.Pairwise (· < ·)->h ∉ S.hl.map (·.1)->Mv f g CC S h (.again r p o (zY g S.ls p r)) { S with ld:=zV S.ld r,ws:=ws' }
 |take {r}:r∈S.ws->h ∉ S.hl.map (·.1)->Mv f g CC S h (.take r) { S with ws:=S.ws.erase r,hl:=S.hl++[(h,r,0,st0)] }
 |rest:S.ws=[]->f+(S.en:Int) ∉ S.ld.map (·.1)->h ∉ S.hl.map (·.1)->Mv f g CC S h .rest S
structure zb3(no gi:List aW):Prop where
 nd:(no.map (·.1)).Nodup
 ng:(gi.map (·.1)).Nodup
 ln:no.length<=40
 lg:gi.length<=40
def vU(f:Int)(k n:Nat):List Int:=(dL (n-k)).map λi:Nat=>f+(k:Int)+(i:Int)
structure zgA(CC:List (List Cs)):Prop where
 ok:∀C∈CC,Js C/\C.length<=11
 le:CC.length<=5
structure sA(n f:Int)(g:List aW)(CC:List (List Cs))(S:DS):Prop where
 f0:0<=f
 cc:zgA CC
 el:S.en<=CC.length
 pm:(S.ws++(S.hl.map (·.2.1)++S.ld.map (·.1))).Perm (vU f S.en CC.length)
 so:S.ws.Pairwise (· < ·)
 hn:(S.hl.map (·.1)).Nodup
 hr:∀e∈S.hl,0<=e.1/\e.1<n
 rn:∀e∈S.hl,∃C,CC[(e.2.1-f).toNat]?=aa C/\RnI C e.2.2.1 e.2.2.2/\e.2.2.1<=11
 nt:∀e∈S.ld,zb3 e.2.1.no e.2.2
 ly:∀y∈S.ls,f<=y.1/\y.1<f+CC.length
 gw:∀p,sQ ((zw g p).getD 0)=ah
 lw:∀y∈S.ls,∀w∈y.2,sQ w.2=ah
def Agr(g:List aW)(ls:List (Int×List aW))(r:Int)(no:List aW):Prop:=∀y∈no,zY g ls y.1 r=y.2
structure tP where
 dx:ac
 wy:ac
 dw:ac
 cl:ac
 wl:ac
 hd:ac
 mks:ac
 jb:ac
 dj:ac
 en:ac
 la:ac
 re:ac
 db:ac
def XL(a:tP)(n f:Int):List (Str×V):=[(bb "hands",.int n),(bb "way",.ref a.wy),(bb "first",.int f),(bb "codes",.ref a.cl),(bb "waiting",.ref a.wl),(bb "held",.ref a.hd),(bb "makes",.ref a.mks),(bb "jobs",.ref a.jb),(bb "ended",.ref a.en)]
def Ju(m la re db:ac):List (Str×V):=[(bb "makes",.ref m),(bb "laid",.ref la),(bb "readers",.ref re),(bb "doubted",.ref db)]
def dbL(db:List Int):List (bv×V):=db.map λr=>(.inl r,.bl ah)
def tN(t:mt)(d:ac)(a:tP)(n f:Int)(wo:HO)(cs:List V)(ws:List Int)(kv la:List (bv×V))(db:List Int)(en:List V):List (ac×HO):=[(d,.ins t.q01 a.dx (XL a n f)),(a.wy,wo),(a.jb,.ins t.q03 a.dj (Ju a.mks a.la a.re a.db)),(a.cl,.lst cs),(a.wl,.lst (ws.map V.int)),(a.hd,.dK kv),(a.la,.dK la),(a.db,.dK (dbL db)),(a.en,.lst en)]
def tW(H:B)(v:V)(C:List Cs):Prop:=∃a ys,v=.ref a/\H a=aa (.lst ys)/\Paired (sW H) ys C
structure sP(t:mt)(H:B)(lb:ac->Nat)(Bp:List (ac×HO))(m re:ac)(g:List aW)(lays:List (Int×List aW))(P:Pl->Int->Prop)(cs:List V)(CC:List (List Cs)):Prop where
 ob:∀(i:Nat) b o,Bp[i]?=aa (b,o)->H b=aa o/\lb b=i+1
 ms:sV t H m (λb=>lb b=10) g lays
 rr:∃kk,sG H re (λb=>lb b=11) P kk
 rl:lb re=11
 cc:Paired (λv C=>tW H v C/\∀c,v=.ref c->lb c=13) cs CC
 ow:∀b,lb b≠0->∃o,H b=aa o
structure Fr(M:Nat->Prop)(H H':B)(lb lb':ac->Nat):Prop where
 ex:∀b o,H b=aa o->lb' b=lb b
 kp:∀b o,M (lb b)->H b=aa o->H' b=aa o
 ts:∀b zs,H b=aa (.tup zs)->H' b=aa (.tup zs)
 al:∀b o,H b=aa o->∃o',H' b=aa o'
def M0(l:Nat):Prop:=l=0\/l=14
def M1(l:Nat):Prop:=l=0\/14<=l
def tU(H:B)(lb:ac->Nat)(r:ac)(no gi:List aW):Prop:=∃o nl gl,H r=aa (.tup [o,.ref nl,.ref gl])/\sR H nl no/\sR H gl gi/\lb nl=14/\lb gl=14
def Pk{β:Type}(R:Int->V->β->Prop)(kv:List (bv×V))(l:List (Int×β)):Prop:=Paired (λx e=>x.1=.inl e.1/\R e.1 x.2 e.2) kv l
def HdAt(t:mt)(H:B)(lb:ac->Nat)(f:Int)(CC:List (List Cs))(h:Int)(v:V)(e:Int×Nat×sy):Prop:=∃tp x ra C,v=.ref tp/\H tp=aa (.tup [.int e.1,.ref x])/\CC[(e.1-f).toNat]?=aa C/\hV t H x ra C e.2.2/\∀b,OwA x ra b->lb b=20+h.toNat
def XM(H:B)(lb:ac->Nat)(_:Int)(v:V)(e:sy×List aW):Prop:=∃r,v=.ref r/\tU H lb r e.1.no e.2
def tH(ld:List (Int×sy×List aW))(p:Pl)(i:Int):Prop:=∃e∈ld,e.1=i/\p∈e.2.1.no.map (·.1)
def zhV(t:mt)(a:tP)(wo:HO):Prop:=wo=.ins t.q0a a.dw []\/wo=.ins t.q0e a.dw []
structure sS(ld:List (Int×sy×List aW))(db:List Int):Prop where
 nd:db.Nodup
 su:∀r∈db,r∈ld.map (·.1)
def tF(t:mt)(H:B)(d:ac)(a:tP)(lb:ac->Nat)(n f:Int)(g:List aW)(CC:List (List Cs))(S:DS):Prop:=∃wo cs kv la db en,sP t H lb (tN t d a n f wo cs S.ws kv la db en) a.mks a.re g S.ls (tH S.ld) cs CC/\Pk (HdAt t H lb f CC) kv S.hl/\Pk (XM H lb) la S.ld/\sS S.ld db/\en.length=S.en/\zhV t a wo
structure DkF(K:bw)(t:mt):Prop where
 cD:tG K t.q01
 cJ:tG K t.q03
 d1:aV K t.q01 "hands"
 d2:aV K t.q01 "way"
 d3:aV K t.q01 "first"
 d4:aV K t.q01 "codes"
 d5:aV K t.q01 "waiting"
 d6:aV K t.q01 "held"
 d7:aV K t.q01 "makes"
 d8:aV K t.q01 "jobs"
 d9:aV K t.q01 "ended"
 j1:aV K t.q03 "makes"
 j2:aV K t.q03 "laid"
 j3:aV K t.q03 "readers"
 j4:aV K t.q03 "doubted"
def xt(t:mt):Sp:=λvs H Q _=>∃m p aN F g lays q,vs=[.ref m,.ref p,.int aN]/\sV t H m F g lays/\H p=aa (.tup ((zt q).map kV))/\∀v H',aP H H'->(v=.non\/∃i,v=.int i)->Q v H'
def qG(t:mt):Sp:=λvs H Q _=>∃x m dx,vs=[.ref x,.ref m]/\H x=aa (.ins t.q03 dx [])/\∀H' la re db,Kn x H H'->H' x=aa (.ins t.q03 dx (Ju m la re db))->H' la=aa (.dK [])->H' re=aa (.dT [])->H' db=aa (.dK [])->H la=ao->H re=ao->H db=ao->la≠db->Q .non H'
structure JD where
 d:ac
 a:tP
 lb:ac->Nat
 n:Int
 f:Int
 wo:HO
 cs:List V
 ws:List Int
 kv:List (bv×V)
 la:List (bv×V)
 db:List Int
 en:List V
 g:List aW
 lays:List (Int×List aW)
 ld:List (Int×sy×List aW)
 CC:List (List Cs)
def JD.O(J:JD)(t:mt)(H:B):Prop:=sP t H J.lb (tN t J.d J.a J.n J.f J.wo J.cs J.ws J.kv J.la J.db J.en) J.a.mks J.a.re J.g J.lays (tH J.ld) J.cs J.CC
def YC(t:mt):Sp:=λvs H Q _=>∃J:JD,∃p aN,∃q:Pl,vs=[.ref J.a.jb,.ref p,.int aN]/\J.O t H/\sS J.ld J.db/\J.ld.length<=10/\H p=aa (.tup ((zt q).map kV))/\∀H' db',Fr M1 H H' J.lb J.lb->JD.O { J with db:=db' } t H'->sS J.ld db'->Q .non H'
def kP(t:mt):Sp:=λvs H Q _=>∃J:JD,∃r aN,∃s:sy,∃gi:List aW,vs=[.ref J.a.jb,.int aN,.ref r]/\J.O t H/\Pk (XM H J.lb) J.la J.ld/\sS J.ld J.db/\(∀e∈J.ld,zb3 e.2.1.no e.2.2)/\J.ld.length<=10/\aN ∉ J.ld.map (·.1)/\0<=aN/\J.lays.length<=10/\tU H J.lb r s.no gi/\zb3 s.no gi/\∀H' lb' la' db',Fr M1 H H' J.lb lb'->JD.O { J with lb:=lb',la:=la',db:=db',lays:=wQ J.lays aN gi,ld:=J.ld++[(aN,s,gi)] } t H'->Pk (XM H' lb') la' (J.ld++[(aN,s,gi)])->sS (J.ld++[(aN,s,gi)]) db'->Q .non H'
def vh(t:mt):Sp:=λvs H Q _=>∃d:ac,∃a:tP,∃lb:ac->Nat,∃Bp la,∃g:List aW,∃lays:List (Int×List aW),∃P:Pl->Int->Prop,∃cs CC aN r,∃no gi:List aW,vs=[.ref a.jb,.int aN]/\sP t H lb Bp a.mks a.re g lays P cs CC/\Bp[2]?=aa (a.jb,.ins t.q03 a.dj (Ju a.mks a.la a.re a.db))/\Bp[6]?=aa (a.la,.dK la)/\zS la (.inl aN)=aa (.ref r)/\0<=aN/\tU H lb r no gi/\(∀H',aP H H'->Q .non H')/\∀v H' q y,aP H H'->y∈no->zY g lays y.1 aN≠y.2->H' v=aa (.tup [.ref q,.int y.2,.int (zY g lays y.1 aN)])->H' q=aa (.tup [.str y.1.1,.int y.1.2])->Q (.ref v) H'
def ww(t:mt):Sp:=λvs H Q _=>∃J:JD,vs=[.ref J.a.jb]/\J.O t H/\Pk (XM H J.lb) J.la J.ld/\sS J.ld J.db/\J.ld.length<=10/\(∀e∈J.ld,0<=e.1)/\(∀H' db',Fr M1 H H' J.lb J.lb->JD.O { J with db:=db' } t H'->sS J.ld db'->Q .non H')/\∀v H' db' q r s gi y,Fr M1 H H' J.lb J.lb->JD.O { J with db:=db' } t H'->sS J.ld db'->(r,s,gi)∈J.ld->y∈s.no->zY J.g J.lays y.1 r≠y.2->H' v=aa (.tup [.int r,.ref q,.int y.2,.int (zY J.g J.lays y.1 r)])->H' q=aa (.tup [.str y.1.1,.int y.1.2])->Q (.ref v) H'
def wR(t:mt):Sp:=λvs H Q _=>∃(J:JD) (aN:Int) (s:sy) (gi:List aW),vs=[.ref J.a.jb,.int aN]/\J.O t H/\Pk (XM H J.lb) J.la J.ld/\sS J.ld J.db/\(J.ld.map (·.1)).Nodup/\(aN,s,gi)∈J.ld/\(s.no.map (·.1)).Nodup/\∀r H' lb' la' db',Fr M1 H H' J.lb lb'->JD.O { J with lb:=lb',la:=la',db:=db',ld:=zV J.ld aN } t H'->Pk (XM H' lb') la' (zV J.ld aN)->sS (zV J.ld aN) db'->Q (.ref r) H'
def wz(t:mt):Sp:=λvs H Q _=>∃x l w dx dw n f wo,∃g:List aW,vs=[.ref x,.ref l,.int n,.ref w,.int f]/\H x=aa (.ins t.q01 dx [])/\sR H l g/\g.length<=63/\H w=aa wo/\w≠x/\∀H' a lb,a.wy=w->a.dw=dw->(∀b o,b≠x->H b=aa o->H' b=aa o)->(∀b o,b≠x->b≠w->H b=aa o->lb b=0)->sP t H' lb (tN t x a n f wo [] [] [] [] [] []) a.mks a.re g [] (tH []) [] []->Q .non H'
def xC(t:mt):Sp:=λvs H Q _=>∃d dx,∃a:tP,∃n f,∃en:List V,vs=[.ref d]/\H d=aa (.ins t.q01 dx (XL a n f))/\H a.en=aa (.lst en)/\Q (.int (f+en.length)) H
def wA(t:mt):Sp:=λvs H Q _=>∃d dx,∃a:tP,∃n f,∃cs:List V,vs=[.ref d]/\H d=aa (.ins t.q01 dx (XL a n f))/\H a.cl=aa (.lst cs)/\Q (.int (f+cs.length)) H
def zdB(f:Int)(n:Nat)(S:DS):DS:={ S with ws:=S.ws++[f+n] }
def jS(t:mt):Sp:=λvs H Q _=>∃d v,∃a:tP,∃lb:ac->Nat,∃n f,∃g:List aW,∃CC:List (List Cs),∃C:List Cs,∃S:DS,vs=[.ref d,v]/\tW H v C/\tF t H d a lb n f g CC S/\CC.length<=10/\S.ws.length<=10/\∀H' lb',Fr M0 H H' lb lb'->tF t H' d a lb' n f g (CC++[C]) (zdB f CC.length S)->Q (.int (f+CC.length)) H'
def YD(t:mt):Sp:=λvs H Q _=>∃x l,∃ws:List Int,vs=[.ref x,.ref l]/\H l=aa (.lst (ws.map V.int))/\ws≠[]/\∀w∈ws,Q (.int w) H
def jT(t:mt):Sp:=λvs H Q _=>∃x l,∃ws:List Int,vs=[.ref x,.ref l]/\H l=aa (.lst (ws.map V.int))/\ws≠[]/\∀w∈ws,Q (.int w) H
def wS(t:mt):Sp:=λvs H Q _=>∃d,∃a:tP,∃lb:ac->Nat,∃n f h,∃g:List aW,∃CC,∃S:DS,vs=[.ref d,.int h]/\tF t H d a lb n f g CC S/\sA n f g CC S/\h ∉ S.hl.map (·.1)/\S.ws≠[]/\∀v H' lb' r,Fr M0 H H' lb lb'->r∈S.ws->tu H' v (h,.take r)->tF t H' d a lb' n f g CC { S with ws:=S.ws.erase r,hl:=S.hl++[(h,r,0,st0)] }->Q v H'
def mvP(t:mt)(H:B)(d:ac)(a:tP)(lb:ac->Nat)(n f h:Int)(g:List aW)(CC:List (List Cs))(S:DS)(Q:VK):Prop:=∀v H' lb' e S',Fr M0 H H' lb lb'->tu H' v (h,e)->Mv f g CC S h e S'->tF t H' d a lb' n f g CC S'->Q v H'
def xI(t:mt):Sp:=λvs H Q _=>∃d,∃a:tP,∃lb:ac->Nat,∃n f h,∃g:List aW,∃CC,∃S:DS,vs=[.ref d,.int h]/\tF t H d a lb n f g CC S/\sA n f g CC S/\h ∉ S.hl.map (·.1)/\mvP t H d a lb n f h g CC S Q
def vV(t:mt):Sp:=λvs H Q _=>∃d,∃a:tP,∃lb:ac->Nat,∃n f h,∃g:List aW,∃CC,∃S:DS,vs=[.ref d,.int h]/\tF t H d a lb n f g CC S/\sA n f g CC S/\0<=h/\h<n/\mvP t H d a lb n f h g CC S Q
def jj(t:mt):Sp:=λvs H Q _=>∃(d:ac) (a:tP) (lb:ac->Nat) (n f:Int) (g:List aW) (CC:List (List Cs)) (S:DS) (J:List He->DS->Prop),vs=[.ref d]/\tF t H d a lb n f g CC S/\sA n f g CC S/\1<=n/\n<=8/\J [] S/\(∀es S h e S',J es S->sA n f g CC S->h=(es.length:Int)%n->Mv f g CC S h e S'->J (es++[(h,e)]) S')/\∀l xs es H' lb' S',Fr M0 H H' lb lb'->lb' l=0->H l=ao->H' l=aa (.lst xs)->Paired (tu H') xs es->xs.length<=10000->J es S'->sA n f g CC S'->S'.en=CC.length->tF t H' d a lb' n f g CC S'->Q (.ref l) H'
structure TbK(g:List aW):Prop where
 nd:(g.map (·.1)).Nodup
 so:∀r∈g,cr r.1.1=ah
structure LdR(H:B)(lw:ac->Nat)(kv:List (bv×V))(rs:List Int)(ls:List (Int×List aW)):Prop where
 ks:kv.map (·.1)=rs.map gb
 nd:rs.Nodup
 mm:∀r,r∈rs↔r∈ls.map (·.1)
 vv:∀y∈ls,∃gl,zS kv (.inl y.1)=aa (.ref gl)/\sR H gl y.2/\lw gl=5
 nl:(ls.map (·.1)).Nodup
 tk:∀y∈ls,TbK y.2
 z0:∀y∈ls,0<=y.1
 le:rs.length<=10
def qH:Sp:=λvs H Q _=>∃tl ll p aN,∃g:List aW,∃kv rs,∃ls:List (Int×List aW),∃lw:ac->Nat,∃q:Pl,vs=[.ref tl,.ref ll,.ref p,.int aN]/\sR H tl g/\TbK g/\H ll=aa (.dK kv)/\LdR H lw kv rs ls/\H p=aa (.tup [.str q.1,.int q.2])/\cr q.1=ah/\∀H',aP H H'->Q (.int (zY g ls q aN)) H'
def HlE(C:List Cs)(s:sy)(g:List aW)(ls:List (Int×List aW))(r:Int):Ev->Prop
 |.lay r'=>r'=r/\yf C s=ah
 |.step r'=>r'=r/\yf C s=aq/\wH C s=ao
 |.read r' p w=>r'=r/\yf C s=aq/\wH C s=aa p/\w=zY g ls p r
 |_=>False
def hlW:Ev->Int
 |.read _ _ w=>w
 |_=>0
def WR:Ev->Bool
 |.lay _=>ah
 |_=>aq
def y6(t:mt):Sp:=λvs H Q _=>∃v h r x tl ll,∃ra:RAd,∃C:List Cs,∃s:sy,∃j:Nat,∃e:Ev,∃g:List aW,∃kv rs,∃ls:List (Int×List aW),∃lw:ac->Nat,vs=[v,.int h,.int r,.ref x,.ref tl,.ref ll]/\tu H v (h,e)/\hV t H x ra C s/\Js C/\RnI C j s/\j<=11/\sR H tl g/\TbK g/\H ll=aa (.dK kv)/\LdR H lw kv rs ls/\HlE C s g ls r e /\
 (∀H' gl gi,WR e=ah->(∀b o,b≠ll->H b=aa o->H' b=aa o)->H' ll=aa (.dK (ye kv (.inl r) (.ref gl)))->H gl=ao->sR H' gl gi->Za s gi->Q (.bl ah) H')/\∀H',WR e=aq->Kp x ra H H'->hV t H' x ra C (yY C (hlW e) s)->Q (.bl ah) H'
def FrE(f m:Int):Ev->Prop
 |.rest=>True
 |.take r=>0<=r-f/\r-f<m
 |.settle r=>0<=r-f/\r-f<m
 |.again r _ _ _=>0<=r-f/\r-f<m
 |_=>False
def xJ:Sp:=λvs H Q _=>∃v h f m,∃e:Ev,vs=[v,.int h,.int m,.int f]/\tu H v (h,e)/\FrE f m e/\∀H',aP H H'->Q (.bl ah) H'
def RuAt(t:mt)(H:B)(lw:ac->Nat)(f:Int)(CC:List (List Cs))(hl:List (Int×Int×Nat×sy))(h:Nat)(v:V):Prop:=(v=.non/\(h:Int) ∉ hl.map (·.1))\/∃x ra r j s C,v=.ref x/\((h:Int),r,j,s)∈hl/\CC[(r-f).toNat]?=aa C/\hV t H x ra C s/\∀b,OwA x ra b->lw b=20+h
structure sY(t:mt)(H:B)(lw:ac->Nat)(rl kl ll:ac)(n f:Int)(CC:List (List Cs))(hl:List (Int×Int×Nat×sy))(ls:List (Int×List aW)):Prop where
 rr:∃us,H rl=aa (.lst us)/\(us.length:Int)=n/\∀(h:Nat) v,us[h]?=aa v->RuAt t H lw f CC hl h v
 kk:∃ks:List Int,H kl=aa (.lst (ks.map V.int))/\(ks.length:Int)=n/\∀e∈hl,ks[e.1.toNat]?=aa e.2.1
 dd:∃kv rs,H ll=aa (.dK kv)/\LdR H lw kv rs ls
 l1:lw rl=1
 l2:lw kl=2
 l3:lw ll=3
 ow:∀b,lw b≠0->∃o,H b=aa o
def N0(l:Nat):Prop:=l=0
def yH(t:mt):Sp:=λvs H Q _=>∃v h f n al rl kl tl ll,∃lw:ac->Nat,∃cvs,∃g:List aW,∃CC,∃S S':DS,∃e:Ev,vs=[v,.int h,.ref al,.int f,.ref rl,.ref kl,.ref tl,.ref ll]/\tu H v (h,e)/\H al=aa (.lst cvs)/\Paired (tW H) cvs CC/\sR H tl g/\TbK g/\lw tl=0/\sY t H lw rl kl ll n f CC S.hl S.ls/\sA n f g CC S/\0<=h/\h<n/\n<=8/\Mv f g CC S h e S'/\∀H' lw',Fr N0 H H' lw lw'->sY t H' lw' rl kl ll n f CC S'.hl S'.ls->Q (.bl ah) H'
def sp_law(K:bw):Sp:=λvs H Q _=>∃a,∃ns:List Int,vs=[.ref a]/\aY K H a (ns.map V.int)/\ns.length<=63/\(∀i∈ns,Cb i)/\∀H',Q (.bl ah) H'
section
variable(K:bw)(t:mt)
def wB(K:bw)(t:mt):TS:=zj (zF (zu (aQ (rIn K aq) (U 0) (yz (Z (L (.str "take")) (Z (L (.str "give")) (Z (L (.str "let")) (Z (L (.str "say")) (Z (L (.str "off")) (Z (L (.str "if")) (Z (L (.str "else")) (Z (L (.str "end")) (Z (L (.str "as")) zf))))))))))))
   (zA (aQ VA (U 0) (L (.str "z"))))
   zy)
  (zj (zF (zu (aQ (rIn K aq) (U 0) (yz (Z (L (.str "plus")) (Z (L (.str "minus")) (Z (L (.str "times")) (Z (L (.str "over")) (Z (L (.str "rest")) (Z (L (.str "under")) (Z (L (.str "same")) zf))))))))))
    (zA (aQ VA (U 0) (L (.str "z"))))
    zy)
  (zA (U 0)))
def YE(K:bw)(t:mt):TS:=zj (zE (xu zf) (zm 2))
  (zj (zE (aQ aH (aQ aG (U 0) (L (.int 1000003))) (L (.int 17))) (zm 3))
  (zj (zE (aQ aH (aQ aG (aQ aI (U 0) (L (.int 1000003))) (L (.int 999983))) (L (.int 29))) (zm 4))
  (zj (wZ (WF (Z (U 1) zf)) (zm 5)
    (zj (zE (aQ aG (aQ aH (aQ aH (aQ aL (U 3) (U 3)) (aQ aL (L (.int 3)) (U 4))) (U 5)) (L (.int 1000003))) (zm 3))
  (zj (zE (aQ aG (aQ aH (aQ aH (aQ aL (U 4) (U 3)) (aQ aL (L (.int 7)) (U 3))) (L (.int 11))) (L (.int 999983))) (zm 4))
  (zT (tBM K "list" ya (U 2) (Z (aQ aH (aQ aL (U 3) (L (.int 999983))) (U 4)) zf))))))
  (zA (U 2)))))
def jk(K:bw)(t:mt):TS:=zj (zF (Jn (zu (aQ sX (aQ aG (aQ aI (U 0) (L (.int 900))) (L (.int 3))) (L (.int 0)))) (zu (aQ aJ (sM (xw K) (Z (U 3) zf)) (L (.int 6)))))
   (zA (xu (Z (U 3) (Z (zG yg [] E0 (Z (aQ VA (U 3) (U 5)) zf)) zf))))
   zy)
  (zj (zF (Jn (zu (aQ sX (aQ aG (aQ aI (U 0) (L (.int 900))) (L (.int 3))) (L (.int 1)))) (zu (aQ aJ (sM (xw K) (Z (U 3) zf)) (L (.int 6)))))
    (zA (xu (Z (zG yg [] E0 (Z (aQ VA (U 5) (U 3)) zf)) (Z (U 3) zf))))
    zy)
  (zA (xu (Z (U 3) (Z (zG yg [] E0 (Z (aQ VA (aQ VA (tSl zhF (U 3) qc (vZ (U 4))) (U 5)) (tSl zhF (U 3) (vZ (aQ aH (U 4) (L (.int 1)))) qc)) zf)) zf)))))
def jm:TS:=zj (zE (aQ aG (aQ aI (U 0) (L (.int 6))) (sM (xw K) (Z (U 3) zf))) (zm 4))
  (zj (zE (aQ zdf (U 1) (aQ aG (aQ aH (aQ aH (tBM K "str" Wj (U 1) (Z (aQ zdf (U 3) (U 4)) zf)) (L (.int 1))) (aQ aG (aQ aI (U 0) (L (.int 36))) (L (.int 25)))) (L (.int 26)))) (zm 5))
  (jk K t))
def ZH:TS:=zj (zE (zG yg [] E0 (Z (U 2) zf)) (zm 3))
  (jm K t)
def qI:TS:=zj (zE (L (.str "abcdefghijklmnopqrstuvwxyz")) (zm 1))
  (zj (zE (tBM K "str" (Wk K) (L (.str "")) (Z (kI (xc K (zG xa [] E0 (Z (U 0) (Z (aQ aH (L (.int 1)) (aQ aG (U 0) (L (.int 6)))) zf)))) (zm 0) Vy (aQ zdf (U 1) (aQ aG (U 0) (L (.int 26)))) 1 [1]) zf)) (zm 2))
  (ZH K t))
def jn(K:bw)(t:mt):TS:=zj (zF (zu (aQ sX (aQ aG (U 0) (L (.int 4))) (L (.int 0))))
   (zA (aQ aK (aQ aG (aQ aL (U 0) (aQ (rI KJ λi j=>.int (i^j.toNat)) (L (.int 1000000007)) (L (.int 3)))) (aQ aH (aQ aL (L (.int 2)) (aQ (rI KJ λi j=>.int (i^j.toNat)) (L (.int 10)) (L (.int 30)))) (L (.int 1)))) (aQ (rI KJ λi j=>.int (i^j.toNat)) (L (.int 10)) (L (.int 30)))))
   zy)
  (zA (aQ aK (aQ aG (aQ aI (U 0) (L (.int 4))) (L (.int 6))) (L (.int 2))))
def YF(K:bw)(t:mt):TS:=zj (zE (zG xa [] E0 (Z (U 0) (Z (L (.int 10)) zf))) (zm 2))
  (zj (zE qf (zm 3))
  (zj (wZ (WF (Z (aQ aG (U 0) (L (.int 6))) zf)) (zm 4)
    (zj (zE (zG yX [] E0 (Z (aQ (yA K) (U 2) (aQ aH (U 4) (L (.int 5)))) zf)) (zm 5))
  (zF (zu (aQ rNe (U 5) (L (.int 0))))
   (jG (U 3) (yz (Z (aQ (yA K) (U 1) (aQ aG (aQ (yA K) (U 2) (U 4)) (L (.int 2)))) (Z (aQ aG (aQ aI (aQ (yA K) (U 2) (U 4)) (L (.int 2))) (L (.int 3))) zf))) (U 5))
   zy)))
  (zA (kI (xc K (sM zeC (Z (U 3) zf))) (zm 0) Vy (yz (Z (U 0) (Z (v0 (U 1) (U 0)) zf))) 1 [3]))))
def vE(K:bw)(t:mt):TS:=zj (zF (zu (aQ aJ (U 1) (sM (xw K) (Z (U 0) zf))))
   (zA (aQ (yA K) (U 0) (U 1)))
   zy)
  (zA (L (.int 0)))
def Ws(K:bw)(t:mt)(n:Nat):TS:=zA (aQ zac (xu (Z (yz (Z (L (.str "skip")) (Z (aQ (yp K) (U 0) (L (.int 1))) (Z (U 3) zf)))) zf)) (U 2))
def Wt(K:bw)(t:mt)(n:Nat):TS:=zj (zE (zG (xi  n) [] E0 (Z (aQ (yp K) (U 0) (L (.int 3))) (Z (aQ aH (U 3) (L (.int 1))) zf))) (zm 4))
  (zA (aQ zac (aQ zac (aQ zac (xu (Z (yz (Z (L (.str "skip")) (Z (aQ (yp K) (U 0) (L (.int 1))) (Z (aQ aH (U 3) (L (.int 1))) zf)))) zf)) (U 2)) (xu (Z (yz (Z (L (.str "go")) (Z (aQ aH (aQ aH (U 3) (L (.int 1))) (sM (xw K) (Z (U 4) zf))) zf))) zf))) (U 4)))
def kQ(n:Nat):TS:=zj (zF (zu (aQ (Qe K) (aQ (yp K) (U 0) (L (.int 3))) (xu zf)))
   (Ws K t n)
   zy)
  (Wt K t n)
def ZI(n:Nat):TS:=zj (zE (zG (xi  n) [] E0 (Z (aQ (yp K) (U 0) (L (.int 2))) (Z (aQ aH (U 1) (L (.int 1))) zf))) (zm 2))
  (zj (zE (aQ aH (aQ aH (U 1) (L (.int 1))) (sM (xw K) (Z (U 2) zf))) (zm 3))
  (kQ K t n))
def WS(K:bw)(t:mt)(n:Nat):TS:=zj (zE (xu zf) (zm 2))
  (zj (wZ (xc K (U 0)) (zm 3)
    (zF (zu (aQ sX (aQ (yp K) (U 3) (L (.int 0))) (L (.str "if"))))
    (zT (tBM K "list" zaP (U 2) (Z (zG (ZC  n) [] E0 (Z (U 3) (Z (aQ aH (U 1) (sM (xw K) (Z (U 2) zf))) zf))) zf)))
    (zT (tBM K "list" ya (U 2) (Z (U 3) zf)))))
  (zA (U 2)))
def Y8(K:bw)(t:mt):TS:=zA (zG (xi  6) [] E0 (Z (U 0) (Z (L (.int 0)) zf)))
def kt(K:bw)(t:mt):TS:=zj (xF K (U 0) (sM zaE (Z (U 1) zf)) "ground")
  (zj (xF K (U 0) (L (.int 0)) "folded")
  (zj (xF K (U 0) Zg "worths")
  (xF K (U 0) qf "ranks")))
def qJ(K:bw)(t:mt):TS:=zj (xF K (U 0) (U 1) "makes")
  (zj (xF K (U 0) Zg "laid")
  (zj (xF K (U 0) qf "readers")
  (xF K (U 0) Zg "doubted")))
def qK:TS:=zj (xF K (U 0) (U 2) "hands")
  (zj (xF K (U 0) (U 3) "way")
  (zj (xF K (U 0) (U 4) "first")
  (zj (xF K (U 0) (xu zf) "codes")
  (zj (xF K (U 0) (xu zf) "waiting")
  (zj (xF K (U 0) Zg "held")
  (zj (xF K (U 0) (WI t.q02 (kj t) [] E0 (Z (U 1) zf)) "makes")
  (zj (xF K (U 0) (WI t.q03 (qG t) [] E0 (Z (zK K (U 0) "makes") zf)) "jobs")
  (xF K (U 0) (xu zf) "ended"))))))))
def qY(K:bw)(t:mt):TS:=zA (aQ aH (zK K (U 0) "first") (sM (xw K) (Z (zK K (U 0) "ended") zf)))
def jU(K:bw)(t:mt):TS:=zA (aQ aH (zK K (U 0) "first") (sM (xw K) (Z (zK K (U 0) "codes") zf)))
def ZJ(K:bw)(t:mt):TS:=zA (zht (aQ VB (zK K (U 0) "why") (L .non)) (aQ (rI0 λi j=>.bl (decide (j<=i))) (zK K (U 0) "at") (sM (xw K) (Z (zK K (U 0) "code") zf))))
def Y9(K:bw)(t:mt)(E:XK):TS:=zj (zF (zu (aQ sX (U 2) (L (.int 0))))
   (VD t.q06 (Z (zaq (U 0)) zf) E)
   zy)
  (zA (tIf (zu (aQ sX (U 0) (L (.str "over")))) (aQ (rI zhc λi j=>.int (i.fdiv j)) (U 1) (U 2)) (aQ (rI (λ_ j=>j≠0) λi j=>.int (i.fmod j)) (U 1) (U 2))))
def Xa(K:bw)(t:mt)(E:XK):TS:=zj (zF (zu (aQ sX (U 0) (L (.str "plus"))))
   (zA (aQ aH (U 1) (U 2)))
   zy)
  (zj (zF (zu (aQ sX (U 0) (L (.str "minus"))))
    (zA (aQ aK (U 1) (U 2)))
    zy)
  (zj (zF (zu (aQ sX (U 0) (L (.str "times"))))
    (zA (aQ aL (U 1) (U 2)))
    zy)
  (zj (zF (zu (aQ sX (U 0) (L (.str "under"))))
    (zA (tIf (zu (aQ aJ (U 1) (U 2))) (L (.int 1)) (L (.int 0))))
    zy)
  (zj (zF (zu (aQ sX (U 0) (L (.str "same"))))
    (zA (tIf (zu (aQ sX (U 1) (U 2))) (L (.int 1)) (L (.int 0))))
    zy)
  (zA (zG (qB t) [] E (Z (U 0) (Z (U 1) (Z (U 2) zf)))))))))
def ZK(K:bw)(t:mt):TS:=zj (zF (tOr (jZ (tB (sM (jD K) (Z (U 0) (Z (L (.ty "int")) zf))))) (tB (sM (jD K) (Z (U 0) (Z (L (.ty "bool")) zf)))))
   (zA (L (.bl aq)))
   zy)
  (zA (KL (rI0 λi j=>.bl (decide (i<=j))) (rI0 λi j=>.bl (decide (i<=j))) (tUn (rU λi=>.int (-i)) (aQ (rI KJ λi j=>.int (i^j.toNat)) (L (.int 10)) (L (.int 30)))) (U 0) (aQ (rI KJ λi j=>.int (i^j.toNat)) (L (.int 10)) (L (.int 30)))))
def Wu(K:bw)(t:mt)(E:XK):TS:=zj (zE (zG (qC t) [] E (Z (U 0) (Z (U 1) (Z (U 2) zf)))) (zm 3))
  (zj (zF (jZ (tB (zG ZA [] E (Z (U 3) zf))))
    (VD t.q07 (Z (zaq (U 0)) zf) E)
    zy)
  (zA (U 3)))
def YG(E:XK):TS:=zj (zE (zdg K "list" Zj (U 2)) (zm 4))
  (zj (zE (zdg K "list" Zj (U 2)) (zm 5))
  (zT (tBM K "list" ya (U 2) (Z (zG (Yd t) [] E (Z (U 3) (Z (U 5) (Z (U 4) zf)))) zf))))
def YH(K:bw)(t:mt)(E:XK):TS:=zT (tBM K "list" ya (U 2) (Z (tIf (tB (sM (jD K) (Z (U 3) (Z (L (.ty "str")) zf)))) (vA (U 1) (U 3) (L (.int 0))) (U 3)) zf))
def YI(E:XK):TS:=zF (zu (aQ (rIn K aq) (U 3) (L (.ref t.q0r))))
   (YG K t E)
   (YH K t E)
def ZL(E:XK):TS:=zj (zE (xu zf) (zm 2))
  (zj (wZ (zhv K (U 0)) (zm 3)
    (YI K t E))
  (zA (zdg K "list" Zj (U 2))))
def vF(E:XK):TS:=zA (zG (ZB t) [] E (Z (U 1) (Z (zK K (U 0) "slots") zf)))
def vG(E:XK):TS:=zA (yz (Z (aQ (yp K) (U 1) (L (.int 1))) (Z (zN t.q00 "worth_of" (zZ t) [] E (U 0) (Z (aQ (yp K) (U 1) (L (.int 2))) zf)) zf)))
def Jv(K:bw)(t:mt):TS:=zj (zF (tOr (zu (aQ (Qj aq) (U 1) (zK K (U 0) "gifts"))) (zu (aQ (Qj aq) (U 1) (zK K (U 0) "notes"))))
   (zA (L .non))
   zy)
  (zA (U 1))
def Jw:TS:=zj (zhh K (zha (zbU t.q00 "place_in" (yL t) (U 0) (Z (aQ (yA K) (zK K (U 0) "code") (zK K (U 0) "at")) zf)) 1) t.q07 t.q06 (zA (L .non)))
  (Jv K t)
def WT:TS:=zj (zF (tOr (tB (zN t.q00 "over" (yO t) [] E0 (U 0) zf)) (zu (aQ rNe (aQ (yp K) (aQ (yA K) (zK K (U 0) "code") (zK K (U 0) "at")) (L (.int 0))) (L (.str "take")))))
   (zA (L .non))
   zy)
  (Jw K t)
def xK(K:bw)(t:mt):TS:=zF (zu (aQ aJ (U 1) (zK K (U 0) "folded")))
   KG
   zy
def YJ(K:bw)(t:mt):TS:=zj (zE (L (.int 0)) (zm 2))
  (zj (zE (sM (xw K) (Z (U 0) zf)) (zm 3))
  (zj (zbv (zu (aQ aJ (U 2) (U 3))) (zj (zE (aQ aI (aQ aH (U 2) (U 3)) (L (.int 2))) (zm 4))
  (zF (zu (aQ aJ (aQ (yA K) (U 0) (U 4)) (U 1)))
   (zE (aQ aH (U 4) (L (.int 1))) (zm 2))
   (zE (U 4) (zm 3)))))
  (zA (U 2))))
def ku:TS:=zj (zT (zN t.q02 "heed_fold" (yG t) [] E0 (U 0) (Z (U 2) zf)))
  (zj (zE (vA (zK K (U 0) "ranks") (U 1) (xu zf)) (zm 3))
  (zj (zE (zG yy [] E0 (Z (U 3) (Z (U 2) zf))) (zm 4))
  (zj (zF (zu (aQ sX (U 4) (L (.int 0))))
    (zA (vA (zK K (U 0) "ground") (U 1) (L (.int 0))))
    zy)
  (zA (v0 (v0 (zK K (U 0) "worths") (aQ (yA K) (U 3) (aQ aK (U 4) (L (.int 1))))) (U 1))))))
def qL(K:bw)(t:mt):TS:=zj (zF (zu (aQ (Qj aq) (U 1) (zK K (U 0) "gifts")))
   (zA (v0 (zK K (U 0) "gifts") (U 1)))
   zy)
  (zj (zF (zu (aQ (Qj ah) (U 1) (zK K (U 0) "notes")))
    (jG (zK K (U 0) "notes") (U 1) (U 2))
    zy)
  (zA (v0 (zK K (U 0) "notes") (U 1))))
def Jx(E:XK):TS:=jG (zK K (U 0) "slots") (aQ (yp K) (U 1) (L (.int 1))) (zN t.q00 "worth_of" (zZ t) [] E (U 0) (Z (aQ (yp K) (U 1) (L (.int 2))) zf))
def YK(E:XK):TS:=zT (tBM K "list" ya (zK K (U 0) "sayings") (Z (zN t.q00 "worth_of" (zZ t) [] E (U 0) (Z (aQ (yp K) (U 1) (L (.int 1))) zf)) zf))
def Jy(E:XK):TS:=zj (zE (zN t.q00 "place_in" (yL t) [] E (U 0) (Z (U 1) zf)) (zm 3))
  (jG (zK K (U 0) "gifts") (U 3) (zN t.q00 "worth_of" (zZ t) [] E (U 0) (Z (aQ (yp K) (U 1) (L (.int 3))) zf)))
def Jz(E:XK):TS:=jG (zK K (U 0) "slots") (aQ (yp K) (U 1) (L (.int 3))) (zN t.q00 "taken" (qD t) [] E (U 0) (Z (zN t.q00 "place_in" (yL t) [] E (U 0) (Z (U 1) zf)) (Z (U 2) zf)))
def WU(E:XK):TS:=zF (zu (aQ sX (aQ (yp K) (U 1) (L (.int 0))) (L (.str "take"))))
   (Jz K t E)
   (zF (zu (aQ sX (aQ (yp K) (U 1) (L (.int 0))) (L (.str "give"))))
   (Jy K t E)
   (zF (zu (aQ sX (aQ (yp K) (U 1) (L (.int 0))) (L (.str "let"))))
   (Jx K t E)
   (YK K t E)))
def W8(E:XK):TS:=zF (zu (aQ rNe (zN t.q00 "worth_of" (zZ t) [] E (U 0) (Z (aQ (yp K) (U 1) (L (.int 1))) zf)) (L (.int 0))))
   (xF K (U 0) (L (.str "told")) "why")
   zy
def W9(K:bw)(t:mt)(E:XK):TS:=zT (zN t.q00 "does" (ZE t) [] E (U 0) (Z (U 1) (Z (U 2) zf)))
def Va(E:XK):TS:=zA (tIf (zu (aQ sX (zN t.q00 "worth_of" (zZ t) [] E (U 0) (Z (aQ (yp K) (U 1) (L (.int 1))) zf)) (L (.int 0)))) (aQ (yp K) (U 1) (L (.int 2))) (aQ aH (zK K (U 0) "at") (L (.int 1))))
def Vb(E:XK):TS:=zj (zF (zu (aQ sX (aQ (yp K) (U 1) (L (.int 0))) (L (.str "off"))))
   (W8 K t E)
   (W9 K t E))
  (zA (aQ aH (zK K (U 0) "at") (L (.int 1))))
def Vc(E:XK):TS:=zj (zF (zu (aQ sX (aQ (yp K) (U 1) (L (.int 0))) (L (.str "skip"))))
   (Va K t E)
   zy)
  (Vb K t E)
def YL(E:XK):TS:=zj (zF (zu (aQ sX (aQ (yp K) (U 1) (L (.int 0))) (L (.str "go"))))
   (zA (aQ (yp K) (U 1) (L (.int 1))))
   zy)
  (Vc K t E)
def WV:TS:=zj (zF (tB (zN t.q00 "over" (yO t) [] E0 (U 0) zf))
   zg4
   zy)
  (zeG K (zhg K (U 0) (zbU t.q00 "led_by" (kh t) (U 0) (Z (aQ (yA K) (zK K (U 0) "code") (zK K (U 0) "at")) (Z (U 1) zf))) "at") t.q07 (xF K (U 0) (L (.str "great")) "why") t.q06 (xF K (U 0) (L (.str "nought")) "why"))
def vi:TS:=zj (wZ (xc K (aQ (yp K) (v0 (zK K (U 0) "laid") (U 1)) (L (.int 1)))) (KI K 2 (wY (zm 2) (wY (zm 3) KH)))
   (zj (zE (zN t.q02 "seen" (ko t) [] E0 (zK K (U 0) "makes") (Z (U 2) (Z (U 1) zf))) (zm 4))
  (zF (zu (aQ rNe (U 4) (U 3)))
   (zA (yz (Z (U 2) (Z (U 3) (Z (U 4) zf)))))
   zy)))
  (zA (L .non))
def wC:TS:=zj (zE (sM zhj (Z (zK K (U 0) "doubted") zf)) (zm 1))
  (zj (wZ (xc K (U 1)) (zm 2)
    (zj (zE (zN t.q03 "changed_note" (vh t) [] E0 (U 0) (Z (U 2) zf)) (zm 3))
  (zj (zF (zu (aQ VB (U 3) (L .non)))
    (zA (aQ (zd3 K) (yz (Z (U 2) zf)) (U 3)))
    zy)
  (zT (KY (zK K (U 0) "doubted") (U 2))))))
  (zA (L .non)))
def qM(K:bw)(t:mt):TS:=zj (zE (v0 (U 0) (U 1)) (zm 3))
  (zj (zT (tBM K "list" jL (U 3) (Z (U 2) zf)))
  (zF (zu (aQ (Qe K) (U 3) (xu zf)))
   (zT (zb1 (U 0) (U 1)))
   zy))
def kR(K:bw)(t:mt):TS:=zj (zE (KY (zK K (U 0) "laid") (U 1)) (zm 2))
  (zj (zT (KZ (zK K (U 0) "doubted") (U 1) (L .non)))
  (zj (wZ (xc K (aQ (yp K) (U 2) (L (.int 1)))) (KI K 2 (wY (zm 3) (wY (zm 4) KH)))
    (zT (zG xn [] E0 (Z (zK K (U 0) "readers") (Z (U 3) (Z (U 1) zf))))))
  (zA (U 2))))
def jV(K:bw)(t:mt):TS:=zA (aQ (yA K) (U 1) (tUn (rU λi=>.int (-i)) (L (.int 1))))
def YM(K:bw)(t:mt):TS:=zA (aQ (yA K) (U 1) (L (.int 0)))
def ZM(K:bw)(t:mt):TS:=zj (xF K (U 0) (sM (zen K) (Z (U 1) zf)) "code")
  (zj (xF K (U 0) (L (.int 0)) "at")
  (zj (xF K (U 0) (L .non) "why")
  (zj (xF K (U 0) Zg "slots")
  (zj (xF K (U 0) qf "gifts")
  (zj (xF K (U 0) qf "notes")
  (xF K (U 0) (xu zf) "sayings"))))))
def jo:TS:=zj (zT (tBM K "list" jL (zK K (U 0) "waiting") (Z (U 2) zf)))
  (zj (jG (zK K (U 0) "held") (U 1) (yz (Z (U 2) (Z (WI t.q00 (ZD t) [] E0 (Z (aQ (yA K) (zK K (U 0) "codes") (aQ aK (U 2) (zK K (U 0) "first"))) zf)) zf))))
  (zA (yz (Z (L (.str "take")) (Z (U 1) (Z (U 2) zf))))))
def kS:TS:=zj (zE (ze8 [(t.q0e,(jT t)),(t.q0a,(YD t))] "chosen" E0 (zK K (U 0) "way") (Z (sM (zen K) (Z (zK K (U 0) "waiting") zf)) zf)) (zm 2))
  (jo K t)
def vj:TS:=zj (zT (zN t.q03 "take_off" (wR t) [] E0 (zK K (U 0) "jobs") (Z (aQ (yp K) (U 3) (L (.int 0))) zf)))
  (zj (zT (tBM K "list" Zp (zK K (U 0) "waiting") (Z (zG yy [] E0 (Z (zK K (U 0) "waiting") (Z (aQ (yp K) (U 3) (L (.int 0))) zf))) (Z (aQ (yp K) (U 3) (L (.int 0))) zf))))
  (zA (aQ (zd3 K) (yz (Z (L (.str "again")) (Z (U 1) zf))) (U 3))))
def vm:TS:=zj (zT (tBM K "list" ya (zK K (U 0) "ended") (Z (zN t.q03 "take_off" (wR t) [] E0 (zK K (U 0) "jobs") (Z (U 2) zf)) zf)))
  (zA (yz (Z (L (.str "settle")) (Z (U 1) (Z (U 2) zf)))))
def vn:TS:=zj (zF (zu (aQ (zeY K) (zK K (U 0) "waiting") (xu zf)))
   (zA (zN t.q01 "taken_up" (wS t) [] E0 (U 0) (Z (U 1) zf)))
   zy)
  (zA (yz (Z (L (.str "rest")) (Z (U 1) zf))))
def ZN:TS:=zj (zF (zu (aQ VB (U 3) (L .non)))
   (vj K t)
   zy)
  (vn K t)
def jp:TS:=zj (zE (zN t.q01 "settled" (xC t) [] E0 (U 0) zf) (zm 2))
  (zj (zE (zN t.q03 "lowest_changed" (ww t) [] E0 (zK K (U 0) "jobs") zf) (zm 3))
  (zj (zF (Jn (zu (aQ (Qj aq) (U 2) (zK K (zK K (U 0) "jobs") "laid"))) (tOr (zu (aQ zf7 (U 3) (L .non))) (zu (aQ rNe (aQ (yp K) (U 3) (L (.int 0))) (U 2)))))
    (vm K t)
    zy)
  (ZN K t)))
def xL(K:bw)(t:mt):TS:=zA (sM ze6 (Z (vA (zK K (U 0) "worths") (U 1) qf) zf))
def xj(K:bw)(t:mt):TS:=wZ (xc K (U 2)) (zm 3)
   (zT (zG xn [] E0 (Z (zK K (U 0) "ranks") (Z (U 3) (Z (U 1) zf)))))
def xM:TS:=zj (zE (zN t.q02 "places_of" (yo t) [] E0 (U 0) (Z (U 1) zf)) (zm 2))
  (zj (zT (KZ (zK K (U 0) "worths") (U 1) (L .non)))
  (xj K t))
def WW(K:bw)(t:mt):TS:=zj (zE (ze3 (U 0) (U 1) (xu zf)) (zm 3))
  (zT (tBM K "list" Zp (U 3) (Z (zG yy [] E0 (Z (U 3) (Z (U 2) zf))) (Z (U 2) zf))))
def jq(K:bw)(t:mt):TS:=jG (zK K (U 0) "worths") (U 1) (U 3)
def jr:TS:=zj (zhL (wZ (iDT (U 3)) (zm 4)
   (zT (zG vg [] E0 (Z (zK K (U 0) "ranks") (Z (U 4) (Z (U 1) zf)))))))
  (jq K t)
def vW:TS:=zj (zT (zN t.q02 "heed_fold" (yG t) [] E0 (U 0) (Z (U 1) zf)))
  (zj (zT (zN t.q02 "take_away" (yZ t) [] E0 (U 0) (Z (U 1) zf)))
  (zj (zE (sM zaE (Z (U 2) zf)) (zm 3))
  (jr K t)))
def vM(K:bw)(t:mt):TS:=zj (zE (vA (zK K (U 0) "ranks") (U 1) (xu zf)) (zm 3))
  (zj (zE (zG yy [] E0 (Z (U 3) (Z (aQ aH (U 2) (L (.int 1))) zf))) (zm 4))
  (zA (tIf (zu (aQ sX (U 4) (sM (xw K) (Z (U 3) zf)))) (L .non) (aQ (yA K) (U 3) (U 4)))))
def qZ(K:bw)(t:mt):TS:=wZ (xc K (tSl (KS K) (U 3) (vZ (zG yy [] E0 (Z (U 3) (Z (aQ aH (U 2) (L (.int 1))) zf)))) (vZ (U 5)))) (zm 6)
   (jG (zK K (U 0) "doubted") (U 6) (L (.bl ah)))
def YN:TS:=zj (zE (vA (zK K (U 0) "readers") (U 1) (xu zf)) (zm 3))
  (zj (zE (zN t.q02 "next_above" (xt t) [] E0 (zK K (U 0) "makes") (Z (U 1) (Z (U 2) zf))) (zm 4))
  (zj (zE (tIf (zu (aQ zf7 (U 4) (L .non))) (sM (xw K) (Z (U 3) zf)) (zG yy [] E0 (Z (U 3) (Z (aQ aH (U 4) (L (.int 1))) zf)))) (zm 5))
  (qZ K t)))
def kT:TS:=zj (zE (zN t.q02 "places_of" (yo t) [] E0 (zK K (U 0) "makes") (Z (U 1) zf)) (zm 3))
  (zj (zT (zN t.q02 "lay" (XJ t) [] E0 (zK K (U 0) "makes") (Z (U 1) (Z (aQ (yp K) (U 2) (L (.int 2))) zf))))
  (zj (wZ (xc K (aQ zac (U 3) (zN t.q02 "places_of" (yo t) [] E0 (zK K (U 0) "makes") (Z (U 1) zf)))) (zm 4)
    (zT (zN t.q03 "doubt" (YC t) [] E0 (U 0) (Z (U 4) (Z (U 1) zf)))))
  (zj (jG (zK K (U 0) "laid") (U 1) (U 2))
  (zj (jG (zK K (U 0) "doubted") (U 1) (L (.bl ah)))
  (wZ (xc K (aQ (yp K) (U 2) (L (.int 1)))) (KI K 2 (wY (zm 4) (wY (zm 5) KH)))
   (zT (zG vg [] E0 (Z (zK K (U 0) "readers") (Z (U 4) (Z (U 1) zf))))))))))
def ZO(K:bw)(t:mt):TS:=zj (zF (zu (aQ VB (zK K (U 0) "why") (L .non)))
   (zA (yz (Z (yz (Z (L (.str "off")) (Z (zK K (U 0) "why") zf))) (Z (U 1) (Z (xu zf) zf)))))
   zy)
  (zA (yz (Z (yz (Z (L (.str "done")) (Z (sM (zix K) (Z (zK K (U 0) "sayings") zf)) zf))) (Z (U 1) (Z (sM zeS (Z (Qn (zK K (U 0) "gifts")) zf)) zf)))))
def ZP:TS:=zj (zE (sM zeN (Z (Qn (zK K (U 0) "notes")) zf)) (zm 1))
  (ZO K t)
def qN:TS:=zj (zF (jZ (tB (zN t.q00 "over" (yO t) [] E0 (U 0) zf)))
   (zA (L .non))
   zy)
  (ZP K t)
def ZQ:TS:=zj (zT (KY (zK K (U 0) "held") (U 1)))
  (zj (zT (zN t.q03 "lay_down" (kP t) [] E0 (zK K (U 0) "jobs") (Z (U 2) (Z (zN t.q00 "paper" (vR t) [] E0 (U 3) zf) zf))))
  (zA (yz (Z (L (.str "lay")) (Z (U 1) (Z (U 2) zf))))))
def ZR:TS:=zj (zE (zN t.q00 "asks" (jR t) [] E0 (U 3) zf) (zm 4))
  (zj (zF (zu (aQ zf7 (U 4) (L .non)))
    (zj (zT (zN t.q00 "step" (xU t) [.int 0] E0 (U 3) zf))
  (zA (yz (Z (L (.str "step")) (Z (U 1) (Z (U 2) zf))))))
   zy)
  (zj (zE (zN t.q02 "seen" (ko t) [] E0 (zK K (U 0) "makes") (Z (U 4) (Z (U 2) zf))) (zm 5))
  (zj (zT (zN t.q00 "step" (xU t) [] E0 (U 3) (Z (U 5) zf)))
  (zA (yz (Z (L (.str "read")) (Z (U 1) (Z (U 2) (Z (U 4) (Z (U 5) zf))))))))))
def V0:TS:=zj (zE (aQ (yp K) (v0 (zK K (U 0) "held") (U 1)) (L (.int 0))) (zm 2))
  (zj (zE (aQ (yp K) (v0 (zK K (U 0) "held") (U 1)) (L (.int 1))) (zm 3))
  (zj (zF (tB (zN t.q00 "over" (yO t) [] E0 (U 3) zf))
    (ZQ K t)
    zy)
  (ZR K t)))
def XN:TS:=zj (zF (tOr (zu (aQ aJ (U 1) (L (.int 0)))) (zu (aQ (rI0 λi j=>.bl (decide (j<=i))) (U 1) (zK K (U 0) "hands"))))
   KG
   zy)
  (zj (zF (zu (aQ (Qj ah) (U 1) (zK K (U 0) "held")))
    (zA (zN t.q01 "moved_free" (xI t) [] E0 (U 0) (Z (U 1) zf)))
    zy)
  (V0 K t))
def ZS:TS:=zj (zE (xu zf) (zm 1))
  (zj (zbv (zu (aQ aJ (zN t.q01 "settled" (xC t) [] E0 (U 0) zf) (zN t.q01 "next_rank" (wA t) [] E0 (U 0) zf))) (zT (tBM K "list" ya (U 1) (Z (zN t.q01 "move" (vV t) [] E0 (U 0) (Z (aQ aG (sM (xw K) (Z (U 1) zf)) (zK K (U 0) "hands")) zf)) zf))))
  (zA (U 1)))
def qO(K:bw)(t:mt):TS:=zj (zE (aQ aG (U 0) (L (.int 5))) (zm 2))
  (zj (zF (zu (aQ aJ (U 2) (L (.int 2))))
    (zA (yz (Z (aQ aG (aQ aI (U 0) (L (.int 5))) (L (.int 3))) zf)))
    zy)
  (zj (zF (zu (aQ sX (U 2) (L (.int 2))))
    (zA (yz (Z (aQ (yA K) (U 1) (aQ aG (aQ aI (U 0) (L (.int 5))) (L (.int 2)))) zf)))
    zy)
  (zj (zF (Jn (zu (aQ sX (U 2) (L (.int 3)))) (zu (aQ sX (aQ aG (aQ aI (U 0) (L (.int 10))) (L (.int 3))) (L (.int 0)))))
    (zA (yz (Z (L (.int 7)) (Z (aQ (yA K) (U 1) (aQ aG (aQ aI (U 0) (L (.int 30))) (L (.int 2)))) (Z (L (.str "over")) zf)))))
    zy)
  (zj (zF (zu (aQ sX (U 2) (L (.int 3))))
    (zA (yz (Z (aQ (yA K) (U 1) (aQ aG (aQ aI (U 0) (L (.int 5))) (L (.int 2)))) (Z (L (.int 3)) (Z (L (.str "rest")) zf)))))
    zy)
  (zA (yz (Z (zG yX [] E0 (Z (aQ aI (U 0) (L (.int 5))) zf)) zf)))))))
def qP(K:bw)(t:mt):TS:=zj (zE (xu (Z (L (.str "plus")) (Z (L (.str "minus")) (Z (L (.str "times")) (Z (L (.str "over")) (Z (L (.str "rest")) (Z (L (.str "under")) (Z (L (.str "same")) zf)))))))) (zm 2))
  (zj (zE (aQ aG (U 0) (L (.int 9))) (zm 3))
  (zj (zF (zu (aQ sX (U 3) (L (.int 0))))
    (zA (yz (Z (zG yX [] E0 (Z (aQ aI (U 0) (L (.int 9))) zf)) zf)))
    zy)
  (zj (zF (zu (aQ sX (U 3) (L (.int 1))))
    (zA (yz (Z (aQ (yA K) (U 1) (aQ aG (aQ aI (U 0) (L (.int 9))) (L (.int 2)))) zf)))
    zy)
  (zj (zF (zu (aQ sX (aQ aG (aQ aI (U 0) (L (.int 9))) (L (.int 2))) (L (.int 0))))
    (zA (yz (Z (aQ (yA K) (U 1) (aQ aG (aQ aI (U 0) (L (.int 18))) (L (.int 2)))) (Z (zG yX [] E0 (Z (aQ aI (U 0) (L (.int 36))) zf)) (Z (aQ (yA K) (U 2) (aQ aK (U 3) (L (.int 2)))) zf)))))
    zy)
  (zA (yz (Z (aQ (yA K) (U 1) (aQ aG (aQ aI (U 0) (L (.int 18))) (L (.int 2)))) (Z (aQ (yA K) (U 1) (aQ aG (aQ aI (U 0) (L (.int 36))) (L (.int 2)))) (Z (aQ (yA K) (U 2) (aQ aK (U 3) (L (.int 2)))) zf)))))))))
def kA(K:bw)(t:mt):TS:=zj (zF (zu (aQ aJ (U 3) (L (.int 4))))
   (zA (yz (Z (L (.str "take")) (Z (U 4) (Z (U 6) (Z (U 5) zf))))))
   zy)
  (zj (zF (zu (aQ aJ (U 3) (L (.int 7))))
    (zA (yz (Z (L (.str "give")) (Z (U 4) (Z (U 6) (Z (U 7) zf))))))
    zy)
  (zj (zF (zu (aQ sX (U 3) (L (.int 7))))
    (zA (yz (Z (L (.str "let")) (Z (U 5) (Z (U 7) zf)))))
    zy)
  (zj (zF (zu (aQ sX (U 3) (L (.int 8))))
    (zA (yz (Z (L (.str "say")) (Z (U 7) zf))))
    zy)
  (zA (yz (Z (L (.str "off")) (Z (yz (Z (U 5) (Z (aQ aH (aQ aG (aQ (yA K) (U 0) (L (.int 1))) (L (.int 3))) (L (.int 1))) (Z (L (.str "same")) zf)))) zf)))))))
def ZU:TS:=zj (zE (aQ aG (aQ (yA K) (U 0) (L (.int 0))) (L (.int 10))) (zm 3))
  (zj (zE (aQ (yA K) (U 1) (aQ aG (aQ aI (aQ (yA K) (U 0) (L (.int 0))) (L (.int 10))) (L (.int 2)))) (zm 4))
  (zj (zE (aQ (yA K) (U 2) (aQ aG (aQ aI (aQ (yA K) (U 0) (L (.int 0))) (L (.int 20))) (L (.int 2)))) (zm 5))
  (zj (zE (zG qE [] E0 (Z (aQ (yA K) (U 0) (L (.int 1))) (Z (U 2) zf))) (zm 6))
  (zj (zE (zG vT [] E0 (Z (aQ (yA K) (U 0) (L (.int 2))) (Z (U 2) zf))) (zm 7))
  (kA K t)))))
def jt(K:bw)(t:mt):TS:=zj (zF (zu (aQ sX (aQ aG (aQ aI (U 0) (L (.int 7))) (L (.int 3))) (L (.int 0))))
   (zj (zE (aQ aG (aQ (yA K) (U 3) (L (.int 18))) (aQ aH (sM (xw K) (Z (U 4) zf)) (L (.int 1)))) (zm 5))
  (zj (zE (aQ aH (U 5) (aQ aG (aQ (yA K) (U 3) (L (.int 21))) (aQ aK (aQ aH (sM (xw K) (Z (U 4) zf)) (L (.int 1))) (U 5)))) (zm 6))
  (zj (zE (yz (Z (L (.str "if")) (Z (zG vT [] E0 (Z (aQ (yA K) (U 3) (L (.int 19))) (Z (U 2) zf))) (Z (tSl (KS K) (U 4) (vZ (U 5)) (vZ (U 6))) (Z (tSl (KS K) (U 4) qc (vZ (aQ aG (aQ (yA K) (U 3) (L (.int 20))) (L (.int 3))))) zf))))) (zm 7))
  (zE (aQ zac (aQ zac (tSl (KS K) (U 4) qc (vZ (U 5))) (xu (Z (U 7) zf))) (tSl (KS K) (U 4) (vZ (U 6)) qc)) (zm 4)))))
   zy)
  (zA (U 4))
def XO:TS:=zj (zE (zG xa [] E0 (Z (U 0) (Z (L (.int 22)) zf))) (zm 3))
  (zj (zE (kI (WF (Z (aQ aG (U 0) (L (.int 7))) zf)) (zm 0) Vy (zG ZG [] E0 (Z (tSl (KS K) (U 1) (vZ (aQ aL (L (.int 3)) (U 0))) (vZ (aQ aH (aQ aL (L (.int 3)) (U 0)) (L (.int 3))))) (Z (U 2) (Z (U 3) zf)))) 1 [3,1,2]) (zm 4))
  (jt K t))
def WX:TS:=zj (zE (zN t.q01 "next_rank" (wA t) [] E0 (U 0) zf) (zm 2))
  (zj (zT (tBM K "list" ya (zK K (U 0) "codes") (Z (sM (zen K) (Z (U 1) zf)) zf)))
  (zj (zT (tBM K "list" ya (zK K (U 0) "waiting") (Z (U 2) zf)))
  (zA (U 2))))
def V1(K:bw)(t:mt):TS:=zF (zu (aQ aJ (U 4) (U 3)))
   (wZ (xc K (v0 (U 1) (U 4))) (KI K 2 (wY (zm 5) (wY (zm 6) KH)))
   (zF (zu (aQ (zgm K aq) (U 5) (U 2)))
   (zA (U 6))
   zy))
   zy
def ZV(K:bw)(t:mt):TS:=zj (wZ (xc K (U 0)) (KI K 2 (wY (zm 5) (wY (zm 6) KH)))
   (zF (zu (aQ (zgm K aq) (U 5) (U 2)))
   (zA (U 6))
   zy))
  (zA (L (.int 0)))
def XQ:TS:=zj (wZ (xc K (sM zhk (Z (U 1) zf))) (zm 4)
   (V1 K t))
  (ZV K t)
def kB(K:bw)(t:mt)(n:Nat):TS:=zj (zF (tOr (tB (sM (jD K) (Z (U 1) (Z (L (.ty "list")) zf)))) (tB (sM (jD K) (Z (U 1) (Z (L (.ty "tuple")) zf)))))
   (zj (zF (Jn (jZ (tB (sM (jD K) (Z (U 0) (Z (L (.ty "list")) zf))))) (jZ (tB (sM (jD K) (Z (U 0) (Z (L (.ty "tuple")) zf))))))
   (zA (L (.bl aq)))
   zy)
  (zj (zF (tOr (zu (aQ rNe (sM (jD K) (Z (U 0) (Z (L (.ty "list")) zf))) (sM (jD K) (Z (U 1) (Z (L (.ty "list")) zf))))) (zu (aQ rNe (sM (xw K) (Z (U 0) zf)) (sM (xw K) (Z (U 1) zf)))))
    (zA (L (.bl aq)))
    zy)
  (zj (wZ (ziw K (Z (U 0) (Z (U 1) zf))) (KI K 2 (wY (zm 2) (wY (zm 3) KH)))
    (zF (jZ (tB (zG (yQ  n) [] E0 (Z (U 2) (Z (U 3) zf)))))
    (zA (L (.bl aq)))
    zy))
  (zA (L (.bl ah))))))
   zy)
  (zj (zF (tB (sM (jD K) (Z (U 1) (Z (L (.ty "str")) zf))))
    (zA (Q5 (sM (jD K) (Z (U 0) (Z (L (.ty "str")) zf))) (aQ sX (U 0) (U 1))))
    zy)
  (zA (Q5 (sM (jD K) (Z (U 0) (Z (L (.ty "int")) zf))) (Q5 (zg3 (sM (jD K) (Z (U 0) (Z (L (.ty "bool")) zf)))) (aQ sX (U 0) (U 1))))))
def vo(K:bw)(t:mt):TS:=zj (zF (zu (aQ zf7 (U 6) (L .non)))
   (zj (zT (zN t.q00 "step" (xU t) [.int 0] E0 (U 3) zf))
  (zA (zG (yQ  3) [] E0 (Z (U 0) (Z (yz (Z (L (.str "step")) (Z (U 1) (Z (U 2) zf)))) zf)))))
   zy)
  (zj (zE (zG (qH ) [] E0 (Z (U 4) (Z (U 5) (Z (U 6) (Z (U 2) zf))))) (zm 7))
  (zj (zT (zN t.q00 "step" (xU t) [] E0 (U 3) (Z (U 7) zf)))
  (zA (zG (yQ  3) [] E0 (Z (U 0) (Z (yz (Z (L (.str "read")) (Z (U 1) (Z (U 2) (Z (U 6) (Z (U 7) zf)))))) zf))))))
def ZW:TS:=zj (zE (zN t.q00 "asks" (jR t) [] E0 (U 3) zf) (zm 6))
  (vo K t)
def ju:TS:=zj (zF (tB (zN t.q00 "over" (yO t) [] E0 (U 3) zf))
   (zj (jG (U 5) (U 2) (aQ (yp K) (zN t.q00 "paper" (vR t) [] E0 (U 3) zf) (L (.int 2))))
  (zA (zG (yQ  3) [] E0 (Z (U 0) (Z (yz (Z (L (.str "lay")) (Z (U 1) (Z (U 2) zf)))) zf)))))
   zy)
  (ZW K t)
def vp(K:bw)(t:mt):TS:=zA (Q5 (KL (rI0 λi j=>.bl (decide (i<=j))) aJ (L (.int 0)) (aQ aK (aQ (yp K) (U 0) (L (.int 2))) (U 3)) (U 2)) (aQ sX (sM (xw K) (Z (U 0) zf)) (aQ (yA K) (xu (Z (L (.int 3)) (Z (L (.int 6)) zf))) (sM zhd (Z (aQ sX (aQ (yp K) (U 0) (L (.int 0))) (L (.str "again"))) zf)))))
def vq:TS:=zj (zF (tOr (zu (aQ aJ (sM (xw K) (Z (U 0) zf)) (L (.int 3)))) (tOr (jZ (tB (sM (jD K) (Z (aQ (yp K) (U 0) (L (.int 2))) (Z (L (.ty "int")) zf))))) (tB (sM (jD K) (Z (aQ (yp K) (U 0) (L (.int 2))) (Z (L (.ty "bool")) zf))))))
   (zA (L (.bl aq)))
   zy)
  (vp K t)
def vt:TS:=zj (zF (zu (aQ sX (aQ (yp K) (U 0) (L (.int 0))) (L (.str "rest"))))
   (zA (aQ sX (sM (xw K) (Z (U 0) zf)) (L (.int 2))))
   zy)
  (vq K t)
def vx:TS:=zj (zF (tOr (zu (aQ (rIn K ah) (aQ (yp K) (U 0) (L (.int 0))) (yz (Z (L (.str "settle")) (Z (L (.str "again")) (Z (L (.str "take")) (Z (L (.str "rest")) zf))))))) (jZ (tB (zG (yQ  3) [] E0 (Z (aQ (yp K) (U 0) (L (.int 1))) (Z (U 1) zf))))))
   (zA (L (.bl aq)))
   zy)
  (vt K t)
def xN:TS:=zj (zF (tOr (jZ (tB (sM (jD K) (Z (U 0) (Z (L (.ty "tuple")) zf))))) (tOr (zu (aQ aJ (sM (xw K) (Z (U 0) zf)) (L (.int 2)))) (jZ (tB (sM (jD K) (Z (aQ (yp K) (U 0) (L (.int 0))) (Z (L (.ty "str")) zf)))))))
   (zA (L (.bl aq)))
   zy)
  (vx K t)
def vy:TS:=zj (zcD (U 4) (U 1) (WI t.q00 (ZD t) [] E0 (Z (aQ (yA K) (U 2) (aQ aK (aQ (yp K) (U 0) (L (.int 2))) (U 3))) zf)))
  (zcD (U 5) (U 1) (aQ (yp K) (U 0) (L (.int 2))))
def vz:TS:=zj (zE (aQ (yA K) (U 4) (U 1)) (zm 8))
  (zj (zF (tB (zN t.q00 "over" (yO t) [] E0 (U 8) zf))
    (zcD (U 4) (U 1) (L .non))
    zy)
  (zA (zG (y6 t) [] E0 (Z (U 0) (Z (U 1) (Z (aQ (yA K) (U 5) (U 1)) (Z (U 8) (Z (U 6) (Z (U 7) zf)))))))))
def ZX:TS:=zj (zF (jZ (tB (zG xJ [] E0 (Z (U 0) (Z (U 1) (Z (sM (xw K) (Z (U 2) zf)) (Z (U 3) zf)))))))
   (zA (L (.bl aq)))
   zy)
  (zj (zF (zu (aQ sX (aQ (yp K) (U 0) (L (.int 0))) (L (.str "take"))))
    (vy K t)
    zy)
  (zA (L (.bl ah))))
def jv:TS:=zj (zF (zu (aQ VB (aQ (yA K) (U 4) (U 1)) (L .non)))
   (vz K t)
   zy)
  (ZX K t)
def zfd(K:bw)(t:mt):TS:=zj (zF (jZ (tB (zG (yH t) [] E0 (Z (U 18) (Z (U 15) (Z (U 10) (Z (U 7) (Z (U 11) (Z (U 12) (Z (U 3) (Z (U 13) zf)))))))))))
   (zA (L (.bl aq)))
   zy)
  (zE (aQ aG (aQ aH (U 15) (L (.int 1))) (U 5)) (zm 15))
def zfe:TS:=zj (zT (tBM K "list" ya (U 10) (Z (U 17) zf)))
  (zT (zN t.q01 "add" (jS t) [] E0 (U 8) (Z (U 17) zf)))
def zaT:TS:=zj (zE (L (.int 0)) (zm 15))
  (wZ (xc K (zN t.q01 "finish" (jj t) [] E0 (U 8) zf)) (zm 18)
   (zfd K t))
def zaU(K:bw)(t:mt):TS:=zj (zE (aQ aG (aQ aI (U 14) (L (.int 7))) (U 5)) (zm 15))
  (zF (jZ (tB (zG (yH t) [] E0 (Z (zN t.q01 "move" (vV t) [] E0 (U 8) (Z (U 15) zf)) (Z (U 15) (Z (U 10) (Z (U 7) (Z (U 11) (Z (U 12) (Z (U 3) (Z (U 13) zf)))))))))))
   (zA (L (.bl aq)))
   zy)
def zaV:TS:=zj (wZ (xc K (U 16)) (zm 17)
   (zfe K t))
  (zaT K t)
def zff:TS:=zj (zF (Jn (zu (aQ aJ (aQ aG (U 14) (L (.int 7))) (L (.int 2)))) (zu (aQ aJ (sM (xw K) (Z (U 10) zf)) (U 9))))
   (zj (zT (tBM K "list" ya (U 10) (Z (aQ (yA K) (U 4) (sM (xw K) (Z (U 10) zf))) zf)))
  (zT (zN t.q01 "add" (jS t) [] E0 (U 8) (Z (aQ (yA K) (U 10) (tUn (rU λi=>.int (-i)) (L (.int 1)))) zf))))
   zy)
  (zaU K t)
def Ko:TS:=zA (aQ sX (zN t.q01 "settled" (xC t) [] E0 (U 8) zf) (aQ aH (U 7) (sM (xw K) (Z (U 4) zf))))
def Kq:TS:=zj (wZ (xc K (xu (Z (xu zf) (Z (tSl (KS K) (U 4) (vZ (sM (xw K) (Z (U 10) zf))) qc) zf)))) (zm 16)
   (zaV K t))
  (Ko K t)
def Kr:TS:=zj (wZ (xc K (U 0)) (zm 14)
   (zff K t))
  (Kq K t)
def zdC:TS:=zj (zE Zg (zm 13))
  (Kr K t)
def zdD:TS:=zj (zE (kI (WF (Z (U 5) zf)) (zm 0) Vy (L .non) 1 []) (zm 11))
  (zj (zE (kI (WF (Z (U 5) zf)) (zm 0) Vy (L (.int 0)) 1 []) (zm 12))
  (zdC K t))
def zaW:TS:=zj (zE (aQ aG (aQ aI (zG (zU K) [] E0 (Z (U 0) (Z (L (.int 2)) zf))) (L (.int 7))) (aQ aH (sM (xw K) (Z (U 4) zf)) (L (.int 1)))) (zm 9))
  (zj (zE (xu zf) (zm 10))
  (zdD K t))
def zaX:TS:=zj (zF (zu (aQ sX (aQ aG (aQ aI (zG (zU K) [] E0 (Z (U 0) (Z (L (.int 0)) zf))) (L (.int 16))) (L (.int 2))) (L (.int 0))))
   (zE (WI t.q01 (wz t) [.int 0] E0 (Z (sM (zen K) (Z (U 3) zf)) (Z (U 5) (Z (U 6) zf)))) (zm 8))
   (zj (zE (aQ aG (aQ (rI CMulC λi j=>.int (i*j)) (aQ aI (zG (zU K) [] E0 (Z (U 0) (Z (L (.int 0)) zf))) (L (.int 32))) (aQ (rI KJ λi j=>.int (i^j.toNat)) (L (.int 1000000007)) (L (.int 3)))) (aQ aK (aQ (rI KJ λi j=>.int (i^j.toNat)) (L (.int 10)) (L (.int 29))) (L (.int 300)))) (zm 7))
  (zE (WI t.q01 (wz t) [] E0 (Z (sM (zen K) (Z (U 3) zf)) (Z (U 5) (Z (U 6) (Z (U 7) zf))))) (zm 8))))
  (zaW K t)
def zaY:TS:=zj (zE (aQ aH (L (.int 1)) (aQ aG (zG (zU K) [] E0 (Z (U 0) (Z (L (.int 0)) zf))) (L (.int 8)))) (zm 5))
  (zj (zE (zb2 t.q0a) (zm 6))
  (zj (zF (zu (aQ sX (aQ aG (aQ aI (zG (zU K) [] E0 (Z (U 0) (Z (L (.int 0)) zf))) (L (.int 8))) (L (.int 2))) (L (.int 1))))
    (zE (zb2 t.q0e) (zm 6))
    zy)
  (zj (zE (L (.int 0)) (zm 7))
  (zaX K t))))
def zaZ:TS:=zj (zE (kI (xc K (tSl (KS K) (U 0) (vZ (L (.int 3))) (vZ (L (.int 7))))) (zm 0) Vy (zG Y5 [] E0 (Z (zG qF [] E0 (Z (U 0) (Z (U 1) (Z (U 2) zf)))) zf)) 1 [1,2]) (zm 4))
  (zaY K t)
def zfg:TS:=zj (zE (zG vS [] E0 (Z (zG (zU K) [] E0 (Z (U 0) (Z (L (.int 1)) zf))) zf)) (zm 1))
  (zj (zE (zG vS [] E0 (Z (zG (zU K) [] E0 (Z (U 0) (Z (L (.int 2)) zf))) zf)) (zm 2))
  (zj (zE (zG ki [] E0 (Z (aQ aI (zG (zU K) [] E0 (Z (U 0) (Z (L (.int 1)) zf))) (L (.int 7))) (Z (U 1) zf))) (zm 3))
  (zaZ K t)))
end
section
variable {K:bw}{t:mt}{H:B}{Q:VK}
theorem zfh{j:Int}(h0:0<=j)(h1:j<=100):KJ 10 j:=⟨h0,(),()⟩
theorem y7(h:n<=100000):n<=Bb:=bP h ()
theorem xA(T:String):fP K (.type T) (.type T)=aa ah:=by
 unfold fP;rw[au (by simp)]
theorem kf(K:bw):KF K:=⟨by with_unfolding_all rfl,by with_unfolding_all rfl,by with_unfolding_all rfl,by with_unfolding_all rfl,by with_unfolding_all rfl,by with_unfolding_all rfl,by with_unfolding_all rfl,by with_unfolding_all rfl⟩
theorem dB{i j:Int}(h0:0<j:=by lia)(h1:j<10000000000000000000000000000000000000000000000:=by lia):yq i j:=by
 have hb:(10000000000000000000000000000000000000000000000:Int)<big:=by lia
 exact⟨h0,()⟩
theorem za0{α:Type}{xs:List α}{i:Int}(h0:0<=i)(h1:i<xs.length):∃x,tL xs i=aa x/\x∈xs:=by
 obtain⟨n,rfl⟩:∃n:Nat,i=(n:Int):=⟨i.toNat,()⟩;have hn:n<xs.length:=by lia
 refine⟨xs[n],?_,eS hn⟩;unfold tL ixN;rw[au h0,au h1];simp[hn]
theorem zhW{α:Type}{xs:List α}(e:Int)(n:Nat)(hl:xs.length=n)(hn:0<(n:Int)):∃x,tL xs (e%n)=aa x/\x∈xs :=
 za0 (cO _ ()) (by rw[hl];exact cy _ hn)
theorem Qt{i:Int}(hK:zgx K)(q:∀H',aP H H'->Q (.bl (sQ i)) H') :
  ZK K t (sJ Q) (L2.start ["thing"] [.int i]) H:=by
 simp only[ZK,L2.start,zj,zA,zy,aQ,tUn,U,L,Z,zf,zF,tOr,jZ,tB,sM,KL,rI,rI0,rU,jD,cY,cf,cp,b9,br,bI,av,V.int.injEq,V.bl.injEq,V.ty.injEq,bX,and_true,and_assoc,aw,cG,cz,decide_eq_true_eq,dU,Int.reduceToNat,Int.reducePow,Int.reduceNeg,if_true];have q:=q H (aP.refl H);refine⟨_,.int i,ah,xA _,?_⟩;rw[ap ()];refine⟨_,.int i,aq,hK,?_⟩;rw[ap ()];refine⟨zfh () (),xl (λc=>⟨zfh () (),?_⟩) λc=>?_⟩
 ·have e:sQ i=decide (i<=1000000000000000000000000000000):=by
   unfold sQ;by_cases h:i<=1000000000000000000000000000000
   ·rw[Bj h,Bj ⟨c,h⟩]
   ·rw[Bk h,Bk λz=>h z.2]
  rw[e] at q;exact q
 ·have e:sQ i=aq:=Bk λz=>c z.1;rw[e] at q;exact q
theorem za1{vs:List V}{E:XK}(h:qB t vs H Q E) :
  Y9 K t E (sJ Q) (L2.start ["word","first","second"] vs) H:=by
 obtain⟨w,a,b,rfl,hw,ha,hb,q⟩:=h;simp only[Y9,L2.start,VD,zaq,zj,zA,zy,aQ,U,L,Z,zf,zF,zu,tIf,sX,rI,zc8,cY,cf,cp,b9,br,bH,bI,av,V.int.injEq,V.str.injEq,V.bl.injEq,true_and,aw,cG,cz,decide_eq_true_eq];have q:=q H (aP.refl H);have Bo:=Qf hb;refine xl (λc=>?_) λc=>?_
 ·rw[au c] at q;exact⟨(),λy=>⟨(),q⟩⟩
 ·rw[ap c] at q;refine xl (λe=>?_) λe=>?_
  ·rw[au e] at q;exact⟨⟨c,Bo⟩,q⟩
  ·rw[ap e] at q;exact⟨c,q⟩
theorem za2{vs:List V}{E:XK}(h:qC t vs H Q E) :
  Xa K t E (sJ Q) (L2.start ["word","first","second"] vs) H:=by
 obtain⟨w,a,b,rfl,hw,ha,hb,q⟩:=h;simp only[Xa,qB,L2.start,zj,zA,zy,aQ,U,L,Z,zf,zF,zu,tIf,zG,sX,rI,rI0,zc8,cY,cf,cp,b9,br,bH,bI,av,V.int.injEq,V.str.injEq,V.bl.injEq,bX,and_true,true_and,and_assoc,aw,cG,cz,decide_eq_true_eq];have A:=Qf ha;have Bo:=Qf hb;have nd:¬ VG w->Q (.int (jI w a b)) H:=λh=>by
  have q:=q H (aP.refl H);rw[ap λz=>h z.1] at q;exact q
 refine xl (λc=>?_) λc1=>xl (λc=>?_) λc2=>xl (λc=>⟨⟨A,Bo⟩,?_⟩) λc3=>xl (λc=>?_) λc4=>xl (λc=>?_) λc5=>⟨hw,ha,hb,λH' s=>?_⟩
 ·subst c;have q:=nd λz=>z.1 rfl;exact q
 ·subst c;have q:=nd λz=>z.2.1 rfl;rw[show jI "minus" a b=a-b by unfold jI;rw[ap c1,au rfl]] at q;exact q
 ·subst c;have q:=nd λz=>z.2.2.1 rfl;rw[show jI "times" a b=a*b by unfold jI;rw[ap c1,ap c2,au rfl]] at q;exact q
 ·subst c;have q:=nd λz=>z.2.2.2.1 rfl;rw[show jI "under" a b=if a<b then 1 else 0 by unfold jI;rw[ap c1,ap c2,ap c3,au rfl]] at q;refine xl (λd=>?_) λd=>?_
  ·rw[au d] at q;exact q
  ·rw[ap d] at q;exact q
 ·subst c;have q:=nd λz=>z.2.2.2.2 rfl;rw[show jI "same" a b=if a=b then 1 else 0 by unfold jI;rw[ap c1,ap c2,ap c3,ap c4,au rfl]] at q;refine xl (λd=>?_) λd=>?_
  ·rw[au d] at q;exact q
  ·rw[ap d] at q;exact q
 ·have q:=q H' s;have hd:VG w:=⟨c1,c2,c3,c4,c5⟩;refine xl (λd=>?_) λd=>?_
  ·rw[au ⟨hd,d⟩] at q;exact q
  ·rw[ap λz=>d z.2] at q;unfold jI at q;rw[ap c1,ap c2,ap c3,ap c4,ap c5] at q;exact q
theorem zb4{vs:List V}{E:XK}(h:Yd t vs H Q E) :
  Wu K t E (sJ Q) (L2.start ["word","first","second","worth"] vs) H:=by
 obtain⟨w,a,b,rfl,hw,ha,hb,q⟩:=h;simp only[Wu,qC,ZA,L2.start,VD,zaq,zj,zE,zm,zA,zy,U,Z,zf,zF,jZ,tB,zG,cY,cf,cp,cL,dh,b9,br,bH,bI,av,V.int.injEq,V.str.injEq,V.bl.injEq,bX,and_true,and_assoc,aw,cH,cX,cG,cz,dU];refine⟨hw,ha,hb,λH1 s1=>xl (λc=>?_) λc H2 s2=>xl (λd=>?_) λd=>?_⟩
 ·have q:=q H1 s1;unfold v6 at q;rw[au c] at q;exact q
 ·have q:=q H2 (s1.trans s2);unfold v6 at q;rw[ap c,ap (by rw[d];decide)] at q;exact⟨(),λy=>⟨(),q⟩⟩
 ·have q:=q H2 (s1.trans s2);unfold v6 at q;rw[ap c,au (by simpa using d)] at q;exact q
theorem za3{xs:List V} :(xs++[y])[(xs++[y]).length-1]?=aa y:=by simp
theorem Wv{xs:List V} :(xs++[y]).dropLast=xs:=by simp
theorem y9{H H':B}(s:aP H H')(hw:H w=ao):aP H (upd H' w o):=λb u e=>by rw[zh (zo e hw)];exact s b u e
theorem zhX(st:List Int):(∃l a b,st=l++[a,b])\/∀aO v,isJ v=ah->wF aO st v=.error .stuck:=by
 cases h:st.reverse with
 |nil =>
  refine .inr λaO v hv=>?_;unfold wF;rw[hv,au Y,h];split <;> rename_i e1 e2 <;> first|rfl|cases e2
 |cons b r =>
  cases r with
  |nil =>
   refine .inr λaO v hv=>?_;unfold wF;rw[hv,au Y,h];split <;> rename_i e1 e2 <;> first|rfl|cases e2
  |cons a r =>
   refine .inl ⟨r.reverse,a,b,?_⟩;have:=congrArg List.reverse h;rw[List.reverse_reverse] at this;rw[this];simp
theorem zfi{aO:List (bv×V)}{l:List Int}{a b:Int}{w:Str}(hw:isJ (.str w)=ah):wF aO (l++[a,b]) (.str w)=match v6 w a b with|.ok c=>.ok (l++[c])|.error e=>.error e:=by
 unfold wF;rw[hw,au rfl];simp only[oS,pR,rE,dh,cL];cases v6 w a b with
 |error e=>rfl
 |ok c=>simp
def rkI(aO:List (bv×V))(ps:List V)(tm sl w:ac)(H:B)(i:Nat)(σ:St)(H':B):Prop:=∃st,(∃o3 o4 o5,σ=[aa (.ref tm),aa (.ref sl),aa (.ref w),o3,o4,o5])/\ve aO (ps.take i) []=.ok st/\(∀x∈st,sQ x=ah)/\st.length<=i/\H' w=aa (.lst (st.map V.int))/\aP H H'
theorem Qu{E:XK}{aO:List (bv×V)}{tm sl:ac}{ps:List V}{r:Except Er Int}(hK:fP K (.type "int") (.type "str")=aa aq)(hJ:∀H:B,sI K H t.q0r jw)(h1:H tm=aa (.tup ps))(h2:H sl=aa (.dK aO))(h3:Good aO ps r)(h4:∀v∈ps,qm v)(h5:ps.length<=1000)(h6:yS aO)
  (q:∀H',aP H H'->fin t r Q E H'):ZL K t E (sJ Q) (L2.start ["term","slots","worths","part","second","first"] [.ref tm,.ref sl]) H:=by
 simp only[ZL,L2.start,Zj,zf3,zj,zE,zm,zA,U,xu,zf,wZ,zdg,tyV,zhv,cY,cf,cp,cL,dh,br,bI,av,V.ref.injEq,true_and,aw,cH,cX,cG,cz];refine⟨(),λw hw=>⟨⟨_,sI.of ((sN w hw) _ _ h1)⟩,?_⟩⟩;have run0:=h3.1 [];have fe:∀ {e:Er} {H':B},ve aO ps []=.error e->aP H H'->fin t (.error e) Q E H':=λ{e H'} z s=>by
  rw[z] at run0;cases r with
  |ok i=>cases run0
  |error e' =>
   cases run0;exact q _ s
 have ns:ve aO ps []≠.error .stuck:=λz=>by
  rw[z] at run0;cases r with
  |ok i=>cases run0
  |error e' =>
   cases run0;exact h3.2 rfl
 refine zee ps (rkI aO ps tm sl w H) ⟨[],⟨_,_,_,Y⟩,Y,(λx z=>nomatch z),bp _,ze,sN w hw⟩ (λi σ H' ⟨st,a,b,c,d,e,s⟩=>sI.of (s _ _ h1)) ?_ ?_
 ·rintro i v σ H' hv ⟨st,⟨o3,o4,o5,rfl⟩,hr,hW,hl,hst,hS⟩;have hi:i<ps.length:=(bn.mp hv).1;have one:=zgg hr hv;have ok:=h4 v (bV hv);have fl:Xn v=ah:=by rcases ok with ⟨j,rfl,_⟩|⟨x,rfl,_⟩ <;> rfl
  simp only[YI,aQ,U,L,zF,zu,rIn,br,bH,bI,av,V.ref.injEq,V.bl.injEq,aw,cH,cX,cE,ite_false];refine⟨jw,.inr (hJ H'),fl,Y,xl (λc=>?_) λc=>?_⟩
  ·simp only[YG,Yd,ya,Zj,Vj,zf3,zj,zE,zm,zT,U,Z,zf,tBM,zdg,tyV,zG,b9,br,bH,bI,av,V.ref.injEq,bX,and_true,true_and,and_assoc,aw,cH,cX];rcases zhX st with ⟨l,a,b,rfl⟩|z
   ·obtain⟨x,rfl,hx⟩:∃x:Str,v=.str x/\x.length<=1000:=by
     rcases ok with ⟨j,rfl,_⟩|h
     ·exact absurd c (by rw[show inV (V.int j) jw=aq from rfl];decide)
     ·exact h
    have e1:cY V.int (l++[a,b])=(l.map V.int++[.int a])++[.int b]:=by simp
    rw[e1] at hst;have one':=one.trans (zfi c);have wa:=hW a (by simp);have wb:=hW b (by simp);refine⟨.inl ⟨_,aY.of hst⟩,_,hst,_,za3,.inl ⟨_,aY.of ze⟩,_,by rw[Wv];exact ze,_,za3,.inl ⟨_,aY.of ze⟩,x,Y,a,Y,b,Y,hx,wa,wb,λH2 s2=>?_⟩;rw[Wv,Wv] at s2;have S2:aP H H2:=(y9 (y9 hS hw) hw).trans s2;cases e:v6 x a b with
    |ok d =>
     rw[e] at one';have hd:sQ d=ah:=by
      unfold v6 at e;split at e
      ·cases e
      ·split at e
       ·rename_i z;cases e;exact z
       ·cases e
     refine⟨_,s2 _ _ ze,?_,l++[d],⟨_,_,_,Y⟩,one',?_,?_,?_,y9 S2 hw⟩
     ·rw[bg];have:(l++[a,b]).length=l.length+2:=by simp
      exact bZ (by lia:l.length<=1000) ()
     ·intro y hy;rcases bC.mp hy with h|h
      ·exact hW y (cM _ h)
      ·have:y=d:=by simpa using h
       rw[this];exact hd
     ·have:(l++[a,b]).length=l.length+2:=by simp
      rw[bE];show l.length+1<=i+1;lia
     ·rw[bS];exact ze
    |error er =>
     rw[e] at one';have:=fe (zcy one') S2;cases er with
     |nought=>exact this
     |great=>exact this
     |stuck=>trivial
   ·exact absurd (zcy (one.trans (z aO v c))) ns
  ·simp only[YH,vA,vA,ya,Vj,zT,U,L,Z,zf,tB,tIf,sM,tBM,tyV,jD,br,bH,bI,av,V.ref.injEq,V.bl.injEq,V.ty.injEq,bX,and_true,true_and,and_assoc,aw];have st1:wF aO st v=.ok (st++[zbK aO v]):=by
    unfold wF;rw[ap (by unfold isJ;exact c)]
   have one':=one.trans st1;have hwv:=zau h6 ok;have fin1:∀u,u=V.int (zbK aO v)->rkI aO ps tm sl w H (i+1) [aa (V.ref tm),aa (V.ref sl),aa (V.ref w),aa v,o4,o5] (upd H' w (HO.lst (cY V.int st++[u]))):=λu hu=>by
    subst hu;refine⟨st++[zbK aO v],⟨_,_,_,Y⟩,one',?_,?_,?_,y9 hS hw⟩
    ·intro y hy;rcases bC.mp hy with h|h
     ·exact hW y h
     ·have:y=zbK aO v:=by simpa using h
      rw[this];exact hwv
    ·rw[bE];show st.length+1<=i+1;lia
    ·rw[bS];exact ze
   have sz:(cY V.int st).length<Bb:=by
    rw[bg];exact bZ (by lia:st.length<=1000) ()
   refine⟨.inl ⟨_,aY.of hst⟩,?_⟩;rcases ok with ⟨j,rfl,hj⟩|⟨x,rfl,hx⟩
   ·refine⟨_,.int j,aq,hK,?_⟩;rw[ap ()];exact⟨_,hst,sz,fin1 _ Y⟩
   ·refine⟨_,.str x,ah,xA _,?_⟩;rw[au rfl];refine⟨.inl ⟨aO,.inl (hS _ _ h2)⟩,_,sT.k (k:=.inr x) (hS _ _ h2),_,hst,sz,fin1 _ ?_⟩;show (zS aO (.inr x)).getD (V.int 0)=V.int (match zS aO (.inr x) with|some (.int i)=>i|_=>0);cases e:zS aO (.inr x) with
    |none=>rfl
    |some u =>
     obtain⟨i,rfl,_⟩:=h6 _ _ e;rfl
 ·rintro σ H' ⟨st,⟨o3,o4,o5,rfl⟩,hr,hW,hl,hst,hS⟩;rw[eu] at hr;simp only[br,bH,bI,av,V.ref.injEq];rw[hr] at run0;cases r with
  |error e=>cases run0
  |ok i =>
   have e:st=[i]:=by injection run0
   subst e;exact⟨.inl ⟨_,aY.of hst⟩,_,hst,_,Y,q _ (y9 hS hw)⟩
theorem zcI(c:Nat):({ cps:=#[c] }:Str).length=1:=rfl
theorem Ww{vs:List V}{_E:XK}(h:zU K vs H Q _E) :
  vE K t (sJ Q) (L2.start ["script","k"] vs) H:=by
 obtain⟨a,ns,k,rfl,hS,hl,hb,q⟩:=h;simp only[vE,L2.start,zj,zA,zy,aQ,U,L,Z,zf,zF,zu,sM,zc9,yA,rI0,xw,cY,cf,cp,b9,br,bH,bI,av,V.int.injEq,V.ref.injEq,V.bl.injEq,bX,and_true,aw,cG,cz,decide_eq_true_eq];refine⟨_,.inl ⟨_,hS,Y⟩,xl (λe=>?_) λe=>?_⟩
 ·rw[bg] at e;obtain⟨v,h1,h2⟩:=za0 (xs:=ns.map V.int) (i:=(k:Int)) () (by rw[bg];lia);obtain⟨x,hx,rfl⟩:=bD.mp h2;exact⟨_,hS,_,h1,q _ _ (aP.refl _) (hb x hx)⟩
 ·exact q _ _ (aP.refl _) (Cb.of ())
theorem zC{H H':B}(s:aP H H')(h:H' D=ao):H D=ao:=by
 cases e:H D with
 |none=>rfl
 |some o=>rw[s _ _ e] at h;cases h
theorem tK{Q:VK}{E:XK}{H:B}:fin t (.error e) Q E H↔zfc t e E H:=by cases e <;> rfl
theorem fin_ok{i:Int}{Q:VK}{E:XK}{H:B}:fin t (.ok i) Q E H↔Q (.int i) H:=rW
theorem sW.same{H H':B}(h:sW H v c)(s:aP H H'):sW H' v c:=by
 cases c with
 |row r=>exact⟨h.1.mono s,h.2⟩
 |skip e to =>
  obtain⟨p,te,h1,h2,h3⟩:=h;exact⟨p,te,h1,s _ _ h2,s _ _ h3⟩
 |go en =>
  obtain⟨p,h1,h2⟩:=h;exact⟨p,h1,s _ _ h2⟩
theorem xo{H H':B}(s:aP H H'):∀ {xs:List V} {C:List Cs},Paired (sW H) xs C->Paired (sW H') xs C
 |_,_,.nil=>.nil
 |_,_,.cons h r=>.cons (h.same s) (xo s r)
def tI(H H':B):Prop:=∀b ys,H b=aa (.tup ys)->H' b=aa (.tup ys)
theorem sW.ts{H H':B}(s:tI H H')(h:sW H v c):sW H' v c:=by
 cases c with
 |row r =>
  obtain⟨h,n⟩:=h;refine⟨?_,n⟩;cases r with
  |iff e a b=>exact n.elim
  |take sh e sl =>
   obtain⟨r,te,a1,a2,a3,a4,a5⟩:=h;exact⟨r,te,a1,a2,a3,s _ _ a4,s _ _ a5⟩
  |give sh e f =>
   obtain⟨r,te,tf,a1,a2,a3,a4,a5,a6,a7⟩:=h;exact⟨r,te,tf,a1,a2,a3,a4,s _ _ a5,s _ _ a6,s _ _ a7⟩
  |lt sl e =>
   obtain⟨r,te,a1,a2,a3,a4,a5⟩:=h;exact⟨r,te,a1,a2,a3,s _ _ a4,s _ _ a5⟩
  |say e =>
   obtain⟨r,te,a1,a2,a3,a4,a5⟩:=h;exact⟨r,te,a1,a2,a3,s _ _ a4,s _ _ a5⟩
  |off e =>
   obtain⟨r,te,a1,a2,a3,a4,a5⟩:=h;exact⟨r,te,a1,a2,a3,s _ _ a4,s _ _ a5⟩
 |skip e to =>
  obtain⟨p,te,h1,h2,h3⟩:=h;exact⟨p,te,h1,s _ _ h2,s _ _ h3⟩
 |go en =>
  obtain⟨p,h1,h2⟩:=h;exact⟨p,h1,s _ _ h2⟩
theorem xO{H H':B}(s:tI H H'):∀ {xs:List V} {C:List Cs},Paired (sW H) xs C->Paired (sW H') xs C
 |_,_,.nil=>.nil
 |_,_,.cons h r=>.cons (h.ts s) (xO s r)
theorem zcJ(x:Rw):(∃e a b,x=.iff e a b)\/VX x:=by
 cases x with
 |iff e a b=>exact .inl ⟨e,a,b,Y⟩
 |_=>exact .inr trivial
theorem vX(h:VX x)(k:Nat):xg x k=[.row x]:=by
 cases x with
 |iff e a b=>exact h.elim
 |_=>rw[xg];intro e a b z;cases z
theorem zgB{F:ac->Prop}(h:sw F H v r):∃p xs hd,v=.ref p/\H p=aa (.tup xs)/\tL xs 0=aa (.str hd)/\(hd="if"↔¬ VX r):=by
 cases r with
 |take sh e sl =>
  unfold sw at h;obtain⟨r,te,rfl,_,_,e2,e3⟩:=h;exact⟨r,_,_,Y,e2,Y,⟨λz=>absurd z (),λz=>absurd trivial z⟩⟩
 |give sh e f =>
  unfold sw at h;obtain⟨r,te,tf,rfl,_,_,_,e2,e3⟩:=h;exact⟨r,_,_,Y,e2,Y,⟨λz=>absurd z (),λz=>absurd trivial z⟩⟩
 |lt sl e =>
  unfold sw at h;obtain⟨r,te,rfl,_,_,e2,e3⟩:=h;exact⟨r,_,_,Y,e2,Y,⟨λz=>absurd z (),λz=>absurd trivial z⟩⟩
 |say e =>
  unfold sw at h;obtain⟨r,te,rfl,_,_,e2,e3⟩:=h;exact⟨r,_,_,Y,e2,Y,⟨λz=>absurd z (),λz=>absurd trivial z⟩⟩
 |off e =>
  unfold sw at h;obtain⟨r,te,rfl,_,_,e2,e3⟩:=h;exact⟨r,_,_,Y,e2,Y,⟨λz=>absurd z (),λz=>absurd trivial z⟩⟩
 |iff e a b =>
  unfold sw at h;obtain⟨r,te,la,lb,xs,ys,rfl,f1,f2,f3,f4,e2,e3⟩:=h;exact⟨r,_,_,Y,e2,Y,⟨λ_ z=>z,λ_=>rfl⟩⟩
theorem Paired.app2{α β:Type}{F:α->β->Prop}:∀ {a:List α} {b:List β} {c:List α} {d:List β},Paired F a b->Paired F c d->Paired F (a++c) (b++d)
 |_,_,_,_,.nil,h=>h
 |_,_,_,_,.cons h r,h2=>.cons h (Paired.app2 r h2)
theorem za4{vs:List V}{_E:XK}(h:Y5 vs H Q _E) :
  Y8 K t (sJ Q) (L2.start ["rows"] vs) H:=by
 obtain⟨v,r,rfl,h1,h2,h3,q⟩:=h;simp only[Y8,xi,L2.start,zA,U,L,Z,zf,zG,cY,cf,cp,b9,br,bI,av,V.int.injEq,bX,and_true,and_assoc,aw,cG,cz];exact⟨r,0,Y,h1,h2,(),q⟩
def sfI(v:V)(Bp:ac)(xs:List V)(k n:Nat)(r:hZ)(H:B)(i:Nat)(σ:St)(H':B):Prop:=∃(rest:hZ) (ys:List V) (C:List Cs),(∃o,σ=[aa v,aa (.int k),aa (.ref Bp),o])/\aP H H'/\H' Bp=aa (.lst ys)/\Paired (sW H') ys C/\sB Qm H (xs.drop i) rest/\VY (n+1) rest/\C++zR rest (k+C.length)=zR r k
theorem zb5{H:B}(h:H Bp=aa (.lst ys)):tI H (upd H Bp (.lst zs)):=λb us e=>by rw[zh (zD e h ())];exact e
theorem Qv{v:V}{r:hZ}{k n:Nat}(h1:RlAt Qm H v r)(h2:VY (n+1) r)(h3:k+(zR r k).length<=500)(q:∀l xs H',aP H H'->H l=ao->H' l=aa (.lst xs)->Paired (sW H') xs (zR r k)->Q (.ref l) H') :
  WS K t n (sJ Q) (L2.start ["rows","first","steps","row"] [v,.int k]) H:=by
 obtain⟨p,xs,rfl,_,hp,hx⟩:=h1;refine⟨bW _,λBp hL=>?_⟩;have s0:=sN (o:=HO.lst []) Bp hL;refine⟨_,Y,p,Y,⟨_,aY.of (s0 _ _ hp)⟩,?_⟩;refine yv xs (sfI (.ref p) Bp xs k n r H) ⟨r,[],[],⟨_,Y⟩,s0,ze,.nil,by rw[iP];exact hx,h2,Y⟩ (λi σ H' ⟨_,_,_,_,s,_⟩=>aY.of (s _ _ hp)) ?_ ?_
 ·rintro i u σ H' hu ⟨rest,ys,C,⟨o,rfl⟩,s,hy,pr,hr,ok,eq⟩;obtain⟨x,rs,rfl,rx,rr⟩:=hr.get hu;have e0:zR (.cons x rs) (k+C.length)=xg x (k+C.length)++zR rs (k+C.length+(xg x (k+C.length)).length):=by rw[zR]
  rw[e0] at eq;have okd:=ok.dp;have c1:(hZ.cons x rs).deep=max x.deep rs.deep:=by rw[hZ.deep]
  rw[c1] at okd;have okc:=ok.ct;have c2:(hZ.cons x rs).cnt=x.cnt+rs.cnt:=by rw[hZ.cnt]
  rw[c2] at okc;have okp:=ok.pl;unfold Zo at okp;have le:=congrArg cp eq;rw[bE,bE] at le;have ly:=bN pr;have nx:∀ {H2:B} {o':Option V} {zs:List V},aP H H2->H2 Bp=aa (.lst zs)->Paired (sW H2) zs (C++xg x (k+C.length))->sfI (.ref p) Bp xs k n r H (i+1) [aa (.ref p),aa (.int k),aa (.ref Bp),o'] H2:=λ{H2 o' zs} s2 g2 p2 =>
   ⟨rs,zs,_,⟨_,Y⟩,s2,g2,p2,rr,⟨(),(),okp.2⟩,by rw[cU,bE,<-pJ];exact eq⟩
  obtain⟨p1,fs,hd,rfl,e2,e3,e4⟩:=zgB rx;refine qp Y (s _ _ e2) e3 (λez=>?_) λez=>?_
  ·rcases zcJ x with ⟨e,a,b,rfl⟩|hni
   rotate_left
   ·exact absurd hni (e4.mp ez)
   have d1:(Rw.iff e a b).deep=max a.deep b.deep+1:=by rw[Rw.deep]
   have d2:(Rw.iff e a b).cnt=max a.cnt b.cnt+1:=by rw[Rw.cnt]
   rw[d1] at okd;rw[d2] at okc;have pl:=okp.1;unfold VQ at pl;refine⟨_,Y,.inl ⟨Y,_,aY.of hy⟩,_,Y,_,Y,zfb Y hy ⟨_,_,Y,Y,_,e,a,b,k+C.length,by rw[<-ly];rfl,rx.mono s,⟨(),(),pl.2.1⟩,⟨(),(),pl.2.2⟩,(),λl us H2 s2 hl pu=>?_⟩⟩;have lu:=bN pu;refine⟨Bp,_,ys,us,Y,Y,s2 _ _ hy,hl,bP (by lia:ys.length+us.length<=1000) (),?_⟩;exact nx (y9 (s.trans s2) hL) ze (xO (zb5 (s2 _ _ hy)) (Paired.app2 (xo s2 pr) pu))
  ·have hni:VX x:=by
    rcases zcJ x with ⟨e,a,b,rfl⟩|hni
    ·exact absurd (e4.mpr (λz=>z)) ez
    ·exact hni
   have ec:=vX hni (k+C.length);rw[ec] at nx;refine⟨_,Y,.inl ⟨Y,_,aY.of hy⟩,_,Y,Bp,ys,_,Y,Y,hy,bZ (by lia:ys.length<=900) (),?_⟩;exact nx (y9 s hL) ze (Paired.snocP (xO (zb5 hy) pr) (sW.ts (zb5 hy) ⟨rx.mono s,hni⟩))
 ·rintro σ H' ⟨rest,ys,C,⟨o,rfl⟩,s,hy,pr,hr,ok,eq⟩;have e:=hr.none;subst e;rw[show zR .nil (k+C.length)=[] by rw[zR],b9] at eq;rw[eq] at pr;exact⟨_,Y,q Bp ys H' s hL hy pr⟩
theorem xk{H H':B}(e:upd H a o=H')(h:H a=ao):aP H H'/\H' a=aa o:=⟨e ▸ sN a h,e ▸ ze⟩
theorem Vd{v:V}{e:List V}{a b:hZ}{k n:Nat}(h1:sw Qm H v (.iff e a b))(h2:VY n a)(h3:VY n b)(h4:k+(xg (.iff e a b) k).length<=500)(q:∀l xs H',aP H H'->H' l=aa (.lst xs)->Paired (sW H') xs (xg (.iff e a b) k)->Q (.ref l) H') :
  ZI K t n (sJ Q) (L2.start ["row","at","steps","to","others"] [v,.int k]) H:=by
 unfold sw at h1;obtain⟨p,te,la,lb,xs,ys,rfl,f1,f2,f3,f4,e2,e3,e4,e6,e5,e7⟩:=h1;have ec:xg (.iff e a b) k=blk e k (zR a (k+1)) (hZ.isNil b) (zR b (k+2+(zR a (k+1)).length)):=by rw[xg]
 rw[ec] at h4 q;refine VS Y e2 Y ⟨_,Y,_,_,Y,Y,.ref la,a,k+1,Y,⟨la,xs,Y,f3,e4,e6⟩,h2,?_,λl us H1 s1 fl hl pu=>?_⟩
 ·unfold blk at h4;split at h4 <;> simp only[bY,bE] at h4 <;> lia
 have lu:=bN pu;generalize zR a (k+1)=A at *
 refine⟨_,Y,_,_,Y,Y,zfb Y hl ⟨_,_,Y,Y,?_⟩⟩;have ei:(k:Int)+1+us.length=((k+1+A.length:Nat):Int):=by lia
 show kQ K t n _ [aa (.ref p),aa (.int k),aa (.ref l),aa (.int ((k:Int)+1+us.length)),ao] H1;rw[ei];refine VS Y (s1 _ _ e2) Y ⟨bW _,λz gz=>?_⟩;generalize f0:upd H1 z _=H2;obtain⟨s2,hz⟩:=xk f0 gz;have S2:=s1.trans s2;refine⟨lb,z,ys,Y,Y,aY.of (S2 _ _ e5),aY.of hz,_,Y,?_⟩;have nb:hZ.isNil b=decide (ys=[]):=by
  cases b with
  |nil=>unfold sB at e7;simp[hZ.isNil,e7]
  |cons x r=>unfold sB at e7;obtain⟨v,vs,rfl,_⟩:=e7;simp[hZ.isNil]
 have hl2:=s2 _ _ hl;have pu2:=xo s2 pu;show if _ then _ else _
 by_cases hb:ys=[]
 ·rw[au (Bj hb)];have eb:∀Bo,blk e k A (hZ.isNil b) Bo=.skip e (k+1+A.length)::A:=λBo=>by unfold blk;rw[au (by rw[nb];exact Bj hb)]
  rw[eb] at q h4;rw[bY] at h4;refine VS Y (S2 _ _ e2) Y ⟨_,Y,by show (3:Nat)<=Bb;decide,λp1 g1=>?_⟩;generalize c1:upd H2 p1 _=H3;obtain⟨t1,hp1⟩:=xk c1 g1;refine⟨by show (1:Nat)<=Bb;decide,λp2 g2=>?_⟩;generalize c2:upd H3 p2 _=H4;obtain⟨t2,hp2⟩:=xk c2 g2;have T:=t1.trans t2;refine⟨_,Y,_,_,_,us,Y,Y,hp2,T _ _ hl2,bP (by show 1+us.length<=1000;lia) (),λp3 g3=>?_⟩;have t3:=sN (o:=HO.lst ([V.ref p1]++us)) p3 g3;exact q p3 ([V.ref p1]++us) _ (S2.trans (T.trans t3)) ze (.cons ⟨p1,te,Y,(t2.trans t3) _ _ hp1,(S2.trans (T.trans t3)) _ _ e3⟩ (xo (T.trans t3) pu2))
 ·rw[ap (by rw[decide_eq_true_eq];exact hb)];have eb:∀Bo,blk e k A (hZ.isNil b) Bo=.skip e (k+2+A.length)::(A++(.go (k+2+A.length+Bo.length)::Bo)):=λBo=>by unfold blk;rw[ap (by rw[nb];simpa using hb)]
  rw[eb] at q h4;rw[bY,bE,bY] at h4;have ej:((k+1+A.length:Nat):Int)+1=((k+2+A.length:Nat):Int):=by lia
  refine VS Y (S2 _ _ e2) Y ⟨_,Y,_,_,Y,Y,.ref lb,b,k+2+A.length,?_,⟨lb,ys,Y,f4,S2 _ _ e5,e7.mono S2⟩,h3,(),λl2 ws H3 s3 fl2 hl3 pw=>?_⟩
  ·show [V.ref lb,V.int (((k+1+A.length:Nat):Int)+1)]=_;rw[ej]
  have lw:=bN pw;generalize zR b (k+2+A.length)=Bo at *
  have S3:=S2.trans s3;refine VS Y (S3 _ _ e2) Y ⟨_,Y,_,_,Y,Y,by show (3:Nat)<=Bb;decide,λp1 g1=>?_⟩;generalize c1:upd H3 p1 _=H4;obtain⟨t1,hp1⟩:=xk c1 g1;have hp1:H4 p1=aa (.tup [.str (bb "skip"),.ref te,.int ((k+2+A.length:Nat):Int)]):=by rw[<-ej];exact hp1
  refine⟨by show (1:Nat)<=Bb;decide,λp2 g2=>?_⟩;generalize c2:upd H4 p2 _=H5;obtain⟨t2,hp2⟩:=xk c2 g2;have T2:=t1.trans t2;refine⟨_,Y,_,_,_,us,Y,Y,hp2,(s3.trans T2) _ _ hl2,bP (by show 1+us.length<=1000;lia) (),λp3 g3=>?_⟩;generalize c3:upd H5 p3 _=H6;obtain⟨t3,hp3⟩:=xk c3 g3;have T3:=T2.trans t3;refine⟨_,Y,_,_,Y,Y,zfb Y (T3 _ _ hl3) ⟨_,_,Y,Y,by show (2:Nat)<=Bb;decide,λp4 g4=>?_⟩⟩;generalize c4:upd H6 p4 _=H7;obtain⟨t4,hp4⟩:=xk c4 g4;have eg:((k+1+A.length:Nat):Int)+1+ws.length=((k+2+A.length+Bo.length:Nat):Int):=by lia
  have hp4:H7 p4=aa (.tup [.str (bb "go"),.int ((k+2+A.length+Bo.length:Nat):Int)]):=by rw[<-eg];exact hp4
  refine⟨by show (1:Nat)<=Bb;decide,λp5 g5=>?_⟩;generalize c5:upd H7 p5 _=H8;obtain⟨t5,hp5⟩:=xk c5 g5;refine⟨_,_,_,_,Y,Y,(t4.trans t5) _ _ hp3,hp5,bP (by show ([V.ref p1]++us).length+1<=1000;rw[bE,eJ];lia) (),λp6 g6=>?_⟩;generalize c6:upd H8 p6 _=H9;obtain⟨t6,hp6⟩:=xk c6 g6;have T6:=t4.trans (t5.trans t6);refine⟨_,Y,_,_,_,ws,Y,Y,hp6,(T3.trans T6) _ _ hl3,bP (by rw[bE,bE,eJ,eJ];lia:_<=1000) (),λp7 g7=>?_⟩;generalize c7:upd H9 p7 _=H10;obtain⟨t7,hp7⟩:=xk c7 g7;have T7:=T6.trans t7;have Bm:=T3.trans T7;have el:[V.ref p1]++us++[V.ref p4]++ws=V.ref p1::(us++(V.ref p4::ws)):=by simp
  refine q p7 ([V.ref p1]++us++[V.ref p4]++ws) _ (S3.trans Bm) hp7 ?_;rw[el];exact .cons ⟨p1,te,Y,(t2.trans (t3.trans T7)) _ _ hp1,(S3.trans Bm) _ _ e3⟩ (Paired.app2 (xo (s3.trans Bm) pu2) (.cons ⟨p4,Y,(t5.trans (t6.trans t7)) _ _ hp4⟩ (xo Bm pw)))
theorem XR{H:B}{Q:VK}{E:XK}(h:xi 0 vs H Q E):False:=by
 obtain⟨v,r,k,e,h1,h2,h3⟩:=h;have:=h2.dp;lia
theorem rnF{P:Str->Option af}(T:Txt K P t):RnF K t:=⟨T.q05,T.q28,T.q27,T.q2d,T.q2c,T.q29,T.q2a,T.q2b⟩
section
variable {x:ac}{a:RAd}{C:List Cs}{s:sy}
theorem hV.notup(R:hV t H x a C s)(h:H b=aa (.tup zs)):¬ Ow x a b:=by
 rintro(rfl|rfl|rfl|rfl|rfl)
 ·rw[R.ix] at h;cases h
 ·rw[R.hs] at h;cases h
 ·rw[R.hg] at h;cases h
 ·rw[R.hn] at h;cases h
 ·rw[R.ha] at h;cases h
theorem hV.ts{H':B}(R:hV t H x a C s)(k:Kp x a H H'):tI H H':=λb ys e=>k b _ (R.notup e) e
theorem Kp.of_same{H':B}(s:aP H H'):Kp x a H H':=λb o _ e=>s b o e
theorem Kp.trans{H' H'':B}(h:Kp x a H H')(k:Kp x a H' H''):Kp x a H H'':=λb o n e=>k b o n (h b o n e)
theorem wT(h:Ow x a b):Kp x a H (upd H b o):=λc o' n e=>by rw[zh (λz=>n (by rw[z];exact h))];exact e
theorem hV.same{H':B}(R:hV t H x a C s)(k:aP H H'):hV t H' x a C s :=
 ⟨k _ _ R.ix,let ⟨xs,h1,h2⟩:=R.hc;⟨xs,k _ _ h1,xo k h2⟩,k _ _ R.hs,k _ _ R.hg,k _ _ R.hn,k _ _ R.ha,R.ng,R.nc⟩
theorem hV.putI(R:hV t H x a C s)(s':sy)(e1:s'.sl=s.sl)(e2:s'.gi=s.gi)(e3:s'.no=s.no)(e4:s'.sa=s.sa):hV t (upd H x (.ins t.q00 a.dx (ziD a s'))) x a C s':=by
 refine⟨ze,?_,?_,?_,?_,?_,R.ng,R.nc⟩
 ·obtain⟨xs,h1,h2⟩:=R.hc;exact⟨xs,by rw[zh (zD h1 R.ix ())];exact h1,xO (R.ts (wT (.inl Y))) h2⟩
 ·rw[zh (zD R.hs R.ix ()),e1];exact R.hs
 ·rw[zh (zD R.hg R.ix ()),e2];exact R.hg
 ·rw[zh (zD R.hn R.ix ()),e3];exact R.hn
 ·rw[zh (zD R.ha R.ix ()),e4];exact R.ha
theorem hV.putS(R:hV t H x a C s)(aO:List (bv×V)):hV t (upd H a.sl (.dK aO)) x a C { s with sl:=aO }:=by
 refine⟨by rw[zh (zD R.ix R.hs ())];exact R.ix,?_,ze,?_,?_,?_,R.ng,R.nc⟩
 ·obtain⟨xs,h1,h2⟩:=R.hc;exact⟨xs,by rw[zh (zD h1 R.hs ())];exact h1,xO (R.ts (wT (.inr (.inl Y)))) h2⟩
 ·rw[zh (zD R.hg R.hs ())];exact R.hg
 ·rw[zh (zD R.hn R.hs ())];exact R.hn
 ·rw[zh (zD R.ha R.hs ())];exact R.ha
theorem hV.putG(R:hV t H x a C s)(aT:List aW):hV t (upd H a.gi (.dT (sO aT))) x a C { s with gi:=aT }:=by
 refine⟨by rw[zh (zD R.ix R.hg ())];exact R.ix,?_,?_,ze,?_,?_,R.ng,R.nc⟩
 ·obtain⟨xs,h1,h2⟩:=R.hc;exact⟨xs,by rw[zh (zD h1 R.hg ())];exact h1,xO (R.ts (wT (.inr (.inr (.inl Y))))) h2⟩
 ·rw[zh (zD R.hs R.hg ())];exact R.hs
 ·rw[zh (eP R.ng)];exact R.hn
 ·rw[zh (zD R.ha R.hg ())];exact R.ha
theorem hV.putO(R:hV t H x a C s)(aT:List aW):hV t (upd H a.no (.dT (sO aT))) x a C { s with no:=aT }:=by
 refine⟨by rw[zh (zD R.ix R.hn ())];exact R.ix,?_,?_,?_,ze,?_,R.ng,R.nc⟩
 ·obtain⟨xs,h1,h2⟩:=R.hc;exact⟨xs,by rw[zh (zD h1 R.hn ())];exact h1,xO (R.ts (wT (.inr (.inr (.inr (.inl Y)))))) h2⟩
 ·rw[zh (zD R.hs R.hn ())];exact R.hs
 ·rw[zh R.ng];exact R.hg
 ·rw[zh (zD R.ha R.hn ())];exact R.ha
theorem hV.putA(R:hV t H x a C s)(is:List Int):hV t (upd H a.sa (.lst (is.map V.int))) x a C { s with sa:=is }:=by
 refine⟨by rw[zh (zD R.ix R.ha ())];exact R.ix,?_,?_,?_,?_,ze,R.ng,R.nc⟩
 ·obtain⟨xs,h1,h2⟩:=R.hc;exact⟨xs,by rw[zh R.nc];exact h1,xO (R.ts (wT (.inr (.inr (.inr (.inr Y)))))) h2⟩
 ·rw[zh (zD R.hs R.ha ())];exact R.hs
 ·rw[zh (zD R.hg R.ha ())];exact R.hg
 ·rw[zh (zD R.hn R.ha ())];exact R.hn
end
theorem Ye(h:¬ yf C s=ah):s.n<C.length:=by
 unfold yf at h;simp only[Bool.or_eq_true,decide_eq_true_eq,not_or] at h;lia
theorem zb6(aT:List aW)(p:Pl)(w:Int):zw (aT++[(p,w)]) p=aa w:=by
 have h:=x9 (aT++[(p,w)]) p;rw[Zl,Xp,au rfl] at h;cases hl:zw (aT++[(p,w)]) p with
 |none=>rw[hl] at h;cases h
 |some i=>rw[hl] at h;cases h;rfl
theorem zhY(h:sW H v c):∃p zs hd,v=.ref p/\H p=aa (.tup zs)/\tL zs 0=aa (.str hd)/\(hd=bb "take"->∃sh e x te,c=.row (.take sh e x)/\tL zs 1=aa (.str sh)/\tL zs 2=aa (.ref te)/\H te=aa (.tup e))/\(hd≠bb "take"->∀s,vL c s=ao):=by
 cases c with
 |row r =>
  have h1:=h.1;cases r with
  |take sh e sl=>unfold sw at h1;obtain⟨r,te,rfl,_,_,e2,e3⟩:=h1;exact⟨r,_,_,Y,e2,Y,λ_=>⟨sh,e,sl,te,Y,Y,Y,e3⟩,λz=>absurd Y z⟩
  |give sh e f=>unfold sw at h1;obtain⟨r,te,tf,rfl,_,_,_,e2,e3⟩:=h1;exact⟨r,_,_,Y,e2,Y,λz=>absurd z (),λ_ _=>rfl⟩
  |lt sl e=>unfold sw at h1;obtain⟨r,te,rfl,_,_,e2,e3⟩:=h1;exact⟨r,_,_,Y,e2,Y,λz=>absurd z (),λ_ _=>rfl⟩
  |say e=>unfold sw at h1;obtain⟨r,te,rfl,_,_,e2,e3⟩:=h1;exact⟨r,_,_,Y,e2,Y,λz=>absurd z (),λ_ _=>rfl⟩
  |off e=>unfold sw at h1;obtain⟨r,te,rfl,_,_,e2,e3⟩:=h1;exact⟨r,_,_,Y,e2,Y,λz=>absurd z (),λ_ _=>rfl⟩
  |iff e b d=>exact(h.2:False).elim
 |skip e to=>obtain⟨p,te,e1,e2,_⟩:=h;exact⟨p,_,_,e1,e2,Y,λz=>absurd z (),λ_ _=>rfl⟩
 |go en=>obtain⟨p,e1,e2⟩:=h;exact⟨p,_,_,e1,e2,Y,λz=>absurd z (),λ_ _=>rfl⟩
theorem V2{κ:Type} [DecidableEq κ]{aO:List (κ×V)}{k:κ}(h:k ∉ aO.map (·.1)):zS aO k=ao:=by
 cases e:zS aO k with
 |none=>rfl
 |some v=>exact absurd (zcq e) h
theorem zcK:∀(gs:List aW) (aO:List (List bv×V)),(∀r∈gs,zt r.1 ∉ aO.map (·.1))->(gs.map (·.1)).Nodup->gs.foldl Xw aO=aO++gs.map λr=>(zt r.1,V.int r.2)
 |[],aO,_,_=>by simp
 |r::gs,aO,h,nd=>by
  rw[bx,ca] at nd;rw[eZ,Xw,vb _ (V2 (h r bo)),zcK gs _ (λq hq=>?_) nd.2,bx,cU,List.singleton_append];rw[bS,bC,not_or];refine⟨h q (bh _ hq),λz=>nd.1 ?_⟩;have z2:zt q.1=zt r.1:=by simpa using z
  rw[<-yW z2];exact bu hq
theorem Wx{gs:List aW}(nd:(gs.map (·.1)).Nodup):sO gs=gs.map λr=>(zt r.1,V.int r.2):=by
 unfold sO;rw[zcK gs [] (λ_ _ h=>nomatch h) nd,dh]
theorem XS{H H':B}(s:aP H H'):∀ {ys:List V} {aT:List aW},Paired (PrAt H) ys aT->Paired (PrAt H') ys aT
 |_,_,.nil=>.nil
 |_,_,.cons ⟨r,p,e1,e2,e3⟩ t=>.cons ⟨r,p,e1,s _ _ e2,s _ _ e3⟩ (XS s t)
section
variable {x:ac}{a:RAd}{C:List Cs}{s:sy}{E:XK}
theorem Qw{vs:List V}{_E:XK}(F:RnF K t)(h:yO t vs H Q _E) :
  ZJ K t (sJ Q) (L2.start ["self"] vs) H:=by
 obtain⟨x,a,C,s,rfl,R,q⟩:=h;simp only[ZJ,zK,L2.start,zA,aQ,U,L,Z,zf,zht,sM,zc9,rI0,VB,xw,cY,cf,cp,b9,br,bI,av,V.int.injEq,V.ref.injEq,V.bl.injEq,bX,and_true,true_and,aw,cG,cz,dU,decide_eq_false_iff_not];obtain⟨xs,hx,pr⟩:=R.hc;have lx:=bN pr;refine⟨_,_,_,R.ix,F.cl,F.n3,_,Y,?_⟩;cases hw:s.why with
 |some w =>
  rw[au ()];have e:yf C s=ah:=by unfold yf;rw[hw];rfl
  rw[e] at q;exact q H λ_ _ z=>z
 |none =>
  rw[ap (λz=>z Y)];refine⟨_,_,_,R.ix,F.cl,F.n2,_,Y,_,_,_,R.ix,F.cl,F.n1,_,Y,xs.length,.inl ⟨_,aY.of hx,Y⟩,_,Y,?_⟩;have e:yf C s=decide ((xs.length:Int)<=(s.n:Int)):=by unfold yf;rw[hw,lx];simp
  rw[<-e];exact q H λ_ _ z=>z
theorem Wy{tm:ac}{e:List V}(F:RnF K t)(R:hV t H x a C s)(h2:yS s.sl)(h3:H tm=aa (.tup e))(h4:hU e)
  (q:∀H',aP H H'->fin t (rk s.sl e) Q E H'):vF K t E (sJ Q) (L2.start ["self","term"] [.ref x,.ref tm]) H:=by
 simp only[vF,ZB,zK,L2.start,zA,U,Z,zf,zG,cY,cf,cp,b9,br,bH,bI,av,V.ref.injEq,bX,and_true,and_assoc,aw,cG,cz];exact⟨_,_,_,R.ix,F.cl,F.n4,_,Y,s.sl,_,Y,e,h3,R.hs,_,h4.good s.sl,h4.2.1,h4.2.2,h2,q⟩
theorem Wz{vs:List V}(F:RnF K t)(h:yL t vs H Q E) :
  vG K t E (sJ Q) (L2.start ["self","due"] vs) H:=by
 obtain⟨x,p,xs,sh,te,e,a,C,s,rfl,R,h2,h3,h4,h5,h6,h7,q1,q2⟩:=h;simp only[vG,zZ,zN,L2.start,yp,zA,aQ,U,L,yz,Z,zf,yp,cY,cf,cp,b9,br,bH,bI,av,V.int.injEq,V.ref.injEq,bX,and_true,and_assoc,aw,cG,cz];refine⟨_,sI.of h3,_,h4,_,_,R.ix,Y,_,sI.of h3,_,h5,_,Y,e,a,C,s,R,h2,h6,h7,λH1 s1=>?_⟩;cases hk:rk s.sl e with
 |error er=>exact tK.mpr (q2 er H1 hk s1)
 |ok n =>
  refine fin_ok.mpr ⟨(),λp hp=>?_⟩;exact q1 n p _ hk (s1.trans (sN (o:=HO.tup [V.str sh,V.int n]) p hp)) ze
theorem JA{vs:List V}{_E:XK}(F:RnF K t)(h:qD t vs H Q _E) :
  qL K t (sJ Q) (L2.start ["self","place","worth"] vs) H:=by
 obtain⟨x,q,p,w,a,C,s,rfl,R,h2,h3,k⟩:=h;simp only[qL,jG,Qj,v0,zK,L2.start,zj,zA,zy,aQ,U,zF,zu,cY,cf,cp,b9,br,bH,bI,av,V.ref.injEq,V.bl.injEq,aw,cG,cz,dU,if_true,cE,ite_false];have g1:sT H a.gi (.ref q) ((zw s.gi p).map V.int):=.inr ⟨sO s.gi,zt p,q,.inl R.hg,Y,h2,(x9 _ _).symm⟩;have g2:sT H a.no (.ref q) ((zw s.no p).map V.int):=.inr ⟨sO s.no,zt p,q,.inl R.hn,Y,h2,(x9 _ _).symm⟩;refine⟨_,_,_,R.ix,F.cl,F.n5,_,Y,_,Y,_,g1,?_⟩;cases hg:zw s.gi p with
 |some i =>
  rw[au (by simp)];have e:wG p w s=s:=by unfold wG;rw[au (.inl (by rw[hg];rfl))]
  have e2:kg p w s=i:=by unfold kg;rw[hg];rfl
  rw[e,e2] at k;rw[hg] at g1;exact⟨_,_,_,R.ix,F.cl,F.n5,_,Y,_,Y,_,g1,k H (.of_same λ_ _ z=>z) R⟩
 |none =>
  rw[ap (by simp)];refine⟨_,_,_,R.ix,F.cl,F.n6,_,Y,_,Y,_,g2,?_⟩;cases ho:zw s.no p with
  |some i =>
   rw[ap (by simp)];have e:wG p w s=s:=by unfold wG;rw[au (.inr (by rw[ho];rfl))]
   have e2:kg p w s=i:=by unfold kg;rw[hg,ho];rfl
   rw[e,e2] at k;rw[ho] at g2;exact⟨_,_,_,R.ix,F.cl,F.n6,_,Y,_,Y,_,g2,k H (.of_same λ_ _ z=>z) R⟩
  |none =>
   rw[au (by simp)];have e:wG p w s={ s with no:=s.no++[(p,w)] }:=by unfold wG;rw[ap (by rw[hg,ho];simp)]
   have e2:kg p w s=w:=by unfold kg;rw[hg,ho];rfl
   rw[e,e2] at k;have ld:=jJ s.no;have ep:ye (sO s.no) (zt p) (V.int w)=sO (s.no++[(p,w)]):=(Zl s.no (p,w)).symm;have D:=DPut.t (k:=zt p) (v:=V.int w) R.hn h2 (bZ (by lia:_<=900) ());rw[ep] at D;have R2:=R.putO (s.no++[(p,w)]);have K2:Kp x a H (upd H a.no (.dT (sO (s.no++[(p,w)])))):=wT (.inr (.inr (.inr (.inl Y))));refine⟨_,_,_,R.ix,F.cl,F.n6,_,Y,_,Y,_,D,_,_,_,R2.ix,F.cl,F.n6,_,Y,_,Y,V.int w,?_,k _ K2 R2⟩;refine .inr ⟨_,zt p,q,.inl R2.hn,Y,K2 _ _ (R.notup h2) h2,?_⟩;rw[x9,zb6];rfl
theorem JB{vs:List V}{_E:XK}(F:RnF K t)(h:vR t vs H Q _E) :
  qN K t (sJ Q) (L2.start ["self","notes"] vs) H:=by
 obtain⟨x,a,C,s,rfl,R,h2,h3,h4,q1,q2⟩:=h;simp only[qN,yO,zN,L2.start,zj,zA,zy,U,L,zf,zF,jZ,tB,cY,cf,cp,cL,dh,b9,br,bI,av,V.ref.injEq,V.bl.injEq,bX,and_true,aw,cG,cz,dU];refine⟨_,_,R.ix,Y,a,C,s,R,λH1 s1=>?_⟩;have R1:=R.same s1;cases ho:yf C s with
 |false=>rw[au rfl];exact q1 H1 ho s1
 |true =>
  rw[ap ()];simp only[ZP,ZO,zix,zK,Qn,zeN,zeS,zj,zE,zm,zA,zy,aQ,U,L,xu,yz,Z,zf,zF,zu,sM,VB,cp,br,bH,bI,av,V.ref.injEq,V.bl.injEq,bX,and_true,true_and,aw,cH,cX,cz,dU,decide_eq_false_iff_not];refine⟨_,_,_,R1.ix,F.cl,F.n6,_,Y,_,Y,_,R1.hn,λr hr=>⟨a.no,ze,sO s.no,(by rw[zh (zo R1.hn hr)];exact R1.hn),(by have:=jJ s.no;lia),λl ys H2 s2 fl hl pr=>?_⟩⟩;have sv:=sN (o:=Yv r a.no) r hr;have S2:=sv.trans s2;have R2:=R1.same S2;have nl:H l=ao:=zC (s1.trans sv) fl;rw[Wx h3] at pr;have pn:=zeT pr;refine⟨_,_,_,R2.ix,F.cl,F.n3,_,Y,?_⟩;cases hw:s.why with
  |some w =>
   rw[au ()];refine⟨_,_,_,R2.ix,F.cl,F.n3,_,Y,(),λp hp=>⟨(),λg hg=>⟨(),λr2 hr2=>?_⟩⟩⟩;rw[hw];rw[hw] at hg hr2;have t1:=sN (o:=HO.tup [V.str (bb "off"),ziC (aa w)]) p hp;have t2:=sN (o:=HO.lst []) g hg;have t3:=sN (o:=HO.tup [V.ref p,V.ref l,V.ref g]) r2 hr2;have T3:=t1.trans (t2.trans t3);refine q2 r2 (.ref p) l g [] _ ho (s1.trans (S2.trans T3)) nl (zC (s1.trans (S2.trans t1)) hg) (λz=>by rw[<-z,t1 _ _ hl] at hg;cases hg) ze ?_ ⟨ys,T3 _ _ hl,XS T3 pn⟩ ⟨[],t3 _ _ ze,.nil⟩ ?_
   ·unfold zhU;rw[hw];exact⟨p,Y,(t2.trans t3) _ _ ze⟩
   ·unfold Za;rw[hw]
  |none =>
   rw[ap (λz=>z Y)];refine⟨_,_,_,R2.ix,F.cl,F.n7,_,Y,_,Y,_,.inl ⟨aY.of R2.ha,λy hy=>⟨(),λp hp=>?_⟩⟩⟩;have t1:=sN (o:=HO.tup (cY V.int s.sa)) y hy;have t2:=sN (o:=HO.tup [V.str (bb "done"),V.ref y]) p hp;have R3:=R2.same (t1.trans t2);have ly:=t2 _ _ (ze (H:=H2) (a:=y) (o:=HO.tup (cY V.int s.sa)));have lp:upd (upd H2 y (HO.tup (cY V.int s.sa))) p (HO.tup [V.str (bb "done"),V.ref y]) p=aa (HO.tup [V.str (bb "done"),V.ref y]):=ze;have T2:=t1.trans t2;generalize upd (upd H2 y (HO.tup (cY V.int s.sa))) p (HO.tup [V.str (bb "done"),V.ref y])=H3 at *
   refine⟨_,_,_,R3.ix,F.cl,F.n5,_,Y,_,Y,_,R3.hg,λr3 hr3=>⟨a.gi,ze,s.gi,(by rw[zh (zo R3.hg hr3)];exact R3.hg),(by have:=jJ s.gi;lia),λg zs srt H4 s4 fg hg ps ri mi=>⟨(),λr2 hr2=>?_⟩⟩⟩;have t3:=(sN (o:=Yv r3 a.gi) r3 hr3).trans s4;have t5:=sN (o:=HO.tup [V.ref p,V.ref l,V.ref g]) r2 hr2;have T5:=t3.trans t5;have fg3:H3 g=ao:=zC (sN (o:=Yv r3 a.gi) r3 hr3) fg;refine q2 r2 (.ref p) l g srt _ ho (s1.trans (S2.trans (T2.trans T5))) nl (zC (s1.trans (S2.trans T2)) fg3) (λz=>by rw[<-z,T2 _ _ hl] at fg3;cases fg3) ze ?_ ⟨ys,(T2.trans T5) _ _ hl,XS (T2.trans T5) pn⟩ ⟨zs,t5 _ _ hg,XS t5 ps⟩ ?_
   ·unfold zhU;rw[hw];exact⟨p,y,Y,T5 _ _ lp,T5 _ _ ly⟩
   ·unfold Za;rw[hw];exact⟨ri,mi⟩
end
theorem zfj(p:Pl)(w:Int)(s:sy):(wG p w s).sl=s.sl:=by unfold wG;split <;> rfl
theorem zgC(p:Pl)(w:Int)(s:sy):(wG p w s).n=s.n:=by unfold wG;split <;> rfl
theorem ziE{w:Int}(h:Y4 r)(e:tC r w s=.ok s'):s'.n=s.n:=by
 cases r with
 |take sh e' x =>
  cases hk:rk s.sl e' with
  |error er=>simp only[tC,hk] at e;cases e
  |ok n=>simp only[tC,hk] at e;cases e;exact zgC _ _ _
 |give sh e' f =>
  cases hk:rk s.sl e' with
  |error er=>simp only[tC,hk] at e;cases e
  |ok n =>
   cases hk2:rk s.sl f with
   |error er=>simp only[tC,hk,hk2] at e;cases e
   |ok i=>simp only[tC,hk,hk2] at e;cases e;rfl
 |lt x e' =>
  cases hk:rk s.sl e' with
  |error er=>simp only[tC,hk] at e;cases e
  |ok n=>simp only[tC,hk] at e;cases e;rfl
 |say e' =>
  cases hk:rk s.sl e' with
  |error er=>simp only[tC,hk] at e;cases e
  |ok n=>simp only[tC,hk] at e;cases e;rfl
 |off e'=>exact h.elim
 |iff e' b d=>exact h.elim
theorem za5{r:Rw}{w:Int}{s:sy}(h:Y4 r):vQ (.row r) w s=match tC r w s with
  |.error er=>.error er
  |.ok s'=>.ok (s.n+1,s'):=by
 cases r with
 |off e'=>exact h.elim
 |iff e' b d=>exact h.elim
 |take sh e' x=>rfl
 |give sh e' f=>rfl
 |lt x e'=>rfl
 |say e'=>rfl
theorem zgD(r:Rw)(h:VX r):(∃e,r=.off e)\/Y4 r:=by
 cases r with
 |off e'=>exact .inl ⟨e',Y⟩
 |iff e' b d=>exact h.elim
 |take sh e' x=>exact .inr trivial
 |give sh e' f=>exact .inr trivial
 |lt x e'=>exact .inr trivial
 |say e'=>exact .inr trivial
theorem zgE{F:ac->Prop}(h:sw F H v r)(d:Y4 r):∃p xs hd,v=.ref p/\H p=aa (.tup xs)/\tL xs 0=aa (.str hd)/\hd≠bb "go"/\hd≠bb "skip"/\hd≠bb "off":=by
 cases r with
 |take sh e sl=>unfold sw at h;obtain⟨r,te,rfl,_,_,e2,e3⟩:=h;exact⟨r,_,_,Y,e2,Y,(),(),()⟩
 |give sh e f=>unfold sw at h;obtain⟨r,te,tf,rfl,_,_,_,e2,e3⟩:=h;exact⟨r,_,_,Y,e2,Y,(),(),()⟩
 |lt sl e=>unfold sw at h;obtain⟨r,te,rfl,_,_,e2,e3⟩:=h;exact⟨r,_,_,Y,e2,Y,(),(),()⟩
 |say e=>unfold sw at h;obtain⟨r,te,rfl,_,_,e2,e3⟩:=h;exact⟨r,_,_,Y,e2,Y,(),(),()⟩
 |off e=>exact d.elim
 |iff e a b=>exact d.elim
theorem Yf(h:yE x=ah):cr x=ah:=(zer h).flat
def za6(H H':B):Prop:=∀b ys,H b=aa (.tup ys)->H' b=aa (.tup ys)
theorem aP.ts{H H':B}(s:aP H H'):za6 H H':=λb ys e=>s _ _ e
theorem zfk{J:It}{H1:B}{Q:B->Prop}{Bo:V->St->B->(V->St->B->Prop)->(St->B->Prop)->Prop}(n:Nat)(hn:n<=1000000)(C:St->Prop)(R:Nat->List V->B->Prop)(hm:∀i ys H H',za6 H H'->R i ys H->R i ys H')(hC:C τ₀)(h0:R 0 [] H1)
  (go:∀i H,aP H1 H->i<n->J.go i H) (stop:∀H,aP H1 H->J.stop n H) (hD:H1 D=ao)
  (hs:∀i x τ ys H H',C τ->aP H1 H->i<n->R i ys H->J.yld i H x H'->Bo x τ H' (λv τ' H4=>C τ'/\R (i+1) (ys++[v]) H4/\aP H H4) (λτ' H4=>C τ'/\R (i+1) ys H4/\aP H H4))
  (hd:∀ys H,ys.length<=n->R n ys H->aP H1 H->H D=aa (.lst ys)->Q H) :
  ∃W:Nat->Nat->List V->St->B->Prop,(∃m,W 0 m [] τ₀ (upd H1 D (.lst [])))/\∀i m ys τ H,W i m ys τ H->H D=aa (.lst ys) /\
  ((J.stop i H/\Q H)\/(J.go i H/\ys.length<Bb/\∃N:V->St->B->Prop,
   (∀v τ' H',N v τ' H'->H' D=aa (.lst ys)/\∃m',m'<m/\W (i+1) m' (ys++[v]) τ' (upd H' D (.lst (ys++[v]))))/\∃Nf:St->B->Prop,(∀τ' H',Nf τ' H'->∃m',m'<m/\W (i+1) m' ys τ' H') /\
   ∀x H',J.yld i H x H'->Bo x τ H' N Nf)):=by
 have ext:∀ {H:B} {o:HO},aP H1 H->aP H1 (upd H D o):=λ{H o} h b u e=>by
  rw[zh (zo e hD)];exact h b u e
 refine⟨λi m ys τ H=>m=n-i/\i<=n/\ys.length<=i/\R i ys H/\aP H1 H/\H D=aa (.lst ys)/\C τ,⟨n,by simp,bW _,bp _,hm _ _ _ _ (aP.ts (ext (aP.refl _))) h0,ext (aP.refl _),ze,hC⟩,?_⟩;rintro i m ys τ H ⟨rfl,hi,hl,hR,hS,hy,hc⟩;refine⟨hy,?_⟩;by_cases hlt:i<n
 ·refine .inr ⟨go i H hS hlt,bZ (by lia:ys.length<=1000000) (),_,?_,_,?_,λx H' y=>hs i x τ ys H H' hc hS hlt hR y⟩
  ·rintro v τ' H4 ⟨c4,r4,s4⟩;have y4:=s4 _ _ hy;exact⟨y4,n-(i+1),(),Y,hlt,by simp;lia,hm _ _ _ _ (λb zs e=>by rw[zh (zD e y4 (by simp))];exact e) r4,ext (hS.trans s4),ze,c4⟩
  ·rintro τ' H4 ⟨c4,r4,s4⟩;exact⟨n-(i+1),(),Y,hlt,(),r4,hS.trans s4,s4 _ _ hy,c4⟩
 ·obtain rfl:i=n:=by lia
  exact .inl ⟨stop H hS,hd ys H hl hR hS hy⟩
theorem XT{P:Nat->Bool}(h:XI P x)(h':XI P y):XI P (x++y):=by
 unfold XI at *
 rw[zgd,rX,h,h'];rfl
theorem zfl{P:Nat->Bool}(h:P c=ah):XI P ⟨#[c]⟩:=by
 show [c].all P=ah;rw[gD,h];rfl
theorem zgF{P:Nat->Bool}(h:XI P x)(k:Nat):XI P (gP x ao (aa (k:Int))):=by
 unfold XI at *
 rw[zar];rw[i9] at *
 exact λc hc=>h c (dJ hc)
theorem zdE{P:Nat->Bool}(h:XI P x)(k:Nat):XI P (gP x (aa (k:Int)) ao):=by
 unfold XI at *
 rw[VF];rw[i9] at *
 exact λc hc=>h c (dv hc)
theorem zhZ(x:Str)(k:Nat)(h:k<=x.length):(gP x ao (aa (k:Int))).length=k:=by
 rw[Xt] at *
 rw[zar,cK];lia
theorem zfm(x:Str)(k:Nat):(gP x (aa (k:Int)) ao).length=x.length-k:=by
 rw[Xt,Xt,VF,cT]
theorem zcL{P:Str->Prop}:∀ {ys:List V},(∀v∈ys,∃x,v=.str x/\P x)->∃ls:List Str,ys=ls.map V.str/\∀x∈ls,P x
 |[],_=>⟨[],Y,λ_ z=>nomatch z⟩
 |v::r,h=>by
  obtain⟨x,rfl,px⟩:=h v bo;obtain⟨ls,rfl,pl⟩:=zcL (ys:=r) λu hu=>h u (bh _ hu);exact⟨x::ls,Y,λy hy=>by
   rcases bF.mp hy with rfl|hy
   ·exact px
   ·exact pl y hy⟩
structure RnP(m:Nat)(s:sy):Prop where
 ok:RnOk m s
 ng:∀r∈s.gi,cr r.1.1=ah
 nn:∀r∈s.no,cr r.1.1=ah
theorem RnOk.up(h:RnOk m s):RnOk (m+1) s:=⟨h.so,h.gw,h.nw,cu h.l1,cu h.l2,cu h.l3,cu h.l4,h.nd⟩
theorem RnP.up(h:RnP m s):RnP (m+1) s:=⟨h.ok.up,h.ng,h.nn⟩
theorem zfn{p:Pl}{l:List aW}(nd:(l.map (·.1)).Nodup)(h:zw l p=ao):p ∉ l.map (·.1):=λz=>by
 obtain⟨r,hr,e⟩:=bD.mp z;have:=(Xx (w:=r.2) nd).mpr (show (p,r.2)∈l by rw[<-e];exact hr);rw[h] at this;cases this
theorem zfo{w:Int}(h:RnOk m s)(hw:sQ w=ah):sQ (kg p w s)=ah:=by
 unfold kg;cases e:zw s.gi p with
 |some i=>exact wW (P:=λr=>sQ r.2=ah) h.gw e
 |none =>
  cases e2:zw s.no p with
  |some i=>exact wW (P:=λr=>sQ r.2=ah) h.nw e2
  |none=>exact hw
theorem zgG{m:Nat}{s:sy}{p:Pl}{w i:Int}{x:Str}(h:RnP m s)(hp:cr p.1=ah)(hw:sQ w=ah)(hi:sQ i=ah):RnP (m+1) { wG p w s with sl:=ye s.sl (.inr x) (.int i) }:=by
 have so:=Kh h.ok.so (.inr x) hi;have l1:(ye s.sl (.inr x) (V.int i)).length<=m+1:=bP (xQ _ _ _) (fV h.ok.l1);unfold wG;by_cases c:(zw s.gi p).isSome=ah\/(zw s.no p).isSome=ah
 ·rw[au c];exact⟨⟨so,h.ok.gw,h.ok.nw,l1,cu h.ok.l2,cu h.ok.l3,cu h.ok.l4,h.ok.nd⟩,h.ng,h.nn⟩
 ·rw[ap c];have cn:zw s.no p=ao:=by
   cases e:zw s.no p with
   |none=>rfl
   |some i=>exact absurd (.inr (by rw[e];rfl)) c
  refine⟨⟨so,h.ok.gw,λr hr=>?_,l1,cu h.ok.l2,?_,cu h.ok.l4,?_⟩,h.ng,λr hr=>?_⟩
  ·rcases bC.mp hr with hr|hr
   ·exact h.ok.nw r hr
   ·rw[bt.mp hr];exact hw
  ·show (s.no++[(p,w)]).length<=m+1;rw[bE];exact fV h.ok.l3
  ·show ((s.no++[(p,w)]).map (·.1)).Nodup;rw[bS];refine du.mpr ⟨h.ok.nd,by simp,λa ha b hb=>?_⟩;have hb:b=p:=by simpa using hb
   rw[hb];exact λz=>zfn h.ok.nd cn (by rw[<-z];exact ha)
  ·rcases bC.mp hr with hr|hr
   ·exact h.nn r hr
   ·rw[bt.mp hr];exact hp
theorem zh0{w:Int}(h:RnP m s)(d:Y4 r)(k:Zm r)(pl:VQ r)(hw:sQ w=ah)(e:tC r w s=.ok s'):RnP (m+1) s'/\s'.why=s.why:=by
 cases r with
 |off e'=>exact d.elim
 |iff e' b c=>exact d.elim
 |take sh e' x =>
  cases hk:rk s.sl e' with
  |error er=>simp only[tC,hk] at e;cases e
  |ok n =>
   simp only[tC,hk] at e;cases e;exact⟨zgG h pl.1 hw (zfo h.ok hw),by show (wG _ _ _).why=_;unfold wG;split <;> rfl⟩
 |give sh e' f =>
  cases hk:rk s.sl e' with
  |error er=>simp only[tC,hk] at e;cases e
  |ok n =>
   cases hk2:rk s.sl f with
   |error er=>simp only[tC,hk,hk2] at e;cases e
   |ok i =>
    simp only[tC,hk,hk2] at e;cases e;have hi:=zeJ h.ok.so k.2.2.1 hk2;refine⟨⟨⟨h.ok.so,λr hr=>?_,h.ok.nw,cu h.ok.l1,?_,cu h.ok.l3,cu h.ok.l4,h.ok.nd⟩,λr hr=>?_,h.nn⟩,Y⟩
    ·rcases bC.mp hr with hr|hr
     ·exact h.ok.gw r hr
     ·rw[bt.mp hr];exact hi
    ·show (s.gi++[((sh,n),i)]).length<=m+1;rw[bE];exact fV h.ok.l2
    ·rcases bC.mp hr with hr|hr
     ·exact h.ng r hr
     ·rw[bt.mp hr];exact pl.1
 |lt x e' =>
  cases hk:rk s.sl e' with
  |error er=>simp only[tC,hk] at e;cases e
  |ok i =>
   simp only[tC,hk] at e;cases e;have hi:=zeJ h.ok.so k.2.1 hk;exact⟨⟨⟨Kh h.ok.so _ hi,h.ok.gw,h.ok.nw,bP (xQ _ _ _) (fV h.ok.l1),cu h.ok.l2,cu h.ok.l3,cu h.ok.l4,h.ok.nd⟩,h.ng,h.nn⟩,Y⟩
 |say e' =>
  cases hk:rk s.sl e' with
  |error er=>simp only[tC,hk] at e;cases e
  |ok i =>
   simp only[tC,hk] at e;cases e;exact⟨⟨⟨h.ok.so,h.ok.gw,h.ok.nw,cu h.ok.l1,cu h.ok.l2,cu h.ok.l3,by show (s.sa++[i]).length<=m+1;rw[bE];exact fV h.ok.l4,h.ok.nd⟩,h.ng,h.nn⟩,Y⟩
theorem zh1(er:Er):cr (zaJ er)=ah:=by cases er <;> lia
theorem zgH{w:Int}(O:Js C)(h:RnI C m s)(ho:yf C s=aq)(hw:sQ w=ah):RnI C (m+1) (yY C w s):=by
 have no:¬ yf C s=ah:=by rw[ho];decide
 have lt:=Ye no;have hc:C[s.n]?=aa C[s.n]:=bc lt;have es:yY C w s=y8 C[s.n] w s:=by unfold yY;rw[ap no,hc]
 have wn:s.why=ao:=by
  cases e:s.why with
  |none=>rfl
  |some v=>exact absurd (show yf C s=ah by unfold yf;rw[e];rfl) no
 have mn:=h.at_ wn;have ok:=O.ok _ (eS lt);have pl:=O.pl _ (eS lt);have P:RnP m s:=⟨h.ok,h.ng,h.nn⟩;have fin:∀ {s':sy} {k:Nat},RnP (m+1) s'->(s'.why=ao->m+1<=k)->(∀v,s'.why=aa v->cr v=ah)->RnI C (m+1) { s' with n:=k }:=λ{s' k} p l y =>
  ⟨⟨p.ok.so,p.ok.gw,p.ok.nw,p.ok.l1,p.ok.l2,p.ok.l3,p.ok.l4,p.ok.nd⟩,p.ng,p.nn,l,y⟩
 have bad:∀er,RnI C (m+1) { s with why:=aa (zaJ er) }:=λer=>⟨⟨P.up.ok.so,P.up.ok.gw,P.up.ok.nw,P.up.ok.l1,P.up.ok.l2,P.up.ok.l3,P.up.ok.l4,P.up.ok.nd⟩,P.ng,P.nn,λz=>(by cases z),λv z=>by cases z;exact zh1 er⟩;have does:∀r:Rw,Y4 r->Qs (.row r)->zgy (.row r)->RnI C (m+1) (y8 (.row r) w s):=λr hf ok pl=>by
  unfold y8;rw[za5 hf];cases hk:tC r w s with
  |error er=>exact bad er
  |ok s' =>
   obtain⟨a,b⟩:=zh0 P hf ok pl hw hk;exact fin a (λ_=>by lia) (λv z=>h.wy v (by rw[<-b];exact z))
 rw[es];have hg:∀to,C[s.n]=.go to->s.n<to:=λto e=>O.fg s.n to (by rw[hc,e]);have hs:∀e to,C[s.n]=.skip e to->s.n<to:=λe to e2=>O.fw s.n to e (by rw[hc,e2]);generalize C[s.n]=c at *
 cases c with
 |go to =>
  have:=hg to rfl;exact fin P.up (λ_=>by lia) h.wy
 |skip e to =>
  have:=hs e to rfl;cases hk:rk s.sl e with
  |error er=>simp only[y8,vQ,hk];exact bad er
  |ok i =>
   simp only[y8,vQ,hk];refine fin P.up (λ_=>?_) h.wy;split <;> lia
 |row r =>
  cases r with
  |off e =>
   cases hk:rk s.sl e with
   |error er=>simp only[y8,vQ,hk];exact bad er
   |ok i =>
    by_cases hi:i=0
    ·simp only[y8,vQ,hk,au hi];exact fin P.up (λ_=>by lia) h.wy
    ·simp only[y8,vQ,hk,ap hi];exact fin (s':={ s with why:=aa (bb "told") }) ⟨⟨P.up.ok.so,P.up.ok.gw,P.up.ok.nw,P.up.ok.l1,P.up.ok.l2,P.up.ok.l3,P.up.ok.l4,P.up.ok.nd⟩,P.ng,P.nn⟩ (λz=>by cases z) (λv z=>by cases z;lia)
  |iff e b d=>exact fin (k:=s.n+1) P.up (λ_=>by lia) h.wy
  |take sh e x=>exact does (.take sh e x) trivial ok pl
  |give sh e x=>exact does (.give sh e x) trivial ok pl
  |lt sh e=>exact does (.lt sh e) trivial ok pl
  |say e=>exact does (.say e) trivial ok pl
theorem zcM{w:Int}(ho:yf C s=aq):(wH C s=ao->(yY C w s).no=s.no)/\∀p,wH C s=aa p->(yY C w s).no=s.no++[(p,w)]:=by
 have no:¬ yf C s=ah:=by rw[ho];decide
 have lt:=Ye no;have hc:C[s.n]?=aa C[s.n]:=bc lt;have es:yY C w s=y8 C[s.n] w s:=by unfold yY;rw[ap no,hc]
 have ea:wH C s=vL C[s.n] s:=by unfold wH;rw[ap no,hc];rfl
 rw[es,ea];generalize C[s.n]=c at *
 have triv:∀c',(∀p,vL c' s≠aa p)->(y8 c' w s).no=s.no->(vL c' s=ao->(y8 c' w s).no=s.no)/\∀p,vL c' s=aa p->(y8 c' w s).no=s.no++[(p,w)]:=λc' a b=>⟨λ_=>b,λp z=>absurd z (a p)⟩;cases c with
 |go to=>exact triv _ (λp z=>nomatch z) rfl
 |skip e to =>
  refine triv _ (λp z=>nomatch z) ?_;cases hk:rk s.sl e <;> simp only[y8,vQ,hk]
 |row r =>
  cases r with
  |off e =>
   refine triv _ (λp z=>nomatch z) ?_;cases hk:rk s.sl e with
   |error er=>simp only[y8,vQ,hk]
   |ok i =>
    simp only[y8,vQ,hk];split <;> rfl
  |iff e b d=>exact triv _ (λp z=>nomatch z) rfl
  |give sh e f =>
   refine triv _ (λp z=>nomatch z) ?_;cases hk:rk s.sl e with
   |error er=>simp only[y8,vQ,tC,hk]
   |ok i=>cases hk2:rk s.sl f <;> simp only[y8,vQ,tC,hk,hk2]
  |lt x e =>
   refine triv _ (λp z=>nomatch z) ?_;cases hk:rk s.sl e <;> simp only[y8,vQ,tC,hk]
  |say e =>
   refine triv _ (λp z=>nomatch z) ?_;cases hk:rk s.sl e <;> simp only[y8,vQ,tC,hk]
  |take sh e x =>
   cases hk:rk s.sl e with
   |error er=>exact triv _ (λp z=>by simp only[vL,hk] at z;cases z) (by simp only[y8,vQ,tC,hk])
   |ok n =>
    simp only[y8,vQ,tC,vL,hk];by_cases c:(zw s.gi (sh,n)).isSome=ah\/(zw s.no (sh,n)).isSome=ah
    ·rw[au c];exact⟨λ_=>by unfold wG;rw[au c],λp z=>nomatch z⟩
    ·rw[ap c];exact⟨λz=>(nomatch z),λp z=>by cases z;unfold wG;rw[ap c]⟩
structure FwC(k:Nat)(C:List Cs):Prop where
 ok:∀c∈C,Qs c/\zgy c
 fw:∀(i to:Nat) (e:List V),C[i]?=aa (Cs.skip e to)->k+i<to
 fg:∀(i to:Nat),C[i]?=aa (Cs.go to)->k+i<to
theorem FwC.nil(k:Nat):FwC k []:=⟨λc h=>(nomatch h),λi to e h=>by simp at h,λi to h=>by simp at h⟩
theorem FwC.cons(h1:Qs c/\zgy c)(h2:∀e to,c=.skip e to->k<to)(h3:∀to,c=.go to->k<to)(h:FwC (k+1) C):FwC k (c::C):=by
 refine⟨λx hx=>?_,λi to e hi=>?_,λi to hi=>?_⟩
 ·rcases bF.mp hx with rfl|hx
  ·exact h1
  ·exact h.ok x hx
 ·cases i with
  |zero=>have:=h2 e to (by simpa using hi);lia
  |succ i=>have:=h.fw i to e (by simpa using hi);lia
 ·cases i with
  |zero=>have:=h3 to (by simpa using hi);lia
  |succ i=>have:=h.fg i to (by simpa using hi);lia
theorem FwC.app:∀ {A:List Cs} {k:Nat} {Bo:List Cs},FwC k A->FwC (k+A.length) Bo->FwC k (A++Bo)
 |[],k,Bo,_,h=>by simpa using h
 |c::A,k,Bo,h,h'=>by
  rw[cL];refine .cons (h.ok c bo) (λe to z=>by have:=h.fw 0 to e (by rw[z];rfl);lia) (λto z=>by have:=h.fg 0 to (by rw[z];rfl);lia) (FwC.app ⟨λx hx=>h.ok x (bh _ hx),λi to e hi=>?_,λi to hi=>?_⟩ (by rw[bY] at h';rw[show k+1+A.length=k+(A.length+1) by lia];exact h'))
  ·have:=h.fw (i+1) to e (by simpa using hi);lia
  ·have:=h.fg (i+1) to (by simpa using hi);lia
mutual
theorem zfp:∀(r:Rw) (k:Nat),Zm r->VQ r->FwC k (xg r k)
 |.iff e a b,k,o,p=>by
  unfold Zm at o;unfold VQ at p;have ha:=Yg a (k+1) o.2.1 p.2.1;have hb:=Yg b (k+2+(zR a (k+1)).length) o.2.2 p.2.2;have ec:xg (.iff e a b) k=blk e k (zR a (k+1)) (hZ.isNil b) (zR b (k+2+(zR a (k+1)).length)):=by rw[xg]
  rw[ec];generalize zR a (k+1)=A at *
  generalize zR b (k+2+A.length)=Bo at *
  unfold blk;split
  ·exact .cons ⟨o.1,trivial⟩ (λe' to z=>by cases z;lia) (λto z=>nomatch z) ha
  ·refine .cons ⟨o.1,trivial⟩ (λe' to z=>by cases z;lia) (λto z=>nomatch z) (.app ha (.cons ⟨trivial,trivial⟩ (λe' to z=>nomatch z) (λto z=>by cases z;lia) ?_));rw[show k+1+A.length+1=k+2+A.length by lia];exact hb
 |.take sh e sl,k,o,p=>by rw[vX (x:=.take sh e sl) trivial];exact .cons ⟨o,p⟩ (λ_ _ z=>nomatch z) () (.nil _)
 |.give sh e f,k,o,p=>by rw[vX (x:=.give sh e f) trivial];exact .cons ⟨o,p⟩ (λ_ _ z=>nomatch z) () (.nil _)
 |.lt sl e,k,o,p=>by rw[vX (x:=.lt sl e) trivial];exact .cons ⟨o,p⟩ (λ_ _ z=>nomatch z) () (.nil _)
 |.say e,k,o,p=>by rw[vX (x:=.say e) trivial];exact .cons ⟨o,p⟩ (λ_ _ z=>nomatch z) () (.nil _)
 |.off e,k,o,p=>by rw[vX (x:=.off e) trivial];exact .cons ⟨o,p⟩ (λ_ _ z=>nomatch z) () (.nil _)
theorem Yg:∀(r:hZ) (k:Nat),Yu r->Zo r->FwC k (zR r k)
 |.nil,k,o,p=>by rw[zR];exact .nil k
 |.cons r rs,k,o,p=>by
  unfold Yu at o;unfold Zo at p;rw[zR];exact .app (zfp r k o.1 p.1) (Yg rs _ o.2 p.2)
end
theorem ziF(h1:VY 6 r)(h2:Yu r)(h3:(zR r 0).length<=40):Js (zR r 0):=by
 have f:=Yg r 0 h2 h1.pl;exact⟨λc hc=>(f.ok c hc).1,λc hc=>(f.ok c hc).2,λi to e h=>by have:=f.fw i to e h;lia,λi to h=>by have:=f.fg i to h;lia,h3⟩
def plD(p:Pl):PyData:=.tuple [.str p.1,.int p.2]
theorem zfq(h:H q=aa (.tup [.str p.1,.int p.2])):Dat K H (.ref q) (plD p):=.tup (sI.of h) (.cons (.str _) (.cons (.int _) .nil))
theorem za7(h:cr p.1=ah):zX (plD p)=ah:=by simp[plD,zX,xB,h]
theorem zh2(h:plD p=plD q):p=q:=by
 unfold plD at h;simp only[pG,bX,PyData.str.injEq,PyData.int.injEq,and_true] at h;exact rL h.1 h.2
theorem za8(p:Pl):(plD p).depth<=2:=by simp[plD,mq,gu]
section
variable {C:List Cs}{s:sy}{m:Nat}
theorem zgI(h:Za s out)(h':Za s out'):out=out':=by
 unfold Za at h h';cases e:s.why with
 |some w=>rw[e] at h h';rw[h,h']
 |none=>rw[e] at h h';exact VN h.1 h'.1 λ⟨p,w⟩=>(h.2 p w).trans (h'.2 p w).symm
theorem ziG(I:RnI C m s)(h:Za s out):∀r∈out,cr r.1.1=ah:=by
 unfold Za at h;cases e:s.why with
 |some w=>rw[e] at h;rw[h];exact λr hr=>nomatch hr
 |none =>
  rw[e] at h;intro r hr;exact wW (P:=λr=>cr r.1.1=ah) I.ng ((h.2 r.1 r.2).mp hr)
theorem zfr(h:Za s out):out.length<=s.gi.length:=by
 unfold Za at h;cases e:s.why with
 |some w=>rw[e] at h;rw[h];exact bW _
 |none =>
  rw[e] at h;have ld:=jJ s.gi;have n1:((sO s.gi).map (·.1)).Nodup:=(kN s.gi).1;have n2:((out.map (·.1)).map zt).Nodup:=by
   have:=h.1.nd;unfold iM at *
   rw[gH];exact this.imp λ{a b} hab z=>hab (yW z)
  have sub2:∀k∈(out.map (·.1)).map zt,k∈(sO s.gi).map (·.1):=λk hk=>by
   obtain⟨p,hp,rfl⟩:=bD.mp hk;obtain⟨r,hr,rfl⟩:=bD.mp hp;exact bu (f:=(·.1)) (mem_dOf.mpr ⟨r.1,r.2,Y,(h.2 r.1 r.2).mp hr⟩)
  have:=xR n2 sub2;simp only[bg] at this;lia
end
theorem zfs{H0 H1 H3:B}(s1:aP H0 H1)(hx:H1 x=ao)(hdx:H1 dx=ao)(k3:Kn x (upd (upd H1 dx (.own x)) x (.ins t.q00 dx [])) H3)(fr:∀b,OwA x a b->b=x\/upd (upd H1 dx (.own x)) x (.ins t.q00 dx []) b=ao):aP H1 H3/\∀b,OwA x a b->H1 b=ao:=by
 have s2:aP H1 (upd (upd H1 dx (HO.own x)) x (HO.ins t.q00 dx [])):=λb o e=>by rw[zh (zo e hx),zh (zo e hdx)];exact e
 refine⟨λb o e=>k3 b o (λz=>by rw[z,hx] at e;cases e) (s2 b o e),λb ob=>?_⟩;rcases fr b ob with z|z
 ·rw[z];exact hx
 ·exact zC s2 z
section
variable {C:List Cs}
theorem hV.has(R:hV t H x a C s)(ow:OwA x a b):H b≠ao:=by
 obtain⟨ys,hy,_⟩:=R.hc;rcases ow with (z|z|z|z|z)|z
 ·rw[z,R.ix];exact λz=>nomatch z
 ·rw[z,R.hs];exact λz=>nomatch z
 ·rw[z,R.hg];exact λz=>nomatch z
 ·rw[z,R.hn];exact λz=>nomatch z
 ·rw[z,R.ha];exact λz=>nomatch z
 ·rw[z,hy];exact λz=>nomatch z
end
theorem _root_.L2.PrAt.same{H H':B}(h:zaR H v q)(s:aP H H'):zaR H' v q:=by
 obtain⟨r,p,e,h1,h2⟩:=h;exact⟨r,p,e,s _ _ h1,s _ _ h2⟩
theorem _root_.L2.PrAt.tsame{H H':B}(h:zaR H v q)(s:za6 H H'):zaR H' v q:=by
 obtain⟨r,p,e,h1,h2⟩:=h;exact⟨r,p,e,s _ _ h1,s _ _ h2⟩
theorem jx{H H':B}(s:za6 H H'):∀ {vs:List V} {aT:List aW},Y6 H vs aT->Y6 H' vs aT
 |_,_,.nil=>.nil
 |_,_,.cons h r=>.cons (h.tsame s) (jx s r)
theorem Yh{H H':B}(s:aP H H'):∀ {vs:List V} {aT:List aW},Y6 H vs aT->Y6 H' vs aT
 |_,_,.nil=>.nil
 |_,_,.cons h r=>.cons (h.same s) (Yh s r)
theorem Ks{H:B}{v:V}{q:aW}:∀ {ys:List V} {aT:List aW},Y6 H ys aT->zaR H v q->Y6 H (ys++[v]) (aT++[q])
 |_,_,.nil,h=>.cons h .nil
 |_,_,.cons a r,h=>.cons a (Ks r h)
theorem za9(aT:List aW):∃qs:List Pl,(sO aT).map (·.1)=qs.map zt/\qs.Nodup/\∀p,p∈qs↔(zw aT p).isSome=ah:=by
 have h:=kN aT;have:∀(aO:List (List bv×V)),(∀kv∈aO,∃(p:Pl) (w:Int),kv=(zt p,.int w))->∃qs:List Pl,aO.map (·.1)=qs.map zt:=λaO=>by
  induction aO with
  |nil=>exact λ_=>⟨[],Y⟩
  |cons kv r ih =>
   intro hk;obtain⟨qs,e⟩:=ih λz hz=>hk z (bh _ hz);obtain⟨p,w,e2⟩:=hk kv bo;exact⟨p::qs,by rw[bx,bx,e,e2]⟩
 obtain⟨qs,e⟩:=this _ h.2;refine⟨qs,e,xz (f:=zt) (by rw[<-e];exact h.1),λp=>?_⟩;constructor
 ·intro hp;have:zt p∈(sO aT).map (·.1):=by rw[e];exact bu hp
  obtain⟨kv,hk,e1⟩:=bD.mp this;obtain⟨p',w,rfl,hw⟩:=mem_dOf.mp hk;have:=yW e1;subst this;rw[hw];rfl
 ·intro hp;obtain⟨w,hw⟩:=fI.mp hp;have:zt p∈qs.map zt:=by rw[<-e];exact bu (f:=(·.1)) (mem_dOf.mpr ⟨p,w,Y,hw⟩)
  obtain⟨p',hp',e1⟩:=bD.mp this;rw[<-yW e1];exact hp'
def Kt(aT:List aW)(p:Pl):Option aW:=match zw aT p with
 |some w=>if w=0 then ao else aa (p,w)
 |none=>ao
def zh3(aT:List aW)(qs:List Pl)(i:Nat)(ys:List V)(H:B):Prop:=∃out:List aW,Y6 H ys out/\out=(qs.take i).filterMap (Kt aT)
theorem zgJ{H H':B}(s:za6 H H')(h:zh3 aT qs i ys H):zh3 aT qs i ys H':=by
 obtain⟨out,h1,h2⟩:=h;exact⟨out,jx s h1,h2⟩
theorem tJ :Kt aT p=aa b↔b.1=p/\zw aT p=aa b.2/\b.2≠0:=by
 unfold Kt;obtain⟨p',w'⟩:=b;cases e:zw aT p with
 |none=>simp
 |some w =>
  by_cases h:w=0
  ·subst h;simp only[if_true];constructor
   ·intro z;cases z
   ·rintro⟨_,z,h2⟩;exact absurd (bL z).symm h2
  ·simp only[ap h,bI,Prod.mk.injEq];constructor
   ·rintro⟨rfl,rfl⟩;exact⟨Y,Y,h⟩
   ·rintro⟨rfl,rfl,_⟩;exact⟨Y,Y⟩
theorem zh4{ps:List Pl}(hw:ps.Pairwise λa b=>yb a b=ah)(hm:∀p,p∈ps↔(zw aT p).isSome=ah):zhf aT (ps.filterMap (Kt aT)):=by
 constructor
 ·unfold ti;rw[List.pairwise_filterMap];refine hw.imp λ{a a'} h b hb b' hb'=>?_;rw[(tJ.mp hb).1,(tJ.mp hb').1];exact h
 ·intro p w;rw[List.mem_filterMap];constructor
  ·rintro⟨a,_,h⟩;obtain⟨h1,h2,h3⟩:=tJ.mp h;cases h1;exact⟨h2,h3⟩
  ·rintro⟨h1,h2⟩;exact⟨p,(hm p).mpr (by rw[h1];rfl),tJ.mpr ⟨Y,h1,h2⟩⟩
theorem V3{p:Pl}{w:Int}:∀ {l:List aW},zw l p=aa w->(p,w)∈l
 |[],h=>by cases h
 |r::t,h=>by
  rw[zw] at h;cases e:zw t p with
  |some w' =>
   rw[e] at h;have:w'=w:=by simpa using h
   subst this;exact bh _ (V3 e)
  |none =>
   rw[e] at h;by_cases c:r.1=p
   ·rw[au c] at h;have:r.2=w:=by simpa using h
    rw[<-c,<-this];exact bo
   ·rw[ap c] at h;cases h
theorem sR.same{H H':B}(h:sR H a aT)(s:aP H H'):sR H' a aT:=by
 obtain⟨xs,h1,h2⟩:=h;exact⟨xs,s _ _ h1,Yh s h2⟩
theorem ziH(h:lfV v):qm v/\isJ v=aq/\plV v:=by
 rcases h with ⟨i,rfl,hi⟩|⟨x,rfl,hx⟩
 ·exact⟨.inl ⟨i,Y,hi⟩,Y,.inl ⟨i,Y⟩⟩
 ·have:=Xu hx;exact⟨.inr ⟨x,Y,()⟩,this.2.2.1,.inr ⟨x,Y,Yf hx⟩⟩
theorem sF.same{H H':B}(h:sF H nm ws)(s:aP H H'):sF H' nm ws:=⟨s _ _ h.1,h.2⟩
theorem zba(h:sF H nm ws)(n:Nat)(hl:ws.length=n)(hn:0<(n:Int))(e:Int):∃x,tL (ws.map V.str) (e%n)=aa (.str x)/\x∈ws/\yE x=ah:=by
 obtain⟨v,hv,hm⟩:=zhW e n (xs:=ws.map V.str) (by rw[bg,hl]) hn;obtain⟨x,hx,rfl⟩:=bD.mp hm;exact⟨x,hv,hx,h.2 x hx⟩
theorem Ku(ha:hU a)(hb:hU b)(hw:wdJ w)(l:a.length+b.length<1000):hU (a++b++[.str w]):=by
 refine⟨λaO=>?_,λz hz=>?_,by rw[bE,bE,eJ];lia⟩
 ·obtain⟨r1,g1⟩:=ha.1 aO;obtain⟨r2,g2⟩:=hb.1 aO;exact⟨_,zdq hw.1 g1 g2⟩
 ·rcases bC.mp hz with hz|hz
  ·rcases bC.mp hz with hz|hz
   ·exact ha.2.1 z hz
   ·exact hb.2.1 z hz
  ·rw[bt.mp hz];exact .inr ⟨w,Y,hw.2.1⟩
theorem zcN(ha:tmP a)(hb:tmP b)(hw:wdJ w):tmP (a++b++[.str w]):=λz hz=>by
 rcases bC.mp hz with hz|hz
 ·rcases bC.mp hz with hz|hz
  ·exact ha z hz
  ·exact hb z hz
 ·rw[bt.mp hz];exact .inr ⟨w,Y,hw.2.2⟩
theorem XU(h:lfV u):hU [u]/\tmP [u]:=by
 obtain⟨o1,j1,p1⟩:=ziH h;exact⟨zeX o1 j1,λz hz=>by rw[bt.mp hz];exact p1⟩
mutual
theorem zgK:∀(r:Rw) (k:Nat),(xg r k).length<=szR r/\r.cnt<=szR r
 |.iff e a b,k=>by
  have h1:=XV a (k+1);have h2:=XV b (k+2+(zR a (k+1)).length);have c:(Rw.iff e a b).cnt=max a.cnt b.cnt+1:=by rw[Rw.cnt]
  have z:szR (.iff e a b)=ZF a+ZF b+2:=by rw[szR]
  rw[xg,c,z];unfold blk;split
  ·exact⟨by simp;lia,()⟩
  ·exact⟨by simp;lia,()⟩
 |.take sh e sl,k=>by simp[xg,szR,Rw.cnt]
 |.give sh e f,k=>by simp[xg,szR,Rw.cnt]
 |.lt sl e,k=>by simp[xg,szR,Rw.cnt]
 |.say e,k=>by simp[xg,szR,Rw.cnt]
 |.off e,k=>by simp[xg,szR,Rw.cnt]
theorem XV:∀(r:hZ) (k:Nat),(zR r k).length<=ZF r/\r.cnt<=ZF r
 |.nil,k=>by simp[zR,ZF,hZ.cnt]
 |.cons r rs,k=>by
  have h1:=zgK r k;have h2:=XV rs (k+(xg r k).length);rw[zR,ZF,hZ.cnt,bE];lia
end
theorem rn0 :RnI C 0 st0:=⟨⟨(λk v e=>by cases e),(λr h=>nomatch h),(λr h=>nomatch h),bp _,bp _,bp _,bp _,cI⟩,(λr h=>nomatch h),(λr h=>nomatch h),λ_=>bW _,λw z=>nomatch z⟩
theorem zdF{J:It}{H1:B}{Q:B->Prop}{Bo:V->St->B->(V->St->B->Prop)->(St->B->Prop)->Prop}(n:Nat)(hn:n<=1000000)(C:St->Prop)(R:Nat->List V->B->Prop)(hm:∀i ys H H',(∀b o,b≠D->H b=aa o->H' b=aa o)->R i ys H->R i ys H')(hC:C τ₀)(h0:R 0 [] H1)
  (go:∀i H,aP H1 H->i<n->J.go i H) (stop:∀H,aP H1 H->J.stop n H) (hD:H1 D=ao)
  (hs:∀i x τ ys H H',C τ->aP H1 H->i<n->R i ys H->H D=aa (.lst ys)->J.yld i H x H'->Bo x τ H' (λv τ' H4=>C τ'/\R (i+1) (ys++[v]) H4/\aP H H4) (λτ' H4=>C τ'/\R (i+1) ys H4/\aP H H4))
  (hd:∀ys H,ys.length<=n->R n ys H->aP H1 H->H D=aa (.lst ys)->Q H) :
  ∃W:Nat->Nat->List V->St->B->Prop,(∃m,W 0 m [] τ₀ (upd H1 D (.lst [])))/\∀i m ys τ H,W i m ys τ H->H D=aa (.lst ys) /\
  ((J.stop i H/\Q H)\/(J.go i H/\ys.length<Bb/\∃N:V->St->B->Prop,
   (∀v τ' H',N v τ' H'->H' D=aa (.lst ys)/\∃m',m'<m/\W (i+1) m' (ys++[v]) τ' (upd H' D (.lst (ys++[v]))))/\∃Nf:St->B->Prop,(∀τ' H',Nf τ' H'->∃m',m'<m/\W (i+1) m' ys τ' H') /\
   ∀x H',J.yld i H x H'->Bo x τ H' N Nf)):=by
 have ext:∀ {H:B} {o:HO},aP H1 H->aP H1 (upd H D o):=λ{H o} h b u e=>by
  rw[zh (zo e hD)];exact h b u e
 refine⟨λi m ys τ H=>m=n-i/\i<=n/\ys.length<=i/\R i ys H/\aP H1 H/\H D=aa (.lst ys)/\C τ,⟨n,by simp,bW _,bp _,hm _ _ _ _ (λb o hb e=>by rw[zh hb];exact e) h0,ext (aP.refl _),ze,hC⟩,?_⟩;rintro i m ys τ H ⟨rfl,hi,hl,hR,hS,hy,hc⟩;refine⟨hy,?_⟩;by_cases hlt:i<n
 ·refine .inr ⟨go i H hS hlt,bZ (by lia:ys.length<=1000000) (),_,?_,_,?_,λx H' y=>hs i x τ ys H H' hc hS hlt hR hy y⟩
  ·rintro v τ' H4 ⟨c4,r4,s4⟩;have y4:=s4 _ _ hy;exact⟨y4,n-(i+1),(),Y,hlt,by simp;lia,hm _ _ _ _ (λb o hb e=>by rw[zh hb];exact e) r4,ext (hS.trans s4),ze,c4⟩
  ·rintro τ' H4 ⟨c4,r4,s4⟩;exact⟨n-(i+1),(),Y,hlt,(),r4,hS.trans s4,s4 _ _ hy,c4⟩
 ·obtain rfl:i=n:=by lia
  exact .inl ⟨stop H hS,hd ys H hl hR hS hy⟩
theorem zh5(I:RnI C m s)(h:Za s out):∀r∈out,sQ r.2=ah:=by
 unfold Za at h;cases e:s.why with
 |some w=>rw[e] at h;rw[h];exact λr hr=>nomatch hr
 |none =>
  rw[e] at h;intro r hr;exact wW (P:=λr=>sQ r.2=ah) I.ok.gw ((h.2 r.1 r.2).mp hr)
structure MkF(K:bw)(t:mt):Prop where
 cl:tG K t.q02
 g:aV K t.q02 "ground"
 f:aV K t.q02 "folded"
 w:aV K t.q02 "worths"
 r:aV K t.q02 "ranks"
theorem mkF{P:Str->Option af}(T:Txt K P t):MkF K t:=⟨T.q0d,T.q24,T.q23,T.q26,T.q25⟩
section
variable {gr wo rk:ac}{low:Int}
theorem ziY:de (bb "ground") (Y7 gr low wo rk)=aa (.ref gr):=by simp only[Y7,cq,beq_self_eq_true]
theorem ziI:de (bb "folded") (Y7 gr low wo rk)=aa (.int low):=by
 have h1:(bb "folded" == bb "ground")=aq:=by lia
 simp only[Y7,cq,h1,beq_self_eq_true]
theorem zgL:de (bb "worths") (Y7 gr low wo rk)=aa (.ref wo):=by
 have h1:(bb "worths" == bb "ground")=aq:=by lia
 have h2:(bb "worths" == bb "folded")=aq:=by lia
 simp only[Y7,cq,h1,h2,beq_self_eq_true]
theorem zgM:de (bb "ranks") (Y7 gr low wo rk)=aa (.ref rk):=by
 have h1:(bb "ranks" == bb "ground")=aq:=by lia
 have h2:(bb "ranks" == bb "folded")=aq:=by lia
 have h3:(bb "ranks" == bb "worths")=aq:=by lia
 simp only[Y7,cq,h1,h2,h3,beq_self_eq_true]
end
theorem zcO{rs:List Int}{k:Nat}{x:Int}(h:rs.Pairwise (· < ·))(e:rs[k]?=aa x):∀r∈rs.take (k+1),r<=x:=λr hr=>by
 obtain⟨j,hj⟩:=cZ hr;rw[fq] at hj;split at hj
 ·obtain⟨h1,h2⟩:=bn.mp hj;obtain⟨h3,h4⟩:=bn.mp e;rcases ib j k with hl|hg
  ·have:=eG.mp h j k h1 h3 hl;lia
  ·have:j=k:=by lia
   subst this;lia
 ·cases hj
theorem zgN{rs:List Int}{k:Nat}{x:Int}(h:rs.Pairwise (· < ·))(e:rs[k]?=aa x):∀r∈rs.drop k,x<=r:=λr hr=>by
 obtain⟨j,hj⟩:=cZ hr;rw[pK] at hj;obtain⟨h1,h2⟩:=bn.mp hj;obtain⟨h3,h4⟩:=bn.mp e;rcases mx j with rfl|hp
 ·simp only[Nat.add_zero] at h2;lia
 ·have:=eG.mp h k (k+j) h3 h1 ();lia
def mbW(a:ac)(aN:Int)(rs:List Int)(H:B)(m:Nat)(σ:St)(H':B):Prop:=∃(lo hi:Nat) (o:Option V),σ=[aa (.ref a),aa (.int aN),aa (.int lo),aa (.int hi),o]/\aP H H'/\lo<=hi/\hi<=rs.length/\m=hi-lo/\(∀r∈rs.take lo,r<aN)/\(∀r∈rs.drop hi,aN<=r)
theorem Yl{vs:List V}{_E:XK}(MF:MkF K t)(h:yG t vs H Q _E) :
  xK K t (sJ Q) (L2.start ["self","rank"] vs) H:=by
 obtain⟨m,dx,fs,low,aN,rfl,h1,h2,h3,q⟩:=h;simp only[xK,zK,L2.start,zy,KG,aQ,U,zF,zu,rI0,cY,cf,cp,b9,br,bH,bI,av,V.int.injEq,V.ref.injEq,V.bl.injEq,aw,cG,cz,decide_eq_true_eq];refine⟨_,_,_,h1,MF.cl,MF.f,_,h2,low,Y,?_⟩;rw[ap ()];exact q H (aP.refl H)
theorem zb7{H:B}(h:H p=ao):∃H',H'=upd H p o/\aP H H'/\H' p=aa o:=⟨_,Y,sN p h,ze⟩
theorem V4(p:Pl)(made:Int):∀(gs:List aW) (s:Int×Int),VZ p made gs s=match zw gs p with|none=>s|some w=>(made,w)
 |[],s=>rfl
 |r::gs,s=>by
  rw[VZ,V4 p made gs,zw];cases zw gs p with
  |some w=>rfl
  |none =>
   by_cases e:r.1=p
   ·rw[au e,au e];rfl
   ·rw[ap e,ap e];rfl
theorem wU(p:Pl)(aN:Int):∀(lays:List (Int×List aW)) (s:Int×Int),(wI p aN lays s=s/\∀y∈lays,s.1<y.1->y.1<aN->zw y.2 p=ao) \/
  ∃y∈lays,∃w,zw y.2 p=aa w/\y.1<aN/\s.1<y.1/\wI p aN lays s=(y.1,w)/\∀z∈lays,z.1<aN->zw z.2 p≠ao->z.1<=y.1
 |[],s=>.inl ⟨Y,λ_ h=>nomatch h⟩
 |l::ls,s=>by
  rw[wI];by_cases c:s.1<l.1/\l.1<aN
  ·rw[au c,V4];cases e:zw l.2 p with
   |some w =>
    rcases wU p aN ls (l.1,w) with ⟨h1,h2⟩|⟨y,hy,w',e1,e2,e3,e4,e5⟩
    ·refine .inr ⟨l,bo,w,e,c.2,c.1,h1,λz hz zr zn=>?_⟩;rcases bF.mp hz with rfl|hz
     ·exact rY _
     ·rcases Int.lt_or_le l.1 z.1 with hl|hl
      ·exact absurd (h2 z hz hl zr) zn
      ·exact hl
    ·have e3':l.1<y.1:=e3;refine .inr ⟨y,bh _ hy,w',e1,e2,(),e4,λz hz zr zn=>?_⟩;rcases bF.mp hz with rfl|hz
     ·lia
     ·exact e5 z hz zr zn
   |none =>
    rcases wU p aN ls s with ⟨h1,h2⟩|⟨y,hy,w',e1,e2,e3,e4,e5⟩
    ·refine .inl ⟨h1,λy hy a b=>?_⟩;rcases bF.mp hy with rfl|hy
     ·exact e
     ·exact h2 y hy a b
    ·refine .inr ⟨y,bh _ hy,w',e1,e2,e3,e4,λz hz zr zn=>?_⟩;rcases bF.mp hz with rfl|hz
     ·exact absurd e zn
     ·exact e5 z hz zr zn
  ·rw[ap c];rcases wU p aN ls s with ⟨h1,h2⟩|⟨y,hy,w',e1,e2,e3,e4,e5⟩
   ·refine .inl ⟨h1,λy hy a b=>?_⟩;rcases bF.mp hy with rfl|hy
    ·exact absurd ⟨a,b⟩ c
    ·exact h2 y hy a b
   ·refine .inr ⟨y,bh _ hy,w',e1,e2,e3,e4,λz hz zr zn=>?_⟩;rcases bF.mp hz with rfl|hz
    ·rcases Int.lt_or_le s.1 z.1 with hl|hl
     ·exact absurd ⟨hl,zr⟩ c
     ·lia
    ·exact e5 z hz zr zn
theorem wW{gs:List aW}{p:Pl}(nd:(gs.map (·.1)).Nodup):p∈gs.map (·.1)↔zw gs p≠ao:=by
 constructor
 ·intro h e;obtain⟨r,hr,rfl⟩:=bD.mp h;have:=(Xx (p:=r.1) (w:=r.2) nd).mpr hr;rw[e] at this;cases this
 ·intro h;cases e:zw gs p with
  |none=>exact absurd e h
  |some w=>exact bD.mpr ⟨_,(Xx nd).mp e,Y⟩
theorem Qx{rk:ac}{F:ac->Prop}{r:Int}{gs:List aW}:∀ {wk:List (bv×V)} {l:List (Int×List aW)},Paired (zaS H rk F) wk l->(l.map (·.1)).Nodup->(r,gs)∈l->∃d,zS wk (.inl r)=aa (.ref d)/\F d/\d≠rk/\H d=aa (.dT (sO gs))
 |_,_,.nil,_,h=>nomatch h
 |_,_,@Paired.cons _ _ _ kv y wk l ⟨e,d,e2,fd,nd,hd⟩ rest,n,h=>by
  rw[bx,ca] at n;rcases bF.mp h with rfl|h
  ·exact⟨d,by rw[yB e,e2],fd,nd,hd⟩
  ·have ne:¬ kv.1=.inl r:=λz=>n.1 (by rw[e] at z;cases z;exact bu (f:=(·.1)) h);rw[yC ne];exact Qx rest n.2 h
theorem zcP{rk:ac}{F:ac->Prop}:∀ {wk:List (bv×V)} {l:List (Int×List aW)},Paired (zaS H rk F) wk l->wk.map (·.1)=l.map λy=>(gb y.1:bv)
 |_,_,.nil=>rfl
 |_,_,.cons h rest=>by rw[bx,bx,h.1,zcP rest]
theorem Qy{rk:ac}{F:ac->Prop}{r:Int}{wk:List (bv×V)}{l:List (Int×List aW)}(h:Paired (zaS H rk F) wk l)(n:r ∉ l.map (·.1)):zS wk (.inl r)=ao:=by
 refine V2 λz=>n ?_;rw[zcP h] at z;obtain⟨y,hy,e⟩:=bD.mp z;cases e;exact bu hy
theorem Qz{rk:ac}{F:ac->Prop}{r:Int}:∀ {wk:List (bv×V)} {l:List (Int×List aW)},Paired (zaS H rk F) wk l->Paired (zaS H rk F) (yc wk (.inl r)) (Jt l r)
 |_,_,.nil=>.nil
 |_,_,@Paired.cons _ _ _ kv y wk l h rest=>by
  unfold Jt;by_cases e:y.1=r
  ·rw[J6 (by rw[h.1,e]),fR (by simp[e])];exact Qz rest
  ·rw[Wh (λz=>e (by rw[h.1] at z;cases z;rfl)),fS (by simp[e])];exact .cons h (Qz rest)
theorem zgO{l:List (Int×List aW)}{r:Int}(h:r ∉ l.map (·.1)):Jt l r=l:=oV.mpr λy hy=>Bj λe=>h (by rw[<-e];exact bu hy)
theorem V5{l:List (Int×List aW)}{r:Int}:r ∉ (Jt l r).map (·.1):=λh=>by
 obtain⟨y,hy,e⟩:=bD.mp h;exact of_decide_eq_true (cC.mp hy).2 e
theorem sG.get{rk:ac}{F:ac->Prop}{P:Pl->Int->Prop}{kk:List (List bv×V)}(h:sG H rk F P kk)(p:Pl):(∃a rs,(zt p,V.ref a)∈kk/\zS kk (zt p)=aa (.ref a)/\F a/\H a=aa (.lst (rs.map V.int))/\rs.Pairwise (· < ·)/\rs≠[]/\∀r,r∈rs↔P p r)\/(zS kk (zt p)=ao/\zt p ∉ kk.map (·.1)/\∀r,¬ P p r):=by
 by_cases hm:zt p∈kk.map (·.1)
 ·obtain⟨kv,hk,e⟩:=bD.mp hm;obtain⟨p',a,rs,rfl,z⟩:=h.ls kv hk;have:p'=p:=yW e;subst this;exact .inl ⟨a,rs,hk,Qk h.nk _ hk,z⟩
 ·exact .inr ⟨V2 hm,hm,λr hr=>hm (h.al p r hr)⟩
theorem zh6{rs:List Int}{l:List (Int×List aW)}{p:Pl}(h:rs.Pairwise (· < ·))(hr:∀r,r∈rs->Yj l p r):rs.length<=l.length:=by
 have nd:rs.Nodup:=mR (λh=>rB h) h;have:=xR (b:=l.map (·.1)) nd λx hx=>let ⟨gs,h1,_⟩:=hr x hx;bD.mpr ⟨_,h1,Y⟩
 simpa using this
section
variable {G:ac->Prop}{rk a:ac}{H' H'':B}
theorem ss.refl:ss G rk H H:=λ_ _ e _ _=>e
theorem ss.same(k:ss G rk H H')(s:aP H' H''):ss G rk H H'':=λb o e n z=>s _ _ (k b o e n z)
theorem ss.dct(k:ss G rk H H')(o:HO):ss G rk H (upd H' rk o):=λb u e n z=>by rw[zh n];exact k b u e n z
theorem ss.lst(k:ss G rk H H')(ha:H' a=aa (.lst xs))(ga:G a):ss G rk H (upd H' a (.lst ys)):=λb u e n z=>by
 have e2:=k b u e n z;by_cases hb:b=a
 ·subst hb;rcases z with z|z
  ·rw[ha] at e2;exact absurd (bL e2).symm (z xs)
  ·exact absurd ga z
 ·rw[zh hb];exact e2
end
theorem QA{α β:Type}{f:α->β}:∀ {l:List α},(l.map f).Nodup->∀ {x y:α},x∈l->y∈l->f x=f y->x=y
 |[],_,_,_,h,_,_=>nomatch h
 |c::l,n,x,y,hx,hy,e=>by
  rw[bx,ca] at n;rcases bF.mp hx with h1|h1
  ·rcases bF.mp hy with h2|h2
   ·rw[h1,h2]
   ·exact absurd (by rw[<-h1,e];exact bu h2) n.1
  ·rcases bF.mp hy with h2|h2
   ·exact absurd (by rw[<-h2,<-e];exact bu h1) n.1
   ·exact QA n.2 h1 h2 e
section
variable {G:ac->Prop}{rk a:ac}{P P':Pl->Int->Prop}{kk:List (List bv×V)}{q0:Pl}{aN:Int}{rs:List Int}
theorem sG.one(h:sG H rk G P kk)(hk:(zt q0,V.ref a)∈kk){p':Pl}(hk2:(zt p',V.ref a')∈kk):a'=a↔p'=q0:=by
 constructor
 ·intro e;have:=QA h.nv hk2 hk (by rw[e]);exact yW (congrArg Prod.fst this)
 ·intro e;have:=QA h.nk hk2 hk (by rw[e]);exact V.ref.inj (congrArg Prod.snd this)
theorem zbb(h:sG H rk G P kk)(ha:H a=aa (.lst (rs.map V.int))):rk≠a:=zD h.at_ ha ()
theorem Kv{r:Int}(hs:rs.Pairwise (· < ·)):r∈rs.erase aN↔r∈rs/\r≠aN:=by
 have nd:rs.Nodup:=mR (λh=>rB h) hs;rw[nd.mem_erase_iff,and_comm]
theorem sG.out1(h:sG H rk G P kk)(hk:(zt q0,V.ref a)∈kk)(ha:H a=aa (.lst (rs.map V.int)))(hs:rs.Pairwise (· < ·))(hi:∀r,r∈rs↔P q0 r)(hne:rs.erase aN≠[])(hP:∀p r,P' p r↔P p r/\¬ (r=aN/\p=q0)):sG (upd H a (.lst ((rs.erase aN).map V.int))) rk G P' kk where
 at_:=by rw[zh (zbb h ha)];exact h.at_
 nk:=h.nk
 nv:=h.nv
 ls:=λkv hkv=>by
  obtain⟨p',a',rs',rfl,ga,ha',hs',hn',hi'⟩:=h.ls kv hkv;by_cases e:a'=a
  ·have ep:=(h.one hk hkv).mp e;subst e ep;refine⟨p',a',rs.erase aN,Y,ga,ze,hs.sublist pL,hne,λr=>?_⟩;rw[Kv hs,hP,hi];exact⟨λz=>⟨z.1,λy=>z.2 y.1⟩,λz=>⟨z.1,λy=>z.2 ⟨y,Y⟩⟩⟩
  ·have ep:¬ p'=q0:=λz=>e ((h.one hk hkv).mpr z);refine⟨p',a',rs',Y,ga,by rw[zh e];exact ha',hs',hn',λr=>?_⟩;rw[hi',hP];exact⟨λz=>⟨z,λy=>ep y.2⟩,λz=>z.1⟩
 al:=λp r z=>h.al p r ((hP p r).mp z).1
theorem sG.out2(h:sG H rk G P kk)(hk:(zt q0,V.ref a)∈kk)(ha:H a=aa (.lst (rs.map V.int)))(hs:rs.Pairwise (· < ·))(hi:∀r,r∈rs↔P q0 r)(hne:rs.erase aN=[])(hP:∀p r,P' p r↔P p r/\¬ (r=aN/\p=q0)){us:List V}:sG (upd (upd H a (.lst us)) rk (.dT (yc kk (zt q0)))) rk G P' (yc kk (zt q0)) where
 at_:=ze
 nk:=iA (gU _ dF) h.nk
 nv:=iA (gU _ dF) h.nv
 ls:=λkv hkv=>by
  have hkv2:=zdk hkv;have ne:kv.1≠zt q0:=of_decide_eq_true (cC.mp hkv).2;obtain⟨p',a',rs',rfl,ga,ha',hs',hn',hi'⟩:=h.ls kv hkv2;have ep:¬ p'=q0:=λz=>ne (by rw[z]);have e:¬ a'=a:=λz=>ep ((h.one hk hkv2).mp z);refine⟨p',a',rs',Y,ga,by rw[zh (zbb h ha').symm,zh e];exact ha',hs',hn',λr=>?_⟩;rw[hi',hP];exact⟨λz=>⟨z,λy=>ep y.2⟩,λz=>z.1⟩
 al:=λp r z=>by
  obtain⟨z1,z2⟩:=(hP p r).mp z;obtain⟨kv,hkv,e⟩:=bD.mp (h.al p r z1);refine bD.mpr ⟨kv,cC.mpr ⟨hkv,Bj λy=>?_⟩,e⟩;have:p=q0:=yW (e.symm.trans y);subst this;have hr:r∈rs:=(hi r).mpr z1;by_cases er:r=aN
  ·exact z2 ⟨er,Y⟩
  ·have:=(Kv (aN:=aN) hs).mpr ⟨hr,er⟩;rw[hne] at this;cases this
theorem zb8{k:Nat}(hs:rs.Pairwise (· < ·))(hlt:∀r∈rs.take k,r<aN)(hge:∀r∈rs.drop k,aN<=r)(hno:aN ∉ rs):(rs.take k++aN::rs.drop k).Pairwise (· < ·):=by
 have gt:∀r∈rs.drop k,aN<r:=λr hr=>by
  have h1:=hge r hr;have h2:r≠aN:=λz=>hno (by rw[<-z];exact dv hr);lia
 rw[gL,pH];refine⟨hs.sublist (pO ..),⟨gt,hs.sublist (pU ..)⟩,λx hx y hy=>?_⟩;have:=hlt x hx;rcases bF.mp hy with rfl|hy
 ·exact this
 ·have:=gt y hy;lia
theorem zgP{r:Int}:r∈rs.take k++aN::rs.drop k↔r∈rs\/r=aN:=by
 rw[bC,bF];constructor
 ·rintro(h|h|h)
  ·exact .inl (dJ h)
  ·exact .inr h
  ·exact .inl (dv h)
 ·rintro(h|h)
  ·have:r∈rs.take k++rs.drop k:=by rw[fm];exact h
   rcases bC.mp this with z|z
   ·exact .inl z
   ·exact .inr (.inr z)
  ·exact .inr (.inl h)
theorem sG.in1{k:Nat}(h:sG H rk G P kk)(hk:(zt q0,V.ref a)∈kk)(ha:H a=aa (.lst (rs.map V.int)))(hs:rs.Pairwise (· < ·))(hi:∀r,r∈rs↔P q0 r)(hlt:∀r∈rs.take k,r<aN)(hge:∀r∈rs.drop k,aN<=r)(hno:¬ P q0 aN)(hP:∀p r,P' p r↔P p r\/(r=aN/\p=q0)):sG (upd H a (.lst ((rs.take k++aN::rs.drop k).map V.int))) rk G P' kk where
 at_:=by rw[zh (zbb h ha)];exact h.at_
 nk:=h.nk
 nv:=h.nv
 ls:=λkv hkv=>by
  obtain⟨p',a',rs',rfl,ga,ha',hs',hn',hi'⟩:=h.ls kv hkv;by_cases e:a'=a
  ·have ep:=(h.one hk hkv).mp e;subst e ep;refine⟨p',a',_,Y,ga,ze,zb8 hs hlt hge (λz=>hno ((hi _).mp z)),by simp,λr=>?_⟩;rw[zgP,hP,hi];exact⟨λz=>z.imp_right λy=>⟨y,Y⟩,λz=>z.imp_right λy=>y.1⟩
  ·have ep:¬ p'=q0:=λz=>e ((h.one hk hkv).mpr z);refine⟨p',a',rs',Y,ga,by rw[zh e];exact ha',hs',hn',λr=>?_⟩;rw[hi',hP];exact⟨λz=>.inl z,λz=>z.elim id λy=>absurd y.2 ep⟩
 al:=λp r z=>by
  rcases(hP p r).mp z with z|⟨_,rfl⟩
  ·exact h.al p r z
  ·exact bD.mpr ⟨_,hk,Y⟩
theorem sG.in2(h:sG H rk G P kk)(hk:zt q0 ∉ kk.map (·.1))(hno:∀r,¬ P q0 r)(ga:G a)(hf:∀kv∈kk,kv.2≠.ref a)(ha:a≠rk)(hP:∀p r,P' p r↔P p r\/(r=aN/\p=q0)):sG (upd (upd H rk (.dT (kk++[(zt q0,V.ref a)]))) a (.lst [V.int aN])) rk G P' (kk++[(zt q0,V.ref a)]) where
 at_:=by rw[zh ha.symm];exact ze
 nk:=by
  rw[bS,du];refine⟨h.nk,by simp,λx hx y hy=>?_⟩;have:y=zt q0:=by simpa using hy
  rw[this];exact λz=>hk (by rw[<-z];exact hx)
 nv:=by
  rw[bS,du];refine⟨h.nv,by simp,λx hx y hy=>?_⟩;have:y=V.ref a:=by simpa using hy
  rw[this];obtain⟨kv,hkv,rfl⟩:=bD.mp hx;exact hf kv hkv
 ls:=λkv hkv=>by
  rcases bC.mp hkv with hkv|hkv
  ·obtain⟨p',a',rs',rfl,ga',ha',hs',hn',hi'⟩:=h.ls kv hkv;have e:a'≠a:=λz=>hf _ hkv (by rw[z]);have ep:p'≠q0:=λz=>hk (bD.mpr ⟨_,hkv,by rw[z]⟩);refine⟨p',a',rs',Y,ga',by rw[zh e,zh (zbb h ha').symm];exact ha',hs',hn',λr=>?_⟩;rw[hi',hP];exact⟨λz=>.inl z,λz=>z.elim id λy=>absurd y.2 ep⟩
  ·have:=bt.mp hkv;subst this;refine⟨q0,a,[aN],Y,ga,ze,by simp,by simp,λr=>?_⟩;rw[hP,bt];exact⟨λz=>.inr ⟨z,Y⟩,λz=>z.elim (λy=>absurd y (hno r)) λy=>y.1⟩
 al:=λp r z=>by
  rw[bS,bC];rcases(hP p r).mp z with z|⟨_,rfl⟩
  ·exact .inl (h.al p r z)
  ·exact .inr (by simp)
theorem sG.eqv(h:sG H rk G P kk)(e:∀p r,P p r↔P' p r):sG H rk G P' kk:=⟨h.at_,h.nk,h.nv,λkv hk=>let ⟨p,a,rs,e1,fa,ha,hs,hn,hi⟩:=h.ls kv hk;⟨p,a,rs,e1,fa,ha,hs,hn,λr=>(hi r).trans (e p r)⟩,λp r z=>h.al p r ((e p r).mpr z)⟩
end
def taI(m Bp rk:ac)(aN:Int)(ys:List V)(F:ac->Prop)(P:Pl->Int->Prop)(gs:List aW)(H:B)(i:Nat)(σ:St)(H':B):Prop:=(∃o3,σ=[aa (.ref m),aa (.int aN),aa (.ref Bp),o3])/\ss F rk H H'/\Dm H H'/\∃kk,sG H' rk F (λp r=>P p r/\¬ (r=aN/\p∈(gs.take i).map (·.1))) kk
theorem sG.keep2{H':B}{rk:ac}{F F':ac->Prop}{P:Pl->Int->Prop}(h:sG H rk F P aO)(hr:H' rk=H rk)(k:∀b xs,F b->H b=aa (.lst xs)->H' b=aa (.lst xs))(ff:∀b,F b->(∃o,H' b=aa o)->F' b):sG H' rk F' P aO:=
 ⟨hr.trans h.at_,h.nk,h.nv,λkv hk=>let ⟨p,a,rs,e,fa,ha,z⟩:=h.ls kv hk;⟨p,a,rs,e,ff a fa ⟨_,k _ _ fa ha⟩,k _ _ fa ha,z⟩,h.al⟩
theorem Dm.refl:Dm H H:=λb o e=>⟨o,e,λ_ z=>z⟩
theorem Dm.trans{H1 H2:B}(h:Dm H H1)(k:Dm H1 H2):Dm H H2:=λb o e=>by
 obtain⟨o1,e1,z1⟩:=h b o e;obtain⟨o2,e2,z2⟩:=k b o1 e1;exact⟨o2,e2,λzs z=>z1 zs (z2 zs z)⟩
theorem Dm.of_same{H1:B}(s:aP H H1):Dm H H1:=λb o e=>⟨o,s _ _ e,λ_ z=>z⟩
theorem Dm.upd(n:∀zs,o'≠.tup zs):Dm H (upd H a o'):=λb o e=>by
 by_cases c:b=a
 ·subst c;exact⟨_,ze,λzs z=>absurd z (n zs)⟩
 ·exact⟨o,by rw[zh c];exact e,λ_ z=>z⟩
theorem JC{vs:List V}{_E:XK}(h:xn vs H Q _E) :
  qM K t (sJ Q) (L2.start ["ranks_at","place","rank","ranks"] vs) H:=by
 obtain⟨rk,pl,aN,G,P,kk,q0,rfl,hr,fk,hp,hP,q⟩:=h;rcases hr.get q0 with ⟨a,rs,hk,hv,fa,ha,hs,hne,hi⟩|⟨_,_,hn⟩
 ·have hir:aN∈rs:=(hi aN).mpr hP;have ar:=zbb hr ha;simp only[qM,v0,zb1,jL,L2.start,Qe,zj,zE,zm,zT,zy,aQ,U,xu,Z,zf,zF,zu,tBM,tyV,cY,cf,cp,cL,dh,br,bH,bI,av,V.int.injEq,V.ref.injEq,V.bl.injEq,bX,and_true,true_and,aw,cH,cX,cG,cz,decide_eq_true_eq];refine⟨.ref a,(by rw[<-hv];exact .t hr.at_ hp),.inl ⟨_,aY.of ha⟩,a,Y,rs,ha,hir,(),λz hz=>?_⟩;have k2:=(ss.refl (G:=G) (rk:=rk) (H:=H)).lst (ys:=(rs.erase aN).map V.int) ha fa;have d2:Dm H (upd H a (.lst ((rs.erase aN).map V.int))):=Dm.upd λ_ z=>nomatch z
  have pa:pl≠a:=zD hp ha ();have hp2:upd H a (.lst ((rs.erase aN).map V.int)) pl=aa (.tup ((zt q0).map kV)):=by rw[zh pa];exact hp
  have hk2:upd H a (.lst ((rs.erase aN).map V.int)) rk=aa (.dT kk):=by rw[zh ar];exact hr.at_
  obtain⟨H3,eH,s3,q3⟩:=zb7 (o:=HO.lst []) hz;rw[<-eH];clear eH;refine⟨a,Y,_,aY.of (s3 _ _ ze),aY.of q3,?_⟩;by_cases e:rs.erase aN=[]
  ·rw[au (by rw[e];rfl)];refine⟨.inr ⟨_,.inl (s3 _ _ hk2)⟩,kk,s3 _ _ hk2,zt q0,s3 _ _ hp2,_,hv,q _ (yc kk (zt q0)) ((k2.same s3).dct _) (d2.trans ((Dm.of_same s3).trans (Dm.upd λ_ z=>nomatch z))) ?_⟩;refine(hr.out2 (us:=(rs.erase aN).map V.int) hk ha hs hi e λp r=>rW).keep fk (λb o fb eb=>?_) (λ_ z=>z);by_cases hb:b=rk
   ·subst hb;rw[ze] at eb ⊢;exact eb
   ·rw[zh hb] at eb ⊢;exact s3 _ _ eb
  ·rw[ap (λz=>e (List.map_eq_nil_iff.mp z))];exact q _ kk (k2.same s3) (d2.trans (Dm.of_same s3)) ((hr.out1 hk ha hs hi e λp r=>rW).keep fk (λb o _ eb=>s3 _ _ eb) (λ_ z=>z))
 ·exact absurd hP (hn aN)
theorem ss.trans{G:ac->Prop}{rk:ac}{H1 H2:B}(h:ss G rk H H1)(k:ss G rk H1 H2):ss G rk H H2:=λb o e n z=>k b o (h b o e n z) n z
theorem zcQ{m Bp dx gr wo rk:ac}{aN low:Int}{ys:List V}{F:ac->Prop}{P:Pl->Int->Prop}{gs:List aW}{kk:List (List bv×V)}{o3:Option V}(MF:MkF K t)(hm:H m=aa (.ins t.q02 dx (Y7 gr low wo rk)))(hL:H Bp=aa (.lst ys))(nL:¬ F Bp)(hy:Paired (zdz H) ys (sO gs))(nd:(gs.map (·.1)).Nodup)(hP:∀r∈gs,P r.1 aN)(hr:sG H rk F P kk)(fk:F rk)
  (q:∀H' kk',ss F rk H H'->Dm H H'->sG H' rk F (λp r=>P p r/\¬ (r=aN/\p∈gs.map (·.1))) kk'->Q .non H') :
  xj K t (sJ Q) [aa (.ref m),aa (.int aN),aa (.ref Bp),o3] H:=by
 have mr:m≠rk:=zD hm hr.at_ ();have ly:ys.length=gs.length:=by rw[bN hy,Wx nd,bg]
 simp only[xj,xn,zK,zm,zT,U,Z,zf,wZ,zG,xc,b9,br,bH,bI,av,V.ref.injEq,bX,and_true,and_assoc,aw];refine⟨⟨_,aY.of hL⟩,yv ys (taI m Bp rk aN ys F P gs H) ⟨⟨_,Y⟩,ss.refl,Dm.refl,kk,hr.eqv λp r=>by simp⟩ (λi σ H' ⟨_,k,_⟩=>aY.of (k _ _ hL (λz=>nL (by rw[z];exact fk)) (.inr nL))) ?_ ?_⟩
 ·rintro i u σ H' hu ⟨⟨o3,rfl⟩,k,dm,kk',hr'⟩;obtain⟨kv,hkv,p,rfl,hp⟩:=Paired.getP hy hu;rw[Wx nd,bB] at hkv;obtain⟨r0,hr0,rfl⟩:=b8.mp hkv;have hp:H p=aa (.tup ((zt r0.1).map kV)):=hp;have hp':H' p=aa (.tup ((zt r0.1).map kV)):=k _ _ hp (zD hp hr.at_ ()) (.inl λ_ z=>nomatch z);have hm':=k _ _ hm mr (.inl λ_ z=>nomatch z);have hno:r0.1 ∉ (gs.take i).map (·.1):=λz=>by
   obtain⟨j,hj⟩:=cZ z;rw[bB,fq] at hj;split at hj
   ·rename_i hji;have a1:(gs.map (·.1))[j]?=aa r0.1:=by rw[bB];exact hj
    have a2:(gs.map (·.1))[i]?=aa r0.1:=by rw[bB,hr0];rfl
    have:=(gI (bn.mp a1).1 nd).mp (a1.trans a2.symm);lia
   ·cases hj
  have hPi:∀p r,((P p r/\¬ (r=aN/\p∈(gs.take i).map (·.1)))/\¬ (r=aN/\p=r0.1))↔(P p r/\¬ (r=aN/\p∈(gs.take (i+1)).map (·.1))):=λp r=>by
   rw[dt,hr0,bS,bC];have:p∈cY (·.1) (aa r0).toList↔p=r0.1:=by simp
   rw[this];exact⟨λ⟨⟨a,b⟩,c⟩=>⟨a,λd=>d.2.elim (λe=>b ⟨d.1,e⟩) λe=>c ⟨d.1,e⟩⟩,λ⟨a,b⟩=>⟨⟨a,λc=>b ⟨c.1,.inl c.2⟩⟩,λc=>b ⟨c.1,.inr c.2⟩⟩⟩
  simp only[br,bH,bI,av,V.int.injEq,V.ref.injEq,cH,cX];refine⟨_,_,_,hm',MF.cl,MF.r,_,zgM,rk,Y,F,_,kk',hr',fk,r0.1,hp',⟨hP r0 (bV hr0),λz=>hno z.2⟩,λH2 kk2 k2 d2 r2=>⟨⟨_,Y⟩,k.trans k2,dm.trans d2,kk2,r2.eqv hPi⟩⟩
 ·rintro σ H' ⟨⟨o3,rfl⟩,k,dm,kk',hr'⟩;rw[ly,eu] at hr';exact q H' kk' k dm hr'
theorem Ym{vs:List V}{_E:XK}(MF:MkF K t)(h:yo t vs H Q _E) :
  xL K t (sJ Q) (L2.start ["self","rank"] vs) H:=by
 obtain⟨m,aN,F,g,lays,low,rfl,h1,q⟩:=h;simp only[xL,qf,vA,zK,ze6,L2.start,vA,zA,U,Z,zf,sM,cY,cf,cp,b9,br,bH,bI,av,V.ref.injEq,bX,and_true,aw,cG,cz];obtain⟨dx,gr,wo,rk,wk,kk,M⟩:=h1.ex;refine⟨_,_,_,M.im,MF.cl,MF.w,_,zgL,wo,Y,.inl ⟨_,.inl M.hw⟩,λp hp=>?_⟩;obtain⟨H1,eH,s1,q1⟩:=zb7 (o:=HO.dT []) hp;rw[<-eH];clear eH;have M1:=M.keep h1.me λb o _ e=>s1 _ _ e;by_cases hin:aN∈lays.map (·.1)
 ·obtain⟨y,hy,ey⟩:=bD.mp hin;obtain⟨r',gs⟩:=y;have ey:r'=aN:=ey;subst ey;obtain⟨d,v1,fd,nd,hd⟩:=Qx M1.wp h1.nd hy;have hg:=sT.k (k:=.inl r') M1.hw;rw[v1] at hg;refine⟨_,hg,d,Y,sO gs,hd,λl ys hl pr=>?_⟩;have s3:=sN (o:=HO.lst ys) l hl;exact q l ys gs _ (s1.trans s3) (zC s1 hl) ze (Paired.mapP pr λ_ _ ⟨p,e,h⟩=>⟨p,e,s3 _ _ h⟩) (.inl hy)
 ·have hg:=sT.k (k:=.inl aN) M1.hw;rw[Qy M1.wp hin] at hg;refine⟨_,hg,p,Y,[],q1,λl ys hl pr=>?_⟩;have s3:=sN (o:=HO.lst ys) l hl;exact q l ys [] _ (s1.trans s3) (zC s1 hl) ze (Paired.mapP pr λ_ _ ⟨p,e,h⟩=>⟨p,e,s3 _ _ h⟩) (.inr ⟨hin,Y⟩)
theorem zft{m dx gr wo rk:ac}{low:Int}{F:ac->Prop}{g:List aW}{l':List (Int×List aW)}{wk':List (bv×V)}{kk':List (List bv×V)}{H3 H':B}(me:F m)(fg:F gr)(fw:F wo)(fk:F rk)(nr:gr≠rk)(im:H3 m=aa (.ins t.q02 dx (Y7 gr low wo rk)))(hg:H3 gr=aa (.dT (sO g)))(hw:H3 wo=aa (.dK wk'))(hk3:∃kk,H3 rk=aa (.dT kk))(wp:Paired (zaS H3 rk F) wk' l')(k:ss F rk H3 H')(own:∀b,F b->∃o,H' b=aa o)(rr:sG H' rk F (Yj l') kk')(nd:(l'.map (·.1)).Nodup)(ok:∀y∈l',0<=y.1/\W7 y.2):tq t H' m F g l' low:=by
 obtain⟨kk,hk3⟩:=hk3;exact⟨own,me,nd,ok,dx,gr,wo,rk,wk',kk',k _ _ im (zD im hk3 ()) (.inl λ_ z=>nomatch z),fg,fw,fk,nr,k _ _ hg nr (.inl λ_ z=>nomatch z),k _ _ hw (zD hw hk3 ()) (.inl λ_ z=>nomatch z),Paired.mapP wp λ_ _ ⟨e,d,e2,fd,nd,hd⟩=>⟨e,d,e2,fd,nd,k _ _ hd nd (.inl λ_ z=>nomatch z)⟩,rr⟩
theorem Kw{F:ac->Prop}{rk:ac}{H H':B}(fk:F rk)(k:ss F rk H H'):∀b o,¬ F b->H b=aa o->H' b=aa o:=λb o n e=>k b o e (λz=>n (by rw[z];exact fk)) (.inr n)
theorem zfu{l:List (Int×List aW)}{aN:Int}{gs:List aW}(nd:(l.map (·.1)).Nodup)(h:(aN,gs)∈l)(p:Pl)(r:Int):(Yj l p r/\¬ (r=aN/\p∈gs.map (·.1)))↔Yj (Jt l aN) p r:=by
 constructor
 ·rintro⟨⟨g2,h1,h2⟩,n⟩;refine⟨g2,cC.mpr ⟨h1,Bj λz=>?_⟩,h2⟩;have z:r=aN:=z;subst z;have:=QA nd h1 h rfl;cases this;exact n ⟨Y,h2⟩
 ·rintro⟨g2,h1,h2⟩;obtain⟨h3,h4⟩:=cC.mp h1;exact⟨⟨g2,h3,h2⟩,λz=>of_decide_eq_true h4 z.1⟩
theorem Yn{vs:List V}{_E:XK}(MF:MkF K t)(h:yZ t vs H Q _E) :
  xM K t (sJ Q) (L2.start ["self","rank","places","place"] vs) H:=by
 obtain⟨m,aN,F,g,lays,low,rfl,h1,q⟩:=h;simp only[xM,yo,zK,zN,KZ,L2.start,zj,zE,zm,zT,U,L,Z,zf,cY,cf,cp,cL,dh,b9,br,bH,bI,av,V.int.injEq,V.ref.injEq,bX,and_true,and_assoc,aw,cH,cX,cG,cz];obtain⟨dx,gr,wo,rk,wk,kk,M⟩:=h1.ex;refine⟨_,_,M.im,kO (),F,g,lays,low,h1,λBp ys gs H1 s1 fL hL hy ho=>?_⟩;have M1:=M.keep h1.me λb o _ e=>s1 _ _ e;have okf:∀y∈Jt lays aN,0<=y.1/\W7 y.2:=λy hy=>h1.ok y (cC.mp hy).1;have ndf:((Jt lays aN).map (·.1)).Nodup:=iA (gU _ dF) h1.nd;have nL:¬ F Bp:=λz=>by obtain⟨o,e⟩:=h1.own Bp z;rw[fL] at e;cases e
 have ownD:∀ {H2:B},Dm H1 H2->∀b,F b->∃o,H2 b=aa o:=λdm b hb=>by
  obtain⟨o,e⟩:=h1.own b hb;obtain⟨o',e',_⟩:=dm b o (s1 _ _ e);exact⟨o',e'⟩
 refine⟨_,_,_,M1.im,MF.cl,MF.w,_,zgL,wo,Y,.inl ⟨_,.inl M1.hw⟩,wk,M1.hw,.inl aN,Y,λv hv=>?_,λhv=>?_⟩
 ·have hin:aN∈lays.map (·.1):=fC λz=>by rw[Qy M1.wp z] at hv;cases hv
  have hy0:(aN,gs)∈lays:=ho.resolve_right λz=>z.1 hin;have okg:=(h1.ok _ hy0).2;have wm:m≠wo:=zD M1.im M1.hw ();have wg:gr≠wo:=zD M1.hg M1.hw ();have wr:rk≠wo:=zD M1.rr.at_ M1.hw ();have n2:∀b o,b≠wo->H1 b=aa o->upd H1 wo (HO.dK (yc wk (.inl aN))) b=aa o:=λb o n e=>by rw[zh n];exact e
  have w2:upd H1 wo (HO.dK (yc wk (.inl aN))) wo=aa (HO.dK (yc wk (.inl aN))):=ze;have d2:Dm H1 (upd H1 wo (HO.dK (yc wk (.inl aN)))):=Dm.upd λ_ z=>nomatch z
  generalize upd H1 wo (HO.dK (yc wk (.inl aN)))=H2 at *
  have rr2:sG H2 rk F (Yj lays) kk:=M1.rr.keep2 (by rw[n2 _ _ wr M1.rr.at_,M1.rr.at_]) (λb xs _ e=>n2 _ _ (zD e M1.hw ()) e) (λ_ z _=>z);refine zcQ MF (n2 _ _ wm M1.im) (n2 _ _ (zD hL M1.hw ()) hL) nL (Paired.mapP hy λ_ _ ⟨p,e,h⟩=>⟨p,e,n2 _ _ (zD h M1.hw ()) h⟩) okg.nd (λr hr=>⟨gs,hy0,bu hr⟩) rr2 M.fk λH' kk' k dm rr'=>?_;have wp3:Paired (zaS H2 rk F) (yc wk (.inl aN)) (Jt lays aN):=Paired.mapP (Qz M1.wp) λ_ _ ⟨e,d,e2,fd,nd,hd⟩=>⟨e,d,e2,fd,nd,n2 _ _ (zD hd M1.hw ()) hd⟩;refine q H' F (λb o nf e=>Kw M.fk k b o nf (n2 _ _ (λz=>nf (by rw[z];exact M.fw)) (s1 _ _ e))) (λb zs e=>k _ _ (n2 _ _ (zD (s1 _ _ e) M1.hw ()) (s1 _ _ e)) (zD (s1 _ _ e) M1.rr.at_ ()) (.inl λ_ z=>nomatch z)) ?_ (λ_ z=>.inl z) λ_ z=>z;exact zft h1.me M.fg M.fw M.fk M.nr (n2 _ _ wm M1.im) (n2 _ _ wg M1.hg) w2 ⟨_,rr2.at_⟩ wp3 k (ownD (d2.trans dm)) (rr'.eqv (zfu h1.nd hy0)) ndf okf
 ·have hin:aN ∉ lays.map (·.1):=λz=>by
   obtain⟨y,hy,ey⟩:=bD.mp z;obtain⟨r',gs⟩:=y;have ey:r'=aN:=ey;subst ey;obtain⟨d,v1,_⟩:=Qx M1.wp h1.nd hy;rw[v1] at hv;cases hv
  have eg:gs=[]:=(ho.resolve_left λz=>hin (bD.mpr ⟨_,z,Y⟩)).2;subst eg;rw[zgO hin] at okf ndf q;refine zcQ (gs:=[]) MF M1.im hL nL hy cI (λr hr=>nomatch hr) M1.rr M.fk λH' kk' k dm rr'=>?_;refine q H' F (λb o nf e=>Kw M.fk k b o nf (s1 _ _ e)) (λb zs e=>k _ _ (s1 _ _ e) (zD (s1 _ _ e) M1.rr.at_ ()) (.inl λ_ z=>nomatch z)) ?_ (λ_ z=>.inl z) λ_ z=>z;exact zft h1.me M.fg M.fw M.fk M.nr M1.im M1.hg M1.hw ⟨_,M1.rr.at_⟩ M1.wp k (ownD dm) (rr'.eqv λp r=>by simp) ndf okf
theorem zfv{rk:ac}{F:ac->Prop}{l:List (Int×List aW)}{P:Pl->Int->Prop}(h:sG H rk F P kk)(hp:∀p r,P p r->Yj l p r)(ok:∀y∈l,W7 y.2)(hl:l.length<=300):kk.length<=18900:=by
 have h1:=xR (b:=(l.flatMap λy=>y.2.map (·.1)).map zt) h.nk λx hx=>by
  obtain⟨kv,hkv,rfl⟩:=bD.mp hx;obtain⟨p,a,rs,rfl,_,_,_,hn,hi⟩:=h.ls kv hkv;obtain⟨r,hr⟩:∃r,r∈rs:=by
   cases rs with
   |nil=>exact absurd Y hn
   |cons r _=>exact⟨r,bo⟩
  obtain⟨gs,h2,h3⟩:=hp p r ((hi r).mp hr);exact bu (List.mem_flatMap.mpr ⟨_,h2,h3⟩)
 rw[bg,bg] at h1;have h2:∀l:List (Int×List aW),(∀y∈l,W7 y.2)->(l.flatMap λy=>y.2.map (·.1)).length<=63*l.length:=by
  intro l;induction l with
  |nil=>intro _;simp
  |cons y l ih =>
   intro ok;rw[List.flatMap_cons,bE,bg,bY];have:=(ok y bo).le;have:=ih λz hz=>ok z (bh _ hz);lia
 have:=h2 l ok;lia
def lyI(m gv d rk:ac)(aN:Int)(G:ac->Prop)(P:Pl->Int->Prop)(gs:List aW)(H:B)(i:Nat)(σ:St)(H':B):Prop:=(∃o4,σ=[aa (.ref m),aa (.int aN),aa (.ref gv),aa (.ref d),o4])/\ss G rk H H'/\Dm H H'/\∃kk,sG H' rk G (λp r=>P p r\/(r=aN/\p∈(gs.take i).map (·.1))) kk
theorem zfw{D:W3}{gv d m dx gr wo rk:ac}{aN low:Int}{G:ac->Prop}{gs:List aW}{l:List (Int×List aW)}{kk:List (List bv×V)}(MF:MkF K t)(hm:H m=aa (.ins t.q02 dx (Y7 gr low wo rk)))(hd:H d=aa (.dT (sO gs)))(dr:d≠rk)(gf:W7 gs)(hr:sG H rk G (Yj l) kk)(hno:aN ∉ l.map (·.1))(ok:∀y∈l,W7 y.2)(hl:l.length<=200)(gk:G rk)(gn:∀b,H b=ao->G b)
  (q:∀H' o4 kk',ss G rk H H'->(∀b o,H b=aa o->∃o',H' b=aa o')->sG H' rk G (λp r=>Yj l p r\/(r=aN/\p∈gs.map (·.1))) kk'->jq K t D [aa (.ref m),aa (.int aN),aa (.ref gv),aa (.ref d),o4] H') :
  jr K t D [aa (.ref m),aa (.int aN),aa (.ref gv),aa (.ref d),ao] H:=by
 have mr:m≠rk:=zD hm hr.at_ ();have md:m≠d:=zD hm hd ();simp only[jr,zhL,vg,iDT,zK,zj,zm,zT,U,Z,zf,wZ,zG,b9,br,bH,bI,av,V.ref.injEq,bX,and_true,and_assoc,aw];refine⟨d,_,hd,sO gs,.inl Y,λob=>?_⟩;have f0:upd H d (.frz ob (.dT (sO gs))) d=aa (.frz ob (.dT (sO gs))):=ze;have rr0:sG (upd H d (.frz ob (.dT (sO gs)))) rk G (Yj l) kk:=hr.keep2 (by rw[zh dr.symm]) (λb xs _ e=>by rw[zh (zD e hd ())];exact e) (λ_ z _=>z);have hm0:upd H d (.frz ob (.dT (sO gs))) m=aa (.ins t.q02 dx (Y7 gr low wo rk)):=by rw[zh md];exact hm
 have d0:Dm H (upd H d (.frz ob (.dT (sO gs)))):=Dm.upd λ_ z=>nomatch z
 have back:∀ {H'},ss G rk (upd H d (.frz ob (.dT (sO gs)))) H'->ss G rk H (upd H' d (.dT (sO gs))):=λ{H'} k b o e n z=>by
  by_cases eb:b=d
  ·subst eb;rw[ze,<-hd];exact e
  ·rw[zh eb];exact k b o (by rw[zh eb];exact e) n z
 have gn0:∀b,upd H d (.frz ob (.dT (sO gs))) b=ao->G b:=λb e=>gn b (by
  by_cases eb:b=d
  ·subst eb;rw[ze] at e;cases e
  ·rw[zh eb] at e;exact e)
 generalize upd H d (.frz ob (.dT (sO gs)))=H0 at *
 have kd:∀ {H'},ss G rk H0 H'->H' d=aa (.frz ob (.dT (sO gs))):=λ{H'} k=>k _ _ f0 dr (.inl λ_ z=>nomatch z);refine⟨ob,sO gs,f0,zbT (lyI m gv d rk aN G (Yj l) gs H0) ⟨⟨_,Y⟩,ss.refl,Dm.refl,kk,rr0.eqv λp r=>by simp⟩ (λi σ H' ⟨_,k,_⟩=>kd k) ?_ ?_⟩
 ·rintro i k v p σ H' hkv hp ⟨⟨o4,rfl⟩,ke,dm,kk',hr'⟩;rw[Wx gf.nd,bB] at hkv;obtain⟨r0,hr0,er⟩:=b8.mp hkv;cases er;have hm':=ke _ _ hm0 mr (.inl λ_ z=>nomatch z);have hnr:r0.1 ∉ (gs.take i).map (·.1):=λz=>by
   obtain⟨j,hj⟩:=cZ z;rw[bB,fq] at hj;split at hj
   ·rename_i hji;have a1:(gs.map (·.1))[j]?=aa r0.1:=by rw[bB];exact hj
    have a2:(gs.map (·.1))[i]?=aa r0.1:=by rw[bB,hr0];rfl
    have:=(gI (bn.mp a1).1 gf.nd).mp (a1.trans a2.symm);lia
   ·cases hj
  have hPi:∀p r,((Yj l p r\/(r=aN/\p∈(gs.take i).map (·.1)))\/(r=aN/\p=r0.1))↔(Yj l p r\/(r=aN/\p∈(gs.take (i+1)).map (·.1))):=λp r=>by
   rw[dt,hr0,bS,bC];have:p∈cY (·.1) (aa r0).toList↔p=r0.1:=by simp
   rw[this,and_or_left,or_assoc]
  have hnP:¬ (Yj l r0.1 aN\/(aN=aN/\r0.1∈(gs.take i).map (·.1))):=λz=>z.elim (λ⟨g2,h2,_⟩=>hno (bD.mpr ⟨_,h2,Y⟩)) λy=>hnr y.2;have kl:kk'.length<=18900:=zfv (l:=(aN,gs)::l) hr' (λp r z=>z.elim (λ⟨g2,h2,h3⟩=>⟨g2,bh _ h2,h3⟩) λ⟨e,h3⟩=>⟨gs,by rw[e];exact bo,(by
   obtain⟨x,hx,rfl⟩:=bD.mp h3;exact bu (dJ hx))⟩) (λy hy=>by
   rcases bF.mp hy with rfl|hy
   ·exact gf
   ·exact ok y hy) (by rw[bY];lia)
  have gn1:∀b,H' b=ao->G b:=λb e=>gn0 b (by
   cases e0:H0 b with
   |none=>rfl
   |some o=>obtain⟨o',e',_⟩:=dm b o e0;rw[e] at e';cases e')
  have hrl:∀rs:List Int,rs.Pairwise (· < ·)->(∀r∈rs,Yj l r0.1 r\/(r=aN/\r0.1∈(gs.take i).map (·.1)))->rs.length<=300:=λrs hs hall=>by
   have rl:rs.length<=((aN,gs)::l).length:=zh6 (p:=r0.1) hs λr hr=>(hall r hr).elim (λ⟨g2,h2,h3⟩=>⟨g2,bh _ h2,h3⟩) λy=>absurd y.2 hnr;rw[bY] at rl;lia
  simp only[br,bH,bI,av,V.int.injEq,V.ref.injEq,cH,cX];exact⟨_,_,_,hm',MF.cl,MF.r,_,zgM,rk,Y,G,_,kk',hr',gk,gn1,r0.1,hp,hnP,kl,hrl,λH2 kk2 k2 d2 r2=>⟨⟨_,Y⟩,ke.trans k2,dm.trans d2,kk2,r2.eqv hPi⟩⟩
 ·rintro σ H' ⟨⟨o4,rfl⟩,ke,dm,kk',hr'⟩;rw[Wx gf.nd,bg,eu] at hr';have D2:Dm H (upd H' d (.dT (sO gs))):=(d0.trans dm).trans (Dm.upd λ_ z=>nomatch z);refine⟨kd ke,q _ o4 kk' (back ke) (λb o e=>let ⟨o',e',_⟩:=D2 b o e;⟨o',e'⟩) (hr'.keep2 (by rw[zh dr.symm]) (λb xs _ e=>by rw[zh (zD e (kd ke) ())];exact e) (λ_ z _=>z))⟩
theorem zfx{m gv:ac}{aN low:Int}{F:ac->Prop}{g:List aW}{lays:List (Int×List aW)}{gs:List aW}(MF:MkF K t)(h1:tq t H m F g lays low)(h2:low<=aN)(h20:0<=aN)(h3:sR H gv gs)(hgv:¬ F gv)(h4:W7 gs)(h5:lays.length<=200)(q:∀H' F',(∀b o,¬ F b->H b=aa o->H' b=aa o)->(∀b zs,H b=aa (.tup zs)->H' b=aa (.tup zs))->tq t H' m F' g (wQ lays aN gs) low->(∀b,F' b->F b\/H b=ao)->(∀b,F b->F' b)->Q .non H') :
  vW K t (sJ Q) (L2.start ["self","rank","gifts","worths","place"] [.ref m,.int aN,.ref gv]) H:=by
 simp only[vW,yG,yZ,zaE,zN,L2.start,zj,zE,zm,zT,U,Z,zf,sM,cY,cf,cp,cL,dh,b9,br,bH,bI,av,V.int.injEq,V.ref.injEq,bX,and_true,and_assoc,aw,cH,cX,cG,cz];obtain⟨dx,gr,wo,rk,wk,kk,M⟩:=h1.ex;refine⟨_,_,M.im,kO (),_,_,M.im,_,ziI,h2,λH1 s1=>?_⟩;have M1:=h1.keep (H':=H1) λb o _ e=>s1 _ _ e;refine⟨_,_,s1 _ _ M.im,kO (),F,g,lays,low,M1,λH2 F2 fr2 ts2 m2 ff2 fs2=>?_⟩;clear M wk kk gr wo rk dx;obtain⟨xs,hx,hp⟩:=h3;have hx2:=fr2 _ _ hgv (s1 _ _ hx);have hp2:Paired (PrAt H2) xs gs:=Paired.mapP hp λ_ _ ⟨r,p,e,e1,e2⟩=>⟨r,p,e,ts2 _ _ (s1 _ _ e1),ts2 _ _ (s1 _ _ e2)⟩;refine⟨xs,hx2,gs,hp2,by have:=h4.le;lia,λd hd=>?_⟩;obtain⟨H3,eH,s3,q3⟩:=zb7 (o:=HO.dT (sO gs)) hd;rw[<-eH];clear eH;obtain⟨dx,gr,wo,rk,wk,kk,M2⟩:=m2.ex;have M3:=M2.keep m2.me λb o _ e=>s3 _ _ e;have ndF:¬ F2 d:=λz=>by obtain⟨o,e⟩:=m2.own d z;rw[hd] at e;cases e
 have dr:d≠rk:=λz=>ndF (by rw[z];exact M2.fk);have hl:(Jt lays aN).length<=200:=bP (nZ _ _) h5;have fresh:∀b,H2 b=ao->H b=ao:=λb e=>by
  cases e2:H b with
  |none=>rfl
  |some o =>
   exfalso;by_cases fb:F b
   ·obtain⟨o',e'⟩:=m2.own b (fs2 b fb);rw[e] at e';cases e'
   ·have:=fr2 _ _ fb (s1 _ _ e2);rw[e] at this;cases this
 refine zfw (G:=λb=>F2 b\/H2 b=ao) MF M3.im q3 dr h4 (M3.rr.keep (F':=λb=>F2 b\/H2 b=ao) M3.fk (λb o _ e=>e) (λ_ z=>.inl z)) V5 (λy hy=>(m2.ok y hy).2) hl (.inl M2.fk) (λb e=>.inr (zC s3 e)) λH4 o4 kk' ke dm rr4=>?_;have im4:=ke _ _ M3.im (zD M3.im M3.rr.at_ ()) (.inl λ_ z=>nomatch z);have hw4:=ke _ _ M3.hw (zD M3.hw M3.rr.at_ ()) (.inl λ_ z=>nomatch z);have hg4:=ke _ _ M3.hg M3.nr (.inl λ_ z=>nomatch z);have hd4:=ke _ _ q3 dr (.inl λ_ z=>nomatch z);have wl:wk.length<=200:=by rw[bN M2.wp];exact hl
 simp only[jq,jG,zK,U,br,bH,bI,av,V.ref.injEq,aw];refine⟨_,_,_,im4,MF.cl,MF.w,_,zgL,wo,Y,_,(.k (k:=.inl aN) hw4 (by rw[bT];lia)),?_⟩;rw[vb _ (Qy M3.wp V5)];have mw:m≠wo:=zD im4 hw4 ();have gw:gr≠wo:=zD hg4 hw4 ();have rw_:rk≠wo:=zD rr4.at_ hw4 ();have dw:d≠wo:=zD hd4 hw4 ();have n5:∀b o,b≠wo->H4 b=aa o->upd H4 wo (HO.dK (wk++[(.inl aN,V.ref d)])) b=aa o:=λb o n e=>by rw[zh n];exact e
 have w5:upd H4 wo (HO.dK (wk++[(.inl aN,V.ref d)])) wo=aa (HO.dK (wk++[(.inl aN,V.ref d)])):=ze;have dm5:∀b o,H3 b=aa o->∃o',upd H4 wo (HO.dK (wk++[(.inl aN,V.ref d)])) b=aa o':=λb o e=>by
  by_cases eb:b=wo
  ·subst eb;exact⟨_,w5⟩
  ·obtain⟨o',e'⟩:=dm b o e;exact⟨o',n5 _ _ eb e'⟩
 generalize upd H4 wo (HO.dK (wk++[(.inl aN,V.ref d)]))=H5 at *
 refine q H5 (λb=>F2 b\/(H2 b=ao/\∃o,H5 b=aa o)) (λb o nf e=>?_) (λb zs e=>?_) ?_ (λb z=>?_) λb z=>.inl (fs2 b z)
 ·have e2:=fr2 _ _ nf (s1 _ _ e);have nf2:¬ F2 b:=λz=>(ff2 b z).elim nf λy=>by rw[s1 _ _ e] at y;cases y
  have nr:b≠rk:=λz=>nf2 (by rw[z];exact M2.fk);have nw:b≠wo:=λz=>nf2 (by rw[z];exact M2.fw);exact n5 _ _ nw (ke _ _ (s3 _ _ e2) nr (.inr λz=>z.elim nf2 λy=>by rw[e2] at y;cases y))
 ·have e2:=s3 _ _ (ts2 _ _ (s1 _ _ e));have e4:=ke _ _ e2 (zD e2 M3.rr.at_ ()) (.inl λ_ z=>nomatch z);exact n5 _ _ (zD e4 hw4 ()) e4
 ·refine⟨λb z=>z.elim (λf=>let ⟨o,e⟩:=m2.own b f;dm5 b o (s3 _ _ e)) λy=>y.2,.inl m2.me,?_,?_,dx,gr,wo,rk,_,kk',n5 _ _ mw im4,.inl M2.fg,.inl M2.fw,.inl M2.fk,M2.nr,n5 _ _ gw hg4,w5,?_,?_⟩
  ·unfold wQ;rw[bS,du];refine⟨m2.nd,by simp,λx hx y hy=>?_⟩;have:y=aN:=by simpa using hy
   rw[this];exact λz=>V5 (l:=lays) (r:=aN) (by have h:=hx;rw[z] at h;exact h)
  ·intro y hy;rcases bC.mp hy with hy|hy
   ·exact m2.ok y hy
   ·rw[bt.mp hy];exact⟨h20,h4⟩
  ·refine Paired.snocP (Paired.mapP M3.wp λ_ _ ⟨e,d',e2,fd,nd',hd'⟩=>?_) ⟨Y,d,Y,.inr ⟨hd,_,n5 _ _ dw hd4⟩,dr,n5 _ _ dw hd4⟩;have e4:=ke _ _ hd' nd' (.inl λ_ z=>nomatch z);exact⟨e,d',e2,.inl fd,nd',n5 _ _ (zD e4 hw4 ()) e4⟩
  ·refine(rr4.keep2 (F':=λb=>F2 b\/(H2 b=ao/\∃o,H5 b=aa o)) ((n5 _ _ rw_ rr4.at_).trans rr4.at_.symm) (λb xs _ e=>n5 _ _ (zD e hw4 ()) e) (λb z ex=>z.imp id λy=>⟨y,ex⟩)).eqv λp r=>?_;unfold wQ;constructor
   ·rintro(⟨g2,h6,h7⟩|⟨rfl,h7⟩)
    ·exact⟨g2,cM _ h6,h7⟩
    ·exact⟨gs,bR _ (bt.mpr Y),h7⟩
   ·rintro⟨g2,h6,h7⟩;rcases bC.mp h6 with h6|h6
    ·exact .inl ⟨g2,h6,h7⟩
    ·cases bt.mp h6;exact .inr ⟨Y,h7⟩
 ·rcases z with z|z
  ·exact(ff2 b z).imp id λy=>zC s1 y
  ·exact .inr (fresh b z.1)
theorem JE{m gv:ac}{aN:Int}{F:ac->Prop}{g:List aW}{lays:List (Int×List aW)}{gs:List aW}(MF:MkF K t)(h1:sV t H m F g lays)(h2:0<=aN)(h3:sR H gv gs)(hgv:¬ F gv)(h4:W7 gs)(h5:lays.length<=200)(q:∀H' F',(∀b o,¬ F b->H b=aa o->H' b=aa o)->(∀b zs,H b=aa (.tup zs)->H' b=aa (.tup zs))->sV t H' m F' g (wQ lays aN gs)->(∀b,F' b->F b\/H b=ao)->(∀b,F b->F' b)->Q .non H') :
  vW K t (sJ Q) (L2.start ["self","rank","gifts","worths","place"] [.ref m,.int aN,.ref gv]) H:=zfx MF h1 h2 h2 h3 hgv h4 h5 q
theorem zfy{H:B}(hp:H p=ao)(hx:∃u,H x=aa u):∃H',H'=upd (upd H p o) x o2/\H' x=aa o2/\H' p=aa o/\(∀b u,b≠x->H b=aa u->H' b=aa u)/\(∀b,H' b=ao->H b=ao):=by
 have px:p≠x:=λz=>by obtain⟨u,e⟩:=hx;rw[<-z,hp] at e;cases e
 refine⟨_,Y,ze,by rw[zh px];exact ze,λb u n e=>by rw[zh n];exact sN p hp _ _ e,λb e=>?_⟩;by_cases eb:b=x
 ·subst eb;rw[ze] at e;cases e
 ·rw[zh eb] at e;exact zC (sN p hp) e
theorem pf2 :xV (bb "folded") (V.int 0) [(bb "ground",v)]=[(bb "ground",v),(bb "folded",V.int 0)]:=by
 have h:bb "ground"≠bb "folded":=by lia
 simp only[xV,ap h]
theorem pf3 :xV (bb "worths") w [(bb "ground",v),(bb "folded",V.int 0)]=[(bb "ground",v),(bb "folded",V.int 0),(bb "worths",w)]:=by
 have h:bb "ground"≠bb "worths":=by lia
 have h2:bb "folded"≠bb "worths":=by lia
 simp only[xV,ap h,ap h2]
theorem pf4 :xV (bb "ranks") r [(bb "ground",v),(bb "folded",V.int 0),(bb "worths",w)]=[(bb "ground",v),(bb "folded",V.int 0),(bb "worths",w),(bb "ranks",r)]:=by
 have h:bb "ground"≠bb "ranks":=by lia
 have h2:bb "folded"≠bb "ranks":=by lia
 have h3:bb "worths"≠bb "ranks":=by lia
 simp only[xV,ap h,ap h2,ap h3]
theorem V6{vs:List V}{_E:XK}(MF:MkF K t)(h:kj t vs H Q _E) :
  kt K t (sJ Q) (L2.start ["self","table"] vs) H:=by
 obtain⟨x,h,dx,aT,rfl,h1,h2,h3,q⟩:=h;obtain⟨xs,hx,hp⟩:=h2;simp only[kt,qf,zaE,xF,L2.start,zj,U,L,Z,zf,sM,Zg,cY,cf,cp,b9,br,bH,bI,av,V.ref.injEq,bX,and_true,aw,cG,cz];refine⟨xs,hx,aT,hp,by have:=h3;lia,λgr hgr=>?_⟩;have s1:=sN (o:=HO.dT (sO aT)) gr hgr;refine⟨_,_,_,s1 _ _ h1,MF.cl,MF.g,(),?_⟩;rw[show xV (bb "ground") (V.ref gr) []=[(bb "ground",V.ref gr)] from rfl];refine⟨_,_,_,ze,MF.cl,MF.f,(by show 1<1000;decide),?_⟩;rw[pf2,Xj];obtain⟨H2,eH,x2,g2,n2,f2⟩:=zfy (o:=HO.dT (sO aT)) (o2:=HO.ins t.q02 dx [(bb "ground",V.ref gr),(bb "folded",V.int 0)]) hgr ⟨_,h1⟩;rw[<-eH];clear eH;intro wo hwo;have s3:=sN (o:=HO.dK []) wo hwo;refine⟨_,_,_,s3 _ _ x2,MF.cl,MF.w,(by show 2<1000;decide),?_⟩;rw[pf3];obtain⟨H4,eH,x4,w4,n4,f4⟩:=zfy (o:=HO.dK []) (o2:=HO.ins t.q02 dx [(bb "ground",V.ref gr),(bb "folded",V.int 0),(bb "worths",V.ref wo)]) hwo ⟨_,x2⟩;rw[<-eH];clear eH;intro rk hrk;have s5:=sN (o:=HO.dT []) rk hrk;refine⟨_,_,_,s5 _ _ x4,MF.cl,MF.r,(by show 3<1000;decide),?_⟩;rw[pf4];obtain⟨H6,eH,x6,r6,n6,f6⟩:=zfy (o:=HO.dT []) (o2:=HO.ins t.q02 dx [(bb "ground",V.ref gr),(bb "folded",V.int 0),(bb "worths",V.ref wo),(bb "ranks",V.ref rk)]) hrk ⟨_,x4⟩;rw[<-eH];clear eH;have gx:gr≠x:=zD g2 x2 ();have wx:wo≠x:=zD w4 x4 ();have g4:=n4 _ _ gx g2;have g6:=n6 _ _ gx g4;have w6:=n6 _ _ wx w4;have gk:gr≠rk:=λz=>by rw[z,hrk] at g4;cases g4
 refine q H6 (λb=>b=x\/b=gr\/b=wo\/b=rk) (λb o n e=>n6 _ _ n (n4 _ _ n (n2 _ _ n e))) ?_ λb z=>?_
 ·refine⟨λb z=>?_,.inl Y,cI,λ_ h=>(nomatch h),dx,gr,wo,rk,[],[],x6,.inr (.inl Y),.inr (.inr (.inl Y)),.inr (.inr (.inr Y)),gk,g6,w6,.nil,r6,cI,cI,λ_ h=>(nomatch h),λp r ⟨_,h,_⟩=>(nomatch h)⟩;rcases z with rfl|rfl|rfl|rfl
  ·exact⟨_,x6⟩
  ·exact⟨_,g6⟩
  ·exact⟨_,w6⟩
  ·exact⟨_,r6⟩
 ·rcases z with rfl|rfl|rfl|rfl
  ·exact .inl rfl
  ·exact .inr hgr
  ·exact .inr (f2 _ hwo)
  ·exact .inr (f2 _ (f4 _ hrk))
theorem V7(p:Pl)(aN:Int)(y:Int×List aW):∀(l:List (Int×List aW)) (s:Int×Int),wI p aN (l++[y]) s=(if (wI p aN l s).1<y.1/\y.1<aN then VZ p y.1 y.2 (wI p aN l s) else wI p aN l s)
 |[],s=>rfl
 |a::t,s=>by rw[cL,wI,V7 p aN y t,wI]
theorem yu{σ:St}{i:Nat}{x C dx:ac}{fs:List (Str×V)}{f:Str}{R:V->Prop}(h1:H x=aa (.ins C dx fs))(c:tG K C)(n:aV K C f)(h0:σ[i]?=aa (aa (.ref x)))(hv:fs.lookup f=aa v)(q:R v):∃y,σ[i]?=aa (aa y)/\∃a C dx fs v,y=.ref a/\H a=aa (.ins C dx fs)/\tG K C/\aV K C f/\fs.lookup f=aa v/\R v:=⟨_,h0,x,C,dx,fs,v,Y,h1,c,n,hv,q⟩
theorem Zb{σ:St}{i:Nat}{x C dx:ac}{fs:List (Str×V)}{R:V->Prop}(h1:H x=aa (.ins C dx fs))(h0:σ[i]?=aa (aa (.ref x)))(hv:fs.lookup m=ao)(q:R (.ref x)):∃y,σ[i]?=aa (aa y)/\∃a dx fs,y=.ref a/\H a=aa (.ins C dx fs)/\fs.lookup m=ao/\R y:=⟨_,h0,x,dx,fs,Y,h1,hv,q⟩
theorem zh7{P Bm:Prop}(f:Bm->P)(u:Bm):P:=f u
theorem yh{P R:Prop}(h:b=aq)(r:R):if b=ah then P else R:=by rw[ap (by rw[h];decide)];exact r
theorem yJ{P R:Prop}(h:b=ah)(p:P):if b=ah then P else R:=by rw[au h];exact p
theorem mB{i j:Int}(a:-10000000000000000000000000000000000000000000000<i)(b:i<10000000000000000000000000000000000000000000000)(c:-10000000000000000000000000000000000000000000000<j)(d:j<10000000000000000000000000000000000000000000000):CMulB i j:=by
 have hb:(10000000000000000000000000000000000000000000000:Int)<big:=by lia
 exact⟨⟨(),()⟩,(),()⟩
def drI(c:Int)(m:Nat)(l:ac)(H0:B)(i:Nat)(σ:St)(H:B):Prop:=∃(ds:List Int) (x y:Int),(∃o5,σ=[aa (.int c),aa (.int (m:Nat)),aa (.ref l),aa (.int x),aa (.int y),o5])/\aP H0 H/\H l=aa (.lst (ds.map V.int))/\ds.length=i/\(∀d∈ds,okD d)/\0<=x/\x<1000100/\0<=y/\y<1000100
theorem mS{i j:Int}(a:0<=i)(b:i<1000100)(c:0<=j)(d:j<1000100):CMulB i j:=mB () () () ()
theorem QB{k:Int}(h0:σ[i]?=aa (aa (.ref p)))(h1:H p=aa (.lst xs))(h2:tL xs k=aa v)(q:Q v H):aQ (yA K) (U i) (L (.int k)) σ H Q:=⟨_,h0,p,xs,k,v,Y,Y,aY.of h1,h2,q⟩
theorem QC{σ:St}{te:TE}{y n:Int}(he:∀Q:VK,Q (.int y) H->te σ H Q)(hn:0<n)(q:∀k,0<=k->k<n->Q (.int k) H):aQ aG te (L (.int n)) σ H Q:=he _ ⟨_,_,Y,Y,hn,q _ (cO _ ()) (cy _ hn)⟩
theorem V8{vs:List V}{_E:XK}(h:xa vs H Q _E) :
  YE K t (sJ Q) (L2.start ["cell","many","found","one","two","k"] vs) H:=by
 obtain⟨c,m,rfl,hm,q⟩:=h;refine⟨(),λl hl=>?_⟩;generalize c_:upd H l _=H0;obtain⟨s0,e0⟩:=xk c_ hl;unfold zj zE zm;show aQ aG (U 0) (L (.int 1000003)) _ _ _;refine QC (λ_ q=>⟨_,Y,q⟩) () λx0 a1 a2=>⟨_,_,Y,Y,?_⟩;show aQ aG (aQ aI (U 0) (L (.int 1000003))) (L (.int 999983)) _ _ _;refine QC (λ_ q=>⟨_,Y,_,_,Y,Y,dB,q⟩) () λy0 a3 a4=>⟨_,_,Y,Y,?_⟩;refine⟨_,Y,m,Y,(),(),VE (drI c m l H) ⟨[],x0+17,y0+29,⟨_,Y⟩,s0,e0,Y,(λd z=>nomatch z),(),(),(),()⟩ ?_ ?_⟩
 ·rintro i σ H1 hi ⟨ds,x,y,⟨o5,rfl⟩,s1,h1,li,od,x0,x1,y0,y1⟩;have hi:i<m:=by lia
  show aQ _ _ (L (.int 1000003)) _ _ _;refine QC (λ_ q=>⟨_,Y,_,Y,_,_,Y,Y,mS x0 x1 x0 x1,_,Y,_,_,Y,Y,mS () () y0 y1,_,_,Y,Y,_,Y,_,_,Y,Y,q⟩) () λx' n1 n2=>?_;have n2':x'<1000100:=by lia
  dsimp only;refine QC (λ_ q=>⟨_,Y,_,Y,_,_,Y,Y,mS y0 y1 n1 n2',_,Y,_,_,Y,Y,mS () () n1 n2',_,_,Y,Y,_,_,Y,Y,q⟩) () λy' n3 n4=>?_;have n4':y'<1000100:=by lia
  refine⟨_,Y,.inl ⟨Y,_,aY.of h1⟩,_,Y,_,_,Y,Y,mS n1 n2' () (),_,Y,_,_,Y,Y,l,_,_,Y,Y,h1,bZ (by rw[bg];lia:_<=63) (),ds++[x'*999983+y'],x',y',⟨_,Y⟩,y9 s1 hl,by rw[bS];exact ze,by rw[bE,li];rfl,λd hd=>?_,n1,n2',n3,n4'⟩;rcases bC.mp hd with hd|hd
  ·exact od d hd
  ·rw[bt.mp hd];exact⟨(),()⟩
 ·rintro σ H1 ⟨ds,x,y,⟨o5,rfl⟩,s1,h1,li,od,_⟩;exact⟨_,Y,q l ds H1 s1 hl h1 (by simpa using li) od⟩
theorem zh8{n:Int}:sQ (n*1000000021000000147000000343%2000000000000000000000000000001-1000000000000000000000000000000)=ah:=by
 have g1:=cO (n*1000000021000000147000000343) (b:=2000000000000000000000000000001) ();have g2:=cy (n*1000000021000000147000000343) (b:=2000000000000000000000000000001) ();exact tT.mpr ()
theorem Ve{vs:List V}{_E:XK}(h:yX vs H Q _E) :
  jn K t (sJ Q) (L2.start ["number"] vs) H:=by
 obtain⟨n,rfl,h1,h2,q⟩:=h;simp only[jn,L2.start,zj,zA,zy,aQ,U,L,zF,zu,sX,rI,rI0,zc8,cY,cf,cp,b9,br,bI,av,V.int.injEq,V.bl.injEq,true_and,aw,cG,cz,decide_eq_true_eq,Int.reduceToNat,Int.reducePow,Int.reduceMul,Int.reduceAdd];have P3:=zfh (j:=30) () ();refine⟨(),xl (λ_=>⟨⟨(),(),()⟩,mB () () () (),P3,mB () () () (),(),P3,q _ _ zh8 (aP.refl _)⟩) λ_=>⟨dB,(),q _ _ (tT.mpr ()) (aP.refl _)⟩⟩
theorem zgQ:∀v∈jw++wl,(match v with|.str w=>yE (w++bb "z")|_=>aq)=ah:=by lia
theorem zgR(h:smW w)(n1:inV (.str w) jw=aq)(n2:inV (.str w) wl=aq):yE w=ah:=by
 obtain⟨h1,h2,h3⟩:=h;have ne:decide (w="")=aq:=Bk λz=>by rw[z] at h1;exact absurd h1 ()
 have nl:decide (6<w.length)=aq:=Bk ();unfold yE;unfold XI at h3;rw[n1,n2,h3,ne,nl];rfl
theorem ziJ(h:inV (.str w) (jw++wl)=ah):yE (w++bb "z")=ah:=by
 unfold inV at h;obtain⟨v,hv,e⟩:=gS.mp h;have z:=zgQ v hv;cases v <;> simp only[eqV,cE] at e;rename_i y;have e':y=w:=by simpa using e
 subst e';exact z
theorem zcR :inV v (a++b)=(inV v a || inV v b):=by unfold inV;rw[List.any_append]
theorem Xb{vs:List V}{_E:XK}(h:yg vs H Q _E) :
  wB K t (sJ Q) (L2.start ["word"] vs) H:=by
 obtain⟨w,rfl,h,q⟩:=h;simp only[wB,L2.start,zj,zA,zy,aQ,U,L,yz,Z,zf,zF,zu,rIn,VA,cY,cf,cp,b9,br,bI,av,V.ref.injEq,V.str.injEq,V.bl.injEq,aw,cG,cz,cE,ite_false];obtain⟨h1,h2,_⟩:=id h;refine⟨(),λp hp=>⟨wl,.inr (sI.of ze),Y,(),?_⟩⟩;have s1:=sN (o:=HO.tup wl) p hp;have z1:(bb "z").length=1:=by lia
 refine xl (λc=>⟨y7 (),q _ _ (ziJ (by rw[zcR,c,Bool.or_true])) s1⟩) λc=>⟨(),λp2 hp2=>⟨jw,.inr (sI.of ze),Y,(),?_⟩⟩;have s2:=s1.trans (sN (o:=HO.tup jw) p2 hp2);exact xl (λc2=>⟨y7 (),q _ _ (ziJ (by rw[zcR,c2,Bool.true_or])) s2⟩) λc2=>q _ _ (zgR h (by simpa using c2) (by simpa using c)) s2
section
variable {n:Int}{a:ac}{ws:List Str}{x:Str}
theorem zfz{k:Int}(h:okD n)(hk:0<k):okD (n/k):=by
 obtain⟨a,b⟩:=h;have h1:=Int.ediv_nonneg a (Int.le_of_lt hk);have h2:=Int.ediv_le_self (a:=n) k a;exact⟨h1,()⟩
theorem lx(h:yE x=ah):hU [.str x]/\tmP [.str x]:=XU (.inr ⟨x,Y,h⟩)
theorem QD{σ:St}{j:Nat}{te:TE}{r:Int}(h3:sF H a ws)(h4:ws.length=2)(h0:σ[j]?=aa (aa (.ref a)))(ht:∀Q:VK,Q (.int r) H->te σ H Q)(hq:∀x,yE x=ah->Q (.str x) H):aQ (yA K) (U j) (aQ aG te (L (.int 2))) σ H Q:=by
 obtain⟨x,hx,_,nx⟩:=zba h3 2 h4 () r;exact⟨_,h0,ht _ ⟨_,_,Y,Y,(by lia:(0:Int)<2),_,_,_,_,Y,Y,aY.of h3.1,hx,hq x nx⟩⟩
theorem zbc{k:Int}(d:yq n k)(h0:σ[0]?=aa (aa (.int n)))(Q:VK)(q:Q (.int (n/k)) H):aQ aI (U 0) (L (.int k)) σ H Q:=⟨_,h0,_,_,Y,Y,d,q⟩
theorem tm3(a:hU [u]/\tmP [u])(b:hU [v]/\tmP [v])(j:wdJ w):hU [u,v,.str w]/\tmP [u,v,.str w]:=⟨Ku a.1 b.1 j (by simp),zcN a.2 b.2 j⟩
theorem JF{vs:List V}{_E:XK}(h:qE vs H Q _E) :
  qO K t (sJ Q) (L2.start ["number","slots","kind"] vs) H:=by
 obtain⟨n,a,ws,rfl,h1,h3,h4,q⟩:=h;have jw1:wdJ (bb "over"):=⟨(),(),()⟩;have jw2:wdJ (bb "rest"):=⟨(),(),()⟩;unfold qO zj zF Jn zE;refine QC (λ_ q=>⟨_,Y,q⟩) () λk k0 k1=>?_;have fin:∀ {e:List V} {H1:B},aP H H1->e.length<=3->hU e/\tmP e->e.length<=Bb/\∀p,H1 p=ao->Q (.ref p) (upd H1 p (.tup e)):=λs l h=>⟨bP l (),λp hp=>q p _ _ (s.trans (sN p hp)) (zC s hp) ze h.1 h.2⟩;refine⟨_,Y,_,_,Y,Y,_,Y,xl (λ_=>QC (zbc dB Y) () λk k0 k1=>fin (aP.refl _) (by lia:1<=3) (XU (.inl ⟨_,Y,tT.mpr ()⟩))) λ_=>⟨_,Y,Y,_,Y,xl (λ_=>QD h3 h4 Y (zbc dB Y) λx nx=>fin (aP.refl _) (by lia:1<=3) (lx nx)) λ_=>?_⟩⟩;refine zh7 (λBm=>⟨_,Y,Y,_,Y,xl (λ_=>⟨_,Y,_,_,Y,Y,dB,_,_,Y,Y,(by lia:(0:Int)<3),Y,_,Y,xl (λ_=>QD h3 h4 Y (zbc dB Y) λx nx=>fin (aP.refl _) (bp 3) (tm3 (XU (.inl ⟨7,Y,()⟩)) (lx nx) jw1)) λ_=>Bm⟩) λ_=>Bm⟩) ?_;have o:=zfz (k:=5) h1 ();exact⟨_,Y,Y,_,Y,xl (λ_=>QD h3 h4 Y (zbc dB Y) λx nx=>fin (aP.refl _) (bp 3) (tm3 (lx nx) (XU (.inl ⟨3,Y,()⟩)) jw2)) λ_=>⟨_,Y,_,_,Y,Y,dB,_,Y,o.1,o.2,λw H' hw s=>fin s (by lia:1<=3) (XU (.inl ⟨_,Y,hw⟩))⟩⟩
def tw8:List V:=[V.str (bb "plus"),V.str (bb "minus"),V.str (bb "times"),V.str (bb "over"),V.str (bb "rest"),V.str (bb "under"),V.str (bb "same")]
theorem zh9{i:Int}(h0:0<=i)(h1:i<7):∃w:Str,tL tw8 i=aa (.str w)/\wdJ w:=by
 obtain⟨x,hx,hm⟩:=za0 (xs:=tw8) (i:=i) h0 h1;unfold tw8 at hm;simp only[bF,dH,or_false] at hm;rcases hm with rfl|rfl|rfl|rfl|rfl|rfl|rfl <;> exact⟨_,hx,(),(),()⟩
theorem JG{vs:List V}{_E:XK}(h:vT vs H Q _E) :
  qP K t (sJ Q) (L2.start ["number","slots","words","kind"] vs) H:=by
 obtain⟨n,a,ws,rfl,h1,h3,h4,q⟩:=h;have fin:∀ {e:List V} {H1:B},aP H H1->e.length<=3->hU e/\tmP e->e.length<=Bb/\∀p,H1 p=ao->Q (.ref p) (upd H1 p (.tup e)):=λs l h=>⟨bP l (),λp hp=>q p _ _ (s.trans (sN p hp)) (zC s hp) ze h.1 h.2⟩;unfold qP zj zF zE;refine⟨(by lia:7<=Bb),λl hl=>?_⟩;generalize c_:upd H l _=H0;obtain⟨s0,e0⟩:=xk c_ hl;have e0:H0 l=aa (.lst tw8):=e0;have h3:=h3.same s0;have o:=zfz (k:=9) h1 ();have o':=zfz (k:=36) h1 ();refine QC (σ:=[aa (.int n),aa (.ref a),aa (.ref l),ao]) (te:=U 0) (n:=9) (λ_ q=>⟨_,Y,q⟩) () λk k0 k1=>?_;refine⟨_,Y,Y,_,Y,xl (λ_=>⟨_,Y,_,_,Y,Y,dB,_,Y,o.1,o.2,λw H' hw s=>fin (s0.trans s) (by lia:1<=3) (XU (.inl ⟨_,Y,hw⟩))⟩) λz0=>⟨_,Y,Y,_,Y,xl (λ_=>QD h3 h4 Y (zbc dB Y) λx nx=>fin s0 (by lia:1<=3) (lx nx)) λz1=>?_⟩⟩;have z0:k≠0:=λe=>z0 (Bj (congrArg V.int e));have z1:k≠1:=λe=>z1 (Bj (congrArg V.int e));obtain⟨y,hy,jy⟩:=zh9 (i:=k-2) () ();exact⟨_,Y,_,_,Y,Y,dB,_,_,Y,Y,(by lia:(0:Int)<2),Y,_,Y,xl (λ_=>QD h3 h4 Y (zbc dB Y) λx nx=>⟨_,Y,_,_,Y,Y,dB,_,Y,o'.1,o'.2,λw H' hw s=>⟨_,Y,_,Y,_,_,Y,Y,_,_,_,_,Y,Y,aY.of (s _ _ e0),hy,fin (s0.trans s) (bp 3) (tm3 (lx nx) (XU (.inl ⟨_,Y,hw⟩)) jy)⟩⟩) λ_=>QD h3 h4 Y (zbc dB Y) λx nx=>QD h3 h4 Y (zbc dB Y) λz nz=>⟨_,Y,_,Y,_,_,Y,Y,_,_,_,_,Y,Y,aY.of e0,hy,fin s0 (bp 3) (tm3 (lx nx) (lx nz) jy)⟩⟩
end
def abc:Str:="abcdefghijklmnopqrstuvwxyz"
theorem zia:∀c∈abc.cps.toList,inL c=ah:=by lia
theorem zfA{e:Int}(g1:0<=e)(g2:e<26):∃c,tL abc.cps.toList e=aa c/\inL c=ah:=by
 obtain⟨v,h1,h2⟩:=za0 (xs:=abc.cps.toList) (i:=e) g1 (by rw[show abc.cps.toList.length=26 from by lia];exact g2);exact⟨v,h1,zia v h2⟩
def ziZ(v:V):Prop:=∃c,v=.str ⟨#[c]⟩/\inL c=ah
theorem zbd:∀ {ls:List Str},(∀x∈ls,∃c,x=⟨#[c]⟩/\inL c=ah)->((ls.map λp=>p.cps.toList).flatten).length=ls.length/\((ls.map λp=>p.cps.toList).flatten).all inL=ah/\(ls.map (·.length)).sum=ls.length
 |[],_=>⟨Y,Y,Y⟩
 |x::ls,h=>by
  obtain⟨c,rfl,hc⟩:=h x bo;obtain⟨a,b,d⟩:=zbd (ls:=ls) λy hy=>h y (bh _ hy);have l1:((⟨#[c]⟩:Str)::ls).length=ls.length+1:=rfl;refine⟨?_,?_,?_⟩
  ·rw[bx,pV,bE,a,l1];show 1+ls.length=_;lia
  ·rw[bx,pV,rX,b];show ([c].all inL&&ah)=ah;simp[hc]
  ·rw[bx,cQ,d,zcI,l1];lia
section
variable {c:Int}{x y:Str}
theorem zcS(h:yE x=ah):smW x:=by
 unfold yE at h;simp only[b6,dU,lq,decide_eq_false_iff_not] at h;obtain⟨⟨⟨h1,h2⟩,_⟩,h3⟩:=h;refine⟨?_,(),h3⟩;cases z:x.length with
 |zero =>
  exfalso;apply h1;obtain⟨⟨l⟩⟩:=x;have:l.length=0:=z;rw[List.length_eq_zero_iff.mp this];rfl
 |succ n=>lia
theorem zdG{k:Nat}{o2:Option V}(hx:yE x=ah)(hk:k<x.length){d:Nat}(hd:inL d=ah)(q:∀nm ws H',aP H H'->H nm=ao->sF H' nm ws->ws.length=2->Q (.ref nm) H') :
  jk K t (sJ Q) [aa (.int c),aa (.str "abcdefghijklmnopqrstuvwxyz"),o2,aa (.str x),aa (.int (k:Nat)),aa (.str ⟨#[d]⟩)] H:=by
 obtain⟨h1,h2,h3⟩:=zcS hx;have ol:=zcI d;have od:=zfl hd;have fin:∀ {u v:Str} {H1:B},yE u=ah->yE v=ah->aP H H1->2<=Bb/\∀p,H1 p=ao->Q (.ref p) (upd H1 p (HO.lst [.str u,.str v])):=λ{u v H1} hu hv s=>⟨(),λp hp=>q p [u,v] _ (s.trans (sN p hp)) (zC s hp) ⟨ze,λw hw=>by
  rcases bF.mp hw with e|hw
  ·rw[e];exact hu
  ·rw[bt.mp hw];exact hv⟩ Y⟩
 have sx:x.length<=Bb:=y7 ();unfold jk zj zF Jn;refine zh7 (λBm=>⟨_,Y,_,_,Y,Y,dB,_,_,Y,Y,(by lia:(0:Int)<3),Y,_,Y,xl (λ_=>⟨_,Y,_,_,Y,⟨sx,Y⟩,_,_,Y,Y,_,Y,xl (λc6=>⟨_,Y,_,Y,_,Y,_,_,Y,Y,y7 (by have:=of_decide_eq_true c6;lia),_,Y,⟨by rw[vO];lia,by have:=of_decide_eq_true c6;rw[vO];lia,XT h3 od⟩,λz H' hz s=>fin hx hz s⟩) λ_=>Bm⟩) λ_=>Bm⟩) ?_;refine zh7 (λBm=>⟨_,Y,_,_,Y,Y,dB,_,_,Y,Y,(by lia:(0:Int)<3),Y,_,Y,xl (λ_=>⟨_,Y,_,_,Y,⟨sx,Y⟩,_,_,Y,Y,_,Y,xl (λc6=>⟨_,Y,_,Y,_,_,Y,Y,y7 (by have:=of_decide_eq_true c6;lia),_,Y,⟨by rw[vO];lia,by have:=of_decide_eq_true c6;rw[vO];lia,XT od h3⟩,λz H' hz s=>⟨_,Y,fin hz hx s⟩⟩) λ_=>Bm⟩) λ_=>Bm⟩) ?_;have a1:=zhZ x k ();have a2:=zfm x (k+1);have e:((k:Int)+1)=((k+1:Nat):Int):=by lia
 refine⟨_,Y,_,Y,_,Y,_,Y,_,Y,sx,_,Y,_,_,Y,Y,y7 (),_,Y,_,Y,_,_,Y,Y,_,Y,_,Y,sx,_,_,Y,Y,?_⟩;rw[e];exact⟨y7 (by rw[vO];lia),_,Y,⟨by rw[vO,vO];lia,by rw[vO,vO];lia,XT (XT (zgF h3 k) od) (zdE h3 (k+1))⟩,λz H' hz s=>fin hx hz s⟩
theorem zdH{o2:Option V}(hx:yE x=ah)(q:∀nm ws H',aP H H'->H nm=ao->sF H' nm ws->ws.length=2->Q (.ref nm) H') :
  jm K t (sJ Q) [aa (.int c),aa (.str "abcdefghijklmnopqrstuvwxyz"),o2,aa (.str x),ao,ao] H:=by
 simp only[jm,Wj,zj,zE,zm,aQ,U,L,Z,zf,sM,tBM,tyV,zc9,zdf,rI,rI0,xw,br,bH,bI,av,exists_eq_left,V.int.injEq,V.str.injEq,bX,and_true,true_and,and_assoc,aw,cH,cX];obtain⟨h1,h2,h3⟩:=zcS hx;have g1:=cO (c/6) (b:=(x.length:Int)) ();have g2:=cy (c/6) (b:=(x.length:Int)) ();obtain⟨k,ek⟩:∃k:Nat,c/6%(x.length:Int)=k:=⟨(c/6%(x.length:Int)).toNat,(lW g1).symm⟩;rw[ek] at g1 g2 ⊢;obtain⟨y,hy,my⟩:=za0 (xs:=x.cps.toList) (i:=(k:Int)) g1 (by rw[<-Xt];exact g2);have sx:x.length<=Bb:=y7 ();have sz:(bb "abcdefghijklmnopqrstuvwxyz").length<=Bb:=by lia
 have f1:=cO (zcx (bb "abcdefghijklmnopqrstuvwxyz") ⟨#[y]⟩+1+c/36%25) (b:=26) ();have f2:=cy (zcx (bb "abcdefghijklmnopqrstuvwxyz") ⟨#[y]⟩+1+c/36%25) (b:=26) ();obtain⟨d,hd,ld⟩:=zfA f1 f2;exact⟨dB,sx,(),sx,y,hy,dB,(),(),sz,d,hd,zdG hx () ld q⟩
theorem JH{vs:List V}{_E:XK}(h:vS vs H Q _E) :
  qI K t (sJ Q) (L2.start ["cell","letters","word","one","at","letter"] vs) H:=by
 obtain⟨c,rfl,q⟩:=h;simp only[qI,ZH,xa,yg,L2.start,Wk,zj,zE,zm,aQ,U,L,Z,zf,tBM,tyV,zG,kI,Vy,zbJ,xc,zdf,rI,rI0,cY,cf,cp,cL,dh,b9,br,bH,bI,av,V.int.injEq,V.ref.injEq,V.str.injEq,bX,and_true,true_and,and_assoc,aw,cH,cX,cG,cz,if_true];have g1:=cO c (b:=6) ();have g2:=cy c (b:=6) ();obtain⟨m,em⟩:∃m:Nat,1+c%6=m:=⟨(1+c%6).toNat,()⟩;rw[em];refine⟨(),m,Y,(),λl ds H1 s1 fl hl ld od=>⟨⟨_,aY.of hl⟩,λD hD=>?_⟩⟩;have lm:(ds.map V.int).length=ds.length:=bg ..;refine zef (J:=Itl K l) ds.length () (λτ=>∃o,τ=[o,aa (.str "abcdefghijklmnopqrstuvwxyz")]) (λi v=>ziZ v) ⟨_,Y⟩ (λi H s h=>⟨_,_,aY.of (s _ _ hl),bc (by rw[lm];exact h)⟩) (λH s=>⟨_,aY.of (s _ _ hl),by rw[lm];exact bp _⟩) hD ?_ ?_
 ·rintro i v τ H2 H' ⟨o,rfl⟩ s hi ⟨rfl,hv⟩;have hv:=hv _ (aY.of (s _ _ hl));obtain⟨e,_,rfl⟩:=bD.mp (bV hv);simp only[br,bH,bI,av,V.int.injEq,V.str.injEq,bX,and_true,cH];have f1:=cO e (b:=26) ();have f2:=cy e (b:=26) ();obtain⟨d,hd,ld⟩:=zfA f1 f2;exact⟨(),(),d,hd,⟨_,Y⟩,⟨d,Y,ld⟩,aP.refl _⟩
 ·intro ys H2 hly hv s hq;obtain⟨ls,rfl,hp⟩:=zcL (P:=λx=>∃c,x=⟨#[c]⟩/\inL c=ah) (ys:=ys) λv hv2=>by
   obtain⟨i,hi⟩:=cZ hv2;obtain⟨c,e,h⟩:=hv i v hi;exact⟨_,e,c,Y,h⟩
  rw[bg] at hly;obtain⟨j1,j2,j3⟩:=zbd hp;have jc:=zej ls;have jl:(J9 (bb "") ls).length=ls.length:=by rw[Xt,jc,j1]
  have sl:=Qc (bb "") ls 0;refine⟨ls,aY.of hq,?_,⟨(),(),by unfold XI;rw[jc];exact j2⟩,λx H3 hx s3=>?_⟩
  ·unfold zei;rw[sl,j3,show (bb "").length=0 from by lia];exact y7 ()
  ·exact zdH hx λnm ws H' s' fn hn l2=>q nm ws H' (s1.trans (s.trans (s3.trans s'))) (zC s1 (zC s (zC s3 fn))) hn l2
end
def tbI(c:Int)(a x d:ac)(H0:B)(i:Nat)(σ:St)(H':B):Prop:=∃aT:List aW,(∃o1 o2,σ=[aa (.int c),aa (.ref a),aa (.ref x),aa (.ref d),o1,o2])/\aP H0 H'/\H' d=aa (.dT (sO aT))/\aT.length<=i/\∀r∈aT,cr r.1.1=ah/\sQ r.2=ah/\r.2≠0
theorem V9{vs:List V}{_E:XK}(h:ki vs H Q _E) :
  YF K t (sJ Q) (L2.start ["cell","shelves","xs","found","k","worth"] vs) H:=by
 obtain⟨c,a,ws,rfl,h1,h2,q⟩:=h;refine⟨_,Y,c,10,Y,(),λx ds H1 s1 fx hx ld od d hd=>?_⟩;have g1:=cO c (b:=6) ();have g2:=cy c (b:=6) ();have s2:=sN (o:=HO.dT []) d hd;have S2:=s1.trans s2;have fd:=zC s1 hd;refine⟨_,Y,_,_,Y,Y,by show (0:Int)<6;decide,c%6,Y,(),(),VE (tbI c a x d H1) ⟨[],⟨_,_,Y⟩,s2,ze,bp _,λ_ z=>nomatch z⟩ ?_ ?_⟩
 ·rintro i σ H' hi ⟨aT,⟨o1,o2,rfl⟩,s,hD,hl,hr⟩;rw[rC];have lm:(ds.map V.int).length=ds.length:=bg ..;have hx':aY K H' x (ds.map V.int):=aY.of (s _ _ hx);have h1':=h1.same (s1.trans s);have i6:i<6:=by lia
  have at1:∀ {j:Nat},j<10->tL (ds.map V.int) ((j:Nat):Int)=aa (.int (ds.getD j 0))/\okD (ds.getD j 0):=λ{j} hj=>by
   have hj:j<ds.length:=by lia
   have e:ds.getD j 0=ds[j]:=by rw[bO,bc hj];rfl
   exact⟨yd (by rw[bB,bc hj,e];rfl),by rw[e];exact od _ (eS hj)⟩
  obtain⟨e5,o5⟩:=at1 (j:=i+5) ();obtain⟨e0,o0⟩:=at1 (j:=i) ();generalize ds.getD (i+5) 0=u at *
  generalize ds.getD i 0=v at *
  refine⟨_,Y,_,Y,_,_,Y,Y,x,_,((i+5:Nat):Int),_,Y,Y,hx',e5,u,Y,o5.1,o5.2,λw H2 hw s2=>⟨_,Y,Y,_,Y,?_⟩⟩;by_cases w0:w=0
  ·exact yh (by rw[w0];rfl) ⟨aT,⟨_,_,Y⟩,s.trans s2,s2 _ _ hD,(),hr⟩
  refine yJ (by rw[Bk (λz=>w0 (V.int.inj z))];rfl) ?_;obtain⟨sh,hsh,_,nsh⟩:=zba (h1'.same s2) 2 h2 () v;have hx2:=hx'.mono s2;refine⟨_,Y,_,Y,_,Y,_,Y,_,Y,x,_,i,_,Y,Y,hx2,e0,_,_,Y,Y,by show (0:Int)<2;decide,a,_,v%2,_,Y,Y,aY.of (h1'.same s2).1,hsh,_,Y,_,Y,x,_,i,_,Y,Y,hx2,e0,_,_,Y,Y,dB,_,_,Y,Y,by show (0:Int)<3;decide,by show 2<=Bb;rw[bT];decide,λp hp=>?_⟩;have s5:=sN (o:=HO.tup [V.str sh,V.int (v/2%3)]) p hp;have S5:=s2.trans s5;have lD:=jJ aT;refine⟨d,_,Y,DPut.t (k:=zt (sh,v/2%3)) (S5 _ _ hD) ze (bZ (by lia:_<=900) ()),aT++[((sh,v/2%3),w)],⟨_,_,Y⟩,y9 (s.trans S5) hd,?_,by simp;lia,?_⟩
  ·rw[Zl];exact ze
  ·intro z hz;rcases bC.mp hz with hz|hz
   ·exact hr z hz
   ·rw[bt.mp hz];exact⟨Yf nsh,hw,λz=>w0 z⟩
 ·rintro σ H' ⟨aT,⟨o1,o2,rfl⟩,s,hD,hl,hr⟩;simp only[v0,zeC,zm,zA,U,yz,Z,zf,sM,kI,Vy,zbJ,xc,cY,cf,cp,cL,dh,br,bH,bI,av,V.ref.injEq,bX,and_true,aw,cz,if_true];obtain⟨qs,hqs,nqs,mqs⟩:=za9 aT;have lD:=jJ aT;refine⟨sO aT,hD,qs,hqs,(),λl ps hl0 hperm hpw hps=>?_⟩;obtain⟨H3,eH,s3,q1⟩:=zf8 (o:=HO.lst (ps.map λn=>V.ref n.1)) hl0;rw[<-eH];clear eH;have lp:ps.length<=5:=by
   have a1:=hperm.length_eq;have a2:=congrArg cp hqs;rw[bg] at a1;rw[bg,bg] at a2;lia
  refine⟨⟨_,aY.of q1⟩,λD hD2=>?_⟩;refine zfk (J:=Itl K l) ps.length () (λτ=>∃o,τ=[o,aa (.ref d)]) (zh3 aT (ps.map (·.2))) (λi ys H H' s h=>zgJ s h) ⟨_,Y⟩ ⟨[],.nil,Y⟩ (λi H s h=>⟨_,_,aY.of (s _ _ q1),bc (by rw[bg];exact h)⟩) (λH s=>⟨_,aY.of (s _ _ q1),by rw[bg];exact bp _⟩) hD2 ?_ ?_
  ·rintro i v τ ys H4 H5 ⟨o,rfl⟩ s4 hi hR ⟨rfl,hv⟩;have hv:=hv _ (aY.of (s4 _ _ q1));rw[bB] at hv;obtain⟨n,hn,rfl⟩:=b8.mp hv;have hp:=s4 _ _ (s3 _ _ (hps n (bV hn)));simp only[br,bH,bI,av,V.ref.injEq,bX,and_true,cH];have hm:n.2∈qs:=hperm.mem_iff.mp (bu (bV hn));obtain⟨w,hw⟩:=fI.mp ((mqs n.2).mp hm);have g:sT H5 d (.ref n.1) ((zw aT n.2).map V.int):=.inr ⟨sO aT,zt n.2,n.1,.inl (s4 _ _ (s3 _ _ hD)),Y,hp,(x9 aT n.2).symm⟩;rw[hw] at g;have w0:w≠0:=(hr _ (V3 hw)).2.2;have tk:(ps.map (·.2)).take (i+1)=(ps.map (·.2)).take i++[n.2]:=by rw[dt,bB,hn];rfl
   obtain⟨out,hr2,ho⟩:=hR;refine⟨_,g,(),λp hp2=>⟨⟨_,Y⟩,?_,sN p hp2⟩⟩;refine⟨out++[(n.2,w)],Ks (Yh (sN p hp2) hr2) ⟨p,n.1,Y,ze,sN p hp2 _ _ hp⟩,?_⟩;rw[tk,List.filterMap_append,<-ho];simp[Kt,hw,w0]
  ·rintro ys H4 hly ⟨out,hr2,ho⟩ s4 hq;rw[cP (by rw[bg];exact bp _)] at ho;subst ho;have T:=zh4 hpw λp=>(hperm.mem_iff.trans (mqs p));have S:=s1.trans (s.trans (s3.trans s4));refine q D _ H4 S (zC (s1.trans (s.trans s3)) hD2) ⟨ys,hq,hr2⟩ T.1 (λr h=>hr _ (V3 ((T.2 r.1 r.2).mp h).1)) ?_;have:=List.length_filterMap_le (Kt aT) (ps.map (·.2));rw[bg] at this;lia
section
variable {kd:Int}{p a b sp tp:ac}{ds:List Int}{us ws:List Str}{sh sl:Str}{e0 f:List V}{Hb:B}
theorem zfB{y1:Int}(od:okD y1)(hp:∃xs,H p=aa (.lst xs)/\tL xs 1=aa (.int y1))(nsh:yE sh=ah)(nsl:yE sl=ah)(te:hU e0)(pe:tmP e0)(hs:H sp=aa (.tup e0))(fs:Hb sp=ao)(tf:hU f)(pf:tmP f)(ht:H tp=aa (.tup f))(ft:Hb tp=ao)(S:aP Hb H)
  (q:∀v r H',aP Hb H'->sw (λb=>Hb b=ao) H' v r->rwW r->Q v H') :
  kA K t (sJ Q) [aa (.ref p),aa (.ref a),aa (.ref b),aa (.int kd),aa (.str sh),aa (.str sl),aa (.ref sp),aa (.ref tp)] H:=by
 simp only[kA,zj,zA,zy,aQ,U,L,yz,Z,zf,zF,zu,yA,sX,rI,rI0,zc8,cp,br,bH,bI,av,V.int.injEq,V.ref.injEq,V.bl.injEq,true_and,aw,cz,decide_eq_true_eq];obtain⟨ts,ps⟩:=XU (u:=.str sl) (.inr ⟨sl,Y,nsl⟩);obtain⟨xs,h1,h2⟩:=hp;refine xl (λ_=>⟨(),λr hr=>?_⟩) λ_=>xl (λ_=>⟨(),λr hr=>?_⟩) λ_=>xl (λ_=>⟨(),λr hr=>?_⟩) λ_=>xl (λ_=>⟨(),λr hr=>?_⟩) λ_=>⟨_,aY.of h1,_,h2,_,Y,(),(),λp2 hp2=>⟨(),λr hr=>?_⟩⟩
 ·exact q _ (.take sh e0 sl) _ (S.trans (sN r hr)) ⟨r,sp,Y,zC S hr,fs,ze,sN r hr _ _ hs⟩ ⟨trivial,⟨Yf nsh,pe,Yf nsl⟩,te⟩
 ·exact q _ (.give sh e0 f) _ (S.trans (sN r hr)) ⟨r,sp,tp,Y,zC S hr,fs,ft,ze,sN r hr _ _ hs,sN r hr _ _ ht⟩ ⟨trivial,⟨Yf nsh,pe,pf⟩,⟨te,tf⟩⟩
 ·exact q _ (.lt sl f) _ (S.trans (sN r hr)) ⟨r,tp,Y,zC S hr,ft,ze,sN r hr _ _ ht⟩ ⟨trivial,⟨Yf nsl,pf⟩,tf⟩
 ·exact q _ (.say f) _ (S.trans (sN r hr)) ⟨r,tp,Y,zC S hr,ft,ze,sN r hr _ _ ht⟩ ⟨trivial,pf,tf⟩
 ·have s3:=sN (o:=HO.tup [V.str sl,V.int (y1%3+1),V.str (bb "same")]) p2 hp2;have jw:wdJ (bb "same"):=⟨(),(),()⟩;obtain⟨t2,p3⟩:=XU (u:=.int (y1%3+1)) (.inl ⟨_,Y,tT.mpr ()⟩);exact q _ (.off ([.str sl]++[.int (y1%3+1)]++[.str (bb "same")])) _ (S.trans (s3.trans (sN r hr))) ⟨r,p2,Y,zC (S.trans s3) hr,zC S hp2,ze,sN r hr _ _ ze⟩ ⟨trivial,(by unfold VQ;exact zcN ps p3 jw),(by unfold Zm;exact Ku ts t2 jw (by simp))⟩
theorem QE{vs:List V}{_E:XK}(h:ZG vs H Q _E) :
  ZU K t (sJ Q) (L2.start ["xs","shelves","slots","kind","shelf","slot","spot","term"] vs) H:=by
 obtain⟨p,a,b,ds,us,ws,rfl,h1,h2,h3,h4,h5,h6,h7,q⟩:=h
 match ds,h2 with
 |[x0,x1,x2],_ =>
 have o1:=h3 x1 (.tail _ (.head _));have o2:=h3 x2 (.tail _ (.tail _ (.head _)));unfold ZU zj zE zm;refine QC (λ_ q=>QB Y h1 Y q) () λk _ _=>?_;refine QD h4 h5 Y (λ_ q=>QB Y h1 Y ⟨_,_,Y,Y,dB,q⟩) λsh nsh=>?_;refine QD h6 h7 Y (λ_ q=>QB Y h1 Y ⟨_,_,Y,Y,dB,q⟩) λsl nsl=>?_;refine QB Y h1 Y ⟨_,Y,_,_,ws,Y,o1,h6,h7,λsp e H1 s1 fs hs te pe=>?_⟩;refine QB Y (s1 _ _ h1) Y ⟨_,Y,_,_,ws,Y,o2,h6.same s1,h7,λtp f H2 s2 ft ht tf pf=>?_⟩;have S:=s1.trans s2;exact zfB (t:=t) o1 ⟨_,S _ _ h1,Y⟩ nsh nsl te pe (s2 _ _ hs) fs tf pf ht (zC s1 ft) S q
end
section
variable {F:ac->Prop}{vs:List V}{rs:List Rw}
theorem zbe:∀ {vs:List V} {rs:List Rw},Paired (sw F H) vs rs->sB F H vs (hZ.of rs)
 |_,_,.nil=>by unfold hZ.of sB;rfl
 |_,_,.cons a t=>by
  unfold hZ.of sB;exact⟨_,_,Y,a,zbe t⟩
theorem zbf:∀ {rs:List Rw},(∀r∈rs,VQ r)->Zo (hZ.of rs)
 |[],_=>by unfold hZ.of Zo;trivial
 |r::rs,h=>by
  unfold hZ.of Zo;exact⟨h r bo,zbf λx hx=>h x (bh _ hx)⟩
theorem zbg:∀ {rs:List Rw},(∀r∈rs,Zm r)->Yu (hZ.of rs)
 |[],_=>by unfold hZ.of Yu;trivial
 |r::rs,h=>by
  unfold hZ.of Yu;exact⟨h r bo,zbg λx hx=>h x (bh _ hx)⟩
theorem XW{n:Nat}:∀ {rs:List Rw},(∀r∈rs,r.deep<=n)->(hZ.of rs).deep<=n
 |[],_=>by unfold hZ.of;simp[hZ.deep]
 |r::rs,h=>by
  unfold hZ.of;have h1:=h r bo;have h2:=XW (rs:=rs) λx hx=>h x (bh _ hx);simp only[hZ.deep];lia
theorem Vl(h:VX r):r.deep=0:=by
 cases r with
 |iff e a b=>exact absurd h (λz=>z)
 |take _ _ _=>simp[Rw.deep]
 |give _ _ _=>simp[Rw.deep]
 |lt _ _=>simp[Rw.deep]
 |say _=>simp[Rw.deep]
 |off _=>simp[Rw.deep]
theorem jW{α β:Type}{R:α->β->Prop}:∀ {xs:List α} {ys:List β} (k:Nat),Paired R xs ys->Paired R (xs.take k) (ys.take k)
 |_,_,0,_=>.nil
 |_,_,_+1,.nil=>.nil
 |_,_,k+1,.cons a t=>.cons a (jW k t)
theorem ZY{α β:Type}{R:α->β->Prop}:∀ {xs:List α} {ys:List β} (k:Nat),Paired R xs ys->Paired R (xs.drop k) (ys.drop k)
 |_,_,0,h=>h
 |_,_,_+1,.nil=>.nil
 |_,_,k+1,.cons _ t=>ZY k t
end
theorem zfC(xs:List V)(n:Nat):Ze xs ao (aa (n:Int))=xs.take n:=by
 unfold Ze;rw[HT.sIx_none,HT.sIx_nat,iP,rc];by_cases c:n<=xs.length
 ·rw[eL c]
 ·rw[lh (),cP (bp _),cP ()]
theorem zib(xs:List V)(n:Nat):Ze xs (aa (n:Int)) ao=xs.drop n:=by
 unfold Ze;rw[HT.sIx_none,HT.sIx_nat];by_cases c:n<=xs.length
 ·rw[eL c];exact cP (by rw[cT];exact bp _)
 ·rw[lh (),nS (bp _),nS (),List.take_nil]
theorem zfD(xs:List V)(k m:Nat)(hk:k<=m)(hm:m<=xs.length):Ze xs (aa (k:Int)) (aa (m:Int))=(xs.drop k).take (m-k):=by
 unfold Ze;rw[HT.sIx_nat,HT.sIx_nat,eL hm,eL (by lia:k<=xs.length)]
section
variable {c:Int}{a b Bp X:ac}{ds:List Int}{us ws:List Str}{vs:List V}{rs:List Rw}{Hb:B}
theorem Ja{α β:Type}{R:α->β->Prop}:∀ {xs:List α} {ys:List β} {us:List α} {vs:List β},Paired R xs ys->Paired R us vs->Paired R (xs++us) (ys++vs)
 |_,_,_,_,.nil,h=>h
 |_,_,_,_,.cons a t,h=>.cons a (Ja t h)
theorem zb9:∀ {rs:List Rw},(∀r∈rs,VX r)->(hZ.of rs).cnt<=rs.length
 |[],_=>by unfold hZ.of;simp[hZ.cnt]
 |r::rs,h=>by
  have h2:=zb9 (rs:=rs) λx hx=>h x (bh _ hx);have h1:=h r bo;unfold hZ.of;cases r with
  |iff e a b=>exact absurd h1 (λz=>z)
  |take _ _ _=>simp only[hZ.cnt,Rw.cnt,bY];lia
  |give _ _ _=>simp only[hZ.cnt,Rw.cnt,bY];lia
  |lt _ _=>simp only[hZ.cnt,Rw.cnt,bY];lia
  |say _=>simp only[hZ.cnt,Rw.cnt,bY];lia
  |off _=>simp only[hZ.cnt,Rw.cnt,bY];lia
def szX(r:Rw):Nat:=match r with|.iff _ a b=>a.cnt+b.cnt+3|_=>1
theorem zgS(h:VX r):szX r=1:=by
 cases r with
 |iff e a b=>exact absurd h (λz=>z)
 |take _ _ _=>rfl
 |give _ _ _=>rfl
 |lt _ _=>rfl
 |say _=>rfl
 |off _=>rfl
theorem Vm:∀ {rs:List Rw},(∀r∈rs,VX r)->(rs.map szX).sum=rs.length
 |[],_=>rfl
 |r::rs,h=>by
  rw[bx,cQ,zgS (h r bo),Vm λx hx=>h x (bh _ hx),bY];lia
theorem zic(h:∀r∈rs,rwW r)(l:rs.length<=6):zgz rs:=⟨bP (XW (n:=0) λr hr=>by rw[Vl (h r hr).nf];exact bp _) (),zbf λr hr=>(h r hr).pl,zbg λr hr=>(h r hr).ok,by
 have:=Vm λr hr=>(h r hr).nf;show (rs.map szX).sum<=11;lia⟩
theorem zid{σ:St}{te tf:TE}{y:Int}{n:Nat}(he:∀Q:VK,Q (.int y) H->te σ H Q)(hf:∀Q:VK,Q (.int (n:Nat)) H->tf σ H Q)(hn:0<n)(q:∀k:Nat,k<n->Q (.int (k:Nat)) H):aQ aG te tf σ H Q:=he _ (hf _ ⟨_,_,Y,Y,Int.ofNat_lt.mpr hn,by
 have f1:=cO y (b:=(n:Int)) ();have f2:=cy y (b:=(n:Int)) ();obtain⟨k,ek⟩:∃k:Nat,y%(n:Int)=k:=⟨(y%(n:Int)).toNat,(lW f1).symm⟩;have z:=q k ();rw[<-ek] at z;exact z⟩)
theorem zdI{o5 o6 o7:Option V}(hX:H X=aa (.lst (ds.map V.int)))(ld:ds.length=22)(od:∀d∈ds,okD d)(hL:H Bp=aa (.lst vs))(fL:Hb Bp=ao)(pr:Paired (sw (λb=>Hb b=ao) H) vs rs)(rw_:∀r∈rs,rwW r)(l6:rs.length<=6)(hw:sF H b ws)(lw:ws.length=2)(S:aP Hb H)
  (q:∀l rs H',aP Hb H'->RlAt (λb=>Hb b=ao) H' (.ref l) (hZ.of rs)->zgz rs->Q (.ref l) H') :
  jt K t (sJ Q) [aa (.int c),aa (.ref a),aa (.ref b),aa (.ref X),aa (.ref Bp),ao,ao,ao] H:=by
 have lv:=bN pr;have at1:∀ {j:Nat},j<22->tL (ds.map V.int) ((j:Nat):Int)=aa (.int (ds.getD j 0))/\okD (ds.getD j 0):=λ{j} hj=>by
  have hj:j<ds.length:=by lia
  have e:ds.getD j 0=ds[j]:=by rw[bO,bc hj];rfl
  exact⟨yd (by rw[bB,bc hj,e];rfl),by rw[e];exact od _ (eS hj)⟩
 unfold jt zj zF;refine⟨_,Y,_,_,Y,Y,dB,_,_,Y,Y,by show (0:Int)<3;decide,Y,_,Y,?_⟩;by_cases hc:c/7%3=0
 ·refine yJ (Bj (congrArg V.int hc)) ?_;refine zid (n:=vs.length+1) (λ_ q=>QB Y hX (at1 (j:=18) ()).1 q) (λ_ q=>⟨_,Y,.ref Bp,vs.length,Y,.inl ⟨_,aY.of hL,Y⟩,_,_,Y,Y,q⟩) (Nat.succ_pos vs.length) λk hk=>?_;have hk:k<vs.length+1:=hk;refine⟨_,Y,zid (n:=vs.length+1-k) (λ_ q=>QB Y hX (at1 (j:=21) ()).1 q) (λ_ q=>⟨_,Y,.ref Bp,vs.length,Y,.inl ⟨_,aY.of hL,Y⟩,_,_,Y,Y,_,Y,_,_,Y,Y,by rw[show ((vs.length+1-k:Nat):Int)=(vs.length:Int)+1-k by lia] at q;exact q⟩) () λm' hm=>⟨_,_,Y,Y,?_⟩⟩;obtain⟨m,em⟩:∃m,m=k+m':=⟨_,Y⟩;have km:k<=m:=by lia
  have ml:m<=vs.length:=by lia
  obtain⟨e19,o19⟩:=at1 (j:=19) ();refine QB Y hX e19 ⟨_,Y,_,b,ws,Y,o19,hw,lw,λtp e H1 s1 ft ht te pe=>?_⟩;refine⟨_,Y,_,Y,k,Y,_,Y,(m:Int),by rw[em];rfl,Bp,vs,Y,aY.of (s1 _ _ hL),λp1 hp1=>?_⟩;rw[zfD vs k m km ml];generalize c_:upd H1 p1 _=H2;obtain⟨s2,g2⟩:=xk c_ hp1;have S2:=s1.trans s2;refine⟨_,Y,?_⟩;refine zid (n:=3) (λ_ q=>QB Y (S2 _ _ hX) (at1 (j:=20) ()).1 q) (λ_ q=>q) () λj f6=>?_;refine⟨_,Y,Bp,vs,Y,aY.of (S2 _ _ hL),λp2 hp2=>?_⟩;rw[zfC];generalize c_:upd H2 p2 _=H3;obtain⟨s3,g3⟩:=xk c_ hp2;refine⟨by show 4<=Bb;rw[bT];decide,λrp hrp=>?_⟩;generalize c_:upd H3 rp _=H4;obtain⟨s4,g4⟩:=xk c_ hrp;have S3:=S2.trans s3;have S4:=S3.trans s4;refine⟨_,Y,_,Y,k,Y,Bp,vs,Y,aY.of (S4 _ _ hL),λp3 hp3=>?_⟩;rw[zfC];generalize c_:upd H4 p3 _=H5;obtain⟨s5,g5⟩:=xk c_ hp3;refine⟨_,Y,by show 1<=Bb;rw[bT];decide,λp4 hp4=>?_⟩;generalize c_:upd H5 p4 _=H6;obtain⟨s6,g6⟩:=xk c_ hp4;refine⟨_,_,_,_,Y,Y,s6 _ _ g5,g6,bP (by rw[cK];show min k vs.length+1<=110;lia:_<=110) (),λp5 hp5=>?_⟩;generalize c_:upd H6 p5 _=H7;obtain⟨s7,g7⟩:=xk c_ hp5;have S7:=S4.trans (s5.trans (s6.trans s7));refine⟨_,Y,_,Y,(m:Int),by rw[em];rfl,Bp,vs,Y,aY.of (S7 _ _ hL),λp6 hp6=>?_⟩;rw[zib];generalize c_:upd H7 p6 _=H8;obtain⟨s8,g8⟩:=xk c_ hp6;refine⟨_,_,_,_,Y,Y,s8 _ _ g7,g8,bP (by rw[bE,cK,cT];show min k vs.length+1+(vs.length-m)<=110;lia:_<=110) (),λp7 hp7=>?_⟩;generalize c_:upd H8 p7 _=H9;obtain⟨s9,g9⟩:=xk c_ hp7;refine⟨_,Y,?_⟩;have T4:=s5.trans (s6.trans (s7.trans (s8.trans s9)));have S9:=S4.trans T4;have P:=Paired.mapP pr λ_ r z=>sw.mono S9 z;have Bo:∀ {n:Nat} {x:Rw},x∈rs.take n->x∈rs:=λh=>dJ h;have C:∀ {x:Rw},x∈(rs.drop k).take (m-k)->x∈rs:=λh=>dv (dJ h);have I:sw (λb=>Hb b=ao) H9 (.ref rp) (.iff e (hZ.of ((rs.drop k).take (m-k))) (hZ.of (rs.take j))):=by
   unfold sw;exact⟨rp,tp,p1,p2,_,_,Y,zC (S.trans S3) hrp,zC S ft,zC (S.trans s1) hp1,zC (S.trans S2) hp2,T4 _ _ g4,(s2.trans (s3.trans (s4.trans T4))) _ _ ht,(s3.trans (s4.trans T4)) _ _ g2,zbe (jW _ (ZY _ P)),(s4.trans T4) _ _ g3,zbe (jW _ P)⟩
  have all:∀x∈rs.take k++[.iff e (hZ.of ((rs.drop k).take (m-k))) (hZ.of (rs.take j))]++rs.drop m,x∈rs\/x=.iff e (hZ.of ((rs.drop k).take (m-k))) (hZ.of (rs.take j)):=λx hx=>by
   rcases bC.mp hx with hx|hx
   ·rcases bC.mp hx with hx|hx
    ·exact .inl (Bo hx)
    ·exact .inr (bt.mp hx)
   ·exact .inl (dv hx)
  have ip:VQ (.iff e (hZ.of ((rs.drop k).take (m-k))) (hZ.of (rs.take j))):=by
   unfold VQ;exact⟨pe,zbf λx hx=>(rw_ x (C hx)).pl,zbf λx hx=>(rw_ x (Bo hx)).pl⟩
  have io:Zm (.iff e (hZ.of ((rs.drop k).take (m-k))) (hZ.of (rs.take j))):=by
   unfold Zm;exact⟨te,zbg λx hx=>(rw_ x (C hx)).ok,zbg λx hx=>(rw_ x (Bo hx)).ok⟩
  have dp:Rw.deep (.iff e (hZ.of ((rs.drop k).take (m-k))) (hZ.of (rs.take j)))<=1:=by
   have a1:=XW (n:=0) (rs:=(rs.drop k).take (m-k)) λx hx=>by rw[Vl (rw_ x (C hx)).nf];exact bp _
   have a2:=XW (n:=0) (rs:=rs.take j) λx hx=>by rw[Vl (rw_ x (Bo hx)).nf];exact bp _
   simp only[Rw.deep];lia
  refine q p7 (rs.take k++[.iff e (hZ.of ((rs.drop k).take (m-k))) (hZ.of (rs.take j))]++rs.drop m) H9 (S.trans S9) ⟨p7,_,Y,zC (S.trans (S7.trans s8)) hp7,g9,zbe (Ja (Ja (jW _ P) (.cons I .nil)) (ZY _ P))⟩ ⟨XW λx hx=>?_,zbf λx hx=>?_,zbg λx hx=>?_,?_⟩
  ·rcases all x hx with h|rfl
   ·rw[Vl (rw_ x h).nf];exact bW _
   ·exact dp
  ·rcases all x hx with h|rfl
   ·exact(rw_ x h).pl
   ·exact ip
  ·rcases all x hx with h|rfl
   ·exact(rw_ x h).ok
   ·exact io
  ·show ((rs.take k++[Rw.iff e (hZ.of ((rs.drop k).take (m-k))) (hZ.of (rs.take j))]++rs.drop m).map szX).sum<=11;rw[bS,bS,rZ,rZ,Vm λx hx=>(rw_ x (Bo hx)).nf,Vm λx hx=>(rw_ x (dv hx)).nf];have c1:=zb9 (rs:=(rs.drop k).take (m-k)) λx hx=>(rw_ x (C hx)).nf;have c2:=zb9 (rs:=rs.take j) λx hx=>(rw_ x (Bo hx)).nf;rw[cK,cT] at c1;rw[cK] at c2;rw[cK,cT];show min k rs.length+((hZ.of ((rs.drop k).take (m-k))).cnt+(hZ.of (rs.take j)).cnt+3+0)+(rs.length-m)<=11;lia
 ·exact yh (Bk (λz=>hc (V.int.inj z))) ⟨_,Y,q Bp rs H S ⟨Bp,vs,Y,fL,hL,zbe pr⟩ (zic rw_ l6)⟩
def cRw(D:ac)(Hb:B)(i:Nat)(ys:List V)(H:B):Prop:=∃rs:List Rw,Paired (sw (λb=>Hb b=ao/\b≠D) H) ys rs/\(∀r∈rs,rwW r)/\rs.length=i
theorem JI{vs:List V}{_E:XK}(h:qF vs H Q _E) :
  XO K t (sJ Q) (L2.start ["cell","shelves","slots","xs","rows","at","to","row"] vs) H:=by
 obtain⟨c,a,b,us,ws,rfl,h1,h2,h3,h4,q⟩:=h;refine⟨_,Y,_,22,Y,(),λX ds H1 s1 fX hX ld od=>?_⟩;unfold zj zE zm;refine QC (σ:=[aa (.int c),aa (.ref a),aa (.ref b),aa (.ref X),ao,ao,ao,ao]) (te:=U 0) (n:=7) (λ_ q=>⟨_,Y,q⟩) () λk g1 g2=>?_;refine⟨_,Y,(),(),λD hD=>?_⟩;have fD:=zC s1 hD;refine zdF (J:=Itr 0 (k).toNat) (k).toNat () (λτ=>∃o,τ=[o,aa (.ref X),aa (.ref a),aa (.ref b)]) (cRw D H) (λi ys H2 H' s ⟨rs,p1,p2⟩=>⟨rs,Paired.mapP p1 λ_ r z=>z.to r (λ_ _ f _=>f) (λb o f e=>s b o f.2 e),p2⟩) ⟨_,Y⟩ ⟨[],.nil,(λr z=>nomatch z),Y⟩ (λi H _ h=>h) (λH _=>bp _) hD ?_ ?_
 ·rintro i v τ ys H4 H5 ⟨o,rfl⟩ s4 hi ⟨rs,pr,wr,li⟩ hy ⟨rfl,rfl⟩;rw[rC];have mb:CMulB 3 i:=mS () () () ();refine⟨_,Y,_,Y,_,_,Y,Y,mb,_,Y,_,Y,_,_,Y,Y,mb,_,_,Y,Y,_,Y,_,_,Y,aY.of (s4 _ _ hX),λp hp=>?_⟩;have e1:3*(i:Int)=((3*i:Nat):Int):=by lia
  have e2:3*(i:Int)+3=((3*i+3:Nat):Int):=by lia
  rw[e2,e1,zfD _ _ _ () (by rw[bg];lia),<-nE,<-nF];have le:((ds.drop (3*i)).take (3*i+3-3*i)).length=3:=by rw[cK,cT];lia
  have oe:∀d∈(ds.drop (3*i)).take (3*i+3-3*i),okD d:=λd hd=>od d (dv (dJ hd));generalize (ds.drop (3*i)).take (3*i+3-3*i)=es at *
  have s5:=sN (o:=HO.lst (es.map V.int)) p hp;have S:=s1.trans (s4.trans s5);have ne:∀ {b},upd H5 p (HO.lst (es.map V.int)) b=ao->b≠D:=λ{b} e z=>by rw[z,s5 _ _ hy] at e;cases e
  refine⟨_,Y,_,Y,p,_,_,es,us,ws,Y,ze,le,oe,h1.same S,h2,h3.same S,h4,λv r H6 s6 hr hw=>⟨⟨_,Y⟩,⟨rs++[r],Paired.snocP (Paired.mapP pr λ_ _ z=>z.mono (s5.trans s6)) (hr.to r (λb o f _=>⟨zC S f,ne f⟩) λb o _ e=>e),λx hx=>?_,by rw[bE,li];rfl⟩,s5.trans s6⟩⟩;rcases bC.mp hx with hx|hx
  ·exact wr x hx
  ·rw[bt.mp hx];exact hw
 ·rintro ys H4 hly ⟨rs,pr,wr,li⟩ s4 hq;have S:=s1.trans s4;exact zdI (t:=t) (o5:=ao) (o6:=ao) (o7:=ao) (s4 _ _ hX) ld od hq fD (Paired.mapP pr λ_ r z=>z.to r (λ_ _ f _=>f.1) λb o _ e=>e) wr () (h3.same S) h4 S q
end
theorem zfE{s:sy}{gi:List aW}(h:Za s gi):(gi.map (·.1)).Nodup:=by
 unfold Za at h;split at h
 ·rw[h];exact cI
 ·exact h.1.nd
section
variable {β:Type}{R R':Int->V->β->Prop}{kv:List (bv×V)}{l:List (Int×β)}{h:Int}{b:β}{v:V}
theorem sE{e:Int×β}:e∈zV l h↔e∈l/\e.1≠h:=by unfold zV;rw[cC,decide_eq_true_eq]
theorem Pk.get(p:Pk R kv l):(zS kv (.inl h)=ao/\h ∉ l.map (·.1))\/∃v b,zS kv (.inl h)=aa v/\(h,b)∈l/\R h v b:=by
 unfold Pk at p;induction p with
 |nil=>exact .inl ⟨zad,λz=>nomatch z⟩
 |@cons x e kv l hd tl ih =>
  by_cases c:e.1=h
  ·subst c;exact .inr ⟨x.2,e.2,yB hd.1,bo,hd.2⟩
  ·have n:¬ x.1=.inl h:=by rw[hd.1];exact λz=>c (lJ z)
   rw[yC n,bx,bF];exact ih.imp (λz=>⟨z.1,λy=>y.elim (λy=>c y.symm) z.2⟩) λ⟨v,b,z1,z2,z3⟩=>⟨v,b,z1,bh _ z2,z3⟩
theorem Pk.drop(p:Pk R kv l):Pk R (yc kv (.inl h)) (zV l h):=by
 unfold Pk at p;induction p with
 |nil=>exact .nil
 |@cons x e kv l hd tl ih =>
  by_cases c:e.1=h
  ·rw[J6 (hd.1.trans (congrArg _ c)),zV,dG,ap (by rw[decide_eq_true_eq];exact λz=>z c)];exact ih
  ·rw[Wh (by rw[hd.1];exact λz=>c (lJ z)),zV,dG,au (Bj c)];exact .cons hd ih
theorem Pk.put(p:Pk R kv l)(n:h ∉ l.map (·.1))(r:R h v b):Pk R (ye kv (.inl h) v) (l++[(h,b)]):=by
 rcases p.get (h:=h) with ⟨e,_⟩|⟨v,b,_,m,_⟩
 ·rw[vb _ e];exact Paired.snocP p ⟨Y,r⟩
 ·exact absurd (bu (f:=λe:Int×β=>e.1) m) n
theorem Pk.set(p:Pk R kv l)(nd:(l.map (·.1)).Nodup)(f:∀k v b',(k,b')∈l->k≠h->R k v b'->R' k v b')(g:∀v,zS kv (.inl h)=aa v->R' h v b):Pk R' kv (Yk l h b):=by
 unfold Pk at p;induction p with
 |nil=>exact .nil
 |@cons x e kv l hd tl ih =>
  rw[bx,ca] at nd;have f':=λk v b' m=>f k v b' (bh e m);by_cases c:e.1=h
  ·refine .cons ?_ (ih nd.2 f' λv z=>?_)
   ·dsimp only;rw[au c];subst c;exact⟨hd.1,g _ (yB hd.1)⟩
   ·rcases Pk.get (R:=R) tl (h:=h) with ⟨y,_⟩|⟨_,b',_,m,_⟩
    ·rw[y] at z;cases z
    ·exact absurd (bu (f:=λe:Int×β=>e.1) m) (by rw[<-c];exact nd.1)
  ·refine .cons ?_ (ih nd.2 f' λv z=>g v ((yC (by rw[hd.1];exact λz=>c (lJ z))).trans z));dsimp only;rw[ap c];exact⟨hd.1,f _ _ _ bo c hd.2⟩
end
theorem dkF{P:Str->Option af}(T:Txt K P t):DkF K t:=⟨T.q0b,T.q0f,T.q1s,T.q1x,T.q1r,T.q1p,T.q1w,T.q1t,T.q1v,T.q1u,T.q1q,T.q21,T.q20,T.q22,T.q1z⟩
section
variable {H':B}{lb lb':ac->Nat}{Bp L':List (ac×HO)}{m re b:ac}{g:List aW}{lays:List (Int×List aW)}{P:Pl->Int->Prop}{cs:List V}{CC:List (List Cs)}{n aN:Int}{la:List (bv×V)}{o o' wo:HO}{i:Nat}{r:ac}{no gi:List aW}{ld:List (Int×sy×List aW)}{s:sy}{M:Nat->Prop}
theorem tI.of(s:aP H H'):tI H H':=λ_ _ e=>s _ _ e
theorem sP.at(h:sP t H lb Bp m re g lays P cs CC)(e:Bp[i]?=aa (b,o)):H b=aa o:=(h.ob i b o e).1
theorem sP.lb_(h:sP t H lb Bp m re g lays P cs CC)(e:Bp[i]?=aa (b,o)):lb b=i+1:=(h.ob i b o e).2
theorem sP.core2{P':Pl->Int->Prop}(h:sP t H lb Bp m re g lays P cs CC)(e:∀b,lb b≠0->lb' b=lb b)(e':∀b,lb b=0->lb' b=0\/lb' b=11/\∃o,H' b=aa o)(ob:∀i b o,L'[i]?=aa (b,o)->H' b=aa o/\lb b=i+1)(k:∀b o,lb b=10\/lb b=13->H b=aa o->H' b=aa o)(rr:∃kk,sG H' re (λb=>lb' b=11) P' kk)(ts:tI H H')(al:∀b o,H b=aa o->∃o',H' b=aa o'):sP t H' lb' L' m re g lays P' cs CC:=by
 have e10:(λb=>lb' b=10)=λb=>lb b=10:=funext λb=>propext (by
  rcases mx (lb b) with z|z
  ·rcases e' b z with y|⟨y,_⟩ <;> rw[y,z] <;> decide
  ·rw[e b ()])
 refine⟨λi b o z=>?_,by rw[e10];exact h.ms.keep (λb o fb e=>k b o (.inl fb) e) ts,rr,(e _ (by rw[h.rl];decide)).trans h.rl,Paired.mapP h.cc λv C ⟨⟨c,ys,ev,hc,pc⟩,lc⟩=>⟨⟨c,ys,ev,k c _ (.inr (lc c ev)) hc,xO ts pc⟩,λc ev=>(e c (by rw[lc c ev];decide)).trans (lc c ev)⟩,λb hb=>?_⟩
 ·obtain⟨h1,h2⟩:=ob i b o z;exact⟨h1,(e b ()).trans h2⟩
 ·rcases mx (lb b) with z|z
  ·rcases e' b z with y|⟨_,y⟩
   ·exact absurd y hb
   ·exact y
  ·obtain⟨o,z⟩:=h.ow b ();exact al b o z
theorem sP.core(h:sP t H lb Bp m re g lays P cs CC)(ob:∀i b o,L'[i]?=aa (b,o)->H' b=aa o/\lb b=i+1)(k:∀b o,10<=lb b->lb b<14->H b=aa o->H' b=aa o)(ts:tI H H')(al:∀b o,H b=aa o->∃o',H' b=aa o'):sP t H' lb L' m re g lays P cs CC :=
 h.core2 (λ_ _=>rfl) (λ_=>.inl) ob (λb o z e=>k b o () () e) (let ⟨kk,z⟩:=h.rr;⟨kk,z.keep h.rl (λb o fb e=>k b o (by rw[fb];decide) (by rw[fb];decide) e) λ_ z=>z⟩) ts al
open Classical in
theorem sP.regrow{P':Pl->Int->Prop}(h:sP t H lb Bp m re g lays P cs CC)(ll:Bp.length=9)(k:ss (λb=>lb b=11\/H b=ao) re H H')(dm:Dm H H')(rr:sG H' re (λb=>lb b=11\/H b=ao) P' kk):∃lb',Fr M1 H H' lb lb'/\sP t H' lb' Bp m re g lays P' cs CC:=by
 have kp:∀b o,lb b≠11->H b=aa o->H' b=aa o:=λb o z e=>k b o e (λy=>z (by rw[y];exact h.rl)) (.inr λy=>y.elim z λy=>by rw[e] at y;cases y);obtain⟨kk0,r0⟩:=h.rr;have ts:tI H H':=λb zs e=>k b _ e (zD e r0.at_ ()) (.inl λ_ z=>nomatch z);have al:∀b o,H b=aa o->∃o',H' b=aa o':=λb o e=>let ⟨o',z,_⟩:=dm b o e;⟨o',z⟩
 have ln:∀b,lb b≠0->H b≠ao:=λb z y=>by obtain⟨o,e⟩:=h.ow b z;rw[y] at e;cases e
 refine⟨λb=>if H b=ao/\∃o,H' b=aa o then 11 else lb b,⟨λb o e=>ap (λz=>by rw[z.1] at e;cases e),λb o z e=>kp b o (by unfold M1 at z;lia) e,ts,al⟩,h.core2 (λb z=>ap λy=>ln b z y.1) (λb z=>?_) (λi b o z=>?_) (λb o z e=>kp b o () e) ⟨kk,rr.keep2 Y (λb xs _ e=>e) λb fb z=>?_⟩ ts al⟩
 ·by_cases y:H b=ao/\∃o,H' b=aa o
  ·exact .inr ⟨au y,y.2⟩
  ·exact .inl ((ap y).trans z)
 ·obtain⟨h1,h2⟩:=h.ob i b o z;have:=(bn.mp z).1;exact⟨kp b o () h1,h2⟩
 ·by_cases y:H b=ao/\∃o,H' b=aa o
  ·exact au y
  ·exact(ap y).trans (fb.resolve_right λw=>y ⟨w,z⟩)
theorem sP.keep(h:sP t H lb Bp m re g lays P cs CC)(ll:Bp.length=9)(k:∀b o,lb b≠0->lb b<14->H b=aa o->H' b=aa o)(ts:tI H H')(al:∀b o,H b=aa o->∃o',H' b=aa o'):sP t H' lb Bp m re g lays P cs CC :=
 h.core (λi b o e=>by
  obtain⟨h1,h2⟩:=h.ob i b o e;have:=(bn.mp e).1;exact⟨k b o () () h1,h2⟩) (λb o h1 h2 e=>k b o () h2 e) ts al
theorem sP.same(h:sP t H lb Bp m re g lays P cs CC)(ll:Bp.length=9)(s:aP H H'):sP t H' lb Bp m re g lays P cs CC:=h.keep ll (λb o _ _ e=>s _ _ e) (tI.of s) λb o e=>⟨o,s _ _ e⟩
theorem Xc:∀b' u,H b'=aa u->∃u',upd H b o b'=aa u':=λb' u e=>by
 by_cases c:b'=b
 ·exact⟨o,by rw[c];exact ze⟩
 ·exact⟨u,by rw[zh c];exact e⟩
theorem jA(e:H b=aa o)(n:∀zs,o≠.tup zs):tI H (upd H b o'):=λb' ys e'=>by rw[zh (zD e' e (λz=>n ys z.symm))];exact e'
theorem sP.put(h:sP t H lb Bp m re g lays P cs CC)(ll:Bp.length=9)(e:Bp[i]?=aa (b,o))(n:∀zs,o≠.tup zs):sP t (upd H b o') lb (Bp.set i (b,o')) m re g lays P cs CC:=by
 have li:=(bn.mp e).1;obtain⟨eb,lbb⟩:=h.ob i b o e;refine h.core (λj b2 o2 e2=>?_) (λb2 o2 h1 h2 e2=>?_) (jA eb n) Xc
 ·rw[List.getElem?_set] at e2;by_cases c:i=j
  ·rw[au c,au ()] at e2;cases e2;exact⟨ze,()⟩
  ·rw[ap c] at e2;obtain⟨h1,h2⟩:=h.ob j b2 o2 e2;exact⟨by rw[zh (λz=>by rw[z] at h2;lia)];exact h1,h2⟩
 ·rw[zh (λz=>by rw[z] at h1;lia)];exact e2
theorem Fr.mono{M':Nat->Prop}(h:Fr M H H' lb lb')(k:∀l,M' l->M l):Fr M' H H' lb lb':=⟨h.ex,λb o z e=>h.kp b o (k _ z) e,h.ts,h.al⟩
theorem Fr.m0(h:Fr M1 H H' lb lb'):Fr M0 H H' lb lb':=h.mono λl z=>z.imp id λy=>by lia
theorem Fr.same(s:aP H H'):Fr M H H' lb lb:=⟨λ_ _ _=>rfl,λ_ _ _ e=>s _ _ e,λ_ _ e=>s _ _ e,λ_ o e=>⟨o,s _ _ e⟩⟩
theorem Fr.trans{H2:B}{lb2:ac->Nat}(h:Fr M H H' lb lb')(k:Fr M H' H2 lb' lb2):Fr M H H2 lb lb2 :=
 ⟨λb o e=>let ⟨o',e'⟩:=h.al b o e;(k.ex b o' e').trans (h.ex b o e),λb o z e=>k.kp b o (by rw[h.ex b o e];exact z) (h.kp b o z e),λb zs e=>k.ts b zs (h.ts b zs e),λb o e=>let ⟨o',e'⟩:=h.al b o e;k.al b o' e'⟩
theorem sP.fput(h:sP t H lb Bp m re g lays P cs CC)(e:Bp[i]?=aa (b,o))(n:∀zs,o≠.tup zs)(ll:i<9:=by lia):Fr M1 H (upd H b o') lb lb:=by
 have l:=h.lb_ e;exact⟨λ_ _ _=>rfl,λb2 u z e2=>by rw[zh (λy=>by rw[y,l] at z;unfold M1 at z;lia)];exact e2,jA (h.at e) n,Xc⟩
theorem zhl(h:sR H l aT)(F:Fr M H H' lb lb')(k:M 14)(z:lb l=14):sR H' l aT:=by
 obtain⟨xs,hx,hp⟩:=h;exact⟨xs,F.kp _ _ (by rw[z];exact k) hx,Paired.mapP hp λ_ _ y=>L2.PrAt.tsame y F.ts⟩
theorem tU.fr(h:tU H lb r no gi)(F:Fr M H H' lb lb')(k:M 14):tU H' lb' r no gi:=by
 obtain⟨o,nl,gl,e,h1,h2,z1,z2⟩:=h;obtain⟨xs,hx,hp⟩:=id h1;obtain⟨ys,hy,hq⟩:=id h2;exact⟨o,nl,gl,F.ts _ _ e,zhl h1 F k z1,zhl h2 F k z2,(F.ex _ _ hx).trans z1,(F.ex _ _ hy).trans z2⟩
theorem wV(h:Pk (XM H lb) la ld)(F:Fr M H H' lb lb')(k:M 14):Pk (XM H' lb') la ld:=Paired.mapP h λ_ _ ⟨e,r,er,hr⟩=>⟨e,r,er,hr.fr F k⟩
theorem sP.out(h:sP t H lb Bp m re g lays P cs CC)(e:H b=ao):lb b=0:=fC λz=>by obtain⟨o,y⟩:=h.ow b z;rw[e] at y;cases y
theorem ZZ{vs:List V}{_E:XK}(MF:MkF K t)(h:xt t vs H Q _E) :
  vM K t (sJ Q) (L2.start ["self","place","rank","ranks","above"] vs) H:=by
 obtain⟨m,p,aN,F,g,lays,q0,rfl,h1,h2,q⟩:=h;obtain⟨dx,gr,wo,rk,wk,kk,M⟩:=tq.ex h1;refine(yu M.im MF.cl MF.r Y zgM ⟨rk,Y,.inr ⟨_,.inl M.rr.at_⟩,_,Y,(),λl hl=>?_⟩);generalize c_:upd H l _=H2;obtain⟨s2,q2⟩:=xk c_ hl;have M2:=M.keep h1.me λb o _ e=>s2 _ _ e;refine⟨_,.t M2.rr.at_ (s2 _ _ h2),?_⟩;have go:∃(c:ac) (rs:List Int),((zS kk (zt q0)).getD (.ref l))=.ref c/\H2 c=aa (.lst (rs.map V.int))/\rs.Pairwise (· < ·):=by
  rcases M2.rr.get q0 with ⟨c,rs,hk,hv,fa,ha,hs,hne,hi⟩|⟨hv,_,_⟩
  ·exact⟨c,rs,by rw[hv];rfl,ha,hs⟩
  ·exact⟨l,[],by rw[hv];rfl,q2,fJ⟩
 obtain⟨c,rs,ev,ha,hs⟩:=go;rw[ev];refine⟨_,Y,_,Y,_,_,Y,Y,c,rs,_,Y,ha,hs,λk H3 s3 hk _ _=>?_⟩;have e3:=s3 _ _ ha;refine⟨_,Y,_,Y,.ref c,rs.length,Y,.inl ⟨_,aY.of e3,(bg ..).symm⟩,Y,_,Y,?_⟩;by_cases z:k=rs.length
 ·exact yJ (Bj (by rw[z])) (q _ H3 (s2.trans s3) (.inl Y))
 ·refine yh (Bk (λy=>z (by injection y with y;lia))) ?_;exact⟨_,Y,_,Y,c,_,k,_,Y,Y,aY.of e3,yd (by rw[bB,bc (show k<rs.length by lia)];rfl),q _ H3 (s2.trans s3) (.inr ⟨_,Y⟩)⟩
end
section
variable {H':B}{lb:ac->Nat}{Bp:List (ac×HO)}{d b:ac}{a:tP}{g:List aW}{lays:List (Int×List aW)}{P:Pl->Int->Prop}{cs en:List V}{CC:List (List Cs)}{n f aN:Int}{ws db:List Int}{kv la:List (bv×V)}{o o' wo:HO}{i:Nat}{r:ac}{no gi:List aW}{ld:List (Int×sy×List aW)}{s:sy}
theorem zie(x:Int):∃db',ye (dbL db) (.inl x) (.bl ah)=dbL db'/\(db.Nodup->db'.Nodup)/\∀y,y∈db'↔y∈db\/y=x:=by
 by_cases c:x∈db
 ·refine⟨db,?_,id,λy=>⟨.inl,λz=>z.elim id λz=>by rw[z];exact c⟩⟩;unfold ye;rw[au (gS.mpr ⟨(.inl x,.bl ah),bu (f:=λr=>((.inl r:bv),V.bl ah)) c,Bj Y⟩)];refine(dO λkv hk=>?_).trans (List.map_id _);obtain⟨y,_,rfl⟩:=bD.mp hk;split <;> rfl
 ·refine⟨db++[x],?_,λnd=>?_,λy=>by rw[bC,bt]⟩
  ·rw[vb _ (V2 λz=>?_)]
   ·unfold dbL;rw[bS];rfl
   rw[dbL,dE] at z;obtain⟨y,hy,e⟩:=bD.mp z;exact c (by rw[<-lJ e];exact hy)
  ·refine du.mpr ⟨nd,by simp,λy hy z hz e=>c ?_⟩;rw[<-bt.mp hz,<-e];exact hy
theorem zcT(x:Int):yc (dbL db) (.inl x)=dbL (db.filter λy=>decide (y≠x)):=by
 unfold yc dbL;rw[List.filter_map];congr 1;refine List.filter_congr λy _=>?_;show decide ((gb y:bv)≠.inl x)=decide (y≠x);simp
theorem zfF{x:Int}(h:x∈db):zS (dbL db) (.inl x)=aa (.bl ah):=by
 cases e:zS (dbL db) (.inl x) with
 |none =>
  refine absurd ?_ (zam e);rw[dbL,dE];exact bu (f:=λy:Int=>(gb y:bv)) h
 |some v =>
  obtain⟨p,hp,rfl⟩:=zeq e;obtain⟨y,_,rfl⟩:=bD.mp hp;rfl
theorem sS.len(h:sS ld db):db.length<=ld.length:=by
 have:=xR h.nd h.su
 rwa [bg] at this
theorem zgT{lo hi:Option Int}(h:x∈Ze xs lo hi):x∈xs:=dv (dJ h)
theorem sP.dbt(x:Int)(h:sP t H lb (tN t d a n f wo cs ws kv la db en) a.mks a.re g lays P cs CC)(l:db.length<=100):∃H' db',DPut H a.db (.int x) (.bl ah) H'/\Fr M1 H H' lb lb/\sP t H' lb (tN t d a n f wo cs ws kv la db' en) a.mks a.re g lays P cs CC/\(db.Nodup->db'.Nodup)/\(∀y,y∈db'↔y∈db\/y=x)/\∀b o,b≠a.db->H b=aa o->H' b=aa o:=by
 obtain⟨db',e,nd,mm⟩:=zie (db:=db) x;have h2:=h.put (i:=7) (o':=.dK (dbL db')) Y Y ();have F2:=h.fput (i:=7) (o':=.dK (dbL db')) Y ();have z:=DPut.k (k:=.inl x) (v:=.bl ah) (h.at (i:=7) Y) (by rw[bT];unfold dbL;rw[bg];lia);rw[e] at z;exact⟨_,db',z,F2,h2,nd,mm,λb o z e=>by rw[zh z];exact e⟩
theorem Jb{c p:ac}{rs:List Int}{k:Nat}{v4:V}(D:DkF K t)(h:sP t H lb (tN t d a n f wo cs ws kv la db en) a.mks a.re g lays (tH ld) cs CC)(hd:sS ld db)(l10:ld.length<=10)(hc:H c=aa (.lst (rs.map V.int)))(hs:rs.Pairwise (· < ·))(hr:∀r∈rs,r∈ld.map (·.1))(q:∀H' db',Fr M1 H H' lb lb->sP t H' lb (tN t d a n f wo cs ws kv la db' en) a.mks a.re g lays (tH ld) cs CC->sS ld db'->Q .non H') :
  qZ K t (sJ Q) [aa (.ref a.jb),aa (.ref p),aa (.int aN),aa (.ref c),aa v4,aa (.int k),ao] H:=by
 refine⟨_,Y,_,Y,_,Y,_,_,Y,Y,c,rs,_,Y,hc,hs,λk1 H1 s1 _ _ _=>⟨k1,Y,_,Y,k,Y,c,_,Y,aY.of (s1 _ _ hc),λz hz=>?_⟩⟩;have cm:∀x∈Ze (rs.map V.int) (aa (k1:Int)) (aa (k:Int)),∃y∈rs,V.int y=x:=λx hx=>bD.mp (zgT hx);generalize Ze (rs.map V.int) (aa (k1:Int)) (aa (k:Int))=ys at *
 have h1:=h.same Y s1;generalize c_:upd H1 z _=H2;obtain⟨s2,e2⟩:=xk c_ hz;refine⟨z,Y,⟨_,aY.of e2⟩,yv ys (λi σ H'=>(∃o6,σ=[aa (.ref a.jb),aa (.ref p),aa (.int aN),aa (.ref c),aa v4,aa (.int k),o6])/\H' z=aa (.lst ys)/\Fr M1 H H' lb lb/\∃db',sP t H' lb (tN t d a n f wo cs ws kv la db' en) a.mks a.re g lays (tH ld) cs CC/\sS ld db') ⟨⟨_,Y⟩,e2,Fr.same (s1.trans s2),db,h1.same Y s2,hd⟩ (λi σ H' ⟨_,z,_⟩=>aY.of z) ?_ ?_⟩
 ·rintro i u σ H' hu ⟨⟨o6,rfl⟩,hz',F,db',h',hd'⟩;obtain⟨x,hx,rfl⟩:=cm u (bV hu);have ll:=hd'.len;obtain⟨H4,db4,dp,F4,h4,nd4,mm4,k4⟩:=h'.dbt x ();exact yu (h'.at (i:=2) Y) D.cJ D.j4 Y Y ⟨_,Y,a.db,H4,Y,dp,⟨_,Y⟩,k4 _ _ (zD hz' (h'.at (i:=7) Y) ()) hz',F.trans F4,db4,h4,nd4 hd'.nd,λy hy=>((mm4 y).mp hy).elim (hd'.su y) λe=>by rw[e];exact hr x hx⟩
 ·rintro σ H' ⟨_,_,F,db',h',hd'⟩;exact q H' db' F h' hd'
theorem Jc{p:ac}{q0:Pl}(D:DkF K t)(h:sP t H lb (tN t d a n f wo cs ws kv la db en) a.mks a.re g lays (tH ld) cs CC)(hd:sS ld db)(l10:ld.length<=10)(hp:H p=aa (.tup ((zt q0).map kV)))(q:∀H' db',Fr M1 H H' lb lb->sP t H' lb (tN t d a n f wo cs ws kv la db' en) a.mks a.re g lays (tH ld) cs CC->sS ld db'->Q .non H') :
  YN K t (sJ Q) (L2.start ["self","place","rank","readers","above","behind","reader"] [.ref a.jb,.ref p,.int aN]) H:=by
 obtain⟨kk,r0⟩:=h.rr;have e1:H a.jb=aa (.ins t.q03 a.dj (Ju a.mks a.la a.re a.db)):=h.at (i:=2) rfl;refine(yu e1 D.cJ D.j3 Y Y ⟨a.re,Y,.inr ⟨_,.inl r0.at_⟩,_,Y,(),λl hl=>?_⟩);generalize c_:upd H l _=H2;obtain⟨s2,q2⟩:=xk c_ hl;have h2:=h.same Y s2;obtain⟨dx,gr,wo',rk,wk,kx,M⟩:=tq.ex h2.ms;refine⟨_,.t (s2 _ _ r0.at_) (s2 _ _ hp),?_⟩;have go:∃(c:ac) (rs:List Int),((zS kk (zt q0)).getD (.ref l))=.ref c/\H2 c=aa (.lst (rs.map V.int))/\rs.Pairwise (· < ·)/\∀r∈rs,r∈ld.map (·.1):=by
  rcases r0.get q0 with ⟨c,rs,hk,hv,fa,ha,hs,hne,hi⟩|⟨hv,_,_⟩
  ·refine⟨c,rs,by rw[hv];rfl,s2 _ _ ha,hs,λr hr=>?_⟩;obtain⟨e,he,er,_⟩:=(hi r).mp hr;exact bD.mpr ⟨e,he,er⟩
  ·exact⟨l,[],by rw[hv];rfl,q2,fJ,λ_ z=>nomatch z⟩
 obtain⟨c,rs,ev,ha,hs,hr⟩:=go;rw[ev];refine(yu (s2 _ _ e1) D.cJ D.j1 Y Y ⟨a.mks,_,_,Y,M.im,kO (),_,Y,_,Y,a.mks,p,aN,_,g,lays,q0,Y,h2.ms,s2 _ _ hp,λv H3 s3 hv=>?_⟩);have h3:=h2.same Y s3;have S3:=s2.trans s3;rcases hv with rfl|⟨i,rfl⟩
 ·exact⟨_,Y,Y,_,Y,yJ Y ⟨_,Y,.ref c,rs.length,Y,.inl ⟨_,aY.of (s3 _ _ ha),(bg ..).symm⟩,Jb D h3 hd l10 (s3 _ _ ha) hs hr λH' db' F=>q H' db' ((Fr.same S3).trans F)⟩⟩
 ·refine⟨_,Y,Y,_,Y,yh Y ⟨_,Y,_,Y,_,_,Y,Y,c,rs,_,Y,s3 _ _ ha,hs,λk H4 s4 _ _ _=>?_⟩⟩;exact Jb D (h3.same Y s4) hd l10 (s4 _ _ (s3 _ _ ha)) hs hr λH' db' F=>q H' db' ((Fr.same (S3.trans s4)).trans F)
theorem Zc(D:DkF K t)(h:sP t H lb Bp a.mks a.re g lays P cs CC)(l2:Bp[2]?=aa (a.jb,.ins t.q03 a.dj (Ju a.mks a.la a.re a.db)))(l6:Bp[6]?=aa (a.la,.dK la))(hv:zS la (.inl aN)=aa (.ref r))(h0:0<=aN)(hp:tU H lb r no gi)(q1:∀H',aP H H'->Q .non H')(q2:∀v H' q y,aP H H'->y∈no->zY g lays y.1 aN≠y.2->H' v=aa (.tup [.ref q,.int y.2,.int (zY g lays y.1 aN)])->H' q=aa (.tup [.str y.1.1,.int y.1.2])->Q (.ref v) H') :
  vi K t (sJ Q) (L2.start ["self","rank","place","worth","now"] [.ref a.jb,.int aN]) H:=by
 obtain⟨o,nl,gl,e,⟨xs,hx,px⟩,_,z1,z2⟩:=hp;have e1:=h.at l2;have e2:=h.at l6;obtain⟨dx,fs,im,_,sn,_⟩:=h.ms.ins;have dg:sT H a.la (.int aN) (aa (.ref r)):=by
  have z:=sT.k (k:=.inl aN) e2
  rwa [hv] at z
 refine(yu e1 D.cJ D.j2 Y Y ⟨_,Y,a.la,_,Y,dg,r,_,1,_,Y,Y,sI.of e,Y,nl,Y,⟨_,aY.of hx⟩,yv xs (λ_ σ H'=>(∃o2 o3 o4,σ=[aa (.ref a.jb),aa (.int aN),o2,o3,o4])/\aP H H') ⟨⟨_,_,_,Y⟩,aP.refl _⟩ (λi σ H' ⟨_,s⟩=>aY.of (s _ _ hx)) ?_ ?_⟩)
 ·rintro i u σ H' hu ⟨⟨o2,o3,o4,rfl⟩,s⟩;obtain⟨y,hy,w,p,rfl,ew,ep⟩:=Paired.getP px hu;refine⟨w,_,Y,sI.of (s _ _ ew),Y,_,_,Y,_,_,Y,Y,yu (s _ _ e1) D.cJ D.j1 Y Y ⟨a.mks,_,_,Y,s _ _ im,sn,_,Y,_,Y,a.mks,p,aN,_,g,lays,y.1,Y,h.ms.same s,h0,s _ _ ep,λH2 s2=>?_⟩⟩;refine⟨_,Y,_,Y,Y,_,Y,?_⟩;by_cases c:zY g lays y.1 aN=y.2
  ·exact yh (by rw[Bj (congrArg V.int c)];rfl) ⟨⟨_,_,_,Y⟩,s.trans s2⟩
  ·refine yJ (by rw[Bk (λz=>c (V.int.inj z))];rfl) ⟨_,Y,_,Y,_,Y,by show 3<=Bb;rw[bT];decide,λp' hp'=>?_⟩;have s3:=sN (o:=HO.tup [V.ref p,V.int y.2,V.int (zY g lays y.1 aN)]) p' hp';exact q2 p' _ p y (s.trans (s2.trans s3)) (bV hy) c ze (s3 _ _ (s2 _ _ (s _ _ ep)))
 ·rintro σ H' ⟨_,s⟩;exact q1 H' s
end
section
variable {H':B}{lb lb':ac->Nat}{d b:ac}{a:tP}{g:List aW}{lays:List (Int×List aW)}{P:Pl->Int->Prop}{cs en:List V}{CC:List (List Cs)}{n f aN:Int}{ws db:List Int}{kv la:List (bv×V)}{o o' wo:HO}{i:Nat}{r:ac}{no gi:List aW}{ld:List (Int×sy×List aW)}{s:sy}
theorem kU(D:DkF K t)(h:sP t H lb (tN t d a n f wo cs ws kv la db en) a.mks a.re g lays (tH ld) cs CC)(hl:Pk (XM H lb) la ld)(hd:sS ld db)(l10:ld.length<=10)(h0:∀e∈ld,0<=e.1)(q1:∀H' db',Fr M1 H H' lb lb->sP t H' lb (tN t d a n f wo cs ws kv la db' en) a.mks a.re g lays (tH ld) cs CC->sS ld db'->Q .non H')
  (q2:∀v H' db' q r s gi y,Fr M1 H H' lb lb->sP t H' lb (tN t d a n f wo cs ws kv la db' en) a.mks a.re g lays (tH ld) cs CC->sS ld db'->(r,s,gi)∈ld->y∈s.no->zY g lays y.1 r≠y.2->H' v=aa (.tup [.int r,.ref q,.int y.2,.int (zY g lays y.1 r)])->H' q=aa (.tup [.str y.1.1,.int y.1.2])->Q (.ref v) H') :
  wC K t (sJ Q) (L2.start ["self","ranks","rank","note"] [.ref a.jb]) H:=by
 have ll:=hd.len;refine(yu (h.at (i:=2) Y) D.cJ D.j4 Y Y ⟨a.db,dbL db,db,Y,h.at (i:=7) Y,by unfold dbL;rw[dE];rfl,by unfold dbL;rw[bg];lia,λl srt hl0 hs hp=>?_⟩);have nd:srt.Nodup:=hs.nodup_iff.mpr hd.nd;generalize c_:upd H l _=H2;obtain⟨s2,e2⟩:=xk c_ hl0;refine⟨_,Y,l,Y,⟨_,aY.of e2⟩,yv (srt.map V.int) (λi σ H'=>(∃o2 o3,σ=[aa (.ref a.jb),aa (.ref l),o2,o3])/\H' l=aa (.lst (srt.map V.int))/\Fr M1 H H' lb lb/\∃db',sP t H' lb (tN t d a n f wo cs ws kv la db' en) a.mks a.re g lays (tH ld) cs CC/\sS ld db'/\∀r∈srt.drop i,r∈db') ⟨⟨_,_,Y⟩,e2,Fr.same s2,db,h.same Y s2,hd,λr hr=>hs.mem_iff.mp hr⟩ (λi σ H' ⟨_,z,_⟩=>aY.of z) ?_ ?_⟩
 ·rintro i u σ H' hu ⟨⟨o2,o3,rfl⟩,hl',F,db',h',hd',su⟩;rw[bB] at hu;obtain⟨x,hx,rfl⟩:=b8.mp hu;have li:=(bn.mp hx).1;have ex:srt[i]=x:=(bn.mp hx).2;have ed:srt.drop i=x::srt.drop (i+1):=by rw[mE li,ex]
  have xd:x∈db':=su x (by rw[ed];exact bo);obtain⟨e,he,rfl⟩:=bD.mp (hd'.su x xd);have hlF:=wV hl F (M:=M1) (.inr ());rcases hlF.get (h:=e.1) with ⟨_,z⟩|⟨v,b,hv,hm,r,rfl,hr⟩
  ·exact absurd (bu (f:=λe:Int×sy×List aW=>e.1) he) z
  refine⟨_,Y,a.jb,_,_,Y,h'.at (i:=2) Y,Y,_,Y,d,a,lb,_,la,g,lays,_,cs,CC,e.1,r,b.1.no,b.2,Y,h',Y,Y,hv,h0 e he,hr,λH3 s3=>?_,λv H3 q y s3 hy hn h3 hq=>?_⟩
  ·have h3:=h'.same Y s3;refine⟨_,Y,Y,_,Y,yh Y (yu (h3.at (i:=2) Y) D.cJ D.j4 Y Y ⟨a.db,Y,.inl ⟨_,.inl (h3.at (i:=7) Y)⟩,_,Y,dbL db',.inl e.1,_,h3.at (i:=7) Y,Y,zfF xd,?_⟩)⟩;rw[zcT];have h4:=h3.put (i:=7) (o':=.dK (dbL (db'.filter λy=>decide (y≠e.1)))) Y Y ();have F4:=h3.fput (i:=7) (o':=.dK (dbL (db'.filter λy=>decide (y≠e.1)))) Y ();refine⟨⟨_,_,Y⟩,by rw[zh (zD (s3 _ _ hl') (h3.at (i:=7) Y) ())];exact s3 _ _ hl',F.trans ((Fr.same s3).trans F4),_,h4,⟨hd'.nd.sublist dF,λr hr=>hd'.su r (cC.mp hr).1⟩,λr hr=>cC.mpr ⟨su r (by rw[ed];exact bh _ hr),Bj λz=>?_⟩⟩;have nd':=nd.sublist (pU i srt);rw[ed,ca] at nd';exact nd'.1 (by rw[<-z];exact hr)
  ·have h3':=h'.same Y s3;refine⟨_,Y,Y,_,Y,yJ Y ⟨_,Y,by show 1<=Bb;rw[bT];decide,λp1 hp1=>?_⟩⟩;generalize c_:upd H3 p1 _=H4;obtain⟨s4,e4⟩:=xk c_ hp1;refine⟨_,Y,p1,v,_,_,Y,Y,sI.of e4,sI.of (s4 _ _ h3),(),by show 1+3<=Bb;rw[bT];decide,?_⟩;refine⟨(),λ_ p2 hp2=>?_⟩;have s5:=sN (o:=HO.tup [V.int e.1,V.ref q,V.int y.2,V.int (zY g lays y.1 e.1)]) p2 hp2;exact q2 p2 _ db' q e.1 b.1 b.2 y (F.trans (Fr.same (s3.trans (s4.trans s5)))) (h3'.same Y (s4.trans s5)) hd' hm hy hn ze (s5 _ _ (s4 _ _ hq))
 ·rintro σ H' ⟨_,_,F,db',h',hd',_⟩;exact q1 H' db' F h' hd'
theorem zcU{gs:List aW}{r0:aW}(nd:(gs.map (·.1)).Nodup)(h:gs[i]?=aa r0):r0.1 ∉ (gs.take i).map (·.1):=λz=>by
 obtain⟨j,hj⟩:=cZ z;rw[bB,fq] at hj;split at hj
 ·rename_i hji;have a1:(gs.map (·.1))[j]?=aa r0.1:=by rw[bB];exact hj
  have a2:(gs.map (·.1))[i]?=aa r0.1:=by rw[bB,h];rfl
  have:=(gI (bn.mp a1).1 nd).mp (a1.trans a2.symm);lia
 ·cases hj
theorem zbh{gs:List aW}{r0:aW}{p:Pl}(h:gs[i]?=aa r0):p∈(gs.take (i+1)).map (·.1)↔p∈(gs.take i).map (·.1)\/p=r0.1:=by
 rw[dt,h,bS,bC];have:p∈cY (·.1) (aa r0).toList↔p=r0.1:=by simp
 rw[this]
theorem QH{β:Type}{x y:Int×β}:∀ {l:List (Int×β)},(l.map (·.1)).Nodup->x∈l->y∈l->x.1=y.1->x=y
 |z::l,nd,hx,hy,e=>by
  rw[bx,ca] at nd;rcases bF.mp hx with h1|h1 <;> rcases bF.mp hy with h2|h2
  ·rw[h1,h2]
  ·exact absurd (bD.mpr ⟨y,h2,by rw[<-e,h1]⟩) nd.1
  ·exact absurd (bD.mpr ⟨x,h1,by rw[e,h2]⟩) nd.1
  ·exact QH nd.2 h1 h2 e
def tkI(a:tP)(v:V)(aN:Int)(G:ac->Prop)(P:Pl->Int->Prop)(no:List aW)(H:B)(i:Nat)(σ:St)(H':B):Prop:=(∃o3 o4,σ=[aa (.ref a.jb),aa (.int aN),aa v,o3,o4])/\ss G a.re H H'/\Dm H H'/\∃kk,sG H' a.re G (λp j=>P p j/\¬ (j=aN/\p∈(no.take i).map (·.1))) kk
theorem XX(D:DkF K t)(h:sP t H lb (tN t d a n f wo cs ws kv la db en) a.mks a.re g lays (tH ld) cs CC)(hl:Pk (XM H lb) la ld)(hd:sS ld db)(nl:(ld.map (·.1)).Nodup)(hm:(aN,s,gi)∈ld)(nd:(s.no.map (·.1)).Nodup)(q:∀r H' lb' la' db',Fr M1 H H' lb lb'->sP t H' lb' (tN t d a n f wo cs ws kv la' db' en) a.mks a.re g lays (tH (zV ld aN)) cs CC->Pk (XM H' lb') la' (zV ld aN)->sS (zV ld aN) db'->Q (.ref r) H') :
  kR K t (sJ Q) (L2.start ["self","rank","paper","place","worth"] [.ref a.jb,.int aN]) H:=by
 rcases hl.get (h:=aN) with ⟨_,z⟩|⟨v,b,hv,hb,r,rfl,hr⟩
 ·exact absurd (bu (f:=λe:Int×sy×List aW=>e.1) hm) z
 obtain rfl:b=(s,gi):=by have:=QH nl hb hm rfl;injection this
 refine(yu (h.at (i:=2) Y) D.cJ D.j2 Y Y ⟨a.la,Y,.inl ⟨_,.inl (h.at (i:=6) Y)⟩,_,Y,_,.inl aN,_,h.at (i:=6) Y,Y,hv,?_⟩);have h2:=h.put (i:=6) (o':=.dK (yc la (.inl aN))) Y Y ();have F2:=h.fput (i:=6) (o':=.dK (yc la (.inl aN))) Y ();generalize upd H a.la (.dK (yc la (.inl aN)))=H2 at *
 have h2:sP t H2 lb (tN t d a n f wo cs ws kv (yc la (.inl aN)) db en) a.mks a.re g lays (tH ld) cs CC:=h2;have fin:∀H3 db3,Fr M1 H H3 lb lb->sP t H3 lb (tN t d a n f wo cs ws kv (yc la (.inl aN)) db3 en) a.mks a.re g lays (tH ld) cs CC->sS (zV ld aN) db3->zj (wZ (xc K (aQ (yp K) (U 2) (L (.int 1)))) (KI K 2 (wY (zm 3) (wY (zm 4) KH))) (zT (zG xn [] E0 (Z (zK K (U 0) "readers") (Z (U 3) (Z (U 1) zf)))))) (zA (U 2)) (sJ Q) [aa (.ref a.jb),aa (.int aN),aa (.ref r),ao,ao] H3:=λH3 db3 F3 h3 hd3=>by
  obtain⟨o,nl',gl,er,⟨xs,hx,px⟩,_,z1,z2⟩:=hr.fr F3 (.inr ());have e1:H3 a.jb=aa (.ins t.q03 a.dj (Ju a.mks a.la a.re a.db)):=h3.at (i:=2) rfl;have rl:=h3.rl;obtain⟨kk,r0⟩:=h3.rr;refine⟨_,Y,r,_,1,_,Y,Y,sI.of er,Y,nl',Y,⟨_,aY.of hx⟩,yv xs (tkI a (.ref r) aN (λb=>lb b=11\/H3 b=ao) (tH ld) s.no H3) ⟨⟨_,_,Y⟩,ss.refl,Dm.refl,kk,(r0.keep (F':=λb=>lb b=11\/H3 b=ao) rl (λb o _ e=>e) λ_ z=>.inl z).eqv λp i=>by simp⟩ (λi σ H' ⟨_,k,_⟩=>aY.of (k _ _ hx (λz=>by rw[z,rl] at z1;cases z1) (.inr λz=>z.elim (λy=>by rw[z1] at y;cases y) λy=>by rw[hx] at y;cases y))) ?_ ?_⟩
  ·rintro i u σ H' hu ⟨⟨o3,o4,rfl⟩,k,dm,kk',hr'⟩;obtain⟨y,hy,w,p,rfl,ew,ep⟩:=Paired.getP px hu;have tk:∀b zs,H3 b=aa (.tup zs)->H' b=aa (.tup zs):=λb zs e=>k _ _ e (zD e r0.at_ ()) (.inl λ_ z=>nomatch z);refine⟨w,_,Y,sI.of (tk _ _ ew),Y,_,_,Y,_,_,Y,Y,yu (k _ _ e1 (zD e1 r0.at_ ()) (.inl λ_ z=>nomatch z)) D.cJ D.j3 Y Y ⟨_,Y,_,Y,a.re,p,aN,_,_,kk',y.1,Y,hr',.inl rl,tk _ _ ep,⟨⟨_,hm,Y,bu (bV hy)⟩,λz=>zcU nd hy z.2⟩,λH3 kk3 k3 d3 r3=>⟨⟨_,_,Y⟩,k.trans k3,dm.trans d3,kk3,r3.eqv λp j=>?_⟩⟩⟩;rw[zbh hy];exact⟨λ⟨⟨a,b⟩,c⟩=>⟨a,λd=>d.2.elim (λe=>b ⟨d.1,e⟩) λe=>c ⟨d.1,e⟩⟩,λ⟨a,b⟩=>⟨⟨a,λc=>b ⟨c.1,.inl c.2⟩⟩,λc=>b ⟨c.1,.inr c.2⟩⟩⟩
  ·rintro σ H' ⟨⟨o3,o4,rfl⟩,k,dm,kk',hr'⟩;rw[bN px,eu] at hr';obtain⟨lb',F4,h4⟩:=h3.regrow Y k dm (hr'.eqv (P':=tH (zV ld aN)) λp i=>⟨λ⟨⟨e,he,ei,ep⟩,z⟩=>⟨e,sE.mpr ⟨he,λy=>z ⟨ei.symm.trans y,by rw[QH nl he hm y] at ep;exact ep⟩⟩,ei,ep⟩,λ⟨e,he,ei,ep⟩=>⟨⟨e,(sE.mp he).1,ei,ep⟩,λz=>(sE.mp he).2 (ei.trans z.1)⟩⟩);have F5:=F3.trans F4;exact⟨_,Y,q r H' lb' _ db3 F5 h4 (wV hl F5 (.inr ())).drop hd3⟩
 have mem:∀x,x∈db->x≠aN->x∈(zV ld aN).map (·.1):=λx hx n=>by
  obtain⟨e,he,rfl⟩:=bD.mp (hd.su x hx);exact bu (f:=λe:Int×sy×List aW=>e.1) (sE.mpr ⟨he,n⟩)
 have h7:H2 a.db=aa (.dK (dbL db)):=h2.at (i:=7) rfl;refine(yu (h2.at (i:=2) Y) D.cJ D.j4 Y Y ⟨a.db,Y,.inl ⟨_,.inl h7⟩,_,Y,dbL db,.inl aN,h7,Y,λv _=>?_,λz=>?_⟩)
 ·rw[zcT];have h4:=h2.put (i:=7) (o':=.dK (dbL (db.filter λy=>decide (y≠aN)))) Y Y ();have F4:=h2.fput (i:=7) (o':=.dK (dbL (db.filter λy=>decide (y≠aN)))) Y ();exact fin _ _ (F2.trans F4) h4 ⟨hd.nd.sublist dF,λx hx=>mem x (cC.mp hx).1 (of_decide_eq_true (cC.mp hx).2)⟩
 ·exact fin _ _ F2 h2 ⟨hd.nd,λx hx=>mem x hx λe=>by rw[<-e,zfF hx] at z;cases z⟩
end
section
variable {H':B}{lb lb':ac->Nat}{Bp:List (ac×HO)}{m re d b:ac}{a:tP}{g:List aW}{lays:List (Int×List aW)}{P:Pl->Int->Prop}{cs en:List V}{CC:List (List Cs)}{n f aN:Int}{ws db:List Int}{kv la:List (bv×V)}{o o' wo:HO}{i:Nat}{r:ac}{no gi:List aW}{ld:List (Int×sy×List aW)}{s:sy}
open Classical in
theorem sP.relay{F':ac->Prop}{lays':List (Int×List aW)}(h:sP t H lb Bp m re g lays P cs CC)(ll:Bp.length=9)(k:∀b o,lb b≠10->H b=aa o->H' b=aa o)(ts:tI H H')(M:sV t H' m F' g lays')(f1:∀b,F' b->lb b=10\/H b=ao)(f2:∀b,lb b=10->F' b):∃lb',Fr M1 H H' lb lb'/\sP t H' lb' Bp m re g lays' P cs CC:=by
 have e0:∀b,lb b≠0->¬ lb b=10->¬ F' b:=λb z y w=>(f1 b w).elim y λv=>by obtain⟨o,e⟩:=h.ow b z;rw[v] at e;cases e
 have ex:∀b,lb b≠0->(if F' b then 10 else lb b)=lb b:=λb z=>by
  by_cases y:lb b=10
  ·rw[au (f2 b y),y]
  ·rw[ap (e0 b z y)]
 have e10:(λb=>(if F' b then 10 else lb b)=10)=F':=funext λb=>propext ⟨λz=>by
  by_cases y:F' b
  ·exact y
  ·rw[ap y] at z;exact f2 b z,λz=>au z⟩
 have al:∀b o,H b=aa o->∃o',H' b=aa o':=λb o e=>by
  by_cases y:lb b=10
  ·exact M.own b (f2 b y)
  ·exact⟨o,k b o y e⟩
 have rl:=h.rl;obtain⟨kk,r0⟩:=h.rr;refine⟨λb=>if F' b then 10 else lb b,⟨λb o e=>?_,λb o z e=>k b o (by unfold M1 at z;lia) e,ts,al⟩,λi b o e=>?_,by rw[e10];exact M,⟨kk,r0.keep rl (λb o fb e=>k b o () e) λb z=>(ex b ()).trans z⟩,(ex _ ()).trans rl,Paired.mapP h.cc λv C ⟨⟨c,ys,ev,hc,pc⟩,lc⟩=>⟨⟨c,ys,ev,k c _ (by rw[lc c ev];decide) hc,xO ts pc⟩,λc ev=>(ex c (by rw[lc c ev];decide)).trans (lc c ev)⟩,λb hb=>?_⟩
 ·by_cases y:F' b
  ·rw[au y];exact((f1 b y).resolve_right λz=>by rw[z] at e;cases e).symm
  ·rw[ap y]
 ·obtain⟨h1,h2⟩:=h.ob i b o e;have:=(bn.mp e).1;exact⟨k b o () h1,(ex b ()).trans h2⟩
 ·by_cases y:F' b
  ·exact M.own b y
  ·obtain⟨o,e⟩:=h.ow b (λz=>hb ((ap y).trans z));exact al b o e
theorem zhm(h:Paired (zdz H) ys (sO gs)):∀y∈ys,∃c q,y=.ref c/\H c=aa (.tup ((zt q).map kV)):=λy hy=>by
 obtain⟨i,hi⟩:=cZ hy;obtain⟨kv,hk,c,e,hc⟩:=Paired.getP h hi;obtain⟨qs,eq,_⟩:=za9 gs;have z:=bu (f:=λx:List bv×V=>x.1) (bV hk);rw[eq] at z;obtain⟨q,_,e2⟩:=bD.mp z;exact⟨c,q,e,by rw[e2];exact hc⟩
theorem zfG{ys:List V}{gs:List aW}(h:Paired (zdz H) ys (sO gs))(nd:(gs.map (·.1)).Nodup):ys.length=gs.length:=by rw[bN h,Wx nd,bg]
def ptI(a:tP)(r:ac)(aN:Int)(l:ac)(G:ac->Prop)(P:Pl->Int->Prop)(no:List aW)(H:B)(i:Nat)(σ:St)(H':B):Prop:=(∃o4 o5,σ=[aa (.ref a.jb),aa (.int aN),aa (.ref r),aa (.ref l),o4,o5])/\ss G a.re H H'/\Dm H H'/\∃kk,sG H' a.re G (λp j=>P p j\/j=aN/\p∈(no.take i).map (·.1)) kk
theorem XY(D:DkF K t)(h:sP t H lb (tN t d a n f wo cs ws kv la db en) a.mks a.re g lays (tH ld) cs CC)(hl:Pk (XM H lb) la ld)(hd:sS ld db)(nts:∀e∈ld,zb3 e.2.1.no e.2.2)(l10:ld.length<=10)(nr:aN ∉ ld.map (·.1))(h0:0<=aN)(ll:lays.length<=10)(hp:tU H lb r s.no gi)(nt:zb3 s.no gi)
  (q:∀H' lb' la' db',Fr M1 H H' lb lb'->sP t H' lb' (tN t d a n f wo cs ws kv la' db' en) a.mks a.re g (wQ lays aN gi) (tH (ld++[(aN,s,gi)])) cs CC->Pk (XM H' lb') la' (ld++[(aN,s,gi)])->sS (ld++[(aN,s,gi)]) db'->Q .non H') :
  kT K t (sJ Q) (L2.start ["self","rank","paper","before","place","worth"] [.ref a.jb,.int aN,.ref r]) H:=by
 have e1:H a.jb=aa (.ins t.q03 a.dj (Ju a.mks a.la a.re a.db)):=h.at (i:=2) rfl;obtain⟨dx,gr,wo',rk,wk,kx,M⟩:=tq.ex h.ms;refine(yu e1 D.cJ D.j1 Y Y ⟨a.mks,_,_,Y,M.im,kO (),_,Y,_,_,_,_,_,_,Y,h.ms,λl ys gs H1 s1 hl0 hl1 hy ho=>?_⟩);have ok:W7 gs:=ho.elim (λz=>(h.ms.ok _ z).2) λz=>by rw[z.2];exact⟨cI,bW _⟩
 have y63:ys.length<=63:=by rw[zfG hy ok.nd];exact ok.le
 have h1:=h.same Y s1;obtain⟨o,nl,gl,er,ln,lg,z1,z2⟩:=hp.fr (Fr.same (M:=M1) s1) (.inr ());refine(yu (s1 _ _ e1) D.cJ D.j1 Y Y ⟨a.mks,_,_,Y,s1 _ _ M.im,kO (),_,Y,_,Y,r,_,2,_,Y,Y,sI.of er,Y,_,_,_,_,_,_,_,Y,h1.ms,h0,lg,(λz=>by rw[z2] at z;cases z),⟨nt.ng,bP nt.lg ()⟩,bP ll (),λH2 F2 k2 t2 m2 f2 g2=>?_⟩);obtain⟨lb2,Fr2,h2⟩:=h1.relay Y k2 t2 m2 f2 g2;have F2:=(Fr.same s1).trans Fr2;have e2:H2 a.jb=aa (.ins t.q03 a.dj (Ju a.mks a.la a.re a.db)):=h2.at (i:=2) rfl;have hl2:H2 l=aa (.lst ys):=Fr2.kp _ _ (.inl (h.out hl0)) hl1;have ky1:=zhm hy;clear M wk kx;obtain⟨dx,gr,wo',rk,wk,kx,M⟩:=tq.ex h2.ms;refine⟨_,Y,yu e2 D.cJ D.j1 Y Y ⟨a.mks,_,_,Y,M.im,kO (),_,Y,_,_,_,_,_,_,Y,h2.ms,λl2 ys2 gs2 H3 s3 hl3 hl4 hy2 ho2=>?_⟩⟩;have ok2:W7 gs2:=ho2.elim (λz=>(h2.ms.ok _ z).2) λz=>by rw[z.2];exact⟨cI,bW _⟩
 have y63':ys2.length<=63:=by rw[zfG hy2 ok2.nd];exact ok2.le
 have ky2:=zhm hy2;refine⟨l,l2,ys,ys2,Y,Y,s3 _ _ hl2,hl4,by rw[bT];lia,λp hp4=>?_⟩;generalize c_:upd H3 p _=H4;obtain⟨s4,e4⟩:=xk c_ hp4;have S4:=s3.trans s4;have ky:∀y∈ys++ys2,∃c q,y=.ref c/\H4 c=aa (.tup ((zt q).map kV)):=λy hy=>by
  rcases bC.mp hy with z|z
  ·obtain⟨c,q,e,hc⟩:=ky1 y z;exact⟨c,q,e,S4 _ _ (Fr2.ts _ _ hc)⟩
  ·obtain⟨c,q,e,hc⟩:=ky2 y z;exact⟨c,q,e,s4 _ _ hc⟩
 have lp:lb2 p=0:=h2.out (zC s3 hp4);refine⟨p,Y,⟨_,aY.of e4⟩,yv (ys++ys2) (λ_ σ H'=>(∃o4,σ=[aa (.ref a.jb),aa (.int aN),aa (.ref r),aa (.ref l),o4,ao])/\Fr M1 H4 H' lb2 lb2/\∃db',sP t H' lb2 (tN t d a n f wo cs ws kv la db' en) a.mks a.re g (wQ lays aN gi) (tH ld) cs CC/\sS ld db') ⟨⟨_,Y⟩,Fr.same (aP.refl _),db,h2.same Y S4,hd⟩ (λi σ H' ⟨_,F,_⟩=>aY.of (F.kp _ _ (.inl lp) e4)) ?_ ?_⟩
 ·rintro i u σ H' hu ⟨⟨o4,rfl⟩,F,db',h',hd'⟩;obtain⟨c,q0,rfl,hc⟩:=ky u (bV hu);exact⟨_,Y,a.jb,_,_,Y,h'.at (i:=2) Y,Y,_,Y,_,Y,⟨d,a,lb2,n,f,wo,cs,ws,kv,la,db',en,g,_,ld,CC⟩,c,aN,q0,Y,h',hd',l10,F.ts _ _ hc,λH6 db6 F6 h6 hd6=>⟨⟨_,Y⟩,F.trans F6,db6,h6,hd6⟩⟩
 ·rintro σ H' ⟨⟨o4,rfl⟩,F,db',h5,hd'⟩;have F5:=F2.trans ((Fr.same S4).trans F);clear F s4 e4 S4 hl4 s3 M F2 h2 e2 hl2 e1 h1 ln lg er ho ho2 ky ky1 ky2 hy hy2 Fr2 lp;have lla:la.length=ld.length:=bN hl;refine⟨_,Y,yu (h5.at (i:=2) Y) D.cJ D.j2 Y Y ⟨_,Y,a.la,_,Y,.k (k:=.inl aN) (h5.at (i:=6) Y) (by rw[bT];lia),?_⟩⟩;have h6:=h5.put (i:=6) (o':=.dK (ye la (.inl aN) (.ref r))) Y Y ();have F6:=F5.trans (h5.fput (i:=6) (o':=.dK (ye la (.inl aN) (.ref r))) Y ());generalize upd H' a.la (.dK (ye la (.inl aN) (.ref r)))=H6 at *
  clear h5 F5;have h6:sP t H6 lb2 (tN t d a n f wo cs ws kv (ye la (.inl aN) (.ref r)) db' en) a.mks a.re g (wQ lays aN gi) (tH ld) cs CC:=h6;have ldb:=hd'.len;obtain⟨H7,db7,dp,F7',h7,nd7,mm7,_⟩:=h6.dbt aN ();refine(yu (h6.at (i:=2) Y) D.cJ D.j4 Y Y ⟨_,Y,a.db,H7,Y,dp,?_⟩);have F7:=F6.trans F7';have hd7:sS (ld++[(aN,s,gi)]) db7:=⟨nd7 hd'.nd,λy hy=>by
   rw[bS,bC];exact((mm7 y).mp hy).imp (hd'.su y) λe=>bt.mpr e⟩
  clear h6 F6 F7' dp;obtain⟨o,nl,gl,er,⟨xs,hx,px⟩,lg,z1,z2⟩:=hp.fr F7 (.inr ());have e1:H7 a.jb=aa (.ins t.q03 a.dj (Ju a.mks a.la a.re a.db)):=h7.at (i:=2) rfl;have rl:=h7.rl;obtain⟨kk,r0⟩:=h7.rr;refine⟨_,Y,r,_,1,_,Y,Y,sI.of er,Y,nl,Y,⟨_,aY.of hx⟩,yv xs (ptI a r aN l (λb=>lb2 b=11\/H7 b=ao) (tH ld) s.no H7) ⟨⟨_,_,Y⟩,ss.refl,Dm.refl,kk,(r0.keep (F':=λb=>lb2 b=11\/H7 b=ao) rl (λb o _ e=>e) λ_ z=>.inl z).eqv λp i=>by simp⟩ (λi σ H' ⟨_,k,_⟩=>aY.of (k _ _ hx (λz=>by rw[z,rl] at z1;cases z1) (.inr λz=>z.elim (λy=>by rw[z1] at y;cases y) λy=>by rw[hx] at y;cases y))) ?_ ?_⟩
  ·rintro i u σ H' hu ⟨⟨o3,o4,rfl⟩,k,dm,kk',hr'⟩;obtain⟨y,hy,w,p,rfl,ew,ep⟩:=Paired.getP px hu;have tk:∀b zs,H7 b=aa (.tup zs)->H' b=aa (.tup zs):=λb zs e=>k _ _ e (zD e r0.at_ ()) (.inl λ_ z=>nomatch z);refine⟨w,_,Y,sI.of (tk _ _ ew),Y,_,_,Y,_,_,Y,Y,?_⟩;have np:=zcU nt.nd hy;have sub:∀ {p:Pl},p∈(s.no.take i).map (·.1)->p∈s.no.map (·.1):=λz=>by
    obtain⟨x,hx,rfl⟩:=bD.mp z;exact bu (dJ hx)
   have rk:∀p j,tH ld p j->j∈ld.map (·.1):=λp j ⟨e,he,ei,_⟩=>bD.mpr ⟨e,he,ei⟩;refine(yu (k _ _ e1 (zD e1 r0.at_ ()) (.inl λ_ z=>nomatch z)) D.cJ D.j3 Y Y ⟨_,Y,_,Y,a.re,p,aN,_,_,kk',y.1,Y,hr',.inl rl,λb z=>.inr ?_,tk _ _ ep,λz=>z.elim (λz=>nr (rk _ _ z)) λz=>np z.2,?_,λrs hp ha=>?_,λH3 kk3 k3 d3 r3=>⟨⟨_,_,Y⟩,k.trans k3,dm.trans d3,kk3,r3.eqv λp j=>?_⟩⟩)
   ·cases e:H7 b with
    |none=>rfl
    |some o=>obtain⟨o',e',_⟩:=dm b o e;rw[z] at e';cases e'
   ·refine zfv (l:=ld.map (λe=>(e.1,e.2.1.no))++[(aN,s.no)]) hr' (λp r z=>?_) (λy hy=>?_) (by rw[bE,bg];show _+1<=300;lia)
    ·rcases z with ⟨e,he,ei,ep⟩|z
     ·exact⟨e.2.1.no,cM _ (bD.mpr ⟨e,he,by rw[<-ei]⟩),ep⟩
     ·exact⟨s.no,bR _ (by rw[z.1];exact bt.mpr Y),sub z.2⟩
    ·rcases bC.mp hy with z|z
     ·obtain⟨e,he,rfl⟩:=bD.mp z;exact⟨(nts e he).nd,bP (nts e he).ln ()⟩
     ·cases bt.mp z;exact⟨nt.nd,bP nt.ln ()⟩
   ·have:=xR (b:=ld.map (·.1)) (hp.imp λz=>rB z) λx hx=>(ha x hx).elim (rk _ _) λz=>absurd z.2 np;rw[bg] at this;lia
   ·rw[zbh hy,and_or_left,or_assoc]
  ·rintro σ H' ⟨⟨o3,o4,rfl⟩,k,dm,kk',hr'⟩;rw[bN px,eu] at hr';obtain⟨lb',F8,h8⟩:=h7.regrow Y k dm (hr'.eqv (P':=tH (ld++[(aN,s,gi)])) λp i=>⟨λz=>z.elim (λ⟨e,he,z⟩=>⟨e,cM _ he,z⟩) λz=>⟨_,bR _ (bt.mpr Y),z.1.symm,z.2⟩,λ⟨e,he,z⟩=>(bC.mp he).imp (λhe=>⟨e,he,z⟩) λhe=>by cases bt.mp he;exact⟨z.1.symm,z.2⟩⟩);have F9:=F7.trans F8;exact q H' lb' _ db7 F9 h8 ((wV hl F9 (.inr ())).put nr ⟨r,Y,hp.fr F9 (.inr ())⟩) hd7
end
section
variable {f n:Int}{g:List aW}{CC:List (List Cs)}{S:DS}{r:Int}{k m:Nat}
theorem rks_mem:r∈vU f k m↔∃j:Nat,r=f+j/\k<=j/\j<m:=by
 unfold vU;rw[bD];constructor
 ·rintro⟨i,hi,rfl⟩;rw[List.mem_range] at hi;exact⟨k+i,(),(),()⟩
 ·rintro⟨j,rfl,h1,h2⟩;exact⟨j-k,by rw[List.mem_range];lia,()⟩
theorem zfH:(vU f k m).Nodup:=by
 unfold vU;refine List.Pairwise.map _ (λa b (h:a≠b)=>?_) rG;lia
theorem sA.rk(h:sA n f g CC S)(m:r∈S.ws++(S.hl.map (·.2.1)++S.ld.map (·.1))):∃j:Nat,r=f+j/\S.en<=j/\j<CC.length:=rks_mem.mp (h.pm.mem_iff.mp m)
theorem sA.rw_(h:sA n f g CC S)(m:r∈S.ws):∃j:Nat,r=f+j/\S.en<=j/\j<CC.length:=h.rk (cM _ m)
theorem sA.rh(h:sA n f g CC S){e:Int×Int×Nat×sy}(m:e∈S.hl):∃j:Nat,e.2.1=f+j/\S.en<=j/\j<CC.length:=h.rk (bR _ (cM _ (bu (f:=λe:Int×Int×Nat×sy=>e.2.1) m)))
theorem sA.rl(h:sA n f g CC S)(m:r∈S.ld.map (·.1)):∃j:Nat,r=f+j/\S.en<=j/\j<CC.length:=h.rk (bR _ (bR _ m))
theorem sA.nd(h:sA n f g CC S):S.ws.Nodup/\((S.hl.map (·.2.1)).Nodup/\(S.ld.map (·.1)).Nodup/\∀x∈S.hl.map (·.2.1),∀y∈S.ld.map (·.1),x≠y)/\∀x∈S.ws,∀y∈S.hl.map (·.2.1)++S.ld.map (·.1),x≠y:=by
 have z:=h.pm.nodup_iff.mpr zfH;rw[du,du] at z;exact z
theorem sA.len(h:sA n f g CC S):S.ws.length+(S.hl.length+S.ld.length)+S.en=CC.length:=by
 have z:=h.pm.length_eq;have:=h.el;unfold vU at z;simp only[bE,bg,fN] at z;lia
end
section
variable {H':B}{lb lb':ac->Nat}{Bp:List (ac×HO)}{m re d b dx:ac}{a:tP}{g:List aW}{lays:List (Int×List aW)}{P:Pl->Int->Prop}{cs en:List V}{CC:List (List Cs)}{C:List Cs}{n f h0 aN:Int}{ws db:List Int}{kv la:List (bv×V)}{o o' wo:HO}{i k:Nat}{hl:List (Int×Int×Nat×sy)}{S:DS}{v:V}{s:sy}{M:Nat->Prop}
theorem WA(D:DkF K t)(h:H d=aa (.ins t.q01 dx (XL a n f)))(h2:H a.en=aa (.lst en))(q:Q (.int (f+en.length)) H) :
  qY K t (sJ Q) (L2.start ["self"] [.ref d]) H:=(yu h D.cD D.d3 Y Y (yu h D.cD D.d9 Y Y ⟨.ref a.en,en.length,Y,.inl ⟨_,aY.of h2,Y⟩,_,_,Y,Y,q⟩))
theorem Xd(D:DkF K t)(h:H d=aa (.ins t.q01 dx (XL a n f)))(h2:H a.cl=aa (.lst cs))(q:Q (.int (f+cs.length)) H) :
  jU K t (sJ Q) (L2.start ["self"] [.ref d]) H:=(yu h D.cD D.d3 Y Y (yu h D.cD D.d4 Y Y ⟨.ref a.cl,cs.length,Y,.inl ⟨_,aY.of h2,Y⟩,_,_,Y,Y,q⟩))
theorem Jd{x l:ac}(h:H l=aa (.lst (ws.map V.int)))(h1:ws≠[])(q:∀w∈ws,Q (.int w) H):YM K t (sJ Q) (L2.start ["self","ranks"] [.ref x,.ref l]) H:=by
 cases ws with
 |nil=>exact absurd Y h1
 |cons w ws=>exact⟨_,Y,l,_,0,_,Y,Y,aY.of h,by simp[tL,ixN],q w bo⟩
theorem Xe{x l:ac}(h:H l=aa (.lst (ws.map V.int)))(h1:ws≠[])(q:∀w∈ws,Q (.int w) H):jV K t (sJ Q) (L2.start ["self","ranks"] [.ref x,.ref l]) H:=by
 refine⟨_,Y,1,Y,l,_,-1,.int (ws.getLast h1),Y,Y,aY.of h,?_,q _ (List.getLast_mem h1)⟩;have z:ws.map V.int=ws.dropLast.map V.int++[V.int (ws.getLast h1)]:=by rw[<-List.map_singleton,<-bS,List.dropLast_concat_getLast]
 rw[z];exact L2.atI_last _ _
open Classical in
theorem sP.relab{N:ac->Prop}(n:Nat)(hn:13<=n)(h:sP t H lb Bp m re g lays P cs CC)(s:aP H H')(hN:∀b,N b->H b=ao/\∃o,H' b=aa o):∃lb',Fr M H H' lb lb'/\sP t H' lb' Bp m re g lays P cs CC/\∀b,N b->lb' b=n:=by
 have l0:∀b,N b->lb b=0:=λb z=>h.out (hN b z).1;have ex:∀b,lb b≠0->(if N b then n else lb b)=lb b:=λb z=>ap λy=>z (l0 b y);have e10:(λb=>(if N b then n else lb b)=10)=λb=>lb b=10:=funext λb=>propext (by
  by_cases y:N b
  ·rw[au y,l0 b y];lia
  ·rw[ap y])
 have rl:=h.rl;obtain⟨kk,r0⟩:=h.rr;refine⟨λb=>if N b then n else lb b,⟨λb o e=>ap (λy=>by rw[(hN b y).1] at e;cases e),λb o _ e=>s _ _ e,λb zs e=>s _ _ e,λb o e=>⟨o,s _ _ e⟩⟩,⟨λi b o e=>?_,by rw[e10];exact h.ms.same s,⟨kk,r0.keep rl (λb o _ e=>s _ _ e) λb z=>(ex b ()).trans z⟩,(ex _ ()).trans rl,Paired.mapP h.cc λv C ⟨⟨c,ys,ev,hc,pc⟩,lc⟩=>⟨⟨c,ys,ev,s _ _ hc,xo s pc⟩,λc ev=>(ex c (by rw[lc c ev];decide)).trans (lc c ev)⟩,λb hb=>?_⟩,λb z=>au z⟩
 ·obtain⟨h1,h2⟩:=h.ob i b o e;exact⟨s _ _ h1,(ex b ()).trans h2⟩
 ·by_cases y:N b
  ·exact(hN b y).2
  ·obtain⟨o,e⟩:=h.ow b (λz=>hb ((ap y).trans z));exact⟨o,s _ _ e⟩
theorem sP.addC(h:sP t H lb Bp m re g lays P cs CC)(s:aP H H')(hc:H c=ao)(ha:tW H' (.ref c) C):∃lb',Fr M H H' lb lb'/\sP t H' lb' Bp m re g lays P (cs++[.ref c]) (CC++[C]):=by
 obtain⟨c',ys,ec,hy,py⟩:=id ha;cases ec;obtain⟨lb',F,h',z⟩:=h.relab (N:=λb=>b=c) 13 () s λb e=>by rw[e];exact⟨hc,_,hy⟩
 exact⟨lb',F,h'.ob,h'.ms,h'.rr,h'.rl,Paired.snocP h'.cc ⟨ha,λc' e=>by cases e;exact z c Y⟩,h'.ow⟩
theorem hV.fr(R:hV t H x ra C s)(l:∀b,OwA x ra b->lb b=N)(F:Fr M H H' lb lb')(hM:M N):hV t H' x ra C s/\∀b,OwA x ra b->lb' b=N:=by
 have k:∀ {b o},OwA x ra b->H b=aa o->H' b=aa o:=λ{b o} z e=>F.kp b o (by rw[l b z];exact hM) e;refine⟨⟨k (.inl (.inl Y)) R.ix,let ⟨xs,hx,px⟩:=R.hc;⟨xs,k (.inr Y) hx,xO F.ts px⟩,k (.inl (.inr (.inl Y))) R.hs,k (.inl (.inr (.inr (.inl Y)))) R.hg,k (.inl (.inr (.inr (.inr (.inl Y))))) R.hn,k (.inl (.inr (.inr (.inr (.inr Y))))) R.ha,R.ng,R.nc⟩,λb z=>?_⟩;cases e:H b with
 |none=>exact absurd e (R.has z)
 |some o=>exact(F.ex b o e).trans (l b z)
theorem HdAt.fr{e:Int×Nat×sy}(h:HdAt t H lb f CC h0 v e)(F:Fr M H H' lb lb')(hM:M (20+h0.toNat)):HdAt t H' lb' f CC h0 v e:=by
 obtain⟨tp,x,ra,C,ev,et,ec,R,l⟩:=h;obtain⟨R',l'⟩:=R.fr l F hM;exact⟨tp,x,ra,C,ev,F.ts _ _ et,ec,R',l'⟩
theorem Z0(h:Pk (HdAt t H lb f CC) kv hl)(F:Fr M H H' lb lb')(hM:∀k:Nat,M (20+k)):Pk (HdAt t H' lb' f CC) kv hl:=Paired.mapP h λ_ _ ⟨e,z⟩=>⟨e,z.fr F (hM _)⟩
theorem XZ(k:Nat):M1 (20+k):=.inr ()
theorem tF.of(h:tF t H d a lb n f g CC S)(k:∀b o,lb b≠0->H b=aa o->H' b=aa o)(ts:tI H H')(al:∀b o,H b=aa o->∃o',H' b=aa o'):tF t H' d a lb n f g CC S:=by
 obtain⟨wo,cs,kv,la,db,en,h,hh,hl,z⟩:=h;have F:Fr (λl=>l≠0) H H' lb lb:=⟨λ_ _ _=>rfl,k,ts,al⟩;exact⟨wo,cs,kv,la,db,en,h.keep Y (λb o z _ e=>k b o z e) ts al,Z0 hh F (λk=>by lia),wV hl F (),z⟩
theorem tF.same(h:tF t H d a lb n f g CC S)(s:aP H H'):tF t H' d a lb n f g CC S:=h.of (λb o _ e=>s _ _ e) (tI.of s) λb o e=>⟨o,s _ _ e⟩
theorem tF.put(h:tF t H d a lb n f g CC S)(hl:H l=aa (.lst xs))(z:lb l=0):tF t (upd H l (.lst ys)) d a lb n f g CC S:=h.of (λb o y e=>by rw[zh (λw=>y (by rw[w];exact z))];exact e) (jA hl λ_ z=>nomatch z) Xc
theorem tF.l0(h:tF t H d a lb n f g CC S)(e:H b=ao):lb b=0:=by obtain⟨wo,cs,kv,la,db,en,h,_⟩:=h;exact h.out e
theorem tF.cmp(h:tF t H d a lb n f g CC S):H d=aa (.ins t.q01 a.dx (XL a n f))/\∃cs en,H a.cl=aa (.lst cs)/\H a.en=aa (.lst en)/\cs.length=CC.length/\en.length=S.en:=by
 obtain⟨wo,cs,kv,la,db,en,h,_,_,_,le,_⟩:=h;exact⟨h.at (i:=0) Y,cs,en,h.at (i:=3) Y,h.at (i:=8) Y,bN h.cc,le⟩
theorem QI{vs:List V}{_E:XK}(D:DkF K t)(h:jS t vs H Q _E) :
  WX K t (sJ Q) (L2.start ["self","code","rank"] vs) H:=by
 obtain⟨d,v,a,lb,n,f,g,CC,C,S,rfl,h1,h,h2,h3,q⟩:=h;obtain⟨wo,cs,kv,la,db,en,h,hh,hl,z⟩:=h;have lc:=bN h.cc;have e1:H d=aa (.ins t.q01 a.dx (XL a n f)):=h.at (i:=0) rfl;obtain⟨c0,ys,rfl,hy,py⟩:=h1;refine(Zb e1 Y Y ⟨d,_,a,n,f,cs,Y,e1,h.at (i:=3) Y,?_⟩);rw[lc];refine(yu e1 D.cD D.d4 Y Y ⟨.inl ⟨Y,_,aY.of (h.at (i:=3) Y)⟩,_,Y,c0,ys,Y,.inl (aY.of hy),λc hc=>?_⟩);generalize c_:upd H c _=H2;obtain⟨s2,e2⟩:=xk c_ hc;obtain⟨lb2,F2,h4⟩:=h.addC (M:=M1) (C:=C) s2 hc ⟨c,ys,Y,e2,xo s2 py⟩;have h5:=h4.put (i:=3) (o':=.lst (cs++[.ref c])) Y Y ();have F5:=F2.trans (h4.fput (i:=3) (o':=.lst (cs++[.ref c])) Y ());refine⟨a.cl,cs,_,Y,Y,h4.at (i:=3) Y,bZ (show cs.length<=10 by lia) (by rw[bT];decide),?_⟩;generalize upd H2 a.cl (.lst (cs++[.ref c]))=H5 at *
 have h5:sP t H5 lb2 (tN t d a n f wo (cs++[.ref c]) S.ws kv la db en) a.mks a.re g S.ls (tH S.ld) (cs++[.ref c]) (CC++[C]):=h5;refine(yu (h5.at (i:=0) Y) D.cD D.d5 Y Y ⟨.inl ⟨Y,_,aY.of (h5.at (i:=4) Y)⟩,_,Y,a.wl,_,_,Y,Y,h5.at (i:=4) Y,bZ (by rw[bg];exact h3) (by rw[bT];decide),_,Y,?_⟩);have h6:=h5.put (i:=4) (o':=.lst ((S.ws++[f+CC.length]).map V.int)) Y Y ();have F6:=F5.trans (h5.fput (i:=4) (o':=.lst ((S.ws++[f+CC.length]).map V.int)) Y ());rw[bS] at h6 F6;refine q _ lb2 F6.m0 ⟨wo,_,kv,la,db,en,by rw[tN,zdB,bS];exact h6,Paired.mapP (Z0 hh F6 XZ) λ_ _ ⟨e,tp,x,ra,C,ev,et,ec,z⟩=>⟨e,tp,x,ra,C,ev,et,?_,z⟩,wV hl F6 (.inr ()),z⟩;rw[dq (bn.mp ec).1];exact ec
end
section
variable {H':B}{lb lb':ac->Nat}{d b dx:ac}{a:tP}{g:List aW}{cs en:List V}{CC:List (List Cs)}{C:List Cs}{n f h0 aN w:Int}{ws db:List Int}{kv la:List (bv×V)}{o o' wo:HO}{i k:Nat}{r:ac}{hl:List (Int×Int×Nat×sy)}{S:DS}{v:V}{M:Nat->Prop}
theorem YO(q:ac)(h:H b=aa (.tup (.str (evW e)::.int h0::evX q e)))(p:∀p,evP e=aa p->H q=aa (.tup [.str p.1,.int p.2])):tu H (.ref b) (h0,e):=⟨b,q,Y,h,p⟩
theorem Je(D:DkF K t)(h:tF t H d a lb n f g CC S)(ok:sA n f g CC S)(fr:h0 ∉ S.hl.map (·.1))(hw:w∈S.ws)(q:∀v H' lb',Fr M0 H H' lb lb'->tu H' v (h0,.take w)->tF t H' d a lb' n f g CC { S with ws:=S.ws.erase w,hl:=S.hl++[(h0,w,0,st0)] }->Q v H') :
  jo K t (sJ Q) [aa (.ref d),aa (.int h0),aa (.int w)] H:=by
 obtain⟨wo,cs,kv,la,db,en,h,hh,hl,hd,le,wy⟩:=h;obtain⟨k,rfl,_,hk⟩:=ok.rw_ hw;have l5:=ok.cc.le;have ln:=ok.len;have e1:H d=aa (.ins t.q01 a.dx (XL a n f)):=h.at (i:=0) rfl;refine(yu e1 D.cD D.d5 Y Y ⟨.inl ⟨Y,_,aY.of (h.at (i:=4) Y)⟩,_,Y,a.wl,_,f+k,Y,Y,h.at (i:=4) Y,hw,?_⟩);have h3:=h.put (i:=4) (o':=.lst ((S.ws.erase (f+k)).map V.int)) Y Y ();have F3:=h.fput (i:=4) (o':=.lst ((S.ws.erase (f+k)).map V.int)) Y ();generalize upd H a.wl (.lst ((S.ws.erase (f+k)).map V.int))=H3 at *
 have h3:sP t H3 lb (tN t d a n f wo cs (S.ws.erase (f+k)) kv la db en) a.mks a.re g S.ls (tH S.ld) cs CC:=h3;have e3:H3 d=aa (.ins t.q01 a.dx (XL a n f)):=h3.at (i:=0) rfl;obtain⟨v,hv⟩:∃v,cs[k]?=aa v:=⟨_,bc (by rw[bN h3.cc];exact hk)⟩;obtain⟨C,hC,⟨c,ys,rfl,hc,pc⟩,_⟩:=Paired.getP h3.cc hv;refine⟨_,Y,yu e3 D.cD D.d4 Y Y ⟨_,Y,yu e3 D.cD D.d3 Y Y ⟨_,_,Y,Y,a.cl,cs,k,_,Y,congrArg V.int (),aY.of (h3.at (i:=3) Y),yd hv,?_⟩⟩⟩;intro x dx hx hdx n';have s4:aP H3 (upd (upd H3 dx (HO.own x)) x (HO.ins t.q00 dx [])):=λb o e=>by rw[zh (zo e hx),zh (zo e hdx)];exact e
 refine⟨x,c,dx,ys,C,Y,ze,s4 _ _ hc,xo s4 pc,λH5 ra k5 R5 fr5=>?_⟩;obtain⟨s5,ow⟩:=zfs (aP.refl H3) hx hdx k5 fr5;obtain⟨lb5,F5,h5,l20⟩:=h3.relab (M:=M1) (N:=OwA x ra) (20+h0.toNat) () s5 λb z=>⟨ow b z,by
  cases e:H5 b with
  |none=>exact absurd e (R5.has z)
  |some o=>exact⟨o,Y⟩⟩
 refine⟨Y,by show 2<=Bb;rw[bT];decide,λtp ht=>?_⟩;generalize c_:upd H5 tp _=H6;obtain⟨s6,e6⟩:=xk c_ ht;have h6:=h5.same Y s6;have F6:=(F3.trans F5).trans (Fr.same s6);have R6:=R5.same s6;clear h5 R5 h3 F3 F5 s4 k5 fr5 s5;have lkv:kv.length=S.hl.length:=bN hh;refine(yu (h6.at (i:=0) Y) D.cD D.d6 Y Y ⟨_,Y,a.hd,_,Y,.k (k:=.inl h0) (h6.at (i:=5) Y) (by rw[bT];lia),?_⟩);have h7:=h6.put (i:=5) (o':=.dK (ye kv (.inl h0) (.ref tp))) Y Y ();have F7':=h6.fput (i:=5) (o':=.dK (ye kv (.inl h0) (.ref tp))) Y ();generalize upd H6 a.hd (.dK (ye kv (.inl h0) (.ref tp)))=H7 at *
 have h7:sP t H7 lb5 (tN t d a n f wo cs (S.ws.erase (f+k)) (ye kv (.inl h0) (.ref tp)) la db en) a.mks a.re g S.ls (tH S.ld) cs CC:=h7;have F7:=F6.trans F7';obtain⟨R7,l7⟩:=R6.fr l20 F7' (XZ _);refine⟨_,Y,_,Y,by show 3<=Bb;rw[bT];decide,λp hp=>?_⟩;have s8:=sN (o:=HO.tup [V.str "take",V.int h0,V.int (f+k)]) p hp;have F8:=F7.trans (Fr.same s8);exact q (.ref p) _ lb5 F8.m0 (YO p ze λ_ z=>nomatch z) ⟨wo,cs,_,la,db,en,h7.same Y s8,(Z0 hh F8 XZ).put fr ⟨tp,x,ra,C,Y,s8 _ _ (F7'.ts _ _ e6),by rw[show (f+(k:Int)-f).toNat=k by lia];exact hC,R7.same s8,l7⟩,wV hl F8 (.inr ()),hd,le,wy⟩
theorem X0{vs:List V}{_E:XK}(D:DkF K t)(h:wS t vs H Q _E) :
  kS K t (sJ Q) (L2.start ["self","hand","rank"] vs) H:=by
 obtain⟨d,a,lb,n,f,h0,g,CC,S,rfl,h,ok,fr,wn,q⟩:=h;have G:=h;obtain⟨wo,cs,kv,la,db,en,h,hh,hl,hd,le,wy⟩:=h;have e1:H d=aa (.ins t.q01 a.dx (XL a n f)):=h.at (i:=0) rfl;have ew:H a.wy=aa wo:=h.at (i:=1) rfl;rcases wy with rfl|rfl
 ·refine yu e1 D.cD D.d2 Y Y ⟨a.wy,_,_,_,_,Y,ew,Y,.tail _ (.head _),yu e1 D.cD D.d5 Y Y ⟨a.wl,_,Y,.inl (aY.of (h.at (i:=4) Y)),λl hl0=>⟨a.wy,l,_,Y,ze,wn,λw hw=>?_⟩⟩⟩;have s2:=sN (o:=HO.lst (S.ws.map V.int)) l hl0;exact Je D (G.same s2) ok fr hw λv H' lb' F=>q v H' lb' w ((Fr.same s2).trans F) hw
 ·refine yu e1 D.cD D.d2 Y Y ⟨a.wy,_,_,_,_,Y,ew,Y,.head _,yu e1 D.cD D.d5 Y Y ⟨a.wl,_,Y,.inl (aY.of (h.at (i:=4) Y)),λl hl0=>⟨a.wy,l,_,Y,ze,wn,λw hw=>?_⟩⟩⟩;have s2:=sN (o:=HO.lst (S.ws.map V.int)) l hl0;exact Je D (G.same s2) ok fr hw λv H' lb' F=>q v H' lb' w ((Fr.same s2).trans F) hw
end
section
variable {H':B}{lb lb':ac->Nat}{m d b u:ac}{a:tP}{g:List aW}{cs en:List V}{CC:List (List Cs)}{n f h0 w:Int}{ws db:List Int}{kv la:List (bv×V)}{o o' wo:HO}{i k:Nat}{r:Int}{gi:List aW}{hl:List (Int×Int×Nat×sy)}{S:DS}{v:V}{s:sy}{y:aW}{qa:ac}{R:St->B->Prop}
theorem zcV(D:DkF K t)(h:tF t H d a lb n f g CC S)(ok:sA n f g CC S)(fr:h0 ∉ S.hl.map (·.1))(hm:(f+(S.en:Int),s,gi)∈S.ld)(q:mvP t H d a lb n f h0 g CC S Q) :
  vm K t { nx:=λσ H'=>R σ H',rt:=Q } [aa (.ref d),aa (.int h0),aa (.int (f+S.en)),aa v] H:=by
 obtain⟨wo,cs,kv,la,db,en,h,hh,hl,hd,le,wy⟩:=h;have e1:H d=aa (.ins t.q01 a.dx (XL a n f)):=h.at (i:=0) rfl;have l5:=ok.cc.le;have ln:=ok.len;refine(yu e1 D.cD D.d9 Y Y ⟨.inl ⟨Y,_,aY.of (h.at (i:=8) Y)⟩,yu e1 D.cD D.d8 Y Y ⟨a.jb,_,_,Y,h.at (i:=2) Y,Y,_,Y,⟨d,a,lb,n,f,wo,cs,S.ws,kv,la,db,en,g,S.ls,S.ld,CC⟩,f+S.en,s,gi,Y,h,hl,hd,ok.nd.2.1.2.1,hm,(ok.nt _ hm).nd,λr H3 lb3 la3 db3 F3 h3 hl3 hd3=>?_⟩⟩);refine⟨a.en,en,_,Y,Y,h3.at (i:=8) Y,bZ (show en.length<=5 by lia) (by rw[bT];decide),?_⟩;have h4:=h3.put (i:=8) (o':=.lst (en++[.ref r])) Y Y ();have F4':=h3.fput (i:=8) (o':=.lst (en++[.ref r])) Y ();generalize upd H3 a.en (.lst (en++[.ref r]))=H4 at *
 have h4:sP t H4 lb3 (tN t d a n f wo cs S.ws kv la3 db3 (en++[.ref r])) a.mks a.re g S.ls (tH (zV S.ld (f+S.en))) cs CC:=h4;refine⟨_,Y,_,Y,by show 3<=Bb;rw[bT];decide,λp hp=>?_⟩;have s5:=sN (o:=HO.tup [V.str "settle",V.int h0,V.int (f+S.en)]) p hp;have F5':=F4'.trans (Fr.same s5);have F5:=F3.trans F5';exact q _ _ lb3 _ _ F5.m0 (YO (e:=.settle (f+S.en)) p ze λ_ z=>nomatch z) (.settle hm fr) ⟨wo,cs,kv,la3,db3,en++[.ref r],h4.same Y s5,Z0 hh F5 XZ,wV hl3 F5' (.inr ()),hd3,by rw[bE,le];rfl,wy⟩
theorem zif(k:Nat):(ws.take k++r::ws.drop k).Perm (r::ws):=by
 refine List.perm_middle.trans ?_;rw[fm]
theorem zig(so:ws.Pairwise (· < ·))(nr:r ∉ ws)(h1:∀x∈ws.take k,x<r)(h2:∀x∈ws.drop k,r<=x):(ws.take k++r::ws.drop k).Pairwise (· < ·):=by
 have z:=so;rw[<-fm k ws,gL] at z;refine gL.mpr ⟨z.1,List.pairwise_cons.mpr ⟨λx hx=>?_,z.2.1⟩,λx hx y hy=>?_⟩
 ·have:=h2 x hx;have:r≠x:=λe=>nr (by rw[e];exact dv hx);lia
 ·rcases bF.mp hy with rfl|hy
  ·exact h1 x hx
  ·exact z.2.2 x hx y hy
theorem zcW(D:DkF K t)(h:tF t H d a lb n f g CC S)(ok:sA n f g CC S)(fr:h0 ∉ S.hl.map (·.1))(hm:(r,s,gi)∈S.ld)(hy:y∈s.no)(hn:zY g S.ls y.1 r≠y.2)(hu:H u=aa (.tup [.int r,.ref qa,.int y.2,.int (zY g S.ls y.1 r)]))(hq:H qa=aa (.tup [.str y.1.1,.int y.1.2]))(q:mvP t H d a lb n f h0 g CC S Q){o2:Option V} :
  vj K t { nx:=λσ H'=>R σ H',rt:=Q } [aa (.ref d),aa (.int h0),o2,aa (.ref u)] H:=by
 obtain⟨wo,cs,kv,la,db,en,h,hh,hl,hd,le,wy⟩:=h;have l5:=ok.cc.le;have ln:=ok.len;have nr:r ∉ S.ws:=λz=>ok.nd.2.2 r z r (bR _ (bu (f:=λe:Int×sy×List aW=>e.1) hm)) rfl;refine(yu (h.at (i:=0) Y) D.cD D.d8 Y Y ⟨a.jb,_,_,Y,h.at (i:=2) Y,Y,_,Y,u,_,0,_,Y,Y,sI.of hu,Y,⟨d,a,lb,n,f,wo,cs,S.ws,kv,la,db,en,g,S.ls,S.ld,CC⟩,r,s,gi,Y,h,hl,hd,ok.nd.2.1.2.1,hm,(ok.nt _ hm).nd,λr' H3 lb3 la3 db3 F3 h3 hl3 hd3=>?_⟩);have h3:sP t H3 lb3 (tN t d a n f wo cs S.ws kv la3 db3 en) a.mks a.re g S.ls (tH (zV S.ld r)) cs CC:=h3;have e3:H3 d=aa (.ins t.q01 a.dx (XL a n f)):=h3.at (i:=0) rfl;have hu3:=F3.ts _ _ hu;refine(yu e3 D.cD D.d5 Y Y ⟨.inl ⟨Y,_,aY.of (h3.at (i:=4) Y)⟩,yu e3 D.cD D.d5 Y Y ⟨_,Y,u,_,0,_,Y,Y,sI.of hu3,Y,a.wl,S.ws,r,Y,h3.at (i:=4) Y,ok.so,λk H4 s4 hk k1 k2=>?_⟩⟩);have h4:=h3.same Y s4;have hu4:=s4 _ _ hu3;refine⟨_,Y,u,_,0,_,Y,Y,sI.of hu4,Y,a.wl,_,k,_,Y,Y,h4.at (i:=4) Y,by rw[bg];exact hk,by rw[bg];lia,?_⟩;have em:(S.ws.map V.int).take k++V.int r::(S.ws.map V.int).drop k=(S.ws.take k++r::S.ws.drop k).map V.int:=by rw[bS,bx,nF,nE]
 rw[em];have h5:=h4.put (i:=4) (o':=.lst ((S.ws.take k++r::S.ws.drop k).map V.int)) Y Y ();have F5':=(Fr.same s4).trans (h4.fput (i:=4) (o':=.lst ((S.ws.take k++r::S.ws.drop k).map V.int)) Y ());generalize upd H4 a.wl (.lst ((S.ws.take k++r::S.ws.drop k).map V.int))=H5 at *
 have h5:sP t H5 lb3 (tN t d a n f wo cs (S.ws.take k++r::S.ws.drop k) kv la3 db3 en) a.mks a.re g S.ls (tH (zV S.ld r)) cs CC:=h5;refine⟨_,Y,by show 2<=Bb;rw[bT];decide,λp1 hp1=>?_⟩;generalize c_:upd H5 p1 _=H6;obtain⟨s6,e6⟩:=xk c_ hp1;refine⟨_,Y,p1,u,_,_,Y,Y,sI.of e6,sI.of (s6 _ _ (F5'.ts _ _ hu3)),(),by show 2+4<=Bb;rw[bT];decide,(),λ_ p hp=>?_⟩;have s7:=sN (o:=HO.tup [V.str "again",V.int h0,V.int r,V.ref qa,V.int y.2,V.int (zY g S.ls y.1 r)]) p hp;have F7':=F5'.trans (Fr.same (s6.trans s7));have F7:=F3.trans F7';exact q _ _ lb3 _ _ F7.m0 (YO (e:=.again r y.1 y.2 _) qa ze λp e=>by cases e;exact F7.ts _ _ hq) (.again hm hy hn (zif k) (zig ok.so nr k1 k2) fr) ⟨wo,cs,kv,la3,db3,en,h5.same Y (s6.trans s7),Z0 hh F7 XZ,wV hl3 F7' (.inr ()),hd3,le,wy⟩
theorem zgU(D:DkF K t)(h:tF t H d a lb n f g CC S)(ok:sA n f g CC S)(fr:h0 ∉ S.hl.map (·.1))(hm:f+(S.en:Int) ∉ S.ld.map (·.1))(q:mvP t H d a lb n f h0 g CC S Q){o2 o3:Option V} :
  vn K t (sJ Q) [aa (.ref d),aa (.int h0),o2,o3] H:=by
 have G:=h;obtain⟨wo,cs,kv,la,db,en,h,_⟩:=h;refine(yu (h.at (i:=0) Y) D.cD D.d5 Y Y ⟨by show 0<=Bb;exact bW _,λz hz=>?_⟩);have s3:=sN (o:=HO.lst []) z hz;have h3:=h.same Y s3;have G3:=G.same s3;refine⟨a.wl,z,_,Y,Y,aY.of (h3.at (i:=4) Y),aY.of ze,_,Y,?_⟩;generalize upd H z (.lst [])=H3 at *
 cases ew:S.ws with
 |nil =>
  refine yh Y ⟨_,Y,by show 2<=Bb;rw[bT];decide,λp hp=>?_⟩;have s4:=sN (o:=HO.tup [V.str "rest",V.int h0]) p hp;exact q _ _ lb _ _ (Fr.same (s3.trans s4)) (YO (e:=.rest) p ze λ_ z=>nomatch z) (.rest ew hm fr) (G3.same s4)
 |cons x xs=>exact yJ Y (Zb (h3.at (i:=0) Y) Y Y ⟨_,Y,d,a,lb,n,f,h0,g,CC,S,Y,G3,ok,fr,(by rw[ew];exact λz=>nomatch z),λv H4 lb4 r F4 hr ev G4=>q v H4 lb4 _ _ ((Fr.same s3).trans F4) ev (.take hr fr) G4⟩)
theorem Yo{vs:List V}{_E:XK}(D:DkF K t)(h:xI t vs H Q _E) :
  jp K t (sJ Q) (L2.start ["self","hand","lowest","changed"] vs) H:=by
 obtain⟨d,a,lb,n,f,h0,g,CC,S,rfl,h,ok,fr,q⟩:=h;obtain⟨wo,cs,kv,la,db,en,h,hh,hl,hd,le,wy⟩:=h;have l5:=ok.cc.le;have ln:=ok.len;have e1:H d=aa (.ins t.q01 a.dx (XL a n f)):=h.at (i:=0) rfl;have nn:∀e∈S.ld,0<=e.1:=λe he=>by
  obtain⟨j,z,_⟩:=ok.rl (bu (f:=λe:Int×sy×List aW=>e.1) he);have:=ok.f0;lia
 refine(Zb e1 Y Y ⟨d,_,a,n,f,en,Y,e1,h.at (i:=8) Y,?_⟩);rw[le];have gt:∀ {H2 db2},Fr M1 H H2 lb lb->sP t H2 lb (tN t d a n f wo cs S.ws kv la db2 en) a.mks a.re g S.ls (tH S.ld) cs CC->sS S.ld db2->tF t H2 d a lb n f g CC S/\mvP t H2 d a lb n f h0 g CC S Q:=λF2 h2 hd2=>⟨⟨wo,cs,kv,la,_,en,h2,Z0 hh F2 XZ,wV hl F2 (.inr ()),hd2,le,wy⟩,λv H' lb' e S' F=>q v H' lb' e S' (F2.m0.trans F)⟩;have dg:∀ {H2 db2},sP t H2 lb (tN t d a n f wo cs S.ws kv la db2 en) a.mks a.re g S.ls (tH S.ld) cs CC->sT H2 a.la (.int (f+S.en)) (zS la (.inl (f+S.en))):=λh2=>.k (k:=.inl (f+(S.en:Int))) (h2.at (i:=6) Y);refine(yu e1 D.cD D.d8 Y Y ⟨a.jb,_,_,Y,h.at (i:=2) Y,Y,⟨d,a,lb,n,f,wo,cs,S.ws,kv,la,db,en,g,S.ls,S.ld,CC⟩,Y,h,hl,hd,show S.ld.length<=10 by lia,nn,λH2 db2 F2 h2 hd2=>?_,λv H2 db2 qa r s gi y F2 h2 hd2 hm hy hn hv hq=>?_⟩)
 ·obtain⟨G2,q2⟩:=gt F2 h2 hd2;refine⟨_,Y,yu (h2.at (i:=0) Y) D.cD D.d8 Y Y ⟨a.jb,_,_,_,_,Y,h2.at (i:=2) Y,D.cJ,D.j2,Y,a.la,_,Y,dg h2,_,Y,?_⟩⟩;rcases hl.get (h:=f+(S.en:Int)) with ⟨z,nm⟩|⟨v,b,z,m,_⟩
  ·rw[z];exact yh Y (yh Y ⟨_,Y,Y,_,Y,yh Y (zgU D G2 ok fr nm q2)⟩)
  ·rw[z];exact yJ Y ⟨_,Y,Y,_,Y,yJ Y (yJ Y (zcV D G2 ok fr m q2))⟩
 ·obtain⟨G2,q2⟩:=gt F2 h2 hd2;refine⟨_,Y,yu (h2.at (i:=0) Y) D.cD D.d8 Y Y ⟨a.jb,_,_,_,_,Y,h2.at (i:=2) Y,D.cJ,D.j2,Y,a.la,_,Y,dg h2,_,Y,?_⟩⟩;rcases hl.get (h:=f+(S.en:Int)) with ⟨z,nm⟩|⟨w,b,z,m,_⟩
  ·rw[z];exact yh Y (yh Y ⟨_,Y,Y,_,Y,yJ Y (zcW D G2 ok fr hm hy hn hv hq q2)⟩)
  ·rw[z];refine yJ Y ⟨_,Y,Y,_,Y,yh Y ⟨_,Y,v,_,0,_,Y,Y,sI.of hv,Y,_,Y,Y,_,Y,?_⟩⟩;by_cases c:r=f+S.en
   ·refine yh (by rw[Bj (congrArg V.int c)];rfl) ?_;exact⟨_,Y,Y,_,Y,yJ Y (zcW D G2 ok fr hm hy hn hv hq q2)⟩
   ·exact yJ (by rw[Bk (λe=>c (V.int.inj e))];rfl) (zcV D G2 ok fr m q2)
end
section
variable {H':B}{lb lb':ac->Nat}{Bp:List (ac×HO)}{m re d b tp x:ac}{a:tP}{ra:RAd}{g:List aW}{lays:List (Int×List aW)}{P:Pl->Int->Prop}{cs en:List V}{CC:List (List Cs)}{C:List Cs}{n f h0 r:Int}{db:List Int}{kv la:List (bv×V)}{wo:HO}{i j k:Nat}{gi:List aW}{hl:List (Int×Int×Nat×sy)}{S:DS}{v:V}{s s':sy}{M:Nat->Prop}{R:St->B->Prop}
theorem Kp.ts(R:hV t H x ra C s)(k:Kp x ra H H'):tI H H':=λb zs e=>k b _ (λy=>by
 rcases y with y|y|y|y|y
 ·rw[y,R.ix] at e;cases e
 ·rw[y,R.hs] at e;cases e
 ·rw[y,R.hg] at e;cases e
 ·rw[y,R.hn] at e;cases e
 ·rw[y,R.ha] at e;cases e) e
theorem zcX(R:hV t H x ra C s)(R':hV t H' x ra C s')(l:∀b,OwA x ra b->lb b=N)(k:Kp x ra H H'):Fr (λl=>l≠N) H H' lb lb:=⟨λ_ _ _=>rfl,λb o z e=>k b o (λy=>z (l b (.inl y))) e,Kp.ts R k,λb o e=>by
 by_cases y:OwA x ra b
 ·cases e:H' b with
  |none=>exact absurd e (R'.has y)
  |some o=>exact⟨o,Y⟩
 ·exact⟨o,k b o (λz=>y (.inl z)) e⟩⟩
theorem sP.step(hN:20<=N)(h:sP t H lb Bp m re g lays P cs CC)(ll:Bp.length=9)(R:hV t H x ra C s)(R':hV t H' x ra C s')(l:∀b,OwA x ra b->lb b=N)(k:Kp x ra H H'):Fr (λl=>l≠N) H H' lb lb/\sP t H' lb Bp m re g lays P cs CC:=
 have F:=zcX R R' l k
 ⟨F,h.keep ll (λb o _ z e=>F.kp b o (show lb b≠N by lia) e) F.ts F.al⟩
structure MvI(t:mt)(H:B)(d:ac)(a:tP)(lb:ac->Nat)(n f h0:Int)(g:List aW)(CC:List (List Cs))(S:DS)(wo:HO)(cs:List V)(kv la:List (bv×V))(db:List Int)(en:List V)(r:Int)(j:Nat)(s:sy)(tp x:ac)(ra:RAd)(C:List Cs):Prop where
 o:sP t H lb (tN t d a n f wo cs S.ws kv la db en) a.mks a.re g S.ls (tH S.ld) cs CC
 hh:Pk (HdAt t H lb f CC) kv S.hl
 hl:Pk (XM H lb) la S.ld
 hd:sS S.ld db
 le:en.length=S.en
 wy:zhV t a wo
 hm:(h0,r,j,s)∈S.hl
 hv:zS kv (.inl h0)=aa (.ref tp)
 ht:H tp=aa (.tup [.int r,.ref x])
 ec:CC[(r-f).toNat]?=aa C
 rn:hV t H x ra C s
 l20:∀b,OwA x ra b->lb b=20+h0.toNat
theorem MvI.same(h:MvI t H d a lb n f h0 g CC S wo cs kv la db en r j s tp x ra C)(k:aP H H'):MvI t H' d a lb n f h0 g CC S wo cs kv la db en r j s tp x ra C :=
 ⟨h.o.same Y k,Z0 h.hh (Fr.same (M:=M1) k) XZ,wV h.hl (Fr.same (M:=M1) k) (.inr ()),h.hd,h.le,h.wy,h.hm,h.hv,k _ _ h.ht,h.ec,h.rn.same k,h.l20⟩
theorem MvI.step(h:MvI t H d a lb n f h0 g CC S wo cs kv la db en r j s tp x ra C)(ok:sA n f g CC S)(R':hV t H' x ra C s')(k:Kp x ra H H'):Fr M0 H H' lb lb/\tF t H' d a lb n f g CC { S with hl:=Yk S.hl h0 (r,j+1,s') }:=by
 obtain⟨F,h'⟩:=h.o.step (N:=20+h0.toNat) () Y h.rn R' h.l20 k;have h0p:=(ok.hr _ h.hm).1;have h0p:0<=h0:=h0p;refine⟨F.mono λl z=>by unfold M0 at z;lia,wo,cs,kv,la,db,en,h',h.hh.set ok.hn (λk v b' m z y=>y.fr F ?_) (λv z=>?_),wV h.hl F (),h.hd,h.le,h.wy⟩
 ·have:=(ok.hr _ m).1;have:0<=k:=this;lia
 ·rw[h.hv] at z;cases z;exact⟨tp,x,ra,C,Y,F.ts _ _ h.ht,h.ec,R',h.l20⟩
theorem zdJ(D:DkF K t)(h:MvI t H d a lb n f h0 g CC S wo cs kv la db en r j s tp x ra C)(ok:sA n f g CC S)(ho:yf C s=ah)(q:mvP t H d a lb n f h0 g CC S Q) :
  ZQ K t { nx:=λσ H'=>R σ H',rt:=Q } [aa (.ref d),aa (.int h0),aa (.int r),aa (.ref x),o4,o5] H:=by
 have eh:=h.o.at (i:=5) rfl;have l5:=ok.cc.le;have ln:=ok.len;obtain⟨C',ec',I,j11⟩:=ok.rn _ h.hm;obtain rfl:C'=C:=bL (ec'.symm.trans h.ec);obtain⟨k,rk,_,kl⟩:=ok.rh h.hm;have rk:r=f+k:=rk;have f0:=ok.f0;refine(yu (h.o.at (i:=0) Y) D.cD D.d6 Y Y ⟨a.hd,Y,.inl ⟨_,.inl eh⟩,_,Y,_,.inl h0,_,eh,Y,h.hv,?_⟩);have h3:=h.o.put (i:=5) (o':=.dK (yc kv (.inl h0))) Y Y ();have F3:=h.o.fput (i:=5) (o':=.dK (yc kv (.inl h0))) Y ();generalize upd H a.hd (.dK (yc kv (.inl h0)))=H3 at *
 have h3:sP t H3 lb (tN t d a n f wo cs S.ws (yc kv (.inl h0)) la db en) a.mks a.re g S.ls (tH S.ld) cs CC:=h3;obtain⟨R3,_⟩:=h.rn.fr h.l20 F3 (XZ _);have l2:s.gi.length<=j:=I.ok.l2;have l3:s.no.length<=j:=I.ok.l3;have j11:j<=11:=j11;refine(yu (h3.at (i:=0) Y) D.cD D.d8 Y Y ⟨a.jb,_,_,Y,h3.at (i:=2) Y,Y,_,Y,Zb R3.ix Y Y ⟨x,ra,C',s,Y,R3,(),I.ok.nd,(),(λH' z=>by rw[ho] at z;cases z),λr' o nl gl out H4 _ s4 hnl hgl _ hr oc hn hg gi=>?_⟩⟩);obtain⟨lb4,F4,h4,l14⟩:=h3.relab (M:=M1) (N:=λb=>b=nl\/b=gl) 14 () s4 λb z=>by
  obtain⟨xs,hx,_⟩:=id hn;obtain⟨ys,hy,_⟩:=id hg;rcases z with rfl|rfl
  ·exact⟨hnl,_,hx⟩
  ·exact⟨hgl,_,hy⟩
 have hP:tU H4 lb4 r' s.no out:=⟨o,nl,gl,hr,hn,hg,l14 _ (.inl Y),l14 _ (.inr Y)⟩;have lo:out.length<=s.gi.length:=zfr gi;have nt:zb3 s.no out:=⟨I.ok.nd,zfE gi,(),()⟩;have ll:S.ls.length<=5:=by
  have:=xR (b:=vU f 0 CC.length) h.o.ms.nd λx hx=>by
   obtain⟨y,hy,rfl⟩:=bD.mp hx;have:=ok.ly y hy;exact rks_mem.mpr ⟨(y.1-f).toNat,(),(),()⟩
  unfold vU at this;rw[bg,bg,fN] at this;lia
 have nr:r ∉ S.ld.map (·.1):=λz=>ok.nd.2.1.2.2 r (bu (f:=λe:Int×Int×Nat×sy=>e.2.1) h.hm) r z rfl;have F34:=F3.trans F4;refine⟨⟨d,a,lb4,n,f,wo,cs,S.ws,_,la,db,en,g,S.ls,S.ld,CC⟩,r',r,s,out,Y,h4,wV h.hl F34 (.inr ()),h.hd,ok.nt,show S.ld.length<=10 by lia,nr,show 0<=r by lia,show S.ls.length<=10 by lia,hP,nt,λH5 lb5 la5 db5 F5 h5 hl5 hd5=>?_⟩;refine⟨_,Y,_,Y,by show 3<=Bb;rw[bT];decide,λp hp=>?_⟩;have s6:=sN (o:=HO.tup [V.str "lay",V.int h0,V.int r]) p hp;have F6:=F34.trans (F5.trans (Fr.same s6));exact q _ _ lb5 _ _ F6.m0 (YO (e:=.lay r) p ze λ_ z=>nomatch z) (.lay h.hm h.ec ho gi) ⟨wo,cs,_,la5,db5,en,h5.same Y s6,(Z0 h.hh F6 XZ).drop,wV hl5 (Fr.same (M:=M1) s6) (.inr ()),hd5,h.le,h.wy⟩
theorem zdK(D:DkF K t)(h:MvI t H d a lb n f h0 g CC S wo cs kv la db en r j s tp x ra C)(ok:sA n f g CC S)(ho:yf C s=aq)(q:mvP t H d a lb n f h0 g CC S Q) :
  ZR K t (sJ Q) [aa (.ref d),aa (.int h0),aa (.int r),aa (.ref x),ao,ao] H:=by
 obtain⟨C',ec',I,j11⟩:=ok.rn _ h.hm;obtain rfl:C'=C:=bL (ec'.symm.trans h.ec);obtain⟨O,lC⟩:=ok.cc.ok C' (bV h.ec);obtain⟨k,rk,_,kl⟩:=ok.rh h.hm;have rk:r=f+k:=rk;have f0:=ok.f0;have j11:j<=11:=j11;refine(Zb h.rn.ix Y Y ⟨x,ra,C',s,Y,h.rn,O.ok,I.ok.so,λH3 ha s3=>?_,λp q1 H3 ha s3 hq=>?_⟩)
 ·have h3:=h.same s3;refine⟨_,Y,Y,_,Y,yJ Y (Zb h3.rn.ix Y Y ⟨x,0,j,ra,C',s,Y,h3.rn,O.ok,I.ok,(),λH4 k4 R4=>?_⟩)⟩;obtain⟨F4,G4⟩:=h3.step ok R4 k4;refine⟨_,Y,_,Y,by show 3<=Bb;rw[bT];decide,λp hp=>?_⟩;have s6:=sN (o:=HO.tup [V.str "step",V.int h0,V.int r]) p hp;exact q _ _ lb _ _ ((Fr.same s3).trans (F4.trans (Fr.same s6))) (YO (e:=.step r) p ze λ_ z=>nomatch z) (.step h.hm h.ec ho ha) (G4.same s6)
 ·have h3:=h.same s3;obtain⟨_,_,im,_,sn,_⟩:=h3.o.ms.ins;refine⟨_,Y,Y,_,Y,yh Y (yu (h3.o.at (i:=0) Y) D.cD D.d7 Y Y ⟨a.mks,_,_,Y,im,sn,_,Y,_,Y,a.mks,q1,r,_,g,S.ls,p,Y,h3.o.ms,(),hq,λH4 s4=>?_⟩)⟩;have h4:=h3.same s4;refine(Zb h4.rn.ix Y Y ⟨_,Y,x,zY g S.ls p r,j,ra,C',s,Y,h4.rn,O.ok,I.ok,(),λH5 k5 R5=>?_⟩);obtain⟨F5,G5⟩:=h4.step ok R5 k5;refine⟨_,Y,_,Y,_,Y,_,Y,by show 5<=Bb;rw[bT];decide,λp' hp=>?_⟩;have s6:=sN (o:=HO.tup [V.str "read",V.int h0,V.int r,V.ref q1,V.int (zY g S.ls p r)]) p' hp;exact q _ _ lb _ _ ((Fr.same (s3.trans s4)).trans (F5.trans (Fr.same s6))) (YO (e:=.read r p _) q1 ze λp e=>by cases e;exact s6 _ _ (F5.ts _ _ (s4 _ _ hq))) (.read h.hm h.ec ho ha) (G5.same s6)
theorem JJ{vs:List V}{_E:XK}(D:DkF K t)(h:vV t vs H Q _E) :
  XN K t (sJ Q) (L2.start ["self","hand","rank","run","place","worth"] vs) H:=by
 obtain⟨d,a,lb,n,f,h0,g,CC,S,rfl,h,ok,p0,pn,q⟩:=h;have G:=h;obtain⟨wo,cs,kv,la,db,en,h,hh,hl,hd,le,wy⟩:=h;have e1:H d=aa (.ins t.q01 a.dx (XL a n f)):=h.at (i:=0) rfl;have eh:H a.hd=aa (.dK kv):=h.at (i:=5) rfl;refine⟨_,Y,_,_,Y,Y,_,Y,yh (Bk ()) ⟨_,Y,yu e1 D.cD D.d1 Y Y ⟨_,_,Y,Y,_,Y,yh (Bk ()) ⟨_,Y,yu e1 D.cD D.d6 Y Y ⟨a.hd,_,Y,.k (k:=.inl h0) eh,_,Y,?_⟩⟩⟩⟩⟩;rcases hh.get (h:=h0) with ⟨z,nm⟩|⟨v,⟨r,j,s⟩,z,hm,tp,x,ra,C,rfl,ht,ec,R,l20⟩
 ·rw[z];exact yJ Y (Zb e1 Y Y ⟨_,Y,d,a,lb,n,f,h0,g,CC,S,Y,G,ok,nm,q⟩)
 ·have dg:sT H a.hd (.int h0) (aa (.ref tp)):=by
   have y:=sT.k (k:=.inl h0) eh
   rwa [z] at y
  rw[z];refine yh Y (yu e1 D.cD D.d6 Y Y ⟨_,Y,a.hd,_,Y,dg,tp,_,0,_,Y,Y,sI.of ht,Y,?_⟩);refine(yu e1 D.cD D.d6 Y Y ⟨_,Y,a.hd,_,Y,dg,tp,_,1,_,Y,Y,sI.of ht,Y,?_⟩);refine(Zb R.ix Y Y ⟨x,ra,C,s,Y,R,λH2 s2=>⟨_,Y,?_⟩⟩);have I:MvI t H2 d a lb n f h0 g CC S wo cs kv la db en r j s tp x ra C:=MvI.same ⟨h,hh,hl,hd,le,wy,hm,z,ht,ec,R,l20⟩ s2;have q2:mvP t H2 d a lb n f h0 g CC S Q:=λv H' lb' e S' F=>q v H' lb' e S' ((Fr.same s2).trans F);cases ho:yf C s with
  |true=>exact yJ Y (zdJ D I ok ho q2)
  |false=>exact yh Y (zdK D I ok ho q2)
end
structure PO(H0:B)(x w:ac)(ox:HO)(H:B)(lb:ac->Nat)(F:ac->Prop)(E:List (Nat×ac×HO)):Prop where
 hx:H x=aa ox
 lx:lb x=1
 ob:∀e∈E,1<e.1/\H e.2.1=aa e.2.2/\lb e.2.1=e.1
 ow:∀b,lb b≠0->∃o,H b=aa o
 kp:Kn x H0 H
 fr:∀b,lb b≠0->b=x\/b=w\/H0 b=ao
 f10:∀b,lb b=10↔F b
section
variable {H0 H':B}{x w c:ac}{ox o:HO}{lb:ac->Nat}{E:List (Nat×ac×HO)}{n:Nat}{N F:ac->Prop}
theorem PO.put(h:PO H0 x w ox H lb F E)(o:HO):PO H0 x w o (upd H x o) lb F E:=by
 refine⟨ze,h.lx,λe he=>?_,λb z=>?_,λb u z e=>by rw[zh z];exact h.kp b u z e,h.fr,h.f10⟩
 ·obtain⟨h1,h2,h3⟩:=h.ob e he;exact⟨h1,by rw[zh (λy=>by rw[y,h.lx] at h3;lia)];exact h2,h3⟩
 ·obtain⟨u,e⟩:=h.ow b z;exact Xc b u e
theorem PO.same(h:PO H0 x w ox H lb F E)(s:aP H H'):PO H0 x w ox H' lb F E:=⟨s _ _ h.hx,h.lx,λe he=>let ⟨h1,h2,h3⟩:=h.ob e he;⟨h1,s _ _ h2,h3⟩,λb z=>let ⟨o,e⟩:=h.ow b z;⟨o,s _ _ e⟩,λb o z e=>s _ _ (h.kp b o z e),h.fr,h.f10⟩
theorem PO.l0(h:PO H0 x w ox H lb F E)(hc:H c=ao):lb c=0/\H0 c=ao:=by
 have nx:c≠x:=λz=>by rw[z,h.hx] at hc;cases hc
 refine⟨fC (λz=>by obtain⟨o,e⟩:=h.ow c z;rw[hc] at e;cases e),?_⟩;cases e:H0 c with
 |none=>rfl
 |some u=>have:=h.kp c u nx e;rw[hc] at this;cases this
open Classical in
theorem PO.lab{F':ac->Prop}(h:PO H0 x w ox H lb F E)(n:Nat)(hF:∀b,(N b/\n=10\/F b)↔F' b)(hN:∀b,N b->lb b=0/\H0 b=ao/\∃o,H b=aa o):∃lb',PO H0 x w ox H lb' F' E/\(∀b,N b->lb' b=n)/\∀b,¬ N b->lb' b=lb b:=by
 have e0:∀b,lb b≠0->¬ N b:=λb z y=>z (hN b y).1;refine⟨λb=>if N b then n else lb b,⟨h.hx,(ap (e0 x (by rw[h.lx];decide))).trans h.lx,λe he=>?_,λb z=>?_,h.kp,λb z=>?_,λb=>?_⟩,λb z=>au z,λb z=>ap z⟩
 ·obtain⟨h1,h2,h3⟩:=h.ob e he;by_cases y:N e.2.1
  ·have:=(hN _ y).1;lia
  ·exact⟨h1,h2,(ap y).trans h3⟩
 ·by_cases y:N b
  ·exact(hN b y).2.2
  ·exact h.ow b (λw=>z ((ap y).trans w))
 ·by_cases y:N b
  ·exact .inr (.inr (hN b y).2.1)
  ·exact h.fr b (λw=>z ((ap y).trans w))
 ·rw[<-hF,<-h.f10];by_cases y:N b
  ·rw[au y,(hN b y).1];simp[y]
  ·rw[ap y];simp[y]
theorem PO.new(h:PO H0 x w ox H lb F E)(n:Nat)(n1:1<n)(n2:n≠10)(hc:H c=ao):∃lb',PO H0 x w ox (upd H c o) lb' F ((n,c,o)::E):=by
 obtain⟨l0,f0⟩:=h.l0 hc;obtain⟨lb',h',e1,e2⟩:=(h.same (sN c hc (o:=o))).lab (N:=λb=>b=c) n (λb=>⟨λz=>z.resolve_left λy=>n2 y.2,.inr⟩) λb z=>by rw[z];exact⟨l0,f0,_,ze⟩
 exact⟨lb',h'.hx,h'.lx,λe he=>by
  rcases bF.mp he with rfl|he
  ·exact⟨n1,ze,e1 c Y⟩
  ·exact h'.ob e he,h'.ow,h'.kp,h'.fr,h'.f10⟩
open Classical in
theorem PO.init(h:H0 x=aa o)(hw:∃u,H0 w=aa u):∃lb,PO H0 x w o H0 lb (λ_=>False) []/\(w≠x->lb w=2)/\∀b,b≠x->b≠w->lb b=0:=by
 refine⟨λb=>if b=x then 1 else if b=w then 2 else 0,⟨h,au Y,(λe he=>nomatch he),λb z=>?_,λb u _ e=>e,λb z=>?_,λb=>?_⟩,λz=>(ap z).trans (au Y),λb z y=>(ap z).trans (ap y)⟩
 ·by_cases y:b=x
  ·rw[y];exact⟨_,h⟩
  ·by_cases v:b=w
   ·rw[v];exact hw
   ·rw[ap y,ap v] at z;exact absurd Y z
 ·by_cases y:b=x
  ·exact .inl y
  ·by_cases v:b=w
   ·exact .inr (.inl v)
   ·rw[ap y,ap v] at z;exact absurd Y z
 ·by_cases y:b=x
  ·rw[au y];simp
  ·by_cases v:b=w
   ·rw[ap y,au v];simp
   ·rw[ap y,ap v];simp
section
variable {C dx:ac}{fs:List (Str×V)}{fl:Str}{y:V}{σ:St}{D:W3}{k:Nat}
theorem PO.st(P:PO H0 x w (.ins C dx fs) H lb F E)(h0:σ[0]?=aa (aa (.ref x)))(c:tG K C)(n:aV K C fl)(hl:fs.length<1000)(q:∀H',PO H0 x w (.ins C dx (xV fl y fs)) H' lb F E->D.nx σ H'):U 0 σ H λx' H2=>∃a C dx fs,x'=.ref a/\H2 a=aa (.ins C dx fs)/\tG K C/\aV K C fl/\fs.length<1000/\D.nx σ (upd H2 a (.ins C dx (xV fl y fs))):=⟨_,h0,x,C,dx,fs,Y,P.hx,c,n,hl,q _ (P.put _)⟩
theorem PO.stM(M:sV t H m F g [])(P:PO H0 x w (.ins C dx fs) H lb F E)(h0:σ[0]?=aa (aa (.ref x)))(c:tG K C)(n:aV K C fl)(hl:fs.length<1000)(q:∀H',PO H0 x w (.ins C dx (xV fl y fs)) H' lb F E->sV t H' m F g []->D.nx σ H'):U 0 σ H λx' H2=>∃a C dx fs,x'=.ref a/\H2 a=aa (.ins C dx fs)/\tG K C/\aV K C fl/\fs.length<1000/\D.nx σ (upd H2 a (.ins C dx (xV fl y fs))):=⟨_,h0,x,C,dx,fs,Y,P.hx,c,n,hl,q _ (P.put _) (M.keep (λb o fb e=>by rw[zh (λz=>by have:=(P.f10 b).mpr fb;rw[z,P.lx] at this;cases this)];exact e) (jA P.hx λ_ z=>nomatch z))⟩
theorem PO.sv(P:PO H0 x w (.ins C dx fs) H lb F E)(h0:σ[0]?=aa (aa (.ref x)))(h1:σ[k]?=aa (aa y))(c:tG K C)(n:aV K C fl)(hl:fs.length<1000)(q:∀H',PO H0 x w (.ins C dx (xV fl y fs)) H' lb F E->D.nx σ H'):xF K (U 0) (U k) fl D σ H:=⟨_,h1,P.st h0 c n hl q⟩
theorem PO.so(o:HO)(m:Nat)(m1:1<m)(m2:m≠10)(P:PO H0 x w (.ins C dx fs) H lb F E)(h0:σ[0]?=aa (aa (.ref x)))(c:tG K C)(n:aV K C fl)(hl:fs.length<1000)(q:∀c H' lb',PO H0 x w (.ins C dx (xV fl (.ref c) fs)) H' lb' F ((m,c,o)::E)->D.nx σ H')(p:ac)(hp:H p=ao):U 0 σ (upd H p o) λx' H2=>∃a C dx fs,x'=.ref a/\H2 a=aa (.ins C dx fs)/\tG K C/\aV K C fl/\fs.length<1000/\D.nx σ (upd H2 a (.ins C dx (xV fl (.ref p) fs))):=by
 obtain⟨lb',P'⟩:=P.new (o:=o) m m1 m2 hp;exact P'.st h0 c n hl λH'=>q p H' lb'
end
theorem JK{l dx:ac}{xs:List V}{C:List Cs}(F:RnF K t)(h1:H x=aa (.ins t.q00 dx []))(h2:H l=aa (.lst xs))(h3:Paired (sW H) xs C)(q:∀H' a,Kn x H H'->hV t H' x a C st0->(∀b,OwA x a b->b=x\/H b=ao)->Q .non H') :
  ZM K t (sJ Q) (L2.start ["self","code"] [.ref x,.ref l]) H:=by
 obtain⟨lb,P,_⟩:=PO.init h1 ⟨_,h1⟩;unfold ZM zj;refine⟨_,Y,l,xs,Y,.inl (aY.of h2),P.so (.lst xs) 2 () () Y F.cl F.n1 () λco H1 lb1 P=>P.st Y F.cl F.n2 (by show 1<1000;decide) λH2 P=>P.st Y F.cl F.n3 (by show 2<1000;decide) λH3 P=>P.so (.dK []) 3 () () Y F.cl F.n4 (by show 3<1000;decide) λsl H4 lb4 P=>P.so (.dT []) 4 () () Y F.cl F.n5 (by show 4<1000;decide) λgi H5 lb5 P=>P.so (.dT []) 5 () () Y F.cl F.n6 (by show 5<1000;decide) λno H6 lb6 P=>⟨(),P.so (.lst []) 6 () () Y F.cl F.n7 (by show 6<1000;decide) λsa H7 lb7 P=>?_⟩⟩;have ob:∀n c o,(n,c,o)∈_->H7 c=aa o/\lb7 c=n:=λn c o z=>(P.ob (n,c,o) z).2;have o2:=ob 2 co _ (.tail _ (.tail _ (.tail _ (.tail _ (.head _)))));have o3:=ob 3 sl _ (.tail _ (.tail _ (.tail _ (.head _))));have o4:=ob 4 gi _ (.tail _ (.tail _ (.head _)));have o5:=ob 5 no _ (.tail _ (.head _));have o6:=ob 6 sa _ (.head _);have nx:∀ {n:Nat} {b:ac},lb7 b=n+2->b=x\/H b=ao:=λ{n b} z=>(P.fr b ()).imp id λy=>y.elim (λy=>by rw[y,P.lx] at z;lia) id;refine q H7 ⟨dx,co,sl,gi,no,sa⟩ P.kp ⟨P.hx,⟨xs,o2.1,xO (λb zs e=>P.kp _ _ (zD e h1 ()) e) h3⟩,o3.1,o4.1,o5.1,o6.1,λz=>by rw[show gi=no from z,o5.2] at o4;exact absurd o4.2 (),λz=>by rw[show co=sa from z,o6.2] at o2;exact absurd o2.2 ()⟩ λb z=>?_;rcases z with (z|z|z|z|z)|z
 ·exact .inl z
 ·rw[z];exact nx o3.2
 ·rw[z];exact nx o4.2
 ·rw[z];exact nx o5.2
 ·rw[z];exact nx o6.2
 ·rw[z];exact nx o2.2
theorem JL{vs:List V}{_E:XK}(D:DkF K t)(h:qG t vs H Q _E) :
  qJ K t (sJ Q) (L2.start ["self","makes"] vs) H:=by
 obtain⟨x,m,dx,rfl,h1,q⟩:=h;obtain⟨lb,P,_⟩:=PO.init h1 ⟨_,h1⟩;unfold qJ zj;refine P.sv Y Y D.cJ D.j1 () λH1 P=>P.so (.dK []) 7 () () Y D.cJ D.j2 (by show 1<1000;decide) λla H2 lb2 P=>P.so (.dT []) 11 () () Y D.cJ D.j3 (by show 2<1000;decide) λre H3 lb3 P=>P.so (.dK []) 8 () () Y D.cJ D.j4 (by show 3<1000;decide) λdb H7 lb6 P7=>?_;have go:∀n c o,(n,c,o)∈[(8,db,HO.dK []),(11,re,.dT []),(7,la,.dK [])]->H7 c=aa o/\H c=ao/\lb6 c=n:=λn c o z=>by
  obtain⟨h1,h2,h3⟩:=P7.ob _ z;have h1:1<n:=h1;have h3:lb6 c=n:=h3;rcases P7.fr c () with y|y|y
  ·rw[y,P7.lx] at h3;lia
  ·rw[y,P7.lx] at h3;lia
  ·exact⟨h2,y,h3⟩
 obtain⟨a1,a2,a3⟩:=go 7 la _ (.tail _ (.tail _ (.head _)));obtain⟨b1,b2,b3⟩:=go 11 re _ (.tail _ (.head _));obtain⟨c1,c2,c3⟩:=go 8 db _ (.head _);exact q _ la re db P7.kp P7.hx a1 b1 c1 a2 b2 c2 (λz=>by rw[z,c3] at a3;cases a3)
theorem JM{vs:List V}{_E:XK}(D:DkF K t)(h:wz t vs H Q _E) :
  qK K t (sJ Q) (L2.start ["self","table","hands","way","first"] vs) H:=by
 obtain⟨x,l,w,dx,dw,n,f,wo,g,rfl,h1,h2,h3,h4,nw,q⟩:=h;obtain⟨lb,P,lw,_⟩:=PO.init (w:=w) h1 ⟨_,h4⟩;have P:PO H x w _ H lb (λ_=>False) [(2,w,wo)]:=⟨P.hx,P.lx,λe he=>by cases bt.mp he;exact⟨by show 1<2;decide,h4,lw nw⟩,P.ow,P.kp,P.fr,P.f10⟩;obtain⟨xs,hx,px⟩:=h2;have nlx:l≠x:=zD hx h1 ();unfold qK zj;refine P.sv Y Y D.cD D.d1 () λH1 P=>P.sv Y Y D.cD D.d2 (by show 1<1000;decide) λH2 P=>P.sv Y Y D.cD D.d3 (by show 2<1000;decide) λH3 P=>⟨(),P.so (.lst []) 4 () () Y D.cD D.d4 (by show 3<1000;decide) λcl H4 lb4 P=>⟨(),P.so (.lst []) 5 () () Y D.cD D.d5 (by show 4<1000;decide) λwl H5 lb5 P=>P.so (.dK []) 6 () () Y D.cD D.d6 (by show 5<1000;decide) λhd H9 lb9 P=>?_⟩⟩;refine⟨_,Y,?_⟩;intro m dm hm hdm nm;have sm:aP H9 (upd (upd H9 dm (HO.own m)) m (HO.ins t.q02 dm [])):=λb o e=>by rw[zh (zo e hm),zh (zo e hdm)];exact e
 have hl9:sR H9 l g:=⟨xs,P.kp _ _ nlx hx,Paired.mapP px λ_ _ ⟨r,p,e,e1,e2⟩=>⟨r,p,e,P.kp _ _ (zD e1 h1 ()) e1,P.kp _ _ (zD e2 h1 ()) e2⟩⟩;refine⟨m,l,dm,g,Y,ze,hl9.same sm,h3,λH10 F k10 M10 f10=>⟨Y,?_⟩⟩;have s10:aP H9 H10:=λb o e=>k10 b o (zo e hm) (sm _ _ e);have fF:∀b,F b->H9 b=ao:=λb z=>by
  rcases f10 b z with y|y
  ·rw[y];exact hm
  ·cases e:H9 b with
   |none=>rfl
   |some o=>have:=sm b o e;rw[y] at this;cases this
 obtain⟨lb10,P',e10,_⟩:=(P.same s10).lab (N:=F) (F':=F) 10 (λb=>⟨λz=>z.elim (λy=>y.1) dn,λz=>.inl ⟨z,Y⟩⟩) λb z=>⟨(P.l0 (fF b z)).1,(P.l0 (fF b z)).2,M10.own b z⟩;replace P:=P';clear P' k10 f10 s10 sm hm hdm nm hl9 fF;refine P.stM M10 Y D.cD D.d7 (by show 6<1000;decide) λH11 P M11=>?_;refine⟨_,Y,x,_,_,_,_,Y,P.hx,D.cD,D.d7,Y,?_⟩;intro jb dj hj hdj nj;have sj:aP H11 (upd (upd H11 dj (HO.own jb)) jb (HO.ins t.q03 dj [])):=λb o e=>by rw[zh (zo e hj),zh (zo e hdj)];exact e
 refine⟨jb,m,dj,Y,ze,λH12 la re db k12 j12 l12 r12 d12 nl nr nd ld=>⟨Y,?_⟩⟩;have s12:aP H11 H12:=λb o e=>k12 b o (zo e hj) (sj _ _ e);have fr:∀b,upd (upd H11 dj (HO.own jb)) jb (HO.ins t.q03 dj []) b=ao->H11 b=ao:=λb z=>by
  cases e:H11 b with
  |none=>rfl
  |some o=>have:=sj b o e;rw[z] at this;cases this
 have e0:∀b,H11 b=ao->_:=λb z=>P.l0 z;have M12:=M11.same s12;have Q0:=P.same s12;obtain⟨lb1,Q1,a1,b1⟩:=Q0.lab (N:=λb=>b=jb) (F':=F) 3 (λb=>⟨λz=>z.resolve_left (λy=>nomatch y.2),.inr⟩) λb z=>by rw[z];exact⟨(e0 _ hj).1,(e0 _ hj).2,_,j12⟩
 have n1:la≠jb:=λz=>by rw[z,ze] at nl;cases nl
 have n2:re≠jb:=λz=>by rw[z,ze] at nr;cases nr
 have n3:db≠jb:=λz=>by rw[z,ze] at nd;cases nd
 have n4:re≠la:=zD r12 l12 ();have n5:db≠re:=zD d12 r12 ();obtain⟨lb2,Q2,a2,b2⟩:=Q1.lab (N:=λb=>b=la) (F':=F) 7 (λb=>⟨λz=>z.resolve_left (λy=>nomatch y.2),.inr⟩) λb z=>by rw[z,b1 _ n1];exact⟨(e0 _ (fr _ nl)).1,(e0 _ (fr _ nl)).2,_,l12⟩
 obtain⟨lb3,Q3,a3,b3⟩:=Q2.lab (N:=λb=>b=re) (F':=F) 11 (λb=>⟨λz=>z.resolve_left (λy=>nomatch y.2),.inr⟩) λb z=>by rw[z,b2 _ n4,b1 _ n2];exact⟨(e0 _ (fr _ nr)).1,(e0 _ (fr _ nr)).2,_,r12⟩
 obtain⟨lb4,Q4,a4,b4⟩:=Q3.lab (N:=λb=>b=db) (F':=F) 8 (λb=>⟨λz=>z.resolve_left (λy=>nomatch y.2),.inr⟩) λb z=>by rw[z,b3 _ n5,b2 _ ld.symm,b1 _ n3];exact⟨(e0 _ (fr _ nd)).1,(e0 _ (fr _ nd)).2,_,d12⟩
 have y1:lb4 jb=3:=by rw[b4 _ n3.symm,b3 _ n2.symm,b2 _ n1.symm,a1 _ rfl]
 have y2:lb4 la=7:=by rw[b4 _ ld,b3 _ n4.symm,a2 _ rfl]
 have y3:lb4 re=11:=by rw[b4 _ n5.symm,a3 _ rfl]
 have y4:=a4 _ rfl;have P:PO H x w _ H12 lb4 F [(3,jb,.ins t.q03 dj (Ju m la re db)),(7,la,.dK []),(11,re,.dT []),(8,db,.dK []),(6,hd,.dK []),(5,wl,.lst []),(4,cl,.lst []),(2,w,wo)]:=⟨Q4.hx,Q4.lx,λe he=>by
  rcases bF.mp he with rfl|he
  ·exact⟨by show 1<3;decide,j12,y1⟩
  rcases bF.mp he with rfl|he
  ·exact⟨by show 1<7;decide,l12,y2⟩
  rcases bF.mp he with rfl|he
  ·exact⟨by show 1<11;decide,r12,y3⟩
  rcases bF.mp he with rfl|he
  ·exact⟨by show 1<8;decide,d12,y4⟩
  exact Q4.ob e he,Q4.ow,Q4.kp,Q4.fr,Q4.f10⟩
 clear Q0 Q1 Q2 Q3 Q4 a1 a2 a3 a4 b1 b2 b3 b4 y1 y2 y3 y4 n1 n2 n3 n4 n5 s12 sj k12 e0 fr nl nr nd ld hj hdj nj j12 l12 r12 d12;refine P.stM M12 Y D.cD D.d8 (by show 7<1000;decide) λH13 P M13=>?_;refine⟨(),λen hc=>?_⟩;have M14:=M13.same (sN en hc (o:=.lst []));obtain⟨lb5,P'⟩:=P.new (o:=.lst []) 9 () () hc;replace P:=P';clear P';generalize upd H13 en (.lst [])=H14 at *
 refine P.stM M14 Y D.cD D.d9 (by show 8<1000;decide) λH15 P M15=>?_;have eF:(λb=>lb5 b=10)=F:=funext λb=>propext (P.f10 b);have ob:∀n c o,(n,c,o)∈_->H15 c=aa o/\lb5 c=n:=λn c o z=>(P.ob (n,c,o) z).2;obtain⟨r1,r2⟩:=ob 11 re _ (.tail _ (.tail _ (.tail _ (.head _))));refine q H15 ⟨dx,w,dw,cl,wl,hd,m,jb,dj,en,la,re,db⟩ lb5 Y Y P.kp (λb o n1 n2 e=>fC λz=>by rcases P.fr b z with y|y|y;exact n1 y;exact n2 y;rw[y] at e;cases e) ⟨λi b o e=>?_,by rw[eF];exact M15,⟨[],⟨r1,cI,cI,(),λ_ _ ⟨_,z,_⟩=>nomatch z⟩⟩,r2,.nil,P.ow⟩
 match i,e with
 |0,e=>cases e;exact⟨P.hx,P.lx⟩
 |1,e=>cases e;exact ob 2 _ _ (.tail _ (.tail _ (.tail _ (.tail _ (.tail _ (.tail _ (.tail _ (.tail _ (.head _)))))))))
 |2,e=>cases e;exact ob 3 _ _ (.tail _ (.head _))
 |3,e=>cases e;exact ob 4 _ _ (.tail _ (.tail _ (.tail _ (.tail _ (.tail _ (.tail _ (.tail _ (.head _))))))))
 |4,e=>cases e;exact ob 5 _ _ (.tail _ (.tail _ (.tail _ (.tail _ (.tail _ (.tail _ (.head _)))))))
 |5,e=>cases e;exact ob 6 _ _ (.tail _ (.tail _ (.tail _ (.tail _ (.tail _ (.head _))))))
 |6,e=>cases e;exact ob 7 _ _ (.tail _ (.tail _ (.head _)))
 |7,e=>cases e;exact ob 8 _ _ (.tail _ (.tail _ (.tail _ (.tail _ (.head _)))))
 |8,e=>cases e;exact ob 9 _ _ (.head _)
end
section
variable {β:Type}{l:List (Int×β)}{h:Int}{b b0:β}{q:Int×β->Nat}
theorem zbi:∀ {l:List (Int×β)},h ∉ l.map (·.1)->zV l h=l
 |[],_=>rfl
 |e::l,n=>by
  rw[bx,bF] at n;have c:e.1≠h:=λz=>n (.inl z.symm);rw[zV,dG,au (Bj c)];exact congrArg _ (zbi λz=>n (.inr z))
theorem qQ:∀ {l:List (Int×β)},(l.map (·.1)).Nodup->(h,b0)∈l->(Yk l h b).Perm ((h,b)::zV l h)/\l.Perm ((h,b0)::zV l h)
 |e::l,nd,m=>by
  rw[bx,ca] at nd;by_cases c:e.1=h
  ·have e0:e=(h,b0):=QH (l:=e::l) (by rw[bx,ca];exact nd) bo m c;have n:h ∉ l.map (·.1):=by rw[<-c];exact nd.1
   have z:zV (e::l) h=l:=by rw[zV,dG,ap (by rw[decide_eq_true_eq];exact λz=>z c)];exact zbi n
   have y:Yk l h b=l:=(dO λe he=>ap λw=>n (bD.mpr ⟨e,he,w⟩)).trans (List.map_id _);rw[z];refine⟨?_,by rw[e0]⟩;show ((if e.1=h then (h,b) else e)::Yk l h b).Perm _;rw[au c,y]
  ·have m:=(bF.mp m).resolve_left λz=>c (by rw[<-z]);obtain⟨p1,p2⟩:=qQ nd.2 m;have z:zV (e::l) h=e::zV l h:=by rw[zV,dG,au (Bj c)];rfl
   rw[z];refine⟨?_,(p2.cons e).trans (.swap ..)⟩;show ((if e.1=h then (h,b) else e)::Yk l h b).Perm _;rw[ap c];exact(p1.cons e).trans (.swap ..)
theorem X1(nd:(l.map (·.1)).Nodup)(m:(h,b0)∈l):((Yk l h b).map q).sum=q (h,b)+((zV l h).map q).sum/\(l.map q).sum=q (h,b0)+((zV l h).map q).sum:=by
 obtain⟨p1,p2⟩:=qQ (b:=b) nd m;exact⟨(p1.map q).sum_nat.trans (by rw[bx,cQ]),(p2.map q).sum_nat.trans (by rw[bx,cQ])⟩
end
theorem Kx{q:Int->Nat}:∀ {a b:List Int},a.Nodup->(∀x∈a,x∈b)->(a.map q).sum<=(b.map q).sum
 |[],_,_,_=>bW _
 |x::a,b,nd,h=>by
  rw[ca] at nd;have p:=lB (h x bo);rw[(p.map q).sum_nat,bx,bx,cQ,cQ];refine oP (Kx nd.2 λy hy=>?_) _;exact(oE λz=>nd.1 (by rw[<-z];exact hy)).mpr (h y (bh _ hy))
theorem kW{α:Type}{q q':α->Nat}:∀ {l:List α},(∀x∈l,q x<=q' x)->(l.map q).sum<=(l.map q').sum
 |[],_=>bp _
 |x::l,h=>by
  have i:=kW λy hy=>h y (bh x hy);have:=h x bo;rw[bx,bx,cQ,cQ];lia
theorem Vn{α:Type}{q q':α->Nat}:∀ {l:List α},(l.map λx=>q x+q' x).sum=(l.map q).sum+(l.map q').sum
 |[]=>rfl
 |x::l=>by
  have i:=Vn (q:=q) (q':=q') (l:=l);rw[bx,bx,bx,cQ,cQ,cQ,i];lia
theorem zcY{α:Type}{p:α->Prop} [DecidablePred p]{q:α->Nat}:∀ {l:List α},(l.map λx=>if p x then q x else 0).sum=((l.filter λx=>decide (p x)).map q).sum
 |[]=>rfl
 |x::l=>by
  have i:=zcY (p:=p) (q:=q) (l:=l);rw[bx,cQ,i,dG];by_cases c:p x
  ·rw[au c,au (Bj c),bx,cQ]
  ·rw[ap c,ap (by rw[decide_eq_true_eq];exact c),rA]
section
variable {g:List aW}{ls:List (Int×List aW)}{p:Pl}{r r':Int}{gi:List aW}
theorem WB{r r':Int}(h:r'<=r):∀(ls:List (Int×List aW)) (s:Int×Int),wI p r' (ls.filter λy=>decide (y.1≠r)) s=wI p r' ls s
 |[],_=>rfl
 |y::ls,s=>by
  rw[dG];by_cases c:y.1=r
  ·rw[ap (by rw[decide_eq_true_eq];exact λz=>z c),WB h ls,wI,ap ()]
  ·rw[au (Bj c),wI,wI,WB h ls]
theorem zbj(h:r'<=r):zY g (wQ ls r gi) p r'=zY g ls p r':=by
 unfold zY wQ;rw[V7,ap (λz=>Int.not_lt.mpr h z.2),WB h]
theorem zbk:∀(aT:List aW) (s:Int×Int),(∀w∈aT,sQ w.2=ah)->sQ s.2=ah->sQ (VZ p r aT s).2=ah
 |[],_,_,h=>h
 |w::aT,s,hr,h=>by
  rw[VZ];refine zbk aT _ (λx hx=>hr x (bh _ hx)) ?_;split
  ·exact hr w bo
  ·exact h
theorem zbl:∀(ls:List (Int×List aW)) (s:Int×Int),(∀y∈ls,∀w∈y.2,sQ w.2=ah)->sQ s.2=ah->sQ (wI p r ls s).2=ah
 |[],_,_,h=>h
 |y::ls,s,hr,h=>by
  rw[wI];refine zbl ls _ (λx hx=>hr x (bh _ hx)) ?_;split
  ·exact zbk _ _ (hr y bo) h
  ·exact h
end
section
variable {f n h:Int}{g:List aW}{CC:List (List Cs)}{S S':DS}{e:Ev}
theorem zfI(I:RnI C j s)(ho:yf C s=aq):j<C.length:=by
 have no:¬ yf C s=ah:=by rw[ho];decide
 have lt:=Ye no;have wn:s.why=ao:=by
  cases e:s.why with
  |none=>rfl
  |some v=>exact absurd (show yf C s=ah by unfold yf;rw[e];rfl) no
 have:=I.at_ wn;lia
theorem Jf{k n:Nat}(h:k<n):vU f k n=(f+k)::vU f (k+1) n:=by
 unfold vU;rw[show n-k=n-(k+1)+1 by lia,List.range_succ_eq_map,bx,dE];refine congr (congrArg _ ()) (dO λi _=>?_);show f+(k:Int)+((i+1:Nat):Int)=f+((k+1:Nat):Int)+i;lia
theorem sA.run(ok:sA n f g CC S){r:Int}{s s':sy}{w:Int}{C:List Cs}(m:(h,r,j,s)∈S.hl)(ec:CC[(r-f).toNat]?=aa C)(ho:yf C s=aq)(hw:sQ w=ah):sA n f g CC { S with hl:=Yk S.hl h (r,j+1,yY C w s) }:=by
 obtain⟨p1,p2⟩:=qQ (b:=(r,j+1,yY C w s)) ok.hn m;obtain⟨C',ec',I,_⟩:=ok.rn _ m;obtain rfl:C'=C:=bL (ec'.symm.trans ec);have O:=ok.cc.ok C' (bV ec);have jl:j<C'.length:=zfI I ho;have mm:∀e∈Yk S.hl h (r,j+1,yY C' w s),e=(h,r,j+1,yY C' w s)\/e∈S.hl:=λe he=>(bF.mp (p1.mem_iff.mp he)).imp id λz=>(sE.mp z).1;refine⟨ok.f0,ok.cc,ok.el,?_,ok.so,?_,λe he=>?_,λe he=>?_,ok.nt,ok.ly,ok.gw,ok.lw⟩
 ·refine ef (.append_left _ (.append_right _ ?_)) ok.pm;exact(p1.map λe:Int×Int×Nat×sy=>e.2.1).trans (p2.map λe:Int×Int×Nat×sy=>e.2.1).symm
 ·exact((p1.map λe:Int×Int×Nat×sy=>e.1).trans (p2.map λe:Int×Int×Nat×sy=>e.1).symm).nodup_iff.mpr ok.hn
 ·rcases mm e he with rfl|he
  ·show 0<=h/\h<n;exact ok.hr _ m
  ·exact ok.hr e he
 ·rcases mm e he with rfl|he
  ·exact⟨C',ec,zgH O.1 I ho hw,by show j+1<=11;have:=O.2;lia⟩
  ·exact ok.rn e he
theorem sA.iw(ok:sA n f g CC S)(p:Pl)(r:Int):sQ (zY g S.ls p r)=ah:=zbl _ _ ok.lw (ok.gw p)
theorem Mv.ok(ok:sA n f g CC S)(m:Mv f g CC S h e S')(h0:0<=h)(hn:h<n):sA n f g CC S':=by
 cases m with
 |step m ec ho ha=>exact ok.run (s':=st0) m ec ho rfl
 |read m ec ho ha=>exact ok.run (s':=st0) m ec ho (ok.iw _ _)
 |@lay r j s C gi m ec ho hg =>
  obtain⟨_,p2⟩:=qQ (b:=(r,j,s)) ok.hn m;obtain⟨C',ec',I,j11⟩:=ok.rn _ m;obtain⟨k,rk,_,kl⟩:=ok.rh m;have rk:r=f+k:=rk;have l2:s.gi.length<=j:=I.ok.l2;have l3:s.no.length<=j:=I.ok.l3;have j11:j<=11:=j11;have lo:gi.length<=s.gi.length:=zfr hg;have mm:∀y∈wQ S.ls r gi,y∈S.ls\/y=(r,gi):=λy hy=>(bC.mp hy).imp (λz=>(cC.mp z).1) λz=>bt.mp z;refine⟨ok.f0,ok.cc,ok.el,?_,ok.so,ok.hn.sublist (dF.map _),λe he=>ok.hr e (sE.mp he).1,λe he=>ok.rn e (sE.mp he).1,λe he=>?_,λy hy=>?_,ok.gw,λy hy=>?_⟩
  ·refine ef (.append_left _ ?_) ok.pm;refine ef ?_ (.append_right _ (p2.map λe:Int×Int×Nat×sy=>e.2.1).symm);rw[bS,<-cU];exact ou
  ·rcases bC.mp he with he|he
   ·exact ok.nt e he
   ·cases bt.mp he;exact(⟨I.ok.nd,zfE hg,(),()⟩:zb3 s.no gi)
  ·rcases mm y hy with hy|rfl
   ·exact ok.ly y hy
   ·show f<=r/\r<_;lia
  ·rcases mm y hy with hy|rfl
   ·exact ok.lw y hy
   ·exact zh5 I hg
 |@settle s gi m fr =>
  obtain⟨_,p2⟩:=qQ (b:=(s,gi)) ok.nd.2.1.2.1 m;obtain⟨k,rk,_,kl⟩:=ok.rl (bu (f:=λe:Int×sy×List aW=>e.1) m);have rk:f+(S.en:Int)=f+k:=rk;refine⟨ok.f0,ok.cc,by show S.en+1<=_;lia,?_,ok.so,ok.hn,ok.hr,ok.rn,λe he=>ok.nt e (sE.mp he).1,ok.ly,ok.gw,ok.lw⟩;have z:=ok.pm;rw[Jf (show S.en<CC.length by lia)] at z;refine List.Perm.cons_inv (a:=f+(S.en:Int)) (ef ?_ z);refine ef ?_ (.append_left _ (.append_left _ (p2.map λe:Int×sy×List aW=>e.1).symm));rw[<-cU,<-cU];exact rK.symm
 |@again r s gi p o ws' m hy hn' pw so fr =>
  obtain⟨_,p2⟩:=qQ (b:=(s,gi)) ok.nd.2.1.2.1 m;refine⟨ok.f0,ok.cc,ok.el,?_,so,ok.hn,ok.hr,ok.rn,λe he=>ok.nt e (sE.mp he).1,ok.ly,ok.gw,ok.lw⟩;refine ef (.append_right _ pw) (ef ?_ ok.pm);refine ef ?_ (.append_left _ (.append_left _ (p2.map λe:Int×sy×List aW=>e.1).symm));rw[<-cU,<-cU];exact rK.symm
 |@take r m fr =>
  obtain⟨k,rk,_,kl⟩:=ok.rw_ m;refine⟨ok.f0,ok.cc,ok.el,?_,ok.so.sublist pL,?_,λe he=>?_,λe he=>?_,ok.nt,ok.ly,ok.gw,ok.lw⟩
  ·refine ef ?_ ((List.Perm.append_right _ (lB m)).symm.trans ok.pm);rw[bS,cU];show (S.ws.erase r++(S.hl.map (·.2.1)++r::S.ld.map (·.1))).Perm (r::(S.ws.erase r++(S.hl.map (·.2.1)++S.ld.map (·.1))));rw[<-cU,<-cU];exact List.perm_middle
  ·rw[bS];refine du.mpr ⟨ok.hn,by simp,λx hx y hy z=>fr ?_⟩;rw[<-show y=h from bt.mp hy,<-z];exact hx
  ·rcases bC.mp he with he|he
   ·exact ok.hr e he
   ·cases bt.mp he;exact⟨h0,hn⟩
  ·rcases bC.mp he with he|he
   ·exact ok.rn e he
   ·cases bt.mp he;exact⟨_,bc (show (r-f).toNat<CC.length by lia),rn0,bW _⟩
 |rest w l fr=>exact ok
end
def tO(f:Int)(n:Nat)(r:Int):Nat:=14*2^(n-1-(r-f).toNat)
open Classical in
noncomputable def pen(f:Int)(n:Nat)(g:List aW)(ls:List (Int×List aW))(r:Int)(no:List aW):Nat:=if Agr g ls r no then 0 else tO f n r
noncomputable def phH(f:Int)(n:Nat)(g:List aW)(ls:List (Int×List aW))(e:Int×Int×Nat×sy):Nat:=11-e.2.2.1+2+(tO f n e.2.1-14)+pen f n g ls e.2.1 e.2.2.2.no
noncomputable def phL(f:Int)(n:Nat)(g:List aW)(ls:List (Int×List aW))(e:Int×sy×List aW):Nat:=1+pen f n g ls e.1 e.2.1.no
noncomputable def Phi(f:Int)(n:Nat)(g:List aW)(S:DS):Nat:=(S.ws.map (tO f n)).sum+((S.hl.map (phH f n g S.ls)).sum+(S.ld.map (phL f n g S.ls)).sum)
section
variable {f h r r':Int}{n k:Nat}{N:Int}{g gi no:List aW}{CC:List (List Cs)}{S S':DS}{e:Ev}{ls ls':List (Int×List aW)}
theorem zfJ:14<=tO f n r:=Nat.le_mul_of_pos_right 14 (Nat.pow_pos ())
theorem zca:∀m k:Nat,k+m=n->((vU f k n).map (tO f n)).sum=14*(2^m-1)
 |0,k,h=>by
  rw[show vU f k n=[] by unfold vU;rw[show n-k=0 by lia];rfl];rfl
 |m+1,k,h=>by
  rw[Jf (),bx,cQ,zca m (k+1) ()];unfold tO;rw[show n-1-(f+(k:Int)-f).toNat=m by lia,Nat.pow_succ];have:1<=2^m:=Nat.pow_pos ();lia
theorem zcb:pen f n g ls r no<=tO f n r:=by unfold pen;split;exact bW _;exact bp _
theorem zfK(h:∀p,zY g ls' p r=zY g ls p r):pen f n g ls' r no=pen f n g ls r no:=by
 have:Agr g ls' r no↔Agr g ls r no:=forall_congr' λy=>by rw[h]
 unfold pen;rw[propext this]
def exR(f:Int)(n:Nat)(r x:Int):Nat:=if r<x then tO f n x else 0
theorem zcZ:pen f n g (wQ ls r gi) r' no<=pen f n g ls r' no+exR f n r r':=by
 by_cases c:r<r'
 ·have:=zcb (f:=f) (n:=n) (g:=g) (ls:=wQ ls r gi) (r:=r') (no:=no);unfold exR;rw[au c];lia
 ·rw[zfK λp=>zbj ()];exact gT _ _
theorem zc0(ok:sA N f g CC S)(m:(h,r,j,s)∈S.hl)(jl:j<11)(ag:Agr g S.ls r s.no->Agr g S.ls r s'.no):Phi f n g { S with hl:=Yk S.hl h (r,j+1,s') }<Phi f n g S:=by
 obtain⟨e1,e2⟩:=X1 (b:=(r,j+1,s')) (q:=phH f n g S.ls) ok.hn m;have:pen f n g S.ls r s'.no<=pen f n g S.ls r s.no:=by
  unfold pen;split
  ·exact bW _
  ·rw[ap λz=>(by assumption:¬ _) (ag z)];exact bp _
 have p1:phH f n g S.ls (h,r,j+1,s')=11-(j+1)+2+(tO f n r-14)+pen f n g S.ls r s'.no:=rfl;have p2:phH f n g S.ls (h,r,j,s)=11-j+2+(tO f n r-14)+pen f n g S.ls r s.no:=rfl;unfold Phi;dsimp only;lia
theorem Mv.dec(ok:sA N f g CC S)(m:Mv f g CC S h e S'):(e=.rest/\S'=S)\/Phi f CC.length g S'<Phi f CC.length g S:=by
 have run:∀ {r j s C},(h,r,j,s)∈S.hl->CC[(r-f).toNat]?=aa C->yf C s=aq->j<11:=λ{r j s C} m ec ho=>by
  obtain⟨C',ec',I,_⟩:=ok.rn _ m;obtain rfl:C'=C:=bL (ec'.symm.trans ec);have:=(ok.cc.ok C' (bV ec)).2;have:j<C'.length:=zfI I ho;lia
 cases m with
 |step m ec ho ha =>
  refine .inr (zc0 ok m (run m ec ho) λz=>?_);rw[(zcM ho).1 ha];exact z
 |read m ec ho ha =>
  refine .inr (zc0 ok m (run m ec ho) λz=>?_);rw[(zcM ho).2 _ ha];intro y hy;rcases bC.mp hy with hy|hy
  ·exact z y hy
  ·rw[bt.mp hy]
 |@lay r j s C gi m ec ho hg =>
  refine .inr ?_;obtain⟨_,p2⟩:=qQ (b:=(r,j,s)) ok.hn m;obtain⟨_,e2⟩:=X1 (b:=(r,j,s)) (q:=phH f CC.length g S.ls) ok.hn m;obtain⟨k,rk,_,kl⟩:=ok.rh m;have rk:r=f+k:=rk;have b1:((zV S.hl h).map (phH f CC.length g (wQ S.ls r gi))).sum<=((zV S.hl h).map (phH f CC.length g S.ls)).sum+((zV S.hl h).map λe=>exR f CC.length r e.2.1).sum:=by
   rw[<-Vn];exact kW λx _=>by have:=zcZ (f:=f) (n:=CC.length) (g:=g) (ls:=S.ls) (r:=r) (gi:=gi) (r':=x.2.1) (no:=x.2.2.2.no);unfold phH;lia
  have b2:(S.ld.map (phL f CC.length g (wQ S.ls r gi))).sum<=(S.ld.map (phL f CC.length g S.ls)).sum+(S.ld.map λe=>exR f CC.length r e.1).sum:=by
   rw[<-Vn];exact kW λx _=>by have:=zcZ (f:=f) (n:=CC.length) (g:=g) (ls:=S.ls) (r:=r) (gi:=gi) (r':=x.1) (no:=x.2.1.no);unfold phL;lia
  have b3:((zV S.hl h).map λe=>exR f CC.length r e.2.1).sum+(S.ld.map λe=>exR f CC.length r e.1).sum<=tO f CC.length r-14:=by
   have z:((zV S.hl h).map λe=>exR f CC.length r e.2.1).sum+(S.ld.map λe=>exR f CC.length r e.1).sum=((((zV S.hl h).map (·.2.1)++S.ld.map (·.1)).filter λx=>decide (r<x)).map (tO f CC.length)).sum:=by
    rw[<-zcY,bS,fT,dE,dE];rfl
   rw[z];have sb:((zV S.hl h).map (·.2.1)++S.ld.map (·.1)).Sublist (S.hl.map (·.2.1)++S.ld.map (·.1)):=(dF.map _).append (List.Sublist.refl _);have nd:=(ok.pm.nodup_iff.mpr zfH).sublist (List.sublist_append_right S.ws _);refine bP (Kx (b:=vU f (k+1) CC.length) (nd.sublist (List.filter_sublist.trans sb)) λx hx=>?_) ?_
   ·obtain⟨h1,h2⟩:=cC.mp hx;obtain⟨j,ej,_,jl⟩:=ok.rk (bR _ (sb.subset h1));have:=of_decide_eq_true h2;exact rks_mem.mpr ⟨j,ej,(),jl⟩
   ·rw[zca (CC.length-(k+1)) (k+1) ()];unfold tO;rw[show CC.length-1-(r-f).toNat=CC.length-(k+1) by lia];lia
  have b4:=zfK (f:=f) (n:=CC.length) (g:=g) (no:=s.no) (ls:=S.ls) (ls':=wQ S.ls r gi) (r:=r) λp=>zbj (rY r);have p1:phH f CC.length g S.ls (h,r,j,s)=11-j+2+(tO f CC.length r-14)+pen f CC.length g S.ls r s.no:=rfl;have p2:([(r,s,gi)].map (phL f CC.length g (wQ S.ls r gi))).sum=1+pen f CC.length g (wQ S.ls r gi) r s.no+0:=rfl;unfold Phi;dsimp only;rw[bS,fT];lia
 |@settle s gi m fr =>
  obtain⟨_,e2⟩:=X1 (b:=(s,gi)) (q:=phL f CC.length g S.ls) ok.nd.2.1.2.1 m;refine .inr ?_;have p1:phL f CC.length g S.ls (f+S.en,s,gi)=1+pen f CC.length g S.ls (f+S.en) s.no:=rfl;unfold Phi;dsimp only;lia
 |@again r s gi p o ws' m hy hn pw so fr =>
  obtain⟨_,e2⟩:=X1 (b:=(s,gi)) (q:=phL f CC.length g S.ls) ok.nd.2.1.2.1 m;refine .inr ?_;have e1:pen f CC.length g S.ls r s.no=tO f CC.length r:=by unfold pen;exact ap λz=>hn (z _ hy)
  have p1:phL f CC.length g S.ls (r,s,gi)=1+pen f CC.length g S.ls r s.no:=rfl;unfold Phi;dsimp only;rw[(pw.map (tO f CC.length)).sum_nat,bx,cQ];lia
 |@take r m fr =>
  refine .inr ?_;have e1:=((lB m).map (tO f CC.length)).sum_nat;rw[bx,cQ] at e1;have e2:pen f CC.length g S.ls r st0.no=0:=by unfold pen;exact au λy hy=>nomatch hy
  have:=zfJ (f:=f) (n:=CC.length) (r:=r);have p1:([(h,r,0,st0)].map (phH f CC.length g S.ls)).sum=11-0+2+(tO f CC.length r-14)+pen f CC.length g S.ls r st0.no+0:=rfl;unfold Phi;dsimp only;rw[bS,fT];lia
 |rest w l fr=>exact .inl ⟨Y,Y⟩
theorem zih(ok:sA N f g CC S):Phi f CC.length g S<=1000:=by
 have l5:=ok.cc.le;have w:∀ {e},e∈S.hl->phH f CC.length g S.ls e<=2*tO f CC.length e.2.1:=λ{e} he=>by
  have:=zfJ (f:=f) (n:=CC.length) (r:=e.2.1);have:=zcb (f:=f) (n:=CC.length) (g:=g) (ls:=S.ls) (r:=e.2.1) (no:=e.2.2.2.no);unfold phH;lia
 have w2:∀ {e},e∈S.ld->phL f CC.length g S.ls e<=2*tO f CC.length e.1:=λ{e} he=>by
  have:=zfJ (f:=f) (n:=CC.length) (r:=e.1);have:=zcb (f:=f) (n:=CC.length) (g:=g) (ls:=S.ls) (r:=e.1) (no:=e.2.1.no);unfold phL;lia
 have a1:(S.hl.map (phH f CC.length g S.ls)).sum<=(S.hl.map λe=>2*tO f CC.length e.2.1).sum:=kW λe he=>w he;have a2:(S.ld.map (phL f CC.length g S.ls)).sum<=(S.ld.map λe=>2*tO f CC.length e.1).sum:=kW λe he=>w2 he;have a3:=kW (l:=S.ws) (q:=tO f CC.length) (q':=λr=>2*tO f CC.length r) λe _=>by lia
 have z:=(ok.pm.map λr=>2*tO f CC.length r).sum_nat;rw[bS,bS,fT,fT,dE,dE] at z;have y:=zca (f:=f) (n:=CC.length) (CC.length-S.en) S.en (by have:=ok.el;lia);have t:=Vn (q:=tO f CC.length) (q':=tO f CC.length) (l:=vU f S.en CC.length);have t':((vU f S.en CC.length).map λr=>2*tO f CC.length r).sum=((vU f S.en CC.length).map λx=>tO f CC.length x+tO f CC.length x).sum:=by
  congr 1;exact dO λx _=>by lia
 have p:2^(CC.length-S.en)<=2^5:=Nat.pow_le_pow_right () ();have p:2^(CC.length-S.en)<=32:=p;have z:(S.ws.map λr=>2*tO f CC.length r).sum+((S.hl.map λe=>2*tO f CC.length e.2.1).sum+(S.ld.map λe=>2*tO f CC.length e.1).sum)=_:=z;unfold Phi;lia
end
section
variable {H':B}{lb lb':ac->Nat}{d l:ac}{a:tP}{cs en xs ys:List V}{CC:List (List Cs)}{n f h:Int}{g:List aW}{S S':DS}{v:V}{es:List He}{e:Ev}{J:List He->DS->Prop}
theorem tu.ts(h:tu H v x)(ts:tI H H'):tu H' v x:=let ⟨b,q,e,h1,h2⟩:=h;⟨b,q,e,ts _ _ h1,λp z=>ts _ _ (h2 p z)⟩
theorem zfL(h:Paired (tu H) xs es)(ts:tI H H'):Paired (tu H') xs es:=Paired.mapP h λ_ _ z=>z.ts ts
theorem Fr.up{M:Nat->Prop}(h:Fr M H H' lb lb')(hl:H' l=aa (.lst xs))(hn:H l=ao):Fr M H (upd H' l (.lst ys)) lb lb':=⟨h.ex,λb o z e=>by rw[zh (λy=>by rw[y,hn] at e;cases e)];exact h.kp b o z e,λb zs e=>jA hl () _ _ (h.ts b zs e),λb o e=>let ⟨o',e'⟩:=h.al b o e;Xc b o' e'⟩
def TnI(n:Int)(S:DS)(i t:Nat):Prop:=t<8/\(S.hl=[]\/∃e∈S.hl,((i:Int)+t)%n=e.1)
theorem zfM(ok:sA n f g CC S)(h1:1<=n)(h8:n<=8)(i:Nat):∃t,TnI n S i t:=by
 cases e:S.hl with
 |nil=>exact⟨0,(),.inl e⟩
 |cons x xs =>
  have m:x∈S.hl:=by rw[e];exact bo
  obtain⟨a1,a2⟩:=ok.hr x m;have b1:=cO (x.1-i) (show n≠0 by lia);have b2:=cy (x.1-i) (show 0<n by lia);refine⟨((x.1-i)%n).toNat,(),.inr ⟨x,m,?_⟩⟩;rw[lW b1,Int.add_emod,Int.emod_emod_of_dvd _ (Int.dvd_refl n),<-Int.add_emod,show (i:Int)+(x.1-i)=x.1 by lia,Int.emod_eq_of_lt a1 a2]
structure FnI(t:mt)(H:B)(d l:ac)(a:tP)(lb:ac->Nat)(n f:Int)(g:List aW)(CC:List (List Cs))(J:List He->DS->Prop)(m:Nat)(H':B)(lb':ac->Nat)(xs:List V)(es:List He)(S:DS)(t':Nat):Prop where
 em:m=8*Phi f CC.length g S+t'
 lm:xs.length+m<=9000
 tn:TnI n S xs.length t'
 fr:Fr M0 H H' lb lb'
 hl:H' l=aa (.lst xs)
 l0:lb' l=0
 pd:Paired (tu H') xs es
 js:J es S
 ok:sA n f g CC S
 dk:tF t H' d a lb' n f g CC S
def FnE(t:mt)(H:B)(d l:ac)(a:tP)(lb:ac->Nat)(n f:Int)(g:List aW)(CC:List (List Cs))(J:List He->DS->Prop)(m:Nat)(σ:St)(H':B):Prop:=σ=[aa (.ref d),aa (.ref l)]/\∃lb' xs es S t',FnI t H d l a lb n f g CC J m H' lb' xs es S t'
theorem FnI.next{H2:B}{lb2:ac->Nat}(I:FnI t H d l a lb n f g CC J m H' lb' xs es S t')(h1:1<=n)(h8:n<=8)(hn:H l=ao)(lt:S.en<CC.length)(js:∀es S h e S',J es S->sA n f g CC S->h=(es.length:Int)%n->Mv f g CC S h e S'->J (es++[(h,e)]) S')(F2:Fr M0 H' H2 lb' lb2)(ev:tu H2 v ((xs.length:Int)%n,e))(mv:Mv f g CC S ((xs.length:Int)%n) e S2)(G2:tF t H2 d a lb2 n f g CC S2):H2 l=aa (.lst xs)/\∃m',m'<m/\FnE t H d l a lb n f g CC J m' [aa (.ref d),aa (.ref l)] (upd H2 l (.lst (xs++[v]))):=by
 have b1:=cO (xs.length:Int) (show n≠0 by lia);have b2:=cy (xs.length:Int) (show 0<n by lia);have hl2:=F2.kp _ _ (by rw[I.l0];exact .inl Y) I.hl;have l2:lb2 l=0:=(F2.ex _ _ I.hl).trans I.l0;have ts:tI H2 (upd H2 l (.lst (xs++[v]))):=jA hl2 λ_ z=>nomatch z
 have ok2:=Mv.ok I.ok mv b1 b2;have em:=I.em;have lm:=I.lm;refine⟨hl2,?_⟩;have fin:∀t2,TnI n S2 (xs.length+1) t2->8*Phi f CC.length g S2+t2<m->∃m',m'<m/\FnE t H d l a lb n f g CC J m' [aa (.ref d),aa (.ref l)] (upd H2 l (.lst (xs++[v]))):=λt2 T2 lt2=>⟨_,lt2,Y,lb2,xs++[v],es++[((xs.length:Int)%n,e)],S2,t2,Y,by rw[bE];show xs.length+1+_<=9000;lia,by rw[bE];exact T2,(I.fr.trans F2).up hl2 hn,ze,l2,Paired.snocP (zfL (zfL I.pd F2.ts) ts) (ev.ts ts),js es S _ e S2 I.js I.ok (by rw[bN I.pd]) mv,ok2,G2.put hl2 l2⟩;rcases mv.dec I.ok with ⟨rfl,e12⟩|dc
 ·cases mv with
  |rest w nl fr =>
   have ne:S.hl≠[]:=λz=>by
    have:=I.ok.pm;rw[w,z,Jf lt] at this;exact nl (this.mem_iff.mpr bo)
   obtain⟨x,hx,ex⟩:=I.tn.2.resolve_left ne;have t0:t'≠0:=λz=>fr (by
    rw[z,show (xs.length:Int)+((0:Nat):Int)=xs.length by lia] at ex;rw[ex];exact bu (f:=λe:Int×Int×Nat×sy=>e.1) hx)
   have:=I.tn.1;exact fin (t'-1) ⟨(),.inr ⟨x,hx,by rw[show ((xs.length+1:Nat):Int)+((t'-1:Nat):Int)=xs.length+t' by lia];exact ex⟩⟩ ()
 ·obtain⟨t2,T2⟩:=zfM ok2 h1 h8 (xs.length+1);have:=T2.1;exact fin t2 T2 ()
theorem Vf{vs:List V}{_E:XK}(D:DkF K t)(h:jj t vs H Q _E) :
  ZS K t (sJ Q) (L2.start ["self","told"] vs) H:=by
 obtain⟨d,a,lb,n,f,g,CC,S,J,rfl,h,ok,h1,h8,j0,js,q⟩:=h;refine⟨(),λl hl=>?_⟩;have s0:=sN (o:=HO.lst []) l hl;have P1:=zih ok;obtain⟨t0,T0⟩:=zfM ok h1 h8 0;have:=T0.1;refine⟨FnE t H d l a lb n f g CC J,⟨_,Y,lb,[],[],S,t0,Y,by show 0+_<=9000;lia,T0,Fr.same s0,ze,h.l0 hl,.nil,j0,ok,h.same s0⟩,?_⟩;rintro m σ H1 ⟨rfl,lb1,xs,es,S1,t1,I⟩;obtain⟨e1,cs,en,ec,ee,lc,le⟩:=I.dk.cmp;refine(Zb e1 Y Y ⟨d,_,a,n,f,en,Y,e1,ee,Zb e1 Y Y ⟨d,_,a,n,f,cs,Y,e1,ec,_,_,Y,Y,_,Y,?_⟩⟩);have el:=I.ok.el;have lm:=I.lm;rcases ib en.length cs.length with lt|ge
 ·refine yJ (Bj ()) ⟨λσ' H'=>∃m',m'<m/\FnE t H d l a lb n f g CC J m' σ' H',λ_ _ z=>z,?_⟩;have b1:=cO (xs.length:Int) (show n≠0 by lia);have b2:=cy (xs.length:Int) (show 0<n by lia);refine⟨_,Y,.inl ⟨Y,_,aY.of I.hl⟩,Zb e1 Y Y ⟨_,Y,.ref l,xs.length,Y,.inl ⟨_,aY.of I.hl,Y⟩,yu e1 D.cD D.d1 Y Y ⟨_,_,Y,Y,by show (0:Int)<n;lia,d,a,lb1,n,f,(xs.length:Int)%n,g,CC,S1,Y,I.dk,I.ok,b1,b2,λv H2 lb2 e S2 F2 ev mv G2=>?_⟩⟩⟩;obtain⟨hl2,z⟩:=I.next h1 h8 hl () js F2 ev mv G2;exact⟨l,xs,v,Y,Y,hl2,bZ (show xs.length<=9000 by lia) (by rw[bT];decide),z⟩
 ·exact yh (Bk ()) ⟨_,Y,q l xs es H1 lb1 S1 I.fr I.l0 hl I.hl I.pd () I.js I.ok () I.dk⟩
end
section
variable {H':B}{lw lw':ac->Nat}{tl ll p gl:ac}{g gi gs:List aW}{kv:List (bv×V)}{rs:List Int}{ls:List (Int×List aW)}{q0:Pl}{aN r w:Int}{te:TE}{D:W3}{o0 o1 o3 o4 o5 o6:Option V}
theorem zgV(Bp:LdR H lw kv rs ls)(hr:(r,gi)∈ls)(lt:r<aN)(hw:zw gi q0=aa w)(hi:∀y∈ls,r<y.1->y.1<aN->zw y.2 q0=ao):zY g ls q0 aN=w:=by
 unfold zY;have z0:0<=r:=Bp.z0 _ hr;rcases wU q0 aN ls (-1,(zw g q0).getD 0) with ⟨_,e2⟩|⟨y,hy,w',e1,e2,e3,e4,e5⟩
 ·have:=e2 _ hr (show (-1:Int)<r by lia) lt;rw[hw] at this;cases this
 ·rw[e4];have le:r<=y.1:=e5 _ hr lt (by rw[hw];exact λz=>nomatch z);rcases Int.lt_or_eq_of_le le with c|c
  ·rw[hi y hy c e2] at e1;cases e1
  ·rw[<-QH Bp.nl hr hy c,hw] at e1;exact(bL e1).symm
theorem zgW(h:∀y∈ls,y.1<aN->zw y.2 q0=ao):zY g ls q0 aN=(zw g q0).getD 0:=by
 unfold zY;rcases wU q0 aN ls (-1,(zw g q0).getD 0) with ⟨e1,_⟩|⟨y,hy,w',e1,e2,_⟩
 ·rw[e1]
 ·rw[h y hy e2] at e1;cases e1
theorem zc1(hte:∀Q:VK,Q (.ref gl) H->te [o0,o1,aa (.ref p),o3,o4,o5,o6] H Q)(h1:sR H gl gs)(tb:TbK gs)(hp:H p=aa (.tup [.str q0.1,.int q0.2]))(hq:cr q0.1=ah)(kr:∀w,zw gs q0=aa w->D.rt (.int w) H)(kn:zw gs q0=ao->∀o5 o6,D.nx [o0,o1,aa (.ref p),o3,o4,o5,o6] H) :
  wZ (xc K te) (KI K 2 (wY (zm 5) (wY (zm 6) KH))) (zF (zu (aQ (zgm K aq) (U 5) (U 2))) (zA (U 6)) zy) D [o0,o1,aa (.ref p),o3,o4,o5,o6] H:=by
 obtain⟨ys,e1,e2⟩:=h1;refine hte _ ⟨gl,Y,⟨_,aY.of e1⟩,yv ys (λi σ H'=>H'=H/\(∃o5 o6,σ=[o0,o1,aa (.ref p),o3,o4,o5,o6])/\∀r∈gs.take i,r.1≠q0) ⟨Y,⟨_,_,Y⟩,λ_ z=>nomatch z⟩ (λi σ H' z=>by rw[z.1];exact aY.of e1) ?_ ?_⟩
 ·rintro i v σ H' hi ⟨rfl,⟨o5,o6,rfl⟩,no⟩;obtain⟨r,hr,a,pl,rfl,ha,hpl⟩:=Paired.getP e2 hi;have mr:=bV hr;refine⟨a,_,Y,sI.of ha,Y,_,_,Y,_,_,Y,Y,_,Y,_,Y,plD r.1,plD q0,zfq hpl,zfq hp,⟨za7 (tb.so r mr),za7 hq,bP (za8 _) (),bP (za8 _) ()⟩,λb hb=>?_⟩;cases b with
  |true =>
   have e:r.1=q0:=zh2 (hb.mp Y);refine⟨ah,Y,yJ Y ⟨_,Y,kr _ ((Xx tb.nd).mpr ?_)⟩⟩;rw[<-e];exact mr
  |false =>
   refine⟨aq,Y,yh Y ⟨Y,⟨_,_,Y⟩,λx hx=>?_⟩⟩;rw[dt,hr] at hx;rcases bC.mp hx with z|z
   ·exact no x z
   ·cases bt.mp z;exact λz=>nomatch hb.mpr (by rw[z])
 ·rintro σ H' ⟨rfl,⟨o5,o6,rfl⟩,no⟩;rw[bN e2,eu] at no;exact kn (Wm no) _ _
theorem zdL(h1:sR H tl g)(tb:TbK g)(hp:H p=aa (.tup [.str q0.1,.int q0.2]))(hq:cr q0.1=ah)(no:∀y∈ls,y.1<aN->zw y.2 q0=ao)(q:Q (.int (zY g ls q0 aN)) H) :
  ZV K t (sJ Q) [aa (.ref tl),o1,aa (.ref p),o3,o4,o5,o6] H:=by
 rw[zgW no] at q;exact zc1 (te:=U 0) (λQ z=>⟨_,Y,z⟩) h1 tb hp hq (λw z=>by rw[z] at q;exact q) λz o5 o6=>by rw[z] at q;exact q
theorem JN{vs:List V}{_E:XK}(h:qH  vs H Q _E) :
  XQ K t (sJ Q) (L2.start ["table","laid","place","rank","other","spot","worth"] vs) H:=by
 obtain⟨tl,ll,p,aN,g,kv,rs,ls,lw,q0,rfl,h1,tb,h3,Bp,hp,hq,q⟩:=h;have lk:kv.length=rs.length:=by have:=congrArg cp Bp.ks;rwa [bg,bg] at this
 have:=Bp.le;refine⟨_,Y,ll,kv,rs,Y,h3,Bp.ks,(),λl srt hl pm so=>?_⟩;generalize c_:upd H l _=H2;obtain⟨s2,e2⟩:=xk c_ hl;have q2:=q H2 s2;refine⟨l,Y,⟨_,aY.of e2⟩,yv (srt.map V.int) (λi σ H'=>H'=H2/\(∃o4 o5 o6,σ=[aa (.ref tl),aa (.ref ll),aa (.ref p),aa (.int aN),o4,o5,o6])/\∀y∈ls,y.1∈srt.take i->y.1<aN->zw y.2 q0=ao) ⟨Y,⟨_,_,_,Y⟩,λ_ _ z=>nomatch z⟩ (λi σ H' z=>by rw[z.1];exact aY.of e2) ?_ ?_⟩
 ·rintro i v σ H' hi ⟨rfl,⟨o4,o5,o6,rfl⟩,no⟩;rw[bB] at hi;obtain⟨r,hr,rfl⟩:=b8.mp hi;obtain⟨⟨r',gi⟩,hy,er⟩:=bD.mp ((Bp.mm r).mp (pm.mem_iff.mp (bV hr)));have hy:(r,gi)∈ls:=by rw[<-er];exact hy
  obtain⟨gl,hv,hg,_⟩:=Bp.vv _ hy;have tk:∀y∈ls,y.1∈srt.take (i+1)->y=(r,gi)\/y.1∈srt.take i:=λy my z=>by
   rw[dt,hr] at z;rcases bC.mp z with z|z
   ·exact .inr z
   ·exact .inl (QH Bp.nl my hy (bt.mp z))
  refine⟨_,Y,_,Y,_,_,Y,Y,_,Y,?_⟩;by_cases c:r<aN
  ·have dg:sT H' ll (.int r) (aa (.ref gl)):=by
    have z:=sT.k (k:=.inl r) (s2 _ _ h3)
    rwa [hv] at z
   refine yJ (Bj c) (zc1 (te:=v0 (U 1) (U 4)) (λQ z=>⟨_,Y,_,Y,ll,_,Y,dg,z⟩) (hg.same s2) (Bp.tk _ hy) (s2 _ _ hp) hq (λw z=>?_) λz o5 o6=>⟨Y,⟨_,_,_,Y⟩,λy my m lt=>?_⟩)
   ·rw[zgV (g:=g) Bp hy c z λy my ly lt=>no y my ?_ lt] at q2
    ·exact q2
    ·have m:=pm.mem_iff.mpr ((Bp.mm y.1).mpr (bu (f:=(·.1)) my));obtain⟨k,hk⟩:=cZ m;rcases ib k i with c|c
     ·exact bV (show (srt.take i)[k]?=aa y.1 by rw[fq,au c];exact hk)
     ·obtain⟨h1,e1⟩:=bn.mp hk;obtain⟨h2,e2⟩:=bn.mp hr;rcases Nat.lt_or_eq_of_le c with c|c
      ·have:=eG.mp so i k h2 h1 c;rw[e1,e2] at this;lia
      ·subst c;rw[e1] at e2;lia
   ·rcases tk y my m with rfl|z
    ·exact z
    ·exact no y my z lt
  ·exact yh (Bk c) ⟨Y,⟨_,_,_,Y⟩,λy my m lt=>by
    rcases tk y my m with rfl|z
    ·exact absurd lt c
    ·exact no y my z lt⟩
 ·rintro σ H' ⟨rfl,⟨o4,o5,o6,rfl⟩,no⟩;rw[bg,eu] at no;exact zdL (t:=t) (h1.same s2) tb (s2 _ _ hp) hq (λy my=>no y my (pm.mem_iff.mpr ((Bp.mm y.1).mpr (bu (f:=(·.1)) my)))) q2
end
theorem AlkV.mono{H H':B}(s:aP H H')(h:AlkV H n v u):AlkV H' n v u:=by
 induction h with
 |int i=>exact .int i
 |str x=>exact .str x
 |tup e1 e2 l _ ih=>exact .tup (s _ _ e1) (s _ _ e2) l ih
theorem Z1{H:B}{Q:VK}{E:XK}(h:yQ 0 vs H Q E):False:=by
 obtain⟨v,u,_,h,_⟩:=h;cases h
theorem Ky(h0:σ[i]?=aa (aa v))(ty:YS K H v tv)(k:fP K tv (.type T)=aa b)(q:Q (.bl b) H):sM (jD K) (Z (U i) (Z (L (.ty T)) zf)) σ H Q:=⟨_,h0,v,.ty T,tv,b,Y,ty,⟨T,Y,k⟩,q⟩
theorem Z2{Q:Bool->B->Prop}(h0:σ[i]?=aa (aa v))(ty:YS K H v tv)(k:fP K tv (.type T)=aa b)(q:Q b H):tB (sM (jD K) (Z (U i) (Z (L (.ty T)) zf))) σ H Q:=Ky h0 ty k ⟨b,Y,q⟩
theorem Kz{v:V}(q:Q (.bl ah) H):Q (.bl (decide (v=v))) H:=by rw[Bj rfl];exact q
theorem Jg{n:Nat}{v u:V}(F:KF K)(h:AlkV H (n+1) v u)(q:∀H',aP H H'->Q (.bl ah) H') :
  kB K t n (sJ Q) (L2.start ["found","due","one","other"] [v,u]) H:=by
 unfold kB zj zF tOr Jn jZ;cases h with
 |int i =>
  refine Z2 Y (.int i) F.i_l (yh Y (Z2 Y (.int i) F.i_t (yh Y (Z2 Y (.int i) F.i_s (yh Y ?_)))));exact Ky Y (.int i) (xA _) ⟨ah,Y,yJ Y (Ky Y (.int i) F.i_b ⟨aq,Y,ah,Y,yJ Y ⟨_,Y,_,Y,Y,Kz (q _ (aP.refl _))⟩⟩)⟩
 |str y =>
  refine Z2 Y (.str y) F.s_l (yh Y (Z2 Y (.str y) F.s_t (yh Y (Z2 Y (.str y) (xA _) (yJ Y ?_)))));exact Ky Y (.str y) (xA _) ⟨ah,Y,yJ Y ⟨_,Y,_,Y,Y,Kz (q _ (aP.refl _))⟩⟩
 |@tup _ a b xs ys ha hb ll hx =>
  refine Z2 Y (.tup hb) F.t_l (yh Y (Z2 Y (.tup hb) (xA _) (yJ Y (Z2 Y (.tup ha) F.t_l (yJ Y (Z2 Y (.tup ha) (xA _) (yh Y ?_)))))));refine Ky Y (.tup ha) F.t_l (Ky Y (.tup hb) F.t_l ⟨Y,_,Y,yh Y ?_⟩);refine⟨_,Y,.ref a,xs.length,Y,.inr ⟨_,sI.of ha,Y⟩,_,Y,.ref b,ys.length,Y,.inr ⟨_,sI.of hb,Y⟩,Y,_,Y,yh (by rw[Bj (by rw[ll])];rfl) ?_⟩;refine⟨_,Y,_,Y,a,b,xs,ys,Y,sI.of ha,sI.of hb,ll,zev xs ys (λ_ σ H'=>(∃o1 o2,σ=[aa (.ref a),aa (.ref b),o1,o2])/\aP H H') ⟨⟨_,_,Y⟩,aP.refl _⟩ (λi σ H' z=>⟨sI.of (z.2 _ _ ha),sI.of (z.2 _ _ hb)⟩) ?_ ?_⟩
  ·rintro i x y T σ H1 hi hj hT ⟨⟨o1,o2,rfl⟩,S⟩;have s1:=sN (o:=HO.tup [x,y]) T hT;exact⟨T,_,Y,sI.of ze,Y,_,_,Y,_,_,Y,Y,_,Y,_,Y,x,y,Y,AlkV.mono (S.trans s1) (hx i x y hi hj),λH2 s2=>⟨_,Y,yh Y ⟨⟨_,_,Y⟩,S.trans (s1.trans s2)⟩⟩⟩
  ·rintro σ H' ⟨_,S⟩;exact q _ S
section
variable {C:List Cs}{s:sy}
theorem zgX(O:Js C)(e:wH C s=aa p):zw s.no p=ao/\cr p.1=ah:=by
 unfold wH at e;split at e
 ·cases e
 ·rename_i no;have lt:=Ye no;have hc:C[s.n]?=aa C[s.n]:=bc lt;have pl:=O.pl _ (eS lt);rw[hc] at e;generalize C[s.n]=c at *
  have e:vL c s=aa p:=e;cases c with
  |go to=>cases e
  |skip e' to=>cases e
  |row r =>
   cases r with
   |off e'=>cases e
   |iff e' b d=>cases e
   |give sh e' f=>cases e
   |lt x e'=>cases e
   |say e'=>cases e
   |take sh e' x =>
    cases hk:rk s.sl e' with
    |error er=>simp only[vL,hk] at e;cases e
    |ok n =>
     simp only[vL,hk] at e;split at e
     ·cases e
     ·rename_i c;cases e;refine⟨?_,pl.1⟩;cases hl:zw s.no (sh,n) with
      |none=>rfl
      |some i=>exact absurd (.inr (by rw[hl];rfl)) c
end
section
variable {H':B}{lw:ac->Nat}{tl ll x qa qb:ac}{ra:RAd}{C:List Cs}{s s':sy}{j:Nat}{g:List aW}{kv:List (bv×V)}{rs:List Int}{ls:List (Int×List aW)}{h r f m:Int}{v u:V}{e:Ev}{y:He}
theorem zgY:∀(e:Ev) (i:Nat) (y z:V),(evX qa e)[i]?=aa y->(evX qb e)[i]?=aa z->(∃n,y=.int n/\z=.int n)\/(y=.ref qa/\z=.ref qb/\∃p,evP e=aa p):=by
 intro e i y z;cases e <;> rcases i with _|_|_|_|i <;> intro h1 h2 <;> first|exact .inl ⟨_,(bL h1).symm,(bL h2).symm⟩|exact .inr ⟨(bL h1).symm,(bL h2).symm,_,Y⟩|cases h1
theorem zcc(h1:tu H v y)(h2:tu H u y):AlkV H 3 v u:=by
 obtain⟨a,qa,rfl,e1,p1⟩:=h1;obtain⟨b,qb,rfl,e2,p2⟩:=h2;refine .tup e1 e2 (by cases y.2 <;> rfl) λi x z hx hz=>?_;rcases i with _|_|i
 ·cases hx;cases hz;exact .str _
 ·cases hx;cases hz;exact .int _
 ·rcases zgY y.2 i x z hx hz with ⟨n,rfl,rfl⟩|⟨rfl,rfl,p,hp⟩
  ·exact .int _
  ·refine .tup (p1 p hp) (p2 p hp) Y λi x z hx hz=>?_;rcases i with _|_|i
   ·cases hx;cases hz;exact .str _
   ·cases hx;cases hz;exact .int _
   ·cases hx
theorem LdR.same(Bp:LdR H lw kv rs ls)(k:aP H H'):LdR H' lw kv rs ls:={ Bp with vv:=λy hy=>let ⟨gl,a,b,c⟩:=Bp.vv y hy;⟨gl,a,b.same k,c⟩ }
theorem KA{o7:Option V}{w0:V}(h1:tu H v (h,e))(R:hV t H x ra C s)(O:Js C)(I:RnI C j s)(j11:j<=11)(ht:sR H tl g)(tb:TbK g)(hd:H ll=aa (.dK kv))(Bp:LdR H lw kv rs ls)(he:HlE C s g ls r e)(ho:yf C s=aq)(ha:(wH C s=ao/\w0=.non)\/∃p q,wH C s=aa p/\w0=.ref q/\H q=aa (.tup [.str p.1,.int p.2]))
  (q2:∀H',WR e=aq->Kp x ra H H'->hV t H' x ra C (yY C (hlW e) s)->Q (.bl ah) H') :
  vo K t (sJ Q) [aa v,aa (.int h),aa (.int r),aa (.ref x),aa (.ref tl),aa (.ref ll),aa w0,o7] H:=by
 cases e with
 |step r' =>
  obtain⟨rfl,_,na⟩:=he;rcases ha with ⟨_,rfl⟩|⟨p,q,ea,_⟩
  ·refine⟨_,Y,Y,_,Y,yJ Y (Zb R.ix Y Y ⟨x,0,j,ra,C,s,Y,R,O.ok,I.ok,(),λH4 k4 R4=>?_⟩)⟩;refine⟨_,Y,_,Y,_,Y,by show 3<=Bb;rw[bT];decide,λp hp=>?_⟩;have s6:=sN (o:=HO.tup [V.str "step",V.int h,V.int r']) p hp;exact⟨v,.ref p,Y,zcc ((h1.ts (Kp.ts R k4)).ts (tI.of s6)) (YO (e:=.step r') p ze λ_ z=>nomatch z),λH7 s7=>q2 H7 Y (λb o z y=>s7 _ _ (s6 _ _ (k4 b o z y))) ((R4.same s6).same s7)⟩
  ·rw[na] at ea;cases ea
 |read r' p w =>
  obtain⟨rfl,_,ea,rfl⟩:=he;rcases ha with ⟨na,_⟩|⟨p',q1,ea',rfl,hq⟩
  ·rw[na] at ea;cases ea
  ·obtain rfl:p'=p:=bL (ea'.symm.trans ea);refine⟨_,Y,Y,_,Y,yh Y ⟨_,Y,_,Y,_,Y,_,Y,tl,ll,q1,r',g,kv,rs,ls,lw,p',Y,ht,tb,hd,Bp,hq,(zgX O ea).2,λH4 s4=>?_⟩⟩;refine Zb (R.same s4).ix Y Y ⟨_,Y,x,zY g ls p' r',j,ra,C,s,Y,R.same s4,O.ok,I.ok,(),λH5 k5 R5=>?_⟩;have ts:=Kp.ts (R.same s4) k5;refine⟨_,Y,_,Y,_,Y,_,Y,_,Y,by show 5<=Bb;rw[bT];decide,λp hp=>?_⟩;have s6:=sN (o:=HO.tup [V.str "read",V.int h,V.int r',V.ref q1,V.int (zY g ls p' r')]) p hp;exact⟨v,.ref p,Y,zcc (((h1.ts (tI.of s4)).ts ts).ts (tI.of s6)) (YO (e:=.read r' p' _) q1 ze λp e=>by cases e;exact s6 _ _ (ts _ _ (s4 _ _ hq))),λH7 s7=>q2 H7 Y (λb o z y=>s7 _ _ (s6 _ _ (k5 b o z (s4 _ _ y)))) ((R5.same s6).same s7)⟩
 |lay r' =>
  have:=he.2;rw[ho] at this;cases this
 |_=>exact he.elim
theorem Yp{vs:List V}{_E:XK}(h:y6 t vs H Q _E) :
  ju K t (sJ Q) (L2.start ["row","hand","rank","run","table","laid","place","worth"] vs) H:=by
 obtain⟨v,h,r,x,tl,ll,ra,C,s,j,e,g,kv,rs,ls,lw,rfl,h1,R,O,I,j11,ht,tb,hd,Bp,he,q1,q2⟩:=h;refine Zb R.ix Y Y ⟨x,ra,C,s,Y,R,λH2 s2=>⟨_,Y,?_⟩⟩;have R2:=R.same s2;have l2:s.gi.length<=j:=I.ok.l2;have l3:s.no.length<=j:=I.ok.l3;cases ho:yf C s with
 |true =>
  have er:e=.lay r:=by
   cases e with
   |lay r'=>rw[he.1]
   |step r'=>have:=he.2.1;rw[ho] at this;cases this
   |read r' p w=>have:=he.2.1;rw[ho] at this;cases this
   |_=>exact he.elim
  subst er;have lk:kv.length=rs.length:=by have:=congrArg cp Bp.ks;rwa [bg,bg] at this
  have:=Bp.le;refine yJ Y (Zb R2.ix Y Y ⟨x,ra,C,s,Y,R2,(),I.ok.nd,(),(λH' z=>by rw[ho] at z;cases z),λr' o nl gl out H4 _ s4 hnl hgl _ hr oc hn hg gi=>?_⟩);have hd4:=s4 _ _ (s2 _ _ hd);refine⟨r',_,2,_,Y,Y,sI.of hr,Y,_,Y,_,Y,ll,_,Y,.k (k:=.inl r) hd4 (by rw[bT];lia),?_⟩;have ng:gl≠ll:=λz=>by rw[z,s2 _ _ hd] at hgl;cases hgl
  have ts:tI H4 (upd H4 ll (.dK (ye kv (.inl r) (.ref gl)))):=jA hd4 λ_ z=>nomatch z
  have k5:∀b o,b≠ll->H b=aa o->upd H4 ll (.dK (ye kv (.inl r) (.ref gl))) b=aa o:=λb o z e=>by rw[zh z];exact s4 _ _ (s2 _ _ e)
  have g5:sR (upd H4 ll (.dK (ye kv (.inl r) (.ref gl)))) gl out:=let ⟨xs,a,b⟩:=hg;⟨xs,by rw[zh ng];exact a,jx ts b⟩
  have e5:upd H4 ll (.dK (ye kv (.inl r) (.ref gl))) ll=aa (.dK (ye kv (.inl r) (.ref gl))):=ze;have v5:=((h1.ts (tI.of (s2.trans s4))).ts ts);generalize upd H4 ll (.dK (ye kv (.inl r) (.ref gl)))=H5 at *
  refine⟨_,Y,_,Y,_,Y,by show 3<=Bb;rw[bT];decide,λp hp=>?_⟩;have s6:=sN (o:=HO.tup [V.str "lay",V.int h,V.int r]) p hp;have fg:H gl=ao:=by
   cases z:H gl with
   |none=>rfl
   |some o=>rw[s2 _ _ z] at hgl;cases hgl
  exact⟨v,.ref p,Y,zcc (v5.ts (tI.of s6)) (YO (e:=.lay r) p ze λ_ z=>nomatch z),λH7 s7=>q1 H7 gl out Y (λb o z e=>s7 _ _ (s6 _ _ (k5 b o z e))) (s7 _ _ (s6 _ _ e5)) fg ((g5.same s6).same s7) gi⟩
 |false =>
  refine yh Y (Zb R2.ix Y Y ⟨x,ra,C,s,Y,R2,O.ok,I.ok.so,λH3 ha s3=>?_,λp q1 H3 ha s3 hq=>?_⟩)
  ·exact KA (K:=K) (h1.ts (tI.of (s2.trans s3))) (R2.same s3) O I j11 (ht.same (s2.trans s3)) tb (s3 _ _ (s2 _ _ hd)) (Bp.same (s2.trans s3)) he ho (.inl ⟨ha,Y⟩) λH' z k=>q2 H' z λb o y e=>k b o y (s3 _ _ (s2 _ _ e))
  ·exact KA (K:=K) (h1.ts (tI.of (s2.trans s3))) (R2.same s3) O I j11 (ht.same (s2.trans s3)) tb (s3 _ _ (s2 _ _ hd)) (Bp.same (s2.trans s3)) he ho (.inr ⟨p,q1,ha,Y,hq⟩) λH' z k=>q2 H' z λb o y e=>k b o y (s3 _ _ (s2 _ _ e))
end
section
variable {h r f m:Int}{v:V}{e:Ev}{a qa:ac}
theorem zdM(ha:H a=aa (.tup (.str (evW e)::.int h::evX qa e)))(e2:(evX qa e)[0]?=aa (.int r))(b1:0<=r-f)(b2:r-f<m)(ln:(evX qa e).length+2=if V.str (evW e)=.str "again" then 6 else 3)(q:∀H',aP H H'->Q (.bl ah) H') :
  vp K t (sJ Q) [aa (.ref a),aa (.int h),aa (.int m),aa (.int f)] H:=by
 have ix:tL (V.str (evW e)::V.int h::evX qa e) 2=aa (.int r):=yd (j:=2) e2;refine⟨_,Y,a,_,2,_,Y,Y,sI.of ha,ix,_,Y,_,_,Y,Y,_,_,Y,Y,_,Y,yJ (Bj b1) ⟨_,Y,_,_,Y,Y,_,Y,yJ (Bj b2) ?_⟩⟩;refine⟨_,Y,.ref a,(evX qa e).length+2,Y,.inr ⟨_,sI.of ha,Y⟩,by show 2<=Bb;rw[bT];decide,λl hl=>?_⟩;generalize c_:upd H l _=H2;obtain⟨s2,e2⟩:=xk c_ hl;refine⟨_,Y,a,_,0,.str (evW e),Y,Y,sI.of (s2 _ _ ha),yd (j:=0) Y,Y,_,Y,?_⟩;by_cases c:V.str (evW e)=.str "again"
 ·rw[au c] at ln;rw[Bj c];exact⟨l,_,1,.int 6,Y,Y,aY.of e2,Y,Y,by rw[ln];exact Kz (q _ s2)⟩
 ·rw[ap c] at ln;rw[Bk c];exact⟨l,_,0,.int 3,Y,Y,aY.of e2,Y,Y,by rw[ln];exact Kz (q _ s2)⟩
theorem WC(F:KF K)(ha:H a=aa (.tup (.str (evW e)::.int h::evX qa e)))(e2:(evX qa e)[0]?=aa (.int r))(b1:0<=r-f)(b2:r-f<m)(ln:(evX qa e).length+2=if V.str (evW e)=.str "again" then 6 else 3)(nr:V.str (evW e)≠.str "rest")(q:∀H',aP H H'->Q (.bl ah) H') :
  vt K t (sJ Q) [aa (.ref a),aa (.int h),aa (.int m),aa (.int f)] H:=by
 have ix:tL (V.str (evW e)::V.int h::evX qa e) 2=aa (.int r):=yd (j:=2) e2;have l1:=(bn.mp e2).1;refine⟨_,Y,a,_,0,.str (evW e),Y,Y,sI.of ha,yd (j:=0) Y,Y,_,Y,yh (Bk nr) ?_⟩;unfold vq zj zF tOr jZ;refine⟨_,Y,.ref a,(evX qa e).length+2,Y,.inr ⟨_,sI.of ha,Y⟩,_,_,Y,Y,_,Y,yh (Bk ()) ?_⟩;refine⟨_,Y,a,_,2,_,Y,Y,sI.of ha,ix,_,.ty "int",_,_,Y,.int _,⟨"int",Y,xA _⟩,ah,Y,yh Y ?_⟩;refine⟨_,Y,a,_,2,_,Y,Y,sI.of ha,ix,_,.ty "bool",_,_,Y,.int _,⟨"bool",Y,F.i_b⟩,aq,Y,yh Y ?_⟩;exact zdM (t:=t) ha e2 b1 b2 ln q
theorem Yq{vs:List V}{_E:XK}(F:KF K)(h:xJ vs H Q _E) :
  xN K t (sJ Q) (L2.start ["row","hand","added","first"] vs) H:=by
 obtain⟨v,h,f,m,e,rfl,h1,he,q⟩:=h;obtain⟨a,qa,rfl,ha,_⟩:=h1;have ln:¬ ((2+(evX qa e).length:Nat):Int)<2:=by lia
 unfold xN zj zF tOr jZ;refine Z2 Y (.tup ha) (xA _) (yh Y ?_);refine⟨_,Y,.ref a,2+(evX qa e).length,Y,.inr ⟨_,sI.of ha,by simp;lia⟩,_,_,Y,Y,_,Y,yh (Bk ln) ?_⟩;refine⟨_,Y,a,_,0,.str (evW e),Y,Y,sI.of ha,yd (j:=0) Y,_,.ty "str",_,_,Y,.str _,⟨"str",Y,xA _⟩,ah,Y,yh Y ?_⟩;unfold vx zj zF tOr jZ;refine⟨_,Y,a,_,0,.str (evW e),Y,Y,sI.of ha,yd (j:=0) Y,by show 4<=Bb;rw[bT];decide,λp hp=>?_⟩;generalize c_:upd H p _=H1;obtain⟨s1,e1⟩:=xk c_ hp;refine⟨p,_,Y,.inr (sI.of e1),Y,Y,_,Y,yh (by cases e <;> first|exact he.elim|(simp only[evW];decide)) ?_⟩;refine⟨_,Y,a,_,1,_,Y,Y,sI.of (s1 _ _ ha),yd (j:=1) Y,_,Y,.int h,.int h,Y,.int _,λH2 s2=>⟨_,Y,yh Y ?_⟩⟩;have S:=s1.trans s2;have ha:=S _ _ ha;have q:=λH' s'=>q H' (S.trans s');cases e with
 |rest=>exact⟨_,Y,a,_,0,_,Y,Y,sI.of ha,yd (j:=0) Y,Y,_,Y,yJ (Bj Y) ⟨_,Y,.ref a,2,Y,.inr ⟨_,sI.of ha,Y⟩,Y,Kz (q _ (aP.refl _))⟩⟩
 |take r=>exact WC F (e:=.take r) (qa:=qa) ha Y he.1 he.2 Y (by simp only[evW];decide) q
 |settle r=>exact WC F (e:=.settle r) (qa:=qa) ha Y he.1 he.2 Y (by simp only[evW];decide) q
 |again r p o n=>exact WC F (e:=.again r p o n) (qa:=qa) ha Y he.1 he.2 Y (by simp only[evW];decide) q
 |_=>exact he.elim
end
section
variable {H':B}{lw lw':ac->Nat}{tl ll rl kl al x b gl:ac}{ra:RAd}{C:List Cs}{CC:List (List Cs)}{s s':sy}{j k i N m:Nat}{g gi:List aW}{kv:List (bv×V)}{rs:List Int}{ls:List (Int×List aW)}{h r f n:Int}{v:V}{e:Ev}{hl hl2:List (Int×Int×Nat×sy)}{S S2:DS}{M:Nat->Prop}{o o':HO}{β:Type}
theorem zcd(e:H b=aa o)(z:lw b=N)(nt:∀zs,o≠.tup zs):Fr (λl=>l≠N) H (upd H b o') lw lw:=⟨λ_ _ _=>rfl,λc u y w=>by rw[zh (λx=>y (by rw[x];exact z))];exact w,jA e nt,Xc⟩
theorem LdR.fr(Bp:LdR H lw kv rs ls)(F:Fr M H H' lw lw')(hM:M 5):LdR H' lw' kv rs ls:={ Bp with vv:=λy hy=>let ⟨gl,a,⟨xs,b,c⟩,d⟩:=Bp.vv y hy;⟨gl,a,⟨xs,F.kp _ _ (by rw[d];exact hM) b,jx F.ts c⟩,(F.ex _ _ b).trans d⟩ }
theorem RuAt.fr(R:RuAt t H lw f CC hl i v)(F:Fr M H H' lw lw')(hM:M (20+i)):RuAt t H' lw' f CC hl i v:=by
 rcases R with z|⟨x,ra,r,j,s,C,e,m,c,R,l⟩
 ·exact .inl z
 ·obtain⟨R',l'⟩:=R.fr l F hM;exact .inr ⟨x,ra,r,j,s,C,e,m,c,R',l'⟩
theorem RuAt.mv(R:RuAt t H lw f CC hl i v)(z:∀b,((i:Int),b)∈hl2↔((i:Int),b)∈hl):RuAt t H lw f CC hl2 i v:=by
 rcases R with ⟨e,y⟩|⟨x,ra,r,j,s,C,e,m,c⟩
 ·refine .inl ⟨e,λw=>y ?_⟩;obtain⟨⟨_,b⟩,hb,rfl⟩:=bD.mp w;exact bu (f:=(·.1)) ((z b).mp hb)
 ·exact .inr ⟨x,ra,r,j,s,C,e,(z _).mpr m,c⟩
theorem sY.of(A:sY t H lw rl kl ll n f CC hl ls)(k:∀b o,lw b≠0->H b=aa o->H' b=aa o)(ts:tI H H')(ae:∀b o,H b=aa o->∃o',H' b=aa o'):sY t H' lw rl kl ll n f CC hl ls:=by
 have F:Fr (λl=>l≠0) H H' lw lw:=⟨λ_ _ _=>rfl,k,ts,ae⟩;obtain⟨⟨us,a1,a2,a3⟩,⟨ks,b1,b2⟩,⟨kv,rs,c1,c2⟩,l1,l2,l3,ow⟩:=A;exact⟨⟨us,k _ _ (by rw[l1];decide) a1,a2,λh v e=>(a3 h v e).fr F ()⟩,⟨ks,k _ _ (by rw[l2];decide) b1,b2⟩,⟨kv,rs,k _ _ (by rw[l3];decide) c1,c2.fr F ()⟩,l1,l2,l3,λb z=>let ⟨o,e⟩:=ow b z;ae b o e⟩
theorem zfN{l:List (Int×β)}{a:Int}(n:a≠h):(a,y)∈Yk l h c↔(a,y)∈l:=by
 unfold Yk;rw[bD];constructor
 ·rintro⟨⟨a',y'⟩,m,e⟩;by_cases z:a'=h
  ·rw[au z] at e;exact absurd (congrArg (·.1) e).symm n
  ·rw[ap z] at e;rw[<-e];exact m
 ·exact λm=>⟨_,m,ap n⟩
theorem zgZ{l:List (Int×β)}(m:(h,y)∈l):(h,c)∈Yk l h c:=bD.mpr ⟨_,m,au Y⟩
theorem LdR.put(Bp:LdR H lw kv rs ls)(hg:sR H gl gi)(l5:lw gl=5)(tb:TbK gi)(hb:∀y∈wQ ls r gi,f<=y.1/\y.1<f+m)(f0:0<=f)(hm:m<=5):∃rs',LdR H lw (ye kv (.inl r) (.ref gl)) rs' (wQ ls r gi):=by
 have mem:∀y,y∈wQ ls r gi↔(y∈ls/\y.1≠r)\/y=(r,gi):=λy=>by
  unfold wQ;rw[bC,cC,decide_eq_true_eq,bt]
 obtain⟨rs',e1,e2,e3⟩:∃rs':List Int,(ye kv (.inl r) (.ref gl)).map (·.1)=rs'.map gb/\rs'.Nodup/\∀a,a∈rs'↔a∈rs\/a=r:=by
  by_cases c:r∈rs
  ·refine⟨rs,?_,Bp.nd,λa=>⟨.inl,λz=>z.elim id λz=>z ▸ c⟩⟩;unfold ye;have an:(kv.any λkv=>decide (kv.1=.inl r))=ah:=by
    have:(.inl r:bv)∈kv.map (·.1):=by rw[Bp.ks];exact bu c
    obtain⟨y,hy,ey⟩:=bD.mp this;exact gS.mpr ⟨y,hy,Bj ey⟩
   rw[au an,dE,<-Bp.ks];refine dO λy _=>?_;show (if y.1=(.inl r:bv) then (y.1,V.ref gl) else y).1=y.1;split <;> rfl
  ·refine⟨rs++[r],?_,du.mpr ⟨Bp.nd,ca.mpr ⟨dH,cI⟩,λa ha b hb=>by rw[bt.mp hb];exact λz=>c (z ▸ ha)⟩,λa=>by rw[bC,bt]⟩;rw[vb _ (V2 (by rw[Bp.ks];intro z;obtain⟨y,hy,ey⟩:=bD.mp z;cases ey;exact c hy)),bS,Bp.ks,bS];rfl
 have mm:∀a,a∈rs'↔a∈(wQ ls r gi).map (·.1):=λa=>by
  rw[e3,Bp.mm];constructor
  ·intro z;by_cases c:a=r
   ·exact bD.mpr ⟨(r,gi),(mem _).mpr (.inr Y),c.symm⟩
   ·obtain⟨y,hy,ey⟩:=bD.mp (z.resolve_right c);exact bD.mpr ⟨y,(mem _).mpr (.inl ⟨hy,by rw[ey];exact c⟩),ey⟩
  ·intro z;obtain⟨y,hy,rfl⟩:=bD.mp z;rcases(mem y).mp hy with ⟨a,_⟩|rfl
   ·exact .inl (bu (f:=(·.1)) a)
   ·exact .inr rfl
 have le:=xR (b:=vU f 0 m) e2 λa ha=>by
  obtain⟨y,hy,rfl⟩:=bD.mp ((mm a).mp ha);have:=hb y hy;exact rks_mem.mpr ⟨(y.1-f).toNat,(),(),()⟩
 unfold vU at le;rw[bg,fN] at le;refine⟨rs',e1,e2,mm,λy hy=>?_,?_,λy hy=>?_,λy hy=>by have:=hb y hy;lia,()⟩
 ·rw[Xp];rcases(mem y).mp hy with ⟨a,b⟩|rfl
  ·rw[ap (λz=>b (lJ z))];exact Bp.vv y a
  ·exact⟨gl,au Y,hg,l5⟩
 ·unfold wQ;rw[bS,du];refine⟨Bp.nl.sublist (gU _ dF),ca.mpr ⟨dH,cI⟩,λa ha b hb=>?_⟩;obtain⟨y,hy,rfl⟩:=bD.mp ha;rw[bt.mp hb];exact of_decide_eq_true (cC.mp hy).2
 ·rcases(mem y).mp hy with ⟨a,_⟩|rfl
  ·exact Bp.tk y a
  ·exact tb
theorem zg0(mv:Mv f g CC S h e S2)(hm:(h,r,j,s)∈S.hl)(nd:(S.hl.map (·.1)).Nodup)(hC:CC[(r-f).toNat]?=aa C):HlE C s g S.ls r e/\(WR e=aq->S2.hl=Yk S.hl h (r,j+1,yY C (hlW e) s)/\S2.ls=S.ls)/\(WR e=ah->∃gi,Za s gi/\S2.hl=zV S.hl h/\S2.ls=wQ S.ls r gi):=by
 have no:h ∉ S.hl.map (·.1)->False:=λz=>z (bu (f:=(·.1)) hm);cases mv with
 |step m c o a=>cases QH nd hm m rfl;cases bL (hC.symm.trans c);exact⟨⟨Y,o,a⟩,λ_=>⟨Y,Y⟩,λz=>nomatch z⟩
 |read m c o a=>cases QH nd hm m rfl;cases bL (hC.symm.trans c);exact⟨⟨Y,o,a,Y⟩,λ_=>⟨Y,Y⟩,λz=>nomatch z⟩
 |lay m c o gi=>cases QH nd hm m rfl;cases bL (hC.symm.trans c);exact⟨⟨Y,o⟩,(),λ_=>⟨_,gi,Y,Y⟩⟩
 |settle _ z=>exact(no z).elim
 |again _ _ _ _ _ z=>exact(no z).elim
 |take _ z=>exact(no z).elim
 |rest _ _ z=>exact(no z).elim
theorem zg1(mv:Mv f g CC S h e S2)(ok:sA n f g CC S)(no:h ∉ S.hl.map (·.1)):FrE f CC.length e/\S2.ls=S.ls/\((∃r,e=.take r/\S2.hl=S.hl++[(h,r,0,st0)])\/((∀r,e≠.take r)/\S2.hl=S.hl)):=by
 have rg:∀r,(∃j:Nat,r=f+j/\S.en<=j/\j<CC.length)->0<=r-f/\r-f<CC.length:=λr ⟨j,e,_,l⟩=>by lia
 cases mv with
 |step m=>exact(no (bu (f:=(·.1)) m)).elim
 |read m=>exact(no (bu (f:=(·.1)) m)).elim
 |lay m=>exact(no (bu (f:=(·.1)) m)).elim
 |settle m=>exact⟨rg _ (ok.rl (bu (f:=(·.1)) m)),Y,.inr ⟨(),Y⟩⟩
 |again m=>exact⟨rg _ (ok.rl (bu (f:=(·.1)) m)),Y,.inr ⟨(),Y⟩⟩
 |take m=>exact⟨rg _ (ok.rw_ m),Y,.inl ⟨_,Y,Y⟩⟩
 |rest=>exact⟨trivial,Y,.inr ⟨(),Y⟩⟩
end
section
variable {H':B}{lw lw':ac->Nat}{tl ll rl kl al x b gl:ac}{ra:RAd}{C:List Cs}{CC:List (List Cs)}{s s':sy}{j k:Nat}{g gi:List aW}{kv:List (bv×V)}{rs:List Int}{ls:List (Int×List aW)}{h r f n:Int}{v:V}{e:Ev}{hl hl2:List (Int×Int×Nat×sy)}{S S2:DS}{X:St->B->Prop}{us cvs:List V}
theorem zii(h:HlE C s g ls r e):WR e=yf C s:=by
 cases e with
 |lay r'=>exact h.2.symm
 |step r'=>exact h.2.1.symm
 |read r' p w=>exact h.2.1.symm
 |_=>exact h.elim
theorem QJ(h:k<m):ixN m (k:Int)=aa k:=by
 unfold ixN;simp;lia
theorem zdN(ev:tu H v ((k:Int),e))(ht:sR H tl g)(tb:TbK g)(l0:lw tl=0)(A:sY t H lw rl kl ll n f CC S.hl S.ls)(ok:sA n f g CC S)(hk:(k:Int)<n)(n8:n<=8)(mv:Mv f g CC S k e S2)(hr:H rl=aa (.lst us))(ul:(us.length:Int)=n)(a3:∀(h:Nat) v,us[h]?=aa v->RuAt t H lw f CC S.hl h v)(hv:us[k]?=aa (.ref x))(hm:((k:Int),r,j,s)∈S.hl)(hC:CC[(r-f).toNat]?=aa C)(R:hV t H x ra C s)(l20:∀b,OwA x ra b->lw b=20+k)(q:∀H' lw',Fr N0 H H' lw lw'->sY t H' lw' rl kl ll n f CC S2.hl S2.ls->Q (.bl ah) H') :
  vz K t { nx:=X,rt:=Q } [aa v,aa (.int k),aa (.ref al),aa (.int f),aa (.ref rl),aa (.ref kl),aa (.ref tl),aa (.ref ll),ao] H:=by
 obtain⟨C',ec',I,j11⟩:=ok.rn _ hm;obtain rfl:C'=C:=bL (ec'.symm.trans hC);obtain⟨O,_⟩:=ok.cc.ok C' (bV hC);obtain⟨hE,st,ly⟩:=zg0 mv hm ok.hn hC;obtain⟨ks,hk1,kn,kk⟩:=A.kk;obtain⟨kv,rs,hd,Bp⟩:=A.dd;have ek:ks[k]?=aa r:=kk _ hm;have ok2:=Mv.ok ok mv () hk;have fin:∀H3,Fr (λl=>l≠1) H H3 lw lw->(WR e=ah->H3 rl=aa (.lst (us.set k .non)))->(WR e=aq->aP H H3)->zA (zG (y6 t) [] E0 (Z (U 0) (Z (U 1) (Z (aQ (yA K) (U 5) (U 1)) (Z (U 8) (Z (U 6) (Z (U 7) zf))))))) { nx:=X,rt:=Q } [aa v,aa (.int k),aa (.ref al),aa (.int f),aa (.ref rl),aa (.ref kl),aa (.ref tl),aa (.ref ll),aa (.ref x)] H3:=λH3 F3 e3 s3=>by
  have R3:=(R.fr l20 F3 ()).1;have hd3:=F3.kp _ _ (by rw[A.l3];decide) hd;have hk3:=F3.kp _ _ (by rw[A.l2];decide) hk1;have ht3:sR H3 tl g:=let ⟨xs,a,b⟩:=ht;⟨xs,F3.kp _ _ (by rw[l0];decide) a,jx F3.ts b⟩
  refine⟨_,Y,_,Y,_,Y,_,Y,kl,_,k,.int r,Y,Y,aY.of hk3,yd (by rw[bB,ek];rfl),_,Y,_,Y,_,Y,v,k,r,x,tl,ll,ra,C',s,j,e,g,kv,rs,S.ls,lw,Y,ev.ts F3.ts,R3,O,I,j11,ht3,tb,hd3,Bp.fr F3 (),hE,λH4 gl gi il k4 e4 hgl hg4 gi4=>?_,λH4 il k4 R4=>?_⟩
  ·obtain⟨gi',hgi,eh,els⟩:=ly il;obtain rfl:=zgI hgi gi4;have ng:∀b o,H b=aa o->b≠gl:=λb o z y=>by
    obtain⟨o',w⟩:=F3.al b o z;rw[y,hgl] at w;cases w
   have nl:rl≠ll:=λz=>by have:=A.l1;rw[z,A.l3] at this;cases this
   have F:Fr (λl=>l≠1/\l≠3) H H4 lw (λb=>if b=gl then 5 else lw b):=⟨λb o e=>ap (ng b o e),λb o z e=>k4 b o (λy=>z.2 (by rw[y];exact A.l3)) (F3.kp b o z.1 e),λb zs e=>k4 b _ (λy=>by have:=F3.ts _ _ e;rw[y,hd3] at this;cases this) (F3.ts _ _ e),λb o e=>by
    by_cases y:b=ll
    ·rw[y];exact⟨_,e4⟩
    ·obtain⟨o',z⟩:=F3.al b o e;exact⟨o',k4 b o' y z⟩⟩
   obtain⟨rs',L'⟩:=LdR.put (f:=f) (m:=CC.length) (Bp.fr F ()) hg4 (au Y) ⟨zfE gi4,ziG I gi4⟩ (by rw[<-els];exact ok2.ly) ok.f0 ok.cc.le;refine q H4 _ (F.mono λl z=>by unfold N0 at z;lia) ⟨⟨us.set k .non,k4 _ _ nl (e3 il),by rw[lV];exact ul,λi v hv=>?_⟩,⟨ks,F.kp _ _ (by rw[A.l2];decide) hk1,kn,λe m=>kk e (sE.mp (by rw[<-eh];exact m)).1⟩,⟨_,rs',e4,by rw[els];exact L'⟩,(F.ex _ _ hr).trans A.l1,(F.ex _ _ hk1).trans A.l2,(F.ex _ _ hd).trans A.l3,λb z=>?_⟩
   ·rw[eh];by_cases c:i=k
    ·subst c;rw[fc ()] at hv;cases hv;refine .inl ⟨Y,λz=>?_⟩;obtain⟨y,hy,ey⟩:=bD.mp z;exact(sE.mp hy).2 ey
    ·rw[fE (eP c)] at hv;exact((a3 i v hv).fr F ()).mv λb=>⟨λz=>(sE.mp z).1,λz=>sE.mpr ⟨z,by show (i:Int)≠k;lia⟩⟩
   ·by_cases c:b=gl
    ·obtain⟨xs,a,_⟩:=hg4;rw[c];exact⟨_,a⟩
    ·rw[ap c] at z;obtain⟨o,y⟩:=A.ow b z;exact F.al b o y
  ·obtain⟨eh,els⟩:=st il;have F:Fr (λl=>l≠20+k) H H4 lw lw:=(Fr.same (s3 il)).trans (zcX R3 R4 l20 k4);refine q H4 _ (F.mono λl z=>by unfold N0 at z;lia) ⟨⟨us,F.kp _ _ (by rw[A.l1];lia) hr,ul,λi v hv'=>?_⟩,⟨ks,F.kp _ _ (by rw[A.l2];lia) hk1,kn,λe m=>?_⟩,⟨kv,rs,F.kp _ _ (by rw[A.l3];lia) hd,by rw[els];exact Bp.fr F ()⟩,A.l1,A.l2,A.l3,λb z=>let ⟨o,y⟩:=A.ow b z;F.al b o y⟩
   ·rw[eh];by_cases c:i=k
    ·subst c;cases bL (hv'.symm.trans hv);exact .inr ⟨x,ra,r,j+1,_,C',Y,zgZ hm,hC,R4,l20⟩
    ·exact((a3 i v hv').fr F ()).mv λb=>zfN ()
   ·rw[eh] at m;obtain⟨e',m',rfl⟩:=bD.mp m;by_cases c:e'.1=k
    ·rw[au c];exact ek
    ·rw[ap c];exact kk _ m'
 refine⟨_,Y,_,Y,rl,us,k,.ref x,Y,Y,aY.of hr,yd hv,?_⟩;refine Zb R.ix Y Y ⟨x,ra,C',s,Y,R,λH2 s2=>⟨_,Y,?_⟩⟩;rw[zii hE] at fin;cases ho:yf C' s with
 |true =>
  refine yJ Y ⟨_,Y,_,Y,rl,us,k,k,Y,Y,s2 _ _ hr,QJ (),⟨(),()⟩,?_⟩;exact fin _ ((Fr.same s2).trans (zcd (s2 _ _ hr) A.l1 λ_ z=>nomatch z)) (λ_=>ze) (by rw[ho];exact λz=>nomatch z)
 |false=>exact yh Y (fin H2 (Fr.same s2) (by rw[ho];exact λz=>nomatch z) λ_=>s2)
theorem zdO(ev:tu H v ((k:Int),.take r))(ha:H al=aa (.lst cvs))(pc:Paired (tW H) cvs CC)(A:sY t H lw rl kl ll n f CC S.hl S.ls)(ok:sA n f g CC S)(hk:(k:Int)<n)(n8:n<=8)(no:(k:Int) ∉ S.hl.map (·.1))(b1:0<=r-f)(b2:r-f<CC.length)(q:∀H' lw',Fr N0 H H' lw lw'->sY t H' lw' rl kl ll n f CC (S.hl++[((k:Int),r,0,st0)]) S.ls->X [aa v,aa (.int k),aa (.ref al),aa (.int f),aa (.ref rl),aa (.ref kl),aa (.ref tl),aa (.ref ll),ao] H') :
  vy K t { nx:=X,rt:=Q } [aa v,aa (.int k),aa (.ref al),aa (.int f),aa (.ref rl),aa (.ref kl),aa (.ref tl),aa (.ref ll),ao] H:=by
 obtain⟨a,qa,rfl,hv,_⟩:=ev;have hv:H a=aa (.tup [.str "take",.int k,.int r]):=hv;obtain⟨us,hr,ul,a3⟩:=A.rr;obtain⟨ks,hk1,kn,kk⟩:=A.kk;obtain⟨kv,rs,hd,Bp⟩:=A.dd;obtain⟨w,hw⟩:∃w,cvs[(r-f).toNat]?=aa w:=⟨_,bc (by rw[bN pc];lia)⟩;obtain⟨C,hC,c,ys,rfl,hc,pcs⟩:=Paired.getP pc hw;refine⟨_,Y,_,Y,a,_,2,.int r,Y,Y,sI.of hv,Y,_,Y,_,_,Y,Y,al,cvs,(r-f).toNat,_,Y,congrArg V.int (),aY.of ha,yd hw,?_⟩;intro x dx hx hdx n';have s4:aP H (upd (upd H dx (HO.own x)) x (HO.ins t.q00 dx [])):=λb o e=>by rw[zh (zo e hx),zh (zo e hdx)];exact e
 refine⟨x,c,dx,ys,C,Y,ze,s4 _ _ hc,xo s4 pcs,λH5 ra k5 R5 fr5=>?_⟩;obtain⟨s5,ow⟩:=zfs (aP.refl H) hx hdx k5 fr5;have hr5:=s5 _ _ hr;have nk:rl≠kl:=λz=>by have:=A.l1;rw[z,A.l2] at this;cases this
 refine⟨Y,_,Y,_,Y,rl,us,k,k,Y,Y,hr5,QJ (),⟨(),()⟩,?_⟩;have e6:upd H5 rl (.lst (us.set k (.ref x))) rl=aa (.lst (us.set k (.ref x))):=ze;have F6:Fr (λl=>l≠1) H5 (upd H5 rl (.lst (us.set k (.ref x)))) lw lw:=zcd hr5 A.l1 λ_ z=>nomatch z
 generalize upd H5 rl (.lst (us.set k (.ref x)))=H6 at *
 have hk6:=F6.kp _ _ (by rw[A.l2];decide) (s5 _ _ hk1);refine⟨_,Y,a,_,2,.int r,Y,Y,sI.of (F6.ts _ _ (s5 _ _ hv)),Y,_,Y,_,Y,kl,_,k,k,Y,Y,hk6,QJ (by rw[bg];lia),⟨(),()⟩,?_⟩;have F7:Fr (λl=>l≠2) H6 (upd H6 kl (.lst ((ks.map V.int).set k (.int r)))) lw lw:=zcd hk6 A.l2 λ_ z=>nomatch z
 have e7:upd H6 kl (.lst ((ks.map V.int).set k (.int r))) kl=aa (.lst ((ks.set k r).map V.int)):=by rw[List.map_set];exact ze
 generalize upd H6 kl (.lst ((ks.map V.int).set k (.int r)))=H7 at *
 open Classical in
 have F:Fr (λl=>l≠1/\l≠2) H H7 lw (λb=>if OwA x ra b then 20+k else lw b):=⟨λb o e=>ap (λz=>by rw[ow b z] at e;cases e),λb o z e=>F7.kp b o z.2 (F6.kp b o z.1 (s5 _ _ e)),λb zs e=>F7.ts _ _ (F6.ts _ _ (s5 _ _ e)),λb o e=>let ⟨o',z⟩:=F6.al b o (s5 _ _ e);F7.al b o' z⟩;have lO:∀b,OwA x ra b->lw b=0:=λb z=>by
  cases c:decide (lw b=0) with
  |true=>exact of_decide_eq_true c
  |false =>
   obtain⟨o,e⟩:=A.ow b (of_decide_eq_false c);rw[ow b z] at e;cases e
 have R7:hV t H7 x ra C st0:=(((R5.fr lO F6 ()).1).fr lO F7 ()).1;refine q H7 _ (F.mono λl z=>by unfold N0 at z;lia) ⟨⟨us.set k (.ref x),F7.kp _ _ (by rw[A.l1];decide) e6,by rw[lV];exact ul,λi v hv=>?_⟩,⟨ks.set k r,e7,by rw[lV];exact kn,λe m=>?_⟩,⟨kv,rs,F.kp _ _ (by rw[A.l3];decide) hd,Bp.fr F ()⟩,(F.ex _ _ hr).trans A.l1,(F.ex _ _ hk1).trans A.l2,(F.ex _ _ hd).trans A.l3,λb z=>?_⟩
 ·by_cases c:i=k
  ·subst c;rw[fc ()] at hv;cases hv;exact .inr ⟨x,ra,r,0,st0,C,Y,bR _ (bt.mpr Y),hC,R7,λb z=>au z⟩
  ·rw[fE (eP c)] at hv;refine((a3 i v hv).fr F ()).mv λb=>⟨λz=>(bC.mp z).resolve_right λy=>c ?_,λz=>cM _ z⟩;have:=congrArg (·.1) (bt.mp y);have:(i:Int)=k:=this;lia
 ·rcases bC.mp m with m|m
  ·have ne:e.1.toNat≠k:=λz=>no (by
    have:=(ok.hr e m).1;rw[show (k:Int)=e.1 by lia];exact bu (f:=(·.1)) m)
   rw[fE (eP ne)];exact kk e m
  ·cases bt.mp m;exact fc (show k<ks.length by lia)
 ·by_cases c:OwA x ra b
  ·cases e:H7 b with
   |none=>exact absurd e (R7.has c)
   |some o=>exact⟨o,Y⟩
  ·rw[ap c] at z;obtain⟨o,y⟩:=A.ow b z;exact F.al b o y
theorem Yr{vs:List V}{_E:XK}(h:yH t vs H Q _E) :
  jv K t (sJ Q) (L2.start ["row","hand","codes","first","runs","ranks","table","laid","held"] vs) H:=by
 obtain⟨v,h,f,n,al,rl,kl,tl,ll,lw,cvs,g,CC,S,S2,e,rfl,h1,ha,pc,ht,tb,l0,A,ok,h0,hn,n8,mv,q⟩:=h;obtain⟨k,rfl⟩:=iy h0;obtain⟨us,hr,ul,a3⟩:=id A.rr;obtain⟨w,hw⟩:∃w,us[k]?=aa w:=⟨_,bc ()⟩;refine⟨_,Y,_,Y,rl,us,k,w,Y,Y,aY.of hr,yd hw,Y,_,Y,?_⟩;rcases a3 k w hw with ⟨rfl,no⟩|⟨x,ra,r,j,s,C,rfl,hm,hC,R,l20⟩
 ·obtain⟨fe,els,hh⟩:=zg1 mv ok no;rw[els] at q;have lc:=bN pc;refine yh Y ⟨_,Y,_,Y,_,Y,.ref al,cvs.length,Y,.inl ⟨_,aY.of ha,Y⟩,_,Y,v,k,f,cvs.length,e,Y,h1,by rw[lc];exact fe,λH2 s2=>⟨_,Y,yh Y ?_⟩⟩;have A2:sY t H2 lw rl kl ll n f CC S.hl S.ls:=A.of (λb o _ e=>s2 _ _ e) (tI.of s2) λb o e=>⟨o,s2 _ _ e⟩;have h2:=h1.ts (tI.of s2);obtain⟨a,qa,rfl,hv,_⟩:=id h2;refine⟨_,Y,a,_,0,.str (evW e),Y,Y,sI.of hv,yd (j:=0) Y,Y,_,Y,?_⟩;rcases hh with ⟨r,rfl,eh⟩|⟨ne,eh⟩
  ·rw[eh] at q;exact yJ (Bj Y) (zdO h2 (s2 _ _ ha) (Paired.mapP pc λ_ _ z=>let ⟨c,ys,e,hc,pc⟩:=z;⟨c,ys,e,s2 _ _ hc,xo s2 pc⟩) A2 ok hn n8 no fe.1 fe.2 λH' lw' F A'=>q H' lw' ((Fr.same s2).trans F) A')
  ·rw[eh] at q;refine yh (Bk λz=>?_) (q H2 lw (Fr.same s2) A2);cases e with
   |take r=>exact ne r rfl
   |_=>revert z;simp only[evW];decide
 ·exact yJ Y (zdN h1 ht tb l0 A ok hn n8 mv hr ul a3 hw hm hC R l20 q)
end
theorem ziK{te:TE}{qv:Nat->V}(hm:many<=1000)(h0:σ[k]?=aa (aa (.int (many:Nat))))(hte:∀(i:Nat) H' R,R (qv i) H'->te [aa (.int i)] H' R)(q:∀D H',aP H H'->H D=ao->H' D=aa (.lst ((dL many).map qv))->Q (.ref D) H'):kI (WF (Z (U k) zf)) (zm 0) Vy te 1 [] σ H Q:=by
 refine⟨_,h0,many,Y,(),(),λD hD=>?_⟩;refine⟨λi m ys τ H'=>m=many-i/\i<=many/\(∃o,τ=[o])/\aP H H'/\H' D=aa (.lst ys)/\ys=(dL i).map qv,⟨_,Y,bW _,⟨_,Y⟩,sN D hD,ze,Y⟩,?_⟩;rintro i m ys τ H1 ⟨rfl,hi,⟨o,rfl⟩,s1,hD1,rfl⟩;refine⟨hD1,?_⟩;rcases ib i many with c|c
 ·refine .inr ⟨by show i<(many:Int).toNat;lia,by rw[bg,fN,bT];lia,λv τ' H'=>v=qv i/\(∃o,τ'=[o])/\aP H1 H',λv τ' H' ⟨e,z,s⟩=>⟨s _ _ hD1,many-(i+1),(),Y,c,z,y9 (s1.trans s) hD,ze,by rw[r9,bS,e];rfl⟩,λ_ _=>False,λ_ _ z=>z.elim,?_⟩;rintro x H2 ⟨rfl,rfl⟩;rw[rC];exact yJ (R:=False) Y (hte i _ _ ⟨Y,⟨_,Y⟩,aP.refl _⟩)
 ·obtain rfl:i=many:=by lia
  exact .inl ⟨by show (i:Int).toNat<=i;lia,q D H1 s1 hD hD1⟩
theorem zfO{te:TE}{rest:TS}{qv:Nat->V}(hm:many<=1000)(h0:σ[k]?=aa (aa (.int (many:Nat))))(hte:∀(i:Nat) H' R,R (qv i) H'->te [aa (.int i)] H' R)(q:∀l H',aP H H'->H l=ao->H' l=aa (.lst ((dL many).map qv))->rest D (σ.set j (aa (.ref l))) H'):zj (zE (kI (WF (Z (U k) zf)) (zm 0) Vy te 1 []) (zm j)) rest D σ H:=by
 unfold zj zE;exact ziK hm h0 hte λl H' s n e=>q l H' s n e
def S0:DS:=⟨[],[],[],[],0⟩
structure LA where
 s:ac
 tl:ac
 cl:ac
 d:ac
 al:ac
 rl:ac
 kl:ac
 ll:ac
def σL(A:LA)(o1 o2:Option V)(n:Int)(o6:Option V)(f ea:Int)(o14 o15 o16 o17 o18:Option V):St:=[aa (.ref A.s),o1,o2,aa (.ref A.tl),aa (.ref A.cl),aa (.int n),o6,aa (.int f),aa (.ref A.d),aa (.int ea),aa (.ref A.al),aa (.ref A.rl),aa (.ref A.kl),aa (.ref A.ll),o14,o15,o16,o17,o18]
def Tr(n f:Int)(g:List aW)(CC:List (List Cs))(S:DS)(es:List He)(S':DS):Prop:=∃tr:Nat->DS,tr 0=S/\tr es.length=S'/\∀(i:Nat) (x:He),es[i]?=aa x->x.1=(i:Int)%n/\sA n f g CC (tr i)/\Mv f g CC (tr i) x.1 x.2 (tr (i+1))
structure zfP(H:B)(l:ac)(vs:List V)(CC:List (List Cs)):Prop where
 hx:H l=aa (.lst vs)
 px:Paired (tW H) vs CC
structure LwC(K:bw)(H:B)(A:LA)(ns:List Int)(g:List aW)(vs:List V)(CC:List (List Cs))(n:Int):Prop where
 hS:aY K H A.s (ns.map V.int)
 hn:ns.length<=63
 hc:zfP H A.cl vs CC
 cc:zgA CC
 ht:sR H A.tl g
 tb:TbK g
 n1:1<=n
 n8:n<=8
structure tD(t:mt)(H0:B)(Bn:List (ac×HO))(A:LA)(a:tP)(n f:Int)(g:List aW)(vs:List V)(CC:List (List Cs))(ad:Nat)(H:B)(lb lw:ac->Nat)(S T:DS):Prop where
 sm:aP H0 H
 z0:∀b o,H0 b=aa o->lb b=0/\lw b=0
 kz:∀y∈Bn,H y.1=aa y.2/\(lb y.1=0/\lw y.1=0)/\y.1≠A.al
 zl:∀b,lw b≠0->lb b=0
 ha:H A.al=aa (.lst (vs.take ad))
 la:lb A.al=0/\lw A.al=0
 hn:H0 A.al=ao
 dk:tF t H A.d a lb n f g (CC.take ad) S
 ok:sA n f g (CC.take ad) S
 lA:sY t H lw A.rl A.kl A.ll n f (CC.take ad) T.hl T.ls
 oT:sA n f g (CC.take ad) T
 al:ad<=CC.length
section
variable {H0 H':B}{lb lb' lw lw':ac->Nat}{Bn:List (ac×HO)}{A:LA}{a:tP}{CC CC2:List (List Cs)}{C:List Cs}{n f h:Int}{g:List aW}{S S' T T' S1 S2:DS}{v:V}{vs xs:List V}{es:List He}{e:Ev}{ad:Nat}{E:XK}{ns:List Int}{hl:List (Int×Int×Nat×sy)}{ls:List (Int×List aW)}{rl kl ll b:ac}{o:HO}
section
variable {N:Int}
theorem sA.add(ok:sA N f g CC S)(hC:Js C/\C.length<=11)(h5:CC.length<5):sA N f g (CC++[C]) (zdB f CC.length S):=by
 have ln:(CC++[C]).length=CC.length+1:=bE ..;have el:=ok.el;refine⟨ok.f0,⟨λC' h=>?_,()⟩,by show S.en<=_;lia,?_,?_,ok.hn,ok.hr,λe he=>?_,ok.nt,λy hy=>?_,ok.gw,ok.lw⟩
 ·rcases bC.mp h with h|h
  ·exact ok.cc.ok C' h
  ·rw[bt.mp h];exact hC
 ·show ((S.ws++[f+(CC.length:Int)])++_).Perm (vU f S.en _);rw[ln];have z:vU f S.en (CC.length+1)=vU f S.en CC.length++[f+(CC.length:Int)]:=by
   unfold vU;rw[show CC.length+1-S.en=CC.length-S.en+1 by lia,r9,bS];refine congrArg _ ?_;show [f+(S.en:Int)+((CC.length-S.en:Nat):Int)]=_;rw[show f+(S.en:Int)+((CC.length-S.en:Nat):Int)=f+CC.length by lia]
  rw[z,cU];refine ef ?_ (ok.pm.append_right _);rw[cU];exact .append_left _ ou
 ·refine gL.mpr ⟨ok.so,by simp,λx hx y hy=>?_⟩;obtain⟨j,rfl,_,jl⟩:=ok.rw_ hx;rw[bt.mp hy];lia
 ·obtain⟨C',h1,h2⟩:=ok.rn e he;exact⟨C',by rw[dq (bn.mp h1).1];exact h1,h2⟩
 ·have:=ok.ly y hy;lia
end
theorem tW.same(h:tW H v C)(k:aP H H'):tW H' v C:=let ⟨c,ys,e,hc,pc⟩:=h;⟨c,ys,e,k _ _ hc,xo k pc⟩
theorem Tr.nil:Tr n f g CC S [] S:=⟨λ_=>S,Y,Y,λi x z=>nomatch z⟩
theorem Tr.snoc(J:Tr n f g CC S es S1)(ok:sA n f g CC S1)(hh:h=(es.length:Int)%n)(mv:Mv f g CC S1 h e S2):Tr n f g CC S (es++[(h,e)]) S2:=by
 obtain⟨tr,e0,e1,k⟩:=J;refine⟨λi=>if i<=es.length then tr i else S2,(au (bW _)).trans e0,ap (by rw[bE];exact oH _),λi x hx=>?_⟩;dsimp only;rcases ib i es.length with c|c
 ·rw[dq c] at hx;rw[au (nU c),au (Nat.succ_le_of_lt c)];exact k i x hx
 ·rw[fh c] at hx;obtain rfl:i=es.length:=by
   have:=(bn.mp hx).1;rw[eJ] at this;lia
  rw[Nat.sub_self] at hx;cases hx;rw[au (bp _),ap (oH _),e1];exact⟨hh,ok,mv⟩
theorem tD.ln(I:tD t H0 Bn A a n f g vs CC ad H lb lw S T):(CC.take ad).length=ad:=by rw[cK];exact eL I.al
theorem tD.desk(I:tD t H0 Bn A a n f g vs CC ad H lb lw S T)(F:Fr M0 H H' lb lb')(G:tF t H' A.d a lb' n f g (CC.take ad) S')(ok:sA n f g (CC.take ad) S'):tD t H0 Bn A a n f g vs CC ad H' lb' lw S' T:=by
 have k:∀b o,lb b=0->H b=aa o->H' b=aa o/\lb' b=0:=λb o z e=>⟨F.kp b o (.inl z) e,(F.ex b o e).trans z⟩;exact⟨λb o e=>(k b o (I.z0 b o e).1 (I.sm b o e)).1,λb o e=>⟨(k b o (I.z0 b o e).1 (I.sm b o e)).2,(I.z0 b o e).2⟩,λy hy=>let ⟨a,b,c⟩:=I.kz y hy;let ⟨p,q⟩:=k _ _ b.1 a;⟨p,⟨q,b.2⟩,c⟩,λb z=>let ⟨o,e⟩:=I.lA.ow b z;(k b o (I.zl b z) e).2,(k _ _ I.la.1 I.ha).1,⟨(k _ _ I.la.1 I.ha).2,I.la.2⟩,I.hn,G,ok,I.lA.of (λb o z e=>(k b o (I.zl b z) e).1) F.ts F.al,I.oT,I.al⟩
theorem tD.same(I:tD t H0 Bn A a n f g vs CC ad H lb lw S T)(s:aP H H'):tD t H0 Bn A a n f g vs CC ad H' lb lw S T:=I.desk (Fr.same s) (I.dk.same s) I.ok
theorem tD.law(I:tD t H0 Bn A a n f g vs CC ad H lb lw S T)(F:Fr N0 H H' lw lw')(A':sY t H' lw' A.rl A.kl A.ll n f (CC.take ad) T'.hl T'.ls)(oT:sA n f g (CC.take ad) T'):tD t H0 Bn A a n f g vs CC ad H' lb lw' S T':=by
 have k:∀b o,lw b=0->H b=aa o->H' b=aa o/\lw' b=0:=λb o z e=>⟨F.kp b o z e,(F.ex b o e).trans z⟩;have nz:∀b,lb b≠0->lw b=0:=λb z=>mG λy=>z (I.zl b y);refine⟨λb o e=>(k b o (I.z0 b o e).2 (I.sm b o e)).1,λb o e=>⟨(I.z0 b o e).1,(k b o (I.z0 b o e).2 (I.sm b o e)).2⟩,λy hy=>let ⟨a,b,c⟩:=I.kz y hy;let ⟨p,q⟩:=k _ _ b.2 a;⟨p,⟨b.1,q⟩,c⟩,λb z=>?_,(k _ _ I.la.2 I.ha).1,⟨I.la.1,(k _ _ I.la.2 I.ha).2⟩,I.hn,I.dk.of (λb o z e=>(k b o (nz b z) e).1) F.ts F.al,I.ok,A',oT,I.al⟩;cases e:H b with
 |none=>exact I.dk.l0 e
 |some o=>exact I.zl b (by rw[<-F.ex b o e];exact z)
theorem sY.cc(Bp:sY t H lw rl kl ll n f CC hl ls)(k:∀(i:Nat) (C:List Cs),CC[i]?=aa C->CC2[i]?=aa C):sY t H lw rl kl ll n f CC2 hl ls:=by
 obtain⟨us,a1,a2,a3⟩:=Bp.rr;refine { Bp with rr:=⟨us,a1,a2,λi v e=>?_⟩ };rcases a3 i v e with z|⟨x,ra,r,j,s,C,e,m,c,R⟩
 ·exact .inl z
 ·exact .inr ⟨x,ra,r,j,s,C,e,m,k _ _ c,R⟩
theorem tD.add(I:tD t H0 Bn A a n f g vs CC ad H lb lw S S)(c:LwC K H0 A ns g vs CC n)(hv:vs[ad]?=aa v):∃C,tW (upd H A.al (.lst (vs.take ad++[v]))) v C/\tF t (upd H A.al (.lst (vs.take ad++[v]))) A.d a lb n f g (CC.take ad) S/\(CC.take ad).length<=10/\S.ws.length<=10/\∀H' lb',Fr M0 (upd H A.al (.lst (vs.take ad++[v]))) H' lb lb'->tF t H' A.d a lb' n f g (CC.take ad++[C]) (zdB f (CC.take ad).length S)->tD t H0 Bn A a n f g vs CC (ad+1) H' lb' lw (zdB f ad S) (zdB f ad S):=by
 obtain⟨C,hC,co⟩:=Paired.getP c.hc.px hv;have ln:=I.ln;have lt:=(bn.mp hC).1;have l5:=c.cc.le;have ll:=I.ok.len;have ts:tI H (upd H A.al (.lst (vs.take ad++[v]))):=jA I.ha λ_ z=>nomatch z
 have sm:aP H0 (upd H A.al (.lst (vs.take ad++[v]))):=y9 I.sm I.hn;have e1:upd H A.al (.lst (vs.take ad++[v])) A.al=aa (.lst (vs.take ad++[v])):=ze;have dk:=I.dk.put (ys:=vs.take ad++[v]) I.ha I.la.1;have lA:=I.lA.of (H':=upd H A.al (.lst (vs.take ad++[v]))) (λb o z e=>by rw[zh (λy=>z (by rw[y];exact I.la.2))];exact e) ts Xc;have kz:∀y∈Bn,upd H A.al (.lst (vs.take ad++[v])) y.1=aa y.2:=λy hy=>let ⟨a,b,c⟩:=I.kz y hy;by rw[zh c];exact a
 generalize upd H A.al (.lst (vs.take ad++[v]))=H1 at *
 refine⟨C,co.same sm,dk,(),(),λH' lb' F G=>?_⟩;have k:∀b o,lb b=0->H1 b=aa o->H' b=aa o/\lb' b=0:=λb o z e=>⟨F.kp b o (.inl z) e,(F.ex b o e).trans z⟩;have e:CC.take ad++[C]=CC.take (ad+1):=by rw[dt,hC];rfl
 have ev:vs.take ad++[v]=vs.take (ad+1):=by rw[dt,hv];rfl
 have ok:=I.ok.add (c.cc.ok C (bV hC)) ();rw[ln] at G ok;rw[e] at G ok;rw[ev] at e1;refine⟨λb o e=>(k b o (I.z0 b o e).1 (sm b o e)).1,λb o e=>⟨(k b o (I.z0 b o e).1 (sm b o e)).2,(I.z0 b o e).2⟩,λy hy=>let ⟨a,b,c⟩:=I.kz y hy;let ⟨p,q⟩:=k _ _ b.1 (kz y hy);⟨p,⟨q,b.2⟩,c⟩,λb z=>let ⟨o,e⟩:=lA.ow b z;(k b o (I.zl b z) e).2,(k _ _ I.la.1 e1).1,⟨(k _ _ I.la.1 e1).2,I.la.2⟩,I.hn,G,ok,(lA.of (λb o z e=>(k b o (I.zl b z) e).1) F.ts F.al).cc λi C' z=>?_,ok,lt⟩;rw[<-e,dq (bn.mp z).1];exact z
theorem tD.told(I:tD t H0 Bn A a n f g vs CC ad H lb lw S T)(c:LwC K H0 A ns g vs CC n)(ev:tu H v (h,e))(p0:0<=h)(pn:h<n)(mv:Mv f g (CC.take ad) T h e T')(q:∀H' lw',tI H H'->tD t H0 Bn A a n f g vs CC ad H' lb lw' S T'->Q (.bl ah) H'):yH t [v,.int h,.ref A.al,.int f,.ref A.rl,.ref A.kl,.ref A.tl,.ref A.ll] H Q E:=by
 obtain⟨xs,ht,_⟩:=id c.ht;exact⟨v,h,f,n,A.al,A.rl,A.kl,A.tl,A.ll,lw,vs.take ad,g,CC.take ad,T,T',e,Y,ev,I.ha,Paired.mapP (Paired.takeP ad c.hc.px) λ_ _ z=>z.same I.sm,c.ht.same I.sm,c.tb,(I.z0 _ _ ht).2,I.lA,I.oT,p0,pn,c.n8,mv,λH' lw' F A'=>q H' lw' F.ts (I.law F A' (Mv.ok I.oT mv p0 pn))⟩
theorem tD.keep(I:tD t H0 Bn A a n f g vs CC ad H lb lw S T)(h1:H b=aa o)(h2:lb b=0)(h3:lw b=0)(h4:b≠A.al):tD t H0 ((b,o)::Bn) A a n f g vs CC ad H lb lw S T:=by
 refine { I with kz:=λy hy=>?_ };rcases bF.mp hy with rfl|hy
 ·exact⟨h1,⟨h2,h3⟩,h4⟩
 ·exact I.kz y hy
theorem tD.out(I:tD t H0 Bn A a n f g vs CC ad H lb lw S T)(h:H b=ao):lb b=0/\lw b=0/\b≠A.al:=by
 refine⟨I.dk.l0 h,mG λz=>?_,λz=>?_⟩
 ·obtain⟨o,e⟩:=I.lA.ow b z;rw[h] at e;cases e
 ·rw[z,I.ha] at h;cases h
theorem tD.new(I:tD t H0 Bn A a n f g vs CC ad H lb lw S T)(h:H b=ao):tD t H0 ((b,o)::Bn) A a n f g vs CC ad (upd H b o) lb lw S T:=let ⟨x,y,z⟩:=I.out h;(I.same (sN b h)).keep ze x y z
end
section
variable {H0 H':B}{lb lb' lw lw':ac->Nat}{Bn:List (ac×HO)}{A:LA}{a:tP}{CC:List (List Cs)}{C:List Cs}{n f ea:Int}{g:List aW}{S S' T:DS}{v:V}{vs xs bs:List V}{es:List He}{ad:Nat}{ns:List Int}{b bq:ac}{D:W3}{o1 o2 o6 o14 o15 o16 o17 o18:Option V}
theorem zdP(I:tD t H0 Bn A a n f g vs CC CC.length H lb lw S T)(c:LwC K H0 A ns g vs CC n)(en:S.en=CC.length)(q:∀H',Q (.bl ah) H') :
  Ko K t (sJ Q) (σL A o1 o2 n o6 f ea o14 o15 o16 o17 o18) H:=by
 obtain⟨e1,cs',en',_,ee,_,le⟩:=I.dk.cmp;have lv:=bN c.hc.px;refine⟨_,Y,A.d,_,_,Y,e1,Y,A.d,_,a,n,f,en',Y,e1,ee,_,Y,_,Y,.ref A.cl,vs.length,Y,.inl ⟨_,aY.of (I.sm _ _ c.hc.hx),Y⟩,_,_,Y,Y,Y,?_⟩;rw[show f+(en'.length:Int)=f+(vs.length:Int) by lia];exact Kz (q _)
theorem zfQ(I:tD t H0 Bn A a n f g vs CC ad H lb lw S S)(c:LwC K H0 A ns g vs CC n)(q:∀H' lb' lw' S' o15 o18,tD t H0 Bn A a n f g vs CC ad H' lb' lw' S' S'->S'.en=ad->D.nx (σL A o1 o2 n o6 f ea o14 o15 o16 o17 o18) H') :
  zaT K t D (σL A o1 o2 n o6 f ea o14 o15 o16 o17 o18) H:=by
 obtain⟨e1,_⟩:=I.dk.cmp;have n1:=c.n1;refine⟨_,Y,A.d,_,_,Y,e1,Y,A.d,a,lb,n,f,g,CC.take ad,S,Tr n f g (CC.take ad) S,Y,I.dk,I.ok,c.n1,c.n8,Tr.nil,(λes S h e S' J ok hh mv=>J.snoc ok hh mv),λl xs es H2 lb2 S2 F2 l2 hn2 hl2 pd x10 ⟨tr,t0,t1,tk⟩ ok2 en G=>?_⟩;obtain⟨_,lz,la⟩:=I.out hn2;have I2:=(I.desk F2 G ok2).keep hl2 l2 lz la;rw[<-t0] at I2;refine⟨l,Y,⟨_,aY.of hl2⟩,yv xs (λi σ H3=>(∃o18,σ=σL A o1 o2 n o6 f ea o14 (aa (.int ((i:Int)%n))) o16 o17 o18)/\tI H2 H3/\∃lw3,tD t H0 ((l,.lst xs)::Bn) A a n f g vs CC ad H3 lb2 lw3 S2 (tr i)) ⟨⟨_,by rw[show ((0:Nat):Int)%n=0 from Int.zero_emod n];rfl⟩,tI.of (aP.refl _),lw,I2⟩ (λi σ H3 ⟨_,_,_,J⟩=>aY.of (J.kz _ bo).1) ?_ ?_⟩
 ·rintro i v σ H3 hi ⟨⟨o18,rfl⟩,ts,lw3,J⟩;obtain⟨⟨h,e⟩,he,ev⟩:=Paired.getP pd hi;obtain⟨hh,_,mv⟩:=tk i _ he;have hh:h=(i:Int)%n:=hh;subst hh;refine⟨_,Y,_,Y,_,Y,_,Y,_,Y,_,Y,_,Y,_,Y,?_⟩;dsimp only[zf];refine J.told (E:=E0) c (ev.ts ts) (cO _ ()) (cy _ ()) mv λH4 lw4 ts4 J4=>?_;refine⟨_,Y,yh Y ⟨_,Y,_,_,Y,Y,_,Y,_,_,Y,Y,by show (0:Int)<n;lia,⟨aa v,?_⟩,λb zs z=>ts4 _ _ (ts _ _ z),lw4,J4⟩⟩;rw[show ((i+1:Nat):Int)%n=((i:Int)%n+1)%n by rw[Int.emod_add_emod];rfl];rfl
 ·rintro σ H3 ⟨⟨o18,rfl⟩,ts,lw3,J⟩;rw[bN pd,t1] at J;exact q _ _ _ _ _ _ { J with kz:=λy hy=>J.kz y (bh _ hy) } (by rw[en,I.ln])
theorem zbm(I:tD t H0 Bn A a n f g vs CC ad H lb lw S S)(c:LwC K H0 A ns g vs CC n)(hb:(bq,.lst bs)∈Bn)(hv:∀(i:Nat) v,bs[i]?=aa v->vs[ad+i]?=aa v)(q:∀H' lb' lw' S' o15 o17 o18,tD t H0 Bn A a n f g vs CC (ad+bs.length) H' lb' lw' S' S'->S'.en=ad+bs.length->D.nx (σL A o1 o2 n o6 f ea o14 o15 (aa (.ref bq)) o17 o18) H') :
  zaV K t D (σL A o1 o2 n o6 f ea o14 o15 (aa (.ref bq)) o17 o18) H:=by
 refine⟨_,Y,bq,Y,⟨_,aY.of (I.kz _ hb).1⟩,yv bs (λi σ H2=>(∃o17,σ=σL A o1 o2 n o6 f ea o14 o15 (aa (.ref bq)) o17 o18)/\∃lb2 S2,tD t H0 Bn A a n f g vs CC (ad+i) H2 lb2 lw S2 S2) ⟨⟨_,Y⟩,lb,S,I⟩ (λi σ H2 ⟨_,_,_,J⟩=>aY.of (J.kz _ hb).1) ?_ ?_⟩
 ·rintro i v σ H2 hi ⟨⟨o17,rfl⟩,lb2,S2,J⟩;obtain⟨C,co,dk,b1,b2,b3⟩:=J.add c (hv i v hi);obtain⟨e1,_⟩:=dk.cmp;have:=c.cc.le;have:=J.al;exact⟨_,Y,.inl ⟨Y,_,aY.of J.ha⟩,_,Y,A.al,_,v,Y,Y,J.ha,bZ (show _<=10 by rw[cK];lia) (by rw[bT];decide),_,Y,A.d,_,_,Y,e1,Y,_,Y,A.d,v,a,lb2,n,f,g,_,C,S2,Y,co,dk,b1,b2,λH3 lb3 F3 G3=>⟨⟨_,Y⟩,lb3,_,b3 H3 lb3 F3 G3⟩⟩
 ·rintro σ H2 ⟨⟨o17,rfl⟩,lb2,S2,J⟩;exact zfQ J c λH' lb' lw' S' o15 o18=>q H' lb' lw' S' o15 o17 o18
theorem zdQ(I:tD t H0 [] A a n f g vs CC ad H lb lw S S)(c:LwC K H0 A ns g vs CC n)(q:∀H',Q (.bl ah) H') :
  Kq K t (sJ Q) (σL A o1 o2 n o6 f ea o14 o15 o16 o17 o18) H:=by
 have lv:=bN c.hc.px;have al:=I.al;have lt:(vs.take ad).length=ad:=by rw[cK];lia
 refine⟨(),λb0 h0=>?_⟩;have I0:=I.new (o:=.lst []) h0;generalize upd H b0 (.lst [])=H1 at *
 refine⟨_,Y,_,Y,.ref A.al,ad,Y,.inl ⟨_,aY.of I0.ha,lt.symm⟩,ad,Y,A.cl,vs,Y,aY.of (I0.sm _ _ c.hc.hx),λb1 h1=>?_⟩;have ec:Ze vs (aa (ad:Int)) ao=vs.drop ad:=by
  have e3:HT.sIx vs.length 0 (aa (ad:Int))=min ad vs.length:=HT.sIx_nat ..;have e8:HT.sIx vs.length vs.length ao=vs.length:=rfl;unfold Ze;rw[e3,e8,eL (),cP (by rw[cT];exact bp _)]
 rw[ec];have I1:=I0.new (o:=.lst (vs.drop ad)) h1;generalize upd H1 b1 (.lst (vs.drop ad))=H2 at *
 refine⟨by show 2<=Bb;rw[bT];decide,λz hz=>?_⟩;have I2:=I1.new (o:=.lst [.ref b0,.ref b1]) hz;generalize upd H2 z (.lst [.ref b0,.ref b1])=H3 at *
 refine⟨z,Y,⟨_,aY.of (I2.kz _ bo).1⟩,yv [.ref b0,.ref b1] (λi σ H4=>(∃o15 o16 o17 o18,σ=σL A o1 o2 n o6 f ea o14 o15 o16 o17 o18)/\∃lb4 lw4 S4,tD t H0 [(z,.lst [.ref b0,.ref b1]),(b1,.lst (vs.drop ad)),(b0,.lst [])] A a n f g vs CC (if i<2 then ad else CC.length) H4 lb4 lw4 S4 S4/\(i=2->S4.en=CC.length)) ⟨⟨_,_,_,_,Y⟩,lb,lw,S,I2,λz=>nomatch z⟩ (λi σ H4 ⟨_,_,_,_,J,_⟩=>aY.of (J.kz _ bo).1) ?_ ?_⟩
 ·rintro i v σ H4 hi ⟨⟨o15,o16,o17,o18,rfl⟩,lb4,lw4,S4,J,_⟩;rcases i with _|_|i
  ·cases hi;exact zbm (bq:=b0) (bs:=[]) J c (bh _ (bh _ bo)) (λi v z=>nomatch z) λH' lb' lw' S' o15 o17 o18 J' _=>⟨⟨_,_,_,_,Y⟩,lb',lw',S',J',λz=>nomatch z⟩
  ·cases hi;refine zbm (bq:=b1) (bs:=vs.drop ad) J c (bh _ bo) (λi v z=>by rw[<-pK];exact z) λH' lb' lw' S' o15 o17 o18 J' en=>?_;have el:ad+(vs.drop ad).length=CC.length:=by rw[cT];lia
   have J':tD t H0 _ A a n f g vs CC (ad+(vs.drop ad).length) H' lb' lw' S' S':=J';have en:S'.en=ad+(vs.drop ad).length:=en;rw[el] at J' en;exact⟨⟨_,_,_,_,Y⟩,lb',lw',S',J',λ_=>en⟩
  ·cases hi
 ·rintro σ H4 ⟨⟨o15,o16,o17,o18,rfl⟩,lb4,lw4,S4,J,en⟩;exact zdP J c (en Y) q
theorem Jh{cell:Int}(I:tD t H0 Bn A a n f g vs CC ad H lb lw S S)(c:LwC K H0 A ns g vs CC n)(q:∀H' lb' lw' S' o15,tD t H0 Bn A a n f g vs CC ad H' lb' lw' S' S'->D.nx (σL A o1 o2 n o6 f ea (aa (.int cell)) o15 o16 o17 o18) H') :
  zaU K t D (σL A o1 o2 n o6 f ea (aa (.int cell)) o15 o16 o17 o18) H:=by
 obtain⟨e1,_⟩:=I.dk.cmp;have n1:=c.n1;have p0:=cO (cell/7) (show n≠0 by lia);have pn:=cy (cell/7) (show 0<n by lia);refine⟨_,Y,_,_,Y,Y,dB,_,Y,_,_,Y,Y,by show (0:Int)<n;lia,_,Y,A.d,_,_,Y,e1,Y,_,Y,A.d,a,lb,n,f,cell/7%n,g,CC.take ad,S,Y,I.dk,I.ok,p0,pn,λv H2 lb2 e S2 F2 ev mv G=>?_⟩;have I2:=I.desk F2 G (Mv.ok I.ok mv p0 pn);refine⟨_,Y,_,Y,_,Y,_,Y,_,Y,_,Y,_,Y,?_⟩;dsimp only[zf];refine I2.told (E:=E0) c ev p0 pn mv λH3 lw3 _ I3=>?_;exact⟨_,Y,yh Y (q _ _ _ _ _ I3)⟩
theorem zdR(I:tD t H0 [] A a n f g vs CC 0 H lb lw S S)(c:LwC K H0 A ns g vs CC n)(he:ea<=CC.length)(q:∀H',Q (.bl ah) H') :
  Kr K t (sJ Q) (σL A o1 o2 n o6 f ea o14 o15 o16 o17 o18) H:=by
 have lv:=bN c.hc.px;refine⟨_,Y,A.s,Y,⟨_,c.hS.mono I.sm⟩,yv (ns.map V.int) (λi σ H2=>(∃o14 o15,σ=σL A o1 o2 n o6 f ea o14 o15 o16 o17 o18)/\∃ad lb lw S,tD t H0 [] A a n f g vs CC ad H2 lb lw S S) ⟨⟨_,_,Y⟩,0,lb,lw,S,I⟩ (λi σ H' ⟨_,_,_,_,_,J⟩=>c.hS.mono J.sm) ?_ ?_⟩
 ·rintro i u σ H2 hu ⟨⟨o14,o15,rfl⟩,ad,lb,lw,S,J⟩;rw[bB] at hu;obtain⟨cell,_,rfl⟩:=b8.mp hu;have lt:(vs.take ad).length=ad:=by rw[cK];have:=J.al;lia
  refine⟨_,Y,_,_,Y,Y,by show (0:Int)<7;decide,_,_,Y,Y,_,Y,?_⟩;by_cases c1:cell%7<2
  ·refine yJ (Bj c1) ⟨_,Y,.ref A.al,ad,Y,.inl ⟨_,aY.of J.ha,lt.symm⟩,_,Y,_,_,Y,Y,_,Y,?_⟩;by_cases c2:(ad:Int)<ea
   ·obtain⟨v,hv⟩:∃v,vs[ad]?=aa v:=⟨_,bc ()⟩;obtain⟨C,co,dk,b1,b2,b3⟩:=J.add c hv;obtain⟨e1,_⟩:=dk.cmp;have:=c.cc.le;exact yJ (Bj c2) ⟨_,Y,.inl ⟨Y,_,aY.of J.ha⟩,_,Y,_,Y,.ref A.al,ad,Y,.inl ⟨_,aY.of J.ha,lt.symm⟩,A.cl,vs,ad,v,Y,Y,aY.of (J.sm _ _ c.hc.hx),yd hv,A.al,_,v,Y,Y,J.ha,bZ (show _<=10 by lia) (by rw[bT];decide),_,Y,A.d,_,_,Y,e1,Y,_,Y,1,Y,A.al,_,-1,v,Y,Y,aY.of ze,L2.atI_last _ _,A.d,v,a,lb,n,f,g,_,C,S,Y,co,dk,b1,b2,λH3 lb3 F3 G3=>Jh (b3 H3 lb3 F3 G3) c λH' lb' lw' S' o15 J'=>⟨⟨_,_,Y⟩,ad+1,lb',lw',S',J'⟩⟩
   ·exact yh (Bk c2) (Jh J c λH' lb' lw' S' o15 J'=>⟨⟨_,_,Y⟩,ad,lb',lw',S',J'⟩)
  ·exact yh (Bk c1) (yh Y (Jh J c λH' lb' lw' S' o15 J'=>⟨⟨_,_,Y⟩,ad,lb',lw',S',J'⟩))
 ·rintro σ H2 ⟨⟨o14,o15,rfl⟩,ad,lb,lw,S,J⟩;exact zdQ J c q
end
section
variable {H0 H1 H':B}{lb:ac->Nat}{d l lr cl tl s w x dx dw:ac}{a:tP}{CC:List (List Cs)}{n f:Int}{tab:List aW}{xs vs aT:List V}{ns:List Int}{wo:HO}{E:XK}{o1 o2 o6 o7 o8 o9 o10 o11 o12 o13 o14 o15 o16 o17 o18:Option V}
structure NwD(t:mt)(H0 H:B)(d:ac)(a:tP)(lb:ac->Nat)(n f:Int)(tab:List aW):Prop where
 sm:aP H0 H
 z0:∀b o,H0 b=aa o->lb b=0
 dk:tF t H d a lb n f tab [] S0
structure LwS(K:bw)(H:B)(s tl cl:ac)(ns:List Int)(tab:List aW)(aT vs:List V)(CC:List (List Cs))(n:Int):Prop where
 hS:aY K H s (ns.map V.int)
 hn:ns.length<=63
 hb:∀i∈ns,Cb i
 hc:zfP H cl vs CC
 cc:zgA CC
 ht:H tl=aa (.lst aT)
 pt:Paired (PrAt H) aT tab
 l5:tab.length<=5
 iw:∀r∈tab,sQ r.2=ah
 tb:TbK tab
 n1:1<=n
 n8:n<=8
theorem zbn(Bp:LwS K H0 s tl cl ns tab aT vs CC n)(N:NwD t H0 H d a lb n f tab)(f0:0<=f)(q:∀H',Q (.bl ah) H') :
  zaW K t (sJ Q) [aa (.ref s),o1,o2,aa (.ref tl),aa (.ref cl),aa (.int n),o6,aa (.int f),aa (.ref d),o9,o10,o11,o12,o13,o14,o15,o16,o17,o18] H:=by
 have lv:=bN Bp.hc.px;have n8:=Bp.n8;have n1:=Bp.n1;obtain⟨m,rfl⟩:=iy (show 0<=n by lia);refine⟨_,Y,s,ns,2,Y,Bp.hS.mono N.sm,Bp.hn,Bp.hb,λc H3 s3 _=>⟨_,_,Y,Y,dB,_,Y,.ref cl,vs.length,Y,.inl ⟨_,aY.of (s3 _ _ (N.sm _ _ Bp.hc.hx)),Y⟩,_,_,Y,Y,_,_,Y,Y,by show (0:Int)<(vs.length:Int)+1;lia,(),λal ha=>?_⟩⟩;refine zfO (qv:=λ_=>.non) () Y (λ_ _ _ z=>z) λrl H4 s4 nr er=>?_;refine zfO (qv:=λ_=>.int 0) () Y (λ_ _ _ z=>z) λkl H5 s5 nk ek=>?_;intro ll hl;have S3:=N.sm.trans s3;have s0:=sN (o:=HO.lst []) al ha;have e0:upd H3 al (.lst []) al=aa (.lst []):=ze;have fa:=zC S3 ha;have dk:=(N.dk.same s3).same s0;have la:=(N.dk.same s3).l0 ha;have S4:=S3.trans s0;generalize upd H3 al (.lst [])=H4' at *
 have fr:=zC S4 nr;have lr:=dk.l0 nr;have dk:=dk.same s4;have lk:=dk.l0 nk;have S5:=S4.trans s4;have fk:=zC S5 nk;have dk:=dk.same s5;have l3:=dk.l0 hl;have S6:=S5.trans s5;have fl:=zC S6 hl;have s6:=sN (o:=HO.dK []) ll hl;have e6:upd H5 ll (.dK []) ll=aa (.dK []):=ze;have ar:al≠rl:=zo e0 nr;have ak:al≠kl:=zo (s4 _ _ e0) nk;have an:al≠ll:=zo (s5 _ _ (s4 _ _ e0)) hl;have rk:rl≠kl:=zo er nk;have rn:rl≠ll:=zo (s5 _ _ er) hl;have kn:kl≠ll:=zo ek hl;have dk:=dk.same s6;have S6:=S6.trans s6;have ea:=s6 _ _ (s5 _ _ (s4 _ _ e0));have er:=s6 _ _ (s5 _ _ er);have ek:=s6 _ _ ek;generalize upd H5 ll (.dK [])=H6 at *
 have w0:∀b,(if b=rl then 1 else if b=kl then 2 else if b=ll then 3 else 0)≠0->b=rl\/b=kl\/b=ll:=λb z=>by
  by_cases c1:b=rl
  ·exact .inl c1
  ·by_cases c2:b=kl
   ·exact .inr (.inl c2)
   ·by_cases c3:b=ll
    ·exact .inr (.inr c3)
    ·rw[ap c1,ap c2,ap c3] at z;exact absurd Y z
 have nn:∀b o,H0 b=aa o->b≠rl/\b≠kl/\b≠ll:=λb o e=>⟨zo e fr,zo e fk,zo e fl⟩;have ok:sA m f tab [] S0:=⟨f0,⟨(),bW _⟩,bp _,.refl _,.nil,cI,(),(),(),(),λp=>zeU Bp.iw p,()⟩;refine zdR (A:=⟨s,tl,cl,d,al,rl,kl,ll⟩) (ns:=ns) (g:=tab) (vs:=vs) (CC:=CC) (S:=S0) (lb:=lb) (lw:=λb=>if b=rl then 1 else if b=kl then 2 else if b=ll then 3 else 0) (H0:=H0) ⟨S6,λb o e=>?_,(),λb z=>?_,ea,⟨la,?_⟩,fa,dk,ok,⟨⟨_,er,?_,λh v e=>.inl ⟨?_,λz=>nomatch z⟩⟩,⟨(dL m).map λ_=>0,?_,?_,λ_ z=>nomatch z⟩,⟨[],[],e6,⟨Y,cI,λ_=>rW,(),cI,(),(),()⟩⟩,au Y,?_,?_,λb z=>?_⟩,ok,bW _⟩ ⟨Bp.hS,Bp.hn,Bp.hc,Bp.cc,⟨aT,Bp.ht,Bp.pt⟩,Bp.tb,Bp.n1,Bp.n8⟩ ?_ q
 ·obtain⟨a1,a2,a3⟩:=nn b o e;exact⟨N.z0 b o e,by rw[ap a1,ap a2,ap a3]⟩
 ·rcases w0 b z with rfl|rfl|rfl
  ·exact lr
  ·exact lk
  ·exact l3
 ·show (if al=rl then 1 else if al=kl then 2 else if al=ll then 3 else 0)=0;rw[ap ar,ap ak,ap an]
 ·rw[bg,fN]
 ·rw[bB] at e;obtain⟨_,_,rfl⟩:=b8.mp e;rfl
 ·rw[dE];exact ek
 ·rw[bg,fN]
 ·show (if kl=rl then 1 else if kl=kl then 2 else if kl=ll then 3 else 0)=2;rw[ap rk.symm,au rfl]
 ·show (if ll=rl then 1 else if ll=kl then 2 else if ll=ll then 3 else 0)=3;rw[ap rn.symm,ap kn.symm,au rfl]
 ·rcases w0 b z with rfl|rfl|rfl
  ·exact⟨_,er⟩
  ·exact⟨_,ek⟩
  ·exact⟨_,e6⟩
 ·have:=cy (c/7) (show (0:Int)<(vs.length:Int)+1 by lia);lia
theorem Vv(Bp:LwS K H0 s tl cl ns tab aT vs CC n)(s0:aP H0 H)(hw:H w=aa wo)(nw:H0 w=ao)(wy:wo=.ins t.q0a dw []\/wo=.ins t.q0e dw [])(hl:H l=ao)(hx:upd H l (.lst aT) x=ao)(hdx:upd H l (.lst aT) dx=ao)(q:∀H' a lb,NwD t H0 H' x a lb n f tab->Q .non H'):wz t [.ref x,.ref l,.int n,.ref w,.int f] (upd (upd (upd H l (.lst aT)) dx (.own x)) x (.ins t.q01 dx [])) Q E:=by
 have s2:=sN (o:=HO.lst aT) l hl;have e1:upd H l (.lst aT) l=aa (.lst aT):=ze;generalize upd H l (.lst aT)=H2 at *
 have s3:aP H2 (upd (upd H2 dx (.own x)) x (.ins t.q01 dx [])):=λb o z=>by rw[zh (zo z hx),zh (zo z hdx)];exact z
 have S:=s0.trans (s2.trans s3);have nx:∀b o,H0 b=aa o->b≠x:=λb o z=>zo (s2 _ _ (s0 _ _ z)) hx;have l5:=Bp.l5;exact⟨x,l,w,dx,dw,n,f,wo,tab,Y,ze,⟨aT,s3 _ _ e1,Yh S Bp.pt⟩,(),s3 _ _ (s2 _ _ hw),zo (s2 _ _ hw) hx,λH' a lb ea ed k z0 h=>q H' a lb ⟨λb o z=>k b o (nx b o z) (S _ _ z),λb o z=>z0 b o (nx b o z) (zo z nw) (S _ _ z),wo,[],[],[],[],[],h,.nil,.nil,⟨cI,λ_ z=>nomatch z⟩,Y,by unfold zhV;rw[ed];exact wy⟩⟩
theorem zbo(Bp:LwS K H0 s tl cl ns tab aT vs CC n)(s0:aP H0 H)(hw:H w=aa wo)(nw:H0 w=ao)(wy:wo=.ins t.q0a dw []\/wo=.ins t.q0e dw [])(q:∀H',Q (.bl ah) H') :
  zaX K t (sJ Q) [aa (.ref s),o1,o2,aa (.ref tl),aa (.ref cl),aa (.int n),aa (.ref w),aa (.int 0),o8,o9,o10,o11,o12,o13,o14,o15,o16,o17,o18] H:=by
 refine⟨_,Y,s,ns,0,Y,Bp.hS.mono s0,Bp.hn,Bp.hb,λc1 H1 s1 _=>⟨_,_,Y,Y,dB,_,_,Y,Y,by show (0:Int)<2;decide,Y,_,Y,?_⟩⟩;have S1:=s0.trans s1;by_cases k:V.int (c1/16%2)=.int 0
 ·refine yJ (Bj k) ⟨_,Y,tl,aT,Y,.inl (aY.of (S1 _ _ Bp.ht)),λl hl=>⟨_,Y,_,Y,?_⟩⟩;intro x dx hx hdx nx;exact Vv Bp S1 (s1 _ _ hw) nw wy hl hx hdx λH' a lb N=>⟨Y,zbn Bp N (rY _) q⟩
 ·refine yh (Bk k) ⟨_,Y,s,ns,0,Y,Bp.hS.mono S1,Bp.hn,Bp.hb,λc3 H3 s3 cb=>⟨_,_,Y,Y,dB,_,_,Y,Y,⟨(),(),()⟩,_,_,Y,Y,⟨cb.w.div,by unfold Cw;lia⟩,_,_,Y,Y,⟨(),(),()⟩,_,_,Y,Y,_,_,Y,Y,by show (0:Int)<10^29-300;decide,?_⟩⟩;have S3:=S1.trans s3;refine⟨_,Y,tl,aT,Y,.inl (aY.of (S3 _ _ Bp.ht)),λl hl=>⟨_,Y,_,Y,_,Y,?_⟩⟩;intro x dx hx hdx nx;exact Vv Bp S3 (s3 _ _ (s1 _ _ hw)) nw wy hl hx hdx λH' a lb N=>⟨Y,zbn Bp N (cO _ ()) q⟩
theorem zfR{o5:Option V}(D:DkF K t)(hS:aY K H s (ns.map V.int))(hn:ns.length<=63)(hb:∀i∈ns,Cb i)(hc:zfP H cl vs CC)(cc:zgA CC)(hT:sR H tl tab)(l5:tab.length<=5)(iw:∀r∈tab,sQ r.2=ah)(tb:TbK tab)(q:∀H',Q (.bl ah) H') :
  zaY K t (sJ Q) [aa (.ref s),o1,o2,aa (.ref tl),aa (.ref cl),o5,o6,o7,o8,o9,o10,o11,o12,o13,o14,o15,o16,o17,o18] H:=by
 obtain⟨aT,hr,pr⟩:=hT;refine⟨_,Y,s,ns,0,Y,hS,hn,hb,λc1 H1 s1 _=>⟨_,_,Y,Y,by show (0:Int)<8;decide,_,_,Y,Y,?_⟩⟩;have b1:=cO c1 (show (8:Int)≠0 by lia);have b2:=cy c1 (show (0:Int)<8 by lia);have Bp:LwS K H s tl cl ns tab aT vs CC (1+c1%8):=⟨hS,hn,hb,hc,cc,hr,pr,l5,iw,tb,(),()⟩;intro w dw hw hdw nw;have s2:aP H1 (upd (upd H1 dw (.own w)) w (.ins t.q0a dw [])):=λb o z=>by rw[zh (zo z hw),zh (zo z hdw)];exact z
 have e2:upd (upd H1 dw (.own w)) w (.ins t.q0a dw []) w=aa (.ins t.q0a dw []):=ze;have S2:=s1.trans s2;generalize upd (upd H1 dw (.own w)) w (.ins t.q0a dw [])=H2 at *
 refine⟨_,Y,s,ns,0,Y,hS.mono S2,hn,hb,λc2 H3 s3 _=>⟨_,_,Y,Y,dB,_,_,Y,Y,by show (0:Int)<2;decide,Y,_,Y,?_⟩⟩;have S3:=S2.trans s3;by_cases k:V.int (c2/8%2)=.int 1
 ·refine yJ (Bj k) ?_;intro w' dw' hw' hdw' nw';have s4:aP H3 (upd (upd H3 dw' (.own w')) w' (.ins t.q0e dw' [])):=λb o z=>by rw[zh (zo z hw'),zh (zo z hdw')];exact z
  exact zbo (dw:=dw') Bp (S3.trans s4) ze (zC S3 hw') (.inr Y) q
 ·exact yh (Bk k) (zbo (dw:=dw) Bp S3 (s3 _ _ e2) (zC s1 hw) (.inl Y) q)
end
theorem QK:∀a:hZ,a.deep=0->ZF a<=a.cnt
 |.nil,_=>by rw[ZF];exact bW _
 |.cons r rs,h=>by
  rw[hZ.deep] at h;have i:=QK rs ();rw[ZF,hZ.cnt];have:szR r<=r.cnt:=by
   cases r with
   |iff e a b=>rw[Rw.deep] at h;lia
   |_=>simp[szR,Rw.cnt]
  lia
theorem zhn:∀rs:List Rw,(hZ.of rs).deep<=1->ZF (hZ.of rs)<=(rs.map szX).sum
 |[],_=>by show ZF .nil<=_;rw[ZF];exact bW _
 |r::rs,h=>by
  have h:(hZ.cons r (hZ.of rs)).deep<=1:=h;rw[hZ.deep] at h;have i:=zhn rs ();show ZF (.cons r (hZ.of rs))<=_;rw[ZF,bx,cQ];have:szR r<=szX r:=by
   cases r with
   |iff e a b =>
    rw[Rw.deep] at h;have h1:=QK a ();have h2:=QK b ();rw[szR];show _<=a.cnt+b.cnt+3;lia
   |_=>simp[szR,szX]
  lia
theorem zij(h:zgz rs):VY 6 (hZ.of rs)/\(zR (hZ.of rs) 0).length<=11/\Js (zR (hZ.of rs) 0):=by
 have z:=XV (hZ.of rs) 0;have s:=zhn rs h.dp;have:(rs.map szX).sum<=11:=h.sz;have:=h.dp;have R:VY 6 (hZ.of rs):=⟨(),(),h.pl⟩;exact⟨R,(),ziF R h.ok ()⟩
theorem ziL(ns:List Int):∃ys:List Int,Ze (ns.map V.int) (aa (3:Int)) (aa (7:Int))=ys.map V.int/\ys.length<=4:=by
 have e3:HT.sIx ns.length 0 (aa (3:Int))=min 3 ns.length:=HT.sIx_nat ..;have e8:HT.sIx ns.length ns.length (aa (7:Int))=min 7 ns.length:=HT.sIx_nat ..;refine⟨(ns.drop (min 3 ns.length)).take (min 7 ns.length-min 3 ns.length),?_,?_⟩
 ·unfold Ze;rw[bg,e3,e8,nF,nE]
 ·rw[cK,cT];lia
section
variable {a b tl s:ac}{CC:List (List Cs)}{ns:List Int}{us ws:List Str}{tab:List aW}
theorem zfS{o4 o5 o6 o7 o8 o9 o10 o11 o12 o13 o14 o15 o16 o17 o18:Option V}(Dk:DkF K t)(hS:aY K H s (ns.map V.int))(hn:ns.length<=63)(hb:∀i∈ns,Cb i)(h1:sF H a us)(h2:us.length=2)(h3:sF H b ws)(h4:ws.length=2)(hT:sR H tl tab)(l5:tab.length<=5)(iw:∀r∈tab,sQ r.2=ah)(tb:TbK tab)(q:∀H',Q (.bl ah) H') :
  zaZ K t (sJ Q) [aa (.ref s),aa (.ref a),aa (.ref b),aa (.ref tl),o4,o5,o6,o7,o8,o9,o10,o11,o12,o13,o14,o15,o16,o17,o18] H:=by
 obtain⟨ms,em,lm⟩:=ziL ns;refine⟨_,Y,3,Y,7,Y,s,_,Y,hS,λp hp=>?_⟩;rw[em];generalize c_:upd H p _=H1;obtain⟨s1,e1⟩:=xk c_ hp;refine⟨p,Y,⟨_,aY.of e1⟩,λD hD=>?_⟩;have s2:=sN (o:=HO.lst []) D hD;refine⟨λi m ys τ H'=>m=ms.length-i/\i<=ms.length/\(∃o,τ=[o,aa (.ref a),aa (.ref b)])/\aP H1 H'/\H' D=aa (.lst ys)/\∃CC:List (List Cs),Paired (λv C=>tW H' v C/\v≠.ref D) ys CC/\CC.length=i/\∀C∈CC,Js C/\C.length<=11,⟨_,Y,bW _,⟨_,Y⟩,s2,ze,[],.nil,Y,λ_ z=>nomatch z⟩,?_⟩;rintro i m ys τ H2 ⟨rfl,hi,⟨o,rfl⟩,sm,hD2,CC,pc,lc,ok⟩;refine⟨hD2,?_⟩;have ly:=bN pc;rcases ib i ms.length with c|c
 ·refine .inr ⟨⟨_,_,aY.of (sm _ _ e1),bc (by rw[bg];exact c)⟩,bZ (show ys.length<=5 by lia) (by rw[bT];decide),λv τ' H'=>H' D=aa (.lst ys)/\aP H2 H'/\(∃o,τ'=[o,aa (.ref a),aa (.ref b)])/\∃C,tW H' v C/\v≠.ref D/\Js C/\C.length<=11,?_,λ_ _=>False,λ_ _ z=>z.elim,?_⟩
  ·rintro v τ' H3 ⟨z1,s3,z2,C,cv,nv,z3⟩;have ts:tI H3 (upd H3 D (.lst (ys++[v]))):=jA z1 λ_ z=>nomatch z
   have kc:∀ {v C},tW H3 v C->v≠.ref D->tW (upd H3 D (.lst (ys++[v]))) v C/\v≠.ref D:=λ{v C} ⟨c,zs,e,hc,pc⟩ n=>⟨⟨c,zs,e,by rw[zh (λy=>n (by rw[e,y]))];exact hc,xO (jA z1 λ_ z=>nomatch z) pc⟩,n⟩;refine⟨z1,ms.length-(i+1),(),Y,c,z2,y9 (sm.trans s3) hD,ze,CC++[C],Paired.snocP (Paired.mapP pc λv C ⟨z,n⟩=>?_) ?_,by rw[bE,lc];rfl,λC' z=>?_⟩
   ·obtain⟨c,zs,e,hc,pc⟩:=z.same s3;exact⟨⟨c,zs,e,by rw[zh (λy=>n (by rw[e,y]))];exact hc,xO ts pc⟩,n⟩
   ·obtain⟨c,zs,e,hc,pc⟩:=cv;exact⟨⟨c,zs,e,by rw[zh (λy=>nv (by rw[e,y]))];exact hc,xO ts pc⟩,nv⟩
   ·rcases bC.mp z with z|z
    ·exact ok C' z
    ·rw[bt.mp z];exact z3
  ·rintro x H3 ⟨rfl,hx⟩;have hx:=hx _ (aY.of (sm _ _ e1));rw[bB] at hx;obtain⟨n,_,rfl⟩:=b8.mp hx;have S:=s1.trans sm;refine yJ (R:=False) Y ⟨_,Y,_,Y,_,Y,n,a,b,us,ws,Y,h1.same S,h2,h3.same S,h4,λl rs H4 s4 rl rx=>?_⟩;obtain⟨R,l11,O⟩:=zij rx;refine⟨.ref l,hZ.of rs,Y,rl.any,R,bP l11 (),λl2 xs H5 s5 hl2 hx px=>?_⟩;exact⟨(s4.trans s5) _ _ hD2,s4.trans s5,⟨_,Y⟩,_,⟨l2,xs,Y,hx,px⟩,(λz=>by cases z;rw[s4 _ _ hD2] at hl2;cases hl2),O,l11⟩
 ·refine .inl ⟨⟨_,aY.of (sm _ _ e1),by rw[bg];exact c⟩,?_⟩;have S:=s1.trans sm;exact zfR Dk (hS.mono S) hn hb ⟨hD2,Paired.mapP pc λ_ _ z=>z.1⟩ ⟨ok,()⟩ (hT.same S) l5 iw tb q
theorem zg2{vs:List V}{_E:XK}(Dk:DkF K t)(h:sp_law K vs H Q _E) :
  zfg K t (sJ Q) (L2.start ["script","shelves","slots","table","codes","hands","way","first","desk","early","added","runs","ranks","laid","cell","hand","batch","code","row"] vs) H:=by
 obtain⟨s,ns,rfl,hS,hn,hb,q⟩:=h;refine⟨_,Y,s,ns,1,Y,hS,hn,hb,λc1 H1 s1 _=>⟨c1,Y,λa us H2 s2 _ na la=>?_⟩⟩;have S2:=s1.trans s2;refine⟨_,Y,s,ns,2,Y,hS.mono S2,hn,hb,λc2 H3 s3 _=>⟨c2,Y,λb ws H4 s4 _ nb lb=>?_⟩⟩;have S4:=S2.trans (s3.trans s4);refine⟨_,Y,s,ns,1,Y,hS.mono S4,hn,hb,λc3 H5 s5 _=>⟨_,_,Y,Y,dB,_,Y,_,a,us,Y,na.same (s3.trans (s4.trans s5)),la,λtl tab H6 s6 _ ht ri ok l5=>?_⟩⟩;have S6:=S4.trans (s5.trans s6);exact zfS Dk (hS.mono S6) hn hb (na.same (s3.trans (s4.trans (s5.trans s6)))) la (nb.same (s5.trans s6)) lb ht l5 (λr z=>(ok r z).2.1) ⟨ri.nd,λr z=>(ok r z).1⟩ q
end
section
variable {x:ac}{a:RAd}{C:List Cs}{s:sy}{E:XK}{σ:St}
theorem Z3{k:Int}(R:hV t H x a C s)(so:yS s.sl)(h0:σ[0]?=aa (aa (.ref x)))(h1:σ[1]?=aa (aa (.ref p)))(e2:H p=aa (.tup xs))(ek:tL xs k=aa (.ref te))(e3:H te=aa (.tup e))(ok:hU e)(q:∀H1,aP H H1->fin t (rk s.sl e) Q E H1) :
  zN t.q00 "worth_of" (zZ t) [] E (U 0) (Z (aQ (yp K) (U 1) (L (.int k))) zf) σ H Q:=
 ⟨_,h0,x,_,_,Y,R.ix,Y,VS h1 e2 ek ⟨x,te,e,a,C,s,Y,R,so,e3,ok,q⟩⟩
theorem zbp(R:hV t H x a C s)(so:yS s.sl)(h0:σ[0]?=aa (aa (.ref x)))(h1:σ[1]?=aa (aa (.ref p)))(e2:H p=aa (.tup xs))(i1:tL xs 1=aa (.str sh))(i2:tL xs 2=aa (.ref te))(e3:H te=aa (.tup e))(ok:hU e)(q1:∀i q H',rk s.sl e=.ok i->aP H H'->H' q=aa (.tup [.str sh,.int i])->Q (.ref q) H')(q2:∀er H',rk s.sl e=.error er->aP H H'->zfc t er E H') :
  zN t.q00 "place_in" (yL t) [] E (U 0) (Z (U 1) zf) σ H Q:=
 ⟨_,h0,x,_,_,Y,R.ix,Y,_,h1,x,p,xs,sh,te,e,a,C,s,Y,R,so,e2,i1,i2,e3,ok,q1,q2⟩
theorem QL{vs:List V}(F:RnF K t)(h:ZE t vs H Q E) :
  WU K t E (sJ Q) (L2.start ["self","due","worth","place"] vs) H:=by
 obtain⟨x,v,r,w,m,a,C,s,rfl,R,h1,h2,h3,h4,h5,q1,q2⟩:=h;have l1:=h4.l1;have l2:=h4.l2;have l4:=h4.l4;have so:=h4.so;cases r with
 |take sh e sl' =>
  unfold sw at h1;unfold Zm at h3;obtain⟨r,te,rfl,_,_,e2,e3⟩:=h1;refine qp Y e2 Y (λ_=>?_) λz=>absurd Y z;refine⟨_,Y,x,_,_,Y,R.ix,Y,zbp R so Y Y e2 Y Y e3 h3 (λi q H1 hk s1 hq=>?_) λer H1 hk s1=>q2 H1 er (by unfold tC;simp only[hk]) s1⟩;have R1:=R.same s1;refine⟨_,Y,x,q,(sh,i),w,a,C,s,Y,R1,hq,by have:=h4.l3;lia,λH2 K2 R2=>?_⟩;have hs2:=R2.hs;rw[zfj] at hs2;exact Zq Y R2.ix F.cl F.n4 Y (VS Y (K2 _ _ (R1.notup (s1 _ _ e2)) (s1 _ _ e2)) Y ⟨_,_,Y,DPut.k (k:=.inr sl') hs2 (bZ (by lia:_<=900) ()),q1 _ _ (by unfold tC;simp only[hk]) ((Kp.of_same s1).trans (K2.trans (wT (.inr (.inl Y))))) (R2.putS _)⟩)
 |give sh e f =>
  unfold sw at h1;unfold Zm at h3;obtain⟨r,te,tf,rfl,_,_,_,e2,e3,e4⟩:=h1;refine qp Y e2 Y (λz=>absurd z ()) λ_=>qp Y e2 Y (λ_=>?_) λz=>absurd Y z;refine zbp R so Y Y e2 Y Y e3 h3.1 (λi q H1 hk s1 hq=>?_) λer H1 hk s1=>q2 H1 er (by unfold tC;simp only[hk]) s1;have R1:=R.same s1;refine Z3 R1 so Y Y (s1 _ _ e2) Y (s1 _ _ e4) h3.2 λH3 s3=>?_;cases hk2:rk s.sl f with
  |error er=>exact tK.mpr (q2 H3 er (by unfold tC;simp only[hk,hk2]) (s1.trans s3))
  |ok n =>
   have R3:=R1.same s3;have ld:=jJ s.gi;refine fin_ok.mpr (Zq Y R3.ix F.cl F.n5 Y ⟨_,Y,_,_,Y,DPut.t (k:=zt (sh,i)) R3.hg (s3 _ _ hq) (bZ (by lia:_<=900) ()),?_⟩);rw[show ye (sO s.gi) (zt (sh,i)) (V.int n)=sO (s.gi++[((sh,i),n)]) from (Zl s.gi ((sh,i),n)).symm];exact q1 _ _ (by unfold tC;simp only[hk,hk2]) ((Kp.of_same (s1.trans s3)).trans (wT (.inr (.inr (.inl Y))))) (R3.putG _)
 |lt sl' e =>
  unfold sw at h1;unfold Zm at h3;obtain⟨r,te,rfl,_,_,e2,e3⟩:=h1;refine qp Y e2 Y (λz=>absurd z ()) λ_=>qp Y e2 Y (λz=>absurd z ()) λ_=>qp Y e2 Y (λ_=>?_) λz=>absurd Y z;refine Z3 R so Y Y e2 Y e3 h3 λH1 s1=>?_;cases hk:rk s.sl e with
  |error er=>exact tK.mpr (q2 H1 er (by unfold tC;simp only[hk]) s1)
  |ok n =>
   have R2:=R.same s1;exact fin_ok.mpr (Zq Y R2.ix F.cl F.n4 Y (VS Y (s1 _ _ e2) Y ⟨_,_,Y,DPut.k (k:=.inr sl') R2.hs (bZ (by lia:_<=900) ()),q1 _ _ (by unfold tC;simp only[hk]) ((Kp.of_same s1).trans (wT (.inr (.inl Y)))) (R2.putS _)⟩))
 |say e =>
  unfold sw at h1;unfold Zm at h3;obtain⟨r,te,rfl,_,_,e2,e3⟩:=h1;refine qp Y e2 Y (λz=>absurd z ()) λ_=>qp Y e2 Y (λz=>absurd z ()) λ_=>qp Y e2 Y (λz=>absurd z ()) λ_=>?_;unfold YK zT tBM;refine Zq Y R.ix F.cl F.n7 Y ⟨.inl ⟨Y,_,aY.of R.ha⟩,?_⟩;refine Z3 R so Y Y e2 Y e3 h3 λH1 s1=>?_;cases hk:rk s.sl e with
  |error er=>exact tK.mpr (q2 H1 er (by unfold tC;simp only[hk]) s1)
  |ok n =>
   have R1:=R.same s1;refine fin_ok.mpr ⟨_,_,_,Y,Y,R1.ha,bZ (by rw[bg];lia:_<=900) (),?_⟩;rw[show cY V.int s.sa++[V.int n]=cY V.int (s.sa++[n]) by simp];exact q1 _ _ (by unfold tC;simp only[hk]) ((Kp.of_same s1).trans (wT (.inr (.inr (.inr (.inr Y)))))) (R1.putA _)
 |off e=>exact h2.elim
 |iff e b d=>exact h2.elim
theorem Ji{vs:List V}(F:RnF K t)(h:kh t vs H Q E) :
  YL K t E (sJ Q) (L2.start ["self","due","worth"] vs) H:=by
 obtain⟨x,v,c,w,m,a,C,s,rfl,R,h1,h2,h3,h4,q1,q2⟩:=h;have so:=h3.so;have nx:∀ {v' H1 s1},hV t H1 x a C s1->(∀k:Nat,k=s1.n+1->Q (.int (k:Nat)) H1)->zA (aQ aH (zK K (U 0) "at") (L (.int 1))) (sJ Q) (L2.start ["self","due","worth"] [.ref x,v',.int w]) H1:=λR1 q=>by
  unfold zA aQ;exact Zq Y R1.ix F.cl F.n2 Y ⟨_,_,Y,Y,q _ Y⟩
 cases c with
 |go en =>
  obtain⟨p,rfl,e2⟩:=h1;refine qp Y e2 Y (λ_=>?_) λz=>absurd Y z;exact VS Y e2 Y (q1 H s en Y (.of_same λ_ _ z=>z) R)
 |skip e to =>
  obtain⟨p,te,rfl,e2,e3⟩:=h1;refine qp Y e2 Y (λz=>absurd z ()) λ_=>qp Y e2 Y (λ_=>?_) λz=>absurd Y z;refine Z3 R so Y Y e2 Y e3 h2 λH1 s1=>?_;cases hk:rk s.sl e with
  |error er=>exact tK.mpr (q2 H1 er (by unfold vQ;simp only[hk]) s1)
  |ok n =>
   have R2:=R.same s1;refine fin_ok.mpr ⟨Y,_,Y,ziB (λhn=>?_) λhn=>?_⟩
   ·exact VS Y (s1 _ _ e2) Y (q1 H1 s to (by unfold vQ;simp only[hk,au hn]) (.of_same s1) R2)
   ·exact nx R2 λk hk'=>q1 H1 s k (by unfold vQ;simp only[hk,ap hn,hk']) (.of_same s1) R2
 |row r =>
  obtain⟨h1,hni⟩:=h1;rcases zgD r hni with ⟨e,rfl⟩|hdo
  ·unfold sw at h1;unfold Qs Zm at h2;obtain⟨r,te,rfl,_,_,e2,e3⟩:=h1;refine qp Y e2 Y (λz=>absurd z ()) λ_=>qp Y e2 Y (λz=>absurd z ()) λ_=>qp Y e2 Y (λ_=>?_) λz=>absurd Y z;refine Z3 R so Y Y e2 Y e3 h2 λH1 s1=>?_;cases hk:rk s.sl e with
   |error er=>exact tK.mpr (q2 H1 er (by unfold vQ;simp only[hk]) s1)
   |ok n =>
    have R2:=R.same s1;refine fin_ok.mpr ⟨Y,_,Y,ziA (λhn=>?_) λhn=>?_⟩
    ·have R3:=R2.putI { s with why:=aa (bb "told") } rfl rfl rfl rfl;refine⟨_,Y,_,_,_,_,Y,R2.ix,F.cl,F.n3,(by show (7:Nat)<1000;decide),?_⟩;exact nx R3 λk hk'=>q1 _ { s with why:=aa (bb "told") } k (by unfold vQ;simp only[hk,ap hn,hk']) ((Kp.of_same s1).trans (wT (.inl Y))) R3
    ·exact nx R2 λk hk'=>q1 H1 s k (by unfold vQ;simp only[hk,au hn,hk']) (.of_same s1) R2
  ·obtain⟨p,zs,hd,rfl,e2,e3,n1,n2,n3⟩:=zgE h1 hdo;have el:=za5 (w:=w) (s:=s) hdo;refine qp Y e2 e3 (λz=>absurd z n1) λ_=>qp Y e2 e3 (λz=>absurd z n2) λ_=>qp Y e2 e3 (λz=>absurd z n3) λ_=>?_;refine⟨_,Y,x,_,_,Y,R.ix,Y,_,Y,_,Y,x,_,r,w,m,a,C,s,Y,R,h1,hdo,h2,h3,h4,λH1 s' e K1 R1=>?_,λH1 er e s1=>q2 H1 er (by rw[el,e]) s1⟩;have en:=ziE hdo e;exact nx R1 λk hk'=>q1 H1 s' k (by rw[el,e,hk',en]) K1 R1
end
section
variable {x:ac}{a:RAd}{C:List Cs}{s:sy}{E:XK}
theorem QN{vs:List V}{_E:XK}{P:Str->Option af}(T:Txt K P t)(h:jR t vs H Q _E) :
  WT K t (sJ Q) (L2.start ["self","place"] vs) H:=by
 obtain⟨x,a,C,s,rfl,R,h2,h3,q1,q2⟩:=h;have F:=rnF T;refine⟨_,Y,x,_,_,Y,R.ix,Y,x,a,C,s,Y,R,λH1 s1=>⟨_,Y,?_⟩⟩;show if _ then _ else _
 have R1:=R.same s1;by_cases ho:yf C s=ah
 ·rw[au ho];show if _ then _ else _
  rw[au rfl];exact q1 H1 (by unfold wH;rw[au ho]) s1
 rw[ap ho];obtain⟨xs,hx,pr⟩:=R1.hc;have lx:=bN pr;have lt:=Ye ho;have hc:C[s.n]?=aa C[s.n]:=bc lt;have hv:xs[s.n]?=aa xs[s.n]:=bc ();have cv:=yF pr hv hc;have ok:=h2 _ (eS lt);have es:wH C s=vL C[s.n] s:=by unfold wH;rw[ap ho,hc];rfl
 rw[es] at q1 q2;obtain⟨p,zs,hd,ev,hp,h0,ht,hnt⟩:=zhY cv;unfold zu aQ;refine Zq Y R1.ix F.cl F.n1 Y (Zq Y R1.ix F.cl F.n2 Y ⟨_,xs,_,_,Y,Y,aY.of hx,yd hv,p,zs,0,_,ev,Y,sI.of hp,h0,Y,_,Y,?_⟩);show if _ then _ else _
 by_cases hh:hd=bb "take"
 case neg =>
  rw[au (by rw[Bk (λz=>hh (V.str.inj z))];rfl)];exact q1 H1 (hnt hh s) s1
 rw[ap (by rw[hh];decide)];obtain⟨sh,e,sl,te,ec,a1,a2,ht⟩:=ht hh;rw[ec] at q1 q2 ok;unfold Qs Zm at ok;refine⟨_,Y,x,_,_,Y,R1.ix,Y,?_⟩;unfold Z aQ;refine Zq Y R1.ix F.cl F.n1 Y (Zq Y R1.ix F.cl F.n2 Y ⟨_,xs,_,_,Y,Y,aY.of hx,yd hv,?_⟩);refine⟨x,p,zs,sh,te,e,a,C,s,by rw[ev];rfl,R1,h3,hp,a1,a2,ht,ok,λi q H2 hk s2 hq=>?_,λer H2 hk s2=>?_⟩
 case refine_2 =>
  have q':=q1 H2 (by unfold vL;simp only[hk]) (s1.trans s2);cases er with
  |nought=>exact⟨t.q06,Y,T.m_Nought_Great_Nought,q'⟩
  |great=>exact⟨t.q07,Y,T.m_Great_Great_Nought,q'⟩
  |stuck=>trivial
 have R2:=R1.same s2;have g1:sT H2 a.gi (.ref q) ((zw s.gi (sh,i)).map V.int):=.inr ⟨sO s.gi,zt (sh,i),q,.inl R2.hg,Y,hq,(x9 _ _).symm⟩;have g2:sT H2 a.no (.ref q) ((zw s.no (sh,i)).map V.int):=.inr ⟨sO s.no,zt (sh,i),q,.inl R2.hn,Y,hq,(x9 _ _).symm⟩;refine⟨_,Y,?_⟩;refine Zq Y R2.ix F.cl F.n5 Y ⟨_,_,Y,g1,_,Y,?_⟩;show if _ then _ else _
 cases hg:zw s.gi (sh,i) with
 |some j =>
  rw[au (by rfl)];show if _ then _ else _
  rw[au rfl];exact q1 H2 (by unfold vL;simp only[hk,hg];rfl) (s1.trans s2)
 |none =>
  rw[ap ()];refine⟨_,Y,?_⟩;refine Zq Y R2.ix F.cl F.n6 Y ⟨_,_,Y,g2,_,Y,?_⟩;show if _ then _ else _
  cases hn:zw s.no (sh,i) with
  |some j =>
   rw[au (by rfl)];exact q1 H2 (by unfold vL;simp only[hk,hg,hn];rfl) (s1.trans s2)
  |none =>
   rw[ap ()];refine⟨_,Y,?_⟩;exact q2 (sh,i) q H2 (by unfold vL;simp only[hk,hg,hn];rfl) (s1.trans s2) hq
end
theorem Jj{vs:List V}{_E:XK}(h:yy vs H Q _E) :
  YJ K t (sJ Q) (L2.start ["ranks","rank","low","high","amid"] vs) H:=by
 obtain⟨a,rs,aN,rfl,h1,h2,q⟩:=h;refine⟨_,Y,.ref a,rs.length,Y,.inl ⟨_,aY.of h1,(bg ..).symm⟩,mbW a aN rs H,⟨_,0,rs.length,ao,Y,aP.refl H,bW _,bp _,Y,by simp,by simp⟩,?_⟩;rintro m σ H' ⟨lo,hi,o,rfl,s,h4,h5,rfl,h6,h7⟩;refine⟨_,Y,_,Y,_,_,Y,Y,_,Y,?_⟩;by_cases hl:lo<hi
 ·refine yJ (Bj ()) ⟨λσ' H'=>∃m',m'<hi-lo/\mbW a aN rs H m' σ' H',λ_ _ z=>z,_,Y,_,Y,_,_,Y,Y,_,_,Y,Y,dB,?_⟩;obtain⟨md,emd⟩:∃md:Nat,((lo:Int)+hi)/2=md:=⟨(lo+hi)/2,()⟩;dsimp only;rw[emd];have l1:lo<=md:=by lia
  have l2:md<hi:=by lia
  obtain⟨x,hx⟩:∃x,rs[md]?=aa x:=⟨_,bc ()⟩;refine⟨_,Y,_,Y,a,_,md,_,Y,Y,aY.of (s _ _ h1),yd (j:=md) (by rw[bB,hx];rfl),_,Y,_,_,Y,Y,_,Y,?_⟩;by_cases hr:x<aN
  ·exact yJ (Bj hr) ⟨_,Y,_,_,Y,Y,_,(by lia:hi-(md+1)<hi-lo),md+1,hi,_,Y,s,(),h5,Y,λr hr2=>Int.lt_of_le_of_lt (zcO h2 hx r hr2) hr,h7⟩
  ·exact yh (Bk hr) ⟨_,Y,_,(by lia:md-lo<hi-lo),lo,md,_,Y,s,(),(),Y,h6,λr hr2=>Int.le_trans () (zgN h2 hx r hr2)⟩
 ·refine yh (Bk ()) ⟨_,Y,?_⟩;obtain rfl:lo=hi:=by lia
  exact q lo H' s h5 h6 h7
theorem QO{vs:List V}{_E:XK}{P:Str->Option af}(T:Txt K P t)(h:xU t vs H Q _E) :
  WV K t (sJ Q) (L2.start ["self","worth"] vs) H:=by
 obtain⟨x,w,m,a,C,s,rfl,R,h2,h3,h4,q⟩:=h;have F:=rnF T;refine⟨_,Y,x,_,_,Y,R.ix,Y,x,a,C,s,Y,R,λH1 s1=>⟨_,Y,?_⟩⟩;have R1:=R.same s1;by_cases ho:yf C s=ah
 ·exact yJ ho (q H1 (.of_same s1) (by unfold yY;rw[au ho];exact R1))
 refine yh (Bool.not_eq_true _ ▸ ho) ?_;obtain⟨xs,hx,pr⟩:=R1.hc;have lx:=bN pr;have lt:=Ye ho;have hc:C[s.n]?=aa C[s.n]:=bc lt;have hv:xs[s.n]?=aa xs[s.n]:=bc ();have cv:=yF pr hv hc;have es:∀w,yY C w s=y8 C[s.n] w s:=λw=>by unfold yY;rw[ap ho,hc]
 rw[es] at q;refine⟨_,Y,x,_,_,Y,R1.ix,Y,yu R1.ix F.cl F.n1 Y Y (yu R1.ix F.cl F.n2 Y Y ⟨a.co,xs,_,_,Y,Y,aY.of hx,yd hv,_,Y,x,_,C[s.n],w,m,a,C,s,Y,R1,cv,h2 _ (eS lt),h3,h4,λH2 s' k e K2 R2=>⟨_,Y,x,_,_,_,Y,R2.ix,F.cl,F.n2,(by show (7:Nat)<1000;decide),?_⟩,λH2 er e s2=>?_⟩)⟩
 ·have z:=R2.putI { s' with n:=k } rfl rfl rfl rfl;exact q _ ((Kp.of_same s1).trans (K2.trans (wT (.inl Y)))) (by unfold y8;rw[e];exact z)
 ·have R3:=R1.same s2;have z:=R3.putI { s with why:=aa (zaJ er) } rfl rfl rfl rfl;have q':=q _ ((Kp.of_same s1).trans ((Kp.of_same s2).trans (wT (.inl Y)))) (by unfold y8;rw[e];exact z);cases er with
  |nought=>exact⟨t.q06,Y,.inr ⟨T.q2g,T.q2h,_,Y,x,_,_,_,Y,R3.ix,F.cl,F.n3,(by show (7:Nat)<1000;decide),q'⟩⟩
  |great=>exact⟨t.q07,Y,.inl ⟨T.q2j,_,Y,x,_,_,_,Y,R3.ix,F.cl,F.n3,(by show (7:Nat)<1000;decide),q'⟩⟩
  |stuck=>trivial
theorem zdS{m p:ac}{aN low:Int}{F:ac->Prop}{g:List aW}{lays:List (Int×List aW)}{q0:Pl}(MF:MkF K t)(h1:tq t H m F g lays low)(h2:low<=aN)(h3:H p=aa (.tup [.str q0.1,.int q0.2]))(q:∀H',aP H H'->Q (.int (zY g lays q0 aN)) H') :
  ku K t (sJ Q) (L2.start ["self","place","rank","ranks","below"] [.ref m,.ref p,.int aN]) H:=by
 obtain⟨dx,gr,wo,rk,wk,kk,M⟩:=h1.ex;refine⟨_,Y,m,_,_,Y,M.im,kO (),_,Y,m,_,_,_,_,Y,M.im,ziI,h2,λH1 s1=>?_⟩;have M1:=M.keep h1.me λb o _ e=>s1 _ _ e;refine(yu M1.im MF.cl MF.r Y zgM ⟨rk,Y,.inr ⟨_,.inl M1.rr.at_⟩,_,Y,(),λl hl=>?_⟩);generalize c_:upd H1 l _=H2;obtain⟨s2,q2⟩:=xk c_ hl;have S2:=s1.trans s2;have M2:=M1.keep h1.me λb o _ e=>s2 _ _ e;have hp2:H2 p=aa (.tup ((zt q0).map kV)):=S2 _ _ h3;refine⟨_,.t M2.rr.at_ hp2,?_⟩;have gd:∀ {H3:B} {σ:St},σ[0]?=aa (aa (.ref m))->σ[1]?=aa (aa (.ref p))->MrIn t H3 m F g lays low dx gr wo rk wk kk->H3 p=aa (.tup ((zt q0).map kV))->aP H H3->(∀r,Yj lays q0 r->¬ r<aN)->vA (zK K (U 0) "ground") (U 1) (L (.int 0)) σ H3 Q:=λ{H3 σ} e0 e1 M3 hp3 S3 hno=>by
  refine(yu M3.im MF.cl MF.g e0 ziY ⟨gr,Y,.inr ⟨_,.inl M3.hg⟩,_,e1,_,.t M3.hg hp3,?_⟩);have ev:zY g lays q0 aN=(zw g q0).getD 0:=by
   unfold zY;rcases wU q0 aN lays (-1,(zw g q0).getD 0) with ⟨e1,_⟩|⟨y,hy,w,e1,e2,_⟩
   ·rw[e1]
   ·exact absurd e2 (hno y.1 ⟨y.2,hy,(wW (h1.ok y hy).2.nd).mpr (by rw[e1];exact λz=>nomatch z)⟩)
  have e2:(zS (sO g) (zt q0)).getD (V.int 0)=V.int ((zw g q0).getD 0):=by
   rw[x9];cases zw g q0 <;> rfl
  rw[e2,<-ev];exact q H3 S3
 rcases M2.rr.get q0 with ⟨a,rs,hk,hv,fa,ha,hs,hne,hi⟩|⟨hv,hk,hno⟩
 ·rw[hv];refine⟨_,Y,_,Y,a,rs,_,Y,ha,hs,λk H3 s3 hk3 hlt hge=>⟨_,Y,Y,_,Y,?_⟩⟩;have S3:=S2.trans s3;have M3:=M2.keep h1.me λb o _ e=>s3 _ _ e;by_cases h0:k=0
  ·subst h0;exact yJ Y (gd Y Y M3 (s3 _ _ hp2) S3 λr hr hlr=>by
    have:=hge r (by rw[iP];exact(hi r).mpr hr);lia)
  ·refine yh (Bk λz=>h0 (by injection z with z;lia)) ?_;obtain⟨x,hx⟩:∃x,rs[k-1]?=aa x:=⟨_,bc ()⟩;have ek:(k:Int)-1=((k-1:Nat):Int):=by lia
   obtain⟨gs,hgs,hpg⟩:=(hi x).mp (bV hx);obtain⟨d,v1,fd,nd,hd⟩:=Qx M3.wp h1.nd hgs;have okg:=(h1.ok _ hgs).2;obtain⟨w,hw⟩:∃w,zw gs q0=aa w:=by
    cases e:zw gs q0 with
    |none=>exact absurd e ((wW okg.nd).mp hpg)
    |some w=>exact⟨w,Y⟩
   have vd:zS (sO gs) (zt q0)=aa (.int w):=by rw[x9,hw];rfl
   refine(yu M3.im MF.cl MF.w Y zgL ⟨_,Y,_,Y,_,_,Y,Y,a,_,((k-1:Nat):Int),_,Y,congrArg V.int ek,aY.of (s3 _ _ ha),yd (j:=k-1) (by rw[bB,hx];rfl),wo,.ref d,Y,(show sT H3 wo (kV (.inl x)) (aa (.ref d)) by rw[<-v1];exact .k M3.hw),_,Y,d,V.int w,Y,by rw[<-vd];exact .t hd (s3 _ _ hp2),?_⟩);have xr:x<aN:=hlt x (List.mem_iff_getElem?.mpr ⟨k-1,by rw[fq,au ()];exact hx⟩);have x0:0<=x:=(h1.ok _ hgs).1;have ev:zY g lays q0 aN=w:=by
    unfold zY;rcases wU q0 aN lays (-1,(zw g q0).getD 0) with ⟨e1,e2⟩|⟨y,hy,w',e1,e2,e3,e4,e5⟩
    ·have:=e2 _ hgs (by show (-1:Int)<x;lia) xr;rw[this] at hw;cases hw
    ·rw[e4];have yx:x<=y.1:=e5 _ hgs xr (by rw[hw];exact λz=>nomatch z);have yr:y.1∈rs:=(hi y.1).mpr ⟨y.2,hy,(wW (h1.ok y hy).2.nd).mpr (by rw[e1];exact λz=>nomatch z)⟩;have xy:y.1<=x:=by
      have:y.1∈rs.take k\/y.1∈rs.drop k:=bC.mp (by rw[fm];exact yr);rcases this with z|z
      ·have ek2:k=k-1+1:=by lia
       rw[ek2] at z;exact zcO hs hx _ z
      ·have:=hge _ z;lia
     have ey:y.1=x:=by lia
     have e6:y=(x,gs):=by
      have n1:=h1.nd;obtain⟨i,hi1⟩:=cZ hy;obtain⟨j,hj1⟩:=cZ hgs;have a1:(lays.map (·.1))[i]?=aa x:=by rw[bB,hi1,<-ey];rfl
      have a2:(lays.map (·.1))[j]?=aa x:=by rw[bB,hj1];rfl
      have ij:=(gI (bn.mp a1).1 n1).mp (a1.trans a2.symm);rw[ij,hj1] at hi1;exact(bL hi1).symm
     rw[e6] at e1;rw[hw] at e1;exact(bL e1).symm
   rw[<-ev];exact q H3 S3
 ·rw[hv];refine⟨_,Y,_,Y,l,[],_,Y,q2,fJ,λk H3 s3 hk3 _ _=>⟨_,Y,Y,_,Y,?_⟩⟩;obtain rfl:k=0:=Nat.le_zero.mp hk3;exact yJ Y (gd Y Y (M2.keep h1.me λb o _ e=>s3 _ _ e) (s3 _ _ hp2) (S2.trans s3) λr hr=>absurd hr (hno r))
theorem QP{vs:List V}{_E:XK}(h:vg vs H Q _E) :
  WW K t (sJ Q) (L2.start ["ranks_at","place","rank","ranks"] vs) H:=by
 obtain⟨rk,pl,aN,G,P,kk,q0,rfl,hr,gk,gn,hp,hnP,kl,hrl,q⟩:=h;refine⟨_,Y,rk,Y,.inr ⟨_,.inl hr.at_⟩,_,Y,(),λz hz=>?_⟩;generalize c_:upd H z _=H2;obtain⟨s2,q2⟩:=xk c_ hz;have hr2:=hr.keep (F':=G) gk (λb o _ e=>s2 _ _ e) (λ_ z=>z);have ke2:ss G rk H H2:=ss.refl.same s2;have dm2:Dm H H2:=Dm.of_same s2;have gz:G z:=gn z hz;refine⟨kk,zt q0,pl,hr2.at_,Y,s2 _ _ hp,by rw[bT];lia,λv hv=>?_,λhv=>?_⟩
 ·rcases hr2.get q0 with ⟨a,rs,hk,hv2,fa,ha,hs,hne,hi⟩|⟨hv2,_,_⟩
  ·rw[hv2] at hv;cases hv;have rl:=hrl rs hs λr hr=>(hi r).mp hr;refine⟨_,Y,.inl ⟨Y,_,aY.of ha⟩,_,Y,_,Y,a,rs,aN,Y,ha,hs,λk H3 s3 hk3 hlt hge=>⟨_,Y,a,_,k,_,Y,Y,s3 _ _ ha,by rw[bg];exact hk3,by rw[bg];lia,?_⟩⟩;rw[<-nF,<-nE,<-bx (f:=V.int),<-bS];have hr3:=hr2.keep (F':=G) gk (λb o _ e=>s3 _ _ e) (λ_ z=>z);exact q _ kk ((ke2.same s3).lst (s3 _ _ ha) fa) ((dm2.trans (Dm.of_same s3)).trans (Dm.upd λ_ z=>nomatch z)) (hr3.in1 hk (s3 _ _ ha) hs hi hlt hge hnP λp r=>rW)
  ·rw[hv2] at hv;cases hv
 ·have zr:z≠rk:=zD q2 hr2.at_ ();rw[vb _ hv];have qz:upd H2 rk (HO.dT (kk++[(zt q0,V.ref z)])) z=aa (.lst (([]:List Int).map V.int)):=by rw[zh zr];exact q2
  have hf:∀kv∈kk,kv.2≠.ref z:=λkv hk e=>by
   obtain⟨p',a',rs',rfl,_,ha',_⟩:=hr.ls kv hk;cases e;rw[hz] at ha';cases ha'
  rcases hr2.get q0 with ⟨a,rs,hk,hv2,_⟩|⟨_,hkn,hn⟩
  ·rw[hv2] at hv;cases hv
  refine⟨_,Y,.inl ⟨Y,_,aY.of qz⟩,_,Y,_,Y,z,[],aN,Y,qz,fJ,λk H3 s3 hk3 hlt hge=>?_⟩;have k0:k=0:=Nat.le_zero.mp hk3;subst k0;have d3:Dm H (upd H2 rk (HO.dT (kk++[(zt q0,V.ref z)]))):=dm2.trans (Dm.upd λ_ z=>nomatch z);refine⟨_,Y,z,[],0,_,Y,Y,s3 _ _ qz,bp _,(),q _ (kk++[(zt q0,V.ref z)]) (((ke2.dct _).same s3).lst (s3 _ _ qz) gz) ((d3.trans (Dm.of_same s3)).trans (Dm.upd λ_ z=>nomatch z)) ?_⟩;refine(hr2.in2 (a:=z) (aN:=aN) hkn hn gz hf zr λp r=>rW).keep gk (λb o fb eb=>?_) (λ_ z=>z);show upd H3 z (HO.lst [V.int aN]) b=aa o;by_cases hb:b=z
  ·subst hb;rw[ze] at eb ⊢;exact eb
  ·rw[zh hb] at eb ⊢;exact s3 _ _ eb
theorem Jk{m p:ac}{aN:Int}{F:ac->Prop}{g:List aW}{lays:List (Int×List aW)}{q0:Pl}(MF:MkF K t)(h1:sV t H m F g lays)(h2:0<=aN)(h3:H p=aa (.tup [.str q0.1,.int q0.2]))(q:∀H',aP H H'->Q (.int (zY g lays q0 aN)) H') :
  ku K t (sJ Q) (L2.start ["self","place","rank","ranks","below"] [.ref m,.ref p,.int aN]) H:=zdS MF h1 h2 h3 q
end
abbrev Ba(P:ax)(w:aA)(K:bw)(mg:Str->Option af)(base:ay):=sD P w K mg base (tQ P w)
section
variable {P:ax}{w:aA}{K:bw}{mg:Str->Option af}{base:ay}{t:mt}(T:Txt K mg t)
include T
set_option hygiene false in
local macro_rules | `(tactic| infer_instance)=>`(tactic| first|exact pv _|exact zq|exact yI|exact zk|exact zv|exact wc (aR.nd SC)|exact xp|exact zch|exact Vh|exact kG|((first|refine zd ?_ ?_|refine zi ?_|refine zc ?_ ?_|refine zJ ?_|refine yj ?_ rfl|refine z4 qd ?_ ?_|refine zQ xE ?_ ?_|refine zQ k7 ?_ ?_|refine zx (aR.nd SC) ?_|refine xG ?_|refine z4 yP ?_ ?_|refine zB vJ ?_ ?_ (zM _)|refine zQ xx ?_ ?_|refine zO ?_ ?_ ?_|refine wK ?_|refine zH yN Y T.q09 xZ ?_|refine Vp ?_ ?_|refine Z7 ?_|refine zQ zby ?_ ?_|refine zB Yt ?_ ?_ (zM _)|refine zQ Qa ?_ ?_|refine KW (xv hr) ?_ ?_ (λ_ _=>rfl)|refine xW ?_|refine zQ zd7 ?_ ?_|refine zQ zbz ?_ ?_|refine zaj (xv hr) ?_ ?_ ?_ ⟨Y,Y,Y,Y⟩|refine yT ?_|refine zdV Y ?_|refine kE Vi ?_ ?_ ?_|refine zQ YR ?_ ?_|refine jH (xv hr) ?_ ?_ ?_ rfl|refine Xk ?_ ?_ ?_|refine Wc Y T.q1b ?_|refine k8 vJ ?_ ?_ (zM _)|refine zI ?_|refine wE bU cA cB yK ?_ ?_|refine yV xY Y T.q0c x8 ?_|refine wJ ?_|refine Wo ?_ T.q05 (WY T) T.g14 hr zp|refine sU (kD T) T.g24 hr zp ?_|refine tR ?_ T.q05 (xD T) T.g20 hr kK ?_) <;> infer_instance))
local macro_rules|`(())=>`(by infer_instance)
theorem xh:Ba P w K mg base 1 t.a0 t.d0 ["word"] (yg):=by
 have SC:=jO;refine T.g0.f.okA jO λvs H Q E h=>⟨?_,λ_ _ _ _ hr=>⟨wB K t,(zc (zO (zB We (pv 0) (xG (qo (x:="take") (qo (x:="give") (qo (x:="let") (qo (x:="say") (qo (x:="off") (qo (x:="if") (qo (x:="else") (qo (x:="end") (qo (x:="as") zk)))))))))) (by with_unfolding_all rfl)) () zv) (zc (zO (zB We (pv 0) () (by with_unfolding_all rfl)) () zv) ())),Xb h⟩⟩;obtain⟨w,rfl,_⟩:=h;rfl
theorem kC:Ba P w K mg base 1 t.a1 t.d1 ["cell","many"] (xa):=by
 have SC:=Yw;refine T.g1.f.okA Yw λvs H Q E h=>⟨?_,λ_ _ _ _ hr=>⟨YE K t,(zc () (zc () (zc () (zc (yU cw Y () () ()) ())))),V8 h⟩⟩;obtain⟨c,m,rfl,_⟩:=h;rfl
theorem X2:Ba P w K mg base 2 t.a2 t.d2 ["cell"] (vS):=by
 have SC:=q0g;refine T.g2.f.okA q0g λvs H Q E h=>⟨?_,λ_ _ _ _ hr=>⟨qI K t,(zc (Wb (i:=1) q0g.nd Y (pB Y) yI) (zc (zx q0g.nd (wE nT PySem.F.slot_str_join PySem.F.type_str_join zgf yI (zd (zct Y (osc:=zg jM) (N:=["cell","letters","word","one","at","letter"]) (xs:=["number"]) (ix:=[1]) (by lia) (xW (sU (kC T) T.g1 hr zp ())) (λ_ _ _ _=>(kY (i:=0) (show iM (["number","letters"]:List Str) from (by lia)) Y (mj Y) (.inr Y))) (λ_ _ _ _=>Ya) (λ_ _ _ _=>(z4 zbE (pv 1) (zQ xE (pv 0) zq)))) zk))) (zc (zx q0g.nd (sU (xh T) T.g0 hr zp ())) (zc () (zc (zx q0g.nd (z4 zbE (pv 1) (zQ xE (zQ k7 (zQ k7 (wE nT PySem.F.slot_str_find PySem.F.type_str_find zge (pv 1) (zd (z4 zbE (pv 3) (pv 4)) zk)) zq) ()) zq))) (zc (zO (PW.pt (Wa (zB vJ (zQ xE (zQ xx (pv 0) zq) zq) zq (zM _)) (Z5 (zB Yt (zH yN Y T.q09 xZ (zd (pv 3) zk)) zq (zM _))))) (zi (zJ (wK (zd (pv 3) (zd (sU (xh T) T.g0 hr zp ()) zk))))) zv) (zc (zO (PW.pt (Wa (zB vJ (zQ xE (zQ xx (pv 0) zq) zq) zq (zM _)) (Z5 (zB Yt (zH yN Y T.q09 xZ (zd (pv 3) zk)) zq (zM _))))) (zi (zJ (wK (zd (sU (xh T) T.g0 hr zp ()) ())))) zv) (zi (zJ (wK (zd (pv 3) (zd (sU (xh T) T.g0 hr zp (zd (zQ YR (zQ YR (kE zeb (pv 3) Vh ()) (pv 5)) (kE zeb (pv 3) () Vh)) zk)) zk)))))))))))),JH h⟩⟩;obtain⟨c,rfl,_⟩:=h;rfl
theorem wD:Ba P w K mg base 1 t.a3 t.d3 ["number"] (yX):=by
 have SC:=Zz;refine T.g3.f.okA Zz λvs H Q E h=>⟨?_,λ_ _ _ _ hr=>⟨jn K t,(),Ve h⟩⟩;obtain⟨n,rfl,_⟩:=h;rfl
theorem JO:Ba P w K mg base 2 t.a4 t.d4 ["cell","shelves"] (ki):=by
 have SC:=q0i;refine T.g4.f.okA q0i λvs H Q E h=>⟨?_,λ_ _ _ _ hr=>⟨YF K t,(zc (zx q0i.nd (sU (kC T) T.g1 hr zp ())) (zc (Wb (i:=3) q0i.nd Y (pB Y) kG) (zc (yU cw Y () () (zc (zx q0i.nd (sU (wD T) T.g3 hr zp ())) (zi (zO (zB Vr (pv 5) zq (zM _)) () zv)))) (zi (zJ (zct Y (osc:=zg vP) (N:=["cell","shelves","xs","found","k","worth"]) (xs:=["place"]) (ix:=[3]) (by lia) (xW (zH (Qh Y) Y T.q0s Yb ())) (λ_ _ _ _=>(kY (i:=0) (show iM (["place","found"]:List Str) from (by lia)) Y (mj Y) (.inr Y))) (λ_ _ _ _=>Ya) (λ_ _ _ _=>(xG (zd (pv 0) (zd (KW (xv hr) (pv 1) (pv 0) (λ_ _=>rfl)) zk)))))))))),V9 h⟩⟩;obtain⟨c,a,ws,rfl,_⟩:=h;rfl
theorem yi:Ba P w K mg base 1 t.a5 t.d5 ["script","k"] (zU K):=by
 have SC:=qU;refine T.g5.f.okA qU λvs H Q E h=>⟨?_,λ_ _ _ _ hr=>⟨vE K t,(),Ww h⟩⟩;obtain⟨a,ns,k,rfl,_⟩:=h;rfl
theorem Jl(n:Nat)(IH:Ba P w K mg base (2+2*n) t.a7 t.d7 ["rows","first"] (xi n)):Ba P w K mg base (2+2*n+1) t.a6 t.d6 ["row","at"] (ZC n):=by
 have SC:=q0k;refine T.g6.f.okA q0k (k:=2+2*n) λvs H Q E h=>?_;obtain⟨v,e,a,b,k,rfl,h1,h2,h3,h4,q⟩:=h;exact⟨Y,λ_ _ _ _ hr=>⟨ZI K t n,(zc (zx q0k.nd (Xm (sD.mono IH (by lia)) hr Y T.g7.m T.g7.f.kp T.g7.b .nil zp ())) (zc () (zc (zO (zB (zat (zdn hr)) () () (zM _)) () zv) (zc (zx q0k.nd (Xm (sD.mono IH (by lia)) hr Y T.g7.m T.g7.f.kp T.g7.b .nil zp ())) ())))),Vd h1 h2 h3 h4 q⟩⟩
theorem zbq:∀n,sD P w K mg base (tQ P w) (2+2*n) t.a7 t.d7 ["rows","first"] (xi n):=by
 intro n;induction n with
 |zero=>exact⟨λvs H Q E h=>(XR h).elim,λA outer s H args us vs Q E hr he hb hv h=>(XR h).elim⟩
 |succ n IH =>
 refine T.g7.f.okA q0u (k:=2+2*n+1) λvs H Q E h=>?_;obtain⟨v,r,k,rfl,h1,h2,h3,q⟩:=h;exact⟨Y,λ_ _ _ _ hr=>⟨WS K t n,(zc (zx q0u.nd (wK zk)) (zc (yU cw Y (xW (pv 0)) (wc q0u.nd) (zi (zO (zB vJ (z4 yP (pv 3) zq) yI (zM _)) (zi (zI (wE bU PySem.F.slot_list_extend PySem.F.type_list_extend zdh (pv 2) (zd (Xm (sD.mono (Jl T n IH) (by lia)) hr Y T.g6.m T.g6.f.kp T.g6.b .nil zp (zd (pv 3) (zd (zQ k7 (pv 1) (zH yN Y T.q09 xZ (zd (pv 2) zk))) zk))) zk)))) (zi (zI (wE bU cA cB yK (pv 2) (zd (pv 3) zk))))))) (zi (zJ (pv 2))))),Qv h1 h2 h3 q⟩⟩
theorem zce:Ba P w K mg base 15 t.a8 t.d8 ["rows"] (Y5):=by
 have SC:=VU;refine T.g8.f.okA VU λvs H Q E h=>⟨?_,λ_ _ _ _ hr=>⟨Y8 K t,(zi (zJ (sU (zbq T 6) T.g7 hr zp ()))),za4 h⟩⟩;obtain⟨v,r,rfl,_⟩:=h;rfl
theorem JP:Ba P w K mg base 1 t.a9 t.d9 ["self","table"] (kj t):=by
 have SC:=Yx;refine T.q1f.ok0 Yx (λvs H Q E h=>?_) (λcdv A outer s H vs Q E hr h=>?_)
 ·obtain⟨x,h,dx,aT,rfl,_⟩:=h;rfl
 exact⟨kt K t,(zc (yn (f:="ground") (pv 0) (yV (qT Y (hu3 hr)) Y T.q1e zcu ()) Y) (zc (yn (f:="folded") (pv 0) zq Y) (zc (yn (f:="worths") (pv 0) kF Y) (zi (yn (f:="ranks") (pv 0) kG Y))))),V6 (mkF T) h⟩
theorem QQ:Ba P w K mg base 1 t.a10 t.d10 ["self","makes"] (qG t):=by
 have SC:=XB;refine T.q1h.ok0 XB (λvs H Q E h=>?_) (λcdv A outer s H vs Q E hr h=>?_)
 ·obtain⟨x,m,dx,rfl,_⟩:=h;rfl
 exact⟨qJ K t,(zc (yn (f:="makes") (pv 0) (pv 1) Y) (zc (yn (f:="laid") (pv 0) kF Y) (zc (yn (f:="readers") (pv 0) kG Y) (zi (yn (f:="doubted") (pv 0) kF Y))))),JL (dkF T) h⟩
theorem X3:Ba P w K mg base 3 t.a11 t.d11 ["self","table","hands","way","first"] (wz t):=by
 have SC:=XC;refine T.q1j.ok0 XC (λvs H Q E h=>?_) (λcdv A outer s H vs Q E hr h=>?_)
 ·obtain⟨x,l,w,dx,dw,n,f,wo,g,rfl,_⟩:=h;rfl
 exact⟨qK K t,(zc (yn (f:="hands") (pv 0) (pv 2) Y) (zc (yn (f:="way") (pv 0) (pv 3) Y) (zc (yn (f:="first") (pv 0) (pv 4) Y) (zc (yn (f:="codes") (pv 0) () Y) (zc (yn (f:="waiting") (pv 0) () Y) (zc (yn (f:="held") (pv 0) kF Y) (zc (yn (f:="makes") (pv 0) (Z6 T.mk_Makes (sD.mono (JP T) (by lia)) hr Y T.g_Makes T.q1g .nil zp ()) Y) (zc (yn (f:="jobs") (pv 0) (Z6 T.mk_Jobs (sD.mono (QQ T) (by lia)) hr Y T.g_Jobs T.q1i .nil zp ()) Y) (zi (yn (f:="ended") (pv 0) () Y)))))))))),JM (dkF T) h⟩
theorem vH:Ba P w K mg base 1 t.a12 t.d12 ["self"] (xC t):=by
 have SC:=qV;refine T.g12.f.okA qV λvs H Q E h=>?_;obtain⟨d,dx,a,n,f,en,rfl,h1,h2,q⟩:=h;exact⟨Y,λ_ _ _ _ hr=>⟨qY K t,(),WA (dkF T) h1 h2 q⟩⟩
theorem jX:Ba P w K mg base 1 t.a13 t.d13 ["self"] (wA t):=by
 have SC:=jP;refine T.g13.f.okA jP λvs H Q E h=>?_;obtain⟨d,dx,a,n,f,cs,rfl,h1,h2,q⟩:=h;exact⟨Y,λ_ _ _ _ hr=>⟨jU K t,(),Xd (dkF T) h1 h2 q⟩⟩
theorem WY:Ba P w K mg base 1 t.a14 t.d14 ["self"] (yO t):=by
 have SC:=WN;refine T.g14.f.okA WN λvs H Q E h=>⟨?_,λ_ _ _ _ hr=>⟨ZJ K t,(zi (zJ (zik (k8 Xl () xp (zM _)) (KC (k8 zg5 () () (zM _)))))),Qw (rnF T) h⟩⟩;obtain⟨x,a,C,s,rfl,_⟩:=h;rfl
theorem zcf:Ba P w K mg base 1 t.a15 t.d15 ["word","first","second"] (qB t):=by
 have SC:=VV;refine T.g15.f.okB VV λvs H Q E h=>⟨?_,λ_ _ _ _ hr=>⟨Y9 K t E,(zc (zO () (zi (zap Y T.q2f zcv Y T.g_Nought (zd (zcw (pv 0)) zk))) zv) (zi (zJ (Xk () (zQ zek (pv 1) (pv 2)) (zQ zfX (pv 1) (pv 2)))))),za1 h⟩⟩;obtain⟨w,a,b,rfl,_⟩:=h;rfl
theorem zcg:Ba P w K mg base 2 t.a16 t.d16 ["word","first","second"] (qC t):=by
 have SC:=VW;refine T.g16.f.okB VW λvs H Q E h=>⟨?_,λ_ _ _ _ hr=>⟨Xa K t E,(zc () (zc () (zc () (zc () (zc () (zi (zJ (sU (zcf T) T.g15 hr kK ())))))))),za2 h⟩⟩;obtain⟨w,a,b,rfl,_⟩:=h;rfl
theorem zbr:Ba P w K mg base 1 t.a17 t.d17 ["thing"] (ZA):=by
 have SC:=WO;refine T.g17.f.okA WO λvs H Q E h=>?_;obtain⟨i,rfl,q⟩:=h;exact⟨Y,λ_ _ _ _ hr=>⟨ZK K t,(zc (zO (PW.pt (qS (wJ (yT (zH yt Y T.q08 zL (zd (pv 0) (zd (yM Y T.b_int K7 Y) zk))))) (j6 (yT (zH yt Y T.q08 zL (zd (pv 0) (zd (yM Y T.q1a K8 Y) zk))))))) (zi (zJ (vY (b:=aq)))) zv) (zi (zJ (Q8 zdZ zdZ (zdX zbA ()) (pv 0) ())))),Qt (kf K).i_b q⟩⟩
theorem zdT:Ba P w K mg base 3 t.a18 t.d18 ["word","first","second"] (Yd t):=by
 have SC:=q0v;refine T.g18.f.okB q0v λvs H Q E h=>⟨?_,λ_ _ _ _ hr=>⟨Wu K t E,(zc (zx q0v.nd (sU (zcg T) T.g16 hr kK ())) (zc (zO (wJ (yT (sU (zbr T) T.g17 hr kK ()))) (zi (zap Y T.q2i zcv Y T.g_Great (zd (zcw (pv 0)) zk))) zv) ())),zb4 h⟩⟩;obtain⟨w,a,b,rfl,_⟩:=h;rfl
theorem zbs:Ba P w K mg base 4 t.a19 t.d19 ["term","slots"] (ZB t):=by
 have SC:=q0h;refine T.g19.f.okB q0h λvs H Q E h=>?_;obtain⟨aO,tm,sl,ps,r,rfl,h1,h2,h3,h4,h5,h6,q⟩:=h;exact⟨Y,λ_ _ _ _ hr=>⟨ZL K t E,(zc (zx q0h.nd (wK zk)) (zc (yU ziR Y (zhw (pv 0)) (wc q0h.nd) (zi (zO (zB We (pv 3) (zfV Y T.g_JOINING Y) (by with_unfolding_all rfl)) (zc (zx q0h.nd (zbF bU i3 i4 zbH (pv 2))) (zc (zx q0h.nd (zbF bU i3 i4 zbH (pv 2))) (zi (zI (wE bU cA cB yK (pv 2) (zd (sU (zdT T) T.g18 hr kK (zd (pv 3) (zd (pv 5) (zd (pv 4) zk)))) zk)))))) (zi (zI (wE bU cA cB yK (pv 2) (zd (Xk (yT (zH yt Y T.q08 zL (zd (pv 3) (zd (yM Y T.q0t K4 Y) zk)))) (zaj (xv hr) (pv 1) (pv 3) zq ⟨Y,Y,Y,Y⟩) (pv 3)) zk))))))) (zi (zJ (zbF bU i3 i4 zbH (pv 2)))))),Qu (kf K).i_s T.q1o h1 h2 h3 h4 h5 h6 q⟩⟩
theorem xD:Ba P w K mg base 5 t.a20 t.d20 ["self","term"] (zZ t):=by
 have SC:=qW;refine T.g20.f.okB qW λvs H Q E h=>?_;obtain⟨x,tm,e,a,C,s,rfl,h1,h2,h3,h4,q⟩:=h;exact⟨Y,λ_ _ _ _ hr=>⟨vF K t E,(zi (zJ (sU (zbs T) T.g19 hr kK ()))),Wy (rnF T) h1 h2 h3 h4 q⟩⟩
theorem vI:Ba P w K mg base 6 t.a21 t.d21 ["self","due"] (yL t):=by
 have SC:=qX;refine T.g21.f.okB qX λvs H Q E h=>⟨?_,λ_ _ _ _ hr=>⟨vG K t E,(),Wz (rnF T) h⟩⟩;obtain⟨x,p,xs,sh,te,e,a,C,s,rfl,_⟩:=h;rfl
theorem WZ:Ba P w K mg base 7 t.a22 t.d22 ["self"] (jR t):=by
 have SC:=q0w;refine T.g22.f.okA q0w λvs H Q E h=>⟨?_,λ_ _ _ _ hr=>⟨WT K t,(zc (zO (PW.pt (qS (yT (Wo (pv 0) T.q05 (WY T) T.g14 hr zp)) (j6 (zB Vr (z4 yP (z4 qd (yj (pv 0) Y) (yj (pv 0) Y)) zq) yI (zM _))))) () zv) (zc (zgv (And.intro rfl rfl) rfl (zga (i:=1) q0w.nd rfl (mj rfl) (zaF (pv 0) T.q05 T.g21.me (sD.mono (vI T) (by lia)) hr T.g21.b ())) rfl T.g_Great rfl T.g_Nought (λ_=>(zi (zJ xp)))) (zc (zO (PW.pt (qS (zB (Vk (xv hr)) (pv 1) (yj (pv 0) rfl) (by with_unfolding_all rfl)) (j6 (zB (Vk (xv hr)) (pv 1) (yj (pv 0) rfl) (by with_unfolding_all rfl))))) () zv) ()))),QN T h⟩⟩;obtain⟨x,a,C,s,rfl,_⟩:=h;rfl
theorem jB:Ba P w K mg base 1 t.a23 t.d23 ["self","rank"] (yG t):=by
 have SC:=jf;refine T.g23.f.okA jf λvs H Q E h=>⟨?_,λ_ _ _ _ hr=>⟨xK K t,(zi (zO () (zi Q6) zv)),Yl (mkF T) h⟩⟩;obtain⟨m,dx,fs,low,aN,rfl,_⟩:=h;rfl
theorem kD:Ba P w K mg base 1 t.a24 t.d24 ["ranks","rank"] (yy):=by
 have SC:=Yy;refine T.g24.f.okA Yy λvs H Q E h=>⟨?_,λ_ _ _ _ hr=>⟨YJ K t,(zc () (zc () (zc (Q7 cw () ()) ()))),Jj h⟩⟩;obtain⟨a,rs,aN,rfl,_⟩:=h;rfl
theorem YQ:Ba P w K mg base 2 t.a25 t.d25 ["self","place","rank"] (ko t):=by
 have SC:=Yz;refine T.g25.f.okA Yz λvs H Q E h=>?_;obtain⟨m,p,aN,F,g,lays,q0,rfl,h1,h2,h3,q⟩:=h;exact⟨Y,λ_ _ _ _ hr=>⟨ku K t,(zc (zI (tR (pv 0) T.q0d (jB T) T.g23 hr zp ())) ()),Jk (mkF T) h1 h2 h3 q⟩⟩
theorem QR:Ba P w K mg base 1 t.a26 t.d26 ["self","place","worth"] (qD t):=by
 have SC:=XD;refine T.g26.f.okA XD λvs H Q E h=>⟨?_,λ_ _ _ _ hr=>⟨qL K t,(zc (zO (zB (Vk (xv hr)) (pv 1) () (by with_unfolding_all rfl)) () zv) (zc (zO (zB (VM (xv hr)) (pv 1) () (by with_unfolding_all rfl)) () zv) ())),JA (rnF T) h⟩⟩;obtain⟨x,q,p,w,a,C,s,rfl,_⟩:=h;rfl
theorem zbt:Ba P w K mg base 7 t.a27 t.d27 ["self","due","worth"] (ZE t):=by
 have SC:=q0x;refine T.g27.f.okB q0x λvs H Q E h=>⟨?_,λ_ _ _ _ hr=>⟨WU K t E,(zi (zO (zB vJ (z4 yP (pv 1) zq) yI (zM _)) (zi (jH (xv hr) (yj (pv 0) Y) (z4 yP (pv 1) zq) (tR (pv 0) T.q05 (QR T) T.g26 hr kK (zd (tR (pv 0) T.q05 (vI T) T.g21 hr kK (zd (pv 1) zk)) (zd (pv 2) zk))) Y)) (zi (zO (zB vJ (z4 yP (pv 1) zq) yI (zM _)) (zc (zx q0x.nd (tR (pv 0) T.q05 (vI T) T.g21 hr kK (zd (pv 1) zk))) (zi (jH (xv hr) (yj (pv 0) Y) (pv 3) (tR (pv 0) T.q05 (xD T) T.g20 hr kK (zd (z4 yP (pv 1) zq) zk)) Y))) (zi (zO (zB vJ (z4 yP (pv 1) zq) yI (zM _)) (zi (jH (xv hr) (yj (pv 0) Y) (z4 yP (pv 1) zq) (tR (pv 0) T.q05 (xD T) T.g20 hr kK (zd (z4 yP (pv 1) zq) zk)) Y)) (zi (zI (wE bU cA cB yK (yj (pv 0) Y) (zd (tR (pv 0) T.q05 (xD T) T.g20 hr kK (zd (z4 yP (pv 1) zq) zk)) zk)))))))))),QL (rnF T) h⟩⟩;obtain⟨x,v,r,w,m,a,C,s,rfl,_⟩:=h;rfl
theorem JQ:Ba P w K mg base 8 t.a28 t.d28 ["self","due","worth"] (kh t):=by
 have SC:=YA;refine T.g28.f.okB YA λvs H Q E h=>⟨?_,λ_ _ _ _ hr=>⟨YL K t E,(zc () (zc () (zc (zO () (zi (zO (zB Vr () zq (zM _)) (zi (yn (f:="why") (pv 0) yI Y)) zv)) (zi (zI (tR (pv 0) T.q05 (zbt T) T.g27 hr kK ())))) ()))),Ji (rnF T) h⟩⟩;obtain⟨x,v,c,w,m,a,C,s,rfl,_⟩:=h;rfl
theorem jY:Ba P w K mg base 9 t.a29 t.d29 ["self","worth"] (xU t):=by
 have SC:=WP;refine T.q1l.ok0 WP (λvs H Q E h=>?_) (λcdv A outer s H vs Q E hr h=>?_)
 ·obtain⟨x,w,m,a,C,s,rfl,_⟩:=h;rfl
 exact⟨WV K t,(zc (zO () (zi zfW) zv) (zi (zeH (And.intro rfl rfl) rfl (zgu (f:="at") (pv 0) (zaF (pv 0) T.q05 T.g28.me (sD.mono (JQ T) (by lia)) hr T.g28.b ()) rfl) rfl T.g_Great rfl T.g_Nought (λ_=>(zi (yn (f:="why") (pv 0) yI rfl))) (λ_=>(zi (yn (f:="why") (pv 0) yI rfl)))))),QO T h⟩
theorem Z4:Ba P w K mg base 3 t.a30 t.d30 ["self","rank"] (vh t):=by
 have SC:=q0y;refine T.g30.f.okA q0y λvs H Q E h=>?_;obtain⟨d,a,lb,Bp,la,g,lays,PP,cs,CC,aN,r,no,gi,rfl,h1,h2,h3,h4,h5,h6,q1,q2⟩:=h;exact⟨Y,λ_ _ _ _ hr=>⟨vi K t,(zc (yU cw Y () () (zc (zx q0y.nd (tR () T.q0d (YQ T) T.g25 hr zp ())) (zi (zO (zB Vr (pv 4) (pv 3) (zM _)) () zv)))) ()),Zc (dkF T) h1 h2 h3 h4 h5 h6 q1 q2⟩⟩
theorem qR:Ba P w K mg base 4 t.a31 t.d31 ["self"] (ww t):=by
 have SC:=q0l;refine T.g31.f.okA q0l λvs H Q E h=>?_;obtain⟨⟨d,a,lb,n,f,wo,cs,ws,kv,la,db,en,g,lays,ld,CC⟩,rfl,h1,h2,h3,h4,h5,q1,q2⟩:=h;exact⟨Y,λ_ _ _ _ hr=>⟨wC K t,(zc (zx q0l.nd (zH (Qr Y) Y T.q0s Yb ())) (zc (yU cw Y () () (zc (zx q0l.nd (tR (pv 0) T.q0f (Z4 T) T.g30 hr zp ())) (zc (zO (zB Xl (pv 3) xp (zM _)) (zi (zJ (zQ zcm () (pv 3)))) zv) (zi (zI (Vw () (pv 2) ⟨Y,Y,Y,Y⟩)))))) ())),kU (dkF T) h1 h2 h3 h4 h5 q1 q2⟩⟩
theorem X4:Ba P w K mg base 1 t.a32 t.d32 ["ranks_at","place","rank"] (xn):=by
 have SC:=q0z;refine T.g32.f.okA q0z λvs H Q E h=>⟨?_,λ_ _ _ _ hr=>⟨qM K t,(zc (zx q0z.nd (KW (xv hr) (pv 0) (pv 1) (λ_ _=>rfl))) (zc (zI (wE bU mU mV Kj (pv 3) (zd (pv 2) zk))) (zi (zO (zB (zat (zdn hr)) (pv 3) (wK zk) (zM _)) (zi (zI (ze4 (xv hr) (pv 0) (pv 1) ⟨Y,Y,Y,Y⟩))) zv)))),JC h⟩⟩;obtain⟨rk,pl,aN,G,P,kk,q0,rfl,_⟩:=h;rfl
theorem kX:Ba P w K mg base 2 t.a33 t.d33 ["self","rank"] (wR t):=by
 have SC:=q10;refine T.g33.f.okA q10 λvs H Q E h=>?_;obtain⟨⟨d,a,lb,n,f,wo,cs,ws,kv,la,db,en,g,lays,ld,CC⟩,aN,s,gi,rfl,h1,h2,h3,h4,h5,h6,q⟩:=h;exact⟨Y,λ_ _ _ _ hr=>⟨kR K t,(zc (zx q10.nd (Vw () (pv 1) ⟨Y,Y,Y,Y⟩)) (zc (zI (zak () (pv 1) xp ⟨Y,Y,Y,Y⟩)) (zc (yU cw Y () () (zi (zI (sU (X4 T) T.g32 hr zp ())))) ()))),XX (dkF T) h1 h2 h3 h4 h5 h6 q⟩⟩
theorem X5:Ba P w K mg base 1 t.a34 t.d34 ["self","ranks"] (jT t):=by
 have SC:=jQ;refine T.g34.f.okA jQ λvs H Q E h=>?_;obtain⟨x,l,ws,rfl,h1,h2,q⟩:=h;exact⟨Y,λ_ _ _ _ hr=>⟨jV K t,(zi (zJ (z4 qd (pv 1) (zdX zbA zq)))),Xe  h1 h2 q⟩⟩
theorem JR:Ba P w K mg base 1 t.a35 t.d35 ["self","ranks"] (YD t):=by
 have SC:=YB;refine T.g35.f.okA YB λvs H Q E h=>?_;obtain⟨x,l,ws,rfl,h1,h2,q⟩:=h;exact⟨Y,λ_ _ _ _ hr=>⟨YM K t,(),Jd  h1 h2 q⟩⟩
theorem W0:Ba P w K mg base 1 t.a36 t.d36 ["self","code"] (ZD t):=by
 have SC:=WQ;refine T.q1m.ok0 WQ (λvs H Q E h=>?_) (λcdv A outer s H vs Q E hr h=>?_)
 ·obtain⟨x,l,dx,xs,C,rfl,_⟩:=h;rfl
 obtain⟨x,l,dx,xs,C,rfl,h1,h2,h3,q⟩:=h;exact⟨ZM K t,(zc (yn (f:="code") (pv 0) () Y) (zc (yn (f:="at") (pv 0) zq Y) (zc (yn (f:="why") (pv 0) xp Y) (zc (yn (f:="slots") (pv 0) kF Y) (zc (yn (f:="gifts") (pv 0) kG Y) (zc (yn (f:="notes") (pv 0) kG Y) (zi (yn (f:="sayings") (pv 0) () Y)))))))),JK (rnF T) h1 h2 h3 q⟩
theorem WD:Ba P w K mg base 3 t.a37 t.d37 ["self","hand"] (wS t):=by
 have SC:=q11;refine T.g37.f.okA q11 λvs H Q E h=>⟨?_,λ_ _ _ _ hr=>⟨kS K t,(zc (zx q11.nd (ze9 (yj (pv 0) Y) (zcG (zhi T.q1y T.g34.me (sD.mono (X5 T) (by lia)) hr T.g34.b) (zcG (zhi T.q2e T.g35.me (sD.mono (JR T) (by lia)) hr T.g35.b) zhT)) zp (zd (yV xY Y T.q0c x8 (zd (yj (pv 0) Y) zk)) zk))) (zc (zI (wE bU mU mV Kj (yj (pv 0) Y) (zd (pv 2) zk))) (zc (jH (xv hr) (yj (pv 0) Y) (pv 1) (xG (zd (pv 2) (zd (Z6 T.mk_Run (sD.mono (W0 T) (by lia)) hr Y T.g_Run T.q1d .nil zp (zd (z4 qd (yj (pv 0) Y) (zQ zby (pv 2) (yj (pv 0) Y))) zk)) zk))) Y) (zi (zJ (xG (zd yI (zd (pv 1) (zd (pv 2) zk))))))))),X0 (dkF T) h⟩⟩;obtain⟨d,a,lb,n,f,h,g,CC,S,rfl,_⟩:=h;rfl
theorem Xf:Ba P w K mg base 5 t.a38 t.d38 ["self","hand"] (xI t):=by
 have SC:=q0m;refine T.g38.f.okA q0m λvs H Q E h=>⟨?_,λ_ _ _ _ hr=>⟨jp K t,(zc (zx q0m.nd (Wo (pv 0) T.q0b (vH T) T.g12 hr zp)) (zc (zx q0m.nd (Wo (yj (pv 0) Y) T.q0f (qR T) T.g31 hr zp)) (zc (zO (PW.pt (Wa (zB (Vk (xv hr)) (pv 2) (yj (yj (pv 0) Y) Y) (by with_unfolding_all rfl)) (Z5 (PW.pt (qS (zB KK (pv 3) xp (zM _)) (j6 (zB Vr (z4 yP (pv 3) zq) (pv 2) (zM _)))))))) (zc (zI (wE bU cA cB yK (yj (pv 0) Y) (zd (tR (yj (pv 0) Y) T.q0f (kX T) T.g33 hr zp (zd (pv 2) zk)) zk))) (zi (zJ (xG (zd yI (zd (pv 1) (zd (pv 2) zk))))))) zv) (zc (zO (zB Xl (pv 3) xp (zM _)) (zc (zI (tR (yj (pv 0) Y) T.q0f (kX T) T.g33 hr zp (zd (z4 yP (pv 3) zq) zk))) (zc (zI (wE bU mW mX Ki (yj (pv 0) Y) (zd (sU (kD T) T.g24 hr zp (zd (yj (pv 0) Y) (zd (z4 yP (pv 3) zq) zk))) (zd (z4 yP (pv 3) zq) zk)))) (zi (zJ (zQ zcm (xG (zd yI (zd (pv 1) zk))) (pv 3)))))) zv) (zc (zO (zB (zeZ (zdn hr)) (yj (pv 0) Y) (wK zk) (zM _)) (zi (zJ (tR (pv 0) T.q0b (WD T) T.g37 hr zp (zd (pv 1) zk)))) zv) (zi (zJ (xG (zd yI (zd (pv 1) zk)))))))))),Yo (dkF T) h⟩⟩;obtain⟨d,a,lb,n,f,h,g,CC,S,rfl,_⟩:=h;rfl
theorem xP:Ba P w K mg base 1 t.a39 t.d39 ["self","rank"] (yo t):=by
 have SC:=jg;refine T.g39.f.okA jg λvs H Q E h=>⟨?_,λ_ _ _ _ hr=>⟨xL K t,(zi (zJ (yV (VR Y) Y T.q0c x8 ()))),Ym (mkF T) h⟩⟩;obtain⟨m,aN,F,g,lays,low,rfl,_⟩:=h;rfl
theorem Xg:Ba P w K mg base 2 t.a40 t.d40 ["self","rank"] (yZ t):=by
 have SC:=q12;refine T.g40.f.okA q12 λvs H Q E h=>⟨?_,λ_ _ _ _ hr=>⟨xM K t,(zc (zx q12.nd (tR (pv 0) T.q0d (xP T) T.g39 hr zp ())) (zc (zI (zak () (pv 1) xp ⟨Y,Y,Y,Y⟩)) (zi (yU cw Y () () (zi (zI (sU (X4 T) T.g32 hr zp ()))))))),Yn (mkF T) h⟩⟩;obtain⟨m,aN,F,g,lays,low,rfl,_⟩:=h;rfl
theorem W1:Ba P w K mg base 2 t.a41 t.d41 ["ranks_at","place","rank"] (vg):=by
 have SC:=q13;refine T.g41.f.okA q13 λvs H Q E h=>⟨?_,λ_ _ _ _ hr=>⟨WW K t,(zc (zx q13.nd (ze5 (xv hr) (pv 0) (pv 1) (wK zk) ⟨Y,Y,Y,Y⟩)) (zi (zI (wE bU mW mX Ki (pv 3) (zd (sU (kD T) T.g24 hr zp (zd (pv 3) (zd (pv 2) zk))) (zd (pv 2) zk)))))),QP h⟩⟩;obtain⟨rk,pl,aN,G,P,kk,q0,rfl,_⟩:=h;rfl
theorem QS:Ba P w K mg base 3 t.a42 t.d42 ["self","rank","gifts"] (XJ t):=by
 have SC:=q14;refine T.g42.f.okA q14 λvs H Q E h=>?_;obtain⟨m,aN,gv,F,g,lays,gs,rfl,h1,h2,h3,h4,h5,h6,q⟩:=h;exact⟨Y,λ_ _ _ _ hr=>⟨vW K t,(zc (zI (tR (pv 0) T.q0d (jB T) T.g23 hr zp ())) (zc (zI (tR (pv 0) T.q0d (Xg T) T.g40 hr zp ())) (zc (zx q14.nd (yV (qT Y (hu3 hr)) Y T.q1e zcu ())) (zc (zhM (yU cw Y (zeD (pv 3)) () (zi (zI (sU (W1 T) T.g41 hr zp ()))))) ())))),JE (mkF T) h1 h2 h3 h4 h5 h6 q⟩⟩
theorem Ys:Ba P w K mg base 2 t.a43 t.d43 ["self","place","rank"] (xt t):=by
 have SC:=vK;refine T.g43.f.okA vK λvs H Q E h=>⟨?_,λ_ _ _ _ hr=>⟨vM K t,(),ZZ (mkF T) h⟩⟩;obtain⟨m,p,aN,F,g,lays,q0,rfl,_⟩:=h;rfl
theorem JS:Ba P w K mg base 3 t.a44 t.d44 ["self","place","rank"] (YC t):=by
 have SC:=q0n;refine T.g44.f.okA q0n λvs H Q E h=>?_;obtain⟨⟨d,a,lb,n,f,wo,cs,ws,kv,la,db,en,g,lays,ld,CC⟩,p,aN,q0,rfl,h1,h2,h3,h4,q⟩:=h;exact⟨Y,λ_ _ _ _ hr=>⟨YN K t,(zc () (zc (zx q0n.nd (tR () T.q0d (Ys T) T.g43 hr zp ())) (zc (zx q0n.nd (Xk (zB KK (pv 4) xp (zM _)) () ())) (zi (yU cw Y () () (zi (jH (xv hr) () (pv 6) (vY (b:=ah)) Y))))))),Jc (dkF T) h1 h2 h3 h4 q⟩⟩
theorem WE:Ba P w K mg base 4 t.a45 t.d45 ["self","rank","paper"] (kP t):=by
 have SC:=q15;refine T.g45.f.okA q15 λvs H Q E h=>?_;obtain⟨⟨d,a,lb,n,f,wo,cs,ws,kv,la,db,en,g,lays,ld,CC⟩,r,aN,s,gi,rfl,h1,h2,h3,h4,h5,h6,h7,h8,h9,h10,q⟩:=h;exact⟨Y,λ_ _ _ _ hr=>⟨kT K t,(zc (zx q15.nd (tR () T.q0d (xP T) T.g39 hr zp ())) (zc (zI (tR () T.q0d (QS T) T.g42 hr zp ())) (zc (yU cw Y (xW (zQ zd7 (pv 3) (tR () T.q0d (xP T) T.g39 hr zp ()))) () (zi (zI (tR (pv 0) T.q0f (JS T) T.g44 hr zp ())))) (zc () (zc (jH (xv hr) () (pv 1) (vY (b:=ah)) Y) (zi (yU cw Y () () (zi (zI (sU (W1 T) T.g41 hr zp ())))))))))),XY (dkF T) h1 h2 h3 h4 h5 h6 h7 h8 h9 h10 q⟩⟩
theorem X6:Ba P w K mg base 2 t.a46 t.d46 ["self"] (vR t):=by
 have SC:=q16;refine T.g46.f.okA q16 λvs H Q E h=>⟨?_,λ_ _ _ _ hr=>⟨qN K t,(zc () (zc (zx q16.nd (yV (W5 Y) Y T.q0c x8 (zd (zaG ()) zk))) (zc (zO (zB Xl () xp (zM _)) () zv) (zi (zJ (xG (zd (xG (zd yI (zd (yV Jp Y T.b_tuple Xs ()) zk))) (zd (pv 1) (zd (zH (Xz Y (hu3 hr)) Y T.q0s Yb (zd (zaG ()) zk)) zk))))))))),JB (rnF T) h⟩⟩;obtain⟨x,a,C,s,rfl,_⟩:=h;rfl
theorem X7:Ba P w K mg base 10 t.a47 t.d47 ["self","hand"] (vV t):=by
 have SC:=q0o;refine T.g47.f.okA q0o λvs H Q E h=>⟨?_,λ_ _ _ _ hr=>⟨XN K t,(zc (zO (PW.pt (qS (zB Yt (pv 1) zq (zM _)) (j6 (zB zg5 (pv 1) (yj (pv 0) Y) (zM _))))) (zi Q6) zv) (zc (zO (zB (VM (xv hr)) (pv 1) () (by with_unfolding_all rfl)) (zi (zJ (tR (pv 0) T.q0b (Xf T) T.g38 hr zp ()))) zv) (zc () (zc () (zc (zO () (zc (zI (Vw () (pv 1) ⟨Y,Y,Y,Y⟩)) (zc (zI (tR () T.q0f (WE T) T.g45 hr zp (zd (pv 2) (zd (Wo (pv 3) T.q05 (X6 T) T.g46 hr zp) zk)))) ())) zv) (zc (zx q0o.nd (Wo (pv 3) T.q05 (WZ T) T.g22 hr zp)) (zc (zO (zB KK (pv 4) xp (zM _)) (zc (zI (Kk (pv 3) T.q05 T.me_Run_step (sD.mono (jY T) (by lia)) hr T.bd_Run_step zp)) ()) zv) (zc (zx q0o.nd (tR () T.q0d (YQ T) T.g25 hr zp ())) (zc (zI (KP (pv 3) T.q05 T.me_Run_step (sD.mono (jY T) (by lia)) hr T.q1c .nil zp ())) ()))))))))),JJ (dkF T) h⟩⟩;obtain⟨d,a,lb,n,f,h,g,CC,S,rfl,_⟩:=h;rfl
theorem Jm:Ba P w K mg base 11 t.a48 t.d48 ["self"] (jj t):=by
 have SC:=q17;refine T.g48.f.okA q17 λvs H Q E h=>⟨?_,λ_ _ _ _ hr=>⟨ZS K t,(zc (zx q17.nd (wK zk)) (zc (Q7 cw (zB Yt (Wo (pv 0) T.q0b (vH T) T.g12 hr zp) (Wo (pv 0) T.q0b (jX T) T.g13 hr zp) (zM _)) (zi (zI (wE bU cA cB yK (pv 1) (zd (tR (pv 0) T.q0b (X7 T) T.g47 hr zp (zd (zQ xE (zH yN Y T.q09 xZ (zd (pv 1) zk)) (yj (pv 0) Y)) zk)) zk))))) (zi (zJ (pv 1))))),Vf (dkF T) h⟩⟩;obtain⟨d,a,lb,n,f,g,CC,S,J,rfl,_⟩:=h;rfl
theorem QT:Ba P w K mg base 2 t.a49 t.d49 ["number","slots"] (qE):=by
 have SC:=XE;refine T.g49.f.okA XE λvs H Q E h=>⟨?_,λ_ _ _ _ hr=>⟨qO K t,(zc () (zc () (zc () (zc (zO (PW.pt (Wa (zB vJ (pv 2) zq (zM _)) (Z5 (zB vJ (zQ xE (zQ xx (pv 0) zq) zq) zq (zM _))))) () zv) (zc () (zi (zJ (xG (zd (sU (wD T) T.g3 hr zp ()) zk))))))))),JF h⟩⟩;obtain⟨n,a,ws,rfl,_⟩:=h;rfl
theorem X8:Ba P w K mg base 2 t.a50 t.d50 ["number","slots"] (vT):=by
 have SC:=XG;refine T.g50.f.okA XG λvs H Q E h=>⟨?_,λ_ _ _ _ hr=>⟨qP K t,(zc () (zc () (zc (zO () (zi (zJ (xG (zd (sU (wD T) T.g3 hr zp ()) zk)))) zv) (zc () (zc (zO () (zi (zJ (xG (zd () (zd (sU (wD T) T.g3 hr zp ()) ()))))) zv) ()))))),JG h⟩⟩;obtain⟨n,a,ws,rfl,_⟩:=h;rfl
theorem zbu:Ba P w K mg base 3 t.a51 t.d51 ["xs","shelves","slots"] (ZG):=by
 have SC:=q0p;refine T.g51.f.okA q0p λvs H Q E h=>⟨?_,λ_ _ _ _ hr=>⟨ZU K t,(zc () (zc () (zc () (zc (zx q0p.nd (sU (QT T) T.g49 hr zp ())) (zc (zx q0p.nd (sU (X8 T) T.g50 hr zp ())) ()))))),QE h⟩⟩;obtain⟨p,a,b,ds,us,ws,rfl,_⟩:=h;rfl
theorem QU:Ba P w K mg base 4 t.a52 t.d52 ["cell","shelves","slots"] (qF):=by
 have SC:=q0j;refine T.g52.f.okA q0j λvs H Q E h=>⟨?_,λ_ _ _ _ hr=>⟨XO K t,(zc (Wb (i:=3) q0j.nd Y (pB Y) (sU (kC T) T.g1 hr zp ())) (zc (qh (j:=4) q0j.nd Y Y (mj Y) (osc:=zg jN) (N:=["cell","shelves","slots","xs","rows","at","to","row"]) (xs:=["k"]) (ix:=[3,1,2]) (by lia) () (λ_ _ _ _=>(kY (i:=0) (show iM (["k","xs","shelves","slots"]:List Str) from (by lia)) Y (mj Y) (.inr Y))) (λ_ _ _ _=>Ya) (λ_ _ _ _=>(sU (zbu T) T.g51 hr zp (zd (kE Vi (pv 1) (Z7 (zQ Qa zq (pv 0))) (Z7 (zQ k7 (zQ Qa zq (pv 0)) zq))) (zd (pv 2) (zd (pv 3) zk)))))) (zc (zO () (zc () (zc () (zc (zx q0j.nd (xG (zd yI (zd (sU (X8 T) T.g50 hr zp ()) ())))) ()))) zv) ()))),JI h⟩⟩;obtain⟨c,a,b,us,ws,rfl,_⟩:=h;rfl
theorem W2:Ba P w K mg base 2 t.a53 t.d53 ["self","code"] (jS t):=by
 have SC:=q18;refine T.g53.f.okA q18 λvs H Q E h=>⟨?_,λ_ _ _ _ hr=>⟨WX K t,(zc (zx q18.nd (Wo (pv 0) T.q0b (jX T) T.g13 hr zp)) (zc (zI (wE bU cA cB yK (yj (pv 0) Y) (zd (yV xY Y T.q0c x8 (zd (pv 1) zk)) zk))) (zc (zI (wE bU cA cB yK (yj (pv 0) Y) (zd (pv 2) zk))) (zi (zJ (pv 2)))))),QI (dkF T) h⟩⟩;obtain⟨d,v,a,lb,n,f,g,CC,C,S,rfl,_⟩:=h;rfl
theorem QV:Ba P w K mg base 1 t.a54 t.d54 ["table","laid","place","rank"] (qH ):=by
 have SC:=XH;refine T.g54.f.okA XH λvs H Q E h=>⟨?_,λ_ _ _ _ hr=>⟨XQ K t,(zc (yU cw Y (xW (zgw Y Y T.q0s Yb ())) () (zi (zO () (zi (yU cw Y () () (zi (zO (zB (zaB (zdn hr)) (pv 5) (pv 2) (zM _)) () zv)))) zv))) (zc (yU cw Y () () (zi (zO (zB (zaB (zdn hr)) (pv 5) (pv 2) (zM _)) () zv))) ())),JN h⟩⟩;obtain⟨tl,ll,p,aN,g,kv,rs,ls,lw,q0,rfl,_⟩:=h;rfl
theorem wX:∀n,sD P w K mg base (tQ P w) (1+n) t.a55 t.d55 ["found","due"] (yQ n):=by
 intro n;induction n with
 |zero=>exact⟨λvs H Q E h=>(Z1 h).elim,λA outer s H args us vs Q E hr he hb hv h=>(Z1 h).elim⟩
 |succ n IH =>
 refine T.g55.f.okA q19 (k:=1+n) λvs H Q E h=>?_;obtain⟨v,u,rfl,h1,q⟩:=h;exact⟨Y,λ_ _ _ _ hr=>⟨kB K t n,(zc (zO (PW.pt (qS (yT (zH yt Y T.q08 zL (zd (pv 1) (zd (yM Y T.q0c x8 Y) zk)))) (j6 (yT (zH yt Y T.q08 zL (zd (pv 1) (zd (yM Y T.b_tuple Xs Y) zk))))))) (zc (zO (PW.pt (Wa (wJ (yT (zH yt Y T.q08 zL (zd (pv 0) (zd (yM Y T.q0c x8 Y) zk))))) (Z5 (wJ (yT (zH yt Y T.q08 zL (zd (pv 0) (zd (yM Y T.b_tuple Xs Y) zk)))))))) (zi (zJ (vY (b:=aq)))) zv) (zc (zO (PW.pt (qS (zB Vr (zH yt Y T.q08 zL (zd (pv 0) (zd (yM Y T.q0c x8 Y) zk))) (zH yt Y T.q08 zL (zd (pv 1) (zd (yM Y T.q0c x8 Y) zk))) (zM _)) (j6 (zB Vr (zH yN Y T.q09 xZ (zd (pv 0) zk)) (zH yN Y T.q09 xZ (zd (pv 1) zk)) (zM _))))) (zi (zJ (vY (b:=aq)))) zv) (zc (yU cw Y (zhJ Y T.b_zip (zd (pv 0) (zd (pv 1) zk))) (zdV Y (Vp (wc q19.nd) (Vp (wc q19.nd) zch))) (zi (zO (wJ (yT (Xm (sD.mono IH (by lia)) hr Y T.g55.m T.g55.f.kp T.g55.b .nil zp (zd (pv 2) (zd (pv 3) zk))))) (zi (zJ (vY (b:=aq)))) zv))) (zi (zJ (vY (b:=ah))))))) zv) (zc (zO (yT (zH yt Y T.q08 zL (zd (pv 1) (zd (yM Y T.q0t K4 Y) zk)))) (zi (zJ (KD (zH yt Y T.q08 zL (zd (pv 0) (zd (yM Y T.q0t K4 Y) zk))) (KC (k8 vJ (pv 0) (pv 1) (zM _)))))) zv) (zi (zJ (KD (zH yt Y T.q08 zL (zd (pv 0) (zd (yM Y T.b_int K7 Y) zk))) (KD (zhu (zH yt Y T.q08 zL (zd (pv 0) (zd (yM Y T.q1a K8 Y) zk)))) (KC (k8 vJ (pv 0) (pv 1) (zM _))))))))),Jg (kf K) h1 q⟩⟩
theorem Xh:Ba P w K mg base 10 t.a56 t.d56 ["row","hand","rank","run","table","laid"] (y6 t):=by
 have SC:=q0q;refine T.g56.f.okA q0q λvs H Q E h=>⟨?_,λ_ _ _ _ hr=>⟨ju K t,(zc (zO () (zc (jH (xv hr) (pv 5) (pv 2) (z4 yP (Wo (pv 3) T.q05 (X6 T) T.g46 hr zp) zq) Y) (zi (zJ (sU (wX T 3) T.g55 hr zp ())))) zv) (zc (zx q0q.nd (Wo (pv 3) T.q05 (WZ T) T.g22 hr zp)) (zc (zO (zB KK (pv 6) xp (zM _)) (zc (zI (Kk (pv 3) T.q05 T.me_Run_step (sD.mono (jY T) (by lia)) hr T.bd_Run_step zp)) (zi (zJ (sU (wX T 3) T.g55 hr zp ())))) zv) (zc (zx q0q.nd (sU (QV T) T.g54 hr zp ())) (zc (zI (KP (pv 3) T.q05 T.me_Run_step (sD.mono (jY T) (by lia)) hr T.q1c .nil zp ())) (zi (zJ (sU (wX T 3) T.g55 hr zp ())))))))),Yp h⟩⟩;obtain⟨v,h,r,x,tl,ll,ra,C,s,j,e,g,kv,rs,ls,lw,rfl,_⟩:=h;rfl
theorem Xi:Ba P w K mg base 5 t.a57 t.d57 ["row","hand","added","first"] (xJ):=by
 have SC:=jh;refine T.g57.f.okA jh λvs H Q E h=>⟨?_,λ_ _ _ _ hr=>⟨xN K t,(zc (zO (PW.pt (qS (wJ (yT (zH yt Y T.q08 zL (zd (pv 0) (zd (yM Y T.b_tuple Xs Y) zk))))) (qS (zB Yt (zH yN Y T.q09 xZ (zd (pv 0) zk)) zq (zM _)) (j6 (wJ (yT (zH yt Y T.q08 zL (zd (z4 yP (pv 0) zq) (zd (yM Y T.q0t K4 Y) zk))))))))) (zi (zJ (vY (b:=aq)))) zv) (zc (zO (PW.pt (qS (zB KU (z4 yP (pv 0) zq) (xG (zd yI (zd yI (zd yI (zd yI zk))))) (by with_unfolding_all rfl)) (j6 (wJ (yT (sU (wX T 3) T.g55 hr zp (zd (z4 yP (pv 0) zq) (zd (pv 1) zk)))))))) (zi (zJ (vY (b:=aq)))) zv) (zc () (zc (zO (PW.pt (qS (zB Yt (zH yN Y T.q09 xZ (zd (pv 0) zk)) zq (zM _)) (qS (wJ (yT (zH yt Y T.q08 zL (zd (z4 yP (pv 0) zq) (zd (yM Y T.b_int K7 Y) zk))))) (j6 (yT (zH yt Y T.q08 zL (zd (z4 yP (pv 0) zq) (zd (yM Y T.q1a K8 Y) zk)))))))) (zi (zJ (vY (b:=aq)))) zv) (zi (zJ (KD (Q8 zdZ Yt zq () (pv 2)) (KC (k8 vJ () (z4 qd () (yV zas Y T.b_int K7 ())) (zM _)))))))))),Yq (kf K) h⟩⟩;obtain⟨v,h,f,m,e,rfl,_⟩:=h;rfl
theorem jC:Ba P w K mg base 11 t.a58 t.d58 ["row","hand","codes","first","runs","ranks","table","laid"] (yH t):=by
 have SC:=ji;refine T.g58.f.okA ji λvs H Q E h=>⟨?_,λ_ _ _ _ hr=>⟨jv K t,(zc (zO (zB Xl () xp (zM _)) (zc () (zc (zO () (zi (Qp (pv 4) (pv 1) xp Y)) zv) (zi (zJ (sU (Xh T) T.g56 hr zp ()))))) zv) (zc (zO (wJ (yT (sU (Xi T) T.g57 hr zp ()))) (zi (zJ (vY (b:=aq)))) zv) (zc (zO () (zc (Qp (pv 4) (pv 1) (Z6 T.mk_Run (sD.mono (W0 T) (by lia)) hr Y T.g_Run T.q1d .nil zp ()) Y) (zi (Qp (pv 5) (pv 1) () Y))) zv) (zi (zJ (vY (b:=ah))))))),Yr h⟩⟩;obtain⟨v,h,f,n,al,rl,kl,tl,ll,lw,cvs,g,CC,S,S2,e,rfl,_⟩:=h;rfl
theorem ok_law:Ba P w K mg base 16 t.a59 t.d59 ["script"] (sp_law K):=by
 have SC:=q04;refine T.q1n.ok0 q04 (λvs H Q E h=>?_) (λcdv A outer s H vs Q E hr h=>?_)
 ·obtain⟨a,ns,rfl,_⟩:=h;rfl
 exact⟨zfg K t,(zc (Wb (i:=1) q04.nd Y (pB Y) (sU (X2 T) T.g2 hr zp (zd (sU (yi T) T.g5 hr zp (zd (pv 0) (zd zq zk))) zk))) (zc (Wb (i:=2) q04.nd Y (pB Y) (sU (X2 T) T.g2 hr zp (zd (sU (yi T) T.g5 hr zp (zd (pv 0) (zd zq zk))) zk))) (zc (zx q04.nd (sU (JO T) T.g4 hr zp (zd (zQ xx (sU (yi T) T.g5 hr zp (zd (pv 0) (zd zq zk))) zq) (zd (pv 1) zk)))) (zc (qh (j:=4) q04.nd Y Y (mj Y) (osc:=zg XA) (N:=["script","shelves","slots","table","codes","hands","way","first","desk","early","added","runs","ranks","laid","cell","hand","batch","code","row"]) (xs:=["cell"]) (ix:=[1,2]) (by lia) (xW (kE Vi (pv 0) (Z7 zq) (Z7 zq))) (λ_ _ _ _=>(kY (i:=0) (show iM (["cell","shelves","slots"]:List Str) from (by lia)) Y (mj Y) (.inr Y))) (λ_ _ _ _=>Ya) (λ_ _ _ _=>(sU (zce T) T.g8 hr zp (zd (sU (QU T) T.g52 hr zp (zd (pv 0) (zd (pv 1) (zd (pv 2) zk)))) zk)))) (zc (zx q04.nd (zQ k7 zq (zQ xE (sU (yi T) T.g5 hr zp (zd (pv 0) (zd zq zk))) zq))) (zc (zx q04.nd (zaQ T.mo_Way Y T.g_Way)) (zc (zO (zB vJ (zQ xE (zQ xx (sU (yi T) T.g5 hr zp (zd (pv 0) (zd zq zk))) zq) zq) zq (zM _)) (zi (zx q04.nd (zaQ T.mo_Highest Y T.g_Highest))) zv) (zc (zx q04.nd zq) (zc (zO (zB vJ (zQ xE (zQ xx (sU (yi T) T.g5 hr zp (zd (pv 0) (zd zq zk))) zq) zq) zq (zM _)) (zi (zx q04.nd (zfa T.mk_Desk (sD.mono (X3 T) (by lia)) hr Y T.g_Desk T.bd_Desk_init zp (zd (yV xY Y T.q0c x8 (zd (pv 3) zk)) (zd (pv 5) (zd (pv 6) zk)))))) (zc (zx q04.nd (zQ xE (zQ zgt (zQ xx (sU (yi T) T.g5 hr zp (zd (pv 0) (zd zq zk))) zq) (zQ zbz zq zq)) (zQ zby (zQ zbz zq zq) zq))) (zi (zx q04.nd (Z6 T.mk_Desk (sD.mono (X3 T) (by lia)) hr Y T.g_Desk T.q1k .nil zp (zd (yV xY Y T.q0c x8 (zd (pv 3) zk)) (zd (pv 5) (zd (pv 6) (zd (pv 7) zk))))))))) (zc (zx q04.nd (zQ xE (zQ xx (sU (yi T) T.g5 hr zp (zd (pv 0) (zd zq zk))) zq) (zQ k7 (zH yN Y T.q09 xZ (zd (pv 4) zk)) zq))) (zc (zx q04.nd (wK zk)) (zc (qh (j:=11) q04.nd Y Y (mj Y) (osc:=zg XA) (N:=["script","shelves","slots","table","codes","hands","way","first","desk","early","added","runs","ranks","laid","cell","hand","batch","code","row"]) (xs:=["k"]) (ix:=[]) (by lia) (Wc Y T.q1b (zd (pv 5) zk)) (λ_ _ _ _=>(kY (i:=0) (show iM (["k"]:List Str) from (by lia)) Y (mj Y) (.inr Y))) (λ_ _ _ _=>Ya) (λ_ _ _ _=>xp)) (zc (qh (j:=12) q04.nd Y Y (mj Y) (osc:=zg XA) (N:=["script","shelves","slots","table","codes","hands","way","first","desk","early","added","runs","ranks","laid","cell","hand","batch","code","row"]) (xs:=["k"]) (ix:=[]) (by lia) (Wc Y T.q1b (zd (pv 5) zk)) (λ_ _ _ _=>(kY (i:=0) (show iM (["k"]:List Str) from (by lia)) Y (mj Y) (.inr Y))) (λ_ _ _ _=>Ya) (λ_ _ _ _=>zq)) (zc (zx q04.nd kF) (zc (yU cw Y (xW (pv 0)) (wc q04.nd) (zc (zO (PW.pt (Wa (zB Yt (zQ xE (pv 14) zq) zq (zM _)) (Z5 (zB Yt (zH yN Y T.q09 xZ (zd (pv 10) zk)) (pv 9) (zM _))))) (zc (zI (wE bU cA cB yK (pv 10) (zd (z4 qd (pv 4) (zH yN Y T.q09 xZ (zd (pv 10) zk))) zk))) (zi (zI (tR (pv 8) T.q0b (W2 T) T.g53 hr zp (zd (z4 qd (pv 10) (zdX zbA zq)) zk))))) zv) (zc (zx q04.nd (zQ xE (zQ xx (pv 14) zq) (pv 5))) (zi (zO (wJ (yT (sU (jC T) T.g58 hr zp (zd (tR (pv 8) T.q0b (X7 T) T.g47 hr zp (zd (pv 15) zk)) (zd (pv 15) (zd (pv 10) (zd (pv 7) (zd (pv 11) (zd (pv 12) (zd (pv 3) (zd (pv 13) zk))))))))))) (zi (zJ (vY (b:=aq)))) zv))))) (zc (yU cw Y (xW (wK (zd (wK zk) (zd (kE Vi (pv 4) (Z7 (zH yN Y T.q09 xZ (zd (pv 10) zk))) Vh) zk)))) (wc q04.nd) (zc (yU cw Y (xW (pv 16)) (wc q04.nd) (zc (zI (wE bU cA cB yK (pv 10) (zd (pv 17) zk))) (zi (zI (tR (pv 8) T.q0b (W2 T) T.g53 hr zp (zd (pv 17) zk)))))) (zc (zx q04.nd zq) (zi (yU cw Y (xW (Wo (pv 8) T.q0b (Jm T) T.g48 hr zp)) (wc q04.nd) (zc (zO (wJ (yT (sU (jC T) T.g58 hr zp (zd (pv 18) (zd (pv 15) (zd (pv 10) (zd (pv 7) (zd (pv 11) (zd (pv 12) (zd (pv 3) (zd (pv 13) zk))))))))))) (zi (zJ (vY (b:=aq)))) zv) (zi (zx q04.nd (zQ xE (zQ k7 (pv 15) zq) (pv 5)))))))))) (zi (zJ (k8 vJ (Wo (pv 8) T.q0b (vH T) T.g12 hr zp) (zQ k7 (pv 7) (zH yN Y T.q09 xZ (zd (pv 4) zk))) (zM _)))))))))))))))))))),zg2 (dkF T) h⟩
end
end K43
open PySem PySem.W PyProof.Rows
local macro_rules|`(#where)=>do
 let f:=λ(s:String)(l:List Nat)=>l.map λi=>Lean.Name.str `PySem.Challenge.cw_forerun_k43_what_is_read_is_seen_holds s!"{s}_{i}"
 return Lean.mkNullNode (←(f "heap" [39,46,701]++f "tree" [47,70,85,100,115,156,240,241,300,338,425,426,528,572,620,700]++f "view" [39]++f "sts" [49,71,86,101,116,157,241,243,301,339,426,428,529,573,621]++f "o" (List.range' 43 658)++f "env" [41]++[`PySem.Challenge.pw_forerun_k43_what_is_read_is_seen,`PySem.Challenge.rw_forerun_k43_what_is_read_is_seen]).toArray.mapM λn=>do return (←`(command|def $(Lean.mkIdent (.str `PySem.W.Fast s!"tw{n.hash}")):ident :=Nat)).raw)
#where
set_option maxRecDepth 100000 in
set_option maxHeartbeats 0 in
theorem PySem.Challenge.cw_forerun_k43_what_is_read_is_seen_holds : PySem.Challenge.rw_forerun_k43_what_is_read_is_seen.Holds := by
 w_on; o_law; k_head; (case hw => w_witness2)
 k_fill
 refine L2.walk_ofXB (l := PySem.Challenge.rw_forerun_k43_what_is_read_is_seen) (n := 63) (k := 16) (x := "script") (sp := K43.sp_law) Y (by decide) Y ⟨Y,by decide,by decide⟩ (fun w h Bl => PySem.W.kIn_of Bl) ?F ?S
 case F =>
  intro w mg fa h KX G hmg;have T : ∃ t,K43.Txt (L2.KOf KX) mg t := by
   dsimp only [L2.KOf];refine' K43.txt_mk KX G ?h0 ?h1 ?h2 ?h3 ?h4 ?h5 ?h6 ?h7 ?h8 ?qa9 ?qi9 ?ql9 ?qc9 ?qk9 ?qa10 ?qi10 ?ql10 ?qc10 ?qk10 ?qa11 ?qi11 ?ql11 ?qc11 ?qk11 ?qd11 ?h12 ?h13 ?h14 ?h15 ?h16 ?h17 ?h18 ?h19 ?h20 ?h21 ?h22 ?h23 ?h24 ?h25 ?h26 ?h27 ?h28 ?qa29 ?qi29 ?ql29 ?qc29 ?qk29 ?qd29 ?h30 ?h31 ?h32 ?h33 ?h34 ?h35 ?qa36 ?qi36 ?ql36 ?qc36 ?qk36 ?h37 ?h38 ?h39 ?h40 ?h41 ?h42 ?h43 ?h44 ?h45 ?h46 ?h47 ?h48 ?h49 ?h50 ?h51 ?h52 ?h53 ?h54 ?h55 ?h56 ?h57 ?h58 ?qa59 ?ql59 ?qc59 ?qk59 ?qz0 ?qz1 ?qz2 ?qz3 ?qz4 ?qz5 ?qz6 ?qz7 ?qz8 ?qz9 ?qz10 ?qg0 ?qh0 ?qv0 ?qv1 ?qv2 ?qv3 ?qv4 ?qv5 ?qv6 ?qv7 ?pg0 ?pd0 ?po0 ?pe0 ?pm0_ ?pk0 ?pn0_0 ?pn0_1 ?pn0_2 ?pn0_3 ?pn0_4 ?pn0_5 ?pn0_6 ?pn0_7 ?pn0_8 ?pi2 ?pg2 ?pd2 ?po2 ?pe2 ?pm2_ ?pk2 ?pg3 ?pd3 ?po3 ?pe3 ?pm3_ ?pk3 ?pn3_0 ?pn3_1 ?pn3_2 ?pn3_3 ?pg4 ?pd4 ?po4 ?pe4 ?pm4_ ?pk4 ?pn4_0 ?pn4_1 ?pn4_2 ?pn4_3 ?pg6 ?pd6 ?po6 ?pe6 ?pm6_ ?pk6 ?pn6_0 ?pn6_1 ?pn6_2 ?pn6_3 ?pn6_4 ?pn6_5 ?pn6_6 ?pi7 ?pg7 ?pd7 ?po7 ?pe7 ?pm7_ ?pk7 ?rx0 ?ry0 ?re0_0 ?re0_1 ?rm0_0 ?rx1 ?ry1 ?re1_0 ?re1_1 ?rm1_0
   (case qv0 | qv1 | qv2 | qv3 | qv4 | qv5 | qv6 | qv7 => k_is)
   (case h0 | h1 | h2 | h3 | h4 | h5 | h6 | h7 | h8 => exact ⟨_,by k_is,_,_,_,_,_,_,_,_,_,by k_is,by k_is,by k_is⟩)
   (case qa9 | qi9 | ql9 | qc9 | qk9 | qa10 | qi10 | ql10 | qc10 | qk10 | qa11 | qi11 | ql11 | qc11 | qk11 | qd11 => k_is)
   (case h12 | h13 | h14 => exact ⟨_,by k_is,by k_is,_,_,_,_,_,_,_,_,_,by k_is,by k_is,by k_is⟩)
   (case h15 | h16 | h17 | h18 | h19 => exact ⟨_,by k_is,_,_,_,_,_,_,_,_,_,by k_is,by k_is,by k_is⟩)
   (case h20 | h21 | h22 | h23 => exact ⟨_,by k_is,by k_is,_,_,_,_,_,_,_,_,_,by k_is,by k_is,by k_is⟩)
   (case h24 => exact ⟨_,by k_is,_,_,_,_,_,_,_,_,_,by k_is,by k_is,by k_is⟩)
   (case h25 | h26 | h27 | h28 => exact ⟨_,by k_is,by k_is,_,_,_,_,_,_,_,_,_,by k_is,by k_is,by k_is⟩)
   (case qa29 | qi29 | ql29 | qc29 | qk29 | qd29 => k_is)
   (case h30 | h31 => exact ⟨_,by k_is,by k_is,_,_,_,_,_,_,_,_,_,by k_is,by k_is,by k_is⟩)
   (case h32 => exact ⟨_,by k_is,_,_,_,_,_,_,_,_,_,by k_is,by k_is,by k_is⟩)
   (case h33 | h34 | h35 => exact ⟨_,by k_is,by k_is,_,_,_,_,_,_,_,_,_,by k_is,by k_is,by k_is⟩)
   (case qa36 | qi36 | ql36 | qc36 | qk36 => k_is)
   (case h37 | h38 | h39 | h40 => exact ⟨_,by k_is,by k_is,_,_,_,_,_,_,_,_,_,by k_is,by k_is,by k_is⟩)
   (case h41 => exact ⟨_,by k_is,_,_,_,_,_,_,_,_,_,by k_is,by k_is,by k_is⟩)
   (case h42 | h43 | h44 | h45 | h46 | h47 | h48 => exact ⟨_,by k_is,by k_is,_,_,_,_,_,_,_,_,_,by k_is,by k_is,by k_is⟩)
   (case h49 | h50 | h51 | h52 => exact ⟨_,by k_is,_,_,_,_,_,_,_,_,_,by k_is,by k_is,by k_is⟩)
   (case h53 => exact ⟨_,by k_is,by k_is,_,_,_,_,_,_,_,_,_,by k_is,by k_is,by k_is⟩)
   (case h54 | h55 | h56 | h57 | h58 => exact ⟨_,by k_is,_,_,_,_,_,_,_,_,_,by k_is,by k_is,by k_is⟩)
   (case qa59 | ql59 | qc59 | qk59 | qz0 | qz1 | qz2 | qz3 | qz4 | qz5 | qz6 | qz7 | qz8 | qz9 | qz10 | qg0 | qh0 | pg0 | pd0 | po0 | pe0 | pm0_ | pk0 | pn0_0 | pn0_1 | pn0_2 | pn0_3 | pn0_4 | pn0_5 | pn0_6 | pn0_7 | pn0_8 | pi2 | pg2 | pd2 | po2 | pe2 | pm2_ | pk2 | pg3 | pd3 | po3 | pe3 | pm3_ | pk3 | pn3_0 | pn3_1 | pn3_2 | pn3_3 | pg4 | pd4 | po4 | pe4 | pm4_ | pk4 | pn4_0 | pn4_1 | pn4_2 | pn4_3 | pg6 | pd6 | po6 | pe6 | pm6_ | pk6 | pn6_0 | pn6_1 | pn6_2 | pn6_3 | pn6_4 | pn6_5 | pn6_6 | pi7 | pg7 | pd7 | po7 | pe7 | pm7_ | pk7 => k_is)
   (case rx0 => k_exc)
   (case ry0 => exact ⟨_,by k_is,by k_is,by k_is,by k_is,by k_is,by k_is,by k_is,by k_is⟩)
   (case re0_0 | re0_1 | rm0_0 => kernel_rfl)
   (case rx1 => k_exc)
   (case ry1 => exact ⟨_,by k_is,by k_is,by k_is,by k_is,by k_is,by k_is,by k_is,by k_is⟩)
   (case re1_0 | re1_1 | rm1_0 => kernel_rfl)
  obtain ⟨t,T⟩ := T;have e0 := hmg.symm.trans T.m_law;cases e0;exact ⟨_,T.w_law,fun base _ _ => K43.ok_law T⟩
 case S => exact fun K H a ns hl hb _ hS => ⟨a,ns,rfl,hS,hl,hb,fun _ => rfl⟩
