import PyProof.Rows.All
import Wide.All
import OpenK.AllK
import PySem.Challenge.RW_forerun_k44_settled_and_again
open Array renaming length_toList->cg,getElem?_eq_getElem->cq,getElem?_toList->du,perm_iff_toList_perm->gJ,getElem?_eq_none->iB,toList_inj->nJ
open Array.Perm renaming mem_iff->pS,trans->rX,refl->sB
open Bool renaming false_ne_true->bM,and_eq_true->bV,false_eq_true->cP,eq_false_iff->eD,or_eq_false_iff->i9,eq_iff_iff->lH,not_eq_true'->mQ,not_eq_true->r9
open Classical renaming byContradiction->fJ,not_imp->rC
open Decidable renaming byContradiction->eJ
open False renaming elim->c8
open ForInStep renaming yield->gp
open Iff renaming rfl->sC
open Int renaming emod_lt_of_pos->ck,emod_nonneg->cA,toNat_natCast->dP,eq_ofNat_of_zero_le->eU,toNat_of_nonneg->lS,natCast_emod->nM,le_of_lt->oF,natCast_nonneg->pY,ne_of_lt->rQ,le_refl->sE,not_lt->sG
open Int.ofNat renaming inj->sN
open List renaming getElem?_eq_getElem->bb,length_map->bg,getElem?_eq_some_iff->bn,mem_singleton->bo,mem_map_of_mem->bq,mem_cons_of_mem->br,mem_cons_self->bt,mem_append->bu,map_cons->bx,getElem?_map->bA,mem_map->bB,length_append->bC,getD_eq_getElem?_getD->bD,mem_cons->bE,size_toArray->bG,mem_append_right->bK,mem_of_getElem?->bN,map_append->bR,length_cons->bU,nodup_cons->bX,mem_filter->b8,lookup_cons->cf,mem_append_left->cr,take_length->cx,getElem?_of_mem->cy,nodup_nil->cz,length_take->cB,getElem?_append_left->cF,getElem?_eq_none->cG,take_add_one->cH,length_drop->cI,take_of_length_le->cL,sum_cons->cM,append_assoc->cO,nodup_append->cQ,length_singleton->cU,take_append_drop->cV,lookup->cW,filter_sublist->cY,not_mem_nil->cZ,mem_of_mem_drop->c9,getElem?_set_self->da,getElem?_take->dq,map_congr_left->dy,map_map->dA,filter_cons->dC,getElem?_append_right->dE,getElem?_set_ne->dF,mem_of_mem_take->dH,length_replicate->dO,cons_append->dY,getElem_mem->dZ,range->eB,pairwise_iff_getElem->eG,getElem?_cons_zero->eT,ext_getElem?->eX,foldl_cons->fc,length_set->fm,replicate->fC,length->fT,filter_cons_of_neg->fV,filter_cons_of_pos->fW,length_pos_iff->fY,sum_append_nat->fZ,eq_nil_of_length_eq_zero->f9,mem_filterMap->gg,find?_cons->gm,nil_append->gu,all_cons->gD,pairwise_map->gH,getElem?_inj->gI,pairwise_append->gL,drop_eq_getElem_cons->gR,getElem_inj->gS,any_eq_true->gT,eraseIdx_cons_succ->ie,getElem?_cons_succ->ir,eraseIdxIfInBounds_toArray->iJ,Nodup->iL,drop_zero->iO,all_eq_true->i3,perm_cons_erase->lf,any_cons->lj,filterMap_cons->lG,append_nil->lI,getElem?_range->lM,getElem?_drop->mq,rel_of_pairwise_cons->mF,drop_sublist->mU,length_range->mV,getElem?_replicate->mZ,map->nF,map_drop->nG,map_take->nH,drop_eq_nil_of_le->nS,drop_of_length_le->nV,of_mem_zip->og,length_nil->om,length_filter_le->on,map_nil->ot,forIn_cons->ou,filterMap_append->oG,perm_append_comm->oH,mem_iff_getElem?->oI,mem_erase_of_ne->oR,reverse_append->pD,filter_eq_self->pF,map_eq_nil_iff->pH,pairwise_cons->pV,erase_sublist->pZ,set_cons_zero->p8,take_sublist->rg,reverse_cons->ro,flatten_cons->rB,toArray->rL,reverse_nil->rT,zipIdx_cons->rV,nodup_range->rW,mem_reverse->rY,drop_length->rZ,perm_middle->r6,zipIdx_nil->sA,all_append->sD,sum_append->sF
open List.Nodup renaming sublist->iu
open List.Pairwise renaming nil->fP,imp->mR
open List.Perm renaming trans->dJ
open List.Sublist renaming map->gb
open List.cons renaming injEq->fj
open Nat renaming le_refl->bp,le_trans->bO,zero_le->bS,lt_of_le_of_lt->bT,ne_of_lt->bW,lt_of_lt_of_le->b6,le_succ_of_le->cp,min_eq_left->dI,succ_le_succ->eP,lt_irrefl->fq,ne_of_gt->fu,lt_or_ge->gB,le_add_right->gU,min_eq_right->i7,eq_zero_or_pos->mz,lt_succ_self->nI,le_of_lt->nX,le_of_eq->n9,not_succ_le_self->oV,add_le_add_left->pA,add_assoc->pX,lt_succ_of_lt->rm,mod_lt->rD,lt_trans->rJ,sub_zero->rK,zero_add->rP,le_of_not_lt->rS,le_succ->sq
open Ne renaming symm->ef
open Option renaming map_eq_some_iff->b7,isSome_iff_exists->fN,map_some->ig,isSome_map->mJ,isNone_some->pW,getD_none->rR
open Option.some renaming inj->bI,injEq->fR
open Or renaming inl->mh,inr->pP
open Prod renaming ext->oK
open Prod.mk renaming inj->pE
open PyProof renaming noPylong_of_log2->mM
open PyProof.Rows renaming callWith_type1->eZ,slot_tuple_getitem->iG,reads_newData->nh,subscriptTail_builtinR->nP,entry_list_sort->oz,entry_proto_collect'->oQ,slot_list_sort->oY,args_list_sort->oZ,lt_int->ph,listUpdate_at->pT,plain_sorted->rM,entry_sorted->rN,args_sorted1->rO
open PyProof.Rows.IsTup renaming new->sO
open PySem renaming wpAny_bind->ba,wpAny_pure->bf,sizeLine_eq->bH,wpAny_newObj_type->cw,wpAny_callSpecial?_slot->cE,wpAny_call_entry->cK,wpAny_setField_rec->cS,wpAny_field->de,wpAny_holding->dD,wpAny_mono->dN,wpAny_dictEntries->dQ,tupleKind_room_in1->dU,wpAny_typeNameOfWhole_itemiter->eM,wpAny_Call_Name_kw->eO,wpAny_typeNameOfWhole_keyiter->eQ,wpAny_execs_nil->eY,mem_of_lookup->e9,codeAny_builtin->fh,wpAny_notOrdered_dict->fB,wpAny_seqItems->fH,wpAny_typeNameOf_itemiter->fI,wpAny_truthy_bool->fK,wpAny_passesOwn->fM,wpAny_typeNameOf_keyiter->fQ,codeAny_mono->gj,wpAny_dictEpoch->gA,wpAny_loadPart'->gC,wpAny_Call_method->gE,plainId_quiet->gG,wpAny_attempt->iq,wpAny_isOneOf_itemiter->iC,plainObj_wpAny_Assign_Attribute->iF,call_meets->iI,slot_list_setitem->iN,wpAny_setField->iQ,call_meetsIn->iR,codeAny_handlers_test->iW,wpAny_execs_cons->i0,wpAny_rule->lE,wpAny_handleBy_cons->lP,wpAny_updateSeq->lQ,wpAny_pyIter_tuple->lY,wpAny_fieldsOf->mD,wpAny_sequenceKey->mI,call->mK,wpAny_comprehension_free->mL,wpAny_Call_method0_late->m4,wpAny_letGo->nu,wpAny_newList->nA,wpAny_listSubscript_int->nE,wpAny_isInstance->nK,wpAny_pyNext_list_item->nN,wpAny_Assign_Subscript->nQ,codeAny_handlers_suite->nT,wpAny_pyNext_list_end->nY,wpAny_typeOf->oh,wpAny_isOneOf_keyiter->oA,size_of_entries->oE,wpAny_load->oJ,typeIs_str->oM,wpAny_updateSeq_pair->oO,wpAny_pyIter_keyiter->oP,wpAny_updateDictKeys->oU,wpAny_newTuple->oW,isSubtype_stop->oX,evalArgs_none->pq,wpAny_standAt->pN,wpAny_handled->pQ,wpAny_onRaise->pR,wpAny_call->rf,Within->rE,seqIndex_neg->rH
open PySem.Around renaming under_plainId->dG,under->rF
open PySem.Builtin.Dict renaming showsAll->gy,keyAndDefault->lW,updateFrom->nB,takeOut->oS
open PySem.Builtin.Dict_items renaming ownsTuple->dR,ownedTupleFields->gW,ownedTupleIsFree->gX,pairFromOwner->iy
open PySem.Builtin.Int renaming intBits->dL,intTooBig->oC
open PySem.Builtin.List renaming listExtendWith->dz,listTooLong->gY,listItems->iD,listSubscript?->lR,listSameRef->mT
open PySem.Builtin.Slice renaming slicePlaces->fE,sliceAdjust->gO,sliceApplied->lU
open PySem.Builtin.SmallTypes renaming ownedTupleIsFree->dM,nextOf->eE,ownedTupleHandOut->gQ
open PySem.Builtin.Str renaming occurrences->ii,strSliceIndices->lK,glued->mP,tooLong->pB
open PySem.Builtin.Tuple renaming tupleExact->fO
open PySem.Calls renaming spliced_cons->cR,callWith_builtin->dh,evalArgs_plain->dX,spliced_nil->eW,Name_function_global->lT,call_function_entry->mC,Constant_str->pK
open PySem.Code renaming isFrame->rG
open PySem.F renaming plainAttrs_list->bP,slot_list_append->bY,type_list_append->bZ,plainAttrs_dict->dW,plain_extend_loop->eI,slot_dict_pop->eK,slot_dict_itemiterator_next->eR,slot_dict_keyiterator_next->eS,plain_list_iadd->fU,slot_list_remove->gZ,type_list_remove->ib,entry_dict_pop->iA,args_dict_itemiterator_next_1->iM,slot_dict_get->iS,type_dict_pop->iT,args_dict_keyiterator_next_1->iV,entry_dict_itemiterator_next->iX,slot_list_pop->iY,type_list_pop->iZ,entry_dict_keyiterator_next->i8,slot_dict_setdefault->lB,slot_zip_next->lL,plain_proto_collect->lN,slot_tuple_iterator_next->lV,entry_extend_loop->mE,args_tuple_add_2->mH,slot_list_insert->mW,type_list_insert->mX,entry_tuple_add->m3,args_dict_pop_2->m5,args_dict_pop_3->m6,args_dict_get_3->m7,slot_dict_items->nD,slot_tuple_add->nO,entry_dict_get->nR,slot_dict_items_iter->nU,plainAttrs_str->nW,slot_tuple_lt->oB
open PySem.Heap renaming get?_push_of_some->bc,get?_push_size->bF,lt_size->bQ,SameBut->cN,get?_update_other->eA,get?_update_self->eL,size_push->eV,ExtBut->sy
open PySem.Heap.SameBut renaming update->cX
open PySem.NameKind renaming free->dn,cell->m8
open PySem.Obj renaming mapSeq->dt,data_mapDictKeys->gK,data_mapFields->ik,isFreed_of_fields->oy,isFreed_of_dict->pG,cls_mapFields->rq
open PySem.Paired renaming length->bL
open PySem.PassesOwn renaming never->b9
open PySem.PyData renaming strOk->ca,canLay0->fG,depthAll->gq,canLayAll0->gF,eqv->iK,eqvAll->lq,depth->mo
open PySem.PyData.tuple renaming injEq->pU
open PySem.SeqAt renaming noMixAll->iP,shaped->iU,noMix->pC
open PySem.SeqAt.EqAt renaming int_int->ma,str_str->mf,int_str->pI,str_int->pJ
open PySem.Shared renaming TypeIs->sM
open PySem.Spec renaming sameAll->mj,same->sw
open PySem.Str renaming ofString->bh,length->iH,length_append->mO,empty->nZ
open PySem.Txt renaming slice->gP
open PySem.Value renaming ref->bJ,none->cC,int->f7,str->ic,bool->iE,type->mG,float->se
open PySem.W renaming Frag->bw,emptyDict->eC,findIn->fA,kitOne->fS,instObj->f8,hideAll_none->gc,hideAll->gM,kia_one->gN,funFrames_hide->i4,hideAll_get->lh,methodCall_KW->lJ,of_hideAll->lX,callWith_K->lZ,keepIn->mY,exmOne->oN,plainGet_of->pL,callWith_K0->pM,OpenLaw->pO,plainGet->rc,codeIn->sd,methodObj->sf,hasDictIn->sg,makesIn->si,specialIn->sk,fnOf->ss,lookIn->sH,Looks->sI,mroIn->sJ,WalkO->sK,excIn->sL
open PySem.W.KatTups renaming cons->sP
open PySem.W.Looks renaming ld->rA
open Sum renaming inl->gh,inr->p9
open Sum.inl renaming inj->lF
open True renaming intro->eN
open Bool renaming true->ah,false->ao
open Option renaming some->U,none->ak
open PySem renaming Addr->D,Value->ae,Shared->af,Program->aq,World->au,Heap->av,Around->aw,Stmt->ax,Expr->ay,Scope->aA,Result->aB,sizeLine->Bb,FuncData->Bc,mainGlobals->Bd,starEach->Be,wpAny->Bf,model->Bg,bootBuiltins->Bh,compareOp->Bi
set_option Elab.async false
set_option linter.all false
set_option maxRecDepth 100000
theorem Bj{p:Prop}[Decidable p](h:p):decide p=true:=decide_eq_true h
theorem Bk{p:Prop}[Decidable p](h:¬p):decide p=false:=decide_eq_false h
set_option hygiene false
set_option compiler.extract_closed false
def zzzP:Nat->Lean.Syntax->Lean.MacroM (Lean.TSyntax `rcasesPat)
 |0,_=>Lean.Macro.throwUnsupported
 |n+1,s=>match s with
  |`(⟨$ps,*⟩)=>do
   let ls ← ps.getElems.mapM fun p=>do `(Lean.Parser.Tactic.rcasesPatLo|$(← zzzP n p):rcasesPat)
   `(rcasesPat|⟨$[$ls],*⟩)
  |`($x:ident)=>`(rcasesPat|$x:ident)
  |_=>`(rcasesPat|_)
local macro_rules|`(match $x:term with|⟨$ps,*⟩=>$b)=>do
 if (b.raw.find? (·.isOfKind `Lean.Parser.Term.syntheticHole)).isSome then Lean.Macro.throwUnsupported
 let q ← zzzP 9 (← `(⟨$ps,*⟩))
 `(by rcases $x:term with $q;exact $b)
local macro_rules|`(tactic|lia)=>`(tactic|first|with_reducible (first|assumption|exact Nat.le_refl _|exact Nat.zero_le _|exact Nat.le_of_lt ‹_›|exact Nat.le_succ_of_le ‹_›|exact Nat.le_trans ‹_› ‹_›|exact Nat.lt_of_lt_of_le ‹_› ‹_›|exact Nat.lt_of_le_of_lt ‹_› ‹_›|exact Nat.ne_of_gt ‹_›|exact Nat.ne_of_lt ‹_›|exact Int.le_of_lt ‹_›)|decide +kernel|(intro _ z;cases z;done)|(intro z;cases z;done)|lia -abstractProof)
theorem am{c:Prop}{h:Decidable c}(n:¬c){α:Sort u}{t e:α}:ite c t e=e:=if_neg n
theorem ap{c:Prop}{h:Decidable c}(n:c){α:Sort u}{t e:α}:ite c t e=t:=if_pos n
local macro_rules|`(())=>`(by lia)
theorem Y{α:Sort u}{a:α}:a=a:=rfl
namespace L2
open PySem PySem.Spec PyProof.Rows
abbrev aU:=Sum Int Str
def Kv:aU->ae->Bool
 |.inl k,v=>Value.isInt k v
 |.inr x,v=>Value.isStrOf x v
def zjr(w:au):aU->Int
 |.inl k=>hashInt k
 |.inr x=>hashStr w x
theorem yQ:∀ {k:aU} {v:ae},Kv k v=ah->(∃i t,k=gh i/\v=f7 i t)\/(∃x t,k=p9 x/\v=ic x t)
 |.inl i,v,h=>by
  obtain⟨t,e⟩:=Value.isInt_shape (k:=i) (v:=v) h;exact .inl ⟨i,t,Y,e⟩
 |.inr x,v,h=>by
  obtain⟨t,e⟩:=Value.isStrOf_shape (x:=x) (v:=v) h;exact .inr ⟨x,t,Y,e⟩
theorem zdz(i:Int)(t:Tok):Kv (.inl i) (.int i t)=ah:=by simp[Kv,Value.isInt]
theorem zdA(x:Str)(t:Tok):Kv (.inr x) (.str x t)=ah:=by simp[Kv,Value.isStrOf]
theorem zhX(a b:Int):decide ((gh a:aU)=gh b)=(a==b):=by
 by_cases e:a=b
 .subst e;simp
 .have h:¬ (gh a:aU)=gh b:=λq=>e (lF q);rw[Bk h];exact(beq_eq_false_iff_ne.mpr e).symm
theorem zhY(a b:Str):decide ((p9 a:aU)=p9 b)=decide (a=b):=by
 by_cases e:a=b
 .subst e;simp
 .have h:¬ (p9 a:aU)=p9 b:=λq=>e (Sum.inr.inj q);rw[Bk h,Bk e]
theorem zhZ(a:Int)(b:Str):decide ((gh a:aU)=p9 b)=ao:=Bk (λq=>nomatch q)
theorem zh0(a:Str)(b:Int):decide ((p9 a:aU)=gh b)=ao:=Bk (λq=>nomatch q)
def yE(c:aq)(w:au):PySem.KeyKind c w aU where
 is:=Kv
 hash:=zjr w
 inj:=λv a b l f=>by
  rcases yQ l with ⟨i,t,rfl,rfl⟩|⟨x,t,rfl,rfl⟩
  .rcases yQ f with ⟨j,u,rfl,e⟩|⟨y,u,rfl,e⟩
   .injection e with e1 _;rw[e1]
   .exact nomatch e
  .rcases yQ f with ⟨j,u,rfl,e⟩|⟨y,u,rfl,e⟩
   .exact nomatch e
   .injection e with e1 _;rw[e1]
 byValue:=λk v h=>by
  rcases yQ h with ⟨i,t,rfl,rfl⟩|⟨x,t,rfl,rfl⟩ <;> rfl
 pyHash:=λd h=>by
  rcases yQ d with ⟨i,t,rfl,rfl⟩|⟨x,t,rfl,rfl⟩
  .exact wpAny_pyHash_int h
  .exact wpAny_pyHash_str h
 eqBool:=λg d h=>by
  rcases yQ g with ⟨i,t,rfl,rfl⟩|⟨x,t,rfl,rfl⟩
  .rcases yQ d with ⟨j,u,rfl,rfl⟩|⟨y,u,rfl,rfl⟩
   .rw[zhX] at h;exact wpAny_eqBool_int h
   .rw[zhZ] at h;exact pI i t y u _ _ _ _ h
  .rcases yQ d with ⟨j,u,rfl,rfl⟩|⟨y,u,rfl,rfl⟩
   .rw[zh0] at h;exact pJ x t j u _ _ _ _ h
   .rw[zhY] at h;exact wpAny_eqBool_str h
 «strs»:=λk x t v h=>by
  rcases yQ h with ⟨i,u,rfl,e⟩|⟨y,u,rfl,e⟩
  .exact nomatch e
  .injection e with e1 _;subst e1;cases v <;> rfl
theorem zau(a:aq)(w:au)(i:Int)(t:Tok):(yE a w).is (.inl i) (.int i t)=ah:=zdz i t
theorem zav(a:aq)(w:au)(x:Str)(t:Tok):(yE a w).is (.inr x) (.str x t)=ah:=zdA x t
inductive V where
 |non|bl (b:Bool)|int (i:Int)|str (x:Str)|byt (b:Array UInt8)|flt (b:UInt64)|ref (a:D)|ty (n:String)
 deriving DecidableEq
def aT:V->ae->Prop
 |.non,u=>u=cC
 |.bl b,u=>u=iE b
 |.int i,u=>∃t,u=f7 i t
 |.str x,u=>∃t,u=ic x t
 |.byt b,u=>∃t,u=Value.bytes b t
 |.flt b,u=>∃t,u=se b t
 |.ref a,u=>u=bJ a
 |.ty n,u=>u=mG n
abbrev aR:List V->List ae->Prop:=Paired aT
theorem aR.length(r:aR xs us):xs.length=us.length:=bL r
theorem aR.get:∀ {a:List V} {b:List ae} {i:Nat} {x:V},aR a b->a[i]?=U x->∃u,b[i]?=U u/\aT x u
 |_,_,_,_,.nil,e=>by simp at e
 |_,_,0,_,.cons r _,e=>by simp at e;subst e;exact⟨_,Y,r⟩
 |_,_,i+1,x,.cons _ t,e=>by
  obtain⟨u,d,c⟩:=aR.get (i:=i) (x:=x) t (by simpa using e);exact⟨u,by simpa using d,c⟩
theorem aR.append:∀ {b a:List V} {d c:List ae},aR b d->aR a c->aR (b++a) (d++c)
 |_,_,_,_,.nil,s=>s
 |_,_,_,_,.cons r t,s=>.cons r (aR.append t s)
theorem aR.take:∀ {a:List V} {b:List ae} (n:Nat),aR a b->aR (a.take n) (b.take n)
 |_,_,0,_=>.nil
 |_,_,_+1,.nil=>.nil
 |_,_,n+1,.cons r t=>.cons r (aR.take n t)
theorem aR.drop:∀ {a:List V} {b:List ae} (n:Nat),aR a b->aR (a.drop n) (b.drop n)
 |_,_,0,r=>r
 |_,_,_+1,.nil=>.nil
 |_,_,n+1,.cons _ t=>aR.drop n t
def tK:Option V->Option ae->Prop
 |some v,U u=>aT v u
 |none,ak=>True
 |_,_=>False
def KV{a:Type}:List (a×V)->List (a×ae)->Prop:=Paired λ(p:a×V) (q:a×ae)=>p.1=q.1/\aT p.2 q.2
def kV:aU->V
 |.inl i=>.int i
 |.inr x=>.str x
inductive HO where
  |lst (xs:List V)
  |tup (xs:List V)
  |dK (aI:List (aU×V))|dT (aI:List (List aU×V))
  |set (S:Int->Bool) (n:Nat)
  |ins (C dx:D) (fs:List (Str×V))
  |own (x:D)
  |xd (fs:List (Str×V))
  |met (f x:D)
  |rng (lo hi:Int)
  |frz (o:Obj) (u:HO)
  |tbl (ps:Array ae)
  |ext (φ:av->Prop)
abbrev Hp:=D->Option HO
def upd(H:Hp)(a:D)(o:HO):Hp:=λb=>if b=a then U o else H b
theorem zh{H:Hp} :upd H a o a=U o:=by unfold upd;rw[ap rfl]
theorem zi{H:Hp}(h:b≠a):upd H a o b=H b:=by unfold upd;rw[am h]
theorem Vj{H:Hp} :upd (upd H a o) a u=upd H a u:=by
 funext b;unfold upd;split <;> rfl
theorem zM{H:Hp}(h:H a=U o)(c:H b=U u)(d:o≠u):a≠b:=by
 intro e;subst e;rw[h] at c;exact d (bI c)
theorem zw{H:Hp}(h:H a=U o)(c:H b=ak):a≠b:=by
 intro e;subst e;rw[h] at c;cases c
section
variable (P:aq)(w:au)
def aW(H:Hp)(h:av)(a:D):HO->Prop
 |.lst c=>c.length<=Bb/\∃(b:List ae) (n:Nat),aR c b/\h.get? a=U { cls:=.type "list",data:=.seq b.toArray n }
 |.tup c=>c.length<=Bb/\∃b:List ae,aR c b/\IsTup h a b.toArray
 |.dK aI=>aI.length<=Bb/\(a==sysModules)=ao/\∃e,KV aI e/\h.DictOf (yE P w) a e
 |.dT aI=>aI.length<=Bb/\(a==sysModules)=ao/\∃c:List (List aU×D×ae),
   Paired (λ(p:List aU×V) (q:List aU×D×ae)=>p.1=q.1/\H q.2.1=U (.tup (p.1.map kV))/\aT p.2 q.2.2) aI c /\
   ∃o j k,h.get? a=U o/\o.ExactDict/\o.data=.dict j k/\j.toList=c.map (entryOfKey (tupleKind (yE P w)))/\(c.map (·.1)).Nodup
 |.set S n=>h.SetOf (intKind P w) a S n
 |.ins C dx fs=>H dx=U (.own a)/\fs.length<=1000/\dx≠a/\h.get? a=U (f8 C dx) /\
   ∃d,h.Ns1 dx d/\(∀f,tK (fs.lookup f) (d f))/\rE d (fs.map (·.1))
 |.own _=>∃o,h.get? a=U o
 |.xd fs=>∃d,h.Ns1 a d/\∀f,tK (fs.lookup f) (d f)
 |.rng lo hi=>∃t u v,h.get? a=U { cls:=.type "range",data:=.fields #[.int lo t,.int hi u,.int 1 v] }
 |.frz o u=>h.get? a=U o/\aW H h a u
 |.tbl ps=>h.get? a=U { cls:=.none,data:=.fields ps }
 |.met f x=>h.get? a=U (sf (.ref f) (.ref x))
 |.ext φ=>φ h/\(∃o,h.get? a=U o)/\∀i g:av,φ i->(∀o,i.get? a=U o->g.get? a=U o)->φ g
def t8(H:Hp)(h:av):Prop:=∀a o,H a=U o->aW P w H h a o
end
section
variable {P:aq}{w:au}{H H':Hp}{h h':av}{a:D}{o:HO}
theorem aW.lt(x:aW P w H h a o):a<h.objs.size:=by
 cases o with
 |lst xs=>obtain⟨_,_,_,_,e⟩:=x;exact bQ e
 |tup xs=>obtain⟨_,_,_,p⟩:=x;exact p.lt
 |dK aI=>obtain⟨_,_,_,_,o,_,_,e,_⟩:=x;exact bQ e
 |dT aI=>obtain⟨_,_,_,_,o,_,_,e,_⟩:=x;exact bQ e
 |set S n=>obtain⟨o,_,_,_,e,_⟩:=x;exact bQ e
 |ins C dx fs=>obtain⟨_,_,_,e,_⟩:=x;exact bQ e
 |own y=>obtain⟨_,e⟩:=x;exact bQ e
 |xd fs=>obtain⟨_,⟨_,_,_,e,_⟩,_⟩:=x;exact bQ e
 |rng lo hi=>obtain⟨_,_,_,e⟩:=x;exact bQ e
 |frz ob u=>obtain⟨e,_⟩:=x;exact bQ e
 |tbl ps=>exact bQ (show h.get? a=U _ from x)
 |met f y=>exact bQ (show h.get? a=U _ from x)
 |ext φ=>obtain⟨_,⟨_,e⟩,_⟩:=x;exact bQ e
theorem Paired.mapP{g e:Type}{F G:g->e->Prop}:∀ {d:List g} {c:List e},Paired F d c->(∀a b,F a b->G a b)->Paired G d c
 |_,_,.nil,_=>.nil
 |_,_,.cons r t,f=>.cons (f _ _ r) (Paired.mapP t f)
theorem aW.stay(x:aW P w H h a o)(k:∀b u,(b=a\/H b=U (.own a))->h.get? b=U u->h'.get? b=U u) (J:∀b,H b=U (.own a)->H' b=U (.own a)) (I:∀b m,H b=U (.tup m)->H' b=U (.tup m)):aW P w H' h' a o:=by
 induction o with
 |lst m=>obtain⟨z,l,n,r,e⟩:=x;exact⟨z,l,n,r,k _ _ (.inl Y) e⟩
 |tup m=>obtain⟨z,l,r,g,e,c⟩:=x;exact⟨z,l,r,g,k _ _ (.inl Y) e,c⟩
 |dK aI=>obtain⟨z,y,E,r,g,i,j,e,c⟩:=x;exact⟨z,y,E,r,g,i,j,k _ _ (.inl Y) e,c⟩
 |dT aI =>
  obtain⟨z,y,m,r,g,i,j,e,c⟩:=x;exact⟨z,y,m,Paired.mapP r λp q z=>⟨z.1,I _ _ z.2.1,z.2.2⟩,g,i,j,k _ _ (.inl Y) e,c⟩
 |set S n=>obtain⟨g,i,j,t,e,c⟩:=x;exact⟨g,i,j,t,k _ _ (.inl Y) e,c⟩
 |ins C dx fs =>
  obtain⟨d,z,G,e,A,⟨s,i,j,M,c⟩,r⟩:=x;exact⟨J _ d,z,G,k _ _ (.inl Y) e,A,⟨s,i,j,k _ _ (.inr d) M,c⟩,r⟩
 |own y=>obtain⟨g,e⟩:=x;exact⟨g,k _ _ (.inl Y) e⟩
 |xd fs=>obtain⟨A,⟨s,i,j,e,c⟩,r⟩:=x;exact⟨A,⟨s,i,j,k _ _ (.inl Y) e,c⟩,r⟩
 |rng lo hi=>obtain⟨t,u,v,e⟩:=x;exact⟨t,u,v,k _ _ (.inl Y) e⟩
 |frz g u ih=>obtain⟨e,q⟩:=x;exact⟨k _ _ (.inl Y) e,ih q⟩
 |tbl ps =>
  have e:h.get? a=U { cls:=.none,data:=.fields ps }:=x;show h'.get? a=U { cls:=.none,data:=.fields ps };exact k a _ (.inl Y) e
 |met f y =>
  have e:h.get? a=U (sf (.ref f) (.ref y)):=x;show h'.get? a=U (sf (.ref f) (.ref y));exact k a _ (.inl Y) e
 |ext φ=>obtain⟨p,⟨o,e⟩,B⟩:=x;exact⟨B _ _ p λo q=>k _ _ (.inl Y) q,⟨o,k _ _ (.inl Y) e⟩,B⟩
theorem t8.lt(x:t8 P w H h)(e:H a=U o):a<h.objs.size:=(x a o e).lt
theorem t8.fresh(x:t8 P w H h)(e:h.objs.size<=a):H a=ak:=by
 cases q:H a with
 |none=>rfl
 |some u=>exact absurd (b6 (x.lt q) e) (fq _)
theorem t8.kept(x:t8 P w H h)(k:∀b u,h.get? b=U u->h'.get? b=U u):t8 P w H h':=λa o e =>
 (x a o e).stay (λb u _ q=>k b u q) (λ_ q=>q) λ_ _ q=>q
theorem t8.laid(x:t8 P w H h)(k:∀b u,h.get? b=U u->h'.get? b=U u)(g:h.objs.size<=a)(d:aW P w (upd H a o) h' a o):t8 P w (upd H a o) h':=λb u e=>by
 have f:=x.fresh g;by_cases hb:b=a
 .subst hb;rw[zh] at e;cases e;exact d
 .rw[zi hb] at e;exact(x b u e).stay (λc v _ q=>k c v q) (λc q=>by rw[zi (zw q f)];exact q) λc i q=>by rw[zi (zw q f)];exact q
end
def Rd(H:Hp)(a:D)(u:HO):Prop:=H a=U u\/∃o,H a=U (.frz o u)
theorem Rd.ok{H:Hp}(r:Rd H a u)(x:t8 P w H h):aW P w H h a u:=by
 rcases r with r|⟨o,r⟩
 .exact x a u r
 .obtain⟨_,q⟩:=x a _ r;exact q
def Mut:Option HO->Prop
 |some (.lst _)=>True
 |some (.dK _)=>True
 |some (.dT _)=>True
 |some (.set _ _)=>True
 |some (.ins _ _ _)=>True
 |some (.ext _)=>True
 |_=>False
section
variable {P:aq}{w:au}{H:Hp}{h h':av}{x e:D}{o':HO}
theorem t8.write(n:t8 P w H h)(g:Mut (H x))(m:e=x\/H e=U (.own x))(k:∀b u,b≠e->h.get? b=U u->h'.get? b=U u)(j:∃u,h'.get? e=U u) (i:aW P w (upd H x o') h' x o'):t8 P w (upd H x o') h':=λb u q=>by
 have a:∀c y,H c=U (.own y)->c≠x:=λc y r z=>by subst z;rw[r] at g;exact g
 have d:∀c f,H c=U (.tup f)->c≠x:=λc f r z=>by subst z;rw[r] at g;exact g
 by_cases hb:b=x
 .subst hb;rw[zh] at q;cases q;exact i
 .rw[zi hb] at q;by_cases hbe:b=e
  .have l:H b=U (.own x):=by
    rcases m with z|z
    .exact absurd (hbe.trans z) hb
    .rw[hbe];exact z
   rw[q] at l;cases l;obtain⟨v,o⟩:=j;exact⟨v,by rw[hbe];exact o⟩
  .refine(n b u q).stay (λc v hc r=>k c v ?_ r) (λc r=>by rw[zi (a c b r)];exact r) λc f r=>by rw[zi (d c f r)];exact r
   rcases hc with rfl|hc
   .exact hbe
   .rintro rfl;rcases m with z|z
    .exact a c b hc z
    .rw[hc] at z;cases z;exact hb rfl
end
structure Un(fs ex:List D)(H H':Hp)(h h':av):Prop where
 keep:∀b o,h.get? b=U o->H b=ak->b ∉ fs->b ∉ ex->h'.get? b=U o
 slot:∀b o,h.get? b=U o->H b=ak->b∈fs->b ∉ ex->∃sl,h'.get? b=U { o with slots:=sl }
 free:∀b o,h.get? b=U o->H b=ak->b ∉ ex->H' b=ak
 there:∀b o,h.get? b=U o->b ∉ ex->∃o',h'.get? b=U o'
 tups:∀b xs,H b=U (.tup xs)->H' b=U (.tup xs)
 frzs:∀b o u,H b=U (.frz o u)->H' b=U (.frz o u)
 tbls:∀b ps,H b=U (.tbl ps)->∃more,H' b=U (.tbl (ps++more))
section
variable {fs fs' ex ex':List D}{H H1 H2:Hp}{h h1 h2 h':av}{a x e:D}{o:HO}
theorem Un.any(u:Un fs ex H H1 h h1)(q:h.get? b=U ob)(n:H b=ak)(c:b ∉ ex):∃sl,h1.get? b=U { ob with slots:=sl }:=by
 by_cases hb:b∈fs
 .exact u.slot b ob q n hb c
 .exact⟨ob.slots,u.keep b ob q n hb c⟩
theorem Un.kept(k:∀b u,h.get? b=U u->h'.get? b=U u):Un fs ex H H h h' :=
 ⟨λb c q _ _ _=>k b c q,λb c q _ _ _=>⟨c.slots,k b c q⟩,λ_ _ _ n _=>n,λb c q _=>⟨c,k b c q⟩,λ_ _ q=>q,λ_ _ _ q=>q,λ_ ps q=>⟨#[],by rw[q];simp⟩⟩
theorem Un.refl:Un fs ex H H h h:=Un.kept λ_ _ q=>q
theorem Un.laid(k:∀b u,h.get? b=U u->h'.get? b=U u)(d:h.objs.size<=a)(c:H a=ak):Un fs ex H (upd H a o) h h' where
 keep:=λb u q _ _ _=>k b u q
 slot:=λb u q _ _ _=>⟨u.slots,k b u q⟩
 free:=λb u q n _=>by rw[zi (bW (b6 (bQ q) d))];exact n
 there:=λb u q _=>⟨u,k b u q⟩
 tups:=λb xs q=>by rw[zi (zw q c)];exact q
 frzs:=λb u xs q=>by rw[zi (zw q c)];exact q
 tbls:=λb ps q=>⟨#[],by rw[zi (zw q c),q];simp⟩
theorem Un.write(c:Mut (H x))(l:e=x\/H e=U (.own x))(k:∀b u,b≠e->h.get? b=U u->h'.get? b=U u)(f:∃u,h'.get? e=U u):Un fs ex H (upd H x o) h h':=by
 have g:∀b,H b=ak->b≠x:=λb n z=>by subst z;rw[n] at c;exact c
 have i:∀b,H b=ak->b≠e:=λb n z=>by
  subst z;rcases l with r|r
  .exact g b n r
  .rw[n] at r;cases r
 have d:∀b u,H b=U u->¬ Mut (U u)->b≠x:=λb u q j z=>by subst z;rw[q] at c;exact j c
 refine⟨λb u q n _ _=>k b u (i b n) q,λb u q n _ _=>⟨u.slots,k b u (i b n) q⟩,λb u q n _=>by rw[zi (g b n)];exact n,λb u q _=>?_,
  λb xs q=>by rw[zi (d b _ q λz=>z)];exact q,λb u xs q=>by rw[zi (d b _ q λz=>z)];exact q,λb ps q=>⟨#[],by rw[zi (d b _ q λz=>z),q];simp⟩⟩
 by_cases hbe:b=e
 .subst hbe;exact f
 .exact⟨u,k b u hbe q⟩
end
def trk(h:av)(H:Hp):List D:=(eB h.objs.size).filter λa=>(H a).isSome
def Ql(h:av)(H:Hp):av:=gM h (trk h H)
theorem zdB(h:av)(H:Hp):(Ql h H).objs.size=h.objs.size:=W.hideAll_size _ _
theorem zen{H:Hp}(e:h.get? b=U o)(n:H b=ak):(Ql h H).get? b=U o:=
 lh _ e λa=>by
  have q:(H b).isSome=ah:=(b8.mp a).2;rw[n] at q;simp at q
theorem zgm{H:Hp}(e:(Ql h H).get? b=U o):h.get? b=U o/\H b=ak:=by
 have a:h.get? b=U o:=lX (trk h H) e;refine⟨a,?_⟩;cases q:H b with
 |none=>rfl
 |some x =>
  have c:b∈trk h H:=b8.mpr ⟨List.mem_range.mpr (bQ a),by simp[q]⟩;have z:(Ql h H).get? b=ak:=gc (trk h H) c;rw[z] at e;cases e
def zgn(g h:av)(b:D):List (D×Obj):=(eB h.objs.size).filterMap λa=>if a=b\/(g.get? a).isSome=ah then ak else (h.get? a).map λo=>(a,o)
def rest(g h:av)(a d:D):List (D×Obj):=(zgn g h a).filter λp=>decide (p.1≠d)
structure Mod(K:bw)(mg:Str->Option ae)(base:av):Prop where
 kin:K.In base
 glob:base.Ns Bd mg
 blt:∃mb,base.Ns builtinsNs mb/\∀x:Str,x≠"__name__"->mb x=Bh x
 nolimit:base.NoLimit
set_option genSizeOf false in
set_option genInjectivity false in
structure Cx where
 prog:aq
 w:au
 K:bw
 mg:Str->Option ae
 base:av
 A:aw
 N:List Str
 s₀:af
 H₀:Hp
 env:Env
 outer:List Env
 stack:List Env
 ex:List D
 fn:Str->Bool
 calm:Bool
 pn:List (D×Obj)
 xe:ae->af->Prop
def tP(l:List Env):List D:=l.filterMap (·.frame)
abbrev Cx.fs(X:Cx):List D:=tP X.outer
def Vis(a:aA)(x:Str):Prop:=a.names.lookup x=U .local\/a.names.lookup x=U .cell\/a.names.lookup x=U .free
def Loc(a:aA)(x:Str):Prop:=a.names.lookup x=U .local\/a.names.lookup x=U .cell
def zjs(a:Env)(h:av)(m:Str->Option ae)(x:Str)(u:ae):Prop :=
 (a.kindOf x=U .local/\m x=U u)\/((a.kindOf x=U .cell\/a.kindOf x=U .free)/\∃c,a.cells.lookup x=U c/\h.IsCell c (U u))
structure Cx.Ok(X:Cx):Prop where
 mod:Mod X.K X.mg X.base
 kind:X.env.scope.kind=.function
 glob:X.env.globals=Bd
 blt:X.env.builtins=builtinsNs
 above:X.s₀.heap.objs.size<=X.env.locals
 inj:∀x y c,X.env.cells.lookup x=U c->X.env.cells.lookup y=U c->x=y
 has:∀x,(X.env.kindOf x=U .cell\/X.env.kindOf x=U .free)->∃c,X.env.cells.lookup x=U c
 cab:∀x c,X.fn x=ah->X.env.cells.lookup x=U c->X.s₀.heap.objs.size<=c
 hd:X.calm=ah->X.A.handled=ak
 frames:X.A.frames=U X.stack
 stk:X.stack=X.outer\/(X.stack=X.env::X.outer/\X.env.frame=U X.env.locals)
 exf:∀b∈X.ex,b≠X.env.locals/\∀x c,X.env.cells.lookup x=U c->c≠b
 bs:∀b o,X.base.get? b=U o->X.s₀.heap.get? b=U o/\X.H₀ b=ak
 bsz:X.base.objs.size<=X.s₀.heap.objs.size
 noex:∀b o,X.base.get? b=U o->b ∉ X.ex
 exfs:∀b∈X.ex,b ∉ X.fs
 funs:X.s₀.heap.FunFrames X.base X.outer
 frf:∀b∈X.fs,X.H₀ b=ak
structure aO(X:Cx)(aa:List (D×Obj))(σ:List (Option V))(H:Hp)(s:af):Prop where
 ok:X.Ok
 os:s.os=X.s₀.os
 bare:AllBare s.gens
 base:Un X.fs X.ex X.H₀ H X.s₀.heap s.heap
 loc:∃m,s.heap.Ns X.env.locals m/\∀(i:Nat) (x:Str) (v:V),X.N[i]?=U x->σ[i]?=U (U v)->Vis X.env.scope x->∃u,aT v u/\zjs X.env s.heap m x u
 cell:∀x c,X.env.cells.lookup x=U c->∃v,s.heap.IsCell c v
 free:H X.env.locals=ak
 freeC:∀x c,X.env.cells.lookup x=U c->H c=ak
 pin:∀p∈X.pn++aa,s.heap.get? p.1=U p.2/\H p.1=ak/\p.1≠X.env.locals/\p.1 ∉ X.fs/\∀v,p.2.data≠.cell v
 hok:t8 X.prog X.w H s.heap
 len:σ.length=X.N.length
section
variable {X:Cx}{aa:List (D×Obj)}{σ:List (Option V)}{H H':Hp}{s:af}{h':av}
theorem Cx.Ok.nofr(a:X.Ok)(e:X.base.get? b=U o):b ∉ X.fs:=λd=>by
 have:=(a.funs.mem d).1;rw[e] at this;cases this
theorem aO.bs(I:aO X aa σ H s):∀b o,X.base.get? b=U o->s.heap.get? b=U o/\H b=ak:=λb o e =>
 ⟨I.base.keep b o (I.ok.bs b o e).1 (I.ok.bs b o e).2 (I.ok.nofr e) (I.ok.noex b o e),I.base.free b o (I.ok.bs b o e).1 (I.ok.bs b o e).2 (I.ok.noex b o e)⟩
theorem aO.bk(I:aO X aa σ H s):∀b o,X.base.get? b=U o->s.heap.get? b=U o:=λb o e=>(I.bs b o e).1
theorem aO.mod(I:aO X aa σ H s):Mod X.K X.mg X.base:=I.ok.mod
theorem aO.kIn(I:aO X aa σ H s):X.K.In s.heap:=I.ok.mod.kin.keeps I.bk
theorem aO.lt(I:aO X aa σ H s):X.env.locals<s.heap.objs.size:=let ⟨_,hn,_⟩:=I.loc;hn.lt
theorem aO.sz(I:aO X aa σ H s):X.s₀.heap.objs.size<=s.heap.objs.size:=bO I.ok.above (nX I.lt)
theorem aO.nofs(I:aO X aa σ H s){a:D}(h:s.heap.objs.size<=a):a ∉ X.fs:=λd=>by
 obtain⟨_,o,b,_⟩:=I.ok.funs.mem d;exact absurd (b6 (bQ b) (bO I.sz h)) (fq _)
theorem aO.cne(I:aO X aa σ H s):∀x c,X.env.cells.lookup x=U c->c≠X.env.locals:=λx c e z=>by
 obtain⟨v,o,d,f⟩:=I.cell x c e;obtain⟨m,⟨g,h,j,a,b,_⟩,_⟩:=I.loc;rw[z,a] at d;cases d;rw[b] at f;cases f
theorem aO.funs(I:aO X aa σ H s):s.heap.FunFrames X.base X.outer:=by
 have h:∀(l:List Env),(∀b∈tP l,b∈X.fs)->X.s₀.heap.FunFrames X.base l->s.heap.FunFrames X.base l:=by
  intro l;induction l with
  |nil=>intro _ _;trivial
  |cons env r ih =>
   intro j t;obtain⟨y,⟨a,o,d,q,n,A⟩,k⟩:=t;have g:a∈X.fs:=j a (by unfold tP;rw[lG,d];exact bt);obtain⟨B,e⟩:=I.base.slot a o n (I.ok.frf a g) g λz=>I.ok.exfs a z g;exact⟨y,⟨a,_,d,q,e,A⟩,ih (λb f=>j b (by unfold tP;rw[lG,d];exact br _ f)) k⟩
 exact h X.outer (λ_ f=>f) I.ok.funs
theorem aO.stack(I:aO X aa σ H s):s.heap.FunFrames X.base X.stack:=by
 rcases I.ok.stk with e|⟨e,hf⟩
 .rw[e];exact I.funs
 .rw[e];obtain⟨m,a,_⟩:=I.loc;refine .cons (by rw[I.ok.kind];decide) hf a ?_ I.funs;exact Heap.get?_none_of_le (bO I.ok.bsz I.ok.above)
theorem aO.stkSub(I:aO X aa σ H s):∀b∈tP X.stack,b∈X.env.locals::X.fs:=λb a=>by
 rcases I.ok.stk with e|⟨e,hf⟩
 .rw[e] at a;exact br _ a
 .rw[e] at a;unfold tP at a;rw[lG,hf] at a;exact a
theorem aO.stkFree(I:aO X aa σ H s):∀b∈tP X.stack,H b=ak:=λb hb=>by
 rcases bE.mp (I.stkSub b hb) with e|hb
 .rw[e];exact I.free
 .obtain⟨_,o,a,_⟩:=I.ok.funs.mem hb;exact I.base.free b o a (I.ok.frf b hb) λz=>I.ok.exfs b z hb
theorem aO.step{t':Nat}{d':Drawn}{ch:List D}(I:aO X aa σ H s) (h:∀b∈ch,(b∈X.ex\/X.s₀.heap.objs.size<=b)/\b≠X.env.locals/\(∀x c,X.env.cells.lookup x=U c->c≠b)/\∀p∈X.pn++aa,p.1≠b) (g:∀b o,b≠X.env.locals->b ∉ X.fs->b ∉ ch->s.heap.get? b=U o->H b=ak->h'.get? b=U o) (B:∀b o,b≠X.env.locals->b∈X.fs->b ∉ ch->s.heap.get? b=U o->H b=ak->∃sl,h'.get? b=U { o with slots:=sl }) (free:∀b o,b ∉ ch->s.heap.get? b=U o->H b=ak->H' b=ak) (C:∀b o,b ∉ ch->s.heap.get? b=U o->∃O,h'.get? b=U O) (J:∀b A,H b=U (.tup A)->H' b=U (.tup A)) (ag:∀b o u,H b=U (.frz o u)->H' b=U (.frz o u)) (M:∀b ps,H b=U (.tbl ps)->∃T,H' b=U (.tbl (ps++T))) (ns:∀m,s.heap.Ns X.env.locals m->h'.Ns X.env.locals m) (hok:t8 X.prog X.w H' h') (hg:AllBare g') :
  aO X aa σ H' { s with heap:=h',gens:=g',drawn:=d',toks:=t' }:=by
 have Q:∀b o,X.s₀.heap.get? b=U o->b≠X.env.locals:=λb o e=>bW (b6 (bQ e) I.ok.above);have t:∀b o,X.s₀.heap.get? b=U o->b ∉ X.ex->b ∉ ch:=λb o e a E=>by
  rcases(h b E).1 with z|z
  .exact a z
  .exact absurd (b6 (bQ e) z) (fq _)
 have j:∀x c,X.env.cells.lookup x=U c->∀v,s.heap.IsCell c v->h'.IsCell c v:=λx c e v ⟨o,G,hd⟩=>by
  have f:c ∉ ch:=λz=>(h c z).2.2.1 x c e rfl;by_cases hc:c∈X.fs
  .obtain⟨sl,q⟩:=B c o (I.cne x c e) hc f G (I.freeC x c e);exact⟨_,q,hd⟩
  .exact⟨o,g c o (I.cne x c e) hc f G (I.freeC x c e),hd⟩
 refine⟨I.ok,I.os,hg,⟨λb o e n E a=>?_,λb o e n E a=>?_,λb o e n a=>?_,λb o e a=>?_,λb A e=>J b A (I.base.tups b A e),λb o A e=>ag b o A (I.base.frzs b o A e),λb ps e=>?_⟩,?_,λx c e=>?_,?_,λx c e=>?_,λp hp=>?_,hok,I.len⟩
 .exact g b o (Q b o e) E (t b o e a) (I.base.keep b o e n E a) (I.base.free b o e n a)
 .obtain⟨sl,y⟩:=I.base.slot b o e n E a;obtain⟨ai,e2⟩:=B b _ (Q b o e) E (t b o e a) y (I.base.free b o e n a);exact⟨ai,e2⟩
 .obtain⟨O,y⟩:=I.base.there b o e a;exact free b O (t b o e a) y (I.base.free b o e n a)
 .obtain⟨O,y⟩:=I.base.there b o e a;exact C b O (t b o e a) y
 .obtain⟨m1,y⟩:=I.base.tbls b ps e;obtain⟨m2,e2⟩:=M b _ y;exact⟨m1++m2,by rw[e2,Array.append_assoc]⟩
 .obtain⟨m,hn,hl⟩:=I.loc;refine⟨m,ns m hn,λi x v y e2 e3=>?_⟩;obtain⟨u,r,l⟩:=hl i x v y e2 e3;refine⟨u,r,?_⟩;rcases l with l|⟨k,c,e,z⟩
  .exact .inl l
  .exact .inr ⟨k,c,e,j x c e _ z⟩
 .obtain⟨v,z⟩:=I.cell x c e;exact⟨v,j x c e v z⟩
 .obtain⟨m,⟨o,_,_,G,_⟩,_⟩:=I.loc;exact free _ o (λz=>(h _ z).2.1 Y) G I.free
 .obtain⟨v,o,G,hd⟩:=I.cell x c e;exact free c o (λz=>(h c z).2.2.1 x c e Y) G (I.freeC x c e)
 .obtain⟨e,n,ne,nf,d⟩:=I.pin p hp;have f:p.1 ∉ ch:=λz=>(h p.1 z).2.2.2 p hp rfl;exact⟨g p.1 p.2 ne nf f e n,free p.1 p.2 f e n,ne,nf,d⟩
theorem aO.un(I:aO X aa σ H s)(u:Un X.fs [] H H' s.heap h')(hok:t8 X.prog X.w H' h'):aO X aa σ H' { s with heap:=h',toks:=t' }:=by
 obtain⟨m,⟨o,z,A,h,r⟩,_⟩:=id I.loc;obtain⟨q,l⟩:=u.any h I.free (by simp);exact I.step (g':=s.gens) (d':=s.drawn) (ch:=[]) () (λb o _ d _ e n=>u.keep b o e n d (by simp)) (λb o _ d _ e n=>u.slot b o e n d (by simp)) (λb o _ e n=>u.free b o e n (by simp)) (λb o _ e=>u.there b o e (by simp)) u.tups u.frzs u.tbls (λy k=>by
  obtain⟨t,f,g,a,j⟩:=k;rw[h] at a;cases a;exact⟨_,f,g,l,j⟩) hok I.bare
theorem aO.call(I:aO X aa σ H s)(u:Un (tP X.stack) ch H H' s.heap h')(hok:t8 X.prog X.w H' h')(t:AllBare g') (f:∀b∈ch,(b∈X.ex\/X.s₀.heap.objs.size<=b)/\b≠X.env.locals/\(∀x c,X.env.cells.lookup x=U c->c≠b)/\∀p∈X.pn++aa,p.1≠b) :
  aO X aa σ H' { s with heap:=h',gens:=g',drawn:=d',toks:=t' }:=by
 obtain⟨m,⟨o,E,G,k,r⟩,_⟩:=id I.loc;obtain⟨A,g⟩:=u.any k I.free λz=>(f _ z).2.1 rfl;exact I.step (ch:=ch) f (λb o g y a e n=>u.keep b o e n (λz=>(bE.mp (I.stkSub b z)).elim g y) a) (λb o _ _ a e n=>u.any e n a) (λb o a e n=>u.free b o e n a) (λb o a e=>u.there b o e a) u.tups u.frzs u.tbls (λC q=>by
  obtain⟨B,h,j,d,l⟩:=q;rw[k] at d;cases d;exact⟨_,h,j,g,l⟩) hok t
theorem aO.turned(I:aO X aa σ H s)(k:∀b o,b≠it->s.heap.get? b=U o->h'.get? b=U o)(h:H it=ak)(f:it≠X.env.locals) (A:it∈X.ex\/X.s₀.heap.objs.size<=it) (y:∀x c,X.env.cells.lookup x=U c->c≠it) (t:∀p∈X.pn++aa,p.1≠it):aO X aa σ H { s with heap:=h',toks:=t' }:=by
 have d:∀b u,H b=U u->b≠it:=λb u e z=>by rw[z,h] at e;cases e
 refine I.step (g':=s.gens) (d':=s.drawn) (ch:=[it]) (λb l=>?_) (λb o _ _ a e _=>k b o (λz=>a (by simp[z])) e) (λb o _ _ a e _=>⟨o.slots,k b o (λz=>a (by simp[z])) e⟩) (λ_ _ _ _ n=>n)
  (λb o a e=>⟨o,k b o (λz=>a (by simp[z])) e⟩) (λ_ _ e=>e) (λ_ _ _ e=>e) (λb E e=>⟨#[],by rw[e];simp⟩) (λm j=>?_) (λb u e=>?_) I.bare
 .have e:b=it:=by simpa using l
  subst e;exact⟨A,f,y,t⟩
 .obtain⟨o,B,C,g,r⟩:=j;exact⟨o,B,C,k _ o (ef f) g,r⟩
 .refine(I.hok b u e).stay (λc v a q=>k c v ?_ q) (λ_ q=>q) λ_ _ q=>q;rcases a with z|z
  .rw[z];exact d b u e
  .exact d c _ z
theorem aO.tok(I:aO X aa σ H s)(t:Nat):aO X aa σ H { s with toks:=t }:=I.un (h':=s.heap) (t':=t) Un.refl I.hok
theorem aO.kept(I:aO X aa σ H s)(k:∀b u,s.heap.get? b=U u->h'.get? b=U u):aO X aa σ H { s with heap:=h',toks:=t' }:=I.un (Un.kept k) (I.hok.kept k)
theorem aO.laid{a:D}{o:HO}(I:aO X aa σ H s)(k:∀b u,s.heap.get? b=U u->h'.get? b=U u)(e:s.heap.objs.size<=a)(d:aW X.prog X.w (upd H a o) h' a o) :
  aO X aa σ (upd H a o) { s with heap:=h',toks:=t' }:=I.un (Un.laid k e (I.hok.fresh e)) (I.hok.laid k e d)
theorem aO.write(I:aO X aa σ H s)(f:Mut (H x))(g:e=x\/H e=U (.own x))(k:∀b u,b≠e->s.heap.get? b=U u->h'.get? b=U u)(a:∃u,h'.get? e=U u) (d:aW X.prog X.w (upd H x o) h' x o):aO X aa σ (upd H x o) { s with heap:=h',toks:=t' }:=I.un (Un.write f g k a) (I.hok.write f g k a d)
theorem aO.pins_of(I:aO X aa σ H s)(h:∀p∈pins',s.heap.get? p.1=U p.2/\H p.1=ak/\p.1≠X.env.locals/\p.1 ∉ X.fs/\∀v,p.2.data≠.cell v):aO X pins' σ H s:=
 ⟨I.ok,I.os,I.bare,I.base,I.loc,I.cell,I.free,I.freeC,λp a=>(bu.mp a).elim (λz=>I.pin p (cr _ z)) (h p),I.hok,I.len⟩
theorem zaw{N:List Str}(c:N.Nodup){i j:Nat}(a:N[i]?=U x)(b:N[j]?=U x):i=j:=by
 obtain⟨g,e⟩:=bn.mp a;obtain⟨f,d⟩:=bn.mp b;exact(gS c).mp (e.trans d.symm)
theorem Kw{E:ae->af->Prop}{Q:Unit->af->Prop}(I:aO X aa σ H s)(hN:X.N.Nodup)(hi:X.N[i]?=U x)(t:Loc X.env.scope x)(r:aT v u) (h:∀s',aO X aa (σ.set i (U v)) H s'->(∃a,cN a s.heap s'.heap/\(a=X.env.locals\/X.env.cells.lookup x=U a))->Q PUnit.unit s') (hf:X.fn x=ah\/X.env.scope.names.lookup x=U .local:=by first|exact .inl rfl|exact .inr rfl|assumption):Bf M A (storeName X.env x u) Q E s:=by
 obtain⟨m,hn,hl⟩:=id I.loc;have ag:(X.env.scope.kind==.class || (X.env.scope.kind==.module&&X.env.locals != X.env.globals))=ao:=by rw[I.ok.kind];rfl
 have C:i<σ.length:=by rw[I.len];exact(bn.mp hi).1
 have N:=I.cne;have g:∀ {a:D} {h':av},(∃o,s.heap.get? a=U o/\H a=ak)->cN a s.heap h'->t8 X.prog X.w H h':=λ{a h'} ha f b ob e=>by
  obtain⟨_,_,w⟩:=ha;refine(I.hok b ob e).stay (λc w' hc q=>(f.2 c ?_).trans q) (λ_ q=>q) λ_ _ q=>q;rintro rfl;rcases hc with rfl|hc
  .rw[w] at e;cases e
  .rw[w] at hc;cases hc
 rcases t with hk|hk
 .refine wpAny_storeName_local hk hn (λh' al f=>?_) ag;obtain⟨oL,_,_,aj,_⟩:=id hn;refine h _ ⟨I.ok,I.os,I.bare,⟨λb o e n J t=>?_,λb o e n J t=>?_,I.base.free,λb o e t=>?_,I.base.tups,I.base.frzs,I.base.tbls⟩,⟨_,al,λj y v' l B e3=>?_⟩,λy c e=>?_,I.free,I.freeC,λp hp=>?_,g ⟨oL,aj,I.free⟩ f,by simpa using I.len⟩ ⟨_,f,.inl Y⟩
  .exact(f.2 b (bW (b6 (bQ e) I.ok.above))).trans (I.base.keep b o e n J t)
  .obtain⟨sl,l⟩:=I.base.slot b o e n J t;exact⟨sl,(f.2 b (bW (b6 (bQ e) I.ok.above))).trans l⟩
  .obtain⟨o',l⟩:=I.base.there b o e t;exact⟨o',(f.2 b (bW (b6 (bQ e) I.ok.above))).trans l⟩
  .by_cases hj:j=i
   .subst hj;rw[hi] at l;cases l;rw[da C] at B;cases B;exact⟨u,r,.inl ⟨hk,by simp⟩⟩
   .rw[dF (ef hj)] at B;obtain⟨u',r',q⟩:=hl j y v' l B e3;refine⟨u',r',?_⟩;rcases q with ⟨k,e⟩|⟨k,c,e,z⟩
    .refine .inl ⟨k,?_⟩;have:y≠x:=λe=>hj (zaw hN l (e ▸ hi));simp[this,e]
    .exact .inr ⟨k,c,e,z.sameBut f (N y c e)⟩
  .obtain⟨w',z⟩:=I.cell y c e;exact⟨w',z.sameBut f (N y c e)⟩
  .obtain⟨e,n,ne,nf,d⟩:=I.pin p hp;exact⟨(f.2 p.1 ne).trans e,n,ne,nf,d⟩
 .have G:X.fn x=ah:=by
   rcases hf with z|z
   .exact z
   .rw[z] at hk;cases hk
  obtain⟨c,hc⟩:=I.ok.has x (.inl hk);obtain⟨w',z⟩:=I.cell x c hc;refine wpAny_storeName_cell I.ok.kind hk hc z (λh' ai f=>?_);obtain⟨oc,T,O⟩:=id z;refine h { s with heap:=h' } ⟨I.ok,I.os,I.bare,⟨λb o e n J t=>?_,λb o e n J t=>?_,I.base.free,λb o e t=>?_,I.base.tups,I.base.frzs,I.base.tbls⟩,⟨m,hn.sameBut f (ef (N x c hc)),λj y v' l B e3=>?_⟩,λy c' e=>?_,I.free,I.freeC,λp hp=>?_,g ⟨oc,T,I.freeC x c hc⟩ f,by simpa using I.len⟩ ⟨c,f,.inr hc⟩
  .exact(f.2 b (bW (b6 (bQ e) (I.ok.cab x c G hc)))).trans (I.base.keep b o e n J t)
  .obtain⟨sl,l⟩:=I.base.slot b o e n J t;exact⟨sl,(f.2 b (bW (b6 (bQ e) (I.ok.cab x c G hc)))).trans l⟩
  .obtain⟨o',l⟩:=I.base.there b o e t;exact⟨o',(f.2 b (bW (b6 (bQ e) (I.ok.cab x c G hc)))).trans l⟩
  .by_cases hj:j=i
   .subst hj;rw[hi] at l;cases l;rw[da C] at B;cases B;exact⟨u,r,.inr ⟨.inl hk,c,hc,ai⟩⟩
   .rw[dF (ef hj)] at B;obtain⟨u',r',q⟩:=hl j y v' l B e3;refine⟨u',r',?_⟩;rcases q with q|⟨k,c',e,z'⟩
    .exact .inl q
    .refine .inr ⟨k,c',e,z'.sameBut f ?_⟩;rintro rfl;exact hj (zaw hN l (I.ok.inj _ _ _ e hc ▸ hi))
  .by_cases hcc:c'=c
   .subst hcc;exact⟨_,ai⟩
   .obtain⟨w2,z2⟩:=I.cell y c' e;exact⟨w2,z2.sameBut f hcc⟩
  .obtain⟨e,n,ne,nf,d⟩:=I.pin p hp;refine⟨(f.2 p.1 ?_).trans e,n,ne,nf,d⟩;intro q;rw[q,T] at e;have q':oc=p.2:=bI e;exact d w' (by rw[<-q'];exact O)
theorem Vp{E:ae->af->Prop}{Q:Unit->af->Prop}(I:aO X aa σ H s)(e:X.N.Nodup)(c:X.N[i]?=U x)(b:Loc X.env.scope x)(r:aT v u) (h:∀a,aO X aa (σ.set i (U v)) H a->Q PUnit.unit a) (d:X.fn x=ah\/X.env.scope.names.lookup x=U .local:=by first|exact .inl rfl|exact .inr rfl|assumption):Bf M A (storeName X.env x u) Q E s:=
 Kw I e c b r (λa f _=>h a f) d
theorem aO.call'(I:aO X aa σ H s)(f:s'.os=s.os)(u:Un (tP X.stack) ch H H' s.heap s'.heap)(hok:t8 X.prog X.w H' s'.heap)(g:AllBare s'.gens) (a:∀b∈ch,(b∈X.ex\/X.s₀.heap.objs.size<=b)/\b≠X.env.locals/\(∀x c,X.env.cells.lookup x=U c->c≠b)/\∀p∈X.pn++aa,p.1≠b):aO X aa σ H' s':=by
 obtain⟨h',g',d',t',d⟩:=s';have e:d=s.os:=f;subst e;exact I.call (g':=g') (t':=t') (d':=d') u hok g a
end
abbrev XK:=ae->Option D->Hp->Prop
abbrev St:=List (Option V)
abbrev VK:=V->Hp->Prop
abbrev TE:=St->Hp->VK->Prop
abbrev TT:=St->Hp->(Bool->Hp->Prop)->Prop
abbrev TA:=St->Hp->(List V->Hp->Prop)->Prop
set_option genSizeOf false in
set_option genInjectivity false in
structure qT where
 nx:St->Hp->Prop
 rt:VK
 bk:St->Hp->Prop:=λ_ _=>False
 ct:St->Hp->Prop:=λ_ _=>False
abbrev TS:=qT->St->Hp->Prop
def EP(X:Cx)(d:List (D×Obj))(b:St)(Q:VK)(u:ae)(c:af):Prop:=∃v a,aO X d b a c/\aT v u/\Q v a
def TP(X:Cx)(e:List (D×Obj))(c:St)(Q:Bool->Hp->Prop)(b:Bool)(d:af):Prop:=∃a,aO X e c a d/\Q b a
def AP(X:Cx)(f:List (D×Obj))(c:St)(Q:List V->Hp->Prop)(d:List ae)(e:af):Prop:=∃a b,aO X f c b e/\aR a d/\Q a b
def SP(X:Cx)(d:List (D×Obj))(e:qT)(f:Flow)(c:af):Prop :=
 match f with
 |.next=>∃a b,aO X d a b c/\e.nx a b
 |.brk=>∃a b,aO X d a b c/\e.bk a b
 |.cont=>∃a b,aO X d a b c/\e.ct a b
 |.ret u=>∃v a b,aO X d a b c/\aT v u/\e.rt v b
def PE(X:Cx)(e:ay)(t:TE):Prop :=
 ∀(b:List (D×Obj)) (s:af) (a:St) (H:Hp) (Q:VK),aO X b a H s->t a H Q->Bf (Bg X.prog X.w) X.A (eval e X.env) (EP X b a Q) X.xe s
def PT(X:Cx)(e:ay)(t:TT):Prop :=
 ∀(b:List (D×Obj)) (s:af) (a:St) (H:Hp) (Q:Bool->Hp->Prop),aO X b a H s->t a H Q->Bf (Bg X.prog X.w) X.A (isTrue e X.env (eval e X.env)) (TP X b a Q) X.xe s
def PW(X:Cx)(e:ay)(t:TT):Prop :=
 ∀(a:Sem ae) (c:List (D×Obj)) (s:af) (b:St) (H:Hp) (Q:Bool->Hp->Prop),aO X c b H s->t b H Q->Bf (Bg X.prog X.w) X.A (isTrue e X.env a) (TP X c b Q) X.xe s
theorem PW.pt(h:PW X e t):PT X e t:=h _
def PA(X:Cx)(d:List ay)(t:TA):Prop :=
 ∀(b:Pos) (c:List (D×Obj)) (s:af) (a:St) (H:Hp) (Q:List V->Hp->Prop),aO X c a H s->t a H Q->Bf (Bg X.prog X.w) X.A (spliced (backTo b (Be d X.env))) (AP X c a Q) X.xe s
def PS(X:Cx)(st:ax)(t:TS):Prop :=
 ∀(b:List (D×Obj)) (s:af) (a:St) (H:Hp) (c:qT),aO X b a H s->t c a H->Bf (Bg X.prog X.w) X.A (exec st X.env) (SP X b c) X.xe s
def PSs(X:Cx)(st:List ax)(t:TS):Prop :=
 ∀(b:List (D×Obj)) (s:af) (a:St) (H:Hp) (c:qT),aO X b a H s->t c a H->Bf (Bg X.prog X.w) X.A (execs st X.env) (SP X b c) X.xe s
theorem dl{b:Type}{t:Sem b}{Q c:b->af->Prop}{E:ae->af->Prop}(h:Bf M A t Q E s)(d:∀a s,Q a s->c a s):Bf M A t c E s:=dN h d λ_ _ x=>x
section
variable {X:Cx}
def Z(i:Nat):TE:=λa H Q=>∃v,a[i]?=U (U v)/\Q v H
def tC(v:V):TE:=λ_ H Q=>Q v H
theorem zh1{x:Str}{a:Pos}(n:X.N[i]?=U x)(g:Vis X.env.scope x)(b:(x==("__debug__":Str))=ao:=by lia)(d:(x==("__classdict__":Str))=ao:=by lia):PE X (.Name x a) (Z i):=by
 intro o s f H Q I h;obtain⟨v,e,h⟩:=h;obtain⟨m,j,k⟩:=I.loc;obtain⟨u,r,l⟩:=k i x v n e g;have fin:EP X o f Q u s:=⟨v,H,I,r,h⟩;rcases l with ⟨hk,hm⟩|⟨hk,c,hc,hcell⟩
 .exact wpAny_Name (wpAny_loadName_local I.ok.kind hk j hm fin) b
 .rcases hk with hk|hk
  .exact wpAny_Name (wpAny_loadName_cell I.ok.kind hk hc hcell fin) b
  .exact wpAny_Name (wpAny_loadName_free I.ok.kind hk hc hcell fin d) b
theorem zf{i j pos}:PE X (.Constant (.int i) j pos) (tC (.int i)):=λ_ _ _ H _ I h=>wpAny_Constant_int ⟨.int i,H,I.tok _,⟨_,Y⟩,h⟩
theorem jY{b j pos}:PE X (.Constant (.bool b) j pos) (tC (.bl b)):=λ_ _ _ H _ I h=>Constant_bool ⟨.bl b,H,I,Y,h⟩
theorem yB{j pos}:PE X (.Constant .none j pos) (tC .non):=λ_ _ _ H _ I h=>Constant_none ⟨.non,H,I,Y,h⟩
theorem zG{x j pos}:PE X (.Constant (.str x) j pos) (tC (.str x)):=λ_ _ _ H _ I h=>pK ⟨.str x,H,I.tok _,⟨_,Y⟩,h⟩
def Gl(X:Cx)(x:Str):Prop:=X.env.kindOf x=U .globalImplicit
theorem wT{E:ae->af->Prop}{s:af}{b:St}{H:Hp}{x:Str}{u:ae}{a:Pos}{Q:ae->af->Prop}(I:aO X aa b H s)(d:Gl X x)(c:X.mg x=U u)(h:Q u s) (e:(x==("__debug__":Str))=ao:=by lia):Bf (Bg X.prog X.w) X.A (eval (.Name x a) X.env) Q E s:=
 lT I.ok.kind d (Calls.loadGlobal_global (by rw[I.ok.glob];exact I.mod.glob.keeps I.bk) c h) e
theorem Yv{E:ae->af->Prop}{s:af}{b:St}{H:Hp}{x:Str}{u:ae}{a:Pos}{Q:ae->af->Prop}(I:aO X aa b H s)(f:Gl X x)(e:X.mg x=ak)(c:Bh x=U u)(h:Q u s) (d:x≠"__name__":=by lia) (g:(x==("__debug__":Str))=ao:=by lia):Bf (Bg X.prog X.w) X.A (eval (.Name x a) X.env) Q E s:=by
 obtain⟨k,j,i⟩:=I.mod.blt;exact lT I.ok.kind f (Calls.loadGlobal_builtin (by rw[I.ok.glob];exact I.mod.glob.keeps I.bk) e (by rw[I.ok.blt];exact j.keeps I.bk) ((i x d).trans c) h) g
theorem zgo(b:Gl X x)(a:X.mg x=U u)(r:aT v u)(c:(x==("__debug__":Str))=ao:=by lia):PE X (.Name x pos) (tC v):=
 λ_ _ _ H _ I h=>wT I b a ⟨v,H,I,r,h⟩ c
theorem xD{x:Str}{a:Pos}(e:Gl X x)(d:X.mg x=ak)(b:Bh x=U u)(r:aT v u)(c:x≠"__name__":=by lia)(f:(x==("__debug__":Str))=ao:=by lia):PE X (.Name x a) (tC v):=
 λ_ _ _ H _ I h=>Yv I e d b ⟨v,H,I,r,h⟩ c f
variable {a b:ay}{ta tb:TE}{pos:Pos}
def tB(t:TE):TT:=λd H Q=>t d H λx e=>∃c,x=.bl c/\Q c e
theorem xn{e:ay}{t:TE}(h:PE X e t)(k:∀c,isTrue e X.env c=(do let v <-c;standAt e.pos;holding [v] (truthy v)):=by intro _;rfl):PT X e (tB t):=by
 intro l s f H Q I j;refine isTrue_plain (dl (h l s f H _ I j) ?_) (k _);rintro v o ⟨x,n,m,g,i⟩;obtain⟨d,rfl,q⟩:=i;cases g;exact fK ⟨n,m,q⟩
variable {tA tB':TT}{rest:List ay}
def XR(t u:TT):TT:=λd H Q=>t d H λc e=>if c=ah then u d e Q else Q ao e
def tOr(t u:TT):TT:=λd H Q=>t d H λc e=>if c=ah then Q ah e else u d e Q
def XS(t:TT):TT:=λd H Q=>t d H λc e=>Q (!c) e
theorem vI(f:PT X a tA):PW X (.BoolOp .And [a] pos) tA:=by
 intro i g s d H Q I h;refine isTrue_and (dl (f g s d H Q I h) λc j e=>?_);cases c with
 |true=>exact isTrue_and_nil e
 |false=>exact e
theorem kQ(f:PT X a tA):PW X (.BoolOp .Or [a] pos) tA:=by
 intro i g s d H Q I h;refine isTrue_or (dl (f g s d H Q I h) λc j e=>?_);cases c with
 |false=>exact isTrue_or_nil e
 |true=>exact e
theorem kR(m:PT X a tA)(l:PW X (.BoolOp .And (b::rest) pos) tB'):PW X (.BoolOp .And (a::b::rest) pos) (XR tA tB'):=by
 intro j f s d H Q I h;refine isTrue_and (dl (m f s d H _ I h) ?_);rintro c k ⟨i,g,e⟩;cases c with
 |true=>exact l j f k d i Q g e
 |false=>exact⟨i,g,e⟩
theorem YU(m:PT X a tA)(l:PW X (.BoolOp .Or (b::rest) pos) tB'):PW X (.BoolOp .Or (a::b::rest) pos) (tOr tA tB'):=by
 intro j f s d H Q I h;refine isTrue_or (dl (m f s d H _ I h) ?_);rintro c k ⟨i,g,e⟩;cases c with
 |true=>exact⟨i,g,e⟩
 |false=>exact l j f k d i Q g e
theorem jQ(e:PT X a tA):PT X (.UnaryOp .Not a pos) (XS tA):=by
 intro f s d H Q I h;exact isTrue_not (e f s d H (λc g=>Q (!c) g) I h)
def zcL(ta tb:TE):TE:=λd H Q=>ta d H λx e=>∃c,x=.bl c/\if c=ah then tb d e Q else Q (.bl ao) e
def zh2(ta tb:TE):TE:=λd H Q=>ta d H λx e=>∃c,x=.bl c/\if c=ah then Q (.bl ah) e else tb d e Q
def zhw(ta:TE):TE:=λd H Q=>ta d H λx e=>∃c,x=.bl c/\Q (.bl (!c)) e
theorem Qm{op}{t:TE}(h:PE X a t):PE X (.BoolOp op [a] pos) t:=λe s c H Q I d=>BoolOp_one (h e s c H Q I d)
theorem zbR(m:PE X a ta)(l:PE X (.BoolOp .And (b::rest) pos) tb):PE X (.BoolOp .And (a::b::rest) pos) (zcL ta tb):=by
 intro f s e H Q I h;refine BoolOp_and (dl (m f s e H _ I h) ?_);rintro v j ⟨x,i,g,k,d⟩;obtain⟨c,rfl,d⟩:=d;cases k;refine fK ?_;cases c with
 |true=>exact l f j e i Q g d
 |false=>exact⟨.bl ao,i,g,Y,d⟩
theorem zhx(m:PE X a ta)(l:PE X (.BoolOp .Or (b::rest) pos) tb):PE X (.BoolOp .Or (a::b::rest) pos) (zh2 ta tb):=by
 intro f s e H Q I h;refine BoolOp_or (dl (m f s e H _ I h) ?_);rintro v j ⟨x,i,g,k,d⟩;obtain⟨c,rfl,d⟩:=d;cases k;refine fK ?_;cases c with
 |false=>exact l f j e i Q g d
 |true=>exact⟨.bl ah,i,g,Y,d⟩
theorem zh3(g:PE X a ta):PE X (.UnaryOp .Not a pos) (zhw ta):=by
 intro i s e H Q I h;refine UnaryOp_ (dl (g i s e H _ I h) ?_);rintro v l ⟨x,k,j,f,d⟩;obtain⟨c,rfl,d⟩:=d;cases f;exact not_of (fK ⟨.bl (!c),k,j,Y,d⟩)
def tIf(t:TT)(ta tb:TE):TE:=λd H Q=>t d H λc e=>if c=ah then ta d e Q else tb d e Q
theorem vX(l:PT X c tA)(n:PE X a ta)(m:PE X b tb):PE X (.IfExp c a b pos) (tIf tA ta tb):=by
 intro f s e H Q I h;refine wpAny_IfExp (dl (l f s e H _ I h) ?_);rintro d g ⟨k,j,i⟩;cases d with
 |true=>exact n f g e k Q j i
 |false=>exact m f g e k Q j i
end
def aQ(K:bw)(H:Hp)(a:D)(c:List V):Prop :=
 Rd H a (.lst c) \/
  ∃(o:Obj) (b:Array ae) (n:Nat),K.lookup a=U o/\o.cls=.type "list"/\o.dict=ak/\o.data=.seq b n/\b.size<=Bb/\aR c b.toList
def sW(K:bw)(H:Hp)(a:D)(c:List V):Prop :=
 Rd H a (.tup c) \/
  ∃(o:Obj) (b:Array ae) (n:Nat),K.lookup a=U o/\o.cls=.type "tuple"/\o.data=.seq b n/\b.size<=Bb/\aR c b.toList
def zjt:ae->Option V
 |.none=>U .non
 |.bool b=>U (.bl b)
 |.int i _=>U (.int i)
 |.str x _=>U (.str x)
 |.bytes b _=>U (.byt b)
 |.float b _=>U (.flt b)
 |.ref a=>U (.ref a)
 |.type n=>U (.ty n)
 |_=>ak
theorem aT.abs(r:aT x u):zjt u=U x:=by
 cases x with
 |non=>cases r;rfl
 |bl _=>cases r;rfl
 |int _=>obtain⟨t,rfl⟩:=r;rfl
 |str _=>obtain⟨t,rfl⟩:=r;rfl
 |byt _=>obtain⟨t,rfl⟩:=r;rfl
 |flt _=>obtain⟨t,rfl⟩:=r;rfl
 |ref _=>cases r;rfl
 |ty _=>cases r;rfl
theorem aT.inj(r:aT x u)(q:aT y u):x=y:=bI (r.abs.symm.trans q.abs)
theorem aR.inj:∀ {b a:List V} {c:List ae},aR b c->aR a c->b=a
 |_,_,_,.nil,.nil=>rfl
 |_,_,_,.cons r t,.cons r' t'=>by rw[r.inj r',aR.inj t t']
section
variable {X:Cx}{aa:List (D×Obj)}{σ:St}{H:Hp}{s:af}{a:D}{xs ys:List V}
theorem aQ.of{K:bw}(h:H a=U (.lst xs)):aQ K H a xs:=.inl (.inl h)
theorem sW.of{K:bw}(h:H a=U (.tup xs)):sW K H a xs:=.inl (.inl h)
theorem aO.list(I:aO X aa σ H s)(h:aQ X.K H a xs):∃b:List ae,aR xs b/\PlainL s.heap a b.toArray/\xs.length<=Bb:=by
 rcases h with h|⟨o,b,n,hk,hc,hd,hs,hz,r⟩
 .obtain⟨z,b,n,r,e⟩:=h.ok I.hok;exact⟨b,r,⟨_,n,e,Y,Y,Y⟩,z⟩
 .refine⟨b.toList,r,⟨o,n,I.kIn a o hk,hc,hd,by simpa using hs⟩,?_⟩;have e:=r.length;simp only[cg] at e;lia
theorem aO.tuple(I:aO X aa σ H s)(h:sW X.K H a xs):∃b:List ae,aR xs b/\IsTup s.heap a b.toArray/\xs.length<=Bb:=by
 rcases h with h|⟨o,b,n,hk,hc,hs,hz,r⟩
 .obtain⟨z,b,r,p⟩:=h.ok I.hok;exact⟨b,r,p,z⟩
 .refine⟨b.toList,r,⟨o,I.kIn a o hk,hc,n,by simpa using hs⟩,?_⟩;have e:=r.length;simp only[cg] at e;lia
theorem aO.list_inj(I:aO X aa σ H s)(h:aQ X.K H a xs)(k:aQ X.K H a ys):xs=ys:=by
 obtain⟨b,r,⟨o,n,e,_,_,d⟩,_⟩:=I.list h;obtain⟨its',j,⟨l,q,f,_,_,g⟩,_⟩:=I.list k;rw[e] at f;cases f;rw[d] at g;injection g with d1 _;have:b=its':=by simpa using congrArg Array.toList d1
 subst this;exact r.inj j
theorem aO.tuple_inj(I:aO X aa σ H s)(h:sW X.K H a xs)(k:sW X.K H a ys):xs=ys:=by
 obtain⟨b,r,⟨o,e,_,n,d⟩,_⟩:=I.tuple h;obtain⟨its',j,⟨l,f,_,q,g⟩,_⟩:=I.tuple k;rw[e] at f;cases f;rw[d] at g;injection g with d1 _;have:b=its':=by simpa using congrArg Array.toList d1
 subst this;exact r.inj j
end
abbrev Cx.wish(X:Cx)(E:ae->af->Prop):Cx:={ X with xe:=E }
abbrev Cx.nox(X:Cx):Cx:=X.wish λ_ _=>False
theorem Cx.Ok.wish{X:Cx}(a:X.Ok)(E:ae->af->Prop):(X.wish E).Ok :=
 ⟨a.mod,a.kind,a.glob,a.blt,a.above,a.inj,a.has,a.cab,a.hd,a.frames,a.stk,a.exf,a.bs,a.bsz,a.noex,a.exfs,a.funs,a.frf⟩
theorem Cx.Ok.unwish{X:Cx}{E:ae->af->Prop}(a:(X.wish E).Ok):X.Ok :=
 ⟨a.mod,a.kind,a.glob,a.blt,a.above,a.inj,a.has,a.cab,a.hd,a.frames,a.stk,a.exf,a.bs,a.bsz,a.noex,a.exfs,a.funs,a.frf⟩
section
variable {X:Cx}{aa:List (D×Obj)}{σ:St}{H:Hp}{s:af}{E:ae->af->Prop}
theorem aO.wish(I:aO X aa σ H s)(E:ae->af->Prop):aO (X.wish E) aa σ H s:=⟨I.ok.wish E,I.os,I.bare,I.base,I.loc,I.cell,I.free,I.freeC,I.pin,I.hok,I.len⟩
theorem aO.unwish(I:aO (X.wish E) aa σ H s):aO X aa σ H s:=⟨I.ok.unwish,I.os,I.bare,I.base,I.loc,I.cell,I.free,I.freeC,I.pin,I.hok,I.len⟩
theorem SP.unwish(h:SP (X.wish E) aa Bp f s'):SP X aa Bp f s':=by
 cases f with
 |next=>obtain⟨a,b,I,q⟩:=h;exact⟨a,b,I.unwish,q⟩
 |brk=>obtain⟨a,b,I,q⟩:=h;exact⟨a,b,I.unwish,q⟩
 |cont=>obtain⟨a,b,I,q⟩:=h;exact⟨a,b,I.unwish,q⟩
 |ret u=>obtain⟨v,a,b,I,r,q⟩:=h;exact⟨v,a,b,I.unwish,r,q⟩
theorem PSs.nox{a:List ax}{t:TS}(h:PSs X.nox a t):PSs X a t:=λaa s σ H c I b =>
 dN (h aa s σ H c (I.wish _) b) (λ_ _ q=>q.unwish) λ_ _ z=>c8 z
end
section
variable {X:Cx}{st:ax}{rest:List ax}{t u:TS}{e:ay}{te:TE}{pos:Pos}
def zK:TS:=λb a H=>b.nx a H
def zo(t u:TS):TS:=λa b H=>t { a with nx:=u a } b H
theorem zy:PSs X [] zK:=λ_ _ a H _ I h=>eY ⟨a,H,I,h⟩
theorem zd(j:PS X st t)(i:PSs X rest u):PSs X (st::rest) (zo t u):=by
 intro c s d H b I h;refine i0 (dl (j c s d H { b with nx:=u b } I h) λf g q=>?_);cases f with
 |next =>
  obtain⟨a,l,k,q⟩:=q;exact i c g a l b k q
 |ret v=>exact q
 |brk=>exact q
 |cont=>exact q
theorem zg(b:PS X st t):PSs X [st] t:=by
 intro c s a H d I h;refine i0 (dl (b c s a H d I h) λf g q=>?_);cases f with
 |next=>exact eY q
 |ret v=>exact q
 |brk=>exact q
 |cont=>exact q
theorem aO.quiet{σ:St}{H:Hp}{s:af}(I:aO X aa σ H s):interactive X.env=ao:=by simp[interactive,I.ok.kind]
def yh(te:TE):TS:=λc a H=>te a H λ_ b=>c.nx a b
theorem zN(d:PE X e te)(c:swapsWith e ak pos.line X.env=pure ao:=by rfl):PS X (.Expr e pos) (yh te):=by
 intro f s a H l I h;exact wpAny_Expr_any (dl (d f s a H _ I h) λv j ⟨x,i,g,k,b⟩=>⟨a,i,g,b⟩) I.quiet c
def zL(te:TE):TS:=λb a H=>te a H b.rt
theorem zq(d:PE X e te):PS X (.Return (U e) pos) (zL te):=by
 intro f s a H k I h;exact wpAny_Return_some (dl (d f s a H _ I h) λv j ⟨x,i,g,b,c⟩=>⟨x,a,i,g,b,c⟩)
def zhy:TS:=λa _ H=>a.rt .non H
theorem zgp:PS X (.Return ak pos) zhy:=λ_ _ a H _ I h=>wpAny_Return_none ⟨.non,a,H,I,Y,h⟩
def zR(c:TT)(t u:TS):TS:=λf a H=>c a H λb d=>if b=ah then t f a d else u f a d
theorem zH(n:PT X c tc)(p:PSs X a t)(o:PSs X b u):PS X (.If c a b pos) (zR tc t u):=by
 intro g s f H m I h;refine wpAny_If (dl (n g s f H _ I h) ?_);rintro d i ⟨l,k,j⟩;cases d with
 |true=>exact p g i f l m k j
 |false=>exact o g i f l m k j
def zbS:TS:=λ_ _ _=>False
theorem zax:PS X st zbS:=λ_ _ _ _ _ _ h=>h.elim
end
abbrev TG:=V->St->Hp->(St->Hp->Prop)->Prop
abbrev TGs:=List V->St->Hp->(St->Hp->Prop)->Prop
def PG(X:Cx)(a:ay)(t:TG):Prop :=
 ∀(d:List (D×Obj)) (s:af) (c:St) (H:Hp) (v:V) (u:ae) (Q:St->Hp->Prop),aO X d c H s->aT v u->t v c H Q ->
  Bf (Bg X.prog X.w) X.A (assign a X.env u) (λ_ f=>∃b e,aO X d b e f/\Q b e) X.xe s
def PGs(X:Cx)(g:List ay)(t:TGs):Prop :=
 ∀(e:List (D×Obj)) (s:af) (b:St) (H:Hp) (c:List V) (d:List ae) (Q:St->Hp->Prop),aO X e b H s->aR c d->t c b H Q ->
  Bf (Bg X.prog X.w) X.A (assignInOrder ((assignEach g X.env).map (·.2)) d) (λ_ h=>∃a f,aO X e a f h/\Q a f) X.xe s
section
variable {X:Cx}{pos:Pos}
def zt(i:Nat):TG:=λv a H Q=>Q (a.set i (U v)) H
theorem kS(d:X.N.Nodup)(b:X.N[i]?=U x)(a:Loc X.env.scope x)(c:X.fn x=ah\/X.env.scope.names.lookup x=U .local:=by first|exact .inl rfl|exact .inr rfl|assumption):PG X (.Name x pos) (zt i):=by
 intro j s f H v u Q I r h;exact wpAny_assign_Name (Vp I d b a r (λg e=>⟨_,H,e,h⟩) c)
def JL:TGs:=λb a H Q=>b=[]/\Q a H
def wu(t:TG)(u:TGs):TGs:=λc b H Q=>∃v r,c=v::r/\t v b H λa d=>u r a d Q
theorem kT:PGs X [] JL:=by
 intro d s a H b c Q I r h;obtain⟨e,h⟩:=h;subst e;cases r;exact assignInOrder_nil ⟨a,H,I,h⟩
theorem y7{e:ay}{a:List ay}{t:TG}{u:TGs}(k:PG X e t)(j:PGs X a u) (i:(assignEach (e::a) X.env).map (·.2)=assign e X.env::(assignEach a X.env).map (·.2):=by rfl):PGs X (e::a) (wu t u):=by
 intro c s d H o q Q I r h;obtain⟨v,p,l,h⟩:=h;subst l;cases r with
 |cons r rr =>
  rw[i];refine assignInOrder_cons (dl (k c s d H _ _ _ I r h) ?_);rintro _ f ⟨b,n,m,g⟩;exact j c f b n _ _ Q m rr g
def JM(K:bw)(n:Nat)(t:TGs):TG:=λv c H Q=>∃a b,v=.ref a/\sW K H a b/\b.length=n/\t b c H Q
theorem Yw{c:List ay}{k:Nat}{t:TGs}{n:Nat}(z:X.calm=ah)(h:PGs X c t) (x:(assignEach c X.env).length=n:=by rfl) (f:(assignEach c X.env).findIdx? (·.1)=ak:=by rfl):PG X (.Tuple c k pos) (JM X.K n t):=by
 intro j s g H v u Q I r d;obtain⟨a,l,B,w,y,d⟩:=d;subst B;cases r;obtain⟨m,i,q,E⟩:=I.tuple w;refine assign_Tuple_tuple (I.ok.hd z) q (by simp[x,<-y,i.length]) f λA p=>?_;have C:aO X j g H { s with heap:=A }:=I.kept (t':=s.toks) λb o e=>p b o (bW (bQ e)) e;exact h j _ g H l _ Q C (by simpa using i) d
def zO(b:TE)(g:TG):TS:=λd a H=>b a H λx c=>g x a c d.nx
theorem XT{a:TE}(m:X.N.Nodup)(j:X.N[i]?=U x)(f:Loc X.env.scope x)(l:PE X e a)(g:swapsWith e (U (.Name x pos')) pos.line X.env=pure ao:=by rfl)(k:X.fn x=ah\/X.env.scope.names.lookup x=U .local:=by first|exact .inl rfl|exact .inr rfl|assumption) :
  PS X (.Assign [.Name x pos'] e pos) (zO a (zt i)):=by
 intro n s b H u I h;refine wpAny_Assign_Name (dl (l n s b H _ I h) ?_) g;rintro v t ⟨y,q,p,c,d⟩;exact Vp p m j f c (λr o=>⟨_,q,o,d⟩) k
end
section
variable {X:Cx}{pos:Pos}
def zbT(c:TT)(i:TS):TS:=λe a H=>∃W:Nat->St->Hp->Prop,(∃m,W m a H)/\∀m a H,W m a H ->
 c a H λb g=>if b=ah then ∃N:St->Hp->Prop,(∀d h,N d h->∃f,f<m/\W f d h)/\i { e with nx:=N,ct:=N,bk:=e.nx } a g else e.nx a g
theorem zay{t:TS}(u:PassesOwn (Bg X.prog X.w) X.A X.env X.xe)(Q:PT X c tc)(T:PSs X body t):PS X (.While c body [] pos) (zbT tc t):=by
 intro q s B H Bp I h;obtain⟨W,⟨O,E⟩,g⟩:=h;refine wpAny_While (codeAny_whileLoop (λn M=>∃e A,aO X q e A M/\W n e A) ?_ O ⟨B,H,I,E⟩);rintro n J ⟨d,z,I1,C⟩;refine fM u (dl (Q q J d z _ I1 (g n d z C)) ?_);rintro b G ⟨y,x,k⟩;cases b with
 |true =>
  obtain⟨N,w,k⟩:=k;rw[ap rfl];refine fM u (dl (T q G d y _ x k) λf s3 j=>?_);cases f with
  |next =>
   obtain⟨a,i,r,m⟩:=j;obtain⟨o,p,l⟩:=w a i m;exact⟨o,p,a,i,r,l⟩
  |cont =>
   obtain⟨a,i,r,m⟩:=j;obtain⟨o,p,l⟩:=w a i m;exact⟨o,p,a,i,r,l⟩
  |brk=>exact j
  |ret v=>exact j
 |false =>
  rw[am bM];exact eY ⟨d,y,x,k⟩
end
set_option genSizeOf false in
set_option genInjectivity false in
structure It where
 go:Nat->Hp->Prop
 yld:Nat->Hp->V->Hp->Prop
 stop:Nat->Hp->Prop
def qY(X:Cx)(a:List (D×Obj))(H:Hp)(b:D):Prop :=
 H b=ak/\b≠X.env.locals/\b ∉ X.fs/\(b∈X.ex\/X.s₀.heap.objs.size<=b)/\(∀x c,X.env.cells.lookup x=U c->c≠b)/\∀p∈X.pn++a,p.1≠b
theorem aO.fpOk{aa:List (D×Obj)}{σ:St}{H d:Hp}{s:af}{b:D}(I:aO X aa σ H s)(a:s.heap.objs.size<=b)(g:d b=ak):qY X aa d b:=by
 refine⟨g,fu (b6 I.lt a),I.nofs a,.inr (bO I.sz a),λx c e z=>?_,λp f z=>?_⟩
 .obtain⟨v,q⟩:=I.cell x c e;exact absurd (b6 q.lt (by rw[z];exact a)) (fq _)
 .exact absurd (b6 (bQ (I.pin p f).1) (by rw[z];exact a)) (fq _)
structure zdC(P:aq)(w:au)(K:bw)(tg:ay)(J:It)(fp:List D)(it:D)(tn:Nat->av->Prop):Prop where
 mem:it∈fp
 obj:∀i h,tn i h->∀b∈fp,∃o,h.get? b=U o/\∀v,o.data≠.cell v
 keep:∀i h h',tn i h->(∀b∈fp,∀o,h.get? b=U o->h'.get? b=U o)->tn i h'
 item:∀(X:Cx),X.prog=P->X.w=w->X.K=K->X.calm=ah->∀(i:Nat) (aa:List (D×Obj)) (s:af) (σ:St) (H:Hp) (E:ae->af->Prop),aO X aa σ H s->(∀b∈fp,qY X aa H b)->tn i s.heap->J.go i H ->
  Bf (Bg P w) X.A (pyNext (.ref it)) (λr s1=>∃u,r=U u /\
   Bf (Bg P w) X.A (letOwnedTupleGo tg (.ref it) u) (λ_ s2=>∃x H',aO X aa σ H' s2/\aT x u/\J.yld i H x H'/\tn (i+1) s2.heap/\∀b∈fp,H' b=ak) E s1) E s
 done:∀(X:Cx),X.prog=P->X.w=w->X.K=K->X.calm=ah->∀(i:Nat) (aa:List (D×Obj)) (s:af) (σ:St) (H:Hp) (E:ae->af->Prop),aO X aa σ H s->(∀b∈fp,qY X aa H b)->tn i s.heap->J.stop i H ->
  Bf (Bg P w) X.A (pyNext (.ref it)) (λr s1=>r=ak/\aO X aa σ H s1) E s
 self:∀(A:aw) (i:Nat) (s:af) (Q:ae->af->Prop) (E:ae->af->Prop),tn i s.heap->Q (.ref it) s->Bf (Bg P w) A (pyIter (.ref it)) Q E s
abbrev TI:=St->Hp->(It->Hp->Prop)->Prop
def PIE(X:Cx)(h:List (D×Obj))(i:St)(j:ay)(R:It->Hp->Prop)(a:ae)(e:af):Prop :=
 ∃(f:D) (g:List D) (d:Nat->av->Prop) (J:It) (c:Hp),a=.ref f/\aO X h i c e/\zdC X.prog X.w X.K j J g f d/\d 0 e.heap/\(∀b∈g,qY X h c b)/\R J c
def PI(X:Cx)(e a:ay)(d:TI):Prop :=
 ∀(c:List (D×Obj)) (s:af) (b:St) (H:Hp) (R:It->Hp->Prop),aO X c b H s->d b H R ->
  Bf (Bg X.prog X.w) X.A (eval a X.env) (λv f=>Bf (Bg X.prog X.w) X.A (pyIter v) (PIE X c b e R) X.xe f) X.xe s
theorem zcM{E:ae->af->Prop}{Q:Unit->af->Prop}(b:s.heap.get? it=U o)(e:o.cls=.type n)(d:o.data=.fields vs) (c:["enumerate","zip","dict_itemiterator","dict_reverseitemiterator","odict_iterator","itertools.zip_longest","itertools.pairwise"].contains n=ao) (a:Q PUnit.unit s):Bf M A (letOwnedTupleGo tg (.ref it) u) Q E s:=by
 unfold letOwnedTupleGo;cases tg <;> first
  |exact bf a
  | (cases u <;> first
      |exact bf a
      | (refine ba (oJ b ?_)
         rw[e,d];show Bf M A (if (["enumerate","zip","dict_itemiterator","dict_reverseitemiterator","odict_iterator","itertools.zip_longest","itertools.pairwise"].contains n&&vs[0]?==U (rawInt _))=ah then _ else _) Q E s;rw[am (by intro h;rw[c,Bool.false_and] at h;cases h)];exact bf a))
def Itl(K:bw)(a:D):It :=
 ⟨λi H=>∃b x,aQ K H a b/\b[i]?=U x,λi H x c=>c=H/\∀b,aQ K H a b->b[i]?=U x,λi H=>∃b,aQ K H a b/\b.length<=i⟩
def Itt(K:bw)(a:D):It :=
 ⟨λi H=>∃b x,sW K H a b/\b[i]?=U x,λi H x c=>c=H/\∀b,sW K H a b->b[i]?=U x,λi H=>∃b,sW K H a b/\b.length<=i⟩
def Itr(lo:Int)(n:Nat):It:=⟨λi _=>i<n,λi H x a=>a=H/\x=.int (lo+i),λi _=>n<=i⟩
theorem zdD{P:aq}{w:au}{K:bw}{tg:ay}(a it:D):zdC P w K tg (Itl K a) [it] it (λi h=>h.IsListIter it a i) where
 mem:=by simp
 obj:=λi h f b g=>by
  have e:b=it:=by simpa using g
  subst e;obtain⟨o,e,c,d⟩:=f;exact⟨o,e,λv z=>by rw[d] at z;cases z⟩
 keep:=λi h n f k=>f.at λo e=>k it (by simp) o e
 item:=by
  intro X B y C T i aa s Q H E I m f A;subst B y C;obtain⟨xs,x,l,t⟩:=A;obtain⟨r,q,p,hz⟩:=I.list l;obtain⟨u,hu,ru⟩:=q.get t;obtain⟨O,N,f2,M,J,G⟩:=m it (by simp);refine nN f p.isList (x:=u) (by simpa using hu) λn j sb=>?_;have I1:aO X aa Q H { s with heap:=n }:=I.turned (t':=s.toks) (λb o g e=>(sb.2 b g).trans e) O N M J G;obtain⟨o,e,c,d⟩:=id j;exact⟨u,Y,zcM (s:={ s with heap:=n }) e c d () ⟨x,H,I1,ru,⟨rfl,λys hy=>by rw[I.list_inj hy l];exact t⟩,j,λb g=>(m b g).1⟩⟩
 done:=by
  intro X B y C T i aa s Q H E I m f A;subst B y C;obtain⟨xs,l,t⟩:=A;obtain⟨r,q,p,hz⟩:=I.list l;obtain⟨O,N,f2,M,J,G⟩:=m it (by simp);have hl:=q.length;exact nY (I.ok.hd T) f p.isList (by simp;lia) λn eb=>⟨Y,I.turned (t':=s.toks) (λb o g e=>eb b o g e) O N M J G⟩
 self:=λ_ _ _ _ _ f h=>wpAny_pyIter_listiter f h
theorem zbU{P:aq}{w:au}{K:bw}{tg:ay}(a it:D):zdC P w K tg (Itt K a) [it] it (λi h=>h.IsTupleIter it a i) where
 mem:=by simp
 obj:=λi h f b j=>by
  have e:b=it:=by simpa using j
  subst e;obtain⟨o,e,c,d⟩:=f;exact⟨o,e,λv z=>by rw[d] at z;cases z⟩
 keep:=λi h q f k=>f.at λo e=>k it (by simp) o e
 item:=by
  intro X B y C T i aa s Q H E I n f A;subst B y C;obtain⟨xs,x,m,t⟩:=A;obtain⟨g,r,p,hz⟩:=I.tuple m;obtain⟨u,hu,ru⟩:=r.get t;obtain⟨O,N,f2,M,J,G⟩:=n it (by simp);refine wpAny_pyNext_tuple_item f (show s.heap.IsTuple a g.toArray from p) (x:=u) (by simpa using hu) λq l sb=>?_;have I1:aO X aa Q H { s with heap:=q }:=I.turned (t':=s.toks) (λb o j e=>(sb.2 b j).trans e) O N M J G;obtain⟨o,e,c,d⟩:=id l;exact⟨u,Y,zcM (s:={ s with heap:=q }) e c d () ⟨x,H,I1,ru,⟨rfl,λys hy=>by rw[I.tuple_inj hy m];exact t⟩,l,λb j=>(n b j).1⟩⟩
 done:=by
  intro X B y C T i aa s Q H E I n f A;subst B y C;obtain⟨xs,m,t⟩:=A;obtain⟨g,r,p,hz⟩:=I.tuple m;obtain⟨O,N,f2,M,J,G⟩:=n it (by simp);have hl:=r.length;exact wpAny_pyNext_tuple_end (I.ok.hd T) f (show s.heap.IsTuple a g.toArray from p) (by simp;lia) λq eb=>⟨Y,I.turned (t':=s.toks) (λb o j e=>eb b o j e) O N M J G⟩
 self:=λ_ _ _ _ _ f h=>wpAny_pyIter_tupleiter f h
theorem zbV{P:aq}{w:au}{K:bw}{M:ay}(it:D)(lo:Int)(n:Nat):zdC P w K M (Itr lo n) [it] it (λi h=>IsRangeIter h it (lo+(i:Nat)*1) ((n:Int)-(i:Nat)) 1) where
 mem:=by simp
 obj:=λi h a b c=>by
  have e:b=it:=by simpa using c
  subst e;exact⟨_,a,λv z=>by
   have J:Data.fields _=Data.cell v:=z;cases J⟩
 keep:=λi h g a k=>k it (by simp) _ a
 item:=by
  intro X p j q m i G s B H E I f a l;subst p j q;obtain⟨A,y,Q,x,u,r⟩:=f it (by simp);have W:=Walks.range (prog:=X.prog) (w:=X.w) (I.ok.hd m) it lo 1 n;refine W.item i s _ _ l a λv g C O d N=>?_;obtain⟨t,rfl⟩:=O;have I1:aO X G B H { s with heap:=g,toks:=C }:=I.turned (λb o c e=>N b o (by simpa using c) e) A y x u r;refine⟨_,Y,zcM (s:={ s with heap:=g,toks:=C }) (n:="range_iterator") d rfl rfl () ⟨.int (lo+i),H,I1,⟨t,?_⟩,⟨rfl,rfl⟩,d,λb c=>(f b c).1⟩⟩;rw[Int.mul_one]
 done:=by
  intro X p j q m i G s B H E I f a l;subst p j q;obtain⟨A,y,Q,x,u,r⟩:=f it (by simp);exact wpAny_pyNext_range_end (I.ok.hd m) a (by have:n<=i:=l;lia) λg T=>⟨Y,I.turned (t':=s.toks) (λb o c e=>T b o c e) A y x u r⟩
 self:=λ_ _ _ _ _ a h=>wpAny_pyIter_rangeiter a h
section
variable {X:Cx}{tg:ay}
def xJ(K:bw)(e:TE):TI:=λc H R=>e c H λx b=>∃a,x=.ref a/\(∃d,aQ K b a d)/\R (Itl K a) b
def ziW(K:bw)(e:TE):TI:=λc H R=>e c H λx b=>∃a,x=.ref a/\(∃d,sW K b a d)/\R (Itt K a) b
theorem yW{f:TE}(n:PE X l f):PI X tg l (xJ X.K f):=by
 intro t s g H R I h;refine dl (n t s g H _ I h) ?_;rintro v c ⟨x,u,d,i,j⟩;obtain⟨a,e,⟨w,m⟩,q⟩:=j;subst e;cases i;obtain⟨k,y,p,z⟩:=d.list m;refine wpAny_pyIter_list p.isList ?_;refine⟨c.heap.objs.size,[c.heap.objs.size],_,_,u,Y,d.kept (t':=c.toks) λb o e=>bc _ e,zdD a _,⟨_,bF _ Y,Y,Y⟩,λb r=>?_,q⟩;have e:b=c.heap.objs.size:=by simpa using r
 subst e;exact d.fpOk (bp _) (d.hok.fresh (bp _))
theorem zh4{g:TE}(n:PE X l g):PI X tg l (ziW X.K g):=by
 intro t s i H R I h;refine dl (n t s i H _ I h) ?_;rintro v c ⟨x,u,d,j,k⟩;obtain⟨a,e,⟨w,m⟩,q⟩:=k;subst e;cases j;obtain⟨f,y,p,z⟩:=d.tuple m;refine lY (show c.heap.IsTuple a f.toArray from p) ?_;refine⟨c.heap.objs.size,[c.heap.objs.size],_,_,u,Y,d.kept (t':=c.toks) λb o e=>bc _ e,zbU a _,⟨_,bF _ Y,Y,Y⟩,λb r=>?_,q⟩;have e:b=c.heap.objs.size:=by simpa using r
 subst e;exact d.fpOk (bp _) (d.hok.fresh (bp _))
theorem zaz{c:St}{H:Hp}{s:af}{R:It->Hp->Prop}{E:ae->af->Prop}{lo a:Int}{t u v:Tok}{d:Nat}(I:aO X aa c H s)(k:-(2^62)<=lo)(j:lo<2^62)(i:-(2^62)<=a)(h:a<2^62) (q:R (Itr lo (a-lo).toNat) H):Bf (Bg X.prog X.w) X.A (pyIter (.ref s.heap.objs.size)) (PIE X aa c tg R) E { s with heap:=s.heap.push { cls:=.type "range",data:=.fields #[.int lo t,.int a u,.int 1 v] },toks:=d }:=by
 refine wpAny_pyIter_range (IsRange.new ..) (small_one k j i h) ?_;have f:aO X aa c H { s with heap:=s.heap.push { cls:=.type "range",data:=.fields #[.int lo t,.int a u,.int 1 v] },toks:=d }:=I.kept λb o e=>bc _ e;refine⟨(s.heap.push { cls:=.type "range",data:=.fields #[.int lo t,.int a u,.int 1 v] }).objs.size,[(s.heap.push { cls:=.type "range",data:=.fields #[.int lo t,.int a u,.int 1 v] }).objs.size],_,_,H,Y,
  f.kept (t':=d) λb o e=>bc _ e,zbV _ lo (a-lo).toNat,?_,λb g=>?_,q⟩
 .have m:lo+((0:Nat):Int)*1=lo:=by simp
  have l:(((a-lo).toNat:Nat):Int)-((0:Nat):Int)=Builtin.Range.rangeSize lo a 1:=by rw[rangeSize_one];split <;> lia
  show IsRangeIter _ _ (lo+((0:Nat):Int)*1) ((((a-lo).toNat:Nat):Int)-((0:Nat):Int)) 1;rw[m,l];exact bF _ rfl
 .have e:b=(s.heap.push { cls:=.type "range",data:=.fields #[.int lo t,.int a u,.int 1 v] }).objs.size:=by simpa using g
  subst e;exact f.fpOk (bp _) (f.hok.fresh (bp _))
def Wk(c:TA):TI:=λa H R=>c a H λb d=>∃j:Int,b=[.int j]/\-(2^62)<=j/\j<2^62/\R (Itr 0 j.toNat) d
def zhz(c:TA):TI:=λa H R=>c a H λb d=>∃i j:Int,b=[.int i,.int j]/\(-(2^62)<=i/\i<2^62/\-(2^62)<=j/\j<2^62)/\R (Itr i (j-i).toNat) d
theorem vV{c:TA}(l:Gl X "range")(k:X.mg "range"=ak)(m:PA X [a] c)(i:Be [a] X.env=[(ao,eval a X.env)]:=by rfl):PI X tg (.Call (.Name "range" p) [a] [] pos) (Wk c):=by
 intro n s d H R I h;refine Call_ (Yv I l k boot_range (eZ (dl (m pos n s d H _ I h) ?_) i Y));rintro v w ⟨u,x,o,f,b⟩;obtain⟨j,e,b,g,q⟩:=b;subst e;cases f with
 |cons r rr =>
  cases rr;obtain⟨t,rfl⟩:=r;exact call_range_1 (zaz o () () b g (by simpa using q))
theorem zdE{g:TA}{p c:Pos}(w:Gl X "range")(v:X.mg "range"=ak)(x:PA X [a,b] g)(u:Be [a,b] X.env=[(ao,eval a X.env),(ao,eval b X.env)]:=by rfl)(d:Be [b] X.env=[(ao,eval b X.env)]:=by rfl) :
  PI X tg (.Call (.Name "range" p) [a,b] [] c) (zhz g):=by
 intro y s k H R I h;refine Call_ (Yv I w v boot_range (eZ (dl (x c y s k H _ I h) λB E ⟨A,G,z,l,f⟩=>?_) (by rw[u,d]) (by rw[d];rfl)));obtain⟨i,j,e,⟨f,o,n,m⟩,q⟩:=f;subst e;cases l with
 |cons r rr =>
  cases rr with
  |cons r' rr =>
   cases rr;obtain⟨t,rfl⟩:=r;obtain⟨C,rfl⟩:=r';exact call_range_2 (zaz z f o n m q)
def vx(h:TI)(g:TG)(j:TS):TS:=λe a H=>h a H λJ l=>∃W:Nat->Nat->St->Hp->Prop,(∃m,W 0 m a l)/\∀i m a H,W i m a H ->
 (J.stop i H/\e.nx a H)\/(J.go i H/\∃N:St->Hp->Prop,(∀b c,N b c->∃f,f<m/\W (i+1) f b c)/\∀x c,J.yld i H x c->g x a c λd k=>j { e with nx:=N,ct:=N,bk:=e.nx } d k)
def Vq(a:List D)(h:av):List (D×Obj):=a.filterMap λb=>(h.get? b).map λo=>(b,o)
theorem kU(a:b∈fp)(e:h.get? b=U o):(b,o)∈Vq fp h:=gg.mpr ⟨b,a,by rw[e];rfl⟩
theorem zdF(a:p∈Vq fp h):p.1∈fp/\h.get? p.1=U p.2:=by
 obtain⟨b,c,e⟩:=List.mem_filterMap.mp a;cases q:h.get? b with
 |none=>rw[q] at e;cases e
 |some o =>
  rw[q] at e;have d:(b,o)=p:=bI e;subst d;exact⟨c,q⟩
theorem aO.pinned{σ:St}{H:Hp}{s:af}{a:List D}(I:aO X aa σ H s)(k:∀b∈a,qY X aa H b)(j:∀b∈a,∃o,s.heap.get? b=U o/\∀v,o.data≠.cell v):aO X (aa++Vq a s.heap) σ H s:=
 I.pins_of λp h=>(bu.mp h).elim (λz=>I.pin p (bK _ z)) λz=>by
  obtain⟨f,e⟩:=zdF z;obtain⟨q,n,l,_⟩:=k p.1 f;obtain⟨o,g,d⟩:=j p.1 f;rw[e] at g;cases g;exact⟨e,q,n,l,d⟩
theorem aO.unpinned{σ:St}{H:Hp}{s:af}(I:aO X (aa++pl) σ H s):aO X aa σ H s:=I.pins_of λp a=>I.pin p (bK _ (cr _ a))
theorem yY{wi:TI}{g:TG}{tb:TS}(E:PassesOwn (Bg X.prog X.w) X.A X.env X.xe)(hc:X.calm=ah)(hi:PI X tg iter wi)(hg:PG X tg g)(l:PSs X body tb) (hs:∀x,foldedSetIterable iter X.env x=pure x:=by intro _;rfl):PS X (.For tg iter body [] pos) (vx wi g tb):=by
 intro z s σ H Bp I h;refine wpAny_For (dl (hi z s σ H _ I h) λv s1 h1=>dl h1 λal s2 h2=>?_) hs;obtain⟨it,M,tn,J,H2,e,I2,T,ag,f2,W,⟨m0,w0⟩,A⟩:=h2;subst e
 -- what stays ah of the iterator's objects through the loop
 have k:∀ {H':Hp},(∀b∈M,H' b=ak)->∀b∈M,qY X z H' b:=λhn b l=>⟨hn b l,(f2 b l).2⟩;refine codeAny_forLoop_any (λn s'=>∃i j H',aO X z j H' s'/\tn i s'.heap/\(∀b∈M,H' b=ak)/\W i n j H') ?_ m0 ⟨0,σ,H2,I2,ag,λb l=>(f2 b l).1,w0⟩;rintro n s3 ⟨i,c,O,I3,B,G,w3⟩;rcases A i n c O w3 with ⟨stop,qn⟩|⟨go,N,hN,step⟩
 .refine fM E (dl (T.done X Y Y Y hc i z s3 c O X.xe I3 (k G) B stop) ?_);rintro r s4 ⟨hr,I4⟩;subst hr;exact eY ⟨c,O,I4,qn⟩
 .refine fM E (dl (T.item X Y Y Y hc i z s3 c O X.xe I3 (k G) B go) ?_);rintro r s4 ⟨u,hr,h4⟩;subst hr;refine fM E (dl h4 ?_);rintro _ s5 ⟨x,H5,I5,r5,y5,y,ai⟩;have aj:=I5.pinned (k ai) (T.obj _ _ y);refine fM E (dl (hg _ s5 c H5 x u _ aj r5 (step x H5 y5)) ?_);rintro _ s6 ⟨Q,H6,I6,q6⟩;refine fM E (dl (l _ s6 Q H6 _ I6 q6) λf s7 w=>?_);have p:∀ {a:St} {t:Hp},aO X (z++Vq M s5.heap) a t s7->N a t->∃m,m<n/\∃i j H',aO X z j H' s7/\tn i s7.heap/\(∀b∈M,H' b=ak)/\W i m j H':=λ{a t} q C=>by
   obtain⟨m',hm,w7⟩:=hN a t C;refine⟨m',hm,i+1,a,t,q.unpinned,T.keep _ _ _ y λb l o e=>(q.pin (b,o) (bK _ (bK _ (kU l e)))).1,λb l=>?_,w7⟩;obtain⟨o,e,d⟩:=T.obj _ _ y b l;exact(q.pin (b,o) (bK _ (bK _ (kU l e)))).2.1
  cases f with
  |next=>obtain⟨a,t,q,C⟩:=w;exact p q C
  |cont=>obtain⟨a,t,q,C⟩:=w;exact p q C
  |brk=>obtain⟨a,t,q,w⟩:=w;exact⟨a,t,q.unpinned,w⟩
  |ret v=>obtain⟨x7,a,t,q,r7,w⟩:=w;exact⟨x7,a,t,q.unpinned,r7,w⟩
end
abbrev R2:=V->V->Hp->VK->Prop
def tV(X:Cx)(f:ae->ae->Sem ae)(r:R2):Prop :=
 ∀(b:List (D×Obj)) (s:af) (a:St) (H:Hp) (x y:V) (v u:ae) (Q:VK),aO X b a H s->aT x v->aT y u->r x y H Q ->
  Bf (Bg X.prog X.w) X.A (f v u) (EP X b a Q) X.xe s
def UnR(X:Cx)(f:ae->Sem ae)(r:V->Hp->VK->Prop):Prop :=
 ∀(b:List (D×Obj)) (s:af) (a:St) (H:Hp) (x:V) (v:ae) (Q:VK),aO X b a H s->aT x v->r x H Q ->
  Bf (Bg X.prog X.w) X.A (f v) (EP X b a Q) X.xe s
def jZ(X:Cx)(f:ae)(r:List V->Hp->VK->Prop):Prop :=
 ∀(d:List (D×Obj)) (s:af) (a:St) (H:Hp) (b:List V) (c:List ae) (Q:VK),aO X d a H s->aR b c->r b H Q ->
  Bf (Bg X.prog X.w) X.A (call f c) (EP X d a Q) X.xe s
def aK(r:R2)(c b:TE):TE:=λa H Q=>c a H λx e=>b a e λy d=>r x y d Q
def tUn(r:V->Hp->VK->Prop)(b:TE):TE:=λa H Q=>b a H λx c=>r x c Q
def rI(C:Int->Int->Prop)(g:Int->Int->V):R2:=λx y H Q=>∃i j,x=.int i/\y=.int j/\C i j/\Q (g i j) H
def rI0(g:Int->Int->V):R2:=λx y H Q=>∃i j,x=.int i/\y=.int j/\Q (g i j) H
def rU(g:Int->V):V->Hp->VK->Prop:=λx H Q=>∃i,x=.int i/\Q (g i) H
section
variable {X:Cx}{a b c:ay}{ta tb tc:TE}{pos:Pos}
theorem zh5(t:PE X a ta)(r:PE X b tb){s:af}{d:St}{H:Hp}{R:V->V->Hp->Prop}(I:aO X aa d H s) (h:ta d H λx k=>tb d k λy e=>R x y e) {Q:ae->af->Prop} {f:ae->ae->Sem ae}
  (q:∀v u j x y e,aO X aa d e j->aT x v->aT y u->R x y e->Bf (Bg X.prog X.w) X.A (f v u) Q X.xe j) :
  Bf (Bg X.prog X.w) X.A (eval a X.env) (λv i=>Bf (Bg X.prog X.w) X.A (eval b X.env) (λu g=>Bf (Bg X.prog X.w) X.A (f v u) Q X.xe g) X.xe i) X.xe s:=by
 refine dl (t aa s d H _ I h) ?_;rintro v l ⟨x,k,z,n,p⟩;refine dl (r aa l d k _ z p) ?_;rintro u j ⟨y,e,w,m,o⟩;exact q v u j x y e w n m o
theorem zm{r:R2}(i:tV X (binaryOp op) r)(k:PE X a ta)(j:PE X b tb):PE X (.BinOp a op b pos) (aK r ta tb):=by
 intro l s d H Q I h;exact wpAny_BinOp (zh5 k j I h λv u e x y n m g f q=>i l e d n x y v u Q m g f q)
theorem Vr{r:V->Hp->VK->Prop}(j:UnR X (unaryOp op) r)(k:PE X a ta):PE X (.UnaryOp op a pos) (tUn r ta):=by
 intro e s d H Q I h;exact UnaryOp_ (dl (k e s d H _ I h) λv f ⟨x,m,l,g,i⟩=>j e f d m x v Q l g i)
theorem opI{f:ae->ae->Sem ae}{C:Int->Int->Prop}{g:Int->Int->Int}
  (rule:∀(i j:Int) (t u:Tok) (s:af) (Q:ae->af->Prop) (E:ae->af->Prop),C i j->Q (.int (g i j) s.toks) { s with toks:=s.toks+1 }->Bf (Bg X.prog X.w) X.A (f (.int i t) (.int j u)) Q E s) :
  tV X f (rI C λi j=>.int (g i j)):=by
 intro n s m H x y v u Q I k e h;obtain⟨i,j,rfl,rfl,l,q⟩:=h;obtain⟨t,rfl⟩:=k;obtain⟨d,rfl⟩:=e;exact rule i j t d s _ _ l ⟨.int (g i j),H,I.tok _,⟨_,Y⟩,q⟩
theorem ziX{f:ae->ae->Sem ae}{g:Int->Int->Int}
  (rule:∀(i j:Int) (t u:Tok) (s:af) (Q:ae->af->Prop) (E:ae->af->Prop),Q (.int (g i j) s.toks) { s with toks:=s.toks+1 }->Bf (Bg X.prog X.w) X.A (f (.int i t) (.int j u)) Q E s) :
  tV X f (rI0 λi j=>.int (g i j)):=by
 intro m s l H x y v u Q I k e h;obtain⟨i,j,rfl,rfl,q⟩:=h;obtain⟨t,rfl⟩:=k;obtain⟨d,rfl⟩:=e;exact rule i j t d s _ _ ⟨.int (g i j),H,I.tok _,⟨_,Y⟩,q⟩
theorem zh6{f:ae->ae->Sem ae}{g:Int->Int->Bool}
  (rule:∀(i j:Int) (t u:Tok) (s:af) (Q:ae->af->Prop) (E:ae->af->Prop),Q (.bool (g i j)) s->Bf (Bg X.prog X.w) X.A (f (.int i t) (.int j u)) Q E s) :
  tV X f (rI0 λi j=>.bl (g i j)):=by
 intro m s l H x y v u Q I k e h;obtain⟨i,j,rfl,rfl,q⟩:=h;obtain⟨t,rfl⟩:=k;obtain⟨d,rfl⟩:=e;exact rule i j t d s _ _ ⟨.bl (g i j),H,I,Y,q⟩
def Qn(i j:Int):Prop:=0<=j/\j<=1000000/\i.natAbs<2^64
theorem zU:tV X (binaryOp .Add) (rI0 λi j=>.int (i+j)):=ziX λ_ _ _ _ _ _ _ q=>add_int q
theorem vy:tV X (binaryOp .Sub) (rI0 λi j=>.int (i-j)):=ziX λ_ _ _ _ _ _ _ q=>sub_int q
theorem zP:tV X (binaryOp .Mod) (rI (λ_ j=>0<j) λi j=>.int (i%j)):=opI λi j _ _ _ _ _ d q=>by
 have e:(0:Int)<j:=d;exact mod_int' () (by rw[Int.fmod_eq_emod_of_nonneg i ()];exact q)
theorem zgq:tV X (binaryOp .Mod) (rI (λ_ j=>j≠0) λi j=>.int (i.fmod j)):=opI λ_ _ _ _ _ _ _ d q=>mod_int' d q
theorem Yx:tV X (binaryOp .Pow) (rI Qn λi j=>.int (i^j.toNat)):=opI λ_ _ _ _ _ _ _ d q=>pow_int_small d.1 d.2.1 d.2.2 q
theorem unI{f:ae->Sem ae}{g:Int->Int}
  (rule:∀(i:Int) (t:Tok) (s:af) (Q:ae->af->Prop) (E:ae->af->Prop),Q (.int (g i) s.toks) { s with toks:=s.toks+1 }->Bf (Bg X.prog X.w) X.A (f (.int i t)) Q E s) :
  UnR X f (rU λi=>.int (g i)):=by
 intro j s e H x v Q I d h;obtain⟨i,rfl,q⟩:=h;obtain⟨t,rfl⟩:=d;exact rule i t s _ _ ⟨.int (g i),H,I.tok _,⟨_,Y⟩,q⟩
theorem Yy:UnR X (unaryOp .USub) (rU λi=>.int (-i)):=unI λ_ _ _ _ _ q=>neg_int q
end
def ziY:V->V->Bool
 |.non,.non=>ah|.non,.int _=>ah|.int _,.non=>ah|.non,.bl _=>ah|.bl _,.non=>ah|.non,.str _=>ah|.str _,.non=>ah
 |.int _,.int _=>ah|.bl _,.bl _=>ah|.str _,.str _=>ah|.byt _,.byt _=>ah
 |.int _,.str _=>ah|.str _,.int _=>ah|.bl _,.str _=>ah|.str _,.bl _=>ah
 |_,_=>ao
def tI:R2:=λx y H Q=>ziY x y=ah/\Q (.bl (decide (x=y))) H
def rNe:R2:=λx y H Q=>ziY x y=ah/\Q (.bl (!decide (x=y))) H
theorem zcN{i j:Int}:decide (V.int i=V.int j)=(i==j):=by
 rw[lH];simp
theorem zeo :decide (V.bl i=V.bl j)=(i==j):=by
 rw[lH];simp
theorem zcO :decide (V.str i=V.str j)=(i==j):=by
 rw[lH];simp
theorem zcP :decide (V.byt i=V.byt j)=(i.toList==j.toList):=by
 rw[lH];cases i;cases j;simp
section
variable {X:Cx}{a b c:ay}{ta tb tc:TE}{pos:Pos}
theorem yp{d:St}{H:Hp}{s:af}{Q:VK}{k f:Bool}(I:aO X aa d H s)(q:Q (.bl k) H)(e:k=f):EP X aa d Q (.bool f) s:=by
 subst e;exact⟨.bl k,H,I,Y,q⟩
theorem yu:tV X (Bi .Eq) tI:=by
 intro l s k H x y v u Q I g d h;obtain⟨f,q⟩:=h;cases x with
 |non =>
  cases g;cases y with
  |non=>cases d;exact PySem.EqNone.eq_none_none (yp I q (by simp))
  |bl j=>cases d;exact PySem.EqNone.eq_none_bool (yp I q (by simp))
  |int j=>obtain⟨e,rfl⟩:=d;exact PySem.EqNone.eq_none_int (yp I q (by simp))
  |str j=>obtain⟨e,rfl⟩:=d;exact PySem.EqNone.eq_none_str (yp I q (by simp))
  |_=>exact absurd (show ao=ah from f) bM
 |bl i =>
  cases g;cases y with
  |non=>cases d;exact PySem.EqNone.eq_bool_none (yp I q (by simp))
  |bl j=>cases d;exact eq_bool (yp I q zeo)
  |str j=>obtain⟨e,rfl⟩:=d;exact PySem.EqMixed.eq_bool_str (yp I q (by simp))
  |_=>exact absurd (show ao=ah from f) bM
 |int i =>
  obtain⟨t,rfl⟩:=g;cases y with
  |non=>cases d;exact PySem.EqNone.eq_int_none (yp I q (by simp))
  |int j=>obtain⟨e,rfl⟩:=d;exact eq_int (yp I q zcN)
  |str j=>obtain⟨e,rfl⟩:=d;exact PySem.EqMixed.eq_int_str (yp I q (by simp))
  |_=>exact absurd (show ao=ah from f) bM
 |str i =>
  obtain⟨t,rfl⟩:=g;cases y with
  |non=>cases d;exact PySem.EqNone.eq_str_none (yp I q (by simp))
  |bl j=>cases d;exact PySem.EqMixed.eq_str_bool (yp I q (by simp))
  |int j=>obtain⟨e,rfl⟩:=d;exact PySem.EqMixed.eq_str_int (yp I q (by simp))
  |str j=>obtain⟨e,rfl⟩:=d;exact eq_str (yp I q zcO)
  |_=>exact absurd (show ao=ah from f) bM
 |byt i =>
  obtain⟨t,rfl⟩:=g;cases y with
  |byt j=>obtain⟨e,rfl⟩:=d;exact W.eq_bytes (yp I q zcP)
  |_=>exact absurd (show ao=ah from f) bM
 |_=>cases y <;> exact absurd (show ao=ah from f) bM
theorem Z9:tV X (Bi .NotEq) rNe:=by
 intro l s k H x y v u Q I g d h;obtain⟨f,q⟩:=h;cases x with
 |non =>
  cases g;cases y with
  |non=>cases d;exact PySem.EqNone.ne_none_none (yp I q (by simp))
  |bl j=>cases d;exact PySem.EqNone.ne_none_bool (yp I q (by simp))
  |int j=>obtain⟨e,rfl⟩:=d;exact PySem.EqNone.ne_none_int (yp I q (by simp))
  |str j=>obtain⟨e,rfl⟩:=d;exact PySem.EqNone.ne_none_str (yp I q (by simp))
  |_=>exact absurd (show ao=ah from f) bM
 |bl i =>
  cases g;cases y with
  |non=>cases d;exact PySem.EqNone.ne_bool_none (yp I q (by simp))
  |bl j=>cases d;exact ne_bool (yp I q (congrArg not zeo))
  |str j=>obtain⟨e,rfl⟩:=d;exact PySem.EqMixed.ne_bool_str (yp I q (by simp))
  |_=>exact absurd (show ao=ah from f) bM
 |int i =>
  obtain⟨t,rfl⟩:=g;cases y with
  |non=>cases d;exact PySem.EqNone.ne_int_none (yp I q (by simp))
  |int j=>obtain⟨e,rfl⟩:=d;exact ne_int (yp I q (congrArg not zcN))
  |str j=>obtain⟨e,rfl⟩:=d;exact PySem.EqMixed.ne_int_str (yp I q (by simp))
  |_=>exact absurd (show ao=ah from f) bM
 |str i =>
  obtain⟨t,rfl⟩:=g;cases y with
  |non=>cases d;exact PySem.EqNone.ne_str_none (yp I q (by simp))
  |bl j=>cases d;exact PySem.EqMixed.ne_str_bool (yp I q (by simp))
  |int j=>obtain⟨e,rfl⟩:=d;exact PySem.EqMixed.ne_str_int (yp I q (by simp))
  |str j=>obtain⟨e,rfl⟩:=d;exact ne_str (yp I q (congrArg not zcO))
  |_=>exact absurd (show ao=ah from f) bM
 |byt i =>
  obtain⟨t,rfl⟩:=g;cases y with
  |byt j=>obtain⟨e,rfl⟩:=d;exact W.ne_bytes (yp I q (congrArg not zcP))
  |_=>exact absurd (show ao=ah from f) bM
 |_=>cases y <;> exact absurd (show ao=ah from f) bM
theorem wL:tV X (Bi .Lt) (rI0 λi j=>.bl (decide (i<j))):=zh6 λ_ _ _ _ _ _ _ q=>lt_int q
theorem zhA:tV X (Bi .LtE) (rI0 λi j=>.bl (decide (i<=j))):=zh6 λ_ _ _ _ _ _ _ q=>le_int q
theorem zhB:tV X (Bi .GtE) (rI0 λi j=>.bl (decide (j<=i))):=zh6 λ_ _ _ _ _ _ _ q=>ge_int q
theorem Qo:tV X (Bi .Is) (λx y H Q=>y=.non/\Q (.bl (decide (x=.non))) H):=by
 intro g s f H x y v u Q I d e h;obtain⟨rfl,q⟩:=h;cases e;refine is_none_gen (yp I q ?_);cases x <;> first
  |(cases d;rfl)
  |(obtain⟨t,rfl⟩:=d;rfl)
theorem jk:tV X (Bi .IsNot) (λx y H Q=>y=.non/\Q (.bl (!decide (x=.non))) H):=by
 intro g s f H x y v u Q I d e h;obtain⟨rfl,q⟩:=h;cases e;refine isnot_none_gen (yp I q ?_);cases x <;> first
  |(cases d;rfl)
  |(obtain⟨t,rfl⟩:=d;rfl)
theorem zA(b:ay)(h:op≠.In:=by lia)(d:op≠.NotIn:=by lia):behindInMarks op b=ao:=by
 have f:(op==CmpOp.In)=ao:=by cases op <;> first|rfl|exact absurd Y h
 have e:(op==CmpOp.NotIn)=ao:=by cases op <;> first|rfl|exact absurd Y d
 cases b <;> simp[behindInMarks,f,e]
theorem YV{r:R2}(i:tV X (Bi op) r)(l:PE X a ta)(k:PE X b tb)(j:behindInMarks op b=ao):PE X (.Compare a [op] [b] pos) (aK r ta tb):=by
 intro m s d H Q I h;exact wpAny_Compare1 (zh5 l k I h λv u e x y o n g f q=>i m e d o x y v u Q n g f q) j
def zD(t:TE):TT:=λd H Q=>t d H λx e=>∃k,x=.bl k/\Q k e
theorem zp{r:R2}(q:tV X (Bi op) r)(A:PE X a ta)(w:PE X b tb)(t:behindInMarks op b=ao):PT X (.Compare a [op] [b] pos) (zD (aK r ta tb)):=by
 intro f s d H Q I h;refine wpAny_isTrue_Compare1 (dl (A f s d H _ I h) λv i ⟨x,M,E,m,p⟩=>dl (w f i d M _ E p) λu g ⟨y,J,C,l,o⟩ =>
  dl (q f g d J x y v u _ C m l o) λc N ⟨z,G,B,j,k,e,n⟩=>?_) t
 subst e;cases j;exact fK ⟨G,B,n⟩
def zep(r g:R2)(ta tb tc:TE):TE:=λd H Q=>ta d H λx j=>tb d j λy i=>r x y i λz e=>∃k,z=.bl k /\
 (if k=ah then tc d e λf h=>g y f h Q else Q (.bl ao) e)
theorem zeq{r l:R2}(O:tV X (Bi op) r)(i:tV X (Bi op') l)(ha:PE X a ta)(hb:PE X b tb)(hc:PE X c tc) (T:lastMarks [op,op'] [b,c]=ao:=by with_unfolding_all rfl):PE X (.Compare a [op,op'] [b,c] pos) (zep r l ta tb tc):=by
 intro g s f H Q I h;refine Compare_chain (dl (ha g s f H _ I h) λv B ⟨x,H1,I1,G,N⟩=>chain_link (dl (hb g B f H1 _ I1 N) λu A ⟨y,H2,I2,j,M⟩ =>
  dl (O g A f H2 x y v u _ I2 G j M) λd w ⟨z,o,n,E,k,e,m⟩=>?_)) T
 subst e;cases E;refine fK ?_;cases k with
 |false=>exact ite_ff ⟨.bl ao,o,n,Y,m⟩
 |true=>exact ite_tt (chain_last (dl (hc g w f o _ n m) λq t ⟨p,H4,I4,C,J⟩=>i g t f H4 y p u q Q I4 j C J))
theorem Qp:(Bb:Nat)<2^63:=by rw[bH];decide
theorem wP:tV X (binaryOp .Add) (λx y H Q=>∃i j,x=.str i/\y=.str j/\i.length+j.length<=Bb/\Q (.str (i++j)) H):=by
 intro m s k H x y v u Q I f e h;obtain⟨i,j,rfl,rfl,g,q⟩:=h;obtain⟨t,rfl⟩:=f;obtain⟨d,rfl⟩:=e;exact add_str (λd l=>⟨.str (i++j),H,I.tok _,⟨_,Y⟩,q⟩) g
theorem jm(r:aR [x] us):∃u,us=[u]/\aT x u:=by
 cases r with
 |cons r1 r2=>cases r2;exact⟨_,Y,r1⟩
theorem zhC(r:aR [x,y] us):∃u w',us=[u,w']/\aT x u/\aT y w':=by
 cases r with
 |cons r1 r2 =>
  cases r2 with
  |cons r3 r4=>cases r4;exact⟨_,_,Y,r1,r3⟩
def zh7(K:bw)(x:V)(H:Hp)(n:Nat):Prop :=
 match x with
 |.str y=>y.length<=Bb/\n=y.length
 |.byt y=>y.size<=Bb/\n=y.size
 |.ref p=>(∃d,aQ K H p d/\n=d.length)\/∃d,sW K H p d/\n=d.length
 |_=>False
theorem zS:jZ X (.builtin "len") (λd H Q=>∃x n,d=[x]/\zh7 X.K x H n/\Q (.int n) H):=by
 intro B s v H d w Q I r h;obtain⟨x,n,rfl,e,q⟩:=h;obtain⟨u,rfl,i⟩:=jm r;have A:=Qp;have z:Bb=16777216:=bH;cases x with
 |str y =>
  obtain⟨t,rfl⟩:=i;obtain⟨o,g⟩:y.length<=Bb/\n=y.length:=e;subst g;exact len_str () ⟨.int _,H,I.tok _,⟨_,Y⟩,q⟩
 |byt y =>
  obtain⟨t,rfl⟩:=i;obtain⟨o,g⟩:y.size<=Bb/\n=y.size:=e;subst g;exact W.len_bytes () ⟨.int _,H,I.tok _,⟨_,Y⟩,q⟩
 |ref p =>
  cases i;have g:(∃d,aQ X.K H p d/\n=d.length)\/∃d,sW X.K H p d/\n=d.length:=e;rcases g with ⟨d,hx,g⟩|⟨d,hx,g⟩
  .subst g;obtain⟨l,j,k,m⟩:=I.list hx;have f:=j.length;exact Calls.call_len_list k.isList (by simp only[bG];lia) ⟨.int d.length,H,I.tok _,⟨_,by simp only[bG];rw[f]⟩,q⟩
  .subst g;obtain⟨l,j,k,m⟩:=I.tuple hx;have f:=j.length;exact len_tuple k (by simp only[bG];lia) ⟨.int d.length,H,I.tok _,⟨_,by simp only[bG];rw[f]⟩,q⟩
 |_=>exact(show False from e).elim
end
structure ObjM(h:av)(x dx C:D)(mA:Str->Option ae):Prop where
 obj:h.get? x=U (f8 C dx)
 ns:h.Ns1 dx mA
 ne:dx≠x
theorem zdG{h:av}{f:Str->Option ae}(n:h.Ns1 dx f):∃d,h.get? dx=U d/\∀b,sH b d=U (f b):=by
 obtain⟨o,g,r,j,m,l,_,k⟩:=n;refine⟨o,j,λb=>?_⟩;have e:=k b;unfold nsFind findBy at e;rw[<-Array.find?_toList] at e;unfold sH;rw[m];dsimp only;split
 .rename_i y q;rw[q] at e;exact congrArg U e
 .rename_i q;rw[q] at e;have a:g.toList.any (·.refKey)=ao:=by
   rw[List.any_eq_false];intro y i;obtain⟨z,t,c⟩:=l y (Array.mem_toList_iff.mp i);simp[DictEntry.refKey,c]
  have p:¬ g.toList.any (·.refKey)=ah:=by rw[a];exact bM
  rw[am p];exact congrArg U e
theorem ObjM.look{mA:Str->Option ae}(I:ObjM h x dx C mA):∃b,W.InstAt h x (f8 C dx) C (U b)/\∀a,sH a b=U (mA a):=
 let ⟨b,ho,hl⟩:=zdG I.ns
 ⟨b,⟨I.obj,Y,Y,ho⟩,hl⟩
section
variable {prog:aq}{w:au}{A:aw}{E:ae->af->Prop}{s:af}{K:bw}{x dx C f:D}{mA:Str->Option ae}{name:Str}{v:ae}
theorem zgr{Q:ae->af->Prop}(X:K.In s.heap)(I:ObjM s.heap x dx C mA)(e:rc K C name=ah)(d:sg K C=ah) (g:fA K (.ref C) name=U ak) (b:mA name=U v) (a:W.handedIn v=ah) (h:Q v { s with toks:=s.toks+1 }) :
  Bf (Bg prog w) A (getAttr (.ref x) name expr) Q E s:=by
 obtain⟨i,J,c⟩:=I.look;exact W.get_value X J (pL e).1 (W.findObj_own d g Y (by rw[c,b])) a h
theorem zer{b:Sem Bool}{Q:ae×List ae->af->Prop}(X:K.In s.heap)(I:ObjM s.heap x dx C mA)(a:rc K C name=ah) (i:fA K (.ref C) name=U (U (.ref f))) (e:W.isFn K (.ref f)=ah) (d:mA name=ak) (h:Q (.ref f,[.ref x]) s) :
  Bf (Bg prog w) A (getMethod (.ref x) name b) Q E s:=by
 obtain⟨c,J,g⟩:=I.look;exact W.method_fn X J (pL a).1 (pL a).2 i (beq_iff_eq.mp e) (by show (sH name c).map (·.isSome)=U ao;rw[g,d];rfl) h
theorem zgs{Q:Unit->af->Prop}(X:K.In s.heap)(I:ObjM s.heap x dx C mA) (p:fA K (.ref C) "__setattr__"=U (U (.builtin "object.__setattr__"))) (q:W.plainOver K C=ah) (n:W.takerIn K C name=U ak) (t:sg K C=ah) (m:rE mA ns) (o:ns.length<=Bb) (h:∀e,ObjM e x dx C (λy=>if y=name then U v else mA y)->cN dx s.heap e->Q PUnit.unit { s with heap:=e,toks:=s.toks+2 }) :
  Bf (Bg prog w) A (setAttr (.ref x) name v) Q E s:=by
 obtain⟨G,J,M⟩:=I.look;refine W.set_plain X J p (W.osa_open (s:={ s with toks:=s.toks+1 }) (r:=ak) X J q n λb=>?_);obtain⟨N,u,j⟩:=W.any_some t;have l:s.heap.get? x=U ⟨.ref C,U dx,.plain,#[]⟩:=I.obj;refine ba (bf (ba (ba (wpAny_loadPart l (ba (W.Looks.here (s:={ s with toks:=s.toks+1 }) (W.looks_clsIn X u) ?_))))));rw[j];refine bf (a:=U dx) (ba (bf (ba ?_)));refine wpAny_nsSet1 (s:={ s with toks:=s.toks+1 }) I.ns λe d c=>?_;obtain⟨H,z,B,g,i,k⟩:=d.count (PySem.Within.cons name v m);refine ba (wpAny_lookBehind g (by rw[i];exact pastItsLine_dict (bO k (by rw[bU];lia))) ?_);exact bf (h _ ⟨(c.2 _ (ef I.ne)).trans I.obj,d,I.ne⟩ c)
theorem zes{R:aB->af->Prop}(X:K.In s.heap)(b:si K C=ah) (c:fA K (.ref C) "__init__"=U (U (.ref f))) (e:W.typeIn K (.ref f)=U (.type "function")) (h:codeAny (Bg prog w) (A.under (.builtin "type.__call__" ⟨.ref C::vs,kw⟩)) (.call (.ref f) ⟨.ref (s.heap.objs.size+1)::vs,kw⟩) (W.InitBack (s.heap.objs.size+1) R)
   { s with heap:=(s.heap.push eC).push (f8 C s.heap.objs.size) }) :
  codeAny (Bg prog w) A (.call (.ref C) ⟨vs,kw⟩) R s:=by
 obtain⟨j,g,d,t,i⟩:=s;exact W.make_core (W.makes_of X b) (W.looks_findIn X c) (λa=>W.bind_fn X a e) (.inl Y) h
theorem zdH{R:aB->af->Prop}(X:K.In s.heap)(b:si K C=ah) (c:fA K (.ref C) "__init__"=U (U (.builtin "object.__init__"))) (e:∀a,sI (Bg prog w) s.heap (bindSpecial (.builtin "object.__init__") a) (.builtin "object.__init__",[a])) (h:codeAny (Bg prog w) (A.under (.builtin "type.__call__" ⟨[.ref C],[]⟩)) (.call (.builtin "object.__init__") ⟨[.ref (s.heap.objs.size+1)],[]⟩) (W.InitBack (s.heap.objs.size+1) R)
   { s with heap:=(s.heap.push eC).push (f8 C s.heap.objs.size) }) :
  codeAny (Bg prog w) A (.call (.ref C) ⟨[],[]⟩) R s:=by
 obtain⟨j,g,d,t,i⟩:=s;exact W.make_core (W.makes_of X b) (W.looks_findIn X c) e (.inr ⟨Y,Y⟩) h
end
def vJ(f:Str)(v:V):List (Str×V)->List (Str×V)
 |[]=>[(f,v)]
 |(g,x)::r=>if g=f then (g,v)::r else (g,x)::vJ f v r
theorem Wl(f g:Str)(v:V):∀b:List (Str×V),(vJ f v b).lookup g=if g=f then U v else b.lookup g
 |[]=>by
  show cW g [(f,v)]=_;by_cases h:g=f
  .have a:(g==f)=ah:=beq_iff_eq.mpr h;simp only[cW,a,ap h]
  .have a:(g==f)=ao:=beq_eq_false_iff_ne.mpr h;simp only[cW,a,am h]
 |(k,x)::r=>by
  have c:=Wl f g v r;rw[show vJ f v ((k,x)::r)=(if k=f then (k,v)::r else (k,x)::vJ f v r) from rfl];by_cases hk:k=f
  .rw[ap hk];by_cases h:g=k
   .have a:(g==k)=ah:=beq_iff_eq.mpr h;simp only[cW,a,ap (h.trans hk)]
   .have a:(g==k)=ao:=beq_eq_false_iff_ne.mpr h;simp only[cW,a,am (λe:g=f=>h (e.trans hk.symm))]
  .rw[am hk];by_cases h:g=k
   .have a:(g==k)=ah:=beq_iff_eq.mpr h;simp only[cW,a,am (λe:g=f=>hk (h.symm.trans e))]
   .have a:(g==k)=ao:=beq_eq_false_iff_ne.mpr h;simp only[cW,a];exact c
theorem XU(f:Str)(v:V):∀a:List (Str×V),f∈(vJ f v a).map (·.1)/\∀g,g∈a.map (·.1)->g∈(vJ f v a).map (·.1)
 |[]=>⟨by simp[vJ],λg h=>by simp at h⟩
 |(k,x)::r=>by
  obtain⟨c,b⟩:=XU f v r;rw[show vJ f v ((k,x)::r)=(if k=f then (k,v)::r else (k,x)::vJ f v r) from rfl];by_cases hk:k=f
  .rw[ap hk];subst hk;exact⟨by simp,λg h=>by simpa using h⟩
  .rw[am hk];refine⟨?_,λg h=>?_⟩
   .rw[bx];exact br _ c
   .rw[bx] at h ⊢;rcases bE.mp h with e|e
    .exact bE.mpr (.inl e)
    .exact br _ (b g e)
theorem Wm(f:Str)(v:V):∀a:List (Str×V),(vJ f v a).length<=a.length+1
 |[]=>by simp[vJ]
 |(k,x)::r=>by
  have b:=Wm f v r;rw[show vJ f v ((k,x)::r)=(if k=f then (k,v)::r else (k,x)::vJ f v r) from rfl];by_cases hk:k=f
  .rw[ap hk,bU,bU];lia
  .rw[am hk,bU,bU];lia
theorem tK.some_of(r:tK (U v) o):∃u,o=U u/\aT v u:=by
 cases o with
 |none=>exact(show False from r).elim
 |some u=>exact⟨u,Y,r⟩
theorem tK.none_of(r:tK ak o):o=ak:=by
 cases o with
 |none=>rfl
 |some u=>exact(show False from r).elim
theorem zdI(r:aT v u):W.handedIn u=ah:=by
 cases v with
 |non=>cases (show u=cC from r);rfl
 |bl b=>cases (show u=iE b from r);rfl
 |int i=>obtain⟨t,e⟩:=(show ∃t,u=f7 i t from r);cases e;rfl
 |str x=>obtain⟨t,e⟩:=(show ∃t,u=ic x t from r);cases e;rfl
 |byt b=>obtain⟨t,e⟩:=(show ∃t,u=Value.bytes b t from r);cases e;rfl
 |flt b=>obtain⟨t,e⟩:=(show ∃t,u=se b t from r);cases e;rfl
 |ref a=>cases (show u=bJ a from r);rfl
 |ty n=>cases (show u=mG n from r);rfl
section
variable {P:aq}{w:au}{H H':Hp}{h h':av}{a C dx:D}{fs fs':List (Str×V)}
theorem Vk(c:t8 P w H h)(e:H a=U (.ins C dx fs)):∃b,ObjM h a dx C b/\(∀f,tK (fs.lookup f) (b f))/\rE b (fs.map (·.1))/\fs.length<=1000/\H dx=U (.own a):=by
 obtain⟨d,z,i,g,b,n,r,q⟩:=(show aW P w H h a (.ins C dx fs) from c a _ e);exact⟨b,⟨g,n,i⟩,r,q,z,d⟩
end
structure tR(K:bw)(C:D):Prop where
 pg:rc K C nZ=ah
 hd:sg K C=ah
 po:W.plainOver K C=ah
 sa:fA K (.ref C) "__setattr__"=U (U (.builtin "object.__setattr__"))
theorem tR.get{K:bw}(c:tR K C)(f:Str):rc K C f=ah:=c.pg
def aP(K:bw)(C:D)(f:Str):Prop:=fA K (.ref C) f=U ak
theorem aP.taker{K:bw}{C:D}(n:aP K C f):W.takerIn K C f=U ak:=by
 unfold W.takerIn;rw[show fA K (.ref C) f=U ak from n];rfl
structure Qq(K:bw)(C:D)(m:Str)(f:D):Prop where
 at_:fA K (.ref C) m=U (U (.ref f))
 fn:W.isFn K (.ref f)=ah
 kp:mY K (.ref f)=ah
section
variable {X:Cx}{aa:List (D×Obj)}{σ:St}{H:Hp}{s:af}{a C dx:D}{fs:List (Str×V)}{f:Str}{v:V}{A:aw}{E:ae->af->Prop}
theorem Vs{Q:ae->af->Prop}(I:aO X aa σ H s)(e:H a=U (.ins C dx fs))(c:tR X.K C)(n:aP X.K C f)(l:fs.lookup f=U v) (h:∀u d,aO X aa σ H d->aT v u->Q u d):Bf (Bg X.prog X.w) A (getAttr (.ref a) f b) Q E s:=by
 obtain⟨i,O,r,_,_,_⟩:=Vk I.hok e;obtain⟨u,j,g⟩:=tK.some_of (v:=v) (o:=i f) (by rw[<-l];exact r f);exact zgr I.kIn O (c.get f) c.hd n j (zdI g) (h u _ (I.tok _) g)
theorem kW{b:Sem Bool}{Q:ae×List ae->af->Prop}(I:aO X aa σ H s)(e:H a=U (.ins C dx fs))(c:tR X.K C)(k:Qq X.K C m g)(l:fs.lookup m=ak) (h:Q (.ref g,[.ref a]) s):Bf (Bg X.prog X.w) A (getMethod (.ref a) m b) Q E s:=by
 obtain⟨d,O,r,_,_,_⟩:=Vk I.hok e;have i:d m=ak:=tK.none_of (by rw[<-l];exact r m);exact zer I.kIn O (c.get m) k.at_ k.fn i h
theorem Yz{Q:Unit->af->Prop}(I:aO X aa σ H s)(e:H a=U (.ins C dx fs))(c:tR X.K C)(n:aP X.K C f)(M:fs.length<1000)(p:aT y u) (h:∀j,aO X aa σ (upd H a (.ins C dx (vJ f y fs))) j->Q PUnit.unit j):Bf (Bg X.prog X.w) A (setAttr (.ref a) f u) Q E s:=by
 obtain⟨k,O,r,i,_,l⟩:=Vk I.hok e;have t:(fs.map (·.1)).length<=Bb:=by rw[bg,bH];lia
 refine zgs I.kIn O c.sa c.po n.taker c.hd i t λJ d m=>h _ ?_;have B:∃o,J.get? dx=U o:=let ⟨o,_,_,e',_⟩:=d.ns;⟨o,e'⟩
 refine I.write (x:=a) (e:=dx) (by rw[e];exact eN) (.inr l) (λb q G z=>(m.2 b G).trans z) B ?_;refine⟨by rw[zi O.ne];exact l,?_,O.ne,d.obj,_,d.ns,λg=>?_,λg w=>?_⟩
 .have:=Wm f y fs;lia
 .show tK ((vJ f y fs).lookup g) (if g=f then U u else k g);rw[Wl];by_cases q:g=f
  .rw[ap q,ap q];exact p
  .rw[am q,am q];exact r g
 .by_cases q:g=f
  .rw[q];exact(XU f y fs).1
  .refine(XU f y fs).2 g (i g λz=>w ?_);show (if g=f then U u else k g)=ak;rw[am q];exact z
theorem aO.made(I:aO X aa σ H s):aO X aa σ (upd (upd H s.heap.objs.size (.own (s.heap.objs.size+1))) (s.heap.objs.size+1) (.ins C s.heap.objs.size []))
  { s with heap:=(s.heap.push eC).push (f8 C s.heap.objs.size) }:=by
 have g:(s.heap.push eC).get? s.heap.objs.size=U eC:=bF s.heap rfl;have l:((s.heap.push eC).push (f8 C s.heap.objs.size)).get? (s.heap.objs.size+1)=U (f8 C s.heap.objs.size):=by
  have:=bF (s.heap.push eC) (o:=f8 C s.heap.objs.size) rfl
  rwa [eV] at this
 have k:(s.heap.push eC).Ns s.heap.objs.size (λ_=>ak):=⟨eC,#[],_,g,Y,(λe j=>absurd j (by simp)),λ_=>rfl⟩;have n:=I.laid (a:=s.heap.objs.size) (o:=.own (s.heap.objs.size+1)) (h':=s.heap.push eC) (t':=s.toks) (λb u q=>bc _ q) (bp _) ⟨_,g⟩;refine n.laid (a:=s.heap.objs.size+1) (o:=.ins C s.heap.objs.size []) (t':=s.toks) (λb u q=>bc _ q) (n9 (eV _ _)) ?_;have d:s.heap.objs.size≠s.heap.objs.size+1:=bW (nI _);refine⟨by rw[zi d,zh],bS _,d,l,λ_=>ak,(Heap.Ns1.of_empty k).at λo q=>bc _ q,λ_=>eN,λy h=>absurd Y h⟩
theorem zgt{Q:ae->af->Prop}(c:attributeBase e f env (eval e env)=eval e env) (h:Bf (Bg prog w) A (eval e env) (λo b=>Bf (Bg prog w) A (getAttr o f ah) Q E b) E s):Bf (Bg prog w) A (eval (.Attribute e f pos) env) Q E s:=
 Attribute_any_ h (by rw[arm_eval_Attribute,c])
end
def zW(K:bw)(e:TE)(f:Str):TE:=λd H Q=>e d H λx c=>∃a C g b v,x=.ref a/\c a=U (.ins C g b)/\tR K C/\aP K C f/\b.lookup f=U v/\Q v c
def wb(K:bw)(h g:TE)(f:Str):TS:=λj b H=>g b H λy i=>h b i λx e=>∃a C d c,x=.ref a/\e a=U (.ins C d c)/\tR K C/\aP K C f/\c.length<1000 /\
 j.nx b (upd e a (.ins C d (vJ f y c)))
def zh8(X:Cx)(d:Operator)(c:V->V->Hp->VK->Prop):Prop :=
 ∀(b:List (D×Obj)) (s:af) (a:St) (H:Hp) (x y:V) (u v:ae) (Q:VK),aO X b a H s->aT x u->aT y v->c x y H Q->Bf (Bg X.prog X.w) X.A (inplaceOp d u v) (EP X b a Q) X.xe s
def zcQ(K:bw)(j i:TE)(k:V->V->Hp->VK->Prop)(f:Str):TS:=λn d H=>j d H λx h=>∃a C l e v,x=.ref a/\h a=U (.ins C l e)/\tR K C/\aP K C f/\e.lookup f=U v /\
 i d h λy m=>k v y m λz g=>∃c b,g a=U (.ins C c b)/\b.length<1000/\n.nx d (upd g a (.ins C c (vJ f z b)))
section
variable {X:Cx}{o e value:ay}{f:Str}{pos pos' tpos:Pos}{ta tv:TE}
theorem zB(i:PE X e ta)(j:attributeBase e f X.env (eval e X.env)=eval e X.env):PE X (.Attribute e f pos) (zW X.K ta f):=by
 intro p s b H Q I h;refine zgt j (dl (i p s b H _ I h) ?_);rintro u A ⟨x,w,t,d,a,C,E,B,v,k,m,c,n,l,q⟩;subst k;obtain rfl:u=bJ a:=d;exact Vs t m c n l λy z r g=>⟨v,w,r,g,q⟩
theorem yC(t:PE X o ta)(p:PE X value tv)(r:swapsWith value (U (.Attribute o f pos')) pos.line X.env=pure ao):PS X (.Assign [.Attribute o f pos'] value pos) (wb X.K ta tv f):=by
 intro d s b H Q I h;refine iF (dl (p d s b H _ I h) λu g ⟨y,E,B,i,q⟩=>dl (t d g b E _ B q) ?_) r;rintro m J ⟨x,O,A,j,a,C,N,M,v,w,c,n,l,k⟩;subst v;obtain rfl:m=bJ a:=j;exact Yz A w c n l i λG z=>⟨b,_,z,k⟩
theorem zdJ{j:V->V->Hp->VK->Prop}(N:PE X o ta)(M:PE X value tv)(d:zh8 X op j):PS X (.AugAssign (.Attribute o f tpos) op value pos) (zcQ X.K ta tv j f):=by
 intro i s b H Bp I h;refine wpAny_AugAssign_AttributeAny (dl (N i s b H _ I h) ?_);rintro G s1 ⟨x,H1,I1,w,a,C,dx,fs,v,Q,T,c,n,l,q⟩;subst Q;obtain rfl:G=bJ a:=w;refine Vs I1 T c n l λu p I2 A=>dl (M i p b H1 _ I2 q) λk m ⟨y,H2,I3,t,E⟩=>dl (d i m b H2 v y u k _ I3 A t E) ?_;rintro w4 s4 ⟨z,H3,I4,r,ag,O,g,J,B⟩;exact Yz I4 g c n J r λs5 I5=>⟨b,_,I5,B⟩
def zgu:V->V->Hp->VK->Prop:=λx y H Q=>∃i j,x=.int i/\y=.int j/\Q (.int (i+j)) H
theorem zbW:zh8 X .Add zgu:=by
 rintro g s d H x y u v Q I c b ⟨i,j,rfl,rfl,q⟩;obtain⟨t,rfl⟩:=(show ∃t,u=f7 i t from c);obtain⟨a,rfl⟩:=(show ∃a,v=f7 j a from b);exact PyProof.Rows.iadd_int ⟨.int (i+j),H,I.tok _,⟨_,Y⟩,q⟩
end
section
variable {X:Cx}{aa:List (D×Obj)}{σ:St}{H:Hp}{s:af}{A:aw}{E:ae->af->Prop}{Q:ae->af->Prop}{c:ae}{b:Bool}
inductive YA (K:bw) (H:Hp):V->ae->Prop where
 |non:YA K H .non (.type "NoneType")
 |bl (x:Bool):YA K H (.bl x) (.type "bool")
 |int (i:Int):YA K H (.int i) (.type "int")
 |str (x:Str):YA K H (.str x) (.type "str")
 |flt (x:UInt64):YA K H (.flt x) (.type "float")
 |lst {a:D} {xs:List V} (e:H a=U (.lst xs)):YA K H (.ref a) (.type "list")
 |frz {a:D} {o:Obj} {xs:List V} (e:H a=U (.frz o (.lst xs))):YA K H (.ref a) (.type "list")
 |tup {a:D} {xs:List V} (e:H a=U (.tup xs)):YA K H (.ref a) (.type "tuple")
 |dK {a:D} {aI:List (aU×V)} (e:H a=U (.dK aI)):YA K H (.ref a) (.type "dict")
 |dT {a:D} {aI:List (List aU×V)} (e:H a=U (.dT aI)):YA K H (.ref a) (.type "dict")
 |ins {a C dx:D} {fs:List (Str×V)} (e:H a=U (.ins C dx fs)) (cl:tR K C) (ha:fA K (.ref C) "__class__"=U (U (.builtin "object.__class__"))) (hn:sk K (.builtin "object.__class__") "__get__"=U (U (.builtin "getset_descriptor.__get__"))) (htk:W.takesIn K (.builtin "object.__class__")=U ah) (hm:sJ K C (.type "object")=U ah):YA K H (.ref a) (.ref C)
theorem zdK(I:aO X aa σ H s)(d:aT x u)(k:YA X.K H x t)(e:fS X.K t c=U b)(h:∀l,Q (.bool b) { s with toks:=l }) :
  Bf (Bg X.prog X.w) A (call (.builtin "isinstance") [u,c]) Q E s:=by
 cases k with
 |non=>cases (show u=cC from d);exact gN W.kitx_none I.kIn eN e () h
 |bl y=>cases (show u=iE y from d);exact gN W.kitx_bool I.kIn eN e () h
 |int i=>obtain⟨t,q⟩:=(show ∃t,u=f7 i t from d);cases q;exact gN W.kitx_int I.kIn eN e () h
 |str y=>obtain⟨t,q⟩:=(show ∃t,u=ic y t from d);cases q;exact gN W.kitx_str I.kIn eN e () h
 |flt y=>obtain⟨t,q⟩:=(show ∃t,u=se y t from d);cases q;exact gN W.kitx_float I.kIn eN e () h
 |@lst a g ea =>
  cases (show u=bJ a from d);obtain⟨_,_,n,_,f⟩:=(show aW X.prog X.w H s.heap a (.lst g) from I.hok a _ ea);exact gN W.kitx_list I.kIn ⟨_,f,Y⟩ e () h
 |@frz a ob g ea =>
  cases (show u=bJ a from d);obtain⟨_,_,_,n,_,f⟩:=(show aW X.prog X.w H s.heap a (.frz ob (.lst g)) from I.hok a _ ea);exact gN W.kitx_list I.kIn ⟨_,f,Y⟩ e () h
 |@tup a g ea =>
  cases (show u=bJ a from d);obtain⟨_,_,_,p⟩:=(show aW X.prog X.w H s.heap a (.tup g) from I.hok a _ ea);obtain⟨o,f,j,_⟩:=p;exact gN W.kitx_tuple I.kIn ⟨o,f,j⟩ e () h
 |@dK a aI ea =>
  cases (show u=bJ a from d);obtain⟨_,_,v,_,p⟩:=(show aW X.prog X.w H s.heap a (.dK aI) from I.hok a _ ea);obtain⟨o,m,r,f,j,_⟩:=p;exact gN W.kitx_dict I.kIn ⟨o,f,j.1⟩ e () h
 |@dT a aI ea =>
  cases (show u=bJ a from d);obtain⟨_,_,g,_,o,m,r,f,j,_⟩:=(show aW X.prog X.w H s.heap a (.dT aI) from I.hok a _ ea);exact gN W.kitx_dict I.kIn ⟨o,f,j.1⟩ e () h
 |@ins a C dx fs ea cl ha hn htk hm =>
  cases (show u=bJ a from d);obtain⟨z,O,_⟩:=Vk I.hok ea;obtain⟨w,J,_⟩:=O.look;exact gN (W.kitx_own (cl.get _) cl.hd ha hn htk hm) I.kIn J e () h
end
structure sV(k:Nat)(A:aw):Prop where
 hd:A.handled=ak
 dp:A.depth+3*k+5<recursionLimit
 un:A.units+16*k+200<cLine
theorem sV.mono(r:sV k A)(h:j<=k):sV j A:=⟨r.hd,by have:=r.dp;lia,by have:=r.un;lia⟩
theorem sV.deeper(r:sV (k+1) A)(a:Env):sV k (A.deeper a):=
 ⟨r.hd,by have:=r.dp;show A.depth+1+3*k+5<_;lia,by have:=r.un;show A.units+3+16*k+200<_;lia⟩
theorem zbX{A:aw}{C:D}{a:List ae} :(A.under (.builtin "type.__call__" ⟨.ref C::a,kw⟩)).depth=A.depth+1:=by
 first|rfl|simp[rF,Code.weight,Code.isCreation,Code.isGuard,Code.isCaller,Code.frames,rG,guardIds]
theorem zbY{A:aw}{C:D}{a:List ae} :(A.under (.builtin "type.__call__" ⟨.ref C::a,kw⟩)).units=A.units+1:=by
 first|rfl|simp[rF,Code.cUnits,Code.frames,rG]
theorem sV.make(r:sV (k+1) A)(C:D)(a:List ae)(b:List (Str×ae)):sV k (A.under (.builtin "type.__call__" ⟨.ref C::a,b⟩)):=
 ⟨r.hd,by have:=r.dp;rw[zbX];lia,by have:=r.un;rw[zbY];lia⟩
theorem sV.depth(r:sV k A):A.depth<recursionLimit:=by have:=r.dp;lia
theorem sV.units(r:sV k A):A.units+64<cLine:=by have:=r.un;lia
def zj:TA:=λ_ H Q=>Q [] H
def zc(d:TE)(c:TA):TA:=λa H Q=>d a H λx f=>c a f λb e=>Q (x::b) e
section
variable {X:Cx}{e:ay}{es:List ay}{te:TE}{t:TA}{pos:Pos}
theorem ze:PA X [] zj:=λ_ _ _ _ H Q I h=>eW ⟨[],H,I,.nil,h⟩
theorem za(m:PE X e te)(l:PA X es t)(k:Be (e::es) X.env=(ao,eval e X.env)::Be es X.env:=by rfl):PA X (e::es) (zc te t):=by
 intro pos b s a H Q I h;rw[k];show Bf _ _ (spliced ((ao,eval e X.env)::backTo pos (Be es X.env))) _ _ s;refine cR (dl (m b s a H _ I h) ?_);rintro u d ⟨x,q,o,g,j⟩;exact dl (l pos b d a q _ o j) λr v ⟨c,p,n,f,i⟩=>⟨x::c,p,n,.cons g f,i⟩
def yX(t:TA):TE:=λc H Q=>t c H λa b=>a.length<=Bb/\∀p,b p=ak->Q (.ref p) (upd b p (.tup a))
def xX(t:TA):TE:=λc H Q=>t c H λa b=>a.length<=Bb/\∀p,b p=ak->Q (.ref p) (upd b p (.lst a))
theorem zX{x1}(h:PA X es t):PE X (.Tuple es x1 pos) (yX t):=by
 intro l s f H Q I j;refine wpAny_Tuple_spliced (dl (h pos l s f H _ I j) λi a ⟨g,d,c,r,z,q⟩=>⟨by rw[<-r.length];exact z,?_⟩);have k:d a.heap.objs.size=ak:=c.hok.fresh (bp _);refine⟨.ref a.heap.objs.size,upd d a.heap.objs.size (.tup g),c.laid (t':=a.toks) (λb u e=>bc _ e) (bp _) ?_,Y,q _ k⟩;exact⟨z,i,r,⟨_,bF _ Y,Y,_,Y⟩⟩
theorem yv(h:PA X es t):PE X (.List es pos) (xX t):=by
 intro l s f H Q I j;refine wpAny_List_spliced (dl (h pos l s f H _ I j) λi a ⟨g,d,c,r,z,q⟩=>⟨by rw[<-r.length];exact z,?_⟩);have k:d a.heap.objs.size=ak:=c.hok.fresh (bp _);refine⟨.ref a.heap.objs.size,upd d a.heap.objs.size (.lst g),c.laid (t':=a.toks) (λb u e=>bc _ e) (bp _) ?_,Y,q _ k⟩;exact⟨z,i,0,r,bF _ Y⟩
end
abbrev Sp:=List V->Hp->VK->XK->Prop
abbrev CXT:=List Env->Hp->af->XK->ae->af->Prop
structure Env0(P:aq)(w:au)(K:bw)(mg:Str->Option ae)(base:av)(A:aw)(outer:List Env)(s:af)(H:Hp):Prop where
 frames:A.frames=U outer
 mod:Mod K mg base
 bs:∀b o,base.get? b=U o->s.heap.get? b=U o/\H b=ak
 bsz:base.objs.size<=s.heap.objs.size
 funs:s.heap.FunFrames base outer
 frf:∀b∈tP outer,H b=ak
 hok:t8 P w H s.heap
 bare:AllBare s.gens
def CE(a:List Env)(P:aq)(w:au)(H:Hp)(s:af)(Q:VK)(u:ae)(b:af):Prop :=
 ∃v c,b.os=s.os/\AllBare b.gens/\Un (tP a) [] H c s.heap b.heap/\t8 P w c b.heap/\aT v u/\Q v c
def CR(c:CXT)(a:List Env)(P:aq)(w:au)(H:Hp)(s:af)(Q:VK)(E:XK)(r:aB)(b:af):Prop :=
 match r with
 |.ok (.ret u)=>CE a P w H s Q u b
 |.ok _=>False
 |.error e=>c a H s E e b
structure hZ(P:aq)(w:au)(K:bw)(mg:Str->Option ae)(base:av)(CX:CXT)(k:Nat)(f:D)(fd:Bc)(ps:List Str)(sp:Sp):Prop where
 len:∀vs H Q E,sp vs H Q E->vs.length=ps.length
 run:∀(A:aw) (outer:List Env) (s:af) (H:Hp) (args:Args) (us:List ae) (vs:List V) (Q:VK) (E:XK),sV k A->Env0 P w K mg base A outer s H->BindsTo s fd args (ps.zip us)->aR vs us->sp vs H Q E ->
  codeAny (Bg P w) A (.call (.ref f) args) (CR CX outer P w H s Q E) s
theorem hZ.mono{w:au}{K:bw}{mg:Str->Option ae}{base:av}{CX:CXT}{j k:Nat}{f:D}{fd:Bc}{ps:List Str}{sp:Sp}(F:hZ P w K mg base CX j f fd ps sp)(h:j<=k) :
  hZ P w K mg base CX k f fd ps sp:=⟨F.len,λA outer s H args us vs Q E a=>F.run A outer s H args us vs Q E (a.mono h)⟩
theorem Env0.make{w:au}{K:bw}{mg:Str->Option ae}{base:av}{A:aw}{outer:List Env}{s:af}{H:Hp}(e:Env0 P w K mg base A outer s H)(C:D)(a:List ae)(c:List (Str×ae)) :
  Env0 P w K mg base (A.under (.builtin "type.__call__" ⟨.ref C::a,c⟩)) outer s H:=⟨by first|exact e.frames|(simpa[rF,Code.envs,rG,pushEnvs] using e.frames),e.mod,e.bs,e.bsz,e.funs,e.frf,e.hok,e.bare⟩
section
variable {X:Cx}{aa:List (D×Obj)}{σ:St}{H:Hp}{s s':af}
theorem aO.env0(I:aO X aa σ H s):Env0 X.prog X.w X.K X.mg X.base X.A X.stack s H :=
 ⟨I.ok.frames,I.ok.mod,I.bs,bO I.ok.bsz I.sz,I.stack,I.stkFree,I.hok,I.bare⟩
theorem aO.after{Q:VK}(I:aO X aa σ H s)(h:CE X.stack X.prog X.w H s Q u s'):EP X aa σ Q u s':=by
 obtain⟨v,f,os,bare,un,hok,r,q⟩:=h;obtain⟨e,g,d,t,a⟩:=s';obtain rfl:a=s.os:=os;exact⟨v,f,I.call (h':=e) (g':=g) (d':=d) (t':=t) (ch:=[]) un hok bare (λb z=>absurd z (by simp)),r,q⟩
end
def zT(d:Sp)(a:List V)(E:XK)(t:TA):TE:=λb H Q=>t b H λc e=>d (c++a) e Q E
def zY(C:D)(m:Str)(h:Sp)(b:List V)(E:XK)(g:TE)(t:TA):TE:=λc H Q=>g c H λx e=>∃a i d,x=.ref a/\e a=U (.ins C i d)/\d.lookup m=ak /\
 t c e λf j=>h (x::(f++b)) j Q E
def Wn(C:D)(f:Sp)(b:List V)(E:XK)(t:TA):TE:=λd H Q=>t d H λe c=>∀x a,c x=ak->c a=ak->a≠x ->
 f (.ref x::(e++b)) (upd (upd c a (.own x)) x (.ins C a [])) (λv g=>v=.non/\Q (.ref x) g) E
def ti(K:bw)(d:Bc)(b:List Str)(c:List ae):Prop :=
 ∀(s:af) (a:List ae),K.In s.heap->(a++c).length=b.length->BindsTo s d ⟨a,[]⟩ (b.zip (a++c))
theorem ti.all{K:bw}{c:Bc}(h:∀a:List ae,a.length=ps.length->bindArgs c ⟨a,[]⟩=pure (ps.zip a)):ti K c ps []:=λs a _ b=>by
 rw[lI] at b ⊢;exact .of_eq (h a b)
def wx(d:CXT)(X:Cx)(E:XK):Prop:=∀(c:List (D×Obj)) (b:St) (H:Hp) (s:af) (e:ae) (a:af),aO X c b H s->d X.stack H s E e a->X.xe e a
section
variable {X:Cx}{CX:CXT}{k:Nat}{f C:D}{fd:Bc}{ps:List Str}{sp:Sp}{dvs:List V}{ds:List ae}{E:XK}{x m:Str}{p pos sR:Pos}{e o:ay}{es:List ay}{ta:TE}{t:TA}
theorem Qr{b:St}{H:Hp}{s:af}{Q:VK}{us:List ae}{vs:List V}(F:hZ X.prog X.w X.K X.mg X.base CX k f fd ps sp)(i:sV k X.A)(n:ti X.K fd ps ds)(l:aR dvs ds)(g:wx CX X E) (I:aO X aa b H s) (r:aR vs us) (h:sp (vs++dvs) H Q E):Bf (Bg X.prog X.w) X.A (call (.ref f) us) (EP X aa b Q) X.xe s:=by
 have c:aR (vs++dvs) (us++ds):=r.append l;have j:(us++ds).length=ps.length:=by rw[<-c.length];exact F.len _ _ _ _ h
 refine rf (gj (F.run X.A X.stack s H ⟨us,[]⟩ (us++ds) (vs++dvs) Q E i I.env0 (n s us I.kIn j) c h) λr d a=>?_);cases r with
 |error e=>exact g aa b H s e d I a
 |ok fl =>
  cases fl with
  |ret u=>exact I.after a
  |next=>exact c8 a
  |brk=>exact c8 a
  |cont=>exact c8 a
theorem YW(F:hZ X.prog X.w X.K X.mg X.base CX k f fd ps sp)(i:sV k X.A)(n:Gl X x)(j:X.mg x=U (.ref f))(l:mY X.K (.ref f)=ah)(w:ti X.K fd ps ds)(v:aR dvs ds)(g:wx CX X E) (y:PA X (e::es) t) (b:(x==("__debug__":Str))=ao:=by lia) (u:Be (e::es) X.env=(ao,eval e X.env)::Be es X.env:=by rfl) (a:(backTo pos (Be es X.env)).any (·.1)=ao:=by rfl) :
  PE X (.Call (.Name x p) (e::es) [] pos) (zT sp dvs E t):=by
 intro z s d H Q I h;refine eO (wT I n j ?_ b);refine lZ (h₀:=X.base) I.ok.mod.kin l (dl (y pos z s d H _ I h) λB G ⟨A,J,c,r,q⟩=>⟨c.kIn,?_⟩) u a;exact Qr F i w v g c r q
theorem Qs{pl:Sem Bool}(M:PE X o ta)(c:tR X.K C)(j:Qq X.K C m f)(F:hZ X.prog X.w X.K X.mg X.base CX k f fd ps sp)(J:sV k X.A)(O:ti X.K fd ps ds)(N:aR dvs ds)(B:wx CX X E)(T:PA X (e::es) t) (b:Be (e::es) X.env=(ao,eval e X.env)::Be es X.env:=by rfl) (d:(backTo pos (Be es X.env)).any (·.1)=ao:=by rfl) (G:eval (.Call (.Attribute o m sR) (e::es) [] pos) X.env=(do
   let i <-eval o X.env
   standAt sR.atName
   let (f,first) <-holding [i] (getMethod i m pl)
   callWith pos f first (backTo pos (Be (e::es) X.env)) (backToKw pos (keywordEach [] X.env))):=by rfl) :
  PE X (.Call (.Attribute o m sR) (e::es) [] pos) (zY C m sp dvs E ta t):=by
 intro n s g H Q I h;refine lJ (pl:=pl) (dl (M n s g H _ I h) ?_) G;rintro u y ⟨x,H1,w,z,a,dx,fs,ex,ea,l,q⟩;subst ex;obtain rfl:u=bJ a:=z;refine kW w ea c j l ?_;refine lZ (first:=[.ref a]) (h₀:=X.base) I.ok.mod.kin j.kp (dl (T pos n y g H1 _ w q) λus s2 ⟨vs,H2,v,r,A⟩=>⟨v.kIn,?_⟩) b d;exact Qr (us:=.ref a::us) (vs:=.ref a::vs) F J O N B v (.cons Y r) A
theorem zaA{pl:Sem Bool}(w:PE X o ta)(c:tR X.K C)(g:Qq X.K C m f)(F:hZ X.prog X.w X.K X.mg X.base CX k f fd ps sp)(v:sV k X.A)(z:ti X.K fd ps ds)(y:aR dvs ds)(n:wx CX X E) (r:eval (.Call (.Attribute o m sR) [] [] pos) X.env=(do
   let d <-eval o X.env
   standAt sR.atName
   let (f,first) <-holding [d] (getMethod d m pl)
   callWith pos f first (backTo pos (Be [] X.env)) (backToKw pos (keywordEach [] X.env))):=by rfl) :
  PE X (.Call (.Attribute o m sR) [] [] pos) (zY C m sp dvs E ta zj):=by
 intro G s i H Q I h;refine lJ (pl:=pl) (dl (w G s i H _ I h) ?_) r;rintro u J ⟨x,O,b,j,a,N,M,A,B,l,q⟩;subst A;obtain rfl:u=bJ a:=j;refine kW b B c g l ?_;exact pM (first:=[.ref a]) b.kIn g.kp (Qr (us:=[.ref a]) (vs:=[.ref a]) F v z y n b (.cons Y .nil) q)
structure Mk(K:bw)(C f:D):Prop where
 makes:si K C=ah
 init:fA K (.ref C) "__init__"=U (U (.ref f))
 fn:W.isFn K (.ref f)=ah
 kp:mY K (.ref C)=ah
theorem zaB{d:St}{H:Hp}{s:af}{Q:VK}{us:List ae}{g:List V}(M:Mk X.K C f)(F:hZ X.prog X.w X.K X.mg X.base CX k f fd ps sp)(y:sV (k+1) X.A)(B:ti X.K fd ps ds)(A:aR dvs ds) (w:wx CX X E) (I:aO X aa d H s) (r:aR g us) (h:∀x b,H x=ak->H b=ak->b≠x->sp (.ref x::(g++dvs)) (upd (upd H b (.own x)) x (.ins C b [])) (λv N=>v=.non/\Q (.ref x) N) E) :
  Bf (Bg X.prog X.w) X.A (call (.ref C) us) (EP X aa d Q) X.xe s:=by
 have j:=h (s.heap.objs.size+1) s.heap.objs.size (I.hok.fresh (sq _)) (I.hok.fresh (bp _)) (bW (nI _));have c:=aO.made (C:=C) I;have i:aR (V.ref (s.heap.objs.size+1)::(g++dvs)) (bJ (s.heap.objs.size+1)::(us++ds)):=.cons Y (r.append A);have z:(bJ (s.heap.objs.size+1)::us++ds).length=ps.length:=by
  have e:=i.length;rw[F.len _ _ _ _ j] at e;exact e.symm
 refine rf (zes (f:=f) I.kIn M.makes M.init (beq_iff_eq.mp M.fn) (gj (F.run _ X.stack _ _ ⟨bJ (s.heap.objs.size+1)::us,[]⟩ (bJ (s.heap.objs.size+1)::(us++ds)) _ _ E (y.make C us []) (c.env0.make C us []) (B _ (bJ (s.heap.objs.size+1)::us) c.kIn z) i j) λr l a=>?_))
 cases r with
 |error e=>exact w aa d _ _ e l c a
 |ok fl =>
  cases fl with
  |ret u =>
   obtain⟨v,O,J,n,G,q⟩:=c.after a;subst G;exact⟨n,⟨V.ref (s.heap.objs.size+1),O,J,Y,q⟩⟩
  |next=>exact c8 a
  |brk=>exact c8 a
  |cont=>exact c8 a
theorem YX(M:Mk X.K C f)(F:hZ X.prog X.w X.K X.mg X.base CX k f fd ps sp)(i:sV (k+1) X.A)(l:Gl X x)(j:X.mg x=U (.ref C))(v:ti X.K fd ps ds)(u:aR dvs ds)(g:wx CX X E) (w:PA X (e::es) t) (b:(x==("__debug__":Str))=ao:=by lia) (n:Be (e::es) X.env=(ao,eval e X.env)::Be es X.env:=by rfl) (a:(backTo pos (Be es X.env)).any (·.1)=ao:=by rfl) :
  PE X (.Call (.Name x p) (e::es) [] pos) (Wn C sp dvs E t):=by
 intro y s d H Q I h;refine eO (wT I l j ?_ b);refine lZ (h₀:=X.base) I.ok.mod.kin M.kp (dl (w pos y s d H _ I h) λA B ⟨z,G,c,r,q⟩=>⟨c.kIn,?_⟩) n a;exact zaB M F i v u g c r q
theorem zet(M:Mk X.K C f)(F:hZ X.prog X.w X.K X.mg X.base CX k f fd ps sp)(c:sV (k+1) X.A)(g:Gl X x)(d:X.mg x=U (.ref C))(j:ti X.K fd ps ds)(i:aR dvs ds)(b:wx CX X E) (a:(x==("__debug__":Str))=ao:=by lia):PE X (.Call (.Name x p) [] [] pos) (Wn C sp dvs E zj):=by
 intro n s l H Q I h;refine eO (wT I g d ?_ a);exact pM I.kIn M.kp (zaB (us:=[]) M F c j i b I .nil h)
end
def PK(X:Cx)(c:List Keyword)(t:TA):Prop :=
 ∀(b:Pos) (d:List (D×Obj)) (s:af) (a:St) (H:Hp) (Q:List V->Hp->Prop),aO X d a H s->t a H Q->Bf (Bg X.prog X.w) X.A (evalAll ((backToKw b (keywordEach c X.env)).map (·.2))) (AP X d a Q) X.xe s
section
variable {X:Cx}{CX:CXT}{k:Nat}{f C:D}{fd:Bc}{ps ks:List Str}{sp:Sp}{E:XK}{x m:Str}{p pos sR kpos:Pos}{e o:ay}{es:List ay}{kws:List Keyword}{te ta:TE}{t tk:TA}{nm:Option Str}
theorem zh9:PK X [] zj:=λ_ _ _ _ H Q I h=>wpAny_evalAll_nil ⟨[],H,I,.nil,h⟩
theorem zgv(q:PE X e te)(n:PK X kws t):PK X (⟨nm,e,kpos⟩::kws) (zc te t):=by
 intro pos b s a H Q I h;show Bf _ _ (evalAll ((do let v <-eval e X.env;standAt pos;pure v)::(backToKw pos (keywordEach kws X.env)).map (·.2))) _ _ s;refine wpAny_evalAll_cons (ba (dl (q b s a H _ I h) λu d ⟨x,z,w,i,l⟩=>ba (pN (bf ?_))));exact dl (n pos b d a z _ w l) λA B ⟨c,y,r,g,j⟩=>⟨x::c,y,r,.cons i g,j⟩
variable {g:List ae->List ae->List ae}{gV:List V->List V->List V}
end
structure aL(N P:List Str)(sc:aA):Prop where
 kind:sc.kind=.function
 co:sc.isCoroutine=ao
 gen:sc.isGenerator=ao
 nd:N.Nodup
 pre:N.take P.length=P
 par:∀x∈P,sc.names.lookup x=U .local\/sc.names.lookup x=U .cell
 nofree:∀y∈sc.names,y.2≠.free
theorem Kx{b:Str->Option NameKind}{x:Str}:∀ {a:List (Str×ae)} {m:Str->Option ae},(∀v,(x,v) ∉ a)->bindL b a m x=m x
 |[],_,_=>rfl
 |(n,v)::r,m,h=>by
  unfold bindL;rw[Kx λw c=>h w (br _ c)];split
  .have:x≠n:=by rintro rfl;exact h v bt
   simp[this]
  .rfl
theorem Ky{b:Str->Option NameKind}{x:Str}:∀ {a:List (Str×ae)} {m:Str->Option ae},(∀v,(x,v) ∉ a)->bindC b a m x=m x
 |[],_,_=>rfl
 |(n,v)::r,m,h=>by
  unfold bindC;rw[Ky λw c=>h w (br _ c)];split
  .rfl
  .have:x≠n:=by rintro rfl;exact h v bt
   simp[this]
theorem Kz{a:Str->Option NameKind}{x:Str}{v:ae}:∀ {P:List Str} {b:List ae} {i:Nat} {m:Str->Option ae},P.Nodup->P[i]?=U x->b[i]?=U v->a x=U .local ->
  bindL a (P.zip b) m x=U v
 |[],_,_,_,_,h,_,_=>by simp at h
 |_::_,[],_,_,_,_,h,_=>by simp at h
 |p::P,w::b,0,m,nd,h1,h2,hk=>by
  simp at h1 h2;subst h1;subst h2;show bindL a ((p,w)::P.zip b) m p=_;unfold bindL;rw[Kx λv c=>(bX.mp nd).1 (og c).1,ap hk];simp
 |p::P,w::b,i+1,m,nd,h1,h2,hk=>by
  show bindL a ((p,w)::P.zip b) m x=_;unfold bindL;exact Kz (i:=i) (bX.mp nd).2 (by simpa using h1) (by simpa using h2) hk
theorem KA{a:Str->Option NameKind}{x:Str}{v:ae}:∀ {P:List Str} {b:List ae} {i:Nat} {m:Str->Option ae},P.Nodup->P[i]?=U x->b[i]?=U v->a x≠U .local ->
  bindC a (P.zip b) m x=U v
 |[],_,_,_,_,h,_,_=>by simp at h
 |_::_,[],_,_,_,_,h,_=>by simp at h
 |p::P,w::b,0,m,nd,h1,h2,hk=>by
  simp at h1 h2;subst h1;subst h2;show bindC a ((p,w)::P.zip b) m p=_;unfold bindC;rw[Ky λv c=>(bX.mp nd).1 (og c).1,am hk];simp
 |p::P,w::b,i+1,m,nd,h1,h2,hk=>by
  show bindC a ((p,w)::P.zip b) m x=_;unfold bindC;exact KA (i:=i) (bX.mp nd).2 (by simpa using h1) (by simpa using h2) hk
def start(N:List Str)(a:List V):St:=a.map U++fC (N.length-a.length) ak
def qU(g:CXT)(P:aq)(w:au)(K:bw)(mg:Str->Option ae)(base:av)(N:List Str)(b:Str)(a:aA)(f:D)(d:ae)(A:aw)(outer:List Env)(s:af)(H:Hp)(E:XK):Cx where
 prog:=P
 w:=w
 K:=K
 mg:=mg
 base:=base
 A:=A.deeper (envOfC b a s.heap.objs.size f d)
 N:=N
 s₀:=s
 H₀:=H
 env:=envOfC b a s.heap.objs.size f d
 outer:=outer
 stack:=envOfC b a s.heap.objs.size f d::outer
 ex:=[]
 calm:=ah
 fn:=λ_=>ah
 pn:=[]
 xe:=λe h=>Bf (Bg P w) (A.deeper (envOfC b a s.heap.objs.size f d)) (leaving (envOfC b a s.heap.objs.size f d) e) (λ_ c=>g outer H s E e c) (λi c=>g outer H s E i c) h
theorem zaC{a:aA}{n:Nat}(h:a.names.lookup x=U .cell):∃c,(cellsFrom n a.names []).lookup x=U c:=by
 have q:=W.cellsFrom_some a.names n [] (.inl h);exact fN.mp q
theorem zdL{CX:CXT}{P:aq}{w:au}{K:bw}{T:Str->Option ae}{m:av}{N B:List Str}{j:Str}{d:aA}{f:D}{O:ae}{A:aw}{g:List Env}{s s1:af}{H:Hp}{E:XK}{Q:List ae}{t:List V}
  (S:aL N B d) (hd:A.handled=ak) (o:Env0 P w K T m A g s H) (hl:t.length=B.length) (r:aR t Q) (x:InCallC s s.heap.objs.size (bindL (envOfC j d s.heap.objs.size f O).kindOf (B.zip Q) λ_=>ak) (cellsFrom (s.heap.objs.size+1) d.names []) (bindC (envOfC j d s.heap.objs.size f O).kindOf (B.zip Q) λ_=>ak) s1) :
  aO (qU CX P w K T m N j d f O A g s H E) [] (start N t) H s1:=by
 have aa:B.length<=N.length:=by have:=congrArg fT S.pre;rw[cB] at this;lia
 obtain⟨M,tk,rfl,hk⟩:=x.done;have C:∀b:D,b ∉ (qU CX P w K T m N j d f O A g s H E).ex:=λb z=>absurd (show b∈([]:List D) from z) (by simp);refine⟨⟨o.mod,S.kind,Y,Y,bp _,λy z c M l=>?_,λy hy=>?_,λy c _ h=>?_,λ_=>hd,Around.frames_deeper o.frames,.inr ⟨Y,Y⟩,λb z=>absurd z (C b),o.bs,o.bsz,λb _ _=>C b,λb z=>absurd z (C b),o.funs,o.frf⟩,
  rfl,o.bare,Un.kept hk,⟨_,x.toInCall.ns,λi y v M l h3=>?_⟩,λy c h=>⟨_,x.cell y c h⟩,o.hok.fresh (bp _),λy c h=>?_,λp I=>absurd (show p∈([]:List (D×Obj)) from I) (by simp),o.hok.kept hk,?_⟩
 .exact name_of_addr x.apart (e9 M) (e9 l)
 .have hy:d.names.lookup y=U .cell\/d.names.lookup y=U .free:=hy;rcases hy with hy|hy
  .exact zaC hy
  .exact absurd Y (S.nofree _ (e9 hy))
 .exact nX (x.above y c (e9 h))
 .have J:i<t.length:=by
   unfold start at l;by_cases J:i<t.length
   .exact J
   .rw[dE (by simpa using J)] at l;rw[mZ] at l;split at l <;> cases l
  have ha:t[i]?=U v:=by
   unfold start at l;rw[cF (by simpa using J),bA] at l;cases e:t[i]? with
   |none=>rw[e] at l;cases l
   |some a=>rw[e] at l;cases l;rfl
  obtain⟨u,hu,rv⟩:=r.get ha;have I:B[i]?=U y:=by
   rw[<-S.pre,List.getElem?_take_of_lt ()];exact M
  have G:B.Nodup:=by rw[<-S.pre];exact S.nd.sublist (rg _ _)
  refine⟨u,rv,?_⟩;rcases S.par y (bN I) with k|k
  .exact .inl ⟨k,Kz G I hu k⟩
  .obtain⟨c,e⟩:=zaC (n:=s.heap.objs.size+1) k;refine .inr ⟨.inl k,c,e,?_⟩;have q:=x.cell y c e;rw[KA G I hu (by show d.names.lookup y≠_;rw[k];decide)] at q;exact q
 .exact o.hok.fresh (nX (x.above y c (e9 h)))
 .unfold start;show _=N.length;rw[bC,bg,dO];lia
theorem zhD{CX:CXT}{P:aq}{w:au}{K:bw}{mg:Str->Option ae}{i:av}{k:Nat}{f:D}{p d:Str}{h:Arguments}{j:List ax}{a:aA}{dV kV aa pm g ct oc:ae}{an od:Option D}
  {ag:Array (Option ae)} {N ps:List Str} {sp:Sp} (lk:K.lookup f=U ⟨oc,od,.func (ss p d h j a dV kV aa pm an g ct),ag⟩) (aj:sd K g d=ah) (S:aL N ps a) (M:∀m H Q E,sp m H Q E->m.length=ps.length) (C:∀(A:aw) (c:List Env) (s:af) (H:Hp) (m:List V) (Q:VK) (E:XK),sV k (A.deeper (envOfC d a s.heap.objs.size f g))->sp m H Q E ->
   ∃t,PSs (qU CX P w K mg i N d a f g A c s H E) j t/\t { nx:=λ_ z=>Q .non z,rt:=Q } (start N m) H) :
  hZ P w K mg i CX (k+1) f (ss p d h j a dV kV aa pm an g ct) ps sp:=by
 refine⟨M,λA c s H al us m Q E hr T hb r O=>?_⟩;have hl:=M _ _ _ _ O;have KX:K.In s.heap:=T.mod.kin.keeps λb o e=>(T.bs b o e).1;have ai:s.heap.NoLimit:=T.mod.nolimit.keeps λb o e=>(T.bs b o e).1;have B:∀y∈ps.zip us,a.names.lookup y.1=U .local\/(a.names.lookup y.1=U .cell/\((cellsFrom (s.heap.objs.size+1) a.names []).lookup y.1).isSome=ah):=λ⟨n,v⟩ hy=>by
  rcases S.par n (og hy).1 with q|q
  .exact .inl q
  .exact .inr ⟨q,W.cellsFrom_some _ _ _ (.inl q)⟩
 refine codeAny_call_function hr.depth (KX _ _ lk) Y S.co S.gen Y (W.codeRec_of KX aj) (hb _ _ _ _ ?_);refine wpAny_newFunctionEnv_cells S.kind B λar he s1 x=>?_;subst he;refine⟨ai.keeps x.toInCall.keep,codeAny_func ?_⟩;obtain⟨t,ht,hq⟩:=C A c s H m Q E (hr.deeper _) O;have I:aO (qU CX P w K mg i N d a f g A c s H E) [] (start N m) H s1:=zdL S hr.hd T hl r x;refine dN (ht [] s1 (start N m) H _ I hq) (λfl s' G=>?_) λe s' G=>G;have fin:∀ {l:St} {z:Hp} {v:V} {u:ae},aO (qU CX P w K mg i N d a f g A c s H E) [] l z s'->aT v u->Q v z->CE c P w H s Q u s' :=
  λ{l z v u} J rv q=>⟨v,z,J.os,J.bare,J.base,J.hok,rv,q⟩
 cases fl with
 |ret u =>
  obtain⟨v,l,z,J,rv,q⟩:=G;exact fin J rv q
 |next =>
  obtain⟨l,z,J,q⟩:=G;exact fin (v:=V.non) (u:=cC) J Y q
 |brk =>
  obtain⟨_,_,_,q⟩:=G;exact c8 q
 |cont =>
  obtain⟨_,_,_,q⟩:=G;exact c8 q
section
variable {X:Cx}{x:Str}{p pos:Pos}{e:ay}{es:List ay}{t:TA}{id T:String}{r:List V->Hp->VK->Prop}
def tu(r:List V->Hp->VK->Prop)(t:TA):TE:=λa H Q=>t a H λb c=>r b c Q
theorem zF(u:jZ X (.builtin id) r)(o:Gl X x)(n:X.mg x=ak)(l:Bh x=U (.builtin id))(v:PA X (e::es) t)(m:x≠"__name__":=by lia)(b:(x==("__debug__":Str))=ao:=by lia) (q:Be (e::es) X.env=(ao,eval e X.env)::Be es X.env:=by rfl) (a:(backTo pos (Be es X.env)).any (·.1)=ao:=by rfl):PE X (.Call (.Name x p) (e::es) [] pos) (tu r t):=by
 intro d s c H Q I h;refine eO (Yv I o n l ?_ m b);exact PyProof.Rows.callWith_builtin1 (dl (v pos d s c H _ I h) λg i ⟨f,y,w,j,k⟩=>u d i c y f g Q w j k) q a
theorem xQ(u:jZ X (.type T) r)(o:Gl X x)(n:X.mg x=ak)(l:Bh x=U (.type T))(v:PA X (e::es) t)(m:x≠"__name__":=by lia)(b:(x==("__debug__":Str))=ao:=by lia) (q:Be (e::es) X.env=(ao,eval e X.env)::Be es X.env:=by rfl) (a:(backTo pos (Be es X.env)).any (·.1)=ao:=by rfl):PE X (.Call (.Name x p) (e::es) [] pos) (tu r t):=by
 intro d s c H Q I h;refine eO (Yv I o n l ?_ m b);exact eZ (dl (v pos d s c H _ I h) λg i ⟨f,y,w,j,k⟩=>u d i c y f g Q w j k) q a
end
end L2
namespace HT
open PySem PyProof.Rows
def ziZ:List Int->List Int->Bool
 |[],[]=>ao
 |[],_::_=>ah
 |_::_,[]=>ao
 |x::xs,y::ys=>if x=y then ziZ xs ys else decide (x<y)
theorem rcLt_int(A:aw)(s:af)(a:Int)(t:Tok)(c:Int)(u:Tok)(b:aq)(w:au)(E:ae->af->Prop)(Q:ae->af->Prop)(h:Q (.bool (decide (a<c))) s) :
  Bf (Bg b w) A (richCompare .Lt (.int a t) (.int c u)) Q E s :=
 (ph h:Bf (Bg b w) A (Bi .Lt (.int a t) (.int c u)) Q E s)
section
variable {prog:aq}{w:au}{A:aw}{E:ae->af->Prop}{s:af}
theorem cat_tup{Q:ae->af->Prop}(u:IsTup s.heap t vs.toArray)(v:IsTup s.heap b ws.toArray)(m:vs≠[]) (y:ws=[]->Q (.ref t) s) (x:ws≠[]->Q (.ref s.heap.objs.size) { s with heap:=s.heap.push { cls:=.type "tuple",data:=.seq (vs++ws).toArray } }) (i:vs.length+ws.length<=Bb):Bf (Bg prog w) A (binaryOp .Add (.ref t) (.ref b)) Q E s:=by
 obtain⟨⟨cls,q,data,k⟩,h,p,n,o⟩:=id u;obtain⟨⟨r,g,j,c⟩,a,f,l,d⟩:=id v;simp only at p o f d;subst p o f d;have e:vs.toArray++ws.toArray=(vs++ws).toArray:=by simp
 by_cases hw:ws=[]
 .exact concat_meets ⟨_,h,Y⟩ ⟨_,a,Y⟩ noFill_tuple_add seq_tuple_add nO m3 (mH _ _) (tuple_addW1 t b vs.toArray ws.toArray n l q g k c (by simpa using m) (by simp[hw])) ⟨h,a,y hw⟩
 .refine concat_meets ⟨_,h,Y⟩ ⟨_,a,Y⟩ noFill_tuple_add seq_tuple_add nO m3 (mH _ _) (tuple_addW2 t b vs.toArray ws.toArray n l q g k c (by simpa using m) (by simpa using hw) (by rw[bG,bG];exact i)) ⟨h,a,?_⟩
  rw[e];exact x hw
def sIx(n d:Nat):Option Int->Nat
 |none=>d
 |some v=>if v<0 then (v+(n:Int)).toNat else min v.toNat n
theorem sIx_none(n d:Nat):sIx n d ak=d:=rfl
theorem sIx_nat(n d k:Nat):sIx n d (U (k:Int))=min k n:=by
 show (if (k:Int)<0 then ((k:Int)+(n:Int)).toNat else min (k:Int).toNat n)=min k n;rw[am (),dP]
theorem sIx_le(n d:Nat)(a:d<=n)(o:Option Int):sIx n d o<=n:=by
 cases o with
 |none=>exact a
 |some v =>
  show (if v<0 then (v+(n:Int)).toNat else min v.toNat n)<=n;by_cases hv:v<0
  .rw[ap hv];lia
  .rw[am hv];exact Nat.min_le_right _ _
theorem zcR(v:Int)(n d:Nat):(if v<0 then max (v+(n:Int)) 0 else min v (n:Int))=((sIx n d (U v):Nat):Int):=by
 show (if v<0 then max (v+(n:Int)) 0 else min v (n:Int))=(((if v<0 then (v+(n:Int)).toNat else min v.toNat n):Nat):Int);by_cases hv:v<0
 .simp only[ap hv];lia
 .simp only[am hv];lia
theorem zbZ(lo a:Option Int)(n:Nat):gO lo a 1 (n:Int)=(((sIx n 0 lo:Nat):Int),((sIx n n a:Nat):Int)):=by
 have b:¬ ((1:Int)<0):=by lia
 unfold gO;simp only[b,if_false];refine oK ?_ ?_
 .cases lo with
  |none=>rfl
  |some v=>exact zcR v n 0
 .cases a with
  |none=>rfl
  |some v=>exact zcR v n n
theorem zb0(i j:Nat):fE (i:Int) (j:Int) 1=j-i:=by
 unfold fE;have a:(1:Int) > 0:=by lia
 simp only[a,if_true,Int.ediv_one];split <;> lia
theorem Vt{o:Option Int}{Q:Option Int->af->Prop}(p:IsPart v o)(h:Q o s):Bf (Bg prog w) A (Builtin.Slice.slicePartIndex v) Q E s:=by
 cases p with
 |none=>exact slicePart_none h
 |int i t=>exact slicePart_int h
theorem XV{a c:Option Int}{Q:Int×Int×Nat->af->Prop}(g:s.heap.IsSliceOf sl vl vu .none)(f:IsPart vl a)(e:IsPart vu c) (h:Q (((sIx n 0 a:Nat):Int),1,sIx n n c-sIx n 0 a) s):Bf (Bg prog w) A (lU (.ref sl) (pure (n:Int))) Q E s:=by
 obtain⟨j,b,i,d⟩:=id g;unfold lU Builtin.Slice.sliceFields;refine ba (ba (de b d (x:=vl) Y (ba (de b d (x:=vu) Y (ba (de b d (x:=.none) Y (bf ?_)))))));refine ba (slicePart_none ?_);show Bf _ _ (if ((1:Int)==0)=ah then _ else _) _ _ s;rw[am ()];refine ba (Vt f (ba (Vt e (ba (bf ?_)))));show Bf _ _ (match gO a c 1 (n:Int) with|(a,c)=>pure (a,(1:Int),fE a c 1)) _ _ s;rw[zbZ a c n];show Bf _ _ (pure (((sIx n 0 a:Nat):Int),(1:Int),fE ((sIx n 0 a:Nat):Int) ((sIx n n c:Nat):Int) 1)) _ _ s;rw[zb0];exact bf h
theorem zeu(a:Array ae)(i k:Nat):((eB k).filterMap λ(m:Nat)=>a[((i:Int)+(m:Int)*1).toNat]?).toArray=((a.toList.drop i).take k).toArray:=by
 have e:(λ(m:Nat)=>a[((i:Int)+(m:Int)*1).toNat]?)=λm=>a[i+m]?:=by
  funext m
  have:((i:Int)+(m:Int)*1).toNat=i+m:=by lia
  rw[this]
 rw[e];have:=pick_run a i k;rw[List.filterMap_map] at this;have b:((λx=>a[x]?) ∘ λx=>i+x)=λm=>a[i+m]?:=rfl;rw[b] at this;rw[this]
theorem getItem_tuple_cut{b c:Option Int}{Q:ae->af->Prop}(d:IsTup s.heap t items)(j:s.heap.IsSliceOf sl vl vu .none)(l:IsPart vl b)(k:IsPart vu c) (o:¬ (sIx items.size 0 b=0/\sIx items.size items.size c=items.size)) (h:Q (.ref s.heap.objs.size) { s with heap:=s.heap.push { cls:=.type "tuple",data:=.seq ((items.toList.drop (sIx items.size 0 b)).take (sIx items.size items.size c-sIx items.size 0 b)).toArray } }) (p:items.size<=Bb):Bf (Bg prog w) A (getItem (.ref t) (.ref sl)) Q E s:=by
 have a:sizeOk (.seq ((items.toList.drop (sIx items.size 0 b)).take (sIx items.size items.size c-sIx items.size 0 b)).toArray):=by
  show ((items.toList.drop (sIx items.size 0 b)).take (sIx items.size items.size c-sIx items.size 0 b)).toArray.size<=Bb;rw[bG,cB,cI,cg];lia
 have x:sIx items.size items.size c<=items.size:=sIx_le _ _ (bp _) c;obtain⟨n,e,g,r⟩:=id j;have i:s.TypeIs (.ref sl) "slice":=⟨n,e,g⟩;unfold getItem
 try with_reducible refine dD ?_
 first|refine ba (bf ?_)|skip
 refine ba (mI d.typeIs () ?_);refine ba (cE (name:=bh "__getitem__") d.typeIs iG
  (cK iG d.typeIs entry_tuple_getitem ?_ (args_tuple_getitem _ _)))
 show Bf _ _ (Builtin.Tuple.tupleItemsOf (.ref t) >>= _) _ _ s;refine ba (tupleItemsOf_ d ?_);refine ba (oh i ?_);rw[ap ()];refine ba (XV j l k ?_);have f:¬ ((((sIx items.size 0 b:Nat):Int)==0&&(1:Int)==1&&(sIx items.size items.size c-sIx items.size 0 b)==items.size)=ah):=by
  intro q;rw[bV,bV] at q;have v:((sIx items.size 0 b:Nat):Int)=0:=eq_of_beq q.1.1;have u:sIx items.size items.size c-sIx items.size 0 b=items.size:=eq_of_beq q.2;exact o ⟨(),()⟩
 show Bf _ _ (if (((sIx items.size 0 b:Nat):Int)==0&&(1:Int)==1&&(sIx items.size items.size c-sIx items.size 0 b)==items.size)=ah then _ else _) _ _ s;rw[am f,zeu]
 first
  |exact ba (m:=fO _) (cw (bf ⟨_,rfl,bf h⟩) a)
  |exact ba (m:=fO _) (cw (ba (bf (bf ⟨_,rfl,bf h⟩))) a)
  |exact ba (ba (m:=fO _) (cw (bf (bf ⟨_,rfl,bf h⟩)) a))
  |exact ba (ba (m:=fO _) (cw (bf ⟨_,rfl,bf h⟩) a))
end
end HT
namespace L2
open PySem PySem.Spec PyProof.Rows
abbrev TO:=St->Hp->(Option Int->Hp->Prop)->Prop
def PO(X:Cx)(e:Option ay)(t:TO):Prop :=
 ∀(b:List (D×Obj)) (s:af) (a:St) (H:Hp) (Q:Option Int->Hp->Prop),aO X b a H s->t a H Q ->
  Bf (Bg X.prog X.w) X.A (evalPart e X.env) (λu d=>∃o c,aO X b a c d/\IsPart u o/\Q o c) X.xe s
def jn:TO:=λ_ H Q=>Q ak H
def vD(t:TE):TO:=λa H Q=>t a H λx b=>∃i,x=.int i/\Q (U i) b
section
variable {X:Cx}{e:ay}{te:TE}{lo hi:Option ay}{tl th:TO}{pos p2:Pos}
theorem kX:PO X ak jn:=by
 intro b s a H Q I h;rw[evalPart_none];exact bf ⟨ak,H,I,.none,h⟩
theorem xo(h:PE X e te):PO X (U e) (vD te):=by
 intro f s a H Q I d;rw[evalPart_some];refine dl (h f s a H _ I d) ?_;rintro u k ⟨x,j,g,b,c⟩;obtain⟨i,rfl,q⟩:=c;obtain⟨t,rfl⟩:=b;exact⟨U i,j,g,.int i t,q⟩
def SlR(X:Cx)(r:V->Option Int->Option Int->Hp->VK->Prop):Prop :=
 ∀(f:List (D×Obj)) (s:af) (a:St) (H:Hp) (x:V) (v c b:ae) (lo hi:Option Int) (d:D) (Q:VK),aO X f a H s->aT x v->s.heap.IsSliceOf d c b .none->IsPart c lo->IsPart b hi->r x lo hi H Q ->
  ∃T id,typeLookup (.type T) "__getitem__"=pure (U (.builtin id))/\s.TypeIs v T/\Bf (Bg X.prog X.w) X.A (getItem v (.ref d)) (EP X f a Q) X.xe s
def tSl(r:V->Option Int->Option Int->Hp->VK->Prop)(te:TE)(tl th:TO):TE:=λa H Q=>te a H λx d=>tl a d λl c=>th a c λu b=>r x l u b Q
theorem xK{r:V->Option Int->Option Int->Hp->VK->Prop}(A:SlR X r)(E:PE X e te)(B:PO X lo tl)(y:PO X hi th):PE X (.Subscript e (.Slice lo hi ak p2) pos) (tSl r te tl th):=by
 intro d s c H Q I h;refine Subscript_ (dl (E d s c H _ I h) ?_);rintro v k ⟨x,H1,O,m,p⟩;refine wpAny_Slice (dl (B d k c H1 _ O p) λg j ⟨l,H2,N,w,o⟩=>dl (y d j c H2 _ N o) ?_);rintro f a ⟨u,i,M,t,n⟩;rw[evalPart_none];refine bf ?_;have J:aO X d c i { a with heap:=a.heap.push { cls:=.type "slice",data:=.fields #[g,f,.none] } }:=M.kept (t':=a.toks) λb ob q=>bc _ q;obtain⟨T,id,G,z,C⟩:=A d { a with heap:=a.heap.push { cls:=.type "slice",data:=.fields #[g,f,.none] } } c i x v g f l u a.heap.objs.size Q J m (Heap.IsSliceOf.new ..) w t n;show Bf (Bg X.prog X.w) X.A (subscriptTail e (.Slice lo hi ak p2) v (.ref a.heap.objs.size)) (EP X d c Q) X.xe { a with heap:=a.heap.push { cls:=.type "slice",data:=.fields #[g,f,.none] } };exact tail_any (ops:=[.ref a.heap.objs.size,v]) z G C (by with_unfolding_all rfl)
def vY(a:List V)(lo hi:Option Int):List V:=(a.drop (HT.sIx a.length 0 lo)).take (HT.sIx a.length a.length hi-HT.sIx a.length 0 lo)
theorem Wo(a:List V)(lo hi:Option Int):(vY a lo hi).length<=a.length:=by
 unfold vY;rw[cB,cI];lia
def zi0(K:bw):V->Option Int->Option Int->Hp->VK->Prop:=λx lo hi H Q=>∃a b,x=.ref a/\sW K H a b /\
 ¬ (HT.sIx b.length 0 lo=0/\HT.sIx b.length b.length hi=b.length)/\∀p,H p=ak->Q (.ref p) (upd H p (.tup (vY b lo hi)))
theorem zia:SlR X (zi0 X.K):=by
 intro A s t H x v w u lo hi y Q I j p l k h;obtain⟨a,d,rfl,m,n,q⟩:=h;cases j;obtain⟨f,r,i,g⟩:=I.tuple m;have c:f.toArray.size=d.length:=by rw[bG];exact r.length.symm
 refine⟨"tuple",_,PyProof.Rows.slot_tuple_getitem.lookup,i.typeIs,?_⟩;refine HT.getItem_tuple_cut i p l k (by rw[c];exact n) ?_ (by rw[c];exact g);rw[c];refine⟨.ref s.heap.objs.size,_,I.laid (t':=s.toks) (o:=.tup (vY d lo hi)) (λb z q=>bc _ q) (bp _) ?_,Y,q _ (I.hok.fresh (bp _))⟩;exact⟨bO (Wo d lo hi) g,_,(r.drop (HT.sIx d.length 0 lo)).take (HT.sIx d.length d.length hi-HT.sIx d.length 0 lo),sO _ _⟩
def zev(K:bw):R2:=λx y H Q=>∃a b d c,x=.ref a/\y=.ref b/\sW K H a d/\sW K H b c/\d≠[]/\d.length+c.length<=Bb /\
 (c=[]->Q (.ref a) H)/\(c≠[]->∀p,H p=ak->Q (.ref p) (upd H p (.tup (d++c))))
theorem aR.nil_iff(r:aR xs us):us=[]↔xs=[]:=by
 cases r with
 |nil=>simp
 |cons _ _=>simp
theorem zcS:tV X (binaryOp .Add) (zev X.K):=by
 intro G s C H x y v u Q I l k h;obtain⟨a,b,j,i,rfl,rfl,B,A,t,g,n,m⟩:=h;cases l;cases k;obtain⟨r,d,p,_⟩:=I.tuple B;obtain⟨f,c,p2,_⟩:=I.tuple A;refine HT.cat_tup p p2 (λz=>t (d.nil_iff.mp z)) (λz=>⟨.ref a,H,I,Y,n (c.nil_iff.mp z)⟩) (λz=>?_) (by rw[<-d.length,<-c.length];exact g);refine⟨.ref s.heap.objs.size,_,I.laid (t':=s.toks) (o:=.tup (j++i)) (λb E q=>bc _ q) (bp _) ?_,Y,m (λw=>z (c.nil_iff.mpr w)) _ (I.hok.fresh (bp _))⟩;exact⟨by rw[bC];exact g,_,d.append c,sO _ _⟩
end
def ixN(n:Nat)(i:Int):Option Nat:=if 0<=i then (if i<n then U i.toNat else ak) else if -(n:Int)<=i then U (i+n).toNat else ak
def ub{α:Type}(a:List α)(i:Int):Option α:=(ixN a.length i).bind λj=>a[j]?
theorem zgw{i:Int}(h:ixN n i=U j):seqIndex? i n=U j/\j<n/\-(n:Int)<=i/\i<n:=by
 unfold ixN at h;by_cases h0:0<=i
 .rw[ap h0] at h;by_cases h1:i<n
  .rw[ap h1] at h;have e:i.toNat=j:=bI h;exact⟨by rw[seqIndex_of h0 h1,e],(),(),h1⟩
  .rw[am h1] at h;cases h
 .rw[am h0] at h;by_cases h1:-(n:Int)<=i
  .rw[ap h1] at h;have e:(i+n).toNat=j:=bI h;exact⟨by rw[rH () h1,e],(),h1,()⟩
  .rw[am h1] at h;cases h
theorem Qt{b:Type}{a:List b}{i:Int}{v:b}(h:ub a i=U v):∃j,seqIndex? i a.length=U j/\a[j]?=U v/\j<a.length/\-(a.length:Int)<=i/\i<a.length:=by
 unfold ub at h;cases e:ixN a.length i with
 |none=>rw[e] at h;cases h
 |some j =>
  rw[e] at h;obtain⟨g,f,d,c⟩:=zgw e;exact⟨j,g,h,f,d,c⟩
theorem yn{b:Type}{a:List b}{j:Nat}{v:b}(h:a[j]?=U v):ub a (j:Int)=U v:=by
 have c:j<a.length:=(bn.mp h).1;have e:ixN a.length (j:Int)=U j:=by
  unfold ixN;rw[ap (),ap ()];simp
 unfold ub;rw[e];exact h
theorem atI_last{b:Type}(a:List b)(v:b):ub (a++[v]) (-1)=U v:=by
 have c:(a++[v]).length=a.length+1:=by simp
 have e:ixN (a++[v]).length (-1)=U a.length:=by
  unfold ixN;rw[c,am (),ap ()];congr 1;lia
 unfold ub;rw[e];show (a++[v])[a.length]?=U v;simp
def zcT(b:ay):Prop:=∀o i,subscripted b ao o i=operate [o,i] (getItem o i)
def IxR(X:Cx)(r:R2):Prop :=
 ∀(b a:ay) (d:List (D×Obj)) (s:af) (c:St) (H:Hp) (x y:V) (v u:ae) (Q:VK),aO X d c H s->aT x v->aT y u->r x y H Q ->
  subscripted a ao v u=operate [v,u] (getItem v u)->Bf (Bg X.prog X.w) X.A (subscriptTail b a v u) (EP X d c Q) X.xe s
def MtR(X:Cx)(id:String)(r:V->List V->Hp->VK->Prop):Prop :=
 ∀(d:List (D×Obj)) (s:af) (a:St) (H:Hp) (x:V) (b:List V) (v:ae) (c:List ae) (Q:VK),aO X d a H s->aT x v->aR b c->r x b H Q ->
  Bf (Bg X.prog X.w) X.A (call (.builtin id) (v::c)) (EP X d a Q) X.xe s
section
variable {X:Cx}{a b:ay}{ta tb:TE}{pos:Pos}
theorem zi1{r:R2}(i:IxR X r)(k:PE X a ta)(j:PE X b tb)(g:zcT b):PE X (.Subscript a b pos) (aK r ta tb):=by
 intro l s c H Q I h;exact Subscript_ (zh5 k j I h λv u d x y n m f e q=>i a b l d c n x y v u Q m f e q (g _ _))
def yD(K:bw):R2:=λx y H Q=>∃p c i v,x=.ref p/\y=.int i/\aQ K H p c/\ub c i=U v/\Q v H
def yI(K:bw):R2:=λx y H Q=>∃p c i v,x=.ref p/\y=.int i/\sW K H p c/\ub c i=U v/\Q v H
def zew:R2:=λx y H Q=>∃z i c,x=.str z/\y=.int i/\z.length<=Bb/\ub z.cps.toList i=U c/\Q (.str ⟨#[c]⟩) H
theorem zI:IxR X (yD X.K):=by
 intro d e A s m H x y v u Q I E C h n;obtain⟨p,xs,i,z,rfl,rfl,G,M,q⟩:=h;cases E;obtain⟨t,rfl⟩:=C;obtain⟨k,r,g,hz⟩:=I.list G;obtain⟨j,c,T,h3,O,N⟩:=Qt M;obtain⟨w,o,f⟩:=r.get T;have J:=r.length;have hn:=Qp;have fin:EP X A m Q w s:=⟨z,H,I,f,q⟩;by_cases h0:0<=i
 .have l:i.toNat=j:=by
   rw[seqIndex_of h0 N] at c;exact bI c
  exact item_listR g.isList h0 () (by rw[l];simpa using o) fin n
 .have l:(i+(k.toArray.size:Int)).toNat=j:=by
   rw[rH () O] at c;rw[bG,<-J];exact bI c
  exact nP (x:=w) g.isList.typeIs slot_list_getitem.lookup
   (wpAny_getItem_list_neg (Q:=λr B=>r=w/\EP X A m Q r B) g.isList () (by rw[bG] <;> lia) () (by rw[l];simpa using o) ⟨Y,fin⟩) n
theorem zQ:IxR X (yI X.K):=by
 intro c d k s f H x y v u Q I n m h A;obtain⟨p,N,i,z,rfl,rfl,B,E,q⟩:=h;cases n;obtain⟨t,rfl⟩:=m;obtain⟨o,r,g,O⟩:=I.tuple B;obtain⟨j,J,G,h3,h4,h5⟩:=Qt E;obtain⟨w,M,e⟩:=r.get G;have C:=r.length;have T:=Qp;have fin:EP X k f Q w s:=⟨z,H,I,e,q⟩;exact nP (x:=w) g.typeIs slot_tuple_getitem.lookup
  (getItem_tuple (j:=j) (Q:=λr l=>r=w/\EP X k f Q r l) g () () (by rw[bG,<-C];exact J) (by simpa using M) ⟨Y,fin⟩) A
theorem zb1:IxR X zew:=by
 intro d e M s B H x y v u Q I k g h l;obtain⟨z,i,c,rfl,rfl,E,n,q⟩:=h;obtain⟨t,rfl⟩:=k;obtain⟨C,rfl⟩:=g;obtain⟨j,f,r,J,p,o⟩:=Qt n;have m:z.cps.toList.length=z.length:=by simp[iH]
 rw[m] at f p o;have G:=Qp;exact tail_any (oM s z t) slot_str_getitem.lookup (getItem_str (c:=c) (by
  have A:decide (i < -(2^63:Int))=ao:=Bk ();have w:decide (i >= 2^63)=ao:=Bk ();rw[A,w,Bool.or_false]) (by rw[f];simpa using r) ⟨.str ⟨#[c]⟩,H,I.tok _,⟨_,Y⟩,q⟩) l
theorem Qu(lo c:Option Int)(n:Nat):(sliceBounds lo c ak n).1=((HT.sIx n 0 lo:Nat):Int)/\(sliceBounds lo c ak n).2.1=((HT.sIx n n c:Nat):Int)/\(sliceBounds lo c ak n).2.2=1:=by
 refine⟨?_,?_,Y⟩
 .cases lo with
  |none=>simp[sliceBounds,HT.sIx]
  |some i =>
   simp only[sliceBounds,HT.sIx,rR,show (1:Int) > 0 by lia,if_true];by_cases h:i<0
   .simp only[h,if_true] <;> lia
   .simp only[h,if_false] <;> lia
 .cases c with
  |none=>simp[sliceBounds,HT.sIx]
  |some i =>
   simp only[sliceBounds,HT.sIx,rR,show (1:Int) > 0 by lia,if_true];by_cases h:i<0
   .simp only[h,if_true] <;> lia
   .simp only[h,if_false] <;> lia
theorem JN(c:List ae)(lo d:Option Int):slicePick c.toArray lo d ak=((c.drop (HT.sIx c.length 0 lo)).take (HT.sIx c.length c.length d-HT.sIx c.length 0 lo)).toArray:=by
 obtain⟨g,f,e⟩:=Qu lo d c.toArray.size;unfold slicePick;rw[g,f,e];simp only[sliceRange_one,pick_run,bG] <;> rfl
def Qv(K:bw):V->Option Int->Option Int->Hp->VK->Prop:=λx d e H Q=>∃a c,x=.ref a/\aQ K H a c/\∀p,H p=ak->Q (.ref p) (upd H p (.lst (vY c d e)))
theorem jo:SlR X (Qv X.K):=by
 intro A s t H x v w u e f y Q I i p k j h;obtain⟨a,c,rfl,n,q⟩:=h;cases i;obtain⟨l,r,g,m⟩:=I.list n;have d:=r.length;refine⟨"list",_,slot_list_getitem.lookup,g.isList.typeIs,?_⟩;refine wpAny_getItem_list_slice g.isList p k j .none (by simp) ?_ (by rw[bG] <;> lia);rw[JN,<-d];refine⟨.ref s.heap.objs.size,_,I.laid (t':=s.toks) (o:=.lst (vY c e f)) (λb z q=>bc _ q) (bp _) ?_,Y,q _ (I.hok.fresh (bp _))⟩;exact⟨bO (Wo c e f) m,_,0,(r.drop (HT.sIx c.length 0 e)).take (HT.sIx c.length c.length f-HT.sIx c.length 0 e),bF _ Y⟩
def YY:V->Bool
 |.non=>ah
 |.bl _=>ah
 |.int _=>ah
 |.str _=>ah
 |_=>ao
def eqV:V->V->Bool
 |.non,.non=>ah
 |.bl a,.bl b=>a==b
 |.bl a,.int b=>(if a then 1 else 0)==b
 |.int a,.bl b=>a==(if b then 1 else 0)
 |.int a,.int b=>a==b
 |.str a,.str b=>a==b
 |_,_=>ao
theorem zib(e:aT y u)(c:aT x v)(g:YY y=ah)(f:YY x=ah):SeqAt.EqAt A s u v (eqV y x):=by
 cases y with
 |non =>
  cases e;cases x with
  |non=>cases c;exact SeqAt.EqAt.same _
  |bl b=>cases c;exact SeqAt.EqAt.none_bool b
  |int b=>obtain⟨t,rfl⟩:=c;exact SeqAt.EqAt.none_int b t
  |str b=>obtain⟨t,rfl⟩:=c;exact SeqAt.EqAt.none_str b t
  |_=>exact absurd (show ao=ah from f) bM
 |bl a =>
  cases e;cases x with
  |non=>cases c;exact SeqAt.EqAt.bool_none a
  |bl b=>cases c;exact SeqAt.EqAt.bool_bool a b
  |int b=>obtain⟨t,rfl⟩:=c;exact SeqAt.EqAt.bool_int a b t
  |str b=>obtain⟨t,rfl⟩:=c;exact SeqAt.EqAt.bool_str a b t
  |_=>exact absurd (show ao=ah from f) bM
 |int a =>
  obtain⟨d,rfl⟩:=e;cases x with
  |non=>cases c;exact SeqAt.EqAt.int_none a d
  |bl b=>cases c;exact SeqAt.EqAt.int_bool a d b
  |int b=>obtain⟨t,rfl⟩:=c;exact ma a d b t
  |str b=>obtain⟨t,rfl⟩:=c;exact pI a d b t
  |_=>exact absurd (show ao=ah from f) bM
 |str a =>
  obtain⟨d,rfl⟩:=e;cases x with
  |non=>cases c;exact SeqAt.EqAt.str_none a d
  |bl b=>cases c;exact SeqAt.EqAt.str_bool a d b
  |int b=>obtain⟨t,rfl⟩:=c;exact pJ a d b t
  |str b=>obtain⟨t,rfl⟩:=c;exact mf a d b t
  |_=>exact absurd (show ao=ah from f) bM
 |_=>exact absurd (show ao=ah from g) bM
def eqU(x:V)(u:ae):Bool:=match u with
 |.none=>eqV .non x
 |.bool b=>eqV (.bl b) x
 |.int i _=>eqV (.int i) x
 |.str z _=>eqV (.str z) x
 |_=>ao
theorem zex(r:aT y u)(f:YY y=ah):eqU x u=eqV y x:=by
 cases y with
 |non=>cases r;rfl
 |bl b=>cases r;rfl
 |int i=>obtain⟨t,rfl⟩:=r;rfl
 |str z=>obtain⟨t,rfl⟩:=r;rfl
 |_=>exact absurd (show ao=ah from f) bM
theorem Qw{x:V}:∀ {c:List V} {d:List ae},aR c d->c.all YY=ah->d.any (eqU x)=c.any λy=>eqV y x
 |_,_,.nil,_=>rfl
 |y::c,u::d,.cons r t,f=>by
  rw[gD,bV] at f;rw[lj,lj,zex r f.1,Qw t f.2]
theorem Vu{A:aw}{s:af}{x:V}{v:ae}(e:aT x v)(g:YY x=ah):∀ {c:List V} {d:List ae},aR c d->c.all YY=ah->∀u∈d,SeqAt.EqAt A s u v (eqU x u)
 |_,_,.nil,_=>λu hu=>by cases hu
 |y::c,u::d,.cons r t,f=>λh hu=>by
  rw[gD,bV] at f;rcases bE.mp hu with rfl|hu
  .rw[zex r f.1];exact zib r e f.1 g
  .exact Vu e g t f.2 h hu
def inV(x:V)(c:List V):Bool:=c.any λy=>eqV y x
def rIn(K:bw)(d:Bool):R2:=λx y H Q=>∃p c,y=.ref p/\(aQ K H p c\/sW K H p c)/\YY x=ah/\c.all YY=ah/\Q (.bl (if d then !inV x c else inV x c)) H
theorem XW:tV X (Bi .In) (rIn X.K ao):=by
 intro n s l H x y v u Q I g j h;obtain⟨p,m,rfl,hq,i,d,q⟩:=h;cases j;rcases hq with hq|hq
 .obtain⟨c,r,e,k⟩:=I.list hq;refine SeqAt.in_listAt (eqU x) e.isList (λw f=>Vu g i r d w (by simpa using f)) ⟨.bl _,H,I,Y,?_⟩;rw[show c.toArray.any (eqU x)=c.any (eqU x) by simp,Qw r d];exact q
 .obtain⟨c,r,e,k⟩:=I.tuple hq;refine SeqAt.in_tupleAt (eqU x) e (λw f=>Vu g i r d w (by simpa using f)) ⟨.bl _,H,I,Y,?_⟩;rw[show c.toArray.any (eqU x)=c.any (eqU x) by simp,Qw r d];exact q
theorem vK:jZ X (.type "list") (λy H Q=>∃p f,y=[.ref p]/\(aQ X.K H p f\/sW X.K H p f)/\∀l,H l=ak->Q (.ref l) (upd H l (.lst f))):=by
 intro C s A H y E Q I r h;obtain⟨p,f,rfl,hq,q⟩:=h;obtain⟨u,rfl,B⟩:=jm r;cases B;have fin:∀(c:List ae),aR f c->f.length<=Bb->∀(d:av) (i:Nat),(∀b z,s.heap.get? b=U z->d.get? b=U z) ->
   d.get? s.heap.objs.size=U { cls:=.type "list",dict:=ak,data:=.seq c.toArray i,slots:=#[] }->EP X C A Q (.ref s.heap.objs.size) { s with heap:=d }:=λc g k d i j e =>
  ⟨.ref s.heap.objs.size,_,I.laid (t':=s.toks) j (bp _) (show aW X.prog X.w _ d _ (.lst f) from ⟨k,c,i,g,e⟩),Y,q _ (I.hok.fresh (bp _))⟩
 rcases hq with hq|hq
 .obtain⟨c,g,t,k⟩:=I.list hq;have m:=g.length;obtain⟨o,v,x,n,w⟩:=t.isList;exact call_list_seq p (.inl Y) v x w (λd i j e=>fin c g k d i j e) (by simp only[bG] <;> lia)
 .obtain⟨c,g,t,k⟩:=I.tuple hq;have m:=g.length;obtain⟨o,v,x,n,w⟩:=t;exact call_list_seq p (.inr Y) v x w (λd i j e=>fin c g k d i j e) (by simp only[bG] <;> lia)
theorem JO:jZ X (.type "tuple") (λk H Q=>∃p d,k=[.ref p]/\((aQ X.K H p d/\∀l,H l=ak->Q (.ref l) (upd H l (.tup d)))\/(sW X.K H p d/\Q (.ref p) H))):=by
 intro t s j H k z Q I r h;obtain⟨p,d,rfl,h⟩:=h;obtain⟨u,rfl,w⟩:=jm r;cases w;rcases h with ⟨hq,q⟩|⟨hq,q⟩
 .obtain⟨c,g,i,m⟩:=I.list hq;have n:=g.length;refine call_tuple_list i.isList (λf x=>?_) (by simp only[bG] <;> lia);have v:aO X t j H { s with heap:=f }:=I.kept (t':=s.toks) x;have y:aO X t j (upd H f.objs.size (.tup d)) { s with heap:=f.push { cls:=.type "tuple",data:=.seq c.toArray } } :=
   v.laid (t':=s.toks) (λb o e=>bc _ e) (bp _) (show aW X.prog X.w _ _ _ (.tup d) from ⟨m,c,g,sO _ _⟩)
  exact⟨.ref f.objs.size,_,y,Y,q _ (v.hok.fresh (bp _))⟩
 .obtain⟨c,g,i,m⟩:=I.tuple hq;exact call_tuple_same i ⟨.ref p,H,I,Y,q⟩
def tyV(K:bw)(T:String)(x:V)(H:Hp):Prop:=match x with
 |.str _=>T="str"
 |.int _=>T="int"
 |.ref p=>(T="list"/\∃d,aQ K H p d)\/(T="tuple"/\∃o,K.lookup p=U o/\o.cls=.type "tuple"/\o.dict=ak) \/
   (T="dict"/\((∃c,H p=U (.dK c))\/∃c,H p=U (.dT c)))\/(T="set"/\∃S n,H p=U (.set S n))
 |_=>False
theorem zey{l:St}{H:Hp}{s:af}{T:String}{x:V}{v:ae}(I:aO X aa l H s)(r:aT x v)(f:tyV X.K T x H) :
  s.TypeIs v T/\∀a,v=.ref a->∃k,s.heap.get? a=U k/\k.dict=ak:=by
 cases x with
 |str z =>
  obtain⟨t,rfl⟩:=r;cases (show T="str" from f);exact⟨oM s z t,λ_ e=>nomatch e⟩
 |int i =>
  obtain⟨t,rfl⟩:=r;cases (show T="int" from f);exact⟨typeIs_int s i t,λ_ e=>nomatch e⟩
 |ref p =>
  cases r;rcases f with ⟨rfl,xs,hq⟩|⟨rfl,o,hk,hc,g⟩|⟨rfl,hk⟩|⟨rfl,S,n,hk⟩
  .obtain⟨m,_,j,_⟩:=I.list hq;refine⟨j.isList.typeIs,λa e=>?_⟩;cases e;obtain⟨o,n,e,c,g,_⟩:=j;exact⟨o,e,g⟩
  .refine⟨⟨o,I.kIn p o hk,hc⟩,λa e=>?_⟩;cases e;exact⟨o,I.kIn _ o hk,g⟩
  .have z:∃o,s.heap.get? p=U o/\o.ExactDict:=by
    rcases hk with ⟨aI,hk⟩|⟨aI,hk⟩
    .obtain⟨_,_,_,_,o,_,_,e,d,_⟩:=I.hok p _ hk;exact⟨o,e,d⟩
    .obtain⟨_,_,_,_,o,_,_,e,d,_⟩:=I.hok p _ hk;exact⟨o,e,d⟩
   obtain⟨o,e,d⟩:=z;refine⟨⟨o,e,d.1⟩,λa h=>?_⟩;cases h;exact⟨o,e,d.2.1⟩
  .obtain⟨o,_,_,_,e,d,_⟩:=I.hok p _ hk;refine⟨⟨o,e,d.1⟩,λa h=>?_⟩;cases h;exact⟨o,e,d.2.1⟩
 |_=>exact c8 f
def zgx(K:bw)(T:String)(r:V->List V->Hp->VK->Prop)(e:TE):TE:=λd H Q=>e d H λx c=>tyV K T x c/\r x [] c Q
def tBM(K:bw)(T:String)(r:V->List V->Hp->VK->Prop)(f:TE)(t:TA):TE:=λc H Q=>f c H λx d=>tyV K T x d/\t c d λe g=>r x e g Q
variable {o e:ay}{es:List ay}{to:TE}{t:TA}{name:Str}{sR sZ:Pos}{T id:String}{r:V->List V->Hp->VK->Prop}
theorem zb2(q:PlainAttrs T)(f:Slot T name id)(g:typeOf (.builtin id)=pure (.type "method_descriptor"))(w:MtR X id r)(u:PE X o to) (d:attributeBase o name X.env (eval o X.env)=eval o X.env:=by rfl) (c:(sR.endLine==sZ.line)=ah:=by rfl):PE X (.Call (.Attribute o name sR) [] [] sZ) (zgx X.K T r to):=by
 intro k s i H Q I h;refine m4 d c (dl (u k s i H _ I h) ?_);rintro v n ⟨x,A,l,j,m,p⟩;obtain⟨z,y⟩:=zey l j m;exact⟨T,id,q,f,g,z,y,dh Y (pq (w k n i A x [] v [] Q l j .nil p))⟩
theorem xW(E:PlainAttrs T)(g:Slot T name id)(k:typeOf (.builtin id)=pure (.type "method_descriptor"))(M:MtR X id r)(J:PE X o to)(N:PA X (e::es) t) (f:attributeBase o name X.env (eval o X.env)=eval o X.env:=by rfl) (i:((backTo sZ (Be (e::es) X.env)).all (λx=>!x.1)&&(backToKw sZ (keywordEach [] X.env)).all (λx=>x.1.isSome)
   && decide ((e::es).length+([]:List Keyword).length+(if ([]:List Keyword).isEmpty then 0 else 1)<30))=ah:=by rfl) (d:(sR.endLine==sZ.line)=ah:=by rfl) (G:Be (e::es) X.env=(ao,eval e X.env)::Be es X.env:=by rfl) (c:(backTo sZ (Be es X.env)).any (·.1)=ao:=by rfl) :
  PE X (.Call (.Attribute o name sR) (e::es) [] sZ) (tBM X.K T r to t):=by
 intro l s j H Q I h;refine wpAny_Call_method_late f i d Y (dl (J l s j H _ I h) ?_);rintro v z ⟨x,H1,p,m,w,C⟩;obtain⟨h1,O⟩:=zey p m w;refine⟨T,id,E,g,k,h1,O,?_⟩;have n:=N sZ l z j H1 _ p C;rw[G] at n ⊢;refine dh (by show (ao || (backTo sZ (Be es X.env)).any (·.1))=ao;rw[c] <;> rfl) (dX ?_);exact dl n λu y ⟨q,H2,I2,A,B⟩=>M l y j H2 x q v u Q I2 m A B
end
def MtM(X:Cx)(id:String)(r:V->List V->Hp->VK->Prop):Prop :=
 ∀(d:List (D×Obj)) (s:af) (a:St) (H:Hp) (x:V) (b:List V) (v:ae) (c:List ae) (Q:VK),aO X d a H s->aT x v->aR b c->r x b H Q ->
  Bf (Bg X.prog X.w) X.A (call (.builtin id) (v::c)) (EP X d a Q) X.xe s
theorem aR.one:∀ {x:V} {a:List ae},aR [x] a->∃u,a=[u]/\aT x u
 |_,_,.cons r .nil=>⟨_,Y,r⟩
theorem aR.zero:∀ {a:List ae},aR [] a->a=[]
 |_,.nil=>rfl
theorem aR.dropLast(h:aR xs us):aR xs.dropLast us.dropLast:=by
 induction h with
 |nil=>exact .nil
 |cons r t ih =>
  cases t with
  |nil=>exact .nil
  |cons q t'=>exact .cons r ih
theorem aR.eraseIdx:∀ {a:List V} {b:List ae} (i:Nat),aR a b->aR (a.eraseIdx i) (b.eraseIdx i)
 |_,_,_,.nil=>.nil
 |_,_,0,.cons _ t=>t
 |_,_,i+1,.cons r t=>.cons r (aR.eraseIdx i t)
theorem zb3{c:Type}(l:List c):l.eraseIdx (l.length-1)=l.dropLast:=by
 induction l with
 |nil=>rfl
 |cons a r ih =>
  cases r with
  |nil=>rfl
  |cons b r =>
   have e:(a::b::r).length-1=((b::r).length-1)+1:=by
    have f:(a::b::r).length=r.length+2:=rfl;have d:(b::r).length=r.length+1:=rfl;lia
   rw[e,ie,ih]
   all_goals rfl
theorem KB{a:Type}:∀(l:List a) (i:Nat),(l.eraseIdx i).length<=l.length
 |[],_=>bp _
 |_::_,0=>sq _
 |_::r,i+1=>eP (KB r i)
section
variable {X:Cx}{aa:List (D×Obj)}{σ:St}{H:Hp}{s:af}{l b:D}{xs ys zs:List V}
theorem aO.lset{its its':List ae}{n:Nat}{f:Array ae->Array ae}(I:aO X aa σ H s)(k:H l=U (.lst xs)) (e:s.heap.get? l=U { cls:=.type "list",data:=.seq its.toArray n }) (h:f its.toArray=its'.toArray) (d:aR ys its') (a:ys.length<=Bb) :
  aO X aa σ (upd H l (.lst ys)) { s with heap:=s.heap.update l (dt f),toks:=t' }:=by
 have q:=PySem.IsL.update e f;rw[h] at q;refine I.write (x:=l) (e:=l) (by rw[k];exact trivial) (.inl Y) (λo u j g=>(eA s.heap (dt f) (ef j)).trans g) ⟨_,q⟩ ?_;exact⟨a,its',_,d,q⟩
theorem aO.lnew(I:aO X aa σ H s)(d:aR ys its)(a:ys.length<=Bb) :
  aO X aa σ (upd H s.heap.objs.size (.lst ys)) { s with heap:=s.heap.push { cls:=.type "list",data:=.seq its.toArray },toks:=t' }:=
 I.laid (λ_ _ q=>bc _ q) (bp _) ⟨a,its,0,d,bF _ Y⟩
theorem aO.fresh(I:aO X aa σ H s):H s.heap.objs.size=ak:=I.hok.fresh (bp _)
theorem aO.lstM(I:aO X aa σ H s)(d:H l=U (.lst xs)):xs.length<=Bb/\∃(a:List ae) (n:Nat),aR xs a/\xs.length=a.length/\s.heap.get? l=U { cls:=.type "list",data:=.seq a.toArray n }:=by
 obtain⟨z,a,n,r,e⟩:=I.hok l _ d;exact⟨z,a,n,r,r.length,e⟩
theorem zez(h:n<=Bb):gY n=ao:=by
 unfold gY;exact Bk ()
end
section
variable {X:Cx}
def zcU:V->List V->Hp->VK->Prop:=λx b H Q=>∃l a y,x=.ref l/\b=[y]/\H l=U (.lst a)/\a.length<Bb/\Q .non (upd H l (.lst (a++[y])))
theorem yF:MtM X "list.append" zcU:=by
 intro p s g H x j v k Q I c d h;obtain⟨l,i,y,rfl,rfl,b,m,q⟩:=h;cases c;obtain⟨u,rfl,f⟩:=d.one;obtain⟨z,a,n,r,o,e⟩:=I.lstM b;refine iI F.slot_list_append ⟨_,e,Y⟩ F.entry_list_append (F.args_list_append_2 _ _) (PySem.list_append l a.toArray n u (by rw[bG];lia)) ⟨e,?_⟩;refine⟨.non,_,I.lset (its':=a++[u]) b e (by simp) (r.append (.cons f .nil)) ?_,Y,q⟩;rw[bC,cU];lia
def zcV:V->List V->Hp->VK->Prop:=λx d H Q=>∃l b c a,x=.ref l/\d=[.ref b]/\H l=U (.lst c)/\H b=U (.lst a)/\c.length+a.length<=Bb/\Q .non (upd H l (.lst (c++a)))
theorem zdM:MtM X "list.extend" zcV:=by
 intro N s y H x E v G Q I i j h;obtain⟨l,b,C,A,rfl,rfl,g,t,J,q⟩:=h;cases i;obtain⟨u,rfl,k⟩:=j.one;cases k;obtain⟨z,c,n,r,M,e⟩:=I.lstM g;obtain⟨B,a,o,m,p,w⟩:=I.lstM t;have f:c.toArray.size+a.toArray.size<=Bb:=by rw[bG,bG];lia
 have d:¬ (!c.toArray.isEmpty&&gY (c.toArray.size+a.toArray.size))=ah:=by
  rw[zez f,Bool.and_false];exact bM
 refine iI F.slot_list_extend ⟨_,e,Y⟩ F.entry_list_extend (F.args_list_extend_2 _ _) (AutoSeq1.list_extend_list_list_0 l c.toArray n b a.toArray o d (by rw[bG];lia) ()) ⟨e,w,?_⟩
 refine⟨.non,_,I.lset (its':=c++a) g e (by simp) (r.append m) ?_,Y,q⟩;rw[bC];lia
def zi2:V->List V->Hp->VK->Prop:=λx b H Q=>∃l a y,x=.ref l/\b=[]/\H l=U (.lst a)/\a[a.length-1]?=U y/\Q y (upd H l (.lst a.dropLast))
theorem zb4:MtM X "list.pop" zi2:=by
 intro A s o H x t v w Q I f g h;obtain⟨l,p,y,rfl,rfl,d,j,q⟩:=h;cases f;have c:=g.zero;subst c;obtain⟨z,a,n,r,m,e⟩:=I.lstM d;obtain⟨u,k,i⟩:=r.get j;have b:a.toArray[a.toArray.size-1]?=U u:=by
  show a.toArray[a.length-1]?=U u;rw[<-du,<-m];exact k
 refine iI F.slot_list_pop ⟨_,e,Y⟩ F.entry_list_pop (F.args_list_pop_1 _) (MeetsSeq.list_pop_last l a.toArray n u b (by rw[bG];lia)) ⟨e,?_⟩;refine⟨y,_,I.lset (its':=a.dropLast) d e ?_ r.dropLast ?_,i,q⟩
 .show a.toArray.eraseIdxIfInBounds (a.toArray.size-1)=a.dropLast.toArray;rw[bG,iJ,zb3]
 .rw[List.length_dropLast];lia
def zaD:R2:=λx y H Q=>∃l b c a,x=.ref l/\y=.ref b/\H l=U (.lst c)/\H b=U (.lst a)/\c.length+a.length<=Bb/\∀p,H p=ak->Q (.ref p) (upd H p (.lst (c++a)))
theorem YB:tV X (binaryOp .Add) zaD:=by
 intro G s p H x y v u Q I f d h;obtain⟨l,b,A,t,rfl,rfl,j,k,C,q⟩:=h;cases f;cases d;obtain⟨z,c,n,r,E,e⟩:=I.lstM j;obtain⟨w,a,B,g,i,o⟩:=I.lstM k;refine PySem.P.add_list e o ?_ (by rw[bG,bG];lia);have m:c.toArray++a.toArray=(c++a).toArray:=by simp
 rw[m];exact⟨.ref _,_,I.lnew (t':=s.toks) (r.append g) (by rw[bC];lia),Y,q _ I.fresh⟩
end
section
variable {prog:aq}{w:au}{A:aw}{E:ae->af->Prop}{s:af}
set_option maxRecDepth 100000 in
end
section
variable {κ:Type} [DecidableEq κ]
def yf(b:List (κ×V))(k:κ):Option V:=(b.find? λa=>decide (a.1=k)).map (·.2)
def yJ(b:List (κ×V))(k:κ)(v:V):List (κ×V) :=
 if (b.any λa=>decide (a.1=k))=ah then b.map (λa=>if a.1=k then (a.1,v) else a) else b++[(k,v)]
def yz(b:List (κ×V))(k:κ):List (κ×V):=b.filter λa=>decide (a.1≠k)
theorem zaE :yf ([]:List (κ×V)) k=ak:=rfl
theorem yR{p:κ×V}{r:List (κ×V)}(e:p.1=k):yf (p::r) k=U p.2:=by simp[yf,gm,e]
theorem yS{p:κ×V}{r:List (κ×V)}(e:¬ p.1=k):yf (p::r) k=yf r k:=by simp[yf,gm,e]
theorem vc(k:κ):∀a:List (κ×V),(a.any λb=>decide (b.1=k))=(yf a k).isSome
 |[]=>rfl
 |p::r=>by
  rw[lj];by_cases e:p.1=k
  .simp only[yR e,Bj e,Bool.true_or,Option.isSome_some]
  .rw[yS e,Bk e,Bool.false_or];exact vc k r
theorem zaF(k j:κ)(y:V):∀c:List (κ×V),yf (c.map λa=>if a.1=k then (a.1,y) else a) j=(yf c j).map λx=>if j=k then y else x
 |[]=>rfl
 |p::r=>by
  have b:=zaF k j y r;rw[bx];by_cases h:p.1=k
  .rw[ap h];by_cases e:p.1=j
   .rw[yR (p:=(p.1,y)) e,yR e,ig,ap (e.symm.trans h)]
   .rw[yS (p:=(p.1,y)) e,yS e,b]
  .rw[am h];by_cases e:p.1=j
   .rw[yR (p:=p) e,yR e,ig,am (λz=>h (e.trans z))]
   .rw[yS (p:=p) e,yS e,b]
theorem KC(k j:κ)(y:V):∀a:List (κ×V),yf a k=ak->yf (a++[(k,y)]) j=if j=k then U y else yf a j
 |[],_=>by
  by_cases e:k=j
  .rw[ap e.symm];exact yR (p:=(k,y)) e
  .rw[am (λz=>e z.symm)];exact yS (p:=(k,y)) e
 |p::r,hn=>by
  rw[dY];have b:¬ p.1=k:=λz=>by rw[yR z] at hn;cases hn
  rw[yS b] at hn;have c:=KC k j y r hn;by_cases e:p.1=j
  .rw[yR e,yR e,am (λz=>b (e.trans z))]
  .rw[yS e,yS e,c]
theorem YZ(b:List (κ×V))(k j:κ)(y:V):yf (yJ b k y) j=if j=k then U y else yf b j:=by
 unfold yJ;by_cases a:(b.any λc=>decide (c.1=k))=ah
 .rw[ap a,zaF];rw[vc] at a;by_cases e:j=k
  .obtain⟨x,d⟩:=fN.mp a;rw[ap e,e,d,ig,ap rfl]
  .rw[am e];cases yf b j with
   |none=>rfl
   |some x=>rw[ig,am e]
 .rw[am a];refine KC k j y b ?_;rw[vc] at a;cases q:yf b k with
  |none=>rfl
  |some x=>rw[q] at a;exact(a Y).elim
theorem wf(a:List (κ×V))(k:κ)(v:V):(yJ a k v).length<=a.length+1:=by
 unfold yJ;split
 .rw[bg];lia
 .rw[bC,bU,om];lia
theorem ve{a:List (κ×V)}(v:V)(h:yf a k=ak):yJ a k v=a++[(k,v)]:=by
 unfold yJ;rw[vc,h];exact am ()
theorem tK.isSome_eq(r:tK o u):o.isSome=u.isSome:=by
 cases o with
 |none=>cases u with
  |none=>rfl
  |some _=>exact(show False from r).elim
 |some _=>cases u with
  |none=>exact(show False from r).elim
  |some _=>rfl
theorem tK.getD(r:tK o u)(a:aT d d'):aT (o.getD d) (u.getD d'):=by
 cases o with
 |none=>cases u with
  |none=>exact a
  |some _=>exact(show False from r).elim
 |some _=>cases u with
  |none=>exact(show False from r).elim
  |some _=>exact r
theorem KV.val(r:KV aI vs)(k:κ):tK (yf aI k) (valueAt vs k):=by
 unfold KV at r;induction r with
 |nil=>exact eN
 |@cons p q ps qs h t ih =>
  obtain⟨c,d⟩:=h;by_cases e:p.1=k
  .have a:q.1=k:=c.symm.trans e;have b:valueAt (q::qs) k=U q.2:=by simp[valueAt,gm,a]
   rw[yR e,b];exact d
  .have a:¬ q.1=k:=λz=>e (c.trans z);have b:valueAt (q::qs) k=valueAt qs k:=by simp[valueAt,gm,a]
   rw[yS e,b];exact ih
theorem KV.any(r:KV aI vs)(k:κ):(aI.any λa=>decide (a.1=k))=vs.any λa=>decide (a.1=k):=by
 unfold KV at r;induction r with
 |nil=>rfl
 |cons h t ih=>rw[lj,lj,ih,h.1]
theorem KV.repl(r:KV aI vs)(k:κ)(c:aT y u) :
  KV (aI.map λa=>if a.1=k then (a.1,y) else a) (vs.map λa=>if a.1=k then (a.1,u) else a):=by
 unfold KV at r ⊢;induction r with
 |nil=>exact .nil
 |@cons p q ps qs h t ih =>
  rw[bx,bx];refine .cons ?_ ih;obtain⟨b,d⟩:=h;by_cases e:p.1=k
  .rw[ap e,ap (b.symm.trans e)];exact⟨b,c⟩
  .rw[am e,am (λz=>e (b.trans z))];exact⟨b,d⟩
theorem KV.put(r:KV aI vs)(k:κ)(a:aT y u):KV (yJ aI k y) (stored vs k u):=by
 unfold yJ stored;rw[r.any k];by_cases e:(vs.any λb=>decide (b.1=k))=ah
 .rw[ap e,ap e];exact r.repl k a
 .rw[am e,am e];exact Paired.snoc r ⟨Y,a⟩
theorem KV.drop(r:KV aI vs)(k:κ):KV (yz aI k) (without vs k):=by
 unfold KV at r ⊢;unfold yz without;induction r with
 |nil=>exact .nil
 |@cons p q ps qs h t ih =>
  obtain⟨c,d⟩:=h;rw[dC,dC];by_cases e:p.1=k
  .have a:¬ decide (p.1≠k)=ah:=by simp[e]
   have b:¬ decide (q.1≠k)=ah:=by simp[c.symm.trans e]
   rw[am a,am b];exact ih
  .have f:¬ q.1=k:=λz=>e (c.trans z);have a:decide (p.1≠k)=ah:=by simp[e]
   have b:decide (q.1≠k)=ah:=by simp[f]
   rw[ap a,ap b];exact .cons ⟨c,d⟩ ih
theorem KV.length{a:List (κ×ae)}(r:KV aI a):aI.length=a.length:=bL r
theorem zaG(a:List (κ×V))(k:κ):(yz a k).length<=a.length:=on _ _
end
theorem Wp(r:aT (kV k) u):(yE P w).is k u=ah:=by
 cases k with
 |inl i=>obtain⟨t,e⟩:=(show ∃t,u=f7 i t from r);subst e;exact zau P w i t
 |inr x=>obtain⟨t,e⟩:=(show ∃t,u=ic x t from r);subst e;exact zav P w x t
theorem XX{P:aq}{w:au}:∀ {ks:List aU} {a:List ae},aR (ks.map kV) a->ItemsAre (yE P w) ks a
 |[],_,r=>by rw[ot] at r;cases r;exact .nil
 |k::ks,_,r=>by
  rw[bx] at r;cases r with
  |cons h t=>exact .cons (Wp h) (XX t)
abbrev KT(H:Hp):List (List aU×V)->List (List aU×D×ae)->Prop:=Paired λp q=>p.1=q.1/\H q.2.1=U (.tup (p.1.map kV))/\aT p.2 q.2.2
theorem KT.val{H:Hp}{f:List (List aU×V)}{c:List (List aU×D×ae)}(r:KT H f c)(k:List aU):tK (yf f k) ((atKey c k).map (·.2)):=by
 induction r with
 |nil=>exact eN
 |@cons p q ps qs h t ih =>
  obtain⟨d,_,g⟩:=h;by_cases e:p.1=k
  .have a:q.1=k:=d.symm.trans e;have b:atKey (q::qs) k=U q.2:=by simp[atKey,gm,a]
   rw[yR e,b];exact g
  .have a:¬ q.1=k:=λz=>e (d.trans z);have b:atKey (q::qs) k=atKey qs k:=by simp[atKey,gm,a]
   rw[yS e,b];exact ih
theorem KT.repl{H:Hp}(r:KT H aI xs)(k:List aU)(d:aT y u) :
  KT H (aI.map λb=>if b.1=k then (b.1,y) else b) (xs.map (putAt k u)):=by
 induction r with
 |nil=>exact .nil
 |@cons p q ps qs h t ih =>
  rw[bx,bx];refine .cons ?_ ih;obtain⟨a,c,f⟩:=h;unfold putAt;by_cases e:p.1=k
  .rw[ap e,ap (a.symm.trans e)];exact⟨a,c,d⟩
  .rw[am e,am (λz=>e (a.trans z))];exact⟨a,c,f⟩
theorem KT.put{H:Hp}(r:KT H aI xs)(k:List aU)(d:H b=U (.tup (k.map kV)))(a:aT y u) :
  KT H (yJ aI k y) (storedH xs k b u):=by
 have e:(aI.any λc=>decide (c.1=k))=(atKey xs k).isSome:=by
  rw[vc,(r.val k).isSome_eq,mJ]
 unfold yJ storedH;rw[e];by_cases q:(atKey xs k).isSome=ah
 .rw[ap q,ap q];exact r.repl k a
 .rw[am q,am q];exact Paired.snoc r ⟨Y,d,a⟩
theorem KT.keeps{H c:Hp}(r:KT H aI xs)(d:∀b a,H b=U (.tup a)->c b=U (.tup a)):KT c aI xs:=
 Paired.mapP r λ_ _ z=>⟨z.1,d _ _ z.2.1,z.2.2⟩
section
variable {P:aq}{w:au}{H:Hp}{h:av}{a:D}
theorem zhE(b:t8 P w H h)(e:Rd H a u):aW P w H h a u:=e.ok b
theorem Vv(b:t8 P w H h)(e:Rd H a (.dK aI)):aI.length<=Bb/\(a==sysModules)=ao/\∃vs,KV aI vs/\h.DictOf (yE P w) a vs:=
 show aW P w H h a (.dK aI) from zhE b e
theorem zeA(b:t8 P w H h)(e:H a=U (.dK aI)):aI.length<=Bb/\(a==sysModules)=ao/\∃vs,KV aI vs/\h.DictOf (yE P w) a vs:=Vv b (.inl e)
theorem kY(c:t8 P w H h)(e:H a=U (.tup (ks.map kV))):(tupleKind (yE P w)).is h ks a:=by
 obtain⟨_,b,r,o,g,f,n,d⟩:=(show aW P w H h a (.tup (ks.map kV)) from c a _ e);exact⟨o,b.toArray,n,g,f,d,by simpa using XX r⟩
theorem Vw(c:t8 P w H h)(e:Rd H a (.dT aI)):aI.length<=Bb/\(a==sysModules)=ao /\
  ∃xs,KT H aI xs/\h.DictOfH (tupleKind (yE P w)) a xs:=by
 obtain⟨z,y,xs,r,o,k,n,j,i,g,f,d⟩:=(show aW P w H h a (.dT aI) from zhE c e);refine⟨z,y,xs,r,o,k,n,j,i,g,f,λx hx=>?_,d⟩;have b:∀ {l:List (List aU×V)} {m:List (List aU×D×ae)},KT H l m->∀x∈m,(tupleKind (yE P w)).is h x.1 x.2.1:=by
  intro l m q;induction q with
  |nil=>intro x hx;exact nomatch hx
  |@cons p q ps qs hq t ih =>
   intro x hx;rcases bE.mp hx with e|hx
   .subst e;exact kY c (by rw[<-hq.1];exact hq.2.1)
   .exact ih x hx
 exact b r x hx
theorem zaH(b:t8 P w H h)(e:H a=U (.dT aI)):aI.length<=Bb/\(a==sysModules)=ao /\
  ∃xs,KT H aI xs/\h.DictOfH (tupleKind (yE P w)) a xs:=Vw b (.inl e)
end
def tz(H:Hp)(a:D)(y:V)(r:Option V):Prop :=
 (∃c k,Rd H a (.dK c)/\y=kV k/\r=yf c k)\/∃c k b,Rd H a (.dT c)/\y=.ref b/\H b=U (.tup (k.map kV))/\r=yf c k
def DPut(H:Hp)(a:D)(y v:V)(d:Hp):Prop :=
 (∃c k,H a=U (.dK c)/\y=kV k/\c.length<Bb/\d=upd H a (.dK (yJ c k v))) \/
 ∃c k b,H a=U (.dT c)/\y=.ref b/\H b=U (.tup (k.map kV))/\c.length<Bb/\d=upd H a (.dT (yJ c k v))
theorem tz.k{H:Hp}{b:List (aU×V)}{k:aU}(e:H a=U (.dK b)):tz H a (kV k) (yf b k):=.inl ⟨b,k,.inl e,Y,Y⟩
theorem tz.t{H:Hp}{c:List (List aU×V)}{k:List aU}(e:H a=U (.dT c))(d:H b=U (.tup (k.map kV))):tz H a (.ref b) (yf c k):=.inr ⟨c,k,b,.inl e,Y,d,Y⟩
theorem DPut.k{H:Hp}{b:List (aU×V)}{k:aU}(e:H a=U (.dK b))(c:b.length<Bb):DPut H a (kV k) v (upd H a (.dK (yJ b k v))):=.inl ⟨b,k,e,Y,c,Y⟩
theorem DPut.t{H:Hp}{c:List (List aU×V)}{k:List aU}(e:H a=U (.dT c))(f:H b=U (.tup (k.map kV)))(d:c.length<Bb) :
  DPut H a (.ref b) v (upd H a (.dT (yJ c k v))):=.inr ⟨c,k,b,e,Y,f,d,Y⟩
section
variable {X:Cx}{aa:List (D×Obj)}{σ:St}{H:Hp}{s:af}{a:D}{y v:V}{u r:ae}{o:Option V}{A:aw}{E:ae->af->Prop}
theorem aO.big(I:aO X aa σ H s):sysModules<s.heap.objs.size:=by
 have h:Bd<s.heap.objs.size:=(I.mod.glob.keeps I.bk).lt;exact rJ () h
theorem zdN{Q:ae->af->Prop}(x:A.units+1<cLine)(I:aO X aa σ H s)(g:tz H a y (U v))(q:aT y u)(h:∀f n,aO X aa σ H n->aT v f->Q f n) :
  Bf (Bg X.prog X.w) A (getItem (.ref a) u) Q E s:=by
 rcases g with ⟨aI,k,e,ey,l⟩|⟨aI,k,b,e,ey,eb,l⟩
 .subst ey;obtain⟨z,C,w,d,m⟩:=Vv I.hok e;obtain⟨f,i,c⟩:=tK.some_of (v:=v) (o:=valueAt w k) (by rw[l];exact d.val k);exact wpAny_getItem_of (Wp q) m.mapOf i (h f _ (I.tok _) c)
 .subst ey;cases (show u=bJ b from q);obtain⟨z,C,t,d,m⟩:=Vw I.hok e;obtain⟨f,i,c⟩:=tK.some_of (v:=v) (o:=(atKey t k).map (·.2)) (by rw[l];exact d.val k);obtain⟨p,B,j⟩:=b7.mp i;refine wpAny_getItem_heap (dU x) (kY I.hok eb) m B ?_;rw[j];exact h f _ (I.tok _) c
theorem zju{Q:ae->af->Prop}(m:A.units+1<cLine)(I:aO X aa σ H s)(g:tz H a y o)(j:aT y u)(h:∀i,aO X aa σ H i->Q (.bool o.isSome) i) :
  Bf (Bg X.prog X.w) A (Bi .In u (.ref a)) Q E s:=by
 rcases g with ⟨aI,k,e,ey,l⟩|⟨aI,k,b,e,ey,eb,l⟩
 .subst ey;obtain⟨z,d,p,c,f⟩:=Vv I.hok e;refine wpAny_in_of (Wp j) d f.mapOf ?_;rw[<-(c.val k).isSome_eq,<-l];exact h _ (I.tok _)
 .subst ey;cases (show u=bJ b from j);obtain⟨z,d,n,c,f⟩:=Vw I.hok e;refine wpAny_in_heap (dU m) (kY I.hok eb) d f ?_;have q:=(c.val k).isSome_eq;rw[mJ] at q;rw[<-q,<-l];exact h _ (I.tok _)
theorem zgy{Q:ae->af->Prop}(m:A.units+1<cLine)(I:aO X aa σ H s)(g:tz H a y o)(j:aT y u)(h:∀i,aO X aa σ H i->Q (.bool (!o.isSome)) i) :
  Bf (Bg X.prog X.w) A (Bi .NotIn u (.ref a)) Q E s:=by
 rcases g with ⟨aI,k,e,ey,l⟩|⟨aI,k,b,e,ey,eb,l⟩
 .subst ey;obtain⟨z,d,p,c,f⟩:=Vv I.hok e;refine wpAny_notIn_of (Wp j) d f.mapOf ?_;rw[<-(c.val k).isSome_eq,<-l];exact h _ (I.tok _)
 .subst ey;cases (show u=bJ b from j);obtain⟨z,d,n,c,f⟩:=Vw I.hok e;refine wpAny_notIn_heap (dU m) (kY I.hok eb) d f ?_;have q:=(c.val k).isSome_eq;rw[mJ] at q;rw[<-q,<-l];exact h _ (I.tok _)
theorem ZQ(I:aO X aa σ H s)(d:Mut (H a))(f:cN a s.heap h')(g:∃q,h'.get? a=U q)(c:aW X.prog X.w (upd H a ob) h' a ob) :
  aO X aa σ (upd H a ob) { s with heap:=h',toks:=t' }:=
 I.write (x:=a) (e:=a) d (.inl Y) (λb q h z=>(f.2 b h).trans z) g c
theorem Qx{e:Hp}(z:aI.length<=Bb)(c:(a==sysModules)=ao)(b:KV aI vs)(d:h'.DictOf (yE P w) a vs) :
  aW P w e h' a (.dK aI):=⟨z,c,vs,b,d⟩
theorem zdO{J:Hp}{Q:Unit->af->Prop}(O:A.units+1<cLine)(I:aO X aa σ H s)(g:DPut H a y v J)(x:aT y u)(B:aT v r)(h:∀w,aO X aa σ J w->Q PUnit.unit w) :
  Bf (Bg X.prog X.w) A (setItem (.ref a) u r) Q E s:=by
 rcases g with ⟨aI,k,e,ey,l,eH⟩|⟨aI,k,b,e,ey,eb,l,eH⟩
 .subst ey eH;obtain⟨z,p,N,d,t⟩:=zeA I.hok e;have j:N.length<=Bb:=by rw[<-d.length];exact z
  have n:(yJ aI k v).length<=Bb:=by have:=wf aI k v;lia
  refine wpAny_setItem_pairs (hsz:=j) (Wp x) t λC f m=>h _ ?_;have T:∃q,C.get? a=U q:=let ⟨q,_,_,i,_⟩:=f;⟨q,i⟩
  exact ZQ I (by rw[e];exact eN) m T (Qx n p (d.put k B) f)
 .subst ey eH;cases (show u=bJ b from x);obtain⟨z,p,M,d,t⟩:=zaH I.hok e;have j:M.length<=Bb:=by rw[<-bL d];exact z
  have n:(yJ aI k v).length<=Bb:=by have:=wf aI k v;lia
  refine wpAny_setItem_heap (hsz:=j) (dU O) (kY I.hok eb) t λC f m=>h _ ?_;obtain⟨q,es,ep,i,h2,h3,h4,_,h5⟩:=f;refine ZQ I (by rw[e];exact eN) m ⟨q,i⟩ ⟨n,p,_,(d.put k eb B).keeps λc ys G=>?_,q,es,ep,i,h2,h3,h4,h5⟩;rw[zi (zM G e ())];exact G
end
section
variable {X:Cx}{aa:List (D×Obj)}{σ:St}{H:Hp}{s:af}{a:D}{aI:List (aU×V)}{k:aU}{u:ae}{A:aw}{E:ae->af->Prop}
theorem zhF{Q:ae->af->Prop}(I:aO X aa σ H s)(e:H a=U (.dK aI))(f:aT (kV k) u)(l:yf aI k=U v)(n:more=[]\/∃x,more=[x]) (h:∀c m,aO X aa σ (upd H a (.dK (yz aI k))) m->aT v c->Q c m):Bf (Bg X.prog X.w) A (call (.builtin "dict.pop") (.ref a::u::more)) Q E s:=by
 obtain⟨z,C,j,b,p⟩:=zeA I.hok e;obtain⟨c,r,g⟩:=tK.some_of (v:=v) (o:=valueAt j k) (by rw[<-l];exact b.val k);have y:(keyPart u).isSome=ah:=by
  cases k with
  |inl i=>obtain⟨t,q⟩:=(show ∃t,u=f7 i t from f);subst q;rfl
  |inr x=>obtain⟨t,q⟩:=(show ∃t,u=ic x t from f);subst q;rfl
 have G:argsOk "dict.pop" ⟨.ref a::u::more,[]⟩:=by
  rcases n with q|⟨x,q⟩
  .subst q;exact m5 _ _
  .subst q;exact m6 _ _ _
 refine iR eK p.typeIs iA G (meets_dict_pop_there (yE X.prog X.w) a (Wp f) more n y)
  ⟨j,c,p,by rw[<-b.length];exact z,r,λJ d w=>h c _ ?_ g⟩
 have B:∃q,J.get? a=U q:=let ⟨q,_,_,hq,_⟩:=d;⟨q,hq⟩
 exact ZQ I (by rw[e];exact eN) w B (Qx (bO (zaG aI k) z) C (b.drop k) d)
theorem zic{Q:ae->af->Prop}(I:aO X aa σ H s)(e:H a=U (.dK aI))(b:aT (kV k) u)(l:yf aI k=ak)(h:∀f,aO X aa σ H f->Q r f) :
  Bf (Bg X.prog X.w) A (call (.builtin "dict.pop") [.ref a,u,r]) Q E s:=by
 obtain⟨z,n,d,c,g⟩:=zeA I.hok e;have m:valueAt d k=ak:=tK.none_of (by rw[<-l];exact c.val k);have j:(keyPart u).isSome=ah:=by
  cases k with
  |inl i=>obtain⟨t,q⟩:=(show ∃t,u=f7 i t from b);subst q;rfl
  |inr x=>obtain⟨t,q⟩:=(show ∃t,u=ic x t from b);subst q;rfl
 exact iR eK g.typeIs iA (m6 _ _ _) (meets_dict_pop_default (yE X.prog X.w) a (Wp b) n j r) ⟨d,g,m,h _ (I.tok _)⟩
end
def zi3(i:ay):Prop:=∀a b,subscripted i ao a b=operate [a,b] (getItem a b)
theorem zgz{E:ae->af->Prop}{d:Env}{g:Pos}{T id:String}{Q:ae->af->Prop}
  (l:typeLookup (.type T) "__getitem__"=pure (U (.builtin id))) (k:zi3 slice) (h:Bf (Bg prog w) A (eval value d) (λo c=>Bf (Bg prog w) A (eval slice d) (λi s₂=>s₂.TypeIs o T/\Bf (Bg prog w) A (getItem o i) Q E s₂) E c) E s) :
  Bf (Bg prog w) A (eval (.Subscript value slice g) d) Q E s:=by
 refine Subscript_ (dN h (λo c f=>dN f (λi s₂ a=>?_) λ_ _ x=>x) λ_ _ x=>x);obtain⟨j,a⟩:=a;unfold subscriptTail;refine ba ?_;rw[getitemInPython_of_ne j.not_modules];refine ba (wpAny_specialOf j l ?_);have fin:Bf (Bg prog w) A (subscripted slice ao o i) (λr b=>Bf (Bg prog w) A (letTemporaryGo value o r >>= λ_=>pure r) Q E b) E s₂:=by
  rw[k o i];exact wpAny_operating (dN a (λr b e=>ba (wpAny_letTemporaryGo (bf e))) λ_ _ x=>x)
 first
  |exact bf (ba fin)
  |exact ba (bf (ba fin))
  |exact ba fin
theorem zaI{f:List (D×Obj)}{d:St}{H:Hp}{s:af}{a:D}{y:V}{o:Option V}(I:aO X f d H s)(g:tz H a y o):s.TypeIs (.ref a) "dict":=by
 rcases g with ⟨aI,k,e,_,_⟩|⟨aI,k,b,e,_,_,_⟩
 .obtain⟨_,_,i,_,c⟩:=Vv I.hok e;exact c.typeIs
 .obtain⟨_,_,h,_,c⟩:=Vw I.hok e;exact c.typeIs
def j6(e d:TE):TE:=λb H Q=>e b H λx f=>d b f λy c=>∃a v,x=.ref a/\tz c a y (U v)/\Q v c
def qD(f d e:TE):TS:=λj b H=>e b H λv i=>f b i λx h=>d b h λy g=>∃a c,x=.ref a/\DPut g a y v c/\j.nx b c
section
variable {X:Cx}{o i e value:ay}{pos pos' tpos:Pos}{td ty tv:TE}
theorem wU(p:X.A.units+1<cLine)(r:PE X o td)(t:PE X i ty)(q:zi3 i):PE X (.Subscript o i pos) (j6 td ty):=by
 intro d s c H Q I h;refine zgz PySem.F.slot_dict_getitem.lookup q (dl (r d s c H _ I h) λu j ⟨x,C,A,l,n⟩=>dl (t d j c C _ A n) ?_);rintro M J ⟨y,B,f,k,a,v,w,g,m⟩;subst w;obtain rfl:u=bJ a:=l;exact⟨zaI f g,zdN p f g k λE G z b=>⟨v,B,z,b,m⟩⟩
theorem wz(t:X.A.units+1<cLine)(z:PE X o td)(A:PE X i ty)(q:PE X value tv)(w:swapsWith value (U (.Subscript o i pos')) pos.line X.env=pure ao) :
  PS X (.Assign [.Subscript o i pos'] value pos) (qD td ty tv):=by
 intro c s b H Bp I h;refine nQ (dl (q c s b H _ I h) λr f ⟨v,O,J,l,p⟩=>dl (z c f b O _ J p) λu d ⟨x,N,G,k,n⟩=>dl (A c d b N _ G n) ?_) w;rintro iv T ⟨y,H3,E,j,a,M,B,g,m⟩;subst B;obtain rfl:u=bJ a:=k;exact zdO t E g j l λQ C=>⟨b,M,C,m⟩
end
theorem zeB{H:Hp}(h:av)(a:sysModules<h.objs.size):aW P w H (h.push { cls:=.type "dict",data:=.dict #[] }) h.objs.size (.dK []):=
 ⟨bS _,beq_eq_false_iff_ne.mpr (ef (bW a)),[],.nil,Heap.DictOf.new h⟩
theorem zaJ{H:Hp}(h:av)(a:sysModules<h.objs.size):aW P w H (h.push { cls:=.type "dict",data:=.dict #[] }) h.objs.size (.dT []):=
 ⟨bS _,beq_eq_false_iff_ne.mpr (ef (bW a)),[],.nil,_,#[],0,bF _ Y,⟨Y,Y,Y⟩,Y,Y,cz⟩
def YC:TE:=λ_ H Q=>∀p,H p=ak->Q (.ref p) (upd H p (.dK []))
def YD:TE:=λ_ H Q=>∀p,H p=ak->Q (.ref p) (upd H p (.dT []))
section
variable {X:Cx}{pos:Pos}
theorem j7:PE X (.Dict [] [] pos) YC:=λc s b H Q I h =>
 wpAny_Dict_empty ⟨.ref s.heap.objs.size,_,I.laid (a:=s.heap.objs.size) (o:=.dK []) (t':=s.toks) (λ_ _ q=>bc _ q) (bp _) (zeB s.heap I.big),Y,h _ (I.hok.fresh (bp _))⟩
theorem j8:PE X (.Dict [] [] pos) YD:=λc s b H Q I h =>
 wpAny_Dict_empty ⟨.ref s.heap.objs.size,_,I.laid (a:=s.heap.objs.size) (o:=.dT []) (t':=s.toks) (λ_ _ q=>bc _ q) (bp _) (zaJ s.heap I.big),Y,h _ (I.hok.fresh (bp _))⟩
end
def zid:List (TE×TE)->St->Hp->(List (V×V)->Hp->Prop)->Prop
 |[],_,H,Q=>Q [] H
 |(tk,tv)::r,σ,H,Q=>tk σ H λx d=>tv σ d λy c=>zid r σ c λa b=>Q ((x,y)::a) b
structure M1(X:Cx)(o:ay)(m:Str)(sR:Pos)(e:ay)(sZ:Pos):Prop where
 base:attributeBase o m X.env (eval o X.env)=eval o X.env
 few:((backTo sZ (Be [e] X.env)).all (λx=>!x.1)&&(backToKw sZ (keywordEach [] X.env)).all (λx=>x.1.isSome)
  && decide (([e]:List ay).length+([]:List Keyword).length+(if ([]:List Keyword).isEmpty then 0 else 1)<30))=ah
 line:(sR.endLine==sZ.line)=ah
 trees:backTo sZ (Be [e] X.env)=[(ao,eval e X.env)]
structure M2(X:Cx)(o:ay)(m:Str)(sR:Pos)(e f:ay)(sZ:Pos):Prop where
 base:attributeBase o m X.env (eval o X.env)=eval o X.env
 few:((backTo sZ (Be [e,f] X.env)).all (λx=>!x.1)&&(backToKw sZ (keywordEach [] X.env)).all (λx=>x.1.isSome)
  && decide (([e,f]:List ay).length+([]:List Keyword).length+(if ([]:List Keyword).isEmpty then 0 else 1)<30))=ah
 line:(sR.endLine==sZ.line)=ah
 trees:backTo sZ (Be [e,f] X.env)=[(ao,eval e X.env),(ao,eval f X.env)]
def IsD(H:Hp)(a:D):Prop:=(∃b,Rd H a (.dK b))\/∃b,Rd H a (.dT b)
theorem XY{k:List (D×Obj)}{j:St}{H:Hp}{s:af}{a:D}(I:aO X k j H s)(d:IsD H a) :
  s.TypeIs (.ref a) "dict"/\(∀b,bJ a=.ref b->∃c,s.heap.get? b=U c/\c.dict=ak)/\(a==sysModules)=ao:=by
 rcases d with ⟨aI,e⟩|⟨aI,e⟩
 .obtain⟨_,g,m,_,f⟩:=Vv I.hok e;refine⟨f.typeIs,λb q=>?_,g⟩;cases q;obtain⟨c,_,_,i,h,_⟩:=f;exact⟨c,i,h.2.1⟩
 .obtain⟨_,g,l,_,f⟩:=Vw I.hok e;refine⟨f.typeIs,λb q=>?_,g⟩;cases q;obtain⟨c,_,_,i,h,_⟩:=f;exact⟨c,i,h.2.1⟩
section
variable {X:Cx}{aa:List (D×Obj)}{σ:St}{H:Hp}{s:af}{a:D}{y d:V}{u r:ae}{o:Option V}{A:aw}{E:ae->af->Prop}
theorem zie{Q:ae->af->Prop}(t:A.units+1<cLine)(I:aO X aa σ H s)(g:tz H a y o)(n:aT y u)(p:aT d r)(h:∀j m,aO X aa σ H m->aT (o.getD d) j->Q j m) :
  Bf (Bg X.prog X.w) A (call (.builtin "dict.get") [.ref a,u,r]) Q E s:=by
 rcases g with ⟨aI,k,e,ey,l⟩|⟨aI,k,b,e,ey,eb,l⟩
 .subst ey;obtain⟨z,i,v,c,f⟩:=Vv I.hok e;refine iR iS f.typeIs nR (m7 _ _ _) (meets_dict_get_default (yE X.prog X.w) a (Wp n) i r) ⟨_,f.mapOf,h _ _ (I.tok _) ?_⟩;rw[l];exact(c.val k).getD p
 .subst ey;cases (show u=bJ b from n);obtain⟨z,i,q,c,f⟩:=Vw I.hok e;refine iR iS f.typeIs nR (m7 _ _ _) (meetsH_dict_get_default (tupleKind (yE X.prog X.w)) a b i r) ⟨dU t,k,q,kY I.hok eb,f,h _ _ (I.tok _) ?_⟩;rw[l];exact(c.val k).getD p
end
def qZ(g e f:TE):TE:=λb H Q=>g b H λx d=>∃a,x=.ref a/\IsD d a/\e b d λy h=>f b h λz c=>∃o,tz c a y o/\Q (o.getD z) c
def Qy(g f:TE):TE:=λc H Q=>g c H λx e=>∃a,x=.ref a/\IsD e a/\f c e λy d=>∃b k v,d a=U (.dK b)/\y=kV k/\yf b k=U v/\Q v (upd d a (.dK (yz b k)))
def zb5(h f g:TE):TE:=λc H Q=>h c H λx e=>∃a,x=.ref a/\IsD e a/\f c e λy i=>g c i λz d=>∃b k,d a=U (.dK b)/\y=kV k /\
 (∀v,yf b k=U v->Q v (upd d a (.dK (yz b k))))/\(yf b k=ak->Q z d)
section
variable {X:Cx}{o e f:ay}{sR sZ:Pos}{td ty tx:TE}
theorem j9(B:X.A.units+1<cLine)(C:PE X o td)(G:PE X e ty)(E:PE X f tx)(m:M2 X o "get" sR e f sZ):PE X (.Call (.Attribute o "get" sR) [e,f] [] sZ) (qZ td ty tx):=by
 intro i s b H Q I h;refine gE m.base m.few m.line dW iS PySem.F.type_dict_get (dl (C i s b H _ I h) ?_);rintro u p ⟨x,H1,j,t,a,J,d,A⟩;subst J;obtain rfl:u=bJ a:=t;obtain⟨l,k,_⟩:=XY j d;refine⟨l,k,?_⟩;rw[m.trees];refine dh Y (dX (cR (dl (G i p b H1 _ j A) λiv n ⟨y,H2,O,r,w⟩ =>
  cR (dl (E i n b H2 _ O w) λfv s3 ⟨z,T,N,q,ov,g,v⟩=>eW ?_))))
 exact zie B N g r q λw' s4 M c=>⟨_,T,M,c,v⟩
theorem Vx(z:PE X o td)(A:PE X e ty)(m:M1 X o "pop" sR e sZ):PE X (.Call (.Attribute o "pop" sR) [e] [] sZ) (Qy td ty):=by
 intro g s c H Q I h;refine gE m.base m.few m.line dW eK iT (dl (z g s c H _ I h) ?_);rintro u p ⟨x,M,i,r,a,C,d,w⟩;subst C;obtain rfl:u=bJ a:=r;obtain⟨n,j,_⟩:=XY i d;refine⟨n,j,?_⟩;rw[m.trees];refine dh Y (dX (cR (dl (A g p c M _ i w) λiv T ⟨y,H2,J,q,aI,k,v,E,B,l,t⟩=>eW ?_)));subst B;exact zhF J E q l (.inl Y) λN O G b=>⟨v,_,G,b,t⟩
theorem zaK(O:PE X o td)(he:PE X e ty)(T:PE X f tx)(m:M2 X o "pop" sR e f sZ):PE X (.Call (.Attribute o "pop" sR) [e,f] [] sZ) (zb5 td ty tx):=by
 intro g s b H Q I h;refine gE m.base m.few m.line dW eK iT (dl (O g s b H _ I h) ?_);rintro u B ⟨x,H1,q,E,a,ex,d,N⟩;subst ex;obtain rfl:u=bJ a:=E;obtain⟨t,r,_⟩:=XY q d;refine⟨t,r,?_⟩;rw[m.trees];refine dh Y (dX (cR (dl (he g B b H1 _ q N) λiv A ⟨y,H2,I2,j,M⟩ =>
  cR (dl (T g A b H2 _ I2 M) λfv s3 ⟨z,H3,p,C,aI,k,n,ey,J,G⟩=>eW ?_))))
 subst ey;cases l:yf aI k with
 |some v=>exact zhF p n j l (.inr ⟨fv,Y⟩) λw' w i c=>⟨v,_,i,c,J v l⟩
 |none=>exact zic p n j l λw i=>⟨z,H3,i,C,G l⟩
end
end L2
namespace Att
open PySem PySem.W PySem.Calls PyProof.Rows
theorem WU :∀(ns:List Int) (c:List ae),WellAll P h c (ns.map WData.int)->IntsAre c ns:=by
 intro ns;induction ns with
 |nil =>
  intro c w;rw[ot] at w;cases w;exact .nil
 |cons n ns ih =>
  intro c w;rw[bx] at w;cases w with
  |cons a b =>
   cases a;exact .cons _ _ (ih _ b)
theorem KD{l:OpenLaw}{n:Nat}(s:l.most=U n){P:Params}{args:List WData}{c:List ae}
  (e:l.row.toRowW.claim.pre args=ah) (j:WellAll P h c args) :
  ∃a m b,c=[bJ a]/\args=[WData.list (b.map WData.int)]/\h.get? a=U { cls:=.type "list",data:=.seq m.toArray }/\IntsAre m b/\b.length<=n:=by
 have k:WShape.hasAll [] args [.list .int]=ah:=(pre_splitW e).1;have o:l.pre.holds [] { args:=args }=ah:=(pre_splitW e).2;obtain⟨d,r,rfl,v,u⟩:=hasAllW_cons k;obtain rfl:=hasAllW_nil u;obtain⟨w,rfl,t⟩:=hasW_list v;obtain⟨b,rfl⟩:=items_int t;have f:b.length<=n:=by
  unfold OpenLaw.pre at o;have i:(WTm.not (.lt (.lit (.int (n:Int))) (.len (.arg 0)))).holds [] { args:=[.list (b.map .int)] }=ah:=by
   have i:=(holds_andW o).1;rw[s] at i;exact i
  have g:=condW_of i (w_not (w_lt w_lit (w_len_list (w_arg Y))));rw[bg] at g;refine rS λq=>?_;have p:(n:Int)<((b.length:Nat):Int):=by lia
  first
   |(rw[Bj p] at g;exact absurd g ())
   |(simp at g;lia)
 cases j with
 |cons w1 w2 =>
  cases w2;cases w1 with
  |list ho hall=>exact⟨_,_,b,Y,Y,ho,WU b _ hall,f⟩
theorem KG(l:OpenLaw)(args:List WData):l.row.toRowW.claim.post args (.bool ah) args=ah :=
 postW_of (r:=l.row.toRowW) (X:=(ah==ah))
  (show WShape.has [] (.bool ah) .bool=ah by first|rfl|decide|simp[WShape.has,WShape.arms,WShape.armsAll])
  (show (WTm.eq .res (.lit (.bool ah))).value [] { args:=args,res:=U (.bool ah),after:=args }=U (.bool (ah==ah)) from w_eq_bool (w_res Y) w_lit) rfl
theorem attach_call{l:OpenLaw}{n:Nat}{e:List Str}{N:(Str->Option ae)->av->Prop}{M:au->av->Prop}{d:DefRec}
  (hn:l.most=U n) (B:d.params.defaults=[]) (call:∀(w:au) (c b:af) (u y:Str->Option ae) (p:D) (o:Obj) (x v h:ae) (a:D) (i:List ae) (t:List Int),
   Ground q e [] N w c u y b.heap->M w b.heap ->
   b.heap.get? p=U o->o.data=.func (docDef d.name d.params d.body d.scope x v h)->b.heap.CodeRec v d.name->u d.name=U (.ref p) ->
   b.heap.get? a=U { cls:=.type "list",data:=.seq i.toArray }->IntsAre i t->t.length<=n->b.gens=#[] ->
   codeAny (Bg l.prog w) callerA (.call (.ref p) ⟨[.ref a],[]⟩) (λr s=>r=.ok (.ret (.bool ah))/\OldK b.heap s.heap/\s.os=b.os/\AllBare s.gens) b) :
  WalkO q e N M l.row.toRowW d [] (λf i=>mK f i):=by
 intro w c b u y G Bl p o x v h dV kV T hd C I A hg J E as j H O z aa;obtain rfl:dV=.none:=Dflts.none I B;obtain rfl:kV=.none:=Dflts.noKw I;obtain⟨a,i,t,rfl,rfl,k,g,m⟩:=KD hn j z;refine enter_call (gj (call w c b u y p o x v h a i t G Bl T (fd_plain hd) C A k g m hg) λr s Q=>?_);obtain⟨rfl,h2,h3,h4⟩:=Q;exact⟨.inl ⟨.bool ah,.bool ah,[],Y,λ_=>rfl,.bool ah,KG l _,λ_=>⟨fP,λ_ hm=>(nomatch hm)⟩⟩,h2,h3,h4⟩
section
variable {prog:aq}{w:au}{A:aw}{E:ae->af->Prop}{s:af}{K:Frag}
def zjv(h:av)(b d:D):List (D×Obj):=(eB h.objs.size).filterMap λa=>if a=b\/a=d then ak else (h.get? a).map λo=>(a,o)
end
end Att
namespace L2
open PySem PySem.Spec PyProof.Rows
theorem KH:∀ {a:List ae} {b:List Int},IntsAre a b->aR (b.map V.int) a
 |_,_,.nil=>.nil
 |_,_,.cons n t h=>.cons ⟨t,Y⟩ (KH h)
def zb6(H:Hp):Prop:=∀b,H b=ak\/∃o a,H b=U (.frz o (.lst a))
theorem zaL{P:aq}{w:au}{K:bw}{B mb:Str->Option ae}{CX:CXT}{k:Nat}{fa a:D}{fd:Bc}{x:Str}{sp:Sp}{s₁:af}{p:List ae}{A:List Int}
  (KX:K.In s₁.heap) (I:s₁.heap.Ns Bd B) (f:s₁.heap.Ns builtinsNs mb) (ag:∀x:Str,x≠"__name__"->mb x=Bh x) (J:s₁.heap.NoLimit) (hg:s₁.gens=#[]) (Q:s₁.heap.get? a=U { cls:=.type "list",data:=.seq p.toArray }) (hi:IntsAre p A) (hl:A.length<=Bb) (hr:sV k callerA) (F:∀i:av,K.In i->i.Ns Bd B->hZ P w K B i CX k fa fd [x] sp) (t:∀(s:af) (u:ae),BindsTo s fd ⟨[u],[]⟩ [(x,u)]) (aa:∀H:Hp,zb6 H->aQ K H a (A.map V.int)->sp [.ref a] H (λv _=>v=.bl ah) λ_ _ _=>False) (ai:∀H e g,CX [] H s₁ (λ_ _ _=>False) e g->False) :
  codeAny (Bg P w) callerA (.call (.ref fa) ⟨[.ref a],[]⟩) (λr g=>r=.ok (.ret (.bool ah))/\OldK s₁.heap g.heap/\g.os=s₁.os/\AllBare g.gens) s₁:=by
 have rv:=KH hi;have C:=hi.length
 -- from an abstract heap in which nothing but the script may be tracked
 have l:∀H:Hp,zb6 H->aQ K H a (A.map V.int)->t8 P w H s₁.heap->(∀b,H b≠ak->b=a)->(H a≠ak->K.lookup a=ak) ->
   codeAny (Bg P w) callerA (.call (.ref fa) ⟨[.ref a],[]⟩) (λr g=>r=.ok (.ret (.bool ah))/\OldK s₁.heap g.heap/\g.os=s₁.os/\AllBare g.gens) s₁:=by
  intro H hO hS G hA hK;have c:∀ {b:D} {o:Obj},s₁.heap.get? b=U o->H b=ak->(Ql s₁.heap H).get? b=U o:=λe n=>zen e n;have T:∀ {b:D} {o:Obj} {N:Array DictEntry} {ep:Nat},s₁.heap.get? b=U o->o.data=.dict N ep->H b=ak:=λ{b o N ep} e d=>by
   cases q:H b with
   |none=>rfl
   |some u =>
    have e':b=a:=hA b (by rw[q];simp);subst e';rw[Q] at e;cases e;have d':Data.seq p.toArray _=Data.dict N ep:=d;cases d'
  have j:∀ {b:D} {m:Str->Option ae},s₁.heap.Ns b m->(Ql s₁.heap H).Ns b m:=λ{b m} ⟨o,N,ep,e,d,r⟩=>⟨o,N,ep,c e (T e d),d,r⟩;have M:K.In (Ql s₁.heap H):=λb o e=>c (KX b o e) (by
   cases q:H b with
   |none=>rfl
   |some u =>
    have e':b=a:=hA b (by rw[q];simp);subst e';rw[hK (by rw[q];simp)] at e;cases e)
  have hM:Mod K B (Ql s₁.heap H):=⟨M,j I,⟨mb,j f,ag⟩,let ⟨mc,h1,h2⟩:=J;⟨mc,j h1,h2⟩⟩;have e0:Env0 P w K B (Ql s₁.heap H) callerA [] s₁ H:=⟨Y,hM,λb o e=>zgm e,n9 (zdB _ _),trivial,λb f=>absurd (show b∈([]:List D) from f) (by simp),G,.of_eq hg⟩;refine gj ((F _ M (j I)).run callerA [] s₁ H ⟨[.ref a],[]⟩ [.ref a] [.ref a] _ _ hr e0 (t s₁ (.ref a)) (.cons Y .nil) (aa H hO hS)) λr g h=>?_;cases r with
  |error e=>exact(ai H e g h).elim
  |ok fl =>
   cases fl with
   |next=>exact c8 h
   |brk=>exact c8 h
   |cont=>exact c8 h
   |ret u =>
    obtain⟨v,H',os,O,un,E,r',q⟩:=h;have q':v=.bl ah:=q;subst q';obtain rfl:u=iE ah:=r';refine⟨Y,OldK.of_keep λb o e=>?_,os,O⟩;cases q:H b with
    |none=>exact un.keep b o e q (by intro z;exact absurd (show b∈([]:List D) from z) (by simp)) (by simp)
    |some u =>
     rcases hO b with z|⟨ob,xs,z⟩
     .rw[q] at z;cases z
     .have z2:=un.frzs b ob _ z;obtain⟨e1,_⟩:=G b _ z;obtain⟨e2,_⟩:=E b _ z2;rw[e] at e1;cases e1;exact e2
 cases hk:K.lookup a with
 |some o =>
  -- the script is one of the module's own objects
  have e:=KX a o hk;rw[Q] at e;cases e;refine l (λ_=>ak) (λ_=>.inl Y) (.inr ⟨_,p.toArray,_,hk,Y,Y,Y,by rw[bG,C];exact hl,by simpa using rv⟩) (λb u z=>by have y:(ak:Option HO)=U u:=z;cases y) (λb z=>absurd rfl z) λz=>absurd rfl z
 |none =>
  refine l (λb=>if b=a then U (.frz { cls:=.type "list",data:=.seq p.toArray } (.lst (A.map V.int))) else ak) (λb=>?_) (.inl (.inr ⟨{ cls:=.type "list",data:=.seq p.toArray },ap Y⟩)) (λb u z=>?_) (λb z=>?_) λ_=>hk
  .by_cases f:b=a
   .exact .inr ⟨_,_,ap f⟩
   .exact .inl (am f)
  .by_cases f:b=a
   .have y:=(ap f).symm.trans z;cases y;subst f;exact⟨Q,by rw[bg];exact hl,p,_,rv,Q⟩
   .have y:=(am f).symm.trans z;cases y
  .by_cases f:b=a
   .exact f
   .exact absurd (am f) z
abbrev KOf{K:bw}{h:av}(_:K.In h):bw:=K
theorem zcW{l:pO}{n k:Nat}{q:aq}{g:List Str}{XP:(Str->Option ae)->av->Prop}{N:au->av->Prop}{d:DefRec}{K:Params->bw}{CX:au->CXT}{sp:au->Sp}{x:Str}
  (T:l.most=U n) (A:n<=Bb) (C:d.params.defaults=[]) (Q:sV k callerA) (hY:∀(w:au) (h:av),N w h->(K w.params).In h) (F:∀(w:au) (j:Str->Option ae) (t:D) (h:av),(K w.params).In h->h.Ns Bd j->j d.name=U (.ref t) ->
   ∃I:Bc,(∀(s:af) (u:ae),BindsTo s I ⟨[u],[]⟩ [(x,u)]) /\
    ∀b:av,(K w.params).In b->b.Ns Bd j->hZ l.prog w (K w.params) j b (CX w) k t I [x] (sp w)) (z:∀(w:au) (H:Hp) (a:D) (r:List Int),r.length<=n->zb6 H->aQ (K w.params) H a (r.map V.int)->sp w [.ref a] H (λv _=>v=.bl ah) λ_ _ _=>False) (E:∀(w:au) (H:Hp) (s:af) (e:ae) (y:af),CX w [] H s (λ_ _ _=>False) e y->False) :
  sK q g XP N l.row.toRowW d [] (λf J=>mK f J):=by
 refine Att.attach_call T C λw M m j mb t o pm cd ag a J r G Bl ho hd aa B p i c hg=>?_;have O:=hY w _ Bl;obtain⟨I,hb,hF⟩:=F w j t _ O G.T.g B;exact zaL O G.T.g G.T.b G.T.builtins G.T.nolimit hg p i (bO c A) Q hF hb (λH hO hS=>z w H a r c hO hS) λH e y=>E w H m e y
theorem zi4{l:pO}{n k:Nat}{q:aq}{c:List Str}{M:(Str->Option ae)->av->Prop}{z:au->av->Prop}{d:DefRec}{K:Params->bw}{CX:CXT}{sp:bw->Sp}{x:Str}
  (C:l.most=U n) (o:n<=Bb) (p:d.params.defaults=[]) (B:sV k callerA) (E:∀(w:au) (h:av),z w h->(K w.params).In h) (F:∀(w:au) (i:Str->Option ae) (y:D) (h:av),(K w.params).In h->h.Ns Bd i->i d.name=U (.ref y) ->
   ∃t:Bc,(∀(s:af) (u:ae),BindsTo s t ⟨[u],[]⟩ [(x,u)]) /\
    ∀b:av,(K w.params).In b->b.Ns Bd i->hZ l.prog w (K w.params) i b CX k y t [x] (sp (K w.params))) (m:∀(K:bw) (H:Hp) (a:D) (g:List Int),g.length<=n->zb6 H->aQ K H a (g.map V.int)->sp K [.ref a] H (λv _=>v=.bl ah) λ_ _ _=>False) (r:∀(H:Hp) (s:af) (e:ae) (j:af),CX [] H s (λ_ _ _=>False) e j->False) :
  sK q c M z l.row.toRowW d [] (λf A=>mK f A) :=
 zcW (K:=K) (CX:=λ_=>CX) (sp:=λw=>sp (K w.params)) C o p B E F (λw H a g J I G=>m (K w.params) H a g J I G) λ_ H s e j=>r H s e j
def zZ(s:ax)(j:Nat):ax:=match s with
 |.ClassDef _ _ _ body _ _ _ _ _ _ _=>body.getD j (.Pass ⟨0,0,0,0⟩)
 |_=>.Pass ⟨0,0,0,0⟩
def ZR(s:ax):Arguments:=match s with
 |.FunctionDef _ a _ _ _ _ _ _ _ _=>a
 |_=>{ posonlyargs:=[],args:=[],vararg:=ak,kwonlyargs:=[],kw_defaults:=[],kwarg:=ak,defaults:=[] }
def x8(s:ax):List ax:=match s with
 |.FunctionDef _ _ b _ _ _ _ _ _ _=>b
 |_=>[]
def zk(s:ax):aA:=match s with
 |.FunctionDef _ _ _ _ _ _ sc _ _ _=>sc
 |_=>{ kind:=.function,names:=[],isGenerator:=ao,isCoroutine:=ao }
abbrev E0:XK:=λ_ _ _=>False
structure Fun(K:bw)(x qual:Str)(st:ax)(f:D)(fd:Bc):Prop where
 ex:∃(oc:ae) (od:Option D) (kV doc pm:ae) (an:Option D) (cdv ct:ae) (osl:Array (Option ae)),
  fd=ss x qual (ZR st) (x8 st) (zk st) .none kV doc pm an cdv ct/\K.lookup f=U ⟨oc,od,.func fd,osl⟩/\sd K cdv qual=ah
 kp:mY K (.ref f)=ah
section
variable {P:aq}{w:au}{K:bw}{mg:Str->Option ae}{base:av}
theorem fun_mk{b:ax}{f:D}{m:ae}{j i:Option D}{e:Array (Option ae)}{kV d g a h:ae}(l:K.lookup f=U ⟨m,j,.func (ss x qual (ZR b) (x8 b) (zk b) .none kV d g i a h),e⟩) (c:sd K a qual=ah) (k:mY K (.ref f)=ah):Fun K x qual b f (ss x qual (ZR b) (x8 b) (zk b) .none kV d g i a h):=⟨⟨m,j,kV,d,g,i,a,h,e,Y,l,c⟩,k⟩
end
theorem yL(a:sV k A):A.units+1<cLine:=bT (pA (by lia:1<=64) _) a.units
section
variable {X:Cx}
theorem L(i:Nat){a:Pos}(e:X.N[i]?=U x:=by rfl)(c:Vis X.env.scope x:=by first|exact mh rfl|exact pP (mh Y)|exact pP (pP Y))(d:(x==("__debug__":Str))=ao:=by lia) (b:(x==("__classdict__":Str))=ao:=by lia):PE X (.Name x a) (Z i):=zh1 e c d b
end
theorem Y0{c A B:Prop} [Decidable c](b:c->A)(a:¬ c->B):if c then A else B:=by
 by_cases h:c
 .rw[ap h];exact b h
 .rw[am h];exact a h
def aJ(H a:Hp):Prop:=∀b o,H b=U o->a b=U o
theorem aJ.refl(H:Hp):aJ H H:=λ_ _ h=>h
theorem aJ.trans{H d H2:Hp}(a:aJ H d)(b:aJ d H2):aJ H H2:=λc o h=>b c o (a c o h)
section
variable {κ:Type} [DecidableEq κ]
theorem zaM{a:List (κ×V)}{k:κ}(h:yf a k=ak):¬ k∈a.map (·.1):=by
 intro m;obtain⟨p,c,e⟩:=bB.mp m;have q:(a.any λb=>decide (b.1=k))=ah:=gT.mpr ⟨p,c,Bj e⟩;rw[vc,h] at q;exact absurd q (by simp)
theorem zcX{a:List (κ×V)}{k:κ}{v:V}(h:yf a k=U v):k∈a.map (·.1):=by
 have q:(a.any λb=>decide (b.1=k))=ah:=by
  rw[vc,h]
  all_goals rfl
 obtain⟨p,c,e⟩:=gT.mp q;exact bB.mpr ⟨p,c,of_decide_eq_true e⟩
theorem zcY:∀ {l:List κ} {k:κ},l.Nodup->¬ k∈l->(l++[k]).Nodup
 |[],k,_,_=>by simp
 |a::r,k,h,hk=>by
  obtain⟨c,b⟩:=bX.mp h;show (a::(r++[k])).Nodup;refine bX.mpr ⟨λm=>?_,zcY b λm=>hk (bE.mpr (pP m))⟩;rcases bu.mp m with q|q
  .exact c q
  .exact hk (bE.mpr (mh (bo.mp q).symm))
theorem zgA{a:List (κ×V)}{k:κ}(v:V)(b:(a.map (·.1)).Nodup)(h:yf a k=ak):((yJ a k v).map (·.1)).Nodup:=by
 rw[ve v h,bR];exact zcY b (zaM h)
theorem KI{p:κ×V}{r:List (κ×V)}(e:p.1=k):yz (p::r) k=yz r k:=by
 unfold yz;rw[dC,am (by simp[e])]
theorem XZ{p:κ×V}{r:List (κ×V)}(e:¬ p.1=k):yz (p::r) k=p::yz r k:=by
 unfold yz;rw[dC,ap (by simp[e])]
theorem zeC:∀ {a:List (κ×V)} {k:κ},¬ k∈a.map (·.1)->yz a k=a
 |[],_,_=>rfl
 |p::r,k,h=>by
  have c:¬ k∈r.map (·.1):=λm=>by
   obtain⟨q,b,e⟩:=bB.mp m;exact h (bB.mpr ⟨q,bE.mpr (pP b),e⟩)
  rw[XZ λe=>h (bB.mpr ⟨p,bE.mpr (mh Y),e⟩),zeC c]
theorem zdP{aI:List (κ×V)}{p:κ×V}(h:p∈yz aI k):p∈aI:=(b8.mp h).1
end
end L2
set_option Elab.async false
set_option linter.all false
set_option maxRecDepth 100000
set_option maxHeartbeats 4000000
namespace L2
open PySem PySem.Spec PyProof.Rows
def Cx.comp(X:Cx)(a:aA)(c:List (Str×D))(C:D)(N:List Str)(b:List D)(s:af)(H:Hp):Cx :=
 { X with env:=compEnvC a c C X.env,N:=N,s₀:=s,H₀:=H,outer:=X.stack,ex:=b,fn:=λ_=>ao,pn:=[],xe:=λ_ _=>False }
structure ZS(X:Cx)(scope:aA)(cl:List (Str×D))(ix:List Nat):Prop where
 clos:closureFor scope X.env=pure cl
 nocell:∀y∈scope.names,y.2≠.cell
 kind:scope.kind=.function
 names:∀y∈scope.names,y.2=.local->scope.names.lookup y.1=U .local
 sub:∀y c,cl.lookup y=U c->X.env.cells.lookup y=U c
 has:∀y,((relabel scope X.env).names.lookup y=U .cell\/(relabel scope X.env).names.lookup y=U .free)->∃c,cl.lookup y=U c
 cap:∀i∈ix,∃y,X.N[i]?=U y/\(X.env.kindOf y=U .cell\/X.env.kindOf y=U .free)/\((relabel scope X.env).names.lookup y=U .cell\/(relabel scope X.env).names.lookup y=U .free)
def q8(a:aA)(b:Env):List (Str×D):=a.names.foldl (λc y=>if y.2==.free then (y.1,(b.cells.lookup y.1).getD 0)::c else c) []
def zcZ(a:aA)(N:List Str)(b:aA)(c:List Nat):Bool :=
 b.kind==.function&&b.names.all (λy=>y.2 != .cell&&(y.2 != .local || b.names.lookup y.1==U .local)&&(y.2 != .free || a.names.lookup y.1==U .cell || a.names.lookup y.1==U .free)) &&
  c.all λi=>match N[i]? with
   |some y=>b.names.lookup y==U .free
   |none=>ao
theorem vf{l:List (Str×NameKind)}{y:Str}(h:l.lookup y=U k):(y,k)∈l:=e9 h
theorem kZ{a:Env}:∀ {b:List (Str×NameKind)} {x:Str} {k:NameKind},(b.map λ(n,k)=>if (k==dn&&a.scope.kind==.function&&a.kindOf n==U .cell) then (n,m8) else (n,k)).lookup x=U k ->
  ∃c,b.lookup x=U c/\(c=.free\/c=k)
 |[],_,_,h=>by simp at h
 |(n,c)::r,x,k,h=>by
  have f:=@kZ a r x k;rw[bx] at h;cases hx:x==n with
  |true =>
   by_cases hc:(c==dn&&a.scope.kind==.function&&a.kindOf n==U .cell)=ah
   .have e:c=.free:=by
     have:=(bV _ _ ▸ (bV _ _ ▸ hc).1).1;simpa using this
    exact⟨c,by simp[cf,hx],.inl e⟩
   .simp only[am hc,cf,hx] at h;exact⟨c,by simp[cf,hx],.inr (bI h)⟩
  |false =>
   have g:(r.map λ(n,k)=>if (k==dn&&a.scope.kind==.function&&a.kindOf n==U .cell) then (n,m8) else (n,k)).lookup x=U k:=by
    by_cases hc:(c==dn&&a.scope.kind==.function&&a.kindOf n==U .cell)=ah
    .simp only[ap hc,cf,hx] at h;exact h
    .simp only[am hc,cf,hx] at h;exact h
   obtain⟨q,e,d⟩:=f g;exact⟨q,by simp only[cf,hx];exact e,d⟩
theorem Y1{a:Env}:∀ {b:List (Str×NameKind)} {x:Str},b.lookup x=U .free ->
  ((b.map λ(n,k)=>if (k==dn&&a.scope.kind==.function&&a.kindOf n==U .cell) then (n,m8) else (n,k)).lookup x=U .cell \/
   (b.map λ(n,k)=>if (k==dn&&a.scope.kind==.function&&a.kindOf n==U .cell) then (n,m8) else (n,k)).lookup x=U .free)
 |[],_,h=>by simp at h
 |(n,k')::r,x,h=>by
  have c:=@Y1 a r x;rw[bx];cases hx:x==n with
  |true =>
   simp only[cf,hx] at h;cases h;by_cases hc:(dn==dn&&a.scope.kind==.function&&a.kindOf n==U .cell)=ah
   .left;simp only[ap hc,cf,hx]
   .right;simp only[am hc,cf,hx]
  |false =>
   simp only[cf,hx] at h;by_cases hc:(k'==dn&&a.scope.kind==.function&&a.kindOf n==U .cell)=ah
   .simp only[ap hc,cf,hx];exact c h
   .simp only[am hc,cf,hx];exact c h
theorem KJ{a:Env}:∀(l:List (Str×NameKind)) (d:List (Str×D)),(∀y∈l,y.2=.free->∃c,a.cells.lookup y.1=U c) ->
  (∀y c,d.lookup y=U c->a.cells.lookup y=U c)->∀y c,(l.foldl (λd y=>if y.2==.free then (y.1,(a.cells.lookup y.1).getD 0)::d else d) d).lookup y=U c->a.cells.lookup y=U c
 |[],_,_,h,y,c,e=>h y c e
 |z::r,d,hl,h,y,c,e=>by
  rw[fc] at e;refine KJ r _ (λy j=>hl y (br _ j)) (λg n b=>?_) y c e;by_cases hz:z.2=.free
  .obtain⟨m,i⟩:=hl z bt hz;have f:(z.2==dn)=ah:=by simpa using hz
   rw[ap f,i,cf] at b;cases hq:g==z.1 with
   |true =>
    rw[hq] at b;have k:g=z.1:=by simpa using hq
    cases b;rw[k];exact i
   |false=>rw[hq] at b;exact h _ _ b
  .have f:(z.2==dn)=ao:=by simpa using hz
   rw[f] at b;exact h _ _ b
theorem zaN{b:Env}:∀(l:List (Str×NameKind)) (a:List (Str×D)) (y:Str),((∃c,a.lookup y=U c)\/(y,dn)∈l) ->
  ∃c,(l.foldl (λa y=>if y.2==.free then (y.1,(b.cells.lookup y.1).getD 0)::a else a) a).lookup y=U c
 |[],_,_,h=>h.elim id λz=>nomatch z
 |z::r,a,y,h=>by
  rw[fc];refine zaN r _ y ?_;rcases h with ⟨c,h⟩|h
  .left
   by_cases hz:(z.2==dn)=ah
   .rw[ap hz,cf];cases y==z.1 with
    |true=>exact⟨_,Y⟩
    |false=>exact⟨c,h⟩
   .rw[am hz];exact⟨c,h⟩
  .rcases bE.mp h with h|h
   .left
    subst h;rw[ap (by rfl),cf];simp
   .exact .inr h
theorem Qz{a:Env}:∀(l:List (Str×NameKind)) (b:List (Str×D)),(∀y∈l,y.2=.free->∃c,a.cells.lookup y.1=U c) ->
  forIn (m:=Sem) l b (λx r=>match x with|(name,kind)=>if (kind==dn)=ah then do let c <-cellOf a name;pure (gp ((name,c)::r)) else pure (gp r)) =
   pure (l.foldl (λb y=>if y.2==.free then (y.1,(a.cells.lookup y.1).getD 0)::b else b) b)
 |[],_,_=>rfl
 |(n,k)::r,b,h=>by
  rw[ou,fc];by_cases hz:(k==dn)=ah
  .obtain⟨c,f⟩:=h (n,k) bt (by simpa using hz);have e:cellOf a n=pure c:=by unfold cellOf;rw[f]
   simp only[hz,if_true,e,pure_bind];rw[Qz r _ λy d=>h y (br _ d)];simp only[f,Option.getD_some]
  .simp only[hz,if_false,pure_bind];exact Qz r _ λy d=>h y (br _ d)
theorem Y2(k:X.Ok)(h:zcZ osc N scope ix=ah)(n:X.env.scope=osc)(r:X.N=N):ZS X scope (q8 scope X.env) ix:=by
 subst n r;unfold zcZ at h;rw[bV,bV,i3,i3] at h;obtain⟨⟨v,u⟩,t⟩:=h;have p:∀y∈scope.names,y.2≠.cell/\(y.2=.local->scope.names.lookup y.1=U .local)/\(y.2=.free->X.env.kindOf y.1=U .cell\/X.env.kindOf y.1=U .free):=λy hy=>by
  have q:=u y hy;rw[bV,bV] at q;obtain⟨⟨j,d⟩,b⟩:=q;refine⟨by simpa using j,λe=>?_,λe=>?_⟩
  .rw[e] at d;simpa using d
  .rw[e] at b;have a:X.env.scope.names.lookup y.1=U .cell\/X.env.scope.names.lookup y.1=U .free:=by simpa using b
   exact a
 have f:∀y∈scope.names,y.2=.free->∃c,X.env.cells.lookup y.1=U c:=λy hy e=>k.has y.1 ((p y hy).2.2 e);refine⟨?_,λy hy=>(p y hy).1,by simpa using v,λy hy=>(p y hy).2.1,λy c e=>KJ scope.names [] f (λ_ _ z=>by simp at z) y c e,λy hy=>?_,λi o=>?_⟩
 .have e:=Qz scope.names [] f;unfold closureFor q8;refine Eq.trans (congrArg (λm=>m >>= λs=>(pure s:Sem (List (Str×D)))) e) ?_;rw[pure_bind]
 .refine zaN scope.names [] y (.inr ?_);rcases hy with hy|hy
  .obtain⟨l,e,z|z⟩:=kZ hy
   .subst z;exact vf e
   .subst z;exact absurd Y (p _ (vf e)).1
  .obtain⟨l,e,z|z⟩:=kZ hy
   .subst z;exact vf e
   .subst z;exact vf e
 .have q:=t i o;cases hy:X.N[i]? with
  |none=>rw[hy] at q;cases q
  |some y =>
   rw[hy] at q;have g:scope.names.lookup y=U .free:=by simpa using q
   exact⟨y,Y,(p _ (vf g)).2.2 Y,Y1 g⟩
def JP(b:List Nat)(a:St):St:=b.map λi=>(a[i]?).getD ak
def kg(a:List Nat)(N:List Str):List Str:=a.map λi=>(N[i]?).getD ""
section
variable {X:Cx}{aa:List (D×Obj)}{σ:St}{H:Hp}{s:af}{scope:aA}{cl:List (Str×D)}{ix:List Nat}{fp:List D}{C:D}{xs:List Str}
theorem aO.compOk(I:aO X aa σ H s)(S:ZS X scope cl ix)(g:C=s.heap.objs.size)(d:∀b∈fp,qY X aa H b)(k:∀b∈fp,b<s.heap.objs.size)(n:List Str) :
  (X.comp scope cl C n fp s H).Ok where
 mod:=I.ok.mod
 kind:=S.kind
 glob:=I.ok.glob
 blt:=I.ok.blt
 above:=n9 g.symm
 inj:=λx y c f l=>I.ok.inj x y c (S.sub x c f) (S.sub y c l)
 has:=λx j=>S.has x j
 cab:=λx c f _=>nomatch f
 hd:=I.ok.hd
 frames:=I.ok.frames
 stk:=.inl rfl
 exf:=λb a=>⟨λz=>absurd (k b a) (by rw[z];show ¬ C<_;rw[g];exact fq _),λx c h=>(d b a).2.2.2.2.1 x c (S.sub x c h)⟩
 bs:=I.bs
 bsz:=bO I.ok.bsz I.sz
 noex:=λb o e a=>by
  rcases(d b a).2.2.2.1 with z|z
  .exact I.ok.noex b o e z
  .exact absurd (b6 (bQ e) (bO I.ok.bsz z)) (fq _)
 exfs:=λb a z=>by
  rcases bE.mp (I.stkSub b z) with e|e
  .exact(d b a).2.1 e
  .exact(d b a).2.2.1 e
 funs:=I.stack
 frf:=I.stkFree
theorem aO.comp{d:av}{f:Str->Option ae}{t':Nat}(I:aO X aa σ H s)(S:ZS X scope cl ix)(E:C=s.heap.objs.size)(hf:∀b∈fp,qY X aa H b)(hl:∀b∈fp,b<s.heap.objs.size) (T:d.Ns C f) (n:∀b o,s.heap.get? b=U o->d.get? b=U o) :
  aO (X.comp scope cl C (xs++kg ix X.N) fp s H) [] (fC xs.length ak++JP ix σ) H { s with heap:=d,toks:=t' } where
 ok:=I.compOk S E hf hl _
 os:=rfl
 bare:=I.bare
 base:=Un.kept n
 loc:=by
  refine⟨f,T,λi y v e1 g e3=>?_⟩;by_cases hi:i<xs.length
  .rw[cF (by simpa using hi),mZ,ap hi] at g;cases g
  .have a:(xs++kg ix X.N)[i]?=U y:=e1;rw[dE ()] at a;rw[dE (by rw[dO];lia),dO] at g;generalize i-xs.length=j at a g;unfold kg at a;unfold JP at g;rw[bA] at a g;cases hj:ix[j]? with
   |none=>rw[hj] at a;cases a
   |some k =>
    rw[hj] at a g;obtain⟨t,M,J,G⟩:=S.cap k (bN hj);have ey:t=y:=by
     have q:(X.N[k]?).getD ""=y:=bI a;rw[M] at q;exact q
    subst ey;have ev:σ[k]?=U (U v):=by
     have q:(σ[k]?).getD ak=U v:=bI g;cases hs:σ[k]? with
     |none=>rw[hs] at q;cases q
     |some o=>rw[hs] at q;exact congrArg U q
    obtain⟨m,hm,O⟩:=I.loc;obtain⟨u,r,l⟩:=O k t v M ev (J.elim (λz=>.inr (.inl z)) λz=>.inr (.inr z));refine⟨u,r,.inr ⟨G,?_⟩⟩;rcases l with ⟨l1,_⟩|⟨_,c,lc,⟨o,A,B⟩⟩
    .rcases J with z|z <;> (rw[l1] at z;cases z)
    .obtain⟨c',h⟩:=S.has t G;have e:=S.sub _ _ h;rw[lc] at e;cases e;exact⟨c,h,o,n _ _ A,B⟩
 cell:=λx c e=>by
  obtain⟨v,o,A,B⟩:=I.cell x c (S.sub x c e);exact⟨v,o,n _ _ A,B⟩
 free:=I.hok.fresh (n9 E.symm)
 freeC:=λx c e=>I.freeC x c (S.sub x c e)
 pin:=λp Q=>absurd (show p∈([]:List (D×Obj)) from Q) (by simp)
 hok:=I.hok.kept n
 len:=by
  show (fC xs.length ak++JP ix σ).length=(xs++kg ix X.N).length;rw[bC,bC,dO,JP,kg,bg,bg]
theorem aO.uncomp{h:St}{g:Hp}{O:List Str}{l:av}(I:aO X aa σ H s)(z:C=s.heap.objs.size)(y:∀b∈fp,qY X aa H b) (J:aO (X.comp scope cl C O fp s H) [] h g s') (f:cN C s'.heap l):aO X aa σ g { s' with heap:=l }:=by
 have lt:∀b o,s.heap.get? b=U o->b≠C:=λb o e=>by
  rw[z];exact bW (bQ e)
 have B:Un (tP X.stack) fp H g s.heap s'.heap:=J.base;refine I.call' (s':={ s' with heap:=l }) (ch:=fp) J.os ?_ ?_ J.bare ?_
 .exact⟨λb o e n d k=>(f.2 b (lt b o e)).trans (B.keep b o e n d k),λb o e n d k=>by
   obtain⟨r,q⟩:=B.slot b o e n d k;exact⟨r,(f.2 b (lt b o e)).trans q⟩,B.free,λb o e d=>by
   obtain⟨t,q⟩:=B.there b o e d;exact⟨t,(f.2 b (lt b o e)).trans q⟩,B.tups,B.frzs,B.tbls⟩
 .intro b o e;refine(J.hok b o e).stay (λc u hc q=>(f.2 c ?_).trans q) (λ_ q=>q) λ_ _ q=>q;have a:g C=ak:=J.free;rintro rfl;rcases hc with rfl|hc
  .rw[a] at e;cases e
  .rw[a] at hc;cases hc
 .intro b j;obtain⟨T,M,Q,G,E,A⟩:=y b j;exact⟨G,M,E,A⟩
end
def PTs(X:Cx)(b:List ay)(t:TT):Prop :=
 ∀(d:List (D×Obj)) (s:af) (a:St) (H:Hp) (Q:Bool->Hp->Prop),aO X d a H s->t a H Q ->
  Bf (Bg X.prog X.w) X.A (forIn b ah λc r=>if r=ah then do let e <-isTrue c X.env (eval c X.env);pure (gp e) else pure (gp r)) (TP X d a Q) X.xe s
def QA:TT:=λ_ H Q=>Q ah H
theorem ZU :PTs X [] QA:=λ_ _ _ H _ I h=>wpAny_tests_nil ⟨H,I,h⟩
section
variable {prog:aq}{w:au}{A:aw}{R:aB->af->Prop}{s:af}
theorem QB{y a o:ay}{u:List ay}{g:aA}{C:Pos}{N z:ae}{b:Env}(W:Nat->af->Prop){EE:ae->af->Prop}
  (Q:∀e M,EE e M->notedBy (Bg prog w) A b (λe M=>R (.error e) M) e M) (B:∀n s,W n s->Bf (Bg prog w) A (pyNext N) (λr f=>match r with
   |none=>R (.ok .next) f
   |some v=>Bf (Bg prog w) A (letOwnedTupleGo a N v) (λ_ i=>Bf (Bg prog w) A (assign a b v) (λ_ l =>
     Bf (Bg prog w) A (forIn u ah λc r=>if r=ah then do let E <-isTrue c b (eval c b);pure (gp E) else pure (gp r)) (λE d =>
      if E=ah then Bf (Bg prog w) A (eval y b) (λx k=>Bf (Bg prog w) A (call (.builtin "list.append") [z,x]) (λ_ j=>∃m,m<n/\W m j) EE k) EE d
      else ∃m,m<n/\W m d) EE l) EE i) EE f) EE s) (n:Nat) (h:W n s):codeAny (Bg prog w) A (.compLoop (.ListComp y [⟨a,o,u,0⟩] g C) 0 N z b) R s:=by
 refine codeAny_loop Y W (λn s O=>?_) n h;show Bf _ A ((compTurn (.ListComp y [⟨a,o,u,0⟩] g C) 0 N z b).onRaise (λx=>do noteFrame x b;theTreesLotGoes x)) _ _ s;refine wpAny_noted (dN ?_ (λ_ _ q=>q) Q);rw[compTurn_list];refine ba (pN (ba (dl (B n s O) λr f t=>?_)));cases r with
 |none=>exact bf t
 |some v =>
  refine ba (dl t λ_ i G=>?_);refine ba (dl G λ_ l J=>ba (dl J λE d p=>?_));cases E with
  |false=>exact bf ⟨Y,p⟩
  |true=>exact ba (ba (dl p λx k I=>ba (dl I λ_ j H=>bf (bf ⟨Y,H⟩))))
end
def qE(q:TI)(g:TG)(r:TT)(s:TE)(k:Nat)(t:List Nat):TE:=λl H Q=>q l H λJ p=>∀f,p f=ak ->
 ∃W:Nat->Nat->List V->St->Hp->Prop,(∃m,W 0 m [] (fC k ak++JP t l) (upd p f (.lst [])))/\∀i m e j H,W i m e j H->H f=U (.lst e) /\
  ((J.stop i H/\Q (.ref f) H)\/(J.go i H/\e.length<Bb/\∃N:V->St->Hp->Prop,
   (∀v a d,N v a d->d f=U (.lst e)/\∃h,h<m/\W (i+1) h (e++[v]) a (upd d f (.lst (e++[v]))))/\∃n:St->Hp->Prop,(∀a d,n a d->∃h,h<m/\W (i+1) h e a d) /\
   ∀x d,J.yld i H x d->g x j d λc w=>r c w λb o=>if b=ah then s c o λv u=>N v c u else n c o))
section
variable {X:Cx}{elt iter tg:ay}{ifs:List ay}{scope:aA}{pos:Pos}{cl:List (Str×D)}{ix:List Nat}{xs:List Str}{wi:TI}{g:TG}{tt:TT}{te:TE}
theorem Vy(S:ZS X scope cl ix)(hc:X.calm=ah)(hi:PI X tg iter wi) (hg:∀C f s H,PG (X.comp scope cl C (xs++kg ix X.N) f s H) tg g) (ht:∀C f s H,PTs (X.comp scope cl C (xs++kg ix X.N) f s H) ifs tt) (he:∀C f s H,PE (X.comp scope cl C (xs++kg ix X.N) f s H) elt te)
  {s:af} {σ:St} {H:Hp} {Q:VK} (I:aO X aa σ H s) (h:qE wi g tt te xs.length ix σ H Q) {RR:ae->D->aB->af->Prop}
  (hR:∀v u G C,aT v u->(∃H',Q v H'/\(∃m,G.heap.Ns C m)/\(∀h',cN C G.heap h'->aO X aa σ H' { G with heap:=h' })/\qY X aa H' C)->RR u C (.ok .next) G) :
  Bf (Bg X.prog X.w) X.A (eval iter X.env) (λx ar=>Bf (Bg X.prog X.w) X.A (pyIter x) (λit an=>Bf (Bg X.prog X.w) X.A (newList []) (λa8 al =>
   Bf (Bg X.prog X.w) X.A (newFunctionEnv scope X.env.globals cl [] X.env.qual ak .none (U X.env)) (λM aj =>
    codeAny (Bg X.prog X.w) X.A (.compStart (.ListComp elt [⟨tg,iter,ifs,0⟩] scope pos) 0 it a8 { M with scope:=relabel scope X.env }) (RR a8 M.locals) aj) X.xe al) X.xe an) X.xe ar) X.xe s:=by
 refine dl (hi aa s σ H _ I h) λv s1 h1=>dl h1 λbz a h2=>?_;obtain⟨it,f,tn,J,H2,e,I2,T,a2,f2,hW⟩:=h2;subst e;refine cw (wpAny_newFunctionEnv S.nocell (λy hy=>nomatch hy) (λh₁ k j=>?_) S.kind);dsimp only at k j ⊢;obtain⟨W,⟨m0,w0⟩,ai⟩:=hW a.heap.objs.size I2.fresh;have I3:=I2.lnew (t':=a.toks) (ys:=[]) (its:=[]) .nil (bS _);have a6:∀b∈f,b<a.heap.objs.size:=λb c=>by
  obtain⟨o,e,_⟩:=T.obj _ _ a2 b c;exact bQ e
 generalize hs3:({ a with heap:=a.heap.push { cls:=.type "list",data:=.seq ([]:List ae).toArray },toks:=a.toks }:af)=s3 at I3;have B:s3.heap=a.heap.push { cls:=.type "list",data:=.seq ([]:List ae).toArray }:=by rw[<-hs3]
 have a9:s3.heap.objs.size=a.heap.objs.size+1:=by rw[B,eV]
 have f3:∀b∈f,qY X aa (upd H2 a.heap.objs.size (.lst [])) b:=λb c=>by
  obtain⟨q0,q⟩:=f2 b c;exact⟨by rw[zi (bW (a6 b c))];exact q0,q⟩
 have a5:∀b∈f,b<s3.heap.objs.size:=λb c=>by rw[a9];exact rm (a6 b c)
 rw[<-B] at k j ⊢;have hk:∀b o,s3.heap.get? b=U o->h₁.get? b=U o:=λb o e=>(j.2 b (bW (bQ e))).trans (bc _ e);have be:∀b o,a.heap.get? b=U o->s3.heap.get? b=U o:=λb o e=>by rw[B];exact bc _ e
 have J0:=I3.comp (xs:=xs) (t':=a.toks) (C:=s3.heap.objs.size) S Y f3 a5 k hk;have a1:tn 0 h₁:=T.keep _ _ _ a2 λb _ o e=>hk b o (be b o e);have a4:∀t,codeAny (Bg X.prog X.w) X.A (.compLoop (.ListComp elt [⟨tg,iter,ifs,0⟩] scope pos) 0 (.ref it) (.ref a.heap.objs.size) (compEnvC scope cl s3.heap.objs.size X.env)) (RR (.ref a.heap.objs.size) s3.heap.objs.size) { s3 with heap:=h₁,toks:=t }:=by
  intro t;refine QB (EE:=λ_ _=>False) (λn G=>∃i ys E H',aO (X.comp scope cl s3.heap.objs.size (xs++kg ix X.N) f s3 (upd H2 a.heap.objs.size (.lst []))) [] E H' G/\tn i G.heap/\(∀b∈f,H' b=ak)/\W i n ys E H')
   (λ_ _ z=>z.elim) ?_ m0 ⟨0,[],_,_,J0.tok t,a1,λb c=>(f3 b c).1,w0⟩
  rintro n G ⟨i,ys,E,H',I',a3,a7,w'⟩;have w:∀ {H':Hp},(∀b∈f,H' b=ak)->∀b∈f,qY (X.comp scope cl s3.heap.objs.size (xs++kg ix X.N) f s3 (upd H2 a.heap.objs.size (.lst []))) [] H' b:=λhn b c =>
   ⟨hn b c,(I'.ok.exf b c).1,I'.ok.exfs b c,.inl c,(I'.ok.exf b c).2,λp hp=>absurd (show p∈([]:List (D×Obj)) from hp) (by simp)⟩
  obtain⟨hD,⟨az,q⟩|⟨go,hz,N,hN,Nf,bi,aS⟩⟩:=ai i n ys E H' w'
  .refine dl (T.done (X.comp scope cl s3.heap.objs.size (xs++kg ix X.N) f s3 (upd H2 a.heap.objs.size (.lst []))) Y Y Y hc i [] G E H' _ I' (w a7) a3 az) ?_;rintro r s4 ⟨hr,I4⟩;subst hr;refine hR (.ref a.heap.objs.size) _ s4 _ Y ⟨H',q,?_,λh' c=>I3.uncomp Y f3 I4 c,I3.fpOk (bp _) I4.free⟩;obtain⟨m,hn,_⟩:=I4.loc;exact⟨m,hn⟩
  .refine dl (T.item (X.comp scope cl s3.heap.objs.size (xs++kg ix X.N) f s3 (upd H2 a.heap.objs.size (.lst []))) Y Y Y hc i [] G E H' _ I' (w a7) a3 go) ?_;rintro r s4 ⟨u,hr,h4⟩;subst hr;refine dl h4 ?_;rintro _ s5 ⟨x,H5,I5,r5,y5,ag,bk⟩;have bl:=I5.pinned (w bk) (T.obj _ _ ag);refine dl (hg _ _ _ _ _ s5 E H5 x u _ bl r5 (aS x H5 y5)) ?_;rintro _ s6 ⟨l,H6,I6,q6⟩;refine dl (ht _ _ _ _ _ s6 l H6 _ I6 q6) ?_;rintro ok s7 ⟨H7,I7,q7⟩;have O:∀ {s8:af} {H8:Hp} {m:Nat} {zs:List V},aO (X.comp scope cl s3.heap.objs.size (xs++kg ix X.N) f s3 (upd H2 a.heap.objs.size (.lst []))) ([]++Vq f s5.heap) l H8 s8->W (i+1) m zs l H8 ->
     ∃i ys E H',aO (X.comp scope cl s3.heap.objs.size (xs++kg ix X.N) f s3 (upd H2 a.heap.objs.size (.lst []))) [] E H' s8/\tn i s8.heap/\(∀b∈f,H' b=ak)/\W i m ys E H':=λ{s8 H8 m zs} I8 w8=>by
    refine⟨i+1,zs,l,H8,I8.unpinned,T.keep _ _ _ ag λb c o e=>(I8.pin (b,o) (bK _ (bK _ (kU c e)))).1,λb c=>?_,w8⟩;obtain⟨o,e,d⟩:=T.obj _ _ ag b c;exact(I8.pin (b,o) (bK _ (bK _ (kU c e)))).2.1
   cases ok with
   |false =>
    rw[am bM] at q7 ⊢;obtain⟨m',hm,w7⟩:=bi _ _ q7;exact⟨m',hm,O I7 w7⟩
   |true =>
    rw[ap rfl] at q7 ⊢;refine dl (he _ _ _ _ _ s7 l H7 _ I7 q7) ?_;rintro y s8 ⟨v8,H8,I8,r8,n8⟩;obtain⟨bj,m',hm,w8⟩:=hN _ _ _ n8;refine dl (yF _ s8 l H8 (.ref a.heap.objs.size) [v8] (.ref a.heap.objs.size) [y] (λ_ Hn=>∃m,m<n/\W (i+1) m (ys++[v8]) l Hn) I8 Y (.cons r8 .nil) ⟨_,ys,v8,Y,Y,bj,hz,m',hm,w8⟩) ?_;rintro _ s9 ⟨_,H9,I9,_,m9,bd,w9⟩;exact⟨m9,bd,O I9 w9⟩
 have e3:∀t,({ s3 with heap:=h₁,toks:=t }:af)={ a with heap:=h₁,toks:=t }:=λt=>by rw[<-hs3]
 have A:∀t,codeAny (Bg X.prog X.w) X.A (.compLoop (.ListComp elt [⟨tg,iter,ifs,0⟩] scope pos) 0 (.ref it) (.ref a.heap.objs.size) (compEnvC scope cl s3.heap.objs.size X.env)) (RR (.ref a.heap.objs.size) s3.heap.objs.size) { a with heap:=h₁,toks:=t }:=λt=>by rw[<-e3];exact a4 t
 exact codeAny_compStart_list (A _) (T.self _ 0 _ _ _ a1 (A _))
theorem zc0(n:X.calm=ah)(w:zcZ osc N scope ix=ah)(j:PI X tg iter wi) (k:∀C a s H,PG (X.comp scope (q8 scope X.env) C (xs++kg ix X.N) a s H) tg g) (e:∀C a s H,PTs (X.comp scope (q8 scope X.env) C (xs++kg ix X.N) a s H) ifs tt) (l:∀C a s H,PE (X.comp scope (q8 scope X.env) C (xs++kg ix X.N) a s H) elt te) (b:X.env.scope=osc:=by rfl) (p:X.N=N:=by rfl) (f:∀x,foldedSetIterable iter X.env x=pure x:=by intro _;rfl) :
  PE X (.ListComp elt [⟨tg,iter,ifs,0⟩] scope pos) (qE wi g tt te xs.length ix):=by
 intro z s d H Q I h;have S:=Y2 I.ok w b p;rw[eval_ListComp];refine mL (use:=ak) Y f S.clos S.kind S.names (Vy S n j k e l I h (RR:=λc C=>compPost (Bg X.prog X.w) X.A X.xe ak (EP X z d Q) c C) ?_);rintro v u B C r ⟨A,q,⟨m,i⟩,t,_⟩;exact⟨m,i,λy o=>⟨v,A,t y o,r,q⟩⟩
theorem k7{N:List Str}{y:Str}{d:Pos}{j:Nat}{c:Pos}(p:X.N.Nodup)(hj:X.N[j]?=U y)(hc:X.calm=ah)(O:Loc X.env.scope y)(hD:zcZ osc N scope ix=ah)(hi:PI X tg iter wi) (hg:∀C f s H,PG (X.comp scope (q8 scope X.env) C (xs++kg ix X.N) f s H) tg g) (ht:∀C f s H,PTs (X.comp scope (q8 scope X.env) C (xs++kg ix X.N) f s H) ifs tt) (he:∀C f s H,PE (X.comp scope (q8 scope X.env) C (xs++kg ix X.N) f s H) elt te) (k:X.env.scope=osc:=by rfl) (hN:X.N=N:=by rfl) (i:swapsWith (.ListComp elt [⟨tg,iter,ifs,0⟩] scope pos) (U (.Name y d)) c.line X.env=pure ah:=by rfl) (hs:∀x,foldedSetIterable iter X.env x=pure x:=by intro _;rfl) (hf:X.fn y=ah\/X.env.scope.names.lookup y=U .local:=by first|exact .inl rfl|exact .inr rfl|assumption) :
  PS X (.Assign [.Name y d] (.ListComp elt [⟨tg,iter,ifs,0⟩] scope pos) c) (zO (qE wi g tt te xs.length ix) (zt j)):=by
 intro z s J H G I h;have S:=Y2 I.ok hD k hN;rw[exec_Assign_Name_used _ _ _ _ i];refine ba (pN (ba ?_));show Bf _ X.A (do let _ <-comprehension (.ListComp elt [⟨tg,iter,ifs,0⟩] scope pos) scope X.env _ (newList []) ao (eval iter X.env) (U (assign (.Name y d) X.env))) _ _ s;refine ba (dl (mL (use:=U (assign (.Name y d) X.env)) (Q:=λ_ s'=>SP X z G .next s') rfl hs S.clos S.kind S.names
  (Vy S hc hi hg ht he I h (RR:=λw C=>compPost (Bg X.prog X.w) X.A X.xe (U (assign (.Name y d) X.env)) (λ_ s'=>SP X z G .next s') w C) ?_)) λ_ s' hq=>bf (bf hq))
 rintro v u s' C r ⟨E,q,⟨m,hn⟩,hI,f0,B,f2,f3,A,f5⟩;have I':aO X z J E s':=hI s'.heap (.refl ..);show Bf _ X.A (assign (.Name y d) X.env u) _ _ _;refine wpAny_assign_Name (Kw I' p hj O r (λM I2 T=>?_) hf);obtain⟨a,hb,ha⟩:=T;have t:C≠a:=by
  rcases ha with rfl|ha
  .exact B
  .exact ef (A _ _ ha)
 refine⟨m,hn.sameBut hb t,λh' n=>⟨_,E,?_,q⟩⟩;exact I2.turned (t':=M.toks) (λb o l e=>(n.2 b l).trans e) f0 B f3 A f5
end
abbrev KK:R2:=λx y H Q=>∃i j,x=.str i/\y=.str j/\i.length+j.length<=Bb/\Q (.str (i++j)) H
abbrev zgB:R2:=λx y H Q=>y=.non/\Q (.bl (decide (x=.non))) H
abbrev Wq:R2:=λx y H Q=>y=.non/\Q (.bl (!decide (x=.non))) H
abbrev RC:=List V->Hp->VK->Prop
abbrev xY(K:bw):RC:=λa H Q=>∃x n,a=[x]/\zh7 K x H n/\Q (.int n) H
abbrev q9(K:bw):RC:=λa H Q=>∃x c t b,a=[x,c]/\YA K H x t/\(∃T,c=.ty T/\fS K t (.type T)=U b)/\Q (.bl b) H
abbrev RM:=V->List V->Hp->VK->Prop
theorem sX(p:D){H:Hp}(h:H p=ak):aJ H (upd H p o):=λb u e=>by rw[zi (zw e h)];exact e
theorem yw:Bh "len"=U (.builtin "len"):=by lia
theorem yd:Bh "isinstance"=U (.builtin "isinstance"):=by lia
theorem kh:Bh "sorted"=U (.builtin "sorted"):=by lia
theorem zif:Bh "zip"=U (.type "zip"):=by lia
theorem zb7:Bh "str"=U (.type "str"):=by lia
theorem zeD:Bh "int"=U (.type "int"):=by lia
theorem zc1:Bh "bool"=U (.type "bool"):=by lia
theorem wV:Bh "list"=U (.type "list"):=by lia
theorem Y3:Bh "tuple"=U (.type "tuple"):=by lia
theorem zc2:Bh "dict"=U (.type "dict"):=by lia
section
variable {X:Cx}
def big:Int:=10^200
def yP(_ j:Int):Prop:=0<j/\j<big
def CMulB(i j:Int):Prop:=(-big<i/\i<big)/\(-big<j/\j<big)
theorem Vz{j:Int}(h:j.natAbs<10^200):j.natAbs.log2<700:=by
 by_cases h0:j.natAbs=0
 .rw[h0];decide
 .exact(Nat.log2_lt h0).mpr (b6 h ())
theorem QC{j:Int}(h:-big<j/\j<big):j.natAbs<10^200:=by
 have e:big=((10^200:Nat):Int):=by lia
 rw[e] at h;lia
theorem CMulB.ok{i j:Int}(h:CMulB i j):IntMulOk i j:=by
 have b:∀k:Int,(-big<k/\k<big)->dL k<=2^20:=λk a=>by
  have q:=Vz (QC a);unfold dL;split <;> lia
 exact .of_bits (b i h.1) (b j h.2)
theorem wW:tV X (binaryOp .Mult) (rI CMulB λi j=>.int (i*j)):=opI λ_ _ _ _ _ _ _ a q=>mul_int q a.ok
theorem yb:tV X (binaryOp .FloorDiv) (rI yP λi j=>.int (i/j)):=opI λi j _ _ _ _ _ a q=>by
 have b:(0:Int)<j:=a.1;refine floordiv_int () ?_ (.inl (mM (rJ (Vz (QC ⟨by have:=a.2;lia,a.2⟩)) ())));rw[Int.fdiv_eq_ediv_of_nonneg i ()];exact q
theorem y8:jZ X (.builtin "isinstance") (q9 X.K):=by
 intro m s i H j l Q I r h;obtain⟨x,c,t,b,rfl,a,⟨T,rfl,e⟩,q⟩:=h;obtain⟨u,k,rfl,g,f⟩:=zhC r;cases f;exact zdK I g a e λd=>⟨.bl b,H,I.tok d,Y,q⟩
def zig:V->Option Int->Option Int->Hp->VK->Prop:=λx a b H Q=>∃z,x=.str z/\z.length<=Bb/\Q (.str (gP z a b)) H
theorem zeE:SlR X zig:=by
 intro J s E H x v b a g p G Q I d m f e h;obtain⟨z,rfl,j,q⟩:=h;obtain⟨t,rfl⟩:=d;obtain⟨o,n,w,r⟩:=m;refine⟨"str",_,F.slot_str_getitem.lookup,oM _ _ _,?_⟩;obtain⟨l,C,B⟩:∃l:Option (Int×Tok),b=partValue l/\g=l.map (·.1):=by
  cases f with
  |none=>exact⟨ak,Y,Y⟩
  |int i t=>exact⟨U (i,t),Y,Y⟩
 obtain⟨u,A,y⟩:∃l:Option (Int×Tok),a=partValue l/\p=l.map (·.1):=by
  cases e with
  |none=>exact⟨ak,Y,Y⟩
  |int i t=>exact⟨U (i,t),Y,Y⟩
 subst C B A y;exact wpAny_getItem_str_slice (l:=l) (u:=u) (st:=ak) ⟨o,n,w,r⟩ rfl
  (post_val_or_str ⟨bO (Txt.slice_le z _ _) j,λc k=>⟨.str (gP z (l.map (·.1)) (u.map (·.1))),H,I.tok k,⟨c,Y⟩,q⟩⟩)
end
theorem aW.there{H:Hp}(x:aW P w H h a o):∃u,h.get? a=U u:=by
 cases o with
 |lst xs=>obtain⟨_,_,_,_,e⟩:=x;exact⟨_,e⟩
 |tup xs=>obtain⟨_,_,_,o,e,_⟩:=x;exact⟨_,e⟩
 |dK aI=>obtain⟨_,_,_,_,o,_,_,e,_⟩:=x;exact⟨_,e⟩
 |dT aI=>obtain⟨_,_,_,_,o,_,_,e,_⟩:=x;exact⟨_,e⟩
 |set S n=>obtain⟨o,_,_,_,e,_⟩:=x;exact⟨_,e⟩
 |ins C dx fs=>obtain⟨_,_,_,e,_⟩:=x;exact⟨_,e⟩
 |own y=>exact x
 |xd fs=>obtain⟨_,⟨o,_,_,e,_⟩,_⟩:=x;exact⟨_,e⟩
 |rng lo hi=>obtain⟨_,_,_,e⟩:=x;exact⟨_,e⟩
 |frz ob u=>obtain⟨e,_⟩:=x;exact⟨_,e⟩
 |tbl ps=>exact⟨_,(show h.get? a=U _ from x)⟩
 |met f y=>exact⟨_,(show h.get? a=U _ from x)⟩
 |ext φ=>obtain⟨_,e,_⟩:=x;exact e
def XF(g h:av)(H:Hp)(e:D)(c:ae):Prop :=
 ∃b a i T f d,h.get? e=U b/\(b.cls=c/\a[0]?=U i)/\b.data=.fields a/\a[1]?=U (.ref T)/\T≠e/\h.get? T=U f/\f.data=.fields d/\d[3]?=U .none /\
  g.get? e=ak/\g.get? T=ak/\H e=ak/\H T=ak
def ud(P:aq)(w:au):CXT:=λa H s E f b=>∃e c d,f=.ref e/\b.os=s.os/\AllBare b.gens/\Un (tP a) [] H d s.heap b.heap/\t8 P w d b.heap/\XF s.heap b.heap d e c/\E c ak d
theorem ki{g h:av}(k:∀b o,g.get? b=U o->∃a,h.get? b=U a)(e:h.get? b=ak):g.get? b=ak:=by
 cases q:g.get? b with
 |none=>rfl
 |some o =>
  obtain⟨a,z⟩:=k b o q;rw[e] at z;cases z
theorem XF.older{H:Hp}(x:XF g h H e cls)(k:∀b o,g'.get? b=U o->∃m,g.get? b=U m):XF g' h H e cls:=by
 obtain⟨j,f,y,T,l,i,w,v,u,t,s,r,q,p,n,d,c,a⟩:=x;exact⟨j,f,y,T,l,i,w,v,u,t,s,r,q,p,ki k n,ki k d,c,a⟩
section
variable {X:Cx}{aa:List (D×Obj)}{σ:St}{H:Hp}{s:af}
theorem aO.stackFields(J:aO X aa σ H s)(a:b∈tP X.stack):∃o,s.heap.get? b=U o/\∀vs,o.data≠.fields vs:=(J.stack.mem a).2
theorem aO.there0(a:X.ex=[])(J:aO X aa σ H s):∀b o,X.s₀.heap.get? b=U o->∃o',s.heap.get? b=U o':=λb o e=>J.base.there b o e (by rw[a];simp)
theorem aO.behind{cs:List D}(l:X.ex=[])(J:aO X aa σ H s)(d:∀b∈cs,H b=ak/\X.s₀.heap.get? b=ak) (r:∀b o,s.heap.get? b=U o->b ∉ tP X.stack->b ∉ cs->h2.get? b=U o) (C:∀b o,s.heap.get? b=U o->b∈tP X.stack->∃a,h2.get? b=U { o with slots:=a }) :
  Un X.fs [] X.H₀ H X.s₀.heap h2/\t8 X.prog X.w H h2:=by
 have B:Un X.fs [] X.H₀ H X.s₀.heap s.heap:=by have:=J.base;rw[l] at this;exact this
 have A:∀b o,X.s₀.heap.get? b=U o->b≠X.env.locals:=λb o e=>bW (b6 (bQ e) J.ok.above);have k:∀b o,X.s₀.heap.get? b=U o->b ∉ cs:=λb o e z=>by rw[(d b z).2] at e;cases e
 have g:∀b o,s.heap.get? b=U o->b ∉ cs->∃a,h2.get? b=U { o with slots:=a }:=λb o e n=>by
  by_cases hb:b∈tP X.stack
  .exact C b o e hb
  .exact⟨o.slots,r b o e hb n⟩
 refine⟨⟨λb o e n f _=>?_,λb o e n f _=>?_,B.free,λb o e f=>?_,B.tups,B.frzs,B.tbls⟩,λb u e=>?_⟩
 .refine r b o (B.keep b o e n f (by simp)) (λz=>?_) (k b o e);rcases bE.mp (J.stkSub b z) with q|q
  .exact A b o e q
  .exact f q
 .obtain⟨a,q⟩:=B.slot b o e n f (by simp);obtain⟨h,j⟩:=g b _ q (k b o e);exact⟨h,j⟩
 .obtain⟨y,q⟩:=B.there b o e (by simp);obtain⟨a,j⟩:=g b y q (k b o e);exact⟨_,j⟩
 .refine(J.hok b u e).stay (λc v hc q=>?_) (λ_ q=>q) λ_ _ q=>q;have t:H c≠ak:=by
   rcases hc with rfl|hc
   .rw[e];simp
   .rw[hc];simp
  exact r c v q (λz=>t (J.stkFree c z)) λz=>t (d c z).1
theorem aO.flown{cs:List D}(f:X.ex=[])(J:aO X aa σ H s)(a:∀b∈cs,H b=ak/\X.s₀.heap.get? b=ak) (A:∀b o,s.heap.get? b=U o->b ∉ tP X.stack->b ∉ cs->B.get? b=U o) (y:∀b o,s.heap.get? b=U o->b∈tP X.stack->∃h,h2.get? b=U { o with slots:=h }) (he:H e=ak) (k:X.s₀.heap.get? e=ak) (kb:B.StaysIn h2) (O:h2.TracedW B e cls a0) :
  Un X.fs [] X.H₀ H X.s₀.heap h2/\t8 X.prog X.w H h2/\XF X.s₀.heap h2 H e cls:=by
 have t:=J.behind (h2:=h2) f a (λb o q n1 n2=>kb b o (A b o q n1 n2)) y;refine⟨t.1,t.2,?_⟩;obtain⟨Q,M,T,r,n,h1,l,h3,h4,G,h6,E,C,h9⟩:=O;have d:∀o,s.heap.get? T=U o->T∈cs:=λo q=>by
  by_cases hb:T∈tP X.stack
  .obtain⟨g,j,nf⟩:=J.stackFields hb;obtain⟨h,z⟩:=y T g j hb;rw[E] at z;have I:r={ g with slots:=h }:=bI z;exact absurd (by rw[<-C,I]) (nf n)
  .by_cases hc:T∈cs
   .exact hc
   .rw[A T o q hb hc] at G;cases G
 refine⟨Q,M,a0,T,r,n,h1,l,h3,h4,h6,E,C,h9,k,?_,he,?_⟩
 .cases q:X.s₀.heap.get? T with
  |none=>rfl
  |some o =>
   obtain⟨g,j⟩:=J.there0 f T o q;rw[(a T (d g j)).2] at q;cases q
 .cases q:H T with
  |none=>rfl
  |some u =>
   obtain⟨o,z⟩:=(J.hok T u q).there;rw[(a T (d o z)).1] at q;cases q
theorem zdQ{k:av}{e:D}{d:ae}{p:List ae}{E:XK}{EE:ae->af->Prop}(c:X.stack=X.env::X.outer/\X.env.frame=U X.env.locals)(f:X.ex=[])(J:aO X aa σ H s)(g:Heap.MadeExcOf s.heap k e d p)(M:E d ak H) :
  Bf (Bg X.prog X.w) X.A (leaving X.env (.ref e)) (λ_ v=>ud X.prog X.w X.outer X.H₀ X.s₀ E (.ref e) v) EE { s with heap:=k }:=by
 have O:s.heap.FunFrames (gM s.heap (tP X.stack)) (X.env::X.outer):=by
  have q:=i4 (as:=tP X.stack) J.stack λl B a G=>gg.mpr ⟨l,B,G⟩;rw[c.1] at q ⊢;exact q
 refine wpAny_leaves_madeW (s:={ s with heap:=k }) (base:=gM s.heap (tP X.stack)) (h:=s.heap) (by rw[J.ok.frames,c.1]) c.2 (λb o q=>lX _ q) O g λN t j _ _ i=>?_;obtain⟨T,f2,f3,Q⟩:=j;have I:∀b o,s.heap.get? b=U o->b∈tP X.stack->∃r,N.get? b=U { o with slots:=r }:=λb o q C=>by
  obtain⟨o',m,A⟩:=J.stackFields C;rw[q] at m;cases m;exact i b o (g.keeps b o q) A
 obtain⟨y,x,w⟩:=J.flown (cs:=[]) f (λb z=>nomatch z) (λb o q n _=>lh _ q n) I
  (by
   cases q:H e with
   |none=>rfl
   |some u =>
    obtain⟨o,z⟩:=(J.hok e u q).there;rw[g.new] at z;cases z) (ki (J.there0 f) g.new) T Q
 exact⟨e,d,H,Y,J.os,J.bare,y,x,w,M⟩
theorem zeF{e:D}{d:ae}{E:XK}{EE:ae->af->Prop}(c:X.stack=X.env::X.outer/\X.env.frame=U X.env.locals)(i:X.ex=[])(J:aO X aa σ H s)(u:XF X.s₀.heap s.heap H e d)(hE:E d ak H) :
  Bf (Bg X.prog X.w) X.A (leaving X.env (.ref e)) (λ_ y=>ud X.prog X.w X.outer X.H₀ X.s₀ E (.ref e) y) EE s:=by
 obtain⟨G,v,a0,T,I,w,h1,h2,h3,h4,h5,h6,h7,h8,r,l,f,k⟩:=id u;have fr:s.heap.FunFrames (gM s.heap (tP X.stack++[e,T])) (X.env::X.outer):=by
  have q:=i4 (as:=tP X.stack++[e,T]) J.stack λm O a ha=>cr _ (gg.mpr ⟨m,O,ha⟩);rw[c.1] at q ⊢;exact q
 refine wpAny_leaves_onW (base:=gM s.heap (tP X.stack++[e,T])) (a0:=a0) (by rw[J.ok.frames,c.1]) c.2
  ⟨λb o q=>lX _ q,gc _ (bK _ (by simp)),fr,G,v,T,I,w,h1,h2,h3,h4,gc _ (bK _ (by simp)),h5,h6,h7,h8⟩ λj h g=>?_
 obtain⟨f1,f2,f3,f4⟩:=h;have hF:∀b o,s.heap.get? b=U o->b∈tP X.stack->∃x,j.get? b=U { o with slots:=x }:=λb o q Q=>by
  obtain⟨o',p,M⟩:=J.stackFields Q;rw[q] at p;cases p;exact g b o q M
 obtain⟨C,B,A⟩:=J.flown (cs:=[e,T]) i (λb z=>by
   have t:b=e\/b=T:=by simpa using z
   rcases t with rfl|rfl
   .exact⟨f,r⟩
   .exact⟨k,l⟩) (λb o q n N=>lh _ q λz=>(bu.mp z).elim n N) hF f r f1 f4
 exact⟨e,d,H,Y,J.os,J.bare,C,B,A,hE⟩
end
def zeG(X:Cx)(E:XK):Prop:=∀(f:List (D×Obj)) (c:St) (H:Hp) (s:af) (b:av) (e:D) (a:ae) (d:List ae),aO X f c H s->Heap.MadeExcOf s.heap b e a d->E a ak H->X.xe (.ref e) { s with heap:=b }
section
variable {P:aq}{w:au}{K:bw}{mg:Str->Option ae}{base:av}{N:List Str}{qual:Str}{scope:aA}{f:D}{cd:ae}{A:aw}{outer:List Env}{s₀:af}{H₀:Hp}{E:XK}
theorem vZ:wx (ud P w) (qU (ud P w) P w K mg base N qual scope f cd A outer s₀ H₀ E) E:=by
 intro o l H s n m I d;obtain⟨e,k,p,rfl,i,a,h,c,g,j⟩:=d;have J:=I.call' (ch:=[]) i h c a (λb z=>nomatch z);exact zeF (X:=qU (ud P w) P w K mg base N qual scope f cd A outer s₀ H₀ E) ⟨Y,Y⟩ Y J (g.older (I.there0 Y)) j
theorem zc3:zeG (qU (ud P w) P w K mg base N qual scope f cd A outer s₀ H₀ E) E:=by
 intro i d H s h e c g I a b;exact zdQ (X:=qU (ud P w) P w K mg base N qual scope f cd A outer s₀ H₀ E) ⟨Y,Y⟩ Y I a b
theorem zjw:PassesOwn (Bg P w) (qU (ud P w) P w K mg base N qual scope f cd A outer s₀ H₀ E).A (qU (ud P w) P w K mg base N qual scope f cd A outer s₀ H₀ E).env (qU (ud P w) P w K mg base N qual scope f cd A outer s₀ H₀ E).xe:=PassesOwn.leaving
end
abbrev zeH:List ae:=[.type "ValueError",.type "Exception",.type "BaseException",.type "object"]
abbrev QD:String:="ValueError.__new__"
def zb8(C:D)(c:TA)(E:XK):TS:=λ_ a H=>c a H λb d=>b.length<=Bb/\E (.ref C) ak d
theorem zgC{K:bw}{h:av}{C:D}{e:List ae}(X:K.In h)(q:sL K C e newId=ah) :
  ∃bm N o m v d l a w b u k j i g f y,h.get? C=U (excClassObj o m C N v bm d l a w b u k j i g f newId)/\h.Ns N y/\y "__init__"=ak/\OwnTail h e bm:=by
 unfold sL at q;split at q
 case h_2=>cases q
 rename_i u cd sl ho;split at q
 case h_2=>cases q
 rename_i C' bm k j i g n f hm hs;rw[bV,bV,bV,bV,bV] at q;obtain⟨⟨⟨⟨⟨G,E⟩,B⟩,A⟩,x⟩,z⟩:=q;obtain rfl:C'=C:=by simpa using G
 obtain rfl:n=newId:=by simpa using E
 obtain⟨o,v,p,H,m,I,l,a,w,b,t⟩:=cd;have c:t=ao:=by simpa using B
 have s:p=.ref C'::bm:=hm;subst c s;have r:sl=#[k,j,i,g,U (.builtin n),f]:=by
  apply Array.ext';exact hs
 subst r;exact⟨bm,H,o,m,v,I,l,a,w,b,u,k,j,i,g,f,_,X _ _ ho,.of_isNs (W.isNs_of_in X x),W.nsMap_none_of_in X x (by simpa using z),W.tail_of_in X A⟩
section
variable {X:Cx}{x:Str}{C:D}{np sZ pos:Pos}{e₀:ay}{rest:List ay}{ta:TA}{E:XK}
theorem zaO(v:X.calm=ah)(q:sL X.K C zeH QD=ah)(p:zeG X E)(t:Gl X x)(c:X.mg x=U (.ref C))(w:PA X (e₀::rest) ta) (f:Be (e₀::rest) X.env=(ao,eval e₀ X.env)::Be rest X.env:=by rfl) (r:(backTo sZ (Be rest X.env)).any (·.1)=ao:=by rfl) (u:(x==("__debug__":Str))=ao:=by lia) :
  PS X (.Raise (U (.Call (.Name x np) (e₀::rest) [] sZ)) ak pos) (zb8 C ta E):=by
 intro i s d H M I h;obtain⟨k,N,nm,n,bs,hdct,sn,sub,ab,col,dd,k0,k1,k2,k3,k5,mN,z,y,b,T⟩:=zgC I.ok.mod.kin q;refine wpAny_Raise_call_subT (C:=C) (nm:=nm) (q:=n) (N:=N) (bs:=bs) (bm:=k) (hdct:=hdct) (sn:=sn) (sub:=sub) (ab:=ab) (col:=col) (dd:=dd) (k0:=k0) (k1:=k1) (k2:=k2) (k3:=k3) (k5:=k5) (newId:=QD)
  PySem.F.excBase_ValueError (mN:=mN) (T.hasType PySem.F.excBase_ValueError.hasBase) (I.ok.hd v) (by rw[f];exact r) b (wT I t c ⟨Y,?_⟩ u)
 have g:=w sZ i s d H _ I h;rw[f] at g ⊢;refine dX (dl g ?_);rintro J l ⟨G,B,a,m,j,o⟩;exact⟨Y,by rw[<-m.length];exact j,a.bk _ _ z,y.keeps a.bk,T.keeps a.bk,λA e c=>p i d B l A e _ _ a c o⟩
end
def Asc(x:Str):Prop:=∀c∈x.cps.toList,c<128
section
variable {X:Cx}{e:ay}{te:TE}{a:Str}{j:Nat}{p1 p2 p3:Pos}
def zeI(te:TE):TE:=λb H Q=>te b H λv c=>∃x:Str,v=.str x/\x.length<=100000/\∀y:Str,Q (.str y) c
theorem zc4(o:PE X e te)(C:a.length<=1000:=by lia):PE X (.JoinedStr [.FormattedValue e (-1) ak p2,.Constant (.str a) j p1] p3) (zeI te):=by
 intro l s f H Q I h;refine wpAny_JoinedStr ?_;show Bf _ _ (eval (.FormattedValue e (-1) ak p2) X.env) _ _ s;refine wpAny_FormattedValue_plain (dl (o l _ f H _ I h) ?_);rintro v m ⟨x,w,r,n,z,p,A,q⟩;subst p;obtain⟨t,rfl⟩:=n;have B:Bb=16777216:=bH;have k:(nZ++z).length=z.length:=by rw[mO];simp[nZ,iH]
 have fin:∀(i:Tok) (g:Nat),∃y u,ic z i=ic y u/\(nZ++y).length<=Bb/\Joins (Bg X.prog X.w) X.A X.xe (evalEach [.Constant (.str a) j p1] X.env) (nZ++y) (λc b=>c.length<=Bb/\EP X l f Q (.str c b.toks) { b with toks:=b.toks+1 }) { m with toks:=g }:=λi g=>by
  refine⟨_,_,Y,by rw[k];lia,?_⟩;show Bf _ _ (eval (.Constant (.str a) j p1) X.env) _ _ _;have d:(nZ++z++a).length<=Bb:=by rw[mO,k];lia
  refine pK ⟨a,_,Y,d,d,.str _,w,r.tok _,⟨_,Y⟩,q _⟩
 exact wpAny_formatField_str (fin _ _) (fin _ _) ()
end
structure ExC(K:bw)(C:D):Prop where
 ga:fA K (.ref C) "__getattribute__"=U (U (.builtin "BaseException.__getattribute__"))
 gx:fA K (.ref C) "__getattr__"=U ak
 cl:fA K (.ref C) "__class__"=U (U (.builtin "object.__class__"))
 ob:sJ K C (.type "object")=U ah
 be:sJ K C (.type "BaseException")=U ah
 ge:sk K (.builtin "object.__class__") "__get__"=U (U (.builtin "getset_descriptor.__get__"))
 tk:W.takesIn K (.builtin "object.__class__")=U ah
section
variable {X:Cx}{aa:List (D×Obj)}{σ:St}{H:Hp}{s:af}
theorem aO.land{t:List D}(a:X.ex=[])(I:aO X aa σ H s)(h:∀b∈t,H b=ak/\X.s₀.heap.get? b=ak)(j:∀b∈t,∀p∈X.pn++aa,p.1≠b) (G:∀b o,s.heap.get? b=U o->b ∉ tP X.stack->b ∉ t->h2.get? b=U o) (g:s.heap.UpToSlots h2):aO X aa σ H { s with heap:=h2 }:=by
 have hF:∀b o,s.heap.get? b=U o->b∈tP X.stack->∃y,h2.get? b=U { o with slots:=y }:=λb o q hb=>by
  obtain⟨o',A,f⟩:=I.stackFields hb;rw[q] at A;cases A;exact g b o q f
 obtain⟨O,M⟩:=I.behind a h G hF;have J:∀c v,s.heap.IsCell c v->h2.IsCell c v:=λc v ⟨o,Q,E⟩=>by
  obtain⟨y,q⟩:=g c o Q λvs z=>by rw[E] at z;cases z
  exact⟨_,q,E⟩
 refine⟨I.ok,I.os,I.bare,by rw[a];exact O,?_,λx c e=>?_,I.free,I.freeC,λp C=>?_,M,I.len⟩
 .obtain⟨m,T,hl⟩:=I.loc;refine⟨m,g.ns T,λi x v e1 e2 e3=>?_⟩;obtain⟨u,r,l⟩:=hl i x v e1 e2 e3;refine⟨u,r,?_⟩;rcases l with l|⟨k,c,e,z⟩
  .exact .inl l
  .exact .inr ⟨k,c,e,J c _ z⟩
 .obtain⟨v,z⟩:=I.cell x c e;exact⟨v,J c v z⟩
 .obtain⟨e,n,B,f,d⟩:=I.pin p C;exact⟨G _ _ e (λz=>(bE.mp (I.stkSub _ z)).elim B f) λz=>j _ z p C Y,n,B,f,d⟩
end
abbrev Cx.sub(X:Cx)(e:D):Cx:={ X with A:=X.A.mark (U (.ref e)),calm:=ao,xe:=λ_ _=>False }
section
variable {X:Cx}{aa:List (D×Obj)}{σ:St}{H:Hp}{s:af}{e:D}
theorem aO.toSub(I:aO X aa σ H s):aO (X.sub e) aa σ H s :=
 ⟨⟨I.ok.mod,I.ok.kind,I.ok.glob,I.ok.blt,I.ok.above,I.ok.inj,I.ok.has,I.ok.cab,(),I.ok.frames,I.ok.stk,I.ok.exf,I.ok.bs,I.ok.bsz,I.ok.noex,I.ok.exfs,I.ok.funs,I.ok.frf⟩,I.os,I.bare,I.base,I.loc,I.cell,I.free,I.freeC,I.pin,I.hok,I.len⟩
theorem aO.ofSub{J:aO X aa σ H s}{a:St}{b:Hp}(I:aO (X.sub e) aa a b s'):aO X aa a b s':=
 ⟨J.ok,I.os,I.bare,I.base,I.loc,I.cell,I.free,I.freeC,I.pin,I.hok,I.len⟩
end
abbrev EXK:=ae->St->Hp->Prop
def PX(X:Cx)(g:List (D×Obj))(j:EXK):ae->af->Prop:=λh f=>∃e a b d i c,h=.ref e/\aO X g b i d/\aO X g b c f/\XF d.heap f.heap c e a/\j a b c
def PEX(X:Cx)(d:ay)(t:EXK->TE):Prop :=
 ∀(b:List (D×Obj)) (s:af) (a:St) (H:Hp) (Q:VK) (c:EXK),aO X b a H s->t c a H Q->Bf (Bg X.prog X.w) X.A (eval d X.env) (EP X b a Q) (PX X b c) s
def PSX(X:Cx)(st:ax)(t:EXK->TS):Prop :=
 ∀(a:List (D×Obj)) (s:af) (b:St) (H:Hp) (d:qT) (c:EXK),aO X a b H s->t c d b H->Bf (Bg X.prog X.w) X.A (exec st X.env) (SP X a d) (PX X a c) s
section
variable {X:Cx}{ex:ay}{tx:EXK->TE}{pos p1:Pos}{i:Nat}{y:Str}
def zhG(tx:EXK->TE)(i:Nat)(c:EXK):TS:=λd a H=>tx c a H λv b=>d.nx (a.set i (U v)) b
theorem zgD(k:X.N.Nodup)(f:X.N[i]?=U y)(d:Loc X.env.scope y)(j:PEX X ex tx)(e:swapsWith ex (U (.Name y pos')) pos.line X.env=pure ao:=by rfl)(g:X.fn y=ah\/X.env.scope.names.lookup y=U .local:=by first|exact .inl rfl|exact .inr rfl|assumption) :
  PSX X (.Assign [.Name y pos'] ex pos) (zhG tx i):=by
 intro l s a H t p I h;refine wpAny_Assign_Name (dl (j l s a H _ p I h) ?_) e;rintro v r ⟨x,o,n,b,c⟩;exact Vp n k f d b (λq m=>⟨_,o,m,c⟩) g
end
structure ExK(K:bw)(C:D):Prop extends ExC K C where
 has:(W.clsIn K C).isSome=ah
theorem zx :wx (ud P w) X E0:=λ_ _ _ _ _ _ _ h=>by
 obtain⟨_,_,_,_,_,_,_,_,_,z⟩:=h;exact z.elim
section
variable {P:aq}{w:au}{K:bw}{mg:Str->Option ae}{base:av}
theorem Fun.ok1{x qual:Str}{st:ax}{f:D}{fd:Bc}{N d:List Str}{k:Nat}{sp:Sp}(F:Fun K x qual st f fd)(S:aL N d (zk st))(e:∀b H Q E,sp b H Q E->b.length=d.length) (c:∀(cdv:ae) (A:aw) (a:List Env) (s:af) (H:Hp) (b:List V) (Q:VK) (E:XK),sV k (A.deeper (envOfC qual (zk st) s.heap.objs.size f cdv))->sp b H Q E ->
   ∃t,PSs (qU (ud P w) P w K mg base N qual (zk st) f cdv A a s H E) (x8 st) t/\t { nx:=λ_ l=>Q .non l,rt:=Q } (start N b) H):hZ P w K mg base (ud P w) (k+1) f fd d sp:=by
 obtain⟨oc,od,kV,doc,pm,an,cdv,ct,osl,rfl,i,h⟩:=F.ex;exact zhD i h S e λA a s H b Q E j g=>c cdv A a s H b Q E j g
theorem Fun.ok0{x qual:Str}{st:ax}{f:D}{fd:Bc}{N g:List Str}{k:Nat}{sp:Sp}(F:Fun K x qual st f fd)(S:aL N g (zk st))(i:∀d H Q E,sp d H Q E->d.length=g.length) (e:∀(cdv:ae) (A:aw) (c:List Env) (s:af) (H:Hp) (d:List V) (Q:VK) (E:XK),sV k (A.deeper (envOfC qual (zk st) s.heap.objs.size f cdv))->sp d H Q E ->
   ∃t,PSs (qU (ud P w) P w K mg base N qual (zk st) f cdv A c s H E).nox (x8 st) t/\t { nx:=λ_ l=>Q .non l,rt:=Q } (start N d) H):hZ P w K mg base (ud P w) (k+1) f fd g sp :=
 F.ok1 S i λcdv A c s H d Q E j h=>let ⟨t,a,b⟩:=e cdv A c s H d Q E j h;⟨t,a.nox,b⟩
end
theorem zi5{l:pO}{n k:Nat}{q:aq}{c:List Str}{J:(Str->Option ae)->av->Prop}{r:au->av->Prop}{d:DefRec}{K:Params->bw}{sp:bw->Sp}{x:Str}
  (B:l.most=U n) (j:n<=Bb) (m:d.params.defaults=[]) (A:sV k callerA) (C:∀(w:au) (h:av),r w h->(K w.params).In h) (F:∀(w:au) (g:Str->Option ae) (p:D) (h:av),(K w.params).In h->h.Ns Bd g->g d.name=U (.ref p) ->
   ∃o:Bc,(∀(s:af) (u:ae),BindsTo s o ⟨[u],[]⟩ [(x,u)]) /\
    ∀b:av,(K w.params).In b->b.Ns Bd g->hZ l.prog w (K w.params) g b (ud l.prog w) k p o [x] (sp (K w.params))) (i:∀(K:bw) (H:Hp) (a:D) (e:List Int),e.length<=n->zb6 H->aQ K H a (e.map V.int)->sp K [.ref a] H (λv _=>v=.bl ah) λ_ _ _=>False) :
  sK q c J r l.row.toRowW d [] (λf t=>mK f t) :=
 zcW (K:=K) (CX:=λw=>ud l.prog w) (sp:=λw=>sp (K w.params)) B j m A C F (λw H a e I G E=>i (K w.params) H a e I G E) λ_ _ _ _ _ z=>by
  obtain⟨_,_,_,_,_,_,_,_,_,y⟩:=z;exact y
end L2
namespace L2
open PySem
section
variable {σ:St}{H:Hp}{nx:St->Hp->Prop}{B:V->St->Hp->(St->Hp->Prop)->Prop}
theorem k8{lo:Int}(Pv:Nat->St->Hp->Prop)(g:Pv 0 σ H)(e:∀i σ H,i<n->Pv i σ H->B (.int (lo+i)) σ H (Pv (i+1)))(f:∀σ H,Pv n σ H->nx σ H) :
  ∃W:Nat->Nat->St->Hp->Prop,(∃m,W 0 m σ H)/\∀i m σ H,W i m σ H->((Itr lo n).stop i H/\nx σ H)\/((Itr lo n).go i H/\∃N:St->Hp->Prop,(∀a b,N a b->∃c,c<m/\W (i+1) c a b)/\∀x b,(Itr lo n).yld i H x b->B x σ b N):=by
 refine⟨λi m σ H=>m=n-i/\i<=n/\Pv i σ H,⟨n,by simp,bS _,g⟩,?_⟩;rintro i m σ H ⟨rfl,h,p⟩;by_cases hlt:i<n
 .refine .inr ⟨hlt,Pv (i+1),λa b d=>⟨n-(i+1),(),Y,hlt,d⟩,?_⟩;rintro x b ⟨rfl,rfl⟩;exact e i σ _ hlt p
 .obtain rfl:i=n:=by lia
  exact .inl ⟨bp _,f σ H p⟩
theorem yM(b:List V)(Pv:Nat->St->Hp->Prop)(k:Pv 0 σ H)(h:∀i σ H,Pv i σ H->aQ K H a b)(g:∀i x σ H,b[i]?=U x->Pv i σ H->B x σ H (Pv (i+1)))(j:∀σ H,Pv b.length σ H->nx σ H) :
  ∃W:Nat->Nat->St->Hp->Prop,(∃m,W 0 m σ H)/\∀i m σ H,W i m σ H->((Itl K a).stop i H/\nx σ H)\/((Itl K a).go i H/\∃N:St->Hp->Prop,(∀c d,N c d->∃e,e<m/\W (i+1) e c d)/\∀x d,(Itl K a).yld i H x d->B x σ d N):=by
 refine⟨λi m σ H=>m=b.length-i/\i<=b.length/\Pv i σ H,⟨b.length,by simp,bS _,k⟩,?_⟩;rintro i m σ H ⟨rfl,l,p⟩;have q:=h i σ H p;by_cases hlt:i<b.length
 .refine .inr ⟨⟨b,b[i],q,by simp[hlt]⟩,Pv (i+1),λc d f=>⟨b.length-(i+1),(),Y,hlt,f⟩,?_⟩;rintro x d ⟨rfl,y⟩;exact g i x σ _ (y b q) p
 .obtain rfl:i=b.length:=by lia
  exact .inl ⟨⟨b,q,bp _⟩,j σ H p⟩
theorem zeJ(b:List V)(Pv:Nat->St->Hp->Prop)(k:Pv 0 σ H)(h:∀i σ H,Pv i σ H->sW K H a b)(g:∀i x σ H,b[i]?=U x->Pv i σ H->B x σ H (Pv (i+1)))(j:∀σ H,Pv b.length σ H->nx σ H) :
  ∃W:Nat->Nat->St->Hp->Prop,(∃m,W 0 m σ H)/\∀i m σ H,W i m σ H->((Itt K a).stop i H/\nx σ H)\/((Itt K a).go i H/\∃N:St->Hp->Prop,(∀c d,N c d->∃e,e<m/\W (i+1) e c d)/\∀x d,(Itt K a).yld i H x d->B x σ d N):=by
 refine⟨λi m σ H=>m=b.length-i/\i<=b.length/\Pv i σ H,⟨b.length,by simp,bS _,k⟩,?_⟩;rintro i m σ H ⟨rfl,l,p⟩;have q:=h i σ H p;by_cases hlt:i<b.length
 .refine .inr ⟨⟨b,b[i],q,by simp[hlt]⟩,Pv (i+1),λc d f=>⟨b.length-(i+1),(),Y,hlt,f⟩,?_⟩;rintro x d ⟨rfl,y⟩;exact g i x σ _ (y b q) p
 .obtain rfl:i=b.length:=by lia
  exact .inl ⟨⟨b,q,bp _⟩,j σ H p⟩
end
theorem zeK{J:It}{l:D}{f:St}{k:Hp}{Q:Hp->Prop}{B:V->St->Hp->(V->St->Hp->Prop)->(St->Hp->Prop)->Prop}(n:Nat)(hn:n<=1000000)(C:St->Prop)(R:Nat->V->Prop)(hC:C f) (go:∀i H,aJ k H->i<n->J.go i H) (p:∀H,aJ k H->J.stop n H) (hD:k l=ak) (T:∀i x g H d,C g->aJ k H->i<n->J.yld i H x d->B x g d (λv a w=>C a/\R i v/\aJ H w) (λ_ _=>False)) (hd:∀c H,c.length=n->(∀i v,c[i]?=U v->R i v)->aJ k H->H l=U (.lst c)->Q H) :
  ∃W:Nat->Nat->List V->St->Hp->Prop,(∃m,W 0 m [] f (upd k l (.lst [])))/\∀i m c g H,W i m c g H->H l=U (.lst c) /\
  ((J.stop i H/\Q H)\/(J.go i H/\c.length<Bb/\∃N:V->St->Hp->Prop,
   (∀v a d,N v a d->d l=U (.lst c)/\∃q,q<m/\W (i+1) q (c++[v]) a (upd d l (.lst (c++[v]))))/\∃M:St->Hp->Prop,(∀a d,M a d->∃q,q<m/\W (i+1) q c a d) /\
   ∀x d,J.yld i H x d->B x g d N M)):=by
 have t:∀ {H:Hp} {o:HO},aJ k H->aJ k (upd H l o):=λ{H o} h b u e=>by
  rw[zi (zw e hD)];exact h b u e
 refine⟨λi m c g H=>m=n-i/\i<=n/\c.length=i/\(∀j v,c[j]?=U v->R j v)/\aJ k H/\H l=U (.lst c)/\C g,⟨n,by simp,bS _,Y,by simp,t (aJ.refl _),zh,hC⟩,?_⟩;rintro i m c g H ⟨rfl,hi,E,I,s,A,hc⟩;refine⟨A,?_⟩;by_cases hlt:i<n
 .refine .inr ⟨go i H s hlt,bT (by lia:c.length<=1000000) (),(λv a w=>C a/\R i v/\aJ H w),?_,(λ_ _=>False),λ_ _ z=>z.elim,λx d y=>T i x g H d hc s hlt y⟩;rintro v a w ⟨c4,O,G⟩;refine⟨G _ _ A,n-(i+1),(),Y,hlt,by simp[E],λj u r=>?_,t (s.trans G),zh,c4⟩;rcases Nat.lt_trichotomy j c.length with h|h|h
  .exact I j u (by rwa [cF h] at r)
  .subst h;simp at r;subst r;rw[E];exact O
  .rw[cG (by simp;lia)] at r;cases r
 .obtain rfl:i=n:=by lia
  exact .inl ⟨p H s,hd c H E I s A⟩
theorem QE(n d:Nat)(v:Int):max (0:Int) (min (if v<0 then v+n else v) n)=((HT.sIx n d (U v):Nat):Int):=by
 show _=(((if v<0 then (v+(n:Int)).toNat else min v.toNat n):Nat):Int);by_cases hv:v<0
 .simp only[ap hv];lia
 .simp only[am hv];lia
theorem zgE(a b:Nat):sliceRange (a:Int) (b:Int) 1=(eB (b-a)).map λk=>a+k:=by
 simp only[sliceRange,show ((1:Int) > 0)=True from by simp,if_true];by_cases hlt:(a:Int)<b
 .have c:(((b:Int)-a+1-1)/1).toNat=b-a:=by rw[Int.ediv_one];lia
  simp only[hlt,if_true,c];refine dy λk _=>?_;lia
 .have:b-a=0:=by lia
  simp[hlt,this]
theorem zeL(lo a:Option Int)(n:Nat):lK lo a 1 n=(eB (HT.sIx n n a-HT.sIx n 0 lo)).map λk=>HT.sIx n 0 lo+k:=by
 rw[<-zgE];unfold lK;simp only[show ((1:Int) > 0)=True from by simp,if_true];cases lo with
 |none =>
  cases a with
  |none=>rfl
  |some v=>simp only[QE n n v];rfl
 |some u =>
  cases a with
  |none=>simp only[QE n 0 u];rfl
  |some v=>simp only[QE n n v,QE n 0 u]
theorem KL(x:Str)(lo a:Option Int):(gP x lo a).cps.toList=(x.cps.toList.drop (HT.sIx x.length 0 lo)).take (HT.sIx x.length x.length a-HT.sIx x.length 0 lo):=by
 have c:=HT.sIx_le x.length x.length (bp _) a;have b:x.cps.toList.length=x.length:=by simp[iH]
 unfold gP;rw[zeL];split
 .rename_i h;have d:HT.sIx x.length x.length a-HT.sIx x.length 0 lo=x.length:=by simpa using h
  have e0:HT.sIx x.length 0 lo=0\/x.length=0:=by lia
  rcases e0 with e0|e0
  .rw[e0,iO,cL];lia
  .rw[f9 (by lia:x.cps.toList.length=0)];simp
 .by_cases hab:HT.sIx x.length 0 lo<=HT.sIx x.length x.length a
  .have h:=StrLaws.picks x.cps.toList (HT.sIx x.length x.length a-HT.sIx x.length 0 lo) (HT.sIx x.length 0 lo) ();simpa using h
  .have:HT.sIx x.length x.length a-HT.sIx x.length 0 lo=0:=by lia
   rw[this];simp
theorem VA(x:Str)(k:Nat):(gP x (U (k:Int)) ak).cps.toList=x.cps.toList.drop k:=by
 rw[KL,HT.sIx_none,HT.sIx_nat];have a:x.cps.toList.length=x.length:=by simp[iH]
 by_cases h:k<=x.length
 .rw[dI h,cL (by rw[cI];lia)]
 .rw[nS (by lia:x.cps.toList.length<=k),i7 (),nS ()];simp
theorem zaP(x:Str)(k:Nat):(gP x ak (U (k:Int))).cps.toList=x.cps.toList.take k:=by
 rw[KL,HT.sIx_none,HT.sIx_nat,iO,rK];have a:x.cps.toList.length=x.length:=by simp[iH]
 by_cases h:k<=x.length
 .rw[dI h]
 .rw[i7 (),cL (),cL ()]
theorem zgF{x y:Str}(h:x.cps.toList=y.cps.toList):x=y:=by
 obtain⟨a⟩:=x;obtain⟨b⟩:=y;have:a=b:=nJ.mp h;rw[this]
theorem zgG(x y:Str):(x++y).cps.toList=x.cps.toList++y.cps.toList:=by
 show (x.cps++y.cps).toList=_;simp
open PySem.NumText in
section
def zjx(w:Int):Str:=bh (toString w)
def dg(m:Nat):List Nat:=(Nat.toDigits 10 m).map Char.toNat
theorem Y4(x:Str):x.length=x.cps.toList.length:=by simp[iH]
def inF(c:Nat):Bool:=!(ii "0123456789" ⟨#[c]⟩ 0 (iH "0123456789") 1).isEmpty
def zi6(x:Str):Bool:=!decide (x="")&&x.cps.toList.all inF
def tw(i:Int):Bool:=decide (-1000000000000000000000000000000<=i/\i<=1000000000000000000000000000000)
def zhH(x:Str):Str:=if (x.cps.toList.take 1==[45])=ah then gP x (U 1) ak else x
def zeM(x:Str):Int:=(intText? x).getD 0
def zi7(x:Str):Bool:=!(decide (31<(zhH x).length) || !zi6 (zhH x))&&(tw (zeM x)&&decide (zjx (zeM x)=x))
end
end L2
namespace L2
open PySem PySem.Spec PyProof.Rows
def zc5(x y:Str):Int:=match ii x y 0 x.length 1 with|i::_=>(i:Int)|[]=>-1
abbrev KM:RM:=λx c H Q=>∃a b,x=.str a/\c=[.str b]/\Q (.int (zc5 a b)) H
def KN(a:Str):List Str->Str
 |[p]=>p
 |l=>mP a l
def zeN(a:Str)(b:List Str):Nat:=b.foldl (λn p=>n+p.length+a.length) 0
abbrev X0(K:bw):RM:=λx d H Q=>∃b a c,x=.str b/\d=[.ref a]/\aQ K H a (c.map V.str)/\zeN b c<=Bb/\Q (.str (KN b c)) H
theorem QF(a:Str):∀(b:List Str) (k:Nat),b.foldl (λn p=>n+p.length+a.length) k=k+(b.map (·.length)).sum+b.length*a.length
 |[],k=>by simp
 |p::r,k=>by
  rw[fc,QF a r,bx,cM,bU,Nat.add_mul,Nat.one_mul];lia
theorem zdR(a:Str)(ls:List Str):(KN a ls).length<=zeN a ls:=by
 unfold zeN;rw[QF];have g:(mP a ls).length<=0+(ls.map (·.length)).sum+ls.length*a.length:=by
  rw[size_glued];have:(ls.length-1)*a.length<=ls.length*a.length:=Nat.mul_le_mul_right _ ();lia
 unfold KN;split
 .simp only[bx,ot,cM,List.sum_nil,bU,om];lia
 .exact g
theorem zeO(b:List Str):(KN "" b).cps.toList=(b.map λp=>p.cps.toList).flatten:=by
 have g:∀(r:List Str) (a:Array Nat),(r.foldl (λc p=>c++(bh "").cps++p.cps) a).toList=a.toList++(r.map λp=>p.cps.toList).flatten:=by
  intro r;induction r with
  |nil=>intro a;simp
  |cons p r ih =>
   intro a;have e:(bh "").cps=#[]:=by lia
   rw[fc,ih,e];simp
 unfold KN;split
 .simp
 .unfold mP;cases b with
  |nil=>lia
  |cons p r=>exact g r p.cps
theorem KO:∀ {b:List Str} {a:List ae},aR (b.map V.str) a->∃l:List (Str×Tok),a=strValues l/\l.map (·.1)=b
 |[],_,.nil=>⟨[],Y,Y⟩
 |x::r,_,.cons h t=>by
  obtain⟨l,rfl,e⟩:=KO t;obtain⟨k,rfl⟩:=h;exact⟨(x,k)::l,Y,by rw[bx,e]⟩
section
variable {X:Cx}
theorem zgH:MtR X "str.find" KM:=by
 intro j s f H x g v i Q I d e h;obtain⟨a,b,rfl,rfl,q⟩:=h;obtain⟨t,rfl⟩:=d;obtain⟨u,rfl,c,rfl⟩:=jm e;exact call_gives F.slot_str_find (oM s a t) F.entry_str_find (F.args_str_find_2 _ _) (gives_str_find a b t c) ⟨.int (zc5 a b),H,I.tok _,⟨_,Y⟩,q⟩
theorem zgI:MtR X "str.join" (X0 X.K):=by
 intro B s w H x y v z Q I g j h;obtain⟨b,a,m,rfl,rfl,o,c,q⟩:=h;obtain⟨t,rfl⟩:=g;obtain⟨u,rfl,k⟩:=jm j;cases k;obtain⟨n,i,p,A⟩:=I.list o;obtain⟨l,rfl,e⟩:=KO i;have f:pB ((l.map (·.1)).toArray.foldl (· + ·.length+b.length) 0)=ao:=by
  rw[e,List.foldl_toArray];unfold pB;exact Bk (by unfold zeN at c;lia)
 have d:=zdR b m;refine iI F.slot_str_join (oM s b t) F.entry_str_join (F.args_str_join_2 _ _) (meets_str_join_list b t a l f) ⟨p.isList,?_⟩;subst e
 match l,q,d,c with
 |[],q,d,c=>exact⟨bO d c,.str _,H,I.tok _,⟨_,Y⟩,q⟩
 |[p],q,d,c=>exact⟨.str p.1,H,I,⟨_,Y⟩,q⟩
 |p::p'::r,q,d,c=>exact⟨bO d c,.str _,H,I.tok _,⟨_,Y⟩,q⟩
end
theorem vL(x y:Str):(x++y).length=x.length+y.length:=mO x y
def zhI(_ j:Int):Prop:=j≠0/\-big<j/\j<big
section
variable {X:Cx}
theorem zeP:tV X (binaryOp .FloorDiv) (rI zhI λi j=>.int (i.fdiv j)):=opI λi j _ _ _ _ _ a q =>
 floordiv_int a.1 q (.inl (mM (rJ (Vz (QC a.2)) ())))
end
theorem QG(r:sV k A):A.units+64<cLine:=by have:=r.un;lia
def qV:V->PyData
 |.non=>.none
 |.bl b=>.bool b
 |.int i=>.int i
 |.str x=>.str x
 |_=>.none
def yT:V->Bool
 |.non=>ah
 |.bl _=>ah
 |.int _=>ah
 |.str x=>ca x
 |_=>ao
theorem Asc.flat(h:Asc x):yT (.str x)=ah:=by
 unfold yT ca;rw[Array.all_eq_true];intro i a;have:=h x.cps[i] (by simp);exact Bj ()
def zih:V->V->Bool
 |.bl _,.int _=>ao
 |.int _,.bl _=>ao
 |_,_=>ah
def QH:List V->List V->Bool
 |x::xs,y::ys=>zih x y&&QH xs ys
 |_,_=>ah
theorem v0:∀ {c:List V} {d:List ae},c.all yT=ah->aR c d->CarriedAll d (c.map qV)
 |[],_,_,.nil=>.nil
 |x::r,_,h,.cons rx t=>by
  rw[gD,bV] at h;refine .cons ?_ (v0 h.2 t);cases x with
  |non=>cases rx;exact .none
  |bl b=>cases rx;exact .bool b
  |int i=>obtain⟨t,rfl⟩:=rx;exact .int i t
  |str x=>obtain⟨t,rfl⟩:=rx;exact .str x t
  |byt b=>exact absurd h.1 (by simp[yT])
  |flt b=>exact absurd h.1 (by simp[yT])
  |ref a=>exact absurd h.1 (by simp[yT])
  |ty n=>exact absurd h.1 (by simp[yT])
theorem zeQ(d:yT x=ah)(c:yT y=ah):sw (qV x) (qV y)=decide (x=y):=by
 cases x <;> cases y <;> simp_all [yT,qV,sw] <;> (rename_i a b;by_cases e:a=b <;> simp[e])
theorem Za:∀ {d c:List V},d.all yT=ah->c.all yT=ah->mj (d.map qV) (c.map qV)=decide (d=c)
 |[],[],_,_=>by simp[mj]
 |[],_::_,_,_=>by simp[mj]
 |_::_,[],_,_=>by simp[mj]
 |x::r,y::t,hx,hy=>by
  rw[gD,bV] at hx hy;rw[bx,bx,mj,zeQ hx.1 hy.1,Za hx.2 hy.2];by_cases a:x=y <;> by_cases b:r=t <;> simp[a,b]
theorem zdS(b:yT x=ah)(a:yT y=ah)(h:zih x y=ah):pC (qV x) (qV y)=ah:=by
 cases x <;> cases y <;> simp_all [yT,qV,pC,zih]
theorem k9:∀ {b a:List V},b.all yT=ah->a.all yT=ah->QH b a=ah->iP (b.map qV) (a.map qV)=ah
 |[],[],_,_,_=>by simp[iP]
 |[],_::_,_,_,_=>by simp[iP]
 |_::_,[],_,_,_=>by simp[iP]
 |x::r,y::t,hx,hy,h=>by
  rw[gD,bV] at hx hy;rw[QH,bV] at h;rw[bx,bx,iP,zdS hx.1 hy.1 h.1,k9 hx.2 hy.2 h.2];rfl
theorem qc{b:List V}(h:b.all yT=ah):iU (.list (b.map qV))=ah/\iU (.tuple (b.map qV))=ah:=by
 have a:∀x,yT x=ah->(qV x).canLay0=ah/\(qV x).depth=0:=λx=>by cases x <;> simp[qV,fG,mo,yT]
 have l:∀c:List V,c.all yT=ah->gF (c.map qV)=ah/\gq (c.map qV)=0:=by
  intro c;induction c with
  |nil=>exact λ_=>⟨Y,Y⟩
  |cons y r ih =>
   intro h;rw[gD,bV] at h;exact⟨by rw[bx,gF,(a y h.1).1,(ih h.2).1];rfl,by rw[bx,gq,(a y h.1).2,(ih h.2).2];rfl⟩
 exact⟨by simp[iU,fG,mo,(l b h).1,(l b h).2],by simp[iU,fG,mo,(l b h).1,(l b h).2]⟩
abbrev zi8(K:bw)(e:Bool):R2:=λx y H Q=>∃a b d c,x=.ref a/\y=.ref b/\aQ K H a d/\aQ K H b c/\(d.all yT=ah/\c.all yT=ah/\QH d c=ah)/\Q (.bl (if e then !decide (d=c) else decide (d=c))) H
section
variable {X:Cx}
theorem zii(l:X.A.units+64<cLine):tV X (Bi .Eq) (zi8 X.K ao):=by
 intro A s p H x y v u Q I f e h;obtain⟨a,b,t,r,rfl,rfl,n,m,⟨d,c,o⟩,q⟩:=h;cases f;cases e;obtain⟨z,i,k,_⟩:=I.list n;obtain⟨w,g,j,_⟩:=I.list m;refine eq_dataH_same (nh k.isList (v0 d i)) (nh j.isList (v0 c g)) (qc d).1 (qc c).1 l (by rw[pC];exact k9 d c o) ?_;rw[sw,Za d c];exact⟨.bl _,H,I,Y,q⟩
theorem zij(l:X.A.units+64<cLine):tV X (Bi .NotEq) (zi8 X.K ah):=by
 intro A s p H x y v u Q I f e h;obtain⟨a,b,t,r,rfl,rfl,n,m,⟨d,c,o⟩,q⟩:=h;cases f;cases e;obtain⟨z,i,k,_⟩:=I.list n;obtain⟨w,g,j,_⟩:=I.list m;refine ne_dataH_same (nh k.isList (v0 d i)) (nh j.isList (v0 c g)) (qc d).1 (qc c).1 l (by rw[pC];exact k9 d c o) ?_;rw[sw,Za d c];exact⟨.bl _,H,I,Y,q⟩
abbrev QI(K:bw):R2:=λx y H Q=>∃a b c,x=.ref a/\y=.ref b/\aQ K H a c/\aQ K H b []/\Q (.bl (decide (c=[]))) H
theorem VB(p:X.A.units+64<cLine):tV X (Bi .Eq) (QI X.K):=by
 intro t s k H x y v u Q I f d h;obtain⟨a,b,c,rfl,rfl,i,g,q⟩:=h;by_cases e:c=[]
 .subst e;exact zii p t s k H _ _ v u Q I f d ⟨a,b,[],[],Y,Y,i,g,⟨Y,Y,Y⟩,q⟩
 .cases f;cases d;obtain⟨A,m,o,_⟩:=I.list i;obtain⟨w,l,n,_⟩:=I.list g;cases l;have j:=m.length;have r:c.length≠0:=λz=>e (f9 z);refine PySem.SeqAt.eq_list_lengthsAt o.isList n.isList (by simp;intro z;rw[z] at j;exact r j) () ?_;rw[Bk e] at q;exact⟨.bl ao,H,I,Y,q⟩
end
abbrev yo:RM:=zcU
abbrev VC:RM:=zi2
def jw:List V:=[.str "plus",.str "minus",.str "times",.str "over",.str "rest",.str "under",.str "same"]
def isJ(v:V):Bool:=inV v jw
inductive Er where
 |nought|great|stuck
 deriving DecidableEq
def VD(w:Str)(a b:Int):Int :=
 if w="plus" then a+b else if w="minus" then a-b else if w="times" then a*b else if w="under" then (if a<b then 1 else 0) else if w="same" then (if a=b then 1 else 0) else if w="over" then a.fdiv b else a.fmod b
def VE(w:Str):Prop:=¬ w="plus"/\¬ w="minus"/\¬ w="times"/\¬ w="under"/\¬ w="same"
instance (w:Str):Decidable (VE w):=by unfold VE;infer_instance
def kj(w:Str)(a b:Int):Except Er Int:=if VE w/\b=0 then .error .nought else if tw (VD w a b)=ah then .ok (VD w a b) else .error .great
def zeR(a:List (aU×V)):V->Int
 |.int i=>i
 |.str x=>(match yf a (.inr x) with|some (.int i)=>i|_=>0)
 |_=>0
def wM(d:List (aU×V))(st:List Int)(v:V):Except Er (List Int) :=
 if isJ v=ah then (match v,st.reverse with|.str w,b::a::r=>(match kj w a b with|.ok c=>.ok (r.reverse++[c])|.error e=>.error e)|_,_=>.error .stuck) else .ok (st++[zeR d v])
def wQ(a:List (aU×V)):List V->List Int->Except Er (List Int)
 |[],st=>.ok st
 |v::r,st=>match wM a st v with|.ok st'=>wQ a r st'|.error e=>.error e
section
variable {aI:List (aU×V)}
theorem Zb:∀(p q:List V) (a:List Int),wQ aI (p++q) a=match wQ aI p a with|.ok st'=>wQ aI q st'|.error e=>.error e
 |[],q,a=>rfl
 |v::r,q,a=>by
  show (match wM aI a v with|.ok st'=>wQ aI (r++q) st'|.error e=>.error e)=match (match wM aI a v with|.ok st'=>wQ aI r st'|.error e=>.error e) with|.ok st'=>wQ aI q st'|.error e=>.error e
  cases wM aI a v with
  |error e=>rfl
  |ok st'=>exact Zb r q st'
def Good(aI:List (aU×V))(b:List V)(r:Except Er Int):Prop:=(∀a,wQ aI b a=match r with|.ok i=>.ok (a++[i])|.error e=>.error e)/\r≠.error .stuck
theorem zdT(h:isJ v=ao):Good aI [v] (.ok (zeR aI v)):=by
 refine⟨λa=>?_,λz=>nomatch z⟩;unfold wQ wM;rw[h,am ()];rfl
def zhJ(w:Str)(d c:Except Er Int):Except Er Int:=match d with|.error e=>.error e|.ok a=>match c with|.error e=>.error e|.ok b=>kj w a b
theorem zeS(w:Str)(a b:Int):kj w a b≠.error .stuck:=by
 unfold kj;split
 .exact λz=>nomatch z
 .split <;> exact λz=>nomatch z
theorem zdU{f d:Except Er Int}(k:isJ (.str w)=ah)(j:Good aI p1 f)(h:Good aI p2 d):Good aI (p1++p2++[.str w]) (zhJ w f d):=by
 refine⟨λg=>?_,?_⟩
 .rw[Zb,Zb,j.1];cases f with
  |error e=>rfl
  |ok a =>
   show (match wQ aI p2 (g++[a]) with|.ok st'=>wQ aI [.str w] st'|.error e=>.error e)=_;rw[h.1];cases d with
   |error e=>rfl
   |ok b =>
    show wQ aI [.str w] (g++[a]++[b])=match kj w a b with|.ok i=>.ok (g++[i])|.error e=>.error e
    unfold wQ wM;rw[k,ap rfl];simp only[pD,ro,rT,gu,dY,cO];cases kj w a b with
    |error e=>rfl
    |ok c=>simp[wQ]
 .unfold zhJ;cases f with
  |error e=>exact j.2
  |ok a =>
   cases d with
   |error e=>exact h.2
   |ok b=>exact zeS w a b
theorem zc6{a:List Int}(h:wQ aI (ps.take i) a=.error e):wQ aI ps a=.error e:=by
 have:=Zb (aI:=aI) (ps.take i) (ps.drop i) a;rw[cV,h] at this;exact this
theorem zgJ{b:List V}{i:Nat}{a st0:List Int}(h:wQ aI (b.take i) st0=.ok a)(c:b[i]?=U v):wQ aI (b.take (i+1)) st0=wM aI a v:=by
 rw[cH,c];show wQ aI (b.take i++[v]) st0=_;rw[Zb,h];show (match wM aI a v with|.ok st'=>wQ aI [] st'|.error e=>.error e)=_;cases wM aI a v <;> rfl
end
def qe(v:V):Prop:=(∃i,v=.int i/\tw i=ah)\/∃x:Str,v=.str x/\x.length<=1000
def xg(a:List (aU×V)):Prop:=∀k v,yf a k=U v->∃i,v=.int i/\tw i=ah
theorem zaQ(h:xg aI)(b:qe v):tw (zeR aI v)=ah:=by
 rcases b with ⟨i,rfl,a⟩|⟨x,rfl,_⟩
 .exact a
 .show tw (match yf aI (.inr x) with|some (.int i)=>i|_=>0)=ah;cases e:yf aI (.inr x) with
  |none=>rfl
  |some u =>
   obtain⟨i,rfl,a⟩:=h _ _ e;exact a
theorem uf{i:Int}:tw i=ah↔-1000000000000000000000000000000<=i/\i<=1000000000000000000000000000000:=by unfold tw;rw[decide_eq_true_eq]
theorem QJ{i:Int}(h:tw i=ah):-big<i/\i<big:=by
 have:=uf.mp h;have a:(1000000000000000000000000000001:Int)<big:=by lia
 lia
abbrev zgK(K:bw):RC:=λb H Q=>∃p a,b=[.ref p]/\(aQ K H p a\/sW K H p a)/\∀l,H l=ak->Q (.ref l) (upd H l (.lst a))
def inL(c:Nat):Bool:=!(ii "abcdefghijklmnopqrstuvwxyz" ⟨#[c]⟩ 0 (iH "abcdefghijklmnopqrstuvwxyz") 1).isEmpty
def wl:List V:=[.str "take",.str "give",.str "let",.str "say",.str "off",.str "if",.str "else",.str "end",.str "as"]
def yU(x:Str):Bool:=!(decide (x="") || decide (6<x.length)) && !(inV (.str x) jw || inV (.str x) wl)&&x.cps.toList.all inL
theorem zgL(c:Nat):inL c=ah->97<=c/\c<=122:=by
 unfold inL;rw[StrLaws.found_one,decide_eq_true_eq];exact(by lia:∀c∈(bh "abcdefghijklmnopqrstuvwxyz").cps.toList,97<=c/\c<=122) c
theorem Y5(h:yU x=ah):x.cps.toList≠[]/\x.length<=6/\isJ (.str x)=ao/\x.cps.toList.all inL=ah:=by
 unfold yU at h;rw[bV,bV,mQ,mQ,i9,i9,decide_eq_false_iff_not,decide_eq_false_iff_not] at h;refine⟨λz=>h.1.1.1 (zgF (by rw[z];lia)),(),h.1.2.1,h.2⟩
def zeT(w:Str):Option V:=if yU w=ah then U (.str w) else if zi7 w=ah then U (.int (zeM w)) else ak
inductive Tw where
 |leaf (w:Str)|node (w:Str) (a b:Tw)
def pre:Tw->List Str
 |.leaf w=>[w]
 |.node w a b=>w::(pre a++pre b)
def wfT:Tw->Prop
 |.leaf w=>isJ (.str w)=ao
 |.node w a b=>isJ (.str w)=ah/\wfT a/\wfT b
def okT:Tw->Bool
 |.leaf w=>(zeT w).isSome
 |.node _ a b=>okT a&&okT b
def pvw(w:Str):V:=(zeT w).getD (.str w)
def pst:Tw->List V
 |.leaf w=>[pvw w]
 |.node w a b=>pst a++pst b++[.str w]
def zi9:List Str->Nat->Option Nat
 |_,0=>U 0
 |[],_+1=>ak
 |w::r,d+1=>(zi9 r (if isJ (.str w)=ah then d+2 else d)).map (· + 1)
def xw(st:List (List V))(w:Str):Except Bool (List (List V)) :=
 if isJ (.str w)=ah then (match st.reverse with|a::b::r=>.ok (r.reverse++[a++b++[.str w]])|_=>.error ao) else (match zeT w with|some v=>.ok (st++[[v]])|none=>.error ah)
def zb9:List Str->List (List V)->Except Bool (List (List V))
 |[],st=>.ok st
 |w::r,st=>match xw st w with|.ok st'=>zb9 r st'|.error e=>.error e
theorem zeU:∀(p q:List Str) (a:List (List V)),zb9 (p++q) a=match zb9 p a with|.ok st'=>zb9 q st'|.error e=>.error e
 |[],q,a=>rfl
 |v::r,q,a=>by
  show (match xw a v with|.ok st'=>zb9 (r++q) st'|.error e=>.error e)=match (match xw a v with|.ok st'=>zb9 r st'|.error e=>.error e) with|.ok st'=>zb9 q st'|.error e=>.error e
  cases xw a v with
  |error e=>rfl
  |ok st'=>exact zeU r q st'
theorem zca :Be (.Constant c j p::es) env=(ao,eval (.Constant c j p) env)::Be es env:=by
 first|rfl|simp only[Be]
theorem qf{t:TA}(a:PA X es t):PA X (.Constant (.str x) j p::es) (zc (tC (.str x)) t):=za zG a zca
section
variable {X:Cx}
theorem zeV{a:List (aU×V)}{k:aU}(h:yf a k=U v):∃p∈a,p.2=v:=by
 unfold yf at h;obtain⟨p,b,e⟩:=b7.mp h;exact⟨p,List.mem_of_find?_eq_some b,e⟩
end
theorem zeW(h:yU x=ah):Asc x:=λc a=>by
 have:=zgL c (List.all_eq_true.mp (Y5 h).2.2.2 c a);lia
section
variable {P:aq}{w:au}{A:aw}{E:ae->af->Prop}{s:af}
theorem zeX{Q:ae->af->Prop}(j:s.heap.IsTupleIter it tp i)(l:s.heap.IsTuple tp xs) (d:∀x h,xs[i]?=U x->h.IsTupleIter it tp (i+1)->cN it s.heap h->Q x { s with heap:=h }) (f:xs[i]?=ak->A.handled=ak/\∀h e,sy it s.heap h->(∃o,h.get? e=U o/\o.cls=.type "StopIteration")->E (.ref e) { s with heap:=h }) :
  Bf (Bg P w) A (eE (.ref it)) Q E s:=by
 obtain⟨o,c,r,b⟩:=id j;obtain⟨q,p,_,n,g⟩:=l;unfold eE;refine ba (cE (name:=bh "__next__") j.typeIs lV (cK lV j.typeIs F.entry_tuple_iterator_next ?_ (F.args_tuple_iterator_next_1 _)));show Bf _ _ (field (.ref it) 0 >>= _) _ _ s;refine ba (de c b (x:=.ref tp) Y ?_);show Bf _ _ (if (bJ tp==cC)=ah then _ else _) _ _ s;rw[am (show ¬ ((bJ tp==cC)=ah) from bM)];show Bf _ _ (field (.ref it) 1 >>= _) _ _ s;refine ba (de c b (x:=.int i 0) Y ?_);show Bf _ _ (seqItems? (.ref tp) >>= _) _ _ s;refine ba (fH p g ?_);cases hx:xs[i]? with
 |some x =>
  simp only[dP,hx];refine ba (iQ c b (by simp) (bf ⟨x,Y,bf (d x _ hx ?_ (cX ..))⟩));refine⟨_,eL _ c (oy (ik b _)),(rq ..).trans r,?_⟩;rw[ik b];simp[rawInt]
 |none =>
  obtain⟨k,f⟩:=f hx;simp only[dP,hx];refine ba (lE (ba (iQ c b (by simp) ?_)));show Bf _ _ (newExc (.type "StopIteration") [] >>= _) _ _ _;refine ba ?_;simp only[newExc,newTuple];refine ba (cw ?_ (by size_fits));refine ba (m:=firstArgMember _ _) (wpAny_of_eq (a:=cC) (by first|rfl|(simp only[firstArgMember];rfl)) ?_);refine cw ?_ (by size_fits);simp only[raiseNew];refine ba (pQ ?_);first|rw[show A.in1.handled=ak from k]|rw[k]
  refine ba (bf (wpAny_throw ?_));exact f _ _ (((cX ..).extBut.push _).push _) ⟨_,bF _ Y,Y⟩
end
section
variable {P:aq}{w:au}{A:aw}{E:ae->af->Prop}{s:af}
structure X1(z a b i j p q:D):Prop where
 az:a≠z
 bz:b≠z
 iz:i≠z
 jz:j≠z
 ab:a≠b
 ai:a≠i
 aj:a≠j
 bi:b≠i
 bj:b≠j
 ij:i≠j
 pz:p≠z
 pb:p≠b
 pi:p≠i
 pj:p≠j
 qz:q≠z
 qb:q≠b
 qi:q≠i
 qj:q≠j
def ZT(z a b i j p q:D)(k:Nat)(h:av):Prop:=IsZip h z a b .none/\IsPair h a (.ref i) (.ref j)/\(∃u v,IsPair h b u v)/\h.IsTupleIter i p k/\h.IsTupleIter j q k
theorem zdV{Q:ae->af->Prop}(d:X1 z a b i j p q)(st:ZT z a b i j p q k s.heap) (hp:s.heap.IsTuple p xs) (hq:s.heap.IsTuple q ys) (hx:xs[k]?=U x) (hy:ys[k]?=U y) (I:∀g h,(∀c o,c ∉ [z,b,i,j]->s.heap.get? c=U o->g.get? c=U o)->g.objs.size=s.heap.objs.size->IsPair g b x y->g.IsTupleIter i p (k+1)->g.IsTupleIter j q (k+1) ->
   cN z (g.push { cls:=.type "tuple",data:=.seq #[x,y] }) h->IsZip h z a b (rawInt g.objs.size)->Q (.ref g.objs.size) { s with heap:=h }) :
  Bf (Bg P w) A (Builtin.«zip.__next__» ⟨[.ref z],[]⟩) (λr s'=>∃v,r=.done (.ret v)/\Q v s') E s:=by
 obtain⟨H,ha,⟨u,v,hb⟩,hi,hj⟩:=st;show Bf _ _ (field (.ref z) 2 >>= _) _ _ _;refine ba (de H Y (x:=.bool ao) Y ?_);show Bf _ _ (field (.ref z) 3 >>= _) _ _ _;refine ba (de H Y (x:=.ref a) Y ?_);refine ba (fH ha Y ?_);show Bf _ _ (dM (.ref z) >>= _) _ _ _;refine ba ?_;unfold dM;refine ba (de H Y (x:=.none) Y (bf ?_));simp only[if_true];refine ba (lE ?_);refine ba (de H Y (x:=.ref b) Y ?_);refine ba (cS H (by simp) λg1 z1 m=>?_);replace z1:IsZip g1 z a b .ellipsis:=z1;refine ba ?_;simp only[rV,sA,ou,List.forIn_nil];refine ba (ba (pR ?_));show Bf _ _ (eE (.ref i) >>= _) _ _ _;refine ba (zeX (hi.extBut m.extBut d.iz) (hp.extBut m.extBut d.pz) (λB g2 M i2 t=>bf ?_) λM=>by rw[hx] at M;cases M);obtain rfl:B=x:=bI (M.symm.trans hx);have b2:IsPair g2 b u v:=t.extBut _ _ d.bi (m.extBut _ _ d.bz hb);refine ba (fH b2 Y ?_);refine ba (oO b2 λg3 b3 n=>?_);replace b3:IsPair g3 b B v:=b3;refine ba (nu (bf ?_));refine ba (ba (pR ?_));show Bf _ _ (eE (.ref j) >>= _) _ _ _;refine ba (zeX (((hj.extBut m.extBut d.jz).extBut t.extBut d.ij.symm).extBut n.extBut d.bj.symm) (((hq.extBut m.extBut d.qz).extBut t.extBut d.qi).extBut n.extBut d.qb) (λy' g4 J j4 G=>bf ?_) λJ=>by rw[hy] at J;cases J);obtain rfl:y'=y:=bI (J.symm.trans hy);have b4:IsPair g4 b B v:=G.extBut _ _ d.bj b3;refine ba (fH b4 Y ?_);refine ba (oO b4 λf N C=>?_);replace N:IsPair f b B y':=N;refine ba (nu (bf (bf ?_)));refine ba (fH N Y ?_);refine ba (oW ?_);have sz:f.objs.size=s.heap.objs.size:=by rw[C.1,G.1,n.1,t.1,m.1]
 have z5:IsZip f z a b .ellipsis:=C.extBut _ _ d.bz.symm (G.extBut _ _ d.jz.symm (n.extBut _ _ d.bz.symm (t.extBut _ _ d.iz.symm z1)));have k5:∀c o,c ∉ [z,b,i,j]->s.heap.get? c=U o->f.get? c=U o:=λc o l e=>by
  simp only[bE,cZ,or_false,not_or] at l;exact C.extBut _ _ l.2.1 (G.extBut _ _ l.2.2.2 (n.extBut _ _ l.2.1 (t.extBut _ _ l.2.2.1 (m.extBut _ _ l.1 e))))
 have i5:f.IsTupleIter i p (k+1):=((i2.extBut n.extBut d.bi.symm).extBut G.extBut d.ij).extBut C.extBut d.bi.symm;have j5:f.IsTupleIter j q (k+1):=j4.extBut C.extBut d.bj.symm;show Bf _ _ (gQ (.ref z) (.ref f.objs.size) >>= _) _ _ _;refine ba ?_;unfold gQ;have z6:IsZip (f.push { cls:=.type "tuple",data:=.seq #[B,y'] }) z a b .ellipsis:=bc _ z5;refine ba (cS z6 (by simp) λg7 T r7=>?_);replace T:IsZip g7 z a b (rawInt f.objs.size):=T;refine cS T (by simp) λg8 O r8=>?_;replace O:IsZip g8 z a b (rawInt f.objs.size):=O;exact bf ⟨_,Y,I f g8 k5 sz N i5 j5 ⟨r8.1.trans r7.1,λc l=>(r8.2 c l).trans (r7.2 c l)⟩ O⟩
theorem zeY{Q:Fin->af->Prop}(O:A.handled=ak)(B:X1 z a b i j p q)(st:ZT z a b i j p q k s.heap) (M:s.heap.IsTuple p xs) (hq:s.heap.IsTuple q ys) (J:xs[k]?=ak) (hE:∀h e,(∀c o,c ∉ [z,b,i,j]->s.heap.get? c=U o->h.get? c=U o)->(∃o,h.get? e=U o/\o.cls=.type "StopIteration")->E (.ref e) { s with heap:=h }) :
  Bf (Bg P w) A (Builtin.«zip.__next__» ⟨[.ref z],[]⟩) Q E s:=by
 obtain⟨f,ha,⟨u,v,hb⟩,N,hj⟩:=st;show Bf _ _ (field (.ref z) 2 >>= _) _ _ _;refine ba (de f Y (x:=.bool ao) Y ?_);show Bf _ _ (field (.ref z) 3 >>= _) _ _ _;refine ba (de f Y (x:=.ref a) Y ?_);refine ba (fH ha Y ?_);show Bf _ _ (dM (.ref z) >>= _) _ _ _;refine ba ?_;unfold dM;refine ba (de f Y (x:=.none) Y (bf ?_));simp only[if_true];refine ba (lE ?_);refine ba (de f Y (x:=.ref b) Y ?_);refine ba (cS f (by simp) λg1 m r=>?_);replace m:IsZip g1 z a b .ellipsis:=m;refine ba ?_;simp only[rV,sA,ou,List.forIn_nil];refine ba (ba (pR ?_));show Bf _ _ (eE (.ref i) >>= _) _ _ _;refine ba (zeX (N.extBut r.extBut B.iz) (M.extBut r.extBut B.pz) (λx' H t i2 n=>by rw[J] at t;cases t) λt=>⟨O,λH e n T=>?_⟩);obtain⟨I,d,g⟩:=T;have C:IsZip H z a b .ellipsis:=n _ _ B.iz.symm m;have ez:e≠z:=λx=>by subst x;rw[C] at d;cases d;simp at g
 refine cS C (by simp) λg3 _ G=>hE g3 e (λc o l y=>?_) ⟨I,G.extBut _ _ ez d,g⟩;simp only[bE,cZ,or_false,not_or] at l;exact G.extBut _ _ l.1 (n _ _ l.2.2.1 (r.extBut _ _ l.1 y))
theorem zcb{Q:Option ae->af->Prop}(G:X1 z a b i j p q)(st:ZT z a b i j p q k s.heap) (m:s.heap.IsTuple p xs) (l:s.heap.IsTuple q ys) (f:xs[k]?=U x) (e:ys[k]?=U y) (d:∀g h,(∀c o,c ∉ [z,b,i,j]->s.heap.get? c=U o->g.get? c=U o)->g.objs.size=s.heap.objs.size->IsPair g b x y->g.IsTupleIter i p (k+1)->g.IsTupleIter j q (k+1) ->
   cN z (g.push { cls:=.type "tuple",data:=.seq #[x,y] }) h->IsZip h z a b (rawInt g.objs.size)->Q (U (.ref g.objs.size)) { s with heap:=h }) :
  Bf (Bg P w) A (pyNext (.ref z)) Q E s:=by
 have T:s.TypeIs (.ref z) "zip":=⟨_,st.1,Y⟩;unfold pyNext;exact ba (iq (cE (name:=bh "__next__") T lL (cK lL T F.entry_zip_next
   (zdV G st m l f e λg h C B v u t r n=>bf (d g h C B v u t r n)) (F.args_zip_next_1 _))))
theorem zdW{Q:Option ae->af->Prop}(r:A.handled=ak)(v:X1 z a b i j p q)(st:ZT z a b i j p q k s.heap) (l:s.heap.IsTuple p xs) (g:s.heap.IsTuple q ys) (f:xs[k]?=ak) (d:∀h,(∀c o,c ∉ [z,b,i,j]->s.heap.get? c=U o->h.get? c=U o)->Q ak { s with heap:=h }):Bf (Bg P w) A (pyNext (.ref z)) Q E s:=by
 have T:s.TypeIs (.ref z) "zip":=⟨_,st.1,Y⟩;unfold pyNext;refine ba (iq (cE (name:=bh "__next__") T lL (cK lL T F.entry_zip_next (zeY r v st l g f λh e n t=>?_) (F.args_zip_next_1 _))));obtain⟨o,m,u⟩:=t;exact ba (nK (T:="StopIteration") (b:=ah) ⟨o,m,u⟩ oX (bf (d _ n)))
end
abbrev zp1(h:av)(p:D):av:=h.push { cls:=.type "tuple_iterator",data:=.fields #[.ref p,.int 0 0] }
abbrev zp3(h:av)(p q:D):av:=(zp1 (zp1 h p) q).push { cls:=.type "tuple",data:=.seq #[.ref h.objs.size,.ref (zp1 h p).objs.size] }
abbrev zp4(h:av)(p q:D):av:=(zp3 h p q).push { cls:=.type "tuple",data:=.seq #[.none,.none] }
abbrev zp5(h:av)(p q:D):av:=(zp4 h p q).push { cls:=.type "zip",data:=.fields #[.none,.bool ao,.bool ao,.ref (zp1 (zp1 h p) q).objs.size,.ref (zp3 h p q).objs.size] }
theorem zcc(p q:D)(xs ys:Array ae):Meets (Builtin.«zip.__new__» ⟨[.type "zip",.ref p,.ref q],[]⟩) (λ_ R s=>s.heap.IsTuple p xs/\s.heap.IsTuple q ys /\
   R (.ok (.ret (.ref (zp4 s.heap p q).objs.size))) { s with heap:=zp5 s.heap p q }) :=
 .of_wp λb w A R s h=>by
  obtain⟨f,g,d,a,c⟩:=s;obtain⟨l,k,h⟩:=h;have e:=sub_zip;have j:Heap.IsTuple (Shared.heap ⟨f,g,d,a,c⟩) p xs:=l;have i:Heap.IsTuple (Shared.heap ⟨f.push { cls:=.type "tuple_iterator",data:=.fields #[.ref p,.int 0 0] },g,d,a,c⟩) q ys:=Heap.IsTuple.push k _
  wp_walk using lY j,lY i
  exact⟨_,Y,h⟩
section
variable {P:aq}{w:au}{A:aw}{E:ae->af->Prop}{s:af}
theorem zdX{Q:ae->af->Prop}(n:s.heap.IsTuple p xs)(m:s.heap.IsTuple q ys) (h:∀b,ZT (s.heap.objs.size+4) (s.heap.objs.size+2) (s.heap.objs.size+3) s.heap.objs.size (s.heap.objs.size+1) p q 0 b->(∀c o,s.heap.get? c=U o->b.get? c=U o)->Q (.ref (s.heap.objs.size+4)) { s with heap:=b }) :
  Bf (Bg P w) A (call (.type "zip") [.ref p,.ref q]) Q E s:=by
 refine callType_new F.called_zip () (F.typeCall_zip_2 _ _) (F.newCall_zip_2 _ _) (λa=>F.args_object_init_3 a _ _) F.entry_zip_new (zcc p q xs ys) ⟨n,m,?_⟩;have g:(zp1 s.heap p).objs.size=s.heap.objs.size+1:=eV ..;have f:(zp1 (zp1 s.heap p) q).objs.size=s.heap.objs.size+2:=by rw[eV,g]
 have e:(zp3 s.heap p q).objs.size=s.heap.objs.size+3:=by rw[eV,f]
 have l:(zp4 s.heap p q).objs.size=s.heap.objs.size+4:=by rw[eV,e]
 have d:(zp5 s.heap p q).get? (zp4 s.heap p q).objs.size=U _:=bF _ rfl;have i:(zp5 s.heap p q).get? (zp3 s.heap p q).objs.size=U _:=bc _ (bF _ Y);have j:(zp5 s.heap p q).get? (zp1 (zp1 s.heap p) q).objs.size=U _:=bc _ (bc _ (bF _ Y));have k:(zp5 s.heap p q).get? (zp1 s.heap p).objs.size=U _:=bc _ (bc _ (bc _ (bF _ Y)));have r:(zp5 s.heap p q).get? s.heap.objs.size=U _:=bc _ (bc _ (bc _ (bc _ (bF _ Y))));show _/\_;rw[f,e,l] at d;rw[g,f] at j;rw[e] at i;rw[g] at k;rw[l];exact⟨⟨_,d,Y⟩,h _ ⟨d,j,⟨_,_,i⟩,⟨_,r,Y,Y⟩,⟨_,k,Y,Y⟩⟩ λc o x=>bc _ (bc _ (bc _ (bc _ (bc _ x))))⟩
end
theorem aO.turnedL{aa:List (D×Obj)}{σ:St}{H:Hp}{s:af}{g:av}{t':Nat}{ch:List D}(I:aO X aa σ H s)(k:∀b o,b ∉ ch->s.heap.get? b=U o->g.get? b=U o)(f:∀b∈ch,qY X aa H b) :
  aO X aa σ H { s with heap:=g,toks:=t' }:=by
 have d:∀b u,H b=U u->b ∉ ch:=λb u e z=>by rw[(f b z).1] at e;cases e
 refine I.step (g':=s.gens) (d':=s.drawn) (ch:=ch) (λb l=>?_) (λb o _ _ a e _=>k b o a e) (λb o _ _ a e _=>⟨o.slots,k b o a e⟩) (λ_ _ _ _ n=>n) (λb o a e=>⟨o,k b o a e⟩) (λ_ _ e=>e) (λ_ _ _ e=>e) (λb G e=>⟨#[],by rw[e];simp⟩) (λm j=>?_) (λb u e=>?_) I.bare
 .obtain⟨M,B,J,A,y,t⟩:=f b l;exact⟨A,B,y,t⟩
 .obtain⟨o,C,E,h,r⟩:=j;exact⟨o,C,E,k _ o (λz=>(f _ z).2.1 Y) h,r⟩
 .refine(I.hok b u e).stay (λc v a q=>k c v ?_ q) (λ_ q=>q) λ_ _ q=>q;rcases a with z|z
  .rw[z];exact d b u e
  .exact d c _ z
def Itz(K:bw)(p q:D)(a b:List V):It:=⟨λi H=>i<a.length/\sW K H p a/\sW K H q b,λi H x c=>∃T u v,x=.ref T/\H T=ak/\c=upd H T (.tup [u,v])/\a[i]?=U u/\b[i]?=U v,λi H=>a.length<=i/\sW K H p a/\sW K H q b⟩
theorem zeZ{P:aq}{w:au}{K:bw}{ag:List ay}{x1}{aj:Pos}{z a b i j p q:D}{r n:List V}(m:X1 z a b i j p q)(t:r.length=n.length) :
  zdC P w K (.Tuple ag x1 aj) (Itz K p q r n) [z,a,b,i,j] z (ZT z a b i j p q) where
 mem:=by simp
 obj:=λk h l c d=>by
  obtain⟨Q,ha,⟨u,v,hb⟩,⟨N,G,ci,di⟩,⟨M,C,cj,dj⟩⟩:=l;simp only[bE,cZ,or_false] at d;rcases d with rfl|rfl|rfl|rfl|rfl
  .exact⟨_,Q,λv z=>by cases z⟩
  .exact⟨_,ha,λv z=>by cases z⟩
  .exact⟨_,hb,λv z=>by cases z⟩
  .exact⟨_,G,λv z=>by rw[di] at z;cases z⟩
  .exact⟨_,C,λv z=>by rw[dj] at z;cases z⟩
 keep:=λk h h' l O=>by
  obtain⟨Q,ha,⟨u,v,hb⟩,⟨N,G,ci⟩,⟨M,C,cj⟩⟩:=l;exact⟨O z (by simp) _ Q,O a (by simp) _ ha,⟨u,v,O b (by simp) _ hb⟩,⟨N,O i (by simp) _ G,ci⟩,⟨M,O j (by simp) _ C,cj⟩⟩
 item:=by
  intro X hP hw hK d k aa s σ H E I T l hg;subst hP hw hK;obtain⟨f,h1,A⟩:=hg;obtain⟨us,r1,p1,_⟩:=I.tuple h1;obtain⟨vs,r2,p2,_⟩:=I.tuple A;obtain⟨u,hu,ru⟩:=r1.get (i:=k) (x:=r[k]) (bb f);obtain⟨v,hv,rv⟩:=r2.get (i:=k) (x:=n[k]'(t ▸ f)) (bb (t ▸ f));have ai:∀c∈[z,b,i,j],c∈[z,a,b,i,j]:=λc d=>by
   simp only[bE,cZ,or_false] at d ⊢;rcases d with h|h|h|h <;> simp[h]
  refine zcb m l (show s.heap.IsTuple p us.toArray from p1) (show s.heap.IsTuple q vs.toArray from p2) (x:=u) (y:=v) (by simpa using hu) (by simpa using hv) λg h k5 sz b5 i5 j5 sb z8=>?_;have I5:aO X aa σ H { s with heap:=g }:=I.turnedL (t':=s.toks) k5 λc d=>T c (ai c d);have I6:aO X aa σ (upd H g.objs.size (.tup [r[k],n[k]'(t ▸ f)])) { s with heap:=g.push { cls:=.type "tuple",data:=.seq #[u,v] } } :=
   I5.laid (a:=g.objs.size) (o:=.tup [r[k],n[k]'(t ▸ f)]) (t':=s.toks) (λb u e=>bc _ e) (bp _) ⟨by show 2<=Bb;decide,[u,v],.cons ru (.cons rv .nil),⟨_,bF _ Y,Y,_,Y⟩⟩
  have an:z<s.heap.objs.size:=bQ l.1;have al:∀c∈[z,a,b,i,j],c≠g.objs.size:=λc d=>by
   obtain⟨Q,ha,⟨u,v,hb⟩,⟨N,G,ci⟩,⟨M,C,cj⟩⟩:=l;rw[sz];simp only[bE,cZ,or_false] at d;rcases d with rfl|rfl|rfl|rfl|rfl
   .exact bW (bQ Q)
   .exact bW (bQ ha)
   .exact bW (bQ hb)
   .exact bW (bQ G)
   .exact bW (bQ C)
  have B:∀c∈[z,a,b,i,j],upd H g.objs.size (HO.tup [r[k],n[k]'(t ▸ f)]) c=ak:=λc d=>by rw[zi (al c d)];exact(T c d).1
  have fz:qY X aa (upd H g.objs.size (HO.tup [r[k],n[k]'(t ▸ f)])) z:=⟨B z (by simp),(T z (by simp)).2⟩;refine⟨.ref g.objs.size,Y,wpAny_letOwnedTupleGo_zip z8 λA z9 J=>?_⟩;have up:∀c o,c≠z->g.get? c=U o->A.get? c=U o:=λc o d e=>by
   rw[show A.get? c=h.get? c from J.2 c d,sb.2 c d];exact bc _ e
  have I7:aO X aa σ (upd H g.objs.size (.tup [r[k],n[k]'(t ▸ f)])) { s with heap:=A }:=I6.turnedL (s:={ s with heap:=g.push { cls:=.type "tuple",data:=.seq #[u,v] } }) (t':=s.toks) (ch:=[z]) (λc o d e=>by
   have d:c≠z:=by simpa using d
   rw[show A.get? c=h.get? c from J.2 c d,sb.2 c d];exact e) λc d=>by
    have:c=z:=by simpa using d
    rw[this];exact fz
  refine⟨.ref g.objs.size,_,I7,Y,⟨_,_,_,Y,by have:=I5.hok.fresh (bp g.objs.size);exact this,Y,bb f,bb (t ▸ f)⟩,?_,B⟩;have ka:g.get? a=_:=k5 a _ (by simp[m.az,m.ab,m.ai,m.aj]) l.2.1;obtain⟨N,G,ci⟩:=i5;obtain⟨M,C,cj⟩:=j5;exact⟨z9,up a _ m.az ka,⟨_,_,up b _ m.bz b5⟩,⟨N,up i _ m.iz G,ci⟩,⟨M,up j _ m.jz C,cj⟩⟩
 done:=by
  intro X hP hw hK d k aa s σ H E I T l hg;subst hP hw hK;obtain⟨f,h1,A⟩:=hg;obtain⟨us,r1,p1,_⟩:=I.tuple h1;obtain⟨vs,r2,p2,_⟩:=I.tuple A;have ar:=r1.length;refine zdW (I.ok.hd d) m l (show s.heap.IsTuple p us.toArray from p1) (show s.heap.IsTuple q vs.toArray from p2) (by simp;lia) λh hk=>⟨Y,I.turnedL (t':=s.toks) hk λc d=>T c ?_⟩;simp only[bE,cZ,or_false] at d ⊢;rcases d with h|h|h|h <;> simp[h]
 self:=λ_ _ _ _ _ l h=>wpAny_pyIter_zip l.1 h
def zja(K:bw)(f:TA):TI:=λd H R=>f d H λe c=>∃p q b a,e=[.ref p,.ref q]/\sW K c p b/\sW K c q a/\b.length=a.length/\R (Itz K p q b a) c
section
variable {X:Cx}
theorem zik{j:List ay}{x1}{J:Pos}{t l:ay}{z:TA}{p g:Pos}(hg:Gl X "zip")(hm:X.mg "zip"=ak)(ha:PA X [t,l] z)(he:Be [t,l] X.env=(ao,eval t X.env)::Be [l] X.env:=by rfl)(w:(backTo g (Be [l] X.env)).any (·.1)=ao:=by rfl) :
  PI X (.Tuple j x1 J) (.Call (.Name "zip" p) [t,l] [] g) (zja X.K z):=by
 intro aa s G H R I h;refine Call_ (Yv I hg hm zif (eZ (dl (ha g aa s G H _ I h) ?_) he w));rintro us f ⟨vs,H1,m,B,O⟩;obtain⟨a,b,xs,ys,e,h1,h2,hl,q⟩:=O;subst e;obtain⟨u1,u2,rfl,N,M⟩:=zhC B;cases N;cases M;obtain⟨v,B,E,_⟩:=m.tuple h1;obtain⟨u,r2,C,_⟩:=m.tuple h2;have T:a<f.heap.objs.size:=by obtain⟨_,e,_⟩:=E;exact bQ e
 have Q:b<f.heap.objs.size:=by obtain⟨_,e,_⟩:=C;exact bQ e
 refine zdX (show f.heap.IsTuple a v.toArray from E) (show f.heap.IsTuple b u.toArray from C) λh' A k=>?_;refine wpAny_pyIter_zip (s:={ f with heap:=h' }) A.1 ?_;generalize hn:f.heap.objs.size=n at *
 have d:∀ {x y:Nat},x≠y->(show D from x)≠(show D from y):=λh=>h;have r:∀k:Nat,(show Nat from a)≠n+k:=λk=>bW (b6 T (gU _ _));have o:∀k:Nat,(show Nat from b)≠n+k:=λk=>bW (b6 Q (gU _ _));have Bp:X1 (n+4) (n+2) (n+3) n (n+1) a b:=⟨d (),d (),d (),d (),d (),d (),d (),d (),d (),d (),r 4,r 3,r 0,r 1,o 4,o 3,o 0,o 1⟩;refine⟨_,_,_,_,H1,Y,m.kept (t':=f.toks) k,zeZ Bp hl,A,λc i=>?_,q⟩;simp only[bE,cZ,or_false] at i;have i:n<=c:=by rcases i with rfl|rfl|rfl|rfl|rfl <;> first|exact gU _ _|exact bp _
 exact m.fpOk (by rw[hn];exact i) (m.hok.fresh (by rw[hn];exact i))
end
section
variable {σ:St}{H:Hp}{nx:St->Hp->Prop}{B:V->St->Hp->(St->Hp->Prop)->Prop}
theorem ze0{K:bw}(a d:List V)(Pv:Nat->St->Hp->Prop)(o:Pv 0 σ H)(f:∀i σ H,Pv i σ H->sW K H p a/\sW K H q d) (k:∀i u v T σ H,a[i]?=U u->d[i]?=U v->H T=ak->Pv i σ H->B (.ref T) σ (upd H T (.tup [u,v])) (Pv (i+1))) (l:∀σ H,Pv a.length σ H->nx σ H) :
  ∃W:Nat->Nat->St->Hp->Prop,(∃m,W 0 m σ H)/\∀i m σ H,W i m σ H->((Itz K p q a d).stop i H/\nx σ H)\/((Itz K p q a d).go i H/\∃N:St->Hp->Prop,(∀b c,N b c->∃e,e<m/\W (i+1) e b c)/\∀x c,(Itz K p q a d).yld i H x c->B x σ c N):=by
 refine⟨λi m σ H=>m=a.length-i/\i<=a.length/\Pv i σ H,⟨a.length,by simp,bS _,o⟩,?_⟩;rintro i m σ H ⟨rfl,r,L⟩;by_cases hlt:i<a.length
 .refine .inr ⟨⟨hlt,f i σ H L⟩,Pv (i+1),λb c g=>⟨a.length-(i+1),(),Y,hlt,g⟩,?_⟩;rintro x c ⟨T,u,v,rfl,n,rfl,j,h⟩;exact k i u v T σ H j h n L
 .obtain rfl:i=a.length:=by lia
  exact .inl ⟨⟨bp _,f _ σ H L⟩,l σ H L⟩
end
abbrev zjy(K:bw):RC:=λb H Q=>∃p a,b=[.ref p]/\((aQ K H p a/\∀l,H l=ak->Q (.ref l) (upd H l (.tup a)))\/(sW K H p a/\Q (.ref p) H))
def zc7(st:List (List V))(v:V):Option (List (List V)):=if isJ v=ah then (match st.reverse with|b::a::r=>U (r.reverse++[v::(a++b)])|_=>ak) else U (st++[[v]])
def zcd:List V->List (List V)->Option (List (List V))
 |[],st=>U st
 |v::r,st=>(zc7 st v).bind (zcd r)
theorem ze1:∀(p q:List V) (a:List (List V)),zcd (p++q) a=(zcd p a).bind (zcd q)
 |[],q,a=>rfl
 |v::r,q,a=>by
  show (zc7 a v).bind (zcd (r++q))=((zc7 a v).bind (zcd r)).bind (zcd q);cases zc7 a v with
  |none=>rfl
  |some st'=>exact ze1 r q st'
end L2
namespace L2
open PySem PySem.W PyProof.Rows
section
variable {α β:Type}{lt:Nat->Nat->Bool}{n:Nat}
def kOk(lt:Nat->Nat->Bool)(n:Nat):KasT α->(α->Prop)->Prop
 |.ret a,R=>R a
 |.ask i j k,R=>i<n/\j<n/\i≠j/\kOk lt n (k (lt i j)) R
theorem ko:∀ {t:KasT α} {f:α->KasT β} {R:β->Prop},kOk lt n t (λa=>kOk lt n (f a) R)->kOk lt n (t.bind f) R
 |.ret _,_,_,h=>h
 |.ask _ _ _,_,_,h=>⟨h.1,h.2.1,h.2.2.1,ko h.2.2.2⟩
theorem vg:∀ {t:KasT α} {R b:α->Prop},kOk lt n t R->(∀a,R a->b a)->kOk lt n t b
 |.ret _,_,_,h,m=>m _ h
 |.ask _ _ _,_,_,h,m=>⟨h.1,h.2.1,h.2.2.1,vg h.2.2.2 m⟩
structure SO(lt:Nat->Nat->Bool)(n:Nat):Prop where
 irr:∀i,i<n->lt i i=ao
 trans:∀i j k,i<n->j<n->k<n->lt i j=ah->lt j k=ah->lt i k=ah
 tot:∀i j,i<n->j<n->i≠j->lt i j=ao->lt j i=ah
def PP(n:Nat)(p:Array Nat):Prop:=p.Perm (eB n).toArray
def gt(p:Array Nat)(k:Nat):Nat:=p.getD k 0
theorem ku(h:k<p.size):p[k]?=U (gt p k):=by
 unfold gt;rw[Array.getD_eq_getD_getElem?,cq h];rfl
theorem PP.size(h:PP n p):p.size=n:=by
 have:=h.size_eq;simpa using this
theorem PP.blt(h:PP n p)(c:k<n):gt p k<n:=by
 have b:=h.size;have m:gt p k∈p:=Array.mem_of_getElem? (ku ());have a:gt p k∈(eB n).toArray:=(pS h).mp m;simpa using a
theorem PP.inj(h:PP n p)(q:i<n)(o:j<n)(e:gt p i=gt p j):i=j:=by
 have m:=h.size;have d:p.toList.Nodup:=by
  have:p.toList.Perm (eB n):=by
   have:=gJ.mp h;simpa using this
  exact this.nodup_iff.mpr rW
 have f:=ku (p:=p) (k:=i) ();have c:=ku (p:=p) (k:=j) ();rw[<-e] at c;have b:p.toList[i]?=U (gt p i):=by simpa using f
 have a:p.toList[j]?=U (gt p i):=by simpa using c
 obtain⟨s,l⟩:=bn.mp b;obtain⟨r,g⟩:=bn.mp a;exact(gS d).mp (l.trans g.symm)
def Z1(lt:Nat->Nat->Bool)(p:Array Nat)(m:Nat):Prop:=∀i j,i<j->j<m->lt (gt p i) (gt p j)=ah
def zil(lt:Nat->Nat->Bool)(p:Array Nat)(m:Nat):Prop:=∀i j,i<j->j<m->lt (gt p j) (gt p i)=ah
theorem zce(S:SO lt n){p:Array Nat}(b:PP n p):∀(f a:Nat),1<=a->a+f<=n->Z1 lt p a->kOk lt n (kas_asc p f a) λm=>a<=m/\m<=a+f/\Z1 lt p m/\(m<a+f->lt (gt p m) (gt p (m-1))=ah)
 |0,a,h1,h2,hr=>⟨bp _,bp _,hr,λz=>absurd z (fq _)⟩
 |f+1,a,h1,h2,hr=>by
  refine⟨b.blt (),b.blt (),(λz=>by have:=b.inj () () z;lia),?_⟩;show kOk lt n (if lt (gt p a) (gt p (a-1))=ah then .ret a else kas_asc p f (a+1)) _;by_cases c:lt (gt p a) (gt p (a-1))=ah
  .rw[ap c];exact⟨bp _,(),hr,λ_=>c⟩
  .rw[am c];have e:lt (gt p (a-1)) (gt p a)=ah:=S.tot _ _ (b.blt ()) (b.blt ()) (λz=>by have:=b.inj () () z;lia) (eD.mpr c);refine vg (zce S b f (a+1) () () λi j d o=>?_) λm ⟨l,k,h,g⟩=>⟨(),(),h,λz=>g ()⟩;by_cases hja:j<a
   .exact hr i j d hja
   .obtain rfl:j=a:=by lia
    by_cases hi:i=j-1
    .rw[hi];exact e
    .exact S.trans _ _ _ (b.blt ()) (b.blt ()) (b.blt ()) (hr i (j-1) () ()) e
theorem zc8(S:SO lt n){p:Array Nat}(b:PP n p):∀(f a:Nat),1<=a->a+f<=n->zil lt p a->kOk lt n (kas_desc f p a 0) λr=>r.1=p/\r.2.2=0/\a<=r.2.1/\r.2.1<=a+f/\zil lt p r.2.1
 |0,a,h1,h2,hr=>⟨Y,Y,bp _,bp _,hr⟩
 |f+1,a,h1,h2,hr=>by
  refine⟨b.blt (),b.blt (),(λz=>by have:=b.inj () () z;lia),?_⟩;show kOk lt n (if lt (gt p a) (gt p (a-1))=ah then (if 0 > 0 then _ else kas_desc f p (a+1) 0) else .ask (gt p (a-1)) (gt p a) λd=>if d=ah then .ret (p,a,0) else kas_desc f p (a+1) (0+1)) _;by_cases c:lt (gt p a) (gt p (a-1))=ah
  .rw[ap c,am ()];refine vg (zc8 S b f (a+1) () () λi j e s=>?_) λm ⟨k,h,q,o,g⟩=>⟨k,h,(),(),g⟩;by_cases hja:j<a
   .exact hr i j e hja
   .obtain rfl:j=a:=by lia
    by_cases hi:i=j-1
    .rw[hi];exact c
    .exact S.trans _ _ _ (b.blt ()) (b.blt ()) (b.blt ()) c (hr i (j-1) () ())
  .rw[am c];have l:lt (gt p (a-1)) (gt p a)=ah:=S.tot _ _ (b.blt ()) (b.blt ()) (λz=>by have:=b.inj () () z;lia) (eD.mpr c);refine⟨b.blt (),b.blt (),(λz=>by have:=b.inj () () z;lia),?_⟩;show kOk lt n (if lt (gt p (a-1)) (gt p a)=ah then .ret (p,a,0) else _) _;rw[ap l];exact⟨Y,Y,bp _,gU _ _,hr⟩
theorem ze2(b:m<=p.size)(c:k<m):gt (kas_rev p 0 m) k=gt p (m-1-k):=by
 have e:=getElem?_mirror_all (xs:=p) (i:=0) (j:=m) b k;rw[ap ⟨bS _,c⟩] at e;have a:=ku (p:=kas_rev p 0 m) (k:=k) (by unfold kas_rev;rw[mirror_size];lia);have d:=ku (p:=p) (k:=m-1-k) ();unfold kas_rev at a ⊢;rw[e,show 0+m-1-k=m-1-k by lia,d] at a;exact(bI a).symm
theorem PP.rev(h:PP n p)(m:Nat):PP n (kas_rev p 0 m):=rX (mirror_perm _ _ _ _) h
theorem zgM(S:SO lt n)(b:PP n p)(g:1<=m)(o:m<=n)(f:zil lt p m):kOk lt n (kas_tail3 m n p) λr=>PP n r.2/\Z1 lt r.2 r.1/\1<=r.1/\r.1<=n:=by
 refine ko (vg (zce S (b.rev m) (n-m) m g () λi j e d=>?_) λa ⟨k,h,c,_⟩=>⟨b.rev m,c,(),()⟩);have l:=b.size;rw[ze2 () (),ze2 () d];exact f _ _ () ()
theorem ze3(S:SO lt n)(a:PP n p)(w:1<=n):kOk lt n (kas_count n p) λr=>PP n r.2/\Z1 lt r.2 r.1/\1<=r.1/\r.1<=n:=by
 refine ko (vg (zce S a (n-1) 1 (bp _) () λi j d o=>by lia) λm ⟨f,u,b,l⟩=>?_);by_cases e:(m==n)=ah
 .rw[ap e];exact⟨a,b,f,()⟩
 .rw[am e];have v:m≠n:=by simpa using e
  by_cases h:m > 1
  .rw[ap h];refine⟨a.blt (),a.blt (),(λz=>by have:=a.inj () () z;lia),?_⟩;show kOk lt n (if lt (gt p 0) (gt p (m-1))=ah then .ret (m,p) else _) _;rw[ap (b 0 (m-1) () ())];exact⟨a,b,f,()⟩
  .rw[am h];obtain rfl:m=1:=by lia
   have c:=l ();refine ko (vg (zc8 S a (n-2) 2 () () λi j d o=>?_) λr ⟨k,t,s,q,g⟩=>?_)
   .obtain rfl:j=1:=by lia
    obtain rfl:i=0:=by lia
    exact c
   .rw[am (),k];exact zgM S a () () g
theorem VF(S:SO lt n){p:Array Nat}(a:PP n p){k:Nat}(o:k<n)(g:Z1 lt p k):∀(f l r:Nat),l<=r->r<=k->r-l<=f->(∀i,i<l->lt (gt p i) (gt p k)=ah)->(∀i,r<=i->i<k->lt (gt p k) (gt p i)=ah) ->
  kOk lt n (kas_place p k f l r) λm=>m<=k/\(∀i,i<m->lt (gt p i) (gt p k)=ah)/\∀i,m<=i->i<k->lt (gt p k) (gt p i)=ah
 |0,l,r,h1,h2,h3,h4,h5=>⟨(),h4,λi h b=>h5 i () b⟩
 |f+1,l,r,h1,h2,h3,h4,h5=>by
  unfold kas_place;by_cases c:l >= r
  .rw[ap c];exact⟨(),h4,λi h b=>h5 i () b⟩
  .rw[am c];refine⟨a.blt (),a.blt (),(λz=>by have:=a.inj () () z;lia),?_⟩;show kOk lt n (if lt (gt p k) (gt p ((l+r)/2))=ah then _ else _) _;by_cases d:lt (gt p k) (gt p ((l+r)/2))=ah
   .rw[ap d];refine VF S a o g f l ((l+r)/2) () () () h4 λi h b=>?_;by_cases e:i=(l+r)/2
    .rw[e];exact d
    .exact S.trans _ _ _ (a.blt ()) (a.blt ()) (a.blt ()) d (g _ i () b)
   .rw[am d];have j:lt (gt p ((l+r)/2)) (gt p k)=ah:=S.tot _ _ (a.blt ()) (a.blt ()) (λz=>by have:=a.inj () () z;lia) (eD.mpr d);refine VF S a o g f ((l+r)/2+1) r () () () (λi h=>?_) h5;by_cases e:i=(l+r)/2
    .rw[e];exact j
    .exact S.trans _ _ _ (a.blt ()) (a.blt ()) (a.blt ()) (g i _ () ()) j
theorem ze4(a:k<p.size)(c:d<=k)(b:j<p.size):gt (bubble p k d) j=if j=k-d then gt p k else if k-d<j/\j<=k then gt p (j-1) else gt p j:=by
 have e:=getElem?_bubble a d c j;rw[ku (p:=bubble p k d) (k:=j) (by rw[bubble_size];exact b)] at e;by_cases h1:j=k-d
 .rw[ap h1,ku a] at e;rw[ap h1];exact bI e
 .rw[am h1] at e ⊢;by_cases h2:k-d<j/\j<=k
  .rw[ap h2,ku ()] at e;rw[ap h2];exact bI e
  .rw[am h2,ku b] at e;rw[am h2];exact bI e
theorem ze5(S:SO lt n):∀(f:Nat) {p:Array Nat} (k:Nat),PP n p->k+f=n->Z1 lt p k->kOk lt n (kas_bin f p k) λc=>PP n c/\Z1 lt c n
 |0,p,k,hp,hk,hr=>⟨hp,by rw[<-hk];exact hr⟩
 |f+1,p,k,hp,hk,hr=>by
  have m:=hp.size;refine ko (vg (VF S hp () hr k 0 k (bS _) (bp _) () (λi b=>by lia) (λi r q=>by lia)) λl ⟨h,g,d⟩=>?_);refine ze5 S f (k+1) (rX (bubble_perm _ _ _) hp) () λi j a o=>?_;rw[ze4 () () (),ze4 () () ()];have e:k-(k-l)=l:=by lia
  rw[e];by_cases b:i=l
  .rw[ap b,am (),ap ()];exact d _ () ()
  .rw[am b];by_cases hi2:l<i/\i<=k
   .rw[ap hi2,am (),ap ()];exact hr _ _ () ()
   .rw[am hi2];by_cases hj1:j=l
    .rw[ap hj1];exact g _ ()
    .rw[am hj1];by_cases hj2:l<j/\j<=k
     .rw[ap hj2];by_cases hij2:i<j-1
      .exact hr _ _ hij2 ()
      .lia
     .rw[am hj2];exact hr _ _ a ()
theorem zgN(S:SO lt n)(d:1<=n):kOk lt n (kas_sort n) λp=>PP n p/\Z1 lt p n:=by
 refine ko (vg (ze3 S (p:=rL (eB n)) (sB _) d) ?_);rintro r ⟨b,a,c,f⟩;by_cases h:r.1<n
 .rw[ap h,Nat.max_eq_left c];exact ze5 S _ _ b () a
 .rw[am h];obtain e:r.1=n:=by lia
  exact⟨b,by rw[<-e];rw[e] at a ⊢;exact a⟩
end
theorem ze6{b:Type}{c:Nat->Nat->Bool}{n:Nat}{s:af}{cmp:Nat->Nat->(Bool->af->Prop)->af->Prop}(d:∀i j C,i<n->j<n->i≠j->C (c i j) s->cmp i j C s):∀ {t:KasT b} {R:b->Prop} {Q:b->af->Prop},kOk c n t R->(∀a,R a->Q a s)->t.kasWp cmp Q s
 |.ret _,_,_,h,m=>m _ h
 |.ask _ _ _,_,_,h,m=>d _ _ _ h.1 h.2.1 h.2.2.1 (ze6 d h.2.2.2 m)
def Kp(a:D)(h c:av):Prop:=∀b o,b≠a->h.get? b=U o->c.get? b=U o
def vE(a:List ae)(p:Array Nat):List ae:=p.toList.map λi=>a.getD i cC
theorem zaR(vs:List ae):vE vs (rL (eB vs.length))=vs:=by
 unfold vE;apply eX;intro i;simp only[bA];by_cases h:i<vs.length
 .rw[bb (l:=vs) h];simp[lM h,h]
 .rw[cG (by lia:vs.length<=i)];simp;lia
section
variable {P:aq}{w:au}{A:aw}{E:ae->af->Prop}{s:af}
theorem VG{a:D}{d:List ae}{n:Nat}{κ:SortKind}{lt:Nat->Nat->Bool}{R:PySem.Fin->af->Prop}(z:s.heap.get? a=U (seqObj "list" d.toArray n))(N:d.length<64) (hk:2<=d.length->∀(h:av) (Q:SortKind->af->Prop),Kp a s.heap h->Q κ { s with heap:=h }->Bf (Bg P w) A (keyKind' d.toArray) Q (λ_ _=>False) { s with heap:=h }) (hc:∀(h:av) i j C,Kp a s.heap h->i<d.length->j<d.length->i≠j->C (lt i j) { s with heap:=h }->kas_ask P w A κ d i j C { s with heap:=h }) (S:SO lt d.length) (fin:∀h p c,Kp a s.heap h->h.get? a=U (seqObj "list" (vE d p).toArray c)->PP d.length p->Z1 lt p d.length->R (.done (.ret .none)) { s with heap:=h }) :
  Bf (Bg P w) A (Builtin.«list.sort» ⟨[.ref a],[]⟩) R E s:=by
 have ha:a<s.heap.objs.size:=bQ z;obtain⟨O,o1⟩:∃O,(s.heap.update a (dt λ_=>(#[]:Array ae))).get? a=U (seqObj "list" #[] O):=⟨_,get?_update_seq z λ_=>#[]⟩;have H:Kp a s.heap (((s.heap.update a (dt λ_=>(#[]:Array ae))).push (seqObj "tuple" d.toArray 0)).push (seqObj "list" #[] 0)):=λb o B e =>
  bc _ (bc _ ((eA _ _ (ef B)).trans e))
 have t:(((s.heap.update a (dt λ_=>(#[]:Array ae))).push (seqObj "tuple" d.toArray 0)).push (seqObj "list" #[] 0)).get? a=U (seqObj "list" #[] O):=bc _ (bc _ o1);have u:∀f:List ae,f.length=d.length->∃c,((((s.heap.update a (dt λ_=>(#[]:Array ae))).push (seqObj "tuple" d.toArray 0)).push (seqObj "list" #[] 0)).update a (dt λ_=>f.toArray)).get? a=U (seqObj "list" f.toArray c):=λf _=>⟨_,get?_update_seq t λ_=>f.toArray⟩;have m:∀f:List ae,Kp a s.heap ((((s.heap.update a (dt λ_=>(#[]:Array ae))).push (seqObj "tuple" d.toArray 0)).push (seqObj "list" #[] 0)).update a (dt λ_=>f.toArray)):=λf b o B e =>
  (eA _ _ (ef B)).trans (H b o B e)
 rw[list_sort_plain];refine ba (listItems_at z Y ?_);refine ba (pT z Y ?_ (by rw[bG,bH];lia) (bS _));refine ba (seqEpoch_at o1 Y ?_);refine ba (oW ?_ (by show d.length<=_;rw[bH];lia));refine ba (nA ?_ (bS _));refine dD ?_;show Bf (Bg P w) A _ R E { s with heap:=((s.heap.update a (dt λ_=>(#[]:Array ae))).push (seqObj "tuple" d.toArray 0)).push (seqObj "list" #[] 0) };generalize hH:((s.heap.update a (dt λ_=>(#[]:Array ae))).push (seqObj "tuple" d.toArray 0)).push (seqObj "list" #[] 0)=g at *
 dsimp only;have T:∀f:List ae,f.length=d.length->∀p,f=vE d p->PP d.length p->Z1 lt p d.length->R (.done (.ret .none)) { s with heap:=g.update a (dt λ_=>f.toArray) }:=λf hl p e r I=>by
  obtain⟨c,J⟩:=u f hl;refine fin _ p c (m f) ?_ r I;rw[<-e];exact J
 by_cases h2:d.toArray.size<2
 .have q:d.length<2:=by simpa using h2
  rw[ap h2,ap h2];refine ba (bf ?_);rw[StateT.run_pure];refine ba (bf ?_);dsimp only;have ez:((d.toArray.zip d.toArray).map (·.2))=d.toArray:=by
   apply nJ.mp;rw[Array.toList_map,Array.toList_zip];simp[List.map_snd_zip]
  refine ba (seqEpoch_at t Y ?_);rw[show (arrOf (SortSt.mk' general' (d.toArray.zip d.toArray) #[] 7 ak))=d.toArray.zip d.toArray from rfl,ez];refine ba (pT t Y ?_ (bS _) (by rw[bG,bH];lia));simp only[bne_self_eq_false,cP,if_false];exact bf (T d Y _ (zaR d).symm (sB _) λi j v hj=>by lia)
 .have q:2<=d.length:=by simpa using h2
  rw[am h2,am h2];refine ba (dN (hk q g (λl k=>l=κ/\k={ s with heap:=g }) H ⟨rfl,rfl⟩) (λl k hs=>?_) λ_ _ x=>x.elim);obtain⟨rfl,rfl⟩:=hs;have G:=ze6 (s:={ s with heap:=g }) (cmp:=kas_ask P w A l d) (λi j C hi hj v hC=>hc g i j C H hi hj v hC) (zgN S ()) (Q:=λp k=>k={ s with heap:=g }/\PP d.length p/\Z1 lt p d.length) λp r=>⟨rfl,r⟩;refine ba (dN (kat_run (ks:=d) (Q:=λy k=>∃p:Array Nat,arrOf y=p.map (kas_item (d.toArray.zip d.toArray))/\failedOf y=ak/\k={ s with heap:=g }/\PP d.length p/\Z1 lt p d.length) rfl q N (λp y k _ a2 a3 a4=>⟨p,a2,a3,a4⟩) G) ?_ λ_ _ e=>e);rintro⟨⟨⟩,y⟩ k ⟨p,M,hf,rfl,r,I⟩;dsimp only;have f:=kat_snds (ks:=d) Y M;have ol:(vE d p).length=d.length:=by unfold vE;rw[bg,cg,r.size]
  rw[f];refine ba (seqEpoch_at t Y ?_);refine ba (pT t Y ?_ (bS _) (by show (rL (vE d p)).size<=_;rw[bG,ol,bH];lia));rw[hf];simp only[bne_self_eq_false,cP,if_false];exact bf (T (vE d p) ol p Y r I)
theorem Wr{l:D}{vs:List ae}{κ:SortKind}{lt:Nat->Nat->Bool}{Q:ae->af->Prop}(u:vs.length<64)(S:SO lt vs.length) (r:∀R:List ae->af->Prop,(∀(h:av) (d:Nat),(∀b o,s.heap.get? b=U o->h.get? b=U o)->R vs { s with heap:=h,toks:=d })->Bf (Bg P w) A.in1 (collect (.ref l)) R E s) (z:2<=vs.length->∀(h:av) (d:Nat) (Q:SortKind->af->Prop),(∀b o,s.heap.get? b=U o->h.get? b=U o)->Q κ { s with heap:=h,toks:=d }->Bf (Bg P w) A.in1.in1 (keyKind' vs.toArray) Q (λ_ _=>False) { s with heap:=h,toks:=d }) (H:∀(h:av) (d:Nat) i j C,(∀b o,s.heap.get? b=U o->h.get? b=U o)->i<vs.length->j<vs.length->i≠j->C (lt i j) { s with heap:=h,toks:=d }->kas_ask P w A.in1.in1 κ vs i j C { s with heap:=h,toks:=d }) (fin:∀(h:av) (d:Nat) (a:av) (p:Array Nat) (c:Nat),(∀b o,s.heap.get? b=U o->h.get? b=U o)->(∀b o,h.get? b=U o->a.get? b=U o)->a.get? h.objs.size=U (seqObj "list" (vE vs p).toArray c)->PP vs.length p->Z1 lt p vs.length->Q (.ref h.objs.size) { s with heap:=a,toks:=d }) :
  Bf (Bg P w) A (call (.builtin "sorted") [.ref l]) Q E s:=by
 refine mC kind_sorted rM rN (rO _) ?_;unfold Builtin.«sorted»;refine ba (m:=checkCount "sorted" 1 1 _) (bf ?_);refine ba (r _ λh d g=>?_);refine ba (nA ?_ (by rw[bH];lia));have n:(h.push (seqObj "list" vs.toArray 0)).get? h.objs.size=U (seqObj "list" vs.toArray 0):=bF _ rfl;have f:∀a,Kp h.objs.size (h.push (seqObj "list" vs.toArray 0)) a->∀b o,h.get? b=U o->a.get? b=U o:=λa k b o e=>k b o (bW (bQ e)) (bc _ e);refine ba (dD (cK oY ⟨_,n,Y⟩ oz (VG (s:={ s with heap:=h.push (seqObj "list" vs.toArray 0),toks:=d }) n u (κ:=κ) (lt:=lt) (λI a J k q=>?_) (λa i j C k G B t q=>?_) S λa p c k y x v=>?_) (oZ _)))
 .exact z I a d J (λb o e=>f a k b o (g b o e)) q
 .exact H a d i j C (λb o e=>f a k b o (g b o e)) G B t q
 .exact⟨_,Y,bf ⟨_,Y,fin h d a p c g (f a k) y x v⟩⟩
end
def yy(a b:Str×Int):Bool:=if a.1=b.1 then decide (a.2<b.2) else decide (a.1.cps.toList<b.1.cps.toList)
def ug(h:av)(v:ae)(q:Str×Int):Prop:=∃a o t u n,v=.ref a/\h.get? a=U o/\o.cls=.type "tuple"/\o.data=.seq #[.str q.1 t,.int q.2 u] n
section
variable {P:aq}{w:au}{A:aw}{E:ae->af->Prop}{s:af}
theorem zgO{Q:Bool->af->Prop}(h:Q (decide (a.cps.toList<c.cps.toList)) s):Bf (Bg P w) A (oneLt' ah (.str a t) (.str c u)) Q E s:=by
 rw[<-keyLt'_oneType];exact kas_lt_str h
theorem zgP{a c:Int}{Q:Bool->af->Prop}(h:Q (decide (a<c)) s):Bf (Bg P w) A (oneLt' ao (.int a t) (.int c u)) Q E s:=
 kat_one _ _ (ph (show W.BoolBack Q (.bool (decide (a<c))) s from h))
theorem zdY{a b:Str×Int}{Q:Bool->af->Prop}(i:ug s.heap x a)(g:ug s.heap y b)(h:Q (yy a b) s)(k:a≠b):Bf (Bg P w) A (keyLt' (tuples' ah) x y) Q E s:=by
 obtain⟨p,o,t,u,n,rfl,j,C,l⟩:=i;obtain⟨v,z,r,q,B,rfl,c,m,d⟩:=g;refine kat_lt j l c d (kat_cons (wpAny_eqBool_str (kat_go (λe=>kat_yes (kat_cons (wpAny_eqBool_int (kat_go (λf=>?_) λf=>kat_no ?_)))) λe=>kat_no ?_)))
 .exact absurd (oK (of_decide_eq_true e) (by simpa using f)) k
 .have e:=of_decide_eq_true e;unfold yy at h;rw[ap e] at h;exact zgP h
 .have e:=of_decide_eq_false e;unfold yy at h;rw[am e] at h;exact zgO h
theorem zcf{b:List ae}{c:List (Str×Int)}{Q:SortKind->af->Prop}(f:b.length=c.length)(d:∀(i:Nat) (v:ae) (q:Str×Int),b[i]?=U v->c[i]?=U q->ug s.heap v q)(G:0<b.length)(h:Q (tuples' ah) s) :
  Bf (Bg P w) A (keyKind' b.toArray) Q E s:=by
 have T:∀(b:List ae) (c:List (Str×Int)),b.length=c.length->(∀(i:Nat) (v:ae) (q:Str×Int),b[i]?=U v->c[i]?=U q->ug s.heap v q)->∃e,KatTups s.heap b e/\e.length=b.length/\∀v∈e,∃x t,v=ic x t:=by
  intro b;induction b with
  |nil=>exact λc _ _=>⟨[],trivial,Y,λ_ z=>nomatch z⟩
  |cons v r ih =>
   intro c f d
   match c,f with
   |q::qr,f =>
    obtain⟨e,k,g,kf⟩:=ih qr (by simpa using f) λi j l C B=>d (i+1) j l (by simpa using C) (by simpa using B);obtain⟨a,o,t,u,n,rfl,m,y,p⟩:=d 0 v q Y rfl;refine⟨.str q.1 t::e,sP m y p Y k,by simp[g],λz hz=>?_⟩;rcases bE.mp hz with rfl|hz
    .exact⟨_,_,Y⟩
    .exact kf z hz
 obtain⟨e,k,g,kf⟩:=T b c f d;refine kat_kind (T:=.type "str") k () (λv d=>?_) () h;obtain⟨x,t,rfl⟩:=kf v d;exact Looks.of_pure rfl
end
theorem zaS{x y:Str}(h:x.cps.toList=y.cps.toList):x=y:=by
 obtain⟨a⟩:=x;obtain⟨b⟩:=y;have:a=b:=nJ.mp h;rw[this]
theorem VH{d:List (Str×Int)}(o:d.Nodup):SO (λi j=>yy (d.getD i ("",0)) (d.getD j ("",0))) d.length where
 irr:=λi _=>by
  unfold yy;rw[ap rfl];exact Bk ()
 trans:=λi j k _ _ _ g f=>by
  generalize d.getD i ("",0)=a at *
  generalize d.getD j ("",0)=b at *
  generalize d.getD k ("",0)=c at *
  unfold yy at *
  by_cases e1:a.1=b.1
  .rw[ap e1] at g;by_cases e2:b.1=c.1
   .rw[ap e2] at f;rw[ap (e1.trans e2)];have g:=of_decide_eq_true g;have f:=of_decide_eq_true f;exact Bj ()
   .rw[am e2] at f;rw[am (by rw[e1];exact e2),e1];exact f
  .rw[am e1] at g;have g:=of_decide_eq_true g;by_cases e2:b.1=c.1
   .rw[am (by rw[<-e2];exact e1),<-e2];exact Bj g
   .rw[am e2] at f;have f:=of_decide_eq_true f;have m:=List.lt_trans g f;rw[am (λz=>by rw[z] at m;exact List.lt_irrefl _ m)];exact Bj m
 tot:=λi j q p l h=>by
  have n:d.getD i ("",0)≠d.getD j ("",0):=λz=>l (by
   rw[bD,bD,bb q,bb p] at z;exact(gS o).mp z)
  generalize d.getD i ("",0)=a at *
  generalize d.getD j ("",0)=b at *
  unfold yy at *
  by_cases e:a.1=b.1
  .rw[ap e] at h;rw[ap e.symm];have h:=of_decide_eq_false h;have:a.2≠b.2:=λz=>n (oK e z);exact Bj ()
  .rw[am e] at h;rw[am (λz=>e z.symm)];have h:=of_decide_eq_false h;refine Bj ?_;rcases List.le_iff_lt_or_eq.mp (List.not_lt.mp h) with z|z
   .exact z
   .exact absurd (zaS z.symm) e
end L2
namespace L2
open PySem
def tN(h:av)(d:D)(a:Array DictEntry)(b:Nat):Prop:=∃o,h.get? d=U o/\o.ExactDict/\o.data=.dict a b
section
variable {P:aq}{w:au}{A:aw}{E:ae->af->Prop}{s:af}
theorem tN.type(x:tN s.heap d es ep):s.TypeIs (.ref d) "dict":=let ⟨o,ho,hc,_⟩:=x;⟨o,ho,hc.1⟩
theorem tN.at(x:tN h d es ep)(e:∀o,h.get? d=U o->h'.get? d=U o):tN h' d es ep:=let ⟨o,ho,r⟩:=x;⟨o,e _ ho,r⟩
theorem zaT{Q:ae->af->Prop}(lo:(d==sysModules)=ao)(b:tN s.heap d es ep) (q:Q (.ref s.heap.objs.size) { s with heap:=s.heap.push { cls:=.type "dict_keyiterator",data:=.fields #[.ref d,.int 0 0,.int es.size 0,.int ep 0] } }):Bf (Bg P w) A (pyIter (.ref d)) Q E s:=by
 have T:=b.type;obtain⟨o,a,e,c⟩:=id b;refine wpAny_pyIter_slot T F.slot_dict_iter (cK F.slot_dict_iter T F.entry_dict_iter ?_ (F.args_dict_iter_1 _));unfold Builtin.«dict.__iter__»;refine ba ?_;unfold Builtin.Dict.dictSlotNone;refine ba (fB T ?_);show Bf _ _ (pure (bJ d)) _ _ s;refine bf ?_;show Bf _ _ (gy d >>= _) _ _ s;unfold gy;rw[am (by rw[lo];exact bM)];refine ba (bf ?_);refine ba (dQ a c ?_);refine ba (gA a c ?_);refine ba (cw (bf ⟨_,Y,"dict_keyiterator",_,⟨_,bF _ Y,Y⟩,F.slot_dict_keyiterator_next.lookup,?_⟩));simpa[rawInt] using q
theorem zaU{Q:Option ae->af->Prop}(a:s.heap.IsKeyIter it d i es.size ep)(m:tN s.heap d es ep)(k:es[i]?=U e) (q:∀h,h.IsKeyIter it d (i+1) es.size ep->cN it s.heap h->Q (U e.key) { s with heap:=h }):Bf (Bg P w) A (pyNext (.ref it)) Q E s:=by
 obtain⟨o,l,p,g⟩:=id a;obtain⟨r,c,n,f⟩:=id m;have t:i<es.size:=by
  rcases gB i es.size with h|h
  .exact h
  .rw[iB h] at k;cases k
 unfold pyNext;refine ba (iq (cE (name:=bh "__next__") a.typeIs eS (cK eS a.typeIs i8 ?_ (iV _))));refine ba (bf ?_);refine ba ?_;refine ba ?_
 first|(refine ba (eQ a.typeIs (bf ?_)))|(refine ba (fQ a.typeIs (bf ?_)))
 refine ba (mD l g ?_);have j:dR "dict_keyiterator"=ao:=by lia
 simp only[j,cP,if_false];show Bf _ _ (if (bJ d==cC)=ah then _ else _) _ _ s;rw[am (show ¬ ((bJ d==cC)=ah) from bM)];refine ba (bf ?_);refine ba (dQ c f ?_);rw[am (by simp)];refine ba (bf ?_);refine ba (gA c f ?_);rw[am (by simp)];refine bf ?_;simp only[show ¬ ((i:Int)<0) from by lia,if_false,dP,k];refine ba ?_
 first|(refine ba (eQ a.typeIs (bf ?_)))|(refine ba (fQ a.typeIs (bf ?_)))
 refine ba (oA a.typeIs ?_);show Bf _ _ (setField (.ref it) 1 (rawInt ((i:Int)+1)) >>= _) _ _ s;refine ba (iQ l g (by simp) ?_);have b:(s.heap.update it (Obj.mapFields (·.setIfInBounds 1 (rawInt ((i:Int)+1))))).IsKeyIter it d (i+1) es.size ep:=by
  refine⟨_,eL _ l (oy (ik g _)),(rq ..).trans p,?_⟩;rw[ik g];simp[rawInt]
 refine ba (dD ?_);refine ba (oA (s:={ s with heap:=s.heap.update it (Obj.mapFields (·.setIfInBounds 1 (rawInt ((i:Int)+1)))) }) b.typeIs ?_);show Bf _ _ (pure e.key) _ _ _;exact bf (bf ⟨_,Y,bf (q _ b (cX ..))⟩)
theorem zc9{Q:Option ae->af->Prop}(p:A.handled=ak)(c:s.heap.IsKeyIter it d i es.size ep)(n:tN s.heap d es ep)(l:es.size<=i) (q:∀h,sy it s.heap h->Q ak { s with heap:=h }):Bf (Bg P w) A (pyNext (.ref it)) Q E s:=by
 obtain⟨o,j,u,k⟩:=id c;obtain⟨t,e,r,f⟩:=id n;unfold pyNext;refine ba (iq (cE (name:=bh "__next__") c.typeIs eS (cK eS c.typeIs i8 ?_ (iV _))));refine ba (bf ?_);refine ba ?_;refine ba ?_
 first|(refine ba (eQ c.typeIs (bf ?_)))|(refine ba (fQ c.typeIs (bf ?_)))
 refine ba (mD j k ?_);have g:dR "dict_keyiterator"=ao:=by lia
 simp only[g,cP,if_false];show Bf _ _ (if (bJ d==cC)=ah then _ else _) _ _ s;rw[am (show ¬ ((bJ d==cC)=ah) from bM)];refine ba (bf ?_);refine ba (dQ e f ?_);rw[am (by simp)];refine ba (bf ?_);refine ba (gA e f ?_);rw[am (by simp)];refine bf ?_;simp only[show ¬ ((i:Int)<0) from by lia,if_false,dP,iB l];refine ba ?_
 first|(refine ba (eQ c.typeIs (bf ?_)))|(refine ba (fQ c.typeIs (bf ?_)))
 show Bf _ _ (setField (.ref it) 0 .none >>= _) _ _ s;refine ba (iQ j k (by simp) ?_);show Bf _ _ (newExc (.type "StopIteration") [] >>= _) _ _ _;refine ba ?_;simp only[newExc,newTuple];refine ba (cw ?_ (by size_fits));refine ba (m:=firstArgMember _ _) (wpAny_of_eq (a:=cC) (by first|rfl|(simp only[firstArgMember];rfl)) ?_);refine cw ?_ (by size_fits);simp only[raiseNew];refine ba (pQ ?_);rw[show A.in1.handled=ak from p];refine ba (bf (wpAny_throw ?_));exact ba (nK (T:="StopIteration") (b:=ah) ⟨_,bF _ Y,Y⟩ oX (bf (q _ (((cX ..).extBut.push _).push _))))
theorem zdZ(t:A.handled=ak)(I d:D)(l:d≠I)(k:Array DictEntry)(r:Nat) :
  Walks P w A I [I,d] [I] k.size (λi v=>∃e,k[i]?=U e/\v=e.key) (λi h=>h.IsKeyIter I d i k.size r/\tN h d k r) where
 sub:=λb c=>by simp at c;simp[c]
 frame:=λ_ _ _ a p=>⟨a.1.at λo e=>p I (by simp) o e,a.2.at λo e=>p d (by simp) o e⟩
 item:=λi s Q E q a j=>by
  refine zaU a.1 a.2 (cq q) λn g f=>?_;exact j _ n s.toks ⟨_,cq q,Y⟩ ⟨g,a.2.at λo e=>f.extBut d o l e⟩ λb o c e=>f.extBut b o (λh=>c (by simp[h])) e
 done:=λs Q E a j=>zc9 t a.1 a.2 (bp _) λn m=>j n s.toks λb o c e=>m b o (λh=>c (by simp[h])) e
 self:=λ_ _ _ _ a j=>oP a.1 j
end
end L2
namespace L2
open PySem PySem.Spec PyProof.Rows
section
open PySem.SeqAt
open PySem.AutoSeq1 (wpAny_loadPart')
open PySem.MeetsSeq PySem.MeetsSeq2 PySem.MeetsSeq3
theorem VI(l b:D)(x y:Str)(i j:Int)(t u m r:Tok)(n J:Nat)(M H:Option D)(I v:Array (Option ae)) :
  Meets (Builtin.«tuple.__lt__» ⟨[.ref l,.ref b],[]⟩) (λ_ R s=>s.heap.get? l=U { cls:=.type "tuple",dict:=M,data:=.seq #[.str x t,.int i u] n,slots:=I } /\
   s.heap.get? b=U { cls:=.type "tuple",dict:=H,data:=.seq #[.str y m,.int j r] J,slots:=v }/\R (.ok (.ret (.bool (yy (x,i) (y,j))))) s) :=
 .of_wp λa w A R s h=>by
  obtain⟨p,g,d,k,o⟩:=s;obtain⟨C,G,h⟩:=h;have N:=AutoSeq1.sub_tuple_tuple;have B:∀(E:ae->af->Prop) (Q:ae->af->Prop) (s:af),Q (.bool (decide (x.cps.toList<y.cps.toList))) s->Bf (Bg a w) A.in1 (richCompare .Lt (.str x t) (.str y m)) Q E s:=λE Q s q=>(PyProof.Rows.lt_str q:Bf (Bg a w) A.in1 (Bi .Lt (.str x t) (.str y m)) Q E s);have z:=HT.rcLt_int A.in1 ⟨p,g,d,k,o⟩ i u j r a w;by_cases e:x=y
  .subst e;have c:=mf (A:=A.in1) (s:=⟨p,g,d,k,o⟩) x t x m a w;rw[beq_self_eq_true] at c;unfold yy at h;rw[ap rfl] at h;by_cases e2:i=j
   .subst e2;have f:=ma (A:=A.in1) (s:=⟨p,g,d,k,o⟩) i u i r a w;rw[beq_self_eq_true] at f
    wp_walk using gC C,gC G,c,f
    exact⟨_,Y,by simpa[Builtin.Tuple.tupleCompareSizes] using h⟩
   .have f:=ma (A:=A.in1) (s:=⟨p,g,d,k,o⟩) i u j r a w;rw[show (i==j)=ao from by simpa using e2] at f
    wp_walk using gC C,gC G,c,f,z
    exact⟨_,Y,by simpa using h⟩
  .have c:=mf (A:=A.in1) (s:=⟨p,g,d,k,o⟩) x t y m a w;rw[show (x==y)=ao from by simpa using e] at c;unfold yy at h;rw[am e] at h
   wp_walk using gC C,gC G,c,B
   exact⟨_,Y,by simpa using h⟩
end
section
variable {P:aq}{w:au}{A:aw}{E:ae->af->Prop}{s:af}
theorem tN.lt(x:tN h d es ep):d<h.objs.size:=let ⟨_,ho,_⟩:=x;bQ ho
theorem QK{d:D}{es:Array DictEntry}{ep:Nat}(lo:(d==sysModules)=ao):W.KdlSrc P w "dict" d d es.size (λi v=>∃e,es[i]?=U e/\v=e.key) (λh=>tN h d es ep) where
 type:=λ_ a=>a.type
 there:=λ_ a=>⟨a.lt,a.lt⟩
 keep:=λ_ _ a c=>a.at λo e=>c d (.inl Y) o e
 notList:=by lia
 notTuple:=by lia
 hint:=λ_ _ _ _ a b=>W.kdl_hint_dict a.type b
 iter:=λ_ _ f a=>⟨_,_,(λ_ _ b=>zaT lo a b),zdZ f _ d (bW a.lt) es ep,⟨⟨_,bF _ Y,Y,Y⟩,a.at λo e=>bc _ e⟩⟩
theorem Ws{G:Nat->ae->Prop}{B:av->Prop}{R:List ae->af->Prop}(K:W.KdlSrc P w T r d n G B)(J:A.handled=ak)(p:B s.heap)(I:n<=Bb) (h:∀(i:av) (m:Nat) (y:List ae),(∀b o,s.heap.get? b=U o->i.get? b=U o)->y.length=n->(∀j v,y[j]?=U v->G j v)->R y { s with heap:=i,toks:=m }) :
  Bf (Bg P w) A (collect (.ref r)) R E s:=by
 obtain⟨C,H⟩:=K.there _ p;unfold collect;refine ba (wpAny_runValue (fh oQ ?_));rw[dG lN _];show Bf _ A.in1 (newList [] >>= λl=>again (.builtin "list.__iadd__" ⟨[l,.ref r],[]⟩)) _ _ s;refine ba (cw ?_);refine bf ⟨gG fU _,fh entry_list_iadd' ?_⟩;rw[dG fU _];have M:(s.heap.push { cls:=.type "list",data:=.seq ([]:List ae).toArray }).get? s.heap.objs.size=U { cls:=.type "list",data:=.seq #[] }:=bF _ rfl;show Bf _ A.in1 (dz (.ref s.heap.objs.size) (.ref r) (.ref s.heap.objs.size)) _ _ _;have z:=W.kdl_extend (A:=A) (s:={ s with heap:=s.heap.push { cls:=.type "list",data:=.seq ([]:List ae).toArray } }) (R:=λ(q:aB) (u:af)=>∃(i:av) (m:Nat) (g:Array ae) (c:Nat),q=.ok (.ret (.ref s.heap.objs.size))/\u={ s with heap:=i,toks:=m } /\
   (∀b o,s.heap.get? b=U o->i.get? b=U o)/\i.get? s.heap.objs.size=U { cls:=.type "list",dict:=ak,data:=.seq g c,slots:=#[] }/\ItemsOf G g n) K J (K.keep _ _ p λb _ o e=>bc _ e) s.heap.objs.size (fu C) (fu H) (.ref s.heap.objs.size) 0 M
  (λi m g c t k a=>⟨i,m,g,c,Y,Y,λb o e=>t b o (bW (bQ e)) (bc _ e),k,a⟩) I
 refine dN z (λfin u x=>?_) λe u x=>?_
 .cases fin with
  |done f =>
   obtain⟨i,m,g,c,e,rfl,t,k,a⟩:=x;cases e;show Bf _ A (load s.heap.objs.size >>= _) _ _ _;refine ba (oJ k ?_);exact bf (h i m g.toList t (by rw[cg];exact a.1) λj v e=>a.2 j v (by rw[<-du];exact e))
  |again c =>
   refine⟨x.1,gj x.2 λq u x=>?_⟩;obtain⟨i,m,g,c,rfl,rfl,t,k,a⟩:=x;show Bf _ A (load s.heap.objs.size >>= _) _ _ _;refine ba (oJ k ?_);exact bf (h i m g.toList t (by rw[cg];exact a.1) λj v e=>a.2 j v (by rw[<-du];exact e))
 .obtain⟨i,m,g,c,N,_⟩:=x;cases N
end
def zC(q:Str×Int):List aU:=[.inr q.1,.inl q.2]
abbrev ze7:RC:=λf H Q=>∃(a:D) (d:List (List aU×V)) (e:List (Str×Int)),f=[.ref a]/\H a=U (.dT d)/\d.map (·.1)=e.map zC/\d.length<64 /\
 ∀(l:D) (c:List (D×(Str×Int))),H l=ak->(c.map (·.2)).Perm e->(c.map (·.2)).Pairwise (λa b=>yy a b=ah)->(∀n∈c,H n.1=U (.tup [.str n.2.1,.int n.2.2]))->Q (.ref l) (upd H l (.lst (c.map λn=>V.ref n.1)))
theorem yV{f e:Type}{F:f->e->Prop}:∀ {d:List f} {c:List e},Paired F d c->∀ {i:Nat} {a:f} {b:e},d[i]?=U a->c[i]?=U b->F a b
 |_,_,.nil,i,a,b,h,_=>by simp at h
 |_,_,.cons x r,0,a,b,h1,h2=>by
  simp only[eT,fR] at h1 h2;subst h1 h2;exact x
 |_,_,.cons x r,i+1,a,b,h1,h2=>yV r (by simpa using h1) (by simpa using h2)
theorem ug.keep{q:Str×Int}(x:ug h v q)(k:∀b o,h.get? b=U o->h'.get? b=U o):ug h' v q:=by
 obtain⟨a,o,t,u,n,e,c,r⟩:=x;exact⟨a,o,t,u,n,e,k _ _ c,r⟩
section
variable {X:Cx}
theorem zaV{b:St}{H:Hp}{s:af}{a:D}{q:Str×Int}(I:aO X aa b H s)(h:H a=U (.tup [.str q.1,.int q.2])):ug s.heap (.ref a) q:=by
 obtain⟨d,c,⟨o,e,g,n,f⟩,_⟩:=I.tuple (sW.of h);cases c with
 |cons r1 rr =>
  cases rr with
  |cons r2 rn =>
   cases rn;obtain⟨t,rfl⟩:=r1;obtain⟨u,rfl⟩:=r2;exact⟨a,o,t,u,n,Y,e,g,f⟩
theorem xZ{b c:Type}{f:b->c}:∀ {l:List b},(l.map f).Nodup->l.Nodup
 |[],_=>cz
 |a::r,h=>by
  rw[bx,bX] at h;exact bX.mpr ⟨λz=>h.1 (bq z),xZ h.2⟩
theorem QL(hc:X.calm=ah):jZ X (.builtin "sorted") ze7:=by
 intro aa s σ H d us Q I r h;obtain⟨a,A,qs,rfl,ha,hk,az,q⟩:=h;obtain⟨u,rfl,ru⟩:=jm r;cases ru;obtain⟨hz,lo,d,B,o,es,ep,ho,t,hd,he,hn⟩:=(show aW X.prog X.w H s.heap a (.dT A) from I.hok a _ ha);have hh:X.A.handled=ak:=I.ok.hd hc;have lk:A.length=qs.length:=by have:=congrArg fT hk;simpa using this
 have lx:A.length=d.length:=bL B;have aj:es.size=d.length:=by rw[<-cg,he,bg]
 -- the keys in their order
 have O:∀(i:Nat) (x:List aU×D×ae),d[i]?=U x->∃q,qs[i]?=U q/\x.1=zC q/\H x.2.1=U (.tup [.str q.1,.int q.2]):=λi x t=>by
  have b:=(bn.mp t).1;obtain⟨kv,k⟩:∃kv,A[i]?=U kv:=⟨_,bb ()⟩;obtain⟨q,y⟩:∃q,qs[i]?=U q:=⟨_,bb ()⟩;have rl:=yV B k t;have l:kv.1=zC q:=by
   have l:(A.map (·.1))[i]?=U kv.1:=by rw[bA,k];rfl
   have w:(qs.map zC)[i]?=U (zC q):=by rw[bA,y];rfl
   rw[hk,w] at l;exact(bI l).symm
  refine⟨q,y,by rw[<-rl.1,l],?_⟩;have:=rl.2.1;rw[l] at this;exact this
 have nq:qs.Nodup:=by
  refine xZ (f:=zC) ?_;have e:d.map (·.1)=qs.map zC:=by
   rw[<-hk];apply eX;intro i;rw[bA,bA];cases t:d[i]? with
   |none =>
    have:d.length<=i:=by simpa using t
    rw[cG (by lia:A.length<=i)];rfl
   |some x =>
    have b:=(bn.mp t).1;have k:A[i]?=U A[i]:=bb ();rw[k];have:=(yV B k t).1;simp[this]
  rw[<-e];exact hn
 have vv:∀(i:Nat) (v:ae) (q:Str×Int),(d.map λx=>bJ x.2.1)[i]?=U v->qs[i]?=U q->ug s.heap v q:=λi v q hv y=>by
  rw[bA] at hv;obtain⟨x,t,rfl⟩:=b7.mp hv;obtain⟨q',T,_,hH⟩:=O i x t;rw[y] at T;cases T;exact zaV I hH
 have N:(d.map λx=>bJ x.2.1).length=qs.length:=by rw[bg];lia
 have M:∀i,i<qs.length->ug s.heap ((d.map λx=>bJ x.2.1).getD i cC) (qs.getD i ("",0)):=λi b=>by
  refine vv i _ _ ?_ ?_
  .rw[bD,bb (by rw[N];exact b)];rfl
  .rw[bD,bb b];rfl
 have S:=VH nq;rw[<-N] at S;refine Wr (vs:=d.map λx=>bJ x.2.1) (κ:=tuples' ah) (by rw[bg];lia) S (λR hR=>?_) (λh2 h m Q' J q'=>?_) (λh m i j C J b E G q'=>?_) λh m h' p c k1 k2 hD hp hr=>?_
 .refine Ws (QK (ep:=ep) (es:=es) lo) hh ⟨o,ho,t,hd⟩ (by rw[aj];lia) λh' m vs J hl hG=>?_;have ev:vs=d.map λx=>bJ x.2.1:=by
   apply eX;intro i;by_cases b:i<vs.length
   .obtain⟨e,an,ek⟩:=hG i vs[i] (bb b);have w:es.toList[i]?=U e:=by rw[du];exact an
    rw[he,bA] at w;obtain⟨x,al,ex⟩:=b7.mp w;rw[bb b,ek,bA,al,<-ex];rfl
   .rw[cG (),cG (by rw[bg];lia)]
  rw[ev];exact hR h' m J
 .exact zcf (s:={ s with heap:=h,toks:=m }) N (λi v q hv y=>(vv i v q hv y).keep J) () q'
 .rw[N] at b E;refine zdY (s:={ s with heap:=h,toks:=m }) ((M i b).keep J) ((M j E).keep J) q' λz=>G ?_;rw[bD,bD,bb b,bb E] at z;exact(gS nq).mp z
 .have I1:aO X aa σ H { s with heap:=h,toks:=m }:=I.kept k1;have g:∃g:List (D×(Str×Int)),g.map (λn=>bJ n.1)=vE (d.map λx=>bJ x.2.1) p/\g.map (·.2)=p.toList.map (λi=>qs.getD i ("",0))/\∀n∈g,H n.1=U (.tup [.str n.2.1,.int n.2.2]):=by
   have pl:∀i∈p.toList,i<d.length:=λi b=>by
    have:i∈p:=by simpa using b
    have:=(pS hp).mp this;rw[bg] at this;simpa using this
   refine⟨p.toList.map λi=>((d.getD i ([],0,.none)).2.1,qs.getD i ("",0)),?_,by rw[dA];rfl,λn hn=>?_⟩
   .unfold vE;rw[dA];refine dy λi b=>?_;have:=pl i b;simp[bD,bA,bb this]
   .obtain⟨i,b,rfl⟩:=bB.mp hn;have hl:=pl i b;obtain⟨q,y,_,hH⟩:=O i d[i] (bb hl);have l:d.getD i ([],0,.none)=d[i]:=by rw[bD,bb hl];rfl
    have w:qs.getD i ("",0)=q:=by rw[bD,y];rfl
    show H (d.getD i ([],0,.none)).2.1=U (.tup [.str (qs.getD i ("",0)).1,.int (qs.getD i ("",0)).2]);rw[l,w];exact hH
  obtain⟨g,l,w,ag⟩:=g;have vr:aR (g.map λn=>V.ref n.1) (g.map λn=>bJ n.1):=by
   clear l w ag;induction g with
   |nil=>exact .nil
   |cons n r ih=>exact .cons Y ih
  have ai:p.size=d.length:=by have:=hp.size;rw[bg] at this;exact this
  have ar:g.length=d.length:=by have:=congrArg fT l;unfold vE at this;simpa[ai] using this
  have I2:aO X aa σ (upd H h.objs.size (.lst (g.map λn=>V.ref n.1))) { s with heap:=h',toks:=m }:=I1.laid (s:={ s with heap:=h,toks:=m }) (a:=h.objs.size) (o:=.lst (g.map λn=>V.ref n.1)) (t':=m) k2 (bp _)
   ⟨by rw[bg];lia,g.map λn=>bJ n.1,c,vr,by rw[l];exact hD⟩
  refine⟨.ref h.objs.size,_,I2,Y,q _ g (I1.hok.fresh (bp _)) ?_ ?_ ag⟩
  .rw[w];have pr:p.toList.Perm (eB qs.length):=by
    have:=gJ.mp hp;rw[N] at this;simpa using this
   refine(pr.map _).trans ?_;have:(eB qs.length).map (λi=>qs.getD i ("",0))=qs:=by
    apply eX;intro i;rw[bA];by_cases b:i<qs.length
    .rw[lM b,bb b];simp[bD,bb b]
    .rw[cG (by simpa using b),cG ()];rfl
   rw[this]
  .rw[w,gH,eG];intro i j b E G;rw[cg] at b E;have g1:=ku b;have g2:=ku E;have r:=hr i j G (by rw[bg];lia);have x1:p.toList[i]=gt p i:=by
    rw[cq b] at g1;simpa using g1
   have x2:p.toList[j]=gt p j:=by
    rw[cq E] at g2;simpa using g2
   rw[x1,x2];exact r
end
def Itd(a:D)(o:Obj)(b:List (List aU×V)):It :=
 ⟨λi H=>H a=U (.frz o (.dT b))/\i<b.length,λi H x c=>c=H/\∃k v p,b[i]?=U (k,v)/\x=.ref p/\H p=U (.tup (k.map kV)),λi H=>H a=U (.frz o (.dT b))/\b.length<=i⟩
section
variable {X:Cx}
theorem QM{t:St}{H:Hp}{s:af}{a:D}{o:Obj}{b:List (List aU×V)}(I:aO X aa t H s)(B:H a=U (.frz o (.dT b))) :
  (a==sysModules)=ao/\∃(c:Array DictEntry) (g:Nat),o.data=.dict c g/\tN s.heap a c g/\c.size=b.length/\∀(i:Nat) (e:DictEntry),c[i]?=U e->∃(k:List aU) (v:V) (p:D),b[i]?=U (k,v)/\e.key=bJ p/\H p=U (.tup (k.map kV)):=by
 obtain⟨m,G,w,h,d,E,c,g,j,z,q,n,J⟩:=(show aW X.prog X.w H s.heap a (.frz o (.dT b)) from I.hok a _ B);rw[m] at j;cases j;have lx:b.length=h.length:=bL d;have y:c.size=h.length:=by rw[<-cg,n,bg]
 refine⟨w,c,g,q,⟨o,m,z,q⟩,(),λi e A=>?_⟩;have r:c.toList[i]?=U e:=by rw[du];exact A
 rw[n,bA] at r;obtain⟨x,f,C⟩:=b7.mp r;have M:=(bn.mp f).1;have l:b[i]?=U b[i]:=bb ();have u:=yV d l f;refine⟨b[i].1,b[i].2,x.2.1,l,by rw[<-C];rfl,u.2.1⟩
theorem zcg{P:aq}{w:au}{K:bw}{tg:ay}{a it:D}{o:Obj}{aI:List (List aU×V)}{t:Array DictEntry}{ep:Nat}(hd:o.data=.dict t ep) :
  zdC P w K tg (Itd a o aI) [it] it (λi h=>h.IsKeyIter it a i t.size ep) where
 mem:=by simp
 obj:=λi h g b l=>by
  have e:b=it:=by simpa using l
  subst e;obtain⟨o,e,c,d⟩:=g;exact⟨o,e,λv z=>by rw[d] at z;cases z⟩
 keep:=λi h r g k=>g.at λo e=>k it (by simp) o e
 item:=by
  intro X A u B hc i aa s T H E I q g x;subst A u B;obtain⟨y,hi⟩:=x;obtain⟨lo,O,Q,f,j,hs,n⟩:=QM I y;rw[hd] at f;cases f;obtain⟨N,M,f2,J,G,C⟩:=q it (by simp);have hx:t[i]?=U t[i]:=cq ();obtain⟨k,v,p,hk,ek,hp⟩:=n i _ hx;refine zaU g j hx λr m sb=>?_;have I1:aO X aa T H { s with heap:=r }:=I.turned (t':=s.toks) (λb o l e=>(sb.2 b l).trans e) N M J G C;obtain⟨o',e,c,d⟩:=id m;exact⟨_,Y,zcM (s:={ s with heap:=r }) e c d () ⟨.ref p,H,I1,by rw[ek];rfl,⟨Y,k,v,p,hk,Y,hp⟩,m,λb l=>(q b l).1⟩⟩
 done:=by
  intro X A u B hc i aa s T H E I q g x;subst A u B;obtain⟨y,hi⟩:=x;obtain⟨lo,O,Q,f,j,hs,n⟩:=QM I y;rw[hd] at f;cases f;obtain⟨N,M,f2,J,G,C⟩:=q it (by simp);exact zc9 (I.ok.hd hc) g j () λr eb=>⟨Y,I.turned (t':=s.toks) (λb o l e=>eb b o l e) N M J G C⟩
 self:=λ_ _ _ _ _ g h=>oP g h
def iDT(e:TE):TI:=λd H R=>e d H λx c=>∃a o b,x=.ref a/\c a=U (.frz o (.dT b))/\R (Itd a o b) c
theorem ze8{g:TE}(p:PE X l g):PI X tg l (iDT g):=by
 intro w s i H R I h;refine dl (p w s i H _ I h) ?_;rintro v c ⟨x,y,d,j,k⟩;obtain⟨a,o,C,e,u,q⟩:=k;subst e;cases j;obtain⟨m,A,B,r,f,z,n⟩:=QM d u;refine zaT m f ?_;refine⟨c.heap.objs.size,[c.heap.objs.size],_,_,y,Y,d.kept (t':=c.toks) λb o e=>bc _ e,zcg r,⟨_,bF _ Y,Y,Y⟩,λb t=>?_,q⟩;have e:b=c.heap.objs.size:=by simpa using t
 subst e;exact d.fpOk (bp _) (d.hok.fresh (bp _))
def ze9:HO->Prop
 |.tup _=>False
 |.own _=>False
 |.tbl _=>False
 |_=>True
theorem aO.relab{σ:St}{H:Hp}{s:af}{a:D}{u A:HO}(I:aO X aa σ H s)(k:H a=U u)(j:ze9 u)(G:∀o z,X.H₀ a≠U (.frz o z))(E:aW X.prog X.w (upd H a A) s.heap a A):aO X aa σ (upd H a A) s:=by
 have l:∀b,H b=ak->b≠a:=λb n z=>by subst z;rw[n] at k;cases k
 have d:∀b f,H b=U (.tup f)->b≠a:=λb f q z=>by subst z;rw[k] at q;cases q;exact j
 have h:∀b y,H b=U (.own y)->b≠a:=λb y q z=>by subst z;rw[k] at q;cases q;exact j
 have g:∀b y,H b=U (.tbl y)->b≠a:=λb y q z=>by subst z;rw[k] at q;cases q;exact j
 refine⟨I.ok,I.os,I.bare,⟨I.base.keep,I.base.slot,λb o q n t=>?_,I.base.there,λb f q=>?_,λb o z q=>?_,λb C q=>?_⟩,I.loc,I.cell,?_,λx c e=>?_,λp j=>?_,λb v q=>?_,I.len⟩
 .have:=I.base.free b o q n t;rw[zi (l b this)];exact this
 .have:=I.base.tups b f q;rw[zi (d b f this)];exact this
 .have:=I.base.frzs b o z q;rw[zi (λe=>G o z (by rw[<-e];exact q))];exact this
 .obtain⟨m,e⟩:=I.base.tbls b C q;exact⟨m,by rw[zi (g b _ e)];exact e⟩
 .rw[zi (l _ I.free)];exact I.free
 .have:=I.freeC x c e;rw[zi (l _ this)];exact this
 .obtain⟨M,B,J⟩:=I.pin p j;exact⟨M,by rw[zi (l _ B)];exact B,J⟩
 .by_cases t:b=a
  .subst t;rw[zh] at q;cases q;exact E
  .rw[zi t] at q;exact(I.hok b v q).stay (λ_ _ _ r=>r) (λc r=>by rw[zi (h c b r)];exact r) λc f r=>by rw[zi (d c f r)];exact r
def zjb(t:TS):TS:=λf g H=>∃a d e,H a=U d/\(d=.dT e\/∃o,d=.frz o (.dT e))/\∀o,t
 ⟨λb c=>c a=U (.frz o (.dT e))/\f.nx b (upd c a d),λv c=>c a=U (.frz o (.dT e))/\f.rt v (upd c a d),λb c=>c a=U (.frz o (.dT e))/\f.bk b (upd c a d),λb c=>c a=U (.frz o (.dT e))/\f.ct b (upd c a d)⟩ g (upd H a (.frz o (.dT e)))
theorem aW.upd_dT{H:Hp}(d:H a=U u)(b:ze9 u)(x:aW P w H h a (.dT aI)):aW P w (upd H a u') h a (.dT aI):=by
 refine x.stay (λ_ _ _ r=>r) (λc r=>?_) λc e r=>?_
 .rw[zi λz=>by subst z;rw[d] at r;cases r;exact b];exact r
 .rw[zi λz=>by subst z;rw[d] at r;cases r;exact b];exact r
theorem zim{y:ax}{t:TS}(p:PS X y t):PS X y (zjb t):=by
 rintro m s w H Q I ⟨a,u0,j,k,l,h⟩;have G:ze9 u0:=by rcases l with rfl|⟨o,rfl⟩ <;> trivial
 -- the object as it stands
 have B:∃o,s.heap.get? a=U o/\(u0=.dT j\/u0=.frz o (.dT j)):=by
  rcases l with rfl|⟨o,rfl⟩
  .obtain⟨M,J,E,A,o,N,O,u,_⟩:=(show aW X.prog X.w H s.heap a (.dT j) from I.hok a _ k);exact⟨o,u,.inl Y⟩
  .exact⟨o,(show aW X.prog X.w H s.heap a (.frz o (.dT j)) from I.hok a _ k).1,.inr Y⟩
 obtain⟨o,u,l⟩:=B;have C:aO X m w (upd H a (.frz o (.dT j))) s:=by
  rcases l with rfl|rfl
  .refine I.relab k trivial (λn z q=>?_) ⟨u,aW.upd_dT k trivial (I.hok a _ k)⟩;have:=I.base.frzs a n z q;rw[k] at this;cases this
  .have e:upd H a (.frz o (.dT j))=H:=by
    funext b;unfold upd;split
    .next z=>rw[z];exact k.symm
    .rfl
   rw[e];exact I
 have g:∀ {d:St} {H':Hp} {s':af},aO X m d H' s'->H' a=U (.frz o (.dT j))->aO X m d (upd H' a u0) s':=λ{d H' s'} i c=>by
  rcases l with rfl|rfl
  .refine i.relab c trivial (λn z q=>?_) (aW.upd_dT c trivial (show aW X.prog X.w H' s'.heap a (.frz o (.dT j)) from i.hok a _ c).2);have:=I.base.frzs a n z q;rw[k] at this;cases this
  .have e:upd H' a (.frz o (.dT j))=H':=by
    funext b;unfold upd;split
    .next z=>rw[z];exact c.symm
    .rfl
   rw[e];exact i
 refine dl (p m s w _ _ C (h o)) λf s' q=>?_;cases f with
 |next=>obtain⟨d,H',i,c,q⟩:=q;exact⟨d,_,g i c,q⟩
 |brk=>obtain⟨d,H',i,c,q⟩:=q;exact⟨d,_,g i c,q⟩
 |cont=>obtain⟨d,H',i,c,q⟩:=q;exact⟨d,_,g i c,q⟩
 |ret v=>obtain⟨x,d,H',i,r,c,q⟩:=q;exact⟨x,d,_,g i c,r,q⟩
end
section
variable {σ:St}{H:Hp}{nx:St->Hp->Prop}{B:V->St->Hp->(St->Hp->Prop)->Prop}
theorem zch(Pv:Nat->St->Hp->Prop)(n:Pv 0 σ H)(e:∀i σ H,Pv i σ H->H a=U (.frz o (.dT aI))) (g:∀i k v p σ H,aI[i]?=U (k,v)->H p=U (.tup (k.map kV))->Pv i σ H->B (.ref p) σ H (Pv (i+1))) (l:∀σ H,Pv aI.length σ H->nx σ H) :
  ∃W:Nat->Nat->St->Hp->Prop,(∃m,W 0 m σ H)/\∀i m σ H,W i m σ H->((Itd a o aI).stop i H/\nx σ H)\/((Itd a o aI).go i H/\∃N:St->Hp->Prop,(∀b c,N b c->∃d,d<m/\W (i+1) d b c)/\∀x c,(Itd a o aI).yld i H x c->B x σ c N):=by
 refine⟨λi m σ H=>m=aI.length-i/\i<=aI.length/\Pv i σ H,⟨aI.length,by simp,bS _,n⟩,?_⟩;rintro i m σ H ⟨rfl,q,L⟩;by_cases hlt:i<aI.length
 .refine .inr ⟨⟨e i σ H L,hlt⟩,Pv (i+1),λb c f=>⟨aI.length-(i+1),(),Y,hlt,f⟩,?_⟩;rintro x c ⟨rfl,k,v,p,j,rfl,h⟩;exact g i k v p σ _ j h L
 .obtain rfl:i=aI.length:=by lia
  exact .inl ⟨⟨e _ σ H L,bp _⟩,l σ H L⟩
end
mutual
inductive Dat (K:bw) (H:Hp):V->PyData->Prop
 |non:Dat K H .non .none
 |bl (b:Bool):Dat K H (.bl b) (.bool b)
 |int (i:Int):Dat K H (.int i) (.int i)
 |str (x:Str):Dat K H (.str x) (.str x)
 |lst {a:D} {xs:List V} {ds:List PyData}:aQ K H a xs->tH K H xs ds->Dat K H (.ref a) (.list ds)
 |tup {a:D} {xs:List V} {ds:List PyData}:sW K H a xs->tH K H xs ds->Dat K H (.ref a) (.tuple ds)
inductive tH (K:bw) (H:Hp):List V->List PyData->Prop
 |nil:tH K H [] []
 |cons {x:V} {d:PyData} {xs:List V} {ds:List PyData}:Dat K H x d->tH K H xs ds->tH K H (x::xs) (d::ds)
end
section
variable {X:Cx}{aa:List (D×Obj)}{σ:St}{H:Hp}{s:af}
mutual
theorem Dat.reads(I:aO X aa σ H s):∀ {x:V} {d:PyData} {u:ae},Dat X.K H x d->aT x u->∃j,Reads s.heap u d j
 |_,_,_,.non,r=>by cases r;exact⟨_,.none⟩
 |_,_,_,.bl b,r=>by cases r;exact⟨_,.bool b⟩
 |_,_,_,.int i,r=>by obtain⟨t,rfl⟩:=r;exact⟨_,.int i t⟩
 |_,_,_,.str x,r=>by obtain⟨t,rfl⟩:=r;exact⟨_,.str x t⟩
 |_,_,_,.lst hq ha,r=>by
  cases r;obtain⟨h,f,⟨o,n,e,c,_,d⟩,_⟩:=I.list hq;obtain⟨j,g⟩:=tH.reads I ha f;exact⟨_,.list e c d (by simpa using g)⟩
 |_,_,_,.tup hq ha,r=>by
  cases r;obtain⟨h,f,⟨o,e,c,n,d⟩,_⟩:=I.tuple hq;obtain⟨j,g⟩:=tH.reads I ha f;exact⟨_,.tuple e c d (by simpa using g)⟩
theorem tH.reads(I:aO X aa σ H s):∀ {xs:List V} {ds:List PyData} {a:List ae},tH X.K H xs ds->aR xs a->∃b,ReadsAll s.heap a ds b
 |_,_,_,.nil,r=>by cases r;exact⟨_,.nil⟩
 |_,_,_,.cons hx ht,r=>by
  cases r with
  |cons r1 rr =>
   obtain⟨b,e⟩:=Dat.reads I hx r1;obtain⟨f,c⟩:=tH.reads I ht rr;exact⟨_,.cons e c⟩
end
end
section
variable {K:bw}{H H':Hp}
theorem aQ.mono(k:aJ H H')(h:aQ K H a xs):aQ K H' a xs:=by
 rcases h with (h|⟨o,h⟩)|h
 .exact .inl (.inl (k _ _ h))
 .exact .inl (.inr ⟨o,k _ _ h⟩)
 .exact .inr h
end
mutual
def yq:PyData->Bool
 |.none=>ah
 |.int _=>ah
 |.str x=>ca x
 |.list xs=>x9 xs
 |.tuple xs=>x9 xs
 |.bool _=>ao
 |.dict _=>ao
def x9:List PyData->Bool
 |[]=>ah
 |x::xs=>yq x&&x9 xs
end
mutual
theorem KP:∀ {d:PyData},yq d=ah->d.canLay0=ah
 |.none,_=>by simp[fG]
 |.int _,_=>by simp[fG]
 |.str x,h=>by simpa[fG,yq] using h
 |.list xs,h=>by rw[fG];exact YE (by simpa[yq] using h)
 |.tuple xs,h=>by rw[fG];exact YE (by simpa[yq] using h)
 |.bool _,h=>by simp[yq] at h
 |.dict _,h=>by simp[yq] at h
theorem YE:∀ {a:List PyData},x9 a=ah->gF a=ah
 |[],_=>by simp[gF]
 |x::xs,h=>by
  rw[x9,bV] at h;rw[gF,KP h.1,YE h.2];rfl
end
mutual
theorem X2:∀ {d e:PyData},yq d=ah->yq e=ah->(iK d e=ah↔d=e)
 |.list xs,.list ys,h,h'=>by
  rw[iK,YF (by simpa[yq] using h) (by simpa[yq] using h'),PyData.list.injEq]
 |.tuple xs,.tuple ys,h,h'=>by
  rw[iK,YF (by simpa[yq] using h) (by simpa[yq] using h'),pU]
 |.bool _,_,h,_=>by simp[yq] at h
 |.dict _,_,h,_=>by simp[yq] at h
 |.none,.bool _,_,h=>by simp[yq] at h
 |.int _,.bool _,_,h=>by simp[yq] at h
 |.str _,.bool _,_,h=>by simp[yq] at h
 |.list _,.bool _,_,h=>by simp[yq] at h
 |.tuple _,.bool _,_,h=>by simp[yq] at h
 |.none,.dict _,_,h=>by simp[yq] at h
 |.int _,.dict _,_,h=>by simp[yq] at h
 |.str _,.dict _,_,h=>by simp[yq] at h
 |.list _,.dict _,_,h=>by simp[yq] at h
 |.tuple _,.dict _,_,h=>by simp[yq] at h
 |.none,.none,_,_|.none,.int _,_,_|.none,.str _,_,_|.none,.list _,_,_|.none,.tuple _,_,_=>by simp[iK]
 |.int _,.none,_,_|.int _,.int _,_,_|.int _,.str _,_,_|.int _,.list _,_,_|.int _,.tuple _,_,_=>by simp[iK]
 |.str _,.none,_,_|.str _,.int _,_,_|.str _,.str _,_,_|.str _,.list _,_,_|.str _,.tuple _,_,_=>by simp[iK]
 |.list _,.none,_,_|.list _,.int _,_,_|.list _,.str _,_,_|.list _,.tuple _,_,_=>by simp[iK]
 |.tuple _,.none,_,_|.tuple _,.int _,_,_|.tuple _,.str _,_,_|.tuple _,.list _,_,_=>by simp[iK]
theorem YF:∀ {b a:List PyData},x9 b=ah->x9 a=ah->(lq b a=ah↔b=a)
 |[],[],_,_=>by simp[lq]
 |[],_::_,_,_=>by simp[lq]
 |_::_,[],_,_=>by simp[lq]
 |x::b,y::a,h,h'=>by
  rw[x9,bV] at h h';rw[lq,bV,X2 h.1 h'.1,YF h.2 h'.2,fj]
end
abbrev zd0(K:bw)(a:Bool):R2:=λx y H Q=>∃d e,Dat K H x d/\Dat K H y e/\(yq d=ah/\yq e=ah/\d.depth<=64/\e.depth<=64)/\∀b:Bool,(b=ah↔d=e)->Q (.bl (if a then !b else b)) H
section
variable {X:Cx}
theorem vM(h:yq d=ah)(a:d.depth<=64):iU d=ah:=by
 unfold iU;rw[KP h,Bj a];rfl
theorem zaW(l:X.A.units+64<cLine):tV X (Bi .Eq) (zd0 X.K ao):=by
 intro t s o H x y v u Q I f c h;obtain⟨d,e,n,m,⟨b,a,k,j⟩,q⟩:=h;obtain⟨r,i⟩:=n.reads I f;obtain⟨p,g⟩:=m.reads I c;exact eq_dataH i g (vM b k) (vM a j) l ⟨.bl _,H,I,Y,q _ (X2 b a)⟩
theorem zfa(l:X.A.units+64<cLine):tV X (Bi .NotEq) (zd0 X.K ah):=by
 intro t s o H x y v u Q I f c h;obtain⟨d,e,n,m,⟨b,a,k,j⟩,q⟩:=h;obtain⟨r,i⟩:=n.reads I f;obtain⟨p,g⟩:=m.reads I c;exact ne_dataH i g (vM b k) (vM a j) l ⟨.bl _,H,I,Y,q _ (X2 b a)⟩
end
abbrev zaX(b:Bool):R2:=λx y H Q=>∃a o,y=.ref a/\tz H a x o/\Q (.bl (if b then !o.isSome else o.isSome)) H
section
variable {X:Cx}
theorem Vl(d:X.A.units+1<cLine):tV X (Bi .In) (zaX ao):=by
 intro j s f H x y v u Q I c b h;obtain⟨a,o,rfl,g,q⟩:=h;cases b;exact zju d I g c λi e=>⟨.bl _,H,e,Y,q⟩
theorem VJ(d:X.A.units+1<cLine):tV X (Bi .NotIn) (zaX ah):=by
 intro j s f H x y v u Q I c b h;obtain⟨a,o,rfl,g,q⟩:=h;cases b;exact zgy d I g c λi e=>⟨.bl _,H,e,Y,q⟩
end
end L2
namespace L2
open PySem
abbrev Pl:=Str×Int
abbrev aN:=Pl×Int
def zE:List aN->Pl->Option Int
 |[],_=>ak
 |r::t,p=>(zE t p).or (if r.1=p then U r.2 else ak)
def Y6(a:List (List aU×V))(q:aN):List (List aU×V):=yJ a (zC q.1) (.int q.2)
def sY(a:List aN):List (List aU×V):=a.foldl Y6 []
theorem xi{p q:Pl}(h:zC p=zC q):p=q:=by
 unfold zC at h;simp only[fj,Sum.inr.injEq,Sum.inl.injEq,and_true] at h;exact oK h.1 h.2
theorem zaY:∀(b:List aN) (a:List (List aU×V)) (p:Pl),yf (b.foldl Y6 a) (zC p)=((zE b p).map V.int).or (yf a (zC p))
 |[],_,_=>rfl
 |r::t,a,p=>by
  rw[fc,zaY t,zE];show _=_;rw[Y6,YZ];cases zE t p with
  |some w=>rfl
  |none =>
   by_cases e:r.1=p
   .subst e;simp
   .rw[am (λz=>e (xi z).symm)];simp[e]
theorem wA(a:List aN)(p:Pl):yf (sY a) (zC p)=(zE a p).map V.int:=by
 unfold sY;rw[zaY,zaE];cases zE a p <;> rfl
theorem Zc(a:List aN)(q:aN):sY (a++[q])=yJ (sY a) (zC q.1) (.int q.2):=by
 unfold sY;rw[List.foldl_append];rfl
def OkKv(a:List (List aU×V)):Prop:=(a.map (·.1)).Nodup/\∀b∈a,∃(p:Pl) (w:Int),b=(zC p,.int w)
theorem OkKv.put(h:OkKv aI)(p:Pl)(w:Int):OkKv (yJ aI (zC p) (.int w)):=by
 cases e:yf aI (zC p) with
 |none =>
  refine⟨zgA _ h.1 e,λa hk=>?_⟩;rw[ve _ e] at hk;rcases bu.mp hk with hk|hk
  .exact h.2 a hk
  .exact⟨p,w,bo.mp hk⟩
 |some v =>
  have q:(aI.any λa=>decide (a.1=zC p))=ah:=by rw[vc,e];rfl
  unfold yJ;rw[ap q];constructor
  .rw[dA];have:((λx:List aU×V=>x.1) ∘ λa:List aU×V=>if a.1=zC p then (a.1,V.int w) else a)=λx=>x.1:=by
    funext a
    show (if a.1=zC p then (a.1,V.int w) else a).1=a.1;split <;> rfl
   rw[this];exact h.1
  .intro a hk;obtain⟨z,b,rfl⟩:=bB.mp hk;by_cases e:z.1=zC p
   .exact⟨p,w,by rw[ap e,e]⟩
   .rw[am e];exact h.2 z b
theorem KQ:∀(b:List aN) (a:List (List aU×V)),OkKv a->OkKv (b.foldl Y6 a)
 |[],_,h=>h
 |r::t,a,h=>KQ t _ (h.put r.1 r.2)
theorem kA(a:List aN):OkKv (sY a):=KQ a [] ⟨cz,λ_ h=>nomatch h⟩
theorem zgQ(a:List (List aU×V))(k:List aU)(v:V):(yJ a k v).length<=a.length+1:=by
 unfold yJ;split
 .rw[bg];lia
 .rw[bC];simp
theorem zaZ:∀(b:List aN) (a:List (List aU×V)),(b.foldl Y6 a).length<=a.length+b.length
 |[],_=>by simp
 |r::t,a=>by
  have:=zaZ t (Y6 a r);have:=zgQ a (zC r.1) (.int r.2);rw[fc,bU];unfold Y6 at *
  lia
theorem jp(a:List aN):(sY a).length<=a.length:=by have:=zaZ a [];simpa[sY] using this
theorem QN{c:List (List aU×V)}:(c.map (·.1)).Nodup->∀b∈c,yf c b.1=U b.2:=by
 induction c with
 |nil=>exact λ_ b h=>nomatch h
 |cons a r ih =>
  intro d b hk;rw[bx,bX] at d;rcases bE.mp hk with rfl|hk
  .exact yR rfl
  .rw[yS λz=>d.1 (by rw[z];exact bq hk)];exact ih d.2 b hk
theorem ue :kv∈sY aM↔∃p w,kv=(zC p,.int w)/\zE aM p=U w:=by
 constructor
 .intro h;obtain⟨p,w,rfl⟩:=(kA aM).2 kv h;have:=QN (kA aM).1 _ h;rw[wA] at this;obtain⟨d,a,b⟩:=b7.mp this;cases b;exact⟨p,w,Y,a⟩
 .rintro⟨p,w,rfl,h⟩;have e:yf (sY aM) (zC p)=U (.int w):=by rw[wA,h];rfl
  obtain⟨kv,c,a⟩:=bB.mp (zcX e);have:=QN (kA aM).1 _ c;rw[a,e] at this;have b:kv=(zC p,V.int w):=oK a (bI this).symm;rw[<-b];exact c
theorem jq(a:Pl):yy a a=ao:=by
 unfold yy;rw[ap rfl];exact Bk ()
theorem JQ{a b c:Pl}(e:yy a b=ah)(d:yy b c=ah):yy a c=ah:=by
 unfold yy at *
 by_cases e1:a.1=b.1
 .rw[ap e1] at e;by_cases e2:b.1=c.1
  .rw[ap e2] at d;rw[ap (e1.trans e2)];have e:=of_decide_eq_true e;have d:=of_decide_eq_true d;exact Bj ()
  .rw[am e2] at d;rw[am (by rw[e1];exact e2),e1];exact d
 .rw[am e1] at e;have e:=of_decide_eq_true e;by_cases e2:b.1=c.1
  .rw[am (by rw[<-e2];exact e1),<-e2];exact Bj e
  .rw[am e2] at d;have d:=of_decide_eq_true d;have f:=List.lt_trans e d;rw[am (λz=>by rw[z] at f;exact List.lt_irrefl _ f)];exact Bj f
def tJ(l:List aN):Prop:=l.Pairwise λa b=>yy a.1 b.1=ah
def zfb(b a:List aN):Prop:=tJ a/\∀p w,(p,w)∈a↔zE b p=U w/\w≠0
theorem tJ.nd(h:tJ l):(l.map (·.1)).Nodup:=by
 unfold iL;rw[gH];exact mR (λ{a b} h z=>by rw[z,jq] at h;cases h) h
theorem X3{p:Pl}:∀ {l:List aN},(∀r∈l,r.1≠p)->zE l p=ak
 |[],_=>rfl
 |r::t,h=>by
  rw[zE,X3 λr a=>h r (br _ a),am (h r bt)];rfl
theorem Y7{p:Pl}{w:Int}:∀ {l:List aN},(l.map (·.1)).Nodup->(zE l p=U w↔(p,w)∈l)
 |[],_=>by simp[zE]
 |r::t,hn=>by
  rw[bx,bX] at hn;have b:=Y7 (p:=p) (w:=w) hn.2;by_cases e:r.1=p
  .have z:zE t p=ak:=X3 λq c a=>hn.1 (by rw[e,<-a];exact bq c);rw[zE,z,ap e];constructor
   .intro h;have:r.2=w:=by simpa using h
    rw[<-e,<-this];exact bt
   .intro h;rcases bE.mp h with h|h
    .rw[<-h];rfl
    .exact absurd (bq (f:=(·.1)) h) (by rw[<-e];exact hn.1)
  .rw[zE,am e,Option.or_none,b,bE];constructor
   .exact .inr
   .rintro(h|h)
    .exact absurd (by rw[<-h]) e
    .exact h
theorem VL:∀ {a b:List aN},tJ a->tJ b->(∀x,x∈a↔x∈b)->a=b
 |[],[],_,_,_=>rfl
 |[],y::_,_,_,h=>absurd ((h y).mpr bt) (by simp)
 |x::_,[],_,_,h=>absurd ((h x).mp bt) (by simp)
 |x::a,y::b,ha,hb,h=>by
  unfold tJ at ha hb;rw[pV] at ha hb;have e:x=y:=by
   rcases bE.mp ((h x).mp bt) with e|e
   .exact e
   .rcases bE.mp ((h y).mpr bt) with e'|e'
    .exact e'.symm
    .have:=JQ (ha.1 y e') (hb.1 x e);rw[jq] at this;cases this
  subst e;have f:x ∉ a:=λz=>by have:=ha.1 x z;rw[jq] at this;cases this
  have d:x ∉ b:=λz=>by have:=hb.1 x z;rw[jq] at this;cases this
  rw[VL ha.2 hb.2 λz=>?_];constructor
  .intro c;rcases bE.mp ((h z).mp (br _ c)) with e|e
   .subst e;exact absurd c f
   .exact e
  .intro c;rcases bE.mp ((h z).mpr (br _ c)) with e|e
   .subst e;exact absurd c d
   .exact e
theorem wj{c:Type} [DecidableEq c]:∀ {a b:List c},a.Nodup->(∀x∈a,x∈b)->a.length<=b.length
 |[],_,_,_=>bS _
 |x::a,b,hn,h=>by
  rw[bX] at hn;have e:=h x bt;have:=wj (a:=a) (b:=b.erase x) hn.2 λy d=>(oR λz=>hn.1 (by rw[<-z];exact d)).mpr (h y (br _ d));rw[List.length_erase_of_mem e] at this;have:0<b.length:=List.length_pos_of_mem e;rw[bU];lia
end L2
namespace L2
open PySem PySem.Spec PyProof.Rows
theorem ZV:plainId "dict.update.loop"=ah:=by lia
theorem KR:entryFor table "dict.update.loop"=U Builtin.«dict.update.loop»:=entryFor_of_fast (by kernel_rfl)
section
variable {X:Cx}{A:aw}{R:aB->af->Prop}
def PrAt(H:Hp)(v:V)(q:aN):Prop:=∃r p,v=.ref r/\H r=U (.tup [.ref p,.int q.2])/\H p=U (.tup [.str q.1.1,.int q.1.2])
theorem zd1{j:St}{H:Hp}{s:af}{d b:D}{f:List (List aU×V)}{k:List aU}{v:V}{u:ae}{E:ae->af->Prop}{Q:Unit->af->Prop}(y:A.units+1<cLine)(I:aO X aa j H s)(e:H d=U (.dT f))(r:H b=U (.tup (k.map kV)))(l:f.length<Bb)(w:aT v u) (h:∀g m,aO X aa j (upd H d (.dT (yJ f k v))) { s with heap:=g,toks:=m }->cN d s.heap g->Q PUnit.unit { s with heap:=g,toks:=m }):Bf (Bg X.prog X.w) A.in1 (dictSet d (.ref b) u) Q E s:=by
 obtain⟨z,C,t,a,dd⟩:=zaH I.hok e;have x:t.length<=Bb:=by rw[<-bL a];exact z
 have B:(yJ f k v).length<=Bb:=by have:=wf f k v;lia
 refine wpAny_dictSet_heap (hsz:=x) (dU y) (kY I.hok r) dd λg i n=>h _ _ ?_ n;obtain⟨q,O,T,o,N,M,J,_,G⟩:=i;refine ZQ I (by rw[e];exact eN) n ⟨q,o⟩ ⟨B,C,_,(a.put k r w).keeps λc ys p=>?_,q,O,T,o,N,M,J,G⟩;rw[zi (zM p e ())];exact p
theorem zfc{O:St}{H:Hp}{d it l:D}{xs:List V}{aM:List aN}{res:ae}(hu:A.units+1<cLine)(hh:A.handled=ak)(hd:H d=ak)(hl:H l=U (.lst xs))(hr:Paired (PrAt H) xs aM)(an:aM.length<=1000)(N:it≠d)(aj:l≠it) :
  ∀(k i:Nat) (s:af),aM.length-i=k->i<=aM.length->aO X aa O (upd H d (.dT (sY (aM.take i)))) s->s.heap.IsListIter it l i->(∀u,qY X aa (upd H d u) it) ->
  (∀Q,aO X aa O (upd H d (.dT (sY aM))) Q->R (.ok (.ret res)) Q) ->
  codeAny (Bg X.prog X.w) A (.builtin "dict.update.loop" ⟨[.ref d,.ref it,rawInt i,res],[]⟩) R s:=by
 have lx:xs.length=aM.length:=bL hr;have S:∀u:HO,aJ H (upd H d u):=λu=>sX (o:=u) d hd;intro k;induction k with
 |zero =>
  intro i s hk hi I m f fin;have e:i=aM.length:=by lia
  subst e;refine fh KR ?_;rw[dG ZV _];show Bf _ A.in1 (pyNext (.ref it) >>= _) _ _ s;obtain⟨w,t,p,hz⟩:=I.list (aQ.of (S _ _ _ hl));obtain⟨M,J,f2,G,E,C⟩:=f (.dT (sY (aM.take aM.length)));have al:=t.length;refine ba (nY hh m p.isList (by simp;lia) λh' eb=>?_);have c:=I.turned (t':=s.toks) (λb o B e=>eb b o B e) M J G E C;rw[cx] at c;show Bf _ A.in1 (Builtin.Dict.addKeywords d [] >>= _) _ _ _;exact ba (bf (bf (fin _ c)))
 |succ k ih =>
  intro i s hk hi I m f fin;have a:i<aM.length:=by lia
  refine fh KR ?_;rw[dG ZV _];show Bf _ A.in1 (pyNext (.ref it) >>= _) _ _ s;obtain⟨w,t,p,hz⟩:=I.list (aQ.of (S _ _ _ hl));obtain⟨M,J,f2,G,E,C⟩:=f (.dT (sY (aM.take i)));have hx:xs[i]?=U xs[i]:=bb ();have hq:aM[i]?=U aM[i]:=bb a;obtain⟨r,pl,e1,t1,u1⟩:=yV hr hx hq;obtain⟨u,y,ru⟩:=t.get hx;rw[e1] at ru;cases ru;refine ba (nN m p.isList (x:=.ref r) (by simpa using y) λh' j sb=>?_);have c:=I.turned (t':=s.toks) (λb o B e=>(sb.2 b B).trans e) M J G E C;obtain⟨ai,tv,⟨o,ho,hc,n,z⟩,_⟩:=c.tuple (sW.of (S _ _ _ t1));cases tv with
  |cons r1 rr =>
   cases rr with
   |cons r2 rn =>
    cases rn;cases r1;obtain⟨h,rfl⟩:=r2;refine ba (dD ?_);have T:({ s with heap:=h' }:af).TypeIs (.ref r) "tuple":=⟨o,ho,hc⟩;refine ba (wpAny_tryCatch ?_);unfold Builtin.Dict.pairItems;refine ba (oh T ?_);rw[ap ()];refine ba ?_;unfold seqItems?;refine ba (oJ ho ?_);rw[z];refine bf (bf ?_);show Bf _ _ (holding [.ref pl,.int aM[i].2 h] (dictSet d (.ref pl) (.int aM[i].2 h))) _ _ _;refine dD ?_;have g:sY (aM.take (i+1))=yJ (sY (aM.take i)) (zC aM[i].1) (.int aM[i].2):=by rw[cH,hq,<-Zc];rfl
    have l2:(sY (aM.take i)).length<Bb:=by
     have h1:=jp (aM.take i);have h2:=List.length_take_le' i aM;exact bT (by lia:_<=1000) ()
    refine zd1 (k:=zC aM[i].1) (v:=.int aM[i].2) hu c zh (S _ _ _ u1) l2 ⟨h,Y⟩ λh2 ag I2 q=>?_;rw[Vj,<-g] at I2;refine bf ⟨gG ZV _,ih (i+1) _ () a I2 (j.at λo e=>(q.2 it N).trans e) f fin⟩
end
theorem QO:typeLookup (.type "list") "keys"=pure ak:=by rw[typeLookup_type,builtinLookup_eq_fast];kernel_rfl
section
variable {prog:aq}{w:au}{A:aw}{E:ae->af->Prop}{s:af}{a:D}{o:Obj}{xs:Array ae}{k:Nat}
theorem VM{Q:Option ae->af->Prop}(p:s.heap.get? a=U o)(r:o.cls=.type "list")(f:o.data=.seq xs k)(q:o.dict=ak)(z:A.handled=ak) (h:∀m n,(∀b l,s.heap.get? b=U l->m.get? b=U l)->Q ak { s with heap:=m,toks:=n }):Bf (Bg prog w) A (getAttr? (.ref a) "keys") Q E s:=by
 obtain⟨c,B,C,u⟩:=o;simp only at r f q;subst r f q;obtain⟨y,g,d,n,v⟩:=s;have t:∀i,(⟨y,g,d,i,v⟩:af).TypeIs (.ref a) "list":=λ_=>⟨_,p,Y⟩;have O:=sub_AttributeError;have N:=F.slot_list_getattribute.lookup;have M:=F.slot_list_getattribute.bind (.ref a);have J:=am_list_getattr_none;unfold getAttr? getAttrBy? getAttrBy
 repeat (any_goals (first|assumption|exact t _|((with_reducible show Bf _ _ (call (Value.builtin "list.__getattribute__") _ _) _ _ _);refine iI F.slot_list_getattribute (t _) am_entry_list_getattribute (F.args_list_getattribute_2 _ _) (meets_getattribute_miss_list a xs k u "keys" _ QO () ()) ⟨p,z,λm i e j=>?_⟩)|wp_step))
 obtain⟨H,G,I⟩:=j.there;have x:=j.keeps;show Bf _ _ (getattributeRaised _ _ _ _ _ _ _) _ _ _;unfold getattributeRaised
 repeat (any_goals (first|assumption|wp_step))
 all_goals exact h _ _ λb l e=>x b l e
end
theorem hu3(r:sV k A):A.units+3<cLine:=by have:=QG r;lia
abbrev zfd:RC:=λd H Q=>∃(a:D) (c:List V) (b:List aN),d=[.ref a]/\H a=U (.lst c)/\Paired (PrAt H) c b/\b.length<=1000/\∀p,H p=ak->Q (.ref p) (upd H p (.dT (sY b)))
section
variable {X:Cx}
theorem qF(hc:X.calm=ah)(hu:X.A.units+3<cLine):jZ X (.type "dict") zfd:=by
 intro x s p H vs us Q I r h;obtain⟨a,xs,aM,rfl,w,hr,hl,q⟩:=h;obtain⟨u,rfl,O⟩:=jm r;cases O;have G:X.A.handled=ak:=I.ok.hd hc;refine callType_codes (Q₁:=λk c=>k=.ref s.heap.objs.size/\c={ s with heap:=s.heap.push { cls:=.type "dict",data:=.dict #[] } }) F.kt_called_dict (F.kt_typeCall_dict_1 _) F.entry_dict_init (kt_code_dict_new _ ⟨rfl,rfl⟩) ?_;rintro k c ⟨rfl,rfl⟩;have J:({ s with heap:=s.heap.push { cls:=.type "dict",data:=.dict #[] } }:af).TypeIs (.ref s.heap.objs.size) "dict":=⟨_,bF _ rfl,rfl⟩;refine⟨J,F.args_dict_init_2 _ _,?_⟩;unfold Builtin.«dict.__init__»;refine ba ?_;unfold Builtin.Dict.selfAndRest;refine ba (fB J ?_);show Bf _ _ (pure (s.heap.objs.size,[bJ a])) _ _ _;refine bf ?_;show Bf _ _ (nB "dict.__init__" s.heap.objs.size (.ref a) [] .none) _ _ _;unfold nB;have v:H s.heap.objs.size=ak:=I.hok.fresh (bp _);have S:∀u:HO,aJ H (upd H s.heap.objs.size u):=λu=>sX (o:=u) _ v;have M:aO X x p (upd H s.heap.objs.size (.dT [])) { s with heap:=s.heap.push { cls:=.type "dict",data:=.dict #[] } } :=
  I.laid (a:=s.heap.objs.size) (o:=.dT []) (t':=s.toks) (λb o z=>bc _ z) (bp _) (zaJ s.heap I.big)
 obtain⟨ag,rv,T,_⟩:=M.list (aQ.of (S _ _ _ w));obtain⟨o,n,E,y,od,j⟩:=id T;have T1:({ s with heap:=s.heap.push { cls:=.type "dict",data:=.dict #[] } }:af).TypeIs (.ref a) "list":=⟨o,E,y⟩;refine ba (oh T1 ?_);rw[ap ()];refine ba (VM E y j od (by exact G) λg f B=>?_);rw[ap (show (ak:Option ae).isNone=ah from rfl)];refine ba (lE ?_);have m:aO X x p (upd H s.heap.objs.size (.dT [])) { s with heap:=g,toks:=f }:=M.kept B;obtain⟨C,N,i,_⟩:=m.list (aQ.of (S _ _ _ w));refine ba (wpAny_pyIter_list i.isList ?_);have I3:aO X x p (upd H s.heap.objs.size (.dT (sY (aM.take 0)))) { s with heap:=g.push { cls:=.type "list_iterator",data:=.fields #[.ref a,.int 0 0] },toks:=f }:=m.kept (t':=f) λb o e=>bc _ e;refine bf ⟨gG ZV _,?_⟩;have t:s.heap.objs.size<g.objs.size:=bQ (B s.heap.objs.size _ (bF _ Y));have la:a<g.objs.size:=by obtain⟨_,_,z,_⟩:=i;exact bQ z
 refine zfc (A:=X.A.in1) (H:=H) (d:=s.heap.objs.size) (it:=g.objs.size) (l:=a) (xs:=xs) (aM:=aM) (res:=.none) ?_ G v w hr hl (fu t) (bW la) aM.length 0 _ () (bS _) I3 ⟨_,bF _ Y,Y,Y⟩ (λu=>?_) λs' I'=>⟨Y,.ref s.heap.objs.size,_,I',Y,q _ v⟩
 .have e:X.A.in1.units=X.A.units+1:=rfl;lia
 .refine m.fpOk (bp _) ?_;rw[zi (fu t)];have:=m.hok.fresh (bp g.objs.size);rw[zi (fu t)] at this;exact this
end
section
variable {X:Cx}{k:Nat}{f C:D}{fd:Bc}{ps:List Str}{sp:Sp}{m:Str}{pos sR:Pos}{e o:ay}{es:List ay}{ta:TE}{t:TA}
def zci(C:D)(m:Str)(sp:Sp)(ta:TE)(t:TA)(n:EXK):TE:=λb H Q=>ta b H λx g=>∃a i d,x=.ref a/\g a=U (.ins C i d)/\d.lookup m=ak /\
 t b g λh l=>sp (x::(h++[])) l Q λc _ j=>n c b j
theorem za0{pl:Sem Bool}(he:PE X.nox o ta)(c:tR X.K C)(O:Qq X.K C m f)(F:hZ X.prog X.w X.K X.mg X.base (ud X.prog X.w) k f fd ps sp)(hr:sV k X.A)(hb:ti X.K fd ps [])(ha:PA X.nox (e::es) t) (w:Be (e::es) X.env=(ao,eval e X.env)::Be es X.env:=by rfl) (y:(backTo pos (Be es X.env)).any (·.1)=ao:=by rfl) (ht:eval (.Call (.Attribute o m sR) (e::es) [] pos) X.env=(do
   let N <-eval o X.env
   standAt sR.atName
   let (f,first) <-holding [N] (getMethod N m pl)
   callWith pos f first (backTo pos (Be (e::es) X.env)) (backToKw pos (keywordEach [] X.env))):=by rfl) :
  PEX X (.Call (.Attribute o m sR) (e::es) [] pos) (zci C m sp ta t):=by
 intro T s p H Q EX I h;refine lJ (pl:=pl) (dN (he T s p H _ (I.wish _) h) (?_) λ_ _ z=>c8 z) ht;rintro u s1 ⟨x,H1,E,rx,a,dx,fs,ex,ea,l,q⟩;subst ex;obtain rfl:u=bJ a:=rx;have I1:=E.unwish;refine kW I1 ea c O l ?_;refine lZ (first:=[.ref a]) (h₀:=X.base) I.ok.mod.kin O.kp (dN (ha pos T s1 p H1 _ (I1.wish _) q) (λd v ⟨G,H2,j,r,M⟩=>⟨j.kIn,?_⟩) λ_ _ z=>c8 z) w y;have n:=j.unwish;have J:aR (V.ref a::(G++[])) (bJ a::(d++[])):=.cons Y (r.append .nil);have hl:((bJ a::d)++[]).length=ps.length:=by
  have e:=J.length;rw[F.len _ _ _ _ M] at e;exact e.symm
 refine rf (gj (F.run X.A X.stack v H2 ⟨.ref a::d,[]⟩ ((.ref a::d)++[]) (.ref a::(G++[])) _ _ hr n.env0 (hb v (.ref a::d) n.kIn hl) J M) λr s' g=>?_);cases r with
 |error ev =>
  obtain⟨e,B,H',rfl,os,i,un,A,xf,hE⟩:=g;exact⟨e,B,p,v,H2,H',Y,n,n.call' (ch:=[]) os un A i (λb z=>nomatch z),xf,hE⟩
 |ok fl =>
  cases fl with
  |ret u=>exact n.after g
  |next=>exact c8 g
  |brk=>exact c8 g
  |cont=>exact c8 g
end
def zfe(K:bw)(i:EXK->TS)(g:D)(c:TS)(j:D)(b:TS):TS:=λe h H=>i (λd a f=>∃C,d=.ref C /\
 ((oN K (.ref C) (.ref g)=U ah/\c e a f)\/(oN K (.ref C) (.ref g)=U ao/\oN K (.ref C) (.ref j)=U ah/\b e a f))) e h H
section
variable {X:Cx}{st b₀ b₁:ax}{suite suite1:List ax}{tb:EXK->TS}{th1 th2:TS}{c1 c2:Str}{C1 C2:D}{np hpos np2 hpos2 pos:Pos}
theorem zff(w:X.stack=X.env::X.outer/\X.env.frame=U X.env.locals)(x:X.ex=[])(hb:PSX X st tb)(a2:Gl X c1)(aS:X.mg c1=U (.ref C1))(a1:Gl X c2)(az:X.mg c2=U (.ref C2)) (ar:∀e,PSs (X.sub e) (b₀::suite) th1) (an:∀e,PSs (X.sub e) (b₁::suite1) th2) (Q:(c1==("__debug__":Str))=ao:=by lia) (O:(c2==("__debug__":Str))=ao:=by lia) :
  PS X (.Try [st] [.ExceptHandler (U (.Name c1 np)) ak (b₀::suite) hpos,.ExceptHandler (U (.Name c2 np2)) ak (b₁::suite1) hpos2] [] [] pos) (zfe X.K tb C1 th1 C2 th2):=by
 intro B s σ H Bp I h;refine wpAny_Try_except (i0 (dN (hb B s σ H Bp _ I h) (λf l q=>?_) λev l q=>?_))
 .cases f with
  |next=>exact eY (eY q)
  |ret v=>exact q
  |brk=>exact q
  |cont=>exact q
 obtain⟨e,cls,j,s0,H0,E,rfl,I0,I1,xf,C,rfl,t⟩:=q;obtain⟨oe,vs,a0,T,oT,ts,h1,h2,h3,h4,h5,h6,h7,h8,h9,a5,a4,a3⟩:=xf;have fr:l.heap.FunFrames (gM l.heap (tP X.stack++[e,T])) (X.env::X.outer):=by
  have q:=i4 (as:=tP X.stack++[e,T]) I1.stack λa6 he a ha=>cr _ (gg.mpr ⟨a6,he,ha⟩);rw[w.1] at q ⊢;exact q
 have n:∀b∈[e,T],s0.heap.get? b=ak/\E b=ak:=λb z=>by
  have z':b=e\/b=T:=by simpa using z
  rcases z' with rfl|rfl
  .exact⟨h9,a4⟩
  .exact⟨a5,a3⟩
 have ag:∀b∈[e,T],E b=ak/\X.s₀.heap.get? b=ak:=λb z=>⟨(n b z).2,ki (I0.there0 x) (n b z).1⟩;have ai:∀b∈[e,T],∀p∈X.pn++B,p.1≠b:=λb z p hp q=>by
  have:=(I0.pin p hp).1;rw[q,(n b z).1] at this;cases this
 refine wpAny_looks_onW (base:=gM l.heap (tP X.stack++[e,T])) (a0:=a0) (cls:=.ref C) (by rw[I1.ok.frames,w.1]) w.2
  ⟨λb o q=>lX _ q,gc _ (bK _ (by simp)),fr,oe,vs,T,oT,ts,h1,h2,h3,h4,gc _ (bK _ (by simp)),h5,h6,h7,h8⟩ λg4 y M=>?_
 refine wpAny_landsW y λg5 d G=>?_;have hB:∀ {g:av},(gM l.heap (tP X.stack++[e,T])).StaysIn g->∀b o,l.heap.get? b=U o->b ∉ tP X.stack->b ∉ [e,T]->g.get? b=U o :=
  λ{g} k b o q n1 n2=>k b o (lh _ q λz=>(bu.mp z).elim n1 n2)
 have I5:aO X B j E { l with heap:=g5 }:=I1.land x ag ai (hB d.1) (M.trans G);have K5:=I5.kIn;have m:sI (Bg X.prog X.w) g5 (typeOf (.ref e)) (.ref C):=by
  obtain⟨o,p1,p2⟩:=d.there;exact p2 ▸ (rA p1).andThen .now
 have N:∀ {i:ax} {su:List ax} {th:TS} {hp:Pos} {R:aB->af->Prop},(∀e,PSs (X.sub e) (i::su) th)->th Bp j E->(∀f s',SP X B Bp f s'->R (.ok f) s') ->
   codeAny (Bg X.prog X.w) (X.A.mark (U (.ref e))) (.handlers (.ref e) [.ExceptHandler ak ak (i::su) hp] X.env) R { l with heap:=g5 }:=λ{i su th hp R} hs t hR=>by
  refine nT (lands_againW d λg6 aj al=>?_);have I6:aO X B j E { l with heap:=g6 }:=I1.land x ag ai (hB aj.1) ((M.trans G).trans al);refine dN (hs e B _ j E Bp I6.toSub t) (λf s9 q=>hR f s9 ?_) λ_ _ z=>c8 z;cases f with
  |next=>obtain⟨c,A,J,z⟩:=q;exact⟨c,A,aO.ofSub (J:=I) J,z⟩
  |brk=>obtain⟨c,A,J,z⟩:=q;exact⟨c,A,aO.ofSub (J:=I) J,z⟩
  |cont=>obtain⟨c,A,J,z⟩:=q;exact⟨c,A,aO.ofSub (J:=I) J,z⟩
  |ret u=>obtain⟨v,c,A,J,r,z⟩:=q;exact⟨v,c,A,aO.ofSub (J:=I) J,r,z⟩
 refine lP (iW ?_) (by intro q;cases q);refine wT (X:=X.sub e) (I5.toSub (e:=e)) a2 aS ?_ Q;rcases t with ⟨hx,ht⟩|⟨hx,hx2,ht⟩
 .refine(W.exm_one K5 m hx).here ?_;exact N ar ht λf s' q=>q
 .refine(W.exm_one K5 m hx).here ?_;show Bf _ _ (handleBy (.ref e) X.env _) _ _ _;refine lP (iW ?_) (by intro q;cases q);refine wT (X:=X.sub e) (I5.toSub (e:=e)) a1 az ?_ O;refine(W.exm_one K5 m hx2).here ?_;exact N an ht λf s' q=>q
end
end L2
namespace L2
open PySem
def rk(b:List (aU×V))(a:List V):Except Er Int:=match wQ b a [] with
 |.ok [i]=>.ok i
 |.ok _=>.error .stuck
 |.error e=>.error e
theorem Good.rk{r:Except Er Int}(h:Good aI ps r):L2.rk aI ps=r:=by
 unfold L2.rk;rw[h.1 []];cases r <;> rfl
theorem zfg(g:xg aI)(f:qe v){d c:List Int}(h:∀x∈d,tw x=ah)(e:wM aI d v=.ok c):∀x∈c,tw x=ah:=by
 unfold wM at e;split at e
 .split at e
  .rename_i w b a r hr hj;unfold kj at e;by_cases c1:VE w/\b=0
   .rw[ap c1] at e;cases e
   .rw[am c1] at e;by_cases c2:tw (VD w a b)=ah
    .rw[ap c2] at e;cases e;intro x hx;rcases bu.mp hx with hx|hx
     .refine h x (rY.mp ?_);rw[hr];exact br _ (br _ (rY.mp hx))
     .rw[bo.mp hx];exact c2
    .rw[am c2] at e;cases e
  .cases e
 .cases e;intro x hx;rcases bu.mp hx with hx|hx
  .exact h x hx
  .rw[bo.mp hx];exact zaQ g f
theorem zda{f:List (aU×V)}(d:xg f):∀ {c:List V} {b a:List Int},(∀v∈c,qe v)->(∀x∈b,tw x=ah)->wQ f c b=.ok a->∀x∈a,tw x=ah
 |[],b,a,_,h,e=>by cases e;exact h
 |v::r,b,a,hp,h,e=>by
  unfold wQ at e;split at e
  .rename_i st1 e1;exact zda d (λv g=>hp v (br _ g)) (zfg d (hp v bt) h e1) e
  .cases e
theorem zfh(a:xg aI)(b:∀v∈ps,qe v){i:Int}(e:rk aI ps=.ok i):tw i=ah:=by
 unfold rk at e;split at e
 .rename_i j hj;cases e;exact zda a b (λ_ z=>absurd z cZ) hj i bt
 .cases e
 .cases e
def bv(e:List V):Prop:=(∀a,∃r,Good a e r)/\(∀v∈e,qe v)/\e.length<=1000
theorem bv.good(h:bv e)(a:List (aU×V)):Good a e (rk a e):=by
 obtain⟨r,g⟩:=h.1 a;rw[g.rk];exact g
mutual
inductive Rw where
 |take (sh:Str) (e:List V) (sl:Str)
 |give (sh:Str) (e f:List V)
 |lt (sl:Str) (e:List V)
 |say (e:List V)
 |off (e:List V)
 |iff (e:List V) (a b:hU)
inductive hU where
 |nil
 |cons (r:Rw) (rs:hU)
end
set_option genSizeOf false in
set_option genInjectivity false in
structure Sta where
 sl:List (aU×V)
 wo:List aN
 sa:List Int
inductive Res where
 |go (s:Sta)
 |off
 |er (e:Er)
mutual
def goR:Rw->Sta->Res
 |.take sh e sl,s=>match rk s.sl e with
  |.ok n=>.go { s with sl:=yJ s.sl (.inr sl) (.int ((zE s.wo (sh,n)).getD 0)) }
  |.error x=>.er x
 |.give sh e f,s=>match rk s.sl e with
  |.ok n=>(match rk s.sl f with
   |.ok w=>.go { s with wo:=s.wo++[((sh,n),w)] }
   |.error x=>.er x)
  |.error x=>.er x
 |.lt sl e,s=>match rk s.sl e with
  |.ok n=>.go { s with sl:=yJ s.sl (.inr sl) (.int n) }
  |.error x=>.er x
 |.say e,s=>match rk s.sl e with
  |.ok n=>.go { s with sa:=s.sa++[n] }
  |.error x=>.er x
 |.off e,s=>match rk s.sl e with
  |.ok n=>if n=0 then .go s else .off
  |.error x=>.er x
 |.iff e a b,s=>match rk s.sl e with
  |.ok n=>if n=0 then zgR b s else zgR a s
  |.error x=>.er x
def zgR:hU->Sta->Res
 |.nil,s=>.go s
 |.cons r rs,s=>match goR r s with
  |.go s'=>zgR rs s'
  |x=>x
end
mutual
def pv(F:D->Prop)(H:Hp)(v:V):Rw->Prop
 |.take sh e sl=>∃r c,v=.ref r/\F r/\F c/\H r=U (.tup [.str "take",.str sh,.ref c,.str sl])/\H c=U (.tup e)
 |.give sh e f=>∃r c d,v=.ref r/\F r/\F c/\F d/\H r=U (.tup [.str "give",.str sh,.ref c,.ref d])/\H c=U (.tup e)/\H d=U (.tup f)
 |.lt sl e=>∃r c,v=.ref r/\F r/\F c/\H r=U (.tup [.str "let",.str sl,.ref c])/\H c=U (.tup e)
 |.say e=>∃r c,v=.ref r/\F r/\F c/\H r=U (.tup [.str "say",.ref c])/\H c=U (.tup e)
 |.off e=>∃r c,v=.ref r/\F r/\F c/\H r=U (.tup [.str "off",.ref c])/\H c=U (.tup e)
 |.iff e a b=>∃r c h g j i,v=.ref r/\F r/\F c/\F h/\F g/\H r=U (.tup [.str "if",.ref c,.ref h,.ref g])/\H c=U (.tup e)/\H h=U (.lst j)/\sQ F H j a/\H g=U (.lst i)/\sQ F H i b
def sQ(F:D->Prop)(H:Hp)(b:List V):hU->Prop
 |.nil=>b=[]
 |.cons r rs=>∃v a,b=v::a/\pv F H v r/\sQ F H a rs
end
mutual
theorem pv.to_{F G:D->Prop}{H t:Hp}(g:∀b o,F b->H b=U o->G b)(s:∀b o,F b->H b=U o->t b=U o):∀ {v:V} (r:Rw),pv F H v r->pv G t v r
 |v,.take sh e sl,h=>by
  unfold pv at h ⊢;obtain⟨r,k,l,d,c,j,i⟩:=h;exact⟨r,k,l,g _ _ d j,g _ _ c i,s _ _ d j,s _ _ c i⟩
 |v,.give sh e f,h=>by
  unfold pv at h ⊢;obtain⟨r,k,x,l,d,c,m,j,i,n⟩:=h;exact⟨r,k,x,l,g _ _ d j,g _ _ c i,g _ _ m n,s _ _ d j,s _ _ c i,s _ _ m n⟩
 |v,.lt sl e,h=>by
  unfold pv at h ⊢;obtain⟨r,k,l,d,c,j,i⟩:=h;exact⟨r,k,l,g _ _ d j,g _ _ c i,s _ _ d j,s _ _ c i⟩
 |v,.say e,h=>by
  unfold pv at h ⊢;obtain⟨r,k,l,d,c,j,i⟩:=h;exact⟨r,k,l,g _ _ d j,g _ _ c i,s _ _ d j,s _ _ c i⟩
 |v,.off e,h=>by
  unfold pv at h ⊢;obtain⟨r,k,l,d,c,j,i⟩:=h;exact⟨r,k,l,g _ _ d j,g _ _ c i,s _ _ d j,s _ _ c i⟩
 |v,.iff e a b,h=>by
  unfold pv at h ⊢;obtain⟨r,k,z,y,w,u,l,d,c,m,p,j,i,n,B,q,A⟩:=h;exact⟨r,k,z,y,w,u,l,g _ _ d j,g _ _ c i,g _ _ m n,g _ _ p q,s _ _ d j,s _ _ c i,s _ _ m n,sQ.to_ g s a B,s _ _ p q,sQ.to_ g s b A⟩
theorem sQ.to_{F G:D->Prop}{H a:Hp}(g:∀b o,F b->H b=U o->G b)(s:∀b o,F b->H b=U o->a b=U o):∀ {vs:List V} (r:hU),sQ F H vs r->sQ G a vs r
 |vs,.nil,h=>by
  unfold sQ at h ⊢;exact h
 |vs,.cons r rs,h=>by
  unfold sQ at h ⊢;obtain⟨v,c,f,e,d⟩:=h;exact⟨v,c,f,pv.to_ g s r e,sQ.to_ g s rs d⟩
end
theorem pv.to{F G:D->Prop}{H a:Hp}(r:Rw)(g:∀b o,F b->H b=U o->G b)(s:∀b o,F b->H b=U o->a b=U o)(h:pv F H v r):pv G a v r:=pv.to_ g s r h
theorem sQ.to{F G:D->Prop}{H a:Hp}(r:hU)(g:∀b o,F b->H b=U o->G b)(s:∀b o,F b->H b=U o->a b=U o)(h:sQ F H vs r):sQ G a vs r:=sQ.to_ g s r h
theorem pv.mono{F:D->Prop}{H a:Hp}(s:aJ H a)(h:pv F H v r):pv F a v r:=h.to r (λ_ _ f _=>f) (λb o _ e=>s b o e)
theorem sQ.mono{F:D->Prop}{H a:Hp}(s:aJ H a)(h:sQ F H vs r):sQ F a vs r:=h.to r (λ_ _ f _=>f) (λb o _ e=>s b o e)
def RlAt(F:D->Prop)(H:Hp)(v:V)(r:hU):Prop:=∃a b,v=.ref a/\F a/\H a=U (.lst b)/\sQ F H b r
theorem RlAt.to{F G:D->Prop}{H d:Hp}(g:∀b o,F b->H b=U o->G b)(s:∀b o,F b->H b=U o->d b=U o)(h:RlAt F H v r):RlAt G d v r:=by
 obtain⟨a,i,e,f,c,j⟩:=h;exact⟨a,i,e,g _ _ f c,s _ _ f c,sQ.to r g s j⟩
abbrev JR:D->Prop:=λ_=>True
theorem RlAt.any{F:D->Prop}{H:Hp}(h:RlAt F H v r):RlAt JR H v r:=h.to (λ_ _ _ _=>trivial) λb o _ e=>e
mutual
def Zd:Rw->Prop
 |.take _ e _=>bv e
 |.give _ e f=>bv e/\bv f
 |.lt _ e=>bv e
 |.say e=>bv e
 |.off e=>bv e
 |.iff e a b=>bv e/\Ya a/\Ya b
def Ya:hU->Prop
 |.nil=>True
 |.cons r rs=>Zd r/\Ya rs
end
mutual
def Rw.deep:Rw->Nat
 |.iff _ a b=>max a.deep b.deep+1
 |_=>0
def hU.deep:hU->Nat
 |.nil=>0
 |.cons r rs=>max r.deep rs.deep
end
mutual
def Rw.cnt:Rw->Nat
 |.iff _ a b=>max a.cnt b.cnt+1
 |_=>1
def hU.cnt:hU->Nat
 |.nil=>0
 |.cons r rs=>r.cnt+rs.cnt
end
abbrev ItA(h:av)(e d:D)(i n g:Nat)(c:ae)(f:Bool)(b a:ae):Prop :=
 h.get? e=U { cls:=.type "dict_itemiterator",dict:=ak,data:=.fields #[c,.bool f,.ref d,.int i 0,.int n 0,.int g 0,b,a],slots:=#[] }
section
variable {P:aq}{w:au}{A:aw}{E:ae->af->Prop}{s:af}
theorem zfi{Q:ae->af->Prop}(c:s.heap.IsItemsView v d)(h:tN s.heap d es ep) (q:Q (.ref s.heap.objs.size) { s with heap:=s.heap.push { cls:=.type "dict_itemiterator",data:=.fields #[.none,.bool ao,.ref d,.int 0 0,.int es.size 0,.int ep 0,.none,.none] } }):Bf (Bg P w) A (pyIter (.ref v)) Q E s:=by
 obtain⟨j,e,i,f⟩:=id c;obtain⟨o,g,k,a⟩:=id h;refine wpAny_pyIter_slot c.typeIs nU (cK nU c.typeIs F.entry_dict_items_iter ?_ (F.args_dict_items_iter_1 _));unfold Builtin.«dict_items.__iter__»;refine ba (bf ?_);refine ba ?_;unfold Builtin.Dict_items.dictOf;refine ba (de e f (x:=.ref d) Y (bf ?_));refine ba ?_;unfold Builtin.Dict_items.newIterator;refine ba (dQ g a ?_);refine ba (gA g a ?_);have b:dR "dict_itemiterator"=ah:=by lia
 simp only[b,if_true];refine cw (bf ⟨_,Y,"dict_itemiterator",_,⟨_,bF _ Y,Y⟩,F.slot_dict_itemiterator_next.lookup,?_⟩) (by simp only[sizeOk,gW,bG,bC,bU,om,bH];lia);simpa[rawInt,gW] using q
theorem zfj{Q:Option ae->af->Prop}(k:ItA s.heap it d i es.size ep o0 f ok ov)(hm:tN s.heap d es ep)(hx:es[i]?=U e) (ag:(o0=.none/\f=ao)\/∃(a:D) (oa:Obj),o0=rawInt (a:Nat)/\s.heap.get? a=U oa/\a≠it) (q:∀n J f1 k1 v1,ItA n it d (i+1) es.size ep J f1 k1 v1->((J=.none/\f1=ao)\/∃(a:D) (oa:Obj),J=rawInt (a:Nat)/\n.get? a=U oa/\a≠it)->n.get? s.heap.objs.size=U { cls:=.type "tuple",data:=.seq #[e.key,e.val] }->n.objs.size=s.heap.objs.size+1 ->
   (∀b o,b≠it->s.heap.get? b=U o->n.get? b=U o)->(∀a:D,J=rawInt (a:Nat)->a=s.heap.objs.size\/o0=rawInt (a:Nat))->Q (U (.ref s.heap.objs.size)) { s with heap:=n }):Bf (Bg P w) A (pyNext (.ref it)) Q E s:=by
 obtain⟨c,g,B,p,t⟩:=s;obtain⟨od,u,ai,v⟩:=id hm;have T:sM ⟨c,g,B,p,t⟩ (.ref it) "dict_itemiterator":=⟨_,k,Y⟩;unfold pyNext;refine ba (iq (cE (name:=bh "__next__") T eR (cK eR T iX ?_ (iM _))));refine ba (bf ?_);refine ba ?_;refine ba ?_
 first|(refine ba (eM T (bf ?_)))|(refine ba (fI T (bf ?_)))
 refine ba (mD k Y ?_);have aa:dR "dict_itemiterator"=ah:=by lia
 simp only[aa,if_true];show Bf _ _ (if (bJ d==cC)=ah then _ else _) _ _ _;rw[am (show ¬ ((bJ d==cC)=ah) from bM)];refine ba (bf ?_);refine ba (dQ u v ?_);rw[am (by simp)];refine ba (bf ?_);refine ba (gA u v ?_);rw[am (by simp)];refine bf ?_;simp only[show ¬ ((i:Int)<0) from by lia,if_false,dP,hx];refine ba ?_
 first|(refine ba (eM T (bf ?_)))|(refine ba (fI T (bf ?_)))
 refine ba (iC T ?_);show Bf _ _ (setField (.ref it) 3 (rawInt ((i:Int)+1)) >>= _) _ _ ⟨c,g,B,p,t⟩;refine ba (cS k (by simp) λh₁ y r=>?_);replace r:cN it c h₁:=r;replace y:ItA h₁ it d (i+1) es.size ep o0 f ok ov:=by
  have z:((i+1:Nat):Int)=(i:Int)+1:=by lia
  unfold ItA;rw[z];simpa[rawInt] using y
 have T1:sM ⟨h₁,g,B,p,t⟩ (.ref it) "dict_itemiterator":=⟨_,y,Y⟩;refine ba (dD ?_);refine ba (iC T1 ?_);refine ba (iC T1 ?_);show Bf _ _ (iy (.ref it) 6 e.key e.val) _ _ ⟨h₁,g,B,p,t⟩;unfold iy;refine ba (oW ?_);have l:ItA (h₁.push { cls:=.type "tuple",data:=.seq #[e.key,e.val] }) it d (i+1) es.size ep o0 f ok ov:=bc _ y;generalize hg:h₁.push { cls:=.type "tuple",data:=.seq #[e.key,e.val] }=h₂ at l;have C:h₁.objs.size=c.objs.size:=r.1;have il:it<c.objs.size:=bQ k;have t2:h₂.get? c.objs.size=U { cls:=.type "tuple",data:=.seq #[e.key,e.val] }:=by rw[<-hg,<-C];exact bF _ rfl
 have N:h₂.objs.size=c.objs.size+1:=by rw[<-hg,eV,C]
 have M:∀b o,b≠it->c.get? b=U o->h₂.get? b=U o:=λb o h z=>by rw[<-hg];exact bc _ (r.extBut b o h z)
 show Bf _ _ (gX (.ref it) >>= _) _ _ ⟨h₂,g,B,p,t⟩;rw[C];clear hg y r T1 C h₁;refine ba ?_;unfold gX;rcases ag with ⟨rfl,rfl⟩|⟨a,oa,rfl,ha,hai⟩
 .refine ba (de l Y (x:=.none) Y (bf ?_));simp only[if_true];refine ba (de l Y (x:=ok) Y ?_);refine ba (de l Y (x:=ov) Y ?_);refine ba (cS l (by simp) λh₃ m j=>?_);replace j:cN it h₂ h₃:=j;replace m:ItA h₃ it d (i+1) es.size ep .none ao e.key ov:=m;refine ba (cS m (by simp) λh₄ e4 I=>?_);replace I:cN it h₃ h₄:=I;replace e4:ItA h₄ it d (i+1) es.size ep .none ao e.key e.val:=e4;refine ba (cS e4 (by simp) λh₅ e5 H=>?_);replace H:cN it h₄ h₅:=H;replace e5:ItA h₅ it d (i+1) es.size ep (rawInt (c.objs.size:Nat)) ao e.key e.val:=e5;refine ba (cS e5 (by simp) λh₆ e6 G=>?_);replace G:cN it h₅ h₆:=G;replace e6:ItA h₆ it d (i+1) es.size ep (rawInt (c.objs.size:Nat)) ao e.key e.val:=e6;have k6:∀b o,b≠it->h₂.get? b=U o->h₆.get? b=U o:=λb o h z=>G.extBut b o h (H.extBut b o h (I.extBut b o h (j.extBut b o h z)));have t6:=k6 _ _ (fu il) t2;refine ba (nu (bf (bf ⟨_,Y,bf (q h₆ _ _ _ _ e6 (.inr ⟨_,_,Y,t6,fu il⟩) t6 ?_ (λb o h z=>k6 b o h (M b o h z)) λa z=>?_)⟩)))
  .show h₆.objs.size=c.objs.size+1;rw[G.1,H.1,I.1,j.1,N]
  .refine .inl ?_;have z':(f7 (c.objs.size:Nat) 0:ae)=f7 (a:Nat) 0:=z;have O:((c.objs.size:Nat):Int)=((a:Nat):Int):=by injection z'
   exact(sN O).symm
 .refine ba (de l Y (x:=rawInt (a:Nat)) Y ?_);show Bf _ _ (loadIfAlive (((a:Nat):Int).toNat) >>= _) _ _ _;rw[dP];have a2:h₂.get? a=U oa:=M a oa hai ha;refine ba (W.kdx_alive a2 ?_);simp only[pW,cP,if_false];refine ba (de l Y (x:=.bool f) Y ?_);cases f with
  |true =>
   rw[am (show ¬ ((iE ah != iE ah)=ah) from bM)];refine bf ?_;simp only[cP,if_false];exact bf (bf ⟨_,Y,bf (q h₂ _ _ _ _ l (.inr ⟨_,_,Y,a2,hai⟩) t2 N M λa z=>.inr z)⟩)
  |false =>
   rw[ap (show (iE ao != iE ah)=ah from rfl)];refine ba (cS l (by simp) λh₃ m j=>?_);replace j:cN it h₂ h₃:=j;replace m:ItA h₃ it d (i+1) es.size ep (rawInt (a:Nat)) ah ok ov:=m;refine bf ?_;simp only[cP,if_false];exact bf (bf ⟨_,Y,bf (q h₃ _ _ _ _ m (.inr ⟨_,_,Y,j.extBut _ _ hai a2,hai⟩) (j.extBut _ _ (fu il) t2) (by show h₃.objs.size=_;rw[j.1,N]) (λb o h z=>j.extBut b o h (M b o h z)) λa z=>.inr z)⟩)
theorem zgS{Q:Option ae->af->Prop}(n:A.handled=ak)(c:ItA s.heap it d i es.size ep o0 f ok ov)(l:tN s.heap d es ep)(k:es.size<=i) (q:∀j,sy it s.heap j->Q ak { s with heap:=j }):Bf (Bg P w) A (pyNext (.ref it)) Q E s:=by
 obtain⟨p,e,o,g⟩:=id l;have T:s.TypeIs (.ref it) "dict_itemiterator":=⟨_,c,Y⟩;unfold pyNext;refine ba (iq (cE (name:=bh "__next__") T eR (cK eR T iX ?_ (iM _))));refine ba (bf ?_);refine ba ?_;refine ba ?_
 first|(refine ba (eM T (bf ?_)))|(refine ba (fI T (bf ?_)))
 refine ba (mD c Y ?_);have h:dR "dict_itemiterator"=ah:=by lia
 simp only[h,if_true];show Bf _ _ (if (bJ d==cC)=ah then _ else _) _ _ s;rw[am (show ¬ ((bJ d==cC)=ah) from bM)];refine ba (bf ?_);refine ba (dQ e g ?_);rw[am (by simp)];refine ba (bf ?_);refine ba (gA e g ?_);rw[am (by simp)];refine bf ?_;simp only[show ¬ ((i:Int)<0) from by lia,if_false,dP,iB k];refine ba ?_
 first|(refine ba (eM T (bf ?_)))|(refine ba (fI T (bf ?_)))
 show Bf _ _ (setField (.ref it) 2 .none >>= _) _ _ s;refine ba (iQ c Y (by simp) ?_);show Bf _ _ (newExc (.type "StopIteration") [] >>= _) _ _ _;refine ba ?_;simp only[newExc,newTuple];refine ba (cw ?_ (by size_fits));refine ba (m:=firstArgMember _ _) (wpAny_of_eq (a:=cC) (by first|rfl|(simp only[firstArgMember];rfl)) ?_);refine cw ?_ (by size_fits);simp only[raiseNew];refine ba (pQ ?_);rw[show A.in1.handled=ak from n];refine ba (bf (wpAny_throw ?_));refine ba (nK (T:="StopIteration") (b:=ah) ⟨_,bF _ Y,Y⟩ oX ?_);exact bf (q _ (((cX ..).extBut.push _).push _))
end
end L2
namespace L2
open PySem PySem.Spec PyProof.Rows
def VN(r d:D):HO:=.ext λh=>h.IsItemsView r d
def zcj(c:TE):TE:=λb H Q=>c b H λx a=>∃d e,x=.ref d/\a d=U (.dT e)/\∀r,a r=ak->Q (.ref r) (upd a r (VN r d))
section
variable {X:Cx}{o:ay}{sR sZ:Pos}{td:TE}
theorem za1(t:PE X o td)(g:attributeBase o "items" X.env (eval o X.env)=eval o X.env:=by rfl)(f:(sR.endLine==sZ.line)=ah:=by rfl):PE X (.Call (.Attribute o "items" sR) [] [] sZ) (zcj td):=by
 intro C s m H Q I h;refine m4 g f (dl (t C s m H _ I h) ?_);rintro v c ⟨x,G,l,q,d,E,z,y,r⟩;subst z;obtain rfl:v=bJ d:=q;obtain⟨j,p,n⟩:=XY l (.inr ⟨E,.inl y⟩);refine⟨"dict","dict.items",dW,nD,PySem.F.type_dict_items,j,p,dh Y (pq ?_)⟩;refine cK nD j PySem.F.entry_dict_items ?_ (PySem.F.args_dict_items_1 _);unfold Builtin.«dict.items»;refine ba ?_;unfold Builtin.Dict.noArgs;refine ba (fB j ?_);show Bf _ _ (pure d) _ _ c;refine bf ?_;show Bf _ _ (gy d >>= _) _ _ c;unfold gy;rw[am (by rw[n];exact bM)];refine ba (bf ?_);refine ba (cw (bf ⟨_,Y,?_⟩));have w:G c.heap.objs.size=ak:=l.hok.fresh (bp _);have i:(c.heap.push { cls:=.type "dict_items",data:=.fields #[.ref d] }).get? c.heap.objs.size=U { cls:=.type "dict_items",data:=.fields #[.ref d] }:=bF _ rfl;refine⟨.ref c.heap.objs.size,_,l.laid (a:=c.heap.objs.size) (o:=VN c.heap.objs.size d) (t':=c.toks) (λb u e=>bc _ e) (bp _) ?_,Y,r _ w⟩;exact⟨⟨_,i,Y,Y⟩,⟨_,i⟩,λM J ⟨o,B,A⟩ k=>⟨o,k o B,A⟩⟩
end
def Y8(H:Hp)(v:V)(a:List aU×V):Prop:=∃r p,v=.ref r/\H r=U (.tup [.ref p,a.2])/\H p=U (.tup (a.1.map kV))
theorem za2{H f:Hp}(s:∀b a,H b=U (.tup a)->f b=U (.tup a)):∀ {c:List V} {d:List (List aU×V)},Paired (Y8 H) c d->Paired (Y8 f) c d
 |_,_,.nil=>.nil
 |_,_,.cons ⟨r,p,e,h1,h2⟩ t=>.cons ⟨r,p,e,s _ _ h1,s _ _ h2⟩ (za2 s t)
theorem za3{H:Hp}{v:V}{q:List aU×V}:∀ {b:List V} {c:List (List aU×V)},Paired (Y8 H) b c->Y8 H v q->Paired (Y8 H) (b++[v]) (c++[q])
 |_,_,.nil,h=>.cons h .nil
 |_,_,.cons a r,h=>.cons a (za3 r h)
section
variable {X:Cx}{A:aw}{R:aB->af->Prop}
theorem zfk{Q:St}{H:Hp}{S it d:D}{c:List (List aU×V)}{es:Array DictEntry}{ep:Nat}{v:ae}(hh:A.handled=ak)(hS:H S=ak)(hd:H d=U (.dT c))(N:S≠it)(az:d≠it)(hz:c.length<=1000) (a2:es.size=c.length) (al:∀(i:Nat) (e:DictEntry) (kv:List aU×V),es[i]?=U e->c[i]?=U kv->∃p,e.key=.ref p/\H p=U (.tup (kv.1.map kV))/\aT kv.2 e.val) (fin:∀s' H' h,aO X aa Q H' s'->aJ H H'->H' S=U (.lst h)->Paired (Y8 H') h c->R (.ok (.ret v)) s') :
  ∀(k i:Nat) (s:af) (g:Hp) (h:List V) (m ok ov:ae) (f:Bool),c.length-i=k->i<=c.length->aO X aa Q g s->aJ H g->g S=U (.lst h)->Paired (Y8 g) h (c.take i)->tN s.heap d es ep->ItA s.heap it d i es.size ep m f ok ov ->
  ((m=.none/\f=ao)\/∃(a:D) (l:Obj),m=rawInt (a:Nat)/\s.heap.get? a=U l/\a≠it/\a≠S)->qY X aa g it ->
  codeAny (Bg X.prog X.w) A (.builtin "list.extend.loop" ⟨[.ref S,.ref it,v],[]⟩) R s:=by
 intro k;induction k with
 |zero =>
  intro i s g h m ok ov f hk hi I sm B w rd j q hf;have e:i=c.length:=by lia
  subst e;refine fh mE ?_;rw[dG eI _];show Bf _ A.in1 (pyNext (.ref it) >>= _) _ _ s;obtain⟨f0,f1,f2,f3,f4,f5⟩:=hf;refine ba (zgS (A:=A.in1) hh j rd () λt eb=>?_);have I1:=I.turned (t':=s.toks) (λb o M e=>eb b o M e) f0 f1 f3 f4 f5;rw[cx] at w;exact bf (fin _ g h I1 sm B w)
 |succ k ih =>
  intro i s g h m ok ov f hk hi I sm B w rd j q hf;have E:i<c.length:=by lia
  have hx:es[i]?=U es[i]:=cq ();have G:c[i]?=U c[i]:=bb E;obtain⟨p,ek,hp,rv⟩:=al i _ _ hx G;refine fh mE ?_;rw[dG eI _];show Bf _ A.in1 (pyNext (.ref it) >>= _) _ _ s;obtain⟨f0,f1,f2,f3,f4,f5⟩:=id hf;have C:(m=.none/\f=ao)\/∃(a:D) (l:Obj),m=rawInt (a:Nat)/\s.heap.get? a=U l/\a≠it:=by
   rcases q with z|⟨a,l,z1,z2,z3,_⟩
   .exact .inl z
   .exact .inr ⟨a,l,z1,z2,z3⟩
  refine ba (zfj (A:=A.in1) j rd hx C λt o1 ar k1 v1 J aj ht a1 kp ai=>?_);have Sl:S<s.heap.objs.size:=by
   obtain⟨_,_,_,_,e⟩:=(show aW X.prog X.w g s.heap S (.lst h) from I.hok S _ B);exact bQ e
  have tn:s.heap.objs.size≠it:=fu (bQ j);have an:g s.heap.objs.size=ak:=I.hok.fresh (bp _);have O:S≠s.heap.objs.size:=bW Sl;generalize hT:s.heap.objs.size=T at *
  have I6:aO X aa Q (upd g T (.tup [.ref p,c[i].2])) { s with heap:=s.heap.push { cls:=.type "tuple",data:=.seq #[es[i].key,es[i].val] } } :=
   I.laid (a:=T) (o:=.tup [.ref p,c[i].2]) (t':=s.toks) (λb u e=>bc _ e) (by rw[hT];exact bp _) ⟨by show 2<=Bb;decide,[es[i].key,es[i].val],.cons (by rw[ek];exact rfl) (.cons rv .nil),⟨_,by rw[<-hT];exact bF _ Y,Y,_,Y⟩⟩
  have S6:aJ g (upd g T (.tup [.ref p,c[i].2])):=sX T an;have I7:aO X aa Q (upd g T (.tup [.ref p,c[i].2])) { s with heap:=t }:=I6.turned (s:={ s with heap:=s.heap.push { cls:=.type "tuple",data:=.seq #[es[i].key,es[i].val] } }) (t':=s.toks) (λb o M e=>by
   rcases Heap.get?_push_cases (show (s.heap.push { cls:=.type "tuple",data:=.seq #[es[i].key,es[i].val] }).get? b=U o from e) with ⟨rfl,rfl⟩|e
   .rw[hT];exact ht
   .exact kp b o M e) (by rw[zi (ef tn)];exact f0) f1 f3 f4 f5
  have y:(upd g T (.tup [.ref p,c[i].2])) S=U (.lst h):=S6 _ _ B;obtain⟨z,x,n,r,hl,e⟩:=I7.lstM y;have yl:h.length=i:=by
   have:=bL w;rw[cB] at this;lia
  show Bf _ A.in1 (updateSeq S (·.push (bJ T)) >>= _) _ _ _;have e':t.get? S=U { cls:=.type "list",data:=.seq x.toArray n }:=e;refine ba (lQ (s:={ s with heap:=t }) e' rfl ?_ (by rw[bG,<-r.length,yl];exact bO (by lia:i<=1000) ()) (by rw[Array.size_push,bG,<-r.length,yl];exact bO (by lia:i+1<=1001) ()));have I8:=I7.lset (f:=λxs=>xs.push (bJ T)) (t':=s.toks) (its':=x++[bJ T]) y e' (by simp) (r.append (.cons (show aT (.ref T) (.ref T) from rfl) .nil)) (by rw[bC,yl];exact bO (by show i+1<=1001;lia) ());have up:∀b o,b≠S->t.get? b=U o->(t.update S (dt (·.push (bJ T)))).get? b=U o:=λb o M z=>(eA _ _ (ef M)).trans z;have dS:d≠S:=zw hd hS;have tS:∀b zs,g b=U (.tup zs)->(upd (upd g T (.tup [.ref p,c[i].2])) S (.lst (h++[.ref T]))) b=U (.tup zs):=λb zs z=>by
   rw[zi (zM z B (by intro z;cases z))];exact S6 _ _ z
  have ri:∀ {a b:Nat},(rawInt (a:Int):ae)=rawInt (b:Int)->a=b:=λ{a b} z=>by
   have z':(f7 (a:Int) 0:ae)=f7 (b:Int) 0:=z;have ag:(a:Int)=(b:Int):=by injection z'
   exact sN ag
  refine bf ⟨gG eI _,ih (i+1) _ _ (h++[.ref T]) o1 k1 v1 ar (by rw[Nat.sub_add_eq,hk];rfl) E I8 (λb o z=>?_) zh ?_ (rd.at λo z=>up d o dS (kp d o az z)) (up it _ (ef N) J) ?_ ⟨?_,f1,f2,f3,f4,f5⟩⟩
  .rw[zi (zw z hS)];exact S6 _ _ (sm _ _ z)
  .rw[cH,G];exact za3 (za2 tS w) ⟨T,p,Y,by rw[zi (ef O),zh],tS _ _ (sm _ _ hp)⟩
  .rcases aj with z|⟨a,l,z1,z2,z3⟩
   .exact .inl z
   .have aS:a≠S:=by
     rcases ai a z1 with z|z
     .rw[z];exact ef O
     .rcases q with ⟨y1,_⟩|⟨a',oa',y1,_,_,y4⟩
      .rw[y1] at z;cases z
      .rw[y1] at z;rw[<-ri z];exact y4
    exact .inr ⟨a,l,z1,up a _ aS z2,z3,aS⟩
  .rw[zi (ef N),zi (ef tn)];exact f0
end
abbrev zhK:RC:=λe H Q=>∃r d b,e=[.ref r]/\H r=U (VN r d)/\H d=U (.dT b)/\b.length<=1000/\∀l c a,aJ H a->H l=ak->a l=U (.lst c)->Paired (Y8 a) c b->Q (.ref l) a
theorem zgT{H:Hp}(k:t8 P w H h)(e:H r=U (VN r d)):h.IsItemsView r d:=(k r _ e).1
theorem zgU{H:Hp}:∀ {c:List (List aU×V)} {b:List (List aU×D×ae)},Paired (λ(p:List aU×V) (q:List aU×D×ae)=>p.1=q.1/\H q.2.1=U (.tup (p.1.map kV))/\aT p.2 q.2.2) c b->∀ {i:Nat} {a:List aU×V} {x:List aU×D×ae},c[i]?=U a->b[i]?=U x->H x.2.1=U (.tup (a.1.map kV))/\aT a.2 x.2.2 :=
 λ{_ _} h {_ _ _} e d=>(yV h e d).2
section
variable {X:Cx}
theorem zfl{k:St}{H:Hp}{s:af}{d:D}{f:List (List aU×V)}(I:aO X aa k H s)(e:H d=U (.dT f)):∃a g,tN s.heap d a g/\a.size=f.length /\
  ∀(i:Nat) (en:DictEntry) (c:List aU×V),a[i]?=U en->f[i]?=U c->∃p,en.key=.ref p/\H p=U (.tup (c.1.map kV))/\aT c.2 en.val:=by
 obtain⟨z,A,l,b,o,a,g,t,r,q,h,_⟩:=(show aW X.prog X.w H s.heap d (.dT f) from I.hok d _ e);have m:a.size=l.length:=by rw[<-cg,h,bg]
 refine⟨a,g,⟨o,t,r,q⟩,by rw[m,<-bL b],λi en c y w=>?_⟩;have j:a.toList[i]?=U en:=by rw[du];exact y
 rw[h,bA] at j;obtain⟨x,n,rfl⟩:=b7.mp j;obtain⟨v,u⟩:=zgU b w n;exact⟨x.2.1,Y,v,u⟩
theorem KS{A:aw}{R:aB->af->Prop}{h:List (D×Obj)}{k:St}{H:Hp}{s:af}{S r d:D}{j:List (List aU×V)}{res:ae}{c:Nat}(hh:A.handled=ak)(y:H S=ak)(hr:H r=U (VN r d))(Q:H d=U (.dT j))(hl:j.length<=1000) (w:aO X h k (upd H S (.lst [])) s) (T2:s.heap.get? S=U { cls:=.type "list",data:=.seq #[] c }) (z:∀a g ys,aO X h k g a->aJ H g->g S=U (.lst ys)->Paired (Y8 g) ys j->R (.ok (.ret res)) a) :
  Bf (Bg X.prog X.w) A.in1 (dz (.ref S) (.ref r) res) (λfin a=>match fin with|.done f=>R (.ok f) a|.again c'=>c'.quiet=ah/\codeAny (Bg X.prog X.w) A c' R a) (λe a=>R (.error e) a) s:=by
 have Sr:r≠S:=zw hr y;have Sd:d≠S:=zw Q y;have SS:aJ H (upd H S (.lst [])):=sX S y;obtain⟨es,ep,J,N,t⟩:=zfl w (SS _ _ Q);have O:∀(i:Nat) (v:DictEntry) (n:List aU×V),es[i]?=U v->j[i]?=U n->∃p,v.key=.ref p/\H p=U (.tup (n.1.map kV))/\aT n.2 v.val:=λi v n e1 e2=>by
  obtain⟨p,g1,g2,g3⟩:=t i v n e1 e2;refine⟨p,g1,?_,g3⟩;by_cases hp:p=S
  .rw[hp,zh] at g2;cases g2
  .rwa [zi hp] at g2
 have E:=zgT w.hok (SS _ _ hr);unfold dz;refine ba (oh (T:="dict_items") E.typeIs ?_);have c1:mT (.ref S) (.ref r)=ao:=by simp[mT,ef Sr]
 have c2:(mG "dict_items" == mG "list")=ao:=by lia
 have c3:(mG "dict_items" == mG "tuple")=ao:=by lia
 simp only[c1,c2,c3,Bool.or_false,cP,if_false];refine ba (zfi E J ?_);have ni:(upd H S (.lst [])) s.heap.objs.size=ak:=w.hok.fresh (bp _);have fp:qY X h (upd H S (.lst [])) s.heap.objs.size:=w.fpOk (bp _) ni;have Si:S≠s.heap.objs.size:=bW (bQ T2);have di:d≠s.heap.objs.size:=bW J.lt;have I3:aO X h k (upd H S (.lst [])) { s with heap:=s.heap.push { cls:=.type "dict_itemiterator",data:=.fields #[.none,.bool ao,.ref d,.int 0 0,.int es.size 0,.int ep 0,.none,.none] } }:=w.kept (t':=s.toks) λb o e=>bc _ e;have T3:=bc { cls:=.type "dict_itemiterator",data:=.fields #[.none,.bool ao,.ref d,.int 0 0,.int es.size 0,.int ep 0,.none,.none] } T2;have q:ItA (s.heap.push { cls:=.type "dict_itemiterator",data:=.fields #[.none,.bool ao,.ref d,.int 0 0,.int es.size 0,.int ep 0,.none,.none] }) s.heap.objs.size d 0 es.size ep .none ao .none .none:=bF _ rfl;have l:tN (s.heap.push { cls:=.type "dict_itemiterator",data:=.fields #[.none,.bool ao,.ref d,.int 0 0,.int es.size 0,.int ep 0,.none,.none] }) d es ep:=J.at λo e=>bc _ e;have C:(s.heap.push { cls:=.type "dict_itemiterator",data:=.fields #[.none,.bool ao,.ref d,.int 0 0,.int es.size 0,.int ep 0,.none,.none] }).IsItemsView r d:=let ⟨o,ho,x⟩:=E;⟨o,bc _ ho,x⟩
 generalize hh3:s.heap.push { cls:=.type "dict_itemiterator",data:=.fields #[.none,.bool ao,.ref d,.int 0 0,.int es.size 0,.int ep 0,.none,.none] }=h3 at *
 generalize s.heap.objs.size=it at *
 refine ba (dD (W.kdx_hint C.typeIs ?_));have fin:∀(u:av) (G:Nat) (R:aB->af->Prop),(∀a g ys,aO X h k g a->aJ H g->g S=U (.lst ys)->Paired (Y8 g) ys j->R (.ok (.ret res)) a)->aO X h k (upd H S (.lst [])) { s with heap:=u,toks:=G }->tN u d es ep->ItA u it d 0 es.size ep .none ao .none .none ->
   codeAny (Bg X.prog X.w) A (.builtin "list.extend.loop" ⟨[.ref S,.ref it,res],[]⟩) R { s with heap:=u,toks:=G }:=λu G R z I4 I M =>
  zfk (A:=A) (H:=H) (es:=es) (ep:=ep) hh y Q Si di hl N O z j.length 0 _ (upd H S (.lst [])) [] .none .none .none ao (rK _) (bS _) I4 SS zh .nil I M (.inl ⟨Y,Y⟩) fp
 refine wpAny_ite_split (λ_=>?_) (λ_=>bf ⟨gG eI _,fin h3 s.toks _ z I3 l q⟩);refine ba (lE ?_);refine ba ?_;show Bf _ _ (updateSeq S (·.push .none) >>= λ_=>updateSeq S (·.pop)) _ _ _;refine ba (lQ T3 Y ?_);have T4:=eL (dt (·.push cC)) T3 rfl;refine lQ (hz:=by seq_fits) T4 Y ?_;have I4:=I3.lset (f:=λB=>B.push cC) (its:=[]) (its':=[cC]) (ys:=[V.non]) (t':=s.toks) zh T3 Y (.cons Y .nil) (by show 1<=Bb;decide);have I5:=I4.lset (f:=λB=>B.pop) (its:=[cC]) (its':=[]) (ys:=[]) (t':=s.toks) zh T4 Y .nil (bS _);rw[Vj,Vj] at I5;have m:∀b o,b≠S->h3.get? b=U o->((h3.update S (dt (·.push cC))).update S (dt (·.pop))).get? b=U o:=λb o hb e=>(eA _ _ (ef hb)).trans ((eA _ _ (ef hb)).trans e);exact bf ⟨gG eI _,fin _ s.toks _ z I5 (l.at λo e=>m d o Sd e) (m it _ (ef Si) q)⟩
theorem WV(y:X.calm=ah):jZ X (.type "list") zhK:=by
 intro z s k H G J Q I n h;obtain⟨r,d,N,rfl,t,x,v,q⟩:=h;obtain⟨u,rfl,m⟩:=jm n;cases m;have w:X.A.handled=ak:=I.ok.hd y;refine callType_codes (Q₁:=λb a=>b=.ref s.heap.objs.size/\a={ s with heap:=s.heap.push { cls:=.type "list",data:=.seq #[] } }) PySem.F.called_list (PySem.F.typeCall_list_1 _) PySem.F.entry_list_init (code_list_new _ ⟨rfl,rfl⟩) ?_;rintro b a ⟨rfl,rfl⟩;have g:H s.heap.objs.size=ak:=I.hok.fresh (bp _);have C:aO X z k (upd H s.heap.objs.size (.lst [])) { s with heap:=s.heap.push { cls:=.type "list",data:=.seq #[] } }:=I.lnew (its:=[]) (t':=s.toks) .nil (bS _);have c:(s.heap.push { cls:=.type "list",data:=.seq #[] }).get? s.heap.objs.size=U { cls:=.type "list",data:=.seq #[] }:=bF _ rfl;generalize hT:s.heap.objs.size=S at *
 refine⟨⟨_,c,Y⟩,PySem.F.args_list_init_2 _ _,?_⟩;show Bf _ _ (do let e <-iD (.ref S);Builtin.List.listUpdate (.ref S) (λ_=>#[]);letGo e.toList.reverse;dz (.ref S) (.ref r) .none) _ _ _;refine ba ?_;unfold iD;refine ba (fH c Y (bf ?_));show Bf _ _ (updateSeq S (λ_=>#[]) >>= λ_=>letGo (#[]:Array ae).toList.reverse >>= λ_=>dz (.ref S) (.ref r) .none) _ _ _;refine ba (lQ c Y ?_);have i:=C.lset (f:=λ_=>(#[]:Array ae)) (its:=[]) (its':=[]) (ys:=[]) (t':=s.toks) zh c Y .nil (bS _);rw[Vj] at i;have B:=eL (dt (λ_=>(#[]:Array ae))) c rfl;refine ba (nu ?_);generalize hh2:(s.heap.push { cls:=.type "list",data:=.seq #[] }).update S (dt (λ_=>(#[]:Array ae)))=h2 at *
 exact KS (A:=X.A.in1) (H:=H) w g t x v i B λM j ys E l p o=>⟨Y,.ref S,j,E,Y,q S ys j l g p o⟩
end
end L2
namespace L2
open PySem PySem.Spec PyProof.Rows PySem.W
section
variable {X:Cx}
theorem zck{E:ae->af->Prop}{R:List ae->af->Prop}{i:List (D×Obj)}{c:St}{H:Hp}{s:af}{r d:D}{j:List (List aU×V)}(M:A.handled=ak)(C:H r=U (VN r d))(N:H d=U (.dT j))(J:j.length<=1000)(I:aO X i c H s) (h:∀w a b v,aO X i c a w->aJ H a->Paired (Y8 a) b j->aR b v->R v w):Bf (Bg X.prog X.w) A (collect (.ref r)) R E s:=by
 have O:H s.heap.objs.size=ak:=I.hok.fresh (bp _);have I1:aO X i c (upd H s.heap.objs.size (.lst [])) { s with heap:=s.heap.push { cls:=.type "list",data:=.seq ([]:List ae).toArray } }:=I.lnew (its:=[]) (t':=s.toks) .nil (bS _);have T:(s.heap.push { cls:=.type "list",data:=.seq ([]:List ae).toArray }).get? s.heap.objs.size=U { cls:=.type "list",data:=.seq #[] }:=bF _ rfl;unfold collect;refine ba (wpAny_runValue (fh oQ ?_));rw[dG lN _];show Bf _ A.in1 (newList [] >>= λl=>again (.builtin "list.__iadd__" ⟨[l,.ref r],[]⟩)) _ _ s;refine ba (cw ?_);refine bf ⟨gG fU _,fh entry_list_iadd' ?_⟩;rw[dG fU _];generalize s.heap.objs.size=S at *
 show Bf _ A.in1 (dz (.ref S) (.ref r) (.ref S)) _ _ _;have t:=KS (A:=A) (R:=λ(q:aB) (s':af)=>∃a b,q=.ok (.ret (.ref S))/\aO X i c a s'/\aJ H a/\a S=U (.lst b)/\Paired (Y8 a) b j) (res:=.ref S) M O C N J I1 T λs' a b k m u p=>⟨a,b,Y,k,m,u,p⟩;have fin:∀s':af,(∃a b,aO X i c a s'/\aJ H a/\a S=U (.lst b)/\Paired (Y8 a) b j)->Bf (Bg X.prog X.w) A (load S >>= λo=>match o.data with|.seq xs _=>pure xs.toList|_=>unsupported "internal:collect") R E s':=λs' ⟨a,b,k,m,u,p⟩=>by
  obtain⟨z,its,n,B,G,e⟩:=k.lstM u;refine ba (oJ e ?_);refine bf ?_;exact h s' a b its k m p B
 refine dN t (λf s' x=>?_) λe s' x=>?_
 .cases f with
  |done f =>
   obtain⟨a,b,e,x⟩:=x;cases e;exact fin s' ⟨a,b,x⟩
  |again c₁ =>
   refine⟨x.1,gj x.2 λq g y=>?_⟩;obtain⟨a,b,rfl,y⟩:=y;exact fin g ⟨a,b,y⟩
 .obtain⟨_,_,Q,_⟩:=x;cases Q
end
section
variable {P:aq}{w:au}{A:aw}{E:ae->af->Prop}{s:af}
theorem zfm{a b:Str×Int}{Q:Bool->af->Prop}(I:A.units<cLine)(H:ug s.heap (.ref x) a)(G:ug s.heap (.ref y) b)(h:Q (yy a b) s):Bf (Bg P w) A (oneLt' ao (.ref x) (.ref y)) Q E s:=by
 obtain⟨p,o,t,u,n,M,j,l,k⟩:=H;obtain⟨p2,B,v,r,C,J,d,f,e⟩:=G;cases M;cases J;obtain⟨c,N,O,z⟩:=o;obtain⟨c2,i,m,g⟩:=B;simp only at l k f e;subst l k f e;have q:s.TypeIs (.ref x) "tuple":=⟨_,j,Y⟩;have T:s.TypeIs (.ref y) "tuple":=⟨_,d,Y⟩;refine kat_one _ _ ?_;show Bf _ _ (richCompare .Lt (.ref x) (.ref y)) _ _ _;refine wpAny_richCompare_same_room q T oB ?_ I;exact iI oB q PySem.F.entry_tuple_lt (PySem.F.args_tuple_lt_2 _ _) (VI x y a.1 b.1 a.2 b.2 t u v r n C N i z g) ⟨j,d,by simp,h⟩
theorem zfn{a:Str×Int}(b:ug h (.ref x) a):IsTupleKey (yE P w) h (zC a) x:=by
 obtain⟨p,o,t,u,n,f,c,e,d⟩:=b;cases f;exact⟨o,_,n,c,e,d,XX (ks:=zC a) (.cons ⟨t,Y⟩ (.cons ⟨u,Y⟩ .nil))⟩
def RvAt(h:av)(v:ae)(q:aN):Prop:=∃a o p t n,v=.ref a/\h.get? a=U o/\o.cls=.type "tuple"/\o.data=.seq #[.ref p,.int q.2 t] n/\ug h (.ref p) q.1
theorem RvAt.keep(x:RvAt h v q)(k:∀b o,h.get? b=U o->h'.get? b=U o):RvAt h' v q:=by
 obtain⟨a,o,p,t,n,e,d,g,f,c⟩:=x;exact⟨a,o,p,t,n,e,k _ _ d,g,f,c.keep k⟩
theorem zgV{Q:Bool->af->Prop}(g:A.units<cLine)(l:RvAt s.heap x a)(k:RvAt s.heap y b)(h:Q (yy a.1 b.1) s)(q:a.1≠b.1):Bf (Bg P w) A (keyLt' (tuples' ao) x y) Q E s:=by
 obtain⟨p,o,z,t,n,rfl,m,H,r,i⟩:=l;obtain⟨B,C,j,v,G,rfl,d,u,f,c⟩:=k;refine kat_lt m r d f (kat_cons (wpAny_eqBool_tuple (knd:=yE P w) g (zfn i) (zfn c) (kat_go (λe=>?_) λe=>kat_no ?_)))
 .exact absurd (xi (of_decide_eq_true e)) q
 .exact zfm g i c h
theorem zfo{b:List ae}{qs:List aN}{Q:SortKind->af->Prop}(f:b.length=qs.length)(c:∀(i:Nat) (v:ae) (q:aN),b[i]?=U v->qs[i]?=U q->RvAt s.heap v q)(M:0<b.length)(h:Q (tuples' ao) s) :
  Bf (Bg P w) A (keyKind' b.toArray) Q E s:=by
 have T:∀(b:List ae) (qs:List aN),b.length=qs.length->(∀(i:Nat) (v:ae) (q:aN),b[i]?=U v->qs[i]?=U q->RvAt s.heap v q)->∃d,KatTups s.heap b d/\d.length=b.length/\∀v∈d,∃p o,v=bJ p/\s.heap.get? p=U o/\o.cls=.type "tuple":=by
  intro b;induction b with
  |nil=>exact λqs _ _=>⟨[],trivial,Y,λ_ z=>nomatch z⟩
  |cons v r ih =>
   intro qs f c
   match qs,f with
   |q::qr,f =>
    obtain⟨d,k,l,kf⟩:=ih qr (by simpa using f) λi m u I H=>c (i+1) m u (by simpa using I) (by simpa using H);obtain⟨a,o,p,t,n,rfl,B,G,C,y⟩:=c 0 v q Y rfl;refine⟨.ref p::d,sP B G C Y k,by simp[l],λz hz=>?_⟩;rcases bE.mp hz with rfl|hz
    .obtain⟨J,x,_,_,_,e,j,g,_⟩:=y;cases e;exact⟨_,x,Y,j,g⟩
    .exact kf z hz
 obtain⟨d,k,l,kf⟩:=T b qs f c;refine kat_kind (T:=.type "tuple") k () (λv c=>?_) () h;obtain⟨p,o,rfl,j,g⟩:=kf v c;exact g ▸ (rA j).andThen .now
theorem QP{l:D}{κ:SortKind}{Q:ae->af->Prop}(G:List ae->(Nat->Nat->Bool)->af->Prop) (t:∀R:List ae->af->Prop,(∀d lt a,G d lt a->R d a)->Bf (Bg P w) A.in1 (collect (.ref l)) R E s) (x:∀d lt a,G d lt a->d.length<64/\SO lt d.length) (H:∀d lt a,G d lt a->2<=d.length->∀(h:av) (Q:SortKind->af->Prop),(∀b o,a.heap.get? b=U o->h.get? b=U o)->Q κ { a with heap:=h }->Bf (Bg P w) A.in1.in1 (keyKind' d.toArray) Q (λ_ _=>False) { a with heap:=h }) (M:∀d lt a,G d lt a->∀(h:av) i j C,(∀b o,a.heap.get? b=U o->h.get? b=U o)->i<d.length->j<d.length->i≠j->C (lt i j) { a with heap:=h }->kas_ask P w A.in1.in1 κ d i j C { a with heap:=h }) (fin:∀d lt a,G d lt a->∀(f:av) (p:Array Nat) (c:Nat),(∀b o,a.heap.get? b=U o->f.get? b=U o)->f.get? a.heap.objs.size=U (seqObj "list" (vE d p).toArray c)->PP d.length p->Z1 lt p d.length->Q (.ref a.heap.objs.size) { a with heap:=f }) :
  Bf (Bg P w) A (call (.builtin "sorted") [.ref l]) Q E s:=by
 refine mC kind_sorted rM rN (rO _) ?_;unfold Builtin.«sorted»;refine ba (m:=checkCount "sorted" 1 1 _) (bf ?_);refine ba (t _ λd lt a g=>?_);obtain⟨u,S⟩:=x d lt a g;refine ba (nA ?_ (by rw[bH];lia));have r:(a.heap.push (seqObj "list" d.toArray 0)).get? a.heap.objs.size=U (seqObj "list" d.toArray 0):=bF _ rfl;have n:∀f,Kp a.heap.objs.size (a.heap.push (seqObj "list" d.toArray 0)) f->∀b o,a.heap.get? b=U o->f.get? b=U o:=λf k b o e=>k b o (bW (bQ e)) (bc _ e);refine ba (dD (cK oY ⟨_,r,Y⟩ oz (VG (s:={ a with heap:=a.heap.push (seqObj "list" d.toArray 0) }) r u (κ:=κ) (lt:=lt) (λN f O k q=>?_) (λf i j C k J I v q=>?_) S λf p c k B z y=>?_) (oZ _)))
 .exact H d lt a g N f O (n f k) q
 .exact M d lt a g f i j C (n f k) J I v q
 .exact⟨_,Y,bf ⟨_,Y,fin d lt a g f p c (n f k) B z y⟩⟩
end
def d0:aN:=(("",0),0)
theorem zin(aM:List aN):∃a:List aN,sY aM=a.map (λq=>(zC q.1,V.int q.2))/\(a.map (·.1)).Nodup/\∀p w,(p,w)∈a↔zE aM p=U w:=by
 have h:=kA aM;have:∀(d:List (List aU×V)),(∀kv∈d,∃(p:Pl) (w:Int),kv=(zC p,.int w))->∃a:List aN,d=a.map (λq=>(zC q.1,V.int q.2)):=λd=>by
  induction d with
  |nil=>exact λ_=>⟨[],Y⟩
  |cons kv r ih =>
   intro k;obtain⟨l,e⟩:=ih λz n=>k z (br _ n);obtain⟨p,w,j⟩:=k kv bt;exact⟨(p,w)::l,by rw[bx,<-e,j]⟩
 obtain⟨a,e⟩:=this _ h.2;refine⟨a,e,?_,λp w=>?_⟩
 .have:=h.1;rw[e,dA] at this;refine xZ (f:=zC) ?_;rw[dA];exact this
 .have m:=ue (aM:=aM) (kv:=(zC p,V.int w));constructor
  .intro c;obtain⟨u,t,b,j⟩:=m.mp (by rw[e];exact bB.mpr ⟨_,c,Y⟩);have i:=xi (pE b).1;have g:=V.int.inj (pE b).2;rw[i,g];exact j
  .intro o;have c:=m.mpr ⟨p,w,Y,o⟩;rw[e] at c;obtain⟨q,s,b⟩:=bB.mp c;have i:=xi (pE b).1;have g:=V.int.inj (pE b).2;rw[<-i,<-g];exact s
theorem VO{a:Type}(l:List a)(d:a):(eB l.length).map (λi=>l.getD i d)=l:=by
 apply eX;intro i;rw[bA];by_cases hi:i<l.length
 .rw[lM hi,bb hi];simp[bD,bb hi]
 .rw[cG (by simpa using hi),cG ()];rfl
theorem PP.list(h:PP n p):p.toList.Perm (eB n):=by
 have:=gJ.mp h;simpa using this
theorem PP.lt(h:PP n p):∀i∈p.toList,i<n:=λi a=>by
 have:=h.list.mem_iff.mp a;simpa using this
theorem VP{c:Type}{F:c->c->Bool}{l:List c}{d:c}{n:Nat}(s:PP n p)(q:Z1 (λi j=>F (l.getD i d) (l.getD j d)) p n):(p.toList.map λi=>l.getD i d).Pairwise λa b=>F a b=ah:=by
 rw[gH,eG];intro i j g e f;rw[cg] at g e;have k:=ku g;have h:=ku e;have t:=s.size;have r:=q i j f ();have o:p.toList[i]=gt p i:=by
  rw[cq g] at k;simpa using k
 have m:p.toList[j]=gt p j:=by
  rw[cq e] at h;simpa using h
 rw[o,m];exact r
theorem jr{f e:Type}{F:f->e->Prop}{d:List f}{c:List e}(h:Paired F d c)(a:f)(b:e):∀ {is:List Nat},(∀i∈is,i<d.length)->Paired F (is.map λi=>d.getD i a) (is.map λi=>c.getD i b)
 |[],_=>.nil
 |i::r,hi=>by
  have l:=bL h;have n:=hi i bt;refine .cons ?_ (jr h a b λj m=>hi j (br _ m));show F (d.getD i a) (c.getD i b);have k:=bb n;have g:c[i]?=U c[i]:=bb ();rw[bD,bD,k,g];exact yV h k g
abbrev zhL:RC:=λf H Q=>∃r d c,f=[.ref r]/\H r=U (VN r d)/\H d=U (.dT (sY c))/\(sY c).length<64 /\
 ∀l e a b,aJ H b->H l=ak->b l=U (.lst e)->Paired (PrAt b) e a->tJ a->(∀p w,(p,w)∈a↔zE c p=U w)->Q (.ref l) b
theorem zfp{H:Hp}:∀ {c:List V} {b:List aN},Paired (Y8 H) c (b.map λq=>(zC q.1,V.int q.2))->Paired (PrAt H) c b
 |_,[],h=>by cases h;exact .nil
 |_,q::r,h=>by
  rw[bx] at h;cases h with
  |cons a t=>exact .cons a (zfp t)
section
variable {X:Cx}
theorem zjc{b:St}{H:Hp}{s:af}{v:V}{u:ae}{q:aN}(I:aO X aa b H s)(h:PrAt H v q)(r:aT v u):RvAt s.heap u q:=by
 obtain⟨a,p,rfl,j,i⟩:=h;cases r;obtain⟨_,g,c,o,f,e,n,d⟩:=(show aW X.prog X.w H s.heap a (.tup [.ref p,.int q.2]) from I.hok a _ j);cases c with
 |cons r1 rr =>
  cases rr with
  |cons r2 rn =>
   cases rn;cases r1;obtain⟨t,rfl⟩:=r2;exact⟨a,o,p,t,n,Y,f,e,d,zaV I i⟩
theorem Y9(hc:X.calm=ah)(hu:X.A.units+3<cLine):jZ X (.builtin "sorted") zhL:=by
 intro aa s σ H l M Q I r0 h;obtain⟨r,d,aM,rfl,hr,hd,an,q⟩:=h;obtain⟨u,rfl,ru⟩:=jm r0;cases ru;have hh:X.A.handled=ak:=I.ok.hd hc;obtain⟨its,ei,nd,mi⟩:=zin aM;have li:(sY aM).length=its.length:=by rw[ei,bg]
 have so:=VH nd;have G:∀ {b:af} {f:Hp} {g:List V} {l:List ae},aO X aa σ f b->Paired (PrAt f) g its->aR g l->∀(i:Nat) (q:aN),its[i]?=U q->∃v,l[i]?=U v/\RvAt b.heap v q:=λ{b f g l} x m n i q hq=>by
  have B:=(bn.mp hq).1;have l1:=bL m;obtain⟨y,hy⟩:∃y,g[i]?=U y:=⟨_,bb ()⟩;obtain⟨u,ai,ru⟩:=n.get hy;exact⟨u,ai,zjc x (yV m hy hq) ru⟩
 refine QP (κ:=tuples' ao) (λl O b=>∃f g,aO X aa σ f b/\aJ H f/\Paired (PrAt f) g its/\aR g l/\O=λi j=>yy ((its.map (·.1)).getD i (("",0):Pl)) ((its.map (·.1)).getD j (("",0):Pl)))
  (λR hR=>zck (A:=X.A.in1) hh hr hd () I λb f g M x J m n=>hR M _ b ⟨f,g,x,J,zfp (by rw[<-ei];exact m),n,Y⟩) ?_ ?_ ?_ ?_
 .rintro l O b ⟨f,g,x,J,m,n,rfl⟩;have l1:=bL m;have l2:=n.length;refine⟨(),?_⟩;rw[show l.length=(its.map (·.1)).length by rw[bg];lia];exact so
 .rintro l O b ⟨f,g,x,J,m,n,rfl⟩ h2 h Q' k q';have l1:=bL m;have l2:=n.length;refine zfo (s:={ b with heap:=h }) (qs:=its) () (λi v q hv hq=>?_) () q';obtain⟨v',ag,rr⟩:=G x m n i q hq;rw[hv] at ag;cases ag;exact rr.keep k
 .rintro l O b ⟨f,g,x,J,m,n,rfl⟩ h i j C k B hj al q';have l1:=bL m;have l2:=n.length;have e1:its[i]?=U its[i]:=bb ();have e2:its[j]?=U its[j]:=bb ();obtain⟨v1,g1,r1⟩:=G x m n i _ e1;obtain⟨v2,g2,r2⟩:=G x m n j _ e2;have n1:(its.map (·.1)).getD i (("",0):Pl)=its[i].1:=by rw[bD,bA,e1];rfl
  have n2:(its.map (·.1)).getD j (("",0):Pl)=its[j].1:=by rw[bD,bA,e2];rfl
  have m1:l.getD i cC=v1:=by rw[bD,g1];rfl
  have m2:l.getD j cC=v2:=by rw[bD,g2];rfl
  simp only[n1,n2] at q';have T:=zgV (P:=X.prog) (w:=X.w) (A:=X.A.in1.in1) (E:=λ_ _=>False) (s:={ b with heap:=h }) (Q:=C) (by have e:X.A.in1.in1.units=X.A.units+2:=rfl;lia) (r1.keep k) (r2.keep k) q' λz=>al (by
   have e3:(its.map (·.1))[i]?=U its[i].1:=by rw[bA,e1];rfl
   have e4:(its.map (·.1))[j]?=U its[j].1:=by rw[bA,e2];rfl
   rw[z] at e3;exact(gI (by rw[bg];lia) nd).mp (e3.trans e4.symm))
  rw[<-m1,<-m2] at T;exact T
 .rintro l O b ⟨f,g,x,J,m,n,rfl⟩ h' p c k hD hp hr;have l1:=bL m;have l2:=n.length;have t:PP its.length p:=by rw[show its.length=l.length by lia];exact hp
  have fr:f b.heap.objs.size=ak:=x.hok.fresh (bp _);have sz:=t.size;have pk:=jr m V.non d0 (is:=p.toList) λi B=>by have:=t.lt i B;lia
  have vk:aR (p.toList.map λi=>g.getD i V.non) (vE l p):=jr n V.non cC (is:=p.toList) λi B=>by have:=t.lt i B;lia
  have I2:aO X aa σ (upd f b.heap.objs.size (.lst (p.toList.map λi=>g.getD i V.non))) { b with heap:=h' }:=x.laid (a:=b.heap.objs.size) (o:=.lst (p.toList.map λi=>g.getD i V.non)) (t':=b.toks) k (bp _)
   ⟨by rw[bg,cg];exact bO (by lia:_<=64) (),vE l p,c,vk,hD⟩
  have S2:aJ f (upd f b.heap.objs.size (.lst (p.toList.map λi=>g.getD i V.non))):=sX _ fr;have hn:H b.heap.objs.size=ak:=by
   cases e:H b.heap.objs.size with
   |none=>rfl
   |some o=>rw[J _ _ e] at fr;cases fr
  have N:∀ {M:List V} {ws:List aN},Paired (PrAt f) M ws->Paired (PrAt (upd f b.heap.objs.size (.lst (p.toList.map λi=>g.getD i V.non)))) M ws:=λ{M ws} h=>by
   induction h with
   |nil=>exact .nil
   |cons a _ ih =>
    obtain⟨r,p,e,h1,h2⟩:=a;exact .cons ⟨r,p,e,S2 _ _ h1,S2 _ _ h2⟩ ih
  refine⟨.ref b.heap.objs.size,_,I2,Y,q _ _ (p.toList.map λi=>its.getD i d0) _ (J.trans S2) hn zh (N pk) ?_ λpl wv=>?_⟩
  .have aj:Z1 (λi j=>yy ((its.map (·.1)).getD i (("",0):Pl)) ((its.map (·.1)).getD j (("",0):Pl))) p its.length:=by rw[show its.length=l.length by lia];exact hr
   have pw:=VP (F:=yy) t aj;have eq:(p.toList.map λi=>its.getD i d0).map (·.1)=p.toList.map λi=>(its.map (·.1)).getD i (("",0):Pl):=by
    rw[dA];refine dy λi B=>?_;have B:=t.lt i B;simp[bD,bA,bb B]
   rw[<-eq,gH] at pw;exact pw
  .have pm:(p.toList.map λi=>its.getD i d0).Perm its:=by
    refine(t.list.map _).trans ?_;rw[VO]
   rw[pm.mem_iff];exact mi pl wv
end
end L2
namespace L2
open PySem PySem.Spec PyProof.Rows
end L2
namespace L2
open PySem
structure StOk(n:Nat)(s:Sta):Prop where
 so:xg s.sl
 wo:∀r∈s.wo,tw r.2=ah
 l1:s.sl.length<=n
 l2:s.wo.length<=n
 l3:s.sa.length<=n
theorem StOk.mono(h:StOk n s)(l:n<=m):StOk m s:=⟨h.so,h.wo,bO h.l1 l,bO h.l2 l,bO h.l3 l⟩
theorem KU(h:xg aI)(k:aU){i:Int}(b:tw i=ah):xg (yJ aI k (.int i)):=λa v e=>by
 rw[YZ] at e;by_cases c:a=k
 .rw[ap c] at e;exact⟨i,(bI e).symm,b⟩
 .rw[am c] at e;exact h a v e
theorem xE{P:aN->Prop}{p:Pl}{w:Int}:∀ {l:List aN},(∀r∈l,P r)->zE l p=U w->P (p,w)
 |[],_,h=>by cases h
 |r::t,hp,h=>by
  rw[zE] at h;cases e:zE t p with
  |some w' =>
   rw[e] at h;have:w'=w:=by simpa using h
   subst this;exact xE (λr a=>hp r (br _ a)) e
  |none =>
   rw[e] at h;by_cases c:r.1=p
   .rw[ap c] at h;have:r.2=w:=by simpa using h
    rw[<-c,<-this];exact hp r bt
   .rw[am c] at h;cases h
theorem zfq(h:∀r∈l,tw r.2=ah)(p:Pl):tw ((zE l p).getD 0)=ah:=by
 cases e:zE l p with
 |none=>rfl
 |some w=>exact xE (P:=λr=>tw r.2=ah) h e
mutual
def zjz(P:Pl->Prop):Rw->Prop
 |.give sh e _=>∀c n,rk c e=.ok n->P (sh,n)
 |.iff _ a b=>zfr P a/\zfr P b
 |_=>True
def zfr(P:Pl->Prop):hU->Prop
 |.nil=>True
 |.cons r rs=>zjz P r/\zfr P rs
end
inductive Oc where
 |done (sa:List Int)
 |off (why:Str)
def za4:Er->Str
 |.great=>"great"
 |_=>"nought"
def zio(c:hU)(a:List aN)(d:Oc)(b:List aN):Prop:=match zgR c ⟨[],a,[]⟩ with
 |.go s=>d=.done s.sa/\zfb s.wo b
 |.off=>d=.off "told"/\b=a
 |.er e=>d=.off (za4 e)/\b=a
inductive ziq:List hU->List aN->List Oc->List aN->Prop
 |nil {tab:List aN}:ziq [] tab [] tab
 |cons {d:hU} {ds:List hU} {tab mid out:List aN} {oc:Oc} {ocs:List Oc}:zio d tab oc mid->ziq ds mid ocs out->ziq (d::ds) tab (oc::ocs) out
def Wt:V->PyData
 |.int i=>.int i
 |.str x=>.str x
 |_=>.none
def plV(v:V):Prop:=(∃i,v=.int i)\/∃x,v=.str x/\ca x=ah
def VQ(e:List V):PyData:=.tuple (e.map Wt)
mutual
def rwD:Rw->PyData
 |.take sh e sl=>.tuple [.str "take",.str sh,VQ e,.str sl]
 |.give sh e f=>.tuple [.str "give",.str sh,VQ e,VQ f]
 |.lt sl e=>.tuple [.str "let",.str sl,VQ e]
 |.say e=>.tuple [.str "say",VQ e]
 |.off e=>.tuple [.str "off",VQ e]
 |.iff e a b=>.tuple [.str "if",VQ e,.list (zir a),.list (zir b)]
def zir:hU->List PyData
 |.nil=>[]
 |.cons r rs=>rwD r::zir rs
end
def tmP(e:List V):Prop:=∀v∈e,plV v
mutual
def VR:Rw->Prop
 |.take sh e sl=>ca sh=ah/\tmP e/\ca sl=ah
 |.give sh e f=>ca sh=ah/\tmP e/\tmP f
 |.lt sl e=>ca sl=ah/\tmP e
 |.say e=>tmP e
 |.off e=>tmP e
 |.iff e a b=>tmP e/\Ze a/\Ze b
def Ze:hU->Prop
 |.nil=>True
 |.cons r rs=>VR r/\Ze rs
end
section
variable {K:bw}{H:Hp}{F:D->Prop}
theorem zfs(h:plV v):Dat K H v (Wt v):=by
 rcases h with ⟨i,rfl⟩|⟨x,rfl,_⟩
 .exact .int i
 .exact .str x
theorem zd2:∀ {e:List V},tmP e->tH K H e (e.map Wt)
 |[],_=>.nil
 |v::r,h=>.cons (zfs (h v bt)) (zd2 λu a=>h u (br _ a))
end
theorem za5:∀ {e:List V},tmP e->x9 (e.map Wt)=ah
 |[],_=>by simp[x9]
 |v::r,h=>by
  rw[bx,x9,za5 λu a=>h u (br _ a),Bool.and_true];rcases h v bt with ⟨i,rfl⟩|⟨x,rfl,hx⟩
  .rw[Wt,yq]
  .rw[Wt,yq];exact hx
theorem zcl:∀(e:List V),gq (e.map Wt)=0
 |[]=>by simp[gq]
 |v::r=>by
  rw[bx,gq,zcl r];cases v <;> simp[Wt,mo]
def hU.snoc:hU->Rw->hU
 |.nil,x=>.cons x .nil
 |.cons r rs,x=>.cons r (rs.snoc x)
def hU.app:hU->hU->hU
 |.nil,x=>x
 |.cons r rs,x=>.cons r (rs.app x)
theorem sQ.get{F:D->Prop}{H:Hp}:∀ {r:hU} {a:List V} {i:Nat} {v:V},sQ F H (a.drop i) r->a[i]?=U v->∃x b,r=.cons x b/\pv F H v x/\sQ F H (a.drop (i+1)) b
 |.nil,a,i,v,h,e=>by
  unfold sQ at h;have:=(bn.mp e).1;have:=congrArg fT h;rw[cI] at this;simp at this;lia
 |.cons x b,a,i,v,h,e=>by
  unfold sQ at h;obtain⟨u,l,k,j,g⟩:=h;have c:=(bn.mp e).1;have d:=gR c;rw[k] at d;have f:a[i]=v:=(bn.mp e).2;rw[f] at d;injection d with d1 d2;subst d1 d2;exact⟨x,b,Y,j,g⟩
theorem sQ.none{F:D->Prop}{H:Hp}{a:List V}(h:sQ F H (a.drop a.length) r):r=.nil:=by
 rw[rZ] at h;cases r with
 |nil=>rfl
 |cons x rs =>
  unfold sQ at h;obtain⟨_,_,e,_⟩:=h;cases e
theorem zft(h:qe v)(j:isJ v=ao):bv [v]:=
 ⟨λb=>⟨_,zdT j⟩,λu a=>by rw[bo.mp a];exact h,by simp⟩
theorem Paired.takeP{d c:Type}{F:d->c->Prop}:∀(k:Nat) {a:List d} {b:List c},Paired F a b->Paired F (a.take k) (b.take k)
 |0,_,_,_=>.nil
 |_+1,_,_,.nil=>.nil
 |k+1,_,_,.cons h r=>.cons h (Paired.takeP k r)
theorem Paired.snocP{d c:Type}{F:d->c->Prop}{x:d}{y:c}:∀ {a:List d} {b:List c},Paired F a b->F x y->Paired F (a++[x]) (b++[y])
 |_,_,.nil,h=>.cons h .nil
 |_,_,.cons a r,h=>.cons a (Paired.snocP r h)
theorem Paired.getP{c d:Type}{F:c->d->Prop}{a:List c}{b:List d}{i:Nat}{x:c}(h:Paired F a b)(e:a[i]?=U x):∃y,b[i]?=U y/\F x y:=by
 have f:=(bn.mp e).1;have l:=bL h;exact⟨b[i],bb (),yV h e (bb ())⟩
end L2
namespace L2
open PySem PySem.Spec PyProof.Rows
theorem zis{c:Nat}:∀ {a b r s:List Nat},c ∉ a->c ∉ b->a++c::r=b++c::s->a=b/\r=s
 |[],[],r,s,_,_,h=>by simpa using h
 |[],y::b,r,s,_,hb,h=>by
  simp only[gu,dY,fj] at h;exact absurd h.1 (λz=>hb (by rw[z];exact bt))
 |x::a,[],r,s,ha,_,h=>by
  simp only[gu,dY,fj] at h;exact absurd h.1.symm (λz=>ha (by rw[z];exact bt))
 |x::a,y::b,r,s,ha,hb,h=>by
  simp only[dY,fj] at h;obtain⟨e,d⟩:=zis (λz=>ha (br _ z)) (λz=>hb (br _ z)) h.2;exact⟨by rw[h.1,e],d⟩
section
variable {prog:aq}{w:au}{A:aw}{E:ae->af->Prop}{s:af}
theorem za6{l:D}{items:Array ae}{n:Nat}{k:Int}{t:Tok}{v:ae}{Q:Unit->af->Prop}(c:s.heap.get? l=U { cls:=.type "list",data:=.seq items n }) (e:k<0) (m:-(items.size:Int)<=k) (a:-(2^63)<=k) (g:Q PUnit.unit { s with heap:=s.heap.update l (dt (·.setIfInBounds (k+items.size).toNat v)) }) :
  Bf (Bg prog w) A (setItem (.ref l) (.int k t) v) Q E s:=by
 have d:s.heap.IsList l items:=⟨_,c,Y,n,Y⟩;unfold setItem
 try with_reducible refine dD ?_
 first|refine ba (bf ?_)|skip
 refine ba (mI d.typeIs () ?_);refine ba (cE (name:=bh "__setitem__") d.typeIs iN
  (cK iN d.typeIs entry_list_setitem ?_ (args_list_setitem _ _ _)))
 show Bf _ _ (lR (.int k t) >>= _) _ _ s;refine ba (nE (fitsIndex_neg e a) ?_);clear a;have b:=rH e m;have h:items[(k+items.size).toNat]?=U (items[(k+items.size).toNat]'()):=cq ();obtain⟨j,rfl⟩:∃j:Nat,k=Int.negSucc j:=by
  cases k with
  |ofNat n=>exact absurd e (sG.mpr (Int.ofNat_nonneg n))
  |negSucc n=>exact⟨n,Y⟩
 show Bf _ _ ((iD (.ref l) >>= λf=>pure ((seqIndex? (Int.negSucc j) f.size).bind λi=>f[i]?.map (i,·))) >>= _) _ _ s;refine ba (ba ?_);show Bf _ _ (seqItems? (.ref l) >>= _) _ _ s;refine ba (fH c Y (bf (bf ?_)));rw[b];simp only[Option.bind_some,h,ig];refine ba (wpAny_setSeqItemAt c Y ?_)
 first
  |exact ba (bf (bf ⟨.none,rfl,bf g⟩))
  |exact bf ⟨.none,rfl,bf g⟩
theorem Wu{l:D}{items:Array ae}{n j:Nat}{k:Int}{t:Tok}{v:ae}{Q:Unit->af->Prop}(e:s.heap.get? l=U { cls:=.type "list",data:=.seq items n }) (h:0<=k) (a:k<2^63) (b:k.toNat=j) (i:j<items.size) (g:Q PUnit.unit { s with heap:=s.heap.update l (dt (·.setIfInBounds j v)) }) :
  Bf (Bg prog w) A (setItem (.ref l) (.int k t) v) Q E s:=by
 have f:s.heap.IsList l items:=⟨_,e,Y,n,Y⟩;unfold setItem
 try with_reducible refine dD ?_
 first|refine ba (bf ?_)|skip
 refine ba (mI f.typeIs () ?_);refine ba (cE (name:=bh "__setitem__") f.typeIs iN
  (cK iN f.typeIs entry_list_setitem ?_ (args_list_setitem _ _ _)))
 show Bf _ _ (lR (.int k t) >>= _) _ _ s;refine ba (nE (fitsIndex_of h a) ?_);clear a;obtain⟨c,rfl⟩:=eU h;have b:c=j:=b;subst b;have d:items[c]?=U items[c]:=cq i;show Bf _ _ ((seqItemAt l c >>= λr=>pure (r.map (c,·))) >>= _) _ _ s;refine ba (ba (wpAny_seqItemAt e Y (bf ?_)));rw[d];refine ba (wpAny_setSeqItemAt e Y ?_)
 first
  |exact ba (bf (bf ⟨.none,rfl,bf g⟩))
  |exact bf ⟨.none,rfl,bf g⟩
end
def VS(g e f:TE):TS:=λl b H=>f b H λv k=>g b k λx h=>e b h λy d=>∃a c i j,x=.ref a/\y=.int i/\d a=U (.lst c)/\ixN c.length i=U j/\(-1000<=i/\i<=1000)/\l.nx b (upd d a (.lst (c.set j v)))
theorem VT{v:V}{u:ae}(r:aT v u):∀ {b:List V} {c:List ae},aR b c->∀j:Nat,aR (b.set j v) (c.set j u)
 |_,_,.nil,_=>.nil
 |_,_,.cons _ t,0=>.cons r t
 |_,_,.cons a t,j+1=>.cons a (VT r t j)
section
variable {X:Cx}{o i value:ay}{pos pos':Pos}{td ty tv:TE}
theorem Xa(Q:PE X o td)(T:PE X i ty)(N:PE X value tv)(O:swapsWith value (U (.Subscript o i pos')) pos.line X.env=pure ao) :
  PS X (.Assign [.Subscript o i pos'] value pos) (VS td ty tv):=by
 intro d s c H Bp I h;refine nQ (dl (N d s c H _ I h) λr w ⟨v,H1,I1,C,M⟩=>dl (Q d w c H1 _ I1 M) λu q ⟨x,H2,I2,B,J⟩=>dl (T d q c H2 _ I2 J) ?_) O;rintro iv f ⟨y,H3,p,A,a,xs,k,j,ex,ey,m,b,hk,G⟩;subst ex ey;obtain rfl:u=bJ a:=B;obtain⟨t,rfl⟩:=A;obtain⟨z,g,n,E,l,e⟩:=p.lstM m;have fin:SP X d Bp .next { f with heap:=f.heap.update a (dt (·.setIfInBounds j r)) }:=⟨c,_,p.lset (its':=g.set j r) (t':=f.toks) m e (by simp) (VT C E _) (by rw[fm];exact z),G⟩
 unfold ixN at b;by_cases h0:0<=k
 .rw[ap h0] at b;split at b
  .rename_i h1;cases b;exact Wu e h0 () Y (by rw[bG,<-l];lia) fin
  .cases b
 .rw[am h0] at b;split at b
  .rename_i h1;cases b;refine za6 e () (by rw[bG,<-l];exact h1) () ?_;rw[bG,<-l];exact fin
  .cases b
end
section
variable {X:Cx}
abbrev zcm(K:bw):R2:=λx y H Q=>∃a b c,x=.ref a/\y=.ref b/\aQ K H a c/\aQ K H b []/\Q (.bl (!decide (c=[]))) H
theorem za7(p:X.A.units+64<cLine):tV X (Bi .NotEq) (zcm X.K):=by
 intro t s k H x y v u Q I f d h;obtain⟨a,b,c,rfl,rfl,i,g,q⟩:=h;by_cases e:c=[]
 .subst e;exact zij p t s k H _ _ v u Q I f d ⟨a,b,[],[],Y,Y,i,g,⟨Y,Y,Y⟩,q⟩
 .cases f;cases d;obtain⟨A,m,o,_⟩:=I.list i;obtain⟨w,l,n,_⟩:=I.list g;cases l;have j:=m.length;have r:c.length≠0:=λz=>e (f9 z);rw[Bk e] at q;exact PySem.SeqAt.RcNeAt.lists_lengths o.isList n.isList (by simp;intro z;rw[z] at j;exact r j) () X.prog X.w X.xe _ ⟨.bl ah,H,I,Y,q⟩
end
mutual
inductive zfu (H:Hp):V->PyData->Prop
 |int (i:Int):zfu H (.int i) (.int i)
 |str (x:Str):zfu H (.str x) (.str x)
 |lst {a:D} {xs:List V} {ds:List PyData}:H a=U (.lst xs)->za8 H xs ds->zfu H (.ref a) (.list ds)
 |tup {a:D} {xs:List V} {ds:List PyData}:H a=U (.tup xs)->za8 H xs ds->zfu H (.ref a) (.tuple ds)
inductive za8 (H:Hp):List V->List PyData->Prop
 |nil:za8 H [] []
 |cons {x:V} {d:PyData} {xs:List V} {ds:List PyData}:zfu H x d->za8 H xs ds->za8 H (x::xs) (d::ds)
end
end L2
namespace L2
open PySem
abbrev za9:RM:=zcV
end L2
namespace L2
open PySem PySem.Spec PyProof.Rows
section
variable {X:Cx}
open Classical in
noncomputable def zjH(K:PySem.W.Frag)(H:Hp)(d:PyData)(u:ae):Bool:=decide (∃x,aT x u/\Dat K H x d)
open Classical in
end
def Cb(i:Int):Prop:=dL i<=1048576
theorem Cb.of{i:Int}(h:i.natAbs<2^64):Cb i:=bO (intBits_le_iff.mpr h) ()
def Cw(i:Int):Prop:=dL i<=4000000
theorem Cb.w{i:Int}(h:Cb i):Cw i:=bO h ()
theorem Cw.div{i k:Int}(h:Cw i):Cw (i/k):=intBits_le_of_natAbs (Int.natAbs_ediv_le_natAbs i k) h
def CMulC(i j:Int):Prop:=Cw i/\Cw j
theorem CMulC.ok{i j:Int}(h:CMulC i j):IntMulOk i j:=by
 unfold IntMulOk;have b:dL i<=4000000:=h.1;have a:dL j<=4000000:=h.2;have e:oC ((dL i:Int)+(dL j:Int))=ao:=by
  unfold oC;rw[decide_eq_false_iff_not];have:(bitsLine:Int)=134217728:=by lia
  lia
 rw[e];simp
section
variable {X:Cx}
theorem zgW:tV X (binaryOp .Mult) (rI CMulC λi j=>.int (i*j)):=opI λ_ _ _ _ _ _ _ a q=>mul_int q a.ok
end
open Att PySem.W PySem.Calls in
theorem zfv{l:pO}{n k:Nat}{q:aq}{g:List Str}{XP:(Str->Option ae)->av->Prop}{YP:au->av->Prop}{d:DefRec}{K:Params->bw}{CX:au->CXT}{sp:au->Sp}{x:Str}
  (hn:l.most=U n) (J:n<=Bb) (N:d.params.defaults=[]) (hr:sV k callerA) (hY:∀(w:au) (h:av),YP w h->(K w.params).In h) (F:∀(w:au) (p:Str->Option ae) (C:D) (h:av),(K w.params).In h->h.Ns Bd p->p d.name=U (.ref C) ->
   ∃T:Bc,(∀(s:af) (u:ae),BindsTo s T ⟨[u],[]⟩ [(x,u)]) /\
    ∀b:av,(K w.params).In b->b.Ns Bd p->hZ l.prog w (K w.params) p b (CX w) k C T [x] (sp w)) (I:∀(w:au) (H:Hp) (a:D) (m:List Int),m.length<=n->(∀i∈m,Cb i)->zb6 H->aQ (K w.params) H a (m.map V.int)->sp w [.ref a] H (λv _=>v=.bl ah) λ_ _ _=>False) (Q:∀(w:au) (H:Hp) (s:af) (e:ae) (B:af),CX w [] H s (λ_ _ _=>False) e B->False) :
  sK q g XP YP l.row.toRowW d [] (λf vs=>mK f vs):=by
 intro w ag t p mb G Bl C o pm cd ar dV kV ho hd an hD M hg ai aa as y A aj E al;obtain rfl:dV=.none:=Dflts.none hD N;obtain rfl:kV=.none:=Dflts.noKw hD;obtain⟨a,vs,m,rfl,rfl,z,j,c⟩:=KD hn y E;have hb:∀i∈m,Cb i:=λi hi=>intBits_le_of_layable (layable_of_mem (lay0_int (layableW_item (layableW_arg A _ bt) _ (bB.mpr ⟨i,hi,Y⟩))) bt);have KX:=hY w _ Bl;obtain⟨T,O,hF⟩:=F w p C _ KX G.T.g M;refine enter_call (gj (zaL KX G.T.g G.T.b G.T.builtins G.T.nolimit hg z j (bO c J) hr hF O (λH hO hS=>I w H a m c hb hO hS) λH e B=>Q w H t e B) λr B hq=>?_);obtain⟨rfl,h2,h3,h4⟩:=hq;exact⟨.inl ⟨.bool ah,.bool ah,[],Y,λ_=>rfl,.bool ah,KG l _,λ_=>⟨fP,λ_ hm=>(nomatch hm)⟩⟩,h2,h3,h4⟩
theorem walk_ofXB{l:pO}{n k:Nat}{q:aq}{c:List Str}{N:(Str->Option ae)->av->Prop}{t:au->av->Prop}{d:DefRec}{K:Params->bw}{sp:bw->Sp}{x:Str}
  (C:l.most=U n) (m:n<=Bb) (o:d.params.defaults=[]) (B:sV k callerA) (G:∀(w:au) (h:av),t w h->(K w.params).In h) (F:∀(w:au) (g:Str->Option ae) (r:D) (h:av),(K w.params).In h->h.Ns Bd g->g d.name=U (.ref r) ->
   ∃p:Bc,(∀(s:af) (u:ae),BindsTo s p ⟨[u],[]⟩ [(x,u)]) /\
    ∀b:av,(K w.params).In b->b.Ns Bd g->hZ l.prog w (K w.params) g b (ud l.prog w) k r p [x] (sp (K w.params))) (j:∀(K:bw) (H:Hp) (a:D) (e:List Int),e.length<=n->(∀i∈e,Cb i)->zb6 H->aQ K H a (e.map V.int)->sp K [.ref a] H (λv _=>v=.bl ah) λ_ _ _=>False) :
  sK q c N t l.row.toRowW d [] (λf A=>mK f A) :=
 zfv (K:=K) (CX:=λw=>ud l.prog w) (sp:=λw=>sp (K w.params)) C m o B G F (λw H a e M E J I=>j (K w.params) H a e M E J I) λ_ _ _ _ _ z=>by
  obtain⟨_,_,_,_,_,_,_,_,_,y⟩:=z;exact y
section
variable {K:Type} [DecidableEq K]
def yg(a:List (K×D×ae))(k:K):List (K×D×ae):=a.filter λx=>decide (x.1≠k)
theorem zcn:∀ {xs:List (K×D×ae)} {k:K},k ∉ xs.map (·.1)->yg xs k=xs:=λ{xs k} h=>pF.mpr λx a=>Bj λe=>h (bB.mpr ⟨x,a,e⟩)
theorem zfw:∀ {a:List (K×D×ae)} {j:Nat} {k:K} {p:D×ae},(a.map (·.1)).Nodup->a[j]?=U (k,p)->a.eraseIdx j=yg a k
 |[],j,k,p,_,h=>by simp at h
 |x::r,0,k,p,n,h=>by
  rw[bx,bX] at n;simp only[eT,fR] at h;subst h;show r=List.filter _ ((k,p)::r);rw[fV (by simp)];exact(zcn n.1).symm
 |x::r,j+1,k,p,n,h=>by
  rw[bx,bX] at n;simp only[ir] at h;have m:k∈r.map (·.1):=bB.mpr ⟨(k,p),bN h,Y⟩;have b:x.1≠k:=λe=>n.1 (e ▸ m);show x::r.eraseIdx j=List.filter _ (x::r);rw[fW (by simp[b]),zfw n.2 h];rfl
end
theorem X4{b c:Type}(f:b->c):∀(l:List b) (j:Nat),(l.map f).eraseIdx j=(l.eraseIdx j).map f
 |[],_=>rfl
 |_::_,0=>rfl
 |a::l,j+1=>by rw[bx,ie,ie,bx,X4 f l j]
theorem KT.dropT{H:Hp}(r:KT H aI xs)(k:List aU):KT H (yz aI k) (yg xs k):=by
 induction r with
 |nil=>exact .nil
 |@cons p q ps qs h t ih =>
  unfold yz yg;by_cases e:p.1=k
  .rw[fV (by simp[e]),fV (by simp[<-h.1,e])];exact ih
  .rw[fW (by simp[e]),fW (by simp[<-h.1,e])];exact .cons h ih
section
variable {prog:aq}{w:au}{K:Type} [DecidableEq K]{knd:HeapKind prog w K}{A:aw}{E:ae->af->Prop}{s:af}{d a:D}{xs:List (K×D×ae)}{k:K}
theorem QQ{Q:Option DictEntry->af->Prop}(v:knd.room A)(b:knd.is s.heap k a)(G:s.heap.DictOfH knd d xs)(n:atKey xs k=U p) (c:∀e:DictEntry,e.val=p.2->∀u,u.DictOfH knd d (yg xs k)->cN d s.heap u->Q (U e) { s with heap:=u,toks:=s.toks+knd.draws k }) (C:xs.length<=Bb) :
  Bf (Bg prog w) A (oS d (.ref a)) Q E s:=by
 obtain⟨o,y,J,g,I,f,m,h,i⟩:=G;have H:y.size=xs.length:=oE m;unfold oS
 try with_reducible refine dD ?_
 refine ba (knd.pyHash v b ?_);refine ba (wpAny_dictFind_heap (s:={ s with toks:=s.toks+knd.draws k }) v b g f m h i ?_ ?_)
 .intro r;rw[atKey_none_of_get r] at n;cases n
 .intro j q t;have z:=atKey_of_get i t;rw[n] at z;cases z;refine ba (dQ (s:={ s with toks:=s.toks+knd.draws k }) g f ?_);rw[entry_at m j,t];refine ba (oU (hz:=by lia) (s:={ s with toks:=s.toks+knd.draws k }) g f (bf (c (entryOfKey knd (k,p)) rfl _ ⟨_,_,J+1,eL _ g (pG (gK f _)),I.mapDictKeys _,gK f _,?_,?_,?_⟩ (cX ..))))
  .rw[<-zfw i t,<-X4,<-m];obtain⟨l⟩:=y;simp
  .intro x B;exact knd.keeps (h x (b8.mp B).1) g f (cX ..)
  .exact iu (gb _ cY) i
theorem zco :MeetsIn prog w (Builtin.«dict.pop» ⟨[.ref d,.ref a],[]⟩) (λA R s=>knd.room A.in1/\∃k xs p,knd.is s.heap k a/\s.heap.DictOfH knd d xs/\xs.length<=Bb/\atKey xs k=U p /\
   ∀c,c.DictOfH knd d (yg xs k)->cN d s.heap c->R (.ok (.ret p.2)) { s with heap:=c,toks:=s.toks+knd.draws k }):=
 .of_wp λA R s ⟨t,k,xs,p,b,i,q,l,h⟩=>by
  unfold Builtin.«dict.pop»;refine ba ?_;unfold lW;refine ba (fB i.typeIs ?_);show Bf _ _ (pure (d,bJ a,ak)) _ _ s;refine bf ?_;have n:(keyPart (bJ a)).isSome=ao:=rfl;simp only[n,cP,if_false];obtain⟨o,G,J,u,I,B,y,v,H⟩:=id i;refine ba (dQ u B ?_);refine ba (bf ?_);have m:G.isEmpty=ao:=by
   have j:=oE y;cases xs with
   |nil=>simp[atKey] at l
   |cons x r =>
    rw[Array.isEmpty_eq_false_iff];intro z;rw[z] at j;simp at j
  simp only[m,cP,if_false];refine ba (QQ t b i l (λe C c g f=>?_) q);simp only[pW,cP,if_false];exact ba (nu (bf ⟨e.val,Y,by rw[C];exact h c g f⟩))
theorem WW{c:ae}{Q:ae->af->Prop}(u:knd.room A)(b:knd.is s.heap k a)(B:s.heap.DictOfH knd d xs) (I:∀p,atKey xs k=U p->Q p.2 { s with toks:=s.toks+knd.draws k }) (H:atKey xs k=ak->∀r,r.DictOfH knd d (storedH xs k a c)->cN d s.heap r->Q c { s with heap:=r,toks:=s.toks+knd.draws k }) (z:xs.length<=Bb) :
  Bf (Bg prog w) A (dictSetDefault d (.ref a) c) Q E s:=by
 obtain⟨o,J,M,g,G,f,m,l,q⟩:=B;have C:J.size=xs.length:=oE m;unfold dictSetDefault
 try with_reducible refine dD ?_
 refine ba (knd.pyHash u b ?_);refine ba (wpAny_dictFind_heap (s:={ s with toks:=s.toks+knd.draws k }) u b g f m l q ?_ ?_)
 .intro i;have h:k ∉ xs.map (·.1):=not_mem_keys_of_get i;have n:=atKey_none_of_get i;refine ba (lE (ba (oU (hz:=by lia) (s:={ s with toks:=s.toks+knd.draws k }) g f (bf (H n _ ⟨_,_,M+1,eL _ g (pG (gK f _)),
   G.mapDictKeys _,gK f _,?_,?_,?_⟩ (cX ..))))))
  .rw[storedH_new n];simp[m,entryOfKey]
  .rw[storedH_new n];intro x hx;rcases bu.mp hx with hx|hx
   .exact knd.keeps (l x hx) g f (cX ..)
   .simp only[bo] at hx;subst hx;exact knd.keeps b g f (cX ..)
  .rw[storedH_new n];rw[bR,cQ];refine⟨q,by simp,?_⟩;intro x hx y t;simp only[bx,ot,bo] at t;subst t;exact λe=>h (e ▸ hx)
 .intro j p v;refine ba (dQ (s:={ s with toks:=s.toks+knd.draws k }) g f ?_);rw[entry_at m j,v];exact ba (lE (bf (I p (atKey_of_get q v))))
theorem JS(m:(d==sysModules)=ao)(dflt:ae):MeetsIn prog w (Builtin.«dict.setdefault» ⟨[.ref d,.ref a,dflt],[]⟩) (λA R s=>knd.room A.in1/\∃k xs,knd.is s.heap k a/\s.heap.DictOfH knd d xs/\xs.length<=Bb /\
   (∀p,atKey xs k=U p->R (.ok (.ret p.2)) { s with toks:=s.toks+knd.draws k }) /\
   (atKey xs k=ak->∀c,c.DictOfH knd d (storedH xs k a dflt)->cN d s.heap c->R (.ok (.ret dflt)) { s with heap:=c,toks:=s.toks+knd.draws k })):=
 .of_wp λA R s ⟨i,k,xs,b,g,h,o,n⟩=>by
  unfold Builtin.«dict.setdefault»;refine ba ?_;unfold lW;refine ba (fB g.typeIs ?_);show Bf _ _ (pure (d,bJ a,U dflt)) _ _ s;refine bf ?_;show Bf _ _ (if (d==sysModules)=ah then _ else (dictSetDefault d (.ref a) dflt >>= _)) _ _ s;rw[am (by rw[m];exact bM)];exact ba (WW i b g (λp j=>bf ⟨_,Y,o p j⟩) (λl c f e=>bf ⟨dflt,Y,n l c f e⟩) h)
end
section
variable {X:Cx}{aa:List (D×Obj)}{σ:St}{H:Hp}{s:af}{a b:D}{aI:List (List aU×V)}{k:List aU}{A:aw}{E:ae->af->Prop}
theorem zit{Q:ae->af->Prop}(x:A.units+1<cLine)(I:aO X aa σ H s)(e:H a=U (.dT aI))(eb:H b=U (.tup (k.map kV)))(l:yf aI k=U v) (h:∀f m,aO X aa σ (upd H a (.dT (yz aI k))) m->aT v f->Q f m):Bf (Bg X.prog X.w) A (call (.builtin "dict.pop") [.ref a,.ref b]) Q E s:=by
 obtain⟨z,C,j,d,t⟩:=zaH I.hok e;have u:j.length<=Bb:=by rw[<-bL d];exact z
 have n:=d.val k;rw[l] at n;obtain⟨f,w,g⟩:=tK.some_of n;obtain⟨p,B,rfl⟩:=b7.mp w;refine iR eK t.typeIs iA (m5 _ _) (zco (knd:=tupleKind (yE X.prog X.w))) ⟨dU x,k,j,p,kY I.hok eb,t,u,B,λh' i y=>h _ _ ?_ g⟩;obtain⟨q,O,T,o,N,M,J,_,G⟩:=i;refine ZQ I (by rw[e];exact eN) y ⟨q,o⟩ ⟨bO (zaG aI k) z,C,_,(d.dropT k).keeps λc ys r=>?_,q,O,T,o,N,M,J,G⟩;rw[zi (zM r e ())];exact r
theorem zd3{Q:ae->af->Prop}(C:A.units+1<cLine)(I:aO X aa σ H s)(e:H a=U (.dT aI))(w:H b=U (.tup (k.map kV)))(y:aT d r)(hl:aI.length<Bb) (O:∀v n i,yf aI k=U v->aO X aa σ H i->aT v n->Q n i) (N:∀i,yf aI k=ak->aO X aa σ (upd H a (.dT (yJ aI k d))) i->Q r i):Bf (Bg X.prog X.w) A (call (.builtin "dict.setdefault") [.ref a,.ref b,r]) Q E s:=by
 obtain⟨z,t,m,g,x⟩:=zaH I.hok e;have B:m.length<=Bb:=by rw[<-bL g];exact z
 have f:=g.val k;refine iR lB x.typeIs PySem.F.entry_dict_setdefault (PySem.F.args_dict_setdefault_3 _ _ _) (JS (knd:=tupleKind (yE X.prog X.w)) t r) ⟨dU C,k,m,kY I.hok w,x,B,λp J=>?_,λM h' l G=>?_⟩
 .rw[J] at f;cases h:yf aI k with
  |none=>rw[h] at f;exact f.elim
  |some v=>rw[h] at f;exact O v _ _ h (I.tok _) f
 .rw[M] at f;have h:yf aI k=ak:=by
   cases h:yf aI k with
   |none=>rfl
   |some v=>rw[h] at f;exact f.elim
  refine N _ h ?_;obtain⟨q,es,ep,o,g2,g3,g4,_,T⟩:=l;have j:(yJ aI k d).length<=Bb:=by have:=wf aI k d;lia
  refine ZQ I (by rw[e];exact eN) G ⟨q,o⟩ ⟨j,t,_,(g.put k w y).keeps λc ys u=>?_,q,es,ep,o,g2,g3,g4,T⟩;rw[zi (zM u e ())];exact u
end
def zfx(h g:TE):TE:=λe H Q=>h e H λx f=>∃a,x=.ref a/\IsD f a/\g e f λy d=>∃c k b v,d a=U (.dT c)/\y=.ref b/\d b=U (.tup (k.map kV))/\yf c k=U v/\Q v (upd d a (.dT (yz c k)))
def zfy(i g h:TE):TE:=λe H Q=>i e H λx f=>∃a,x=.ref a/\IsD f a/\g e f λy j=>h e j λz d=>∃c k b,d a=U (.dT c)/\y=.ref b/\d b=U (.tup (k.map kV))/\c.length<Bb /\
 (∀v,yf c k=U v->Q v d)/\(yf c k=ak->Q z (upd d a (.dT (yJ c k z))))
section
variable {X:Cx}{o e f:ay}{sR sZ:Pos}{td ty tx:TE}
theorem zfz(B:X.A.units+1<cLine)(C:PE X o td)(E:PE X e ty)(m:M1 X o "pop" sR e sZ):PE X (.Call (.Attribute o "pop" sR) [e] [] sZ) (zfx td ty):=by
 intro i s g H Q I h;refine gE m.base m.few m.line dW eK iT (dl (C i s g H _ I h) ?_);rintro u q ⟨x,H1,j,t,a,J,d,z⟩;subst J;obtain rfl:u=bJ a:=t;obtain⟨p,n,_⟩:=XY j d;refine⟨p,n,?_⟩;rw[m.trees];refine dh Y (dX (cR (dl (E i q g H1 _ j z) λA s2 ⟨y,H2,T,r,aI,k,b,v,N,G,M,l,w⟩=>eW ?_)));subst G;cases (show A=bJ b from r);exact zit B T N M l λw' s3 O c=>⟨v,_,O,c,w⟩
theorem zfA(O:X.A.units+1<cLine)(T:PE X o td)(he:PE X e ty)(hf:PE X f tx)(m:M2 X o "setdefault" sR e f sZ):PE X (.Call (.Attribute o "setdefault" sR) [e,f] [] sZ) (zfy td ty tx):=by
 intro i s c H Q I h;refine gE m.base m.few m.line dW lB PySem.F.type_dict_setdefault (dl (T i s c H _ I h) ?_);rintro u w ⟨x,H1,n,B,a,ex,d,J⟩;subst ex;obtain rfl:u=bJ a:=B;obtain⟨q,p,_⟩:=XY n d;refine⟨q,p,?_⟩;rw[m.trees];refine dh Y (dX (cR (dl (he i w c H1 _ n J) λM t ⟨y,H2,I2,A,G⟩ =>
  cR (dl (hf i t c H2 _ I2 G) λfv s3 ⟨z,H3,I3,l,aI,k,b,ea,ey,eb,hl,E,C⟩=>eW ?_))))
 subst ey;cases (show M=bJ b from A);exact zd3 O I3 ea eb l hl (λv w' r N j g=>⟨v,_,j,g,E v N⟩) λr hn j=>⟨z,_,j,l,C hn⟩
end
abbrev Zf:RM:=λx b H Q=>∃(l:D) (a:List V) (k:Nat) (y:V),x=.ref l/\b=[.int k,y]/\H l=U (.lst a)/\k<=a.length/\a.length<1000000/\Q .non (upd H l (.lst (a.take k++y::a.drop k)))
abbrev jt:RM:=λx b H Q=>∃(l:D) (a:List Int) (i:Int),x=.ref l/\b=[.int i]/\H l=U (.lst (a.map V.int))/\i∈a/\Q .non (upd H l (.lst ((a.erase i).map V.int)))
theorem aR.takeV:∀(k:Nat) {a:List V} {b:List ae},aR a b->aR (a.take k) (b.take k)
 |0,_,_,_=>by rw[List.take_zero,List.take_zero];exact .nil
 |_+1,_,_,.nil=>.nil
 |k+1,_,_,.cons h r=>.cons h (aR.takeV k r)
theorem aR.dropV:∀(k:Nat) {a:List V} {b:List ae},aR a b->aR (a.drop k) (b.drop k)
 |0,_,_,h=>h
 |_+1,_,_,.nil=>.nil
 |k+1,_,_,.cons _ r=>aR.dropV k r
section
variable {X:Cx}
theorem KW:MtM X "list.insert" Zf:=by
 intro O s w H x B v C Q I f g h;obtain⟨l,A,k,y,rfl,rfl,d,J,E,q⟩:=h;cases f;cases g with
 |cons r1 rr =>
  obtain⟨u,rfl,j⟩:=(show aR [y] _ from rr).one;obtain⟨t,rfl⟩:=r1;obtain⟨z,a,n,r,G,e⟩:=I.lstM d;have N:(1000000:Nat)<Bb:=by rw[bH];decide
  obtain⟨i,c⟩:∃i:Int,i=k:=⟨_,Y⟩;rw[<-c];have p:¬ (!Builtin.List.listFitsIndex i)=ah:=by rw[fitsIndex_both () ()];exact bM
  have m:a.toArray.size<=Bb:=by rw[bG];lia
  have M:=AutoSeq1.list_insert_list_int_val_1 l a.toArray n i t u p m;refine iI F.slot_list_insert ⟨_,e,Y⟩ F.entry_list_insert (F.args_list_insert_3 _ _ _) M ⟨e,?_⟩;refine⟨.non,_,I.lset (its':=a.take k++u::a.drop k) d e ?_ ((r.takeV k).append (.cons j (r.dropV k))) ?_,Y,q⟩
  .have b:k<=a.length:=by lia
   subst c;have o:¬ ((k:Int)<0):=by lia
   simp[dI b,o];rw[cL (by rw[cI];lia)]
  .rw[bC,bU,cB,cI];lia
theorem zdb:∀ {b:List Int} {a:List ae},aR (b.map V.int) a->∀(m:Nat) (v:ae),a[m]?=U v->∃i t,b[m]?=U i/\v=.int i t
 |[],_,.nil,m,v,h=>by simp at h
 |i::b,_,.cons h r,0,v,e=>by
  simp only[eT,fR] at e;subst e;obtain⟨t,rfl⟩:=h;exact⟨i,t,Y,Y⟩
 |i::b,_,.cons h r,m+1,v,e=>by simpa using zdb r m v (by simpa using e)
def isI(k:Int):ae->Bool
 |.int a _=>a==k
 |_=>ao
theorem X5:MtM X "list.remove" jt:=by
 intro aa s N H x O v T Q I w A h;obtain⟨l,a,i,rfl,rfl,j,J,q⟩:=h;cases w;obtain⟨u,rfl,B⟩:=A.one;obtain⟨t,rfl⟩:=B;obtain⟨z,b,n,r,E,e⟩:=I.lstM j;rw[bg] at E z;have G:a.idxOf i<a.length:=List.idxOf_lt_length_iff.mpr J;have gt:∀m (c:m<b.toArray.size),∃(d:m<a.length) (t':Tok),b.toArray[m]=.int a[m] t':=λm c=>by
  rw[bG] at c;obtain⟨i',t',o,d⟩:=zdb r m b[m] (bb c);have k:m<a.length:=by lia
  rw[bb k] at o;refine⟨k,t',?_⟩;rw[bI o,<-d];simp
 refine iI F.slot_list_remove ⟨_,e,Y⟩ F.entry_list_remove (F.args_list_remove_2 _ _) (MeetsSeq.list_remove l b.toArray n (.int i t) (isI i) (λy C=>?_) (a.idxOf i) (by rw[bG];lia) ?_ (λm c g=>?_) (by rw[bG];lia)) ⟨e,?_⟩
 .obtain⟨m,c,rfl⟩:=Array.mem_iff_getElem.mp C;obtain⟨d,t',f⟩:=gt m c;rw[f];exact MeetsSeq.EqGives.int _ _ _ _
 .obtain⟨d,t',f⟩:=gt (a.idxOf i) (by rw[bG];lia);rw[f];show (a[a.idxOf i]==i)=ah;rw[List.getElem_idxOf G];exact beq_self_eq_true i
 .obtain⟨d,t',f⟩:=gt m c;rw[f];show (a[m]==i)=ao;exact List.not_of_lt_findIdx (p:=λy=>y==i) (xs:=a) (i:=m) g
 .have M:a.erase i=a.eraseIdx (a.idxOf i):=List.erase_eq_eraseIdx_of_idxOf rfl;rw[M] at q;refine⟨.non,_,I.lset (its':=b.eraseIdx (a.idxOf i)) j e ?_ (by rw[<-X4];exact r.eraseIdx _) ?_,Y,q⟩
  .show b.toArray.eraseIdxIfInBounds _=_;rw[iJ]
  .rw[bg];have:=KB a (a.idxOf i);lia
end
def zcp(H:Hp)(y:V)(a:List aU×V):Prop:=∃p,y=.ref p/\H p=U (.tup (a.1.map kV))
abbrev zhM:RC:=λd H Q=>∃a c,d=[.ref a]/\H a=U (.dT c)/\∀l b,H l=ak->Paired (zcp H) b c->Q (.ref l) (upd H l (.lst b))
section
variable {X:Cx}
theorem Wv{H:Hp}{es:Array DictEntry}:∀(b:List (List aU×V)) (a:List ae) (j:Nat),a.length=b.length->(∀i v,a[i]?=U v->∃e,es[j+i]?=U e/\v=e.key) ->
  (∀(i:Nat) (d:DictEntry) (kv:List aU×V),es[j+i]?=U d->b[i]?=U kv->∃p,d.key=.ref p/\H p=U (.tup (kv.1.map kV)))->∃c,aR c a/\Paired (zcp H) c b
 |[],[],_,_,_,_=>⟨[],.nil,.nil⟩
 |[],v::a,_,hl,_,_=>by simp at hl
 |kv::b,[],_,hl,_,_=>by simp at hl
 |kv::b,v::a,j,hl,h1,h2=>by
  obtain⟨e,o,rfl⟩:=h1 0 v rfl;obtain⟨p,m,q⟩:=h2 0 e kv o rfl;obtain⟨c,k,h⟩:=Wv (es:=es) b a (j+1) (by simpa using hl) (λi u l=>by rw[pX,Nat.add_comm 1 i];exact h1 (i+1) u (by simpa using l)) (λi d f g n=>h2 (i+1) d f (by rw[<-pX,Nat.add_right_comm];exact g) (by simpa using n));exact⟨.ref p::c,.cons m k,.cons ⟨p,Y,q⟩ h⟩
theorem VU(J:X.calm=ah):jZ X (.type "list") zhM:=by
 intro aa s t H vs us Q I A h;obtain⟨a,aI,rfl,r,q⟩:=h;obtain⟨u,rfl,w⟩:=jm A;cases w;have G:X.A.handled=ak:=I.ok.hd J;obtain⟨z,B,_⟩:=zaH I.hok r;obtain⟨es,ep,x,b,j⟩:=zfl I r;refine W.kdl_call (QK (ep:=ep) (es:=es) B) G x (by rw[b];exact z) λT k d c g M m=>?_;obtain⟨f,y,l⟩:=Wv (H:=H) (es:=es) aI d.toList 0 (by rw[cg,m.1,b]) (λi v E=>by
   rw[rP];obtain⟨e,O,N⟩:=m.2 i v (by rw[<-du];exact E);exact⟨e,O,N⟩) (λi en C n g=>by
   rw[rP] at n;obtain⟨p,g1,g2,_⟩:=j i en C n g;exact⟨p,g1,g2⟩)
 have I2:aO X aa t (upd H s.heap.objs.size (.lst f)) { s with heap:=T,toks:=k }:=I.laid (a:=s.heap.objs.size) (o:=.lst f) (t':=k) g (bp _)
  ⟨by have:=bL l;lia,d.toList,c,y,by rw[Array.toArray_toList];exact M⟩
 exact⟨.ref s.heap.objs.size,_,I2,Y,q _ f (I.hok.fresh (bp _)) l⟩
end
structure FunD(K:bw)(x qual:Str)(st:ax)(f:D)(fd:Bc):Prop where
 ex:∃(oc:ae) (od:Option D) (dV kV doc pm:ae) (an:Option D) (cdv ct:ae) (osl:Array (Option ae)),fd=ss x qual (ZR st) (x8 st) (zk st) dV kV doc pm an cdv ct/\K.lookup f=U ⟨oc,od,.func fd,osl⟩/\sd K cdv qual=ah
 kp:mY K (.ref f)=ah
section
variable {P:aq}{w:au}{K:bw}{mg:Str->Option ae}{base:av}{x qual:Str}{st:ax}{f:D}{fd:Bc}{N ps:List Str}{k:Nat}{sp:Sp}
theorem FunD.ok1(F:FunD K x qual st f fd)(S:aL N ps (zk st))(d:∀b H Q E,sp b H Q E->b.length=ps.length) (c:∀(cdv:ae) (A:aw) (a:List Env) (s:af) (H:Hp) (b:List V) (Q:VK) (E:XK),sV k (A.deeper (envOfC qual (zk st) s.heap.objs.size f cdv))->sp b H Q E->∃t,PSs (qU (ud P w) P w K mg base N qual (zk st) f cdv A a s H E) (x8 st) t/\t { nx:=λ_ j=>Q .non j,rt:=Q } (start N b) H):hZ P w K mg base (ud P w) (k+1) f fd ps sp:=by
 obtain⟨oc,od,dV,kV,doc,pm,an,cdv,ct,osl,rfl,h,g⟩:=F.ex;exact zhD h g S d λA a s H b Q E i e=>c cdv A a s H b Q E i e
theorem FunD.ok0(F:FunD K x qual st f fd)(S:aL N ps (zk st))(g:∀d H Q E,sp d H Q E->d.length=ps.length) (e:∀(cdv:ae) (A:aw) (c:List Env) (s:af) (H:Hp) (d:List V) (Q:VK) (E:XK),sV k (A.deeper (envOfC qual (zk st) s.heap.objs.size f cdv))->sp d H Q E->∃t,PSs (qU (ud P w) P w K mg base N qual (zk st) f cdv A c s H E).nox (x8 st) t/\t { nx:=λ_ j=>Q .non j,rt:=Q } (start N d) H):hZ P w K mg base (ud P w) (k+1) f fd ps sp :=
 F.ok1 S g λcdv A c s H d Q E i h=>let ⟨t,a,b⟩:=e cdv A c s H d Q E i h;⟨t,a.nox,b⟩
theorem fun_mkD{j i:Option D}{d:Array (Option ae)}{g kV b e a h:ae}(l:K.lookup f=U ⟨oc,j,.func (ss x qual (ZR st) (x8 st) (zk st) g kV b e i a h),d⟩) (c:sd K a qual=ah) (k:mY K (.ref f)=ah):FunD K x qual st f (ss x qual (ZR st) (x8 st) (zk st) g kV b e i a h):=⟨⟨oc,j,g,kV,b,e,i,a,h,d,Y,l,c⟩,k⟩
end
section
variable {X:Cx}{o value:ay}{f:Str}{pos pos':Pos}{ta:TE}{tx:EXK->TE}
def zhN(K:bw)(ta:TE)(tx:EXK->TE)(f:Str)(a:EXK):TS:=wb K ta (tx a) f
theorem zgX(t:PE X.nox o ta)(p:PEX X value tx)(r:swapsWith value (U (.Attribute o f pos')) pos.line X.env=pure ao):PSX X (.Assign [.Attribute o f pos'] value pos) (zhN X.K ta tx f):=by
 intro e s b H T G I h;refine iF (dl (p e s b H _ G I h) λu g ⟨y,E,B,i,q⟩=>dN (t e g b E _ (B.wish _) q) (?_) λ_ _ z=>c8 z) r;rintro m M ⟨x,Q,d,j,a,C,O,N,v,w,c,n,l,k⟩;subst v;obtain rfl:m=bJ a:=j;exact Yz d.unwish w c n l i λJ A=>⟨b,_,A,k⟩
end
def zhO(K:bw)(f:EXK->TS)(i h:D)(e:TS):TS:=λc d H=>f (λb a g=>∃C,b=.ref C/\W.exmAny K (.ref C) [.ref i,.ref h]=U ah/\e c a g) c d H
theorem zfB(x:Heap.FlyingW base l e cls a0 h)(o:Obj):Heap.FlyingW base l e cls a0 (h.push o):=by
 obtain⟨j,i,g,d,a,T,f,c,w,v,t,s,r,p,n,m,k⟩:=x;exact⟨λb u q=>bc _ (j b u q),i,g.of_keeps (λb u q _=>⟨u,bc _ q,Y⟩),d,a,T,f,c,bc _ w,v,t,s,r,p,bc _ n,m,k⟩
section
variable {X:Cx}{st b₀:ax}{suite:List ax}{tb:EXK->TS}{th:TS}{c1 c2:Str}{C1 C2:D}{np np2 hpos tpos pos:Pos}{x1:Nat}
theorem zgY(n:X.stack=X.env::X.outer/\X.env.frame=U X.env.locals)(t:X.ex=[])(hb:PSX X st tb)(az:Gl X c1)(an:X.mg c1=U (.ref C1))(ar:Gl X c2)(al:X.mg c2=U (.ref C2)) (hs:∀e,PSs (X.sub e) (b₀::suite) th) (G:(c1==("__debug__":Str))=ao:=by lia) (E:(c2==("__debug__":Str))=ao:=by lia) :
  PS X (.Try [st] [.ExceptHandler (U (.Tuple [.Name c1 np,.Name c2 np2] x1 tpos)) ak (b₀::suite) hpos] [] [] pos) (zhO X.K tb C1 C2 th):=by
 intro Q s σ H Bp I h;refine wpAny_Try_except (i0 (dN (hb Q s σ H Bp _ I h) (λf d q=>?_) λev d q=>?_))
 .cases f with
  |next=>exact eY (eY q)
  |ret v=>exact q
  |brk=>exact q
  |cont=>exact q
 obtain⟨e,cls,l,s0,H0,H1,rfl,I0,I1,xf,C,rfl,hx,aj⟩:=q;obtain⟨oe,vs,a0,T,oT,ts,h1,h2,h3,h4,h5,h6,h7,h8,h9,a2,a1,aS⟩:=xf;have fr:d.heap.FunFrames (gM d.heap (tP X.stack++[e,T])) (X.env::X.outer):=by
  have q:=i4 (as:=tP X.stack++[e,T]) I1.stack λa3 he a ha=>cr _ (gg.mpr ⟨a3,he,ha⟩);rw[n.1] at q ⊢;exact q
 have m:∀b∈[e,T],s0.heap.get? b=ak/\H1 b=ak:=λb z=>by
  have z':b=e\/b=T:=by simpa using z
  rcases z' with rfl|rfl
  .exact⟨h9,a1⟩
  .exact⟨a2,aS⟩
 have M:∀b∈[e,T],H1 b=ak/\X.s₀.heap.get? b=ak:=λb z=>⟨(m b z).2,ki (I0.there0 t) (m b z).1⟩;have N:∀b∈[e,T],∀p∈X.pn++Q,p.1≠b:=λb z p hp q=>by
  have:=(I0.pin p hp).1;rw[q,(m b z).1] at this;cases this
 refine wpAny_looks_onW (base:=gM d.heap (tP X.stack++[e,T])) (a0:=a0) (cls:=.ref C) (by rw[I1.ok.frames,n.1]) n.2
  ⟨λb o q=>lX _ q,gc _ (bK _ (by simp)),fr,oe,vs,T,oT,ts,h1,h2,h3,h4,gc _ (bK _ (by simp)),h5,h6,h7,h8⟩ λg4 w B=>?_
 refine wpAny_landsW w λx j A=>?_;have hB:∀ {g:av},(gM d.heap (tP X.stack++[e,T])).StaysIn g->∀b o,d.heap.get? b=U o->b ∉ tP X.stack->b ∉ [e,T]->g.get? b=U o :=
  λ{g} k b o q n1 n2=>k b o (lh _ q λz=>(bu.mp z).elim n1 n2)
 have I5:aO X Q l H1 { d with heap:=x }:=I1.land t M N (hB j.1) (B.trans A);refine lP (iW ?_) (by intro q;cases q);refine wpAny_Tuple_spliced (cR (wT (X:=X.sub e) (I5.toSub (e:=e)) az an (cR (wT (X:=X.sub e) (I5.toSub (e:=e)) ar al (eW ⟨(by show 2<=Bb;decide),?_⟩) E)) G));have i:=zfB j { cls:=.type "tuple",data:=.seq [bJ C1,bJ C2].toArray };have kp:∀b o,x.get? b=U o->(x.push { cls:=.type "tuple",data:=.seq [bJ C1,bJ C2].toArray }).get? b=U o:=λb o q=>bc _ q;have hp:(x.push { cls:=.type "tuple",data:=.seq [bJ C1,bJ C2].toArray }).get? x.objs.size=U { cls:=.type "tuple",data:=.seq [bJ C1,bJ C2].toArray }:=bF _ rfl;have K6:X.K.In (x.push { cls:=.type "tuple",data:=.seq [bJ C1,bJ C2].toArray }):=(I5.kept (t':=d.toks) kp).kIn;have ag:sI (Bg X.prog X.w) (x.push { cls:=.type "tuple",data:=.seq [bJ C1,bJ C2].toArray }) (typeOf (.ref e)) (.ref C):=by
  obtain⟨o,p1,p2⟩:=i.there;exact p2 ▸ (rA p1).andThen .now
 refine(W.exm_tup2 K6 ag hp hx).here ?_;refine nT (lands_againW i λg7 O ai=>?_);have I7:aO X Q l H1 { d with heap:=g7 }:=I1.land t M N (hB O.1) (((B.trans A).trans (Heap.UpToSlots.of_keeps kp)).trans ai);refine dN (hs e Q _ l H1 Bp I7.toSub aj) (λf s9 q=>?_) λ_ _ z=>c8 z;cases f with
 |next=>obtain⟨c,y,J,z⟩:=q;exact⟨c,y,aO.ofSub (J:=I) J,z⟩
 |brk=>obtain⟨c,y,J,z⟩:=q;exact⟨c,y,aO.ofSub (J:=I) J,z⟩
 |cont=>obtain⟨c,y,J,z⟩:=q;exact⟨c,y,aO.ofSub (J:=I) J,z⟩
 |ret u=>obtain⟨v,c,y,J,r,z⟩:=q;exact⟨v,c,y,aO.ofSub (J:=I) J,r,z⟩
end
section
variable {X:Cx}{CX:CXT}{k:Nat}{f C:D}{fd:Bc}{ps:List Str}{sp:Sp}{dvs:List V}{E:XK}{m:Str}{pos sR:Pos}{o:ay}{ta:TE}
theorem KY{e:Sem Bool}(l:PE X o ta)(c:tR X.K C)(j:Qq X.K C m f)(F:hZ X.prog X.w X.K X.mg X.base CX k f fd ps sp)(i:sV k X.A)(a:∃b,aR dvs b/\ti X.K fd ps b)(g:wx CX X E) (h:eval (.Call (.Attribute o m sR) [] [] pos) X.env=(do
   let d <-eval o X.env
   standAt sR.atName
   let (f,first) <-holding [d] (getMethod d m e)
   callWith pos f first (backTo pos (Be [] X.env)) (backToKw pos (keywordEach [] X.env))):=by rfl) :
  PE X (.Call (.Attribute o m sR) [] [] pos) (zY C m sp dvs E ta zj):=by
 obtain⟨b,n,a⟩:=a;exact zaA l c j F i a n g h
end
structure MkO(K:bw)(C:D):Prop where
 makes:si K C=ah
 init:fA K (.ref C) "__init__"=U (U (.builtin "object.__init__"))
 kp:mY K (.ref C)=ah
def zcq(C:D):TE:=λ_ H Q=>∀x a,H x=ak->H a=ak->a≠x->Q (.ref x) (upd (upd H a (.own x)) x (.ins C a []))
section
variable {X:Cx}{C:D}{x:Str}{p pos:Pos}
theorem zd4{d:St}{H:Hp}{s:af}{Q:VK}(M:MkO X.K C)(I:aO X aa d H s)(h:∀x c,H x=ak->H c=ak->c≠x->Q (.ref x) (upd (upd H c (.own x)) x (.ins C c []))) :
  Bf (Bg X.prog X.w) X.A (call (.ref C) []) (EP X aa d Q) X.xe s:=by
 have f:=h (s.heap.objs.size+1) s.heap.objs.size (I.hok.fresh (sq _)) (I.hok.fresh (bp _)) (bW (nI _));have j:=aO.made (C:=C) I;refine rf (zdH I.kIn M.makes M.init (λa=>W.Looks.of_pure (W.oi_bind a)) ?_);have k:=W.makes_of (M:=Bg X.prog X.w) I.kIn M.makes;have i:sI (Bg X.prog X.w) ((s.heap.push eC).push (f8 C s.heap.objs.size)) (typeOf (.ref (s.heap.objs.size+1))) (.ref C):=by
  have:=bF (s.heap.push eC) (o:=f8 C s.heap.objs.size) rfl;rw[eV] at this;exact(rA this).andThen .now
 have g:sI (Bg X.prog X.w) ((s.heap.push eC).push (f8 C s.heap.objs.size)) (isInstance (.ref (s.heap.objs.size+1)) (.type "object")) ah:=i.andThen (k.top.keeps λb o e=>bc (f8 C s.heap.objs.size) (bc eC e));refine codeAny_call_builtin W.oi_plain W.entry_oi (W.check_slot (rest:=[]) (kw:=[]) W.oi_kind W.oi_split g (W.oi_args _) ?_);rw[W.oi_run];exact bf ⟨Y,V.ref (s.heap.objs.size+1),_,j,Y,f⟩
theorem zba(M:MkO X.K C)(c:Gl X x)(b:X.mg x=U (.ref C))(a:(x==("__debug__":Str))=ao:=by lia):PE X (.Call (.Name x p) [] [] pos) (zcq C):=by
 intro e s d H Q I h;refine eO (wT I c b ?_ a);exact pM I.kIn M.kp (zd4 M I h)
end
def zcr(j:List (D×Sp))(m:Str)(E:XK)(g:TE)(t:TA):TE:=λb H Q=>g b H λx e=>∃a h d C c,x=.ref a/\e a=U (.ins C h d)/\d.lookup m=ak/\(C,c)∈j/\t b e λf i=>c (x::f) i Q E
structure MOk(X:Cx)(CX:CXT)(m:Str)(C:D)(sp:Sp):Prop where
 cl:tR X.K C
 fn:∃k f fd ps,Qq X.K C m f/\hZ X.prog X.w X.K X.mg X.base CX k f fd ps sp/\sV k X.A/\ti X.K fd ps []
section
variable {X:Cx}{CX:CXT}{E:XK}{m:Str}{pos sR:Pos}{e o:ay}{es:List ay}{ta:TE}{t:TA}{Bo:List (D×Sp)}{C:D}{sp:Sp}
theorem KZ(c:tR X.K C)(b:Qq X.K C m f)(F:hZ X.prog X.w X.K X.mg X.base CX k f fd ps sp)(a:sV k X.A)(d:ti X.K fd ps []):MOk X CX m C sp:=⟨c,k,f,fd,ps,b,F,a,d⟩
theorem zfC:∀z∈([]:List (D×Sp)),MOk X CX m z.1 z.2:=λz h=>nomatch h
theorem ZW(h:MOk X CX m C sp)(r:∀z∈Bo,MOk X CX m z.1 z.2):∀z∈(C,sp)::Bo,MOk X CX m z.1 z.2:=λz hz=>by
 rcases bE.mp hz with rfl|hz
 .exact h
 .exact r z hz
theorem zbb{pl:Sem Bool}(N:PE X o ta)(hL:∀z∈Bo,MOk X CX m z.1 z.2)(G:wx CX X E)(T:PA X (e::es) t) (b:Be (e::es) X.env=(ao,eval e X.env)::Be es X.env:=by rfl) (d:(backTo pos (Be es X.env)).any (·.1)=ao:=by rfl) (J:eval (.Call (.Attribute o m sR) (e::es) [] pos) X.env=(do
   let i <-eval o X.env
   standAt sR.atName
   let (f,first) <-holding [i] (getMethod i m pl)
   callWith pos f first (backTo pos (Be (e::es) X.env)) (backToKw pos (keywordEach [] X.env))):=by rfl) :
  PE X (.Call (.Attribute o m sR) (e::es) [] pos) (zcr Bo m E ta t):=by
 intro n s g H Q I h;refine lJ (pl:=pl) (dl (N n s g H _ I h) ?_) J;rintro u w ⟨x,H1,v,y,a,dx,fs,C,sp,ex,ea,l,B,q⟩;subst ex;obtain rfl:u=bJ a:=y;obtain⟨c,k,f,fd,ps,j,F,M,O⟩:=hL _ B;refine kW v ea c j l ?_;refine lZ (first:=[.ref a]) (h₀:=X.base) I.ok.mod.kin j.kp (dl (T pos n w g H1 _ v q) λus s2 ⟨vs,H2,p,r,A⟩=>⟨p.kIn,?_⟩) b d;exact Qr (us:=.ref a::us) (vs:=.ref a::vs) (dvs:=[]) F M O .nil G p (.cons Y r) (by rw[lI];exact A)
end
end L2
namespace HT
open PySem PySem.Spec PyProof.Rows
end HT
namespace L2
open PySem PySem.Spec PyProof.Rows
end L2
namespace L2
open PySem
end L2
namespace L2
open PySem PySem.Spec PyProof.Rows
end L2
namespace L2
open PySem PySem.Spec PySem.W PyProof.Rows
abbrev zhP(K:bw):RC:=λc H Q=>∃r b,c=[.ref r]/\aQ K H r (nF V.int b)/\b.length<64/\b.Nodup /\
 ∀(l:D) (a:List Int),H l=ak->a.Perm b->a.Pairwise (· < ·)->Q (.ref l) (upd H l (.lst (a.map V.int)))
theorem zfD{a:List Int}(e:a.Nodup):SO (λi j=>decide (a.getD i 0<a.getD j 0)) a.length where
 irr:=λi _=>Bk ()
 trans:=λi j k _ _ _ d c=>by
  have d:=of_decide_eq_true d;have c:=of_decide_eq_true c;exact Bj ()
 tot:=λi j g f b h=>by
  have l:a.getD i 0≠a.getD j 0:=λz=>b (by
   rw[bD,bD,bb g,bb f] at z;exact(gS e).mp z)
  have h:=of_decide_eq_false h;exact Bj ()
section
variable {X:Cx}
theorem QR(hc:X.calm=ah)(hu:X.A.units+3<cLine):jZ X (.builtin "sorted") (zhP X.K):=by
 intro aa s σ H vs us Q I r0 h;obtain⟨r,d,rfl,hq,ai,nd,q⟩:=h;obtain⟨u,rfl,M⟩:=jm r0;cases M;obtain⟨vs,J,⟨o,n,ho,oc,_,od⟩,hz⟩:=I.list hq;have l2:=J.length;rw[bg] at l2;have g:vs.length=d.length:=by lia
 have z:∀(i:Nat) (n:Int),d[i]?=U n->∃t,vs[i]?=U (.int n t):=λi n f=>by
  obtain⟨u,O,M⟩:=J.get (show (d.map V.int)[i]?=U (V.int n) by rw[bA,f];rfl);obtain⟨t,e⟩:=M;exact⟨t,by rw[O,e]⟩
 have m:∀i,i<d.length->∃t,vs.getD i cC=.int (d.getD i 0) t:=λi f=>by
  obtain⟨t,G⟩:=z i d[i] (bb f);exact⟨t,by rw[bD,G,bD,bb f];rfl⟩
 refine Wr (vs:=vs) (κ:=oneType') (lt:=λi j=>decide (d.getD i 0<d.getD j 0)) () (by rw[g];exact zfD nd) (λR hR=>?_) (λh2 h x Q' kp N=>?_) (λh x i j C kp f hj ag N=>?_) λh x B p c k1 k2 hD y hr=>?_
 .refine wpAny_collect_seq r (.inl Y) ho oc od (λB k=>?_) (by rw[bG];exact bO (by lia:_<=64) ());have e:({ s with heap:=B }:af)={ s with heap:=B,toks:=s.toks }:=rfl;rw[e];exact hR B s.toks k
 .refine kas_kind (T:=.type "int") h2 (λv hv=>?_) () () N;obtain⟨i,f⟩:=cy hv;have hl:=(bn.mp f).1;obtain⟨t,G⟩:=z i d[i] (bb ());rw[f] at G;cases G;exact Looks.of_pure rfl
 .rw[g] at f hj;obtain⟨t1,e1⟩:=m i f;obtain⟨t2,e2⟩:=m j hj;have l:=kat_lt_int (prog:=X.prog) (w:=X.w) (A:=X.A.in1.in1) (E:=λ_ _=>False) (s:={ s with heap:=h,toks:=x }) (t:=t1) (u:=t2) (Q:=C) N;rw[<-e1,<-e2] at l;exact l
 .have I1:aO X aa σ H { s with heap:=h,toks:=x }:=I.kept k1;rw[g] at y hr;have fr:H h.objs.size=ak:=I1.hok.fresh (bp _);have sz:=y.size;have vk:aR (p.toList.map λi=>(d.map V.int).getD i V.non) (vE vs p):=jr J V.non cC (is:=p.toList) λi f=>by have:=y.lt i f;rw[bg];exact this
  have e3:(p.toList.map λi=>(d.map V.int).getD i V.non)=(p.toList.map λi=>d.getD i 0).map V.int:=by
   rw[dA];refine dy λi f=>?_;have:=y.lt i f;rw[bD,bA,bb this];show V.int d[i]=V.int (d.getD i 0);rw[bD,bb this];rfl
  rw[e3] at vk;have I2:aO X aa σ (upd H h.objs.size (.lst ((p.toList.map λi=>d.getD i 0).map V.int))) { s with heap:=B,toks:=x }:=I1.laid (s:={ s with heap:=h,toks:=x }) (a:=h.objs.size) (o:=.lst ((p.toList.map λi=>d.getD i 0).map V.int)) (t':=x) k2 (bp _)
   ⟨by rw[bg,bg,cg];exact bO (by lia:_<=1000) (),_,c,vk,hD⟩
  refine⟨.ref h.objs.size,_,I2,Y,q _ _ fr ?_ ?_⟩
  .refine(y.list.map _).trans ?_;rw[VO]
  .exact(VP (F:=λa b:Int=>decide (a<b)) y hr).imp λh=>of_decide_eq_true h
end
end L2
namespace L2
open PySem PySem.Spec PySem.W PyProof.Rows PySem.Calls
end L2
namespace L2
open PySem PySem.Spec PyProof.Rows
structure FG(K:bw)(mg:Str->Option ae)(x:Str)(st:ax)(ps:List Str)(a:D)(d:Bc):Prop where
 m:mg x=U (.ref a)
 f:Fun K x x st a d
 b:ti K d ps []
structure FM(K:bw)(C:D)(x qual:Str)(st:ax)(ps:List Str)(a:D)(d:Bc):Prop where
 me:Qq K C x a
 f:Fun K x qual st a d
 b:ti K d ps []
theorem arS{P:List ae->Prop}(h:∀a us,us.length=n->P (a::us)):∀us,us.length=n+1->P us:=λus e=>by
 cases us with
 |nil=>cases e
 |cons a us=>exact h a us (Nat.succ.inj e)
theorem ar0{P:List ae->Prop}(h:P []):∀us,us.length=0->P us:=λus e=>by
 cases us with
 |nil=>exact h
 |cons=>cases e
theorem ti.df{K:bw}{c:Bc}{b:List Str}{ds:List ae}{T:D}(_:c.defaults=.ref T)(q:K.lookup T=U o)(h:∀a:List ae,a.length=b.length-ds.length->∀s:af,s.heap.get? T=U o->BindsTo s c ⟨a,[]⟩ (b.zip (a++ds))):ti K c b ds:=λs a e d=>h a (by rw[<-d,bC,Nat.add_sub_cancel]) s (e _ _ q)
abbrev QX(K:bw)(a:D):Prop:=∃b,fA K (.ref a) "__getattribute__"=U (U (.builtin "BaseException.__getattribute__"))/\fA K (.ref a) "__getattr__"=U ak/\fA K (.ref a) "__class__"=U (U (.builtin "object.__class__"))/\sJ K a (.type "object")=U ah/\sJ K a (.type "BaseException")=U ah/\sk K (.builtin "object.__class__") "__get__"=U (U (.builtin "getset_descriptor.__get__"))/\W.takesIn K (.builtin "object.__class__")=U ah/\W.clsIn K a=U b
theorem QX.to{K:bw}(q:QX K a):ExK K a:=by
 obtain⟨j,i,h,g,f,e,d,c,b⟩:=q;exact⟨⟨i,h,g,f,e,d,c⟩,by rw[b];rfl⟩
section
variable {X:Cx}{CX:CXT}{j k:Nat}{a C:D}{d:Bc}{ps:List Str}{sp:Sp}{x m qual:Str}{st:ax}{p pos sR:Pos}{o e:ay}{es:List ay}{ta:TE}{t:TA}{E:XK}
theorem tD(F:hZ X.prog X.w X.K X.mg X.base CX j a d ps sp)(G:FG X.K X.mg x st ps a d)(g:sV k X.A)(f:wx CX X E)(n:PA X (e::es) t)(h:j<=k:=by lia)(i:Gl X x:=by exact rfl)(c:(x==("__debug__":Str))=ao:=by lia)(l:Be (e::es) X.env=(ao,eval e X.env)::Be es X.env:=by rfl)(b:(backTo pos (Be es X.env)).any (·.1)=ao:=by rfl) :
  PE X (.Call (.Name x p) (e::es) [] pos) (zT sp [] E t):=YW (F.mono h) g i G.m G.f.kp G.b .nil f n c l b
end
theorem aL.m{N P:List Str}{sc:aA}(g:sc.kind=.function:=by rfl)(f:sc.isCoroutine=ao:=by rfl)(e:sc.isGenerator=ao:=by rfl)(d:N.Nodup:=by lia)(c:N.take P.length=P:=by rfl)(b:∀x∈P,sc.names.lookup x=U .local\/sc.names.lookup x=U .cell:=by lia)(a:∀y∈sc.names,y.2≠.free:=by lia):aL N P sc:=⟨g,f,e,d,c,b,a⟩
section
variable {P:aq}{w:au}{K:bw}{mg:Str->Option ae}{base:av}{x qual:Str}{st:ax}{f:D}{fd:Bc}{N ps:List Str}{k:Nat}{sp:Sp}
theorem Fun.okA(F:Fun K x qual st f fd)(S:aL N ps (zk st))(h:∀b H Q E,sp b H Q E->b.length=ps.length/\∀(cdv:ae) (A:aw) (a:List Env) (s:af),sV k (A.deeper (envOfC qual (zk st) s.heap.objs.size f cdv)) ->
   ∃t,PSs (qU (ud P w) P w K mg base N qual (zk st) f cdv A a s H E).nox (x8 st) t/\t { nx:=λ_ d=>Q .non d,rt:=Q } (start N b) H):hZ P w K mg base (ud P w) (k+1) f fd ps sp:=F.ok0 S (λb H Q E z=>(h b H Q E z).1) λcdv A a s H b Q E c z=>(h b H Q E z).2 cdv A a s c
theorem Fun.okB(F:Fun K x qual st f fd)(S:aL N ps (zk st))(h:∀b H Q E,sp b H Q E->b.length=ps.length/\∀(cdv:ae) (A:aw) (a:List Env) (s:af),sV k (A.deeper (envOfC qual (zk st) s.heap.objs.size f cdv)) ->
   ∃t,PSs (qU (ud P w) P w K mg base N qual (zk st) f cdv A a s H E) (x8 st) t/\t { nx:=λ_ d=>Q .non d,rt:=Q } (start N b) H):hZ P w K mg base (ud P w) (k+1) f fd ps sp:=F.ok1 S (λb H Q E z=>(h b H Q E z).1) λcdv A a s H b Q E c z=>(h b H Q E z).2 cdv A a s c
end
section
variable {K:bw}{σ:St}{H:Hp}{Q:VK}{i:Nat}{k:Int}{p a C dx:D}{xs:List V}{u v:V}{x w f:Str}{fs:List (Str×V)}{te:TE}{A B:TS}{Bp:qT}
theorem jR(d:σ[i]?=U (U (.ref p)))(c:H p=U (.tup xs))(b:ub xs k=U u)(q:Q u H):aK (yI K) (Z i) (tC (.int k)) σ H Q:=⟨_,d,p,xs,k,u,Y,Y,sW.of c,b,q⟩
theorem Zg(d:σ[i]?=U (U (.ref a)))(b:H a=U (.ins C dx fs))(c:tR K C)(n:aP K C f)(l:fs.lookup f=U v)(q:Q v H):zW K (Z i) f σ H Q:=⟨_,d,a,C,dx,fs,v,Y,b,c,n,l,q⟩
theorem zjd(h:∀Q:VK,Q (.str x) H->te σ H Q)(a:x=w->A Bp σ H)(b:x≠w->B Bp σ H):zR (zD (aK tI te (tC (.str w)))) A B Bp σ H:=by
 refine h _ ⟨Y,_,Y,?_⟩;by_cases c:x=w
 .show if _ then _ else _
  rw[ap (by rw[c];exact Bj Y)];exact a c
 .show if _ then _ else _
  rw[am (by rw[decide_eq_true_eq];exact λz=>c (V.str.inj z))];exact b c
theorem qg(e:σ[i]?=U (U (.ref p)))(d:H p=U (.tup xs))(c:ub xs k=U (.str x))(a:x=w->A Bp σ H)(b:x≠w->B Bp σ H):zR (zD (aK tI (aK (yI K) (Z i) (tC (.int k))) (tC (.str w)))) A B Bp σ H:=zjd (λQ q=>jR e d c q) a b
theorem zfE(c:σ[i]?=U (U (.ref l)))(b:H l=U (.lst xs))(q:Q (.int xs.length) H):tu (xY K) (zc (Z i) zj) σ H Q:=by
 refine⟨_,c,.ref l,xs.length,Y,?_,q⟩;simp only[zh7];exact .inl ⟨_,aQ.of b,Y⟩
theorem zje{n:Int}{P R:Prop}(a:n≠0->P)(b:n=0->R):if (!decide (V.int n=V.int 0))=ah then P else R:=by
 by_cases c:n=0
 .rw[am (by rw[c];decide)];exact b c
 .rw[ap (by rw[Bk (λz=>c (V.int.inj z))];rfl)];exact a c
theorem zjf{n:Int}{P R:Prop}(a:n=0->P)(b:n≠0->R):if decide (V.int n=V.int 0)=ah then P else R:=by
 by_cases c:n=0
 .rw[ap (by rw[c];decide)];exact a c
 .rw[am (by rw[Bk (λz=>c (V.int.inj z))];decide)];exact b c
end
end L2
namespace L2
open PySem PySem.Spec PySem.W PyProof.Rows
abbrev zhQ:RC:=λe H Q=>∃(a:D) (c:List (aU×V)) (d:List Int),e=[.ref a]/\H a=U (.dK c)/\c.map (·.1)=d.map gh/\c.length<64 /\
 ∀(l:D) (b:List Int),H l=ak->b.Perm d->b.Pairwise (· < ·)->Q (.ref l) (upd H l (.lst (b.map V.int)))
abbrev zhR:RC:=λe H Q=>∃(a:D) (c:List (aU×V)) (d:List Int),e=[.ref a]/\H a=U (.dK c)/\c.map (·.1)=d.map gh/\c.length<64 /\
 ∀(l:D) (b:List Int),H l=ak->b.Perm d->b.Pairwise (λx y=>y<x)->Q (.ref l) (upd H l (.lst (b.map V.int)))
theorem K0:∀ {a:List ae} {b:List Int},IntsAre a b->aR (b.map V.int) a
 |_,_,.nil=>.nil
 |_,_,.cons _ t h=>.cons ⟨t,Y⟩ (K0 h)
theorem K3{P:aq}{w:au}{e:List (aU×V)}{b:List (aU×ae)}(y:KV e b):∀ {d:List DictEntry} {a:List Int},Pairs (yE P w) d b->e.map (·.1)=a.map gh->IntsAre (d.map (·.key)) a/\b.map (·.1)=a.map gh:=by
 induction y with
 |nil =>
  intro d a z hr;cases z;cases a with
  |nil=>exact⟨.nil,Y⟩
  |cons=>cases hr
 |cons h kv ih =>
  intro d a z hr;cases a with
  |nil=>cases hr
  |cons r a =>
   cases z with
   |cons hk _ pr =>
    obtain⟨k,i⟩:=List.cons.inj hr;obtain⟨g,f⟩:=ih pr i;have c:=h.1.symm.trans k;rcases yQ hk with ⟨j,t,ej,et⟩|⟨x,t,ej,et⟩
    .rw[c] at ej;cases ej;refine⟨?_,by rw[bx,bx,f,c]⟩;rw[bx,et];exact .cons _ t g
    .rw[c] at ej;cases ej
section
variable {X:Cx}{p pos kp:Pos}{e:ay}{ta:TE}
theorem zdc{A:List (D×Obj)}{w:St}{H:Hp}{s:af}{a:D}{v:List (aU×V)}{k:List Int}{Q:VK}{u:List (Str×ae)}{O:List Int->Prop}(hc:X.calm=ah)(I:aO X A w H s)(ha:H a=U (.dK v))(G:v.map (·.1)=k.map gh)(ai:v.length<64) (hs:∀(R:PySem.Fin->af->Prop) (s:af) (b:D) (r:List ae),s.heap.get? b=U (seqObj "list" r.toArray 0)->IntsAre r k->r.length<64->(∀(out:Array ae) (n:List Int),IntsAre out.toList n->n.Perm k->(k.Nodup->O n)->R (.done (.ret .none)) { s with heap:=sortedHeap s.heap b r out })->Bf (Bg X.prog X.w) X.A.in1.in1 (Builtin.«list.sort» ⟨[.ref b],u⟩) R X.xe s) (hw:argsOk "sorted" ⟨[.ref a],u⟩) (y:∀b:D,argsOk "list.sort" ⟨[.ref b],u⟩) (q:∀(l:D) (g:List Int),H l=ak->g.Perm k->O g->Q (.ref l) (upd H l (.lst (g.map V.int)))) :
  Bf (Bg X.prog X.w) X.A (call (.builtin "sorted") [.ref a] u) (EP X A w Q) X.xe s:=by
 obtain⟨hz,T,r,E,o,es,ep,ho,hx,hd,ag,B,hn⟩:=(show aW X.prog X.w H s.heap a (.dK v) from I.hok a _ ha);obtain⟨x,ev⟩:=K3 E B G;have N:k.Nodup:=xZ (f:=(gh:Int->aU)) (by rw[<-ev];exact hn);have il:es.size<64:=by have:=E.length;have:=B.length;rw[cg] at this;lia
 have cl:=bO (show es.size<=1000 by lia) (show 1000<=Bb by lia);refine call_function_entry_kw kind_sorted rM rN hw ?_;unfold Builtin.«sorted»;refine ba (m:=checkCount "sorted" 1 1 _) (bf ?_);refine ba (Ws (QK (ep:=ep) (es:=es) T) (I.ok.hd hc) ⟨o,ho,hx,hd⟩ cl λh t d k1 hl hG=>?_);have ew:d=es.toList.map (·.key):=by
  apply eX;intro i;by_cases hi:i<d.length
  .obtain⟨e,z,ek⟩:=hG i d[i] (bb hi);rw[bb hi,ek,bA,du,z];rfl
  .rw[cG (),cG (by rw[bg,cg];lia)]
 rw[<-ew] at x;have j:(h.push (seqObj "list" d.toArray 0)).get? h.objs.size=U (seqObj "list" d.toArray 0):=bF _ rfl;refine ba (nA ?_ (by rw[bH];lia));refine ba (dD (wpAny_call_entry_kw oY ⟨_,j,Y⟩ oz (hs _ { s with heap:=h.push (seqObj "list" d.toArray 0),toks:=t } _ d j x () λout n a1 J a3=>⟨_,rfl,bf ⟨_,rfl,?_⟩⟩) (y _)));obtain⟨c,hD⟩:=sortedHeap_at (out:=out) j;have M:aO X A w H { s with heap:=h,toks:=t }:=I.kept k1;have nl:=J.length_eq;have rl:=IntsAre.length x;refine⟨.ref h.objs.size,_,M.laid (s:={ s with heap:=h,toks:=t }) (a:=h.objs.size) (o:=.lst (n.map V.int)) (t':=t) (λb o e=>?_) (bp _) ⟨by rw[bg];exact bO (show n.length<=1000 by have:=congrArg fT G;rw[bg,bg] at this;lia) (),_,c,K0 a1,hD⟩,Y,q _ _ (M.hok.fresh (bp _)) J (a3 N)⟩;have C:=bQ e;exact(sortedHeap_old (bW C) (by rw[size_push'];exact rm C)).trans (bc _ e)
theorem QS(l:X.calm=ah):jZ X (.builtin "sorted") zhQ:=by
 intro G s y H A C Q I r h;obtain⟨a,J,E,rfl,m,k,d,q⟩:=h;obtain⟨u,rfl,g⟩:=jm r;cases g;exact zdc l I m k d (O:=λn=>n.Pairwise (· < ·)) (λR s b B v t o h=>list_sort_tree v t o λc i x f w=>h c i x f λj=>(w.and (f.nodup_iff.mpr j)).imp λz=>by lia) (rO _) (λ_=>oZ _) q
theorem zgZ{ta:TA}{j:Nat}{B:Pos}(T:X.calm=ah)(M:Gl X "sorted")(G:X.mg "sorted"=ak)(C:Bh "sorted"=U (.builtin "sorted"))(g:PA X [e] ta)(N:backTo pos (Be [e] X.env)=[(ao,eval e X.env)]:=by rfl)(E:(backTo pos (Be [e] X.env)).any (·.1)=ao:=by rfl) :
  PE X (.Call (.Name "sorted" p) [e] [⟨U (bh "reverse"),.Constant (.bool ah) j B,kp⟩] pos) (tu zhR ta):=by
 intro m s k H Q I h;refine eO (Yv I M G C ?_ () ());refine callWith_kw (dl (g pos m s k H _ I h) λus t ⟨c,r,I1,w,a,aI,rs,e1,g,J,i,q⟩=>?_) N E;subst e1;obtain⟨u,rfl,d⟩:=jm w;cases d;refine dl (zgv (nm:=U (bh "reverse")) (kpos:=kp) jY zh9 pos m t k r (λc H'=>c=[.bl ah]/\H'=r) I1 ⟨Y,Y⟩) λws s2 ⟨zs,H2,I2,v,ez,eh⟩=>?_;subst ez eh;obtain⟨u,rfl,d⟩:=jm v;cases d;exact zdc T I2 g J i (O:=λn=>n.Pairwise (λx y=>y<x)) (λR s b c h1 h2 h3 h=>list_sort_tree_rev (b:=ah) h1 h2 h3 λf l a1 o a3=>h f l a1 o λA=>(List.Pairwise.and (show l.Pairwise (· >= ·) from a3) (o.nodup_iff.mpr A)).imp λz=>by lia) (args_sorted_rev _ _) (λ_=>args_list_sort_rev _ _) q
end
def zfF(h f g:TE)(i:V->V->Hp->VK->Prop):TS:=λm b H=>h b H λx l=>f b l λy e=>∃a c j v,x=.ref a/\y=.int (j:Nat)/\e a=U (.lst c)/\c[j]?=U v/\j<=1000 /\
 g b e λz k=>i v z k λr d=>d a=U (.lst c)/\m.nx b (upd d a (.lst (c.set j r)))
section
variable {X:Cx}{o i value:ay}{pos pos':Pos}{td ty tv:TE}
theorem zdd{B:Operator}{A:V->V->Hp->VK->Prop}(ho:PE X o td)(hi:PE X i ty)(hv:PE X value tv)(q:zh8 X B A)(hs:∀k d b,augStore i k d b=(do holding [b,k,d] (setItem k d b);release [b,k,d] [];pure .next)) :
  PS X (.AugAssign (.Subscript o i pos') B value pos) (zfF td ty tv A):=by
 intro l s c H Bp I h;refine wpAny_AugAssign_SubscriptAny (dl (ho l s c H _ I h) λu s1 ⟨x,H1,I1,rx,q1⟩=>dl (hi l s1 c H1 _ I1 q1) ?_) hs;rintro d T ⟨y,H2,G,ry,a,J,j,v,ex,ey,ea,C,hk,q2⟩;subst ex ey;obtain rfl:u=bJ a:=rx;obtain⟨t,rfl⟩:=ry;obtain⟨f,r,pl,hz⟩:=G.list (aQ.of ea);obtain⟨w,ew,m⟩:=r.get C;have fin:(j:Int).toNat=j:=dP j;refine wpAny_getItem_list pl.isList (pY j) () (by rw[fin];simpa using ew) ?_;refine dl (hv l T c H2 _ G q2) ?_;rintro N Q ⟨z,H3,I3,rz,q3⟩;refine dl (q l Q c H3 v z w N _ I3 m rz q3) ?_;rintro M O ⟨r4,H4,E,p,g,q4⟩;obtain⟨z,f,n,rl,hl,e⟩:=E.lstM g;have jl:j<J.length:=(bn.mp C).1;exact Wu e (pY j) () fin (by rw[bG,<-hl];exact jl) ⟨c,_,E.lset (its':=f.set j M) (t':=O.toks) g e (by simp) (VT p rl _) (by rw[fm];exact z),q4⟩
end
section
variable {X:Cx}{CX:CXT}{i j k:Nat}{f C:D}{fd:Bc}{ps:List Str}{sp:Sp}{x m qual:Str}{st:ax}{pos pos' sR:Pos}{o a b e:ay}{es:List ay}{te ta tb:TE}{t:TA}{E:XK}
theorem zu(n:X.N.Nodup)(l:PE X e te)(g:X.N[i]?=U x:=by rfl)(c:Loc X.env.scope x:=by exact .inl Y)(d:swapsWith e (U (.Name x pos')) pos.line X.env=pure ao:=by rfl)(h:X.fn x=ah\/X.env.scope.names.lookup x=U .local:=by first|exact .inl rfl|exact .inr rfl|assumption) :
  PS X (.Assign [.Name x pos'] e pos) (zO te (zt i)):=XT n g c l d h
theorem ya(h:X.N.Nodup)(d:X.N[i]?=U x:=by rfl)(c:Loc X.env.scope x:=by exact .inl Y)(g:X.fn x=ah\/X.env.scope.names.lookup x=U .local:=by first|exact .inl rfl|exact .inr rfl|assumption):PG X (.Name x pos) (zt i):=kS h d c g
theorem zv{r:R2}(d:IxR X r)(h:PE X a ta)(g:PE X b tb)(c:zcT b:=by exact λ_ _=>rfl):PE X (.Subscript a b pos) (aK r ta tb):=zi1 d h g c
theorem ua{l:Sem Bool}(s:PE X o ta)(c:tR X.K C)(F:hZ X.prog X.w X.K X.mg X.base CX j f fd ps sp)(G:FM X.K C m qual st ps f fd)(q:sV k X.A)(n:wx CX X E)(u:PA X (e::es) t)(r:j<=k:=by lia) (d:Be (e::es) X.env=(ao,eval e X.env)::Be es X.env:=by rfl) (g:(backTo pos (Be es X.env)).any (·.1)=ao:=by rfl) (p:eval (.Call (.Attribute o m sR) (e::es) [] pos) X.env=(do
   let h <-eval o X.env
   standAt sR.atName
   let (f,first) <-holding [h] (getMethod h m l)
   callWith pos f first (backTo pos (Be (e::es) X.env)) (backToKw pos (keywordEach [] X.env))):=by rfl) :
  PE X (.Call (.Attribute o m sR) (e::es) [] pos) (zY C m sp [] E ta t):=Qs s c G.me (F.mono r) q G.b .nil n u d g p
theorem Z2{g:Sem Bool}(q:PE X o ta)(c:tR X.K C)(F:hZ X.prog X.w X.K X.mg X.base CX j f fd ps sp)(G:FM X.K C m qual st ps f fd)(n:sV k X.A)(h:wx CX X E)(p:j<=k:=by lia) (l:eval (.Call (.Attribute o m sR) [] [] pos) X.env=(do
   let d <-eval o X.env
   standAt sR.atName
   let (f,first) <-holding [d] (getMethod d m g)
   callWith pos f first (backTo pos (Be [] X.env)) (backToKw pos (keywordEach [] X.env))):=by rfl) :
  PE X (.Call (.Attribute o m sR) [] [] pos) (zY C m sp [] E ta zj):=zaA q c G.me (F.mono p) n G.b .nil h l
end
end L2
namespace K44
open PySem L2
abbrev aC:=rI (λ_ j=>0<j) λi j=>.int (i%j)
abbrev aD:=rI0 λi j=>.int (i+j)
abbrev aE:=rI yP λi j=>.int (i/j)
abbrev aF:=rI0 λi j=>.bl (decide (i<j))
abbrev aG:=rI0 λi j=>.int (i-j)
abbrev aH:=rI CMulB λi j=>.int (i*j)
abbrev sS(Q:VK):qT:={nx:=λ_ a=>Q .non a,rt:=Q}
def top(i:Nat):ax:=PySem.Challenge.pw_forerun_k44_settled_and_again.main.body.getD i (.Pass ⟨0,0,0,0⟩)
abbrev kB:ax:=top 39
abbrev Xb:ax:=top 38
abbrev Zh:ax:=top 40
abbrev Yb:ax:=top 41
abbrev qh:ax:=top 46
abbrev Xc:ax:=zZ (top 13) 0
abbrev Ww:ax:=zZ (top 15) 0
abbrev Wx:ax:=zZ (top 27) 0
abbrev Zi:ax:=zZ (top 27) 4
abbrev kC:ax:=zZ (top 27) 9
abbrev VV:ax:=zZ (top 25) 1
abbrev K4:ax:=top 20
abbrev K7:ax:=top 21
abbrev VW:ax:=top 17
abbrev zbc:ax:=top 22
abbrev VX:ax:=top 23
abbrev Zj:ax:=zZ (top 25) 5
abbrev Zk:ax:=zZ (top 25) 6
abbrev VY:ax:=zZ (top 25) 2
abbrev ju:ax:=zZ (top 13) 8
abbrev Xd:ax:=top 10
abbrev Xe:ax:=zZ (top 13) 1
abbrev Wy:ax:=zZ (top 25) 9
abbrev VZ:ax:=zZ (top 25) 8
abbrev Xf:ax:=zZ (top 25) 7
abbrev V0:ax:=zZ (top 25) 3
abbrev vF:ax:=zZ (top 15) 4
abbrev wN:ax:=zZ (top 15) 5
abbrev Wz:ax:=top 12
abbrev qG:ax:=zZ (top 15) 2
abbrev kD:ax:=zZ (top 34) 0
abbrev kE:ax:=zZ (top 35) 1
abbrev Xg:ax:=zZ (top 33) 0
abbrev V1:ax:=zZ (top 25) 0
abbrev qH:ax:=zZ (top 27) 11
abbrev jv:ax:=zZ (top 27) 10
abbrev jx:ax:=zZ (top 13) 6
abbrev jA:ax:=zZ (top 13) 9
abbrev V2:ax:=top 11
abbrev WA:ax:=zZ (top 13) 2
abbrev v3:ax:=zZ (top 13) 7
abbrev Xh:ax:=zZ (top 15) 3
abbrev qI:ax:=zZ (top 15) 1
abbrev WB:ax:=zZ (top 25) 4
abbrev WC:ax:=zZ (top 27) 2
abbrev Yc:ax:=zZ (top 27) 3
abbrev V3:ax:=zZ (top 27) 1
abbrev Yd:ax:=top 50
abbrev WD:ax:=top 48
abbrev WE:ax:=top 49
abbrev V4:ax:=top 51
abbrev Ye:ax:=top 52
abbrev Xi:ax:=top 47
abbrev Xj:ax:=top 53
abbrev jB:ax:=top 54
abbrev Zl:ax:=top 37
abbrev Yf:ax:=top 30
abbrev V5:ax:=top 29
abbrev K8:ax:=top 31
abbrev Zm:ax:=zZ (top 35) 0
abbrev WF:ax:=top 42
abbrev WG:ax:=top 43
abbrev V6:ax:=top 44
abbrev Zn:ax:=top 45
abbrev zfG:ax:=top 55
theorem Xk:aL ["word"] ["word"] (zk kB):=.m
theorem q0h:aL ["cell","many","found","one","two","k"] ["cell","many"] (zk Xb):=.m
theorem q0l:aL ["cell","letters","word","one","at","letter"] ["cell"] (zk Zh):=.m
theorem V7:aL ["number"] ["number"] (zk Yb):=.m
theorem q0p:aL ["cell","shelves","xs","found","k","worth"] ["cell","shelves"] (zk qh):=.m
theorem JT:aL ["self","table"] ["self","table"] (zk Xc):=.m
theorem QT:aL ["self","makes"] ["self","makes"] (zk Ww):=.m
theorem QU:aL ["self","table","hands","way","first"] ["self","table","hands","way","first"] (zk Wx):=.m
theorem WX:aL ["self"] ["self"] (zk Zi):=.m
theorem Xl:aL ["self"] ["self"] (zk kC):=.m
theorem zbd:aL ["self"] ["self"] (zk VV):=.m
theorem zcs:aL ["word","first","second"] ["word","first","second"] (zk K4):=.m
theorem zct:aL ["word","first","second"] ["word","first","second"] (zk K7):=.m
theorem zbe:aL ["thing"] ["thing"] (zk VW):=.m
theorem q1c:aL ["word","first","second","worth"] ["word","first","second"] (zk zbc):=.m
theorem q0q:aL ["term","slots","worths","part","second","first"] ["term","slots"] (zk VX):=.m
theorem WY:aL ["self","term"] ["self","term"] (zk Zj):=.m
theorem WZ:aL ["self","due"] ["self","due"] (zk Zk):=.m
theorem q1d:aL ["self","place"] ["self"] (zk VY):=.m
theorem YG:aL ["self","rank"] ["self","rank"] (zk ju):=.m
theorem q0m:aL ["ranks","rank","low","high","amid"] ["ranks","rank"] (zk Xd):=.m
theorem q12:aL ["self","place","rank","ranks","below"] ["self","place","rank"] (zk Xe):=.m
theorem QV:aL ["self","place","worth"] ["self","place","worth"] (zk Wy):=.m
theorem q1e:aL ["self","due","worth","place"] ["self","due","worth"] (zk VZ):=.m
theorem JU:aL ["self","due","worth"] ["self","due","worth"] (zk Xf):=.m
theorem zbf:aL ["self","worth"] ["self","worth"] (zk V0):=.m
theorem q0w:aL ["self","rank","place","worth","now"] ["self","rank"] (zk vF):=.m
theorem q0x:aL ["self","ranks","rank","note"] ["self"] (zk wN):=.m
theorem q1f:aL ["ranks_at","place","rank","ranks"] ["ranks_at","place","rank"] (zk Wz):=.m
theorem q0y:aL ["self","rank","paper","place","worth"] ["self","rank"] (zk qG):=.m
theorem Xm:aL ["self","ranks"] ["self","ranks"] (zk kD):=.m
theorem q1g:aL ["self","ranks","at"] ["self","ranks"] (zk kE):=.m
theorem JV:aL ["self","ranks"] ["self","ranks"] (zk Xg):=.m
theorem zbg:aL ["self","code"] ["self","code"] (zk V1):=.m
theorem q1h:aL ["self","hand","rank"] ["self","hand"] (zk qH):=.m
theorem q13:aL ["self","hand","lowest","changed"] ["self","hand"] (zk jv):=.m
theorem YH:aL ["self","rank"] ["self","rank"] (zk jx):=.m
theorem q14:aL ["self","rank","places","place"] ["self","rank"] (zk jA):=.m
theorem q1i:aL ["ranks_at","place","rank","ranks"] ["ranks_at","place","rank"] (zk V2):=.m
theorem q15:aL ["self","rank","gifts","worths","place"] ["self","rank","gifts"] (zk WA):=.m
theorem q16:aL ["self","place","rank","ranks","above"] ["self","place","rank"] (zk v3):=.m
theorem q0r:aL ["self","place","rank","readers","above","behind","reader"] ["self","place","rank"] (zk Xh):=.m
theorem q0s:aL ["self","rank","paper","before","place","worth"] ["self","rank","paper"] (zk qI):=.m
theorem q1j:aL ["self","notes"] ["self"] (zk WB):=.m
theorem q0t:aL ["self","hand","rank","run","place","worth"] ["self","hand"] (zk WC):=.m
theorem q1k:aL ["self","told"] ["self"] (zk Yc):=.m
theorem q1l:aL ["self","code","rank"] ["self","code"] (zk V3):=.m
theorem V8:aL ["waiting","kind","count"] ["waiting","kind","count"] (zk Yd):=.m
theorem q0n:aL ["table","laid","place","rank","other","spot","worth"] ["table","laid","place","rank"] (zk WD):=.m
theorem q0z:aL ["table","laid","paper","rank","place","worth","now"] ["table","laid","paper","rank"] (zk WE):=.m
theorem q17:aL ["hand","table","laid","papers","done","first","waiting","kind","count","at","news"] ["hand","table","laid","papers","done","first","waiting","kind","count"] (zk V4):=.m
theorem V9:aL ["run","row","rank","laid","papers","first"] ["run","row","rank","laid","papers","first"] (zk Ye):=.m
theorem q18:aL ["found","due","one","other"] ["found","due"] (zk Xi):=.m
theorem q1m:aL ["row","hand","codes","table","first","kind","runs","ranks","laid","papers","waiting","counts","due"] ["row","hand","codes","table","first","kind","runs","ranks","laid","papers","waiting","counts"] (zk Xj):=.m
theorem q09:aL ["desk","hands","codes","table","first","kind","asked","script","papers","runs","ranks","laid","waiting","counts","cell","hand","row","code","rows"] ["desk","hands","codes","table","first","kind","asked","script"] (zk jB):=.m
theorem W0:aL ["script","k"] ["script","k"] (zk Zl):=.m
theorem q10:aL ["row","at","steps","to","others"] ["row","at"] (zk Yf):=.m
theorem q19:aL ["rows","first","steps","row"] ["rows","first"] (zk V5):=.m
theorem zcu:aL ["rows"] ["rows"] (zk K8):=.m
theorem W1:aL ["self"] ["self"] (zk Zm):=.m
theorem q1n:aL ["number","slots","kind"] ["number","slots"] (zk WF):=.m
theorem q1a:aL ["number","slots","words","kind"] ["number","slots"] (zk WG):=.m
theorem q0o:aL ["xs","shelves","slots","kind","shelf","slot","spot","term"] ["xs","shelves","slots"] (zk V6):=.m
theorem q0i:aL ["cell","shelves","slots","xs","rows","at","to","row"] ["cell","shelves","slots"] (zk Zn):=.m
theorem q0a:aL ["script","shelves","slots","table","codes","hands","kind","first","way","asked","k","desk","count"] ["script"] (zk zfG):=.m
set_option genSizeOf false in
set_option genInjectivity false in
set_option genInjectivity false in
structure aZ where
 a0:D
 d0:Bc
 a1:D
 d1:Bc
 a2:D
 d2:Bc
 a3:D
 d3:Bc
 a4:D
 d4:Bc
 a5:D
 d5:Bc
 a6:D
 d6:Bc
 a7:D
 d7:Bc
 a8:D
 d8:Bc
 a9:D
 d9:Bc
 a10:D
 d10:Bc
 a11:D
 d11:Bc
 a12:D
 d12:Bc
 a13:D
 d13:Bc
 a14:D
 d14:Bc
 a15:D
 d15:Bc
 a16:D
 d16:Bc
 a17:D
 d17:Bc
 a18:D
 d18:Bc
 a19:D
 d19:Bc
 a20:D
 d20:Bc
 a21:D
 d21:Bc
 a22:D
 d22:Bc
 a23:D
 d23:Bc
 a24:D
 d24:Bc
 a25:D
 d25:Bc
 a26:D
 d26:Bc
 a27:D
 d27:Bc
 a28:D
 d28:Bc
 a29:D
 d29:Bc
 a30:D
 d30:Bc
 a31:D
 d31:Bc
 a32:D
 d32:Bc
 a33:D
 d33:Bc
 a34:D
 d34:Bc
 a35:D
 d35:Bc
 a36:D
 d36:Bc
 a37:D
 d37:Bc
 a38:D
 d38:Bc
 a39:D
 d39:Bc
 a40:D
 d40:Bc
 a41:D
 d41:Bc
 a42:D
 d42:Bc
 a43:D
 d43:Bc
 a44:D
 d44:Bc
 a45:D
 d45:Bc
 a46:D
 d46:Bc
 a47:D
 d47:Bc
 a48:D
 d48:Bc
 a49:D
 d49:Bc
 a50:D
 d50:Bc
 a51:D
 d51:Bc
 a52:D
 d52:Bc
 a53:D
 d53:Bc
 a54:D
 d54:Bc
 a55:D
 d55:Bc
 a56:D
 d56:Bc
 a57:D
 d57:Bc
 a58:D
 d58:Bc
 a59:D
 d59:Bc
 a60:D
 d60:Bc
 a61:D
 d61:Bc
 a62:D
 d62:Bc
 a63:D
 d63:Bc
 a64:D
 d64:Bc
 q0u:D
 q01:D
 q08:D
 q0c:D
 q03:D
 q02:D
 q07:D
 q00:D
 q05:D
 q0d:D
structure Txt(K:bw)(mg:Str->Option ae)(t:aZ):Prop where
 m_law:mg "law"=U (.ref t.a64)
 g_JOINING:mg "JOINING"=U (.ref t.q0u)
 g_Desk:mg "Desk"=U (.ref t.q01)
 g_Great:mg "Great"=U (.ref t.q08)
 g_Highest:mg "Highest"=U (.ref t.q0c)
 g_Jobs:mg "Jobs"=U (.ref t.q03)
 g_Makes:mg "Makes"=U (.ref t.q02)
 g_Nought:mg "Nought"=U (.ref t.q07)
 g_Run:mg "Run"=U (.ref t.q00)
 g_Turning:mg "Turning"=U (.ref t.q05)
 g_Way:mg "Way"=U (.ref t.q0d)
 me_Run_step:Qq K t.q00 "step" t.a25
 q0e:tR K t.q01
 mk_Desk:Mk K t.q01 t.a7
 q1o:tR K t.q0c
 mo_Highest:MkO K t.q0c
 q0j:tR K t.q03
 mk_Jobs:Mk K t.q03 t.a6
 q0f:tR K t.q02
 mk_Makes:Mk K t.q02 t.a5
 q06:tR K t.q00
 mk_Run:Mk K t.q00 t.a33
 q11:tR K t.q05
 mk_Turning:Mk K t.q05 t.a59
 q1p:tR K t.q0d
 mo_Way:MkO K t.q0d
 g0:FG K mg "_law_free_name" kB ["word"] t.a0 t.d0
 g1:FG K mg "_law_draws" Xb ["cell","many"] t.a1 t.d1
 g2:FG K mg "_law_pair" Zh ["cell"] t.a2 t.d2
 g3:FG K mg "_law_number" Yb ["number"] t.a3 t.d3
 g4:FG K mg "_law_table" qh ["cell","shelves"] t.a4 t.d4
 q1u:Fun K "__init__" "Makes.__init__" Xc t.a5 t.d5
 q1v:ti K t.d5 ["self","table"] []
 q1w:Fun K "__init__" "Jobs.__init__" Ww t.a6 t.d6
 q1x:ti K t.d6 ["self","makes"] []
 q1y:FunD K "__init__" "Desk.__init__" Wx t.a7 t.d7
 q1z:ti K t.d7 ["self","table","hands","way","first"] []
 g8:FM K t.q01 "settled" "Desk.settled" Zi ["self"] t.a8 t.d8
 g9:FM K t.q01 "next_rank" "Desk.next_rank" kC ["self"] t.a9 t.d9
 g10:FM K t.q00 "over" "Run.over" VV ["self"] t.a10 t.d10
 g11:FG K mg "divided" K4 ["word","first","second"] t.a11 t.d11
 g12:FG K mg "come_to" K7 ["word","first","second"] t.a12 t.d12
 g13:FG K mg "is_worth" VW ["thing"] t.a13 t.d13
 g14:FG K mg "joined" zbc ["word","first","second"] t.a14 t.d14
 g15:FG K mg "reckoned" VX ["term","slots"] t.a15 t.d15
 g16:FM K t.q00 "worth_of" "Run.worth_of" Zj ["self","term"] t.a16 t.d16
 g17:FM K t.q00 "place_in" "Run.place_in" Zk ["self","due"] t.a17 t.d17
 g18:FM K t.q00 "asks" "Run.asks" VY ["self"] t.a18 t.d18
 g19:FM K t.q02 "heed_fold" "Makes.heed_fold" ju ["self","rank"] t.a19 t.d19
 g20:FG K mg "many_below" Xd ["ranks","rank"] t.a20 t.d20
 g21:FM K t.q02 "seen" "Makes.seen" Xe ["self","place","rank"] t.a21 t.d21
 g22:FM K t.q00 "taken" "Run.taken" Wy ["self","place","worth"] t.a22 t.d22
 g23:FM K t.q00 "does" "Run.does" VZ ["self","due","worth"] t.a23 t.d23
 g24:FM K t.q00 "led_by" "Run.led_by" Xf ["self","due","worth"] t.a24 t.d24
 q20:FunD K "step" "Run.step" V0 t.a25 t.d25
 q1q:ti K t.d25 ["self","worth"] []
 bd_Run_step:∃ds,aR [.int 0] ds/\ti K t.d25 ["self","worth"] ds
 g26:FM K t.q03 "changed_note" "Jobs.changed_note" vF ["self","rank"] t.a26 t.d26
 g27:FM K t.q03 "lowest_changed" "Jobs.lowest_changed" wN ["self"] t.a27 t.d27
 g28:FG K mg "drop_rank" Wz ["ranks_at","place","rank"] t.a28 t.d28
 g29:FM K t.q03 "take_off" "Jobs.take_off" qG ["self","rank"] t.a29 t.d29
 g30:FM K t.q0c "chosen" "Highest.chosen" kD ["self","ranks"] t.a30 t.d30
 g31:FM K t.q05 "chosen" "Turning.chosen" kE ["self","ranks"] t.a31 t.d31
 g32:FM K t.q0d "chosen" "Way.chosen" Xg ["self","ranks"] t.a32 t.d32
 q21:Fun K "__init__" "Run.__init__" V1 t.a33 t.d33
 q1r:ti K t.d33 ["self","code"] []
 g34:FM K t.q01 "taken_up" "Desk.taken_up" qH ["self","hand"] t.a34 t.d34
 g35:FM K t.q01 "moved_free" "Desk.moved_free" jv ["self","hand"] t.a35 t.d35
 g36:FM K t.q02 "places_of" "Makes.places_of" jx ["self","rank"] t.a36 t.d36
 g37:FM K t.q02 "take_away" "Makes.take_away" jA ["self","rank"] t.a37 t.d37
 g38:FG K mg "put_rank" V2 ["ranks_at","place","rank"] t.a38 t.d38
 g39:FM K t.q02 "lay" "Makes.lay" WA ["self","rank","gifts"] t.a39 t.d39
 g40:FM K t.q02 "next_above" "Makes.next_above" v3 ["self","place","rank"] t.a40 t.d40
 g41:FM K t.q03 "doubt" "Jobs.doubt" Xh ["self","place","rank"] t.a41 t.d41
 g42:FM K t.q03 "lay_down" "Jobs.lay_down" qI ["self","rank","paper"] t.a42 t.d42
 g43:FM K t.q00 "paper" "Run.paper" WB ["self"] t.a43 t.d43
 g44:FM K t.q01 "move" "Desk.move" WC ["self","hand"] t.a44 t.d44
 g45:FM K t.q01 "finish" "Desk.finish" Yc ["self"] t.a45 t.d45
 g46:FM K t.q01 "add" "Desk.add" V3 ["self","code"] t.a46 t.d46
 g47:FG K mg "_law_choice" Yd ["waiting","kind","count"] t.a47 t.d47
 g48:FG K mg "_law_seen" WD ["table","laid","place","rank"] t.a48 t.d48
 g49:FG K mg "_law_news" WE ["table","laid","paper","rank"] t.a49 t.d49
 g50:FG K mg "_law_due" V4 ["hand","table","laid","papers","done","first","waiting","kind","count"] t.a50 t.d50
 g51:FG K mg "_law_follow" Ye ["run","row","rank","laid","papers","first"] t.a51 t.d51
 g52:FG K mg "_law_alike" Xi ["found","due"] t.a52 t.d52
 g53:FG K mg "_law_moved" Xj ["row","hand","codes","table","first","kind","runs","ranks","laid","papers","waiting","counts"] t.a53 t.d53
 g54:FG K mg "_law_walk" jB ["desk","hands","codes","table","first","kind","asked","script"] t.a54 t.d54
 g55:FG K mg "_law_cell_at" Zl ["script","k"] t.a55 t.d55
 g56:FG K mg "block_steps" Yf ["row","at"] t.a56 t.d56
 g57:FG K mg "steps_of" V5 ["rows","first"] t.a57 t.d57
 g58:FG K mg "code_of" K8 ["rows"] t.a58 t.d58
 q22:Fun K "__init__" "Turning.__init__" Zm t.a59 t.d59
 q23:ti K t.d59 ["self"] []
 g60:FG K mg "_law_spot" WF ["number","slots"] t.a60 t.d60
 g61:FG K mg "_law_term" WG ["number","slots"] t.a61 t.d61
 g62:FG K mg "_law_row" V6 ["xs","shelves","slots"] t.a62 t.d62
 g63:FG K mg "_law_rows" Zn ["cell","shelves","slots"] t.a63 t.d63
 q24:Fun K "law" "law" zfG t.a64 t.d64
 q30:ti K t.d64 ["script"] []
 w_law:∀(s:af) (v:ae),BindsTo s t.d64 ⟨[v],[]⟩ [("script",v)]
 q1s:mg "bool"=ak
 q1t:mg "dict"=ak
 b_int:mg "int"=ak
 q0b:mg "isinstance"=ak
 q04:mg "len"=ak
 q0g:mg "list"=ak
 q0k:mg "range"=ak
 q0v:mg "sorted"=ak
 q1b:mg "str"=ak
 b_tuple:mg "tuple"=ak
 b_zip:mg "zip"=ak
 q25:∀H:Hp,sW K H t.q0u [.str "plus",.str "minus",.str "times",.str "over",.str "rest",.str "under",.str "same"]
 q26:aP K t.q01 "codes"
 q27:aP K t.q01 "ended"
 q28:aP K t.q01 "first"
 q29:aP K t.q01 "hands"
 q2a:aP K t.q01 "held"
 q2b:aP K t.q01 "jobs"
 q2c:aP K t.q01 "makes"
 q2d:aP K t.q01 "waiting"
 q2e:aP K t.q01 "way"
 q2f:aP K t.q03 "doubted"
 q2g:aP K t.q03 "laid"
 q2h:aP K t.q03 "makes"
 q2i:aP K t.q03 "readers"
 q2j:aP K t.q02 "folded"
 q2k:aP K t.q02 "ground"
 q2l:aP K t.q02 "ranks"
 q2m:aP K t.q02 "worths"
 q2n:aP K t.q00 "at"
 q2o:aP K t.q00 "code"
 q2p:aP K t.q00 "gifts"
 q2q:aP K t.q00 "notes"
 q2r:aP K t.q00 "sayings"
 q2s:aP K t.q00 "slots"
 q2t:aP K t.q00 "why"
 q2u:aP K t.q05 "times"
 q2v:sL K t.q07 zeH QD=ah
 y_Nought:ExK K t.q07
 q2w:oN K (.ref t.q07) (.ref t.q08)=U ao
 q2x:oN K (.ref t.q07) (.ref t.q07)=U ah
 m_Nought_Great_Nought:W.exmAny K (.ref t.q07) [.ref t.q08,.ref t.q07]=U ah
 q2y:sL K t.q08 zeH QD=ah
 y_Great:ExK K t.q08
 q2z:oN K (.ref t.q08) (.ref t.q08)=U ah
 q31:oN K (.ref t.q08) (.ref t.q07)=U ao
 m_Great_Great_Nought:W.exmAny K (.ref t.q08) [.ref t.q08,.ref t.q07]=U ah
structure KF(K:bw):Prop where
 i_b:fS K (.type "int") (.type "bool")=U ao
 i_s:fS K (.type "int") (.type "str")=U ao
 s_i:fS K (.type "str") (.type "int")=U ao
 i_l:fS K (.type "int") (.type "list")=U ao
 i_t:fS K (.type "int") (.type "tuple")=U ao
 s_l:fS K (.type "str") (.type "list")=U ao
 s_t:fS K (.type "str") (.type "tuple")=U ao
 t_l:fS K (.type "tuple") (.type "list")=U ao
def fin(t:aZ)(r:Except Er Int)(Q:VK)(E:XK)(H:Hp):Prop:=match r with
 |.ok i=>Q (.int i) H
 |.error .nought=>E (.ref t.q07) ak H
 |.error .great=>E (.ref t.q08) ak H
 |.error .stuck=>True
def zfH(t:aZ)(e:Er)(E:XK)(H:Hp):Prop:=match e with
 |.nought=>E (.ref t.q07) ak H
 |.great=>E (.ref t.q08) ak H
 |.stuck=>True
def zg0(K:bw):Prop:=fS K (.type "int") (.type "bool")=U ao
def sT(H:Hp)(b:D)(a:List Str):Prop:=H b=U (.lst (a.map V.str))/\∀w∈a,yU w=ah
def YI:Rw->Prop
 |.off _=>False
 |.iff _ _ _=>False
 |_=>True
def WH:Sp:=λb H Q _=>∃i,b=[.int i]/\∀a,aJ H a->Q (.bl (tw i)) a
inductive qk (t:aZ) (vs:List V) (H:Hp) (Q:VK) (E:XK):Prop
 |mk (w a b):vs=[.str w,.int a,.int b]->w.length<=1000->tw a=ah->tw b=ah->(∀H',aJ H H'->if b=0 then E (.ref t.q07) ak H' else Q (.int (if w="over" then a.fdiv b else a.fmod b)) H')->qk t vs H Q E
inductive ql (t:aZ) (vs:List V) (H:Hp) (Q:VK) (E:XK):Prop
 |mk (w a b):vs=[.str w,.int a,.int b]->w.length<=1000->tw a=ah->tw b=ah->(∀H',aJ H H'->if VE w/\b=0 then E (.ref t.q07) ak H' else Q (.int (VD w a b)) H')->ql t vs H Q E
inductive ZX (t:aZ) (vs:List V) (H:Hp) (Q:VK) (E:XK):Prop
 |mk (w a b):vs=[.str w,.int a,.int b]->w.length<=1000->tw a=ah->tw b=ah->(∀H',aJ H H'->fin t (kj w a b) Q E H')->ZX t vs H Q E
inductive Zo (t:aZ) (vs:List V) (H:Hp) (Q:VK) (E:XK):Prop
 |mk (aI tm sl ps r):vs=[.ref tm,.ref sl]->H tm=U (.tup ps)->H sl=U (.dK aI)->Good aI ps r->(∀v∈ps,qe v)->ps.length<=1000->xg aI->(∀H',aJ H H'->fin t r Q E H')->Zo t vs H Q E
inductive Cs where
 |row (r:Rw)
 |skip (e:List V) (to:Nat)
 |go (en:Nat)
def hU.isNil:hU->Bool
 |.nil=>ah
 |.cons _ _=>ao
def blk(e:List V)(k:Nat)(A:List Cs)(a:Bool)(B:List Cs):List Cs :=
 if a=ah then .skip e (k+1+A.length)::A else .skip e (k+2+A.length)::(A++(.go (k+2+A.length+B.length)::B))
mutual
def xF:Rw->Nat->List Cs
 |.iff e a b,k=>blk e k (yc a (k+1)) (hU.isNil b) (yc b (k+2+(yc a (k+1)).length))
 |r,_=>[.row r]
def yc:hU->Nat->List Cs
 |.nil,_=>[]
 |.cons r rs,k=>xF r k++yc rs (k+(xF r k).length)
end
def Ja:Rw->Prop
 |.iff _ _ _=>False
 |_=>True
def tE(H:Hp)(v:V):Cs->Prop
 |.row r=>pv JR H v r/\Ja r
 |.skip e b=>∃p a,v=.ref p/\H p=U (.tup [.str "skip",.ref a,.int (b:Nat)])/\H a=U (.tup e)
 |.go c=>∃p,v=.ref p/\H p=U (.tup [.str "go",.int (c:Nat)])
structure W2(n:Nat)(r:hU):Prop where
 dp:r.deep<n
 ct:r.cnt<=500
 pl:Ze r
def Zp(n:Nat):Sp:=λf H Q _=>∃v e a b,∃k:Nat,f=[v,.int k]/\pv JR H v (.iff e a b)/\W2 n a/\W2 n b/\k+(xF (.iff e a b) k).length<=500/\∀l d c,aJ H c->c l=U (.lst d)->Paired (tE c) d (xF (.iff e a b) k)->Q (.ref l) c
def wt(n:Nat):Sp:=λc H Q _=>∃v r,∃k:Nat,c=[v,.int k]/\RlAt JR H v r/\W2 n r/\k+(yc r k).length<=500/\∀l b a,aJ H a->H l=ak->a l=U (.lst b)->Paired (tE a) b (yc r k)->Q (.ref l) a
inductive YJ (vs:List V) (H:Hp) (Q:VK) (_E:XK):Prop
 |mk (v r):vs=[v]->RlAt JR H v r->W2 6 r->(yc r 0).length<=500->(∀l xs H',aJ H H'->H l=ak->H' l=U (.lst xs)->Paired (tE H') xs (yc r 0)->Q (.ref l) H')->YJ vs H Q _E
structure aY where
 n:Nat
 why:Option Str
 sl:List (aU×V)
 gi:List aN
 no:List aN
 sa:List Int
structure RAd where
 dx:D
 co:D
 sl:D
 gi:D
 no:D
 sa:D
def zjA:Option Str->V
 |none=>.non
 |some w=>.str w
def ziu(a:RAd)(s:aY):List (Str×V):=[(bh "code",.ref a.co),(bh "at",.int s.n),(bh "why",zjA s.why),(bh "slots",.ref a.sl),(bh "gifts",.ref a.gi),(bh "notes",.ref a.no),(bh "sayings",.ref a.sa)]
structure aX(t:aZ)(H:Hp)(x:D)(a:RAd)(C:List Cs)(s:aY):Prop where
 ix:H x=U (.ins t.q00 a.dx (ziu a s))
 hc:∃xs,H a.co=U (.lst xs)/\Paired (tE H) xs C
 hs:H a.sl=U (.dK s.sl)
 hg:H a.gi=U (.dT (sY s.gi))
 hn:H a.no=U (.dT (sY s.no))
 ha:H a.sa=U (.lst (s.sa.map V.int))
 ng:a.gi≠a.no
 nc:a.co≠a.sa
def Ow(x:D)(a:RAd)(b:D):Prop:=b=x\/b=a.sl\/b=a.gi\/b=a.no\/b=a.sa
def OwA(x:D)(a:RAd)(b:D):Prop:=Ow x a b\/b=a.co
def Kp(x:D)(a:RAd)(H c:Hp):Prop:=∀b o,¬ Ow x a b->H b=U o->c b=U o
def K9(x:D)(H a:Hp):Prop:=∀b o,b≠x->H b=U o->a b=U o
structure RnOk(m:Nat)(s:aY):Prop where
 so:xg s.sl
 gw:∀r∈s.gi,tw r.2=ah
 nw:∀r∈s.no,tw r.2=ah
 l1:s.sl.length<=m
 l2:s.gi.length<=m
 l3:s.no.length<=m
 l4:s.sa.length<=m
 nd:(s.no.map (·.1)).Nodup
def QW:Cs->Prop
 |.row r=>Zd r
 |.skip e _=>bv e
 |.go _=>True
def yH(C:List Cs)(s:aY):Bool:=s.why.isSome || decide (C.length<=s.n)
def kF(p:Pl)(w:Int)(s:aY):aY:=if (zE s.gi p).isSome=ah\/(zE s.no p).isSome=ah then s else { s with no:=s.no++[(p,w)] }
def Jb(p:Pl)(w:Int)(s:aY):Int:=(zE s.gi p).getD ((zE s.no p).getD w)
def tQ:Rw->Int->aY->Except Er aY
 |.take sh e x,w,s=>match rk s.sl e with
  |.error er=>.error er
  |.ok n=>.ok { kF (sh,n) w s with sl:=yJ s.sl (.inr x) (.int (Jb (sh,n) w s)) }
 |.give sh e f,_,s=>match rk s.sl e with
  |.error er=>.error er
  |.ok n=>match rk s.sl f with
   |.error er=>.error er
   |.ok i=>.ok { s with gi:=s.gi++[((sh,n),i)] }
 |.lt x e,_,s=>match rk s.sl e with
  |.error er=>.error er
  |.ok i=>.ok { s with sl:=yJ s.sl (.inr x) (.int i) }
 |.say e,_,s=>match rk s.sl e with
  |.error er=>.error er
  |.ok i=>.ok { s with sa:=s.sa++[i] }
 |_,_,s=>.ok s
def vN:Cs->Int->aY->Except Er (Nat×aY)
 |.go k,_,s=>.ok (k,s)
 |.skip e to,_,s=>match rk s.sl e with
  |.error er=>.error er
  |.ok i=>.ok (if i=0 then to else s.n+1,s)
 |.row (.off e),_,s=>match rk s.sl e with
  |.error er=>.error er
  |.ok i=>.ok (s.n+1,if i=0 then s else { s with why:=U (bh "told") })
 |.row r,w,s=>match tQ r w s with
  |.error er=>.error er
  |.ok s'=>.ok (s.n+1,s')
def xx(c:Cs)(w:Int)(s:aY):aY:=match vN c w s with
 |.ok (k,s')=>{ s' with n:=k }
 |.error er=>{ s with why:=U (za4 er) }
def xw(C:List Cs)(w:Int)(s:aY):aY:=if yH C s=ah then s else match C[s.n]? with
 |none=>s
 |some c=>xx c w s
def kG(c:Cs)(s:aY):Option Pl:=match c with
 |.row (.take sh e _)=>match rk s.sl e with
  |.error _=>ak
  |.ok n=>if (zE s.gi (sh,n)).isSome=ah\/(zE s.no (sh,n)).isSome=ah then ak else U (sh,n)
 |_=>ak
def jC(C:List Cs)(s:aY):Option Pl:=if yH C s=ah then ak else (C[s.n]?).bind λc=>kG c s
abbrev zbh(H:Hp)(v:V)(q:aN):Prop:=PrAt H v q
abbrev YK(H:Hp)(a:List V)(b:List aN):Prop:=Paired (PrAt H) a b
def tq(H:Hp)(a:D)(c:List aN):Prop:=∃b,H a=U (.lst b)/\Paired (PrAt H) b c
def zg1(H:Hp)(v:V):Oc->Prop
 |.done sa=>∃o y,v=.ref o/\H o=U (.tup [.str "done",.ref y])/\H y=U (.tup (sa.map V.int))
 |.off w=>∃o,v=.ref o/\H o=U (.tup [.str "off",.str w])
def zg2(s:aY):Oc:=match s.why with
 |some w=>.off w
 |none=>.done s.sa
def qW(s:aY)(a:List aN):Prop:=match s.why with
 |some _=>a=[]
 |none=>tJ a/\∀p w,(p,w)∈a↔zE s.gi p=U w
structure RnF(K:bw)(t:aZ):Prop where
 cl:tR K t.q00
 n1:aP K t.q00 "code"
 n2:aP K t.q00 "at"
 n3:aP K t.q00 "why"
 n4:aP K t.q00 "slots"
 n5:aP K t.q00 "gifts"
 n6:aP K t.q00 "notes"
 n7:aP K t.q00 "sayings"
def st0:aY:=⟨0,ak,[],[],[],[]⟩
inductive jD (t:aZ) (vs:List V) (H:Hp) (Q:VK) (_E:XK):Prop
 |mk (x l dx xs) (C:List Cs):vs=[.ref x,.ref l]->H x=U (.ins t.q00 dx [])->H l=U (.lst xs)->Paired (tE H) xs C->(∀H' a,K9 x H H'->aX t H' x a C st0->(∀b,OwA x a b->b=x\/H b=ak)->Q .non H')->jD t vs H Q _E
inductive xm (t:aZ) (vs:List V) (H:Hp) (Q:VK) (_E:XK):Prop
 |mk (x) (a:RAd) (C:List Cs) (s:aY):vs=[.ref x]->aX t H x a C s->(∀H',aJ H H'->Q (.bl (yH C s)) H')->xm t vs H Q _E
inductive yt (t:aZ) (vs:List V) (H:Hp) (Q:VK) (E:XK):Prop
 |mk (x tm e) (a:RAd) (C:List Cs) (s:aY):vs=[.ref x,.ref tm]->aX t H x a C s->xg s.sl->H tm=U (.tup e)->bv e->(∀H',aJ H H'->fin t (rk s.sl e) Q E H')->yt t vs H Q E
inductive yN (t:aZ) (vs:List V) (H:Hp) (Q:VK) (E:XK):Prop
 |mk (x p xs sh te e) (a:RAd) (C:List Cs) (s:aY):vs=[.ref x,.ref p]->aX t H x a C s->xg s.sl->H p=U (.tup xs)->ub xs 1=U (.str sh)->ub xs 2=U (.ref te)->H te=U (.tup e)->bv e->((∀i q H',rk s.sl e=.ok i->aJ H H'->H' q=U (.tup [.str sh,.int i])->Q (.ref q) H'))->(∀er H',rk s.sl e=.error er->aJ H H'->zfH t er E H')->yN t vs H Q E
inductive vO (t:aZ) (vs:List V) (H:Hp) (Q:VK) (_E:XK):Prop
 |mk (x q) (p:Pl) (w) (a:RAd) (C:List Cs) (s:aY):vs=[.ref x,.ref q,.int w]->aX t H x a C s->H q=U (.tup [.str p.1,.int p.2])->s.no.length<=900->(∀H',Kp x a H H'->aX t H' x a C (kF p w s)->Q (.int (Jb p w s)) H')->vO t vs H Q _E
inductive jE (t:aZ) (vs:List V) (H:Hp) (Q:VK) (E:XK):Prop
 |mk (x v r w) (m:Nat) (a:RAd) (C:List Cs) (s:aY):vs=[.ref x,v,.int w]->aX t H x a C s->pv JR H v r->YI r->Zd r->RnOk m s->m<=900->((∀H' s',tQ r w s=.ok s'->Kp x a H H'->aX t H' x a C s'->Q .non H'))->(∀H' er,tQ r w s=.error er->aJ H H'->zfH t er E H')->jE t vs H Q E
inductive wX (t:aZ) (vs:List V) (H:Hp) (Q:VK) (E:XK):Prop
 |mk (x v c w) (m:Nat) (a:RAd) (C:List Cs) (s:aY):vs=[.ref x,v,.int w]->aX t H x a C s->tE H v c->QW c->RnOk m s->m<=900->((∀H' s' k,vN c w s=.ok (k,s')->Kp x a H H'->aX t H' x a C s'->Q (.int (k:Nat)) H'))->(∀H' er,vN c w s=.error er->aJ H H'->zfH t er E H')->wX t vs H Q E
def xL(t:aZ):Sp:=λd H Q _=>∃x w,∃m:Nat,∃a:RAd,∃C:List Cs,∃s:aY,d=[.ref x,.int w]/\aX t H x a C s/\(∀c∈C,QW c)/\RnOk m s/\m<=900/\∀b,Kp x a H b->aX t b x a C (xw C w s)->Q .non b
inductive jF (t:aZ) (vs:List V) (H:Hp) (Q:VK) (_E:XK):Prop
 |mk (x) (a:RAd) (C:List Cs) (s:aY):vs=[.ref x]->aX t H x a C s->(∀c∈C,QW c)->xg s.sl->((∀H',jC C s=ak->aJ H H'->Q .non H'))->(∀p q H',jC C s=U p->aJ H H'->H' q=U (.tup [.str p.1,.int p.2])->Q (.ref q) H')->jF t vs H Q _E
inductive xR (t:aZ) (vs:List V) (H:Hp) (Q:VK) (_E:XK):Prop
 |mk (x) (a:RAd) (C:List Cs) (s:aY):vs=[.ref x]->aX t H x a C s->s.no.length<=900->(s.no.map (·.1)).Nodup->s.gi.length<=63->((∀H',yH C s=ao->aJ H H'->Q .non H'))->(∀r o nl gl out H',yH C s=ah->aJ H H'->H nl=ak->H gl=ak->nl≠gl->H' r=U (.tup [o,.ref nl,.ref gl])->zg1 H' o (zg2 s)->tq H' nl s.no->tq H' gl out->qW s out->Q (.ref r) H')->xR t vs H Q _E
def wdJ(w:Str):Prop:=isJ (.str w)=ah/\w.length<=1000/\ca w=ah
def lfV(v:V):Prop:=(∃i,v=.int i/\tw i=ah)\/∃x,v=.str x/\yU x=ah
def okD(d:Int):Prop:=0<=d/\d<1000000000000
inductive yk (K:bw) (vs:List V) (H:Hp) (Q:VK) (_E:XK):Prop
 |mk (a) (ns:List Int) (k:Nat):vs=[.ref a,.int k]->aQ K H a (ns.map V.int)->ns.length<=63->(∀i∈ns,Cb i)->(∀c H',aJ H H'->Cb c->Q (.int c) H')->yk K vs H Q _E
def xA:Sp:=λe H Q _=>∃c,∃m:Nat,e=[.int c,.int m]/\m<=22/\∀(l:D) (a:List Int) (b:Hp),aJ H b->H l=ak->b l=U (.lst (a.map V.int))->a.length=m->(∀d∈a,okD d)->Q (.ref l) b
def Xn(P:Nat->Bool)(x:Str):Prop:=x.cps.toList.all P=ah
def smW(w:Str):Prop:=1<=w.length/\w.length<=6/\Xn inL w
def yA:Sp:=λb H Q _=>∃w,b=[.str w]/\smW w/\∀x a,yU x=ah->aJ H a->Q (.str x) a
def vP:Sp:=λe H Q _=>∃c,e=[.int c]/\∀a d b,aJ H b->H a=ak->sT b a d->d.length=2->Q (.ref a) b
def xj:Sp:=λb H Q _=>∃n,b=[.int n]/\0<=n/\n<1000000000000/\∀w a,tw w=ah->aJ H a->Q (.int w) a
inductive vQ (vs:List V) (H:Hp) (Q:VK) (_E:XK):Prop
 |mk (n a ws):vs=[.int n,.ref a]->okD n->sT H a ws->ws.length=2->(∀p e H',aJ H H'->H p=ak->H' p=U (.tup e)->bv e->tmP e->Q (.ref p) H')->vQ vs H Q _E
inductive wB (vs:List V) (H:Hp) (Q:VK) (_E:XK):Prop
 |mk (n a ws):vs=[.int n,.ref a]->okD n->sT H a ws->ws.length=2->(∀p e H',aJ H H'->H p=ak->H' p=U (.tup e)->bv e->tmP e->Q (.ref p) H')->wB vs H Q _E
inductive wY (vs:List V) (H:Hp) (Q:VK) (_E:XK):Prop
 |mk (c a ws):vs=[.int c,.ref a]->sT H a ws->ws.length=2->(∀l tab H',aJ H H'->H l=ak->tq H' l tab->tJ tab->(∀r∈tab,ca r.1.1=ah/\tw r.2=ah/\r.2≠0)->tab.length<=5->Q (.ref l) H')->wY vs H Q _E
mutual
def szR:Rw->Nat
 |.iff _ a b=>Zq a+Zq b+2
 |_=>1
def Zq:hU->Nat
 |.nil=>0
 |.cons r rs=>szR r+Zq rs
end
def zg3:Cs->Prop
 |.row r=>VR r
 |_=>True
structure zbi(C:List Cs):Prop where
 ok:∀c∈C,QW c
 pl:∀c∈C,zg3 c
 fw:∀(i to:Nat) (e:List V),C[i]?=U (Cs.skip e to)->i<to
 fg:∀(i to:Nat),C[i]?=U (Cs.go to)->i<to
 le:C.length<=40
structure RnI(C:List Cs)(m:Nat)(s:aY):Prop where
 ok:RnOk m s
 ng:∀r∈s.gi,ca r.1.1=ah
 nn:∀r∈s.no,ca r.1.1=ah
 at_:s.why=ak->m<=s.n
 wy:∀w,s.why=U w->ca w=ah
def zjB(C:List Cs)(a:Pl->Int)(s:aY):Int:=match jC C s with
 |none=>0
 |some p=>a p
def zjC(C:List Cs)(a:Pl->Int)(s:aY):aY:=xw C (zjB C a s) s
def zjD(C:List Cs)(a:Pl->Int):Nat->aY->aY
 |0,s=>s
 |k+1,s=>zjD C a k (zjC C a s)
noncomputable def giS(s:aY):List aN:=@Classical.epsilon (List aN) ⟨[]⟩ (qW s)
inductive AlkV (H:Hp):Nat->V->V->Prop
 |int {n:Nat} (i:Int):AlkV H (n+1) (.int i) (.int i)
 |str {n:Nat} (x:Str):AlkV H (n+1) (.str x) (.str x)
 |tup {n:Nat} {a b:D} {xs ys:List V}:H a=U (.tup xs)->H b=U (.tup ys)->xs.length=ys.length->(∀(i:Nat) (x y:V),xs[i]?=U x->ys[i]?=U y->AlkV H n x y)->AlkV H (n+1) (.ref a) (.ref b)
def x6(n:Nat):Sp:=λb H Q _=>∃v u,b=[v,u]/\AlkV H n v u/\∀a,aJ H a->Q (.bl ah) a
structure rwW(r:Rw):Prop where
 nf:Ja r
 pl:VR r
 ok:Zd r
inductive jG (vs:List V) (H:Hp) (Q:VK) (_E:XK):Prop
 |mk (p a b) (ds:List Int) (us ws:List Str):vs=[.ref p,.ref a,.ref b]->H p=U (.lst (ds.map V.int))->ds.length=3->(∀d∈ds,okD d)->sT H a us->us.length=2->sT H b ws->ws.length=2->(∀v r H',aJ H H'->pv (λb=>H b=ak) H' v r->rwW r->Q v H')->jG vs H Q _E
def hU.of:List Rw->hU
 |[]=>.nil
 |r::rs=>.cons r (hU.of rs)
structure zg4(rs:List Rw):Prop where
 dp:(hU.of rs).deep<=1
 pl:Ze (hU.of rs)
 ok:Ya (hU.of rs)
 sz:(rs.map λr=>match r with|.iff _ a b=>a.cnt+b.cnt+3|_=>1).sum<=11
inductive vR (vs:List V) (H:Hp) (Q:VK) (_E:XK):Prop
 |mk (c a b) (us ws:List Str):vs=[.int c,.ref a,.ref b]->sT H a us->us.length=2->sT H b ws->ws.length=2->(∀l rs H',aJ H H'->RlAt (λb=>H b=ak) H' (.ref l) (hU.of rs)->zg4 rs->Q (.ref l) H')->vR vs H Q _E
def Jc(p:Pl)(a:Int):List aN->Int×Int->Int×Int
 |[],s=>s
 |r::rs,s=>Jc p a rs (if r.1=p then (a,r.2) else s)
def wO(p:Pl)(a:Int):List (Int×List aN)->Int×Int->Int×Int
 |[],s=>s
 |l::ls,s=>wO p a ls (if s.1<l.1/\l.1<a then Jc p l.1 l.2 s else s)
def yj(c:List aN)(a:List (Int×List aN))(p:Pl)(b:Int):Int:=(wO p b a (-1,(zE c p).getD 0)).2
structure W3(gs:List aN):Prop where
 nd:(gs.map (·.1)).Nodup
 le:gs.length<=63
def v5(a:List (Int×List aN))(p:Pl)(r:Int):Prop:=∃b,(r,b)∈a/\p∈b.map (·.1)
structure sU(H:Hp)(rk:D)(F:D->Prop)(P:Pl->Int->Prop)(aI:List (List aU×V)):Prop where
 at_:H rk=U (.dT aI)
 nk:(aI.map (·.1)).Nodup
 nv:(aI.map (·.2)).Nodup
 ls:∀kv∈aI,∃(p:Pl) (a:D) (rs:List Int),kv=(zC p,.ref a)/\F a/\H a=U (.lst (rs.map V.int))/\rs.Pairwise (· < ·)/\rs≠[]/\∀r,r∈rs↔P p r
 al:∀p r,P p r->zC p∈aI.map (·.1)
def zbj(H:Hp)(rk:D)(F:D->Prop)(a:aU×V)(y:Int×List aN):Prop:=a.1=.inl y.1/\∃d,a.2=.ref d/\F d/\d≠rk/\H d=U (.dT (sY y.2))
def YL(c:D)(a:Int)(b rk:D):List (Str×V):=[(bh "ground",.ref c),(bh "folded",.int a),(bh "worths",.ref b),(bh "ranks",.ref rk)]
structure MrIn(t:aZ)(H:Hp)(m:D)(F:D->Prop)(g:List aN)(l:List (Int×List aN))(low:Int)(dx gr wo rk:D)(wk:List (aU×V))(kk:List (List aU×V)):Prop where
 im:H m=U (.ins t.q02 dx (YL gr low wo rk))
 fg:F gr
 fw:F wo
 fk:F rk
 nr:gr≠rk
 hg:H gr=U (.dT (sY g))
 hw:H wo=U (.dK wk)
 wp:Paired (zbj H rk F) wk l
 rr:sU H rk F (v5 l) kk
theorem sU.keep{H H':Hp}{rk:D}{F F':D->Prop}{P:Pl->Int->Prop}(h:sU H rk F P aI)(d:F rk)(k:∀b o,F b->H b=U o->H' b=U o)(f:∀b,F b->F' b):sU H' rk F' P aI:=
 ⟨k _ _ d h.at_,h.nk,h.nv,λkv c=>let ⟨p,a,rs,e,fa,ha,z⟩:=h.ls kv c;⟨p,a,rs,e,f a fa,k _ _ fa ha,z⟩,h.al⟩
theorem MrIn.keep{H H':Hp}{m:D}{F:D->Prop}{g:List aN}{l:List (Int×List aN)}{low:Int}{dx gr wo rk:D}{wk:List (aU×V)}{kk:List (List aU×V)}(h:MrIn t H m F g l low dx gr wo rk wk kk)(f:F m)(k:∀b o,F b->H b=U o->H' b=U o):MrIn t H' m F g l low dx gr wo rk wk kk:=
 ⟨k _ _ f h.im,h.fg,h.fw,h.fk,h.nr,k _ _ h.fg h.hg,k _ _ h.fw h.hw,Paired.mapP h.wp λ_ _ ⟨e,d,j,a,c,i⟩=>⟨e,d,j,a,c,k _ _ a i⟩,h.rr.keep h.fk k λ_ z=>z⟩
structure tL(t:aZ)(H:Hp)(m:D)(F:D->Prop)(g:List aN)(l:List (Int×List aN))(low:Int):Prop where
 own:∀b,F b->∃o,H b=U o
 me:F m
 nd:(l.map (·.1)).Nodup
 ok:∀y∈l,0<=y.1/\W3 y.2
 ex:∃dx gr wo rk wk kk,MrIn t H m F g l low dx gr wo rk wk kk
theorem kH{i b rk:D}{a:Int}(h:f≠bh "ground"/\f≠bh "folded"/\f≠bh "worths"/\f≠bh "ranks"):cW f (YL i a b rk)=ak:=by
 obtain⟨g,e,d,c⟩:=h;simp only[YL,cf,beq_eq_false_iff_ne.mpr g,beq_eq_false_iff_ne.mpr e,beq_eq_false_iff_ne.mpr d,beq_eq_false_iff_ne.mpr c,List.lookup_nil]
theorem tL.ins{H:Hp}{F:D->Prop}{l:List (Int×List aN)}{low:Int}(h:tL t H m F g l low):∃dx a,H m=U (.ins t.q02 dx a)/\cW (bh "lay") a=ak/\cW (bh "seen") a=ak/\cW (bh "kept") a=ak/\cW (bh "fold") a=ak/\cW (bh "table_for") a=ak:=by
 obtain⟨dx,gr,wo,rk,wk,kk,z⟩:=h.ex;exact⟨dx,_,z.im,kH (),kH (),kH (),kH (),kH ()⟩
theorem tL.keep{H H':Hp}{F:D->Prop}{l:List (Int×List aN)}{low:Int}(h:tL t H m F g l low)(k:∀b o,F b->H b=U o->H' b=U o):tL t H' m F g l low:=
 ⟨λb a=>let ⟨o,e⟩:=h.own b a;⟨o,k b o a e⟩,h.me,h.nd,h.ok,let ⟨dx,gr,wo,rk,wk,kk,z⟩:=h.ex;⟨dx,gr,wo,rk,wk,kk,z.keep h.me k⟩⟩
def tF(t:aZ)(H:Hp)(m:D)(F:D->Prop)(g:List aN)(l:List (Int×List aN)):Prop:=tL t H m F g l 0
theorem tF.own{H:Hp}{F:D->Prop}{l:List (Int×List aN)}(h:tF t H m F g l):∀b,F b->∃o,H b=U o:=tL.own h
theorem tF.me{H:Hp}{F:D->Prop}{l:List (Int×List aN)}(h:tF t H m F g l):F m:=tL.me h
theorem tF.ins{H:Hp}{F:D->Prop}{l:List (Int×List aN)}(h:tF t H m F g l):∃f e,H m=U (.ins t.q02 f e)/\cW (bh "lay") e=ak/\cW (bh "seen") e=ak/\cW (bh "kept") e=ak:=let ⟨f,e,a,b,c,d,_⟩:=tL.ins h;⟨f,e,a,b,c,d⟩
theorem tF.keep{H H':Hp}{F:D->Prop}{l:List (Int×List aN)}(h:tF t H m F g l)(k:∀b o,F b->H b=U o->H' b=U o)(c:∀b a,H b=U (.tup a)->H' b=U (.tup a)):tF t H' m F g l:=tL.keep h k
theorem tF.same{H a:Hp}{F:D->Prop}{l:List (Int×List aN)}(h:tF t H m F g l)(s:aJ H a):tF t a m F g l:=h.keep (λb o _ e=>s b o e) λb c e=>s b _ e
def xl(a:List (Int×List aN))(b:Int)(c:List aN):List (Int×List aN):=(a.filter λy=>decide (y.1≠b))++[(b,c)]
inductive yK (vs:List V) (H:Hp) (Q:VK) (_E:XK):Prop
 |mk (a) (rs:List Int) (ac):vs=[.ref a,.int ac]->H a=U (.lst (rs.map V.int))->rs.Pairwise (· < ·)->(∀(k:Nat) H',aJ H H'->k<=rs.length->(∀r∈rs.take k,r<ac)->(∀r∈rs.drop k,ac<=r)->Q (.int k) H')->yK vs H Q _E
inductive xp (t:aZ) (vs:List V) (H:Hp) (Q:VK) (_E:XK):Prop
 |mk (m dx) (fs:List (Str×V)) (low ac):vs=[.ref m,.int ac]->H m=U (.ins t.q02 dx fs)->fs.lookup (bh "folded")=U (.int low)->low<=ac->(∀H',aJ H H'->Q .non H')->xp t vs H Q _E
def JW(a:List (Int×List aN))(b:Int):List (Int×List aN):=a.filter λy=>decide (y.1≠b)
def mt(G:D->Prop)(rk:D)(H c:Hp):Prop:=∀b o,H b=U o->b≠rk->((∀a,o≠.lst a)\/¬ G b)->c b=U o
def Dm(H d:Hp):Prop:=∀b o,H b=U o->∃c,d b=U c/\∀a,c=.tup a->o=.tup a
inductive vh (vs:List V) (H:Hp) (Q:VK) (_E:XK):Prop
 |mk (rk pl ac) (G:D->Prop) (P:Pl->Int->Prop) (kk:List (List aU×V)) (q0:Pl):vs=[.ref rk,.ref pl,.int ac]->sU H rk G P kk->G rk->((∀b,H b=ak->G b))->H pl=U (.tup ((zC q0).map kV))->¬ P q0 ac->kk.length<=18900->((∀rs:List Int,rs.Pairwise (· < ·)->(∀r∈rs,P q0 r)->rs.length<=300))->(∀H' kk',mt G rk H H'->Dm H H'->sU H' rk G (λp r=>P p r\/(r=ac/\p=q0)) kk'->Q .non H')->vh vs H Q _E
inductive xS (vs:List V) (H:Hp) (Q:VK) (_E:XK):Prop
 |mk (rk pl ac) (G:D->Prop) (P:Pl->Int->Prop) (kk) (q0:Pl):vs=[.ref rk,.ref pl,.int ac]->sU H rk G P kk->G rk->H pl=U (.tup ((zC q0).map kV))->P q0 ac->(∀H' kk',mt G rk H H'->Dm H H'->sU H' rk G (λp r=>P p r/\¬ (r=ac/\p=q0)) kk'->Q .non H')->xS vs H Q _E
inductive yG (t:aZ) (vs:List V) (H:Hp) (Q:VK) (_E:XK):Prop
 |mk (m ac F g lays low):vs=[.ref m,.int ac]->tL t H m F g lays low->(∀l ys gs H',aJ H H'->H l=ak->H' l=U (.lst ys)->Paired (zcp H') ys (sY gs)->((ac,gs)∈lays\/(ac ∉ lays.map (·.1)/\gs=[]))->Q (.ref l) H')->yG t vs H Q _E
inductive xq (t:aZ) (vs:List V) (H:Hp) (Q:VK) (_E:XK):Prop
 |mk (m ac F g lays low):vs=[.ref m,.int ac]->tL t H m F g lays low->(∀H' F',(∀b o,¬ F b->H b=U o->H' b=U o)->(∀b zs,H b=U (.tup zs)->H' b=U (.tup zs))->tL t H' m F' g (JW lays ac) low->(∀b,F' b->F b\/H b=ak)->(∀b,F b->F' b)->Q .non H')->xq t vs H Q _E
inductive wZ (t:aZ) (vs:List V) (H:Hp) (Q:VK) (_E:XK):Prop
 |mk (x h dx aM):vs=[.ref x,.ref h]->H x=U (.ins t.q02 dx [])->tq H h aM->aM.length<=63->(∀H' F,K9 x H H'->tF t H' x F aM []->(∀b,F b->b=x\/H b=ak)->Q .non H')->wZ t vs H Q _E
inductive qm (t:aZ) (vs:List V) (H:Hp) (Q:VK) (_E:XK):Prop
 |mk (m ac gv F g lays gs):vs=[.ref m,.int ac,.ref gv]->tF t H m F g lays->0<=ac->tq H gv gs->¬ F gv->W3 gs->lays.length<=200->(∀H' F',(∀b o,¬ F b->H b=U o->H' b=U o)->(∀b zs,H b=U (.tup zs)->H' b=U (.tup zs))->tF t H' m F' g (xl lays ac gs)->(∀b,F' b->F b\/H b=ak)->(∀b,F b->F' b)->Q .non H')->qm t vs H Q _E
inductive w6 (t:aZ) (vs:List V) (H:Hp) (Q:VK) (_E:XK):Prop
 |mk (m p ac F g lays q):vs=[.ref m,.ref p,.int ac]->tF t H m F g lays->0<=ac->H p=U (.tup [.str q.1,.int q.2])->(∀H',aJ H H'->Q (.int (yj g lays q ac)) H')->w6 t vs H Q _E
inductive Ev where
 |rest
 |step (r:Int)
 |read (r:Int) (p:Pl) (w:Int)
 |take (r:Int)
 |lay (r:Int)
 |settle (r:Int)
 |again (r:Int) (p:Pl) (o n:Int)
abbrev He:=Int×Ev
def evW:Ev->Str
 |.rest=>"rest"
 |.step _=>"step"
 |.read ..=>"read"
 |.take _=>"take"
 |.lay _=>"lay"
 |.settle _=>"settle"
 |.again ..=>"again"
def evX(q:D):Ev->List V
 |.rest=>[]
 |.step r=>[.int r]
 |.read r _ w=>[.int r,.ref q,.int w]
 |.take r=>[.int r]
 |.lay r=>[.int r]
 |.settle r=>[.int r]
 |.again r _ o n=>[.int r,.ref q,.int o,.int n]
def evP:Ev->Option Pl
 |.read _ p _=>U p
 |.again _ p _ _=>U p
 |_=>ak
def tG(H:Hp)(v:V)(x:He):Prop:=∃a q,v=.ref a/\H a=U (.tup (.str (evW x.2)::.int x.1::evX q x.2))/\∀p,evP x.2=U p->H q=U (.tup [.str p.1,.int p.2])
structure DS where
 ws:List Int
 hl:List (Int×Int×Nat×aY)
 ld:List (Int×aY×List aN)
 ls:List (Int×List aN)
 en:Nat
 es:List (aY×List aN)
 wk:Nat
 wc:Nat
def Z3{a:Type}(l:List (Int×a))(h:Int)(b:a):List (Int×a):=l.map λe=>if e.1=h then (h,b) else e
def yg{a:Type}(l:List (Int×a))(h:Int):List (Int×a):=l.filter λe=>decide (e.1≠h)
def ui(g:List aN)(b:List (Int×List aN))(r:Int)(a:List aN):Prop:=∀y∈a,yj g b y.1 r=y.2
def FsN(g:List aN)(b:List (Int×List aN))(r:Int)(a:List aN)(y:aN):Prop:=∃i:Nat,a[i]?=U y/\ui g b r (a.take i)/\yj g b y.1 r≠y.2
def chI(k n c:Nat):Nat:=if k=0 then 0 else if k=1 then n-1 else c%n
def chW(k:Nat)(a:List Int)(c:Nat):Int:=a.getD (chI k a.length c) 0
inductive Mv (f:Int) (g:List aN) (CC:List (List Cs)) (S:DS) (h:Int):Ev->DS->Prop
 |step {r j s C}:(h,r,j,s)∈S.hl->CC[(r-f).toNat]?=U C->yH C s=ao->jC C s=ak->Mv f g CC S h (.step r) { S with hl:=Z3 S.hl h (r,j+1,xw C 0 s) }
 |read {r j s C p}:(h,r,j,s)∈S.hl->CC[(r-f).toNat]?=U C->yH C s=ao->jC C s=U p->Mv f g CC S h (.read r p (yj g S.ls p r)) { S with hl:=Z3 S.hl h (r,j+1,xw C (yj g S.ls p r) s) }
 |lay {r j s C gi}:(h,r,j,s)∈S.hl->CC[(r-f).toNat]?=U C->yH C s=ah->qW s gi->Mv f g CC S h (.lay r) { S with hl:=yg S.hl h,ls:=xl S.ls r gi,ld:=S.ld++[(r,s,gi)] }
 |settle {s gi}:(f+S.en,s,gi)∈S.ld->ui g S.ls (f+S.en) s.no->h ∉ S.hl.map (·.1)->Mv f g CC S h (.settle (f+S.en)) { S with ld:=yg S.ld (f+S.en),en:=S.en+1,es:=S.es++[(s,gi)] }
 |again {r s gi p o ws'}:(r,s,gi)∈S.ld->FsN g S.ls r s.no (p,o)->(∀e∈S.ld,e.1<r->ui g S.ls e.1 e.2.1.no)->(f+(S.en:Int)∈S.ld.map (·.1)->r=f+S.en)->ws'.Perm (r::S.ws)->ws'.Pairwise (· < ·)->h ∉ S.hl.map (·.1)->Mv f g CC S h (.again r p o (yj g S.ls p r)) { S with ld:=yg S.ld r,ws:=ws' }
 |take {r}:r∈S.ws->r=chW S.wk S.ws S.wc->(∀e∈S.ld,ui g S.ls e.1 e.2.1.no)->f+(S.en:Int) ∉ S.ld.map (·.1)->h ∉ S.hl.map (·.1)->Mv f g CC S h (.take r) { S with ws:=S.ws.erase r,hl:=S.hl++[(h,r,0,st0)],wc:=S.wc+1 }
 |rest:S.ws=[]->(∀e∈S.ld,ui g S.ls e.1 e.2.1.no)->f+(S.en:Int) ∉ S.ld.map (·.1)->h ∉ S.hl.map (·.1)->Mv f g CC S h .rest S
structure zcv(no gi:List aN):Prop where
 nd:(no.map (·.1)).Nodup
 ng:(gi.map (·.1)).Nodup
 ln:no.length<=40
 lg:gi.length<=40
def vS(f:Int)(k n:Nat):List Int:=(eB (n-k)).map λi:Nat=>f+(k:Int)+(i:Int)
structure ziv(CC:List (List Cs)):Prop where
 ok:∀C∈CC,zbi C/\C.length<=11
 le:CC.length<=5
structure hV(n f:Int)(g:List aN)(CC:List (List Cs))(S:DS):Prop where
 f0:0<=f
 cc:ziv CC
 el:S.en<=CC.length
 pm:(S.ws++(S.hl.map (·.2.1)++S.ld.map (·.1))).Perm (vS f S.en CC.length)
 so:S.ws.Pairwise (· < ·)
 hn:(S.hl.map (·.1)).Nodup
 hr:∀e∈S.hl,0<=e.1/\e.1<n
 rn:∀e∈S.hl,∃C,CC[(e.2.1-f).toNat]?=U C/\RnI C e.2.2.1 e.2.2.2/\e.2.2.1<=11
 nt:∀e∈S.ld,zcv e.2.1.no e.2.2
 ly:∀y∈S.ls,f<=y.1/\y.1<f+CC.length
 gw:∀p,tw ((zE g p).getD 0)=ah
 lw:∀y∈S.ls,∀w∈y.2,tw w.2=ah
structure tW where
 dx:D
 wy:D
 dw:D
 cl:D
 wl:D
 hd:D
 mks:D
 jb:D
 dj:D
 en:D
 la:D
 re:D
 db:D
def Xo(a:tW)(n f:Int):List (Str×V):=[(bh "hands",.int n),(bh "way",.ref a.wy),(bh "first",.int f),(bh "codes",.ref a.cl),(bh "waiting",.ref a.wl),(bh "held",.ref a.hd),(bh "makes",.ref a.mks),(bh "jobs",.ref a.jb),(bh "ended",.ref a.en)]
def JX(m b a c:D):List (Str×V):=[(bh "makes",.ref m),(bh "laid",.ref b),(bh "readers",.ref a),(bh "doubted",.ref c)]
def dbL(a:List Int):List (aU×V):=a.map λr=>(.inl r,.bl ah)
def tZ(t:aZ)(d:D)(a:tW)(n f:Int)(c:HO)(j:List V)(b:List Int)(g e:List (aU×V))(i:List Int)(h:List V):List (D×HO):=[(d,.ins t.q01 a.dx (Xo a n f)),(a.wy,c),(a.jb,.ins t.q03 a.dj (JX a.mks a.la a.re a.db)),(a.cl,.lst j),(a.wl,.lst (b.map V.int)),(a.hd,.dK g),(a.la,.dK e),(a.db,.dK (dbL i)),(a.en,.lst h)]
def uh(H:Hp)(v:V)(C:List Cs):Prop:=∃a b,v=.ref a/\H a=U (.lst b)/\Paired (tE H) b C
structure tj(t:aZ)(H:Hp)(lb:D->Nat)(Bo:List (D×HO))(m re:D)(g:List aN)(lays:List (Int×List aN))(P:Pl->Int->Prop)(cs:List V)(CC:List (List Cs)):Prop where
 ob:∀(i:Nat) b o,Bo[i]?=U (b,o)->H b=U o/\lb b=i+1
 ms:tF t H m (λb=>lb b=10) g lays
 rr:∃kk,sU H re (λb=>lb b=11) P kk
 rl:lb re=11
 cc:Paired (λv C=>uh H v C/\∀c,v=.ref c->lb c=13) cs CC
 ow:∀b,lb b≠0->∃o,H b=U o
structure Fr(M:Nat->Prop)(H H':Hp)(lb lb':D->Nat):Prop where
 ex:∀b o,H b=U o->lb' b=lb b
 kp:∀b o,M (lb b)->H b=U o->H' b=U o
 ts:∀b zs,H b=U (.tup zs)->H' b=U (.tup zs)
 al:∀b o,H b=U o->∃o',H' b=U o'
def M0(l:Nat):Prop:=l=0\/l=14
def M1(l:Nat):Prop:=l=0\/14<=l
inductive tT (H:Hp) (lb:D->Nat) (r:D) (s:aY) (gi:List aN):Prop
 |mk (o nl gl):H r=U (.tup [o,.ref nl,.ref gl])->zg1 H o (zg2 s)->tq H nl s.no->tq H gl gi->lb nl=14->lb gl=14->tT H lb r s gi
def Pk{a:Type}(R:Int->V->a->Prop)(b:List (aU×V))(l:List (Int×a)):Prop:=Paired (λx e=>x.1=.inl e.1/\R e.1 x.2 e.2) b l
inductive HdAt (t:aZ) (H:Hp) (lb:D->Nat) (f:Int) (CC:List (List Cs)) (h:Int) (v:V) (e:Int×Nat×aY):Prop
 |mk (tp x ra C):v=.ref tp->H tp=U (.tup [.int e.1,.ref x])->CC[(e.1-f).toNat]?=U C->aX t H x ra C e.2.2->(∀b,OwA x ra b->lb b=20+h.toNat)->HdAt t H lb f CC h v e
def YM(H:Hp)(a:D->Nat)(_:Int)(v:V)(e:aY×List aN):Prop:=∃r,v=.ref r/\tT H a r e.1 e.2
def tO(ld:List (Int×aY×List aN))(p:Pl)(i:Int):Prop:=∃e∈ld,e.1=i/\p∈e.2.1.no.map (·.1)
def zg5(t:aZ)(a:tW)(b:HO)(k c:Nat):Prop:=(k=0/\b=.ins t.q0d a.dw [])\/(k=1/\b=.ins t.q0c a.dw [])\/(k=2/\b=.ins t.q05 a.dw [(bh "times",.int c)])
structure DbOk(ld:List (Int×aY×List aN))(db:List Int):Prop where
 nd:db.Nodup
 su:∀r∈db,r∈ld.map (·.1)
structure EnI(H:Hp)(lb:D->Nat)(en:List V)(k:Nat)(es:List (aY×List aN)):Prop where
 le:en.length=k
 ps:Paired (YM H lb 0) en es
structure DbA(g:List aN)(lays:List (Int×List aN))(ld:List (Int×aY×List aN))(db:List Int):Prop where
 wk:DbOk ld db
 ag:∀e∈ld,e.1 ∉ db->ui g lays e.1 e.2.1.no
inductive tM (t:aZ) (H:Hp) (d:D) (a:tW) (lb:D->Nat) (n f:Int) (g:List aN) (CC:List (List Cs)) (S:DS):Prop
 |mk (wo cs kv la db en):tj t H lb (tZ t d a n f wo cs S.ws kv la db en) a.mks a.re g S.ls (tO S.ld) cs CC->Pk (HdAt t H lb f CC) kv S.hl->Pk (YM H lb) la S.ld->DbA g S.ls S.ld db->EnI H lb en S.en S.es->zg5 t a wo S.wk S.wc->tM t H d a lb n f g CC S
structure DkF(K:bw)(t:aZ):Prop where
 cD:tR K t.q01
 cJ:tR K t.q03
 cT:tR K t.q05
 d1:aP K t.q01 "hands"
 d2:aP K t.q01 "way"
 d3:aP K t.q01 "first"
 d4:aP K t.q01 "codes"
 d5:aP K t.q01 "waiting"
 d6:aP K t.q01 "held"
 d7:aP K t.q01 "makes"
 d8:aP K t.q01 "jobs"
 d9:aP K t.q01 "ended"
 j1:aP K t.q03 "makes"
 j2:aP K t.q03 "laid"
 j3:aP K t.q03 "readers"
 j4:aP K t.q03 "doubted"
 t1:aP K t.q05 "times"
def NxA(a:List (Int×List aN))(q:Pl)(b:Int)(v:V):Prop:=(v=.non/\∀r,v5 a q r->r<=b)\/∃i,v=.int i/\v5 a q i/\b<i/\∀r,v5 a q r->b<r->i<=r
inductive xh (t:aZ) (vs:List V) (H:Hp) (Q:VK) (_E:XK):Prop
 |mk (m p ac F g lays q):vs=[.ref m,.ref p,.int ac]->tF t H m F g lays->H p=U (.tup ((zC q).map kV))->(∀v H',aJ H H'->NxA lays q ac v->Q v H')->xh t vs H Q _E
def qo(t:aZ):Sp:=λf H Q _=>∃x m e,f=[.ref x,.ref m]/\H x=U (.ins t.q03 e [])/\∀a b d c,K9 x H a->a x=U (.ins t.q03 e (JX m b d c))->a b=U (.dK [])->a d=U (.dT [])->a c=U (.dK [])->H b=ak->H d=ak->H c=ak->b≠c->Q .non a
structure JD where
 d:D
 a:tW
 lb:D->Nat
 n:Int
 f:Int
 wo:HO
 cs:List V
 ws:List Int
 kv:List (aU×V)
 la:List (aU×V)
 db:List Int
 en:List V
 g:List aN
 lays:List (Int×List aN)
 ld:List (Int×aY×List aN)
 CC:List (List Cs)
def JD.O(J:JD)(t:aZ)(H:Hp):Prop:=tj t H J.lb (tZ t J.d J.a J.n J.f J.wo J.cs J.ws J.kv J.la J.db J.en) J.a.mks J.a.re J.g J.lays (tO J.ld) J.cs J.CC
inductive jS (t:aZ) (vs:List V) (H:Hp) (Q:VK) (_E:XK):Prop
 |mk (J:JD) (p ac) (q:Pl):vs=[.ref J.a.jb,.ref p,.int ac]->J.O t H->DbOk J.ld J.db->J.ld.length<=10->H p=U (.tup ((zC q).map kV))->(∀H' db',Fr M1 H H' J.lb J.lb->JD.O { J with db:=db' } t H'->DbOk J.ld db'->(∀y∈J.db,y∈db')->(∀r,tO J.ld q r->ac<r->(∀i,v5 J.lays q i->ac<i->r<=i)->r∈db')->Q .non H')->jS t vs H Q _E
inductive wR (t:aZ) (vs:List V) (H:Hp) (Q:VK) (_E:XK):Prop
 |mk (J:JD) (r ac) (s:aY) (gi:List aN):vs=[.ref J.a.jb,.int ac,.ref r]->J.O t H->Pk (YM H J.lb) J.la J.ld->DbA J.g J.lays J.ld J.db->(∀e∈J.ld,zcv e.2.1.no e.2.2)->J.ld.length<=10->ac ∉ J.ld.map (·.1)->0<=ac->J.lays.length<=10->tT H J.lb r s gi->zcv s.no gi->(∀H' lb' la' db',Fr M1 H H' J.lb lb'->JD.O { J with lb:=lb',la:=la',db:=db',lays:=xl J.lays ac gi,ld:=J.ld++[(ac,s,gi)] } t H'->Pk (YM H' lb') la' (J.ld++[(ac,s,gi)])->DbA J.g (xl J.lays ac gi) (J.ld++[(ac,s,gi)]) db'->Q .non H')->wR t vs H Q _E
inductive xM (t:aZ) (vs:List V) (H:Hp) (Q:VK) (_E:XK):Prop
 |mk (d:D) (a:tW) (lb:D->Nat) (Bo la) (g:List aN) (lays:List (Int×List aN)) (P:Pl->Int->Prop) (cs CC ac r) (s:aY) (gi:List aN):vs=[.ref a.jb,.int ac]->tj t H lb Bo a.mks a.re g lays P cs CC->Bo[2]?=U (a.jb,.ins t.q03 a.dj (JX a.mks a.la a.re a.db))->Bo[6]?=U (a.la,.dK la)->yf la (.inl ac)=U (.ref r)->0<=ac->tT H lb r s gi->((∀H',aJ H H'->ui g lays ac s.no->Q .non H'))->(∀v H' q y,aJ H H'->FsN g lays ac s.no y->H' v=U (.tup [.ref q,.int y.2,.int (yj g lays y.1 ac)])->H' q=U (.tup [.str y.1.1,.int y.1.2])->Q (.ref v) H')->xM t vs H Q _E
inductive xt (t:aZ) (vs:List V) (H:Hp) (Q:VK) (_E:XK):Prop
 |mk (J:JD):vs=[.ref J.a.jb]->J.O t H->Pk (YM H J.lb) J.la J.ld->DbA J.g J.lays J.ld J.db->J.ld.length<=10->(J.ld.map (·.1)).Nodup->(∀e∈J.ld,0<=e.1)->((∀H',Fr M1 H H' J.lb J.lb->JD.O { J with db:=[] } t H'->DbA J.g J.lays J.ld []->Q .non H'))->(∀v H' db' q r s gi y,Fr M1 H H' J.lb J.lb->JD.O { J with db:=db' } t H'->DbA J.g J.lays J.ld db'->(∀x∈db',r<=x)->(r,s,gi)∈J.ld->FsN J.g J.lays r s.no y->H' v=U (.tup [.int r,.ref q,.int y.2,.int (yj J.g J.lays y.1 r)])->H' q=U (.tup [.str y.1.1,.int y.1.2])->Q (.ref v) H')->xt t vs H Q _E
inductive xT (t:aZ) (vs:List V) (H:Hp) (Q:VK) (_E:XK):Prop
 |mk (J:JD) (ac:Int) (s:aY) (gi:List aN):vs=[.ref J.a.jb,.int ac]->J.O t H->Pk (YM H J.lb) J.la J.ld->DbA J.g J.lays J.ld J.db->(J.ld.map (·.1)).Nodup->(ac,s,gi)∈J.ld->(s.no.map (·.1)).Nodup->(∀r H' lb' la' db',Fr M1 H H' J.lb lb'->JD.O { J with lb:=lb',la:=la',db:=db',ld:=yg J.ld ac } t H'->Pk (YM H' lb') la' (yg J.ld ac)->DbA J.g J.lays (yg J.ld ac) db'->tT H' lb' r s gi->Q (.ref r) H')->xT t vs H Q _E
def qJ(t:aZ):Sp:=λb H Q _=>∃x a,b=[.ref x]/\H x=U (.ins t.q05 a [])/\Q .non (upd H x (.ins t.q05 a [(bh "times",.int 0)]))
inductive wC (t:aZ) (vs:List V) (H:Hp) (Q:VK) (_E:XK):Prop
 |mk (x l w dx dw n f wo) (g:List aN):vs=[.ref x,.ref l,.int n,.ref w,.int f]->H x=U (.ins t.q01 dx [])->tq H l g->g.length<=63->H w=U wo->w≠x->(∀H' a lb,a.wy=w->a.dw=dw->(∀b o,b≠x->H b=U o->H' b=U o)->(∀b o,b≠x->b≠w->H b=U o->lb b=0)->tj t H' lb (tZ t x a n f wo [] [] [] [] [] []) a.mks a.re g [] (tO []) [] []->Q .non H')->wC t vs H Q _E
inductive xz (t:aZ) (vs:List V) (H:Hp) (Q:VK) (_E:XK):Prop
 |mk (d dx) (a:tW) (n f) (en:List V):vs=[.ref d]->H d=U (.ins t.q01 dx (Xo a n f))->H a.en=U (.lst en)->Q (.int (f+en.length)) H->xz t vs H Q _E
inductive xG (t:aZ) (vs:List V) (H:Hp) (Q:VK) (_E:XK):Prop
 |mk (d dx) (a:tW) (n f) (cs:List V):vs=[.ref d]->H d=U (.ins t.q01 dx (Xo a n f))->H a.cl=U (.lst cs)->Q (.int (f+cs.length)) H->xG t vs H Q _E
def zd5(f:Int)(n:Nat)(S:DS):DS:={ S with ws:=S.ws++[f+n] }
inductive vi (t:aZ) (vs:List V) (H:Hp) (Q:VK) (_E:XK):Prop
 |mk (d v) (a:tW) (lb:D->Nat) (n f) (g:List aN) (CC:List (List Cs)) (C:List Cs) (S:DS):vs=[.ref d,v]->uh H v C->tM t H d a lb n f g CC S->CC.length<=10->S.ws.length<=10->(∀H' lb',Fr M0 H H' lb lb'->tM t H' d a lb' n f g (CC++[C]) (zd5 f CC.length S)->Q (.int (f+CC.length)) H')->vi t vs H Q _E
inductive vb (t:aZ) (vs:List V) (H:Hp) (Q:VK) (_E:XK):Prop
 |mk (x l) (ws:List Int):vs=[.ref x,.ref l]->H l=U (.lst (ws.map V.int))->ws≠[]->Q (.int (ws.getD 0 0)) H->vb t vs H Q _E
inductive xH (t:aZ) (vs:List V) (H:Hp) (Q:VK) (_E:XK):Prop
 |mk (x l) (ws:List Int):vs=[.ref x,.ref l]->H l=U (.lst (ws.map V.int))->ws≠[]->Q (.int (ws.getD (ws.length-1) 0)) H->xH t vs H Q _E
inductive y9 (t:aZ) (vs:List V) (H:Hp) (Q:VK) (_E:XK):Prop
 |mk (x l dw) (ws:List Int) (k:Nat):vs=[.ref x,.ref l]->H l=U (.lst (ws.map V.int))->ws≠[]->H x=U (.ins t.q05 dw [(bh "times",.int k)])->Q (.int (ws.getD (k%ws.length) 0)) (upd H x (.ins t.q05 dw [(bh "times",.int (k+1:Nat))]))->y9 t vs H Q _E
inductive xU (t:aZ) (vs:List V) (H:Hp) (Q:VK) (_E:XK):Prop
 |mk (d) (a:tW) (lb:D->Nat) (n f h) (g:List aN) (CC) (S:DS):vs=[.ref d,.int h]->tM t H d a lb n f g CC S->hV n f g CC S->h ∉ S.hl.map (·.1)->S.ws≠[]->(∀v H' lb' r,Fr M0 H H' lb lb'->r∈S.ws->r=chW S.wk S.ws S.wc->tG H' v (h,.take r)->tM t H' d a lb' n f g CC { S with ws:=S.ws.erase r,hl:=S.hl++[(h,r,0,st0)],wc:=S.wc+1 }->Q v H')->xU t vs H Q _E
def mvP(t:aZ)(H:Hp)(d:D)(a:tW)(k:D->Nat)(n f h:Int)(g:List aN)(j:List (List Cs))(S:DS)(Q:VK):Prop:=∀v c b e i,Fr M0 H c k b->tG c v (h,e)->Mv f g j S h e i->tM t c d a b n f g j i->Q v c
inductive xu (t:aZ) (vs:List V) (H:Hp) (Q:VK) (_E:XK):Prop
 |mk (d) (a:tW) (lb:D->Nat) (n f h) (g:List aN) (CC) (S:DS):vs=[.ref d,.int h]->tM t H d a lb n f g CC S->hV n f g CC S->h ∉ S.hl.map (·.1)->mvP t H d a lb n f h g CC S Q->xu t vs H Q _E
inductive wD (t:aZ) (vs:List V) (H:Hp) (Q:VK) (_E:XK):Prop
 |mk (d) (a:tW) (lb:D->Nat) (n f h) (g:List aN) (CC) (S:DS):vs=[.ref d,.int h]->tM t H d a lb n f g CC S->hV n f g CC S->0<=h->h<n->mvP t H d a lb n f h g CC S Q->wD t vs H Q _E
inductive wE (t:aZ) (vs:List V) (H:Hp) (Q:VK) (_E:XK):Prop
 |mk (d:D) (a:tW) (lb:D->Nat) (n f:Int) (g:List aN) (CC:List (List Cs)) (S:DS) (J:List He->DS->Prop):vs=[.ref d]->tM t H d a lb n f g CC S->hV n f g CC S->1<=n->n<=8->J [] S->((∀es S h e S',J es S->hV n f g CC S->S.en<CC.length->h=(es.length:Int)%n->Mv f g CC S h e S'->J (es++[(h,e)]) S'))->(∀l xs es H' lb' S',Fr M0 H H' lb lb'->lb' l=0->H l=ak->H' l=U (.lst xs)->Paired (tG H') xs es->xs.length<=10000->J es S'->hV n f g CC S'->S'.en=CC.length->tM t H' d a lb' n f g CC S'->Q (.ref l) H')->wE t vs H Q _E
structure TbK(g:List aN):Prop where
 nd:(g.map (·.1)).Nodup
 so:∀r∈g,ca r.1.1=ah
structure LdR(H:Hp)(lw:D->Nat)(kv:List (aU×V))(rs:List Int)(ls:List (Int×List aN)):Prop where
 ks:kv.map (·.1)=rs.map gh
 nd:rs.Nodup
 mm:∀r,r∈rs↔r∈ls.map (·.1)
 vv:∀y∈ls,∃gl,yf kv (.inl y.1)=U (.ref gl)/\tq H gl y.2/\lw gl=5
 nl:(ls.map (·.1)).Nodup
 tk:∀y∈ls,TbK y.2
 z0:∀y∈ls,0<=y.1
 le:rs.length<=10
inductive vT (vs:List V) (H:Hp) (Q:VK) (_E:XK):Prop
 |mk (tl ll p ac) (g:List aN) (kv rs) (ls:List (Int×List aN)) (lw:D->Nat) (q:Pl):vs=[.ref tl,.ref ll,.ref p,.int ac]->tq H tl g->TbK g->H ll=U (.dK kv)->LdR H lw kv rs ls->H p=U (.tup [.str q.1,.int q.2])->ca q.1=ah->(∀H',aJ H H'->Q (.int (yj g ls q ac)) H')->vT vs H Q _E
def HlE(C:List Cs)(s:aY)(g:List aN)(a:List (Int×List aN))(r:Int):Ev->Prop
 |.lay r'=>r'=r/\yH C s=ah
 |.step r'=>r'=r/\yH C s=ao/\jC C s=ak
 |.read r' p w=>r'=r/\yH C s=ao/\jC C s=U p/\w=yj g a p r
 |_=>False
def hlW:Ev->Int
 |.read _ _ w=>w
 |_=>0
def Qa:Ev->Bool
 |.lay _=>ah
 |_=>ao
def RuAt(t:aZ)(H:Hp)(d:D->Nat)(f:Int)(e:List (List Cs))(c:List (Int×Int×Nat×aY))(h:Nat)(v:V):Prop:=(v=.non/\(h:Int) ∉ c.map (·.1))\/∃x a r j s C,v=.ref x/\((h:Int),r,j,s)∈c/\e[(r-f).toNat]?=U C/\aX t H x a C s/\∀b,OwA x a b->d b=20+h
structure LawAt(t:aZ)(H:Hp)(lw:D->Nat)(rl kl ll:D)(n f:Int)(CC:List (List Cs))(hl:List (Int×Int×Nat×aY))(ls:List (Int×List aN)):Prop where
 rr:∃us,H rl=U (.lst us)/\(us.length:Int)=n/\∀(h:Nat) v,us[h]?=U v->RuAt t H lw f CC hl h v
 kk:∃ks:List Int,H kl=U (.lst (ks.map V.int))/\(ks.length:Int)=n/\∀e∈hl,ks[e.1.toNat]?=U e.2.1
 dd:∃kv rs,H ll=U (.dK kv)/\LdR H lw kv rs ls
 l1:lw rl=1
 l2:lw kl=2
 l3:lw ll=3
 ow:∀b,lw b≠0->∃o,H b=U o
def N0(l:Nat):Prop:=l=0
def S0(k c:Nat):DS:=⟨[],[],[],[],0,[],k,c⟩
structure LX where
 rl:D
 kl:D
 ll:D
 pl:D
 wl:D
 ol:D
def PeAt(H:Hp)(b:D->Nat)(f:Int)(ld:List (Int×aY×List aN))(k:Nat)(v:V):Prop:=(v=.non/\f+(k:Int) ∉ ld.map (·.1))\/∃r o a c s d,v=.ref r/\H r=U (.tup [o,.ref a,.ref c])/\tq H a s.no/\b a=9/\(∀y∈s.no,ca y.1.1=ah)/\(f+(k:Int),s,d)∈ld
structure PesAt(H:Hp)(lw:D->Nat)(f:Int)(S:DS)(m:Nat)(ps:List V):Prop where
 le:ps.length=m
 at_:∀(k:Nat) v,S.en<=k->ps[k]?=U v->PeAt H lw f S.ld k v
structure LwX(t:aZ)(H:Hp)(lw:D->Nat)(B:LX)(n f:Int)(CC:List (List Cs))(S:DS):Prop where
 la:LawAt t H lw B.rl B.kl B.ll n f CC S.hl S.ls
 pp:∃ps,H B.pl=U (.lst ps)/\PesAt H lw f S CC.length ps
 ww:∃ws:List Int,H B.wl=U (.lst (ws.map V.int))/\ws.Perm S.ws
 oo:H B.ol=U (.lst [.int (S.en:Nat),.int (S.wc:Nat)])
 l6:lw B.pl=6
 l7:lw B.wl=7
 l8:lw B.ol=8
inductive wF (vs:List V) (H:Hp) (Q:VK) (_E:XK):Prop
 |mk (tl ll r nl gl o ac) (g no:List aN) (kv rs) (ls:List (Int×List aN)) (lw:D->Nat):vs=[.ref tl,.ref ll,.ref r,.int ac]->tq H tl g->TbK g->H ll=U (.dK kv)->LdR H lw kv rs ls->H r=U (.tup [o,.ref nl,.ref gl])->tq H nl no->(∀y∈no,ca y.1.1=ah)->((∀H',aJ H H'->ui g ls ac no->Q .non H'))->(∀v H' q y,aJ H H'->FsN g ls ac no y->H' v=U (.tup [.ref q,.int y.2,.int (yj g ls y.1 ac)])->H' q=U (.tup [.str y.1.1,.int y.1.2])->Q (.ref v) H')->wF vs H Q _E
inductive wG (vs:List V) (H:Hp) (Q:VK) (_E:XK):Prop
 |mk (l) (ws:List Int) (k c:Nat):vs=[.ref l,.int k,.int c]->H l=U (.lst (ws.map V.int))->ws≠[]->Q (.int (chW k ws c)) H->wG vs H Q _E
inductive jH (vs:List V) (H:Hp) (Q:VK) (_E:XK):Prop
 |mk (h f n tl ll pl l) (g:List aN) (kv rs) (lw:D->Nat) (ps) (CC:List (List Cs)) (S S2:DS) (e:Ev):vs=[.int h,.ref tl,.ref ll,.ref pl,.int S.en,.int f,.ref l,.int S.wk,.int S.wc]->tq H tl g->TbK g->H ll=U (.dK kv)->LdR H lw kv rs S.ls->H pl=U (.lst ps)->PesAt H lw f S CC.length ps->H l=U (.lst (S.ws.map V.int))->hV n f g CC S->h ∉ S.hl.map (·.1)->Mv f g CC S h e S2->(∀v H',aJ H H'->tG H' v (h,e)->Q v H')->jH vs H Q _E
inductive xN (t:aZ) (vs:List V) (H:Hp) (Q:VK) (_E:XK):Prop
 |mk (v:V) (h r f:Int) (x ll pl:D) (ra:RAd) (C:List Cs) (s:aY) (j k:Nat) (e:Ev) (g:List aN) (kv:List (aU×V)) (ls:List (Int×List aN)) (ps:List V):vs=[.ref x,v,.int r,.ref ll,.ref pl,.int f]->tG H v (h,e)->aX t H x ra C s->zbi C->RnI C j s->j<=11->H ll=U (.dK kv)->kv.length<=100->H pl=U (.lst ps)->r-f=k->k<ps.length->ps.length<=10->HlE C s g ls r e->((∀b,OwA x ra b->b≠ll/\b≠pl))->((∀H' p o nl gl g2 gi,Qa e=ah->(∀b o,b≠ll->b≠pl->H b=U o->H' b=U o)->H' ll=U (.dK (yJ kv (.inl r) (.ref g2)))->H' pl=U (.lst (ps.set k (.ref p)))->H' p=U (.tup [o,.ref nl,.ref gl])->H nl=ak->tq H' nl s.no->H g2=ak->nl≠g2->tq H' g2 gi->qW s gi->Q .non H'))->(∀H',Qa e=ao->Kp x ra H H'->aX t H' x ra C (xw C (hlW e) s)->Q (.ref x) H')->xN t vs H Q _E
def CoZ(H:Hp)(a:D->Nat)(v:V)(C:List Cs):Prop:=uh H v C/\∀c,v=.ref c->a c=0
inductive xB (t:aZ) (vs:List V) (H:Hp) (Q:VK) (_E:XK):Prop
 |mk (v h f n al tl) (B:LX) (lw:D->Nat) (cvs xs) (g:List aN) (CC) (S S':DS) (e:Ev):vs=[v,.int h,.ref al,.ref tl,.int f,.int S.wk,.ref B.rl,.ref B.kl,.ref B.ll,.ref B.pl,.ref B.wl,.ref B.ol]->tG H v (h,e)->H al=U (.lst (cvs++xs))->lw al=0->Paired (CoZ H lw) cvs CC->tq H tl g->TbK g->lw tl=0->LwX t H lw B n f CC S->hV n f g CC S->0<=h->h<n->n<=8->Mv f g CC S h e S'->(∀H' lw',Fr N0 H H' lw lw'->LwX t H' lw' B n f CC S'->Q (.bl ah) H')->xB t vs H Q _E
structure LwC(K:bw)(H:Hp)(s tl cl:D)(ns:List Int)(g:List aN)(us:List V)(CC:List (List Cs))(n f:Int):Prop where
 hS:aQ K H s (ns.map V.int)
 hx:H cl=U (.lst us)
 px:Paired (uh H) us CC
 cc:ziv CC
 ht:tq H tl g
 tb:TbK g
 n1:1<=n
 n8:n<=8
 f0:0<=f
 gw:∀p,tw ((zE g p).getD 0)=ah
structure NwD(t:aZ)(H0 H:Hp)(d:D)(a:tW)(lb:D->Nat)(n f:Int)(g:List aN)(k c:Nat):Prop where
 sm:aJ H0 H
 z0:∀b o,H0 b=U o->lb b=0
 dk:tM t H d a lb n f g [] (S0 k c)
inductive vU (K:bw) (t:aZ) (vs:List V) (H:Hp) (Q:VK) (_E:XK):Prop
 |mk (d cl tl s) (a:tW) (lb:D->Nat) (n f) (k c:Nat) (us) (CC:List (List Cs)) (g:List aN) (ns H0):vs=[.ref d,.int n,.ref cl,.ref tl,.int f,.int k,.int c,.ref s]->NwD t H0 H d a lb n f g k c->LwC K H0 s tl cl ns g us CC n f->(∀H' lb' S,aJ H0 H'->tM t H' d a lb' n f g CC S->S.en=CC.length->S.wk=k->Q (.int (S.wc:Nat)) H')->vU K t vs H Q _E
inductive sp_law (K:bw) (vs:List V) (H:Hp) (Q:VK) (_E:XK):Prop
 |mk (a) (ns:List Int):vs=[.ref a]->aQ K H a (ns.map V.int)->ns.length<=63->(∀i∈ns,Cb i)->(∀H',Q (.bl ah) H')->sp_law K vs H Q _E
section
variable(K:bw)(t:aZ)
def jI(K:bw)(t:aZ):TS:=zo (zR (zD (aK (rIn K ao) (Z 0) (yX (zc (tC (.str "take")) (zc (tC (.str "give")) (zc (tC (.str "let")) (zc (tC (.str "say")) (zc (tC (.str "off")) (zc (tC (.str "if")) (zc (tC (.str "else")) (zc (tC (.str "end")) (zc (tC (.str "as")) zj)))))))))))) (zL (aK KK (Z 0) (tC (.str "z"))))
   zK) (zo (zR (zD (aK (rIn K ao) (Z 0) (yX (zc (tC (.str "plus")) (zc (tC (.str "minus")) (zc (tC (.str "times")) (zc (tC (.str "over")) (zc (tC (.str "rest")) (zc (tC (.str "under")) (zc (tC (.str "same")) zj)))))))))) (zL (aK KK (Z 0) (tC (.str "z"))))
    zK) (zL (Z 0)))
def Yg(K:bw)(t:aZ):TS:=zo (zO (xX zj) (zt 2)) (zo (zO (aK aD (aK aC (Z 0) (tC (.int 1000003))) (tC (.int 17))) (zt 3)) (zo (zO (aK aD (aK aC (aK aE (Z 0) (tC (.int 1000003))) (tC (.int 999983))) (tC (.int 29))) (zt 4)) (zo (vx (Wk (zc (Z 1) zj)) (zt 5) (zo (zO (aK aC (aK aD (aK aD (aK aH (Z 3) (Z 3)) (aK aH (tC (.int 3)) (Z 4))) (Z 5)) (tC (.int 1000003))) (zt 3)) (zo (zO (aK aC (aK aD (aK aD (aK aH (Z 4) (Z 3)) (aK aH (tC (.int 7)) (Z 3))) (tC (.int 11))) (tC (.int 999983))) (zt 4)) (yh (tBM K "list" yo (Z 2) (zc (aK aD (aK aH (Z 3) (tC (.int 999983))) (Z 4)) zj)))))) (zL (Z 2)))))
def v6(K:bw)(t:aZ):TS:=zo (zR (XR (zD (aK tI (aK aC (aK aE (Z 0) (tC (.int 900))) (tC (.int 3))) (tC (.int 0)))) (zD (aK aF (tu (xY K) (zc (Z 3) zj)) (tC (.int 6))))) (zL (xX (zc (Z 3) (zc (zT yA [] E0 (zc (aK KK (Z 3) (Z 5)) zj)) zj))))
   zK) (zo (zR (XR (zD (aK tI (aK aC (aK aE (Z 0) (tC (.int 900))) (tC (.int 3))) (tC (.int 1)))) (zD (aK aF (tu (xY K) (zc (Z 3) zj)) (tC (.int 6))))) (zL (xX (zc (zT yA [] E0 (zc (aK KK (Z 5) (Z 3)) zj)) (zc (Z 3) zj))))
    zK) (zL (xX (zc (Z 3) (zc (zT yA [] E0 (zc (aK KK (aK KK (tSl zig (Z 3) jn (vD (Z 4))) (Z 5)) (tSl zig (Z 3) (vD (aK aD (Z 4) (tC (.int 1)))) jn)) zj)) zj)))))
def Zr:TS:=zo (zO (aK aC (aK aE (Z 0) (tC (.int 6))) (tu (xY K) (zc (Z 3) zj))) (zt 4)) (zo (zO (aK zew (Z 1) (aK aC (aK aD (aK aD (tBM K "str" KM (Z 1) (zc (aK zew (Z 3) (Z 4)) zj)) (tC (.int 1))) (aK aC (aK aE (Z 0) (tC (.int 36))) (tC (.int 25)))) (tC (.int 26)))) (zt 5)) (v6 K t))
def Zs:TS:=zo (zO (zT yA [] E0 (zc (Z 2) zj)) (zt 3)) (Zr K t)
def qp:TS:=zo (zO (tC (.str "abcdefghijklmnopqrstuvwxyz")) (zt 1)) (zo (zO (tBM K "str" (X0 K) (tC (.str "")) (zc (qE (xJ K (zT xA [] E0 (zc (Z 0) (zc (aK aD (tC (.int 1)) (aK aC (Z 0) (tC (.int 6)))) zj)))) (zt 0) QA (aK zew (Z 1) (aK aC (Z 0) (tC (.int 26)))) 1 [1]) zj)) (zt 2)) (Zs K t))
def Zt(K:bw)(t:aZ):TS:=zo (zR (zD (aK tI (aK aC (Z 0) (tC (.int 4))) (tC (.int 0)))) (zL (aK aG (aK aC (aK aH (Z 0) (aK (rI Qn λi j=>.int (i^j.toNat)) (tC (.int 1000000007)) (tC (.int 3)))) (aK aD (aK aH (tC (.int 2)) (aK (rI Qn λi j=>.int (i^j.toNat)) (tC (.int 10)) (tC (.int 30)))) (tC (.int 1)))) (aK (rI Qn λi j=>.int (i^j.toNat)) (tC (.int 10)) (tC (.int 30)))))
   zK) (zL (aK aG (aK aC (aK aE (Z 0) (tC (.int 4))) (tC (.int 6))) (tC (.int 2))))
def Yh(K:bw)(t:aZ):TS:=zo (zO (zT xA [] E0 (zc (Z 0) (zc (tC (.int 10)) zj))) (zt 2)) (zo (zO YD (zt 3)) (zo (vx (Wk (zc (aK aC (Z 0) (tC (.int 6))) zj)) (zt 4) (zo (zO (zT xj [] E0 (zc (aK (yD K) (Z 2) (aK aD (Z 4) (tC (.int 5)))) zj)) (zt 5)) (zR (zD (aK rNe (Z 5) (tC (.int 0)))) (qD (Z 3) (yX (zc (aK (yD K) (Z 1) (aK aC (aK (yD K) (Z 2) (Z 4)) (tC (.int 2)))) (zc (aK aC (aK aE (aK (yD K) (Z 2) (Z 4)) (tC (.int 2))) (tC (.int 3))) zj))) (Z 5))
   zK))) (zL (qE (xJ K (tu ze7 (zc (Z 3) zj))) (zt 0) QA (yX (zc (Z 0) (zc (j6 (Z 1) (Z 0)) zj))) 1 [3]))))
def jT(K:bw)(t:aZ):TS:=zo (wb K (Z 0) (tu zfd (zc (Z 1) zj)) "ground") (zo (wb K (Z 0) (tC (.int 0)) "folded") (zo (wb K (Z 0) YC "worths") (wb K (Z 0) YD "ranks")))
def qq(K:bw)(t:aZ):TS:=zo (wb K (Z 0) (Z 1) "makes") (zo (wb K (Z 0) YC "laid") (zo (wb K (Z 0) YD "readers") (wb K (Z 0) YC "doubted")))
def qt:TS:=zo (wb K (Z 0) (Z 2) "hands") (zo (wb K (Z 0) (Z 3) "way") (zo (wb K (Z 0) (Z 4) "first") (zo (wb K (Z 0) (xX zj) "codes") (zo (wb K (Z 0) (xX zj) "waiting") (zo (wb K (Z 0) YC "held") (zo (wb K (Z 0) (Wn t.q02 (wZ t) [] E0 (zc (Z 1) zj)) "makes") (zo (wb K (Z 0) (Wn t.q03 (qo t) [] E0 (zc (zW K (Z 0) "makes") zj)) "jobs") (wb K (Z 0) (xX zj) "ended"))))))))
def qK(K:bw)(t:aZ):TS:=zL (aK aD (zW K (Z 0) "first") (tu (xY K) (zc (zW K (Z 0) "ended") zj)))
def jJ(K:bw)(t:aZ):TS:=zL (aK aD (zW K (Z 0) "first") (tu (xY K) (zc (zW K (Z 0) "codes") zj)))
def WI(K:bw)(t:aZ):TS:=zL (zh2 (aK Wq (zW K (Z 0) "why") (tC .non)) (aK (rI0 λi j=>.bl (decide (j<=i))) (zW K (Z 0) "at") (tu (xY K) (zc (zW K (Z 0) "code") zj))))
def Jd(K:bw)(t:aZ)(E:XK):TS:=zo (zR (zD (aK tI (Z 2) (tC (.int 0)))) (zb8 t.q07 (zc (zeI (Z 0)) zj) E)
   zK) (zL (tIf (zD (aK tI (Z 0) (tC (.str "over")))) (aK (rI zhI λi j=>.int (i.fdiv j)) (Z 1) (Z 2)) (aK (rI (λ_ j=>j≠0) λi j=>.int (i.fmod j)) (Z 1) (Z 2))))
def Je(K:bw)(t:aZ)(E:XK):TS:=zo (zR (zD (aK tI (Z 0) (tC (.str "plus")))) (zL (aK aD (Z 1) (Z 2)))
   zK) (zo (zR (zD (aK tI (Z 0) (tC (.str "minus")))) (zL (aK aG (Z 1) (Z 2)))
    zK) (zo (zR (zD (aK tI (Z 0) (tC (.str "times")))) (zL (aK aH (Z 1) (Z 2)))
    zK) (zo (zR (zD (aK tI (Z 0) (tC (.str "under")))) (zL (tIf (zD (aK aF (Z 1) (Z 2))) (tC (.int 1)) (tC (.int 0))))
    zK) (zo (zR (zD (aK tI (Z 0) (tC (.str "same")))) (zL (tIf (zD (aK tI (Z 1) (Z 2))) (tC (.int 1)) (tC (.int 0))))
    zK) (zL (zT (qk t) [] E (zc (Z 0) (zc (Z 1) (zc (Z 2) zj)))))))))
def Zu(K:bw)(t:aZ):TS:=zo (zR (tOr (XS (tB (tu (q9 K) (zc (Z 0) (zc (tC (.ty "int")) zj))))) (tB (tu (q9 K) (zc (Z 0) (zc (tC (.ty "bool")) zj))))) (zL (tC (.bl ao)))
   zK) (zL (zep (rI0 λi j=>.bl (decide (i<=j))) (rI0 λi j=>.bl (decide (i<=j))) (tUn (rU λi=>.int (-i)) (aK (rI Qn λi j=>.int (i^j.toNat)) (tC (.int 10)) (tC (.int 30)))) (Z 0) (aK (rI Qn λi j=>.int (i^j.toNat)) (tC (.int 10)) (tC (.int 30)))))
def Qb(K:bw)(t:aZ)(E:XK):TS:=zo (zO (zT (ql t) [] E (zc (Z 0) (zc (Z 1) (zc (Z 2) zj)))) (zt 3)) (zo (zR (XS (tB (zT WH [] E (zc (Z 3) zj)))) (zb8 t.q08 (zc (zeI (Z 0)) zj) E)
    zK) (zL (Z 3)))
def JY(E:XK):TS:=zo (zO (zgx K "list" VC (Z 2)) (zt 4)) (zo (zO (zgx K "list" VC (Z 2)) (zt 5)) (yh (tBM K "list" yo (Z 2) (zc (zT (ZX t) [] E (zc (Z 3) (zc (Z 5) (zc (Z 4) zj)))) zj))))
def JZ(K:bw)(t:aZ)(E:XK):TS:=yh (tBM K "list" yo (Z 2) (zc (tIf (tB (tu (q9 K) (zc (Z 3) (zc (tC (.ty "str")) zj)))) (qZ (Z 1) (Z 3) (tC (.int 0))) (Z 3)) zj))
def J1(E:XK):TS:=zR (zD (aK (rIn K ao) (Z 3) (tC (.ref t.q0u)))) (JY K t E) (JZ K t E)
def WJ(E:XK):TS:=zo (zO (xX zj) (zt 2)) (zo (vx (ziW K (Z 0)) (zt 3) (J1 K t E)) (zL (zgx K "list" VC (Z 2))))
def qL(E:XK):TS:=zL (zT (Zo t) [] E (zc (Z 1) (zc (zW K (Z 0) "slots") zj)))
def qM(E:XK):TS:=zL (yX (zc (aK (yI K) (Z 1) (tC (.int 1))) (zc (zY t.q00 "worth_of" (yt t) [] E (Z 0) (zc (aK (yI K) (Z 1) (tC (.int 2))) zj)) zj)))
def J2(K:bw)(t:aZ):TS:=zo (zR (tOr (zD (aK (zaX ao) (Z 1) (zW K (Z 0) "gifts"))) (zD (aK (zaX ao) (Z 1) (zW K (Z 0) "notes")))) (zL (tC .non))
   zK) (zL (Z 1))
def J5:TS:=zo (zhO K (zhG (zci t.q00 "place_in" (yN t) (Z 0) (zc (aK (yD K) (zW K (Z 0) "code") (zW K (Z 0) "at")) zj)) 1) t.q08 t.q07 (zL (tC .non))) (J2 K t)
def WK:TS:=zo (zR (tOr (tB (zY t.q00 "over" (xm t) [] E0 (Z 0) zj)) (zD (aK rNe (aK (yI K) (aK (yD K) (zW K (Z 0) "code") (zW K (Z 0) "at")) (tC (.int 0))) (tC (.str "take"))))) (zL (tC .non))
   zK) (J5 K t)
def v7(K:bw)(t:aZ):TS:=zR (zD (aK aF (Z 1) (zW K (Z 0) "folded")))
   zbS
   zK
def Yi(K:bw)(t:aZ):TS:=zo (zO (tC (.int 0)) (zt 2)) (zo (zO (tu (xY K) (zc (Z 0) zj)) (zt 3)) (zo (zbT (zD (aK aF (Z 2) (Z 3))) (zo (zO (aK aE (aK aD (Z 2) (Z 3)) (tC (.int 2))) (zt 4)) (zR (zD (aK aF (aK (yD K) (Z 0) (Z 4)) (Z 1))) (zO (aK aD (Z 4) (tC (.int 1))) (zt 2)) (zO (Z 4) (zt 3))))) (zL (Z 2))))
def jU:TS:=zo (yh (zY t.q02 "heed_fold" (xp t) [] E0 (Z 0) (zc (Z 2) zj))) (zo (zO (qZ (zW K (Z 0) "ranks") (Z 1) (xX zj)) (zt 3)) (zo (zO (zT yK [] E0 (zc (Z 3) (zc (Z 2) zj))) (zt 4)) (zo (zR (zD (aK tI (Z 4) (tC (.int 0)))) (zL (qZ (zW K (Z 0) "ground") (Z 1) (tC (.int 0))))
    zK) (zL (j6 (j6 (zW K (Z 0) "worths") (aK (yD K) (Z 3) (aK aG (Z 4) (tC (.int 1))))) (Z 1))))))
def Xp(K:bw)(t:aZ):TS:=zo (zR (zD (aK (zaX ao) (Z 1) (zW K (Z 0) "gifts"))) (zL (j6 (zW K (Z 0) "gifts") (Z 1)))
   zK) (zo (zR (zD (aK (zaX ah) (Z 1) (zW K (Z 0) "notes"))) (qD (zW K (Z 0) "notes") (Z 1) (Z 2))
    zK) (zL (j6 (zW K (Z 0) "notes") (Z 1))))
def J6(E:XK):TS:=qD (zW K (Z 0) "slots") (aK (yI K) (Z 1) (tC (.int 1))) (zY t.q00 "worth_of" (yt t) [] E (Z 0) (zc (aK (yI K) (Z 1) (tC (.int 2))) zj))
def Yj(E:XK):TS:=yh (tBM K "list" yo (zW K (Z 0) "sayings") (zc (zY t.q00 "worth_of" (yt t) [] E (Z 0) (zc (aK (yI K) (Z 1) (tC (.int 1))) zj)) zj))
def J7(E:XK):TS:=zo (zO (zY t.q00 "place_in" (yN t) [] E (Z 0) (zc (Z 1) zj)) (zt 3)) (qD (zW K (Z 0) "gifts") (Z 3) (zY t.q00 "worth_of" (yt t) [] E (Z 0) (zc (aK (yI K) (Z 1) (tC (.int 3))) zj)))
def J8(E:XK):TS:=qD (zW K (Z 0) "slots") (aK (yI K) (Z 1) (tC (.int 3))) (zY t.q00 "taken" (vO t) [] E (Z 0) (zc (zY t.q00 "place_in" (yN t) [] E (Z 0) (zc (Z 1) zj)) (zc (Z 2) zj)))
def WL(E:XK):TS:=zR (zD (aK tI (aK (yI K) (Z 1) (tC (.int 0))) (tC (.str "take")))) (J8 K t E) (zR (zD (aK tI (aK (yI K) (Z 1) (tC (.int 0))) (tC (.str "give")))) (J7 K t E) (zR (zD (aK tI (aK (yI K) (Z 1) (tC (.int 0))) (tC (.str "let")))) (J6 K t E) (Yj K t E)))
def W4(E:XK):TS:=zR (zD (aK rNe (zY t.q00 "worth_of" (yt t) [] E (Z 0) (zc (aK (yI K) (Z 1) (tC (.int 1))) zj)) (tC (.int 0)))) (wb K (Z 0) (tC (.str "told")) "why")
   zK
def W5(K:bw)(t:aZ)(E:XK):TS:=yh (zY t.q00 "does" (jE t) [] E (Z 0) (zc (Z 1) (zc (Z 2) zj)))
def W6(E:XK):TS:=zL (tIf (zD (aK tI (zY t.q00 "worth_of" (yt t) [] E (Z 0) (zc (aK (yI K) (Z 1) (tC (.int 1))) zj)) (tC (.int 0)))) (aK (yI K) (Z 1) (tC (.int 2))) (aK aD (zW K (Z 0) "at") (tC (.int 1))))
def W7(E:XK):TS:=zo (zR (zD (aK tI (aK (yI K) (Z 1) (tC (.int 0))) (tC (.str "off")))) (W4 K t E) (W5 K t E)) (zL (aK aD (zW K (Z 0) "at") (tC (.int 1))))
def W8(E:XK):TS:=zo (zR (zD (aK tI (aK (yI K) (Z 1) (tC (.int 0))) (tC (.str "skip")))) (W6 K t E)
   zK) (W7 K t E)
def Yk(E:XK):TS:=zo (zR (zD (aK tI (aK (yI K) (Z 1) (tC (.int 0))) (tC (.str "go")))) (zL (aK (yI K) (Z 1) (tC (.int 1))))
   zK) (W8 K t E)
def WM:TS:=zo (zR (tB (zY t.q00 "over" (xm t) [] E0 (Z 0) zj))
   zhy
   zK) (zfe K (zhN K (Z 0) (zci t.q00 "led_by" (wX t) (Z 0) (zc (aK (yD K) (zW K (Z 0) "code") (zW K (Z 0) "at")) (zc (Z 1) zj))) "at") t.q08 (wb K (Z 0) (tC (.str "great")) "why") t.q07 (wb K (Z 0) (tC (.str "nought")) "why"))
def vj:TS:=zo (vx (xJ K (aK (yI K) (j6 (zW K (Z 0) "laid") (Z 1)) (tC (.int 1)))) (JM K 2 (wu (zt 2) (wu (zt 3) JL))) (zo (zO (zY t.q02 "seen" (w6 t) [] E0 (zW K (Z 0) "makes") (zc (Z 2) (zc (Z 1) zj))) (zt 4)) (zR (zD (aK rNe (Z 4) (Z 3))) (zL (yX (zc (Z 2) (zc (Z 3) (zc (Z 4) zj)))))
   zK))) (zL (tC .non))
def wH:TS:=zo (zO (tu zhQ (zc (zW K (Z 0) "doubted") zj)) (zt 1)) (zo (vx (xJ K (Z 1)) (zt 2) (zo (zO (zY t.q03 "changed_note" (xM t) [] E0 (Z 0) (zc (Z 2) zj)) (zt 3)) (zo (zR (zD (aK Wq (Z 3) (tC .non))) (zL (aK (zev K) (yX (zc (Z 2) zj)) (Z 3)))
    zK) (yh (Qy (zW K (Z 0) "doubted") (Z 2)))))) (zL (tC .non)))
def Xq(K:bw)(t:aZ):TS:=zo (zO (j6 (Z 0) (Z 1)) (zt 3)) (zo (yh (tBM K "list" jt (Z 3) (zc (Z 2) zj))) (zR (zD (aK (QI K) (Z 3) (xX zj))) (yh (zfx (Z 0) (Z 1)))
   zK))
def kI(K:bw)(t:aZ):TS:=zo (zO (Qy (zW K (Z 0) "laid") (Z 1)) (zt 2)) (zo (yh (zb5 (zW K (Z 0) "doubted") (Z 1) (tC .non))) (zo (vx (xJ K (aK (yI K) (Z 2) (tC (.int 1)))) (JM K 2 (wu (zt 3) (wu (zt 4) JL))) (yh (zT xS [] E0 (zc (zW K (Z 0) "readers") (zc (Z 3) (zc (Z 1) zj)))))) (zL (Z 2))))
def jK(K:bw)(t:aZ):TS:=zL (aK (yD K) (Z 1) (tUn (rU λi=>.int (-i)) (tC (.int 1))))
def jL(K:bw)(t:aZ):TS:=zo (zO (aK aC (zW K (Z 0) "times") (tu (xY K) (zc (Z 1) zj))) (zt 2)) (zo (zcQ K (Z 0) (tC (.int 1)) zgu "times") (zL (aK (yD K) (Z 1) (Z 2))))
def Yl(K:bw)(t:aZ):TS:=zL (aK (yD K) (Z 1) (tC (.int 0)))
def Zv(K:bw)(t:aZ):TS:=zo (wb K (Z 0) (tu (zgK K) (zc (Z 1) zj)) "code") (zo (wb K (Z 0) (tC (.int 0)) "at") (zo (wb K (Z 0) (tC .non) "why") (zo (wb K (Z 0) YC "slots") (zo (wb K (Z 0) YD "gifts") (zo (wb K (Z 0) YD "notes") (wb K (Z 0) (xX zj) "sayings"))))))
def wd:TS:=zo (yh (tBM K "list" jt (zW K (Z 0) "waiting") (zc (Z 2) zj))) (zo (qD (zW K (Z 0) "held") (Z 1) (yX (zc (Z 2) (zc (Wn t.q00 (jD t) [] E0 (zc (aK (yD K) (zW K (Z 0) "codes") (aK aG (Z 2) (zW K (Z 0) "first"))) zj)) zj)))) (zL (yX (zc (tC (.str "take")) (zc (Z 1) (zc (Z 2) zj))))))
def kJ:TS:=zo (zO (zcr [(t.q0c,(xH t)),(t.q05,(y9 t)),(t.q0d,(vb t))] "chosen" E0 (zW K (Z 0) "way") (zc (tu (zgK K) (zc (zW K (Z 0) "waiting") zj)) zj)) (zt 2)) (wd K t)
def vm:TS:=zo (yh (zY t.q03 "take_off" (xT t) [] E0 (zW K (Z 0) "jobs") (zc (aK (yI K) (Z 3) (tC (.int 0))) zj))) (zo (yh (tBM K "list" Zf (zW K (Z 0) "waiting") (zc (zT yK [] E0 (zc (zW K (Z 0) "waiting") (zc (aK (yI K) (Z 3) (tC (.int 0))) zj))) (zc (aK (yI K) (Z 3) (tC (.int 0))) zj)))) (zL (aK (zev K) (yX (zc (tC (.str "again")) (zc (Z 1) zj))) (Z 3))))
def vn:TS:=zo (yh (tBM K "list" yo (zW K (Z 0) "ended") (zc (zY t.q03 "take_off" (xT t) [] E0 (zW K (Z 0) "jobs") (zc (Z 2) zj)) zj))) (zL (yX (zc (tC (.str "settle")) (zc (Z 1) (zc (Z 2) zj)))))
def vo:TS:=zo (zR (zD (aK (zcm K) (zW K (Z 0) "waiting") (xX zj))) (zL (zY t.q01 "taken_up" (xU t) [] E0 (Z 0) (zc (Z 1) zj)))
   zK) (zL (yX (zc (tC (.str "rest")) (zc (Z 1) zj))))
def Zw:TS:=zo (zR (zD (aK Wq (Z 3) (tC .non))) (vm K t)
   zK) (vo K t)
def v9:TS:=zo (zO (zY t.q01 "settled" (xz t) [] E0 (Z 0) zj) (zt 2)) (zo (zO (zY t.q03 "lowest_changed" (xt t) [] E0 (zW K (Z 0) "jobs") zj) (zt 3)) (zo (zR (XR (zD (aK (zaX ao) (Z 2) (zW K (zW K (Z 0) "jobs") "laid"))) (tOr (zD (aK zgB (Z 3) (tC .non))) (zD (aK rNe (aK (yI K) (Z 3) (tC (.int 0))) (Z 2))))) (vn K t)
    zK) (Zw K t)))
def ja(K:bw)(t:aZ):TS:=zL (tu zhM (zc (qZ (zW K (Z 0) "worths") (Z 1) YD) zj))
def vp(K:bw)(t:aZ):TS:=vx (xJ K (Z 2)) (zt 3) (yh (zT xS [] E0 (zc (zW K (Z 0) "ranks") (zc (Z 3) (zc (Z 1) zj)))))
def jd:TS:=zo (zO (zY t.q02 "places_of" (yG t) [] E0 (Z 0) (zc (Z 1) zj)) (zt 2)) (zo (yh (zb5 (zW K (Z 0) "worths") (Z 1) (tC .non))) (vp K t))
def WN(K:bw)(t:aZ):TS:=zo (zO (zfy (Z 0) (Z 1) (xX zj)) (zt 3)) (yh (tBM K "list" Zf (Z 3) (zc (zT yK [] E0 (zc (Z 3) (zc (Z 2) zj))) (zc (Z 2) zj))))
def Zx(K:bw)(t:aZ):TS:=qD (zW K (Z 0) "worths") (Z 1) (Z 3)
def Zy:TS:=zo (zjb (vx (iDT (Z 3)) (zt 4) (yh (zT vh [] E0 (zc (zW K (Z 0) "ranks") (zc (Z 4) (zc (Z 1) zj))))))) (Zx K t)
def qu:TS:=zo (yh (zY t.q02 "heed_fold" (xp t) [] E0 (Z 0) (zc (Z 1) zj))) (zo (yh (zY t.q02 "take_away" (xq t) [] E0 (Z 0) (zc (Z 1) zj))) (zo (zO (tu zfd (zc (Z 2) zj)) (zt 3)) (Zy K t)))
def vG(K:bw)(t:aZ):TS:=zo (zO (qZ (zW K (Z 0) "ranks") (Z 1) (xX zj)) (zt 3)) (zo (zO (zT yK [] E0 (zc (Z 3) (zc (aK aD (Z 2) (tC (.int 1))) zj))) (zt 4)) (zL (tIf (zD (aK tI (Z 4) (tu (xY K) (zc (Z 3) zj)))) (tC .non) (aK (yD K) (Z 3) (Z 4)))))
def qN(K:bw)(t:aZ):TS:=vx (xJ K (tSl (Qv K) (Z 3) (vD (zT yK [] E0 (zc (Z 3) (zc (aK aD (Z 2) (tC (.int 1))) zj)))) (vD (Z 5)))) (zt 6) (qD (zW K (Z 0) "doubted") (Z 6) (tC (.bl ah)))
def Ym:TS:=zo (zO (qZ (zW K (Z 0) "readers") (Z 1) (xX zj)) (zt 3)) (zo (zO (zY t.q02 "next_above" (xh t) [] E0 (zW K (Z 0) "makes") (zc (Z 1) (zc (Z 2) zj))) (zt 4)) (zo (zO (tIf (zD (aK zgB (Z 4) (tC .non))) (tu (xY K) (zc (Z 3) zj)) (zT yK [] E0 (zc (Z 3) (zc (aK aD (Z 4) (tC (.int 1))) zj)))) (zt 5)) (qN K t)))
def kK:TS:=zo (zO (zY t.q02 "places_of" (yG t) [] E0 (zW K (Z 0) "makes") (zc (Z 1) zj)) (zt 3)) (zo (yh (zY t.q02 "lay" (qm t) [] E0 (zW K (Z 0) "makes") (zc (Z 1) (zc (aK (yI K) (Z 2) (tC (.int 2))) zj)))) (zo (vx (xJ K (aK zaD (Z 3) (zY t.q02 "places_of" (yG t) [] E0 (zW K (Z 0) "makes") (zc (Z 1) zj)))) (zt 4) (yh (zY t.q03 "doubt" (jS t) [] E0 (Z 0) (zc (Z 4) (zc (Z 1) zj))))) (zo (qD (zW K (Z 0) "laid") (Z 1) (Z 2)) (zo (qD (zW K (Z 0) "doubted") (Z 1) (tC (.bl ah))) (vx (xJ K (aK (yI K) (Z 2) (tC (.int 1)))) (JM K 2 (wu (zt 4) (wu (zt 5) JL))) (yh (zT vh [] E0 (zc (zW K (Z 0) "readers") (zc (Z 4) (zc (Z 1) zj))))))))))
def Jf(K:bw)(t:aZ):TS:=zo (zR (zD (aK Wq (zW K (Z 0) "why") (tC .non))) (zL (yX (zc (yX (zc (tC (.str "off")) (zc (zW K (Z 0) "why") zj))) (zc (Z 1) (zc (xX zj) zj)))))
   zK) (zL (yX (zc (yX (zc (tC (.str "done")) (zc (tu (zjy K) (zc (zW K (Z 0) "sayings") zj)) zj))) (zc (Z 1) (zc (tu zhL (zc (zcj (zW K (Z 0) "gifts")) zj)) zj)))))
def Jg:TS:=zo (zO (tu zhK (zc (zcj (zW K (Z 0) "notes")) zj)) (zt 1)) (Jf K t)
def Xr:TS:=zo (zR (XS (tB (zY t.q00 "over" (xm t) [] E0 (Z 0) zj))) (zL (tC .non))
   zK) (Jg K t)
def Zz:TS:=zo (yh (Qy (zW K (Z 0) "held") (Z 1))) (zo (yh (zY t.q03 "lay_down" (wR t) [] E0 (zW K (Z 0) "jobs") (zc (Z 2) (zc (zY t.q00 "paper" (xR t) [] E0 (Z 3) zj) zj)))) (zL (yX (zc (tC (.str "lay")) (zc (Z 1) (zc (Z 2) zj))))))
def ZA:TS:=zo (zO (zY t.q00 "asks" (jF t) [] E0 (Z 3) zj) (zt 4)) (zo (zR (zD (aK zgB (Z 4) (tC .non))) (zo (yh (zY t.q00 "step" (xL t) [.int 0] E0 (Z 3) zj)) (zL (yX (zc (tC (.str "step")) (zc (Z 1) (zc (Z 2) zj))))))
   zK) (zo (zO (zY t.q02 "seen" (w6 t) [] E0 (zW K (Z 0) "makes") (zc (Z 4) (zc (Z 2) zj))) (zt 5)) (zo (yh (zY t.q00 "step" (xL t) [] E0 (Z 3) (zc (Z 5) zj))) (zL (yX (zc (tC (.str "read")) (zc (Z 1) (zc (Z 2) (zc (Z 4) (zc (Z 5) zj))))))))))
def Jh:TS:=zo (zO (aK (yI K) (j6 (zW K (Z 0) "held") (Z 1)) (tC (.int 0))) (zt 2)) (zo (zO (aK (yI K) (j6 (zW K (Z 0) "held") (Z 1)) (tC (.int 1))) (zt 3)) (zo (zR (tB (zY t.q00 "over" (xm t) [] E0 (Z 3) zj)) (Zz K t)
    zK) (ZA K t)))
def Xs:TS:=zo (zR (tOr (zD (aK aF (Z 1) (tC (.int 0)))) (zD (aK (rI0 λi j=>.bl (decide (j<=i))) (Z 1) (zW K (Z 0) "hands"))))
   zbS
   zK) (zo (zR (zD (aK (zaX ah) (Z 1) (zW K (Z 0) "held"))) (zL (zY t.q01 "moved_free" (xu t) [] E0 (Z 0) (zc (Z 1) zj)))
    zK) (Jh K t))
def ZB:TS:=zo (zO (xX zj) (zt 1)) (zo (zbT (zD (aK aF (zY t.q01 "settled" (xz t) [] E0 (Z 0) zj) (zY t.q01 "next_rank" (xG t) [] E0 (Z 0) zj))) (yh (tBM K "list" yo (Z 1) (zc (zY t.q01 "move" (wD t) [] E0 (Z 0) (zc (aK aC (tu (xY K) (zc (Z 1) zj)) (zW K (Z 0) "hands")) zj)) zj)))) (zL (Z 1)))
def WO:TS:=zo (zO (zY t.q01 "next_rank" (xG t) [] E0 (Z 0) zj) (zt 2)) (zo (yh (tBM K "list" yo (zW K (Z 0) "codes") (zc (tu (zgK K) (zc (Z 1) zj)) zj))) (zo (yh (tBM K "list" yo (zW K (Z 0) "waiting") (zc (Z 2) zj))) (zL (Z 2))))
def ZC(K:bw)(t:aZ):TS:=zo (zR (zD (aK tI (Z 1) (tC (.int 0)))) (zL (aK (yD K) (Z 0) (tC (.int 0))))
   zK) (zo (zR (zD (aK tI (Z 1) (tC (.int 1)))) (zL (aK (yD K) (Z 0) (tUn (rU λi=>.int (-i)) (tC (.int 1)))))
    zK) (zL (aK (yD K) (Z 0) (aK aC (Z 2) (tu (xY K) (zc (Z 0) zj))))))
def Ji(K:bw)(t:aZ):TS:=zR (zD (aK aF (Z 4) (Z 3))) (vx (xJ K (j6 (Z 1) (Z 4))) (JM K 2 (wu (zt 5) (wu (zt 6) JL))) (zR (zD (aK (zd0 K ao) (Z 5) (Z 2))) (zL (Z 6))
   zK))
   zK
def ZD(K:bw)(t:aZ):TS:=zo (vx (xJ K (Z 0)) (JM K 2 (wu (zt 5) (wu (zt 6) JL))) (zR (zD (aK (zd0 K ao) (Z 5) (Z 2))) (zL (Z 6))
   zK)) (zL (tC (.int 0)))
def Xt:TS:=zo (vx (xJ K (tu zhR (zc (Z 1) zj))) (zt 4) (Ji K t)) (ZD K t)
def Xu(K:bw)(t:aZ):TS:=zo (vx (xJ K (aK (yI K) (Z 2) (tC (.int 1)))) (JM K 2 (wu (zt 4) (wu (zt 5) JL))) (zo (zO (zT (vT ) [] E0 (zc (Z 0) (zc (Z 1) (zc (Z 4) (zc (Z 3) zj))))) (zt 6)) (zR (zD (aK rNe (Z 6) (Z 5))) (zL (yX (zc (Z 4) (zc (Z 5) (zc (Z 6) zj)))))
   zK))) (zL (tC .non))
def J9(K:bw)(t:aZ):TS:=zR (zD (aK Wq (aK (yD K) (Z 3) (Z 9)) (tC .non))) (zo (zO (zT (wF ) [] E0 (zc (Z 1) (zc (Z 2) (zc (aK (yD K) (Z 3) (Z 9)) (zc (aK aD (Z 5) (Z 9)) zj))))) (zt 10)) (zR (zD (aK Wq (Z 10) (tC .non))) (zL (yX (zc (tC (.str "again")) (zc (Z 0) (zc (aK aD (Z 5) (Z 9)) (zc (aK (yI K) (Z 10) (tC (.int 0))) (zc (aK (yI K) (Z 10) (tC (.int 1))) (zc (aK (yI K) (Z 10) (tC (.int 2))) zj))))))))
   zK))
   zK
def Yn(K:bw)(t:aZ):TS:=zo (zR (zD (aK (QI K) (Z 6) (xX zj))) (zL (yX (zc (tC (.str "rest")) (zc (Z 0) zj))))
   zK) (zL (yX (zc (tC (.str "take")) (zc (Z 0) (zc (zT (wG ) [] E0 (zc (Z 6) (zc (Z 7) (zc (Z 8) zj)))) zj)))))
def jV:TS:=zo (vx (zhz (zc (Z 4) (zc (tu (xY K) (zc (Z 3) zj)) zj))) (zt 9) (J9 K t)) (Yn K t)
def WP:TS:=zo (zR (XR (zD (aK aF (Z 4) (tu (xY K) (zc (Z 3) zj)))) (zD (aK Wq (aK (yD K) (Z 3) (Z 4)) (tC .non)))) (zR (zD (aK zgB (zT (wF ) [] E0 (zc (Z 1) (zc (Z 2) (zc (aK (yD K) (Z 3) (Z 4)) (zc (aK aD (Z 5) (Z 4)) zj))))) (tC .non))) (zL (yX (zc (tC (.str "settle")) (zc (Z 0) (zc (aK aD (Z 5) (Z 4)) zj)))))
   zK)
   zK) (jV K t)
def ZE:TS:=zo (zR (tB (zY t.q00 "over" (xm t) [] E0 (Z 0) zj)) (zo (VS (Z 4) (aK aG (Z 2) (Z 5)) (zY t.q00 "paper" (xR t) [] E0 (Z 0) zj)) (zo (qD (Z 3) (Z 2) (aK (yI K) (zY t.q00 "paper" (xR t) [] E0 (Z 0) zj) (tC (.int 2)))) (zL (tC .non))))
   zK) (zo (zR (XR (zD (aK tI (aK (yI K) (Z 1) (tC (.int 0))) (tC (.str "read")))) (zD (aK tI (tu (xY K) (zc (Z 1) zj)) (tC (.int 5))))) (yh (zY t.q00 "step" (xL t) [] E0 (Z 0) (zc (aK (yI K) (Z 1) (tC (.int 4))) zj))) (yh (zY t.q00 "step" (xL t) [.int 0] E0 (Z 0) zj))) (zL (Z 0)))
def jW(K:bw)(t:aZ)(n:Nat):TS:=zo (zR (tOr (tB (tu (q9 K) (zc (Z 1) (zc (tC (.ty "list")) zj)))) (tB (tu (q9 K) (zc (Z 1) (zc (tC (.ty "tuple")) zj))))) (zo (zR (XR (XS (tB (tu (q9 K) (zc (Z 0) (zc (tC (.ty "list")) zj))))) (XS (tB (tu (q9 K) (zc (Z 0) (zc (tC (.ty "tuple")) zj)))))) (zL (tC (.bl ao)))
   zK) (zo (zR (tOr (zD (aK rNe (tu (q9 K) (zc (Z 0) (zc (tC (.ty "list")) zj))) (tu (q9 K) (zc (Z 1) (zc (tC (.ty "list")) zj))))) (zD (aK rNe (tu (xY K) (zc (Z 0) zj)) (tu (xY K) (zc (Z 1) zj))))) (zL (tC (.bl ao)))
    zK) (zo (vx (zja K (zc (Z 0) (zc (Z 1) zj))) (JM K 2 (wu (zt 2) (wu (zt 3) JL))) (zR (XS (tB (zT (x6  n) [] E0 (zc (Z 2) (zc (Z 3) zj))))) (zL (tC (.bl ao)))
    zK)) (zL (tC (.bl ah))))))
   zK) (zo (zR (tB (tu (q9 K) (zc (Z 1) (zc (tC (.ty "str")) zj)))) (zL (zcL (tu (q9 K) (zc (Z 0) (zc (tC (.ty "str")) zj))) (aK tI (Z 0) (Z 1))))
    zK) (zL (zcL (tu (q9 K) (zc (Z 0) (zc (tC (.ty "int")) zj))) (zcL (zhw (tu (q9 K) (zc (Z 0) (zc (tC (.ty "bool")) zj)))) (aK tI (Z 0) (Z 1))))))
def qO:TS:=zo (zfF (Z 11) (tC (.int 1)) (tC (.int 1)) zgu) (zo (yh (tBM K "list" jt (Z 10) (zc (aK (yI K) (Z 12) (tC (.int 2))) zj))) (zo (VS (Z 6) (Z 1) (Wn t.q00 (jD t) [] E0 (zc (aK (yD K) (Z 2) (aK aG (aK (yI K) (Z 12) (tC (.int 2))) (Z 4))) zj))) (VS (Z 7) (Z 1) (aK (yI K) (Z 12) (tC (.int 2))))))
def W9(K:bw)(t:aZ):TS:=zo (VS (Z 9) (aK aG (aK (yI K) (Z 12) (tC (.int 2))) (Z 4)) (tC .non)) (yh (tBM K "list" yo (Z 10) (zc (aK (yI K) (Z 12) (tC (.int 2))) zj)))
def Va:TS:=zo (zR (zD (aK tI (aK (yI K) (Z 12) (tC (.int 0))) (tC (.str "take")))) (qO K t)
   zK) (zL (tC (.bl ah)))
def qP:TS:=zo (zR (zD (aK tI (aK (yI K) (Z 12) (tC (.int 0))) (tC (.str "again")))) (W9 K t)
   zK) (Va K t)
def qQ:TS:=zo (zR (zD (aK tI (aK (yI K) (Z 12) (tC (.int 0))) (tC (.str "settle")))) (zfF (Z 11) (tC (.int 0)) (tC (.int 1)) zgu)
   zK) (qP K t)
def Vb:TS:=zo (zO (zT (jH ) [] E0 (zc (Z 1) (zc (Z 3) (zc (Z 8) (zc (Z 9) (zc (aK (yD K) (Z 11) (tC (.int 0))) (zc (Z 4) (zc (tu (zhP K) (zc (Z 10) zj)) (zc (Z 5) (zc (aK (yD K) (Z 11) (tC (.int 1))) zj)))))))))) (zt 12)) (zo (zR (XS (tB (zT (x6  3) [] E0 (zc (Z 0) (zc (Z 12) zj))))) (zL (tC (.bl ao)))
    zK) (qQ K t))
def Yo:TS:=zo (zR (tOr (XS (tB (tu (q9 K) (zc (Z 0) (zc (tC (.ty "tuple")) zj))))) (zD (aK aF (tu (xY K) (zc (Z 0) zj)) (tC (.int 2))))) (zL (tC (.bl ao)))
   zK) (zo (zR (zD (aK Wq (aK (yD K) (Z 6) (Z 1)) (tC .non))) (zo (VS (Z 6) (Z 1) (zT (xN t) [] E0 (zc (aK (yD K) (Z 6) (Z 1)) (zc (Z 0) (zc (aK (yD K) (Z 7) (Z 1)) (zc (Z 8) (zc (Z 9) (zc (Z 4) zj)))))))) (zL (tC (.bl ah))))
   zK) (Vb K t))
def Jj(K:bw)(t:aZ):TS:=zo (zR (XS (tB (zT (xB t) [] E0 (zc (Z 16) (zc (Z 15) (zc (Z 2) (zc (Z 3) (zc (Z 4) (zc (Z 5) (zc (Z 9) (zc (Z 10) (zc (Z 11) (zc (Z 8) (zc (Z 12) (zc (Z 13) zj))))))))))))))) (zL (tUn (rU λi=>.int (-i)) (tC (.int 1))))
   zK) (zO (aK aC (aK aD (Z 15) (tC (.int 1))) (Z 1)) (zt 15))
def je(K:bw)(t:aZ):TS:=zo (zO (aK aC (aK aE (Z 14) (tC (.int 7))) (Z 1)) (zt 15)) (zo (zO (zY t.q01 "move" (wD t) [] E0 (Z 0) (zc (Z 15) zj)) (zt 16)) (zR (XS (tB (zT (xB t) [] E0 (zc (Z 16) (zc (Z 15) (zc (Z 2) (zc (Z 3) (zc (Z 4) (zc (Z 5) (zc (Z 9) (zc (Z 10) (zc (Z 11) (zc (Z 8) (zc (Z 12) (zc (Z 13) zj))))))))))))))) (zL (tUn (rU λi=>.int (-i)) (tC (.int 1))))
   zK))
def Jk:TS:=zo (yh (tBM K "list" yo (Z 12) (zc (aK aD (Z 4) (tu (xY K) (zc (Z 8) zj))) zj))) (zo (yh (zY t.q01 "add" (vi t) [] E0 (Z 0) (zc (Z 17) zj))) (yh (tBM K "list" yo (Z 8) (zc (tC .non) zj))))
def Jl:TS:=zo (zR (XR (zD (aK aF (aK aC (Z 14) (tC (.int 7))) (tC (.int 2)))) (zD (aK aF (tu (xY K) (zc (Z 8) zj)) (tu (xY K) (zc (Z 2) zj))))) (zo (yh (tBM K "list" yo (Z 12) (zc (aK aD (Z 4) (tu (xY K) (zc (Z 8) zj))) zj))) (zo (yh (zY t.q01 "add" (vi t) [] E0 (Z 0) (zc (aK (yD K) (Z 2) (tu (xY K) (zc (Z 8) zj))) zj))) (yh (tBM K "list" yo (Z 8) (zc (tC .non) zj)))))
   zK) (je K t)
def vz:TS:=zo (vx (xJ K (Z 18)) (zt 16) (Jj K t)) (zL (aK (yD K) (Z 13) (tC (.int 1))))
def Vc:TS:=zo (zR (XR (zD (aK (zcm K) (Z 18) (xX zj))) (zD (aK (zd0 K ah) (tSl (zi0 K) (aK (yD K) (Z 18) (tUn (rU λi=>.int (-i)) (tC (.int 1)))) jn (vD (tC (.int 1)))) (yX (zc (tC (.str "settle")) zj))))) (zL (tUn (rU λi=>.int (-i)) (tC (.int 1))))
   zK) (vz K t)
def ZF:TS:=zo (zO (tC (.int 0)) (zt 15)) (zo (zO (zY t.q01 "finish" (wE t) [] E0 (Z 0) zj) (zt 18)) (Vc K t))
def ZG:TS:=zo (vx (xJ K (tSl (Qv K) (Z 2) (vD (tu (xY K) (zc (Z 8) zj))) jn)) (zt 17) (Jk K t)) (ZF K t)
def ZH:TS:=zo (vx (xJ K (Z 7)) (zt 14) (Jl K t)) (ZG K t)
def Xv:TS:=zo (zO (xX zj) (zt 8)) (zo (zO (qE (Wk (zc (Z 1) zj)) (zt 0) QA (tC .non) 1 []) (zt 9)) (zo (zO (qE (Wk (zc (Z 1) zj)) (zt 0) QA (Z 1) 1 [4]) (zt 10)) (zo (zO YC (zt 11)) (zo (zO (xX zj) (zt 12)) (zo (zO (xX (zc (tC (.int 0)) (zc (Z 6) zj))) (zt 13)) (ZH K t))))))
def qR(K:bw)(t:aZ):TS:=zo (zR (zD (aK aF (Z 1) (tu (xY K) (zc (Z 0) zj)))) (zL (aK (yD K) (Z 0) (Z 1)))
   zK) (zL (tC (.int 0)))
def X6(K:bw)(t:aZ)(n:Nat):TS:=zL (aK zaD (xX (zc (yX (zc (tC (.str "skip")) (zc (aK (yI K) (Z 0) (tC (.int 1))) (zc (Z 3) zj)))) zj)) (Z 2))
def X7(K:bw)(t:aZ)(n:Nat):TS:=zo (zO (zT (wt  n) [] E0 (zc (aK (yI K) (Z 0) (tC (.int 3))) (zc (aK aD (Z 3) (tC (.int 1))) zj))) (zt 4)) (zL (aK zaD (aK zaD (aK zaD (xX (zc (yX (zc (tC (.str "skip")) (zc (aK (yI K) (Z 0) (tC (.int 1))) (zc (aK aD (Z 3) (tC (.int 1))) zj)))) zj)) (Z 2)) (xX (zc (yX (zc (tC (.str "go")) (zc (aK aD (aK aD (Z 3) (tC (.int 1))) (tu (xY K) (zc (Z 4) zj))) zj))) zj))) (Z 4)))
def kL(n:Nat):TS:=zo (zR (zD (aK (QI K) (aK (yI K) (Z 0) (tC (.int 3))) (xX zj))) (X6 K t n)
   zK) (X7 K t n)
def ZI(n:Nat):TS:=zo (zO (zT (wt  n) [] E0 (zc (aK (yI K) (Z 0) (tC (.int 2))) (zc (aK aD (Z 1) (tC (.int 1))) zj))) (zt 2)) (zo (zO (aK aD (aK aD (Z 1) (tC (.int 1))) (tu (xY K) (zc (Z 2) zj))) (zt 3)) (kL K t n))
def WQ(K:bw)(t:aZ)(n:Nat):TS:=zo (zO (xX zj) (zt 2)) (zo (vx (xJ K (Z 0)) (zt 3) (zR (zD (aK tI (aK (yI K) (Z 3) (tC (.int 0))) (tC (.str "if")))) (yh (tBM K "list" za9 (Z 2) (zc (zT (Zp  n) [] E0 (zc (Z 3) (zc (aK aD (Z 1) (tu (xY K) (zc (Z 2) zj))) zj))) zj))) (yh (tBM K "list" yo (Z 2) (zc (Z 3) zj))))) (zL (Z 2)))
def Jm(K:bw)(t:aZ):TS:=zL (zT (wt  6) [] E0 (zc (Z 0) (zc (tC (.int 0)) zj)))
def qS(K:bw)(t:aZ):TS:=wb K (Z 0) (tC (.int 0)) "times"
def qv(K:bw)(t:aZ):TS:=zo (zO (aK aC (Z 0) (tC (.int 5))) (zt 2)) (zo (zR (zD (aK aF (Z 2) (tC (.int 2)))) (zL (yX (zc (aK aC (aK aE (Z 0) (tC (.int 5))) (tC (.int 3))) zj)))
    zK) (zo (zR (zD (aK tI (Z 2) (tC (.int 2)))) (zL (yX (zc (aK (yD K) (Z 1) (aK aC (aK aE (Z 0) (tC (.int 5))) (tC (.int 2)))) zj)))
    zK) (zo (zR (XR (zD (aK tI (Z 2) (tC (.int 3)))) (zD (aK tI (aK aC (aK aE (Z 0) (tC (.int 10))) (tC (.int 3))) (tC (.int 0))))) (zL (yX (zc (tC (.int 7)) (zc (aK (yD K) (Z 1) (aK aC (aK aE (Z 0) (tC (.int 30))) (tC (.int 2)))) (zc (tC (.str "over")) zj)))))
    zK) (zo (zR (zD (aK tI (Z 2) (tC (.int 3)))) (zL (yX (zc (aK (yD K) (Z 1) (aK aC (aK aE (Z 0) (tC (.int 5))) (tC (.int 2)))) (zc (tC (.int 3)) (zc (tC (.str "rest")) zj)))))
    zK) (zL (yX (zc (zT xj [] E0 (zc (aK aE (Z 0) (tC (.int 5))) zj)) zj)))))))
def qw(K:bw)(t:aZ):TS:=zo (zO (xX (zc (tC (.str "plus")) (zc (tC (.str "minus")) (zc (tC (.str "times")) (zc (tC (.str "over")) (zc (tC (.str "rest")) (zc (tC (.str "under")) (zc (tC (.str "same")) zj)))))))) (zt 2)) (zo (zO (aK aC (Z 0) (tC (.int 9))) (zt 3)) (zo (zR (zD (aK tI (Z 3) (tC (.int 0)))) (zL (yX (zc (zT xj [] E0 (zc (aK aE (Z 0) (tC (.int 9))) zj)) zj)))
    zK) (zo (zR (zD (aK tI (Z 3) (tC (.int 1)))) (zL (yX (zc (aK (yD K) (Z 1) (aK aC (aK aE (Z 0) (tC (.int 9))) (tC (.int 2)))) zj)))
    zK) (zo (zR (zD (aK tI (aK aC (aK aE (Z 0) (tC (.int 9))) (tC (.int 2))) (tC (.int 0)))) (zL (yX (zc (aK (yD K) (Z 1) (aK aC (aK aE (Z 0) (tC (.int 18))) (tC (.int 2)))) (zc (zT xj [] E0 (zc (aK aE (Z 0) (tC (.int 36))) zj)) (zc (aK (yD K) (Z 2) (aK aG (Z 3) (tC (.int 2)))) zj)))))
    zK) (zL (yX (zc (aK (yD K) (Z 1) (aK aC (aK aE (Z 0) (tC (.int 18))) (tC (.int 2)))) (zc (aK (yD K) (Z 1) (aK aC (aK aE (Z 0) (tC (.int 36))) (tC (.int 2)))) (zc (aK (yD K) (Z 2) (aK aG (Z 3) (tC (.int 2)))) zj)))))))))
def Yp(K:bw)(t:aZ):TS:=zo (zR (zD (aK aF (Z 3) (tC (.int 4)))) (zL (yX (zc (tC (.str "take")) (zc (Z 4) (zc (Z 6) (zc (Z 5) zj))))))
   zK) (zo (zR (zD (aK aF (Z 3) (tC (.int 7)))) (zL (yX (zc (tC (.str "give")) (zc (Z 4) (zc (Z 6) (zc (Z 7) zj))))))
    zK) (zo (zR (zD (aK tI (Z 3) (tC (.int 7)))) (zL (yX (zc (tC (.str "let")) (zc (Z 5) (zc (Z 7) zj)))))
    zK) (zo (zR (zD (aK tI (Z 3) (tC (.int 8)))) (zL (yX (zc (tC (.str "say")) (zc (Z 7) zj))))
    zK) (zL (yX (zc (tC (.str "off")) (zc (yX (zc (Z 5) (zc (aK aD (aK aC (aK (yD K) (Z 0) (tC (.int 1))) (tC (.int 3))) (tC (.int 1))) (zc (tC (.str "same")) zj)))) zj)))))))
def ZJ:TS:=zo (zO (aK aC (aK (yD K) (Z 0) (tC (.int 0))) (tC (.int 10))) (zt 3)) (zo (zO (aK (yD K) (Z 1) (aK aC (aK aE (aK (yD K) (Z 0) (tC (.int 0))) (tC (.int 10))) (tC (.int 2)))) (zt 4)) (zo (zO (aK (yD K) (Z 2) (aK aC (aK aE (aK (yD K) (Z 0) (tC (.int 0))) (tC (.int 20))) (tC (.int 2)))) (zt 5)) (zo (zO (zT vQ [] E0 (zc (aK (yD K) (Z 0) (tC (.int 1))) (zc (Z 2) zj))) (zt 6)) (zo (zO (zT wB [] E0 (zc (aK (yD K) (Z 0) (tC (.int 2))) (zc (Z 2) zj))) (zt 7)) (Yp K t)))))
def jf(K:bw)(t:aZ):TS:=zo (zR (zD (aK tI (aK aC (aK aE (Z 0) (tC (.int 7))) (tC (.int 3))) (tC (.int 0)))) (zo (zO (aK aC (aK (yD K) (Z 3) (tC (.int 18))) (aK aD (tu (xY K) (zc (Z 4) zj)) (tC (.int 1)))) (zt 5)) (zo (zO (aK aD (Z 5) (aK aC (aK (yD K) (Z 3) (tC (.int 21))) (aK aG (aK aD (tu (xY K) (zc (Z 4) zj)) (tC (.int 1))) (Z 5)))) (zt 6)) (zo (zO (yX (zc (tC (.str "if")) (zc (zT wB [] E0 (zc (aK (yD K) (Z 3) (tC (.int 19))) (zc (Z 2) zj))) (zc (tSl (Qv K) (Z 4) (vD (Z 5)) (vD (Z 6))) (zc (tSl (Qv K) (Z 4) jn (vD (aK aC (aK (yD K) (Z 3) (tC (.int 20))) (tC (.int 3))))) zj))))) (zt 7)) (zO (aK zaD (aK zaD (tSl (Qv K) (Z 4) jn (vD (Z 5))) (xX (zc (Z 7) zj))) (tSl (Qv K) (Z 4) (vD (Z 6)) jn)) (zt 4)))))
   zK) (zL (Z 4))
def Xw:TS:=zo (zO (zT xA [] E0 (zc (Z 0) (zc (tC (.int 22)) zj))) (zt 3)) (zo (zO (qE (Wk (zc (aK aC (Z 0) (tC (.int 7))) zj)) (zt 0) QA (zT jG [] E0 (zc (tSl (Qv K) (Z 1) (vD (aK aH (tC (.int 3)) (Z 0))) (vD (aK aD (aK aH (tC (.int 3)) (Z 0)) (tC (.int 3))))) (zc (Z 2) (zc (Z 3) zj)))) 1 [3,1,2]) (zt 4)) (jf K t))
def Qc:TS:=zo (zO (zT (vU K t) [] E0 (zc (Z 11) (zc (Z 5) (zc (Z 4) (zc (Z 3) (zc (Z 7) (zc (Z 6) (zc (Z 9) (zc (Z 0) zj))))))))) (zt 12)) (zo (zR (tOr (zD (aK aF (Z 12) (tC (.int 0)))) (zD (aK rNe (zY t.q01 "settled" (xz t) [] E0 (Z 11) zj) (aK aD (Z 7) (tu (xY K) (zc (Z 4) zj)))))) (zL (tC (.bl ao)))
    zK) (zL (zh2 (aK rNe (Z 6) (tC (.int 2))) (zT (x6  3) [] E0 (zc (zY t.q05 "chosen" (y9 t) [] E0 (Z 8) (zc (xX (zc (tC (.int 0)) (zc (tC (.int 1)) (zc (tC (.int 2)) (zc (tC (.int 3)) (zc (tC (.int 4)) zj)))))) zj)) (zc (aK aC (Z 12) (tC (.int 5))) zj))))))
def Qd:TS:=zo (zO (Wn t.q01 (wC t) [] E0 (zc (tu (zgK K) (zc (Z 3) zj)) (zc (Z 5) (zc (Z 8) (zc (Z 7) zj))))) (zt 11)) (Qc K t)
def Qe:TS:=zo (zO (aK aC (zT (yk K) [] E0 (zc (Z 0) (zc (tC (.int 2)) zj))) (tC (.int 3))) (zt 9)) (zo (vx (Wk (zc (Z 9) zj)) (zt 10) (yh (zcr [(t.q0c,(xH t)),(t.q05,(y9 t)),(t.q0d,(vb t))] "chosen" E0 (Z 8) (zc (xX (zc (Z 10) zj)) zj)))) (Qd K t))
def zbk:TS:=zo (zO (zcq t.q0d) (zt 8)) (zo (zR (zD (aK tI (Z 6) (tC (.int 1)))) (zO (zcq t.q0c) (zt 8))
    zK) (zo (zR (zD (aK tI (Z 6) (tC (.int 2)))) (zO (Wn t.q05 (qJ t) [] E0 zj) (zt 8))
    zK) (Qe K t)))
def zbl:TS:=zo (zO (aK aD (tC (.int 1)) (aK aC (zT (yk K) [] E0 (zc (Z 0) (zc (tC (.int 0)) zj))) (tC (.int 8)))) (zt 5)) (zo (zO (aK aC (aK aE (zT (yk K) [] E0 (zc (Z 0) (zc (tC (.int 0)) zj))) (tC (.int 8))) (tC (.int 3))) (zt 6)) (zo (zO (aK aC (aK (rI CMulC λi j=>.int (i*j)) (aK aE (zT (yk K) [] E0 (zc (Z 0) (zc (tC (.int 0)) zj))) (tC (.int 24))) (aK (rI Qn λi j=>.int (i^j.toNat)) (tC (.int 1000000007)) (tC (.int 3)))) (aK aG (aK (rI Qn λi j=>.int (i^j.toNat)) (tC (.int 10)) (tC (.int 29))) (tC (.int 300)))) (zt 7)) (zbk K t)))
def zbm:TS:=zo (zO (qE (xJ K (tSl (Qv K) (Z 0) (vD (tC (.int 3))) (vD (tC (.int 7))))) (zt 0) QA (zT YJ [] E0 (zc (zT vR [] E0 (zc (Z 0) (zc (Z 1) (zc (Z 2) zj)))) zj)) 1 [1,2]) (zt 4)) (zbl K t)
def zfI:TS:=zo (zO (zT vP [] E0 (zc (zT (yk K) [] E0 (zc (Z 0) (zc (tC (.int 1)) zj))) zj)) (zt 1)) (zo (zO (zT vP [] E0 (zc (zT (yk K) [] E0 (zc (Z 0) (zc (tC (.int 2)) zj))) zj)) (zt 2)) (zo (zO (zT wY [] E0 (zc (aK aE (zT (yk K) [] E0 (zc (Z 0) (zc (tC (.int 1)) zj))) (tC (.int 7))) (zc (Z 1) zj))) (zt 3)) (zbm K t)))
end
section
variable {K:bw}{t:aZ}{H:Hp}{Q:VK}
theorem zfJ{j:Int}(a:0<=j)(b:j<=100):Qn 10 j:=⟨a,(),()⟩
theorem xv(h:n<=100000):n<=Bb:=bO h ()
theorem vq(T:String):fS K (.type T) (.type T)=U ah:=by
 unfold fS;rw[ap (by simp)]
theorem kf(K:bw):KF K:=⟨by with_unfolding_all rfl,by with_unfolding_all rfl,by with_unfolding_all rfl,by with_unfolding_all rfl,by with_unfolding_all rfl,by with_unfolding_all rfl,by with_unfolding_all rfl,by with_unfolding_all rfl⟩
theorem dB{i j:Int}(a:0<j:=by lia)(c:j<10000000000000000000000000000000000000000000000:=by lia):yP i j:=by
 have b:(10000000000000000000000000000000000000000000000:Int)<big:=by lia
 exact⟨a,()⟩
theorem zbn{b:Type}{xs:List b}{i:Int}(d:0<=i)(c:i<xs.length):∃x,ub xs i=U x/\x∈xs:=by
 obtain⟨n,rfl⟩:∃n:Nat,i=(n:Int):=⟨i.toNat,()⟩;have a:n<xs.length:=by lia
 refine⟨xs[n],?_,dZ a⟩;unfold ub ixN;rw[ap d,ap c];simp[a]
theorem ziw{a:Type}{xs:List a}(e:Int)(n:Nat)(c:xs.length=n)(b:0<(n:Int)):∃x,ub xs (e%n)=U x/\x∈xs :=
 zbn (cA _ ()) (by rw[c];exact ck _ b)
theorem zbo{a:List V} :(a++[y])[(a++[y]).length-1]?=U y:=by simp
theorem X8{xs:List V} :(xs++[y]).dropLast=xs:=by simp
theorem xk{H a:Hp}(s:aJ H a)(c:H w=ak):aJ H (upd a w o):=λb u e=>by rw[zi (zw e c)];exact s b u e
theorem zix(st:List Int):(∃l a b,st=l++[a,b])\/∀d v,isJ v=ah->wM d st v=.error .stuck:=by
 cases h:st.reverse with
 |nil =>
  refine .inr λd v c=>?_;unfold wM;rw[c,ap Y,h];split <;> rename_i e1 e2 <;> first|rfl|cases e2
 |cons b r =>
  cases r with
  |nil =>
   refine .inr λd v c=>?_;unfold wM;rw[c,ap Y,h];split <;> rename_i e1 e2 <;> first|rfl|cases e2
  |cons a r =>
   refine .inl ⟨r.reverse,a,b,?_⟩;have:=congrArg List.reverse h;rw[List.reverse_reverse] at this;rw[this];simp
theorem zfK{f:List (aU×V)}{l:List Int}{a b:Int}{w:Str}(d:isJ (.str w)=ah):wM f (l++[a,b]) (.str w)=match kj w a b with|.ok c=>.ok (l++[c])|.error e=>.error e:=by
 unfold wM;rw[d,ap rfl];simp only[pD,ro,rT,gu,dY];cases kj w a b with
 |error e=>rfl
 |ok c=>simp
def rkI(k:List (aU×V))(f:List V)(d e w:D)(H:Hp)(i:Nat)(c:St)(b:Hp):Prop:=∃a,(∃j h g,c=[U (.ref d),U (.ref e),U (.ref w),j,h,g])/\wQ k (f.take i) []=.ok a/\(∀x∈a,tw x=ah)/\a.length<=i/\b w=U (.lst (a.map V.int))/\aJ H b
theorem zde(c:Nat):({ cps:=#[c] }:Str).length=1:=rfl
theorem zJ{H a:Hp}(s:aJ H a)(h:a Bp=ak):H Bp=ak:=by
 cases e:H Bp with
 |none=>rfl
 |some o=>rw[s _ _ e] at h;cases h
theorem tY{Q:VK}{E:XK}{H:Hp}:fin t (.error e) Q E H↔zfH t e E H:=by cases e <;> rfl
theorem fin_ok{i:Int}{Q:VK}{E:XK}{H:Hp}:fin t (.ok i) Q E H↔Q (.int i) H:=sC
theorem tE.same{H d:Hp}(h:tE H v c)(s:aJ H d):tE d v c:=by
 cases c with
 |row r=>exact⟨h.1.mono s,h.2⟩
 |skip e to =>
  obtain⟨p,f,b,a,g⟩:=h;exact⟨p,f,b,s _ _ a,s _ _ g⟩
 |go en =>
  obtain⟨p,b,a⟩:=h;exact⟨p,b,s _ _ a⟩
theorem wa{H b:Hp}(s:aJ H b):∀ {a:List V} {C:List Cs},Paired (tE H) a C->Paired (tE b) a C
 |_,_,.nil=>.nil
 |_,_,.cons h r=>.cons (h.same s) (wa s r)
def uc(H c:Hp):Prop:=∀b a,H b=U (.tup a)->c b=U (.tup a)
theorem tE.ts{H q:Hp}(s:uc H q)(h:tE H v c):tE q v c:=by
 cases c with
 |row r =>
  obtain⟨h,n⟩:=h;refine⟨?_,n⟩;cases r with
  |iff e a b=>exact n.elim
  |take sh e sl =>
   obtain⟨r,d,l,k,j,i,g⟩:=h;exact⟨r,d,l,k,j,s _ _ i,s _ _ g⟩
  |give sh e f =>
   obtain⟨r,d,u,l,k,j,i,g,y,x⟩:=h;exact⟨r,d,u,l,k,j,i,s _ _ g,s _ _ y,s _ _ x⟩
  |lt sl e =>
   obtain⟨r,d,l,k,j,i,g⟩:=h;exact⟨r,d,l,k,j,s _ _ i,s _ _ g⟩
  |say e =>
   obtain⟨r,d,l,k,j,i,g⟩:=h;exact⟨r,d,l,k,j,s _ _ i,s _ _ g⟩
  |off e =>
   obtain⟨r,d,l,k,j,i,g⟩:=h;exact⟨r,d,l,k,j,s _ _ i,s _ _ g⟩
 |skip e to =>
  obtain⟨p,d,o,m,w⟩:=h;exact⟨p,d,o,s _ _ m,s _ _ w⟩
 |go en =>
  obtain⟨p,o,m⟩:=h;exact⟨p,o,s _ _ m⟩
theorem xO{H b:Hp}(s:uc H b):∀ {a:List V} {C:List Cs},Paired (tE H) a C->Paired (tE b) a C
 |_,_,.nil=>.nil
 |_,_,.cons h r=>.cons (h.ts s) (xO s r)
theorem zdf(x:Rw):(∃e a b,x=.iff e a b)\/Ja x:=by
 cases x with
 |iff e a b=>exact .inl ⟨e,a,b,Y⟩
 |_=>exact .inr trivial
theorem vW(h:Ja x)(k:Nat):xF x k=[.row x]:=by
 cases x with
 |iff e a b=>exact h.elim
 |_=>rw[xF];intro e a b z;cases z
theorem zg6{F:D->Prop}(h:pv F H v r):∃p i j,v=.ref p/\H p=U (.tup i)/\ub i 0=U (.str j)/\(j="if"↔¬ Ja r):=by
 cases r with
 |take sh e sl =>
  unfold pv at h;obtain⟨r,d,rfl,_,_,c,g⟩:=h;exact⟨r,_,_,Y,c,Y,⟨λz=>absurd z (),λz=>absurd trivial z⟩⟩
 |give sh e f =>
  unfold pv at h;obtain⟨r,d,l,rfl,_,_,_,c,g⟩:=h;exact⟨r,_,_,Y,c,Y,⟨λz=>absurd z (),λz=>absurd trivial z⟩⟩
 |lt sl e =>
  unfold pv at h;obtain⟨r,d,rfl,_,_,c,g⟩:=h;exact⟨r,_,_,Y,c,Y,⟨λz=>absurd z (),λz=>absurd trivial z⟩⟩
 |say e =>
  unfold pv at h;obtain⟨r,d,rfl,_,_,c,g⟩:=h;exact⟨r,_,_,Y,c,Y,⟨λz=>absurd z (),λz=>absurd trivial z⟩⟩
 |off e =>
  unfold pv at h;obtain⟨r,d,rfl,_,_,c,g⟩:=h;exact⟨r,_,_,Y,c,Y,⟨λz=>absurd z (),λz=>absurd trivial z⟩⟩
 |iff e a b =>
  unfold pv at h;obtain⟨r,d,n,m,i,k,rfl,u,s,q,o,c,g⟩:=h;exact⟨r,_,_,Y,c,Y,⟨λ_ z=>z,λ_=>rfl⟩⟩
theorem Paired.app2{f e:Type}{F:f->e->Prop}:∀ {a:List f} {b:List e} {c:List f} {d:List e},Paired F a b->Paired F c d->Paired F (a++c) (b++d)
 |_,_,_,_,.nil,h=>h
 |_,_,_,_,.cons h r,h2=>.cons h (Paired.app2 r h2)
def sfI(v:V)(c:D)(e:List V)(k n:Nat)(r:hU)(H:Hp)(i:Nat)(d:St)(a:Hp):Prop:=∃(rest:hU) (b:List V) (C:List Cs),(∃o,d=[U v,U (.int k),U (.ref c),o])/\aJ H a/\a c=U (.lst b)/\Paired (tE a) b C/\sQ JR H (e.drop i) rest/\W2 (n+1) rest/\C++yc rest (k+C.length)=yc r k
theorem QY{H:Hp}(h:H Bo=U (.lst ys)):uc H (upd H Bo (.lst zs)):=λb a e=>by rw[zi (zM e h ())];exact e
theorem QZ{v:V}{r:hU}{k n:Nat}(h1:RlAt JR H v r)(h2:W2 (n+1) r)(h3:k+(yc r k).length<=500)(q:∀l m d,aJ H d->H l=ak->d l=U (.lst m)->Paired (tE d) m (yc r k)->Q (.ref l) d) :
  WQ K t n (sS Q) (L2.start ["rows","first","steps","row"] [v,.int k]) H:=by
 obtain⟨p,m,rfl,_,hp,hx⟩:=h1;refine⟨bS _,λf J=>?_⟩;have s0:=sX (o:=HO.lst []) f J;refine⟨_,Y,p,Y,⟨_,aQ.of (s0 _ _ hp)⟩,?_⟩;refine yM m (sfI (.ref p) f m k n r H) ⟨r,[],[],⟨_,Y⟩,s0,zh,.nil,by rw[iO];exact hx,h2,Y⟩ (λi σ d ⟨_,_,_,_,s,_⟩=>aQ.of (s _ _ hp)) ?_ ?_
 .rintro i u σ d hu ⟨rest,j,C,⟨o,rfl⟩,s,c,y,T,I,A⟩;obtain⟨x,g,rfl,M,rr⟩:=T.get hu;have e0:yc (.cons x g) (k+C.length)=xF x (k+C.length)++yc g (k+C.length+(xF x (k+C.length)).length):=by rw[yc]
  rw[e0] at A;have B:=I.dp;have c1:(hU.cons x g).deep=max x.deep g.deep:=by rw[hU.deep]
  rw[c1] at B;have E:=I.ct;have c2:(hU.cons x g).cnt=x.cnt+g.cnt:=by rw[hU.cnt]
  rw[c2] at E;have h:=I.pl;unfold Ze at h;have le:=congrArg fT A;rw[bC,bC] at le;have ly:=bL y;have O:∀ {H2:Hp} {o':Option V} {G:List V},aJ H H2->H2 f=U (.lst G)->Paired (tE H2) G (C++xF x (k+C.length))->sfI (.ref p) f m k n r H (i+1) [U (.ref p),U (.int k),U (.ref f),o'] H2:=λ{H2 o' G} w g2 p2 =>
   ⟨g,G,_,⟨_,Y⟩,w,g2,p2,rr,⟨(),(),h.2⟩,by rw[cO,bC,<-pX];exact A⟩
  obtain⟨p1,fs,hd,rfl,e2,e3,e4⟩:=zg6 M;refine qg Y (s _ _ e2) e3 (λez=>?_) λez=>?_
  .rcases zdf x with ⟨e,a,b,rfl⟩|hni
   rotate_left
   .exact absurd hni (e4.mp ez)
   have d1:(Rw.iff e a b).deep=max a.deep b.deep+1:=by rw[Rw.deep]
   have d2:(Rw.iff e a b).cnt=max a.cnt b.cnt+1:=by rw[Rw.cnt]
   rw[d1] at B;rw[d2] at E;have N:=h.1;unfold VR at N;refine⟨_,Y,.inl ⟨Y,_,aQ.of c⟩,_,Y,_,Y,zfE Y c ⟨_,_,Y,Y,_,e,a,b,k+C.length,by rw[<-ly];rfl,M.mono s,⟨(),(),N.2.1⟩,⟨(),(),N.2.2⟩,(),λl us H2 w hl pu=>?_⟩⟩;have lu:=bL pu;refine⟨f,_,j,us,Y,Y,w _ _ c,hl,bO (by lia:j.length+us.length<=1000) (),?_⟩;exact O (xk (s.trans w) J) zh (xO (QY (w _ _ c)) (Paired.app2 (wa w y) pu))
  .have hni:Ja x:=by
    rcases zdf x with ⟨e,a,b,rfl⟩|hni
    .exact absurd (e4.mpr (λz=>z)) ez
    .exact hni
   have ec:=vW hni (k+C.length);rw[ec] at O;refine⟨_,Y,.inl ⟨Y,_,aQ.of c⟩,_,Y,f,j,_,Y,Y,c,bT (by lia:j.length<=900) (),?_⟩;exact O (xk s J) zh (Paired.snocP (xO (QY c) y) (tE.ts (QY c) ⟨M.mono s,hni⟩))
 .rintro σ d ⟨rest,j,C,⟨o,rfl⟩,s,c,y,T,I,A⟩;have e:=T.none;subst e;rw[show yc .nil (k+C.length)=[] by rw[yc],lI] at A;rw[A] at y;exact⟨_,Y,q f j d s J c y⟩
theorem xc{H b:Hp}(e:upd H a o=b)(h:H a=ak):aJ H b/\b a=U o:=⟨e ▸ sX a h,e ▸ zh⟩
theorem Vd{v:V}{e:List V}{a b:hU}{k n:Nat}(h1:pv JR H v (.iff e a b))(h2:W2 n a)(h3:W2 n b)(g:k+(xF (.iff e a b) k).length<=500)(q:∀l M H',aJ H H'->H' l=U (.lst M)->Paired (tE H') M (xF (.iff e a b) k)->Q (.ref l) H') :
  ZI K t n (sS Q) (L2.start ["row","at","steps","to","others"] [v,.int k]) H:=by
 unfold pv at h1;obtain⟨p,te,la,O,M,J,rfl,f1,f2,f3,f4,I,e3,e4,e6,e5,G⟩:=h1;have ec:xF (.iff e a b) k=blk e k (yc a (k+1)) (hU.isNil b) (yc b (k+2+(yc a (k+1)).length)):=by rw[xF]
 rw[ec] at g q;refine jR Y I Y ⟨_,Y,_,_,Y,Y,.ref la,a,k+1,Y,⟨la,M,Y,f3,e4,e6⟩,h2,?_,λl c H1 s1 fl hl pu=>?_⟩
 .unfold blk at g;split at g <;> simp only[bU,bC] at g <;> lia
 have lu:=bL pu;generalize yc a (k+1)=A at *
 refine⟨_,Y,_,_,Y,Y,zfE Y hl ⟨_,_,Y,Y,?_⟩⟩;have ei:(k:Int)+1+c.length=((k+1+A.length:Nat):Int):=by lia
 show kL K t n _ [U (.ref p),U (.int k),U (.ref l),U (.int ((k:Int)+1+c.length)),ak] H1;rw[ei];refine jR Y (s1 _ _ I) Y ⟨bS _,λz gz=>?_⟩;generalize f0:upd H1 z _=H2;obtain⟨s2,hz⟩:=xc f0 gz;have h:=s1.trans s2;refine⟨O,z,J,Y,Y,aQ.of (h _ _ e5),aQ.of hz,_,Y,?_⟩;have nb:hU.isNil b=decide (J=[]):=by
  cases b with
  |nil=>unfold sQ at G;simp[hU.isNil,G]
  |cons x r=>unfold sQ at G;obtain⟨v,vs,rfl,_⟩:=G;simp[hU.isNil]
 have E:=s2 _ _ hl;have y:=wa s2 pu;show if _ then _ else _
 by_cases hb:J=[]
 .rw[ap (Bj hb)];have eb:∀B,blk e k A (hU.isNil b) B=.skip e (k+1+A.length)::A:=λB=>by unfold blk;rw[ap (by rw[nb];exact Bj hb)]
  rw[eb] at q g;rw[bU] at g;refine jR Y (h _ _ I) Y ⟨_,Y,by show (3:Nat)<=Bb;decide,λd g1=>?_⟩;generalize c1:upd H2 d _=H3;obtain⟨t1,f⟩:=xc c1 g1;refine⟨by show (1:Nat)<=Bb;decide,λp2 g2=>?_⟩;generalize c2:upd H3 p2 _=H4;obtain⟨w,m⟩:=xc c2 g2;have T:=t1.trans w;refine⟨_,Y,_,_,_,c,Y,Y,m,T _ _ E,bO (by show 1+c.length<=1000;lia) (),λN g3=>?_⟩;have i:=sX (o:=HO.lst ([V.ref d]++c)) N g3;exact q N ([V.ref d]++c) _ (h.trans (T.trans i)) zh (.cons ⟨d,te,Y,(w.trans i) _ _ f,(h.trans (T.trans i)) _ _ e3⟩ (wa (T.trans i) y))
 .rw[am (by rw[decide_eq_true_eq];exact hb)];have eb:∀B,blk e k A (hU.isNil b) B=.skip e (k+2+A.length)::(A++(.go (k+2+A.length+B.length)::B)):=λB=>by unfold blk;rw[am (by rw[nb];simpa using hb)]
  rw[eb] at q g;rw[bU,bC,bU] at g;have ej:((k+1+A.length:Nat):Int)+1=((k+2+A.length:Nat):Int):=by lia
  refine jR Y (h _ _ I) Y ⟨_,Y,_,_,Y,Y,.ref O,b,k+2+A.length,?_,⟨O,J,Y,f4,h _ _ e5,G.mono h⟩,h3,(),λl2 u H3 s3 al C pw=>?_⟩
  .show [V.ref O,V.int (((k+1+A.length:Nat):Int)+1)]=_;rw[ej]
  have lw:=bL pw;generalize yc b (k+2+A.length)=B at *
  have S3:=h.trans s3;refine jR Y (S3 _ _ I) Y ⟨_,Y,_,_,Y,Y,by show (3:Nat)<=Bb;decide,λd g1=>?_⟩;generalize c1:upd H3 d _=H4;obtain⟨t1,f⟩:=xc c1 g1;have f:H4 d=U (.tup [.str (bh "skip"),.ref te,.int ((k+2+A.length:Nat):Int)]):=by rw[<-ej];exact f
  refine⟨by show (1:Nat)<=Bb;decide,λp2 g2=>?_⟩;generalize c2:upd H4 p2 _=H5;obtain⟨w,m⟩:=xc c2 g2;have T2:=t1.trans w;refine⟨_,Y,_,_,_,c,Y,Y,m,(s3.trans T2) _ _ E,bO (by show 1+c.length<=1000;lia) (),λN g3=>?_⟩;generalize c3:upd H5 N _=H6;obtain⟨i,aj⟩:=xc c3 g3;have T3:=T2.trans i;refine⟨_,Y,_,_,Y,Y,zfE Y (T3 _ _ C) ⟨_,_,Y,Y,by show (2:Nat)<=Bb;decide,λs g4=>?_⟩⟩;generalize c4:upd H6 s _=H7;obtain⟨t4,j⟩:=xc c4 g4;have eg:((k+1+A.length:Nat):Int)+1+u.length=((k+2+A.length+B.length:Nat):Int):=by lia
  have j:H7 s=U (.tup [.str (bh "go"),.int ((k+2+A.length+B.length:Nat):Int)]):=by rw[<-eg];exact j
  refine⟨by show (1:Nat)<=Bb;decide,λp5 g5=>?_⟩;generalize c5:upd H7 p5 _=H8;obtain⟨t5,ai⟩:=xc c5 g5;refine⟨_,_,_,_,Y,Y,(t4.trans t5) _ _ aj,ai,bO (by show ([V.ref d]++c).length+1<=1000;rw[bC,cU];lia) (),λp6 g6=>?_⟩;generalize c6:upd H8 p6 _=H9;obtain⟨t6,ag⟩:=xc c6 g6;have T6:=t4.trans (t5.trans t6);refine⟨_,Y,_,_,_,u,Y,Y,ag,(T3.trans T6) _ _ C,bO (by rw[bC,bC,cU,cU];lia:_<=1000) (),λp7 g7=>?_⟩;generalize c7:upd H9 p7 _=H10;obtain⟨t7,aa⟩:=xc c7 g7;have T7:=T6.trans t7;have Bm:=T3.trans T7;have el:[V.ref d]++c++[V.ref s]++u=V.ref d::(c++(V.ref s::u)):=by simp
  refine q p7 ([V.ref d]++c++[V.ref s]++u) _ (S3.trans Bm) aa ?_;rw[el];exact .cons ⟨d,te,Y,(w.trans (i.trans T7)) _ _ f,(S3.trans Bm) _ _ e3⟩ (Paired.app2 (wa (s3.trans Bm) y) (.cons ⟨s,Y,(t5.trans (t6.trans t7)) _ _ j⟩ (wa Bm pw)))
theorem Xx{H:Hp}{Q:VK}{E:XK}(h:wt 0 vs H Q E):False:=by
 obtain⟨v,r,k,e,c,a,b⟩:=h;have:=a.dp;lia
theorem rnF{P:Str->Option ae}(T:Txt K P t):RnF K t:=⟨T.q06,T.q2o,T.q2n,T.q2t,T.q2s,T.q2p,T.q2q,T.q2r⟩
section
variable {x:D}{a:RAd}{C:List Cs}{s:aY}
theorem aX.notup(R:aX t H x a C s)(h:H b=U (.tup zs)):¬ Ow x a b:=by
 rintro(rfl|rfl|rfl|rfl|rfl)
 .rw[R.ix] at h;cases h
 .rw[R.hs] at h;cases h
 .rw[R.hg] at h;cases h
 .rw[R.hn] at h;cases h
 .rw[R.ha] at h;cases h
theorem aX.ts{H':Hp}(R:aX t H x a C s)(k:Kp x a H H'):uc H H':=λb c e=>k b _ (R.notup e) e
theorem Kp.of_same{H':Hp}(s:aJ H H'):Kp x a H H':=λb o _ e=>s b o e
theorem Kp.trans{c H'':Hp}(h:Kp x a H c)(k:Kp x a c H''):Kp x a H H'':=λb o n e=>k b o n (h b o n e)
theorem wS(h:Ow x a b):Kp x a H (upd H b o):=λc d n e=>by rw[zi (λz=>n (by rw[z];exact h))];exact e
theorem aX.same{b:Hp}(R:aX t H x a C s)(k:aJ H b):aX t b x a C s :=
 ⟨k _ _ R.ix,let ⟨xs,h1,h2⟩:=R.hc;⟨xs,k _ _ h1,wa k h2⟩,k _ _ R.hs,k _ _ R.hg,k _ _ R.hn,k _ _ R.ha,R.ng,R.nc⟩
theorem aX.keep{H':Hp}(R:aX t H x a C s)(k:∀b o,OwA x a b->H b=U o->H' b=U o)(ts:uc H H'):aX t H' x a C s :=
 ⟨k _ _ (.inl (.inl Y)) R.ix,let ⟨xs,h1,h2⟩:=R.hc;⟨xs,k _ _ (.inr Y) h1,xO ts h2⟩,k _ _ (.inl (.inr (.inl Y))) R.hs,k _ _ (.inl (.inr (.inr (.inl Y)))) R.hg,k _ _ (.inl (.inr (.inr (.inr (.inl Y))))) R.hn,k _ _ (.inl (.inr (.inr (.inr (.inr Y))))) R.ha,R.ng,R.nc⟩
theorem aX.putI(R:aX t H x a C s)(s':aY)(g:s'.sl=s.sl)(f:s'.gi=s.gi)(e:s'.no=s.no)(d:s'.sa=s.sa):aX t (upd H x (.ins t.q00 a.dx (ziu a s'))) x a C s':=by
 refine⟨zh,?_,?_,?_,?_,?_,R.ng,R.nc⟩
 .obtain⟨xs,b,c⟩:=R.hc;exact⟨xs,by rw[zi (zM b R.ix ())];exact b,xO (R.ts (wS (.inl Y))) c⟩
 .rw[zi (zM R.hs R.ix ()),g];exact R.hs
 .rw[zi (zM R.hg R.ix ()),f];exact R.hg
 .rw[zi (zM R.hn R.ix ()),e];exact R.hn
 .rw[zi (zM R.ha R.ix ()),d];exact R.ha
theorem aX.putS(R:aX t H x a C s)(c:List (aU×V)):aX t (upd H a.sl (.dK c)) x a C { s with sl:=c }:=by
 refine⟨by rw[zi (zM R.ix R.hs ())];exact R.ix,?_,zh,?_,?_,?_,R.ng,R.nc⟩
 .obtain⟨xs,b,d⟩:=R.hc;exact⟨xs,by rw[zi (zM b R.hs ())];exact b,xO (R.ts (wS (.inr (.inl Y)))) d⟩
 .rw[zi (zM R.hg R.hs ())];exact R.hg
 .rw[zi (zM R.hn R.hs ())];exact R.hn
 .rw[zi (zM R.ha R.hs ())];exact R.ha
theorem aX.putG(R:aX t H x a C s)(c:List aN):aX t (upd H a.gi (.dT (sY c))) x a C { s with gi:=c }:=by
 refine⟨by rw[zi (zM R.ix R.hg ())];exact R.ix,?_,?_,zh,?_,?_,R.ng,R.nc⟩
 .obtain⟨xs,b,d⟩:=R.hc;exact⟨xs,by rw[zi (zM b R.hg ())];exact b,xO (R.ts (wS (.inr (.inr (.inl Y))))) d⟩
 .rw[zi (zM R.hs R.hg ())];exact R.hs
 .rw[zi (ef R.ng)];exact R.hn
 .rw[zi (zM R.ha R.hg ())];exact R.ha
theorem aX.putO(R:aX t H x a C s)(c:List aN):aX t (upd H a.no (.dT (sY c))) x a C { s with no:=c }:=by
 refine⟨by rw[zi (zM R.ix R.hn ())];exact R.ix,?_,?_,?_,zh,?_,R.ng,R.nc⟩
 .obtain⟨xs,b,d⟩:=R.hc;exact⟨xs,by rw[zi (zM b R.hn ())];exact b,xO (R.ts (wS (.inr (.inr (.inr (.inl Y)))))) d⟩
 .rw[zi (zM R.hs R.hn ())];exact R.hs
 .rw[zi R.ng];exact R.hg
 .rw[zi (zM R.ha R.hn ())];exact R.ha
theorem aX.putA(R:aX t H x a C s)(is:List Int):aX t (upd H a.sa (.lst (is.map V.int))) x a C { s with sa:=is }:=by
 refine⟨by rw[zi (zM R.ix R.ha ())];exact R.ix,?_,?_,?_,?_,zh,R.ng,R.nc⟩
 .obtain⟨xs,c,b⟩:=R.hc;exact⟨xs,by rw[zi R.nc];exact c,xO (R.ts (wS (.inr (.inr (.inr (.inr Y)))))) b⟩
 .rw[zi (zM R.hs R.ha ())];exact R.hs
 .rw[zi (zM R.hg R.ha ())];exact R.hg
 .rw[zi (zM R.hn R.ha ())];exact R.hn
end
theorem Xy(h:¬ yH C s=ah):s.n<C.length:=by
 unfold yH at h;simp only[Bool.or_eq_true,decide_eq_true_eq,not_or] at h;lia
theorem zcw(a:List aN)(p:Pl)(w:Int):zE (a++[(p,w)]) p=U w:=by
 have h:=wA (a++[(p,w)]) p;rw[Zc,YZ,ap rfl] at h;cases hl:zE (a++[(p,w)]) p with
 |none=>rw[hl] at h;cases h
 |some i=>rw[hl] at h;cases h;rfl
theorem ziy(h:tE H v c):∃p l m,v=.ref p/\H p=U (.tup l)/\ub l 0=U (.str m)/\(m=bh "take"->∃j e x i,c=.row (.take j e x)/\ub l 1=U (.str j)/\ub l 2=U (.ref i)/\H i=U (.tup e))/\(m≠bh "take"->∀s,kG c s=ak):=by
 cases c with
 |row r =>
  have g:=h.1;cases r with
  |take j e sl=>unfold pv at g;obtain⟨r,i,rfl,_,_,a,k⟩:=g;exact⟨r,_,_,Y,a,Y,λ_=>⟨j,e,sl,i,Y,Y,Y,k⟩,λz=>absurd Y z⟩
  |give j e f=>unfold pv at g;obtain⟨r,i,o,rfl,_,_,_,a,k⟩:=g;exact⟨r,_,_,Y,a,Y,λz=>absurd z (),λ_ _=>rfl⟩
  |lt sl e=>unfold pv at g;obtain⟨r,i,rfl,_,_,a,k⟩:=g;exact⟨r,_,_,Y,a,Y,λz=>absurd z (),λ_ _=>rfl⟩
  |say e=>unfold pv at g;obtain⟨r,i,rfl,_,_,a,k⟩:=g;exact⟨r,_,_,Y,a,Y,λz=>absurd z (),λ_ _=>rfl⟩
  |off e=>unfold pv at g;obtain⟨r,i,rfl,_,_,a,k⟩:=g;exact⟨r,_,_,Y,a,Y,λz=>absurd z (),λ_ _=>rfl⟩
  |iff e b d=>exact(h.2:False).elim
 |skip e to=>obtain⟨p,i,n,a,_⟩:=h;exact⟨p,_,_,n,a,Y,λz=>absurd z (),λ_ _=>rfl⟩
 |go en=>obtain⟨p,n,a⟩:=h;exact⟨p,_,_,n,a,Y,λz=>absurd z (),λ_ _=>rfl⟩
theorem Jn{a:Type} [DecidableEq a]{b:List (a×V)}{k:a}(h:k ∉ b.map (·.1)):yf b k=ak:=by
 cases e:yf b k with
 |none=>rfl
 |some v=>exact absurd (zcX e) h
theorem zdg:∀(a:List aN) (b:List (List aU×V)),(∀r∈a,zC r.1 ∉ b.map (·.1))->(a.map (·.1)).Nodup->a.foldl Y6 b=b++a.map λr=>(zC r.1,V.int r.2)
 |[],b,_,_=>by simp
 |r::a,b,h,nd=>by
  rw[bx,bX] at nd;rw[fc,Y6,ve _ (Jn (h r bt)),zdg a _ (λq c=>?_) nd.2,bx,cO,List.singleton_append];rw[bR,bu,not_or];refine⟨h q (br _ c),λz=>nd.1 ?_⟩;have d:zC q.1=zC r.1:=by simpa using z
  rw[<-xi d];exact bq c
theorem X9{a:List aN}(b:(a.map (·.1)).Nodup):sY a=a.map λr=>(zC r.1,V.int r.2):=by
 unfold sY;rw[zdg a [] (λ_ _ h=>nomatch h) b,gu]
theorem Xz{H c:Hp}(s:aJ H c):∀ {a:List V} {b:List aN},Paired (PrAt H) a b->Paired (PrAt c) a b
 |_,_,.nil=>.nil
 |_,_,.cons ⟨r,p,e1,e2,e3⟩ t=>.cons ⟨r,p,e1,s _ _ e2,s _ _ e3⟩ (Xz s t)
theorem zfL(p:Pl)(w:Int)(s:aY):(kF p w s).sl=s.sl:=by unfold kF;split <;> rfl
theorem zg7(p:Pl)(w:Int)(s:aY):(kF p w s).n=s.n:=by unfold kF;split <;> rfl
theorem zjg{w:Int}(h:YI r)(e:tQ r w s=.ok s'):s'.n=s.n:=by
 cases r with
 |take sh e' x =>
  cases hk:rk s.sl e' with
  |error er=>simp only[tQ,hk] at e;cases e
  |ok n=>simp only[tQ,hk] at e;cases e;exact zg7 _ _ _
 |give sh e' f =>
  cases hk:rk s.sl e' with
  |error er=>simp only[tQ,hk] at e;cases e
  |ok n =>
   cases hk2:rk s.sl f with
   |error er=>simp only[tQ,hk,hk2] at e;cases e
   |ok i=>simp only[tQ,hk,hk2] at e;cases e;rfl
 |lt x e' =>
  cases hk:rk s.sl e' with
  |error er=>simp only[tQ,hk] at e;cases e
  |ok n=>simp only[tQ,hk] at e;cases e;rfl
 |say e' =>
  cases hk:rk s.sl e' with
  |error er=>simp only[tQ,hk] at e;cases e
  |ok n=>simp only[tQ,hk] at e;cases e;rfl
 |off e'=>exact h.elim
 |iff e' b d=>exact h.elim
theorem zbp{r:Rw}{w:Int}{s:aY}(h:YI r):vN (.row r) w s=match tQ r w s with
  |.error er=>.error er
  |.ok s'=>.ok (s.n+1,s'):=by
 cases r with
 |off e'=>exact h.elim
 |iff e' b d=>exact h.elim
 |take sh e' x=>rfl
 |give sh e' f=>rfl
 |lt x e'=>rfl
 |say e'=>rfl
theorem zg8(r:Rw)(h:Ja r):(∃e,r=.off e)\/YI r:=by
 cases r with
 |off e'=>exact .inl ⟨e',Y⟩
 |iff e' b d=>exact h.elim
 |take sh e' x=>exact .inr trivial
 |give sh e' f=>exact .inr trivial
 |lt x e'=>exact .inr trivial
 |say e'=>exact .inr trivial
theorem zg9{F:D->Prop}(h:pv F H v r)(d:YI r):∃p k g,v=.ref p/\H p=U (.tup k)/\ub k 0=U (.str g)/\g≠bh "go"/\g≠bh "skip"/\g≠bh "off":=by
 cases r with
 |take sh e sl=>unfold pv at h;obtain⟨r,i,rfl,_,_,c,j⟩:=h;exact⟨r,_,_,Y,c,Y,(),(),()⟩
 |give sh e f=>unfold pv at h;obtain⟨r,i,l,rfl,_,_,_,c,j⟩:=h;exact⟨r,_,_,Y,c,Y,(),(),()⟩
 |lt sl e=>unfold pv at h;obtain⟨r,i,rfl,_,_,c,j⟩:=h;exact⟨r,_,_,Y,c,Y,(),(),()⟩
 |say e=>unfold pv at h;obtain⟨r,i,rfl,_,_,c,j⟩:=h;exact⟨r,_,_,Y,c,Y,(),(),()⟩
 |off e=>exact d.elim
 |iff e a b=>exact d.elim
theorem ZY(h:yU x=ah):ca x=ah:=(zeW h).flat
def zbq(H c:Hp):Prop:=∀b a,H b=U (.tup a)->c b=U (.tup a)
theorem aJ.ts{H H':Hp}(s:aJ H H'):zbq H H':=λb a e=>s _ _ e
theorem zfM{J:It}{f:Hp}{Q:Hp->Prop}{B:V->St->Hp->(V->St->Hp->Prop)->(St->Hp->Prop)->Prop}(n:Nat)(hn:n<=1000000)(C:St->Prop)(R:Nat->List V->Hp->Prop)(E:∀i a H d,zbq H d->R i a H->R i a d)(hC:C τ₀)(h0:R 0 [] f) (go:∀i H,aJ f H->i<n->J.go i H) (p:∀H,aJ f H->J.stop n H) (hD:f Bp=ak) (M:∀i x g a H d,C g->aJ f H->i<n->R i a H->J.yld i H x d->B x g d (λv c k=>C c/\R (i+1) (a++[v]) k/\aJ H k) (λc k=>C c/\R (i+1) a k/\aJ H k)) (T:∀a H,a.length<=n->R n a H->aJ f H->H Bp=U (.lst a)->Q H) :
  ∃W:Nat->Nat->List V->St->Hp->Prop,(∃m,W 0 m [] τ₀ (upd f Bp (.lst [])))/\∀i m a g H,W i m a g H->H Bp=U (.lst a) /\
  ((J.stop i H/\Q H)\/(J.go i H/\a.length<Bb/\∃N:V->St->Hp->Prop,
   (∀v c d,N v c d->d Bp=U (.lst a)/\∃r,r<m/\W (i+1) r (a++[v]) c (upd d Bp (.lst (a++[v]))))/\∃I:St->Hp->Prop,(∀c d,I c d->∃r,r<m/\W (i+1) r a c d) /\
   ∀x d,J.yld i H x d->B x g d N I)):=by
 have j:∀ {H:Hp} {o:HO},aJ f H->aJ f (upd H Bp o):=λ{H o} h b u e=>by
  rw[zi (zw e hD)];exact h b u e
 refine⟨λi m a g H=>m=n-i/\i<=n/\a.length<=i/\R i a H/\aJ f H/\H Bp=U (.lst a)/\C g,⟨n,by simp,bS _,bp _,E _ _ _ _ (aJ.ts (j (aJ.refl _))) h0,j (aJ.refl _),zh,hC⟩,?_⟩;rintro i m a g H ⟨rfl,hi,O,G,l,s,hc⟩;refine⟨s,?_⟩;by_cases hlt:i<n
 .refine .inr ⟨go i H l hlt,bT (by lia:a.length<=1000000) (),_,?_,_,?_,λx d y=>M i x g a H d hc l hlt G y⟩
  .rintro v c k ⟨z,w,q⟩;have A:=q _ _ s;exact⟨A,n-(i+1),(),Y,hlt,by simp;lia,E _ _ _ _ (λb zs e=>by rw[zi (zM e A (by simp))];exact e) w,j (l.trans q),zh,z⟩
  .rintro c k ⟨z,w,q⟩;exact⟨n-(i+1),(),Y,hlt,(),w,l.trans q,q _ _ s,z⟩
 .obtain rfl:i=n:=by lia
  exact .inl ⟨p H l,T a H O G l s⟩
theorem XA{P:Nat->Bool}(h:Xn P x)(a:Xn P y):Xn P (x++y):=by
 unfold Xn at *
 rw[zgG,sD,h,a];rfl
theorem zfN{P:Nat->Bool}(h:P c=ah):Xn P ⟨#[c]⟩:=by
 show [c].all P=ah;rw[gD,h];rfl
theorem zha{P:Nat->Bool}(h:Xn P x)(k:Nat):Xn P (gP x ak (U (k:Int))):=by
 unfold Xn at *
 rw[zaP];rw[i3] at *
 exact λc a=>h c (dH a)
theorem zd6{P:Nat->Bool}(h:Xn P x)(k:Nat):Xn P (gP x (U (k:Int)) ak):=by
 unfold Xn at *
 rw[VA];rw[i3] at *
 exact λc a=>h c (c9 a)
theorem ziz(x:Str)(k:Nat)(h:k<=x.length):(gP x ak (U (k:Int))).length=k:=by
 rw[Y4] at *
 rw[zaP,cB];lia
theorem zfO(x:Str)(k:Nat):(gP x (U (k:Int)) ak).length=x.length-k:=by
 rw[Y4,Y4,VA,cI]
theorem zdh{P:Str->Prop}:∀ {ys:List V},(∀v∈ys,∃x,v=.str x/\P x)->∃a:List Str,ys=a.map V.str/\∀x∈a,P x
 |[],_=>⟨[],Y,λ_ z=>nomatch z⟩
 |v::r,h=>by
  obtain⟨x,rfl,b⟩:=h v bt;obtain⟨a,rfl,c⟩:=zdh (ys:=r) λu d=>h u (br _ d);exact⟨x::a,Y,λy hy=>by
   rcases bE.mp hy with rfl|hy
   .exact b
   .exact c y hy⟩
structure RnP(m:Nat)(s:aY):Prop where
 ok:RnOk m s
 ng:∀r∈s.gi,ca r.1.1=ah
 nn:∀r∈s.no,ca r.1.1=ah
theorem RnOk.up(h:RnOk m s):RnOk (m+1) s:=⟨h.so,h.gw,h.nw,cp h.l1,cp h.l2,cp h.l3,cp h.l4,h.nd⟩
theorem RnP.up(h:RnP m s):RnP (m+1) s:=⟨h.ok.up,h.ng,h.nn⟩
theorem zfP{p:Pl}{l:List aN}(a:(l.map (·.1)).Nodup)(h:zE l p=ak):p ∉ l.map (·.1):=λz=>by
 obtain⟨r,b,e⟩:=bB.mp z;have:=(Y7 (w:=r.2) a).mpr (show (p,r.2)∈l by rw[<-e];exact b);rw[h] at this;cases this
theorem zfQ{w:Int}(h:RnOk m s)(a:tw w=ah):tw (Jb p w s)=ah:=by
 unfold Jb;cases e:zE s.gi p with
 |some i=>exact xE (P:=λr=>tw r.2=ah) h.gw e
 |none =>
  cases e2:zE s.no p with
  |some i=>exact xE (P:=λr=>tw r.2=ah) h.nw e2
  |none=>exact a
theorem zhb{m:Nat}{s:aY}{p:Pl}{w i:Int}{x:Str}(h:RnP m s)(k:ca p.1=ah)(j:tw w=ah)(l:tw i=ah):RnP (m+1) { kF p w s with sl:=yJ s.sl (.inr x) (.int i) }:=by
 have f:=KU h.ok.so (.inr x) l;have g:(yJ s.sl (.inr x) (V.int i)).length<=m+1:=bO (wf _ _ _) (eP h.ok.l1);unfold kF;by_cases c:(zE s.gi p).isSome=ah\/(zE s.no p).isSome=ah
 .rw[ap c];exact⟨⟨f,h.ok.gw,h.ok.nw,g,cp h.ok.l2,cp h.ok.l3,cp h.ok.l4,h.ok.nd⟩,h.ng,h.nn⟩
 .rw[am c];have o:zE s.no p=ak:=by
   cases e:zE s.no p with
   |none=>rfl
   |some i=>exact absurd (.inr (by rw[e];rfl)) c
  refine⟨⟨f,h.ok.gw,λr hr=>?_,g,cp h.ok.l2,?_,cp h.ok.l4,?_⟩,h.ng,λr hr=>?_⟩
  .rcases bu.mp hr with hr|hr
   .exact h.ok.nw r hr
   .rw[bo.mp hr];exact j
  .show (s.no++[(p,w)]).length<=m+1;rw[bC];exact eP h.ok.l3
  .show ((s.no++[(p,w)]).map (·.1)).Nodup;rw[bR];refine cQ.mpr ⟨h.ok.nd,by simp,λa n b d=>?_⟩;have d:b=p:=by simpa using d
   rw[d];exact λz=>zfP h.ok.nd o (by rw[<-z];exact n)
  .rcases bu.mp hr with hr|hr
   .exact h.nn r hr
   .rw[bo.mp hr];exact k
theorem ziA{w:Int}(h:RnP m s)(d:YI r)(k:Zd r)(g:VR r)(j:tw w=ah)(e:tQ r w s=.ok s'):RnP (m+1) s'/\s'.why=s.why:=by
 cases r with
 |off e'=>exact d.elim
 |iff e' b c=>exact d.elim
 |take sh e' x =>
  cases hk:rk s.sl e' with
  |error er=>simp only[tQ,hk] at e;cases e
  |ok n =>
   simp only[tQ,hk] at e;cases e;exact⟨zhb h g.1 j (zfQ h.ok j),by show (kF _ _ _).why=_;unfold kF;split <;> rfl⟩
 |give sh e' f =>
  cases hk:rk s.sl e' with
  |error er=>simp only[tQ,hk] at e;cases e
  |ok n =>
   cases hk2:rk s.sl f with
   |error er=>simp only[tQ,hk,hk2] at e;cases e
   |ok i =>
    simp only[tQ,hk,hk2] at e;cases e;have a:=zfh h.ok.so k.2.2.1 hk2;refine⟨⟨⟨h.ok.so,λr hr=>?_,h.ok.nw,cp h.ok.l1,?_,cp h.ok.l3,cp h.ok.l4,h.ok.nd⟩,λr hr=>?_,h.nn⟩,Y⟩
    .rcases bu.mp hr with hr|hr
     .exact h.ok.gw r hr
     .rw[bo.mp hr];exact a
    .show (s.gi++[((sh,n),i)]).length<=m+1;rw[bC];exact eP h.ok.l2
    .rcases bu.mp hr with hr|hr
     .exact h.ng r hr
     .rw[bo.mp hr];exact g.1
 |lt x e' =>
  cases hk:rk s.sl e' with
  |error er=>simp only[tQ,hk] at e;cases e
  |ok i =>
   simp only[tQ,hk] at e;cases e;have a:=zfh h.ok.so k.2.1 hk;exact⟨⟨⟨KU h.ok.so _ a,h.ok.gw,h.ok.nw,bO (wf _ _ _) (eP h.ok.l1),cp h.ok.l2,cp h.ok.l3,cp h.ok.l4,h.ok.nd⟩,h.ng,h.nn⟩,Y⟩
 |say e' =>
  cases hk:rk s.sl e' with
  |error er=>simp only[tQ,hk] at e;cases e
  |ok i =>
   simp only[tQ,hk] at e;cases e;exact⟨⟨⟨h.ok.so,h.ok.gw,h.ok.nw,cp h.ok.l1,cp h.ok.l2,cp h.ok.l3,by show (s.sa++[i]).length<=m+1;rw[bC];exact eP h.ok.l4,h.ok.nd⟩,h.ng,h.nn⟩,Y⟩
theorem ziB(a:Er):ca (za4 a)=ah:=by cases a <;> lia
theorem zhc{w:Int}(O:zbi C)(h:RnI C m s)(I:yH C s=ao)(E:tw w=ah):RnI C (m+1) (xw C w s):=by
 have q:¬ yH C s=ah:=by rw[I];decide
 have lt:=Xy q;have u:C[s.n]?=U C[s.n]:=bb lt;have M:xw C w s=xx C[s.n] w s:=by unfold xw;rw[am q,u]
 have B:s.why=ak:=by
  cases e:s.why with
  |none=>rfl
  |some v=>exact absurd (show yH C s=ah by unfold yH;rw[e];rfl) q
 have T:=h.at_ B;have ok:=O.ok _ (dZ lt);have o:=O.pl _ (dZ lt);have P:RnP m s:=⟨h.ok,h.ng,h.nn⟩;have fin:∀ {s':aY} {k:Nat},RnP (m+1) s'->(s'.why=ak->m+1<=k)->(∀v,s'.why=U v->ca v=ah)->RnI C (m+1) { s' with n:=k }:=λ{s' k} p l y =>
  ⟨⟨p.ok.so,p.ok.gw,p.ok.nw,p.ok.l1,p.ok.l2,p.ok.l3,p.ok.l4,p.ok.nd⟩,p.ng,p.nn,l,y⟩
 have j:∀g,RnI C (m+1) { s with why:=U (za4 g) }:=λg=>⟨⟨P.up.ok.so,P.up.ok.gw,P.up.ok.nw,P.up.ok.l1,P.up.ok.l2,P.up.ok.l3,P.up.ok.l4,P.up.ok.nd⟩,P.ng,P.nn,λz=>(by cases z),λv z=>by cases z;exact ziB g⟩;have f:∀r:Rw,YI r->QW (.row r)->zg3 (.row r)->RnI C (m+1) (xx (.row r) w s):=λr A ok o=>by
  unfold xx;rw[zbp A];cases hk:tQ r w s with
  |error g=>exact j g
  |ok s' =>
   obtain⟨a,b⟩:=ziA P A ok o E hk;exact fin a (λ_=>by lia) (λv z=>h.wy v (by rw[<-b];exact z))
 rw[M];have J:∀to,C[s.n]=.go to->s.n<to:=λto e=>O.fg s.n to (by rw[u,e]);have G:∀e to,C[s.n]=.skip e to->s.n<to:=λe to N=>O.fw s.n to e (by rw[u,N]);generalize C[s.n]=c at *
 cases c with
 |go to =>
  have:=J to rfl;exact fin P.up (λ_=>by lia) h.wy
 |skip e to =>
  have:=G e to rfl;cases hk:rk s.sl e with
  |error g=>simp only[xx,vN,hk];exact j g
  |ok i =>
   simp only[xx,vN,hk];refine fin P.up (λ_=>?_) h.wy;split <;> lia
 |row r =>
  cases r with
  |off e =>
   cases hk:rk s.sl e with
   |error g=>simp only[xx,vN,hk];exact j g
   |ok i =>
    by_cases hi:i=0
    .simp only[xx,vN,hk,ap hi];exact fin P.up (λ_=>by lia) h.wy
    .simp only[xx,vN,hk,am hi];exact fin (s':={ s with why:=U (bh "told") }) ⟨⟨P.up.ok.so,P.up.ok.gw,P.up.ok.nw,P.up.ok.l1,P.up.ok.l2,P.up.ok.l3,P.up.ok.l4,P.up.ok.nd⟩,P.ng,P.nn⟩ (λz=>by cases z) (λv z=>by cases z;lia)
  |iff e b d=>exact fin (k:=s.n+1) P.up (λ_=>by lia) h.wy
  |take sh e x=>exact f (.take sh e x) trivial ok o
  |give sh e x=>exact f (.give sh e x) trivial ok o
  |lt sh e=>exact f (.lt sh e) trivial ok o
  |say e=>exact f (.say e) trivial ok o
theorem zdi{w:Int}(l:yH C s=ao):(jC C s=ak->(xw C w s).no=s.no)/\∀p,jC C s=U p->(xw C w s).no=s.no++[(p,w)]:=by
 have j:¬ yH C s=ah:=by rw[l];decide
 have lt:=Xy j;have k:C[s.n]?=U C[s.n]:=bb lt;have m:xw C w s=xx C[s.n] w s:=by unfold xw;rw[am j,k]
 have o:jC C s=kG C[s.n] s:=by unfold jC;rw[am j,k];rfl
 rw[m,o];generalize C[s.n]=c at *
 have g:∀h,(∀p,kG h s≠U p)->(xx h w s).no=s.no->(kG h s=ak->(xx h w s).no=s.no)/\∀p,kG h s=U p->(xx h w s).no=s.no++[(p,w)]:=λh a b=>⟨λ_=>b,λp z=>absurd z (a p)⟩;cases c with
 |go to=>exact g _ (λp z=>nomatch z) rfl
 |skip e to =>
  refine g _ (λp z=>nomatch z) ?_;cases hk:rk s.sl e <;> simp only[xx,vN,hk]
 |row r =>
  cases r with
  |off e =>
   refine g _ (λp z=>nomatch z) ?_;cases hk:rk s.sl e with
   |error er=>simp only[xx,vN,hk]
   |ok i =>
    simp only[xx,vN,hk];split <;> rfl
  |iff e b d=>exact g _ (λp z=>nomatch z) rfl
  |give sh e f =>
   refine g _ (λp z=>nomatch z) ?_;cases hk:rk s.sl e with
   |error er=>simp only[xx,vN,tQ,hk]
   |ok i=>cases hk2:rk s.sl f <;> simp only[xx,vN,tQ,hk,hk2]
  |lt x e =>
   refine g _ (λp z=>nomatch z) ?_;cases hk:rk s.sl e <;> simp only[xx,vN,tQ,hk]
  |say e =>
   refine g _ (λp z=>nomatch z) ?_;cases hk:rk s.sl e <;> simp only[xx,vN,tQ,hk]
  |take sh e x =>
   cases hk:rk s.sl e with
   |error er=>exact g _ (λp z=>by simp only[kG,hk] at z;cases z) (by simp only[xx,vN,tQ,hk])
   |ok n =>
    simp only[xx,vN,tQ,kG,hk];by_cases c:(zE s.gi (sh,n)).isSome=ah\/(zE s.no (sh,n)).isSome=ah
    .rw[ap c];exact⟨λ_=>by unfold kF;rw[ap c],λp z=>nomatch z⟩
    .rw[am c];exact⟨λz=>(nomatch z),λp z=>by cases z;unfold kF;rw[am c]⟩
structure FwC(k:Nat)(C:List Cs):Prop where
 ok:∀c∈C,QW c/\zg3 c
 fw:∀(i to:Nat) (e:List V),C[i]?=U (Cs.skip e to)->k+i<to
 fg:∀(i to:Nat),C[i]?=U (Cs.go to)->k+i<to
theorem FwC.nil(k:Nat):FwC k []:=⟨λc h=>(nomatch h),λi to e h=>by simp at h,λi to h=>by simp at h⟩
theorem FwC.cons(f:QW c/\zg3 c)(d:∀e to,c=.skip e to->k<to)(b:∀to,c=.go to->k<to)(h:FwC (k+1) C):FwC k (c::C):=by
 refine⟨λx hx=>?_,λi to e a=>?_,λi to a=>?_⟩
 .rcases bE.mp hx with rfl|hx
  .exact f
  .exact h.ok x hx
 .cases i with
  |zero=>have:=d e to (by simpa using a);lia
  |succ i=>have:=h.fw i to e (by simpa using a);lia
 .cases i with
  |zero=>have:=b to (by simpa using a);lia
  |succ i=>have:=h.fg i to (by simpa using a);lia
theorem FwC.app:∀ {A:List Cs} {k:Nat} {B:List Cs},FwC k A->FwC (k+A.length) B->FwC k (A++B)
 |[],k,B,_,h=>by simpa using h
 |c::A,k,B,h,h'=>by
  rw[dY];refine .cons (h.ok c bt) (λe to z=>by have:=h.fw 0 to e (by rw[z];rfl);lia) (λto z=>by have:=h.fg 0 to (by rw[z];rfl);lia) (FwC.app ⟨λx b=>h.ok x (br _ b),λi to e a=>?_,λi to a=>?_⟩ (by rw[bU] at h';rw[show k+1+A.length=k+(A.length+1) by lia];exact h'))
  .have:=h.fw (i+1) to e (by simpa using a);lia
  .have:=h.fg (i+1) to (by simpa using a);lia
mutual
theorem zfR:∀(r:Rw) (k:Nat),Zd r->VR r->FwC k (xF r k)
 |.iff e a b,k,o,p=>by
  unfold Zd at o;unfold VR at p;have d:=ZZ a (k+1) o.2.1 p.2.1;have h:=ZZ b (k+2+(yc a (k+1)).length) o.2.2 p.2.2;have i:xF (.iff e a b) k=blk e k (yc a (k+1)) (hU.isNil b) (yc b (k+2+(yc a (k+1)).length)):=by rw[xF]
  rw[i];generalize yc a (k+1)=A at *
  generalize yc b (k+2+A.length)=B at *
  unfold blk;split
  .exact .cons ⟨o.1,trivial⟩ (λg c z=>by cases z;lia) (λc z=>nomatch z) d
  .refine .cons ⟨o.1,trivial⟩ (λg c z=>by cases z;lia) (λc z=>nomatch z) (.app d (.cons ⟨trivial,trivial⟩ (λg c z=>nomatch z) (λc z=>by cases z;lia) ?_));rw[show k+1+A.length+1=k+2+A.length by lia];exact h
 |.take sh e sl,k,o,p=>by rw[vW (x:=.take sh e sl) trivial];exact .cons ⟨o,p⟩ (λ_ _ z=>nomatch z) () (.nil _)
 |.give sh e f,k,o,p=>by rw[vW (x:=.give sh e f) trivial];exact .cons ⟨o,p⟩ (λ_ _ z=>nomatch z) () (.nil _)
 |.lt sl e,k,o,p=>by rw[vW (x:=.lt sl e) trivial];exact .cons ⟨o,p⟩ (λ_ _ z=>nomatch z) () (.nil _)
 |.say e,k,o,p=>by rw[vW (x:=.say e) trivial];exact .cons ⟨o,p⟩ (λ_ _ z=>nomatch z) () (.nil _)
 |.off e,k,o,p=>by rw[vW (x:=.off e) trivial];exact .cons ⟨o,p⟩ (λ_ _ z=>nomatch z) () (.nil _)
theorem ZZ:∀(r:hU) (k:Nat),Ya r->Ze r->FwC k (yc r k)
 |.nil,k,o,p=>by rw[yc];exact .nil k
 |.cons r rs,k,o,p=>by
  unfold Ya at o;unfold Ze at p;rw[yc];exact .app (zfR r k o.1 p.1) (ZZ rs _ o.2 p.2)
end
theorem zjh(j:W2 6 r)(g:Ya r)(d:(yc r 0).length<=40):zbi (yc r 0):=by
 have f:=ZZ r 0 g j.pl;exact⟨λc b=>(f.ok c b).1,λc b=>(f.ok c b).2,λi a e h=>by have:=f.fw i a e h;lia,λi a h=>by have:=f.fg i a h;lia,d⟩
def plD(p:Pl):PyData:=.tuple [.str p.1,.int p.2]
theorem zfS(h:H q=U (.tup [.str p.1,.int p.2])):Dat K H (.ref q) (plD p):=.tup (sW.of h) (.cons (.str _) (.cons (.int _) .nil))
theorem zbr(h:ca p.1=ah):yq (plD p)=ah:=by simp[plD,yq,x9,h]
theorem ziC(h:plD p=plD q):p=q:=by
 unfold plD at h;simp only[pU,fj,PyData.str.injEq,PyData.int.injEq,and_true] at h;exact oK h.1 h.2
theorem zbs(p:Pl):(plD p).depth<=2:=by simp[plD,mo,gq]
section
variable {C:List Cs}{s:aY}{m:Nat}
theorem zji{c:Hp}(h:zg1 H v oc)(s:uc H c):zg1 c v oc:=by
 cases oc with
 |done sa=>obtain⟨o,y,b,a,d⟩:=h;exact⟨o,y,b,s _ _ a,s _ _ d⟩
 |off w=>obtain⟨o,b,a⟩:=h;exact⟨o,b,s _ _ a⟩
theorem zhd(h:qW s out)(a:qW s out'):out=out':=by
 unfold qW at h a;cases e:s.why with
 |some w=>rw[e] at h a;rw[h,a]
 |none=>rw[e] at h a;exact VL h.1 a.1 λ⟨p,w⟩=>(h.2 p w).trans (a.2 p w).symm
theorem zjj(I:RnI C m s)(h:qW s out):∀r∈out,ca r.1.1=ah:=by
 unfold qW at h;cases e:s.why with
 |some w=>rw[e] at h;rw[h];exact λr a=>nomatch a
 |none =>
  rw[e] at h;intro r a;exact xE (P:=λr=>ca r.1.1=ah) I.ng ((h.2 r.1 r.2).mp a)
theorem zfT(h:qW s out):out.length<=s.gi.length:=by
 unfold qW at h;cases e:s.why with
 |some w=>rw[e] at h;rw[h];exact bS _
 |none =>
  rw[e] at h;have o:=jp s.gi;have n:((sY s.gi).map (·.1)).Nodup:=(kA s.gi).1;have g:((out.map (·.1)).map zC).Nodup:=by
   have:=h.1.nd;unfold iL at *
   rw[gH];exact this.imp λ{a b} d z=>d (xi z)
  have c:∀k∈(out.map (·.1)).map zC,k∈(sY s.gi).map (·.1):=λk l=>by
   obtain⟨p,j,rfl⟩:=bB.mp l;obtain⟨r,i,rfl⟩:=bB.mp j;exact bq (f:=(·.1)) (ue.mpr ⟨r.1,r.2,Y,(h.2 r.1 r.2).mp i⟩)
  have:=wj g c;simp only[bg] at this;lia
end
theorem zfU{l c h:Hp}(m:aJ l c)(d:c x=ak)(f:c dx=ak)(j:K9 x (upd (upd c dx (.own x)) x (.ins t.q00 dx [])) h)(k:∀b,OwA x a b->b=x\/upd (upd c dx (.own x)) x (.ins t.q00 dx []) b=ak):aJ c h/\∀b,OwA x a b->c b=ak:=by
 have g:aJ c (upd (upd c dx (HO.own x)) x (HO.ins t.q00 dx [])):=λb o e=>by rw[zi (zw e d),zi (zw e f)];exact e
 refine⟨λb o e=>j b o (λz=>by rw[z,d] at e;cases e) (g b o e),λb i=>?_⟩;rcases k b i with z|z
 .rw[z];exact d
 .exact zJ g z
theorem aX.off(R:aX t H x a C s)(n:¬ OwA x a l)(h:H l=U (.lst ys)):aX t (upd H l (.lst zs)) x a C s:=
 R.keep (λb o c e=>by rw[zi (λz=>n (by rw[<-z];exact c))];exact e) (QY h)
section
variable {C:List Cs}
theorem aX.has(R:aX t H x a C s)(c:OwA x a b):H b≠ak:=by
 obtain⟨e,d,_⟩:=R.hc;rcases c with (z|z|z|z|z)|z
 .rw[z,R.ix];exact λz=>nomatch z
 .rw[z,R.hs];exact λz=>nomatch z
 .rw[z,R.hg];exact λz=>nomatch z
 .rw[z,R.hn];exact λz=>nomatch z
 .rw[z,R.ha];exact λz=>nomatch z
 .rw[z,d];exact λz=>nomatch z
end
theorem _root_.L2.PrAt.same{H a:Hp}(h:zbh H v q)(s:aJ H a):zbh a v q:=by
 obtain⟨r,p,e,c,b⟩:=h;exact⟨r,p,e,s _ _ c,s _ _ b⟩
theorem _root_.L2.PrAt.tsame{H a:Hp}(h:zbh H v q)(s:zbq H a):zbh a v q:=by
 obtain⟨r,p,e,c,b⟩:=h;exact⟨r,p,e,s _ _ c,s _ _ b⟩
theorem xP{H c:Hp}(s:zbq H c):∀ {a:List V} {b:List aN},YK H a b->YK c a b
 |_,_,.nil=>.nil
 |_,_,.cons h r=>.cons (h.tsame s) (xP s r)
theorem kM{H c:Hp}(s:aJ H c):∀ {a:List V} {b:List aN},YK H a b->YK c a b
 |_,_,.nil=>.nil
 |_,_,.cons h r=>.cons (h.same s) (kM s r)
theorem Qf{H:Hp}{v:V}{q:aN}:∀ {b:List V} {c:List aN},YK H b c->zbh H v q->YK H (b++[v]) (c++[q])
 |_,_,.nil,h=>.cons h .nil
 |_,_,.cons a r,h=>.cons a (Qf r h)
theorem zbt(d:List aN):∃a:List Pl,(sY d).map (·.1)=a.map zC/\a.Nodup/\∀p,p∈a↔(zE d p).isSome=ah:=by
 have h:=kA d;have:∀(g:List (List aU×V)),(∀b∈g,∃(p:Pl) (w:Int),b=(zC p,.int w))->∃a:List Pl,g.map (·.1)=a.map zC:=λg=>by
  induction g with
  |nil=>exact λ_=>⟨[],Y⟩
  |cons b r ih =>
   intro c;obtain⟨a,e⟩:=ih λz n=>c z (br _ n);obtain⟨p,w,o⟩:=c b bt;exact⟨p::a,by rw[bx,bx,e,o]⟩
 obtain⟨a,e⟩:=this _ h.2;refine⟨a,e,xZ (f:=zC) (by rw[<-e];exact h.1),λp=>?_⟩;constructor
 .intro k;have:zC p∈(sY d).map (·.1):=by rw[e];exact bq k
  obtain⟨b,c,l⟩:=bB.mp this;obtain⟨m,w,rfl,i⟩:=ue.mp c;have:=xi l;subst this;rw[i];rfl
 .intro k;obtain⟨w,i⟩:=fN.mp k;have:zC p∈a.map zC:=by rw[<-e];exact bq (f:=(·.1)) (ue.mpr ⟨p,w,Y,i⟩)
  obtain⟨m,j,l⟩:=bB.mp this;rw[<-xi l];exact j
def Jo(a:List aN)(p:Pl):Option aN:=match zE a p with
 |some w=>if w=0 then ak else U (p,w)
 |none=>ak
def ziD(d:List aN)(c:List Pl)(i:Nat)(b:List V)(H:Hp):Prop:=∃a:List aN,YK H b a/\a=(c.take i).filterMap (Jo d)
theorem zhe{H H':Hp}(s:zbq H H')(h:ziD aM qs i ys H):ziD aM qs i ys H':=by
 obtain⟨a,c,b⟩:=h;exact⟨a,xP s c,b⟩
theorem tX :Jo aM p=U b↔b.1=p/\zE aM p=U b.2/\b.2≠0:=by
 unfold Jo;obtain⟨d,c⟩:=b;cases e:zE aM p with
 |none=>simp
 |some w =>
  by_cases h:w=0
  .subst h;simp only[if_true];constructor
   .intro z;cases z
   .rintro⟨_,z,a⟩;exact absurd (bI z).symm a
  .simp only[am h,fR,Prod.mk.injEq];constructor
   .rintro⟨rfl,rfl⟩;exact⟨Y,Y,h⟩
   .rintro⟨rfl,rfl,_⟩;exact⟨Y,Y⟩
theorem ziE{d:List Pl}(g:d.Pairwise λa b=>yy a b=ah)(i:∀p,p∈d↔(zE aM p).isSome=ah):zfb aM (d.filterMap (Jo aM)):=by
 constructor
 .unfold tJ;rw[List.pairwise_filterMap];refine g.imp λ{a m} h b j l e=>?_;rw[(tX.mp j).1,(tX.mp e).1];exact h
 .intro p w;rw[List.mem_filterMap];constructor
  .rintro⟨a,_,h⟩;obtain⟨c,f,k⟩:=tX.mp h;cases c;exact⟨f,k⟩
  .rintro⟨c,f⟩;exact⟨p,(i p).mpr (by rw[c];rfl),tX.mpr ⟨Y,c,f⟩⟩
theorem Jp{p:Pl}{w:Int}:∀ {l:List aN},zE l p=U w->(p,w)∈l
 |[],h=>by cases h
 |r::t,h=>by
  rw[zE] at h;cases e:zE t p with
  |some w' =>
   rw[e] at h;have:w'=w:=by simpa using h
   subst this;exact br _ (Jp e)
  |none =>
   rw[e] at h;by_cases c:r.1=p
   .rw[ap c] at h;have:r.2=w:=by simpa using h
    rw[<-c,<-this];exact bt
   .rw[am c] at h;cases h
theorem tq.same{H b:Hp}(h:tq H a aM)(s:aJ H b):tq b a aM:=by
 obtain⟨c,e,d⟩:=h;exact⟨c,s _ _ e,kM s d⟩
theorem zjk(h:lfV v):qe v/\isJ v=ao/\plV v:=by
 rcases h with ⟨i,rfl,hi⟩|⟨x,rfl,hx⟩
 .exact⟨.inl ⟨i,Y,hi⟩,Y,.inl ⟨i,Y⟩⟩
 .have:=Y5 hx;exact⟨.inr ⟨x,Y,()⟩,this.2.2.1,.inr ⟨x,Y,ZY hx⟩⟩
theorem sT.same{H a:Hp}(h:sT H nm ws)(s:aJ H a):sT a nm ws:=⟨s _ _ h.1,h.2⟩
theorem zbu(h:sT H nm ws)(n:Nat)(f:ws.length=n)(c:0<(n:Int))(e:Int):∃x,ub (ws.map V.str) (e%n)=U (.str x)/\x∈ws/\yU x=ah:=by
 obtain⟨v,b,d⟩:=ziw e n (xs:=ws.map V.str) (by rw[bg,f]) c;obtain⟨x,a,rfl⟩:=bB.mp d;exact⟨x,b,a,h.2 x a⟩
theorem Qg(e:bv a)(d:bv b)(c:wdJ w)(l:a.length+b.length<1000):bv (a++b++[.str w]):=by
 refine⟨λf=>?_,λz hz=>?_,by rw[bC,bC,cU];lia⟩
 .obtain⟨j,h⟩:=e.1 f;obtain⟨i,g⟩:=d.1 f;exact⟨_,zdU c.1 h g⟩
 .rcases bu.mp hz with hz|hz
  .rcases bu.mp hz with hz|hz
   .exact e.2.1 z hz
   .exact d.2.1 z hz
  .rw[bo.mp hz];exact .inr ⟨w,Y,c.2.1⟩
theorem zdj(e:tmP a)(d:tmP b)(c:wdJ w):tmP (a++b++[.str w]):=λz hz=>by
 rcases bu.mp hz with hz|hz
 .rcases bu.mp hz with hz|hz
  .exact e z hz
  .exact d z hz
 .rw[bo.mp hz];exact .inr ⟨w,Y,c.2.2⟩
theorem XB(h:lfV u):bv [u]/\tmP [u]:=by
 obtain⟨b,c,a⟩:=zjk h;exact⟨zft b c,λz d=>by rw[bo.mp d];exact a⟩
mutual
theorem zhf:∀(r:Rw) (k:Nat),(xF r k).length<=szR r/\r.cnt<=szR r
 |.iff e a b,k=>by
  have g:=XC a (k+1);have d:=XC b (k+2+(yc a (k+1)).length);have c:(Rw.iff e a b).cnt=max a.cnt b.cnt+1:=by rw[Rw.cnt]
  have z:szR (.iff e a b)=Zq a+Zq b+2:=by rw[szR]
  rw[xF,c,z];unfold blk;split
  .exact⟨by simp;lia,()⟩
  .exact⟨by simp;lia,()⟩
 |.take sh e sl,k=>by simp[xF,szR,Rw.cnt]
 |.give sh e f,k=>by simp[xF,szR,Rw.cnt]
 |.lt sl e,k=>by simp[xF,szR,Rw.cnt]
 |.say e,k=>by simp[xF,szR,Rw.cnt]
 |.off e,k=>by simp[xF,szR,Rw.cnt]
theorem XC:∀(r:hU) (k:Nat),(yc r k).length<=Zq r/\r.cnt<=Zq r
 |.nil,k=>by simp[yc,Zq,hU.cnt]
 |.cons r rs,k=>by
  have b:=zhf r k;have a:=XC rs (k+(xF r k).length);rw[yc,Zq,hU.cnt,bC];lia
end
theorem rn0 :RnI C 0 st0:=⟨⟨(λk v e=>by cases e),(λr h=>nomatch h),(λr h=>nomatch h),bp _,bp _,bp _,bp _,cz⟩,(λr h=>nomatch h),(λr h=>nomatch h),λ_=>bS _,λw z=>nomatch z⟩
theorem zd7{J:It}{f:Hp}{Q:Hp->Prop}{B:V->St->Hp->(V->St->Hp->Prop)->(St->Hp->Prop)->Prop}(n:Nat)(hn:n<=1000000)(C:St->Prop)(R:Nat->List V->Hp->Prop)(E:∀i a H d,(∀b o,b≠Bp->H b=U o->d b=U o)->R i a H->R i a d)(hC:C τ₀)(h0:R 0 [] f) (go:∀i H,aJ f H->i<n->J.go i H) (l:∀H,aJ f H->J.stop n H) (hD:f Bp=ak) (O:∀i x g a H d,C g->aJ f H->i<n->R i a H->H Bp=U (.lst a)->J.yld i H x d->B x g d (λv c j=>C c/\R (i+1) (a++[v]) j/\aJ H j) (λc j=>C c/\R (i+1) a j/\aJ H j)) (hd:∀a H,a.length<=n->R n a H->aJ f H->H Bp=U (.lst a)->Q H) :
  ∃W:Nat->Nat->List V->St->Hp->Prop,(∃m,W 0 m [] τ₀ (upd f Bp (.lst [])))/\∀i m a g H,W i m a g H->H Bp=U (.lst a) /\
  ((J.stop i H/\Q H)\/(J.go i H/\a.length<Bb/\∃N:V->St->Hp->Prop,
   (∀v c d,N v c d->d Bp=U (.lst a)/\∃q,q<m/\W (i+1) q (a++[v]) c (upd d Bp (.lst (a++[v]))))/\∃I:St->Hp->Prop,(∀c d,I c d->∃q,q<m/\W (i+1) q a c d) /\
   ∀x d,J.yld i H x d->B x g d N I)):=by
 have s:∀ {H:Hp} {o:HO},aJ f H->aJ f (upd H Bp o):=λ{H o} h b u e=>by
  rw[zi (zw e hD)];exact h b u e
 refine⟨λi m a g H=>m=n-i/\i<=n/\a.length<=i/\R i a H/\aJ f H/\H Bp=U (.lst a)/\C g,⟨n,by simp,bS _,bp _,E _ _ _ _ (λb o z e=>by rw[zi z];exact e) h0,s (aJ.refl _),zh,hC⟩,?_⟩;rintro i m a g H ⟨rfl,hi,T,G,k,r,hc⟩;refine⟨r,?_⟩;by_cases hlt:i<n
 .refine .inr ⟨go i H k hlt,bT (by lia:a.length<=1000000) (),_,?_,_,?_,λx d y=>O i x g a H d hc k hlt G r y⟩
  .rintro v c j ⟨A,w,p⟩;have M:=p _ _ r;exact⟨M,n-(i+1),(),Y,hlt,by simp;lia,E _ _ _ _ (λb o z e=>by rw[zi z];exact e) w,s (k.trans p),zh,A⟩
  .rintro c j ⟨A,w,p⟩;exact⟨n-(i+1),(),Y,hlt,(),w,k.trans p,p _ _ r,A⟩
 .obtain rfl:i=n:=by lia
  exact .inl ⟨l H k,hd a H T G k r⟩
theorem ziF(I:RnI C m s)(h:qW s out):∀r∈out,tw r.2=ah:=by
 unfold qW at h;cases e:s.why with
 |some w=>rw[e] at h;rw[h];exact λr a=>nomatch a
 |none =>
  rw[e] at h;intro r a;exact xE (P:=λr=>tw r.2=ah) I.ok.gw ((h.2 r.1 r.2).mp a)
structure MkF(K:bw)(t:aZ):Prop where
 cl:tR K t.q02
 g:aP K t.q02 "ground"
 f:aP K t.q02 "folded"
 w:aP K t.q02 "worths"
 r:aP K t.q02 "ranks"
theorem mkF{P:Str->Option ae}(T:Txt K P t):MkF K t:=⟨T.q0f,T.q2k,T.q2j,T.q2m,T.q2l⟩
section
variable {gr wo rk:D}{low:Int}
theorem zjE:cW (bh "ground") (YL gr low wo rk)=U (.ref gr):=by simp only[YL,cf,beq_self_eq_true]
theorem zjl:cW (bh "folded") (YL gr low wo rk)=U (.int low):=by
 have a:(bh "folded" == bh "ground")=ao:=by lia
 simp only[YL,cf,a,beq_self_eq_true]
theorem zhg:cW (bh "worths") (YL gr low wo rk)=U (.ref wo):=by
 have b:(bh "worths" == bh "ground")=ao:=by lia
 have a:(bh "worths" == bh "folded")=ao:=by lia
 simp only[YL,cf,b,a,beq_self_eq_true]
theorem zhh:cW (bh "ranks") (YL gr low wo rk)=U (.ref rk):=by
 have c:(bh "ranks" == bh "ground")=ao:=by lia
 have b:(bh "ranks" == bh "folded")=ao:=by lia
 have a:(bh "ranks" == bh "worths")=ao:=by lia
 simp only[YL,cf,c,b,a,beq_self_eq_true]
end
theorem zdk{b:List Int}{k:Nat}{x:Int}(h:b.Pairwise (· < ·))(e:b[k]?=U x):∀r∈b.take (k+1),r<=x:=λr c=>by
 obtain⟨j,a⟩:=cy c;rw[dq] at a;split at a
 .obtain⟨f,i⟩:=bn.mp a;obtain⟨d,g⟩:=bn.mp e;rcases gB j k with hl|hg
  .have:=eG.mp h j k f d hl;lia
  .have:j=k:=by lia
   subst this;lia
 .cases a
theorem zhi{a:List Int}{k:Nat}{x:Int}(h:a.Pairwise (· < ·))(e:a[k]?=U x):∀r∈a.drop k,x<=r:=λr c=>by
 obtain⟨j,b⟩:=cy c;rw[mq] at b;obtain⟨g,f⟩:=bn.mp b;obtain⟨d,i⟩:=bn.mp e;rcases mz j with rfl|hp
 .simp only[Nat.add_zero] at f;lia
 .have:=eG.mp h k (k+j) d g ();lia
def mbW(a:D)(e:Int)(d:List Int)(H:Hp)(m:Nat)(f:St)(g:Hp):Prop:=∃(c b:Nat) (o:Option V),f=[U (.ref a),U (.int e),U (.int c),U (.int b),o]/\aJ H g/\c<=b/\b<=d.length/\m=b-c/\(∀r∈d.take c,r<e)/\(∀r∈d.drop b,e<=r)
theorem Jq(p:Pl)(a:Int):∀(b:List aN) (s:Int×Int),Jc p a b s=match zE b p with|none=>s|some w=>(a,w)
 |[],s=>rfl
 |r::b,s=>by
  rw[Jc,Jq p a b,zE];cases zE b p with
  |some w=>rfl
  |none =>
   by_cases e:r.1=p
   .rw[ap e,ap e];rfl
   .rw[am e,am e];rfl
theorem xV(p:Pl)(f:Int):∀(d:List (Int×List aN)) (s:Int×Int),(wO p f d s=s/\∀y∈d,s.1<y.1->y.1<f->zE y.2 p=ak) \/
  ∃y∈d,∃w,zE y.2 p=U w/\y.1<f/\s.1<y.1/\wO p f d s=(y.1,w)/\∀z∈d,z.1<f->zE z.2 p≠ak->z.1<=y.1
 |[],s=>.inl ⟨Y,λ_ h=>nomatch h⟩
 |l::ls,s=>by
  rw[wO];by_cases c:s.1<l.1/\l.1<f
  .rw[ap c,Jq];cases e:zE l.2 p with
   |some w =>
    rcases xV p f ls (l.1,w) with ⟨h1,h2⟩|⟨y,hy,w',e1,e2,e3,e4,e5⟩
    .refine .inr ⟨l,bt,w,e,c.2,c.1,h1,λz hz g i=>?_⟩;rcases bE.mp hz with rfl|hz
     .exact sE _
     .rcases Int.lt_or_le l.1 z.1 with hl|hl
      .exact absurd (h2 z hz hl g) i
      .exact hl
    .have j:l.1<y.1:=e3;refine .inr ⟨y,br _ hy,w',e1,e2,(),e4,λz hz g i=>?_⟩;rcases bE.mp hz with rfl|hz
     .lia
     .exact e5 z hz g i
   |none =>
    rcases xV p f ls s with ⟨h1,h2⟩|⟨y,hy,w',e1,e2,e3,e4,e5⟩
    .refine .inl ⟨h1,λy hy a b=>?_⟩;rcases bE.mp hy with rfl|hy
     .exact e
     .exact h2 y hy a b
    .refine .inr ⟨y,br _ hy,w',e1,e2,e3,e4,λz hz g i=>?_⟩;rcases bE.mp hz with rfl|hz
     .exact absurd e i
     .exact e5 z hz g i
  .rw[am c];rcases xV p f ls s with ⟨h1,h2⟩|⟨y,hy,w',e1,e2,e3,e4,e5⟩
   .refine .inl ⟨h1,λy hy a b=>?_⟩;rcases bE.mp hy with rfl|hy
    .exact absurd ⟨a,b⟩ c
    .exact h2 y hy a b
   .refine .inr ⟨y,br _ hy,w',e1,e2,e3,e4,λz hz g i=>?_⟩;rcases bE.mp hz with rfl|hz
    .rcases Int.lt_or_le s.1 z.1 with hl|hl
     .exact absurd ⟨hl,g⟩ c
     .lia
    .exact e5 z hz g i
theorem xE{a:List aN}{p:Pl}(b:(a.map (·.1)).Nodup):p∈a.map (·.1)↔zE a p≠ak:=by
 constructor
 .intro h e;obtain⟨r,c,rfl⟩:=bB.mp h;have:=(Y7 (p:=r.1) (w:=r.2) b).mpr c;rw[e] at this;cases this
 .intro h;cases e:zE a p with
  |none=>exact absurd e h
  |some w=>exact bB.mpr ⟨_,(Y7 b).mp e,Y⟩
theorem Q5{rk:D}{F:D->Prop}{r:Int}{b:List aN}:∀ {a:List (aU×V)} {l:List (Int×List aN)},Paired (zbj H rk F) a l->(l.map (·.1)).Nodup->(r,b)∈l->∃d,yf a (.inl r)=U (.ref d)/\F d/\d≠rk/\H d=U (.dT (sY b))
 |_,_,.nil,_,h=>nomatch h
 |_,_,@Paired.cons _ _ _ kv y a l ⟨e,d,e2,fd,nd,hd⟩ rest,n,h=>by
  rw[bx,bX] at n;rcases bE.mp h with rfl|h
  .exact⟨d,by rw[yR e,e2],fd,nd,hd⟩
  .have c:¬ kv.1=.inl r:=λz=>n.1 (by rw[e] at z;cases z;exact bq (f:=(·.1)) h);rw[yS c];exact Q5 rest n.2 h
theorem zdl{rk:D}{F:D->Prop}:∀ {a:List (aU×V)} {l:List (Int×List aN)},Paired (zbj H rk F) a l->a.map (·.1)=l.map λy=>(gh y.1:aU)
 |_,_,.nil=>rfl
 |_,_,.cons h rest=>by rw[bx,bx,h.1,zdl rest]
theorem Q6{rk:D}{F:D->Prop}{r:Int}{a:List (aU×V)}{l:List (Int×List aN)}(h:Paired (zbj H rk F) a l)(n:r ∉ l.map (·.1)):yf a (.inl r)=ak:=by
 refine Jn λz=>n ?_;rw[zdl h] at z;obtain⟨y,b,e⟩:=bB.mp z;cases e;exact bq b
theorem Q7{rk:D}{F:D->Prop}{r:Int}:∀ {a:List (aU×V)} {l:List (Int×List aN)},Paired (zbj H rk F) a l->Paired (zbj H rk F) (yz a (.inl r)) (JW l r)
 |_,_,.nil=>.nil
 |_,_,@Paired.cons _ _ _ kv y a l h rest=>by
  unfold JW;by_cases e:y.1=r
  .rw[KI (by rw[h.1,e]),fV (by simp[e])];exact Q7 rest
  .rw[XZ (λz=>e (by rw[h.1] at z;cases z;rfl)),fW (by simp[e])];exact .cons h (Q7 rest)
theorem zhj{l:List (Int×List aN)}{r:Int}(h:r ∉ l.map (·.1)):JW l r=l:=pF.mpr λy a=>Bj λe=>h (by rw[<-e];exact bq a)
theorem Jr{l:List (Int×List aN)}{r:Int}:r ∉ (JW l r).map (·.1):=λh=>by
 obtain⟨y,a,e⟩:=bB.mp h;exact of_decide_eq_true (b8.mp a).2 e
theorem sU.get{rk:D}{F:D->Prop}{P:Pl->Int->Prop}{b:List (List aU×V)}(h:sU H rk F P b)(p:Pl):(∃a rs,(zC p,V.ref a)∈b/\yf b (zC p)=U (.ref a)/\F a/\H a=U (.lst (rs.map V.int))/\rs.Pairwise (· < ·)/\rs≠[]/\∀r,r∈rs↔P p r)\/(yf b (zC p)=ak/\zC p ∉ b.map (·.1)/\∀r,¬ P p r):=by
 by_cases hm:zC p∈b.map (·.1)
 .obtain⟨kv,c,e⟩:=bB.mp hm;obtain⟨d,a,rs,rfl,z⟩:=h.ls kv c;have:d=p:=xi e;subst this;exact .inl ⟨a,rs,c,QN h.nk _ c,z⟩
 .exact .inr ⟨Jn hm,hm,λr f=>hm (h.al p r f)⟩
theorem ziG{a:List Int}{l:List (Int×List aN)}{p:Pl}(h:a.Pairwise (· < ·))(e:∀r,r∈a->v5 l p r):a.length<=l.length:=by
 have c:a.Nodup:=mR (λh=>rQ h) h;have:=wj (b:=l.map (·.1)) c λx d=>let ⟨gs,h1,_⟩:=e x d;bB.mpr ⟨_,h1,Y⟩
 simpa using this
section
variable {G:D->Prop}{rk a:D}{H' H'':Hp}
theorem mt.refl:mt G rk H H:=λ_ _ e _ _=>e
theorem mt.same(k:mt G rk H H')(s:aJ H' H''):mt G rk H H'':=λb o e n z=>s _ _ (k b o e n z)
theorem mt.dct(k:mt G rk H H')(o:HO):mt G rk H (upd H' rk o):=λb u e n z=>by rw[zi n];exact k b u e n z
theorem mt.lst(k:mt G rk H H')(d:H' a=U (.lst xs))(f:G a):mt G rk H (upd H' a (.lst ys)):=λb u e n z=>by
 have c:=k b u e n z;by_cases hb:b=a
 .subst hb;rcases z with z|z
  .rw[d] at c;exact absurd (bI c).symm (z xs)
  .exact absurd f z
 .rw[zi hb];exact c
end
theorem Q8{a b:Type}{f:a->b}:∀ {l:List a},(l.map f).Nodup->∀ {x y:a},x∈l->y∈l->f x=f y->x=y
 |[],_,_,_,h,_,_=>nomatch h
 |c::l,n,x,y,hx,hy,e=>by
  rw[bx,bX] at n;rcases bE.mp hx with h1|h1
  .rcases bE.mp hy with h2|h2
   .rw[h1,h2]
   .exact absurd (by rw[<-h1,e];exact bq h2) n.1
  .rcases bE.mp hy with h2|h2
   .exact absurd (by rw[<-h2,<-e];exact bq h1) n.1
   .exact Q8 n.2 h1 h2 e
section
variable {G:D->Prop}{rk a:D}{P P':Pl->Int->Prop}{kk:List (List aU×V)}{q0:Pl}{ac:Int}{rs:List Int}
theorem sU.one(h:sU H rk G P kk)(d:(zC q0,V.ref a)∈kk){c:Pl}(b:(zC c,V.ref a')∈kk):a'=a↔c=q0:=by
 constructor
 .intro e;have:=Q8 h.nv b d (by rw[e]);exact xi (congrArg Prod.fst this)
 .intro e;have:=Q8 h.nk b d (by rw[e]);exact V.ref.inj (congrArg Prod.snd this)
theorem zbv(h:sU H rk G P kk)(b:H a=U (.lst (rs.map V.int))):rk≠a:=zM h.at_ b ()
theorem Qh{r:Int}(c:rs.Pairwise (· < ·)):r∈rs.erase ac↔r∈rs/\r≠ac:=by
 have b:rs.Nodup:=mR (λh=>rQ h) c;rw[b.mem_erase_iff,and_comm]
theorem sU.out1(h:sU H rk G P kk)(q:(zC q0,V.ref a)∈kk)(v:H a=U (.lst (rs.map V.int)))(o:rs.Pairwise (· < ·))(u:∀r,r∈rs↔P q0 r)(g:rs.erase ac≠[])(l:∀p r,P' p r↔P p r/\¬ (r=ac/\p=q0)):sU (upd H a (.lst ((rs.erase ac).map V.int))) rk G P' kk where
 at_:=by rw[zi (zbv h v)];exact h.at_
 nk:=h.nk
 nv:=h.nv
 ls:=λkv b=>by
  obtain⟨d,n,c,rfl,s,k,f,i,j⟩:=h.ls kv b;by_cases e:n=a
  .have m:=(h.one q b).mp e;subst e m;refine⟨d,n,rs.erase ac,Y,s,zh,o.sublist pZ,g,λr=>?_⟩;rw[Qh o,l,u];exact⟨λz=>⟨z.1,λy=>z.2 y.1⟩,λz=>⟨z.1,λy=>z.2 ⟨y,Y⟩⟩⟩
  .have m:¬ d=q0:=λz=>e ((h.one q b).mpr z);refine⟨d,n,c,Y,s,by rw[zi e];exact k,f,i,λr=>?_⟩;rw[j,l];exact⟨λz=>⟨z,λy=>m y.2⟩,λz=>z.1⟩
 al:=λp r z=>h.al p r ((l p r).mp z).1
theorem sU.out2(h:sU H rk G P kk)(x:(zC q0,V.ref a)∈kk)(C:H a=U (.lst (rs.map V.int)))(v:rs.Pairwise (· < ·))(A:∀r,r∈rs↔P q0 r)(i:rs.erase ac=[])(n:∀p r,P' p r↔P p r/\¬ (r=ac/\p=q0)){us:List V}:sU (upd (upd H a (.lst us)) rk (.dT (yz kk (zC q0)))) rk G P' (yz kk (zC q0)) where
 at_:=zh
 nk:=iu (gb _ cY) h.nk
 nv:=iu (gb _ cY) h.nv
 ls:=λkv b=>by
  have c:=zdP b;have u:kv.1≠zC q0:=of_decide_eq_true (b8.mp b).2;obtain⟨m,q,f,rfl,B,d,g,j,k⟩:=h.ls kv c;have o:¬ m=q0:=λz=>u (by rw[z]);have e:¬ q=a:=λz=>o ((h.one x c).mp z);refine⟨m,q,f,Y,B,by rw[zi (zbv h d).symm,zi e];exact d,g,j,λr=>?_⟩;rw[k,n];exact⟨λz=>⟨z,λy=>o y.2⟩,λz=>z.1⟩
 al:=λp r z=>by
  obtain⟨l,s⟩:=(n p r).mp z;obtain⟨kv,b,e⟩:=bB.mp (h.al p r l);refine bB.mpr ⟨kv,b8.mpr ⟨b,Bj λy=>?_⟩,e⟩;have:p=q0:=xi (e.symm.trans y);subst this;have w:r∈rs:=(A r).mpr l;by_cases er:r=ac
  .exact s ⟨er,Y⟩
  .have:=(Qh (ac:=ac) v).mpr ⟨w,er⟩;rw[i] at this;cases this
theorem zcx{k:Nat}(e:rs.Pairwise (· < ·))(c:∀r∈rs.take k,r<ac)(d:∀r∈rs.drop k,ac<=r)(b:ac ∉ rs):(rs.take k++ac::rs.drop k).Pairwise (· < ·):=by
 have gt:∀r∈rs.drop k,ac<r:=λr f=>by
  have i:=d r f;have h:r≠ac:=λz=>b (by rw[<-z];exact c9 f);lia
 rw[gL,pV];refine⟨e.sublist (rg ..),⟨gt,e.sublist (mU ..)⟩,λx g y hy=>?_⟩;have:=c x g;rcases bE.mp hy with rfl|hy
 .exact this
 .have:=gt y hy;lia
theorem zhk{r:Int}:r∈rs.take k++ac::rs.drop k↔r∈rs\/r=ac:=by
 rw[bu,bE];constructor
 .rintro(h|h|h)
  .exact .inl (dH h)
  .exact .inr h
  .exact .inl (c9 h)
 .rintro(h|h)
  .have:r∈rs.take k++rs.drop k:=by rw[cV];exact h
   rcases bu.mp this with z|z
   .exact .inl z
   .exact .inr (.inr z)
  .exact .inr (.inl h)
theorem sU.in1{k:Nat}(h:sU H rk G P kk)(l:(zC q0,V.ref a)∈kk)(A:H a=U (.lst (rs.map V.int)))(x:rs.Pairwise (· < ·))(v:∀r,r∈rs↔P q0 r)(j:∀r∈rs.take k,r<ac)(n:∀r∈rs.drop k,ac<=r)(g:¬ P q0 ac)(q:∀p r,P' p r↔P p r\/(r=ac/\p=q0)):sU (upd H a (.lst ((rs.take k++ac::rs.drop k).map V.int))) rk G P' kk where
 at_:=by rw[zi (zbv h A)];exact h.at_
 nk:=h.nk
 nv:=h.nv
 ls:=λkv b=>by
  obtain⟨d,u,c,rfl,w,o,f,i,m⟩:=h.ls kv b;by_cases e:u=a
  .have s:=(h.one l b).mp e;subst e s;refine⟨d,u,_,Y,w,zh,zcx x j n (λz=>g ((v _).mp z)),by simp,λr=>?_⟩;rw[zhk,q,v];exact⟨λz=>z.imp_right λy=>⟨y,Y⟩,λz=>z.imp_right λy=>y.1⟩
  .have s:¬ d=q0:=λz=>e ((h.one l b).mpr z);refine⟨d,u,c,Y,w,by rw[zi e];exact o,f,i,λr=>?_⟩;rw[m,q];exact⟨λz=>.inl z,λz=>z.elim id λy=>absurd y.2 s⟩
 al:=λp r z=>by
  rcases(q p r).mp z with z|⟨_,rfl⟩
  .exact h.al p r z
  .exact bB.mpr ⟨_,l,Y⟩
theorem sU.in2(h:sU H rk G P kk)(o:zC q0 ∉ kk.map (·.1))(i:∀r,¬ P q0 r)(v:G a)(q:∀kv∈kk,kv.2≠.ref a)(u:a≠rk)(l:∀p r,P' p r↔P p r\/(r=ac/\p=q0)):sU (upd (upd H rk (.dT (kk++[(zC q0,V.ref a)]))) a (.lst [V.int ac])) rk G P' (kk++[(zC q0,V.ref a)]) where
 at_:=by rw[zi u.symm];exact zh
 nk:=by
  rw[bR,cQ];refine⟨h.nk,by simp,λx f y d=>?_⟩;have:y=zC q0:=by simpa using d
  rw[this];exact λz=>o (by rw[<-z];exact f)
 nv:=by
  rw[bR,cQ];refine⟨h.nv,by simp,λx f y d=>?_⟩;have:y=V.ref a:=by simpa using d
  rw[this];obtain⟨kv,hkv,rfl⟩:=bB.mp f;exact q kv hkv
 ls:=λkv hkv=>by
  rcases bu.mp hkv with hkv|hkv
  .obtain⟨n,s,c,rfl,m,b,g,j,k⟩:=h.ls kv hkv;have e:s≠a:=λz=>q _ hkv (by rw[z]);have w:n≠q0:=λz=>o (bB.mpr ⟨_,hkv,by rw[z]⟩);refine⟨n,s,c,Y,m,by rw[zi e,zi (zbv h b).symm];exact b,g,j,λr=>?_⟩;rw[k,l];exact⟨λz=>.inl z,λz=>z.elim id λy=>absurd y.2 w⟩
  .have:=bo.mp hkv;subst this;refine⟨q0,a,[ac],Y,v,zh,by simp,by simp,λr=>?_⟩;rw[l,bo];exact⟨λz=>.inr ⟨z,Y⟩,λz=>z.elim (λy=>absurd y (i r)) λy=>y.1⟩
 al:=λp r z=>by
  rw[bR,bu];rcases(l p r).mp z with z|⟨_,rfl⟩
  .exact .inl (h.al p r z)
  .exact .inr (by simp)
theorem sU.eqv(h:sU H rk G P kk)(e:∀p r,P p r↔P' p r):sU H rk G P' kk:=⟨h.at_,h.nk,h.nv,λkv b=>let ⟨p,a,rs,e1,fa,ha,hs,hn,hi⟩:=h.ls kv b;⟨p,a,rs,e1,fa,ha,hs,hn,λr=>(hi r).trans (e p r)⟩,λp r z=>h.al p r ((e p r).mpr z)⟩
end
def taI(m g rk:D)(b:Int)(h:List V)(F:D->Prop)(P:Pl->Int->Prop)(f:List aN)(H:Hp)(i:Nat)(c:St)(a:Hp):Prop:=(∃d,c=[U (.ref m),U (.int b),U (.ref g),d])/\mt F rk H a/\Dm H a/\∃e,sU a rk F (λp r=>P p r/\¬ (r=b/\p∈(f.take i).map (·.1))) e
theorem sU.keep2{c:Hp}{rk:D}{F F':D->Prop}{P:Pl->Int->Prop}(h:sU H rk F P aI)(f:c rk=H rk)(k:∀b d,F b->H b=U (.lst d)->c b=U (.lst d))(i:∀b,F b->(∃o,c b=U o)->F' b):sU c rk F' P aI:=
 ⟨f.trans h.at_,h.nk,h.nv,λkv g=>let ⟨p,a,rs,e,fa,ha,z⟩:=h.ls kv g;⟨p,a,rs,e,i a fa ⟨_,k _ _ fa ha⟩,k _ _ fa ha,z⟩,h.al⟩
theorem Dm.refl:Dm H H:=λb o e=>⟨o,e,λ_ z=>z⟩
theorem Dm.trans{c H2:Hp}(h:Dm H c)(k:Dm c H2):Dm H H2:=λb o e=>by
 obtain⟨i,l,f⟩:=h b o e;obtain⟨g,j,d⟩:=k b i l;exact⟨g,j,λa z=>f a (d a z)⟩
theorem Dm.of_same{H1:Hp}(s:aJ H H1):Dm H H1:=λb o e=>⟨o,s _ _ e,λ_ z=>z⟩
theorem Dm.upd(n:∀d,o'≠.tup d):Dm H (upd H a o'):=λb o e=>by
 by_cases c:b=a
 .subst c;exact⟨_,zh,λd z=>absurd z (n d)⟩
 .exact⟨o,by rw[zi c];exact e,λ_ z=>z⟩
theorem mt.trans{G:D->Prop}{rk:D}{a H2:Hp}(h:mt G rk H a)(k:mt G rk a H2):mt G rk H H2:=λb o e n z=>k b o (h b o e n z) n z
theorem zfV{m w j l rk:D}{low:Int}{F:D->Prop}{g:List aN}{h:List (Int×List aN)}{c:List (aU×V)}{i:List (List aU×V)}{f p:Hp}(C:F m)(M:F j)(I:F l)(J:F rk)(r:j≠rk)(u:f m=U (.ins t.q02 w (YL j low l rk)))(E:f j=U (.dT (sY g)))(v:f l=U (.dK c))(a:∃s,f rk=U (.dT s))(x:Paired (zbj f rk F) c h)(k:mt F rk f p)(q:∀b,F b->∃o,p b=U o)(A:sU p rk F (v5 h) i)(n:(h.map (·.1)).Nodup)(B:∀y∈h,0<=y.1/\W3 y.2):tL t p m F g h low:=by
 obtain⟨s,a⟩:=a;exact⟨q,C,n,B,w,j,l,rk,c,i,k _ _ u (zM u a ()) (.inl λ_ z=>nomatch z),M,I,J,r,k _ _ E r (.inl λ_ z=>nomatch z),k _ _ v (zM v a ()) (.inl λ_ z=>nomatch z),Paired.mapP x λ_ _ ⟨e,d,O,N,n,G⟩=>⟨e,d,O,N,n,k _ _ G n (.inl λ_ z=>nomatch z)⟩,A⟩
theorem Qi{F:D->Prop}{rk:D}{H a:Hp}(c:F rk)(k:mt F rk H a):∀b o,¬ F b->H b=U o->a b=U o:=λb o n e=>k b o e (λz=>n (by rw[z];exact c)) (.inr n)
theorem zfW{l:List (Int×List aN)}{ac:Int}{d:List aN}(e:(l.map (·.1)).Nodup)(h:(ac,d)∈l)(p:Pl)(r:Int):(v5 l p r/\¬ (r=ac/\p∈d.map (·.1)))↔v5 (JW l ac) p r:=by
 constructor
 .rintro⟨⟨c,b,a⟩,n⟩;refine⟨c,b8.mpr ⟨b,Bj λz=>?_⟩,a⟩;have z:r=ac:=z;subst z;have:=Q8 e b h rfl;cases this;exact n ⟨Y,a⟩
 .rintro⟨c,b,a⟩;obtain⟨g,f⟩:=b8.mp b;exact⟨⟨c,g,a⟩,λz=>of_decide_eq_true f z.1⟩
theorem zfX{rk:D}{F:D->Prop}{l:List (Int×List aN)}{P:Pl->Int->Prop}(h:sU H rk F P kk)(k:∀p r,P p r->v5 l p r)(c:∀y∈l,W3 y.2)(s:l.length<=300):kk.length<=18900:=by
 have q:=wj (b:=(l.flatMap λy=>y.2.map (·.1)).map zC) h.nk λx i=>by
  obtain⟨f,d,rfl⟩:=bB.mp i;obtain⟨p,a,rs,rfl,_,_,_,m,n⟩:=h.ls f d;obtain⟨r,j⟩:∃r,r∈rs:=by
   cases rs with
   |nil=>exact absurd Y m
   |cons r _=>exact⟨r,bt⟩
  obtain⟨u,e,o⟩:=k p r ((n r).mp j);exact bq (List.mem_flatMap.mpr ⟨_,e,o⟩)
 rw[bg,bg] at q;have e:∀l:List (Int×List aN),(∀y∈l,W3 y.2)->(l.flatMap λy=>y.2.map (·.1)).length<=63*l.length:=by
  intro l;induction l with
  |nil=>intro _;simp
  |cons y l ih =>
   intro c;rw[List.flatMap_cons,bC,bg,bU];have:=(c y bt).le;have:=ih λz g=>c z (br _ g);lia
 have:=e l c;lia
def lyI(m g d rk:D)(b:Int)(G:D->Prop)(P:Pl->Int->Prop)(h:List aN)(H:Hp)(i:Nat)(c:St)(a:Hp):Prop:=(∃e,c=[U (.ref m),U (.int b),U (.ref g),U (.ref d),e])/\mt G rk H a/\Dm H a/\∃f,sU a rk G (λp r=>P p r\/(r=b/\p∈(h.take i).map (·.1))) f
theorem Js(p:Pl)(b:Int)(y:Int×List aN):∀(l:List (Int×List aN)) (s:Int×Int),wO p b (l++[y]) s=(if (wO p b l s).1<y.1/\y.1<b then Jc p y.1 y.2 (wO p b l s) else wO p b l s)
 |[],s=>rfl
 |a::t,s=>by rw[dY,wO,Js p b y t,wO]
theorem ye{e:St}{i:Nat}{x C d:D}{b:List (Str×V)}{f:Str}{R:V->Prop}(h:H x=U (.ins C d b))(c:tR K C)(n:aP K C f)(j:e[i]?=U (U (.ref x)))(g:b.lookup f=U v)(q:R v):∃y,e[i]?=U (U y)/\∃a C d b v,y=.ref a/\H a=U (.ins C d b)/\tR K C/\aP K C f/\b.lookup f=U v/\R v:=⟨_,j,x,C,d,b,v,Y,h,c,n,g,q⟩
theorem ji{d:St}{i:Nat}{x C c:D}{b:List (Str×V)}{R:V->Prop}(f:H x=U (.ins C c b))(g:d[i]?=U (U (.ref x)))(e:b.lookup m=ak)(q:R (.ref x)):∃y,d[i]?=U (U y)/\∃a c b,y=.ref a/\H a=U (.ins C c b)/\b.lookup m=ak/\R y:=⟨_,g,x,c,b,Y,f,e,q⟩
theorem ziH{P a:Prop}(f:a->P)(u:a):P:=f u
theorem zV{P R:Prop}(h:b=ao)(r:R):if b=ah then P else R:=by rw[am (by rw[h];decide)];exact r
theorem ym{P R:Prop}(h:b=ah)(p:P):if b=ah then P else R:=by rw[ap h];exact p
theorem mB{i j:Int}(a:-10000000000000000000000000000000000000000000000<i)(b:i<10000000000000000000000000000000000000000000000)(c:-10000000000000000000000000000000000000000000000<j)(d:j<10000000000000000000000000000000000000000000000):CMulB i j:=by
 have e:(10000000000000000000000000000000000000000000000:Int)<big:=by lia
 exact⟨⟨(),()⟩,(),()⟩
def drI(c:Int)(m:Nat)(l:D)(f:Hp)(i:Nat)(b:St)(H:Hp):Prop:=∃(a:List Int) (x y:Int),(∃e,b=[U (.int c),U (.int (m:Nat)),U (.ref l),U (.int x),U (.int y),e])/\aJ f H/\H l=U (.lst (a.map V.int))/\a.length=i/\(∀d∈a,okD d)/\0<=x/\x<1000100/\0<=y/\y<1000100
theorem mS{i j:Int}(a:0<=i)(b:i<1000100)(c:0<=j)(d:j<1000100):CMulB i j:=mB () () () ()
theorem Ka{k:Int}(c:σ[i]?=U (U (.ref p)))(b:H p=U (.lst xs))(a:ub xs k=U v)(q:Q v H):aK (yD K) (Z i) (tC (.int k)) σ H Q:=⟨_,c,p,xs,k,v,Y,Y,aQ.of b,a,q⟩
theorem Q9{σ:St}{te:TE}{y n:Int}(b:∀Q:VK,Q (.int y) H->te σ H Q)(a:0<n)(q:∀k,0<=k->k<n->Q (.int k) H):aK aC te (tC (.int n)) σ H Q:=b _ ⟨_,_,Y,Y,a,q _ (cA _ ()) (ck _ a)⟩
theorem Jt{A:List V}{_E:XK}(h:xA A H Q _E) :
  Yg K t (sS Q) (L2.start ["cell","many","found","one","two","k"] A) H:=by
 obtain⟨c,m,rfl,T,q⟩:=h;refine⟨(),λl s=>?_⟩;generalize c_:upd H l _=H0;obtain⟨E,M⟩:=xc c_ s;unfold zo zO zt;show aK aC (Z 0) (tC (.int 1000003)) _ _ _;refine Q9 (λ_ q=>⟨_,Y,q⟩) () λe a1 a2=>⟨_,_,Y,Y,?_⟩;show aK aC (aK aE (Z 0) (tC (.int 1000003))) (tC (.int 999983)) _ _ _;refine Q9 (λ_ q=>⟨_,Y,_,_,Y,Y,dB,q⟩) () λb a3 a4=>⟨_,_,Y,Y,?_⟩;refine⟨_,Y,m,Y,(),(),k8 (drI c m l H) ⟨[],e+17,b+29,⟨_,Y⟩,E,M,Y,(λd z=>nomatch z),(),(),(),()⟩ ?_ ?_⟩
 .rintro i C B J ⟨u,x,y,⟨G,rfl⟩,n,g,r,o,e,w,b,v⟩;have J:i<m:=by lia
  show aK _ _ (tC (.int 1000003)) _ _ _;refine Q9 (λ_ q=>⟨_,Y,_,Y,_,_,Y,Y,mS e w e w,_,Y,_,_,Y,Y,mS () () b v,_,_,Y,Y,_,Y,_,_,Y,Y,q⟩) () λk f O=>?_;have a:k<1000100:=by lia
  dsimp only;refine Q9 (λ_ q=>⟨_,Y,_,Y,_,_,Y,Y,mS b v f a,_,Y,_,_,Y,Y,mS () () f a,_,_,Y,Y,_,_,Y,Y,q⟩) () λj I N=>?_;have p:j<1000100:=by lia
  refine⟨_,Y,.inl ⟨Y,_,aQ.of g⟩,_,Y,_,_,Y,Y,mS f a () (),_,Y,_,_,Y,Y,l,_,_,Y,Y,g,bT (by rw[bg];lia:_<=63) (),u++[k*999983+j],k,j,⟨_,Y⟩,xk n s,by rw[bR];exact zh,by rw[bC,r];rfl,λd hd=>?_,f,a,I,p⟩;rcases bu.mp hd with hd|hd
  .exact o d hd
  .rw[bo.mp hd];exact⟨(),()⟩
 .rintro C B ⟨u,x,y,⟨G,rfl⟩,n,g,r,o,_⟩;exact⟨_,Y,q l u B n s g (by simpa using r) o⟩
theorem ziI{n:Int}:tw (n*1000000021000000147000000343%2000000000000000000000000000001-1000000000000000000000000000000)=ah:=by
 have c:=cA (n*1000000021000000147000000343) (b:=2000000000000000000000000000001) ();have a:=ck (n*1000000021000000147000000343) (b:=2000000000000000000000000000001) ();exact uf.mpr ()
theorem zhl:∀v∈jw++wl,(match v with|.str w=>yU (w++bh "z")|_=>ao)=ah:=by lia
theorem zhm(h:smW w)(f:inV (.str w) jw=ao)(e:inV (.str w) wl=ao):yU w=ah:=by
 obtain⟨b,g,a⟩:=h;have d:decide (w="")=ao:=Bk λz=>by rw[z] at b;exact absurd b ()
 have c:decide (6<w.length)=ao:=Bk ();unfold yU;unfold Xn at a;rw[f,e,a,d,c];rfl
theorem zjm(h:inV (.str w) (jw++wl)=ah):yU (w++bh "z")=ah:=by
 unfold inV at h;obtain⟨v,a,e⟩:=gT.mp h;have z:=zhl v a;cases v <;> simp only[eqV,cP] at e;rename_i y;have b:y=w:=by simpa using e
 subst b;exact z
theorem zdm :inV v (a++b)=(inV v a || inV v b):=by unfold inV;rw[List.any_append]
section
variable {n:Int}{a:D}{ws:List Str}{x:Str}
theorem zfY{k:Int}(h:okD n)(c:0<k):okD (n/k):=by
 obtain⟨a,b⟩:=h;have d:=Int.ediv_nonneg a (oF c);have e:=Int.ediv_le_self (a:=n) k a;exact⟨d,()⟩
theorem lx(h:yU x=ah):bv [.str x]/\tmP [.str x]:=XB (.inr ⟨x,Y,h⟩)
theorem zaa{b:St}{j:Nat}{c:TE}{r:Int}(d:sT H a ws)(i:ws.length=2)(k:b[j]?=U (U (.ref a)))(g:∀Q:VK,Q (.int r) H->c b H Q)(h:∀x,yU x=ah->Q (.str x) H):aK (yD K) (Z j) (aK aC c (tC (.int 2))) b H Q:=by
 obtain⟨x,f,_,e⟩:=zbu d 2 i () r;exact⟨_,k,g _ ⟨_,_,Y,Y,(by lia:(0:Int)<2),_,_,_,_,Y,Y,aQ.of d.1,f,h x e⟩⟩
theorem zbw{k:Int}(d:yP n k)(b:σ[0]?=U (U (.int n)))(Q:VK)(q:Q (.int (n/k)) H):aK aE (Z 0) (tC (.int k)) σ H Q:=⟨_,b,_,_,Y,Y,d,q⟩
theorem tm3(a:bv [u]/\tmP [u])(b:bv [v]/\tmP [v])(j:wdJ w):bv [u,v,.str w]/\tmP [u,v,.str w]:=⟨Qg a.1 b.1 j (by simp),zdj a.2 b.2 j⟩
theorem Kb{j:List V}{_E:XK}(h:vQ j H Q _E) :
  qv K t (sS Q) (L2.start ["number","slots","kind"] j) H:=by
 obtain⟨n,a,ws,rfl,z,g,f,q⟩:=h;have d:wdJ (bh "over"):=⟨(),(),()⟩;have c:wdJ (bh "rest"):=⟨(),(),()⟩;unfold qv zo zR XR zO;refine Q9 (λ_ q=>⟨_,Y,q⟩) () λk v u=>?_;have fin:∀ {e:List V} {i:Hp},aJ H i->e.length<=3->bv e/\tmP e->e.length<=Bb/\∀p,i p=ak->Q (.ref p) (upd i p (.tup e)):=λs l h=>⟨bO l (),λp m=>q p _ _ (s.trans (sX p m)) (zJ s m) zh h.1 h.2⟩;refine⟨_,Y,_,_,Y,Y,_,Y,Y0 (λ_=>Q9 (zbw dB Y) () λk v u=>fin (aJ.refl _) (by lia:1<=3) (XB (.inl ⟨_,Y,uf.mpr ()⟩))) λ_=>⟨_,Y,Y,_,Y,Y0 (λ_=>zaa g f Y (zbw dB Y) λx b=>fin (aJ.refl _) (by lia:1<=3) (lx b)) λ_=>?_⟩⟩;refine ziH (λr=>⟨_,Y,Y,_,Y,Y0 (λ_=>⟨_,Y,_,_,Y,Y,dB,_,_,Y,Y,(by lia:(0:Int)<3),Y,_,Y,Y0 (λ_=>zaa g f Y (zbw dB Y) λx b=>fin (aJ.refl _) (bp 3) (tm3 (XB (.inl ⟨7,Y,()⟩)) (lx b) d)) λ_=>r⟩) λ_=>r⟩) ?_;have o:=zfY (k:=5) z ();exact⟨_,Y,Y,_,Y,Y0 (λ_=>zaa g f Y (zbw dB Y) λx b=>fin (aJ.refl _) (bp 3) (tm3 (lx b) (XB (.inl ⟨3,Y,()⟩)) c)) λ_=>⟨_,Y,_,_,Y,Y,dB,_,Y,o.1,o.2,λw A y s=>fin s (by lia:1<=3) (XB (.inl ⟨_,Y,y⟩))⟩⟩
def tw8:List V:=[V.str (bh "plus"),V.str (bh "minus"),V.str (bh "times"),V.str (bh "over"),V.str (bh "rest"),V.str (bh "under"),V.str (bh "same")]
theorem ziJ{i:Int}(e:0<=i)(d:i<7):∃w:Str,ub tw8 i=U (.str w)/\wdJ w:=by
 obtain⟨x,c,b⟩:=zbn (xs:=tw8) (i:=i) e d;unfold tw8 at b;simp only[bE,cZ,or_false] at b;rcases b with rfl|rfl|rfl|rfl|rfl|rfl|rfl <;> exact⟨_,c,(),(),()⟩
theorem Kc{v:List V}{_E:XK}(h:wB v H Q _E) :
  qw K t (sS Q) (L2.start ["number","slots","words","kind"] v) H:=by
 obtain⟨n,a,ws,rfl,G,b,f,q⟩:=h;have fin:∀ {e:List V} {m:Hp},aJ H m->e.length<=3->bv e/\tmP e->e.length<=Bb/\∀p,m p=ak->Q (.ref p) (upd m p (.tup e)):=λs l h=>⟨bO l (),λp E=>q p _ _ (s.trans (sX p E)) (zJ s E) zh h.1 h.2⟩;unfold qw zo zR zO;refine⟨(by lia:7<=Bb),λl J=>?_⟩;generalize c_:upd H l _=H0;obtain⟨c,g⟩:=xc c_ J;have g:H0 l=U (.lst tw8):=g;have b:=b.same c;have o:=zfY (k:=9) G ();have A:=zfY (k:=36) G ();refine Q9 (σ:=[U (.int n),U (.ref a),U (.ref l),ak]) (te:=Z 0) (n:=9) (λ_ q=>⟨_,Y,q⟩) () λk O N=>?_;refine⟨_,Y,Y,_,Y,Y0 (λ_=>⟨_,Y,_,_,Y,Y,dB,_,Y,o.1,o.2,λw M j s=>fin (c.trans s) (by lia:1<=3) (XB (.inl ⟨_,Y,j⟩))⟩) λu=>⟨_,Y,Y,_,Y,Y0 (λ_=>zaa b f Y (zbw dB Y) λx d=>fin c (by lia:1<=3) (lx d)) λr=>?_⟩⟩;have u:k≠0:=λe=>u (Bj (congrArg V.int e));have r:k≠1:=λe=>r (Bj (congrArg V.int e));obtain⟨y,C,B⟩:=ziJ (i:=k-2) () ();exact⟨_,Y,_,_,Y,Y,dB,_,_,Y,Y,(by lia:(0:Int)<2),Y,_,Y,Y0 (λ_=>zaa b f Y (zbw dB Y) λx d=>⟨_,Y,_,_,Y,Y,dB,_,Y,A.1,A.2,λw M j s=>⟨_,Y,_,Y,_,_,Y,Y,_,_,_,_,Y,Y,aQ.of (s _ _ g),C,fin (c.trans s) (bp 3) (tm3 (lx d) (XB (.inl ⟨_,Y,j⟩)) B)⟩⟩) λ_=>zaa b f Y (zbw dB Y) λx d=>zaa b f Y (zbw dB Y) λz I=>⟨_,Y,_,Y,_,_,Y,Y,_,_,_,_,Y,Y,aQ.of g,C,fin c (bp 3) (tm3 (lx d) (lx I) B)⟩⟩
end
def abc:Str:="abcdefghijklmnopqrstuvwxyz"
theorem ziK:∀c∈abc.cps.toList,inL c=ah:=by lia
theorem zfZ{e:Int}(f:0<=e)(d:e<26):∃c,ub abc.cps.toList e=U c/\inL c=ah:=by
 obtain⟨v,b,a⟩:=zbn (xs:=abc.cps.toList) (i:=e) f (by rw[show abc.cps.toList.length=26 from by lia];exact d);exact⟨v,b,ziK v a⟩
def zjF(v:V):Prop:=∃c,v=.str ⟨#[c]⟩/\inL c=ah
theorem zbx:∀ {ls:List Str},(∀x∈ls,∃c,x=⟨#[c]⟩/\inL c=ah)->((ls.map λp=>p.cps.toList).flatten).length=ls.length/\((ls.map λp=>p.cps.toList).flatten).all inL=ah/\(ls.map (·.length)).sum=ls.length
 |[],_=>⟨Y,Y,Y⟩
 |x::ls,h=>by
  obtain⟨c,rfl,g⟩:=h x bt;obtain⟨a,b,d⟩:=zbx (ls:=ls) λy f=>h y (br _ f);have e:((⟨#[c]⟩:Str)::ls).length=ls.length+1:=rfl;refine⟨?_,?_,?_⟩
  .rw[bx,rB,bC,a,e];show 1+ls.length=_;lia
  .rw[bx,rB,sD,b];show ([c].all inL&&ah)=ah;simp[g]
  .rw[bx,cM,d,zde,e];lia
section
variable {c:Int}{x y:Str}
theorem zdn(h:yU x=ah):smW x:=by
 unfold yU at h;simp only[bV,mQ,i9,decide_eq_false_iff_not] at h;obtain⟨⟨⟨b,d⟩,_⟩,a⟩:=h;refine⟨?_,(),a⟩;cases z:x.length with
 |zero =>
  exfalso;apply b;obtain⟨⟨l⟩⟩:=x;have:l.length=0:=z;rw[List.length_eq_zero_iff.mp this];rfl
 |succ n=>lia
theorem zd8{k:Nat}{A:Option V}(i:yU x=ah)(I:k<x.length){d:Nat}(E:inL d=ah)(q:∀n o a,aJ H a->H n=ak->sT a n o->o.length=2->Q (.ref n) a) :
  v6 K t (sS Q) [U (.int c),U (.str "abcdefghijklmnopqrstuvwxyz"),A,U (.str x),U (.int (k:Nat)),U (.str ⟨#[d]⟩)] H:=by
 obtain⟨M,J,j⟩:=zdn i;have G:=zde d;have m:=zfN E;have fin:∀ {u v:Str} {l:Hp},yU u=ah->yU v=ah->aJ H l->2<=Bb/\∀p,l p=ak->Q (.ref p) (upd l p (HO.lst [.str u,.str v])):=λ{u v l} C B s=>⟨(),λp r=>q p [u,v] _ (s.trans (sX p r)) (zJ s r) ⟨zh,λw hw=>by
  rcases bE.mp hw with e|hw
  .rw[e];exact C
  .rw[bo.mp hw];exact B⟩ Y⟩
 have h:x.length<=Bb:=xv ();unfold v6 zo zR XR;refine ziH (λg=>⟨_,Y,_,_,Y,Y,dB,_,_,Y,Y,(by lia:(0:Int)<3),Y,_,Y,Y0 (λ_=>⟨_,Y,_,_,Y,⟨h,Y⟩,_,_,Y,Y,_,Y,Y0 (λf=>⟨_,Y,_,Y,_,Y,_,_,Y,Y,xv (by have:=of_decide_eq_true f;lia),_,Y,⟨by rw[vL];lia,by have:=of_decide_eq_true f;rw[vL];lia,XA j m⟩,λz a b s=>fin i b s⟩) λ_=>g⟩) λ_=>g⟩) ?_;refine ziH (λg=>⟨_,Y,_,_,Y,Y,dB,_,_,Y,Y,(by lia:(0:Int)<3),Y,_,Y,Y0 (λ_=>⟨_,Y,_,_,Y,⟨h,Y⟩,_,_,Y,Y,_,Y,Y0 (λf=>⟨_,Y,_,Y,_,_,Y,Y,xv (by have:=of_decide_eq_true f;lia),_,Y,⟨by rw[vL];lia,by have:=of_decide_eq_true f;rw[vL];lia,XA m j⟩,λz a b s=>⟨_,Y,fin b i s⟩⟩) λ_=>g⟩) λ_=>g⟩) ?_;have O:=ziz x k ();have N:=zfO x (k+1);have e:((k:Int)+1)=((k+1:Nat):Int):=by lia
 refine⟨_,Y,_,Y,_,Y,_,Y,_,Y,h,_,Y,_,_,Y,Y,xv (),_,Y,_,Y,_,_,Y,Y,_,Y,_,Y,h,_,_,Y,Y,?_⟩;rw[e];exact⟨xv (by rw[vL];lia),_,Y,⟨by rw[vL,vL];lia,by rw[vL,vL];lia,XA (XA (zha j k) m) (zd6 j (k+1))⟩,λz a b s=>fin i b s⟩
end
theorem zjn(h0:σ[k]?=U (U (.ref d)))(hc:JP [k] σ=[U (.ref d)])(hd:H d=U (.dT (sY aM)))(hl:(sY aM).length<=63)(ht:∀(p:D) (q:Pl) (w:Int) (e:Hp) (A B:Hp->Prop),zE aM q=U w->tz e d (.ref p) (U (.int w))->(w≠0->A e)->(w=0->B e)->tt [U (.ref p),U (.ref d)] e λb H3=>if b=ah then A H3 else B H3)(q:∀l a e,aJ H e->H l=ak->tq e l a->zfb aM a->a.length<=(sY aM).length->Q (.ref l) e) :
  qE (xJ K (tu ze7 (zc (Z k) zj))) (zt 0) tt (yX (zc (Z 0) (zc (j6 (Z 1) (Z 0)) zj))) 1 [k] σ H Q:=by
 obtain⟨qs,u,ag,r⟩:=zbt aM;refine⟨_,h0,d,sY aM,qs,Y,hd,u,(),λl j aa c N O=>?_⟩;generalize c_:upd H l _=H1;obtain⟨y,z⟩:=xc c_ aa;have lp:j.length=(sY aM).length:=by
  have a1:=c.length_eq;have a2:=congrArg fT u;rw[bg] at a1;rw[bg,bg] at a2;lia
 refine⟨l,Y,⟨_,aQ.of z⟩,λBp hD=>?_⟩;rw[hc];refine zfM (J:=Itl K l) j.length () (λτ=>∃o,τ=[o,U (.ref d)]) (ziD aM (j.map (·.2))) (λi I H e s h=>zhe s h) ⟨_,Y⟩ ⟨[],.nil,Y⟩ (λi H s h=>⟨_,_,aQ.of (s _ _ z),bb (by rw[bg];exact h)⟩) (λH s=>⟨_,aQ.of (s _ _ z),by rw[bg];exact bp _⟩) hD ?_ ?_
 .rintro i v τ I H4 H5 ⟨o,rfl⟩ m hi hR ⟨rfl,E⟩;have E:=E _ (aQ.of (m _ _ z));rw[bA] at E;obtain⟨n,T,rfl⟩:=b7.mp E;have hp:=m _ _ (y _ _ (O n (bN T)));have hm:n.2∈qs:=c.mem_iff.mp (bq (bN T));obtain⟨w,C⟩:=fN.mp ((r n.2).mp hm);have g:tz H5 d (.ref n.1) ((zE aM n.2).map V.int):=.inr ⟨sY aM,zC n.2,n.1,.inl (m _ _ (y _ _ hd)),Y,hp,(wA aM n.2).symm⟩;rw[C] at g;have tk:(j.map (·.2)).take (i+1)=(j.map (·.2)).take i++[n.2]:=by rw[cH,bA,T];rfl
  obtain⟨a,G,x⟩:=hR;refine ht n.1 n.2 w H5 _ _ C g (λM=>⟨_,Y,_,Y,_,Y,d,_,Y,g,by show 2<=Bb;rw[bH];decide,λp f=>⟨⟨_,Y⟩,?_,sX p f⟩⟩) λM=>⟨⟨_,Y⟩,?_,aJ.refl _⟩
  .refine⟨a++[(n.2,w)],Qf (kM (sX p f) G) ⟨p,n.1,Y,zh,sX p f _ _ hp⟩,?_⟩;rw[tk,oG,<-x];simp[Jo,C,M]
  .refine⟨a,G,?_⟩;rw[tk,oG,<-x];simp[Jo,C,M]
 .rintro I H4 ai ⟨a,G,x⟩ m hq;rw[cL (by rw[bg];exact bp _)] at x;subst x;refine q Bp _ H4 (y.trans m) (zJ y hD) ⟨I,hq,G⟩ (ziE N λp=>(c.mem_iff.trans (r p))) ?_;have:=List.length_filterMap_le (Jo aM) (j.map (·.2));rw[bg] at this;lia
def tbI(c:Int)(a x d:D)(j:Hp)(i:Nat)(f:St)(e:Hp):Prop:=∃b:List aN,(∃h g,f=[U (.int c),U (.ref a),U (.ref x),U (.ref d),h,g])/\aJ j e/\e d=U (.dT (sY b))/\b.length<=i/\∀r∈b,ca r.1.1=ah/\tw r.2=ah/\r.2≠0
theorem Ju{vs:List V}{_E:XK}(h:wY vs H Q _E) :
  Yh K t (sS Q) (L2.start ["cell","shelves","xs","found","k","worth"] vs) H:=by
 obtain⟨c,a,ws,rfl,h1,h2,q⟩:=h;refine⟨_,Y,c,10,Y,(),λx f H1 I fx hx ld od d hd=>?_⟩;have g1:=cA c (b:=6) ();have g2:=ck c (b:=6) ();have g:=sX (o:=HO.dT []) d hd;have S2:=I.trans g;have fd:=zJ I hd;refine⟨_,Y,_,_,Y,Y,by show (0:Int)<6;decide,c%6,Y,(),(),k8 (tbI c a x d H1) ⟨[],⟨_,_,Y⟩,g,zh,bp _,λ_ z=>nomatch z⟩ ?_ ?_⟩
 .rintro i σ G hi ⟨aM,⟨o1,o2,rfl⟩,s,M,hl,y⟩;rw[Int.zero_add];have lm:(f.map V.int).length=f.length:=bg ..;have n:aQ K G x (f.map V.int):=aQ.of (s _ _ hx);have C:=h1.same (I.trans s);have i6:i<6:=by lia
  have E:∀ {j:Nat},j<10->ub (f.map V.int) ((j:Nat):Int)=U (.int (f.getD j 0))/\okD (f.getD j 0):=λ{j} J=>by
   have J:j<f.length:=by lia
   have e:f.getD j 0=f[j]:=by rw[bD,bb J];rfl
   exact⟨yn (by rw[bA,bb J,e];rfl),by rw[e];exact od _ (dZ J)⟩
  obtain⟨e5,o5⟩:=E (j:=i+5) ();obtain⟨e0,o0⟩:=E (j:=i) ();generalize f.getD (i+5) 0=u at *
  generalize f.getD i 0=v at *
  refine⟨_,Y,_,Y,_,_,Y,Y,x,_,((i+5:Nat):Int),_,Y,Y,n,e5,u,Y,o5.1,o5.2,λw H2 hw g=>⟨_,Y,Y,_,Y,?_⟩⟩;by_cases w0:w=0
  .exact zV (by rw[w0];rfl) ⟨aM,⟨_,_,Y⟩,s.trans g,g _ _ M,(),y⟩
  refine ym (by rw[Bk (λz=>w0 (V.int.inj z))];rfl) ?_;obtain⟨N,ag,_,aa⟩:=zbu (C.same g) 2 h2 () v;have m:=n.mono g;refine⟨_,Y,_,Y,_,Y,_,Y,_,Y,x,_,i,_,Y,Y,m,e0,_,_,Y,Y,by show (0:Int)<2;decide,a,_,v%2,_,Y,Y,aQ.of (C.same g).1,ag,_,Y,_,Y,x,_,i,_,Y,Y,m,e0,_,_,Y,Y,dB,_,_,Y,Y,by show (0:Int)<3;decide,by show 2<=Bb;rw[bH];decide,λp hp=>?_⟩;have s5:=sX (o:=HO.tup [V.str N,V.int (v/2%3)]) p hp;have S5:=g.trans s5;have lD:=jp aM;refine⟨d,_,Y,DPut.t (k:=zC (N,v/2%3)) (S5 _ _ M) zh (bT (by lia:_<=900) ()),aM++[((N,v/2%3),w)],⟨_,_,Y⟩,xk (s.trans S5) hd,?_,by simp;lia,?_⟩
  .rw[Zc];exact zh
  .intro z hz;rcases bu.mp hz with hz|hz
   .exact y z hz
   .rw[bo.mp hz];exact⟨ZY aa,hw,λz=>w0 z⟩
 .rintro σ G ⟨aM,⟨o1,o2,rfl⟩,s,M,hl,y⟩;have lD:=jp aM;refine zjn (aM:=aM) Y Y M () (λp q0 w G A B hw _ a _=>ym (P:=A G) (R:=B G) Y (a (y _ (Jp hw)).2.2)) λl O H3 s3 ai ho T lo=>?_;have S:=I.trans s;exact q l O H3 (S.trans s3) (zJ S ai) ho T.1 (λr h=>y _ (Jp ((T.2 r.1 r.2).mp h).1)) ()
section
variable {F:D->Prop}{vs:List V}{rs:List Rw}
theorem zby:∀ {vs:List V} {rs:List Rw},Paired (pv F H) vs rs->sQ F H vs (hU.of rs)
 |_,_,.nil=>by unfold hU.of sQ;rfl
 |_,_,.cons a t=>by
  unfold hU.of sQ;exact⟨_,_,Y,a,zby t⟩
theorem zbz:∀ {rs:List Rw},(∀r∈rs,VR r)->Ze (hU.of rs)
 |[],_=>by unfold hU.of Ze;trivial
 |r::rs,h=>by
  unfold hU.of Ze;exact⟨h r bt,zbz λx a=>h x (br _ a)⟩
theorem zbA:∀ {rs:List Rw},(∀r∈rs,Zd r)->Ya (hU.of rs)
 |[],_=>by unfold hU.of Ya;trivial
 |r::rs,h=>by
  unfold hU.of Ya;exact⟨h r bt,zbA λx a=>h x (br _ a)⟩
theorem XD{n:Nat}:∀ {rs:List Rw},(∀r∈rs,r.deep<=n)->(hU.of rs).deep<=n
 |[],_=>by unfold hU.of;simp[hU.deep]
 |r::rs,h=>by
  unfold hU.of;have c:=h r bt;have b:=XD (rs:=rs) λx a=>h x (br _ a);simp only[hU.deep];lia
theorem Vm(h:Ja r):r.deep=0:=by
 cases r with
 |iff e a b=>exact absurd h (λz=>z)
 |take _ _ _=>simp[Rw.deep]
 |give _ _ _=>simp[Rw.deep]
 |lt _ _=>simp[Rw.deep]
 |say _=>simp[Rw.deep]
 |off _=>simp[Rw.deep]
theorem jM{c b:Type}{R:c->b->Prop}:∀ {e:List c} {d:List b} (k:Nat),Paired R e d->Paired R (e.take k) (d.take k)
 |_,_,0,_=>.nil
 |_,_,_+1,.nil=>.nil
 |_,_,k+1,.cons a t=>.cons a (jM k t)
theorem ZK{b a:Type}{R:b->a->Prop}:∀ {d:List b} {c:List a} (k:Nat),Paired R d c->Paired R (d.drop k) (c.drop k)
 |_,_,0,h=>h
 |_,_,_+1,.nil=>.nil
 |_,_,k+1,.cons _ t=>ZK k t
end
theorem zf0(a:List V)(n:Nat):vY a ak (U (n:Int))=a.take n:=by
 unfold vY;rw[HT.sIx_none,HT.sIx_nat,iO,rK];by_cases c:n<=a.length
 .rw[dI c]
 .rw[i7 (),cL (bp _),cL ()]
theorem ziL(a:List V)(n:Nat):vY a (U (n:Int)) ak=a.drop n:=by
 unfold vY;rw[HT.sIx_none,HT.sIx_nat];by_cases c:n<=a.length
 .rw[dI c];exact cL (by rw[cI];exact bp _)
 .rw[i7 (),nV (bp _),nV (),List.take_nil]
theorem zf1(a:List V)(k m:Nat)(c:k<=m)(b:m<=a.length):vY a (U (k:Int)) (U (m:Int))=(a.drop k).take (m-k):=by
 unfold vY;rw[HT.sIx_nat,HT.sIx_nat,dI b,dI (by lia:k<=a.length)]
section
variable {c:Int}{a b Bo X:D}{ds:List Int}{us ws:List Str}{vs:List V}{rs:List Rw}{Hb:Hp}
theorem Jv{e d:Type}{R:e->d->Prop}:∀ {g:List e} {f:List d} {us:List e} {vs:List d},Paired R g f->Paired R us vs->Paired R (g++us) (f++vs)
 |_,_,_,_,.nil,h=>h
 |_,_,_,_,.cons a t,h=>.cons a (Jv t h)
theorem zcy:∀ {rs:List Rw},(∀r∈rs,Ja r)->(hU.of rs).cnt<=rs.length
 |[],_=>by unfold hU.of;simp[hU.cnt]
 |r::rs,h=>by
  have g:=zcy (rs:=rs) λx d=>h x (br _ d);have f:=h r bt;unfold hU.of;cases r with
  |iff e a b=>exact absurd f (λz=>z)
  |take _ _ _=>simp only[hU.cnt,Rw.cnt,bU];lia
  |give _ _ _=>simp only[hU.cnt,Rw.cnt,bU];lia
  |lt _ _=>simp only[hU.cnt,Rw.cnt,bU];lia
  |say _=>simp only[hU.cnt,Rw.cnt,bU];lia
  |off _=>simp only[hU.cnt,Rw.cnt,bU];lia
def szX(r:Rw):Nat:=match r with|.iff _ a b=>a.cnt+b.cnt+3|_=>1
theorem zhn(h:Ja r):szX r=1:=by
 cases r with
 |iff e a b=>exact absurd h (λz=>z)
 |take _ _ _=>rfl
 |give _ _ _=>rfl
 |lt _ _=>rfl
 |say _=>rfl
 |off _=>rfl
theorem Vn:∀ {rs:List Rw},(∀r∈rs,Ja r)->(rs.map szX).sum=rs.length
 |[],_=>rfl
 |r::rs,h=>by
  rw[bx,cM,zhn (h r bt),Vn λx d=>h x (br _ d),bU];lia
theorem ziM(h:∀r∈rs,rwW r)(l:rs.length<=6):zg4 rs:=⟨bO (XD (n:=0) λr d=>by rw[Vm (h r d).nf];exact bp _) (),zbz λr d=>(h r d).pl,zbA λr d=>(h r d).ok,by
 have:=Vn λr d=>(h r d).nf;show (rs.map szX).sum<=11;lia⟩
theorem ziN{d:St}{f e:TE}{y:Int}{n:Nat}(i:∀Q:VK,Q (.int y) H->f d H Q)(h:∀Q:VK,Q (.int (n:Nat)) H->e d H Q)(g:0<n)(q:∀k:Nat,k<n->Q (.int (k:Nat)) H):aK aC f e d H Q:=i _ (h _ ⟨_,_,Y,Y,Int.ofNat_lt.mpr g,by
 have j:=cA y (b:=(n:Int)) ();have m:=ck y (b:=(n:Int)) ();obtain⟨k,l⟩:∃k:Nat,y%(n:Int)=k:=⟨(y%(n:Int)).toNat,(lS j).symm⟩;have z:=q k ();rw[<-l] at z;exact z⟩)
theorem zd9{o5 o6 o7:Option V}(E:H X=U (.lst (ds.map V.int)))(ld:ds.length=22)(od:∀d∈ds,okD d)(i:H Bo=U (.lst vs))(fL:Hb Bo=ak)(pr:Paired (pv (λb=>Hb b=ak) H) vs rs)(f:∀r∈rs,rwW r)(l6:rs.length<=6)(hw:sT H b ws)(lw:ws.length=2)(S:aJ Hb H) (q:∀l rs H',aJ Hb H'->RlAt (λb=>Hb b=ak) H' (.ref l) (hU.of rs)->zg4 rs->Q (.ref l) H') :
  jf K t (sS Q) [U (.int c),U (.ref a),U (.ref b),U (.ref X),U (.ref Bo),ak,ak,ak] H:=by
 have lv:=bL pr;have g:∀ {j:Nat},j<22->ub (ds.map V.int) ((j:Nat):Int)=U (.int (ds.getD j 0))/\okD (ds.getD j 0):=λ{j} A=>by
  have A:j<ds.length:=by lia
  have e:ds.getD j 0=ds[j]:=by rw[bD,bb A];rfl
  exact⟨yn (by rw[bA,bb A,e];rfl),by rw[e];exact od _ (dZ A)⟩
 unfold jf zo zR;refine⟨_,Y,_,_,Y,Y,dB,_,_,Y,Y,by show (0:Int)<3;decide,Y,_,Y,?_⟩;by_cases hc:c/7%3=0
 .refine ym (Bj (congrArg V.int hc)) ?_;refine ziN (n:=vs.length+1) (λ_ q=>Ka Y E (g (j:=18) ()).1 q) (λ_ q=>⟨_,Y,.ref Bo,vs.length,Y,.inl ⟨_,aQ.of i,Y⟩,_,_,Y,Y,q⟩) (Nat.succ_pos vs.length) λk hk=>?_;have hk:k<vs.length+1:=hk;refine⟨_,Y,ziN (n:=vs.length+1-k) (λ_ q=>Ka Y E (g (j:=21) ()).1 q) (λ_ q=>⟨_,Y,.ref Bo,vs.length,Y,.inl ⟨_,aQ.of i,Y⟩,_,_,Y,Y,_,Y,_,_,Y,Y,by rw[show ((vs.length+1-k:Nat):Int)=(vs.length:Int)+1-k by lia] at q;exact q⟩) () λm' hm=>⟨_,_,Y,Y,?_⟩⟩;obtain⟨m,em⟩:∃m,m=k+m':=⟨_,Y⟩;have km:k<=m:=by lia
  have ml:m<=vs.length:=by lia
  obtain⟨an,aa⟩:=g (j:=19) ();refine Ka Y E an ⟨_,Y,_,b,ws,Y,aa,hw,lw,λtp e H1 O ft ht te pe=>?_⟩;refine⟨_,Y,_,Y,k,Y,_,Y,(m:Int),by rw[em];rfl,Bo,vs,Y,aQ.of (O _ _ i),λp1 v=>?_⟩;rw[zf1 vs k m km ml];generalize c_:upd H1 p1 _=H2;obtain⟨s2,g2⟩:=xc c_ v;have G:=O.trans s2;refine⟨_,Y,?_⟩;refine ziN (n:=3) (λ_ q=>Ka Y (G _ _ E) (g (j:=20) ()).1 q) (λ_ q=>q) () λj f6=>?_;refine⟨_,Y,Bo,vs,Y,aQ.of (G _ _ i),λp2 u=>?_⟩;rw[zf0];generalize c_:upd H2 p2 _=H3;obtain⟨N,g3⟩:=xc c_ u;refine⟨by show 4<=Bb;rw[bH];decide,λT p=>?_⟩;generalize c_:upd H3 T _=H4;obtain⟨y,g4⟩:=xc c_ p;have S3:=G.trans N;have S4:=S3.trans y;refine⟨_,Y,_,Y,k,Y,Bo,vs,Y,aQ.of (S4 _ _ i),λp3 al=>?_⟩;rw[zf0];generalize c_:upd H4 p3 _=H5;obtain⟨s5,g5⟩:=xc c_ al;refine⟨_,Y,by show 1<=Bb;rw[bH];decide,λp4 aj=>?_⟩;generalize c_:upd H5 p4 _=H6;obtain⟨M,g6⟩:=xc c_ aj;refine⟨_,_,_,_,Y,Y,M _ _ g5,g6,bO (by rw[cB];show min k vs.length+1<=110;lia:_<=110) (),λp5 ai=>?_⟩;generalize c_:upd H6 p5 _=H7;obtain⟨s7,g7⟩:=xc c_ ai;have S7:=S4.trans (s5.trans (M.trans s7));refine⟨_,Y,_,Y,(m:Int),by rw[em];rfl,Bo,vs,Y,aQ.of (S7 _ _ i),λp6 ag=>?_⟩;rw[ziL];generalize c_:upd H7 p6 _=H8;obtain⟨J,g8⟩:=xc c_ ag;refine⟨_,_,_,_,Y,Y,J _ _ g7,g8,bO (by rw[bC,cB,cI];show min k vs.length+1+(vs.length-m)<=110;lia:_<=110) (),λp7 s=>?_⟩;generalize c_:upd H8 p7 _=H9;obtain⟨s9,g9⟩:=xc c_ s;refine⟨_,Y,?_⟩;have w:=s5.trans (M.trans (s7.trans (J.trans s9)));have S9:=S4.trans w;have P:=Paired.mapP pr λ_ r z=>pv.mono S9 z;have B:∀ {n:Nat} {x:Rw},x∈rs.take n->x∈rs:=λh=>dH h;have C:∀ {x:Rw},x∈(rs.drop k).take (m-k)->x∈rs:=λh=>c9 (dH h);have I:pv (λb=>Hb b=ak) H9 (.ref T) (.iff e (hU.of ((rs.drop k).take (m-k))) (hU.of (rs.take j))):=by
   unfold pv;exact⟨T,tp,p1,p2,_,_,Y,zJ (S.trans S3) p,zJ S ft,zJ (S.trans O) v,zJ (S.trans G) u,w _ _ g4,(s2.trans (N.trans (y.trans w))) _ _ ht,(N.trans (y.trans w)) _ _ g2,zby (jM _ (ZK _ P)),(y.trans w) _ _ g3,zby (jM _ P)⟩
  have o:∀x∈rs.take k++[.iff e (hU.of ((rs.drop k).take (m-k))) (hU.of (rs.take j))]++rs.drop m,x∈rs\/x=.iff e (hU.of ((rs.drop k).take (m-k))) (hU.of (rs.take j)):=λx hx=>by
   rcases bu.mp hx with hx|hx
   .rcases bu.mp hx with hx|hx
    .exact .inl (B hx)
    .exact .inr (bo.mp hx)
   .exact .inl (c9 hx)
  have ip:VR (.iff e (hU.of ((rs.drop k).take (m-k))) (hU.of (rs.take j))):=by
   unfold VR;exact⟨pe,zbz λx hx=>(f x (C hx)).pl,zbz λx hx=>(f x (B hx)).pl⟩
  have io:Zd (.iff e (hU.of ((rs.drop k).take (m-k))) (hU.of (rs.take j))):=by
   unfold Zd;exact⟨te,zbA λx hx=>(f x (C hx)).ok,zbA λx hx=>(f x (B hx)).ok⟩
  have dp:Rw.deep (.iff e (hU.of ((rs.drop k).take (m-k))) (hU.of (rs.take j)))<=1:=by
   have a1:=XD (n:=0) (rs:=(rs.drop k).take (m-k)) λx hx=>by rw[Vm (f x (C hx)).nf];exact bp _
   have a2:=XD (n:=0) (rs:=rs.take j) λx hx=>by rw[Vm (f x (B hx)).nf];exact bp _
   simp only[Rw.deep];lia
  refine q p7 (rs.take k++[.iff e (hU.of ((rs.drop k).take (m-k))) (hU.of (rs.take j))]++rs.drop m) H9 (S.trans S9) ⟨p7,_,Y,zJ (S.trans (S7.trans J)) s,g9,zby (Jv (Jv (jM _ P) (.cons I .nil)) (ZK _ P))⟩ ⟨XD λx hx=>?_,zbz λx hx=>?_,zbA λx hx=>?_,?_⟩
  .rcases o x hx with h|rfl
   .rw[Vm (f x h).nf];exact bS _
   .exact dp
  .rcases o x hx with h|rfl
   .exact(f x h).pl
   .exact ip
  .rcases o x hx with h|rfl
   .exact(f x h).ok
   .exact io
  .show ((rs.take k++[Rw.iff e (hU.of ((rs.drop k).take (m-k))) (hU.of (rs.take j))]++rs.drop m).map szX).sum<=11;rw[bR,bR,sF,sF,Vn λx hx=>(f x (B hx)).nf,Vn λx hx=>(f x (c9 hx)).nf];have c1:=zcy (rs:=(rs.drop k).take (m-k)) λx hx=>(f x (C hx)).nf;have c2:=zcy (rs:=rs.take j) λx hx=>(f x (B hx)).nf;rw[cB,cI] at c1;rw[cB] at c2;rw[cB,cI];show min k rs.length+((hU.of ((rs.drop k).take (m-k))).cnt+(hU.of (rs.take j)).cnt+3+0)+(rs.length-m)<=11;lia
 .exact zV (Bk (λz=>hc (V.int.inj z))) ⟨_,Y,q Bo rs H S ⟨Bo,vs,Y,fL,i,zby pr⟩ (ziM f l6)⟩
def cRw(e:D)(Hb:Hp)(i:Nat)(d:List V)(H:Hp):Prop:=∃rs:List Rw,Paired (pv (λb=>Hb b=ak/\b≠e) H) d rs/\(∀r∈rs,rwW r)/\rs.length=i
theorem Kd{vs:List V}{_E:XK}(h:vR vs H Q _E) :
  Xw K t (sS Q) (L2.start ["cell","shelves","slots","xs","rows","at","to","row"] vs) H:=by
 obtain⟨c,a,b,us,ws,rfl,h1,h2,N,M,q⟩:=h;refine⟨_,Y,_,22,Y,(),λX ds H1 m fX G ld B=>?_⟩;unfold zo zO zt;refine Q9 (σ:=[U (.int c),U (.ref a),U (.ref b),U (.ref X),ak,ak,ak,ak]) (te:=Z 0) (n:=7) (λ_ q=>⟨_,Y,q⟩) () λk g1 g2=>?_;refine⟨_,Y,(),(),λBp I=>?_⟩;have fD:=zJ m I;refine zd7 (J:=Itr 0 (k).toNat) (k).toNat () (λw=>∃o,w=[o,U (.ref X),U (.ref a),U (.ref b)]) (cRw Bp H) (λi y H2 H' s ⟨rs,T,O⟩=>⟨rs,Paired.mapP T λ_ r z=>z.to r (λ_ _ f _=>f) (λb o f e=>s b o f.2 e),O⟩) ⟨_,Y⟩ ⟨[],.nil,(λr z=>nomatch z),Y⟩ (λi H _ h=>h) (λH _=>bp _) I ?_ ?_
 .rintro i v w y H4 H5 ⟨o,rfl⟩ g hi ⟨rs,u,l,E⟩ hy ⟨rfl,rfl⟩;rw[Int.zero_add];have C:CMulB 3 i:=mS () () () ();refine⟨_,Y,_,Y,_,_,Y,Y,C,_,Y,_,Y,_,_,Y,Y,C,_,_,Y,Y,_,Y,_,_,Y,aQ.of (g _ _ G),λp hp=>?_⟩;have e1:3*(i:Int)=((3*i:Nat):Int):=by lia
  have e2:3*(i:Int)+3=((3*i+3:Nat):Int):=by lia
  rw[e2,e1,zf1 _ _ _ () (by rw[bg];lia),<-nG,<-nH];have le:((ds.drop (3*i)).take (3*i+3-3*i)).length=3:=by rw[cB,cI];lia
  have oe:∀d∈(ds.drop (3*i)).take (3*i+3-3*i),okD d:=λd hd=>B d (c9 (dH hd));generalize (ds.drop (3*i)).take (3*i+3-3*i)=es at *
  have j:=sX (o:=HO.lst (es.map V.int)) p hp;have S:=m.trans (g.trans j);have ne:∀ {b},upd H5 p (HO.lst (es.map V.int)) b=ak->b≠Bp:=λ{b} e z=>by rw[z,j _ _ hy] at e;cases e
  refine⟨_,Y,_,Y,p,_,_,es,us,ws,Y,zh,le,oe,h1.same S,h2,N.same S,M,λv r H6 A hr hw=>⟨⟨_,Y⟩,⟨rs++[r],Paired.snocP (Paired.mapP u λ_ _ z=>z.mono (j.trans A)) (hr.to r (λb o f _=>⟨zJ S f,ne f⟩) λb o _ e=>e),λx hx=>?_,by rw[bC,E];rfl⟩,j.trans A⟩⟩;rcases bu.mp hx with hx|hx
  .exact l x hx
  .rw[bo.mp hx];exact hw
 .rintro y H4 aa ⟨rs,u,l,E⟩ g hq;have S:=m.trans g;exact zd9 (t:=t) (o5:=ak) (o6:=ak) (o7:=ak) (g _ _ G) ld B hq fD (Paired.mapP u λ_ r z=>z.to r (λ_ _ f _=>f.1) λb o _ e=>e) l () (N.same S) M S q
end
theorem zf2{s:aY}{a:List aN}(h:qW s a):(a.map (·.1)).Nodup:=by
 unfold qW at h;split at h
 .rw[h];exact cz
 .exact h.1.nd
section
variable {β:Type}{R R':Int->V->β->Prop}{kv:List (aU×V)}{l:List (Int×β)}{h:Int}{b:β}{v:V}
theorem aV{e:Int×β}:e∈yg l h↔e∈l/\e.1≠h:=by unfold yg;rw[b8,decide_eq_true_eq]
theorem Pk.get(p:Pk R kv l):(yf kv (.inl h)=ak/\h ∉ l.map (·.1))\/∃v b,yf kv (.inl h)=U v/\(h,b)∈l/\R h v b:=by
 unfold Pk at p;induction p with
 |nil=>exact .inl ⟨zaE,λz=>nomatch z⟩
 |@cons x e kv l hd tl ih =>
  by_cases c:e.1=h
  .subst c;exact .inr ⟨x.2,e.2,yR hd.1,bt,hd.2⟩
  .have n:¬ x.1=.inl h:=by rw[hd.1];exact λz=>c (lF z)
   rw[yS n,bx,bE];exact ih.imp (λz=>⟨z.1,λy=>y.elim (λy=>c y.symm) z.2⟩) λ⟨v,b,f,d,a⟩=>⟨v,b,f,br _ d,a⟩
theorem Pk.drop(p:Pk R kv l):Pk R (yz kv (.inl h)) (yg l h):=by
 unfold Pk at p;induction p with
 |nil=>exact .nil
 |@cons x e kv l hd tl ih =>
  by_cases c:e.1=h
  .rw[KI (hd.1.trans (congrArg _ c)),yg,dC,am (by rw[decide_eq_true_eq];exact λz=>z c)];exact ih
  .rw[XZ (by rw[hd.1];exact λz=>c (lF z)),yg,dC,ap (Bj c)];exact .cons hd ih
theorem Pk.put(p:Pk R kv l)(n:h ∉ l.map (·.1))(r:R h v b):Pk R (yJ kv (.inl h) v) (l++[(h,b)]):=by
 rcases p.get (h:=h) with ⟨e,_⟩|⟨v,b,_,m,_⟩
 .rw[ve _ e];exact Paired.snocP p ⟨Y,r⟩
 .exact absurd (bq (f:=λe:Int×β=>e.1) m) n
theorem Pk.set(p:Pk R kv l)(d:(l.map (·.1)).Nodup)(f:∀k v a,(k,a)∈l->k≠h->R k v a->R' k v a)(g:∀v,yf kv (.inl h)=U v->R' h v b):Pk R' kv (Z3 l h b):=by
 unfold Pk at p;induction p with
 |nil=>exact .nil
 |@cons x e kv l hd tl ih =>
  rw[bx,bX] at d;have i:=λk v a m=>f k v a (br e m);by_cases c:e.1=h
  .refine .cons ?_ (ih d.2 i λv z=>?_)
   .dsimp only;rw[ap c];subst c;exact⟨hd.1,g _ (yR hd.1)⟩
   .rcases Pk.get (R:=R) tl (h:=h) with ⟨y,_⟩|⟨_,a,_,m,_⟩
    .rw[y] at z;cases z
    .exact absurd (bq (f:=λe:Int×β=>e.1) m) (by rw[<-c];exact d.1)
  .refine .cons ?_ (ih d.2 i λv z=>g v ((yS (by rw[hd.1];exact λz=>c (lF z))).trans z));dsimp only;rw[am c];exact⟨hd.1,f _ _ _ bt c hd.2⟩
end
theorem dkF{P:Str->Option ae}(T:Txt K P t):DkF K t:=⟨T.q0e,T.q0j,T.q11,T.q29,T.q2e,T.q28,T.q26,T.q2d,T.q2a,T.q2c,T.q2b,T.q27,T.q2h,T.q2g,T.q2i,T.q2f,T.q2u⟩
section
variable {H':Hp}{lb lb':D->Nat}{Bo L':List (D×HO)}{m re b:D}{g:List aN}{lays:List (Int×List aN)}{P:Pl->Int->Prop}{cs:List V}{CC:List (List Cs)}{n ac:Int}{la:List (aU×V)}{o o' wo:HO}{i:Nat}{r:D}{no gi:List aN}{ld:List (Int×aY×List aN)}{s:aY}{M:Nat->Prop}
theorem uc.of(s:aJ H H'):uc H H':=λ_ _ e=>s _ _ e
theorem tj.at(h:tj t H lb Bo m re g lays P cs CC)(e:Bo[i]?=U (b,o)):H b=U o:=(h.ob i b o e).1
theorem tj.lb_(h:tj t H lb Bo m re g lays P cs CC)(e:Bo[i]?=U (b,o)):lb b=i+1:=(h.ob i b o e).2
theorem tj.core2{p:Pl->Int->Prop}(h:tj t H lb Bo m re g lays P cs CC)(e:∀b,lb b≠0->lb' b=lb b)(l:∀b,lb b=0->lb' b=0\/lb' b=11/\∃o,H' b=U o)(ob:∀i b o,L'[i]?=U (b,o)->H' b=U o/\lb b=i+1)(k:∀b o,lb b=10\/lb b=13->H b=U o->H' b=U o)(rr:∃kk,sU H' re (λb=>lb' b=11) p kk)(j:uc H H')(G:∀b o,H b=U o->∃o',H' b=U o'):tj t H' lb' L' m re g lays p cs CC:=by
 have f:(λb=>lb' b=10)=λb=>lb b=10:=funext λb=>propext (by
  rcases mz (lb b) with z|z
  .rcases l b z with y|⟨y,_⟩ <;> rw[y,z] <;> decide
  .rw[e b ()])
 refine⟨λi b o z=>?_,by rw[f];exact h.ms.keep (λb o E e=>k b o (.inl E) e) j,rr,(e _ (by rw[h.rl];decide)).trans h.rl,Paired.mapP h.cc λv C ⟨⟨c,q,a,w,u⟩,d⟩=>⟨⟨c,q,a,k c _ (.inr (d c a)) w,xO j u⟩,λc a=>(e c (by rw[d c a];decide)).trans (d c a)⟩,λb x=>?_⟩
 .obtain⟨B,A⟩:=ob i b o z;exact⟨B,(e b ()).trans A⟩
 .rcases mz (lb b) with z|z
  .rcases l b z with y|⟨_,y⟩
   .exact absurd y x
   .exact y
  .obtain⟨o,z⟩:=h.ow b ();exact G b o z
theorem tj.core(h:tj t H lb Bo m re g lays P cs CC)(ob:∀i b o,L'[i]?=U (b,o)->H' b=U o/\lb b=i+1)(k:∀b o,10<=lb b->lb b<14->H b=U o->H' b=U o)(d:uc H H')(f:∀b o,H b=U o->∃o',H' b=U o'):tj t H' lb L' m re g lays P cs CC :=
 h.core2 (λ_ _=>rfl) (λ_=>.inl) ob (λb o z e=>k b o () () e) (let ⟨kk,z⟩:=h.rr;⟨kk,z.keep h.rl (λb o a e=>k b o (by rw[a];decide) (by rw[a];decide) e) λ_ z=>z⟩) d f
open Classical in
theorem tj.regrow{j:Pl->Int->Prop}(h:tj t H lb Bo m re g lays P cs CC)(I:Bo.length=9)(k:mt (λb=>lb b=11\/H b=ak) re H H')(B:Dm H H')(rr:sU H' re (λb=>lb b=11\/H b=ak) j kk):∃lb',Fr M1 H H' lb lb'/\tj t H' lb' Bo m re g lays j cs CC:=by
 have a:∀b o,lb b≠11->H b=U o->H' b=U o:=λb o z e=>k b o e (λy=>z (by rw[y];exact h.rl)) (.inr λy=>y.elim z λy=>by rw[e] at y;cases y);obtain⟨q,l⟩:=h.rr;have d:uc H H':=λb E e=>k b _ e (zM e l.at_ ()) (.inl λ_ z=>nomatch z);have f:∀b o,H b=U o->∃o',H' b=U o':=λb o e=>let ⟨o',z,_⟩:=B b o e;⟨o',z⟩
 have p:∀b,lb b≠0->H b≠ak:=λb z y=>by obtain⟨o,e⟩:=h.ow b z;rw[y] at e;cases e
 refine⟨λb=>if H b=ak/\∃o,H' b=U o then 11 else lb b,⟨λb o e=>am (λz=>by rw[z.1] at e;cases e),λb o z e=>a b o (by unfold M1 at z;lia) e,d,f⟩,h.core2 (λb z=>am λy=>p b z y.1) (λb z=>?_) (λi b o z=>?_) (λb o z e=>a b o () e) ⟨kk,rr.keep2 Y (λb G _ e=>e) λb A z=>?_⟩ d f⟩
 .by_cases y:H b=ak/\∃o,H' b=U o
  .exact .inr ⟨ap y,y.2⟩
  .exact .inl ((am y).trans z)
 .obtain⟨x,u⟩:=h.ob i b o z;have:=(bn.mp z).1;exact⟨a b o () x,u⟩
 .by_cases y:H b=ak/\∃o,H' b=U o
  .exact ap y
  .exact(am y).trans (A.resolve_right λw=>y ⟨w,z⟩)
theorem tj.keep(h:tj t H lb Bo m re g lays P cs CC)(l:Bo.length=9)(k:∀b o,lb b≠0->lb b<14->H b=U o->H' b=U o)(f:uc H H')(j:∀b o,H b=U o->∃o',H' b=U o'):tj t H' lb Bo m re g lays P cs CC :=
 h.core (λi b o e=>by
  obtain⟨d,a⟩:=h.ob i b o e;have:=(bn.mp e).1;exact⟨k b o () () d,a⟩) (λb o d a e=>k b o () a e) f j
theorem tj.same(h:tj t H lb Bo m re g lays P cs CC)(a:Bo.length=9)(s:aJ H H'):tj t H' lb Bo m re g lays P cs CC:=h.keep a (λb o _ _ e=>s _ _ e) (uc.of s) λb o e=>⟨o,s _ _ e⟩
theorem Wa:∀a u,H a=U u->∃u',upd H b o a=U u':=λa u e=>by
 by_cases c:a=b
 .exact⟨o,by rw[c];exact zh⟩
 .exact⟨u,by rw[zi c];exact e⟩
theorem vA(e:H b=U o)(n:∀c,o≠.tup c):uc H (upd H b o'):=λf d a=>by rw[zi (zM a e (λz=>n d z.symm))];exact a
theorem tj.put(h:tj t H lb Bo m re g lays P cs CC)(w:Bo.length=9)(e:Bo[i]?=U (b,o))(n:∀p,o≠.tup p):tj t (upd H b o') lb (Bo.set i (b,o')) m re g lays P cs CC:=by
 have x:=(bn.mp e).1;obtain⟨u,q⟩:=h.ob i b o e;refine h.core (λj l k a=>?_) (λl k f d a=>?_) (vA u n) Wa
 .rw[List.getElem?_set] at a;by_cases c:i=j
  .rw[ap c,ap ()] at a;cases a;exact⟨zh,()⟩
  .rw[am c] at a;obtain⟨f,d⟩:=h.ob j l k a;exact⟨by rw[zi (λz=>by rw[z] at d;lia)];exact f,d⟩
 .rw[zi (λz=>by rw[z] at f;lia)];exact a
theorem Fr.mono{a:Nat->Prop}(h:Fr M H H' lb lb')(k:∀l,a l->M l):Fr a H H' lb lb':=⟨h.ex,λb o z e=>h.kp b o (k _ z) e,h.ts,h.al⟩
theorem Fr.m0(h:Fr M1 H H' lb lb'):Fr M0 H H' lb lb':=h.mono λl z=>z.imp id λy=>by lia
theorem Fr.same(s:aJ H H'):Fr M H H' lb lb:=⟨λ_ _ _=>rfl,λ_ _ _ e=>s _ _ e,λ_ _ e=>s _ _ e,λ_ o e=>⟨o,s _ _ e⟩⟩
theorem Fr.trans{a:Hp}{lb2:D->Nat}(h:Fr M H H' lb lb')(k:Fr M H' a lb' lb2):Fr M H a lb lb2 :=
 ⟨λb o e=>let ⟨o',e'⟩:=h.al b o e;(k.ex b o' e').trans (h.ex b o e),λb o z e=>k.kp b o (by rw[h.ex b o e];exact z) (h.kp b o z e),λb zs e=>k.ts b zs (h.ts b zs e),λb o e=>let ⟨o',e'⟩:=h.al b o e;k.al b o' e'⟩
theorem tj.fput(h:tj t H lb Bo m re g lays P cs CC)(e:Bo[i]?=U (b,o))(n:∀a,o≠.tup a)(f:i<9:=by lia):Fr M1 H (upd H b o') lb lb:=by
 have l:=h.lb_ e;exact⟨λ_ _ _=>rfl,λj u z d=>by rw[zi (λy=>by rw[y,l] at z;unfold M1 at z;lia)];exact d,vA (h.at e) n,Wa⟩
theorem zhS(h:tq H l aM)(F:Fr M H H' lb lb')(k:M 14)(z:lb l=14):tq H' l aM:=by
 obtain⟨a,c,d⟩:=h;exact⟨a,F.kp _ _ (by rw[z];exact k) c,Paired.mapP d λ_ _ y=>L2.PrAt.tsame y F.ts⟩
theorem tT.fr(h:tT H lb r s gi)(F:Fr M H H' lb lb')(k:M 14):tT H' lb' r s gi:=by
 obtain⟨o,nl,gl,e,j,f,d,c,a⟩:=h;obtain⟨u,p,w⟩:=id f;obtain⟨q,l,v⟩:=id d;exact⟨o,nl,gl,F.ts _ _ e,zji j F.ts,zhS f F k c,zhS d F k a,(F.ex _ _ p).trans c,(F.ex _ _ l).trans a⟩
theorem wI(h:Pk (YM H lb) la ld)(F:Fr M H H' lb lb')(k:M 14):Pk (YM H' lb') la ld:=Paired.mapP h λ_ _ ⟨e,r,c,a⟩=>⟨e,r,c,a.fr F k⟩
theorem EnI.fr(h:EnI H lb en n0 es)(F:Fr M H H' lb lb')(k:M 14):EnI H' lb' en n0 es:=⟨h.le,Paired.mapP h.ps λ_ _ ⟨r,c,a⟩=>⟨r,c,a.fr F k⟩⟩
theorem tj.out(h:tj t H lb Bo m re g lays P cs CC)(e:H b=ak):lb b=0:=fJ λz=>by obtain⟨o,y⟩:=h.ow b z;rw[e] at y;cases y
theorem ZL{C:List V}{_E:XK}(J:MkF K t)(h:xh t C H Q _E) :
  vG K t (sS Q) (L2.start ["self","place","rank","ranks","above"] C) H:=by
 obtain⟨m,p,ac,F,g,lays,w,rfl,G,h2,q⟩:=h;obtain⟨dx,gr,wo,rk,wk,T,M⟩:=tL.ex G;refine(ye M.im J.cl J.r Y zhh ⟨rk,Y,.inr ⟨_,.inl M.rr.at_⟩,_,Y,(),λl hl=>?_⟩);generalize c_:upd H l _=H2;obtain⟨j,O⟩:=xc c_ hl;have M2:=M.keep G.me λb o _ e=>j _ _ e;refine⟨_,.t M2.rr.at_ (j _ _ h2),?_⟩;have go:∃(c:D) (a:List Int),((yf T (zC w)).getD (.ref l))=.ref c/\H2 c=U (.lst (a.map V.int))/\a.Pairwise (· < ·)/\∀r,r∈a↔v5 lays w r:=by
  rcases M2.rr.get w with ⟨c,a,hk,hv,fa,u,d,hne,f⟩|⟨hv,_,no⟩
  .exact⟨c,a,by rw[hv];rfl,u,d,f⟩
  .exact⟨l,[],by rw[hv];rfl,O,fP,λr=>⟨(),λz=>absurd z (no r)⟩⟩
 obtain⟨c,a,ev,u,d,f⟩:=go;rw[ev];refine⟨_,Y,_,Y,_,_,Y,Y,c,a,_,Y,u,d,λk N v hk E k2=>?_⟩;have I:=v _ _ u;refine⟨_,Y,_,Y,.ref c,a.length,Y,.inl ⟨_,aQ.of I,(bg ..).symm⟩,Y,_,Y,?_⟩;by_cases z:k=a.length
 .exact ym (Bj (by rw[z])) (q _ N (j.trans v) (.inl ⟨Y,λr A=>by
   have:=E r (by rw[z,cx];exact(f r).mpr A);lia⟩))
 .refine zV (Bk (λy=>z (by injection y with y;lia))) ?_;have x:k<a.length:=by lia
  have B:a.drop k=a[k]::a.drop (k+1):=gR x;refine⟨_,Y,_,Y,c,_,k,_,Y,Y,aQ.of I,yn (by rw[bA,bb x];rfl),q _ N (j.trans v) (.inr ⟨a[k],Y,(f _).mp (dZ x),?_,λr A h=>?_⟩)⟩
  .have:=k2 a[k] (by rw[B];exact bt);lia
  .have m:=(f r).mpr A;rw[<-cV k a] at m;rcases bu.mp m with m|m
   .have:=E r m;lia
   .rw[B] at m;rcases bE.mp m with m|m
    .lia
    .rw[<-cV k a,B] at d;exact oF (mF (List.pairwise_append.mp d).2.1 m)
end
section
variable {H':Hp}{lb:D->Nat}{Bo:List (D×HO)}{d b:D}{a:tW}{g:List aN}{lays:List (Int×List aN)}{P:Pl->Int->Prop}{cs en:List V}{CC:List (List Cs)}{n f ac:Int}{ws db:List Int}{kv la:List (aU×V)}{o o' wo:HO}{i:Nat}{r:D}{no gi:List aN}{ld:List (Int×aY×List aN)}{s:aY}
theorem ziO(x:Int):∃h,yJ (dbL db) (.inl x) (.bl ah)=dbL h/\(db.Nodup->h.Nodup)/\∀y,y∈h↔y∈db\/y=x:=by
 by_cases c:x∈db
 .refine⟨db,?_,id,λy=>⟨.inl,λz=>z.elim id λz=>by rw[z];exact c⟩⟩;unfold yJ;rw[ap (gT.mpr ⟨(.inl x,.bl ah),bq (f:=λr=>((.inl r:aU),V.bl ah)) c,Bj Y⟩)];refine(dy λkv m=>?_).trans (List.map_id _);obtain⟨y,_,rfl⟩:=bB.mp m;split <;> rfl
 .refine⟨db++[x],?_,λk=>?_,λy=>by rw[bu,bo]⟩
  .rw[ve _ (Jn λz=>?_)]
   .unfold dbL;rw[bR];rfl
   rw[dbL,dA] at z;obtain⟨y,j,e⟩:=bB.mp z;exact c (by rw[<-lF e];exact j)
  .refine cQ.mpr ⟨k,by simp,λy j z l e=>c ?_⟩;rw[<-bo.mp l,<-e];exact j
theorem zdo(x:Int):yz (dbL db) (.inl x)=dbL (db.filter λy=>decide (y≠x)):=by
 unfold yz dbL;rw[List.filter_map];congr 1;refine List.filter_congr λy _=>?_;show decide ((gh y:aU)≠.inl x)=decide (y≠x);simp
theorem zf3{x:Int}(h:x∈db):yf (dbL db) (.inl x)=U (.bl ah):=by
 cases e:yf (dbL db) (.inl x) with
 |none =>
  refine absurd ?_ (zaM e);rw[dbL,dA];exact bq (f:=λy:Int=>(gh y:aU)) h
 |some v =>
  obtain⟨p,c,rfl⟩:=zeV e;obtain⟨y,_,rfl⟩:=bB.mp c;rfl
theorem DbOk.len(h:DbOk ld db):db.length<=ld.length:=by
 have:=wj h.nd h.su
 rwa [bg] at this
theorem zho{c e:Option Int}(h:x∈vY xs c e):x∈xs:=c9 (dH h)
theorem tj.dbt(x:Int)(h:tj t H lb (tZ t d a n f wo cs ws kv la db en) a.mks a.re g lays P cs CC)(l:db.length<=100):∃H' j,DPut H a.db (.int x) (.bl ah) H'/\Fr M1 H H' lb lb/\tj t H' lb (tZ t d a n f wo cs ws kv la j en) a.mks a.re g lays P cs CC/\(db.Nodup->j.Nodup)/\(∀y,y∈j↔y∈db\/y=x)/\∀b o,b≠a.db->H b=U o->H' b=U o:=by
 obtain⟨j,e,p,q⟩:=ziO (db:=db) x;have u:=h.put (i:=7) (o':=.dK (dbL j)) Y Y ();have w:=h.fput (i:=7) (o':=.dK (dbL j)) Y ();have z:=DPut.k (k:=.inl x) (v:=.bl ah) (h.at (i:=7) Y) (by rw[bH];unfold dbL;rw[bg];lia);rw[e] at z;exact⟨_,j,z,w,u,p,q,λb o z e=>by rw[zi z];exact e⟩
theorem Jw{c p:D}{l:List Int}{k:Nat}{v4:V}(Bp:DkF K t)(h:tj t H lb (tZ t d a n f wo cs ws kv la db en) a.mks a.re g lays (tO ld) cs CC)(hd:DbOk ld db)(ai:ld.length<=10)(hc:H c=U (.lst (l.map V.int)))(hs:l.Pairwise (· < ·)){R:Int->Prop}(G:∀r∈l,r∈ld.map (·.1))(kt:∀r∈l,ac<r->R r->r∈l.take k)(q:∀H' j,Fr M1 H H' lb lb->tj t H' lb (tZ t d a n f wo cs ws kv la j en) a.mks a.re g lays (tO ld) cs CC->DbOk ld j->(∀y∈db,y∈j)->(∀r∈l,ac<r->R r->r∈j)->Q .non H') :
  qN K t (sS Q) [U (.ref a.jb),U (.ref p),U (.int ac),U (.ref c),U v4,U (.int k),ak] H:=by
 refine⟨_,Y,_,Y,_,Y,_,_,Y,Y,c,l,_,Y,hc,hs,λv H1 T _ t1 _=>⟨v,Y,_,Y,k,Y,c,_,Y,aQ.of (T _ _ hc),λz hz=>?_⟩⟩;have cm:∀x∈vY (l.map V.int) (U (v:Int)) (U (k:Int)),∃y∈l,V.int y=x:=λx hx=>bB.mp (zho hx);have cu:∀r∈l,ac<r->R r->V.int r∈vY (l.map V.int) (U (v:Int)) (U (k:Int)):=λr G lt hR=>by
  obtain⟨m,C⟩:=cy (kt r G lt hR);rw[dq] at C;split at C
  .rename_i mk;have ml:=(bn.mp C).1;have m1:v<=m:=rS λz=>by
    have:=t1 r (bN (show (l.take v)[m]?=U r by rw[dq,ap z];exact C));lia
   have e1:HT.sIx (l.map V.int).length 0 (U (v:Int))=min v (l.map V.int).length:=HT.sIx_nat ..;have N:HT.sIx (l.map V.int).length (l.map V.int).length (U (k:Int))=min k (l.map V.int).length:=HT.sIx_nat ..;unfold vY;rw[e1,N,bg];refine bN (i:=m-min v l.length) ?_;rw[dq,ap (),mq,show min v l.length+(m-min v l.length)=m by lia,bA,C];rfl
  .cases C
 generalize vY (l.map V.int) (U (v:Int)) (U (k:Int))=ys at *
 have h1:=h.same Y T;generalize c_:upd H1 z _=H2;obtain⟨s2,N⟩:=xc c_ hz;refine⟨z,Y,⟨_,aQ.of N⟩,yM ys (λi J H'=>(∃o6,J=[U (.ref a.jb),U (.ref p),U (.int ac),U (.ref c),U v4,U (.int k),o6])/\H' z=U (.lst ys)/\Fr M1 H H' lb lb/\∃j,tj t H' lb (tZ t d a n f wo cs ws kv la j en) a.mks a.re g lays (tO ld) cs CC/\DbOk ld j/\(∀y∈db,y∈j)/\∀x,V.int x∈ys.take i->x∈j) ⟨⟨_,Y⟩,N,Fr.same (T.trans s2),db,h1.same Y s2,hd,λ_ z=>z,λ_ z=>nomatch z⟩ (λi J H' ⟨_,z,_⟩=>aQ.of z) ?_ ?_⟩
 .rintro i u J H' hu ⟨⟨o6,rfl⟩,E,F,j,I,w,O,M⟩;obtain⟨x,hx,rfl⟩:=cm u (bN hu);have ll:=w.len;obtain⟨H4,ag,dp,F4,h4,aa,A,k4⟩:=I.dbt x ();exact ye (I.at (i:=2) Y) Bp.cJ Bp.j4 Y Y ⟨_,Y,a.db,H4,Y,dp,⟨_,Y⟩,k4 _ _ (zM E (I.at (i:=7) Y) ()) E,F.trans F4,ag,h4,⟨aa w.nd,λy B=>((A y).mp B).elim (w.su y) λe=>by rw[e];exact G x hx⟩,λy B=>(A y).mpr (.inl (O y B)),λy B=>(A y).mpr (by
   rw[cH,hu] at B;rcases bu.mp B with z|z
   .exact .inl (M y z)
   .exact .inr (V.int.inj (bo.mp z)))⟩
 .rintro J H' ⟨_,_,F,j,I,w,O,M⟩;rw[cx] at M;exact q H' j F I w O λr G lt hR=>M r (cu r G lt hR)
theorem Jx{p:D}{u:Pl}(B:DkF K t)(h:tj t H lb (tZ t d a n f wo cs ws kv la db en) a.mks a.re g lays (tO ld) cs CC)(hd:DbOk ld db)(C:ld.length<=10)(hp:H p=U (.tup ((zC u).map kV)))(q:∀H' j,Fr M1 H H' lb lb->tj t H' lb (tZ t d a n f wo cs ws kv la j en) a.mks a.re g lays (tO ld) cs CC->DbOk ld j->(∀y∈db,y∈j)->(∀r,tO ld u r->ac<r->(∀i,v5 lays u i->ac<i->r<=i)->r∈j)->Q .non H') :
  Ym K t (sS Q) (L2.start ["self","place","rank","readers","above","behind","reader"] [.ref a.jb,.ref p,.int ac]) H:=by
 obtain⟨kk,T⟩:=h.rr;have e1:H a.jb=U (.ins t.q03 a.dj (JX a.mks a.la a.re a.db)):=h.at (i:=2) rfl;refine(ye e1 B.cJ B.j3 Y Y ⟨a.re,Y,.inr ⟨_,.inl T.at_⟩,_,Y,(),λl hl=>?_⟩);generalize c_:upd H l _=H2;obtain⟨m,q2⟩:=xc c_ hl;have h2:=h.same Y m;obtain⟨dx,gr,aa,rk,wk,kx,M⟩:=tL.ex h2.ms;refine⟨_,.t (m _ _ T.at_) (m _ _ hp),?_⟩;have go:∃(c:D) (rs:List Int),((yf kk (zC u)).getD (.ref l))=.ref c/\H2 c=U (.lst (rs.map V.int))/\rs.Pairwise (· < ·)/\(∀r∈rs,r∈ld.map (·.1))/\∀r,tO ld u r->r∈rs:=by
  rcases T.get u with ⟨c,rs,hk,E,fa,A,G,hne,I⟩|⟨E,_,no⟩
  .refine⟨c,rs,by rw[E];rfl,m _ _ A,G,λr J=>?_,λr z=>(I r).mpr z⟩;obtain⟨e,he,er,_⟩:=(I r).mp J;exact bB.mpr ⟨e,he,er⟩
  .exact⟨l,[],by rw[E];rfl,q2,fP,(),λr z=>absurd z (no r)⟩
 obtain⟨c,rs,ev,A,G,J,I⟩:=go;rw[ev];refine(ye (m _ _ e1) B.cJ B.j1 Y Y ⟨a.mks,_,_,Y,M.im,kH (),_,Y,_,Y,a.mks,p,ac,_,g,lays,u,Y,h2.ms,m _ _ hp,λv H3 x E=>?_⟩);have h3:=h2.same Y x;have S3:=m.trans x;rcases E with ⟨rfl,_⟩|⟨i,rfl,hi2,lt2,_⟩
 .exact⟨_,Y,Y,_,Y,ym Y ⟨_,Y,.ref c,rs.length,Y,.inl ⟨_,aQ.of (x _ _ A),(bg ..).symm⟩,Jw (R:=λ_=>True) B h3 hd C (x _ _ A) G J (λr z _ _=>by rw[cx];exact z) λH' j F o w N y=>q H' j ((Fr.same S3).trans F) o w N λr z lt _=>y r (I r z) lt trivial⟩⟩
 .refine⟨_,Y,Y,_,Y,zV Y ⟨_,Y,_,Y,_,_,Y,Y,c,rs,_,Y,x _ _ A,G,λk H4 O _ _ k2=>?_⟩⟩;refine Jw (R:=λr=>r<=i) B (h3.same Y O) hd C (O _ _ (x _ _ A)) G J (λr z _ hR=>?_) λH' j F o w N y=>q H' j ((Fr.same (S3.trans O)).trans F) o w N λr z lt hm=>y r (I r z) lt (hm i hi2 lt2);rw[<-cV k rs] at z;rcases bu.mp z with z|z
  .exact z
  .have:=k2 r z;have:r<=i:=hR;lia
theorem qX(B:DkF K t)(h:tj t H lb Bo a.mks a.re g lays P cs CC)(l2:Bo[2]?=U (a.jb,.ins t.q03 a.dj (JX a.mks a.la a.re a.db)))(l6:Bo[6]?=U (a.la,.dK la))(hv:yf la (.inl ac)=U (.ref r))(h0:0<=ac){s:aY}(hp:tT H lb r s gi)(q1:∀H',aJ H H'->ui g lays ac s.no->Q .non H')(q2:∀v H' q y,aJ H H'->FsN g lays ac s.no y->H' v=U (.tup [.ref q,.int y.2,.int (yj g lays y.1 ac)])->H' q=U (.tup [.str y.1.1,.int y.1.2])->Q (.ref v) H') :
  vj K t (sS Q) (L2.start ["self","rank","place","worth","now"] [.ref a.jb,.int ac]) H:=by
 obtain⟨o,nl,gl,e,_,⟨xs,l,I⟩,_,z1,z2⟩:=hp;have e1:=h.at l2;have e2:=h.at l6;obtain⟨dx,fs,im,_,sn,_⟩:=h.ms.ins;have dg:tz H a.la (.int ac) (U (.ref r)):=by
  have z:=tz.k (k:=.inl ac) e2
  rwa [hv] at z
 refine(ye e1 B.cJ B.j2 Y Y ⟨_,Y,a.la,_,Y,dg,r,_,1,_,Y,Y,sW.of e,Y,nl,Y,⟨_,aQ.of l⟩,yM xs (λi A H'=>(∃O N M,A=[U (.ref a.jb),U (.int ac),O,N,M])/\aJ H H'/\ui g lays ac (s.no.take i)) ⟨⟨_,_,_,Y⟩,aJ.refl _,λ_ z=>nomatch z⟩ (λi A H' ⟨_,j,_⟩=>aQ.of (j _ _ l)) ?_ ?_⟩)
 .rintro i u A H' hu ⟨⟨O,N,M,rfl⟩,j,m⟩;obtain⟨y,T,w,p,rfl,ew,ep⟩:=Paired.getP I hu;refine⟨w,_,Y,sW.of (j _ _ ew),Y,_,_,Y,_,_,Y,Y,ye (j _ _ e1) B.cJ B.j1 Y Y ⟨a.mks,_,_,Y,j _ _ im,sn,_,Y,_,Y,a.mks,p,ac,_,g,lays,y.1,Y,h.ms.same j,h0,j _ _ ep,λH2 C=>?_⟩⟩;refine⟨_,Y,_,Y,Y,_,Y,?_⟩;by_cases c:yj g lays y.1 ac=y.2
  .exact zV (by rw[Bj (congrArg V.int c)];rfl) ⟨⟨_,_,_,Y⟩,j.trans C,λx l=>by
    rw[cH,T] at l;rcases bu.mp l with z|z
    .exact m x z
    .rw[bo.mp z];exact c⟩
  .refine ym (by rw[Bk (λz=>c (V.int.inj z))];rfl) ⟨_,Y,_,Y,_,Y,by show 3<=Bb;rw[bH];decide,λJ E=>?_⟩;have G:=sX (o:=HO.tup [V.ref p,V.int y.2,V.int (yj g lays y.1 ac)]) J E;exact q2 J _ p y (j.trans (C.trans G)) ⟨i,T,m,c⟩ zh (G _ _ (C _ _ (j _ _ ep)))
 .rintro A H' ⟨_,j,m⟩;rw[bL I,cx] at m;exact q1 H' j m
end
section
variable {H':Hp}{lb lb':D->Nat}{d b:D}{a:tW}{g:List aN}{lays:List (Int×List aN)}{P:Pl->Int->Prop}{cs en:List V}{CC:List (List Cs)}{n f ac:Int}{ws db:List Int}{kv la:List (aU×V)}{o o' wo:HO}{i:Nat}{r:D}{no gi:List aN}{ld:List (Int×aY×List aN)}{s:aY}
theorem uniq{c:Type}{x y:Int×c}:∀ {l:List (Int×c)},(l.map (·.1)).Nodup->x∈l->y∈l->x.1=y.1->x=y
 |z::l,nd,hx,hy,e=>by
  rw[bx,bX] at nd;rcases bE.mp hx with h1|h1 <;> rcases bE.mp hy with h2|h2
  .rw[h1,h2]
  .exact absurd (bB.mpr ⟨y,h2,by rw[<-e,h1]⟩) nd.1
  .exact absurd (bB.mpr ⟨x,h1,by rw[e,h2]⟩) nd.1
  .exact uniq nd.2 h1 h2 e
theorem kN(Bp:DkF K t)(h:tj t H lb (tZ t d a n f wo cs ws kv la db en) a.mks a.re g lays (tO ld) cs CC)(hl:Pk (YM H lb) la ld)(ha:DbA g lays ld db)(ar:ld.length<=10)(nl:(ld.map (·.1)).Nodup)(h0:∀e∈ld,0<=e.1)(q1:∀H',Fr M1 H H' lb lb->tj t H' lb (tZ t d a n f wo cs ws kv la [] en) a.mks a.re g lays (tO ld) cs CC->DbA g lays ld []->Q .non H') (q2:∀v H' db' q r s gi y,Fr M1 H H' lb lb->tj t H' lb (tZ t d a n f wo cs ws kv la db' en) a.mks a.re g lays (tO ld) cs CC->DbA g lays ld db'->(∀x∈db',r<=x)->(r,s,gi)∈ld->FsN g lays r s.no y->H' v=U (.tup [.int r,.ref q,.int y.2,.int (yj g lays y.1 r)])->H' q=U (.tup [.str y.1.1,.int y.1.2])->Q (.ref v) H') :
  wH K t (sS Q) (L2.start ["self","ranks","rank","note"] [.ref a.jb]) H:=by
 have hd:=ha.wk;have ll:=hd.len;refine(ye (h.at (i:=2) Y) Bp.cJ Bp.j4 Y Y ⟨a.db,dbL db,db,Y,h.at (i:=7) Y,by unfold dbL;rw[dA];rfl,by unfold dbL;rw[bg];lia,λl j al hs hp=>?_⟩);have nd:j.Nodup:=hs.nodup_iff.mpr hd.nd;generalize c_:upd H l _=H2;obtain⟨s2,e2⟩:=xc c_ al;refine⟨_,Y,l,Y,⟨_,aQ.of e2⟩,yM (j.map V.int) (λi N H'=>(∃o2 o3,N=[U (.ref a.jb),U (.ref l),o2,o3])/\H' l=U (.lst (j.map V.int))/\Fr M1 H H' lb lb/\∃db',tj t H' lb (tZ t d a n f wo cs ws kv la db' en) a.mks a.re g lays (tO ld) cs CC/\DbA g lays ld db'/\∀r,r∈j.drop i↔r∈db') ⟨⟨_,_,Y⟩,e2,Fr.same s2,db,h.same Y s2,ha,λr=>hs.mem_iff⟩ (λi N H' ⟨_,z,_⟩=>aQ.of z) ?_ ?_⟩
 .rintro i u N H' hu ⟨⟨o2,o3,rfl⟩,I,F,db',A,k,C⟩;have w:=k.wk;rw[bA] at hu;obtain⟨x,B,rfl⟩:=b7.mp hu;have li:=(bn.mp B).1;have ex:j[i]=x:=(bn.mp B).2;have T:j.drop i=x::j.drop (i+1):=by rw[gR li,ex]
  have xd:x∈db':=(C x).mp (by rw[T];exact bt);obtain⟨e,he,rfl⟩:=bB.mp (w.su x xd);have aj:=wI hl F (M:=M1) (.inr ());rcases aj.get (h:=e.1) with ⟨_,z⟩|⟨v,b,hv,hm,r,rfl,hr⟩
  .exact absurd (bq (f:=λe:Int×aY×List aN=>e.1) he) z
  refine⟨_,Y,a.jb,_,_,Y,A.at (i:=2) Y,Y,_,Y,d,a,lb,_,la,g,lays,_,cs,CC,e.1,r,b.1,b.2,Y,A,Y,Y,hv,h0 e he,hr,λH3 p ag=>?_,λv H3 q y p hy m hq=>?_⟩
  .have m:=A.same Y p;refine⟨_,Y,Y,_,Y,zV Y (ye (m.at (i:=2) Y) Bp.cJ Bp.j4 Y Y ⟨a.db,Y,.inl ⟨_,.inl (m.at (i:=7) Y)⟩,_,Y,dbL db',.inl e.1,_,m.at (i:=7) Y,Y,zf3 xd,?_⟩)⟩;rw[zdo];have h4:=m.put (i:=7) (o':=.dK (dbL (db'.filter λy=>decide (y≠e.1)))) Y Y ();have F4:=m.fput (i:=7) (o':=.dK (dbL (db'.filter λy=>decide (y≠e.1)))) Y ();refine⟨⟨_,_,Y⟩,by rw[zi (zM (p _ _ I) (m.at (i:=7) Y) ())];exact p _ _ I,F.trans ((Fr.same p).trans F4),_,h4,⟨⟨w.nd.sublist cY,λr hr=>w.su r (b8.mp hr).1⟩,λe' J nm=>?_⟩,λr=>?_⟩
   .by_cases c:e'.1=e.1
    .rw[uniq nl J hm c];exact ag
    .exact k.ag e' J λz=>nm (b8.mpr ⟨z,Bj c⟩)
   .have E:=nd.sublist (mU i j);rw[T,bX] at E;have sr:=C r;rw[T,bE] at sr;rw[b8,decide_eq_true_eq,<-sr];exact⟨λz=>⟨.inr z,λy=>E.1 (by rw[<-y];exact z)⟩,λz=>z.1.resolve_left z.2⟩
  .have an:=A.same Y p;refine⟨_,Y,Y,_,Y,ym Y ⟨_,Y,by show 1<=Bb;rw[bH];decide,λp1 ai=>?_⟩⟩;generalize c_:upd H3 p1 _=H4;obtain⟨O,e4⟩:=xc c_ ai;refine⟨_,Y,p1,v,_,_,Y,Y,sW.of e4,sW.of (O _ _ m),(),by show 1+3<=Bb;rw[bH];decide,?_⟩;refine⟨(),λ_ p2 aa=>?_⟩;have s5:=sX (o:=HO.tup [V.int e.1,V.ref q,V.int y.2,V.int (yj g lays y.1 e.1)]) p2 aa;refine q2 p2 _ db' q e.1 b.1 b.2 y (F.trans (Fr.same (p.trans (O.trans s5)))) (an.same Y (O.trans s5)) k (λx B=>?_) hm hy zh (s5 _ _ (O _ _ hq));have G:=hp.sublist (mU i j);have sx:=(C x).mpr B;rw[T] at G sx;rcases bE.mp sx with z|z
   .exact Int.le_of_eq z.symm
   .exact oF (mF G z)
 .rintro N H' ⟨_,_,F,db',A,k,C⟩;have:db'=[]:=List.eq_nil_iff_forall_not_mem.mpr λx B=>by
   have:=(C x).mpr B;rw[bg,rZ] at this;cases this
  rw[this] at A k;exact q1 H' F A k
theorem zdp{c:List aN}{e:aN}(m:(c.map (·.1)).Nodup)(h:c[i]?=U e):e.1 ∉ (c.take i).map (·.1):=λz=>by
 obtain⟨j,k⟩:=cy z;rw[bA,dq] at k;split at k
 .rename_i hji;have l:(c.map (·.1))[j]?=U e.1:=by rw[bA];exact k
  have p:(c.map (·.1))[i]?=U e.1:=by rw[bA,h];rfl
  have:=(gI (bn.mp l).1 m).mp (l.trans p.symm);lia
 .cases k
theorem zbB{e:List aN}{c:aN}{p:Pl}(h:e[i]?=U c):p∈(e.take (i+1)).map (·.1)↔p∈(e.take i).map (·.1)\/p=c.1:=by
 rw[cH,h,bR,bu];have:p∈nF (·.1) (U c).toList↔p=c.1:=by simp
 rw[this]
def tkI(a:tW)(v:V)(ac:Int)(G:D->Prop)(P:Pl->Int->Prop)(no:List aN)(H:Hp)(i:Nat)(c:St)(H':Hp):Prop:=(∃h e,c=[U (.ref a.jb),U (.int ac),U v,h,e])/\mt G a.re H H'/\Dm H H'/\∃k,sU H' a.re G (λp j=>P p j/\¬ (j=ac/\p∈(no.take i).map (·.1))) k
theorem XE(G:DkF K t)(h:tj t H lb (tZ t d a n f wo cs ws kv la db en) a.mks a.re g lays (tO ld) cs CC)(hl:Pk (YM H lb) la ld)(ha:DbA g lays ld db)(nl:(ld.map (·.1)).Nodup)(T:(ac,s,gi)∈ld)(nd:(s.no.map (·.1)).Nodup)(q:∀r H' lb' J O,Fr M1 H H' lb lb'->tj t H' lb' (tZ t d a n f wo cs ws kv J O en) a.mks a.re g lays (tO (yg ld ac)) cs CC->Pk (YM H' lb') J (yg ld ac)->DbA g lays (yg ld ac) O->tT H' lb' r s gi->Q (.ref r) H') :
  kI K t (sS Q) (L2.start ["self","rank","paper","place","worth"] [.ref a.jb,.int ac]) H:=by
 rcases hl.get (h:=ac) with ⟨_,z⟩|⟨v,b,hv,hb,r,rfl,hr⟩
 .exact absurd (bq (f:=λe:Int×aY×List aN=>e.1) T) z
 obtain rfl:b=(s,gi):=by have:=uniq nl hb T rfl;injection this
 refine(ye (h.at (i:=2) Y) G.cJ G.j2 Y Y ⟨a.la,Y,.inl ⟨_,.inl (h.at (i:=6) Y)⟩,_,Y,_,.inl ac,_,h.at (i:=6) Y,Y,hv,?_⟩);have C:=h.put (i:=6) (o':=.dK (yz la (.inl ac))) Y Y ();have F2:=h.fput (i:=6) (o':=.dK (yz la (.inl ac))) Y ();generalize upd H a.la (.dK (yz la (.inl ac)))=H2 at *
 have C:tj t H2 lb (tZ t d a n f wo cs ws kv (yz la (.inl ac)) db en) a.mks a.re g lays (tO ld) cs CC:=C;have fin:∀H3 B,Fr M1 H H3 lb lb->tj t H3 lb (tZ t d a n f wo cs ws kv (yz la (.inl ac)) B en) a.mks a.re g lays (tO ld) cs CC->DbA g lays (yg ld ac) B->zo (vx (xJ K (aK (yI K) (Z 2) (tC (.int 1)))) (JM K 2 (wu (zt 3) (wu (zt 4) JL))) (yh (zT xS [] E0 (zc (zW K (Z 0) "readers") (zc (Z 3) (zc (Z 1) zj)))))) (zL (Z 2)) (sS Q) [U (.ref a.jb),U (.int ac),U (.ref r),ak,ak] H3:=λH3 B F3 h3 ai=>by
  obtain⟨o,aa,gl,er,_,⟨xs,m,px⟩,_,z1,z2⟩:=hr.fr F3 (.inr ());have e1:H3 a.jb=U (.ins t.q03 a.dj (JX a.mks a.la a.re a.db)):=h3.at (i:=2) rfl;have rl:=h3.rl;obtain⟨kk,r0⟩:=h3.rr;refine⟨_,Y,r,_,1,_,Y,Y,sW.of er,Y,aa,Y,⟨_,aQ.of m⟩,yM xs (tkI a (.ref r) ac (λb=>lb b=11\/H3 b=ak) (tO ld) s.no H3) ⟨⟨_,_,Y⟩,mt.refl,Dm.refl,kk,(r0.keep (F':=λb=>lb b=11\/H3 b=ak) rl (λb o _ e=>e) λ_ z=>.inl z).eqv λp i=>by simp⟩ (λi σ H' ⟨_,k,_⟩=>aQ.of (k _ _ m (λz=>by rw[z,rl] at z1;cases z1) (.inr λz=>z.elim (λy=>by rw[z1] at y;cases y) λy=>by rw[m] at y;cases y))) ?_ ?_⟩
  .rintro i u σ H' hu ⟨⟨o3,o4,rfl⟩,k,dm,M,A⟩;obtain⟨y,hy,w,p,rfl,ew,E⟩:=Paired.getP px hu;have tk:∀b zs,H3 b=U (.tup zs)->H' b=U (.tup zs):=λb zs e=>k _ _ e (zM e r0.at_ ()) (.inl λ_ z=>nomatch z);refine⟨w,_,Y,sW.of (tk _ _ ew),Y,_,_,Y,_,_,Y,Y,ye (k _ _ e1 (zM e1 r0.at_ ()) (.inl λ_ z=>nomatch z)) G.cJ G.j3 Y Y ⟨_,Y,_,Y,a.re,p,ac,_,_,M,y.1,Y,A,.inl rl,tk _ _ E,⟨⟨_,T,Y,bq (bN hy)⟩,λz=>zdp nd hy z.2⟩,λH3 ag k3 d3 r3=>⟨⟨_,_,Y⟩,k.trans k3,dm.trans d3,ag,r3.eqv λp j=>?_⟩⟩⟩;rw[zbB hy];exact⟨λ⟨⟨a,b⟩,c⟩=>⟨a,λd=>d.2.elim (λe=>b ⟨d.1,e⟩) λe=>c ⟨d.1,e⟩⟩,λ⟨a,b⟩=>⟨⟨a,λc=>b ⟨c.1,.inl c.2⟩⟩,λc=>b ⟨c.1,.inr c.2⟩⟩⟩
  .rintro σ H' ⟨⟨o3,o4,rfl⟩,k,dm,M,A⟩;rw[bL px,cx] at A;obtain⟨lb',F4,h4⟩:=h3.regrow Y k dm (A.eqv (P':=tO (yg ld ac)) λp i=>⟨λ⟨⟨e,l,N,E⟩,z⟩=>⟨e,aV.mpr ⟨l,λy=>z ⟨N.symm.trans y,by rw[uniq nl l T y] at E;exact E⟩⟩,N,E⟩,λ⟨e,l,N,E⟩=>⟨⟨e,(aV.mp l).1,N,E⟩,λz=>(aV.mp l).2 (N.trans z.1)⟩⟩);have F5:=F3.trans F4;exact⟨_,Y,q r H' lb' _ B F5 h4 (wI hl F5 (.inr ())).drop ai (hr.fr F5 (.inr ()))⟩
 have hd:=ha.wk;have I:∀x,x∈db->x≠ac->x∈(yg ld ac).map (·.1):=λx m n=>by
  obtain⟨e,l,rfl⟩:=bB.mp (hd.su x m);exact bq (f:=λe:Int×aY×List aN=>e.1) (aV.mpr ⟨l,n⟩)
 have h7:H2 a.db=U (.dK (dbL db)):=C.at (i:=7) rfl;refine(ye (C.at (i:=2) Y) G.cJ G.j4 Y Y ⟨a.db,Y,.inl ⟨_,.inl h7⟩,_,Y,dbL db,.inl ac,h7,Y,λv _=>?_,λz=>?_⟩)
 .rw[zdo];have h4:=C.put (i:=7) (o':=.dK (dbL (db.filter λy=>decide (y≠ac)))) Y Y ();have F4:=C.fput (i:=7) (o':=.dK (dbL (db.filter λy=>decide (y≠ac)))) Y ();exact fin _ _ (F2.trans F4) h4 ⟨⟨hd.nd.sublist cY,λx m=>I x (b8.mp m).1 (of_decide_eq_true (b8.mp m).2)⟩,λe l nm=>ha.ag e (aV.mp l).1 λz=>nm (b8.mpr ⟨z,Bj (aV.mp l).2⟩)⟩
 .exact fin _ _ F2 C ⟨⟨hd.nd,λx m=>I x m λe=>by rw[<-e,zf3 m] at z;cases z⟩,λe l=>ha.ag e (aV.mp l).1⟩
end
section
variable {H':Hp}{lb lb':D->Nat}{Bo:List (D×HO)}{m re d b:D}{a:tW}{g:List aN}{lays:List (Int×List aN)}{P:Pl->Int->Prop}{cs en:List V}{CC:List (List Cs)}{n f ac:Int}{ws db:List Int}{kv la:List (aU×V)}{o o' wo:HO}{i:Nat}{r:D}{no gi:List aN}{ld:List (Int×aY×List aN)}{s:aY}
open Classical in
theorem tj.relay{F':D->Prop}{j:List (Int×List aN)}(h:tj t H lb Bo m re g lays P cs CC)(ll:Bo.length=9)(k:∀b o,lb b≠10->H b=U o->H' b=U o)(A:uc H H')(M:tF t H' m F' g j)(B:∀b,F' b->lb b=10\/H b=ak)(u:∀b,lb b=10->F' b):∃lb',Fr M1 H H' lb lb'/\tj t H' lb' Bo m re g j P cs CC:=by
 have e0:∀b,lb b≠0->¬ lb b=10->¬ F' b:=λb z y w=>(B b w).elim y λv=>by obtain⟨o,e⟩:=h.ow b z;rw[v] at e;cases e
 have p:∀b,lb b≠0->(if F' b then 10 else lb b)=lb b:=λb z=>by
  by_cases y:lb b=10
  .rw[ap (u b y),y]
  .rw[am (e0 b z y)]
 have x:(λb=>(if F' b then 10 else lb b)=10)=F':=funext λb=>propext ⟨λz=>by
  by_cases y:F' b
  .exact y
  .rw[am y] at z;exact u b z,λz=>ap z⟩
 have E:∀b o,H b=U o->∃o',H' b=U o':=λb o e=>by
  by_cases y:lb b=10
  .exact M.own b (u b y)
  .exact⟨o,k b o y e⟩
 have rl:=h.rl;obtain⟨kk,I⟩:=h.rr;refine⟨λb=>if F' b then 10 else lb b,⟨λb o e=>?_,λb o z e=>k b o (by unfold M1 at z;lia) e,A,E⟩,λi b o e=>?_,by rw[x];exact M,⟨kk,I.keep rl (λb o fb e=>k b o () e) λb z=>(p b ()).trans z⟩,(p _ ()).trans rl,Paired.mapP h.cc λv C ⟨⟨c,G,l,N,J⟩,q⟩=>⟨⟨c,G,l,k c _ (by rw[q c l];decide) N,xO A J⟩,λc l=>(p c (by rw[q c l];decide)).trans (q c l)⟩,λb O=>?_⟩
 .by_cases y:F' b
  .rw[ap y];exact((B b y).resolve_right λz=>by rw[z] at e;cases e).symm
  .rw[am y]
 .obtain⟨h1,T⟩:=h.ob i b o e;have:=(bn.mp e).1;exact⟨k b o () h1,(p b ()).trans T⟩
 .by_cases y:F' b
  .exact M.own b y
  .obtain⟨o,e⟩:=h.ow b (λz=>O ((am y).trans z));exact E b o e
theorem zhT(h:Paired (zcp H) ys (sY gs)):∀y∈ys,∃c q,y=.ref c/\H c=U (.tup ((zC q).map kV)):=λy j=>by
 obtain⟨i,l⟩:=cy j;obtain⟨kv,k,c,e,p⟩:=Paired.getP h l;obtain⟨w,u,_⟩:=zbt gs;have z:=bq (f:=λx:List aU×V=>x.1) (bN k);rw[u] at z;obtain⟨q,_,v⟩:=bB.mp z;exact⟨c,q,e,by rw[v];exact p⟩
theorem zf4{e:List V}{c:List aN}(h:Paired (zcp H) e (sY c))(j:(c.map (·.1)).Nodup):e.length=c.length:=by rw[bL h,X9 j,bg]
def ptI(a:tW)(r:D)(ac:Int)(l:D)(G:D->Prop)(P:Pl->Int->Prop)(no:List aN)(H:Hp)(i:Nat)(c:St)(H':Hp):Prop:=(∃h e,c=[U (.ref a.jb),U (.int ac),U (.ref r),U (.ref l),h,e])/\mt G a.re H H'/\Dm H H'/\∃k,sU H' a.re G (λp j=>P p j\/j=ac/\p∈(no.take i).map (·.1)) k
theorem zea{g:List aN}{l c:List (Int×List aN)}{p:Pl}{r k:Int}(T:(l.map (·.1)).Nodup)(x:(c.map (·.1)).Nodup)(O:∀y∈l,0<=y.1)(J:∀y∈c,0<=y.1)(v:∀y∈l,y.1≠r->y∈c)(B:∀y∈c,y.1≠r->y∈l) (E:k<=r\/((∀y∈l,y.1=r->zE y.2 p=ak)/\∀y∈c,y.1=r->zE y.2 p=ak)\/∃y∈l,r<y.1/\y.1<k/\zE y.2 p≠ak):yj g l p k=yj g c p k:=by
 unfold yj;have I:∀y∈l,y.1<k->zE y.2 p≠ak->(∀z∈l,z.1<k->zE z.2 p≠ak->z.1<=y.1)->y.1≠r:=λy q N j A e=>by
  rcases E with h|⟨h,_⟩|⟨z,hz,h1,h2,h3⟩
  .lia
  .exact j (h y q e)
  .have:=A z hz h2 h3;lia
 have G:∀y∈c,y.1<k->zE y.2 p≠ak->(∀z∈c,z.1<k->zE z.2 p≠ak->z.1<=y.1)->y.1≠r:=λy q N j A e=>by
  rcases E with h|⟨_,h⟩|⟨z,hz,h1,h2,h3⟩
  .lia
  .exact j (h y q e)
  .have:=A z (v z hz ()) h2 h3;lia
 rcases xV p k l (-1,(zE g p).getD 0) with ⟨e1,n1⟩|⟨y,q,w,e1,e2,e3,e4,e5⟩ <;> rcases xV p k c (-1,(zE g p).getD 0) with ⟨f1,n2⟩|⟨y',hy',w',f1,f2,f3,f4,f5⟩
 .rw[e1,f1]
 .have j:zE y'.2 p≠ak:=by rw[f1];exact λz=>nomatch z
  have:=n1 y' (B y' hy' (G y' hy' f2 j f5)) f3 f2;exact absurd this j
 .have j:zE y.2 p≠ak:=by rw[e1];exact λz=>nomatch z
  have:=n2 y (v y q (I y q e2 j e5)) e3 e2;exact absurd this j
 .have j:zE y.2 p≠ak:=by rw[e1];exact λz=>nomatch z
  have u:zE y'.2 p≠ak:=by rw[f1];exact λz=>nomatch z
  have C:=v y q (I y q e2 j e5);have M:=B y' hy' (G y' hy' f2 u f5);have:y=y':=uniq x C hy' (Int.le_antisymm (f5 y C e2 j) (e5 y' M f2 u));rw[e4,f4];rw[this,f1] at e1;exact(bI e1).symm
theorem zhU{e:List V}{j:List aN}{p:Pl}(h:Paired (zcp H) e (sY j))(q:(j.map (·.1)).Nodup)(z:p∈j.map (·.1)):∃c,.ref c∈e/\H c=U (.tup ((zC p).map kV)):=by
 obtain⟨w,x⟩:=Option.ne_none_iff_exists'.mp ((xE q).mp z);obtain⟨i,l⟩:=cy (ue.mpr ⟨p,w,Y,x⟩);obtain⟨v,k⟩:∃v,e[i]?=U v:=⟨_,bb (by rw[bL h];exact(bn.mp l).1)⟩;obtain⟨y,u,c,rfl,A⟩:=Paired.getP h k;cases l.symm.trans u;exact⟨c,bN k,A⟩
def Dd(ld:List (Int×aY×List aN))(lays:List (Int×List aN))(ac:Int)(p:Pl)(db:List Int):Prop:=∀r,tO ld p r->ac<r->(∀i,v5 lays p i->ac<i->r<=i)->r∈db
theorem zhp{p q:Pl}(h:HO.tup ((zC p).map kV)=.tup ((zC q).map kV)):p=q:=by
 injection h with h;have h:[V.str p.1,V.int p.2]=[V.str q.1,V.int q.2]:=h;injection h with h1 h2;injection h2 with h2;exact oK (V.str.inj h1) (V.int.inj h2)
theorem ziP{g:List aN}{lays:List (Int×List aN)}{ld:List (Int×aY×List aN)}{ac:Int}{gi u:List aN}{v:List Int}{e:Int×aY×List aN}(B:(lays.map (·.1)).Nodup)(E:∀y∈lays,0<=y.1)(h0:0<=ac)(J:(gi.map (·.1)).Nodup)(k:∀y∈lays,(y.2.map (·.1)).Nodup)(O:(ac,u)∈lays\/(ac ∉ lays.map (·.1)/\u=[]))(he:e∈ld)(ag:ui g lays e.1 e.2.1.no)(no:e.1 ∉ v)(dd:∀p,p∈u.map (·.1)\/p∈gi.map (·.1)->Dd ld (xl lays ac gi) ac p v):ui g (xl lays ac gi) e.1 e.2.1.no:=by
 have c:∀y,y∈xl lays ac gi↔(y∈lays/\y.1≠ac)\/y=(ac,gi):=λy=>by
  unfold xl;rw[bu,b8,decide_eq_true_eq,bo]
 have A:((xl lays ac gi).map (·.1)).Nodup:=by
  unfold xl;rw[bR,cQ];refine⟨B.sublist (gb _ cY),bX.mpr ⟨cZ,cz⟩,λa ha b hb=>?_⟩;obtain⟨y,j,rfl⟩:=bB.mp ha;rw[bo.mp hb];exact of_decide_eq_true (b8.mp j).2
 intro y j;rw[<-ag y j];refine(zea (r:=ac) B A E (λy j=>?_) (λy j n=>(c y).mpr (.inl ⟨j,n⟩)) (λy j n=>((c y).mp j).elim (λz=>z.1) λz=>absurd (by rw[z]) n) ?_).symm
 .rcases(c y).mp j with z|z
  .exact E y z.1
  .rw[z];exact h0
 by_cases c1:e.1<=ac
 .exact .inl c1
 by_cases c2:y.1∈u.map (·.1)\/y.1∈gi.map (·.1)
 .refine .inr (.inr ?_);have:=dd y.1 c2 e.1 ⟨e,he,Y,bq (f:=(·.1)) j⟩ ();obtain⟨i,C⟩:=Classical.not_forall.mp λz=>no (this z);obtain⟨⟨q,T,N⟩,C⟩:=rC.mp C;obtain⟨M,I⟩:=rC.mp C;have G:(i,q)∈lays:=((c _).mp T).elim (λz=>z.1) λz=>by cases z;lia
  exact⟨(i,q),G,M,by show i<e.1;lia,(xE (k _ G)).mp N⟩
 .refine .inr (.inl ⟨λx l w=>?_,λx l w=>?_⟩)
  .refine eJ λz=>c2 (.inl ?_);have:u=x.2:=by
    rcases O with h|⟨h,_⟩
    .have:=uniq B h l w.symm;rw[<-this]
    .exact absurd (by rw[<-w];exact bq (f:=(·.1)) l) h
   rw[this];exact(xE (k x l)).mpr z
  .refine eJ λz=>c2 (.inr ?_);rcases(c x).mp l with y|rfl
   .exact absurd w y.2
   .exact(xE J).mpr z
theorem XG(I:DkF K t)(h:tj t H lb (tZ t d a n f wo cs ws kv la db en) a.mks a.re g lays (tO ld) cs CC)(hl:Pk (YM H lb) la ld)(ha:DbA g lays ld db)(ar:∀e∈ld,zcv e.2.1.no e.2.2)(bi:ld.length<=10)(nr:ac ∉ ld.map (·.1))(h0:0<=ac)(ll:lays.length<=10)(hp:tT H lb r s gi)(nt:zcv s.no gi) (q:∀H' lb' az v,Fr M1 H H' lb lb'->tj t H' lb' (tZ t d a n f wo cs ws kv az v en) a.mks a.re g (xl lays ac gi) (tO (ld++[(ac,s,gi)])) cs CC->Pk (YM H' lb') az (ld++[(ac,s,gi)])->DbA g (xl lays ac gi) (ld++[(ac,s,gi)]) v->Q .non H') :
  kK K t (sS Q) (L2.start ["self","rank","paper","before","place","worth"] [.ref a.jb,.int ac,.ref r]) H:=by
 have hd:=ha.wk;have al:=h.ms;have e1:H a.jb=U (.ins t.q03 a.dj (JX a.mks a.la a.re a.db)):=h.at (i:=2) rfl;obtain⟨dx,gr,a9,rk,wk,kx,M⟩:=tL.ex h.ms;refine(ye e1 I.cJ I.j1 Y Y ⟨a.mks,_,_,Y,M.im,kH (),_,Y,_,_,_,_,_,_,Y,h.ms,λl ys gs H1 s1 bl bk A ho=>?_⟩);have ok:W3 gs:=ho.elim (λz=>(h.ms.ok _ z).2) λz=>by rw[z.2];exact⟨cz,bS _⟩
 have b3:ys.length<=63:=by rw[zf4 A ok.nd];exact ok.le
 have h1:=h.same Y s1;obtain⟨o,nl,gl,er,_,ln,lg,z1,z2⟩:=hp.fr (Fr.same (M:=M1) s1) (.inr ());refine(ye (s1 _ _ e1) I.cJ I.j1 Y Y ⟨a.mks,_,_,Y,s1 _ _ M.im,kH (),_,Y,_,Y,r,_,2,_,Y,Y,sW.of er,Y,_,_,_,_,_,_,_,Y,h1.ms,h0,lg,(λz=>by rw[z2] at z;cases z),⟨nt.ng,bO nt.lg ()⟩,bO ll (),λH2 F2 k2 t2 m2 f2 g2=>?_⟩);obtain⟨C,O,h2⟩:=h1.relay Y k2 t2 m2 f2 g2;have F2:=(Fr.same s1).trans O;have e2:H2 a.jb=U (.ins t.q03 a.dj (JX a.mks a.la a.re a.db)):=h2.at (i:=2) rfl;have a6:H2 l=U (.lst ys):=O.kp _ _ (.inl (h.out bl)) bk;have a1:=zhT A;clear M wk kx;obtain⟨dx,gr,a9,rk,wk,kx,M⟩:=tL.ex h2.ms;refine⟨_,Y,ye e2 I.cJ I.j1 Y Y ⟨a.mks,_,_,Y,M.im,kH (),_,Y,_,_,_,_,_,_,Y,h2.ms,λl2 E gs2 H3 s3 cb a5 T aj=>?_⟩⟩;have aa:W3 gs2:=aj.elim (λz=>(h2.ms.ok _ z).2) λz=>by rw[z.2];exact⟨cz,bS _⟩
 have b2:E.length<=63:=by rw[zf4 T aa.nd];exact aa.le
 have aS:=zhT T;refine⟨l,l2,ys,E,Y,Y,s3 _ _ a6,a5,by rw[bH];lia,λp a4=>?_⟩;generalize c_:upd H3 p _=H4;obtain⟨s4,e4⟩:=xc c_ a4;have S4:=s3.trans s4;have ky:∀y∈ys++E,∃c q,y=.ref c/\H4 c=U (.tup ((zC q).map kV)):=λy A=>by
  rcases bu.mp A with z|z
  .obtain⟨c,q,e,G⟩:=a1 y z;exact⟨c,q,e,S4 _ _ (O.ts _ _ G)⟩
  .obtain⟨c,q,e,G⟩:=aS y z;exact⟨c,q,e,s4 _ _ G⟩
 have a3:∀p,p∈gs.map (·.1)\/p∈gi.map (·.1)->∃c,.ref c∈ys++E/\H4 c=U (.tup ((zC p).map kV)):=λp z=>by
  rcases z with z|z
  .obtain⟨c,m,G⟩:=zhU A ok.nd z;exact⟨c,cr _ m,S4 _ _ (O.ts _ _ G)⟩
  .have eg:gs2=gi:=by
    have m0:(ac,gi)∈xl lays ac gi:=by unfold xl;exact bK _ (bo.mpr Y)
    rcases aj with h|⟨h,_⟩
    .have:=uniq h2.ms.nd h m0 rfl;injection this
    .exact absurd (bq (f:=(·.1)) m0) h
   obtain⟨c,m,G⟩:=zhU T aa.nd (by rw[eg];exact z);exact⟨c,bK _ m,s4 _ _ G⟩
 have lp:C p=0:=h2.out (zJ s3 a4);refine⟨p,Y,⟨_,aQ.of e4⟩,yM (ys++E) (λi σ H'=>(∃o4,σ=[U (.ref a.jb),U (.int ac),U (.ref r),U (.ref l),o4,ak])/\Fr M1 H4 H' C C/\∃v,tj t H' C (tZ t d a n f wo cs ws kv la v en) a.mks a.re g (xl lays ac gi) (tO ld) cs CC/\DbOk ld v/\(∀y∈db,y∈v)/\∀c p,.ref c∈(ys++E).take i->H4 c=U (.tup ((zC p).map kV))->Dd ld (xl lays ac gi) ac p v) ⟨⟨_,Y⟩,Fr.same (aJ.refl _),db,h2.same Y S4,hd,(λ_ z=>z),λ_ _ z=>nomatch z⟩ (λi σ H' ⟨_,F,_⟩=>aQ.of (F.kp _ _ (.inl lp) e4)) ?_ ?_⟩
 .rintro i u σ H' hu ⟨⟨o4,rfl⟩,F,v,h',N,su,dd⟩;obtain⟨c,q0,rfl,G⟩:=ky u (bN hu);refine⟨_,Y,a.jb,_,_,Y,h'.at (i:=2) Y,Y,_,Y,_,Y,⟨d,a,C,n,f,wo,cs,ws,kv,la,v,en,g,_,ld,CC⟩,c,ac,q0,Y,h',N,bi,F.ts _ _ G,λH6 b1 F6 h6 b0 an y6=>⟨⟨_,Y⟩,F.trans F6,b1,h6,b0,λy A=>an y (su y A),λc' p' m a7=>?_⟩⟩;rw[cH,hu] at m;rcases bu.mp m with m|m
  .exact λr z1 z2 z3=>an r (dd c' p' m a7 r z1 z2 z3)
  .cases bo.mp m;cases zhp (bI (a7.symm.trans G));exact y6
 .rintro σ H' ⟨⟨o4,rfl⟩,F,v,h5,N,su,dd⟩;rw[cx] at dd;have ag:∀e∈ld,e.1 ∉ v->ui g (xl lays ac gi) e.1 e.2.1.no:=λe B nm=>ziP al.nd (λy A=>(al.ok y A).1) h0 nt.ng (λy A=>(al.ok y A).2.nd) ho B (ha.ag e B λz=>nm (su _ z)) nm λp z=>let ⟨c,m,G⟩:=a3 p z;dd c p m G
  clear dd a3 su;have F5:=F2.trans ((Fr.same S4).trans F);clear F s4 e4 S4 a5 s3 M F2 h2 e2 a6 e1 h1 ln lg er ho aj ky a1 aS A T O lp;have b4:la.length=ld.length:=bL hl;refine⟨_,Y,ye (h5.at (i:=2) Y) I.cJ I.j2 Y Y ⟨_,Y,a.la,_,Y,.k (k:=.inl ac) (h5.at (i:=6) Y) (by rw[bH];lia),?_⟩⟩;have h6:=h5.put (i:=6) (o':=.dK (yJ la (.inl ac) (.ref r))) Y Y ();have F6:=F5.trans (h5.fput (i:=6) (o':=.dK (yJ la (.inl ac) (.ref r))) Y ());generalize upd H' a.la (.dK (yJ la (.inl ac) (.ref r)))=H6 at *
  clear h5 F5;have h6:tj t H6 C (tZ t d a n f wo cs ws kv (yJ la (.inl ac) (.ref r)) v en) a.mks a.re g (xl lays ac gi) (tO ld) cs CC:=h6;have b5:=N.len;obtain⟨H7,db7,dp,a8,h7,be,ai,_⟩:=h6.dbt ac ();refine(ye (h6.at (i:=2) Y) I.cJ I.j4 Y Y ⟨_,Y,a.db,H7,Y,dp,?_⟩);have F7:=F6.trans a8;have bz:DbA g (xl lays ac gi) (ld++[(ac,s,gi)]) db7:=⟨⟨be N.nd,λy A=>by
   rw[bR,bu];exact((ai y).mp A).imp (N.su y) λe=>bo.mpr e⟩,λe B nm=>by
   rcases bu.mp B with z|z
   .exact ag e z λy=>nm ((ai _).mpr (.inl y))
   .cases bo.mp z;exact absurd ((ai _).mpr (.inr Y)) nm⟩
  clear h6 F6 a8 dp;obtain⟨o,nl,gl,er,_,⟨xs,hx,px⟩,lg,z1,z2⟩:=hp.fr F7 (.inr ());have e1:H7 a.jb=U (.ins t.q03 a.dj (JX a.mks a.la a.re a.db)):=h7.at (i:=2) rfl;have rl:=h7.rl;obtain⟨kk,r0⟩:=h7.rr;refine⟨_,Y,r,_,1,_,Y,Y,sW.of er,Y,nl,Y,⟨_,aQ.of hx⟩,yM xs (ptI a r ac l (λb=>C b=11\/H7 b=ak) (tO ld) s.no H7) ⟨⟨_,_,Y⟩,mt.refl,Dm.refl,kk,(r0.keep (F':=λb=>C b=11\/H7 b=ak) rl (λb o _ e=>e) λ_ z=>.inl z).eqv λp i=>by simp⟩ (λi σ H' ⟨_,k,_⟩=>aQ.of (k _ _ hx (λz=>by rw[z,rl] at z1;cases z1) (.inr λz=>z.elim (λy=>by rw[z1] at y;cases y) λy=>by rw[hx] at y;cases y))) ?_ ?_⟩
  .rintro i u σ H' hu ⟨⟨o3,o4,rfl⟩,k,dm,a2,J⟩;obtain⟨y,A,w,p,rfl,ew,ep⟩:=Paired.getP px hu;have tk:∀b zs,H7 b=U (.tup zs)->H' b=U (.tup zs):=λb zs e=>k _ _ e (zM e r0.at_ ()) (.inl λ_ z=>nomatch z);refine⟨w,_,Y,sW.of (tk _ _ ew),Y,_,_,Y,_,_,Y,Y,?_⟩;have np:=zdp nt.nd A;have bd:∀ {p:Pl},p∈(s.no.take i).map (·.1)->p∈s.no.map (·.1):=λz=>by
    obtain⟨x,hx,rfl⟩:=bB.mp z;exact bq (dH hx)
   have rk:∀p j,tO ld p j->j∈ld.map (·.1):=λp j ⟨e,B,ei,_⟩=>bB.mpr ⟨e,B,ei⟩;refine(ye (k _ _ e1 (zM e1 r0.at_ ()) (.inl λ_ z=>nomatch z)) I.cJ I.j3 Y Y ⟨_,Y,_,Y,a.re,p,ac,_,_,a2,y.1,Y,J,.inl rl,λb z=>.inr ?_,tk _ _ ep,λz=>z.elim (λz=>nr (rk _ _ z)) λz=>np z.2,?_,λrs hp ha=>?_,λH3 bj k3 d3 r3=>⟨⟨_,_,Y⟩,k.trans k3,dm.trans d3,bj,r3.eqv λp j=>?_⟩⟩)
   .cases e:H7 b with
    |none=>rfl
    |some o=>obtain⟨o',e',_⟩:=dm b o e;rw[z] at e';cases e'
   .refine zfX (l:=ld.map (λe=>(e.1,e.2.1.no))++[(ac,s.no)]) J (λp r z=>?_) (λy A=>?_) (by rw[bC,bg];show _+1<=300;lia)
    .rcases z with ⟨e,B,ei,ep⟩|z
     .exact⟨e.2.1.no,cr _ (bB.mpr ⟨e,B,by rw[<-ei]⟩),ep⟩
     .exact⟨s.no,bK _ (by rw[z.1];exact bo.mpr Y),bd z.2⟩
    .rcases bu.mp A with z|z
     .obtain⟨e,B,rfl⟩:=bB.mp z;exact⟨(ar e B).nd,bO (ar e B).ln ()⟩
     .cases bo.mp z;exact⟨nt.nd,bO nt.ln ()⟩
   .have:=wj (b:=ld.map (·.1)) (hp.imp λz=>rQ z) λx hx=>(ha x hx).elim (rk _ _) λz=>absurd z.2 np;rw[bg] at this;lia
   .rw[zbB A,and_or_left,or_assoc]
  .rintro σ H' ⟨⟨o3,o4,rfl⟩,k,dm,a2,J⟩;rw[bL px,cx] at J;obtain⟨lb',F8,h8⟩:=h7.regrow Y k dm (J.eqv (P':=tO (ld++[(ac,s,gi)])) λp i=>⟨λz=>z.elim (λ⟨e,B,z⟩=>⟨e,cr _ B,z⟩) λz=>⟨_,bK _ (bo.mpr Y),z.1.symm,z.2⟩,λ⟨e,B,z⟩=>(bu.mp B).imp (λB=>⟨e,B,z⟩) λB=>by cases bo.mp B;exact⟨z.1.symm,z.2⟩⟩);have F9:=F7.trans F8;exact q H' lb' _ db7 F9 h8 ((wI hl F9 (.inr ())).put nr ⟨r,Y,hp.fr F9 (.inr ())⟩) bz
end
section
variable {f n:Int}{g:List aN}{CC:List (List Cs)}{S:DS}{r:Int}{k m:Nat}
theorem rks_mem:r∈vS f k m↔∃j:Nat,r=f+j/\k<=j/\j<m:=by
 unfold vS;rw[bB];constructor
 .rintro⟨i,a,rfl⟩;rw[List.mem_range] at a;exact⟨k+i,(),(),()⟩
 .rintro⟨j,rfl,c,b⟩;exact⟨j-k,by rw[List.mem_range];lia,()⟩
theorem zf5:(vS f k m).Nodup:=by
 unfold vS;refine List.Pairwise.map _ (λa b (h:a≠b)=>?_) rW;lia
theorem hV.rk(h:hV n f g CC S)(m:r∈S.ws++(S.hl.map (·.2.1)++S.ld.map (·.1))):∃j:Nat,r=f+j/\S.en<=j/\j<CC.length:=rks_mem.mp (h.pm.mem_iff.mp m)
theorem hV.rw_(h:hV n f g CC S)(m:r∈S.ws):∃j:Nat,r=f+j/\S.en<=j/\j<CC.length:=h.rk (cr _ m)
theorem hV.rh(h:hV n f g CC S){e:Int×Int×Nat×aY}(m:e∈S.hl):∃j:Nat,e.2.1=f+j/\S.en<=j/\j<CC.length:=h.rk (bK _ (cr _ (bq (f:=λe:Int×Int×Nat×aY=>e.2.1) m)))
theorem hV.rl(h:hV n f g CC S)(m:r∈S.ld.map (·.1)):∃j:Nat,r=f+j/\S.en<=j/\j<CC.length:=h.rk (bK _ (bK _ m))
theorem hV.nd(h:hV n f g CC S):S.ws.Nodup/\((S.hl.map (·.2.1)).Nodup/\(S.ld.map (·.1)).Nodup/\∀x∈S.hl.map (·.2.1),∀y∈S.ld.map (·.1),x≠y)/\∀x∈S.ws,∀y∈S.hl.map (·.2.1)++S.ld.map (·.1),x≠y:=by
 have z:=h.pm.nodup_iff.mpr zf5;rw[cQ,cQ] at z;exact z
theorem hV.len(h:hV n f g CC S):S.ws.length+(S.hl.length+S.ld.length)+S.en=CC.length:=by
 have z:=h.pm.length_eq;have:=h.el;unfold vS at z;simp only[bC,bg,mV] at z;lia
end
section
variable {H':Hp}{lb lb':D->Nat}{Bo:List (D×HO)}{m re d b dx:D}{a:tW}{g:List aN}{lays:List (Int×List aN)}{P:Pl->Int->Prop}{cs en:List V}{CC:List (List Cs)}{C:List Cs}{n f h0 ac:Int}{ws db:List Int}{kv la:List (aU×V)}{o o' wo:HO}{i k:Nat}{hl:List (Int×Int×Nat×aY)}{S:DS}{v:V}{s:aY}{M:Nat->Prop}
theorem Wb(c:DkF K t)(h:H d=U (.ins t.q01 dx (Xo a n f)))(e:H a.en=U (.lst en))(q:Q (.int (f+en.length)) H) :
  qK K t (sS Q) (L2.start ["self"] [.ref d]) H:=(ye h c.cD c.d3 Y Y (ye h c.cD c.d9 Y Y ⟨.ref a.en,en.length,Y,.inl ⟨_,aQ.of e,Y⟩,_,_,Y,Y,q⟩))
theorem YN(c:DkF K t)(h:H d=U (.ins t.q01 dx (Xo a n f)))(e:H a.cl=U (.lst cs))(q:Q (.int (f+cs.length)) H) :
  jJ K t (sS Q) (L2.start ["self"] [.ref d]) H:=(ye h c.cD c.d3 Y Y (ye h c.cD c.d4 Y Y ⟨.ref a.cl,cs.length,Y,.inl ⟨_,aQ.of e,Y⟩,_,_,Y,Y,q⟩))
theorem XH(h:i<ws.length):(ws.map V.int)[i]?=U (.int (ws.getD i 0))/\ws.getD i 0∈ws:=by
 have e:ws.getD i 0=ws[i]:=by rw[bD,bb h];rfl
 rw[e];exact⟨by rw[bA,bb h];rfl,dZ h⟩
theorem Jy{x l:D}(h:H l=U (.lst (ws.map V.int)))(c:ws≠[])(q:Q (.int (ws.getD 0 0)) H):Yl K t (sS Q) (L2.start ["self","ranks"] [.ref x,.ref l]) H :=
 ⟨_,Y,l,_,(0:Nat),_,Y,Y,aQ.of h,yn (XH (fY.mpr c)).1,q⟩
theorem zdq(h1:ws≠[]):ub (ws.map V.int) (-1)=U (.int (ws.getD (ws.length-1) 0)):=by
 have z:ws.map V.int=ws.dropLast.map V.int++[V.int (ws.getLast h1)]:=by rw[<-List.map_singleton,<-bR,List.dropLast_concat_getLast]
 have e:ws.getD (ws.length-1) 0=ws.getLast h1:=by
  have:=fY.mpr h1;rw[List.getLast_eq_getElem,bD,bb ()];rfl
 rw[z,e];exact L2.atI_last _ _
theorem YO{x l:D}(h:H l=U (.lst (ws.map V.int)))(c:ws≠[])(q:Q (.int (ws.getD (ws.length-1) 0)) H):jK K t (sS Q) (L2.start ["self","ranks"] [.ref x,.ref l]) H :=
 ⟨_,Y,1,Y,l,_,-1,_,Y,Y,aQ.of h,zdq c,q⟩
theorem Wc{x:D}(c:DkF K t)(h:H x=U (.ins t.q05 dx []))(q:Q .non (upd H x (.ins t.q05 dx [(bh "times",.int 0)]))):qS K t (sS Q) (L2.start ["self"] [.ref x]) H:=⟨_,Y,x,_,dx,[],Y,h,c.cT,c.t1,(),q⟩
theorem YQ{x l:D}(e:DkF K t)(h:H l=U (.lst (ws.map V.int)))(r:ws≠[])(c:H x=U (.ins t.q05 dx [(bh "times",.int k)]))(q:Q (.int (ws.getD (k%ws.length) 0)) (upd H x (.ins t.q05 dx [(bh "times",.int (k+1:Nat))]))):jL K t (sS Q) (L2.start ["self","ranks","at"] [.ref x,.ref l]) H:=by
 have p:0<ws.length:=fY.mpr r;have j:k%ws.length<ws.length:=rD _ p;refine(ye c e.cT e.t1 Y Y ⟨_,Y,.ref l,ws.length,Y,.inl ⟨_,aQ.of h,(bg ..).symm⟩,_,_,Y,Y,by show (0:Int)<(ws.length:Int);lia,?_⟩);refine⟨_,Y,x,_,dx,_,_,Y,c,e.cT,e.t1,Y,_,_,Y,Y,dx,_,c,by show 1<1000;decide,?_⟩;refine⟨_,Y,_,Y,l,_,(k%ws.length:Nat),_,Y,congrArg V.int (nM _ _).symm,aQ.of (by rw[zi (zM h c ())];exact h),yn (XH j).1,q⟩
open Classical in
theorem tj.relab{N:D->Prop}(n:Nat)(O:13<=n)(h:tj t H lb Bo m re g lays P cs CC)(s:aJ H H')(p:∀b,N b->H b=ak/\∃o,H' b=U o):∃lb',Fr M H H' lb lb'/\tj t H' lb' Bo m re g lays P cs CC/\∀b,N b->lb' b=n:=by
 have u:∀b,N b->lb b=0:=λb z=>h.out (p b z).1;have j:∀b,lb b≠0->(if N b then n else lb b)=lb b:=λb z=>am λy=>z (u b y);have q:(λb=>(if N b then n else lb b)=10)=λb=>lb b=10:=funext λb=>propext (by
  by_cases y:N b
  .rw[ap y,u b y];lia
  .rw[am y])
 have rl:=h.rl;obtain⟨kk,x⟩:=h.rr;refine⟨λb=>if N b then n else lb b,⟨λb o e=>am (λy=>by rw[(p b y).1] at e;cases e),λb o _ e=>s _ _ e,λb J e=>s _ _ e,λb o e=>⟨o,s _ _ e⟩⟩,⟨λi b o e=>?_,by rw[q];exact h.ms.same s,⟨kk,x.keep rl (λb o _ e=>s _ _ e) λb z=>(j b ()).trans z⟩,(j _ ()).trans rl,Paired.mapP h.cc λv C ⟨⟨c,w,l,B,A⟩,r⟩=>⟨⟨c,w,l,s _ _ B,wa s A⟩,λc l=>(j c (by rw[r c l];decide)).trans (r c l)⟩,λb E=>?_⟩,λb z=>ap z⟩
 .obtain⟨I,G⟩:=h.ob i b o e;exact⟨s _ _ I,(j b ()).trans G⟩
 .by_cases y:N b
  .exact(p b y).2
  .obtain⟨o,e⟩:=h.ow b (λz=>E ((am y).trans z));exact⟨o,s _ _ e⟩
theorem tj.addC(h:tj t H lb Bo m re g lays P cs CC)(s:aJ H H')(q:H c=ak)(l:uh H' (.ref c) C):∃lb',Fr M H H' lb lb'/\tj t H' lb' Bo m re g lays P (cs++[.ref c]) (CC++[C]):=by
 obtain⟨u,w,r,p,x⟩:=id l;cases r;obtain⟨lb',F,j,z⟩:=h.relab (N:=λb=>b=c) 13 () s λb e=>by rw[e];exact⟨q,_,p⟩
 exact⟨lb',F,j.ob,j.ms,j.rr,j.rl,Paired.snocP j.cc ⟨l,λu e=>by cases e;exact z c Y⟩,j.ow⟩
theorem aX.fr(R:aX t H x ra C s)(l:∀b,OwA x ra b->lb b=N)(F:Fr M H H' lb lb')(c:M N):aX t H' x ra C s/\∀b,OwA x ra b->lb' b=N:=by
 have k:∀ {b o},OwA x ra b->H b=U o->H' b=U o:=λ{b o} z e=>F.kp b o (by rw[l b z];exact c) e;refine⟨⟨k (.inl (.inl Y)) R.ix,let ⟨xs,hx,px⟩:=R.hc;⟨xs,k (.inr Y) hx,xO F.ts px⟩,k (.inl (.inr (.inl Y))) R.hs,k (.inl (.inr (.inr (.inl Y)))) R.hg,k (.inl (.inr (.inr (.inr (.inl Y))))) R.hn,k (.inl (.inr (.inr (.inr (.inr Y))))) R.ha,R.ng,R.nc⟩,λb z=>?_⟩;cases e:H b with
 |none=>exact absurd e (R.has z)
 |some o=>exact(F.ex b o e).trans (l b z)
theorem HdAt.fr{e:Int×Nat×aY}(h:HdAt t H lb f CC h0 v e)(F:Fr M H H' lb lb')(j:M (20+h0.toNat)):HdAt t H' lb' f CC h0 v e:=by
 obtain⟨tp,x,ra,C,p,q,r,R,l⟩:=h;obtain⟨u,c⟩:=R.fr l F j;exact⟨tp,x,ra,C,p,F.ts _ _ q,r,u,c⟩
theorem qx(h:Pk (HdAt t H lb f CC) kv hl)(F:Fr M H H' lb lb')(c:∀k:Nat,M (20+k)):Pk (HdAt t H' lb' f CC) kv hl:=Paired.mapP h λ_ _ ⟨e,z⟩=>⟨e,z.fr F (c _)⟩
theorem Yq(k:Nat):M1 (20+k):=.inr ()
theorem tM.of(h:tM t H d a lb n f g CC S)(k:∀b o,lb b≠0->H b=U o->H' b=U o)(c:uc H H')(j:∀b o,H b=U o->∃o',H' b=U o'):tM t H' d a lb n f g CC S:=by
 obtain⟨wo,cs,kv,la,db,en,h,u,hl,r,q,p⟩:=h;have F:Fr (λl=>l≠0) H H' lb lb:=⟨λ_ _ _=>rfl,k,c,j⟩;exact⟨wo,cs,kv,la,db,en,h.keep Y (λb o z _ e=>k b o z e) c j,qx u F (λk=>by lia),wI hl F (),r,q.fr F (),p⟩
theorem tM.same(h:tM t H d a lb n f g CC S)(s:aJ H H'):tM t H' d a lb n f g CC S:=h.of (λb o _ e=>s _ _ e) (uc.of s) λb o e=>⟨o,s _ _ e⟩
theorem tM.put(h:tM t H d a lb n f g CC S)(hl:H l=U (.lst xs))(z:lb l=0):tM t (upd H l (.lst ys)) d a lb n f g CC S:=h.of (λb o y e=>by rw[zi (λw=>y (by rw[w];exact z))];exact e) (vA hl λ_ z=>nomatch z) Wa
theorem tM.l0(h:tM t H d a lb n f g CC S)(e:H b=ak):lb b=0:=by obtain⟨wo,cs,kv,la,db,en,h,_⟩:=h;exact h.out e
theorem tM.cmp(h:tM t H d a lb n f g CC S):H d=U (.ins t.q01 a.dx (Xo a n f))/\∃cs en,H a.cl=U (.lst cs)/\H a.en=U (.lst en)/\cs.length=CC.length/\en.length=S.en:=by
 obtain⟨wo,cs,kv,la,db,en,h,_,_,_,c,_⟩:=h;exact⟨h.at (i:=0) Y,cs,en,h.at (i:=3) Y,h.at (i:=8) Y,bL h.cc,c.le⟩
theorem zab{B:List V}{_E:XK}(r:DkF K t)(h:vi t B H Q _E) :
  WO K t (sS Q) (L2.start ["self","code","rank"] B) H:=by
 obtain⟨d,v,a,lb,n,f,g,CC,C,S,rfl,h1,h,h2,h3,q⟩:=h;obtain⟨wo,cs,kv,la,db,en,h,hh,hl,T,O,N⟩:=h;have lc:=bL h.cc;have w:H d=U (.ins t.q01 a.dx (Xo a n f)):=h.at (i:=0) rfl;obtain⟨c0,A,rfl,hy,py⟩:=h1;refine(ji w Y Y ⟨d,_,a,n,f,cs,Y,w,h.at (i:=3) Y,?_⟩);rw[lc];refine(ye w r.cD r.d4 Y Y ⟨.inl ⟨Y,_,aQ.of (h.at (i:=3) Y)⟩,_,Y,c0,A,Y,.inl (aQ.of hy),λc G=>?_⟩);generalize c_:upd H c _=H2;obtain⟨E,e2⟩:=xc c_ G;obtain⟨l,F2,u⟩:=h.addC (M:=M1) (C:=C) E G ⟨c,A,Y,e2,wa E py⟩;have j:=u.put (i:=3) (o':=.lst (cs++[.ref c])) Y Y ();have F5:=F2.trans (u.fput (i:=3) (o':=.lst (cs++[.ref c])) Y ());refine⟨a.cl,cs,_,Y,Y,u.at (i:=3) Y,bT (show cs.length<=10 by lia) (by rw[bH];decide),?_⟩;generalize upd H2 a.cl (.lst (cs++[.ref c]))=H5 at *
 have j:tj t H5 l (tZ t d a n f wo (cs++[.ref c]) S.ws kv la db en) a.mks a.re g S.ls (tO S.ld) (cs++[.ref c]) (CC++[C]):=j;refine(ye (j.at (i:=0) Y) r.cD r.d5 Y Y ⟨.inl ⟨Y,_,aQ.of (j.at (i:=4) Y)⟩,_,Y,a.wl,_,_,Y,Y,j.at (i:=4) Y,bT (by rw[bg];exact h3) (by rw[bH];decide),_,Y,?_⟩);have I:=j.put (i:=4) (o':=.lst ((S.ws++[f+CC.length]).map V.int)) Y Y ();have p:=F5.trans (j.fput (i:=4) (o':=.lst ((S.ws++[f+CC.length]).map V.int)) Y ());rw[bR] at I p;refine q _ l p.m0 ⟨wo,_,kv,la,db,en,by rw[tZ,zd5,bR];exact I,Paired.mapP (qx hh p Yq) λ_ _ ⟨e,tp,x,ra,C,ev,et,J,z,y⟩=>⟨e,tp,x,ra,C,ev,et,?_,z,y⟩,wI hl p (.inr ()),T,O.fr p (.inr ()),N⟩;rw[cF (bn.mp J).1];exact J
end
section
variable {H':Hp}{lb lb':D->Nat}{d b dx:D}{a:tW}{g:List aN}{cs en:List V}{CC:List (List Cs)}{C:List Cs}{n f h0 ac w:Int}{ws db:List Int}{kv la:List (aU×V)}{o o' wo:HO}{i k:Nat}{r:D}{hl:List (Int×Int×Nat×aY)}{S:DS}{v:V}{M:Nat->Prop}
theorem ZM(q:D)(h:H b=U (.tup (.str (evW e)::.int h0::evX q e)))(p:∀p,evP e=U p->H q=U (.tup [.str p.1,.int p.2])):tG H (.ref b) (h0,e):=⟨b,q,Y,h,p⟩
theorem zcz(l:DkF K t)(h:tM t H d a lb n f g CC S)(O:hV n f g CC S)(fr:h0 ∉ S.hl.map (·.1))(hw:w∈S.ws)(q:∀v H' lb',Fr M0 H H' lb lb'->tG H' v (h0,.take w)->tM t H' d a lb' n f g CC { S with ws:=S.ws.erase w,hl:=S.hl++[(h0,w,0,st0)] }->Q v H') :
  wd K t (sS Q) [U (.ref d),U (.int h0),U (.int w)] H:=by
 obtain⟨wo,cs,kv,la,db,en,h,hh,hl,hd,le,wy⟩:=h;obtain⟨k,rfl,_,hk⟩:=O.rw_ hw;have l5:=O.cc.le;have ln:=O.len;have e1:H d=U (.ins t.q01 a.dx (Xo a n f)):=h.at (i:=0) rfl;refine(ye e1 l.cD l.d5 Y Y ⟨.inl ⟨Y,_,aQ.of (h.at (i:=4) Y)⟩,_,Y,a.wl,_,f+k,Y,Y,h.at (i:=4) Y,hw,?_⟩);have j:=h.put (i:=4) (o':=.lst ((S.ws.erase (f+k)).map V.int)) Y Y ();have F3:=h.fput (i:=4) (o':=.lst ((S.ws.erase (f+k)).map V.int)) Y ();generalize upd H a.wl (.lst ((S.ws.erase (f+k)).map V.int))=H3 at *
 have j:tj t H3 lb (tZ t d a n f wo cs (S.ws.erase (f+k)) kv la db en) a.mks a.re g S.ls (tO S.ld) cs CC:=j;have e3:H3 d=U (.ins t.q01 a.dx (Xo a n f)):=j.at (i:=0) rfl;obtain⟨v,hv⟩:∃v,cs[k]?=U v:=⟨_,bb (by rw[bL j.cc];exact hk)⟩;obtain⟨C,hC,⟨c,ys,rfl,hc,pc⟩,_⟩:=Paired.getP j.cc hv;refine⟨_,Y,ye e3 l.cD l.d4 Y Y ⟨_,Y,ye e3 l.cD l.d3 Y Y ⟨_,_,Y,Y,a.cl,cs,k,_,Y,congrArg V.int (),aQ.of (j.at (i:=3) Y),yn hv,?_⟩⟩⟩;intro x dx hx y n';have J:aJ H3 (upd (upd H3 dx (HO.own x)) x (HO.ins t.q00 dx [])):=λb o e=>by rw[zi (zw e hx),zi (zw e y)];exact e
 refine⟨x,c,dx,ys,C,Y,zh,J _ _ hc,wa J pc,λH5 ra k5 R5 A=>?_⟩;obtain⟨s5,ow⟩:=zfU (aJ.refl H3) hx y k5 A;obtain⟨u,F5,h5,T⟩:=j.relab (M:=M1) (N:=OwA x ra) (20+h0.toNat) () s5 λb z=>⟨ow b z,by
  cases e:H5 b with
  |none=>exact absurd e (R5.has z)
  |some o=>exact⟨o,Y⟩⟩
 refine⟨Y,by show 2<=Bb;rw[bH];decide,λs ht=>?_⟩;generalize c_:upd H5 s _=H6;obtain⟨I,e6⟩:=xc c_ ht;have E:=h5.same Y I;have F6:=(F3.trans F5).trans (Fr.same I);have R6:=R5.same I;clear h5 R5 j F3 F5 J k5 A s5;have aa:kv.length=S.hl.length:=bL hh;refine(ye (E.at (i:=0) Y) l.cD l.d6 Y Y ⟨_,Y,a.hd,_,Y,.k (k:=.inl h0) (E.at (i:=5) Y) (by rw[bH];lia),?_⟩);have h7:=E.put (i:=5) (o':=.dK (yJ kv (.inl h0) (.ref s))) Y Y ();have m:=E.fput (i:=5) (o':=.dK (yJ kv (.inl h0) (.ref s))) Y ();generalize upd H6 a.hd (.dK (yJ kv (.inl h0) (.ref s)))=H7 at *
 have h7:tj t H7 u (tZ t d a n f wo cs (S.ws.erase (f+k)) (yJ kv (.inl h0) (.ref s)) la db en) a.mks a.re g S.ls (tO S.ld) cs CC:=h7;have F7:=F6.trans m;obtain⟨R7,l7⟩:=R6.fr T m (Yq _);refine⟨_,Y,_,Y,by show 3<=Bb;rw[bH];decide,λp hp=>?_⟩;have B:=sX (o:=HO.tup [V.str "take",V.int h0,V.int (f+k)]) p hp;have G:=F7.trans (Fr.same B);exact q (.ref p) _ u G.m0 (ZM p zh λ_ z=>nomatch z) ⟨wo,cs,_,la,db,en,h7.same Y B,(qx hh G Yq).put fr ⟨s,x,ra,C,Y,B _ _ (m.ts _ _ e6),by rw[show (f+(k:Int)-f).toNat=k by lia];exact hC,R7.same B,l7⟩,wI hl G (.inr ()),hd,le.fr G (.inr ()),wy⟩
theorem hV.wc(h:hV n f g CC S)(c:Nat):hV n f g CC { S with wc:=c }:=⟨h.f0,h.cc,h.el,h.pm,h.so,h.hn,h.hr,h.rn,h.nt,h.ly,h.gw,h.lw⟩
theorem ziQ(h:ws≠[]):chW k ws c∈ws:=by
 have e:=fY.mpr h;refine(XH ?_).2;unfold chI;split
 .exact e
 .split
  .lia
  .exact rD _ e
theorem XI{A:List V}{_E:XK}(e:DkF K t)(h:xU t A H Q _E) :
  kJ K t (sS Q) (L2.start ["self","hand","rank"] A) H:=by
 obtain⟨d,a,lb,n,f,h0,g,CC,S,rfl,h,J,fr,y,q⟩:=h;obtain⟨wo,cs,kv,la,db,en,h,O,hl,T,N,E⟩:=h;have u:H d=U (.ins t.q01 a.dx (Xo a n f)):=h.at (i:=0) rfl;have z:H a.wy=U wo:=h.at (i:=1) rfl;have B:=ziQ (k:=S.wk) (c:=S.wc) y;have s:∀ {H2 m},Fr M1 H H2 lb lb->tj t H2 lb (tZ t d a n f m cs S.ws kv la db en) a.mks a.re g S.ls (tO S.ld) cs CC->zg5 t a m S.wk (S.wc+1)->wd K t (sS Q) [U (.ref d),U (.int h0),U (.int (chW S.wk S.ws S.wc))] H2:=λ{H2 m} F x I=>zcz e (S:={ S with wc:=S.wc+1 }) ⟨m,cs,kv,la,db,en,x,qx O F Yq,wI hl F (.inr ()),T,N.fr F (.inr ()),I⟩ (J.wc _) fr B λv H' lb' F' ev G=>q v H' lb' _ (F.m0.trans F') B rfl ev G;unfold chW chI at s;rcases E with ⟨ek,rfl⟩|⟨ek,rfl⟩|⟨ek,rfl⟩
 .rw[ek] at s;refine ye u e.cD e.d2 Y Y ⟨a.wy,_,_,_,_,Y,z,Y,.tail _ (.tail _ (.head _)),ye u e.cD e.d5 Y Y ⟨a.wl,_,Y,.inl (aQ.of (h.at (i:=4) Y)),λl j=>⟨a.wy,l,_,Y,zh,y,?_⟩⟩⟩;have p:=sX (o:=HO.lst (S.ws.map V.int)) l j;exact s (Fr.same p) (h.same Y p) (.inl ⟨Y,Y⟩)
 .rw[ek] at s;refine ye u e.cD e.d2 Y Y ⟨a.wy,_,_,_,_,Y,z,Y,.head _,ye u e.cD e.d5 Y Y ⟨a.wl,_,Y,.inl (aQ.of (h.at (i:=4) Y)),λl j=>⟨a.wy,l,_,Y,zh,y,?_⟩⟩⟩;have p:=sX (o:=HO.lst (S.ws.map V.int)) l j;exact s (Fr.same p) (h.same Y p) (.inr (.inl ⟨Y,Y⟩))
 .rw[ek] at s;refine ye u e.cD e.d2 Y Y ⟨a.wy,_,_,_,_,Y,z,Y,.tail _ (.head _),ye u e.cD e.d5 Y Y ⟨a.wl,_,Y,.inl (aQ.of (h.at (i:=4) Y)),λl j=>?_⟩⟩;have p:=sX (o:=HO.lst (S.ws.map V.int)) l j;have x:=h.same Y p;have h3:=x.put (i:=1) (o':=.ins t.q05 a.dw [(bh "times",.int (S.wc+1:Nat))]) Y Y ();have F3:=(Fr.same p).trans (x.fput (i:=1) (o':=.ins t.q05 a.dw [(bh "times",.int (S.wc+1:Nat))]) Y ());exact⟨a.wy,l,a.dw,_,S.wc,Y,zh,y,x.at (i:=1) Y,s F3 h3 (.inr (.inr ⟨Y,Y⟩))⟩
end
section
variable {H':Hp}{lb lb':D->Nat}{m d b u:D}{a:tW}{g:List aN}{cs en:List V}{CC:List (List Cs)}{n f h0 w:Int}{ws db:List Int}{kv la:List (aU×V)}{o o' wo:HO}{i k:Nat}{r:Int}{gi:List aN}{hl:List (Int×Int×Nat×aY)}{S:DS}{v:V}{s:aY}{y:aN}{qa:D}{R:St->Hp->Prop}
theorem zdr(B:DkF K t)(h:tM t H d a lb n f g CC S)(A:hV n f g CC S)(fr:h0 ∉ S.hl.map (·.1))(E:(f+(S.en:Int),s,gi)∈S.ld)(ag:ui g S.ls (f+S.en) s.no)(q:mvP t H d a lb n f h0 g CC S Q) :
  vn K t { nx:=λσ H'=>R σ H',rt:=Q } [U (.ref d),U (.int h0),U (.int (f+S.en)),U v] H:=by
 obtain⟨wo,cs,kv,la,db,en,h,hh,hl,hd,le,wy⟩:=h;have e1:H d=U (.ins t.q01 a.dx (Xo a n f)):=h.at (i:=0) rfl;have l5:=A.cc.le;have ln:=A.len;refine(ye e1 B.cD B.d9 Y Y ⟨.inl ⟨Y,_,aQ.of (h.at (i:=8) Y)⟩,ye e1 B.cD B.d8 Y Y ⟨a.jb,_,_,Y,h.at (i:=2) Y,Y,_,Y,⟨d,a,lb,n,f,wo,cs,S.ws,kv,la,db,en,g,S.ls,S.ld,CC⟩,f+S.en,s,gi,Y,h,hl,hd,A.nd.2.1.2.1,E,(A.nt _ E).nd,λr H3 j l x F3 M G I C=>?_⟩⟩);have l0:=le.le;refine⟨a.en,en,_,Y,Y,M.at (i:=8) Y,bT (show en.length<=5 by lia) (by rw[bH];decide),?_⟩;have J:=M.put (i:=8) (o':=.lst (en++[.ref r])) Y Y ();have O:=M.fput (i:=8) (o':=.lst (en++[.ref r])) Y ();generalize upd H3 a.en (.lst (en++[.ref r]))=H4 at *
 have J:tj t H4 j (tZ t d a n f wo cs S.ws kv l x (en++[.ref r])) a.mks a.re g S.ls (tO (yg S.ld (f+S.en))) cs CC:=J;refine⟨_,Y,_,Y,by show 3<=Bb;rw[bH];decide,λp hp=>?_⟩;have T:=sX (o:=HO.tup [V.str "settle",V.int h0,V.int (f+S.en)]) p hp;have c:=O.trans (Fr.same T);have N:=F3.trans c;exact q _ _ j _ _ N.m0 (ZM (e:=.settle (f+S.en)) p zh λ_ z=>nomatch z) (.settle E ag fr) ⟨wo,cs,kv,l,x,en++[.ref r],J.same Y T,qx hh N Yq,wI G c (.inr ()),I,⟨by rw[bC,l0];rfl,Paired.snocP (le.fr N (.inr ())).ps ⟨r,Y,C.fr c (.inr ())⟩⟩,wy⟩
theorem ziR(k:Nat):(ws.take k++r::ws.drop k).Perm (r::ws):=by
 refine List.perm_middle.trans ?_;rw[cV]
theorem ziS(h:ws.Pairwise (· < ·))(j:r ∉ ws)(p:∀x∈ws.take k,x<r)(l:∀x∈ws.drop k,r<=x):(ws.take k++r::ws.drop k).Pairwise (· < ·):=by
 have z:=h;rw[<-cV k ws,gL] at z;refine gL.mpr ⟨z.1,List.pairwise_cons.mpr ⟨λx c=>?_,z.2.1⟩,λx c y hy=>?_⟩
 .have:=l x c;have:r≠x:=λe=>j (by rw[e];exact c9 c);lia
 .rcases bE.mp hy with rfl|hy
  .exact p x c
  .exact z.2.2 x c y hy
theorem zds(B:DkF K t)(h:tM t H d a lb n f g CC S)(c:hV n f g CC S)(fr:h0 ∉ S.hl.map (·.1))(G:(r,s,gi)∈S.ld)(hy:FsN g S.ls r s.no y)(hn:∀e∈S.ld,e.1<r->ui g S.ls e.1 e.2.1.no)(ns:f+(S.en:Int)∈S.ld.map (·.1)->r=f+S.en)(hu:H u=U (.tup [.int r,.ref qa,.int y.2,.int (yj g S.ls y.1 r)]))(hq:H qa=U (.tup [.str y.1.1,.int y.1.2]))(q:mvP t H d a lb n f h0 g CC S Q){o2:Option V} :
  vm K t { nx:=λσ H'=>R σ H',rt:=Q } [U (.ref d),U (.int h0),o2,U (.ref u)] H:=by
 obtain⟨wo,cs,kv,la,db,en,h,hh,hl,hd,le,wy⟩:=h;have l5:=c.cc.le;have ln:=c.len;have nr:r ∉ S.ws:=λz=>c.nd.2.2 r z r (bK _ (bq (f:=λe:Int×aY×List aN=>e.1) G)) rfl;refine(ye (h.at (i:=0) Y) B.cD B.d8 Y Y ⟨a.jb,_,_,Y,h.at (i:=2) Y,Y,_,Y,u,_,0,_,Y,Y,sW.of hu,Y,⟨d,a,lb,n,f,wo,cs,S.ws,kv,la,db,en,g,S.ls,S.ld,CC⟩,r,s,gi,Y,h,hl,hd,c.nd.2.1.2.1,G,(c.nt _ G).nd,λr' H3 j l x F3 A T aa _=>?_⟩);have A:tj t H3 j (tZ t d a n f wo cs S.ws kv l x en) a.mks a.re g S.ls (tO (yg S.ld r)) cs CC:=A;have e3:H3 d=U (.ins t.q01 a.dx (Xo a n f)):=A.at (i:=0) rfl;have hu3:=F3.ts _ _ hu;refine(ye e3 B.cD B.d5 Y Y ⟨.inl ⟨Y,_,aQ.of (A.at (i:=4) Y)⟩,ye e3 B.cD B.d5 Y Y ⟨_,Y,u,_,0,_,Y,Y,sW.of hu3,Y,a.wl,S.ws,r,Y,A.at (i:=4) Y,c.so,λk H4 M hk k1 k2=>?_⟩⟩);have h4:=A.same Y M;have N:=M _ _ hu3;refine⟨_,Y,u,_,0,_,Y,Y,sW.of N,Y,a.wl,_,k,_,Y,Y,h4.at (i:=4) Y,by rw[bg];exact hk,by rw[bg];lia,?_⟩;have em:(S.ws.map V.int).take k++V.int r::(S.ws.map V.int).drop k=(S.ws.take k++r::S.ws.drop k).map V.int:=by rw[bR,bx,nH,nG]
 rw[em];have h5:=h4.put (i:=4) (o':=.lst ((S.ws.take k++r::S.ws.drop k).map V.int)) Y Y ();have E:=(Fr.same M).trans (h4.fput (i:=4) (o':=.lst ((S.ws.take k++r::S.ws.drop k).map V.int)) Y ());generalize upd H4 a.wl (.lst ((S.ws.take k++r::S.ws.drop k).map V.int))=H5 at *
 have h5:tj t H5 j (tZ t d a n f wo cs (S.ws.take k++r::S.ws.drop k) kv l x en) a.mks a.re g S.ls (tO (yg S.ld r)) cs CC:=h5;refine⟨_,Y,by show 2<=Bb;rw[bH];decide,λp1 O=>?_⟩;generalize c_:upd H5 p1 _=H6;obtain⟨J,e6⟩:=xc c_ O;refine⟨_,Y,p1,u,_,_,Y,Y,sW.of e6,sW.of (J _ _ (E.ts _ _ hu3)),(),by show 2+4<=Bb;rw[bH];decide,(),λ_ p hp=>?_⟩;have s7:=sX (o:=HO.tup [V.str "again",V.int h0,V.int r,V.ref qa,V.int y.2,V.int (yj g S.ls y.1 r)]) p hp;have C:=E.trans (Fr.same (J.trans s7));have I:=F3.trans C;exact q _ _ j _ _ I.m0 (ZM (e:=.again r y.1 y.2 _) qa zh λp e=>by cases e;exact I.ts _ _ hq) (.again G hy hn ns (ziR k) (ziS c.so nr k1 k2) fr) ⟨wo,cs,kv,l,x,en,h5.same Y (J.trans s7),qx hh I Yq,wI T C (.inr ()),aa,le.fr I (.inr ()),wy⟩
theorem zhq(J:DkF K t)(h:tM t H d a lb n f g CC S)(M:hV n f g CC S)(l:h0 ∉ S.hl.map (·.1))(E:∀e∈S.ld,ui g S.ls e.1 e.2.1.no)(B:f+(S.en:Int) ∉ S.ld.map (·.1))(q:mvP t H d a lb n f h0 g CC S Q){O N:Option V} :
  vo K t (sS Q) [U (.ref d),U (.int h0),O,N] H:=by
 have G:=h;obtain⟨wo,cs,kv,la,db,en,h,_⟩:=h;refine(ye (h.at (i:=0) Y) J.cD J.d5 Y Y ⟨by show 0<=Bb;exact bS _,λz T=>?_⟩);have c:=sX (o:=HO.lst []) z T;have C:=h.same Y c;have I:=G.same c;refine⟨a.wl,z,_,Y,Y,aQ.of (C.at (i:=4) Y),aQ.of zh,_,Y,?_⟩;generalize upd H z (.lst [])=H3 at *
 cases ew:S.ws with
 |nil =>
  refine zV Y ⟨_,Y,by show 2<=Bb;rw[bH];decide,λp hp=>?_⟩;have A:=sX (o:=HO.tup [V.str "rest",V.int h0]) p hp;exact q _ _ lb _ _ (Fr.same (c.trans A)) (ZM (e:=.rest) p zh λ_ z=>nomatch z) (.rest ew E B l) (I.same A)
 |cons x xs=>exact ym Y (ji (C.at (i:=0) Y) Y Y ⟨_,Y,d,a,lb,n,f,h0,g,CC,S,Y,I,M,l,(by rw[ew];exact λz=>nomatch z),λv H4 j r F4 hr er ev G4=>q v H4 j _ _ ((Fr.same c).trans F4) ev (.take hr er E B l) G4⟩)
theorem Z4{vs:List V}{_E:XK}(p:DkF K t)(h:xu t vs H Q _E) :
  v9 K t (sS Q) (L2.start ["self","hand","lowest","changed"] vs) H:=by
 obtain⟨d,a,lb,n,f,h0,g,CC,S,rfl,h,A,M,q⟩:=h;obtain⟨wo,cs,kv,la,db,en,h,hh,hl,hd,le,wy⟩:=h;have l5:=A.cc.le;have ln:=A.len;have T:H d=U (.ins t.q01 a.dx (Xo a n f)):=h.at (i:=0) rfl;have nn:∀e∈S.ld,0<=e.1:=λe J=>by
  obtain⟨j,z,_⟩:=A.rl (bq (f:=λe:Int×aY×List aN=>e.1) J);have:=A.f0;lia
 refine(ji T Y Y ⟨d,_,a,n,f,en,Y,T,h.at (i:=8) Y,?_⟩);rw[le.le];have gt:∀ {C B},Fr M1 H C lb lb->tj t C lb (tZ t d a n f wo cs S.ws kv la B en) a.mks a.re g S.ls (tO S.ld) cs CC->DbA g S.ls S.ld B->tM t C d a lb n f g CC S/\mvP t C d a lb n f h0 g CC S Q:=λE x l=>⟨⟨wo,cs,kv,la,_,en,x,qx hh E Yq,wI hl E (.inr ()),l,le.fr E (.inr ()),wy⟩,λv H' lb' e S' F=>q v H' lb' e S' (E.m0.trans F)⟩;have dg:∀ {C B},tj t C lb (tZ t d a n f wo cs S.ws kv la B en) a.mks a.re g S.ls (tO S.ld) cs CC->tz C a.la (.int (f+S.en)) (yf la (.inl (f+S.en))):=λx=>.k (k:=.inl (f+(S.en:Int))) (x.at (i:=6) Y);refine(ye T p.cD p.d8 Y Y ⟨a.jb,_,_,Y,h.at (i:=2) Y,Y,⟨d,a,lb,n,f,wo,cs,S.ws,kv,la,db,en,g,S.ls,S.ld,CC⟩,Y,h,hl,hd,show S.ld.length<=10 by lia,A.nd.2.1.2.1,nn,λC E x l=>?_,λv C B qa r s gi y E x l lo O hy N hq=>?_⟩)
 .obtain⟨I,G⟩:=gt E x l;refine⟨_,Y,ye (x.at (i:=0) Y) p.cD p.d8 Y Y ⟨a.jb,_,_,_,_,Y,x.at (i:=2) Y,p.cJ,p.j2,Y,a.la,_,Y,dg x,_,Y,?_⟩⟩;rcases hl.get (h:=f+(S.en:Int)) with ⟨z,nm⟩|⟨v,b,z,m,_⟩
  .rw[z];exact zV Y (zV Y ⟨_,Y,Y,_,Y,zV Y (zhq p I A M (λe J=>l.ag e J λz=>nomatch z) nm G)⟩)
  .rw[z];exact ym Y ⟨_,Y,Y,_,Y,ym Y (ym Y (zdr p I A M m (l.ag _ m λz=>nomatch z) G))⟩
 .obtain⟨I,G⟩:=gt E x l;have hn:∀e∈S.ld,e.1<r->ui g S.ls e.1 e.2.1.no:=λe J lt=>l.ag e J λz=>sG.mpr (lo _ z) lt;refine⟨_,Y,ye (x.at (i:=0) Y) p.cD p.d8 Y Y ⟨a.jb,_,_,_,_,Y,x.at (i:=2) Y,p.cJ,p.j2,Y,a.la,_,Y,dg x,_,Y,?_⟩⟩;rcases hl.get (h:=f+(S.en:Int)) with ⟨z,nm⟩|⟨w,b,z,m,_⟩
  .rw[z];exact zV Y (zV Y ⟨_,Y,Y,_,Y,ym Y (zds p I A M O hy hn (λz=>absurd z nm) N hq G)⟩)
  .rw[z];refine ym Y ⟨_,Y,Y,_,Y,zV Y ⟨_,Y,v,_,0,_,Y,Y,sW.of N,Y,_,Y,Y,_,Y,?_⟩⟩;by_cases c:r=f+S.en
   .refine zV (by rw[Bj (congrArg V.int c)];rfl) ?_;exact⟨_,Y,Y,_,Y,ym Y (zds p I A M O hy hn (λ_=>c) N hq G)⟩
   .refine ym (by rw[Bk (λe=>c (V.int.inj e))];rfl) (zdr p I A M m (l.ag _ m λz=>c ?_) G);obtain⟨j,e,jl,_⟩:=A.rl (bq (f:=λe:Int×aY×List aN=>e.1) O);have e:r=f+j:=e;have:=lo _ z;lia
end
section
variable {H':Hp}{lb lb':D->Nat}{Bo:List (D×HO)}{m re d b tp x:D}{a:tW}{ra:RAd}{g:List aN}{lays:List (Int×List aN)}{P:Pl->Int->Prop}{cs en:List V}{CC:List (List Cs)}{C:List Cs}{n f h0 r:Int}{db:List Int}{kv la:List (aU×V)}{wo:HO}{i j k:Nat}{gi:List aN}{hl:List (Int×Int×Nat×aY)}{S:DS}{v:V}{s s':aY}{M:Nat->Prop}{R:St->Hp->Prop}
theorem Kp.ts(R:aX t H x ra C s)(k:Kp x ra H H'):uc H H':=λb c e=>k b _ (λy=>by
 rcases y with y|y|y|y|y
 .rw[y,R.ix] at e;cases e
 .rw[y,R.hs] at e;cases e
 .rw[y,R.hg] at e;cases e
 .rw[y,R.hn] at e;cases e
 .rw[y,R.ha] at e;cases e) e
theorem zdt(R:aX t H x ra C s)(c:aX t H' x ra C s')(l:∀b,OwA x ra b->lb b=N)(k:Kp x ra H H'):Fr (λl=>l≠N) H H' lb lb:=⟨λ_ _ _=>rfl,λb o z e=>k b o (λy=>z (l b (.inl y))) e,Kp.ts R k,λb o e=>by
 by_cases y:OwA x ra b
 .cases e:H' b with
  |none=>exact absurd e (c.has y)
  |some o=>exact⟨o,Y⟩
 .exact⟨o,k b o (λz=>y (.inl z)) e⟩⟩
theorem tj.step(u:20<=N)(h:tj t H lb Bo m re g lays P cs CC)(p:Bo.length=9)(R:aX t H x ra C s)(q:aX t H' x ra C s')(l:∀b,OwA x ra b->lb b=N)(k:Kp x ra H H'):Fr (λl=>l≠N) H H' lb lb/\tj t H' lb Bo m re g lays P cs CC:=
 have F:=zdt R q l k
 ⟨F,h.keep p (λb o _ z e=>F.kp b o (show lb b≠N by lia) e) F.ts F.al⟩
structure MvI(t:aZ)(H:Hp)(d:D)(a:tW)(lb:D->Nat)(n f h0:Int)(g:List aN)(CC:List (List Cs))(S:DS)(wo:HO)(cs:List V)(kv la:List (aU×V))(db:List Int)(en:List V)(r:Int)(j:Nat)(s:aY)(tp x:D)(ra:RAd)(C:List Cs):Prop where
 o:tj t H lb (tZ t d a n f wo cs S.ws kv la db en) a.mks a.re g S.ls (tO S.ld) cs CC
 hh:Pk (HdAt t H lb f CC) kv S.hl
 hl:Pk (YM H lb) la S.ld
 hd:DbA g S.ls S.ld db
 le:EnI H lb en S.en S.es
 wy:zg5 t a wo S.wk S.wc
 hm:(h0,r,j,s)∈S.hl
 hv:yf kv (.inl h0)=U (.ref tp)
 ht:H tp=U (.tup [.int r,.ref x])
 ec:CC[(r-f).toNat]?=U C
 rn:aX t H x ra C s
 l20:∀b,OwA x ra b->lb b=20+h0.toNat
theorem MvI.same(h:MvI t H d a lb n f h0 g CC S wo cs kv la db en r j s tp x ra C)(k:aJ H H'):MvI t H' d a lb n f h0 g CC S wo cs kv la db en r j s tp x ra C :=
 ⟨h.o.same Y k,qx h.hh (Fr.same (M:=M1) k) Yq,wI h.hl (Fr.same (M:=M1) k) (.inr ()),h.hd,h.le.fr (Fr.same (M:=M1) k) (.inr ()),h.wy,h.hm,h.hv,k _ _ h.ht,h.ec,h.rn.same k,h.l20⟩
theorem MvI.step(h:MvI t H d a lb n f h0 g CC S wo cs kv la db en r j s tp x ra C)(e:hV n f g CC S)(p:aX t H' x ra C s')(k:Kp x ra H H'):Fr M0 H H' lb lb/\tM t H' d a lb n f g CC { S with hl:=Z3 S.hl h0 (r,j+1,s') }:=by
 obtain⟨F,q⟩:=h.o.step (N:=20+h0.toNat) () Y h.rn p h.l20 k;have c:=(e.hr _ h.hm).1;have c:0<=h0:=c;refine⟨F.mono λl z=>by unfold M0 at z;lia,wo,cs,kv,la,db,en,q,h.hh.set e.hn (λk v u m z y=>y.fr F ?_) (λv z=>?_),wI h.hl F (),h.hd,h.le.fr F (),h.wy⟩
 .have:=(e.hr _ m).1;have:0<=k:=this;lia
 .rw[h.hv] at z;cases z;exact⟨tp,x,ra,C,Y,F.ts _ _ h.ht,h.ec,p,h.l20⟩
theorem zeb(E:DkF K t)(h:MvI t H d a lb n f h0 g CC S wo cs kv la db en r j s tp x ra C)(c:hV n f g CC S)(ho:yH C s=ah)(q:mvP t H d a lb n f h0 g CC S Q) :
  Zz K t { nx:=λσ H'=>R σ H',rt:=Q } [U (.ref d),U (.int h0),U (.int r),U (.ref x),o4,o5] H:=by
 have eh:=h.o.at (i:=5) rfl;have l5:=c.cc.le;have ln:=c.len;obtain⟨C',al,I,w⟩:=c.rn _ h.hm;obtain rfl:C'=C:=bI (al.symm.trans h.ec);obtain⟨k,rk,_,kl⟩:=c.rh h.hm;have rk:r=f+k:=rk;have f0:=c.f0;refine(ye (h.o.at (i:=0) Y) E.cD E.d6 Y Y ⟨a.hd,Y,.inl ⟨_,.inl eh⟩,_,Y,_,.inl h0,_,eh,Y,h.hv,?_⟩);have A:=h.o.put (i:=5) (o':=.dK (yz kv (.inl h0))) Y Y ();have F3:=h.o.fput (i:=5) (o':=.dK (yz kv (.inl h0))) Y ();generalize upd H a.hd (.dK (yz kv (.inl h0)))=H3 at *
 have A:tj t H3 lb (tZ t d a n f wo cs S.ws (yz kv (.inl h0)) la db en) a.mks a.re g S.ls (tO S.ld) cs CC:=A;obtain⟨R3,_⟩:=h.rn.fr h.l20 F3 (Yq _);have l2:s.gi.length<=j:=I.ok.l2;have l3:s.no.length<=j:=I.ok.l3;have w:j<=11:=w;refine(ye (A.at (i:=0) Y) E.cD E.d8 Y Y ⟨a.jb,_,_,Y,A.at (i:=2) Y,Y,_,Y,ji R3.ix Y Y ⟨x,ra,C',s,Y,R3,(),I.ok.nd,(),(λH' z=>by rw[ho] at z;cases z),λr' o nl gl out H4 _ s4 aa ai _ hr oc hn hg gi=>?_⟩⟩);obtain⟨l,F4,h4,u⟩:=A.relab (M:=M1) (N:=λb=>b=nl\/b=gl) 14 () s4 λb z=>by
  obtain⟨xs,hx,_⟩:=id hn;obtain⟨ys,T,_⟩:=id hg;rcases z with rfl|rfl
  .exact⟨aa,_,hx⟩
  .exact⟨ai,_,T⟩
 have hP:tT H4 l r' s out:=⟨o,nl,gl,hr,oc,hn,hg,u _ (.inl Y),u _ (.inr Y)⟩;have lo:out.length<=s.gi.length:=zfT gi;have nt:zcv s.no out:=⟨I.ok.nd,zf2 gi,(),()⟩;have ll:S.ls.length<=5:=by
  have:=wj (b:=vS f 0 CC.length) h.o.ms.nd λx hx=>by
   obtain⟨y,T,rfl⟩:=bB.mp hx;have:=c.ly y T;exact rks_mem.mpr ⟨(y.1-f).toNat,(),(),()⟩
  unfold vS at this;rw[bg,bg,mV] at this;lia
 have nr:r ∉ S.ld.map (·.1):=λz=>c.nd.2.1.2.2 r (bq (f:=λe:Int×Int×Nat×aY=>e.2.1) h.hm) r z rfl;have B:=F3.trans F4;refine⟨⟨d,a,l,n,f,wo,cs,S.ws,_,la,db,en,g,S.ls,S.ld,CC⟩,r',r,s,out,Y,h4,wI h.hl B (.inr ()),h.hd,c.nt,show S.ld.length<=10 by lia,nr,show 0<=r by lia,show S.ls.length<=10 by lia,hP,nt,λH5 J O an F5 h5 ag aj=>?_⟩;refine⟨_,Y,_,Y,by show 3<=Bb;rw[bH];decide,λp hp=>?_⟩;have G:=sX (o:=HO.tup [V.str "lay",V.int h0,V.int r]) p hp;have F6:=B.trans (F5.trans (Fr.same G));exact q _ _ J _ _ F6.m0 (ZM (e:=.lay r) p zh λ_ z=>nomatch z) (.lay h.hm h.ec ho gi) ⟨wo,cs,_,O,an,en,h5.same Y G,(qx h.hh F6 Yq).drop,wI ag (Fr.same (M:=M1) G) (.inr ()),aj,h.le.fr F6 (.inr ()),h.wy⟩
theorem zec(Bp:DkF K t)(h:MvI t H d a lb n f h0 g CC S wo cs kv la db en r j s tp x ra C)(u:hV n f g CC S)(ho:yH C s=ao)(q:mvP t H d a lb n f h0 g CC S Q) :
  ZA K t (sS Q) [U (.ref d),U (.int h0),U (.int r),U (.ref x),ak,ak] H:=by
 obtain⟨A,T,I,y⟩:=u.rn _ h.hm;obtain rfl:A=C:=bI (T.symm.trans h.ec);obtain⟨O,lC⟩:=u.cc.ok A (bN h.ec);obtain⟨k,rk,_,kl⟩:=u.rh h.hm;have rk:r=f+k:=rk;have f0:=u.f0;have y:j<=11:=y;refine(ji h.rn.ix Y Y ⟨x,ra,A,s,Y,h.rn,O.ok,I.ok.so,λH3 J w=>?_,λp E H3 J w hq=>?_⟩)
 .have c:=h.same w;refine⟨_,Y,Y,_,Y,ym Y (ji c.rn.ix Y Y ⟨x,0,j,ra,A,s,Y,c.rn,O.ok,I.ok,(),λH4 k4 R4=>?_⟩)⟩;obtain⟨F4,G4⟩:=c.step u R4 k4;refine⟨_,Y,_,Y,by show 3<=Bb;rw[bH];decide,λp G=>?_⟩;have l:=sX (o:=HO.tup [V.str "step",V.int h0,V.int r]) p G;exact q _ _ lb _ _ ((Fr.same w).trans (F4.trans (Fr.same l))) (ZM (e:=.step r) p zh λ_ z=>nomatch z) (.step h.hm h.ec ho J) (G4.same l)
 .have c:=h.same w;obtain⟨_,_,im,_,sn,_⟩:=c.o.ms.ins;refine⟨_,Y,Y,_,Y,zV Y (ye (c.o.at (i:=0) Y) Bp.cD Bp.d7 Y Y ⟨a.mks,_,_,Y,im,sn,_,Y,_,Y,a.mks,E,r,_,g,S.ls,p,Y,c.o.ms,(),hq,λH4 B=>?_⟩)⟩;have N:=c.same B;refine(ji N.rn.ix Y Y ⟨_,Y,x,yj g S.ls p r,j,ra,A,s,Y,N.rn,O.ok,I.ok,(),λH5 k5 R5=>?_⟩);obtain⟨F5,G5⟩:=N.step u R5 k5;refine⟨_,Y,_,Y,_,Y,_,Y,by show 5<=Bb;rw[bH];decide,λp' G=>?_⟩;have l:=sX (o:=HO.tup [V.str "read",V.int h0,V.int r,V.ref E,V.int (yj g S.ls p r)]) p' G;exact q _ _ lb _ _ ((Fr.same (w.trans B)).trans (F5.trans (Fr.same l))) (ZM (e:=.read r p _) E zh λp e=>by cases e;exact l _ _ (F5.ts _ _ (B _ _ hq))) (.read h.hm h.ec ho J) (G5.same l)
theorem Ke{p:List V}{_E:XK}(c:DkF K t)(h:wD t p H Q _E) :
  Xs K t (sS Q) (L2.start ["self","hand","rank","run","place","worth"] p) H:=by
 obtain⟨d,a,lb,n,f,h0,g,CC,S,rfl,h,o,p0,pn,q⟩:=h;have G:=h;obtain⟨wo,cs,kv,la,db,en,h,A,hl,O,N,J⟩:=h;have l:H d=U (.ins t.q01 a.dx (Xo a n f)):=h.at (i:=0) rfl;have B:H a.hd=U (.dK kv):=h.at (i:=5) rfl;refine⟨_,Y,_,_,Y,Y,_,Y,zV (Bk ()) ⟨_,Y,ye l c.cD c.d1 Y Y ⟨_,_,Y,Y,_,Y,zV (Bk ()) ⟨_,Y,ye l c.cD c.d6 Y Y ⟨a.hd,_,Y,.k (k:=.inl h0) B,_,Y,?_⟩⟩⟩⟩⟩;rcases A.get (h:=h0) with ⟨z,nm⟩|⟨v,⟨r,j,s⟩,z,hm,tp,x,ra,C,rfl,ht,ec,R,l20⟩
 .rw[z];exact ym Y (ji l Y Y ⟨_,Y,d,a,lb,n,f,h0,g,CC,S,Y,G,o,nm,q⟩)
 .have dg:tz H a.hd (.int h0) (U (.ref tp)):=by
   have y:=tz.k (k:=.inl h0) B
   rwa [z] at y
  rw[z];refine zV Y (ye l c.cD c.d6 Y Y ⟨_,Y,a.hd,_,Y,dg,tp,_,0,_,Y,Y,sW.of ht,Y,?_⟩);refine(ye l c.cD c.d6 Y Y ⟨_,Y,a.hd,_,Y,dg,tp,_,1,_,Y,Y,sW.of ht,Y,?_⟩);refine(ji R.ix Y Y ⟨x,ra,C,s,Y,R,λE u=>⟨_,Y,?_⟩⟩);have I:MvI t E d a lb n f h0 g CC S wo cs kv la db en r j s tp x ra C:=MvI.same ⟨h,A,hl,O,N,J,hm,z,ht,ec,R,l20⟩ u;have w:mvP t E d a lb n f h0 g CC S Q:=λv H' lb' e T F=>q v H' lb' e T ((Fr.same u).trans F);cases ho:yH C s with
  |true=>exact ym Y (zeb c I o ho w)
  |false=>exact zV Y (zec c I o ho w)
end
structure PO(H0:Hp)(x w:D)(ox:HO)(H:Hp)(lb:D->Nat)(F:D->Prop)(E:List (Nat×D×HO)):Prop where
 hx:H x=U ox
 lx:lb x=1
 ob:∀e∈E,1<e.1/\H e.2.1=U e.2.2/\lb e.2.1=e.1
 ow:∀b,lb b≠0->∃o,H b=U o
 kp:K9 x H0 H
 fr:∀b,lb b≠0->b=x\/b=w\/H0 b=ak
 f10:∀b,lb b=10↔F b
section
variable {H0 H':Hp}{x w c:D}{ox o:HO}{lb:D->Nat}{E:List (Nat×D×HO)}{n:Nat}{N F:D->Prop}
theorem PO.put(h:PO H0 x w ox H lb F E)(o:HO):PO H0 x w o (upd H x o) lb F E:=by
 refine⟨zh,h.lx,λe d=>?_,λb z=>?_,λb u z e=>by rw[zi z];exact h.kp b u z e,h.fr,h.f10⟩
 .obtain⟨g,f,a⟩:=h.ob e d;exact⟨g,by rw[zi (λy=>by rw[y,h.lx] at a;lia)];exact f,a⟩
 .obtain⟨u,e⟩:=h.ow b z;exact Wa b u e
theorem PO.same(h:PO H0 x w ox H lb F E)(s:aJ H H'):PO H0 x w ox H' lb F E:=⟨s _ _ h.hx,h.lx,λe a=>let ⟨h1,h2,h3⟩:=h.ob e a;⟨h1,s _ _ h2,h3⟩,λb z=>let ⟨o,e⟩:=h.ow b z;⟨o,s _ _ e⟩,λb o z e=>s _ _ (h.kp b o z e),h.fr,h.f10⟩
theorem PO.l0(h:PO H0 x w ox H lb F E)(a:H c=ak):lb c=0/\H0 c=ak:=by
 have d:c≠x:=λz=>by rw[z,h.hx] at a;cases a
 refine⟨fJ (λz=>by obtain⟨o,e⟩:=h.ow c z;rw[a] at e;cases e),?_⟩;cases e:H0 c with
 |none=>rfl
 |some u=>have:=h.kp c u d e;rw[a] at this;cases this
open Classical in
theorem PO.lab{F':D->Prop}(h:PO H0 x w ox H lb F E)(n:Nat)(g:∀b,(N b/\n=10\/F b)↔F' b)(d:∀b,N b->lb b=0/\H0 b=ak/\∃o,H b=U o):∃a,PO H0 x w ox H a F' E/\(∀b,N b->a b=n)/\∀b,¬ N b->a b=lb b:=by
 have l:∀b,lb b≠0->¬ N b:=λb z y=>z (d b y).1;refine⟨λb=>if N b then n else lb b,⟨h.hx,(am (l x (by rw[h.lx];decide))).trans h.lx,λe f=>?_,λb z=>?_,h.kp,λb z=>?_,λb=>?_⟩,λb z=>ap z,λb z=>am z⟩
 .obtain⟨k,j,i⟩:=h.ob e f;by_cases y:N e.2.1
  .have:=(d _ y).1;lia
  .exact⟨k,j,(am y).trans i⟩
 .by_cases y:N b
  .exact(d b y).2.2
  .exact h.ow b (λw=>z ((am y).trans w))
 .by_cases y:N b
  .exact .inr (.inr (d b y).2.1)
  .exact h.fr b (λw=>z ((am y).trans w))
 .rw[<-g,<-h.f10];by_cases y:N b
  .rw[ap y,(d b y).1];simp[y]
  .rw[am y];simp[y]
theorem PO.new(h:PO H0 x w ox H lb F E)(n:Nat)(i:1<n)(g:n≠10)(f:H c=ak):∃a,PO H0 x w ox (upd H c o) a F ((n,c,o)::E):=by
 obtain⟨l0,j⟩:=h.l0 f;obtain⟨a,d,k,l⟩:=(h.same (sX c f (o:=o))).lab (N:=λb=>b=c) n (λb=>⟨λz=>z.resolve_left λy=>g y.2,.inr⟩) λb z=>by rw[z];exact⟨l0,j,_,zh⟩
 exact⟨a,d.hx,d.lx,λe he=>by
  rcases bE.mp he with rfl|he
  .exact⟨i,zh,k c Y⟩
  .exact d.ob e he,d.ow,d.kp,d.fr,d.f10⟩
open Classical in
theorem PO.init(h:H0 x=U o)(a:∃u,H0 w=U u):∃lb,PO H0 x w o H0 lb (λ_=>False) []/\(w≠x->lb w=2)/\∀b,b≠x->b≠w->lb b=0:=by
 refine⟨λb=>if b=x then 1 else if b=w then 2 else 0,⟨h,ap Y,(λe d=>nomatch d),λb z=>?_,λb u _ e=>e,λb z=>?_,λb=>?_⟩,λz=>(am z).trans (ap Y),λb z y=>(am z).trans (am y)⟩
 .by_cases y:b=x
  .rw[y];exact⟨_,h⟩
  .by_cases v:b=w
   .rw[v];exact a
   .rw[am y,am v] at z;exact absurd Y z
 .by_cases y:b=x
  .exact .inl y
  .by_cases v:b=w
   .exact .inr (.inl v)
   .rw[am y,am v] at z;exact absurd Y z
 .by_cases y:b=x
  .rw[ap y];simp
  .by_cases v:b=w
   .rw[am y,ap v];simp
   .rw[am y,am v];simp
section
variable {C dx:D}{fs:List (Str×V)}{fl:Str}{y:V}{σ:St}{Bp:qT}{k:Nat}
theorem PO.st(P:PO H0 x w (.ins C dx fs) H lb F E)(h:σ[0]?=U (U (.ref x)))(c:tR K C)(n:aP K C fl)(g:fs.length<1000)(q:∀H',PO H0 x w (.ins C dx (vJ fl y fs)) H' lb F E->Bp.nx σ H'):Z 0 σ H λf d=>∃a C dx fs,f=.ref a/\d a=U (.ins C dx fs)/\tR K C/\aP K C fl/\fs.length<1000/\Bp.nx σ (upd d a (.ins C dx (vJ fl y fs))):=⟨_,h,x,C,dx,fs,Y,P.hx,c,n,g,q _ (P.put _)⟩
theorem PO.stM(M:tF t H m F g [])(P:PO H0 x w (.ins C dx fs) H lb F E)(i:σ[0]?=U (U (.ref x)))(c:tR K C)(n:aP K C fl)(h:fs.length<1000)(q:∀H',PO H0 x w (.ins C dx (vJ fl y fs)) H' lb F E->tF t H' m F g []->Bp.nx σ H'):Z 0 σ H λf d=>∃a C dx fs,f=.ref a/\d a=U (.ins C dx fs)/\tR K C/\aP K C fl/\fs.length<1000/\Bp.nx σ (upd d a (.ins C dx (vJ fl y fs))):=⟨_,i,x,C,dx,fs,Y,P.hx,c,n,h,q _ (P.put _) (M.keep (λb o j e=>by rw[zi (λz=>by have:=(P.f10 b).mpr j;rw[z,P.lx] at this;cases this)];exact e) (vA P.hx λ_ z=>nomatch z))⟩
theorem PO.sv(P:PO H0 x w (.ins C dx fs) H lb F E)(f:σ[0]?=U (U (.ref x)))(d:σ[k]?=U (U y))(c:tR K C)(n:aP K C fl)(a:fs.length<1000)(q:∀H',PO H0 x w (.ins C dx (vJ fl y fs)) H' lb F E->Bp.nx σ H'):wb K (Z 0) (Z k) fl Bp σ H:=⟨_,d,P.st f c n a q⟩
theorem PO.so(o:HO)(m:Nat)(i:1<m)(h:m≠10)(P:PO H0 x w (.ins C dx fs) H lb F E)(r:σ[0]?=U (U (.ref x)))(c:tR K C)(n:aP K C fl)(l:fs.length<1000)(q:∀c H' d,PO H0 x w (.ins C dx (vJ fl (.ref c) fs)) H' d F ((m,c,o)::E)->Bp.nx σ H')(p:D)(j:H p=ak):Z 0 σ (upd H p o) λg f=>∃a C dx fs,g=.ref a/\f a=U (.ins C dx fs)/\tR K C/\aP K C fl/\fs.length<1000/\Bp.nx σ (upd f a (.ins C dx (vJ fl (.ref p) fs))):=by
 obtain⟨d,s⟩:=P.new (o:=o) m i h j;exact s.st r c n l λH'=>q p H' d
end
theorem Kf{l G:D}{d:List V}{C:List Cs}(F:RnF K t)(s:H x=U (.ins t.q00 G []))(h2:H l=U (.lst d))(h3:Paired (tE H) d C)(q:∀H' a,K9 x H H'->aX t H' x a C st0->(∀b,OwA x a b->b=x\/H b=ak)->Q .non H') :
  Zv K t (sS Q) (L2.start ["self","code"] [.ref x,.ref l]) H:=by
 obtain⟨lb,P,_⟩:=PO.init s ⟨_,s⟩;unfold Zv zo;refine⟨_,Y,l,d,Y,.inl (aQ.of h2),P.so (.lst d) 2 () () Y F.cl F.n1 () λv H1 T P=>P.st Y F.cl F.n2 (by show 1<1000;decide) λH2 P=>P.st Y F.cl F.n3 (by show 2<1000;decide) λH3 P=>P.so (.dK []) 3 () () Y F.cl F.n4 (by show 3<1000;decide) λA H4 O P=>P.so (.dT []) 4 () () Y F.cl F.n5 (by show 4<1000;decide) λu H5 M P=>P.so (.dT []) 5 () () Y F.cl F.n6 (by show 5<1000;decide) λr H6 J P=>⟨(),P.so (.lst []) 6 () () Y F.cl F.n7 (by show 6<1000;decide) λk I h P=>?_⟩⟩;have f:∀n c o,(n,c,o)∈_->I c=U o/\h c=n:=λn c o z=>(P.ob (n,c,o) z).2;have j:=f 2 v _ (.tail _ (.tail _ (.tail _ (.tail _ (.head _)))));have B:=f 3 A _ (.tail _ (.tail _ (.tail _ (.head _))));have i:=f 4 u _ (.tail _ (.tail _ (.head _)));have p:=f 5 r _ (.tail _ (.head _));have m:=f 6 k _ (.head _);have g:∀ {n:Nat} {b:D},h b=n+2->b=x\/H b=ak:=λ{n b} z=>(P.fr b ()).imp id λy=>y.elim (λy=>by rw[y,P.lx] at z;lia) id;refine q I ⟨G,v,A,u,r,k⟩ P.kp ⟨P.hx,⟨d,j.1,xO (λb zs e=>P.kp _ _ (zM e s ()) e) h3⟩,B.1,i.1,p.1,m.1,λz=>by rw[show u=r from z,p.2] at i;exact absurd i.2 (),λz=>by rw[show v=k from z,m.2] at j;exact absurd j.2 ()⟩ λb z=>?_;rcases z with (z|z|z|z|z)|z
 .exact .inl z
 .rw[z];exact g B.2
 .rw[z];exact g i.2
 .rw[z];exact g p.2
 .rw[z];exact g m.2
 .rw[z];exact g j.2
theorem Kg{l:List V}{_E:XK}(a:DkF K t)(h:qo t l H Q _E) :
  qq K t (sS Q) (L2.start ["self","makes"] l) H:=by
 obtain⟨x,m,O,rfl,f,q⟩:=h;obtain⟨lb,P,_⟩:=PO.init f ⟨_,f⟩;unfold qq zo;refine P.sv Y Y a.cJ a.j1 () λH1 P=>P.so (.dK []) 7 () () Y a.cJ a.j2 (by show 1<1000;decide) λi H2 s P=>P.so (.dT []) 11 () () Y a.cJ a.j3 (by show 2<1000;decide) λg H3 r P=>P.so (.dK []) 8 () () Y a.cJ a.j4 (by show 3<1000;decide) λk M d b=>?_;have j:∀n c o,(n,c,o)∈[(8,k,HO.dK []),(11,g,.dT []),(7,i,.dK [])]->M c=U o/\H c=ak/\d c=n:=λn c o z=>by
  obtain⟨f,u,e⟩:=b.ob _ z;have f:1<n:=f;have e:d c=n:=e;rcases b.fr c () with y|y|y
  .rw[y,b.lx] at e;lia
  .rw[y,b.lx] at e;lia
  .exact⟨u,y,e⟩
 obtain⟨J,I,p⟩:=j 7 i _ (.tail _ (.tail _ (.head _)));obtain⟨G,C,T⟩:=j 11 g _ (.tail _ (.head _));obtain⟨B,A,v⟩:=j 8 k _ (.head _);exact q _ i g k b.kp b.hx J G B I C A (λz=>by rw[z,v] at p;cases p)
theorem Kh{vs:List V}{_E:XK}(a:DkF K t)(h:wC t vs H Q _E) :
  qt K t (sS Q) (L2.start ["self","table","hands","way","first"] vs) H:=by
 obtain⟨x,l,w,dx,dw,n,f,wo,g,rfl,h1,h2,h3,h4,nw,q⟩:=h;obtain⟨lb,P,lw,_⟩:=PO.init (w:=w) h1 ⟨_,h4⟩;have P:PO H x w _ H lb (λ_=>False) [(2,w,wo)]:=⟨P.hx,P.lx,λe he=>by cases bo.mp he;exact⟨by show 1<2;decide,h4,lw nw⟩,P.ow,P.kp,P.fr,P.f10⟩;obtain⟨xs,hx,px⟩:=h2;have a5:l≠x:=zM hx h1 ();unfold qt zo;refine P.sv Y Y a.cD a.d1 () λH1 P=>P.sv Y Y a.cD a.d2 (by show 1<1000;decide) λH2 P=>P.sv Y Y a.cD a.d3 (by show 2<1000;decide) λH3 P=>⟨(),P.so (.lst []) 4 () () Y a.cD a.d4 (by show 3<1000;decide) λcl H4 k P=>⟨(),P.so (.lst []) 5 () () Y a.cD a.d5 (by show 4<1000;decide) λwl H5 u P=>P.so (.dK []) 6 () () Y a.cD a.d6 (by show 5<1000;decide) λhd T bj P=>?_⟩⟩;refine⟨_,Y,?_⟩;intro m dm hm al nm;have sm:aJ T (upd (upd T dm (HO.own m)) m (HO.ins t.q02 dm [])):=λb o e=>by rw[zi (zw e hm),zi (zw e al)];exact e
 have aj:tq T l g:=⟨xs,P.kp _ _ a5 hx,Paired.mapP px λ_ _ ⟨r,p,e,e1,e2⟩=>⟨r,p,e,P.kp _ _ (zM e1 h1 ()) e1,P.kp _ _ (zM e2 h1 ()) e2⟩⟩;refine⟨m,l,dm,g,Y,zh,aj.same sm,h3,λH10 F ai az ar=>⟨Y,?_⟩⟩;have aa:aJ T H10:=λb o e=>ai b o (zw e hm) (sm _ _ e);have fF:∀b,F b->T b=ak:=λb z=>by
  rcases ar b z with y|y
  .rw[y];exact hm
  .cases e:T b with
   |none=>rfl
   |some o=>have:=sm b o e;rw[y] at this;cases this
 obtain⟨bi,P',b0,_⟩:=(P.same aa).lab (N:=F) (F':=F) 10 (λb=>⟨λz=>z.elim (λy=>y.1) c8,λz=>.inl ⟨z,Y⟩⟩) λb z=>⟨(P.l0 (fF b z)).1,(P.l0 (fF b z)).2,az.own b z⟩;replace P:=P';clear P' ai ar aa sm hm al nm aj fF;refine P.stM az Y a.cD a.d7 (by show 6<1000;decide) λd P bd=>?_;refine⟨_,Y,x,_,_,_,_,Y,P.hx,a.cD,a.d7,Y,?_⟩;intro jb M hj an nj;have sj:aJ d (upd (upd d M (HO.own jb)) jb (HO.ins t.q03 M [])):=λb o e=>by rw[zi (zw e hj),zi (zw e an)];exact e
 refine⟨jb,m,M,Y,zh,λH12 la re O ag I v j B nl nr nd ld=>⟨Y,?_⟩⟩;have G:aJ d H12:=λb o e=>ag b o (zw e hj) (sj _ _ e);have J:∀b,upd (upd d M (HO.own jb)) jb (HO.ins t.q03 M []) b=ak->d b=ak:=λb z=>by
  cases e:d b with
  |none=>rfl
  |some o=>have:=sj b o e;rw[z] at this;cases this
 have A:∀b,d b=ak->_:=λb z=>P.l0 z;have a9:=bd.same G;have Q0:=P.same G;obtain⟨bz,Q1,a1,b1⟩:=Q0.lab (N:=λb=>b=jb) (F':=F) 3 (λb=>⟨λz=>z.resolve_left (λy=>nomatch y.2),.inr⟩) λb z=>by rw[z];exact⟨(A _ hj).1,(A _ hj).2,_,I⟩
 have n1:la≠jb:=λz=>by rw[z,zh] at nl;cases nl
 have n2:re≠jb:=λz=>by rw[z,zh] at nr;cases nr
 have n3:O≠jb:=λz=>by rw[z,zh] at nd;cases nd
 have n4:re≠la:=zM j v ();have n5:O≠re:=zM B j ();obtain⟨bl,Q2,a2,b2⟩:=Q1.lab (N:=λb=>b=la) (F':=F) 7 (λb=>⟨λz=>z.resolve_left (λy=>nomatch y.2),.inr⟩) λb z=>by rw[z,b1 _ n1];exact⟨(A _ (J _ nl)).1,(A _ (J _ nl)).2,_,v⟩
 obtain⟨bk,Q3,a3,b3⟩:=Q2.lab (N:=λb=>b=re) (F':=F) 11 (λb=>⟨λz=>z.resolve_left (λy=>nomatch y.2),.inr⟩) λb z=>by rw[z,b2 _ n4,b1 _ n2];exact⟨(A _ (J _ nr)).1,(A _ (J _ nr)).2,_,j⟩
 obtain⟨k,C,a4,b4⟩:=Q3.lab (N:=λb=>b=O) (F':=F) 8 (λb=>⟨λz=>z.resolve_left (λy=>nomatch y.2),.inr⟩) λb z=>by rw[z,b3 _ n5,b2 _ ld.symm,b1 _ n3];exact⟨(A _ (J _ nd)).1,(A _ (J _ nd)).2,_,B⟩
 have y1:k jb=3:=by rw[b4 _ n3.symm,b3 _ n2.symm,b2 _ n1.symm,a1 _ rfl]
 have y2:k la=7:=by rw[b4 _ ld,b3 _ n4.symm,a2 _ rfl]
 have y3:k re=11:=by rw[b4 _ n5.symm,a3 _ rfl]
 have y4:=a4 _ rfl;have P:PO H x w _ H12 k F [(3,jb,.ins t.q03 M (JX m la re O)),(7,la,.dK []),(11,re,.dT []),(8,O,.dK []),(6,hd,.dK []),(5,wl,.lst []),(4,cl,.lst []),(2,w,wo)]:=⟨C.hx,C.lx,λe he=>by
  rcases bE.mp he with rfl|he
  .exact⟨by show 1<3;decide,I,y1⟩
  rcases bE.mp he with rfl|he
  .exact⟨by show 1<7;decide,v,y2⟩
  rcases bE.mp he with rfl|he
  .exact⟨by show 1<11;decide,j,y3⟩
  rcases bE.mp he with rfl|he
  .exact⟨by show 1<8;decide,B,y4⟩
  exact C.ob e he,C.ow,C.kp,C.fr,C.f10⟩
 clear Q0 Q1 Q2 Q3 C a1 a2 a3 a4 b1 b2 b3 b4 y1 y2 y3 y4 n1 n2 n3 n4 n5 G sj ag A J nl nr nd ld hj an nj I v j B;refine P.stM a9 Y a.cD a.d8 (by show 7<1000;decide) λbe P a8=>?_;refine⟨(),λen hc=>?_⟩;have a7:=a8.same (sX en hc (o:=.lst []));obtain⟨u,P'⟩:=P.new (o:=.lst []) 9 () () hc;replace P:=P';clear P';generalize upd be en (.lst [])=H14 at *
 refine P.stM a7 Y a.cD a.d9 (by show 8<1000;decide) λaS P a6=>?_;have eF:(λb=>u b=10)=F:=funext λb=>propext (P.f10 b);have s:∀n c o,(n,c,o)∈_->aS c=U o/\u c=n:=λn c o z=>(P.ob (n,c,o) z).2;obtain⟨r1,r2⟩:=s 11 re _ (.tail _ (.tail _ (.tail _ (.head _))));refine q aS ⟨dx,w,dw,cl,wl,hd,m,jb,M,en,la,re,O⟩ u Y Y P.kp (λb o n1 n2 e=>fJ λz=>by rcases P.fr b z with y|y|y;exact n1 y;exact n2 y;rw[y] at e;cases e) ⟨λi b o e=>?_,by rw[eF];exact a6,⟨[],⟨r1,cz,cz,(),λ_ _ ⟨_,z,_⟩=>nomatch z⟩⟩,r2,.nil,P.ow⟩
 match i,e with
 |0,e=>cases e;exact⟨P.hx,P.lx⟩
 |1,e=>cases e;exact s 2 _ _ (.tail _ (.tail _ (.tail _ (.tail _ (.tail _ (.tail _ (.tail _ (.tail _ (.head _)))))))))
 |2,e=>cases e;exact s 3 _ _ (.tail _ (.head _))
 |3,e=>cases e;exact s 4 _ _ (.tail _ (.tail _ (.tail _ (.tail _ (.tail _ (.tail _ (.tail _ (.head _))))))))
 |4,e=>cases e;exact s 5 _ _ (.tail _ (.tail _ (.tail _ (.tail _ (.tail _ (.tail _ (.head _)))))))
 |5,e=>cases e;exact s 6 _ _ (.tail _ (.tail _ (.tail _ (.tail _ (.tail _ (.head _))))))
 |6,e=>cases e;exact s 7 _ _ (.tail _ (.tail _ (.head _)))
 |7,e=>cases e;exact s 8 _ _ (.tail _ (.tail _ (.tail _ (.tail _ (.head _)))))
 |8,e=>cases e;exact s 9 _ _ (.head _)
end
section
variable {β:Type}{l:List (Int×β)}{h:Int}{b b0:β}{q:Int×β->Nat}
theorem zbC:∀ {l:List (Int×β)},h ∉ l.map (·.1)->yg l h=l
 |[],_=>rfl
 |e::l,n=>by
  rw[bx,bE] at n;have c:e.1≠h:=λz=>n (.inl z.symm);rw[yg,dC,ap (Bj c)];exact congrArg _ (zbC λz=>n (.inr z))
theorem qy:∀ {l:List (Int×β)},(l.map (·.1)).Nodup->(h,b0)∈l->(Z3 l h b).Perm ((h,b)::yg l h)/\l.Perm ((h,b0)::yg l h)
 |e::l,nd,m=>by
  rw[bx,bX] at nd;by_cases c:e.1=h
  .have g:e=(h,b0):=uniq (l:=e::l) (by rw[bx,bX];exact nd) bt m c;have n:h ∉ l.map (·.1):=by rw[<-c];exact nd.1
   have z:yg (e::l) h=l:=by rw[yg,dC,am (by rw[decide_eq_true_eq];exact λz=>z c)];exact zbC n
   have y:Z3 l h b=l:=(dy λe f=>am λw=>n (bB.mpr ⟨e,f,w⟩)).trans (List.map_id _);rw[z];refine⟨?_,by rw[g]⟩;show ((if e.1=h then (h,b) else e)::Z3 l h b).Perm _;rw[ap c,y]
  .have m:=(bE.mp m).resolve_left λz=>c (by rw[<-z]);obtain⟨d,a⟩:=qy nd.2 m;have z:yg (e::l) h=e::yg l h:=by rw[yg,dC,ap (Bj c)];rfl
   rw[z];refine⟨?_,(a.cons e).trans (.swap ..)⟩;show ((if e.1=h then (h,b) else e)::Z3 l h b).Perm _;rw[am c];exact(d.cons e).trans (.swap ..)
theorem XJ(d:(l.map (·.1)).Nodup)(m:(h,b0)∈l):((Z3 l h b).map q).sum=q (h,b)+((yg l h).map q).sum/\(l.map q).sum=q (h,b0)+((yg l h).map q).sum:=by
 obtain⟨c,a⟩:=qy (b:=b) d m;exact⟨(c.map q).sum_nat.trans (by rw[bx,cM]),(a.map q).sum_nat.trans (by rw[bx,cM])⟩
end
theorem Qj{q:Int->Nat}:∀ {a b:List Int},a.Nodup->(∀x∈a,x∈b)->(a.map q).sum<=(b.map q).sum
 |[],_,_,_=>bS _
 |x::a,b,nd,h=>by
  rw[bX] at nd;have p:=lf (h x bt);rw[(p.map q).sum_nat,bx,bx,cM,cM];refine pA (Qj nd.2 λy c=>?_) _;exact(oR λz=>nd.1 (by rw[<-z];exact c)).mpr (h y (br _ c))
theorem kO{a:Type}{q q':a->Nat}:∀ {l:List a},(∀x∈l,q x<=q' x)->(l.map q).sum<=(l.map q').sum
 |[],_=>bp _
 |x::l,h=>by
  have i:=kO λy b=>h y (br x b);have:=h x bt;rw[bx,bx,cM,cM];lia
theorem Vo{a:Type}{q q':a->Nat}:∀ {l:List a},(l.map λx=>q x+q' x).sum=(l.map q).sum+(l.map q').sum
 |[]=>rfl
 |x::l=>by
  have i:=Vo (q:=q) (q':=q') (l:=l);rw[bx,bx,bx,cM,cM,cM,i];lia
theorem zdu{a:Type}{p:a->Prop} [DecidablePred p]{q:a->Nat}:∀ {l:List a},(l.map λx=>if p x then q x else 0).sum=((l.filter λx=>decide (p x)).map q).sum
 |[]=>rfl
 |x::l=>by
  have i:=zdu (p:=p) (q:=q) (l:=l);rw[bx,cM,i,dC];by_cases c:p x
  .rw[ap c,ap (Bj c),bx,cM]
  .rw[am c,am (by rw[decide_eq_true_eq];exact c),rP]
section
variable {g:List aN}{ls:List (Int×List aN)}{p:Pl}{r r':Int}{gi:List aN}
theorem Wd{r r':Int}(h:r'<=r):∀(ls:List (Int×List aN)) (s:Int×Int),wO p r' (ls.filter λy=>decide (y.1≠r)) s=wO p r' ls s
 |[],_=>rfl
 |y::ls,s=>by
  rw[dC];by_cases c:y.1=r
  .rw[am (by rw[decide_eq_true_eq];exact λz=>z c),Wd h ls,wO,am ()]
  .rw[ap (Bj c),wO,wO,Wd h ls]
theorem zbD(h:r'<=r):yj g (xl ls r gi) p r'=yj g ls p r':=by
 unfold yj xl;rw[Js,am (λz=>sG.mpr h z.2),Wd h]
theorem zbE:∀(a:List aN) (s:Int×Int),(∀w∈a,tw w.2=ah)->tw s.2=ah->tw (Jc p r a s).2=ah
 |[],_,_,h=>h
 |w::a,s,hr,h=>by
  rw[Jc];refine zbE a _ (λx b=>hr x (br _ b)) ?_;split
  .exact hr w bt
  .exact h
theorem zbF:∀(ls:List (Int×List aN)) (s:Int×Int),(∀y∈ls,∀w∈y.2,tw w.2=ah)->tw s.2=ah->tw (wO p r ls s).2=ah
 |[],_,_,h=>h
 |y::ls,s,hr,h=>by
  rw[wO];refine zbF ls _ (λx a=>hr x (br _ a)) ?_;split
  .exact zbE _ _ (hr y bt) h
  .exact h
end
section
variable {f n h:Int}{g:List aN}{CC:List (List Cs)}{S S':DS}{e:Ev}
theorem zf6(I:RnI C j s)(c:yH C s=ao):j<C.length:=by
 have a:¬ yH C s=ah:=by rw[c];decide
 have d:=Xy a;have b:s.why=ak:=by
  cases e:s.why with
  |none=>rfl
  |some v=>exact absurd (show yH C s=ah by unfold yH;rw[e];rfl) a
 have:=I.at_ b;lia
theorem Jz{k n:Nat}(h:k<n):vS f k n=(f+k)::vS f (k+1) n:=by
 unfold vS;rw[show n-k=n-(k+1)+1 by lia,List.range_succ_eq_map,bx,dA];refine congr (congrArg _ ()) (dy λi _=>?_);show f+(k:Int)+((i+1:Nat):Int)=f+((k+1:Nat):Int)+i;lia
theorem hV.run(a:hV n f g CC S){r:Int}{s s':aY}{w:Int}{C:List Cs}(m:(h,r,j,s)∈S.hl)(k:CC[(r-f).toNat]?=U C)(q:yH C s=ao)(u:tw w=ah):hV n f g CC { S with hl:=Z3 S.hl h (r,j+1,xw C w s) }:=by
 obtain⟨d,l⟩:=qy (b:=(r,j+1,xw C w s)) a.hn m;obtain⟨c,i,I,_⟩:=a.rn _ m;obtain rfl:c=C:=bI (i.symm.trans k);have O:=a.cc.ok c (bN k);have v:j<c.length:=zf6 I q;have o:∀e∈Z3 S.hl h (r,j+1,xw c w s),e=(h,r,j+1,xw c w s)\/e∈S.hl:=λe he=>(bE.mp (d.mem_iff.mp he)).imp id λz=>(aV.mp z).1;refine⟨a.f0,a.cc,a.el,?_,a.so,?_,λe he=>?_,λe he=>?_,a.nt,a.ly,a.gw,a.lw⟩
 .refine dJ (.append_left _ (.append_right _ ?_)) a.pm;exact(d.map λe:Int×Int×Nat×aY=>e.2.1).trans (l.map λe:Int×Int×Nat×aY=>e.2.1).symm
 .exact((d.map λe:Int×Int×Nat×aY=>e.1).trans (l.map λe:Int×Int×Nat×aY=>e.1).symm).nodup_iff.mpr a.hn
 .rcases o e he with rfl|he
  .show 0<=h/\h<n;exact a.hr _ m
  .exact a.hr e he
 .rcases o e he with rfl|he
  .exact⟨c,k,zhc O.1 I q u,by show j+1<=11;have:=O.2;lia⟩
  .exact a.rn e he
theorem hV.iw(a:hV n f g CC S)(p:Pl)(r:Int):tw (yj g S.ls p r)=ah:=zbF _ _ a.lw (a.gw p)
theorem Mv.ok(ok:hV n f g CC S)(m:Mv f g CC S h e S')(B:0<=h)(A:h<n):hV n f g CC S':=by
 cases m with
 |step m ec ho ha=>exact ok.run (s':=st0) m ec ho rfl
 |read m ec ho ha=>exact ok.run (s':=st0) m ec ho (ok.iw _ _)
 |@lay r j s C gi m ec ho hg =>
  obtain⟨_,d⟩:=qy (b:=(r,j,s)) ok.hn m;obtain⟨N,E,I,i⟩:=ok.rn _ m;obtain⟨k,rk,_,u⟩:=ok.rh m;have rk:r=f+k:=rk;have M:s.gi.length<=j:=I.ok.l2;have J:s.no.length<=j:=I.ok.l3;have i:j<=11:=i;have G:gi.length<=s.gi.length:=zfT hg;have q:∀y∈xl S.ls r gi,y∈S.ls\/y=(r,gi):=λy c=>(bu.mp c).imp (λz=>(b8.mp z).1) λz=>bo.mp z;refine⟨ok.f0,ok.cc,ok.el,?_,ok.so,ok.hn.sublist (cY.map _),λe he=>ok.hr e (aV.mp he).1,λe he=>ok.rn e (aV.mp he).1,λe he=>?_,λy c=>?_,ok.gw,λy c=>?_⟩
  .refine dJ (.append_left _ ?_) ok.pm;refine dJ ?_ (.append_right _ (d.map λe:Int×Int×Nat×aY=>e.2.1).symm);rw[bR,<-cO];exact oH
  .rcases bu.mp he with he|he
   .exact ok.nt e he
   .cases bo.mp he;exact(⟨I.ok.nd,zf2 hg,(),()⟩:zcv s.no gi)
  .rcases q y c with c|rfl
   .exact ok.ly y c
   .show f<=r/\r<_;lia
  .rcases q y c with c|rfl
   .exact ok.lw y c
   .exact ziF I hg
 |@settle s gi m fr =>
  obtain⟨_,d⟩:=qy (b:=(s,gi)) ok.nd.2.1.2.1 m;obtain⟨k,rk,_,u⟩:=ok.rl (bq (f:=λe:Int×aY×List aN=>e.1) m);have rk:f+(S.en:Int)=f+k:=rk;refine⟨ok.f0,ok.cc,by show S.en+1<=_;lia,?_,ok.so,ok.hn,ok.hr,ok.rn,λe he=>ok.nt e (aV.mp he).1,ok.ly,ok.gw,ok.lw⟩;have z:=ok.pm;rw[Jz (show S.en<CC.length by lia)] at z;refine List.Perm.cons_inv (a:=f+(S.en:Int)) (dJ ?_ z);refine dJ ?_ (.append_left _ (.append_left _ (d.map λe:Int×aY×List aN=>e.1).symm));rw[<-cO,<-cO];exact r6.symm
 |@again r s gi p o ws' m c hn' ns pw so fr =>
  obtain⟨_,d⟩:=qy (b:=(s,gi)) ok.nd.2.1.2.1 m;refine⟨ok.f0,ok.cc,ok.el,?_,so,ok.hn,ok.hr,ok.rn,λe he=>ok.nt e (aV.mp he).1,ok.ly,ok.gw,ok.lw⟩;refine dJ (.append_right _ pw) (dJ ?_ ok.pm);refine dJ ?_ (.append_left _ (.append_left _ (d.map λe:Int×aY×List aN=>e.1).symm));rw[<-cO,<-cO];exact r6.symm
 |@take r m er al hm fr =>
  obtain⟨k,rk,_,u⟩:=ok.rw_ m;refine⟨ok.f0,ok.cc,ok.el,?_,ok.so.sublist pZ,?_,λe he=>?_,λe he=>?_,ok.nt,ok.ly,ok.gw,ok.lw⟩
  .refine dJ ?_ ((List.Perm.append_right _ (lf m)).symm.trans ok.pm);rw[bR,cO];show (S.ws.erase r++(S.hl.map (·.2.1)++r::S.ld.map (·.1))).Perm (r::(S.ws.erase r++(S.hl.map (·.2.1)++S.ld.map (·.1))));rw[<-cO,<-cO];exact List.perm_middle
  .rw[bR];refine cQ.mpr ⟨ok.hn,by simp,λx v y c z=>fr ?_⟩;rw[<-show y=h from bo.mp c,<-z];exact v
  .rcases bu.mp he with he|he
   .exact ok.hr e he
   .cases bo.mp he;exact⟨B,A⟩
  .rcases bu.mp he with he|he
   .exact ok.rn e he
   .cases bo.mp he;exact⟨_,bb (show (r-f).toNat<CC.length by lia),rn0,bS _⟩
 |rest w al l fr=>exact ok
end
def t9(f:Int)(n:Nat)(r:Int):Nat:=14*2^(n-1-(r-f).toNat)
open Classical in
noncomputable def pen(f:Int)(n:Nat)(g:List aN)(b:List (Int×List aN))(r:Int)(a:List aN):Nat:=if ui g b r a then 0 else t9 f n r
noncomputable def phH(f:Int)(n:Nat)(g:List aN)(a:List (Int×List aN))(e:Int×Int×Nat×aY):Nat:=11-e.2.2.1+2+(t9 f n e.2.1-14)+pen f n g a e.2.1 e.2.2.2.no
noncomputable def phL(f:Int)(n:Nat)(g:List aN)(a:List (Int×List aN))(e:Int×aY×List aN):Nat:=1+pen f n g a e.1 e.2.1.no
noncomputable def Phi(f:Int)(n:Nat)(g:List aN)(S:DS):Nat:=(S.ws.map (t9 f n)).sum+((S.hl.map (phH f n g S.ls)).sum+(S.ld.map (phL f n g S.ls)).sum)
section
variable {f h r r':Int}{n k:Nat}{N:Int}{g gi no:List aN}{CC:List (List Cs)}{S S':DS}{e:Ev}{ls ls':List (Int×List aN)}
theorem zf7:14<=t9 f n r:=Nat.le_mul_of_pos_right 14 (Nat.pow_pos ())
theorem zcA:∀m k:Nat,k+m=n->((vS f k n).map (t9 f n)).sum=14*(2^m-1)
 |0,k,h=>by
  rw[show vS f k n=[] by unfold vS;rw[show n-k=0 by lia];rfl];rfl
 |m+1,k,h=>by
  rw[Jz (),bx,cM,zcA m (k+1) ()];unfold t9;rw[show n-1-(f+(k:Int)-f).toNat=m by lia,Nat.pow_succ];have:1<=2^m:=Nat.pow_pos ();lia
theorem zcB:pen f n g ls r no<=t9 f n r:=by unfold pen;split;exact bS _;exact bp _
theorem zf8(h:∀p,yj g ls' p r=yj g ls p r):pen f n g ls' r no=pen f n g ls r no:=by
 have:ui g ls' r no↔ui g ls r no:=forall_congr' λy=>by rw[h]
 unfold pen;rw[propext this]
def exR(f:Int)(n:Nat)(r x:Int):Nat:=if r<x then t9 f n x else 0
theorem zdv:pen f n g (xl ls r gi) r' no<=pen f n g ls r' no+exR f n r r':=by
 by_cases c:r<r'
 .have:=zcB (f:=f) (n:=n) (g:=g) (ls:=xl ls r gi) (r:=r') (no:=no);unfold exR;rw[ap c];lia
 .rw[zf8 λp=>zbD ()];exact gU _ _
theorem zdw(a:hV N f g CC S)(m:(h,r,j,s)∈S.hl)(l:j<11)(c:ui g S.ls r s.no->ui g S.ls r s'.no):Phi f n g { S with hl:=Z3 S.hl h (r,j+1,s') }<Phi f n g S:=by
 obtain⟨p,o⟩:=XJ (b:=(r,j+1,s')) (q:=phH f n g S.ls) a.hn m;have:pen f n g S.ls r s'.no<=pen f n g S.ls r s.no:=by
  unfold pen;split
  .exact bS _
  .rw[am λz=>(by assumption:¬ _) (c z)];exact bp _
 have i:phH f n g S.ls (h,r,j+1,s')=11-(j+1)+2+(t9 f n r-14)+pen f n g S.ls r s'.no:=rfl;have d:phH f n g S.ls (h,r,j,s)=11-j+2+(t9 f n r-14)+pen f n g S.ls r s.no:=rfl;unfold Phi;dsimp only;lia
theorem Mv.dec(ok:hV N f g CC S)(m:Mv f g CC S h e S'):(e=.rest/\S'=S)\/Phi f CC.length g S'<Phi f CC.length g S:=by
 have d:∀ {r j s C},(h,r,j,s)∈S.hl->CC[(r-f).toNat]?=U C->yH C s=ao->j<11:=λ{r j s C} m c a=>by
  obtain⟨B,v,I,_⟩:=ok.rn _ m;obtain rfl:B=C:=bI (v.symm.trans c);have:=(ok.cc.ok B (bN c)).2;have:j<B.length:=zf6 I a;lia
 cases m with
 |step m c a ha =>
  refine .inr (zdw ok m (d m c a) λz=>?_);rw[(zdi a).1 ha];exact z
 |read m c a ha =>
  refine .inr (zdw ok m (d m c a) λz=>?_);rw[(zdi a).2 _ ha];intro y hy;rcases bu.mp hy with hy|hy
  .exact z y hy
  .rw[bo.mp hy]
 |@lay r j s C gi m c a hg =>
  refine .inr ?_;obtain⟨_,J⟩:=qy (b:=(r,j,s)) ok.hn m;obtain⟨_,A⟩:=XJ (b:=(r,j,s)) (q:=phH f CC.length g S.ls) ok.hn m;obtain⟨k,rk,_,kl⟩:=ok.rh m;have rk:r=f+k:=rk;have b1:((yg S.hl h).map (phH f CC.length g (xl S.ls r gi))).sum<=((yg S.hl h).map (phH f CC.length g S.ls)).sum+((yg S.hl h).map λe=>exR f CC.length r e.2.1).sum:=by
   rw[<-Vo];exact kO λx _=>by have:=zdv (f:=f) (n:=CC.length) (g:=g) (ls:=S.ls) (r:=r) (gi:=gi) (r':=x.2.1) (no:=x.2.2.2.no);unfold phH;lia
  have b2:(S.ld.map (phL f CC.length g (xl S.ls r gi))).sum<=(S.ld.map (phL f CC.length g S.ls)).sum+(S.ld.map λe=>exR f CC.length r e.1).sum:=by
   rw[<-Vo];exact kO λx _=>by have:=zdv (f:=f) (n:=CC.length) (g:=g) (ls:=S.ls) (r:=r) (gi:=gi) (r':=x.1) (no:=x.2.1.no);unfold phL;lia
  have b3:((yg S.hl h).map λe=>exR f CC.length r e.2.1).sum+(S.ld.map λe=>exR f CC.length r e.1).sum<=t9 f CC.length r-14:=by
   have z:((yg S.hl h).map λe=>exR f CC.length r e.2.1).sum+(S.ld.map λe=>exR f CC.length r e.1).sum=((((yg S.hl h).map (·.2.1)++S.ld.map (·.1)).filter λx=>decide (r<x)).map (t9 f CC.length)).sum:=by
    rw[<-zdu,bR,fZ,dA,dA];rfl
   rw[z];have E:((yg S.hl h).map (·.2.1)++S.ld.map (·.1)).Sublist (S.hl.map (·.2.1)++S.ld.map (·.1)):=(cY.map _).append (List.Sublist.refl _);have O:=(ok.pm.nodup_iff.mpr zf5).sublist (List.sublist_append_right S.ws _);refine bO (Qj (b:=vS f (k+1) CC.length) (O.sublist (List.filter_sublist.trans E)) λx hx=>?_) ?_
   .obtain⟨h1,h2⟩:=b8.mp hx;obtain⟨j,ej,_,T⟩:=ok.rk (bK _ (E.subset h1));have:=of_decide_eq_true h2;exact rks_mem.mpr ⟨j,ej,(),T⟩
   .rw[zcA (CC.length-(k+1)) (k+1) ()];unfold t9;rw[show CC.length-1-(r-f).toNat=CC.length-(k+1) by lia];lia
  have b4:=zf8 (f:=f) (n:=CC.length) (g:=g) (no:=s.no) (ls:=S.ls) (ls':=xl S.ls r gi) (r:=r) λp=>zbD (sE r);have u:phH f CC.length g S.ls (h,r,j,s)=11-j+2+(t9 f CC.length r-14)+pen f CC.length g S.ls r s.no:=rfl;have J:([(r,s,gi)].map (phL f CC.length g (xl S.ls r gi))).sum=1+pen f CC.length g (xl S.ls r gi) r s.no+0:=rfl;unfold Phi;dsimp only;rw[bR,fZ];lia
 |@settle s gi m fr =>
  obtain⟨_,A⟩:=XJ (b:=(s,gi)) (q:=phL f CC.length g S.ls) ok.nd.2.1.2.1 m;refine .inr ?_;have u:phL f CC.length g S.ls (f+S.en,s,gi)=1+pen f CC.length g S.ls (f+S.en) s.no:=rfl;unfold Phi;dsimp only;lia
 |@again r s gi p o ws' m hy hn ns pw so fr =>
  obtain⟨_,A⟩:=XJ (b:=(s,gi)) (q:=phL f CC.length g S.ls) ok.nd.2.1.2.1 m;refine .inr ?_;have G:pen f CC.length g S.ls r s.no=t9 f CC.length r:=by unfold pen;exact am λz=>by obtain⟨i,hi,_,M⟩:=hy;exact M (z _ (bN hi))
  have u:phL f CC.length g S.ls (r,s,gi)=1+pen f CC.length g S.ls r s.no:=rfl;unfold Phi;dsimp only;rw[(pw.map (t9 f CC.length)).sum_nat,bx,cM];lia
 |@take r m er al hm fr =>
  refine .inr ?_;have G:=((lf m).map (t9 f CC.length)).sum_nat;rw[bx,cM] at G;have A:pen f CC.length g S.ls r st0.no=0:=by unfold pen;exact ap λy hy=>nomatch hy
  have:=zf7 (f:=f) (n:=CC.length) (r:=r);have u:([(h,r,0,st0)].map (phH f CC.length g S.ls)).sum=11-0+2+(t9 f CC.length r-14)+pen f CC.length g S.ls r st0.no+0:=rfl;unfold Phi;dsimp only;rw[bR,fZ];lia
 |rest w al l fr=>exact .inl ⟨Y,Y⟩
theorem ziT(b:hV N f g CC S):Phi f CC.length g S<=1000:=by
 have i:=b.cc.le;have w:∀ {e},e∈S.hl->phH f CC.length g S.ls e<=2*t9 f CC.length e.2.1:=λ{e} a=>by
  have:=zf7 (f:=f) (n:=CC.length) (r:=e.2.1);have:=zcB (f:=f) (n:=CC.length) (g:=g) (ls:=S.ls) (r:=e.2.1) (no:=e.2.2.2.no);unfold phH;lia
 have c:∀ {e},e∈S.ld->phL f CC.length g S.ls e<=2*t9 f CC.length e.1:=λ{e} a=>by
  have:=zf7 (f:=f) (n:=CC.length) (r:=e.1);have:=zcB (f:=f) (n:=CC.length) (g:=g) (ls:=S.ls) (r:=e.1) (no:=e.2.1.no);unfold phL;lia
 have o:(S.hl.map (phH f CC.length g S.ls)).sum<=(S.hl.map λe=>2*t9 f CC.length e.2.1).sum:=kO λe a=>w a;have m:(S.ld.map (phL f CC.length g S.ls)).sum<=(S.ld.map λe=>2*t9 f CC.length e.1).sum:=kO λe a=>c a;have j:=kO (l:=S.ws) (q:=t9 f CC.length) (q':=λr=>2*t9 f CC.length r) λe _=>by lia
 have z:=(b.pm.map λr=>2*t9 f CC.length r).sum_nat;rw[bR,bR,fZ,fZ,dA,dA] at z;have y:=zcA (f:=f) (n:=CC.length) (CC.length-S.en) S.en (by have:=b.el;lia);have t:=Vo (q:=t9 f CC.length) (q':=t9 f CC.length) (l:=vS f S.en CC.length);have d:((vS f S.en CC.length).map λr=>2*t9 f CC.length r).sum=((vS f S.en CC.length).map λx=>t9 f CC.length x+t9 f CC.length x).sum:=by
  congr 1;exact dy λx _=>by lia
 have p:2^(CC.length-S.en)<=2^5:=Nat.pow_le_pow_right () ();have p:2^(CC.length-S.en)<=32:=p;have z:(S.ws.map λr=>2*t9 f CC.length r).sum+((S.hl.map λe=>2*t9 f CC.length e.2.1).sum+(S.ld.map λe=>2*t9 f CC.length e.1).sum)=_:=z;unfold Phi;lia
end
section
variable {H':Hp}{lb lb':D->Nat}{d l:D}{a:tW}{cs en xs ys:List V}{CC:List (List Cs)}{n f h:Int}{g:List aN}{S S':DS}{v:V}{es:List He}{e:Ev}{J:List He->DS->Prop}
theorem tG.ts(h:tG H v x)(ts:uc H H'):tG H' v x:=let ⟨b,q,e,h1,h2⟩:=h;⟨b,q,e,ts _ _ h1,λp z=>ts _ _ (h2 p z)⟩
theorem zf9(h:Paired (tG H) xs es)(b:uc H H'):Paired (tG H') xs es:=Paired.mapP h λ_ _ z=>z.ts b
theorem Fr.up{M:Nat->Prop}(h:Fr M H H' lb lb')(i:H' l=U (.lst xs))(c:H l=ak):Fr M H (upd H' l (.lst ys)) lb lb':=⟨h.ex,λb o z e=>by rw[zi (λy=>by rw[y,c] at e;cases e)];exact h.kp b o z e,λb zs e=>vA i () _ _ (h.ts b zs e),λb o e=>let ⟨o',e'⟩:=h.al b o e;Wa b o' e'⟩
def TnI(n:Int)(S:DS)(i t:Nat):Prop:=t<8/\(S.hl=[]\/∃e∈S.hl,((i:Int)+t)%n=e.1)
theorem zga(b:hV n f g CC S)(p:1<=n)(o:n<=8)(i:Nat):∃t,TnI n S i t:=by
 cases e:S.hl with
 |nil=>exact⟨0,(),.inl e⟩
 |cons x xs =>
  have m:x∈S.hl:=by rw[e];exact bt
  obtain⟨k,j⟩:=b.hr x m;have c:=cA (x.1-i) (show n≠0 by lia);have q:=ck (x.1-i) (show 0<n by lia);refine⟨((x.1-i)%n).toNat,(),.inr ⟨x,m,?_⟩⟩;rw[lS c,Int.add_emod,Int.emod_emod_of_dvd _ (Int.dvd_refl n),<-Int.add_emod,show (i:Int)+(x.1-i)=x.1 by lia,Int.emod_eq_of_lt k j]
structure FnI(t:aZ)(H:Hp)(d l:D)(a:tW)(lb:D->Nat)(n f:Int)(g:List aN)(CC:List (List Cs))(J:List He->DS->Prop)(m:Nat)(H':Hp)(lb':D->Nat)(xs:List V)(es:List He)(S:DS)(t':Nat):Prop where
 em:m=8*Phi f CC.length g S+t'
 lm:xs.length+m<=9000
 tn:TnI n S xs.length t'
 fr:Fr M0 H H' lb lb'
 hl:H' l=U (.lst xs)
 l0:lb' l=0
 pd:Paired (tG H') xs es
 js:J es S
 ok:hV n f g CC S
 dk:tM t H' d a lb' n f g CC S
def FnE(t:aZ)(H:Hp)(d l:D)(a:tW)(lb:D->Nat)(n f:Int)(g:List aN)(CC:List (List Cs))(J:List He->DS->Prop)(m:Nat)(b:St)(H':Hp):Prop:=b=[U (.ref d),U (.ref l)]/\∃lb' xs es S c,FnI t H d l a lb n f g CC J m H' lb' xs es S c
theorem FnI.next{i:Hp}{b:D->Nat}(I:FnI t H d l a lb n f g CC J m H' lb' xs es S t')(N:1<=n)(M:n<=8)(G:H l=ak)(A:S.en<CC.length)(js:∀es S h e S',J es S->hV n f g CC S->S.en<CC.length->h=(es.length:Int)%n->Mv f g CC S h e S'->J (es++[(h,e)]) S')(r:Fr M0 H' i lb' b)(O:tG i v ((xs.length:Int)%n,e))(p:Mv f g CC S ((xs.length:Int)%n) e S2)(G2:tM t i d a b n f g CC S2):i l=U (.lst xs)/\∃o,o<m/\FnE t H d l a lb n f g CC J o [U (.ref d),U (.ref l)] (upd i l (.lst (xs++[v]))):=by
 have b1:=cA (xs.length:Int) (show n≠0 by lia);have T:=ck (xs.length:Int) (show 0<n by lia);have c:=r.kp _ _ (by rw[I.l0];exact .inl Y) I.hl;have B:b l=0:=(r.ex _ _ I.hl).trans I.l0;have y:uc i (upd i l (.lst (xs++[v]))):=vA c λ_ z=>nomatch z
 have k:=Mv.ok I.ok p b1 T;have em:=I.em;have lm:=I.lm;refine⟨c,?_⟩;have fin:∀j,TnI n S2 (xs.length+1) j->8*Phi f CC.length g S2+j<m->∃o,o<m/\FnE t H d l a lb n f g CC J o [U (.ref d),U (.ref l)] (upd i l (.lst (xs++[v]))):=λj q s=>⟨_,s,Y,b,xs++[v],es++[((xs.length:Int)%n,e)],S2,j,Y,by rw[bC];show xs.length+1+_<=9000;lia,by rw[bC];exact q,(I.fr.trans r).up c G,zh,B,Paired.snocP (zf9 (zf9 I.pd r.ts) y) (O.ts y),js es S _ e S2 I.js I.ok A (by rw[bL I.pd]) p,k,G2.put c B⟩;rcases p.dec I.ok with ⟨rfl,e12⟩|dc
 .cases p with
  |rest w _ nl fr =>
   have E:S.hl≠[]:=λz=>by
    have:=I.ok.pm;rw[w,z,Jz A] at this;exact nl (this.mem_iff.mpr bt)
   obtain⟨x,C,u⟩:=I.tn.2.resolve_left E;have t0:t'≠0:=λz=>fr (by
    rw[z,show (xs.length:Int)+((0:Nat):Int)=xs.length by lia] at u;rw[u];exact bq (f:=λe:Int×Int×Nat×aY=>e.1) C)
   have:=I.tn.1;exact fin (t'-1) ⟨(),.inr ⟨x,C,by rw[show ((xs.length+1:Nat):Int)+((t'-1:Nat):Int)=xs.length+t' by lia];exact u⟩⟩ ()
 .obtain⟨j,q⟩:=zga k N M (xs.length+1);have:=q.1;exact fin j q ()
theorem Ve{r:List V}{_E:XK}(B:DkF K t)(h:wE t r H Q _E) :
  ZB K t (sS Q) (L2.start ["self","told"] r) H:=by
 obtain⟨d,a,lb,n,f,g,CC,S,J,rfl,h,k,x,w,N,M,q⟩:=h;refine⟨(),λl i=>?_⟩;have s:=sX (o:=HO.lst []) l i;have P1:=ziT k;obtain⟨C,y⟩:=zga k x w 0;have:=y.1;refine⟨FnE t H d l a lb n f g CC J,⟨_,Y,lb,[],[],S,C,Y,by show 0+_<=9000;lia,y,Fr.same s,zh,h.l0 i,.nil,N,k,h.same s⟩,?_⟩;rintro m σ H1 ⟨rfl,c,xs,es,A,t1,I⟩;obtain⟨b,cs,en,ec,T,lc,le⟩:=I.dk.cmp;refine(ji b Y Y ⟨d,_,a,n,f,en,Y,b,T,ji b Y Y ⟨d,_,a,n,f,cs,Y,b,ec,_,_,Y,Y,_,Y,?_⟩⟩);have el:=I.ok.el;have lm:=I.lm;rcases gB en.length cs.length with lt|ge
 .refine ym (Bj ()) ⟨λj H'=>∃u,u<m/\FnE t H d l a lb n f g CC J u j H',λ_ _ z=>z,?_⟩;have b1:=cA (xs.length:Int) (show n≠0 by lia);have b2:=ck (xs.length:Int) (show 0<n by lia);refine⟨_,Y,.inl ⟨Y,_,aQ.of I.hl⟩,ji b Y Y ⟨_,Y,.ref l,xs.length,Y,.inl ⟨_,aQ.of I.hl,Y⟩,ye b B.cD B.d1 Y Y ⟨_,_,Y,Y,by show (0:Int)<n;lia,d,a,c,n,f,(xs.length:Int)%n,g,CC,A,Y,I.dk,I.ok,b1,b2,λv H2 G e S2 F2 O E G2=>?_⟩⟩⟩;obtain⟨p,z⟩:=I.next x w i () M F2 O E G2;exact⟨l,xs,v,Y,Y,p,bT (show xs.length<=9000 by lia) (by rw[bH];decide),z⟩
 .exact zV (Bk ()) ⟨_,Y,q l xs es H1 c A I.fr I.l0 i I.hl I.pd () I.js I.ok () I.dk⟩
end
theorem AlkV.mono{H c:Hp}(s:aJ H c)(h:AlkV H n v u):AlkV c n v u:=by
 induction h with
 |int i=>exact .int i
 |str x=>exact .str x
 |tup e1 e2 l _ ih=>exact .tup (s _ _ e1) (s _ _ e2) l ih
theorem ZN{H:Hp}{Q:VK}{E:XK}(h:x6 0 vs H Q E):False:=by
 obtain⟨v,u,_,h,_⟩:=h;cases h
theorem Qk(c:σ[i]?=U (U v))(a:YA K H v tv)(k:fS K tv (.type T)=U b)(q:Q (.bl b) H):tu (q9 K) (zc (Z i) (zc (tC (.ty T)) zj)) σ H Q:=⟨_,c,v,.ty T,tv,b,Y,a,⟨T,Y,k⟩,q⟩
theorem jg{Q:Bool->Hp->Prop}(c:σ[i]?=U (U v))(a:YA K H v tv)(k:fS K tv (.type T)=U b)(q:Q b H):tB (tu (q9 K) (zc (Z i) (zc (tC (.ty T)) zj))) σ H Q:=Qk c a k ⟨b,Y,q⟩
theorem zhV{v:V}(q:Q (.bl ah) H):Q (.bl (decide (v=v))) H:=by rw[Bj rfl];exact q
theorem JA{n:Nat}{v u:V}(F:KF K)(h:AlkV H (n+1) v u)(q:∀c,aJ H c->Q (.bl ah) c) :
  jW K t n (sS Q) (L2.start ["found","due","one","other"] [v,u]) H:=by
 unfold jW zo zR tOr XR XS;cases h with
 |int i =>
  refine jg Y (.int i) F.i_l (zV Y (jg Y (.int i) F.i_t (zV Y (jg Y (.int i) F.i_s (zV Y ?_)))));exact Qk Y (.int i) (vq _) ⟨ah,Y,ym Y (Qk Y (.int i) F.i_b ⟨ao,Y,ah,Y,ym Y ⟨_,Y,_,Y,Y,zhV (q _ (aJ.refl _))⟩⟩)⟩
 |str y =>
  refine jg Y (.str y) F.s_l (zV Y (jg Y (.str y) F.s_t (zV Y (jg Y (.str y) (vq _) (ym Y ?_)))));exact Qk Y (.str y) (vq _) ⟨ah,Y,ym Y ⟨_,Y,_,Y,Y,zhV (q _ (aJ.refl _))⟩⟩
 |@tup _ a b xs ys ha hb ll hx =>
  refine jg Y (.tup hb) F.t_l (zV Y (jg Y (.tup hb) (vq _) (ym Y (jg Y (.tup ha) F.t_l (ym Y (jg Y (.tup ha) (vq _) (zV Y ?_)))))));refine Qk Y (.tup ha) F.t_l (Qk Y (.tup hb) F.t_l ⟨Y,_,Y,zV Y ?_⟩);refine⟨_,Y,.ref a,xs.length,Y,.inr ⟨_,sW.of ha,Y⟩,_,Y,.ref b,ys.length,Y,.inr ⟨_,sW.of hb,Y⟩,Y,_,Y,zV (by rw[Bj (by rw[ll])];rfl) ?_⟩;refine⟨_,Y,_,Y,a,b,xs,ys,Y,sW.of ha,sW.of hb,ll,ze0 xs ys (λ_ d c=>(∃g f,d=[U (.ref a),U (.ref b),g,f])/\aJ H c) ⟨⟨_,_,Y⟩,aJ.refl _⟩ (λi d c z=>⟨sW.of (z.2 _ _ ha),sW.of (z.2 _ _ hb)⟩) ?_ ?_⟩
  .rintro i x y T d r l k m ⟨⟨g,f,rfl⟩,S⟩;have e:=sX (o:=HO.tup [x,y]) T m;exact⟨T,_,Y,sW.of zh,Y,_,_,Y,_,_,Y,Y,_,Y,_,Y,x,y,Y,AlkV.mono (S.trans e) (hx i x y l k),λp j=>⟨_,Y,zV Y ⟨⟨_,_,Y⟩,S.trans (e.trans j)⟩⟩⟩
  .rintro d c ⟨_,S⟩;exact q _ S
section
variable {H':Hp}{lw:D->Nat}{tl ll x qa qb:D}{ra:RAd}{C:List Cs}{s s':aY}{j:Nat}{g:List aN}{kv:List (aU×V)}{rs:List Int}{ls:List (Int×List aN)}{h r f m:Int}{v u:V}{e:Ev}{y:He}
theorem zhr:∀(e:Ev) (i:Nat) (y z:V),(evX qa e)[i]?=U y->(evX qb e)[i]?=U z->(∃n,y=.int n/\z=.int n)\/(y=.ref qa/\z=.ref qb/\∃p,evP e=U p):=by
 intro e i y z;cases e <;> rcases i with _|_|_|_|i <;> intro a b <;> first|exact .inl ⟨_,(bI a).symm,(bI b).symm⟩|exact .inr ⟨(bI a).symm,(bI b).symm,_,Y⟩|cases a
theorem ziU(q:tG H v y)(o:tG H u y):AlkV H 3 v u:=by
 obtain⟨a,qa,rfl,A,l⟩:=q;obtain⟨b,qb,rfl,w,k⟩:=o;refine .tup A w (by cases y.2 <;> rfl) λi x z c d=>?_;rcases i with _|_|i
 .cases c;cases d;exact .str _
 .cases c;cases d;exact .int _
 .rcases zhr y.2 i x z c d with ⟨n,rfl,rfl⟩|⟨rfl,rfl,p,hp⟩
  .exact .int _
  .refine .tup (l p hp) (k p hp) Y λi x z c d=>?_;rcases i with _|_|i
   .cases c;cases d;exact .str _
   .cases c;cases d;exact .int _
   .cases c
theorem LdR.same(d:LdR H lw kv rs ls)(k:aJ H H'):LdR H' lw kv rs ls:={ d with vv:=λy i=>let ⟨gl,a,b,c⟩:=d.vv y i;⟨gl,a,b.same k,c⟩ }
end
section
variable {H':Hp}{lw lw':D->Nat}{tl ll p gl:D}{g gi gs:List aN}{kv:List (aU×V)}{rs:List Int}{ls:List (Int×List aN)}{q0:Pl}{ac r w:Int}{te:TE}{Bp:qT}{o0 o1 o3 o4 o5 o6:Option V}
theorem zhs(e:LdR H lw kv rs ls)(a:(r,gi)∈ls)(d:r<ac)(b:zE gi q0=U w)(h:∀y∈ls,r<y.1->y.1<ac->zE y.2 q0=ak):yj g ls q0 ac=w:=by
 unfold yj;have i:0<=r:=e.z0 _ a;rcases xV q0 ac ls (-1,(zE g q0).getD 0) with ⟨_,e2⟩|⟨y,hy,w',e1,e2,e3,e4,e5⟩
 .have:=e2 _ a (show (-1:Int)<r by lia) d;rw[b] at this;cases this
 .rw[e4];have f:r<=y.1:=e5 _ a d (by rw[b];exact λz=>nomatch z);rcases Int.lt_or_eq_of_le f with c|c
  .rw[h y hy c e2] at e1;cases e1
  .rw[<-uniq e.nl a hy c,b] at e1;exact(bI e1).symm
theorem zht(h:∀y∈ls,y.1<ac->zE y.2 q0=ak):yj g ls q0 ac=(zE g q0).getD 0:=by
 unfold yj;rcases xV q0 ac ls (-1,(zE g q0).getD 0) with ⟨e1,_⟩|⟨y,hy,w',e1,e2,_⟩
 .rw[e1]
 .rw[h y hy e2] at e1;cases e1
theorem zdx(f:∀Q:VK,Q (.ref gl) H->te [o0,o1,U (.ref p),o3,o4,o5,o6] H Q)(G:tq H gl gs)(j:TbK gs)(B:H p=U (.tup [.str q0.1,.int q0.2]))(A:ca q0.1=ah)(u:∀w,zE gs q0=U w->Bp.rt (.int w) H)(y:zE gs q0=ak->∀o5 o6,Bp.nx [o0,o1,U (.ref p),o3,o4,o5,o6] H) :
  vx (xJ K te) (JM K 2 (wu (zt 5) (wu (zt 6) JL))) (zR (zD (aK (zd0 K ao) (Z 5) (Z 2))) (zL (Z 6)) zK) Bp [o0,o1,U (.ref p),o3,o4,o5,o6] H:=by
 obtain⟨s,q,o⟩:=G;refine f _ ⟨gl,Y,⟨_,aQ.of q⟩,yM s (λi c H'=>H'=H/\(∃o5 o6,c=[o0,o1,U (.ref p),o3,o4,o5,o6])/\∀r∈gs.take i,r.1≠q0) ⟨Y,⟨_,_,Y⟩,λ_ z=>nomatch z⟩ (λi c H' z=>by rw[z.1];exact aQ.of q) ?_ ?_⟩
 .rintro i v c H' C ⟨rfl,⟨o5,o6,rfl⟩,d⟩;obtain⟨r,m,a,I,rfl,E,h⟩:=Paired.getP o C;have k:=bN m;refine⟨a,_,Y,sW.of E,Y,_,_,Y,_,_,Y,Y,_,Y,_,Y,plD r.1,plD q0,zfS h,zfS B,⟨zbr (j.so r k),zbr A,bO (zbs _) (),bO (zbs _) ()⟩,λb n=>?_⟩;cases b with
  |true =>
   have e:r.1=q0:=ziC (n.mp Y);refine⟨ah,Y,ym Y ⟨_,Y,u _ ((Y7 j.nd).mpr ?_)⟩⟩;rw[<-e];exact k
  |false =>
   refine⟨ao,Y,zV Y ⟨Y,⟨_,_,Y⟩,λx l=>?_⟩⟩;rw[cH,m] at l;rcases bu.mp l with z|z
   .exact d x z
   .cases bo.mp z;exact λz=>nomatch n.mpr (by rw[z])
 .rintro c H' ⟨rfl,⟨o5,o6,rfl⟩,d⟩;rw[bL o,cx] at d;exact y (X3 d) _ _
theorem zed(e:tq H tl g)(a:TbK g)(d:H p=U (.tup [.str q0.1,.int q0.2]))(c:ca q0.1=ah)(b:∀y∈ls,y.1<ac->zE y.2 q0=ak)(q:Q (.int (yj g ls q0 ac)) H) :
  ZD K t (sS Q) [U (.ref tl),o1,U (.ref p),o3,o4,o5,o6] H:=by
 rw[zht b] at q;exact zdx (te:=Z 0) (λQ z=>⟨_,Y,z⟩) e a d c (λw z=>by rw[z] at q;exact q) λz o5 o6=>by rw[z] at q;exact q
theorem Ki{E:List V}{_E:XK}(h:vT  E H Q _E) :
  Xt K t (sS Q) (L2.start ["table","laid","place","rank","other","spot","worth"] E) H:=by
 obtain⟨tl,ll,p,ac,g,kv,rs,ls,lw,q0,rfl,C,tb,O,d,J,I,q⟩:=h;have lk:kv.length=rs.length:=by have:=congrArg fT d.ks;rwa [bg,bg] at this
 have:=d.le;refine⟨_,Y,ll,kv,rs,Y,O,d.ks,(),λl b hl A so=>?_⟩;generalize c_:upd H l _=H2;obtain⟨e,s⟩:=xc c_ hl;have x:=q H2 e;refine⟨l,Y,⟨_,aQ.of s⟩,yM (b.map V.int) (λi u H'=>H'=H2/\(∃o4 o5 o6,u=[U (.ref tl),U (.ref ll),U (.ref p),U (.int ac),o4,o5,o6])/\∀y∈ls,y.1∈b.take i->y.1<ac->zE y.2 q0=ak) ⟨Y,⟨_,_,_,Y⟩,λ_ _ z=>nomatch z⟩ (λi u H' z=>by rw[z.1];exact aQ.of s) ?_ ?_⟩
 .rintro i v u H' N ⟨rfl,⟨o4,o5,o6,rfl⟩,j⟩;rw[bA] at N;obtain⟨r,B,rfl⟩:=b7.mp N;obtain⟨⟨r',gi⟩,o,er⟩:=bB.mp ((d.mm r).mp (A.mem_iff.mp (bN B)));have o:(r,gi)∈ls:=by rw[<-er];exact o
  obtain⟨gl,hv,hg,_⟩:=d.vv _ o;have G:∀y∈ls,y.1∈b.take (i+1)->y=(r,gi)\/y.1∈b.take i:=λy a z=>by
   rw[cH,B] at z;rcases bu.mp z with z|z
   .exact .inr z
   .exact .inl (uniq d.nl a o (bo.mp z))
  refine⟨_,Y,_,Y,_,_,Y,Y,_,Y,?_⟩;by_cases c:r<ac
  .have dg:tz H' ll (.int r) (U (.ref gl)):=by
    have z:=tz.k (k:=.inl r) (e _ _ O)
    rwa [hv] at z
   refine ym (Bj c) (zdx (te:=j6 (Z 1) (Z 4)) (λQ z=>⟨_,Y,_,Y,ll,_,Y,dg,z⟩) (hg.same e) (d.tk _ o) (e _ _ J) I (λw z=>?_) λz o5 o6=>⟨Y,⟨_,_,_,Y⟩,λy a m n=>?_⟩)
   .rw[zhs (g:=g) d o c z λy a ly n=>j y a ?_ n] at x
    .exact x
    .have m:=A.mem_iff.mpr ((d.mm y.1).mpr (bq (f:=(·.1)) a));obtain⟨k,M⟩:=cy m;rcases gB k i with c|c
     .exact bN (show (b.take i)[k]?=U y.1 by rw[dq,ap c];exact M)
     .obtain⟨C,T⟩:=bn.mp M;obtain⟨h2,s⟩:=bn.mp B;rcases Nat.lt_or_eq_of_le c with c|c
      .have:=eG.mp so i k h2 C c;rw[T,s] at this;lia
      .subst c;rw[T] at s;lia
   .rcases G y a m with rfl|z
    .exact z
    .exact j y a z n
  .exact zV (Bk c) ⟨Y,⟨_,_,_,Y⟩,λy a m n=>by
    rcases G y a m with rfl|z
    .exact absurd n c
    .exact j y a z n⟩
 .rintro u H' ⟨rfl,⟨o4,o5,o6,rfl⟩,j⟩;rw[bg,cx] at j;exact zed (t:=t) (C.same e) tb (e _ _ J) I (λy a=>j y a (A.mem_iff.mpr ((d.mm y.1).mpr (bq (f:=(·.1)) a)))) x
end
section
variable {H':Hp}{lw lw':D->Nat}{tl ll rl kl al x b gl:D}{ra:RAd}{C:List Cs}{CC:List (List Cs)}{s s':aY}{j k i N m:Nat}{g gi:List aN}{kv:List (aU×V)}{rs:List Int}{ls:List (Int×List aN)}{h r f n:Int}{v:V}{e:Ev}{hl hl2:List (Int×Int×Nat×aY)}{S S2:DS}{M:Nat->Prop}{o o':HO}{β:Type}
theorem qA(e:H b=U o)(z:lw b=N)(d:∀a,o≠.tup a):Fr (λl=>l≠N) H (upd H b o') lw lw:=⟨λ_ _ _=>rfl,λc u y w=>by rw[zi (λx=>y (by rw[x];exact z))];exact w,vA e d,Wa⟩
theorem LdR.fr(l:LdR H lw kv rs ls)(F:Fr M H H' lw lw')(q:M 5):LdR H' lw' kv rs ls:={ l with vv:=λy p=>let ⟨gl,a,⟨xs,b,c⟩,d⟩:=l.vv y p;⟨gl,a,⟨xs,F.kp _ _ (by rw[d];exact q) b,xP F.ts c⟩,(F.ex _ _ b).trans d⟩ }
theorem RuAt.fr(R:RuAt t H lw f CC hl i v)(F:Fr M H H' lw lw')(d:M (20+i)):RuAt t H' lw' f CC hl i v:=by
 rcases R with z|⟨x,ra,r,j,s,C,e,m,c,R,l⟩
 .exact .inl z
 .obtain⟨p,a⟩:=R.fr l F d;exact .inr ⟨x,ra,r,j,s,C,e,m,c,p,a⟩
theorem RuAt.mv(R:RuAt t H lw f CC hl i v)(z:∀b,((i:Int),b)∈hl2↔((i:Int),b)∈hl):RuAt t H lw f CC hl2 i v:=by
 rcases R with ⟨e,y⟩|⟨x,ra,r,j,s,C,e,m,c⟩
 .refine .inl ⟨e,λw=>y ?_⟩;obtain⟨⟨_,b⟩,a,rfl⟩:=bB.mp w;exact bq (f:=(·.1)) ((z b).mp a)
 .exact .inr ⟨x,ra,r,j,s,C,e,(z _).mpr m,c⟩
theorem zgb{l:List (Int×β)}{a:Int}(n:a≠h):(a,y)∈Z3 l h c↔(a,y)∈l:=by
 unfold Z3;rw[bB];constructor
 .rintro⟨⟨d,p⟩,m,e⟩;by_cases z:d=h
  .rw[ap z] at e;exact absurd (congrArg (·.1) e).symm n
  .rw[am z] at e;rw[<-e];exact m
 .exact λm=>⟨_,m,am n⟩
theorem zhu{l:List (Int×β)}(m:(h,y)∈l):(h,c)∈Z3 l h c:=bB.mpr ⟨_,m,ap Y⟩
theorem LdR.put(q:LdR H lw kv rs ls)(I:tq H gl gi)(G:lw gl=5)(E:TbK gi)(u:∀y∈xl ls r gi,f<=y.1/\y.1<f+m)(f0:0<=f)(hm:m<=5):∃d,LdR H lw (yJ kv (.inl r) (.ref gl)) d (xl ls r gi):=by
 have p:∀y,y∈xl ls r gi↔(y∈ls/\y.1≠r)\/y=(r,gi):=λy=>by
  unfold xl;rw[bu,b8,decide_eq_true_eq,bo]
 obtain⟨d,O,B,J⟩:∃d:List Int,(yJ kv (.inl r) (.ref gl)).map (·.1)=d.map gh/\d.Nodup/\∀a,a∈d↔a∈rs\/a=r:=by
  by_cases c:r∈rs
  .refine⟨rs,?_,q.nd,λa=>⟨.inl,λz=>z.elim id λz=>z ▸ c⟩⟩;unfold yJ;have T:(kv.any λkv=>decide (kv.1=.inl r))=ah:=by
    have:(.inl r:aU)∈kv.map (·.1):=by rw[q.ks];exact bq c
    obtain⟨y,l,w⟩:=bB.mp this;exact gT.mpr ⟨y,l,Bj w⟩
   rw[ap T,dA,<-q.ks];refine dy λy _=>?_;show (if y.1=(.inl r:aU) then (y.1,V.ref gl) else y).1=y.1;split <;> rfl
  .refine⟨rs++[r],?_,cQ.mpr ⟨q.nd,bX.mpr ⟨cZ,cz⟩,λa A b u=>by rw[bo.mp u];exact λz=>c (z ▸ A)⟩,λa=>by rw[bu,bo]⟩;rw[ve _ (Jn (by rw[q.ks];intro z;obtain⟨y,l,w⟩:=bB.mp z;cases w;exact c l)),bR,q.ks,bR];rfl
 have mm:∀a,a∈d↔a∈(xl ls r gi).map (·.1):=λa=>by
  rw[J,q.mm];constructor
  .intro z;by_cases c:a=r
   .exact bB.mpr ⟨(r,gi),(p _).mpr (.inr Y),c.symm⟩
   .obtain⟨y,l,w⟩:=bB.mp (z.resolve_right c);exact bB.mpr ⟨y,(p _).mpr (.inl ⟨l,by rw[w];exact c⟩),w⟩
  .intro z;obtain⟨y,l,rfl⟩:=bB.mp z;rcases(p y).mp l with ⟨a,_⟩|rfl
   .exact .inl (bq (f:=(·.1)) a)
   .exact .inr rfl
 have le:=wj (b:=vS f 0 m) B λa A=>by
  obtain⟨y,l,rfl⟩:=bB.mp ((mm a).mp A);have:=u y l;exact rks_mem.mpr ⟨(y.1-f).toNat,(),(),()⟩
 unfold vS at le;rw[bg,mV] at le;refine⟨d,O,B,mm,λy l=>?_,?_,λy l=>?_,λy l=>by have:=u y l;lia,()⟩
 .rw[YZ];rcases(p y).mp l with ⟨a,b⟩|rfl
  .rw[am (λz=>b (lF z))];exact q.vv y a
  .exact⟨gl,ap Y,I,G⟩
 .unfold xl;rw[bR,cQ];refine⟨q.nl.sublist (gb _ cY),bX.mpr ⟨cZ,cz⟩,λa A b u=>?_⟩;obtain⟨y,l,rfl⟩:=bB.mp A;rw[bo.mp u];exact of_decide_eq_true (b8.mp l).2
 .rcases(p y).mp l with ⟨a,_⟩|rfl
  .exact q.tk y a
  .exact E
end
section
variable {H':Hp}{lw:D->Nat}{tl ll pl r nl gl l:D}{o:V}{ac h f n:Int}{g no:List aN}{kv:List (aU×V)}{rs:List Int}{ls:List (Int×List aN)}{ps:List V}{CC:List (List Cs)}{S S2:DS}{e:Ev}{ws:List Int}{k c:Nat}{Bp:qT}
theorem Kj{v:List V}{_E:XK}(h:wF  v H Q _E) :
  Xu K t (sS Q) (L2.start ["table","laid","paper","rank","place","worth","now"] v) H:=by
 obtain⟨tl,ll,r,nl,gl,o,ac,g,no,kv,rs,ls,lw,rfl,ht,N,hd,Bo,hr,hn,O,q1,T⟩:=h;obtain⟨M,b,B⟩:=hn;refine⟨_,Y,r,_,1,_,Y,Y,sW.of hr,Y,nl,Y,⟨_,aQ.of b⟩,yM M (λi j H'=>(∃I G E,j=[U (.ref tl),U (.ref ll),U (.ref r),U (.int ac),I,G,E])/\aJ H H'/\ui g ls ac (no.take i)) ⟨⟨_,_,_,Y⟩,aJ.refl _,λ_ z=>nomatch z⟩ (λi j H' ⟨_,a,_⟩=>aQ.of (a _ _ b)) ?_ ?_⟩
 .rintro i u j H' hu ⟨⟨I,G,E,rfl⟩,a,d⟩;obtain⟨y,q,w,p,rfl,ew,J⟩:=Paired.getP B hu;refine⟨w,_,Y,sW.of (a _ _ ew),Y,_,_,Y,_,_,Y,Y,_,Y,_,Y,_,Y,_,Y,tl,ll,p,ac,g,kv,rs,ls,lw,y.1,Y,ht.same a,N,a _ _ hd,Bo.same a,a _ _ J,O y (bN q),λH2 m=>⟨_,Y,_,Y,Y,_,Y,?_⟩⟩;by_cases c:yj g ls y.1 ac=y.2
  .exact zV (by rw[Bj (congrArg V.int c)];rfl) ⟨⟨_,_,_,Y⟩,a.trans m,λx b=>by
    rw[cH,q] at b;rcases bu.mp b with z|z
    .exact d x z
    .rw[bo.mp z];exact c⟩
  .refine ym (by rw[Bk (λz=>c (V.int.inj z))];rfl) ⟨_,Y,_,Y,_,Y,by show 3<=Bb;rw[bH];decide,λC s=>?_⟩;have A:=sX (o:=HO.tup [V.ref p,V.int y.2,V.int (yj g ls y.1 ac)]) C s;exact T C _ p y (a.trans (m.trans A)) ⟨i,q,d,c⟩ zh (A _ _ (m _ _ (a _ _ J)))
 .rintro j H' ⟨_,a,d⟩;rw[bL B,cx] at d;exact q1 H' a d
theorem Vf{b:List V}{_E:XK}(h:wG  b H Q _E) :
  ZC K t (sS Q) (L2.start ["waiting","kind","count"] b) H:=by
 obtain⟨l,ws,k,c,rfl,a,i,q⟩:=h;have d:=fY.mpr i;unfold chW chI at q;refine⟨_,Y,Y,_,Y,?_⟩;by_cases k0:k=0
 .rw[ap k0] at q;exact ym (Bj (by rw[k0];rfl)) ⟨_,Y,l,_,(0:Nat),_,Y,Y,aQ.of a,yn (XH d).1,q⟩
 refine zV (Bk λz=>k0 (by have:=V.int.inj z;lia)) ⟨_,Y,Y,_,Y,?_⟩;rw[am k0] at q;by_cases k1:k=1
 .rw[ap k1] at q;exact ym (Bj (by rw[k1];rfl)) ⟨_,Y,1,Y,l,_,-1,_,Y,Y,aQ.of a,zdq i,q⟩
 refine zV (Bk λz=>k1 (by have:=V.int.inj z;lia)) ?_;rw[am k1] at q;exact⟨_,Y,_,Y,_,Y,.ref l,ws.length,Y,.inl ⟨_,aQ.of a,(bg ..).symm⟩,_,_,Y,Y,by show (0:Int)<(ws.length:Int);lia,l,_,(c%ws.length:Nat),_,Y,congrArg V.int (nM _ _).symm,aQ.of a,yn (XH (rD _ d)).1,q⟩
theorem FsN.uniq(a:FsN g ls ac no y)(b:FsN g ls ac no y'):y=y':=by
 obtain⟨i,m,w,p⟩:=a;obtain⟨j,s,q,u⟩:=b;have d:∀ {i j:Nat} {y:aN},no[i]?=U y->ui g ls ac (no.take j)->yj g ls y.1 ac≠y.2->¬ i<j:=λ{i j y} m q p v=>p (q y (oI.mpr ⟨i,by rw[dq,ap v];exact m⟩));obtain rfl:i=j:=Nat.le_antisymm (Nat.not_lt.mp (d s w u)) (Nat.not_lt.mp (d m q p));exact bI (m.symm.trans s)
theorem FsN.not(a:FsN g ls ac no y')(b:ui g ls ac no):False:=by
 obtain⟨i,j,_,d⟩:=a;exact d (b _ (bN j))
theorem PesAt.get(P:PesAt H lw f S CC.length ps)(b:hV n f g CC S)(a:S.en<=k)(d:k<CC.length):∃v,ps[k]?=U v/\PeAt H lw f S.ld k v:=by
 have:=P.le;exact⟨_,bb (),P.at_ k _ a (bb ())⟩
def σD(h:Int)(tl ll pl:D)(S:DS)(f:Int)(l:D)(b a:Option V):St:=[U (.int h),U (.ref tl),U (.ref ll),U (.ref pl),U (.int S.en),U (.int f),U (.ref l),U (.int S.wk),U (.int S.wc),b,a]
theorem zgc{j b:Option V}(i:H l=U (.lst (S.ws.map V.int)))(x:Mv f g CC S h e S2)(s:(S.ws=[]/\e=.rest)\/(S.ws≠[]/\e=.take (chW S.wk S.ws S.wc)))(q:∀v H',aJ H H'->tG H' v (h,e)->Q v H') :
  Yn K t (sS Q) (σD h tl ll pl S f l j b) H:=by
 refine⟨_,Y,(),λz m=>?_⟩;generalize c_:upd H z _=H1;obtain⟨a,u⟩:=xc c_ m;refine⟨l,z,_,Y,Y,aQ.of (a _ _ i),aQ.of u,_,Y,?_⟩;rcases s with ⟨w,rfl⟩|⟨w,rfl⟩
 .refine ym (Bj (by rw[w];rfl)) ⟨_,Y,by show 2<=Bb;rw[bH];decide,λp d=>?_⟩;exact q _ _ (a.trans (sX (o:=HO.tup [V.str "rest",V.int h]) p d)) (ZM (e:=.rest) p zh λ_ z=>nomatch z)
 .refine zV (Bk λz=>w (pH.mp z)) ⟨_,Y,_,Y,_,Y,_,Y,l,S.ws,S.wk,S.wc,Y,a _ _ i,w,by show 3<=Bb;rw[bH];decide,λp d=>?_⟩;exact q _ _ (a.trans (sX (o:=HO.tup [V.str "take",V.int h,V.int (chW S.wk S.ws S.wc)]) p d)) (ZM (e:=.take (chW S.wk S.ws S.wc)) p zh λ_ z=>nomatch z)
structure DuR(f:Int)(g:List aN)(CC:List (List Cs))(S:DS)(e:Ev)(r:Int):Prop where
 lr:f+(S.en:Int)<=r
 rl:r<=f+(CC.length:Int)
 me:r∈S.ld.map (·.1)\/r=f+(CC.length:Int)
 lo:∀e∈S.ld,e.1<r->ui g S.ls e.1 e.2.1.no
 hi:∀s gi,(r,s,gi)∈S.ld->¬ ui g S.ls r s.no/\∀y,FsN g S.ls r s.no y->e=.again r y.1 y.2 (yj g S.ls y.1 r)
 fi:r=f+(CC.length:Int)->(S.ws=[]/\e=.rest)\/(S.ws≠[]/\e=.take (chW S.wk S.ws S.wc))
 ns:f+(S.en:Int)∈S.ld.map (·.1)->r=f+S.en
theorem zgd{w d:Option V}{r:Int}(ht:tq H tl g)(O:TbK g)(hd:H ll=U (.dK kv))(Bo:LdR H lw kv rs S.ls)(x:H pl=U (.lst ps))(P:PesAt H lw f S CC.length ps)(hl:H l=U (.lst (S.ws.map V.int)))(B:hV n f g CC S)(mv:Mv f g CC S h e S2)(R:DuR f g CC S e r)(q:∀v H',aJ H H'->tG H' v (h,e)->Q v H') :
  jV K t (sS Q) (σD h tl ll pl S f l w d) H:=by
 have el:=B.el;have l5:=B.cc.le;have T:=P.le;refine⟨_,Y,_,Y,.ref pl,CC.length,Y,.inl ⟨_,aQ.of x,T.symm⟩,S.en,CC.length,Y,⟨(),(),(),()⟩,k8 (λi A H'=>(∃w d,A=σD h tl ll pl S f l w d)/\aJ H H'/\f+(S.en:Int)+i<=r) ⟨⟨_,_,Y⟩,aJ.refl _,by have:=R.lr;lia⟩ ?_ ?_⟩
 .rintro i A H' hi ⟨⟨w,d,rfl⟩,b,iv⟩;obtain⟨v,J,L⟩:=P.get B (k:=S.en+i) () ();rw[show (S.en:Int)+(i:Int)=((S.en+i:Nat):Int) by lia];refine⟨_,Y,_,Y,pl,ps,(S.en+i:Nat),v,Y,Y,aQ.of (b _ _ x),yn J,Y,_,Y,?_⟩;rcases L with ⟨rfl,nm⟩|⟨a,o,nl,gl,s,gi,rfl,ha,hn,_,so,m⟩
  .refine zV Y ⟨⟨_,_,Y⟩,b,?_⟩;have:r≠f+((S.en+i:Nat):Int):=λz=>R.me.elim (λy=>nm (by rw[<-z];exact y)) λy=>by lia
   lia
  .refine ym Y ⟨_,Y,_,Y,_,Y,_,Y,pl,ps,(S.en+i:Nat),_,Y,Y,aQ.of (b _ _ x),yn J,_,Y,_,Y,_,_,Y,Y,tl,ll,a,nl,gl,o,_,g,s.no,kv,rs,S.ls,lw,Y,ht.same b,O,b _ _ hd,Bo.same b,b _ _ ha,hn.same b,so,λE j N=>⟨_,Y,Y,_,Y,zV Y ⟨⟨_,_,Y⟩,b.trans j,?_⟩⟩,λu E I y j M C hq=>?_⟩
   .have:r≠f+((S.en+i:Nat):Int):=λz=>by
     rw[<-z] at m N;exact(R.hi s gi m).1 N
    lia
   .obtain rfl:r=f+((S.en+i:Nat):Int):=by
     have:¬ f+((S.en+i:Nat):Int)<r:=λlt=>M.not (R.lo _ m lt);lia
    have ee:=(R.hi s gi m).2 y M;refine⟨_,Y,Y,_,Y,ym Y ⟨_,Y,_,Y,_,Y,_,_,Y,Y,jR Y C Y (jR Y C Y (jR Y C Y ⟨by show 6<=Bb;rw[bH];decide,λp x=>?_⟩))⟩⟩;have G:=sX (o:=HO.tup [V.str "again",V.int h,V.int (f+((S.en+i:Nat):Int)),V.ref I,V.int y.2,V.int (yj g S.ls y.1 (f+((S.en+i:Nat):Int)))]) p x;rw[ee] at q;exact q _ _ (b.trans (j.trans G)) (ZM (e:=.again (f+((S.en+i:Nat):Int)) y.1 y.2 _) I zh λp z=>by cases z;exact G _ _ hq)
 .rintro A H' ⟨⟨w,d,rfl⟩,b,iv⟩;have:=R.rl;exact zgc (t:=t) (b _ _ hl) mv (R.fi ()) λv E j=>q v E (b.trans j)
theorem zac{vs:List V}{_E:XK}(h:jH  vs H Q _E) :
  WP K t (sS Q) (L2.start ["hand","table","laid","papers","done","first","waiting","kind","count","at","news"] vs) H:=by
 obtain⟨h,f,n,tl,ll,pl,l,g,kv,rs,lw,ps,CC,S,S2,e,rfl,ht,tb,hd,Bo,B,P,hl,A,fr,mv,q⟩:=h;have pe:=P.le;have nn:=A.nd.2.1.2.1;have M:(∃s d,(f+(S.en:Int),s,d)∈S.ld/\ui g S.ls (f+S.en) s.no/\e=.settle (f+S.en))\/∃r,DuR f g CC S e r:=by
  have no:∀ {r j s},(h,r,j,s)∈S.hl->False:=λm=>fr (bq (f:=λe:Int×Int×Nat×aY=>e.1) m);have bd:∀ {r},r∈S.ld.map (·.1)->f+(S.en:Int)<=r/\r<f+(CC.length:Int):=λm=>by obtain⟨j,rfl,a,b⟩:=A.rl m;lia
  have el:=A.el;have I:(∀e∈S.ld,ui g S.ls e.1 e.2.1.no)->f+(S.en:Int) ∉ S.ld.map (·.1)->((S.ws=[]/\e=.rest)\/(S.ws≠[]/\e=.take (chW S.wk S.ws S.wc)))->DuR f g CC S e (f+CC.length):=λJ x fi=>⟨(),sE _,.inr Y,λe he _=>J e he,λs d m=>absurd (bd (bq (f:=λe:Int×aY×List aN=>e.1) m)).2 (Int.lt_irrefl _),λ_=>fi,λz=>absurd z x⟩;cases mv with
  |step m=>exact(no m).elim
  |read m=>exact(no m).elim
  |lay m=>exact(no m).elim
  |@settle s d m C=>exact .inl ⟨s,d,m,C,Y⟩
  |@again r s d p o ws' m N lo ns =>
   have mm:=bq (f:=λe:Int×aY×List aN=>e.1) m;have b:=bd mm;refine .inr ⟨r,b.1,oF b.2,.inl mm,lo,λs' G O=>?_,(λz=>absurd b.2 (by rw[z];exact Int.lt_irrefl _)),ns⟩;cases uniq nn m O rfl;exact⟨N.not,λy fy=>by cases N.uniq fy;rfl⟩
  |take m er J x=>exact .inr ⟨_,I J x (.inr ⟨(λz=>by rw[z] at m;cases m),by rw[er]⟩)⟩
  |rest w J x=>exact .inr ⟨_,I J x (.inl ⟨w,Y⟩)⟩
 refine⟨_,Y,_,Y,.ref pl,CC.length,Y,.inl ⟨_,aQ.of B,pe.symm⟩,_,_,Y,Y,_,Y,?_⟩;have go:∀ {r H'},DuR f g CC S e r->aJ H H'->jV K t (sS Q) (σD h tl ll pl S f l ak ak) H':=λ{r H'} R i=>zgd (ht.same i) tb (i _ _ hd) (Bo.same i) (i _ _ B) ⟨P.le,λk v a b=>(P.at_ k v a b).imp id λ⟨a,o,nl,gl,s,d,e,ha,T,z⟩=>⟨a,o,nl,gl,s,d,e,i _ _ ha,T.same i,z⟩⟩ (i _ _ hl) A mv R λv H2 E=>q v H2 (i.trans E);by_cases c:S.en<CC.length
 .obtain⟨v,hv,L⟩:=P.get A (bp S.en) c;refine ym (Bj ()) ⟨_,Y,_,Y,pl,ps,(S.en:Nat),v,Y,Y,aQ.of B,yn hv,Y,_,Y,?_⟩;rcases L with ⟨rfl,x⟩|⟨a,o,nl,gl,s,d,rfl,ha,T,_,so,m⟩
  .refine zV Y ?_;rcases M with ⟨s,d,m,_⟩|⟨r,R⟩
   .exact absurd (bq (f:=λe:Int×aY×List aN=>e.1) m) x
   .exact go R (aJ.refl _)
  .refine ym Y ⟨_,Y,_,Y,_,Y,_,Y,pl,ps,(S.en:Nat),_,Y,Y,aQ.of B,yn hv,_,Y,_,Y,_,_,Y,Y,tl,ll,a,nl,gl,o,_,g,s.no,kv,rs,S.ls,lw,Y,ht,tb,hd,Bo,ha,T,so,λH2 E C=>⟨Y,_,Y,ym Y ?_⟩,λu H2 qa y E N hu hq=>⟨Y,_,Y,zV Y ?_⟩⟩
   .rcases M with ⟨s',G,_,_,rfl⟩|⟨r,R⟩
    .refine⟨_,Y,_,Y,_,Y,_,_,Y,Y,by show 3<=Bb;rw[bH];decide,λp B=>?_⟩;exact q _ _ (E.trans (sX (o:=HO.tup [V.str "settle",V.int h,V.int (f+S.en)]) p B)) (ZM (e:=.settle (f+S.en)) p zh λ_ z=>nomatch z)
    .have er:=R.ns (bq (f:=λe:Int×aY×List aN=>e.1) m);rw[<-er] at m C;exact absurd C (R.hi s d m).1
   .rcases M with ⟨s',G,O,C,_⟩|⟨r,R⟩
    .cases uniq nn m O rfl;exact(N.not C).elim
    .exact go R E
 .refine zV (Bk ()) (zV Y ?_);rcases M with ⟨s,d,m,_⟩|⟨r,R⟩
  .obtain⟨j,ej,_,jl⟩:=A.rl (bq (f:=λe:Int×aY×List aN=>e.1) m);have ej:f+(S.en:Int)=f+j:=ej;lia
  .exact go R (aJ.refl _)
end
section
variable {H':Hp}{lw:D->Nat}{ll pl x:D}{ra:RAd}{C:List Cs}{s:aY}{v:V}{h r f:Int}{g:List aN}{kv:List (aU×V)}{ls:List (Int×List aN)}{ps:List V}{j k:Nat}{e:Ev}
theorem Z0(h:k<m):ixN m (k:Int)=U k:=by
 unfold ixN;simp;lia
theorem Vg{vs:List V}{_E:XK}(h:xN t vs H Q _E) :
  ZE K t (sS Q) (L2.start ["run","row","rank","laid","papers","first"] vs) H:=by
 obtain⟨v,h,r,f,x,ll,pl,ra,C,s,j,k,e,g,kv,ls,ps,rfl,h1,R,O,I,a2,hd,lk,hp,ek,kl,a1,M,ow,q1,q2⟩:=h;refine ji R.ix Y Y ⟨x,ra,C,s,Y,R,λH2 m=>⟨_,Y,?_⟩⟩;have R2:=R.same m;have l2:s.gi.length<=j:=I.ok.l2;have l3:s.no.length<=j:=I.ok.l3;have n:pl≠ll:=zM hp hd ();cases ho:yH C s with
 |true =>
  have il:Qa e=ah:=by
   cases e with
   |lay r'=>rfl
   |step r'=>have:=M.2.1;rw[ho] at this;cases this
   |read r' p w=>have:=M.2.1;rw[ho] at this;cases this
   |_=>exact M.elim
  refine ym Y (ji R2.ix Y Y ⟨x,ra,C,s,Y,R2,(),I.ok.nd,(),(λH' z=>by rw[ho] at z;cases z),λp o nl gl ar i _ s4 l a4 _ hr oc hn hg gi=>?_⟩);have E:=m.trans s4;have u:=E _ _ hp;refine⟨_,Y,_,Y,_,Y,_,_,Y,Y,pl,ps,_,k,Y,Y,u,by rw[ek];exact Z0 kl,by rw[ek];lia,?_⟩;have R5:=(R.same E).off (zs:=ps.set k (.ref p)) (λz=>(ow _ z).2 Y) u;have B:∀b o,b≠pl->i b=U o->upd i pl (.lst (ps.set k (.ref p))) b=U o:=λb o z e=>by rw[zi z];exact e
  have e5:upd i pl (.lst (ps.set k (.ref p))) pl=U (.lst (ps.set k (.ref p))):=zh;have t5:uc i (upd i pl (.lst (ps.set k (.ref p)))):=vA u λ_ z=>nomatch z
  generalize upd i pl (.lst (ps.set k (.ref p)))=H5 at *
  refine ji R5.ix Y Y ⟨x,ra,C,s,Y,R5,(),I.ok.nd,(),(λH' z=>by rw[ho] at z;cases z),λp2 o2 aS g2 G H6 _ A an d _ ai az a3 aj al=>?_⟩;have N:=A _ _ (B _ _ n.symm (E _ _ hd));refine⟨p2,_,2,_,Y,Y,sW.of ai,Y,_,Y,_,Y,ll,_,Y,.k (k:=.inl r) N (by rw[bH];lia),?_⟩;have ng:g2≠ll:=λz=>by rw[z,B _ _ n.symm (E _ _ hd)] at d;cases d
  have nn:nl≠ll:=λz=>by rw[z,m _ _ hd] at l;cases l
  have np:nl≠pl:=λz=>by rw[z,m _ _ hp] at l;cases l
  have ts:uc H6 (upd H6 ll (.dK (yJ kv (.inl r) (.ref g2)))):=vA N λ_ z=>nomatch z
  obtain⟨xs,xa,xb⟩:=hn;have aa:=A _ _ (B _ _ np xa);have ag:nl≠g2:=λz=>by rw[<-z,B _ _ np xa] at d;cases d
  have fr:∀b,H5 b=ak->H b=ak:=λb z=>by
   cases y:H b with
   |none=>rfl
   |some o =>
    by_cases c:b=pl
    .rw[c,e5] at z;cases z
    .rw[B _ _ c (E _ _ y)] at z;cases z
  refine q1 _ p o nl gl g2 G il (λb o z1 z2 e=>by rw[zi z1];exact A _ _ (B _ _ z2 (E _ _ e))) zh (by rw[zi n];exact A _ _ e5) (ts _ _ (A _ _ (t5 _ _ hr))) (zJ m l) ⟨xs,by rw[zi nn];exact aa,xP ts (kM A (xP t5 xb))⟩ (fr _ d) ag (let ⟨ys,a,b⟩:=aj;⟨ys,by rw[zi ng];exact a,xP ts b⟩) al
 |false =>
  obtain⟨a,qa,rfl,hv,_⟩:=h1;have q:=m _ _ hv;have st:∀ {w H3},aJ H2 H3->w=hlW e->Qa e=ao->xL t [.ref x,.int w] H3 (λ_ H'=>Q (.ref x) H') E0:=λ{w H3} s3 ew il=>⟨x,w,j,ra,C,s,Y,R2.same s3,O.ok,I.ok,(),λi J T=>q2 i il (λb o z y=>J b o z (s3 _ _ (m _ _ y))) (by rw[<-ew];exact T)⟩;refine zV Y ⟨_,Y,a,_,0,.str (evW e),Y,Y,sW.of q,yn (j:=0) Y,Y,_,Y,?_⟩;cases e with
  |step r' =>
   refine zV Y (zV Y (ji R2.ix Y Y ?_));obtain⟨x',w,j',a',C',s',e',z⟩:=st (w:=0) (aJ.refl _) Y rfl;exact⟨x',w,j',a',C',s',e',z.1,z.2.1,z.2.2.1,z.2.2.2.1,λi J T=>⟨_,Y,z.2.2.2.2 i J T⟩⟩
  |read r' p w =>
   refine ym Y ⟨_,Y,.ref a,5,Y,.inr ⟨_,sW.of q,Y⟩,Y,_,Y,ym Y (ji R2.ix Y Y ⟨_,Y,a,_,4,.int w,Y,Y,sW.of q,Y,?_⟩)⟩;obtain⟨x',w',j',a',C',s',e',z⟩:=st (w:=w) (aJ.refl _) Y rfl;exact⟨x',w',j',a',C',s',e',z.1,z.2.1,z.2.2.1,z.2.2.2.1,λi J T=>⟨_,Y,z.2.2.2.2 i J T⟩⟩
  |lay r' =>
   have:=M.2;rw[ho] at this;cases this
  |_=>exact M.elim
end
section
variable {H':Hp}{lw lw':D->Nat}{tl ll rl kl al x b gl:D}{ra:RAd}{C:List Cs}{CC:List (List Cs)}{s s':aY}{j k:Nat}{g gi:List aN}{kv:List (aU×V)}{rs:List Int}{ls:List (Int×List aN)}{h r f n:Int}{v u:V}{e:Ev}{hl hl2:List (Int×Int×Nat×aY)}{S S2:DS}{us cvs ps:List V}{B:LX}{M:Nat->Prop}{ld:List (Int×aY×List aN)}
theorem LawAt.fr(A:LawAt t H lw rl kl ll n f CC hl ls)(F:Fr M H H' lw lw')(w:M 1)(q:M 2)(p:M 3)(m:M 5)(c:∀k:Nat,M (20+k))(ow:∀b,lw' b≠0->lw b≠0\/∃o,H' b=U o):LawAt t H' lw' rl kl ll n f CC hl ls:=by
 obtain⟨⟨us,l,J,I⟩,⟨ks,i,G⟩,⟨kv,rs,d,E⟩,l1,l2,l3,a⟩:=A;exact⟨⟨us,F.kp _ _ (by rw[l1];exact w) l,J,λh v e=>(I h v e).fr F (c _)⟩,⟨ks,F.kp _ _ (by rw[l2];exact q) i,G⟩,⟨kv,rs,F.kp _ _ (by rw[l3];exact p) d,E.fr F m⟩,(F.ex _ _ l).trans l1,(F.ex _ _ i).trans l2,(F.ex _ _ d).trans l3,λb z=>(ow b z).elim (λy=>let ⟨o,e⟩:=a b y;F.al b o e) id⟩
theorem PeAt.fr(P:PeAt H lw f ld k v)(F:Fr M H H' lw lw')(a:M 9):PeAt H' lw' f ld k v:=by
 rcases P with z|⟨r,o,nl,gl,s,gi,e,hr,⟨xs,hx,px⟩,l9,z⟩
 .exact .inl z
 .exact .inr ⟨r,o,nl,gl,s,gi,e,F.ts _ _ hr,⟨xs,F.kp _ _ (by rw[l9];exact a) hx,xP F.ts px⟩,(F.ex _ _ hx).trans l9,z⟩
theorem LwX.same(A:LwX t H lw B n f CC S)(s:aJ H H'):LwX t H' lw B n f CC S:=by
 obtain⟨ps,i,P⟩:=A.pp;obtain⟨ws,d,c⟩:=A.ww;have F:Fr (λ_=>True) H H' lw lw:=Fr.same s;exact⟨A.la.fr F trivial trivial trivial trivial (λ_=>trivial) λ_ z=>.inl z,⟨ps,s _ _ i,P.le,λk v a b=>(P.at_ k v a b).fr F trivial⟩,⟨ws,s _ _ d,c⟩,s _ _ A.oo,A.l6,A.l7,A.l8⟩
def σM(v:V)(h:Int)(al tl:D)(f:Int)(S:DS)(B:LX)(a:Option V):St:=[U v,U (.int h),U (.ref al),U (.ref tl),U (.int f),U (.int S.wk),U (.ref B.rl),U (.ref B.kl),U (.ref B.ll),U (.ref B.pl),U (.ref B.wl),U (.ref B.ol),a]
theorem LwX.settle(A:LwX t H lw B n f CC S):Fr N0 H (upd H B.ol (.lst [.int (S.en+1:Nat),.int (S.wc:Nat)])) lw lw/\LwX t (upd H B.ol (.lst [.int (S.en+1:Nat),.int (S.wc:Nat)])) lw B n f CC { S with ld:=yg S.ld (f+S.en),en:=S.en+1,es:=S.es++[(s,gi)] }:=by
 have F:Fr (λl=>l≠8) H (upd H B.ol (.lst [.int (S.en+1:Nat),.int (S.wc:Nat)])) lw lw:=qA A.oo A.l8 λ_ z=>nomatch z
 obtain⟨ps,i,P⟩:=A.pp;obtain⟨ws,d,c⟩:=A.ww;refine⟨F.mono λl z=>by unfold N0 at z;lia,A.la.fr F () () () () (λk=>by lia) (λ_ z=>.inl z),⟨ps,F.kp _ _ (by rw[A.l6];decide) i,P.le,λk v a b=>?_⟩,⟨ws,F.kp _ _ (by rw[A.l7];decide) d,c⟩,zh,A.l6,A.l7,A.l8⟩;have a:S.en+1<=k:=a;rcases(P.at_ k v () b).fr F () with ⟨z,nm⟩|⟨r,o,nl,gl,s,gi,z1,z2,z3,z4,z5,m⟩
 .refine .inl ⟨z,λy=>nm ?_⟩;obtain⟨e,p,q⟩:=bB.mp y;exact bB.mpr ⟨e,(aV.mp p).1,q⟩
 .exact .inr ⟨r,o,nl,gl,s,gi,z1,z2,z3,z4,z5,aV.mpr ⟨m,by show f+(k:Int)≠f+S.en;lia⟩⟩
theorem LwX.again{ws d:List Int}(A:LwX t H lw B n f CC S)(T:H B.pl=U (.lst ps))(P:PesAt H lw f S CC.length ps)(O:H B.wl=U (.lst (ws.map V.int)))(I:ws.Perm S.ws)(J:d.Perm ((f+(k:Int))::S.ws)):Fr N0 H (upd (upd H B.pl (.lst (ps.set k .non))) B.wl (.lst ((ws++[f+(k:Int)]).map V.int))) lw lw/\LwX t (upd (upd H B.pl (.lst (ps.set k .non))) B.wl (.lst ((ws++[f+(k:Int)]).map V.int))) lw B n f CC { S with ld:=yg S.ld (f+(k:Int)),ws:=d }:=by
 have G:Fr (λl=>l≠6) H (upd H B.pl (.lst (ps.set k .non))) lw lw:=qA T A.l6 λ_ z=>nomatch z
 have e1:upd H B.pl (.lst (ps.set k .non)) B.pl=U (.lst (ps.set k .non)):=zh;generalize upd H B.pl (.lst (ps.set k .non))=H1 at *
 have p:=G.kp _ _ (by rw[A.l7];decide) O;have E:Fr (λl=>l≠7) H1 (upd H1 B.wl (.lst ((ws++[f+(k:Int)]).map V.int))) lw lw:=qA p A.l7 λ_ z=>nomatch z
 have F:Fr (λl=>l≠6/\l≠7) H _ lw lw:=(G.mono λl z=>z.1).trans (E.mono λl z=>z.2);refine⟨F.mono λl z=>by unfold N0 at z;lia,A.la.fr F () () () () (λk=>by lia) (λ_ z=>.inl z),⟨ps.set k .non,E.kp _ _ (by rw[A.l6];decide) e1,by rw[fm];exact P.le,λi v a b=>?_⟩,⟨_,zh,?_⟩,F.kp _ _ (by rw[A.l8];decide) A.oo,A.l6,A.l7,A.l8⟩
 .by_cases c:i=k
  .rw[c] at b ⊢;have N:k<ps.length:=by have:=(bn.mp b).1;rwa [fm] at this
   rw[da N] at b;cases b;refine .inl ⟨Y,λy=>?_⟩;obtain⟨e,q,w⟩:=bB.mp y;exact(aV.mp q).2 w
  .rw[dF (ef c)] at b;rcases(P.at_ i v a b).fr F () with ⟨z,nm⟩|⟨r,o,nl,gl,s,gi,z1,z2,z3,z4,z5,m⟩
   .refine .inl ⟨z,λy=>nm ?_⟩;obtain⟨e,q,w⟩:=bB.mp y;exact bB.mpr ⟨e,(aV.mp q).1,w⟩
   .exact .inr ⟨r,o,nl,gl,s,gi,z1,z2,z3,z4,z5,aV.mpr ⟨m,by show f+(i:Int)≠f+k;lia⟩⟩
 .refine dJ ?_ J.symm;exact List.perm_append_comm.trans (I.cons _)
theorem LwX.took{ws:List Int}(A:LwX t H lw B n f CC S)(p:H B.wl=U (.lst (ws.map V.int)))(o:ws.Perm S.ws):Fr N0 H (upd (upd H B.ol (.lst [.int (S.en:Nat),.int (S.wc+1:Nat)])) B.wl (.lst ((ws.erase r).map V.int))) lw lw/\LwX t (upd (upd H B.ol (.lst [.int (S.en:Nat),.int (S.wc+1:Nat)])) B.wl (.lst ((ws.erase r).map V.int))) lw B n f CC { S with ws:=S.ws.erase r,wc:=S.wc+1 }:=by
 have m:Fr (λl=>l≠8) H (upd H B.ol (.lst [.int (S.en:Nat),.int (S.wc+1:Nat)])) lw lw:=qA A.oo A.l8 λ_ z=>nomatch z
 have w:upd H B.ol (.lst [.int (S.en:Nat),.int (S.wc+1:Nat)]) B.ol=U (.lst [.int (S.en:Nat),.int (S.wc+1:Nat)]):=zh;generalize upd H B.ol (.lst [.int (S.en:Nat),.int (S.wc+1:Nat)])=H1 at *
 have c:=m.kp _ _ (by rw[A.l7];decide) p;have d:Fr (λl=>l≠7) H1 (upd H1 B.wl (.lst ((ws.erase r).map V.int))) lw lw:=qA c A.l7 λ_ z=>nomatch z
 have F:Fr (λl=>l≠8/\l≠7) H _ lw lw:=(m.mono λl z=>z.1).trans (d.mono λl z=>z.2);obtain⟨ps,q,P⟩:=A.pp;exact⟨F.mono λl z=>by unfold N0 at z;lia,A.la.fr F () () () () (λk=>by lia) (λ_ z=>.inl z),⟨ps,F.kp _ _ (by rw[A.l6];decide) q,P.le,λi v a b=>(P.at_ i v a b).fr F ()⟩,⟨_,zh,o.erase r⟩,d.kp _ _ (by rw[A.l8];decide) w,A.l6,A.l7,A.l8⟩
theorem LwX.hands{lw':D->Nat}(A:LwX t H lw B n f CC S)(F:Fr (λl=>l≠1/\l≠2) H H' lw lw')(o:LawAt t H' lw' B.rl B.kl B.ll n f CC hl2 S.ls):LwX t H' lw' B n f CC { S with hl:=hl2 }:=by
 obtain⟨ps,d,P⟩:=A.pp;obtain⟨ws,c,m⟩:=A.ww;exact⟨o,⟨ps,F.kp _ _ (by rw[A.l6];decide) d,P.le,λi v a b=>(P.at_ i v a b).fr F ()⟩,⟨ws,F.kp _ _ (by rw[A.l7];decide) c,m⟩,F.kp _ _ (by rw[A.l8];decide) A.oo,(F.ex _ _ d).trans A.l6,(F.ex _ _ c).trans A.l7,(F.ex _ _ A.oo).trans A.l8⟩
end
section
variable {H':Hp}{lw lw':D->Nat}{tl ll rl kl al x b gl dv:D}{ra:RAd}{C:List Cs}{CC:List (List Cs)}{s s':aY}{j k:Nat}{g gi:List aN}{kv:List (aU×V)}{rs:List Int}{ls:List (Int×List aN)}{h r f n:Int}{v u:V}{e:Ev}{S S2:DS}{us cvs ps xs:List V}{B:LX}{X:St->Hp->Prop}{Bp:qT}
theorem CoZ.fr(P:Paired (CoZ H lw) cvs CC)(F:Fr N0 H H' lw lw'):Paired (CoZ H' lw') cvs CC:=Paired.mapP P λ_ _ ⟨⟨c,d,e,a,i⟩,z⟩=>⟨⟨c,d,e,F.kp _ _ (z c e) a,xO F.ts i⟩,λm l=>by cases e.symm.trans l;exact(F.ex _ _ a).trans (z c e)⟩
theorem zcC(hd:H dv=U (.tup [.str "take",.int k,.int r]))(ha:H al=U (.lst (cvs++xs)))(la:lw al=0)(pc:Paired (CoZ H lw) cvs CC)(A:LwX t H lw B n f CC S)(ok:hV n f g CC S)(hk:(k:Int)<n)(n8:n<=8)(no:(k:Int) ∉ S.hl.map (·.1))(hr:r∈S.ws)(q:∀H' lw',Fr N0 H H' lw lw'->LwX t H' lw' B n f CC { S with ws:=S.ws.erase r,hl:=S.hl++[((k:Int),r,0,st0)],wc:=S.wc+1 }->X (σM v k al tl f S B (U (.ref dv))) H') :
  qO K t { nx:=X,rt:=Q } (σM v k al tl f S B (U (.ref dv))) H:=by
 obtain⟨ws,hw,pw⟩:=A.ww;obtain⟨jj,rj,_,jl⟩:=ok.rw_ hr;refine⟨_,Y,B.ol,_,1,.int S.wc,Y,Y,A.oo,Y,(),_,_,Y,Y,A.oo,?_⟩;have ar:B.wl≠B.ol:=λz=>by have:=A.l7;rw[z,A.l8] at this;cases this
 have ai:upd H B.ol (.lst [.int (S.en:Nat),.int (S.wc+1:Nat)]) dv=U (.tup [.str "take",.int k,.int r]):=by rw[zi (zM hd A.oo ())];exact hd
 have p:upd H B.ol (.lst [.int (S.en:Nat),.int (S.wc+1:Nat)]) B.wl=U (.lst (ws.map V.int)):=by rw[zi ar];exact hw
 refine⟨_,Y,.inl ⟨Y,_,aQ.of p⟩,jR Y ai Y ⟨B.wl,ws,r,Y,Y,p,pw.mem_iff.mpr hr,?_⟩⟩;obtain⟨F2,a⟩:=A.took (r:=r) hw pw;show zo _ _ { nx:=X,rt:=Q } (σM v k al tl f S B (U (.ref dv))) (upd (upd H B.ol (.lst [.int (S.en:Nat),.int (S.wc+1:Nat)])) B.wl (.lst ((ws.erase r).map V.int)));generalize upd (upd H B.ol (.lst [.int (S.en:Nat),.int (S.wc+1:Nat)])) B.wl (.lst ((ws.erase r).map V.int))=H2 at *
 clear ai p;have ag:=F2.ts _ _ hd;have az:=F2.kp _ _ la ha;have an:=CoZ.fr pc F2;obtain⟨us,M,ul,a3⟩:=a.la.rr;obtain⟨G,O,kn,kk⟩:=a.la.kk;obtain⟨kv,rs,aa,Bo⟩:=a.la.dd;obtain⟨w,d⟩:∃w,cvs[(r-f).toNat]?=U w:=⟨_,bb (by rw[bL pc];lia)⟩;obtain⟨C,hC,⟨c,ys,rfl,hc,aj⟩,_⟩:=Paired.getP an d;refine⟨_,Y,jR Y ag Y ⟨_,Y,_,_,Y,Y,al,_,(r-f).toNat,_,Y,congrArg V.int (),aQ.of az,yn ((cF (bn.mp d).1).trans d),?_⟩⟩;intro x dx hx T n';have s4:aJ H2 (upd (upd H2 dx (HO.own x)) x (HO.ins t.q00 dx [])):=λb o e=>by rw[zi (zw e hx),zi (zw e T)];exact e
 refine⟨x,c,dx,ys,C,Y,zh,s4 _ _ hc,wa s4 aj,λH5 ra k5 R5 aS=>?_⟩;obtain⟨E,ow⟩:=zfU (aJ.refl H2) hx T k5 aS;have J:=E _ _ M;refine⟨Y,_,Y,_,Y,B.rl,us,k,k,Y,Y,J,Z0 (),⟨(),()⟩,?_⟩;have e6:upd H5 B.rl (.lst (us.set k (.ref x))) B.rl=U (.lst (us.set k (.ref x))):=zh;have I:Fr (λl=>l≠1) H5 (upd H5 B.rl (.lst (us.set k (.ref x)))) lw lw:=qA J a.la.l1 λ_ z=>nomatch z
 generalize upd H5 B.rl (.lst (us.set k (.ref x)))=H6 at *
 have N:=I.kp _ _ (by rw[a.la.l2];decide) (E _ _ O);refine jR Y (I.ts _ _ (E _ _ ag)) Y ⟨_,Y,_,Y,B.kl,_,k,k,Y,Y,N,Z0 (by rw[bg];lia),⟨(),()⟩,?_⟩;have F7:Fr (λl=>l≠2) H6 (upd H6 B.kl (.lst ((G.map V.int).set k (.int r)))) lw lw:=qA N a.la.l2 λ_ z=>nomatch z
 have e7:upd H6 B.kl (.lst ((G.map V.int).set k (.int r))) B.kl=U (.lst ((G.set k r).map V.int)):=by rw[List.map_set];exact zh
 generalize upd H6 B.kl (.lst ((G.map V.int).set k (.int r)))=H7 at *
 open Classical in
 have F:Fr (λl=>l≠1/\l≠2) H2 H7 lw (λb=>if OwA x ra b then 20+k else lw b):=⟨λb o e=>am (λz=>by rw[ow b z] at e;cases e),λb o z e=>F7.kp b o z.2 (I.kp b o z.1 (E _ _ e)),λb zs e=>F7.ts _ _ (I.ts _ _ (E _ _ e)),λb o e=>let ⟨o',z⟩:=I.al b o (E _ _ e);F7.al b o' z⟩;have lO:∀b,OwA x ra b->lw b=0:=λb z=>by
  cases c:decide (lw b=0) with
  |true=>exact of_decide_eq_true c
  |false =>
   obtain⟨o,e⟩:=a.la.ow b (of_decide_eq_false c);rw[ow b z] at e;cases e
 have R7:aX t H7 x ra C st0:=(((R5.fr lO I ()).1).fr lO F7 ()).1;refine q H7 _ (F2.trans (F.mono λl z=>by unfold N0 at z;lia)) (a.hands F ⟨⟨us.set k (.ref x),F7.kp _ _ (by rw[a.la.l1];decide) e6,by rw[fm];exact ul,λi v hv=>?_⟩,⟨G.set k r,e7,by rw[fm];exact kn,λe m=>?_⟩,⟨kv,rs,F.kp _ _ (by rw[a.la.l3];decide) aa,Bo.fr F ()⟩,(F.ex _ _ M).trans a.la.l1,(F.ex _ _ O).trans a.la.l2,(F.ex _ _ aa).trans a.la.l3,λb z=>?_⟩)
 .by_cases c:i=k
  .subst c;rw[da ()] at hv;cases hv;exact .inr ⟨x,ra,r,0,st0,C,Y,bK _ (bo.mpr Y),hC,R7,λb z=>ap z⟩
  .rw[dF (ef c)] at hv;refine((a3 i v hv).fr F ()).mv λb=>⟨λz=>(bu.mp z).resolve_right λy=>c ?_,λz=>cr _ z⟩;have:=congrArg (·.1) (bo.mp y);have:(i:Int)=k:=this;lia
 .rcases bu.mp m with m|m
  .have ne:e.1.toNat≠k:=λz=>no (by
    have:=(ok.hr e m).1;rw[show (k:Int)=e.1 by lia];exact bq (f:=(·.1)) m)
   rw[dF (ef ne)];exact kk e m
  .cases bo.mp m;exact da (show k<G.length by lia)
 .by_cases c:OwA x ra b
  .cases e:H7 b with
   |none=>exact absurd e (R7.has c)
   |some o=>exact⟨o,Y⟩
  .rw[am c] at z;obtain⟨o,y⟩:=a.la.ow b z;exact F.al b o y
theorem zcD(F:KF K)(a:tG H (.ref dv) ((k:Int),e))(ha:H al=U (.lst (cvs++xs)))(la:lw al=0)(pc:Paired (CoZ H lw) cvs CC)(A:LwX t H lw B n f CC S)(E:hV n f g CC S)(hk:(k:Int)<n)(n8:n<=8)(no:(k:Int) ∉ S.hl.map (·.1))(mv:Mv f g CC S k e S2)(q:∀H' lw',Fr N0 H H' lw lw'->LwX t H' lw' B n f CC S2->Q (.bl ah) H') :
  qQ K t (sS Q) (σM v k al tl f S B (U (.ref dv))) H:=by
 obtain⟨aj,O,ed,a,hq⟩:=a;cases ed;have d:∀ {r j s},((k:Int),r,j,s)∈S.hl->False:=λm=>no (bq (f:=λe:Int×Int×Nat×aY=>e.1) m);refine⟨_,Y,dv,_,0,.str (evW e),Y,Y,sW.of a,yn (j:=0) Y,Y,_,Y,?_⟩;cases mv with
 |step m=>exact(d m).elim
 |read m=>exact(d m).elim
 |lay m=>exact(d m).elim
 |@settle s gi m ag =>
  obtain⟨l,G⟩:=A.settle (s:=s) (gi:=gi);refine ym Y ⟨_,Y,B.ol,_,0,.int S.en,Y,Y,A.oo,Y,(),_,_,Y,Y,A.oo,?_⟩;have c:=l.ts _ _ a;show qP K t _ _ (upd H B.ol (.lst [.int (S.en+1:Nat),.int (S.wc:Nat)]));exact⟨_,Y,dv,_,0,.str "settle",Y,Y,sW.of c,yn (j:=0) Y,Y,_,Y,zV Y ⟨_,Y,dv,_,0,.str "settle",Y,Y,sW.of c,yn (j:=0) Y,Y,_,Y,zV Y (q _ lw l G)⟩⟩
 |@again r s gi p o ws' m fs lo ns pm =>
  obtain⟨ps,I,P⟩:=A.pp;obtain⟨N,hw,T⟩:=A.ww;obtain⟨i,M,ai,il⟩:=E.rl (bq (f:=λe:Int×aY×List aN=>e.1) m);have M:r=f+i:=M;subst M;have l5:=E.cc.le;have pl:=P.le;have a:H dv=U (.tup [.str "again",.int k,.int (f+(i:Int)),.ref O,.int o,.int (yj g S.ls p (f+(i:Int)))]):=a;refine zV Y ⟨_,Y,dv,_,0,.str "again",Y,Y,sW.of a,Y,Y,_,Y,ym Y ⟨_,Y,jR Y a Y ⟨_,Y,_,_,Y,Y,B.pl,ps,_,i,Y,Y,I,by rw[show f+(i:Int)-f=i by lia];exact Z0 (),(),?_⟩⟩⟩;have np:B.wl≠B.pl:=λz=>by have:=A.l7;rw[z,A.l6] at this;cases this
  have y:upd H B.pl (.lst (ps.set i .non)) B.wl=U (.lst (N.map V.int)):=by rw[zi np];exact hw
  have J:upd H B.pl (.lst (ps.set i .non)) dv=U (.tup [.str "again",.int k,.int (f+(i:Int)),.ref O,.int o,.int (yj g S.ls p (f+(i:Int)))]):=by rw[zi (zM a I ())];exact a
  have ln:=E.len;have aa:=T.length_eq;refine⟨_,Y,.inl ⟨Y,_,aQ.of y⟩,jR Y J Y ⟨B.wl,_,_,Y,Y,y,bT (show (N.map V.int).length<=10 by rw[bg];lia) (by rw[bH];decide),?_⟩⟩;obtain⟨l,G⟩:=A.again I P hw T pm;rw[bR] at l G;have c:=l.ts _ _ a;exact⟨_,Y,dv,_,0,.str "again",Y,Y,sW.of c,Y,Y,_,Y,zV Y (q _ lw l G)⟩
 |@take r m er al' hm fr =>
  have a:H dv=U (.tup [.str "take",.int k,.int r]):=a;exact zV Y ⟨_,Y,dv,_,0,.str "take",Y,Y,sW.of a,Y,Y,_,Y,zV Y ⟨_,Y,dv,_,0,.str "take",Y,Y,sW.of a,Y,Y,_,Y,ym Y (zcC a ha la pc A E hk n8 no m λH' lw' F A'=>q H' lw' F A')⟩⟩
 |rest w =>
  have a:H dv=U (.tup [.str "rest",.int k]):=a;exact zV Y ⟨_,Y,dv,_,0,.str "rest",Y,Y,sW.of a,Y,Y,_,Y,zV Y ⟨_,Y,dv,_,0,.str "rest",Y,Y,sW.of a,Y,Y,_,Y,zV Y (q H lw (Fr.same (aJ.refl _)) A)⟩⟩
end
section
variable {H':Hp}{lw lw':D->Nat}{tl ll rl kl al x b gl dv:D}{ra:RAd}{C:List Cs}{CC:List (List Cs)}{s s':aY}{j k:Nat}{g gi:List aN}{kv:List (aU×V)}{rs:List Int}{ls:List (Int×List aN)}{h r f n:Int}{v u:V}{e:Ev}{S S2:DS}{us cvs ps xs:List V}{B:LX}{X:St->Hp->Prop}{Bp:qT}
theorem zge(q:Mv f g CC S h e S2)(i:(h,r,j,s)∈S.hl)(l:(S.hl.map (·.1)).Nodup)(p:CC[(r-f).toNat]?=U C):HlE C s g S.ls r e/\(Qa e=ao->S2={ S with hl:=Z3 S.hl h (r,j+1,xw C (hlW e) s) })/\(Qa e=ah->∃gi,qW s gi/\S2={ S with hl:=yg S.hl h,ls:=xl S.ls r gi,ld:=S.ld++[(r,s,gi)] }):=by
 have d:h ∉ S.hl.map (·.1)->False:=λz=>z (bq (f:=(·.1)) i);cases q with
 |step m c o a=>cases uniq l i m rfl;cases bI (p.symm.trans c);exact⟨⟨Y,o,a⟩,λ_=>rfl,λz=>nomatch z⟩
 |read m c o a=>cases uniq l i m rfl;cases bI (p.symm.trans c);exact⟨⟨Y,o,a,Y⟩,λ_=>rfl,λz=>nomatch z⟩
 |lay m c o gi=>cases uniq l i m rfl;cases bI (p.symm.trans c);exact⟨⟨Y,o⟩,(),λ_=>⟨_,gi,Y⟩⟩
 |settle _ _ z=>exact(d z).elim
 |again _ _ _ _ _ _ z=>exact(d z).elim
 |take _ _ _ _ z=>exact(d z).elim
 |rest _ _ _ z=>exact(d z).elim
theorem zcE(h1:tG H v ((k:Int),e))(A:LwX t H lw B n f CC S)(M:hV n f g CC S)(hk:(k:Int)<n)(n8:n<=8)(mv:Mv f g CC S k e S2)(T:H B.rl=U (.lst us))(ul:(us.length:Int)=n)(a3:∀(h:Nat) v,us[h]?=U v->RuAt t H lw f CC S.hl h v)(N:us[k]?=U (.ref x))(hm:((k:Int),r,j,s)∈S.hl)(hC:CC[(r-f).toNat]?=U C)(R:aX t H x ra C s)(G:∀b,OwA x ra b->lw b=20+k)(q:∀H' lw',Fr N0 H H' lw lw'->LwX t H' lw' B n f CC S2->Q (.bl ah) H') :
  zo (VS (Z 6) (Z 1) (zT (xN t) [] E0 (zc (aK (yD K) (Z 6) (Z 1)) (zc (Z 0) (zc (aK (yD K) (Z 7) (Z 1)) (zc (Z 8) (zc (Z 9) (zc (Z 4) zj)))))))) (zL (tC (.bl ah))) { nx:=X,rt:=Q } (σM v k al tl f S B ak) H:=by
 obtain⟨C',aS,I,an⟩:=M.rn _ hm;obtain rfl:C'=C:=bI (aS.symm.trans hC);obtain⟨O,_⟩:=M.cc.ok C' (bN hC);obtain⟨hE,st,ly⟩:=zge mv hm M.hn hC;obtain⟨ks,J,kn,kk⟩:=A.la.kk;obtain⟨kv,rs,hd,Bo⟩:=A.la.dd;obtain⟨ps,hp,P⟩:=A.pp;obtain⟨ws,hw,pw⟩:=A.ww;have ek:ks[k]?=U r:=kk _ hm;have aj:=Mv.ok M mv () hk;obtain⟨i,er,_,il⟩:=M.rh hm;have er:r=f+(i:Int):=er;have l5:=M.cc.le;have pl:=P.le;have lk:kv.length=rs.length:=by have:=congrArg fT Bo.ks;rwa [bg,bg] at this
 have a1:=Bo.le;refine⟨_,Y,_,Y,B.rl,us,k,.ref x,Y,Y,aQ.of T,yn N,_,Y,_,Y,_,Y,B.kl,_,k,.int r,Y,Y,aQ.of J,yn (by rw[bA,ek];rfl),_,Y,_,Y,_,Y,v,k,r,f,x,B.ll,B.pl,ra,C',s,j,i,e,g,kv,S.ls,ps,Y,h1,R,O,I,an,hd,(),hp,(),(),(),hE,λb z=>⟨λy=>?_,λy=>?_⟩,λd p o nl gl g2 gi il k4 e4 p4 t4 n0 n4 g0 ng g4 aa=>?_,λd il k4 R4=>?_⟩
 .have:=G b z;rw[y,A.la.l3] at this;lia
 .have:=G b z;rw[y,A.l6] at this;lia
 .obtain⟨az,ar,rfl⟩:=ly il;obtain rfl:=zhd ar aa;have n1:B.rl≠B.ll:=λz=>by have:=A.la.l1;rw[z,A.la.l3] at this;cases this
  have n2:B.rl≠B.pl:=λz=>by have:=A.la.l1;rw[z,A.l6] at this;cases this
  have w:=k4 _ _ n1 n2 T;refine⟨_,Y,_,Y,B.rl,us,k,k,Y,Y,w,Z0 (),⟨(),()⟩,?_⟩;have F:Fr (λl=>l≠1/\l≠3/\l≠6) H (upd d B.rl (.lst (us.set k .non))) lw (λb=>if b=nl then 9 else if b=g2 then 5 else lw b):=⟨λb o e=>by rw[am (λy=>by rw[y,n0] at e;cases e),am (λy=>by rw[y,g0] at e;cases e)],λb o z e=>by rw[zi (λy=>z.1 (by rw[y];exact A.la.l1))];exact k4 b o (λy=>z.2.1 (by rw[y];exact A.la.l3)) (λy=>z.2.2 (by rw[y];exact A.l6)) e,λb zs e=>by rw[zi (λy=>by rw[y,T] at e;cases e)];exact k4 b _ (λy=>by rw[y,hd] at e;cases e) (λy=>by rw[y,hp] at e;cases e) e,λb o e=>by
   by_cases y:b=B.rl
   .rw[y];exact⟨_,zh⟩
   .rw[zi y];by_cases y:b=B.ll
    .rw[y];exact⟨_,e4⟩
    .by_cases z:b=B.pl
     .rw[z];exact⟨_,p4⟩
     .exact⟨o,k4 b o y z e⟩⟩
  have t5:uc d (upd d B.rl (.lst (us.set k .non))):=vA w λ_ z=>nomatch z
  have nr:∀ {b},H b=ak->b≠B.rl:=λz y=>by rw[y,T] at z;cases z
  have E:∀ {b aM},H b=ak->tq d b aM->tq (upd d B.rl (.lst (us.set k .non))) b aM:=λz ⟨xs,a,c⟩=>⟨xs,by rw[zi (nr z)];exact a,xP t5 c⟩;obtain⟨ai,L'⟩:=LdR.put (f:=f) (m:=CC.length) (Bo.fr F ()) (E g0 g4) (by show ite _ _ _=_;rw[am (ef ng),ap rfl]) ⟨zf2 aa,zjj I aa⟩ aj.ly M.f0 M.cc.le;have r1:upd d B.rl (.lst (us.set k .non)) B.rl=U (.lst (us.set k .non)):=zh;have d1:upd d B.rl (.lst (us.set k .non)) B.ll=_:=(zi n1.symm).trans e4;have p1:upd d B.rl (.lst (us.set k .non)) B.pl=_:=(zi n2.symm).trans p4;have n5:=E n0 n4;have g5:=E g0 g4;have t6:=t5 _ _ t4;clear t5 E;generalize upd d B.rl (.lst (us.set k .non))=H5 at *
  refine q H5 _ (F.mono λl z=>by unfold N0 at z;lia) ⟨⟨⟨us.set k .non,r1,by rw[fm];exact ul,λi v N=>?_⟩,⟨ks,F.kp _ _ (by rw[A.la.l2];decide) J,kn,λe m=>kk e (aV.mp m).1⟩,⟨_,ai,d1,L'⟩,(F.ex _ _ T).trans A.la.l1,(F.ex _ _ J).trans A.la.l2,(F.ex _ _ hd).trans A.la.l3,λb z=>?_⟩,⟨ps.set i (.ref p),p1,by rw[fm];exact pl,λm v a b=>?_⟩,⟨ws,F.kp _ _ (by rw[A.l7];decide) hw,pw⟩,F.kp _ _ (by rw[A.l8];decide) A.oo,(F.ex _ _ hp).trans A.l6,(F.ex _ _ hw).trans A.l7,(F.ex _ _ A.oo).trans A.l8⟩
  .by_cases c:i=k
   .subst c;rw[da ()] at N;cases N;refine .inl ⟨Y,λz=>?_⟩;obtain⟨y,hy,ey⟩:=bB.mp z;exact(aV.mp hy).2 ey
   .rw[dF (ef c)] at N;exact((a3 i v N).fr F ()).mv λb=>⟨λz=>(aV.mp z).1,λz=>aV.mpr ⟨z,by show (i:Int)≠k;lia⟩⟩
  .by_cases c:b=nl
   .obtain⟨xs,a,_⟩:=n5;rw[c];exact⟨_,a⟩
   .rw[am c] at z;by_cases c:b=g2
    .obtain⟨xs,a,_⟩:=g5;rw[c];exact⟨_,a⟩
    .rw[am c] at z;obtain⟨o,y⟩:=A.la.ow b z;exact F.al b o y
  .by_cases c:m=i
   .rw[c] at b ⊢;rw[da ()] at b;cases b;exact .inr ⟨p,o,nl,gl,s,az,Y,t6,n5,ap Y,I.nn,bK _ (bo.mpr (by rw[er]))⟩
   .rw[dF (ef c)] at b;rcases(P.at_ m v a b).fr F () with ⟨z,nm⟩|⟨r,o,nl,gl,s,gi,z1,z2,z3,z4,z5,mm⟩
    .refine .inl ⟨z,λy=>nm ?_⟩;obtain⟨e,he,ee⟩:=bB.mp y;rcases bu.mp he with he|he
     .exact bB.mpr ⟨e,he,ee⟩
     .cases bo.mp he;exact absurd (show r=f+(m:Int) from ee) ()
    .exact .inr ⟨r,o,nl,gl,s,gi,z1,z2,z3,z4,z5,cr _ mm⟩
 .cases st il;have F1:Fr (λl=>l≠20+k) H d lw lw:=zdt R R4 G k4;have w:=F1.kp _ _ (by rw[A.la.l1];lia) T;refine⟨_,Y,_,Y,B.rl,us,k,k,Y,Y,w,Z0 (),⟨(),()⟩,?_⟩;have eu:us.set k (.ref x)=us:=eX λi=>by
   by_cases c:k=i
   .rw[<-c,da (),N]
   .rw[dF c]
  rw[eu];have s5:aJ d (upd d B.rl (.lst us)):=λb o e=>by
   by_cases c:b=B.rl
   .rw[c] at e ⊢;rw[w] at e;cases e;exact zh
   .rw[zi c];exact e
  have F:Fr (λl=>l≠20+k) H (upd d B.rl (.lst us)) lw lw:=F1.trans (Fr.same s5);have R5:=R4.same s5;generalize upd d B.rl (.lst us)=H5 at *
  refine q H5 lw (F.mono λl z=>by unfold N0 at z;lia) ⟨⟨⟨us,F.kp _ _ (by rw[A.la.l1];lia) T,ul,λi v ag=>?_⟩,⟨ks,F.kp _ _ (by rw[A.la.l2];lia) J,kn,λe m=>?_⟩,⟨kv,rs,F.kp _ _ (by rw[A.la.l3];lia) hd,Bo.fr F ()⟩,A.la.l1,A.la.l2,A.la.l3,λb z=>let ⟨o,y⟩:=A.la.ow b z;F.al b o y⟩,⟨ps,F.kp _ _ (by rw[A.l6];lia) hp,pl,λm v a b=>(P.at_ m v a b).fr F ()⟩,⟨ws,F.kp _ _ (by rw[A.l7];lia) hw,pw⟩,F.kp _ _ (by rw[A.l8];lia) A.oo,A.l6,A.l7,A.l8⟩
  .by_cases c:i=k
   .subst c;cases bI (ag.symm.trans N);exact .inr ⟨x,ra,r,j+1,_,C',Y,zhu hm,hC,R5,G⟩
   .exact((a3 i v ag).fr F ()).mv λb=>zgb ()
  .obtain⟨e',m',rfl⟩:=bB.mp m;by_cases c:e'.1=k
   .rw[ap c];exact ek
   .rw[am c];exact kk _ m'
theorem JB{O:List V}{_E:XK}(F:KF K)(h:xB t O H Q _E) :
  Yo K t (sS Q) (L2.start ["row","hand","codes","table","first","kind","runs","ranks","laid","papers","waiting","counts","due"] O) H:=by
 obtain⟨v,h,f,n,al,tl,B,lw,cvs,xs,g,CC,S,S2,e,rfl,M,ha,la,pc,ht,tb,lt,A,d,h0,hn,n8,E,q⟩:=h;obtain⟨k,rfl⟩:=eU h0;obtain⟨us,hr,ul,a3⟩:=id A.la.rr;obtain⟨w,I⟩:∃w,us[k]?=U w:=⟨_,bb ()⟩;obtain⟨a,qa,rfl,ev,_⟩:=id M;refine jg Y (.tup ev) (vq _) (zV Y ⟨_,Y,.ref a,_,Y,.inr ⟨_,sW.of ev,Y⟩,_,_,Y,Y,_,Y,zV (Bk (by simp only[bU];lia)) ?_⟩);refine⟨_,Y,_,Y,B.rl,us,k,w,Y,Y,aQ.of hr,yn I,Y,_,Y,?_⟩;rcases a3 k w I with ⟨rfl,no⟩|⟨x,ra,r,j,s,C,rfl,hm,hC,R,l20⟩
 .refine zV Y ?_;obtain⟨kv,rs,hd,Bo⟩:=A.la.dd;obtain⟨ps,hp,P⟩:=A.pp;obtain⟨ws,G,z⟩:=A.ww;have ln:=d.len;have l5:=d.cc.le;have aa:=z.length_eq;refine⟨_,Y,_,Y,_,Y,_,Y,_,Y,B.ol,_,0,.int S.en,Y,Y,aQ.of A.oo,Y,_,Y,_,Y,B.wl,ws,Y,aQ.of G,(),z.nodup_iff.mpr d.nd.1,λl p hl pm so=>?_⟩;obtain rfl:p=S.ws:=List.Perm.eq_of_pairwise (λa b _ _ x y=>by have x:a<b:=x;have y:b<a:=y;lia) so d.so (pm.trans z);have c:aJ H (upd H l (.lst (S.ws.map V.int))):=λb o e=>by rw[zi (zw e hl)];exact e
  have e2:upd H l (.lst (S.ws.map V.int)) l=U (.lst (S.ws.map V.int)):=zh;generalize upd H l (.lst (S.ws.map V.int))=H2 at *
  refine⟨_,Y,_,Y,B.ol,_,1,.int S.wc,Y,Y,aQ.of (c _ _ A.oo),Y,k,f,n,tl,B.ll,B.pl,l,g,kv,rs,lw,ps,CC,S,S2,e,Y,ht.same c,tb,c _ _ hd,Bo.same c,c _ _ hp,⟨P.le,λi v x y=>(P.at_ i v x y).fr (show Fr (λ_=>True) H H2 lw lw from Fr.same c) trivial⟩,e2,d,no,E,λu H3 s3 J=>?_⟩;have m:=c.trans s3;obtain⟨dv,qd,rfl,eu,pu⟩:=id J;refine⟨_,Y,_,Y,_,_,Y,ziU (M.ts (uc.of m)) J,λH4 T=>⟨_,Y,zV Y ?_⟩⟩;have N:=m.trans T;have F4:Fr N0 H H4 lw lw:=Fr.same N;exact zcD F (J.ts (uc.of T)) (N _ _ ha) la (CoZ.fr pc F4) (A.same N) d hn n8 no E λH' lw' F5 A5=>q H' lw' (F4.trans F5) A5
 .exact ym Y (zcE M A d hn n8 E hr ul a3 I hm hC R l20 q)
end
structure LA where
 s:D
 tl:D
 cl:D
 d:D
 B:LX
def σW(A:LA)(n f:Int)(k c:Nat)(g e d b a:Option V):St:=[U (.ref A.d),U (.int n),U (.ref A.cl),U (.ref A.tl),U (.int f),U (.int k),U (.int c),U (.ref A.s),U (.ref A.B.pl),U (.ref A.B.rl),U (.ref A.B.kl),U (.ref A.B.ll),U (.ref A.B.wl),U (.ref A.B.ol),g,e,d,b,a]
def Tr(n f:Int)(g:List aN)(c:List (List Cs))(S:DS)(b:List He)(d:DS):Prop:=∃a:Nat->DS,a 0=S/\a b.length=d/\∀(i:Nat) (x:He),b[i]?=U x->x.1=(i:Int)%n/\(a i).en<c.length/\Mv f g c (a i) x.1 x.2 (a (i+1))
structure tU(t:aZ)(H0:Hp)(Bn:List (D×HO))(A:LA)(a:tW)(n f:Int)(kd:Nat)(g:List aN)(CC:List (List Cs))(ad:Nat)(H:Hp)(lb lw:D->Nat)(S T:DS):Prop where
 sm:aJ H0 H
 z0:∀b o,H0 b=U o->lb b=0/\lw b=0
 kz:∀y∈Bn,H y.1=U y.2/\lb y.1=0/\lw y.1=0
 zl:∀b,lw b≠0->lb b=0
 dk:tM t H A.d a lb n f g (CC.take ad) S
 ok:hV n f g (CC.take ad) S
 lA:LwX t H lw A.B n f (CC.take ad) T
 oT:hV n f g (CC.take ad) T
 kw:T.wk=kd
 al:ad<=CC.length
section
variable {H0 H':Hp}{lb lb' lw lw':D->Nat}{Bn:List (D×HO)}{A:LA}{a:tW}{CC CC2:List (List Cs)}{C:List Cs}{n f h:Int}{kd c0:Nat}{g:List aN}{S S' T T' S1 S2:DS}{v:V}{us xs:List V}{es:List He}{e:Ev}{ad:Nat}{E:XK}{ns:List Int}{hl:List (Int×Int×Nat×aY)}{ls:List (Int×List aN)}{rl kl ll b:D}{o:HO}{Bp:qT}{o14 o15 o16 o17 o18:Option V}
section
variable {N:Int}
theorem hV.add(c:hV N f g CC S)(r:zbi C/\C.length<=11)(B:CC.length<5):hV N f g (CC++[C]) (zd5 f CC.length S):=by
 have l:(CC++[C]).length=CC.length+1:=bC ..;have el:=c.el;refine⟨c.f0,⟨λi h=>?_,()⟩,by show S.en<=_;lia,?_,?_,c.hn,c.hr,λe q=>?_,c.nt,λy d=>?_,c.gw,c.lw⟩
 .rcases bu.mp h with h|h
  .exact c.cc.ok i h
  .rw[bo.mp h];exact r
 .show ((S.ws++[f+(CC.length:Int)])++_).Perm (vS f S.en _);rw[l];have z:vS f S.en (CC.length+1)=vS f S.en CC.length++[f+(CC.length:Int)]:=by
   unfold vS;rw[show CC.length+1-S.en=CC.length-S.en+1 by lia,List.range_succ,bR];refine congrArg _ ?_;show [f+(S.en:Int)+((CC.length-S.en:Nat):Int)]=_;rw[show f+(S.en:Int)+((CC.length-S.en:Nat):Int)=f+CC.length by lia]
  rw[z,cO];refine dJ ?_ (c.pm.append_right _);rw[cO];exact .append_left _ oH
 .refine gL.mpr ⟨c.so,by simp,λx m y d=>?_⟩;obtain⟨j,rfl,_,u⟩:=c.rw_ m;rw[bo.mp d];lia
 .obtain⟨i,k,s⟩:=c.rn e q;exact⟨i,by rw[cF (bn.mp k).1];exact k,s⟩
 .have:=c.ly y d;lia
end
theorem uh.same(h:uh H v C)(k:aJ H H'):uh H' v C:=let ⟨c,ys,e,hc,pc⟩:=h;⟨c,ys,e,k _ _ hc,wa k pc⟩
theorem Tr.nil:Tr n f g CC S [] S:=⟨λ_=>S,Y,Y,λi x z=>nomatch z⟩
theorem Tr.snoc(J:Tr n f g CC S es S1)(m:S1.en<CC.length)(p:h=(es.length:Int)%n)(l:Mv f g CC S1 h e S2):Tr n f g CC S (es++[(h,e)]) S2:=by
 obtain⟨j,r,q,k⟩:=J;refine⟨λi=>if i<=es.length then j i else S2,(ap (bS _)).trans r,am (by rw[bC];exact oV _),λi x d=>?_⟩;dsimp only;rcases gB i es.length with c|c
 .rw[cF c] at d;rw[ap (nX c),ap (Nat.succ_le_of_lt c)];exact k i x d
 .rw[dE c] at d;obtain rfl:i=es.length:=by
   have:=(bn.mp d).1;rw[cU] at this;lia
  rw[Nat.sub_self] at d;cases d;rw[ap (bp _),am (oV _),q];exact⟨p,m,l⟩
theorem zjo(c:Mv f g CC S h e S2):S2.wk=S.wk:=by cases c <;> rfl
theorem zjp(c:Mv f g CC S h e S2)(d:S.en<S2.en):evW e="settle":=by
 cases c with
 |settle=>rfl
 |_=>exact absurd d (fq _)
theorem Tr.last(J:Tr n f g CC S es S1)(m:S1.en=CC.length)(j:es[i]?=U x)(l:i+1=es.length):evW x.2="settle":=by
 obtain⟨q,r,p,k⟩:=J;obtain⟨_,d,c⟩:=k i x j;exact zjp c (by rw[l,p,m];exact d)
theorem tU.ln(I:tU t H0 Bn A a n f kd g CC ad H lb lw S T):(CC.take ad).length=ad:=by rw[cB];exact dI I.al
theorem tU.fr(I:tU t H0 Bn A a n f kd g CC ad H lb lw S T)(F:Fr M0 H H' lb lb'):Fr (λl=>l≠0) H H' lw lw:=⟨λ_ _ _=>rfl,λb o z e=>F.kp b o (.inl (I.zl b z)) e,F.ts,F.al⟩
theorem LwX.fr{M:Nat->Prop}(A:LwX t H lw B n f CC S)(F:Fr M H H' lw lw')(m:∀l,l≠0->M l)(p:∀b,lw' b≠0->lw b≠0\/∃o,H' b=U o):LwX t H' lw' B n f CC S:=by
 obtain⟨ps,d,P⟩:=A.pp;obtain⟨ws,c,j⟩:=A.ww;exact⟨A.la.fr F (m _ ()) (m _ ()) (m _ ()) (m _ ()) (λk=>m _ ()) p,⟨ps,F.kp _ _ (by rw[A.l6];exact m _ ()) d,P.le,λi v a b=>(P.at_ i v a b).fr F (m _ ())⟩,⟨ws,F.kp _ _ (by rw[A.l7];exact m _ ()) c,j⟩,F.kp _ _ (by rw[A.l8];exact m _ ()) A.oo,(F.ex _ _ d).trans A.l6,(F.ex _ _ c).trans A.l7,(F.ex _ _ A.oo).trans A.l8⟩
theorem tU.desk(I:tU t H0 Bn A a n f kd g CC ad H lb lw S T)(F:Fr M0 H H' lb lb')(G:tM t H' A.d a lb' n f g (CC.take ad) S')(ok:hV n f g (CC.take ad) S'):tU t H0 Bn A a n f kd g CC ad H' lb' lw S' T:=by
 have k:∀b o,lb b=0->H b=U o->H' b=U o/\lb' b=0:=λb o z e=>⟨F.kp b o (.inl z) e,(F.ex b o e).trans z⟩;exact⟨λb o e=>(k b o (I.z0 b o e).1 (I.sm b o e)).1,λb o e=>⟨(k b o (I.z0 b o e).1 (I.sm b o e)).2,(I.z0 b o e).2⟩,λy i=>let ⟨a,b,c⟩:=I.kz y i;let ⟨p,q⟩:=k _ _ b a;⟨p,q,c⟩,λb z=>let ⟨o,e⟩:=I.lA.la.ow b z;(k b o (I.zl b z) e).2,G,ok,I.lA.fr (I.fr F) (λ_ z=>z) λ_ z=>.inl z,I.oT,I.kw,I.al⟩
theorem tU.same(I:tU t H0 Bn A a n f kd g CC ad H lb lw S T)(s:aJ H H'):tU t H0 Bn A a n f kd g CC ad H' lb lw S T:=I.desk (Fr.same s) (I.dk.same s) I.ok
theorem tU.law(I:tU t H0 Bn A a n f kd g CC ad H lb lw S T)(F:Fr N0 H H' lw lw')(l:LwX t H' lw' A.B n f (CC.take ad) T')(oT:hV n f g (CC.take ad) T')(kw:T'.wk=T.wk):tU t H0 Bn A a n f kd g CC ad H' lb lw' S T':=by
 have k:∀b o,lw b=0->H b=U o->H' b=U o/\lw' b=0:=λb o z e=>⟨F.kp b o z e,(F.ex b o e).trans z⟩;have i:∀b,lb b≠0->lw b=0:=λb z=>eJ λy=>z (I.zl b y);refine⟨λb o e=>(k b o (I.z0 b o e).2 (I.sm b o e)).1,λb o e=>⟨(I.z0 b o e).1,(k b o (I.z0 b o e).2 (I.sm b o e)).2⟩,λy j=>let ⟨a,b,c⟩:=I.kz y j;let ⟨p,q⟩:=k _ _ c a;⟨p,b,q⟩,λb z=>?_,I.dk.of (λb o z e=>(k b o (i b z) e).1) F.ts F.al,I.ok,l,oT,kw.trans I.kw,I.al⟩;cases e:H b with
 |none=>exact I.dk.l0 e
 |some o=>exact I.zl b (by rw[<-F.ex b o e];exact z)
theorem LawAt.cc(d:LawAt t H lw rl kl ll n f CC hl ls)(k:∀(i:Nat) (C:List Cs),CC[i]?=U C->CC2[i]?=U C):LawAt t H lw rl kl ll n f CC2 hl ls:=by
 obtain⟨us,q,p,l⟩:=d.rr;refine { d with rr:=⟨us,q,p,λi v e=>?_⟩ };rcases l i v e with z|⟨x,ra,r,j,s,C,e,m,c,R⟩
 .exact .inl z
 .exact .inr ⟨x,ra,r,j,s,C,e,m,k _ _ c,R⟩
theorem tU.told(I:tU t H0 Bn A a n f kd g CC ad H lb lw S T)(c:LwC K H0 A.s A.tl A.cl ns g us CC n f)(m:tG H v (h,e))(k:0<=h)(j:h<n)(i:Mv f g (CC.take ad) T h e T')(q:∀H' lw',uc H H'->tU t H0 Bn A a n f kd g CC ad H' lb lw' S T'->Q (.bl ah) H'):xB t [v,.int h,.ref A.cl,.ref A.tl,.int f,.int kd,.ref A.B.rl,.ref A.B.kl,.ref A.B.ll,.ref A.B.pl,.ref A.B.wl,.ref A.B.ol] H Q E:=by
 obtain⟨xs,l,_⟩:=id c.ht;exact⟨v,h,f,n,A.cl,A.tl,A.B,lw,us.take ad,us.drop ad,g,CC.take ad,T,T',e,by rw[I.kw],m,by rw[cV];exact I.sm _ _ c.hx,(I.z0 _ _ c.hx).2,Paired.mapP (Paired.takeP ad c.px) λ_ _ z=>⟨z.same I.sm,λs p=>let ⟨_,_,e,hc,_⟩:=z;by cases e.symm.trans p;exact(I.z0 _ _ hc).2⟩,c.ht.same I.sm,c.tb,(I.z0 _ _ l).2,I.lA,I.oT,k,j,c.n8,i,λH' lw' F r=>q H' lw' F.ts (I.law F r (Mv.ok I.oT i k j) (zjo i))⟩
theorem tU.keep(I:tU t H0 Bn A a n f kd g CC ad H lb lw S T)(j:H b=U o)(i:lb b=0)(c:lw b=0):tU t H0 ((b,o)::Bn) A a n f kd g CC ad H lb lw S T:=by
 refine { I with kz:=λy hy=>?_ };rcases bE.mp hy with rfl|hy
 .exact⟨j,i,c⟩
 .exact I.kz y hy
theorem tU.out(I:tU t H0 Bn A a n f kd g CC ad H lb lw S T)(h:H b=ak):lb b=0/\lw b=0:=by
 refine⟨I.dk.l0 h,eJ λz=>?_⟩;obtain⟨o,e⟩:=I.lA.la.ow b z;rw[h] at e;cases e
theorem tU.add(I:tU t H0 Bn A a n f kd g CC ad H lb lw S S)(c:LwC K H0 A.s A.tl A.cl ns g us CC n f)(hv:us[ad]?=U v):∃(m:List Int) (r:List V) (C:List Cs),H A.B.wl=U (.lst (m.map V.int))/\(m.map V.int).length<=10/\H A.B.pl=U (.lst r)/\r.length=ad/\ad<=10/\aJ H0 (upd H A.B.wl (.lst (m.map V.int++[.int (f+(ad:Int))])))/\upd H A.B.wl (.lst (m.map V.int++[.int (f+(ad:Int))])) A.B.pl=U (.lst r)/\uh (upd H A.B.wl (.lst (m.map V.int++[.int (f+(ad:Int))]))) v C/\tM t (upd H A.B.wl (.lst (m.map V.int++[.int (f+(ad:Int))]))) A.d a lb n f g (CC.take ad) S/\(CC.take ad).length<=10/\S.ws.length<=10/\∀H' lb',Fr M0 (upd H A.B.wl (.lst (m.map V.int++[.int (f+(ad:Int))]))) H' lb lb'->tM t H' A.d a lb' n f g (CC.take ad++[C]) (zd5 f (CC.take ad).length S)->H' A.B.pl=U (.lst r)/\tU t H0 Bn A a n f kd g CC (ad+1) (upd H' A.B.pl (.lst (r++[.non]))) lb' lw (zd5 f ad S) (zd5 f ad S):=by
 obtain⟨C,hC,co⟩:=Paired.getP c.px hv;obtain⟨r,hp,P⟩:=I.lA.pp;obtain⟨m,hw,pw⟩:=I.lA.ww;have ln:=I.ln;have lt:=(bn.mp hC).1;have l5:=c.cc.le;have ar:=I.ok.len;have an:=pw.length_eq;have pl:=P.le;have N:A.B.pl≠A.B.wl:=λz=>by have:=I.lA.l6;rw[z,I.lA.l7] at this;cases this
 have ai:H0 A.B.wl=ak:=by
  cases e:H0 A.B.wl with
  |none=>rfl
  |some o=>have:=(I.z0 _ _ e).2;rw[I.lA.l7] at this;cases this
 have aj:H0 A.B.pl=ak:=by
  cases e:H0 A.B.pl with
  |none=>rfl
  |some o=>have:=(I.z0 _ _ e).2;rw[I.lA.l6] at this;cases this
 have aa:=I.zl A.B.wl (by rw[I.lA.l7];decide);have ag:=I.zl A.B.pl (by rw[I.lA.l6];decide);have sm:aJ H0 (upd H A.B.wl (.lst (m.map V.int++[.int (f+(ad:Int))]))):=xk I.sm ai;have J:Fr (λl=>l≠7) H (upd H A.B.wl (.lst (m.map V.int++[.int (f+(ad:Int))]))) lw lw:=qA hw I.lA.l7 λ_ z=>nomatch z
 have dk:=I.dk.put (ys:=m.map V.int++[.int (f+(ad:Int))]) hw aa;have e1:upd H A.B.wl (.lst (m.map V.int++[.int (f+(ad:Int))])) A.B.wl=U (.lst ((m++[f+(ad:Int)]).map V.int)):=by rw[bR];exact zh
 have u:upd H A.B.wl (.lst (m.map V.int++[.int (f+(ad:Int))])) A.B.pl=U (.lst r):=J.kp _ _ (by rw[I.lA.l6];decide) hp;have kz:∀y∈Bn,upd H A.B.wl (.lst (m.map V.int++[.int (f+(ad:Int))])) y.1=U y.2:=λy w=>let ⟨a,b,c⟩:=I.kz y w;J.kp _ _ (by rw[c];decide) a
 refine⟨m,r,C,hw,by rw[bg];lia,hp,(),(),?_⟩;generalize upd H A.B.wl (.lst (m.map V.int++[.int (f+(ad:Int))]))=H1 at *
 refine⟨sm,u,co.same sm,dk,(),(),λH' lb' F G=>?_⟩;have k:∀b o,lb b=0->H1 b=U o->H' b=U o/\lb' b=0:=λb o z e=>⟨F.kp b o (.inl z) e,(F.ex b o e).trans z⟩;have F2:Fr (λl=>l≠0) H1 H' lw lw:=⟨λ_ _ _=>rfl,λb o z e=>F.kp b o (.inl (I.zl b z)) e,F.ts,F.al⟩;have s:=F2.kp _ _ (by rw[I.lA.l6];decide) u;have e2:=F2.kp _ _ (by rw[I.lA.l7];decide) e1;refine⟨s,?_⟩;have F3:Fr (λl=>l≠6) H' (upd H' A.B.pl (.lst (r++[.non]))) lw lw:=qA s I.lA.l6 λ_ z=>nomatch z
 have G3:=G.put (ys:=r++[.non]) s (k _ _ ag u).2;have e3:upd H' A.B.pl (.lst (r++[.non])) A.B.pl=U (.lst (r++[.non])):=zh;have M:∀b o,b≠A.B.pl->H' b=U o->upd H' A.B.pl (.lst (r++[.non])) b=U o:=λb o z e=>by rw[zi z];exact e
 generalize upd H' A.B.pl (.lst (r++[.non]))=H3 at *
 have F4:Fr (λl=>l≠0/\l≠6/\l≠7) H H3 lw lw:=(J.mono λl z=>z.2.2).trans ((F2.mono λl z=>z.1).trans (F3.mono λl z=>z.2.1));have e:CC.take ad++[C]=CC.take (ad+1):=by rw[cH,hC];rfl
 have ok:=I.ok.add (c.cc.ok C (bN hC)) ();have np:∀b o,H0 b=U o->b≠A.B.pl:=λb o z=>zw z aj;have O:∀b,lw b=0->b≠A.B.pl:=λb z y=>by rw[y,I.lA.l6] at z;cases z
 rw[ln] at G3 ok;rw[e] at G3 ok;have cc:∀(i:Nat) (C':List Cs),(CC.take ad)[i]?=U C'->(CC.take (ad+1))[i]?=U C':=λi C' z=>by
  rw[<-e,cF (bn.mp z).1];exact z
 refine⟨λb o e=>M b o (np b o e) (k b o (I.z0 b o e).1 (sm b o e)).1,λb o e=>⟨(k b o (I.z0 b o e).1 (sm b o e)).2,(I.z0 b o e).2⟩,λy w=>let ⟨a,b,c⟩:=I.kz y w;let ⟨p,q⟩:=k _ _ b (kz y w);⟨M _ _ (O _ c) p,q,c⟩,λb z=>let ⟨o,e⟩:=I.lA.la.ow b z;let ⟨o',e'⟩:=J.al b o e;(k b o' (I.zl b z) e').2,G3,ok,⟨(I.lA.la.fr F4 () () () () (λk=>by lia) λ_ z=>.inl z).cc cc,⟨r++[.non],e3,?_,λi v x y=>?_⟩,⟨m++[f+(ad:Int)],M _ _ N.symm e2,pw.append_right _⟩,F4.kp _ _ (by rw[I.lA.l8];decide) I.lA.oo,I.lA.l6,I.lA.l7,I.lA.l8⟩,ok,I.kw,lt⟩
 .rw[bC,pl,cB,cB,cU];lia
 .rcases gB i r.length with q|q
  .rw[cF q] at y;exact(P.at_ i v x y).fr F4 ()
  .have il:=(bn.mp y).1;rw[bC,cU] at il;rw[dE q,show i-r.length=0 by lia] at y;cases y;refine .inl ⟨Y,λz=>?_⟩;obtain⟨j,e1,_,jl⟩:=I.ok.rl z;lia
end
section
variable {H0 H':Hp}{lb lb' lw lw':D->Nat}{Bn:List (D×HO)}{A:LA}{a:tW}{CC:List (List Cs)}{n f h:Int}{kd c0:Nat}{g:List aN}{S S2:DS}{v:V}{us xs:List V}{es:List He}{ad:Nat}{ns:List Int}{l b:D}{o:HO}{Bp:qT}{o14 o15 o16 o17 o18:Option V}
theorem tU.new(I:tU t H0 Bn A a n f kd g CC ad H lb lw S S2)(h:H b=ak):tU t H0 ((b,o)::Bn) A a n f kd g CC ad (upd H b o) lb lw S S2:=let ⟨x,y⟩:=I.out h;(I.same (sX b h)).keep zh x y
theorem zcF{j:Nat->DS}(I:tU t H0 Bn A a n f kd g CC CC.length H lb lw S2 (j 0))(c:LwC K H0 A.s A.tl A.cl ns g us CC n f)(y:(l,HO.lst xs)∈Bn)(w:Paired (tG H) xs es)(C:∀(i:Nat) (x:He),es[i]?=U x->x.1=(i:Int)%n/\(j i).en<(CC.take CC.length).length/\Mv f g (CC.take CC.length) (j i) x.1 x.2 (j (i+1)))(G:j es.length=S2)(q:∀H',aJ H0 H'->tM t H' A.d a lb n f g CC S2->S2.wk=kd->Q (.int (S2.wc:Nat)) H') :
  vz K t (sS Q) (σW A n f kd c0 o14 (U (.int 0)) o16 o17 (U (.ref l))) H:=by
 have n1:=c.n1;refine⟨_,Y,l,Y,⟨_,aQ.of (I.kz _ y).1⟩,yM xs (λi m k=>(∃o16,m=σW A n f kd c0 o14 (U (.int ((i:Int)%n))) o16 o17 (U (.ref l)))/\uc H k/\∃d,tU t H0 Bn A a n f kd g CC CC.length k lb d S2 (j i)) ⟨⟨_,by rw[show ((0:Nat):Int)%n=0 from Int.zero_emod n]⟩,uc.of (aJ.refl _),lw,I⟩ (λi m k ⟨_,_,_,J⟩=>aQ.of (J.kz _ y).1) ?_ ?_⟩
 .rintro i v m k N ⟨⟨o16,rfl⟩,r,d,J⟩;obtain⟨⟨h,e⟩,O,T⟩:=Paired.getP w N;obtain⟨u,_,M⟩:=C i _ O;have u:h=(i:Int)%n:=u;subst u;refine⟨_,Y,_,Y,_,Y,_,Y,_,Y,_,Y,_,Y,_,Y,_,Y,_,Y,_,Y,_,Y,?_⟩;dsimp only[zj];refine J.told (E:=E0) c (T.ts r) (cA _ ()) (ck _ ()) M λH4 s p J4=>?_;refine⟨_,Y,zV Y ⟨_,Y,_,_,Y,Y,_,Y,_,_,Y,Y,by show (0:Int)<n;lia,⟨U v,?_⟩,λb zs z=>p _ _ (r _ _ z),s,J4⟩⟩;rw[show ((i+1:Nat):Int)%n=((i:Int)%n+1)%n by rw[Int.emod_add_emod];rfl];rfl
 .rintro m k ⟨⟨o16,rfl⟩,r,d,J⟩;rw[bL w,G] at J;have B:=J.dk;rw[cx] at B;exact⟨_,Y,A.B.ol,_,1,.int S2.wc,Y,Y,aQ.of J.lA.oo,Y,q _ J.sm B J.kw⟩
theorem zee(I:tU t H0 Bn A a n f kd g CC CC.length H lb lw S S)(c:LwC K H0 A.s A.tl A.cl ns g us CC n f)(q:∀H' lb' S,aJ H0 H'->tM t H' A.d a lb' n f g CC S->S.en=CC.length->S.wk=kd->Q (.int (S.wc:Nat)) H') :
  ZF K t (sS Q) (σW A n f kd c0 o14 o15 o16 o17 o18) H:=by
 obtain⟨e1,_⟩:=I.dk.cmp;refine⟨_,Y,A.d,_,_,Y,e1,Y,A.d,a,lb,n,f,g,CC.take CC.length,S,Tr n f g (CC.take CC.length) S,Y,I.dk,I.ok,c.n1,c.n8,Tr.nil,(λes S h e S' J _ lt hh mv=>J.snoc lt hh mv),λl xs es O aa S2 F2 l2 u d m T J r E G=>?_⟩;obtain⟨_,lz⟩:=I.out u;have N:=(I.desk F2 G r).keep d l2 lz;obtain⟨tr,t0,t1,tk⟩:=id J;rw[<-t0] at N;have fin:∀H3,aJ O H3->vz K t (sS Q) (σW A n f kd c0 o14 (U (.int 0)) o16 o17 (U (.ref l))) H3:=λH3 j=>zcF (N.same j) c bt (Paired.mapP m λ_ _ z=>z.ts (uc.of j)) tk t1 λH' sm dk wk=>q H' _ S2 sm dk (by rw[E,cx]) wk;rcases List.eq_nil_or_concat xs with rfl|⟨ys,v,ex⟩
 .refine⟨_,Y,(),λb i=>⟨l,b,[],Y,Y,aQ.of (sX b i _ _ d),aQ.of zh,_,Y,zV Y (zV Y (fin _ (sX b i)))⟩⟩
 .rw[List.concat_eq_append] at ex;subst ex;refine⟨_,Y,(),λb i=>⟨l,b,_,Y,Y,aQ.of (sX b i _ _ d),aQ.of zh,_,Y,ym (by simp) ?_⟩⟩;have j:=sX (o:=HO.lst []) b i;generalize upd O b (.lst [])=H3 at *
  have lx:=bL m;rw[bC,cU] at lx;obtain⟨x,hx,⟨y,k,rfl,C,_⟩⟩:=Paired.getP m (show (ys++[v])[ys.length]?=U v by rw[dE (bp _),Nat.sub_self];rfl);have w:=J.last E hx ();rw[w] at C;have M:HT.sIx ((V.str "settle" :: V.int x.1::evX k x.2).length) ((V.str "settle" :: V.int x.1::evX k x.2).length) (U (1:Int))=min 1 ((V.str "settle" :: V.int x.1::evX k x.2).length):=HT.sIx_nat ..;have ec:vY (V.str "settle" :: V.int x.1::evX k x.2) ak (U (1:Int))=[V.str "settle"]:=by
   unfold vY;rw[M,dI (show 1<=(V.str "settle" :: V.int x.1::evX k x.2).length from eP (bS _))];rfl
  refine⟨_,Y,1,Y,l,_,-1,.ref y,Y,Y,aQ.of (j _ _ d),L2.atI_last _ _,1,Y,y,_,Y,sW.of (j _ _ C),⟨λz=>?_,λp hp=>?_⟩⟩
  .have z:=z.2;rw[M,dI (show 1<=(V.str "settle" :: V.int x.1::evX k x.2).length from eP (bS _))] at z;cases z
  rw[ec];refine⟨(),λp2 s=>?_⟩;have s4:=sX (o:=HO.tup [V.str "settle"]) p hp;have e4:upd H3 p (.tup [V.str "settle"]) p=U (.tup [V.str "settle"]):=zh;generalize upd H3 p (.tup [V.str "settle"])=H4 at *
  have B:=sX (o:=HO.tup [V.str "settle"]) p2 s;refine⟨.tuple [.str "settle"],.tuple [.str "settle"],.tup (sW.of (B _ _ e4)) (.cons (.str _) .nil),.tup (sW.of zh) (.cons (.str _) .nil),⟨(),(),(),()⟩,λb i=>⟨_,Y,zV (by rw[i.mpr rfl];rfl) (fin _ (j.trans (s4.trans B)))⟩⟩
end
section
variable {H0 H':Hp}{lb lb' lw lw':D->Nat}{Bn:List (D×HO)}{A:LA}{a:tW}{CC:List (List Cs)}{n f h:Int}{kd c0:Nat}{g:List aN}{S S2:DS}{v:V}{us xs:List V}{es:List He}{ad:Nat}{ns:List Int}{l b d cl tl s:D}{o:HO}{Bp:qT}{o14 o15 o16 o17 o18:Option V}
theorem zef(I:tU t H0 [] A a n f kd g CC ad H lb lw S S)(c:LwC K H0 A.s A.tl A.cl ns g us CC n f)(q:∀H' lb' S,aJ H0 H'->tM t H' A.d a lb' n f g CC S->S.en=CC.length->S.wk=kd->Q (.int (S.wc:Nat)) H') :
  ZG K t (sS Q) (σW A n f kd c0 o14 o15 o16 o17 o18) H:=by
 have lv:=bL c.px;have al:=I.al;obtain⟨x,w,P⟩:=I.lA.pp;have u:x.length=ad:=by rw[P.le,I.ln]
 refine⟨_,Y,_,Y,.ref A.B.pl,ad,Y,.inl ⟨_,aQ.of w,u.symm⟩,ad,Y,A.cl,us,Y,aQ.of (I.sm _ _ c.hx),λm M=>?_⟩;have N:vY us (U (ad:Int)) ak=us.drop ad:=by
  have T:HT.sIx us.length 0 (U (ad:Int))=min ad us.length:=HT.sIx_nat ..;have O:HT.sIx us.length us.length ak=us.length:=rfl;unfold vY;rw[T,O,dI (),cL (by rw[cI];exact bp _)]
 rw[N];have E:=I.new (o:=.lst (us.drop ad)) M;generalize upd H m (.lst (us.drop ad))=p at *
 refine⟨m,Y,⟨_,aQ.of (E.kz _ bt).1⟩,yM (us.drop ad) (λi r p=>(∃o17,r=σW A n f kd c0 o14 o15 o16 o17 o18)/\∃e S2,tU t H0 [(m,.lst (us.drop ad))] A a n f kd g CC (ad+i) p e lw S2 S2) ⟨⟨_,Y⟩,lb,S,E⟩ (λi r p ⟨_,_,_,J⟩=>aQ.of (J.kz _ bt).1) ?_ ?_⟩
 .rintro i v r p z ⟨⟨o17,rfl⟩,e,S2,J⟩;rw[mq] at z;obtain⟨ws,x,C,y,wl,w,u,aa,sm,G,co,B,m,b2,b3⟩:=J.add c z;obtain⟨e1,_⟩:=B.cmp;refine⟨_,Y,.inl ⟨Y,_,aQ.of y⟩,_,Y,_,Y,.ref A.B.pl,ad+i,Y,.inl ⟨_,aQ.of w,u.symm⟩,_,_,Y,Y,A.B.wl,_,_,Y,Y,y,bT wl (by rw[bH];decide),_,Y,A.d,_,_,Y,e1,Y,_,Y,A.d,v,a,e,n,f,g,_,C,S2,Y,co,B,m,b2,λH3 j F3 G3=>?_⟩;obtain⟨k,J3⟩:=b3 H3 j F3 G3;exact⟨_,Y,.inl ⟨Y,_,aQ.of k⟩,A.B.pl,_,.non,Y,Y,k,bT (show _<=10 by lia) (by rw[bH];decide),⟨_,Y⟩,j,_,J3⟩
 .rintro r p ⟨⟨o17,rfl⟩,e,S2,J⟩;rw[show ad+(us.drop ad).length=CC.length by rw[cI];lia] at J;exact zee J c q
theorem zeg{i:Int}(I:tU t H0 Bn A a n f kd g CC ad H lb lw S S)(c:LwC K H0 A.s A.tl A.cl ns g us CC n f)(q:∀H' lb' lw' p o15 o16,tU t H0 Bn A a n f kd g CC ad H' lb' lw' p p->Bp.nx (σW A n f kd c0 (U (.int i)) o15 o16 o17 o18) H') :
  je K t Bp (σW A n f kd c0 (U (.int i)) o15 o16 o17 o18) H:=by
 obtain⟨x,_⟩:=I.dk.cmp;have C:=c.n1;have k:=cA (i/7) (show n≠0 by lia);have j:=ck (i/7) (show 0<n by lia);refine⟨_,Y,_,_,Y,Y,dB,_,Y,_,_,Y,Y,by show (0:Int)<n;lia,_,Y,A.d,_,_,Y,x,Y,_,Y,A.d,a,lb,n,f,i/7%n,g,CC.take ad,S,Y,I.dk,I.ok,k,j,λv M u e S2 B w m G=>?_⟩;have z:=I.desk B G (Mv.ok I.ok m k j);refine⟨_,Y,_,Y,_,Y,_,Y,_,Y,_,Y,_,Y,_,Y,_,Y,_,Y,_,Y,_,Y,?_⟩;dsimp only[zj];refine z.told (E:=E0) c w k j m λJ r _ y=>?_;exact⟨_,Y,zV Y (q _ _ _ _ _ _ y)⟩
theorem zeh(I:tU t H0 [] A a n f kd g CC 0 H lb lw S S)(c:LwC K H0 A.s A.tl A.cl ns g us CC n f)(q:∀H' lb' S,aJ H0 H'->tM t H' A.d a lb' n f g CC S->S.en=CC.length->S.wk=kd->Q (.int (S.wc:Nat)) H') :
  ZH K t (sS Q) (σW A n f kd c0 o14 o15 o16 o17 o18) H:=by
 have lv:=bL c.px;refine⟨_,Y,A.s,Y,⟨_,c.hS.mono I.sm⟩,yM (ns.map V.int) (λi j H2=>(∃o14 o15 o16,j=σW A n f kd c0 o14 o15 o16 o17 o18)/\∃ad lb lw S,tU t H0 [] A a n f kd g CC ad H2 lb lw S S) ⟨⟨_,_,_,Y⟩,0,lb,lw,S,I⟩ (λi j H' ⟨_,_,_,_,_,J⟩=>c.hS.mono J.sm) ?_ ?_⟩
 .rintro i u j H2 G ⟨⟨o14,o15,o16,rfl⟩,ad,lb,lw,S,J⟩;rw[bA] at G;obtain⟨e,_,rfl⟩:=b7.mp G;obtain⟨y,x,P⟩:=J.lA.pp;have m:y.length=ad:=by rw[P.le,J.ln]
  have p:∀ {Bp:qT} {H2 ad lb S},(∀j H',((∃o14 o15 o16,j=σW A n f kd c0 o14 o15 o16 o17 o18)/\∃ad lb lw S,tU t H0 [] A a n f kd g CC ad H' lb lw S S)->Bp.nx j H')->tU t H0 [] A a n f kd g CC ad H2 lb lw S S->je K t Bp (σW A n f kd c0 (U (.int e)) o15 o16 o17 o18) H2:=λq J=>zeg J c λH' lb' lw' S' o15 o16 J'=>q _ _ ⟨⟨_,_,_,Y⟩,_,lb',lw',S',J'⟩;refine⟨_,Y,_,_,Y,Y,by show (0:Int)<7;decide,_,_,Y,Y,_,Y,?_⟩;by_cases c1:e%7<2
  .refine ym (Bj c1) ⟨_,Y,.ref A.B.pl,ad,Y,.inl ⟨_,aQ.of x,m.symm⟩,_,Y,.ref A.cl,us.length,Y,.inl ⟨_,aQ.of (J.sm _ _ c.hx),Y⟩,_,_,Y,Y,_,Y,?_⟩;by_cases c2:(ad:Int)<(us.length:Int)
   .obtain⟨v,E⟩:∃v,us[ad]?=U v:=⟨_,bb ()⟩;obtain⟨ws,y,C,B,wl,x,m,aa,N,w,T,M,b1,b2,b3⟩:=J.add c E;obtain⟨O,_⟩:=M.cmp;refine ym (Bj c2) ⟨_,Y,.inl ⟨Y,_,aQ.of B⟩,_,Y,_,Y,.ref A.B.pl,ad,Y,.inl ⟨_,aQ.of x,m.symm⟩,_,_,Y,Y,A.B.wl,_,_,Y,Y,B,bT wl (by rw[bH];decide),_,Y,A.d,_,_,Y,O,Y,_,Y,_,Y,.ref A.B.pl,ad,Y,.inl ⟨_,aQ.of w,m.symm⟩,A.cl,us,ad,v,Y,Y,aQ.of (N _ _ c.hx),yn E,A.d,v,a,lb,n,f,g,_,C,S,Y,T,M,b1,b2,λH3 r F3 G3=>?_⟩;obtain⟨k,J3⟩:=b3 H3 r F3 G3;exact⟨_,Y,.inl ⟨Y,_,aQ.of k⟩,A.B.pl,_,.non,Y,Y,k,bT (show _<=10 by lia) (by rw[bH];decide),p (λ_ _ z=>z) J3⟩
   .exact zV (Bk c2) (p (λ_ _ z=>z) J)
  .exact zV (Bk c1) (zV Y (p (λ_ _ z=>z) J))
 .rintro j H2 ⟨⟨o14,o15,o16,rfl⟩,ad,lb,lw,S,J⟩;exact zef J c q
theorem zgf{C:TE}{rest:TS}(J:many<=1000)(I:σ[k]?=U (U (.int (many:Nat))))(w:∀(x:Option V) H' R,R vv H'->C (x::JP ix σ) H' R)(q:∀l H',aJ H H'->H l=ak->H' l=U (.lst (fC many vv))->rest Bp (σ.set j (U (.ref l))) H'):zo (zO (qE (Wk (zc (Z k) zj)) (zt 0) QA C 1 ix) (zt j)) rest Bp σ H:=by
 refine⟨_,I,many,Y,(),(),λBp y=>?_⟩;refine⟨λi m u B H'=>m=many-i/\i<=many/\(∃o,B=o::JP ix σ)/\aJ H H'/\H' Bp=U (.lst u)/\u=fC i vv,⟨_,Y,bS _,⟨_,Y⟩,sX Bp y,zh,Y⟩,?_⟩;rintro i m u B G ⟨rfl,M,⟨o,rfl⟩,E,p,rfl⟩;refine⟨p,?_⟩;rcases gB i many with c|c
 .refine .inr ⟨by show i<(many:Int).toNat;lia,by rw[dO,bH];lia,λv r H'=>v=vv/\(∃o,r=o::JP ix σ)/\aJ G H',λv r H' ⟨e,z,s⟩=>⟨s _ _ p,many-(i+1),(),Y,c,z,xk (E.trans s) y,zh,by rw[e,List.replicate_succ']⟩,λ_ _=>False,λ_ _ z=>z.elim,?_⟩;rintro x N ⟨rfl,rfl⟩;exact ym (R:=False) Y (w _ _ _ ⟨Y,⟨_,Y⟩,aJ.refl _⟩)
 .obtain rfl:i=many:=by lia
  exact .inl ⟨by show (i:Int).toNat<=i;lia,q Bp G E y p⟩
end
section
variable {H0:Hp}{lb:D->Nat}{a:tW}{CC:List (List Cs)}{n f:Int}{k c:Nat}{g:List aN}{us:List V}{ns:List Int}{d cl tl s:D}
def lw0(B:LX)(b:D):Nat:=if b=B.rl then 1 else if b=B.kl then 2 else if b=B.ll then 3 else if b=B.pl then 6 else if b=B.wl then 7 else if b=B.ol then 8 else 0
theorem zcG(h:lw0 B b≠0):b=B.rl\/b=B.kl\/b=B.ll\/b=B.pl\/b=B.wl\/b=B.ol:=by
 unfold lw0 at h
 repeat' split at h
 all_goals first|exact absurd Y h|skip
 all_goals simp_all
theorem Kk{vs:List V}{_E:XK}(h:vU K t vs H Q _E) :
  Xv K t (sS Q) (L2.start ["desk","hands","codes","table","first","kind","asked","script","papers","runs","ranks","laid","waiting","counts","cell","hand","row","code","rows"] vs) H:=by
 obtain⟨d,cl,tl,s,a,lb,n,f,k,c,us,CC,g,ns,H0,rfl,N,M,q⟩:=h;have n8:=M.n8;have n1:=M.n1;obtain⟨m,rfl⟩:=eU (show 0<=n by lia);refine⟨(),λpl hp=>?_⟩;have x:=sX (o:=HO.lst []) pl hp;have u:upd H pl (.lst []) pl=U (.lst []):=zh;generalize upd H pl (.lst [])=H1 at *
 refine zgf (vv:=.non) () Y (λ_ _ _ z=>z) λrl H2 p nr B=>?_;refine zgf (vv:=.int f) () Y (λ_ _ _ z=>⟨_,Y,z⟩) λkl H3 j T E=>?_;intro ll G;have l:=sX (o:=HO.dK []) ll G;have I:upd H3 ll (.dK []) ll=U (.dK []):=zh;generalize upd H3 ll (.dK [])=H4 at *
 refine⟨(),λwl C=>?_⟩;have w:=sX (o:=HO.lst []) wl C;have J:upd H4 wl (.lst []) wl=U (.lst []):=zh;generalize upd H4 wl (.lst [])=H5 at *
 refine⟨_,Y,by show 2<=Bb;rw[bH];decide,λr y=>?_⟩;have O:=sX (o:=HO.lst [.int 0,.int c]) r y;have eo:upd H5 r (.lst [.int 0,.int c]) r=U (.lst [.int 0,.int c]):=zh;generalize upd H5 r (.lst [.int 0,.int c])=H6 at *
 have t5:=w.trans O;have t4:=l.trans t5;have t3:=j.trans t4;have t2:=p.trans t3;have fp:=zJ N.sm hp;have fr:=zJ (N.sm.trans x) nr;have fk:=zJ (N.sm.trans (x.trans p)) T;have fl:=zJ (N.sm.trans (x.trans (p.trans j))) G;have fw:=zJ (N.sm.trans (x.trans (p.trans (j.trans l)))) C;have fo:=zJ (N.sm.trans (x.trans (p.trans (j.trans (l.trans w))))) y;have i:=N.dk;have lp:=i.l0 hp;have i:=i.same x;have lr:=i.l0 nr;have i:=i.same p;have lk:=i.l0 T;have i:=i.same j;have l3:=i.l0 G;have i:=i.same l;have ai:=i.l0 C;have i:=i.same w;have lo:=i.l0 y;have i:=i.same O;have rp:rl≠pl:=λz=>zw u nr z.symm;have kp:kl≠pl:=λz=>zw (p _ _ u) T z.symm;have kr:kl≠rl:=λz=>zw B T z.symm;have al:ll≠pl:=λz=>zw (j _ _ (p _ _ u)) G z.symm;have aj:ll≠rl:=λz=>zw (j _ _ B) G z.symm;have an:ll≠kl:=λz=>zw E G z.symm;have wp:wl≠pl:=λz=>zw (l _ _ (j _ _ (p _ _ u))) C z.symm;have wr:wl≠rl:=λz=>zw (l _ _ (j _ _ B)) C z.symm;have wk:wl≠kl:=λz=>zw (l _ _ E) C z.symm;have wq:wl≠ll:=λz=>zw I C z.symm;have op:r≠pl:=λz=>zw (w _ _ (l _ _ (j _ _ (p _ _ u)))) y z.symm;have aa:r≠rl:=λz=>zw (w _ _ (l _ _ (j _ _ B))) y z.symm;have ag:r≠kl:=λz=>zw (w _ _ (l _ _ E)) y z.symm;have oq:r≠ll:=λz=>zw (w _ _ I) y z.symm;have ow:r≠wl:=λz=>zw J y z.symm;have u:=t2 _ _ u;have B:=t3 _ _ B;have E:=t4 _ _ E;have I:=t5 _ _ I;have J:=O _ _ J;have S6:=N.sm.trans (x.trans t2);clear x p j l w O t2 t3 t4 t5;have ok:hV m f g [] (S0 k c):=⟨M.f0,⟨(),bS _⟩,bp _,.refl _,.nil,cz,(),(),(),(),M.gw,()⟩;refine zeh (A:=⟨s,tl,cl,d,⟨rl,kl,ll,pl,wl,r⟩⟩) (H0:=H0) (lw:=lw0 ⟨rl,kl,ll,pl,wl,r⟩) (S:=S0 k c) (lb:=lb) (n:=m) (f:=f) (g:=g) ⟨S6,λb o e=>⟨N.z0 b o e,?_⟩,(),λb z=>?_,i,ok,⟨⟨⟨_,B,?_,λh v e=>.inl ⟨(List.mem_replicate.mp (bN e)).2,λz=>nomatch z⟩⟩,⟨fC m f,?_,?_,λ_ z=>nomatch z⟩,⟨[],[],I,⟨Y,cz,λ_=>sC,(),cz,(),(),()⟩⟩,?_,?_,?_,λb z=>?_⟩,⟨[],u,Y,λ_ _ _ z=>nomatch z⟩,⟨[],J,.refl _⟩,eo,?_,?_,?_⟩,ok,Y,bS _⟩ M q
 .refine eJ λz=>?_;rcases zcG z with rfl|rfl|rfl|rfl|rfl|rfl
  .rw[fr] at e;cases e
  .rw[fk] at e;cases e
  .rw[fl] at e;cases e
  .rw[fp] at e;cases e
  .rw[fw] at e;cases e
  .rw[fo] at e;cases e
 .rcases zcG z with rfl|rfl|rfl|rfl|rfl|rfl
  .exact lr
  .exact lk
  .exact l3
  .exact lp
  .exact ai
  .exact lo
 .rw[dO]
 .rw[List.map_replicate];exact E
 .rw[dO]
 .exact ap rfl
 .exact(am kr).trans (ap Y)
 .exact(am aj).trans ((am an).trans (ap Y))
 .rcases zcG z with rfl|rfl|rfl|rfl|rfl|rfl
  .exact⟨_,B⟩
  .exact⟨_,E⟩
  .exact⟨_,I⟩
  .exact⟨_,u⟩
  .exact⟨_,J⟩
  .exact⟨_,eo⟩
 .exact(am rp.symm).trans ((am kp.symm).trans ((am al.symm).trans (ap Y)))
 .exact(am wr).trans ((am wk).trans ((am wq).trans ((am wp).trans (ap Y))))
 .exact(am aa).trans ((am ag).trans ((am oq).trans ((am op).trans ((am ow).trans (ap Y)))))
end
section
variable {H0 H1 H':Hp}{lb:D->Nat}{d l lr cl tl s w x dx dw:D}{a:tW}{CC:List (List Cs)}{n f:Int}{k c:Nat}{tab:List aN}{xs vs aM:List V}{ns:List Int}{wo:HO}{E:XK}{o1 o2 o5 o6 o7 o8 o9 o10 o11 o12:Option V}
def WyD(t:aZ)(dw:D)(wo:HO)(k c:Nat):Prop:=(k=0/\wo=.ins t.q0d dw [])\/(k=1/\wo=.ins t.q0c dw [])\/(k=2/\wo=.ins t.q05 dw [(bh "times",.int c)])
structure LwS(K:bw)(H:Hp)(s tl cl:D)(ns:List Int)(tab:List aN)(aM vs:List V)(CC:List (List Cs))(n f:Int):Prop where
 c:LwC K H s tl cl ns tab vs CC n f
 hn:ns.length<=63
 hb:∀i∈ns,Cb i
 ht:H tl=U (.lst aM)
 pt:Paired (PrAt H) aM tab
 l5:tab.length<=5
theorem zjG:∀m:Nat,m<5->([0,1,2,3,4]:List Int).getD m 0=m:=by lia
theorem zei(j:LwS K H0 s tl cl ns tab aM vs CC n f)(N:NwD t H0 H d a lb n f tab k c)(v:a.wy=w)(q:∀H',Q (.bl ah) H') :
  Qc K t (sS Q) [U (.ref s),o1,o2,U (.ref tl),U (.ref cl),U (.int n),U (.int k),U (.int f),U (.ref w),U (.int c),o10,U (.ref d),o12] H:=by
 refine⟨_,Y,_,Y,_,Y,_,Y,_,Y,_,Y,_,Y,_,Y,d,cl,tl,s,a,lb,n,f,k,c,vs,CC,tab,ns,H0,Y,N,j.c,λC r S p G T g=>?_⟩;obtain⟨m,B,b,_,A,_,J⟩:=G.cmp;have I:=bL j.c.px;refine⟨_,Y,_,_,Y,Y,_,Y,zV (Bk ()) ⟨_,Y,d,_,_,Y,m,Y,d,_,a,n,f,b,Y,m,A,_,Y,_,Y,.ref cl,vs.length,Y,.inl ⟨_,aQ.of (p _ _ j.c.hx),Y⟩,_,_,Y,Y,Y,_,Y,zV ?_ ?_⟩⟩
 .rw[show f+(b.length:Int)=f+(vs.length:Int) by lia,Bj rfl];rfl
 obtain⟨wo,cs,O,M,db,y,h,_,_,_,_,o⟩:=G;have e:C a.wy=U wo:=h.at (i:=1) rfl;rw[v] at e;by_cases k2:k=2
 .rw[k2] at g;rcases o with ⟨z,_⟩|⟨z,_⟩|⟨_,rfl⟩
  .rw[g] at z;cases z
  .rw[g] at z;cases z
  subst k2;refine⟨_,Y,Y,ao,Y,zV Y ⟨_,Y,w,_,_,Y,e,Y,by show 5<=Bb;rw[bH];decide,λl u=>?_⟩⟩;refine⟨w,l,a.dw,[0,1,2,3,4],S.wc,Y,zh,(),by rw[zi (zw e u)];exact e,_,Y,_,_,Y,Y,by show (0:Int)<5;decide,_,_,Y,?_,λH' _=>q H'⟩;show AlkV _ 3 (.int (([0,1,2,3,4]:List Int).getD (S.wc%5) 0)) (.int ((S.wc:Int)%5));rw[zjG _ (rD _ ()),nM];exact .int _
 .exact⟨_,Y,Y,ah,by rw[Bk (λz=>k2 (by cases z;rfl))];rfl,ym Y (q _)⟩
theorem Qx(u:LwS K H0 s tl cl ns tab aM vs CC n f)(m:aJ H0 H)(r:H w=U wo)(A:H0 w=ak)(y:WyD t dw wo k c)(B:H l=ak)(i:upd H l (.lst aM) x=ak)(j:upd H l (.lst aM) dx=ak)(q:∀H' a lb,NwD t H0 H' x a lb n f tab k c->a.wy=w->Q .non H'):wC t [.ref x,.ref l,.int n,.ref w,.int f] (upd (upd (upd H l (.lst aM)) dx (.own x)) x (.ins t.q01 dx [])) Q E:=by
 have e:=sX (o:=HO.lst aM) l B;have I:upd H l (.lst aM) l=U (.lst aM):=zh;generalize upd H l (.lst aM)=H2 at *
 have g:aJ H2 (upd (upd H2 dx (.own x)) x (.ins t.q01 dx [])):=λb o z=>by rw[zi (zw z i),zi (zw z j)];exact z
 have S:=m.trans (e.trans g);have p:∀b o,H0 b=U o->b≠x:=λb o z=>zw (e _ _ (m _ _ z)) i;have J:=u.l5;exact⟨x,l,w,dx,dw,n,f,wo,tab,Y,zh,⟨aM,g _ _ I,kM S u.pt⟩,(),g _ _ (e _ _ r),zw (e _ _ r) i,λH' a lb G C k v h=>q H' a lb ⟨λb o z=>k b o (p b o z) (S _ _ z),λb o z=>v b o (p b o z) (zw z A) (S _ _ z),wo,[],[],[],[],[],h,.nil,.nil,⟨⟨cz,λ_ z=>nomatch z⟩,λ_ z=>nomatch z⟩,⟨Y,.nil⟩,by unfold zg5;rw[C];exact y⟩ G⟩
theorem zej(e:LwS K H0 s tl cl ns tab aM vs CC n f)(g:aJ H0 H)(m:H w=U wo)(i:H0 w=ak)(h:WyD t dw wo k c)(q:∀H',Q (.bl ah) H') :
  Qd K t (sS Q) [U (.ref s),o1,o2,U (.ref tl),U (.ref cl),U (.int n),U (.int k),U (.int f),U (.ref w),U (.int c),o10,o11,o12] H:=by
 refine⟨_,Y,tl,aM,Y,.inl (aQ.of (g _ _ e.ht)),λl o=>⟨_,Y,_,Y,_,Y,?_⟩⟩;intro x dx j b r;exact Qx e g m i h o j b λH' a lb N p=>⟨Y,zei e N p q⟩
theorem We(m:LwS K H0 s tl cl ns tab aM vs CC n f)(r:aJ H0 H)(b:H w=U wo)(u:H0 w=ak)(g:WyD t dw wo k 0)(q:∀H',Q (.bl ah) H') :
  Qe K t (sS Q) [U (.ref s),o1,o2,U (.ref tl),U (.ref cl),U (.int n),U (.int k),U (.int f),U (.ref w),o9,o10,o11,o12] H:=by
 refine⟨_,Y,s,ns,2,Y,m.c.hS.mono r,m.hn,m.hb,λy C p _=>⟨_,_,Y,Y,by show (0:Int)<3;decide,?_⟩⟩;have A:=cA y (show (3:Int)≠0 by lia);have z:=ck y (show (0:Int)<3 by lia);obtain⟨c,v⟩:=eU A;rw[v] at z;dsimp only;rw[v];refine⟨_,Y,c,Y,(),(),k8 (n:=c) (lo:=0) (λi o j=>(∃o10,o=[U (.ref s),o1,o2,U (.ref tl),U (.ref cl),U (.int n),U (.int k),U (.int f),U (.ref w),U (.int c),o10,o11,o12])/\aJ H0 j/\∃wo,j w=U wo/\WyD t dw wo k i) ⟨⟨_,Y⟩,r.trans p,wo,p _ _ b,g⟩ ?_ ?_⟩
 .rintro i o j B ⟨⟨o10,rfl⟩,h,wo,b,g⟩;rcases g with ⟨ek,rfl⟩|⟨ek,rfl⟩|⟨ek,rfl⟩
  .refine⟨_,Y,w,_,_,_,_,Y,b,Y,.tail _ (.tail _ (.head _)),_,Y,show 1<=Bb by lia,λl e=>⟨w,l,[0+(i:Int)],Y,zh,(),⟨_,Y⟩,h.trans (sX l e),_,sX l e _ _ b,.inl ⟨ek,Y⟩⟩⟩
  .refine⟨_,Y,w,_,_,_,_,Y,b,Y,.head _,_,Y,show 1<=Bb by lia,λl e=>⟨w,l,[0+(i:Int)],Y,zh,(),⟨_,Y⟩,h.trans (sX l e),_,sX l e _ _ b,.inr (.inl ⟨ek,Y⟩)⟩⟩
  .refine⟨_,Y,w,_,_,_,_,Y,b,Y,.tail _ (.head _),_,Y,show 1<=Bb by lia,λl e=>⟨w,l,dw,[0+(i:Int)],i,Y,zh,(),sX l e _ _ b,⟨_,Y⟩,xk (h.trans (sX l e)) u,_,zh,.inr (.inr ⟨ek,Y⟩)⟩⟩
 .rintro o j ⟨⟨o10,rfl⟩,h,wo,b,g⟩;exact zej m h b u g q
theorem zgg(G:LwS K H0 s tl cl ns tab aM vs CC n f)(I:aJ H0 H)(O:k<3)(q:∀H',Q (.bl ah) H') :
  zbk K t (sS Q) [U (.ref s),o1,o2,U (.ref tl),U (.ref cl),U (.int n),U (.int k),U (.int f),o8,o9,o10,o11,o12] H:=by
 have y:∀ {H:Hp} {w dw o},H w=ak->H dw=ak->aJ H (upd (upd H dw (.own w)) w o):=λv p b o z=>by rw[zi (zw z v),zi (zw z p)];exact z
 intro w dw v p N;have M:upd (upd H dw (.own w)) w (.ins t.q0d dw []) w=U (.ins t.q0d dw []):=zh;have u:=I.trans (y (o:=.ins t.q0d dw []) v p);have J:=zJ I v;generalize upd (upd H dw (.own w)) w (.ins t.q0d dw [])=H2 at *
 refine⟨_,Y,Y,_,Y,?_⟩;by_cases m:V.int (k:Int)=.int 1
 .refine ym (Bj m) ?_;have m:k=1:=by cases k;cases m;injection m with z;lia
  subst m;intro g e h i A;have B:upd (upd H2 e (.own g)) g (.ins t.q0c e []) g=U (.ins t.q0c e []):=zh;have C:=u.trans (y (o:=.ins t.q0c e []) h i);have j:=zJ u h;generalize upd (upd H2 e (.own g)) g (.ins t.q0c e [])=H3 at *
  exact⟨_,Y,Y,_,Y,zV Y (We (dw:=e) G C B j (.inr (.inl ⟨Y,Y⟩)) q)⟩
 .refine zV (Bk m) ⟨_,Y,Y,_,Y,?_⟩;by_cases r:V.int (k:Int)=.int 2
  .refine ym (Bj r) ?_;have r:k=2:=by injection r with z;lia
   subst r;intro g e h i A;have B:upd (upd H2 e (.own g)) g (.ins t.q05 e []) g=U (.ins t.q05 e []):=zh;have C:=u.trans (y (o:=.ins t.q05 e []) h i);have j:=zJ u h;generalize upd (upd H2 e (.own g)) g (.ins t.q05 e [])=H3 at *
   exact⟨g,e,Y,B,Y,We (dw:=e) G (xk C j) zh j (.inr (.inr ⟨Y,Y⟩)) q⟩
  .refine zV (Bk r) (We (dw:=dw) G u M J (.inl ⟨?_,Y⟩) q);rcases k with _|_|_|k
   .rfl
   .exact absurd Y m
   .exact absurd Y r
   .lia
theorem zgh(g:aQ K H s (ns.map V.int))(b:ns.length<=63)(e:∀i∈ns,Cb i)(M:H cl=U (.lst vs))(C:Paired (uh H) vs CC)(N:ziv CC)(j:tq H tl tab)(G:tab.length<=5)(I:∀r∈tab,tw r.2=ah)(y:TbK tab)(q:∀H',Q (.bl ah) H') :
  zbl K t (sS Q) [U (.ref s),o1,o2,U (.ref tl),U (.ref cl),o5,o6,o7,o8,o9,o10,o11,o12] H:=by
 obtain⟨aM,J,B⟩:=id j;refine⟨_,Y,s,ns,0,Y,g,b,e,λu H1 h _=>⟨_,_,Y,Y,by show (0:Int)<8;decide,_,_,Y,Y,?_⟩⟩;have b1:=cA u (show (8:Int)≠0 by lia);have b2:=ck u (show (0:Int)<8 by lia);refine⟨_,Y,s,ns,0,Y,g.mono h,b,e,λo H2 A _=>⟨_,_,Y,Y,dB,_,_,Y,Y,by show (0:Int)<3;decide,?_⟩⟩;have v:=h.trans A;have T:=ck (o/8) (show (0:Int)<3 by lia);obtain⟨k,m⟩:=eU (cA (o/8) (show (3:Int)≠0 by lia));rw[m] at T;dsimp only;rw[m];refine⟨_,Y,s,ns,0,Y,g.mono v,b,e,λc3 H3 z O=>⟨_,_,Y,Y,dB,_,_,Y,Y,⟨(),(),()⟩,_,_,Y,Y,⟨O.w.div,by unfold Cw;lia⟩,_,_,Y,Y,⟨(),(),()⟩,_,_,Y,Y,_,_,Y,Y,by show (0:Int)<10^29-300;decide,?_⟩⟩;exact zgg (H0:=H) ⟨⟨g,M,C,N,j,y,(),(),cA _ (),λp=>zfq I p⟩,b,e,J,B,G⟩ (v.trans z) () q
end
theorem zad:∀a:hU,a.deep=0->Zq a<=a.cnt
 |.nil,_=>by rw[Zq];exact bS _
 |.cons r rs,h=>by
  rw[hU.deep] at h;have i:=zad rs ();rw[Zq,hU.cnt];have:szR r<=r.cnt:=by
   cases r with
   |iff e a b=>rw[Rw.deep] at h;lia
   |_=>simp[szR,Rw.cnt]
  lia
theorem zhW:∀c:List Rw,(hU.of c).deep<=1->Zq (hU.of c)<=(c.map szX).sum
 |[],_=>by show Zq .nil<=_;rw[Zq];exact bS _
 |r::c,h=>by
  have h:(hU.cons r (hU.of c)).deep<=1:=h;rw[hU.deep] at h;have i:=zhW c ();show Zq (.cons r (hU.of c))<=_;rw[Zq,bx,cM];have:szR r<=szX r:=by
   cases r with
   |iff e a b =>
    rw[Rw.deep] at h;have f:=zad a ();have d:=zad b ();rw[szR];show _<=a.cnt+b.cnt+3;lia
   |_=>simp[szR,szX]
  lia
theorem ziV(h:zg4 rs):W2 6 (hU.of rs)/\(yc (hU.of rs) 0).length<=11/\zbi (yc (hU.of rs) 0):=by
 have z:=XC (hU.of rs) 0;have s:=zhW rs h.dp;have:(rs.map szX).sum<=11:=h.sz;have:=h.dp;have R:W2 6 (hU.of rs):=⟨(),(),h.pl⟩;exact⟨R,(),zjh R h.ok ()⟩
theorem zjq(a:List Int):∃b:List Int,vY (a.map V.int) (U (3:Int)) (U (7:Int))=b.map V.int/\b.length<=4:=by
 have d:HT.sIx a.length 0 (U (3:Int))=min 3 a.length:=HT.sIx_nat ..;have c:HT.sIx a.length a.length (U (7:Int))=min 7 a.length:=HT.sIx_nat ..;refine⟨(a.drop (min 3 a.length)).take (min 7 a.length-min 3 a.length),?_,?_⟩
 .unfold vY;rw[bg,d,c,nH,nG]
 .rw[cB,cI];lia
section
variable {a b tl s:D}{CC:List (List Cs)}{ns:List Int}{us ws:List Str}{tab:List aN}
theorem zgi{o4 o5 o6 o7 o8 o9 ag aa T:Option V}(hS:aQ K H s (ns.map V.int))(hn:ns.length<=63)(hb:∀i∈ns,Cb i)(h1:sT H a us)(h2:us.length=2)(h3:sT H b ws)(h4:ws.length=2)(hT:tq H tl tab)(l5:tab.length<=5)(iw:∀r∈tab,tw r.2=ah)(tb:TbK tab)(q:∀g,Q (.bl ah) g) :
  zbm K t (sS Q) [U (.ref s),U (.ref a),U (.ref b),U (.ref tl),o4,o5,o6,o7,o8,o9,ag,aa,T] H:=by
 obtain⟨I,em,lm⟩:=zjq ns;refine⟨_,Y,3,Y,7,Y,s,_,Y,hS,λp hp=>?_⟩;rw[em];generalize c_:upd H p _=H1;obtain⟨s1,J⟩:=xc c_ hp;refine⟨p,Y,⟨_,aQ.of J⟩,λBp hD=>?_⟩;have s2:=sX (o:=HO.lst []) Bp hD;refine⟨λi m h τ g=>m=I.length-i/\i<=I.length/\(∃o,τ=[o,U (.ref a),U (.ref b)])/\aJ H1 g/\g Bp=U (.lst h)/\∃CC:List (List Cs),Paired (λv C=>uh g v C/\v≠.ref Bp) h CC/\CC.length=i/\∀C∈CC,zbi C/\C.length<=11,⟨_,Y,bS _,⟨_,Y⟩,s2,zh,[],.nil,Y,λ_ z=>nomatch z⟩,?_⟩;rintro i m h τ H2 ⟨rfl,hi,⟨o,rfl⟩,j,f,CC,d,lc,ok⟩;refine⟨f,?_⟩;have ly:=bL d;rcases gB i I.length with c|c
 .refine .inr ⟨⟨_,_,aQ.of (j _ _ J),bb (by rw[bg];exact c)⟩,bT (show h.length<=5 by lia) (by rw[bH];decide),λv u g=>g Bp=U (.lst h)/\aJ H2 g/\(∃o,u=[o,U (.ref a),U (.ref b)])/\∃C,uh g v C/\v≠.ref Bp/\zbi C/\C.length<=11,?_,λ_ _=>False,λ_ _ z=>z.elim,?_⟩
  .rintro v u G ⟨M,s3,z2,C,cv,nv,z3⟩;have ts:uc G (upd G Bp (.lst (h++[v]))):=vA M λ_ z=>nomatch z
   have kc:∀ {v C},uh G v C->v≠.ref Bp->uh (upd G Bp (.lst (h++[v]))) v C/\v≠.ref Bp:=λ{v C} ⟨c,w,e,E,d⟩ n=>⟨⟨c,w,e,by rw[zi (λy=>n (by rw[e,y]))];exact E,xO (vA M λ_ z=>nomatch z) d⟩,n⟩;refine⟨M,I.length-(i+1),(),Y,c,z2,xk (j.trans s3) hD,zh,CC++[C],Paired.snocP (Paired.mapP d λv C ⟨z,n⟩=>?_) ?_,by rw[bC,lc];rfl,λC' z=>?_⟩
   .obtain⟨c,w,e,E,d⟩:=z.same s3;exact⟨⟨c,w,e,by rw[zi (λy=>n (by rw[e,y]))];exact E,xO ts d⟩,n⟩
   .obtain⟨c,w,e,E,d⟩:=cv;exact⟨⟨c,w,e,by rw[zi (λy=>nv (by rw[e,y]))];exact E,xO ts d⟩,nv⟩
   .rcases bu.mp z with z|z
    .exact ok C' z
    .rw[bo.mp z];exact z3
  .rintro x G ⟨rfl,k⟩;have k:=k _ (aQ.of (j _ _ J));rw[bA] at k;obtain⟨n,_,rfl⟩:=b7.mp k;have S:=s1.trans j;refine ym (R:=False) Y ⟨_,Y,_,Y,_,Y,n,a,b,us,ws,Y,h1.same S,h2,h3.same S,h4,λl rs H4 N rl rx=>?_⟩;obtain⟨R,A,O⟩:=ziV rx;refine⟨.ref l,hU.of rs,Y,rl.any,R,bO A (),λl2 xs H5 s5 B k px=>?_⟩;exact⟨(N.trans s5) _ _ f,N.trans s5,⟨_,Y⟩,_,⟨l2,xs,Y,k,px⟩,(λz=>by cases z;rw[N _ _ f] at B;cases B),O,A⟩
 .refine .inl ⟨⟨_,aQ.of (j _ _ J),by rw[bg];exact c⟩,?_⟩;have S:=s1.trans j;exact zgh (hS.mono S) hn hb f (Paired.mapP d λ_ _ z=>z.1) ⟨ok,()⟩ (hT.same S) l5 iw tb q
theorem zhv{k:List V}{_E:XK}(h:sp_law K k H Q _E) :
  zfI K t (sS Q) (L2.start ["script","shelves","slots","table","codes","hands","kind","first","way","asked","k","desk","count"] k) H:=by
 obtain⟨s,ns,rfl,f,d,e,q⟩:=h;refine⟨_,Y,s,ns,1,Y,f,d,e,λE H1 v _=>⟨E,Y,λa us T u _ m n=>?_⟩⟩;have p:=v.trans u;refine⟨_,Y,s,ns,2,Y,f.mono p,d,e,λC O j _=>⟨C,Y,λb ws N i _ x y=>?_⟩⟩;have o:=p.trans (j.trans i);refine⟨_,Y,s,ns,1,Y,f.mono o,d,e,λI M c _=>⟨_,_,Y,Y,dB,_,Y,_,a,us,Y,m.same (j.trans (i.trans c)),n,λtl tab J g _ B w l A=>?_⟩⟩;have G:=o.trans (c.trans g);exact zgi (f.mono G) d e (m.same (j.trans (i.trans (c.trans g)))) n (x.same (c.trans g)) y B A (λr z=>(l r z).2.1) ⟨w.nd,λr z=>(l r z).1⟩ q
end
section
variable {x:D}{a:RAd}{C:List Cs}{s:aY}{E:XK}{σ:St}
theorem ZO{k:Int}(R:aX t H x a C s)(c:xg s.sl)(g:σ[0]?=U (U (.ref x)))(f:σ[1]?=U (U (.ref p)))(j:H p=U (.tup xs))(h:ub xs k=U (.ref te))(i:H te=U (.tup e))(d:bv e)(q:∀b,aJ H b->fin t (rk s.sl e) Q E b) :
  zY t.q00 "worth_of" (yt t) [] E (Z 0) (zc (aK (yI K) (Z 1) (tC (.int k))) zj) σ H Q:=
 ⟨_,g,x,_,_,Y,R.ix,Y,jR f j h ⟨x,te,e,a,C,s,Y,R,c,i,d,q⟩⟩
theorem zbG(R:aX t H x a C s)(d:xg s.sl)(m:σ[0]?=U (U (.ref x)))(l:σ[1]?=U (U (.ref p)))(o:H p=U (.tup xs))(k:ub xs 1=U (.str sh))(j:ub xs 2=U (.ref te))(n:H te=U (.tup e))(h:bv e)(g:∀i q b,rk s.sl e=.ok i->aJ H b->b q=U (.tup [.str sh,.int i])->Q (.ref q) b)(f:∀c b,rk s.sl e=.error c->aJ H b->zfH t c E b) :
  zY t.q00 "place_in" (yN t) [] E (Z 0) (zc (Z 1) zj) σ H Q:=
 ⟨_,m,x,_,_,Y,R.ix,Y,_,l,x,p,xs,sh,te,e,a,C,s,Y,R,d,o,k,j,n,h,g,f⟩
theorem zae{vs:List V}(F:RnF K t)(h:jE t vs H Q E) :
  WL K t E (sS Q) (L2.start ["self","due","worth","place"] vs) H:=by
 obtain⟨x,v,r,w,m,a,C,s,rfl,R,u,h2,l,J,h5,N,G⟩:=h;have l1:=J.l1;have l2:=J.l2;have l4:=J.l4;have B:=J.so;cases r with
 |take sh e sl' =>
  unfold pv at u;unfold Zd at l;obtain⟨r,O,rfl,_,_,g,A⟩:=u;refine qg Y g Y (λ_=>?_) λz=>absurd Y z;refine⟨_,Y,x,_,_,Y,R.ix,Y,zbG R B Y Y g Y Y A l (λi q p j c T=>?_) λo p j c=>G p o (by unfold tQ;simp only[j]) c⟩;have y:=R.same c;refine⟨_,Y,x,q,(sh,i),w,a,C,s,Y,y,T,by have:=J.l3;lia,λH2 K2 R2=>?_⟩;have I:=R2.hs;rw[zfL] at I;exact Zg Y R2.ix F.cl F.n4 Y (jR Y (K2 _ _ (y.notup (c _ _ g)) (c _ _ g)) Y ⟨_,_,Y,DPut.k (k:=.inr sl') I (bT (by lia:_<=900) ()),N _ _ (by unfold tQ;simp only[j]) ((Kp.of_same c).trans (K2.trans (wS (.inr (.inl Y))))) (R2.putS _)⟩)
 |give sh e f =>
  unfold pv at u;unfold Zd at l;obtain⟨r,O,tf,rfl,_,_,_,g,A,e4⟩:=u;refine qg Y g Y (λz=>absurd z ()) λ_=>qg Y g Y (λ_=>?_) λz=>absurd Y z;refine zbG R B Y Y g Y Y A l.1 (λi q p j c T=>?_) λo p j c=>G p o (by unfold tQ;simp only[j]) c;have y:=R.same c;refine ZO y B Y Y (c _ _ g) Y (c _ _ e4) l.2 λH3 M=>?_;cases hk2:rk s.sl f with
  |error o=>exact tY.mpr (G H3 o (by unfold tQ;simp only[j,hk2]) (c.trans M))
  |ok n =>
   have R3:=y.same M;have ld:=jp s.gi;refine fin_ok.mpr (Zg Y R3.ix F.cl F.n5 Y ⟨_,Y,_,_,Y,DPut.t (k:=zC (sh,i)) R3.hg (M _ _ T) (bT (by lia:_<=900) ()),?_⟩);rw[show yJ (sY s.gi) (zC (sh,i)) (V.int n)=sY (s.gi++[((sh,i),n)]) from (Zc s.gi ((sh,i),n)).symm];exact N _ _ (by unfold tQ;simp only[j,hk2]) ((Kp.of_same (c.trans M)).trans (wS (.inr (.inr (.inl Y))))) (R3.putG _)
 |lt sl' e =>
  unfold pv at u;unfold Zd at l;obtain⟨r,O,rfl,_,_,g,A⟩:=u;refine qg Y g Y (λz=>absurd z ()) λ_=>qg Y g Y (λz=>absurd z ()) λ_=>qg Y g Y (λ_=>?_) λz=>absurd Y z;refine ZO R B Y Y g Y A l λp c=>?_;cases j:rk s.sl e with
  |error o=>exact tY.mpr (G p o (by unfold tQ;simp only[j]) c)
  |ok n =>
   have R2:=R.same c;exact fin_ok.mpr (Zg Y R2.ix F.cl F.n4 Y (jR Y (c _ _ g) Y ⟨_,_,Y,DPut.k (k:=.inr sl') R2.hs (bT (by lia:_<=900) ()),N _ _ (by unfold tQ;simp only[j]) ((Kp.of_same c).trans (wS (.inr (.inl Y)))) (R2.putS _)⟩))
 |say e =>
  unfold pv at u;unfold Zd at l;obtain⟨r,O,rfl,_,_,g,A⟩:=u;refine qg Y g Y (λz=>absurd z ()) λ_=>qg Y g Y (λz=>absurd z ()) λ_=>qg Y g Y (λz=>absurd z ()) λ_=>?_;unfold Yj yh tBM;refine Zg Y R.ix F.cl F.n7 Y ⟨.inl ⟨Y,_,aQ.of R.ha⟩,?_⟩;refine ZO R B Y Y g Y A l λp c=>?_;cases j:rk s.sl e with
  |error o=>exact tY.mpr (G p o (by unfold tQ;simp only[j]) c)
  |ok n =>
   have y:=R.same c;refine fin_ok.mpr ⟨_,_,_,Y,Y,y.ha,bT (by rw[bg];lia:_<=900) (),?_⟩;rw[show nF V.int s.sa++[V.int n]=nF V.int (s.sa++[n]) by simp];exact N _ _ (by unfold tQ;simp only[j]) ((Kp.of_same c).trans (wS (.inr (.inr (.inr (.inr Y)))))) (y.putA _)
 |off e=>exact h2.elim
 |iff e b d=>exact h2.elim
theorem JC{J:List V}(F:RnF K t)(h:wX t J H Q E) :
  Yk K t E (sS Q) (L2.start ["self","due","worth"] J) H:=by
 obtain⟨x,v,c,w,m,a,C,s,rfl,R,g,y,N,h4,l,B⟩:=h;have M:=N.so;have u:∀ {v' H1 d},aX t H1 x a C d->(∀k:Nat,k=d.n+1->Q (.int (k:Nat)) H1)->zL (aK aD (zW K (Z 0) "at") (tC (.int 1))) (sS Q) (L2.start ["self","due","worth"] [.ref x,v',.int w]) H1:=λA q=>by
  unfold zL aK;exact Zg Y A.ix F.cl F.n2 Y ⟨_,_,Y,Y,q _ Y⟩
 cases c with
 |go I =>
  obtain⟨p,rfl,b⟩:=g;refine qg Y b Y (λ_=>?_) λz=>absurd Y z;exact jR Y b Y (l H s I Y (.of_same λ_ _ z=>z) R)
 |skip e to =>
  obtain⟨p,te,rfl,b,j⟩:=g;refine qg Y b Y (λz=>absurd z ()) λ_=>qg Y b Y (λ_=>?_) λz=>absurd Y z;refine ZO R M Y Y b Y j y λH1 d=>?_;cases hk:rk s.sl e with
  |error o=>exact tY.mpr (B H1 o (by unfold vN;simp only[hk]) d)
  |ok n =>
   have R2:=R.same d;refine fin_ok.mpr ⟨Y,_,Y,zjf (λi=>?_) λi=>?_⟩
   .exact jR Y (d _ _ b) Y (l H1 s to (by unfold vN;simp only[hk,ap i]) (.of_same d) R2)
   .exact u R2 λk f=>l H1 s k (by unfold vN;simp only[hk,am i,f]) (.of_same d) R2
 |row r =>
  obtain⟨g,G⟩:=g;rcases zg8 r G with ⟨e,rfl⟩|hdo
  .unfold pv at g;unfold QW Zd at y;obtain⟨r,te,rfl,_,_,b,j⟩:=g;refine qg Y b Y (λz=>absurd z ()) λ_=>qg Y b Y (λz=>absurd z ()) λ_=>qg Y b Y (λ_=>?_) λz=>absurd Y z;refine ZO R M Y Y b Y j y λH1 d=>?_;cases hk:rk s.sl e with
   |error o=>exact tY.mpr (B H1 o (by unfold vN;simp only[hk]) d)
   |ok n =>
    have R2:=R.same d;refine fin_ok.mpr ⟨Y,_,Y,zje (λi=>?_) λi=>?_⟩
    .have T:=R2.putI { s with why:=U (bh "told") } rfl rfl rfl rfl;refine⟨_,Y,_,_,_,_,Y,R2.ix,F.cl,F.n3,(by show (7:Nat)<1000;decide),?_⟩;exact u T λk f=>l _ { s with why:=U (bh "told") } k (by unfold vN;simp only[hk,am i,f]) ((Kp.of_same d).trans (wS (.inl Y))) T
    .exact u R2 λk f=>l H1 s k (by unfold vN;simp only[hk,ap i,f]) (.of_same d) R2
  .obtain⟨p,zs,hd,rfl,b,j,n1,n2,n3⟩:=zg9 g hdo;have O:=zbp (w:=w) (s:=s) hdo;refine qg Y b j (λz=>absurd z n1) λ_=>qg Y b j (λz=>absurd z n2) λ_=>qg Y b j (λz=>absurd z n3) λ_=>?_;refine⟨_,Y,x,_,_,Y,R.ix,Y,_,Y,_,Y,x,_,r,w,m,a,C,s,Y,R,g,hdo,y,N,h4,λH1 s' e K1 A=>?_,λH1 o e d=>B H1 o (by rw[O,e]) d⟩;have I:=zjg hdo e;exact u A λk f=>l H1 s' k (by rw[O,e,f,I]) K1 A
end
section
variable {x:D}{a:RAd}{C:List Cs}{s:aY}{E:XK}
theorem zaf{A:List V}{_E:XK}{P:Str->Option ae}(T:Txt K P t)(h:jF t A H Q _E) :
  WK K t (sS Q) (L2.start ["self","place"] A) H:=by
 obtain⟨x,a,C,s,rfl,R,h2,h3,f,n⟩:=h;have F:=rnF T;refine⟨_,Y,x,_,_,Y,R.ix,Y,x,a,C,s,Y,R,λH1 d=>⟨_,Y,?_⟩⟩;show if _ then _ else _
 have c:=R.same d;by_cases ho:yH C s=ah
 .rw[ap ho];show if _ then _ else _
  rw[ap rfl];exact f H1 (by unfold jC;rw[ap ho]) d
 rw[am ho];obtain⟨m,J,G⟩:=c.hc;have lx:=bL G;have I:=Xy ho;have N:C[s.n]?=U C[s.n]:=bb I;have r:m[s.n]?=U m[s.n]:=bb ();have cv:=yV G r N;have o:=h2 _ (dZ I);have es:jC C s=kG C[s.n] s:=by unfold jC;rw[am ho,N];rfl
 rw[es] at f n;obtain⟨p,y,hd,O,M,h0,u,w⟩:=ziy cv;unfold zD aK;refine Zg Y c.ix F.cl F.n1 Y (Zg Y c.ix F.cl F.n2 Y ⟨_,m,_,_,Y,Y,aQ.of J,yn r,p,y,0,_,O,Y,sW.of M,h0,Y,_,Y,?_⟩);show if _ then _ else _
 by_cases hh:hd=bh "take"
 case neg =>
  rw[ap (by rw[Bk (λz=>hh (V.str.inj z))];rfl)];exact f H1 (w hh s) d
 rw[am (by rw[hh];decide)];obtain⟨b,e,sl,te,ec,a1,a2,u⟩:=u hh;rw[ec] at f n o;unfold QW Zd at o;refine⟨_,Y,x,_,_,Y,c.ix,Y,?_⟩;unfold zc aK;refine Zg Y c.ix F.cl F.n1 Y (Zg Y c.ix F.cl F.n2 Y ⟨_,m,_,_,Y,Y,aQ.of J,yn r,?_⟩);refine⟨x,p,y,b,te,e,a,C,s,by rw[O];rfl,c,h3,M,a1,a2,u,o,λi q g l k v=>?_,λer g l k=>?_⟩
 case refine_2 =>
  have B:=f g (by unfold kG;simp only[l]) (d.trans k);cases er with
  |nought=>exact⟨t.q07,Y,T.m_Nought_Great_Nought,B⟩
  |great=>exact⟨t.q08,Y,T.m_Great_Great_Nought,B⟩
  |stuck=>trivial
 have R2:=c.same k;have g1:tz g a.gi (.ref q) ((zE s.gi (b,i)).map V.int):=.inr ⟨sY s.gi,zC (b,i),q,.inl R2.hg,Y,v,(wA _ _).symm⟩;have g2:tz g a.no (.ref q) ((zE s.no (b,i)).map V.int):=.inr ⟨sY s.no,zC (b,i),q,.inl R2.hn,Y,v,(wA _ _).symm⟩;refine⟨_,Y,?_⟩;refine Zg Y R2.ix F.cl F.n5 Y ⟨_,_,Y,g1,_,Y,?_⟩;show if _ then _ else _
 cases hg:zE s.gi (b,i) with
 |some j =>
  rw[ap (by rfl)];show if _ then _ else _
  rw[ap rfl];exact f g (by unfold kG;simp only[l,hg];rfl) (d.trans k)
 |none =>
  rw[am ()];refine⟨_,Y,?_⟩;refine Zg Y R2.ix F.cl F.n6 Y ⟨_,_,Y,g2,_,Y,?_⟩;show if _ then _ else _
  cases hn:zE s.no (b,i) with
  |some j =>
   rw[ap (by rfl)];exact f g (by unfold kG;simp only[l,hg,hn];rfl) (d.trans k)
  |none =>
   rw[am ()];refine⟨_,Y,?_⟩;exact n (b,i) q g (by unfold kG;simp only[l,hg,hn];rfl) (d.trans k) v
end
theorem JE{l:List V}{_E:XK}(h:yK l H Q _E) :
  Yi K t (sS Q) (L2.start ["ranks","rank","low","high","amid"] l) H:=by
 obtain⟨a,d,i,rfl,y,w,q⟩:=h;refine⟨_,Y,.ref a,d.length,Y,.inl ⟨_,aQ.of y,(bg ..).symm⟩,mbW a i d H,⟨_,0,d.length,ak,Y,aJ.refl H,bS _,bp _,Y,by simp,by simp⟩,?_⟩;rintro m A k ⟨b,hi,o,rfl,s,E,v,rfl,u,p⟩;refine⟨_,Y,_,Y,_,_,Y,Y,_,Y,?_⟩;by_cases hl:b<hi
 .refine ym (Bj ()) ⟨λe k=>∃n,n<hi-b/\mbW a i d H n e k,λ_ _ z=>z,_,Y,_,Y,_,_,Y,Y,_,_,Y,Y,dB,?_⟩;obtain⟨md,g⟩:∃md:Nat,((b:Int)+hi)/2=md:=⟨(b+hi)/2,()⟩;dsimp only;rw[g];have C:b<=md:=by lia
  have B:md<hi:=by lia
  obtain⟨x,f⟩:∃x,d[md]?=U x:=⟨_,bb ()⟩;refine⟨_,Y,_,Y,a,_,md,_,Y,Y,aQ.of (s _ _ y),yn (j:=md) (by rw[bA,f];rfl),_,Y,_,_,Y,Y,_,Y,?_⟩;by_cases hr:x<i
  .exact ym (Bj hr) ⟨_,Y,_,_,Y,Y,_,(by lia:hi-(md+1)<hi-b),md+1,hi,_,Y,s,(),v,Y,λr c=>Int.lt_of_le_of_lt (zdk w f r c) hr,p⟩
  .exact zV (Bk hr) ⟨_,Y,_,(by lia:md-b<hi-b),b,md,_,Y,s,(),(),Y,u,λr c=>Int.le_trans () (zhi w f r c)⟩
 .refine zV (Bk ()) ⟨_,Y,?_⟩;obtain rfl:b=hi:=by lia
  exact q b k s v u p
theorem zag{g:List V}{_E:XK}{P:Str->Option ae}(T:Txt K P t)(h:xL t g H Q _E) :
  WM K t (sS Q) (L2.start ["self","worth"] g) H:=by
 obtain⟨x,w,m,a,C,s,rfl,R,E,B,A,q⟩:=h;have F:=rnF T;refine⟨_,Y,x,_,_,Y,R.ix,Y,x,a,C,s,Y,R,λN c=>⟨_,Y,?_⟩⟩;have b:=R.same c;by_cases ho:yH C s=ah
 .exact ym ho (q N (.of_same c) (by unfold xw;rw[ap ho];exact b))
 refine zV (r9 _ ▸ ho) ?_;obtain⟨d,y,l⟩:=b.hc;have lx:=bL l;have o:=Xy ho;have r:C[s.n]?=U C[s.n]:=bb o;have p:d[s.n]?=U d[s.n]:=bb ();have I:=yV l p r;have G:∀w,xw C w s=xx C[s.n] w s:=λw=>by unfold xw;rw[am ho,r]
 rw[G] at q;refine⟨_,Y,x,_,_,Y,b.ix,Y,ye b.ix F.cl F.n1 Y Y (ye b.ix F.cl F.n2 Y Y ⟨a.co,d,_,_,Y,Y,aQ.of y,yn p,_,Y,x,_,C[s.n],w,m,a,C,s,Y,b,I,E _ (dZ o),B,A,λM v k e J R2=>⟨_,Y,x,_,_,_,Y,R2.ix,F.cl,F.n2,(by show (7:Nat)<1000;decide),?_⟩,λM u e i=>?_⟩)⟩
 .have z:=R2.putI { v with n:=k } rfl rfl rfl rfl;exact q _ ((Kp.of_same c).trans (J.trans (wS (.inl Y)))) (by unfold xx;rw[e];exact z)
 .have f:=b.same i;have z:=f.putI { s with why:=U (za4 u) } rfl rfl rfl rfl;have j:=q _ ((Kp.of_same c).trans ((Kp.of_same i).trans (wS (.inl Y)))) (by unfold xx;rw[e];exact z);cases u with
  |nought=>exact⟨t.q07,Y,.inr ⟨T.q2w,T.q2x,_,Y,x,_,_,_,Y,f.ix,F.cl,F.n3,(by show (7:Nat)<1000;decide),j⟩⟩
  |great=>exact⟨t.q08,Y,.inl ⟨T.q2z,_,Y,x,_,_,_,Y,f.ix,F.cl,F.n3,(by show (7:Nat)<1000;decide),j⟩⟩
  |stuck=>trivial
theorem zek{m p:D}{ac C:Int}{F:D->Prop}{g:List aN}{c:List (Int×List aN)}{f:Pl}(J:MkF K t)(n:tL t H m F g c C)(h2:C<=ac)(h3:H p=U (.tup [.str f.1,.int f.2]))(q:∀H',aJ H H'->Q (.int (yj g c f ac)) H') :
  jU K t (sS Q) (L2.start ["self","place","rank","ranks","below"] [.ref m,.ref p,.int ac]) H:=by
 obtain⟨dx,gr,wo,rk,wk,kk,M⟩:=n.ex;refine⟨_,Y,m,_,_,Y,M.im,kH (),_,Y,m,_,_,_,_,Y,M.im,zjl,h2,λH1 s1=>?_⟩;have M1:=M.keep n.me λb o _ e=>s1 _ _ e;refine(ye M1.im J.cl J.r Y zhh ⟨rk,Y,.inr ⟨_,.inl M1.rr.at_⟩,_,Y,(),λl hl=>?_⟩);generalize c_:upd H1 l _=H2;obtain⟨s2,q2⟩:=xc c_ hl;have S2:=s1.trans s2;have M2:=M1.keep n.me λb o _ e=>s2 _ _ e;have A:H2 p=U (.tup ((zC f).map kV)):=S2 _ _ h3;refine⟨_,.t M2.rr.at_ A,?_⟩;have gd:∀ {u:Hp} {σ:St},σ[0]?=U (U (.ref m))->σ[1]?=U (U (.ref p))->MrIn t u m F g c C dx gr wo rk wk kk->u p=U (.tup ((zC f).map kV))->aJ H u->(∀r,v5 c f r->¬ r<ac)->qZ (zW K (Z 0) "ground") (Z 1) (tC (.int 0)) σ u Q:=λ{u σ} e0 s B aj S3 E=>by
  refine(ye B.im J.cl J.g e0 zjE ⟨gr,Y,.inr ⟨_,.inl B.hg⟩,_,s,_,.t B.hg aj,?_⟩);have ev:yj g c f ac=(zE g f).getD 0:=by
   unfold yj;rcases xV f ac c (-1,(zE g f).getD 0) with ⟨s,_⟩|⟨y,hy,w,s,I,_⟩
   .rw[s]
   .exact absurd I (E y.1 ⟨y.2,hy,(xE (n.ok y hy).2.nd).mpr (by rw[s];exact λz=>nomatch z)⟩)
  have I:(yf (sY g) (zC f)).getD (V.int 0)=V.int ((zE g f).getD 0):=by
   rw[wA];cases zE g f <;> rfl
  rw[I,<-ev];exact q u S3
 rcases M2.rr.get f with ⟨a,rs,hk,hv,fa,ha,hs,hne,hi⟩|⟨hv,hk,E⟩
 .rw[hv];refine⟨_,Y,_,Y,a,rs,_,Y,ha,hs,λk u v O al aa=>⟨_,Y,Y,_,Y,?_⟩⟩;have S3:=S2.trans v;have B:=M2.keep n.me λb o _ e=>v _ _ e;by_cases h0:k=0
  .subst h0;exact ym Y (gd Y Y B (v _ _ A) S3 λr hr ar=>by
    have:=aa r (by rw[iO];exact(hi r).mpr hr);lia)
  .refine zV (Bk λz=>h0 (by injection z with z;lia)) ?_;obtain⟨x,hx⟩:∃x,rs[k-1]?=U x:=⟨_,bb ()⟩;have ek:(k:Int)-1=((k-1:Nat):Int):=by lia
   obtain⟨gs,h,ai⟩:=(hi x).mp (bN hx);obtain⟨d,v1,fd,nd,hd⟩:=Q5 B.wp n.nd h;have ag:=(n.ok _ h).2;obtain⟨w,N⟩:∃w,zE gs f=U w:=by
    cases e:zE gs f with
    |none=>exact absurd e ((xE ag.nd).mp ai)
    |some w=>exact⟨w,Y⟩
   have vd:yf (sY gs) (zC f)=U (.int w):=by rw[wA,N];rfl
   refine(ye B.im J.cl J.w Y zhg ⟨_,Y,_,Y,_,_,Y,Y,a,_,((k-1:Nat):Int),_,Y,congrArg V.int ek,aQ.of (v _ _ ha),yn (j:=k-1) (by rw[bA,hx];rfl),wo,.ref d,Y,(show tz u wo (kV (.inl x)) (U (.ref d)) by rw[<-v1];exact .k B.hw),_,Y,d,V.int w,Y,by rw[<-vd];exact .t hd (v _ _ A),?_⟩);have xr:x<ac:=al x (oI.mpr ⟨k-1,by rw[dq,ap ()];exact hx⟩);have x0:0<=x:=(n.ok _ h).1;have ev:yj g c f ac=w:=by
    unfold yj;rcases xV f ac c (-1,(zE g f).getD 0) with ⟨s,I⟩|⟨y,hy,w',s,I,e3,e4,e5⟩
    .have:=I _ h (by show (-1:Int)<x;lia) xr;rw[this] at N;cases N
    .rw[e4];have yx:x<=y.1:=e5 _ h xr (by rw[N];exact λz=>nomatch z);have yr:y.1∈rs:=(hi y.1).mpr ⟨y.2,hy,(xE (n.ok y hy).2.nd).mpr (by rw[s];exact λz=>nomatch z)⟩;have xy:y.1<=x:=by
      have:y.1∈rs.take k\/y.1∈rs.drop k:=bu.mp (by rw[cV];exact yr);rcases this with z|z
      .have an:k=k-1+1:=by lia
       rw[an] at z;exact zdk hs hx _ z
      .have:=aa _ z;lia
     have ey:y.1=x:=by lia
     have e6:y=(x,gs):=by
      have n1:=n.nd;obtain⟨i,G⟩:=cy hy;obtain⟨j,T⟩:=cy h;have a1:(c.map (·.1))[i]?=U x:=by rw[bA,G,<-ey];rfl
      have a2:(c.map (·.1))[j]?=U x:=by rw[bA,T];rfl
      have ij:=(gI (bn.mp a1).1 n1).mp (a1.trans a2.symm);rw[ij,T] at G;exact(bI G).symm
     rw[e6] at s;rw[N] at s;exact(bI s).symm
   rw[<-ev];exact q u S3
 .rw[hv];refine⟨_,Y,_,Y,l,[],_,Y,q2,fP,λk u v O _ _=>⟨_,Y,Y,_,Y,?_⟩⟩;obtain rfl:k=0:=Nat.le_zero.mp O;exact ym Y (gd Y Y (M2.keep n.me λb o _ e=>v _ _ e) (v _ _ A) (S2.trans v) λr hr=>absurd hr (E r))
theorem zah{vs:List V}{_E:XK}(h:vh vs H Q _E) :
  WN K t (sS Q) (L2.start ["ranks_at","place","rank","ranks"] vs) H:=by
 obtain⟨rk,pl,ac,G,P,l,j,rfl,n,O,gn,hp,N,kl,J,q⟩:=h;refine⟨_,Y,rk,Y,.inr ⟨_,.inl n.at_⟩,_,Y,(),λz I=>?_⟩;generalize c_:upd H z _=H2;obtain⟨y,q2⟩:=xc c_ I;have c:=n.keep (F':=G) O (λb o _ e=>y _ _ e) (λ_ z=>z);have m:mt G rk H H2:=mt.refl.same y;have x:Dm H H2:=Dm.of_same y;have gz:G z:=gn z I;refine⟨l,zC j,pl,c.at_,Y,y _ _ hp,by rw[bH];lia,λv g=>?_,λg=>?_⟩
 .rcases c.get j with ⟨a,rs,B,hv2,fa,ha,hs,hne,hi⟩|⟨hv2,_,_⟩
  .rw[hv2] at g;cases g;have rl:=J rs hs λr n=>(hi r).mp n;refine⟨_,Y,.inl ⟨Y,_,aQ.of ha⟩,_,Y,_,Y,a,rs,ac,Y,ha,hs,λk H3 d i s u=>⟨_,Y,a,_,k,_,Y,Y,d _ _ ha,by rw[bg];exact i,by rw[bg];lia,?_⟩⟩;rw[<-nH,<-nG,<-bx (f:=V.int),<-bR];have M:=c.keep (F':=G) O (λb o _ e=>d _ _ e) (λ_ z=>z);exact q _ l ((m.same d).lst (d _ _ ha) fa) ((x.trans (Dm.of_same d)).trans (Dm.upd λ_ z=>nomatch z)) (M.in1 B (d _ _ ha) hs hi s u N λp r=>sC)
  .rw[hv2] at g;cases g
 .have T:z≠rk:=zM q2 c.at_ ();rw[ve _ g];have A:upd H2 rk (HO.dT (l++[(zC j,V.ref z)])) z=U (.lst (([]:List Int).map V.int)):=by rw[zi T];exact q2
  have hf:∀E∈l,E.2≠.ref z:=λE B e=>by
   obtain⟨p',a',aa,rfl,_,w,_⟩:=n.ls E B;cases e;rw[I] at w;cases w
  rcases c.get j with ⟨a,rs,B,hv2,_⟩|⟨_,hkn,hn⟩
  .rw[hv2] at g;cases g
  refine⟨_,Y,.inl ⟨Y,_,aQ.of A⟩,_,Y,_,Y,z,[],ac,Y,A,fP,λk H3 d i s u=>?_⟩;have k0:k=0:=Nat.le_zero.mp i;subst k0;have d3:Dm H (upd H2 rk (HO.dT (l++[(zC j,V.ref z)]))):=x.trans (Dm.upd λ_ z=>nomatch z);refine⟨_,Y,z,[],0,_,Y,Y,d _ _ A,bp _,(),q _ (l++[(zC j,V.ref z)]) (((m.dct _).same d).lst (d _ _ A) gz) ((d3.trans (Dm.of_same d)).trans (Dm.upd λ_ z=>nomatch z)) ?_⟩;refine(c.in2 (a:=z) (ac:=ac) hkn hn gz hf T λp r=>sC).keep O (λb o fb C=>?_) (λ_ z=>z);show upd H3 z (HO.lst [V.int ac]) b=U o;by_cases hb:b=z
  .subst hb;rw[zh] at C ⊢;exact C
  .rw[zi hb] at C ⊢;exact d _ _ C
theorem JF{m p:D}{c:Int}{F:D->Prop}{g:List aN}{a:List (Int×List aN)}{b:Pl}(i:MkF K t)(h:tF t H m F g a)(f:0<=c)(e:H p=U (.tup [.str b.1,.int b.2]))(q:∀d,aJ H d->Q (.int (yj g a b c)) d) :
  jU K t (sS Q) (L2.start ["self","place","rank","ranks","below"] [.ref m,.ref p,.int c]) H:=zek i h f e q
theorem zai{E:XK}{n:List (aU×V)}{B G:D}{o:List V}{r:Except Er Int}(hK:fS K (.type "int") (.type "str")=U ao)(hJ:∀H:Hp,sW K H t.q0u jw)(h1:H B=U (.tup o))(h2:H G=U (.dK n))(h3:Good n o r)(h4:∀v∈o,qe v)(h5:o.length<=1000)(h6:xg n) (q:∀H',aJ H H'->fin t r Q E H'):WJ K t E (sS Q) (L2.start ["term","slots","worths","part","second","first"] [.ref B,.ref G]) H:=by
 refine⟨(),λw I=>⟨_,Y,B,Y,⟨_,sW.of ((sX w I) _ _ h1)⟩,?_⟩⟩;have f:=h3.1 [];have fe:∀ {e:Er} {H':Hp},wQ n o []=.error e->aJ H H'->fin t (.error e) Q E H':=λ{e H'} z s=>by
  rw[z] at f;cases r with
  |ok i=>cases f
  |error e' =>
   cases f;exact q _ s
 have ns:wQ n o []≠.error .stuck:=λz=>by
  rw[z] at f;cases r with
  |ok i=>cases f
  |error e' =>
   cases f;exact h3.2 rfl
 refine zeJ o (rkI n o B G w H) ⟨[],⟨_,_,_,Y⟩,Y,(λx z=>nomatch z),bp _,zh,sX w I⟩ (λi σ H' ⟨C,a,b,c,d,e,s⟩=>sW.of (s _ _ h1)) ?_ ?_
 .rintro i v σ H' hv ⟨C,⟨o3,o4,o5,rfl⟩,O,M,hl,m,J⟩;have hi:i<o.length:=(bn.mp hv).1;have A:=zgJ O hv;have ok:=h4 v (bN hv);have fl:YY v=ah:=by rcases ok with ⟨j,rfl,_⟩|⟨x,rfl,_⟩ <;> rfl
  have N:∀ {l:List Int} {d:Int} {H2:Hp} {o4 o5:Option V},wQ n (o.take (i+1)) []=.ok (l++[d])->(∀y∈l,tw y=ah)->tw d=ah->l.length<=i->H2 w=U (.lst (l.map V.int))->aJ H H2->(∃k xs y,V.ref w=.ref k/\[V.int d]=[y]/\H2 k=U (.lst xs)/\xs.length<Bb/\rkI n o B G w H (i+1) [U (V.ref B),U (V.ref G),U (V.ref w),U v,o4,o5] (upd H2 k (.lst (xs++[y])))):=λ{l d H2 o4 o5} g ai hd ll ag T=>by
   refine⟨w,_,_,Y,Y,ag,?_,l++[d],⟨_,_,_,Y⟩,g,?_,?_,?_,xk T I⟩
   .rw[bg];exact bT (by lia:l.length<=1000) ()
   .intro y hy;rcases bu.mp hy with h|h
    .exact ai y h
    .rw[bo.mp h];exact hd
   .rw[bC];show l.length+1<=i+1;lia
   .rw[bR];exact zh
  refine⟨_,Y,t.q0u,jw,Y,.inr (hJ H'),fl,Y,_,Y,?_⟩;by_cases c:inV v jw=ah
  .refine ym c ?_;rcases zix C with ⟨l,a,b,rfl⟩|z
   .obtain⟨x,rfl,hx⟩:∃x:Str,v=.str x/\x.length<=1000:=by
     rcases ok with ⟨j,rfl,_⟩|h
     .exact absurd c (by rw[show inV (V.int j) jw=ao from rfl];decide)
     .exact h
    have e1:nF V.int (l++[a,b])=(l.map V.int++[.int a])++[.int b]:=by simp
    rw[e1] at m;have g:=A.trans (zfK c);have ln:(l++[a,b]).length=l.length+2:=by simp
    refine⟨_,Y,.inl ⟨Y,_,aQ.of m⟩,w,_,_,Y,Y,m,zbo,_,Y,.inl ⟨Y,_,aQ.of zh⟩,w,_,_,Y,Y,by rw[X8];exact zh,zbo,_,Y,.inl ⟨Y,_,aQ.of zh⟩,_,Y,_,Y,_,Y,x,a,b,Y,hx,M a (by simp),M b (by simp),λH2 s2=>?_⟩;rw[X8,X8] at s2;have T:aJ H H2:=(xk (xk J I) I).trans s2;cases e:kj x a b with
    |ok d =>
     rw[e] at g;have hd:tw d=ah:=by
      unfold kj at e;split at e
      .cases e
      .split at e
       .rename_i z;cases e;exact z
       .cases e
     exact N g (λy hy=>M y (cr _ hy)) hd () (s2 _ _ zh) T
    |error er =>
     rw[e] at g;have:=fe (zc6 g) T;cases er with
     |nought=>exact this
     |great=>exact this
     |stuck=>trivial
   .exact absurd (zc6 (A.trans (z n v c))) ns
  .refine zV (r9 _ ▸ c) ?_;have aa:wM n C v=.ok (C++[zeR n v]):=by
    unfold wM;rw[am (by unfold isJ;exact c)]
   have p:=N (o4:=o4) (o5:=o5) (A.trans aa) M (zaQ h6 ok) hl m J;refine⟨_,Y,.inl ⟨Y,_,aQ.of m⟩,?_⟩;rcases ok with ⟨j,rfl,hj⟩|⟨x,rfl,hx⟩
   .exact jg Y (.int j) hK (zV Y ⟨_,Y,p⟩)
   .refine jg Y (.str x) (vq _) (ym Y ⟨_,Y,G,Y,.inl ⟨n,.inl (J _ _ h2)⟩,_,Y,_,tz.k (k:=.inr x) (J _ _ h2),?_⟩);have ev:(yf n (.inr x)).getD (V.int 0)=V.int (zeR n (.str x)):=by
     show _=V.int (match yf n (.inr x) with|some (.int i)=>i|_=>0);cases e:yf n (.inr x) with
     |none=>rfl
     |some u =>
      obtain⟨i,rfl,_⟩:=h6 _ _ e;rfl
    rw[ev];exact p
 .rintro σ H' ⟨C,⟨o3,o4,o5,rfl⟩,O,M,hl,m,J⟩;rw[cx] at O;rw[O] at f;cases r with
  |error e=>cases f
  |ok i =>
   have e:C=[i]:=by injection f
   subst e;exact⟨_,Y,.inl ⟨Y,_,aQ.of m⟩,w,_,_,Y,Y,m,Y,q _ (xk J I)⟩
section
variable {x:D}{a:RAd}{C:List Cs}{s:aY}
theorem Kl{vs:List V}{_E:XK}(F:RnF K t)(h:xR t vs H Q _E) :
  Xr K t (sS Q) (L2.start ["self","notes"] vs) H:=by
 obtain⟨x,a,C,s,rfl,R,h2,h3,h4,q1,q2⟩:=h;refine(ji R.ix Y Y ⟨x,a,C,s,Y,R,λH1 c=>⟨_,Y,?_⟩⟩);have v:=R.same c;cases ho:yH C s with
 |false=>exact ym Y (q1 H1 ho c)
 |true =>
  refine zV Y (ye v.ix F.cl F.n6 Y Y ⟨a.no,_,Y,v.hn,λr hr=>?_⟩);generalize c_:upd H1 r _=Hv;obtain⟨G,ev⟩:=xc c_ hr;refine⟨r,a.no,sY s.no,Y,ev,G _ _ v.hn,(by have:=jp s.no;lia),λl ys H2 s2 fl u pr=>?_⟩;have q:=G.trans s2;have R2:=v.same q;have nl:H l=ak:=zJ (c.trans G) fl;rw[X9 h3] at pr;have pn:=zfp pr;have b:=R2.ix;unfold ziu at b;cases hw:s.why with
  |some w =>
   rw[hw] at b;refine(ye b F.cl F.n3 Y Y ⟨Y,_,Y,ym Y (ye b F.cl F.n3 Y Y ⟨by show 2<=Bb;rw[bH];decide,λp M=>?_⟩)⟩);generalize c1:upd H2 p _=H3;obtain⟨k,O⟩:=xc c1 M;refine⟨_,Y,(),λg f=>?_⟩;generalize c2:upd H3 g _=H4;obtain⟨j,N⟩:=xc c2 f;refine⟨by show 3<=Bb;rw[bH];decide,λm d=>?_⟩;have E:=sX (o:=HO.tup [V.ref p,V.ref l,V.ref g]) m d;have T:=k.trans (j.trans E);refine q2 m (.ref p) l g [] _ ho (c.trans (q.trans T)) nl (zJ (c.trans (q.trans k)) f) (λz=>by rw[<-z,k _ _ u] at f;cases f) zh ?_ ⟨ys,T _ _ u,Xz T pn⟩ ⟨[],E _ _ N,.nil⟩ ?_
   .unfold zg2;rw[hw];exact⟨p,Y,(j.trans E) _ _ O⟩
   .unfold qW;rw[hw]
  |none =>
   rw[hw] at b;refine(ye b F.cl F.n3 Y Y ⟨Y,_,Y,zV Y (ye b F.cl F.n7 Y Y ⟨a.sa,_,Y,.inl ⟨aQ.of R2.ha,λy hy=>?_⟩⟩)⟩);generalize c1:upd H2 y _=H3;obtain⟨k,O⟩:=xc c1 hy;refine⟨by show 2<=Bb;rw[bH];decide,λp M=>?_⟩;generalize c2:upd H3 p _=H4;obtain⟨j,N⟩:=xc c2 M;have i:=k.trans j;have R3:=R2.same i;refine⟨_,Y,ye R3.ix F.cl F.n5 Y Y ⟨a.gi,_,Y,R3.hg,λr3 J=>?_⟩⟩;generalize c3:upd H4 r3 _=H5;obtain⟨B,e4⟩:=xc c3 J;refine⟨r3,a.gi,s.gi,Y,e4,B _ _ R3.hg,(by have:=jp s.gi;lia),λg zs I H6 s6 fg f ps ri mi=>⟨by show 3<=Bb;rw[bH];decide,λm d=>?_⟩⟩;have A:=sX (o:=HO.tup [V.ref p,V.ref l,V.ref g]) m d;have n:=(B.trans s6).trans A;have e:H4 g=ak:=zJ B fg;refine q2 m (.ref p) l g I _ ho (c.trans (q.trans (i.trans n))) nl (zJ (c.trans (q.trans i)) e) (λz=>by rw[<-z,i _ _ u] at e;cases e) zh ?_ ⟨ys,(i.trans n) _ _ u,Xz (i.trans n) pn⟩ ⟨zs,A _ _ f,Xz A ps⟩ ?_
   .unfold zg2;rw[hw];exact⟨p,y,Y,n _ _ N,n _ _ (j _ _ O)⟩
   .unfold qW;rw[hw];exact⟨ri,mi⟩
theorem Km{e:List V}{_E:XK}(F:RnF K t)(h:vO t e H Q _E) :
  Xp K t (sS Q) (L2.start ["self","place","worth"] e) H:=by
 obtain⟨x,q,p,w,a,C,s,rfl,R,b,m,k⟩:=h;have c:tz H a.gi (.ref q) ((zE s.gi p).map V.int):=.inr ⟨sY s.gi,zC p,q,.inl R.hg,Y,b,(wA _ _).symm⟩;have d:tz H a.no (.ref q) ((zE s.no p).map V.int):=.inr ⟨sY s.no,zC p,q,.inl R.hn,Y,b,(wA _ _).symm⟩;unfold kF Jb at k;cases hg:zE s.gi p with
 |some i =>
  rw[hg,ap (.inl Y)] at k;rw[hg] at c;exact⟨_,Y,ye R.ix F.cl F.n5 Y Y ⟨a.gi,_,Y,c,_,Y,ym Y (ye R.ix F.cl F.n5 Y Y ⟨_,Y,a.gi,_,Y,c,k H (.of_same λ_ _ z=>z) R⟩)⟩⟩
 |none =>
  rw[hg] at k c;refine⟨_,Y,ye R.ix F.cl F.n5 Y Y ⟨a.gi,_,Y,c,_,Y,zV Y ⟨_,Y,ye R.ix F.cl F.n6 Y Y ⟨a.no,_,Y,d,_,Y,?_⟩⟩⟩⟩;cases ho:zE s.no p with
  |some i =>
   rw[ho,ap (.inr Y)] at k;rw[ho] at d;exact zV Y (ye R.ix F.cl F.n6 Y Y ⟨_,Y,a.no,_,Y,d,k H (.of_same λ_ _ z=>z) R⟩)
  |none =>
   rw[ho,am (λz=>z.elim () λz=>nomatch z)] at k;have l:=jp s.no;have j:yJ (sY s.no) (zC p) (V.int w)=sY (s.no++[(p,w)]):=(Zc s.no (p,w)).symm;have g:=DPut.t (k:=zC p) (v:=V.int w) R.hn b (bT (by lia:_<=900) ());rw[j] at g;have R2:=R.putO (s.no++[(p,w)]);have f:Kp x a H (upd H a.no (.dT (sY (s.no++[(p,w)])))):=wS (.inr (.inr (.inr (.inl Y))));refine ym Y ⟨_,Y,ye R.ix F.cl F.n6 Y Y ⟨_,Y,a.no,_,Y,g,ye R2.ix F.cl F.n6 Y Y ⟨_,Y,a.no,V.int w,Y,?_,k _ f R2⟩⟩⟩;refine .inr ⟨_,zC p,q,.inl R2.hn,Y,f _ _ (R.notup b) b,?_⟩;rw[wA,zcw];rfl
end
theorem Kn{u:List V}{_E:XK}(h:xS u H Q _E) :
  Xq K t (sS Q) (L2.start ["ranks_at","place","rank","ranks"] u) H:=by
 obtain⟨rk,l,d,G,P,k,j,rfl,f,x,n,w,q⟩:=h;rcases f.get j with ⟨a,rs,hk,hv,fa,ha,hs,hne,hi⟩|⟨_,_,hn⟩
 .have s:d∈rs:=(hi d).mpr w;have E:=zbv f ha;refine⟨_,Y,_,Y,rk,.ref a,Y,(by rw[<-hv];exact .t f.at_ n),_,Y,.inl ⟨Y,_,aQ.of ha⟩,_,Y,a,rs,d,Y,Y,ha,s,_,Y,(),λz C=>?_⟩;have v:=(mt.refl (G:=G) (rk:=rk) (H:=H)).lst (ys:=(rs.erase d).map V.int) ha fa;have y:Dm H (upd H a (.lst ((rs.erase d).map V.int))):=Dm.upd λ_ z=>nomatch z
  have B:l≠a:=zM n ha ();have m:upd H a (.lst ((rs.erase d).map V.int)) l=U (.tup ((zC j).map kV)):=by rw[zi B];exact n
  have i:upd H a (.lst ((rs.erase d).map V.int)) rk=U (.dT k):=by rw[zi E];exact f.at_
  generalize c_:upd _ z _=H3;obtain⟨c,A⟩:=xc c_ C;refine⟨a,z,_,Y,Y,aQ.of (c _ _ zh),aQ.of A,_,Y,?_⟩;by_cases e:rs.erase d=[]
  .refine ym (Bj (by rw[e];rfl)) ⟨_,Y,rk,Y,.inr ⟨_,.inl (c _ _ i)⟩,_,Y,k,zC j,l,_,c _ _ i,Y,c _ _ m,hv,q _ (yz k (zC j)) ((v.same c).dct _) (y.trans ((Dm.of_same c).trans (Dm.upd λ_ z=>nomatch z))) ?_⟩;refine(f.out2 (us:=(rs.erase d).map V.int) hk ha hs hi e λp r=>sC).keep x (λb o I g=>?_) (λ_ z=>z);by_cases hb:b=rk
   .subst hb;rw[zh] at g ⊢;exact g
   .rw[zi hb] at g ⊢;exact c _ _ g
  .refine zV (Bk λz=>e (pH.mp z)) ?_;exact q _ k (v.same c) (y.trans (Dm.of_same c)) ((f.out1 hk ha hs hi e λp r=>sC).keep x (λb o _ g=>c _ _ g) (λ_ z=>z))
 .exact absurd w (hn d)
theorem zdy{m w dx gr wo rk:D}{n C:Int}{s:List V}{F:D->Prop}{P:Pl->Int->Prop}{gs:List aN}{kk:List (List aU×V)}{A:Option V}(MF:MkF K t)(hm:H m=U (.ins t.q02 dx (YL gr C wo rk)))(hL:H w=U (.lst s))(nL:¬ F w)(hy:Paired (zcp H) s (sY gs))(B:(gs.map (·.1)).Nodup)(hP:∀r∈gs,P r.1 n)(G:sU H rk F P kk)(fk:F rk) (q:∀l f,mt F rk H l->Dm H l->sU l rk F (λp r=>P p r/\¬ (r=n/\p∈gs.map (·.1))) f->Q .non l) :
  vp K t (sS Q) [U (.ref m),U (.int n),U (.ref w),A] H:=by
 have mr:m≠rk:=zM hm G.at_ ();have ly:s.length=gs.length:=by rw[bL hy,X9 B,bg]
 refine⟨_,Y,w,Y,⟨_,aQ.of hL⟩,yM s (taI m w rk n s F P gs H) ⟨⟨_,Y⟩,mt.refl,Dm.refl,kk,G.eqv λp r=>by simp⟩ (λi T l ⟨_,k,_⟩=>aQ.of (k _ _ hL (λz=>nL (by rw[z];exact fk)) (.inr nL))) ?_ ?_⟩
 .rintro i u T l hu ⟨⟨A,rfl⟩,k,O,f,h⟩;obtain⟨kv,v,p,rfl,x⟩:=Paired.getP hy hu;rw[X9 B,bA] at v;obtain⟨g,o,rfl⟩:=b7.mp v;have x:H p=U (.tup ((zC g.1).map kV)):=x;have I:l p=U (.tup ((zC g.1).map kV)):=k _ _ x (zM x G.at_ ()) (.inl λ_ z=>nomatch z);have M:=k _ _ hm mr (.inl λ_ z=>nomatch z);have J:g.1 ∉ (gs.take i).map (·.1):=λz=>by
   obtain⟨j,y⟩:=cy z;rw[bA,dq] at y;split at y
   .rename_i hji;have a1:(gs.map (·.1))[j]?=U g.1:=by rw[bA];exact y
    have a2:(gs.map (·.1))[i]?=U g.1:=by rw[bA,o];rfl
    have:=(gI (bn.mp a1).1 B).mp (a1.trans a2.symm);lia
   .cases y
  have N:∀p r,((P p r/\¬ (r=n/\p∈(gs.take i).map (·.1)))/\¬ (r=n/\p=g.1))↔(P p r/\¬ (r=n/\p∈(gs.take (i+1)).map (·.1))):=λp r=>by
   rw[cH,o,bR,bu];have:p∈nF (·.1) (U g).toList↔p=g.1:=by simp
   rw[this];exact⟨λ⟨⟨a,b⟩,c⟩=>⟨a,λd=>d.2.elim (λe=>b ⟨d.1,e⟩) λe=>c ⟨d.1,e⟩⟩,λ⟨a,b⟩=>⟨⟨a,λc=>b ⟨c.1,.inl c.2⟩⟩,λc=>b ⟨c.1,.inr c.2⟩⟩⟩
  refine ye M MF.cl MF.r Y zhh ⟨_,Y,_,Y,rk,p,n,F,_,f,g.1,Y,h,fk,I,⟨hP g (bN o),λz=>J z.2⟩,λH2 E k2 d2 r2=>⟨⟨_,Y⟩,k.trans k2,O.trans d2,E,r2.eqv N⟩⟩
 .rintro T l ⟨⟨A,rfl⟩,k,O,f,h⟩;rw[ly,cx] at h;exact q l f k O h
theorem Z5{v:List V}{_E:XK}(A:MkF K t)(h:yG t v H Q _E) :
  ja K t (sS Q) (L2.start ["self","rank"] v) H:=by
 obtain⟨m,ac,F,g,i,G,rfl,s,q⟩:=h;obtain⟨dx,gr,B,rk,N,T,M⟩:=s.ex;refine ye M.im A.cl A.w Y zhg ⟨B,Y,.inl ⟨_,.inl M.hw⟩,_,Y,λp I=>?_⟩;generalize c_:upd _ p _=H1;obtain⟨f,E⟩:=xc c_ I;have M1:=M.keep s.me λb o _ e=>f _ _ e;by_cases hin:ac∈i.map (·.1)
 .obtain⟨y,x,u⟩:=bB.mp hin;obtain⟨w,z⟩:=y;have u:w=ac:=u;subst u;obtain⟨d,C,fd,O,J⟩:=Q5 M1.wp s.nd x;have n:=tz.k (k:=.inl w) M1.hw;rw[C] at n;refine⟨_,n,d,sY z,Y,J,λl a j r=>?_⟩;have c:=sX (o:=HO.lst a) l j;exact q l a z _ (f.trans c) (zJ f j) zh (Paired.mapP r λ_ _ ⟨p,e,h⟩=>⟨p,e,c _ _ h⟩) (.inl x)
 .have n:=tz.k (k:=.inl ac) M1.hw;rw[Q6 M1.wp hin] at n;refine⟨_,n,p,[],Y,E,λl a j r=>?_⟩;have c:=sX (o:=HO.lst a) l j;exact q l a [] _ (f.trans c) (zJ f j) zh (Paired.mapP r λ_ _ ⟨p,e,h⟩=>⟨p,e,c _ _ h⟩) (.inr ⟨hin,Y⟩)
theorem Z6{vs:List V}{_E:XK}(N:MkF K t)(h:xq t vs H Q _E) :
  jd K t (sS Q) (L2.start ["self","rank","places","place"] vs) H:=by
 obtain⟨m,ac,F,g,lays,aa,rfl,a,q⟩:=h;obtain⟨dx,gr,wo,rk,l,kk,M⟩:=a.ex;refine ji M.im Y (kH ()) ⟨_,Y,m,ac,F,g,lays,aa,Y,a,λBo ys gs A f fL hL B ho=>?_⟩;have M1:=M.keep a.me λb o _ e=>f _ _ e;have u:∀y∈JW lays ac,0<=y.1/\W3 y.2:=λy B=>a.ok y (b8.mp B).1;have w:((JW lays ac).map (·.1)).Nodup:=iu (gb _ cY) a.nd;have nL:¬ F Bo:=λz=>by obtain⟨o,e⟩:=a.own Bo z;rw[fL] at e;cases e
 have j:∀ {I:Hp},Dm A I->∀b,F b->∃o,I b=U o:=λG b hb=>by
  obtain⟨o,e⟩:=a.own b hb;obtain⟨o',e',_⟩:=G b o (f _ _ e);exact⟨o',e'⟩
 refine ye M1.im N.cl N.w Y zhg ⟨wo,Y,.inl ⟨_,.inl M1.hw⟩,_,Y,l,.inl ac,M1.hw,Y,λv E=>?_,λE=>?_⟩
 .have i:ac∈lays.map (·.1):=fJ λz=>by rw[Q6 M1.wp z] at E;cases E
  have x:(ac,gs)∈lays:=ho.resolve_right λz=>z.1 i;have T:=(a.ok _ x).2;have wm:m≠wo:=zM M1.im M1.hw ();have wg:gr≠wo:=zM M1.hg M1.hw ();have wr:rk≠wo:=zM M1.rr.at_ M1.hw ();have c:∀b o,b≠wo->A b=U o->upd A wo (HO.dK (yz l (.inl ac))) b=U o:=λb o n e=>by rw[zi n];exact e
  have w2:upd A wo (HO.dK (yz l (.inl ac))) wo=U (HO.dK (yz l (.inl ac))):=zh;have d2:Dm A (upd A wo (HO.dK (yz l (.inl ac)))):=Dm.upd λ_ z=>nomatch z
  generalize upd A wo (HO.dK (yz l (.inl ac)))=I at *
  have C:sU I rk F (v5 lays) kk:=M1.rr.keep2 (by rw[c _ _ wr M1.rr.at_,M1.rr.at_]) (λb xs _ e=>c _ _ (zM e M1.hw ()) e) (λ_ z _=>z);refine zdy N (c _ _ wm M1.im) (c _ _ (zM hL M1.hw ()) hL) nL (Paired.mapP B λ_ _ ⟨p,e,h⟩=>⟨p,e,c _ _ (zM h M1.hw ()) h⟩) T.nd (λr hr=>⟨gs,x,bq hr⟩) C M.fk λH' ag k G s=>?_;have O:Paired (zbj I rk F) (yz l (.inl ac)) (JW lays ac):=Paired.mapP (Q7 M1.wp) λ_ _ ⟨e,d,e2,fd,nd,hd⟩=>⟨e,d,e2,fd,nd,c _ _ (zM hd M1.hw ()) hd⟩;refine q H' F (λb o J e=>Qi M.fk k b o J (c _ _ (λz=>J (by rw[z];exact M.fw)) (f _ _ e))) (λb zs e=>k _ _ (c _ _ (zM (f _ _ e) M1.hw ()) (f _ _ e)) (zM (f _ _ e) M1.rr.at_ ()) (.inl λ_ z=>nomatch z)) ?_ (λ_ z=>.inl z) λ_ z=>z;exact zfV a.me M.fg M.fw M.fk M.nr (c _ _ wm M1.im) (c _ _ wg M1.hg) w2 ⟨_,C.at_⟩ O k (j (d2.trans G)) (s.eqv (zfW a.nd x)) w u
 .have i:ac ∉ lays.map (·.1):=λz=>by
   obtain⟨y,B,ey⟩:=bB.mp z;obtain⟨r',gs⟩:=y;have ey:r'=ac:=ey;subst ey;obtain⟨d,v1,_⟩:=Q5 M1.wp a.nd B;rw[v1] at E;cases E
  have eg:gs=[]:=(ho.resolve_left λz=>i (bB.mpr ⟨_,z,Y⟩)).2;subst eg;rw[zhj i] at u w q;refine zdy (gs:=[]) N M1.im hL nL B cz (λr hr=>nomatch hr) M1.rr M.fk λH' ag k G s=>?_;refine q H' F (λb o J e=>Qi M.fk k b o J (f _ _ e)) (λb zs e=>k _ _ (f _ _ e) (zM (f _ _ e) M1.rr.at_ ()) (.inl λ_ z=>nomatch z)) ?_ (λ_ z=>.inl z) λ_ z=>z;exact zfV a.me M.fg M.fw M.fk M.nr M1.im M1.hg M1.hw ⟨_,M1.rr.at_⟩ M1.wp k (j G) (s.eqv λp r=>by simp) w u
theorem zgj{Bp:qT}{gv d m dx gr wo rk:D}{f B:Int}{G:D->Prop}{a:List aN}{l:List (Int×List aN)}{kk:List (List aU×V)}(MF:MkF K t)(hm:H m=U (.ins t.q02 dx (YL gr B wo rk)))(hd:H d=U (.dT (sY a)))(dr:d≠rk)(gf:W3 a)(hr:sU H rk G (v5 l) kk)(aj:f ∉ l.map (·.1))(ok:∀y∈l,W3 y.2)(hl:l.length<=200)(gk:G rk)(gn:∀b,H b=ak->G b) (q:∀c T g,mt G rk H c->(∀b o,H b=U o->∃o',c b=U o')->sU c rk G (λp r=>v5 l p r\/(r=f/\p∈a.map (·.1))) g->Zx K t Bp [U (.ref m),U (.int f),U (.ref gv),U (.ref d),T] c) :
  Zy K t Bp [U (.ref m),U (.int f),U (.ref gv),U (.ref d),ak] H:=by
 have mr:m≠rk:=zM hm hr.at_ ();have md:m≠d:=zM hm hd ();refine⟨d,_,sY a,hd,.inl Y,λu=>?_⟩;have f0:upd H d (.frz u (.dT (sY a))) d=U (.frz u (.dT (sY a))):=zh;have aa:sU (upd H d (.frz u (.dT (sY a)))) rk G (v5 l) kk:=hr.keep2 (by rw[zi dr.symm]) (λb xs _ e=>by rw[zi (zM e hd ())];exact e) (λ_ z _=>z);have an:upd H d (.frz u (.dT (sY a))) m=U (.ins t.q02 dx (YL gr B wo rk)):=by rw[zi md];exact hm
 have d0:Dm H (upd H d (.frz u (.dT (sY a)))):=Dm.upd λ_ z=>nomatch z
 have O:∀ {c},mt G rk (upd H d (.frz u (.dT (sY a)))) c->mt G rk H (upd c d (.dT (sY a))):=λ{c} k b o e n z=>by
  by_cases eb:b=d
  .subst eb;rw[zh,<-hd];exact e
  .rw[zi eb];exact k b o (by rw[zi eb];exact e) n z
 have a3:∀b,upd H d (.frz u (.dT (sY a))) b=ak->G b:=λb e=>gn b (by
  by_cases eb:b=d
  .subst eb;rw[zh] at e;cases e
  .rw[zi eb] at e;exact e)
 generalize upd H d (.frz u (.dT (sY a)))=H0 at *
 have kd:∀ {c},mt G rk H0 c->c d=U (.frz u (.dT (sY a))):=λ{c} k=>k _ _ f0 dr (.inl λ_ z=>nomatch z);refine⟨_,Y,d,u,sY a,Y,f0,zch (lyI m gv d rk f G (v5 l) a H0) ⟨⟨_,Y⟩,mt.refl,Dm.refl,kk,aa.eqv λp r=>by simp⟩ (λi σ c ⟨_,k,_⟩=>kd k) ?_ ?_⟩
 .rintro i k v p σ c I hp ⟨⟨T,rfl⟩,w,dm,g,s⟩;rw[X9 gf.nd,bA] at I;obtain⟨h,C,er⟩:=b7.mp I;cases er;have ar:=w _ _ an mr (.inl λ_ z=>nomatch z);have E:h.1 ∉ (a.take i).map (·.1):=λz=>by
   obtain⟨j,hj⟩:=cy z;rw[bA,dq] at hj;split at hj
   .rename_i hji;have a1:(a.map (·.1))[j]?=U h.1:=by rw[bA];exact hj
    have a2:(a.map (·.1))[i]?=U h.1:=by rw[bA,C];rfl
    have:=(gI (bn.mp a1).1 gf.nd).mp (a1.trans a2.symm);lia
   .cases hj
  have az:∀p r,((v5 l p r\/(r=f/\p∈(a.take i).map (·.1)))\/(r=f/\p=h.1))↔(v5 l p r\/(r=f/\p∈(a.take (i+1)).map (·.1))):=λp r=>by
   rw[cH,C,bR,bu];have:p∈nF (·.1) (U h).toList↔p=h.1:=by simp
   rw[this,and_or_left,or_assoc]
  have al:¬ (v5 l h.1 f\/(f=f/\h.1∈(a.take i).map (·.1))):=λz=>z.elim (λ⟨g2,N,_⟩=>aj (bB.mpr ⟨_,N,Y⟩)) λy=>E y.2;have kl:g.length<=18900:=zfX (l:=(f,a)::l) s (λp r z=>z.elim (λ⟨g2,N,M⟩=>⟨g2,br _ N,M⟩) λ⟨e,M⟩=>⟨a,by rw[e];exact bt,(by
   obtain⟨x,hx,rfl⟩:=bB.mp M;exact bq (dH hx))⟩) (λy hy=>by
   rcases bE.mp hy with rfl|hy
   .exact gf
   .exact ok y hy) (by rw[bU];lia)
  have aS:∀b,c b=ak->G b:=λb e=>a3 b (by
   cases e0:H0 b with
   |none=>rfl
   |some o=>obtain⟨o',e',_⟩:=dm b o e0;rw[e] at e';cases e')
  have ai:∀A:List Int,A.Pairwise (· < ·)->(∀r∈A,v5 l h.1 r\/(r=f/\h.1∈(a.take i).map (·.1)))->A.length<=300:=λA hs J=>by
   have rl:A.length<=((f,a)::l).length:=ziG (p:=h.1) hs λr hr=>(J r hr).elim (λ⟨g2,N,M⟩=>⟨g2,br _ N,M⟩) λy=>absurd y.2 E;rw[bU] at rl;lia
  exact ye ar MF.cl MF.r Y zhh ⟨_,Y,_,Y,rk,p,f,G,_,g,h.1,Y,s,gk,aS,hp,al,kl,ai,λH2 ag k2 d2 r2=>⟨⟨_,Y⟩,w.trans k2,dm.trans d2,ag,r2.eqv az⟩⟩
 .rintro σ c ⟨⟨T,rfl⟩,w,dm,g,s⟩;rw[X9 gf.nd,bg,cx] at s;have D2:Dm H (upd c d (.dT (sY a))):=(d0.trans dm).trans (Dm.upd λ_ z=>nomatch z);refine⟨kd w,q _ T g (O w) (λb o e=>let ⟨o',e',_⟩:=D2 b o e;⟨o',e'⟩) (s.keep2 (by rw[zi dr.symm]) (λb xs _ e=>by rw[zi (zM e (kd w) ())];exact e) (λ_ z _=>z))⟩
theorem zgk{m gv:D}{ac A:Int}{F:D->Prop}{g:List aN}{a:List (Int×List aN)}{gs:List aN}(MF:MkF K t)(h1:tL t H m F g a A)(h2:A<=ac)(a3:0<=ac)(h3:tq H gv gs)(a1:¬ F gv)(h4:W3 gs)(h5:a.length<=200)(q:∀H' F',(∀b o,¬ F b->H b=U o->H' b=U o)->(∀b zs,H b=U (.tup zs)->H' b=U (.tup zs))->tL t H' m F' g (xl a ac gs) A->(∀b,F' b->F b\/H b=ak)->(∀b,F b->F' b)->Q .non H') :
  qu K t (sS Q) (L2.start ["self","rank","gifts","worths","place"] [.ref m,.int ac,.ref gv]) H:=by
 obtain⟨dx,gr,wo,rk,B,kk,M⟩:=h1.ex;refine ji M.im Y (kH ()) ⟨_,Y,m,_,_,_,_,Y,M.im,zjl,h2,λH1 s=>?_⟩;have M1:=h1.keep (H':=H1) λb o _ e=>s _ _ e;refine ji (s _ _ M.im) Y (kH ()) ⟨_,Y,m,ac,F,g,a,A,Y,M1,λH2 F2 T C w aj ai=>?_⟩;clear M B kk gr wo rk dx;obtain⟨xs,hx,hp⟩:=h3;have az:=T _ _ a1 (s _ _ hx);have aS:Paired (PrAt H2) xs gs:=Paired.mapP hp λ_ _ ⟨r,p,e,e1,j⟩=>⟨r,p,e,C _ _ (s _ _ e1),C _ _ (s _ _ j)⟩;refine⟨_,Y,gv,xs,gs,Y,az,aS,by have:=h4.le;lia,λd hd=>?_⟩;generalize c_:upd _ d _=H3;obtain⟨s3,q3⟩:=xc c_ hd;obtain⟨dx,gr,wo,rk,B,kk,M2⟩:=w.ex;have i:=M2.keep w.me λb o _ e=>s3 _ _ e;have an:¬ F2 d:=λz=>by obtain⟨o,e⟩:=w.own d z;rw[hd] at e;cases e
 have dr:d≠rk:=λz=>an (by rw[z];exact M2.fk);have hl:(JW a ac).length<=200:=bO (on _ _) h5;have O:∀b,H2 b=ak->H b=ak:=λb e=>by
  cases j:H b with
  |none=>rfl
  |some o =>
   exfalso;by_cases fb:F b
   .obtain⟨o',e'⟩:=w.own b (ai b fb);rw[e] at e';cases e'
   .have:=T _ _ fb (s _ _ j);rw[e] at this;cases this
 refine zgj (G:=λb=>F2 b\/H2 b=ak) MF i.im q3 dr h4 (i.rr.keep (F':=λb=>F2 b\/H2 b=ak) i.fk (λb o _ e=>e) (λ_ z=>.inl z)) Jr (λy hy=>(w.ok y hy).2) hl (.inl M2.fk) (λb e=>.inr (zJ s3 e)) λH4 o4 ar I dm v=>?_;have J:=I _ _ i.im (zM i.im i.rr.at_ ()) (.inl λ_ z=>nomatch z);have c:=I _ _ i.hw (zM i.hw i.rr.at_ ()) (.inl λ_ z=>nomatch z);have ag:=I _ _ i.hg i.nr (.inl λ_ z=>nomatch z);have N:=I _ _ q3 dr (.inl λ_ z=>nomatch z);have wl:B.length<=200:=by rw[bL M2.wp];exact hl
 refine⟨_,Y,ye J MF.cl MF.w Y zhg ⟨_,Y,wo,_,Y,(.k (k:=.inl ac) c (by rw[bH];lia)),?_⟩⟩;rw[ve _ (Q6 i.wp Jr)];have mw:m≠wo:=zM J c ();have gw:gr≠wo:=zM ag c ();have al:rk≠wo:=zM v.at_ c ();have dw:d≠wo:=zM N c ();have u:∀b o,b≠wo->H4 b=U o->upd H4 wo (HO.dK (B++[(.inl ac,V.ref d)])) b=U o:=λb o n e=>by rw[zi n];exact e
 have w5:upd H4 wo (HO.dK (B++[(.inl ac,V.ref d)])) wo=U (HO.dK (B++[(.inl ac,V.ref d)])):=zh;have a4:∀b o,H3 b=U o->∃o',upd H4 wo (HO.dK (B++[(.inl ac,V.ref d)])) b=U o':=λb o e=>by
  by_cases eb:b=wo
  .subst eb;exact⟨_,w5⟩
  .obtain⟨o',e'⟩:=dm b o e;exact⟨o',u _ _ eb e'⟩
 generalize upd H4 wo (HO.dK (B++[(.inl ac,V.ref d)]))=H5 at *
 refine q H5 (λb=>F2 b\/(H2 b=ak/\∃o,H5 b=U o)) (λb o nf e=>?_) (λb zs e=>?_) ?_ (λb z=>?_) λb z=>.inl (ai b z)
 .have j:=T _ _ nf (s _ _ e);have E:¬ F2 b:=λz=>(aj b z).elim nf λy=>by rw[s _ _ e] at y;cases y
  have nr:b≠rk:=λz=>E (by rw[z];exact M2.fk);have nw:b≠wo:=λz=>E (by rw[z];exact M2.fw);exact u _ _ nw (I _ _ (s3 _ _ j) nr (.inr λz=>z.elim E λy=>by rw[j] at y;cases y))
 .have j:=s3 _ _ (C _ _ (s _ _ e));have e4:=I _ _ j (zM j i.rr.at_ ()) (.inl λ_ z=>nomatch z);exact u _ _ (zM e4 c ()) e4
 .refine⟨λb z=>z.elim (λf=>let ⟨o,e⟩:=w.own b f;a4 b o (s3 _ _ e)) λy=>y.2,.inl w.me,?_,?_,dx,gr,wo,rk,_,ar,u _ _ mw J,.inl M2.fg,.inl M2.fw,.inl M2.fk,M2.nr,u _ _ gw ag,w5,?_,?_⟩
  .unfold xl;rw[bR,cQ];refine⟨w.nd,by simp,λx hx y hy=>?_⟩;have:y=ac:=by simpa using hy
   rw[this];exact λz=>Jr (l:=a) (r:=ac) (by have h:=hx;rw[z] at h;exact h)
  .intro y hy;rcases bu.mp hy with hy|hy
   .exact w.ok y hy
   .rw[bo.mp hy];exact⟨a3,h4⟩
  .refine Paired.snocP (Paired.mapP i.wp λ_ _ ⟨e,d',j,fd,aa,a2⟩=>?_) ⟨Y,d,Y,.inr ⟨hd,_,u _ _ dw N⟩,dr,u _ _ dw N⟩;have e4:=I _ _ a2 aa (.inl λ_ z=>nomatch z);exact⟨e,d',j,.inl fd,aa,u _ _ (zM e4 c ()) e4⟩
  .refine(v.keep2 (F':=λb=>F2 b\/(H2 b=ak/\∃o,H5 b=U o)) ((u _ _ al v.at_).trans v.at_.symm) (λb xs _ e=>u _ _ (zM e c ()) e) (λb z ex=>z.imp id λy=>⟨y,ex⟩)).eqv λp r=>?_;unfold xl;constructor
   .rintro(⟨g2,h6,h7⟩|⟨rfl,h7⟩)
    .exact⟨g2,cr _ h6,h7⟩
    .exact⟨gs,bK _ (bo.mpr Y),h7⟩
   .rintro⟨g2,h6,h7⟩;rcases bu.mp h6 with h6|h6
    .exact .inl ⟨g2,h6,h7⟩
    .cases bo.mp h6;exact .inr ⟨Y,h7⟩
 .rcases z with z|z
  .exact(aj b z).imp id λy=>zJ s y
  .exact .inr (O b z.1)
theorem JG{j:List V}{_E:XK}(a:MkF K t)(h:wZ t j H Q _E) :
  jT K t (sS Q) (L2.start ["self","table"] j) H:=by
 obtain⟨x,h,G,s,rfl,l,E,J,q⟩:=h;obtain⟨v,B,C⟩:=E;obtain⟨I,P,_⟩:=PO.init l ⟨_,l⟩;unfold jT zo;refine⟨_,Y,h,v,s,Y,B,C,(),P.so (.dT (sY s)) 4 () () Y a.cl a.g () λm O A P=>P.st Y a.cl a.f (by show 1<1000;decide) λN P=>P.so (.dK []) 5 () () Y a.cl a.w (by show 2<1000;decide) λi M w P=>P.so (.dT []) 6 () () Y a.cl a.r (by show 3<1000;decide) λrk u d P=>?_⟩;have f:∀n c o,(n,c,o)∈_->u c=U o/\d c=n:=λn c o z=>(P.ob (n,c,o) z).2;have g:=f 6 rk _ (.head _);have k:=f 5 i _ (.tail _ (.head _));have e:=f 4 m _ (.tail _ (.tail _ (.head _)));refine q u (λb=>d b≠0) P.kp ⟨P.ow,(by rw[P.lx];decide),cz,(λ_ h=>(nomatch h)),G,m,i,rk,[],[],P.hx,(by rw[e.2];decide),(by rw[k.2];decide),(by rw[g.2];decide),(λz=>by rw[z,g.2] at e;exact absurd e.2 ()),e.1,k.1,.nil,g.1,cz,cz,λ_ h=>(nomatch h),λp r ⟨_,h,_⟩=>(nomatch h)⟩ λb z=>?_;rcases P.fr b z with y|y|y
 .exact .inl y
 .exact .inl y
 .exact .inr y
theorem Ko{m e:D}{h:Int}{F:D->Prop}{g:List aN}{a:List (Int×List aN)}{f:List aN}(s:MkF K t)(r:tF t H m F g a)(k:0<=h)(p:tq H e f)(d:¬ F e)(n:W3 f)(l:a.length<=200)(q:∀c i,(∀b o,¬ F b->H b=U o->c b=U o)->(∀b j,H b=U (.tup j)->c b=U (.tup j))->tF t c m i g (xl a h f)->(∀b,i b->F b\/H b=ak)->(∀b,F b->i b)->Q .non c) :
  qu K t (sS Q) (L2.start ["self","rank","gifts","worths","place"] [.ref m,.int h,.ref e]) H:=zgk s r k k p d n l q
theorem vH{p:Prop} [Decidable p]{A B:Prop}(a:p->A)(b:¬ p->B):if decide p=ah then A else B:=by
 by_cases h:p
 .exact ym (Bj h) (a h)
 .exact zV (Bk h) (b h)
theorem zaj{i:Int}(d:zg0 K)(q:∀b,aJ H b->Q (.bl (tw i)) b) :
  Zu K t (sS Q) (L2.start ["thing"] [.int i]) H:=by
 have q:=q H (aJ.refl H);unfold Zu zo zR tOr XS;have a:(10:Int)^(30:Int).toNat=1000000000000000000000000000000:=by lia
 refine jg Y (.int i) (vq _) (zV Y (jg Y (.int i) d (zV Y ⟨_,_,Y,Y,zfJ () (),_,Y,_,Y,_,_,Y,Y,_,Y,vH (λc=>⟨_,_,Y,Y,zfJ () (),_,_,Y,Y,?_⟩) λc=>?_⟩)))
 .rw[a] at c ⊢;have e:tw i=decide (i<=1000000000000000000000000000000):=by
   unfold tw;by_cases h:i<=1000000000000000000000000000000
   .rw[Bj h,Bj ⟨c,h⟩]
   .rw[Bk h,Bk λz=>h z.2]
  rw[e] at q;exact q
 .rw[a] at c;have e:tw i=ao:=Bk λz=>c z.1;rw[e] at q;exact q
theorem zbH{d:List V}{E:XK}(h:qk t d H Q E) :
  Jd K t E (sS Q) (L2.start ["word","first","second"] d) H:=by
 obtain⟨w,a,b,rfl,g,i,f,q⟩:=h;have q:=q H (aJ.refl H);have B:=QJ f;refine⟨_,Y,Y,_,Y,vH (λc=>?_) λc=>?_⟩
 .rw[ap (V.int.inj c)] at q;exact⟨_,Y,_,Y,(),λy=>⟨by show 1<=Bb;rw[bH];decide,q⟩⟩
 .have c:b≠0:=λz=>c (congrArg V.int z);rw[am c] at q;refine⟨_,Y,Y,_,Y,vH (λe=>?_) λe=>?_⟩
  .rw[ap (V.str.inj e)] at q;exact⟨_,Y,_,Y,_,_,Y,Y,⟨c,B⟩,q⟩
  .rw[am λz=>e (congrArg V.str z)] at q;exact⟨_,Y,_,Y,_,_,Y,Y,c,q⟩
theorem zbI{l:List V}{E:XK}(h:ql t l H Q E) :
  Je K t E (sS Q) (L2.start ["word","first","second"] l) H:=by
 obtain⟨w,a,b,rfl,o,n,m,q⟩:=h;have A:=QJ n;have B:=QJ m;have g:¬ VE w->Q (.int (VD w a b)) H:=λh=>by
  have q:=q H (aJ.refl H);rw[am λz=>h z.1] at q;exact q
 unfold VD at g q;refine⟨_,Y,Y,_,Y,vH (λc=>?_) λe=>⟨_,Y,Y,_,Y,vH (λc=>?_) λf=>⟨_,Y,Y,_,Y,vH (λc=>?_) λi=>⟨_,Y,Y,_,Y,vH (λc=>?_) λj=>⟨_,Y,Y,_,Y,vH (λc=>?_) λk=>?_⟩⟩⟩⟩⟩
 .cases c;exact⟨_,Y,_,Y,_,_,Y,Y,by have q:=g λz=>z.1 rfl;rw[ap rfl] at q;exact q⟩
 .cases c;exact⟨_,Y,_,Y,_,_,Y,Y,by have q:=g λz=>z.2.1 rfl;rw[am (λz=>e (congrArg V.str z)),ap rfl] at q;exact q⟩
 .cases c;exact⟨_,Y,_,Y,_,_,Y,Y,⟨A,B⟩,by have q:=g λz=>z.2.2.1 rfl;rw[am (λz=>e (congrArg V.str z)),am (λz=>f (congrArg V.str z)),ap rfl] at q;exact q⟩
 .cases c;have q:=g λz=>z.2.2.2.1 rfl;rw[am (λz=>e (congrArg V.str z)),am (λz=>f (congrArg V.str z)),am (λz=>i (congrArg V.str z)),ap rfl] at q;refine⟨_,Y,_,Y,_,_,Y,Y,_,Y,vH (λd=>?_) λd=>?_⟩
  .rw[ap d] at q;exact q
  .rw[am d] at q;exact q
 .cases c;have q:=g λz=>z.2.2.2.2 rfl;rw[am (λz=>e (congrArg V.str z)),am (λz=>f (congrArg V.str z)),am (λz=>i (congrArg V.str z)),am (λz=>j (congrArg V.str z)),ap rfl] at q;refine⟨_,Y,_,Y,Y,_,Y,vH (λd=>?_) λd=>?_⟩
  .rw[ap (V.int.inj d)] at q;exact q
  .rw[am λz=>d (congrArg V.int z)] at q;exact q
 .have e:w≠"plus":=λz=>e (congrArg V.str z);have f:w≠"minus":=λz=>f (congrArg V.str z);have i:w≠"times":=λz=>i (congrArg V.str z);have j:w≠"under":=λz=>j (congrArg V.str z);have k:w≠"same":=λz=>k (congrArg V.str z);refine⟨_,Y,_,Y,_,Y,w,a,b,Y,o,n,m,λr s=>?_⟩;have q:=q r s;have p:VE w:=⟨e,f,i,j,k⟩;refine Y0 (λd=>?_) λd=>?_
  .rw[ap ⟨p,d⟩] at q;exact q
  .rw[am λz=>d z.2,am e,am f,am i,am j,am k] at q;exact q
theorem zcH{e:List V}{E:XK}(h:ZX t e H Q E) :
  Qb K t E (sS Q) (L2.start ["word","first","second","worth"] e) H:=by
 obtain⟨w,a,b,rfl,i,k,j,q⟩:=h;unfold kj at q;refine⟨_,Y,_,Y,_,Y,w,a,b,Y,i,k,j,λm f=>Y0 (λc=>?_) λc=>⟨_,Y,_,Y,λl g=>⟨_,Y,?_⟩⟩⟩
 .have q:=q m f;rw[ap c] at q;exact q
 .have q:=q l (f.trans g);rw[am c] at q;by_cases d:tw (VD w a b)=ah
  .rw[ap d] at q;exact zV (by rw[d];rfl) ⟨_,Y,q⟩
  .rw[am d] at q;exact ym (by rw[eD.mpr d];rfl) ⟨_,Y,_,Y,(),λy=>⟨by show 1<=Bb;rw[bH];decide,q⟩⟩
theorem Wf{b:List V}{_E:XK}(h:yk K b H Q _E) :
  qR K t (sS Q) (L2.start ["script","k"] b) H:=by
 obtain⟨a,c,k,rfl,d,m,g,q⟩:=h;refine⟨_,Y,_,Y,.ref a,c.length,Y,.inl ⟨_,d,(bg ..).symm⟩,_,_,Y,Y,_,Y,vH (λe=>?_) λe=>q _ _ (aJ.refl _) (Cb.of ())⟩;obtain⟨v,l,j⟩:=zbn (xs:=c.map V.int) (i:=(k:Int)) () (by rw[bg];lia);obtain⟨x,f,rfl⟩:=bB.mp j;exact⟨_,Y,_,Y,a,_,_,_,Y,Y,d,l,q _ _ (aJ.refl _) (g x f)⟩
theorem zbJ{v:V}{r:hU}(d:RlAt JR H v r)(c:W2 6 r)(e:(yc r 0).length<=500)(q:∀l b a,aJ H a->H l=ak->a l=U (.lst b)->Paired (tE a) b (yc r 0)->Q (.ref l) a) :
  Jm K t (sS Q) (L2.start ["rows"] [v]) H:=⟨_,Y,v,r,0,Y,d,c,(),q⟩
section
variable {E:XK}{x:D}{a:RAd}{C:List Cs}{s:aY}
theorem zak{c:List V}{_E:XK}(F:RnF K t)(h:xm t c H Q _E) :
  WI K t (sS Q) (L2.start ["self"] c) H:=by
 obtain⟨x,a,C,s,rfl,R,q⟩:=h;obtain⟨b,f,d⟩:=R.hc;have lx:=bL d;have q:=q H λ_ _ z=>z;refine(ye R.ix F.cl F.n3 Y Y ⟨Y,_,Y,?_⟩);cases hw:s.why with
 |some w =>
  have e:yH C s=ah:=by unfold yH;rw[hw];rfl
  rw[e] at q;exact ym Y q
 |none =>
  refine zV Y (ye R.ix F.cl F.n2 Y Y (ye R.ix F.cl F.n1 Y Y ⟨.ref a.co,b.length,Y,.inl ⟨_,aQ.of f,Y⟩,_,_,Y,Y,?_⟩));have e:yH C s=decide ((b.length:Int)<=(s.n:Int)):=by unfold yH;rw[hw,lx];simp
  rw[e] at q;exact q
theorem Wg{b:D}{e:List V}(F:RnF K t)(R:aX t H x a C s)(g:xg s.sl)(f:H b=U (.tup e))(c:bv e) (q:∀d,aJ H d->fin t (rk s.sl e) Q E d):qL K t E (sS Q) (L2.start ["self","term"] [.ref x,.ref b]) H :=
 ⟨_,Y,ye R.ix F.cl F.n4 Y Y ⟨s.sl,b,a.sl,e,_,Y,f,R.hs,c.good s.sl,c.2.1,c.2.2,g,q⟩⟩
theorem Wh{b:List V}(F:RnF K t)(h:yN t b H Q E) :
  qM K t E (sS Q) (L2.start ["self","due"] b) H:=by
 obtain⟨x,p,w,g,f,e,a,C,s,rfl,R,u,d,r,q,m,l,j,i⟩:=h;refine jR Y d r (ji R.ix Y Y (jR Y d q ⟨x,f,e,a,C,s,Y,R,u,m,l,λv c=>?_⟩));cases hk:rk s.sl e with
 |error er=>exact tY.mpr (i er v hk c)
 |ok n =>
  refine fin_ok.mpr ⟨by show 2<=Bb;rw[bH];decide,λp k=>?_⟩;exact j n p _ hk (c.trans (sX (o:=HO.tup [V.str g,V.int n]) p k)) zh
end
theorem Z7{m h:D}{b:List (Str×V)}{a c:Int}(d:MkF K t)(g:H m=U (.ins t.q02 h b))(f:b.lookup (bh "folded")=U (.int a))(i:a<=c)(q:∀e,aJ H e->Q .non e) :
  v7 K t (sS Q) (L2.start ["self","rank"] [.ref m,.int c]) H:=⟨_,Y,ye g d.cl d.f Y f ⟨_,_,Y,Y,_,Y,zV (Bk ()) (q H (aJ.refl H))⟩⟩
theorem Vh{c:List V}{_E:XK}(h:xj c H Q _E) :
  Zt K t (sS Q) (L2.start ["number"] c) H:=by
 obtain⟨n,rfl,f,e,q⟩:=h;have d:=zfJ (j:=30) () ();have a:(10:Int)^(30:Int).toNat=1000000000000000000000000000000:=by lia
 have b:(1000000007:Int)^(3:Int).toNat=1000000021000000147000000343:=by lia
 refine⟨_,Y,_,_,Y,Y,by show (0:Int)<4;decide,Y,_,Y,vH (λ_=>⟨_,Y,_,_,Y,Y,⟨(),(),()⟩,_,_,Y,Y,mB () () (by rw[b];lia) (by rw[b];lia),_,_,Y,Y,d,_,_,Y,Y,mB () () (by rw[a];lia) (by rw[a];lia),_,_,Y,Y,_,_,Y,Y,by rw[a];show (0:Int)<2*1000000000000000000000000000000+1;decide,_,_,Y,Y,d,_,_,Y,Y,?_⟩) λ_=>⟨_,Y,_,_,Y,Y,dB,_,_,Y,Y,by show (0:Int)<6;decide,_,_,Y,Y,q _ _ (uf.mpr ()) (aJ.refl _)⟩⟩;rw[a,b];exact q _ _ ziI (aJ.refl _)
theorem YR{b:List V}{_E:XK}(h:yA b H Q _E) :
  jI K t (sS Q) (L2.start ["word"] b) H:=by
 obtain⟨w,rfl,h,q⟩:=h;obtain⟨k,j,_⟩:=id h;refine⟨_,Y,by show 9<=Bb;rw[bH];decide,λp g=>⟨p,wl,Y,.inr (sW.of zh),Y,(),_,Y,?_⟩⟩;have e:=sX (o:=HO.tup wl) p g;have i:(bh "z").length=1:=by lia
 by_cases c:inV (.str w) wl=ah
 .exact ym c ⟨_,Y,_,_,Y,Y,xv (),q _ _ (zjm (by rw[zdm,c,Bool.or_true])) e⟩
 refine zV (eD.mpr c) ⟨_,Y,by show 7<=Bb;rw[bH];decide,λf a=>⟨f,jw,Y,.inr (sW.of zh),Y,(),_,Y,?_⟩⟩;have d:=e.trans (sX (o:=HO.tup jw) f a);by_cases c2:inV (.str w) jw=ah
 .exact ym c2 ⟨_,Y,_,_,Y,Y,xv (),q _ _ (zjm (by rw[zdm,c2,Bool.true_or])) d⟩
 .exact zV (eD.mpr c2) ⟨_,Y,q _ _ (zhm h (eD.mpr c2) (eD.mpr c)) d⟩
section
variable {x:Str}{c:Int}
theorem zel{n:Option V}(j:yU x=ah)(q:∀a g f,aJ H f->H a=ak->sT f a g->g.length=2->Q (.ref a) f) :
  Zr K t (sS Q) [U (.int c),U (.str "abcdefghijklmnopqrstuvwxyz"),n,U (.str x),ak,ak] H:=by
 obtain⟨B,A,z⟩:=zdn j;have e:=cA (c/6) (b:=(x.length:Int)) ();have l:=ck (c/6) (b:=(x.length:Int)) ();have h:x.length<=Bb:=xv ();refine⟨_,Y,_,_,Y,Y,dB,_,Y,.str x,x.length,Y,⟨h,Y⟩,_,_,Y,Y,by show (0:Int)<x.length;lia,?_⟩;obtain⟨k,v⟩:∃k:Nat,c/6%(x.length:Int)=k:=⟨(c/6%(x.length:Int)).toNat,(lS e).symm⟩;dsimp only;rw[v] at e l ⊢;obtain⟨y,p,w⟩:=zbn (xs:=x.cps.toList) (i:=(k:Int)) e (by rw[<-Y4];exact l);have m:(bh "abcdefghijklmnopqrstuvwxyz").length<=Bb:=by lia
 have u:=cA (zc5 (bh "abcdefghijklmnopqrstuvwxyz") ⟨#[y]⟩+1+c/36%25) (b:=26) ();have s:=ck (zc5 (bh "abcdefghijklmnopqrstuvwxyz") ⟨#[y]⟩+1+c/36%25) (b:=26) ();obtain⟨d,r,o⟩:=zfZ u s;exact⟨_,Y,_,Y,Y,_,Y,_,Y,x,k,y,Y,Y,h,p,_,_,Y,Y,_,_,Y,Y,_,Y,_,_,Y,Y,dB,_,_,Y,Y,by show (0:Int)<25;decide,_,_,Y,Y,_,_,Y,Y,by show (0:Int)<26;decide,_,_,d,Y,Y,m,r,zd8 (t:=t) j () o q⟩
end
section
variable {p a b sp tp:D}{Hb:Hp}{kd:Int}{sh sl:Str}{e0 f:List V}
theorem zgl{e:Int}(N:okD e)(I:∃i,H p=U (.lst i)/\ub i 1=U (.int e))(g:yU sh=ah)(d:yU sl=ah)(s:bv e0)(x:tmP e0)(z:H sp=U (.tup e0))(A:Hb sp=ak)(j:bv f)(k:tmP f)(l:H tp=U (.tup f))(m:Hb tp=ak)(S:aJ Hb H) (q:∀v r n,aJ Hb n->pv (λb=>Hb b=ak) n v r->rwW r->Q v n) :
  Yp K t (sS Q) [U (.ref p),U (.ref a),U (.ref b),U (.int kd),U (.str sh),U (.str sl),U (.ref sp),U (.ref tp)] H:=by
 obtain⟨B,E⟩:=XB (u:=.str sl) (.inr ⟨sl,Y,d⟩);obtain⟨i,M,J⟩:=I;refine⟨_,Y,_,_,Y,Y,_,Y,vH (λ_=>⟨_,Y,_,Y,_,Y,by show 4<=Bb;rw[bH];decide,λr c=>?_⟩) λ_=>⟨_,Y,_,_,Y,Y,_,Y,vH (λ_=>⟨_,Y,_,Y,_,Y,by show 4<=Bb;rw[bH];decide,λr c=>?_⟩) λ_=>⟨_,Y,Y,_,Y,vH (λ_=>⟨_,Y,_,Y,by show 3<=Bb;rw[bH];decide,λr c=>?_⟩) λ_=>⟨_,Y,Y,_,Y,vH (λ_=>⟨_,Y,by show 2<=Bb;rw[bH];decide,λr c=>?_⟩) λ_=>⟨_,Y,Ka Y M J ⟨_,_,Y,Y,by show (0:Int)<3;decide,_,_,Y,Y,by show 3<=Bb;rw[bH];decide,λy h=>⟨by show 2<=Bb;rw[bH];decide,λr c=>?_⟩⟩⟩⟩⟩⟩⟩
 .exact q _ (.take sh e0 sl) _ (S.trans (sX r c)) ⟨r,sp,Y,zJ S c,A,zh,sX r c _ _ z⟩ ⟨trivial,⟨ZY g,x,ZY d⟩,s⟩
 .exact q _ (.give sh e0 f) _ (S.trans (sX r c)) ⟨r,sp,tp,Y,zJ S c,A,m,zh,sX r c _ _ z,sX r c _ _ l⟩ ⟨trivial,⟨ZY g,x,k⟩,⟨s,j⟩⟩
 .exact q _ (.lt sl f) _ (S.trans (sX r c)) ⟨r,tp,Y,zJ S c,m,zh,sX r c _ _ l⟩ ⟨trivial,⟨ZY d,k⟩,j⟩
 .exact q _ (.say f) _ (S.trans (sX r c)) ⟨r,tp,Y,zJ S c,m,zh,sX r c _ _ l⟩ ⟨trivial,k,j⟩
 .have w:=sX (o:=HO.tup [V.str sl,V.int (e%3+1),V.str (bh "same")]) y h;have jw:wdJ (bh "same"):=⟨(),(),()⟩;obtain⟨C,G⟩:=XB (u:=.int (e%3+1)) (.inl ⟨_,Y,uf.mpr ()⟩);exact q _ (.off ([.str sl]++[.int (e%3+1)]++[.str (bh "same")])) _ (S.trans (w.trans (sX r c))) ⟨r,y,Y,zJ (S.trans w) c,zJ S h,zh,sX r c _ _ zh⟩ ⟨trivial,(by unfold VR;exact zdj E G jw),(by unfold Zd;exact Qg B C jw (by simp))⟩
end
section
variable {c:Int}{p a b:D}{ds:List Int}{us ws:List Str}
theorem Kq{u:List V}{_E:XK}(h:vP u H Q _E) :
  qp K t (sS Q) (L2.start ["cell","letters","word","one","at","letter"] u) H:=by
 obtain⟨c,rfl,q⟩:=h;simp only[qp,Zs,xA,yA,L2.start,X0,zo,zO,zt,aK,Z,tC,zc,zj,tBM,tyV,zT,qE,QA,JP,xJ,zew,rI,rI0,nF,fC,fT,dY,gu,lI,eT,ir,fR,exists_eq_left',V.int.injEq,V.ref.injEq,V.str.injEq,fj,and_true,true_and,and_assoc,exists_and_left,p8,List.set_cons_succ,Nat.reduceSub,Nat.reduceAdd,if_true];have g1:=cA c (b:=6) ();have g2:=ck c (b:=6) ();obtain⟨m,em⟩:∃m:Nat,1+c%6=m:=⟨(1+c%6).toNat,()⟩;rw[em];refine⟨(),m,Y,(),λl ds H1 y fl j A od=>⟨⟨_,aQ.of j⟩,λBp hD=>?_⟩⟩;have z:(ds.map V.int).length=ds.length:=bg ..;refine zeK (J:=Itl K l) ds.length () (λr=>∃o,r=[o,U (.str "abcdefghijklmnopqrstuvwxyz")]) (λi v=>zjF v) ⟨_,Y⟩ (λi H s h=>⟨_,_,aQ.of (s _ _ j),bb (by rw[z];exact h)⟩) (λH s=>⟨_,aQ.of (s _ _ j),by rw[z];exact bp _⟩) hD ?_ ?_
 .rintro i v r H2 E ⟨o,rfl⟩ s C ⟨rfl,g⟩;have g:=g _ (aQ.of (s _ _ j));obtain⟨e,_,rfl⟩:=bB.mp (bN g);simp only[eT,ir,fR,exists_eq_left',V.int.injEq,V.str.injEq,fj,and_true,p8];have f1:=cA e (b:=26) ();have f2:=ck e (b:=26) ();obtain⟨d,hd,A⟩:=zfZ f1 f2;exact⟨(),(),d,hd,⟨_,Y⟩,⟨d,Y,A⟩,aJ.refl _⟩
 .intro ys H2 n g s hq;obtain⟨f,rfl,hp⟩:=zdh (P:=λx=>∃c,x=⟨#[c]⟩/\inL c=ah) (ys:=ys) λv k=>by
   obtain⟨i,C⟩:=cy k;obtain⟨c,e,h⟩:=g i v C;exact⟨_,e,c,Y,h⟩
  rw[bg] at n;obtain⟨j1,T,O⟩:=zbx hp;have B:=zeO f;have jl:(KN (bh "") f).length=f.length:=by rw[Y4,B,j1]
  have G:=QF (bh "") f 0;refine⟨f,aQ.of hq,?_,⟨(),(),by unfold Xn;rw[B];exact T⟩,λx H3 hx w=>?_⟩
  .unfold zeN;rw[G,O,show (bh "").length=0 from by lia];exact xv ()
  .exact zel hx λM ws E I fn hn N=>q M ws E (y.trans (s.trans (w.trans I))) (zJ y (zJ s (zJ w fn))) hn N
theorem zal{n:List V}{_E:XK}(h:jG n H Q _E) :
  ZJ K t (sS Q) (L2.start ["xs","shelves","slots","kind","shelf","slot","spot","term"] n) H:=by
 obtain⟨p,a,b,ds,us,ws,rfl,d,E,s,C,B,m,l,q⟩:=h
 match ds,E with
 |[x0,x1,x2],_ =>
 have r:=s x1 (.tail _ (.head _));have y:=s x2 (.tail _ (.tail _ (.head _)));unfold ZJ zo zO zt;refine Q9 (λ_ q=>Ka Y d Y q) () λk _ _=>?_;refine zaa C B Y (λ_ q=>Ka Y d Y ⟨_,_,Y,Y,dB,q⟩) λO j=>?_;refine zaa m l Y (λ_ q=>Ka Y d Y ⟨_,_,Y,Y,dB,q⟩) λN i=>?_;refine Ka Y d Y ⟨_,Y,_,_,ws,Y,r,m,l,λM e H1 g I A v x=>?_⟩;refine Ka Y (g _ _ d) Y ⟨_,Y,_,_,ws,Y,y,m.same g,l,λJ f T o G z u w=>?_⟩;have S:=g.trans o;exact zgl (t:=t) r ⟨_,S _ _ d,Y⟩ j i v x (o _ _ A) I u w z (zJ g G) S q
end
end
abbrev Ba(P:aq)(w:au)(K:bw)(b:Str->Option ae)(a:av):=hZ P w K b a (ud P w)
section
variable {P:aq}{w:au}{K:bw}{mg:Str->Option ae}{base:av}{t:aZ}(T:Txt K mg t)
include T
theorem xI:Ba P w K mg base 1 t.a0 t.d0 ["word"] (yA):=by
 refine T.g0.f.okA Xk λa H Q E h=>⟨?_,λ_ _ _ _ b=>⟨jI K t,(zd (zH (zp XW (L 0) (zX (qf (x:="take") (qf (x:="give") (qf (x:="let") (qf (x:="say") (qf (x:="off") (qf (x:="if") (qf (x:="else") (qf (x:="end") (qf (x:="as") ze)))))))))) (by with_unfolding_all rfl)) (zg (zq (zm wP (L 0) zG)))
   zy) (zd (zH (zp XW (L 0) (zX (za zG (za zG (za zG (za zG (za zG (za zG (za zG ze)))))))) (by with_unfolding_all rfl)) (zg (zq (zm wP (L 0) zG)))
    zy) (zg (zq (L 0))))),YR h⟩⟩
 obtain⟨w,rfl,_⟩:=h;rfl
theorem jX:Ba P w K mg base 1 t.a1 t.d1 ["cell","many"] (xA):=by
 refine T.g1.f.okA q0h λa H Q E h=>⟨?_,λ_ _ _ _ b=>⟨Yg K t,(zd (zu q0h.nd (yv ze)) (zd (zu q0h.nd (zm zU (zm zP (L 0) zf) zf)) (zd (zu q0h.nd (zm zU (zm zP (zm yb (L 0) zf) zf) zf)) (zd (yY b9 Y (vV Y T.q0k (za (L 1) ze)) (ya q0h.nd) (zd (zu q0h.nd (zm zP (zm zU (zm zU (zm wW (L 3) (L 3)) (zm wW zf (L 4))) (L 5)) zf)) (zd (zu q0h.nd (zm zP (zm zU (zm zU (zm wW (L 4) (L 3)) (zm wW zf (L 3))) zf) zf)) (zg (zN (xW bP bY bZ yF (L 2) (za (zm zU (zm wW (L 3) zf) (L 4)) ze))))))) (zg (zq (L 2))))))),Jt h⟩⟩
 obtain⟨c,m,rfl,_⟩:=h;rfl
theorem XL:Ba P w K mg base 2 t.a2 t.d2 ["cell"] (vP):=by
 refine T.g2.f.okA q0l λb H Q E h=>⟨?_,λ_ _ _ _ a=>⟨qp K t,(zd (XT (i:=1) q0l.nd Y (pP Y) zG) (zd (zu q0l.nd (xW nW PySem.F.slot_str_join PySem.F.type_str_join zgI zG (za (zc0 Y (osc:=zk Zh) (N:=["cell","letters","word","one","at","letter"]) (xs:=["number"]) (ix:=[1]) () (yW (tD (jX T) T.g1 a zx (za (L 0) (za (zm zU zf (zm zP (L 0) zf)) ze)))) (λ_ _ _ _=>(kS (i:=0) (show iL (["number","letters"]:List Str) from ()) Y (mh Y) (.inr Y))) (λ_ _ _ _=>ZU) (λ_ _ _ _=>(zv zb1 (L 1) (zm zP (L 0) zf)))) ze))) (zd (zu q0l.nd (tD (xI T) T.g0 a zx (za (L 2) ze))) (zd (zu q0l.nd (zm zP (zm yb (L 0) zf) (zF zS Y T.q04 yw (za (L 3) ze)))) (zd (zu q0l.nd (zv zb1 (L 1) (zm zP (zm zU (zm zU (xW nW PySem.F.slot_str_find PySem.F.type_str_find zgH (L 1) (za (zv zb1 (L 3) (L 4)) ze)) zf) (zm zP (zm yb (L 0) zf) zf)) zf))) (zd (zH (PW.pt (kR (zp yu (zm zP (zm yb (L 0) zf) zf) zf (zA _)) (vI (zp wL (zF zS Y T.q04 yw (za (L 3) ze)) zf (zA _))))) (zg (zq (yv (za (L 3) (za (tD (xI T) T.g0 a zx (za (zm wP (L 3) (L 5)) ze)) ze)))))
    zy) (zd (zH (PW.pt (kR (zp yu (zm zP (zm yb (L 0) zf) zf) zf (zA _)) (vI (zp wL (zF zS Y T.q04 yw (za (L 3) ze)) zf (zA _))))) (zg (zq (yv (za (tD (xI T) T.g0 a zx (za (zm wP (L 5) (L 3)) ze)) (za (L 3) ze)))))
    zy) (zg (zq (yv (za (L 3) (za (tD (xI T) T.g0 a zx (za (zm wP (zm wP (xK zeE (L 3) kX (xo (L 4))) (L 5)) (xK zeE (L 3) (xo (zm zU (L 4) zf)) kX)) ze)) ze)))))))))))),Kq h⟩⟩
 obtain⟨c,rfl,_⟩:=h;rfl
theorem wJ:Ba P w K mg base 1 t.a3 t.d3 ["number"] (xj):=by
 refine T.g3.f.okA V7 λa H Q E h=>⟨?_,λ_ _ _ _ b=>⟨Zt K t,(zd (zH (zp yu (zm zP (L 0) zf) zf (zA _)) (zg (zq (zm vy (zm zP (zm wW (L 0) (zm Yx zf zf)) (zm zU (zm wW zf (zm Yx zf zf)) zf)) (zm Yx zf zf))))
   zy) (zg (zq (zm vy (zm zP (zm yb (L 0) zf) zf) zf)))),Vh h⟩⟩
 obtain⟨n,rfl,_⟩:=h;rfl
theorem Kr:Ba P w K mg base 2 t.a4 t.d4 ["cell","shelves"] (wY):=by
 refine T.g4.f.okA q0p λe H Q E h=>⟨?_,λ_ _ _ _ b=>⟨Yh K t,(zd (zu q0p.nd (tD (jX T) T.g1 b zx (za (L 0) (za zf ze)))) (zd (XT (i:=3) q0p.nd Y (pP Y) j8) (zd (yY b9 Y (vV Y T.q0k (za (zm zP (L 0) zf) ze)) (ya q0p.nd) (zd (zu q0p.nd (tD (wJ T) T.g3 b zx (za (zv zI (L 2) (zm zU (L 4) zf)) ze))) (zg (zH (zp Z9 (L 5) zf (zA _)) (zg (wz (yL b) (L 3) (zX (za (zv zI (L 1) (zm zP (zv zI (L 2) (L 4)) zf)) (za (zm zP (zm yb (zv zI (L 2) (L 4)) zf) zf) ze))) (L 5) Y))
    zy)))) (zg (zq (zc0 Y (osc:=zk qh) (N:=["cell","shelves","xs","found","k","worth"]) (xs:=["place"]) (ix:=[3]) () (yW (zF (QL Y) Y T.q0v kh (za (L 3) ze))) (λ_ _ _ _=>(kS (i:=0) (show iL (["place","found"]:List Str) from ()) Y (mh Y) (.inr Y))) (λ_ _ _ _=>ZU) (λ_ _ _ _=>(zX (za (L 0) (za (wU (yL b) (L 1) (L 0) (λ_ _=>rfl)) ze)))))))))),Ju h⟩⟩
 obtain⟨c,a,d,rfl,_⟩:=h;rfl
theorem Ks:Ba P w K mg base 1 t.a5 t.d5 ["self","table"] (wZ t):=by
 refine T.q1u.ok0 JT (λb H Q E h=>?_) (λd A a s H b Q E c h=>?_)
 .obtain⟨x,h,e,g,rfl,_⟩:=h;rfl
 exact⟨jT K t,(zd (yC (f:="ground") (L 0) (xQ (qF Y (hu3 c)) Y T.q1t zc2 (za (L 1) ze)) Y) (zd (yC (f:="folded") (L 0) zf Y) (zd (yC (f:="worths") (L 0) j7 Y) (zg (yC (f:="ranks") (L 0) j8 Y))))),JG (mkF T) h⟩
theorem zam:Ba P w K mg base 1 t.a6 t.d6 ["self","makes"] (qo t):=by
 refine T.q1w.ok0 QT (λb H Q E h=>?_) (λc A a s H b Q E d h=>?_)
 .obtain⟨x,m,e,rfl,_⟩:=h;rfl
 exact⟨qq K t,(zd (yC (f:="makes") (L 0) (L 1) Y) (zd (yC (f:="laid") (L 0) j7 Y) (zd (yC (f:="readers") (L 0) j8 Y) (zg (yC (f:="doubted") (L 0) j7 Y))))),Kg (dkF T) h⟩
theorem zan:Ba P w K mg base 3 t.a7 t.d7 ["self","table","hands","way","first"] (wC t):=by
 refine T.q1y.ok0 QU (λc H Q E h=>?_) (λd A a s H c Q E b h=>?_)
 .obtain⟨x,l,w,i,j,n,f,e,g,rfl,_⟩:=h;rfl
 exact⟨qt K t,(zd (yC (f:="hands") (L 0) (L 2) Y) (zd (yC (f:="way") (L 0) (L 3) Y) (zd (yC (f:="first") (L 0) (L 4) Y) (zd (yC (f:="codes") (L 0) (yv ze) Y) (zd (yC (f:="waiting") (L 0) (yv ze) Y) (zd (yC (f:="held") (L 0) j7 Y) (zd (yC (f:="makes") (L 0) (YX T.mk_Makes (hZ.mono (Ks T) ()) b Y T.g_Makes T.q1v .nil zx (za (L 1) ze)) Y) (zd (yC (f:="jobs") (L 0) (YX T.mk_Jobs (hZ.mono (zam T) ()) b Y T.g_Jobs T.q1x .nil zx (za (zB (L 0) Y) ze)) Y) (zg (yC (f:="ended") (L 0) (yv ze) Y)))))))))),Kh (dkF T) h⟩
theorem vB:Ba P w K mg base 1 t.a8 t.d8 ["self"] (xz t):=by
 refine T.g8.f.okA WX λe H Q E h=>?_;obtain⟨d,j,a,n,f,i,rfl,c,b,q⟩:=h;exact⟨Y,λ_ _ _ _ g=>⟨qK K t,(zg (zq (zm zU (zB (L 0) Y) (zF zS Y T.q04 yw (za (zB (L 0) Y) ze))))),Wb (dkF T) c b q⟩⟩
theorem jN:Ba P w K mg base 1 t.a9 t.d9 ["self"] (xG t):=by
 refine T.g9.f.okA Xl λe H Q E h=>?_;obtain⟨d,i,a,n,f,j,rfl,c,b,q⟩:=h;exact⟨Y,λ_ _ _ _ g=>⟨jJ K t,(zg (zq (zm zU (zB (L 0) Y) (zF zS Y T.q04 yw (za (zB (L 0) Y) ze))))),YN (dkF T) c b q⟩⟩
theorem vt:Ba P w K mg base 1 t.a10 t.d10 ["self"] (xm t):=by
 refine T.g10.f.okA zbd λb H Q E h=>⟨?_,λ_ _ _ _ c=>⟨WI K t,(zg (zq (zhx (YV jk (zB (L 0) Y) yB (zA _)) (Qm (YV zhB (zB (L 0) Y) (zF zS Y T.q04 yw (za (zB (L 0) Y) ze)) (zA _)))))),zak (rnF T) h⟩⟩;obtain⟨x,a,C,s,rfl,_⟩:=h;rfl
theorem zcI:Ba P w K mg base 1 t.a11 t.d11 ["word","first","second"] (qk t):=by
 refine T.g11.f.okB zcs λc H Q E h=>⟨?_,λ_ _ _ _ d=>⟨Jd K t E,(zd (zH (zp yu (L 2) zf (zA _)) (zg (zaO Y T.q2v zc3 Y T.g_Nought (za (zc4 (L 0)) ze)))
   zy) (zg (zq (vX (zp yu (L 0) zG (zA _)) (zm zeP (L 1) (L 2)) (zm zgq (L 1) (L 2)))))),zbH h⟩⟩
 obtain⟨w,a,b,rfl,_⟩:=h;rfl
theorem zcJ:Ba P w K mg base 2 t.a12 t.d12 ["word","first","second"] (ql t):=by
 refine T.g12.f.okB zct λd H Q E h=>⟨?_,λ_ _ _ _ c=>⟨Je K t E,(zd (zH (zp yu (L 0) zG (zA _)) (zg (zq (zm zU (L 1) (L 2))))
   zy) (zd (zH (zp yu (L 0) zG (zA _)) (zg (zq (zm vy (L 1) (L 2))))
    zy) (zd (zH (zp yu (L 0) zG (zA _)) (zg (zq (zm wW (L 1) (L 2))))
    zy) (zd (zH (zp yu (L 0) zG (zA _)) (zg (zq (vX (zp wL (L 1) (L 2) (zA _)) zf zf)))
    zy) (zd (zH (zp yu (L 0) zG (zA _)) (zg (zq (vX (zp yu (L 1) (L 2) (zA _)) zf zf)))
    zy) (zg (zq (tD (zcI T) T.g11 c vZ (za (L 0) (za (L 1) (za (L 2) ze))))))))))),zbI h⟩⟩
 obtain⟨w,a,b,rfl,_⟩:=h;rfl
theorem zbK:Ba P w K mg base 1 t.a13 t.d13 ["thing"] (WH):=by
 refine T.g13.f.okA zbe λa H Q E h=>?_;obtain⟨i,rfl,q⟩:=h;exact⟨Y,λ_ _ _ _ c=>⟨Zu K t,(zd (zH (PW.pt (YU (jQ (xn (zF y8 Y T.q0b yd (za (L 0) (za (xD Y T.b_int zeD Y) ze))))) (kQ (xn (zF y8 Y T.q0b yd (za (L 0) (za (xD Y T.q1s zc1 Y) ze))))))) (zg (zq (jY (b:=ao))))
   zy) (zg (zq (zeq zhA zhA (Vr Yy (zm Yx zf zf)) (L 0) (zm Yx zf zf))))),zaj (kf K).i_b q⟩⟩
theorem zem:Ba P w K mg base 3 t.a14 t.d14 ["word","first","second"] (ZX t):=by
 refine T.g14.f.okB q1c λd H Q E h=>⟨?_,λ_ _ _ _ c=>⟨Qb K t E,(zd (zu q1c.nd (tD (zcJ T) T.g12 c vZ (za (L 0) (za (L 1) (za (L 2) ze))))) (zd (zH (jQ (xn (tD (zbK T) T.g13 c vZ (za (L 3) ze)))) (zg (zaO Y T.q2y zc3 Y T.g_Great (za (zc4 (L 0)) ze)))
    zy) (zg (zq (L 3))))),zcH h⟩⟩
 obtain⟨w,a,b,rfl,_⟩:=h;rfl
theorem zbL:Ba P w K mg base 4 t.a15 t.d15 ["term","slots"] (Zo t):=by
 refine T.g15.f.okB q0q λi H Q E h=>?_;obtain⟨m,j,k,l,r,rfl,g,f,e,d,c,b,q⟩:=h;exact⟨Y,λ_ _ _ _ a=>⟨WJ K t E,(zd (zu q0q.nd (yv ze)) (zd (yY zjw Y (zh4 (L 0)) (ya q0q.nd) (zg (zH (zp XW (L 3) (zgo Y T.g_JOINING Y) (by with_unfolding_all rfl)) (zd (zu q0q.nd (zb2 bP iY iZ zb4 (L 2))) (zd (zu q0q.nd (zb2 bP iY iZ zb4 (L 2))) (zg (zN (xW bP bY bZ yF (L 2) (za (tD (zem T) T.g14 a vZ (za (L 3) (za (L 5) (za (L 4) ze)))) ze)))))) (zg (zN (xW bP bY bZ yF (L 2) (za (vX (xn (zF y8 Y T.q0b yd (za (L 3) (za (xD Y T.q1b zb7 Y) ze)))) (j9 (yL a) (L 1) (L 3) zf ⟨Y,Y,Y,Y⟩) (L 3)) ze))))))) (zg (zq (zb2 bP iY iZ zb4 (L 2)))))),zai (kf K).i_s T.q25 g f e d c b q⟩⟩
theorem yZ:Ba P w K mg base 5 t.a16 t.d16 ["self","term"] (yt t):=by
 refine T.g16.f.okB WY λi H Q E h=>?_;obtain⟨x,j,e,a,C,s,rfl,g,f,d,c,q⟩:=h;exact⟨Y,λ_ _ _ _ b=>⟨qL K t E,(zg (zq (tD (zbL T) T.g15 b vZ (za (L 1) (za (zB (L 0) Y) ze))))),Wg (rnF T) g f d c q⟩⟩
theorem vC:Ba P w K mg base 6 t.a17 t.d17 ["self","due"] (yN t):=by
 refine T.g17.f.okB WZ λd H Q E h=>⟨?_,λ_ _ _ _ b=>⟨qM K t E,(zg (zq (zX (za (zv zQ (L 1) zf) (za (ua (L 0) T.q06 (yZ T) T.g16 b vZ (za (zv zQ (L 1) zf) ze)) ze))))),Wh (rnF T) h⟩⟩;obtain⟨x,p,c,g,f,e,a,C,s,rfl,_⟩:=h;rfl
theorem zbM:Ba P w K mg base 7 t.a18 t.d18 ["self"] (jF t):=by
 refine T.g18.f.okA q1d λc H Q E h=>⟨?_,λ_ _ _ _ b=>⟨WK K t,(zd (zH (PW.pt (YU (xn (Z2 (L 0) T.q06 (vt T) T.g10 b zx)) (kQ (zp Z9 (zv zQ (zv zI (zB (L 0) Y) (zB (L 0) Y)) zf) zG (zA _))))) (zg (zq yB))
   zy) (zd (zgY (And.intro rfl rfl) rfl (zgD (i:=1) q1d.nd rfl (mh rfl) (za0 (L 0) T.q06 T.g17.me (hZ.mono (vC T) ()) b T.g17.b (za (zv zI (zB (L 0) rfl) (zB (L 0) rfl)) ze))) rfl T.g_Great rfl T.g_Nought (λ_=>(zg (zq yB)))) (zd (zH (PW.pt (YU (zp (Vl (yL b)) (L 1) (zB (L 0) Y) (by with_unfolding_all rfl)) (kQ (zp (Vl (yL b)) (L 1) (zB (L 0) Y) (by with_unfolding_all rfl))))) (zg (zq yB))
    zy) (zg (zq (L 1)))))),zaf T h⟩⟩
 obtain⟨x,a,C,s,rfl,_⟩:=h;rfl
theorem jh:Ba P w K mg base 1 t.a19 t.d19 ["self","rank"] (xp t):=by
 refine T.g19.f.okA YG λe H Q E h=>?_;obtain⟨m,i,g,a,j,rfl,d,c,b,q⟩:=h;exact⟨Y,λ_ _ _ _ f=>⟨v7 K t,(zg (zH (zp wL (L 1) (zB (L 0) Y) (zA _)) (zg zax)
   zy)),Z7 (mkF T) d c b q⟩⟩
theorem xC:Ba P w K mg base 1 t.a20 t.d20 ["ranks","rank"] (yK):=by
 refine T.g20.f.okA q0m λb H Q E h=>⟨?_,λ_ _ _ _ d=>⟨Yi K t,(zd (zu q0m.nd zf) (zd (zu q0m.nd (zF zS Y T.q04 yw (za (L 0) ze))) (zd (zay b9 (zp wL (L 2) (L 3) (zA _)) (zd (zu q0m.nd (zm yb (zm zU (L 2) (L 3)) zf)) (zg (zH (zp wL (zv zI (L 0) (L 4)) (L 1) (zA _)) (zg (zu q0m.nd (zm zU (L 4) zf))) (zg (zu q0m.nd (L 4))))))) (zg (zq (L 2)))))),JE h⟩⟩
 obtain⟨a,c,e,rfl,_⟩:=h;rfl
theorem Yr:Ba P w K mg base 2 t.a21 t.d21 ["self","place","rank"] (w6 t):=by
 refine T.g21.f.okA q12 λf H Q E h=>?_;obtain⟨m,p,j,F,g,b,i,rfl,e,d,c,q⟩:=h;exact⟨Y,λ_ _ _ _ a=>⟨jU K t,(zd (zN (ua (L 0) T.q0f (jh T) T.g19 a zx (za (L 2) ze))) (zd (zu q12.nd (j9 (yL a) (zB (L 0) Y) (L 1) (yv ze) ⟨Y,Y,Y,Y⟩)) (zd (zu q12.nd (tD (xC T) T.g20 a zx (za (L 3) (za (L 2) ze)))) (zd (zH (zp yu (L 4) zf (zA _)) (zg (zq (j9 (yL a) (zB (L 0) Y) (L 1) zf ⟨Y,Y,Y,Y⟩)))
    zy) (zg (zq (wU (yL a) (wU (yL a) (zB (L 0) Y) (zv zI (L 3) (zm vy (L 4) zf)) (λ_ _=>rfl)) (L 1) (λ_ _=>rfl)))))))),JF (mkF T) e d c q⟩⟩
theorem zao:Ba P w K mg base 1 t.a22 t.d22 ["self","place","worth"] (vO t):=by
 refine T.g22.f.okA QV λc H Q E h=>⟨?_,λ_ _ _ _ b=>⟨Xp K t,(zd (zH (zp (Vl (yL b)) (L 1) (zB (L 0) Y) (by with_unfolding_all rfl)) (zg (zq (wU (yL b) (zB (L 0) Y) (L 1) (λ_ _=>rfl))))
   zy) (zd (zH (zp (VJ (yL b)) (L 1) (zB (L 0) Y) (by with_unfolding_all rfl)) (zg (wz (yL b) (zB (L 0) Y) (L 1) (L 2) Y))
    zy) (zg (zq (wU (yL b) (zB (L 0) Y) (L 1) (λ_ _=>rfl)))))),Km (rnF T) h⟩⟩
 obtain⟨x,q,p,w,a,C,s,rfl,_⟩:=h;rfl
theorem zbN:Ba P w K mg base 7 t.a23 t.d23 ["self","due","worth"] (jE t):=by
 refine T.g23.f.okB q1e λc H Q E h=>⟨?_,λ_ _ _ _ b=>⟨WL K t E,(zg (zH (zp yu (zv zQ (L 1) zf) zG (zA _)) (zg (wz (yL b) (zB (L 0) Y) (zv zQ (L 1) zf) (ua (L 0) T.q06 (zao T) T.g22 b vZ (za (ua (L 0) T.q06 (vC T) T.g17 b vZ (za (L 1) ze)) (za (L 2) ze))) Y)) (zg (zH (zp yu (zv zQ (L 1) zf) zG (zA _)) (zd (zu q1e.nd (ua (L 0) T.q06 (vC T) T.g17 b vZ (za (L 1) ze))) (zg (wz (yL b) (zB (L 0) Y) (L 3) (ua (L 0) T.q06 (yZ T) T.g16 b vZ (za (zv zQ (L 1) zf) ze)) Y))) (zg (zH (zp yu (zv zQ (L 1) zf) zG (zA _)) (zg (wz (yL b) (zB (L 0) Y) (zv zQ (L 1) zf) (ua (L 0) T.q06 (yZ T) T.g16 b vZ (za (zv zQ (L 1) zf) ze)) Y)) (zg (zN (xW bP bY bZ yF (zB (L 0) Y) (za (ua (L 0) T.q06 (yZ T) T.g16 b vZ (za (zv zQ (L 1) zf) ze)) ze)))))))))),zae (rnF T) h⟩⟩
 obtain⟨x,v,r,w,m,a,C,s,rfl,_⟩:=h;rfl
theorem Kt:Ba P w K mg base 8 t.a24 t.d24 ["self","due","worth"] (wX t):=by
 refine T.g24.f.okB JU λd H Q E h=>⟨?_,λ_ _ _ _ b=>⟨Yk K t E,(zd (zH (zp yu (zv zQ (L 1) zf) zG (zA _)) (zg (zq (zv zQ (L 1) zf)))
   zy) (zd (zH (zp yu (zv zQ (L 1) zf) zG (zA _)) (zg (zq (vX (zp yu (ua (L 0) T.q06 (yZ T) T.g16 b vZ (za (zv zQ (L 1) zf) ze)) zf (zA _)) (zv zQ (L 1) zf) (zm zU (zB (L 0) Y) zf))))
    zy) (zd (zH (zp yu (zv zQ (L 1) zf) zG (zA _)) (zg (zH (zp Z9 (ua (L 0) T.q06 (yZ T) T.g16 b vZ (za (zv zQ (L 1) zf) ze)) zf (zA _)) (zg (yC (f:="why") (L 0) zG Y))
    zy)) (zg (zN (ua (L 0) T.q06 (zbN T) T.g23 b vZ (za (L 1) (za (L 2) ze)))))) (zg (zq (zm zU (zB (L 0) Y) zf)))))),JC (rnF T) h⟩⟩
 obtain⟨x,v,c,w,m,a,C,s,rfl,_⟩:=h;rfl
theorem jO:Ba P w K mg base 9 t.a25 t.d25 ["self","worth"] (xL t):=by
 refine T.q20.ok0 zbf (λd H Q E h=>?_) (λe A b s H d Q E c h=>?_)
 .obtain⟨x,w,m,a,C,s,rfl,_⟩:=h;rfl
 exact⟨WM K t,(zd (zH (xn (Z2 (L 0) T.q06 (vt T) T.g10 c zx)) (zg zgp)
   zy) (zg (zff (And.intro rfl rfl) rfl (zgX (f:="at") (L 0) (za0 (L 0) T.q06 T.g24.me (hZ.mono (Kt T) ()) c T.g24.b (za (zv zI (zB (L 0) rfl) (zB (L 0) rfl)) (za (L 1) ze))) rfl) rfl T.g_Great rfl T.g_Nought (λ_=>(zg (yC (f:="why") (L 0) zG rfl))) (λ_=>(zg (yC (f:="why") (L 0) zG rfl)))))),zag T h⟩
theorem ZP:Ba P w K mg base 3 t.a26 t.d26 ["self","rank"] (xM t):=by
 refine T.g26.f.okA q0w λo H Q E h=>?_;obtain⟨d,a,q,z,s,g,b,PP,v,y,x,r,p,u,rfl,n,m,l,k,j,i,f,e⟩:=h;exact⟨Y,λ_ _ _ _ c=>⟨vj K t,(zd (yY b9 Y (yW (zv zQ (wU (yL c) (zB (L 0) Y) (L 1) (λ_ _=>rfl)) zf)) (Yw Y (y7 (ya q0w.nd) (y7 (ya q0w.nd) kT))) (zd (zu q0w.nd (ua (zB (L 0) Y) T.q0f (Yr T) T.g21 c zx (za (L 2) (za (L 1) ze)))) (zg (zH (zp Z9 (L 4) (L 3) (zA _)) (zg (zq (zX (za (L 2) (za (L 3) (za (L 4) ze))))))
    zy)))) (zg (zq yB))),qX (dkF T) n m l k j i f e⟩⟩
theorem qB:Ba P w K mg base 4 t.a27 t.d27 ["self"] (xt t):=by
 refine T.g27.f.okA q0x λs H Q E h=>?_;obtain⟨⟨d,a,v,n,f,r,B,q,y,x,A,z,g,b,u,C⟩,rfl,p,o,m,l,k,j,e,c⟩:=h;exact⟨Y,λ_ _ _ _ i=>⟨wH K t,(zd (zu q0x.nd (zF (QS Y) Y T.q0v kh (za (zB (L 0) Y) ze))) (zd (yY b9 Y (yW (L 1)) (ya q0x.nd) (zd (zu q0x.nd (ua (L 0) T.q0j (ZP T) T.g26 i zx (za (L 2) ze))) (zd (zH (zp jk (L 3) yB (zA _)) (zg (zq (zm zcS (zX (za (L 2) ze)) (L 3))))
    zy) (zg (zN (Vx (zB (L 0) Y) (L 2) ⟨Y,Y,Y,Y⟩)))))) (zg (zq yB)))),kN (dkF T) p o m l k j e c⟩⟩
theorem XM:Ba P w K mg base 1 t.a28 t.d28 ["ranks_at","place","rank"] (xS):=by
 refine T.g28.f.okA q1f λb H Q E h=>⟨?_,λ_ _ _ _ a=>⟨Xq K t,(zd (zu q1f.nd (wU (yL a) (L 0) (L 1) (λ_ _=>rfl))) (zd (zN (xW bP gZ ib X5 (L 3) (za (L 2) ze))) (zg (zH (zp (VB (QG a)) (L 3) (yv ze) (zA _)) (zg (zN (zfz (yL a) (L 0) (L 1) ⟨Y,Y,Y,Y⟩)))
    zy)))),Kn h⟩⟩
 obtain⟨rk,d,f,G,P,e,c,rfl,_⟩:=h;rfl
theorem kP:Ba P w K mg base 2 t.a29 t.d29 ["self","rank"] (xT t):=by
 refine T.g29.f.okA q0y λr H Q E h=>?_;obtain⟨⟨d,a,v,n,f,p,C,o,y,x,B,A,g,b,u,I⟩,G,s,z,rfl,m,l,k,j,i,e,q⟩:=h;exact⟨Y,λ_ _ _ _ c=>⟨kI K t,(zd (zu q0y.nd (Vx (zB (L 0) Y) (L 1) ⟨Y,Y,Y,Y⟩)) (zd (zN (zaK (zB (L 0) Y) (L 1) yB ⟨Y,Y,Y,Y⟩)) (zd (yY b9 Y (yW (zv zQ (L 2) zf)) (Yw Y (y7 (ya q0y.nd) (y7 (ya q0y.nd) kT))) (zg (zN (tD (XM T) T.g28 c zx (za (zB (L 0) Y) (za (L 3) (za (L 1) ze))))))) (zg (zq (L 2)))))),XE (dkF T) m l k j i e q⟩⟩
theorem jP:Ba P w K mg base 1 t.a30 t.d30 ["self","ranks"] (xH t):=by
 refine T.g30.f.okA Xm λd H Q E h=>?_;obtain⟨x,l,c,rfl,b,a,q⟩:=h;exact⟨Y,λ_ _ _ _ e=>⟨jK K t,(zg (zq (zv zI (L 1) (Vr Yy zf)))),YO  b a q⟩⟩
theorem wK:Ba P w K mg base 1 t.a31 t.d31 ["self","ranks"] (y9 t):=by
 refine T.g31.f.okA q1g λe H Q E h=>?_;obtain⟨x,l,i,d,k,rfl,c,b,a,q⟩:=h;exact⟨Y,λ_ _ _ _ g=>⟨jL K t,(zd (zu q1g.nd (zm zP (zB (L 0) Y) (zF zS Y T.q04 yw (za (L 1) ze)))) (zd (zdJ (f:="times") (L 0) zf zbW) (zg (zq (zv zI (L 1) (L 2)))))),YQ (dkF T) c b a q⟩⟩
theorem Ys:Ba P w K mg base 1 t.a32 t.d32 ["self","ranks"] (vb t):=by
 refine T.g32.f.okA JV λd H Q E h=>?_;obtain⟨x,l,c,rfl,b,a,q⟩:=h;exact⟨Y,λ_ _ _ _ e=>⟨Yl K t,(zg (zq (zv zI (L 1) zf))),Jy  b a q⟩⟩
theorem WR:Ba P w K mg base 1 t.a33 t.d33 ["self","code"] (jD t):=by
 refine T.q21.ok0 zbg (λc H Q E h=>?_) (λj A a s H c Q E k h=>?_)
 .obtain⟨x,l,i,b,C,rfl,_⟩:=h;rfl
 obtain⟨x,l,i,b,C,rfl,g,e,d,q⟩:=h;exact⟨Zv K t,(zd (yC (f:="code") (L 0) (xQ vK Y T.q0g wV (za (L 1) ze)) Y) (zd (yC (f:="at") (L 0) zf Y) (zd (yC (f:="why") (L 0) yB Y) (zd (yC (f:="slots") (L 0) j7 Y) (zd (yC (f:="gifts") (L 0) j8 Y) (zd (yC (f:="notes") (L 0) j8 Y) (zg (yC (f:="sayings") (L 0) (yv ze) Y)))))))),Kf (rnF T) g e d q⟩
theorem Wi:Ba P w K mg base 3 t.a34 t.d34 ["self","hand"] (xU t):=by
 refine T.g34.f.okA q1h λc H Q E h=>⟨?_,λ_ _ _ _ b=>⟨kJ K t,(zd (zu q1h.nd (zbb (zB (L 0) Y) (ZW (KZ T.q1o T.g30.me (hZ.mono (jP T) ()) b T.g30.b) (ZW (KZ T.q11 T.g31.me (hZ.mono (wK T) ()) b T.g31.b) (ZW (KZ T.q1p T.g32.me (hZ.mono (Ys T) ()) b T.g32.b) zfC))) zx (za (xQ vK Y T.q0g wV (za (zB (L 0) Y) ze)) ze))) (zd (zN (xW bP gZ ib X5 (zB (L 0) Y) (za (L 2) ze))) (zd (wz (yL b) (zB (L 0) Y) (L 1) (zX (za (L 2) (za (YX T.mk_Run (hZ.mono (WR T) ()) b Y T.g_Run T.q1r .nil zx (za (zv zI (zB (L 0) Y) (zm vy (L 2) (zB (L 0) Y))) ze)) ze))) Y) (zg (zq (zX (za zG (za (L 1) (za (L 2) ze))))))))),XI (dkF T) h⟩⟩
 obtain⟨d,a,e,n,f,h,g,i,S,rfl,_⟩:=h;rfl
theorem YS:Ba P w K mg base 5 t.a35 t.d35 ["self","hand"] (xu t):=by
 refine T.g35.f.okA q13 λc H Q E h=>⟨?_,λ_ _ _ _ b=>⟨v9 K t,(zd (zu q13.nd (Z2 (L 0) T.q0e (vB T) T.g8 b zx)) (zd (zu q13.nd (Z2 (zB (L 0) Y) T.q0j (qB T) T.g27 b zx)) (zd (zH (PW.pt (kR (zp (Vl (yL b)) (L 2) (zB (zB (L 0) Y) Y) (by with_unfolding_all rfl)) (vI (PW.pt (YU (zp Qo (L 3) yB (zA _)) (kQ (zp Z9 (zv zQ (L 3) zf) (L 2) (zA _)))))))) (zd (zN (xW bP bY bZ yF (zB (L 0) Y) (za (ua (zB (L 0) Y) T.q0j (kP T) T.g29 b zx (za (L 2) ze)) ze))) (zg (zq (zX (za zG (za (L 1) (za (L 2) ze)))))))
   zy) (zd (zH (zp jk (L 3) yB (zA _)) (zd (zN (ua (zB (L 0) Y) T.q0j (kP T) T.g29 b zx (za (zv zQ (L 3) zf) ze))) (zd (zN (xW bP mW mX KW (zB (L 0) Y) (za (tD (xC T) T.g20 b zx (za (zB (L 0) Y) (za (zv zQ (L 3) zf) ze))) (za (zv zQ (L 3) zf) ze)))) (zg (zq (zm zcS (zX (za zG (za (L 1) ze))) (L 3))))))
   zy) (zd (zH (zp (za7 (QG b)) (zB (L 0) Y) (yv ze) (zA _)) (zg (zq (ua (L 0) T.q0e (Wi T) T.g34 b zx (za (L 1) ze))))
    zy) (zg (zq (zX (za zG (za (L 1) ze)))))))))),Z4 (dkF T) h⟩⟩
 obtain⟨d,a,e,n,f,h,g,i,S,rfl,_⟩:=h;rfl
theorem we:Ba P w K mg base 1 t.a36 t.d36 ["self","rank"] (yG t):=by
 refine T.g36.f.okA YH λd H Q E h=>⟨?_,λ_ _ _ _ c=>⟨ja K t,(zg (zq (xQ (VU Y) Y T.q0g wV (za (j9 (yL c) (zB (L 0) Y) (L 1) j8 ⟨Y,Y,Y,Y⟩) ze)))),Z5 (mkF T) h⟩⟩;obtain⟨m,e,F,g,a,b,rfl,_⟩:=h;rfl
theorem YT:Ba P w K mg base 2 t.a37 t.d37 ["self","rank"] (xq t):=by
 refine T.g37.f.okA q14 λd H Q E h=>⟨?_,λ_ _ _ _ b=>⟨jd K t,(zd (zu q14.nd (ua (L 0) T.q0f (we T) T.g36 b zx (za (L 1) ze))) (zd (zN (zaK (zB (L 0) Y) (L 1) yB ⟨Y,Y,Y,Y⟩)) (zg (yY b9 Y (yW (L 2)) (ya q14.nd) (zg (zN (tD (XM T) T.g28 b zx (za (zB (L 0) Y) (za (L 3) (za (L 1) ze)))))))))),Z6 (mkF T) h⟩⟩
 obtain⟨m,e,F,g,a,c,rfl,_⟩:=h;rfl
theorem WS:Ba P w K mg base 2 t.a38 t.d38 ["ranks_at","place","rank"] (vh):=by
 refine T.g38.f.okA q1i λb H Q E h=>⟨?_,λ_ _ _ _ a=>⟨WN K t,(zd (zu q1i.nd (zfA (yL a) (L 0) (L 1) (yv ze) ⟨Y,Y,Y,Y⟩)) (zg (zN (xW bP mW mX KW (L 3) (za (tD (xC T) T.g20 a zx (za (L 3) (za (L 2) ze))) (za (L 2) ze)))))),zah h⟩⟩
 obtain⟨rk,d,f,G,P,e,c,rfl,_⟩:=h;rfl
theorem zap:Ba P w K mg base 3 t.a39 t.d39 ["self","rank","gifts"] (qm t):=by
 refine T.g39.f.okA q15 λk H Q E h=>?_;obtain⟨m,o,l,F,g,b,n,rfl,j,i,f,e,d,c,q⟩:=h;exact⟨Y,λ_ _ _ _ a=>⟨qu K t,(zd (zN (ua (L 0) T.q0f (jh T) T.g19 a zx (za (L 1) ze))) (zd (zN (ua (L 0) T.q0f (YT T) T.g37 a zx (za (L 1) ze))) (zd (zu q15.nd (xQ (qF Y (hu3 a)) Y T.q1t zc2 (za (L 2) ze))) (zd (zim (yY b9 Y (ze8 (L 3)) (ya q15.nd) (zg (zN (tD (WS T) T.g38 a zx (za (zB (L 0) Y) (za (L 4) (za (L 1) ze)))))))) (zg (wz (yL a) (zB (L 0) Y) (L 1) (L 3) Y)))))),Ko (mkF T) j i f e d c q⟩⟩
theorem Z8:Ba P w K mg base 2 t.a40 t.d40 ["self","place","rank"] (xh t):=by
 refine T.g40.f.okA q16 λc H Q E h=>⟨?_,λ_ _ _ _ b=>⟨vG K t,(zd (zu q16.nd (j9 (yL b) (zB (L 0) Y) (L 1) (yv ze) ⟨Y,Y,Y,Y⟩)) (zd (zu q16.nd (tD (xC T) T.g20 b zx (za (L 3) (za (zm zU (L 2) zf) ze)))) (zg (zq (vX (zp yu (L 4) (zF zS Y T.q04 yw (za (L 3) ze)) (zA _)) yB (zv zI (L 3) (L 4))))))),ZL (mkF T) h⟩⟩
 obtain⟨m,p,e,F,g,a,d,rfl,_⟩:=h;rfl
theorem Ku:Ba P w K mg base 3 t.a41 t.d41 ["self","place","rank"] (jS t):=by
 refine T.g41.f.okA q0r λr H Q E h=>?_;obtain⟨⟨d,a,v,n,f,o,B,m,y,x,A,z,g,e,u,G⟩,p,C,s,rfl,l,k,j,i,q⟩:=h;exact⟨Y,λ_ _ _ _ c=>⟨Ym K t,(zd (zu q0r.nd (j9 (yL c) (zB (L 0) Y) (L 1) (yv ze) ⟨Y,Y,Y,Y⟩)) (zd (zu q0r.nd (ua (zB (L 0) Y) T.q0f (Z8 T) T.g40 c zx (za (L 1) (za (L 2) ze)))) (zd (zu q0r.nd (vX (zp Qo (L 4) yB (zA _)) (zF zS Y T.q04 yw (za (L 3) ze)) (tD (xC T) T.g20 c zx (za (L 3) (za (zm zU (L 4) zf) ze))))) (zg (yY b9 Y (yW (xK jo (L 3) (xo (tD (xC T) T.g20 c zx (za (L 3) (za (zm zU (L 2) zf) ze)))) (xo (L 5)))) (ya q0r.nd) (zg (wz (yL c) (zB (L 0) Y) (L 6) (jY (b:=ah)) Y))))))),Jx (dkF T) l k j i q⟩⟩
theorem Wj:Ba P w K mg base 4 t.a42 t.d42 ["self","rank","paper"] (wR t):=by
 refine T.g42.f.okA q0s λA H Q E h=>?_;obtain⟨⟨d,a,C,n,f,z,O,y,I,G,N,M,g,i,B,CC⟩,r,ac,s,J,rfl,x,v,u,p,o,m,l,k,j,e,q⟩:=h;exact⟨Y,λ_ _ _ _ c=>⟨kK K t,(zd (zu q0s.nd (ua (zB (L 0) Y) T.q0f (we T) T.g36 c zx (za (L 1) ze))) (zd (zN (ua (zB (L 0) Y) T.q0f (zap T) T.g39 c zx (za (L 1) (za (zv zQ (L 2) zf) ze)))) (zd (yY b9 Y (yW (zm YB (L 3) (ua (zB (L 0) Y) T.q0f (we T) T.g36 c zx (za (L 1) ze)))) (ya q0s.nd) (zg (zN (ua (L 0) T.q0j (Ku T) T.g41 c zx (za (L 4) (za (L 1) ze)))))) (zd (wz (yL c) (zB (L 0) Y) (L 1) (L 2) Y) (zd (wz (yL c) (zB (L 0) Y) (L 1) (jY (b:=ah)) Y) (zg (yY b9 Y (yW (zv zQ (L 2) zf)) (Yw Y (y7 (ya q0s.nd) (y7 (ya q0s.nd) kT))) (zg (zN (tD (WS T) T.g38 c zx (za (zB (L 0) Y) (za (L 4) (za (L 1) ze))))))))))))),XG (dkF T) x v u p o m l k j e q⟩⟩
theorem qC:Ba P w K mg base 2 t.a43 t.d43 ["self"] (xR t):=by
 refine T.g43.f.okA q1j λc H Q E h=>⟨?_,λ_ _ _ _ b=>⟨Xr K t,(zd (zH (jQ (xn (Z2 (L 0) T.q06 (vt T) T.g10 b zx))) (zg (zq yB))
   zy) (zd (zu q1j.nd (xQ (WV Y) Y T.q0g wV (za (za1 (zB (L 0) Y)) ze))) (zd (zH (zp jk (zB (L 0) Y) yB (zA _)) (zg (zq (zX (za (zX (za zG (za (zB (L 0) Y) ze))) (za (L 1) (za (yv ze) ze))))))
    zy) (zg (zq (zX (za (zX (za zG (za (xQ JO Y T.b_tuple Y3 (za (zB (L 0) Y) ze)) ze))) (za (L 1) (za (zF (Y9 Y (hu3 b)) Y T.q0v kh (za (za1 (zB (L 0) Y)) ze)) ze))))))))),Kl (rnF T) h⟩⟩
 obtain⟨x,a,C,s,rfl,_⟩:=h;rfl
theorem XN:Ba P w K mg base 10 t.a44 t.d44 ["self","hand"] (wD t):=by
 refine T.g44.f.okA q0t λc H Q E h=>⟨?_,λ_ _ _ _ b=>⟨Xs K t,(zd (zH (PW.pt (YU (zp wL (L 1) zf (zA _)) (kQ (zp zhB (L 1) (zB (L 0) Y) (zA _))))) (zg zax)
   zy) (zd (zH (zp (VJ (yL b)) (L 1) (zB (L 0) Y) (by with_unfolding_all rfl)) (zg (zq (ua (L 0) T.q0e (YS T) T.g35 b zx (za (L 1) ze))))
    zy) (zd (zu q0t.nd (zv zQ (wU (yL b) (zB (L 0) Y) (L 1) (λ_ _=>rfl)) zf)) (zd (zu q0t.nd (zv zQ (wU (yL b) (zB (L 0) Y) (L 1) (λ_ _=>rfl)) zf)) (zd (zH (xn (Z2 (L 3) T.q06 (vt T) T.g10 b zx)) (zd (zN (Vx (zB (L 0) Y) (L 1) ⟨Y,Y,Y,Y⟩)) (zd (zN (ua (zB (L 0) Y) T.q0j (Wj T) T.g42 b zx (za (L 2) (za (Z2 (L 3) T.q06 (qC T) T.g43 b zx) ze)))) (zg (zq (zX (za zG (za (L 1) (za (L 2) ze))))))))
   zy) (zd (zu q0t.nd (Z2 (L 3) T.q06 (zbM T) T.g18 b zx)) (zd (zH (zp Qo (L 4) yB (zA _)) (zd (zN (KY (L 3) T.q06 T.me_Run_step (hZ.mono (jO T) ()) b T.bd_Run_step zx)) (zg (zq (zX (za zG (za (L 1) (za (L 2) ze)))))))
   zy) (zd (zu q0t.nd (ua (zB (L 0) Y) T.q0f (Yr T) T.g21 b zx (za (L 4) (za (L 2) ze)))) (zd (zN (Qs (L 3) T.q06 T.me_Run_step (hZ.mono (jO T) ()) b T.q1q .nil zx (za (L 5) ze))) (zg (zq (zX (za zG (za (L 1) (za (L 2) (za (L 4) (za (L 5) ze))))))))))))))))),Ke (dkF T) h⟩⟩
 obtain⟨d,a,e,n,f,h,g,i,S,rfl,_⟩:=h;rfl
theorem JH:Ba P w K mg base 11 t.a45 t.d45 ["self"] (wE t):=by
 refine T.g45.f.okA q1k λc H Q E h=>⟨?_,λ_ _ _ _ b=>⟨ZB K t,(zd (zu q1k.nd (yv ze)) (zd (zay b9 (zp wL (Z2 (L 0) T.q0e (vB T) T.g8 b zx) (Z2 (L 0) T.q0e (jN T) T.g9 b zx) (zA _)) (zg (zN (xW bP bY bZ yF (L 1) (za (ua (L 0) T.q0e (XN T) T.g44 b zx (za (zm zP (zF zS Y T.q04 yw (za (L 1) ze)) (zB (L 0) Y)) ze)) ze))))) (zg (zq (L 1))))),Ve (dkF T) h⟩⟩
 obtain⟨d,a,e,n,f,g,i,S,J,rfl,_⟩:=h;rfl
theorem WT:Ba P w K mg base 2 t.a46 t.d46 ["self","code"] (vi t):=by
 refine T.g46.f.okA q1l λc H Q E h=>⟨?_,λ_ _ _ _ b=>⟨WO K t,(zd (zu q1l.nd (Z2 (L 0) T.q0e (jN T) T.g9 b zx)) (zd (zN (xW bP bY bZ yF (zB (L 0) Y) (za (xQ vK Y T.q0g wV (za (L 1) ze)) ze))) (zd (zN (xW bP bY bZ yF (zB (L 0) Y) (za (L 2) ze))) (zg (zq (L 2)))))),zab (dkF T) h⟩⟩
 obtain⟨d,v,a,e,n,f,g,i,C,S,rfl,_⟩:=h;rfl
theorem JI:Ba P w K mg base 1 t.a47 t.d47 ["waiting","kind","count"] (wG ):=by
 refine T.g47.f.okA V8 λb H Q E h=>⟨?_,λ_ _ _ _ d=>⟨ZC K t,(zd (zH (zp yu (L 1) zf (zA _)) (zg (zq (zv zI (L 0) zf)))
   zy) (zd (zH (zp yu (L 1) zf (zA _)) (zg (zq (zv zI (L 0) (Vr Yy zf))))
    zy) (zg (zq (zv zI (L 0) (zm zP (L 2) (zF zS Y T.q04 yw (za (L 0) ze)))))))),Vf h⟩⟩
 obtain⟨l,a,k,c,rfl,_⟩:=h;rfl
theorem zaq:Ba P w K mg base 1 t.a48 t.d48 ["table","laid","place","rank"] (vT ):=by
 refine T.g48.f.okA q0n λb H Q E h=>⟨?_,λ_ _ _ _ a=>⟨Xt K t,(zd (yY b9 Y (yW (zgZ Y Y T.q0v kh (za (L 1) ze))) (ya q0n.nd) (zg (zH (zp wL (L 4) (L 3) (zA _)) (zg (yY b9 Y (yW (wU (yL a) (L 1) (L 4) (λ_ _=>rfl))) (Yw Y (y7 (ya q0n.nd) (y7 (ya q0n.nd) kT))) (zg (zH (zp (zaW (QG a)) (L 5) (L 2) (zA _)) (zg (zq (L 6)))
   zy))))
   zy))) (zd (yY b9 Y (yW (L 0)) (Yw Y (y7 (ya q0n.nd) (y7 (ya q0n.nd) kT))) (zg (zH (zp (zaW (QG a)) (L 5) (L 2) (zA _)) (zg (zq (L 6)))
    zy))) (zg (zq zf)))),Ki h⟩⟩
 obtain⟨c,j,p,l,g,k,d,i,f,e,rfl,_⟩:=h;rfl
theorem XO:Ba P w K mg base 2 t.a49 t.d49 ["table","laid","paper","rank"] (wF ):=by
 refine T.g49.f.okA q0z λb H Q E h=>⟨?_,λ_ _ _ _ a=>⟨Xu K t,(zd (yY b9 Y (yW (zv zQ (L 2) zf)) (Yw Y (y7 (ya q0z.nd) (y7 (ya q0z.nd) kT))) (zd (zu q0z.nd (tD (zaq T) T.g48 a zx (za (L 0) (za (L 1) (za (L 4) (za (L 3) ze)))))) (zg (zH (zp Z9 (L 6) (L 5) (zA _)) (zg (zq (zX (za (L 4) (za (L 5) (za (L 6) ze))))))
    zy)))) (zg (zq yB))),Kj h⟩⟩
 obtain⟨c,k,r,f,m,o,n,g,e,l,d,j,i,rfl,_⟩:=h;rfl
theorem zbO:Ba P w K mg base 3 t.a50 t.d50 ["hand","table","laid","papers","done","first","waiting","kind","count"] (jH ):=by
 refine T.g50.f.okA q17 λb H Q E h=>⟨?_,λ_ _ _ _ a=>⟨WP K t,(zd (zH (PW.pt (kR (zp wL (L 4) (zF zS Y T.q04 yw (za (L 3) ze)) (zA _)) (vI (zp jk (zv zI (L 3) (L 4)) yB (zA _))))) (zg (zH (zp Qo (tD (XO T) T.g49 a zx (za (L 1) (za (L 2) (za (zv zI (L 3) (L 4)) (za (zm zU (L 5) (L 4)) ze))))) yB (zA _)) (zg (zq (zX (za zG (za (L 0) (za (zm zU (L 5) (L 4)) ze))))))
   zy))
   zy) (zd (yY b9 Y (zdE Y T.q0k (za (L 4) (za (zF zS Y T.q04 yw (za (L 3) ze)) ze))) (ya q17.nd) (zg (zH (zp jk (zv zI (L 3) (L 9)) yB (zA _)) (zd (zu q17.nd (tD (XO T) T.g49 a zx (za (L 1) (za (L 2) (za (zv zI (L 3) (L 9)) (za (zm zU (L 5) (L 9)) ze)))))) (zg (zH (zp jk (L 10) yB (zA _)) (zg (zq (zX (za zG (za (L 0) (za (zm zU (L 5) (L 9)) (za (zv zQ (L 10) zf) (za (zv zQ (L 10) zf) (za (zv zQ (L 10) zf) ze)))))))))
    zy)))
    zy))) (zd (zH (zp (VB (QG a)) (L 6) (yv ze) (zA _)) (zg (zq (zX (za zG (za (L 0) ze)))))
    zy) (zg (zq (zX (za zG (za (L 0) (za (tD (JI T) T.g47 a zx (za (L 6) (za (L 7) (za (L 8) ze)))) ze))))))))),zac h⟩⟩
 obtain⟨h,f,n,c,m,j,l,g,o,d,k,i,q,S,p,e,rfl,_⟩:=h;rfl
theorem JJ:Ba P w K mg base 10 t.a51 t.d51 ["run","row","rank","laid","papers","first"] (xN t):=by
 refine T.g51.f.okA V9 λb H Q E h=>⟨?_,λ_ _ _ _ a=>⟨ZE K t,(zd (zH (xn (Z2 (L 0) T.q06 (vt T) T.g10 a zx)) (zd (Xa (L 4) (zm vy (L 2) (L 5)) (Z2 (L 0) T.q06 (qC T) T.g43 a zx) Y) (zd (wz (yL a) (L 3) (L 2) (zv zQ (Z2 (L 0) T.q06 (qC T) T.g43 a zx) zf) Y) (zg (zq yB))))
   zy) (zd (zH (PW.pt (kR (zp yu (zv zQ (L 1) zf) zG (zA _)) (vI (zp yu (zF zS Y T.q04 yw (za (L 1) ze)) zf (zA _))))) (zg (zN (Qs (L 0) T.q06 T.me_Run_step (hZ.mono (jO T) ()) a T.q1q .nil zx (za (zv zQ (L 1) zf) ze)))) (zg (zN (KY (L 0) T.q06 T.me_Run_step (hZ.mono (jO T) ()) a T.bd_Run_step zx)))) (zg (zq (L 0))))),Vg h⟩⟩
 obtain⟨v,h,r,f,x,m,i,c,C,s,j,k,e,g,n,l,d,rfl,_⟩:=h;rfl
theorem Yt:∀n,hZ P w K mg base (ud P w) (1+n) t.a52 t.d52 ["found","due"] (x6 n):=by
 intro n;induction n with
 |zero=>exact⟨λc H Q E h=>(ZN h).elim,λA a s H e g c Q E d j l i h=>(ZN h).elim⟩
 |succ n IH =>
 refine T.g52.f.okA q18 (k:=1+n) λc H Q E h=>?_;obtain⟨v,u,rfl,f,q⟩:=h;exact⟨Y,λ_ _ _ _ d=>⟨jW K t n,(zd (zH (PW.pt (YU (xn (zF y8 Y T.q0b yd (za (L 1) (za (xD Y T.q0g wV Y) ze)))) (kQ (xn (zF y8 Y T.q0b yd (za (L 1) (za (xD Y T.b_tuple Y3 Y) ze))))))) (zd (zH (PW.pt (kR (jQ (xn (zF y8 Y T.q0b yd (za (L 0) (za (xD Y T.q0g wV Y) ze))))) (vI (jQ (xn (zF y8 Y T.q0b yd (za (L 0) (za (xD Y T.b_tuple Y3 Y) ze)))))))) (zg (zq (jY (b:=ao))))
   zy) (zd (zH (PW.pt (YU (zp Z9 (zF y8 Y T.q0b yd (za (L 0) (za (xD Y T.q0g wV Y) ze))) (zF y8 Y T.q0b yd (za (L 1) (za (xD Y T.q0g wV Y) ze))) (zA _)) (kQ (zp Z9 (zF zS Y T.q04 yw (za (L 0) ze)) (zF zS Y T.q04 yw (za (L 1) ze)) (zA _))))) (zg (zq (jY (b:=ao))))
    zy) (zd (yY b9 Y (zik Y T.b_zip (za (L 0) (za (L 1) ze))) (Yw Y (y7 (ya q18.nd) (y7 (ya q18.nd) kT))) (zg (zH (jQ (xn (YW (hZ.mono IH ()) d Y T.g52.m T.g52.f.kp T.g52.b .nil zx (za (L 2) (za (L 3) ze))))) (zg (zq (jY (b:=ao))))
    zy))) (zg (zq (jY (b:=ah)))))))
   zy) (zd (zH (xn (zF y8 Y T.q0b yd (za (L 1) (za (xD Y T.q1b zb7 Y) ze)))) (zg (zq (zbR (zF y8 Y T.q0b yd (za (L 0) (za (xD Y T.q1b zb7 Y) ze))) (Qm (YV yu (L 0) (L 1) (zA _))))))
    zy) (zg (zq (zbR (zF y8 Y T.q0b yd (za (L 0) (za (xD Y T.b_int zeD Y) ze))) (zbR (zh3 (zF y8 Y T.q0b yd (za (L 0) (za (xD Y T.q1s zc1 Y) ze)))) (Qm (YV yu (L 0) (L 1) (zA _))))))))),JA (kf K) f q⟩⟩
theorem Yu:Ba P w K mg base 11 t.a53 t.d53 ["row","hand","codes","table","first","kind","runs","ranks","laid","papers","waiting","counts"] (xB t):=by
 refine T.g53.f.okA q1m λi H Q E h=>⟨?_,λ_ _ _ _ a=>⟨Yo K t,(zd (zH (PW.pt (YU (jQ (xn (zF y8 Y T.q0b yd (za (L 0) (za (xD Y T.b_tuple Y3 Y) ze))))) (kQ (zp wL (zF zS Y T.q04 yw (za (L 0) ze)) zf (zA _))))) (zg (zq (jY (b:=ao))))
   zy) (zd (zH (zp jk (zv zI (L 6) (L 1)) yB (zA _)) (zd (Xa (L 6) (L 1) (tD (JJ T) T.g51 a zx (za (zv zI (L 6) (L 1)) (za (L 0) (za (zv zI (L 7) (L 1)) (za (L 8) (za (L 9) (za (L 4) ze))))))) Y) (zg (zq (jY (b:=ah)))))
   zy) (zd (zu q1m.nd (tD (zbO T) T.g50 a zx (za (L 1) (za (L 3) (za (L 8) (za (L 9) (za (zv zI (L 11) zf) (za (L 4) (za (zF (QR Y (hu3 a)) Y T.q0v kh (za (L 10) ze)) (za (L 5) (za (zv zI (L 11) zf) ze))))))))))) (zd (zH (jQ (xn (tD (Yt T 3) T.g52 a zx (za (L 0) (za (L 12) ze))))) (zg (zq (jY (b:=ao))))
    zy) (zd (zH (zp yu (zv zQ (L 12) zf) zG (zA _)) (zg (zdd (L 11) zf zf zbW (λ_ _ _=>rfl)))
    zy) (zd (zH (zp yu (zv zQ (L 12) zf) zG (zA _)) (zd (Xa (L 9) (zm vy (zv zQ (L 12) zf) (L 4)) yB Y) (zg (zN (xW bP bY bZ yF (L 10) (za (zv zQ (L 12) zf) ze)))))
   zy) (zd (zH (zp yu (zv zQ (L 12) zf) zG (zA _)) (zd (zdd (L 11) zf zf zbW (λ_ _ _=>rfl)) (zd (zN (xW bP gZ ib X5 (L 10) (za (zv zQ (L 12) zf) ze))) (zd (Xa (L 6) (L 1) (YX T.mk_Run (hZ.mono (WR T) ()) a Y T.g_Run T.q1r .nil zx (za (zv zI (L 2) (zm vy (zv zQ (L 12) zf) (L 4))) ze)) Y) (zg (Xa (L 7) (L 1) (zv zQ (L 12) zf) Y)))))
   zy) (zg (zq (jY (b:=ah))))))))))),JB (kf K) h⟩⟩
 obtain⟨v,h,f,n,l,j,B,k,c,d,g,o,S,m,e,rfl,_⟩:=h;rfl
theorem zar:Ba P w K mg base 12 t.a54 t.d54 ["desk","hands","codes","table","first","kind","asked","script"] (vU K t):=by
 refine T.g54.f.okA q09 λe H Q E h=>⟨?_,λ_ _ _ _ b=>⟨Xv K t,(zd (zu q09.nd (yv ze)) (zd (k7 (j:=9) q09.nd Y Y (mh Y) (osc:=zk jB) (N:=["desk","hands","codes","table","first","kind","asked","script","papers","runs","ranks","laid","waiting","counts","cell","hand","row","code","rows"]) (xs:=["k"]) (ix:=[]) () (vV Y T.q0k (za (L 1) ze)) (λ_ _ _ _=>(kS (i:=0) (show iL (["k"]:List Str) from ()) Y (mh Y) (.inr Y))) (λ_ _ _ _=>ZU) (λ_ _ _ _=>yB)) (zd (k7 (j:=10) q09.nd Y Y (mh Y) (osc:=zk jB) (N:=["desk","hands","codes","table","first","kind","asked","script","papers","runs","ranks","laid","waiting","counts","cell","hand","row","code","rows"]) (xs:=["k"]) (ix:=[4]) () (vV Y T.q0k (za (L 1) ze)) (λ_ _ _ _=>(kS (i:=0) (show iL (["k","first"]:List Str) from ()) Y (mh Y) (.inr Y))) (λ_ _ _ _=>ZU) (λ_ _ _ _=>(L 1))) (zd (zu q09.nd j7) (zd (zu q09.nd (yv ze)) (zd (zu q09.nd (yv (za zf (za (L 6) ze)))) (zd (yY b9 Y (yW (L 7)) (ya q09.nd) (zd (zH (PW.pt (kR (zp wL (zm zP (L 14) zf) zf (zA _)) (vI (zp wL (zF zS Y T.q04 yw (za (L 8) ze)) (zF zS Y T.q04 yw (za (L 2) ze)) (zA _))))) (zd (zN (xW bP bY bZ yF (L 12) (za (zm zU (L 4) (zF zS Y T.q04 yw (za (L 8) ze))) ze))) (zd (zN (ua (L 0) T.q0e (WT T) T.g46 b zx (za (zv zI (L 2) (zF zS Y T.q04 yw (za (L 8) ze))) ze))) (zg (zN (xW bP bY bZ yF (L 8) (za yB ze))))))
   zy) (zd (zu q09.nd (zm zP (zm yb (L 14) zf) (L 1))) (zd (zu q09.nd (ua (L 0) T.q0e (XN T) T.g44 b zx (za (L 15) ze))) (zg (zH (jQ (xn (tD (Yu T) T.g53 b zx (za (L 16) (za (L 15) (za (L 2) (za (L 3) (za (L 4) (za (L 5) (za (L 9) (za (L 10) (za (L 11) (za (L 8) (za (L 12) (za (L 13) ze))))))))))))))) (zg (zq (Vr Yy zf)))
    zy)))))) (zd (yY b9 Y (yW (xK jo (L 2) (xo (zF zS Y T.q04 yw (za (L 8) ze))) kX)) (ya q09.nd) (zd (zN (xW bP bY bZ yF (L 12) (za (zm zU (L 4) (zF zS Y T.q04 yw (za (L 8) ze))) ze))) (zd (zN (ua (L 0) T.q0e (WT T) T.g46 b zx (za (L 17) ze))) (zg (zN (xW bP bY bZ yF (L 8) (za yB ze))))))) (zd (zu q09.nd zf) (zd (zu q09.nd (Z2 (L 0) T.q0e (JH T) T.g45 b zx)) (zd (zH (PW.pt (kR (zp (za7 (QG b)) (L 18) (yv ze) (zA _)) (vI (zp (zfa (QG b)) (xK zia (zv zI (L 18) (Vr Yy zf)) kX (xo zf)) (zX (za zG ze)) (zA _))))) (zg (zq (Vr Yy zf)))
    zy) (zd (yY b9 Y (yW (L 18)) (ya q09.nd) (zd (zH (jQ (xn (tD (Yu T) T.g53 b zx (za (L 16) (za (L 15) (za (L 2) (za (L 3) (za (L 4) (za (L 5) (za (L 9) (za (L 10) (za (L 11) (za (L 8) (za (L 12) (za (L 13) ze))))))))))))))) (zg (zq (Vr Yy zf)))
    zy) (zg (zu q09.nd (zm zP (zm zU (L 15) zf) (L 1)))))) (zg (zq (zv zI (L 13) zf))))))))))))))),Kk h⟩⟩
 obtain⟨d,q,m,s,a,p,n,f,k,c,l,u,g,o,r,rfl,_⟩:=h;rfl
theorem yO:Ba P w K mg base 1 t.a55 t.d55 ["script","k"] (yk K):=by
 refine T.g55.f.okA W0 λb H Q E h=>⟨?_,λ_ _ _ _ d=>⟨qR K t,(zd (zH (zp wL (L 1) (zF zS Y T.q04 yw (za (L 0) ze)) (zA _)) (zg (zq (zv zI (L 0) (L 1))))
   zy) (zg (zq zf))),Wf h⟩⟩
 obtain⟨a,c,k,rfl,_⟩:=h;rfl
theorem JK(n:Nat)(d:Ba P w K mg base (2+2*n) t.a57 t.d57 ["rows","first"] (wt n)):Ba P w K mg base (2+2*n+1) t.a56 t.d56 ["row","at"] (Zp n):=by
 refine T.g56.f.okA q10 (k:=2+2*n) λl H Q E h=>?_;obtain⟨v,e,a,b,k,rfl,j,i,g,f,q⟩:=h;exact⟨Y,λ_ _ _ _ c=>⟨ZI K t n,(zd (zu q10.nd (YW (hZ.mono d ()) c Y T.g57.m T.g57.f.kp T.g57.b .nil zx (za (zv zQ (L 0) zf) (za (zm zU (L 1) zf) ze)))) (zd (zu q10.nd (zm zU (zm zU (L 1) zf) (zF zS Y T.q04 yw (za (L 2) ze)))) (zd (zH (zp (VB (QG c)) (zv zQ (L 0) zf) (yv ze) (zA _)) (zg (zq (zm YB (yv (za (zX (za zG (za (zv zQ (L 0) zf) (za (L 3) ze)))) ze)) (L 2))))
    zy) (zd (zu q10.nd (YW (hZ.mono d ()) c Y T.g57.m T.g57.f.kp T.g57.b .nil zx (za (zv zQ (L 0) zf) (za (zm zU (L 3) zf) ze)))) (zg (zq (zm YB (zm YB (zm YB (yv (za (zX (za zG (za (zv zQ (L 0) zf) (za (zm zU (L 3) zf) ze)))) ze)) (L 2)) (yv (za (zX (za zG (za (zm zU (zm zU (L 3) zf) (zF zS Y T.q04 yw (za (L 4) ze))) ze))) ze))) (L 4)))))))),Vd j i g f q⟩⟩
theorem zbP:∀n,hZ P w K mg base (ud P w) (2+2*n) t.a57 t.d57 ["rows","first"] (wt n):=by
 intro n;induction n with
 |zero=>exact⟨λb H Q E h=>(Xx h).elim,λA a s H d i b Q E c l m j h=>(Xx h).elim⟩
 |succ n IH =>
 refine T.g57.f.okA q19 (k:=2+2*n+1) λb H Q E h=>?_;obtain⟨v,r,k,rfl,g,f,e,q⟩:=h;exact⟨Y,λ_ _ _ _ c=>⟨WQ K t n,(zd (zu q19.nd (yv ze)) (zd (yY b9 Y (yW (L 0)) (ya q19.nd) (zg (zH (zp yu (zv zQ (L 3) zf) zG (zA _)) (zg (zN (xW bP PySem.F.slot_list_extend PySem.F.type_list_extend zdM (L 2) (za (YW (hZ.mono (JK T n IH) ()) c Y T.g56.m T.g56.f.kp T.g56.b .nil zx (za (L 3) (za (zm zU (L 1) (zF zS Y T.q04 yw (za (L 2) ze))) ze))) ze)))) (zg (zN (xW bP bY bZ yF (L 2) (za (L 3) ze))))))) (zg (zq (L 2))))),QZ g f e q⟩⟩
theorem zcK:Ba P w K mg base 15 t.a58 t.d58 ["rows"] (YJ):=by
 refine T.g58.f.okA zcu λe H Q E h=>?_;obtain⟨v,r,rfl,d,c,b,q⟩:=h;exact⟨Y,λ_ _ _ _ a=>⟨Jm K t,(zg (zq (tD (zbP T 6) T.g57 a zx (za (L 0) (za zf ze))))),zbJ d c b q⟩⟩
theorem Vi:Ba P w K mg base 1 t.a59 t.d59 ["self"] (qJ t):=by
 refine T.q22.ok0 W1 (λb H Q E h=>?_) (λe A a s H b Q E g h=>?_)
 .obtain⟨x,d,rfl,_⟩:=h;rfl
 obtain⟨x,d,rfl,c,q⟩:=h;exact⟨qS K t,(zg (yC (f:="times") (L 0) zf Y)),Wc (dkF T) c q⟩
theorem zas:Ba P w K mg base 2 t.a60 t.d60 ["number","slots"] (vQ):=by
 refine T.g60.f.okA q1n λd H Q E h=>⟨?_,λ_ _ _ _ b=>⟨qv K t,(zd (zu q1n.nd (zm zP (L 0) zf)) (zd (zH (zp wL (L 2) zf (zA _)) (zg (zq (zX (za (zm zP (zm yb (L 0) zf) zf) ze))))
    zy) (zd (zH (zp yu (L 2) zf (zA _)) (zg (zq (zX (za (zv zI (L 1) (zm zP (zm yb (L 0) zf) zf)) ze))))
    zy) (zd (zH (PW.pt (kR (zp yu (L 2) zf (zA _)) (vI (zp yu (zm zP (zm yb (L 0) zf) zf) zf (zA _))))) (zg (zq (zX (za zf (za (zv zI (L 1) (zm zP (zm yb (L 0) zf) zf)) (za zG ze))))))
    zy) (zd (zH (zp yu (L 2) zf (zA _)) (zg (zq (zX (za (zv zI (L 1) (zm zP (zm yb (L 0) zf) zf)) (za zf (za zG ze))))))
    zy) (zg (zq (zX (za (tD (wJ T) T.g3 b zx (za (zm yb (L 0) zf) ze)) ze))))))))),Kb h⟩⟩
 obtain⟨n,a,c,rfl,_⟩:=h;rfl
theorem XQ:Ba P w K mg base 2 t.a61 t.d61 ["number","slots"] (wB):=by
 refine T.g61.f.okA q1a λd H Q E h=>⟨?_,λ_ _ _ _ b=>⟨qw K t,(zd (zu q1a.nd (yv (za zG (za zG (za zG (za zG (za zG (za zG (za zG ze))))))))) (zd (zu q1a.nd (zm zP (L 0) zf)) (zd (zH (zp yu (L 3) zf (zA _)) (zg (zq (zX (za (tD (wJ T) T.g3 b zx (za (zm yb (L 0) zf) ze)) ze))))
    zy) (zd (zH (zp yu (L 3) zf (zA _)) (zg (zq (zX (za (zv zI (L 1) (zm zP (zm yb (L 0) zf) zf)) ze))))
    zy) (zd (zH (zp yu (zm zP (zm yb (L 0) zf) zf) zf (zA _)) (zg (zq (zX (za (zv zI (L 1) (zm zP (zm yb (L 0) zf) zf)) (za (tD (wJ T) T.g3 b zx (za (zm yb (L 0) zf) ze)) (za (zv zI (L 2) (zm vy (L 3) zf)) ze))))))
    zy) (zg (zq (zX (za (zv zI (L 1) (zm zP (zm yb (L 0) zf) zf)) (za (zv zI (L 1) (zm zP (zm yb (L 0) zf) zf)) (za (zv zI (L 2) (zm vy (L 3) zf)) ze))))))))))),Kc h⟩⟩
 obtain⟨n,a,c,rfl,_⟩:=h;rfl
theorem zbQ:Ba P w K mg base 3 t.a62 t.d62 ["xs","shelves","slots"] (jG):=by
 refine T.g62.f.okA q0o λe H Q E h=>⟨?_,λ_ _ _ _ c=>⟨ZJ K t,(zd (zu q0o.nd (zm zP (zv zI (L 0) zf) zf)) (zd (zu q0o.nd (zv zI (L 1) (zm zP (zm yb (zv zI (L 0) zf) zf) zf))) (zd (zu q0o.nd (zv zI (L 2) (zm zP (zm yb (zv zI (L 0) zf) zf) zf))) (zd (zu q0o.nd (tD (zas T) T.g60 c zx (za (zv zI (L 0) zf) (za (L 2) ze)))) (zd (zu q0o.nd (tD (XQ T) T.g61 c zx (za (zv zI (L 0) zf) (za (L 2) ze)))) (zd (zH (zp wL (L 3) zf (zA _)) (zg (zq (zX (za zG (za (L 4) (za (L 6) (za (L 5) ze)))))))
    zy) (zd (zH (zp wL (L 3) zf (zA _)) (zg (zq (zX (za zG (za (L 4) (za (L 6) (za (L 7) ze)))))))
    zy) (zd (zH (zp yu (L 3) zf (zA _)) (zg (zq (zX (za zG (za (L 5) (za (L 7) ze))))))
    zy) (zd (zH (zp yu (L 3) zf (zA _)) (zg (zq (zX (za zG (za (L 7) ze)))))
    zy) (zg (zq (zX (za zG (za (zX (za (L 5) (za (zm zU (zm zP (zv zI (L 0) zf) zf) zf) (za zG ze)))) ze)))))))))))))),zal h⟩⟩
 obtain⟨p,a,b,g,f,d,rfl,_⟩:=h;rfl
theorem zat:Ba P w K mg base 4 t.a63 t.d63 ["cell","shelves","slots"] (vR):=by
 refine T.g63.f.okA q0i λf H Q E h=>⟨?_,λ_ _ _ _ d=>⟨Xw K t,(zd (XT (i:=3) q0i.nd Y (pP Y) (tD (jX T) T.g1 d zx (za (L 0) (za zf ze)))) (zd (k7 (j:=4) q0i.nd Y Y (mh Y) (osc:=zk Zn) (N:=["cell","shelves","slots","xs","rows","at","to","row"]) (xs:=["k"]) (ix:=[3,1,2]) () (vV Y T.q0k (za (zm zP (L 0) zf) ze)) (λ_ _ _ _=>(kS (i:=0) (show iL (["k","xs","shelves","slots"]:List Str) from ()) Y (mh Y) (.inr Y))) (λ_ _ _ _=>ZU) (λ_ _ _ _=>(tD (zbQ T) T.g62 d zx (za (xK jo (L 1) (xo (zm wW zf (L 0))) (xo (zm zU (zm wW zf (L 0)) zf))) (za (L 2) (za (L 3) ze)))))) (zd (zH (zp yu (zm zP (zm yb (L 0) zf) zf) zf (zA _)) (zd (zu q0i.nd (zm zP (zv zI (L 3) zf) (zm zU (zF zS Y T.q04 yw (za (L 4) ze)) zf))) (zd (zu q0i.nd (zm zU (L 5) (zm zP (zv zI (L 3) zf) (zm vy (zm zU (zF zS Y T.q04 yw (za (L 4) ze)) zf) (L 5))))) (zd (zu q0i.nd (zX (za zG (za (tD (XQ T) T.g61 d zx (za (zv zI (L 3) zf) (za (L 2) ze))) (za (xK jo (L 4) (xo (L 5)) (xo (L 6))) (za (xK jo (L 4) kX (xo (zm zP (zv zI (L 3) zf) zf))) ze)))))) (zg (zu q0i.nd (zm YB (zm YB (xK jo (L 4) kX (xo (L 5))) (yv (za (L 7) ze))) (xK jo (L 4) (xo (L 6)) kX)))))))
   zy) (zg (zq (L 4)))))),Kd h⟩⟩
 obtain⟨c,a,b,g,e,rfl,_⟩:=h;rfl
theorem ok_law:Ba P w K mg base 16 t.a64 t.d64 ["script"] (sp_law K):=by
 refine T.q24.ok0 q0a (λe H Q E h=>?_) (λf A d s H e Q E c h=>?_)
 .obtain⟨a,g,rfl,_⟩:=h;rfl
 exact⟨zfI K t,(zd (XT (i:=1) q0a.nd Y (pP Y) (tD (XL T) T.g2 c zx (za (tD (yO T) T.g55 c zx (za (L 0) (za zf ze))) ze))) (zd (XT (i:=2) q0a.nd Y (pP Y) (tD (XL T) T.g2 c zx (za (tD (yO T) T.g55 c zx (za (L 0) (za zf ze))) ze))) (zd (zu q0a.nd (tD (Kr T) T.g4 c zx (za (zm yb (tD (yO T) T.g55 c zx (za (L 0) (za zf ze))) zf) (za (L 1) ze)))) (zd (k7 (j:=4) q0a.nd Y Y (mh Y) (osc:=zk zfG) (N:=["script","shelves","slots","table","codes","hands","kind","first","way","asked","k","desk","count"]) (xs:=["cell"]) (ix:=[1,2]) () (yW (xK jo (L 0) (xo zf) (xo zf))) (λ_ _ _ _=>(kS (i:=0) (show iL (["cell","shelves","slots"]:List Str) from ()) Y (mh Y) (.inr Y))) (λ_ _ _ _=>ZU) (λ_ _ _ _=>(tD (zcK T) T.g58 c zx (za (tD (zat T) T.g63 c zx (za (L 0) (za (L 1) (za (L 2) ze)))) ze)))) (zd (zu q0a.nd (zm zU zf (zm zP (tD (yO T) T.g55 c zx (za (L 0) (za zf ze))) zf))) (zd (zu q0a.nd (zm zP (zm yb (tD (yO T) T.g55 c zx (za (L 0) (za zf ze))) zf) zf)) (zd (zu q0a.nd (zm zP (zm zgW (zm yb (tD (yO T) T.g55 c zx (za (L 0) (za zf ze))) zf) (zm Yx zf zf)) (zm vy (zm Yx zf zf) zf))) (zd (zu q0a.nd (zba T.mo_Way Y T.g_Way)) (zd (zH (zp yu (L 6) zf (zA _)) (zg (zu q0a.nd (zba T.mo_Highest Y T.g_Highest)))
    zy) (zd (zH (zp yu (L 6) zf (zA _)) (zg (zu q0a.nd (zet T.mk_Turning (hZ.mono (Vi T) ()) c Y T.g_Turning T.q23 .nil zx)))
    zy) (zd (zu q0a.nd (zm zP (tD (yO T) T.g55 c zx (za (L 0) (za zf ze))) zf)) (zd (yY b9 Y (vV Y T.q0k (za (L 9) ze)) (ya q0a.nd) (zg (zN (zbb (L 8) (ZW (KZ T.q1o T.g30.me (hZ.mono (jP T) ()) c T.g30.b) (ZW (KZ T.q11 T.g31.me (hZ.mono (wK T) ()) c T.g31.b) (ZW (KZ T.q1p T.g32.me (hZ.mono (Ys T) ()) c T.g32.b) zfC))) zx (za (yv (za (L 10) ze)) ze))))) (zd (zu q0a.nd (YX T.mk_Desk (hZ.mono (zan T) ()) c Y T.g_Desk T.q1z .nil zx (za (xQ vK Y T.q0g wV (za (L 3) ze)) (za (L 5) (za (L 8) (za (L 7) ze)))))) (zd (zu q0a.nd (tD (zar T) T.g54 c zx (za (L 11) (za (L 5) (za (L 4) (za (L 3) (za (L 7) (za (L 6) (za (L 9) (za (L 0) ze)))))))))) (zd (zH (PW.pt (YU (zp wL (L 12) zf (zA _)) (kQ (zp Z9 (Z2 (L 11) T.q0e (vB T) T.g8 c zx) (zm zU (L 7) (zF zS Y T.q04 yw (za (L 4) ze))) (zA _))))) (zg (zq (jY (b:=ao))))
    zy) (zg (zq (zhx (YV Z9 (L 6) zf (zA _)) (Qm (tD (Yt T 3) T.g52 c zx (za (ua (L 8) T.q11 (wK T) T.g31 c zx (za (yv (za zf (za zf (za zf (za zf (za zf ze)))))) ze)) (za (zm zP (L 12) zf) ze)))))))))))))))))))))),zhv h⟩
end
end K44
open PySem PySem.W PyProof.Rows
local macro_rules|`(#where)=>do
 let f:=λ(s:String)(l:List Nat)=>l.map λi=>Lean.Name.str `PySem.Challenge.cw_forerun_k44_settled_and_again_holds s!"{s}_{i}"
 return Lean.mkNullNode (←(f "heap" [39,46,749]++f "tree" [47,70,85,100,115,156,240,241,300,338,425,426,526,570,592,642,722,748]++f "view" [39]++f "sts" [49,71,86,101,116,157,241,243,301,339,426,428,527,571,593,643,723]++f "o" (List.range' 43 706)++f "env" [41]++[`PySem.Challenge.pw_forerun_k44_settled_and_again,`PySem.Challenge.rw_forerun_k44_settled_and_again]).toArray.mapM λn=>do return (←`(command|def $(Lean.mkIdent (.str `PySem.W.Fast s!"tw{n.hash}")):ident :=Nat)).raw)
#where
set_option maxRecDepth 100000 in
set_option maxHeartbeats 0 in
theorem PySem.Challenge.cw_forerun_k44_settled_and_again_holds : PySem.Challenge.rw_forerun_k44_settled_and_again.Holds := by
 w_on; o_law; k_head; (case hw => w_witness2)
 k_fill
 refine L2.walk_ofXB (l := PySem.Challenge.rw_forerun_k44_settled_and_again) (n := 63) (k := 16) (x := "script") (sp := K44.sp_law) Y (by decide) Y ⟨Y,by decide,by decide⟩ (fun w h Bl => PySem.W.kIn_of Bl) ?F ?S
 case F =>
  intro w mg fa h KX G hmg;have T : ∃ t,K44.Txt (L2.KOf KX) mg t := by
   dsimp only [L2.KOf];exact ⟨.mk ..,by
    constructor
    all_goals try dsimp only
    all_goals first
     | exact PySem.W.mg_of KX G (by k_is)
     | exact ⟨by k_is,by k_is,by k_is,by k_is⟩
     | exact ⟨by k_is,by k_is,by k_is⟩
     | exact ⟨PySem.W.mg_of KX G (by k_is),L2.fun_mk (by k_is) (by k_is) (by k_is),.all (by (repeat refine L2.arS fun _ => ?_); exact L2.ar0 rfl)⟩
     | exact ⟨⟨by k_is,by k_is,by k_is⟩,L2.fun_mk (by k_is) (by k_is) (by k_is),.all (by (repeat refine L2.arS fun _ => ?_); exact L2.ar0 rfl)⟩
     | exact L2.fun_mk (by k_is) (by k_is) (by k_is)
     | exact L2.fun_mkD (by k_is) (by k_is) (by k_is)
     | exact .all (by (repeat refine L2.arS fun _ => ?_); exact L2.ar0 rfl)
     | exact .df rfl (by k_is) (by (repeat refine L2.arS fun _ => ?_); exact L2.ar0 fun _ e => .of_defaults rfl e rfl rfl rfl)
     | exact ⟨_,.cons ⟨_,rfl⟩ .nil,.df rfl (by k_is) (by (repeat refine L2.arS fun _ => ?_); exact L2.ar0 fun _ e => .of_defaults rfl e rfl rfl rfl)⟩
     | exact fun _ _ => .of_eq rfl
     | exact PySem.W.mg_none_of KX G (by k_is)
     | exact fun _ => .inr ⟨_,_,_,by k_is,Y,Y,by decide,.cons ⟨_,Y⟩ (.cons ⟨_,Y⟩ (.cons ⟨_,Y⟩ (.cons ⟨_,Y⟩ (.cons ⟨_,Y⟩ (.cons ⟨_,Y⟩ (.cons ⟨_,Y⟩ .nil))))))⟩
     | exact L2.QX.to ⟨_,by k_is,by k_is,by k_is,by k_is,by k_is,by k_is,by k_is,by k_is⟩
     | (show _ = _; first | k_is | k_exc | kernel_rfl)⟩
  obtain ⟨t,T⟩ := T;have e0 := hmg.symm.trans T.m_law;cases e0;exact ⟨_,T.w_law,fun base _ _ => K44.ok_law T⟩
 case S => exact fun K H a ns hl hb _ hS => ⟨a,ns,rfl,hS,hl,hb,fun _ => rfl⟩
