import PyProof.Rows.All
import Wide.All
import OpenK.AllK
import PySem.Challenge.RW_forerun_k55_whole_any_order_that_keeps
open Array renaming length_toList→cy,getElem?_eq_getElem→cF,getElem?_toList→dF,toList_inj→fI,getD_eq_getD_getElem?→fV,perm_iff_toList_perm→gv,getElem?_eq_none→gS,getElem?_map→nY
open Array.Perm renaming trans→mK,mem_iff→nX,refl→pi
open Bool renaming false_ne_true→bO,and_eq_true→b9,not_eq_true'→cB,false_eq_true→cG,or_eq_false_iff→iP,eq_iff_iff→iZ,or_eq_true→lG,or_false→nU,eq_false_iff→oA
open Break.runK renaming match_1→eQ
open Classical renaming epsilon_spec→gU,epsilon→mq
open False renaming elim→cJ
open ForInStep renaming yield→fU
open Int renaming emod_lt_of_pos→cD,emod_nonneg→cL,toNat_natCast→eY,toNat_of_nonneg→fA,reducePow→fC,reduceNeg→gr,ediv_nonneg→lF,reduceToNat→m8,zero_add→nk,ediv_le_self→oU
open Int.ofNat renaming inj→pJ
open LawfulBEq renaming eq_of_beq→lh
open List renaming getElem?_eq_getElem→ba,getElem?_cons_zero→bb,getElem?_cons_succ→bd,getD_eq_getElem?_getD→bh,getElem?_eq_some_iff→bn,set_cons_zero→br,length_append→bt,length_map→bu,set_cons_succ→bx,append_nil→bB,mem_cons_self→bC,mem_of_getElem?→bD,mem_cons_of_mem→bE,mem_append→bF,replicate→bG,range→bI,length→bJ,size_toArray→bN,cons_append→bP,take_of_length_le→bQ,mem_cons→bS,mem_append_right→bT,getElem?_map→bW,mem_singleton→b5,map_cons→b7,nil_append→b8,pairwise_append→ca,append_assoc→cb,mem_map→cj,length_take→cm,map→cr,length_cons→cA,length_drop→cC,mem_append_left→cE,getElem?_append_right→cI,lookup_cons→cK,mem_range→cP,map_append→cQ,getElem?_eq_none→cR,take_append_drop→cS,drop_eq_getElem_cons→cU,getElem?_of_mem→cV,take_add_one→cX,all_eq_true→cZ,getElem?_append_left→c8,pairwise_iff_getElem→c9,length_range→db,nodup_cons→dk,mem_map_of_mem→dt,drop_zero→du,getElem?_take_of_lt→dC,length_singleton→dE,getElem?_drop→dI,mem_of_mem_take→dJ,getElem_mem→dM,mem_filter→dQ,map_map→dR,take_length→dY,not_mem_nil→ee,foldl_cons→eF,map_congr_left→eG,ext_getElem?→eZ,pairwise_map→fc,Nodup→ff,mem_singleton_self→fj,getElem?_range→fm,getElem_inj→fD,any_eq_true→fF,eq_nil_of_length_eq_zero→fH,drop_eq_nil_of_le→fL,mem_filterMap→fN,pairwise_cons→fO,length_replicate→fS,find?_cons→fT,perm_append_comm→fX,idxOf_lt_length_of_mem→gd,any_eq_false→gg,all_cons→gh,map_take→gn,mem_of_mem_drop→gB,drop_drop→gG,map_drop→gO,drop_of_length_le→gW,lookup→gY,eraseIdxIfInBounds_toArray→ie,filter_cons→iK,any_cons→iR,filterMap_cons→iY,of_mem_zip→i4,filter_append→lT,nodup_nil→lU,take_zero→lV,getElem?_replicate→mw,drop_length→mJ,getElem?_set_self→mL,length_nil→m3,filterMap_append→nh,range_succ→nj,getElem?_set_ne→nv,reverse_reverse→nD,reverse_append→nM,getElem_idxOf→oh,sum_cons→oj,take_sublist→ou,reverse_cons→oz,foldl_append→oF,toArray→oM,reverse_nil→oQ,nodup_range→oR,mem_reverse→oS,any_append→pj
open List.Pairwise renaming nil→md,imp→oG
open List.Perm renaming append_right→fM,append_left→fW,trans→gP,refl→iu,append→oV
open List.cons renaming injEq→bp
open Nat renaming le_refl→bq,reduceAdd→bL,le_trans→bR,reduceSub→bU,le_succ_of_le→bX,lt_of_le_of_lt→bZ,lt_of_lt_of_le→cg,zero_le→cp,ne_of_lt→cz,sub_add_cancel→dg,succ_le_succ→dz,add_sub_assoc→dG,min_eq_left→eI,ne_of_gt→eL,add_sub_cancel_left→fk,lt_succ_self→fE,le_of_lt→fQ,lt_irrefl→gf,add_sub_add_left→gC,min_eq_right→gH,le_add_right→gI,le_pred_of_lt→ig,lt_of_succ_lt→ii,add_assoc→iT,not_lt_zero→lH,lt_trans→lR,lt_succ_of_le→mj,eq_zero_of_not_pos→mS,le_of_eq→mX,zero_add→m5,sub_le→oE,sub_zero→oK,succ_pos→oO,le_succ→o9
open Ne renaming symm→cH
open Option renaming map_eq_some_iff→dy,isSome_iff_exists→eX,map_some→i7,isSome_map→l8,getD_none→oP,or_none→pq
open Option.some renaming injEq→bj,inj→ck
open Or renaming inl→cu,inr→iO
open Prod renaming ext→pG
open Prod.mk renaming inj→nN
open PyProof renaming noPylong_of_log2→mh
open PyProof.Rows renaming wpS_bind→bK,wpS_pure→b6,callWith_type1→cW,wpS_forRange→de,wpS_mono→dO,wpS_modify→eK,step_rev_list→gA,reads_newData→mF,subscriptTail_builtinR→mQ,wpS_lift→nt,entry_proto_collect'→nE,lt_int→nI,listUpdate_at→nZ,boot_range→oq,Subscript_→ox
open PyProof.Rows.SortSt renaming mk'→iV
open PySem renaming wpAny_bind→bi,wpAny_pure→bw,wpAny_mono→dh,wpAny_newObj_type→dv,wpAny_call_entry→dL,wpAny_typeNameOfWhole_itemiter→dU,sizeLine_eq→dX,wpAny_typeNameOfWhole_keyiter→dZ,wpAny_execs_nil→eD,mem_of_lookup→eE,codeAny_builtin→eJ,codeAny_mono→eN,wpAny_Call_Name_kw→eO,tupleKind_room_in1→eP,wpAny_setField_rec→eR,wpAny_typeNameOf_itemiter→eT,wpAny_truthy_bool→eU,wpAny_passesOwn→eV,wpAny_dictEntries→e9,wpAny_typeNameOf_keyiter→fb,wpAny_holding→fo,wpAny_callSpecial?_slot→fq,wpAny_dictEpoch→fZ,wpAny_loadPart'→gc,plainId_quiet→gq,wpAny_isOneOf_itemiter→gT,plainObj_wpAny_Assign_Attribute→gZ,wpAny_rule→ik,wpAny_notOrdered_dict→iC,codeAny_handlers_test→iF,wpAny_execs_cons→iJ,wpAny_attempt→iS,wpAny_handleBy_cons→lC,wpAny_field→lD,wpAny_updateSeq→lE,wpAny_newFunctionEnv_cells→lJ,wpAny_FormattedValue_plain→lK,wpAny_fieldsOf→lX,wpAny_pyIter_list→l0,call_meets→l7,call→l9,wpAny_comprehension_free→mf,wpAny_Call_method0_late→my,wpAny_getItem_str_slice→mD,wpAny_pyNext_list_item→mM,wpAny_pyNext_range_end→mO,wpAny_pyIter_rangeiter→mP,codeAny_handlers_suite→mT,wpAny_pyNext_list_end→mW,codeAny_call_function→mZ,wpAny_isOneOf_keyiter→m6,wpAny_load→nr,wpAny_setField→nG,evalArgs_none→nJ,evalPart_none→nT,wpAny_newList→n9,wpAny_call→ot,typeIs_str→oy,rule→oB,unsupported→oC,Within→oH,wpAny_typeOf→oN
open PySem.Around renaming under_plainId→dw,frames_deeper→nz,under→oI
open PySem.Builtin.Dict renaming showsAll→fY,updateFrom→mG
open PySem.Builtin.Dict_items renaming ownsTuple→dH,ownedTupleFields→gJ,ownedTupleIsFree→gK,pairFromOwner→gR
open PySem.Builtin.Int renaming intBits→i8
open PySem.Builtin.List renaming listExtendWith→dq,listTooLong→gM,listSameRef→ml,listItems→mV
open PySem.Builtin.Range renaming rangeSize→fh,small→nO
open PySem.Builtin.Str renaming strSliceIndices→i9,occurrences→mE
open PySem.Calls renaming spliced_cons→eM,callWith_builtin→fK,Constant_str→gN,spliced_nil→ic,evalArgs_plain→iN,Name_function_global→lI,call_function_entry→lW
open PySem.Code renaming isFrame→oJ
open PySem.F renaming plainAttrs_list→cx,slot_list_append→cN,type_list_append→cO,plain_extend_loop→dP,slot_dict_itemiterator_next→eh,slot_dict_keyiterator_next→et,plain_list_iadd→fu,args_dict_itemiterator_next_1→io,slot_dict_get→iA,args_dict_keyiterator_next_1→iD,entry_dict_itemiterator_next→iG,slot_list_pop→iH,type_list_pop→iI,entry_dict_keyiterator_next→iM,plain_proto_collect→lq,entry_extend_loop→lY,args_dict_get_3→mz,plainAttrs_dict→mB,slot_dict_items→mH,entry_dict_get→mR,slot_dict_items_iter→mU,slot_tuple_lt→m7,slot_str_getitem→nW
open PySem.Heap renaming get?_push_of_some→bo,get?_push_size→bH,lt_size→bY,SameBut→dA,get?_update_other→dN,size_push→ip,get?_update_self→iE,get?_push_cases→nF
open PySem.Heap.SameBut renaming update→ll
open PySem.IsRange renaming new→oY
open PySem.NameKind renaming free→df,cell→mC
open PySem.Obj renaming mapSeq→dD,data_mapFields→og
open PySem.Paired renaming length→bM
open PySem.PassesOwn renaming never→cT
open PySem.PyData renaming strOk→cf,depthAll→cq,depth→dm,canLay0→eS,canLayAll0→gk,eqv→im,eqvAll→iU,int→ms
open PySem.SeqAt renaming noMixAll→ir,shaped→iB,noMix→nK
open PySem.SeqAt.EqAt renaming int_int→lP,str_str→lQ,int_str→nQ,str_int→nR
open PySem.Shared renaming TypeIs→pH
open PySem.Spec renaming sameAll→lS,same→ph
open PySem.Str renaming ofString→bg,length_append→eB,empty→gE,length→gL
open PySem.Txt renaming sliceBy→fB,slice→fG
open PySem.Value renaming ref→bV,none→cM,bool→gX,int→iy,str→iW,type→lZ,float→oW
open PySem.W renaming Frag→bz,findIn→cY,mg_none_of→dW,keepIn→fi,hideAll_none→fJ,exmOne→fP,emptyDict→fR,hideAll→gD,kia_one→gF,nsIn→gQ,codeIn→iq,fnOf→iz,funFrames_hide→iL,hideAll_get→iQ,instObj→iX,of_hideAll→lL,kitOne→lN,callWith_K→lO,plainGet→l5,hasDictIn→mv,cellsFrom_some→mI,methodCall_KW→mY,excIn→m4,exmAny→nu,plainOver→nH,mg_of→nP,plainGet_of→nS,OpenLaw→nV,methodObj→oX,makesIn→oZ,specialIn→o8,isFn→pA,lookIn→pC,mroIn→pE,WalkO→pF
open PySem.W.KatTups renaming cons→pK
open PySem.W.Looks renaming ld→pB
open Sum renaming inl→om,inr→on
open True renaming intro→eW
open Bool renaming true→ae,false→ao
open Option renaming some→aa,none→ai
open PySem renaming Value→af,Addr→ag,Shared→aj,Program→aq,World→au,Around→av,Heap→aw,Stmt→ax,Expr→ay,Scope→az,Result→aA
set_option Elab.async false
set_option linter.all false
set_option maxRecDepth 100000
theorem ah{α:Sort u}{p:α->Prop}{a:α}:(∃x,a=x/\p x)↔p a:=exists_eq_left'
theorem ak{c:Prop}{h:Decidable c}(n:¬c){α:Sort u}{t e:α}:ite c t e=e:=if_neg n
theorem am{α:Sort u}{p:α->Prop}{b:Prop}:(∃x,b/\p x)↔b/\∃x,p x:=exists_and_left
theorem ap{c:Prop}{h:Decidable c}(n:c){α:Sort u}{t e:α}:ite c t e=t:=if_pos n
namespace L2
open PySem PySem.Spec PyProof.Rows
abbrev Key:=Sum Int Str
def VO:Key->af->Bool
 | .inl k,v=>Value.isInt k v
 | .inr x,v=>Value.isStrOf x v
def zij(w:au):Key->Int
 | .inl k=>hashInt k
 | .inr x=>hashStr w x
theorem yP:∀ {k:Key} {v:af},VO k v=ae->(∃i t,k=om i/\v=iy i t)\/(∃x t,k=on x/\v=iW x t)
 | .inl i,v,h=>by
  obtain⟨t,e⟩:=Value.isInt_shape (k:=i) (v:=v) h
  exact .inl ⟨i,t,rfl,e⟩
 | .inr x,v,h=>by
  obtain⟨t,e⟩:=Value.isStrOf_shape (x:=x) (v:=v) h
  exact .inr ⟨x,t,rfl,e⟩
theorem zbU(i:Int)(t:Tok):VO (.inl i) (.int i t)=ae:=by simp[VO,Value.isInt]
theorem zbV(x:Str)(t:Tok):VO (.inr x) (.str x t)=ae:=by simp[VO,Value.isStrOf]
theorem zgD(a b:Int):decide ((om a:Key)=om b)=(a == b):=by
 by_cases e:a=b
 ·subst e;simp
 ·have h:¬ (om a:Key)=om b:=λq=>e (Sum.inl.inj q)
  rw[decide_eq_false h]
  exact(beq_eq_false_iff_ne.mpr e).symm
theorem zgE(a b:Str):decide ((on a:Key)=on b)=decide (a=b):=by
 by_cases e:a=b
 ·subst e;simp
 ·have h:¬ (on a:Key)=on b:=λq=>e (Sum.inr.inj q)
  rw[decide_eq_false h,decide_eq_false e]
theorem zgF(a:Int)(b:Str):decide ((om a:Key)=on b)=ao:=decide_eq_false (λq=>nomatch q)
theorem zgG(a:Str)(b:Int):decide ((on a:Key)=om b)=ao:=decide_eq_false (λq=>nomatch q)
def yQ(prog:aq)(w:au):PySem.KeyKind prog w Key where
 is:=VO
 hash:=zij w
 inj:=λv a b ha hb=>by
  rcases yP ha with ⟨i,t,rfl,rfl⟩ | ⟨x,t,rfl,rfl⟩
  ·rcases yP hb with ⟨j,u,rfl,e⟩ | ⟨y,u,rfl,e⟩
   ·injection e with e1 _;rw[e1]
   ·exact nomatch e
  ·rcases yP hb with ⟨j,u,rfl,e⟩ | ⟨y,u,rfl,e⟩
   ·exact nomatch e
   ·injection e with e1 _;rw[e1]
 byValue:=λk v h=>by
  rcases yP h with ⟨i,t,rfl,rfl⟩ | ⟨x,t,rfl,rfl⟩ <;> rfl
 pyHash:=λhv h=>by
  rcases yP hv with ⟨i,t,rfl,rfl⟩ | ⟨x,t,rfl,rfl⟩
  ·exact wpAny_pyHash_int h
  ·exact wpAny_pyHash_str h
 eqBool:=λhu hv h=>by
  rcases yP hu with ⟨i,t,rfl,rfl⟩ | ⟨x,t,rfl,rfl⟩
  ·rcases yP hv with ⟨j,u,rfl,rfl⟩ | ⟨y,u,rfl,rfl⟩
   ·rw[zgD] at h;exact wpAny_eqBool_int h
   ·rw[zgF] at h;exact nQ i t y u _ _ _ _ h
  ·rcases yP hv with ⟨j,u,rfl,rfl⟩ | ⟨y,u,rfl,rfl⟩
   ·rw[zgG] at h;exact nR x t j u _ _ _ _ h
   ·rw[zgE] at h;exact wpAny_eqBool_str h
 «strs»:=λk x t v h=>by
  rcases yP h with ⟨i,u,rfl,e⟩ | ⟨y,u,rfl,e⟩
  ·exact nomatch e
  ·injection e with e1 _
   subst e1
   cases v <;> rfl
theorem Kr(prog:aq)(w:au)(i:Int)(t:Tok):(yQ prog w).is (.inl i) (.int i t)=ae:=zbU i t
theorem Ks(prog:aq)(w:au)(x:Str)(t:Tok):(yQ prog w).is (.inr x) (.str x t)=ae:=zbV x t
inductive V where
 | non | bl (b:Bool) | int (i:Int) | str (x:Str) | byt (b:Array UInt8) | flt (b:UInt64) | ref (a:ag) | ty (n:String)
 deriving DecidableEq
def RelV:V->af->Prop
 | .non,u=>u=cM
 | .bl b,u=>u=gX b
 | .int i,u=>∃t,u=iy i t
 | .str x,u=>∃t,u=iW x t
 | .byt b,u=>∃t,u=Value.bytes b t
 | .flt b,u=>∃t,u=oW b t
 | .ref a,u=>u=bV a
 | .ty n,u=>u=lZ n
abbrev Vals:List V->List af->Prop:=Paired RelV
theorem Vals.length(r:Vals xs us):xs.length=us.length:=bM r
theorem Vals.get:∀ {xs:List V} {us:List af} {i:Nat} {x:V},Vals xs us->xs[i]?=aa x->∃u,us[i]?=aa u/\RelV x u
 | _,_,_,_,.nil,e=>by simp at e
 | _,_,0,_,.cons r _,e=>by simp at e;subst e;exact⟨_,rfl,r⟩
 | _,_,i + 1,x,.cons _ t,e=>by
  obtain⟨u,h1,h2⟩:=Vals.get (i:=i) (x:=x) t (by simpa using e)
  exact⟨u,by simpa using h1,h2⟩
theorem Vals.append:∀ {xs ys:List V} {us ws:List af},Vals xs us->Vals ys ws->Vals (xs ++ ys) (us ++ ws)
 | _,_,_,_,.nil,s=>s
 | _,_,_,_,.cons r t,s=>.cons r (Vals.append t s)
theorem Vals.take:∀ {xs:List V} {us:List af} (n:Nat),Vals xs us->Vals (xs.take n) (us.take n)
 | _,_,0,_=>.nil
 | _,_,_ + 1,.nil=>.nil
 | _,_,n + 1,.cons r t=>.cons r (Vals.take n t)
theorem Vals.drop:∀ {xs:List V} {us:List af} (n:Nat),Vals xs us->Vals (xs.drop n) (us.drop n)
 | _,_,0,r=>r
 | _,_,_ + 1,.nil=>.nil
 | _,_,n + 1,.cons _ t=>Vals.drop n t
def RelO:Option V->Option af->Prop
 | some v,aa u=>RelV v u
 | none,ai=>True
 | _,_=>False
def KV{κ:Type}:List (κ × V)->List (κ × af)->Prop:=Paired λ(p:κ × V) (q:κ × af)=>p.1=q.1/\RelV p.2 q.2
def kV:Key->V
 | .inl i=>.int i
 | .inr x=>.str x
inductive HO where
  | lst (xs:List V)
  | tup (xs:List V)
  | dK (kvs:List (Key × V)) | dT (kvs:List (List Key × V))
  | set (S:Int->Bool) (n:Nat)
  | ins (C dx:ag) (fs:List (Str × V))
  | own (x:ag)
  | xd (fs:List (Str × V))
  | met (f x:ag)
  | rng (lo hi:Int)
  | frz (o:Obj) (u:HO)
  | tbl (ps:Array af)
  | ext (φ:aw->Prop)
abbrev Hp:=ag->Option HO
def upd(H:Hp)(a:ag)(o:HO):Hp:=λb=>if b=a then aa o else H b
theorem zf{H:Hp} :upd H a o a=aa o:=by unfold upd;rw[ap rfl]
theorem zl{H:Hp}(h:b≠a):upd H a o b=H b:=by unfold upd;rw[ak h]
theorem XX{H:Hp} :upd (upd H a o) a u=upd H a u:=by
 funext b;unfold upd;split <;> rfl
theorem yp{H:Hp}(h:H a=aa o)(h':H b=aa u)(d:o≠u):a≠b:=by
 intro e;subst e;rw[h] at h';exact d (ck h')
theorem zG{H:Hp}(h:H a=aa o)(h':H b=ai):a≠b:=by
 intro e;subst e;rw[h] at h';cases h'
section
variable (P:aq)(w:au)
def ObjOk(H:Hp)(h:aw)(a:ag):HO->Prop
 | .lst xs=>xs.length<=sizeLine/\∃(its:List af) (n:Nat),Vals xs its/\h.get? a=aa { cls:=.type "list",data:=.seq its.toArray n }
 | .tup xs=>xs.length<=sizeLine/\∃its:List af,Vals xs its/\IsTup h a its.toArray
 | .dK kvs=>kvs.length<=sizeLine/\(a == sysModules)=ao/\∃vs,KV kvs vs/\h.DictOf (yQ P w) a vs
 | .dT kvs=>kvs.length<=sizeLine/\(a == sysModules)=ao/\∃xs:List (List Key × ag × af),
   Paired (λ(p:List Key × V) (q:List Key × ag × af)=>p.1=q.1/\H q.2.1=aa (.tup (p.1.map kV))/\RelV p.2 q.2.2) kvs xs /\
   ∃o es ep,h.get? a=aa o/\o.ExactDict/\o.data=.dict es ep/\es.toList=xs.map (entryOfKey (tupleKind (yQ P w)))/\(xs.map (·.1)).Nodup
 | .set S n=>h.SetOf (intKind P w) a S n
 | .ins C dx fs=>H dx=aa (.own a)/\fs.length<=1000/\dx≠a/\h.get? a=aa (iX C dx) /\
   ∃mA,h.Ns1 dx mA/\(∀f,RelO (fs.lookup f) (mA f))/\oH mA (fs.map (·.1))
 | .own _=>∃o,h.get? a=aa o
 | .xd fs=>∃mA,h.Ns1 a mA/\∀f,RelO (fs.lookup f) (mA f)
 | .rng lo hi=>∃t u v,h.get? a=aa { cls:=.type "range",data:=.fields #[.int lo t,.int hi u,.int 1 v] }
 | .frz o u=>h.get? a=aa o/\ObjOk H h a u
 | .tbl ps=>h.get? a=aa { cls:=.none,data:=.fields ps }
 | .met f x=>h.get? a=aa (oX (.ref f) (.ref x))
 | .ext φ=>φ h/\(∃o,h.get? a=aa o)/\∀h1 h2:aw,φ h1->(∀o,h1.get? a=aa o->h2.get? a=aa o)->φ h2
def HOk(H:Hp)(h:aw):Prop:=∀a o,H a=aa o->ObjOk P w H h a o
end
section
variable {P:aq}{w:au}{H H':Hp}{h h':aw}{a:ag}{o:HO}
theorem ObjOk.lt(x:ObjOk P w H h a o):a < h.objs.size:=by
 cases o with
 | lst xs=>obtain⟨_,_,_,_,e⟩:=x;exact bY e
 | tup xs=>obtain⟨_,_,_,p⟩:=x;exact p.lt
 | dK kvs=>obtain⟨_,_,_,_,o,_,_,e,_⟩:=x;exact bY e
 | dT kvs=>obtain⟨_,_,_,_,o,_,_,e,_⟩:=x;exact bY e
 | set S n=>obtain⟨o,_,_,_,e,_⟩:=x;exact bY e
 | ins C dx fs=>obtain⟨_,_,_,e,_⟩:=x;exact bY e
 | own y=>obtain⟨_,e⟩:=x;exact bY e
 | xd fs=>obtain⟨_,⟨_,_,_,e,_⟩,_⟩:=x;exact bY e
 | rng lo hi=>obtain⟨_,_,_,e⟩:=x;exact bY e
 | frz ob u=>obtain⟨e,_⟩:=x;exact bY e
 | tbl ps=>exact bY (show h.get? a=aa _ from x)
 | met f y=>exact bY (show h.get? a=aa _ from x)
 | ext φ=>obtain⟨_,⟨_,e⟩,_⟩:=x;exact bY e
theorem Paired.mapP{α β:Type}{F G:α->β->Prop}:∀ {l₁:List α} {l₂:List β},Paired F l₁ l₂->(∀a b,F a b->G a b)->Paired G l₁ l₂
 | _,_,.nil,_=>.nil
 | _,_,.cons r t,f=>.cons (f _ _ r) (Paired.mapP t f)
theorem ObjOk.stay(x:ObjOk P w H h a o)(k:∀b u,(b=a\/H b=aa (.own a))->h.get? b=aa u->h'.get? b=aa u)
  (ho:∀b,H b=aa (.own a)->H' b=aa (.own a)) (ht:∀b xs,H b=aa (.tup xs)->H' b=aa (.tup xs)):ObjOk P w H' h' a o:=by
 induction o with
 | lst xs=>obtain⟨z,its,n,r,e⟩:=x;exact⟨z,its,n,r,k _ _ (.inl rfl) e⟩
 | tup xs=>obtain⟨z,its,r,ob,e,c⟩:=x;exact⟨z,its,r,ob,k _ _ (.inl rfl) e,c⟩
 | dK kvs=>obtain⟨z,y,vs,r,ob,es,ep,e,c⟩:=x;exact⟨z,y,vs,r,ob,es,ep,k _ _ (.inl rfl) e,c⟩
 | dT kvs =>
  obtain⟨z,y,xs,r,ob,es,ep,e,c⟩:=x
  exact⟨z,y,xs,Paired.mapP r λp q z=>⟨z.1,ht _ _ z.2.1,z.2.2⟩,ob,es,ep,k _ _ (.inl rfl) e,c⟩
 | set S n=>obtain⟨ob,es,ep,t,e,c⟩:=x;exact⟨ob,es,ep,t,k _ _ (.inl rfl) e,c⟩
 | ins C dx fs =>
  obtain⟨d,z,ne,e,mA,⟨od,es,ep,e2,c⟩,r⟩:=x
  exact⟨ho _ d,z,ne,k _ _ (.inl rfl) e,mA,⟨od,es,ep,k _ _ (.inr d) e2,c⟩,r⟩
 | own y=>obtain⟨ob,e⟩:=x;exact⟨ob,k _ _ (.inl rfl) e⟩
 | xd fs=>obtain⟨mA,⟨od,es,ep,e,c⟩,r⟩:=x;exact⟨mA,⟨od,es,ep,k _ _ (.inl rfl) e,c⟩,r⟩
 | rng lo hi=>obtain⟨t,u,v,e⟩:=x;exact⟨t,u,v,k _ _ (.inl rfl) e⟩
 | frz ob u ih=>obtain⟨e,q⟩:=x;exact⟨k _ _ (.inl rfl) e,ih q⟩
 | tbl ps =>
  have e:h.get? a=aa { cls:=.none,data:=.fields ps }:=x
  show h'.get? a=aa { cls:=.none,data:=.fields ps }
  exact k a _ (.inl rfl) e
 | met f y =>
  have e:h.get? a=aa (oX (.ref f) (.ref y)):=x
  show h'.get? a=aa (oX (.ref f) (.ref y))
  exact k a _ (.inl rfl) e
 | ext φ=>obtain⟨p,⟨o,e⟩,st⟩:=x;exact⟨st _ _ p λo q=>k _ _ (.inl rfl) q,⟨o,k _ _ (.inl rfl) e⟩,st⟩
theorem HOk.lt(x:HOk P w H h)(e:H a=aa o):a < h.objs.size:=(x a o e).lt
theorem HOk.fresh(x:HOk P w H h)(e:h.objs.size<=a):H a=ai:=by
 cases q:H a with
 | none=>rfl
 | some u=>exact absurd (cg (x.lt q) e) (gf _)
theorem HOk.kept(x:HOk P w H h)(k:∀b u,h.get? b=aa u->h'.get? b=aa u):HOk P w H h':=λa o e =>
 (x a o e).stay (λb u _ q=>k b u q) (λ_ q=>q) λ_ _ q=>q
theorem HOk.laid(x:HOk P w H h)(k:∀b u,h.get? b=aa u->h'.get? b=aa u)(hp:h.objs.size<=a)(new:ObjOk P w (upd H a o) h' a o):HOk P w (upd H a o) h':=λb u e=>by
 have hn:=x.fresh hp
 by_cases hb:b=a
 ·subst hb;rw[zf] at e;cases e;exact new
 ·rw[zl hb] at e
  exact(x b u e).stay (λc v _ q=>k c v q) (λc q=>by rw[zl (zG q hn)];exact q) λc xs q=>by rw[zl (zG q hn)];exact q
end
def Rd(H:Hp)(a:ag)(u:HO):Prop:=H a=aa u\/∃o,H a=aa (.frz o u)
theorem Rd.ok{H:Hp}(r:Rd H a u)(x:HOk P w H h):ObjOk P w H h a u:=by
 rcases r with r | ⟨o,r⟩
 ·exact x a u r
 ·obtain⟨_,q⟩:=x a _ r
  exact q
def Mut:Option HO->Prop
 | some (.lst _)=>True
 | some (.dK _)=>True
 | some (.dT _)=>True
 | some (.set _ _)=>True
 | some (.ins _ _ _)=>True
 | some (.ext _)=>True
 | _=>False
section
variable {P:aq}{w:au}{H:Hp}{h h':aw}{x e:ag}{o':HO}
theorem HOk.write(ok:HOk P w H h)(mu:Mut (H x))(he:e=x\/H e=aa (.own x))(k:∀b u,b≠e->h.get? b=aa u->h'.get? b=aa u)(heo:∃u,h'.get? e=aa u)
  (new:ObjOk P w (upd H x o') h' x o'):HOk P w (upd H x o') h':=λb u q=>by
 have nown:∀c y,H c=aa (.own y)->c≠x:=λc y r z=>by subst z;rw[r] at mu;exact mu
 have ntup:∀c xs,H c=aa (.tup xs)->c≠x:=λc xs r z=>by subst z;rw[r] at mu;exact mu
 by_cases hb:b=x
 ·subst hb;rw[zf] at q;cases q;exact new
 ·rw[zl hb] at q
  by_cases hbe:b=e
  ·have q':H b=aa (.own x):=by
    rcases he with z | z
    ·exact absurd (hbe.trans z) hb
    ·rw[hbe];exact z
   rw[q] at q';cases q'
   obtain⟨v,hv⟩:=heo
   exact⟨v,by rw[hbe];exact hv⟩
  ·refine(ok b u q).stay (λc v hc r=>k c v ?_ r) (λc r=>by rw[zl (nown c b r)];exact r) λc xs r=>by rw[zl (ntup c xs r)];exact r
   rcases hc with rfl | hc
   ·exact hbe
   ·rintro rfl
    rcases he with z | z
    ·exact nown c b hc z
    ·rw[hc] at z;cases z;exact hb rfl
end
structure Un(fs ex:List ag)(H H':Hp)(h h':aw):Prop where
 keep:∀b o,h.get? b=aa o->H b=ai->b ∉ fs->b ∉ ex->h'.get? b=aa o
 slot:∀b o,h.get? b=aa o->H b=ai->b∈fs->b ∉ ex->∃sl,h'.get? b=aa { o with slots:=sl }
 free:∀b o,h.get? b=aa o->H b=ai->b ∉ ex->H' b=ai
 there:∀b o,h.get? b=aa o->b ∉ ex->∃o',h'.get? b=aa o'
 tups:∀b xs,H b=aa (.tup xs)->H' b=aa (.tup xs)
 frzs:∀b o u,H b=aa (.frz o u)->H' b=aa (.frz o u)
 tbls:∀b ps,H b=aa (.tbl ps)->∃more,H' b=aa (.tbl (ps ++ more))
section
variable {fs fs' ex ex':List ag}{H H1 H2:Hp}{h h1 h2 h':aw}{a x e:ag}{o:HO}
theorem Un.any(u:Un fs ex H H1 h h1)(q:h.get? b=aa ob)(n:H b=ai)(hx:b ∉ ex):∃sl,h1.get? b=aa { ob with slots:=sl }:=by
 by_cases hb:b∈fs
 ·exact u.slot b ob q n hb hx
 ·exact⟨ob.slots,u.keep b ob q n hb hx⟩
theorem Un.kept(k:∀b u,h.get? b=aa u->h'.get? b=aa u):Un fs ex H H h h' :=
 ⟨λb ob q _ _ _=>k b ob q,λb ob q _ _ _=>⟨ob.slots,k b ob q⟩,λ_ _ _ n _=>n,λb ob q _=>⟨ob,k b ob q⟩,λ_ _ q=>q,λ_ _ _ q=>q,λ_ ps q=>⟨#[],by rw[q];simp⟩⟩
theorem Un.refl:Un fs ex H H h h:=Un.kept λ_ _ q=>q
theorem Un.laid(k:∀b u,h.get? b=aa u->h'.get? b=aa u)(hp:h.objs.size<=a)(hn:H a=ai):Un fs ex H (upd H a o) h h' where
 keep:=λb u q _ _ _=>k b u q
 slot:=λb u q _ _ _=>⟨u.slots,k b u q⟩
 free:=λb u q n _=>by rw[zl (cz (cg (bY q) hp))];exact n
 there:=λb u q _=>⟨u,k b u q⟩
 tups:=λb xs q=>by rw[zl (zG q hn)];exact q
 frzs:=λb u xs q=>by rw[zl (zG q hn)];exact q
 tbls:=λb ps q=>⟨#[],by rw[zl (zG q hn),q];simp⟩
theorem Un.write(mu:Mut (H x))(he:e=x\/H e=aa (.own x))(k:∀b u,b≠e->h.get? b=aa u->h'.get? b=aa u)(heo:∃u,h'.get? e=aa u):Un fs ex H (upd H x o) h h':=by
 have hx:∀b,H b=ai->b≠x:=λb n z=>by subst z;rw[n] at mu;exact mu
 have hb:∀b,H b=ai->b≠e:=λb n z=>by
  subst z
  rcases he with r | r
  ·exact hx b n r
  ·rw[n] at r;cases r
 have hm:∀b u,H b=aa u->¬ Mut (aa u)->b≠x:=λb u q nm z=>by subst z;rw[q] at mu;exact nm mu
 refine⟨λb u q n _ _=>k b u (hb b n) q,λb u q n _ _=>⟨u.slots,k b u (hb b n) q⟩,λb u q n _=>by rw[zl (hx b n)];exact n,λb u q _=>?_,
  λb xs q=>by rw[zl (hm b _ q λz=>z)];exact q,λb u xs q=>by rw[zl (hm b _ q λz=>z)];exact q,λb ps q=>⟨#[],by rw[zl (hm b _ q λz=>z),q];simp⟩⟩
 by_cases hbe:b=e
 ·subst hbe;exact heo
 ·exact⟨u,k b u hbe q⟩
end
def trk(h:aw)(H:Hp):List ag:=(bI h.objs.size).filter λa=>(H a).isSome
def Jq(h:aw)(H:Hp):aw:=gD h (trk h H)
theorem zbW(h:aw)(H:Hp):(Jq h H).objs.size=h.objs.size:=W.hideAll_size _ _
theorem zcI{H:Hp}(e:h.get? b=aa o)(n:H b=ai):(Jq h H).get? b=aa o:=
 iQ _ e λhm=>by
  have q:(H b).isSome=ae:=(dQ.mp hm).2
  rw[n] at q;simp at q
theorem zeV{H:Hp}(e:(Jq h H).get? b=aa o):h.get? b=aa o/\H b=ai:=by
 have e':h.get? b=aa o:=lL (trk h H) e
 refine⟨e',?_⟩
 cases q:H b with
 | none=>rfl
 | some x =>
  have hm:b∈trk h H:=dQ.mpr ⟨cP.mpr (bY e'),by simp[q]⟩
  have z:(Jq h H).get? b=ai:=fJ (trk h H) hm
  rw[z] at e;cases e
def zeW(g h:aw)(L:ag):List (ag × Obj):=(bI h.objs.size).filterMap λa=>if a=L\/(g.get? a).isSome=ae then ai else (h.get? a).map λo=>(a,o)
def rest(g h:aw)(L d:ag):List (ag × Obj):=(zeW g h L).filter λp=>decide (p.1≠d)
structure Mod(K:bz)(mg:Str->Option af)(base:aw):Prop where
 kin:K.In base
 glob:base.Ns mainGlobals mg
 blt:∃mb,base.Ns builtinsNs mb/\∀x:Str,x≠"__name__"->mb x=bootBuiltins x
 nolimit:base.NoLimit
set_option genSizeOf false in
set_option genInjectivity false in
structure Cx where
 prog:aq
 w:au
 K:bz
 mg:Str->Option af
 base:aw
 A:av
 N:List Str
 s₀:aj
 H₀:Hp
 env:Env
 outer:List Env
 stack:List Env
 ex:List ag
 fn:Str->Bool
 calm:Bool
 pn:List (ag × Obj)
 xe:af->aj->Prop
def frs(l:List Env):List ag:=l.filterMap (·.frame)
abbrev Cx.fs(X:Cx):List ag:=frs X.outer
def Vis(sc:az)(x:Str):Prop:=sc.names.lookup x=aa .local\/sc.names.lookup x=aa .cell\/sc.names.lookup x=aa .free
def Loc(sc:az)(x:Str):Prop:=sc.names.lookup x=aa .local\/sc.names.lookup x=aa .cell
def zik(env:Env)(h:aw)(m:Str->Option af)(x:Str)(u:af):Prop :=
 (env.kindOf x=aa .local/\m x=aa u)\/((env.kindOf x=aa .cell\/env.kindOf x=aa .free)/\∃c,env.cells.lookup x=aa c/\h.IsCell c (aa u))
structure Cx.Ok(X:Cx):Prop where
 mod:Mod X.K X.mg X.base
 kind:X.env.scope.kind=.function
 glob:X.env.globals=mainGlobals
 blt:X.env.builtins=builtinsNs
 above:X.s₀.heap.objs.size<=X.env.locals
 inj:∀x y c,X.env.cells.lookup x=aa c->X.env.cells.lookup y=aa c->x=y
 has:∀x,(X.env.kindOf x=aa .cell\/X.env.kindOf x=aa .free)->∃c,X.env.cells.lookup x=aa c
 cab:∀x c,X.fn x=ae->X.env.cells.lookup x=aa c->X.s₀.heap.objs.size<=c
 hd:X.calm=ae->X.A.handled=ai
 frames:X.A.frames=aa X.stack
 stk:X.stack=X.outer\/(X.stack=X.env :: X.outer/\X.env.frame=aa X.env.locals)
 exf:∀b∈X.ex,b≠X.env.locals/\∀x c,X.env.cells.lookup x=aa c->c≠b
 bs:∀b o,X.base.get? b=aa o->X.s₀.heap.get? b=aa o/\X.H₀ b=ai
 bsz:X.base.objs.size<=X.s₀.heap.objs.size
 noex:∀b o,X.base.get? b=aa o->b ∉ X.ex
 exfs:∀b∈X.ex,b ∉ X.fs
 funs:X.s₀.heap.FunFrames X.base X.outer
 frf:∀b∈X.fs,X.H₀ b=ai
structure Inv(X:Cx)(pins:List (ag × Obj))(σ:List (Option V))(H:Hp)(s:aj):Prop where
 ok:X.Ok
 os:s.os=X.s₀.os
 bare:AllBare s.gens
 base:Un X.fs X.ex X.H₀ H X.s₀.heap s.heap
 loc:∃m,s.heap.Ns X.env.locals m/\∀(i:Nat) (x:Str) (v:V),X.N[i]?=aa x->σ[i]?=aa (aa v)->Vis X.env.scope x->∃u,RelV v u/\zik X.env s.heap m x u
 cell:∀x c,X.env.cells.lookup x=aa c->∃v,s.heap.IsCell c v
 free:H X.env.locals=ai
 freeC:∀x c,X.env.cells.lookup x=aa c->H c=ai
 pin:∀p∈X.pn ++ pins,s.heap.get? p.1=aa p.2/\H p.1=ai/\p.1≠X.env.locals/\p.1 ∉ X.fs/\∀v,p.2.data≠.cell v
 hok:HOk X.prog X.w H s.heap
 len:σ.length=X.N.length
section
variable {X:Cx}{pins:List (ag × Obj)}{σ:List (Option V)}{H H':Hp}{s:aj}{h':aw}
theorem Cx.Ok.nofr(ok:X.Ok)(e:X.base.get? b=aa o):b ∉ X.fs:=λhb=>by
 have:=(ok.funs.mem hb).1
 rw[e] at this;cases this
theorem Inv.bs(I:Inv X pins σ H s):∀b o,X.base.get? b=aa o->s.heap.get? b=aa o/\H b=ai:=λb o e =>
 ⟨I.base.keep b o (I.ok.bs b o e).1 (I.ok.bs b o e).2 (I.ok.nofr e) (I.ok.noex b o e),I.base.free b o (I.ok.bs b o e).1 (I.ok.bs b o e).2 (I.ok.noex b o e)⟩
theorem Inv.bk(I:Inv X pins σ H s):∀b o,X.base.get? b=aa o->s.heap.get? b=aa o:=λb o e=>(I.bs b o e).1
theorem Inv.mod(I:Inv X pins σ H s):Mod X.K X.mg X.base:=I.ok.mod
theorem Inv.kIn(I:Inv X pins σ H s):X.K.In s.heap:=I.ok.mod.kin.keeps I.bk
theorem Inv.lt(I:Inv X pins σ H s):X.env.locals < s.heap.objs.size:=let ⟨_,hn,_⟩:=I.loc;hn.lt
theorem Inv.sz(I:Inv X pins σ H s):X.s₀.heap.objs.size<=s.heap.objs.size:=bR I.ok.above (fQ I.lt)
theorem Inv.nofs(I:Inv X pins σ H s){a:ag}(h:s.heap.objs.size<=a):a ∉ X.fs:=λhb=>by
 obtain⟨_,o,ho,_⟩:=I.ok.funs.mem hb
 exact absurd (cg (bY ho) (bR I.sz h)) (gf _)
theorem Inv.cne(I:Inv X pins σ H s):∀x c,X.env.cells.lookup x=aa c->c≠X.env.locals:=λx c e z=>by
 obtain⟨v,o,ho,hd⟩:=I.cell x c e
 obtain⟨m,⟨o',es,ep,ho',hd',_⟩,_⟩:=I.loc
 rw[z,ho'] at ho;cases ho;rw[hd'] at hd;cases hd
theorem Inv.funs(I:Inv X pins σ H s):s.heap.FunFrames X.base X.outer:=by
 have all:∀(l:List Env),(∀b∈frs l,b∈X.fs)->X.s₀.heap.FunFrames X.base l->s.heap.FunFrames X.base l:=by
  intro l
  induction l with
  | nil=>intro _ _;trivial
  | cons env r ih =>
   intro hs hl
   obtain⟨hk,⟨L,o,hf,hn,ho,hd⟩,hr⟩:=hl
   have hL:L∈X.fs:=hs L (by unfold frs;rw[iY,hf];exact bC)
   obtain⟨sl,e⟩:=I.base.slot L o ho (I.ok.frf L hL) hL λz=>I.ok.exfs L z hL
   exact⟨hk,⟨L,_,hf,hn,e,hd⟩,ih (λb hb=>hs b (by unfold frs;rw[iY,hf];exact bE _ hb)) hr⟩
 exact all X.outer (λ_ hb=>hb) I.ok.funs
theorem Inv.stack(I:Inv X pins σ H s):s.heap.FunFrames X.base X.stack:=by
 rcases I.ok.stk with e | ⟨e,hf⟩
 ·rw[e];exact I.funs
 ·rw[e]
  obtain⟨m,hn,_⟩:=I.loc
  refine .cons (by rw[I.ok.kind];decide) hf hn ?_ I.funs
  exact Heap.get?_none_of_le (bR I.ok.bsz I.ok.above)
theorem Inv.stkSub(I:Inv X pins σ H s):∀b∈frs X.stack,b∈X.env.locals :: X.fs:=λb hb=>by
 rcases I.ok.stk with e | ⟨e,hf⟩
 ·rw[e] at hb;exact bE _ hb
 ·rw[e] at hb
  unfold frs at hb
  rw[iY,hf] at hb
  exact hb
theorem Inv.stkFree(I:Inv X pins σ H s):∀b∈frs X.stack,H b=ai:=λb hb=>by
 rcases bS.mp (I.stkSub b hb) with e | hb
 ·rw[e];exact I.free
 ·obtain⟨_,o,ho,_⟩:=I.ok.funs.mem hb
  exact I.base.free b o ho (I.ok.frf b hb) λz=>I.ok.exfs b z hb
theorem Inv.step{t':Nat}{d':Drawn}{ch:List ag}(I:Inv X pins σ H s)
  (hch:∀b∈ch,(b∈X.ex\/X.s₀.heap.objs.size<=b)/\b≠X.env.locals/\(∀x c,X.env.cells.lookup x=aa c->c≠b)/\∀p∈X.pn ++ pins,p.1≠b)
  (keep:∀b o,b≠X.env.locals->b ∉ X.fs->b ∉ ch->s.heap.get? b=aa o->H b=ai->h'.get? b=aa o)
  (slot:∀b o,b≠X.env.locals->b∈X.fs->b ∉ ch->s.heap.get? b=aa o->H b=ai->∃sl,h'.get? b=aa { o with slots:=sl }) (free:∀b o,b ∉ ch->s.heap.get? b=aa o->H b=ai->H' b=ai)
  (there:∀b o,b ∉ ch->s.heap.get? b=aa o->∃o',h'.get? b=aa o')
  (tups:∀b xs,H b=aa (.tup xs)->H' b=aa (.tup xs)) (frzs:∀b o u,H b=aa (.frz o u)->H' b=aa (.frz o u)) (tbls:∀b ps,H b=aa (.tbl ps)->∃more,H' b=aa (.tbl (ps ++ more)))
  (ns:∀m,s.heap.Ns X.env.locals m->h'.Ns X.env.locals m) (hok:HOk X.prog X.w H' h') (hg:AllBare g') :
  Inv X pins σ H' { s with heap:=h',gens:=g',drawn:=d',toks:=t' }:=by
 have neL:∀b o,X.s₀.heap.get? b=aa o->b≠X.env.locals:=λb o e=>cz (cg (bY e) I.ok.above)
 have neC:∀b o,X.s₀.heap.get? b=aa o->b ∉ X.ex->b ∉ ch:=λb o e hx hb=>by
  rcases(hch b hb).1 with z | z
  ·exact hx z
  ·exact absurd (cg (bY e) z) (gf _)
 have cellK:∀x c,X.env.cells.lookup x=aa c->∀v,s.heap.IsCell c v->h'.IsCell c v:=λx c e v ⟨o,ho,hd⟩=>by
  have nch:c ∉ ch:=λz=>(hch c z).2.2.1 x c e rfl
  by_cases hc:c∈X.fs
  ·obtain⟨sl,q⟩:=slot c o (I.cne x c e) hc nch ho (I.freeC x c e)
   exact⟨_,q,hd⟩
  ·exact⟨o,keep c o (I.cne x c e) hc nch ho (I.freeC x c e),hd⟩
 refine⟨I.ok,I.os,hg,⟨λb o e n hb hx=>?_,λb o e n hb hx=>?_,λb o e n hx=>?_,λb o e hx=>?_,λb xs e=>tups b xs (I.base.tups b xs e),λb o xs e=>frzs b o xs (I.base.frzs b o xs e),λb ps e=>?_⟩,?_,λx c e=>?_,?_,λx c e=>?_,λp hp=>?_,hok,I.len⟩
 ·exact keep b o (neL b o e) hb (neC b o e hx) (I.base.keep b o e n hb hx) (I.base.free b o e n hx)
 ·obtain⟨sl,e1⟩:=I.base.slot b o e n hb hx
  obtain⟨sl',e2⟩:=slot b _ (neL b o e) hb (neC b o e hx) e1 (I.base.free b o e n hx)
  exact⟨sl',e2⟩
 ·obtain⟨o',e1⟩:=I.base.there b o e hx
  exact free b o' (neC b o e hx) e1 (I.base.free b o e n hx)
 ·obtain⟨o',e1⟩:=I.base.there b o e hx
  exact there b o' (neC b o e hx) e1
 ·obtain⟨m1,e1⟩:=I.base.tbls b ps e
  obtain⟨m2,e2⟩:=tbls b _ e1
  exact⟨m1 ++ m2,by rw[e2,Array.append_assoc]⟩
 ·obtain⟨m,hn,hl⟩:=I.loc
  refine⟨m,ns m hn,λi x v e1 e2 e3=>?_⟩
  obtain⟨u,r,l⟩:=hl i x v e1 e2 e3
  refine⟨u,r,?_⟩
  rcases l with l | ⟨k,c,e,z⟩
  ·exact .inl l
  ·exact .inr ⟨k,c,e,cellK x c e _ z⟩
 ·obtain⟨v,z⟩:=I.cell x c e
  exact⟨v,cellK x c e v z⟩
 ·obtain⟨m,⟨o,_,_,ho,_⟩,_⟩:=I.loc
  exact free _ o (λz=>(hch _ z).2.1 rfl) ho I.free
 ·obtain⟨v,o,ho,hd⟩:=I.cell x c e
  exact free c o (λz=>(hch c z).2.2.1 x c e rfl) ho (I.freeC x c e)
 ·obtain⟨e,n,ne,nf,d⟩:=I.pin p hp
  have nch:p.1 ∉ ch:=λz=>(hch p.1 z).2.2.2 p hp rfl
  exact⟨keep p.1 p.2 ne nf nch e n,free p.1 p.2 nch e n,ne,nf,d⟩
theorem Inv.un(I:Inv X pins σ H s)(u:Un X.fs [] H H' s.heap h')(hok:HOk X.prog X.w H' h'):Inv X pins σ H' { s with heap:=h',toks:=t' }:=by
 obtain⟨m,⟨o,es,ep,ho,r⟩,_⟩:=id I.loc
 obtain⟨sl,hL⟩:=u.any ho I.free (by simp)
 exact I.step (g':=s.gens) (d':=s.drawn) (ch:=[]) (λ_ z=>nomatch z) (λb o _ hb _ e n=>u.keep b o e n hb (by simp)) (λb o _ hb _ e n=>u.slot b o e n hb (by simp)) (λb o _ e n=>u.free b o e n (by simp)) (λb o _ e=>u.there b o e (by simp)) u.tups u.frzs u.tbls (λm' hm=>by
  obtain⟨o',es',ep',ho',r'⟩:=hm
  rw[ho] at ho';cases ho'
  exact⟨_,es',ep',hL,r'⟩) hok I.bare
theorem Inv.call(I:Inv X pins σ H s)(u:Un (frs X.stack) ch H H' s.heap h')(hok:HOk X.prog X.w H' h')(hg:AllBare g')
  (hch:∀b∈ch,(b∈X.ex\/X.s₀.heap.objs.size<=b)/\b≠X.env.locals/\(∀x c,X.env.cells.lookup x=aa c->c≠b)/\∀p∈X.pn ++ pins,p.1≠b) :
  Inv X pins σ H' { s with heap:=h',gens:=g',drawn:=d',toks:=t' }:=by
 obtain⟨m,⟨o,es,ep,ho,r⟩,_⟩:=id I.loc
 obtain⟨sl,hL⟩:=u.any ho I.free λz=>(hch _ z).2.1 rfl
 exact I.step (ch:=ch) hch (λb o hL hb hc e n=>u.keep b o e n (λz=>(bS.mp (I.stkSub b z)).elim hL hb) hc) (λb o _ _ hc e n=>u.any e n hc) (λb o hc e n=>u.free b o e n hc) (λb o hc e=>u.there b o e hc) u.tups u.frzs u.tbls (λm' hm=>by
  obtain⟨o',es',ep',ho',r'⟩:=hm
  rw[ho] at ho';cases ho'
  exact⟨_,es',ep',hL,r'⟩) hok hg
theorem Inv.turned(I:Inv X pins σ H s)(k:∀b o,b≠it->s.heap.get? b=aa o->h'.get? b=aa o)(hn:H it=ai)(hL:it≠X.env.locals)
  (h1:it∈X.ex\/X.s₀.heap.objs.size<=it) (h2:∀x c,X.env.cells.lookup x=aa c->c≠it) (h3:∀p∈X.pn ++ pins,p.1≠it):Inv X pins σ H { s with heap:=h',toks:=t' }:=by
 have nit:∀b u,H b=aa u->b≠it:=λb u e z=>by rw[z,hn] at e;cases e
 refine I.step (g':=s.gens) (d':=s.drawn) (ch:=[it]) (λb hb=>?_) (λb o _ _ hc e _=>k b o (λz=>hc (by simp[z])) e) (λb o _ _ hc e _=>⟨o.slots,k b o (λz=>hc (by simp[z])) e⟩) (λ_ _ _ _ n=>n)
  (λb o hc e=>⟨o,k b o (λz=>hc (by simp[z])) e⟩) (λ_ _ e=>e) (λ_ _ _ e=>e) (λb ps e=>⟨#[],by rw[e];simp⟩) (λm hm=>?_) (λb u e=>?_) I.bare
 ·have e:b=it:=by simpa using hb
  subst e
  exact⟨h1,hL,h2,h3⟩
 ·obtain⟨o,es,ep,ho,r⟩:=hm
  exact⟨o,es,ep,k _ o (cH hL) ho,r⟩
 ·refine(I.hok b u e).stay (λc v hc q=>k c v ?_ q) (λ_ q=>q) λ_ _ q=>q
  rcases hc with z | z
  ·rw[z];exact nit b u e
  ·exact nit c _ z
theorem Inv.tok(I:Inv X pins σ H s)(t:Nat):Inv X pins σ H { s with toks:=t }:=I.un (h':=s.heap) (t':=t) Un.refl I.hok
theorem Inv.kept(I:Inv X pins σ H s)(k:∀b u,s.heap.get? b=aa u->h'.get? b=aa u):Inv X pins σ H { s with heap:=h',toks:=t' }:=I.un (Un.kept k) (I.hok.kept k)
theorem Inv.laid{a:ag}{o:HO}(I:Inv X pins σ H s)(k:∀b u,s.heap.get? b=aa u->h'.get? b=aa u)(hp:s.heap.objs.size<=a)(new:ObjOk X.prog X.w (upd H a o) h' a o) :
  Inv X pins σ (upd H a o) { s with heap:=h',toks:=t' }:=I.un (Un.laid k hp (I.hok.fresh hp)) (I.hok.laid k hp new)
theorem Inv.write(I:Inv X pins σ H s)(mu:Mut (H x))(he:e=x\/H e=aa (.own x))(k:∀b u,b≠e->s.heap.get? b=aa u->h'.get? b=aa u)(heo:∃u,h'.get? e=aa u)
  (new:ObjOk X.prog X.w (upd H x o) h' x o):Inv X pins σ (upd H x o) { s with heap:=h',toks:=t' }:=I.un (Un.write mu he k heo) (I.hok.write mu he k heo new)
theorem Inv.pins_of(I:Inv X pins σ H s)(h:∀p∈pins',s.heap.get? p.1=aa p.2/\H p.1=ai/\p.1≠X.env.locals/\p.1 ∉ X.fs/\∀v,p.2.data≠.cell v):Inv X pins' σ H s:=
 ⟨I.ok,I.os,I.bare,I.base,I.loc,I.cell,I.free,I.freeC,λp hp=>(bF.mp hp).elim (λz=>I.pin p (cE _ z)) (h p),I.hok,I.len⟩
theorem Kt{N:List Str}(hN:N.Nodup){i j:Nat}(a:N[i]?=aa x)(b:N[j]?=aa x):i=j:=by
 obtain⟨h1,e1⟩:=bn.mp a
 obtain⟨h2,e2⟩:=bn.mp b
 exact(fD hN).mp (e1.trans e2.symm)
theorem VP{E:af->aj->Prop}{Q:Unit->aj->Prop}(I:Inv X pins σ H s)(hN:X.N.Nodup)(hi:X.N[i]?=aa x)(hx:Loc X.env.scope x)(r:RelV v u)
  (h:∀s',Inv X pins (σ.set i (aa v)) H s'->(∃a,dA a s.heap s'.heap/\(a=X.env.locals\/X.env.cells.lookup x=aa a))->Q () s') (hf:X.fn x=ae\/X.env.scope.names.lookup x=aa .local:=by first | exact .inl rfl | exact .inr rfl | assumption):wpAny M A (storeName X.env x u) Q E s:=by
 obtain⟨m,hn,hl⟩:=id I.loc
 have hcls:(X.env.scope.kind == .class || (X.env.scope.kind == .module && X.env.locals != X.env.globals))=ao:=by rw[I.ok.kind];rfl
 have hiσ:i < σ.length:=by rw[I.len];exact(bn.mp hi).1
 have cne:=I.cne
 have tracked:∀ {a:ag} {h':aw},(∃o,s.heap.get? a=aa o/\H a=ai)->dA a s.heap h'->HOk X.prog X.w H h':=λ{a h'} ha hs b ob e=>by
  obtain⟨_,_,hfree⟩:=ha
  refine(I.hok b ob e).stay (λc w' hc q=>(hs.2 c ?_).trans q) (λ_ q=>q) λ_ _ q=>q
  rintro rfl
  rcases hc with rfl | hc
  ·rw[hfree] at e;cases e
  ·rw[hfree] at hc;cases hc
 rcases hx with hk | hk
 ·refine wpAny_storeName_local hk hn (λh' hn' hs=>?_) hcls
  obtain⟨oL,_,_,hoL,_⟩:=id hn
  refine h _ ⟨I.ok,I.os,I.bare,⟨λb o e n hb hx=>?_,λb o e n hb hx=>?_,I.base.free,λb o e hx=>?_,I.base.tups,I.base.frzs,I.base.tbls⟩,⟨_,hn',λj y v' e1 e2 e3=>?_⟩,λy c e=>?_,I.free,I.freeC,λp hp=>?_,tracked ⟨oL,hoL,I.free⟩ hs,by simpa using I.len⟩ ⟨_,hs,.inl rfl⟩
  ·exact(hs.2 b (cz (cg (bY e) I.ok.above))).trans (I.base.keep b o e n hb hx)
  ·obtain⟨sl,e1⟩:=I.base.slot b o e n hb hx
   exact⟨sl,(hs.2 b (cz (cg (bY e) I.ok.above))).trans e1⟩
  ·obtain⟨o',e1⟩:=I.base.there b o e hx
   exact⟨o',(hs.2 b (cz (cg (bY e) I.ok.above))).trans e1⟩
  ·by_cases hj:j=i
   ·subst hj
    rw[hi] at e1;cases e1
    rw[mL hiσ] at e2
    cases e2
    exact⟨u,r,.inl ⟨hk,by simp⟩⟩
   ·rw[nv (cH hj)] at e2
    obtain⟨u',r',q⟩:=hl j y v' e1 e2 e3
    refine⟨u',r',?_⟩
    rcases q with ⟨k,e⟩ | ⟨k,c,e,z⟩
    ·refine .inl ⟨k,?_⟩
     have:y≠x:=λe=>hj (Kt hN e1 (e ▸ hi))
     simp[this,e]
    ·exact .inr ⟨k,c,e,z.sameBut hs (cne y c e)⟩
  ·obtain⟨w',z⟩:=I.cell y c e
   exact⟨w',z.sameBut hs (cne y c e)⟩
  ·obtain⟨e,n,ne,nf,d⟩:=I.pin p hp
   exact⟨(hs.2 p.1 ne).trans e,n,ne,nf,d⟩
 ·have hfn:X.fn x=ae:=by
   rcases hf with z | z
   ·exact z
   ·rw[z] at hk;cases hk
  obtain⟨c,hc⟩:=I.ok.has x (.inl hk)
  obtain⟨w',z⟩:=I.cell x c hc
  refine wpAny_storeName_cell I.ok.kind hk hc z (λh' hc' hs=>?_)
  obtain⟨oc,hoc,hocd⟩:=id z
  refine h { s with heap:=h' } ⟨I.ok,I.os,I.bare,⟨λb o e n hb hx=>?_,λb o e n hb hx=>?_,I.base.free,λb o e hx=>?_,I.base.tups,I.base.frzs,I.base.tbls⟩,⟨m,hn.sameBut hs (cH (cne x c hc)),λj y v' e1 e2 e3=>?_⟩,λy c' e=>?_,I.free,I.freeC,λp hp=>?_,tracked ⟨oc,hoc,I.freeC x c hc⟩ hs,by simpa using I.len⟩ ⟨c,hs,.inr hc⟩
  ·exact(hs.2 b (cz (cg (bY e) (I.ok.cab x c hfn hc)))).trans (I.base.keep b o e n hb hx)
  ·obtain⟨sl,e1⟩:=I.base.slot b o e n hb hx
   exact⟨sl,(hs.2 b (cz (cg (bY e) (I.ok.cab x c hfn hc)))).trans e1⟩
  ·obtain⟨o',e1⟩:=I.base.there b o e hx
   exact⟨o',(hs.2 b (cz (cg (bY e) (I.ok.cab x c hfn hc)))).trans e1⟩
  ·by_cases hj:j=i
   ·subst hj
    rw[hi] at e1;cases e1
    rw[mL hiσ] at e2
    cases e2
    exact⟨u,r,.inr ⟨.inl hk,c,hc,hc'⟩⟩
   ·rw[nv (cH hj)] at e2
    obtain⟨u',r',q⟩:=hl j y v' e1 e2 e3
    refine⟨u',r',?_⟩
    rcases q with q | ⟨k,c',e,z'⟩
    ·exact .inl q
    ·refine .inr ⟨k,c',e,z'.sameBut hs ?_⟩
     rintro rfl
     exact hj (Kt hN e1 (I.ok.inj _ _ _ e hc ▸ hi))
  ·by_cases hcc:c'=c
   ·subst hcc;exact⟨_,hc'⟩
   ·obtain⟨w2,z2⟩:=I.cell y c' e
    exact⟨w2,z2.sameBut hs hcc⟩
  ·obtain⟨e,n,ne,nf,d⟩:=I.pin p hp
   refine⟨(hs.2 p.1 ?_).trans e,n,ne,nf,d⟩
   intro q
   rw[q,hoc] at e
   have q':oc=p.2:=ck e
   exact d w' (by rw[<-q'];exact hocd)
theorem X6{E:af->aj->Prop}{Q:Unit->aj->Prop}(I:Inv X pins σ H s)(hN:X.N.Nodup)(hi:X.N[i]?=aa x)(hx:Loc X.env.scope x)(r:RelV v u)
  (h:∀s',Inv X pins (σ.set i (aa v)) H s'->Q () s') (hf:X.fn x=ae\/X.env.scope.names.lookup x=aa .local:=by first | exact .inl rfl | exact .inr rfl | assumption):wpAny M A (storeName X.env x u) Q E s:=
 VP I hN hi hx r (λs' I' _=>h s' I') hf
theorem Inv.call'(I:Inv X pins σ H s)(ho:s'.os=s.os)(u:Un (frs X.stack) ch H H' s.heap s'.heap)(hok:HOk X.prog X.w H' s'.heap)(hg:AllBare s'.gens)
  (hch:∀b∈ch,(b∈X.ex\/X.s₀.heap.objs.size<=b)/\b≠X.env.locals/\(∀x c,X.env.cells.lookup x=aa c->c≠b)/\∀p∈X.pn ++ pins,p.1≠b):Inv X pins σ H' s':=by
 obtain⟨h',g',d',t',o'⟩:=s'
 have e:o'=s.os:=ho
 subst e
 exact I.call (g':=g') (t':=t') (d':=d') u hok hg hch
end
abbrev XK:=af->Option ag->Hp->Prop
abbrev St:=List (Option V)
abbrev VK:=V->Hp->Prop
abbrev TE:=St->Hp->VK->Prop
abbrev TT:=St->Hp->(Bool->Hp->Prop)->Prop
abbrev TA:=St->Hp->(List V->Hp->Prop)->Prop
set_option genSizeOf false in
set_option genInjectivity false in
structure Vi where
 nx:St->Hp->Prop
 rt:VK
 bk:St->Hp->Prop:=λ_ _=>False
 ct:St->Hp->Prop:=λ_ _=>False
abbrev TS:=Vi->St->Hp->Prop
def EP(X:Cx)(pins:List (ag × Obj))(σ:St)(Q:VK)(u:af)(s':aj):Prop:=∃v H',Inv X pins σ H' s'/\RelV v u/\Q v H'
def TP(X:Cx)(pins:List (ag × Obj))(σ:St)(Q:Bool->Hp->Prop)(b:Bool)(s':aj):Prop:=∃H',Inv X pins σ H' s'/\Q b H'
def AP(X:Cx)(pins:List (ag × Obj))(σ:St)(Q:List V->Hp->Prop)(us:List af)(s':aj):Prop:=∃vs H',Inv X pins σ H' s'/\Vals vs us/\Q vs H'
def SP(X:Cx)(pins:List (ag × Obj))(D:Vi)(f:Flow)(s':aj):Prop :=
 match f with
 | .next=>∃σ' H',Inv X pins σ' H' s'/\D.nx σ' H'
 | .brk=>∃σ' H',Inv X pins σ' H' s'/\D.bk σ' H'
 | .cont=>∃σ' H',Inv X pins σ' H' s'/\D.ct σ' H'
 | .ret u=>∃v σ' H',Inv X pins σ' H' s'/\RelV v u/\D.rt v H'
def PE(X:Cx)(e:ay)(t:TE):Prop :=
 ∀(pins:List (ag × Obj)) (s:aj) (σ:St) (H:Hp) (Q:VK),Inv X pins σ H s->t σ H Q->wpAny (model X.prog X.w) X.A (eval e X.env) (EP X pins σ Q) X.xe s
def PT(X:Cx)(e:ay)(t:TT):Prop :=
 ∀(pins:List (ag × Obj)) (s:aj) (σ:St) (H:Hp) (Q:Bool->Hp->Prop),Inv X pins σ H s->t σ H Q->wpAny (model X.prog X.w) X.A (isTrue e X.env (eval e X.env)) (TP X pins σ Q) X.xe s
def PW(X:Cx)(e:ay)(t:TT):Prop :=
 ∀(whole:Sem af) (pins:List (ag × Obj)) (s:aj) (σ:St) (H:Hp) (Q:Bool->Hp->Prop),Inv X pins σ H s->t σ H Q->wpAny (model X.prog X.w) X.A (isTrue e X.env whole) (TP X pins σ Q) X.xe s
theorem PW.pt(h:PW X e t):PT X e t:=h _
def PA(X:Cx)(es:List ay)(t:TA):Prop :=
 ∀(pos:Pos) (pins:List (ag × Obj)) (s:aj) (σ:St) (H:Hp) (Q:List V->Hp->Prop),Inv X pins σ H s->t σ H Q->wpAny (model X.prog X.w) X.A (spliced (backTo pos (starEach es X.env))) (AP X pins σ Q) X.xe s
def PS(X:Cx)(st:ax)(t:TS):Prop :=
 ∀(pins:List (ag × Obj)) (s:aj) (σ:St) (H:Hp) (D:Vi),Inv X pins σ H s->t D σ H->wpAny (model X.prog X.w) X.A (exec st X.env) (SP X pins D) X.xe s
def PSs(X:Cx)(st:List ax)(t:TS):Prop :=
 ∀(pins:List (ag × Obj)) (s:aj) (σ:St) (H:Hp) (D:Vi),Inv X pins σ H s->t D σ H->wpAny (model X.prog X.w) X.A (execs st X.env) (SP X pins D) X.xe s
theorem thn{α:Type}{t:Sem α}{Q Q':α->aj->Prop}{E:af->aj->Prop}(h:wpAny M A t Q E s)(hQ:∀a s,Q a s->Q' a s):wpAny M A t Q' E s:=dh h hQ λ_ _ x=>x
section
variable {X:Cx}
def zc(i:Nat):TE:=λσ H Q=>∃v,σ[i]?=aa (aa v)/\Q v H
def tC(v:V):TE:=λ_ H Q=>Q v H
theorem zgH{x:Str}{pos:Pos}(hN:X.N[i]?=aa x)(hv:Vis X.env.scope x)(hd:(x == ("__debug__":Str))=ao:=by decide)(hcd:(x == ("__classdict__":Str))=ao:=by decide):PE X (.Name x pos) (zc i):=by
 intro pins s σ H Q I h
 obtain⟨v,e,h⟩:=h
 obtain⟨m,hn,hl⟩:=I.loc
 obtain⟨u,r,l⟩:=hl i x v hN e hv
 have fin:EP X pins σ Q u s:=⟨v,H,I,r,h⟩
 rcases l with ⟨hk,hm⟩ | ⟨hk,c,hc,hcell⟩
 ·exact wpAny_Name (wpAny_loadName_local I.ok.kind hk hn hm fin) hd
 ·rcases hk with hk | hk
  ·exact wpAny_Name (wpAny_loadName_cell I.ok.kind hk hc hcell fin) hd
  ·exact wpAny_Name (wpAny_loadName_free I.ok.kind hk hc hcell fin hcd) hd
theorem ze{i j pos}:PE X (.Constant (.int i) j pos) (tC (.int i)):=λ_ _ _ H _ I h=>wpAny_Constant_int ⟨.int i,H,I.tok _,⟨_,rfl⟩,h⟩
theorem vA{b j pos}:PE X (.Constant (.bool b) j pos) (tC (.bl b)):=λ_ _ _ H _ I h=>Constant_bool ⟨.bl b,H,I,rfl,h⟩
theorem wB{j pos}:PE X (.Constant .none j pos) (tC .non):=λ_ _ _ H _ I h=>Constant_none ⟨.non,H,I,rfl,h⟩
theorem zK{x j pos}:PE X (.Constant (.str x) j pos) (tC (.str x)):=λ_ _ _ H _ I h=>gN ⟨.str x,H,I.tok _,⟨_,rfl⟩,h⟩
def Gl(X:Cx)(x:Str):Prop:=X.env.kindOf x=aa .globalImplicit
theorem vE{E:af->aj->Prop}{s:aj}{σ:St}{H:Hp}{x:Str}{u:af}{pos:Pos}{Q:af->aj->Prop}(I:Inv X pins σ H s)(hg:Gl X x)(hm:X.mg x=aa u)(h:Q u s)
  (hd:(x == ("__debug__":Str))=ao:=by decide):wpAny (model X.prog X.w) X.A (eval (.Name x pos) X.env) Q E s:=
 lI I.ok.kind hg (Calls.loadGlobal_global (by rw[I.ok.glob];exact I.mod.glob.keeps I.bk) hm h) hd
theorem jZ{E:af->aj->Prop}{s:aj}{σ:St}{H:Hp}{x:Str}{u:af}{pos:Pos}{Q:af->aj->Prop}(I:Inv X pins σ H s)(hg:Gl X x)(hm:X.mg x=ai)(hv:bootBuiltins x=aa u)(h:Q u s)
  (hn:x≠"__name__":=by decide) (hd:(x == ("__debug__":Str))=ao:=by decide):wpAny (model X.prog X.w) X.A (eval (.Name x pos) X.env) Q E s:=by
 obtain⟨mb,h1,h2⟩:=I.mod.blt
 exact lI I.ok.kind hg (Calls.loadGlobal_builtin (by rw[I.ok.glob];exact I.mod.glob.keeps I.bk) hm (by rw[I.ok.blt];exact h1.keeps I.bk) ((h2 x hn).trans hv) h) hd
theorem zeX(hg:Gl X x)(hm:X.mg x=aa u)(r:RelV v u)(hd:(x == ("__debug__":Str))=ao:=by decide):PE X (.Name x pos) (tC v):=
 λ_ _ _ H _ I h=>vE I hg hm ⟨v,H,I,r,h⟩ hd
theorem v4{x:Str}{pos:Pos}(hg:Gl X x)(hm:X.mg x=ai)(hv:bootBuiltins x=aa u)(r:RelV v u)(hn:x≠"__name__":=by decide)(hd:(x == ("__debug__":Str))=ao:=by decide):PE X (.Name x pos) (tC v):=
 λ_ _ _ H _ I h=>jZ I hg hm hv ⟨v,H,I,r,h⟩ hn hd
variable {a b:ay}{ta tb:TE}{pos:Pos}
def tB(t:TE):TT:=λσ H Q=>t σ H λx H1=>∃c,x=.bl c/\Q c H1
theorem xC{e:ay}{t:TE}(h:PE X e t)(he:∀whole,isTrue e X.env whole=(do let v <-whole;standAt e.pos;holding [v] (truthy v)):=by intro _;rfl):PT X e (tB t):=by
 intro pins s σ H Q I hw
 refine isTrue_plain (thn (h pins s σ H _ I hw) λv s1 ⟨x,H1,I1,r1,q1⟩=>?_) (he _)
 obtain⟨d,rfl,q⟩:=q1
 cases r1
 exact eU ⟨H1,I1,q⟩
variable {tA tB':TT}{rest:List ay}
def zhC(t u:TT):TT:=λσ H Q=>t σ H λc H1=>if c=ae then u σ H1 Q else Q ao H1
def tOr(t u:TT):TT:=λσ H Q=>t σ H λc H1=>if c=ae then Q ae H1 else u σ H1 Q
def ZE(t:TT):TT:=λσ H Q=>t σ H λc H1=>Q (!c) H1
theorem zeY(ha:PT X a tA):PW X (.BoolOp .And [a] pos) tA:=by
 intro wh pins s σ H Q I h
 refine isTrue_and (thn (ha pins s σ H Q I h) λc s1 e=>?_)
 cases c with
 | true=>exact isTrue_and_nil e
 | false=>exact e
theorem X7(ha:PT X a tA):PW X (.BoolOp .Or [a] pos) tA:=by
 intro wh pins s σ H Q I h
 refine isTrue_or (thn (ha pins s σ H Q I h) λc s1 e=>?_)
 cases c with
 | false=>exact isTrue_or_nil e
 | true=>exact e
theorem zgI(ha:PT X a tA)(hb:PW X (.BoolOp .And (b :: rest) pos) tB'):PW X (.BoolOp .And (a :: b :: rest) pos) (zhC tA tB'):=by
 intro wh pins s σ H Q I h
 refine isTrue_and (thn (ha pins s σ H _ I h) λc s1 ⟨H1,I1,q1⟩=>?_)
 cases c with
 | true=>exact hb wh pins s1 σ H1 Q I1 q1
 | false=>exact⟨H1,I1,q1⟩
theorem X8(ha:PT X a tA)(hb:PW X (.BoolOp .Or (b :: rest) pos) tB'):PW X (.BoolOp .Or (a :: b :: rest) pos) (tOr tA tB'):=by
 intro wh pins s σ H Q I h
 refine isTrue_or (thn (ha pins s σ H _ I h) λc s1 ⟨H1,I1,q1⟩=>?_)
 cases c with
 | true=>exact⟨H1,I1,q1⟩
 | false=>exact hb wh pins s1 σ H1 Q I1 q1
theorem j3(ha:PT X a tA):PT X (.UnaryOp .Not a pos) (ZE tA):=by
 intro pins s σ H Q I h
 exact isTrue_not (ha pins s σ H (λc H1=>Q (!c) H1) I h)
def Ku(ta tb:TE):TE:=λσ H Q=>ta σ H λx H1=>∃c,x=.bl c/\if c=ae then tb σ H1 Q else Q (.bl ao) H1
def Q8(ta tb:TE):TE:=λσ H Q=>ta σ H λx H1=>∃c,x=.bl c/\if c=ae then Q (.bl ae) H1 else tb σ H1 Q
theorem Jr{op}{t:TE}(h:PE X a t):PE X (.BoolOp op [a] pos) t:=λpins s σ H Q I hw=>BoolOp_one (h pins s σ H Q I hw)
theorem Q9(ha:PE X a ta)(hb:PE X (.BoolOp .And (b :: rest) pos) tb):PE X (.BoolOp .And (a :: b :: rest) pos) (Ku ta tb):=by
 intro pins s σ H Q I h
 refine BoolOp_and (thn (ha pins s σ H _ I h) λv s1 ⟨x,H1,I1,r1,q1⟩=>?_)
 obtain⟨c,rfl,q1⟩:=q1
 cases r1
 refine eU ?_
 cases c with
 | true=>exact hb pins s1 σ H1 Q I1 q1
 | false=>exact⟨.bl ao,H1,I1,rfl,q1⟩
theorem zcJ(ha:PE X a ta)(hb:PE X (.BoolOp .Or (b :: rest) pos) tb):PE X (.BoolOp .Or (a :: b :: rest) pos) (Q8 ta tb):=by
 intro pins s σ H Q I h
 refine BoolOp_or (thn (ha pins s σ H _ I h) λv s1 ⟨x,H1,I1,r1,q1⟩=>?_)
 obtain⟨c,rfl,q1⟩:=q1
 cases r1
 refine eU ?_
 cases c with
 | false=>exact hb pins s1 σ H1 Q I1 q1
 | true=>exact⟨.bl ae,H1,I1,rfl,q1⟩
def tIf(t:TT)(ta tb:TE):TE:=λσ H Q=>t σ H λc H1=>if c=ae then ta σ H1 Q else tb σ H1 Q
theorem vN(hc:PT X c tA)(ha:PE X a ta)(hb:PE X b tb):PE X (.IfExp c a b pos) (tIf tA ta tb):=by
 intro pins s σ H Q I h
 refine wpAny_IfExp (thn (hc pins s σ H _ I h) λd s1 ⟨H1,I1,q1⟩=>?_)
 cases d with
 | true=>exact ha pins s1 σ H1 Q I1 q1
 | false=>exact hb pins s1 σ H1 Q I1 q1
end
def SqL(K:bz)(H:Hp)(a:ag)(xs:List V):Prop :=
 Rd H a (.lst xs) \/
  ∃(o:Obj) (its:Array af) (n:Nat),K.lookup a=aa o/\o.cls=.type "list"/\o.dict=ai/\o.data=.seq its n/\its.size<=sizeLine/\Vals xs its.toList
def SqT(K:bz)(H:Hp)(a:ag)(xs:List V):Prop :=
 Rd H a (.tup xs) \/
  ∃(o:Obj) (its:Array af) (n:Nat),K.lookup a=aa o/\o.cls=.type "tuple"/\o.data=.seq its n/\its.size<=sizeLine/\Vals xs its.toList
def zil:af->Option V
 | .none=>aa .non
 | .bool b=>aa (.bl b)
 | .int i _=>aa (.int i)
 | .str x _=>aa (.str x)
 | .bytes b _=>aa (.byt b)
 | .float b _=>aa (.flt b)
 | .ref a=>aa (.ref a)
 | .type n=>aa (.ty n)
 | _=>ai
theorem RelV.abs(r:RelV x u):zil u=aa x:=by
 cases x with
 | non=>cases r;rfl
 | bl _=>cases r;rfl
 | int _=>obtain⟨t,rfl⟩:=r;rfl
 | str _=>obtain⟨t,rfl⟩:=r;rfl
 | byt _=>obtain⟨t,rfl⟩:=r;rfl
 | flt _=>obtain⟨t,rfl⟩:=r;rfl
 | ref _=>cases r;rfl
 | ty _=>cases r;rfl
theorem RelV.inj(r:RelV x u)(q:RelV y u):x=y:=ck (r.abs.symm.trans q.abs)
theorem Vals.inj:∀ {xs ys:List V} {us:List af},Vals xs us->Vals ys us->xs=ys
 | _,_,_,.nil,.nil=>rfl
 | _,_,_,.cons r t,.cons r' t'=>by rw[r.inj r',Vals.inj t t']
section
variable {X:Cx}{pins:List (ag × Obj)}{σ:St}{H:Hp}{s:aj}{a:ag}{xs ys:List V}
theorem SqL.of{K:bz}(h:H a=aa (.lst xs)):SqL K H a xs:=.inl (.inl h)
theorem SqT.of{K:bz}(h:H a=aa (.tup xs)):SqT K H a xs:=.inl (.inl h)
theorem Inv.list(I:Inv X pins σ H s)(h:SqL X.K H a xs):∃its:List af,Vals xs its/\PlainL s.heap a its.toArray/\xs.length<=sizeLine:=by
 rcases h with h | ⟨o,its,n,hk,hc,hd,hs,hz,r⟩
 ·obtain⟨z,its,n,r,e⟩:=h.ok I.hok
  exact⟨its,r,⟨_,n,e,rfl,rfl,rfl⟩,z⟩
 ·refine⟨its.toList,r,⟨o,n,I.kIn a o hk,hc,hd,by simpa using hs⟩,?_⟩
  have e:=r.length
  simp only[cy] at e
  lia
theorem Inv.tuple(I:Inv X pins σ H s)(h:SqT X.K H a xs):∃its:List af,Vals xs its/\IsTup s.heap a its.toArray/\xs.length<=sizeLine:=by
 rcases h with h | ⟨o,its,n,hk,hc,hs,hz,r⟩
 ·obtain⟨z,its,r,p⟩:=h.ok I.hok
  exact⟨its,r,p,z⟩
 ·refine⟨its.toList,r,⟨o,I.kIn a o hk,hc,n,by simpa using hs⟩,?_⟩
  have e:=r.length
  simp only[cy] at e
  lia
theorem Inv.list_inj(I:Inv X pins σ H s)(h:SqL X.K H a xs)(h':SqL X.K H a ys):xs=ys:=by
 obtain⟨its,r,⟨o,n,e,_,_,d⟩,_⟩:=I.list h
 obtain⟨its',r',⟨o',n',e',_,_,d'⟩,_⟩:=I.list h'
 rw[e] at e';cases e'
 rw[d] at d'
 injection d' with d1 _
 have:its=its':=by simpa using congrArg Array.toList d1
 subst this
 exact r.inj r'
theorem Inv.tuple_inj(I:Inv X pins σ H s)(h:SqT X.K H a xs)(h':SqT X.K H a ys):xs=ys:=by
 obtain⟨its,r,⟨o,e,_,n,d⟩,_⟩:=I.tuple h
 obtain⟨its',r',⟨o',e',_,n',d'⟩,_⟩:=I.tuple h'
 rw[e] at e';cases e'
 rw[d] at d'
 injection d' with d1 _
 have:its=its':=by simpa using congrArg Array.toList d1
 subst this
 exact r.inj r'
end
abbrev Cx.wish(X:Cx)(E:af->aj->Prop):Cx:={ X with xe:=E }
abbrev Cx.nox(X:Cx):Cx:=X.wish λ_ _=>False
theorem Cx.Ok.wish{X:Cx}(ok:X.Ok)(E:af->aj->Prop):(X.wish E).Ok :=
 ⟨ok.mod,ok.kind,ok.glob,ok.blt,ok.above,ok.inj,ok.has,ok.cab,ok.hd,ok.frames,ok.stk,ok.exf,ok.bs,ok.bsz,ok.noex,ok.exfs,ok.funs,ok.frf⟩
theorem Cx.Ok.unwish{X:Cx}{E:af->aj->Prop}(ok:(X.wish E).Ok):X.Ok :=
 ⟨ok.mod,ok.kind,ok.glob,ok.blt,ok.above,ok.inj,ok.has,ok.cab,ok.hd,ok.frames,ok.stk,ok.exf,ok.bs,ok.bsz,ok.noex,ok.exfs,ok.funs,ok.frf⟩
section
variable {X:Cx}{pins:List (ag × Obj)}{σ:St}{H:Hp}{s:aj}{E:af->aj->Prop}
theorem Inv.wish(I:Inv X pins σ H s)(E:af->aj->Prop):Inv (X.wish E) pins σ H s:=⟨I.ok.wish E,I.os,I.bare,I.base,I.loc,I.cell,I.free,I.freeC,I.pin,I.hok,I.len⟩
theorem Inv.unwish(I:Inv (X.wish E) pins σ H s):Inv X pins σ H s:=⟨I.ok.unwish,I.os,I.bare,I.base,I.loc,I.cell,I.free,I.freeC,I.pin,I.hok,I.len⟩
theorem SP.unwish(h:SP (X.wish E) pins D f s'):SP X pins D f s':=by
 cases f with
 | next=>obtain⟨σ',H',I,q⟩:=h;exact⟨σ',H',I.unwish,q⟩
 | brk=>obtain⟨σ',H',I,q⟩:=h;exact⟨σ',H',I.unwish,q⟩
 | cont=>obtain⟨σ',H',I,q⟩:=h;exact⟨σ',H',I.unwish,q⟩
 | ret u=>obtain⟨v,σ',H',I,r,q⟩:=h;exact⟨v,σ',H',I.unwish,r,q⟩
theorem PSs.nox{st:List ax}{t:TS}(h:PSs X.nox st t):PSs X st t:=λpins s σ H D I hw =>
 dh (h pins s σ H D (I.wish _) hw) (λ_ _ q=>q.unwish) λ_ _ z=>cJ z
end
section
variable {X:Cx}{st:ax}{rest:List ax}{t u:TS}{e:ay}{te:TE}{pos:Pos}
def zH:TS:=λD σ H=>D.nx σ H
def zo(t u:TS):TS:=λD σ H=>t { D with nx:=u D } σ H
theorem zF:PSs X [] zH:=λ_ _ σ H _ I h=>eD ⟨σ,H,I,h⟩
theorem zg(h1:PS X st t)(h2:PSs X rest u):PSs X (st :: rest) (zo t u):=by
 intro pins s σ H D I h
 refine iJ (thn (h1 pins s σ H { D with nx:=u D } I h) λf s1 q=>?_)
 cases f with
 | next =>
  obtain⟨σ',H',I',q⟩:=q
  exact h2 pins s1 σ' H' D I' q
 | ret v=>exact q
 | brk=>exact q
 | cont=>exact q
theorem zh(h1:PS X st t):PSs X [st] t:=by
 intro pins s σ H D I h
 refine iJ (thn (h1 pins s σ H D I h) λf s1 q=>?_)
 cases f with
 | next=>exact eD q
 | ret v=>exact q
 | brk=>exact q
 | cont=>exact q
def zcK:TS:=λD σ H=>D.bk σ H
theorem zcL:PS X (.Break pos) zcK:=λ_ _ σ H _ I h=>wpAny_Break ⟨σ,H,I,h⟩
theorem Inv.quiet{σ:St}{H:Hp}{s:aj}(I:Inv X pins σ H s):interactive X.env=ao:=by simp[interactive,I.ok.kind]
def yT(te:TE):TS:=λD σ H=>te σ H λ_ H1=>D.nx σ H1
theorem yU(he:PE X e te)(hs:swapsWith e ai pos.line X.env=pure ao:=by rfl):PS X (.Expr e pos) (yT te):=by
 intro pins s σ H D I h
 exact wpAny_Expr_any (thn (he pins s σ H _ I h) λv s1 ⟨x,H1,I1,r1,q1⟩=>⟨σ,H1,I1,q1⟩) I.quiet hs
def zB(te:TE):TS:=λD σ H=>te σ H D.rt
theorem zu(he:PE X e te):PS X (.Return (aa e) pos) (zB te):=by
 intro pins s σ H D I h
 exact wpAny_Return_some (thn (he pins s σ H _ I h) λv s1 ⟨x,H1,I1,r1,q1⟩=>⟨x,σ,H1,I1,r1,q1⟩)
def zcM:TS:=λD _ H=>D.rt .non H
theorem zeZ:PS X (.Return ai pos) zcM:=λ_ _ σ H _ I h=>wpAny_Return_none ⟨.non,σ,H,I,rfl,h⟩
def zS(c:TT)(t u:TS):TS:=λD σ H=>c σ H λb H1=>if b=ae then t D σ H1 else u D σ H1
theorem zT(hc:PT X c tc)(ha:PSs X a t)(hb:PSs X b u):PS X (.If c a b pos) (zS tc t u):=by
 intro pins s σ H D I h
 refine wpAny_If (thn (hc pins s σ H _ I h) λd s1 ⟨H1,I1,q1⟩=>?_)
 cases d with
 | true=>exact ha pins s1 σ H1 D I1 q1
 | false=>exact hb pins s1 σ H1 D I1 q1
end
abbrev TG:=V->St->Hp->(St->Hp->Prop)->Prop
abbrev TGs:=List V->St->Hp->(St->Hp->Prop)->Prop
def PG(X:Cx)(target:ay)(t:TG):Prop :=
 ∀(pins:List (ag × Obj)) (s:aj) (σ:St) (H:Hp) (v:V) (u:af) (Q:St->Hp->Prop),Inv X pins σ H s->RelV v u->t v σ H Q ->
  wpAny (model X.prog X.w) X.A (assign target X.env u) (λ_ s'=>∃σ' H',Inv X pins σ' H' s'/\Q σ' H') X.xe s
def PGs(X:Cx)(ts:List ay)(t:TGs):Prop :=
 ∀(pins:List (ag × Obj)) (s:aj) (σ:St) (H:Hp) (vs:List V) (us:List af) (Q:St->Hp->Prop),Inv X pins σ H s->Vals vs us->t vs σ H Q ->
  wpAny (model X.prog X.w) X.A (assignInOrder ((assignEach ts X.env).map (·.2)) us) (λ_ s'=>∃σ' H',Inv X pins σ' H' s'/\Q σ' H') X.xe s
section
variable {X:Cx}{pos:Pos}
def zm(i:Nat):TG:=λv σ H Q=>Q (σ.set i (aa v)) H
theorem z0(hN:X.N.Nodup)(hi:X.N[i]?=aa x)(hx:Loc X.env.scope x)(hf:X.fn x=ae\/X.env.scope.names.lookup x=aa .local:=by first | exact .inl rfl | exact .inr rfl | assumption):PG X (.Name x pos) (zm i):=by
 intro pins s σ H v u Q I r h
 exact wpAny_assign_Name (X6 I hN hi hx r (λs' I'=>⟨_,H,I',h⟩) hf)
def zcN:TGs:=λvs σ H Q=>vs=[]/\Q σ H
def X9(t:TG)(u:TGs):TGs:=λvs σ H Q=>∃v r,vs=v :: r/\t v σ H λσ' H'=>u r σ' H' Q
theorem za6:PGs X [] zcN:=by
 intro pins s σ H vs us Q I r h
 obtain⟨e,h⟩:=h
 subst e
 cases r
 exact assignInOrder_nil ⟨σ,H,I,h⟩
theorem Yd{e:ay}{es:List ay}{t:TG}{u:TGs}(h1:PG X e t)(h2:PGs X es u)
  (hs:(assignEach (e :: es) X.env).map (·.2)=assign e X.env :: (assignEach es X.env).map (·.2):=by rfl):PGs X (e :: es) (X9 t u):=by
 intro pins s σ H vs us Q I r h
 obtain⟨v,vr,e1,h⟩:=h
 subst e1
 cases r with
 | cons r rr =>
  rw[hs]
  refine assignInOrder_cons (thn (h1 pins s σ H _ _ _ I r h) λ_ s1 ⟨σ1,H1,I1,q1⟩=>?_)
  exact h2 pins s1 σ1 H1 _ _ Q I1 rr q1
def zcO(K:bz)(n:Nat)(t:TGs):TG:=λv σ H Q=>∃a xs,v=.ref a/\SqT K H a xs/\xs.length=n/\t xs σ H Q
theorem zcP{es:List ay}{k:Nat}{t:TGs}{n:Nat}(hc:X.calm=ae)(h:PGs X es t)
  (hn:(assignEach es X.env).length=n:=by rfl) (hst:(assignEach es X.env).findIdx? (·.1)=ai:=by rfl):PG X (.Tuple es k pos) (zcO X.K n t):=by
 intro pins s σ H v u Q I r hw
 obtain⟨a,xs,e1,hq,hl,hw⟩:=hw
 subst e1
 cases r
 obtain⟨its,rv,ht,hz⟩:=I.tuple hq
 refine assign_Tuple_tuple (I.ok.hd hc) ht (by simp[hn,<-hl,rv.length]) hst λh' hx=>?_
 have I1:Inv X pins σ H { s with heap:=h' }:=I.kept (t':=s.toks) λb o e=>hx b o (cz (bY e)) e
 exact h pins _ σ H xs _ Q I1 (by simpa using rv) hw
def zJ(te:TE)(g:TG):TS:=λD σ H=>te σ H λx H1=>g x σ H1 D.nx
theorem zy{te:TE}(hN:X.N.Nodup)(hi:X.N[i]?=aa x)(hx:Loc X.env.scope x)(he:PE X e te)(hs:swapsWith e (aa (.Name x pos')) pos.line X.env=pure ao:=by rfl)(hf:X.fn x=ae\/X.env.scope.names.lookup x=aa .local:=by first | exact .inl rfl | exact .inr rfl | assumption) :
  PS X (.Assign [.Name x pos'] e pos) (zJ te (zm i)):=by
 intro pins s σ H D I h
 refine wpAny_Assign_Name (thn (he pins s σ H _ I h) λv s1 ⟨y,H1,I1,r1,q1⟩=>?_) hs
 exact X6 I1 hN hi hx r1 (λs2 I2=>⟨_,H1,I2,q1⟩) hf
end
section
variable {X:Cx}{pos:Pos}
def zaa(c:TT)(tb:TS):TS:=λD σ H=>∃W:Nat->St->Hp->Prop,(∃m,W m σ H)/\∀m σ H,W m σ H ->
 c σ H λb H1=>if b=ae then ∃N:St->Hp->Prop,(∀σ' H',N σ' H'->∃m',m' < m/\W m' σ' H')/\tb { D with nx:=N,ct:=N,bk:=D.nx } σ H1 else D.nx σ H1
theorem Kv{tb:TS}(hp:PassesOwn (model X.prog X.w) X.A X.env X.xe)(hc:PT X c tc)(hb:PSs X body tb):PS X (.While c body [] pos) (zaa tc tb):=by
 intro pins s σ H D I h
 obtain⟨W,⟨m0,w0⟩,turn⟩:=h
 refine wpAny_While (codeAny_whileLoop (λn s'=>∃σ' H',Inv X pins σ' H' s'/\W n σ' H') ?_ m0 ⟨σ,H,I,w0⟩)
 rintro n s1 ⟨σ1,H1,I1,w1⟩
 refine eV hp (thn (hc pins s1 σ1 H1 _ I1 (turn n σ1 H1 w1)) λb s2 ⟨H2,I2,q2⟩=>?_)
 cases b with
 | true =>
  obtain⟨N,hN,q2⟩:=q2
  rw[ap rfl]
  refine eV hp (thn (hb pins s2 σ1 H2 _ I2 q2) λf s3 q3=>?_)
  cases f with
  | next =>
   obtain⟨σ3,H3,I3,n3⟩:=q3
   obtain⟨m',hm,w3⟩:=hN σ3 H3 n3
   exact⟨m',hm,σ3,H3,I3,w3⟩
  | cont =>
   obtain⟨σ3,H3,I3,n3⟩:=q3
   obtain⟨m',hm,w3⟩:=hN σ3 H3 n3
   exact⟨m',hm,σ3,H3,I3,w3⟩
  | brk=>exact q3
  | ret v=>exact q3
 | false =>
  rw[ak bO]
  exact eD ⟨σ1,H2,I2,q2⟩
end
set_option genSizeOf false in
set_option genInjectivity false in
structure It where
 go:Nat->Hp->Prop
 yld:Nat->Hp->V->Hp->Prop
 stop:Nat->Hp->Prop
def qe(X:Cx)(pins:List (ag × Obj))(H:Hp)(b:ag):Prop :=
 H b=ai/\b≠X.env.locals/\b ∉ X.fs/\(b∈X.ex\/X.s₀.heap.objs.size<=b)/\(∀x c,X.env.cells.lookup x=aa c->c≠b)/\∀p∈X.pn ++ pins,p.1≠b
theorem Inv.fpOk{pins:List (ag × Obj)}{σ:St}{H H':Hp}{s:aj}{b:ag}(I:Inv X pins σ H s)(hb:s.heap.objs.size<=b)(hn:H' b=ai):qe X pins H' b:=by
 refine⟨hn,eL (cg I.lt hb),I.nofs hb,.inr (bR I.sz hb),λx c e z=>?_,λp hp z=>?_⟩
 ·obtain⟨v,q⟩:=I.cell x c e
  exact absurd (cg q.lt (by rw[z];exact hb)) (gf _)
 ·exact absurd (cg (bY (I.pin p hp).1) (by rw[z];exact hb)) (gf _)
structure zbX(P:aq)(w:au)(K:bz)(tg:ay)(J:It)(fp:List ag)(it:ag)(tn:Nat->aw->Prop):Prop where
 mem:it∈fp
 obj:∀i h,tn i h->∀b∈fp,∃o,h.get? b=aa o/\∀v,o.data≠.cell v
 keep:∀i h h',tn i h->(∀b∈fp,∀o,h.get? b=aa o->h'.get? b=aa o)->tn i h'
 item:∀(X:Cx),X.prog=P->X.w=w->X.K=K->X.calm=ae->∀(i:Nat) (pins:List (ag × Obj)) (s:aj) (σ:St) (H:Hp) (E:af->aj->Prop),Inv X pins σ H s->(∀b∈fp,qe X pins H b)->tn i s.heap->J.go i H ->
  wpAny (model P w) X.A (pyNext (.ref it)) (λr s1=>∃u,r=aa u /\
   wpAny (model P w) X.A (letOwnedTupleGo tg (.ref it) u) (λ_ s2=>∃x H',Inv X pins σ H' s2/\RelV x u/\J.yld i H x H'/\tn (i + 1) s2.heap/\∀b∈fp,H' b=ai) E s1) E s
 done:∀(X:Cx),X.prog=P->X.w=w->X.K=K->X.calm=ae->∀(i:Nat) (pins:List (ag × Obj)) (s:aj) (σ:St) (H:Hp) (E:af->aj->Prop),Inv X pins σ H s->(∀b∈fp,qe X pins H b)->tn i s.heap->J.stop i H ->
  wpAny (model P w) X.A (pyNext (.ref it)) (λr s1=>r=ai/\Inv X pins σ H s1) E s
 self:∀(A:av) (i:Nat) (s:aj) (Q:af->aj->Prop) (E:af->aj->Prop),tn i s.heap->Q (.ref it) s->wpAny (model P w) A (pyIter (.ref it)) Q E s
abbrev TI:=St->Hp->(It->Hp->Prop)->Prop
def PIE(X:Cx)(pins:List (ag × Obj))(σ:St)(tg:ay)(R:It->Hp->Prop)(itv:af)(s2:aj):Prop :=
 ∃(it:ag) (fp:List ag) (tn:Nat->aw->Prop) (J:It) (H':Hp),itv=.ref it/\Inv X pins σ H' s2/\zbX X.prog X.w X.K tg J fp it tn/\tn 0 s2.heap/\(∀b∈fp,qe X pins H' b)/\R J H'
def PI(X:Cx)(tg iter:ay)(wi:TI):Prop :=
 ∀(pins:List (ag × Obj)) (s:aj) (σ:St) (H:Hp) (R:It->Hp->Prop),Inv X pins σ H s->wi σ H R ->
  wpAny (model X.prog X.w) X.A (eval iter X.env) (λv s1=>wpAny (model X.prog X.w) X.A (pyIter v) (PIE X pins σ tg R) X.xe s1) X.xe s
theorem za7{E:af->aj->Prop}{Q:Unit->aj->Prop}(ho:s.heap.get? it=aa o)(hc:o.cls=.type n)(hd:o.data=.fields vs)
  (hn:["enumerate","zip","dict_itemiterator","dict_reverseitemiterator","odict_iterator","itertools.zip_longest","itertools.pairwise"].contains n=ao) (hQ:Q () s):wpAny M A (letOwnedTupleGo tg (.ref it) u) Q E s:=by
 unfold letOwnedTupleGo
 cases tg <;> first
  | exact bw hQ
  | (cases u <;> first
      | exact bw hQ
      | (refine bi (nr ho ?_)
         rw[hc,hd]
         show wpAny M A (if (["enumerate","zip","dict_itemiterator","dict_reverseitemiterator","odict_iterator","itertools.zip_longest","itertools.pairwise"].contains n && vs[0]? == aa (rawInt _))=ae then _ else _) Q E s
         rw[ak (by intro h;rw[hn,Bool.false_and] at h;cases h)]
         exact bw hQ))
def Itl(K:bz)(a:ag):It :=
 ⟨λi H=>∃xs x,SqL K H a xs/\xs[i]?=aa x,λi H x H'=>H'=H/\∀xs,SqL K H a xs->xs[i]?=aa x,λi H=>∃xs,SqL K H a xs/\xs.length<=i⟩
def Itt(K:bz)(a:ag):It :=
 ⟨λi H=>∃xs x,SqT K H a xs/\xs[i]?=aa x,λi H x H'=>H'=H/\∀xs,SqT K H a xs->xs[i]?=aa x,λi H=>∃xs,SqT K H a xs/\xs.length<=i⟩
def Itr(lo:Int)(n:Nat):It:=⟨λi _=>i < n,λi H x H'=>H'=H/\x=.int (lo + i),λi _=>n<=i⟩
theorem zbY{P:aq}{w:au}{K:bz}{tg:ay}(a it:ag):zbX P w K tg (Itl K a) [it] it (λi h=>h.IsListIter it a i) where
 mem:=by simp
 obj:=λi h st b hb=>by
  have e:b=it:=by simpa using hb
  subst e
  obtain⟨o,e,c,d⟩:=st
  exact⟨o,e,λv z=>by rw[d] at z;cases z⟩
 keep:=λi h h' st k=>st.at λo e=>k it (by simp) o e
 item:=by
  intro X hP hw hK hc i pins s σ H E I hf st hg
  subst hP hw hK
  obtain⟨xs,x,hq,hx⟩:=hg
  obtain⟨its,rv,p,hz⟩:=I.list hq
  obtain⟨u,hu,ru⟩:=rv.get hx
  obtain⟨f0,f1,f2,f3,f4,f5⟩:=hf it (by simp)
  refine mM st p.isList (x:=u) (by simpa using hu) λh' st' sb=>?_
  have I1:Inv X pins σ H { s with heap:=h' }:=I.turned (t':=s.toks) (λb o hb e=>(sb.2 b hb).trans e) f0 f1 f3 f4 f5
  obtain⟨o,e,c,d⟩:=id st'
  exact⟨u,rfl,za7 (s:={ s with heap:=h' }) e c d (by decide) ⟨x,H,I1,ru,⟨rfl,λys hy=>by rw[I.list_inj hy hq];exact hx⟩,st',λb hb=>(hf b hb).1⟩⟩
 done:=by
  intro X hP hw hK hc i pins s σ H E I hf st hg
  subst hP hw hK
  obtain⟨xs,hq,hx⟩:=hg
  obtain⟨its,rv,p,hz⟩:=I.list hq
  obtain⟨f0,f1,f2,f3,f4,f5⟩:=hf it (by simp)
  have hl:=rv.length
  exact mW (I.ok.hd hc) st p.isList (by simp;lia) λh' eb=>⟨rfl,I.turned (t':=s.toks) (λb o hb e=>eb b o hb e) f0 f1 f3 f4 f5⟩
 self:=λ_ _ _ _ _ st h=>wpAny_pyIter_listiter st h
theorem zab{P:aq}{w:au}{K:bz}{tg:ay}(a it:ag):zbX P w K tg (Itt K a) [it] it (λi h=>h.IsTupleIter it a i) where
 mem:=by simp
 obj:=λi h st b hb=>by
  have e:b=it:=by simpa using hb
  subst e
  obtain⟨o,e,c,d⟩:=st
  exact⟨o,e,λv z=>by rw[d] at z;cases z⟩
 keep:=λi h h' st k=>st.at λo e=>k it (by simp) o e
 item:=by
  intro X hP hw hK hc i pins s σ H E I hf st hg
  subst hP hw hK
  obtain⟨xs,x,hq,hx⟩:=hg
  obtain⟨its,rv,p,hz⟩:=I.tuple hq
  obtain⟨u,hu,ru⟩:=rv.get hx
  obtain⟨f0,f1,f2,f3,f4,f5⟩:=hf it (by simp)
  refine wpAny_pyNext_tuple_item st (show s.heap.IsTuple a its.toArray from p) (x:=u) (by simpa using hu) λh' st' sb=>?_
  have I1:Inv X pins σ H { s with heap:=h' }:=I.turned (t':=s.toks) (λb o hb e=>(sb.2 b hb).trans e) f0 f1 f3 f4 f5
  obtain⟨o,e,c,d⟩:=id st'
  exact⟨u,rfl,za7 (s:={ s with heap:=h' }) e c d (by decide) ⟨x,H,I1,ru,⟨rfl,λys hy=>by rw[I.tuple_inj hy hq];exact hx⟩,st',λb hb=>(hf b hb).1⟩⟩
 done:=by
  intro X hP hw hK hc i pins s σ H E I hf st hg
  subst hP hw hK
  obtain⟨xs,hq,hx⟩:=hg
  obtain⟨its,rv,p,hz⟩:=I.tuple hq
  obtain⟨f0,f1,f2,f3,f4,f5⟩:=hf it (by simp)
  have hl:=rv.length
  exact wpAny_pyNext_tuple_end (I.ok.hd hc) st (show s.heap.IsTuple a its.toArray from p) (by simp;lia) λh' eb=>⟨rfl,I.turned (t':=s.toks) (λb o hb e=>eb b o hb e) f0 f1 f3 f4 f5⟩
 self:=λ_ _ _ _ _ st h=>wpAny_pyIter_tupleiter st h
theorem zac{P:aq}{w:au}{K:bz}{tg:ay}(it:ag)(lo:Int)(n:Nat):zbX P w K tg (Itr lo n) [it] it (λi h=>IsRangeIter h it (lo + (i:Nat) * 1) ((n:Int) - (i:Nat)) 1) where
 mem:=by simp
 obj:=λi h st b hb=>by
  have e:b=it:=by simpa using hb
  subst e
  exact⟨_,st,λv z=>by
   have z':Data.fields _=Data.cell v:=z
   cases z'⟩
 keep:=λi h h' st k=>k it (by simp) _ st
 item:=by
  intro X hP hw hK hc i pins s σ H E I hf st hg
  subst hP hw hK
  obtain⟨f0,f1,f2,f3,f4,f5⟩:=hf it (by simp)
  have W:=Walks.range (prog:=X.prog) (w:=X.w) (I.ok.hd hc) it lo 1 n
  refine W.item i s _ _ hg st λv h' tk hv st' kk=>?_
  obtain⟨t,rfl⟩:=hv
  have I1:Inv X pins σ H { s with heap:=h',toks:=tk }:=I.turned (λb o hb e=>kk b o (by simpa using hb) e) f0 f1 f3 f4 f5
  refine⟨_,rfl,za7 (s:={ s with heap:=h',toks:=tk }) (n:="range_iterator") st' rfl rfl (by decide) ⟨.int (lo + i),H,I1,⟨t,?_⟩,⟨rfl,rfl⟩,st',λb hb=>(hf b hb).1⟩⟩
  rw[Int.mul_one]
 done:=by
  intro X hP hw hK hc i pins s σ H E I hf st hg
  subst hP hw hK
  obtain⟨f0,f1,f2,f3,f4,f5⟩:=hf it (by simp)
  exact mO (I.ok.hd hc) st (by have:n<=i:=hg;lia) λh' eb=>⟨rfl,I.turned (t':=s.toks) (λb o hb e=>eb b o hb e) f0 f1 f3 f4 f5⟩
 self:=λ_ _ _ _ _ st h=>mP st h
section
variable {X:Cx}{tg:ay}
def yD(K:bz)(tl:TE):TI:=λσ H R=>tl σ H λx H1=>∃a,x=.ref a/\(∃xs,SqL K H1 a xs)/\R (Itl K a) H1
def zgJ(K:bz)(tl:TE):TI:=λσ H R=>tl σ H λx H1=>∃a,x=.ref a/\(∃xs,SqT K H1 a xs)/\R (Itt K a) H1
theorem yV{tl:TE}(hl:PE X l tl):PI X tg l (yD X.K tl):=by
 intro pins s σ H R I h
 refine thn (hl pins s σ H _ I h) λv s1 ⟨x,H1,I1,r1,q1⟩=>?_
 obtain⟨a,e,⟨xs,hq⟩,q⟩:=q1
 subst e
 cases r1
 obtain⟨its,rv,p,hz⟩:=I1.list hq
 refine l0 p.isList ?_
 refine⟨s1.heap.objs.size,[s1.heap.objs.size],_,_,H1,rfl,I1.kept (t':=s1.toks) λb o e=>bo _ e,zbY a _,⟨_,bH _ rfl,rfl,rfl⟩,λb hb=>?_,q⟩
 have e:b=s1.heap.objs.size:=by simpa using hb
 subst e
 exact I1.fpOk (bq _) (I1.hok.fresh (bq _))
theorem zgK{tl:TE}(hl:PE X l tl):PI X tg l (zgJ X.K tl):=by
 intro pins s σ H R I h
 refine thn (hl pins s σ H _ I h) λv s1 ⟨x,H1,I1,r1,q1⟩=>?_
 obtain⟨a,e,⟨xs,hq⟩,q⟩:=q1
 subst e
 cases r1
 obtain⟨its,rv,p,hz⟩:=I1.tuple hq
 refine wpAny_pyIter_tuple (show s1.heap.IsTuple a its.toArray from p) ?_
 refine⟨s1.heap.objs.size,[s1.heap.objs.size],_,_,H1,rfl,I1.kept (t':=s1.toks) λb o e=>bo _ e,zab a _,⟨_,bH _ rfl,rfl,rfl⟩,λb hb=>?_,q⟩
 have e:b=s1.heap.objs.size:=by simpa using hb
 subst e
 exact I1.fpOk (bq _) (I1.hok.fresh (bq _))
theorem Kw{σ:St}{H:Hp}{s:aj}{R:It->Hp->Prop}{E:af->aj->Prop}{lo hi:Int}{t u v:Tok}{tk:Nat}(I:Inv X pins σ H s)(h1:-(2 ^ 62)<=lo)(h2:lo < 2 ^ 62)(h3:-(2 ^ 62)<=hi)(h4:hi < 2 ^ 62)
  (q:R (Itr lo (hi - lo).toNat) H):wpAny (model X.prog X.w) X.A (pyIter (.ref s.heap.objs.size)) (PIE X pins σ tg R) E { s with heap:=s.heap.push { cls:=.type "range",data:=.fields #[.int lo t,.int hi u,.int 1 v] },toks:=tk }:=by
 refine wpAny_pyIter_range (oY ..) (small_one h1 h2 h3 h4) ?_
 have I1:Inv X pins σ H { s with heap:=s.heap.push { cls:=.type "range",data:=.fields #[.int lo t,.int hi u,.int 1 v] },toks:=tk }:=I.kept λb o e=>bo _ e
 refine⟨(s.heap.push { cls:=.type "range",data:=.fields #[.int lo t,.int hi u,.int 1 v] }).objs.size,[(s.heap.push { cls:=.type "range",data:=.fields #[.int lo t,.int hi u,.int 1 v] }).objs.size],_,_,H,rfl,
  I1.kept (t':=tk) λb o e=>bo _ e,zac _ lo (hi - lo).toNat,?_,λb hb=>?_,q⟩
 ·have e1:lo + ((0:Nat):Int) * 1=lo:=by simp
  have e2:(((hi - lo).toNat:Nat):Int) - ((0:Nat):Int)=fh lo hi 1:=by rw[rangeSize_one];split <;> lia
  show IsRangeIter _ _ (lo + ((0:Nat):Int) * 1) ((((hi - lo).toNat:Nat):Int) - ((0:Nat):Int)) 1
  rw[e1,e2]
  exact bH _ rfl
 ·have e:b=(s.heap.push { cls:=.type "range",data:=.fields #[.int lo t,.int hi u,.int 1 v] }).objs.size:=by simpa using hb
  subst e
  exact I1.fpOk (bq _) (I1.hok.fresh (bq _))
def jG(ta:TA):TI:=λσ H R=>ta σ H λvs H1=>∃j:Int,vs=[.int j]/\-(2 ^ 62)<=j/\j < 2 ^ 62/\R (Itr 0 j.toNat) H1
def zgj(ta:TA):TI:=λσ H R=>ta σ H λvs H1=>∃i j:Int,vs=[.int i,.int j]/\(-(2 ^ 62)<=i/\i < 2 ^ 62/\-(2 ^ 62)<=j/\j < 2 ^ 62)/\R (Itr i (j - i).toNat) H1
theorem vL{ta:TA}(hg:Gl X "range")(hm:X.mg "range"=ai)(ha:PA X [a] ta)(hs:starEach [a] X.env=[(ao,eval a X.env)]:=by rfl):PI X tg (.Call (.Name "range" p) [a] [] pos) (jG ta):=by
 intro pins s σ H R I h
 refine Call_ (jZ I hg hm oq (cW (thn (ha pos pins s σ H _ I h) λus s1 ⟨vs,H1,I1,r1,q1⟩=>?_) hs rfl))
 obtain⟨j,e,q1,q2,q⟩:=q1
 subst e
 cases r1 with
 | cons r rr =>
  cases rr
  obtain⟨t,rfl⟩:=r
  exact call_range_1 (Kw I1 (by lia) (by lia) q1 q2 (by simpa using q))
theorem zbZ{ta:TA}{p pos:Pos}(hg:Gl X "range")(hm:X.mg "range"=ai)(ha:PA X [a,b] ta)(hs:starEach [a,b] X.env=[(ao,eval a X.env),(ao,eval b X.env)]:=by rfl)(hs2:starEach [b] X.env=[(ao,eval b X.env)]:=by rfl) :
  PI X tg (.Call (.Name "range" p) [a,b] [] pos) (zgj ta):=by
 intro pins s σ H R I h
 refine Call_ (jZ I hg hm oq (cW (thn (ha pos pins s σ H _ I h) λus s1 ⟨vs,H1,I1,r1,q1⟩=>?_) (by rw[hs,hs2]) (by rw[hs2];rfl)))
 obtain⟨i,j,e,⟨q1,q2,q3,q4⟩,q⟩:=q1
 subst e
 cases r1 with
 | cons r rr =>
  cases rr with
  | cons r' rr =>
   cases rr
   obtain⟨t,rfl⟩:=r
   obtain⟨t',rfl⟩:=r'
   exact call_range_2 (Kw I1 q1 q2 q3 q4 q)
def xF(wi:TI)(g:TG)(tb:TS):TS:=λD σ H=>wi σ H λJ H1=>∃W:Nat->Nat->St->Hp->Prop,(∃m,W 0 m σ H1)/\∀i m σ H,W i m σ H ->
 (J.stop i H/\D.nx σ H)\/(J.go i H/\∃N:St->Hp->Prop,(∀σ' H',N σ' H'->∃m',m' < m/\W (i + 1) m' σ' H')/\∀x H',J.yld i H x H'->g x σ H' λσ2 H2=>tb { D with nx:=N,ct:=N,bk:=D.nx } σ2 H2)
def Wa(fp:List ag)(h:aw):List (ag × Obj):=fp.filterMap λb=>(h.get? b).map λo=>(b,o)
theorem j4(hb:b∈fp)(e:h.get? b=aa o):(b,o)∈Wa fp h:=fN.mpr ⟨b,hb,by rw[e];rfl⟩
theorem zb0(hp:p∈Wa fp h):p.1∈fp/\h.get? p.1=aa p.2:=by
 obtain⟨b,hb,e⟩:=List.mem_filterMap.mp hp
 cases q:h.get? b with
 | none=>rw[q] at e;cases e
 | some o =>
  rw[q] at e
  have e':(b,o)=p:=ck e
  subst e'
  exact⟨hb,q⟩
theorem Inv.pinned{σ:St}{H:Hp}{s:aj}{fp:List ag}(I:Inv X pins σ H s)(hf:∀b∈fp,qe X pins H b)(ho:∀b∈fp,∃o,s.heap.get? b=aa o/\∀v,o.data≠.cell v):Inv X (pins ++ Wa fp s.heap) σ H s:=
 I.pins_of λp hp=>(bF.mp hp).elim (λz=>I.pin p (bT _ z)) λz=>by
  obtain⟨hb,e⟩:=zb0 z
  obtain⟨f0,f1,f2,_⟩:=hf p.1 hb
  obtain⟨o,e',d⟩:=ho p.1 hb
  rw[e] at e';cases e'
  exact⟨e,f0,f1,f2,d⟩
theorem Inv.unpinned{σ:St}{H:Hp}{s:aj}(I:Inv X (pins ++ pl) σ H s):Inv X pins σ H s:=I.pins_of λp hp=>I.pin p (bT _ (cE _ hp))
theorem xp{wi:TI}{g:TG}{tb:TS}(hp:PassesOwn (model X.prog X.w) X.A X.env X.xe)(hc:X.calm=ae)(hi:PI X tg iter wi)(hg:PG X tg g)(hb:PSs X body tb)
  (hs:∀x,foldedSetIterable iter X.env x=pure x:=by intro _;rfl):PS X (.For tg iter body [] pos) (xF wi g tb):=by
 intro pins s σ H D I h
 refine wpAny_For (thn (hi pins s σ H _ I h) λv s1 h1=>thn h1 λitv s2 h2=>?_) hs
 obtain⟨it,fp,tn,J,H2,e,I2,T,st2,f2,W,⟨m0,w0⟩,turn⟩:=h2
 subst e
 -- what stays ae of the iterator's objects through the loop
 have stat:∀ {H':Hp},(∀b∈fp,H' b=ai)->∀b∈fp,qe X pins H' b:=λhn b hb=>⟨hn b hb,(f2 b hb).2⟩
 refine codeAny_forLoop_any (λn s'=>∃i σ' H',Inv X pins σ' H' s'/\tn i s'.heap/\(∀b∈fp,H' b=ai)/\W i n σ' H') ?_ m0 ⟨0,σ,H2,I2,st2,λb hb=>(f2 b hb).1,w0⟩
 rintro n s3 ⟨i,σ3,H3,I3,st3,fr3,w3⟩
 rcases turn i n σ3 H3 w3 with ⟨stop,qn⟩ | ⟨go,N,hN,step⟩
 ·refine eV hp (thn (T.done X rfl rfl rfl hc i pins s3 σ3 H3 X.xe I3 (stat fr3) st3 stop) λr s4 ⟨hr,I4⟩=>?_)
  subst hr
  exact eD ⟨σ3,H3,I4,qn⟩
 ·refine eV hp (thn (T.item X rfl rfl rfl hc i pins s3 σ3 H3 X.xe I3 (stat fr3) st3 go) λr s4 ⟨u,hr,h4⟩=>?_)
  subst hr
  refine eV hp (thn h4 λ_ s5 ⟨x,H5,I5,r5,y5,st5,fr5⟩=>?_)
  have I5':=I5.pinned (stat fr5) (T.obj _ _ st5)
  refine eV hp (thn (hg _ s5 σ3 H5 x u _ I5' r5 (step x H5 y5)) λ_ s6 ⟨σ6,H6,I6,q6⟩=>?_)
  refine eV hp (thn (hb _ s6 σ6 H6 _ I6 q6) λf s7 q7=>?_)
  have again:∀ {σ7:St} {H7:Hp},Inv X (pins ++ Wa fp s5.heap) σ7 H7 s7->N σ7 H7->∃m,m < n/\∃i σ' H',Inv X pins σ' H' s7/\tn i s7.heap/\(∀b∈fp,H' b=ai)/\W i m σ' H':=λ{σ7 H7} I7 n7=>by
   obtain⟨m',hm,w7⟩:=hN σ7 H7 n7
   refine⟨m',hm,i + 1,σ7,H7,I7.unpinned,T.keep _ _ _ st5 λb hb o e=>(I7.pin (b,o) (bT _ (bT _ (j4 hb e)))).1,λb hb=>?_,w7⟩
   obtain⟨o,e,d⟩:=T.obj _ _ st5 b hb
   exact(I7.pin (b,o) (bT _ (bT _ (j4 hb e)))).2.1
  cases f with
  | next=>obtain⟨σ7,H7,I7,n7⟩:=q7;exact again I7 n7
  | cont=>obtain⟨σ7,H7,I7,n7⟩:=q7;exact again I7 n7
  | brk=>obtain⟨σ7,H7,I7,q7⟩:=q7;exact⟨σ7,H7,I7.unpinned,q7⟩
  | ret v=>obtain⟨x7,σ7,H7,I7,r7,q7⟩:=q7;exact⟨x7,σ7,H7,I7.unpinned,r7,q7⟩
end
abbrev R2:=V->V->Hp->VK->Prop
def OpR(X:Cx)(f:af->af->Sem af)(r:R2):Prop :=
 ∀(pins:List (ag × Obj)) (s:aj) (σ:St) (H:Hp) (x y:V) (v u:af) (Q:VK),Inv X pins σ H s->RelV x v->RelV y u->r x y H Q ->
  wpAny (model X.prog X.w) X.A (f v u) (EP X pins σ Q) X.xe s
def UnR(X:Cx)(f:af->Sem af)(r:V->Hp->VK->Prop):Prop :=
 ∀(pins:List (ag × Obj)) (s:aj) (σ:St) (H:Hp) (x:V) (v:af) (Q:VK),Inv X pins σ H s->RelV x v->r x H Q ->
  wpAny (model X.prog X.w) X.A (f v) (EP X pins σ Q) X.xe s
def kQ(X:Cx)(f:af)(r:List V->Hp->VK->Prop):Prop :=
 ∀(pins:List (ag × Obj)) (s:aj) (σ:St) (H:Hp) (xs:List V) (us:List af) (Q:VK),Inv X pins σ H s->Vals xs us->r xs H Q ->
  wpAny (model X.prog X.w) X.A (call f us) (EP X pins σ Q) X.xe s
def tOp(r:R2)(ta tb:TE):TE:=λσ H Q=>ta σ H λx H1=>tb σ H1 λy H2=>r x y H2 Q
def tUn(r:V->Hp->VK->Prop)(ta:TE):TE:=λσ H Q=>ta σ H λx H1=>r x H1 Q
def rI(C:Int->Int->Prop)(g:Int->Int->V):R2:=λx y H Q=>∃i j,x=.int i/\y=.int j/\C i j/\Q (g i j) H
def rI0(g:Int->Int->V):R2:=λx y H Q=>∃i j,x=.int i/\y=.int j/\Q (g i j) H
def rU(g:Int->V):V->Hp->VK->Prop:=λx H Q=>∃i,x=.int i/\Q (g i) H
section
variable {X:Cx}{a b c:ay}{ta tb tc:TE}{pos:Pos}
theorem zgL(ha:PE X a ta)(hb:PE X b tb){s:aj}{σ:St}{H:Hp}{R:V->V->Hp->Prop}(I:Inv X pins σ H s)
  (h:ta σ H λx H1=>tb σ H1 λy H2=>R x y H2) {Q:af->aj->Prop} {f:af->af->Sem af}
  (hf:∀v u s2 x y H2,Inv X pins σ H2 s2->RelV x v->RelV y u->R x y H2->wpAny (model X.prog X.w) X.A (f v u) Q X.xe s2) :
  wpAny (model X.prog X.w) X.A (eval a X.env) (λv s₁=>wpAny (model X.prog X.w) X.A (eval b X.env) (λu s₂=>wpAny (model X.prog X.w) X.A (f v u) Q X.xe s₂) X.xe s₁) X.xe s:=by
 refine thn (ha pins s σ H _ I h) λv s1 ⟨x,H1,I1,r1,q1⟩=>?_
 refine thn (hb pins s1 σ H1 _ I1 q1) λu s2 ⟨y,H2,I2,r2,q2⟩=>?_
 exact hf v u s2 x y H2 I2 r1 r2 q2
theorem zp{r:R2}(ho:OpR X (binaryOp op) r)(ha:PE X a ta)(hb:PE X b tb):PE X (.BinOp a op b pos) (tOp r ta tb):=by
 intro pins s σ H Q I h
 exact wpAny_BinOp (zgL ha hb I h λv u s2 x y H2 I2 rx ry q=>ho pins s2 σ H2 x y v u Q I2 rx ry q)
theorem zgk{r:V->Hp->VK->Prop}(ho:UnR X (unaryOp op) r)(ha:PE X a ta):PE X (.UnaryOp op a pos) (tUn r ta):=by
 intro pins s σ H Q I h
 exact UnaryOp_ (thn (ha pins s σ H _ I h) λv s1 ⟨x,H1,I1,r1,q1⟩=>ho pins s1 σ H1 x v Q I1 r1 q1)
theorem opI{f:af->af->Sem af}{C:Int->Int->Prop}{g:Int->Int->Int}
  (rule:∀(i j:Int) (t u:Tok) (s:aj) (Q:af->aj->Prop) (E:af->aj->Prop),C i j->Q (.int (g i j) s.toks) { s with toks:=s.toks + 1 }->wpAny (model X.prog X.w) X.A (f (.int i t) (.int j u)) Q E s) :
  OpR X f (rI C λi j=>.int (g i j)):=by
 intro pins s σ H x y v u Q I rx ry h
 obtain⟨i,j,rfl,rfl,hc,q⟩:=h
 obtain⟨t,rfl⟩:=rx
 obtain⟨t',rfl⟩:=ry
 exact rule i j t t' s _ _ hc ⟨.int (g i j),H,I.tok _,⟨_,rfl⟩,q⟩
theorem zhD{f:af->af->Sem af}{g:Int->Int->Int}
  (rule:∀(i j:Int) (t u:Tok) (s:aj) (Q:af->aj->Prop) (E:af->aj->Prop),Q (.int (g i j) s.toks) { s with toks:=s.toks + 1 }->wpAny (model X.prog X.w) X.A (f (.int i t) (.int j u)) Q E s) :
  OpR X f (rI0 λi j=>.int (g i j)):=by
 intro pins s σ H x y v u Q I rx ry h
 obtain⟨i,j,rfl,rfl,q⟩:=h
 obtain⟨t,rfl⟩:=rx
 obtain⟨t',rfl⟩:=ry
 exact rule i j t t' s _ _ ⟨.int (g i j),H,I.tok _,⟨_,rfl⟩,q⟩
theorem ze0{f:af->af->Sem af}{g:Int->Int->Bool}
  (rule:∀(i j:Int) (t u:Tok) (s:aj) (Q:af->aj->Prop) (E:af->aj->Prop),Q (.bool (g i j)) s->wpAny (model X.prog X.w) X.A (f (.int i t) (.int j u)) Q E s) :
  OpR X f (rI0 λi j=>.bl (g i j)):=by
 intro pins s σ H x y v u Q I rx ry h
 obtain⟨i,j,rfl,rfl,q⟩:=h
 obtain⟨t,rfl⟩:=rx
 obtain⟨t',rfl⟩:=ry
 exact rule i j t t' s _ _ ⟨.bl (g i j),H,I,rfl,q⟩
def zad(i j:Int):Prop:=0<=j/\j<=1000000/\i.natAbs < 2 ^ 64
theorem zQ:OpR X (binaryOp .Add) (rI0 λi j=>.int (i + j)):=zhD λ_ _ _ _ _ _ _ q=>add_int q
theorem j5:OpR X (binaryOp .Sub) (rI0 λi j=>.int (i - j)):=zhD λ_ _ _ _ _ _ _ q=>sub_int q
theorem zX:OpR X (binaryOp .Mod) (rI (λ_ j=>0 < j) λi j=>.int (i % j)):=opI λi j _ _ _ _ _ hc q=>by
 have h1:(0:Int) < j:=hc
 exact mod_int' (by lia) (by rw[Int.fmod_eq_emod_of_nonneg i (by lia)];exact q)
theorem ze1:OpR X (binaryOp .Mod) (rI (λ_ j=>j≠0) λi j=>.int (i.fmod j)):=opI λ_ _ _ _ _ _ _ hc q=>mod_int' hc q
theorem Wb:OpR X (binaryOp .Pow) (rI zad λi j=>.int (i ^ j.toNat)):=opI λ_ _ _ _ _ _ _ hc q=>pow_int_small hc.1 hc.2.1 hc.2.2 q
theorem unI{f:af->Sem af}{g:Int->Int}
  (rule:∀(i:Int) (t:Tok) (s:aj) (Q:af->aj->Prop) (E:af->aj->Prop),Q (.int (g i) s.toks) { s with toks:=s.toks + 1 }->wpAny (model X.prog X.w) X.A (f (.int i t)) Q E s) :
  UnR X f (rU λi=>.int (g i)):=by
 intro pins s σ H x v Q I rx h
 obtain⟨i,rfl,q⟩:=h
 obtain⟨t,rfl⟩:=rx
 exact rule i t s _ _ ⟨.int (g i),H,I.tok _,⟨_,rfl⟩,q⟩
theorem zcQ:UnR X (unaryOp .USub) (rU λi=>.int (-i)):=unI λ_ _ _ _ _ q=>neg_int q
end
def Ye:V->V->Bool
 | .non,.non=>ae | .non,.int _=>ae | .int _,.non=>ae | .non,.bl _=>ae | .bl _,.non=>ae | .non,.str _=>ae | .str _,.non=>ae
 | .int _,.int _=>ae | .bl _,.bl _=>ae | .str _,.str _=>ae | .byt _,.byt _=>ae
 | .int _,.str _=>ae | .str _,.int _=>ae | .bl _,.str _=>ae | .str _,.bl _=>ae
 | _,_=>ao
def rEq:R2:=λx y H Q=>Ye x y=ae/\Q (.bl (decide (x=y))) H
def rNe:R2:=λx y H Q=>Ye x y=ae/\Q (.bl (!decide (x=y))) H
theorem za8{i j:Int}:decide (V.int i=V.int j)=(i == j):=by
 rw[iZ]
 simp
theorem zcR :decide (V.bl i=V.bl j)=(i == j):=by
 rw[iZ]
 simp
theorem za9 :decide (V.str i=V.str j)=(i == j):=by
 rw[iZ]
 simp
theorem zba :decide (V.byt i=V.byt j)=(i.toList == j.toList):=by
 rw[iZ]
 cases i
 cases j
 simp
section
variable {X:Cx}{a b c:ay}{ta tb tc:TE}{pos:Pos}
theorem ya{σ:St}{H:Hp}{s:aj}{Q:VK}{k k':Bool}(I:Inv X pins σ H s)(q:Q (.bl k) H)(e:k=k'):EP X pins σ Q (.bool k') s:=by
 subst e
 exact⟨.bl k,H,I,rfl,q⟩
theorem yE:OpR X (compareOp .Eq) rEq:=by
 intro pins s σ H x y v u Q I rx ry h
 obtain⟨hs,q⟩:=h
 cases x with
 | non =>
  cases rx
  cases y with
  | non=>cases ry;exact PySem.EqNone.eq_none_none (ya I q (by simp))
  | bl j=>cases ry;exact PySem.EqNone.eq_none_bool (ya I q (by simp))
  | int j=>obtain⟨t',rfl⟩:=ry;exact PySem.EqNone.eq_none_int (ya I q (by simp))
  | str j=>obtain⟨t',rfl⟩:=ry;exact PySem.EqNone.eq_none_str (ya I q (by simp))
  | _=>exact absurd (show ao=ae from hs) bO
 | bl i =>
  cases rx
  cases y with
  | non=>cases ry;exact PySem.EqNone.eq_bool_none (ya I q (by simp))
  | bl j=>cases ry;exact eq_bool (ya I q zcR)
  | str j=>obtain⟨t',rfl⟩:=ry;exact PySem.EqMixed.eq_bool_str (ya I q (by simp))
  | _=>exact absurd (show ao=ae from hs) bO
 | int i =>
  obtain⟨t,rfl⟩:=rx
  cases y with
  | non=>cases ry;exact PySem.EqNone.eq_int_none (ya I q (by simp))
  | int j=>obtain⟨t',rfl⟩:=ry;exact eq_int (ya I q za8)
  | str j=>obtain⟨t',rfl⟩:=ry;exact PySem.EqMixed.eq_int_str (ya I q (by simp))
  | _=>exact absurd (show ao=ae from hs) bO
 | str i =>
  obtain⟨t,rfl⟩:=rx
  cases y with
  | non=>cases ry;exact PySem.EqNone.eq_str_none (ya I q (by simp))
  | bl j=>cases ry;exact PySem.EqMixed.eq_str_bool (ya I q (by simp))
  | int j=>obtain⟨t',rfl⟩:=ry;exact PySem.EqMixed.eq_str_int (ya I q (by simp))
  | str j=>obtain⟨t',rfl⟩:=ry;exact eq_str (ya I q za9)
  | _=>exact absurd (show ao=ae from hs) bO
 | byt i =>
  obtain⟨t,rfl⟩:=rx
  cases y with
  | byt j=>obtain⟨t',rfl⟩:=ry;exact W.eq_bytes (ya I q zba)
  | _=>exact absurd (show ao=ae from hs) bO
 | _=>cases y <;> exact absurd (show ao=ae from hs) bO
theorem Xe:OpR X (compareOp .NotEq) rNe:=by
 intro pins s σ H x y v u Q I rx ry h
 obtain⟨hs,q⟩:=h
 cases x with
 | non =>
  cases rx
  cases y with
  | non=>cases ry;exact PySem.EqNone.ne_none_none (ya I q (by simp))
  | bl j=>cases ry;exact PySem.EqNone.ne_none_bool (ya I q (by simp))
  | int j=>obtain⟨t',rfl⟩:=ry;exact PySem.EqNone.ne_none_int (ya I q (by simp))
  | str j=>obtain⟨t',rfl⟩:=ry;exact PySem.EqNone.ne_none_str (ya I q (by simp))
  | _=>exact absurd (show ao=ae from hs) bO
 | bl i =>
  cases rx
  cases y with
  | non=>cases ry;exact PySem.EqNone.ne_bool_none (ya I q (by simp))
  | bl j=>cases ry;exact ne_bool (ya I q (congrArg not zcR))
  | str j=>obtain⟨t',rfl⟩:=ry;exact PySem.EqMixed.ne_bool_str (ya I q (by simp))
  | _=>exact absurd (show ao=ae from hs) bO
 | int i =>
  obtain⟨t,rfl⟩:=rx
  cases y with
  | non=>cases ry;exact PySem.EqNone.ne_int_none (ya I q (by simp))
  | int j=>obtain⟨t',rfl⟩:=ry;exact ne_int (ya I q (congrArg not za8))
  | str j=>obtain⟨t',rfl⟩:=ry;exact PySem.EqMixed.ne_int_str (ya I q (by simp))
  | _=>exact absurd (show ao=ae from hs) bO
 | str i =>
  obtain⟨t,rfl⟩:=rx
  cases y with
  | non=>cases ry;exact PySem.EqNone.ne_str_none (ya I q (by simp))
  | bl j=>cases ry;exact PySem.EqMixed.ne_str_bool (ya I q (by simp))
  | int j=>obtain⟨t',rfl⟩:=ry;exact PySem.EqMixed.ne_str_int (ya I q (by simp))
  | str j=>obtain⟨t',rfl⟩:=ry;exact ne_str (ya I q (congrArg not za9))
  | _=>exact absurd (show ao=ae from hs) bO
 | byt i =>
  obtain⟨t,rfl⟩:=rx
  cases y with
  | byt j=>obtain⟨t',rfl⟩:=ry;exact W.ne_bytes (ya I q (congrArg not zba))
  | _=>exact absurd (show ao=ae from hs) bO
 | _=>cases y <;> exact absurd (show ao=ae from hs) bO
theorem Kx:OpR X (compareOp .Lt) (rI0 λi j=>.bl (decide (i < j))):=ze0 λ_ _ _ _ _ _ _ q=>lt_int q
theorem zgl:OpR X (compareOp .LtE) (rI0 λi j=>.bl (decide (i<=j))):=ze0 λ_ _ _ _ _ _ _ q=>le_int q
theorem zcS:OpR X (compareOp .Gt) (rI0 λi j=>.bl (decide (j < i))):=ze0 λ_ _ _ _ _ _ _ q=>gt_int q
theorem zhE:OpR X (compareOp .GtE) (rI0 λi j=>.bl (decide (j<=i))):=ze0 λ_ _ _ _ _ _ _ q=>ge_int q
theorem zae:OpR X (compareOp .Is) (λx y H Q=>y=.non/\Q (.bl (decide (x=.non))) H):=by
 intro pins s σ H x y v u Q I rx ry h
 obtain⟨rfl,q⟩:=h
 cases ry
 refine is_none_gen (ya I q ?_)
 cases x <;> first
  | (cases rx;rfl)
  | (obtain⟨t,rfl⟩:=rx;rfl)
theorem zbb:OpR X (compareOp .IsNot) (λx y H Q=>y=.non/\Q (.bl (!decide (x=.non))) H):=by
 intro pins s σ H x y v u Q I rx ry h
 obtain⟨rfl,q⟩:=h
 cases ry
 refine isnot_none_gen (ya I q ?_)
 cases x <;> first
  | (cases rx;rfl)
  | (obtain⟨t,rfl⟩:=rx;rfl)
theorem zE(b:ay)(h:op≠.In:=by decide)(h2:op≠.NotIn:=by decide):behindInMarks op b=ao:=by
 have e1:(op == CmpOp.In)=ao:=by cases op <;> first | rfl | exact absurd rfl h
 have e2:(op == CmpOp.NotIn)=ao:=by cases op <;> first | rfl | exact absurd rfl h2
 cases b <;> simp[behindInMarks,e1,e2]
theorem qZ{r:R2}(ho:OpR X (compareOp op) r)(ha:PE X a ta)(hb:PE X b tb)(hm:behindInMarks op b=ao):PE X (.Compare a [op] [b] pos) (tOp r ta tb):=by
 intro pins s σ H Q I h
 exact wpAny_Compare1 (zgL ha hb I h λv u s2 x y H2 I2 rx ry q=>ho pins s2 σ H2 x y v u Q I2 rx ry q) hm
def zA(t:TE):TT:=λσ H Q=>t σ H λx H'=>∃k,x=.bl k/\Q k H'
theorem zv{r:R2}(ho:OpR X (compareOp op) r)(ha:PE X a ta)(hb:PE X b tb)(hm:behindInMarks op b=ao):PT X (.Compare a [op] [b] pos) (zA (tOp r ta tb)):=by
 intro pins s σ H Q I h
 refine wpAny_isTrue_Compare1 (thn (ha pins s σ H _ I h) λv s1 ⟨x,H1,I1,r1,q1⟩=>thn (hb pins s1 σ H1 _ I1 q1) λu s2 ⟨y,H2,I2,r2,q2⟩ =>
  thn (ho pins s2 σ H2 x y v u _ I2 r1 r2 q2) λc s3 ⟨z,H3,I3,r3,k,e,q3⟩=>?_) hm
 subst e
 cases r3
 exact eU ⟨H3,I3,q3⟩
def zaf(r r':R2)(ta tb tc:TE):TE:=λσ H Q=>ta σ H λx H1=>tb σ H1 λy H2=>r x y H2 λz H3=>∃k,z=.bl k /\
 (if k=ae then tc σ H3 λw' H4=>r' y w' H4 Q else Q (.bl ao) H3)
theorem zcT{r r':R2}(ho:OpR X (compareOp op) r)(ho':OpR X (compareOp op') r')(ha:PE X a ta)(hb:PE X b tb)(hc:PE X c tc)
  (hm:lastMarks [op,op'] [b,c]=ao:=by with_unfolding_all rfl):PE X (.Compare a [op,op'] [b,c] pos) (zaf r r' ta tb tc):=by
 intro pins s σ H Q I h
 refine Compare_chain (thn (ha pins s σ H _ I h) λv s1 ⟨x,H1,I1,r1,q1⟩=>chain_link (thn (hb pins s1 σ H1 _ I1 q1) λu s2 ⟨y,H2,I2,r2,q2⟩ =>
  thn (ho pins s2 σ H2 x y v u _ I2 r1 r2 q2) λd s3 ⟨z,H3,I3,r3,k,e,q3⟩=>?_)) hm
 subst e
 cases r3
 refine eU ?_
 cases k with
 | false=>exact ite_ff ⟨.bl ao,H3,I3,rfl,q3⟩
 | true=>exact ite_tt (chain_last (thn (hc pins s3 σ H3 _ I3 q3) λw' s4 ⟨z',H4,I4,r4,q4⟩=>ho' pins s4 σ H4 y z' u w' Q I4 r2 r4 q4))
theorem Js:(sizeLine:Nat) < 2 ^ 63:=by rw[dX];decide
theorem xR:OpR X (binaryOp .Add) (λx y H Q=>∃i j,x=.str i/\y=.str j/\i.length + j.length<=sizeLine/\Q (.str (i ++ j)) H):=by
 intro pins s σ H x y v u Q I rx ry h
 obtain⟨i,j,rfl,rfl,hz,q⟩:=h
 obtain⟨t,rfl⟩:=rx
 obtain⟨t',rfl⟩:=ry
 exact add_str (λt' tk=>⟨.str (i ++ j),H,I.tok _,⟨_,rfl⟩,q⟩) hz
theorem Zr(r:Vals [x] us):∃u,us=[u]/\RelV x u:=by
 cases r with
 | cons r1 r2=>cases r2;exact⟨_,rfl,r1⟩
theorem zhF(r:Vals [x,y] us):∃u w',us=[u,w']/\RelV x u/\RelV y w':=by
 cases r with
 | cons r1 r2 =>
  cases r2 with
  | cons r3 r4=>cases r4;exact⟨_,_,rfl,r1,r3⟩
def Zn(K:bz)(x:V)(H:Hp)(n:Nat):Prop :=
 match x with
 | .str y=>y.length<=sizeLine/\n=y.length
 | .byt y=>y.size<=sizeLine/\n=y.size
 | .ref p=>(∃xs,SqL K H p xs/\n=xs.length)\/∃xs,SqT K H p xs/\n=xs.length
 | _=>False
theorem ye:kQ X (.builtin "len") (λxs H Q=>∃x n,xs=[x]/\Zn X.K x H n/\Q (.int n) H):=by
 intro pins s σ H xs us Q I r h
 obtain⟨x,n,rfl,e,q⟩:=h
 obtain⟨u,rfl,rx⟩:=Zr r
 have hl:=Js
 have hs:sizeLine=16777216:=dX
 cases x with
 | str y =>
  obtain⟨t,rfl⟩:=rx
  obtain⟨hy,e'⟩:y.length<=sizeLine/\n=y.length:=e
  subst e'
  exact len_str (by lia) ⟨.int _,H,I.tok _,⟨_,rfl⟩,q⟩
 | byt y =>
  obtain⟨t,rfl⟩:=rx
  obtain⟨hy,e'⟩:y.size<=sizeLine/\n=y.size:=e
  subst e'
  exact W.len_bytes (by lia) ⟨.int _,H,I.tok _,⟨_,rfl⟩,q⟩
 | ref p =>
  cases rx
  have e':(∃xs,SqL X.K H p xs/\n=xs.length)\/∃xs,SqT X.K H p xs/\n=xs.length:=e
  rcases e' with ⟨xs,hx,e'⟩ | ⟨xs,hx,e'⟩
  ·subst e'
   obtain⟨its,r',pl,hz⟩:=I.list hx
   have hlen:=r'.length
   exact Calls.call_len_list pl.isList (by simp only[bN];lia) ⟨.int xs.length,H,I.tok _,⟨_,by simp only[bN];rw[hlen]⟩,q⟩
  ·subst e'
   obtain⟨its,r',pl,hz⟩:=I.tuple hx
   have hlen:=r'.length
   exact len_tuple pl (by simp only[bN];lia) ⟨.int xs.length,H,I.tok _,⟨_,by simp only[bN];rw[hlen]⟩,q⟩
 | _=>exact(show False from e).elim
end
structure ObjM(h:aw)(x dx C:ag)(mA:Str->Option af):Prop where
 obj:h.get? x=aa (iX C dx)
 ns:h.Ns1 dx mA
 ne:dx≠x
theorem zb1{h:aw}{mA:Str->Option af}(n:h.Ns1 dx mA):∃od,h.get? dx=aa od/\∀name,pC name od=aa (mA name):=by
 obtain⟨o,es,ep,ho,hd,hk,_,hm⟩:=n
 refine⟨o,ho,λname=>?_⟩
 have e:=hm name
 unfold nsFind findBy at e
 rw[<-Array.find?_toList] at e
 unfold pC
 rw[hd]
 dsimp only
 split
 ·rename_i y q
  rw[q] at e
  exact congrArg aa e
 ·rename_i q
  rw[q] at e
  have a:es.toList.any (·.refKey)=ao:=by
   rw[gg]
   intro y hy
   obtain⟨z,t,hkey⟩:=hk y (Array.mem_toList_iff.mp hy)
   simp[DictEntry.refKey,hkey]
  have a':¬ es.toList.any (·.refKey)=ae:=by rw[a];exact bO
  rw[ak a']
  exact congrArg aa e
theorem ObjM.look{mA:Str->Option af}(I:ObjM h x dx C mA):∃od,W.InstAt h x (iX C dx) C (aa od)/\∀name,pC name od=aa (mA name):=
 let ⟨od,ho,hl⟩:=zb1 I.ns
 ⟨od,⟨I.obj,rfl,rfl,ho⟩,hl⟩
section
variable {prog:aq}{w:au}{A:av}{E:af->aj->Prop}{s:aj}{K:bz}{x dx C f:ag}{mA:Str->Option af}{name:Str}{v:af}
theorem ze2{Q:af->aj->Prop}(X:K.In s.heap)(I:ObjM s.heap x dx C mA)(hg:l5 K C name=ae)(hh:mv K C=ae)
  (ha:cY K (.ref C) name=aa ai) (hv:mA name=aa v) (hv':W.handedIn v=ae) (h:Q v { s with toks:=s.toks + 1 }) :
  wpAny (model prog w) A (getAttr (.ref x) name expr) Q E s:=by
 obtain⟨od,J,hl⟩:=I.look
 exact W.get_value X J (nS hg).1 (W.findObj_own hh ha rfl (by rw[hl,hv])) hv' h
theorem zcU{pl:Sem Bool}{Q:af × List af->aj->Prop}(X:K.In s.heap)(I:ObjM s.heap x dx C mA)(hg:l5 K C name=ae)
  (hf:cY K (.ref C) name=aa (aa (.ref f))) (ht:pA K (.ref f)=ae) (hv:mA name=ai) (h:Q (.ref f,[.ref x]) s) :
  wpAny (model prog w) A (getMethod (.ref x) name pl) Q E s:=by
 obtain⟨od,J,hl⟩:=I.look
 exact W.method_fn X J (nS hg).1 (nS hg).2 hf (beq_iff_eq.mp ht) (by show (pC name od).map (·.isSome)=aa ao;rw[hl,hv];rfl) h
theorem ze3{Q:Unit->aj->Prop}(X:K.In s.heap)(I:ObjM s.heap x dx C mA)
  (hs:cY K (.ref C) "__setattr__"=aa (aa (.builtin "object.__setattr__"))) (hp:nH K C=ae) (ht:W.takerIn K C name=aa ai) (hh:mv K C=ae)
  (hw:oH mA ns) (hsz:ns.length<=sizeLine)
  (h:∀h',ObjM h' x dx C (λy=>if y=name then aa v else mA y)->dA dx s.heap h'->Q () { s with heap:=h',toks:=s.toks + 2 }) :
  wpAny (model prog w) A (setAttr (.ref x) name v) Q E s:=by
 obtain⟨od,J,hl⟩:=I.look
 refine W.set_plain X J hs (W.osa_open (s:={ s with toks:=s.toks + 1 }) (r:=ai) X J hp ht λb=>?_)
 obtain⟨cd,hc,hd'⟩:=W.any_some hh
 have hx:s.heap.get? x=aa ⟨.ref C,aa dx,.plain,#[]⟩:=I.obj
 refine bi (bw (bi (bi (wpAny_loadPart hx (bi (W.Looks.here (s:={ s with toks:=s.toks + 1 }) (W.looks_clsIn X hc) ?_))))))
 rw[hd']
 refine bw (a:=aa dx) (bi (bw (bi ?_)))
 refine wpAny_nsSet1 (s:={ s with toks:=s.toks + 1 }) I.ns λh' hn2 hs2=>?_
 obtain⟨oD,esD,epD,hoD,hdD,hcD⟩:=hn2.count (PySem.Within.cons name v hw)
 refine bi (wpAny_lookBehind hoD (by rw[hdD];exact pastItsLine_dict (bR hcD (by rw[cA];lia))) ?_)
 exact bw (h _ ⟨(hs2.2 _ (cH I.ne)).trans I.obj,hn2,I.ne⟩ hs2)
theorem zcV{R:aA->aj->Prop}(X:K.In s.heap)(hm:oZ K C=ae)
  (hi:cY K (.ref C) "__init__"=aa (aa (.ref f))) (hf:W.typeIn K (.ref f)=aa (.type "function"))
  (h:codeAny (model prog w) (A.under (.builtin "type.__call__" ⟨.ref C :: vs,kw⟩)) (.call (.ref f) ⟨.ref (s.heap.objs.size + 1) :: vs,kw⟩) (W.InitBack (s.heap.objs.size + 1) R)
   { s with heap:=(s.heap.push fR).push (iX C s.heap.objs.size) }) :
  codeAny (model prog w) A (.call (.ref C) ⟨vs,kw⟩) R s:=by
 obtain⟨hh,g,d,t,os⟩:=s
 exact W.make_core (W.makes_of X hm) (W.looks_findIn X hi) (λself=>W.bind_fn X self hf) (.inl rfl) h
end
def z4(f:Str)(v:V):List (Str × V)->List (Str × V)
 | []=>[(f,v)]
 | (g,x) :: r=>if g=f then (g,v) :: r else (g,x) :: z4 f v r
theorem Xf(f g:Str)(v:V):∀fs:List (Str × V),(z4 f v fs).lookup g=if g=f then aa v else fs.lookup g
 | []=>by
  show gY g [(f,v)]=_
  by_cases h:g=f
  ·have hb:(g == f)=ae:=beq_iff_eq.mpr h
   simp only[gY,hb,ap h]
  ·have hb:(g == f)=ao:=beq_eq_false_iff_ne.mpr h
   simp only[gY,hb,ak h]
 | (k,x) :: r=>by
  have ih:=Xf f g v r
  rw[show z4 f v ((k,x) :: r)=(if k=f then (k,v) :: r else (k,x) :: z4 f v r) from rfl]
  by_cases hk:k=f
  ·rw[ap hk]
   by_cases h:g=k
   ·have hb:(g == k)=ae:=beq_iff_eq.mpr h
    simp only[gY,hb,ap (h.trans hk)]
   ·have hb:(g == k)=ao:=beq_eq_false_iff_ne.mpr h
    simp only[gY,hb,ak (λe:g=f=>h (e.trans hk.symm))]
  ·rw[ak hk]
   by_cases h:g=k
   ·have hb:(g == k)=ae:=beq_iff_eq.mpr h
    simp only[gY,hb,ak (λe:g=f=>hk (h.symm.trans e))]
   ·have hb:(g == k)=ao:=beq_eq_false_iff_ne.mpr h
    simp only[gY,hb]
    exact ih
theorem YI(f:Str)(v:V):∀fs:List (Str × V),f∈(z4 f v fs).map (·.1)/\∀g,g∈fs.map (·.1)->g∈(z4 f v fs).map (·.1)
 | []=>⟨by simp[z4],λg h=>by simp at h⟩
 | (k,x) :: r=>by
  obtain⟨i1,i2⟩:=YI f v r
  rw[show z4 f v ((k,x) :: r)=(if k=f then (k,v) :: r else (k,x) :: z4 f v r) from rfl]
  by_cases hk:k=f
  ·rw[ap hk]
   subst hk
   exact⟨by simp,λg h=>by simpa using h⟩
  ·rw[ak hk]
   refine⟨?_,λg h=>?_⟩
   ·rw[b7]
    exact bE _ i1
   ·rw[b7] at h ⊢
    rcases bS.mp h with e | e
    ·exact bS.mpr (.inl e)
    ·exact bE _ (i2 g e)
theorem Xg(f:Str)(v:V):∀fs:List (Str × V),(z4 f v fs).length<=fs.length + 1
 | []=>by simp[z4]
 | (k,x) :: r=>by
  have ih:=Xg f v r
  rw[show z4 f v ((k,x) :: r)=(if k=f then (k,v) :: r else (k,x) :: z4 f v r) from rfl]
  by_cases hk:k=f
  ·rw[ap hk,cA,cA];lia
  ·rw[ak hk,cA,cA];lia
theorem RelO.some_of(r:RelO (aa v) o):∃u,o=aa u/\RelV v u:=by
 cases o with
 | none=>exact(show False from r).elim
 | some u=>exact⟨u,rfl,r⟩
theorem RelO.none_of(r:RelO ai o):o=ai:=by
 cases o with
 | none=>rfl
 | some u=>exact(show False from r).elim
theorem zb2(r:RelV v u):W.handedIn u=ae:=by
 cases v with
 | non=>cases (show u=cM from r);rfl
 | bl b=>cases (show u=gX b from r);rfl
 | int i=>obtain⟨t,e⟩:=(show ∃t,u=iy i t from r);cases e;rfl
 | str x=>obtain⟨t,e⟩:=(show ∃t,u=iW x t from r);cases e;rfl
 | byt b=>obtain⟨t,e⟩:=(show ∃t,u=Value.bytes b t from r);cases e;rfl
 | flt b=>obtain⟨t,e⟩:=(show ∃t,u=oW b t from r);cases e;rfl
 | ref a=>cases (show u=bV a from r);rfl
 | ty n=>cases (show u=lZ n from r);rfl
section
variable {P:aq}{w:au}{H H':Hp}{h h':aw}{a C dx:ag}{fs fs':List (Str × V)}
theorem XY(hok:HOk P w H h)(e:H a=aa (.ins C dx fs)):∃mA,ObjM h a dx C mA/\(∀f,RelO (fs.lookup f) (mA f))/\oH mA (fs.map (·.1))/\fs.length<=1000/\H dx=aa (.own a):=by
 obtain⟨d,z,ne,ob,mA,n,r,q⟩:=(show ObjOk P w H h a (.ins C dx fs) from hok a _ e)
 exact⟨mA,⟨ob,n,ne⟩,r,q,z,d⟩
end
structure Cls(K:bz)(C:ag):Prop where
 pg:l5 K C gE=ae
 hd:mv K C=ae
 po:nH K C=ae
 sa:cY K (.ref C) "__setattr__"=aa (aa (.builtin "object.__setattr__"))
theorem Cls.get{K:bz}(c:Cls K C)(f:Str):l5 K C f=ae:=c.pg
def NoAttr(K:bz)(C:ag)(f:Str):Prop:=cY K (.ref C) f=aa ai
theorem NoAttr.taker{K:bz}{C:ag}(n:NoAttr K C f):W.takerIn K C f=aa ai:=by
 unfold W.takerIn
 rw[show cY K (.ref C) f=aa ai from n]
 rfl
structure zb3(K:bz)(C:ag)(m:Str)(f:ag):Prop where
 at_:cY K (.ref C) m=aa (aa (.ref f))
 fn:pA K (.ref f)=ae
 kp:fi K (.ref f)=ae
section
variable {X:Cx}{pins:List (ag × Obj)}{σ:St}{H:Hp}{s:aj}{a C dx:ag}{fs:List (Str × V)}{f:Str}{v:V}{A:av}{E:af->aj->Prop}
theorem zag{Q:af->aj->Prop}(I:Inv X pins σ H s)(e:H a=aa (.ins C dx fs))(c:Cls X.K C)(n:NoAttr X.K C f)(l:fs.lookup f=aa v)
  (h:∀u s',Inv X pins σ H s'->RelV v u->Q u s'):wpAny (model X.prog X.w) A (getAttr (.ref a) f b) Q E s:=by
 obtain⟨mA,O,r,_,_,_⟩:=XY I.hok e
 obtain⟨u,hu,ru⟩:=RelO.some_of (v:=v) (o:=mA f) (by rw[<-l];exact r f)
 exact ze2 I.kIn O (c.get f) c.hd n hu (zb2 ru) (h u _ (I.tok _) ru)
theorem ZF{pl:Sem Bool}{Q:af × List af->aj->Prop}(I:Inv X pins σ H s)(e:H a=aa (.ins C dx fs))(c:Cls X.K C)(k:zb3 X.K C m g)(l:fs.lookup m=ai)
  (h:Q (.ref g,[.ref a]) s):wpAny (model X.prog X.w) A (getMethod (.ref a) m pl) Q E s:=by
 obtain⟨mA,O,r,_,_,_⟩:=XY I.hok e
 have hn:mA m=ai:=RelO.none_of (by rw[<-l];exact r m)
 exact zcU I.kIn O (c.get m) k.at_ k.fn hn h
theorem Wc{Q:Unit->aj->Prop}(I:Inv X pins σ H s)(e:H a=aa (.ins C dx fs))(c:Cls X.K C)(n:NoAttr X.K C f)(hl:fs.length < 1000)(ry:RelV y u)
  (h:∀s',Inv X pins σ (upd H a (.ins C dx (z4 f y fs))) s'->Q () s'):wpAny (model X.prog X.w) A (setAttr (.ref a) f u) Q E s:=by
 obtain⟨mA,O,r,wi,_,ho⟩:=XY I.hok e
 have hz:(fs.map (·.1)).length<=sizeLine:=by rw[bu,dX];lia
 refine ze3 I.kIn O c.sa c.po n.taker c.hd wi hz λh' O' sb=>h _ ?_
 have hd:∃o,h'.get? dx=aa o:=let ⟨o,_,_,e',_⟩:=O'.ns;⟨o,e'⟩
 refine I.write (x:=a) (e:=dx) (by rw[e];exact eW) (.inr ho) (λb q hb z=>(sb.2 b hb).trans z) hd ?_
 refine⟨by rw[zl O.ne];exact ho,?_,O.ne,O'.obj,_,O'.ns,λg=>?_,λg hg=>?_⟩
 ·have:=Xg f y fs;lia
 ·show RelO ((z4 f y fs).lookup g) (if g=f then aa u else mA g)
  rw[Xf]
  by_cases q:g=f
  ·rw[ap q,ap q];exact ry
  ·rw[ak q,ak q];exact r g
 ·by_cases q:g=f
  ·rw[q];exact(YI f y fs).1
  ·refine(YI f y fs).2 g (wi g λz=>hg ?_)
   show (if g=f then aa u else mA g)=ai
   rw[ak q];exact z
theorem Inv.made(I:Inv X pins σ H s):Inv X pins σ (upd (upd H s.heap.objs.size (.own (s.heap.objs.size + 1))) (s.heap.objs.size + 1) (.ins C s.heap.objs.size []))
  { s with heap:=(s.heap.push fR).push (iX C s.heap.objs.size) }:=by
 have e1:(s.heap.push fR).get? s.heap.objs.size=aa fR:=bH s.heap rfl
 have e2:((s.heap.push fR).push (iX C s.heap.objs.size)).get? (s.heap.objs.size + 1)=aa (iX C s.heap.objs.size):=by
  have:=bH (s.heap.push fR) (o:=iX C s.heap.objs.size) rfl
  rwa [ip] at this
 have e3:(s.heap.push fR).Ns s.heap.objs.size (λ_=>ai):=⟨fR,#[],_,e1,rfl,(λe he=>absurd he (by simp)),λ_=>rfl⟩
 have I1:=I.laid (a:=s.heap.objs.size) (o:=.own (s.heap.objs.size + 1)) (h':=s.heap.push fR) (t':=s.toks) (λb u q=>bo _ q) (bq _) ⟨_,e1⟩
 refine I1.laid (a:=s.heap.objs.size + 1) (o:=.ins C s.heap.objs.size []) (t':=s.toks) (λb u q=>bo _ q) (mX (ip _ _)) ?_
 have ne:s.heap.objs.size≠s.heap.objs.size + 1:=cz (fE _)
 refine⟨by rw[zl ne,zf],cp _,ne,e2,λ_=>ai,(Heap.Ns1.of_empty e3).at λo q=>bo _ q,λ_=>eW,λy hy=>absurd rfl hy⟩
theorem ze4{Q:af->aj->Prop}(hb:attributeBase e f env (eval e env)=eval e env)
  (h:wpAny (model prog w) A (eval e env) (λo s₁=>wpAny (model prog w) A (getAttr o f ae) Q E s₁) E s):wpAny (model prog w) A (eval (.Attribute e f pos) env) Q E s:=
 Attribute_any_ h (by rw[arm_eval_Attribute,hb])
end
def yG(K:bz)(ta:TE)(f:Str):TE:=λσ H Q=>ta σ H λx H1=>∃a C dx fs v,x=.ref a/\H1 a=aa (.ins C dx fs)/\Cls K C/\NoAttr K C f/\fs.lookup f=aa v/\Q v H1
def qf(K:bz)(ta tv:TE)(f:Str):TS:=λD σ H=>tv σ H λy H1=>ta σ H1 λx H2=>∃a C dx fs,x=.ref a/\H2 a=aa (.ins C dx fs)/\Cls K C/\NoAttr K C f/\fs.length < 1000 /\
 D.nx σ (upd H2 a (.ins C dx (z4 f y fs)))
section
variable {X:Cx}{o e value:ay}{f:Str}{pos pos' tpos:Pos}{ta tv:TE}
theorem zZ(he:PE X e ta)(hb:attributeBase e f X.env (eval e X.env)=eval e X.env):PE X (.Attribute e f pos) (yG X.K ta f):=by
 intro pins s σ H Q I h
 refine ze4 hb (thn (he pins s σ H _ I h) λu s1 ⟨x,H1,I1,rx,a,C,dx,fs,v,ex,ea,c,n,l,q⟩=>?_)
 subst ex
 obtain rfl:u=bV a:=rx
 exact zag I1 ea c n l λu' s2 I2 ru=>⟨v,H1,I2,ru,q⟩
theorem wC(ha:PE X o ta)(hv:PE X value tv)(hs:swapsWith value (aa (.Attribute o f pos')) pos.line X.env=pure ao):PS X (.Assign [.Attribute o f pos'] value pos) (qf X.K ta tv f):=by
 intro pins s σ H D I h
 refine gZ (thn (hv pins s σ H _ I h) λu s1 ⟨y,H1,I1,ry,q⟩=>thn (ha pins s1 σ H1 _ I1 q) λov s2 ⟨x,H2,I2,rx,a,C,dx,fs,ex,ea,c,n,l,q2⟩=>?_) hs
 subst ex
 obtain rfl:ov=bV a:=rx
 exact Wc I2 ea c n l ry λs3 I3=>⟨σ,_,I3,q2⟩
end
section
variable {X:Cx}{pins:List (ag × Obj)}{σ:St}{H:Hp}{s:aj}{A:av}{E:af->aj->Prop}{Q:af->aj->Prop}{c:af}{b:Bool}
inductive YJ (K:bz) (H:Hp):V->af->Prop where
 | non:YJ K H .non (.type "NoneType")
 | bl (x:Bool):YJ K H (.bl x) (.type "bool")
 | int (i:Int):YJ K H (.int i) (.type "int")
 | str (x:Str):YJ K H (.str x) (.type "str")
 | flt (x:UInt64):YJ K H (.flt x) (.type "float")
 | lst {a:ag} {xs:List V} (e:H a=aa (.lst xs)):YJ K H (.ref a) (.type "list")
 | frz {a:ag} {o:Obj} {xs:List V} (e:H a=aa (.frz o (.lst xs))):YJ K H (.ref a) (.type "list")
 | tup {a:ag} {xs:List V} (e:H a=aa (.tup xs)):YJ K H (.ref a) (.type "tuple")
 | dK {a:ag} {kvs:List (Key × V)} (e:H a=aa (.dK kvs)):YJ K H (.ref a) (.type "dict")
 | dT {a:ag} {kvs:List (List Key × V)} (e:H a=aa (.dT kvs)):YJ K H (.ref a) (.type "dict")
 | ins {a C dx:ag} {fs:List (Str × V)} (e:H a=aa (.ins C dx fs)) (cl:Cls K C) (ha:cY K (.ref C) "__class__"=aa (aa (.builtin "object.__class__")))
   (hn:o8 K (.builtin "object.__class__") "__get__"=aa (aa (.builtin "getset_descriptor.__get__"))) (htk:W.takesIn K (.builtin "object.__class__")=aa ae)
   (hm:pE K C (.type "object")=aa ae):YJ K H (.ref a) (.ref C)
theorem zb4(I:Inv X pins σ H s)(rx:RelV x u)(ty:YJ X.K H x t)(e:lN X.K t c=aa b)(h:∀tk,Q (.bool b) { s with toks:=tk }) :
  wpAny (model X.prog X.w) A (call (.builtin "isinstance") [u,c]) Q E s:=by
 cases ty with
 | non=>cases (show u=cM from rx);exact gF W.kitx_none I.kIn eW e (λz=>nomatch z) h
 | bl y=>cases (show u=gX y from rx);exact gF W.kitx_bool I.kIn eW e (λz=>nomatch z) h
 | int i=>obtain⟨t,q⟩:=(show ∃t,u=iy i t from rx);cases q;exact gF W.kitx_int I.kIn eW e (λz=>nomatch z) h
 | str y=>obtain⟨t,q⟩:=(show ∃t,u=iW y t from rx);cases q;exact gF W.kitx_str I.kIn eW e (λz=>nomatch z) h
 | flt y=>obtain⟨t,q⟩:=(show ∃t,u=oW y t from rx);cases q;exact gF W.kitx_float I.kIn eW e (λz=>nomatch z) h
 | @lst a xs ea =>
  cases (show u=bV a from rx)
  obtain⟨_,_,n,_,h1⟩:=(show ObjOk X.prog X.w H s.heap a (.lst xs) from I.hok a _ ea)
  exact gF W.kitx_list I.kIn ⟨_,h1,rfl⟩ e (λz=>nomatch z) h
 | @frz a ob xs ea =>
  cases (show u=bV a from rx)
  obtain⟨_,_,_,n,_,h1⟩:=(show ObjOk X.prog X.w H s.heap a (.frz ob (.lst xs)) from I.hok a _ ea)
  exact gF W.kitx_list I.kIn ⟨_,h1,rfl⟩ e (λz=>nomatch z) h
 | @tup a xs ea =>
  cases (show u=bV a from rx)
  obtain⟨_,_,_,p⟩:=(show ObjOk X.prog X.w H s.heap a (.tup xs) from I.hok a _ ea)
  obtain⟨o,h1,h2,_⟩:=p
  exact gF W.kitx_tuple I.kIn ⟨o,h1,h2⟩ e (λz=>nomatch z) h
 | @dK a kvs ea =>
  cases (show u=bV a from rx)
  obtain⟨_,_,vs,_,p⟩:=(show ObjOk X.prog X.w H s.heap a (.dK kvs) from I.hok a _ ea)
  obtain⟨o,es,ep,h1,h2,_⟩:=p
  exact gF W.kitx_dict I.kIn ⟨o,h1,h2.1⟩ e (λz=>nomatch z) h
 | @dT a kvs ea =>
  cases (show u=bV a from rx)
  obtain⟨_,_,xs,_,o,es,ep,h1,h2,_⟩:=(show ObjOk X.prog X.w H s.heap a (.dT kvs) from I.hok a _ ea)
  exact gF W.kitx_dict I.kIn ⟨o,h1,h2.1⟩ e (λz=>nomatch z) h
 | @ins a C dx fs ea cl ha hn htk hm =>
  cases (show u=bV a from rx)
  obtain⟨mA,O,_⟩:=XY I.hok ea
  obtain⟨od,J,_⟩:=O.look
  exact gF (W.kitx_own (cl.get _) cl.hd ha hn htk hm) I.kIn J e (λz=>nomatch z) h
end
structure Room(k:Nat)(A:av):Prop where
 hd:A.handled=ai
 dp:A.depth + 3 * k + 5 < recursionLimit
 un:A.units + 16 * k + 200 < cLine
theorem Room.mono(r:Room k A)(h:j<=k):Room j A:=⟨r.hd,by have:=r.dp;lia,by have:=r.un;lia⟩
theorem Room.deeper(r:Room (k + 1) A)(env:Env):Room k (A.deeper env):=
 ⟨r.hd,by have:=r.dp;show A.depth + 1 + 3 * k + 5 < _;lia,by have:=r.un;show A.units + 3 + 16 * k + 200 < _;lia⟩
theorem zah{A:av}{C:ag}{us:List af} :(A.under (.builtin "type.__call__" ⟨.ref C :: us,kw⟩)).depth=A.depth + 1:=by
 first | rfl | simp[oI,Code.weight,Code.isCreation,Code.isGuard,Code.isCaller,Code.frames,oJ,guardIds]
theorem zai{A:av}{C:ag}{us:List af} :(A.under (.builtin "type.__call__" ⟨.ref C :: us,kw⟩)).units=A.units + 1:=by
 first | rfl | simp[oI,Code.cUnits,Code.frames,oJ]
theorem Room.make(r:Room (k + 1) A)(C:ag)(us:List af)(kw:List (Str × af)):Room k (A.under (.builtin "type.__call__" ⟨.ref C :: us,kw⟩)):=
 ⟨r.hd,by have:=r.dp;rw[zah];lia,by have:=r.un;rw[zai];lia⟩
theorem Room.depth(r:Room k A):A.depth < recursionLimit:=by have:=r.dp;lia
theorem Room.units(r:Room k A):A.units + 64 < cLine:=by have:=r.un;lia
def zi:TA:=λ_ H Q=>Q [] H
def zb(ta:TE)(tr:TA):TA:=λσ H Q=>ta σ H λx H1=>tr σ H1 λxs H2=>Q (x :: xs) H2
section
variable {X:Cx}{e:ay}{es:List ay}{te:TE}{t:TA}{pos:Pos}
theorem zd:PA X [] zi:=λ_ _ _ _ H Q I h=>ic ⟨[],H,I,.nil,h⟩
theorem za(ha:PE X e te)(hr:PA X es t)(hs:starEach (e :: es) X.env=(ao,eval e X.env) :: starEach es X.env:=by rfl):PA X (e :: es) (zb te t):=by
 intro pos pins s σ H Q I h
 rw[hs]
 show wpAny _ _ (spliced ((ao,eval e X.env) :: backTo pos (starEach es X.env))) _ _ s
 refine eM (thn (ha pins s σ H _ I h) λu s1 ⟨x,H1,I1,r1,q1⟩=>?_)
 exact thn (hr pos pins s1 σ H1 _ I1 q1) λus s2 ⟨xs,H2,I2,r2,q2⟩=>⟨x :: xs,H2,I2,.cons r1 r2,q2⟩
def yC(t:TA):TE:=λσ H Q=>t σ H λxs H1=>xs.length<=sizeLine/\∀p,H1 p=ai->Q (.ref p) (upd H1 p (.tup xs))
def xq(t:TA):TE:=λσ H Q=>t σ H λxs H1=>xs.length<=sizeLine/\∀p,H1 p=ai->Q (.ref p) (upd H1 p (.lst xs))
theorem yb{x1}(h:PA X es t):PE X (.Tuple es x1 pos) (yC t):=by
 intro pins s σ H Q I hq
 refine wpAny_Tuple_spliced (thn (h pos pins s σ H _ I hq) λus s1 ⟨xs,H1,I1,r,z,q⟩=>⟨by rw[<-r.length];exact z,?_⟩)
 have hf:H1 s1.heap.objs.size=ai:=I1.hok.fresh (bq _)
 refine⟨.ref s1.heap.objs.size,upd H1 s1.heap.objs.size (.tup xs),I1.laid (t':=s1.toks) (λb u e=>bo _ e) (bq _) ?_,rfl,q _ hf⟩
 exact⟨z,us,r,⟨_,bH _ rfl,rfl,_,rfl⟩⟩
theorem yR(h:PA X es t):PE X (.List es pos) (xq t):=by
 intro pins s σ H Q I hq
 refine wpAny_List_spliced (thn (h pos pins s σ H _ I hq) λus s1 ⟨xs,H1,I1,r,z,q⟩=>⟨by rw[<-r.length];exact z,?_⟩)
 have hf:H1 s1.heap.objs.size=ai:=I1.hok.fresh (bq _)
 refine⟨.ref s1.heap.objs.size,upd H1 s1.heap.objs.size (.lst xs),I1.laid (t':=s1.toks) (λb u e=>bo _ e) (bq _) ?_,rfl,q _ hf⟩
 exact⟨z,us,0,r,bH _ rfl⟩
end
abbrev Sp:=List V->Hp->VK->XK->Prop
abbrev CXT:=List Env->Hp->aj->XK->af->aj->Prop
structure Env0(P:aq)(w:au)(K:bz)(mg:Str->Option af)(base:aw)(A:av)(outer:List Env)(s:aj)(H:Hp):Prop where
 frames:A.frames=aa outer
 mod:Mod K mg base
 bs:∀b o,base.get? b=aa o->s.heap.get? b=aa o/\H b=ai
 bsz:base.objs.size<=s.heap.objs.size
 funs:s.heap.FunFrames base outer
 frf:∀b∈frs outer,H b=ai
 hok:HOk P w H s.heap
 bare:AllBare s.gens
def CE(outer:List Env)(P:aq)(w:au)(H:Hp)(s:aj)(Q:VK)(u:af)(s':aj):Prop :=
 ∃v H',s'.os=s.os/\AllBare s'.gens/\Un (frs outer) [] H H' s.heap s'.heap/\HOk P w H' s'.heap/\RelV v u/\Q v H'
def CR(CX:CXT)(outer:List Env)(P:aq)(w:au)(H:Hp)(s:aj)(Q:VK)(E:XK)(r:aA)(s':aj):Prop :=
 match r with
 | .ok (.ret u)=>CE outer P w H s Q u s'
 | .ok _=>False
 | .error e=>CX outer H s E e s'
structure FnOk(P:aq)(w:au)(K:bz)(mg:Str->Option af)(base:aw)(CX:CXT)(k:Nat)(f:ag)(fd:FuncData)(ps:List Str)(sp:Sp):Prop where
 len:∀vs H Q E,sp vs H Q E->vs.length=ps.length
 run:∀(A:av) (outer:List Env) (s:aj) (H:Hp) (args:Args) (us:List af) (vs:List V) (Q:VK) (E:XK),Room k A->Env0 P w K mg base A outer s H->BindsTo s fd args (ps.zip us)->Vals vs us->sp vs H Q E ->
  codeAny (model P w) A (.call (.ref f) args) (CR CX outer P w H s Q E) s
theorem FnOk.mono{w:au}{K:bz}{mg:Str->Option af}{base:aw}{CX:CXT}{j k:Nat}{f:ag}{fd:FuncData}{ps:List Str}{sp:Sp}(F:FnOk P w K mg base CX j f fd ps sp)(h:j<=k) :
  FnOk P w K mg base CX k f fd ps sp:=⟨F.len,λA outer s H args us vs Q E hr=>F.run A outer s H args us vs Q E (hr.mono h)⟩
theorem Env0.make{w:au}{K:bz}{mg:Str->Option af}{base:aw}{A:av}{outer:List Env}{s:aj}{H:Hp}(e:Env0 P w K mg base A outer s H)(C:ag)(us:List af)(kw:List (Str × af)) :
  Env0 P w K mg base (A.under (.builtin "type.__call__" ⟨.ref C :: us,kw⟩)) outer s H:=⟨by first | exact e.frames | (simpa[oI,Code.envs,oJ,pushEnvs] using e.frames),e.mod,e.bs,e.bsz,e.funs,e.frf,e.hok,e.bare⟩
section
variable {X:Cx}{pins:List (ag × Obj)}{σ:St}{H:Hp}{s s':aj}
theorem Inv.env0(I:Inv X pins σ H s):Env0 X.prog X.w X.K X.mg X.base X.A X.stack s H :=
 ⟨I.ok.frames,I.ok.mod,I.bs,bR I.ok.bsz I.sz,I.stack,I.stkFree,I.hok,I.bare⟩
theorem Inv.after{Q:VK}(I:Inv X pins σ H s)(h:CE X.stack X.prog X.w H s Q u s'):EP X pins σ Q u s':=by
 obtain⟨v,H',os,bare,un,hok,r,q⟩:=h
 obtain⟨hh,g,d,t,os'⟩:=s'
 obtain rfl:os'=s.os:=os
 exact⟨v,H',I.call (h':=hh) (g':=g) (d':=d) (t':=t) (ch:=[]) un hok bare (λb z=>absurd z (by simp)),r,q⟩
end
def zn(sp:Sp)(dvs:List V)(E:XK)(t:TA):TE:=λσ H Q=>t σ H λvs H1=>sp (vs ++ dvs) H1 Q E
def yw(C:ag)(m:Str)(sp:Sp)(dvs:List V)(E:XK)(ta:TE)(t:TA):TE:=λσ H Q=>ta σ H λx H1=>∃a dx fs,x=.ref a/\H1 a=aa (.ins C dx fs)/\fs.lookup m=ai /\
 t σ H1 λvs H2=>sp (x :: (vs ++ dvs)) H2 Q E
def zbc(C:ag)(sp:Sp)(dvs:List V)(E:XK)(t:TA):TE:=λσ H Q=>t σ H λvs H1=>∀x dx,H1 x=ai->H1 dx=ai->dx≠x ->
 sp (.ref x :: (vs ++ dvs)) (upd (upd H1 dx (.own x)) x (.ins C dx [])) (λv H2=>v=.non/\Q (.ref x) H2) E
def Binds(K:bz)(fd:FuncData)(ps:List Str)(ds:List af):Prop :=
 ∀(s:aj) (us:List af),K.In s.heap->(us ++ ds).length=ps.length->BindsTo s fd ⟨us,[]⟩ (ps.zip (us ++ ds))
theorem Binds.all{K:bz}{fd:FuncData}(h:∀us:List af,us.length=ps.length->bindArgs fd ⟨us,[]⟩=pure (ps.zip us)):Binds K fd ps []:=λs us _ hl=>by
 rw[bB] at hl ⊢
 exact .of_eq (h us hl)
def j6(CX:CXT)(X:Cx)(E:XK):Prop:=∀(pins:List (ag × Obj)) (σ:St) (H:Hp) (s:aj) (e:af) (s':aj),Inv X pins σ H s->CX X.stack H s E e s'->X.xe e s'
section
variable {X:Cx}{CX:CXT}{k:Nat}{f C:ag}{fd:FuncData}{ps:List Str}{sp:Sp}{dvs:List V}{ds:List af}{E:XK}{x m:Str}{p pos apos:Pos}{e o:ay}{es:List ay}{ta:TE}{t:TA}
theorem zaj{σ:St}{H:Hp}{s:aj}{Q:VK}{us:List af}{vs:List V}(F:FnOk X.prog X.w X.K X.mg X.base CX k f fd ps sp)(hr:Room k X.A)(hb:Binds X.K fd ps ds)(hd:Vals dvs ds)(hx:j6 CX X E)
  (I:Inv X pins σ H s) (r:Vals vs us) (h:sp (vs ++ dvs) H Q E):wpAny (model X.prog X.w) X.A (call (.ref f) us) (EP X pins σ Q) X.xe s:=by
 have r2:Vals (vs ++ dvs) (us ++ ds):=r.append hd
 have hl:(us ++ ds).length=ps.length:=by rw[<-r2.length];exact F.len _ _ _ _ h
 refine ot (eN (F.run X.A X.stack s H ⟨us,[]⟩ (us ++ ds) (vs ++ dvs) Q E hr I.env0 (hb s us I.kIn hl) r2 h) λr s' hq=>?_)
 cases r with
 | error e=>exact hx pins σ H s e s' I hq
 | ok fl =>
  cases fl with
  | ret u=>exact I.after hq
  | next=>exact cJ hq
  | brk=>exact cJ hq
  | cont=>exact cJ hq
theorem XZ(F:FnOk X.prog X.w X.K X.mg X.base CX k f fd ps sp)(hr:Room k X.A)(hg:Gl X x)(hm:X.mg x=aa (.ref f))(hk:fi X.K (.ref f)=ae)(hb:Binds X.K fd ps ds)(hd:Vals dvs ds)(hx:j6 CX X E)
  (ha:PA X (e :: es) t) (hdb:(x == ("__debug__":Str))=ao:=by decide) (he:starEach (e :: es) X.env=(ao,eval e X.env) :: starEach es X.env:=by rfl) (hpl:(backTo pos (starEach es X.env)).any (·.1)=ao:=by rfl) :
  PE X (.Call (.Name x p) (e :: es) [] pos) (zn sp dvs E t):=by
 intro pins s σ H Q I h
 refine eO (vE I hg hm ?_ hdb)
 refine lO (h₀:=X.base) I.ok.mod.kin hk (thn (ha pos pins s σ H _ I h) λus s1 ⟨vs,H1,I1,r,q⟩=>⟨I1.kIn,?_⟩) he hpl
 exact zaj F hr hb hd hx I1 r q
theorem yx{pl:Sem Bool}(he:PE X o ta)(c:Cls X.K C)(hm:zb3 X.K C m f)(F:FnOk X.prog X.w X.K X.mg X.base CX k f fd ps sp)(hr:Room k X.A)(hb:Binds X.K fd ps ds)(hd:Vals dvs ds)(hx:j6 CX X E)(ha:PA X (e :: es) t)
  (hst:starEach (e :: es) X.env=(ao,eval e X.env) :: starEach es X.env:=by rfl) (hpl:(backTo pos (starEach es X.env)).any (·.1)=ao:=by rfl)
  (ht:eval (.Call (.Attribute o m apos) (e :: es) [] pos) X.env=(do
   let ov <-eval o X.env
   standAt apos.atName
   let (f,first) <-holding [ov] (getMethod ov m pl)
   callWith pos f first (backTo pos (starEach (e :: es) X.env)) (backToKw pos (keywordEach [] X.env))):=by rfl) :
  PE X (.Call (.Attribute o m apos) (e :: es) [] pos) (yw C m sp dvs E ta t):=by
 intro pins s σ H Q I h
 refine mY (pl:=pl) (thn (he pins s σ H _ I h) λu s1 ⟨x,H1,I1,rx,a,dx,fs,ex,ea,l,q⟩=>?_) ht
 subst ex
 obtain rfl:u=bV a:=rx
 refine ZF I1 ea c hm l ?_
 refine lO (first:=[.ref a]) (h₀:=X.base) I.ok.mod.kin hm.kp (thn (ha pos pins s1 σ H1 _ I1 q) λus s2 ⟨vs,H2,I2,r,q2⟩=>⟨I2.kIn,?_⟩) hst hpl
 exact zaj (us:=.ref a :: us) (vs:=.ref a :: vs) F hr hb hd hx I2 (.cons rfl r) q2
theorem jH{pl:Sem Bool}(he:PE X o ta)(c:Cls X.K C)(hm:zb3 X.K C m f)(F:FnOk X.prog X.w X.K X.mg X.base CX k f fd ps sp)(hr:Room k X.A)(hb:Binds X.K fd ps ds)(hd:Vals dvs ds)(hx:j6 CX X E)
  (ht:eval (.Call (.Attribute o m apos) [] [] pos) X.env=(do
   let ov <-eval o X.env
   standAt apos.atName
   let (f,first) <-holding [ov] (getMethod ov m pl)
   callWith pos f first (backTo pos (starEach [] X.env)) (backToKw pos (keywordEach [] X.env))):=by rfl) :
  PE X (.Call (.Attribute o m apos) [] [] pos) (yw C m sp dvs E ta zi):=by
 intro pins s σ H Q I h
 refine mY (pl:=pl) (thn (he pins s σ H _ I h) λu s1 ⟨x,H1,I1,rx,a,dx,fs,ex,ea,l,q⟩=>?_) ht
 subst ex
 obtain rfl:u=bV a:=rx
 refine ZF I1 ea c hm l ?_
 exact W.callWith_K0 (first:=[.ref a]) I1.kIn hm.kp (zaj (us:=[.ref a]) (vs:=[.ref a]) F hr hb hd hx I1 (.cons rfl .nil) q)
structure Mk(K:bz)(C f:ag):Prop where
 makes:oZ K C=ae
 init:cY K (.ref C) "__init__"=aa (aa (.ref f))
 fn:pA K (.ref f)=ae
 kp:fi K (.ref C)=ae
theorem zcW{σ:St}{H:Hp}{s:aj}{Q:VK}{us:List af}{vs:List V}(M:Mk X.K C f)(F:FnOk X.prog X.w X.K X.mg X.base CX k f fd ps sp)(hr:Room (k + 1) X.A)(hb:Binds X.K fd ps ds)(hd:Vals dvs ds)
  (hx:j6 CX X E) (I:Inv X pins σ H s) (r:Vals vs us)
  (h:∀x dx,H x=ai->H dx=ai->dx≠x->sp (.ref x :: (vs ++ dvs)) (upd (upd H dx (.own x)) x (.ins C dx [])) (λv H2=>v=.non/\Q (.ref x) H2) E) :
  wpAny (model X.prog X.w) X.A (call (.ref C) us) (EP X pins σ Q) X.xe s:=by
 have hq:=h (s.heap.objs.size + 1) s.heap.objs.size (I.hok.fresh (o9 _)) (I.hok.fresh (bq _)) (cz (fE _))
 have I2:=Inv.made (C:=C) I
 have r2:Vals (V.ref (s.heap.objs.size + 1) :: (vs ++ dvs)) (bV (s.heap.objs.size + 1) :: (us ++ ds)):=.cons rfl (r.append hd)
 have hl:(bV (s.heap.objs.size + 1) :: us ++ ds).length=ps.length:=by
  have e:=r2.length
  rw[F.len _ _ _ _ hq] at e
  exact e.symm
 refine ot (zcV (f:=f) I.kIn M.makes M.init (beq_iff_eq.mp M.fn) (eN (F.run _ X.stack _ _ ⟨bV (s.heap.objs.size + 1) :: us,[]⟩ (bV (s.heap.objs.size + 1) :: (us ++ ds)) _ _ E (hr.make C us [])
  (I2.env0.make C us []) (hb _ (bV (s.heap.objs.size + 1) :: us) I2.kIn hl) r2 hq) λr s' hq'=>?_))
 cases r with
 | error e=>exact hx pins σ _ _ e s' I2 hq'
 | ok fl =>
  cases fl with
  | ret u =>
   obtain⟨v,H',I3,rv,ev,q3⟩:=I2.after hq'
   subst ev
   exact⟨rv,⟨V.ref (s.heap.objs.size + 1),H',I3,rfl,q3⟩⟩
  | next=>exact cJ hq'
  | brk=>exact cJ hq'
  | cont=>exact cJ hq'
theorem zbd(M:Mk X.K C f)(F:FnOk X.prog X.w X.K X.mg X.base CX k f fd ps sp)(hr:Room (k + 1) X.A)(hg:Gl X x)(hm:X.mg x=aa (.ref C))(hb:Binds X.K fd ps ds)(hd:Vals dvs ds)(hx:j6 CX X E)
  (ha:PA X (e :: es) t) (hdb:(x == ("__debug__":Str))=ao:=by decide) (he:starEach (e :: es) X.env=(ao,eval e X.env) :: starEach es X.env:=by rfl) (hpl:(backTo pos (starEach es X.env)).any (·.1)=ao:=by rfl) :
  PE X (.Call (.Name x p) (e :: es) [] pos) (zbc C sp dvs E t):=by
 intro pins s σ H Q I h
 refine eO (vE I hg hm ?_ hdb)
 refine lO (h₀:=X.base) I.ok.mod.kin M.kp (thn (ha pos pins s σ H _ I h) λus s1 ⟨vs,H1,I1,r,q⟩=>⟨I1.kIn,?_⟩) he hpl
 exact zcW M F hr hb hd hx I1 r q
end
structure FnScope(N P:List Str)(sc:az):Prop where
 kind:sc.kind=.function
 co:sc.isCoroutine=ao
 gen:sc.isGenerator=ao
 nd:N.Nodup
 pre:N.take P.length=P
 par:∀x∈P,sc.names.lookup x=aa .local\/sc.names.lookup x=aa .cell
 nofree:∀y∈sc.names,y.2≠.free
theorem VQ{kindOf:Str->Option NameKind}{x:Str}:∀ {binds:List (Str × af)} {m:Str->Option af},(∀v,(x,v) ∉ binds)->bindL kindOf binds m x=m x
 | [],_,_=>rfl
 | (n,v) :: r,m,h=>by
  unfold bindL
  rw[VQ λw hw=>h w (bE _ hw)]
  split
  ·have:x≠n:=by rintro rfl;exact h v bC
   simp[this]
  ·rfl
theorem VR{kindOf:Str->Option NameKind}{x:Str}:∀ {binds:List (Str × af)} {m:Str->Option af},(∀v,(x,v) ∉ binds)->bindC kindOf binds m x=m x
 | [],_,_=>rfl
 | (n,v) :: r,m,h=>by
  unfold bindC
  rw[VR λw hw=>h w (bE _ hw)]
  split
  ·rfl
  ·have:x≠n:=by rintro rfl;exact h v bC
   simp[this]
theorem VS{kindOf:Str->Option NameKind}{x:Str}{v:af}:∀ {P:List Str} {vs:List af} {i:Nat} {m:Str->Option af},P.Nodup->P[i]?=aa x->vs[i]?=aa v->kindOf x=aa .local ->
  bindL kindOf (P.zip vs) m x=aa v
 | [],_,_,_,_,h,_,_=>by simp at h
 | _ :: _,[],_,_,_,_,h,_=>by simp at h
 | p :: P,w :: vs,0,m,nd,h1,h2,hk=>by
  simp at h1 h2;subst h1;subst h2
  show bindL kindOf ((p,w) :: P.zip vs) m p=_
  unfold bindL
  rw[VQ λv hv=>(dk.mp nd).1 (i4 hv).1,ap hk]
  simp
 | p :: P,w :: vs,i + 1,m,nd,h1,h2,hk=>by
  show bindL kindOf ((p,w) :: P.zip vs) m x=_
  unfold bindL
  exact VS (i:=i) (dk.mp nd).2 (by simpa using h1) (by simpa using h2) hk
theorem VT{kindOf:Str->Option NameKind}{x:Str}{v:af}:∀ {P:List Str} {vs:List af} {i:Nat} {m:Str->Option af},P.Nodup->P[i]?=aa x->vs[i]?=aa v->kindOf x≠aa .local ->
  bindC kindOf (P.zip vs) m x=aa v
 | [],_,_,_,_,h,_,_=>by simp at h
 | _ :: _,[],_,_,_,_,h,_=>by simp at h
 | p :: P,w :: vs,0,m,nd,h1,h2,hk=>by
  simp at h1 h2;subst h1;subst h2
  show bindC kindOf ((p,w) :: P.zip vs) m p=_
  unfold bindC
  rw[VR λv hv=>(dk.mp nd).1 (i4 hv).1,ak hk]
  simp
 | p :: P,w :: vs,i + 1,m,nd,h1,h2,hk=>by
  show bindC kindOf ((p,w) :: P.zip vs) m x=_
  unfold bindC
  exact VT (i:=i) (dk.mp nd).2 (by simpa using h1) (by simpa using h2) hk
def start(N:List Str)(vs:List V):St:=vs.map aa ++ bG (N.length - vs.length) ai
def jI(CX:CXT)(P:aq)(w:au)(K:bz)(mg:Str->Option af)(base:aw)(N:List Str)(qual:Str)(scope:az)(f:ag)(cd:af)(A:av)(outer:List Env)(s:aj)(H:Hp)(E:XK):Cx where
 prog:=P
 w:=w
 K:=K
 mg:=mg
 base:=base
 A:=A.deeper (envOfC qual scope s.heap.objs.size f cd)
 N:=N
 s₀:=s
 H₀:=H
 env:=envOfC qual scope s.heap.objs.size f cd
 outer:=outer
 stack:=envOfC qual scope s.heap.objs.size f cd :: outer
 ex:=[]
 calm:=ae
 fn:=λ_=>ae
 pn:=[]
 xe:=λe s'=>wpAny (model P w) (A.deeper (envOfC qual scope s.heap.objs.size f cd)) (leaving (envOfC qual scope s.heap.objs.size f cd) e) (λ_ s''=>CX outer H s E e s'') (λe' s''=>CX outer H s E e' s'') s'
theorem Ky{sc:az}{n:Nat}(h:sc.names.lookup x=aa .cell):∃c,(cellsFrom n sc.names []).lookup x=aa c:=by
 have q:=mI sc.names n [] (.inl h)
 exact eX.mp q
theorem VU{CX:CXT}{P:aq}{w:au}{K:bz}{mg:Str->Option af}{base:aw}{N ps:List Str}{qual:Str}{scope:az}{f:ag}{cd:af}{A:av}{outer:List Env}{s s1:aj}{H:Hp}{E:XK}{us:List af}{vs:List V}
  (S:FnScope N ps scope) (hd:A.handled=ai) (e0:Env0 P w K mg base A outer s H) (hl:vs.length=ps.length) (r:Vals vs us)
  (x:InCallC s s.heap.objs.size (bindL (envOfC qual scope s.heap.objs.size f cd).kindOf (ps.zip us) λ_=>ai) (cellsFrom (s.heap.objs.size + 1) scope.names []) (bindC (envOfC qual scope s.heap.objs.size f cd).kindOf (ps.zip us) λ_=>ai) s1) :
  Inv (jI CX P w K mg base N qual scope f cd A outer s H E) [] (start N vs) H s1:=by
 have hpl:ps.length<=N.length:=by have:=congrArg bJ S.pre;rw[cm] at this;lia
 obtain⟨h1,tk,rfl,hk⟩:=x.done
 have noA:∀b:ag,b ∉ (jI CX P w K mg base N qual scope f cd A outer s H E).ex:=λb z=>absurd (show b∈([]:List ag) from z) (by simp)
 refine⟨⟨e0.mod,S.kind,rfl,rfl,bq _,λy z c h1 h2=>?_,λy hy=>?_,λy c _ h=>?_,λ_=>hd,nz e0.frames,.inr ⟨rfl,rfl⟩,λb z=>absurd z (noA b),e0.bs,e0.bsz,λb _ _=>noA b,λb z=>absurd z (noA b),e0.funs,e0.frf⟩,
  rfl,e0.bare,Un.kept hk,⟨_,x.toInCall.ns,λi y v h1 h2 h3=>?_⟩,λy c h=>⟨_,x.cell y c h⟩,e0.hok.fresh (bq _),λy c h=>?_,λp hp=>absurd (show p∈([]:List (ag × Obj)) from hp) (by simp),e0.hok.kept hk,?_⟩
 ·exact name_of_addr x.apart (eE h1) (eE h2)
 ·have hy:scope.names.lookup y=aa .cell\/scope.names.lookup y=aa .free:=hy
  rcases hy with hy | hy
  ·exact Ky hy
  ·exact absurd rfl (S.nofree _ (eE hy))
 ·exact fQ (x.above y c (eE h))
 ·have hi:i < vs.length:=by
   unfold start at h2
   by_cases hi:i < vs.length
   ·exact hi
   ·rw[cI (by simpa using hi)] at h2
    rw[mw] at h2
    split at h2 <;> cases h2
  have ha:vs[i]?=aa v:=by
   unfold start at h2
   rw[c8 (by simpa using hi),bW] at h2
   cases e:vs[i]? with
   | none=>rw[e] at h2;cases h2
   | some a=>rw[e] at h2;cases h2;rfl
  obtain⟨u,hu,rv⟩:=r.get ha
  have hp:ps[i]?=aa y:=by
   rw[<-S.pre,dC (by lia)];exact h1
  have ndP:ps.Nodup:=by rw[<-S.pre];exact S.nd.sublist (ou _ _)
  refine⟨u,rv,?_⟩
  rcases S.par y (bD hp) with k | k
  ·exact .inl ⟨k,VS ndP hp hu k⟩
  ·obtain⟨c,e⟩:=Ky (n:=s.heap.objs.size + 1) k
   refine .inr ⟨.inl k,c,e,?_⟩
   have q:=x.cell y c e
   rw[VT ndP hp hu (by show scope.names.lookup y≠_;rw[k];decide)] at q
   exact q
 ·exact e0.hok.fresh (fQ (x.above y c (eE h)))
 ·unfold start
  show _=N.length
  rw[bt,bu,fS]
  lia
theorem zgm{CX:CXT}{P:aq}{w:au}{K:bz}{mg:Str->Option af}{base:aw}{k:Nat}{f:ag}{name qual:Str}{params:Arguments}{body:List ax}{scope:az}{dV kV doc pm cdv ct oc:af}{an od:Option ag}
  {osl:Array (Option af)} {N ps:List Str} {sp:Sp} (lk:K.lookup f=aa ⟨oc,od,.func (iz name qual params body scope dV kV doc pm an cdv ct),osl⟩) (hcd:iq K cdv qual=ae) (S:FnScope N ps scope)
  (len:∀vs H Q E,sp vs H Q E->vs.length=ps.length)
  (hbody:∀(A:av) (outer:List Env) (s:aj) (H:Hp) (vs:List V) (Q:VK) (E:XK),Room k (A.deeper (envOfC qual scope s.heap.objs.size f cdv))->sp vs H Q E ->
   ∃t,PSs (jI CX P w K mg base N qual scope f cdv A outer s H E) body t/\t { nx:=λ_ H'=>Q .non H',rt:=Q } (start N vs) H) :
  FnOk P w K mg base CX (k + 1) f (iz name qual params body scope dV kV doc pm an cdv ct) ps sp:=by
 refine⟨len,λA outer s H args us vs Q E hr e0 hb r hsp=>?_⟩
 have hl:=len _ _ _ _ hsp
 have KX:K.In s.heap:=e0.mod.kin.keeps λb o e=>(e0.bs b o e).1
 have lim:s.heap.NoLimit:=e0.mod.nolimit.keeps λb o e=>(e0.bs b o e).1
 have hkind:∀y∈ps.zip us,scope.names.lookup y.1=aa .local\/(scope.names.lookup y.1=aa .cell/\((cellsFrom (s.heap.objs.size + 1) scope.names []).lookup y.1).isSome=ae):=λ⟨n,v⟩ hy=>by
  rcases S.par n (i4 hy).1 with q | q
  ·exact .inl q
  ·exact .inr ⟨q,mI _ _ _ (.inl q)⟩
 refine mZ hr.depth (KX _ _ lk) rfl S.co S.gen rfl (W.codeRec_of KX hcd) (hb _ _ _ _ ?_)
 refine lJ S.kind hkind λenv he s1 x=>?_
 subst he
 refine⟨lim.keeps x.toInCall.keep,codeAny_func ?_⟩
 obtain⟨t,ht,hq⟩:=hbody A outer s H vs Q E (hr.deeper _) hsp
 have I:Inv (jI CX P w K mg base N qual scope f cdv A outer s H E) [] (start N vs) H s1:=VU S hr.hd e0 hl r x
 refine dh (ht [] s1 (start N vs) H _ I hq) (λfl s' hs=>?_) λe s' hs=>hs
 have fin:∀ {σ':St} {H':Hp} {v:V} {u:af},Inv (jI CX P w K mg base N qual scope f cdv A outer s H E) [] σ' H' s'->RelV v u->Q v H'->CE outer P w H s Q u s' :=
  λ{σ' H' v u} J rv q=>⟨v,H',J.os,J.bare,J.base,J.hok,rv,q⟩
 cases fl with
 | ret u =>
  obtain⟨v,σ',H',J,rv,q⟩:=hs
  exact fin J rv q
 | next =>
  obtain⟨σ',H',J,q⟩:=hs
  exact fin (v:=V.non) (u:=cM) J rfl q
 | brk =>
  obtain⟨_,_,_,q⟩:=hs
  exact cJ q
 | cont =>
  obtain⟨_,_,_,q⟩:=hs
  exact cJ q
section
variable {X:Cx}{x:Str}{p pos:Pos}{e:ay}{es:List ay}{t:TA}{id T:String}{r:List V->Hp->VK->Prop}
def tCB(r:List V->Hp->VK->Prop)(t:TA):TE:=λσ H Q=>t σ H λvs H1=>r vs H1 Q
theorem zM(hc:kQ X (.builtin id) r)(hg:Gl X x)(hm:X.mg x=ai)(hv:bootBuiltins x=aa (.builtin id))(ha:PA X (e :: es) t)(hn:x≠"__name__":=by decide)(hdb:(x == ("__debug__":Str))=ao:=by decide)
  (he:starEach (e :: es) X.env=(ao,eval e X.env) :: starEach es X.env:=by rfl) (hpl:(backTo pos (starEach es X.env)).any (·.1)=ao:=by rfl):PE X (.Call (.Name x p) (e :: es) [] pos) (tCB r t):=by
 intro pins s σ H Q I h
 refine eO (jZ I hg hm hv ?_ hn hdb)
 exact PyProof.Rows.callWith_builtin1 (thn (ha pos pins s σ H _ I h) λus s1 ⟨vs,H1,I1,r1,q1⟩=>hc pins s1 σ H1 vs us Q I1 r1 q1) he hpl
theorem yM(hc:kQ X (.type T) r)(hg:Gl X x)(hm:X.mg x=ai)(hv:bootBuiltins x=aa (.type T))(ha:PA X (e :: es) t)(hn:x≠"__name__":=by decide)(hdb:(x == ("__debug__":Str))=ao:=by decide)
  (he:starEach (e :: es) X.env=(ao,eval e X.env) :: starEach es X.env:=by rfl) (hpl:(backTo pos (starEach es X.env)).any (·.1)=ao:=by rfl):PE X (.Call (.Name x p) (e :: es) [] pos) (tCB r t):=by
 intro pins s σ H Q I h
 refine eO (jZ I hg hm hv ?_ hn hdb)
 exact cW (thn (ha pos pins s σ H _ I h) λus s1 ⟨vs,H1,I1,r1,q1⟩=>hc pins s1 σ H1 vs us Q I1 r1 q1) he hpl
end
end L2
namespace HT
open PySem PyProof.Rows
def zhG:List Int->List Int->Bool
 | [],[]=>ao
 | [],_ :: _=>ae
 | _ :: _,[]=>ao
 | x :: xs,y :: ys=>if x=y then zhG xs ys else decide (x < y)
theorem rcLt_int(A:av)(s:aj)(a:Int)(t:Tok)(c:Int)(u:Tok)(prog:aq)(w:au)(E:af->aj->Prop)(Q:af->aj->Prop)(h:Q (.bool (decide (a < c))) s) :
  wpAny (model prog w) A (richCompare .Lt (.int a t) (.int c u)) Q E s :=
 (nI h:wpAny (model prog w) A (compareOp .Lt (.int a t) (.int c u)) Q E s)
section
variable {prog:aq}{w:au}{A:av}{E:af->aj->Prop}{s:aj}
def sIx(n d:Nat):Option Int->Nat
 | none=>d
 | some v=>if v < 0 then (v + (n:Int)).toNat else min v.toNat n
theorem sIx_none(n d:Nat):sIx n d ai=d:=rfl
theorem sIx_nat(n d k:Nat):sIx n d (aa (k:Int))=min k n:=by
 show (if (k:Int) < 0 then ((k:Int) + (n:Int)).toNat else min (k:Int).toNat n)=min k n
 rw[ak (by lia),eY]
theorem sIx_le(n d:Nat)(hd:d<=n)(o:Option Int):sIx n d o<=n:=by
 cases o with
 | none=>exact hd
 | some v =>
  show (if v < 0 then (v + (n:Int)).toNat else min v.toNat n)<=n
  by_cases hv:v < 0
  ·rw[ap hv];lia
  ·rw[ak hv];exact Nat.min_le_right _ _
end
end HT
namespace L2
open PySem PySem.Spec PyProof.Rows
abbrev TO:=St->Hp->(Option Int->Hp->Prop)->Prop
def PO(X:Cx)(e:Option ay)(t:TO):Prop :=
 ∀(pins:List (ag × Obj)) (s:aj) (σ:St) (H:Hp) (Q:Option Int->Hp->Prop),Inv X pins σ H s->t σ H Q ->
  wpAny (model X.prog X.w) X.A (evalPart e X.env) (λu s'=>∃o H',Inv X pins σ H' s'/\IsPart u o/\Q o H') X.xe s
def yy:TO:=λ_ H Q=>Q ai H
def xG(t:TE):TO:=λσ H Q=>t σ H λx H1=>∃i,x=.int i/\Q (aa i) H1
section
variable {X:Cx}{e:ay}{te:TE}{lo hi:Option ay}{tl th:TO}{pos p2:Pos}
theorem vF:PO X ai yy:=by
 intro pins s σ H Q I h
 rw[nT]
 exact bw ⟨ai,H,I,.none,h⟩
theorem x6(h:PE X e te):PO X (aa e) (xG te):=by
 intro pins s σ H Q I hw
 rw[evalPart_some]
 refine thn (h pins s σ H _ I hw) λu s1 ⟨x,H1,I1,r1,q1⟩=>?_
 obtain⟨i,rfl,q⟩:=q1
 obtain⟨t,rfl⟩:=r1
 exact⟨aa i,H1,I1,.int i t,q⟩
def SlR(X:Cx)(r:V->Option Int->Option Int->Hp->VK->Prop):Prop :=
 ∀(pins:List (ag × Obj)) (s:aj) (σ:St) (H:Hp) (x:V) (v vl vu:af) (lo hi:Option Int) (sl:ag) (Q:VK),Inv X pins σ H s->RelV x v->s.heap.IsSliceOf sl vl vu .none->IsPart vl lo->IsPart vu hi->r x lo hi H Q ->
  ∃T id,typeLookup (.type T) "__getitem__"=pure (aa (.builtin id))/\s.TypeIs v T/\wpAny (model X.prog X.w) X.A (getItem v (.ref sl)) (EP X pins σ Q) X.xe s
def tSl(r:V->Option Int->Option Int->Hp->VK->Prop)(te:TE)(tl th:TO):TE:=λσ H Q=>te σ H λx H1=>tl σ H1 λl H2=>th σ H2 λu H3=>r x l u H3 Q
theorem xH{r:V->Option Int->Option Int->Hp->VK->Prop}(hr:SlR X r)(he:PE X e te)(hl:PO X lo tl)(hu:PO X hi th):PE X (.Subscript e (.Slice lo hi ai p2) pos) (tSl r te tl th):=by
 intro pins s σ H Q I h
 refine ox (thn (he pins s σ H _ I h) λv s1 ⟨x,H1,I1,r1,q1⟩=>?_)
 refine wpAny_Slice (thn (hl pins s1 σ H1 _ I1 q1) λvl s2 ⟨l,H2,I2,pl,q2⟩=>thn (hu pins s2 σ H2 _ I2 q2) λvu s3 ⟨u,H3,I3,pu,q3⟩=>?_)
 rw[nT]
 refine bw ?_
 have I4:Inv X pins σ H3 { s3 with heap:=s3.heap.push { cls:=.type "slice",data:=.fields #[vl,vu,.none] } }:=I3.kept (t':=s3.toks) λb ob q=>bo _ q
 obtain⟨T,id,hT,ht,hg⟩:=hr pins { s3 with heap:=s3.heap.push { cls:=.type "slice",data:=.fields #[vl,vu,.none] } } σ H3 x v vl vu l u s3.heap.objs.size Q I4 r1 (Heap.IsSliceOf.new ..) pl pu q3
 show wpAny (model X.prog X.w) X.A (subscriptTail e (.Slice lo hi ai p2) v (.ref s3.heap.objs.size)) (EP X pins σ Q) X.xe { s3 with heap:=s3.heap.push { cls:=.type "slice",data:=.fields #[vl,vu,.none] } }
 exact tail_any (ops:=[.ref s3.heap.objs.size,v]) ht hT hg (by with_unfolding_all rfl)
def XB(xs:List V)(lo hi:Option Int):List V:=(xs.drop (HT.sIx xs.length 0 lo)).take (HT.sIx xs.length xs.length hi - HT.sIx xs.length 0 lo)
theorem Kz(xs:List V)(lo hi:Option Int):(XB xs lo hi).length<=xs.length:=by
 unfold XB
 rw[cm,cC]
 lia
end
def ixN(n:Nat)(i:Int):Option Nat:=if 0<=i then (if i < n then aa i.toNat else ai) else if -(n:Int)<=i then aa (i + n).toNat else ai
def atI{α:Type}(xs:List α)(i:Int):Option α:=(ixN xs.length i).bind λj=>xs[j]?
theorem ze5{i:Int}(h:ixN n i=aa j):seqIndex? i n=aa j/\j < n/\-(n:Int)<=i/\i < n:=by
 unfold ixN at h
 by_cases h0:0<=i
 ·rw[ap h0] at h
  by_cases h1:i < n
  ·rw[ap h1] at h
   have e:i.toNat=j:=ck h
   exact⟨by rw[seqIndex_of h0 h1,e],by lia,by lia,h1⟩
  ·rw[ak h1] at h;cases h
 ·rw[ak h0] at h
  by_cases h1:-(n:Int)<=i
  ·rw[ap h1] at h
   have e:(i + n).toNat=j:=ck h
   exact⟨by rw[seqIndex_neg (by lia) h1,e],by lia,h1,by lia⟩
  ·rw[ak h1] at h;cases h
theorem Jt{α:Type}{xs:List α}{i:Int}{v:α}(h:atI xs i=aa v):∃j,seqIndex? i xs.length=aa j/\xs[j]?=aa v/\j < xs.length/\-(xs.length:Int)<=i/\i < xs.length:=by
 unfold atI at h
 cases e:ixN xs.length i with
 | none=>rw[e] at h;cases h
 | some j =>
  rw[e] at h
  obtain⟨h1,h2,h3,h4⟩:=ze5 e
  exact⟨j,h1,h,h2,h3,h4⟩
theorem x8{α:Type}{xs:List α}{j:Nat}{v:α}(h:xs[j]?=aa v):atI xs (j:Int)=aa v:=by
 have hj:j < xs.length:=(bn.mp h).1
 have e:ixN xs.length (j:Int)=aa j:=by
  unfold ixN
  rw[ap (by lia),ap (by lia)];simp
 unfold atI;rw[e];exact h
def ze6(b:ay):Prop:=∀o i,subscripted b ao o i=operate [o,i] (getItem o i)
def IxR(X:Cx)(r:R2):Prop :=
 ∀(value slice:ay) (pins:List (ag × Obj)) (s:aj) (σ:St) (H:Hp) (x y:V) (v u:af) (Q:VK),Inv X pins σ H s->RelV x v->RelV y u->r x y H Q ->
  subscripted slice ao v u=operate [v,u] (getItem v u)->wpAny (model X.prog X.w) X.A (subscriptTail value slice v u) (EP X pins σ Q) X.xe s
def MtR(X:Cx)(id:String)(r:V->List V->Hp->VK->Prop):Prop :=
 ∀(pins:List (ag × Obj)) (s:aj) (σ:St) (H:Hp) (x:V) (xs:List V) (v:af) (us:List af) (Q:VK),Inv X pins σ H s->RelV x v->Vals xs us->r x xs H Q ->
  wpAny (model X.prog X.w) X.A (call (.builtin id) (v :: us)) (EP X pins σ Q) X.xe s
section
variable {X:Cx}{a b:ay}{ta tb:TE}{pos:Pos}
theorem zx{r:R2}(hr:IxR X r)(ha:PE X a ta)(hb:PE X b tb)(hs:ze6 b):PE X (.Subscript a b pos) (tOp r ta tb):=by
 intro pins s σ H Q I h
 exact ox (zgL ha hb I h λv u s2 x y H2 I2 rx ry q=>hr a b pins s2 σ H2 x y v u Q I2 rx ry q (hs _ _))
def y6(K:bz):R2:=λx y H Q=>∃p xs i v,x=.ref p/\y=.int i/\SqL K H p xs/\atI xs i=aa v/\Q v H
def zO(K:bz):R2:=λx y H Q=>∃p xs i v,x=.ref p/\y=.int i/\SqT K H p xs/\atI xs i=aa v/\Q v H
def Ju:R2:=λx y H Q=>∃z i c,x=.str z/\y=.int i/\z.length<=sizeLine/\atI z.cps.toList i=aa c/\Q (.str ⟨#[c]⟩) H
theorem yc:IxR X (y6 X.K):=by
 intro value slice pins s σ H x y v u Q I rx ry h hs
 obtain⟨p,xs,i,z,rfl,rfl,hq,he,q⟩:=h
 cases rx
 obtain⟨t,rfl⟩:=ry
 obtain⟨its,r,pl,hz⟩:=I.list hq
 obtain⟨j,h1,h2,h3,h4,h5⟩:=Jt he
 obtain⟨w,ew,rw'⟩:=r.get h2
 have hl:=r.length
 have hn:=Js
 have fin:EP X pins σ Q w s:=⟨z,H,I,rw',q⟩
 by_cases h0:0<=i
 ·have hj:i.toNat=j:=by
   rw[seqIndex_of h0 h5] at h1
   exact ck h1
  exact item_listR pl.isList h0 (by lia) (by rw[hj];simpa using ew) fin hs
 ·have hj:(i + (its.toArray.size:Int)).toNat=j:=by
   rw[seqIndex_neg (by lia) h4] at h1
   rw[bN,<-hl]
   exact ck h1
  exact mQ (x:=w) pl.isList.typeIs slot_list_getitem.lookup
   (wpAny_getItem_list_neg (Q:=λr s'=>r=w/\EP X pins σ Q r s') pl.isList (by lia) (by rw[bN] <;> lia) (by lia) (by rw[hj];simpa using ew) ⟨rfl,fin⟩) hs
theorem zC:IxR X (zO X.K):=by
 intro value slice pins s σ H x y v u Q I rx ry h hs
 obtain⟨p,xs,i,z,rfl,rfl,hq,he,q⟩:=h
 cases rx
 obtain⟨t,rfl⟩:=ry
 obtain⟨its,r,pl,hz⟩:=I.tuple hq
 obtain⟨j,h1,h2,h3,h4,h5⟩:=Jt he
 obtain⟨w,ew,rw'⟩:=r.get h2
 have hl:=r.length
 have hn:=Js
 have fin:EP X pins σ Q w s:=⟨z,H,I,rw',q⟩
 exact mQ (x:=w) pl.typeIs slot_tuple_getitem.lookup
  (getItem_tuple (j:=j) (Q:=λr s'=>r=w/\EP X pins σ Q r s') pl (by lia) (by lia) (by rw[bN,<-hl];exact h1) (by simpa using ew) ⟨rfl,fin⟩) hs
theorem Wd:IxR X Ju:=by
 intro value slice pins s σ H x y v u Q I rx ry h hs
 obtain⟨z,i,c,rfl,rfl,hz,he,q⟩:=h
 obtain⟨t,rfl⟩:=rx
 obtain⟨t',rfl⟩:=ry
 obtain⟨j,h1,h2,h3,h4,h5⟩:=Jt he
 have hl:z.cps.toList.length=z.length:=by simp[gL]
 rw[hl] at h1 h4 h5
 have hn:=Js
 exact tail_any (oy s z t) slot_str_getitem.lookup (getItem_str (c:=c) (by
  have e1:decide (i < -(2 ^ 63:Int))=ao:=decide_eq_false (by lia)
  have e2:decide (i >= 2 ^ 63)=ao:=decide_eq_false (by lia)
  rw[e1,e2,nU]) (by rw[h1];simpa using h2) ⟨.str ⟨#[c]⟩,H,I.tok _,⟨_,rfl⟩,q⟩) hs
theorem Jv(lo hi:Option Int)(n:Nat):(sliceBounds lo hi ai n).1=((HT.sIx n 0 lo:Nat):Int)/\(sliceBounds lo hi ai n).2.1=((HT.sIx n n hi:Nat):Int)/\(sliceBounds lo hi ai n).2.2=1:=by
 refine⟨?_,?_,rfl⟩
 ·cases lo with
  | none=>simp[sliceBounds,HT.sIx]
  | some i =>
   simp only[sliceBounds,HT.sIx,oP,show (1:Int) > 0 by decide,if_true]
   by_cases h:i < 0
   ·simp only[h,if_true] <;> lia
   ·simp only[h,if_false] <;> lia
 ·cases hi with
  | none=>simp[sliceBounds,HT.sIx]
  | some i =>
   simp only[sliceBounds,HT.sIx,oP,show (1:Int) > 0 by decide,if_true]
   by_cases h:i < 0
   ·simp only[h,if_true] <;> lia
   ·simp only[h,if_false] <;> lia
theorem Vj(its:List af)(lo hi:Option Int):slicePick its.toArray lo hi ai=((its.drop (HT.sIx its.length 0 lo)).take (HT.sIx its.length its.length hi - HT.sIx its.length 0 lo)).toArray:=by
 obtain⟨h1,h2,h3⟩:=Jv lo hi its.toArray.size
 unfold slicePick
 rw[h1,h2,h3]
 simp only[sliceRange_one,pick_run,bN] <;> rfl
def Yf(K:bz):V->Option Int->Option Int->Hp->VK->Prop:=λx lo hi H Q=>∃a xs,x=.ref a/\SqL K H a xs/\∀p,H p=ai->Q (.ref p) (upd H p (.lst (XB xs lo hi)))
theorem q8:SlR X (Yf X.K):=by
 intro pins s σ H x v vl vu lo hi sl Q I rx hs pl pu h
 obtain⟨a,xs,rfl,hx,q⟩:=h
 cases rx
 obtain⟨its,r,ht,hz⟩:=I.list hx
 have hlen:=r.length
 refine⟨"list",_,slot_list_getitem.lookup,ht.isList.typeIs,?_⟩
 refine wpAny_getItem_list_slice ht.isList hs pl pu .none (by simp) ?_ (by rw[bN] <;> lia)
 rw[Vj,<-hlen]
 refine⟨.ref s.heap.objs.size,_,I.laid (t':=s.toks) (o:=.lst (XB xs lo hi)) (λb ob q=>bo _ q) (bq _) ?_,rfl,q _ (I.hok.fresh (bq _))⟩
 exact⟨bR (Kz xs lo hi) hz,_,0,(r.drop (HT.sIx xs.length 0 lo)).take (HT.sIx xs.length xs.length hi - HT.sIx xs.length 0 lo),bH _ rfl⟩
def Yg:V->Bool
 | .non=>ae
 | .bl _=>ae
 | .int _=>ae
 | .str _=>ae
 | _=>ao
def eqV:V->V->Bool
 | .non,.non=>ae
 | .bl a,.bl b=>a == b
 | .bl a,.int b=>(if a then 1 else 0) == b
 | .int a,.bl b=>a == (if b then 1 else 0)
 | .int a,.int b=>a == b
 | .str a,.str b=>a == b
 | _,_=>ao
theorem zgM(ry:RelV y u)(rx:RelV x v)(fy:Yg y=ae)(fx:Yg x=ae):SeqAt.EqAt A s u v (eqV y x):=by
 cases y with
 | non =>
  cases ry
  cases x with
  | non=>cases rx;exact SeqAt.EqAt.same _
  | bl b=>cases rx;exact SeqAt.EqAt.none_bool b
  | int b=>obtain⟨t,rfl⟩:=rx;exact SeqAt.EqAt.none_int b t
  | str b=>obtain⟨t,rfl⟩:=rx;exact SeqAt.EqAt.none_str b t
  | _=>exact absurd (show ao=ae from fx) bO
 | bl a =>
  cases ry
  cases x with
  | non=>cases rx;exact SeqAt.EqAt.bool_none a
  | bl b=>cases rx;exact SeqAt.EqAt.bool_bool a b
  | int b=>obtain⟨t,rfl⟩:=rx;exact SeqAt.EqAt.bool_int a b t
  | str b=>obtain⟨t,rfl⟩:=rx;exact SeqAt.EqAt.bool_str a b t
  | _=>exact absurd (show ao=ae from fx) bO
 | int a =>
  obtain⟨t',rfl⟩:=ry
  cases x with
  | non=>cases rx;exact SeqAt.EqAt.int_none a t'
  | bl b=>cases rx;exact SeqAt.EqAt.int_bool a t' b
  | int b=>obtain⟨t,rfl⟩:=rx;exact lP a t' b t
  | str b=>obtain⟨t,rfl⟩:=rx;exact nQ a t' b t
  | _=>exact absurd (show ao=ae from fx) bO
 | str a =>
  obtain⟨t',rfl⟩:=ry
  cases x with
  | non=>cases rx;exact SeqAt.EqAt.str_none a t'
  | bl b=>cases rx;exact SeqAt.EqAt.str_bool a t' b
  | int b=>obtain⟨t,rfl⟩:=rx;exact nR a t' b t
  | str b=>obtain⟨t,rfl⟩:=rx;exact lQ a t' b t
  | _=>exact absurd (show ao=ae from fx) bO
 | _=>exact absurd (show ao=ae from fy) bO
def eqU(x:V)(u:af):Bool:=match u with
 | .none=>eqV .non x
 | .bool b=>eqV (.bl b) x
 | .int i _=>eqV (.int i) x
 | .str z _=>eqV (.str z) x
 | _=>ao
theorem zcX(r:RelV y u)(f:Yg y=ae):eqU x u=eqV y x:=by
 cases y with
 | non=>cases r;rfl
 | bl b=>cases r;rfl
 | int i=>obtain⟨t,rfl⟩:=r;rfl
 | str z=>obtain⟨t,rfl⟩:=r;rfl
 | _=>exact absurd (show ao=ae from f) bO
theorem Jw{x:V}:∀ {xs:List V} {us:List af},Vals xs us->xs.all Yg=ae->us.any (eqU x)=xs.any λy=>eqV y x
 | _,_,.nil,_=>rfl
 | y :: xs,u :: us,.cons r t,f=>by
  rw[gh,b9] at f
  rw[iR,iR,zcX r f.1,Jw t f.2]
theorem We{A:av}{s:aj}{x:V}{v:af}(rx:RelV x v)(fx:Yg x=ae):∀ {xs:List V} {us:List af},Vals xs us->xs.all Yg=ae->∀u∈us,SeqAt.EqAt A s u v (eqU x u)
 | _,_,.nil,_=>λu hu=>by cases hu
 | y :: xs,u :: us,.cons r t,f=>λu' hu=>by
  rw[gh,b9] at f
  rcases bS.mp hu with rfl | hu
  ·rw[zcX r f.1];exact zgM r rx f.1 fx
  ·exact We rx fx t f.2 u' hu
def inV(x:V)(xs:List V):Bool:=xs.any λy=>eqV y x
def rIn(K:bz)(neg:Bool):R2:=λx y H Q=>∃p xs,y=.ref p/\(SqL K H p xs\/SqT K H p xs)/\Yg x=ae/\xs.all Yg=ae/\Q (.bl (if neg then !inV x xs else inV x xs)) H
theorem zb5:OpR X (compareOp .In) (rIn X.K ao):=by
 intro pins s σ H x y v u Q I rx ry h
 obtain⟨p,xs,rfl,hq,fx,fs,q⟩:=h
 cases ry
 rcases hq with hq | hq
 ·obtain⟨its,r,pl,hz⟩:=I.list hq
  refine SeqAt.in_listAt (eqU x) pl.isList (λw hw=>We rx fx r fs w (by simpa using hw)) ⟨.bl _,H,I,rfl,?_⟩
  rw[show its.toArray.any (eqU x)=its.any (eqU x) by simp,Jw r fs]
  exact q
 ·obtain⟨its,r,pl,hz⟩:=I.tuple hq
  refine SeqAt.in_tupleAt (eqU x) pl (λw hw=>We rx fx r fs w (by simpa using hw)) ⟨.bl _,H,I,rfl,?_⟩
  rw[show its.toArray.any (eqU x)=its.any (eqU x) by simp,Jw r fs]
  exact q
theorem vG:kQ X (.type "list") (λxs H Q=>∃p ys,xs=[.ref p]/\(SqL X.K H p ys\/SqT X.K H p ys)/\∀l,H l=ai->Q (.ref l) (upd H l (.lst ys))):=by
 intro pins s σ H xs us Q I r h
 obtain⟨p,ys,rfl,hq,q⟩:=h
 obtain⟨u,rfl,rx⟩:=Zr r
 cases rx
 have fin:∀(its:List af),Vals ys its->ys.length<=sizeLine->∀(h':aw) (c':Nat),(∀b o',s.heap.get? b=aa o'->h'.get? b=aa o') ->
   h'.get? s.heap.objs.size=aa { cls:=.type "list",dict:=ai,data:=.seq its.toArray c',slots:=#[] }->EP X pins σ Q (.ref s.heap.objs.size) { s with heap:=h' }:=λits r' hz h' c' kp e =>
  ⟨.ref s.heap.objs.size,_,I.laid (t':=s.toks) kp (bq _) (show ObjOk X.prog X.w _ h' _ (.lst ys) from ⟨hz,its,c',r',e⟩),rfl,q _ (I.hok.fresh (bq _))⟩
 rcases hq with hq | hq
 ·obtain⟨its,r',pl,hz⟩:=I.list hq
  have hlen:=r'.length
  obtain⟨o,ho,hc,n,hd⟩:=pl.isList
  exact call_list_seq p (.inl rfl) ho hc hd (λh' c' kp e=>fin its r' hz h' c' kp e) (by simp only[bN] <;> lia)
 ·obtain⟨its,r',pl,hz⟩:=I.tuple hq
  have hlen:=r'.length
  obtain⟨o,ho,hc,n,hd⟩:=pl
  exact call_list_seq p (.inr rfl) ho hc hd (λh' c' kp e=>fin its r' hz h' c' kp e) (by simp only[bN] <;> lia)
theorem Zs:kQ X (.type "tuple") (λxs H Q=>∃p ys,xs=[.ref p]/\((SqL X.K H p ys/\∀l,H l=ai->Q (.ref l) (upd H l (.tup ys)))\/(SqT X.K H p ys/\Q (.ref p) H))):=by
 intro pins s σ H xs us Q I r h
 obtain⟨p,ys,rfl,h⟩:=h
 obtain⟨u,rfl,rx⟩:=Zr r
 cases rx
 rcases h with ⟨hq,q⟩ | ⟨hq,q⟩
 ·obtain⟨its,r',pl,hz⟩:=I.list hq
  have hlen:=r'.length
  refine call_tuple_list pl.isList (λh' kp=>?_) (by simp only[bN] <;> lia)
  have I1:Inv X pins σ H { s with heap:=h' }:=I.kept (t':=s.toks) kp
  have I2:Inv X pins σ (upd H h'.objs.size (.tup ys)) { s with heap:=h'.push { cls:=.type "tuple",data:=.seq its.toArray } } :=
   I1.laid (t':=s.toks) (λb o e=>bo _ e) (bq _) (show ObjOk X.prog X.w _ _ _ (.tup ys) from ⟨hz,its,r',IsTup.new _ _⟩)
  exact⟨.ref h'.objs.size,_,I2,rfl,q _ (I1.hok.fresh (bq _))⟩
 ·obtain⟨its,r',pl,hz⟩:=I.tuple hq
  exact call_tuple_same pl ⟨.ref p,H,I,rfl,q⟩
def tyV(K:bz)(T:String)(x:V)(H:Hp):Prop:=match x with
 | .str _=>T="str"
 | .int _=>T="int"
 | .ref p=>(T="list"/\∃xs,SqL K H p xs)\/(T="tuple"/\∃o,K.lookup p=aa o/\o.cls=.type "tuple"/\o.dict=ai) \/
   (T="dict"/\((∃kvs,H p=aa (.dK kvs))\/∃kvs,H p=aa (.dT kvs)))\/(T="set"/\∃S n,H p=aa (.set S n))
 | _=>False
theorem zcY{σ:St}{H:Hp}{s:aj}{T:String}{x:V}{v:af}(I:Inv X pins σ H s)(r:RelV x v)(ty:tyV X.K T x H) :
  s.TypeIs v T/\∀a,v=.ref a->∃ob,s.heap.get? a=aa ob/\ob.dict=ai:=by
 cases x with
 | str z =>
  obtain⟨t,rfl⟩:=r
  cases (show T="str" from ty)
  exact⟨oy s z t,λ_ e=>nomatch e⟩
 | int i =>
  obtain⟨t,rfl⟩:=r
  cases (show T="int" from ty)
  exact⟨typeIs_int s i t,λ_ e=>nomatch e⟩
 | ref p =>
  cases r
  rcases ty with ⟨rfl,xs,hq⟩ | ⟨rfl,o,hk,hc,hd⟩ | ⟨rfl,hk⟩ | ⟨rfl,S,n,hk⟩
  ·obtain⟨its,_,pl,_⟩:=I.list hq
   refine⟨pl.isList.typeIs,λa e=>?_⟩
   cases e
   obtain⟨o,n,e,c,hd,_⟩:=pl
   exact⟨o,e,hd⟩
  ·refine⟨⟨o,I.kIn p o hk,hc⟩,λa e=>?_⟩
   cases e
   exact⟨o,I.kIn _ o hk,hd⟩
  ·have z:∃o,s.heap.get? p=aa o/\o.ExactDict:=by
    rcases hk with ⟨kvs,hk⟩ | ⟨kvs,hk⟩
    ·obtain⟨_,_,_,_,o,_,_,e,ex,_⟩:=I.hok p _ hk
     exact⟨o,e,ex⟩
    ·obtain⟨_,_,_,_,o,_,_,e,ex,_⟩:=I.hok p _ hk
     exact⟨o,e,ex⟩
   obtain⟨o,e,ex⟩:=z
   refine⟨⟨o,e,ex.1⟩,λa e2=>?_⟩
   cases e2
   exact⟨o,e,ex.2.1⟩
  ·obtain⟨o,_,_,_,e,ex,_⟩:=I.hok p _ hk
   refine⟨⟨o,e,ex.1⟩,λa e2=>?_⟩
   cases e2
   exact⟨o,e,ex.2.1⟩
 | _=>exact cJ ty
def zb6(K:bz)(T:String)(r:V->List V->Hp->VK->Prop)(to:TE):TE:=λσ H Q=>to σ H λx H1=>tyV K T x H1/\r x [] H1 Q
def tBM(K:bz)(T:String)(r:V->List V->Hp->VK->Prop)(to:TE)(t:TA):TE:=λσ H Q=>to σ H λx H1=>tyV K T x H1/\t σ H1 λxs H2=>r x xs H2 Q
variable {o e:ay}{es:List ay}{to:TE}{t:TA}{name:Str}{apos cpos:Pos}{T id:String}{r:V->List V->Hp->VK->Prop}
theorem zak(pa:PlainAttrs T)(slot:Slot T name id)(hty:typeOf (.builtin id)=pure (.type "method_descriptor"))(hm:MtR X id r)(ho:PE X o to)
  (hbase:attributeBase o name X.env (eval o X.env)=eval o X.env:=by rfl) (hline:(apos.endLine == cpos.line)=ae:=by rfl):PE X (.Call (.Attribute o name apos) [] [] cpos) (zb6 X.K T r to):=by
 intro pins s σ H Q I h
 refine my hbase hline (thn (ho pins s σ H _ I h) λv s1 ⟨x,H1,I1,r1,ty,q1⟩=>?_)
 obtain⟨h1,h2⟩:=zcY I1 r1 ty
 exact⟨T,id,pa,slot,hty,h1,h2,fK rfl (nJ (hm pins s1 σ H1 x [] v [] Q I1 r1 .nil q1))⟩
theorem qg(pa:PlainAttrs T)(slot:Slot T name id)(hty:typeOf (.builtin id)=pure (.type "method_descriptor"))(hm:MtR X id r)(ho:PE X o to)(ha:PA X (e :: es) t)
  (hbase:attributeBase o name X.env (eval o X.env)=eval o X.env:=by rfl)
  (hfew:((backTo cpos (starEach (e :: es) X.env)).all (λx=>!x.1) && (backToKw cpos (keywordEach [] X.env)).all (λx=>x.1.isSome)
   && decide ((e :: es).length + ([]:List Keyword).length + (if ([]:List Keyword).isEmpty then 0 else 1) < 30))=ae:=by rfl)
  (hline:(apos.endLine == cpos.line)=ae:=by rfl) (hs:starEach (e :: es) X.env=(ao,eval e X.env) :: starEach es X.env:=by rfl) (hplain:(backTo cpos (starEach es X.env)).any (·.1)=ao:=by rfl) :
  PE X (.Call (.Attribute o name apos) (e :: es) [] cpos) (tBM X.K T r to t):=by
 intro pins s σ H Q I h
 refine wpAny_Call_method_late hbase hfew hline rfl (thn (ho pins s σ H _ I h) λv s1 ⟨x,H1,I1,r1,ty,q1⟩=>?_)
 obtain⟨h1,h2⟩:=zcY I1 r1 ty
 refine⟨T,id,pa,slot,hty,h1,h2,?_⟩
 have hA:=ha cpos pins s1 σ H1 _ I1 q1
 rw[hs] at hA ⊢
 refine fK (by show (ao || (backTo cpos (starEach es X.env)).any (·.1))=ao;rw[hplain] <;> rfl) (iN ?_)
 exact thn hA λus s2 ⟨vs,H2,I2,r2,q2⟩=>hm pins s2 σ H2 x vs v us Q I2 r1 r2 q2
end
def MtM(X:Cx)(id:String)(r:V->List V->Hp->VK->Prop):Prop :=
 ∀(pins:List (ag × Obj)) (s:aj) (σ:St) (H:Hp) (x:V) (xs:List V) (v:af) (us:List af) (Q:VK),Inv X pins σ H s->RelV x v->Vals xs us->r x xs H Q ->
  wpAny (model X.prog X.w) X.A (call (.builtin id) (v :: us)) (EP X pins σ Q) X.xe s
theorem Vals.one:∀ {x:V} {us:List af},Vals [x] us->∃u,us=[u]/\RelV x u
 | _,_,.cons r .nil=>⟨_,rfl,r⟩
theorem Vals.zero:∀ {us:List af},Vals [] us->us=[]
 | _,.nil=>rfl
theorem Vals.dropLast(h:Vals xs us):Vals xs.dropLast us.dropLast:=by
 induction h with
 | nil=>exact .nil
 | cons r t ih =>
  cases t with
  | nil=>exact .nil
  | cons q t'=>exact .cons r ih
theorem zal{α:Type}(l:List α):l.eraseIdx (l.length - 1)=l.dropLast:=by
 induction l with
 | nil=>rfl
 | cons a r ih =>
  cases r with
  | nil=>rfl
  | cons b r =>
   have e:(a :: b :: r).length - 1=((b :: r).length - 1) + 1:=by
    have h1:(a :: b :: r).length=r.length + 2:=rfl
    have h2:(b :: r).length=r.length + 1:=rfl
    lia
   rw[e,List.eraseIdx_cons_succ,ih]
   all_goals rfl
section
variable {X:Cx}{pins:List (ag × Obj)}{σ:St}{H:Hp}{s:aj}{l b:ag}{xs ys zs:List V}
theorem Inv.lset{its its':List af}{n:Nat}{f:Array af->Array af}(I:Inv X pins σ H s)(hH:H l=aa (.lst xs))
  (e:s.heap.get? l=aa { cls:=.type "list",data:=.seq its.toArray n }) (hf:f its.toArray=its'.toArray) (hv:Vals ys its') (hz:ys.length<=sizeLine) :
  Inv X pins σ (upd H l (.lst ys)) { s with heap:=s.heap.update l (dD f),toks:=t' }:=by
 have q:=PySem.IsL.update e f
 rw[hf] at q
 refine I.write (x:=l) (e:=l) (by rw[hH];exact trivial) (.inl rfl) (λb' u hb hu=>(dN s.heap (dD f) (cH hb)).trans hu) ⟨_,q⟩ ?_
 exact⟨hz,its',_,hv,q⟩
theorem Inv.lnew(I:Inv X pins σ H s)(hv:Vals ys its)(hz:ys.length<=sizeLine) :
  Inv X pins σ (upd H s.heap.objs.size (.lst ys)) { s with heap:=s.heap.push { cls:=.type "list",data:=.seq its.toArray },toks:=t' }:=
 I.laid (λ_ _ q=>bo _ q) (bq _) ⟨hz,its,0,hv,bH _ rfl⟩
theorem Inv.fresh(I:Inv X pins σ H s):H s.heap.objs.size=ai:=I.hok.fresh (bq _)
theorem Inv.lstM(I:Inv X pins σ H s)(hH:H l=aa (.lst xs)):xs.length<=sizeLine/\∃(its:List af) (n:Nat),Vals xs its/\xs.length=its.length/\s.heap.get? l=aa { cls:=.type "list",data:=.seq its.toArray n }:=by
 obtain⟨z,its,n,r,e⟩:=I.hok l _ hH
 exact⟨z,its,n,r,r.length,e⟩
theorem zcZ(h:n<=sizeLine):gM n=ao:=by
 unfold gM
 exact decide_eq_false (by lia)
end
section
variable {X:Cx}
def v5:V->List V->Hp->VK->Prop:=λx vs H Q=>∃l xs y,x=.ref l/\vs=[y]/\H l=aa (.lst xs)/\xs.length < sizeLine/\Q .non (upd H l (.lst (xs ++ [y])))
theorem xc:MtM X "list.append" v5:=by
 intro pins s σ H x vs v us Q I rx rv h
 obtain⟨l,xs,y,rfl,rfl,hH,hz,q⟩:=h
 cases rx
 obtain⟨u,rfl,ru⟩:=rv.one
 obtain⟨z,its,n,r,hl,e⟩:=I.lstM hH
 refine l7 F.slot_list_append ⟨_,e,rfl⟩ F.entry_list_append (F.args_list_append_2 _ _) (PySem.list_append l its.toArray n u (by rw[bN];lia)) ⟨e,?_⟩
 refine⟨.non,_,I.lset (its':=its ++ [u]) hH e (by simp) (r.append (.cons ru .nil)) ?_,rfl,q⟩
 rw[bt,dE]
 lia
def zbe:V->List V->Hp->VK->Prop:=λx vs H Q=>∃l b xs zs,x=.ref l/\vs=[.ref b]/\H l=aa (.lst xs)/\H b=aa (.lst zs)/\xs.length + zs.length<=sizeLine/\Q .non (upd H l (.lst (xs ++ zs)))
theorem zb7:MtM X "list.extend" zbe:=by
 intro pins s σ H x vs v us Q I rx rv h
 obtain⟨l,b,xs,zs,rfl,rfl,hH,hB,hz,q⟩:=h
 cases rx
 obtain⟨u,rfl,ru⟩:=rv.one
 cases ru
 obtain⟨z,its,n,r,hl,e⟩:=I.lstM hH
 obtain⟨z2,its2,n2,r2,hl2,e2⟩:=I.lstM hB
 have hsz:its.toArray.size + its2.toArray.size<=sizeLine:=by rw[bN,bN];lia
 have hlong:¬ (!its.toArray.isEmpty && gM (its.toArray.size + its2.toArray.size))=ae:=by
  rw[zcZ hsz,Bool.and_false]
  exact bO
 refine l7 F.slot_list_extend ⟨_,e,rfl⟩ F.entry_list_extend (F.args_list_extend_2 _ _)
  (AutoSeq1.list_extend_list_list_0 l its.toArray n b its2.toArray n2 hlong (by rw[bN];lia) (by lia)) ⟨e,e2,?_⟩
 refine⟨.non,_,I.lset (its':=its ++ its2) hH e (by simp) (r.append r2) ?_,rfl,q⟩
 rw[bt]
 lia
def ze7:V->List V->Hp->VK->Prop:=λx vs H Q=>∃l xs y,x=.ref l/\vs=[]/\H l=aa (.lst xs)/\xs[xs.length - 1]?=aa y/\Q y (upd H l (.lst xs.dropLast))
theorem zam:MtM X "list.pop" ze7:=by
 intro pins s σ H x vs v us Q I rx rv h
 obtain⟨l,xs,y,rfl,rfl,hH,hy,q⟩:=h
 cases rx
 have hus:=rv.zero
 subst hus
 obtain⟨z,its,n,r,hl,e⟩:=I.lstM hH
 obtain⟨u,hu,ru⟩:=r.get hy
 have hy':its.toArray[its.toArray.size - 1]?=aa u:=by
  show its.toArray[its.length - 1]?=aa u
  rw[<-dF,<-hl]
  exact hu
 refine l7 F.slot_list_pop ⟨_,e,rfl⟩ F.entry_list_pop (F.args_list_pop_1 _) (MeetsSeq.list_pop_last l its.toArray n u hy' (by rw[bN];lia)) ⟨e,?_⟩
 refine⟨y,_,I.lset (its':=its.dropLast) hH e ?_ r.dropLast ?_,ru,q⟩
 ·show its.toArray.eraseIdxIfInBounds (its.toArray.size - 1)=its.dropLast.toArray
  rw[bN,ie,zal]
 ·rw[List.length_dropLast]
  lia
def j7:R2:=λx y H Q=>∃l b xs zs,x=.ref l/\y=.ref b/\H l=aa (.lst xs)/\H b=aa (.lst zs)/\xs.length + zs.length<=sizeLine/\∀p,H p=ai->Q (.ref p) (upd H p (.lst (xs ++ zs)))
theorem j8:OpR X (binaryOp .Add) j7:=by
 intro pins s σ H x y v u Q I rx ry h
 obtain⟨l,b,xs,zs,rfl,rfl,hH,hB,hz,q⟩:=h
 cases rx
 cases ry
 obtain⟨z,its,n,r,hl,e⟩:=I.lstM hH
 obtain⟨z2,its2,n2,r2,hl2,e2⟩:=I.lstM hB
 refine PySem.P.add_list e e2 ?_ (by rw[bN,bN];lia)
 have ea:its.toArray ++ its2.toArray=(its ++ its2).toArray:=by simp
 rw[ea]
 exact⟨.ref _,_,I.lnew (t':=s.toks) (r.append r2) (by rw[bt];lia),rfl,q _ I.fresh⟩
end
section
variable {prog:aq}{w:au}{A:av}{E:af->aj->Prop}{s:aj}
set_option maxRecDepth 100000 in
end
section
variable {κ:Type} [DecidableEq κ]
def yH(kvs:List (κ × V))(k:κ):Option V:=(kvs.find? λkv=>decide (kv.1=k)).map (·.2)
def yz(kvs:List (κ × V))(k:κ)(v:V):List (κ × V) :=
 if (kvs.any λkv=>decide (kv.1=k))=ae then kvs.map (λkv=>if kv.1=k then (kv.1,v) else kv) else kvs ++ [(k,v)]
def zbf(kvs:List (κ × V))(k:κ):List (κ × V):=kvs.filter λkv=>decide (kv.1≠k)
theorem Wf :yH ([]:List (κ × V)) k=ai:=rfl
theorem y7{p:κ × V}{r:List (κ × V)}(e:p.1=k):yH (p :: r) k=aa p.2:=by simp[yH,fT,e]
theorem y8{p:κ × V}{r:List (κ × V)}(e:¬ p.1=k):yH (p :: r) k=yH r k:=by simp[yH,fT,e]
theorem wV(k:κ):∀kvs:List (κ × V),(kvs.any λkv=>decide (kv.1=k))=(yH kvs k).isSome
 | []=>rfl
 | p :: r=>by
  rw[iR]
  by_cases e:p.1=k
  ·simp only[y7 e,decide_eq_true e,Bool.true_or,Option.isSome_some]
  ·rw[y8 e,decide_eq_false e,Bool.false_or];exact wV k r
theorem KA(k j:κ)(y:V):∀kvs:List (κ × V),yH (kvs.map λkv=>if kv.1=k then (kv.1,y) else kv) j=(yH kvs j).map λx=>if j=k then y else x
 | []=>rfl
 | p :: r=>by
  have ih:=KA k j y r
  rw[b7]
  by_cases h:p.1=k
  ·rw[ap h]
   by_cases e:p.1=j
   ·rw[y7 (p:=(p.1,y)) e,y7 e,i7,ap (e.symm.trans h)]
   ·rw[y8 (p:=(p.1,y)) e,y8 e,ih]
  ·rw[ak h]
   by_cases e:p.1=j
   ·rw[y7 (p:=p) e,y7 e,i7,ak (λz=>h (e.trans z))]
   ·rw[y8 (p:=p) e,y8 e,ih]
theorem VV(k j:κ)(y:V):∀kvs:List (κ × V),yH kvs k=ai->yH (kvs ++ [(k,y)]) j=if j=k then aa y else yH kvs j
 | [],_=>by
  by_cases e:k=j
  ·rw[ap e.symm];exact y7 (p:=(k,y)) e
  ·rw[ak (λz=>e z.symm)];exact y8 (p:=(k,y)) e
 | p :: r,hn=>by
  rw[bP]
  have hk:¬ p.1=k:=λz=>by rw[y7 z] at hn;cases hn
  rw[y8 hk] at hn
  have ih:=VV k j y r hn
  by_cases e:p.1=j
  ·rw[y7 e,y7 e,ak (λz=>hk (e.trans z))]
  ·rw[y8 e,y8 e,ih]
theorem jJ(kvs:List (κ × V))(k j:κ)(y:V):yH (yz kvs k y) j=if j=k then aa y else yH kvs j:=by
 unfold yz
 by_cases a:(kvs.any λkv=>decide (kv.1=k))=ae
 ·rw[ap a,KA]
  rw[wV] at a
  by_cases e:j=k
  ·obtain⟨x,hx⟩:=eX.mp a
   rw[ap e,e,hx,i7,ap rfl]
  ·rw[ak e]
   cases yH kvs j with
   | none=>rfl
   | some x=>rw[i7,ak e]
 ·rw[ak a]
  refine VV k j y kvs ?_
  rw[wV] at a
  cases q:yH kvs k with
  | none=>rfl
  | some x=>rw[q] at a;exact(a rfl).elim
theorem yY(kvs:List (κ × V))(k:κ)(v:V):(yz kvs k v).length<=kvs.length + 1:=by
 unfold yz
 split
 ·rw[bu];lia
 ·rw[bt,cA,m3];lia
theorem Wg{kvs:List (κ × V)}(v:V)(h:yH kvs k=ai):yz kvs k v=kvs ++ [(k,v)]:=by
 unfold yz
 rw[wV,h]
 exact ak (by decide)
theorem RelO.isSome_eq(r:RelO o u):o.isSome=u.isSome:=by
 cases o with
 | none=>cases u with
  | none=>rfl
  | some _=>exact(show False from r).elim
 | some _=>cases u with
  | none=>exact(show False from r).elim
  | some _=>rfl
theorem RelO.getD(r:RelO o u)(rd:RelV d d'):RelV (o.getD d) (u.getD d'):=by
 cases o with
 | none=>cases u with
  | none=>exact rd
  | some _=>exact(show False from r).elim
 | some _=>cases u with
  | none=>exact(show False from r).elim
  | some _=>exact r
theorem KV.val(r:KV kvs vs)(k:κ):RelO (yH kvs k) (valueAt vs k):=by
 unfold KV at r
 induction r with
 | nil=>exact eW
 | @cons p q ps qs h t ih =>
  obtain⟨h1,h2⟩:=h
  by_cases e:p.1=k
  ·have e':q.1=k:=h1.symm.trans e
   have b:valueAt (q :: qs) k=aa q.2:=by simp[valueAt,fT,e']
   rw[y7 e,b];exact h2
  ·have e':¬ q.1=k:=λz=>e (h1.trans z)
   have b:valueAt (q :: qs) k=valueAt qs k:=by simp[valueAt,fT,e']
   rw[y8 e,b];exact ih
theorem KV.any(r:KV kvs vs)(k:κ):(kvs.any λkv=>decide (kv.1=k))=vs.any λkv=>decide (kv.1=k):=by
 unfold KV at r
 induction r with
 | nil=>rfl
 | cons h t ih=>rw[iR,iR,ih,h.1]
theorem KV.repl(r:KV kvs vs)(k:κ)(ry:RelV y u) :
  KV (kvs.map λkv=>if kv.1=k then (kv.1,y) else kv) (vs.map λkv=>if kv.1=k then (kv.1,u) else kv):=by
 unfold KV at r ⊢
 induction r with
 | nil=>exact .nil
 | @cons p q ps qs h t ih =>
  rw[b7,b7]
  refine .cons ?_ ih
  obtain⟨h1,h2⟩:=h
  by_cases e:p.1=k
  ·rw[ap e,ap (h1.symm.trans e)];exact⟨h1,ry⟩
  ·rw[ak e,ak (λz=>e (h1.trans z))];exact⟨h1,h2⟩
theorem KV.put(r:KV kvs vs)(k:κ)(ry:RelV y u):KV (yz kvs k y) (stored vs k u):=by
 unfold yz stored
 rw[r.any k]
 by_cases e:(vs.any λkv=>decide (kv.1=k))=ae
 ·rw[ap e,ap e];exact r.repl k ry
 ·rw[ak e,ak e];exact Paired.snoc r ⟨rfl,ry⟩
theorem KV.length{vs:List (κ × af)}(r:KV kvs vs):kvs.length=vs.length:=bM r
end
theorem VW(r:RelV (kV k) u):(yQ P w).is k u=ae:=by
 cases k with
 | inl i=>obtain⟨t,e⟩:=(show ∃t,u=iy i t from r);subst e;exact Kr P w i t
 | inr x=>obtain⟨t,e⟩:=(show ∃t,u=iW x t from r);subst e;exact Ks P w x t
theorem YK{P:aq}{w:au}:∀ {ks:List Key} {us:List af},Vals (ks.map kV) us->ItemsAre (yQ P w) ks us
 | [],_,r=>by rw[List.map_nil] at r;cases r;exact .nil
 | k :: ks,_,r=>by
  rw[b7] at r
  cases r with
  | cons h t=>exact .cons (VW h) (YK t)
abbrev KT(H:Hp):List (List Key × V)->List (List Key × ag × af)->Prop:=Paired λp q=>p.1=q.1/\H q.2.1=aa (.tup (p.1.map kV))/\RelV p.2 q.2.2
theorem KT.val{H:Hp}{kvs:List (List Key × V)}{xs:List (List Key × ag × af)}(r:KT H kvs xs)(k:List Key):RelO (yH kvs k) ((atKey xs k).map (·.2)):=by
 induction r with
 | nil=>exact eW
 | @cons p q ps qs h t ih =>
  obtain⟨h1,_,h2⟩:=h
  by_cases e:p.1=k
  ·have e':q.1=k:=h1.symm.trans e
   have b:atKey (q :: qs) k=aa q.2:=by simp[atKey,fT,e']
   rw[y7 e,b];exact h2
  ·have e':¬ q.1=k:=λz=>e (h1.trans z)
   have b:atKey (q :: qs) k=atKey qs k:=by simp[atKey,fT,e']
   rw[y8 e,b];exact ih
theorem KT.repl{H:Hp}(r:KT H kvs xs)(k:List Key)(ry:RelV y u) :
  KT H (kvs.map λkv=>if kv.1=k then (kv.1,y) else kv) (xs.map (putAt k u)):=by
 induction r with
 | nil=>exact .nil
 | @cons p q ps qs h t ih =>
  rw[b7,b7]
  refine .cons ?_ ih
  obtain⟨h1,h2,h3⟩:=h
  unfold putAt
  by_cases e:p.1=k
  ·rw[ap e,ap (h1.symm.trans e)];exact⟨h1,h2,ry⟩
  ·rw[ak e,ak (λz=>e (h1.trans z))];exact⟨h1,h2,h3⟩
theorem KT.put{H:Hp}(r:KT H kvs xs)(k:List Key)(hb:H b=aa (.tup (k.map kV)))(ry:RelV y u) :
  KT H (yz kvs k y) (storedH xs k b u):=by
 have e:(kvs.any λkv=>decide (kv.1=k))=(atKey xs k).isSome:=by
  rw[wV,(r.val k).isSome_eq,l8]
 unfold yz storedH
 rw[e]
 by_cases q:(atKey xs k).isSome=ae
 ·rw[ap q,ap q];exact r.repl k ry
 ·rw[ak q,ak q];exact Paired.snoc r ⟨rfl,hb,ry⟩
theorem KT.keeps{H H':Hp}(r:KT H kvs xs)(ht:∀b ys,H b=aa (.tup ys)->H' b=aa (.tup ys)):KT H' kvs xs:=
 Paired.mapP r λ_ _ z=>⟨z.1,ht _ _ z.2.1,z.2.2⟩
section
variable {P:aq}{w:au}{H:Hp}{h:aw}{a:ag}
theorem zgn(ok:HOk P w H h)(e:Rd H a u):ObjOk P w H h a u:=e.ok ok
theorem Wh(ok:HOk P w H h)(e:Rd H a (.dK kvs)):kvs.length<=sizeLine/\(a == sysModules)=ao/\∃vs,KV kvs vs/\h.DictOf (yQ P w) a vs:=
 show ObjOk P w H h a (.dK kvs) from zgn ok e
theorem zhH(ok:HOk P w H h)(e:H a=aa (.dK kvs)):kvs.length<=sizeLine/\(a == sysModules)=ao/\∃vs,KV kvs vs/\h.DictOf (yQ P w) a vs:=Wh ok (.inl e)
theorem ZG(ok:HOk P w H h)(e:H a=aa (.tup (ks.map kV))):(tupleKind (yQ P w)).is h ks a:=by
 obtain⟨_,its,r,o,h1,h2,n,h3⟩:=(show ObjOk P w H h a (.tup (ks.map kV)) from ok a _ e)
 exact⟨o,its.toArray,n,h1,h2,h3,by simpa using YK r⟩
theorem Wi(ok:HOk P w H h)(e:Rd H a (.dT kvs)):kvs.length<=sizeLine/\(a == sysModules)=ao /\
  ∃xs,KT H kvs xs/\h.DictOfH (tupleKind (yQ P w)) a xs:=by
 obtain⟨z,y,xs,r,o,es,ep,h1,h2,h3,h4,h5⟩:=(show ObjOk P w H h a (.dT kvs) from zgn ok e)
 refine⟨z,y,xs,r,o,es,ep,h1,h2,h3,h4,λx hx=>?_,h5⟩
 have all:∀ {l:List (List Key × V)} {m:List (List Key × ag × af)},KT H l m->∀x∈m,(tupleKind (yQ P w)).is h x.1 x.2.1:=by
  intro l m q
  induction q with
  | nil=>intro x hx;exact nomatch hx
  | @cons p q ps qs hq t ih =>
   intro x hx
   rcases bS.mp hx with e | hx
   ·subst e
    exact ZG ok (by rw[<-hq.1];exact hq.2.1)
   ·exact ih x hx
 exact all r x hx
theorem zgo(ok:HOk P w H h)(e:H a=aa (.dT kvs)):kvs.length<=sizeLine/\(a == sysModules)=ao /\
  ∃xs,KT H kvs xs/\h.DictOfH (tupleKind (yQ P w)) a xs:=Wi ok (.inl e)
end
def DGet(H:Hp)(a:ag)(y:V)(r:Option V):Prop :=
 (∃kvs k,Rd H a (.dK kvs)/\y=kV k/\r=yH kvs k)\/∃kvs k b,Rd H a (.dT kvs)/\y=.ref b/\H b=aa (.tup (k.map kV))/\r=yH kvs k
def DPut(H:Hp)(a:ag)(y v:V)(H':Hp):Prop :=
 (∃kvs k,H a=aa (.dK kvs)/\y=kV k/\kvs.length < sizeLine/\H'=upd H a (.dK (yz kvs k v))) \/
 ∃kvs k b,H a=aa (.dT kvs)/\y=.ref b/\H b=aa (.tup (k.map kV))/\kvs.length < sizeLine/\H'=upd H a (.dT (yz kvs k v))
theorem DGet.k{H:Hp}{kvs:List (Key × V)}{k:Key}(e:H a=aa (.dK kvs)):DGet H a (kV k) (yH kvs k):=.inl ⟨kvs,k,.inl e,rfl,rfl⟩
theorem DGet.t{H:Hp}{kvs:List (List Key × V)}{k:List Key}(e:H a=aa (.dT kvs))(eb:H b=aa (.tup (k.map kV))):DGet H a (.ref b) (yH kvs k):=.inr ⟨kvs,k,b,.inl e,rfl,eb,rfl⟩
theorem DPut.k{H:Hp}{kvs:List (Key × V)}{k:Key}(e:H a=aa (.dK kvs))(hl:kvs.length < sizeLine):DPut H a (kV k) v (upd H a (.dK (yz kvs k v))):=.inl ⟨kvs,k,e,rfl,hl,rfl⟩
theorem DPut.t{H:Hp}{kvs:List (List Key × V)}{k:List Key}(e:H a=aa (.dT kvs))(eb:H b=aa (.tup (k.map kV)))(hl:kvs.length < sizeLine) :
  DPut H a (.ref b) v (upd H a (.dT (yz kvs k v))):=.inr ⟨kvs,k,b,e,rfl,eb,hl,rfl⟩
section
variable {X:Cx}{pins:List (ag × Obj)}{σ:St}{H:Hp}{s:aj}{a:ag}{y v:V}{u r:af}{o:Option V}{A:av}{E:af->aj->Prop}
theorem Inv.big(I:Inv X pins σ H s):sysModules < s.heap.objs.size:=by
 have h:mainGlobals < s.heap.objs.size:=(I.mod.glob.keeps I.bk).lt
 exact lR (by decide) h
theorem zb8{Q:af->aj->Prop}(hu:A.units + 1 < cLine)(I:Inv X pins σ H s)(g:DGet H a y (aa v))(ry:RelV y u)(h:∀w' s',Inv X pins σ H s'->RelV v w'->Q w' s') :
  wpAny (model X.prog X.w) A (getItem (.ref a) u) Q E s:=by
 rcases g with ⟨kvs,k,e,ey,l⟩ | ⟨kvs,k,b,e,ey,eb,l⟩
 ·subst ey
  obtain⟨z,hd,vs,rel,dd⟩:=Wh I.hok e
  obtain⟨w',hw,rw'⟩:=RelO.some_of (v:=v) (o:=valueAt vs k) (by rw[l];exact rel.val k)
  exact wpAny_getItem_of (VW ry) dd.mapOf hw (h w' _ (I.tok _) rw')
 ·subst ey
  cases (show u=bV b from ry)
  obtain⟨z,hd,xs,rel,dd⟩:=Wi I.hok e
  obtain⟨w',hw,rw'⟩:=RelO.some_of (v:=v) (o:=(atKey xs k).map (·.2)) (by rw[l];exact rel.val k)
  obtain⟨p,hp,hp2⟩:=dy.mp hw
  refine wpAny_getItem_heap (eP hu) (ZG I.hok eb) dd hp ?_
  rw[hp2]
  exact h w' _ (I.tok _) rw'
theorem zim{Q:af->aj->Prop}(hu:A.units + 1 < cLine)(I:Inv X pins σ H s)(g:DGet H a y o)(ry:RelV y u)(h:∀s',Inv X pins σ H s'->Q (.bool o.isSome) s') :
  wpAny (model X.prog X.w) A (compareOp .In u (.ref a)) Q E s:=by
 rcases g with ⟨kvs,k,e,ey,l⟩ | ⟨kvs,k,b,e,ey,eb,l⟩
 ·subst ey
  obtain⟨z,hd,vs,rel,dd⟩:=Wh I.hok e
  refine wpAny_in_of (VW ry) hd dd.mapOf ?_
  rw[<-(rel.val k).isSome_eq,<-l]
  exact h _ (I.tok _)
 ·subst ey
  cases (show u=bV b from ry)
  obtain⟨z,hd,xs,rel,dd⟩:=Wi I.hok e
  refine wpAny_in_heap (eP hu) (ZG I.hok eb) hd dd ?_
  have q:=(rel.val k).isSome_eq
  rw[l8] at q
  rw[<-q,<-l]
  exact h _ (I.tok _)
theorem ze8{Q:af->aj->Prop}(hu:A.units + 1 < cLine)(I:Inv X pins σ H s)(g:DGet H a y o)(ry:RelV y u)(h:∀s',Inv X pins σ H s'->Q (.bool (!o.isSome)) s') :
  wpAny (model X.prog X.w) A (compareOp .NotIn u (.ref a)) Q E s:=by
 rcases g with ⟨kvs,k,e,ey,l⟩ | ⟨kvs,k,b,e,ey,eb,l⟩
 ·subst ey
  obtain⟨z,hd,vs,rel,dd⟩:=Wh I.hok e
  refine wpAny_notIn_of (VW ry) hd dd.mapOf ?_
  rw[<-(rel.val k).isSome_eq,<-l]
  exact h _ (I.tok _)
 ·subst ey
  cases (show u=bV b from ry)
  obtain⟨z,hd,xs,rel,dd⟩:=Wi I.hok e
  refine wpAny_notIn_heap (eP hu) (ZG I.hok eb) hd dd ?_
  have q:=(rel.val k).isSome_eq
  rw[l8] at q
  rw[<-q,<-l]
  exact h _ (I.tok _)
theorem Jx(I:Inv X pins σ H s)(mu:Mut (H a))(hs:dA a s.heap h')(he:∃q,h'.get? a=aa q)(new:ObjOk X.prog X.w (upd H a ob) h' a ob) :
  Inv X pins σ (upd H a ob) { s with heap:=h',toks:=t' }:=
 I.write (x:=a) (e:=a) mu (.inl rfl) (λb q hb z=>(hs.2 b hb).trans z) he new
theorem zgN{H':Hp}(z:kvs.length<=sizeLine)(hd:(a == sysModules)=ao)(rel:KV kvs vs)(dd:h'.DictOf (yQ P w) a vs) :
  ObjOk P w H' h' a (.dK kvs):=⟨z,hd,vs,rel,dd⟩
theorem zb9{H':Hp}{Q:Unit->aj->Prop}(hu:A.units + 1 < cLine)(I:Inv X pins σ H s)(g:DPut H a y v H')(ry:RelV y u)(rv:RelV v r)(h:∀s',Inv X pins σ H' s'->Q () s') :
  wpAny (model X.prog X.w) A (setItem (.ref a) u r) Q E s:=by
 rcases g with ⟨kvs,k,e,ey,l,eH⟩ | ⟨kvs,k,b,e,ey,eb,l,eH⟩
 ·subst ey eH
  obtain⟨z,hd,vs,rel,dd⟩:=zhH I.hok e
  have hz:vs.length<=sizeLine:=by rw[<-rel.length];exact z
  have hl:(yz kvs k v).length<=sizeLine:=by have:=yY kvs k v;lia
  refine wpAny_setItem_pairs (hsz:=hz) (VW ry) dd λh' dd' hs=>h _ ?_
  have he:∃q,h'.get? a=aa q:=let ⟨q,_,_,hq,_⟩:=dd';⟨q,hq⟩
  exact Jx I (by rw[e];exact eW) hs he (zgN hl hd (rel.put k rv) dd')
 ·subst ey eH
  cases (show u=bV b from ry)
  obtain⟨z,hd,xs,rel,dd⟩:=zgo I.hok e
  have hz:xs.length<=sizeLine:=by rw[<-bM rel];exact z
  have hl:(yz kvs k v).length<=sizeLine:=by have:=yY kvs k v;lia
  refine wpAny_setItem_heap (hsz:=hz) (eP hu) (ZG I.hok eb) dd λh' dd' hs=>h _ ?_
  obtain⟨q,es,ep,hq,h2,h3,h4,_,h5⟩:=dd'
  refine Jx I (by rw[e];exact eW) hs ⟨q,hq⟩ ⟨hl,hd,_,(rel.put k eb rv).keeps λc ys ec=>?_,q,es,ep,hq,h2,h3,h4,h5⟩
  rw[zl (yp ec e (λz=>nomatch z))]
  exact ec
end
def zhI(i:ay):Prop:=∀ov iv,subscripted i ao ov iv=operate [ov,iv] (getItem ov iv)
theorem ze9{E:af->aj->Prop}{env:Env}{pos:Pos}{T id:String}{Q:af->aj->Prop}
  (hl:typeLookup (.type T) "__getitem__"=pure (aa (.builtin id))) (hs:zhI slice)
  (h:wpAny (model prog w) A (eval value env) (λo s₁=>wpAny (model prog w) A (eval slice env) (λi s₂=>s₂.TypeIs o T/\wpAny (model prog w) A (getItem o i) Q E s₂) E s₁) E s) :
  wpAny (model prog w) A (eval (.Subscript value slice pos) env) Q E s:=by
 refine ox (dh h (λo s₁ h₁=>dh h₁ (λi s₂ h₂=>?_) λ_ _ x=>x) λ_ _ x=>x)
 obtain⟨hT,h₂⟩:=h₂
 unfold subscriptTail
 refine bi ?_
 rw[getitemInPython_of_ne hT.not_modules]
 refine bi (wpAny_specialOf hT hl ?_)
 have fin:wpAny (model prog w) A (subscripted slice ao o i) (λr s₃=>wpAny (model prog w) A (letTemporaryGo value o r >>= λ_=>pure r) Q E s₃) E s₂:=by
  rw[hs o i]
  exact wpAny_operating (dh h₂ (λr s₃ h₃=>bi (wpAny_letTemporaryGo (bw h₃))) λ_ _ x=>x)
 first
  | exact bw (bi fin)
  | exact bi (bw (bi fin))
  | exact bi fin
theorem KB{pins:List (ag × Obj)}{σ:St}{H:Hp}{s:aj}{a:ag}{y:V}{o:Option V}(I:Inv X pins σ H s)(g:DGet H a y o):s.TypeIs (.ref a) "dict":=by
 rcases g with ⟨kvs,k,e,_,_⟩ | ⟨kvs,k,b,e,_,_,_⟩
 ·obtain⟨_,_,vs,_,dd⟩:=Wh I.hok e
  exact dd.typeIs
 ·obtain⟨_,_,xs,_,dd⟩:=Wi I.hok e
  exact dd.typeIs
def qh(td ty:TE):TE:=λσ H Q=>td σ H λx H1=>ty σ H1 λy H2=>∃a v,x=.ref a/\DGet H2 a y (aa v)/\Q v H2
def wu(td ty tv:TE):TS:=λD σ H=>tv σ H λv H1=>td σ H1 λx H2=>ty σ H2 λy H3=>∃a H4,x=.ref a/\DPut H3 a y v H4/\D.nx σ H4
section
variable {X:Cx}{o i e value:ay}{pos pos' tpos:Pos}{td ty tv:TE}
theorem q9(hu:X.A.units + 1 < cLine)(ho:PE X o td)(hi:PE X i ty)(hs:zhI i):PE X (.Subscript o i pos) (qh td ty):=by
 intro pins s σ H Q I h
 refine ze9 PySem.F.slot_dict_getitem.lookup hs (thn (ho pins s σ H _ I h) λu s1 ⟨x,H1,I1,rx,q1⟩=>thn (hi pins s1 σ H1 _ I1 q1) λiv s2 ⟨y,H2,I2,ry,a,v,ex,g,q2⟩=>?_)
 subst ex
 obtain rfl:u=bV a:=rx
 exact⟨KB I2 g,zb8 hu I2 g ry λw' s3 I3 rw'=>⟨v,H2,I3,rw',q2⟩⟩
theorem x9(hu:X.A.units + 1 < cLine)(ho:PE X o td)(hi:PE X i ty)(hv:PE X value tv)(hs:swapsWith value (aa (.Subscript o i pos')) pos.line X.env=pure ao) :
  PS X (.Assign [.Subscript o i pos'] value pos) (wu td ty tv):=by
 intro pins s σ H D I h
 refine wpAny_Assign_Subscript (thn (hv pins s σ H _ I h) λr s1 ⟨v,H1,I1,rv,q1⟩=>thn (ho pins s1 σ H1 _ I1 q1) λu s2 ⟨x,H2,I2,rx,q2⟩=>thn (hi pins s2 σ H2 _ I2 q2) λiv s3 ⟨y,H3,I3,ry,a,H4,ex,g,q3⟩=>?_) hs
 subst ex
 obtain rfl:u=bV a:=rx
 exact zb9 hu I3 g ry rv λs4 I4=>⟨σ,H4,I4,q3⟩
end
theorem zc0{H:Hp}(h:aw)(hb:sysModules < h.objs.size):ObjOk P w H (h.push { cls:=.type "dict",data:=.dict #[] }) h.objs.size (.dK []):=
 ⟨cp _,beq_eq_false_iff_ne.mpr (cH (cz hb)),[],.nil,Heap.DictOf.new h⟩
theorem KC{H:Hp}(h:aw)(hb:sysModules < h.objs.size):ObjOk P w H (h.push { cls:=.type "dict",data:=.dict #[] }) h.objs.size (.dT []):=
 ⟨cp _,beq_eq_false_iff_ne.mpr (cH (cz hb)),[],.nil,_,#[],0,bH _ rfl,⟨rfl,rfl,rfl⟩,rfl,rfl,lU⟩
def YL:TE:=λ_ H Q=>∀p,H p=ai->Q (.ref p) (upd H p (.dK []))
def j9:TE:=λ_ H Q=>∀p,H p=ai->Q (.ref p) (upd H p (.dT []))
section
variable {X:Cx}{pos:Pos}
theorem Wj:PE X (.Dict [] [] pos) YL:=λpins s σ H Q I h =>
 wpAny_Dict_empty ⟨.ref s.heap.objs.size,_,I.laid (a:=s.heap.objs.size) (o:=.dK []) (t':=s.toks) (λ_ _ q=>bo _ q) (bq _) (zc0 s.heap I.big),rfl,h _ (I.hok.fresh (bq _))⟩
theorem qi:PE X (.Dict [] [] pos) j9:=λpins s σ H Q I h =>
 wpAny_Dict_empty ⟨.ref s.heap.objs.size,_,I.laid (a:=s.heap.objs.size) (o:=.dT []) (t':=s.toks) (λ_ _ q=>bo _ q) (bq _) (KC s.heap I.big),rfl,h _ (I.hok.fresh (bq _))⟩
end
def zgO:List (TE × TE)->St->Hp->(List (V × V)->Hp->Prop)->Prop
 | [],_,H,Q=>Q [] H
 | (tk,tv) :: r,σ,H,Q=>tk σ H λx H1=>tv σ H1 λy H2=>zgO r σ H2 λps H3=>Q ((x,y) :: ps) H3
structure M2(X:Cx)(o:ay)(m:Str)(apos:Pos)(e f:ay)(cpos:Pos):Prop where
 base:attributeBase o m X.env (eval o X.env)=eval o X.env
 few:((backTo cpos (starEach [e,f] X.env)).all (λx=>!x.1) && (backToKw cpos (keywordEach [] X.env)).all (λx=>x.1.isSome)
  && decide (([e,f]:List ay).length + ([]:List Keyword).length + (if ([]:List Keyword).isEmpty then 0 else 1) < 30))=ae
 line:(apos.endLine == cpos.line)=ae
 trees:backTo cpos (starEach [e,f] X.env)=[(ao,eval e X.env),(ao,eval f X.env)]
def IsD(H:Hp)(a:ag):Prop:=(∃kvs,Rd H a (.dK kvs))\/∃kvs,Rd H a (.dT kvs)
theorem zc1{pins:List (ag × Obj)}{σ:St}{H:Hp}{s:aj}{a:ag}(I:Inv X pins σ H s)(d:IsD H a) :
  s.TypeIs (.ref a) "dict"/\(∀b,bV a=.ref b->∃ob,s.heap.get? b=aa ob/\ob.dict=ai)/\(a == sysModules)=ao:=by
 rcases d with ⟨kvs,e⟩ | ⟨kvs,e⟩
 ·obtain⟨_,hd,vs,_,dd⟩:=Wh I.hok e
  refine⟨dd.typeIs,λb q=>?_,hd⟩
  cases q
  obtain⟨ob,_,_,h1,h2,_⟩:=dd
  exact⟨ob,h1,h2.2.1⟩
 ·obtain⟨_,hd,xs,_,dd⟩:=Wi I.hok e
  refine⟨dd.typeIs,λb q=>?_,hd⟩
  cases q
  obtain⟨ob,_,_,h1,h2,_⟩:=dd
  exact⟨ob,h1,h2.2.1⟩
section
variable {X:Cx}{pins:List (ag × Obj)}{σ:St}{H:Hp}{s:aj}{a:ag}{y d:V}{u r:af}{o:Option V}{A:av}{E:af->aj->Prop}
theorem zgP{Q:af->aj->Prop}(hu:A.units + 1 < cLine)(I:Inv X pins σ H s)(g:DGet H a y o)(ry:RelV y u)(rd:RelV d r)(h:∀w' s',Inv X pins σ H s'->RelV (o.getD d) w'->Q w' s') :
  wpAny (model X.prog X.w) A (call (.builtin "dict.get") [.ref a,u,r]) Q E s:=by
 rcases g with ⟨kvs,k,e,ey,l⟩ | ⟨kvs,k,b,e,ey,eb,l⟩
 ·subst ey
  obtain⟨z,hd,vs,rel,dd⟩:=Wh I.hok e
  refine call_meetsIn iA dd.typeIs mR (mz _ _ _) (meets_dict_get_default (yQ X.prog X.w) a (VW ry) hd r) ⟨_,dd.mapOf,h _ _ (I.tok _) ?_⟩
  rw[l]
  exact(rel.val k).getD rd
 ·subst ey
  cases (show u=bV b from ry)
  obtain⟨z,hd,xs,rel,dd⟩:=Wi I.hok e
  refine call_meetsIn iA dd.typeIs mR (mz _ _ _) (meetsH_dict_get_default (tupleKind (yQ X.prog X.w)) a b hd r) ⟨eP hu,k,xs,ZG I.hok eb,dd,h _ _ (I.tok _) ?_⟩
  rw[l]
  exact(rel.val k).getD rd
end
def ka(td ty tx:TE):TE:=λσ H Q=>td σ H λx H1=>∃a,x=.ref a/\IsD H1 a/\ty σ H1 λy H2=>tx σ H2 λz H3=>∃o,DGet H3 a y o/\Q (o.getD z) H3
section
variable {X:Cx}{o e f:ay}{apos cpos:Pos}{td ty tx:TE}
theorem Wk(hu:X.A.units + 1 < cLine)(ho:PE X o td)(he:PE X e ty)(hf:PE X f tx)(m:M2 X o "get" apos e f cpos):PE X (.Call (.Attribute o "get" apos) [e,f] [] cpos) (ka td ty tx):=by
 intro pins s σ H Q I h
 refine wpAny_Call_method m.base m.few m.line mB iA PySem.F.type_dict_get (thn (ho pins s σ H _ I h) λu s1 ⟨x,H1,I1,rx,a,ex,d,q1⟩=>?_)
 subst ex
 obtain rfl:u=bV a:=rx
 obtain⟨t1,t2,_⟩:=zc1 I1 d
 refine⟨t1,t2,?_⟩
 rw[m.trees]
 refine fK rfl (iN (eM (thn (he pins s1 σ H1 _ I1 q1) λiv s2 ⟨y,H2,I2,ry,q2⟩ =>
  eM (thn (hf pins s2 σ H2 _ I2 q2) λfv s3 ⟨z,H3,I3,rz,ov,g,q3⟩=>ic ?_))))
 exact zgP hu I3 g ry rz λw' s4 I4 rw'=>⟨_,H3,I4,rw',q3⟩
end
end L2
namespace Att
open PySem PySem.W PySem.Calls PyProof.Rows
theorem XC :∀(ns:List Int) (vs:List af),WellAll P h vs (ns.map WData.int)->IntsAre vs ns:=by
 intro ns
 induction ns with
 | nil =>
  intro vs w
  rw[List.map_nil] at w
  cases w
  exact .nil
 | cons n ns ih =>
  intro vs w
  rw[b7] at w
  cases w with
  | cons a b =>
   cases a
   exact .cons _ _ (ih _ b)
theorem VX{l:OpenLaw}{n:Nat}(hn:l.most=aa n){P:Params}{args:List WData}{vals:List af}
  (hpre:l.row.toRowW.claim.pre args=ae) (hwl:WellAll P h vals args) :
  ∃a vs ns,vals=[bV a]/\args=[WData.list (ns.map WData.int)]/\h.get? a=aa { cls:=.type "list",data:=.seq vs.toArray }/\IntsAre vs ns/\ns.length<=n:=by
 have hsh:WShape.hasAll [] args [.list .int]=ae:=(pre_splitW hpre).1
 have hc:l.pre.holds [] { args:=args }=ae:=(pre_splitW hpre).2
 obtain⟨d,r,rfl,h1,h2⟩:=hasAllW_cons hsh
 obtain rfl:=hasAllW_nil h2
 obtain⟨xs,rfl,h3⟩:=hasW_list h1
 obtain⟨ns,rfl⟩:=items_int h3
 have hlen:ns.length<=n:=by
  unfold OpenLaw.pre at hc
  have h4:(WTm.not (.lt (.lit (.int (n:Int))) (.len (.arg 0)))).holds [] { args:=[.list (ns.map .int)] }=ae:=by
   have h4:=(holds_andW hc).1
   rw[hn] at h4
   exact h4
  have h5:=condW_of h4 (w_not (w_lt w_lit (w_len_list (w_arg rfl))))
  rw[bu] at h5
  refine Nat.le_of_not_lt λq=>?_
  have q':(n:Int) < ((ns.length:Nat):Int):=by lia
  first
   | (rw[decide_eq_true q'] at h5;exact absurd h5 (by decide))
   | (simp at h5;lia)
 cases hwl with
 | cons w1 w2 =>
  cases w2
  cases w1 with
  | list ho hall=>exact⟨_,_,ns,rfl,rfl,ho,XC ns _ hall,hlen⟩
theorem VY(l:OpenLaw)(args:List WData):l.row.toRowW.claim.post args (.bool ae) args=ae :=
 postW_of (r:=l.row.toRowW) (X:=(ae == ae))
  (show WShape.has [] (.bool ae) .bool=ae by first | rfl | decide | simp[WShape.has,WShape.arms,WShape.armsAll])
  (show (WTm.eq .res (.lit (.bool ae))).value [] { args:=args,res:=aa (.bool ae),after:=args }=aa (.bool (ae == ae)) from w_eq_bool (w_res rfl) w_lit) rfl
theorem attach_call{l:OpenLaw}{n:Nat}{loose:List Str}{XP:(Str->Option af)->aw->Prop}{YP:au->aw->Prop}{d:DefRec}
  (hn:l.most=aa n) (hdf:d.params.defaults=[])
  (call:∀(w:au) (s₀ s₁:aj) (mg mb:Str->Option af) (fa:ag) (o:Obj) (pm cd doc:af) (a:ag) (vs:List af) (ns:List Int),
   Ground q loose [] XP w s₀ mg mb s₁.heap->YP w s₁.heap ->
   s₁.heap.get? fa=aa o->o.data=.func (docDef d.name d.params d.body d.scope pm cd doc)->s₁.heap.CodeRec cd d.name->mg d.name=aa (.ref fa) ->
   s₁.heap.get? a=aa { cls:=.type "list",data:=.seq vs.toArray }->IntsAre vs ns->ns.length<=n->s₁.gens=#[] ->
   codeAny (model l.prog w) callerA (.call (.ref fa) ⟨[.ref a],[]⟩) (λr s'=>r=.ok (.ret (.bool ae))/\OldK s₁.heap s'.heap/\s'.os=s₁.os/\AllBare s'.gens) s₁) :
  WalkO q loose XP YP l.row.toRowW d [] (λf vs=>l9 f vs):=by
 intro w s₀ s₁ mg mb G Y fa o pm cd doc dV kV ho hd hcd hD hmg hg args vals as hpre hlay hrd hwl hlo
 obtain rfl:dV=.none:=Dflts.none hD hdf
 obtain rfl:kV=.none:=Dflts.noKw hD
 obtain⟨a,vs,ns,rfl,rfl,hobj,hints,hlen⟩:=VX hn hpre hwl
 refine enter_call (eN (call w s₀ s₁ mg mb fa o pm cd doc a vs ns G Y ho (fd_plain hd) hcd hmg hobj hints hlen hg) λr s' hq=>?_)
 obtain⟨rfl,h2,h3,h4⟩:=hq
 exact⟨.inl ⟨.bool ae,.bool ae,[],rfl,λ_=>rfl,.bool ae,VY l _,λ_=>⟨md,λ_ hm=>(nomatch hm)⟩⟩,h2,h3,h4⟩
section
variable {prog:aq}{w:au}{A:av}{E:af->aj->Prop}{s:aj}{K:Frag}
def zin(h:aw)(L d:ag):List (ag × Obj):=(bI h.objs.size).filterMap λa=>if a=L\/a=d then ai else (h.get? a).map λo=>(a,o)
end
end Att
namespace L2
open PySem PySem.Spec PyProof.Rows
theorem VZ:∀ {vs:List af} {ns:List Int},IntsAre vs ns->Vals (ns.map V.int) vs
 | _,_,.nil=>.nil
 | _,_,.cons n t h=>.cons ⟨t,rfl⟩ (VZ h)
def zan(H:Hp):Prop:=∀b,H b=ai\/∃o xs,H b=aa (.frz o (.lst xs))
theorem KD{P:aq}{w:au}{K:bz}{mg mb:Str->Option af}{CX:CXT}{k:Nat}{fa a:ag}{fd:FuncData}{x:Str}{sp:Sp}{s₁:aj}{vs:List af}{ns:List Int}
  (KX:K.In s₁.heap) (hns:s₁.heap.Ns mainGlobals mg) (hb:s₁.heap.Ns builtinsNs mb) (hbb:∀x:Str,x≠"__name__"->mb x=bootBuiltins x) (hlim:s₁.heap.NoLimit) (hg:s₁.gens=#[])
  (ha:s₁.heap.get? a=aa { cls:=.type "list",data:=.seq vs.toArray }) (hi:IntsAre vs ns) (hl:ns.length<=sizeLine) (hr:Room k callerA)
  (F:∀base:aw,K.In base->base.Ns mainGlobals mg->FnOk P w K mg base CX k fa fd [x] sp) (hbind:∀(s:aj) (u:af),BindsTo s fd ⟨[u],[]⟩ [(x,u)])
  (hsp:∀H:Hp,zan H->SqL K H a (ns.map V.int)->sp [.ref a] H (λv _=>v=.bl ae) λ_ _ _=>False)
  (hCX:∀H e s',CX [] H s₁ (λ_ _ _=>False) e s'->False) :
  codeAny (model P w) callerA (.call (.ref fa) ⟨[.ref a],[]⟩) (λr s'=>r=.ok (.ret (.bool ae))/\OldK s₁.heap s'.heap/\s'.os=s₁.os/\AllBare s'.gens) s₁:=by
 have rv:=VZ hi
 have lenV:=hi.length
 -- from an abstract heap in which nothing but the script may be tracked
 have core:∀H:Hp,zan H->SqL K H a (ns.map V.int)->HOk P w H s₁.heap->(∀b,H b≠ai->b=a)->(H a≠ai->K.lookup a=ai) ->
   codeAny (model P w) callerA (.call (.ref fa) ⟨[.ref a],[]⟩) (λr s'=>r=.ok (.ret (.bool ae))/\OldK s₁.heap s'.heap/\s'.os=s₁.os/\AllBare s'.gens) s₁:=by
  intro H hO hS hok hA hK
  have base_of:∀ {b:ag} {o:Obj},s₁.heap.get? b=aa o->H b=ai->(Jq s₁.heap H).get? b=aa o:=λe n=>zcI e n
  have noA:∀ {b:ag} {o:Obj} {es:Array DictEntry} {ep:Nat},s₁.heap.get? b=aa o->o.data=.dict es ep->H b=ai:=λ{b o es ep} e d=>by
   cases q:H b with
   | none=>rfl
   | some u =>
    have e':b=a:=hA b (by rw[q];simp)
    subst e'
    rw[ha] at e;cases e
    have d':Data.seq vs.toArray _=Data.dict es ep:=d
    cases d'
  have nsK:∀ {b:ag} {m:Str->Option af},s₁.heap.Ns b m->(Jq s₁.heap H).Ns b m:=λ{b m} ⟨o,es,ep,e,d,r⟩=>⟨o,es,ep,base_of e (noA e d),d,r⟩
  have hKb:K.In (Jq s₁.heap H):=λb o e=>base_of (KX b o e) (by
   cases q:H b with
   | none=>rfl
   | some u =>
    have e':b=a:=hA b (by rw[q];simp)
    subst e'
    rw[hK (by rw[q];simp)] at e;cases e)
  have hM:Mod K mg (Jq s₁.heap H):=⟨hKb,nsK hns,⟨mb,nsK hb,hbb⟩,let ⟨mc,h1,h2⟩:=hlim;⟨mc,nsK h1,h2⟩⟩
  have e0:Env0 P w K mg (Jq s₁.heap H) callerA [] s₁ H:=⟨rfl,hM,λb o e=>zeV e,mX (zbW _ _),trivial,λb hb=>absurd (show b∈([]:List ag) from hb) (by simp),hok,.of_eq hg⟩
  refine eN ((F _ hKb (nsK hns)).run callerA [] s₁ H ⟨[.ref a],[]⟩ [.ref a] [.ref a] _ _ hr e0 (hbind s₁ (.ref a)) (.cons rfl .nil) (hsp H hO hS)) λr s' h=>?_
  cases r with
  | error e=>exact(hCX H e s' h).elim
  | ok fl =>
   cases fl with
   | next=>exact cJ h
   | brk=>exact cJ h
   | cont=>exact cJ h
   | ret u =>
    obtain⟨v,H',os,bare,un,hok',r',q⟩:=h
    have q':v=.bl ae:=q
    subst q'
    obtain rfl:u=gX ae:=r'
    refine⟨rfl,OldK.of_keep λb o e=>?_,os,bare⟩
    cases q:H b with
    | none=>exact un.keep b o e q (by intro z;exact absurd (show b∈([]:List ag) from z) (by simp)) (by simp)
    | some u =>
     rcases hO b with z | ⟨ob,xs,z⟩
     ·rw[q] at z;cases z
     ·have z2:=un.frzs b ob _ z
      obtain⟨e1,_⟩:=hok b _ z
      obtain⟨e2,_⟩:=hok' b _ z2
      rw[e] at e1;cases e1
      exact e2
 cases hk:K.lookup a with
 | some o =>
  -- the script is one of the module's own objects
  have e:=KX a o hk
  rw[ha] at e
  cases e
  refine core (λ_=>ai) (λ_=>.inl rfl) (.inr ⟨_,vs.toArray,_,hk,rfl,rfl,rfl,by rw[bN,lenV];exact hl,by simpa using rv⟩) (λb u z=>by have z':(ai:Option HO)=aa u:=z;cases z') (λb z=>absurd rfl z) λz=>absurd rfl z
 | none =>
  refine core (λb=>if b=a then aa (.frz { cls:=.type "list",data:=.seq vs.toArray } (.lst (ns.map V.int))) else ai) (λb=>?_) (.inl (.inr ⟨{ cls:=.type "list",data:=.seq vs.toArray },ap rfl⟩)) (λb u z=>?_) (λb z=>?_) λ_=>hk
  ·by_cases hb:b=a
   ·exact .inr ⟨_,_,ap hb⟩
   ·exact .inl (ak hb)
  ·by_cases hb:b=a
   ·have z':=(ap hb).symm.trans z
    cases z'
    subst hb
    exact⟨ha,by rw[bu];exact hl,vs,_,rv,ha⟩
   ·have z':=(ak hb).symm.trans z
    cases z'
  ·by_cases hb:b=a
   ·exact hb
   ·exact absurd (ak hb) z
abbrev KOf{K:bz}{h:aw}(_:K.In h):bz:=K
theorem zbg{l:nV}{n k:Nat}{q:aq}{loose:List Str}{XP:(Str->Option af)->aw->Prop}{YP:au->aw->Prop}{d:DefRec}{K:Params->bz}{CX:au->CXT}{sp:au->Sp}{x:Str}
  (hn:l.most=aa n) (hn2:n<=sizeLine) (hdf:d.params.defaults=[]) (hr:Room k callerA)
  (hY:∀(w:au) (h:aw),YP w h->(K w.params).In h)
  (F:∀(w:au) (mg:Str->Option af) (fa:ag) (h:aw),(K w.params).In h->h.Ns mainGlobals mg->mg d.name=aa (.ref fa) ->
   ∃fd:FuncData,(∀(s:aj) (u:af),BindsTo s fd ⟨[u],[]⟩ [(x,u)]) /\
    ∀base:aw,(K w.params).In base->base.Ns mainGlobals mg->FnOk l.prog w (K w.params) mg base (CX w) k fa fd [x] (sp w))
  (hsp:∀(w:au) (H:Hp) (a:ag) (ns:List Int),ns.length<=n->zan H->SqL (K w.params) H a (ns.map V.int)->sp w [.ref a] H (λv _=>v=.bl ae) λ_ _ _=>False)
  (hCX:∀(w:au) (H:Hp) (s:aj) (e:af) (s':aj),CX w [] H s (λ_ _ _=>False) e s'->False) :
  pF q loose XP YP l.row.toRowW d [] (λf vs=>l9 f vs):=by
 refine Att.attach_call hn hdf λw s₀ s₁ mg mb fa o pm cd doc a vs ns G Y ho hd hcd hmg hobj hints hlen hg=>?_
 have KX:=hY w _ Y
 obtain⟨fd,hb,hF⟩:=F w mg fa _ KX G.T.g hmg
 exact KD KX G.T.g G.T.b G.T.builtins G.T.nolimit hg hobj hints (bR hlen hn2) hr hF hb (λH hO hS=>hsp w H a ns hlen hO hS) λH e s'=>hCX w H s₁ e s'
theorem zhJ{l:nV}{n k:Nat}{q:aq}{loose:List Str}{XP:(Str->Option af)->aw->Prop}{YP:au->aw->Prop}{d:DefRec}{K:Params->bz}{CX:CXT}{sp:bz->Sp}{x:Str}
  (hn:l.most=aa n) (hn2:n<=sizeLine) (hdf:d.params.defaults=[]) (hr:Room k callerA)
  (hY:∀(w:au) (h:aw),YP w h->(K w.params).In h)
  (F:∀(w:au) (mg:Str->Option af) (fa:ag) (h:aw),(K w.params).In h->h.Ns mainGlobals mg->mg d.name=aa (.ref fa) ->
   ∃fd:FuncData,(∀(s:aj) (u:af),BindsTo s fd ⟨[u],[]⟩ [(x,u)]) /\
    ∀base:aw,(K w.params).In base->base.Ns mainGlobals mg->FnOk l.prog w (K w.params) mg base CX k fa fd [x] (sp (K w.params)))
  (hsp:∀(K:bz) (H:Hp) (a:ag) (ns:List Int),ns.length<=n->zan H->SqL K H a (ns.map V.int)->sp K [.ref a] H (λv _=>v=.bl ae) λ_ _ _=>False)
  (hCX:∀(H:Hp) (s:aj) (e:af) (s':aj),CX [] H s (λ_ _ _=>False) e s'->False) :
  pF q loose XP YP l.row.toRowW d [] (λf vs=>l9 f vs) :=
 zbg (K:=K) (CX:=λ_=>CX) (sp:=λw=>sp (K w.params)) hn hn2 hdf hr hY F (λw H a ns h1 h2 h3=>hsp (K w.params) H a ns h1 h2 h3) λ_ H s e s'=>hCX H s e s'
def xh(s:ax)(j:Nat):ax:=match s with
 | .ClassDef _ _ _ body _ _ _ _ _ _ _=>body.getD j (.Pass ⟨0,0,0,0⟩)
 | _=>.Pass ⟨0,0,0,0⟩
def xi(s:ax):Arguments:=match s with
 | .FunctionDef _ a _ _ _ _ _ _ _ _=>a
 | _=>{ posonlyargs:=[],args:=[],vararg:=ai,kwonlyargs:=[],kw_defaults:=[],kwarg:=ai,defaults:=[] }
def yq(s:ax):List ax:=match s with
 | .FunctionDef _ _ b _ _ _ _ _ _ _=>b
 | _=>[]
def zj(s:ax):az:=match s with
 | .FunctionDef _ _ _ _ _ _ sc _ _ _=>sc
 | _=>{ kind:=.function,names:=[],isGenerator:=ao,isCoroutine:=ao }
abbrev CX0:CXT:=λ_ _ _ _ _ _=>False
abbrev E0:XK:=λ_ _ _=>False
structure Fun(K:bz)(x qual:Str)(st:ax)(f:ag)(fd:FuncData):Prop where
 ex:∃(oc:af) (od:Option ag) (kV doc pm:af) (an:Option ag) (cdv ct:af) (osl:Array (Option af)),
  fd=iz x qual (xi st) (yq st) (zj st) .none kV doc pm an cdv ct/\K.lookup f=aa ⟨oc,od,.func fd,osl⟩/\iq K cdv qual=ae
 kp:fi K (.ref f)=ae
section
variable {P:aq}{w:au}{K:bz}{mg:Str->Option af}{base:aw}
theorem Fun.binds{st:ax}{f:ag}{fd:FuncData}{ps:List Str}(F:Fun K x qual st f fd)
  (h:∀(kV doc pm:af) (an:Option ag) (cdv ct:af) (us:List af),us.length=ps.length->bindArgs (iz x qual (xi st) (yq st) (zj st) .none kV doc pm an cdv ct) ⟨us,[]⟩=pure (ps.zip us)):Binds K fd ps []:=by
 obtain⟨oc,od,kV,doc,pm,an,cdv,ct,osl,rfl,lk,hcd⟩:=F.ex
 exact .all (h kV doc pm an cdv ct)
theorem Jy{st:ax}{f:ag}{oc:af}{od an:Option ag}{osl:Array (Option af)}{kV doc pm cdv ct:af}(l:K.lookup f=aa ⟨oc,od,.func (iz x qual (xi st) (yq st) (zj st) .none kV doc pm an cdv ct),osl⟩)
  (c:iq K cdv qual=ae) (k:fi K (.ref f)=ae):Fun K x qual st f (iz x qual (xi st) (yq st) (zj st) .none kV doc pm an cdv ct):=⟨⟨oc,od,kV,doc,pm,an,cdv,ct,osl,rfl,l,c⟩,k⟩
end
theorem yW(hr:Room k A):A.units + 1 < cLine:=bZ (Nat.add_le_add_left (by decide:1<=64) _) hr.units
section
variable {X:Cx}
theorem pv(i:Nat){pos:Pos}(hN:X.N[i]?=aa x:=by rfl)(hv:Vis X.env.scope x:=by first | exact cu rfl | exact iO (cu rfl) | exact iO (iO rfl))(hd:(x == ("__debug__":Str))=ao:=by decide)
  (hcd:(x == ("__classdict__":Str))=ao:=by decide):PE X (.Name x pos) (zc i):=zgH hN hv hd hcd
end
theorem xo{c A B:Prop} [Decidable c](h1:c->A)(h2:¬ c->B):if c then A else B:=by
 by_cases h:c
 ·rw[ap h]
  exact h1 h
 ·rw[ak h]
  exact h2 h
def Same(H H':Hp):Prop:=∀b o,H b=aa o->H' b=aa o
theorem Same.refl(H:Hp):Same H H:=λ_ _ h=>h
theorem Same.trans{H H1 H2:Hp}(a:Same H H1)(b:Same H1 H2):Same H H2:=λc o h=>b c o (a c o h)
section
variable {κ:Type} [DecidableEq κ]
theorem zc2{kvs:List (κ × V)}{k:κ}(h:yH kvs k=ai):¬ k∈kvs.map (·.1):=by
 intro m
 obtain⟨p,hp,e⟩:=cj.mp m
 have q:(kvs.any λkv=>decide (kv.1=k))=ae:=fF.mpr ⟨p,hp,decide_eq_true e⟩
 rw[wV,h] at q
 exact absurd q (by simp)
theorem zbh{kvs:List (κ × V)}{k:κ}{v:V}(h:yH kvs k=aa v):k∈kvs.map (·.1):=by
 have q:(kvs.any λkv=>decide (kv.1=k))=ae:=by
  rw[wV,h]
  all_goals rfl
 obtain⟨p,hp,e⟩:=List.any_eq_true.mp q
 exact cj.mpr ⟨p,hp,of_decide_eq_true e⟩
theorem zbi:∀ {l:List κ} {k:κ},l.Nodup->¬ k∈l->(l ++ [k]).Nodup
 | [],k,_,_=>by simp
 | a :: r,k,h,hk=>by
  obtain⟨h1,h2⟩:=dk.mp h
  show (a :: (r ++ [k])).Nodup
  refine dk.mpr ⟨λm=>?_,zbi h2 λm=>hk (bS.mpr (iO m))⟩
  rcases bF.mp m with q | q
  ·exact h1 q
  ·exact hk (bS.mpr (cu (b5.mp q).symm))
theorem zfa{kvs:List (κ × V)}{k:κ}(v:V)(hn:(kvs.map (·.1)).Nodup)(h:yH kvs k=ai):((yz kvs k v).map (·.1)).Nodup:=by
 rw[Wg v h,cQ]
 exact zbi hn (zc2 h)
theorem zca{p:κ × V}{r:List (κ × V)}(e:¬ p.1=k):zbf (p :: r) k=p :: zbf r k:=by
 unfold zbf
 rw[iK,ap (by simp[e])]
theorem zc3:∀ {kvs:List (κ × V)} {k:κ},¬ k∈kvs.map (·.1)->zbf kvs k=kvs
 | [],_,_=>rfl
 | p :: r,k,h=>by
  have h':¬ k∈r.map (·.1):=λm=>by
   obtain⟨q,hq,e⟩:=cj.mp m
   exact h (cj.mpr ⟨q,bS.mpr (iO hq),e⟩)
  rw[zca λe=>h (cj.mpr ⟨p,bS.mpr (cu rfl),e⟩),zc3 h']
end
end L2
set_option Elab.async false
set_option linter.all false
set_option maxRecDepth 100000
set_option maxHeartbeats 4000000
namespace L2
open PySem PySem.Spec PyProof.Rows
def Cx.comp(X:Cx)(scope:az)(cl:List (Str × ag))(C:ag)(N:List Str)(fp:List ag)(s:aj)(H:Hp):Cx :=
 { X with env:=compEnvC scope cl C X.env,N:=N,s₀:=s,H₀:=H,outer:=X.stack,ex:=fp,fn:=λ_=>ao,pn:=[],xe:=λ_ _=>False }
structure Za(X:Cx)(scope:az)(cl:List (Str × ag))(ix:List Nat):Prop where
 clos:closureFor scope X.env=pure cl
 nocell:∀y∈scope.names,y.2≠.cell
 kind:scope.kind=.function
 names:∀y∈scope.names,y.2=.local->scope.names.lookup y.1=aa .local
 sub:∀y c,cl.lookup y=aa c->X.env.cells.lookup y=aa c
 has:∀y,((relabel scope X.env).names.lookup y=aa .cell\/(relabel scope X.env).names.lookup y=aa .free)->∃c,cl.lookup y=aa c
 cap:∀i∈ix,∃y,X.N[i]?=aa y/\(X.env.kindOf y=aa .cell\/X.env.kindOf y=aa .free)/\((relabel scope X.env).names.lookup y=aa .cell\/(relabel scope X.env).names.lookup y=aa .free)
def qj(scope:az)(env:Env):List (Str × ag):=scope.names.foldl (λcs y=>if y.2 == .free then (y.1,(env.cells.lookup y.1).getD 0) :: cs else cs) []
def zbj(osc:az)(N:List Str)(sc:az)(ix:List Nat):Bool :=
 sc.kind == .function && sc.names.all (λy=>y.2 != .cell && (y.2 != .local || sc.names.lookup y.1 == aa .local) && (y.2 != .free || osc.names.lookup y.1 == aa .cell || osc.names.lookup y.1 == aa .free)) &&
  ix.all λi=>match N[i]? with
   | some y=>sc.names.lookup y == aa .free
   | none=>ao
theorem wW{l:List (Str × NameKind)}{y:Str}(h:l.lookup y=aa k):(y,k)∈l:=eE h
theorem kc{env:Env}:∀ {names:List (Str × NameKind)} {x:Str} {k:NameKind},(names.map λ(n,k)=>if (k == df && env.scope.kind == .function && env.kindOf n == aa .cell) then (n,mC) else (n,k)).lookup x=aa k ->
  ∃k',names.lookup x=aa k'/\(k'=.free\/k'=k)
 | [],_,_,h=>by simp at h
 | (n,k') :: r,x,k,h=>by
  have ih:=@kc env r x k
  rw[b7] at h
  cases hx:x == n with
  | true =>
   by_cases hc:(k' == df && env.scope.kind == .function && env.kindOf n == aa .cell)=ae
   ·have e:k'=.free:=by
     have:=(b9 _ _ ▸ (b9 _ _ ▸ hc).1).1
     simpa using this
    exact⟨k',by simp[cK,hx],.inl e⟩
   ·simp only[ak hc,cK,hx] at h
    exact⟨k',by simp[cK,hx],.inr (ck h)⟩
  | false =>
   have h':(r.map λ(n,k)=>if (k == df && env.scope.kind == .function && env.kindOf n == aa .cell) then (n,mC) else (n,k)).lookup x=aa k:=by
    by_cases hc:(k' == df && env.scope.kind == .function && env.kindOf n == aa .cell)=ae
    ·simp only[ap hc,cK,hx] at h;exact h
    ·simp only[ak hc,cK,hx] at h;exact h
   obtain⟨q,e,r'⟩:=ih h'
   exact⟨q,by simp only[cK,hx];exact e,r'⟩
theorem Yh{env:Env}:∀ {names:List (Str × NameKind)} {x:Str},names.lookup x=aa .free ->
  ((names.map λ(n,k)=>if (k == df && env.scope.kind == .function && env.kindOf n == aa .cell) then (n,mC) else (n,k)).lookup x=aa .cell \/
   (names.map λ(n,k)=>if (k == df && env.scope.kind == .function && env.kindOf n == aa .cell) then (n,mC) else (n,k)).lookup x=aa .free)
 | [],_,h=>by simp at h
 | (n,k') :: r,x,h=>by
  have ih:=@Yh env r x
  rw[b7]
  cases hx:x == n with
  | true =>
   simp only[cK,hx] at h
   cases h
   by_cases hc:(df == df && env.scope.kind == .function && env.kindOf n == aa .cell)=ae
   ·left;simp only[ap hc,cK,hx]
   ·right;simp only[ak hc,cK,hx]
  | false =>
   simp only[cK,hx] at h
   by_cases hc:(k' == df && env.scope.kind == .function && env.kindOf n == aa .cell)=ae
   ·simp only[ap hc,cK,hx];exact ih h
   ·simp only[ak hc,cK,hx];exact ih h
theorem V0{env:Env}:∀(l:List (Str × NameKind)) (cs:List (Str × ag)),(∀y∈l,y.2=.free->∃c,env.cells.lookup y.1=aa c) ->
  (∀y c,cs.lookup y=aa c->env.cells.lookup y=aa c)->∀y c,(l.foldl (λcs y=>if y.2 == .free then (y.1,(env.cells.lookup y.1).getD 0) :: cs else cs) cs).lookup y=aa c->env.cells.lookup y=aa c
 | [],_,_,h,y,c,e=>h y c e
 | z :: r,cs,hl,h,y,c,e=>by
  rw[eF] at e
  refine V0 r _ (λy hy=>hl y (bE _ hy)) (λy' c' e'=>?_) y c e
  by_cases hz:z.2=.free
  ·obtain⟨c0,h0⟩:=hl z bC hz
   have hb:(z.2 == df)=ae:=by simpa using hz
   rw[ap hb,h0,cK] at e'
   cases hq:y' == z.1 with
   | true =>
    rw[hq] at e'
    have e2:y'=z.1:=by simpa using hq
    cases e'
    rw[e2];exact h0
   | false=>rw[hq] at e';exact h _ _ e'
  ·have hb:(z.2 == df)=ao:=by simpa using hz
   rw[hb] at e'
   exact h _ _ e'
theorem KG{env:Env}:∀(l:List (Str × NameKind)) (cs:List (Str × ag)) (y:Str),((∃c,cs.lookup y=aa c)\/(y,df)∈l) ->
  ∃c,(l.foldl (λcs y=>if y.2 == .free then (y.1,(env.cells.lookup y.1).getD 0) :: cs else cs) cs).lookup y=aa c
 | [],_,_,h=>h.elim id λz=>nomatch z
 | z :: r,cs,y,h=>by
  rw[eF]
  refine KG r _ y ?_
  rcases h with ⟨c,h⟩ | h
  ·left
   by_cases hz:(z.2 == df)=ae
   ·rw[ap hz,cK]
    cases y == z.1 with
    | true=>exact⟨_,rfl⟩
    | false=>exact⟨c,h⟩
   ·rw[ak hz];exact⟨c,h⟩
  ·rcases bS.mp h with h | h
   ·left
    subst h
    rw[ap (by rfl),cK]
    simp
   ·exact .inr h
theorem Jz{env:Env}:∀(l:List (Str × NameKind)) (cs:List (Str × ag)),(∀y∈l,y.2=.free->∃c,env.cells.lookup y.1=aa c) ->
  forIn (m:=Sem) l cs (λx r=>match x with | (name,kind)=>if (kind == df)=ae then do let c <-cellOf env name;pure (fU ((name,c) :: r)) else pure (fU r)) =
   pure (l.foldl (λcs y=>if y.2 == .free then (y.1,(env.cells.lookup y.1).getD 0) :: cs else cs) cs)
 | [],_,_=>rfl
 | (n,k) :: r,cs,h=>by
  rw[List.forIn_cons,eF]
  by_cases hz:(k == df)=ae
  ·obtain⟨c,hc⟩:=h (n,k) bC (by simpa using hz)
   have e:cellOf env n=pure c:=by unfold cellOf;rw[hc]
   simp only[hz,if_true,e,pure_bind]
   rw[Jz r _ λy hy=>h y (bE _ hy)]
   simp only[hc,Option.getD_some]
  ·simp only[hz,if_false,pure_bind]
   exact Jz r _ λy hy=>h y (bE _ hy)
theorem Yi(ok:X.Ok)(h:zbj osc N scope ix=ae)(hs:X.env.scope=osc)(hN:X.N=N):Za X scope (qj scope X.env) ix:=by
 subst hs hN
 unfold zbj at h
 rw[b9,b9,cZ,cZ] at h
 obtain⟨⟨h1,h2⟩,h3⟩:=h
 have p:∀y∈scope.names,y.2≠.cell/\(y.2=.local->scope.names.lookup y.1=aa .local)/\(y.2=.free->X.env.kindOf y.1=aa .cell\/X.env.kindOf y.1=aa .free):=λy hy=>by
  have q:=h2 y hy
  rw[b9,b9] at q
  obtain⟨⟨q1,q2⟩,q3⟩:=q
  refine⟨by simpa using q1,λe=>?_,λe=>?_⟩
  ·rw[e] at q2;simpa using q2
  ·rw[e] at q3
   have q3':X.env.scope.names.lookup y.1=aa .cell\/X.env.scope.names.lookup y.1=aa .free:=by simpa using q3
   exact q3'
 have f:∀y∈scope.names,y.2=.free->∃c,X.env.cells.lookup y.1=aa c:=λy hy e=>ok.has y.1 ((p y hy).2.2 e)
 refine⟨?_,λy hy=>(p y hy).1,by simpa using h1,λy hy=>(p y hy).2.1,λy c e=>V0 scope.names [] f (λ_ _ z=>by simp at z) y c e,λy hy=>?_,λi hi=>?_⟩
 ·have e:=Jz scope.names [] f
  unfold closureFor qj
  refine Eq.trans (congrArg (λm=>m >>= λs=>(pure s:Sem (List (Str × ag)))) e) ?_
  rw[pure_bind]
 ·refine KG scope.names [] y (.inr ?_)
  rcases hy with hy | hy
  ·obtain⟨k',e,z | z⟩:=kc hy
   ·subst z;exact wW e
   ·subst z;exact absurd rfl (p _ (wW e)).1
  ·obtain⟨k',e,z | z⟩:=kc hy
   ·subst z;exact wW e
   ·subst z;exact wW e
 ·have q:=h3 i hi
  cases hy:X.N[i]? with
  | none=>rw[hy] at q;cases q
  | some y =>
   rw[hy] at q
   have q':scope.names.lookup y=aa .free:=by simpa using q
   exact⟨y,rfl,(p _ (wW q')).2.2 rfl,Yh q'⟩
def Yj(ix:List Nat)(σ:St):St:=ix.map λi=>(σ[i]?).getD ai
def jK(ix:List Nat)(N:List Str):List Str:=ix.map λi=>(N[i]?).getD ""
section
variable {X:Cx}{pins:List (ag × Obj)}{σ:St}{H:Hp}{s:aj}{scope:az}{cl:List (Str × ag)}{ix:List Nat}{fp:List ag}{C:ag}{xs:List Str}
theorem Inv.compOk(I:Inv X pins σ H s)(S:Za X scope cl ix)(hC:C=s.heap.objs.size)(hf:∀b∈fp,qe X pins H b)(hl:∀b∈fp,b < s.heap.objs.size)(N':List Str) :
  (X.comp scope cl C N' fp s H).Ok where
 mod:=I.ok.mod
 kind:=S.kind
 glob:=I.ok.glob
 blt:=I.ok.blt
 above:=mX hC.symm
 inj:=λx y c h1 h2=>I.ok.inj x y c (S.sub x c h1) (S.sub y c h2)
 has:=λx hx=>S.has x hx
 cab:=λx c h1 _=>nomatch h1
 hd:=I.ok.hd
 frames:=I.ok.frames
 stk:=.inl rfl
 exf:=λb hb=>⟨λz=>absurd (hl b hb) (by rw[z];show ¬ C < _;rw[hC];exact gf _),λx c h=>(hf b hb).2.2.2.2.1 x c (S.sub x c h)⟩
 bs:=I.bs
 bsz:=bR I.ok.bsz I.sz
 noex:=λb o e hb=>by
  rcases(hf b hb).2.2.2.1 with z | z
  ·exact I.ok.noex b o e z
  ·exact absurd (cg (bY e) (bR I.ok.bsz z)) (gf _)
 exfs:=λb hb z=>by
  rcases bS.mp (I.stkSub b z) with e | e
  ·exact(hf b hb).2.1 e
  ·exact(hf b hb).2.2.1 e
 funs:=I.stack
 frf:=I.stkFree
theorem Inv.comp{h₁:aw}{m₁:Str->Option af}{t':Nat}(I:Inv X pins σ H s)(S:Za X scope cl ix)(hC:C=s.heap.objs.size)(hf:∀b∈fp,qe X pins H b)(hl:∀b∈fp,b < s.heap.objs.size)
  (hn:h₁.Ns C m₁) (hk:∀b o,s.heap.get? b=aa o->h₁.get? b=aa o) :
  Inv (X.comp scope cl C (xs ++ jK ix X.N) fp s H) [] (bG xs.length ai ++ Yj ix σ) H { s with heap:=h₁,toks:=t' } where
 ok:=I.compOk S hC hf hl _
 os:=rfl
 bare:=I.bare
 base:=Un.kept hk
 loc:=by
  refine⟨m₁,hn,λi y v e1 e2 e3=>?_⟩
  by_cases hi:i < xs.length
  ·rw[c8 (by simpa using hi),mw,ap hi] at e2
   cases e2
  ·have e1':(xs ++ jK ix X.N)[i]?=aa y:=e1
   rw[cI (by lia)] at e1'
   rw[cI (by rw[fS];lia),fS] at e2
   generalize i - xs.length=j at e1' e2
   unfold jK at e1'
   unfold Yj at e2
   rw[bW] at e1' e2
   cases hj:ix[j]? with
   | none=>rw[hj] at e1';cases e1'
   | some k =>
    rw[hj] at e1' e2
    obtain⟨y',c1,c2,c3⟩:=S.cap k (bD hj)
    have ey:y'=y:=by
     have q:(X.N[k]?).getD ""=y:=ck e1'
     rw[c1] at q
     exact q
    subst ey
    have ev:σ[k]?=aa (aa v):=by
     have q:(σ[k]?).getD ai=aa v:=ck e2
     cases hs:σ[k]? with
     | none=>rw[hs] at q;cases q
     | some o=>rw[hs] at q;exact congrArg aa q
    obtain⟨m,hm,hv⟩:=I.loc
    obtain⟨u,r,l⟩:=hv k y' v c1 ev (c2.elim (λz=>.inr (.inl z)) λz=>.inr (.inr z))
    refine⟨u,r,.inr ⟨c3,?_⟩⟩
    rcases l with ⟨l1,_⟩ | ⟨_,c,lc,⟨o,ho,hd⟩⟩
    ·rcases c2 with z | z <;> (rw[l1] at z;cases z)
    ·obtain⟨c',hc'⟩:=S.has y' c3
     have e:=S.sub _ _ hc'
     rw[lc] at e
     cases e
     exact⟨c,hc',o,hk _ _ ho,hd⟩
 cell:=λx c e=>by
  obtain⟨v,o,ho,hd⟩:=I.cell x c (S.sub x c e)
  exact⟨v,o,hk _ _ ho,hd⟩
 free:=I.hok.fresh (mX hC.symm)
 freeC:=λx c e=>I.freeC x c (S.sub x c e)
 pin:=λp hp=>absurd (show p∈([]:List (ag × Obj)) from hp) (by simp)
 hok:=I.hok.kept hk
 len:=by
  show (bG xs.length ai ++ Yj ix σ).length=(xs ++ jK ix X.N).length
  rw[bt,bt,fS,Yj,jK,bu,bu]
theorem Inv.uncomp{σ':St}{H':Hp}{N':List Str}{h':aw}(I:Inv X pins σ H s)(hC:C=s.heap.objs.size)(hf:∀b∈fp,qe X pins H b)
  (J:Inv (X.comp scope cl C N' fp s H) [] σ' H' s') (hb:dA C s'.heap h'):Inv X pins σ H' { s' with heap:=h' }:=by
 have lt:∀b o,s.heap.get? b=aa o->b≠C:=λb o e=>by
  rw[hC];exact cz (bY e)
 have B:Un (frs X.stack) fp H H' s.heap s'.heap:=J.base
 refine I.call' (s':={ s' with heap:=h' }) (ch:=fp) J.os ?_ ?_ J.bare ?_
 ·exact⟨λb o e n h1 h2=>(hb.2 b (lt b o e)).trans (B.keep b o e n h1 h2),λb o e n h1 h2=>by
   obtain⟨sl,q⟩:=B.slot b o e n h1 h2
   exact⟨sl,(hb.2 b (lt b o e)).trans q⟩,B.free,λb o e h1=>by
   obtain⟨o',q⟩:=B.there b o e h1
   exact⟨o',(hb.2 b (lt b o e)).trans q⟩,B.tups,B.frzs,B.tbls⟩
 ·intro b o e
  refine(J.hok b o e).stay (λc u hc q=>(hb.2 c ?_).trans q) (λ_ q=>q) λ_ _ q=>q
  have hC0:H' C=ai:=J.free
  rintro rfl
  rcases hc with rfl | hc
  ·rw[hC0] at e;cases e
  ·rw[hC0] at hc;cases hc
 ·intro b hb'
  obtain⟨f0,f1,f2,f3,f4,f5⟩:=hf b hb'
  exact⟨f3,f1,f4,f5⟩
end
def PTs(X:Cx)(ifs:List ay)(t:TT):Prop :=
 ∀(pins:List (ag × Obj)) (s:aj) (σ:St) (H:Hp) (Q:Bool->Hp->Prop),Inv X pins σ H s->t σ H Q ->
  wpAny (model X.prog X.w) X.A (forIn ifs ae λc r=>if r=ae then do let ok <-isTrue c X.env (eval c X.env);pure (fU ok) else pure (fU r)) (TP X pins σ Q) X.xe s
def YM:TT:=λ_ H Q=>Q ae H
theorem Zb :PTs X [] YM:=λ_ _ _ H _ I h=>wpAny_tests_nil ⟨H,I,h⟩
theorem JA(h:PT X c t):PTs X [c] t:=λpins s σ H Q I q=>wpAny_tests_one (h pins s σ H Q I q)
section
variable {prog:aq}{w:au}{A:av}{R:aA->aj->Prop}{s:aj}
theorem JB{elt target iter:ay}{ifs:List ay}{scope:az}{pos:Pos}{it acc:af}{env:Env}(W:Nat->aj->Prop){EE:af->aj->Prop}
  (hE:∀e s',EE e s'->notedBy (model prog w) A env (λe s'=>R (.error e) s') e s')
  (turn:∀n s,W n s->wpAny (model prog w) A (pyNext it) (λr s₁=>match r with
   | none=>R (.ok .next) s₁
   | some v=>wpAny (model prog w) A (letOwnedTupleGo target it v) (λ_ t₁=>wpAny (model prog w) A (assign target env v) (λ_ s₂ =>
     wpAny (model prog w) A (forIn ifs ae λc r=>if r=ae then do let ok <-isTrue c env (eval c env);pure (fU ok) else pure (fU r)) (λok s₃ =>
      if ok=ae then wpAny (model prog w) A (eval elt env) (λx s₄=>wpAny (model prog w) A (call (.builtin "list.append") [acc,x]) (λ_ s₅=>∃m,m < n/\W m s₅) EE s₄) EE s₃
      else ∃m,m < n/\W m s₃) EE s₂) EE t₁) EE s₁) EE s)
  (n:Nat) (h:W n s):codeAny (model prog w) A (.compLoop (.ListComp elt [⟨target,iter,ifs,0⟩] scope pos) 0 it acc env) R s:=by
 refine codeAny_loop rfl W (λn s hW=>?_) n h
 show wpAny _ A ((compTurn (.ListComp elt [⟨target,iter,ifs,0⟩] scope pos) 0 it acc env).onRaise (λx=>do noteFrame x env;theTreesLotGoes x)) _ _ s
 refine wpAny_noted (dh ?_ (λ_ _ q=>q) hE)
 rw[compTurn_list]
 refine bi (wpAny_standAt (bi (thn (turn n s hW) λr s₁ h₁=>?_)))
 cases r with
 | none=>exact bw h₁
 | some v =>
  refine bi (thn h₁ λ_ t₁ k₁=>?_)
  refine bi (thn k₁ λ_ s₂ h₂=>bi (thn h₂ λok s₃ h₃=>?_))
  cases ok with
  | false=>exact bw ⟨rfl,h₃⟩
  | true=>exact bi (bi (thn h₃ λx s₄ h₄=>bi (thn h₄ λ_ s₅ h₅=>bw (bw ⟨rfl,h₅⟩))))
end
def xI(wi:TI)(g:TG)(tt:TT)(te:TE)(k:Nat)(ix:List Nat):TE:=λσ H Q=>wi σ H λJ H1=>∀D,H1 D=ai ->
 ∃W:Nat->Nat->List V->St->Hp->Prop,(∃m,W 0 m [] (bG k ai ++ Yj ix σ) (upd H1 D (.lst [])))/\∀i m ys τ H,W i m ys τ H->H D=aa (.lst ys) /\
  ((J.stop i H/\Q (.ref D) H)\/(J.go i H/\ys.length < sizeLine/\∃N:V->St->Hp->Prop,
   (∀v τ' H',N v τ' H'->H' D=aa (.lst ys)/\∃m',m' < m/\W (i + 1) m' (ys ++ [v]) τ' (upd H' D (.lst (ys ++ [v]))))/\∃Nf:St->Hp->Prop,(∀τ' H',Nf τ' H'->∃m',m' < m/\W (i + 1) m' ys τ' H') /\
   ∀x H',J.yld i H x H'->g x τ H' λτ2 H2=>tt τ2 H2 λb H3=>if b=ae then te τ2 H3 λv H4=>N v τ2 H4 else Nf τ2 H3))
section
variable {X:Cx}{elt iter tg:ay}{ifs:List ay}{scope:az}{pos:Pos}{cl:List (Str × ag)}{ix:List Nat}{xs:List Str}{wi:TI}{g:TG}{tt:TT}{te:TE}
theorem Wl(S:Za X scope cl ix)(hc:X.calm=ae)(hi:PI X tg iter wi)
  (hg:∀C fp s H,PG (X.comp scope cl C (xs ++ jK ix X.N) fp s H) tg g) (ht:∀C fp s H,PTs (X.comp scope cl C (xs ++ jK ix X.N) fp s H) ifs tt)
  (he:∀C fp s H,PE (X.comp scope cl C (xs ++ jK ix X.N) fp s H) elt te)
  {s:aj} {σ:St} {H:Hp} {Q:VK} (I:Inv X pins σ H s) (h:xI wi g tt te xs.length ix σ H Q) {RR:af->ag->aA->aj->Prop}
  (hR:∀v u s' C,RelV v u->(∃H',Q v H'/\(∃m,s'.heap.Ns C m)/\(∀h',dA C s'.heap h'->Inv X pins σ H' { s' with heap:=h' })/\qe X pins H' C)->RR u C (.ok .next) s') :
  wpAny (model X.prog X.w) X.A (eval iter X.env) (λx s₁=>wpAny (model X.prog X.w) X.A (pyIter x) (λit s₂=>wpAny (model X.prog X.w) X.A (newList []) (λacc s₃ =>
   wpAny (model X.prog X.w) X.A (newFunctionEnv scope X.env.globals cl [] X.env.qual ai .none (aa X.env)) (λcenv s₄ =>
    codeAny (model X.prog X.w) X.A (.compStart (.ListComp elt [⟨tg,iter,ifs,0⟩] scope pos) 0 it acc { cenv with scope:=relabel scope X.env }) (RR acc cenv.locals) s₄) X.xe s₃) X.xe s₂) X.xe s₁) X.xe s:=by
 refine thn (hi pins s σ H _ I h) λv s1 h1=>thn h1 λitv s2 h2=>?_
 obtain⟨it,fp,tn,J,H2,e,I2,T,st2,f2,hW⟩:=h2
 subst e
 refine dv (wpAny_newFunctionEnv S.nocell (λy hy=>nomatch hy) (λh₁ hns₁ hsb₁=>?_) S.kind)
 dsimp only at hns₁ hsb₁ ⊢
 obtain⟨W,⟨m0,w0⟩,turn⟩:=hW s2.heap.objs.size I2.fresh
 have I3:=I2.lnew (t':=s2.toks) (ys:=[]) (its:=[]) .nil (cp _)
 have hl3:∀b∈fp,b < s2.heap.objs.size:=λb hb=>by
  obtain⟨o,e,_⟩:=T.obj _ _ st2 b hb
  exact bY e
 generalize hs3:({ s2 with heap:=s2.heap.push { cls:=.type "list",data:=.seq ([]:List af).toArray },toks:=s2.toks }:aj)=s3 at I3
 have hs3h:s3.heap=s2.heap.push { cls:=.type "list",data:=.seq ([]:List af).toArray }:=by rw[<-hs3]
 have hsz:s3.heap.objs.size=s2.heap.objs.size + 1:=by rw[hs3h,ip]
 have f3:∀b∈fp,qe X pins (upd H2 s2.heap.objs.size (.lst [])) b:=λb hb=>by
  obtain⟨q0,q⟩:=f2 b hb
  exact⟨by rw[zl (cz (hl3 b hb))];exact q0,q⟩
 have hl3':∀b∈fp,b < s3.heap.objs.size:=λb hb=>by rw[hsz];exact Nat.lt_succ_of_lt (hl3 b hb)
 rw[<-hs3h] at hns₁ hsb₁ ⊢
 have hk:∀b o,s3.heap.get? b=aa o->h₁.get? b=aa o:=λb o e=>(hsb₁.2 b (cz (bY e))).trans (bo _ e)
 have hk2:∀b o,s2.heap.get? b=aa o->s3.heap.get? b=aa o:=λb o e=>by rw[hs3h];exact bo _ e
 have J0:=I3.comp (xs:=xs) (t':=s2.toks) (C:=s3.heap.objs.size) S rfl f3 hl3' hns₁ hk
 have st3:tn 0 h₁:=T.keep _ _ _ st2 λb _ o e=>hk b o (hk2 b o e)
 have loop:∀tk,codeAny (model X.prog X.w) X.A (.compLoop (.ListComp elt [⟨tg,iter,ifs,0⟩] scope pos) 0 (.ref it) (.ref s2.heap.objs.size) (compEnvC scope cl s3.heap.objs.size X.env))
   (RR (.ref s2.heap.objs.size) s3.heap.objs.size) { s3 with heap:=h₁,toks:=tk }:=by
  intro tk
  refine JB (EE:=λ_ _=>False) (λn s'=>∃i ys τ H',Inv (X.comp scope cl s3.heap.objs.size (xs ++ jK ix X.N) fp s3 (upd H2 s2.heap.objs.size (.lst []))) [] τ H' s'/\tn i s'.heap/\(∀b∈fp,H' b=ai)/\W i n ys τ H')
   (λ_ _ z=>z.elim) ?_ m0 ⟨0,[],_,_,J0.tok tk,st3,λb hb=>(f3 b hb).1,w0⟩
  rintro n s' ⟨i,ys,τ,H',I',st',fr',w'⟩
  have stat:∀ {H':Hp},(∀b∈fp,H' b=ai)->∀b∈fp,qe (X.comp scope cl s3.heap.objs.size (xs ++ jK ix X.N) fp s3 (upd H2 s2.heap.objs.size (.lst []))) [] H' b:=λhn b hb =>
   ⟨hn b hb,(I'.ok.exf b hb).1,I'.ok.exfs b hb,.inl hb,(I'.ok.exf b hb).2,λp hp=>absurd (show p∈([]:List (ag × Obj)) from hp) (by simp)⟩
  obtain⟨hD,⟨stop,q⟩ | ⟨go,hz,N,hN,Nf,hNf,step⟩⟩:=turn i n ys τ H' w'
  ·refine thn (T.done (X.comp scope cl s3.heap.objs.size (xs ++ jK ix X.N) fp s3 (upd H2 s2.heap.objs.size (.lst []))) rfl rfl rfl hc i [] s' τ H' _ I' (stat fr') st' stop) λr s4 ⟨hr,I4⟩=>?_
   subst hr
   refine hR (.ref s2.heap.objs.size) _ s4 _ rfl ⟨H',q,?_,λh' hb=>I3.uncomp rfl f3 I4 hb,I3.fpOk (bq _) I4.free⟩
   obtain⟨m,hn,_⟩:=I4.loc
   exact⟨m,hn⟩
  ·refine thn (T.item (X.comp scope cl s3.heap.objs.size (xs ++ jK ix X.N) fp s3 (upd H2 s2.heap.objs.size (.lst []))) rfl rfl rfl hc i [] s' τ H' _ I' (stat fr') st' go) λr s4 ⟨u,hr,h4⟩=>?_
   subst hr
   refine thn h4 λ_ s5 ⟨x,H5,I5,r5,y5,st5,fr5⟩=>?_
   have I5':=I5.pinned (stat fr5) (T.obj _ _ st5)
   refine thn (hg _ _ _ _ _ s5 τ H5 x u _ I5' r5 (step x H5 y5)) λ_ s6 ⟨τ6,H6,I6,q6⟩=>?_
   refine thn (ht _ _ _ _ _ s6 τ6 H6 _ I6 q6) λok s7 ⟨H7,I7,q7⟩=>?_
   have back:∀ {s8:aj} {H8:Hp} {m:Nat} {zs:List V},Inv (X.comp scope cl s3.heap.objs.size (xs ++ jK ix X.N) fp s3 (upd H2 s2.heap.objs.size (.lst []))) ([] ++ Wa fp s5.heap) τ6 H8 s8->W (i + 1) m zs τ6 H8 ->
     ∃i ys τ H',Inv (X.comp scope cl s3.heap.objs.size (xs ++ jK ix X.N) fp s3 (upd H2 s2.heap.objs.size (.lst []))) [] τ H' s8/\tn i s8.heap/\(∀b∈fp,H' b=ai)/\W i m ys τ H':=λ{s8 H8 m zs} I8 w8=>by
    refine⟨i + 1,zs,τ6,H8,I8.unpinned,T.keep _ _ _ st5 λb hb o e=>(I8.pin (b,o) (bT _ (bT _ (j4 hb e)))).1,λb hb=>?_,w8⟩
    obtain⟨o,e,d⟩:=T.obj _ _ st5 b hb
    exact(I8.pin (b,o) (bT _ (bT _ (j4 hb e)))).2.1
   cases ok with
   | false =>
    rw[ak bO] at q7 ⊢
    obtain⟨m',hm,w7⟩:=hNf _ _ q7
    exact⟨m',hm,back I7 w7⟩
   | true =>
    rw[ap rfl] at q7 ⊢
    refine thn (he _ _ _ _ _ s7 τ6 H7 _ I7 q7) λy s8 ⟨v8,H8,I8,r8,n8⟩=>?_
    obtain⟨hD8,m',hm,w8⟩:=hN _ _ _ n8
    refine thn (xc _ s8 τ6 H8 (.ref s2.heap.objs.size) [v8] (.ref s2.heap.objs.size) [y] (λ_ Hn=>∃m,m < n/\W (i + 1) m (ys ++ [v8]) τ6 Hn) I8 rfl (.cons r8 .nil) ⟨_,ys,v8,rfl,rfl,hD8,hz,m',hm,w8⟩) λ_ s9 ⟨_,H9,I9,_,m9,hm9,w9⟩=>?_
    exact⟨m9,hm9,back I9 w9⟩
 have e3:∀tk,({ s3 with heap:=h₁,toks:=tk }:aj)={ s2 with heap:=h₁,toks:=tk }:=λtk=>by rw[<-hs3]
 have loop':∀tk,codeAny (model X.prog X.w) X.A (.compLoop (.ListComp elt [⟨tg,iter,ifs,0⟩] scope pos) 0 (.ref it) (.ref s2.heap.objs.size) (compEnvC scope cl s3.heap.objs.size X.env))
   (RR (.ref s2.heap.objs.size) s3.heap.objs.size) { s2 with heap:=h₁,toks:=tk }:=λtk=>by rw[<-e3];exact loop tk
 exact codeAny_compStart_list (loop' _) (T.self _ 0 _ _ _ st3 (loop' _))
theorem ke(hc:X.calm=ae)(hD:zbj osc N scope ix=ae)(hi:PI X tg iter wi)
  (hg:∀C fp s H,PG (X.comp scope (qj scope X.env) C (xs ++ jK ix X.N) fp s H) tg g) (ht:∀C fp s H,PTs (X.comp scope (qj scope X.env) C (xs ++ jK ix X.N) fp s H) ifs tt)
  (he:∀C fp s H,PE (X.comp scope (qj scope X.env) C (xs ++ jK ix X.N) fp s H) elt te) (hsc:X.env.scope=osc:=by rfl) (hN:X.N=N:=by rfl) (hs:∀x,foldedSetIterable iter X.env x=pure x:=by intro _;rfl) :
  PE X (.ListComp elt [⟨tg,iter,ifs,0⟩] scope pos) (xI wi g tt te xs.length ix):=by
 intro pins s σ H Q I h
 have S:=Yi I.ok hD hsc hN
 rw[eval_ListComp]
 refine mf (use:=ai) rfl hs S.clos S.kind S.names (Wl S hc hi hg ht he I h (RR:=λacc C=>compPost (model X.prog X.w) X.A X.xe ai (EP X pins σ Q) acc C) ?_)
 rintro v u s' C r ⟨H',q,⟨m,hn⟩,hI,_⟩
 exact⟨m,hn,λh' hb=>⟨v,H',hI h' hb,r,q⟩⟩
theorem Wm{N:List Str}{y:Str}{py:Pos}{j:Nat}{spos:Pos}(hNd:X.N.Nodup)(hj:X.N[j]?=aa y)(hc:X.calm=ae)(hy:Loc X.env.scope y)(hD:zbj osc N scope ix=ae)(hi:PI X tg iter wi)
  (hg:∀C fp s H,PG (X.comp scope (qj scope X.env) C (xs ++ jK ix X.N) fp s H) tg g) (ht:∀C fp s H,PTs (X.comp scope (qj scope X.env) C (xs ++ jK ix X.N) fp s H) ifs tt)
  (he:∀C fp s H,PE (X.comp scope (qj scope X.env) C (xs ++ jK ix X.N) fp s H) elt te) (hsc:X.env.scope=osc:=by rfl) (hN:X.N=N:=by rfl)
  (hsw:swapsWith (.ListComp elt [⟨tg,iter,ifs,0⟩] scope pos) (aa (.Name y py)) spos.line X.env=pure ae:=by rfl)
  (hs:∀x,foldedSetIterable iter X.env x=pure x:=by intro _;rfl) (hf:X.fn y=ae\/X.env.scope.names.lookup y=aa .local:=by first | exact .inl rfl | exact .inr rfl | assumption) :
  PS X (.Assign [.Name y py] (.ListComp elt [⟨tg,iter,ifs,0⟩] scope pos) spos) (zJ (xI wi g tt te xs.length ix) (zm j)):=by
 intro pins s σ H D I h
 have S:=Yi I.ok hD hsc hN
 rw[exec_Assign_Name_used _ _ _ _ hsw]
 refine bi (wpAny_standAt (bi ?_))
 show wpAny _ X.A (do let _ <-comprehension (.ListComp elt [⟨tg,iter,ifs,0⟩] scope pos) scope X.env _ (newList []) ao (eval iter X.env) (aa (assign (.Name y py) X.env))) _ _ s
 refine bi (thn (mf (use:=aa (assign (.Name y py) X.env)) (Q:=λ_ s'=>SP X pins D .next s') rfl hs S.clos S.kind S.names
  (Wl S hc hi hg ht he I h (RR:=λacc C=>compPost (model X.prog X.w) X.A X.xe (aa (assign (.Name y py) X.env)) (λ_ s'=>SP X pins D .next s') acc C) ?_)) λ_ s' hq=>bw (bw hq))
 rintro v u s' C r ⟨H',q,⟨m,hn⟩,hI,f0,f1,f2,f3,f4,f5⟩
 have I':Inv X pins σ H' s':=hI s'.heap (.refl ..)
 show wpAny _ X.A (assign (.Name y py) X.env u) _ _ _
 refine wpAny_assign_Name (VP I' hNd hj hy r (λs2 I2 hx=>?_) hf)
 obtain⟨a,hb,ha⟩:=hx
 have hCa:C≠a:=by
  rcases ha with rfl | ha
  ·exact f1
  ·exact cH (f4 _ _ ha)
 refine⟨m,hn.sameBut hb hCa,λh' hb'=>⟨_,H',?_,q⟩⟩
 exact I2.turned (t':=s2.toks) (λb o hne e=>(hb'.2 b hne).trans e) f0 f1 f3 f4 f5
end
abbrev kR:R2:=λx y H Q=>∃i j,x=.str i/\y=.str j/\i.length + j.length<=sizeLine/\Q (.str (i ++ j)) H
abbrev zhK:R2:=λx y H Q=>∃a b,x=.bl a/\y=.bl b/\Q (.bl (a == b)) H
abbrev zbk:R2:=λx y H Q=>∃a b,x=.bl a/\y=.bl b/\Q (.bl (a != b)) H
abbrev zc4:R2:=λx y H Q=>y=.non/\Q (.bl (decide (x=.non))) H
abbrev zbl:R2:=λx y H Q=>y=.non/\Q (.bl (!decide (x=.non))) H
abbrev RC:=List V->Hp->VK->Prop
abbrev xy(K:bz):RC:=λxs H Q=>∃x n,xs=[x]/\Zn K x H n/\Q (.int n) H
abbrev YN(K:bz):RC:=λxs H Q=>∃x c t b,xs=[x,c]/\YJ K H x t/\(∃T,c=.ty T/\lN K t (.type T)=aa b)/\Q (.bl b) H
abbrev RM:=V->List V->Hp->VK->Prop
theorem zfb{H:Hp}(h:H p=ai):∃H',H'=upd H p o/\Same H H'/\H' p=aa o:=
 ⟨_,rfl,λb u e=>by rw[zl (zG e h)];exact e,zf⟩
theorem isV(p:ag){H:Hp}(h:H p=ai):Same H (upd H p o):=λb u e=>by rw[zl (zG e h)];exact e
theorem zU(h:n<=100000):n<=sizeLine:=bR h (by decide)
theorem yX:bootBuiltins "len"=aa (.builtin "len"):=by decide +kernel
theorem yA:bootBuiltins "isinstance"=aa (.builtin "isinstance"):=by decide +kernel
theorem zgQ:bootBuiltins "any"=aa (.builtin "any"):=by decide +kernel
theorem Zc:bootBuiltins "sorted"=aa (.builtin "sorted"):=by decide +kernel
theorem JC:bootBuiltins "enumerate"=aa (.type "enumerate"):=by decide +kernel
theorem zgR:bootBuiltins "str"=aa (.type "str"):=by decide +kernel
theorem zgS:bootBuiltins "int"=aa (.type "int"):=by decide +kernel
theorem zfc:bootBuiltins "bool"=aa (.type "bool"):=by decide +kernel
theorem wO:bootBuiltins "list"=aa (.type "list"):=by decide +kernel
theorem Yk:bootBuiltins "tuple"=aa (.type "tuple"):=by decide +kernel
theorem X0:bootBuiltins "dict"=aa (.type "dict"):=by decide +kernel
section
variable {X:Cx}
def big:Int:=10 ^ 200
def zc5(_ j:Int):Prop:=0 < j/\j < big
def CMulB(i j:Int):Prop:=(-big < i/\i < big)/\(-big < j/\j < big)
theorem Wn{j:Int}(h:j.natAbs < 10 ^ 200):j.natAbs.log2 < 700:=by
 by_cases h0:j.natAbs=0
 ·rw[h0];decide
 ·exact(Nat.log2_lt h0).mpr (cg h (by decide +kernel))
theorem JD{j:Int}(h:-big < j/\j < big):j.natAbs < 10 ^ 200:=by
 have e:big=((10 ^ 200:Nat):Int):=by decide +kernel
 rw[e] at h
 lia
theorem CMulB.ok{i j:Int}(h:CMulB i j):IntMulOk i j:=by
 have b:∀k:Int,(-big < k/\k < big)->i8 k<=2 ^ 20:=λk hk=>by
  have q:=Wn (JD hk)
  unfold i8
  split <;> lia
 exact .of_bits (b i h.1) (b j h.2)
theorem wP:OpR X (binaryOp .Mult) (rI CMulB λi j=>.int (i * j)):=opI λ_ _ _ _ _ _ _ hc q=>mul_int q hc.ok
theorem zc6:OpR X (binaryOp .FloorDiv) (rI zc5 λi j=>.int (i / j)):=opI λi j _ _ _ _ _ hc q=>by
 have h1:(0:Int) < j:=hc.1
 refine floordiv_int (by lia) ?_ (.inl (mh (lR (Wn (JD ⟨by have:=hc.2;lia,hc.2⟩)) (by decide))))
 rw[Int.fdiv_eq_ediv_of_nonneg i (by lia)]
 exact q
theorem zc7:OpR X (compareOp .Is) (λx y H Q=>∃a b,x=.bl a/\y=.bl b/\Q (.bl (a == b)) H):=by
 intro pins s σ H x y v u Q I rx ry h
 obtain⟨a,b,rfl,rfl,q⟩:=h
 cases rx
 cases ry
 exact is_bool ⟨.bl (a == b),H,I,rfl,q⟩
theorem KH:OpR X (compareOp .IsNot) (λx y H Q=>∃a b,x=.bl a/\y=.bl b/\Q (.bl (a != b)) H):=by
 intro pins s σ H x y v u Q I rx ry h
 obtain⟨a,b,rfl,rfl,q⟩:=h
 cases rx
 cases ry
 exact isnot_bool ⟨.bl (a != b),H,I,rfl,q⟩
theorem wX:kQ X (.builtin "isinstance") (YN X.K):=by
 intro pins s σ H xs us Q I r h
 obtain⟨x,c,t,b,rfl,ty,⟨T,rfl,e⟩,q⟩:=h
 obtain⟨u,w',rfl,r1,r2⟩:=zhF r
 cases r2
 exact zb4 I r1 ty e λtk=>⟨.bl b,H,I.tok tk,rfl,q⟩
def zao:V->Option Int->Option Int->Hp->VK->Prop:=λx lo hi H Q=>∃z,x=.str z/\z.length<=sizeLine/\Q (.str (fG z lo hi)) H
theorem JE:SlR X zao:=by
 intro pins s σ H x v vl vu lo hi sl Q I rx hs pl pu h
 obtain⟨z,rfl,hz,q⟩:=h
 obtain⟨t,rfl⟩:=rx
 obtain⟨o,ho,hc,hd⟩:=hs
 refine⟨"str",_,nW.lookup,oy _ _ _,?_⟩
 obtain⟨l,e1,e2⟩:∃l:Option (Int × Tok),vl=partValue l/\lo=l.map (·.1):=by
  cases pl with
  | none=>exact⟨ai,rfl,rfl⟩
  | int i t=>exact⟨aa (i,t),rfl,rfl⟩
 obtain⟨u,e3,e4⟩:∃l:Option (Int × Tok),vu=partValue l/\hi=l.map (·.1):=by
  cases pu with
  | none=>exact⟨ai,rfl,rfl⟩
  | int i t=>exact⟨aa (i,t),rfl,rfl⟩
 subst e1 e2 e3 e4
 exact mD (l:=l) (u:=u) (st:=ai) ⟨o,ho,hc,hd⟩ rfl
  (post_val_or_str ⟨bR (Txt.slice_le z _ _) hz,λt' k=>⟨.str (fG z (l.map (·.1)) (u.map (·.1))),H,I.tok k,⟨t',rfl⟩,q⟩⟩)
end
theorem ObjOk.there{H:Hp}(x:ObjOk P w H h a o):∃u,h.get? a=aa u:=by
 cases o with
 | lst xs=>obtain⟨_,_,_,_,e⟩:=x;exact⟨_,e⟩
 | tup xs=>obtain⟨_,_,_,o,e,_⟩:=x;exact⟨_,e⟩
 | dK kvs=>obtain⟨_,_,_,_,o,_,_,e,_⟩:=x;exact⟨_,e⟩
 | dT kvs=>obtain⟨_,_,_,_,o,_,_,e,_⟩:=x;exact⟨_,e⟩
 | set S n=>obtain⟨o,_,_,_,e,_⟩:=x;exact⟨_,e⟩
 | ins C dx fs=>obtain⟨_,_,_,e,_⟩:=x;exact⟨_,e⟩
 | own y=>exact x
 | xd fs=>obtain⟨_,⟨o,_,_,e,_⟩,_⟩:=x;exact⟨_,e⟩
 | rng lo hi=>obtain⟨_,_,_,e⟩:=x;exact⟨_,e⟩
 | frz ob u=>obtain⟨e,_⟩:=x;exact⟨_,e⟩
 | tbl ps=>exact⟨_,(show h.get? a=aa _ from x)⟩
 | met f y=>exact⟨_,(show h.get? a=aa _ from x)⟩
 | ext φ=>obtain⟨_,e,_⟩:=x;exact e
def XF(g h:aw)(H:Hp)(e:ag)(cls:af):Prop :=
 ∃oe vs a0 T oT ts,h.get? e=aa oe/\(oe.cls=cls/\vs[0]?=aa a0)/\oe.data=.fields vs/\vs[1]?=aa (.ref T)/\T≠e/\h.get? T=aa oT/\oT.data=.fields ts/\ts[3]?=aa .none /\
  g.get? e=ai/\g.get? T=ai/\H e=ai/\H T=ai
def CX1(P:aq)(w:au):CXT:=λouter H s E ev s'=>∃e cls H',ev=.ref e/\s'.os=s.os/\AllBare s'.gens/\Un (frs outer) [] H H' s.heap s'.heap/\HOk P w H' s'.heap/\XF s.heap s'.heap H' e cls/\E cls ai H'
theorem jL{g h:aw}(k:∀b o,g.get? b=aa o->∃o',h.get? b=aa o')(e:h.get? b=ai):g.get? b=ai:=by
 cases q:g.get? b with
 | none=>rfl
 | some o =>
  obtain⟨o',z⟩:=k b o q
  rw[e] at z;cases z
theorem XF.older{H:Hp}(x:XF g h H e cls)(k:∀b o,g'.get? b=aa o->∃o',g.get? b=aa o'):XF g' h H e cls:=by
 obtain⟨oe,vs,a0,T,oT,ts,h1,h2,h3,h4,h5,h6,h7,h8,h9,h10,h11,h12⟩:=x
 exact⟨oe,vs,a0,T,oT,ts,h1,h2,h3,h4,h5,h6,h7,h8,jL k h9,jL k h10,h11,h12⟩
section
variable {X:Cx}{pins:List (ag × Obj)}{σ:St}{H:Hp}{s:aj}
theorem Inv.stackFields(J:Inv X pins σ H s)(hb:b∈frs X.stack):∃o,s.heap.get? b=aa o/\∀vs,o.data≠.fields vs:=(J.stack.mem hb).2
theorem Inv.there0(hex:X.ex=[])(J:Inv X pins σ H s):∀b o,X.s₀.heap.get? b=aa o->∃o',s.heap.get? b=aa o':=λb o e=>J.base.there b o e (by rw[hex];simp)
theorem Inv.behind{cs:List ag}(hex:X.ex=[])(J:Inv X pins σ H s)(hcs:∀b∈cs,H b=ai/\X.s₀.heap.get? b=ai)
  (hB:∀b o,s.heap.get? b=aa o->b ∉ frs X.stack->b ∉ cs->h2.get? b=aa o) (hF:∀b o,s.heap.get? b=aa o->b∈frs X.stack->∃sl,h2.get? b=aa { o with slots:=sl }) :
  Un X.fs [] X.H₀ H X.s₀.heap h2/\HOk X.prog X.w H h2:=by
 have B:Un X.fs [] X.H₀ H X.s₀.heap s.heap:=by have:=J.base;rw[hex] at this;exact this
 have nL:∀b o,X.s₀.heap.get? b=aa o->b≠X.env.locals:=λb o e=>cz (cg (bY e) J.ok.above)
 have nC:∀b o,X.s₀.heap.get? b=aa o->b ∉ cs:=λb o e z=>by rw[(hcs b z).2] at e;cases e
 have any:∀b o,s.heap.get? b=aa o->b ∉ cs->∃sl,h2.get? b=aa { o with slots:=sl }:=λb o e n=>by
  by_cases hb:b∈frs X.stack
  ·exact hF b o e hb
  ·exact⟨o.slots,hB b o e hb n⟩
 refine⟨⟨λb o e n h1 _=>?_,λb o e n h1 _=>?_,B.free,λb o e h1=>?_,B.tups,B.frzs,B.tbls⟩,λb u e=>?_⟩
 ·refine hB b o (B.keep b o e n h1 (by simp)) (λz=>?_) (nC b o e)
  rcases bS.mp (J.stkSub b z) with q | q
  ·exact nL b o e q
  ·exact h1 q
 ·obtain⟨sl,q⟩:=B.slot b o e n h1 (by simp)
  obtain⟨sl',q'⟩:=any b _ q (nC b o e)
  exact⟨sl',q'⟩
 ·obtain⟨o',q⟩:=B.there b o e (by simp)
  obtain⟨sl,q'⟩:=any b o' q (nC b o e)
  exact⟨_,q'⟩
 ·refine(J.hok b u e).stay (λc v hc q=>?_) (λ_ q=>q) λ_ _ q=>q
  have hn:H c≠ai:=by
   rcases hc with rfl | hc
   ·rw[e];simp
   ·rw[hc];simp
  exact hB c v q (λz=>hn (J.stkFree c z)) λz=>hn (hcs c z).1
theorem Inv.flown{cs:List ag}(hex:X.ex=[])(J:Inv X pins σ H s)(hcs:∀b∈cs,H b=ai/\X.s₀.heap.get? b=ai)
  (hB:∀b o,s.heap.get? b=aa o->b ∉ frs X.stack->b ∉ cs->B.get? b=aa o) (hF:∀b o,s.heap.get? b=aa o->b∈frs X.stack->∃sl,h2.get? b=aa { o with slots:=sl })
  (he:H e=ai) (he0:X.s₀.heap.get? e=ai) (kb:B.StaysIn h2) (tr:h2.TracedW B e cls a0) :
  Un X.fs [] X.H₀ H X.s₀.heap h2/\HOk X.prog X.w H h2/\XF X.s₀.heap h2 H e cls:=by
 have hk:=J.behind (h2:=h2) hex hcs (λb o q n1 n2=>kb b o (hB b o q n1 n2)) hF
 refine⟨hk.1,hk.2,?_⟩
 obtain⟨oe,vs,T,oT,ts,h1,h2',h3,h4,h5,h6,h7,h8,h9⟩:=tr
 have noT:∀o,s.heap.get? T=aa o->T∈cs:=λo q=>by
  by_cases hb:T∈frs X.stack
  ·obtain⟨o',q',nf⟩:=J.stackFields hb
   obtain⟨sl,z⟩:=hF T o' q' hb
   rw[h7] at z
   have z':oT={ o' with slots:=sl }:=ck z
   exact absurd (by rw[<-h8,z']) (nf ts)
  ·by_cases hc:T∈cs
   ·exact hc
   ·rw[hB T o q hb hc] at h5;cases h5
 refine⟨oe,vs,a0,T,oT,ts,h1,h2',h3,h4,h6,h7,h8,h9,he0,?_,he,?_⟩
 ·cases q:X.s₀.heap.get? T with
  | none=>rfl
  | some o =>
   obtain⟨o',q'⟩:=J.there0 hex T o q
   rw[(hcs T (noT o' q')).2] at q;cases q
 ·cases q:H T with
  | none=>rfl
  | some u =>
   obtain⟨o,z⟩:=(J.hok T u q).there
   rw[(hcs T (noT o z)).1] at q;cases q
theorem zcb{h':aw}{e:ag}{cls:af}{vs:List af}{E:XK}{EE:af->aj->Prop}(hst:X.stack=X.env :: X.outer/\X.env.frame=aa X.env.locals)(hex:X.ex=[])(J:Inv X pins σ H s)(hx:Heap.MadeExcOf s.heap h' e cls vs)(hE:E cls ai H) :
  wpAny (model X.prog X.w) X.A (leaving X.env (.ref e)) (λ_ s2=>CX1 X.prog X.w X.outer X.H₀ X.s₀ E (.ref e) s2) EE { s with heap:=h' }:=by
 have fr:s.heap.FunFrames (gD s.heap (frs X.stack)) (X.env :: X.outer):=by
  have q:=iL (as:=frs X.stack) J.stack λenv he a ha=>fN.mpr ⟨env,he,ha⟩
  rw[hst.1] at q ⊢
  exact q
 refine wpAny_leaves_madeW (s:={ s with heap:=h' }) (base:=gD s.heap (frs X.stack)) (h:=s.heap) (by rw[J.ok.frames,hst.1]) hst.2 (λb o q=>lL _ q) fr hx λh2 t hfl _ _ hup=>?_
 obtain⟨f1,f2,f3,f4⟩:=hfl
 have hF:∀b o,s.heap.get? b=aa o->b∈frs X.stack->∃sl,h2.get? b=aa { o with slots:=sl }:=λb o q hb=>by
  obtain⟨o',q',nf⟩:=J.stackFields hb
  rw[q] at q';cases q'
  exact hup b o (hx.keeps b o q) nf
 obtain⟨r1,r2,r3⟩:=J.flown (cs:=[]) hex (λb z=>nomatch z) (λb o q n _=>iQ _ q n) hF
  (by
   cases q:H e with
   | none=>rfl
   | some u =>
    obtain⟨o,z⟩:=(J.hok e u q).there
    rw[hx.new] at z;cases z)
  (jL (J.there0 hex) hx.new) f1 f4
 exact⟨e,cls,H,rfl,J.os,J.bare,r1,r2,r3,hE⟩
theorem zc8{e:ag}{cls:af}{E:XK}{EE:af->aj->Prop}(hst:X.stack=X.env :: X.outer/\X.env.frame=aa X.env.locals)(hex:X.ex=[])(J:Inv X pins σ H s)(xf:XF X.s₀.heap s.heap H e cls)(hE:E cls ai H) :
  wpAny (model X.prog X.w) X.A (leaving X.env (.ref e)) (λ_ s2=>CX1 X.prog X.w X.outer X.H₀ X.s₀ E (.ref e) s2) EE s:=by
 obtain⟨oe,vs,a0,T,oT,ts,h1,h2,h3,h4,h5,h6,h7,h8,h9,h10,h11,h12⟩:=id xf
 have fr:s.heap.FunFrames (gD s.heap (frs X.stack ++ [e,T])) (X.env :: X.outer):=by
  have q:=iL (as:=frs X.stack ++ [e,T]) J.stack λenv he a ha=>cE _ (fN.mpr ⟨env,he,ha⟩)
  rw[hst.1] at q ⊢
  exact q
 refine wpAny_leaves_onW (base:=gD s.heap (frs X.stack ++ [e,T])) (a0:=a0) (by rw[J.ok.frames,hst.1]) hst.2
  ⟨λb o q=>lL _ q,fJ _ (bT _ (by simp)),fr,oe,vs,T,oT,ts,h1,h2,h3,h4,fJ _ (bT _ (by simp)),h5,h6,h7,h8⟩ λh2' hfl hup=>?_
 obtain⟨f1,f2,f3,f4⟩:=hfl
 have hF:∀b o,s.heap.get? b=aa o->b∈frs X.stack->∃sl,h2'.get? b=aa { o with slots:=sl }:=λb o q hb=>by
  obtain⟨o',q',nf⟩:=J.stackFields hb
  rw[q] at q';cases q'
  exact hup b o q nf
 obtain⟨r1,r2,r3⟩:=J.flown (cs:=[e,T]) hex (λb z=>by
   have z':b=e\/b=T:=by simpa using z
   rcases z' with rfl | rfl
   ·exact⟨h11,h9⟩
   ·exact⟨h12,h10⟩) (λb o q n n2=>iQ _ q λz=>(bF.mp z).elim n n2) hF h11 h9 f1 f4
 exact⟨e,cls,H,rfl,J.os,J.bare,r1,r2,r3,hE⟩
end
def zc9(X:Cx)(E:XK):Prop:=∀(pins:List (ag × Obj)) (σ:St) (H:Hp) (s:aj) (h':aw) (e:ag) (cls:af) (vs:List af),Inv X pins σ H s->Heap.MadeExcOf s.heap h' e cls vs->E cls ai H->X.xe (.ref e) { s with heap:=h' }
section
variable {P:aq}{w:au}{K:bz}{mg:Str->Option af}{base:aw}{N:List Str}{qual:Str}{scope:az}{f:ag}{cd:af}{A:av}{outer:List Env}{s₀:aj}{H₀:Hp}{E:XK}
theorem yI:j6 (CX1 P w) (jI (CX1 P w) P w K mg base N qual scope f cd A outer s₀ H₀ E) E:=by
 intro pins σ H s ev s' I hcx
 obtain⟨e,cls,H',rfl,os,bare,un,hok,xf,hE⟩:=hcx
 have J:=I.call' (ch:=[]) os un hok bare (λb z=>nomatch z)
 exact zc8 (X:=jI (CX1 P w) P w K mg base N qual scope f cd A outer s₀ H₀ E) ⟨rfl,rfl⟩ rfl J (xf.older (I.there0 rfl)) hE
theorem JF:zc9 (jI (CX1 P w) P w K mg base N qual scope f cd A outer s₀ H₀ E) E:=by
 intro pins σ H s h' e cls vs I hx hE
 exact zcb (X:=jI (CX1 P w) P w K mg base N qual scope f cd A outer s₀ H₀ E) ⟨rfl,rfl⟩ rfl I hx hE
theorem zfd:PassesOwn (model P w) (jI (CX1 P w) P w K mg base N qual scope f cd A outer s₀ H₀ E).A (jI (CX1 P w) P w K mg base N qual scope f cd A outer s₀ H₀ E).env (jI (CX1 P w) P w K mg base N qual scope f cd A outer s₀ H₀ E).xe:=PassesOwn.leaving
end
abbrev Wo:List af:=[.type "ValueError",.type "Exception",.type "BaseException",.type "object"]
abbrev qk:String:="ValueError.__new__"
def ZH(C:ag)(ta:TA)(E:XK):TS:=λ_ σ H=>ta σ H λvs H1=>vs.length<=sizeLine/\E (.ref C) ai H1
theorem zfe{K:bz}{h:aw}{C:ag}{bmB:List af}(X:K.In h)(q:m4 K C bmB newId=ae) :
  ∃bm N nm qn bs hdct sn sub ab col dd k0 k1 k2 k3 k5 mN,h.get? C=aa (excClassObj nm qn C N bs bm hdct sn sub ab col dd k0 k1 k2 k3 k5 newId)/\h.Ns N mN/\mN "__init__"=ai/\OwnTail h bmB bm:=by
 unfold m4 at q
 split at q
 case h_2=>cases q
 rename_i dd cd sl ho
 split at q
 case h_2=>cases q
 rename_i C' bm k0 k1 k2 k3 n k5 hm hs
 rw[b9,b9,b9,b9,b9] at q
 obtain⟨⟨⟨⟨⟨q1,q2⟩,q3⟩,q4⟩,q5⟩,q6⟩:=q
 obtain rfl:C'=C:=by simpa using q1
 obtain rfl:n=newId:=by simpa using q2
 obtain⟨nm,bs,mro,ns,qn,hd,sn,sub,ab,col,del⟩:=cd
 have hdel:del=ao:=by simpa using q3
 have hm':mro=.ref C' :: bm:=hm
 subst hdel hm'
 have hsl:sl=#[k0,k1,k2,k3,aa (.builtin n),k5]:=by
  apply Array.ext'
  exact hs
 subst hsl
 exact⟨bm,ns,nm,qn,bs,hd,sn,sub,ab,col,dd,k0,k1,k2,k3,k5,_,X _ _ ho,.of_isNs (W.isNs_of_in X q5),W.nsMap_none_of_in X q5 (by simpa using q6),W.tail_of_in X q4⟩
section
variable {X:Cx}{x:Str}{C:ag}{np cpos pos:Pos}{e₀:ay}{rest:List ay}{ta:TA}{E:XK}
theorem Wp(hc:X.calm=ae)(q:m4 X.K C Wo qk=ae)(hr:zc9 X E)(hg:Gl X x)(hm:X.mg x=aa (.ref C))(ha:PA X (e₀ :: rest) ta)
  (he:starEach (e₀ :: rest) X.env=(ao,eval e₀ X.env) :: starEach rest X.env:=by rfl) (hp:(backTo cpos (starEach rest X.env)).any (·.1)=ao:=by rfl) (hd:(x == ("__debug__":Str))=ao:=by decide) :
  PS X (.Raise (aa (.Call (.Name x np) (e₀ :: rest) [] cpos)) ai pos) (ZH C ta E):=by
 intro pins s σ H D I h
 obtain⟨tl,N,nm,qn,bs,hdct,sn,sub,ab,col,dd,k0,k1,k2,k3,k5,mN,hC,hN,hni,T⟩:=zfe I.ok.mod.kin q
 refine wpAny_Raise_call_subT (C:=C) (nm:=nm) (q:=qn) (N:=N) (bs:=bs) (bm:=tl) (hdct:=hdct) (sn:=sn) (sub:=sub) (ab:=ab) (col:=col) (dd:=dd) (k0:=k0) (k1:=k1) (k2:=k2) (k3:=k3) (k5:=k5) (newId:=qk)
  PySem.F.excBase_ValueError (mN:=mN) (T.hasType PySem.F.excBase_ValueError.hasBase) (I.ok.hd hc) (by rw[he];exact hp) hni (vE I hg hm ⟨rfl,?_⟩ hd)
 have hA:=ha cpos pins s σ H _ I h
 rw[he] at hA ⊢
 refine iN (thn hA λus s2 ⟨vs,H2,I2,r2,z2,q2⟩=>?_)
 exact⟨rfl,by rw[<-r2.length];exact z2,I2.bk _ _ hC,hN.keeps I2.bk,T.keeps I2.bk,λh' e hm=>hr pins σ H2 s2 h' e _ _ I2 hm q2⟩
end
def Asc(x:Str):Prop:=∀c∈x.cps.toList,c < 128
section
variable {X:Cx}{e:ay}{te:TE}{a:Str}{j:Nat}{p1 p2 p3:Pos}
def KI(te:TE):TE:=λσ H Q=>te σ H λv H1=>∃x:Str,v=.str x/\x.length<=100000/\∀y:Str,Q (.str y) H1
theorem zbm(he:PE X e te)(hl:a.length<=1000:=by decide +kernel):PE X (.JoinedStr [.FormattedValue e (-1) ai p2,.Constant (.str a) j p1] p3) (KI te):=by
 intro pins s σ H Q I h
 refine wpAny_JoinedStr ?_
 show wpAny _ _ (eval (.FormattedValue e (-1) ai p2) X.env) _ _ s
 refine lK (thn (he pins _ σ H _ I h) λv s1 ⟨x,H1,I1,r1,z,ex,hz,q⟩=>?_)
 subst ex
 obtain⟨t,rfl⟩:=r1
 have hs:sizeLine=16777216:=dX
 have e0:(gE ++ z).length=z.length:=by rw[eB];simp[gE,gL]
 have fin:∀(t':Tok) (tk:Nat),∃y u,iW z t'=iW y u/\(gE ++ y).length<=sizeLine/\Joins (model X.prog X.w) X.A X.xe (evalEach [.Constant (.str a) j p1] X.env) (gE ++ y) (λout s₁=>out.length<=sizeLine/\EP X pins σ Q (.str out s₁.toks) { s₁ with toks:=s₁.toks + 1 }) { s1 with toks:=tk }:=λt' tk=>by
  refine⟨_,_,rfl,by rw[e0];lia,?_⟩
  show wpAny _ _ (eval (.Constant (.str a) j p1) X.env) _ _ _
  have hz2:(gE ++ z ++ a).length<=sizeLine:=by rw[eB,e0];lia
  refine gN ⟨a,_,rfl,hz2,hz2,.str _,H1,I1.tok _,⟨_,rfl⟩,q _⟩
 exact wpAny_formatField_str (fin _ _) (fin _ _) (by lia)
end
structure ExC(K:bz)(C:ag):Prop where
 ga:cY K (.ref C) "__getattribute__"=aa (aa (.builtin "BaseException.__getattribute__"))
 gx:cY K (.ref C) "__getattr__"=aa ai
 cl:cY K (.ref C) "__class__"=aa (aa (.builtin "object.__class__"))
 ob:pE K C (.type "object")=aa ae
 be:pE K C (.type "BaseException")=aa ae
 ge:o8 K (.builtin "object.__class__") "__get__"=aa (aa (.builtin "getset_descriptor.__get__"))
 tk:W.takesIn K (.builtin "object.__class__")=aa ae
section
variable {X:Cx}{pins:List (ag × Obj)}{σ:St}{H:Hp}{s:aj}
theorem Inv.land{cs:List ag}(hex:X.ex=[])(I:Inv X pins σ H s)(hcs:∀b∈cs,H b=ai/\X.s₀.heap.get? b=ai)(hcp:∀b∈cs,∀p∈X.pn ++ pins,p.1≠b)
  (hB:∀b o,s.heap.get? b=aa o->b ∉ frs X.stack->b ∉ cs->h2.get? b=aa o) (sm:s.heap.UpToSlots h2):Inv X pins σ H { s with heap:=h2 }:=by
 have hF:∀b o,s.heap.get? b=aa o->b∈frs X.stack->∃sl,h2.get? b=aa { o with slots:=sl }:=λb o q hb=>by
  obtain⟨o',q',nf⟩:=I.stackFields hb
  rw[q] at q';cases q'
  exact sm b o q nf
 obtain⟨r1,r2⟩:=I.behind hex hcs hB hF
 have ce:∀c v,s.heap.IsCell c v->h2.IsCell c v:=λc v ⟨o,ho,hd⟩=>by
  obtain⟨sl,q⟩:=sm c o ho λvs z=>by rw[hd] at z;cases z
  exact⟨_,q,hd⟩
 refine⟨I.ok,I.os,I.bare,by rw[hex];exact r1,?_,λx c e=>?_,I.free,I.freeC,λp hp=>?_,r2,I.len⟩
 ·obtain⟨m,hn,hl⟩:=I.loc
  refine⟨m,sm.ns hn,λi x v e1 e2 e3=>?_⟩
  obtain⟨u,r,l⟩:=hl i x v e1 e2 e3
  refine⟨u,r,?_⟩
  rcases l with l | ⟨k,c,e,z⟩
  ·exact .inl l
  ·exact .inr ⟨k,c,e,ce c _ z⟩
 ·obtain⟨v,z⟩:=I.cell x c e
  exact⟨v,ce c v z⟩
 ·obtain⟨e,n,ne,nf,d⟩:=I.pin p hp
  exact⟨hB _ _ e (λz=>(bS.mp (I.stkSub _ z)).elim ne nf) λz=>hcp _ z p hp rfl,n,ne,nf,d⟩
end
abbrev Cx.sub(X:Cx)(e:ag):Cx:={ X with A:=X.A.mark (aa (.ref e)),calm:=ao,xe:=λ_ _=>False }
section
variable {X:Cx}{pins:List (ag × Obj)}{σ:St}{H:Hp}{s:aj}{e:ag}
theorem Inv.toSub(I:Inv X pins σ H s):Inv (X.sub e) pins σ H s :=
 ⟨⟨I.ok.mod,I.ok.kind,I.ok.glob,I.ok.blt,I.ok.above,I.ok.inj,I.ok.has,I.ok.cab,(λz=>nomatch z),I.ok.frames,I.ok.stk,I.ok.exf,I.ok.bs,I.ok.bsz,I.ok.noex,I.ok.exfs,I.ok.funs,I.ok.frf⟩,I.os,I.bare,I.base,I.loc,I.cell,I.free,I.freeC,I.pin,I.hok,I.len⟩
theorem Inv.ofSub{J:Inv X pins σ H s}{σ':St}{H':Hp}(I:Inv (X.sub e) pins σ' H' s'):Inv X pins σ' H' s':=
 ⟨J.ok,I.os,I.bare,I.base,I.loc,I.cell,I.free,I.freeC,I.pin,I.hok,I.len⟩
end
abbrev EXK:=af->St->Hp->Prop
def PX(X:Cx)(pins:List (ag × Obj))(EX:EXK):af->aj->Prop:=λev s'=>∃e cls σ s1 H1 H',ev=.ref e/\Inv X pins σ H1 s1/\Inv X pins σ H' s'/\XF s1.heap s'.heap H' e cls/\EX cls σ H'
def PEX(X:Cx)(ex:ay)(t:EXK->TE):Prop :=
 ∀(pins:List (ag × Obj)) (s:aj) (σ:St) (H:Hp) (Q:VK) (EX:EXK),Inv X pins σ H s->t EX σ H Q->wpAny (model X.prog X.w) X.A (eval ex X.env) (EP X pins σ Q) (PX X pins EX) s
def PSX(X:Cx)(st:ax)(t:EXK->TS):Prop :=
 ∀(pins:List (ag × Obj)) (s:aj) (σ:St) (H:Hp) (D:Vi) (EX:EXK),Inv X pins σ H s->t EX D σ H->wpAny (model X.prog X.w) X.A (exec st X.env) (SP X pins D) (PX X pins EX) s
section
variable {X:Cx}{ex:ay}{tx:EXK->TE}{pos p1:Pos}{i:Nat}{y:Str}
def zbn(tx:EXK->TE)(i:Nat)(EX:EXK):TS:=λD σ H=>tx EX σ H λv H1=>D.nx (σ.set i (aa v)) H1
theorem zbo(hN:X.N.Nodup)(hi:X.N[i]?=aa y)(hx:Loc X.env.scope y)(he:PEX X ex tx)(hs:swapsWith ex (aa (.Name y pos')) pos.line X.env=pure ao:=by rfl)(hf:X.fn y=ae\/X.env.scope.names.lookup y=aa .local:=by first | exact .inl rfl | exact .inr rfl | assumption) :
  PSX X (.Assign [.Name y pos'] ex pos) (zbn tx i):=by
 intro pins s σ H D EX I h
 refine wpAny_Assign_Name (thn (he pins s σ H _ EX I h) λv s1 ⟨x,H1,I1,r1,q1⟩=>?_) hs
 exact X6 I1 hN hi hx r1 (λs2 I2=>⟨_,H1,I2,q1⟩) hf
end
structure ExK(K:bz)(C:ag):Prop extends ExC K C where
 has:(W.clsIn K C).isSome=ae
theorem zr :j6 (CX1 P w) X E0:=λ_ _ _ _ _ _ _ h=>by
 obtain⟨_,_,_,_,_,_,_,_,_,z⟩:=h
 exact z.elim
section
variable {P:aq}{w:au}{K:bz}{mg:Str->Option af}{base:aw}
theorem Fun.ok1{x qual:Str}{st:ax}{f:ag}{fd:FuncData}{N ps:List Str}{k:Nat}{sp:Sp}(F:Fun K x qual st f fd)(S:FnScope N ps (zj st))(len:∀vs H Q E,sp vs H Q E->vs.length=ps.length)
  (hbody:∀(cdv:af) (A:av) (outer:List Env) (s:aj) (H:Hp) (vs:List V) (Q:VK) (E:XK),Room k (A.deeper (envOfC qual (zj st) s.heap.objs.size f cdv))->sp vs H Q E ->
   ∃t,PSs (jI (CX1 P w) P w K mg base N qual (zj st) f cdv A outer s H E) (yq st) t/\t { nx:=λ_ H'=>Q .non H',rt:=Q } (start N vs) H):FnOk P w K mg base (CX1 P w) (k + 1) f fd ps sp:=by
 obtain⟨oc,od,kV,doc,pm,an,cdv,ct,osl,rfl,lk,hcd⟩:=F.ex
 exact zgm lk hcd S len λA outer s H vs Q E hr hsp=>hbody cdv A outer s H vs Q E hr hsp
theorem Fun.ok0{x qual:Str}{st:ax}{f:ag}{fd:FuncData}{N ps:List Str}{k:Nat}{sp:Sp}(F:Fun K x qual st f fd)(S:FnScope N ps (zj st))(len:∀vs H Q E,sp vs H Q E->vs.length=ps.length)
  (hbody:∀(cdv:af) (A:av) (outer:List Env) (s:aj) (H:Hp) (vs:List V) (Q:VK) (E:XK),Room k (A.deeper (envOfC qual (zj st) s.heap.objs.size f cdv))->sp vs H Q E ->
   ∃t,PSs (jI (CX1 P w) P w K mg base N qual (zj st) f cdv A outer s H E).nox (yq st) t/\t { nx:=λ_ H'=>Q .non H',rt:=Q } (start N vs) H):FnOk P w K mg base (CX1 P w) (k + 1) f fd ps sp :=
 F.ok1 S len λcdv A outer s H vs Q E hr h=>let ⟨t,a,b⟩:=hbody cdv A outer s H vs Q E hr h;⟨t,a.nox,b⟩
end
theorem walk_ofX{l:nV}{n k:Nat}{q:aq}{loose:List Str}{XP:(Str->Option af)->aw->Prop}{YP:au->aw->Prop}{d:DefRec}{K:Params->bz}{sp:bz->Sp}{x:Str}
  (hn:l.most=aa n) (hn2:n<=sizeLine) (hdf:d.params.defaults=[]) (hr:Room k callerA)
  (hY:∀(w:au) (h:aw),YP w h->(K w.params).In h)
  (F:∀(w:au) (mg:Str->Option af) (fa:ag) (h:aw),(K w.params).In h->h.Ns mainGlobals mg->mg d.name=aa (.ref fa) ->
   ∃fd:FuncData,(∀(s:aj) (u:af),BindsTo s fd ⟨[u],[]⟩ [(x,u)]) /\
    ∀base:aw,(K w.params).In base->base.Ns mainGlobals mg->FnOk l.prog w (K w.params) mg base (CX1 l.prog w) k fa fd [x] (sp (K w.params)))
  (hsp:∀(K:bz) (H:Hp) (a:ag) (ns:List Int),ns.length<=n->zan H->SqL K H a (ns.map V.int)->sp K [.ref a] H (λv _=>v=.bl ae) λ_ _ _=>False) :
  pF q loose XP YP l.row.toRowW d [] (λf vs=>l9 f vs) :=
 zbg (K:=K) (CX:=λw=>CX1 l.prog w) (sp:=λw=>sp (K w.params)) hn hn2 hdf hr hY F (λw H a ns h1 h2 h3=>hsp (K w.params) H a ns h1 h2 h3) λ_ _ _ _ _ z=>by
  obtain⟨_,_,_,_,_,_,_,_,_,y⟩:=z
  exact y
end L2
namespace L2
open PySem
section
variable {σ:St}{H:Hp}{nx:St->Hp->Prop}{B:V->St->Hp->(St->Hp->Prop)->Prop}
theorem kg{lo:Int}(Pv:Nat->St->Hp->Prop)(h0:Pv 0 σ H)(hs:∀i σ H,i < n->Pv i σ H->B (.int (lo + i)) σ H (Pv (i + 1)))(hd:∀σ H,Pv n σ H->nx σ H) :
  ∃W:Nat->Nat->St->Hp->Prop,(∃m,W 0 m σ H)/\∀i m σ H,W i m σ H->((Itr lo n).stop i H/\nx σ H)\/((Itr lo n).go i H/\∃N:St->Hp->Prop,(∀σ' H',N σ' H'->∃m',m' < m/\W (i + 1) m' σ' H')/\∀x H',(Itr lo n).yld i H x H'->B x σ H' N):=by
 refine⟨λi m σ H=>m=n - i/\i<=n/\Pv i σ H,⟨n,by simp,cp _,h0⟩,?_⟩
 rintro i m σ H ⟨rfl,hi,p⟩
 by_cases hlt:i < n
 ·refine .inr ⟨hlt,Pv (i + 1),λσ' H' p'=>⟨n - (i + 1),by lia,rfl,hlt,p'⟩,?_⟩
  rintro x H' ⟨rfl,rfl⟩
  exact hs i σ _ hlt p
 ·obtain rfl:i=n:=by lia
  exact .inl ⟨bq _,hd σ H p⟩
theorem xg(xs:List V)(Pv:Nat->St->Hp->Prop)(h0:Pv 0 σ H)(hl:∀i σ H,Pv i σ H->SqL K H a xs)(hs:∀i x σ H,xs[i]?=aa x->Pv i σ H->B x σ H (Pv (i + 1)))(hd:∀σ H,Pv xs.length σ H->nx σ H) :
  ∃W:Nat->Nat->St->Hp->Prop,(∃m,W 0 m σ H)/\∀i m σ H,W i m σ H->((Itl K a).stop i H/\nx σ H)\/((Itl K a).go i H/\∃N:St->Hp->Prop,(∀σ' H',N σ' H'->∃m',m' < m/\W (i + 1) m' σ' H')/\∀x H',(Itl K a).yld i H x H'->B x σ H' N):=by
 refine⟨λi m σ H=>m=xs.length - i/\i<=xs.length/\Pv i σ H,⟨xs.length,by simp,cp _,h0⟩,?_⟩
 rintro i m σ H ⟨rfl,hi,p⟩
 have q:=hl i σ H p
 by_cases hlt:i < xs.length
 ·refine .inr ⟨⟨xs,xs[i],q,by simp[hlt]⟩,Pv (i + 1),λσ' H' p'=>⟨xs.length - (i + 1),by lia,rfl,hlt,p'⟩,?_⟩
  rintro x H' ⟨rfl,y⟩
  exact hs i x σ _ (y xs q) p
 ·obtain rfl:i=xs.length:=by lia
  exact .inl ⟨⟨xs,q,bq _⟩,hd σ H p⟩
theorem zda(xs:List V)(Pv:Nat->St->Hp->Prop)(h0:Pv 0 σ H)(hl:∀i σ H,Pv i σ H->SqT K H a xs)(hs:∀i x σ H,xs[i]?=aa x->Pv i σ H->B x σ H (Pv (i + 1)))(hd:∀σ H,Pv xs.length σ H->nx σ H) :
  ∃W:Nat->Nat->St->Hp->Prop,(∃m,W 0 m σ H)/\∀i m σ H,W i m σ H->((Itt K a).stop i H/\nx σ H)\/((Itt K a).go i H/\∃N:St->Hp->Prop,(∀σ' H',N σ' H'->∃m',m' < m/\W (i + 1) m' σ' H')/\∀x H',(Itt K a).yld i H x H'->B x σ H' N):=by
 refine⟨λi m σ H=>m=xs.length - i/\i<=xs.length/\Pv i σ H,⟨xs.length,by simp,cp _,h0⟩,?_⟩
 rintro i m σ H ⟨rfl,hi,p⟩
 have q:=hl i σ H p
 by_cases hlt:i < xs.length
 ·refine .inr ⟨⟨xs,xs[i],q,by simp[hlt]⟩,Pv (i + 1),λσ' H' p'=>⟨xs.length - (i + 1),by lia,rfl,hlt,p'⟩,?_⟩
  rintro x H' ⟨rfl,y⟩
  exact hs i x σ _ (y xs q) p
 ·obtain rfl:i=xs.length:=by lia
  exact .inl ⟨⟨xs,q,bq _⟩,hd σ H p⟩
end
theorem KJ{J:It}{D:ag}{τ₀:St}{H1:Hp}{Q:Hp->Prop}{B:V->St->Hp->(V->St->Hp->Prop)->(St->Hp->Prop)->Prop}(n:Nat)(hn:n<=1000000)(C:St->Prop)(R:Nat->V->Prop)(hC:C τ₀)
  (go:∀i H,Same H1 H->i < n->J.go i H) (stop:∀H,Same H1 H->J.stop n H) (hD:H1 D=ai)
  (hs:∀i x τ H H',C τ->Same H1 H->i < n->J.yld i H x H'->B x τ H' (λv τ' H4=>C τ'/\R i v/\Same H H4) (λ_ _=>False))
  (hd:∀ys H,ys.length=n->(∀i v,ys[i]?=aa v->R i v)->Same H1 H->H D=aa (.lst ys)->Q H) :
  ∃W:Nat->Nat->List V->St->Hp->Prop,(∃m,W 0 m [] τ₀ (upd H1 D (.lst [])))/\∀i m ys τ H,W i m ys τ H->H D=aa (.lst ys) /\
  ((J.stop i H/\Q H)\/(J.go i H/\ys.length < sizeLine/\∃N:V->St->Hp->Prop,
   (∀v τ' H',N v τ' H'->H' D=aa (.lst ys)/\∃m',m' < m/\W (i + 1) m' (ys ++ [v]) τ' (upd H' D (.lst (ys ++ [v]))))/\∃Nf:St->Hp->Prop,(∀τ' H',Nf τ' H'->∃m',m' < m/\W (i + 1) m' ys τ' H') /\
   ∀x H',J.yld i H x H'->B x τ H' N Nf)):=by
 have ext:∀ {H:Hp} {o:HO},Same H1 H->Same H1 (upd H D o):=λ{H o} h b u e=>by
  rw[zl (zG e hD)];exact h b u e
 refine⟨λi m ys τ H=>m=n - i/\i<=n/\ys.length=i/\(∀j v,ys[j]?=aa v->R j v)/\Same H1 H/\H D=aa (.lst ys)/\C τ,⟨n,by simp,cp _,rfl,by simp,ext (Same.refl _),zf,hC⟩,?_⟩
 rintro i m ys τ H ⟨rfl,hi,hl,hR,hS,hy,hc⟩
 refine⟨hy,?_⟩
 by_cases hlt:i < n
 ·refine .inr ⟨go i H hS hlt,bZ (by lia:ys.length<=1000000) (by decide),(λv τ' H4=>C τ'/\R i v/\Same H H4),?_,(λ_ _=>False),λ_ _ z=>z.elim,λx H' y=>hs i x τ H H' hc hS hlt y⟩
  rintro v τ' H4 ⟨c4,r4,s4⟩
  refine⟨s4 _ _ hy,n - (i + 1),by lia,rfl,hlt,by simp[hl],λj u hj=>?_,ext (hS.trans s4),zf,c4⟩
  rcases Nat.lt_trichotomy j ys.length with h | h | h
  ·exact hR j u (by rwa [c8 h] at hj)
  ·subst h
   simp at hj
   subst hj
   rw[hl];exact r4
  ·rw[cR (by simp;lia)] at hj;cases hj
 ·obtain rfl:i=n:=by lia
  exact .inl ⟨stop H hS,hd ys H hl hR hS hy⟩
theorem JG(n d:Nat)(v:Int):max (0:Int) (min (if v < 0 then v + n else v) n)=((HT.sIx n d (aa v):Nat):Int):=by
 show _=(((if v < 0 then (v + (n:Int)).toNat else min v.toNat n):Nat):Int)
 by_cases hv:v < 0
 ·simp only[ap hv];lia
 ·simp only[ak hv];lia
theorem zff(a b:Nat):sliceRange (a:Int) (b:Int) 1=(bI (b - a)).map λk=>a + k:=by
 simp only[sliceRange,show ((1:Int) > 0)=True from by simp,if_true]
 by_cases hlt:(a:Int) < b
 ·have e3:(((b:Int) - a + 1 - 1) / 1).toNat=b - a:=by rw[Int.ediv_one];lia
  simp only[hlt,if_true,e3]
  refine eG λk _=>?_
  lia
 ·have:b - a=0:=by lia
  simp[hlt,this]
theorem zdb(lo hi:Option Int)(n:Nat):i9 lo hi 1 n=(bI (HT.sIx n n hi - HT.sIx n 0 lo)).map λk=>HT.sIx n 0 lo + k:=by
 rw[<-zff]
 unfold i9
 simp only[show ((1:Int) > 0)=True from by simp,if_true]
 cases lo with
 | none =>
  cases hi with
  | none=>rfl
  | some v=>simp only[JG n n v];rfl
 | some u =>
  cases hi with
  | none=>simp only[JG n 0 u];rfl
  | some v=>simp only[JG n n v,JG n 0 u]
theorem V1(x:Str)(lo hi:Option Int):(fG x lo hi).cps.toList=(x.cps.toList.drop (HT.sIx x.length 0 lo)).take (HT.sIx x.length x.length hi - HT.sIx x.length 0 lo):=by
 have hb:=HT.sIx_le x.length x.length (bq _) hi
 have hn:x.cps.toList.length=x.length:=by simp[gL]
 unfold fG
 rw[zdb]
 split
 ·rename_i h
  have h':HT.sIx x.length x.length hi - HT.sIx x.length 0 lo=x.length:=by simpa using h
  have e0:HT.sIx x.length 0 lo=0\/x.length=0:=by lia
  rcases e0 with e0 | e0
  ·rw[e0,du,bQ]
   lia
  ·rw[fH (by lia:x.cps.toList.length=0)];simp
 ·by_cases hab:HT.sIx x.length 0 lo<=HT.sIx x.length x.length hi
  ·have h:=StrLaws.picks x.cps.toList (HT.sIx x.length x.length hi - HT.sIx x.length 0 lo) (HT.sIx x.length 0 lo) (by lia)
   simpa using h
  ·have:HT.sIx x.length x.length hi - HT.sIx x.length 0 lo=0:=by lia
   rw[this];simp
theorem Wq(x:Str)(k:Nat):(fG x (aa (k:Int)) ai).cps.toList=x.cps.toList.drop k:=by
 rw[V1,HT.sIx_none,HT.sIx_nat]
 have hn:x.cps.toList.length=x.length:=by simp[gL]
 by_cases h:k<=x.length
 ·rw[eI h,bQ (by rw[cC];lia)]
 ·rw[fL (by lia:x.cps.toList.length<=k),gH (by lia),fL (by lia)];simp
theorem KK(x:Str)(k:Nat):(fG x ai (aa (k:Int))).cps.toList=x.cps.toList.take k:=by
 rw[V1,HT.sIx_none,HT.sIx_nat,du,oK]
 have hn:x.cps.toList.length=x.length:=by simp[gL]
 by_cases h:k<=x.length
 ·rw[eI h]
 ·rw[gH (by lia),bQ (by lia),bQ (by lia)]
theorem zfg{x y:Str}(h:x.cps.toList=y.cps.toList):x=y:=by
 obtain⟨a⟩:=x
 obtain⟨b⟩:=y
 have:a=b:=fI.mp h
 rw[this]
theorem zfh(x y:Str):(x ++ y).cps.toList=x.cps.toList ++ y.cps.toList:=by
 show (x.cps ++ y.cps).toList=_
 simp
open PySem.NumText in
section
def zio(w:Int):Str:=bg (toString w)
theorem X1(x:Str):x.length=x.cps.toList.length:=by simp[gL]
def inF(c:Nat):Bool:=!(mE "0123456789" ⟨#[c]⟩ 0 (gL "0123456789") 1).isEmpty
def zhL(x:Str):Bool:=!decide (x="") && x.cps.toList.all inF
def inW(i:Int):Bool:=decide (-1000000000000000000000000000000<=i/\i<=1000000000000000000000000000000)
def zgp(x:Str):Str:=if (x.cps.toList.take 1 == [45])=ae then fG x (aa 1) ai else x
def zdc(x:Str):Int:=(intText? x).getD 0
def zhM(x:Str):Bool:=!(decide (31 < (zgp x).length) || !zhL (zgp x)) && (inW (zdc x) && decide (zio (zdc x)=x))
end
end L2
namespace L2
open PySem PySem.Spec PyProof.Rows
theorem wc(x y:Str):(x ++ y).length=x.length + y.length:=eB x y
def zgq(_ j:Int):Prop:=j≠0/\-big < j/\j < big
section
variable {X:Cx}
theorem zdd:OpR X (binaryOp .FloorDiv) (rI zgq λi j=>.int (i.fdiv j)):=opI λi j _ _ _ _ _ hc q =>
 floordiv_int hc.1 q (.inl (mh (lR (Wn (JD hc.2)) (by decide))))
end
theorem zap(r:Room k A):A.units + 64 < cLine:=by have:=r.un;lia
def qa:V->PyData
 | .non=>.none
 | .bl b=>.bool b
 | .int i=>.int i
 | .str x=>.str x
 | _=>.none
def yF:V->Bool
 | .non=>ae
 | .bl _=>ae
 | .int _=>ae
 | .str x=>cf x
 | _=>ao
theorem Asc.flat(h:Asc x):yF (.str x)=ae:=by
 unfold yF cf
 rw[Array.all_eq_true]
 intro i hi
 have:=h x.cps[i] (by simp)
 exact decide_eq_true (by lia)
def zgT:V->V->Bool
 | .bl _,.int _=>ao
 | .int _,.bl _=>ao
 | _,_=>ae
def JH:List V->List V->Bool
 | x :: xs,y :: ys=>zgT x y && JH xs ys
 | _,_=>ae
theorem vO:∀ {xs:List V} {us:List af},xs.all yF=ae->Vals xs us->CarriedAll us (xs.map qa)
 | [],_,_,.nil=>.nil
 | x :: r,_,h,.cons rx t=>by
  rw[gh,b9] at h
  refine .cons ?_ (vO h.2 t)
  cases x with
  | non=>cases rx;exact .none
  | bl b=>cases rx;exact .bool b
  | int i=>obtain⟨t,rfl⟩:=rx;exact .int i t
  | str x=>obtain⟨t,rfl⟩:=rx;exact .str x t
  | byt b=>exact absurd h.1 (by simp[yF])
  | flt b=>exact absurd h.1 (by simp[yF])
  | ref a=>exact absurd h.1 (by simp[yF])
  | ty n=>exact absurd h.1 (by simp[yF])
theorem zde(hx:yF x=ae)(hy:yF y=ae):ph (qa x) (qa y)=decide (x=y):=by
 cases x <;> cases y <;> simp_all [yF,qa,ph] <;> (rename_i a b;by_cases e:a=b <;> simp[e])
theorem ql:∀ {xs ys:List V},xs.all yF=ae->ys.all yF=ae->lS (xs.map qa) (ys.map qa)=decide (xs=ys)
 | [],[],_,_=>by simp[lS]
 | [],_ :: _,_,_=>by simp[lS]
 | _ :: _,[],_,_=>by simp[lS]
 | x :: r,y :: t,hx,hy=>by
  rw[gh,b9] at hx hy
  rw[b7,b7,lS,zde hx.1 hy.1,ql hx.2 hy.2]
  by_cases a:x=y <;> by_cases b:r=t <;> simp[a,b]
theorem zcc(hx:yF x=ae)(hy:yF y=ae)(h:zgT x y=ae):nK (qa x) (qa y)=ae:=by
 cases x <;> cases y <;> simp_all [yF,qa,nK,zgT]
theorem kh:∀ {xs ys:List V},xs.all yF=ae->ys.all yF=ae->JH xs ys=ae->ir (xs.map qa) (ys.map qa)=ae
 | [],[],_,_,_=>by simp[ir]
 | [],_ :: _,_,_,_=>by simp[ir]
 | _ :: _,[],_,_,_=>by simp[ir]
 | x :: r,y :: t,hx,hy,h=>by
  rw[gh,b9] at hx hy
  rw[JH,b9] at h
  rw[b7,b7,ir,zcc hx.1 hy.1 h.1,kh hx.2 hy.2 h.2]
  rfl
theorem ki{xs:List V}(h:xs.all yF=ae):iB (.list (xs.map qa))=ae/\iB (.tuple (xs.map qa))=ae:=by
 have a:∀x,yF x=ae->(qa x).canLay0=ae/\(qa x).depth=0:=λx=>by cases x <;> simp[qa,eS,dm,yF]
 have l:∀ys:List V,ys.all yF=ae->gk (ys.map qa)=ae/\cq (ys.map qa)=0:=by
  intro ys
  induction ys with
  | nil=>exact λ_=>⟨rfl,rfl⟩
  | cons y r ih =>
   intro h
   rw[gh,b9] at h
   exact⟨by rw[b7,gk,(a y h.1).1,(ih h.2).1];rfl,by rw[b7,cq,(a y h.1).2,(ih h.2).2];rfl⟩
 exact⟨by simp[iB,eS,dm,(l xs h).1,(l xs h).2],by simp[iB,eS,dm,(l xs h).1,(l xs h).2]⟩
abbrev zhN(K:bz)(neg:Bool):R2:=λx y H Q=>∃a b xs ys,x=.ref a/\y=.ref b/\SqL K H a xs/\SqL K H b ys/\(xs.all yF=ae/\ys.all yF=ae/\JH xs ys=ae)/\Q (.bl (if neg then !decide (xs=ys) else decide (xs=ys))) H
section
variable {X:Cx}
theorem zgU(hu:X.A.units + 64 < cLine):OpR X (compareOp .Eq) (zhN X.K ao):=by
 intro pins s σ H x y v u Q I rx ry h
 obtain⟨a,b,xs,ys,rfl,rfl,ha,hb,⟨f1,f2,f3⟩,q⟩:=h
 cases rx
 cases ry
 obtain⟨us,r1,p1,_⟩:=I.list ha
 obtain⟨ws,r2,p2,_⟩:=I.list hb
 refine eq_dataH_same (mF p1.isList (vO f1 r1)) (mF p2.isList (vO f2 r2)) (ki f1).1 (ki f2).1 hu (by rw[nK];exact kh f1 f2 f3) ?_
 rw[ph,ql f1 f2]
 exact⟨.bl _,H,I,rfl,q⟩
theorem zgV(hu:X.A.units + 64 < cLine):OpR X (compareOp .NotEq) (zhN X.K ae):=by
 intro pins s σ H x y v u Q I rx ry h
 obtain⟨a,b,xs,ys,rfl,rfl,ha,hb,⟨f1,f2,f3⟩,q⟩:=h
 cases rx
 cases ry
 obtain⟨us,r1,p1,_⟩:=I.list ha
 obtain⟨ws,r2,p2,_⟩:=I.list hb
 refine ne_dataH_same (mF p1.isList (vO f1 r1)) (mF p2.isList (vO f2 r2)) (ki f1).1 (ki f2).1 hu (by rw[nK];exact kh f1 f2 f3) ?_
 rw[ph,ql f1 f2]
 exact⟨.bl _,H,I,rfl,q⟩
abbrev zaq(K:bz):R2:=λx y H Q=>∃a b xs,x=.ref a/\y=.ref b/\SqL K H a xs/\SqL K H b []/\Q (.bl (decide (xs=[]))) H
theorem KL(hu:X.A.units + 64 < cLine):OpR X (compareOp .Eq) (zaq X.K):=by
 intro pins s σ H x y v u Q I rx ry h
 obtain⟨a,b,xs,rfl,rfl,ha,hb,q⟩:=h
 by_cases e:xs=[]
 ·subst e
  exact zgU hu pins s σ H _ _ v u Q I rx ry ⟨a,b,[],[],rfl,rfl,ha,hb,⟨rfl,rfl,rfl⟩,q⟩
 ·cases rx
  cases ry
  obtain⟨us,r1,p1,_⟩:=I.list ha
  obtain⟨ws,r2,p2,_⟩:=I.list hb
  cases r2
  have e1:=r1.length
  have e2:xs.length≠0:=λz=>e (fH z)
  refine PySem.SeqAt.eq_list_lengthsAt p1.isList p2.isList (by simp;intro z;rw[z] at e1;exact e2 e1) (by lia) ?_
  rw[decide_eq_false e] at q
  exact⟨.bl ao,H,I,rfl,q⟩
end
abbrev z7:RM:=v5
abbrev qm:RM:=ze7
def jw:List V:=[.str "plus",.str "minus",.str "times",.str "over",.str "rest",.str "under",.str "same"]
def isJ(v:V):Bool:=inV v jw
inductive Er where
 | nought | great | stuck
 deriving DecidableEq
def vP(w:Str)(a b:Int):Int :=
 if w="plus" then a + b else if w="minus" then a - b else if w="times" then a * b else if w="under" then (if a < b then 1 else 0) else if w="same" then (if a=b then 1 else 0) else if w="over" then a.fdiv b else a.fmod b
def Xh(w:Str):Prop:=¬ w="plus"/\¬ w="minus"/\¬ w="times"/\¬ w="under"/\¬ w="same"
instance (w:Str):Decidable (Xh w):=by unfold Xh;infer_instance
def vB(w:Str)(a b:Int):Except Er Int:=if Xh w/\b=0 then .error .nought else if inW (vP w a b)=ae then .ok (vP w a b) else .error .great
def zar(kvs:List (Key × V)):V->Int
 | .int i=>i
 | .str x=>(match yH kvs (.inr x) with | some (.int i)=>i | _=>0)
 | _=>0
def ww(kvs:List (Key × V))(st:List Int)(v:V):Except Er (List Int) :=
 if isJ v=ae then (match v,st.reverse with | .str w,b :: a :: r=>(match vB w a b with | .ok c=>.ok (r.reverse ++ [c]) | .error e=>.error e) | _,_=>.error .stuck) else .ok (st ++ [zar kvs v])
def wY(kvs:List (Key × V)):List V->List Int->Except Er (List Int)
 | [],st=>.ok st
 | v :: r,st=>match ww kvs st v with | .ok st'=>wY kvs r st' | .error e=>.error e
section
variable {kvs:List (Key × V)}
theorem qo:∀(p q:List V) (st:List Int),wY kvs (p ++ q) st=match wY kvs p st with | .ok st'=>wY kvs q st' | .error e=>.error e
 | [],q,st=>rfl
 | v :: r,q,st=>by
  show (match ww kvs st v with | .ok st'=>wY kvs (r ++ q) st' | .error e=>.error e)=match (match ww kvs st v with | .ok st'=>wY kvs r st' | .error e=>.error e) with | .ok st'=>wY kvs q st' | .error e=>.error e
  cases ww kvs st v with
  | error e=>rfl
  | ok st'=>exact qo r q st'
def Good(kvs:List (Key × V))(ps:List V)(r:Except Er Int):Prop:=(∀st,wY kvs ps st=match r with | .ok i=>.ok (st ++ [i]) | .error e=>.error e)/\r≠.error .stuck
theorem zcd(h:isJ v=ao):Good kvs [v] (.ok (zar kvs v)):=by
 refine⟨λst=>?_,λz=>nomatch z⟩
 unfold wY ww
 rw[h,ak (by decide)]
 rfl
def zgr(w:Str)(r1 r2:Except Er Int):Except Er Int:=match r1 with | .error e=>.error e | .ok a=>match r2 with | .error e=>.error e | .ok b=>vB w a b
theorem zdf(w:Str)(a b:Int):vB w a b≠.error .stuck:=by
 unfold vB
 split
 ·exact λz=>nomatch z
 ·split <;> exact λz=>nomatch z
theorem zce{r1 r2:Except Er Int}(hw:isJ (.str w)=ae)(g1:Good kvs p1 r1)(g2:Good kvs p2 r2):Good kvs (p1 ++ p2 ++ [.str w]) (zgr w r1 r2):=by
 refine⟨λst=>?_,?_⟩
 ·rw[qo,qo,g1.1]
  cases r1 with
  | error e=>rfl
  | ok a =>
   show (match wY kvs p2 (st ++ [a]) with | .ok st'=>wY kvs [.str w] st' | .error e=>.error e)=_
   rw[g2.1]
   cases r2 with
   | error e=>rfl
   | ok b =>
    show wY kvs [.str w] (st ++ [a] ++ [b])=match vB w a b with | .ok i=>.ok (st ++ [i]) | .error e=>.error e
    unfold wY ww
    rw[hw,ap rfl]
    simp only[nM,oz,oQ,b8,bP,cb]
    cases vB w a b with
    | error e=>rfl
    | ok c=>simp[wY]
 ·unfold zgr
  cases r1 with
  | error e=>exact g1.2
  | ok a =>
   cases r2 with
   | error e=>exact g2.2
   | ok b=>exact zdf w a b
theorem zbp{st:List Int}(h:wY kvs (ps.take i) st=.error e):wY kvs ps st=.error e:=by
 have:=qo (kvs:=kvs) (ps.take i) (ps.drop i) st
 rw[cS,h] at this
 exact this
theorem zfi{ps:List V}{i:Nat}{st st0:List Int}(h:wY kvs (ps.take i) st0=.ok st)(hv:ps[i]?=aa v):wY kvs (ps.take (i + 1)) st0=ww kvs st v:=by
 rw[cX,hv]
 show wY kvs (ps.take i ++ [v]) st0=_
 rw[qo,h]
 show (match ww kvs st v with | .ok st'=>wY kvs [] st' | .error e=>.error e)=_
 cases ww kvs st v <;> rfl
end
def kj(v:V):Prop:=(∃i,v=.int i/\inW i=ae)\/∃x:Str,v=.str x/\x.length<=1000
def yr(kvs:List (Key × V)):Prop:=∀k v,yH kvs k=aa v->∃i,v=.int i/\inW i=ae
theorem KM(h:yr kvs)(hv:kj v):inW (zar kvs v)=ae:=by
 rcases hv with ⟨i,rfl,hi⟩ | ⟨x,rfl,_⟩
 ·exact hi
 ·show inW (match yH kvs (.inr x) with | some (.int i)=>i | _=>0)=ae
  cases e:yH kvs (.inr x) with
  | none=>rfl
  | some u =>
   obtain⟨i,rfl,hi⟩:=h _ _ e
   exact hi
theorem inW_iff{i:Int}:inW i=ae↔-1000000000000000000000000000000<=i/\i<=1000000000000000000000000000000:=by unfold inW;rw[decide_eq_true_eq]
theorem JJ{i:Int}(h:inW i=ae):-big < i/\i < big:=by
 have:=inW_iff.mp h
 have hb:(1000000000000000000000000000001:Int) < big:=by decide +kernel
 lia
abbrev zas(K:bz):RC:=λxs H Q=>∃p ys,xs=[.ref p]/\(SqL K H p ys\/SqT K H p ys)/\∀l,H l=ai->Q (.ref l) (upd H l (.lst ys))
def inL(c:Nat):Bool:=!(mE "abcdefghijklmnopqrstuvwxyz" ⟨#[c]⟩ 0 (gL "abcdefghijklmnopqrstuvwxyz") 1).isEmpty
def wl:List V:=[.str "take",.str "give",.str "let",.str "say",.str "off",.str "if",.str "else",.str "end",.str "as"]
def xD(x:Str):Bool:=!(decide (x="") || decide (6 < x.length)) && !(inV (.str x) jw || inV (.str x) wl) && x.cps.toList.all inL
theorem zfj(c:Nat):inL c=ae->97<=c/\c<=122:=by
 unfold inL
 rw[StrLaws.found_one,decide_eq_true_eq]
 exact(by decide +kernel:∀c∈(bg "abcdefghijklmnopqrstuvwxyz").cps.toList,97<=c/\c<=122) c
theorem Yl(h:xD x=ae):x.cps.toList≠[]/\x.length<=6/\isJ (.str x)=ao/\x.cps.toList.all inL=ae:=by
 unfold xD at h
 rw[b9,b9,cB,cB,iP,iP,decide_eq_false_iff_not,decide_eq_false_iff_not] at h
 refine⟨λz=>h.1.1.1 (zfg (by rw[z];decide +kernel)),by lia,h.1.2.1,h.2⟩
def zdg(w:Str):Option V:=if xD w=ae then aa (.str w) else if zhM w=ae then aa (.int (zdc w)) else ai
inductive Tw where
 | leaf (w:Str) | node (w:Str) (a b:Tw)
def pre:Tw->List Str
 | .leaf w=>[w]
 | .node w a b=>w :: (pre a ++ pre b)
def wfT:Tw->Prop
 | .leaf w=>isJ (.str w)=ao
 | .node w a b=>isJ (.str w)=ae/\wfT a/\wfT b
def okT:Tw->Bool
 | .leaf w=>(zdg w).isSome
 | .node _ a b=>okT a && okT b
def pvw(w:Str):V:=(zdg w).getD (.str w)
def pst:Tw->List V
 | .leaf w=>[pvw w]
 | .node w a b=>pst a ++ pst b ++ [.str w]
def zhO:List Str->Nat->Option Nat
 | _,0=>aa 0
 | [],_ + 1=>ai
 | w :: r,d + 1=>(zhO r (if isJ (.str w)=ae then d + 2 else d)).map (· + 1)
def xB(st:List (List V))(w:Str):Except Bool (List (List V)) :=
 if isJ (.str w)=ae then (match st.reverse with | a :: b :: r=>.ok (r.reverse ++ [a ++ b ++ [.str w]]) | _=>.error ao) else (match zdg w with | some v=>.ok (st ++ [[v]]) | none=>.error ae)
def zat:List Str->List (List V)->Except Bool (List (List V))
 | [],st=>.ok st
 | w :: r,st=>match xB st w with | .ok st'=>zat r st' | .error e=>.error e
theorem zdh:∀(p q:List Str) (st:List (List V)),zat (p ++ q) st=match zat p st with | .ok st'=>zat q st' | .error e=>.error e
 | [],q,st=>rfl
 | v :: r,q,st=>by
  show (match xB st v with | .ok st'=>zat (r ++ q) st' | .error e=>.error e)=match (match xB st v with | .ok st'=>zat r st' | .error e=>.error e) with | .ok st'=>zat q st' | .error e=>.error e
  cases xB st v with
  | error e=>rfl
  | ok st'=>exact zdh r q st'
theorem zdi(h:xD x=ae):Asc x:=λc hc=>by
 have:=zfj c (cZ.mp (Yl h).2.2.2 c hc)
 lia
theorem Inv.turnedL{pins:List (ag × Obj)}{σ:St}{H:Hp}{s:aj}{h':aw}{t':Nat}{ch:List ag}(I:Inv X pins σ H s)(k:∀b o,b ∉ ch->s.heap.get? b=aa o->h'.get? b=aa o)(hf:∀b∈ch,qe X pins H b) :
  Inv X pins σ H { s with heap:=h',toks:=t' }:=by
 have nit:∀b u,H b=aa u->b ∉ ch:=λb u e z=>by rw[(hf b z).1] at e;cases e
 refine I.step (g':=s.gens) (d':=s.drawn) (ch:=ch) (λb hb=>?_) (λb o _ _ hc e _=>k b o hc e) (λb o _ _ hc e _=>⟨o.slots,k b o hc e⟩) (λ_ _ _ _ n=>n) (λb o hc e=>⟨o,k b o hc e⟩) (λ_ _ e=>e) (λ_ _ _ e=>e) (λb ps e=>⟨#[],by rw[e];simp⟩) (λm hm=>?_) (λb u e=>?_) I.bare
 ·obtain⟨f0,f1,f2,f3,f4,f5⟩:=hf b hb
  exact⟨f3,f1,f4,f5⟩
 ·obtain⟨o,es,ep,ho,r⟩:=hm
  exact⟨o,es,ep,k _ o (λz=>(hf _ z).2.1 rfl) ho,r⟩
 ·refine(I.hok b u e).stay (λc v hc q=>k c v ?_ q) (λ_ q=>q) λ_ _ q=>q
  rcases hc with z | z
  ·rw[z];exact nit b u e
  ·exact nit c _ z
abbrev zfk(K:bz):RC:=λxs H Q=>∃p ys,xs=[.ref p]/\((SqL K H p ys/\∀l,H l=ai->Q (.ref l) (upd H l (.tup ys)))\/(SqT K H p ys/\Q (.ref p) H))
def zbq(st:List (List V))(v:V):Option (List (List V)):=if isJ v=ae then (match st.reverse with | b :: a :: r=>aa (r.reverse ++ [v :: (a ++ b)]) | _=>ai) else aa (st ++ [[v]])
def zau:List V->List (List V)->Option (List (List V))
 | [],st=>aa st
 | v :: r,st=>(zbq st v).bind (zau r)
theorem zdj:∀(p q:List V) (st:List (List V)),zau (p ++ q) st=(zau p st).bind (zau q)
 | [],q,st=>rfl
 | v :: r,q,st=>by
  show (zbq st v).bind (zau (r ++ q))=((zbq st v).bind (zau r)).bind (zau q)
  cases zbq st v with
  | none=>rfl
  | some st'=>exact zdj r q st'
end L2
namespace L2
open PySem PySem.W PyProof.Rows
section
variable {α β:Type}{lt:Nat->Nat->Bool}{n:Nat}
def kOk(lt:Nat->Nat->Bool)(n:Nat):KasT α->(α->Prop)->Prop
 | .ret a,R=>R a
 | .ask i j k,R=>i < n/\j < n/\i≠j/\kOk lt n (k (lt i j)) R
theorem zdk:∀ {t:KasT α} {f:α->KasT β} {R:β->Prop},kOk lt n t (λa=>kOk lt n (f a) R)->kOk lt n (t.bind f) R
 | .ret _,_,_,h=>h
 | .ask _ _ _,_,_,h=>⟨h.1,h.2.1,h.2.2.1,zdk h.2.2.2⟩
theorem zdl:∀ {t:KasT α} {R R':α->Prop},kOk lt n t R->(∀a,R a->R' a)->kOk lt n t R'
 | .ret _,_,_,h,m=>m _ h
 | .ask _ _ _,_,_,h,m=>⟨h.1,h.2.1,h.2.2.1,zdl h.2.2.2 m⟩
structure SO(lt:Nat->Nat->Bool)(n:Nat):Prop where
 irr:∀i,i < n->lt i i=ao
 trans:∀i j k,i < n->j < n->k < n->lt i j=ae->lt j k=ae->lt i k=ae
 tot:∀i j,i < n->j < n->i≠j->lt i j=ao->lt j i=ae
def PP(n:Nat)(p:Array Nat):Prop:=p.Perm (bI n).toArray
def gt(p:Array Nat)(k:Nat):Nat:=p.getD k 0
theorem wZ(h:k < p.size):p[k]?=aa (gt p k):=by
 unfold gt
 rw[fV,cF h]
 rfl
theorem PP.size(h:PP n p):p.size=n:=by
 have:=h.size_eq
 simpa using this
theorem PP.blt(h:PP n p)(hk:k < n):gt p k < n:=by
 have hs:=h.size
 have m:gt p k∈p:=Array.mem_of_getElem? (wZ (by lia))
 have m2:gt p k∈(bI n).toArray:=(nX h).mp m
 simpa using m2
theorem PP.inj(h:PP n p)(hi:i < n)(hj:j < n)(e:gt p i=gt p j):i=j:=by
 have hs:=h.size
 have nd:p.toList.Nodup:=by
  have:p.toList.Perm (bI n):=by
   have:=gv.mp h
   simpa using this
  exact this.nodup_iff.mpr oR
 have e1:=wZ (p:=p) (k:=i) (by lia)
 have e2:=wZ (p:=p) (k:=j) (by lia)
 rw[<-e] at e2
 have e1':p.toList[i]?=aa (gt p i):=by simpa using e1
 have e2':p.toList[j]?=aa (gt p i):=by simpa using e2
 obtain⟨a1,b1⟩:=bn.mp e1'
 obtain⟨a2,b2⟩:=bn.mp e2'
 exact(fD nd).mp (b1.trans b2.symm)
def Vk(lt:Nat->Nat->Bool)(p:Array Nat)(m:Nat):Prop:=∀i j,i < j->j < m->lt (gt p i) (gt p j)=ae
theorem KN(S:SO lt n){p:Array Nat}(hp:PP n p){k:Nat}(hk:k < n)(hr:Vk lt p k):∀(f l r:Nat),l<=r->r<=k->r - l<=f->(∀i,i < l->lt (gt p i) (gt p k)=ae)->(∀i,r<=i->i < k->lt (gt p k) (gt p i)=ae) ->
  kOk lt n (kas_place p k f l r) λm=>m<=k/\(∀i,i < m->lt (gt p i) (gt p k)=ae)/\∀i,m<=i->i < k->lt (gt p k) (gt p i)=ae
 | 0,l,r,h1,h2,h3,h4,h5=>⟨by lia,h4,λi hi hik=>h5 i (by lia) hik⟩
 | f + 1,l,r,h1,h2,h3,h4,h5=>by
  unfold kas_place
  by_cases c:l >= r
  ·rw[ap c]
   exact⟨by lia,h4,λi hi hik=>h5 i (by lia) hik⟩
  ·rw[ak c]
   refine⟨hp.blt (by lia),hp.blt (by lia),(λz=>by have:=hp.inj (by lia) (by lia) z;lia),?_⟩
   show kOk lt n (if lt (gt p k) (gt p ((l + r) / 2))=ae then _ else _) _
   by_cases d:lt (gt p k) (gt p ((l + r) / 2))=ae
   ·rw[ap d]
    refine KN S hp hk hr f l ((l + r) / 2) (by lia) (by lia) (by lia) h4 λi hi hik=>?_
    by_cases e:i=(l + r) / 2
    ·rw[e];exact d
    ·exact S.trans _ _ _ (hp.blt (by lia)) (hp.blt (by lia)) (hp.blt (by lia)) d (hr _ i (by lia) hik)
   ·rw[ak d]
    have up:lt (gt p ((l + r) / 2)) (gt p k)=ae:=S.tot _ _ (hp.blt (by lia)) (hp.blt (by lia)) (λz=>by have:=hp.inj (by lia) (by lia) z;lia) (oA.mpr d)
    refine KN S hp hk hr f ((l + r) / 2 + 1) r (by lia) (by lia) (by lia) (λi hi=>?_) h5
    by_cases e:i=(l + r) / 2
    ·rw[e];exact up
    ·exact S.trans _ _ _ (hp.blt (by lia)) (hp.blt (by lia)) (hp.blt (by lia)) (hr i _ (by lia) (by lia)) up
theorem zgW(hk:k < p.size)(hd:d<=k)(hj:j < p.size):gt (bubble p k d) j=if j=k - d then gt p k else if k - d < j/\j<=k then gt p (j - 1) else gt p j:=by
 have e:=getElem?_bubble hk d hd j
 rw[wZ (p:=bubble p k d) (k:=j) (by rw[bubble_size];exact hj)] at e
 by_cases h1:j=k - d
 ·rw[ap h1,wZ hk] at e
  rw[ap h1];exact ck e
 ·rw[ak h1] at e ⊢
  by_cases h2:k - d < j/\j<=k
  ·rw[ap h2,wZ (by lia)] at e
   rw[ap h2];exact ck e
  ·rw[ak h2,wZ hj] at e
   rw[ak h2];exact ck e
end
abbrev SMZ:=StateT SortSt Sem
def jM:Bool->Keyed->Array Keyed->Nat->Nat->Nat->SMZ (Option Nat):=sortPriv% PySem.Builtin.gallop
def zcf:Array Keyed->Array Keyed->SMZ (Array Keyed):=sortPriv% PySem.Builtin.mergeLo
def zcg:Array Keyed->Array Keyed->SMZ (Array Keyed):=sortPriv% PySem.Builtin.mergeHi
def X2(g:Nat):SMZ Unit:=(sortPriv% PySem.Builtin.setMinGallop) g
def zbr(left:Bool)(key:Keyed)(arr:Array Keyed)(base:Nat)(i:Nat):SMZ (Option Bool):=do
 let x <-elem' arr (base + i)
 if left then lt' x key else return (<-lt' key x).map (!·)
def gBZ(bf:Nat->SMZ (Option Bool))(n lo hi:Nat):SMZ (Option (Option Nat) × Nat × Nat) :=
 forIn [:n] (ai,lo,hi) λ_ z=>if z.2.1 >= z.2.2 then pure (.done (ai,z.2.1,z.2.2)) else do
  match <-bf (z.2.1 + (z.2.2 - z.2.1) / 2) with
  | some m=>if m=ae then pure (.yield (ai,z.2.1 + (z.2.2 - z.2.1) / 2 + 1,z.2.2)) else pure (.yield (ai,z.2.1,z.2.1 + (z.2.2 - z.2.1) / 2))
  | _=>pure (.done (aa ai,z.2.1,z.2.2))
def gEZ(bf:Nat->SMZ (Option Bool))(n lo hi:Nat):SMZ (Option Nat):=do
 let z <-gBZ bf n lo hi
 match z.1 with
 | some r=>pure r
 | none=>pure (aa z.2.2)
def gRZ(bf:Nat->SMZ (Option Bool))(n hint mx:Nat):SMZ (Option (Option Nat) × Nat × Nat) :=
 forIn [:n] (ai,0,1) λ_ z=>if z.2.2 >= mx then pure (.done (ai,z.2.1,z.2.2)) else do
  match <-bf (hint + z.2.2) with
  | some m=>if (!m)=ae then pure (.done (ai,z.2.1,z.2.2)) else pure (.yield (ai,z.2.2,2 * z.2.2 + 1))
  | _=>pure (.done (aa ai,z.2.1,z.2.2))
def gLZ(bf:Nat->SMZ (Option Bool))(n hint mx:Nat):SMZ (Option (Option Nat) × Nat × Nat) :=
 forIn [:n] (ai,0,1) λ_ z=>if z.2.2 >= mx then pure (.done (ai,z.2.1,z.2.2)) else do
  match <-bf (hint - z.2.2) with
  | some m=>if m=ae then pure (.done (ai,z.2.1,z.2.2)) else pure (.yield (ai,z.2.2,2 * z.2.2 + 1))
  | _=>pure (.done (aa ai,z.2.1,z.2.2))
def zbs(bf:Nat->SMZ (Option Bool))(n hint:Nat):SMZ (Option Nat):=do
 match <-bf hint with
 | some r=>if r=ae then (do
   let z <-gRZ bf n hint (n - hint)
   match z.1 with
   | some r=>pure r
   | none=>gEZ bf n (hint + z.2.1 + 1) (hint + min z.2.2 (n - hint))) else (do
   let z <-gLZ bf n hint (hint + 1)
   match z.1 with
   | some r=>pure r
   | none=>gEZ bf n (hint + 1 - min z.2.2 (hint + 1)) (hint - z.2.1))
 | _=>pure ai
theorem KO(left:Bool)(key:Keyed)(arr:Array Keyed)(base n hint:Nat):jM left key arr base n hint=zbs (zbr left key arr base) n hint:=by
 have tl:∀(lo hi:Nat) (f:Option (Option Nat) × Nat × Nat->SMZ (Option Nat)),(∀z,f z=match z.1 with | some r=>pure r | none=>pure (aa z.2.2))->(gBZ (zbr left key arr base) n lo hi >>= f)=gEZ (zbr left key arr base) n lo hi:=λlo hi f h=>by
  unfold gEZ
  congr 1
  exact funext h
 unfold zbs
 show bind _ _=bind _ _
 congr 1
 funext z
 cases z with
 | none=>rfl
 | some r =>
  show ite _ _ _=ite _ _ _
  congr 1
  ·show bind _ _=bind _ _
   congr 1
   funext z
   obtain⟨z1,z2,z3⟩:=z
   cases z1 with
   | some r=>rfl
   | none =>
    refine tl _ _ _ λz=>?_
    obtain⟨z1,z2,z3⟩:=z
    cases z1 <;> rfl
  ·show bind _ _=bind _ _
   congr 1
   funext z
   obtain⟨z1,z2,z3⟩:=z
   cases z1 with
   | some r=>rfl
   | none =>
    refine tl _ _ _ λz=>?_
    obtain⟨z1,z2,z3⟩:=z
    cases z1 <;> rfl
section
variable {prog:aq}{w:au}{A:av}{E:af->aj->Prop}{s:aj}
def zgs(M:Model)(A:av)(E:af->aj->Prop)(s:aj)(st:SortSt)(bf:Nat->SMZ (Option Bool))(b:Nat->Bool)(n:Nat):Prop:=∀i,i < n->∀Q:Option Bool->SortSt->Prop,Q (aa (b i)) st->wpS M A E s (bf i) Q st
structure zgX(b:Nat->Bool)(n k:Nat):Prop where
 le:k<=n
 lo:∀i,i < k->b i=ae
 hi:∀i,k<=i->i < n->b i=ao
variable {M:Model}{st:SortSt}{bf:Nat->SMZ (Option Bool)}{b:Nat->Bool}{n:Nat}
theorem zbt{lo hi:Nat}{Q:Option Nat->SortSt->Prop}(ha:zgs M A E s st bf b n)(mono:∀i j,i<=j->j < n->b j=ae->b i=ae)(h1:lo<=hi)(h2:hi<=n)(hl:∀i,i < lo->b i=ae)(hh:∀i,hi<=i->i < n->b i=ao)(q:∀k,zgX b n k->Q (aa k) st) :
  wpS M A E s (gEZ bf n lo hi) Q st:=by
 unfold gEZ
 refine bK (dO (show wpS M A E s (gBZ bf n lo hi) (λz st'=>st=st'/\z.1=ai/\zgX b n z.2.2) st from ?_) ?_)
 ·unfold gBZ
  refine de (λx z st'=>st=st'/\z.1=ai/\z.2.1<=z.2.2/\z.2.2<=n/\(∀i,i < z.2.1->b i=ae)/\(∀i,z.2.2<=i->i < n->b i=ao)/\z.2.2 - z.2.1<=n - x) ?_ ?_ ⟨rfl,rfl,h1,h2,hl,hh,by dsimp only;lia⟩
  ·rintro x ⟨r,l,h⟩ st' _ hx ⟨rfl,rfl,a1,a2,a3,a4,a5⟩
   dsimp only at *
   by_cases c:l >= h
   ·rw[ap c]
    exact b6 ⟨rfl,rfl,a2,λi hi=>a3 i (by dsimp only at hi;lia),a4⟩
   ·rw[ak c]
    refine bK (ha _ (by lia) _ ?_)
    dsimp only
    cases e:b (l + (h - l) / 2) with
    | true =>
     rw[ap rfl]
     refine b6 ⟨rfl,rfl,by dsimp only;lia,a2,λi hi=>?_,a4,ig (cg (by lia) a5)⟩
     dsimp only at hi
     exact mono i _ (by lia) (by lia) e
    | false =>
     rw[ak (by decide)]
     refine b6 ⟨rfl,rfl,by dsimp only;lia,by dsimp only;lia,a3,λi h1 h2=>?_,ig (cg (by lia) a5)⟩
     dsimp only at h1
     cases e2:b i with
     | false=>rfl
     | true=>rw[mono _ i h1 h2 e2] at e;cases e
  ·rintro⟨r,l,h⟩ st' ⟨rfl,rfl,a1,a2,a3,a4,a5⟩
   dsimp only at *
   have:max 0 n=n:=by lia
   exact⟨rfl,rfl,a2,λi hi=>a3 i (by lia),a4⟩
 ·rintro⟨r,l,h⟩ st' ⟨rfl,rfl,c⟩
  exact b6 (q _ c)
theorem zch{Q:Option Nat->SortSt->Prop}(ha:zgs M A E s st bf b n)(mono:∀i j,i<=j->j < n->b j=ae->b i=ae)(hn:hint < n)(q:∀k,zgX b n k->Q (aa k) st) :
  wpS M A E s (zbs bf n hint) Q st:=by
 unfold zbs
 refine bK (ha _ hn _ ?_)
 dsimp only
 cases e:b hint with
 | true =>
  rw[ap rfl]
  refine bK (dO (show wpS M A E s (gRZ bf n hint (n - hint)) (λz st'=>st=st'/\z.1=ai/\hint + z.2.1 < n/\b (hint + z.2.1)=ae/\z.2.1 < z.2.2/\(z.2.2 < n - hint->b (hint + z.2.2)=ao)) st from ?_) ?_)
  ·unfold gRZ
   refine de (λx z st'=>st=st'/\z.1=ai/\hint + z.2.1 < n/\b (hint + z.2.1)=ae/\z.2.1 < z.2.2/\x < z.2.2) ?_ ?_ ⟨rfl,rfl,hn,by simpa using e,by dsimp only;lia,by dsimp only;lia⟩
   ·rintro x ⟨r,l,o⟩ st' _ hx ⟨rfl,rfl,a1,a2,a3,a4⟩
    dsimp only at *
    by_cases c:o >= n - hint
    ·rw[ap c]
     exact b6 ⟨rfl,rfl,a1,a2,a3,λz=>by dsimp only at z;lia⟩
    ·rw[ak c]
     refine bK (ha _ (by lia) _ ?_)
     dsimp only
     cases e2:b (hint + o) with
     | true =>
      rw[ak (by decide)]
      exact b6 ⟨rfl,rfl,by dsimp only;lia,e2,by dsimp only;lia,by dsimp only;lia⟩
     | false =>
      rw[ap (by decide)]
      exact b6 ⟨rfl,rfl,a1,a2,a3,λ_=>e2⟩
   ·rintro⟨r,l,o⟩ st' ⟨rfl,rfl,a1,a2,a3,a4⟩
    dsimp only at *
    exact⟨rfl,rfl,a1,a2,a3,λz=>by lia⟩
  ·rintro⟨r,l,o⟩ st' ⟨rfl,rfl,a1,a2,a3,a4⟩
   dsimp only at *
   refine zbt ha mono (by lia) (by lia) (λi hi=>mono i _ (by lia) a1 a2) (λi h1 h2=>?_) q
   have f:=a4 (by lia)
   cases e2:b i with
   | false=>rfl
   | true=>rw[mono (hint + o) i (by lia) h2 e2] at f;cases f
 | false =>
  rw[ak (by decide)]
  refine bK (dO (show wpS M A E s (gLZ bf n hint (hint + 1)) (λz st'=>st=st'/\z.1=ai/\z.2.1<=hint/\b (hint - z.2.1)=ao/\z.2.1 < z.2.2/\(z.2.2 < hint + 1->b (hint - z.2.2)=ae)) st from ?_) ?_)
  ·unfold gLZ
   refine de (λx z st'=>st=st'/\z.1=ai/\z.2.1<=hint/\b (hint - z.2.1)=ao/\z.2.1 < z.2.2/\x < z.2.2) ?_ ?_ ⟨rfl,rfl,by dsimp only;lia,by simpa using e,by dsimp only;lia,by dsimp only;lia⟩
   ·rintro x ⟨r,l,o⟩ st' _ hx ⟨rfl,rfl,a1,a2,a3,a4⟩
    dsimp only at *
    by_cases c:o >= hint + 1
    ·rw[ap c]
     exact b6 ⟨rfl,rfl,a1,a2,a3,λz=>by dsimp only at z;lia⟩
    ·rw[ak c]
     refine bK (ha _ (by lia) _ ?_)
     dsimp only
     cases e2:b (hint - o) with
     | false =>
      rw[ak (by decide)]
      exact b6 ⟨rfl,rfl,by dsimp only;lia,e2,by dsimp only;lia,by dsimp only;lia⟩
     | true =>
      rw[ap rfl]
      exact b6 ⟨rfl,rfl,a1,a2,a3,λ_=>e2⟩
   ·rintro⟨r,l,o⟩ st' ⟨rfl,rfl,a1,a2,a3,a4⟩
    dsimp only at *
    exact⟨rfl,rfl,a1,a2,a3,λz=>by lia⟩
  ·rintro⟨r,l,o⟩ st' ⟨rfl,rfl,a1,a2,a3,a4⟩
   dsimp only at *
   refine zbt ha mono (by lia) (by lia) (λi hi=>?_) (λi h1 h2=>?_) q
   ·by_cases c:o < hint + 1
    ·exact mono i _ (by lia) (by lia) (a4 c)
    ·lia
   ·cases e2:b i with
    | false=>rfl
    | true=>rw[mono (hint - l) i (by lia) h2 e2] at a2;cases a2
end
def imZ(it:Nat->Keyed)(p:List Nat):Array Keyed:=(p.map it).toArray
section
variable {it:Nat->Keyed}
theorem yj(p:List Nat):(imZ it p).size=p.length:=by simp[imZ]
theorem yt{i x:Nat}(h:p[i]?=aa x):(imZ it p)[i]?=aa (it x):=by simp[imZ,h]
theorem qp(p:List Nat)(x:Nat):(imZ it p).push (it x)=imZ it (p ++ [x]):=by simp[imZ]
theorem zN(p q:List Nat):imZ it p ++ imZ it q=imZ it (p ++ q):=by simp[imZ]
theorem v6(p:List Nat)(i j:Nat):(imZ it p).extract i j=imZ it ((p.drop i).take (j - i)):=by simp[imZ,gn,gO]
theorem xr(p:List Nat)(i:Nat):(imZ it p).extract i (imZ it p).size=imZ it (p.drop i):=by
 rw[v6,yj,bQ (by rw[cC];lia)]
end
theorem V2{it:Nat->Keyed}(p:List Nat)(i:Nat):(imZ it p).extract i p.length=imZ it (p.drop i):=by
 rw[v6,bQ (by rw[cC];lia)]
structure MIZ(lt:Nat->Nat->Bool)(a b o P Q:List Nat):Prop where
 so:o.Pairwise λx y=>lt x y=ae
 pe:(o ++ P ++ Q).Perm (a ++ b)
 be:∀x∈o,∀y∈P ++ Q,lt x y=ae
 sp:P.Pairwise λx y=>lt x y=ae
 sq:Q.Pairwise λx y=>lt x y=ae
structure XD(lt:Nat->Nat->Bool)(a b m:List Nat):Prop where
 pe:m.Perm (a ++ b)
 so:m.Pairwise λx y=>lt x y=ae
section
variable {lt:Nat->Nat->Bool}{a b o P Q c:List Nat}
theorem MIZ.left(h:MIZ lt a b o (c ++ P) Q)(k:∀x∈c,∀y∈Q,lt x y=ae):MIZ lt a b (o ++ c) P Q:=by
 have sp:=ca.mp h.sp
 refine⟨ca.mpr ⟨h.so,sp.1,λx hx y hy=>h.be x hx y (by simp[hy])⟩,?_,λx hx y hy=>?_,sp.2.1,h.sq⟩
 ·have:=h.pe
  simpa[cb] using this
 ·rcases bF.mp hx with hx | hx
  ·exact h.be x hx y (by rcases bF.mp hy with hy | hy <;> simp[hy])
  ·rcases bF.mp hy with hy | hy
   ·exact sp.2.2 x hx y hy
   ·exact k x hx y hy
theorem MIZ.right(h:MIZ lt a b o P (c ++ Q))(k:∀x∈c,∀y∈P,lt x y=ae):MIZ lt a b (o ++ c) P Q:=by
 have sq:=ca.mp h.sq
 refine⟨ca.mpr ⟨h.so,sq.1,λx hx y hy=>h.be x hx y (by simp[hy])⟩,?_,λx hx y hy=>?_,h.sp,sq.2.1⟩
 ·refine gP ?_ h.pe
  rw[cb,cb,cb]
  refine fW _ ?_
  rw[<-cb,<-cb]
  exact fM _ fX
 ·rcases bF.mp hx with hx | hx
  ·exact h.be x hx y (by rcases bF.mp hy with hy | hy <;> simp[hy])
  ·rcases bF.mp hy with hy | hy
   ·exact k x hx y hy
   ·exact sq.2.2 x hx y hy
theorem MIZ.len(h:MIZ lt a b o P Q):o.length + P.length + Q.length=a.length + b.length:=by
 have:=h.pe.length_eq
 simp only[bt] at this
 lia
theorem MIZ.end(h:MIZ lt a b o P Q)(k:∀x∈P,∀y∈Q,lt x y=ae):XD lt a b (o ++ P ++ Q) :=
 ⟨h.pe,ca.mpr ⟨ca.mpr ⟨h.so,h.sp,λx hx y hy=>h.be x hx y (by simp[hy])⟩,h.sq,λx hx y hy=>by
  rcases bF.mp hx with hx | hx
  ·exact h.be x hx y (by simp[hy])
  ·exact k x hx y hy⟩⟩
theorem MIZ.end'(h:MIZ lt a b o P Q)(k:∀x∈Q,∀y∈P,lt x y=ae):XD lt a b (o ++ Q ++ P):=by
 refine⟨?_,ca.mpr ⟨ca.mpr ⟨h.so,h.sq,λx hx y hy=>h.be x hx y (by simp[hy])⟩,h.sp,λx hx y hy=>?_⟩⟩
 ·refine gP ?_ h.pe
  rw[cb,cb]
  exact fW _ fX
 ·rcases bF.mp hx with hx | hx
  ·exact h.be x hx y (by simp[hy])
  ·exact k x hx y hy
theorem MIZ.start(ha:a.Pairwise λx y=>lt x y=ae)(hb:b.Pairwise λx y=>lt x y=ae):MIZ lt a b [] a b:=⟨.nil,by simp,(λx h=>nomatch h),ha,hb⟩
end
section
variable {prog:aq}{w:au}{A:av}{E:af->aj->Prop}{s:aj}{κ:SortKind}{it:Nat->Keyed}{lt:Nat->Nat->Bool}{N:Nat}
def yK(prog:aq)(w:au)(A:av)(s:aj)(κ:SortKind)(it:Nat->Keyed)(lt:Nat->Nat->Bool)(N:Nat):Prop:=∀i j (C:Bool->aj->Prop),i < N->j < N->i≠j->C (lt i j) s->wpAny (model prog w) A (keyLt' κ (it i).1 (it j).1) C (λ_ _=>False) s
structure xS(κ:SortKind)(st0 st:SortSt):Prop where
 k:kindOf st=κ
 f:failedOf st=ai
 a:arrOf st=arrOf st0
 p:pendingOf st=pendingOf st0
theorem qq{st:SortSt}{Q:Option Bool->SortSt->Prop}(hc:yK prog w A s κ it lt N)(hk:kindOf st=κ)(hi:i < N)(hj:j < N)(hij:i≠j)(q:Q (aa (lt i j)) st):wpS (model prog w) A E s (lt' (it i) (it j)) Q st:=by
 rw[lt'_eq]
 refine bK (wpS_get ?_)
 rw[hk]
 refine bK (nt (iS (dh (hc i j (λb s'=>s'=s/\b=lt i j) hi hj hij ⟨rfl,rfl⟩) (λb s' h=>?_) λ_ _ h=>h.elim)))
 obtain⟨rfl,rfl⟩:=h
 exact⟨rfl,b6 q⟩
theorem zV{st:SortSt}{arr:Array Keyed}{i:Nat}{x:Keyed}{Q:Keyed->SortSt->Prop}(h:arr[i]?=aa x)(q:Q x st):wpS M A E s (elem' arr i) Q st:=by
 rw[elem'_eq,h]
 exact b6 q
theorem zdm(S:SO lt N)(hi:i < N)(hj:j < N)(hij:i≠j):(!lt i j)=lt j i:=by
 cases e:lt i j with
 | false=>rw[S.tot i j hi hj hij e];rfl
 | true =>
  cases e2:lt j i with
  | false=>rfl
  | true =>
   have:=S.trans i j i hi hj hi e e2
   rw[S.irr i hi] at this;cases this
theorem xX{st:SortSt}{left:Bool}{kx base n hint:Nat}{Q:Option Nat->SortSt->Prop}(S:SO lt N)(hc:yK prog w A s κ it lt N)(hk:kindOf st=κ)(kN:kx < N)(h1:∀x∈(a.drop base).take n,x < N/\x≠kx)(srt:((a.drop base).take n).Pairwise λx y=>lt x y=ae)(len:base + n<=a.length)(hh:hint < n)
  (q:∀k,k<=n->(∀x∈(a.drop base).take k,lt x kx=ae)->(∀x∈((a.drop base).take n).drop k,lt kx x=ae)->Q (aa k) st) :
  wpS (model prog w) A E s (jM left (it kx) (imZ it a) base n hint) Q st:=by
 rw[KO]
 have g:∀i,i < n->∃x,a[base + i]?=aa x/\x < N/\x≠kx/\((a.drop base).take n)[i]?=aa x:=λi hi=>by
  have e:a[base + i]?=aa a[base + i]:=ba (by lia)
  have e2:((a.drop base).take n)[i]?=aa a[base + i]:=by rw[dC hi,dI,e]
  exact⟨_,e,(h1 _ (bD e2)).1,(h1 _ (bD e2)).2,e2⟩
 refine zch (b:=λi=>lt (a.getD (base + i) 0) kx) (λi hi Q' q'=>?_) (λi j hij hj hb=>?_) hh λk c=>?_
 ·obtain⟨x,e,xN,xk,_⟩:=g i hi
  have ed:a.getD (base + i) 0=x:=by rw[bh,e];rfl
  dsimp only at q'
  rw[ed] at q'
  unfold zbr
  refine bK (zV (yt e) ?_)
  cases left with
  | true =>
   rw[ap rfl]
   exact qq hc hk xN kN xk q'
  | false =>
   rw[ak (by decide)]
   refine bK (qq hc hk kN xN (cH xk) (b6 ?_))
   show Q' (aa (!lt kx x)) st
   rw[zdm S kN xN (cH xk)]
   exact q'
 ·obtain⟨x,e,xN,xk,ex⟩:=g i (by lia)
  obtain⟨y,e',yN,yk,ey⟩:=g j hj
  have ed:a.getD (base + i) 0=x:=by rw[bh,e];rfl
  have ed':a.getD (base + j) 0=y:=by rw[bh,e'];rfl
  rw[ed'] at hb
  rw[ed]
  by_cases c:i=j
  ·subst c;rw[e] at e';cases e';exact hb
  ·have l:=(bn.mp ex)
   have l':=(bn.mp ey)
   have:=c9.mp srt i j l.1 l'.1 (by lia)
   rw[l.2,l'.2] at this
   exact S.trans _ _ _ xN yN kN this hb
 ·refine q k c.le (λx hx=>?_) λx hx=>?_
  ·obtain⟨i,hi⟩:=cV hx
   have il:=(bn.mp hi).1
   rw[cm] at il
   rw[dC (by lia),dI] at hi
   have:=c.lo i (by lia)
   rw[bh,hi] at this
   exact this
  ·obtain⟨i,hi⟩:=cV hx
   rw[dI] at hi
   have il:=(bn.mp hi).1
   have kl:=c.le
   rw[cm,cC] at il
   obtain⟨y,e,yN,yk,ey⟩:=g (k + i) (by lia)
   rw[ey] at hi
   cases hi
   have:=c.hi (k + i) (by lia) (by lia)
   rw[bh,e] at this
   exact S.tot x kx yN kN yk this
end
section
variable {prog:aq}{w:au}{A:av}{E:af->aj->Prop}{s:aj}{κ:SortKind}{it:Nat->Keyed}{lt:Nat->Nat->Bool}{N:Nat}
structure MPreZ(lt:Nat->Nat->Bool)(N:Nat)(a b:List Nat):Prop where
 sa:a.Pairwise λx y=>lt x y=ae
 sb:b.Pairwise λx y=>lt x y=ae
 nA:∀x∈a,x < N
 nB:∀x∈b,x < N
 dj:∀x∈a,∀y∈b,x≠y
 la:0 < a.length
 lb:0 < b.length
 hd:∀y∈a,lt (b.getD 0 0) y=ae
 tl:∀x∈b,lt x (a.getD (a.length - 1) 0)=ae
variable {a b:List Nat}
theorem xT{l:List Nat}(h:l[i]?=aa x):l.drop i=[x] ++ l.drop (i + 1):=by
 obtain⟨hl,rfl⟩:=bn.mp h
 rw[cU hl];rfl
theorem Wr{l:List Nat}(i k:Nat):l.drop i=(l.drop i).take k ++ l.drop (i + k):=by
 rw[<-gG,cS]
theorem xY{l:List Nat}(h:x∈l.drop i):x∈l:=gB h
theorem MPreZ.last(P:MPreZ lt N a b)(h:ia + 1=a.length):∀x∈b.drop ib,∀y∈a.drop ia,lt x y=ae:=by
 intro x hx y hy
 have e:a.drop ia=[a.getD (a.length - 1) 0]:=by
  have g:a[ia]?=aa a[ia]:=ba (by lia)
  rw[xT g,fL (by lia)]
  have:a.getD (a.length - 1) 0=a[ia]:=by rw[bh,show a.length - 1=ia by lia,g];rfl
  rw[this];rfl
 rw[e,b5] at hy
 rw[hy]
 exact P.tl x (xY hx)
theorem v7(S:SO lt N){l:List Nat}(sl:l.Pairwise λx y=>lt x y=ae)(nl:∀x∈l,x < N)(hx:l[i]?=aa x)(yN:y < N)(h:lt y x=ae):∀z∈l.drop i,lt y z=ae:=by
 intro z hz
 rw[xT hx] at hz
 rcases bF.mp hz with hz | hz
 ·rw[b5.mp hz];exact h
 ·have xl:=bD hx
  refine S.trans y x z yN (nl x xl) (nl z (xY hz)) h ?_
  obtain⟨k,hk⟩:=cV hz
  rw[dI] at hk
  obtain⟨l1,e1⟩:=bn.mp hx
  obtain⟨l2,e2⟩:=bn.mp hk
  have:=c9.mp sl i (i + 1 + k) l1 l2 (by lia)
  rw[e1,e2] at this
  exact this
structure WayZ(lt:Nat->Nat->Bool)(a b o:List Nat)(ia ib:Nat):Prop where
 m:MIZ lt a b o (a.drop ia) (b.drop ib)
 ha:ia + 1 < a.length
 hb:ib < b.length
theorem WayZ.len(W:WayZ lt a b o ia ib):o.length < a.length + b.length:=by
 have:=W.m.len
 have h1:=W.ha
 have h2:=W.hb
 rw[cC,cC] at this
 lia
def KP(κ:SortKind)(it:Nat->Keyed)(lt:Nat->Nat->Bool)(a b:List Nat)(st0:SortSt)(r:Option (Array Keyed))(st:SortSt):Prop:=∃m,r=aa (imZ it m)/\XD lt a b m/\xS κ st0 st
abbrev KQ:=Option (Array Keyed) × Array Keyed × Nat × Nat × Nat × Nat × Nat
def zdn(a b:Array Keyed)(mg ac bc:Nat)(out:Array Keyed)(ia ib:Nat):SMZ (ForInStep KQ):=do
 let x <-elem' a ia
 if (ia + 1 + 1 == a.size)=ae then pure (.done (aa (out.push x ++ b.extract ib b.size ++ a.extract (ia + 1) a.size),out.push x,ia + 1,ib,mg,ac,bc))
 else if (decide (ac < 7) && decide (bc < 7))=ae then pure (.done (ai,out.push x,ia + 1,ib,mg,ac,bc))
 else pure (.yield (ai,out.push x,ia + 1,ib,mg,ac,bc))
def zdo(a b:Array Keyed)(mg ac bc:Nat)(out:Array Keyed)(ia ib:Nat):SMZ (ForInStep KQ):=do
 let x <-elem' b ib
 if (ib + 1 == b.size)=ae then pure (.done (aa (out.push x ++ a.extract ia a.size ++ b.extract (ib + 1) b.size),out.push x,ia,ib + 1,mg,ac,bc))
 else do
  let y <-elem' a ia
  match <-jM ae y b (ib + 1) (b.size - (ib + 1)) 0 with
  | some k=>if k > 0 then (if (ib + 1 + k == b.size)=ae then pure (.done (aa (out.push x ++ b.extract (ib + 1) (ib + 1 + k) ++ a.extract ia a.size ++ b.extract (ib + 1 + k) b.size),out.push x ++ b.extract (ib + 1) (ib + 1 + k),ia,ib + 1 + k,mg,ac,k)) else zdn a b mg ac k (out.push x ++ b.extract (ib + 1) (ib + 1 + k)) ia (ib + 1 + k)) else zdn a b mg ac k (out.push x) ia (ib + 1)
  | _=>pure (.done (aa (out.push x ++ a.extract ia a.size ++ b.extract (ib + 1) b.size),out.push x,ia,ib + 1,mg,ac,bc))
def zdp(κ:SortKind)(it:Nat->Keyed)(lt:Nat->Nat->Bool)(a b:List Nat)(st0:SortSt)(n:Nat)(r:ForInStep KQ)(st:SortSt):Prop:=match r with
 | .done c=>KP κ it lt a b st0 c.1 st\/∃o ia ib mg ac bc,c=(ai,imZ it o,ia,ib,mg,ac,bc)/\WayZ lt a b o ia ib/\n < o.length/\xS κ st0 st
 | .yield c=>∃o ia ib mg ac bc,c=(ai,imZ it o,ia,ib,mg,ac,bc)/\WayZ lt a b o ia ib/\n < o.length/\xS κ st0 st
theorem zP{α:Type}{c:Prop} [Decidable c]{m n:SMZ α}{Q:α->SortSt->Prop}{st:SortSt}(h1:c->wpS M A E s m Q st)(h2:¬c->wpS M A E s n Q st):wpS M A E s (if c then m else n) Q st:=by
 by_cases d:c
 ·rw[ap d];exact h1 d
 ·rw[ak d];exact h2 d
theorem xt(h:¬(n == 0)=ae):0 < n:=Nat.pos_of_ne_zero λe=>h (by rw[e];rfl)
theorem yn{n k:Nat}(h:¬(n == k)=ae):n≠k:=λe=>h (by rw[e];exact beq_self_eq_true k)
theorem w4{x n:Nat}(h:n<=o.length):n < (o ++ [x]).length:=by rw[bt];exact mj h
theorem MIZ.stA(S:SO lt N)(P:MPreZ lt N a b)(m:MIZ lt a b o (a.drop ia) (b.drop ib))(ga:a[ia]?=aa xa)(gb:b[ib]?=aa xb)(e:lt xa xb=ae):MIZ lt a b (o ++ [xa]) (a.drop (ia + 1)) (b.drop ib):=by
 rw[xT ga] at m
 exact m.left λx hx z hz=>by rw[b5.mp hx];exact v7 S P.sb P.nB gb (P.nA _ (bD ga)) e z hz
theorem MIZ.stB(S:SO lt N)(P:MPreZ lt N a b)(m:MIZ lt a b o (a.drop ia) (b.drop ib))(ga:a[ia]?=aa xa)(gb:b[ib]?=aa xb)(e:lt xb xa=ae):MIZ lt a b (o ++ [xb]) (a.drop ia) (b.drop (ib + 1)):=by
 rw[xT gb] at m
 exact m.right λx hx z hz=>by rw[b5.mp hx];exact v7 S P.sa P.nA ga (P.nB _ (bD gb)) e z hz
theorem MIZ.endB(m:MIZ lt a b o (a.drop ia) (b.drop ib))(e:(ib == b.length)=ae):XD lt a b (o ++ a.drop ia ++ b.drop ib):=m.end λx hx y hy=>by rw[lh e,mJ] at hy;cases hy
theorem MIZ.endL(P:MPreZ lt N a b)(m:MIZ lt a b o (a.drop ia) (b.drop ib))(e:(ia + 1 == a.length)=ae):XD lt a b (o ++ b.drop ib ++ a.drop ia):=m.end' (P.last (lh e))
theorem V3{st0 st:SortSt}{mg ac bc ia ib n xa xb:Nat}(S:SO lt N)(P:MPreZ lt N a b)(k:xS κ st0 st)(m:MIZ lt a b o (a.drop ia) (b.drop ib))(ha:ia + 1 < a.length)(ga:a[ia]?=aa xa)(gb:b[ib]?=aa xb)(e:lt xa xb=ae)(hn:n<=o.length) :
  wpS (model prog w) A E s (zdn (imZ it a) (imZ it b) mg ac bc (imZ it o) ia ib) (zdp κ it lt a b st0 n) st:=by
 refine bK (zV (yt ga) ?_)
 have M2:=m.stA S P ga gb e
 rw[qp,xr,xr,yj,zN,zN]
 refine zP (λd=>b6 (.inl ⟨_,rfl,M2.endL P d,k⟩)) λd=>?_
 have d:=yn d
 have W2:WayZ lt a b (o ++ [xa]) (ia + 1) ib:=⟨M2,by lia,(bn.mp gb).1⟩
 exact zP (λ_=>b6 (.inr ⟨_,_,_,_,_,_,rfl,W2,w4 hn,k⟩)) λ_=>b6 ⟨_,_,_,_,_,_,rfl,W2,w4 hn,k⟩
theorem V4{st0 st:SortSt}{mg ac bc ia ib n xa xb:Nat}(S:SO lt N)(hc:yK prog w A s κ it lt N)(P:MPreZ lt N a b)(k:xS κ st0 st)(m:MIZ lt a b o (a.drop ia) (b.drop ib))(ha:ia + 1 < a.length)(ga:a[ia]?=aa xa)(gb:b[ib]?=aa xb)(e:lt xb xa=ae)(hn:n<=o.length) :
  wpS (model prog w) A E s (zdo (imZ it a) (imZ it b) mg ac bc (imZ it o) ia ib) (zdp κ it lt a b st0 n) st:=by
 have ma:=bD ga
 have lb:=(bn.mp gb).1
 refine bK (zV (yt gb) ?_)
 have M2:=m.stB S P ga gb e
 rw[qp,xr,xr,yj,zN,zN]
 refine zP (λd=>b6 (.inl ⟨_,rfl,M2.endB d,k⟩)) λd=>?_
 have d:=yn d
 have tk:(b.drop (ib + 1)).take (b.length - (ib + 1))=b.drop (ib + 1):=bQ (by rw[cC];exact bq _)
 refine bK (zV (yt ga) (bK (xX S hc k.k (P.nA _ ma) (λx hx=>?_) ?_ (by lia) (by lia) λj hj lo hi=>?_)))
 ·rw[tk] at hx;exact⟨P.nB _ (xY hx),cH (P.dj _ ma _ (xY hx))⟩
 ·rw[tk];exact M2.sq
 ·rw[tk] at hi
  dsimp only
  have nx:ib + 1 + j < b.length->∃y,b[ib + 1 + j]?=aa y/\lt xa y=ae:=λh=>by
   have g:b[ib + 1 + j]?=aa b[ib + 1 + j]:=ba h
   refine⟨_,g,hi _ ?_⟩
   rw[gG,xT g];exact cE _ (fj _)
  refine zP (λz=>?_) λz=>?_
  ·rw[v6,fk,zN,V2,zN,zN]
   have M3:MIZ lt a b (o ++ [xb] ++ (b.drop (ib + 1)).take j) (a.drop ia) (b.drop (ib + 1 + j)):=by
    rw[Wr (ib + 1) j] at M2
    exact M2.right λx hx z hz=>v7 S P.sa P.nA ga (P.nB _ (xY (dJ hx))) (lo x hx) z hz
   refine zP (λd=>b6 (.inl ⟨_,rfl,M3.endB d,k⟩)) λd=>?_
   have d:=yn d
   obtain⟨y,gy,ly⟩:=nx (by lia)
   exact V3 S P k M3 ha ga gy ly (by rw[bt];exact bR (fQ (w4 hn)) (gI ..))
  ·obtain rfl:j=0:=mS z
   obtain⟨y,gy,ly⟩:=nx (by lia)
   exact V3 S P k M2 ha ga gy ly (fQ (w4 hn))
abbrev KR:=Option (Array Keyed) × Array Keyed × Nat × Nat × Nat × Nat
abbrev JK:=Option (Array Keyed) × Array Keyed × Nat × Nat × Nat
def zhP(a b:Array Keyed)(mg bc:Nat)(out:Array Keyed)(ia ib:Nat):SMZ (ForInStep KR):=do
 let x <-elem' b ib
 if (ib + 1 == b.size)=ae then pure (.done (aa (out.push x ++ a.extract ia a.size ++ b.extract (ib + 1) b.size),out.push x,ia,ib + 1,0,bc + 1))
 else if bc + 1 >= mg then pure (.done (ai,out.push x,ia,ib + 1,0,bc + 1)) else pure (.yield (ai,out.push x,ia,ib + 1,0,bc + 1))
def zhQ(a b:Array Keyed)(mg ac:Nat)(out:Array Keyed)(ia ib:Nat):SMZ (ForInStep KR):=do
 let x <-elem' a ia
 if (ia + 1 + 1 == a.size)=ae then pure (.done (aa (out.push x ++ b.extract ib b.size ++ a.extract (ia + 1) a.size),out.push x,ia + 1,ib,ac + 1,0))
 else if ac + 1 >= mg then pure (.done (ai,out.push x,ia + 1,ib,ac + 1,0)) else pure (.yield (ai,out.push x,ia + 1,ib,ac + 1,0))
def zgt(a b:Array Keyed)(mg:Nat)(z:KR):SMZ (ForInStep KR):=do
 let y <-elem' b z.2.2.2.1
 let x <-elem' a z.2.2.1
 match <-lt' y x with
 | some w=>if w=ae then zhP a b mg z.2.2.2.2.2 z.2.1 z.2.2.1 z.2.2.2.1 else zhQ a b mg z.2.2.2.2.1 z.2.1 z.2.2.1 z.2.2.2.1
 | _=>pure (.done (aa (z.2.1 ++ a.extract z.2.2.1 a.size ++ b.extract z.2.2.2.1 b.size),z.2))
def zgY(a b:Array Keyed)(out:Array Keyed)(ia ib ac bc g:Nat):SMZ (ForInStep KQ):=do
 X2 g
 let u <-elem' b ib
 match <-jM ao u a ia (a.size - ia) 0 with
 | some k=>if k > 0 then (if (ia + k + 1 == a.size)=ae then pure (.done (aa (out ++ a.extract ia (ia + k) ++ b.extract ib b.size ++ a.extract (ia + k) a.size),out ++ a.extract ia (ia + k),ia + k,ib,g,k,bc)) else if (ia + k == a.size)=ae then pure (.done (aa (out ++ a.extract ia (ia + k) ++ a.extract (ia + k) a.size ++ b.extract ib b.size),out ++ a.extract ia (ia + k),ia + k,ib,g,k,bc)) else zdo a b g k bc (out ++ a.extract ia (ia + k)) (ia + k) ib) else zdo a b g k bc out ia ib
 | _=>pure (.done (aa (out ++ a.extract ia a.size ++ b.extract ib b.size),out,ia,ib,g,ac,bc))
def zhR(a b:Array Keyed)(z:KQ):SMZ (ForInStep KQ):=if z.2.2.2.2.1 > 1 then zgY a b z.2.1 z.2.2.1 z.2.2.2.1 z.2.2.2.2.2.1 z.2.2.2.2.2.2 (z.2.2.2.2.1 - 1) else zgY a b z.2.1 z.2.2.1 z.2.2.2.1 z.2.2.2.2.2.1 z.2.2.2.2.2.2 z.2.2.2.2.1
def ziq(c:KQ):SMZ (ForInStep JK):=eQ (λ_=>SMZ (ForInStep JK)) c.1 (λr=>pure (.done (aa r,c.2.1,c.2.2.1,c.2.2.2.1,c.2.2.2.2.1))) λ_=>do
 X2 (c.2.2.2.2.1 + 1)
 pure (.yield (ai,c.2.1,c.2.2.1,c.2.2.2.1,c.2.2.2.2.1 + 1))
def zhS(a b:Array Keyed)(mg:Nat)(c:KR):SMZ (ForInStep JK):=eQ (λ_=>SMZ (ForInStep JK)) c.1 (λr=>pure (.done (aa r,c.2.1,c.2.2.1,c.2.2.2.1,mg))) λ_=>do
 liftM (oB "list.sort.gallop")
 let z <-forIn [:a.size + b.size] ((ai,c.2.1,c.2.2.1,c.2.2.2.1,mg + 1,c.2.2.2.2):KQ) λ_ z=>zhR a b z
 ziq z
def zhT(a b:Array Keyed)(c:JK):SMZ (ForInStep JK):=do
 let z <-forIn [:a.size + b.size] ((ai,c.2.1,c.2.2.1,c.2.2.2.1,0,0):KR) λ_ z=>zgt a b c.2.2.2.2 z
 zhS a b c.2.2.2.2 z
def zir(c:JK):SMZ (Array Keyed):=eQ (λ_=>SMZ (Array Keyed)) c.1 (λr=>pure r) λ_=>liftM (oC "internal:list.sort.merge-bound")
def zgZ(a b:Array Keyed):SMZ (Array Keyed):=do
 liftM (oB "list.sort.merge-lo")
 let x <-elem' b 0
 if (1 == b.size)=ae then pure (#[x] ++ a.extract 0 a.size ++ b.extract 1 b.size)
 else if (0 + 1 == a.size)=ae then pure (#[x] ++ b.extract 1 b.size ++ a.extract 0 a.size)
 else do
  let z <-get
  let c <-forIn [:a.size + b.size] ((ai,#[x],0,1,gallopOf z):JK) λ_ c=>zhT a b c
  zir c
def zdq(κ:SortKind)(it:Nat->Keyed)(lt:Nat->Nat->Bool)(a b:List Nat)(st0:SortSt)(n:Nat)(r:ForInStep KR)(st:SortSt):Prop:=match r with
 | .done c=>KP κ it lt a b st0 c.1 st\/∃o ia ib ac bc,c=(ai,imZ it o,ia,ib,ac,bc)/\WayZ lt a b o ia ib/\n < o.length/\xS κ st0 st
 | .yield c=>∃o ia ib ac bc,c=(ai,imZ it o,ia,ib,ac,bc)/\WayZ lt a b o ia ib/\n < o.length/\xS κ st0 st
def zdr(κ:SortKind)(it:Nat->Keyed)(lt:Nat->Nat->Bool)(a b:List Nat)(st0:SortSt)(n:Nat)(r:ForInStep JK)(st:SortSt):Prop:=match r with
 | .done c=>KP κ it lt a b st0 c.1 st
 | .yield c=>∃o ia ib mg,c=(ai,imZ it o,ia,ib,mg)/\WayZ lt a b o ia ib/\n < o.length/\xS κ st0 st
theorem zci{st0 st:SortSt}{mg ac bc ia ib:Nat}(S:SO lt N)(hc:yK prog w A s κ it lt N)(P:MPreZ lt N a b)(k:xS κ st0 st)(W:WayZ lt a b o ia ib) :
  wpS (model prog w) A E s (zgt (imZ it a) (imZ it b) mg (ai,imZ it o,ia,ib,ac,bc)) (zdq κ it lt a b st0 o.length) st:=by
 obtain⟨m,ha,hb⟩:=W
 have gb:b[ib]?=aa b[ib]:=ba hb
 have ga:a[ia]?=aa a[ia]:=ba (ii ha)
 generalize b[ib]=xb at gb
 generalize a[ia]=xa at ga
 have mb:=P.nB _ (bD gb)
 have ma:=P.nA _ (bD ga)
 have ne:=cH (P.dj _ (bD ga) _ (bD gb))
 refine bK (zV (yt gb) (bK (zV (yt ga) (bK (qq hc k.k mb ma ne ?_)))))
 cases e:lt xb xa with
 | true =>
  refine bK (zV (yt gb) ?_)
  have M2:=m.stB S P ga gb e
  rw[qp,xr,xr,yj,zN,zN]
  refine zP (λd=>b6 (.inl ⟨_,rfl,M2.endB d,k⟩)) λd=>?_
  have d:ib + 1≠b.length:=yn d
  have W2:WayZ lt a b (o ++ [xb]) ia (ib + 1):=⟨M2,ha,by lia⟩
  exact zP (λ_=>b6 (.inr ⟨_,_,_,_,_,rfl,W2,w4 (bq _),k⟩)) λ_=>b6 ⟨_,_,_,_,_,rfl,W2,w4 (bq _),k⟩
 | false =>
  refine bK (zV (yt ga) ?_)
  have M2:=m.stA S P ga gb (S.tot _ _ mb ma ne e)
  rw[qp,xr,xr,yj,zN,zN]
  refine zP (λd=>b6 (.inl ⟨_,rfl,M2.endL P d,k⟩)) λd=>?_
  have d:ia + 1 + 1≠a.length:=yn d
  have W2:WayZ lt a b (o ++ [xa]) (ia + 1) ib:=⟨M2,by lia,hb⟩
  exact zP (λ_=>b6 (.inr ⟨_,_,_,_,_,rfl,W2,w4 (bq _),k⟩)) λ_=>b6 ⟨_,_,_,_,_,rfl,W2,w4 (bq _),k⟩
theorem KS{st0 st:SortSt}{ac bc g ia ib n:Nat}(S:SO lt N)(hc:yK prog w A s κ it lt N)(P:MPreZ lt N a b)(k:xS κ st0 st)(W:WayZ lt a b o ia ib)(hn:n<=o.length) :
  wpS (model prog w) A E s (zgY (imZ it a) (imZ it b) (imZ it o) ia ib ac bc g) (zdp κ it lt a b st0 n) st:=by
 obtain⟨m,ha,hb⟩:=W
 refine bK (eK ?_)
 have k3:xS κ st0 (iV (kindOf st) (arrOf st) (pendingOf st) g (failedOf st)):=⟨k.k,k.f,k.a,k.p⟩
 have gb:b[ib]?=aa b[ib]:=ba hb
 generalize b[ib]=xb at gb
 have mb:=bD gb
 have tk:(a.drop ia).take (a.length - ia)=a.drop ia:=bQ (by rw[cC];exact bq _)
 rw[yj]
 refine bK (zV (yt gb) (bK (xX S hc k3.k (P.nB _ mb) (λx hx=>?_) ?_ (by lia) (by lia) λj hj lo hi=>?_)))
 ·rw[tk] at hx;exact⟨P.nA _ (xY hx),P.dj _ (xY hx) _ mb⟩
 ·rw[tk];exact m.sp
 ·rw[tk] at hi
  dsimp only
  have nx:ia + j < a.length->∃z,a[ia + j]?=aa z/\lt xb z=ae:=λh=>by
   have g:a[ia + j]?=aa a[ia + j]:=ba h
   refine⟨_,g,hi _ ?_⟩
   rw[gG,xT g];exact cE _ (fj _)
  refine zP (λz=>?_) λz=>?_
  ·rw[v6,fk,zN,V2,xr,zN,zN,zN,zN]
   have M3:MIZ lt a b (o ++ (a.drop ia).take j) (a.drop (ia + j)) (b.drop ib):=by
    rw[Wr ia j] at m
    exact m.left λx hx z hz=>v7 S P.sb P.nB gb (P.nA _ (xY (dJ hx))) (lo x hx) z hz
   refine zP (λd=>b6 (.inl ⟨_,rfl,M3.endL P d,k3⟩)) λd=>zP (λd=>b6 (.inl ⟨_,rfl,M3.end (λx hx y hy=>by rw[lh d,mJ] at hx;cases hx),k3⟩)) λd2=>?_
   have d:=yn d
   have d2:=yn d2
   obtain⟨z,gz,lz⟩:=nx (by lia)
   exact V4 S hc P k3 M3 (by lia) gz gb lz (by rw[bt];exact bR hn (gI ..))
  ·obtain rfl:j=0:=mS z
   obtain⟨z,gz,lz⟩:=nx (ii ha)
   exact V4 S hc P k3 m ha gz gb lz hn
theorem zds{st0 st:SortSt}{mg n:Nat}(S:SO lt N)(hc:yK prog w A s κ it lt N)(P:MPreZ lt N a b)(h:zdq κ it lt a b st0 n (.done c) st) :
  wpS (model prog w) A E s (zhS (imZ it a) (imZ it b) mg c) (zdr κ it lt a b st0 n) st:=by
 rcases h with ⟨m,e,r,k⟩ | ⟨o,ia,ib,ac,bc,rfl,W,hl,k⟩
 ·obtain⟨r1,c⟩:=c
  subst e
  exact b6 ⟨m,rfl,r,k⟩
 ·refine bK (nt (ik ⟨rfl,?_⟩))
  refine bK (dO (de (λy c st=>zdp κ it lt a b st0 (n + y) (.yield c) st) (Q:=λc st=>zdp κ it lt a b st0 n (.done c) st) (λy c st _ _ h=>?_) (λc st h=>?_) ⟨o,ia,ib,_,ac,bc,rfl,W,hl,k⟩) λc st h=>?_)
  ·obtain⟨o2,ia2,ib2,mg2,ac2,bc2,rfl,W2,hl2,k2⟩:=h
   exact dO (zP (λ_=>KS S hc P k2 W2 hl2) λ_=>KS S hc P k2 W2 hl2) λr st h=>by
    cases r with
    | done c =>
     rcases h with h | ⟨o3,ia3,ib3,mg3,ac3,bc3,e,W3,l3,k3⟩
     ·exact .inl h
     ·exact .inr ⟨o3,ia3,ib3,mg3,ac3,bc3,e,W3,by lia,k3⟩
    | yield c=>exact h
  ·obtain⟨o2,ia2,ib2,mg2,ac2,bc2,rfl,W2,hl2,k2⟩:=h
   have:=W2.len
   rw[yj,yj] at hl2
   lia
  ·rcases h with ⟨m,e,r,k⟩ | ⟨o2,ia2,ib2,mg2,ac2,bc2,rfl,W2,hl2,k2⟩
   ·obtain⟨r1,c⟩:=c
    subst e
    exact b6 ⟨m,rfl,r,k⟩
   ·exact bK (eK (b6 ⟨o2,ia2,ib2,_,rfl,W2,hl2,k2.k,k2.f,k2.a,k2.p⟩))
theorem zdt{st0 st:SortSt}{mg ia ib:Nat}(S:SO lt N)(hc:yK prog w A s κ it lt N)(P:MPreZ lt N a b)(k:xS κ st0 st)(W:WayZ lt a b o ia ib) :
  wpS (model prog w) A E s (zhT (imZ it a) (imZ it b) (ai,imZ it o,ia,ib,mg)) (zdr κ it lt a b st0 o.length) st:=by
 refine bK (dO (de (λy c st=>∃o' ia ib ac bc,c=(ai,imZ it o',ia,ib,ac,bc)/\WayZ lt a b o' ia ib/\o.length + y<=o'.length/\xS κ st0 st) (Q:=λc st=>zdq κ it lt a b st0 o.length (.done c) st) (λy c st _ _ h=>?_) (λc st h=>?_) ⟨o,ia,ib,0,0,rfl,W,bq _,k⟩) λc st h=>zds S hc P h)
 ·obtain⟨o2,ia2,ib2,ac2,bc2,rfl,W2,hl2,k2⟩:=h
  refine dO (zci S hc P k2 W2) λr st h=>?_
  cases r with
  | done c =>
   rcases h with h | ⟨o3,ia3,ib3,ac3,bc3,e,W3,l3,k3⟩
   ·exact .inl h
   ·exact .inr ⟨o3,ia3,ib3,ac3,bc3,e,W3,by lia,k3⟩
  | yield c =>
   obtain⟨o3,ia3,ib3,ac3,bc3,e,W3,l3,k3⟩:=h
   exact⟨o3,ia3,ib3,ac3,bc3,e,W3,by lia,k3⟩
 ·obtain⟨o2,ia2,ib2,ac2,bc2,rfl,W2,hl2,k2⟩:=h
  have:=W2.len
  rw[yj,yj] at hl2
  lia
theorem JL{st:SortSt}{Q:Array Keyed->SortSt->Prop}(S:SO lt N)(hc:yK prog w A s κ it lt N)(hk:xS κ st st)(P:MPreZ lt N a b)(q:∀m st',XD lt a b m->xS κ st st'->Q (imZ it m) st') :
  wpS (model prog w) A E s (zcf (imZ it a) (imZ it b)) Q st:=by
 have pla:=P.la
 have plb:=P.lb
 show wpS (model prog w) A E s (zgZ (imZ it a) (imZ it b)) Q st
 refine bK (nt (ik ⟨rfl,?_⟩))
 have b0:b[0]?=aa (b.getD 0 0):=by rw[bh,ba plb];rfl
 refine bK (zV (yt b0) ?_)
 have M0:MIZ lt a b [b.getD 0 0] (a.drop 0) (b.drop 1):=by
  have:=MIZ.start P.sa P.sb
  have e:=xT b0
  rw[du] at e
  have h2:MIZ lt a b [] (a.drop 0) ([b.getD 0 0] ++ b.drop 1):=by rw[<-e,du];exact this
  exact h2.right λx hx y hy=>by rw[b5.mp hx];exact P.hd y hy
 have o0:(#[it (b.getD 0 0)]:Array Keyed)=imZ it [b.getD 0 0]:=rfl
 rw[o0,xr,xr,yj,yj,zN,zN,zN,zN]
 refine zP (λd=>b6 (q _ _ (M0.endB d) hk)) λd1=>zP (λd=>b6 (q _ _ (M0.endL P d) hk)) λd2=>?_
 have d1:=yn d1
 have d2:=yn d2
 refine bK (wpS_get (bK (dO (de (λx c st'=>zdr κ it lt a b st x (.yield c) st') (Q:=λc st'=>KP κ it lt a b st c.1 st') (λx c st' _ _ h=>?_) (λc st' h=>?_) ⟨[b.getD 0 0],_,_,_,rfl,⟨M0,by lia,by lia⟩,Nat.zero_lt_one,hk⟩) λc st' h=>?_)))
 ·obtain⟨o,ia,ib,mg,rfl,W,hx,k⟩:=h
  refine dO (zdt S hc P k W) λr st' h=>?_
  cases r with
  | done c=>exact h
  | yield c =>
   obtain⟨o,ia,ib,mg,e,W,hx',k⟩:=h
   exact⟨o,ia,ib,mg,e,W,bZ hx hx',k⟩
 ·obtain⟨o,ia,ib,mg,rfl,W,hx,k⟩:=h
  have:=W.len
  lia
 ·obtain⟨m,e,r,k⟩:=h
  obtain⟨r1,c⟩:=c
  subst e
  exact b6 (q m st' r k)
end
structure MJZ(lt:Nat->Nat->Bool)(a b o P Q:List Nat):Prop where
 so:o.Pairwise λx y=>lt x y=ae
 pe:(P ++ Q ++ o).Perm (a ++ b)
 be:∀x∈P ++ Q,∀y∈o,lt x y=ae
 sp:P.Pairwise λx y=>lt x y=ae
 sq:Q.Pairwise λx y=>lt x y=ae
section
variable {lt:Nat->Nat->Bool}{a b o P Q c:List Nat}
theorem MJZ.left(h:MJZ lt a b o (P ++ c) Q)(k:∀x∈c,∀y∈Q,lt y x=ae):MJZ lt a b (c ++ o) P Q:=by
 have sp:=ca.mp h.sp
 refine⟨ca.mpr ⟨sp.2.1,h.so,λx hx y hy=>h.be x (by simp[hx]) y hy⟩,?_,λx hx y hy=>?_,sp.1,h.sq⟩
 ·refine gP ?_ h.pe
  rw[<-cb,cb P Q c,cb P c Q]
  exact fM _ (fW _ fX)
 ·rcases bF.mp hy with hy | hy
  ·rcases bF.mp hx with hx | hx
   ·exact sp.2.2 x hx y hy
   ·exact k y hy x hx
  ·exact h.be x (by rcases bF.mp hx with hx | hx <;> simp[hx]) y hy
theorem MJZ.right(h:MJZ lt a b o P (Q ++ c))(k:∀x∈c,∀y∈P,lt y x=ae):MJZ lt a b (c ++ o) P Q:=by
 have sq:=ca.mp h.sq
 refine⟨ca.mpr ⟨sq.2.1,h.so,λx hx y hy=>h.be x (by simp[hx]) y hy⟩,?_,λx hx y hy=>?_,h.sp,sq.1⟩
 ·have:=h.pe
  simpa[cb] using this
 ·rcases bF.mp hy with hy | hy
  ·rcases bF.mp hx with hx | hx
   ·exact k y hy x hx
   ·exact sq.2.2 x hx y hy
  ·exact h.be x (by rcases bF.mp hx with hx | hx <;> simp[hx]) y hy
theorem MJZ.len(h:MJZ lt a b o P Q):o.length + P.length + Q.length=a.length + b.length:=by
 have:=h.pe.length_eq
 simp only[bt] at this
 lia
theorem MJZ.end(h:MJZ lt a b o P Q)(k:∀x∈P,∀y∈Q,lt x y=ae):XD lt a b (P ++ Q ++ o) :=
 ⟨h.pe,ca.mpr ⟨ca.mpr ⟨h.sp,h.sq,k⟩,h.so,h.be⟩⟩
theorem MJZ.end'(h:MJZ lt a b o P Q)(k:∀x∈Q,∀y∈P,lt x y=ae):XD lt a b (Q ++ P ++ o) :=
 ⟨gP (fM _ fX) h.pe,ca.mpr ⟨ca.mpr ⟨h.sq,h.sp,k⟩,h.so,λx hx y hy=>h.be x (by rcases bF.mp hx with hx | hx <;> simp[hx]) y hy⟩⟩
theorem MJZ.start(ha:a.Pairwise λx y=>lt x y=ae)(hb:b.Pairwise λx y=>lt x y=ae):MJZ lt a b [] a b:=⟨.nil,by simp,(λx _ y h=>nomatch h),ha,hb⟩
theorem xU{l:List Nat}(h:l[i]?=aa x):l.take (i + 1)=l.take i ++ [x]:=by rw[cX,h];rfl
theorem Ws{l:List Nat}(h:i<=j):l.take j=l.take i ++ (l.take j).drop i:=by
 have:=(cS i (l.take j)).symm
 rwa [List.take_take,eI h] at this
theorem xZ{l:List Nat}(h:x∈l.take i):x∈l:=dJ h
end
section
variable {it:Nat->Keyed}
theorem wD(p:List Nat)(i:Nat):(imZ it p).extract 0 i=imZ it (p.take i):=by rw[v6];simp
theorem zbu(p:List Nat):(imZ it p).reverse=imZ it p.reverse:=by simp[imZ]
theorem X3(p:List Nat)(x:Nat):(imZ it p.reverse).push (it x)=imZ it ([x] ++ p).reverse:=by rw[qp];simp
theorem zbv(h:i<=j):(imZ it p).extract i j=imZ it ((p.take j).drop i):=by
 rw[v6]
 congr 1
 rw[List.drop_take]
theorem KU(p c:List Nat):imZ it p.reverse ++ (imZ it c).reverse=imZ it (c ++ p).reverse:=by rw[zbu,zN];simp
end
section
variable {prog:aq}{w:au}{A:av}{E:af->aj->Prop}{s:aj}{κ:SortKind}{it:Nat->Keyed}{lt:Nat->Nat->Bool}{N:Nat}{a b:List Nat}
theorem v9(S:SO lt N){l:List Nat}(sl:l.Pairwise λx y=>lt x y=ae)(nl:∀x∈l,x < N)(hx:l[i]?=aa x)(yN:y < N)(h:lt x y=ae):∀z∈l.take (i + 1),lt z y=ae:=by
 intro z hz
 rw[xU hx] at hz
 rcases bF.mp hz with hz | hz
 ·have xl:=bD hx
  refine S.trans z x y (nl z (xZ hz)) (nl x xl) yN ?_ h
  obtain⟨k,hk⟩:=cV hz
  have kl:=(bn.mp hk).1
  rw[cm] at kl
  rw[dC (by lia)] at hk
  obtain⟨l1,e1⟩:=bn.mp hx
  obtain⟨l2,e2⟩:=bn.mp hk
  have:=c9.mp sl k i l2 l1 (by lia)
  rw[e1,e2] at this
  exact this
 ·rw[b5.mp hz];exact h
theorem MPreZ.first(P:MPreZ lt N a b) :∀x∈b.take 1,∀y∈a.take na,lt x y=ae:=by
 intro x hx y hy
 have e:b.take 1=[b.getD 0 0]:=by
  have plb:=P.lb
  have g:b[0]?=aa b[0]:=ba plb
  have t:=xU g
  rw[t,bh,g];rfl
 rw[e,b5] at hx
 rw[hx]
 exact P.hd y (xZ hy)
structure WayHZ(lt:Nat->Nat->Bool)(a b o:List Nat)(na nb:Nat):Prop where
 m:MJZ lt a b o (a.take na) (b.take nb)
 ha:0 < na
 la:na<=a.length
 hb:1 < nb
 lb:nb<=b.length
theorem WayHZ.len(W:WayHZ lt a b o na nb):o.length < a.length + b.length:=by
 have:=W.m.len
 have h1:=W.ha
 have h2:=W.hb
 have h3:=W.la
 have h4:=W.lb
 rw[cm,cm] at this
 lia
abbrev KW:=Option (Array Keyed) × Nat × Nat × Array Keyed × Nat × Nat × Nat
def zdu(a b:Array Keyed)(mg ac bc:Nat)(na nb:Nat)(out:Array Keyed):SMZ (ForInStep KW):=do
 let x <-elem' a (na - 1)
 if (na - 1 == 0)=ae then pure (.done (aa (a.extract 0 (na - 1) ++ b.extract 0 nb ++ (out.push x).reverse),na - 1,nb,out.push x,mg,ac,bc))
 else if (decide (ac < 7) && decide (bc < 7))=ae then pure (.done (ai,na - 1,nb,out.push x,mg,ac,bc))
 else pure (.yield (ai,na - 1,nb,out.push x,mg,ac,bc))
def zdv(a b:Array Keyed)(mg ac bc:Nat)(na nb:Nat)(out:Array Keyed):SMZ (ForInStep KW):=do
 let x <-elem' b (nb - 1)
 if (nb - 1 == 1)=ae then pure (.done (aa (b.extract 0 (nb - 1) ++ a.extract 0 na ++ (out.push x).reverse),na,nb - 1,out.push x,mg,ac,bc))
 else do
  let y <-elem' a (na - 1)
  match <-jM ae y b 0 (nb - 1) (nb - 1 - 1) with
  | some k=>if nb - 1 - k > 0 then (if (k == 1)=ae then pure (.done (aa (b.extract 0 k ++ a.extract 0 na ++ (out.push x ++ (b.extract k (nb - 1)).reverse).reverse),na,k,out.push x ++ (b.extract k (nb - 1)).reverse,mg,ac,nb - 1 - k)) else if (k == 0)=ae then pure (.done (aa (a.extract 0 na ++ b.extract 0 k ++ (out.push x ++ (b.extract k (nb - 1)).reverse).reverse),na,k,out.push x ++ (b.extract k (nb - 1)).reverse,mg,ac,nb - 1 - k)) else zdu a b mg ac (nb - 1 - k) na k (out.push x ++ (b.extract k (nb - 1)).reverse)) else zdu a b mg ac (nb - 1 - k) na (nb - 1) (out.push x)
  | _=>pure (.done (aa (a.extract 0 na ++ b.extract 0 (nb - 1) ++ (out.push x).reverse),na,nb - 1,out.push x,mg,ac,bc))
def zav(κ:SortKind)(it:Nat->Keyed)(lt:Nat->Nat->Bool)(a b:List Nat)(st0:SortSt)(n:Nat)(r:ForInStep KW)(st:SortSt):Prop:=match r with
 | .done c=>KP κ it lt a b st0 c.1 st\/∃o na nb mg ac bc,c=(ai,na,nb,imZ it o.reverse,mg,ac,bc)/\WayHZ lt a b o na nb/\n < o.length/\xS κ st0 st
 | .yield c=>∃o na nb mg ac bc,c=(ai,na,nb,imZ it o.reverse,mg,ac,bc)/\WayHZ lt a b o na nb/\n < o.length/\xS κ st0 st
theorem Wt(o:List Nat):(imZ it o.reverse).reverse=imZ it o:=by rw[zbu,nD]
theorem MJZ.stA(S:SO lt N)(P:MPreZ lt N a b)(m:MJZ lt a b o (a.take na) (b.take nb))(ha:0 < na)(hb:1 < nb)(ga:a[na - 1]?=aa xa)(gb:b[nb - 1]?=aa xb)(e:lt xb xa=ae):MJZ lt a b ([xa] ++ o) (a.take (na - 1)) (b.take nb):=by
 have t:=xU ga
 have u:=v9 S P.sb P.nB gb (P.nA _ (bD ga)) e
 rw[dg ha] at t
 rw[dg (fQ hb)] at u
 rw[t] at m
 exact m.left λx hx z hz=>by rw[b5.mp hx];exact u z hz
theorem MJZ.stB(S:SO lt N)(P:MPreZ lt N a b)(m:MJZ lt a b o (a.take na) (b.take nb))(ha:0 < na)(hb:1 < nb)(ga:a[na - 1]?=aa xa)(gb:b[nb - 1]?=aa xb)(e:lt xa xb=ae):MJZ lt a b ([xb] ++ o) (a.take na) (b.take (nb - 1)):=by
 have t:=xU gb
 have u:=v9 S P.sa P.nA ga (P.nB _ (bD gb)) e
 rw[dg (fQ hb)] at t
 rw[dg ha] at u
 rw[t] at m
 exact m.right λx hx z hz=>by rw[b5.mp hx];exact u z hz
theorem MJZ.endZ(m:MJZ lt a b o (a.take na) (b.take nb))(e:(na == 0)=ae):XD lt a b (a.take na ++ b.take nb ++ o):=m.end λx hx y hy=>by rw[lh e,lV] at hx;cases hx
theorem MJZ.endF(P:MPreZ lt N a b)(m:MJZ lt a b o (a.take na) (b.take nb))(e:(nb == 1)=ae):XD lt a b (b.take nb ++ a.take na ++ o):=m.end' (by rw[lh e];exact P.first)
theorem V5{st0 st:SortSt}{mg ac bc na nb n xa xb:Nat}(S:SO lt N)(P:MPreZ lt N a b)(k:xS κ st0 st)(m:MJZ lt a b o (a.take na) (b.take nb))(ha:0 < na)(la:na<=a.length)(hb:1 < nb)(lb:nb<=b.length)(ga:a[na - 1]?=aa xa)(gb:b[nb - 1]?=aa xb)(e:lt xb xa=ae)(hn:n<=o.length) :
  wpS (model prog w) A E s (zdu (imZ it a) (imZ it b) mg ac bc na nb (imZ it o.reverse)) (zav κ it lt a b st0 n) st:=by
 refine bK (zV (yt ga) ?_)
 have M2:=m.stA S P ha hb ga gb e
 rw[X3,Wt,wD,wD,zN,zN]
 refine zP (λd=>b6 (.inl ⟨_,rfl,M2.endZ d,k⟩)) λd=>?_
 have W2:WayHZ lt a b ([xa] ++ o) (na - 1) nb:=⟨M2,xt d,bR (oE ..) la,hb,lb⟩
 exact zP (λ_=>b6 (.inr ⟨_,_,_,_,_,_,rfl,W2,mj hn,k⟩)) λ_=>b6 ⟨_,_,_,_,_,_,rfl,W2,mj hn,k⟩
theorem V6{st0 st:SortSt}{mg ac bc na nb n xa xb:Nat}(S:SO lt N)(hc:yK prog w A s κ it lt N)(P:MPreZ lt N a b)(k:xS κ st0 st)(m:MJZ lt a b o (a.take na) (b.take nb))(ha:0 < na)(la:na<=a.length)(hb:1 < nb)(lb:nb<=b.length)(ga:a[na - 1]?=aa xa)(gb:b[nb - 1]?=aa xb)(e:lt xa xb=ae)(hn:n<=o.length) :
  wpS (model prog w) A E s (zdv (imZ it a) (imZ it b) mg ac bc na nb (imZ it o.reverse)) (zav κ it lt a b st0 n) st:=by
 have ma:=bD ga
 refine bK (zV (yt gb) ?_)
 have M2:=m.stB S P ha hb ga gb e
 rw[X3,Wt,wD,wD,zN,zN]
 refine zP (λd=>b6 (.inl ⟨_,rfl,M2.endF P d,k⟩)) λd=>?_
 have d:=yn d
 refine bK (zV (yt ga) (bK (xX S hc k.k (P.nA _ ma) (λx hx=>?_) ?_ (by lia) (by lia) λj hj lo hi=>?_)))
 ·rw[du] at hx;exact⟨P.nB _ (xZ hx),cH (P.dj _ ma _ (xZ hx))⟩
 ·rw[du];exact M2.sq
 ·rw[du] at lo hi
  dsimp only
  rw[wD,zbv hj,KU,Wt,zN,zN,zN,zN]
  have nx:0 < j->∃y,b[j - 1]?=aa y/\lt y xa=ae:=λh=>by
   have g:b[j - 1]?=aa b[j - 1]:=ba (by lia)
   refine⟨b[j - 1],g,lo _ ?_⟩
   have t:=xU g
   rw[dg h] at t
   rw[t];exact bT _ (fj _)
  refine zP (λz=>?_) λz=>?_
  ·have M3:MJZ lt a b ((b.take (nb - 1)).drop j ++ ([xb] ++ o)) (a.take na) (b.take j):=by
    rw[Ws hj] at M2
    refine M2.right λx hx z hz=>?_
    have u:=v9 S P.sa P.nA ga (P.nB _ (xZ (gB hx))) (hi x hx)
    rw[dg ha] at u
    exact u z hz
   refine zP (λd=>b6 (.inl ⟨_,rfl,M3.endF P d,k⟩)) λd2=>zP (λd=>b6 (.inl ⟨_,rfl,M3.end (λx _ y hy=>by rw[lh d,lV] at hy;cases hy),k⟩)) λd3=>?_
   have d2:=yn d2
   have d3:=xt d3
   obtain⟨y,gy,ly⟩:=nx d3
   exact V5 S P k M3 ha la (by lia) (by lia) ga gy ly (by rw[bt];exact bR (bX hn) (Nat.le_add_left ..))
  ·obtain rfl:j=nb - 1:=by lia
   obtain⟨y,gy,ly⟩:=nx (by lia)
   exact V5 S P k M2 ha la (by lia) (by lia) ga gy ly (bX hn)
abbrev KY:=Option (Array Keyed) × Nat × Nat × Array Keyed × Nat × Nat
abbrev JM:=Option (Array Keyed) × Nat × Nat × Array Keyed × Nat
def zhU(a b:Array Keyed)(mg ac na nb:Nat)(out:Array Keyed):SMZ (ForInStep KY):=do
 let x <-elem' a (na - 1)
 if (na - 1 == 0)=ae then pure (.done (aa (a.extract 0 (na - 1) ++ b.extract 0 nb ++ (out.push x).reverse),na - 1,nb,out.push x,ac + 1,0))
 else if ac + 1 >= mg then pure (.done (ai,na - 1,nb,out.push x,ac + 1,0)) else pure (.yield (ai,na - 1,nb,out.push x,ac + 1,0))
def zhV(a b:Array Keyed)(mg bc na nb:Nat)(out:Array Keyed):SMZ (ForInStep KY):=do
 let x <-elem' b (nb - 1)
 if (nb - 1 == 1)=ae then pure (.done (aa (b.extract 0 (nb - 1) ++ a.extract 0 na ++ (out.push x).reverse),na,nb - 1,out.push x,0,bc + 1))
 else if bc + 1 >= mg then pure (.done (ai,na,nb - 1,out.push x,0,bc + 1)) else pure (.yield (ai,na,nb - 1,out.push x,0,bc + 1))
def zgu(a b:Array Keyed)(mg:Nat)(z:KY):SMZ (ForInStep KY):=do
 let y <-elem' b (z.2.2.1 - 1)
 let x <-elem' a (z.2.1 - 1)
 match <-lt' y x with
 | some w=>if w=ae then zhU a b mg z.2.2.2.2.1 z.2.1 z.2.2.1 z.2.2.2.1 else zhV a b mg z.2.2.2.2.2 z.2.1 z.2.2.1 z.2.2.2.1
 | _=>pure (.done (aa (a.extract 0 z.2.1 ++ b.extract 0 z.2.2.1 ++ z.2.2.2.1.reverse),z.2))
def zg0(a b:Array Keyed)(na nb:Nat)(out:Array Keyed)(ac bc g:Nat):SMZ (ForInStep KW):=do
 X2 g
 let u <-elem' b (nb - 1)
 match <-jM ao u a 0 na (na - 1) with
 | some k=>if na - k > 0 then (if (k == 0)=ae then pure (.done (aa (a.extract 0 k ++ b.extract 0 nb ++ (out ++ (a.extract k na).reverse).reverse),k,nb,out ++ (a.extract k na).reverse,g,na - k,bc)) else zdv a b g (na - k) bc k nb (out ++ (a.extract k na).reverse)) else zdv a b g (na - k) bc na nb out
 | _=>pure (.done (aa (a.extract 0 na ++ b.extract 0 nb ++ out.reverse),na,nb,out,g,ac,bc))
def zhW(a b:Array Keyed)(z:KW):SMZ (ForInStep KW):=if z.2.2.2.2.1 > 1 then zg0 a b z.2.1 z.2.2.1 z.2.2.2.1 z.2.2.2.2.2.1 z.2.2.2.2.2.2 (z.2.2.2.2.1 - 1) else zg0 a b z.2.1 z.2.2.1 z.2.2.2.1 z.2.2.2.2.2.1 z.2.2.2.2.2.2 z.2.2.2.2.1
def zis(c:KW):SMZ (ForInStep JM):=eQ (λ_=>SMZ (ForInStep JM)) c.1 (λr=>pure (.done (aa r,c.2.1,c.2.2.1,c.2.2.2.1,c.2.2.2.2.1))) λ_=>do
 X2 (c.2.2.2.2.1 + 1)
 pure (.yield (ai,c.2.1,c.2.2.1,c.2.2.2.1,c.2.2.2.2.1 + 1))
def zhX(a b:Array Keyed)(mg:Nat)(c:KY):SMZ (ForInStep JM):=eQ (λ_=>SMZ (ForInStep JM)) c.1 (λr=>pure (.done (aa r,c.2.1,c.2.2.1,c.2.2.2.1,mg))) λ_=>do
 liftM (oB "list.sort.gallop")
 let z <-forIn [:a.size + b.size] ((ai,c.2.1,c.2.2.1,c.2.2.2.1,mg + 1,c.2.2.2.2):KW) λ_ z=>zhW a b z
 zis z
def zhY(a b:Array Keyed)(c:JM):SMZ (ForInStep JM):=do
 let z <-forIn [:a.size + b.size] ((ai,c.2.1,c.2.2.1,c.2.2.2.1,0,0):KY) λ_ z=>zgu a b c.2.2.2.2 z
 zhX a b c.2.2.2.2 z
def zit(c:JM):SMZ (Array Keyed):=eQ (λ_=>SMZ (Array Keyed)) c.1 (λr=>pure r) λ_=>liftM (oC "internal:list.sort.merge-bound")
def zg1(a b:Array Keyed):SMZ (Array Keyed):=do
 liftM (oB "list.sort.merge-hi")
 let x <-elem' a (a.size - 1)
 if (a.size - 1 == 0)=ae then pure (a.extract 0 (a.size - 1) ++ b.extract 0 b.size ++ #[x].reverse)
 else if (b.size == 1)=ae then pure (b.extract 0 b.size ++ a.extract 0 (a.size - 1) ++ #[x].reverse)
 else do
  let z <-get
  let c <-forIn [:a.size + b.size] ((ai,a.size - 1,b.size,#[x],gallopOf z):JM) λ_ c=>zhY a b c
  zit c
def zdw(κ:SortKind)(it:Nat->Keyed)(lt:Nat->Nat->Bool)(a b:List Nat)(st0:SortSt)(n:Nat)(r:ForInStep KY)(st:SortSt):Prop:=match r with
 | .done c=>KP κ it lt a b st0 c.1 st\/∃o na nb ac bc,c=(ai,na,nb,imZ it o.reverse,ac,bc)/\WayHZ lt a b o na nb/\n < o.length/\xS κ st0 st
 | .yield c=>∃o na nb ac bc,c=(ai,na,nb,imZ it o.reverse,ac,bc)/\WayHZ lt a b o na nb/\n < o.length/\xS κ st0 st
def zdx(κ:SortKind)(it:Nat->Keyed)(lt:Nat->Nat->Bool)(a b:List Nat)(st0:SortSt)(n:Nat)(r:ForInStep JM)(st:SortSt):Prop:=match r with
 | .done c=>KP κ it lt a b st0 c.1 st
 | .yield c=>∃o na nb mg,c=(ai,na,nb,imZ it o.reverse,mg)/\WayHZ lt a b o na nb/\n < o.length/\xS κ st0 st
theorem zcj{st0 st:SortSt}{mg ac bc na nb:Nat}(S:SO lt N)(hc:yK prog w A s κ it lt N)(P:MPreZ lt N a b)(k:xS κ st0 st)(W:WayHZ lt a b o na nb) :
  wpS (model prog w) A E s (zgu (imZ it a) (imZ it b) mg (ai,na,nb,imZ it o.reverse,ac,bc)) (zdw κ it lt a b st0 o.length) st:=by
 obtain⟨m,ha,la,hb,lb⟩:=W
 have gb:b[nb - 1]?=aa b[nb - 1]:=ba (by lia)
 have ga:a[na - 1]?=aa a[na - 1]:=ba (by lia)
 generalize b[nb - 1]=xb at gb
 generalize a[na - 1]=xa at ga
 have mb:=P.nB _ (bD gb)
 have ma:=P.nA _ (bD ga)
 have ne:=cH (P.dj _ (bD ga) _ (bD gb))
 refine bK (zV (yt gb) (bK (zV (yt ga) (bK (qq hc k.k mb ma ne ?_)))))
 cases e:lt xb xa with
 | true =>
  refine bK (zV (yt ga) ?_)
  have M2:=m.stA S P ha hb ga gb e
  rw[X3,Wt,wD,wD,zN,zN]
  refine zP (λd=>b6 (.inl ⟨_,rfl,M2.endZ d,k⟩)) λd=>?_
  have W2:WayHZ lt a b ([xa] ++ o) (na - 1) nb:=⟨M2,xt d,bR (oE ..) la,hb,lb⟩
  exact zP (λ_=>b6 (.inr ⟨_,_,_,_,_,rfl,W2,fE _,k⟩)) λ_=>b6 ⟨_,_,_,_,_,rfl,W2,fE _,k⟩
 | false =>
  refine bK (zV (yt gb) ?_)
  have M2:=m.stB S P ha hb ga gb (S.tot _ _ mb ma ne e)
  rw[X3,Wt,wD,wD,zN,zN]
  refine zP (λd=>b6 (.inl ⟨_,rfl,M2.endF P d,k⟩)) λd=>?_
  have d:nb - 1≠1:=yn d
  have W2:WayHZ lt a b ([xb] ++ o) na (nb - 1):=⟨M2,ha,la,by lia,by lia⟩
  exact zP (λ_=>b6 (.inr ⟨_,_,_,_,_,rfl,W2,fE _,k⟩)) λ_=>b6 ⟨_,_,_,_,_,rfl,W2,fE _,k⟩
theorem KZ{st0 st:SortSt}{ac bc g na nb n:Nat}(S:SO lt N)(hc:yK prog w A s κ it lt N)(P:MPreZ lt N a b)(k:xS κ st0 st)(W:WayHZ lt a b o na nb)(hn:n<=o.length) :
  wpS (model prog w) A E s (zg0 (imZ it a) (imZ it b) na nb (imZ it o.reverse) ac bc g) (zav κ it lt a b st0 n) st:=by
 obtain⟨m,ha,la,hb,lb⟩:=W
 refine bK (eK ?_)
 have k3:xS κ st0 (iV (kindOf st) (arrOf st) (pendingOf st) g (failedOf st)):=⟨k.k,k.f,k.a,k.p⟩
 have gb:b[nb - 1]?=aa b[nb - 1]:=ba (by lia)
 generalize b[nb - 1]=xb at gb
 have mb:=bD gb
 refine bK (zV (yt gb) ?_)
 refine bK (xX S hc k3.k (P.nB _ mb) (λx hx=>?_) ?_ (by lia) (by lia) λj hj lo hi=>?_)
 ·rw[du] at hx;exact⟨P.nA _ (xZ hx),P.dj _ (xZ hx) _ mb⟩
 ·rw[du];exact m.sp
 ·rw[du] at lo hi
  dsimp only
  rw[zbv hj,KU,Wt,wD,wD,zN,zN]
  have nx:0 < j->∃z,a[j - 1]?=aa z/\lt z xb=ae:=λh=>by
   have g:a[j - 1]?=aa a[j - 1]:=ba (by lia)
   refine⟨a[j - 1],g,lo _ ?_⟩
   have t:=xU g
   rw[dg h] at t
   rw[t];exact bT _ (fj _)
  refine zP (λz=>?_) λz=>?_
  ·have M3:MJZ lt a b ((a.take na).drop j ++ o) (a.take j) (b.take nb):=by
    rw[Ws hj] at m
    refine m.left λx hx z hz=>?_
    have u:=v9 S P.sb P.nB gb (P.nA _ (xZ (gB hx))) (hi x hx)
    rw[dg (fQ hb)] at u
    exact u z hz
   refine zP (λd=>b6 (.inl ⟨_,rfl,M3.endZ d,k3⟩)) λd=>?_
   have d:=xt d
   obtain⟨z,gz,lz⟩:=nx d
   exact V6 S hc P k3 M3 d (by lia) hb lb gz gb lz (by rw[bt];lia)
  ·obtain rfl:j=na:=by lia
   obtain⟨z,gz,lz⟩:=nx ha
   exact V6 S hc P k3 m ha la hb lb gz gb lz hn
theorem zdy{st0 st:SortSt}{mg n:Nat}(S:SO lt N)(hc:yK prog w A s κ it lt N)(P:MPreZ lt N a b)(h:zdw κ it lt a b st0 n (.done c) st) :
  wpS (model prog w) A E s (zhX (imZ it a) (imZ it b) mg c) (zdx κ it lt a b st0 n) st:=by
 rcases h with ⟨m,e,r,k⟩ | ⟨o,na,nb,ac,bc,rfl,W,hl,k⟩
 ·obtain⟨r1,c⟩:=c
  subst e
  exact b6 ⟨m,rfl,r,k⟩
 ·refine bK (nt (ik ⟨rfl,?_⟩))
  refine bK (dO (de (λy c st=>zav κ it lt a b st0 (n + y) (.yield c) st) (Q:=λc st=>zav κ it lt a b st0 n (.done c) st) (λy c st _ _ h=>?_) (λc st h=>?_) ⟨o,na,nb,_,ac,bc,rfl,W,hl,k⟩) λc st h=>?_)
  ·obtain⟨o2,na2,nb2,mg2,ac2,bc2,rfl,W2,hl2,k2⟩:=h
   have fit:∀c st,zav κ it lt a b st0 (n + y + 1) (.done c) st->zav κ it lt a b st0 n (.done c) st:=λc st h=>by
    rcases h with h | ⟨o3,na3,nb3,mg3,ac3,bc3,e,W3,l3,k3⟩
    ·exact .inl h
    ·exact .inr ⟨o3,na3,nb3,mg3,ac3,bc3,e,W3,by lia,k3⟩
   exact dO (zP (λ_=>KZ S hc P k2 W2 hl2) λ_=>KZ S hc P k2 W2 hl2) λr st h=>by
    cases r with
    | done c=>exact fit c st h
    | yield c=>exact h
  ·obtain⟨o2,na2,nb2,mg2,ac2,bc2,rfl,W2,hl2,k2⟩:=h
   have:=W2.len
   rw[yj,yj] at hl2
   lia
  ·rcases h with ⟨m,e,r,k⟩ | ⟨o2,na2,nb2,mg2,ac2,bc2,rfl,W2,hl2,k2⟩
   ·obtain⟨r1,c⟩:=c
    subst e
    exact b6 ⟨m,rfl,r,k⟩
   ·exact bK (eK (b6 ⟨o2,na2,nb2,_,rfl,W2,hl2,k2.k,k2.f,k2.a,k2.p⟩))
theorem zdz{st0 st:SortSt}{mg na nb:Nat}(S:SO lt N)(hc:yK prog w A s κ it lt N)(P:MPreZ lt N a b)(k:xS κ st0 st)(W:WayHZ lt a b o na nb) :
  wpS (model prog w) A E s (zhY (imZ it a) (imZ it b) (ai,na,nb,imZ it o.reverse,mg)) (zdx κ it lt a b st0 o.length) st:=by
 refine bK (dO (de (λy c st=>∃o' na nb ac bc,c=(ai,na,nb,imZ it o'.reverse,ac,bc)/\WayHZ lt a b o' na nb/\o.length + y<=o'.length/\xS κ st0 st) (Q:=λc st=>zdw κ it lt a b st0 o.length (.done c) st) (λy c st _ _ h=>?_) (λc st h=>?_) ⟨o,na,nb,0,0,rfl,W,bq _,k⟩) λc st h=>zdy S hc P h)
 ·obtain⟨o2,na2,nb2,ac2,bc2,rfl,W2,hl2,k2⟩:=h
  refine dO (zcj S hc P k2 W2) λr st h=>?_
  cases r with
  | done c =>
   rcases h with h | ⟨o3,na3,nb3,ac3,bc3,e,W3,l3,k3⟩
   ·exact .inl h
   ·exact .inr ⟨o3,na3,nb3,ac3,bc3,e,W3,by lia,k3⟩
  | yield c =>
   obtain⟨o3,na3,nb3,ac3,bc3,e,W3,l3,k3⟩:=h
   exact⟨o3,na3,nb3,ac3,bc3,e,W3,by lia,k3⟩
 ·obtain⟨o2,na2,nb2,ac2,bc2,rfl,W2,hl2,k2⟩:=h
  have:=W2.len
  rw[yj,yj] at hl2
  lia
theorem JN{st:SortSt}{Q:Array Keyed->SortSt->Prop}(S:SO lt N)(hc:yK prog w A s κ it lt N)(hk:xS κ st st)(P:MPreZ lt N a b)(q:∀m st',XD lt a b m->xS κ st st'->Q (imZ it m) st') :
  wpS (model prog w) A E s (zcg (imZ it a) (imZ it b)) Q st:=by
 have pla:=P.la
 have plb:=P.lb
 show wpS (model prog w) A E s (zg1 (imZ it a) (imZ it b)) Q st
 refine bK (nt (ik ⟨rfl,?_⟩))
 rw[yj,yj]
 have a0:a[a.length - 1]?=aa (a.getD (a.length - 1) 0):=by rw[bh,ba (by lia)];rfl
 refine bK (zV (yt a0) ?_)
 have M0:MJZ lt a b [a.getD (a.length - 1) 0] (a.take (a.length - 1)) (b.take b.length):=by
  have:=MJZ.start P.sa P.sb
  have t:=xU a0
  rw[dg pla,dY] at t
  have h2:MJZ lt a b [] (a.take (a.length - 1) ++ [a.getD (a.length - 1) 0]) b:=by rw[<-t];exact this
  rw[dY]
  exact h2.left λx hx y hy=>by rw[b5.mp hx];exact P.tl y hy
 have o0:(#[it (a.getD (a.length - 1) 0)]:Array Keyed)=imZ it [a.getD (a.length - 1) 0].reverse:=rfl
 rw[o0,wD,wD,Wt,zN,zN,zN,zN]
 refine zP (λd=>b6 (q _ _ (M0.endZ d) hk)) λd1=>zP (λd=>b6 (q _ _ (M0.endF P d) hk)) λd2=>?_
 have d1:=xt d1
 have d2:=yn d2
 refine bK (wpS_get (bK (dO (de (λx c st'=>zdx κ it lt a b st x (.yield c) st') (Q:=λc st'=>KP κ it lt a b st c.1 st') (λx c st' _ _ h=>?_) (λc st' h=>?_) ⟨[a.getD (a.length - 1) 0],_,_,_,rfl,⟨M0,d1,by lia,by lia,by lia⟩,Nat.zero_lt_one,hk⟩) λc st' h=>?_)))
 ·obtain⟨o,na,nb,mg,rfl,W,hx,k⟩:=h
  refine dO (zdz S hc P k W) λr st' h=>?_
  cases r with
  | done c=>exact h
  | yield c =>
   obtain⟨o,na,nb,mg,e,W,hx',k⟩:=h
   exact⟨o,na,nb,mg,e,W,bZ hx hx',k⟩
 ·obtain⟨o,na,nb,mg,rfl,W,hx,k⟩:=h
  have:=W.len
  lia
 ·obtain⟨m,e,r,k⟩:=h
  obtain⟨r1,c⟩:=c
  subst e
  exact b6 (q m st' r k)
end
section
variable {prog:aq}{w:au}{A:av}{E:af->aj->Prop}{s:aj}{κ:SortKind}{it:Nat->Keyed}{lt:Nat->Nat->Bool}{N:Nat}
def RiseSZ(lt:Nat->Nat->Bool)(p:Array Nat)(lo m:Nat):Prop:=∀i j,i < j->j < m->lt (gt p (lo + i)) (gt p (lo + j))=ae
structure SAZ(κ:SortKind)(it:Nat->Keyed)(N:Nat)(p:Array Nat)(st:SortSt):Prop where
 k:kindOf st=κ
 f:failedOf st=ai
 a:arrOf st=p.map it
 pp:PP N p
theorem SAZ.set{st:SortSt}(h:SAZ κ it N p st)(hp:PP N p'):SAZ κ it N p' (setArr st (p'.map it)):=⟨h.k,h.f,rfl,hp⟩
theorem Zd{st:SortSt}{p:Array Nat}{Q:Option Bool->SortSt->Prop}(hc:yK prog w A s κ it lt N)(h:SAZ κ it N p st)(hi:i < N)(hj:j < N)(hij:i≠j)(q:Q (aa (lt (gt p i) (gt p j))) st):wpS (model prog w) A E s (ltAt' i j) Q st:=by
 rw[ltAt'_eq]
 refine bK (wpS_get ?_)
 have sz:=h.pp.size
 have gi:(arrOf st)[i]?=aa (it (gt p i)):=by rw[h.a,nY,wZ (by lia)];rfl
 have gj:(arrOf st)[j]?=aa (it (gt p j)):=by rw[h.a,nY,wZ (by lia)];rfl
 exact bK (zV gi (bK (zV gj (qq hc h.k (h.pp.blt hi) (h.pp.blt hj) (λz=>hij (h.pp.inj hi hj z)) q))))
theorem Wu(S:SO lt N){lo m:Nat}(hp:PP N p)(h:RiseSZ lt p lo m)(h1:1<=m)(hm:lo + m < N)(c:lt (gt p (lo + m)) (gt p (lo + m - 1))=ao):RiseSZ lt p lo (m + 1):=by
 have up:lt (gt p (lo + m - 1)) (gt p (lo + m))=ae:=S.tot _ _ (hp.blt hm) (hp.blt (by lia)) (λz=>by have:=hp.inj hm (by lia) z;lia) c
 intro i j hij hj
 by_cases e:j < m
 ·exact h i j hij e
 ·obtain rfl:j=m:=by lia
  by_cases e2:i=j - 1
  ·rw[e2,<-dG (show 1<=j by lia)];exact up
  ·refine S.trans _ (gt p (lo + j - 1)) _ (hp.blt (by lia)) (hp.blt (by lia)) (hp.blt hm) ?_ up
   have:=h i (j - 1) (by lia) (by lia)
   rwa [<-dG (show 1<=j by lia)] at this
theorem K0(p:Array Nat)(i j d:Nat):mirror (p.map it) i j d=(mirror p i j d).map it:=kas_swaps_map it (λk=>i + k) (λk=>j - 1 - k) _ p
theorem K3(p:Array Nat)(i d:Nat):bubble (p.map it) i d=(bubble p i d).map it:=kas_swaps_map it (λk=>i - k) (λk=>i - k - 1) _ p
theorem zfl(hj:j<=p.size)(hk:k < p.size):gt (mirror p i j ((j - i) / 2)) k=if i<=k/\k < j then gt p (i + j - 1 - k) else gt p k:=by
 have e:=getElem?_mirror_all (xs:=p) (i:=i) (j:=j) hj k
 have e1:=wZ (p:=mirror p i j ((j - i) / 2)) (k:=k) (by rw[mirror_size];exact hk)
 rw[e] at e1
 by_cases c:i<=k/\k < j
 ·rw[ap c] at e1 ⊢
  rw[wZ (by lia)] at e1
  exact(ck e1).symm
 ·rw[ak c] at e1 ⊢
  rw[wZ hk] at e1
  exact(ck e1).symm
theorem zaw{st:SortSt}{p:Array Nat}{lo nrem:Nat}{Q:Option Nat->SortSt->Prop}(S:SO lt N)(hc:yK prog w A s κ it lt N)(h:SAZ κ it N p st)(h1:1<=nrem)(h2:lo + nrem<=N)
  (q:∀m p',1<=m->m<=nrem->SAZ κ it N p' (setArr st (p'.map it))->(∀i,i < lo->gt p' i=gt p i)->RiseSZ lt p' lo m->Q (aa m) (setArr st (p'.map it))) :
  wpS (model prog w) A E s (countRun' lo nrem) Q st:=by
 have sz:=h.pp.size
 have st0:setArr st (p.map it)=st:=by rw[<-h.a]
 refine bK (dO (de (λx c st'=>st=st'/\c=(ai,x)/\RiseSZ lt p lo x) (Q:=λc st'=>st=st'/\∃m,c=(ai,m)/\1<=m/\m<=nrem/\RiseSZ lt p lo m/\(m < nrem->lt (gt p (lo + m)) (gt p (lo + m - 1))=ae)) ?step ?fin ⟨rfl,rfl,λi j hij hj=>by lia⟩) ?post)
 case step =>
  rintro x c st' hx1 hx ⟨rfl,rfl,r⟩
  dsimp only
  refine bK (Zd hc h (by lia) (by lia) (by lia) ?_)
  dsimp only
  cases e:lt (gt p (lo + x)) (gt p (lo + x - 1)) with
  | true =>
   rw[ap rfl]
   exact b6 ⟨rfl,x,rfl,hx1,by lia,r,λ_=>e⟩
  | false =>
   rw[ak (by decide)]
   exact b6 ⟨rfl,rfl,Wu S h.pp r hx1 (by lia) e⟩
 case fin =>
  rintro c st' ⟨rfl,rfl,r⟩
  exact⟨rfl,_,rfl,by lia,by lia,r,λz=>by lia⟩
 case post =>
  rintro c st' ⟨rfl,m,rfl,m1,m2,r,tn⟩
  dsimp only
  by_cases c1:(m == nrem)=ae
  ·rw[ap c1]
   refine b6 ?_
   have:=q m p m1 m2 (h.set h.pp) (λ_ _=>rfl) r
   rw[st0] at this
   exact this
  ·rw[ak c1]
   have c1':m≠nrem:=by simpa using c1
   by_cases c2:m > 1
   ·rw[ap c2]
    refine bK (Zd hc h (by lia) (by lia) (by lia) ?_)
    dsimp only
    have ro:=r 0 (m - 1) (by lia) (by lia)
    rw[Nat.add_zero,<-dG (show 1<=m by lia)] at ro
    rw[ro,ap rfl]
    refine b6 ?_
    have:=q m p m1 m2 (h.set h.pp) (λ_ _=>rfl) r
    rw[st0] at this
    exact this
   ·rw[ak c2]
    obtain rfl:m=1:=by lia
    have dn:=tn (by lia)
    refine bK (nt (ik ⟨rfl,?_⟩))
    -- the part that falls
    refine bK (dO (de (λx c st'=>st=st'/\c=(ai,x,0)/\∀i j,i < j->j < x->lt (gt p (lo + j)) (gt p (lo + i))=ae) (Q:=λc st'=>st=st'/\∃x,c=(ai,x,0)/\2<=x/\x<=nrem/\∀i j,i < j->j < x->lt (gt p (lo + j)) (gt p (lo + i))=ae) ?step2 ?fin2 ⟨rfl,rfl,λi j hij hj=>(by
     obtain rfl:j=1:=by lia
     obtain rfl:i=0:=by lia
     exact dn)⟩) ?post2)
    case step2 =>
     rintro x c st' hx1 hx ⟨rfl,rfl,f⟩
     dsimp only
     refine bK (Zd hc h (by lia) (by lia) (by lia) ?_)
     dsimp only
     cases e:lt (gt p (lo + x)) (gt p (lo + x - 1)) with
     | true =>
      rw[ap rfl,ak (by decide)]
      refine b6 ⟨rfl,rfl,λi j hij hj=>?_⟩
      by_cases e1:j < x
      ·exact f i j hij e1
      ·obtain rfl:j=x:=by lia
       by_cases e2:i=j - 1
       ·rw[e2,<-dG (show 1<=j by lia)];exact e
       ·refine S.trans _ (gt p (lo + j - 1)) _ (h.pp.blt (by lia)) (h.pp.blt (by lia)) (h.pp.blt (by lia)) e ?_
        have:=f i (j - 1) (by lia) (by lia)
        rwa [<-dG (show 1<=j by lia)] at this
     | false =>
      rw[ak (by decide)]
      refine bK (Zd hc h (by lia) (by lia) (by lia) ?_)
      dsimp only
      have up:lt (gt p (lo + x - 1)) (gt p (lo + x))=ae:=S.tot _ _ (h.pp.blt (by lia)) (h.pp.blt (by lia)) (λz=>by have:=h.pp.inj (by lia) (by lia) z;lia) e
      rw[up,ap rfl]
      exact b6 ⟨rfl,x,rfl,hx1,by lia,f⟩
    case fin2 =>
     rintro c st' ⟨rfl,rfl,f⟩
     exact⟨rfl,_,rfl,by lia,by lia,f⟩
    case post2 =>
     rintro c st' ⟨rfl,x,rfl,x2,xn,f⟩
     dsimp only
     rw[ak (by decide)]
     refine bK (eK ?_)
     have es:(λs=>setArr s (mirror (arrOf s) lo (lo + x) ((lo + x - lo) / 2))) st=setArr st ((mirror p lo (lo + x) ((lo + x - lo) / 2)).map it):=by
      show setArr st (mirror (arrOf st) lo (lo + x) ((lo + x - lo) / 2))=_
      rw[h.a,K0]
     have hp':PP N (mirror p lo (lo + x) ((lo + x - lo) / 2)):=mK (mirror_perm _ _ _ _) h.pp
     have g':∀k,k < N->gt (mirror p lo (lo + x) ((lo + x - lo) / 2)) k=if lo<=k/\k < lo + x then gt p (lo + (lo + x) - 1 - k) else gt p k:=λk hk=>zfl (by lia) (by lia)
     show wpS (model prog w) A E s _ Q ((λs=>setArr s (mirror (arrOf s) lo (lo + x) ((lo + x - lo) / 2))) st)
     rw[es]
     generalize mirror p lo (lo + x) ((lo + x - lo) / 2)=p' at *
     have h':=h.set hp'
     have ex:∀i,i < x->lo + (x - 1 - i)=lo + (lo + x) - 1 - (lo + i):=λi h=>by lia
     have r':RiseSZ lt p' lo x:=λi j hij hj=>by
      rw[g' _ (by lia),g' _ (by lia),ap ⟨by lia,by lia⟩,ap ⟨by lia,by lia⟩]
      have:=f (x - 1 - j) (x - 1 - i) (by lia) (by lia)
      rwa [ex i (lR hij hj),ex j hj] at this
     have kp:∀i,i < lo->gt p' i=gt p i:=λi hi=>by rw[g' i (by lia),ak (by lia)]
     refine bK (dO (de (λy c st'=>setArr st (p'.map it)=st'/\c=(ai,y)/\RiseSZ lt p' lo y) (Q:=λc st'=>setArr st (p'.map it)=st'/\∃m,c=(ai,m)/\1<=m/\m<=nrem/\RiseSZ lt p' lo m) ?step3 ?fin3 ⟨rfl,rfl,r'⟩) ?post3)
     case step3 =>
      rintro y c st' hy1 hy ⟨rfl,rfl,r⟩
      dsimp only
      refine bK (Zd hc h' (by lia) (by lia) (by lia) ?_)
      dsimp only
      cases e:lt (gt p' (lo + y)) (gt p' (lo + y - 1)) with
      | true =>
       rw[ap rfl]
       exact b6 ⟨rfl,y,rfl,by lia,by lia,r⟩
      | false =>
       rw[ak (by decide)]
       exact b6 ⟨rfl,rfl,Wu S hp' r (by lia) (by lia) e⟩
     case fin3 =>
      rintro c st' ⟨rfl,rfl,r⟩
      exact⟨rfl,_,rfl,by lia,by lia,r⟩
     case post3 =>
      rintro c st' ⟨rfl,m,rfl,m1,m2,r⟩
      exact b6 (q m p' m1 m2 h' kp r)
theorem zdA{st:SortSt}{p:Array Nat}{lo n ok:Nat}{Q:Bool->SortSt->Prop}(S:SO lt N)(hc:yK prog w A s κ it lt N)(h:SAZ κ it N p st)(h1:1<=ok)(h2:ok<=n)(h3:lo + n<=N)(r:RiseSZ lt p lo ok)
  (q:∀p',SAZ κ it N p' (setArr st (p'.map it))->(∀i,i < lo->gt p' i=gt p i)->RiseSZ lt p' lo n->Q ae (setArr st (p'.map it))) :
  wpS (model prog w) A E s (binarySort' lo n ok) Q st:=by
 have sz:=h.pp.size
 refine bK (dO (de (λx c st'=>∃p',setArr st (p'.map it)=st'/\c=(ai,())/\PP N p'/\(∀i,i < lo->gt p' i=gt p i)/\RiseSZ lt p' lo x) (Q:=λc st'=>∃p',setArr st (p'.map it)=st'/\c=(ai,())/\PP N p'/\(∀i,i < lo->gt p' i=gt p i)/\RiseSZ lt p' lo n) ?step ?fin ⟨p,by rw[<-h.a],rfl,h.pp,λ_ _=>rfl,by rw[Nat.max_eq_left h1];exact r⟩) ?post)
 case fin =>
  rintro c st' ⟨p',rfl,rfl,hp,kp,r⟩
  exact⟨p',rfl,rfl,hp,kp,by rw[show max (max ok 1) n=n by lia] at r;exact r⟩
 case post =>
  rintro c st' ⟨p',rfl,rfl,hp,kp,r⟩
  exact b6 (q p' (h.set hp) kp r)
 case step =>
  rintro x c st' hx1 hx ⟨p',rfl,rfl,hp,kp,r⟩
  dsimp only
  have h':=h.set hp
  have sz':=hp.size
  refine bK (dO (de (λy c st2=>setArr st (p'.map it)=st2/\∃l u,c=(ai,l,u)/\l<=u/\u<=x/\u - l<=x - y/\(∀i,i < l->lt (gt p' (lo + i)) (gt p' (lo + x))=ae)/\(∀i,u<=i->i < x->lt (gt p' (lo + x)) (gt p' (lo + i))=ae)) (Q:=λc st2=>setArr st (p'.map it)=st2/\∃l u,c=(ai,l,u)/\l<=x/\(∀i,i < l->lt (gt p' (lo + i)) (gt p' (lo + x))=ae)/\(∀i,l<=i->i < x->lt (gt p' (lo + x)) (gt p' (lo + i))=ae)) ?step1 ?fin1 ⟨rfl,0,x,rfl,by lia,by lia,by lia,λi hi=>by lia,λi h1 h2=>by lia⟩) ?post1)
  case fin1 =>
   rintro c st2 ⟨rfl,l,u,rfl,a1,a2,a3,a4,a5⟩
   have:l=u:=by lia
   subst this
   exact⟨rfl,l,l,rfl,a2,a4,a5⟩
  case step1 =>
   rintro y c st2 _ hy ⟨rfl,l,u,rfl,a1,a2,a3,a4,a5⟩
   dsimp only
   by_cases c1:l >= u
   ·rw[ap c1]
    have:l=u:=by lia
    subst this
    exact b6 ⟨rfl,l,l,rfl,a2,a4,a5⟩
   ·rw[ak c1]
    refine bK (Zd hc h' (by lia) (by lia) (by lia) ?_)
    dsimp only
    cases e:lt (gt p' (lo + x)) (gt p' (lo + (l + u) / 2)) with
    | true =>
     rw[ap rfl]
     refine b6 ⟨rfl,l,(l + u) / 2,rfl,by lia,by lia,ig (cg (by lia) a3),a4,λi h1 h2=>?_⟩
     by_cases d:i=(l + u) / 2
     ·rw[d];exact e
     ·exact S.trans _ _ _ (hp.blt (by lia)) (hp.blt (by lia)) (hp.blt (by lia)) e (r _ _ (by lia) h2)
    | false =>
     rw[ak (by decide)]
     have up:=S.tot _ _ (hp.blt (by lia)) (hp.blt (by lia)) (λz=>by have:=hp.inj (by lia) (by lia) z;lia) e
     refine b6 ⟨rfl,(l + u) / 2 + 1,u,rfl,by lia,a2,ig (cg (by lia) a3),λi hi=>?_,a5⟩
     by_cases d:i=(l + u) / 2
     ·rw[d];exact up
     ·exact S.trans _ _ _ (hp.blt (by lia)) (hp.blt (by lia)) (hp.blt (by lia)) (r _ _ (by lia) (by lia)) up
  case post1 =>
   rintro c st2 ⟨rfl,l,u,rfl,a1,a2,a3⟩
   dsimp only
   refine bK (eK ?_)
   have es:(λs=>setArr s (bubble (arrOf s) (lo + x) (lo + x - (lo + l)))) (setArr st (p'.map it))=setArr st ((bubble p' (lo + x) (lo + x - (lo + l))).map it):=by
    show setArr _ (bubble (p'.map it) _ _)=_
    rw[K3]
   show wpS (model prog w) A E s _ _ ((λs=>setArr s (bubble (arrOf s) (lo + x) (lo + x - (lo + l)))) (setArr st (p'.map it)))
   rw[es]
   have g':∀j,j < N->gt (bubble p' (lo + x) (lo + x - (lo + l))) j=if j=lo + l then gt p' (lo + x) else if lo + l < j/\j<=lo + x then gt p' (j - 1) else gt p' j:=λj hj=>by
    have:=zgW (p:=p') (k:=lo + x) (d:=lo + x - (lo + l)) (j:=j) (by lia) (by lia) (by lia)
    rwa [show lo + x - (lo + x - (lo + l))=lo + l by lia] at this
   have hp':PP N (bubble p' (lo + x) (lo + x - (lo + l))):=mK (bubble_perm _ _ _) hp
   generalize bubble p' (lo + x) (lo + x - (lo + l))=p2 at *
   refine b6 ⟨p2,rfl,rfl,hp',λi hi=>?_,λi j hij hj=>?_⟩
   ·rw[g' i (by lia),ak (by lia),ak (by lia)];exact kp i hi
   ·rw[g' _ (by lia),g' _ (by lia)]
    by_cases c1:i=l
    ·rw[ap (by lia),ak (by lia),ap (by lia),dG (show 1<=j by lia)]
     exact a3 _ (by lia) (by lia)
    ·rw[ak (by lia)]
     by_cases c2:l < i/\i<=x
     ·rw[ap (by lia),ak (by lia),ap (by lia),dG (show 1<=j by lia),dG (show 1<=i by lia)]
      exact r _ _ (by lia) (by lia)
     ·rw[ak (by lia)]
      by_cases c3:j=l
      ·rw[ap (by lia)];exact a2 _ (by lia)
      ·rw[ak (by lia)]
       by_cases c4:l < j/\j<=x
       ·rw[ap (by lia),dG (show 1<=j by lia)]
        exact r _ _ (by lia) (by lia)
       ·rw[ak (by lia)]
        exact r _ _ hij (by lia)
end
theorem V7{α:Type}(off:Nat):∀(l:List α) (arr:Array α) (j:Nat),off + j + l.length<=arr.size->(l.zipIdx j).foldl (λa x=>match x with | (p,j)=>a.setIfInBounds (off + j) p) arr=(arr.toList.take (off + j) ++ l ++ arr.toList.drop (off + j + l.length)).toArray
 | [],arr,j,h=>by simp
 | x :: t,arr,j,h=>by
  rw[cA] at h
  rw[List.zipIdx_cons,eF]
  have e:=V7 off t (arr.setIfInBounds (off + j) x) (j + 1) (by simp;lia)
  dsimp only at e ⊢
  rw[e]
  congr 1
  have es:(arr.setIfInBounds (off + j) x).toList=arr.toList.take (off + j) ++ x :: arr.toList.drop (off + j + 1):=by
   rw[Array.toList_setIfInBounds,List.set_eq_take_append_cons_drop,ap (by simp;lia)]
  have lt:(arr.toList.take (off + j)).length=off + j:=by rw[cm,cy];lia
  have a1:∀(U D:List α) (n:Nat),U.length=n->(U ++ x :: D).take (n + 1)=U ++ [x]:=λU D n h=>by
   rw[List.take_append,bQ (by lia),show n + 1 - U.length=1 by lia];rfl
  have a2:∀(U D:List α) (n k:Nat),U.length=n->(U ++ x :: D).drop (n + 1 + k)=D.drop k:=λU D n k h=>by
   rw[List.drop_append,fL (by lia),show n + 1 + k - U.length=k + 1 by lia];rfl
  rw[es,show off + (j + 1)=(off + j) + 1 by lia,a1 _ _ _ lt,a2 _ _ _ _ lt,gG,cA,show off + j + 1 + t.length=off + j + (t.length + 1) by lia]
  simp
section
variable {prog:aq}{w:au}{A:av}{E:af->aj->Prop}{s:aj}{κ:SortKind}{it:Nat->Keyed}{lt:Nat->Nat->Bool}{N:Nat}
theorem JO(p:Array Nat):p.map it=imZ it p.toList:=by apply fI.mp;simp[imZ]
theorem zdB{st st':SortSt}{Q:PUnit->SortSt->Prop}(q:Q ⟨⟩ st'):wpS M A E s (set st':SMZ PUnit) Q st:=by
 unfold wpS
 exact bw ⟨rfl,q⟩
theorem qu(h:k < p.size):p.toList[k]?=aa (gt p k):=by
 rw[dF];exact wZ h
theorem w5{lo m i:Nat}(h:lo + m<=p.size)(hi:i < m):((p.toList.drop lo).take m)[i]?=aa (gt p (lo + i)):=by
 rw[dC hi,dI,qu (by lia)]
theorem Ym{p:Array Nat}{lo m:Nat}(h:lo + m<=p.size):((p.toList.drop lo).take m).length=m:=by
 rw[cm,cC,cy];lia
theorem xJ{lo m x:Nat}(h:lo + m<=p.size)(hx:x∈(p.toList.drop lo).take m):∃i,i < m/\x=gt p (lo + i):=by
 obtain⟨i,hi⟩:=cV hx
 have il:=(bn.mp hi).1
 rw[Ym h] at il
 rw[w5 h il] at hi
 exact⟨i,il,(ck hi).symm⟩
theorem zbw{lo m i:Nat}(h:lo + m<=p.size)(hi:i < m):gt p (lo + i)∈(p.toList.drop lo).take m:=bD (w5 h hi)
theorem Ze{lo m:Nat}(h:lo + m<=p.size)(r:RiseSZ lt p lo m):((p.toList.drop lo).take m).Pairwise λx y=>lt x y=ae:=by
 rw[c9]
 intro i j hi hj hij
 rw[Ym h] at hi hj
 have gi:=bn.mp (w5 h hi)
 have gj:=bn.mp (w5 h hj)
 rw[gi.2,gj.2]
 exact r i j hij hj
theorem RiseSZ.sub{lo m k n:Nat}(r:RiseSZ lt p lo m)(h:k + n<=m):RiseSZ lt p (lo + k) n:=λi j hij hj=>by
 have:=r (k + i) (k + j) (by lia) (by lia)
 rwa [<-iT,<-iT] at this
theorem RiseSZ.same{lo m:Nat}(r:RiseSZ lt p lo m)(h:∀i,i < m->gt p' (lo + i)=gt p (lo + i)):RiseSZ lt p' lo m:=λi j hij hj=>by
 rw[h i (by lia),h j hj];exact r i j hij hj
def wQ(p:Array Nat)(off:Nat)(m:List Nat):Array Nat:=(p.toList.take off ++ m ++ p.toList.drop (off + m.length)).toArray
theorem zfm(h:off + m.length<=p.size)(hk:k < p.size):gt (wQ p off m) k=if off<=k/\k < off + m.length then m.getD (k - off) 0 else gt p k:=by
 have lt:(p.toList.take off).length=off:=by rw[cm,cy];lia
 have e:gt (wQ p off m) k=((p.toList.take off ++ m ++ p.toList.drop (off + m.length))[k]?).getD 0:=by
  unfold gt wQ
  rw[fV]
  simp
 rw[e]
 by_cases c1:k < off
 ·rw[ak (by lia),cb,c8 (by lia),dC c1,qu hk];rfl
 ·by_cases c2:k < off + m.length
  ·rw[ap ⟨by lia,c2⟩,cb,cI (by lia),lt,c8 (by lia),bh]
  ·rw[ak (by lia),cb,cI (by lia),lt,cI (by lia),dI,show off + m.length + (k - off - m.length)=k by lia,qu hk];rfl
theorem zck(hp:PP N p)(h:m.Perm ((p.toList.drop off).take m.length)):PP N (wQ p off m):=by
 refine mK ?_ hp
 rw[Array.perm_iff_toList_perm]
 unfold wQ
 show (p.toList.take off ++ m ++ p.toList.drop (off + m.length)).Perm p.toList
 have e:p.toList=p.toList.take off ++ (p.toList.drop off).take m.length ++ p.toList.drop (off + m.length):=by
  rw[cb,<-gG,cS,cS]
 conv=>rhs;rw[e]
 exact fM _ (fW _ h)
theorem JP{st:SortSt}{p:Array Nat}{pre post:List (Nat × Nat × Nat)}{Q:Bool->SortSt->Prop}(S:SO lt N)(hc:yK prog w A s κ it lt N)(h:SAZ κ it N p st)(hpd:pendingOf st=(pre ++ (sa,na,pw) :: (sb,nb,pw2) :: post).toArray)(hi:i=pre.length)(e:sb=sa + na)(r1:RiseSZ lt p sa na)(r2:RiseSZ lt p sb nb)(n1:0 < na)(n2:0 < nb)(hN:sb + nb<=N)
  (q:∀p' st',SAZ κ it N p' st'->pendingOf st'=(pre ++ (sa,na + nb,pw) :: post).toArray->(∀k,k < N->k < sa\/sa + na + nb<=k->gt p' k=gt p k)->RiseSZ lt p' sa (na + nb)->Q ae st') :
  wpS (model prog w) A E s (mergeAt' i) Q st:=by
 subst hi
 have sz:=h.pp.size
 refine bK (wpS_get ?_)
 have g1:(pendingOf st)[pre.length]?=aa (sa,na,pw):=by rw[hpd];simp
 have g2:(pendingOf st)[pre.length + 1]?=aa (sb,nb,pw2):=by rw[hpd];simp
 have pd':((pendingOf st).setIfInBounds pre.length (sa,na + nb,pw)).eraseIdxIfInBounds (pre.length + 1)=(pre ++ (sa,na + nb,pw) :: post).toArray:=by
  rw[hpd]
  apply fI.mp
  simp only[List.setIfInBounds_toArray,ie]
  rw[List.set_append_right _ _ (bq _),Nat.sub_self,br,List.eraseIdx_append_of_length_le (by lia),show pre.length + 1 - pre.length=1 by lia]
  rfl
 rw[g1,g2]
 dsimp only
 refine bK (zdB ?_)
 rw[pd']
 have hA:arrOf st=imZ it p.toList:=by rw[h.a,JO]
 have gb0:=h.pp.blt (k:=sb) (by lia)
 have inj:∀ {k l:Nat},k < N->l < N->k≠l->gt p k≠gt p l:=λhk hl n z=>n (h.pp.inj hk hl z)
 have hA':(sortPriv% PySem.Builtin.SortState.a) st=imZ it p.toList:=hA
 rw[hA']
 refine bK (zV (yt (qu (k:=sb) (by lia))) ?_)
 show wpS (model prog w) A E s _ Q (iV (kindOf st) (imZ it p.toList) (pre ++ (sa,na + nb,pw) :: post).toArray (gallopOf st) (failedOf st))
 generalize est:iV (kindOf st) (imZ it p.toList) (pre ++ (sa,na + nb,pw) :: post).toArray (gallopOf st) (failedOf st)=st1
 have h1:SAZ κ it N p st1:=by rw[<-est];exact⟨h.k,h.f,(JO p).symm,h.pp⟩
 have hp1:pendingOf st1=(pre ++ (sa,na + nb,pw) :: post).toArray:=by rw[<-est]
 refine bK (xX S hc h1.k gb0 (λx hx=>?_) (Ze (by lia) r1) (by rw[cy];lia) n1 λk hk lo hi=>?_)
 ·obtain⟨j,hj,rfl⟩:=xJ (by lia) hx
  exact⟨h.pp.blt (by lia),inj (by lia) (by lia) (by lia)⟩
 dsimp only
 -- the first part's ones ahead of all of the second part's
 have loA:∀j,j < k->lt (gt p (sa + j)) (gt p sb)=ae:=λj hj=>lo _ (zbw (by lia) hj)
 have hiA:∀j,k<=j->j < na->lt (gt p sb) (gt p (sa + j))=ae:=λj h1 h2=>by
  refine hi _ ?_
  refine bD (i:=j - k) ?_
  rw[dI,show k + (j - k)=j by lia,w5 (by lia) h2]
 have below:∀j l,j < k->l < nb->lt (gt p (sa + j)) (gt p (sb + l))=ae:=λj l hj hl=>by
  by_cases c:l=0
  ·rw[c];exact loA j hj
  ·have:=r2 0 l (by lia) hl
   exact S.trans _ (gt p sb) _ (h.pp.blt (by lia)) gb0 (h.pp.blt (by lia)) (loA j hj) this
 by_cases c1:(na - k == 0)=ae
 ·rw[ap c1]
  replace c1:na<=k:=by have:=lh c1;lia
  refine b6 (q p st1 h1 hp1 (λ_ _ _=>rfl) λi j hij hj=>?_)
  by_cases d1:j < na
  ·exact r1 i j hij d1
  ·have ej:sa + j=sb + (j - na):=by lia
   by_cases d2:i < na
   ·rw[ej];exact below i (j - na) (by lia) (by lia)
   ·rw[ej,show sa + i=sb + (i - na) by lia]
    exact r2 _ _ (by lia) (by lia)
 ·rw[ak c1]
  replace c1:k < na:=by have:=xt c1;lia
  rw[show sa + k + (na - k) - 1=sb - 1 by lia]
  refine bK (zV (yt (qu (k:=sb - 1) (by lia))) ?_)
  refine bK (xX S hc h1.k (h.pp.blt (k:=sb - 1) (by lia)) (λx hx=>?_) (Ze (by lia) r2) (by rw[cy];lia) (by lia) λl hl lo2 hi2=>?_)
  ·obtain⟨j,hj,rfl⟩:=xJ (by lia) hx
   exact⟨h.pp.blt (by lia),inj (by lia) (by lia) (by lia)⟩
  dsimp only
  have loB:∀j,j < l->lt (gt p (sb + j)) (gt p (sb - 1))=ae:=λj hj=>lo2 _ (zbw (by lia) hj)
  have hiB:∀j,l<=j->j < nb->lt (gt p (sb - 1)) (gt p (sb + j))=ae:=λj h1 h2=>by
   refine hi2 _ ?_
   refine bD (i:=j - l) ?_
   rw[dI,show l + (j - l)=j by lia,w5 (by lia) h2]
  have above:∀j i,l<=j->j < nb->i < na->lt (gt p (sa + i)) (gt p (sb + j))=ae:=λj i h1 h2 h3=>by
   by_cases c:i=na - 1
   ·rw[c,show sa + (na - 1)=sb - 1 by lia];exact hiB j h1 h2
   ·have:=r1 i (na - 1) (by lia) (by lia)
    rw[show sa + (na - 1)=sb - 1 by lia] at this
    exact S.trans _ (gt p (sb - 1)) _ (h.pp.blt (by lia)) (h.pp.blt (by lia)) (h.pp.blt (by lia)) this (hiB j h1 h2)
  by_cases c2:(l == 0)=ae
  ·rw[ap c2]
   replace c2:=lh c2
   refine b6 (q p st1 h1 hp1 (λ_ _ _=>rfl) λi j hij hj=>?_)
   by_cases d1:j < na
   ·exact r1 i j hij d1
   ·have ej:sa + j=sb + (j - na):=by lia
    by_cases d2:i < na
    ·rw[ej];exact above (j - na) i (by lia) (by lia) d2
    ·rw[ej,show sa + i=sb + (i - na) by lia]
     exact r2 _ _ (by lia) (by lia)
  ·rw[ak c2]
   replace c2:=xt c2
   rw[v6,v6,show sb - (sa + k)=na - k by lia,show sb + l - sb=l by lia]
   have rA:RiseSZ lt p (sa + k) (na - k):=r1.sub (by lia)
   have rB:RiseSZ lt p sb l:=λi j hij hj=>r2 i j hij (by lia)
   have lA:=Ym (p:=p) (lo:=sa + k) (m:=na - k) (by lia)
   have lB:=Ym (p:=p) (lo:=sb) (m:=l) (by lia)
   have P:MPreZ lt N ((p.toList.drop (sa + k)).take (na - k)) ((p.toList.drop sb).take l):=by
    refine⟨Ze (by lia) rA,Ze (by lia) rB,λx hx=>?_,λx hx=>?_,λx hx y hy=>?_,by lia,by lia,λy hy=>?_,λx hx=>?_⟩
    ·obtain⟨j,hj,rfl⟩:=xJ (by lia) hx
     exact h.pp.blt (by lia)
    ·obtain⟨j,hj,rfl⟩:=xJ (by lia) hx
     exact h.pp.blt (by lia)
    ·obtain⟨j,hj,rfl⟩:=xJ (by lia) hx
     obtain⟨j',hj',rfl⟩:=xJ (by lia) hy
     exact inj (by lia) (by lia) (by lia)
    ·obtain⟨j,hj,rfl⟩:=xJ (by lia) hy
     have eb:((p.toList.drop sb).take l).getD 0 0=gt p sb:=by rw[bh,w5 (by lia) (by lia)];rfl
     rw[eb,show sa + k + j=sa + (k + j) by lia]
     exact hiA _ (by lia) (by lia)
    ·obtain⟨j,hj,rfl⟩:=xJ (by lia) hx
     have ea:((p.toList.drop (sa + k)).take (na - k)).getD (((p.toList.drop (sa + k)).take (na - k)).length - 1) 0=gt p (sb - 1):=by
      rw[lA,bh,w5 (by lia) (by lia),show sa + k + (na - k - 1)=sb - 1 by lia];rfl
     rw[ea]
     exact loB j hj
   have fin:∀m st',XD lt ((p.toList.drop (sa + k)).take (na - k)) ((p.toList.drop sb).take l) m->xS κ st1 st'->wpS (model prog w) A E s (do
     modify λz=>setArr z ((imZ it m).toList.zipIdx.foldl (λa x=>match x with | (p,j)=>a.setIfInBounds (sa + k + j) p) (arrOf z))
     let z <-get
     pure (failedOf z).isNone:SMZ Bool) Q st':=by
    intro m st' R T
    have lm:m.length=na - k + l:=by have:=R.pe.length_eq;rw[bt,lA,lB] at this;exact this
    have ea:arrOf st'=imZ it p.toList:=by rw[T.a,h1.a,JO]
    refine bK (eK (bK (wpS_get (b6 ?_))))
    have ef:(imZ it m).toList.zipIdx.foldl (λa x=>match x with | (p,j)=>a.setIfInBounds (sa + k + j) p) (arrOf st')=(wQ p (sa + k) m).map it:=by
     rw[ea]
     have:=V7 (sa + k) (imZ it m).toList (imZ it p.toList) 0 (by
      have e1:(imZ it m).toList.length=m.length:=by simp[imZ]
      have e2:(imZ it p.toList).size=p.size:=by simp[imZ]
      lia)
     rw[this]
     unfold wQ
     simp[imZ,gn,gO]
    show Q (failedOf (setArr st' ((imZ it m).toList.zipIdx.foldl (λa x=>match x with | (p,j)=>a.setIfInBounds (sa + k + j) p) (arrOf st')))).isNone (setArr st' ((imZ it m).toList.zipIdx.foldl (λa x=>match x with | (p,j)=>a.setIfInBounds (sa + k + j) p) (arrOf st')))
    rw[ef]
    have en:(failedOf (setArr st' ((wQ p (sa + k) m).map it))).isNone=ae:=by show (failedOf st').isNone=ae;rw[T.f];rfl
    rw[en]
    have ab:(p.toList.drop (sa + k)).take (na - k) ++ (p.toList.drop sb).take l=(p.toList.drop (sa + k)).take m.length:=by
     rw[lm,List.take_add,gG,show sa + k + (na - k)=sb by lia]
    have pp':PP N (wQ p (sa + k) m):=zck h.pp (by rw[<-ab];exact R.pe)
    have gp:∀j,j < N->gt (wQ p (sa + k) m) j=if sa + k<=j/\j < sa + k + m.length then m.getD (j - (sa + k)) 0 else gt p j:=λj hj=>zfm (by lia) (by lia)
    -- what lies in m
    have mm:∀j,j < m.length->(∃i,k<=i/\i < na/\m.getD j 0=gt p (sa + i))\/∃i,i < l/\m.getD j 0=gt p (sb + i):=λj hj=>by
     have gm:m[j]?=aa (m.getD j 0):=by rw[bh,ba hj];rfl
     have:=R.pe.mem_iff.mp (bD gm)
     rcases bF.mp this with z | z
     ·obtain⟨i,hi,e⟩:=xJ (by lia) z
      exact .inl ⟨k + i,by lia,by lia,by rw[e,show sa + k + i=sa + (k + i) by lia]⟩
     ·obtain⟨i,hi,e⟩:=xJ (by lia) z
      exact .inr ⟨i,hi,e⟩
    refine q _ _ ⟨T.k,T.f,rfl,pp'⟩ (by show pendingOf st'=_;rw[T.p,hp1]) (λj hj hc=>?_) λi j hij hj=>?_
    ·rw[gp j hj,ak (by lia)]
    ·rw[gp _ (by lia),gp _ (by lia)]
     by_cases i1:i < k
     ·rw[ak (by lia)]
      by_cases j1:j < k
      ·rw[ak (by lia)];exact r1 i j hij (by lia)
      ·by_cases j2:j < na + l
       ·rw[ap ⟨by lia,by lia⟩]
        rcases mm (sa + j - (sa + k)) (by rw[gC];lia) with ⟨u,u1,u2,eu⟩ | ⟨u,u1,eu⟩
        ·rw[eu];exact r1 i u (by lia) u2
        ·rw[eu];exact below i u i1 (by lia)
       ·rw[ak (by lia),show sa + j=sb + (j - na) by lia]
        exact below i _ i1 (by lia)
     ·by_cases i2:i < na + l
      ·rw[ap ⟨by lia,by lia⟩]
       by_cases j2:j < na + l
       ·rw[ap ⟨by lia,by lia⟩]
        have a1:sa + i - (sa + k) < m.length:=by rw[gC];lia
        have a2:sa + j - (sa + k) < m.length:=by rw[gC];lia
        rw[bh,bh,ba a1,ba a2]
        exact c9.mp R.so _ _ a1 a2 (by lia)
       ·rw[ak (by lia),show sa + j=sb + (j - na) by lia]
        rcases mm (sa + i - (sa + k)) (by rw[gC];lia) with ⟨u,u1,u2,eu⟩ | ⟨u,u1,eu⟩
        ·rw[eu];exact above _ u (by lia) (by lia) u2
        ·rw[eu];exact r2 u _ (by lia) (by lia)
      ·rw[ak (by lia),ak (by lia),show sa + j=sb + (j - na) by lia,show sa + i=sb + (i - na) by lia]
       exact r2 _ _ (by lia) (by lia)
   have k1:xS κ st1 st1:=⟨h1.k,h1.f,rfl,rfl⟩
   by_cases c3:na - k<=l
   ·rw[ap c3]
    exact bK (JL S hc k1 P fin)
   ·rw[ak c3]
    exact bK (JN S hc k1 P fin)
end
abbrev RnZ:=Nat × Nat × Nat
def RunsZ(lt:Nat->Nat->Bool)(p:Array Nat):List RnZ->Nat->Nat->Prop
 | [],a,b=>a=b
 | x :: r,a,b=>x.1=a/\0 < x.2.1/\RiseSZ lt p a x.2.1/\RunsZ lt p r (a + x.2.1) b
section
variable {lt:Nat->Nat->Bool}{p p':Array Nat}
theorem RunsZ.app:∀ {L M:List RnZ} {a b:Nat},RunsZ lt p (L ++ M) a b↔∃c,RunsZ lt p L a c/\RunsZ lt p M c b
 | [],M,a,b=>⟨λh=>⟨a,rfl,h⟩,λ⟨c,e,h⟩=>by cases e;exact h⟩
 | x :: L,M,a,b=>by
  constructor
  ·rintro⟨h1,h2,h3,h4⟩
   obtain⟨c,h5,h6⟩:=RunsZ.app.mp h4
   exact⟨c,⟨h1,h2,h3,h5⟩,h6⟩
  ·rintro⟨c,⟨h1,h2,h3,h5⟩,h6⟩
   exact⟨h1,h2,h3,RunsZ.app.mpr ⟨c,h5,h6⟩⟩
theorem RunsZ.len:∀ {L:List RnZ} {a b:Nat},RunsZ lt p L a b->a + L.length<=b
 | [],a,b,h=>by have h:a=b:=h;simp;lia
 | x :: L,a,b,⟨h1,h2,h3,h4⟩=>by have:=RunsZ.len h4;simp;lia
theorem RunsZ.same:∀ {L:List RnZ} {a b:Nat},RunsZ lt p L a b->(∀k,a<=k->k < b->gt p' k=gt p k)->RunsZ lt p' L a b
 | [],a,b,h,_=>h
 | x :: L,a,b,⟨h1,h2,h3,h4⟩,k=>by
  have:=RunsZ.len h4
  exact⟨h1,h2,h3.same λi hi=>k _ (by lia) (by lia),RunsZ.same h4 λj h5 h6=>k j (by lia) h6⟩
theorem RunsZ.power{pw:Nat}:∀ {L:List RnZ} {a b:Nat} (k:Nat),RunsZ lt p L a b->RunsZ lt p (L.modify k λx=>(x.1,x.2.1,pw)) a b
 | [],a,b,k,h=>by cases k <;> exact h
 | x :: L,a,b,0,⟨h1,h2,h3,h4⟩=>⟨h1,h2,h3,h4⟩
 | x :: L,a,b,k + 1,⟨h1,h2,h3,h4⟩=>⟨h1,h2,h3,RunsZ.power k h4⟩
end
section
variable {prog:aq}{w:au}{A:av}{E:af->aj->Prop}{s:aj}{κ:SortKind}{it:Nat->Keyed}{lt:Nat->Nat->Bool}{N:Nat}
structure SRZ(κ:SortKind)(it:Nat->Keyed)(lt:Nat->Nat->Bool)(N lo:Nat)(p:Array Nat)(L:List RnZ)(st:SortSt):Prop where
 h:SAZ κ it N p st
 d:pendingOf st=L.toArray
 r:RunsZ lt p L 0 lo
 l:lo<=N
theorem Wv{st:SortSt}{p:Array Nat}{L:List RnZ}{lo i:Nat}{Q:Bool->SortSt->Prop}(S:SO lt N)(hc:yK prog w A s κ it lt N)(h:SRZ κ it lt N lo p L st)(hi:i + 2<=L.length)
  (q:∀p' L' st',SRZ κ it lt N lo p' L' st'->L'.length + 1=L.length->(∀k,lo<=k->k < N->gt p' k=gt p k)->Q ae st'):wpS (model prog w) A E s (mergeAt' i) Q st:=by
 obtain⟨x,hx⟩:∃x,L[i]?=aa x:=⟨_,ba (by lia)⟩
 obtain⟨y,hy⟩:∃y,L[i + 1]?=aa y:=⟨_,ba (by lia)⟩
 have e:L=L.take i ++ x :: y :: L.drop (i + 2):=by
  obtain⟨l1,rfl⟩:=bn.mp hx
  obtain⟨l2,rfl⟩:=bn.mp hy
  rw[<-cU l2,<-cU l1,cS]
 have lp:(L.take i).length=i:=by rw[cm];lia
 have r:=h.r
 have hd:=h.d
 rw[e] at r hd
 obtain⟨c,r1,x1,x2,x3,y1,y2,y3,r2⟩:=RunsZ.app.mp r
 obtain⟨sa,na,pw⟩:=x
 obtain⟨sb,nb,pw2⟩:=y
 dsimp only at *
 subst x1
 subst y1
 have:=r2.len
 have hl:=h.l
 refine JP S hc h.h hd lp.symm rfl x3 y3 x2 y2 (by lia) λp' st' h' d' kp r'=>?_
 refine q p' (L.take i ++ (sa,na + nb,pw) :: L.drop (i + 2)) st' ⟨h',d',?_,hl⟩ ?_ λk h1 h2=>kp k h2 (by lia)
 ·refine RunsZ.app.mpr ⟨sa,r1.same λk h1 h2=>kp k (by lia) (by lia),rfl,by dsimp only;lia,r',?_⟩
  dsimp only
  rw[<-iT]
  exact r2.same λk h1 h2=>kp k (by lia) (by lia)
 ·have e2:=congrArg bJ e
  simp only[bt,cA] at e2 ⊢
  lia
def zhZ(size pw:Nat):SMZ (Option Unit × Unit) :=
 forIn [:size] (ai,()) λ_ _=>do
  let z <-get
  match (if (pendingOf z).size > 1 then (pendingOf z)[(pendingOf z).size - 2]? else ai) with
  | some (_,_,older)=>if older<=pw then pure (.done (ai,())) else do
    let ok <-mergeAt' ((pendingOf z).size - 2)
    if (!ok)=ae then pure (.done (aa (),())) else pure (.yield (ai,()))
  | _=>pure (.done (ai,()))
theorem K4{st:SortSt}{p:Array Nat}{L:List RnZ}{size lo n pw:Nat}{Q:Option Unit × Unit->SortSt->Prop}(S:SO lt N)(hc:yK prog w A s κ it lt N)(h:SRZ κ it lt N lo p L st)(n2:lo + n<=N)(r:RiseSZ lt p lo n)(q:∀p' L' st',SRZ κ it lt N lo p' L' st'->RiseSZ lt p' lo n->Q (ai,()) st'):wpS (model prog w) A E s (zhZ size pw) Q st:=by
 unfold zhZ
 refine de (λ_ c st'=>∃p' L',c=(ai,())/\SRZ κ it lt N lo p' L' st'/\RiseSZ lt p' lo n) ?_ ?_ ⟨p,L,rfl,h,r⟩
 ·rintro x c st' _ hx ⟨p',L',rfl,h',r'⟩
  refine bK (wpS_get ?_)
  by_cases c1:(pendingOf st').size > 1
  ·rw[ap c1]
   rw[h'.d,bN] at c1
   obtain⟨⟨a1,a2,a3⟩,ha⟩:∃y,(pendingOf st')[(pendingOf st').size - 2]?=aa y:=⟨_,by rw[h'.d];exact cF (by simp;lia)⟩
   rw[ha]
   dsimp only
   by_cases c2:a3<=pw
   ·rw[ap c2]
    exact b6 (q p' L' st' h' r')
   ·rw[ak c2]
    refine bK (Wv S hc h' (by rw[h'.d,bN];lia) λp2 L2 st2 h2 _ kp=>?_)
    rw[ak (by decide)]
    exact b6 ⟨p2,L2,rfl,h2,r'.same λi hi=>kp _ (by lia) (by lia)⟩
  ·rw[ak c1]
   exact b6 (q p' L' st' h' r')
 ·rintro c st' ⟨p',L',rfl,h',r'⟩
  exact q p' L' st' h' r'
theorem zcl{st:SortSt}{Q:Unit->SortSt->Prop}(S:SO lt N)(hc:yK prog w A s κ it lt N)(h:SAZ κ it N p st)(hd:pendingOf st=#[])(hN:1<=N)(q:∀p' st',SAZ κ it N p' st'->Vk lt p' N->Q () st'):wpS (model prog w) A E s sortRuns' Q st:=by
 have sz:=h.pp.size
 have size:(arrOf st).size=N:=by rw[h.a,Array.size_map,sz]
 refine bK (wpS_get ?_)
 have size':((sortPriv% PySem.Builtin.SortState.a) st).size=N:=size
 rw[size']
 refine bK (dO (de (λx c st'=>∃p L lo,c=(ai,lo)/\SRZ κ it lt N lo p L st'/\x<=lo) (Q:=λc st'=>∃p L,c=(ai,N)/\SRZ κ it lt N N p L st') ?step ?fin ⟨p,[],0,rfl,⟨h,hd,rfl,by lia⟩,bq _⟩) ?post)
 case fin =>
  rintro c st' ⟨p,L,lo,rfl,h,hx⟩
  have:=h.l
  obtain rfl:lo=N:=by lia
  exact⟨p,L,rfl,h⟩
 case step =>
  rintro x c st' _ hx ⟨p,L,lo,rfl,h,hxl⟩
  dsimp only
  have hl:=h.l
  by_cases c1:lo >= N
  ·rw[ap c1]
   obtain rfl:lo=N:=by lia
   exact b6 ⟨p,L,rfl,h⟩
  ·rw[ak c1]
   refine bK (zaw S hc h.h (by lia) (by lia) λm p' m1 m2 h' kp r=>?_)
   dsimp only
   have R:SRZ κ it lt N lo p' L (setArr st' (p'.map it)):=⟨h',h.d,h.r.same λk h1 h2=>kp k h2,hl⟩
   have fin:∀ {n:Nat} {p3:Array Nat} {L3:List RnZ} {st3:SortSt},0 < n->lo + n<=N->SRZ κ it lt N lo p3 L3 st3->RiseSZ lt p3 lo n->∃p L lo',((ai,lo + n):Option Unit × Nat)=(ai,lo')/\SRZ κ it lt N lo' p L (setPending st3 ((pendingOf st3).push (lo,n,0)))/\x + 1<=lo':=λ{n p3 L3 st3} n1 n2 h3 r3=>by
    refine⟨p3,L3 ++ [(lo,n,0)],lo + n,rfl,⟨⟨h3.h.k,h3.h.f,h3.h.a,h3.h.pp⟩,?_,RunsZ.app.mpr ⟨lo,h3.r,rfl,n1,r3,rfl⟩,n2⟩,by lia⟩
    show (pendingOf st3).push (lo,n,0)=_
    rw[h3.d];simp
   have hpw:∀ {pw:Nat} {p3:Array Nat} {L3:List RnZ} {st3:SortSt},SRZ κ it lt N lo p3 L3 st3->SRZ κ it lt N lo p3 (L3.modify (L3.length - 1) λx=>(x.1,x.2.1,pw)) (setPending st3 ((pendingOf st3).modify ((pendingOf st3).size - 1) λx=>(x.1,x.2.1,pw))):=λ{pw p3 L3 st3} h3=>by
    refine⟨⟨h3.h.k,h3.h.f,h3.h.a,h3.h.pp⟩,?_,RunsZ.power _ h3.r,h3.l⟩
    have pe:∀x,pendingOf (setPending st3 x)=x:=λ_=>rfl
    rw[pe,h3.d]
    simp
   generalize hmr:(sortPriv% PySem.Builtin.minRun) N N 0=mr
   by_cases c2:m < mr
   ·rw[ap c2]
    refine bK (nt (ik ⟨rfl,?_⟩))
    refine bK (zdA S hc h' m1 (by lia) (by lia) r λp2 h2 kp2 r2=>?_)
    rw[ak (by decide)]
    have R2:SRZ κ it lt N lo p2 L (setArr (setArr st' (p'.map it)) (p2.map it)):=⟨h2,h.d,R.r.same λk h1 h2=>kp2 k h2,hl⟩
    refine bK (wpS_get ?_)
    generalize ebk:((sortPriv% PySem.Builtin.SortState.pending) (setArr (setArr st' (p'.map it)) (p2.map it))).back?=bk
    cases bk with
    | none =>
     refine bK (eK (b6 ?_))
     exact fin (by lia) (by lia) R2 r2
    | some y =>
     obtain⟨s1,u1,u⟩:=y
     refine bK (K4 S hc R2 (by lia) r2 λp3 L3 st3 h3 r3=>?_)
     refine bK (eK (bK (eK (b6 ?_))))
     exact fin (by lia) (by lia) (hpw h3) r3
   ·rw[ak c2]
    refine bK (wpS_get ?_)
    generalize ebk:((sortPriv% PySem.Builtin.SortState.pending) (setArr st' (p'.map it))).back?=bk
    cases bk with
    | none =>
     refine bK (eK (b6 ?_))
     exact fin (by lia) (by lia) R r
    | some y =>
     obtain⟨s1,u1,u⟩:=y
     refine bK (K4 S hc R (by lia) r λp3 L3 st3 h3 r3=>?_)
     refine bK (eK (bK (eK (b6 ?_))))
     exact fin (by lia) (by lia) (hpw h3) r3
 case post =>
  rintro c st' ⟨p,L,rfl,h⟩
  dsimp only
  refine bK (dO (de (λx c st'=>∃p L,c=(ai,())/\SRZ κ it lt N N p L st'/\L.length + x<=N + 1) (Q:=λc st'=>∃p L,c=(ai,())/\SRZ κ it lt N N p L st'/\L.length<=1) ?step2 ?fin2 ⟨p,L,rfl,h,by have:=h.r.len;lia⟩) ?post2)
  case fin2 =>
   rintro c st' ⟨p,L,rfl,h,hl⟩
   exact⟨p,L,rfl,h,by lia⟩
  case step2 =>
   rintro x c st' _ hx ⟨p,L,rfl,h,hl⟩
   refine bK (wpS_get ?_)
   have ps:(pendingOf st').size=L.length:=by rw[h.d,bN]
   have ps':((sortPriv% PySem.Builtin.SortState.pending) st').size=L.length:=ps
   rw[ps']
   by_cases c1:L.length<=1
   ·rw[ap c1]
    exact b6 ⟨p,L,rfl,h,c1⟩
   ·rw[ak c1]
    refine bK (Wv S hc h ?_ λp2 L2 st2 h2 l2 _=>?_)
    ·have hh:∀b:Bool,(if b=ae then L.length - 2 - 1 else L.length - 2) + 2<=L.length:=λb=>by cases b <;> simp <;> lia
     exact hh _
    ·rw[ak (by decide)]
     exact b6 ⟨p2,L2,rfl,h2,by lia⟩
  case post2 =>
   rintro c st' ⟨p,L,rfl,h,hl⟩
   refine b6 (q p st' h.h ?_)
   have r:=h.r
   match L,r,hl with
   | [],r,_=>exact absurd (show (0:Nat)=N from r) (by lia)
   | [x],⟨x1,x2,x3,x4⟩,_ =>
    have x4:0 + x.2.1=N:=x4
    intro i j hij hj
    have:=x3 i j hij (by lia)
    rwa [m5,m5] at this
end
def Kp(a:ag)(h h':aw):Prop:=∀b o,b≠a->h.get? b=aa o->h'.get? b=aa o
def vC(vs:List af)(p:Array Nat):List af:=p.toList.map λi=>vs.getD i cM
theorem K7(vs:List af):vC vs (oM (bI vs.length))=vs:=by
 unfold vC
 apply eZ
 intro i
 simp only[bW]
 by_cases h:i < vs.length
 ·rw[ba (l:=vs) h]
  simp[fm h,h]
 ·rw[cR (by lia:vs.length<=i)]
  simp
  lia
section
variable {P:aq}{w:au}{A:av}{E:af->aj->Prop}{s:aj}
theorem zfn{lt:Nat->Nat->Bool}{Q:SortSt->aj->Prop}(h1:1<=vs.length)(S:SO lt vs.length)(hc:∀i j C,i < vs.length->j < vs.length->i≠j->C (lt i j) s->kas_ask P w A κ vs i j C s)
  (q:∀p st,arrOf st=p.map (kas_item (vs.toArray.zip vs.toArray))->failedOf st=ai->PP vs.length p->Vk lt p vs.length->Q st s):wpAny (model P w) A ((sortRuns').run (iV κ (vs.toArray.zip vs.toArray) #[] 7 ai)) (λr s'=>Q r.2 s') E s:=by
 have e:=kas_range (vs.toArray.zip vs.toArray)
 rw[show (vs.toArray.zip vs.toArray).size=vs.length by simp] at e
 have hA:SAZ κ (kas_item (vs.toArray.zip vs.toArray)) vs.length (oM (bI vs.length)) (iV κ (vs.toArray.zip vs.toArray) #[] 7 ai):=⟨rfl,rfl,e.symm,pi _⟩
 have C:yK P w A s κ (kas_item (vs.toArray.zip vs.toArray)) lt vs.length:=λi j C hi hj hij h=>by
  have:=hc i j C hi hj hij h
  rw[kat_ask_eq (vs:=vs) rfl] at this
  exact this
 exact dh (zcl (E:=E) S C hA rfl h1 (Q:=λ_ st=>Q st s) λp st h r=>q p st h.a h.f h.pp r) (λr s' h=>by obtain⟨rfl,h⟩:=h;exact h) λ_ _ e=>e
end
section
variable {P:aq}{w:au}{A:av}{E:af->aj->Prop}{s:aj}
theorem Ww{a:ag}{vs:List af}{n:Nat}{κ:SortKind}{lt:Nat->Nat->Bool}{R:PySem.Fin->aj->Prop}(ho:s.heap.get? a=aa (seqObj "list" vs.toArray n))(h64:vs.length < 1000)
  (hk:2<=vs.length->∀(h:aw) (Q:SortKind->aj->Prop),Kp a s.heap h->Q κ { s with heap:=h }->wpAny (model P w) A (keyKind' vs.toArray) Q (λ_ _=>False) { s with heap:=h })
  (hc:∀(h:aw) i j C,Kp a s.heap h->i < vs.length->j < vs.length->i≠j->C (lt i j) { s with heap:=h }->kas_ask P w A κ vs i j C { s with heap:=h }) (S:SO lt vs.length)
  (fin:∀h p c,Kp a s.heap h->h.get? a=aa (seqObj "list" (vC vs p).toArray c)->PP vs.length p->Vk lt p vs.length->R (.done (.ret .none)) { s with heap:=h }) :
  wpAny (model P w) A (Builtin.«list.sort» ⟨[.ref a],[]⟩) R E s:=by
 have ha:a < s.heap.objs.size:=bY ho
 obtain⟨e1,o1⟩:∃e1,(s.heap.update a (dD λ_=>(#[]:Array af))).get? a=aa (seqObj "list" #[] e1):=⟨_,get?_update_seq ho λ_=>#[]⟩
 have k1:Kp a s.heap (((s.heap.update a (dD λ_=>(#[]:Array af))).push (seqObj "tuple" vs.toArray 0)).push (seqObj "list" #[] 0)):=λb o hb e =>
  bo _ (bo _ ((dN _ _ (cH hb)).trans e))
 have o3:(((s.heap.update a (dD λ_=>(#[]:Array af))).push (seqObj "tuple" vs.toArray 0)).push (seqObj "list" #[] 0)).get? a=aa (seqObj "list" #[] e1):=bo _ (bo _ o1)
 have last:∀out:List af,out.length=vs.length->∃c,((((s.heap.update a (dD λ_=>(#[]:Array af))).push (seqObj "tuple" vs.toArray 0)).push (seqObj "list" #[] 0)).update a (dD λ_=>out.toArray)).get? a=aa (seqObj "list" out.toArray c):=λout _=>⟨_,get?_update_seq o3 λ_=>out.toArray⟩
 have keep2:∀out:List af,Kp a s.heap ((((s.heap.update a (dD λ_=>(#[]:Array af))).push (seqObj "tuple" vs.toArray 0)).push (seqObj "list" #[] 0)).update a (dD λ_=>out.toArray)):=λout b o hb e =>
  (dN _ _ (cH hb)).trans (k1 b o hb e)
 rw[list_sort_plain];refine bi (listItems_at ho rfl ?_)
 refine bi (nZ ho rfl ?_ (by rw[bN,dX];lia) (cp _));refine bi (seqEpoch_at o1 rfl ?_)
 refine bi (wpAny_newTuple ?_ (by show vs.length<=_;rw[dX];lia));refine bi (n9 ?_ (cp _));refine fo ?_
 show wpAny (model P w) A _ R E { s with heap:=((s.heap.update a (dD λ_=>(#[]:Array af))).push (seqObj "tuple" vs.toArray 0)).push (seqObj "list" #[] 0) }
 generalize hH:((s.heap.update a (dD λ_=>(#[]:Array af))).push (seqObj "tuple" vs.toArray 0)).push (seqObj "list" #[] 0)=g at *
 dsimp only
 have up:∀out:List af,out.length=vs.length->∀p,out=vC vs p->PP vs.length p->Vk lt p vs.length->R (.done (.ret .none)) { s with heap:=g.update a (dD λ_=>out.toArray) }:=λout hl p e hp hr=>by
  obtain⟨c,hcc⟩:=last out hl
  refine fin _ p c (keep2 out) ?_ hp hr
  rw[<-e];exact hcc
 by_cases h2:vs.toArray.size < 2
 ·have hl2:vs.length < 2:=by simpa using h2
  rw[ap h2,ap h2];refine bi (bw ?_);rw[StateT.run_pure];refine bi (bw ?_)
  dsimp only
  have ez:((vs.toArray.zip vs.toArray).map (·.2))=vs.toArray:=by
   apply fI.mp
   rw[Array.toList_map,Array.toList_zip]
   simp[List.map_snd_zip]
  refine bi (seqEpoch_at o3 rfl ?_)
  rw[show (arrOf (iV general' (vs.toArray.zip vs.toArray) #[] 7 ai))=vs.toArray.zip vs.toArray from rfl,ez]
  refine bi (nZ o3 rfl ?_ (cp _) (by rw[bN,dX];lia))
  simp only[bne_self_eq_false,cG,if_false]
  exact bw (up vs rfl _ (K7 vs).symm (pi _) λi j hij hj=>by lia)
 ·have hl2:2<=vs.length:=by simpa using h2
  rw[ak h2,ak h2];refine bi (dh (hk hl2 g (λκ' s'=>κ'=κ/\s'={ s with heap:=g }) k1 ⟨rfl,rfl⟩) (λκ' s' hs=>?_) λ_ _ x=>x.elim)
  obtain⟨rfl,rfl⟩:=hs
  refine bi (dh (zfn (s:={ s with heap:=g }) (vs:=vs) (κ:=κ') (lt:=lt) (Q:=λst s'=>∃p:Array Nat,arrOf st=p.map (kas_item (vs.toArray.zip vs.toArray))/\failedOf st=ai/\s'={ s with heap:=g }/\PP vs.length p/\Vk lt p vs.length) (by lia) S (λi j C hi hj hij hC=>hc g i j C k1 hi hj hij hC) λp st a2 a3 a4 a5=>⟨p,a2,a3,rfl,a4,a5⟩) ?_ λ_ _ e=>e)
  rintro⟨⟨⟩,st⟩ s' ⟨p,har,hf,rfl,hp,hr⟩
  dsimp only
  have out:=kat_snds (ks:=vs) rfl har
  have ol:(vC vs p).length=vs.length:=by unfold vC;rw[bu,cy,hp.size]
  rw[out];refine bi (seqEpoch_at o3 rfl ?_)
  refine bi (nZ o3 rfl ?_ (cp _) (by show (oM (vC vs p)).size<=_;rw[bN,ol,dX];lia));rw[hf]
  simp only[bne_self_eq_false,cG,if_false]
  exact bw (up (vC vs p) ol p rfl hp hr)
theorem Xi{l:ag}{vs:List af}{κ:SortKind}{lt:Nat->Nat->Bool}{Q:af->aj->Prop}(h64:vs.length < 1000)(S:SO lt vs.length)
  (coll:∀R:List af->aj->Prop,(∀(h:aw) (tk:Nat),(∀b o,s.heap.get? b=aa o->h.get? b=aa o)->R vs { s with heap:=h,toks:=tk })->wpAny (model P w) A.in1 (collect (.ref l)) R E s)
  (hk:2<=vs.length->∀(h:aw) (tk:Nat) (Q:SortKind->aj->Prop),(∀b o,s.heap.get? b=aa o->h.get? b=aa o)->Q κ { s with heap:=h,toks:=tk }->wpAny (model P w) A.in1.in1 (keyKind' vs.toArray) Q (λ_ _=>False) { s with heap:=h,toks:=tk })
  (hc:∀(h:aw) (tk:Nat) i j C,(∀b o,s.heap.get? b=aa o->h.get? b=aa o)->i < vs.length->j < vs.length->i≠j->C (lt i j) { s with heap:=h,toks:=tk }->kas_ask P w A.in1.in1 κ vs i j C { s with heap:=h,toks:=tk })
  (fin:∀(h:aw) (tk:Nat) (h':aw) (p:Array Nat) (c:Nat),(∀b o,s.heap.get? b=aa o->h.get? b=aa o)->(∀b o,h.get? b=aa o->h'.get? b=aa o)->h'.get? h.objs.size=aa (seqObj "list" (vC vs p).toArray c)->PP vs.length p->Vk lt p vs.length->Q (.ref h.objs.size) { s with heap:=h',toks:=tk }) :
  wpAny (model P w) A (call (.builtin "sorted") [.ref l]) Q E s:=by
 refine lW kind_sorted plain_sorted entry_sorted (args_sorted1 _) ?_;unfold Builtin.«sorted»
 refine bi (m:=checkCount "sorted" 1 1 _) (bw ?_);refine bi (coll _ λh tk hk1=>?_)
 refine bi (n9 ?_ (by rw[dX];lia))
 have hoL:(h.push (seqObj "list" vs.toArray 0)).get? h.objs.size=aa (seqObj "list" vs.toArray 0):=bH _ rfl
 have kept:∀h',Kp h.objs.size (h.push (seqObj "list" vs.toArray 0)) h'->∀b o,h.get? b=aa o->h'.get? b=aa o:=λh' k b o e=>k b o (cz (bY e)) (bo _ e)
 refine bi (fo (dL slot_list_sort ⟨_,hoL,rfl⟩ entry_list_sort (Ww (s:={ s with heap:=h.push (seqObj "list" vs.toArray 0),toks:=tk }) hoL h64 (κ:=κ) (lt:=lt) (λh2 h' Q' k q=>?_) (λh' i j C k hi hj hij q=>?_) S λh' p c k ho hp hr=>?_) (args_list_sort _)))
 ·exact hk h2 h' tk Q' (λb o e=>kept h' k b o (hk1 b o e)) q
 ·exact hc h' tk i j C (λb o e=>kept h' k b o (hk1 b o e)) hi hj hij q
 ·exact⟨_,rfl,bw ⟨_,rfl,fin h tk h' p c hk1 (kept h' k) ho hp hr⟩⟩
end
def yf(a b:Str × Int):Bool:=if a.1=b.1 then decide (a.2 < b.2) else decide (a.1.cps.toList < b.1.cps.toList)
def PlAt(h:aw)(v:af)(q:Str × Int):Prop:=∃a o t u n,v=.ref a/\h.get? a=aa o/\o.cls=.type "tuple"/\o.data=.seq #[.str q.1 t,.int q.2 u] n
section
variable {P:aq}{w:au}{A:av}{E:af->aj->Prop}{s:aj}
theorem zfo{Q:Bool->aj->Prop}(h:Q (decide (a.cps.toList < c.cps.toList)) s):wpAny (model P w) A (oneLt' ae (.str a t) (.str c u)) Q E s:=by
 rw[<-keyLt'_oneType]
 exact kas_lt_str h
theorem zfp{a c:Int}{Q:Bool->aj->Prop}(h:Q (decide (a < c)) s):wpAny (model P w) A (oneLt' ao (.int a t) (.int c u)) Q E s:=
 kat_one _ _ (nI (show W.BoolBack Q (.bool (decide (a < c))) s from h))
theorem zcm{a b:Str × Int}{Q:Bool->aj->Prop}(hx:PlAt s.heap x a)(hy:PlAt s.heap y b)(h:Q (yf a b) s)(hn:a≠b):wpAny (model P w) A (keyLt' (tuples' ae) x y) Q E s:=by
 obtain⟨p,o,t,u,n,rfl,ho,hc,hd⟩:=hx
 obtain⟨p2,o2,t2,u2,n2,rfl,ho2,hc2,hd2⟩:=hy
 refine kat_lt ho hd ho2 hd2 (kat_cons (wpAny_eqBool_str (kat_go (λe=>kat_yes (kat_cons (wpAny_eqBool_int (kat_go (λe2=>?_) λe2=>kat_no ?_)))) λe=>kat_no ?_)))
 ·exact absurd (pG (of_decide_eq_true e) (by simpa using e2)) hn
 ·have e:=of_decide_eq_true e
  unfold yf at h
  rw[ap e] at h
  exact zfp h
 ·have e:=of_decide_eq_false e
  unfold yf at h
  rw[ak e] at h
  exact zfo h
theorem zax{vs:List af}{qs:List (Str × Int)}{Q:SortKind->aj->Prop}(hl:vs.length=qs.length)(hv:∀(i:Nat) (v:af) (q:Str × Int),vs[i]?=aa v->qs[i]?=aa q->PlAt s.heap v q)(h2:0 < vs.length)(h:Q (tuples' ae) s) :
  wpAny (model P w) A (keyKind' vs.toArray) Q E s:=by
 have T:∀(vs:List af) (qs:List (Str × Int)),vs.length=qs.length->(∀(i:Nat) (v:af) (q:Str × Int),vs[i]?=aa v->qs[i]?=aa q->PlAt s.heap v q)->∃fs,KatTups s.heap vs fs/\fs.length=vs.length/\∀v∈fs,∃x t,v=iW x t:=by
  intro vs
  induction vs with
  | nil=>exact λqs _ _=>⟨[],trivial,rfl,λ_ z=>nomatch z⟩
  | cons v r ih =>
   intro qs hl hv
   match qs,hl with
   | q :: qr,hl =>
    obtain⟨fs,k,kl,kf⟩:=ih qr (by simpa using hl) λi v' q' e1 e2=>hv (i + 1) v' q' (by simpa using e1) (by simpa using e2)
    obtain⟨a,o,t,u,n,rfl,ho,hc,hd⟩:=hv 0 v q rfl rfl
    refine⟨.str q.1 t :: fs,pK ho hc hd rfl k,by simp[kl],λz hz=>?_⟩
    rcases bS.mp hz with rfl | hz
    ·exact⟨_,_,rfl⟩
    ·exact kf z hz
 obtain⟨fs,k,kl,kf⟩:=T vs qs hl hv
 refine kat_kind (T:=.type "str") k (by lia) (λv hv=>?_) (by decide) h
 obtain⟨x,t,rfl⟩:=kf v hv
 exact Looks.of_pure rfl
end
theorem K8{x y:Str}(h:x.cps.toList=y.cps.toList):x=y:=by
 obtain⟨a⟩:=x
 obtain⟨b⟩:=y
 have:a=b:=fI.mp h
 rw[this]
theorem Wx{qs:List (Str × Int)}(hn:qs.Nodup):SO (λi j=>yf (qs.getD i ("",0)) (qs.getD j ("",0))) qs.length where
 irr:=λi _=>by
  unfold yf
  rw[ap rfl]
  exact decide_eq_false (by lia)
 trans:=λi j k _ _ _ h1 h2=>by
  generalize qs.getD i ("",0)=a at *
  generalize qs.getD j ("",0)=b at *
  generalize qs.getD k ("",0)=c at *
  unfold yf at *
  by_cases e1:a.1=b.1
  ·rw[ap e1] at h1
   by_cases e2:b.1=c.1
   ·rw[ap e2] at h2
    rw[ap (e1.trans e2)]
    have h1:=of_decide_eq_true h1
    have h2:=of_decide_eq_true h2
    exact decide_eq_true (by lia)
   ·rw[ak e2] at h2
    rw[ak (by rw[e1];exact e2),e1]
    exact h2
  ·rw[ak e1] at h1
   have h1:=of_decide_eq_true h1
   by_cases e2:b.1=c.1
   ·rw[ak (by rw[<-e2];exact e1),<-e2]
    exact decide_eq_true h1
   ·rw[ak e2] at h2
    have h2:=of_decide_eq_true h2
    have h3:=List.lt_trans h1 h2
    rw[ak (λz=>by rw[z] at h3;exact List.lt_irrefl _ h3)]
    exact decide_eq_true h3
 tot:=λi j hi hj hij h=>by
  have ne:qs.getD i ("",0)≠qs.getD j ("",0):=λz=>hij (by
   rw[bh,bh,ba hi,ba hj] at z
   exact(fD hn).mp z)
  generalize qs.getD i ("",0)=a at *
  generalize qs.getD j ("",0)=b at *
  unfold yf at *
  by_cases e:a.1=b.1
  ·rw[ap e] at h
   rw[ap e.symm]
   have h:=of_decide_eq_false h
   have:a.2≠b.2:=λz=>ne (pG e z)
   exact decide_eq_true (by lia)
  ·rw[ak e] at h
   rw[ak (λz=>e z.symm)]
   have h:=of_decide_eq_false h
   refine decide_eq_true ?_
   rcases List.le_iff_lt_or_eq.mp (List.not_lt.mp h) with z | z
   ·exact z
   ·exact absurd (K8 z.symm) e
end L2
namespace L2
open PySem
def RawD(h:aw)(d:ag)(es:Array DictEntry)(ep:Nat):Prop:=∃o,h.get? d=aa o/\o.ExactDict/\o.data=.dict es ep
section
variable {P:aq}{w:au}{A:av}{E:af->aj->Prop}{s:aj}
theorem RawD.type(x:RawD s.heap d es ep):s.TypeIs (.ref d) "dict":=let ⟨o,ho,hc,_⟩:=x;⟨o,ho,hc.1⟩
theorem RawD.at(x:RawD h d es ep)(e:∀o,h.get? d=aa o->h'.get? d=aa o):RawD h' d es ep:=let ⟨o,ho,r⟩:=x;⟨o,e _ ho,r⟩
theorem zdC{Q:af->aj->Prop}(lo:(d == sysModules)=ao)(hm:RawD s.heap d es ep)
  (q:Q (.ref s.heap.objs.size) { s with heap:=s.heap.push { cls:=.type "dict_keyiterator",data:=.fields #[.ref d,.int 0 0,.int es.size 0,.int ep 0] } }):wpAny (model P w) A (pyIter (.ref d)) Q E s:=by
 have T:=hm.type
 obtain⟨o,ho,hc,hd⟩:=id hm
 refine wpAny_pyIter_slot T F.slot_dict_iter (dL F.slot_dict_iter T F.entry_dict_iter ?_ (F.args_dict_iter_1 _));unfold Builtin.«dict.__iter__»
 refine bi ?_;unfold Builtin.Dict.dictSlotNone;refine bi (iC T ?_)
 show wpAny _ _ (pure (bV d)) _ _ s;refine bw ?_
 show wpAny _ _ (fY d >>= _) _ _ s;unfold fY
 rw[ak (by rw[lo];exact bO)];refine bi (bw ?_)
 refine bi (e9 ho hd ?_);refine bi (fZ ho hd ?_)
 refine bi (dv (bw ⟨_,rfl,"dict_keyiterator",_,⟨_,bH _ rfl,rfl⟩,F.slot_dict_keyiterator_next.lookup,?_⟩));simpa[rawInt] using q
theorem zdD{Q:Option af->aj->Prop}(hit:s.heap.IsKeyIter it d i es.size ep)(hm:RawD s.heap d es ep)(hx:es[i]?=aa e)
  (q:∀h,h.IsKeyIter it d (i + 1) es.size ep->dA it s.heap h->Q (aa e.key) { s with heap:=h }):wpAny (model P w) A (pyNext (.ref it)) Q E s:=by
 obtain⟨o,ho,hc,hd⟩:=id hit
 obtain⟨od,hod,hcd,hdd⟩:=id hm
 have lt:i < es.size:=by
  rcases Nat.lt_or_ge i es.size with h | h
  ·exact h
  ·rw[gS h] at hx;cases hx
 unfold pyNext
 refine bi (iS (fq (name:=bg "__next__") hit.typeIs et (dL et hit.typeIs iM ?_ (iD _))))
 refine bi (bw ?_);refine bi ?_;refine bi ?_
 first | (refine bi (dZ hit.typeIs (bw ?_))) | (refine bi (fb hit.typeIs (bw ?_)))
 refine bi (lX ho hd ?_);have own:dH "dict_keyiterator"=ao:=by decide
 simp only[own,cG,if_false];show wpAny _ _ (if (bV d == cM)=ae then _ else _) _ _ s
 rw[ak (show ¬ ((bV d == cM)=ae) from bO)];refine bi (bw ?_);refine bi (e9 hod hdd ?_)
 rw[ak (by simp)];refine bi (bw ?_);refine bi (fZ hod hdd ?_);rw[ak (by simp)];refine bw ?_
 simp only[show ¬ ((i:Int) < 0) from by lia,if_false,eY,hx]
 refine bi ?_
 first | (refine bi (dZ hit.typeIs (bw ?_))) | (refine bi (fb hit.typeIs (bw ?_)))
 refine bi (m6 hit.typeIs ?_);show wpAny _ _ (setField (.ref it) 1 (rawInt ((i:Int) + 1)) >>= _) _ _ s
 refine bi (nG ho hd (by simp) ?_)
 have next:(s.heap.update it (Obj.mapFields (·.setIfInBounds 1 (rawInt ((i:Int) + 1))))).IsKeyIter it d (i + 1) es.size ep:=by
  refine⟨_,iE _ ho (Obj.isFreed_of_fields (og hd _)),(Obj.cls_mapFields ..).trans hc,?_⟩;rw[og hd];simp[rawInt]
 refine bi (fo ?_)
 refine bi (m6 (s:={ s with heap:=s.heap.update it (Obj.mapFields (·.setIfInBounds 1 (rawInt ((i:Int) + 1)))) }) next.typeIs ?_);show wpAny _ _ (pure e.key) _ _ _
 exact bw (bw ⟨_,rfl,bw (q _ next (ll ..))⟩)
theorem zfq{Q:Option af->aj->Prop}(hh:A.handled=ai)(hit:s.heap.IsKeyIter it d i es.size ep)(hm:RawD s.heap d es ep)(hx:es.size<=i)
  (q:∀h,Heap.ExtBut it s.heap h->Q ai { s with heap:=h }):wpAny (model P w) A (pyNext (.ref it)) Q E s:=by
 obtain⟨o,ho,hc,hd⟩:=id hit
 obtain⟨od,hod,hcd,hdd⟩:=id hm
 unfold pyNext
 refine bi (iS (fq (name:=bg "__next__") hit.typeIs et (dL et hit.typeIs iM ?_ (iD _))))
 refine bi (bw ?_);refine bi ?_;refine bi ?_
 first | (refine bi (dZ hit.typeIs (bw ?_))) | (refine bi (fb hit.typeIs (bw ?_)))
 refine bi (lX ho hd ?_);have own:dH "dict_keyiterator"=ao:=by decide
 simp only[own,cG,if_false];show wpAny _ _ (if (bV d == cM)=ae then _ else _) _ _ s
 rw[ak (show ¬ ((bV d == cM)=ae) from bO)];refine bi (bw ?_);refine bi (e9 hod hdd ?_)
 rw[ak (by simp)];refine bi (bw ?_);refine bi (fZ hod hdd ?_);rw[ak (by simp)];refine bw ?_
 simp only[show ¬ ((i:Int) < 0) from by lia,if_false,eY,gS hx]
 refine bi ?_
 first | (refine bi (dZ hit.typeIs (bw ?_))) | (refine bi (fb hit.typeIs (bw ?_)))
 show wpAny _ _ (setField (.ref it) 0 .none >>= _) _ _ s;refine bi (nG ho hd (by simp) ?_)
 show wpAny _ _ (newExc (.type "StopIteration") [] >>= _) _ _ _;refine bi ?_;simp only[newExc,newTuple]
 refine bi (dv ?_ (by size_fits));refine bi (m:=firstArgMember _ _) (wpAny_of_eq (a:=cM) (by first | rfl | (simp only[firstArgMember];rfl)) ?_)
 refine dv ?_ (by size_fits);simp only[raiseNew]
 refine bi (wpAny_handled ?_);rw[show A.in1.handled=ai from hh];refine bi (bw (wpAny_throw ?_))
 exact bi (wpAny_isInstance (T:="StopIteration") (b:=ae) ⟨_,bH _ rfl,rfl⟩ isSubtype_stop (bw (q _ (((ll ..).extBut.push _).push _))))
theorem zcn(hh:A.handled=ai)(I d:ag)(hne:d≠I)(es:Array DictEntry)(ep:Nat) :
  Walks P w A I [I,d] [I] es.size (λi v=>∃e,es[i]?=aa e/\v=e.key) (λi h=>h.IsKeyIter I d i es.size ep/\RawD h d es ep) where
 sub:=λb hb=>by simp at hb;simp[hb]
 frame:=λ_ _ _ st hk=>⟨st.1.at λo e=>hk I (by simp) o e,st.2.at λo e=>hk d (by simp) o e⟩
 item:=λi s Q E hi st hQ=>by
  refine zdD st.1 st.2 (cF hi) λh' hit' hs'=>?_
  exact hQ _ h' s.toks ⟨_,cF hi,rfl⟩ ⟨hit',st.2.at λo e=>hs'.extBut d o hne e⟩ λb o hb e=>hs'.extBut b o (λh=>hb (by simp[h])) e
 done:=λs Q E st hQ=>zfq hh st.1 st.2 (bq _) λh' he'=>hQ h' s.toks λb o hb e=>he' b o (λh=>hb (by simp[h])) e
 self:=λ_ _ _ _ st hQ=>wpAny_pyIter_keyiter st.1 hQ
end
end L2
namespace L2
open PySem PySem.Spec PyProof.Rows
section
open PySem.SeqAt
open PySem.AutoSeq1 (wpAny_loadPart')
open PySem.MeetsSeq PySem.MeetsSeq2 PySem.MeetsSeq3
theorem Wy(l b:ag)(x y:Str)(i j:Int)(t u t2 u2:Tok)(n n2:Nat)(dd dd2:Option ag)(sl sl2:Array (Option af)) :
  Meets (Builtin.«tuple.__lt__» ⟨[.ref l,.ref b],[]⟩) (λ_ R s=>s.heap.get? l=aa { cls:=.type "tuple",dict:=dd,data:=.seq #[.str x t,.int i u] n,slots:=sl } /\
   s.heap.get? b=aa { cls:=.type "tuple",dict:=dd2,data:=.seq #[.str y t2,.int j u2] n2,slots:=sl2 }/\R (.ok (.ret (.bool (yf (x,i) (y,j))))) s) :=
 .of_wp λprog w A R s h=>by
  obtain⟨hp,g,d,tk,os⟩:=s;obtain⟨hl,hb,h⟩:=h
  have f2:=AutoSeq1.sub_tuple_tuple
  have lt1:∀(E:af->aj->Prop) (Q:af->aj->Prop) (s:aj),Q (.bool (decide (x.cps.toList < y.cps.toList))) s->wpAny (model prog w) A.in1 (richCompare .Lt (.str x t) (.str y t2)) Q E s:=λE Q s q=>(PyProof.Rows.lt_str q:wpAny (model prog w) A.in1 (compareOp .Lt (.str x t) (.str y t2)) Q E s)
  have lt2:=HT.rcLt_int A.in1 ⟨hp,g,d,tk,os⟩ i u j u2 prog w
  by_cases e:x=y
  ·subst e
   have eq1:=lQ (A:=A.in1) (s:=⟨hp,g,d,tk,os⟩) x t x t2 prog w
   rw[beq_self_eq_true] at eq1
   unfold yf at h
   rw[ap rfl] at h
   by_cases e2:i=j
   ·subst e2
    have eq2:=lP (A:=A.in1) (s:=⟨hp,g,d,tk,os⟩) i u i u2 prog w
    rw[beq_self_eq_true] at eq2
    wp_walk using gc hl,gc hb,eq1,eq2
    exact⟨_,rfl,by simpa[Builtin.Tuple.tupleCompareSizes] using h⟩
   ·have eq2:=lP (A:=A.in1) (s:=⟨hp,g,d,tk,os⟩) i u j u2 prog w
    rw[show (i == j)=ao from by simpa using e2] at eq2
    wp_walk using gc hl,gc hb,eq1,eq2,lt2
    exact⟨_,rfl,by simpa using h⟩
  ·have eq1:=lQ (A:=A.in1) (s:=⟨hp,g,d,tk,os⟩) x t y t2 prog w
   rw[show (x == y)=ao from by simpa using e] at eq1
   unfold yf at h
   rw[ak e] at h
   wp_walk using gc hl,gc hb,eq1,lt1
   exact⟨_,rfl,by simpa using h⟩
end
section
variable {P:aq}{w:au}{A:av}{E:af->aj->Prop}{s:aj}
theorem RawD.lt(x:RawD h d es ep):d < h.objs.size:=let ⟨_,ho,_⟩:=x;bY ho
theorem zfr{d:ag}{es:Array DictEntry}{ep:Nat}(lo:(d == sysModules)=ao):W.KdlSrc P w "dict" d d es.size (λi v=>∃e,es[i]?=aa e/\v=e.key) (λh=>RawD h d es ep) where
 type:=λ_ hm=>hm.type
 there:=λ_ hm=>⟨hm.lt,hm.lt⟩
 keep:=λ_ _ hm hk=>hm.at λo e=>hk d (.inl rfl) o e
 notList:=by decide
 notTuple:=by decide
 hint:=λ_ _ _ _ hm hq=>W.kdl_hint_dict hm.type hq
 iter:=λ_ _ hh hm=>⟨_,_,(λ_ _ hq=>zdC lo hm hq),zcn hh _ d (cz hm.lt) es ep,⟨⟨_,bH _ rfl,rfl,rfl⟩,hm.at λo e=>bo _ e⟩⟩
theorem K9{G:Nat->af->Prop}{OK:aw->Prop}{R:List af->aj->Prop}(K:W.KdlSrc P w T r d n G OK)(hh:A.handled=ai)(hok:OK s.heap)(hn:n<=sizeLine)
  (h:∀(h':aw) (tk:Nat) (vs:List af),(∀b o,s.heap.get? b=aa o->h'.get? b=aa o)->vs.length=n->(∀j v,vs[j]?=aa v->G j v)->R vs { s with heap:=h',toks:=tk }) :
  wpAny (model P w) A (collect (.ref r)) R E s:=by
 obtain⟨lr,ld⟩:=K.there _ hok
 unfold collect
 refine bi (wpAny_runValue (eJ nE ?_));rw[dw lq _]
 show wpAny _ A.in1 (newList [] >>= λl=>again (.builtin "list.__iadd__" ⟨[l,.ref r],[]⟩)) _ _ s;refine bi (dv ?_)
 refine bw ⟨gq fu _,eJ entry_list_iadd' ?_⟩;rw[dw fu _]
 have hS:(s.heap.push { cls:=.type "list",data:=.seq ([]:List af).toArray }).get? s.heap.objs.size=aa { cls:=.type "list",data:=.seq #[] }:=bH _ rfl
 show wpAny _ A.in1 (dq (.ref s.heap.objs.size) (.ref r) (.ref s.heap.objs.size)) _ _ _
 have key:=W.kdl_extend (A:=A) (s:={ s with heap:=s.heap.push { cls:=.type "list",data:=.seq ([]:List af).toArray } }) (R:=λ(q:aA) (s':aj)=>∃(h':aw) (tk:Nat) (acc:Array af) (c:Nat),q=.ok (.ret (.ref s.heap.objs.size))/\s'={ s with heap:=h',toks:=tk } /\
   (∀b o,s.heap.get? b=aa o->h'.get? b=aa o)/\h'.get? s.heap.objs.size=aa { cls:=.type "list",dict:=ai,data:=.seq acc c,slots:=#[] }/\ItemsOf G acc n) K hh (K.keep _ _ hok λb _ o e=>bo _ e) s.heap.objs.size (eL lr) (eL ld) (.ref s.heap.objs.size) 0 hS
  (λh' tk acc c hk hS' hacc=>⟨h',tk,acc,c,rfl,rfl,λb o e=>hk b o (cz (bY e)) (bo _ e),hS',hacc⟩) hn
 refine dh key (λfin s' x=>?_) λe s' x=>?_
 ·cases fin with
  | done f =>
   obtain⟨h',tk,acc,c,e,rfl,hk,hS',hacc⟩:=x
   cases e
   show wpAny _ A (load s.heap.objs.size >>= _) _ _ _;refine bi (nr hS' ?_)
   exact bw (h h' tk acc.toList hk (by rw[cy];exact hacc.1) λj v e=>hacc.2 j v (by rw[<-dF];exact e))
  | again c =>
   refine⟨x.1,eN x.2 λq s' x=>?_⟩
   obtain⟨h',tk,acc,c,rfl,rfl,hk,hS',hacc⟩:=x
   show wpAny _ A (load s.heap.objs.size >>= _) _ _ _;refine bi (nr hS' ?_)
   exact bw (h h' tk acc.toList hk (by rw[cy];exact hacc.1) λj v e=>hacc.2 j v (by rw[<-dF];exact e))
 ·obtain⟨h',tk,acc,c,e',_⟩:=x
  cases e'
end
def zI(q:Str × Int):List Key:=[.inr q.1,.inl q.2]
abbrev zdE:RC:=λxs H Q=>∃(a:ag) (kvs:List (List Key × V)) (qs:List (Str × Int)),xs=[.ref a]/\H a=aa (.dT kvs)/\kvs.map (·.1)=qs.map zI/\kvs.length < 1000 /\
 ∀(l:ag) (ps:List (ag × (Str × Int))),H l=ai->(ps.map (·.2)).Perm qs->(ps.map (·.2)).Pairwise (λa b=>yf a b=ae)->(∀n∈ps,H n.1=aa (.tup [.str n.2.1,.int n.2.2]))->Q (.ref l) (upd H l (.lst (ps.map λn=>V.ref n.1)))
theorem yo{α β:Type}{F:α->β->Prop}:∀ {l₁:List α} {l₂:List β},Paired F l₁ l₂->∀ {i:Nat} {a:α} {b:β},l₁[i]?=aa a->l₂[i]?=aa b->F a b
 | _,_,.nil,i,a,b,h,_=>by simp at h
 | _,_,.cons x r,0,a,b,h1,h2=>by
  simp only[bb,bj] at h1 h2
  subst h1 h2
  exact x
 | _,_,.cons x r,i + 1,a,b,h1,h2=>yo r (by simpa using h1) (by simpa using h2)
theorem PlAt.keep{q:Str × Int}(x:PlAt h v q)(k:∀b o,h.get? b=aa o->h'.get? b=aa o):PlAt h' v q:=by
 obtain⟨a,o,t,u,n,e,ho,r⟩:=x
 exact⟨a,o,t,u,n,e,k _ _ ho,r⟩
section
variable {X:Cx}
theorem Qa{σ:St}{H:Hp}{s:aj}{a:ag}{q:Str × Int}(I:Inv X pins σ H s)(h:H a=aa (.tup [.str q.1,.int q.2])):PlAt s.heap (.ref a) q:=by
 obtain⟨its,rv,⟨o,ho,hc,n,hd⟩,_⟩:=I.tuple (SqT.of h)
 cases rv with
 | cons r1 rr =>
  cases rr with
  | cons r2 rn =>
   cases rn
   obtain⟨t,rfl⟩:=r1
   obtain⟨u,rfl⟩:=r2
   exact⟨a,o,t,u,n,rfl,ho,hc,hd⟩
theorem wR{α β:Type}{f:α->β}:∀ {l:List α},(l.map f).Nodup->l.Nodup
 | [],_=>lU
 | a :: r,h=>by
  rw[b7,dk] at h
  exact dk.mpr ⟨λz=>h.1 (dt z),wR h.2⟩
theorem JQ(hc:X.calm=ae):kQ X (.builtin "sorted") zdE:=by
 intro pins s σ H xs us Q I r h
 obtain⟨a,kvs,qs,rfl,ha,hk,h64,q⟩:=h
 obtain⟨u,rfl,ru⟩:=Zr r
 cases ru
 obtain⟨hz,lo,xs,rel,o,es,ep,ho,hx,hd,he,hn⟩:=(show ObjOk X.prog X.w H s.heap a (.dT kvs) from I.hok a _ ha)
 have hh:X.A.handled=ai:=I.ok.hd hc
 have lk:kvs.length=qs.length:=by have:=congrArg bJ hk;simpa using this
 have lx:kvs.length=xs.length:=bM rel
 have les:es.size=xs.length:=by rw[<-cy,he,bu]
 -- the keys in their order
 have key:∀(i:Nat) (x:List Key × ag × af),xs[i]?=aa x->∃q,qs[i]?=aa q/\x.1=zI q/\H x.2.1=aa (.tup [.str q.1,.int q.2]):=λi x hx=>by
  have hi:=(bn.mp hx).1
  obtain⟨kv,hkv⟩:∃kv,kvs[i]?=aa kv:=⟨_,ba (by lia)⟩
  obtain⟨q,hq⟩:∃q,qs[i]?=aa q:=⟨_,ba (by lia)⟩
  have rl:=yo rel hkv hx
  have e1:kv.1=zI q:=by
   have e1:(kvs.map (·.1))[i]?=aa kv.1:=by rw[bW,hkv];rfl
   have e2:(qs.map zI)[i]?=aa (zI q):=by rw[bW,hq];rfl
   rw[hk,e2] at e1
   exact(ck e1).symm
  refine⟨q,hq,by rw[<-rl.1,e1],?_⟩
  have:=rl.2.1
  rw[e1] at this
  exact this
 have nq:qs.Nodup:=by
  refine wR (f:=zI) ?_
  have e:xs.map (·.1)=qs.map zI:=by
   rw[<-hk]
   apply eZ
   intro i
   rw[bW,bW]
   cases hx:xs[i]? with
   | none =>
    have:xs.length<=i:=by simpa using hx
    rw[cR (by lia:kvs.length<=i)]
    rfl
   | some x =>
    have hi:=(bn.mp hx).1
    have hkv:kvs[i]?=aa kvs[i]:=ba (by lia)
    rw[hkv]
    have:=(yo rel hkv hx).1
    simp[this]
  rw[<-e];exact hn
 have vv:∀(i:Nat) (v:af) (q:Str × Int),(xs.map λx=>bV x.2.1)[i]?=aa v->qs[i]?=aa q->PlAt s.heap v q:=λi v q hv hq=>by
  rw[bW] at hv
  obtain⟨x,hx,rfl⟩:=dy.mp hv
  obtain⟨q',hq',_,hH⟩:=key i x hx
  rw[hq] at hq'
  cases hq'
  exact Qa I hH
 have lv:(xs.map λx=>bV x.2.1).length=qs.length:=by rw[bu];lia
 have vat:∀i,i < qs.length->PlAt s.heap ((xs.map λx=>bV x.2.1).getD i cM) (qs.getD i ("",0)):=λi hi=>by
  refine vv i _ _ ?_ ?_
  ·rw[bh,ba (by rw[lv];exact hi)];rfl
  ·rw[bh,ba hi];rfl
 have S:=Wx nq
 rw[<-lv] at S
 refine Xi (vs:=xs.map λx=>bV x.2.1) (κ:=tuples' ae) (by rw[bu];lia) S (λR hR=>?_) (λh2 h tk Q' kp q'=>?_) (λh tk i j C kp hi hj hij q'=>?_) λh tk h' p c k1 k2 hD hp hr=>?_
 ·refine K9 (zfr (ep:=ep) (es:=es) lo) hh ⟨o,ho,hx,hd⟩ (by rw[les];lia) λh' tk vs kp hl hG=>?_
  have ev:vs=xs.map λx=>bV x.2.1:=by
   apply eZ
   intro i
   by_cases hi:i < vs.length
   ·obtain⟨e,hes,ek⟩:=hG i vs[i] (ba hi)
    have e2:es.toList[i]?=aa e:=by rw[dF];exact hes
    rw[he,bW] at e2
    obtain⟨x,hxx,ex⟩:=dy.mp e2
    rw[ba hi,ek,bW,hxx,<-ex]
    rfl
   ·rw[cR (by lia),cR (by rw[bu];lia)]
  rw[ev]
  exact hR h' tk kp
 ·exact zax (s:={ s with heap:=h,toks:=tk }) lv (λi v q hv hq=>(vv i v q hv hq).keep kp) (by lia) q'
 ·rw[lv] at hi hj
  refine zcm (s:={ s with heap:=h,toks:=tk }) ((vat i hi).keep kp) ((vat j hj).keep kp) q' λz=>hij ?_
  rw[bh,bh,ba hi,ba hj] at z
  exact(fD nq).mp z
 ·have I1:Inv X pins σ H { s with heap:=h,toks:=tk }:=I.kept k1
  have ps:∃ps:List (ag × (Str × Int)),ps.map (λn=>bV n.1)=vC (xs.map λx=>bV x.2.1) p/\ps.map (·.2)=p.toList.map (λi=>qs.getD i ("",0))/\∀n∈ps,H n.1=aa (.tup [.str n.2.1,.int n.2.2]):=by
   have pl:∀i∈p.toList,i < xs.length:=λi hi=>by
    have:i∈p:=by simpa using hi
    have:=(nX hp).mp this
    rw[bu] at this
    simpa using this
   refine⟨p.toList.map λi=>((xs.getD i ([],0,.none)).2.1,qs.getD i ("",0)),?_,by rw[dR];rfl,λn hn=>?_⟩
   ·unfold vC
    rw[dR]
    refine eG λi hi=>?_
    have:=pl i hi
    simp[bh,bW,ba this]
   ·obtain⟨i,hi,rfl⟩:=cj.mp hn
    have hl:=pl i hi
    obtain⟨q,hq,_,hH⟩:=key i xs[i] (ba hl)
    have e1:xs.getD i ([],0,.none)=xs[i]:=by rw[bh,ba hl];rfl
    have e2:qs.getD i ("",0)=q:=by rw[bh,hq];rfl
    show H (xs.getD i ([],0,.none)).2.1=aa (.tup [.str (qs.getD i ("",0)).1,.int (qs.getD i ("",0)).2])
    rw[e1,e2]
    exact hH
  obtain⟨ps,e1,e2,hps⟩:=ps
  have vr:Vals (ps.map λn=>V.ref n.1) (ps.map λn=>bV n.1):=by
   clear e1 e2 hps
   induction ps with
   | nil=>exact .nil
   | cons n r ih=>exact .cons rfl ih
  have psz:p.size=xs.length:=by have:=hp.size;rw[bu] at this;exact this
  have pln:ps.length=xs.length:=by have:=congrArg bJ e1;unfold vC at this;simpa[psz] using this
  have I2:Inv X pins σ (upd H h.objs.size (.lst (ps.map λn=>V.ref n.1))) { s with heap:=h',toks:=tk }:=I1.laid (s:={ s with heap:=h,toks:=tk }) (a:=h.objs.size) (o:=.lst (ps.map λn=>V.ref n.1)) (t':=tk) k2 (bq _)
   ⟨by rw[bu];lia,ps.map λn=>bV n.1,c,vr,by rw[e1];exact hD⟩
  refine⟨.ref h.objs.size,_,I2,rfl,q _ ps (I1.hok.fresh (bq _)) ?_ ?_ hps⟩
  ·rw[e2]
   have pr:p.toList.Perm (bI qs.length):=by
    have:=gv.mp hp
    rw[lv] at this
    simpa using this
   refine(pr.map _).trans ?_
   have:(bI qs.length).map (λi=>qs.getD i ("",0))=qs:=by
    apply eZ
    intro i
    rw[bW]
    by_cases hi:i < qs.length
    ·rw[fm hi,ba hi]
     simp[bh,ba hi]
    ·rw[cR (by simpa using hi),cR (by lia)]
     rfl
   rw[this]
  ·rw[e2,fc,c9]
   intro i j hi hj hij
   rw[cy] at hi hj
   have g1:=wZ hi
   have g2:=wZ hj
   have r:=hr i j hij (by rw[bu];lia)
   have x1:p.toList[i]=gt p i:=by
    rw[cF hi] at g1
    simpa using g1
   have x2:p.toList[j]=gt p j:=by
    rw[cF hj] at g2
    simpa using g2
   rw[x1,x2]
   exact r
end
mutual
inductive Dat (K:bz) (H:Hp):V->PyData->Prop
 | non:Dat K H .non .none
 | bl (b:Bool):Dat K H (.bl b) (.bool b)
 | int (i:Int):Dat K H (.int i) (.int i)
 | str (x:Str):Dat K H (.str x) (.str x)
 | lst {a:ag} {xs:List V} {ds:List PyData}:SqL K H a xs->DatAll K H xs ds->Dat K H (.ref a) (.list ds)
 | tup {a:ag} {xs:List V} {ds:List PyData}:SqT K H a xs->DatAll K H xs ds->Dat K H (.ref a) (.tuple ds)
inductive DatAll (K:bz) (H:Hp):List V->List PyData->Prop
 | nil:DatAll K H [] []
 | cons {x:V} {d:PyData} {xs:List V} {ds:List PyData}:Dat K H x d->DatAll K H xs ds->DatAll K H (x :: xs) (d :: ds)
end
section
variable {X:Cx}{pins:List (ag × Obj)}{σ:St}{H:Hp}{s:aj}
mutual
theorem Dat.reads(I:Inv X pins σ H s):∀ {x:V} {d:PyData} {u:af},Dat X.K H x d->RelV x u->∃as,Reads s.heap u d as
 | _,_,_,.non,r=>by cases r;exact⟨_,.none⟩
 | _,_,_,.bl b,r=>by cases r;exact⟨_,.bool b⟩
 | _,_,_,.int i,r=>by obtain⟨t,rfl⟩:=r;exact⟨_,.int i t⟩
 | _,_,_,.str x,r=>by obtain⟨t,rfl⟩:=r;exact⟨_,.str x t⟩
 | _,_,_,.lst hq ha,r=>by
  cases r
  obtain⟨its,rv,⟨o,n,e,c,_,d⟩,_⟩:=I.list hq
  obtain⟨as,ra⟩:=DatAll.reads I ha rv
  exact⟨_,.list e c d (by simpa using ra)⟩
 | _,_,_,.tup hq ha,r=>by
  cases r
  obtain⟨its,rv,⟨o,e,c,n,d⟩,_⟩:=I.tuple hq
  obtain⟨as,ra⟩:=DatAll.reads I ha rv
  exact⟨_,.tuple e c d (by simpa using ra)⟩
theorem DatAll.reads(I:Inv X pins σ H s):∀ {xs:List V} {ds:List PyData} {us:List af},DatAll X.K H xs ds->Vals xs us->∃as,ReadsAll s.heap us ds as
 | _,_,_,.nil,r=>by cases r;exact⟨_,.nil⟩
 | _,_,_,.cons hx ht,r=>by
  cases r with
  | cons r1 rr =>
   obtain⟨as,ra⟩:=Dat.reads I hx r1
   obtain⟨bs,rb⟩:=DatAll.reads I ht rr
   exact⟨_,.cons ra rb⟩
end
end
section
variable {K:bz}{H H':Hp}
theorem SqL.mono(k:Same H H')(h:SqL K H a xs):SqL K H' a xs:=by
 rcases h with (h | ⟨o,h⟩) | h
 ·exact .inl (.inl (k _ _ h))
 ·exact .inl (.inr ⟨o,k _ _ h⟩)
 ·exact .inr h
theorem DatAll.of{α:Type}{f:α->V}{g:α->PyData}:∀ {l:List α},(∀a∈l,Dat K H (f a) (g a))->DatAll K H (l.map f) (l.map g)
 | [],_=>.nil
 | a :: r,h=>.cons (h a bC) (DatAll.of λb hb=>h b (bE _ hb))
end
mutual
def zL:PyData->Bool
 | .none=>ae
 | .int _=>ae
 | .str x=>cf x
 | .list xs=>z5 xs
 | .tuple xs=>z5 xs
 | .bool _=>ao
 | .dict _=>ao
def z5:List PyData->Bool
 | []=>ae
 | x :: xs=>zL x && z5 xs
end
mutual
theorem V8:∀ {d:PyData},zL d=ae->d.canLay0=ae
 | .none,_=>by simp[eS]
 | .int _,_=>by simp[eS]
 | .str x,h=>by simpa[eS,zL] using h
 | .list xs,h=>by rw[eS];exact ZI (by simpa[zL] using h)
 | .tuple xs,h=>by rw[eS];exact ZI (by simpa[zL] using h)
 | .bool _,h=>by simp[zL] at h
 | .dict _,h=>by simp[zL] at h
theorem ZI:∀ {ds:List PyData},z5 ds=ae->gk ds=ae
 | [],_=>by simp[gk]
 | x :: xs,h=>by
  rw[z5,b9] at h
  rw[gk,V8 h.1,ZI h.2];rfl
end
mutual
theorem V9:∀ {d e:PyData},zL d=ae->zL e=ae->(im d e=ae↔d=e)
 | .list xs,.list ys,h,h'=>by
  rw[im,ZJ (by simpa[zL] using h) (by simpa[zL] using h'),PyData.list.injEq]
 | .tuple xs,.tuple ys,h,h'=>by
  rw[im,ZJ (by simpa[zL] using h) (by simpa[zL] using h'),PyData.tuple.injEq]
 | .bool _,_,h,_=>by simp[zL] at h
 | .dict _,_,h,_=>by simp[zL] at h
 | .none,.bool _,_,h=>by simp[zL] at h
 | .int _,.bool _,_,h=>by simp[zL] at h
 | .str _,.bool _,_,h=>by simp[zL] at h
 | .list _,.bool _,_,h=>by simp[zL] at h
 | .tuple _,.bool _,_,h=>by simp[zL] at h
 | .none,.dict _,_,h=>by simp[zL] at h
 | .int _,.dict _,_,h=>by simp[zL] at h
 | .str _,.dict _,_,h=>by simp[zL] at h
 | .list _,.dict _,_,h=>by simp[zL] at h
 | .tuple _,.dict _,_,h=>by simp[zL] at h
 | .none,.none,_,_ | .none,.int _,_,_ | .none,.str _,_,_ | .none,.list _,_,_ | .none,.tuple _,_,_=>by simp[im]
 | .int _,.none,_,_ | .int _,.int _,_,_ | .int _,.str _,_,_ | .int _,.list _,_,_ | .int _,.tuple _,_,_=>by simp[im]
 | .str _,.none,_,_ | .str _,.int _,_,_ | .str _,.str _,_,_ | .str _,.list _,_,_ | .str _,.tuple _,_,_=>by simp[im]
 | .list _,.none,_,_ | .list _,.int _,_,_ | .list _,.str _,_,_ | .list _,.tuple _,_,_=>by simp[im]
 | .tuple _,.none,_,_ | .tuple _,.int _,_,_ | .tuple _,.str _,_,_ | .tuple _,.list _,_,_=>by simp[im]
theorem ZJ:∀ {xs ys:List PyData},z5 xs=ae->z5 ys=ae->(iU xs ys=ae↔xs=ys)
 | [],[],_,_=>by simp[iU]
 | [],_ :: _,_,_=>by simp[iU]
 | _ :: _,[],_,_=>by simp[iU]
 | x :: xs,y :: ys,h,h'=>by
  rw[z5,b9] at h h'
  rw[iU,b9,V9 h.1 h'.1,ZJ h.2 h'.2,bp]
end
abbrev zay(K:bz)(neg:Bool):R2:=λx y H Q=>∃d e,Dat K H x d/\Dat K H y e/\(zL d=ae/\zL e=ae/\d.depth<=64/\e.depth<=64)/\∀b:Bool,(b=ae↔d=e)->Q (.bl (if neg then !b else b)) H
section
variable {X:Cx}
theorem Yn(h:zL d=ae)(h':d.depth<=64):iB d=ae:=by
 unfold iB
 rw[V8 h,decide_eq_true h'];rfl
theorem Wz(hu:X.A.units + 64 < cLine):OpR X (compareOp .NotEq) (zay X.K ae):=by
 intro pins s σ H x y v u Q I rx ry h
 obtain⟨d,e,hd,he,⟨p1,p2,l1,l2⟩,q⟩:=h
 obtain⟨as,ra⟩:=hd.reads I rx
 obtain⟨bs,rb⟩:=he.reads I ry
 exact ne_dataH ra rb (Yn p1 l1) (Yn p2 l2) hu ⟨.bl _,H,I,rfl,q _ (V9 p1 p2)⟩
end
end L2
namespace L2
open PySem PySem.Spec PyProof.Rows
abbrev YO(neg:Bool):R2:=λx y H Q=>∃a o,y=.ref a/\DGet H a x o/\Q (.bl (if neg then !o.isSome else o.isSome)) H
section
variable {X:Cx}
theorem Zf(hu:X.A.units + 1 < cLine):OpR X (compareOp .In) (YO ao):=by
 intro pins s σ H x y v u Q I rx ry h
 obtain⟨a,o,rfl,g,q⟩:=h
 cases ry
 exact zim hu I g rx λs' I'=>⟨.bl _,H,I',rfl,q⟩
theorem zaz(hu:X.A.units + 1 < cLine):OpR X (compareOp .NotIn) (YO ae):=by
 intro pins s σ H x y v u Q I rx ry h
 obtain⟨a,o,rfl,g,q⟩:=h
 cases ry
 exact ze8 hu I g rx λs' I'=>⟨.bl _,H,I',rfl,q⟩
end
end L2
namespace L2
open PySem
abbrev Pl:=Str × Int
abbrev Row:=Pl × Int
def zq:List Row->Pl->Option Int
 | [],_=>ai
 | r :: t,p=>(zq t p).or (if r.1=p then aa r.2 else ai)
def Yo(kvs:List (List Key × V))(q:Row):List (List Key × V):=yz kvs (zI q.1) (.int q.2)
def dOf(rows:List Row):List (List Key × V):=rows.foldl Yo []
theorem xz{p q:Pl}(h:zI p=zI q):p=q:=by
 unfold zI at h
 simp only[bp,Sum.inr.injEq,Sum.inl.injEq,and_true] at h
 exact pG h.1 h.2
theorem Qb:∀(rows:List Row) (kvs:List (List Key × V)) (p:Pl),yH (rows.foldl Yo kvs) (zI p)=((zq rows p).map V.int).or (yH kvs (zI p))
 | [],_,_=>rfl
 | r :: t,kvs,p=>by
  rw[eF,Qb t,zq]
  show _=_
  rw[Yo,jJ]
  cases zq t p with
  | some w=>rfl
  | none =>
   by_cases e:r.1=p
   ·subst e;simp
   ·rw[ak (λz=>e (xz z).symm)];simp[e]
theorem xM(rows:List Row)(p:Pl):yH (dOf rows) (zI p)=(zq rows p).map V.int:=by
 unfold dOf
 rw[Qb,Wf]
 cases zq rows p <;> rfl
theorem jN(rows:List Row)(q:Row):dOf (rows ++ [q])=yz (dOf rows) (zI q.1) (.int q.2):=by
 unfold dOf
 rw[oF];rfl
def OkKv(kvs:List (List Key × V)):Prop:=(kvs.map (·.1)).Nodup/\∀kv∈kvs,∃(p:Pl) (w:Int),kv=(zI p,.int w)
theorem OkKv.put(h:OkKv kvs)(p:Pl)(w:Int):OkKv (yz kvs (zI p) (.int w)):=by
 cases e:yH kvs (zI p) with
 | none =>
  refine⟨zfa _ h.1 e,λkv hk=>?_⟩
  rw[Wg _ e] at hk
  rcases bF.mp hk with hk | hk
  ·exact h.2 kv hk
  ·exact⟨p,w,b5.mp hk⟩
 | some v =>
  have q:(kvs.any λkv=>decide (kv.1=zI p))=ae:=by rw[wV,e];rfl
  unfold yz
  rw[ap q]
  constructor
  ·rw[dR]
   have:((λx:List Key × V=>x.1) ∘ λkv:List Key × V=>if kv.1=zI p then (kv.1,V.int w) else kv)=λx=>x.1:=by
    funext kv
    show (if kv.1=zI p then (kv.1,V.int w) else kv).1=kv.1
    split <;> rfl
   rw[this];exact h.1
  ·intro kv hk
   obtain⟨z,hz,rfl⟩:=cj.mp hk
   by_cases e:z.1=zI p
   ·exact⟨p,w,by rw[ap e,e]⟩
   ·rw[ak e];exact h.2 z hz
theorem Ja:∀(rows:List Row) (kvs:List (List Key × V)),OkKv kvs->OkKv (rows.foldl Yo kvs)
 | [],_,h=>h
 | r :: t,kvs,h=>Ja t _ (h.put r.1 r.2)
theorem vQ(rows:List Row):OkKv (dOf rows):=Ja rows [] ⟨lU,λ_ h=>nomatch h⟩
theorem zfs(kvs:List (List Key × V))(k:List Key)(v:V):(yz kvs k v).length<=kvs.length + 1:=by
 unfold yz
 split
 ·rw[bu];lia
 ·rw[bt];simp
theorem Qc:∀(rows:List Row) (kvs:List (List Key × V)),(rows.foldl Yo kvs).length<=kvs.length + rows.length
 | [],_=>by simp
 | r :: t,kvs=>by
  have:=Qc t (Yo kvs r)
  have:=zfs kvs (zI r.1) (.int r.2)
  rw[eF,cA]
  unfold Yo at *
  lia
theorem xO(rows:List Row):(dOf rows).length<=rows.length:=by have:=Qc rows [];simpa[dOf] using this
theorem zbx{kvs:List (List Key × V)}:(kvs.map (·.1)).Nodup->∀kv∈kvs,yH kvs kv.1=aa kv.2:=by
 induction kvs with
 | nil=>exact λ_ kv h=>nomatch h
 | cons a r ih =>
  intro hn kv hk
  rw[b7,dk] at hn
  rcases bS.mp hk with rfl | hk
  ·exact y7 rfl
  ·rw[y8 λz=>hn.1 (by rw[z];exact dt hk)]
   exact ih hn.2 kv hk
theorem mem_dOf :kv∈dOf rows↔∃p w,kv=(zI p,.int w)/\zq rows p=aa w:=by
 constructor
 ·intro h
  obtain⟨p,w,rfl⟩:=(vQ rows).2 kv h
  have:=zbx (vQ rows).1 _ h
  rw[xM] at this
  obtain⟨w',e1,e2⟩:=dy.mp this
  cases e2
  exact⟨p,w,rfl,e1⟩
 ·rintro⟨p,w,rfl,h⟩
  have e:yH (dOf rows) (zI p)=aa (.int w):=by rw[xM,h];rfl
  obtain⟨kv,hk,e1⟩:=cj.mp (zbh e)
  have:=zbx (vQ rows).1 _ hk
  rw[e1,e] at this
  have e2:kv=(zI p,V.int w):=pG e1 (ck this).symm
  rw[<-e2];exact hk
theorem ja(a:Pl):yf a a=ao:=by
 unfold yf
 rw[ap rfl]
 exact decide_eq_false (by lia)
theorem Vl{a b c:Pl}(h1:yf a b=ae)(h2:yf b c=ae):yf a c=ae:=by
 unfold yf at *
 by_cases e1:a.1=b.1
 ·rw[ap e1] at h1
  by_cases e2:b.1=c.1
  ·rw[ap e2] at h2
   rw[ap (e1.trans e2)]
   have h1:=of_decide_eq_true h1
   have h2:=of_decide_eq_true h2
   exact decide_eq_true (by lia)
  ·rw[ak e2] at h2
   rw[ak (by rw[e1];exact e2),e1]
   exact h2
 ·rw[ak e1] at h1
  have h1:=of_decide_eq_true h1
  by_cases e2:b.1=c.1
  ·rw[ak (by rw[<-e2];exact e1),<-e2]
   exact decide_eq_true h1
  ·rw[ak e2] at h2
   have h2:=of_decide_eq_true h2
   have h3:=List.lt_trans h1 h2
   rw[ak (λz=>by rw[z] at h3;exact List.lt_irrefl _ h3)]
   exact decide_eq_true h3
def Rising(l:List Row):Prop:=l.Pairwise λa b=>yf a.1 b.1=ae
def xj(rows out:List Row):Prop:=Rising out/\∀p w,(p,w)∈out↔zq rows p=aa w/\w≠0
theorem Rising.nd(h:Rising l):(l.map (·.1)).Nodup:=by
 unfold ff
 rw[fc]
 exact oG (λ{a b} h z=>by rw[z,ja] at h;cases h) h
theorem Jb{p:Pl}:∀ {l:List Row},(∀r∈l,r.1≠p)->zq l p=ai
 | [],_=>rfl
 | r :: t,h=>by
  rw[zq,Jb λr hr=>h r (bE _ hr),ak (h r bC)];rfl
theorem wS{p:Pl}{w:Int}:∀ {l:List Row},(l.map (·.1)).Nodup->(zq l p=aa w↔(p,w)∈l)
 | [],_=>by simp[zq]
 | r :: t,hn=>by
  rw[b7,dk] at hn
  have ih:=wS (p:=p) (w:=w) hn.2
  by_cases e:r.1=p
  ·have z:zq t p=ai:=Jb λq hq zz=>hn.1 (by rw[e,<-zz];exact dt hq)
   rw[zq,z,ap e]
   constructor
   ·intro h
    have:r.2=w:=by simpa using h
    rw[<-e,<-this];exact bC
   ·intro h
    rcases bS.mp h with h | h
    ·rw[<-h];rfl
    ·exact absurd (dt (f:=(·.1)) h) (by rw[<-e];exact hn.1)
  ·rw[zq,ak e,pq,ih,bS]
   constructor
   ·exact .inr
   ·rintro(h | h)
    ·exact absurd (by rw[<-h]) e
    ·exact h
theorem zft(h:xj rows out)(p:Pl):(zq out p).getD 0=(zq rows p).getD 0:=by
 have k:=λw=>wS (p:=p) (w:=w) h.1.nd
 cases e:zq rows p with
 | none =>
  cases e':zq out p with
  | none=>rfl
  | some w =>
   have:=(h.2 p w).mp ((k w).mp e')
   rw[e] at this;cases this.1
 | some w =>
  by_cases hw:w=0
  ·subst hw
   cases e':zq out p with
   | none=>rfl
   | some w' =>
    have:=(h.2 p w').mp ((k w').mp e')
    rw[e] at this
    cases this.1
    exact absurd rfl this.2
  ·rw[(k w).mpr ((h.2 p w).mpr ⟨e,hw⟩)]
theorem ko:∀ {a b:List Row},Rising a->Rising b->(∀x,x∈a↔x∈b)->a=b
 | [],[],_,_,_=>rfl
 | [],y :: _,_,_,h=>absurd ((h y).mpr bC) (by simp)
 | x :: _,[],_,_,h=>absurd ((h x).mp bC) (by simp)
 | x :: a,y :: b,ha,hb,h=>by
  unfold Rising at ha hb
  rw[fO] at ha hb
  have e:x=y:=by
   rcases bS.mp ((h x).mp bC) with e | e
   ·exact e
   ·rcases bS.mp ((h y).mpr bC) with e' | e'
    ·exact e'.symm
    ·have:=Vl (ha.1 y e') (hb.1 x e)
     rw[ja] at this;cases this
  subst e
  have nx:x ∉ a:=λz=>by have:=ha.1 x z;rw[ja] at this;cases this
  have ny:x ∉ b:=λz=>by have:=hb.1 x z;rw[ja] at this;cases this
  rw[ko ha.2 hb.2 λz=>?_]
  constructor
  ·intro hz
   rcases bS.mp ((h z).mp (bE _ hz)) with e | e
   ·subst e;exact absurd hz nx
   ·exact e
  ·intro hz
   rcases bS.mp ((h z).mpr (bE _ hz)) with e | e
   ·subst e;exact absurd hz ny
   ·exact e
theorem Qd(ha:xj rows a)(hb:xj rows b):a=b:=
 ko ha.1 hb.1 λx=>(ha.2 x.1 x.2).trans (hb.2 x.1 x.2).symm
theorem jO{α:Type} [DecidableEq α]:∀ {a b:List α},a.Nodup->(∀x∈a,x∈b)->a.length<=b.length
 | [],_,_,_=>cp _
 | x :: a,b,hn,h=>by
  rw[dk] at hn
  have hx:=h x bC
  have:=jO (a:=a) (b:=b.erase x) hn.2 λy hy=>(List.mem_erase_of_ne λz=>hn.1 (by rw[<-z];exact hy)).mpr (h y (bE _ hy))
  rw[List.length_erase_of_mem hx] at this
  have:0 < b.length:=List.length_pos_of_mem hx
  rw[cA];lia
end L2
namespace L2
open PySem PySem.Spec PyProof.Rows
end L2
namespace L2
open PySem PySem.Spec PyProof.Rows
theorem Zg:plainId "dict.update.loop"=ae:=by decide +kernel
theorem Jc:entryFor table "dict.update.loop"=aa Builtin.«dict.update.loop»:=entryFor_of_fast (by kernel_rfl)
section
variable {X:Cx}{A:av}{R:aA->aj->Prop}
def PrAt(H:Hp)(v:V)(q:Row):Prop:=∃r p,v=.ref r/\H r=aa (.tup [.ref p,.int q.2])/\H p=aa (.tup [.str q.1.1,.int q.1.2])
theorem zco{σ:St}{H:Hp}{s:aj}{d b:ag}{kvs:List (List Key × V)}{k:List Key}{v:V}{u:af}{E:af->aj->Prop}{Q:Unit->aj->Prop}(hu:A.units + 1 < cLine)(I:Inv X pins σ H s)(e:H d=aa (.dT kvs))(eb:H b=aa (.tup (k.map kV)))(l:kvs.length < sizeLine)(rv:RelV v u)
  (h:∀h' tk,Inv X pins σ (upd H d (.dT (yz kvs k v))) { s with heap:=h',toks:=tk }->dA d s.heap h'->Q () { s with heap:=h',toks:=tk }):wpAny (model X.prog X.w) A.in1 (dictSet d (.ref b) u) Q E s:=by
 obtain⟨z,hd,xs,rel,dd⟩:=zgo I.hok e
 have hz:xs.length<=sizeLine:=by rw[<-bM rel];exact z
 have hl:(yz kvs k v).length<=sizeLine:=by have:=yY kvs k v;lia
 refine wpAny_dictSet_heap (hsz:=hz) (eP hu) (ZG I.hok eb) dd λh' dd' hs=>h _ _ ?_ hs
 obtain⟨q,es,ep,hq,h2,h3,h4,_,h5⟩:=dd'
 refine Jx I (by rw[e];exact eW) hs ⟨q,hq⟩ ⟨hl,hd,_,(rel.put k eb rv).keeps λc ys ec=>?_,q,es,ep,hq,h2,h3,h4,h5⟩
 rw[zl (yp ec e (λz=>nomatch z))]
 exact ec
theorem zdF{σ:St}{H:Hp}{d it l:ag}{xs:List V}{rows:List Row}{res:af}(hu:A.units + 1 < cLine)(hh:A.handled=ai)(hd:H d=ai)(hl:H l=aa (.lst xs))(hr:Paired (PrAt H) xs rows)(h63:rows.length<=1000)(dit:it≠d)(lit:l≠it) :
  ∀(k i:Nat) (s:aj),rows.length - i=k->i<=rows.length->Inv X pins σ (upd H d (.dT (dOf (rows.take i)))) s->s.heap.IsListIter it l i->(∀u,qe X pins (upd H d u) it) ->
  (∀s',Inv X pins σ (upd H d (.dT (dOf rows))) s'->R (.ok (.ret res)) s') ->
  codeAny (model X.prog X.w) A (.builtin "dict.update.loop" ⟨[.ref d,.ref it,rawInt i,res],[]⟩) R s:=by
 have lx:xs.length=rows.length:=bM hr
 have S:∀u:HO,Same H (upd H d u):=λu=>isV (o:=u) d hd
 intro k
 induction k with
 | zero =>
  intro i s hk hi I st hf fin
  have e:i=rows.length:=by lia
  subst e
  refine eJ Jc ?_
  rw[dw Zg _]
  show wpAny _ A.in1 (pyNext (.ref it) >>= _) _ _ s
  obtain⟨its,rv,p,hz⟩:=I.list (SqL.of (S _ _ _ hl))
  obtain⟨f0,f1,f2,f3,f4,f5⟩:=hf (.dT (dOf (rows.take rows.length)))
  have hl2:=rv.length
  refine bi (mW hh st p.isList (by simp;lia) λh' eb=>?_)
  have I1:=I.turned (t':=s.toks) (λb o hb e=>eb b o hb e) f0 f1 f3 f4 f5
  rw[dY] at I1
  show wpAny _ A.in1 (Builtin.Dict.addKeywords d [] >>= _) _ _ _
  exact bi (bw (bw (fin _ I1)))
 | succ k ih =>
  intro i s hk hi I st hf fin
  have hlt:i < rows.length:=by lia
  refine eJ Jc ?_
  rw[dw Zg _]
  show wpAny _ A.in1 (pyNext (.ref it) >>= _) _ _ s
  obtain⟨its,rv,p,hz⟩:=I.list (SqL.of (S _ _ _ hl))
  obtain⟨f0,f1,f2,f3,f4,f5⟩:=hf (.dT (dOf (rows.take i)))
  have hx:xs[i]?=aa xs[i]:=ba (by lia)
  have hq:rows[i]?=aa rows[i]:=ba hlt
  obtain⟨r,pl,e1,t1,u1⟩:=yo hr hx hq
  obtain⟨u,hu',ru⟩:=rv.get hx
  rw[e1] at ru
  cases ru
  refine bi (mM st p.isList (x:=.ref r) (by simpa using hu') λh' st' sb=>?_)
  have I1:=I.turned (t':=s.toks) (λb o hb e=>(sb.2 b hb).trans e) f0 f1 f3 f4 f5
  obtain⟨tis,tv,⟨o,ho,hc,n,hdt⟩,_⟩:=I1.tuple (SqT.of (S _ _ _ t1))
  cases tv with
  | cons r1 rr =>
   cases rr with
   | cons r2 rn =>
    cases rn
    cases r1
    obtain⟨tk,rfl⟩:=r2
    refine bi (fo ?_)
    have T:({ s with heap:=h' }:aj).TypeIs (.ref r) "tuple":=⟨o,ho,hc⟩
    refine bi (wpAny_tryCatch ?_)
    unfold Builtin.Dict.pairItems
    refine bi (oN T ?_)
    rw[ap (by decide)]
    refine bi ?_
    unfold seqItems?
    refine bi (nr ho ?_)
    rw[hdt]
    refine bw (bw ?_)
    show wpAny _ _ (holding [.ref pl,.int rows[i].2 tk] (dictSet d (.ref pl) (.int rows[i].2 tk))) _ _ _
    refine fo ?_
    have tk2:dOf (rows.take (i + 1))=yz (dOf (rows.take i)) (zI rows[i].1) (.int rows[i].2):=by rw[cX,hq,<-jN];rfl
    have l2:(dOf (rows.take i)).length < sizeLine:=by
     have h1:=xO (rows.take i)
     have h2:=List.length_take_le' i rows
     exact bZ (by lia:_<=1000) (by decide)
    refine zco (k:=zI rows[i].1) (v:=.int rows[i].2) hu I1 zf (S _ _ _ u1) l2 ⟨tk,rfl⟩ λh2 tk3 I2 sb2=>?_
    rw[XX,<-tk2] at I2
    refine bw ⟨gq Zg _,ih (i + 1) _ (by lia) hlt I2 (st'.at λo e=>(sb2.2 it dit).trans e) hf fin⟩
end
end L2
namespace L2
open PySem PySem.Spec PyProof.Rows
theorem JR:typeLookup (.type "list") "keys"=pure ai:=by rw[typeLookup_type,builtinLookup_eq_fast];kernel_rfl
section
variable {prog:aq}{w:au}{A:av}{E:af->aj->Prop}{s:aj}{a:ag}{o:Obj}{xs:Array af}{k:Nat}
theorem WA{Q:Option af->aj->Prop}(hx:s.heap.get? a=aa o)(hc:o.cls=.type "list")(hdat:o.data=.seq xs k)(hd:o.dict=ai)(hA:A.handled=ai)
  (h:∀h' tk,(∀b ob,s.heap.get? b=aa ob->h'.get? b=aa ob)->Q ai { s with heap:=h',toks:=tk }):wpAny (model prog w) A (getAttr? (.ref a) "keys") Q E s:=by
 obtain⟨c,dct,dat,sl⟩:=o;simp only at hc hdat hd;subst hc hdat hd
 obtain⟨hp,g,d,tk,os⟩:=s;have hT:∀tk',(⟨hp,g,d,tk',os⟩:aj).TypeIs (.ref a) "list":=λ_=>⟨_,hx,rfl⟩
 have f1:=sub_AttributeError;have f3:=F.slot_list_getattribute.lookup;have f4:=F.slot_list_getattribute.bind (.ref a);have f5:=am_list_getattr_none
 unfold getAttr? getAttrBy? getAttrBy
 repeat (any_goals (first | assumption | exact hT _ | ((with_reducible show wpAny _ _ (call (Value.builtin "list.__getattribute__") _ _) _ _ _);refine l7 F.slot_list_getattribute (hT _) am_entry_list_getattribute (F.args_list_getattribute_2 _ _) (meets_getattribute_miss_list a xs k sl "keys" _ JR (by decide +kernel) (by decide +kernel)) ⟨hx,hA,λh' tk' e hx'=>?_⟩) | wp_step))
 obtain⟨t',u',he⟩:=hx'.there;have kp:=hx'.keeps
 show wpAny _ _ (getattributeRaised _ _ _ _ _ _ _) _ _ _;unfold getattributeRaised
 repeat (any_goals (first | assumption | wp_step))
 all_goals exact h _ _ λb ob e=>kp b ob e
end
theorem hu3(r:Room k A):A.units + 3 < cLine:=by have:=zap r;lia
abbrev Yp:RC:=λvs H Q=>∃(a:ag) (xs:List V) (rows:List Row),vs=[.ref a]/\H a=aa (.lst xs)/\Paired (PrAt H) xs rows/\rows.length<=1000/\∀p,H p=ai->Q (.ref p) (upd H p (.dT (dOf rows)))
section
variable {X:Cx}
theorem xP(hc:X.calm=ae)(hu:X.A.units + 3 < cLine):kQ X (.type "dict") Yp:=by
 intro pins s σ H vs us Q I r h
 obtain⟨a,xs,rows,rfl,ha,hr,hl,q⟩:=h
 obtain⟨u,rfl,ru⟩:=Zr r
 cases ru
 have hh:X.A.handled=ai:=I.ok.hd hc
 refine callType_codes (Q₁:=λobj s₁=>obj=.ref s.heap.objs.size/\s₁={ s with heap:=s.heap.push { cls:=.type "dict",data:=.dict #[] } }) F.kt_called_dict (F.kt_typeCall_dict_1 _) F.entry_dict_init (kt_code_dict_new _ ⟨rfl,rfl⟩) ?_;rintro obj s₁ ⟨rfl,rfl⟩
 have T0:({ s with heap:=s.heap.push { cls:=.type "dict",data:=.dict #[] } }:aj).TypeIs (.ref s.heap.objs.size) "dict":=⟨_,bH _ rfl,rfl⟩
 refine⟨T0,F.args_dict_init_2 _ _,?_⟩;unfold Builtin.«dict.__init__»;refine bi ?_;unfold Builtin.Dict.selfAndRest
 refine bi (iC T0 ?_);show wpAny _ _ (pure (s.heap.objs.size,[bV a])) _ _ _;refine bw ?_
 show wpAny _ _ (mG "dict.__init__" s.heap.objs.size (.ref a) [] .none) _ _ _;unfold mG
 have hn:H s.heap.objs.size=ai:=I.hok.fresh (bq _)
 have S:∀u:HO,Same H (upd H s.heap.objs.size u):=λu=>isV (o:=u) _ hn
 have I1:Inv X pins σ (upd H s.heap.objs.size (.dT [])) { s with heap:=s.heap.push { cls:=.type "dict",data:=.dict #[] } } :=
  I.laid (a:=s.heap.objs.size) (o:=.dT []) (t':=s.toks) (λb o z=>bo _ z) (bq _) (KC s.heap I.big)
 obtain⟨its,rv,pl,_⟩:=I1.list (SqL.of (S _ _ _ ha))
 obtain⟨o,n,ho,oc,od,odat⟩:=id pl
 have T1:({ s with heap:=s.heap.push { cls:=.type "dict",data:=.dict #[] } }:aj).TypeIs (.ref a) "list":=⟨o,ho,oc⟩
 refine bi (oN T1 ?_);rw[ap (by decide)]
 refine bi (WA ho oc odat od (by exact hh) λh2 tk2 k2=>?_);rw[ap (show (ai:Option af).isNone=ae from rfl)]
 refine bi (ik ?_)
 have I2:Inv X pins σ (upd H s.heap.objs.size (.dT [])) { s with heap:=h2,toks:=tk2 }:=I1.kept k2
 obtain⟨its2,rv2,pl2,_⟩:=I2.list (SqL.of (S _ _ _ ha))
 refine bi (l0 pl2.isList ?_)
 have I3:Inv X pins σ (upd H s.heap.objs.size (.dT (dOf (rows.take 0)))) { s with heap:=h2.push { cls:=.type "list_iterator",data:=.fields #[.ref a,.int 0 0] },toks:=tk2 }:=I2.kept (t':=tk2) λb o e=>bo _ e
 refine bw ⟨gq Zg _,?_⟩
 have lt:s.heap.objs.size < h2.objs.size:=bY (k2 s.heap.objs.size _ (bH _ rfl))
 have la:a < h2.objs.size:=by obtain⟨_,_,z,_⟩:=pl2;exact bY z
 refine zdF (A:=X.A.in1) (H:=H) (d:=s.heap.objs.size) (it:=h2.objs.size) (l:=a) (xs:=xs) (rows:=rows) (res:=.none) ?_ hh hn ha hr hl (eL lt) (cz la) rows.length 0 _ (by lia) (cp _) I3 ⟨_,bH _ rfl,rfl,rfl⟩ (λu=>?_) λs' I'=>⟨rfl,.ref s.heap.objs.size,_,I',rfl,q _ hn⟩
 ·have e:X.A.in1.units=X.A.units + 1:=rfl
  lia
 ·refine I2.fpOk (bq _) ?_
  rw[zl (eL lt)]
  have:=I2.hok.fresh (bq h2.objs.size)
  rw[zl (eL lt)] at this
  exact this
end
end L2
namespace L2
open PySem PySem.Spec PyProof.Rows
section
variable {X:Cx}{k:Nat}{f C:ag}{fd:FuncData}{ps:List Str}{sp:Sp}{m:Str}{pos apos:Pos}{e o:ay}{es:List ay}{ta:TE}{t:TA}
def YQ(C:ag)(m:Str)(sp:Sp)(ta:TE)(t:TA)(EX:EXK):TE:=λσ H Q=>ta σ H λx H1=>∃a dx fs,x=.ref a/\H1 a=aa (.ins C dx fs)/\fs.lookup m=ai /\
 t σ H1 λvs H2=>sp (x :: (vs ++ [])) H2 Q λcls _ H3=>EX cls σ H3
theorem WB{pl:Sem Bool}(he:PE X.nox o ta)(c:Cls X.K C)(hm:zb3 X.K C m f)(F:FnOk X.prog X.w X.K X.mg X.base (CX1 X.prog X.w) k f fd ps sp)(hr:Room k X.A)(hb:Binds X.K fd ps [])(ha:PA X.nox (e :: es) t)
  (hst:starEach (e :: es) X.env=(ao,eval e X.env) :: starEach es X.env:=by rfl) (hpl:(backTo pos (starEach es X.env)).any (·.1)=ao:=by rfl)
  (ht:eval (.Call (.Attribute o m apos) (e :: es) [] pos) X.env=(do
   let ov <-eval o X.env
   standAt apos.atName
   let (f,first) <-holding [ov] (getMethod ov m pl)
   callWith pos f first (backTo pos (starEach (e :: es) X.env)) (backToKw pos (keywordEach [] X.env))):=by rfl) :
  PEX X (.Call (.Attribute o m apos) (e :: es) [] pos) (YQ C m sp ta t):=by
 intro pins s σ H Q EX I h
 refine mY (pl:=pl) (dh (he pins s σ H _ (I.wish _) h) (λu s1 ⟨x,H1,I1',rx,a,dx,fs,ex,ea,l,q⟩=>?_) λ_ _ z=>cJ z) ht
 subst ex
 obtain rfl:u=bV a:=rx
 have I1:=I1'.unwish
 refine ZF I1 ea c hm l ?_
 refine lO (first:=[.ref a]) (h₀:=X.base) I.ok.mod.kin hm.kp (dh (ha pos pins s1 σ H1 _ (I1.wish _) q) (λus s2 ⟨vs,H2,I2',r,q2⟩=>⟨I2'.kIn,?_⟩) λ_ _ z=>cJ z) hst hpl
 have I2:=I2'.unwish
 have r2:Vals (V.ref a :: (vs ++ [])) (bV a :: (us ++ [])):=.cons rfl (r.append .nil)
 have hl:((bV a :: us) ++ []).length=ps.length:=by
  have e:=r2.length
  rw[F.len _ _ _ _ q2] at e
  exact e.symm
 refine ot (eN (F.run X.A X.stack s2 H2 ⟨.ref a :: us,[]⟩ ((.ref a :: us) ++ []) (.ref a :: (vs ++ [])) _ _ hr I2.env0 (hb s2 (.ref a :: us) I2.kIn hl) r2 q2) λr s' hq=>?_)
 cases r with
 | error ev =>
  obtain⟨e,cls,H',rfl,os,bare,un,hok,xf,hE⟩:=hq
  exact⟨e,cls,σ,s2,H2,H',rfl,I2,I2.call' (ch:=[]) os un hok bare (λb z=>nomatch z),xf,hE⟩
 | ok fl =>
  cases fl with
  | ret u=>exact I2.after hq
  | next=>exact cJ hq
  | brk=>exact cJ hq
  | cont=>exact cJ hq
end
def WC(K:bz)(tb:EXK->TS)(C1:ag)(th1:TS)(C2:ag)(th2:TS):TS:=λD σ H=>tb (λcls σ1 H1=>∃C,cls=.ref C /\
 ((fP K (.ref C) (.ref C1)=aa ae/\th1 D σ1 H1)\/(fP K (.ref C) (.ref C1)=aa ao/\fP K (.ref C) (.ref C2)=aa ae/\th2 D σ1 H1))) D σ H
section
variable {X:Cx}{st b₀ b₁:ax}{suite suite1:List ax}{tb:EXK->TS}{th1 th2:TS}{c1 c2:Str}{C1 C2:ag}{np hpos np2 hpos2 pos:Pos}
theorem Qe(hst:X.stack=X.env :: X.outer/\X.env.frame=aa X.env.locals)(hex:X.ex=[])(hb:PSX X st tb)(hg1:Gl X c1)(hm1:X.mg c1=aa (.ref C1))(hg2:Gl X c2)(hm2:X.mg c2=aa (.ref C2))
  (hs1:∀e,PSs (X.sub e) (b₀ :: suite) th1) (hs2:∀e,PSs (X.sub e) (b₁ :: suite1) th2) (hdb1:(c1 == ("__debug__":Str))=ao:=by decide) (hdb2:(c2 == ("__debug__":Str))=ao:=by decide) :
  PS X (.Try [st] [.ExceptHandler (aa (.Name c1 np)) ai (b₀ :: suite) hpos,.ExceptHandler (aa (.Name c2 np2)) ai (b₁ :: suite1) hpos2] [] [] pos) (WC X.K tb C1 th1 C2 th2):=by
 intro pins s σ H D I h
 refine wpAny_Try_except (iJ (dh (hb pins s σ H D _ I h) (λf s1 q=>?_) λev s1 q=>?_))
 ·cases f with
  | next=>exact eD (eD q)
  | ret v=>exact q
  | brk=>exact q
  | cont=>exact q
 obtain⟨e,cls,σ1,s0,H0,H1,rfl,I0,I1,xf,C,rfl,hth⟩:=q
 obtain⟨oe,vs,a0,T,oT,ts,h1,h2,h3,h4,h5,h6,h7,h8,h9,h10,h11,h12⟩:=xf
 have fr:s1.heap.FunFrames (gD s1.heap (frs X.stack ++ [e,T])) (X.env :: X.outer):=by
  have q:=iL (as:=frs X.stack ++ [e,T]) I1.stack λenv he a ha=>cE _ (fN.mpr ⟨env,he,ha⟩)
  rw[hst.1] at q ⊢
  exact q
 have two:∀b∈[e,T],s0.heap.get? b=ai/\H1 b=ai:=λb z=>by
  have z':b=e\/b=T:=by simpa using z
  rcases z' with rfl | rfl
  ·exact⟨h9,h11⟩
  ·exact⟨h10,h12⟩
 have hcs:∀b∈[e,T],H1 b=ai/\X.s₀.heap.get? b=ai:=λb z=>⟨(two b z).2,jL (I0.there0 hex) (two b z).1⟩
 have hcp:∀b∈[e,T],∀p∈X.pn ++ pins,p.1≠b:=λb z p hp q=>by
  have:=(I0.pin p hp).1
  rw[q,(two b z).1] at this;cases this
 refine wpAny_looks_onW (base:=gD s1.heap (frs X.stack ++ [e,T])) (a0:=a0) (cls:=.ref C) (by rw[I1.ok.frames,hst.1]) hst.2
  ⟨λb o q=>lL _ q,fJ _ (bT _ (by simp)),fr,oe,vs,T,oT,ts,h1,h2,h3,h4,fJ _ (bT _ (by simp)),h5,h6,h7,h8⟩ λg4 held4 sm4=>?_
 refine wpAny_landsW held4 λg5 fly5 sm5=>?_
 have hB:∀ {g:aw},(gD s1.heap (frs X.stack ++ [e,T])).StaysIn g->∀b o,s1.heap.get? b=aa o->b ∉ frs X.stack->b ∉ [e,T]->g.get? b=aa o :=
  λ{g} k b o q n1 n2=>k b o (iQ _ q λz=>(bF.mp z).elim n1 n2)
 have I5:Inv X pins σ1 H1 { s1 with heap:=g5 }:=I1.land hex hcs hcp (hB fly5.1) (sm4.trans sm5)
 have K5:=I5.kIn
 have ty5:W.Looks (model X.prog X.w) g5 (typeOf (.ref e)) (.ref C):=by
  obtain⟨o,p1,p2⟩:=fly5.there
  exact p2 ▸ (pB p1).andThen .now
 have run:∀ {b₂:ax} {su:List ax} {th:TS} {hp:Pos} {R:aA->aj->Prop},(∀e,PSs (X.sub e) (b₂ :: su) th)->th D σ1 H1->(∀f s',SP X pins D f s'->R (.ok f) s') ->
   codeAny (model X.prog X.w) (X.A.mark (aa (.ref e))) (.handlers (.ref e) [.ExceptHandler ai ai (b₂ :: su) hp] X.env) R { s1 with heap:=g5 }:=λ{b₂ su th hp R} hs hth hR=>by
  refine mT (lands_againW fly5 λg6 fly6 sm6=>?_)
  have I6:Inv X pins σ1 H1 { s1 with heap:=g6 }:=I1.land hex hcs hcp (hB fly6.1) ((sm4.trans sm5).trans sm6)
  refine dh (hs e pins _ σ1 H1 D I6.toSub hth) (λf s9 q=>hR f s9 ?_) λ_ _ z=>cJ z
  cases f with
  | next=>obtain⟨σ9,H9,J,z⟩:=q;exact⟨σ9,H9,Inv.ofSub (J:=I) J,z⟩
  | brk=>obtain⟨σ9,H9,J,z⟩:=q;exact⟨σ9,H9,Inv.ofSub (J:=I) J,z⟩
  | cont=>obtain⟨σ9,H9,J,z⟩:=q;exact⟨σ9,H9,Inv.ofSub (J:=I) J,z⟩
  | ret u=>obtain⟨v,σ9,H9,J,r,z⟩:=q;exact⟨v,σ9,H9,Inv.ofSub (J:=I) J,r,z⟩
 refine lC (iF ?_) (by intro q;cases q)
 refine vE (X:=X.sub e) (I5.toSub (e:=e)) hg1 hm1 ?_ hdb1
 rcases hth with ⟨hx,ht⟩ | ⟨hx,hx2,ht⟩
 ·refine(W.exm_one K5 ty5 hx).here ?_
  exact run hs1 ht λf s' q=>q
 ·refine(W.exm_one K5 ty5 hx).here ?_
  show wpAny _ _ (handleBy (.ref e) X.env _) _ _ _
  refine lC (iF ?_) (by intro q;cases q)
  refine vE (X:=X.sub e) (I5.toSub (e:=e)) hg2 hm2 ?_ hdb2
  refine(W.exm_one K5 ty5 hx2).here ?_
  exact run hs2 ht λf s' q=>q
end
structure RoomH(k:Nat)(A:av):Prop where
 dp:A.depth + 3 * k + 5 < recursionLimit
 un:A.units + 16 * k + 200 < cLine
theorem zgv(r:Room k A):RoomH k (A.mark v):=⟨r.dp,r.un⟩
theorem RoomH.deeper(r:RoomH (k + 1) A)(env:Env):RoomH k (A.deeper env):=
 ⟨by have:=r.dp;show A.depth + 1 + 3 * k + 5 < _;lia,by have:=r.un;show A.units + 3 + 16 * k + 200 < _;lia⟩
theorem RoomH.mono(r:RoomH k A)(h:j<=k):RoomH j A:=⟨by have:=r.dp;lia,by have:=r.un;lia⟩
structure FnOkH(P:aq)(w:au)(K:bz)(mg:Str->Option af)(base:aw)(k:Nat)(f:ag)(fd:FuncData)(ps:List Str)(sp:Sp):Prop where
 len:∀vs H Q E,sp vs H Q E->vs.length=ps.length
 run:∀(A:av) (outer:List Env) (s:aj) (H:Hp) (args:Args) (us:List af) (vs:List V) (Q:VK) (E:XK),RoomH k A->Env0 P w K mg base A outer s H->BindsTo s fd args (ps.zip us)->Vals vs us->sp vs H Q E ->
  codeAny (model P w) A (.call (.ref f) args) (CR CX0 outer P w H s Q E) s
theorem FnOkH.toFn{w:au}{K:bz}{mg:Str->Option af}{base:aw}{CX:CXT}{k:Nat}{f:ag}{fd:FuncData}{ps:List Str}{sp:Sp}(F:FnOkH P w K mg base k f fd ps sp):FnOk P w K mg base CX k f fd ps sp:=
 ⟨F.len,λA outer s H args us vs Q E hr he hb hv hs=>eN (F.run A outer s H args us vs Q E ⟨hr.dp,hr.un⟩ he hb hv hs) λr s' q=>by
  cases r with
  | error e=>exact cJ q
  | ok fl=>cases fl <;> exact q⟩
abbrev cxH(P:aq)(w:au)(K:bz)(mg:Str->Option af)(base:aw)(N:List Str)(qual:Str)(scope:az)(f:ag)(cd:af)(A:av)(outer:List Env)(s:aj)(H:Hp):Cx :=
 { jI CX0 P w K mg base N qual scope f cd A outer s H E0 with calm:=ao,xe:=λ_ _=>False }
theorem zg2{P:aq}{w:au}{K:bz}{mg:Str->Option af}{base:aw}{k:Nat}{f:ag}{name qual:Str}{params:Arguments}{body:List ax}{scope:az}{dV kV doc pm cdv ct oc:af}{an od:Option ag}
  {osl:Array (Option af)} {N ps:List Str} {sp:Sp} (lk:K.lookup f=aa ⟨oc,od,.func (iz name qual params body scope dV kV doc pm an cdv ct),osl⟩) (hcd:iq K cdv qual=ae) (S:FnScope N ps scope)
  (len:∀vs H Q E,sp vs H Q E->vs.length=ps.length)
  (hbody:∀(A:av) (outer:List Env) (s:aj) (H:Hp) (vs:List V) (Q:VK) (E:XK),RoomH k (A.deeper (envOfC qual scope s.heap.objs.size f cdv))->sp vs H Q E ->
   ∃t,PSs (cxH P w K mg base N qual scope f cdv A outer s H) body t/\t { nx:=λ_ H'=>Q .non H',rt:=Q } (start N vs) H) :
  FnOkH P w K mg base (k + 1) f (iz name qual params body scope dV kV doc pm an cdv ct) ps sp:=by
 refine⟨len,λA outer s H args us vs Q E hr e0 hb r hsp=>?_⟩
 have hl:=len _ _ _ _ hsp
 have KX:K.In s.heap:=e0.mod.kin.keeps λb o e=>(e0.bs b o e).1
 have lim:s.heap.NoLimit:=e0.mod.nolimit.keeps λb o e=>(e0.bs b o e).1
 have hkind:∀y∈ps.zip us,scope.names.lookup y.1=aa .local\/(scope.names.lookup y.1=aa .cell/\((cellsFrom (s.heap.objs.size + 1) scope.names []).lookup y.1).isSome=ae):=λ⟨n,v⟩ hy=>by
  rcases S.par n (i4 hy).1 with q | q
  ·exact .inl q
  ·exact .inr ⟨q,mI _ _ _ (.inl q)⟩
 refine mZ (by have:=hr.dp;lia) (KX _ _ lk) rfl S.co S.gen rfl (W.codeRec_of KX hcd) (hb _ _ _ _ ?_)
 refine lJ S.kind hkind λenv he s1 x=>?_
 subst he
 refine⟨lim.keeps x.toInCall.keep,codeAny_func ?_⟩
 obtain⟨t,ht,hq⟩:=hbody A outer s H vs Q E (hr.deeper _) hsp
 have e1:Env0 P w K mg base { A with handled:=ai } outer s H:=⟨e0.frames,e0.mod,e0.bs,e0.bsz,e0.funs,e0.frf,e0.hok,e0.bare⟩
 have I0:Inv (jI CX0 P w K mg base N qual scope f cdv { A with handled:=ai } outer s H E0) [] (start N vs) H s1:=VU S rfl e1 hl r x
 have I:Inv (cxH P w K mg base N qual scope f cdv A outer s H) [] (start N vs) H s1 :=
  ⟨⟨I0.ok.mod,I0.ok.kind,I0.ok.glob,I0.ok.blt,I0.ok.above,I0.ok.inj,I0.ok.has,I0.ok.cab,(λz=>nomatch z),nz e0.frames,I0.ok.stk,I0.ok.exf,I0.ok.bs,I0.ok.bsz,I0.ok.noex,I0.ok.exfs,I0.ok.funs,I0.ok.frf⟩,I0.os,I0.bare,I0.base,I0.loc,I0.cell,I0.free,I0.freeC,I0.pin,I0.hok,I0.len⟩
 refine dh (ht [] s1 (start N vs) H _ I hq) (λfl s' hs=>?_) λe s' hs=>cJ hs
 have fin:∀ {σ':St} {H':Hp} {v:V} {u:af},Inv (cxH P w K mg base N qual scope f cdv A outer s H) [] σ' H' s'->RelV v u->Q v H'->CE outer P w H s Q u s' :=
  λ{σ' H' v u} J rv q=>⟨v,H',J.os,J.bare,J.base,J.hok,rv,q⟩
 cases fl with
 | ret u =>
  obtain⟨v,σ',H',J,rv,q⟩:=hs
  exact fin J rv q
 | next =>
  obtain⟨σ',H',J,q⟩:=hs
  exact fin (v:=V.non) (u:=cM) J rfl q
 | brk =>
  obtain⟨_,_,_,q⟩:=hs
  exact cJ q
 | cont =>
  obtain⟨_,_,_,q⟩:=hs
  exact cJ q
theorem Fun.okH{P:aq}{w:au}{K:bz}{mg:Str->Option af}{base:aw}{x qual:Str}{st:ax}{f:ag}{fd:FuncData}{N ps:List Str}{k:Nat}{sp:Sp}(F:Fun K x qual st f fd)(S:FnScope N ps (zj st))(len:∀vs H Q E,sp vs H Q E->vs.length=ps.length)
  (hbody:∀(cdv:af) (A:av) (outer:List Env) (s:aj) (H:Hp) (vs:List V) (Q:VK) (E:XK),RoomH k (A.deeper (envOfC qual (zj st) s.heap.objs.size f cdv))->sp vs H Q E ->
   ∃t,PSs (cxH P w K mg base N qual (zj st) f cdv A outer s H) (yq st) t/\t { nx:=λ_ H'=>Q .non H',rt:=Q } (start N vs) H):FnOkH P w K mg base (k + 1) f fd ps sp:=by
 obtain⟨oc,od,kV,doc,pm,an,cdv,ct,osl,rfl,lk,hcd⟩:=F.ex
 exact zg2 lk hcd S len λA outer s H vs Q E hr hsp=>hbody cdv A outer s H vs Q E hr hsp
section
variable {X:Cx}{k:Nat}{f:ag}{fd:FuncData}{ps:List Str}{sp:Sp}{x:Str}{p pos:Pos}{e:ay}{es:List ay}{t:TA}
theorem Qf(F:FnOkH X.prog X.w X.K X.mg X.base k f fd ps sp)(hr:RoomH k X.A)(hg:Gl X x)(hm:X.mg x=aa (.ref f))(hk:fi X.K (.ref f)=ae)(hb:Binds X.K fd ps [])
  (ha:PA X (e :: es) t) (hdb:(x == ("__debug__":Str))=ao:=by decide) (he:starEach (e :: es) X.env=(ao,eval e X.env) :: starEach es X.env:=by rfl) (hpl:(backTo pos (starEach es X.env)).any (·.1)=ao:=by rfl) :
  PE X (.Call (.Name x p) (e :: es) [] pos) (zn sp [] E0 t):=by
 intro pins s σ H Q I h
 refine eO (vE I hg hm ?_ hdb)
 refine lO (h₀:=X.base) I.ok.mod.kin hk (thn (ha pos pins s σ H _ I h) λus s1 ⟨vs,H1,I1,r,q⟩=>⟨I1.kIn,?_⟩) he hpl
 have r2:Vals (vs ++ []) (us ++ []):=r.append .nil
 have hl:(us ++ []).length=ps.length:=by rw[<-r2.length];exact F.len _ _ _ _ q
 refine ot (eN (F.run X.A X.stack s1 H1 ⟨us,[]⟩ (us ++ []) (vs ++ []) Q E0 hr I1.env0 (hb s1 us I1.kIn hl) r2 q) λr s' hq=>?_)
 cases r with
 | error e=>exact cJ hq
 | ok fl =>
  cases fl with
  | ret u=>exact I1.after hq
  | next=>exact cJ hq
  | brk=>exact cJ hq
  | cont=>exact cJ hq
end
end L2
namespace L2
open PySem
def rk(kvs:List (Key × V))(ps:List V):Except Er Int:=match wY kvs ps [] with
 | .ok [i]=>.ok i
 | .ok _=>.error .stuck
 | .error e=>.error e
theorem Good.rk{r:Except Er Int}(h:Good kvs ps r):L2.rk kvs ps=r:=by
 unfold L2.rk
 rw[h.1 []]
 cases r <;> rfl
theorem zdG(hs:yr kvs)(hv:kj v){st st':List Int}(h:∀x∈st,inW x=ae)(e:ww kvs st v=.ok st'):∀x∈st',inW x=ae:=by
 unfold ww at e
 split at e
 ·split at e
  ·rename_i w b a r hr hj
   unfold vB at e
   by_cases c1:Xh w/\b=0
   ·rw[ap c1] at e;cases e
   ·rw[ak c1] at e
    by_cases c2:inW (vP w a b)=ae
    ·rw[ap c2] at e
     cases e
     intro x hx
     rcases bF.mp hx with hx | hx
     ·refine h x (oS.mp ?_)
      rw[hr]
      exact bE _ (bE _ (oS.mp hx))
     ·rw[b5.mp hx];exact c2
    ·rw[ak c2] at e;cases e
  ·cases e
 ·cases e
  intro x hx
  rcases bF.mp hx with hx | hx
  ·exact h x hx
  ·rw[b5.mp hx];exact KM hs hv
theorem zby{kvs:List (Key × V)}(hs:yr kvs):∀ {ps:List V} {st st':List Int},(∀v∈ps,kj v)->(∀x∈st,inW x=ae)->wY kvs ps st=.ok st'->∀x∈st',inW x=ae
 | [],st,st',_,h,e=>by cases e;exact h
 | v :: r,st,st',hp,h,e=>by
  unfold wY at e
  split at e
  ·rename_i st1 e1
   exact zby hs (λv hv=>hp v (bE _ hv)) (zdG hs (hp v bC) h e1) e
  ·cases e
theorem JS(hs:yr kvs)(hp:∀v∈ps,kj v){i:Int}(e:rk kvs ps=.ok i):inW i=ae:=by
 unfold rk at e
 split at e
 ·rename_i j hj
  cases e
  exact zby hs hp (λ_ z=>absurd z ee) hj i bC
 ·cases e
 ·cases e
def TermOk(e:List V):Prop:=(∀kvs,∃r,Good kvs e r)/\(∀v∈e,kj v)/\e.length<=1000
theorem TermOk.good(h:TermOk e)(kvs:List (Key × V)):Good kvs e (rk kvs e):=by
 obtain⟨r,g⟩:=h.1 kvs
 rw[g.rk];exact g
mutual
inductive Rw where
 | take (sh:Str) (e:List V) (sl:Str)
 | give (sh:Str) (e f:List V)
 | lt (sl:Str) (e:List V)
 | say (e:List V)
 | off (e:List V)
 | iff (e:List V) (a b:Rws)
inductive Rws where
 | nil
 | cons (r:Rw) (rs:Rws)
end
set_option genSizeOf false in
set_option genInjectivity false in
structure Sta where
 sl:List (Key × V)
 wo:List Row
 sa:List Int
inductive Res where
 | go (s:Sta)
 | off
 | er (e:Er)
mutual
def goR:Rw->Sta->Res
 | .take sh e sl,s=>match rk s.sl e with
  | .ok n=>.go { s with sl:=yz s.sl (.inr sl) (.int ((zq s.wo (sh,n)).getD 0)) }
  | .error x=>.er x
 | .give sh e f,s=>match rk s.sl e with
  | .ok n=>(match rk s.sl f with
   | .ok w=>.go { s with wo:=s.wo ++ [((sh,n),w)] }
   | .error x=>.er x)
  | .error x=>.er x
 | .lt sl e,s=>match rk s.sl e with
  | .ok n=>.go { s with sl:=yz s.sl (.inr sl) (.int n) }
  | .error x=>.er x
 | .say e,s=>match rk s.sl e with
  | .ok n=>.go { s with sa:=s.sa ++ [n] }
  | .error x=>.er x
 | .off e,s=>match rk s.sl e with
  | .ok n=>if n=0 then .go s else .off
  | .error x=>.er x
 | .iff e a b,s=>match rk s.sl e with
  | .ok n=>if n=0 then yL b s else yL a s
  | .error x=>.er x
def yL:Rws->Sta->Res
 | .nil,s=>.go s
 | .cons r rs,s=>match goR r s with
  | .go s'=>yL rs s'
  | x=>x
end
mutual
def RwAt(F:ag->Prop)(H:Hp)(v:V):Rw->Prop
 | .take sh e sl=>∃r te,v=.ref r/\F r/\F te/\H r=aa (.tup [.str "take",.str sh,.ref te,.str sl])/\H te=aa (.tup e)
 | .give sh e f=>∃r te tf,v=.ref r/\F r/\F te/\F tf/\H r=aa (.tup [.str "give",.str sh,.ref te,.ref tf])/\H te=aa (.tup e)/\H tf=aa (.tup f)
 | .lt sl e=>∃r te,v=.ref r/\F r/\F te/\H r=aa (.tup [.str "let",.str sl,.ref te])/\H te=aa (.tup e)
 | .say e=>∃r te,v=.ref r/\F r/\F te/\H r=aa (.tup [.str "say",.ref te])/\H te=aa (.tup e)
 | .off e=>∃r te,v=.ref r/\F r/\F te/\H r=aa (.tup [.str "off",.ref te])/\H te=aa (.tup e)
 | .iff e a b=>∃r te la lb xs ys,v=.ref r/\F r/\F te/\F la/\F lb/\H r=aa (.tup [.str "if",.ref te,.ref la,.ref lb])/\H te=aa (.tup e)/\H la=aa (.lst xs)/\RwsAt F H xs a/\H lb=aa (.lst ys)/\RwsAt F H ys b
def RwsAt(F:ag->Prop)(H:Hp)(vs:List V):Rws->Prop
 | .nil=>vs=[]
 | .cons r rs=>∃v ws,vs=v :: ws/\RwAt F H v r/\RwsAt F H ws rs
end
mutual
theorem RwAt.to_{F G:ag->Prop}{H H':Hp}(g:∀b o,F b->H b=aa o->G b)(s:∀b o,F b->H b=aa o->H' b=aa o):∀ {v:V} (r:Rw),RwAt F H v r->RwAt G H' v r
 | v,.take sh e sl,h=>by
  unfold RwAt at h ⊢
  obtain⟨r,te,e1,f1,f2,e2,e3⟩:=h
  exact⟨r,te,e1,g _ _ f1 e2,g _ _ f2 e3,s _ _ f1 e2,s _ _ f2 e3⟩
 | v,.give sh e f,h=>by
  unfold RwAt at h ⊢
  obtain⟨r,te,tf,e1,f1,f2,f3,e2,e3,e4⟩:=h
  exact⟨r,te,tf,e1,g _ _ f1 e2,g _ _ f2 e3,g _ _ f3 e4,s _ _ f1 e2,s _ _ f2 e3,s _ _ f3 e4⟩
 | v,.lt sl e,h=>by
  unfold RwAt at h ⊢
  obtain⟨r,te,e1,f1,f2,e2,e3⟩:=h
  exact⟨r,te,e1,g _ _ f1 e2,g _ _ f2 e3,s _ _ f1 e2,s _ _ f2 e3⟩
 | v,.say e,h=>by
  unfold RwAt at h ⊢
  obtain⟨r,te,e1,f1,f2,e2,e3⟩:=h
  exact⟨r,te,e1,g _ _ f1 e2,g _ _ f2 e3,s _ _ f1 e2,s _ _ f2 e3⟩
 | v,.off e,h=>by
  unfold RwAt at h ⊢
  obtain⟨r,te,e1,f1,f2,e2,e3⟩:=h
  exact⟨r,te,e1,g _ _ f1 e2,g _ _ f2 e3,s _ _ f1 e2,s _ _ f2 e3⟩
 | v,.iff e a b,h=>by
  unfold RwAt at h ⊢
  obtain⟨r,te,la,lb,xs,ys,e1,f1,f2,f3,f4,e2,e3,e4,e5,e6,e7⟩:=h
  exact⟨r,te,la,lb,xs,ys,e1,g _ _ f1 e2,g _ _ f2 e3,g _ _ f3 e4,g _ _ f4 e6,s _ _ f1 e2,s _ _ f2 e3,s _ _ f3 e4,RwsAt.to_ g s a e5,s _ _ f4 e6,RwsAt.to_ g s b e7⟩
theorem RwsAt.to_{F G:ag->Prop}{H H':Hp}(g:∀b o,F b->H b=aa o->G b)(s:∀b o,F b->H b=aa o->H' b=aa o):∀ {vs:List V} (r:Rws),RwsAt F H vs r->RwsAt G H' vs r
 | vs,.nil,h=>by
  unfold RwsAt at h ⊢
  exact h
 | vs,.cons r rs,h=>by
  unfold RwsAt at h ⊢
  obtain⟨v,ws,e1,e2,e3⟩:=h
  exact⟨v,ws,e1,RwAt.to_ g s r e2,RwsAt.to_ g s rs e3⟩
end
theorem RwAt.to{F G:ag->Prop}{H H':Hp}(r:Rw)(g:∀b o,F b->H b=aa o->G b)(s:∀b o,F b->H b=aa o->H' b=aa o)(h:RwAt F H v r):RwAt G H' v r:=RwAt.to_ g s r h
theorem RwsAt.to{F G:ag->Prop}{H H':Hp}(r:Rws)(g:∀b o,F b->H b=aa o->G b)(s:∀b o,F b->H b=aa o->H' b=aa o)(h:RwsAt F H vs r):RwsAt G H' vs r:=RwsAt.to_ g s r h
theorem RwAt.mono{F:ag->Prop}{H H':Hp}(s:Same H H')(h:RwAt F H v r):RwAt F H' v r:=h.to r (λ_ _ f _=>f) (λb o _ e=>s b o e)
theorem RwsAt.mono{F:ag->Prop}{H H':Hp}(s:Same H H')(h:RwsAt F H vs r):RwsAt F H' vs r:=h.to r (λ_ _ f _=>f) (λb o _ e=>s b o e)
def RlAt(F:ag->Prop)(H:Hp)(v:V)(r:Rws):Prop:=∃a xs,v=.ref a/\F a/\H a=aa (.lst xs)/\RwsAt F H xs r
theorem RlAt.to{F G:ag->Prop}{H H':Hp}(g:∀b o,F b->H b=aa o->G b)(s:∀b o,F b->H b=aa o->H' b=aa o)(h:RlAt F H v r):RlAt G H' v r:=by
 obtain⟨a,xs,e,f,e1,e2⟩:=h
 exact⟨a,xs,e,g _ _ f e1,s _ _ f e1,RwsAt.to r g s e2⟩
theorem RlAt.mono{F:ag->Prop}{H H':Hp}(s:Same H H')(h:RlAt F H v r):RlAt F H' v r:=h.to (λ_ _ f _=>f) λb o _ e=>s b o e
abbrev w6:ag->Prop:=λ_=>True
theorem RlAt.any{F:ag->Prop}{H:Hp}(h:RlAt F H v r):RlAt w6 H v r:=h.to (λ_ _ _ _=>trivial) λb o _ e=>e
mutual
def xV:Rw->Prop
 | .take _ e _=>TermOk e
 | .give _ e f=>TermOk e/\TermOk f
 | .lt _ e=>TermOk e
 | .say e=>TermOk e
 | .off e=>TermOk e
 | .iff e a b=>TermOk e/\yJ a/\yJ b
def yJ:Rws->Prop
 | .nil=>True
 | .cons r rs=>xV r/\yJ rs
end
mutual
def Rw.deep:Rw->Nat
 | .iff _ a b=>max a.deep b.deep + 1
 | _=>0
def Rws.deep:Rws->Nat
 | .nil=>0
 | .cons r rs=>max r.deep rs.deep
end
mutual
def Rw.cnt:Rw->Nat
 | .iff _ a b=>max a.cnt b.cnt + 1
 | _=>1
def Rws.cnt:Rws->Nat
 | .nil=>0
 | .cons r rs=>r.cnt + rs.cnt
end
end L2
namespace L2
open PySem
abbrev ItA(h:aw)(it d:ag)(i n ep:Nat)(o0:af)(f:Bool)(ok ov:af):Prop :=
 h.get? it=aa { cls:=.type "dict_itemiterator",dict:=ai,data:=.fields #[o0,.bool f,.ref d,.int i 0,.int n 0,.int ep 0,ok,ov],slots:=#[] }
section
variable {P:aq}{w:au}{A:av}{E:af->aj->Prop}{s:aj}
theorem zdH{Q:af->aj->Prop}(hv:s.heap.IsItemsView v d)(hm:RawD s.heap d es ep)
  (q:Q (.ref s.heap.objs.size) { s with heap:=s.heap.push { cls:=.type "dict_itemiterator",data:=.fields #[.none,.bool ao,.ref d,.int 0 0,.int es.size 0,.int ep 0,.none,.none] } }):wpAny (model P w) A (pyIter (.ref v)) Q E s:=by
 obtain⟨ov,hov,hcv,hdv⟩:=id hv;obtain⟨o,ho,hc,hdat⟩:=id hm
 refine wpAny_pyIter_slot hv.typeIs mU (dL mU hv.typeIs F.entry_dict_items_iter ?_ (F.args_dict_items_iter_1 _));unfold Builtin.«dict_items.__iter__»
 refine bi (bw ?_);refine bi ?_;unfold Builtin.Dict_items.dictOf
 refine bi (lD hov hdv (x:=.ref d) rfl (bw ?_));refine bi ?_;unfold Builtin.Dict_items.newIterator
 refine bi (e9 ho hdat ?_);refine bi (fZ ho hdat ?_)
 have own:dH "dict_itemiterator"=ae:=by decide
 simp only[own,if_true];refine dv (bw ⟨_,rfl,"dict_itemiterator",_,⟨_,bH _ rfl,rfl⟩,F.slot_dict_itemiterator_next.lookup,?_⟩) (by simp only[sizeOk,gJ,bN,bt,cA,m3,dX];lia)
 simpa[rawInt,gJ] using q
theorem zdI{Q:Option af->aj->Prop}(hit:ItA s.heap it d i es.size ep o0 f ok ov)(hm:RawD s.heap d es ep)(hx:es[i]?=aa e)
  (ho0:(o0=.none/\f=ao)\/∃(a:ag) (oa:Obj),o0=rawInt (a:Nat)/\s.heap.get? a=aa oa/\a≠it)
  (q:∀h' o1 f1 k1 v1,ItA h' it d (i + 1) es.size ep o1 f1 k1 v1->((o1=.none/\f1=ao)\/∃(a:ag) (oa:Obj),o1=rawInt (a:Nat)/\h'.get? a=aa oa/\a≠it)->h'.get? s.heap.objs.size=aa { cls:=.type "tuple",data:=.seq #[e.key,e.val] }->h'.objs.size=s.heap.objs.size + 1 ->
   (∀b o,b≠it->s.heap.get? b=aa o->h'.get? b=aa o)->(∀a:ag,o1=rawInt (a:Nat)->a=s.heap.objs.size\/o0=rawInt (a:Nat))->Q (aa (.ref s.heap.objs.size)) { s with heap:=h' }):wpAny (model P w) A (pyNext (.ref it)) Q E s:=by
 obtain⟨hp,g,dr,tk,os⟩:=s;obtain⟨od,hod,hcd,hdd⟩:=id hm
 have T:pH ⟨hp,g,dr,tk,os⟩ (.ref it) "dict_itemiterator":=⟨_,hit,rfl⟩
 unfold pyNext;refine bi (iS (fq (name:=bg "__next__") T eh (dL eh T iG ?_ (io _))))
 refine bi (bw ?_);refine bi ?_;refine bi ?_
 first | (refine bi (dU T (bw ?_))) | (refine bi (eT T (bw ?_)))
 refine bi (lX hit rfl ?_);have own:dH "dict_itemiterator"=ae:=by decide
 simp only[own,if_true];show wpAny _ _ (if (bV d == cM)=ae then _ else _) _ _ _
 rw[ak (show ¬ ((bV d == cM)=ae) from bO)];refine bi (bw ?_);refine bi (e9 hod hdd ?_)
 rw[ak (by simp)];refine bi (bw ?_);refine bi (fZ hod hdd ?_);rw[ak (by simp)];refine bw ?_
 simp only[show ¬ ((i:Int) < 0) from by lia,if_false,eY,hx];refine bi ?_
 first | (refine bi (dU T (bw ?_))) | (refine bi (eT T (bw ?_)))
 refine bi (gT T ?_);show wpAny _ _ (setField (.ref it) 3 (rawInt ((i:Int) + 1)) >>= _) _ _ ⟨hp,g,dr,tk,os⟩
 refine bi (eR hit (by simp) λh₁ e1 s1=>?_)
 replace s1:dA it hp h₁:=s1
 replace e1:ItA h₁ it d (i + 1) es.size ep o0 f ok ov:=by
  have z:((i + 1:Nat):Int)=(i:Int) + 1:=by lia
  unfold ItA;rw[z];simpa[rawInt] using e1
 have T1:pH ⟨h₁,g,dr,tk,os⟩ (.ref it) "dict_itemiterator":=⟨_,e1,rfl⟩
 refine bi (fo ?_);refine bi (gT T1 ?_);refine bi (gT T1 ?_)
 show wpAny _ _ (gR (.ref it) 6 e.key e.val) _ _ ⟨h₁,g,dr,tk,os⟩
 unfold gR;refine bi (wpAny_newTuple ?_)
 have e2:ItA (h₁.push { cls:=.type "tuple",data:=.seq #[e.key,e.val] }) it d (i + 1) es.size ep o0 f ok ov:=bo _ e1
 generalize hg:h₁.push { cls:=.type "tuple",data:=.seq #[e.key,e.val] }=h₂ at e2
 have z1:h₁.objs.size=hp.objs.size:=s1.1;have il:it < hp.objs.size:=bY hit
 have t2:h₂.get? hp.objs.size=aa { cls:=.type "tuple",data:=.seq #[e.key,e.val] }:=by rw[<-hg,<-z1];exact bH _ rfl
 have z2:h₂.objs.size=hp.objs.size + 1:=by rw[<-hg,ip,z1]
 have k2:∀b o,b≠it->hp.get? b=aa o->h₂.get? b=aa o:=λb o hb z=>by rw[<-hg];exact bo _ (s1.extBut b o hb z)
 show wpAny _ _ (gK (.ref it) >>= _) _ _ ⟨h₂,g,dr,tk,os⟩;rw[z1]
 clear hg e1 s1 T1 z1 h₁;refine bi ?_;unfold gK
 rcases ho0 with ⟨rfl,rfl⟩ | ⟨a,oa,rfl,ha,hai⟩
 ·refine bi (lD e2 rfl (x:=.none) rfl (bw ?_));simp only[if_true]
  refine bi (lD e2 rfl (x:=ok) rfl ?_);refine bi (lD e2 rfl (x:=ov) rfl ?_)
  refine bi (eR e2 (by simp) λh₃ e3 s3=>?_);replace s3:dA it h₂ h₃:=s3;replace e3:ItA h₃ it d (i + 1) es.size ep .none ao e.key ov:=e3
  refine bi (eR e3 (by simp) λh₄ e4 s4=>?_);replace s4:dA it h₃ h₄:=s4;replace e4:ItA h₄ it d (i + 1) es.size ep .none ao e.key e.val:=e4
  refine bi (eR e4 (by simp) λh₅ e5 s5=>?_);replace s5:dA it h₄ h₅:=s5;replace e5:ItA h₅ it d (i + 1) es.size ep (rawInt (hp.objs.size:Nat)) ao e.key e.val:=e5
  refine bi (eR e5 (by simp) λh₆ e6 s6=>?_);replace s6:dA it h₅ h₆:=s6;replace e6:ItA h₆ it d (i + 1) es.size ep (rawInt (hp.objs.size:Nat)) ao e.key e.val:=e6
  have k6:∀b o,b≠it->h₂.get? b=aa o->h₆.get? b=aa o:=λb o hb z=>s6.extBut b o hb (s5.extBut b o hb (s4.extBut b o hb (s3.extBut b o hb z)))
  have t6:=k6 _ _ (eL il) t2
  refine bi (wpAny_letGo (bw (bw ⟨_,rfl,bw (q h₆ _ _ _ _ e6 (.inr ⟨_,_,rfl,t6,eL il⟩) t6 ?_ (λb o hb z=>k6 b o hb (k2 b o hb z)) λa z=>?_)⟩)))
  ·show h₆.objs.size=hp.objs.size + 1;rw[s6.1,s5.1,s4.1,s3.1,z2]
  ·refine .inl ?_
   have z':(iy (hp.objs.size:Nat) 0:af)=iy (a:Nat) 0:=z
   have z'':((hp.objs.size:Nat):Int)=((a:Nat):Int):=by injection z'
   exact(pJ z'').symm
 ·refine bi (lD e2 rfl (x:=rawInt (a:Nat)) rfl ?_);show wpAny _ _ (loadIfAlive (((a:Nat):Int).toNat) >>= _) _ _ _;rw[eY]
  have a2:h₂.get? a=aa oa:=k2 a oa hai ha
  refine bi (W.kdx_alive a2 ?_);simp only[Option.isNone_some,cG,if_false];refine bi (lD e2 rfl (x:=.bool f) rfl ?_)
  cases f with
  | true =>
   rw[ak (show ¬ ((gX ae != gX ae)=ae) from bO)];refine bw ?_;simp only[cG,if_false]
   exact bw (bw ⟨_,rfl,bw (q h₂ _ _ _ _ e2 (.inr ⟨_,_,rfl,a2,hai⟩) t2 z2 k2 λa z=>.inr z)⟩)
  | false =>
   rw[ap (show (gX ao != gX ae)=ae from rfl)];refine bi (eR e2 (by simp) λh₃ e3 s3=>?_)
   replace s3:dA it h₂ h₃:=s3;replace e3:ItA h₃ it d (i + 1) es.size ep (rawInt (a:Nat)) ae ok ov:=e3
   refine bw ?_;simp only[cG,if_false]
   exact bw (bw ⟨_,rfl,bw (q h₃ _ _ _ _ e3 (.inr ⟨_,_,rfl,s3.extBut _ _ hai a2,hai⟩) (s3.extBut _ _ (eL il) t2) (by show h₃.objs.size=_;rw[s3.1,z2]) (λb o hb z=>s3.extBut b o hb (k2 b o hb z)) λa z=>.inr z)⟩)
theorem zfu{Q:Option af->aj->Prop}(hh:A.handled=ai)(hit:ItA s.heap it d i es.size ep o0 f ok ov)(hm:RawD s.heap d es ep)(hx:es.size<=i)
  (q:∀h',Heap.ExtBut it s.heap h'->Q ai { s with heap:=h' }):wpAny (model P w) A (pyNext (.ref it)) Q E s:=by
 obtain⟨od,hod,hcd,hdd⟩:=id hm;have T:s.TypeIs (.ref it) "dict_itemiterator":=⟨_,hit,rfl⟩
 unfold pyNext;refine bi (iS (fq (name:=bg "__next__") T eh (dL eh T iG ?_ (io _))))
 refine bi (bw ?_);refine bi ?_;refine bi ?_
 first | (refine bi (dU T (bw ?_))) | (refine bi (eT T (bw ?_)))
 refine bi (lX hit rfl ?_);have own:dH "dict_itemiterator"=ae:=by decide
 simp only[own,if_true];show wpAny _ _ (if (bV d == cM)=ae then _ else _) _ _ s
 rw[ak (show ¬ ((bV d == cM)=ae) from bO)];refine bi (bw ?_);refine bi (e9 hod hdd ?_)
 rw[ak (by simp)];refine bi (bw ?_);refine bi (fZ hod hdd ?_);rw[ak (by simp)];refine bw ?_
 simp only[show ¬ ((i:Int) < 0) from by lia,if_false,eY,gS hx];refine bi ?_
 first | (refine bi (dU T (bw ?_))) | (refine bi (eT T (bw ?_)))
 show wpAny _ _ (setField (.ref it) 2 .none >>= _) _ _ s;refine bi (nG hit rfl (by simp) ?_)
 show wpAny _ _ (newExc (.type "StopIteration") [] >>= _) _ _ _;refine bi ?_;simp only[newExc,newTuple];refine bi (dv ?_ (by size_fits))
 refine bi (m:=firstArgMember _ _) (wpAny_of_eq (a:=cM) (by first | rfl | (simp only[firstArgMember];rfl)) ?_);refine dv ?_ (by size_fits)
 simp only[raiseNew];refine bi (wpAny_handled ?_);rw[show A.in1.handled=ai from hh];refine bi (bw (wpAny_throw ?_))
 refine bi (wpAny_isInstance (T:="StopIteration") (b:=ae) ⟨_,bH _ rfl,rfl⟩ isSubtype_stop ?_);exact bw (q _ (((ll ..).extBut.push _).push _))
end
end L2
namespace L2
open PySem PySem.Spec PyProof.Rows
def kS(r d:ag):HO:=.ext λh=>h.IsItemsView r d
def qv(td:TE):TE:=λσ H Q=>td σ H λx H1=>∃d kvs,x=.ref d/\H1 d=aa (.dT kvs)/\∀r,H1 r=ai->Q (.ref r) (upd H1 r (kS r d))
section
variable {X:Cx}{o:ay}{apos cpos:Pos}{td:TE}
theorem Yq(ho:PE X o td)(hbase:attributeBase o "items" X.env (eval o X.env)=eval o X.env:=by rfl)(hline:(apos.endLine == cpos.line)=ae:=by rfl):PE X (.Call (.Attribute o "items" apos) [] [] cpos) (qv td):=by
 intro pins s σ H Q I h
 refine my hbase hline (thn (ho pins s σ H _ I h) λv s1 ⟨x,H1,I1,r1,d,kvs,ex,hd,q1⟩=>?_)
 subst ex
 obtain rfl:v=bV d:=r1
 obtain⟨t1,t2,t3⟩:=zc1 I1 (.inr ⟨kvs,.inl hd⟩)
 refine⟨"dict","dict.items",mB,mH,PySem.F.type_dict_items,t1,t2,fK rfl (nJ ?_)⟩
 refine dL mH t1 PySem.F.entry_dict_items ?_ (PySem.F.args_dict_items_1 _)
 unfold Builtin.«dict.items»;refine bi ?_;unfold Builtin.Dict.noArgs;refine bi (iC t1 ?_)
 show wpAny _ _ (pure d) _ _ s1;refine bw ?_
 show wpAny _ _ (fY d >>= _) _ _ s1;unfold fY
 rw[ak (by rw[t3];exact bO)];refine bi (bw ?_)
 refine bi (dv (bw ⟨_,rfl,?_⟩))
 have hn:H1 s1.heap.objs.size=ai:=I1.hok.fresh (bq _)
 have at0:(s1.heap.push { cls:=.type "dict_items",data:=.fields #[.ref d] }).get? s1.heap.objs.size=aa { cls:=.type "dict_items",data:=.fields #[.ref d] }:=bH _ rfl
 refine⟨.ref s1.heap.objs.size,_,I1.laid (a:=s1.heap.objs.size) (o:=kS s1.heap.objs.size d) (t':=s1.toks) (λb u e=>bo _ e) (bq _) ?_,rfl,q1 _ hn⟩
 exact⟨⟨_,at0,rfl,rfl⟩,⟨_,at0⟩,λh1 h2 ⟨o,e1,e2⟩ k=>⟨o,k o e1,e2⟩⟩
end
def Yr(H:Hp)(v:V)(kv:List Key × V):Prop:=∃r p,v=.ref r/\H r=aa (.tup [.ref p,kv.2])/\H p=aa (.tup (kv.1.map kV))
theorem Qg{H H':Hp}(s:∀b ys,H b=aa (.tup ys)->H' b=aa (.tup ys)):∀ {vs:List V} {kvs:List (List Key × V)},Paired (Yr H) vs kvs->Paired (Yr H') vs kvs
 | _,_,.nil=>.nil
 | _,_,.cons ⟨r,p,e,h1,h2⟩ t=>.cons ⟨r,p,e,s _ _ h1,s _ _ h2⟩ (Qg s t)
theorem Qh{H:Hp}{v:V}{q:List Key × V}:∀ {ys:List V} {kvs:List (List Key × V)},Paired (Yr H) ys kvs->Yr H v q->Paired (Yr H) (ys ++ [v]) (kvs ++ [q])
 | _,_,.nil,h=>.cons h .nil
 | _,_,.cons a r,h=>.cons a (Qh r h)
section
variable {X:Cx}{A:av}{R:aA->aj->Prop}
theorem zdJ{σ:St}{H:Hp}{S it d:ag}{kvs:List (List Key × V)}{es:Array DictEntry}{ep:Nat}{res:af}(hh:A.handled=ai)(hS:H S=ai)(hd:H d=aa (.dT kvs))(Sit:S≠it)(dit:d≠it)(hz:kvs.length<=1000)
  (hes:es.size=kvs.length) (hen:∀(i:Nat) (e:DictEntry) (kv:List Key × V),es[i]?=aa e->kvs[i]?=aa kv->∃p,e.key=.ref p/\H p=aa (.tup (kv.1.map kV))/\RelV kv.2 e.val) (fin:∀s' H' ys,Inv X pins σ H' s'->Same H H'->H' S=aa (.lst ys)->Paired (Yr H') ys kvs->R (.ok (.ret res)) s') :
  ∀(k i:Nat) (s:aj) (Hi:Hp) (ys:List V) (o0 ok ov:af) (f:Bool),kvs.length - i=k->i<=kvs.length->Inv X pins σ Hi s->Same H Hi->Hi S=aa (.lst ys)->Paired (Yr Hi) ys (kvs.take i)->RawD s.heap d es ep->ItA s.heap it d i es.size ep o0 f ok ov ->
  ((o0=.none/\f=ao)\/∃(a:ag) (oa:Obj),o0=rawInt (a:Nat)/\s.heap.get? a=aa oa/\a≠it/\a≠S)->qe X pins Hi it ->
  codeAny (model X.prog X.w) A (.builtin "list.extend.loop" ⟨[.ref S,.ref it,res],[]⟩) R s:=by
 intro k
 induction k with
 | zero =>
  intro i s Hi ys o0 ok ov f hk hi I sm hy pr rd hit ho0 hf
  have e:i=kvs.length:=by lia
  subst e
  refine eJ lY ?_;rw[dw dP _]
  show wpAny _ A.in1 (pyNext (.ref it) >>= _) _ _ s
  obtain⟨f0,f1,f2,f3,f4,f5⟩:=hf
  refine bi (zfu (A:=A.in1) hh hit rd (by lia) λh' eb=>?_)
  have I1:=I.turned (t':=s.toks) (λb o hb e=>eb b o hb e) f0 f1 f3 f4 f5
  rw[dY] at pr
  exact bw (fin _ Hi ys I1 sm hy pr)
 | succ k ih =>
  intro i s Hi ys o0 ok ov f hk hi I sm hy pr rd hit ho0 hf
  have hlt:i < kvs.length:=by lia
  have hx:es[i]?=aa es[i]:=cF (by lia)
  have hkv:kvs[i]?=aa kvs[i]:=ba hlt
  obtain⟨p,ek,hp,rv⟩:=hen i _ _ hx hkv
  refine eJ lY ?_;rw[dw dP _]
  show wpAny _ A.in1 (pyNext (.ref it) >>= _) _ _ s
  obtain⟨f0,f1,f2,f3,f4,f5⟩:=id hf
  have ho0':(o0=.none/\f=ao)\/∃(a:ag) (oa:Obj),o0=rawInt (a:Nat)/\s.heap.get? a=aa oa/\a≠it:=by
   rcases ho0 with z | ⟨a,oa,z1,z2,z3,_⟩
   ·exact .inl z
   ·exact .inr ⟨a,oa,z1,z2,z3⟩
  refine bi (zdI (A:=A.in1) hit rd hx ho0' λh' o1 f1' k1 v1 hit' ho1 ht hz' kp own=>?_)
  have Sl:S < s.heap.objs.size:=by
   obtain⟨_,_,_,_,e⟩:=(show ObjOk X.prog X.w Hi s.heap S (.lst ys) from I.hok S _ hy)
   exact bY e
  have tn:s.heap.objs.size≠it:=eL (bY hit)
  have hTn:Hi s.heap.objs.size=ai:=I.hok.fresh (bq _)
  have STn:S≠s.heap.objs.size:=cz Sl
  generalize hT:s.heap.objs.size=T at *
  have I6:Inv X pins σ (upd Hi T (.tup [.ref p,kvs[i].2])) { s with heap:=s.heap.push { cls:=.type "tuple",data:=.seq #[es[i].key,es[i].val] } } :=
   I.laid (a:=T) (o:=.tup [.ref p,kvs[i].2]) (t':=s.toks) (λb u e=>bo _ e) (by rw[hT];exact bq _) ⟨by show 2<=sizeLine;decide,[es[i].key,es[i].val],.cons (by rw[ek];exact rfl) (.cons rv .nil),⟨_,by rw[<-hT];exact bH _ rfl,rfl,_,rfl⟩⟩
  have S6:Same Hi (upd Hi T (.tup [.ref p,kvs[i].2])):=isV T hTn
  have I7:Inv X pins σ (upd Hi T (.tup [.ref p,kvs[i].2])) { s with heap:=h' }:=I6.turned (s:={ s with heap:=s.heap.push { cls:=.type "tuple",data:=.seq #[es[i].key,es[i].val] } }) (t':=s.toks) (λb o hb e=>by
   rcases nF (show (s.heap.push { cls:=.type "tuple",data:=.seq #[es[i].key,es[i].val] }).get? b=aa o from e) with ⟨rfl,rfl⟩ | e
   ·rw[hT];exact ht
   ·exact kp b o hb e) (by rw[zl (cH tn)];exact f0) f1 f3 f4 f5
  have hy7:(upd Hi T (.tup [.ref p,kvs[i].2])) S=aa (.lst ys):=S6 _ _ hy
  obtain⟨z,its,n,r,hl,e⟩:=I7.lstM hy7
  have yl:ys.length=i:=by
   have:=bM pr
   rw[cm] at this
   lia
  show wpAny _ A.in1 (updateSeq S (·.push (bV T)) >>= _) _ _ _
  have e':h'.get? S=aa { cls:=.type "list",data:=.seq its.toArray n }:=e
  refine bi (lE (s:={ s with heap:=h' }) e' rfl ?_ (by rw[bN,<-r.length,yl];exact bR (by lia:i<=1000) (by decide)) (by rw[Array.size_push,bN,<-r.length,yl];exact bR (by lia:i + 1<=1001) (by decide)))
  have I8:=I7.lset (f:=λxs=>xs.push (bV T)) (t':=s.toks) (its':=its ++ [bV T]) hy7 e' (by simp) (r.append (.cons (show RelV (.ref T) (.ref T) from rfl) .nil)) (by rw[bt,yl];exact bR (by show i + 1<=1001;lia) (by decide))
  have up:∀b o,b≠S->h'.get? b=aa o->(h'.update S (dD (·.push (bV T)))).get? b=aa o:=λb o hb z=>(dN _ _ (cH hb)).trans z
  have dS:d≠S:=zG hd hS
  have tS:∀b zs,Hi b=aa (.tup zs)->(upd (upd Hi T (.tup [.ref p,kvs[i].2])) S (.lst (ys ++ [.ref T]))) b=aa (.tup zs):=λb zs z=>by
   rw[zl (yp z hy (by intro z;cases z))];exact S6 _ _ z
  have ri:∀ {a b:Nat},(rawInt (a:Int):af)=rawInt (b:Int)->a=b:=λ{a b} z=>by
   have z':(iy (a:Int) 0:af)=iy (b:Int) 0:=z
   have z'':(a:Int)=(b:Int):=by injection z'
   exact pJ z''
  refine bw ⟨gq dP _,ih (i + 1) _ _ (ys ++ [.ref T]) o1 k1 v1 f1' (by rw[Nat.sub_add_eq,hk];rfl) hlt I8 (λb o z=>?_) zf ?_ (rd.at λo z=>up d o dS (kp d o dit z)) (up it _ (cH Sit) hit') ?_ ⟨?_,f1,f2,f3,f4,f5⟩⟩
  ·rw[zl (zG z hS)];exact S6 _ _ (sm _ _ z)
  ·rw[cX,hkv]
   exact Qh (Qg tS pr) ⟨T,p,rfl,by rw[zl (cH STn),zf],tS _ _ (sm _ _ hp)⟩
  ·rcases ho1 with z | ⟨a,oa,z1,z2,z3⟩
   ·exact .inl z
   ·have aS:a≠S:=by
     rcases own a z1 with z | z
     ·rw[z];exact cH STn
     ·rcases ho0 with ⟨y1,_⟩ | ⟨a',oa',y1,_,_,y4⟩
      ·rw[y1] at z;cases z
      ·rw[y1] at z
       rw[<-ri z];exact y4
    exact .inr ⟨a,oa,z1,up a _ aS z2,z3,aS⟩
  ·rw[zl (cH Sit),zl (cH tn)];exact f0
end
end L2
namespace L2
open PySem PySem.Spec PyProof.Rows
abbrev Qi:RC:=λvs H Q=>∃r d kvs,vs=[.ref r]/\H r=aa (kS r d)/\H d=aa (.dT kvs)/\kvs.length<=1000/\∀l ys H',Same H H'->H l=ai->H' l=aa (.lst ys)->Paired (Yr H') ys kvs->Q (.ref l) H'
theorem zfv{H:Hp}(k:HOk P w H h)(e:H r=aa (kS r d)):h.IsItemsView r d:=(k r _ e).1
theorem zfw{H:Hp}:∀ {kvs:List (List Key × V)} {xs:List (List Key × ag × af)},Paired (λ(p:List Key × V) (q:List Key × ag × af)=>p.1=q.1/\H q.2.1=aa (.tup (p.1.map kV))/\RelV p.2 q.2.2) kvs xs->∀ {i:Nat} {kv:List Key × V} {x:List Key × ag × af},kvs[i]?=aa kv->xs[i]?=aa x->H x.2.1=aa (.tup (kv.1.map kV))/\RelV kv.2 x.2.2 :=
 λ{_ _} h {_ _ _} e1 e2=>(yo h e1 e2).2
section
variable {X:Cx}
theorem zg3{σ:St}{H:Hp}{s:aj}{d:ag}{kvs:List (List Key × V)}(I:Inv X pins σ H s)(e:H d=aa (.dT kvs)):∃es ep,RawD s.heap d es ep/\es.size=kvs.length /\
  ∀(i:Nat) (en:DictEntry) (kv:List Key × V),es[i]?=aa en->kvs[i]?=aa kv->∃p,en.key=.ref p/\H p=aa (.tup (kv.1.map kV))/\RelV kv.2 en.val:=by
 obtain⟨z,hd,xs,rel,o,es,ep,h1,h2,h3,h4,_⟩:=(show ObjOk X.prog X.w H s.heap d (.dT kvs) from I.hok d _ e)
 have l1:es.size=xs.length:=by rw[<-cy,h4,bu]
 refine⟨es,ep,⟨o,h1,h2,h3⟩,by rw[l1,<-bM rel],λi en kv e1 e2=>?_⟩
 have e3:es.toList[i]?=aa en:=by rw[dF];exact e1
 rw[h4,bW] at e3
 obtain⟨x,hx,rfl⟩:=dy.mp e3
 obtain⟨g1,g2⟩:=zfw rel e2 hx
 exact⟨x.2.1,rfl,g1,g2⟩
theorem Jd{A:av}{R:aA->aj->Prop}{pins:List (ag × Obj)}{σ:St}{H:Hp}{s:aj}{S r d:ag}{kvs:List (List Key × V)}{res:af}{c:Nat}(hh:A.handled=ai)(hS:H S=ai)(hr:H r=aa (kS r d))(hd:H d=aa (.dT kvs))(hl:kvs.length<=1000)
  (I2:Inv X pins σ (upd H S (.lst [])) s) (T2:s.heap.get? S=aa { cls:=.type "list",data:=.seq #[] c }) (hR:∀s' H' ys,Inv X pins σ H' s'->Same H H'->H' S=aa (.lst ys)->Paired (Yr H') ys kvs->R (.ok (.ret res)) s') :
  wpAny (model X.prog X.w) A.in1 (dq (.ref S) (.ref r) res) (λfin s'=>match fin with | .done f=>R (.ok f) s' | .again c'=>c'.quiet=ae/\codeAny (model X.prog X.w) A c' R s') (λe s'=>R (.error e) s') s:=by
 have Sr:r≠S:=zG hr hS
 have Sd:d≠S:=zG hd hS
 have SS:Same H (upd H S (.lst [])):=isV S hS
 obtain⟨es,ep,rd,hes,hen0⟩:=zg3 I2 (SS _ _ hd)
 have hen:∀(i:Nat) (en:DictEntry) (kv:List Key × V),es[i]?=aa en->kvs[i]?=aa kv->∃p,en.key=.ref p/\H p=aa (.tup (kv.1.map kV))/\RelV kv.2 en.val:=λi en kv e1 e2=>by
  obtain⟨p,g1,g2,g3⟩:=hen0 i en kv e1 e2
  refine⟨p,g1,?_,g3⟩
  by_cases hp:p=S
  ·rw[hp,zf] at g2;cases g2
  ·rwa [zl hp] at g2
 have vw:=zfv I2.hok (SS _ _ hr)
 unfold dq
 refine bi (oN (T:="dict_items") vw.typeIs ?_)
 have c1:ml (.ref S) (.ref r)=ao:=by simp[ml,cH Sr]
 have c2:(lZ "dict_items" == lZ "list")=ao:=by decide
 have c3:(lZ "dict_items" == lZ "tuple")=ao:=by decide
 simp only[c1,c2,c3,nU,cG,if_false]
 refine bi (zdH vw rd ?_)
 have ni:(upd H S (.lst [])) s.heap.objs.size=ai:=I2.hok.fresh (bq _)
 have fp:qe X pins (upd H S (.lst [])) s.heap.objs.size:=I2.fpOk (bq _) ni
 have Si:S≠s.heap.objs.size:=cz (bY T2)
 have di:d≠s.heap.objs.size:=cz rd.lt
 have I3:Inv X pins σ (upd H S (.lst [])) { s with heap:=s.heap.push { cls:=.type "dict_itemiterator",data:=.fields #[.none,.bool ao,.ref d,.int 0 0,.int es.size 0,.int ep 0,.none,.none] } }:=I2.kept (t':=s.toks) λb o e=>bo _ e
 have T3:=bo { cls:=.type "dict_itemiterator",data:=.fields #[.none,.bool ao,.ref d,.int 0 0,.int es.size 0,.int ep 0,.none,.none] } T2
 have it3:ItA (s.heap.push { cls:=.type "dict_itemiterator",data:=.fields #[.none,.bool ao,.ref d,.int 0 0,.int es.size 0,.int ep 0,.none,.none] }) s.heap.objs.size d 0 es.size ep .none ao .none .none:=bH _ rfl
 have rd3:RawD (s.heap.push { cls:=.type "dict_itemiterator",data:=.fields #[.none,.bool ao,.ref d,.int 0 0,.int es.size 0,.int ep 0,.none,.none] }) d es ep:=rd.at λo e=>bo _ e
 have vw3:(s.heap.push { cls:=.type "dict_itemiterator",data:=.fields #[.none,.bool ao,.ref d,.int 0 0,.int es.size 0,.int ep 0,.none,.none] }).IsItemsView r d:=let ⟨o,ho,x⟩:=vw;⟨o,bo _ ho,x⟩
 generalize hh3:s.heap.push { cls:=.type "dict_itemiterator",data:=.fields #[.none,.bool ao,.ref d,.int 0 0,.int es.size 0,.int ep 0,.none,.none] }=h3 at *
 generalize s.heap.objs.size=it at *
 refine bi (fo (W.kdx_hint vw3.typeIs ?_))
 have fin:∀(h4:aw) (tk:Nat) (R:aA->aj->Prop),(∀s' H' ys,Inv X pins σ H' s'->Same H H'->H' S=aa (.lst ys)->Paired (Yr H') ys kvs->R (.ok (.ret res)) s')->Inv X pins σ (upd H S (.lst [])) { s with heap:=h4,toks:=tk }->RawD h4 d es ep->ItA h4 it d 0 es.size ep .none ao .none .none ->
   codeAny (model X.prog X.w) A (.builtin "list.extend.loop" ⟨[.ref S,.ref it,res],[]⟩) R { s with heap:=h4,toks:=tk }:=λh4 tk R hR I4 rd4 it4 =>
  zdJ (A:=A) (H:=H) (es:=es) (ep:=ep) hh hS hd Si di hl hes hen hR kvs.length 0 _ (upd H S (.lst [])) [] .none .none .none ao (oK _) (cp _) I4 SS zf .nil rd4 it4 (.inl ⟨rfl,rfl⟩) fp
 refine wpAny_ite_split (λ_=>?_) (λ_=>bw ⟨gq dP _,fin h3 s.toks _ hR I3 rd3 it3⟩)
 refine bi (ik ?_);refine bi ?_
 show wpAny _ _ (updateSeq S (·.push .none) >>= λ_=>updateSeq S (·.pop)) _ _ _;refine bi (lE T3 rfl ?_)
 have T4:=iE (dD (·.push cM)) T3 rfl
 refine lE (hz:=by seq_fits) T4 rfl ?_
 have I4:=I3.lset (f:=λxs=>xs.push cM) (its:=[]) (its':=[cM]) (ys:=[V.non]) (t':=s.toks) zf T3 rfl (.cons rfl .nil) (by show 1<=sizeLine;decide)
 have I5:=I4.lset (f:=λxs=>xs.pop) (its:=[cM]) (its':=[]) (ys:=[]) (t':=s.toks) zf T4 rfl .nil (cp _)
 rw[XX,XX] at I5
 have oth:∀b o,b≠S->h3.get? b=aa o->((h3.update S (dD (·.push cM))).update S (dD (·.pop))).get? b=aa o:=λb o hb e=>(dN _ _ (cH hb)).trans ((dN _ _ (cH hb)).trans e)
 exact bw ⟨gq dP _,fin _ s.toks _ hR I5 (rd3.at λo e=>oth d o Sd e) (oth it _ (cH Si) it3)⟩
theorem kT(hc:X.calm=ae):kQ X (.type "list") Qi:=by
 intro pins s σ H vs us Q I r0 h
 obtain⟨r,d,kvs,rfl,hr,hd,hl,q⟩:=h
 obtain⟨u,rfl,ru⟩:=Zr r0
 cases ru
 have hh:X.A.handled=ai:=I.ok.hd hc
 refine callType_codes (Q₁:=λobj s₁=>obj=.ref s.heap.objs.size/\s₁={ s with heap:=s.heap.push { cls:=.type "list",data:=.seq #[] } }) PySem.F.called_list (PySem.F.typeCall_list_1 _) PySem.F.entry_list_init (code_list_new _ ⟨rfl,rfl⟩) ?_;rintro obj s₁ ⟨rfl,rfl⟩
 have hS:H s.heap.objs.size=ai:=I.hok.fresh (bq _)
 have I1:Inv X pins σ (upd H s.heap.objs.size (.lst [])) { s with heap:=s.heap.push { cls:=.type "list",data:=.seq #[] } }:=I.lnew (its:=[]) (t':=s.toks) .nil (cp _)
 have T0:(s.heap.push { cls:=.type "list",data:=.seq #[] }).get? s.heap.objs.size=aa { cls:=.type "list",data:=.seq #[] }:=bH _ rfl
 generalize hT:s.heap.objs.size=S at *
 refine⟨⟨_,T0,rfl⟩,PySem.F.args_list_init_2 _ _,?_⟩
 show wpAny _ _ (do let old <-mV (.ref S);Builtin.List.listUpdate (.ref S) (λ_=>#[]);letGo old.toList.reverse;dq (.ref S) (.ref r) .none) _ _ _
 refine bi ?_;unfold mV;refine bi (wpAny_seqItems T0 rfl (bw ?_))
 show wpAny _ _ (updateSeq S (λ_=>#[]) >>= λ_=>letGo (#[]:Array af).toList.reverse >>= λ_=>dq (.ref S) (.ref r) .none) _ _ _
 refine bi (lE T0 rfl ?_)
 have I2:=I1.lset (f:=λ_=>(#[]:Array af)) (its:=[]) (its':=[]) (ys:=[]) (t':=s.toks) zf T0 rfl .nil (cp _)
 rw[XX] at I2
 have T2:=iE (dD (λ_=>(#[]:Array af))) T0 rfl
 refine bi (wpAny_letGo ?_)
 generalize hh2:(s.heap.push { cls:=.type "list",data:=.seq #[] }).update S (dD (λ_=>(#[]:Array af)))=h2 at *
 exact Jd (A:=X.A.in1) (H:=H) hh hS hr hd hl I2 T2 λs' H' ys I' sm hy pr=>⟨rfl,.ref S,H',I',rfl,q S ys H' sm hS hy pr⟩
end
end L2
namespace L2
open PySem PySem.Spec PyProof.Rows PySem.W
section
variable {X:Cx}
theorem zaA{E:af->aj->Prop}{R:List af->aj->Prop}{pins:List (ag × Obj)}{σ:St}{H:Hp}{s:aj}{r d:ag}{kvs:List (List Key × V)}(hh:A.handled=ai)(hr:H r=aa (kS r d))(hd:H d=aa (.dT kvs))(hl:kvs.length<=1000)(I:Inv X pins σ H s)
  (h:∀s1 H' ys us,Inv X pins σ H' s1->Same H H'->Paired (Yr H') ys kvs->Vals ys us->R us s1):wpAny (model X.prog X.w) A (collect (.ref r)) R E s:=by
 have hS:H s.heap.objs.size=ai:=I.hok.fresh (bq _)
 have I1:Inv X pins σ (upd H s.heap.objs.size (.lst [])) { s with heap:=s.heap.push { cls:=.type "list",data:=.seq ([]:List af).toArray } }:=I.lnew (its:=[]) (t':=s.toks) .nil (cp _)
 have T1:(s.heap.push { cls:=.type "list",data:=.seq ([]:List af).toArray }).get? s.heap.objs.size=aa { cls:=.type "list",data:=.seq #[] }:=bH _ rfl
 unfold collect;refine bi (wpAny_runValue (eJ nE ?_));rw[dw lq _]
 show wpAny _ A.in1 (newList [] >>= λl=>again (.builtin "list.__iadd__" ⟨[l,.ref r],[]⟩)) _ _ s;refine bi (dv ?_)
 refine bw ⟨gq fu _,eJ entry_list_iadd' ?_⟩;rw[dw fu _]
 generalize s.heap.objs.size=S at *
 show wpAny _ A.in1 (dq (.ref S) (.ref r) (.ref S)) _ _ _
 have key:=Jd (A:=A) (R:=λ(q:aA) (s':aj)=>∃H' ys,q=.ok (.ret (.ref S))/\Inv X pins σ H' s'/\Same H H'/\H' S=aa (.lst ys)/\Paired (Yr H') ys kvs) (res:=.ref S) hh hS hr hd hl I1 T1 λs' H' ys I' sm hy pr=>⟨H',ys,rfl,I',sm,hy,pr⟩
 have fin:∀s':aj,(∃H' ys,Inv X pins σ H' s'/\Same H H'/\H' S=aa (.lst ys)/\Paired (Yr H') ys kvs)->wpAny (model X.prog X.w) A (load S >>= λo=>match o.data with | .seq xs _=>pure xs.toList | _=>unsupported "internal:collect") R E s':=λs' ⟨H',ys,I',sm,hy,pr⟩=>by
  obtain⟨z,its,n,rv,hl',e⟩:=I'.lstM hy
  refine bi (nr e ?_)
  refine bw ?_
  exact h s' H' ys its I' sm pr rv
 refine dh key (λf s' x=>?_) λe s' x=>?_
 ·cases f with
  | done f =>
   obtain⟨H',ys,e,x⟩:=x
   cases e
   exact fin s' ⟨H',ys,x⟩
  | again c₁ =>
   refine⟨x.1,eN x.2 λq s₂ y=>?_⟩
   obtain⟨H',ys,rfl,y⟩:=y
   exact fin s₂ ⟨H',ys,y⟩
 ·obtain⟨_,_,e',_⟩:=x
  cases e'
end
section
variable {P:aq}{w:au}{A:av}{E:af->aj->Prop}{s:aj}
theorem zdK{a b:Str × Int}{Q:Bool->aj->Prop}(hu:A.units < cLine)(hx:PlAt s.heap (.ref x) a)(hy:PlAt s.heap (.ref y) b)(h:Q (yf a b) s):wpAny (model P w) A (oneLt' ao (.ref x) (.ref y)) Q E s:=by
 obtain⟨p,o,t,u,n,e1,ho,hc,hd⟩:=hx
 obtain⟨p2,o2,t2,u2,n2,e2,ho2,hc2,hd2⟩:=hy
 cases e1
 cases e2
 obtain⟨c,dd,dat,sl⟩:=o
 obtain⟨c2,dd2,dat2,sl2⟩:=o2
 simp only at hc hd hc2 hd2
 subst hc hd hc2 hd2
 have T1:s.TypeIs (.ref x) "tuple":=⟨_,ho,rfl⟩
 have T2:s.TypeIs (.ref y) "tuple":=⟨_,ho2,rfl⟩
 refine kat_one _ _ ?_
 show wpAny _ _ (richCompare .Lt (.ref x) (.ref y)) _ _ _
 refine wpAny_richCompare_same_room T1 T2 m7 ?_ hu
 exact l7 m7 T1 PySem.F.entry_tuple_lt (PySem.F.args_tuple_lt_2 _ _) (Wy x y a.1 b.1 a.2 b.2 t u t2 u2 n n2 dd dd2 sl sl2) ⟨ho,ho2,by simp,h⟩
theorem zdL{a:Str × Int}(hx:PlAt h (.ref x) a):IsTupleKey (yQ P w) h (zI a) x:=by
 obtain⟨p,o,t,u,n,e1,ho,hc,hd⟩:=hx
 cases e1
 exact⟨o,_,n,ho,hc,hd,YK (ks:=zI a) (.cons ⟨t,rfl⟩ (.cons ⟨u,rfl⟩ .nil))⟩
def RvAt(h:aw)(v:af)(q:Row):Prop:=∃a o p t n,v=.ref a/\h.get? a=aa o/\o.cls=.type "tuple"/\o.data=.seq #[.ref p,.int q.2 t] n/\PlAt h (.ref p) q.1
theorem RvAt.keep(x:RvAt h v q)(k:∀b o,h.get? b=aa o->h'.get? b=aa o):RvAt h' v q:=by
 obtain⟨a,o,p,t,n,e,ho,hc,hd,hp⟩:=x
 exact⟨a,o,p,t,n,e,k _ _ ho,hc,hd,hp.keep k⟩
theorem zfx{Q:Bool->aj->Prop}(hu:A.units < cLine)(hx:RvAt s.heap x a)(hy:RvAt s.heap y b)(h:Q (yf a.1 b.1) s)(hn:a.1≠b.1):wpAny (model P w) A (keyLt' (tuples' ao) x y) Q E s:=by
 obtain⟨p,o,pp,t,n,rfl,ho,hc,hd,hp⟩:=hx
 obtain⟨p2,o2,pp2,t2,n2,rfl,ho2,hc2,hd2,hp2⟩:=hy
 refine kat_lt ho hd ho2 hd2 (kat_cons (wpAny_eqBool_tuple (knd:=yQ P w) hu (zdL hp) (zdL hp2) (kat_go (λe=>?_) λe=>kat_no ?_)))
 ·exact absurd (xz (of_decide_eq_true e)) hn
 ·exact zdK hu hp hp2 h
theorem zdM{vs:List af}{qs:List Row}{Q:SortKind->aj->Prop}(hl:vs.length=qs.length)(hv:∀(i:Nat) (v:af) (q:Row),vs[i]?=aa v->qs[i]?=aa q->RvAt s.heap v q)(h2:0 < vs.length)(h:Q (tuples' ao) s) :
  wpAny (model P w) A (keyKind' vs.toArray) Q E s:=by
 have T:∀(vs:List af) (qs:List Row),vs.length=qs.length->(∀(i:Nat) (v:af) (q:Row),vs[i]?=aa v->qs[i]?=aa q->RvAt s.heap v q)->∃fs,KatTups s.heap vs fs/\fs.length=vs.length/\∀v∈fs,∃p o,v=bV p/\s.heap.get? p=aa o/\o.cls=.type "tuple":=by
  intro vs
  induction vs with
  | nil=>exact λqs _ _=>⟨[],trivial,rfl,λ_ z=>nomatch z⟩
  | cons v r ih =>
   intro qs hl hv
   match qs,hl with
   | q :: qr,hl =>
    obtain⟨fs,k,kl,kf⟩:=ih qr (by simpa using hl) λi v' q' e1 e2=>hv (i + 1) v' q' (by simpa using e1) (by simpa using e2)
    obtain⟨a,o,p,t,n,rfl,ho,hc,hd,hp⟩:=hv 0 v q rfl rfl
    refine⟨.ref p :: fs,pK ho hc hd rfl k,by simp[kl],λz hz=>?_⟩
    rcases bS.mp hz with rfl | hz
    ·obtain⟨p',o',_,_,_,e,g1,g2,_⟩:=hp
     cases e
     exact⟨_,o',rfl,g1,g2⟩
    ·exact kf z hz
 obtain⟨fs,k,kl,kf⟩:=T vs qs hl hv
 refine kat_kind (T:=.type "tuple") k (by lia) (λv hv=>?_) (by decide) h
 obtain⟨p,o,rfl,g1,g2⟩:=kf v hv
 exact g2 ▸ (pB g1).andThen .now
theorem JU{l:ag}{κ:SortKind}{Q:af->aj->Prop}(G:List af->(Nat->Nat->Bool)->aj->Prop)
  (coll:∀R:List af->aj->Prop,(∀vs lt s1,G vs lt s1->R vs s1)->wpAny (model P w) A.in1 (collect (.ref l)) R E s)
  (h64:∀vs lt s1,G vs lt s1->vs.length < 1000/\SO lt vs.length)
  (hk:∀vs lt s1,G vs lt s1->2<=vs.length->∀(h:aw) (Q:SortKind->aj->Prop),(∀b o,s1.heap.get? b=aa o->h.get? b=aa o)->Q κ { s1 with heap:=h }->wpAny (model P w) A.in1.in1 (keyKind' vs.toArray) Q (λ_ _=>False) { s1 with heap:=h })
  (hc:∀vs lt s1,G vs lt s1->∀(h:aw) i j C,(∀b o,s1.heap.get? b=aa o->h.get? b=aa o)->i < vs.length->j < vs.length->i≠j->C (lt i j) { s1 with heap:=h }->kas_ask P w A.in1.in1 κ vs i j C { s1 with heap:=h })
  (fin:∀vs lt s1,G vs lt s1->∀(h':aw) (p:Array Nat) (c:Nat),(∀b o,s1.heap.get? b=aa o->h'.get? b=aa o)->h'.get? s1.heap.objs.size=aa (seqObj "list" (vC vs p).toArray c)->PP vs.length p->Vk lt p vs.length->Q (.ref s1.heap.objs.size) { s1 with heap:=h' }) :
  wpAny (model P w) A (call (.builtin "sorted") [.ref l]) Q E s:=by
 refine lW kind_sorted plain_sorted entry_sorted (args_sorted1 _) ?_;unfold Builtin.«sorted»
 refine bi (m:=checkCount "sorted" 1 1 _) (bw ?_);refine bi (coll _ λvs lt s1 g=>?_)
 obtain⟨l64,S⟩:=h64 vs lt s1 g
 refine bi (n9 ?_ (by rw[dX];lia))
 have hoL:(s1.heap.push (seqObj "list" vs.toArray 0)).get? s1.heap.objs.size=aa (seqObj "list" vs.toArray 0):=bH _ rfl
 have kept:∀h',Kp s1.heap.objs.size (s1.heap.push (seqObj "list" vs.toArray 0)) h'->∀b o,s1.heap.get? b=aa o->h'.get? b=aa o:=λh' k b o e=>k b o (cz (bY e)) (bo _ e)
 refine bi (fo (dL slot_list_sort ⟨_,hoL,rfl⟩ entry_list_sort (Ww (s:={ s1 with heap:=s1.heap.push (seqObj "list" vs.toArray 0) }) hoL l64 (κ:=κ) (lt:=lt) (λh2 h' Q' k q=>?_) (λh' i j C k hi hj hij q=>?_) S λh' p c k ho hp hr=>?_) (args_list_sort _)))
 ·exact hk vs lt s1 g h2 h' Q' (kept h' k) q
 ·exact hc vs lt s1 g h' i j C (kept h' k) hi hj hij q
 ·exact⟨_,rfl,bw ⟨_,rfl,fin vs lt s1 g h' p c (kept h' k) ho hp hr⟩⟩
end
end L2
namespace L2
open PySem PySem.Spec PyProof.Rows PySem.W
def d0:Row:=(("",0),0)
theorem zdN(rows:List Row):∃its:List Row,dOf rows=its.map (λq=>(zI q.1,V.int q.2))/\(its.map (·.1)).Nodup/\∀p w,(p,w)∈its↔zq rows p=aa w:=by
 have h:=vQ rows
 have:∀(kvs:List (List Key × V)),(∀kv∈kvs,∃(p:Pl) (w:Int),kv=(zI p,.int w))->∃its:List Row,kvs=its.map (λq=>(zI q.1,V.int q.2)):=λkvs=>by
  induction kvs with
  | nil=>exact λ_=>⟨[],rfl⟩
  | cons kv r ih =>
   intro hk
   obtain⟨qs,e⟩:=ih λz hz=>hk z (bE _ hz)
   obtain⟨p,w,e2⟩:=hk kv bC
   exact⟨(p,w) :: qs,by rw[b7,<-e,e2]⟩
 obtain⟨its,e⟩:=this _ h.2
 refine⟨its,e,?_,λp w=>?_⟩
 ·have:=h.1
  rw[e,dR] at this
  refine wR (f:=zI) ?_
  rw[dR]
  exact this
 ·have m:=mem_dOf (rows:=rows) (kv:=(zI p,V.int w))
  constructor
  ·intro hm
   obtain⟨p',w',e1,e2⟩:=m.mp (by rw[e];exact cj.mpr ⟨_,hm,rfl⟩)
   have e3:=xz (nN e1).1
   have e4:=V.int.inj (nN e1).2
   rw[e3,e4];exact e2
  ·intro hw
   have hm:=m.mpr ⟨p,w,rfl,hw⟩
   rw[e] at hm
   obtain⟨q,hq,e1⟩:=cj.mp hm
   have e3:=xz (nN e1).1
   have e4:=V.int.inj (nN e1).2
   rw[<-e3,<-e4];exact hq
theorem WD{α:Type}(l:List α)(d:α):(bI l.length).map (λi=>l.getD i d)=l:=by
 apply eZ
 intro i
 rw[bW]
 by_cases hi:i < l.length
 ·rw[fm hi,ba hi]
  simp[bh,ba hi]
 ·rw[cR (by simpa using hi),cR (by lia)]
  rfl
theorem PP.list(h:PP n p):p.toList.Perm (bI n):=by
 have:=gv.mp h
 simpa using this
theorem PP.lt(h:PP n p):∀i∈p.toList,i < n:=λi hi=>by
 have:=h.list.mem_iff.mp hi
 simpa using this
theorem WE{α:Type}{F:α->α->Bool}{l:List α}{d:α}{n:Nat}(hp:PP n p)(hr:Vk (λi j=>F (l.getD i d) (l.getD j d)) p n):(p.toList.map λi=>l.getD i d).Pairwise λa b=>F a b=ae:=by
 rw[fc,c9]
 intro i j hi hj hij
 rw[cy] at hi hj
 have g1:=wZ hi
 have g2:=wZ hj
 have sz:=hp.size
 have r:=hr i j hij (by lia)
 have x1:p.toList[i]=gt p i:=by
  rw[cF hi] at g1
  simpa using g1
 have x2:p.toList[j]=gt p j:=by
  rw[cF hj] at g2
  simpa using g2
 rw[x1,x2];exact r
theorem jb{α β:Type}{F:α->β->Prop}{l₁:List α}{l₂:List β}(h:Paired F l₁ l₂)(a:α)(b:β):∀ {is:List Nat},(∀i∈is,i < l₁.length)->Paired F (is.map λi=>l₁.getD i a) (is.map λi=>l₂.getD i b)
 | [],_=>.nil
 | i :: r,hi=>by
  have l:=bM h
  have h1:=hi i bC
  refine .cons ?_ (jb h a b λj hj=>hi j (bE _ hj))
  show F (l₁.getD i a) (l₂.getD i b)
  have e1:=ba h1
  have e2:l₂[i]?=aa l₂[i]:=ba (by lia)
  rw[bh,bh,e1,e2]
  exact yo h e1 e2
abbrev Qj:RC:=λvs H Q=>∃r d rows,vs=[.ref r]/\H r=aa (kS r d)/\H d=aa (.dT (dOf rows))/\(dOf rows).length < 1000 /\
 ∀l ys srt H',Same H H'->H l=ai->H' l=aa (.lst ys)->Paired (PrAt H') ys srt->Rising srt->(∀p w,(p,w)∈srt↔zq rows p=aa w)->Q (.ref l) H'
theorem zbz{H:Hp}:∀ {ys:List V} {its:List Row},Paired (Yr H) ys (its.map λq=>(zI q.1,V.int q.2))->Paired (PrAt H) ys its
 | _,[],h=>by cases h;exact .nil
 | _,q :: r,h=>by
  rw[b7] at h
  cases h with
  | cons a t=>exact .cons a (zbz t)
section
variable {X:Cx}
theorem zh0{σ:St}{H:Hp}{s:aj}{v:V}{u:af}{q:Row}(I:Inv X pins σ H s)(h:PrAt H v q)(r:RelV v u):RvAt s.heap u q:=by
 obtain⟨a,p,rfl,h1,h2⟩:=h
 cases r
 obtain⟨_,its,rv,o,o1,o2,n,o3⟩:=(show ObjOk X.prog X.w H s.heap a (.tup [.ref p,.int q.2]) from I.hok a _ h1)
 cases rv with
 | cons r1 rr =>
  cases rr with
  | cons r2 rn =>
   cases rn
   cases r1
   obtain⟨t,rfl⟩:=r2
   exact⟨a,o,p,t,n,rfl,o1,o2,o3,Qa I h2⟩
theorem jc(hc:X.calm=ae)(hu:X.A.units + 3 < cLine):kQ X (.builtin "sorted") Qj:=by
 intro pins s σ H vs us Q I r0 h
 obtain⟨r,d,rows,rfl,hr,hd,h64,q⟩:=h
 obtain⟨u,rfl,ru⟩:=Zr r0
 cases ru
 have hh:X.A.handled=ai:=I.ok.hd hc
 obtain⟨its,ei,nd,mi⟩:=zdN rows
 have li:(dOf rows).length=its.length:=by rw[ei,bu]
 have so:=Wx nd
 have vat:∀ {s1:aj} {H':Hp} {ys:List V} {vs:List af},Inv X pins σ H' s1->Paired (PrAt H') ys its->Vals ys vs->∀(i:Nat) (q:Row),its[i]?=aa q->∃v,vs[i]?=aa v/\RvAt s1.heap v q:=λ{s1 H' ys vs} I' pr rv i q hq=>by
  have hi:=(bn.mp hq).1
  have l1:=bM pr
  obtain⟨y,hy⟩:∃y,ys[i]?=aa y:=⟨_,ba (by lia)⟩
  obtain⟨u,hu',ru⟩:=rv.get hy
  exact⟨u,hu',zh0 I' (yo pr hy hq) ru⟩
 refine JU (κ:=tuples' ao) (λvs lt s1=>∃H' ys,Inv X pins σ H' s1/\Same H H'/\Paired (PrAt H') ys its/\Vals ys vs/\lt=λi j=>yf ((its.map (·.1)).getD i (("",0):Pl)) ((its.map (·.1)).getD j (("",0):Pl)))
  (λR hR=>zaA (A:=X.A.in1) hh hr hd (by lia) I λs1 H' ys us I' sm pr rv=>hR us _ s1 ⟨H',ys,I',sm,zbz (by rw[<-ei];exact pr),rv,rfl⟩) ?_ ?_ ?_ ?_
 ·rintro vs lt s1 ⟨H',ys,I',sm,pr,rv,rfl⟩
  have l1:=bM pr
  have l2:=rv.length
  refine⟨by lia,?_⟩
  rw[show vs.length=(its.map (·.1)).length by rw[bu];lia]
  exact so
 ·rintro vs lt s1 ⟨H',ys,I',sm,pr,rv,rfl⟩ h2 h Q' k q'
  have l1:=bM pr
  have l2:=rv.length
  refine zdM (s:={ s1 with heap:=h }) (qs:=its) (by lia) (λi v q hv hq=>?_) (by lia) q'
  obtain⟨v',hv',rr⟩:=vat I' pr rv i q hq
  rw[hv] at hv'
  cases hv'
  exact rr.keep k
 ·rintro vs lt s1 ⟨H',ys,I',sm,pr,rv,rfl⟩ h i j C k hi hj hij q'
  have l1:=bM pr
  have l2:=rv.length
  have e1:its[i]?=aa its[i]:=ba (by lia)
  have e2:its[j]?=aa its[j]:=ba (by lia)
  obtain⟨v1,g1,r1⟩:=vat I' pr rv i _ e1
  obtain⟨v2,g2,r2⟩:=vat I' pr rv j _ e2
  have n1:(its.map (·.1)).getD i (("",0):Pl)=its[i].1:=by rw[bh,bW,e1];rfl
  have n2:(its.map (·.1)).getD j (("",0):Pl)=its[j].1:=by rw[bh,bW,e2];rfl
  have m1:vs.getD i cM=v1:=by rw[bh,g1];rfl
  have m2:vs.getD j cM=v2:=by rw[bh,g2];rfl
  simp only[n1,n2] at q'
  have key:=zfx (P:=X.prog) (w:=X.w) (A:=X.A.in1.in1) (E:=λ_ _=>False) (s:={ s1 with heap:=h }) (Q:=C) (by have e:X.A.in1.in1.units=X.A.units + 2:=rfl;lia) (r1.keep k) (r2.keep k) q' λz=>hij (by
   have e3:(its.map (·.1))[i]?=aa its[i].1:=by rw[bW,e1];rfl
   have e4:(its.map (·.1))[j]?=aa its[j].1:=by rw[bW,e2];rfl
   rw[z] at e3
   exact(List.getElem?_inj (by rw[bu];lia) nd).mp (e3.trans e4.symm))
  rw[<-m1,<-m2] at key
  exact key
 ·rintro vs lt s1 ⟨H',ys,I',sm,pr,rv,rfl⟩ h' p c k hD hp hr
  have l1:=bM pr
  have l2:=rv.length
  have hp':PP its.length p:=by rw[show its.length=vs.length by lia];exact hp
  have fr:H' s1.heap.objs.size=ai:=I'.hok.fresh (bq _)
  have sz:=hp'.size
  have pk:=jb pr V.non d0 (is:=p.toList) λi hi=>by have:=hp'.lt i hi;lia
  have vk:Vals (p.toList.map λi=>ys.getD i V.non) (vC vs p):=jb rv V.non cM (is:=p.toList) λi hi=>by have:=hp'.lt i hi;lia
  have I2:Inv X pins σ (upd H' s1.heap.objs.size (.lst (p.toList.map λi=>ys.getD i V.non))) { s1 with heap:=h' }:=I'.laid (a:=s1.heap.objs.size) (o:=.lst (p.toList.map λi=>ys.getD i V.non)) (t':=s1.toks) k (bq _)
   ⟨by rw[bu,cy];exact bR (by lia:_<=1000) (by decide),vC vs p,c,vk,hD⟩
  have S2:Same H' (upd H' s1.heap.objs.size (.lst (p.toList.map λi=>ys.getD i V.non))):=isV _ fr
  have hn:H s1.heap.objs.size=ai:=by
   cases e:H s1.heap.objs.size with
   | none=>rfl
   | some o=>rw[sm _ _ e] at fr;cases fr
  have mono:∀ {us:List V} {ws:List Row},Paired (PrAt H') us ws->Paired (PrAt (upd H' s1.heap.objs.size (.lst (p.toList.map λi=>ys.getD i V.non)))) us ws:=λ{us ws} h=>by
   induction h with
   | nil=>exact .nil
   | cons a _ ih =>
    obtain⟨r,p,e,h1,h2⟩:=a
    exact .cons ⟨r,p,e,S2 _ _ h1,S2 _ _ h2⟩ ih
  refine⟨.ref s1.heap.objs.size,_,I2,rfl,q _ _ (p.toList.map λi=>its.getD i d0) _ (sm.trans S2) hn zf (mono pk) ?_ λpl wv=>?_⟩
  ·have hr':Vk (λi j=>yf ((its.map (·.1)).getD i (("",0):Pl)) ((its.map (·.1)).getD j (("",0):Pl))) p its.length:=by rw[show its.length=vs.length by lia];exact hr
   have pw:=WE (F:=yf) hp' hr'
   have eq:(p.toList.map λi=>its.getD i d0).map (·.1)=p.toList.map λi=>(its.map (·.1)).getD i (("",0):Pl):=by
    rw[dR]
    refine eG λi hi=>?_
    have hi:=hp'.lt i hi
    simp[bh,bW,ba hi]
   rw[<-eq,fc] at pw
   exact pw
  ·have pm:(p.toList.map λi=>its.getD i d0).Perm its:=by
    refine(hp'.list.map _).trans ?_
    rw[WD]
   rw[pm.mem_iff]
   exact mi pl wv
end
end L2
namespace L2
open PySem PySem.Spec PyProof.Rows
def zdO(lo c:Int)(n:Nat):It:=⟨λi _=>i < n,λi H x H'=>H'=H/\x=.int (lo + i * c),λi _=>n<=i⟩
theorem Qk{P:aq}{w:au}{K:bz}{tg:ay}(it:ag)(lo c:Int)(n:Nat):zbX P w K tg (zdO lo c n) [it] it (λi h=>IsRangeIter h it (lo + (i:Nat) * c) ((n:Int) - (i:Nat)) c) where
 mem:=by simp
 obj:=λi h st b hb=>by
  have e:b=it:=by simpa using hb
  subst e
  refine⟨_,st,λv z=>?_⟩
  have z':Data.fields _=Data.cell v:=z
  cases z'
 keep:=λi h h' st k=>k it (by simp) _ st
 item:=by
  intro X hP hw hK hc i pins s σ H E I hf st hg;subst hP hw hK
  obtain⟨f0,f1,f2,f3,f4,f5⟩:=hf it (by simp)
  refine(Walks.range (prog:=X.prog) (w:=X.w) (I.ok.hd hc) it lo c n).item i s _ _ hg st λv h' tk hv st' kk=>?_
  obtain⟨t,rfl⟩:=hv
  have I1:Inv X pins σ H { s with heap:=h',toks:=tk }:=I.turned (λb o hb e=>kk b o (by simpa using hb) e) f0 f1 f3 f4 f5
  exact⟨_,rfl,za7 (s:={ s with heap:=h',toks:=tk }) (n:="range_iterator") st' rfl rfl (by decide) ⟨.int (lo + i * c),H,I1,⟨t,rfl⟩,⟨rfl,rfl⟩,st',λb hb=>(hf b hb).1⟩⟩
 done:=by
  intro X hP hw hK hc i pins s σ H E I hf st hg;subst hP hw hK
  obtain⟨f0,f1,f2,f3,f4,f5⟩:=hf it (by simp)
  exact mO (I.ok.hd hc) st (by have:n<=i:=hg;lia) λh' eb=>⟨rfl,I.turned (t':=s.toks) (λb o hb e=>eb b o hb e) f0 f1 f3 f4 f5⟩
 self:=λ_ _ _ _ _ st h=>mP st h
def WF(i j c:Int):Nat:=if i < j then ((j - i - 1) / c + 1).toNat else 0
def zdP(ta:TA):TI:=λσ H R=>ta σ H λvs H1=>∃i j c:Int,vs=[.int i,.int j,.int c]/\(0<=i/\i < 1073741824/\0<=j/\j < 1073741824/\0 < c/\c < 1073741824)/\R (zdO i c (WF i j c)) H1
section
variable {X:Cx}{tg:ay}
theorem zcp{ta:TA}{p pos:Pos}(hg:Gl X "range")(hm:X.mg "range"=ai)(ha:PA X [a,b,c] ta)(hs:starEach [a,b,c] X.env=[(ao,eval a X.env),(ao,eval b X.env),(ao,eval c X.env)]:=by rfl)(hs2:starEach [b,c] X.env=[(ao,eval b X.env),(ao,eval c X.env)]:=by rfl) :
  PI X tg (.Call (.Name "range" p) [a,b,c] [] pos) (zdP ta):=by
 intro pins s σ H R I h
 refine Call_ (jZ I hg hm oq (cW (thn (ha pos pins s σ H _ I h) λus s1 ⟨vs,H1,I1,r1,q1⟩=>?_) (by rw[hs,hs2]) (by rw[hs2];rfl)))
 obtain⟨i,j,c,e,⟨q1,q2,q3,q4,q5,q6⟩,q⟩:=q1
 subst e
 cases r1 with
 | cons r rr =>
  cases rr with
  | cons r' rr =>
   cases rr with
   | cons r'' rr =>
    cases rr
    obtain⟨t,rfl⟩:=r
    obtain⟨t',rfl⟩:=r'
    obtain⟨t'',rfl⟩:=r''
    refine call_range_3 (by lia) ?_ (.inl (PyProof.noPylong_small (by lia)))
    have hz:fh i j c=(WF i j c:Int):=by
     unfold fh WF
     rw[ap q5]
     split
     ·rename_i h
      have:=lF (a:=j - i - 1) (b:=c) (by lia) (by lia)
      lia
     ·rfl
    have hb:(WF i j c:Int)<=1073741824/\(WF i j c:Int) * c<=2147483648:=by
     unfold WF
     split
     ·rename_i h
      have h1:=lF (a:=j - i - 1) (b:=c) (by lia) (by lia)
      have h2:=oU (a:=j - i - 1) c (by lia)
      have h3:=Int.ediv_mul_le (j - i - 1) (b:=c) (by lia)
      rw[fA (by lia),Int.add_mul]
      lia
     ·simp
    generalize WF i j c=n at *
    have sm:nO i j c=ae:=by
     unfold nO
     rw[hz]
     simp only[Builtin.Range.rangeFitsLong,b9,lG,decide_eq_true_eq,beq_iff_eq,show c > 0 from q5,if_true]
     lia
    refine wpAny_pyIter_range (oY ..) sm ?_
    rw[hz]
    have I2:Inv X pins σ H1 { s1 with heap:=s1.heap.push { cls:=.type "range",data:=.fields #[.int i t,.int j t',.int c t''] },toks:=s1.toks }:=I1.kept λb o e=>bo _ e
    refine⟨(s1.heap.push { cls:=.type "range",data:=.fields #[.int i t,.int j t',.int c t''] }).objs.size,[(s1.heap.push { cls:=.type "range",data:=.fields #[.int i t,.int j t',.int c t''] }).objs.size],_,_,H1,rfl,I2.kept (t':=s1.toks) λb o e=>bo _ e,Qk _ i c n,?_,λb hb=>?_,q⟩
    ·show IsRangeIter _ _ (i + ((0:Nat):Int) * c) ((n:Int) - ((0:Nat):Int)) c
     rw[show i + ((0:Nat):Int) * c=i by simp,show (n:Int) - ((0:Nat):Int)=n by simp]
     exact bH _ rfl
    ·have e:b=(s1.heap.push { cls:=.type "range",data:=.fields #[.int i t,.int j t',.int c t''] }).objs.size:=by simpa using hb
     subst e
     exact I2.fpOk (bq _) (I2.hok.fresh (bq _))
end
end L2
namespace L2
open PySem
structure StOk(n:Nat)(s:Sta):Prop where
 so:yr s.sl
 wo:∀r∈s.wo,inW r.2=ae
 l1:s.sl.length<=n
 l2:s.wo.length<=n
 l3:s.sa.length<=n
theorem StOk.mono(h:StOk n s)(l:n<=m):StOk m s:=⟨h.so,h.wo,bR h.l1 l,bR h.l2 l,bR h.l3 l⟩
theorem Zh(h:yr kvs)(k:Key){i:Int}(hi:inW i=ae):yr (yz kvs k (.int i)):=λk' v e=>by
 rw[jJ] at e
 by_cases c:k'=k
 ·rw[ap c] at e
  exact⟨i,(ck e).symm,hi⟩
 ·rw[ak c] at e
  exact h k' v e
theorem Zi{P:Row->Prop}{p:Pl}{w:Int}:∀ {l:List Row},(∀r∈l,P r)->zq l p=aa w->P (p,w)
 | [],_,h=>by cases h
 | r :: t,hp,h=>by
  rw[zq] at h
  cases e:zq t p with
  | some w' =>
   rw[e] at h
   have:w'=w:=by simpa using h
   subst this
   exact Zi (λr hr=>hp r (bE _ hr)) e
  | none =>
   rw[e] at h
   by_cases c:r.1=p
   ·rw[ap c] at h
    have:r.2=w:=by simpa using h
    rw[<-c,<-this];exact hp r bC
   ·rw[ak c] at h;cases h
theorem Ql(h:∀r∈l,inW r.2=ae)(p:Pl):inW ((zq l p).getD 0)=ae:=by
 cases e:zq l p with
 | none=>rfl
 | some w=>exact Zi (P:=λr=>inW r.2=ae) h e
theorem zfy(h:StOk n s)(x:Str)(p:Pl):StOk (n + 1) { s with sl:=yz s.sl (.inr x) (.int ((zq s.wo p).getD 0)) }:=
 ⟨Zh h.so _ (Ql h.wo p),h.wo,bR (yY _ _ _) (dz h.l1),bX h.l2,bX h.l3⟩
theorem zfz(h:StOk n s)(p:Pl){w:Int}(hw:inW w=ae):StOk (n + 1) { s with wo:=s.wo ++ [(p,w)] }:=
 ⟨h.so,λr hr=>by
  rcases bF.mp hr with hr | hr
  ·exact h.wo r hr
  ·rw[b5.mp hr];exact hw,bX h.l1,by show (s.wo ++ [(p,w)]).length<=n + 1;rw[bt];exact dz h.l2,bX h.l3⟩
theorem zg4(h:StOk n s)(x:Str){w:Int}(hw:inW w=ae):StOk (n + 1) { s with sl:=yz s.sl (.inr x) (.int w) }:=
 ⟨Zh h.so _ hw,h.wo,bR (yY _ _ _) (dz h.l1),bX h.l2,bX h.l3⟩
theorem zg5(h:StOk n s)(w:Int):StOk (n + 1) { s with sa:=s.sa ++ [w] }:=
 ⟨h.so,h.wo,bX h.l1,bX h.l2,by show (s.sa ++ [w]).length<=n + 1;rw[bt];exact dz h.l3⟩
mutual
theorem zdQ:∀(r:Rw) {n:Nat} {s s':Sta},StOk n s->xV r->goR r s=.go s'->StOk (n + r.cnt) s'
 | .take sh e sl,n,s,s',h,k,g=>by
  unfold goR at g
  unfold xV at k
  split at g
  ·cases g;exact zfy h _ _
  ·cases g
 | .give sh e f,n,s,s',h,k,g=>by
  unfold goR at g
  unfold xV at k
  split at g
  ·split at g
   ·rename_i w hw
    cases g
    exact zfz h _ (JS h.so k.2.2.1 hw)
   ·cases g
  ·cases g
 | .lt sl e,n,s,s',h,k,g=>by
  unfold goR at g
  unfold xV at k
  split at g
  ·rename_i w hw
   cases g
   exact zg4 h _ (JS h.so k.2.1 hw)
  ·cases g
 | .say e,n,s,s',h,k,g=>by
  unfold goR at g
  split at g
  ·cases g;exact zg5 h _
  ·cases g
 | .off e,n,s,s',h,k,g=>by
  unfold goR at g
  split at g
  ·split at g
   ·cases g;exact h.mono (gI _ _)
   ·cases g
  ·cases g
 | .iff e a b,n,s,s',h,k,g=>by
  unfold goR at g
  unfold xV at k
  have c:(Rw.iff e a b).cnt=max a.cnt b.cnt + 1:=by rw[Rw.cnt]
  rw[c]
  split at g
  ·split at g
   ·exact(Ys b h k.2.2 g).mono (by lia)
   ·exact(Ys a h k.2.1 g).mono (by lia)
  ·cases g
theorem Ys:∀(r:Rws) {n:Nat} {s s':Sta},StOk n s->yJ r->yL r s=.go s'->StOk (n + r.cnt) s'
 | .nil,n,s,s',h,k,g=>by
  unfold yL at g
  cases g
  exact h.mono (gI _ _)
 | .cons r rs,n,s,s',h,k,g=>by
  unfold yL at g
  unfold yJ at k
  have c:(Rws.cons r rs).cnt=r.cnt + rs.cnt:=by rw[Rws.cnt]
  rw[c]
  split at g
  ·rename_i s1 e1
   exact(Ys rs (zdQ r h k.1 e1) k.2 g).mono (by lia)
  ·rename_i x hx
   exact absurd g (hx s')
end
mutual
def ziu(P:Pl->Prop):Rw->Prop
 | .give sh e _=>∀kvs n,rk kvs e=.ok n->P (sh,n)
 | .iff _ a b=>zdR P a/\zdR P b
 | _=>True
def zdR(P:Pl->Prop):Rws->Prop
 | .nil=>True
 | .cons r rs=>ziu P r/\zdR P rs
end
inductive Oc where
 | done (sa:List Int)
 | off (why:Str)
def WG:Er->Str
 | .great=>"great"
 | _=>"nought"
def we(rws:Rws)(tab:List Row)(oc:Oc)(out:List Row):Prop:=match yL rws ⟨[],tab,[]⟩ with
 | .go s=>oc=.done s.sa/\xj s.wo out
 | .off=>oc=.off "told"/\out=tab
 | .er e=>oc=.off (WG e)/\out=tab
inductive zg6:List Rws->List Row->List Oc->List Row->Prop
 | nil {tab:List Row}:zg6 [] tab [] tab
 | cons {d:Rws} {ds:List Rws} {tab mid out:List Row} {oc:Oc} {ocs:List Oc}:we d tab oc mid->zg6 ds mid ocs out->zg6 (d :: ds) tab (oc :: ocs) out
theorem zfA{rows its out:List Row}(nd:(its.map (·.1)).Nodup)(hi:∀p w,(p,w)∈its↔zq rows p=aa w)(t:xj its out):xj rows out:=by
 refine⟨t.1,λp w=>(t.2 p w).trans ?_⟩
 rw[wS nd,hi]
def Xj:V->PyData
 | .int i=>.int i
 | .str x=>.str x
 | _=>.none
def plV(v:V):Prop:=(∃i,v=.int i)\/∃x,v=.str x/\cf x=ae
def WH(e:List V):PyData:=.tuple (e.map Xj)
mutual
def rwD:Rw->PyData
 | .take sh e sl=>.tuple [.str "take",.str sh,WH e,.str sl]
 | .give sh e f=>.tuple [.str "give",.str sh,WH e,WH f]
 | .lt sl e=>.tuple [.str "let",.str sl,WH e]
 | .say e=>.tuple [.str "say",WH e]
 | .off e=>.tuple [.str "off",WH e]
 | .iff e a b=>.tuple [.str "if",WH e,.list (zg7 a),.list (zg7 b)]
def zg7:Rws->List PyData
 | .nil=>[]
 | .cons r rs=>rwD r :: zg7 rs
end
def tmP(e:List V):Prop:=∀v∈e,plV v
mutual
def WI:Rw->Prop
 | .take sh e sl=>cf sh=ae/\tmP e/\cf sl=ae
 | .give sh e f=>cf sh=ae/\tmP e/\tmP f
 | .lt sl e=>cf sl=ae/\tmP e
 | .say e=>tmP e
 | .off e=>tmP e
 | .iff e a b=>tmP e/\x0 a/\x0 b
def x0:Rws->Prop
 | .nil=>True
 | .cons r rs=>WI r/\x0 rs
end
section
variable {K:bz}{H:Hp}{F:ag->Prop}
theorem zdS(h:plV v):Dat K H v (Xj v):=by
 rcases h with ⟨i,rfl⟩ | ⟨x,rfl,_⟩
 ·exact .int i
 ·exact .str x
theorem zcq:∀ {e:List V},tmP e->DatAll K H e (e.map Xj)
 | [],_=>.nil
 | v :: r,h=>.cons (zdS (h v bC)) (zcq λu hu=>h u (bE _ hu))
end
theorem Qm:∀ {e:List V},tmP e->z5 (e.map Xj)=ae
 | [],_=>by simp[z5]
 | v :: r,h=>by
  rw[b7,z5,Qm λu hu=>h u (bE _ hu),Bool.and_true]
  rcases h v bC with ⟨i,rfl⟩ | ⟨x,rfl,hx⟩
  ·rw[Xj,zL]
  ·rw[Xj,zL];exact hx
theorem zaB:∀(e:List V),cq (e.map Xj)=0
 | []=>by simp[cq]
 | v :: r=>by
  rw[b7,cq,zaB r]
  cases v <;> simp[Xj,dm]
theorem zfB:cf "off"=ae:=by decide +kernel
def Rws.snoc:Rws->Rw->Rws
 | .nil,x=>.cons x .nil
 | .cons r rs,x=>.cons r (rs.snoc x)
def Rws.app:Rws->Rws->Rws
 | .nil,x=>x
 | .cons r rs,x=>.cons r (rs.app x)
theorem RwsAt.snoc{F:ag->Prop}{H:Hp}{v:V}{x:Rw}(hx:RwAt F H v x):∀(r:Rws) {vs:List V},RwsAt F H vs r->RwsAt F H (vs ++ [v]) (r.snoc x)
 | .nil,vs,h=>by
  unfold RwsAt at h
  subst h
  show RwsAt F H [v] (.cons x .nil)
  unfold RwsAt
  exact⟨v,[],rfl,hx,by unfold RwsAt;rfl⟩
 | .cons r rs,vs,h=>by
  unfold RwsAt at h
  obtain⟨u,ws,rfl,e2,e3⟩:=h
  show RwsAt F H (u :: (ws ++ [v])) (.cons r (rs.snoc x))
  unfold RwsAt
  exact⟨u,ws ++ [v],rfl,e2,RwsAt.snoc hx rs e3⟩
theorem RwsAt.get{F:ag->Prop}{H:Hp}:∀ {r:Rws} {vs:List V} {i:Nat} {v:V},RwsAt F H (vs.drop i) r->vs[i]?=aa v->∃x rs,r=.cons x rs/\RwAt F H v x/\RwsAt F H (vs.drop (i + 1)) rs
 | .nil,vs,i,v,h,e=>by
  unfold RwsAt at h
  have:=(bn.mp e).1
  have:=congrArg bJ h
  rw[cC] at this
  simp at this
  lia
 | .cons x rs,vs,i,v,h,e=>by
  unfold RwsAt at h
  obtain⟨u,ws,e1,e2,e3⟩:=h
  have hi:=(bn.mp e).1
  have d:=cU hi
  rw[e1] at d
  have e4:vs[i]=v:=(bn.mp e).2
  rw[e4] at d
  injection d with d1 d2
  subst d1 d2
  exact⟨x,rs,rfl,e2,e3⟩
theorem RwsAt.none{F:ag->Prop}{H:Hp}{vs:List V}(h:RwsAt F H (vs.drop vs.length) r):r=.nil:=by
 rw[mJ] at h
 cases r with
 | nil=>rfl
 | cons x rs =>
  unfold RwsAt at h
  obtain⟨_,_,e,_⟩:=h
  cases e
theorem zbA{x:Rw}(hx:xV x):∀(r:Rws),yJ r->yJ (r.snoc x)
 | .nil,_=>by show yJ (.cons x .nil);unfold yJ;exact⟨hx,by unfold yJ;trivial⟩
 | .cons y r,h=>by
  unfold yJ at h
  show yJ (.cons y (r.snoc x))
  unfold yJ
  exact⟨h.1,zbA hx r h.2⟩
theorem zbB{x:Rw}(hx:WI x):∀(r:Rws),x0 r->x0 (r.snoc x)
 | .nil,_=>by show x0 (.cons x .nil);unfold x0;exact⟨hx,by unfold x0;trivial⟩
 | .cons y r,h=>by
  unfold x0 at h
  show x0 (.cons y (r.snoc x))
  unfold x0
  exact⟨h.1,zbB hx r h.2⟩
theorem Je(x:Rw):∀(r:Rws),(r.snoc x).deep=max r.deep x.deep
 | .nil=>by show (Rws.cons x .nil).deep=_;simp[Rws.deep]
 | .cons y r=>by
  show (Rws.cons y (r.snoc x)).deep=_
  rw[Rws.deep,Rws.deep,Je x r];exact(Nat.max_assoc ..).symm
theorem zdT(h:kj v)(j:isJ v=ao):TermOk [v]:=
 ⟨λkvs=>⟨_,zcd j⟩,λu hu=>by rw[b5.mp hu];exact h,by simp⟩
theorem Paired.snocP{α β:Type}{F:α->β->Prop}{x:α}{y:β}:∀ {a:List α} {b:List β},Paired F a b->F x y->Paired F (a ++ [x]) (b ++ [y])
 | _,_,.nil,h=>.cons h .nil
 | _,_,.cons a r,h=>.cons a (Paired.snocP r h)
theorem Paired.getP{α β:Type}{F:α->β->Prop}{a:List α}{b:List β}{i:Nat}{x:α}(h:Paired F a b)(e:a[i]?=aa x):∃y,b[i]?=aa y/\F x y:=by
 have hi:=(bn.mp e).1
 have l:=bM h
 exact⟨b[i],ba (by lia),yo h e (ba (by lia))⟩
theorem FnOkH.mono{mg:Str->Option af}{sp:Sp}(F:FnOkH P w K mg base j f fd ps sp)(h:j<=k):FnOkH P w K mg base k f fd ps sp:=
 ⟨F.len,λA outer s H args us vs Q E hr he hb hv hs=>F.run A outer s H args us vs Q E (hr.mono h) he hb hv hs⟩
end L2
namespace L2
open PySem PySem.Spec PyProof.Rows
def EL(e it p:ag)(k:Nat)(h:aw):Prop:=(∃old,IsEnum h e it (k:Int) old)/\h.IsListIter it p k
def zdU(K:bz)(p:ag)(xs:List V):It:=⟨λi H=>i < xs.length/\SqL K H p xs,λi H x H'=>∃T u,x=.ref T/\H T=ai/\H'=upd H T (.tup [.int i,u])/\xs[i]?=aa u,λi H=>xs.length<=i/\SqL K H p xs⟩
theorem zaC{P:aq}{w:au}{K:bz}{elts:List ay}{x1}{pos:Pos}{e it p:ag}{xs:List V}(hei:e≠it) :
  zbX P w K (.Tuple elts x1 pos) (zdU K p xs) [e,it] e (EL e it p) where
 mem:=by simp
 obj:=λk h st c hc=>by
  obtain⟨⟨old,he⟩,⟨oi,hi,ci,di⟩⟩:=st
  simp only[bS,ee,or_false] at hc
  rcases hc with rfl | rfl
  ·exact⟨_,he,λv z=>by cases z⟩
  ·exact⟨_,hi,λv z=>by rw[di] at z;cases z⟩
 keep:=λk h h' st kk=>by
  obtain⟨⟨old,he⟩,⟨oi,hi,ci⟩⟩:=st
  exact⟨⟨old,kk e (by simp) _ he⟩,⟨oi,kk it (by simp) _ hi,ci⟩⟩
 item:=by
  intro X hP hw hK hc k pins s σ H E I hf st hg
  subst hP hw hK
  obtain⟨hlt,h1⟩:=hg
  obtain⟨us,r1,p1,_⟩:=I.list h1
  obtain⟨u,hu,ru⟩:=r1.get (i:=k) (x:=xs[k]) (ba hlt)
  have old:∀c∈[e,it],c≠s.heap.objs.size:=λc hc=>by
   obtain⟨⟨old,he⟩,⟨oi,hi,ci⟩⟩:=st
   simp only[bS,ee,or_false] at hc
   rcases hc with rfl | rfl
   ·exact cz (bY he)
   ·exact cz (bY hi)
  obtain⟨⟨o0,he⟩,hi⟩:=st
  refine wpAny_pyNext_enum_item he hi p1.isList (x:=u) (by simpa using hu) hei λh e8 i5 t5 sz k5=>?_
  have I6:Inv X pins σ (upd H s.heap.objs.size (.tup [.int k,xs[k]])) { s with heap:=s.heap.push { cls:=.type "tuple",data:=.seq #[.int k s.toks,u] },toks:=s.toks + 1 } :=
   I.laid (a:=s.heap.objs.size) (o:=.tup [.int k,xs[k]]) (t':=s.toks + 1) (λb u e=>bo _ e) (bq _) ⟨by show 2<=sizeLine;decide,[.int k s.toks,u],.cons ⟨_,rfl⟩ (.cons ru .nil),⟨_,bH _ rfl,rfl,_,rfl⟩⟩
  have free:∀c∈[e,it],upd H s.heap.objs.size (HO.tup [.int k,xs[k]]) c=ai:=λc hc=>by rw[zl (old c hc)];exact(hf c hc).1
  have fz:∀c∈[e,it],qe X pins (upd H s.heap.objs.size (HO.tup [.int k,xs[k]])) c:=λc hc=>⟨free c hc,(hf c hc).2⟩
  refine⟨.ref s.heap.objs.size,rfl,wpAny_letOwnedTupleGo_enum e8 λh2 z9 sb2=>?_⟩
  have up:∀c o,c≠e->h.get? c=aa o->h2.get? c=aa o:=λc o hc e=>by
   rw[show h2.get? c=h.get? c from sb2.2 c hc];exact e
  have I7:Inv X pins σ (upd H s.heap.objs.size (.tup [.int k,xs[k]])) { s with heap:=h2,toks:=s.toks + 1 }:=I6.turnedL (s:={ s with heap:=s.heap.push { cls:=.type "tuple",data:=.seq #[.int k s.toks,u] },toks:=s.toks + 1 }) (t':=s.toks + 1) (ch:=[e,it]) (λc o hc e=>by
   simp only[bS,ee,or_false,not_or] at hc
   refine up c o hc.1 ?_
   rcases nF (show (s.heap.push { cls:=.type "tuple",data:=.seq #[.int k s.toks,u] }).get? c=aa o from e) with ⟨rfl,rfl⟩ | e
   ·exact t5
   ·exact k5 c o hc.1 hc.2 e) λc hc=>fz c hc
  refine⟨.ref s.heap.objs.size,_,I7,rfl,⟨_,_,rfl,I.hok.fresh (bq _),rfl,ba hlt⟩,?_,free⟩
  obtain⟨oi,hi,ci⟩:=i5
  exact⟨⟨_,z9⟩,⟨oi,up it _ (cH hei) hi,ci⟩⟩
 done:=by
  intro X hP hw hK hc k pins s σ H E I hf st hg
  subst hP hw hK
  obtain⟨hlt,h1⟩:=hg
  obtain⟨us,r1,p1,_⟩:=I.list h1
  have hl1:=r1.length
  obtain⟨⟨o0,he⟩,hi⟩:=st
  refine wpAny_pyNext_enum_end (I.ok.hd hc) he hi p1.isList (by simp;lia) λh hk=>⟨rfl,I.turnedL (t':=s.toks) (ch:=[e,it]) (λc o hc e=>?_) λc hc=>hf c hc⟩
  simp only[bS,ee,or_false,not_or] at hc
  exact hk c o hc.2 e
 self:=λ_ _ _ _ _ st h=>by
  obtain⟨⟨o0,he⟩,hi⟩:=st
  exact wpAny_pyIter_enum he h
def zg8(K:bz)(ta:TA):TI:=λσ H R=>ta σ H λvs H1=>∃p xs,vs=[.ref p]/\SqL K H1 p xs/\R (zdU K p xs) H1
section
variable {X:Cx}
theorem zfC{elts:List ay}{x1}{tp:Pos}{e1:ay}{ta:TA}{p pos:Pos}(hg:Gl X "enumerate")(hm:X.mg "enumerate"=ai)(ha:PA X [e1] ta)(he:starEach [e1] X.env=(ao,eval e1 X.env) :: starEach [] X.env:=by rfl)(hpl:(backTo pos (starEach [] X.env)).any (·.1)=ao:=by rfl) :
  PI X (.Tuple elts x1 tp) (.Call (.Name "enumerate" p) [e1] [] pos) (zg8 X.K ta):=by
 intro pins s σ H R I h
 refine Call_ (jZ I hg hm JC (cW (thn (ha pos pins s σ H _ I h) λus s1 ⟨vs,H1,I1,r1,q1⟩=>?_) he hpl))
 obtain⟨a,xs,e,h1,q⟩:=q1
 subst e
 obtain⟨u1,rfl,ra⟩:=Zr r1
 cases ra
 obtain⟨us1,r1,p1,_⟩:=I1.list h1
 refine call_enumerate_list p1.isList λh' e0 i0 _ k=>?_
 refine wpAny_pyIter_enum (s:={ s1 with heap:=h' }) e0 ?_
 generalize hn:s1.heap.objs.size=n at *
 have ne:∀ {x y:Nat},x≠y->(show ag from x)≠(show ag from y):=λh=>h
 refine⟨_,_,_,_,H1,rfl,I1.kept (t':=s1.toks) k,zaC (e:=n + 1) (it:=n) (ne (by lia)),⟨⟨_,e0⟩,i0⟩,λc hc=>?_,q⟩
 simp only[bS,ee,or_false] at hc
 have hc:n<=c:=by rcases hc with rfl | rfl <;> first | exact gI _ _ | exact bq _
 exact I1.fpOk (by rw[hn];exact hc) (I1.hok.fresh (by rw[hn];exact hc))
end
section
variable {σ:St}{H:Hp}{nx:St->Hp->Prop}{B:V->St->Hp->(St->Hp->Prop)->Prop}
theorem zaD{K:bz}(xs:List V)(Pv:Nat->St->Hp->Prop)(h0:Pv 0 σ H)(hl:∀i σ H,Pv i σ H->SqL K H p xs)
  (hs:∀i u T σ H,xs[i]?=aa u->H T=ai->Pv i σ H->B (.ref T) σ (upd H T (.tup [.int i,u])) (Pv (i + 1))) (hd:∀σ H,Pv xs.length σ H->nx σ H) :
  ∃W:Nat->Nat->St->Hp->Prop,(∃m,W 0 m σ H)/\∀i m σ H,W i m σ H->((zdU K p xs).stop i H/\nx σ H)\/((zdU K p xs).go i H/\∃N:St->Hp->Prop,(∀σ' H',N σ' H'->∃m',m' < m/\W (i + 1) m' σ' H')/\∀x H',(zdU K p xs).yld i H x H'->B x σ H' N):=by
 refine⟨λi m σ H=>m=xs.length - i/\i<=xs.length/\Pv i σ H,⟨xs.length,by simp,cp _,h0⟩,?_⟩
 rintro i m σ H ⟨rfl,hi,pv⟩
 by_cases hlt:i < xs.length
 ·refine .inr ⟨⟨hlt,hl i σ H pv⟩,Pv (i + 1),λσ' H' p'=>⟨xs.length - (i + 1),by lia,rfl,hlt,p'⟩,?_⟩
  rintro x H' ⟨T,u,rfl,hT,rfl,hu⟩
  exact hs i u T σ H hu hT pv
 ·obtain rfl:i=xs.length:=by lia
  exact .inl ⟨⟨bq _,hl _ σ H pv⟩,hd σ H pv⟩
end
end L2
namespace L2
open PySem PySem.Spec PyProof.Rows
theorem zg9{c:Nat}:∀ {a b r s:List Nat},c ∉ a->c ∉ b->a ++ c :: r=b ++ c :: s->a=b/\r=s
 | [],[],r,s,_,_,h=>by simpa using h
 | [],y :: b,r,s,_,hb,h=>by
  simp only[b8,bP,bp] at h
  exact absurd h.1 (λz=>hb (by rw[z];exact bC))
 | x :: a,[],r,s,ha,_,h=>by
  simp only[b8,bP,bp] at h
  exact absurd h.1.symm (λz=>ha (by rw[z];exact bC))
 | x :: a,y :: b,r,s,ha,hb,h=>by
  simp only[bP,bp] at h
  obtain⟨e1,e2⟩:=zg9 (λz=>ha (bE _ z)) (λz=>hb (bE _ z)) h.2
  exact⟨by rw[h.1,e1],e2⟩
end L2
namespace L2
open PySem PySem.Spec PyProof.Rows
end L2
namespace L2
open PySem PySem.Spec PyProof.Rows
section
variable {X:Cx}
abbrev zaE(K:bz):R2:=λx y H Q=>∃a b xs,x=.ref a/\y=.ref b/\SqL K H a xs/\SqL K H b []/\Q (.bl (!decide (xs=[]))) H
theorem zdV(hu:X.A.units + 64 < cLine):OpR X (compareOp .NotEq) (zaE X.K):=by
 intro pins s σ H x y v u Q I rx ry h
 obtain⟨a,b,xs,rfl,rfl,ha,hb,q⟩:=h
 by_cases e:xs=[]
 ·subst e
  exact zgV hu pins s σ H _ _ v u Q I rx ry ⟨a,b,[],[],rfl,rfl,ha,hb,⟨rfl,rfl,rfl⟩,q⟩
 ·cases rx
  cases ry
  obtain⟨us,r1,p1,_⟩:=I.list ha
  obtain⟨ws,r2,p2,_⟩:=I.list hb
  cases r2
  have e1:=r1.length
  have e2:xs.length≠0:=λz=>e (fH z)
  rw[decide_eq_false e] at q
  exact PySem.SeqAt.RcNeAt.lists_lengths p1.isList p2.isList (by simp;intro z;rw[z] at e1;exact e2 e1) (by lia) X.prog X.w X.xe _ ⟨.bl ae,H,I,rfl,q⟩
end
mutual
inductive zdW (H:Hp):V->PyData->Prop
 | int (i:Int):zdW H (.int i) (.int i)
 | str (x:Str):zdW H (.str x) (.str x)
 | lst {a:ag} {xs:List V} {ds:List PyData}:H a=aa (.lst xs)->Qn H xs ds->zdW H (.ref a) (.list ds)
 | tup {a:ag} {xs:List V} {ds:List PyData}:H a=aa (.tup xs)->Qn H xs ds->zdW H (.ref a) (.tuple ds)
inductive Qn (H:Hp):List V->List PyData->Prop
 | nil:Qn H [] []
 | cons {x:V} {d:PyData} {xs:List V} {ds:List PyData}:zdW H x d->Qn H xs ds->Qn H (x :: xs) (d :: ds)
end
end L2
namespace L2
open PySem
end L2
namespace L2
open PySem
abbrev Qo:RM:=zbe
end L2
namespace L2
open PySem PySem.Spec PyProof.Rows
end L2
namespace L2
open PySem PySem.Spec PyProof.Rows
section
variable {X:Cx}
open Classical in
noncomputable def ziy(K:PySem.W.Frag)(H:Hp)(d:PyData)(u:af):Bool:=decide (∃x,RelV x u/\Dat K H x d)
open Classical in
end
def Cb(i:Int):Prop:=i8 i<=1048576
open Att PySem.W PySem.Calls in
theorem zdX{l:nV}{n k:Nat}{q:aq}{loose:List Str}{XP:(Str->Option af)->aw->Prop}{YP:au->aw->Prop}{d:DefRec}{K:Params->bz}{CX:au->CXT}{sp:au->Sp}{x:Str}
  (hn:l.most=aa n) (hn2:n<=sizeLine) (hdf:d.params.defaults=[]) (hr:Room k callerA) (hY:∀(w:au) (h:aw),YP w h->(K w.params).In h)
  (F:∀(w:au) (mg:Str->Option af) (fa:ag) (h:aw),(K w.params).In h->h.Ns mainGlobals mg->mg d.name=aa (.ref fa) ->
   ∃fd:FuncData,(∀(s:aj) (u:af),BindsTo s fd ⟨[u],[]⟩ [(x,u)]) /\
    ∀base:aw,(K w.params).In base->base.Ns mainGlobals mg->FnOk l.prog w (K w.params) mg base (CX w) k fa fd [x] (sp w))
  (hsp:∀(w:au) (H:Hp) (a:ag) (ns:List Int),ns.length<=n->(∀i∈ns,Cb i)->zan H->SqL (K w.params) H a (ns.map V.int)->sp w [.ref a] H (λv _=>v=.bl ae) λ_ _ _=>False)
  (hCX:∀(w:au) (H:Hp) (s:aj) (e:af) (s':aj),CX w [] H s (λ_ _ _=>False) e s'->False) :
  pF q loose XP YP l.row.toRowW d [] (λf vs=>l9 f vs):=by
 intro w s₀ s₁ mg mb G Y fa o pm cd doc dV kV ho hd hcd hD hmg hg args vals as hpre hlay hrd hwl hlo
 obtain rfl:dV=.none:=Dflts.none hD hdf
 obtain rfl:kV=.none:=Dflts.noKw hD
 obtain⟨a,vs,ns,rfl,rfl,hobj,hints,hlen⟩:=VX hn hpre hwl
 have hb:∀i∈ns,Cb i:=λi hi=>intBits_le_of_layable (layable_of_mem (lay0_int (layableW_item (layableW_arg hlay _ bC) _ (cj.mpr ⟨i,hi,rfl⟩))) bC)
 have KX:=hY w _ Y
 obtain⟨fd,hbd,hF⟩:=F w mg fa _ KX G.T.g hmg
 refine enter_call (eN (KD KX G.T.g G.T.b G.T.builtins G.T.nolimit hg hobj hints (bR hlen hn2) hr hF hbd (λH hO hS=>hsp w H a ns hlen hb hO hS) λH e s'=>hCX w H s₁ e s') λr s' hq=>?_)
 obtain⟨rfl,h2,h3,h4⟩:=hq
 exact⟨.inl ⟨.bool ae,.bool ae,[],rfl,λ_=>rfl,.bool ae,VY l _,λ_=>⟨md,λ_ hm=>(nomatch hm)⟩⟩,h2,h3,h4⟩
theorem zhB{l:nV}{n k:Nat}{q:aq}{loose:List Str}{XP:(Str->Option af)->aw->Prop}{YP:au->aw->Prop}{d:DefRec}{K:Params->bz}{sp:bz->Sp}{x:Str}
  (hn:l.most=aa n) (hn2:n<=sizeLine) (hdf:d.params.defaults=[]) (hr:Room k callerA) (hY:∀(w:au) (h:aw),YP w h->(K w.params).In h)
  (F:∀(w:au) (mg:Str->Option af) (fa:ag) (h:aw),(K w.params).In h->h.Ns mainGlobals mg->mg d.name=aa (.ref fa) ->
   ∃fd:FuncData,(∀(s:aj) (u:af),BindsTo s fd ⟨[u],[]⟩ [(x,u)]) /\
    ∀base:aw,(K w.params).In base->base.Ns mainGlobals mg->FnOk l.prog w (K w.params) mg base (CX1 l.prog w) k fa fd [x] (sp (K w.params)))
  (hsp:∀(K:bz) (H:Hp) (a:ag) (ns:List Int),ns.length<=n->(∀i∈ns,Cb i)->zan H->SqL K H a (ns.map V.int)->sp K [.ref a] H (λv _=>v=.bl ae) λ_ _ _=>False) :
  pF q loose XP YP l.row.toRowW d [] (λf vs=>l9 f vs) :=
 zdX (K:=K) (CX:=λw=>CX1 l.prog w) (sp:=λw=>sp (K w.params)) hn hn2 hdf hr hY F (λw H a ns h1 hb h2 h3=>hsp (K w.params) H a ns h1 hb h2 h3) λ_ _ _ _ _ z=>by
  obtain⟨_,_,_,_,_,_,_,_,_,y⟩:=z
  exact y
end L2
namespace L2
open PySem PySem.Spec PyProof.Rows
end L2
namespace L2
open PySem PySem.Spec PyProof.Rows
end L2
namespace L2
open PySem PySem.Spec PyProof.Rows
abbrev qw:RM:=λx vs H Q=>∃(l:ag) (xs:List V) (k:Nat) (y:V),x=.ref l/\vs=[.int k,y]/\H l=aa (.lst xs)/\k<=xs.length/\xs.length < 1000000/\Q .non (upd H l (.lst (xs.take k ++ y :: xs.drop k)))
theorem Vals.takeV:∀(k:Nat) {xs:List V} {us:List af},Vals xs us->Vals (xs.take k) (us.take k)
 | 0,_,_,_=>by rw[lV,lV];exact .nil
 | _ + 1,_,_,.nil=>.nil
 | k + 1,_,_,.cons h r=>.cons h (Vals.takeV k r)
theorem Vals.dropV:∀(k:Nat) {xs:List V} {us:List af},Vals xs us->Vals (xs.drop k) (us.drop k)
 | 0,_,_,h=>h
 | _ + 1,_,_,.nil=>.nil
 | k + 1,_,_,.cons _ r=>Vals.dropV k r
section
variable {X:Cx}
theorem zcr:MtM X "list.insert" qw:=by
 intro pins s σ H x vs v us Q I rx rv h
 obtain⟨l,xs,k,y,rfl,rfl,hH,hk,hz,q⟩:=h
 cases rx
 cases rv with
 | cons r1 rr =>
  obtain⟨u,rfl,ru⟩:=(show Vals [y] _ from rr).one
  obtain⟨t,rfl⟩:=r1
  obtain⟨z,its,n,r,hl,e⟩:=I.lstM hH
  have h1:(1000000:Nat) < sizeLine:=by rw[dX];decide
  obtain⟨i,hi⟩:∃i:Int,i=k:=⟨_,rfl⟩
  rw[<-hi]
  have hc:¬ (!Builtin.List.listFitsIndex i)=ae:=by rw[fitsIndex_both (by lia) (by lia)];exact bO
  have hs:its.toArray.size<=sizeLine:=by rw[bN];lia
  have M:=AutoSeq1.list_insert_list_int_val_1 l its.toArray n i t u hc hs
  refine l7 F.slot_list_insert ⟨_,e,rfl⟩ F.entry_list_insert (F.args_list_insert_3 _ _ _) M ⟨e,?_⟩
  refine⟨.non,_,I.lset (its':=its.take k ++ u :: its.drop k) hH e ?_ ((r.takeV k).append (.cons ru (r.dropV k))) ?_,rfl,q⟩
  ·have hk2:k<=its.length:=by lia
   subst hi
   have hn:¬ ((k:Int) < 0):=by lia
   simp[eI hk2,hn]
   rw[bQ (by rw[cC];lia)]
  ·rw[bt,cA,cm,cC];lia
end
end L2
namespace L2
open PySem PySem.Spec PyProof.Rows
section
variable {X:Cx}{e:ay}{te:TE}{a b:Str}{j k:Nat}{p1 p2 p3 p4:Pos}
def zdY(te:TE):TE:=λσ H Q=>te σ H λv H1=>∃i:Int,v=.int i/\i.natAbs.log2 < 1920/\∀y:Str,Q (.str y) H1
theorem zfD(he:PE X e te)(hl:a.length<=1000:=by decide +kernel)(hl2:b.length<=1000:=by decide +kernel):PE X (.JoinedStr [.Constant (.str a) j p1,.FormattedValue e (-1) ai p2,.Constant (.str b) k p4] p3) (zdY te):=by
 intro pins s σ H Q I h
 have hs:sizeLine=16777216:=dX
 refine wpAny_JoinedStr ?_
 show wpAny _ _ (eval (.Constant (.str a) j p1) X.env) _ _ s
 have e0:(gE ++ a).length=a.length:=by rw[eB];simp[gE,gL]
 refine gN ⟨a,_,rfl,by rw[e0];exact zU (by lia),?_⟩
 show wpAny _ _ (eval (.FormattedValue e (-1) ai p2) X.env) _ _ _
 refine lK (thn (he pins _ σ H _ (I.tok _) h) λv s1 ⟨x,H1,I1,r1,i,ex,hz,q⟩=>?_)
 subst ex
 obtain⟨t,rfl⟩:=r1
 have le:(bg (toString i)).length<=2000:=by
  have e:=int_text_length_le (k:=1920) (by decide) hz
  rw[PySem.ofString_length];lia
 refine wpAny_formatField_int hz ⟨bg (toString i),_,rfl,by rw[eB,e0];lia,?_⟩
 show wpAny _ _ (eval (.Constant (.str b) k p4) X.env) _ _ _
 have hz2:(gE ++ a ++ bg (toString i) ++ b).length<=sizeLine:=by rw[eB,eB,e0];lia
 exact gN ⟨b,_,rfl,hz2,hz2,.str _,H1,I1.tok _,⟨_,rfl⟩,q _⟩
end
end L2
namespace L2
open PySem PySem.Spec PyProof.Rows
structure FunD(K:bz)(x qual:Str)(st:ax)(f:ag)(fd:FuncData):Prop where
 ex:∃(oc:af) (od:Option ag) (dV kV doc pm:af) (an:Option ag) (cdv ct:af) (osl:Array (Option af)),fd=iz x qual (xi st) (yq st) (zj st) dV kV doc pm an cdv ct/\K.lookup f=aa ⟨oc,od,.func fd,osl⟩/\iq K cdv qual=ae
 kp:fi K (.ref f)=ae
section
variable {P:aq}{w:au}{K:bz}{mg:Str->Option af}{base:aw}{x qual:Str}{st:ax}{f:ag}{fd:FuncData}{N ps:List Str}{k:Nat}{sp:Sp}
theorem FunD.ok1(F:FunD K x qual st f fd)(S:FnScope N ps (zj st))(len:∀vs H Q E,sp vs H Q E->vs.length=ps.length)
  (hbody:∀(cdv:af) (A:av) (outer:List Env) (s:aj) (H:Hp) (vs:List V) (Q:VK) (E:XK),Room k (A.deeper (envOfC qual (zj st) s.heap.objs.size f cdv))->sp vs H Q E->∃t,PSs (jI (CX1 P w) P w K mg base N qual (zj st) f cdv A outer s H E) (yq st) t/\t { nx:=λ_ H'=>Q .non H',rt:=Q } (start N vs) H):FnOk P w K mg base (CX1 P w) (k + 1) f fd ps sp:=by
 obtain⟨oc,od,dV,kV,doc,pm,an,cdv,ct,osl,rfl,lk,hcd⟩:=F.ex
 exact zgm lk hcd S len λA outer s H vs Q E hr hsp=>hbody cdv A outer s H vs Q E hr hsp
theorem FunD.ok0(F:FunD K x qual st f fd)(S:FnScope N ps (zj st))(len:∀vs H Q E,sp vs H Q E->vs.length=ps.length)
  (hbody:∀(cdv:af) (A:av) (outer:List Env) (s:aj) (H:Hp) (vs:List V) (Q:VK) (E:XK),Room k (A.deeper (envOfC qual (zj st) s.heap.objs.size f cdv))->sp vs H Q E->∃t,PSs (jI (CX1 P w) P w K mg base N qual (zj st) f cdv A outer s H E).nox (yq st) t/\t { nx:=λ_ H'=>Q .non H',rt:=Q } (start N vs) H):FnOk P w K mg base (CX1 P w) (k + 1) f fd ps sp :=
 F.ok1 S len λcdv A outer s H vs Q E hr h=>let ⟨t,a,b⟩:=hbody cdv A outer s H vs Q E hr h;⟨t,a.nox,b⟩
theorem zfE{od an:Option ag}{osl:Array (Option af)}{dV kV doc pm cdv ct:af}(l:K.lookup f=aa ⟨oc,od,.func (iz x qual (xi st) (yq st) (zj st) dV kV doc pm an cdv ct),osl⟩)
  (c:iq K cdv qual=ae) (k:fi K (.ref f)=ae):FunD K x qual st f (iz x qual (xi st) (yq st) (zj st) dV kV doc pm an cdv ct):=⟨⟨oc,od,dV,kV,doc,pm,an,cdv,ct,osl,rfl,l,c⟩,k⟩
end
section
variable {X:Cx}{o value:ay}{f:Str}{pos pos':Pos}{ta:TE}{tx:EXK->TE}
def zdZ(K:bz)(ta:TE)(tx:EXK->TE)(f:Str)(EX:EXK):TS:=qf K ta (tx EX) f
theorem zfF(ha:PE X.nox o ta)(hv:PEX X value tx)(hs:swapsWith value (aa (.Attribute o f pos')) pos.line X.env=pure ao):PSX X (.Assign [.Attribute o f pos'] value pos) (zdZ X.K ta tx f):=by
 intro pins s σ H D EX I h
 refine gZ (thn (hv pins s σ H _ EX I h) λu s1 ⟨y,H1,I1,ry,q⟩=>dh (ha pins s1 σ H1 _ (I1.wish _) q) (λov s2 ⟨x,H2,I2',rx,a,C,dx,fs,ex,ea,c,n,l,q2⟩=>?_) λ_ _ z=>cJ z) hs
 subst ex
 obtain rfl:ov=bV a:=rx
 exact Wc I2'.unwish ea c n l ry λs3 I3=>⟨σ,_,I3,q2⟩
end
def zgw(K:bz)(tb:EXK->TS)(C1 C2:ag)(th:TS):TS:=λD σ H=>tb (λcls σ1 H1=>∃C,cls=.ref C/\nu K (.ref C) [.ref C1,.ref C2]=aa ae/\th D σ1 H1) D σ H
theorem zd0(x:Heap.FlyingW base l e cls a0 h)(o:Obj):Heap.FlyingW base l e cls a0 (h.push o):=by
 obtain⟨f1,f2,f3,oe,vs,T,oT,ts,a1,a2,a3,a4,a5,a6,a7,a8,a9⟩:=x
 exact⟨λb u q=>bo _ (f1 b u q),f2,f3.of_keeps (λb u q _=>⟨u,bo _ q,rfl⟩),oe,vs,T,oT,ts,bo _ a1,a2,a3,a4,a5,a6,bo _ a7,a8,a9⟩
section
variable {X:Cx}{st b₀:ax}{suite:List ax}{tb:EXK->TS}{th:TS}{c1 c2:Str}{C1 C2:ag}{np np2 hpos tpos pos:Pos}{x1:Nat}
theorem zfG(hst:X.stack=X.env :: X.outer/\X.env.frame=aa X.env.locals)(hex:X.ex=[])(hb:PSX X st tb)(hg1:Gl X c1)(hm1:X.mg c1=aa (.ref C1))(hg2:Gl X c2)(hm2:X.mg c2=aa (.ref C2))
  (hs:∀e,PSs (X.sub e) (b₀ :: suite) th) (hdb1:(c1 == ("__debug__":Str))=ao:=by decide) (hdb2:(c2 == ("__debug__":Str))=ao:=by decide) :
  PS X (.Try [st] [.ExceptHandler (aa (.Tuple [.Name c1 np,.Name c2 np2] x1 tpos)) ai (b₀ :: suite) hpos] [] [] pos) (zgw X.K tb C1 C2 th):=by
 intro pins s σ H D I h
 refine wpAny_Try_except (iJ (dh (hb pins s σ H D _ I h) (λf s1 q=>?_) λev s1 q=>?_))
 ·cases f with
  | next=>exact eD (eD q)
  | ret v=>exact q
  | brk=>exact q
  | cont=>exact q
 obtain⟨e,cls,σ1,s0,H0,H1,rfl,I0,I1,xf,C,rfl,hx,hth⟩:=q
 obtain⟨oe,vs,a0,T,oT,ts,h1,h2,h3,h4,h5,h6,h7,h8,h9,h10,h11,h12⟩:=xf
 have fr:s1.heap.FunFrames (gD s1.heap (frs X.stack ++ [e,T])) (X.env :: X.outer):=by
  have q:=iL (as:=frs X.stack ++ [e,T]) I1.stack λenv he a ha=>cE _ (fN.mpr ⟨env,he,ha⟩)
  rw[hst.1] at q ⊢
  exact q
 have two:∀b∈[e,T],s0.heap.get? b=ai/\H1 b=ai:=λb z=>by
  have z':b=e\/b=T:=by simpa using z
  rcases z' with rfl | rfl
  ·exact⟨h9,h11⟩
  ·exact⟨h10,h12⟩
 have hcs:∀b∈[e,T],H1 b=ai/\X.s₀.heap.get? b=ai:=λb z=>⟨(two b z).2,jL (I0.there0 hex) (two b z).1⟩
 have hcp:∀b∈[e,T],∀p∈X.pn ++ pins,p.1≠b:=λb z p hp q=>by
  have:=(I0.pin p hp).1
  rw[q,(two b z).1] at this;cases this
 refine wpAny_looks_onW (base:=gD s1.heap (frs X.stack ++ [e,T])) (a0:=a0) (cls:=.ref C) (by rw[I1.ok.frames,hst.1]) hst.2
  ⟨λb o q=>lL _ q,fJ _ (bT _ (by simp)),fr,oe,vs,T,oT,ts,h1,h2,h3,h4,fJ _ (bT _ (by simp)),h5,h6,h7,h8⟩ λg4 held4 sm4=>?_
 refine wpAny_landsW held4 λg5 fly5 sm5=>?_
 have hB:∀ {g:aw},(gD s1.heap (frs X.stack ++ [e,T])).StaysIn g->∀b o,s1.heap.get? b=aa o->b ∉ frs X.stack->b ∉ [e,T]->g.get? b=aa o :=
  λ{g} k b o q n1 n2=>k b o (iQ _ q λz=>(bF.mp z).elim n1 n2)
 have I5:Inv X pins σ1 H1 { s1 with heap:=g5 }:=I1.land hex hcs hcp (hB fly5.1) (sm4.trans sm5)
 refine lC (iF ?_) (by intro q;cases q)
 refine wpAny_Tuple_spliced (eM (vE (X:=X.sub e) (I5.toSub (e:=e)) hg1 hm1 (eM (vE (X:=X.sub e) (I5.toSub (e:=e)) hg2 hm2 (ic ⟨(by show 2<=sizeLine;decide),?_⟩) hdb2)) hdb1))
 have fly6:=zd0 fly5 { cls:=.type "tuple",data:=.seq [bV C1,bV C2].toArray }
 have kp:∀b o,g5.get? b=aa o->(g5.push { cls:=.type "tuple",data:=.seq [bV C1,bV C2].toArray }).get? b=aa o:=λb o q=>bo _ q
 have hp:(g5.push { cls:=.type "tuple",data:=.seq [bV C1,bV C2].toArray }).get? g5.objs.size=aa { cls:=.type "tuple",data:=.seq [bV C1,bV C2].toArray }:=bH _ rfl
 have K6:X.K.In (g5.push { cls:=.type "tuple",data:=.seq [bV C1,bV C2].toArray }):=(I5.kept (t':=s1.toks) kp).kIn
 have ty6:W.Looks (model X.prog X.w) (g5.push { cls:=.type "tuple",data:=.seq [bV C1,bV C2].toArray }) (typeOf (.ref e)) (.ref C):=by
  obtain⟨o,p1,p2⟩:=fly6.there
  exact p2 ▸ (pB p1).andThen .now
 refine(W.exm_tup2 K6 ty6 hp hx).here ?_
 refine mT (lands_againW fly6 λg7 fly7 sm7=>?_)
 have I7:Inv X pins σ1 H1 { s1 with heap:=g7 }:=I1.land hex hcs hcp (hB fly7.1) (((sm4.trans sm5).trans (Heap.UpToSlots.of_keeps kp)).trans sm7)
 refine dh (hs e pins _ σ1 H1 D I7.toSub hth) (λf s9 q=>?_) λ_ _ z=>cJ z
 cases f with
 | next=>obtain⟨σ9,H9,J,z⟩:=q;exact⟨σ9,H9,Inv.ofSub (J:=I) J,z⟩
 | brk=>obtain⟨σ9,H9,J,z⟩:=q;exact⟨σ9,H9,Inv.ofSub (J:=I) J,z⟩
 | cont=>obtain⟨σ9,H9,J,z⟩:=q;exact⟨σ9,H9,Inv.ofSub (J:=I) J,z⟩
 | ret u=>obtain⟨v,σ9,H9,J,r,z⟩:=q;exact⟨v,σ9,H9,Inv.ofSub (J:=I) J,r,z⟩
end
end L2
namespace L2
open PySem PySem.Spec PyProof.Rows
end L2
namespace L2
open PySem PySem.Spec PyProof.Rows
end L2
namespace L2
open PySem PySem.Spec PyProof.Rows
abbrev zha(K:bz):RC:=λxs H Q=>∃(a:ag) (bs:List Bool),xs=[.ref a]/\SqL K H a (bs.map V.bl)/\Q (.bl (bs.any id)) H
section
variable {X:Cx}
theorem zcs(hc:X.calm=ae):kQ X (.builtin "any") (zha X.K):=by
 intro pins s σ H xs us Q I r h
 obtain⟨a,bs,rfl,hq,q⟩:=h
 obtain⟨u,rfl,r1⟩:=Zr r
 cases r1
 obtain⟨its,rv,p,hz⟩:=I.list hq
 have hl:=rv.length
 rw[bu] at hl
 have hne:a≠s.heap.objs.size:=by
  obtain⟨o,n,e,_⟩:=p
  exact cz (bY e)
 refine call_any_walk (l0 p.isList ?_)
 refine⟨s.heap.objs.size,_,_,its.toArray.size,λi v=>its.toArray[i]?=aa v,_,λi=>bs.getD i ao,rfl,Walks.list (A:=X.A.in1) (I.ok.hd hc) _ a hne its.toArray,?_,?_,λh' tk k=>?_⟩
 ·exact⟨⟨_,bH _ rfl,rfl,rfl⟩,p.isList.at λo e=>bo _ e⟩
 ·intro i v s' Q' E' hv hQ
  have hv':its[i]?=aa v:=by simpa using hv
  have hi:i < bs.length:=by
   rw[hl]
   exact(bn.mp hv').1
  obtain⟨u',hu,ru⟩:=rv.get (i:=i) (x:=V.bl bs[i]) (by simp[hi])
  rw[hv'] at hu
  cases hu
  cases ru
  have e:bs.getD i ao=bs[i]:=by simp[hi]
  have hQ':Q' (bs.getD i ao) s':=hQ
  rw[e] at hQ'
  exact eU hQ'
 ·have e:(bI its.toArray.size).any (λi=>bs.getD i ao)=bs.any id:=by
   rw[bN,<-hl]
   have:bs.map id=(bI bs.length).map λi=>bs.getD i ao:=by
    apply eZ
    intro i
    by_cases hi:i < bs.length <;> simp[hi]
   have h2:bs.any id=(bs.map id).any id:=by simp
   rw[h2,this,List.any_map]
   rfl
  rw[e]
  refine⟨.bl (bs.any id),H,?_,rfl,q⟩
  exact I.kept λb o e=>k b o (by
   have:=cz (bY e)
   simpa using this) (bo _ e)
end
def zd1(te ts:TE):TE:=λσ H Q=>te σ H λx H1=>ts σ H1 λk H2=>∃z y,x=.str z/\k=.int (-1)/\z.length<=sizeLine/\(∀u,fB z ai ai (-1,u)=y)/\Q (.str y) H2
section
variable {X:Cx}{e st:ay}{p2 pos:Pos}{te ts:TE}
theorem zfH(he:PE X e te)(hst:PE X st ts):PE X (.Subscript e (.Slice ai ai (aa st) p2) pos) (zd1 te ts):=by
 intro pins s σ H Q I h
 refine ox (thn (he pins s σ H _ I h) λv s1 ⟨x,H1,I1,r1,h1⟩=>?_)
 refine wpAny_Slice ?_
 rw[nT]
 refine bw ?_
 refine bw ?_
 rw[evalPart_some]
 refine thn (hst pins s1 σ H1 _ I1 h1) λu s2 ⟨k,H2,I2,r2,z,y,ex,ek,hz,hy,q1⟩=>?_
 subst ex ek
 obtain⟨t,rfl⟩:=r1
 obtain⟨uk,rfl⟩:=r2
 have I4:Inv X pins σ H2 { s2 with heap:=s2.heap.push { cls:=.type "slice",data:=.fields #[.none,.none,.int (-1) uk] } }:=I2.kept (t':=s2.toks) λb ob q=>bo _ q
 refine tail_any (ops:=[.ref s2.heap.objs.size,.str z t]) (oy _ _ _) nW.lookup ?_ (by with_unfolding_all rfl)
 refine mD (l:=ai) (u:=ai) (st:=aa (-1,uk)) ⟨_,bH _ rfl,rfl,rfl⟩ (show ((-1:Int) == 0)=ao by decide) ?_
 refine post_val_or_str ⟨bR (Txt.sliceBy_le z _ _ (-1,uk) (show (-1:Int)≠0 by decide)) hz,λt' k=>⟨.str y,H2,I4.tok k,⟨t',by rw[<-hy uk];rfl⟩,q1⟩⟩
end
end L2
namespace L2
open PySem PySem.Spec PyProof.Rows
end L2
namespace L2
open PySem PySem.Spec PyProof.Rows
end L2
namespace L2
open PySem PySem.Spec PyProof.Rows
end L2
namespace HT
open PySem PySem.Spec PyProof.Rows
end HT
namespace L2
open PySem PySem.Spec PyProof.Rows
end L2
namespace L2
open PySem PySem.Spec PyProof.Rows
end L2
namespace L2
open PySem
end L2
namespace L2
open PySem PySem.Spec PyProof.Rows
end L2
namespace L2
open PySem PySem.Spec PySem.W PyProof.Rows
abbrev zd2(K:bz):RC:=λvs H Q=>∃r ns,vs=[.ref r]/\SqL K H r (cr V.int ns)/\ns.length < 64/\ns.Nodup /\
 ∀(l:ag) (srt:List Int),H l=ai->srt.Perm ns->srt.Pairwise (· < ·)->Q (.ref l) (upd H l (.lst (srt.map V.int)))
theorem zd3{qs:List Int}(hn:qs.Nodup):SO (λi j=>decide (qs.getD i 0 < qs.getD j 0)) qs.length where
 irr:=λi _=>decide_eq_false (by lia)
 trans:=λi j k _ _ _ h1 h2=>by
  have h1:=of_decide_eq_true h1
  have h2:=of_decide_eq_true h2
  exact decide_eq_true (by lia)
 tot:=λi j hi hj hij h=>by
  have ne:qs.getD i 0≠qs.getD j 0:=λz=>hij (by
   rw[bh,bh,ba hi,ba hj] at z
   exact(fD hn).mp z)
  have h:=of_decide_eq_false h
  exact decide_eq_true (by lia)
section
variable {X:Cx}
theorem JV(hc:X.calm=ae)(hu:X.A.units + 3 < cLine):kQ X (.builtin "sorted") (zd2 X.K):=by
 intro pins s σ H vs us Q I r0 h
 obtain⟨r,rs,rfl,hq,h64,nd,q⟩:=h
 obtain⟨u,rfl,ru⟩:=Zr r0
 cases ru
 obtain⟨vs,rv,⟨o,n,ho,oc,_,od⟩,hz⟩:=I.list hq
 have l2:=rv.length
 rw[bu] at l2
 have klen:vs.length=rs.length:=by lia
 have kat:∀(i:Nat) (n:Int),rs[i]?=aa n->∃t,vs[i]?=aa (.int n t):=λi n hi=>by
  obtain⟨u,hu',ru⟩:=rv.get (show (rs.map V.int)[i]?=aa (V.int n) by rw[bW,hi];rfl)
  obtain⟨t,e⟩:=ru
  exact⟨t,by rw[hu',e]⟩
 have getI:∀i,i < rs.length->∃t,vs.getD i cM=.int (rs.getD i 0) t:=λi hi=>by
  obtain⟨t,ht⟩:=kat i rs[i] (ba hi)
  exact⟨t,by rw[bh,ht,bh,ba hi];rfl⟩
 refine Xi (vs:=vs) (κ:=oneType') (lt:=λi j=>decide (rs.getD i 0 < rs.getD j 0)) (by lia) (by rw[klen];exact zd3 nd) (λR hR=>?_) (λh2 h tk Q' kp q'=>?_) (λh tk i j C kp hi hj hij q'=>?_) λh tk h' p c k1 k2 hD hp hr=>?_
 ·refine wpAny_collect_seq r (.inl rfl) ho oc od (λh' k=>?_) (by rw[bN];exact bR (by lia:_<=64) (by decide))
  have e:({ s with heap:=h' }:aj)={ s with heap:=h',toks:=s.toks }:=rfl
  rw[e]
  exact hR h' s.toks k
 ·refine kas_kind (T:=.type "int") h2 (λv hv=>?_) (by decide) (by decide) q'
  obtain⟨i,hi⟩:=cV hv
  have hl:=(bn.mp hi).1
  obtain⟨t,ht⟩:=kat i rs[i] (ba (by lia))
  rw[hi] at ht
  cases ht
  exact Looks.of_pure rfl
 ·rw[klen] at hi hj
  obtain⟨t1,e1⟩:=getI i hi
  obtain⟨t2,e2⟩:=getI j hj
  have key2:=kat_lt_int (prog:=X.prog) (w:=X.w) (A:=X.A.in1.in1) (E:=λ_ _=>False) (s:={ s with heap:=h,toks:=tk }) (t:=t1) (u:=t2) (Q:=C) q'
  rw[<-e1,<-e2] at key2
  exact key2
 ·have I1:Inv X pins σ H { s with heap:=h,toks:=tk }:=I.kept k1
  rw[klen] at hp hr
  have fr:H h.objs.size=ai:=I1.hok.fresh (bq _)
  have sz:=hp.size
  have vk:Vals (p.toList.map λi=>(rs.map V.int).getD i V.non) (vC vs p):=jb rv V.non cM (is:=p.toList) λi hi=>by have:=hp.lt i hi;rw[bu];exact this
  have e3:(p.toList.map λi=>(rs.map V.int).getD i V.non)=(p.toList.map λi=>rs.getD i 0).map V.int:=by
   rw[dR]
   refine eG λi hi=>?_
   have:=hp.lt i hi
   rw[bh,bW,ba this]
   show V.int rs[i]=V.int (rs.getD i 0)
   rw[bh,ba this]
   rfl
  rw[e3] at vk
  have I2:Inv X pins σ (upd H h.objs.size (.lst ((p.toList.map λi=>rs.getD i 0).map V.int))) { s with heap:=h',toks:=tk }:=I1.laid (s:={ s with heap:=h,toks:=tk }) (a:=h.objs.size) (o:=.lst ((p.toList.map λi=>rs.getD i 0).map V.int)) (t':=tk) k2 (bq _)
   ⟨by rw[bu,bu,cy];exact bR (by lia:_<=1000) (by decide),_,c,vk,hD⟩
  refine⟨.ref h.objs.size,_,I2,rfl,q _ _ fr ?_ ?_⟩
  ·refine(hp.list.map _).trans ?_
   rw[WD]
  ·exact(WE (F:=λa b:Int=>decide (a < b)) hp hr).imp λh=>of_decide_eq_true h
end
theorem Yt{α β:Type}{F:α->β->Prop}:∀ {a:List α} {b:List β},a.length=b.length->(∀(i:Nat) (x:α) (y:β),a[i]?=aa x->b[i]?=aa y->F x y)->Paired F a b
 | [],[],_,_=>.nil
 | x :: a,y :: b,h,f=>.cons (f 0 x y rfl rfl) (Yt (by simpa using h) λi x' y' h1 h2=>f (i + 1) x' y' h1 h2)
 | [],_ :: _,h,_=>by simp at h
 | _ :: _,[],h,_=>by simp at h
theorem zfI(n:Nat)(us:List af)(hl:us.length=n)(h:∀(i:Nat) (v:af),us[i]?=aa v->∃t,v=.int (i:Nat) t):Vals ((bI n).map λi=>V.int (i:Nat)) us:=by
 refine Yt (by simp[hl]) λi a b ha hb=>?_
 rw[bW] at ha
 obtain⟨j,hj,rfl⟩:=dy.mp ha
 have:=bn.mp hj
 obtain⟨lt,e⟩:=this
 rw[List.getElem_range] at e
 subst e
 obtain⟨t,e⟩:=h _ _ hb
 exact⟨t,e⟩
def Qp(ta:TA):TE:=λσ H Q=>ta σ H λvs H1=>∃n:Nat,vs=[.int n]/\n<=1000/\∀l,H1 l=ai->Q (.ref l) (upd H1 l (.lst ((bI n).map λi=>V.int (i:Nat))))
section
variable {X:Cx}{a:ay}{ta:TA}{p p2 pos pos2:Pos}
theorem zbC(hc:X.calm=ae)(hg1:Gl X "list")(hm1:X.mg "list"=ai)(hg2:Gl X "range")(hm2:X.mg "range"=ai)(ha:PA X [a] ta)(hs:starEach [a] X.env=[(ao,eval a X.env)]:=by rfl)
  (he:starEach [.Call (.Name "range" p2) [a] [] pos2] X.env=[(ao,eval (.Call (.Name "range" p2) [a] [] pos2) X.env)]:=by rfl):PE X (.Call (.Name "list" p) [.Call (.Name "range" p2) [a] [] pos2] [] pos) (Qp ta):=by
 intro pins s σ H Q I h
 refine eO (jZ I hg1 hm1 wO ?_ (by decide) (by decide))
 refine cW ?_ he rfl
 rw[he]
 show wpAny _ _ (spliced ((ao,eval (.Call (.Name "range" p2) [a] [] pos2) X.env) :: backTo pos (starEach [] X.env))) _ _ s
 refine eM ?_
 refine Call_ (jZ I hg2 hm2 oq (cW (thn (ha pos2 pins s σ H _ I h) λus s1 ⟨vs,H1,I1,r1,q1⟩=>?_) hs rfl))
 obtain⟨n,e,hn,q⟩:=q1
 subst e
 cases r1 with
 | cons r rr =>
  cases rr
  obtain⟨t,rfl⟩:=r
  refine call_range_1 ?_
  refine ic ?_
  have e2:fh 0 (n:Int) 1=(n:Int):=by rw[rangeSize_one];split <;> lia
  refine call_list_range (I1.ok.hd hc) (oY ..) (small_one (by lia) (by lia) (by lia) (by lia)) e2 (bR hn (by decide)) λh' tk acc c k hS it=>?_
  have sz:(s1.heap.push { cls:=.type "range",data:=.fields #[.int 0 s1.toks,.int (n:Int) t,.int 1 (s1.toks + 1)] }).objs.size=s1.heap.objs.size + 1:=ip ..
  rw[sz] at hS ⊢
  refine⟨.ref (s1.heap.objs.size + 1),upd H1 (s1.heap.objs.size + 1) (.lst ((bI n).map λi=>V.int (i:Nat))),?_,rfl,q _ (I1.hok.fresh (o9 _))⟩
  refine I1.laid (a:=s1.heap.objs.size + 1) (o:=.lst ((bI n).map λi=>V.int (i:Nat))) (t':=tk) (λc o e=>k c o (bo _ e)) (o9 _) ⟨by rw[bu,db];exact bR hn (by decide),acc.toList,c,?_,by rw[Array.toArray_toList];exact hS⟩
  have rv:=zfI n acc.toList (by rw[cy];exact it.1) λi v hv=>by
   obtain⟨t,e⟩:=it.2 i v (by rw[<-dF];exact hv)
   exact⟨t,by rw[e];simp⟩
  exact rv
end
end L2
namespace L2
open PySem PySem.Spec PySem.W PyProof.Rows PySem.Calls
end L2
namespace L2
open PySem PySem.Spec PyProof.Rows
structure FG(K:bz)(mg:Str->Option af)(x:Str)(st:ax)(ps:List Str)(a:ag)(d:FuncData):Prop where
 f:Fun K x x st a d
 b:Binds K d ps []
 m:mg x=aa (.ref a)
structure FM(K:bz)(C:ag)(x qual:Str)(st:ax)(ps:List Str)(a:ag)(d:FuncData):Prop where
 f:Fun K x qual st a d
 b:Binds K d ps []
 me:zb3 K C x a
abbrev QF(K:bz)(x qual:Str)(st:ax)(a:ag):Prop:=∃oc od sl kV dc pm an cd ct,K.lookup a=aa ⟨oc,od,.func (iz x qual (xi st) (yq st) (zj st) .none kV dc pm an cd ct),sl⟩/\iq K cd qual=ae/\fi K (.ref a)=ae
abbrev QG(K:bz)(x:Str)(st:ax):Prop:=∃a,gQ K mainGlobals x=aa (aa (.ref a))/\QF K x x st a
abbrev QM(K:bz)(C:ag)(x qual:Str)(st:ax):Prop:=∃a,cY K (.ref C) x=aa (aa (.ref a))/\pA K (.ref a)=ae/\QF K x qual st a
section
variable {K:bz}{h:aw}{mg:Str->Option af}{x qual:Str}{st:ax}{a C:ag}{ps:List Str}
theorem QF.to(q:QF K x qual st a)(hb:∀(kV doc pm:af) (an:Option ag) (cdv ct:af) (us:List af),us.length=ps.length->bindArgs (iz x qual (xi st) (yq st) (zj st) .none kV doc pm an cdv ct) ⟨us,[]⟩=pure (ps.zip us)):∃d,Fun K x qual st a d/\Binds K d ps []/\fi K (.ref a)=ae:=by
 obtain⟨oc,od,sl,kV,dc,pm,an,cd,ct,h1,h2,h3⟩:=q
 have F:=Jy (st:=st) h1 h2 h3
 exact⟨_,F,F.binds hb,h3⟩
abbrev bA(x qual:Str)(st:ax)(us:List af)(bs:List (Str × af)):Prop:=∀(kV doc pm:af) (an:Option ag) (cdv ct:af),bindArgs (iz x qual (xi st) (yq st) (zj st) .none kV doc pm an cdv ct) ⟨us,[]⟩=pure bs
theorem QG.to(X:K.In h)(G:h.Ns mainGlobals mg)(q:QG K x st)(hb:∀us:List af,us.length=ps.length->bA x x st us (ps.zip us)):∃a d,FG K mg x st ps a d:=by
 obtain⟨a,n,q⟩:=q
 obtain⟨d,F,B,_⟩:=QF.to q λ_ _ _ _ _ _ us hl=>hb us hl _ _ _ _ _ _
 exact⟨a,d,F,B,nP X G n⟩
theorem QM.to(q:QM K C x qual st)(hb:∀us:List af,us.length=ps.length->bA x qual st us (ps.zip us)):∃a d,FM K C x qual st ps a d:=by
 obtain⟨a,n,i,q⟩:=q
 obtain⟨d,F,B,k⟩:=QF.to q λ_ _ _ _ _ _ us hl=>hb us hl _ _ _ _ _ _
 exact⟨a,d,F,B,n,i,k⟩
theorem ar1{P:List af->Prop}(h:∀a,P [a]):∀us,us.length=1->P us
 | [a],_=>h a
theorem ar2{P:List af->Prop}(h:∀a b,P [a,b]):∀us,us.length=2->P us
 | [a,b],_=>h a b
theorem ar3{P:List af->Prop}(h:∀a b c,P [a,b,c]):∀us,us.length=3->P us
 | [a,b,c],_=>h a b c
theorem ar4{P:List af->Prop}(h:∀a b c d,P [a,b,c,d]):∀us,us.length=4->P us
 | [a,b,c,d],_=>h a b c d
theorem ar5{P:List af->Prop}(h:∀a b c d e,P [a,b,c,d,e]):∀us,us.length=5->P us
 | [a,b,c,d,e],_=>h a b c d e
variable (X:K.In h)(G:h.Ns mainGlobals mg)(u v w y z:Str)
include X G in
theorem QG.a1(q:QG K x st)(hb:∀a,bA x x st [a] [(u,a)]:=by exact λ_ _ _ _ _ _ _=>rfl):∃a d,FG K mg x st [u] a d:=QG.to X G q (ar1 hb)
include X G in
theorem QG.a2(q:QG K x st)(hb:∀a b,bA x x st [a,b] [(u,a),(v,b)]:=by exact λ_ _ _ _ _ _ _ _=>rfl):∃a d,FG K mg x st [u,v] a d:=QG.to X G q (ar2 hb)
include X G in
theorem QG.a3(q:QG K x st)(hb:∀a b c,bA x x st [a,b,c] [(u,a),(v,b),(w,c)]:=by exact λ_ _ _ _ _ _ _ _ _=>rfl):∃a d,FG K mg x st [u,v,w] a d:=QG.to X G q (ar3 hb)
include X G in
theorem QG.a4(q:QG K x st)(hb:∀a b c d,bA x x st [a,b,c,d] [(u,a),(v,b),(w,c),(y,d)]:=by exact λ_ _ _ _ _ _ _ _ _ _=>rfl):∃a d,FG K mg x st [u,v,w,y] a d:=QG.to X G q (ar4 hb)
include X G in
theorem QG.a5(q:QG K x st)(hb:∀a b c d e,bA x x st [a,b,c,d,e] [(u,a),(v,b),(w,c),(y,d),(z,e)]:=by exact λ_ _ _ _ _ _ _ _ _ _ _=>rfl):∃a d,FG K mg x st [u,v,w,y,z] a d:=QG.to X G q (ar5 hb)
theorem QM.a1(q:QM K C x qual st)(hb:∀a,bA x qual st [a] [(u,a)]:=by exact λ_ _ _ _ _ _ _=>rfl):∃a d,FM K C x qual st [u] a d:=QM.to q (ar1 hb)
theorem QM.a2(q:QM K C x qual st)(hb:∀a b,bA x qual st [a,b] [(u,a),(v,b)]:=by exact λ_ _ _ _ _ _ _ _=>rfl):∃a d,FM K C x qual st [u,v] a d:=QM.to q (ar2 hb)
theorem QM.a3(q:QM K C x qual st)(hb:∀a b c,bA x qual st [a,b,c] [(u,a),(v,b),(w,c)]:=by exact λ_ _ _ _ _ _ _ _ _=>rfl):∃a d,FM K C x qual st [u,v,w] a d:=QM.to q (ar3 hb)
end
abbrev QX(K:bz)(a:ag):Prop:=∃cl,cY K (.ref a) "__getattribute__"=aa (aa (.builtin "BaseException.__getattribute__"))/\cY K (.ref a) "__getattr__"=aa ai/\cY K (.ref a) "__class__"=aa (aa (.builtin "object.__class__"))/\pE K a (.type "object")=aa ae/\pE K a (.type "BaseException")=aa ae/\o8 K (.builtin "object.__class__") "__get__"=aa (aa (.builtin "getset_descriptor.__get__"))/\W.takesIn K (.builtin "object.__class__")=aa ae/\W.clsIn K a=aa cl
theorem QX.to{K:bz}(q:QX K a):ExK K a:=by
 obtain⟨cl,h1,h2,h3,h4,h5,h6,h7,h8⟩:=q
 exact⟨⟨h1,h2,h3,h4,h5,h6,h7⟩,by rw[h8];rfl⟩
section
variable {X:Cx}{CX:CXT}{j k:Nat}{a C:ag}{d:FuncData}{ps:List Str}{sp:Sp}{x m qual:Str}{st:ax}{p pos apos:Pos}{o e:ay}{es:List ay}{ta:TE}{t:TA}{E:XK}
theorem pcG(F:FnOk X.prog X.w X.K X.mg X.base CX j a d ps sp)(G:FG X.K X.mg x st ps a d)(hr:Room k X.A)(hx:j6 CX X E)(ha:PA X (e :: es) t)(hj:j<=k:=by decide)(hg:Gl X x:=by exact rfl)(hdb:(x == ("__debug__":Str))=ao:=by decide)(he:starEach (e :: es) X.env=(ao,eval e X.env) :: starEach es X.env:=by rfl)(hpl:(backTo pos (starEach es X.env)).any (·.1)=ao:=by rfl) :
  PE X (.Call (.Name x p) (e :: es) [] pos) (zn sp [] E t):=XZ (F.mono hj) hr hg G.m G.f.kp G.b .nil hx ha hdb he hpl
end
theorem FnScope.m{N P:List Str}{sc:az}(h1:sc.kind=.function:=by rfl)(h2:sc.isCoroutine=ao:=by rfl)(h3:sc.isGenerator=ao:=by rfl)(h4:N.Nodup:=by decide +kernel)(h5:N.take P.length=P:=by rfl)(h6:∀x∈P,sc.names.lookup x=aa .local\/sc.names.lookup x=aa .cell:=by decide +kernel)(h7:∀y∈sc.names,y.2≠.free:=by decide +kernel):FnScope N P sc:=⟨h1,h2,h3,h4,h5,h6,h7⟩
section
variable {P:aq}{w:au}{K:bz}{mg:Str->Option af}{base:aw}{x qual:Str}{st:ax}{f:ag}{fd:FuncData}{N ps:List Str}{k:Nat}{sp:Sp}
theorem Fun.okA(F:Fun K x qual st f fd)(S:FnScope N ps (zj st))(h:∀vs H Q E,sp vs H Q E->vs.length=ps.length/\∀(cdv:af) (A:av) (outer:List Env) (s:aj),Room k (A.deeper (envOfC qual (zj st) s.heap.objs.size f cdv)) ->
   ∃t,PSs (jI (CX1 P w) P w K mg base N qual (zj st) f cdv A outer s H E).nox (yq st) t/\t { nx:=λ_ H'=>Q .non H',rt:=Q } (start N vs) H):FnOk P w K mg base (CX1 P w) (k + 1) f fd ps sp:=F.ok0 S (λvs H Q E z=>(h vs H Q E z).1) λcdv A outer s H vs Q E hr z=>(h vs H Q E z).2 cdv A outer s hr
theorem Fun.okB(F:Fun K x qual st f fd)(S:FnScope N ps (zj st))(h:∀vs H Q E,sp vs H Q E->vs.length=ps.length/\∀(cdv:af) (A:av) (outer:List Env) (s:aj),Room k (A.deeper (envOfC qual (zj st) s.heap.objs.size f cdv)) ->
   ∃t,PSs (jI (CX1 P w) P w K mg base N qual (zj st) f cdv A outer s H E) (yq st) t/\t { nx:=λ_ H'=>Q .non H',rt:=Q } (start N vs) H):FnOk P w K mg base (CX1 P w) (k + 1) f fd ps sp:=F.ok1 S (λvs H Q E z=>(h vs H Q E z).1) λcdv A outer s H vs Q E hr z=>(h vs H Q E z).2 cdv A outer s hr
end
end L2
namespace L2
open PySem PySem.Spec PyProof.Rows
section
variable {K:bz}{σ:St}{H:Hp}{Q:VK}{i:Nat}{k:Int}{p a C dx:ag}{xs:List V}{u v:V}{x w f:Str}{fs:List (Str × V)}{te:TE}{A B:TS}{D:Vi}
theorem qb(h0:σ[i]?=aa (aa (.ref p)))(h1:H p=aa (.tup xs))(h2:atI xs k=aa u)(q:Q u H):tOp (zO K) (zc i) (tC (.int k)) σ H Q:=⟨_,h0,p,xs,k,u,rfl,rfl,SqT.of h1,h2,q⟩
theorem vD(h0:σ[i]?=aa (aa (.ref a)))(h1:H a=aa (.ins C dx fs))(c:Cls K C)(n:NoAttr K C f)(l:fs.lookup f=aa v)(q:Q v H):yG K (zc i) f σ H Q:=⟨_,h0,a,C,dx,fs,v,rfl,h1,c,n,l,q⟩
theorem zh1(h:∀Q:VK,Q (.str x) H->te σ H Q)(a:x=w->A D σ H)(b:x≠w->B D σ H):zS (zA (tOp rEq te (tC (.str w)))) A B D σ H:=by
 refine h _ ⟨rfl,_,rfl,?_⟩
 by_cases c:x=w
 ·show if _ then _ else _
  rw[ap (by rw[c];exact decide_eq_true rfl)];exact a c
 ·show if _ then _ else _
  rw[ak (by rw[decide_eq_true_eq];exact λz=>c (V.str.inj z))];exact b c
theorem xE(h0:σ[i]?=aa (aa (.ref p)))(h1:H p=aa (.tup xs))(h2:atI xs k=aa (.str x))(a:x=w->A D σ H)(b:x≠w->B D σ H):zS (zA (tOp rEq (tOp (zO K) (zc i) (tC (.int k))) (tC (.str w)))) A B D σ H:=zh1 (λQ q=>qb h0 h1 h2 q) a b
theorem zd4(h0:σ[i]?=aa (aa (.ref l)))(h1:H l=aa (.lst xs))(q:Q (.int xs.length) H):tCB (xy K) (zb (zc i) zi) σ H Q:=by
 refine⟨_,h0,.ref l,xs.length,rfl,?_,q⟩
 simp only[Zn]
 exact .inl ⟨_,SqL.of h1,rfl⟩
theorem zd5{n:Int}{P R:Prop}(a:n≠0->P)(b:n=0->R):if (!decide (V.int n=V.int 0))=ae then P else R:=by
 by_cases c:n=0
 ·rw[ak (by rw[c];decide)];exact b c
 ·rw[ap (by rw[decide_eq_false (λz=>c (V.int.inj z))];rfl)];exact a c
theorem zh2{n:Int}{P R:Prop}(a:n=0->P)(b:n≠0->R):if decide (V.int n=V.int 0)=ae then P else R:=by
 by_cases c:n=0
 ·rw[ap (by rw[c];decide)];exact a c
 ·rw[ak (by rw[decide_eq_false (λz=>c (V.int.inj z))];decide)];exact b c
end
end L2
namespace K55
open PySem L2
def top(i:Nat):ax:=PySem.Challenge.pw_forerun_k55_whole_any_order_that_keeps.main.body.getD i (.Pass ⟨0,0,0,0⟩)
abbrev qx:ax:=top 39
abbrev vH:ax:=top 40
abbrev wf:ax:=top 41
abbrev jh:ax:=top 42
abbrev kq:ax:=top 47
abbrev kr:ax:=top 25
abbrev wE:ax:=xh (top 22) 0
abbrev ZK:ax:=xh (top 22) 1
abbrev qy:ax:=xh (top 22) 4
abbrev YR:ax:=top 17
abbrev YS:ax:=top 18
abbrev ZL:ax:=top 14
abbrev WJ:ax:=top 19
abbrev ZM:ax:=top 20
abbrev vR:ax:=xh (top 22) 5
abbrev vS:ax:=xh (top 22) 6
abbrev ZN:ax:=xh (top 22) 2
abbrev qz:ax:=xh (top 22) 9
abbrev ZO:ax:=xh (top 22) 8
abbrev kt:ax:=xh (top 22) 7
abbrev wF:ax:=xh (top 22) 3
abbrev WK:ax:=top 11
abbrev zd6:ax:=top 23
abbrev ku:ax:=top 10
abbrev YT:ax:=top 12
abbrev ky:ax:=top 27
abbrev vh:ax:=top 51
abbrev wG:ax:=top 52
abbrev ZP:ax:=top 48
abbrev vT:ax:=top 38
abbrev kz:ax:=top 49
abbrev ji:ax:=top 50
abbrev jj:ax:=top 30
abbrev ZQ:ax:=top 29
abbrev YU:ax:=top 31
abbrev xA:ax:=xh (top 33) 0
abbrev wH:ax:=xh (top 33) 1
abbrev kA:ax:=xh (top 33) 3
abbrev xu:ax:=xh (top 33) 2
abbrev kB:ax:=top 34
abbrev JW:ax:=top 35
abbrev kC:ax:=top 36
abbrev qA:ax:=top 44
abbrev qB:ax:=top 43
abbrev ZR:ax:=top 45
abbrev qC:ax:=top 46
abbrev vI:ax:=top 6
abbrev zaF:ax:=top 7
abbrev Zj:ax:=top 8
abbrev X4:ax:=top 26
abbrev Xk:ax:=top 53
theorem sc__law_draw:FnScope ["cell","j","far"] ["cell","j"] (zj qx):=.m
theorem sc__law_names:FnScope ["cell","many","size","signs","stem","k","at","turn"] ["cell","many"] (zj vH):=.m
theorem sc__law_shelves:FnScope ["cell","many","signs","stem","more","some","turn"] ["cell","many"] (zj wf):=.m
theorem WL:FnScope ["cell","j"] ["cell","j"] (zj jh):=.m
theorem sc__law_table:FnScope ["cell","shelves","wide","worths","k","worth"] ["cell","shelves","wide"] (zj kq):=.m
theorem Vm:FnScope ["order","many"] ["order","many"] (zj kr):=.m
theorem Qq:FnScope ["self","code"] ["self","code"] (zj wE):=.m
theorem Qr:FnScope ["self"] ["self"] (zj ZK):=.m
theorem sc_Run_paper:FnScope ["self","notes"] ["self"] (zj qy):=.m
theorem zaG:FnScope ["word","first","second"] ["word","first","second"] (zj YR):=.m
theorem zaH:FnScope ["word","first","second"] ["word","first","second"] (zj YS):=.m
theorem Qs:FnScope ["thing"] ["thing"] (zj ZL):=.m
theorem sc_joined:FnScope ["word","first","second","worth"] ["word","first","second"] (zj WJ):=.m
theorem sc_reckoned:FnScope ["term","slots","worths","part","second","first"] ["term","slots"] (zj ZM):=.m
theorem XE:FnScope ["self","term"] ["self","term"] (zj vR):=.m
theorem XG:FnScope ["self","due"] ["self","due"] (zj vS):=.m
theorem sc_Run_asks:FnScope ["self","place"] ["self"] (zj ZN):=.m
theorem JX:FnScope ["self","place","worth"] ["self","place","worth"] (zj qz):=.m
theorem sc_Run_does:FnScope ["self","due","worth","place"] ["self","due","worth"] (zj ZO):=.m
theorem Vn:FnScope ["self","due","worth"] ["self","due","worth"] (zj kt):=.m
theorem Qt:FnScope ["self","worth"] ["self","worth"] (zj wF):=.m
theorem zct:FnScope ["table","place"] ["table","place"] (zj WK):=.m
theorem sc_fed:FnScope ["code","table","run","place"] ["code","table"] (zj zd6):=.m
theorem sc_table_of:FnScope ["rows","worths"] ["rows"] (zj ku):=.m
theorem zaI:FnScope ["table","gifts"] ["table","gifts"] (zj YT):=.m
theorem sc_in_order:FnScope ["codes","table","order","papers","behind","rank"] ["codes","table","order"] (zj ky):=.m
theorem YV:FnScope ["paper"] ["paper"] (zj vh):=.m
theorem sc__law_papers_of:FnScope ["told","many","paper"] ["told","many"] (zj wG):=.m
theorem sc__law_met:FnScope ["one","other","gifts","row","theirs"] ["one","other"] (zj ZP):=.m
theorem XH:FnScope ["script","k"] ["script","k"] (zj vT):=.m
theorem sc__law_order:FnScope ["script","papers","most","order","rank","far","at"] ["script","papers","most"] (zj kz):=.m
theorem sc__law_turned:FnScope ["cell","papers","order","pairs","k"] ["cell","papers","order"] (zj ji):=.m
theorem sc_block_steps:FnScope ["row","at","steps","to","others"] ["row","at"] (zj jj):=.m
theorem sc_steps_of:FnScope ["rows","first","steps","row"] ["rows","first"] (zj ZQ):=.m
theorem zaJ:FnScope ["rows"] ["rows"] (zj YU):=.m
theorem Vo:FnScope ["self","table"] ["self","table"] (zj xA):=.m
theorem Yu:FnScope ["self","term"] ["self","term"] (zj wH):=.m
theorem sc_Doing_does:FnScope ["self","row","place"] ["self","row"] (zj kA):=.m
theorem sc_Doing_goes_through:FnScope ["self","rows","row"] ["self","rows"] (zj xu):=.m
theorem Vp:FnScope ["why","table"] ["why","table"] (zj kB):=.m
theorem sc_alone:FnScope ["rows","table","doing","came_through"] ["rows","table"] (zj JW):=.m
theorem sc_one_by_one:FnScope ["dealings","table","outcomes","behind","rows","done"] ["dealings","table"] (zj kC):=.m
theorem sc__law_spot:FnScope ["cell","j","slots","wide","kind"] ["cell","j","slots","wide"] (zj qA):=.m
theorem sc__law_term:FnScope ["cell","j","slots","slot","kind","words"] ["cell","j","slots"] (zj qB):=.m
theorem sc__law_row:FnScope ["cell","j","slots","shelves","wide","kind","shelf","slot","place"] ["cell","j","slots","shelves","wide"] (zj ZR):=.m
theorem sc__law_rows:FnScope ["cells","slots","shelves","wide","rows","cell","row","others"] ["cells","slots","shelves","wide"] (zj qC):=.m
theorem sc_gives_into:FnScope ["one","other","known"] ["one","other"] (zj vI):=.m
theorem zfJ:FnScope ["one","other"] ["one","other"] (zj zaF):=.m
theorem zaK:FnScope ["papers","ranks","rank"] ["papers","ranks","rank"] (zj Zj):=.m
theorem sc_keeps:FnScope ["papers","order","at","rank","higher"] ["papers","order"] (zj X4):=.m
theorem sc_law:FnScope ["script","slots","shelves","wide","table","many","dealings","at","codes","told","papers","most","order","turned"] ["script"] (zj Xk):=.m
set_option genSizeOf false in
set_option genInjectivity false in
structure Adr where
 a0:ag
 d0:FuncData
 a1:ag
 d1:FuncData
 a2:ag
 d2:FuncData
 a3:ag
 d3:FuncData
 a4:ag
 d4:FuncData
 a5:ag
 d5:FuncData
 a6:ag
 d6:FuncData
 a7:ag
 d7:FuncData
 a8:ag
 d8:FuncData
 a9:ag
 d9:FuncData
 a10:ag
 d10:FuncData
 a11:ag
 d11:FuncData
 a12:ag
 d12:FuncData
 a13:ag
 d13:FuncData
 a14:ag
 d14:FuncData
 a15:ag
 d15:FuncData
 a16:ag
 d16:FuncData
 a17:ag
 d17:FuncData
 a18:ag
 d18:FuncData
 a19:ag
 d19:FuncData
 a20:ag
 d20:FuncData
 a21:ag
 d21:FuncData
 a22:ag
 d22:FuncData
 a23:ag
 d23:FuncData
 a24:ag
 d24:FuncData
 a25:ag
 d25:FuncData
 a26:ag
 d26:FuncData
 a27:ag
 d27:FuncData
 a28:ag
 d28:FuncData
 a29:ag
 d29:FuncData
 a30:ag
 d30:FuncData
 a31:ag
 d31:FuncData
 a32:ag
 d32:FuncData
 a33:ag
 d33:FuncData
 a34:ag
 d34:FuncData
 a35:ag
 d35:FuncData
 a36:ag
 d36:FuncData
 a37:ag
 d37:FuncData
 a38:ag
 d38:FuncData
 a39:ag
 d39:FuncData
 a40:ag
 d40:FuncData
 a41:ag
 d41:FuncData
 a42:ag
 d42:FuncData
 a43:ag
 d43:FuncData
 a44:ag
 d44:FuncData
 a45:ag
 d45:FuncData
 a46:ag
 d46:FuncData
 a47:ag
 d47:FuncData
 a48:ag
 d48:FuncData
 a49:ag
 d49:FuncData
 a50:ag
 d50:FuncData
 c_JOINING:ag
 c_Doing:ag
 c_Great:ag
 c_NoOrder:ag
 c_Nought:ag
 c_Run:ag
structure Txt(K:bz)(mg:Str->Option af)(t:Adr):Prop where
 g0:FG K mg "_law_draw" qx ["cell","j"] t.a0 t.d0
 g1:FG K mg "_law_names" vH ["cell","many"] t.a1 t.d1
 g2:FG K mg "_law_shelves" wf ["cell","many"] t.a2 t.d2
 g3:FG K mg "_law_number" jh ["cell","j"] t.a3 t.d3
 g4:FG K mg "_law_table" kq ["cell","shelves","wide"] t.a4 t.d4
 g5:FG K mg "heed_order" kr ["order","many"] t.a5 t.d5
 f_Run_init:Fun K "__init__" "Run.__init__" wE t.a6 t.d6
 b_Run_init:Binds K t.d6 ["self","code"] []
 g7:FM K t.c_Run "over" "Run.over" ZK ["self"] t.a7 t.d7
 g8:FM K t.c_Run "paper" "Run.paper" qy ["self"] t.a8 t.d8
 g9:FG K mg "divided" YR ["word","first","second"] t.a9 t.d9
 g10:FG K mg "come_to" YS ["word","first","second"] t.a10 t.d10
 g11:FG K mg "is_worth" ZL ["thing"] t.a11 t.d11
 g12:FG K mg "joined" WJ ["word","first","second"] t.a12 t.d12
 g13:FG K mg "reckoned" ZM ["term","slots"] t.a13 t.d13
 g14:FM K t.c_Run "worth_of" "Run.worth_of" vR ["self","term"] t.a14 t.d14
 g15:FM K t.c_Run "place_in" "Run.place_in" vS ["self","due"] t.a15 t.d15
 g16:FM K t.c_Run "asks" "Run.asks" ZN ["self"] t.a16 t.d16
 g17:FM K t.c_Run "taken" "Run.taken" qz ["self","place","worth"] t.a17 t.d17
 g18:FM K t.c_Run "does" "Run.does" ZO ["self","due","worth"] t.a18 t.d18
 g19:FM K t.c_Run "led_by" "Run.led_by" kt ["self","due","worth"] t.a19 t.d19
 f_Run_step:FunD K "step" "Run.step" wF t.a20 t.d20
 b_Run_step:Binds K t.d20 ["self","worth"] []
 me_Run_step:zb3 K t.c_Run "step" t.a20
 g21:FG K mg "stands" WK ["table","place"] t.a21 t.d21
 g22:FG K mg "fed" zd6 ["code","table"] t.a22 t.d22
 g23:FG K mg "table_of" ku ["rows"] t.a23 t.d23
 g24:FG K mg "laid_on" YT ["table","gifts"] t.a24 t.d24
 g25:FG K mg "in_order" ky ["codes","table","order"] t.a25 t.d25
 g26:FG K mg "_law_is_paper" vh ["paper"] t.a26 t.d26
 g27:FG K mg "_law_papers_of" wG ["told","many"] t.a27 t.d27
 g28:FG K mg "_law_met" ZP ["one","other"] t.a28 t.d28
 g29:FG K mg "_law_cell_at" vT ["script","k"] t.a29 t.d29
 g30:FG K mg "_law_order" kz ["script","papers","most"] t.a30 t.d30
 g31:FG K mg "_law_turned" ji ["cell","papers","order"] t.a31 t.d31
 g32:FG K mg "block_steps" jj ["row","at"] t.a32 t.d32
 g33:FG K mg "steps_of" ZQ ["rows","first"] t.a33 t.d33
 g34:FG K mg "code_of" YU ["rows"] t.a34 t.d34
 f_Doing_init:Fun K "__init__" "Doing.__init__" xA t.a35 t.d35
 b_Doing_init:Binds K t.d35 ["self","table"] []
 g36:FM K t.c_Doing "worth_of" "Doing.worth_of" wH ["self","term"] t.a36 t.d36
 g37:FM K t.c_Doing "does" "Doing.does" kA ["self","row"] t.a37 t.d37
 g38:FM K t.c_Doing "goes_through" "Doing.goes_through" xu ["self","rows"] t.a38 t.d38
 g39:FG K mg "broken_off" kB ["why","table"] t.a39 t.d39
 g40:FG K mg "alone" JW ["rows","table"] t.a40 t.d40
 g41:FG K mg "one_by_one" kC ["dealings","table"] t.a41 t.d41
 g42:FG K mg "_law_spot" qA ["cell","j","slots","wide"] t.a42 t.d42
 g43:FG K mg "_law_term" qB ["cell","j","slots"] t.a43 t.d43
 g44:FG K mg "_law_row" ZR ["cell","j","slots","shelves","wide"] t.a44 t.d44
 g45:FG K mg "_law_rows" qC ["cells","slots","shelves","wide"] t.a45 t.d45
 g46:FG K mg "gives_into" vI ["one","other"] t.a46 t.d46
 g47:FG K mg "meet" zaF ["one","other"] t.a47 t.d47
 g48:FG K mg "meeting" Zj ["papers","ranks","rank"] t.a48 t.d48
 g49:FG K mg "keeps" X4 ["papers","order"] t.a49 t.d49
 f_law:Fun K "law" "law" Xk t.a50 t.d50
 b_law:Binds K t.d50 ["script"] []
 m_law:mg "law"=aa (.ref t.a50)
 w_law:∀(s:aj) (v:af),BindsTo s t.d50 ⟨[v],[]⟩ [("script",v)]
 b_any:mg "any"=ai
 b_bool:mg "bool"=ai
 b_dict:mg "dict"=ai
 b_enumerate:mg "enumerate"=ai
 b_int:mg "int"=ai
 b_isinstance:mg "isinstance"=ai
 b_len:mg "len"=ai
 b_list:mg "list"=ai
 b_range:mg "range"=ai
 b_sorted:mg "sorted"=ai
 b_str:mg "str"=ai
 b_tuple:mg "tuple"=ai
 g_JOINING:mg "JOINING"=aa (.ref t.c_JOINING)
 v_JOINING:∀H:Hp,SqT K H t.c_JOINING [.str "plus",.str "minus",.str "times",.str "over",.str "rest",.str "under",.str "same"]
 g_Doing:mg "Doing"=aa (.ref t.c_Doing)
 g_Great:mg "Great"=aa (.ref t.c_Great)
 g_NoOrder:mg "NoOrder"=aa (.ref t.c_NoOrder)
 g_Nought:mg "Nought"=aa (.ref t.c_Nought)
 g_Run:mg "Run"=aa (.ref t.c_Run)
 cl_Doing:Cls K t.c_Doing
 mk_Doing:Mk K t.c_Doing t.a35
 na_Doing_sayings:NoAttr K t.c_Doing "sayings"
 na_Doing_slots:NoAttr K t.c_Doing "slots"
 na_Doing_worths:NoAttr K t.c_Doing "worths"
 cl_Run:Cls K t.c_Run
 mk_Run:Mk K t.c_Run t.a6
 na_Run_at:NoAttr K t.c_Run "at"
 na_Run_code:NoAttr K t.c_Run "code"
 na_Run_gifts:NoAttr K t.c_Run "gifts"
 na_Run_notes:NoAttr K t.c_Run "notes"
 na_Run_sayings:NoAttr K t.c_Run "sayings"
 na_Run_slots:NoAttr K t.c_Run "slots"
 na_Run_why:NoAttr K t.c_Run "why"
 x_NoOrder:m4 K t.c_NoOrder Wo qk=ae
 y_NoOrder:ExK K t.c_NoOrder
 e_NoOrder_Great:fP K (.ref t.c_NoOrder) (.ref t.c_Great)=aa ao
 e_NoOrder_Nought:fP K (.ref t.c_NoOrder) (.ref t.c_Nought)=aa ao
 m_NoOrder_Great_Nought:nu K (.ref t.c_NoOrder) [.ref t.c_Great,.ref t.c_Nought]=aa ao
 x_Nought:m4 K t.c_Nought Wo qk=ae
 y_Nought:ExK K t.c_Nought
 e_Nought_Great:fP K (.ref t.c_Nought) (.ref t.c_Great)=aa ao
 e_Nought_Nought:fP K (.ref t.c_Nought) (.ref t.c_Nought)=aa ae
 m_Nought_Great_Nought:nu K (.ref t.c_Nought) [.ref t.c_Great,.ref t.c_Nought]=aa ae
 x_Great:m4 K t.c_Great Wo qk=ae
 y_Great:ExK K t.c_Great
 e_Great_Great:fP K (.ref t.c_Great) (.ref t.c_Great)=aa ae
 e_Great_Nought:fP K (.ref t.c_Great) (.ref t.c_Nought)=aa ao
 m_Great_Great_Nought:nu K (.ref t.c_Great) [.ref t.c_Great,.ref t.c_Nought]=aa ae
theorem txt_mk{mg:Str->Option af}(X:K.In h)(G:h.Ns mainGlobals mg)
  
  
  
  
  
  
  
  
  
  
  (h0:QG K "_law_draw" qx)
  (h1:QG K "_law_names" vH)
  (h2:QG K "_law_shelves" wf)
  (h3:QG K "_law_number" jh)
  (h4:QG K "_law_table" kq)
  (h5:QG K "heed_order" kr)
  (qa6:cY K (.ref ca4) "__init__"=aa (aa (.ref f6))) (qi6:pA K (.ref f6)=ae) (ql6:K.lookup f6=aa ⟨oc6,od6,.func (iz "__init__" "Run.__init__" (xi wE) (yq wE) (zj wE) .none kV6 dc6 pm6 an6 cd6 ct6),sl6⟩) (qc6:iq K cd6 "Run.__init__"=ae) (qk6:fi K (.ref f6)=ae)
  (h7:QM K ca4 "over" "Run.over" ZK)
  (h8:QM K ca4 "paper" "Run.paper" qy)
  (h9:QG K "divided" YR)
  (h10:QG K "come_to" YS)
  (h11:QG K "is_worth" ZL)
  (h12:QG K "joined" WJ)
  (h13:QG K "reckoned" ZM)
  (h14:QM K ca4 "worth_of" "Run.worth_of" vR)
  (h15:QM K ca4 "place_in" "Run.place_in" vS)
  (h16:QM K ca4 "asks" "Run.asks" ZN)
  (h17:QM K ca4 "taken" "Run.taken" qz)
  (h18:QM K ca4 "does" "Run.does" ZO)
  (h19:QM K ca4 "led_by" "Run.led_by" kt)
  (qa20:cY K (.ref ca4) "step"=aa (aa (.ref f20))) (qi20:pA K (.ref f20)=ae) (ql20:K.lookup f20=aa ⟨oc20,od20,.func (iz "step" "Run.step" (xi wF) (yq wF) (zj wF) (.ref dA20) kV20 dc20 pm20 an20 cd20 ct20),sl20⟩) (qc20:iq K cd20 "Run.step"=ae) (qk20:fi K (.ref f20)=ae) (qd20:K.lookup dA20=aa ⟨.type "tuple",ai,.seq #[.int 0 dt20_0] dn20,#[]⟩)
  (h21:QG K "stands" WK)
  (h22:QG K "fed" zd6)
  (h23:QG K "table_of" ku)
  (h24:QG K "laid_on" YT)
  (h25:QG K "in_order" ky)
  (h26:QG K "_law_is_paper" vh)
  (h27:QG K "_law_papers_of" wG)
  (h28:QG K "_law_met" ZP)
  (h29:QG K "_law_cell_at" vT)
  (h30:QG K "_law_order" kz)
  (h31:QG K "_law_turned" ji)
  (h32:QG K "block_steps" jj)
  (h33:QG K "steps_of" ZQ)
  (h34:QG K "code_of" YU)
  (qa35:cY K (.ref ca0) "__init__"=aa (aa (.ref f35))) (qi35:pA K (.ref f35)=ae) (ql35:K.lookup f35=aa ⟨oc35,od35,.func (iz "__init__" "Doing.__init__" (xi xA) (yq xA) (zj xA) .none kV35 dc35 pm35 an35 cd35 ct35),sl35⟩) (qc35:iq K cd35 "Doing.__init__"=ae) (qk35:fi K (.ref f35)=ae)
  (h36:QM K ca0 "worth_of" "Doing.worth_of" wH)
  (h37:QM K ca0 "does" "Doing.does" kA)
  (h38:QM K ca0 "goes_through" "Doing.goes_through" xu)
  (h39:QG K "broken_off" kB)
  (h40:QG K "alone" JW)
  (h41:QG K "one_by_one" kC)
  (h42:QG K "_law_spot" qA)
  (h43:QG K "_law_term" qB)
  (h44:QG K "_law_row" ZR)
  (h45:QG K "_law_rows" qC)
  (h46:QG K "gives_into" vI)
  (h47:QG K "meet" zaF)
  (h48:QG K "meeting" Zj)
  (h49:QG K "keeps" X4)
  (qa50:gQ K mainGlobals "law"=aa (aa (.ref f50))) (ql50:K.lookup f50=aa ⟨oc50,od50,.func (iz "law" "law" (xi Xk) (yq Xk) (zj Xk) .none kV50 dc50 pm50 an50 cd50 ct50),sl50⟩) (qc50:iq K cd50 "law"=ae) (qk50:fi K (.ref f50)=ae)
  (qz0:gQ K mainGlobals "any"=aa ai)
  (qz1:gQ K mainGlobals "bool"=aa ai)
  (qz2:gQ K mainGlobals "dict"=aa ai)
  (qz3:gQ K mainGlobals "enumerate"=aa ai)
  (qz4:gQ K mainGlobals "int"=aa ai)
  (qz5:gQ K mainGlobals "isinstance"=aa ai)
  (qz6:gQ K mainGlobals "len"=aa ai)
  (qz7:gQ K mainGlobals "list"=aa ai)
  (qz8:gQ K mainGlobals "range"=aa ai)
  (qz9:gQ K mainGlobals "sorted"=aa ai)
  (qz10:gQ K mainGlobals "str"=aa ai)
  (qz11:gQ K mainGlobals "tuple"=aa ai)
  (qg0:gQ K mainGlobals "JOINING"=aa (aa (.ref ga0))) (qh0:K.lookup ga0=aa ⟨.type "tuple",ai,.seq #[.str "plus" gt0_0,.str "minus" gt0_1,.str "times" gt0_2,.str "over" gt0_3,.str "rest" gt0_4,.str "under" gt0_5,.str "same" gt0_6] gn0,#[]⟩)
  (qv0:gQ K mainGlobals "Doing"=aa (aa (.ref ca0)))
  (qv1:gQ K mainGlobals "Great"=aa (aa (.ref ca1)))
  (qv2:gQ K mainGlobals "NoOrder"=aa (aa (.ref ca2)))
  (qv3:gQ K mainGlobals "Nought"=aa (aa (.ref ca3)))
  (qv4:gQ K mainGlobals "Run"=aa (aa (.ref ca4)))
  (pg0:l5 K ca0 gE=ae) (pd0:mv K ca0=ae) (po0:nH K ca0=ae) (pe0:cY K (.ref ca0) "__setattr__"=aa (aa (.builtin "object.__setattr__"))) (pm0_:oZ K ca0=ae) (pk0:fi K (.ref ca0)=ae)
  (pn0_0:cY K (.ref ca0) "sayings"=aa ai)
  (pn0_1:cY K (.ref ca0) "slots"=aa ai)
  (pn0_2:cY K (.ref ca0) "worths"=aa ai)
  (pg4:l5 K ca4 gE=ae) (pd4:mv K ca4=ae) (po4:nH K ca4=ae) (pe4:cY K (.ref ca4) "__setattr__"=aa (aa (.builtin "object.__setattr__"))) (pm4_:oZ K ca4=ae) (pk4:fi K (.ref ca4)=ae)
  (pn4_0:cY K (.ref ca4) "at"=aa ai)
  (pn4_1:cY K (.ref ca4) "code"=aa ai)
  (pn4_2:cY K (.ref ca4) "gifts"=aa ai)
  (pn4_3:cY K (.ref ca4) "notes"=aa ai)
  (pn4_4:cY K (.ref ca4) "sayings"=aa ai)
  (pn4_5:cY K (.ref ca4) "slots"=aa ai)
  (pn4_6:cY K (.ref ca4) "why"=aa ai)
  (rx0:m4 K ca2 Wo qk=ae)
  (ry0:QX K ca2)
  (re0_0:fP K (.ref ca2) (.ref ca1)=aa ao)
  (re0_1:fP K (.ref ca2) (.ref ca3)=aa ao)
  (rm0_0:nu K (.ref ca2) [(.ref ca1),(.ref ca3)]=aa ao)
  (rx1:m4 K ca3 Wo qk=ae)
  (ry1:QX K ca3)
  (re1_0:fP K (.ref ca3) (.ref ca1)=aa ao)
  (re1_1:fP K (.ref ca3) (.ref ca3)=aa ae)
  (rm1_0:nu K (.ref ca3) [(.ref ca1),(.ref ca3)]=aa ae)
  (rx2:m4 K ca1 Wo qk=ae)
  (ry2:QX K ca1)
  (re2_0:fP K (.ref ca1) (.ref ca1)=aa ae)
  (re2_1:fP K (.ref ca1) (.ref ca3)=aa ao)
  (rm2_0:nu K (.ref ca1) [(.ref ca1),(.ref ca3)]=aa ae):∃t,Txt K mg t:=by
 obtain⟨f0,d0,F0⟩:=QG.a2 X G "cell" "j" h0
 obtain⟨f1,d1,F1⟩:=QG.a2 X G "cell" "many" h1
 obtain⟨f2,d2,F2⟩:=QG.a2 X G "cell" "many" h2
 obtain⟨f3,d3,F3⟩:=QG.a2 X G "cell" "j" h3
 obtain⟨f4,d4,F4⟩:=QG.a3 X G "cell" "shelves" "wide" h4
 obtain⟨f5,d5,F5⟩:=QG.a2 X G "order" "many" h5
 have F6:=Jy (st:=wE) ql6 qc6 qk6
 obtain⟨f7,d7,F7⟩:=QM.a1 "self" h7
 obtain⟨f8,d8,F8⟩:=QM.a1 "self" h8
 obtain⟨f9,d9,F9⟩:=QG.a3 X G "word" "first" "second" h9
 obtain⟨f10,d10,F10⟩:=QG.a3 X G "word" "first" "second" h10
 obtain⟨f11,d11,F11⟩:=QG.a1 X G "thing" h11
 obtain⟨f12,d12,F12⟩:=QG.a3 X G "word" "first" "second" h12
 obtain⟨f13,d13,F13⟩:=QG.a2 X G "term" "slots" h13
 obtain⟨f14,d14,F14⟩:=QM.a2 "self" "term" h14
 obtain⟨f15,d15,F15⟩:=QM.a2 "self" "due" h15
 obtain⟨f16,d16,F16⟩:=QM.a1 "self" h16
 obtain⟨f17,d17,F17⟩:=QM.a3 "self" "place" "worth" h17
 obtain⟨f18,d18,F18⟩:=QM.a3 "self" "due" "worth" h18
 obtain⟨f19,d19,F19⟩:=QM.a3 "self" "due" "worth" h19
 have F20:=zfE (st:=wF) ql20 qc20 qk20
 obtain⟨f21,d21,F21⟩:=QG.a2 X G "table" "place" h21
 obtain⟨f22,d22,F22⟩:=QG.a2 X G "code" "table" h22
 obtain⟨f23,d23,F23⟩:=QG.a1 X G "rows" h23
 obtain⟨f24,d24,F24⟩:=QG.a2 X G "table" "gifts" h24
 obtain⟨f25,d25,F25⟩:=QG.a3 X G "codes" "table" "order" h25
 obtain⟨f26,d26,F26⟩:=QG.a1 X G "paper" h26
 obtain⟨f27,d27,F27⟩:=QG.a2 X G "told" "many" h27
 obtain⟨f28,d28,F28⟩:=QG.a2 X G "one" "other" h28
 obtain⟨f29,d29,F29⟩:=QG.a2 X G "script" "k" h29
 obtain⟨f30,d30,F30⟩:=QG.a3 X G "script" "papers" "most" h30
 obtain⟨f31,d31,F31⟩:=QG.a3 X G "cell" "papers" "order" h31
 obtain⟨f32,d32,F32⟩:=QG.a2 X G "row" "at" h32
 obtain⟨f33,d33,F33⟩:=QG.a2 X G "rows" "first" h33
 obtain⟨f34,d34,F34⟩:=QG.a1 X G "rows" h34
 have F35:=Jy (st:=xA) ql35 qc35 qk35
 obtain⟨f36,d36,F36⟩:=QM.a2 "self" "term" h36
 obtain⟨f37,d37,F37⟩:=QM.a2 "self" "row" h37
 obtain⟨f38,d38,F38⟩:=QM.a2 "self" "rows" h38
 obtain⟨f39,d39,F39⟩:=QG.a2 X G "why" "table" h39
 obtain⟨f40,d40,F40⟩:=QG.a2 X G "rows" "table" h40
 obtain⟨f41,d41,F41⟩:=QG.a2 X G "dealings" "table" h41
 obtain⟨f42,d42,F42⟩:=QG.a4 X G "cell" "j" "slots" "wide" h42
 obtain⟨f43,d43,F43⟩:=QG.a3 X G "cell" "j" "slots" h43
 obtain⟨f44,d44,F44⟩:=QG.a5 X G "cell" "j" "slots" "shelves" "wide" h44
 obtain⟨f45,d45,F45⟩:=QG.a4 X G "cells" "slots" "shelves" "wide" h45
 obtain⟨f46,d46,F46⟩:=QG.a2 X G "one" "other" h46
 obtain⟨f47,d47,F47⟩:=QG.a2 X G "one" "other" h47
 obtain⟨f48,d48,F48⟩:=QG.a3 X G "papers" "ranks" "rank" h48
 obtain⟨f49,d49,F49⟩:=QG.a2 X G "papers" "order" h49
 have F50:=Jy (st:=Xk) ql50 qc50 qk50
 exact⟨⟨f0,d0,f1,d1,f2,d2,f3,d3,f4,d4,f5,d5,f6,_,f7,d7,f8,d8,f9,d9,f10,d10,f11,d11,f12,d12,f13,d13,f14,d14,f15,d15,f16,d16,f17,d17,f18,d18,f19,d19,f20,_,f21,d21,f22,d22,f23,d23,f24,d24,f25,d25,f26,d26,f27,d27,f28,d28,f29,d29,f30,d30,f31,d31,f32,d32,f33,d33,f34,d34,f35,_,f36,d36,f37,d37,f38,d38,f39,d39,f40,d40,f41,d41,f42,d42,f43,d43,f44,d44,f45,d45,f46,d46,f47,d47,f48,d48,f49,d49,f50,_,ga0,ca0,ca1,ca2,ca3,ca4⟩,⟨F0,
  F1,
  F2,
  F3,
  F4,
  F5,
  F6,F6.binds (ps:=["self","code"]) (λ_ _ _ _ _ _ us hl=>match us,hl with | [_,_],_=>rfl),
  F7,
  F8,
  F9,
  F10,
  F11,
  F12,
  F13,
  F14,
  F15,
  F16,
  F17,
  F18,
  F19,
  F20,(λs us hK hl=>match us,(show us.length=2 by simpa using hl) with | [_,_],_=>.of_defaults (T:=dA20) rfl (hK _ _ qd20) rfl rfl rfl),⟨qa20,qi20,qk20⟩,
  F21,
  F22,
  F23,
  F24,
  F25,
  F26,
  F27,
  F28,
  F29,
  F30,
  F31,
  F32,
  F33,
  F34,
  F35,F35.binds (ps:=["self","table"]) (λ_ _ _ _ _ _ us hl=>match us,hl with | [_,_],_=>rfl),
  F36,
  F37,
  F38,
  F39,
  F40,
  F41,
  F42,
  F43,
  F44,
  F45,
  F46,
  F47,
  F48,
  F49,
  F50,F50.binds (ps:=["script"]) (λ_ _ _ _ _ _ us hl=>match us,hl with | [_],_=>rfl),nP X G qa50,
  λs v=>.of_eq rfl,
  dW X G qz0,
  dW X G qz1,
  dW X G qz2,
  dW X G qz3,
  dW X G qz4,
  dW X G qz5,
  dW X G qz6,
  dW X G qz7,
  dW X G qz8,
  dW X G qz9,
  dW X G qz10,
  dW X G qz11,
  nP X G qg0,λ_=>.inr ⟨_,_,_,qh0,rfl,rfl,(by show 7<=sizeLine;decide),(.cons ⟨_,rfl⟩ (.cons ⟨_,rfl⟩ (.cons ⟨_,rfl⟩ (.cons ⟨_,rfl⟩ (.cons ⟨_,rfl⟩ (.cons ⟨_,rfl⟩ (.cons ⟨_,rfl⟩ .nil)))))))⟩,
  nP X G qv0,
  nP X G qv1,
  nP X G qv2,
  nP X G qv3,
  nP X G qv4,
  ⟨pg0,pd0,po0,pe0⟩,
  ⟨pm0_,qa35,qi35,pk0⟩,
  pn0_0,
  pn0_1,
  pn0_2,
  ⟨pg4,pd4,po4,pe4⟩,
  ⟨pm4_,qa6,qi6,pk4⟩,
  pn4_0,
  pn4_1,
  pn4_2,
  pn4_3,
  pn4_4,
  pn4_5,
  pn4_6,
  rx0,
  ry0.to,
  re0_0,
  re0_1,
  rm0_0,
  rx1,
  ry1.to,
  re1_0,
  re1_1,
  rm1_0,
  rx2,
  ry2.to,
  re2_0,
  re2_1,
  rm2_0⟩⟩
structure KF(K:bz):Prop where
 i_b:lN K (.type "int") (.type "bool")=aa ao
 i_s:lN K (.type "int") (.type "str")=aa ao
 s_i:lN K (.type "str") (.type "int")=aa ao
def fin(t:Adr)(r:Except Er Int)(Q:VK)(E:XK)(H:Hp):Prop:=match r with
 | .ok i=>Q (.int i) H
 | .error .nought=>E (.ref t.c_Nought) ai H
 | .error .great=>E (.ref t.c_Great) ai H
 | .error .stuck=>True
def XI(t:Adr)(e:Er)(E:XK)(H:Hp):Prop:=match e with
 | .nought=>E (.ref t.c_Nought) ai H
 | .great=>E (.ref t.c_Great) ai H
 | .stuck=>True
def zfK(K:bz):Prop:=lN K (.type "int") (.type "bool")=aa ao
def NamesAt(H:Hp)(nm:ag)(ws:List Str):Prop:=H nm=aa (.lst (ws.map V.str))/\∀w∈ws,xD w=ae
def vi:Rw->Prop
 | .off _=>False
 | .iff _ _ _=>False
 | _=>True
def qD:Sp:=λvs H Q _=>∃i,vs=[.int i]/\∀H',Same H H'->Q (.bl (inW i)) H'
def ZS(t:Adr):Sp:=λvs H Q E=>∃w a b,vs=[.str w,.int a,.int b]/\w.length<=1000/\inW a=ae/\inW b=ae/\∀H',Same H H'->if b=0 then E (.ref t.c_Nought) ai H' else Q (.int (if w="over" then a.fdiv b else a.fmod b)) H'
def ZT(t:Adr):Sp:=λvs H Q E=>∃w a b,vs=[.str w,.int a,.int b]/\w.length<=1000/\inW a=ae/\inW b=ae/\∀H',Same H H'->if Xh w/\b=0 then E (.ref t.c_Nought) ai H' else Q (.int (vP w a b)) H'
def YW(t:Adr):Sp:=λvs H Q E=>∃w a b,vs=[.str w,.int a,.int b]/\w.length<=1000/\inW a=ae/\inW b=ae/\∀H',Same H H'->fin t (vB w a b) Q E H'
def va(t:Adr):Sp:=λvs H Q E=>∃kvs tm sl ps r,vs=[.ref tm,.ref sl]/\H tm=aa (.tup ps)/\H sl=aa (.dK kvs)/\Good kvs ps r/\(∀v∈ps,kj v)/\ps.length<=1000/\yr kvs/\∀H',Same H H'->fin t r Q E H'
inductive Cs where
 | row (r:Rw)
 | skip (e:List V) (to:Nat)
 | go (en:Nat)
def Rws.isNil:Rws->Bool
 | .nil=>ae
 | .cons _ _=>ao
def blk(e:List V)(k:Nat)(A:List Cs)(nl:Bool)(B:List Cs):List Cs :=
 if nl=ae then .skip e (k + 1 + A.length) :: A else .skip e (k + 2 + A.length) :: (A ++ (.go (k + 2 + A.length + B.length) :: B))
mutual
def yB:Rw->Nat->List Cs
 | .iff e a b,k=>blk e k (zt a (k + 1)) (Rws.isNil b) (zt b (k + 2 + (zt a (k + 1)).length))
 | r,_=>[.row r]
def zt:Rws->Nat->List Cs
 | .nil,_=>[]
 | .cons r rs,k=>yB r k ++ zt rs (k + (yB r k).length)
end
def JY:Rw->Prop
 | .iff _ _ _=>False
 | _=>True
def CsAt(H:Hp)(v:V):Cs->Prop
 | .row r=>RwAt w6 H v r/\JY r
 | .skip e to=>∃p te,v=.ref p/\H p=aa (.tup [.str "skip",.ref te,.int (to:Nat)])/\H te=aa (.tup e)
 | .go en=>∃p,v=.ref p/\H p=aa (.tup [.str "go",.int (en:Nat)])
structure Zo(n:Nat)(r:Rws):Prop where
 dp:r.deep < n
 ct:r.cnt<=500
 pl:x0 r
def qE(n:Nat):Sp:=λvs H Q _=>∃(v:V) (e:List V) (a b:Rws) (k:Nat),vs=[v,.int k]/\RwAt w6 H v (.iff e a b)/\Zo n a/\Zo n b/\k + (yB (.iff e a b) k).length<=500/\∀l xs H',Same H H'->H' l=aa (.lst xs)->Paired (CsAt H') xs (yB (.iff e a b) k)->Q (.ref l) H'
def xv(n:Nat):Sp:=λvs H Q _=>∃(v:V) (r:Rws) (k:Nat),vs=[v,.int k]/\RlAt w6 H v r/\Zo n r/\k + (zt r k).length<=500/\∀l xs H',Same H H'->H l=ai->H' l=aa (.lst xs)->Paired (CsAt H') xs (zt r k)->Q (.ref l) H'
def ZU:Sp:=λvs H Q _=>∃(v:V) (r:Rws),vs=[v]/\RlAt w6 H v r/\Zo 6 r/\(zt r 0).length<=500/\∀l xs H',Same H H'->H l=ai->H' l=aa (.lst xs)->Paired (CsAt H') xs (zt r 0)->Q (.ref l) H'
structure RSt where
 n:Nat
 why:Option Str
 sl:List (Key × V)
 gi:List Row
 no:List Row
 sa:List Int
structure RAd where
 dx:ag
 co:ag
 sl:ag
 gi:ag
 no:ag
 sa:ag
def zh3:Option Str->V
 | none=>.non
 | some w=>.str w
def zh4(a:RAd)(s:RSt):List (Str × V):=[(bg "code",.ref a.co),(bg "at",.int s.n),(bg "why",zh3 s.why),(bg "slots",.ref a.sl),(bg "gifts",.ref a.gi),(bg "notes",.ref a.no),(bg "sayings",.ref a.sa)]
structure RnAt(t:Adr)(H:Hp)(x:ag)(a:RAd)(C:List Cs)(s:RSt):Prop where
 ix:H x=aa (.ins t.c_Run a.dx (zh4 a s))
 hc:∃xs,H a.co=aa (.lst xs)/\Paired (CsAt H) xs C
 hs:H a.sl=aa (.dK s.sl)
 hg:H a.gi=aa (.dT (dOf s.gi))
 hn:H a.no=aa (.dT (dOf s.no))
 ha:H a.sa=aa (.lst (s.sa.map V.int))
 ng:a.gi≠a.no
 nc:a.co≠a.sa
def Ow(x:ag)(a:RAd)(b:ag):Prop:=b=x\/b=a.sl\/b=a.gi\/b=a.no\/b=a.sa
def OwA(x:ag)(a:RAd)(b:ag):Prop:=Ow x a b\/b=a.co
def Kp(x:ag)(a:RAd)(H H':Hp):Prop:=∀b o,¬ Ow x a b->H b=aa o->H' b=aa o
def Xl(x:ag)(H H':Hp):Prop:=∀b o,b≠x->H b=aa o->H' b=aa o
structure RnOk(m:Nat)(s:RSt):Prop where
 so:yr s.sl
 gw:∀r∈s.gi,inW r.2=ae
 nw:∀r∈s.no,inW r.2=ae
 l1:s.sl.length<=m
 l2:s.gi.length<=m
 l3:s.no.length<=m
 l4:s.sa.length<=m
 nd:(s.no.map (·.1)).Nodup
def XJ:Cs->Prop
 | .row r=>xV r
 | .skip e _=>TermOk e
 | .go _=>True
def yh(C:List Cs)(s:RSt):Bool:=s.why.isSome || decide (C.length<=s.n)
def yZ(p:Pl)(w:Int)(s:RSt):RSt:=if (zq s.gi p).isSome=ae\/(zq s.no p).isSome=ae then s else { s with no:=s.no ++ [(p,w)] }
def wI(p:Pl)(w:Int)(s:RSt):Int:=(zq s.gi p).getD ((zq s.no p).getD w)
def doR:Rw->Int->RSt->Except Er RSt
 | .take sh e x,w,s=>match rk s.sl e with
  | .error er=>.error er
  | .ok n=>.ok { yZ (sh,n) w s with sl:=yz s.sl (.inr x) (.int (wI (sh,n) w s)) }
 | .give sh e f,_,s=>match rk s.sl e with
  | .error er=>.error er
  | .ok n=>match rk s.sl f with
   | .error er=>.error er
   | .ok i=>.ok { s with gi:=s.gi ++ [((sh,n),i)] }
 | .lt x e,_,s=>match rk s.sl e with
  | .error er=>.error er
  | .ok i=>.ok { s with sl:=yz s.sl (.inr x) (.int i) }
 | .say e,_,s=>match rk s.sl e with
  | .error er=>.error er
  | .ok i=>.ok { s with sa:=s.sa ++ [i] }
 | _,_,s=>.ok s
def yv:Cs->Int->RSt->Except Er (Nat × RSt)
 | .go k,_,s=>.ok (k,s)
 | .skip e to,_,s=>match rk s.sl e with
  | .error er=>.error er
  | .ok i=>.ok (if i=0 then to else s.n + 1,s)
 | .row (.off e),_,s=>match rk s.sl e with
  | .error er=>.error er
  | .ok i=>.ok (s.n + 1,if i=0 then s else { s with why:=aa (bg "told") })
 | .row r,w,s=>match doR r w s with
  | .error er=>.error er
  | .ok s'=>.ok (s.n + 1,s')
def zW(c:Cs)(w:Int)(s:RSt):RSt:=match yv c w s with
 | .ok (k,s')=>{ s' with n:=k }
 | .error er=>{ s with why:=aa (WG er) }
def xB(C:List Cs)(w:Int)(s:RSt):RSt:=if yh C s=ae then s else match C[s.n]? with
 | none=>s
 | some c=>zW c w s
def wx(c:Cs)(s:RSt):Option Pl:=match c with
 | .row (.take sh e _)=>match rk s.sl e with
  | .error _=>ai
  | .ok n=>if (zq s.gi (sh,n)).isSome=ae\/(zq s.no (sh,n)).isSome=ae then ai else aa (sh,n)
 | _=>ai
def vb(C:List Cs)(s:RSt):Option Pl:=if yh C s=ae then ai else (C[s.n]?).bind λc=>wx c s
abbrev Qu(H:Hp)(v:V)(q:Row):Prop:=PrAt H v q
abbrev wJ(H:Hp)(vs:List V)(rows:List Row):Prop:=Paired (PrAt H) vs rows
def LsAt(H:Hp)(a:ag)(rows:List Row):Prop:=∃xs,H a=aa (.lst xs)/\Paired (PrAt H) xs rows
def OcAt(H:Hp)(v:V):Oc->Prop
 | .done sa=>∃o y,v=.ref o/\H o=aa (.tup [.str "done",.ref y])/\H y=aa (.tup (sa.map V.int))
 | .off w=>∃o,v=.ref o/\H o=aa (.tup [.str "off",.str w])
def ZV(s:RSt):Oc:=match s.why with
 | some w=>.off w
 | none=>.done s.sa
def vj(s:RSt)(out:List Row):Prop:=match s.why with
 | some _=>out=[]
 | none=>Rising out/\∀p w,(p,w)∈out↔zq s.gi p=aa w
structure RnF(K:bz)(t:Adr):Prop where
 cl:Cls K t.c_Run
 n1:NoAttr K t.c_Run "code"
 n2:NoAttr K t.c_Run "at"
 n3:NoAttr K t.c_Run "why"
 n4:NoAttr K t.c_Run "slots"
 n5:NoAttr K t.c_Run "gifts"
 n6:NoAttr K t.c_Run "notes"
 n7:NoAttr K t.c_Run "sayings"
def st0:RSt:=⟨0,ai,[],[],[],[]⟩
def Xm(t:Adr):Sp:=λvs H Q _=>∃(x l dx:ag) (xs:List V) (C:List Cs),vs=[.ref x,.ref l]/\H x=aa (.ins t.c_Run dx [])/\H l=aa (.lst xs)/\Paired (CsAt H) xs C/\∀H' a,Xl x H H'->RnAt t H' x a C st0->(∀b,OwA x a b->b=x\/H b=ai)->Q .non H'
def xw(t:Adr):Sp:=λvs H Q _=>∃(x:ag) (a:RAd) (C:List Cs) (s:RSt),vs=[.ref x]/\RnAt t H x a C s/\∀H',Same H H'->Q (.bl (yh C s)) H'
def yd(t:Adr):Sp:=λvs H Q E=>∃(x tm:ag) (e:List V) (a:RAd) (C:List Cs) (s:RSt),vs=[.ref x,.ref tm]/\RnAt t H x a C s/\yr s.sl/\H tm=aa (.tup e)/\TermOk e/\∀H',Same H H'->fin t (rk s.sl e) Q E H'
def y9(t:Adr):Sp:=λvs H Q E=>∃(x p:ag) (xs:List V) (sh:Str) (te:ag) (e:List V) (a:RAd) (C:List Cs) (s:RSt),vs=[.ref x,.ref p]/\RnAt t H x a C s/\yr s.sl/\H p=aa (.tup xs)/\atI xs 1=aa (.str sh)/\atI xs 2=aa (.ref te)/\H te=aa (.tup e)/\TermOk e /\
 (∀i q H',rk s.sl e=.ok i->Same H H'->H' q=aa (.tup [.str sh,.int i])->Q (.ref q) H')/\∀er H',rk s.sl e=.error er->Same H H'->XI t er E H'
def Yv(t:Adr):Sp:=λvs H Q _=>∃(x q:ag) (p:Pl) (w:Int) (a:RAd) (C:List Cs) (s:RSt),vs=[.ref x,.ref q,.int w]/\RnAt t H x a C s/\H q=aa (.tup [.str p.1,.int p.2])/\s.no.length<=900/\∀H',Kp x a H H'->RnAt t H' x a C (yZ p w s)->Q (.int (wI p w s)) H'
def Xn(t:Adr):Sp:=λvs H Q E=>∃(x:ag) (v:V) (r:Rw) (w:Int) (m:Nat) (a:RAd) (C:List Cs) (s:RSt),vs=[.ref x,v,.int w]/\RnAt t H x a C s/\RwAt w6 H v r/\vi r/\xV r/\RnOk m s/\m<=900 /\
 (∀H' s',doR r w s=.ok s'->Kp x a H H'->RnAt t H' x a C s'->Q .non H')/\∀H' er,doR r w s=.error er->Same H H'->XI t er E H'
def jk(t:Adr):Sp:=λvs H Q E=>∃(x:ag) (v:V) (c:Cs) (w:Int) (m:Nat) (a:RAd) (C:List Cs) (s:RSt),vs=[.ref x,v,.int w]/\RnAt t H x a C s/\CsAt H v c/\XJ c/\RnOk m s/\m<=900 /\
 (∀H' s' k,yv c w s=.ok (k,s')->Kp x a H H'->RnAt t H' x a C s'->Q (.int (k:Nat)) H')/\∀H' er,yv c w s=.error er->Same H H'->XI t er E H'
def Xo(t:Adr):Sp:=λvs H Q _=>∃(x:ag) (w:Int) (m:Nat) (a:RAd) (C:List Cs) (s:RSt),vs=[.ref x,.int w]/\RnAt t H x a C s/\(∀c∈C,XJ c)/\RnOk m s/\m<=900/\∀H',Kp x a H H'->RnAt t H' x a C (xB C w s)->Q .non H'
def Xp(t:Adr):Sp:=λvs H Q _=>∃(x:ag) (a:RAd) (C:List Cs) (s:RSt),vs=[.ref x]/\RnAt t H x a C s/\(∀c∈C,XJ c)/\yr s.sl/\(∀H',vb C s=ai->Same H H'->Q .non H')/\∀p q H',vb C s=aa p->Same H H'->H' q=aa (.tup [.str p.1,.int p.2])->Q (.ref q) H'
def Yw(t:Adr):Sp:=λvs H Q _=>∃(x:ag) (a:RAd) (C:List Cs) (s:RSt),vs=[.ref x]/\RnAt t H x a C s/\s.no.length<=900/\(s.no.map (·.1)).Nodup/\s.gi.length<=63/\(∀H',yh C s=ao->Same H H'->Q .non H') /\
 ∀r o nl gl out H',yh C s=ae->Same H H'->H nl=ai->H gl=ai->nl≠gl->H' r=aa (.tup [o,.ref nl,.ref gl])->OcAt H' o (ZV s)->LsAt H' nl s.no->LsAt H' gl out->vj s out->Q (.ref r) H'
def zR(K:bz):Sp:=λvs H Q _=>∃(a:ag) (ns:List Int) (k:Nat),vs=[.ref a,.int k]/\SqL K H a (ns.map V.int)/\ns.length<=63/\∀c H',Same H H'->Q (.int c) H'
def zk:Sp:=λvs H Q _=>∃c j,vs=[.int c,.int j]/\0<=j/\j<=1000/\∀r H',0<=r->r < 2147483648->Same H H'->Q (.int r) H'
def xK:Sp:=λvs H Q _=>∃c m,vs=[.int c,.int m]/\0<=m/\m<=6/\∀nm ws H',Same H H'->NamesAt H' nm ws->(ws.length:Int)=m->Q (.ref nm) H'
def yu:Sp:=λvs H Q _=>∃c j,vs=[.int c,.int j]/\0<=j/\j<=900/\∀w H',inW w=ae->Same H H'->Q (.int w) H'
def lfV(v:V):Prop:=(∃i,v=.int i/\inW i=ae)\/∃x,v=.str x/\xD x=ae
def wdJ(w:Str):Prop:=isJ (.str w)=ae/\w.length<=1000/\cf w=ae
def y0:Sp:=λvs H Q _=>∃c j a ws,vs=[.int c,.int j,.ref a]/\0<=j/\j<=700/\NamesAt H a ws/\ws.length=2/\∀p e H',Same H H'->H p=ai->H' p=aa (.tup e)->TermOk e->tmP e->Q (.ref p) H'
mutual
def szR:Rw->Nat
 | .iff _ a b=>kD a + kD b + 2
 | _=>1
def kD:Rws->Nat
 | .nil=>0
 | .cons r rs=>szR r + kD rs
end
def zfL:Cs->Prop
 | .row r=>WI r
 | _=>True
structure JZ(C:List Cs):Prop where
 ok:∀c∈C,XJ c
 pl:∀c∈C,zfL c
 fw:∀(i to:Nat) (e:List V),C[i]?=aa (Cs.skip e to)->i < to
 fg:∀(i to:Nat),C[i]?=aa (Cs.go to)->i < to
 le:C.length<=40
structure RnI(C:List Cs)(m:Nat)(s:RSt):Prop where
 ok:RnOk m s
 ng:∀r∈s.gi,cf r.1.1=ae
 nn:∀r∈s.no,cf r.1.1=ae
 at_:s.why=ai->m<=s.n
 wy:∀w,s.why=aa w->cf w=ae
structure DoF(K:bz)(t:Adr):Prop where
 cl:Cls K t.c_Doing
 n1:NoAttr K t.c_Doing "slots"
 n2:NoAttr K t.c_Doing "worths"
 n3:NoAttr K t.c_Doing "sayings"
structure DoAt(t:Adr)(H0 H:Hp)(x dx sl wo sa:ag)(s:Sta):Prop where
 sm:Same H0 H
 f1:H0 sl=ai
 f2:H0 wo=ai
 f3:H0 sa=ai
 ix:H x=aa (.ins t.c_Doing dx [("slots",.ref sl),("worths",.ref wo),("sayings",.ref sa)])
 hs:H sl=aa (.dK s.sl)
 hw:H wo=aa (.dT (dOf s.wo))
 ha:H sa=aa (.lst (s.sa.map V.int))
structure Xq(rws:Rws)(tab:List Row):Prop where
 ok:yJ rws
 dp:rws.deep < 6
 iw:∀r∈tab,inW r.2=ae
 ln:tab.length + rws.cnt<=500
 fw:∀s,yL rws ⟨[],tab,[]⟩=.go s->(dOf s.wo).length<=900
def jl(t:Adr):Sp:=λvs H Q _=>∃x a tab H0 dx,vs=[.ref x,.ref a]/\Same H0 H/\H0 x=ai/\H x=aa (.ins t.c_Doing dx [])/\LsAt H0 a tab/\tab.length<=500 /\
 ∀H' sl wo sa,DoAt t H0 H' x dx sl wo sa ⟨[],tab,[]⟩->Q .non H'
def zY(t:Adr):Sp:=λvs H Q E=>∃x tm e H0 dx sl wo sa s,vs=[.ref x,.ref tm]/\DoAt t H0 H x dx sl wo sa s/\yr s.sl/\H tm=aa (.tup e)/\TermOk e/\∀H',Same H H'->fin t (rk s.sl e) Q E H'
def Zt(t:Adr):Sp:=λvs H Q E=>∃x v r m H0 dx sl wo sa s,vs=[.ref x,v]/\DoAt t H0 H x dx sl wo sa s/\RwAt w6 H0 v r/\vi r/\xV r/\StOk m s/\m<=900 /\
 (∀H' s',goR r s=.go s'->DoAt t H0 H' x dx sl wo sa s'->Q .non H')/\∀H' e,goR r s=.er e->Same H0 H'->XI t e E H'
def ym(t:Adr)(n:Nat):Sp:=λvs H Q E=>∃x l xs rws m H0 dx sl wo sa s,vs=[.ref x,.ref l]/\DoAt t H0 H x dx sl wo sa s/\H0 l=aa (.lst xs)/\RwsAt w6 H0 xs rws/\yJ rws/\rws.deep < n/\StOk m s/\m + rws.cnt<=900 /\
 (∀H' s',yL rws s=.go s'->DoAt t H0 H' x dx sl wo sa s'->Q (.bl ae) H')/\(∀H',yL rws s=.off->Same H0 H'->Q (.bl ao) H')/\∀H' e,yL rws s=.er e->Same H0 H'->XI t e E H'
def yS:Sp:=λvs H Q _=>∃(w:Str) (a:ag) (tab:List Row),vs=[.str w,.ref a]/\LsAt H a tab/\∀r o l H',Same H H'->H l=ai->H' r=aa (.tup [o,.ref l])->OcAt H' o (.off w)->LsAt H' l tab->Q (.ref r) H'
def vc:Sp:=λvs H Q _=>∃a rows,vs=[.ref a]/\LsAt H a rows/\(dOf rows).length<=900/\rows.length<=1000/\∀l out H',Same H H'->H l=ai->LsAt H' l out->xj rows out->Q (.ref l) H'
def WM:Sp:=λvs H Q _=>∃v a rws tab,vs=[v,.ref a]/\RlAt w6 H v rws/\LsAt H a tab/\Xq rws tab/\∀r o l oc out H',Same H H'->H l=ai->H' r=aa (.tup [o,.ref l])->OcAt H' o oc->LsAt H' l out->we rws tab oc out->Q (.ref r) H'
def Jf:Sp:=λvs H Q _=>∃(l q:ag) (rows:List Row) (p:Pl),vs=[.ref l,.ref q]/\LsAt H l rows/\rows.length<=500/\H q=aa (.tup [.str p.1,.int p.2])/\∀H',Same H H'->Q (.int ((zq rows p).getD 0)) H'
def v3(rows:List Row)(p:Pl):Int:=(zq rows p).getD 0
def ZW(C:List Cs)(tb:Pl->Int)(s:RSt):Int:=match vb C s with
 | none=>0
 | some p=>tb p
def xW(C:List Cs)(tb:Pl->Int)(s:RSt):RSt:=xB C (ZW C tb s) s
def qc(C:List Cs)(tb:Pl->Int):Nat->RSt->RSt
 | 0,s=>s
 | k + 1,s=>qc C tb k (xW C tb s)
def Rch(C:List Cs)(tb:Pl->Int)(s s':RSt):Prop:=∃k,qc C tb k s=s'
structure FedR(C:List Cs)(rows:List Row)(s:RSt):Prop where
 ov:yh C s=ae
 rc:Rch C (v3 rows) st0 s
 ri:∃m,m<=C.length/\RnI C m s
 fw:s.gi.length + s.no.length<=C.length
def PpAt(H0 H:Hp)(r:ag)(s:RSt):Prop:=∃o nl gl out,H r=aa (.tup [o,.ref nl,.ref gl])/\OcAt H o (ZV s)/\LsAt H nl s.no/\LsAt H gl out/\vj s out/\H0 nl=ai/\H0 gl=ai
def zaL(t:Adr):Sp:=λvs H Q _=>∃(l tl:ag) (xs:List V) (C:List Cs) (rows:List Row),vs=[.ref l,.ref tl]/\H l=aa (.lst xs)/\Paired (CsAt H) xs C/\JZ C/\LsAt H tl rows/\rows.length<=500/\(∀r∈rows,inW r.2=ae)/\∀r s H',Same H H'->FedR C rows s->PpAt H H' r s->Q (.ref r) H'
def z8(n:Nat):V:=.int n
structure Pp where
 oc:Oc
 no:List Row
 gi:List Row
def PpV(H:Hp)(v:V)(p:Pp):Prop:=∃r o nl gl,v=.ref r/\H r=aa (.tup [o,.ref nl,.ref gl])/\OcAt H o p.oc/\LsAt H nl p.no/\LsAt H gl p.gi
structure vd(p:Pp):Prop where
 ln:p.no.length<=40
 lg:p.gi.length<=40
 sn:∀r∈p.no,cf r.1.1=ae
 sg:∀r∈p.gi,cf r.1.1=ae
 so:∀w,p.oc=.off w->cf w=ae
structure PpsAt(H:Hp)(a:ag)(P:List Pp):Prop where
 at_:∃xs,H a=aa (.lst xs)/\Paired (PpV H) xs P
 ok:∀p∈P,vd p
 le:P.length<=63
def pIn(p:Pl)(l:List Row):Bool:=l.any λr=>decide (r.1=p)
def Vq(a b:Pp):Bool:=a.gi.any λr=>pIn r.1 (b.no ++ b.gi)
def Zp(a b:Pp):Bool:=Vq a b || Vq b a
def pAt(P:List Pp)(i:Nat):Pp:=P.getD i ⟨.done [],[],[]⟩
def mtB(P:List Pp)(i j:Nat):Bool:=Zp (pAt P i) (pAt P j)
structure UOk(U:List Pl):Prop where
 le:U.length<=300
 nm:∀p∈U,cf p.1=ae
structure TabI(U:List Pl)(tab:List Row):Prop where
 ri:Rising tab
 ps:∀r∈tab,r.1∈U/\inW r.2=ae/\r.2≠0
structure zcu(tab:List Row):Prop where
 ri:Rising tab
 ps:∀r∈tab,cf r.1.1=ae/\inW r.2=ae/\r.2≠0
 le:tab.length<=8
def vm:Sp:=λvs H Q _=>∃c,vs=[.int c,.int 3]/\∀nm ws H',Same H H'->NamesAt H' nm ws->ws.length=3->Q (.ref nm) H'
def jm:Sp:=λvs H Q _=>∃c b wd us,vs=[.int c,.ref b,.int wd]/\NamesAt H b us/\us.length=3/\1<=wd/\wd<=8/\∀l tab H',Same H H'->H l=ai->LsAt H' l tab->zcu tab->Q (.ref l) H'
def kE:Sp:=λvs H Q _=>∃c j a wd ws,vs=[.int c,.int j,.ref a,.int wd]/\0<=j/\j<=600/\NamesAt H a ws/\ws.length=2/\1<=wd/\wd<=8/\∀p e H',Same H H'->H p=ai->H' p=aa (.tup e)->TermOk e->tmP e->Q (.ref p) H'
structure rwW(r:Rw):Prop where
 nf:JY r
 pl:WI r
 ok:xV r
def ve:Sp:=λvs H Q _=>∃c j a b wd ws us,vs=[.int c,.int j,.ref a,.ref b,.int wd]/\0<=j/\j<=200/\NamesAt H a ws/\ws.length=2/\NamesAt H b us/\us.length=3/\1<=wd/\wd<=8/\∀v r H',Same H H'->RwAt (λb=>H b=ai) H' v r->rwW r->Q v H'
structure rwsW(n:Nat)(r:Rws):Prop where
 dp:r.deep<=1
 pl:x0 r
 ok:yJ r
 sz:kD r<=4 * n
def kF:Sp:=λvs H Q _=>∃(cl a b:ag) (wd:Int) (ns:List Int) (ws us:List Str),vs=[.ref cl,.ref a,.ref b,.int wd]/\H cl=aa (.lst (ns.map V.int))/\ns.length<=8/\NamesAt H a ws/\ws.length=2/\NamesAt H b us/\us.length=3/\1<=wd/\wd<=8/\∀l r H',Same H H'->RlAt (λb=>H b=ai) H' (.ref l) r->rwsW ns.length r->Q (.ref l) H'
def zh5(H:Hp)(v:V)(C:List Cs):Prop:=∃a ys,v=.ref a/\H a=aa (.lst ys)/\Paired (CsAt H) ys C
structure CosAt(H:Hp)(l:ag)(CC:List (List Cs)):Prop where
 at_:∃xs,H l=aa (.lst xs)/\Paired (zh5 H) xs CC
 ok:∀C∈CC,JZ C
 le:CC.length<=40
def jn:Sp:=λvs H Q _=>∃(a b:ag) (xs:List V) (ds:List Rws) (T:Nat->List Row) (O:Nat->Oc),vs=[.ref a,.ref b]/\H a=aa (.lst xs)/\Paired (RlAt w6 H) xs ds/\LsAt H b (T 0)/\ds.length<=500/\(∀i d,ds[i]?=aa d->Xq d (T i)/\∀oc out,we d (T i) oc out->oc=O i/\out=T (i + 1)) /\
 ∀r ol l ys H',Same H H'->H' r=aa (.tup [.ref ol,.ref l])->H' ol=aa (.lst ys)->Paired (OcAt H') ys ((bI ds.length).map O)->LsAt H' l (T ds.length)->Q (.ref r) H'
def wT:Sp:=λvs H Q _=>∃(v u:V) (a b:Pp),vs=[v,u]/\PpV H v a/\PpV H u b/\vd a/\vd b/\∀H',Same H H'->Q (.bl (Vq a b)) H'
def J1:Sp:=λvs H Q _=>∃(v u:V) (a b:Pp),vs=[v,u]/\PpV H v a/\PpV H u b/\vd a/\vd b/\∀H',Same H H'->Q (.bl (Zp a b)) H'
def ZX:Sp:=λvs H Q _=>∃(p l:ag) (k:Nat) (P:List Pp) (rs:List Nat),vs=[.ref p,.ref l,.int k]/\PpsAt H p P/\H l=aa (.lst (rs.map z8))/\rs.length<=63/\(∀j∈rs,j < P.length)/\k < P.length/\∀q H',Same H H'->H q=ai->H' q=aa (.lst ((rs.filter λj=>mtB P j k).map z8))->Q (.ref q) H'
def qF:Sp:=λvs H Q _=>∃(v u:V) (a b:Pp),vs=[v,u]/\PpV H v a/\PpV H u b/\vd a/\vd b/\∀H',Same H H'->Q (.bl (Zp a b)) H'
def Vr(P:List Pp)(os:List Nat)(k:Nat):Bool:=(os.take k).any λj=>decide (os.getD k 0 < j) && mtB P j (os.getD k 0)
def kpB(P:List Pp)(os:List Nat):Bool:=(bI os.length).all λk=>!Vr P os k
def xx(P:List Pp)(L:List Nat):Prop:=L.Pairwise λa b=>mtB P a b=ae->a < b
def xL:Sp:=λvs H Q _=>∃(l:ag) (n:Nat) (os:List Nat),vs=[.ref l,.int n]/\H l=aa (.lst (os.map z8))/\n<=63/\os.Perm (bI n)/\∀H',Same H H'->Q .non H'
def Yx:Sp:=λvs H Q _=>∃(p l:ag) (P:List Pp) (os:List Nat),vs=[.ref p,.ref l]/\PpsAt H p P/\H l=aa (.lst (os.map z8))/\os.Perm (bI P.length)/\∀H',Same H H'->Q (.bl (kpB P os)) H'
def ZY:Sp:=λvs H Q _=>∃a b tab gifts,vs=[.ref a,.ref b]/\LsAt H a tab/\LsAt H b gifts/\(dOf (tab ++ gifts)).length<=900/\(tab ++ gifts).length<=1000/\∀l out H',Same H H'->H l=ai->LsAt H' l out->xj (tab ++ gifts) out->Q (.ref l) H'
noncomputable def giS(s:RSt):List Row:=@mq (List Row) ⟨[]⟩ (vj s)
noncomputable def ppS(s:RSt):Pp:=⟨ZV s,s.no,giS s⟩
noncomputable def Vs(S:Nat->RSt)(os:List Nat)(n:Nat):List Pp:=(bI n).map λk=>ppS (S (os.idxOf k))
structure zbD(U:List Pl)(H:Hp)(v:V)(P:List Pp)(out:List Row):Prop where
 at_:∃r pl tl,v=.ref r/\H r=aa (.tup [.ref pl,.ref tl])/\PpsAt H pl P/\LsAt H tl out
 ti:TabI U out
def Qv(U:List Pl)(CC:List (List Cs))(os:List Nat)(J:Nat->List Row->Prop)(S:Nat->RSt):Prop:=∀i now s gi,i < os.length->J i now->TabI U now->FedR (CC.getD (os.getD i 0) []) now s->vj s gi->S i=s/\(∀r∈gi,r.1∈U)/\∀out,xj (now ++ gi) out->J (i + 1) out
def vf:Sp:=λvs H Q _=>∃(cl tl l:ag) (U:List Pl) (CC:List (List Cs)) (tab:List Row) (os:List Nat) (J:Nat->List Row->Prop) (S:Nat->RSt),vs=[.ref cl,.ref tl,.ref l]/\CosAt H cl CC/\UOk U/\LsAt H tl tab/\TabI U tab/\H l=aa (.lst (os.map z8))/\os.Perm (bI CC.length)/\J 0 tab/\Qv U CC os J S /\
 ∀v out H',Same H H'->J os.length out->zbD U H' v (Vs S os CC.length) out->Q v H'
def jo(K:bz):Sp:=λvs H Q _=>∃(a p:ag) (m:Int) (ns:List Int) (P:List Pp),vs=[.ref a,.ref p,.int m]/\SqL K H a (ns.map V.int)/\ns.length<=63/\PpsAt H p P/\1<=m/\∀(l:ag) (os:List Nat) (H':Hp),Same H H'->H' l=aa (.lst (os.map z8))->os.Perm (bI P.length)->xx P os->Q (.ref l) H'
def vU:Sp:=λvs H Q _=>∃(c:Int) (p l:ag) (P:List Pp) (os:List Nat),vs=[.int c,.ref p,.ref l]/\PpsAt H p P/\H l=aa (.lst (os.map z8))/\os.Perm (bI P.length)/\xx P os/\(∀H',Same H H'->Q .non H')/\∀(l':ag) (os':List Nat) (H':Hp),Same H H'->H' l'=aa (.lst (os'.map z8))->os'.Perm (bI P.length)->kpB P os'=ao->Q (.ref l') H'
def wK:Sp:=λvs H Q _=>∃(v:V) (p:Pp),vs=[v]/\PpV H v p/\∀H',Same H H'->Q (.bl ae) H'
def wg:Sp:=λvs H Q _=>∃(r pl tl:ag) (P:List Pp),vs=[.ref r,.int P.length]/\H r=aa (.tup [.ref pl,.ref tl])/\PpsAt H pl P/\∀H',Same H H'->Q (.ref pl) H'
def sp_law(K:bz):Sp:=λvs H Q _=>∃(a:ag) (ns:List Int),vs=[.ref a]/\SqL K H a (ns.map V.int)/\ns.length<=63/\∀H',Q (.bl ae) H'
def kG(K:bz)(t:Adr):TS:=(zo (zJ (tOp (rI (λ_ j=>0 < j) λi j=>.int (i % j)) (tOp (rI0 λi j=>.int (i + j)) (tOp (rI CMulB λi j=>.int (i * j)) (tOp (rI (λ_ j=>0 < j) λi j=>.int (i % j)) (zc 0) (tC (.int 1000000007))) (tC (.int 6700417))) (tOp (rI CMulB λi j=>.int (i * j)) (tOp (rI CMulB λi j=>.int (i * j)) (tOp (rI0 λi j=>.int (i + j)) (zc 1) (tC (.int 1))) (tC (.int 104729))) (tC (.int 65537)))) (tC (.int 1000000009))) (zm 2))
  (zB (tOp (rI zc5 λi j=>.int (i / j)) (tOp (rI (λ_ j=>0 < j) λi j=>.int (i % j)) (tOp (rI CMulB λi j=>.int (i * j)) (tOp (rI (λ_ j=>0 < j) λi j=>.int (i % j)) (tOp (rI CMulB λi j=>.int (i * j)) (zc 2) (zc 2)) (tC (.int 1000000009))) (zc 2)) (tC (.int 1000000009))) (tC (.int 32)))))
def vn(K:bz)(t:Adr):TS:=(zB (xI (jG (zb (zc 1) zi)) (zm 0) YM (tOp kR (tOp kR (tSl zao (zc 1) yy (xG (zc 2))) (tOp Ju (zc 3) (zc 0))) (tSl zao (zc 1) (xG (tOp (rI0 λi j=>.int (i + j)) (zc 2) (tC (.int 1)))) yy)) 1 [4,6,3]))
def vo(K:bz)(t:Adr):TS:=(zo (zJ (tOp (rI (λ_ j=>0 < j) λi j=>.int (i % j)) (zn zk [] E0 (zb (zc 0) (zb (tC (.int 8)) zi))) (zc 2)) (zm 6))
  (zo (zJ (tOp (rI (λ_ j=>0 < j) λi j=>.int (i % j)) (zn zk [] E0 (zb (zc 0) (zb (tC (.int 9)) zi))) (tCB (xy K) (zb (zc 3) zi))) (zm 7))
  (zo (zJ (tOp kR (tSl zao (zc 3) (xG (zc 7)) yy) (tSl zao (zc 3) yy (xG (zc 7)))) (zm 3))
  (vn K t))))
def vp(K:bz)(t:Adr):TS:=(zo (zJ (tC (.str "")) (zm 4))
  (zo (xF (jG (zb (zc 2) zi)) (zm 5)
    (zJ (tOp kR (zc 4) (tOp Ju (zc 3) (tOp (rI (λ_ j=>0 < j) λi j=>.int (i % j)) (zn zk [] E0 (zb (zc 0) (zb (tOp (rI0 λi j=>.int (i + j)) (tC (.int 2)) (zc 5)) zi))) (tCB (xy K) (zb (zc 3) zi))))) (zm 4)))
  (vo K t)))
def jp(K:bz)(t:Adr):TS:=(zo (zJ (tOp (rI0 λi j=>.int (i + j)) (tC (.int 1)) (tOp (rI (λ_ j=>0 < j) λi j=>.int (i % j)) (zn zk [] E0 (zb (zc 0) (zb (tC (.int 1)) zi))) (tC (.int 6)))) (zm 2))
  (zo (zJ (tC (.str "zyxwvtsrqpnmlkjhgfdcb")) (zm 3))
  (zo (zS (zA (tOp rEq (zc 2) (tC (.int 6))))
    (zJ (tC (.str "zyxwvutsrqponmlkjihgfedcba")) (zm 3))
    zH)
  (vp K t))))
def jd(K:bz)(t:Adr):TS:=(zB (xI (jG (zb (zc 1) zi)) (zm 0) YM (tOp (y6 K) (zc 1) (tOp (rI (λ_ j=>0 < j) λi j=>.int (i % j)) (tOp (rI0 λi j=>.int (i + j)) (zc 2) (zc 0)) (tC (.int 4)))) 1 [5,6]))
def wj(K:bz)(t:Adr):TS:=(zo (zJ (xq (zb (zc 3) (zb (tOp kR (zc 4) (zc 3)) (zb (zd1 (zc 3) (tUn (rU λi=>.int (-i)) (tC (.int 1)))) (zb (tOp kR (zc 3) (zc 4)) zi))))) (zm 5))
  (zo (zJ (tOp (rI (λ_ j=>0 < j) λi j=>.int (i % j)) (zn zk [] E0 (zb (zc 0) (zb (tC (.int 15)) zi))) (tC (.int 4))) (zm 6))
  (jd K t)))
def je(K:bz)(t:Adr):TS:=(zo (zJ (tC (.str "zyxwvtsrqpnmlkjhgfdcb")) (zm 2))
  (zo (zJ (tOp kR (tOp Ju (zc 2) (tOp (rI (λ_ j=>0 < j) λi j=>.int (i % j)) (zn zk [] E0 (zb (zc 0) (zb (tC (.int 12)) zi))) (tC (.int 21)))) (tOp Ju (zc 2) (tOp (rI (λ_ j=>0 < j) λi j=>.int (i % j)) (zn zk [] E0 (zb (zc 0) (zb (tC (.int 13)) zi))) (tC (.int 21))))) (zm 3))
  (zo (zJ (tOp Ju (zc 2) (tOp (rI (λ_ j=>0 < j) λi j=>.int (i % j)) (zn zk [] E0 (zb (zc 0) (zb (tC (.int 14)) zi))) (tC (.int 21)))) (zm 4))
  (wj K t))))
def vq(K:bz)(t:Adr):TS:=(zo (zS (zA (tOp (rI0 λi j=>.bl (decide (j < i))) (tOp (rI (λ_ j=>0 < j) λi j=>.int (i % j)) (zn zk [] E0 (zb (zc 0) (zb (tC (.int 11)) zi))) (tC (.int 3))) (tC (.int 0))))
   (zB (zn xK [] E0 (zb (zc 0) (zb (zc 1) zi))))
   zH)
  (je K t))
def vV(K:bz)(t:Adr):TS:=(zo (zS (zA (tOp rEq (tOp (rI (λ_ j=>0 < j) λi j=>.int (i % j)) (zn zk [] E0 (zb (zc 0) (zb (zc 1) zi))) (tC (.int 12))) (tC (.int 0))))
   (zB (tOp (rI0 λi j=>.int (i - j)) (tOp (rI (λ_ j=>0 < j) λi j=>.int (i % j)) (tOp (rI0 λi j=>.int (i + j)) (tOp (rI CMulB λi j=>.int (i * j)) (tOp (rI CMulB λi j=>.int (i * j)) (tOp (rI (λ_ j=>0 < j) λi j=>.int (i % j)) (zc 0) (tOp (rI zad λi j=>.int (i ^ j.toNat)) (tC (.int 10)) (tC (.int 40)))) (tOp (rI0 λi j=>.int (i + j)) (zc 1) (tC (.int 2)))) (tC (.int 1000003))) (zc 1)) (tOp (rI0 λi j=>.int (i + j)) (tOp (rI CMulB λi j=>.int (i * j)) (tC (.int 2)) (tOp (rI zad λi j=>.int (i ^ j.toNat)) (tC (.int 10)) (tC (.int 30)))) (tC (.int 1)))) (tOp (rI zad λi j=>.int (i ^ j.toNat)) (tC (.int 10)) (tC (.int 30)))))
   zH)
  (zB (tOp (rI0 λi j=>.int (i - j)) (tOp (rI (λ_ j=>0 < j) λi j=>.int (i % j)) (zn zk [] E0 (zb (zc 0) (zb (tOp (rI0 λi j=>.int (i + j)) (zc 1) (tC (.int 1))) zi))) (tC (.int 7))) (tC (.int 2)))))
def kU(K:bz)(t:Adr):TS:=(wu (zc 3) (yC (zb (tOp (y6 K) (zc 1) (tOp (rI (λ_ j=>0 < j) λi j=>.int (i % j)) (zn zk [] E0 (zb (zc 0) (zb (tOp (rI0 λi j=>.int (i + j)) (tC (.int 60)) (zc 4)) zi))) (tC (.int 3)))) (zb (tOp (rI (λ_ j=>0 < j) λi j=>.int (i % j)) (zn zk [] E0 (zb (zc 0) (zb (tOp (rI0 λi j=>.int (i + j)) (tC (.int 70)) (zc 4)) zi))) (zc 2)) zi))) (zc 5))
def kW(K:bz)(t:Adr):TS:=(zo (zJ (zn yu [] E0 (zb (zc 0) (zb (tOp (rI0 λi j=>.int (i + j)) (tC (.int 30)) (tOp (rI CMulB λi j=>.int (i * j)) (tC (.int 3)) (zc 4))) zi))) (zm 5))
  (zS (zA (tOp rNe (zc 5) (tC (.int 0))))
   (kU K t)
   zH))
def jq(K:bz)(t:Adr):TS:=(zo (zJ j9 (zm 3))
  (zo (xF (jG (zb (tOp (rI (λ_ j=>0 < j) λi j=>.int (i % j)) (zn zk [] E0 (zb (zc 0) (zb (tC (.int 20)) zi))) (tC (.int 9))) zi)) (zm 4)
    (kW K t))
  (zB (tCB Qj (zb (qv (zc 3)) zi)))))
def jr(K:bz)(t:Adr)(E:XK):TS:=(zS (zA (tOp (zay K ae) (tCB (zd2 K) (zb (zc 0) zi)) (Qp (zb (zc 1) zi))))
   (ZH t.c_NoOrder (zb (zdY (zc 1)) zi) E)
   zH)
def Xr(K:bz)(t:Adr):TS:=(zo (qf K (zc 0) (tCB (zas K) (zb (zc 1) zi)) "code")
  (zo (qf K (zc 0) (tC (.int 0)) "at")
  (zo (qf K (zc 0) (tC .non) "why")
  (zo (qf K (zc 0) YL "slots")
  (zo (qf K (zc 0) j9 "gifts")
  (zo (qf K (zc 0) j9 "notes")
  (qf K (zc 0) (xq zi) "sayings")))))))
def qG(K:bz)(t:Adr):TS:=(zB (Q8 (tOp zbl (yG K (zc 0) "why") (tC .non)) (tOp (rI0 λi j=>.bl (decide (j<=i))) (yG K (zc 0) "at") (tCB (xy K) (zb (yG K (zc 0) "code") zi)))))
def qH(K:bz)(t:Adr):TS:=(zo (zS (zA (tOp zbl (yG K (zc 0) "why") (tC .non)))
   (zB (yC (zb (yC (zb (tC (.str "off")) (zb (yG K (zc 0) "why") zi))) (zb (zc 1) (zb (xq zi) zi)))))
   zH)
  (zB (yC (zb (yC (zb (tC (.str "done")) (zb (tCB (zfk K) (zb (yG K (zc 0) "sayings") zi)) zi))) (zb (zc 1) (zb (tCB Qj (zb (qv (yG K (zc 0) "gifts")) zi)) zi))))))
def qI(K:bz)(t:Adr):TS:=(zo (zJ (tCB Qi (zb (qv (yG K (zc 0) "notes")) zi)) (zm 1))
  (qH K t))
def kH(K:bz)(t:Adr):TS:=(zo (zS (ZE (tB (yw t.c_Run "over" (xw t) [] E0 (zc 0) zi)))
   (zB (tC .non))
   zH)
  (qI K t))
def ZZ(K:bz)(t:Adr)(E:XK):TS:=(zo (zS (zA (tOp rEq (zc 2) (tC (.int 0))))
   (ZH t.c_Nought (zb (KI (zc 0)) zi) E)
   zH)
  (zB (tIf (zA (tOp rEq (zc 0) (tC (.str "over")))) (tOp (rI zgq λi j=>.int (i.fdiv j)) (zc 1) (zc 2)) (tOp (rI (λ_ j=>j≠0) λi j=>.int (i.fmod j)) (zc 1) (zc 2)))))
def Z0(K:bz)(t:Adr)(E:XK):TS:=(zo (zS (zA (tOp rEq (zc 0) (tC (.str "plus"))))
   (zB (tOp (rI0 λi j=>.int (i + j)) (zc 1) (zc 2)))
   zH)
  (zo (zS (zA (tOp rEq (zc 0) (tC (.str "minus"))))
    (zB (tOp (rI0 λi j=>.int (i - j)) (zc 1) (zc 2)))
    zH)
  (zo (zS (zA (tOp rEq (zc 0) (tC (.str "times"))))
    (zB (tOp (rI CMulB λi j=>.int (i * j)) (zc 1) (zc 2)))
    zH)
  (zo (zS (zA (tOp rEq (zc 0) (tC (.str "under"))))
    (zB (tIf (zA (tOp (rI0 λi j=>.bl (decide (i < j))) (zc 1) (zc 2))) (tC (.int 1)) (tC (.int 0))))
    zH)
  (zo (zS (zA (tOp rEq (zc 0) (tC (.str "same"))))
    (zB (tIf (zA (tOp rEq (zc 1) (zc 2))) (tC (.int 1)) (tC (.int 0))))
    zH)
  (zB (zn (ZS t) [] E (zb (zc 0) (zb (zc 1) (zb (zc 2) zi))))))))))
def qJ(K:bz)(t:Adr):TS:=(zo (zS (tOr (ZE (tB (tCB (YN K) (zb (zc 0) (zb (tC (.ty "int")) zi))))) (tB (tCB (YN K) (zb (zc 0) (zb (tC (.ty "bool")) zi)))))
   (zB (tC (.bl ao)))
   zH)
  (zB (zaf (rI0 λi j=>.bl (decide (i<=j))) (rI0 λi j=>.bl (decide (i<=j))) (tUn (rU λi=>.int (-i)) (tOp (rI zad λi j=>.int (i ^ j.toNat)) (tC (.int 10)) (tC (.int 30)))) (zc 0) (tOp (rI zad λi j=>.int (i ^ j.toNat)) (tC (.int 10)) (tC (.int 30))))))
def YX(K:bz)(t:Adr)(E:XK):TS:=(zo (zJ (zn (ZT t) [] E (zb (zc 0) (zb (zc 1) (zb (zc 2) zi)))) (zm 3))
  (zo (zS (ZE (tB (zn qD [] E (zb (zc 3) zi))))
    (ZH t.c_Great (zb (KI (zc 0)) zi) E)
    zH)
  (zB (zc 3))))
def Zu(K:bz)(t:Adr)(E:XK):TS:=(zo (zJ (zb6 K "list" qm (zc 2)) (zm 4))
  (zo (zJ (zb6 K "list" qm (zc 2)) (zm 5))
  (yT (tBM K "list" z7 (zc 2) (zb (zn (YW t) [] E (zb (zc 3) (zb (zc 5) (zb (zc 4) zi)))) zi)))))
def Zv(K:bz)(t:Adr)(E:XK):TS:=(yT (tBM K "list" z7 (zc 2) (zb (tIf (tB (tCB (YN K) (zb (zc 3) (zb (tC (.ty "str")) zi)))) (ka (zc 1) (zc 3) (tC (.int 0))) (zc 3)) zi)))
def Zw(K:bz)(t:Adr)(E:XK):TS:=(zS (zA (tOp (rIn K ao) (zc 3) (tC (.ref t.c_JOINING))))
   (Zu K t E)
   (Zv K t E))
def qK(K:bz)(t:Adr)(E:XK):TS:=(zo (zJ (xq zi) (zm 2))
  (zo (xF (zgJ K (zc 0)) (zm 3)
    (Zw K t E))
  (zB (zb6 K "list" qm (zc 2)))))
def vt(K:bz)(t:Adr)(E:XK):TS:=(zB (zn (va t) [] E (zb (zc 1) (zb (yG K (zc 0) "slots") zi))))
def vx(K:bz)(t:Adr)(E:XK):TS:=(zB (yC (zb (tOp (zO K) (zc 1) (tC (.int 1))) (zb (yw t.c_Run "worth_of" (yd t) [] E (zc 0) (zb (tOp (zO K) (zc 1) (tC (.int 2))) zi)) zi))))
def Vt(K:bz)(t:Adr):TS:=(zo (zS (tOr (zA (tOp (YO ao) (zc 1) (yG K (zc 0) "gifts"))) (zA (tOp (YO ao) (zc 1) (yG K (zc 0) "notes"))))
   (zB (tC .non))
   zH)
  (zB (zc 1)))
def Vu(K:bz)(t:Adr):TS:=(zo (zgw K (zbn (YQ t.c_Run "place_in" (y9 t) (zc 0) (zb (tOp (y6 K) (yG K (zc 0) "code") (yG K (zc 0) "at")) zi)) 1) t.c_Great t.c_Nought (zB (tC .non)))
  (Vt K t))
def Xs(K:bz)(t:Adr):TS:=(zo (zS (tOr (tB (yw t.c_Run "over" (xw t) [] E0 (zc 0) zi)) (zA (tOp rNe (tOp (zO K) (tOp (y6 K) (yG K (zc 0) "code") (yG K (zc 0) "at")) (tC (.int 0))) (tC (.str "take")))))
   (zB (tC .non))
   zH)
  (Vu K t))
def kI(K:bz)(t:Adr):TS:=(zo (zS (zA (tOp (YO ao) (zc 1) (yG K (zc 0) "gifts")))
   (zB (qh (yG K (zc 0) "gifts") (zc 1)))
   zH)
  (zo (zS (zA (tOp (YO ae) (zc 1) (yG K (zc 0) "notes")))
    (wu (yG K (zc 0) "notes") (zc 1) (zc 2))
    zH)
  (zB (qh (yG K (zc 0) "notes") (zc 1)))))
def Vv(K:bz)(t:Adr)(E:XK):TS:=(wu (yG K (zc 0) "slots") (tOp (zO K) (zc 1) (tC (.int 1))) (yw t.c_Run "worth_of" (yd t) [] E (zc 0) (zb (tOp (zO K) (zc 1) (tC (.int 2))) zi)))
def Zx(K:bz)(t:Adr)(E:XK):TS:=(yT (tBM K "list" z7 (yG K (zc 0) "sayings") (zb (yw t.c_Run "worth_of" (yd t) [] E (zc 0) (zb (tOp (zO K) (zc 1) (tC (.int 1))) zi)) zi)))
def Vw(K:bz)(t:Adr)(E:XK):TS:=(zo (zJ (yw t.c_Run "place_in" (y9 t) [] E (zc 0) (zb (zc 1) zi)) (zm 3))
  (wu (yG K (zc 0) "gifts") (zc 3) (yw t.c_Run "worth_of" (yd t) [] E (zc 0) (zb (tOp (zO K) (zc 1) (tC (.int 3))) zi))))
def Vx(K:bz)(t:Adr)(E:XK):TS:=(wu (yG K (zc 0) "slots") (tOp (zO K) (zc 1) (tC (.int 3))) (yw t.c_Run "taken" (Yv t) [] E (zc 0) (zb (yw t.c_Run "place_in" (y9 t) [] E (zc 0) (zb (zc 1) zi)) (zb (zc 2) zi))))
def Xt(K:bz)(t:Adr)(E:XK):TS:=(zS (zA (tOp rEq (tOp (zO K) (zc 1) (tC (.int 0))) (tC (.str "take"))))
   (Vx K t E)
   (zS (zA (tOp rEq (tOp (zO K) (zc 1) (tC (.int 0))) (tC (.str "give"))))
   (Vw K t E)
   (zS (zA (tOp rEq (tOp (zO K) (zc 1) (tC (.int 0))) (tC (.str "let"))))
   (Vv K t E)
   (Zx K t E))))
def XL(K:bz)(t:Adr)(E:XK):TS:=(zS (zA (tOp rNe (yw t.c_Run "worth_of" (yd t) [] E (zc 0) (zb (tOp (zO K) (zc 1) (tC (.int 1))) zi)) (tC (.int 0))))
   (qf K (zc 0) (tC (.str "told")) "why")
   zH)
def XM(K:bz)(t:Adr)(E:XK):TS:=(yT (yw t.c_Run "does" (Xn t) [] E (zc 0) (zb (zc 1) (zb (zc 2) zi))))
def XN(K:bz)(t:Adr)(E:XK):TS:=(zB (tIf (zA (tOp rEq (yw t.c_Run "worth_of" (yd t) [] E (zc 0) (zb (tOp (zO K) (zc 1) (tC (.int 1))) zi)) (tC (.int 0)))) (tOp (zO K) (zc 1) (tC (.int 2))) (tOp (rI0 λi j=>.int (i + j)) (yG K (zc 0) "at") (tC (.int 1)))))
def XO(K:bz)(t:Adr)(E:XK):TS:=(zo (zS (zA (tOp rEq (tOp (zO K) (zc 1) (tC (.int 0))) (tC (.str "off"))))
   (XL K t E)
   (XM K t E))
  (zB (tOp (rI0 λi j=>.int (i + j)) (yG K (zc 0) "at") (tC (.int 1)))))
def XQ(K:bz)(t:Adr)(E:XK):TS:=(zo (zS (zA (tOp rEq (tOp (zO K) (zc 1) (tC (.int 0))) (tC (.str "skip"))))
   (XN K t E)
   zH)
  (XO K t E))
def Zy(K:bz)(t:Adr)(E:XK):TS:=(zo (zS (zA (tOp rEq (tOp (zO K) (zc 1) (tC (.int 0))) (tC (.str "go"))))
   (zB (tOp (zO K) (zc 1) (tC (.int 1))))
   zH)
  (XQ K t E))
def qL(K:bz)(t:Adr):TS:=(zo (zS (tB (yw t.c_Run "over" (xw t) [] E0 (zc 0) zi))
   zcM
   zH)
  (WC K (zdZ K (zc 0) (YQ t.c_Run "led_by" (jk t) (zc 0) (zb (tOp (y6 K) (yG K (zc 0) "code") (yG K (zc 0) "at")) (zb (zc 1) zi))) "at") t.c_Great (qf K (zc 0) (tC (.str "great")) "why") t.c_Nought (qf K (zc 0) (tC (.str "nought")) "why")))
def YY(K:bz)(t:Adr):TS:=(zB (ka (tCB Yp (zb (zc 0) zi)) (zc 1) (tC (.int 0))))
def zd7(K:bz)(t:Adr):TS:=(zo (zJ (zbc t.c_Run (Xm t) [] E0 (zb (zc 0) zi)) (zm 2))
  (zo (zaa (ZE (tB (yw t.c_Run "over" (xw t) [] E0 (zc 2) zi))) (zo (zJ (yw t.c_Run "asks" (Xp t) [] E0 (zc 2) zi) (zm 3))
  (yT (yw t.c_Run "step" (Xo t) [] E0 (zc 2) (zb (tIf (zA (tOp zc4 (zc 3) (tC .non))) (tC (.int 0)) (zn Jf [] E0 (zb (zc 1) (zb (zc 3) zi)))) zi)))))
  (zB (yw t.c_Run "paper" (Yw t) [] E0 (zc 2) zi))))
def jf(K:bz)(t:Adr):TS:=(zo (zJ (tCB Yp (zb (zc 0) zi)) (zm 1))
  (zB (xI (yD K (tCB zdE (zb (zc 1) zi))) (zm 0) (zA (tOp rNe (qh (zc 1) (zc 0)) (tC (.int 0)))) (yC (zb (zc 0) (zb (qh (zc 1) (zc 0)) zi))) 1 [1])))
def Z1(K:bz)(t:Adr):TS:=(zB (zn vc [] E0 (zb (tOp j7 (zc 0) (zc 1)) zi)))
def js(K:bz)(t:Adr)(E:XK):TS:=(zB (yC (zb (xI (jG (zb (tCB (xy K) (zb (zc 0) zi)) zi)) (zm 0) YM (qh (zc 1) (zc 0)) 1 [3]) (zb (zc 4) zi))))
def jt(K:bz)(t:Adr)(E:XK):TS:=(zo (xF (yD K (zc 2)) (zm 5)
   (zo (wu (zc 3) (zc 5) (zn (zaL t) [] E (zb (tOp (y6 K) (zc 0) (zc 5)) (zb (zc 4) zi))))
  (zJ (zn ZY [] E (zb (zc 4) (zb (tOp (zO K) (qh (zc 3) (zc 5)) (tC (.int 2))) zi))) (zm 4))))
  (js K t E))
def Zz(K:bz)(t:Adr)(E:XK):TS:=(zo (zJ YL (zm 3))
  (zo (zJ (tCB (zas K) (zb (zc 1) zi)) (zm 4))
  (jt K t E)))
def qM(K:bz)(t:Adr)(E:XK):TS:=(zo (yT (zn xL [] E (zb (zc 2) (zb (tCB (xy K) (zb (zc 0) zi)) zi))))
  (Zz K t E))
def wL(K:bz)(t:Adr):TS:=(zB (Ku (tCB (YN K) (zb (zc 0) (zb (tC (.ty "tuple")) zi))) (Ku (tOp rEq (tCB (xy K) (zb (zc 0) zi)) (tC (.int 3))) (Ku (tCB (YN K) (zb (tOp (zO K) (zc 0) (tC (.int 1))) (zb (tC (.ty "list")) zi))) (tCB (YN K) (zb (tOp (zO K) (zc 0) (tC (.int 2))) (zb (tC (.ty "list")) zi)))))))
def wk(K:bz)(t:Adr):TS:=(zo (zS (tOr (ZE (tB (tCB (YN K) (zb (zc 0) (zb (tC (.ty "tuple")) zi))))) (tOr (zA (tOp rNe (tCB (xy K) (zb (zc 0) zi)) (tC (.int 2)))) (tOr (ZE (tB (tCB (YN K) (zb (tOp (zO K) (zc 0) (tC (.int 0))) (zb (tC (.ty "list")) zi))))) (zA (tOp rNe (tCB (xy K) (zb (tOp (zO K) (zc 0) (tC (.int 0))) zi)) (zc 1))))))
   (zB (tC .non))
   zH)
  (zo (xF (yD K (tOp (zO K) (zc 0) (tC (.int 0)))) (zm 2)
    (zS (ZE (tB (zn wK [] E0 (zb (zc 2) zi))))
    (zB (tC .non))
    zH))
  (zB (tOp (zO K) (zc 0) (tC (.int 0))))))
def ju(K:bz)(t:Adr):TS:=(zo (xF (yD K (tOp (zO K) (zc 0) (tC (.int 1)))) (zm 3)
   (zS (zA (tOp (YO ao) (tOp (zO K) (zc 3) (tC (.int 0))) (zc 4)))
   (zB (tC (.bl ae)))
   zH))
  (zB (tC (.bl ao))))
def jv(K:bz)(t:Adr):TS:=(zo (xF (yD K (tOp j7 (tOp (zO K) (zc 1) (tC (.int 1))) (tOp (zO K) (zc 1) (tC (.int 2))))) (zm 3)
   (zS (zA (tOp (YO ao) (tOp (zO K) (zc 3) (tC (.int 0))) (zc 2)))
   (zB (tC (.bl ae)))
   zH))
  (ju K t))
def jx(K:bz)(t:Adr):TS:=(zo (zJ j9 (zm 4))
  (zo (xF (yD K (tOp (zO K) (zc 1) (tC (.int 2)))) (zm 3)
    (wu (zc 4) (tOp (zO K) (zc 3) (tC (.int 0))) (tC (.bl ae))))
  (jv K t)))
def qN(K:bz)(t:Adr):TS:=(zo (zJ j9 (zm 2))
  (zo (xF (yD K (tOp (zO K) (zc 0) (tC (.int 2)))) (zm 3)
    (wu (zc 2) (tOp (zO K) (zc 3) (tC (.int 0))) (tC (.bl ae))))
  (jx K t)))
def vy(K:bz)(t:Adr):TS:=(zo (zS (zA (tOp (rI0 λi j=>.bl (decide (i < j))) (zc 1) (tCB (xy K) (zb (zc 0) zi))))
   (zB (tOp (y6 K) (zc 0) (zc 1)))
   zH)
  (zB (tC (.int 0))))
def kX(K:bz)(t:Adr):TS:=(zo (zaa (zhC (zA (tOp (rI0 λi j=>.bl (decide (j < i))) (zc 6) (tC (.int 0)))) (zA (tOp (rI0 λi j=>.bl (decide (i < j))) (tOp (rI0 λi j=>.int (i - j)) (zc 4) (zc 6)) (zc 5)))) (zo (zS (tB (zn qF [] E0 (zb (tOp (y6 K) (zc 1) (tOp (y6 K) (zc 3) (tOp (rI0 λi j=>.int (i - j)) (zc 6) (tC (.int 1))))) (zb (tOp (y6 K) (zc 1) (zc 4)) zi))))
   zcK
   zH)
  (zJ (tOp (rI0 λi j=>.int (i - j)) (zc 6) (tC (.int 1))) (zm 6))))
  (yT (tBM K "list" qw (zc 3) (zb (zc 6) (zb (zc 4) zi)))))
def kY(K:bz)(t:Adr):TS:=(zo (zJ (tOp (rI (λ_ j=>0 < j) λi j=>.int (i % j)) (zn zk [] E0 (zb (zn (zR K) [] E0 (zb (zc 0) (zb (zc 4) zi))) (zb (tC (.int 203)) zi))) (zc 2)) (zm 5))
  (zo (zJ (zc 4) (zm 6))
  (kX K t)))
def jz(K:bz)(t:Adr):TS:=(zo (zJ (xq zi) (zm 3))
  (zo (xF (jG (zb (tCB (xy K) (zb (zc 1) zi)) zi)) (zm 4)
    (kY K t))
  (zB (zc 3))))
def wM(K:bz)(t:Adr):TS:=(zS (tB (zn qF [] E0 (zb (tOp (y6 K) (zc 1) (tOp (y6 K) (zc 2) (tOp (rI0 λi j=>.int (i - j)) (zc 4) (tC (.int 1))))) (zb (tOp (y6 K) (zc 1) (tOp (y6 K) (zc 2) (zc 4))) zi))))
   (yT (tBM K "list" z7 (zc 3) (zb (zc 4) zi)))
   zH)
def YZ(K:bz)(t:Adr):TS:=(zo (zJ (tOp (y6 K) (zc 3) (tOp (rI (λ_ j=>0 < j) λi j=>.int (i % j)) (zn zk [] E0 (zb (zc 0) (zb (tC (.int 205)) zi))) (tCB (xy K) (zb (zc 3) zi)))) (zm 4))
  (zB (tOp j7 (tOp j7 (tSl (Yf K) (zc 2) yy (xG (tOp (rI0 λi j=>.int (i - j)) (zc 4) (tC (.int 1))))) (xq (zb (tOp (y6 K) (zc 2) (zc 4)) (zb (tOp (y6 K) (zc 2) (tOp (rI0 λi j=>.int (i - j)) (zc 4) (tC (.int 1)))) zi)))) (tSl (Yf K) (zc 2) (xG (tOp (rI0 λi j=>.int (i + j)) (zc 4) (tC (.int 1)))) yy))))
def Y0(K:bz)(t:Adr):TS:=(zo (zS (zA (tOp (zaq K) (zc 3) (xq zi)))
   (zB (tC .non))
   zH)
  (YZ K t))
def qO(K:bz)(t:Adr):TS:=(zo (zJ (xq zi) (zm 3))
  (zo (xF (zgj (zb (tC (.int 1)) (zb (tCB (xy K) (zb (zc 2) zi)) zi))) (zm 4)
    (wM K t))
  (Y0 K t)))
def Y1(K:bz)(t:Adr)(n:Nat):TS:=(zB (tOp j7 (xq (zb (yC (zb (tC (.str "skip")) (zb (tOp (zO K) (zc 0) (tC (.int 1))) (zb (zc 3) zi)))) zi)) (zc 2)))
def Y2(K:bz)(t:Adr)(n:Nat):TS:=(zo (zJ (zn (xv  n) [] E0 (zb (tOp (zO K) (zc 0) (tC (.int 3))) (zb (tOp (rI0 λi j=>.int (i + j)) (zc 3) (tC (.int 1))) zi))) (zm 4))
  (zB (tOp j7 (tOp j7 (tOp j7 (xq (zb (yC (zb (tC (.str "skip")) (zb (tOp (zO K) (zc 0) (tC (.int 1))) (zb (tOp (rI0 λi j=>.int (i + j)) (zc 3) (tC (.int 1))) zi)))) zi)) (zc 2)) (xq (zb (yC (zb (tC (.str "go")) (zb (tOp (rI0 λi j=>.int (i + j)) (tOp (rI0 λi j=>.int (i + j)) (zc 3) (tC (.int 1))) (tCB (xy K) (zb (zc 4) zi))) zi))) zi))) (zc 4))))
def jP(K:bz)(t:Adr)(n:Nat):TS:=(zo (zS (zA (tOp (zaq K) (tOp (zO K) (zc 0) (tC (.int 3))) (xq zi)))
   (Y1 K t n)
   zH)
  (Y2 K t n))
def qP(K:bz)(t:Adr)(n:Nat):TS:=(zo (zJ (zn (xv  n) [] E0 (zb (tOp (zO K) (zc 0) (tC (.int 2))) (zb (tOp (rI0 λi j=>.int (i + j)) (zc 1) (tC (.int 1))) zi))) (zm 2))
  (zo (zJ (tOp (rI0 λi j=>.int (i + j)) (tOp (rI0 λi j=>.int (i + j)) (zc 1) (tC (.int 1))) (tCB (xy K) (zb (zc 2) zi))) (zm 3))
  (jP K t n)))
def Xu(K:bz)(t:Adr)(n:Nat):TS:=(zo (zJ (xq zi) (zm 2))
  (zo (xF (yD K (zc 0)) (zm 3)
    (zS (zA (tOp rEq (tOp (zO K) (zc 3) (tC (.int 0))) (tC (.str "if"))))
    (yT (tBM K "list" Qo (zc 2) (zb (zn (qE  n) [] E0 (zb (zc 3) (zb (tOp (rI0 λi j=>.int (i + j)) (zc 1) (tCB (xy K) (zb (zc 2) zi))) zi))) zi)))
    (yT (tBM K "list" z7 (zc 2) (zb (zc 3) zi)))))
  (zB (zc 2))))
def Z2(K:bz)(t:Adr):TS:=(zB (zn (xv  6) [] E0 (zb (zc 0) (zb (tC (.int 0)) zi))))
def jA(K:bz)(t:Adr):TS:=(zo (qf K (zc 0) YL "slots")
  (zo (qf K (zc 0) (tCB Yp (zb (zc 1) zi)) "worths")
  (qf K (zc 0) (xq zi) "sayings")))
def wm(K:bz)(t:Adr)(E:XK):TS:=(zB (zn (va t) [] E (zb (zc 1) (zb (yG K (zc 0) "slots") zi))))
def XR(K:bz)(t:Adr)(E:XK):TS:=(wu (yG K (zc 0) "slots") (tOp (zO K) (zc 1) (tC (.int 1))) (yw t.c_Doing "worth_of" (zY t) [] E (zc 0) (zb (tOp (zO K) (zc 1) (tC (.int 2))) zi)))
def kZ(K:bz)(t:Adr)(E:XK):TS:=(yT (tBM K "list" z7 (yG K (zc 0) "sayings") (zb (yw t.c_Doing "worth_of" (zY t) [] E (zc 0) (zb (tOp (zO K) (zc 1) (tC (.int 1))) zi)) zi)))
def XS(K:bz)(t:Adr)(E:XK):TS:=(wu (yG K (zc 0) "worths") (zc 2) (yw t.c_Doing "worth_of" (zY t) [] E (zc 0) (zb (tOp (zO K) (zc 1) (tC (.int 3))) zi)))
def k4(K:bz)(t:Adr)(E:XK):TS:=(zo (zJ (yC (zb (tOp (zO K) (zc 1) (tC (.int 1))) (zb (yw t.c_Doing "worth_of" (zY t) [] E (zc 0) (zb (tOp (zO K) (zc 1) (tC (.int 2))) zi)) zi))) (zm 2))
  (XS K t E))
def k9(K:bz)(t:Adr)(E:XK):TS:=(wu (yG K (zc 0) "slots") (tOp (zO K) (zc 1) (tC (.int 3))) (ka (yG K (zc 0) "worths") (yC (zb (tOp (zO K) (zc 1) (tC (.int 1))) (zb (yw t.c_Doing "worth_of" (zY t) [] E (zc 0) (zb (tOp (zO K) (zc 1) (tC (.int 2))) zi)) zi))) (tC (.int 0))))
def ZA(K:bz)(t:Adr)(E:XK):TS:=(zS (zA (tOp rEq (tOp (zO K) (zc 1) (tC (.int 0))) (tC (.str "take"))))
   (k9 K t E)
   (zS (zA (tOp rEq (tOp (zO K) (zc 1) (tC (.int 0))) (tC (.str "give"))))
   (k4 K t E)
   (zS (zA (tOp rEq (tOp (zO K) (zc 1) (tC (.int 0))) (tC (.str "let"))))
   (XR K t E)
   (kZ K t E))))
def jQ(K:bz)(t:Adr)(n:Nat)(E:XK):TS:=(zS (ZE (tB (yw t.c_Doing "goes_through" (ym t n) [] E (zc 0) (zb (tIf (zA (tOp rNe (yw t.c_Doing "worth_of" (zY t) [] E (zc 0) (zb (tOp (zO K) (zc 2) (tC (.int 1))) zi)) (tC (.int 0)))) (tOp (zO K) (zc 2) (tC (.int 2))) (tOp (zO K) (zc 2) (tC (.int 3)))) zi))))
   (zB (tC (.bl ao)))
   zH)
def jR(K:bz)(t:Adr)(n:Nat)(E:XK):TS:=(yT (yw t.c_Doing "does" (Zt t) [] E (zc 0) (zb (zc 2) zi)))
def jS(K:bz)(t:Adr)(n:Nat)(E:XK):TS:=(zS (zA (tOp rNe (yw t.c_Doing "worth_of" (zY t) [] E (zc 0) (zb (tOp (zO K) (zc 2) (tC (.int 1))) zi)) (tC (.int 0))))
   (zB (tC (.bl ao)))
   zH)
def jT(K:bz)(t:Adr)(n:Nat)(E:XK):TS:=(zS (zA (tOp rEq (tOp (zO K) (zc 2) (tC (.int 0))) (tC (.str "off"))))
   (jS K t n E)
   (zS (zA (tOp rEq (tOp (zO K) (zc 2) (tC (.int 0))) (tC (.str "if"))))
   (jQ K t n E)
   (jR K t n E)))
def wA(K:bz)(t:Adr)(n:Nat)(E:XK):TS:=(zo (xF (yD K (zc 1)) (zm 2)
   (jT K t n E))
  (zB (tC (.bl ae))))
def jB(K:bz)(t:Adr):TS:=(zB (yC (zb (yC (zb (tC (.str "off")) (zb (zc 0) zi))) (zb (tCB (zas K) (zb (zc 1) zi)) zi))))
def Z3(K:bz)(t:Adr):TS:=(zo (zS (ZE (tB (zc 3)))
   (zB (zn yS [] E0 (zb (tC (.str "told")) (zb (zc 1) zi))))
   zH)
  (zB (yC (zb (yC (zb (tC (.str "done")) (zb (tCB (zfk K) (zb (yG K (zc 2) "sayings") zi)) zi))) (zb (zn vc [] E0 (zb (tCB Qi (zb (qv (yG K (zc 2) "worths")) zi)) zi)) zi)))))
def Z4(K:bz)(t:Adr):TS:=(zo (WC K (zbn (YQ t.c_Doing "goes_through" (ym t 6) (zc 2) (zb (zc 0) zi)) 3) t.c_Great (zB (zn yS [] E0 (zb (tC (.str "great")) (zb (zc 1) zi)))) t.c_Nought (zB (zn yS [] E0 (zb (tC (.str "nought")) (zb (zc 1) zi)))))
  (Z3 K t))
def WN(K:bz)(t:Adr):TS:=(zo (zJ (zbc t.c_Doing (jl t) [] E0 (zb (zc 1) zi)) (zm 2))
  (Z4 K t))
def jC(K:bz)(t:Adr):TS:=(zo (zJ (xq zi) (zm 2))
  (zo (zJ (tCB (zas K) (zb (zc 1) zi)) (zm 3))
  (zo (xF (yD K (zc 0)) (zm 4)
    (zo (zJ (zn WM [] E0 (zb (zc 4) (zb (zc 3) zi))) (zm 5))
  (zo (yT (tBM K "list" z7 (zc 2) (zb (tOp (zO K) (zc 5) (tC (.int 0))) zi)))
  (zJ (tOp (zO K) (zc 5) (tC (.int 1))) (zm 3)))))
  (zB (yC (zb (zc 2) (zb (zc 3) zi)))))))
def kJ(K:bz)(t:Adr):TS:=(zo (zJ (tOp (rI (λ_ j=>0 < j) λi j=>.int (i % j)) (zn zk [] E0 (zb (zc 0) (zb (zc 1) zi))) (tC (.int 6))) (zm 4))
  (zo (zS (zA (tOp rEq (zc 4) (tC (.int 0))))
    (zB (yC (zb (tOp (y6 K) (zc 2) (tOp (rI (λ_ j=>0 < j) λi j=>.int (i % j)) (zn zk [] E0 (zb (zc 0) (zb (tOp (rI0 λi j=>.int (i + j)) (zc 1) (tC (.int 1))) zi))) (tC (.int 2)))) zi)))
    zH)
  (zo (zS (zA (tOp rEq (zc 4) (tC (.int 1))))
    (zB (yC (zb (tOp (y6 K) (zc 2) (tOp (rI (λ_ j=>0 < j) λi j=>.int (i % j)) (zn zk [] E0 (zb (zc 0) (zb (tOp (rI0 λi j=>.int (i + j)) (zc 1) (tC (.int 1))) zi))) (tC (.int 2)))) (zb (tOp (rI (λ_ j=>0 < j) λi j=>.int (i % j)) (zn zk [] E0 (zb (zc 0) (zb (tOp (rI0 λi j=>.int (i + j)) (zc 1) (tC (.int 2))) zi))) (zc 3)) (zb (tC (.str "plus")) zi)))))
    zH)
  (zB (yC (zb (tOp (rI (λ_ j=>0 < j) λi j=>.int (i % j)) (zn zk [] E0 (zb (zc 0) (zb (tOp (rI0 λi j=>.int (i + j)) (zc 1) (tC (.int 2))) zi))) (zc 3)) zi))))))
def kK(K:bz)(t:Adr):TS:=(zo (zJ (tOp (y6 K) (zc 2) (tOp (rI (λ_ j=>0 < j) λi j=>.int (i % j)) (zn zk [] E0 (zb (zc 0) (zb (zc 1) zi))) (tC (.int 2)))) (zm 3))
  (zo (zJ (tOp (rI (λ_ j=>0 < j) λi j=>.int (i % j)) (zn zk [] E0 (zb (zc 0) (zb (tOp (rI0 λi j=>.int (i + j)) (zc 1) (tC (.int 1))) zi))) (tC (.int 5))) (zm 4))
  (zo (zS (zA (tOp rEq (zc 4) (tC (.int 0))))
    (zB (yC (zb (zc 3) zi)))
    zH)
  (zo (zS (zA (tOp rEq (zc 4) (tC (.int 1))))
    (zB (yC (zb (zn yu [] E0 (zb (zc 0) (zb (tOp (rI0 λi j=>.int (i + j)) (zc 1) (tC (.int 2))) zi))) zi)))
    zH)
  (zo (zJ (xq (zb (tC (.str "plus")) (zb (tC (.str "minus")) (zb (tC (.str "times")) (zb (tC (.str "over")) (zb (tC (.str "rest")) (zb (tC (.str "under")) (zb (tC (.str "plus")) zi)))))))) (zm 5))
  (zB (yC (zb (zc 3) (zb (zn yu [] E0 (zb (zc 0) (zb (tOp (rI0 λi j=>.int (i + j)) (zc 1) (tC (.int 2))) zi))) (zb (tOp (y6 K) (zc 5) (tOp (rI (λ_ j=>0 < j) λi j=>.int (i % j)) (zn zk [] E0 (zb (zc 0) (zb (tOp (rI0 λi j=>.int (i + j)) (zc 1) (tC (.int 4))) zi))) (tC (.int 7)))) zi))))))))))
def jD(K:bz)(t:Adr):TS:=(zo (zS (zA (tOp (rI0 λi j=>.bl (decide (i < j))) (zc 5) (tC (.int 5))))
   (zB (yC (zb (tC (.str "take")) (zb (zc 6) (zb (zc 8) (zb (zc 7) zi))))))
   zH)
  (zo (zS (zA (tOp (rI0 λi j=>.bl (decide (i < j))) (zc 5) (tC (.int 10))))
    (zB (yC (zb (tC (.str "give")) (zb (zc 6) (zb (zc 8) (zb (zn y0 [] E0 (zb (zc 0) (zb (tOp (rI0 λi j=>.int (i + j)) (zc 1) (tC (.int 20))) (zb (zc 2) zi)))) zi))))))
    zH)
  (zo (zS (zA (tOp rEq (zc 5) (tC (.int 10))))
    (zB (yC (zb (tC (.str "let")) (zb (zc 7) (zb (zn y0 [] E0 (zb (zc 0) (zb (tOp (rI0 λi j=>.int (i + j)) (zc 1) (tC (.int 20))) (zb (zc 2) zi)))) zi)))))
    zH)
  (zo (zS (zA (tOp rEq (zc 5) (tC (.int 11))))
    (zB (yC (zb (tC (.str "off")) (zb (yC (zb (zc 7) (zb (zn yu [] E0 (zb (zc 0) (zb (tOp (rI0 λi j=>.int (i + j)) (zc 1) (tC (.int 21))) zi))) (zb (tC (.str "same")) zi)))) zi))))
    zH)
  (zB (yC (zb (tC (.str "say")) (zb (zn y0 [] E0 (zb (zc 0) (zb (tOp (rI0 λi j=>.int (i + j)) (zc 1) (tC (.int 20))) (zb (zc 2) zi)))) zi))))))))
def qQ(K:bz)(t:Adr):TS:=(zo (zJ (tOp (rI (λ_ j=>0 < j) λi j=>.int (i % j)) (zn zk [] E0 (zb (zc 0) (zb (zc 1) zi))) (tC (.int 14))) (zm 5))
  (zo (zJ (tOp (y6 K) (zc 3) (tOp (rI (λ_ j=>0 < j) λi j=>.int (i % j)) (zn zk [] E0 (zb (zc 0) (zb (tOp (rI0 λi j=>.int (i + j)) (zc 1) (tC (.int 60))) zi))) (tC (.int 3)))) (zm 6))
  (zo (zJ (tOp (y6 K) (zc 2) (tOp (rI (λ_ j=>0 < j) λi j=>.int (i % j)) (zn zk [] E0 (zb (zc 0) (zb (tOp (rI0 λi j=>.int (i + j)) (zc 1) (tC (.int 61))) zi))) (tC (.int 2)))) (zm 7))
  (zo (zJ (zn kE [] E0 (zb (zc 0) (zb (tOp (rI0 λi j=>.int (i + j)) (zc 1) (tC (.int 50))) (zb (zc 2) (zb (zc 4) zi))))) (zm 8))
  (jD K t)))))
def qR(K:bz)(t:Adr):TS:=(zo (zJ (xq (zb (zn ve [] E0 (zb (zc 5) (zb (tC (.int 100)) (zb (zc 1) (zb (zc 2) (zb (zc 3) zi)))))) zi)) (zm 7))
  (zJ (yC (zb (tC (.str "if")) (zb (zn y0 [] E0 (zb (zc 5) (zb (tC (.int 152)) (zb (zc 1) zi)))) (zb (xq (zb (zc 6) zi)) (zb (zc 7) zi))))) (zm 6)))
def qS(K:bz)(t:Adr):TS:=(zo (zJ (zn ve [] E0 (zb (zc 5) (zb (tC (.int 0)) (zb (zc 1) (zb (zc 2) (zb (zc 3) zi)))))) (zm 6))
  (zo (zS (zA (tOp rEq (tOp (rI (λ_ j=>0 < j) λi j=>.int (i % j)) (zn zk [] E0 (zb (zc 5) (zb (tC (.int 150)) zi))) (tC (.int 5))) (tC (.int 0))))
    (qR K t)
    zH)
  (yT (tBM K "list" z7 (zc 4) (zb (zc 6) zi)))))
def kL(K:bz)(t:Adr):TS:=(zo (zJ (xq zi) (zm 4))
  (zo (xF (yD K (zc 0)) (zm 5)
    (qS K t))
  (zB (zc 4))))
def jE(K:bz)(t:Adr):TS:=(zo (zJ (tCB Yp (zb (tOp j7 (tOp (zO K) (zc 1) (tC (.int 1))) (tOp (zO K) (zc 1) (tC (.int 2)))) zi)) (zm 2))
  (zB (tCB (zha K) (zb (xI (yD K (tOp (zO K) (zc 0) (tC (.int 2)))) (zcO K 2 (X9 (zm 0) (X9 (zm 1) zcN))) YM (tOp (YO ao) (zc 0) (zc 2)) 2 [2]) zi))))
def J2(K:bz)(t:Adr):TS:=(zB (Q8 (zn wT [] E0 (zb (zc 0) (zb (zc 1) zi))) (zn wT [] E0 (zb (zc 1) (zb (zc 0) zi)))))
def Z5(K:bz)(t:Adr):TS:=(zB (xI (yD K (zc 1)) (zm 0) (tB (zn J1 [] E0 (zb (tOp (y6 K) (zc 1) (zc 0)) (zb (tOp (y6 K) (zc 1) (zc 2)) zi)))) (zc 0) 1 [0,2]))
def Z6(K:bz)(t:Adr)(E:XK):TS:=(zo (zJ (xI (yD K (tSl (Yf K) (zc 1) yy (xG (zc 2)))) (zm 0) (zA (tOp (rI0 λi j=>.bl (decide (j < i))) (zc 0) (zc 1))) (zc 0) 1 [3]) (zm 4))
  (zS (zA (tOp (zaE K) (zn ZX [] E (zb (zc 0) (zb (zc 4) (zb (zc 3) zi)))) (xq zi)))
   (zB (tC (.bl ao)))
   zH))
def Z7(K:bz)(t:Adr)(E:XK):TS:=(zo (xF (zg8 K (zb (zc 1) zi)) (zcO K 2 (X9 (zm 2) (X9 (zm 3) zcN)))
   (Z6 K t E))
  (zB (tC (.bl ae))))
def WO(K:bz)(t:Adr)(E:XK):TS:=(zo (yT (zn xL [] E (zb (zc 1) (zb (tCB (xy K) (zb (zc 0) zi)) zi))))
  (Z7 K t E))
def Qw(K:bz)(t:Adr):TS:=(yT (tBM K "list" z7 (zc 6) (zb (zn kF [] E0 (zb (tSl (Yf K) (tSl (Yf K) (zc 0) yy (xG (tC (.int 120)))) (xG (zc 7)) (xG (tOp (rI0 λi j=>.int (i + j)) (zc 7) (zc 5)))) (zb (zc 1) (zb (zc 2) (zb (zc 3) zi))))) zi)))
def Y3(K:bz)(t:Adr):TS:=(zo (zS (tOr (zA (tOp zbk (zn Yx [] E0 (zb (zc 10) (zb (zc 12) zi))) (tC (.bl ae)))) (zA (tOp (zay K ae) (zn vf [] E0 (zb (zc 8) (zb (zc 4) (zb (zc 12) zi)))) (zc 9))))
   (zB (tC (.bl ao)))
   zH)
  (zo (zJ (zn vU [] E0 (zb (zn (zR K) [] E0 (zb (zc 0) (zb (tC (.int 4)) zi))) (zb (zc 10) (zb (zc 12) zi)))) (zm 13))
  (zB (Q8 (tOp zc4 (zc 13) (tC .non)) (tOp zhK (zn Yx [] E0 (zb (zc 10) (zb (zc 13) zi))) (tC (.bl ao)))))))
def Jg(K:bz)(t:Adr):TS:=(zo (zJ (zn (jo K) [] E0 (zb (zc 0) (zb (zc 10) (zb (zc 11) zi)))) (zm 12))
  (Y3 K t))
def Jh(K:bz)(t:Adr):TS:=(zo (zJ (tOp (rI0 λi j=>.int (i + j)) (tC (.int 1)) (tOp (rI (λ_ j=>0 < j) λi j=>.int (i % j)) (zn zk [] E0 (zb (zn (zR K) [] E0 (zb (zc 0) (zb (tC (.int 3)) zi))) (zb (tC (.int 204)) zi))) (tOp (rI0 λi j=>.int (i + j)) (tC (.int 1)) (tCB (xy K) (zb (zc 8) zi))))) (zm 11))
  (Jg K t))
def Y4(K:bz)(t:Adr):TS:=(zo (zS (zA (tOp (zay K ae) (zn jn [] E0 (zb (zc 6) (zb (zc 4) zi))) (yC (zb (xI (yD K (zc 10)) (zm 0) YM (tOp (zO K) (zc 0) (tC (.int 0))) 1 []) (zb (tOp (zO K) (zc 9) (tC (.int 1))) zi)))))
   (zB (tC (.bl ao)))
   zH)
  (Jh K t))
def Ji(K:bz)(t:Adr):TS:=(zo (zS (zA (tOp zc4 (zc 10) (tC .non)))
   (zB (tC (.bl ao)))
   zH)
  (Y4 K t))
def Qx(K:bz)(t:Adr):TS:=(zo (zJ (zn wg [] E0 (zb (zc 9) (zb (tCB (xy K) (zb (zc 8) zi)) zi))) (zm 10))
  (Ji K t))
def WP(K:bz)(t:Adr):TS:=(zo (zJ (zn vf [] E0 (zb (zc 8) (zb (zc 4) (zb (Qp (zb (tCB (xy K) (zb (zc 8) zi)) zi)) zi)))) (zm 9))
  (Qx K t))
def WQ(K:bz)(t:Adr):TS:=(zo (zJ (xI (yD K (zc 6)) (zm 0) YM (zn ZU [] E0 (zb (zc 0) zi)) 1 []) (zm 8))
  (WP K t))
def Qy(K:bz)(t:Adr):TS:=(zo (xF (zdP (zb (tC (.int 0)) (zb (tCB (xy K) (zb (tSl (Yf K) (zc 0) yy (xG (tC (.int 120)))) zi)) (zb (zc 5) zi)))) (zm 7)
   (Qw K t))
  (WQ K t))
def WR(K:bz)(t:Adr):TS:=(zo (zJ (xq zi) (zm 6))
  (Qy K t))
def zaM(K:bz)(t:Adr):TS:=(zo (zJ (zn xK [] E0 (zb (zn (zR K) [] E0 (zb (zc 0) (zb (tC (.int 0)) zi))) (zb (tC (.int 2)) zi))) (zm 1))
  (zo (zJ (zn vm [] E0 (zb (zn (zR K) [] E0 (zb (zc 0) (zb (tC (.int 1)) zi))) (zb (tC (.int 3)) zi))) (zm 2))
  (zo (zJ (tOp (rI0 λi j=>.int (i + j)) (tC (.int 1)) (tOp (rI (λ_ j=>0 < j) λi j=>.int (i % j)) (zn zk [] E0 (zb (zn (zR K) [] E0 (zb (zc 0) (zb (tC (.int 1)) zi))) (zb (tC (.int 201)) zi))) (tC (.int 8)))) (zm 3))
  (zo (zJ (zn jm [] E0 (zb (zn (zR K) [] E0 (zb (zc 0) (zb (tC (.int 2)) zi))) (zb (zc 2) (zb (zc 3) zi)))) (zm 4))
  (zo (zJ (tOp (rI0 λi j=>.int (i + j)) (tC (.int 2)) (tOp (rI (λ_ j=>0 < j) λi j=>.int (i % j)) (zn zk [] E0 (zb (zn (zR K) [] E0 (zb (zc 0) (zb (tC (.int 0)) zi))) (zb (tC (.int 200)) zi))) (tC (.int 7)))) (zm 5))
  (WR K t))))))
section
variable {K:bz}{t:Adr}{H:Hp}{Q:VK}
theorem zbE{j:Int}(h0:0<=j)(h1:j<=100):zad 10 j:=⟨h0,by lia,by decide⟩
theorem zU(h:n<=100000):n<=sizeLine:=bR h (by decide)
theorem vW(T:String):lN K (.type T) (.type T)=aa ae:=by
 unfold lN
 rw[ap (by simp)]
theorem kf(K:bz):KF K:=⟨by with_unfolding_all rfl,by with_unfolding_all rfl,by with_unfolding_all rfl⟩
theorem dB{i j:Int}(h0:0 < j:=by decide)(h1:j < 10000000000000000000000000000000000000000000000:=by decide):zc5 i j:=by
 have hb:(10000000000000000000000000000000000000000000000:Int) < big:=by decide +kernel
 exact⟨h0,by lia⟩
theorem zbF{α:Type}{xs:List α}{i:Int}(h0:0<=i)(h1:i < xs.length):∃x,atI xs i=aa x/\x∈xs:=by
 obtain⟨n,rfl⟩:∃n:Nat,i=(n:Int):=⟨i.toNat,by lia⟩
 have hn:n < xs.length:=by lia
 refine⟨xs[n],?_,dM hn⟩
 unfold atI ixN
 rw[ap h0,ap h1]
 simp[hn]
theorem zaN{α:Type}{xs:List α}(e:Int)(n:Nat)(hl:xs.length=n)(hn:0 < (n:Int)):∃x,atI xs (e % n)=aa x/\x∈xs :=
 zbF (cL _ (by lia)) (by rw[hl];exact cD _ hn)
theorem J3{i:Int}(hK:zfK K)(q:∀H',Same H H'->Q (.bl (inW i)) H') :
  qJ K t { nx:=λ_ H'=>Q .non H',rt:=Q } (L2.start ["thing"] [.int i]) H:=by
 simp only[qJ,L2.start,zo,zB,zH,tOp,tUn,zc,tC,zb,zi,zS,tOr,ZE,tB,tCB,zaf,rI,rI0,rU,YN,cr,bG,bJ,bB,bb,bj,ah,V.int.injEq,V.bl.injEq,V.ty.injEq,bp,and_true,and_assoc,am,bU,bL,decide_eq_true_eq,cB,m8,fC,gr,if_true]
 have q:=q H (Same.refl H)
 refine⟨_,.int i,ae,vW _,?_⟩
 rw[ak (by decide)]
 refine⟨_,.int i,ao,hK,?_⟩
 rw[ak (by decide)]
 refine⟨zbE (by decide) (by decide),xo (λc=>⟨zbE (by decide) (by decide),?_⟩) λc=>?_⟩
 ·have e:inW i=decide (i<=1000000000000000000000000000000):=by
   unfold inW
   by_cases h:i<=1000000000000000000000000000000
   ·rw[decide_eq_true h,decide_eq_true ⟨c,h⟩]
   ·rw[decide_eq_false h,decide_eq_false λz=>h z.2]
  rw[e] at q
  exact q
 ·have e:inW i=ao:=decide_eq_false λz=>c z.1
  rw[e] at q
  exact q
theorem Qz{E:XK}{w:Str}{a b:Int}(hw:w.length<=1000)(ha:inW a=ae)(hb:inW b=ae)(q:∀H',Same H H'->if b=0 then E (.ref t.c_Nought) ai H' else Q (.int (if w="over" then a.fdiv b else a.fmod b)) H') :
  ZZ K t E { nx:=λ_ H'=>Q .non H',rt:=Q } (L2.start ["word","first","second"] [.str w,.int a,.int b]) H:=by
 simp only[ZZ,L2.start,ZH,KI,zo,zB,zH,tOp,zc,tC,zb,zi,zS,zA,tIf,rEq,rI,Ye,cr,bG,bJ,bB,bb,bd,bj,ah,V.int.injEq,V.str.injEq,V.bl.injEq,true_and,am,bU,bL,decide_eq_true_eq]
 have q:=q H (Same.refl H)
 have B:=JJ hb
 refine xo (λc=>?_) λc=>?_
 ·rw[ap c] at q
  exact⟨by lia,λy=>⟨by decide,q⟩⟩
 ·rw[ak c] at q
  refine xo (λe=>?_) λe=>?_
  ·rw[ap e] at q
   exact⟨⟨c,B⟩,q⟩
  ·rw[ak e] at q
   exact⟨c,q⟩
theorem QA{E:XK}{w:Str}{a b:Int}(hw:w.length<=1000)(ha:inW a=ae)(hb:inW b=ae)(q:∀H',Same H H'->if Xh w/\b=0 then E (.ref t.c_Nought) ai H' else Q (.int (vP w a b)) H') :
  Z0 K t E { nx:=λ_ H'=>Q .non H',rt:=Q } (L2.start ["word","first","second"] [.str w,.int a,.int b]) H:=by
 simp only[Z0,ZS,L2.start,zo,zB,zH,tOp,zc,tC,zb,zi,zS,zA,tIf,zn,rEq,rI,rI0,Ye,cr,bG,bJ,bB,bb,bd,bj,ah,V.int.injEq,V.str.injEq,V.bl.injEq,bp,and_true,true_and,and_assoc,am,bU,bL,decide_eq_true_eq]
 have A:=JJ ha
 have B:=JJ hb
 have nd:¬ Xh w->Q (.int (vP w a b)) H:=λh=>by
  have q:=q H (Same.refl H)
  rw[ak λz=>h z.1] at q
  exact q
 refine xo (λc=>?_) λc1=>xo (λc=>?_) λc2=>xo (λc=>⟨⟨A,B⟩,?_⟩) λc3=>xo (λc=>?_) λc4=>xo (λc=>?_) λc5=>⟨hw,ha,hb,λH' s=>?_⟩
 ·subst c
  have q:=nd λz=>z.1 rfl
  exact q
 ·subst c
  have q:=nd λz=>z.2.1 rfl
  rw[show vP "minus" a b=a - b by unfold vP;rw[ak c1,ap rfl]] at q
  exact q
 ·subst c
  have q:=nd λz=>z.2.2.1 rfl
  rw[show vP "times" a b=a * b by unfold vP;rw[ak c1,ak c2,ap rfl]] at q
  exact q
 ·subst c
  have q:=nd λz=>z.2.2.2.1 rfl
  rw[show vP "under" a b=if a < b then 1 else 0 by unfold vP;rw[ak c1,ak c2,ak c3,ap rfl]] at q
  refine xo (λd=>?_) λd=>?_
  ·rw[ap d] at q;exact q
  ·rw[ak d] at q;exact q
 ·subst c
  have q:=nd λz=>z.2.2.2.2 rfl
  rw[show vP "same" a b=if a=b then 1 else 0 by unfold vP;rw[ak c1,ak c2,ak c3,ak c4,ap rfl]] at q
  refine xo (λd=>?_) λd=>?_
  ·rw[ap d] at q;exact q
  ·rw[ak d] at q;exact q
 ·have q:=q H' s
  have hd:Xh w:=⟨c1,c2,c3,c4,c5⟩
  refine xo (λd=>?_) λd=>?_
  ·rw[ap ⟨hd,d⟩] at q;exact q
  ·rw[ak λz=>d z.2] at q
   unfold vP at q
   rw[ak c1,ak c2,ak c3,ak c4,ak c5] at q
   exact q
theorem zaO{E:XK}{w:Str}{a b:Int}(hw:w.length<=1000)(ha:inW a=ae)(hb:inW b=ae)(q:∀H',Same H H'->fin t (vB w a b) Q E H') :
  YX K t E { nx:=λ_ H'=>Q .non H',rt:=Q } (L2.start ["word","first","second","worth"] [.str w,.int a,.int b]) H:=by
 simp only[YX,ZT,qD,L2.start,ZH,KI,zo,zJ,zm,zB,zH,zc,zb,zi,zS,ZE,tB,zn,cr,bG,bJ,bP,b8,bB,bb,bd,bj,ah,V.int.injEq,V.str.injEq,V.bl.injEq,bp,and_true,and_assoc,am,br,bx,bU,bL,cB]
 refine⟨hw,ha,hb,λH1 s1=>xo (λc=>?_) λc H2 s2=>xo (λd=>?_) λd=>?_⟩
 ·have q:=q H1 s1
  unfold vB at q
  rw[ap c] at q
  exact q
 ·have q:=q H2 (s1.trans s2)
  unfold vB at q
  rw[ak c,ak (by rw[d];decide)] at q
  exact⟨by lia,λy=>⟨by decide,q⟩⟩
 ·have q:=q H2 (s1.trans s2)
  unfold vB at q
  rw[ak c,ap (by simpa using d)] at q
  exact q
theorem QB{xs:List V} :(xs ++ [y])[(xs ++ [y]).length - 1]?=aa y:=by simp
theorem Y5{xs:List V} :(xs ++ [y]).dropLast=xs:=by simp
theorem z6{H H':Hp}(s:Same H H')(hw:H w=ai):Same H (upd H' w o):=λb u e=>by rw[zl (zG e hw)];exact s b u e
theorem zhb(st:List Int):(∃l a b,st=l ++ [a,b])\/∀kvs v,isJ v=ae->ww kvs st v=.error .stuck:=by
 cases h:st.reverse with
 | nil =>
  refine .inr λkvs v hv=>?_
  unfold ww
  rw[hv,ap rfl,h]
  split <;> rename_i e1 e2 <;> first | rfl | cases e2
 | cons b r =>
  cases r with
  | nil =>
   refine .inr λkvs v hv=>?_
   unfold ww
   rw[hv,ap rfl,h]
   split <;> rename_i e1 e2 <;> first | rfl | cases e2
  | cons a r =>
   refine .inl ⟨r.reverse,a,b,?_⟩
   have:=congrArg List.reverse h
   rw[nD] at this
   rw[this];simp
theorem zd8{kvs:List (Key × V)}{l:List Int}{a b:Int}{w:Str}(hw:isJ (.str w)=ae):ww kvs (l ++ [a,b]) (.str w)=match vB w a b with | .ok c=>.ok (l ++ [c]) | .error e=>.error e:=by
 unfold ww
 rw[hw,ap rfl]
 simp only[nM,oz,oQ,b8,bP]
 cases vB w a b with
 | error e=>rfl
 | ok c=>simp
def rkI(kvs:List (Key × V))(ps:List V)(tm sl w:ag)(H:Hp)(i:Nat)(σ:St)(H':Hp):Prop:=∃st,(∃o3 o4 o5,σ=[aa (.ref tm),aa (.ref sl),aa (.ref w),o3,o4,o5])/\wY kvs (ps.take i) []=.ok st/\(∀x∈st,inW x=ae)/\st.length<=i/\H' w=aa (.lst (st.map V.int))/\Same H H'
theorem J4{E:XK}{kvs:List (Key × V)}{tm sl:ag}{ps:List V}{r:Except Er Int}(hK:lN K (.type "int") (.type "str")=aa ao)(hJ:∀H:Hp,SqT K H t.c_JOINING jw)(h1:H tm=aa (.tup ps))(h2:H sl=aa (.dK kvs))(h3:Good kvs ps r)(h4:∀v∈ps,kj v)(h5:ps.length<=1000)(h6:yr kvs)
  (q:∀H',Same H H'->fin t r Q E H'):qK K t E { nx:=λ_ H'=>Q .non H',rt:=Q } (L2.start ["term","slots","worths","part","second","first"] [.ref tm,.ref sl]) H:=by
 simp only[qK,L2.start,qm,ze7,zo,zJ,zm,zB,zc,xq,zi,xF,zb6,tyV,zgJ,cr,bG,bJ,bP,b8,bb,bj,ah,V.ref.injEq,true_and,am,br,bx,bU,bL]
 refine⟨by decide,λw hw=>⟨⟨_,SqT.of ((isV w hw) _ _ h1)⟩,?_⟩⟩
 have run0:=h3.1 []
 have fe:∀ {e:Er} {H':Hp},wY kvs ps []=.error e->Same H H'->fin t (.error e) Q E H':=λ{e H'} z s=>by
  rw[z] at run0
  cases r with
  | ok i=>cases run0
  | error e' =>
   cases run0
   exact q _ s
 have ns:wY kvs ps []≠.error .stuck:=λz=>by
  rw[z] at run0
  cases r with
  | ok i=>cases run0
  | error e' =>
   cases run0
   exact h3.2 rfl
 refine zda ps (rkI kvs ps tm sl w H) ⟨[],⟨_,_,_,rfl⟩,rfl,(λx z=>nomatch z),bq _,zf,isV w hw⟩ (λi σ H' ⟨st,a,b,c,d,e,s⟩=>SqT.of (s _ _ h1)) ?_ ?_
 ·rintro i v σ H' hv ⟨st,⟨o3,o4,o5,rfl⟩,hr,hW,hl,hst,hS⟩
  have hi:i < ps.length:=(bn.mp hv).1
  have one:=zfi hr hv
  have ok:=h4 v (bD hv)
  have fl:Yg v=ae:=by rcases ok with ⟨j,rfl,_⟩ | ⟨x,rfl,_⟩ <;> rfl
  simp only[Zw,tOp,zc,tC,zS,zA,rIn,bb,bd,bj,ah,V.ref.injEq,V.bl.injEq,am,br,bx,cG,ite_false]
  refine⟨jw,.inr (hJ H'),fl,rfl,xo (λc=>?_) λc=>?_⟩
  ·simp only[Zu,YW,z7,qm,v5,ze7,zo,zJ,zm,yT,zc,zb,zi,tBM,zb6,tyV,zn,bB,bb,bd,bj,ah,V.ref.injEq,bp,and_true,true_and,and_assoc,am,br,bx]
   rcases zhb st with ⟨l,a,b,rfl⟩ | z
   ·obtain⟨x,rfl,hx⟩:∃x:Str,v=.str x/\x.length<=1000:=by
     rcases ok with ⟨j,rfl,_⟩ | h
     ·exact absurd c (by rw[show inV (V.int j) jw=ao from rfl];decide)
     ·exact h
    have e1:cr V.int (l ++ [a,b])=(l.map V.int ++ [.int a]) ++ [.int b]:=by simp
    rw[e1] at hst
    have one':=one.trans (zd8 c)
    have wa:=hW a (by simp)
    have wb:=hW b (by simp)
    refine⟨.inl ⟨_,SqL.of hst⟩,_,hst,_,QB,.inl ⟨_,SqL.of zf⟩,_,by rw[Y5];exact zf,_,QB,.inl ⟨_,SqL.of zf⟩,x,rfl,a,rfl,b,rfl,hx,wa,wb,λH2 s2=>?_⟩
    rw[Y5,Y5] at s2
    have S2:Same H H2:=(z6 (z6 hS hw) hw).trans s2
    cases e:vB x a b with
    | ok d =>
     rw[e] at one'
     have hd:inW d=ae:=by
      unfold vB at e
      split at e
      ·cases e
      ·split at e
       ·rename_i z;cases e;exact z
       ·cases e
     refine⟨_,s2 _ _ zf,?_,l ++ [d],⟨_,_,_,rfl⟩,one',?_,?_,?_,z6 S2 hw⟩
     ·rw[bu]
      have:(l ++ [a,b]).length=l.length + 2:=by simp
      exact bZ (by lia:l.length<=1000) (by decide)
     ·intro y hy
      rcases bF.mp hy with h | h
      ·exact hW y (cE _ h)
      ·have:y=d:=by simpa using h
       rw[this];exact hd
     ·have:(l ++ [a,b]).length=l.length + 2:=by simp
      rw[bt];show l.length + 1<=i + 1
      lia
     ·rw[cQ];exact zf
    | error er =>
     rw[e] at one'
     have:=fe (zbp one') S2
     cases er with
     | nought=>exact this
     | great=>exact this
     | stuck=>trivial
   ·exact absurd (zbp (one.trans (z kvs v c))) ns
  ·simp only[Zv,ka,ka,z7,v5,yT,zc,tC,zb,zi,tB,tIf,tCB,tBM,tyV,YN,bb,bd,bj,ah,V.ref.injEq,V.bl.injEq,V.ty.injEq,bp,and_true,true_and,and_assoc,am]
   have st1:ww kvs st v=.ok (st ++ [zar kvs v]):=by
    unfold ww
    rw[ak (by unfold isJ;exact c)]
   have one':=one.trans st1
   have hwv:=KM h6 ok
   have fin1:∀u,u=V.int (zar kvs v)->rkI kvs ps tm sl w H (i + 1) [aa (V.ref tm),aa (V.ref sl),aa (V.ref w),aa v,o4,o5] (upd H' w (HO.lst (cr V.int st ++ [u]))):=λu hu=>by
    subst hu
    refine⟨st ++ [zar kvs v],⟨_,_,_,rfl⟩,one',?_,?_,?_,z6 hS hw⟩
    ·intro y hy
     rcases bF.mp hy with h | h
     ·exact hW y h
     ·have:y=zar kvs v:=by simpa using h
      rw[this];exact hwv
    ·rw[bt];show st.length + 1<=i + 1
     lia
    ·rw[cQ];exact zf
   have sz:(cr V.int st).length < sizeLine:=by
    rw[bu]
    exact bZ (by lia:st.length<=1000) (by decide)
   refine⟨.inl ⟨_,SqL.of hst⟩,?_⟩
   rcases ok with ⟨j,rfl,hj⟩ | ⟨x,rfl,hx⟩
   ·refine⟨_,.int j,ao,hK,?_⟩
    rw[ak (by decide)]
    exact⟨_,hst,sz,fin1 _ rfl⟩
   ·refine⟨_,.str x,ae,vW _,?_⟩
    rw[ap rfl]
    refine⟨.inl ⟨kvs,.inl (hS _ _ h2)⟩,_,DGet.k (k:=.inr x) (hS _ _ h2),_,hst,sz,fin1 _ ?_⟩
    show (yH kvs (.inr x)).getD (V.int 0)=V.int (match yH kvs (.inr x) with | some (.int i)=>i | _=>0)
    cases e:yH kvs (.inr x) with
    | none=>rfl
    | some u =>
     obtain⟨i,rfl,_⟩:=h6 _ _ e
     rfl
 ·rintro σ H' ⟨st,⟨o3,o4,o5,rfl⟩,hr,hW,hl,hst,hS⟩
  rw[dY] at hr
  simp only[bb,bd,bj,ah,V.ref.injEq]
  rw[hr] at run0
  cases r with
  | error e=>cases run0
  | ok i =>
   have e:st=[i]:=by injection run0
   subst e
   exact⟨.inl ⟨_,SqL.of hst⟩,_,hst,_,rfl,q _ (z6 hS hw)⟩
theorem Y6{a:ag}{ns:List Int}{k:Nat}(hS:SqL K H a (ns.map V.int))(hl:ns.length<=63)(q:∀c H',Same H H'->Q (.int c) H') :
  vy K t { nx:=λ_ H'=>Q .non H',rt:=Q } (L2.start ["script","k"] [.ref a,.int k]) H:=by
 simp only[vy,L2.start,zo,zB,zH,tOp,zc,tC,zb,zi,zS,zA,tCB,Zn,y6,rI0,xy,cr,bG,bJ,bB,bb,bd,bj,ah,V.int.injEq,V.ref.injEq,V.bl.injEq,bp,and_true,am,bU,bL,decide_eq_true_eq]
 refine⟨_,.inl ⟨_,hS,rfl⟩,xo (λc=>?_) λ_=>q _ _ (Same.refl H)⟩
 obtain⟨v,hv,hm⟩:=zbF (xs:=ns.map V.int) (i:=(k:Int)) (by lia) c
 obtain⟨i,_,rfl⟩:=cj.mp hm
 exact⟨_,hS,_,hv,q _ _ (Same.refl H)⟩
theorem wU(c:Nat):({ cps:=#[c] }:Str).length=1:=rfl
theorem zD{H H':Hp}(s:Same H H')(h:H' D=ai):H D=ai:=by
 cases e:H D with
 | none=>rfl
 | some o=>rw[s _ _ e] at h;cases h
theorem WS{H1:Hp}(h:H1 R=aa o)(hb:H1 b=ai):b≠R:=λz=>by rw[z,h] at hb;cases hb
theorem fin_err{Q:VK}{E:XK}{H:Hp}:fin t (.error e) Q E H↔XI t e E H:=by cases e <;> rfl
theorem fin_ok{i:Int}{Q:VK}{E:XK}{H:Hp}:fin t (.ok i) Q E H↔Q (.int i) H:=Iff.rfl
theorem zd9{F:ag->Prop}(h:RwAt F H v r)(d:vi r):∃p xs hd,v=.ref p/\H p=aa (.tup xs)/\atI xs 0=aa (.str hd)/\hd≠"off"/\hd≠"if":=by
 cases r with
 | take sh e sl =>
  unfold RwAt at h
  obtain⟨r,te,rfl,_,_,e2,e3⟩:=h
  exact⟨r,_,_,rfl,e2,rfl,by decide +kernel,by decide +kernel⟩
 | give sh e f =>
  unfold RwAt at h
  obtain⟨r,te,tf,rfl,_,_,_,e2,e3⟩:=h
  exact⟨r,_,_,rfl,e2,rfl,by decide +kernel,by decide +kernel⟩
 | lt sl e =>
  unfold RwAt at h
  obtain⟨r,te,rfl,_,_,e2,e3⟩:=h
  exact⟨r,_,_,rfl,e2,rfl,by decide +kernel,by decide +kernel⟩
 | say e =>
  unfold RwAt at h
  obtain⟨r,te,rfl,_,_,e2,e3⟩:=h
  exact⟨r,_,_,rfl,e2,rfl,by decide +kernel,by decide +kernel⟩
 | off e=>exact d.elim
 | iff e a b=>exact d.elim
theorem Vy{c j:Int}(h1:0<=j)(h2:j<=1000)(q:∀r H',0<=r->r < 2147483648->Same H H'->Q (.int r) H') :
  kG K t { nx:=λ_ H'=>Q .non H',rt:=Q } (L2.start ["cell","j","far"] [.int c,.int j]) H:=by
 simp only[kG,L2.start,zo,zJ,zm,zB,tOp,zc,tC,rI,rI0,cr,bG,bJ,bP,b8,bb,bd,bj,ah,V.int.injEq,am,br,bx,bU,bL]
 have hb:(10000000000000000000000000000000000000000000000:Int) < big:=by decide +kernel
 have g1:=cL c (b:=1000000007) (by decide)
 have g2:=cD c (b:=1000000007) (by decide)
 generalize c % 1000000007=a at *
 have g3:=cL (a * 6700417 + (j + 1) * 104729 * 65537) (b:=1000000009) (by decide)
 have g4:=cD (a * 6700417 + (j + 1) * 104729 * 65537) (b:=1000000009) (by decide)
 generalize hf:(a * 6700417 + (j + 1) * 104729 * 65537) % 1000000009=f at *
 have g5:=cL (f * f) (b:=1000000009) (by decide)
 have g6:=cD (f * f) (b:=1000000009) (by decide)
 generalize hg:f * f % 1000000009=g at *
 have g7:=cL (g * f) (b:=1000000009) (by decide)
 have g8:=cD (g * f) (b:=1000000009) (by decide)
 refine⟨by decide,⟨⟨by lia,by lia⟩,by lia,by lia⟩,⟨⟨by lia,by lia⟩,by lia,by lia⟩,⟨⟨by lia,by lia⟩,by lia,by lia⟩,by decide,?_⟩
 refine⟨⟨⟨by lia,by lia⟩,by lia,by lia⟩,by decide,⟨⟨by lia,by lia⟩,by lia,by lia⟩,by decide,dB,q _ _ ?_ ?_ (Same.refl H)⟩
 ·exact lF g7 (by decide)
 ·lia
theorem CsAt.same{H H':Hp}(h:CsAt H v c)(s:Same H H'):CsAt H' v c:=by
 cases c with
 | row r=>exact⟨h.1.mono s,h.2⟩
 | skip e to =>
  obtain⟨p,te,h1,h2,h3⟩:=h
  exact⟨p,te,h1,s _ _ h2,s _ _ h3⟩
 | go en =>
  obtain⟨p,h1,h2⟩:=h
  exact⟨p,h1,s _ _ h2⟩
theorem xQ{H H':Hp}(s:Same H H'):∀ {xs:List V} {C:List Cs},Paired (CsAt H) xs C->Paired (CsAt H') xs C
 | _,_,.nil=>.nil
 | _,_,.cons h r=>.cons (h.same s) (xQ s r)
def TSm(H H':Hp):Prop:=∀b ys,H b=aa (.tup ys)->H' b=aa (.tup ys)
theorem CsAt.ts{H H':Hp}(s:TSm H H')(h:CsAt H v c):CsAt H' v c:=by
 cases c with
 | row r =>
  obtain⟨h,n⟩:=h
  refine⟨?_,n⟩
  cases r with
  | iff e a b=>exact n.elim
  | take sh e sl =>
   obtain⟨r,te,a1,a2,a3,a4,a5⟩:=h
   exact⟨r,te,a1,a2,a3,s _ _ a4,s _ _ a5⟩
  | give sh e f =>
   obtain⟨r,te,tf,a1,a2,a3,a4,a5,a6,a7⟩:=h
   exact⟨r,te,tf,a1,a2,a3,a4,s _ _ a5,s _ _ a6,s _ _ a7⟩
  | lt sl e =>
   obtain⟨r,te,a1,a2,a3,a4,a5⟩:=h
   exact⟨r,te,a1,a2,a3,s _ _ a4,s _ _ a5⟩
  | say e =>
   obtain⟨r,te,a1,a2,a3,a4,a5⟩:=h
   exact⟨r,te,a1,a2,a3,s _ _ a4,s _ _ a5⟩
  | off e =>
   obtain⟨r,te,a1,a2,a3,a4,a5⟩:=h
   exact⟨r,te,a1,a2,a3,s _ _ a4,s _ _ a5⟩
 | skip e to =>
  obtain⟨p,te,h1,h2,h3⟩:=h
  exact⟨p,te,h1,s _ _ h2,s _ _ h3⟩
 | go en =>
  obtain⟨p,h1,h2⟩:=h
  exact⟨p,h1,s _ _ h2⟩
theorem jF{H H':Hp}(s:TSm H H'):∀ {xs:List V} {C:List Cs},Paired (CsAt H) xs C->Paired (CsAt H') xs C
 | _,_,.nil=>.nil
 | _,_,.cons h r=>.cons (h.ts s) (jF s r)
theorem zbG(x:Rw):(∃e a b,x=.iff e a b)\/JY x:=by
 cases x with
 | iff e a b=>exact .inl ⟨e,a,b,rfl⟩
 | _=>exact .inr trivial
theorem vM(h:JY x)(k:Nat):yB x k=[.row x]:=by
 cases x with
 | iff e a b=>exact h.elim
 | _=>rw[yB];intro e a b z;cases z
theorem zfM{F:ag->Prop}(h:RwAt F H v r):∃p xs hd,v=.ref p/\H p=aa (.tup xs)/\atI xs 0=aa (.str hd)/\(hd="if"↔¬ JY r):=by
 cases r with
 | take sh e sl =>
  unfold RwAt at h
  obtain⟨r,te,rfl,_,_,e2,e3⟩:=h
  exact⟨r,_,_,rfl,e2,rfl,⟨λz=>absurd z (by decide +kernel),λz=>absurd trivial z⟩⟩
 | give sh e f =>
  unfold RwAt at h
  obtain⟨r,te,tf,rfl,_,_,_,e2,e3⟩:=h
  exact⟨r,_,_,rfl,e2,rfl,⟨λz=>absurd z (by decide +kernel),λz=>absurd trivial z⟩⟩
 | lt sl e =>
  unfold RwAt at h
  obtain⟨r,te,rfl,_,_,e2,e3⟩:=h
  exact⟨r,_,_,rfl,e2,rfl,⟨λz=>absurd z (by decide +kernel),λz=>absurd trivial z⟩⟩
 | say e =>
  unfold RwAt at h
  obtain⟨r,te,rfl,_,_,e2,e3⟩:=h
  exact⟨r,_,_,rfl,e2,rfl,⟨λz=>absurd z (by decide +kernel),λz=>absurd trivial z⟩⟩
 | off e =>
  unfold RwAt at h
  obtain⟨r,te,rfl,_,_,e2,e3⟩:=h
  exact⟨r,_,_,rfl,e2,rfl,⟨λz=>absurd z (by decide +kernel),λz=>absurd trivial z⟩⟩
 | iff e a b =>
  unfold RwAt at h
  obtain⟨r,te,la,lb,xs,ys,rfl,f1,f2,f3,f4,e2,e3⟩:=h
  exact⟨r,_,_,rfl,e2,rfl,⟨λ_ z=>z,λ_=>rfl⟩⟩
theorem Paired.app2{α β:Type}{F:α->β->Prop}:∀ {a:List α} {b:List β} {c:List α} {d:List β},Paired F a b->Paired F c d->Paired F (a ++ c) (b ++ d)
 | _,_,_,_,.nil,h=>h
 | _,_,_,_,.cons h r,h2=>.cons h (Paired.app2 r h2)
theorem QC{v:V}{r:Rws}(h1:RlAt w6 H v r)(h2:Zo 6 r)(h3:(zt r 0).length<=500)(q:∀l xs H',Same H H'->H l=ai->H' l=aa (.lst xs)->Paired (CsAt H') xs (zt r 0)->Q (.ref l) H') :
  Z2 K t { nx:=λ_ H'=>Q .non H',rt:=Q } (L2.start ["rows"] [v]) H:=by
 simp only[Z2,xv,L2.start,zB,zc,tC,zb,zi,zn,cr,bG,bJ,bB,bb,bj,ah,V.int.injEq,bp,and_true,and_assoc,am,bU,bL]
 exact⟨r,0,rfl,h1,h2,by lia,q⟩
def sfI(v:V)(L:ag)(xs:List V)(k n:Nat)(r:Rws)(H:Hp)(i:Nat)(σ:St)(H':Hp):Prop:=∃(rest:Rws) (ys:List V) (C:List Cs),(∃o,σ=[aa v,aa (.int k),aa (.ref L),o])/\Same H H'/\H' L=aa (.lst ys)/\Paired (CsAt H') ys C/\RwsAt w6 H (xs.drop i) rest/\Zo (n + 1) rest/\C ++ zt rest (k + C.length)=zt r k
theorem WT{H:Hp}(h:H L=aa (.lst ys)):TSm H (upd H L (.lst zs)):=λb us e=>by rw[zl (yp e h (λz=>nomatch z))];exact e
theorem J5{v:V}{r:Rws}{k n:Nat}(h1:RlAt w6 H v r)(h2:Zo (n + 1) r)(h3:k + (zt r k).length<=500)(q:∀l xs H',Same H H'->H l=ai->H' l=aa (.lst xs)->Paired (CsAt H') xs (zt r k)->Q (.ref l) H') :
  Xu K t n { nx:=λ_ H'=>Q .non H',rt:=Q } (L2.start ["rows","first","steps","row"] [v,.int k]) H:=by
 obtain⟨p,xs,rfl,_,hp,hx⟩:=h1
 refine⟨cp _,λL hL=>?_⟩
 have s0:=isV (o:=HO.lst []) L hL
 refine⟨_,rfl,p,rfl,⟨_,SqL.of (s0 _ _ hp)⟩,?_⟩
 refine xg xs (sfI (.ref p) L xs k n r H) ⟨r,[],[],⟨_,rfl⟩,s0,zf,.nil,by rw[du];exact hx,h2,rfl⟩ (λi σ H' ⟨_,_,_,_,s,_⟩=>SqL.of (s _ _ hp)) ?_ ?_
 ·rintro i u σ H' hu ⟨rest,ys,C,⟨o,rfl⟩,s,hy,pr,hr,ok,eq⟩
  obtain⟨x,rs,rfl,rx,rr⟩:=hr.get hu
  have e0:zt (.cons x rs) (k + C.length)=yB x (k + C.length) ++ zt rs (k + C.length + (yB x (k + C.length)).length):=by rw[zt]
  rw[e0] at eq
  have okd:=ok.dp
  have c1:(Rws.cons x rs).deep=max x.deep rs.deep:=by rw[Rws.deep]
  rw[c1] at okd
  have okc:=ok.ct
  have c2:(Rws.cons x rs).cnt=x.cnt + rs.cnt:=by rw[Rws.cnt]
  rw[c2] at okc
  have okp:=ok.pl
  unfold x0 at okp
  have le:=congrArg bJ eq
  rw[bt,bt] at le
  have ly:=bM pr
  have nx:∀ {H2:Hp} {o':Option V} {zs:List V},Same H H2->H2 L=aa (.lst zs)->Paired (CsAt H2) zs (C ++ yB x (k + C.length))->sfI (.ref p) L xs k n r H (i + 1) [aa (.ref p),aa (.int k),aa (.ref L),o'] H2:=λ{H2 o' zs} s2 g2 p2 =>
   ⟨rs,zs,_,⟨_,rfl⟩,s2,g2,p2,rr,⟨by lia,by lia,okp.2⟩,by rw[cb,bt,<-iT];exact eq⟩
  obtain⟨p1,fs,hd,rfl,e2,e3,e4⟩:=zfM rx
  refine xE rfl (s _ _ e2) e3 (λez=>?_) λez=>?_
  ·rcases zbG x with ⟨e,a,b,rfl⟩ | hni
   rotate_left
   ·exact absurd hni (e4.mp ez)
   have d1:(Rw.iff e a b).deep=max a.deep b.deep + 1:=by rw[Rw.deep]
   have d2:(Rw.iff e a b).cnt=max a.cnt b.cnt + 1:=by rw[Rw.cnt]
   rw[d1] at okd
   rw[d2] at okc
   have pl:=okp.1
   unfold WI at pl
   refine⟨_,rfl,.inl ⟨rfl,_,SqL.of hy⟩,_,rfl,_,rfl,zd4 rfl hy ⟨_,_,rfl,rfl,_,e,a,b,k + C.length,by rw[<-ly];rfl,rx.mono s,⟨by lia,by lia,pl.2.1⟩,⟨by lia,by lia,pl.2.2⟩,by lia,λl us H2 s2 hl pu=>?_⟩⟩
   have lu:=bM pu
   refine⟨L,_,ys,us,rfl,rfl,s2 _ _ hy,hl,bR (by lia:ys.length + us.length<=1000) (by decide),?_⟩
   exact nx (z6 (s.trans s2) hL) zf (jF (WT (s2 _ _ hy)) (Paired.app2 (xQ s2 pr) pu))
  ·have hni:JY x:=by
    rcases zbG x with ⟨e,a,b,rfl⟩ | hni
    ·exact absurd (e4.mpr (λz=>z)) ez
    ·exact hni
   have ec:=vM hni (k + C.length)
   rw[ec] at nx
   refine⟨_,rfl,.inl ⟨rfl,_,SqL.of hy⟩,_,rfl,L,ys,_,rfl,rfl,hy,bZ (by lia:ys.length<=900) (by decide),?_⟩
   exact nx (z6 s hL) zf (Paired.snocP (jF (WT hy) pr) (CsAt.ts (WT hy) ⟨rx.mono s,hni⟩))
 ·rintro σ H' ⟨rest,ys,C,⟨o,rfl⟩,s,hy,pr,hr,ok,eq⟩
  have e:=hr.none
  subst e
  rw[show zt .nil (k + C.length)=[] by rw[zt],bB] at eq
  rw[eq] at pr
  exact⟨_,rfl,q L ys H' s hL hy pr⟩
theorem Vz{H H':Hp}(e:upd H a o=H')(h:H a=ai):Same H H'/\H' a=aa o:=⟨e ▸ isV a h,e ▸ zf⟩
theorem XT{v:V}{e:List V}{a b:Rws}{k n:Nat}(h1:RwAt w6 H v (.iff e a b))(h2:Zo n a)(h3:Zo n b)(h4:k + (yB (.iff e a b) k).length<=500)(q:∀l xs H',Same H H'->H' l=aa (.lst xs)->Paired (CsAt H') xs (yB (.iff e a b) k)->Q (.ref l) H') :
  qP K t n { nx:=λ_ H'=>Q .non H',rt:=Q } (L2.start ["row","at","steps","to","others"] [v,.int k]) H:=by
 unfold RwAt at h1
 obtain⟨p,te,la,lb,xs,ys,rfl,f1,f2,f3,f4,e2,e3,e4,e6,e5,e7⟩:=h1
 have ec:yB (.iff e a b) k=blk e k (zt a (k + 1)) (Rws.isNil b) (zt b (k + 2 + (zt a (k + 1)).length)):=by rw[yB]
 rw[ec] at h4 q
 refine qb rfl e2 rfl ⟨_,rfl,_,_,rfl,rfl,.ref la,a,k + 1,rfl,⟨la,xs,rfl,f3,e4,e6⟩,h2,?_,λl us H1 s1 fl hl pu=>?_⟩
 ·unfold blk at h4;split at h4 <;> simp only[cA,bt] at h4 <;> lia
 have lu:=bM pu
 generalize zt a (k + 1)=A at *
 refine⟨_,rfl,_,_,rfl,rfl,zd4 rfl hl ⟨_,_,rfl,rfl,?_⟩⟩
 have ei:(k:Int) + 1 + us.length=((k + 1 + A.length:Nat):Int):=by lia
 show jP K t n _ [aa (.ref p),aa (.int k),aa (.ref l),aa (.int ((k:Int) + 1 + us.length)),ai] H1
 rw[ei]
 refine qb rfl (s1 _ _ e2) rfl ⟨cp _,λz gz=>?_⟩
 generalize f0:upd H1 z _=H2
 obtain⟨s2,hz⟩:=Vz f0 gz
 have S2:=s1.trans s2
 refine⟨lb,z,ys,rfl,rfl,SqL.of (S2 _ _ e5),SqL.of hz,_,rfl,?_⟩
 have nb:Rws.isNil b=decide (ys=[]):=by
  cases b with
  | nil=>unfold RwsAt at e7;simp[Rws.isNil,e7]
  | cons x r=>unfold RwsAt at e7;obtain⟨v,vs,rfl,_⟩:=e7;simp[Rws.isNil]
 have hl2:=s2 _ _ hl
 have pu2:=xQ s2 pu
 show if _ then _ else _
 by_cases hb:ys=[]
 ·rw[ap (decide_eq_true hb)]
  have eb:∀B,blk e k A (Rws.isNil b) B=.skip e (k + 1 + A.length) :: A:=λB=>by unfold blk;rw[ap (by rw[nb];exact decide_eq_true hb)]
  rw[eb] at q h4
  rw[cA] at h4
  refine qb rfl (S2 _ _ e2) rfl ⟨_,rfl,by show (3:Nat)<=sizeLine;decide,λp1 g1=>?_⟩
  generalize c1:upd H2 p1 _=H3
  obtain⟨t1,hp1⟩:=Vz c1 g1
  refine⟨by show (1:Nat)<=sizeLine;decide,λp2 g2=>?_⟩
  generalize c2:upd H3 p2 _=H4
  obtain⟨t2,hp2⟩:=Vz c2 g2
  have T:=t1.trans t2
  refine⟨_,rfl,_,_,_,us,rfl,rfl,hp2,T _ _ hl2,bR (by show 1 + us.length<=1000;lia) (by decide),λp3 g3=>?_⟩
  have t3:=isV (o:=HO.lst ([V.ref p1] ++ us)) p3 g3
  exact q p3 ([V.ref p1] ++ us) _ (S2.trans (T.trans t3)) zf (.cons ⟨p1,te,rfl,(t2.trans t3) _ _ hp1,(S2.trans (T.trans t3)) _ _ e3⟩ (xQ (T.trans t3) pu2))
 ·rw[ak (by rw[decide_eq_true_eq];exact hb)]
  have eb:∀B,blk e k A (Rws.isNil b) B=.skip e (k + 2 + A.length) :: (A ++ (.go (k + 2 + A.length + B.length) :: B)):=λB=>by unfold blk;rw[ak (by rw[nb];simpa using hb)]
  rw[eb] at q h4
  rw[cA,bt,cA] at h4
  have ej:((k + 1 + A.length:Nat):Int) + 1=((k + 2 + A.length:Nat):Int):=by lia
  refine qb rfl (S2 _ _ e2) rfl ⟨_,rfl,_,_,rfl,rfl,.ref lb,b,k + 2 + A.length,?_,⟨lb,ys,rfl,f4,S2 _ _ e5,e7.mono S2⟩,h3,by lia,λl2 ws H3 s3 fl2 hl3 pw=>?_⟩
  ·show [V.ref lb,V.int (((k + 1 + A.length:Nat):Int) + 1)]=_
   rw[ej]
  have lw:=bM pw
  generalize zt b (k + 2 + A.length)=B at *
  have S3:=S2.trans s3
  refine qb rfl (S3 _ _ e2) rfl ⟨_,rfl,_,_,rfl,rfl,by show (3:Nat)<=sizeLine;decide,λp1 g1=>?_⟩
  generalize c1:upd H3 p1 _=H4
  obtain⟨t1,hp1⟩:=Vz c1 g1
  have hp1:H4 p1=aa (.tup [.str (bg "skip"),.ref te,.int ((k + 2 + A.length:Nat):Int)]):=by rw[<-ej];exact hp1
  refine⟨by show (1:Nat)<=sizeLine;decide,λp2 g2=>?_⟩
  generalize c2:upd H4 p2 _=H5
  obtain⟨t2,hp2⟩:=Vz c2 g2
  have T2:=t1.trans t2
  refine⟨_,rfl,_,_,_,us,rfl,rfl,hp2,(s3.trans T2) _ _ hl2,bR (by show 1 + us.length<=1000;lia) (by decide),λp3 g3=>?_⟩
  generalize c3:upd H5 p3 _=H6
  obtain⟨t3,hp3⟩:=Vz c3 g3
  have T3:=T2.trans t3
  refine⟨_,rfl,_,_,rfl,rfl,zd4 rfl (T3 _ _ hl3) ⟨_,_,rfl,rfl,by show (2:Nat)<=sizeLine;decide,λp4 g4=>?_⟩⟩
  generalize c4:upd H6 p4 _=H7
  obtain⟨t4,hp4⟩:=Vz c4 g4
  have eg:((k + 1 + A.length:Nat):Int) + 1 + ws.length=((k + 2 + A.length + B.length:Nat):Int):=by lia
  have hp4:H7 p4=aa (.tup [.str (bg "go"),.int ((k + 2 + A.length + B.length:Nat):Int)]):=by rw[<-eg];exact hp4
  refine⟨by show (1:Nat)<=sizeLine;decide,λp5 g5=>?_⟩
  generalize c5:upd H7 p5 _=H8
  obtain⟨t5,hp5⟩:=Vz c5 g5
  refine⟨_,_,_,_,rfl,rfl,(t4.trans t5) _ _ hp3,hp5,bR (by show ([V.ref p1] ++ us).length + 1<=1000;rw[bt,dE];lia) (by decide),λp6 g6=>?_⟩
  generalize c6:upd H8 p6 _=H9
  obtain⟨t6,hp6⟩:=Vz c6 g6
  have T6:=t4.trans (t5.trans t6)
  refine⟨_,rfl,_,_,_,ws,rfl,rfl,hp6,(T3.trans T6) _ _ hl3,bR (by rw[bt,bt,dE,dE];lia:_<=1000) (by decide),λp7 g7=>?_⟩
  generalize c7:upd H9 p7 _=H10
  obtain⟨t7,hp7⟩:=Vz c7 g7
  have T7:=T6.trans t7
  have U:=T3.trans T7
  have el:[V.ref p1] ++ us ++ [V.ref p4] ++ ws=V.ref p1 :: (us ++ (V.ref p4 :: ws)):=by simp
  refine q p7 ([V.ref p1] ++ us ++ [V.ref p4] ++ ws) _ (S3.trans U) hp7 ?_
  rw[el]
  exact .cons ⟨p1,te,rfl,(t2.trans (t3.trans T7)) _ _ hp1,(S3.trans U) _ _ e3⟩ (Paired.app2 (xQ (s3.trans U) pu2) (.cons ⟨p4,rfl,(t5.trans (t6.trans t7)) _ _ hp4⟩ (xQ U pw)))
theorem Yy{H:Hp}{Q:VK}{E:XK}(h:xv 0 vs H Q E):False:=by
 obtain⟨v,r,k,e,h1,h2,h3⟩:=h
 have:=h2.dp
 lia
theorem rnF{P:Str->Option af}(T:Txt K P t):RnF K t:=⟨T.cl_Run,T.na_Run_code,T.na_Run_at,T.na_Run_why,T.na_Run_slots,T.na_Run_gifts,T.na_Run_notes,T.na_Run_sayings⟩
section
variable {x:ag}{a:RAd}{C:List Cs}{s:RSt}
theorem RnAt.notup(R:RnAt t H x a C s)(h:H b=aa (.tup zs)):¬ Ow x a b:=by
 rintro(rfl | rfl | rfl | rfl | rfl)
 ·rw[R.ix] at h;cases h
 ·rw[R.hs] at h;cases h
 ·rw[R.hg] at h;cases h
 ·rw[R.hn] at h;cases h
 ·rw[R.ha] at h;cases h
theorem RnAt.ts{H':Hp}(R:RnAt t H x a C s)(k:Kp x a H H'):TSm H H':=λb ys e=>k b _ (R.notup e) e
theorem Kp.of_same{H':Hp}(s:Same H H'):Kp x a H H':=λb o _ e=>s b o e
theorem Kp.trans{H' H'':Hp}(h:Kp x a H H')(k:Kp x a H' H''):Kp x a H H'':=λb o n e=>k b o n (h b o n e)
theorem wN(h:Ow x a b):Kp x a H (upd H b o):=λc o' n e=>by rw[zl (λz=>n (by rw[z];exact h))];exact e
theorem RnAt.same{H':Hp}(R:RnAt t H x a C s)(k:Same H H'):RnAt t H' x a C s :=
 ⟨k _ _ R.ix,let ⟨xs,h1,h2⟩:=R.hc;⟨xs,k _ _ h1,xQ k h2⟩,k _ _ R.hs,k _ _ R.hg,k _ _ R.hn,k _ _ R.ha,R.ng,R.nc⟩
theorem RnAt.putI(R:RnAt t H x a C s)(s':RSt)(e1:s'.sl=s.sl)(e2:s'.gi=s.gi)(e3:s'.no=s.no)(e4:s'.sa=s.sa):RnAt t (upd H x (.ins t.c_Run a.dx (zh4 a s'))) x a C s':=by
 refine⟨zf,?_,?_,?_,?_,?_,R.ng,R.nc⟩
 ·obtain⟨xs,h1,h2⟩:=R.hc
  exact⟨xs,by rw[zl (yp h1 R.ix (λz=>nomatch z))];exact h1,jF (R.ts (wN (.inl rfl))) h2⟩
 ·rw[zl (yp R.hs R.ix (λz=>nomatch z)),e1];exact R.hs
 ·rw[zl (yp R.hg R.ix (λz=>nomatch z)),e2];exact R.hg
 ·rw[zl (yp R.hn R.ix (λz=>nomatch z)),e3];exact R.hn
 ·rw[zl (yp R.ha R.ix (λz=>nomatch z)),e4];exact R.ha
theorem RnAt.putS(R:RnAt t H x a C s)(kvs:List (Key × V)):RnAt t (upd H a.sl (.dK kvs)) x a C { s with sl:=kvs }:=by
 refine⟨by rw[zl (yp R.ix R.hs (λz=>nomatch z))];exact R.ix,?_,zf,?_,?_,?_,R.ng,R.nc⟩
 ·obtain⟨xs,h1,h2⟩:=R.hc
  exact⟨xs,by rw[zl (yp h1 R.hs (λz=>nomatch z))];exact h1,jF (R.ts (wN (.inr (.inl rfl)))) h2⟩
 ·rw[zl (yp R.hg R.hs (λz=>nomatch z))];exact R.hg
 ·rw[zl (yp R.hn R.hs (λz=>nomatch z))];exact R.hn
 ·rw[zl (yp R.ha R.hs (λz=>nomatch z))];exact R.ha
theorem RnAt.putG(R:RnAt t H x a C s)(rows:List Row):RnAt t (upd H a.gi (.dT (dOf rows))) x a C { s with gi:=rows }:=by
 refine⟨by rw[zl (yp R.ix R.hg (λz=>nomatch z))];exact R.ix,?_,?_,zf,?_,?_,R.ng,R.nc⟩
 ·obtain⟨xs,h1,h2⟩:=R.hc
  exact⟨xs,by rw[zl (yp h1 R.hg (λz=>nomatch z))];exact h1,jF (R.ts (wN (.inr (.inr (.inl rfl))))) h2⟩
 ·rw[zl (yp R.hs R.hg (λz=>nomatch z))];exact R.hs
 ·rw[zl (cH R.ng)];exact R.hn
 ·rw[zl (yp R.ha R.hg (λz=>nomatch z))];exact R.ha
theorem RnAt.putO(R:RnAt t H x a C s)(rows:List Row):RnAt t (upd H a.no (.dT (dOf rows))) x a C { s with no:=rows }:=by
 refine⟨by rw[zl (yp R.ix R.hn (λz=>nomatch z))];exact R.ix,?_,?_,?_,zf,?_,R.ng,R.nc⟩
 ·obtain⟨xs,h1,h2⟩:=R.hc
  exact⟨xs,by rw[zl (yp h1 R.hn (λz=>nomatch z))];exact h1,jF (R.ts (wN (.inr (.inr (.inr (.inl rfl)))))) h2⟩
 ·rw[zl (yp R.hs R.hn (λz=>nomatch z))];exact R.hs
 ·rw[zl R.ng];exact R.hg
 ·rw[zl (yp R.ha R.hn (λz=>nomatch z))];exact R.ha
theorem RnAt.putA(R:RnAt t H x a C s)(is:List Int):RnAt t (upd H a.sa (.lst (is.map V.int))) x a C { s with sa:=is }:=by
 refine⟨by rw[zl (yp R.ix R.ha (λz=>nomatch z))];exact R.ix,?_,?_,?_,?_,zf,R.ng,R.nc⟩
 ·obtain⟨xs,h1,h2⟩:=R.hc
  exact⟨xs,by rw[zl R.nc];exact h1,jF (R.ts (wN (.inr (.inr (.inr (.inr rfl)))))) h2⟩
 ·rw[zl (yp R.hs R.ha (λz=>nomatch z))];exact R.hs
 ·rw[zl (yp R.hg R.ha (λz=>nomatch z))];exact R.hg
 ·rw[zl (yp R.hn R.ha (λz=>nomatch z))];exact R.hn
end
theorem Yz(h:¬ yh C s=ae):s.n < C.length:=by
 unfold yh at h
 simp only[lG,decide_eq_true_eq,not_or] at h
 lia
theorem zaP(rows:List Row)(p:Pl)(w:Int):zq (rows ++ [(p,w)]) p=aa w:=by
 have h:=xM (rows ++ [(p,w)]) p
 rw[jN,jJ,ap rfl] at h
 cases hl:zq (rows ++ [(p,w)]) p with
 | none=>rw[hl] at h;cases h
 | some i=>rw[hl] at h;cases h;rfl
theorem zhc(h:CsAt H v c):∃p zs hd,v=.ref p/\H p=aa (.tup zs)/\atI zs 0=aa (.str hd)/\(hd=bg "take"->∃sh e x te,c=.row (.take sh e x)/\atI zs 1=aa (.str sh)/\atI zs 2=aa (.ref te)/\H te=aa (.tup e))/\(hd≠bg "take"->∀s,wx c s=ai):=by
 cases c with
 | row r =>
  have h1:=h.1
  cases r with
  | take sh e sl=>unfold RwAt at h1;obtain⟨r,te,rfl,_,_,e2,e3⟩:=h1;exact⟨r,_,_,rfl,e2,rfl,λ_=>⟨sh,e,sl,te,rfl,rfl,rfl,e3⟩,λz=>absurd rfl z⟩
  | give sh e f=>unfold RwAt at h1;obtain⟨r,te,tf,rfl,_,_,_,e2,e3⟩:=h1;exact⟨r,_,_,rfl,e2,rfl,λz=>absurd z (by decide +kernel),λ_ _=>rfl⟩
  | lt sl e=>unfold RwAt at h1;obtain⟨r,te,rfl,_,_,e2,e3⟩:=h1;exact⟨r,_,_,rfl,e2,rfl,λz=>absurd z (by decide +kernel),λ_ _=>rfl⟩
  | say e=>unfold RwAt at h1;obtain⟨r,te,rfl,_,_,e2,e3⟩:=h1;exact⟨r,_,_,rfl,e2,rfl,λz=>absurd z (by decide +kernel),λ_ _=>rfl⟩
  | off e=>unfold RwAt at h1;obtain⟨r,te,rfl,_,_,e2,e3⟩:=h1;exact⟨r,_,_,rfl,e2,rfl,λz=>absurd z (by decide +kernel),λ_ _=>rfl⟩
  | iff e b d=>exact(h.2:False).elim
 | skip e to=>obtain⟨p,te,e1,e2,_⟩:=h;exact⟨p,_,_,e1,e2,rfl,λz=>absurd z (by decide +kernel),λ_ _=>rfl⟩
 | go en=>obtain⟨p,e1,e2⟩:=h;exact⟨p,_,_,e1,e2,rfl,λz=>absurd z (by decide +kernel),λ_ _=>rfl⟩
theorem zhd{κ:Type} [DecidableEq κ]{kvs:List (κ × V)}{k:κ}(h:k ∉ kvs.map (·.1)):yH kvs k=ai:=by
 cases e:yH kvs k with
 | none=>rfl
 | some v=>exact absurd (zbh e) h
theorem zbH:∀(gs:List Row) (kvs:List (List Key × V)),(∀r∈gs,zI r.1 ∉ kvs.map (·.1))->(gs.map (·.1)).Nodup->gs.foldl Yo kvs=kvs ++ gs.map λr=>(zI r.1,V.int r.2)
 | [],kvs,_,_=>by simp
 | r :: gs,kvs,h,nd=>by
  rw[b7,dk] at nd
  rw[eF,Yo,Wg _ (zhd (h r bC)),zbH gs _ (λq hq=>?_) nd.2,b7,cb,List.singleton_append]
  rw[cQ,List.mem_append,not_or]
  refine⟨h q (bE _ hq),λz=>nd.1 ?_⟩
  have z2:zI q.1=zI r.1:=by simpa using z
  rw[<-xz z2]
  exact dt hq
theorem zhe{gs:List Row}(nd:(gs.map (·.1)).Nodup):dOf gs=gs.map λr=>(zI r.1,V.int r.2):=by
 unfold dOf
 rw[zbH gs [] (λ_ _ h=>nomatch h) nd,b8]
theorem wp{H H':Hp}(s:Same H H'):∀ {ys:List V} {rows:List Row},Paired (PrAt H) ys rows->Paired (PrAt H') ys rows
 | _,_,.nil=>.nil
 | _,_,.cons ⟨r,p,e1,e2,e3⟩ t=>.cons ⟨r,p,e1,s _ _ e2,s _ _ e3⟩ (wp s t)
theorem ini{H HA:Hp}(A1:Xl x H HA)(A2:HA x=aa i)(h:HA sl=ai):x≠sl/\H sl=ai/\Xl x H (upd (upd HA sl o) x i')/\upd (upd HA sl o) x i' sl=aa o/\Xl x HA (upd (upd HA sl o) x i'):=by
 have n:x≠sl:=zG A2 h
 have S:Xl x HA (upd (upd HA sl o) x i'):=λb u nb e=>by rw[zl nb,zl (λz=>by rw[z,h] at e;cases e)];exact e
 refine⟨n,?_,λb u nb e=>S b u nb (A1 b u nb e),by rw[zl (cH n),zf],S⟩
 cases hs:H sl with
 | none=>rfl
 | some u=>rw[A1 sl u (cH n) hs] at h;cases h
section
variable {x:ag}{a:RAd}{C:List Cs}{s:RSt}{E:XK}
theorem J6(F:RnF K t)(R:RnAt t H x a C s)(q:∀H',Same H H'->Q (.bl (yh C s)) H') :
  qG K t { nx:=λ_ H'=>Q .non H',rt:=Q } (L2.start ["self"] [.ref x]) H:=by
 simp only[qG,yG,L2.start,zB,tOp,zc,tC,zb,zi,Q8,tCB,Zn,rI0,zbl,xy,cr,bG,bJ,bB,bb,bj,ah,V.int.injEq,V.ref.injEq,V.bl.injEq,bp,and_true,true_and,am,bU,bL,cB,decide_eq_false_iff_not]
 obtain⟨xs,hx,pr⟩:=R.hc
 have lx:=bM pr
 refine⟨_,_,_,R.ix,F.cl,F.n3,_,rfl,?_⟩
 cases hw:s.why with
 | some w =>
  rw[ap (λz=>nomatch z)]
  have e:yh C s=ae:=by unfold yh;rw[hw];rfl
  rw[e] at q
  exact q H λ_ _ z=>z
 | none =>
  rw[ak (λz=>z rfl)]
  refine⟨_,_,_,R.ix,F.cl,F.n2,_,rfl,_,_,_,R.ix,F.cl,F.n1,_,rfl,xs.length,.inl ⟨_,SqL.of hx,rfl⟩,_,rfl,?_⟩
  have e:yh C s=decide ((xs.length:Int)<=(s.n:Int)):=by unfold yh;rw[hw,lx];simp
  rw[<-e]
  exact q H λ_ _ z=>z
theorem Y7{tm:ag}{e:List V}(F:RnF K t)(R:RnAt t H x a C s)(h2:yr s.sl)(h3:H tm=aa (.tup e))(h4:TermOk e)
  (q:∀H',Same H H'->fin t (rk s.sl e) Q E H'):vt K t E { nx:=λ_ H'=>Q .non H',rt:=Q } (L2.start ["self","term"] [.ref x,.ref tm]) H:=by
 simp only[vt,va,yG,L2.start,zB,zc,zb,zi,zn,cr,bG,bJ,bB,bb,bd,bj,ah,V.ref.injEq,bp,and_true,and_assoc,am,bU,bL]
 exact⟨_,_,_,R.ix,F.cl,F.n4,_,rfl,s.sl,_,rfl,e,h3,R.hs,_,h4.good s.sl,h4.2.1,h4.2.2,h2,q⟩
theorem Y8{p te:ag}{xs e:List V}{sh:Str}(F:RnF K t)(R:RnAt t H x a C s)(h2:yr s.sl)(h3:H p=aa (.tup xs))(h4:atI xs 1=aa (.str sh))(h5:atI xs 2=aa (.ref te))(h6:H te=aa (.tup e))(h7:TermOk e)
  (q1:∀i q H',rk s.sl e=.ok i->Same H H'->H' q=aa (.tup [.str sh,.int i])->Q (.ref q) H') (q2:∀er H',rk s.sl e=.error er->Same H H'->XI t er E H') :
  vx K t E { nx:=λ_ H'=>Q .non H',rt:=Q } (L2.start ["self","due"] [.ref x,.ref p]) H:=by
 simp only[vx,yd,yw,L2.start,zO,zB,tOp,zc,tC,yC,zb,zi,zO,cr,bG,bJ,bB,bb,bd,bj,ah,V.int.injEq,V.ref.injEq,bp,and_true,and_assoc,am,bU,bL]
 refine⟨_,SqT.of h3,_,h4,_,_,R.ix,rfl,_,SqT.of h3,_,h5,_,rfl,e,a,C,s,R,h2,h6,h7,λH1 s1=>?_⟩
 cases hk:rk s.sl e with
 | error er=>exact fin_err.mpr (q2 er H1 hk s1)
 | ok n =>
  refine fin_ok.mpr ⟨by decide,λp hp=>?_⟩
  exact q1 n p _ hk (s1.trans (isV (o:=HO.tup [V.str sh,V.int n]) p hp)) zf
theorem VA{q:ag}{p:Pl}{w:Int}(F:RnF K t)(R:RnAt t H x a C s)(h2:H q=aa (.tup [.str p.1,.int p.2]))(h3:s.no.length<=900)
  (k:∀H',Kp x a H H'->RnAt t H' x a C (yZ p w s)->Q (.int (wI p w s)) H') :
  kI K t { nx:=λ_ H'=>Q .non H',rt:=Q } (L2.start ["self","place","worth"] [.ref x,.ref q,.int w]) H:=by
 simp only[kI,wu,YO,qh,yG,L2.start,zo,zB,zH,tOp,zc,zS,zA,cr,bG,bJ,bB,bb,bd,bj,ah,V.ref.injEq,V.bl.injEq,am,bU,bL,cB,if_true,cG,ite_false]
 have g1:DGet H a.gi (.ref q) ((zq s.gi p).map V.int):=.inr ⟨dOf s.gi,zI p,q,.inl R.hg,rfl,h2,(xM _ _).symm⟩
 have g2:DGet H a.no (.ref q) ((zq s.no p).map V.int):=.inr ⟨dOf s.no,zI p,q,.inl R.hn,rfl,h2,(xM _ _).symm⟩
 refine⟨_,_,_,R.ix,F.cl,F.n5,_,rfl,_,rfl,_,g1,?_⟩
 cases hg:zq s.gi p with
 | some i =>
  rw[ap (by simp)]
  have e:yZ p w s=s:=by unfold yZ;rw[ap (.inl (by rw[hg];rfl))]
  have e2:wI p w s=i:=by unfold wI;rw[hg];rfl
  rw[e,e2] at k
  rw[hg] at g1
  exact⟨_,_,_,R.ix,F.cl,F.n5,_,rfl,_,rfl,_,g1,k H (.of_same λ_ _ z=>z) R⟩
 | none =>
  rw[ak (by simp)]
  refine⟨_,_,_,R.ix,F.cl,F.n6,_,rfl,_,rfl,_,g2,?_⟩
  cases ho:zq s.no p with
  | some i =>
   rw[ak (by simp)]
   have e:yZ p w s=s:=by unfold yZ;rw[ap (.inr (by rw[ho];rfl))]
   have e2:wI p w s=i:=by unfold wI;rw[hg,ho];rfl
   rw[e,e2] at k
   rw[ho] at g2
   exact⟨_,_,_,R.ix,F.cl,F.n6,_,rfl,_,rfl,_,g2,k H (.of_same λ_ _ z=>z) R⟩
  | none =>
   rw[ap (by simp)]
   have e:yZ p w s={ s with no:=s.no ++ [(p,w)] }:=by unfold yZ;rw[ak (by rw[hg,ho];simp)]
   have e2:wI p w s=w:=by unfold wI;rw[hg,ho];rfl
   rw[e,e2] at k
   have ld:=xO s.no
   have ep:yz (dOf s.no) (zI p) (V.int w)=dOf (s.no ++ [(p,w)]):=(jN s.no (p,w)).symm
   have D:=DPut.t (k:=zI p) (v:=V.int w) R.hn h2 (bZ (by lia:_<=900) (by decide))
   rw[ep] at D
   have R2:=R.putO (s.no ++ [(p,w)])
   have K2:Kp x a H (upd H a.no (.dT (dOf (s.no ++ [(p,w)])))):=wN (.inr (.inr (.inr (.inl rfl))))
   refine⟨_,_,_,R.ix,F.cl,F.n6,_,rfl,_,rfl,_,D,_,_,_,R2.ix,F.cl,F.n6,_,rfl,_,rfl,V.int w,?_,k _ K2 R2⟩
   refine .inr ⟨_,zI p,q,.inl R2.hn,rfl,K2 _ _ (R.notup h2) h2,?_⟩
   rw[xM,zaP];rfl
theorem J7{P:Str->Option af}{w:Int}{m:Nat}(T:Txt K P t)(R:RnAt t H x a C s)(h2:∀c∈C,XJ c)(h3:RnOk m s)(h4:m<=900)(q:∀H',Kp x a H H'->RnAt t H' x a C (xB C w s)->Q .non H') :
  qL K t { nx:=λ_ H'=>Q .non H',rt:=Q } (L2.start ["self","worth"] [.ref x,.int w]) H:=by
 simp only[qL,xw,jk,yG,qf,yw,YQ,WC,zdZ,L2.start,zo,zcM,zH,tOp,zc,tC,zb,zi,zS,tB,y6,cr,bG,bJ,bB,bb,bd,bj,ah,V.int.injEq,V.ref.injEq,V.bl.injEq,bp,and_true,and_assoc,am,bU,bL]
 have F:=rnF T
 refine⟨_,_,R.ix,rfl,a,C,s,R,λH1 s1=>?_⟩
 have R1:=R.same s1
 by_cases ho:yh C s=ae
 ·rw[ap ho]
  exact q H1 (.of_same s1) (by unfold xB;rw[ap ho];exact R1)
 rw[ak ho]
 obtain⟨xs,hx,pr⟩:=R1.hc
 have lx:=bM pr
 have lt:=Yz ho
 have hc:C[s.n]?=aa C[s.n]:=ba lt
 have hv:xs[s.n]?=aa xs[s.n]:=ba (by lia)
 have cv:=yo pr hv hc
 have es:∀w,xB C w s=zW C[s.n] w s:=λw=>by unfold xB;rw[ak ho,hc]
 rw[es] at q
 refine⟨_,_,R1.ix,rfl,_,_,_,R1.ix,F.cl,F.n1,_,rfl,_,_,_,R1.ix,F.cl,F.n2,_,rfl,_,rfl,xs,_,rfl,SqL.of hx,_,x8 hv,C[s.n],m,a,C,s,R1,cv,h2 _ (dM lt),h3,h4,λH2 s' k e K2 R2=>⟨_,_,_,R2.ix,F.cl,F.n2,(by show (7:Nat) < 1000;decide),?_⟩,λH2 er e s2=>?_⟩
 ·have z:=R2.putI { s' with n:=k } rfl rfl rfl rfl
  exact q _ ((Kp.of_same s1).trans (K2.trans (wN (.inl rfl)))) (by unfold zW;rw[e];exact z)
 ·have R3:=R1.same s2
  have z:=R3.putI { s with why:=aa (WG er) } rfl rfl rfl rfl
  have q':=q _ ((Kp.of_same s1).trans ((Kp.of_same s2).trans (wN (.inl rfl)))) (by unfold zW;rw[e];exact z)
  cases er with
  | nought=>exact⟨t.c_Nought,rfl,.inr ⟨T.e_Nought_Great,T.e_Nought_Nought,_,_,_,R3.ix,F.cl,F.n3,(by show (7:Nat) < 1000;decide),q'⟩⟩
  | great=>exact⟨t.c_Great,rfl,.inl ⟨T.e_Great_Great,_,_,_,R3.ix,F.cl,F.n3,(by show (7:Nat) < 1000;decide),q'⟩⟩
  | stuck=>trivial
theorem VB(F:RnF K t)(R:RnAt t H x a C s)(h2:s.no.length<=900)(h3:(s.no.map (·.1)).Nodup)(h4:s.gi.length<=63)(q1:∀H',yh C s=ao->Same H H'->Q .non H')
  (q2:∀r o nl gl out H',yh C s=ae->Same H H'->H nl=ai->H gl=ai->nl≠gl->H' r=aa (.tup [o,.ref nl,.ref gl])->OcAt H' o (ZV s)->LsAt H' nl s.no->LsAt H' gl out->vj s out->Q (.ref r) H') :
  kH K t { nx:=λ_ H'=>Q .non H',rt:=Q } (L2.start ["self","notes"] [.ref x]) H:=by
 simp only[kH,xw,yw,L2.start,zo,zB,zH,zc,tC,zi,zS,ZE,tB,cr,bG,bJ,bP,b8,bB,bb,bj,ah,V.ref.injEq,V.bl.injEq,bp,and_true,am,bU,bL,cB]
 refine⟨_,_,R.ix,rfl,a,C,s,R,λH1 s1=>?_⟩
 have R1:=R.same s1
 cases ho:yh C s with
 | false=>rw[ap rfl];exact q1 H1 ho s1
 | true =>
  rw[ak (by decide)]
  simp only[qI,qH,zfk,yG,qv,Qi,Qj,zo,zJ,zm,zB,zH,tOp,zc,tC,xq,yC,zb,zi,zS,zA,tCB,zbl,bJ,bb,bd,bj,ah,V.ref.injEq,V.bl.injEq,bp,and_true,true_and,am,br,bx,bL,cB,decide_eq_false_iff_not]
  refine⟨_,_,_,R1.ix,F.cl,F.n6,_,rfl,_,rfl,_,R1.hn,λr hr=>⟨a.no,zf,dOf s.no,(by rw[zl (zG R1.hn hr)];exact R1.hn),(by have:=xO s.no;lia),λl ys H2 s2 fl hl pr=>?_⟩⟩
  have sv:=isV (o:=kS r a.no) r hr
  have S2:=sv.trans s2
  have R2:=R1.same S2
  have nl:H l=ai:=zD (s1.trans sv) fl
  rw[zhe h3] at pr
  have pn:=zbz pr
  refine⟨_,_,_,R2.ix,F.cl,F.n3,_,rfl,?_⟩
  cases hw:s.why with
  | some w =>
   rw[ap (λz=>nomatch z)]
   refine⟨_,_,_,R2.ix,F.cl,F.n3,_,rfl,by decide,λp hp=>⟨by decide,λg hg=>⟨by decide,λr2 hr2=>?_⟩⟩⟩
   rw[hw]
   rw[hw] at hg hr2
   have t1:=isV (o:=HO.tup [V.str (bg "off"),zh3 (aa w)]) p hp
   have t2:=isV (o:=HO.lst []) g hg
   have t3:=isV (o:=HO.tup [V.ref p,V.ref l,V.ref g]) r2 hr2
   have T3:=t1.trans (t2.trans t3)
   refine q2 r2 (.ref p) l g [] _ ho (s1.trans (S2.trans T3)) nl (zD (s1.trans (S2.trans t1)) hg) (λz=>by rw[<-z,t1 _ _ hl] at hg;cases hg) zf ?_ ⟨ys,T3 _ _ hl,wp T3 pn⟩ ⟨[],t3 _ _ zf,.nil⟩ ?_
   ·unfold ZV;rw[hw];exact⟨p,rfl,(t2.trans t3) _ _ zf⟩
   ·unfold vj;rw[hw]
  | none =>
   rw[ak (λz=>z rfl)]
   refine⟨_,_,_,R2.ix,F.cl,F.n7,_,rfl,_,rfl,_,.inl ⟨SqL.of R2.ha,λy hy=>⟨by decide,λp hp=>?_⟩⟩⟩
   have t1:=isV (o:=HO.tup (cr V.int s.sa)) y hy
   have t2:=isV (o:=HO.tup [V.str (bg "done"),V.ref y]) p hp
   have R3:=R2.same (t1.trans t2)
   have ly:=t2 _ _ (zf (H:=H2) (a:=y) (o:=HO.tup (cr V.int s.sa)))
   have lp:upd (upd H2 y (HO.tup (cr V.int s.sa))) p (HO.tup [V.str (bg "done"),V.ref y]) p=aa (HO.tup [V.str (bg "done"),V.ref y]):=zf
   have T2:=t1.trans t2
   generalize upd (upd H2 y (HO.tup (cr V.int s.sa))) p (HO.tup [V.str (bg "done"),V.ref y])=H3 at *
   refine⟨_,_,_,R3.ix,F.cl,F.n5,_,rfl,_,rfl,_,R3.hg,λr3 hr3=>⟨a.gi,zf,s.gi,(by rw[zl (zG R3.hg hr3)];exact R3.hg),(by have:=xO s.gi;lia),λg zs srt H4 s4 fg hg ps ri mi=>⟨by decide,λr2 hr2=>?_⟩⟩⟩
   have t3:=(isV (o:=kS r3 a.gi) r3 hr3).trans s4
   have t5:=isV (o:=HO.tup [V.ref p,V.ref l,V.ref g]) r2 hr2
   have T5:=t3.trans t5
   have fg3:H3 g=ai:=zD (isV (o:=kS r3 a.gi) r3 hr3) fg
   refine q2 r2 (.ref p) l g srt _ ho (s1.trans (S2.trans (T2.trans T5))) nl (zD (s1.trans (S2.trans T2)) fg3) (λz=>by rw[<-z,T2 _ _ hl] at fg3;cases fg3) zf ?_ ⟨ys,(T2.trans T5) _ _ hl,wp (T2.trans T5) pn⟩ ⟨zs,t5 _ _ hg,wp t5 ps⟩ ?_
   ·unfold ZV;rw[hw];exact⟨p,y,rfl,T5 _ _ lp,T5 _ _ ly⟩
   ·unfold vj;rw[hw];exact⟨ri,mi⟩
end
theorem zea(p:Pl)(w:Int)(s:RSt):(yZ p w s).sl=s.sl:=by unfold yZ;split <;> rfl
theorem zfN(p:Pl)(w:Int)(s:RSt):(yZ p w s).n=s.n:=by unfold yZ;split <;> rfl
theorem zh6{w:Int}(h:vi r)(e:doR r w s=.ok s'):s'.n=s.n:=by
 cases r with
 | take sh e' x =>
  cases hk:rk s.sl e' with
  | error er=>simp only[doR,hk] at e;cases e
  | ok n=>simp only[doR,hk] at e;cases e;exact zfN _ _ _
 | give sh e' f =>
  cases hk:rk s.sl e' with
  | error er=>simp only[doR,hk] at e;cases e
  | ok n =>
   cases hk2:rk s.sl f with
   | error er=>simp only[doR,hk,hk2] at e;cases e
   | ok i=>simp only[doR,hk,hk2] at e;cases e;rfl
 | lt x e' =>
  cases hk:rk s.sl e' with
  | error er=>simp only[doR,hk] at e;cases e
  | ok n=>simp only[doR,hk] at e;cases e;rfl
 | say e' =>
  cases hk:rk s.sl e' with
  | error er=>simp only[doR,hk] at e;cases e
  | ok n=>simp only[doR,hk] at e;cases e;rfl
 | off e'=>exact h.elim
 | iff e' b d=>exact h.elim
theorem QD{r:Rw}{w:Int}{s:RSt}(h:vi r):yv (.row r) w s=match doR r w s with
  | .error er=>.error er
  | .ok s'=>.ok (s.n + 1,s'):=by
 cases r with
 | off e'=>exact h.elim
 | iff e' b d=>exact h.elim
 | take sh e' x=>rfl
 | give sh e' f=>rfl
 | lt x e'=>rfl
 | say e'=>rfl
theorem zfO(r:Rw)(h:JY r):(∃e,r=.off e)\/vi r:=by
 cases r with
 | off e'=>exact .inl ⟨e',rfl⟩
 | iff e' b d=>exact h.elim
 | take sh e' x=>exact .inr trivial
 | give sh e' f=>exact .inr trivial
 | lt x e'=>exact .inr trivial
 | say e'=>exact .inr trivial
theorem zfP{F:ag->Prop}(h:RwAt F H v r)(d:vi r):∃p xs hd,v=.ref p/\H p=aa (.tup xs)/\atI xs 0=aa (.str hd)/\hd≠bg "go"/\hd≠bg "skip"/\hd≠bg "off":=by
 cases r with
 | take sh e sl=>unfold RwAt at h;obtain⟨r,te,rfl,_,_,e2,e3⟩:=h;exact⟨r,_,_,rfl,e2,rfl,by decide +kernel,by decide +kernel,by decide +kernel⟩
 | give sh e f=>unfold RwAt at h;obtain⟨r,te,tf,rfl,_,_,_,e2,e3⟩:=h;exact⟨r,_,_,rfl,e2,rfl,by decide +kernel,by decide +kernel,by decide +kernel⟩
 | lt sl e=>unfold RwAt at h;obtain⟨r,te,rfl,_,_,e2,e3⟩:=h;exact⟨r,_,_,rfl,e2,rfl,by decide +kernel,by decide +kernel,by decide +kernel⟩
 | say e=>unfold RwAt at h;obtain⟨r,te,rfl,_,_,e2,e3⟩:=h;exact⟨r,_,_,rfl,e2,rfl,by decide +kernel,by decide +kernel,by decide +kernel⟩
 | off e=>exact d.elim
 | iff e a b=>exact d.elim
theorem Zk(h:xD x=ae):cf x=ae:=(zdi h).flat
def Xv(H H':Hp):Prop:=∀b ys,H b=aa (.tup ys)->H' b=aa (.tup ys)
theorem Same.ts{H H':Hp}(s:Same H H'):Xv H H':=λb ys e=>s _ _ e
theorem jU{J:It}{H1:Hp}{Q:Hp->Prop}{B:V->St->Hp->(V->St->Hp->Prop)->(St->Hp->Prop)->Prop}(n:Nat)(hn:n<=1000000)(C:St->Prop)(R:Nat->List V->Hp->Prop)(hm:∀i ys H H',Xv H H'->R i ys H->R i ys H')(hC:C τ₀)(h0:R 0 [] H1)
  (go:∀i H,Same H1 H->i < n->J.go i H) (stop:∀H,Same H1 H->J.stop n H) (hD:H1 D=ai)
  (hs:∀i x τ ys H H',C τ->Same H1 H->i < n->R i ys H->J.yld i H x H'->B x τ H' (λv τ' H4=>C τ'/\R (i + 1) (ys ++ [v]) H4/\Same H H4) (λτ' H4=>C τ'/\R (i + 1) ys H4/\Same H H4))
  (hd:∀ys H,ys.length<=n->R n ys H->Same H1 H->H D=aa (.lst ys)->Q H) :
  ∃W:Nat->Nat->List V->St->Hp->Prop,(∃m,W 0 m [] τ₀ (upd H1 D (.lst [])))/\∀i m ys τ H,W i m ys τ H->H D=aa (.lst ys) /\
  ((J.stop i H/\Q H)\/(J.go i H/\ys.length < sizeLine/\∃N:V->St->Hp->Prop,
   (∀v τ' H',N v τ' H'->H' D=aa (.lst ys)/\∃m',m' < m/\W (i + 1) m' (ys ++ [v]) τ' (upd H' D (.lst (ys ++ [v]))))/\∃Nf:St->Hp->Prop,(∀τ' H',Nf τ' H'->∃m',m' < m/\W (i + 1) m' ys τ' H') /\
   ∀x H',J.yld i H x H'->B x τ H' N Nf)):=by
 have ext:∀ {H:Hp} {o:HO},Same H1 H->Same H1 (upd H D o):=λ{H o} h b u e=>by
  rw[zl (zG e hD)];exact h b u e
 refine⟨λi m ys τ H=>m=n - i/\i<=n/\ys.length<=i/\R i ys H/\Same H1 H/\H D=aa (.lst ys)/\C τ,⟨n,by simp,cp _,bq _,hm _ _ _ _ (Same.ts (ext (Same.refl _))) h0,ext (Same.refl _),zf,hC⟩,?_⟩
 rintro i m ys τ H ⟨rfl,hi,hl,hR,hS,hy,hc⟩
 refine⟨hy,?_⟩
 by_cases hlt:i < n
 ·refine .inr ⟨go i H hS hlt,bZ (by lia:ys.length<=1000000) (by decide),_,?_,_,?_,λx H' y=>hs i x τ ys H H' hc hS hlt hR y⟩
  ·rintro v τ' H4 ⟨c4,r4,s4⟩
   have y4:=s4 _ _ hy
   exact⟨y4,n - (i + 1),by lia,rfl,hlt,by simp;lia,hm _ _ _ _ (λb zs e=>by rw[zl (yp e y4 (by simp))];exact e) r4,ext (hS.trans s4),zf,c4⟩
  ·rintro τ' H4 ⟨c4,r4,s4⟩
   exact⟨n - (i + 1),by lia,rfl,hlt,by lia,r4,hS.trans s4,s4 _ _ hy,c4⟩
 ·obtain rfl:i=n:=by lia
  exact .inl ⟨stop H hS,hd ys H hl hR hS hy⟩
def vg(P:Nat->Bool)(x:Str):Prop:=x.cps.toList.all P=ae
theorem vX{P:Nat->Bool}(h:vg P x)(h':vg P y):vg P (x ++ y):=by
 unfold vg at *
 rw[zfh,List.all_append,h,h'];rfl
theorem qT{P:Nat->Bool}(h:P c=ae):vg P ⟨#[c]⟩:=by
 show [c].all P=ae
 rw[gh,h];rfl
theorem zbI{P:Nat->Bool}(h:vg P x)(k:Nat):vg P (fG x ai (aa (k:Int))):=by
 unfold vg at *
 rw[KK]
 rw[cZ] at *
 exact λc hc=>h c (dJ hc)
theorem Jj{P:Nat->Bool}(h:vg P x)(k:Nat):vg P (fG x (aa (k:Int)) ai):=by
 unfold vg at *
 rw[Wq]
 rw[cZ] at *
 exact λc hc=>h c (gB hc)
theorem zeb(x:Str)(k:Nat)(h:k<=x.length):(fG x ai (aa (k:Int))).length=k:=by
 rw[X1] at *
 rw[KK,cm];lia
theorem QE(x:Str)(k:Nat):(fG x (aa (k:Int)) ai).length=x.length - k:=by
 rw[X1,X1,Wq,cC]
def inC(c:Nat):Bool:=(bg "zyxwvtsrqpnmlkjhgfdcb").cps.toList.contains c
theorem zh7:∀c∈(bg "zyxwvtsrqpnmlkjhgfdcb").cps.toList,inL c=ae:=by decide +kernel
theorem zh8:∀c∈(bg "zyxwvtsrqpnmlkjhgfdcb").cps.toList,inC c=ae:=λc hc=>by unfold inC;exact List.contains_iff_mem.mpr hc
theorem ziv:∀c∈(bg "zyxwvutsrqponmlkjihgfedcba").cps.toList,inL c=ae:=by decide +kernel
theorem zcv:∀v∈jw ++ wl,(match v with | .str w=>decide (w.length≠6) && !(w.cps.toList.all inC) | _=>ae)=ae:=by decide +kernel
theorem zfQ(h:x.length=6\/vg inC x):(inV (.str x) jw || inV (.str x) wl)=ao:=by
 have key:∀v∈jw ++ wl,eqV v (.str x)=ao:=λv hv=>by
  have w:=zcv v hv
  cases e:eqV v (.str x) with
  | false=>rfl
  | true =>
   cases v <;> simp only[eqV,cG] at e
   rename_i y
   have e':y=x:=by simpa using e
   subst e'
   simp only[b9,decide_eq_true_eq,cB] at w
   rcases h with h | h
   ·exact absurd h w.1
   ·unfold vg at h;rw[h] at w;exact absurd w.2 (by decide)
 rw[iP]
 unfold inV
 constructor
 ·rw[gg]
  exact λv hv=>by rw[key v (cE _ hv)];decide
 ·rw[gg]
  exact λv hv=>by rw[key v (bT _ hv)];decide
theorem Zl(h1:1<=x.length)(h2:x.length<=6)(h3:(x.length=6/\vg inL x)\/vg inC x):xD x=ae:=by
 have nw:(inV (.str x) jw || inV (.str x) wl)=ao:=zfQ (h3.imp (·.1) id)
 have al:x.cps.toList.all inL=ae:=by
  rcases h3 with h | h
  ·exact h.2
  ·unfold vg at h
   rw[cZ] at *
   exact λc hc=>zh7 c (List.contains_iff_mem.mp (h c hc))
 have ne:decide (x="")=ao:=decide_eq_false λz=>by rw[z] at h1;exact absurd h1 (by decide)
 have nl:decide (6 < x.length)=ao:=decide_eq_false (by lia)
 unfold xD
 rw[nw,al,ne,nl];rfl
structure Sgn(P:Nat->Bool)(sz:Nat)(sg:Str):Prop where
 al:vg P sg
 lo:21<=sg.length
 hi:sg.length<=26
 s1:1<=sz
 s6:sz<=6
 nm:∀x:Str,x.length=sz->vg P x->xD x=ae
theorem zec{P:Nat->Bool}(S:Sgn P sz sg){i:Int}(h0:0<=i)(h1:i < sg.length):∃c,atI sg.cps.toList i=aa c/\P c=ae:=by
 obtain⟨c,hc,hm⟩:=zbF (xs:=sg.cps.toList) (i:=i) h0 (by rw[<-X1];exact h1)
 exact⟨c,hc,cZ.mp S.al c hm⟩
theorem J8{P:Str->Prop}:∀ {ys:List V},(∀v∈ys,∃x,v=.str x/\P x)->∃ls:List Str,ys=ls.map V.str/\∀x∈ls,P x
 | [],_=>⟨[],rfl,λ_ z=>nomatch z⟩
 | v :: r,h=>by
  obtain⟨x,rfl,px⟩:=h v bC
  obtain⟨ls,rfl,pl⟩:=J8 (ys:=r) λu hu=>h u (bE _ hu)
  exact⟨x :: ls,rfl,λy hy=>by
   rcases bS.mp hy with rfl | hy
   ·exact px
   ·exact pl y hy⟩
def nmV(v:V):Prop:=∃x:Str,v=.str x/\xD x=ae
theorem zfR{P:Nat->Bool}{sz:Nat}{sg stem:Str}{c m tn:Int}{o5:Option V}{at_:Nat}(S:Sgn P sz sg)(hs:stem.length=sz)(hp:vg P stem)(ha:at_ < sz)(h1:0<=m)(h2:m<=6)(q:∀nm ws H',Same H H'->NamesAt H' nm ws->(ws.length:Int)=m->Q (.ref nm) H') :
  vn K t { nx:=λ_ H'=>Q .non H',rt:=Q } [aa (.int c),aa (.int m),aa (.int sz),aa (.str sg),aa (.str stem),o5,aa (.int at_),aa (.int tn)] H:=by
 simp only[vn,zm,zB,tOp,zc,tC,zb,zi,tSl,xG,yy,xI,YM,Yj,jG,Ju,rI0,zao,kR,cr,bG,bP,b8,bb,bd,bj,ah,V.int.injEq,V.str.injEq,bp,and_true,am,fC,gr,if_true]
 have lo:=S.lo
 have hi:=S.hi
 have s6:=S.s6
 refine⟨by lia,by lia,λD hD=>?_⟩
 refine KJ (J:=Itr 0 m.toNat) m.toNat (by lia) (λτ=>∃o,τ=[o,aa (.str stem),aa (.int (at_:Int)),aa (.str sg)]) (λi v=>nmV v) ⟨_,rfl⟩ (λi H _ h=>h) (λH _=>bq _) hD ?_ ?_
 ·rintro i v τ H2 H' ⟨o,rfl⟩ s hi ⟨rfl,rfl⟩
  simp only[bb,bd,bj,ah,V.int.injEq,V.str.injEq,bp,and_true,br]
  obtain⟨d,hd,hP⟩:=zec S (i:=0 + (i:Int)) (by lia) (by lia)
  have l1:=zeb stem at_ (by lia)
  have l2:=QE stem (at_ + 1)
  have p1:=zbI hp at_
  have p2:=Jj hp (at_ + 1)
  rw[show ((at_ + 1:Nat):Int)=(at_:Int) + 1 by lia] at l2 p2
  exact⟨zU (by lia),zU (by lia),d,hd,zU (by rw[wU];lia),zU (by lia),zU (by rw[wc,wU];lia),⟨_,rfl⟩,⟨_,rfl,S.nm _ (by rw[wc,wc,wU];lia) (vX (vX p1 (qT hP)) p2)⟩,Same.refl _⟩
 ·intro ys H' hly hv s hq
  obtain⟨ls,rfl,hp⟩:=J8 (P:=λx=>xD x=ae) (ys:=ys) λv hv2=>by
   obtain⟨i,hi⟩:=cV hv2
   exact hv i v hi
  rw[bu] at hly
  exact q D ls H' s ⟨hq,hp⟩ (by lia)
theorem zfS{P:Nat->Bool}{sz:Nat}{sg stem:Str}{c m:Int}{o5:Option V}(S:Sgn P sz sg)(hs:stem.length=sz)(hp:vg P stem)(h1:0<=m)(h2:m<=6)(q:∀nm ws H',Same H H'->NamesAt H' nm ws->(ws.length:Int)=m->Q (.ref nm) H') :
  vo K t { nx:=λ_ H'=>Q .non H',rt:=Q } [aa (.int c),aa (.int m),aa (.int sz),aa (.str sg),aa (.str stem),o5,ai,ai] H:=by
 simp only[vo,zk,zo,zJ,zm,tOp,zc,tC,zb,zi,tCB,tSl,xG,yy,zn,Zn,rI,zao,kR,xy,bB,bb,bd,bj,ah,exists_eq_left,V.int.injEq,V.str.injEq,bp,and_true,and_assoc,am,br,bx]
 have lo:=S.lo
 have hi:=S.hi
 have s1:=S.s1
 have s6:=S.s6
 refine⟨by decide,by decide,λr1 H1 a1 b1 s1'=>⟨by lia,by decide,by decide,λr2 H2 a2 b2 s2'=>⟨zU (by lia),by lia,?_⟩⟩⟩
 obtain⟨k,ek⟩:∃k:Nat,r1 % (sz:Int)=k:=⟨_,(fA (cL _ (by lia))).symm⟩
 have hk:(k:Int) < sz:=by rw[<-ek];exact cD _ (by lia)
 obtain⟨u,eu⟩:∃u:Nat,r2 % (sg.length:Int)=u:=⟨_,(fA (cL _ (by lia))).symm⟩
 have hu:(u:Int) < sg.length:=by rw[<-eu];exact cD _ (by lia)
 rw[ek,eu]
 have l1:=zeb sg u (by lia)
 have l2:=QE sg u
 refine⟨zU (by lia),zU (by lia),zU (by lia),?_⟩
 have S':Sgn P sz (fG sg (aa (u:Int)) ai ++ fG sg ai (aa (u:Int))):=⟨vX (Jj S.al u) (zbI S.al u),by rw[wc];lia,by rw[wc];lia,S.s1,S.s6,S.nm⟩
 exact zfR S' hs hp (by lia) h1 h2 λnm ws H' s hn hl=>q nm ws H' (s1'.trans (s2'.trans s)) hn hl
def nmI(P:Nat->Bool)(c m:Int)(sz:Nat)(sg:Str)(H:Hp)(i:Nat)(σ:St)(H':Hp):Prop:=(∃(x:Str) (o:Option V),σ=[aa (.int c),aa (.int m),aa (.int sz),aa (.str sg),aa (.str x),o,ai,ai]/\x.length=i/\vg P x)/\Same H H'
theorem zbJ{P:Nat->Bool}{sz:Nat}{sg:Str}{c m:Int}(S:Sgn P sz sg)(h1:0<=m)(h2:m<=6)(q:∀nm ws H',Same H H'->NamesAt H' nm ws->(ws.length:Int)=m->Q (.ref nm) H') :
  vp K t { nx:=λ_ H'=>Q .non H',rt:=Q } [aa (.int c),aa (.int m),aa (.int sz),aa (.str sg),ai,ai,ai,ai] H:=by
 simp only[vp,zk,zo,zJ,zm,tOp,zc,tC,zb,zi,xF,tCB,zn,Zn,jG,Ju,rI,rI0,kR,xy,bB,bb,bd,bj,ah,V.int.injEq,V.str.injEq,bp,and_true,and_assoc,am,br,bx,fC,gr]
 have lo:=S.lo
 have hi:=S.hi
 have s1:=S.s1
 have s6:=S.s6
 refine⟨by lia,by lia,kg (nmI P c m sz sg H) ⟨⟨_,ai,rfl,by decide +kernel,by show [].all P=ae;rfl⟩,Same.refl H⟩ ?_ ?_⟩
 ·rintro i σ H' hi ⟨⟨x,o,rfl,hx,hp⟩,s⟩
  simp only[bb,bd,bj,ah,exists_eq_left,V.int.injEq,V.str.injEq,and_assoc,am,br,bx]
  refine⟨by lia,by lia,λr1 H1 a1 b1 s1'=>⟨zU (by lia),by lia,?_⟩⟩
  obtain⟨d,hd,hP⟩:=zec S (i:=r1 % (sg.length:Int)) (cL _ (by lia)) (cD _ (by lia))
  exact⟨zU (by lia),d,hd,zU (by rw[wU];lia),⟨_,_,rfl,by rw[wc,wU];lia,vX hp (qT hP)⟩,s.trans s1'⟩
 ·rintro σ H' ⟨⟨x,o,rfl,hx,hp⟩,s⟩
  exact zfS S (by lia) hp h1 h2 λnm ws H2 s2 hn hl=>q nm ws H2 (s.trans s2) hn hl
theorem WU{c m:Int}(h1:0<=m)(h2:m<=6)(q:∀nm ws H',Same H H'->NamesAt H' nm ws->(ws.length:Int)=m->Q (.ref nm) H') :
  jp K t { nx:=λ_ H'=>Q .non H',rt:=Q } (L2.start ["cell","many","size","signs","stem","k","at","turn"] [.int c,.int m]) H:=by
 simp only[jp,zk,L2.start,zo,zJ,zm,zH,tOp,zc,tC,zb,zi,zS,zA,zn,rEq,rI,rI0,Ye,cr,bG,bJ,bP,b8,bB,bb,bd,bj,ah,V.int.injEq,V.bl.injEq,bp,and_true,true_and,and_assoc,am,br,bx,bU,bL,decide_eq_true_eq]
 refine⟨by decide,by decide,λr1 H1 a1 b1 s1'=>⟨by decide,?_⟩⟩
 obtain⟨k,ek⟩:∃k:Nat,1 + r1 % 6=k:=⟨(1 + r1 % 6).toNat,by lia⟩
 rw[ek]
 have lc:(bg "zyxwvtsrqpnmlkjhgfdcb").length=21:=by decide +kernel
 have lz:(bg "zyxwvutsrqponmlkjihgfedcba").length=26:=by decide +kernel
 refine xo (λe=>?_) λe=>?_
 ·have e5:(k:Int)=6:=by simpa using e
  have e6:k=6:=by lia
  exact zbJ (P:=inL) (sg:="zyxwvutsrqponmlkjihgfedcba") ⟨cZ.mpr ziv,by rw[lz];lia,by rw[lz];lia,by lia,by lia,λx hx hp=>Zl (by lia) (by lia) (.inl ⟨by lia,hp⟩)⟩ h1 h2 λnm ws H2 s2 hn hl=>q nm ws H2 (s1'.trans s2) hn hl
 ·exact zbJ (P:=inC) (sg:="zyxwvtsrqpnmlkjhgfdcb") ⟨cZ.mpr zh8,by rw[lc];lia,by rw[lc];lia,by lia,by lia,λx hx hp=>Zl (by lia) (by lia) (.inr hp)⟩ h1 h2 λnm ws H2 s2 hn hl=>q nm ws H2 (s1'.trans s2) hn hl
structure RnP(m:Nat)(s:RSt):Prop where
 ok:RnOk m s
 ng:∀r∈s.gi,cf r.1.1=ae
 nn:∀r∈s.no,cf r.1.1=ae
theorem RnOk.up(h:RnOk m s):RnOk (m + 1) s:=⟨h.so,h.gw,h.nw,bX h.l1,bX h.l2,bX h.l3,bX h.l4,h.nd⟩
theorem RnP.up(h:RnP m s):RnP (m + 1) s:=⟨h.ok.up,h.ng,h.nn⟩
theorem zed{p:Pl}{l:List Row}(nd:(l.map (·.1)).Nodup)(h:zq l p=ai):p ∉ l.map (·.1):=λz=>by
 obtain⟨r,hr,e⟩:=cj.mp z
 have:=(wS (w:=r.2) nd).mpr (show (p,r.2)∈l by rw[<-e];exact hr)
 rw[h] at this
 cases this
theorem zee{w:Int}(h:RnOk m s)(hw:inW w=ae):inW (wI p w s)=ae:=by
 unfold wI
 cases e:zq s.gi p with
 | some i=>exact Zi (P:=λr=>inW r.2=ae) h.gw e
 | none =>
  cases e2:zq s.no p with
  | some i=>exact Zi (P:=λr=>inW r.2=ae) h.nw e2
  | none=>exact hw
theorem zfT{m:Nat}{s:RSt}{p:Pl}{w i:Int}{x:Str}(h:RnP m s)(hp:cf p.1=ae)(hw:inW w=ae)(hi:inW i=ae):RnP (m + 1) { yZ p w s with sl:=yz s.sl (.inr x) (.int i) }:=by
 have so:=Zh h.ok.so (.inr x) hi
 have l1:(yz s.sl (.inr x) (V.int i)).length<=m + 1:=bR (yY _ _ _) (dz h.ok.l1)
 unfold yZ
 by_cases c:(zq s.gi p).isSome=ae\/(zq s.no p).isSome=ae
 ·rw[ap c]
  exact⟨⟨so,h.ok.gw,h.ok.nw,l1,bX h.ok.l2,bX h.ok.l3,bX h.ok.l4,h.ok.nd⟩,h.ng,h.nn⟩
 ·rw[ak c]
  have cn:zq s.no p=ai:=by
   cases e:zq s.no p with
   | none=>rfl
   | some i=>exact absurd (.inr (by rw[e];rfl)) c
  refine⟨⟨so,h.ok.gw,λr hr=>?_,l1,bX h.ok.l2,?_,bX h.ok.l4,?_⟩,h.ng,λr hr=>?_⟩
  ·rcases bF.mp hr with hr | hr
   ·exact h.ok.nw r hr
   ·rw[b5.mp hr];exact hw
  ·show (s.no ++ [(p,w)]).length<=m + 1
   rw[bt];exact dz h.ok.l3
  ·show ((s.no ++ [(p,w)]).map (·.1)).Nodup
   rw[cQ]
   refine List.nodup_append.mpr ⟨h.ok.nd,by simp,λa ha b hb=>?_⟩
   have hb:b=p:=by simpa using hb
   rw[hb]
   exact λz=>zed h.ok.nd cn (by rw[<-z];exact ha)
  ·rcases bF.mp hr with hr | hr
   ·exact h.nn r hr
   ·rw[b5.mp hr];exact hp
theorem zhf{w:Int}(h:RnP m s)(d:vi r)(k:xV r)(pl:WI r)(hw:inW w=ae)(e:doR r w s=.ok s'):RnP (m + 1) s'/\s'.why=s.why:=by
 cases r with
 | off e'=>exact d.elim
 | iff e' b c=>exact d.elim
 | take sh e' x =>
  cases hk:rk s.sl e' with
  | error er=>simp only[doR,hk] at e;cases e
  | ok n =>
   simp only[doR,hk] at e
   cases e
   exact⟨zfT h pl.1 hw (zee h.ok hw),by show (yZ _ _ _).why=_;unfold yZ;split <;> rfl⟩
 | give sh e' f =>
  cases hk:rk s.sl e' with
  | error er=>simp only[doR,hk] at e;cases e
  | ok n =>
   cases hk2:rk s.sl f with
   | error er=>simp only[doR,hk,hk2] at e;cases e
   | ok i =>
    simp only[doR,hk,hk2] at e
    cases e
    have hi:=JS h.ok.so k.2.2.1 hk2
    refine⟨⟨⟨h.ok.so,λr hr=>?_,h.ok.nw,bX h.ok.l1,?_,bX h.ok.l3,bX h.ok.l4,h.ok.nd⟩,λr hr=>?_,h.nn⟩,rfl⟩
    ·rcases bF.mp hr with hr | hr
     ·exact h.ok.gw r hr
     ·rw[b5.mp hr];exact hi
    ·show (s.gi ++ [((sh,n),i)]).length<=m + 1
     rw[bt];exact dz h.ok.l2
    ·rcases bF.mp hr with hr | hr
     ·exact h.ng r hr
     ·rw[b5.mp hr];exact pl.1
 | lt x e' =>
  cases hk:rk s.sl e' with
  | error er=>simp only[doR,hk] at e;cases e
  | ok i =>
   simp only[doR,hk] at e
   cases e
   have hi:=JS h.ok.so k.2.1 hk
   exact⟨⟨⟨Zh h.ok.so _ hi,h.ok.gw,h.ok.nw,bR (yY _ _ _) (dz h.ok.l1),bX h.ok.l2,bX h.ok.l3,bX h.ok.l4,h.ok.nd⟩,h.ng,h.nn⟩,rfl⟩
 | say e' =>
  cases hk:rk s.sl e' with
  | error er=>simp only[doR,hk] at e;cases e
  | ok i =>
   simp only[doR,hk] at e
   cases e
   exact⟨⟨⟨h.ok.so,h.ok.gw,h.ok.nw,bX h.ok.l1,bX h.ok.l2,bX h.ok.l3,by show (s.sa ++ [i]).length<=m + 1;rw[bt];exact dz h.ok.l4,h.ok.nd⟩,h.ng,h.nn⟩,rfl⟩
theorem zhg(er:Er):cf (WG er)=ae:=by cases er <;> decide +kernel
theorem zfU{w:Int}(O:JZ C)(h:RnI C m s)(ho:yh C s=ao)(hw:inW w=ae):RnI C (m + 1) (xB C w s):=by
 have no:¬ yh C s=ae:=by rw[ho];decide
 have lt:=Yz no
 have hc:C[s.n]?=aa C[s.n]:=ba lt
 have es:xB C w s=zW C[s.n] w s:=by unfold xB;rw[ak no,hc]
 have wn:s.why=ai:=by
  cases e:s.why with
  | none=>rfl
  | some v=>exact absurd (show yh C s=ae by unfold yh;rw[e];rfl) no
 have mn:=h.at_ wn
 have ok:=O.ok _ (dM lt)
 have pl:=O.pl _ (dM lt)
 have P:RnP m s:=⟨h.ok,h.ng,h.nn⟩
 have fin:∀ {s':RSt} {k:Nat},RnP (m + 1) s'->(s'.why=ai->m + 1<=k)->(∀v,s'.why=aa v->cf v=ae)->RnI C (m + 1) { s' with n:=k }:=λ{s' k} p l y =>
  ⟨⟨p.ok.so,p.ok.gw,p.ok.nw,p.ok.l1,p.ok.l2,p.ok.l3,p.ok.l4,p.ok.nd⟩,p.ng,p.nn,l,y⟩
 have bad:∀er,RnI C (m + 1) { s with why:=aa (WG er) }:=λer=>⟨⟨P.up.ok.so,P.up.ok.gw,P.up.ok.nw,P.up.ok.l1,P.up.ok.l2,P.up.ok.l3,P.up.ok.l4,P.up.ok.nd⟩,P.ng,P.nn,λz=>(by cases z),λv z=>by cases z;exact zhg er⟩
 have does:∀r:Rw,vi r->XJ (.row r)->zfL (.row r)->RnI C (m + 1) (zW (.row r) w s):=λr hf ok pl=>by
  unfold zW
  rw[QD hf]
  cases hk:doR r w s with
  | error er=>exact bad er
  | ok s' =>
   obtain⟨a,b⟩:=zhf P hf ok pl hw hk
   exact fin a (λ_=>by lia) (λv z=>h.wy v (by rw[<-b];exact z))
 rw[es]
 have hg:∀to,C[s.n]=.go to->s.n < to:=λto e=>O.fg s.n to (by rw[hc,e])
 have hs:∀e to,C[s.n]=.skip e to->s.n < to:=λe to e2=>O.fw s.n to e (by rw[hc,e2])
 generalize C[s.n]=c at *
 cases c with
 | go to =>
  have:=hg to rfl
  exact fin P.up (λ_=>by lia) h.wy
 | skip e to =>
  have:=hs e to rfl
  cases hk:rk s.sl e with
  | error er=>simp only[zW,yv,hk];exact bad er
  | ok i =>
   simp only[zW,yv,hk]
   refine fin P.up (λ_=>?_) h.wy
   split <;> lia
 | row r =>
  cases r with
  | off e =>
   cases hk:rk s.sl e with
   | error er=>simp only[zW,yv,hk];exact bad er
   | ok i =>
    by_cases hi:i=0
    ·simp only[zW,yv,hk,ap hi]
     exact fin P.up (λ_=>by lia) h.wy
    ·simp only[zW,yv,hk,ak hi]
     exact fin (s':={ s with why:=aa (bg "told") }) ⟨⟨P.up.ok.so,P.up.ok.gw,P.up.ok.nw,P.up.ok.l1,P.up.ok.l2,P.up.ok.l3,P.up.ok.l4,P.up.ok.nd⟩,P.ng,P.nn⟩ (λz=>by cases z) (λv z=>by cases z;decide +kernel)
  | iff e b d=>exact fin (k:=s.n + 1) P.up (λ_=>by lia) h.wy
  | take sh e x=>exact does (.take sh e x) trivial ok pl
  | give sh e x=>exact does (.give sh e x) trivial ok pl
  | lt sh e=>exact does (.lt sh e) trivial ok pl
  | say e=>exact does (.say e) trivial ok pl
structure FwC(k:Nat)(C:List Cs):Prop where
 ok:∀c∈C,XJ c/\zfL c
 fw:∀(i to:Nat) (e:List V),C[i]?=aa (Cs.skip e to)->k + i < to
 fg:∀(i to:Nat),C[i]?=aa (Cs.go to)->k + i < to
theorem FwC.nil(k:Nat):FwC k []:=⟨λc h=>(nomatch h),λi to e h=>by simp at h,λi to h=>by simp at h⟩
theorem FwC.cons(h1:XJ c/\zfL c)(h2:∀e to,c=.skip e to->k < to)(h3:∀to,c=.go to->k < to)(h:FwC (k + 1) C):FwC k (c :: C):=by
 refine⟨λx hx=>?_,λi to e hi=>?_,λi to hi=>?_⟩
 ·rcases bS.mp hx with rfl | hx
  ·exact h1
  ·exact h.ok x hx
 ·cases i with
  | zero=>have:=h2 e to (by simpa using hi);lia
  | succ i=>have:=h.fw i to e (by simpa using hi);lia
 ·cases i with
  | zero=>have:=h3 to (by simpa using hi);lia
  | succ i=>have:=h.fg i to (by simpa using hi);lia
theorem FwC.app:∀ {A:List Cs} {k:Nat} {B:List Cs},FwC k A->FwC (k + A.length) B->FwC k (A ++ B)
 | [],k,B,_,h=>by simpa using h
 | c :: A,k,B,h,h'=>by
  rw[bP]
  refine .cons (h.ok c bC) (λe to z=>by have:=h.fw 0 to e (by rw[z];rfl);lia) (λto z=>by have:=h.fg 0 to (by rw[z];rfl);lia) (FwC.app ⟨λx hx=>h.ok x (bE _ hx),λi to e hi=>?_,λi to hi=>?_⟩ (by rw[cA] at h';rw[show k + 1 + A.length=k + (A.length + 1) by lia];exact h'))
  ·have:=h.fw (i + 1) to e (by simpa using hi);lia
  ·have:=h.fg (i + 1) to (by simpa using hi);lia
mutual
theorem zef:∀(r:Rw) (k:Nat),xV r->WI r->FwC k (yB r k)
 | .iff e a b,k,o,p=>by
  unfold xV at o
  unfold WI at p
  have ha:=Zm a (k + 1) o.2.1 p.2.1
  have hb:=Zm b (k + 2 + (zt a (k + 1)).length) o.2.2 p.2.2
  have ec:yB (.iff e a b) k=blk e k (zt a (k + 1)) (Rws.isNil b) (zt b (k + 2 + (zt a (k + 1)).length)):=by rw[yB]
  rw[ec]
  generalize zt a (k + 1)=A at *
  generalize zt b (k + 2 + A.length)=B at *
  unfold blk
  split
  ·exact .cons ⟨o.1,trivial⟩ (λe' to z=>by cases z;lia) (λto z=>nomatch z) ha
  ·refine .cons ⟨o.1,trivial⟩ (λe' to z=>by cases z;lia) (λto z=>nomatch z) (.app ha (.cons ⟨trivial,trivial⟩ (λe' to z=>nomatch z) (λto z=>by cases z;lia) ?_))
   rw[show k + 1 + A.length + 1=k + 2 + A.length by lia]
   exact hb
 | .take sh e sl,k,o,p=>by rw[vM (x:=.take sh e sl) trivial];exact .cons ⟨o,p⟩ (λ_ _ z=>nomatch z) (λ_ z=>nomatch z) (.nil _)
 | .give sh e f,k,o,p=>by rw[vM (x:=.give sh e f) trivial];exact .cons ⟨o,p⟩ (λ_ _ z=>nomatch z) (λ_ z=>nomatch z) (.nil _)
 | .lt sl e,k,o,p=>by rw[vM (x:=.lt sl e) trivial];exact .cons ⟨o,p⟩ (λ_ _ z=>nomatch z) (λ_ z=>nomatch z) (.nil _)
 | .say e,k,o,p=>by rw[vM (x:=.say e) trivial];exact .cons ⟨o,p⟩ (λ_ _ z=>nomatch z) (λ_ z=>nomatch z) (.nil _)
 | .off e,k,o,p=>by rw[vM (x:=.off e) trivial];exact .cons ⟨o,p⟩ (λ_ _ z=>nomatch z) (λ_ z=>nomatch z) (.nil _)
theorem Zm:∀(r:Rws) (k:Nat),yJ r->x0 r->FwC k (zt r k)
 | .nil,k,o,p=>by rw[zt];exact .nil k
 | .cons r rs,k,o,p=>by
  unfold yJ at o
  unfold x0 at p
  rw[zt]
  exact .app (zef r k o.1 p.1) (Zm rs _ o.2 p.2)
end
theorem zh9(h1:Zo 6 r)(h2:yJ r)(h3:(zt r 0).length<=40):JZ (zt r 0):=by
 have f:=Zm r 0 h2 h1.pl
 exact⟨λc hc=>(f.ok c hc).1,λc hc=>(f.ok c hc).2,λi to e h=>by have:=f.fw i to e h;lia,λi to h=>by have:=f.fg i to h;lia,h3⟩
def plD(p:Pl):PyData:=.tuple [.str p.1,.int p.2]
def Zq(r:Row):PyData:=.tuple [plD r.1,.int r.2]
theorem zhh(h:H q=aa (.tup [.str p.1,.int p.2])):Dat K H (.ref q) (plD p):=.tup (SqT.of h) (.cons (.str _) (.cons (.int _) .nil))
theorem zeg(h:cf p.1=ae):zL (plD p)=ae:=by simp[plD,zL,z5,h]
theorem zeh(p:Pl):(plD p).depth<=2:=by simp[plD,dm,cq]
theorem zbK:∀ {ys:List V} {rows:List Row},Paired (PrAt H) ys rows->DatAll K H ys (rows.map Zq)
 | _,_,.nil=>.nil
 | _,_,.cons ⟨r,p,e1,e2,e3⟩ t=>by
  rw[b7,e1]
  exact .cons (.tup (SqT.of e2) (.cons (zhh e3) (.cons (.int _) .nil))) (zbK t)
theorem WV(h:LsAt H l rows):Dat K H (.ref l) (.list (rows.map Zq)):=by
 obtain⟨xs,h1,h2⟩:=h
 exact .lst (SqL.of h1) (zbK h2)
theorem Jk:∀ {rows:List Row},(∀r∈rows,cf r.1.1=ae)->z5 (rows.map Zq)=ae
 | [],_=>rfl
 | r :: t,h=>by
  rw[b7,z5,Jk (λx hx=>h x (bE _ hx))]
  have:=zeg (h r bC)
  simp[Zq,zL,z5,this]
theorem QH:∀(rows:List Row),cq (rows.map Zq)<=3
 | []=>by simp[cq]
 | r :: t=>by
  have h:=QH t
  have h2:=zeh r.1
  rw[b7,cq]
  simp only[Zq,dm,cq] at h2 ⊢
  lia
theorem qU{rows:List Row}(h:∀r∈rows,cf r.1.1=ae):zL (.list (rows.map Zq))=ae:=by rw[zL];exact Jk h
theorem YA(rows:List Row):(PyData.list (rows.map Zq)).depth<=4:=by
 have:=QH rows
 rw[dm];lia
section
variable {l:ag}
theorem zia{H':Hp}(h:LsAt H l rows)(k:∀o,H l=aa o->H' l=aa o)(ts:TSm H H'):LsAt H' l rows:=by
 obtain⟨xs,h1,h2⟩:=h
 exact⟨xs,k _ h1,Paired.mapP h2 λ_ _ ⟨r,p,e1,e2,e3⟩=>⟨r,p,e1,ts _ _ e2,ts _ _ e3⟩⟩
theorem xm{H':Hp}(h:LsAt H l rows)(s:Same H H'):LsAt H' l rows:=zia h (λo e=>s _ _ e) λb ys e=>s _ _ e
end
section
variable {C:List Cs}{s:RSt}{m:Nat}
theorem zei:cf (bg "done")=ae:=by decide +kernel
def ocD:Oc->PyData
 | .done sa=>.tuple [.str (bg "done"),.tuple (sa.map ms)]
 | .off w=>.tuple [.str (bg "off"),.str w]
theorem zbL{H':Hp}(h:OcAt H v oc)(s:Same H H'):OcAt H' v oc:=by
 cases oc with
 | done sa=>obtain⟨o,y,e1,e2,e3⟩:=h;exact⟨o,y,e1,s _ _ e2,s _ _ e3⟩
 | off w=>obtain⟨o,e1,e2⟩:=h;exact⟨o,e1,s _ _ e2⟩
theorem zib{H':Hp}(h:OcAt H v oc)(s:TSm H H'):OcAt H' v oc:=by
 cases oc with
 | done sa=>obtain⟨o,y,e1,e2,e3⟩:=h;exact⟨o,y,e1,s _ _ e2,s _ _ e3⟩
 | off w=>obtain⟨o,e1,e2⟩:=h;exact⟨o,e1,s _ _ e2⟩
theorem zej(h:OcAt H v oc):Dat K H v (ocD oc):=by
 cases oc with
 | done sa =>
  obtain⟨o,y,rfl,e2,e3⟩:=h
  exact .tup (SqT.of e2) (.cons (.str _) (.cons (.tup (SqT.of e3) (DatAll.of λi _=>.int i)) .nil))
 | off w =>
  obtain⟨o,rfl,e2⟩:=h
  exact .tup (SqT.of e2) (.cons (.str _) (.cons (.str _) .nil))
theorem WW:∀(sa:List Int),z5 (sa.map ms)=ae
 | []=>rfl
 | i :: t=>by rw[b7,z5,WW t];rfl
theorem Jl:∀(sa:List Int),cq (sa.map ms)=0
 | []=>by simp[cq]
 | i :: t=>by rw[b7,cq,Jl t,dm];rfl
theorem QI(h:∀w,oc=.off w->cf w=ae):zL (ocD oc)=ae:=by
 cases oc with
 | done sa=>have:=zei;simp[ocD,zL,z5,WW,this]
 | off w=>have:=h w rfl;have k:=zfB;simp[ocD,zL,z5,this,k]
theorem zbM(oc:Oc):(ocD oc).depth<=3:=by
 cases oc with
 | done sa=>simp only[ocD,dm,cq,Jl];lia
 | off w=>simp only[ocD,dm,cq];lia
def ppD(oc:Oc)(no gi:List Row):PyData:=.tuple [ocD oc,.list (no.map Zq),.list (gi.map Zq)]
theorem zfV(h:vj s out)(h':vj s out'):out=out':=by
 unfold vj at h h'
 cases e:s.why with
 | some w=>rw[e] at h h';rw[h,h']
 | none=>rw[e] at h h';exact ko h.1 h'.1 λ⟨p,w⟩=>(h.2 p w).trans (h'.2 p w).symm
theorem zic(I:RnI C m s)(h:vj s out):∀r∈out,cf r.1.1=ae:=by
 unfold vj at h
 cases e:s.why with
 | some w=>rw[e] at h;rw[h];exact λr hr=>nomatch hr
 | none =>
  rw[e] at h
  intro r hr
  exact Zi (P:=λr=>cf r.1.1=ae) I.ng ((h.2 r.1 r.2).mp hr)
theorem zhi(h:vj s out):out.length<=s.gi.length:=by
 unfold vj at h
 cases e:s.why with
 | some w=>rw[e] at h;rw[h];exact cp _
 | none =>
  rw[e] at h
  have ld:=xO s.gi
  have n1:((dOf s.gi).map (·.1)).Nodup:=(vQ s.gi).1
  have n2:((out.map (·.1)).map zI).Nodup:=by
   have:=h.1.nd
   unfold ff at *
   rw[fc]
   exact this.imp λ{a b} hab z=>hab (xz z)
  have sub2:∀k∈(out.map (·.1)).map zI,k∈(dOf s.gi).map (·.1):=λk hk=>by
   obtain⟨p,hp,rfl⟩:=cj.mp hk
   obtain⟨r,hr,rfl⟩:=cj.mp hp
   exact dt (f:=(·.1)) (mem_dOf.mpr ⟨r.1,r.2,rfl,(h.2 r.1 r.2).mp hr⟩)
  have:=jO n2 sub2
  simp only[bu] at this
  lia
end
theorem zhj{H0 H1 H3:Hp}(s1:Same H0 H1)(hx:H1 x=ai)(hdx:H1 dx=ai)(k3:Xl x (upd (upd H1 dx (.own x)) x (.ins t.c_Run dx [])) H3)(fr:∀b,OwA x a b->b=x\/upd (upd H1 dx (.own x)) x (.ins t.c_Run dx []) b=ai):Same H1 H3/\∀b,OwA x a b->H1 b=ai:=by
 have s2:Same H1 (upd (upd H1 dx (HO.own x)) x (HO.ins t.c_Run dx [])):=λb o e=>by rw[zl (zG e hx),zl (zG e hdx)];exact e
 refine⟨λb o e=>k3 b o (λz=>by rw[z,hx] at e;cases e) (s2 b o e),λb ob=>?_⟩
 rcases fr b ob with z | z
 ·rw[z];exact hx
 ·exact zD s2 z
theorem zfW(ns:List Int)(lo hi:Option Int):∃ys:List Int,XB (ns.map V.int) lo hi=ys.map V.int/\ys.length<=ns.length:=by
 refine⟨(ns.drop (HT.sIx ns.length 0 lo)).take (HT.sIx ns.length ns.length hi - HT.sIx ns.length 0 lo),?_,?_⟩
 ·unfold XB
  rw[gn,gO,bu]
 ·rw[cm,cC];lia
theorem zhk{j c:Int}(hj:0<=j)(hc:0 < c):(WF 0 j c:Int)<=j:=by
 unfold WF
 split
 ·rename_i h
  have h1:=lF (a:=j - 0 - 1) (b:=c) (by lia) (by lia)
  have h2:=oU (a:=j - 0 - 1) c (by lia)
  rw[fA (by lia)]
  lia
 ·simpa using hj
theorem QJ{H:Hp}{nx:St->Hp->Prop}{B:V->St->Hp->(St->Hp->Prop)->Prop}{lo c:Int}(Pv:Nat->St->Hp->Prop)(h0:Pv 0 σ H)(hs:∀i σ H,i < n->Pv i σ H->B (.int (lo + i * c)) σ H (Pv (i + 1)))(hd:∀σ H,Pv n σ H->nx σ H) :
  ∃W:Nat->Nat->St->Hp->Prop,(∃m,W 0 m σ H)/\∀i m σ H,W i m σ H->((zdO lo c n).stop i H/\nx σ H)\/((zdO lo c n).go i H/\∃N:St->Hp->Prop,(∀σ' H',N σ' H'->∃m',m' < m/\W (i + 1) m' σ' H')/\∀x H',(zdO lo c n).yld i H x H'->B x σ H' N):=by
 refine⟨λi m σ H=>m=n - i/\i<=n/\Pv i σ H,⟨n,by simp,cp _,h0⟩,?_⟩
 rintro i m σ H ⟨rfl,hi,p⟩
 by_cases hlt:i < n
 ·refine .inr ⟨hlt,Pv (i + 1),λσ' H' p'=>⟨n - (i + 1),by lia,rfl,hlt,p'⟩,?_⟩
  rintro x H' ⟨rfl,rfl⟩
  exact hs i σ _ hlt p
 ·obtain rfl:i=n:=by lia
  exact .inl ⟨bq _,hd σ H p⟩
theorem _root_.L2.PrAt.same{H H':Hp}(h:Qu H v q)(s:Same H H'):Qu H' v q:=by
 obtain⟨r,p,e,h1,h2⟩:=h
 exact⟨r,p,e,s _ _ h1,s _ _ h2⟩
theorem _root_.L2.PrAt.tsame{H H':Hp}(h:Qu H v q)(s:Xv H H'):Qu H' v q:=by
 obtain⟨r,p,e,h1,h2⟩:=h
 exact⟨r,p,e,s _ _ h1,s _ _ h2⟩
theorem kM{H H':Hp}(s:Xv H H'):∀ {vs:List V} {rows:List Row},wJ H vs rows->wJ H' vs rows
 | _,_,.nil=>.nil
 | _,_,.cons h r=>.cons (h.tsame s) (kM s r)
theorem x5{H H':Hp}(s:Same H H'):∀ {vs:List V} {rows:List Row},wJ H vs rows->wJ H' vs rows
 | _,_,.nil=>.nil
 | _,_,.cons h r=>.cons (h.same s) (x5 s r)
theorem QK(h:wJ H vs rows):vs.length=rows.length:=bM h
theorem Jm{H:Hp}{v:V}{q:Row}:∀ {ys:List V} {rows:List Row},wJ H ys rows->Qu H v q->wJ H (ys ++ [v]) (rows ++ [q])
 | _,_,.nil,h=>.cons h .nil
 | _,_,.cons a r,h=>.cons a (Jm r h)
theorem zek(rows:List Row):∃qs:List Pl,(dOf rows).map (·.1)=qs.map zI/\qs.Nodup/\∀p,p∈qs↔(zq rows p).isSome=ae:=by
 have h:=vQ rows
 have:∀(kvs:List (List Key × V)),(∀kv∈kvs,∃(p:Pl) (w:Int),kv=(zI p,.int w))->∃qs:List Pl,kvs.map (·.1)=qs.map zI:=λkvs=>by
  induction kvs with
  | nil=>exact λ_=>⟨[],rfl⟩
  | cons kv r ih =>
   intro hk
   obtain⟨qs,e⟩:=ih λz hz=>hk z (bE _ hz)
   obtain⟨p,w,e2⟩:=hk kv bC
   exact⟨p :: qs,by rw[b7,b7,e,e2]⟩
 obtain⟨qs,e⟩:=this _ h.2
 refine⟨qs,e,wR (f:=zI) (by rw[<-e];exact h.1),λp=>?_⟩
 constructor
 ·intro hp
  have:zI p∈(dOf rows).map (·.1):=by rw[e];exact dt hp
  obtain⟨kv,hk,e1⟩:=cj.mp this
  obtain⟨p',w,rfl,hw⟩:=mem_dOf.mp hk
  have:=xz e1
  subst this
  rw[hw];rfl
 ·intro hp
  obtain⟨w,hw⟩:=eX.mp hp
  have:zI p∈qs.map zI:=by rw[<-e];exact dt (f:=(·.1)) (mem_dOf.mpr ⟨p,w,rfl,hw⟩)
  obtain⟨p',hp',e1⟩:=cj.mp this
  rw[<-xz e1];exact hp'
def Jn(rows:List Row)(p:Pl):Option Row:=match zq rows p with
 | some w=>if w=0 then ai else aa (p,w)
 | none=>ai
def zhl(rows:List Row)(qs:List Pl)(i:Nat)(ys:List V)(H:Hp):Prop:=∃out:List Row,wJ H ys out/\out=(qs.take i).filterMap (Jn rows)
theorem zfX{H H':Hp}(s:Xv H H')(h:zhl rows qs i ys H):zhl rows qs i ys H':=by
 obtain⟨out,h1,h2⟩:=h
 exact⟨out,kM s h1,h2⟩
theorem toRow_iff :Jn rows p=aa b↔b.1=p/\zq rows p=aa b.2/\b.2≠0:=by
 unfold Jn
 obtain⟨p',w'⟩:=b
 cases e:zq rows p with
 | none=>simp
 | some w =>
  by_cases h:w=0
  ·subst h
   simp only[if_true]
   constructor
   ·intro z;cases z
   ·rintro⟨_,z,h2⟩
    exact absurd (ck z).symm h2
  ·simp only[ak h,bj,Prod.mk.injEq]
   constructor
   ·rintro⟨rfl,rfl⟩;exact⟨rfl,rfl,h⟩
   ·rintro⟨rfl,rfl,_⟩;exact⟨rfl,rfl⟩
theorem zhm{ps:List Pl}(hw:ps.Pairwise λa b=>yf a b=ae)(hm:∀p,p∈ps↔(zq rows p).isSome=ae):xj rows (ps.filterMap (Jn rows)):=by
 constructor
 ·unfold Rising
  rw[List.pairwise_filterMap]
  refine hw.imp λ{a a'} h b hb b' hb'=>?_
  rw[(toRow_iff.mp hb).1,(toRow_iff.mp hb').1];exact h
 ·intro p w
  rw[List.mem_filterMap]
  constructor
  ·rintro⟨a,_,h⟩
   obtain⟨h1,h2,h3⟩:=toRow_iff.mp h
   cases h1
   exact⟨h2,h3⟩
  ·rintro⟨h1,h2⟩
   exact⟨p,(hm p).mpr (by rw[h1];rfl),toRow_iff.mpr ⟨rfl,h1,h2⟩⟩
theorem VC{a:ag}{xs:List V}{rows:List Row}(h1:H a=aa (.lst xs))(h2:wJ H xs rows)(h4:(dOf rows).length<=900)(h5:rows.length<=1000)(q:∀l ys out H',Same H H'->H l=ai->H' l=aa (.lst ys)->wJ H' ys out->xj rows out->Q (.ref l) H') :
  jf K t { nx:=λ_ H'=>Q .non H',rt:=Q } (L2.start ["rows","worths"] [.ref a]) H:=by
 simp only[jf,qh,zdE,Yp,L2.start,zo,zJ,zm,zB,tOp,zc,tC,yC,zb,zi,zA,tCB,xI,Yj,yD,rNe,Ye,cr,bG,bJ,bP,b8,bb,bd,bj,ah,V.ref.injEq,V.bl.injEq,bp,and_true,am,br,bx,bU,bL,cB,decide_eq_false_iff_not]
 refine⟨xs,h1,rows,h2,h5,λd hd=>?_⟩
 have S:∀u:HO,Same H (upd H d u):=λu=>isV (o:=u) d hd
 obtain⟨qs,hqs,nqs,mqs⟩:=zek rows
 have ld:=xO rows
 generalize hH0:upd H d (.dT (dOf rows))=H0
 have S0:Same H H0:=by rw[<-hH0];exact S _
 have d0:H0 d=aa (.dT (dOf rows)):=by rw[<-hH0];exact zf
 refine⟨dOf rows,d0,qs,hqs,by lia,λl ps hl0 hperm hpw hps=>?_⟩
 obtain⟨H1,eH,s1,q1⟩:=zfb (o:=HO.lst (ps.map λn=>V.ref n.1)) hl0
 rw[<-eH]
 clear eH
 refine⟨⟨_,SqL.of q1⟩,λD hD=>?_⟩
 refine jU (J:=Itl K l) ps.length (by have:=hperm.length_eq;have:=congrArg bJ hqs;simp at *;lia) (λτ=>∃o,τ=[o,aa (.ref d)]) (zhl rows (ps.map (·.2))) (λi ys H H' s h=>zfX s h) ⟨_,rfl⟩ ⟨[],.nil,rfl⟩ (λi H s h=>⟨_,_,SqL.of (s _ _ q1),ba (by rw[bu];exact h)⟩) (λH s=>⟨_,SqL.of (s _ _ q1),by rw[bu];exact bq _⟩) hD ?_ ?_
 ·rintro i v τ ys H4 H5 ⟨o,rfl⟩ s4 hi hR ⟨rfl,hv⟩
  have hv:=hv _ (SqL.of (s4 _ _ q1))
  rw[bW] at hv
  obtain⟨n,hn,rfl⟩:=dy.mp hv
  have hp:=s4 _ _ (s1 _ _ (hps n (bD hn)))
  simp only[bb,bd,bj,ah,V.ref.injEq,bp,and_true,br]
  have hm:n.2∈qs:=hperm.mem_iff.mp (dt (bD hn))
  obtain⟨w,hw⟩:=eX.mp ((mqs n.2).mp hm)
  have g:DGet H5 d (.ref n.1) ((zq rows n.2).map V.int):=.inr ⟨dOf rows,zI n.2,n.1,.inl (s4 _ _ (s1 _ _ d0)),rfl,hp,(xM rows n.2).symm⟩
  rw[hw] at g
  have tk:(ps.map (·.2)).take (i + 1)=(ps.map (·.2)).take i ++ [n.2]:=by rw[cX,bW,hn];rfl
  obtain⟨out,hr,ho⟩:=hR
  refine⟨_,g,rfl,xo (λc=>⟨_,g,by decide,λp hp2=>⟨⟨_,rfl⟩,?_,isV p hp2⟩⟩) λc=>⟨⟨_,rfl⟩,?_,Same.refl _⟩⟩
  ·refine⟨out ++ [(n.2,w)],Jm (x5 (isV p hp2) hr) ⟨p,n.1,rfl,zf,isV p hp2 _ _ hp⟩,?_⟩
   have hw0:w≠0:=λz=>c (by rw[z])
   rw[tk,nh,<-ho]
   simp[Jn,hw,hw0]
  ·refine⟨out,hr,?_⟩
   have hw0:w=0:=by simpa using c
   rw[tk,nh,<-ho]
   simp[Jn,hw,hw0]
 ·rintro ys H4 hly ⟨out,hr,ho⟩ s4 hq
  refine q D ys out H4 (S0.trans (s1.trans s4)) (zD (S0.trans s1) hD) hq hr ?_
  rw[bQ (by rw[bu];exact bq _)] at ho
  subst ho
  exact zhm hpw λp=>(hperm.mem_iff.trans (mqs p))
theorem vY{p:Pl}{w:Int}:∀ {l:List Row},zq l p=aa w->(p,w)∈l
 | [],h=>by cases h
 | r :: t,h=>by
  rw[zq] at h
  cases e:zq t p with
  | some w' =>
   rw[e] at h
   have:w'=w:=by simpa using h
   subst this
   exact bE _ (vY e)
  | none =>
   rw[e] at h
   by_cases c:r.1=p
   ·rw[ap c] at h
    have:r.2=w:=by simpa using h
    rw[<-c,<-this];exact bC
   ·rw[ak c] at h;cases h
theorem doF{P:Str->Option af}(T:Txt K P t):DoF K t:=⟨T.cl_Doing,T.na_Doing_slots,T.na_Doing_worths,T.na_Doing_sayings⟩
theorem DoAt.same{H0 H H':Hp}(D:DoAt t H0 H x dx sl wo sa s)(k:Same H H'):DoAt t H0 H' x dx sl wo sa s:=
 ⟨D.sm.trans k,D.f1,D.f2,D.f3,k _ _ D.ix,k _ _ D.hs,k _ _ D.hw,k _ _ D.ha⟩
theorem DoAt.putS{H0 H:Hp}(D:DoAt t H0 H x dx sl wo sa s)(kvs:List (Key × V)):DoAt t H0 (upd H sl (.dK kvs)) x dx sl wo sa { s with sl:=kvs }:=
 ⟨z6 D.sm D.f1,D.f1,D.f2,D.f3,by rw[zl (yp D.ix D.hs (λz=>nomatch z))];exact D.ix,zf,by rw[zl (yp D.hw D.hs (λz=>nomatch z))];exact D.hw,by rw[zl (yp D.ha D.hs (λz=>nomatch z))];exact D.ha⟩
theorem DoAt.putW{H0 H:Hp}(D:DoAt t H0 H x dx sl wo sa s)(rows:List Row):DoAt t H0 (upd H wo (.dT (dOf rows))) x dx sl wo sa { s with wo:=rows }:=
 ⟨z6 D.sm D.f2,D.f1,D.f2,D.f3,by rw[zl (yp D.ix D.hw (λz=>nomatch z))];exact D.ix,by rw[zl (yp D.hs D.hw (λz=>nomatch z))];exact D.hs,zf,by rw[zl (yp D.ha D.hw (λz=>nomatch z))];exact D.ha⟩
theorem DoAt.putA{H0 H:Hp}(D:DoAt t H0 H x dx sl wo sa s)(is:List Int):DoAt t H0 (upd H sa (.lst (is.map V.int))) x dx sl wo sa { s with sa:=is }:=
 ⟨z6 D.sm D.f3,D.f1,D.f2,D.f3,by rw[zl (yp D.ix D.ha (λz=>nomatch z))];exact D.ix,by rw[zl (yp D.hs D.ha (λz=>nomatch z))];exact D.hs,by rw[zl (yp D.hw D.ha (λz=>nomatch z))];exact D.hw,zf⟩
theorem WX{x a:ag}{tab:List Row}{H0:Hp}{dx:ag}(F:DoF K t)(h1:Same H0 H)(h2:H0 x=ai)(h3:H x=aa (.ins t.c_Doing dx []))(h4:LsAt H0 a tab)(h5:tab.length<=500)
  (q:∀H' sl wo sa,DoAt t H0 H' x dx sl wo sa ⟨[],tab,[]⟩->Q .non H') :
  jA K t { nx:=λ_ H'=>Q .non H',rt:=Q } (L2.start ["self","table"] [.ref x,.ref a]) H:=by
 simp only[jA,Yp,qf,L2.start,zo,zc,xq,zb,zi,tCB,YL,cr,bG,bJ,bB,bb,bd,bj,ah,V.ref.injEq,bp,and_true,am,bU,bL]
 intro sl hsl
 obtain⟨xs,hx,rx⟩:=h4
 have nsl:x≠sl:=zG h3 hsl
 have fsl:H0 sl=ai:=zD h1 hsl
 refine⟨_,_,_,(by rw[zl nsl];exact h3),F.cl,F.n1,by decide,?_⟩
 have S2:Same H0 (upd (upd H sl (.dK [])) x (.ins t.c_Doing dx (z4 "slots" (.ref sl) []))):=z6 (z6 h1 fsl) h2
 have x2:upd (upd H sl (.dK [])) x (.ins t.c_Doing dx (z4 "slots" (.ref sl) [])) x=aa (.ins t.c_Doing dx (z4 "slots" (.ref sl) [])):=zf
 have l2:upd (upd H sl (.dK [])) x (.ins t.c_Doing dx (z4 "slots" (.ref sl) [])) sl=aa (.dK []):=by rw[zl (cH nsl),zf]
 generalize upd (upd H sl (.dK [])) x (.ins t.c_Doing dx (z4 "slots" (.ref sl) []))=H2 at *
 refine⟨xs,S2 _ _ hx,tab,x5 S2 rx,by lia,λwo hwo=>?_⟩
 have nwo:x≠wo:=zG x2 hwo
 have fwo:H0 wo=ai:=zD S2 hwo
 refine⟨_,_,_,(by rw[zl nwo];exact x2),F.cl,F.n2,(by simp[z4]),cp _,?_⟩
 have S3:Same H0 (upd (upd H2 wo (.dT (dOf tab))) x (.ins t.c_Doing dx (z4 "worths" (.ref wo) (z4 "slots" (.ref sl) [])))):=z6 (z6 S2 fwo) h2
 have x3:upd (upd H2 wo (.dT (dOf tab))) x (.ins t.c_Doing dx (z4 "worths" (.ref wo) (z4 "slots" (.ref sl) []))) x=aa (.ins t.c_Doing dx (z4 "worths" (.ref wo) (z4 "slots" (.ref sl) []))):=zf
 have l3:upd (upd H2 wo (.dT (dOf tab))) x (.ins t.c_Doing dx (z4 "worths" (.ref wo) (z4 "slots" (.ref sl) []))) sl=aa (.dK []):=by rw[zl (cH nsl),zl (zG l2 hwo)];exact l2
 have w3:upd (upd H2 wo (.dT (dOf tab))) x (.ins t.c_Doing dx (z4 "worths" (.ref wo) (z4 "slots" (.ref sl) []))) wo=aa (.dT (dOf tab)):=by rw[zl (cH nwo),zf]
 generalize upd (upd H2 wo (.dT (dOf tab))) x (.ins t.c_Doing dx (z4 "worths" (.ref wo) (z4 "slots" (.ref sl) [])))=H3 at *
 intro sa hsa
 have nsa:x≠sa:=zG x3 hsa
 refine⟨_,_,_,(by rw[zl nsa];exact x3),F.cl,F.n3,(by simp[z4];split <;> simp),q _ sl wo sa ⟨z6 (z6 S3 (zD S3 hsa)) h2,fsl,fwo,zD S3 hsa,zf,?_,?_,?_⟩⟩
 ·rw[zl (cH nsl),zl (zG l3 hsa)];exact l3
 ·rw[zl (cH nwo),zl (zG w3 hsa)];exact w3
 ·rw[zl (cH nsa),zf];rfl
theorem Z8{x tm:ag}{e:List V}{H0:Hp}{dx sl wo sa:ag}{s:Sta}{E:XK}(F:DoF K t)(D:DoAt t H0 H x dx sl wo sa s)(h2:yr s.sl)(h3:H tm=aa (.tup e))(h4:TermOk e)
  (q:∀H',Same H H'->fin t (rk s.sl e) Q E H'):wm K t E { nx:=λ_ H'=>Q .non H',rt:=Q } (L2.start ["self","term"] [.ref x,.ref tm]) H:=by
 simp only[wm,va,yG,L2.start,zB,zc,zb,zi,zn,cr,bG,bJ,bB,bb,bd,bj,ah,V.ref.injEq,bp,and_true,and_assoc,am,bU,bL]
 exact⟨_,_,_,D.ix,F.cl,F.n1,_,rfl,s.sl,_,rfl,e,h3,D.hs,_,h4.good s.sl,h4.2.1,h4.2.2,h2,q⟩
theorem wq{H:Hp}{Q:VK}{E:XK}(h:ym t 0 vs H Q E):False:=by
 obtain⟨_,_,_,_,_,_,_,_,_,_,_,_,_,_,_,_,h,_⟩:=h
 exact lH _ h
def goI(t:Adr)(x l dx sl wo sa:ag)(xs:List V)(rws:Rws)(s:Sta)(n:Nat)(H0:Hp)(i:Nat)(σ:St)(H':Hp):Prop:=∃(s':Sta) (rest:Rws) (m:Nat),(∃o,σ=[aa (.ref x),aa (.ref l),o])/\DoAt t H0 H' x dx sl wo sa s'/\RwsAt w6 H0 (xs.drop i) rest/\yJ rest/\rest.deep < n + 1/\StOk m s'/\m + rest.cnt<=900/\yL rws s=yL rest s'
theorem LsAt.same{H H':Hp}(h:LsAt H a rows)(s:Same H H'):LsAt H' a rows:=by
 obtain⟨xs,h1,h2⟩:=h
 exact⟨xs,s _ _ h1,x5 s h2⟩
theorem OcAt.ts{H H':Hp}(s:Xv H H')(h:OcAt H v oc):OcAt H' v oc:=by
 cases oc with
 | done sa =>
  obtain⟨o,y,e,h1,h2⟩:=h
  exact⟨o,y,e,s _ _ h1,s _ _ h2⟩
 | off w =>
  obtain⟨o,e,h1⟩:=h
  exact⟨o,e,s _ _ h1⟩
theorem Z9{H H':Hp}(s:Xv H H'):∀ {vs:List V} {ocs:List Oc},Paired (OcAt H) vs ocs->Paired (OcAt H') vs ocs
 | _,_,.nil=>.nil
 | _,_,.cons h r=>.cons (h.ts s) (Z9 s r)
theorem LsAt.up{H:Hp}(h:LsAt H l rows)(hR:H R=aa (.lst xs))(n:l≠R):LsAt (upd H R (.lst ys)) l rows:=by
 obtain⟨zs,h1,h2⟩:=h
 exact⟨zs,by rw[zl n];exact h1,kM (WT hR) h2⟩
theorem WY{w:Str}{a:ag}{tab:List Row}(h1:LsAt H a tab)(q:∀r o l H',Same H H'->H l=ai->H' r=aa (.tup [o,.ref l])->OcAt H' o (.off w)->LsAt H' l tab->Q (.ref r) H') :
  jB K t { nx:=λ_ H'=>Q .non H',rt:=Q } (L2.start ["why","table"] [.str w,.ref a]) H:=by
 simp only[jB,L2.start,zas,zB,zc,tC,yC,zb,zi,tCB,cr,bG,bJ,bB,bb,bd,bj,ah,V.ref.injEq,bp,and_true,am,bU,bL]
 obtain⟨xs,hx,rx⟩:=h1
 refine⟨by decide,λo ho=>?_⟩
 have s1:=isV (o:=HO.tup [V.str (bg "off"),V.str w]) o ho
 refine⟨xs,.inl (SqL.of (s1 _ _ hx)),λl hl=>⟨by decide,λr hr=>?_⟩⟩
 have s2:=isV (o:=HO.lst xs) l hl
 have s3:=isV (o:=HO.tup [V.ref o,V.ref l]) r hr
 have S:=s1.trans (s2.trans s3)
 exact q r (.ref o) l _ S (zD s1 hl) zf ⟨o,rfl,s3 _ _ (s2 _ _ zf)⟩ ⟨xs,s3 _ _ zf,x5 S rx⟩
theorem J9{a:ag}{rows:List Row}(h1:LsAt H a rows)(h2:(dOf rows).length<=900)(h3:rows.length<=1000)(q:∀l out H',Same H H'->H l=ai->LsAt H' l out->xj rows out->Q (.ref l) H') :
  jf K t { nx:=λ_ H'=>Q .non H',rt:=Q } (L2.start ["rows","worths"] [.ref a]) H:=by
 obtain⟨xs,hx,rx⟩:=h1
 exact VC hx rx h2 h3 λl ys out H' s fr hy ry ti=>q l out H' s fr ⟨ys,hy,ry⟩ ti
theorem WZ{v:V}{a x dx sl wo sa:ag}{rws:Rws}{tab:List Row}{H0:Hp}{s:Sta}{b:Bool}(F:DoF K t)(h2:LsAt H0 a tab)(h3:Xq rws tab)(sm:Same H0 H)
  (hb:(b=ae/\yL rws ⟨[],tab,[]⟩=.go s/\DoAt t H0 H x dx sl wo sa s)\/(b=ao/\yL rws ⟨[],tab,[]⟩=.off))
  (q:∀r o l oc out H',Same H0 H'->H0 l=ai->H' r=aa (.tup [o,.ref l])->OcAt H' o oc->LsAt H' l out->we rws tab oc out->Q (.ref r) H') :
  Z3 K t { nx:=λ_ H'=>Q .non H',rt:=Q } [aa v,aa (.ref a),aa (.ref x),aa (.bl b)] H:=by
 simp only[Z3,yS,vc,zfk,yG,qv,Qi,zo,zB,zH,zc,tC,yC,zb,zi,zS,ZE,tB,tCB,zn,bJ,bB,bb,bd,bj,ah,V.ref.injEq,V.str.injEq,V.bl.injEq,bp,and_true,and_assoc,am,bL,cB]
 rcases hb with ⟨rfl,hg,D⟩ | ⟨rfl,hg⟩
 ·rw[ak (by decide)]
  refine⟨_,_,_,D.ix,F.cl,F.n3,_,rfl,_,rfl,_,.inl ⟨SqL.of D.ha,λy hy=>⟨by decide,λo ho=>?_⟩⟩⟩
  have s1:=isV (o:=HO.tup (s.sa.map V.int)) y hy
  have s2:=isV (o:=HO.tup [V.str (bg "done"),V.ref y]) o ho
  have y2:=s2 _ _ (show upd H y (HO.tup (s.sa.map V.int)) y=aa (.tup (s.sa.map V.int)) from zf)
  have o2:upd (upd H y (HO.tup (s.sa.map V.int))) o (HO.tup [V.str (bg "done"),V.ref y]) o=aa (.tup [V.str (bg "done"),V.ref y]):=zf
  have D2:=D.same (s1.trans s2)
  have S2:=sm.trans (s1.trans s2)
  generalize upd (upd H y (HO.tup (s.sa.map V.int))) o (HO.tup [V.str (bg "done"),V.ref y])=H2 at *
  refine⟨_,_,_,D2.ix,F.cl,F.n2,_,rfl,_,rfl,_,D2.hw,λr hr=>?_⟩
  have s3:=isV (o:=kS r wo) r hr
  have ok:=Ys rws (n:=tab.length) ⟨(λk v e=>by rw[Wf] at e;cases e),h3.iw,cp _,bq _,cp _⟩ h3.ok hg
  have few:=h3.fw s hg
  obtain⟨its,ei,nd,mi⟩:=zdN s.wo
  have li:its.length=(dOf s.wo).length:=by rw[ei,bu]
  have ld:=xO its
  refine⟨wo,zf,_,s3 _ _ D2.hw,by lia,λl ys H4 s4 fl hl pr=>?_⟩
  rw[ei] at pr
  have S4:=S2.trans (s3.trans s4)
  refine⟨its,⟨ys,hl,zbz pr⟩,by lia,by lia,λl2 out H5 s5 fl2 la ti=>⟨by decide,λrr hrr=>?_⟩⟩
  have s6:=isV (o:=HO.tup [V.ref o,V.ref l2]) rr hrr
  have k6:=s3.trans (s4.trans (s5.trans s6))
  exact q rr (.ref o) l2 (.done s.sa) out _ (S4.trans (s5.trans s6)) (zD S4 fl2) zf ⟨o,y,rfl,k6 _ _ o2,k6 _ _ y2⟩ (la.same s6) (by unfold we;rw[hg];exact⟨rfl,zfA nd mi ti⟩)
 ·rw[ap rfl]
  exact⟨tab,h2.same sm,λr o l H' s' fl hr oa la=>q r o l (.off "told") tab H' (sm.trans s') (zD sm fl) hr oa la (by unfold we;rw[hg];exact⟨rfl,rfl⟩)⟩
theorem zaQ{P:Str->Option af}{v:V}{a x dx sl wo sa:ag}{rws:Rws}{tab:List Row}{H0:Hp}(T:Txt K P t)(D:DoAt t H0 H x dx sl wo sa ⟨[],tab,[]⟩)(h1:RlAt w6 H0 v rws)(h2:LsAt H0 a tab)(h3:Xq rws tab)
  (q:∀r o l oc out H',Same H0 H'->H0 l=ai->H' r=aa (.tup [o,.ref l])->OcAt H' o oc->LsAt H' l out->we rws tab oc out->Q (.ref r) H') :
  Z4 K t { nx:=λ_ H'=>Q .non H',rt:=Q } [aa v,aa (.ref a),aa (.ref x),ai] H:=by
 have F:=doF T
 obtain⟨ra,xs,rfl,_,ha,hx⟩:=h1
 simp only[Z4,ym,yS,YQ,WC,zbn,zo,zB,zc,tC,zb,zi,zn,bB,bb,bd,bj,ah,V.ref.injEq,V.str.injEq,bp,and_true,and_assoc,am,br,bx]
 refine⟨dx,_,D.ix,rfl,xs,rws,tab.length,H0,dx,sl,wo,sa,⟨[],tab,[]⟩,D,ha,hx,h3.ok,h3.dp,⟨(λk v e=>by rw[Wf] at e;cases e),h3.iw,cp _,bq _,cp _⟩,by have:=h3.ln;lia,λH' s' g D'=>WZ F h2 h3 D'.sm (.inl ⟨rfl,g,D'⟩) q,λH' g sm=>WZ (s:=⟨[],[],[]⟩) (dx:=dx) (sl:=sl) (wo:=wo) (sa:=sa) F h2 h3 sm (.inr ⟨rfl,g⟩) q,λH' e g sm=>?_⟩
 cases e with
 | nought=>exact⟨t.c_Nought,rfl,.inr ⟨T.e_Nought_Great,T.e_Nought_Nought,tab,h2.same sm,λr o l H'' s hl hr oa la=>q r o l (.off "nought") tab H'' (sm.trans s) (zD sm hl) hr oa la (by unfold we;rw[g];exact⟨rfl,rfl⟩)⟩⟩
 | great=>exact⟨t.c_Great,rfl,.inl ⟨T.e_Great_Great,tab,h2.same sm,λr o l H'' s hl hr oa la=>q r o l (.off "great") tab H'' (sm.trans s) (zD sm hl) hr oa la (by unfold we;rw[g];exact⟨rfl,rfl⟩)⟩⟩
 | stuck=>trivial
theorem zcw{P:Str->Option af}{v:V}{a:ag}{rws:Rws}{tab:List Row}(T:Txt K P t)(h1:RlAt w6 H v rws)(h2:LsAt H a tab)(h3:Xq rws tab)
  (q:∀r o l oc out H',Same H H'->H l=ai->H' r=aa (.tup [o,.ref l])->OcAt H' o oc->LsAt H' l out->we rws tab oc out->Q (.ref r) H') :
  WN K t { nx:=λ_ H'=>Q .non H',rt:=Q } (L2.start ["rows","table","doing","came_through"] [v,.ref a]) H:=by
 simp only[WN,jl,zbc,L2.start,zo,zJ,zm,zc,zb,zi,cr,bG,bJ,bP,b8,bB,bb,bd,bj,ah,V.ref.injEq,bp,and_true,true_and,and_assoc,am,br,bx,bU,bL]
 intro x dx hx hd n
 have s1:=isV (o:=HO.own x) dx hd
 have hx1:upd H dx (HO.own x) x=ai:=by rw[zl (cH n)];exact hx
 have s2:=isV (o:=HO.ins t.c_Doing dx []) x hx1
 have ln:=h3.ln
 exact⟨tab,H,s1.trans s2,hx,dx,zf,h2,by lia,λH' sl wo sa D=>zaQ T D h1 h2 h3 q⟩
theorem zaR{a p:ag}{tab:List Row}{q0:Pl}(h1:LsAt H a tab)(h5:tab.length<=500)(h6:H p=aa (.tup [.str q0.1,.int q0.2]))(q:∀H',Same H H'->Q (.int ((zq tab q0).getD 0)) H') :
  YY K t { nx:=λ_ H'=>Q .non H',rt:=Q } (L2.start ["table","place"] [.ref a,.ref p]) H:=by
 simp only[YY,Yp,ka,L2.start,ka,zB,zc,tC,zb,zi,tCB,cr,bG,bJ,bB,bb,bd,bj,ah,V.ref.injEq,bp,and_true,am,bU,bL]
 obtain⟨xs,h1,h2⟩:=h1
 refine⟨xs,h1,tab,h2,by lia,λd hd=>⟨.inr ⟨dOf tab,.inl zf⟩,?_⟩⟩
 have S:=isV (o:=HO.dT (dOf tab)) d hd
 have g:DGet (upd H d (.dT (dOf tab))) d (.ref p) ((zq tab q0).map V.int):=.inr ⟨dOf tab,zI q0,p,.inl zf,rfl,S _ _ h6,(xM tab q0).symm⟩
 refine⟨_,g,?_⟩
 have:=q _ S
 cases e:zq tab q0 with
 | none=>rw[e] at this;exact this
 | some w=>rw[e] at this;exact this
theorem zid(h:lfV v):kj v/\isJ v=ao/\plV v:=by
 rcases h with ⟨i,rfl,hi⟩ | ⟨x,rfl,hx⟩
 ·exact⟨.inl ⟨i,rfl,hi⟩,rfl,.inl ⟨i,rfl⟩⟩
 ·have:=Yl hx
  exact⟨.inr ⟨x,rfl,by lia⟩,this.2.2.1,.inr ⟨x,rfl,Zk hx⟩⟩
theorem NamesAt.same{H H':Hp}(h:NamesAt H nm ws)(s:Same H H'):NamesAt H' nm ws:=⟨s _ _ h.1,h.2⟩
theorem jV(h:NamesAt H nm ws)(n:Nat)(hl:ws.length=n)(hn:0 < (n:Int))(e:Int):∃x,atI (ws.map V.str) (e % n)=aa (.str x)/\x∈ws/\xD x=ae:=by
 obtain⟨v,hv,hm⟩:=zaN e n (xs:=ws.map V.str) (by rw[bu,hl]) hn
 obtain⟨x,hx,rfl⟩:=cj.mp hm
 exact⟨x,hv,hx,h.2 x hx⟩
theorem XU{c j:Int}(h1:0<=j)(h2:j<=900)(q:∀w H',inW w=ae->Same H H'->Q (.int w) H') :
  vV K t { nx:=λ_ H'=>Q .non H',rt:=Q } (L2.start ["cell","j"] [.int c,.int j]) H:=by
 simp only[vV,zk,L2.start,zo,zB,zH,tOp,zc,tC,zb,zi,zS,zA,zn,rEq,rI,rI0,Ye,cr,bG,bJ,bB,bb,bd,bj,ah,V.int.injEq,V.bl.injEq,bp,and_true,true_and,and_assoc,am,bU,bL,decide_eq_true_eq,m8,fC,Int.reduceMul,Int.reduceAdd]
 have P30:=zbE (j:=30) (by decide) (by decide)
 have P40:=zbE (j:=40) (by decide) (by decide)
 have hb:(1000000000000000000000000000000000000000000000000000000000000:Int) < big:=by decide +kernel
 refine⟨h1,by lia,λr1 H1 a1 b1 s1=>⟨by decide,xo (λ_=>?_) λ_=>⟨by lia,by lia,λr2 H2 a2 b2 s2=>⟨by decide,q _ _ (inW_iff.mpr ?_) (s1.trans s2)⟩⟩⟩⟩
 ·have g1:=cL c (b:=10000000000000000000000000000000000000000) (by decide)
  have g2:=cD c (b:=10000000000000000000000000000000000000000) (by decide)
  generalize c % 10000000000000000000000000000000000000000=d at *
  have m1:0<=d * (j + 2):=Int.mul_nonneg g1 (by lia)
  have m2:d * (j + 2)<=10000000000000000000000000000000000000000 * 1000:=Int.mul_le_mul (by lia) (by lia) (by lia) (by decide)
  generalize d * (j + 2)=f at *
  have g3:=cL (f * 1000003 + j) (b:=2000000000000000000000000000001) (by decide)
  have g4:=cD (f * 1000003 + j) (b:=2000000000000000000000000000001) (by decide)
  exact⟨P40,by decide,⟨by lia,by lia⟩,⟨by lia,by lia⟩,P30,⟨by lia,by lia⟩,by decide,P30,q _ _ (inW_iff.mpr (by lia)) s1⟩
 ·lia
theorem Y9(ha:TermOk a)(hb:TermOk b)(hw:wdJ w)(l:a.length + b.length < 1000):TermOk (a ++ b ++ [.str w]):=by
 refine⟨λkvs=>?_,λz hz=>?_,by rw[bt,bt,dE];lia⟩
 ·obtain⟨r1,g1⟩:=ha.1 kvs
  obtain⟨r2,g2⟩:=hb.1 kvs
  exact⟨_,zce hw.1 g1 g2⟩
 ·rcases bF.mp hz with hz | hz
  ·rcases bF.mp hz with hz | hz
   ·exact ha.2.1 z hz
   ·exact hb.2.1 z hz
  ·rw[b5.mp hz];exact .inr ⟨w,rfl,hw.2.1⟩
theorem Ka(ha:tmP a)(hb:tmP b)(hw:wdJ w):tmP (a ++ b ++ [.str w]):=λz hz=>by
 rcases bF.mp hz with hz | hz
 ·rcases bF.mp hz with hz | hz
  ·exact ha z hz
  ·exact hb z hz
 ·rw[b5.mp hz];exact .inr ⟨w,rfl,hw.2.2⟩
theorem YB(h:lfV u):TermOk [u]/\tmP [u]:=by
 obtain⟨o1,j1,p1⟩:=zid h
 exact⟨zdT o1 j1,λz hz=>by rw[b5.mp hz];exact p1⟩
mutual
theorem zfY:∀(r:Rw) (k:Nat),(yB r k).length<=szR r/\r.cnt<=szR r
 | .iff e a b,k=>by
  have h1:=YC a (k + 1)
  have h2:=YC b (k + 2 + (zt a (k + 1)).length)
  have c:(Rw.iff e a b).cnt=max a.cnt b.cnt + 1:=by rw[Rw.cnt]
  have z:szR (.iff e a b)=kD a + kD b + 2:=by rw[szR]
  rw[yB,c,z]
  unfold blk
  split
  ·exact⟨by simp;lia,by lia⟩
  ·exact⟨by simp;lia,by lia⟩
 | .take sh e sl,k=>by simp[yB,szR,Rw.cnt]
 | .give sh e f,k=>by simp[yB,szR,Rw.cnt]
 | .lt sl e,k=>by simp[yB,szR,Rw.cnt]
 | .say e,k=>by simp[yB,szR,Rw.cnt]
 | .off e,k=>by simp[yB,szR,Rw.cnt]
theorem YC:∀(r:Rws) (k:Nat),(zt r k).length<=kD r/\r.cnt<=kD r
 | .nil,k=>by simp[zt,kD,Rws.cnt]
 | .cons r rs,k=>by
  have h1:=zfY r k
  have h2:=YC rs (k + (yB r k).length)
  rw[zt,kD,Rws.cnt,bt]
  lia
end
theorem Jo(x:Rw):∀(r:Rws),kD (r.snoc x)=kD r + szR x
 | .nil=>by show kD (.cons x .nil)=_;simp[kD]
 | .cons y r=>by
  show kD (.cons y (r.snoc x))=_
  rw[kD,kD,Jo x r];lia
theorem qV(C:List Cs)(tb:Pl->Int):∀(a b:Nat) (s:RSt),qc C tb (a + b) s=qc C tb b (qc C tb a s)
 | 0,b,s=>by rw[m5];rfl
 | a + 1,b,s=>by
  rw[Nat.add_right_comm]
  exact qV C tb a b (xW C tb s)
theorem Rch.refl(C:List Cs)(tb:Pl->Int)(s:RSt):Rch C tb s s:=⟨0,rfl⟩
theorem Rch.trans{tb:Pl->Int}(a:Rch C tb s1 s2)(b:Rch C tb s2 s3):Rch C tb s1 s3:=by
 obtain⟨j,rfl⟩:=a
 obtain⟨k,rfl⟩:=b
 exact⟨j + k,qV C tb j k s1⟩
theorem Rch.one(C:List Cs)(tb:Pl->Int)(s:RSt):Rch C tb s (xW C tb s):=⟨1,rfl⟩
theorem kO(q:Row)(p:Pl):∀(rows:List Row),zq (rows ++ [q]) p=if q.1=p then aa q.2 else zq rows p
 | []=>by
  show (Option.none.or (if q.1=p then aa q.2 else ai))=_
  rw[Option.none_or]
  rfl
 | r :: t=>by
  show (zq (t ++ [q]) p).or _=if q.1=p then aa q.2 else (zq t p).or _
  rw[kO q p t]
  split
  ·rfl
  ·rfl
structure Kb(tb:Pl->Int)(st:Sta)(s:RSt):Prop where
 sl:s.sl=st.sl
 sa:s.sa=st.sa
 wo:∀p,(zq st.wo p).getD 0=(zq s.gi p).getD (tb p)
 no:∀p w,zq s.no p=aa w->w=tb p
def Sub(C:List Cs)(k:Nat)(D:List Cs):Prop:=∃A B,C=A ++ (D ++ B)/\A.length=k
theorem Sub.get(h:Sub C k D)(e:D[i]?=aa c):C[k + i]?=aa c:=by
 obtain⟨A,B,rfl,rfl⟩:=h
 have hi:=(bn.mp e).1
 rw[cI (by lia),fk,c8 hi]
 exact e
theorem Sub.left(h:Sub C k (D ++ E)):Sub C k D:=by
 obtain⟨A,B,rfl,e⟩:=h
 exact⟨A,E ++ B,by rw[cb],e⟩
theorem Sub.right(h:Sub C k (D ++ E)):Sub C (k + D.length) E:=by
 obtain⟨A,B,rfl,e⟩:=h
 exact⟨A ++ D,B,by simp,by rw[bt,e]⟩
theorem zaS{C:List Cs}{tb:Pl->Int}{s:RSt}{c:Cs}(hw:s.why=ai)(hc:C[s.n]?=aa c):xW C tb s=zW c (match wx c s with | none=>0 | some p=>tb p) s:=by
 have hl:=(bn.mp hc).1
 have ho:¬ yh C s=ae:=by unfold yh;rw[hw];simp;exact hl
 unfold xW ZW xB vb
 rw[ak ho,ak ho,hc]
 rfl
def Comes(C:List Cs)(tb:Pl->Int)(s:RSt)(to:Nat):Res->Prop
 | .go st'=>∃s',Rch C tb s s'/\s'.n=to/\s'.why=ai/\Kb tb st' s'
 | .off=>∃s',Rch C tb s s'/\s'.why=aa (bg "told")
 | .er e=>∃s',Rch C tb s s'/\s'.why=aa (WG e)
theorem Comes.pre{tb:Pl->Int}(a:Rch C tb s s1)(h:Comes C tb s1 to r):Comes C tb s to r:=by
 cases r with
 | go st=>obtain⟨s',b,c⟩:=h;exact⟨s',a.trans b,c⟩
 | off=>obtain⟨s',b,c⟩:=h;exact⟨s',a.trans b,c⟩
 | er e=>obtain⟨s',b,c⟩:=h;exact⟨s',a.trans b,c⟩
theorem jW{tb:Pl->Int}(nf:JY r)(R:Kb tb st s)(hw:s.why=ai)(hc:C[s.n]?=aa (.row r)):Comes C tb s (s.n + 1) (goR r st):=by
 have one:=Rch.one C tb s
 have ef:=zaS (tb:=tb) hw hc
 rw[ef] at one
 have es:=R.sl
 cases r with
 | iff e a b=>exact nf.elim
 | take sh e x =>
  cases hk:rk s.sl e with
  | error er =>
   have g:goR (.take sh e x) st=.er er:=by rw[goR,<-es,hk]
   rw[g]
   refine⟨_,one,?_⟩
   simp[zW,yv,doR,hk]
  | ok n =>
   have g:goR (.take sh e x) st=.go { st with sl:=yz st.sl (.inr x) (.int ((zq st.wo (sh,n)).getD 0)) }:=by rw[goR,<-es,hk]
   rw[g]
   have kn:∀w,(zq s.gi (sh,n)=ai->zq s.no (sh,n)=ai->w=tb (sh,n))->wI (sh,n) w s=(zq st.wo (sh,n)).getD 0:=λw h=>by
    rw[R.wo]
    unfold wI
    cases h1:zq s.gi (sh,n) with
    | some v=>rfl
    | none =>
     show (zq s.no (sh,n)).getD w=tb (sh,n)
     cases h2:zq s.no (sh,n) with
     | some v=>exact R.no _ _ h2
     | none=>exact h h1 h2
   refine⟨_,one,?_⟩
   simp only[zW,yv,doR,wx,hk]
   by_cases hh:(zq s.gi (sh,n)).isSome=ae\/(zq s.no (sh,n)).isSome=ae
   ·rw[ap hh]
    have n0:yZ (sh,n) 0 s=s:=ap hh
    rw[n0]
    refine⟨trivial,hw,⟨?_,R.sa,R.wo,R.no⟩⟩
    show yz s.sl _ _=yz st.sl _ _
    rw[es,kn 0 (λa b=>by rw[a,b] at hh;simp at hh)]
   ·rw[ak hh]
    have n0:yZ (sh,n) (tb (sh,n)) s={ s with no:=s.no ++ [((sh,n),tb (sh,n))] }:=ak hh
    dsimp only
    simp only[n0]
    refine⟨trivial,hw,⟨?_,R.sa,R.wo,λp w h=>?_⟩⟩
    ·show yz s.sl _ _=yz st.sl _ _
     rw[es,kn _ (λ_ _=>rfl)]
    ·have h:zq (s.no ++ [((sh,n),tb (sh,n))]) p=aa w:=h
     rw[kO] at h
     split at h
     ·rename_i z
      cases h
      exact congrArg tb z
     ·exact R.no p w h
 | give sh e f =>
  cases hk:rk s.sl e with
  | error er =>
   have g:goR (.give sh e f) st=.er er:=by rw[goR,<-es,hk]
   rw[g]
   exact⟨_,one,by simp[zW,yv,doR,hk]⟩
  | ok n =>
   cases hf:rk s.sl f with
   | error er =>
    have g:goR (.give sh e f) st=.er er:=by rw[goR,<-es,hk];simp only[hf]
    rw[g]
    exact⟨_,one,by simp[zW,yv,doR,hk,hf]⟩
   | ok w =>
    have g:goR (.give sh e f) st=.go { st with wo:=st.wo ++ [((sh,n),w)] }:=by rw[goR,<-es,hk];simp only[hf]
    rw[g]
    refine⟨_,one,?_⟩
    simp only[zW,yv,doR,hk,hf]
    refine⟨trivial,hw,⟨es,R.sa,λp=>?_,R.no⟩⟩
    show (zq (st.wo ++ [((sh,n),w)]) p).getD 0=(zq (s.gi ++ [((sh,n),w)]) p).getD (tb p)
    rw[kO,kO]
    split
    ·rfl
    ·exact R.wo p
 | lt x e =>
  cases hk:rk s.sl e with
  | error er =>
   have g:goR (.lt x e) st=.er er:=by rw[goR,<-es,hk]
   rw[g]
   exact⟨_,one,by simp[zW,yv,doR,hk]⟩
  | ok n =>
   have g:goR (.lt x e) st=.go { st with sl:=yz st.sl (.inr x) (.int n) }:=by rw[goR,<-es,hk]
   rw[g]
   refine⟨_,one,?_⟩
   simp only[zW,yv,doR,hk]
   exact⟨trivial,hw,⟨by show yz s.sl _ _=yz st.sl _ _;rw[es],R.sa,R.wo,R.no⟩⟩
 | say e =>
  cases hk:rk s.sl e with
  | error er =>
   have g:goR (.say e) st=.er er:=by rw[goR,<-es,hk]
   rw[g]
   exact⟨_,one,by simp[zW,yv,doR,hk]⟩
  | ok n =>
   have g:goR (.say e) st=.go { st with sa:=st.sa ++ [n] }:=by rw[goR,<-es,hk]
   rw[g]
   refine⟨_,one,?_⟩
   simp only[zW,yv,doR,hk]
   exact⟨trivial,hw,⟨es,by show s.sa ++ [n]=st.sa ++ [n];rw[R.sa],R.wo,R.no⟩⟩
 | off e =>
  cases hk:rk s.sl e with
  | error er =>
   have g:goR (.off e) st=.er er:=by rw[goR,<-es,hk]
   rw[g]
   exact⟨_,one,by simp[zW,yv,hk]⟩
  | ok n =>
   by_cases h0:n=0
   ·have g:goR (.off e) st=.go st:=by rw[goR,<-es,hk];simp only[h0,if_true]
    rw[g]
    refine⟨_,one,?_⟩
    simp only[zW,yv,hk,h0,if_true]
    exact⟨trivial,hw,⟨es,R.sa,R.wo,R.no⟩⟩
   ·have g:goR (.off e) st=.off:=by rw[goR,<-es,hk];simp only[h0,if_false]
    rw[g]
    refine⟨_,one,?_⟩
    simp only[zW,yv,hk,h0,if_false]
theorem W0{C:List Cs}{tb:Pl->Int}{s:RSt}{st:Sta}{e:List V}{to:Nat}(R:Kb tb st s)(hw:s.why=ai)(hc:C[s.n]?=aa (.skip e to)):match rk st.sl e with | .ok i=>∃s',Rch C tb s s'/\s'.n=(if i=0 then to else s.n + 1)/\s'.why=ai/\Kb tb st s' | .error er=>∃s',Rch C tb s s'/\s'.why=aa (WG er):=by
 have one:=Rch.one C tb s
 have ef:=zaS (tb:=tb) hw hc
 rw[ef] at one
 have es:=R.sl
 cases hk:rk st.sl e with
 | error er=>exact⟨_,one,by simp[zW,yv,es,hk]⟩
 | ok i =>
  refine⟨_,one,?_⟩
  simp only[zW,yv,es,hk]
  exact⟨trivial,hw,⟨rfl,R.sa,R.wo,R.no⟩⟩
theorem zel{tb:Pl->Int}(R:Kb tb st s)(hw:s.why=ai)(hc:C[s.n]?=aa (.go k)):∃s',Rch C tb s s'/\s'.n=k/\s'.why=ai/\Kb tb st s':=by
 have one:=Rch.one C tb s
 have ef:=zaS (tb:=tb) hw hc
 rw[ef] at one
 exact⟨_,one,rfl,hw,⟨R.sl,R.sa,R.wo,R.no⟩⟩
mutual
theorem zem{C:List Cs}{tb:Pl->Int}:∀(r:Rw) {s:RSt} {st:Sta},Sub C s.n (yB r s.n)->Kb tb st s->s.why=ai->Comes C tb s (s.n + (yB r s.n).length) (goR r st)
 | .take sh e x,s,st,hC,R,hw=>jW (r:=.take sh e x) trivial R hw (hC.get (i:=0) rfl)
 | .give sh e f,s,st,hC,R,hw=>jW (r:=.give sh e f) trivial R hw (hC.get (i:=0) rfl)
 | .lt x e,s,st,hC,R,hw=>jW (r:=.lt x e) trivial R hw (hC.get (i:=0) rfl)
 | .say e,s,st,hC,R,hw=>jW (r:=.say e) trivial R hw (hC.get (i:=0) rfl)
 | .off e,s,st,hC,R,hw=>jW (r:=.off e) trivial R hw (hC.get (i:=0) rfl)
 | .iff e a b,s,st,hC,R,hw=>by
  cases hb:Rws.isNil b with
  | true =>
   have ec:yB (.iff e a b) s.n=.skip e (s.n + 1 + (zt a (s.n + 1)).length) :: zt a (s.n + 1):=by rw[yB];unfold blk;rw[hb,ap rfl]
   rw[ec] at hC ⊢
   have b0:b=.nil:=by cases b with | nil=>rfl | cons _ _=>cases hb
   have sk:=W0 R hw (hC.get (i:=0) rfl)
   have hC2:Sub C (s.n + 1) (zt a (s.n + 1)):=Sub.right (D:=[.skip e _]) hC
   cases hk:rk st.sl e with
   | error er =>
    rw[hk] at sk
    have g:goR (.iff e a b) st=.er er:=by rw[goR,hk]
    rw[g]
    exact sk
   | ok i =>
    rw[hk] at sk
    obtain⟨s1,r1,n1,w1,R1⟩:=sk
    by_cases h0:i=0
    ·have g:goR (.iff e a b) st=.go st:=by rw[goR,hk];simp only[h0,if_true,b0];rw[yL]
     rw[g]
     rw[ap h0] at n1
     exact⟨s1,r1,by rw[n1];simp;lia,w1,R1⟩
    ·have g:goR (.iff e a b) st=yL a st:=by rw[goR,hk];simp only[h0,if_false]
     rw[g]
     rw[ak h0] at n1
     have:=jX a (C:=C) (tb:=tb) (s:=s1) (st:=st) (by rw[n1];exact hC2) R1 w1
     rw[n1] at this
     rw[show s.n + (Cs.skip e (s.n + 1 + (zt a (s.n + 1)).length) :: zt a (s.n + 1)).length=s.n + 1 + (zt a (s.n + 1)).length by simp;lia]
     exact this.pre r1
  | false =>
   have ec:yB (.iff e a b) s.n=.skip e (s.n + 2 + (zt a (s.n + 1)).length) :: (zt a (s.n + 1) ++ (.go (s.n + 2 + (zt a (s.n + 1)).length + (zt b (s.n + 2 + (zt a (s.n + 1)).length)).length) :: zt b (s.n + 2 + (zt a (s.n + 1)).length))):=by rw[yB];unfold blk;rw[hb,ak (by decide)]
   rw[ec] at hC ⊢
   have sk:=W0 R hw (hC.get (i:=0) rfl)
   have hC2:=Sub.right (D:=[.skip e _]) hC
   have hA:Sub C (s.n + 1) (zt a (s.n + 1)):=hC2.left
   have hG:=hC2.right
   have hB:=Sub.right (D:=[.go _]) hG
   have tot:s.n + (Cs.skip e (s.n + 2 + (zt a (s.n + 1)).length) :: (zt a (s.n + 1) ++ (Cs.go (s.n + 2 + (zt a (s.n + 1)).length + (zt b (s.n + 2 + (zt a (s.n + 1)).length)).length) :: zt b (s.n + 2 + (zt a (s.n + 1)).length)))).length=s.n + 2 + (zt a (s.n + 1)).length + (zt b (s.n + 2 + (zt a (s.n + 1)).length)).length:=by simp;lia
   rw[tot]
   have hB:Sub C (s.n + 2 + (zt a (s.n + 1)).length) (zt b (s.n + 2 + (zt a (s.n + 1)).length)):=by
    have e1:s.n + 1 + (zt a (s.n + 1)).length + 1=s.n + 2 + (zt a (s.n + 1)).length:=by lia
    rw[<-e1]
    rw[<-e1] at hB
    exact hB
   have hG1:=hG.get (i:=0) (c:=.go _) rfl
   cases hk:rk st.sl e with
   | error er =>
    rw[hk] at sk
    have g:goR (.iff e a b) st=.er er:=by rw[goR,hk]
    rw[g]
    exact sk
   | ok i =>
    rw[hk] at sk
    obtain⟨s1,r1,n1,w1,R1⟩:=sk
    by_cases h0:i=0
    ·have g:goR (.iff e a b) st=yL b st:=by rw[goR,hk];simp only[h0,if_true]
     rw[g]
     rw[ap h0] at n1
     have:=jX b (C:=C) (tb:=tb) (s:=s1) (st:=st) (by rw[n1];exact hB) R1 w1
     rw[n1] at this
     exact this.pre r1
    ·have g:goR (.iff e a b) st=yL a st:=by rw[goR,hk];simp only[h0,if_false]
     rw[g]
     rw[ak h0] at n1
     have:=jX a (C:=C) (tb:=tb) (s:=s1) (st:=st) (by rw[n1];exact hA) R1 w1
     rw[n1] at this
     refine Comes.pre r1 ?_
     cases hg:yL a st with
     | go st2 =>
      rw[hg] at this
      obtain⟨s2,r2,n2,w2,R2⟩:=this
      obtain⟨s3,r3,n3,w3,R3⟩:=zel R2 w2 (by rw[n2];exact hG1)
      exact⟨s3,r2.trans r3,n3,w3,R3⟩
     | off=>rw[hg] at this;exact this
     | er er=>rw[hg] at this;exact this
theorem jX{C:List Cs}{tb:Pl->Int}:∀(r:Rws) {s:RSt} {st:Sta},Sub C s.n (zt r s.n)->Kb tb st s->s.why=ai->Comes C tb s (s.n + (zt r s.n).length) (yL r st)
 | .nil,s,st,hC,R,hw=>by
  have e:zt .nil s.n=[]:=by rw[zt]
  have g:yL .nil st=.go st:=by rw[yL]
  rw[e,g]
  exact⟨s,Rch.refl C tb s,rfl,hw,R⟩
 | .cons x r,s,st,hC,R,hw=>by
  have e:zt (.cons x r) s.n=yB x s.n ++ zt r (s.n + (yB x s.n).length):=by rw[zt]
  rw[e] at hC ⊢
  have h1:=zem x hC.left R hw
  cases hx:goR x st with
  | go st1 =>
   rw[hx] at h1
   have g:yL (.cons x r) st=yL r st1:=by rw[yL,hx]
   rw[g]
   obtain⟨s1,r1,n1,w1,R1⟩:=h1
   have:=jX r (C:=C) (tb:=tb) (s:=s1) (st:=st1) (by rw[n1];exact hC.right) R1 w1
   rw[n1] at this
   rw[bt,<-iT]
   exact this.pre r1
  | off =>
   rw[hx] at h1
   have g:yL (.cons x r) st=.off:=by rw[yL,hx]
   rw[g]
   exact h1
  | er er =>
   rw[hx] at h1
   have g:yL (.cons x r) st=.er er:=by rw[yL,hx]
   rw[g]
   exact h1
end
theorem zaT{tb:Pl->Int}(hn:s.n=0)(R:Kb tb st s)(hw:s.why=ai):Comes (zt r 0) tb s (zt r 0).length (yL r st):=by
 have:=jX (C:=zt r 0) (tb:=tb) r (s:=s) (st:=st) (by rw[hn];exact⟨[],[],by simp,rfl⟩) R hw
 rw[hn,m5] at this
 exact this
theorem W1{C:List Cs}{tb:Pl->Int}{s:RSt}(h:yh C s=ae):∀k,qc C tb k s=s
 | 0=>rfl
 | k + 1=>by
  have e:xW C tb s=s:=by unfold xW xB;rw[ap h]
  show qc C tb k (xW C tb s)=s
  rw[e]
  exact W1 h k
theorem qW{tb:Pl->Int}(ha:Rch C tb s a)(hb:Rch C tb s b)(oa:yh C a=ae)(ob:yh C b=ae):a=b:=by
 obtain⟨j,rfl⟩:=ha
 obtain⟨k,rfl⟩:=hb
 rcases Nat.le_total j k with h | h
 ·obtain⟨d,rfl⟩:∃d,k=j + d:=⟨k - j,by lia⟩
  rw[qV,W1 oa]
 ·obtain⟨d,rfl⟩:∃d,j=k + d:=⟨j - k,by lia⟩
  rw[qV,W1 ob]
theorem zhn{w:Int}(h:doR r w s=.ok s'):s'.no=s.no\/∃p,wx (.row r) s=aa p/\s'.no=s.no ++ [(p,w)]:=by
 cases r with
 | take sh e x =>
  cases hk:rk s.sl e with
  | error er=>rw[doR,hk] at h;cases h
  | ok n =>
   rw[doR,hk] at h
   cases h
   by_cases hh:(zq s.gi (sh,n)).isSome=ae\/(zq s.no (sh,n)).isSome=ae
   ·refine .inl ?_
    show (yZ (sh,n) w s).no=s.no
    rw[show yZ (sh,n) w s=s from ap hh]
   ·refine .inr ⟨(sh,n),?_,?_⟩
    ·simp only[wx,hk]
     rw[ak hh]
    ·show (yZ (sh,n) w s).no=s.no ++ [((sh,n),w)]
     rw[show yZ (sh,n) w s={ s with no:=s.no ++ [((sh,n),w)] } from ak hh]
 | give sh e f =>
  cases hk:rk s.sl e with
  | error er=>rw[doR,hk] at h;cases h
  | ok n =>
   rw[doR,hk] at h
   dsimp only at h
   cases hf:rk s.sl f with
   | error er=>rw[hf] at h;cases h
   | ok i=>rw[hf] at h;cases h;exact .inl rfl
 | lt x e =>
  cases hk:rk s.sl e with
  | error er=>rw[doR,hk] at h;cases h
  | ok n=>rw[doR,hk] at h;cases h;exact .inl rfl
 | say e =>
  cases hk:rk s.sl e with
  | error er=>rw[doR,hk] at h;cases h
  | ok n=>rw[doR,hk] at h;cases h;exact .inl rfl
 | off e=>cases h;exact .inl rfl
 | iff e a b=>cases h;exact .inl rfl
theorem zfZ{w:Int}(h:wx (.row (.take sh e x)) s=aa p):(zW (.row (.take sh e x)) w s).no=s.no ++ [(p,w)]:=by
 cases hk:rk s.sl e with
 | error er=>simp only[wx,hk] at h;cases h
 | ok n =>
  simp only[wx,hk] at h
  by_cases hh:(zq s.gi (sh,n)).isSome=ae\/(zq s.no (sh,n)).isSome=ae
  ·rw[ap hh] at h;cases h
  ·rw[ak hh] at h
   cases h
   simp only[zW,yv,doR,hk]
   show (yZ (sh,n) w s).no=_
   rw[show yZ (sh,n) w s={ s with no:=s.no ++ [((sh,n),w)] } from ak hh]
theorem zen(c:Cs)(w:Int)(s:RSt):(wx c s=ai/\(zW c w s).no=s.no)\/∃p,wx c s=aa p/\(zW c w s).no=s.no ++ [(p,w)]:=by
 cases ha:wx c s with
 | some p =>
  cases c with
  | row r =>
   cases r with
   | take sh e x=>exact .inr ⟨p,rfl,zfZ ha⟩
   | _=>cases ha
  | _=>cases ha
 | none =>
  refine .inl ⟨rfl,?_⟩
  cases c with
  | go k=>rfl
  | skip e to =>
   simp only[zW,yv]
   cases rk s.sl e <;> rfl
  | row r =>
   have d:∀s',doR r w s=.ok s'->s'.no=s.no:=λs' h=>by
    rcases zhn h with z | ⟨p,z,_⟩
    ·exact z
    ·rw[ha] at z;cases z
   cases r with
   | off e =>
    simp only[zW,yv]
    cases rk s.sl e with
    | error er=>rfl
    | ok i=>dsimp only;split <;> rfl
   | take sh e x =>
    simp only[zW,yv]
    cases h:doR (.take sh e x) w s with
    | error er=>rfl
    | ok s'=>exact d s' h
   | give sh e f =>
    simp only[zW,yv]
    cases h:doR (.give sh e f) w s with
    | error er=>rfl
    | ok s'=>exact d s' h
   | lt x e =>
    simp only[zW,yv]
    cases h:doR (.lt x e) w s with
    | error er=>rfl
    | ok s'=>exact d s' h
   | say e =>
    simp only[zW,yv]
    cases h:doR (.say e) w s with
    | error er=>rfl
    | ok s'=>exact d s' h
   | iff e a b =>
    simp only[zW,yv]
    cases h:doR (.iff e a b) w s with
    | error er=>rfl
    | ok s'=>exact d s' h
theorem zaU(C:List Cs)(tb:Pl->Int)(s:RSt):(vb C s=ai/\(xW C tb s).no=s.no)\/∃p,vb C s=aa p/\(xW C tb s).no=s.no ++ [(p,tb p)]:=by
 by_cases ho:yh C s=ae
 ·refine .inl ⟨by unfold vb;rw[ap ho],?_⟩
  unfold xW xB
  rw[ap ho]
 ·cases hc:C[s.n]? with
  | none =>
   refine .inl ⟨by unfold vb;rw[ak ho,hc];rfl,?_⟩
   unfold xW xB
   rw[ak ho,hc]
  | some c =>
   have e:vb C s=wx c s:=by unfold vb;rw[ak ho,hc];rfl
   have f:xW C tb s=zW c (ZW C tb s) s:=by unfold xW xB;rw[ak ho,hc]
   rw[e,f]
   rcases zen c (ZW C tb s) s with ⟨a,b⟩ | ⟨p,a,b⟩
   ·exact .inl ⟨a,b⟩
   ·refine .inr ⟨p,a,?_⟩
    rw[b]
    unfold ZW
    rw[e,a]
theorem QL{H:Hp}{b:List Row}{ys:List V}(h2:wJ H ys b):∀ {xs:List V} {a:List Row},wJ H xs a->wJ H (xs ++ ys) (a ++ b)
 | _,_,.nil=>h2
 | _,_,.cons h r=>.cons h (QL h2 r)
theorem zcx(c:Cs)(w:Int)(s:RSt):(zW c w s).gi.length + (zW c w s).no.length<=s.gi.length + s.no.length + 1:=by
 have z:s.gi.length + s.no.length<=s.gi.length + s.no.length + 1:=by lia
 cases c with
 | go k=>exact z
 | skip e to=>cases hk:rk s.sl e with
  | error x=>simp only[zW,yv,hk];exact z
  | ok i=>simp only[zW,yv,hk];exact z
 | row r =>
  cases r with
  | off e=>cases hk:rk s.sl e with
   | error x=>simp only[zW,yv,hk];exact z
   | ok i =>
    simp only[zW,yv,hk]
    split
    ·exact z
    ·exact z
  | iff e a b=>exact z
  | take sh e x=>cases hk:rk s.sl e with
   | error x=>simp only[zW,yv,doR,hk];exact z
   | ok i =>
    simp only[zW,yv,doR,hk]
    unfold yZ
    split
    ·exact z
    ·show s.gi.length + (s.no ++ [((sh,i),w)]).length<=_
     rw[bt,dE];lia
  | give sh e f=>cases hk:rk s.sl e with
   | error x=>simp only[zW,yv,doR,hk];exact z
   | ok i=>cases hk2:rk s.sl f with
    | error x=>simp only[zW,yv,doR,hk,hk2];exact z
    | ok j =>
     simp only[zW,yv,doR,hk,hk2]
     rw[bt,dE];lia
  | lt x e=>cases hk:rk s.sl e with
   | error x=>simp only[zW,yv,doR,hk];exact z
   | ok i=>simp only[zW,yv,doR,hk];exact z
  | say e=>cases hk:rk s.sl e with
   | error x=>simp only[zW,yv,doR,hk];exact z
   | ok i=>simp only[zW,yv,doR,hk];exact z
theorem zf0(C:List Cs)(tb:Pl->Int)(s:RSt):(xW C tb s).gi.length + (xW C tb s).no.length<=s.gi.length + s.no.length + 1:=by
 unfold xW xB
 split
 ·lia
 ·split
  ·lia
  ·exact zcx ..
theorem rn0 :RnI C 0 st0:=⟨⟨(λk v e=>by cases e),(λr h=>nomatch h),(λr h=>nomatch h),bq _,bq _,bq _,bq _,lU⟩,(λr h=>nomatch h),(λr h=>nomatch h),λ_=>cp _,λw z=>nomatch z⟩
structure FdS(t:Adr)(H0 H:Hp)(x:ag)(a:RAd)(C:List Cs)(tb:Pl->Int)(k:Nat)(s:RSt):Prop where
 sm:Same H0 H
 R:RnAt t H x a C s
 I:RnI C k s
 rc:qc C tb k st0=s
 fw:s.gi.length + s.no.length<=k
 le:k<=C.length
theorem FdS.same{H0 H':Hp}{tb:Pl->Int}(S:FdS t H0 H x a C tb k s)(h:Same H H'):FdS t H0 H' x a C tb k s:=⟨S.sm.trans h,S.R.same h,S.I,S.rc,S.fw,S.le⟩
def fdI(t:Adr)(H0:Hp)(l tl x:ag)(a:RAd)(C:List Cs)(tb:Pl->Int)(m:Nat)(σ:St)(H:Hp):Prop:=∃k s,m=C.length - k/\(∃o,σ=[aa (.ref l),aa (.ref tl),aa (.ref x),o])/\FdS t H0 H x a C tb k s
section
variable {l tl x:ag}{a:RAd}{xs:List V}{C:List Cs}{rows:List Row}{H0:Hp}
theorem FdS.step{tb:Pl->Int}{H1 H2:Hp}(O:JZ C)(ow:∀b,OwA x a b->H0 b=ai)(S:FdS t H0 H1 x a C tb k s)(ho:yh C s=ao)(hw:inW (ZW C tb s)=ae)(k2:Kp x a H1 H2)(R2:RnAt t H2 x a C (xB C (ZW C tb s) s)):FdS t H0 H2 x a C tb (k + 1) (xW C tb s):=by
 have no:¬ yh C s=ae:=by rw[ho];decide
 have lt:=Yz no
 have wn:s.why=ai:=by
  cases e:s.why with
  | none=>rfl
  | some v=>exact absurd (show yh C s=ae by unfold yh;rw[e];rfl) no
 have:=S.I.at_ wn
 refine⟨λb o e=>k2 b o (λy=>by rw[ow b (.inl y)] at e;cases e) (S.sm _ _ e),R2,zfU O S.I ho hw,?_,?_,by lia⟩
 ·rw[qV,S.rc];rfl
 ·have:=zf0 C tb s
  have:=S.fw
  lia
end
theorem zcy{J:It}{H1:Hp}{Q:Hp->Prop}{B:V->St->Hp->(V->St->Hp->Prop)->(St->Hp->Prop)->Prop}(n:Nat)(hn:n<=1000000)(C:St->Prop)(R:Nat->List V->Hp->Prop)(hm:∀i ys H H',(∀b o,b≠D->H b=aa o->H' b=aa o)->R i ys H->R i ys H')(hC:C τ₀)(h0:R 0 [] H1)
  (go:∀i H,Same H1 H->i < n->J.go i H) (stop:∀H,Same H1 H->J.stop n H) (hD:H1 D=ai)
  (hs:∀i x τ ys H H',C τ->Same H1 H->i < n->R i ys H->H D=aa (.lst ys)->J.yld i H x H'->B x τ H' (λv τ' H4=>C τ'/\R (i + 1) (ys ++ [v]) H4/\Same H H4) (λτ' H4=>C τ'/\R (i + 1) ys H4/\Same H H4))
  (hd:∀ys H,ys.length<=n->R n ys H->Same H1 H->H D=aa (.lst ys)->Q H) :
  ∃W:Nat->Nat->List V->St->Hp->Prop,(∃m,W 0 m [] τ₀ (upd H1 D (.lst [])))/\∀i m ys τ H,W i m ys τ H->H D=aa (.lst ys) /\
  ((J.stop i H/\Q H)\/(J.go i H/\ys.length < sizeLine/\∃N:V->St->Hp->Prop,
   (∀v τ' H',N v τ' H'->H' D=aa (.lst ys)/\∃m',m' < m/\W (i + 1) m' (ys ++ [v]) τ' (upd H' D (.lst (ys ++ [v]))))/\∃Nf:St->Hp->Prop,(∀τ' H',Nf τ' H'->∃m',m' < m/\W (i + 1) m' ys τ' H') /\
   ∀x H',J.yld i H x H'->B x τ H' N Nf)):=by
 have ext:∀ {H:Hp} {o:HO},Same H1 H->Same H1 (upd H D o):=λ{H o} h b u e=>by
  rw[zl (zG e hD)];exact h b u e
 refine⟨λi m ys τ H=>m=n - i/\i<=n/\ys.length<=i/\R i ys H/\Same H1 H/\H D=aa (.lst ys)/\C τ,⟨n,by simp,cp _,bq _,hm _ _ _ _ (λb o hb e=>by rw[zl hb];exact e) h0,ext (Same.refl _),zf,hC⟩,?_⟩
 rintro i m ys τ H ⟨rfl,hi,hl,hR,hS,hy,hc⟩
 refine⟨hy,?_⟩
 by_cases hlt:i < n
 ·refine .inr ⟨go i H hS hlt,bZ (by lia:ys.length<=1000000) (by decide),_,?_,_,?_,λx H' y=>hs i x τ ys H H' hc hS hlt hR hy y⟩
  ·rintro v τ' H4 ⟨c4,r4,s4⟩
   have y4:=s4 _ _ hy
   exact⟨y4,n - (i + 1),by lia,rfl,hlt,by simp;lia,hm _ _ _ _ (λb o hb e=>by rw[zl hb];exact e) r4,ext (hS.trans s4),zf,c4⟩
  ·rintro τ' H4 ⟨c4,r4,s4⟩
   exact⟨n - (i + 1),by lia,rfl,hlt,by lia,r4,hS.trans s4,s4 _ _ hy,c4⟩
 ·obtain rfl:i=n:=by lia
  exact .inl ⟨stop H hS,hd ys H hl hR hS hy⟩
theorem zeo{j c:Int}(hj:0<=j)(hc:0 < c)(h:i < WF 0 j c):(i:Int) * c < j:=by
 unfold WF at h
 split at h
 ·have h2:(i:Int)<=(j - 0 - 1) / c:=by lia
  have h3:=(Int.le_ediv_iff_mul_le hc).mp h2
  lia
 ·lia
theorem zho(I:RnI C m s):∀w,ZV s=.off w->cf w=ae:=λw z=>by
 unfold ZV at z
 cases e:s.why with
 | none=>rw[e] at z;cases z
 | some v=>rw[e] at z;cases z;exact I.wy _ e
theorem zep(I:RnI C m s)(h:vj s out):∀r∈out,inW r.2=ae:=by
 unfold vj at h
 cases e:s.why with
 | some w=>rw[e] at h;rw[h];exact λr hr=>nomatch hr
 | none =>
  rw[e] at h
  intro r hr
  exact Zi (P:=λr=>inW r.2=ae) I.ok.gw ((h.2 r.1 r.2).mp hr)
theorem QN(xs:List V)(n:Nat):XB xs ai (aa (n:Int))=xs.take n:=by
 unfold XB
 rw[HT.sIx_none,HT.sIx_nat,du,oK]
 by_cases c:n<=xs.length
 ·rw[eI c]
 ·rw[gH (by lia),bQ (bq _),bQ (by lia)]
theorem zeq{tb tb':Pl->Int}(h:∀p,vb C s=aa p->tb' p=tb p):xW C tb' s=xW C tb s:=by
 have e:ZW C tb' s=ZW C tb s:=by
  unfold ZW
  cases ha:vb C s with
  | none=>rfl
  | some p=>exact h p ha
 unfold xW
 rw[e]
theorem QO(C:List Cs)(tb:Pl->Int):∀(k:Nat) (s:RSt),∃l,(qc C tb k s).no=s.no ++ l
 | 0,s=>⟨[],by simp[qc]⟩
 | k + 1,s=>by
  obtain⟨l,e⟩:=QO C tb k (xW C tb s)
  show ∃l,(qc C tb k (xW C tb s)).no=_
  rcases zaU C tb s with ⟨_,b⟩ | ⟨p,_,b⟩
  ·exact⟨l,by rw[e,b]⟩
  ·exact⟨(p,tb p) :: l,by rw[e,b];simp⟩
theorem QP(C:List Cs)(tb tb':Pl->Int):∀(k:Nat) (s:RSt),(∀r∈(qc C tb k s).no,tb' r.1=r.2)->qc C tb' k s=qc C tb k s
 | 0,s,_=>rfl
 | k + 1,s,h=>by
  have h:∀r∈(qc C tb k (xW C tb s)).no,tb' r.1=r.2:=h
  have e:xW C tb' s=xW C tb s:=zeq λp hp=>by
   rcases zaU C tb s with ⟨a,_⟩ | ⟨q,a,b⟩
   ·rw[hp] at a;cases a
   ·rw[hp] at a
    cases a
    obtain⟨l,g⟩:=QO C tb k (xW C tb s)
    exact h (p,tb p) (by rw[g,b];simp)
  show qc C tb' k (xW C tb' s)=qc C tb k (xW C tb s)
  rw[e]
  exact QP C tb tb' k (xW C tb s) h
theorem zer(C:List Cs)(tb:Pl->Int):∀(k:Nat) (s:RSt),(∀r∈s.no,tb r.1=r.2)->∀r∈(qc C tb k s).no,tb r.1=r.2
 | 0,s,h=>h
 | k + 1,s,h=>by
  refine zer C tb k (xW C tb s) λr hr=>?_
  rcases zaU C tb s with ⟨_,e⟩ | ⟨p,_,e⟩
  ·rw[e] at hr;exact h r hr
  ·rw[e] at hr
   rcases bF.mp hr with hr | hr
   ·exact h r hr
   ·rw[b5.mp hr]
theorem FedR.tb(F:FedR C rows s):∀r∈s.no,v3 rows r.1=r.2:=by
 obtain⟨k,e⟩:=F.rc
 rw[<-e]
 exact zer C (v3 rows) k st0 λr h=>nomatch h
theorem zaV{x y:Option Int}{w:Int}(h:x.getD 0=y.getD 0)(k:x=aa w/\w≠0):y=aa w/\w≠0:=by
 obtain⟨rfl,n⟩:=k
 cases y with
 | none=>exact absurd h n
 | some v =>
  have h:w=v:=h
  rw[h]
  exact⟨rfl,by rw[<-h];exact n⟩
theorem Xa(p:Pl)(b:List Row):∀(a:List Row),zq (a ++ b) p=(zq b p).or (zq a p)
 | []=>by rw[b8];show _=Option.or _ ai;rw[pq]
 | r :: t=>by
  show (zq (t ++ b) p).or _=(zq b p).or ((zq t p).or _)
  rw[Xa p b t,Option.or_assoc]
theorem zcz(N:xj rows rows)(A:we r rows oc out)(F:FedR (zt r 0) rows s)(G:vj s gi):oc=ZV s/\xj (rows ++ gi) out:=by
 have h:=zaT (tb:=v3 rows) (r:=r) (s:=st0) (st:=⟨[],rows,[]⟩) rfl ⟨rfl,rfl,λp=>rfl,λp w h=>nomatch h⟩ rfl
 have broke:∀ {w:Str},s.why=aa w->oc=.off w->out=rows->oc=ZV s/\xj (rows ++ gi) out:=λ{w} e1 e2 e3=>by
  unfold vj at G
  unfold ZV
  rw[e1] at G ⊢
  rw[G,bB,e3]
  exact⟨e2,N⟩
 unfold we at A
 cases hg:yL r ⟨[],rows,[]⟩ with
 | go st =>
  rw[hg] at A h
  obtain⟨s',rc,n,w,R⟩:=h
  have e:=qW F.rc rc F.ov (by unfold yh;rw[n,decide_eq_true (bq _),Bool.or_true])
  subst e
  obtain⟨a1,a2⟩:=A
  unfold vj at G
  unfold ZV
  rw[w] at G ⊢
  refine⟨by rw[a1,R.sa],a2.1,λp v=>?_⟩
  have eg:zq gi p=zq s.gi p:=by
   cases hh:zq s.gi p with
   | some u=>exact(wS G.1.nd).mpr ((G.2 p u).mpr hh)
   | none =>
    cases h2:zq gi p with
    | none=>rfl
    | some u=>rw[(G.2 p u).mp ((wS G.1.nd).mp h2)] at hh;cases hh
  have ew:(zq st.wo p).getD 0=(zq (rows ++ gi) p).getD 0:=by
   rw[R.wo p,Xa,eg]
   cases zq s.gi p <;> rfl
  exact(a2.2 p v).trans ⟨zaV ew,zaV ew.symm⟩
 | off =>
  rw[hg] at A h
  obtain⟨s',rc,w⟩:=h
  have e:=qW F.rc rc F.ov (by unfold yh;rw[w];rfl)
  subst e
  exact broke w A.1 A.2
 | er e =>
  rw[hg] at A h
  obtain⟨s',rc,w⟩:=h
  have e:=qW F.rc rc F.ov (by unfold yh;rw[w];rfl)
  subst e
  exact broke w A.1 A.2
theorem zhp(h1:Zo 6 r)(h2:yJ r)(h3:r.cnt<=40)(N:∀r∈tab,inW r.2=ae)(hl:tab.length<=400):Xq r tab:=by
 refine⟨h2,h1.dp,N,by lia,λs hg=>?_⟩
 have:=(Ys r ⟨λk v e=>(by cases e),N,cp _,bq _,cp _⟩ h2 hg).l2
 have:=xO s.wo
 have e:(Sta.mk [] tab []).wo.length=tab.length:=rfl
 lia
theorem pIn_iff :pIn p l=ae↔∃r∈l,r.1=p:=by
 unfold pIn
 rw[fF]
 exact⟨λ⟨r,h1,h2⟩=>⟨r,h1,of_decide_eq_true h2⟩,λ⟨r,h1,h2⟩=>⟨r,h1,decide_eq_true h2⟩⟩
theorem QQ :(zq l p).isSome=pIn p l:=by
 cases h:zq l p with
 | none =>
  cases e:pIn p l with
  | false=>rfl
  | true =>
   obtain⟨r,hr,rfl⟩:=pIn_iff.mp e
   have:∀l:List Row,r∈l->zq l r.1≠ai:=by
    intro l
    induction l with
    | nil=>exact λh=>nomatch h
    | cons x t ih =>
     intro hm hn
     unfold zq at hn
     cases e:zq t r.1 with
     | some w=>rw[e] at hn;cases hn
     | none =>
      rw[e] at hn
      rcases bS.mp hm with z | hm
      ·rw[z] at hn;rw[ap rfl] at hn;cases hn
      ·exact ih hm e
   exact absurd h (this l hr)
 | some w=>exact(pIn_iff.mpr ⟨(p,w),vY h,rfl⟩).symm
section
variable {H':Hp}
theorem PpV.same(h:PpV H v p)(s:Same H H'):PpV H' v p:=by
 obtain⟨r,o,nl,gl,e,h1,h2,h3,h4⟩:=h
 exact⟨r,o,nl,gl,e,s _ _ h1,zbL h2 s,xm h3 s,xm h4 s⟩
theorem PpsAt.same(h:PpsAt H a P)(s:Same H H'):PpsAt H' a P:=by
 obtain⟨⟨xs,h1,h2⟩,h3,h4⟩:=h
 exact⟨⟨xs,s _ _ h1,Paired.mapP h2 λ_ _ z=>z.same s⟩,h3,h4⟩
theorem PpsAt.get(h:PpsAt H a P)(hk:k < P.length):∃xs v,H a=aa (.lst xs)/\atI xs (k:Nat)=aa v/\PpV H v (pAt P k)/\vd (pAt P k)/\xs.length=P.length:=by
 obtain⟨⟨xs,h1,h2⟩,h3,h4⟩:=h
 have lx:=bM h2
 have hv:xs[k]?=aa xs[k]:=ba (by lia)
 have hp:P[k]?=aa P[k]:=ba hk
 have e:pAt P k=P[k]:=by unfold pAt;rw[bh,hp];rfl
 exact⟨xs,_,h1,x8 hv,by rw[e];exact yo h2 hv hp,by rw[e];exact h3 _ (dM hk),lx⟩
end
section
variable {v u:V}{a b:Pp}
theorem Ya{α β:Type}{R:α->β->Prop}:∀ {xs:List α} {ys:List β} {us:List α} {vs:List β},Paired R xs ys->Paired R us vs->Paired R (xs ++ us) (ys ++ vs)
 | _,_,_,_,.nil,h=>h
 | _,_,_,_,.cons a t,h=>.cons a (Ya t h)
def gvR(gi:List Row)(all:List Row)(i:Nat)(ys:List V)(_:Hp):Prop:=ys=((gi.take i).map λr=>V.bl (pIn r.1 all))
theorem W4(h1:PpV H v a)(h2:PpV H u b)(oa:vd a)(ob:vd b)(q:∀H',Same H H'->Q (.bl (Vq a b)) H') :
  jE K t { nx:=λ_ H'=>Q .non H',rt:=Q } (L2.start ["one","other","known"] [v,u]) H:=by
 obtain⟨r1,o1,n1,g1,rfl,e1,_,f1,f2⟩:=h1
 obtain⟨r2,o2,n2,g2,rfl,e2,_,f3,f4⟩:=h2
 obtain⟨xs,hx,px⟩:=f2
 obtain⟨ys,hy,py⟩:=f3
 obtain⟨zs,hz,pz⟩:=f4
 have lx:=bM px
 have ly:=bM py
 have lz:=bM pz
 have la:=oa.lg
 have lb:=ob.lg
 have lc:=ob.ln
 simp only[jE,YO,Yp,j7,zha,L2.start,zO,zo,zJ,zm,zcO,X9,zcN,zB,tOp,zc,tC,zb,zi,tCB,xI,YM,Yj,yD,j7,zO,cr,bG,bJ,bP,b8,bb,bd,bj,ah,V.int.injEq,V.ref.injEq,bp,and_true,am,br,bx,bU,bL,if_true,cG,ite_false]
 refine⟨_,SqT.of e2,_,rfl,_,SqT.of e2,_,rfl,n2,rfl,g2,rfl,ys,hy,zs,hz,zU (by lia),λl hl=>?_⟩
 have s1:=isV (o:=HO.lst (ys ++ zs)) l hl
 have pr:Paired (PrAt (upd H l (HO.lst (ys ++ zs)))) (ys ++ zs) (b.no ++ b.gi):=Ya (wp s1 py) (wp s1 pz)
 refine⟨_,zf,b.no ++ b.gi,pr,by rw[bt];lia,λd hd=>?_⟩
 generalize upd H l (HO.lst (ys ++ zs))=H1 at *
 have s2:=isV (o:=HO.dT (dOf (b.no ++ b.gi))) d hd
 have S2:=s1.trans s2
 have e1':=S2 _ _ e1
 have hx':=S2 _ _ hx
 have hd':upd H1 d (HO.dT (dOf (b.no ++ b.gi))) d=aa (.dT (dOf (b.no ++ b.gi))):=zf
 have px':=wp S2 px
 generalize upd H1 d (HO.dT (dOf (b.no ++ b.gi)))=H2 at *
 refine⟨_,SqT.of e1',_,rfl,g1,rfl,⟨_,SqL.of hx'⟩,λD hD=>?_⟩
 refine jU (J:=Itl K g1) xs.length (by lia) (λτ=>∃o0 o1,τ=[o0,o1,aa (.ref d)]) (gvR a.gi (b.no ++ b.gi)) (λi ys H H' s h=>h) ⟨_,_,rfl⟩ rfl (λi H s h=>⟨_,_,SqL.of (s _ _ hx'),ba h⟩) (λH s=>⟨_,SqL.of (s _ _ hx'),bq _⟩) hD ?_ ?_
 ·rintro i v τ us H4 H5 ⟨o0,o1,rfl⟩ s4 hi hR ⟨rfl,hv⟩
  have hv:=hv _ (SqL.of (s4 _ _ hx'))
  obtain⟨row,hrow,r,p0,rfl,q2,q3⟩:=Paired.getP px' hv
  simp only[bb,bd,bj,ah,V.ref.injEq,bp,and_true,am,br,bx]
  refine⟨_,SqT.of (s4 _ _ q2),rfl,_,_,rfl,_,_,rfl,rfl,_,DGet.t (k:=zI row.1) (s4 _ _ hd') (s4 _ _ q3),⟨_,rfl⟩,?_,Same.refl _⟩
  unfold gvR at hR ⊢
  rw[cX,hrow,cQ,hR]
  have e:(yH (dOf (b.no ++ b.gi)) (zI row.1)).isSome=pIn row.1 (b.no ++ b.gi):=by
   rw[<-QQ,xM]
   cases zq (b.no ++ b.gi) row.1 <;> rfl
  rw[e]
  rfl
 ·rintro us H4 hl hR s4 hDl
  unfold gvR at hR
  rw[lx,dY] at hR
  have e:us=(a.gi.map λr=>pIn r.1 (b.no ++ b.gi)).map V.bl:=by rw[hR,dR];rfl
  rw[e] at hDl
  refine⟨_,SqL.of hDl,?_⟩
  have:=q H4 (S2.trans s4)
  unfold Vq at this
  rw[List.any_map]
  exact this
theorem zes(h1:PpV H v a)(h2:PpV H u b)(oa:vd a)(ob:vd b)(q:∀H',Same H H'->Q (.bl (Zp a b)) H') :
  J2 K t { nx:=λ_ H'=>Q .non H',rt:=Q } (L2.start ["one","other"] [v,u]) H:=by
 simp only[J2,wT,L2.start,zB,zc,zb,zi,Q8,zn,cr,bG,bJ,bB,bb,bd,bj,ah,V.bl.injEq,bp,and_true,and_assoc,am,bU,bL]
 refine⟨a,h1,b,h2,oa,ob,λH1 s1=>?_⟩
 have e:Zp a b=(Vq a b || Vq b a):=rfl
 cases g:Vq a b with
 | true =>
  rw[ap rfl]
  rw[g,Bool.true_or] at e
  have:=q H1 s1
  rw[e] at this
  exact this
 | false =>
  rw[ak (by decide)]
  rw[g,Bool.false_or] at e
  refine⟨b,h2.same s1,a,h1.same s1,ob,oa,λH2 s2=>?_⟩
  have:=q H2 (s1.trans s2)
  rw[e] at this
  exact this
end
section
variable {p l a:ag}{k:Nat}{P:List Pp}{rs:List Nat}{ls:List ag}{T:List (List Nat)}
def mgR(P:List Pp)(rs:List Nat)(k:Nat)(i:Nat)(ys:List V)(_:Hp):Prop:=ys=(((rs.take i).filter λj=>mtB P j k).map z8)
theorem QR{ws:List Nat}{k:Nat}(h:ws[k]?=aa w):ws.take (k + 1)=ws.take k ++ [w]:=by rw[cX,h];rfl
theorem QS(h1:PpsAt H p P)(h2:H l=aa (.lst (rs.map z8)))(h3:rs.length<=63)(h4:∀j∈rs,j < P.length)(h5:k < P.length)(q:∀q H',Same H H'->H q=ai->H' q=aa (.lst ((rs.filter λj=>mtB P j k).map z8))->Q (.ref q) H') :
  Z5 K t { nx:=λ_ H'=>Q .non H',rt:=Q } (L2.start ["papers","ranks","rank"] [.ref p,.ref l,.int k]) H:=by
 simp only[Z5,J1,L2.start,zm,zB,tOp,zc,zb,zi,tB,zn,xI,Yj,yD,y6,cr,bG,bJ,bP,b8,bB,bb,bd,bj,ah,V.ref.injEq,V.bl.injEq,bp,and_true,and_assoc,am,bU,bL]
 have lr:(rs.map z8).length=rs.length:=bu ..
 refine⟨⟨_,SqL.of h2⟩,λD hD=>?_⟩
 refine jU (J:=Itl K l) rs.length (by lia) (λτ=>∃o0,τ=[o0,aa (.ref p),aa (.int k)]) (mgR P rs k) (λi ys H H' s h=>h) ⟨_,rfl⟩ rfl (λi H s h=>⟨_,_,SqL.of (s _ _ h2),ba (by rw[lr];exact h)⟩) (λH s=>⟨_,SqL.of (s _ _ h2),by rw[lr];exact bq _⟩) hD ?_ ?_
 ·rintro i v τ us H4 H5 ⟨o0,rfl⟩ s4 hi hR ⟨rfl,hv⟩
  have hv:=hv _ (SqL.of (s4 _ _ h2))
  have hj:rs[i]?=aa rs[i]:=ba hi
  rw[bW,hj] at hv
  obtain rfl:z8 rs[i]=v:=ck hv
  have tk:=QR (ws:=rs) hj
  have hlt:=h4 _ (dM hi)
  generalize rs[i]=j at *
  have h1':=h1.same s4
  obtain⟨xs,v1,x1,x2,x3,x4,_⟩:=h1'.get hlt
  obtain⟨xs',v2,y1,y2,y3,y4,_⟩:=h1'.get h5
  simp only[z8,bb,bd,bj,ah,V.int.injEq,V.ref.injEq,bp,and_true,br]
  refine⟨_,SqL.of x1,_,x2,_,SqL.of y1,_,y2,_,x3,_,y3,x4,y4,λH6 s6=>?_⟩
  have em:Zp (pAt P j) (pAt P k)=mtB P j k:=rfl
  rw[em]
  unfold mgR at hR ⊢
  rw[tk,lT,cQ]
  cases g:mtB P j k with
  | true =>
   rw[ap rfl]
   exact⟨⟨_,rfl⟩,by rw[hR];simp[g,z8],s6⟩
  | false =>
   rw[ak (by decide)]
   exact⟨⟨_,rfl⟩,by rw[hR];simp[g],s6⟩
 ·rintro us H4 hl hR s4 hDl
  unfold mgR at hR
  rw[dY] at hR
  rw[hR] at hDl
  exact q D H4 s4 hD hDl
end
def zet(P:List Pp)(tab:List Row)(L:List Nat)(p:Pl):Int:=L.foldl (λw k=>(zq (pAt P k).gi p).getD w) (v3 tab p)
def TbV(P:List Pp)(tab:List Row)(L:List Nat)(now:List Row):Prop:=∀p,v3 now p=zet P tab L p
theorem W5(G:vj s out):giS s=out:=zfV (gU (p:=vj s) ⟨out,G⟩) G
theorem zeu(F:FedR C rows s)(h:∀r∈s.no,v3 rows2 r.1=r.2):FedR C rows2 s:=by
 obtain⟨k,e⟩:=F.rc
 exact⟨F.ov,⟨k,(QP C (v3 rows) (v3 rows2) k st0 (by rw[e];exact h)).trans e⟩,F.ri,F.fw⟩
theorem zf1(F:FedR C rows s)(F2:FedR C rows s2):s2=s:=qW F2.rc F.rc F2.ov F.ov
def gvs(P:List Pp)(p:Pl)(k:Nat):Bool:=(zq (pAt P k).gi p).isSome
section
variable {P:List Pp}{tab now out:List Row}{L L1 L2:List Nat}{p:Pl}{j k:Nat}
theorem Kc:mtB P j k=mtB P k j:=Bool.or_comm ..
theorem zev(h1:gvs P p j=ae)(h2:pIn p (pAt P k).no=ae\/gvs P p k=ae):mtB P j k=ae:=by
 unfold gvs at h1 h2
 rw[QQ] at h1 h2
 obtain⟨r,hr,rfl⟩:=pIn_iff.mp h1
 refine Bool.or_eq_true_iff.mpr (.inl (fF.mpr ⟨r,hr,pIn_iff.mpr ?_⟩))
 rcases h2 with h | h
 ·obtain⟨q,hq,e⟩:=pIn_iff.mp h
  exact⟨q,cE _ hq,e⟩
 ·obtain⟨q,hq,e⟩:=pIn_iff.mp h
  exact⟨q,bT _ hq,e⟩
theorem zgx(h:gvs P p j=ae):j < P.length:=by
 by_cases c:j < P.length
 ·exact c
 ·unfold gvs pAt at h
  rw[bh,cR (by lia)] at h
  cases h
theorem W6:∀(L:List Nat) (w:Int),L.foldl (λw k=>(zq (pAt P k).gi p).getD w) w=(L.filter (gvs P p)).foldl (λw k=>(zq (pAt P k).gi p).getD w) w
 | [],w=>rfl
 | k :: L,w=>by
  rw[eF,iK,W6 L]
  split
  ·rfl
  ·rename_i c
   have e:zq (pAt P k).gi p=ai:=by
    cases e:zq (pAt P k).gi p with
    | none=>rfl
    | some v=>exact absurd (by unfold gvs;rw[e];rfl) c
   rw[e];rfl
theorem zew:∀ {a b:List Nat},a.Pairwise (· < ·)->b.Pairwise (· < ·)->(∀x,x∈a↔x∈b)->a=b
 | [],[],_,_,_=>rfl
 | [],y :: b,_,_,h=>absurd ((h y).mpr bC) (λz=>nomatch z)
 | x :: a,[],_,_,h=>absurd ((h x).mp bC) (λz=>nomatch z)
 | x :: a,y :: b,ha,hb,h=>by
  rw[fO] at ha hb
  have e:x=y:=by
   rcases bS.mp ((h x).mp bC) with e | e
   ·exact e
   ·rcases bS.mp ((h y).mpr bC) with e' | e'
    ·exact e'.symm
    ·have:=ha.1 y e'
     have:=hb.1 x e
     lia
  subst e
  rw[zew ha.2 hb.2 λz=>?_]
  constructor
  ·intro hz
   rcases bS.mp ((h z).mp (bE _ hz)) with e | e
   ·have:=ha.1 z hz;lia
   ·exact e
  ·intro hz
   rcases bS.mp ((h z).mpr (bE _ hz)) with e | e
   ·have:=hb.1 z hz;lia
   ·exact e
theorem zbN(h:xx P L)(p:Pl):(L.filter (gvs P p)).Pairwise (· < ·):=by
 have h2:(L.filter (gvs P p)).Pairwise λa b=>mtB P a b=ae->a < b:=List.Pairwise.filter _ h
 refine List.Pairwise.imp_of_mem (λ{a b} ha hb f=>f ?_) h2
 exact zev (dQ.mp ha).2 (.inr (dQ.mp hb).2)
theorem W7(n:Nat):xx P (bI n):=by unfold xx;exact oG (S:=λa b=>mtB P a b=ae->a < b) (λh _=>h) List.pairwise_lt_range
theorem zex(h1:xx P L1)(h2:xx P L2)(h:∀j,gvs P p j=ae->(j∈L1↔j∈L2)):zet P tab L1 p=zet P tab L2 p:=by
 unfold zet
 rw[W6 L1,W6 L2,zew (zbN h1 p) (zbN h2 p) λx=>?_]
 rw[dQ,dQ]
 exact⟨λ⟨a,b⟩=>⟨(h x b).mp a,b⟩,λ⟨a,b⟩=>⟨(h x b).mpr a,b⟩⟩
theorem TbV.step(h:TbV P tab L now)(T:xj (now ++ (pAt P k).gi) out):TbV P tab (L ++ [k]) out:=λp=>by
 have e:v3 out p=(zq (pAt P k).gi p).getD (v3 now p):=by
  unfold v3
  rw[zft T,Xa]
  cases zq (pAt P k).gi p <;> rfl
 rw[e,h p]
 unfold zet
 rw[oF]
 rfl
end
theorem zf2(ha:TabI U a)(hb:TabI U b)(h:∀p,v3 a p=v3 b p):a=b:=by
 have one:∀ {a b:List Row},TabI U a->TabI U b->(∀p,v3 a p=v3 b p)->∀x,x∈a->x∈b:=λ{a b} ha hb h x hx=>by
  have e1:=(wS (p:=x.1) (w:=x.2) ha.ri.nd).mpr hx
  have e2:=zaV (h x.1) ⟨e1,(ha.ps x hx).2.2⟩
  exact(wS hb.ri.nd).mp e2.1
 exact ko ha.ri hb.ri λx=>⟨one ha hb h x,one hb ha (λp=>(h p).symm) x⟩
noncomputable def zf3(C:List Cs)(rows:List Row):RSt:=@mq RSt ⟨st0⟩ (FedR C rows)
noncomputable def zhq(rows:List Row):List Row:=@mq (List Row) ⟨[]⟩ (xj rows)
noncomputable def vJ(CC:List (List Cs))(tab:List Row):Nat->List Row
 | 0=>tab
 | i + 1=>zhq (vJ CC tab i ++ giS (zf3 (CC.getD i []) (vJ CC tab i)))
noncomputable def sI(CC:List (List Cs))(tab:List Row)(i:Nat):RSt:=zf3 (CC.getD i []) (vJ CC tab i)
structure Idy(CC:List (List Cs))(tab:List Row)(j:Nat):Prop where
 fd:FedR (CC.getD j []) (vJ CC tab j) (sI CC tab j)
 gi:vj (sI CC tab j) (giS (sI CC tab j))
 tb:xj (vJ CC tab j ++ giS (sI CC tab j)) (vJ CC tab (j + 1))
def JI(CC:List (List Cs))(tab:List Row)(i:Nat)(now:List Row):Prop:=now=vJ CC tab i/\∀j,j < i->Idy CC tab j
theorem zf4(F:FedR C rows s):zf3 C rows=s:=by
 have G:FedR C rows (zf3 C rows):=gU (p:=FedR C rows) ⟨s,F⟩
 exact qW G.rc F.rc G.ov F.ov
theorem zf5(T:xj rows out):zhq rows=out:=Qd (gU (p:=xj rows) ⟨out,T⟩) T
theorem zaW(G:vj s gi)(hr:r∈gi):r∈s.gi:=by
 unfold vj at G
 cases ew:s.why with
 | some x=>rw[ew] at G;rw[G] at hr;cases hr
 | none =>
  rw[ew] at G
  exact vY ((G.2 r.1 r.2).mp hr)
theorem QT(h:i < n):(bI n).getD i 0=i:=by
 rw[bh,fm h];rfl
section
variable {U:List Pl}{CC:List (List Cs)}{tab:List Row}
theorem zf6(hU:∀i now,i < CC.length->FedR (CC.getD i []) now (sI CC tab i)->∀r∈(sI CC tab i).gi,r.1∈U):Qv U CC (bI CC.length) (JI CC tab) (sI CC tab):=by
 rintro i now s gi hi ⟨rfl,J⟩ _ F G
 rw[db] at hi
 rw[QT hi] at F
 have e:sI CC tab i=s:=zf4 F
 have u:=hU i _ hi (by rw[e];exact F)
 rw[e] at u
 refine⟨e,λr hr=>u r (zaW G hr),λout T=>?_⟩
 have en:vJ CC tab (i + 1)=out:=by
  show zhq (vJ CC tab i ++ giS (sI CC tab i))=out
  rw[e,W5 G,zf5 T]
 refine⟨en.symm,λj hj=>?_⟩
 by_cases c:j=i
 ·subst c
  refine⟨by rw[e];exact F,?_,?_⟩
  ·rw[e,W5 G];exact G
  ·rw[en,e,W5 G];exact T
 ·exact J j (by lia)
end
noncomputable def pI(CC:List (List Cs))(tab:List Row):List Pp:=(bI CC.length).map λk=>ppS (sI CC tab k)
section
variable {U:List Pl}{CC:List (List Cs)}{tab now:List Row}{L os:List Nat}{j k:Nat}
theorem Yb:(pI CC tab).length=CC.length:=by unfold pI;rw[bu,db]
theorem zey(h:k < CC.length):pAt (pI CC tab) k=ppS (sI CC tab k):=by
 unfold pAt pI
 rw[bh,bW,fm h]
 rfl
theorem Kd(I:∀j,j < CC.length->Idy CC tab j):∀k,k<=CC.length->TbV (pI CC tab) tab (bI k) (vJ CC tab k)
 | 0,_=>λp=>rfl
 | k + 1,h=>by
  have:=(I k (by lia)).tb
  rw[nj]
  refine(Kd I k (by lia)).step ?_
  rw[zey (by lia)]
  exact this
theorem zf7(I:∀j,j < CC.length->Idy CC tab j)(hk:k < CC.length)(T:TbV (pI CC tab) tab L now)(K:xx (pI CC tab) L)(h:∀j,j < CC.length->mtB (pI CC tab) j k=ae->(j∈L↔j < k)):FedR (CC.getD k []) now (sI CC tab k):=by
 refine zeu (I k hk).fd λr hr=>?_
 rw[T r.1,zex K (W7 k) (λj g=>?_),<-Kd I k (by lia) r.1]
 ·exact(I k hk).fd.tb r hr
 ·have lj:=zgx g
  rw[Yb] at lj
  rw[List.mem_range]
  refine h j lj (zev g (.inl (pIn_iff.mpr ⟨r,?_,rfl⟩)))
  rw[zey hk]
  exact hr
theorem zez(pm:os.Perm (bI n))(kp:xx P os)(hi:i < os.length)(lj:j < n)(m:mtB P j (os.getD i 0)=ae):j∈os.take i↔j < os.getD i 0:=by
 have e:os=os.take i ++ (os.getD i 0 :: os.drop (i + 1)):=by
  have h:=cU hi
  rw[bh,ba hi]
  show os=os.take i ++ (os[i] :: os.drop (i + 1))
  rw[<-h,cS]
 unfold xx at kp
 rw[e,ca] at kp
 obtain⟨_,l2,l3⟩:=kp
 rw[fO] at l2
 generalize os.getD i 0=k at *
 constructor
 ·exact λh=>l3 j h k bC m
 ·intro h
  have hm:=pm.mem_iff.mpr (cP.mpr lj)
  rw[e] at hm
  rcases bF.mp hm with hm | hm
  ·exact hm
  ·rcases bS.mp hm with rfl | hm
   ·lia
   ·have:=l2.1 j hm (by rw[Kc];exact m)
    lia
theorem zhr(pm:os.Perm (bI n))(kp:xx P os):kpB P os=ae:=by
 unfold kpB
 rw[cZ]
 intro i hi
 have e:Vr P os i=ao:=by
  unfold Vr
  rw[gg]
  intro j hj z
  rw[b9,decide_eq_true_eq] at z
  have lj:j < n:=cP.mp (pm.mem_iff.mp (dJ hj))
  have:=(zez pm kp (cP.mp hi) lj z.2).mp hj
  lia
 rw[e];rfl
theorem zf8(hi:i < os.length):os.take (i + 1)=os.take i ++ [os.getD i 0]:=by
 rw[cX,bh,ba hi];rfl
def JT(CC:List (List Cs))(tab:List Row)(os:List Nat)(i:Nat)(now:List Row):Prop:=TbV (pI CC tab) tab (os.take i) now
theorem zf9(I:∀j,j < CC.length->Idy CC tab j)(hU:∀i now,i < CC.length->FedR (CC.getD i []) now (sI CC tab i)->∀r∈(sI CC tab i).gi,r.1∈U)(pm:os.Perm (bI CC.length))(kl:xx (pI CC tab) os):Qv U CC os (JT CC tab os) λi=>sI CC tab (os.getD i 0):=by
 intro i now s gi hi J _ F G
 have hk:os.getD i 0 < CC.length:=by
  refine cP.mp (pm.mem_iff.mp ?_)
  rw[bh,ba hi];exact dM hi
 have kp:xx (pI CC tab) (os.take i):=List.Pairwise.sublist (ou ..) kl
 have F2:=zf7 I hk J kp λj lj m=>zez pm kl hi lj m
 have e:=zf1 F F2
 refine⟨e,λr hr=>?_,λout T=>?_⟩
 ·have:=hU _ _ hk F2
  rw[e] at this
  exact this r (zaW G hr)
 ·unfold JT
  rw[zf8 hi]
  refine TbV.step J ?_
  rw[zey hk,e]
  show xj (now ++ giS s) out
  rw[W5 G]
  exact T
theorem zeA(pm:os.Perm (bI CC.length)):Vs (λi=>sI CC tab (os.getD i 0)) os CC.length=pI CC tab:=by
 unfold Vs pI
 refine eG λk hk=>?_
 have hj:=gd (pm.mem_iff.mpr hk)
 have e:os.getD (os.idxOf k) 0=k:=by
  rw[bh,ba hj]
  exact oh hj
 show ppS (sI CC tab (os.getD (os.idxOf k) 0))=_
 rw[e]
theorem zhs:Vs (sI CC tab) (bI CC.length) CC.length=pI CC tab:=by
 have:=zeA (CC:=CC) (tab:=tab) (iu (bI CC.length))
 rw[<-this]
 unfold Vs
 refine eG λk hk=>?_
 have hj:=gd hk
 rw[db] at hj
 show _=ppS (sI CC tab ((bI CC.length).getD ((bI CC.length).idxOf k) 0))
 rw[QT hj]
theorem zht(I:∀j,j < CC.length->Idy CC tab j)(k1:xx (pI CC tab) L)(m:∀j,j < CC.length->j∈L)(T:TbV (pI CC tab) tab L out)(ti:TabI U out)(ti2:TabI U (vJ CC tab CC.length)):out=vJ CC tab CC.length:=by
 refine zf2 ti ti2 λp=>?_
 rw[T p,Kd I _ (bq _) p]
 refine zex k1 (W7 _) λj g=>?_
 have lj:=zgx g
 rw[Yb] at lj
 exact⟨λ_=>cP.mpr lj,λ_=>m j lj⟩
end
theorem zgy:∀(CC:List (List Cs)) (S:Nat->RSt),∃B:List Pl,(∀i now,i < CC.length->FedR (CC.getD i []) now (S i)->∀r∈(S i).gi,r.1∈B)/\(∀p∈B,cf p.1=ae)/\B.length<=(CC.map bJ).sum
 | [],S=>⟨[],(λi _ h=>absurd h (lH _)),(λr h=>nomatch h),bq _⟩
 | C :: CC,S=>by
  obtain⟨B,h1,h2,h3⟩:=zgy CC λi=>S (i + 1)
  have step:∀A:List Pl,(∀now,FedR C now (S 0)->∀r∈(S 0).gi,r.1∈A)->(∀p∈A,cf p.1=ae)->A.length<=C.length->∃B:List Pl,(∀i now,i < (C :: CC).length->FedR ((C :: CC).getD i []) now (S i)->∀r∈(S i).gi,r.1∈B)/\(∀p∈B,cf p.1=ae)/\B.length<=((C :: CC).map bJ).sum:=λA k1 k2 k3=>by
   refine⟨A ++ B,λi now hi F r hr=>?_,λp hp=>(bF.mp hp).elim (k2 p) (h2 p),by rw[bt,b7,oj];lia⟩
   cases i with
   | zero=>exact cE _ (k1 now F r hr)
   | succ i=>exact bT _ (h1 i now (by simpa using hi) F r hr)
  by_cases c:∃now,FedR C now (S 0)
  ·obtain⟨now,F⟩:=c
   obtain⟨m,_,I⟩:=F.ri
   refine step ((S 0).gi.map (·.1)) (λ_ _ r hr=>cj.mpr ⟨r,hr,rfl⟩) (λp hp=>?_) (by have:=F.fw;rw[bu];lia)
   obtain⟨r,hr,rfl⟩:=cj.mp hp
   exact I.ng r hr
  ·exact step [] (λnow F=>absurd ⟨now,F⟩ c) (λr h=>nomatch h) (cp _)
theorem ziw{CC:List (List Cs)}(W:(CC.map bJ).sum<=252)(T:zcu tab)(S:Nat->RSt):∃U:List Pl,UOk U/\TabI U tab/\∀i now,i < CC.length->FedR (CC.getD i []) now (S i)->∀r∈(S i).gi,r.1∈U:=by
 obtain⟨B,h1,h2,h3⟩:=zgy CC S
 have lt:=T.le
 refine⟨tab.map (·.1) ++ B,⟨by rw[bt,bu];lia,λp hp=>?_⟩,⟨T.ri,λr hr=>⟨cE _ (cj.mpr ⟨r,hr,rfl⟩),(T.ps r hr).2⟩⟩,λi now hi F r hr=>bT _ (h1 i now hi F r hr)⟩
 rcases bF.mp hp with hp | hp
 ·obtain⟨r,hr,rfl⟩:=cj.mp hp
  exact(T.ps r hr).1
 ·exact h2 p hp
def inD(ns:List Int):PyData:=.list (ns.map ms)
theorem zeB{ns:List Int}(h:H a=aa (.lst (ns.map V.int))):Dat K H (.ref a) (inD ns):=.lst (SqL.of h) (DatAll.of λi _=>.int i)
theorem QU:∀(ns:List Int),z5 (ns.map ms)=ae/\cq (ns.map ms)<=1
 | []=>⟨rfl,by simp[cq]⟩
 | n :: r=>by
  have ih:=QU r
  rw[b7,z5,cq,ih.1]
  refine⟨by simp[zL],?_⟩
  simp only[dm];lia
theorem zbO(ns:List Int):zL (inD ns)=ae/\(inD ns).depth<=64:=by
 obtain⟨h1,h2⟩:=QU ns
 exact⟨by unfold inD;rw[zL];exact h1,by unfold inD;rw[dm];lia⟩
def rgI(n:Nat):List Int:=(bI n).map λ(i:Nat)=>(i:Int)
theorem zhu(n:Nat):((bI n).map λi=>V.int (i:Nat))=(rgI n).map V.int:=by unfold rgI;rw[dR];rfl
theorem zgz(n:Nat):(rgI n).Pairwise (· < ·):=by
 unfold rgI
 rw[fc]
 exact List.pairwise_lt_range.imp λh=>by lia
theorem zie(n:Nat):(rgI n).Nodup:=(zgz n).imp λh e=>by lia
theorem zgA:∀ {a b:List Int},a.Pairwise (· < ·)->b.Pairwise (· < ·)->a.Perm b->a=b
 | [],b,_,_,h=>h.nil_eq
 | x :: a,[],_,_,h=>absurd h.length_eq (by simp)
 | x :: a,y :: b,ha,hb,h=>by
  rw[fO] at ha hb
  have e:x=y:=by
   rcases bS.mp (h.mem_iff.mp (bC ..)) with e | e
   ·exact e
   ·rcases bS.mp (h.mem_iff.mpr (bC ..)) with e' | e'
    ·exact e'.symm
    ·have:=ha.1 y e'
     have:=hb.1 x e
     lia
  subst e
  rw[zgA ha.2 hb.2 (List.perm_cons x |>.mp h)]
theorem zga(os:List Nat):os.map z8=(os.map λ(i:Nat)=>(i:Int)).map V.int:=by rw[dR];rfl
theorem W8{l:ag}{n:Nat}{os:List Nat}{E:XK}(h1:H l=aa (.lst (os.map z8)))(h2:n<=63)(h3:os.Perm (bI n))(q:∀H',Same H H'->Q .non H') :
  jr K t E { nx:=λ_ H'=>Q .non H',rt:=Q } (L2.start ["order","many"] [.ref l,.int n]) H:=by
 simp only[jr,zdY,zay,zd2,Qp,L2.start,ZH,zH,tOp,zc,zb,zi,zS,zA,tCB,cr,bG,bJ,bB,bb,bd,bj,ah,V.int.injEq,V.ref.injEq,V.bl.injEq,bp,and_true,and_assoc,am,bU,bL,cB,if_true]
 rw[zga] at h1
 have ln:=h3.length_eq
 rw[db] at ln
 have o:(os.map λ(i:Nat)=>(i:Int)).Perm (rgI n):=List.Perm.map _ h3
 refine⟨_,SqL.of h1,by rw[bu];lia,(List.Perm.nodup_iff o).mpr (zie n),λa srt ha pm up=>⟨n,rfl,by lia,λb hb=>?_⟩⟩
 have s1:=isV (o:=HO.lst (srt.map V.int)) a ha
 have e1:upd H a (HO.lst (srt.map V.int)) a=aa (.lst (srt.map V.int)):=zf
 generalize upd H a (HO.lst (srt.map V.int))=H1 at *
 rw[zhu]
 have s2:=isV (o:=HO.lst ((rgI n).map V.int)) b hb
 have e2:upd H1 b (HO.lst ((rgI n).map V.int)) b=aa (.lst ((rgI n).map V.int)):=zf
 generalize upd H1 b (HO.lst ((rgI n).map V.int))=H2 at *
 have S:=s1.trans s2
 refine⟨_,zeB (s2 _ _ e1),_,zeB e2,(zbO _).1,(zbO _).1,(zbO _).2,(zbO _).2,λc hc=>?_⟩
 have e:srt=rgI n:=zgA up (zgz n) (pm.trans o)
 rw[hc.mpr (by rw[e]),ak (by decide)]
 exact q _ S
theorem qX{os:List Nat}(h:k < os.length):(os.map z8)[k]?=aa (.int ((os.getD k 0:Nat):Int)):=by
 rw[bW,ba h,bh,ba h];rfl
theorem jY{os:List Nat}(h:k < os.length):os.getD k 0∈os:=by
 rw[bh,ba h];exact dM h
section
variable {p l:ag}{P:List Pp}{os:List Nat}{H0:Hp}{E:XK}
def zcA(P:List Pp)(os:List Nat)(k j:Nat):Bool:=decide (os.getD k 0 < j) && mtB P j (os.getD k 0)
theorem zbP :Vr P os k=(os.take k).any (zcA P os k):=rfl
theorem QV(hk:k < os.length)(h:Vr P os k=ae):kpB P os=ao:=by
 unfold kpB
 rw[List.all_eq_false]
 exact⟨k,cP.mpr hk,by rw[h];simp⟩
theorem zgb(h:∀k,k < os.length->Vr P os k=ao):kpB P os=ae:=by
 unfold kpB
 rw[cZ]
 exact λk hk=>by rw[h k (cP.mp hk)];rfl
def hiR(os:List Nat)(r:Nat)(m:Nat)(i:Nat)(ys:List V)(_:Hp):Prop:=ys=(((os.take m).take i).filter λj=>decide (r < j)).map z8
theorem zaX{k:Nat}{A:V}{o4:Option V}(h1:PpsAt H p P)(h2:H l=aa (.lst (os.map z8)))(h3:os.length<=63)(h4:∀j∈os,j < P.length)(hk:k < os.length)(qt:∀H',Same H H'->Vr P os k=ae->D.rt (.bl ao) H')(qn:∀H' o4,Same H H'->Vr P os k=ao->D.nx [aa (.ref p),aa (.ref l),aa (.int (k:Nat)),aa (.int ((os.getD k 0:Nat):Int)),o4] H') :
  Z6 K t E D [aa (.ref p),aa (.ref l),aa (.int (k:Nat)),aa (.int ((os.getD k 0:Nat):Int)),o4] H:=by
 simp only[Z6,ZX,zaE,zo,zJ,zm,zB,zH,tOp,zc,tC,xq,zb,zi,zS,zA,tSl,xG,yy,zn,xI,Yj,yD,rI0,Yf,cr,bG,bJ,bP,b8,bB,bb,bd,bj,ah,V.int.injEq,V.ref.injEq,V.bl.injEq,bp,and_true,and_assoc,am,br,bx,decide_eq_true_eq,cB,decide_eq_false_iff_not]
 refine⟨_,SqL.of h2,λl1 hl1=>?_⟩
 rw[QN,<-gn]
 have s1:=isV (o:=HO.lst ((os.take k).map z8)) l1 hl1
 have e1:upd H l1 (HO.lst ((os.take k).map z8)) l1=aa (.lst ((os.take k).map z8)):=zf
 generalize upd H l1 (HO.lst ((os.take k).map z8))=H1 at *
 have lk:((os.take k).map z8).length=k:=by rw[bu,cm];lia
 refine⟨⟨_,SqL.of e1⟩,λD1 hD1=>?_⟩
 refine jU (J:=Itl K l1) k (by lia) (λτ=>∃o0,τ=[o0,aa (.int ((os.getD k 0:Nat):Int))]) (hiR os (os.getD k 0) k) (λi ys H H' s h=>h) ⟨_,rfl⟩ rfl (λi H s h=>⟨_,_,SqL.of (s _ _ e1),ba (by rw[lk];exact h)⟩) (λH s=>⟨_,SqL.of (s _ _ e1),by rw[lk];exact bq _⟩) hD1 ?_ ?_
 ·rintro i v τ us H4 H5 ⟨o0,rfl⟩ s4 hi hR ⟨rfl,hv⟩
  have hv:=hv _ (SqL.of (s4 _ _ e1))
  have hik:i < (os.take k).length:=by rw[cm];lia
  have hj:(os.take k)[i]?=aa (os.take k)[i]:=ba hik
  rw[bW,hj] at hv
  obtain rfl:z8 (os.take k)[i]=v:=ck hv
  have tk:=QR (ws:=os.take k) hj
  generalize (os.take k)[i]=j at *
  simp only[z8,bb,bd,bj,ah,V.int.injEq,bp,and_true,br]
  unfold hiR at hR ⊢
  refine xo (λc=>⟨⟨_,rfl⟩,?_,Same.refl _⟩) λc=>⟨⟨_,rfl⟩,?_,Same.refl _⟩
  ·rw[tk,lT,cQ,hR,iK,ap (decide_eq_true (by lia))];rfl
  ·rw[tk,lT,cQ,hR,iK,ak (by rw[decide_eq_true_eq];lia)];simp
 ·rintro us H4 hle hR s4 hDl
  unfold hiR at hR
  rw[bQ (l:=os.take k) (by rw[cm];lia)] at hR
  rw[hR] at hDl
  have S4:=s1.trans s4
  have lf:=List.length_filter_le (λj=>decide (os.getD k 0 < j)) (os.take k)
  have lt:(os.take k).length<=os.length:=by rw[cm];lia
  refine⟨os.getD k 0,rfl,P,h1.same S4,_,hDl,by lia,λj hj=>h4 j (dJ (dQ.mp hj).1),h4 _ (jY hk),λq0 H5 s5 _ hq=>⟨by decide,λp1 hp1=>?_⟩⟩
  have s6:=isV (o:=HO.lst []) p1 hp1
  refine⟨_,SqL.of (s6 _ _ hq),SqL.of zf,?_⟩
  have S6:=S4.trans (s5.trans s6)
  have ef:((os.take k).filter (λj=>decide (os.getD k 0 < j))).filter (λj=>mtB P j (os.getD k 0))=(os.take k).filter (zcA P os k):=by
   rw[List.filter_filter]
   refine List.filter_congr λj _=>?_
   unfold zcA
   rw[Bool.and_comm]
  rw[ef]
  cases hf:(os.take k).filter (zcA P os k) with
  | nil =>
   rw[ak (by simp)]
   refine qn _ _ S6 ?_
   rw[zbP,gg]
   exact λj hj z=>by
    have:j∈(os.take k).filter (zcA P os k):=dQ.mpr ⟨hj,z⟩
    rw[hf] at this;cases this
  | cons j r =>
   rw[ap (by simp)]
   refine qt _ S6 ?_
   have:j∈(os.take k).filter (zcA P os k):=by rw[hf];exact bC
   rw[zbP]
   exact fF.mpr ⟨j,dQ.mp this⟩
def keI(p l:ag)(P:List Pp)(os:List Nat)(H0:Hp)(i:Nat)(σ:St)(H:Hp):Prop:=(∃o2 o3 o4,σ=[aa (.ref p),aa (.ref l),o2,o3,o4])/\Same H0 H/\∀k,k < i->Vr P os k=ao
theorem zaY(h1:PpsAt H p P)(h2:H l=aa (.lst (os.map z8)))(h3:os.length<=63)(h4:∀j∈os,j < P.length)(q:∀H',Same H H'->Q (.bl (kpB P os)) H') :
  Z7 K t E { nx:=λ_ H'=>Q .non H',rt:=Q } [aa (.ref p),aa (.ref l),ai,ai,ai] H:=by
 simp only[Z7,zg8,zo,zm,zcO,X9,zcN,zB,zc,tC,zb,zi,xF,bb,bd,bj,ah,V.ref.injEq,bp,and_true,am]
 have ln:(os.map z8).length=os.length:=bu ..
 refine⟨_,SqL.of h2,zaD (os.map z8) (keI p l P os H) ⟨⟨_,_,_,rfl⟩,Same.refl H,λk z=>by lia⟩ (λi σ H' z=>SqL.of (z.2.1 _ _ h2)) ?_ ?_⟩
 ·rintro i u A σ H1 hu hA ⟨⟨o2,o3,o4,rfl⟩,s1,hb⟩
  have hi:=(bn.mp hu).1
  rw[ln] at hi
  rw[qX hi] at hu
  obtain rfl:=ck hu
  have s2:=isV (o:=HO.tup [V.int (i:Int),V.int ((os.getD i 0:Nat):Int)]) A hA
  simp only[ah,V.ref.injEq,br,bx]
  refine⟨_,SqT.of zf,rfl,_,_,rfl,_,_,rfl,rfl,?_⟩
  have S2:=s1.trans s2
  refine zaX (A:=.non) (h1.same S2) (S2 _ _ h2) h3 h4 hi (λH3 s3 b=>?_) λH3 o4 s3 b=>⟨⟨_,_,_,rfl⟩,S2.trans s3,λk hk=>?_⟩
  ·have:=q H3 (S2.trans s3)
   rw[QV hi b] at this
   exact this
  ·by_cases z:k=i
   ·rw[z];exact b
   ·exact hb k (by lia)
 ·rintro σ H1 ⟨⟨o2,o3,o4,rfl⟩,s1,hb⟩
  have:=q H1 s1
  rw[zgb λk hk=>hb k (by lia)] at this
  exact this
theorem zcB(h1:PpsAt H p P)(h2:H l=aa (.lst (os.map z8)))(h3:os.Perm (bI P.length))(q:∀H',Same H H'->Q (.bl (kpB P os)) H') :
  WO K t E { nx:=λ_ H'=>Q .non H',rt:=Q } (L2.start ["papers","order","at","rank","higher"] [.ref p,.ref l]) H:=by
 simp only[WO,xL,L2.start,zo,yT,zc,zb,zi,tCB,zn,Zn,xy,cr,bG,bJ,bP,b8,bB,bb,bd,bj,ah,V.int.injEq,V.ref.injEq,bp,and_true,and_assoc,am,bU,bL]
 obtain⟨⟨xs,hx,px⟩,_,hle⟩:=id h1
 have lx:=bM px
 have lo:=h3.length_eq
 rw[db] at lo
 refine⟨P.length,.inl ⟨_,SqL.of hx,lx.symm⟩,P.length,rfl,os,h2,hle,h3,λH1 s1=>?_⟩
 exact zaY (h1.same s1) (s1 _ _ h2) (by lia) (λj hj=>cP.mp (h3.mem_iff.mp hj)) λH2 s2=>q H2 (s1.trans s2)
end
section
variable {U:List Pl}{now gi out rows:List Row}
theorem zif(h:∀r∈rows,r.1∈U):(dOf rows).length<=U.length:=by
 have:=jO (a:=(dOf rows).map (·.1)) (b:=U.map zI) (vQ rows).1 λx hx=>by
  obtain⟨kv,hk,rfl⟩:=cj.mp hx
  obtain⟨p,w,rfl,e⟩:=mem_dOf.mp hk
  exact cj.mpr ⟨p,h _ (vY e),rfl⟩
 rw[bu,bu] at this
 exact this
theorem TabI.len(uo:UOk U)(ti:TabI U now):now.length<=300:=by
 have:=jO (a:=now.map (·.1)) (b:=U) ti.ri.nd λx hx=>by
  obtain⟨r,hr,rfl⟩:=cj.mp hx
  exact(ti.ps r hr).1
 rw[bu] at this
 exact bR this uo.le
theorem zgc(uo:UOk U)(ti:TabI U now)(gu:∀r∈gi,r.1∈U):(dOf (now ++ gi)).length<=900:=bR (zif λr hr=>(bF.mp hr).elim (λh=>(ti.ps r h).1) (gu r)) (bR uo.le (by decide))
theorem zbQ(ti:TabI U now)(gu:∀r∈gi,r.1∈U)(gw:∀r∈gi,inW r.2=ae)(T:xj (now ++ gi) out):TabI U out:=⟨T.1,λr hr=>by
 obtain⟨a,b⟩:=(T.2 r.1 r.2).mp hr
 rcases bF.mp (vY a) with h | h
 ·exact⟨(ti.ps _ h).1,(ti.ps _ h).2.1,b⟩
 ·exact⟨gu _ h,gw _ h,b⟩⟩
end
section
variable {d:ag}
theorem YD(hd:H d=aa (.dK k))(h:H a=aa (.tup zs)):upd H d o a=aa (.tup zs):=by rw[zl (λz=>by rw[z,hd] at h;cases h)];exact h
theorem X5(hd:H d=aa (.dK k))(h:LsAt H a rows):LsAt (upd H d o) a rows:=by
 obtain⟨xs,hx,px⟩:=h
 exact⟨xs,by rw[zl (λz=>by rw[z,hd] at hx;cases hx)];exact hx,kM (λb us e=>YD hd e) px⟩
theorem PpV.updK(hd:H d=aa (.dK k))(h:PpV H v p):PpV (upd H d o) v p:=by
 obtain⟨r,x,nl,gl,e,h1,h2,h3,h4⟩:=h
 exact⟨r,x,nl,gl,e,YD hd h1,zib h2 (λb us e=>YD hd e),X5 hd h3,X5 hd h4⟩
end
theorem PpAt.v{Hb:Hp}(P:PpAt Hb H r s)(F:FedR C rows s)(lc:C.length<=40):PpV H (.ref r) (ppS s)/\vd (ppS s)/\vj s (giS s)/\(∀r∈giS s,inW r.2=ae)/\∃o nl gl,H r=aa (.tup [o,.ref nl,.ref gl])/\LsAt H gl (giS s):=by
 obtain⟨o,nl,gl,out,h1,h2,h3,h4,h5,_⟩:=P
 obtain⟨m,_,I⟩:=F.ri
 have e:=W5 h5
 rw[<-e] at h4 h5
 have lg:=zhi h5
 have fw:=F.fw
 exact⟨⟨r,o,nl,gl,rfl,h1,h2,h3,h4⟩,⟨by show s.no.length<=40;lia,by show (giS s).length<=40;lia,I.nn,zic I h5,zho I⟩,h5,zep I h5,o,nl,gl,h1,h4⟩
structure OrS(U:List Pl)(os:List Nat)(J:Nat->List Row->Prop)(S:Nat->RSt)(H0 H:Hp)(d nl:ag)(i:Nat):Prop where
 sm:Same H0 H
 fd:H0 d=ai
 nw:∃now,LsAt H nl now/\TabI U now/\J i now
 pp:∃kvs,H d=aa (.dK kvs)/\kvs.length<=i/\∀j,j < i->∃v,yH kvs (.inl ((os.getD j 0:Nat):Int))=aa v/\PpV H v (ppS (S j))/\vd (ppS (S j))
theorem zeC{kvs:List (Key × V)}{k:Key} :(yz kvs k v).length<=kvs.length + 1:=by
 unfold yz
 split
 ·rw[bu];lia
 ·rw[bt];simp
theorem CosAt.same{H':Hp}(h:CosAt H cl CC)(s:Same H H'):CosAt H' cl CC:=by
 obtain⟨⟨xs,h1,h2⟩,h3,h4⟩:=h
 exact⟨⟨xs,s _ _ h1,Paired.mapP h2 λ_ _ ⟨a,ys,e,h5,h6⟩=>⟨a,ys,e,s _ _ h5,xQ s h6⟩⟩,h3,h4⟩
theorem zhv(hC:CosAt H cl CC)(hk:k < CC.length):∃xs a ys,H cl=aa (.lst xs)/\xs[k]?=aa (.ref a)/\H a=aa (.lst ys)/\Paired (CsAt H) ys (CC.getD k [])/\JZ (CC.getD k []):=by
 obtain⟨⟨xs,h1,h2⟩,h3,_⟩:=hC
 have lx:=bM h2
 have hx:xs[k]?=aa xs[k]:=ba (by lia)
 obtain⟨C,hc,a,ys,e,h5,h6⟩:=L2.Paired.getP h2 hx
 have ec:CC.getD k []=C:=by rw[bh,hc];rfl
 rw[ec]
 exact⟨xs,a,ys,h1,by rw[hx,e],h5,h6,h3 C (bD hc)⟩
section
variable {U:List Pl}{CC:List (List Cs)}{tab:List Row}{os:List Nat}{J:Nat->List Row->Prop}{S:Nat->RSt}{H0:Hp}{d nl cl tl l:ag}{i:Nat}{E:XK}
theorem OrS.step{Ha Hc:Hp}(O:OrS U os J S H0 H d nl i)(nd:os.Nodup)(hi:i < os.length)(hk:H d=aa (.dK kvs))(sa:Same H Ha)(P:PpV Ha (.ref r) (ppS (S i)))(po:vd (ppS (S i)))(sc:Same (upd Ha d (.dK (yz kvs (.inl ((os.getD i 0:Nat):Int)) (.ref r)))) Hc)(hl:LsAt Hc nl' out)(ti:TabI U out)(hJ:J (i + 1) out):OrS U os J S H0 Hc d nl' (i + 1):=by
 obtain⟨kvs',e1,e2,e3⟩:=O.pp
 have ek:kvs'=kvs:=by rw[hk] at e1;cases e1;rfl
 subst ek
 have ha:Ha d=aa (.dK kvs'):=sa _ _ hk
 have key:∀j,j < i->((os.getD j 0:Nat):Int)≠((os.getD i 0:Nat):Int):=λj hj z=>by
  have z:os.getD j 0=os.getD i 0:=by lia
  rw[bh,bh,ba hi,ba (by lia)] at z
  have:=(fD nd).mp z
  lia
 refine⟨λb o e=>sc _ _ (by rw[zl (λz=>by rw[z,O.fd] at e;cases e)];exact sa _ _ (O.sm _ _ e)),O.fd,⟨out,hl,ti,hJ⟩,_,sc _ _ zf,by have:=zeC (kvs:=kvs') (k:=.inl ((os.getD i 0:Nat):Int)) (v:=V.ref r);lia,λj hj=>?_⟩
 rw[jJ]
 by_cases c:j=i
 ·rw[c,ap rfl]
  exact⟨_,rfl,(P.updK ha).same sc,po⟩
 ·rw[ak (λz=>key j (by lia) (Sum.inl.inj z))]
  obtain⟨v,h1,h2,h3⟩:=e3 j (by lia)
  exact⟨v,h1,((h2.same sa).updK ha).same sc,h3⟩
def ykR(kvs:List (Key × V))(i:Nat)(ys:List V)(_:Hp):Prop:=ys.length=i/\∀k,k < i->ys[k]?=yH kvs (.inl ((k:Nat):Int))
theorem Jp{α:Type}{R:V->α->Prop}:∀ {xs:List V} {n:Nat} {g:Nat->α},xs.length=n->(∀k v,xs[k]?=aa v->R v (g k))->Paired R xs ((bI n).map g)
 | [],_,g,e,_=>by cases e;exact .nil
 | x :: xs,n,g,e,h=>by
  cases e
  rw[cA,List.range_succ_eq_map,b7,dR]
  exact .cons (h 0 x rfl) (Jp rfl λk v e=>h (k + 1) v e)
theorem zeD{o5:Option V}(O:OrS U os J S H0 H d nl os.length)(hC:CosAt H0 cl CC)(pm:os.Perm (bI CC.length))(q:∀v out H',Same H0 H'->J os.length out->zbD U H' v (Vs S os CC.length) out->Q v H') :
  js K t E { nx:=λ_ H'=>Q .non H',rt:=Q } [aa (.ref cl),aa (.ref tl),aa (.ref l),aa (.ref d),aa (.ref nl),o5] H:=by
 simp only[js,qh,zm,zB,zc,yC,zb,zi,tCB,xI,YM,Yj,Zn,jG,xy,cr,bG,bJ,bP,b8,bb,bd,bj,ah,V.int.injEq,bp,and_true,am,bL,fC,gr,if_true]
 obtain⟨⟨zs,hz,pz⟩,_,le⟩:=id hC
 have lz:=bM pz
 obtain⟨kvs,e1,e2,e3⟩:=O.pp
 obtain⟨now,n1,n2,n3⟩:=O.nw
 have g:∀k,k < CC.length->∃v,yH kvs (.inl ((k:Nat):Int))=aa v/\PpV H v (ppS (S (os.idxOf k)))/\vd (ppS (S (os.idxOf k))):=λk hk=>by
  have hj:=gd (pm.mem_iff.mpr (cP.mpr hk))
  obtain⟨v,h1,h2⟩:=e3 _ hj
  rw[bh,ba hj] at h1
  have e:os[os.idxOf k]=k:=oh hj
  rw[show (aa os[os.idxOf k]).getD 0=k from e] at h1
  exact⟨v,h1,h2⟩
 refine⟨CC.length,.inl ⟨_,SqL.of (O.sm _ _ hz),lz.symm⟩,by lia,by lia,λD hD=>?_⟩
 refine jU (J:=Itr 0 CC.length) CC.length (by lia) (λτ=>∃o,τ=[o,aa (.ref d)]) (ykR kvs) (λi ys H H' s h=>h) ⟨_,rfl⟩ ⟨rfl,λk h=>by lia⟩ (λi H _ h=>h) (λH _=>bq _) hD ?_ ?_
 ·rintro i v τ ys H4 H5 ⟨o,rfl⟩ s4 hi ⟨l1,l2⟩ ⟨rfl,rfl⟩
  simp only[bb,bd,bj,ah,V.ref.injEq,bp,and_true,br]
  rw[nk]
  obtain⟨v,h1,_⟩:=g i hi
  refine⟨v,.inl ⟨kvs,.inl (i:Int),.inl (s4 _ _ e1),rfl,h1.symm⟩,⟨_,rfl⟩,⟨by rw[bt,l1];rfl,λk hk=>?_⟩,Same.refl _⟩
  by_cases c:k=i
  ·rw[c,cI (by lia),l1,Nat.sub_self,h1];rfl
  ·rw[c8 (by lia)];exact l2 k (by lia)
 ·rintro ys H4 hly ⟨l1,l2⟩ s4 hq
  refine⟨by decide,λp hp=>?_⟩
  have s5:=isV (o:=HO.tup [V.ref D,V.ref nl]) p hp
  have S5:=s4.trans s5
  refine q (.ref p) now _ (O.sm.trans S5) n3 ⟨⟨p,D,nl,rfl,zf,⟨⟨ys,s5 _ _ hq,?_⟩,λx hx=>?_,by unfold Vs;rw[bu,db];lia⟩,xm n1 S5⟩,n2⟩
  ·refine Jp l1 λk v hv=>?_
   have hk:=(bn.mp hv).1
   obtain⟨v',h1,h2,_⟩:=g k (by lia)
   rw[l2 k (by lia),h1] at hv
   cases hv
   exact h2.same S5
  ·unfold Vs at hx
   obtain⟨k,hk,rfl⟩:=cj.mp hx
   obtain⟨_,_,_,h⟩:=g k (cP.mp hk)
   exact h
def ioI(U:List Pl)(os:List Nat)(J:Nat->List Row->Prop)(S:Nat->RSt)(cl tl l d:ag)(H0:Hp)(i:Nat)(σ:St)(H:Hp):Prop:=∃nl,(∃o5,σ=[aa (.ref cl),aa (.ref tl),aa (.ref l),aa (.ref d),aa (.ref nl),o5])/\OrS U os J S H0 H d nl i
theorem zgd(hC:CosAt H0 cl CC)(uo:UOk U)(hl:H0 l=aa (.lst (os.map z8)))(pm:os.Perm (bI CC.length))(st:Qv U CC os J S)(O:OrS U os J S H0 H d nl 0)(q:∀v out H',Same H0 H'->J os.length out->zbD U H' v (Vs S os CC.length) out->Q v H') :
  jt K t E { nx:=λ_ H'=>Q .non H',rt:=Q } [aa (.ref cl),aa (.ref tl),aa (.ref l),aa (.ref d),aa (.ref nl),ai] H:=by
 simp only[jt,zaL,ZY,wu,qh,zO,zo,zJ,zm,tOp,zc,tC,zb,zi,xF,zn,yD,y6,zO,bB,bb,bd,bj,ah,V.int.injEq,V.ref.injEq,bp,and_true,and_assoc,am]
 have lm:(os.map z8).length=os.length:=bu ..
 have nd:os.Nodup:=pm.nodup_iff.mpr oR
 have lo:=pm.length_eq
 rw[db] at lo
 have le:=hC.le
 refine⟨⟨_,SqL.of (O.sm _ _ hl)⟩,xg (os.map z8) (ioI U os J S cl tl l d H0) ⟨nl,⟨_,rfl⟩,O⟩ (λi σ H' ⟨_,_,z⟩=>SqL.of (z.sm _ _ hl)) ?_ ?_⟩
 ·rintro i v σ H1 hv ⟨nl,⟨o5,rfl⟩,O⟩
  have hi:=(bn.mp hv).1
  rw[lm] at hi
  rw[qX hi] at hv
  cases hv
  have hk:os.getD i 0 < CC.length:=cP.mp (pm.mem_iff.mp (jY hi))
  simp only[bb,bd,bj,ah,V.int.injEq,V.ref.injEq,br,bx]
  obtain⟨xs,a,ys,c1,c2,c3,c4,cc⟩:=zhv (hC.same O.sm) hk
  obtain⟨now,n1,ti,n3⟩:=O.nw
  have l6:=ti.len uo
  refine⟨_,SqL.of c1,_,x8 c2,a,rfl,_,c3,_,c4,cc,_,n1,by lia,λr hr=>(ti.ps r hr).2.1,λr s H2 s2 F P=>?_⟩
  obtain⟨p1,p2,p3,p4,o,n2,gl,p5,p6⟩:=P.v F cc.le
  obtain⟨kvs,e1,e2,_⟩:=O.pp
  have hd:=s2 _ _ e1
  obtain⟨es,gu,nx⟩:=st i now s _ hi n3 ti F p3
  have lg:=p2.lg
  have lg:(giS s).length<=40:=lg
  rw[<-es] at p1 p2
  exact⟨_,.inl ⟨kvs,.inl ((os.getD i 0:Nat):Int),hd,rfl,bZ (by lia:_<=63) (by decide),rfl⟩,.ref r,.inl ⟨_,.inl ((os.getD i 0:Nat):Int),.inl zf,rfl,by rw[jJ,ap rfl]⟩,r,rfl,_,SqT.of (YD hd p5),_,rfl,gl,rfl,_,X5 hd (xm n1 s2),_,X5 hd p6,zgc uo ti gu,by rw[bt];lia,λnl' out H3 s3 fn hl T=>⟨nl',⟨_,rfl⟩,O.step nd hi e1 s2 p1 p2 s3 hl (zbQ ti gu p4 T) (nx out T)⟩⟩
 ·rintro σ H1 ⟨nl,⟨o5,rfl⟩,O⟩
  rw[lm] at O
  exact zeD O hC pm q
theorem Ke(hC:CosAt H cl CC)(uo:UOk U)(ht:LsAt H tl tab)(ti:TabI U tab)(hl:H l=aa (.lst (os.map z8)))(pm:os.Perm (bI CC.length))(j0:J 0 tab)(st:Qv U CC os J S)(q:∀v out H',Same H H'->J os.length out->zbD U H' v (Vs S os CC.length) out->Q v H') :
  qM K t E { nx:=λ_ H'=>Q .non H',rt:=Q } (L2.start ["codes","table","order","papers","behind","rank"] [.ref cl,.ref tl,.ref l]) H:=by
 simp only[qM,Zz,xL,L2.start,zas,zo,zJ,zm,yT,zc,zb,zi,tCB,zn,Zn,YL,xy,cr,bG,bJ,bP,b8,bB,bb,bd,bj,ah,V.int.injEq,V.ref.injEq,bp,and_true,and_assoc,am,br,bx,bU,bL]
 obtain⟨⟨zs,hz,pz⟩,_,le⟩:=id hC
 have lz:=bM pz
 refine⟨CC.length,.inl ⟨_,SqL.of hz,lz.symm⟩,_,rfl,os,hl,by lia,pm,λH1 s1=>?_⟩
 intro d hd
 obtain⟨xs,hx,px⟩:=ht
 have s2:=isV (o:=HO.dK []) d hd
 have e2:upd H1 d (HO.dK []) d=aa (.dK []):=zf
 generalize upd H1 d (HO.dK [])=H2 at *
 refine⟨xs,.inl (SqL.of ((s1.trans s2) _ _ hx)),λnl hnl=>?_⟩
 have s3:=isV (o:=HO.lst xs) nl hnl
 have O:OrS U os J S H1 (upd H2 nl (HO.lst xs)) d nl 0:=⟨s2.trans s3,hd,⟨tab,⟨xs,zf,x5 (s1.trans (s2.trans s3)) px⟩,ti,j0⟩,[],s3 _ _ e2,bq _,λj hj=>absurd hj (lH _)⟩
 exact zgd (hC.same s1) uo (s1 _ _ hl) pm st O λv out H' a1 a2 a3=>q v out H' (s1.trans a1) a2 a3
end
theorem QW{a b:ag}{tab gifts:List Row}(h1:LsAt H a tab)(h2:LsAt H b gifts)(h3:(dOf (tab ++ gifts)).length<=900)(h4:(tab ++ gifts).length<=1000)(q:∀l out H',Same H H'->H l=ai->LsAt H' l out->xj (tab ++ gifts) out->Q (.ref l) H') :
  Z1 K t { nx:=λ_ H'=>Q .non H',rt:=Q } (L2.start ["table","gifts"] [.ref a,.ref b]) H:=by
 simp only[Z1,vc,j7,L2.start,zB,tOp,zc,zb,zi,zn,j7,cr,bG,bJ,bB,bb,bd,bj,ah,V.ref.injEq,bp,and_true,am,bU,bL]
 obtain⟨xs,hx,rx⟩:=h1
 obtain⟨ys,hy,ry⟩:=h2
 have l:=h4
 rw[bt,<-QK rx,<-QK ry] at l
 exact⟨xs,hx,ys,hy,bR l (by decide),λp hp=>⟨tab ++ gifts,⟨xs ++ ys,zf,x5 (isV p hp) (QL ry rx)⟩,h3,h4,λl out H' s fr hl ti=>q l out H' ((isV p hp).trans s) (zD (isV p hp) fr) hl ti⟩⟩
theorem zeE{P:Nat->Bool}(h:vg P x)(u:Tok):vg P (fB x ai ai (-1,u)):=by
 unfold vg at *
 rw[gA]
 rw[cZ] at *
 intro c hc
 obtain⟨k,hk,rfl⟩:=cj.mp hc
 have hk:=cP.mp hk
 refine h _ ?_
 have hlt:x.length - 1 - k < x.cps.size:=by show _ < x.length;lia
 rw[fV,cF hlt]
 exact Array.getElem_mem_toList ..
theorem zge(x:Str)(u:Tok):fB x ai ai (-1,u)=fB x ai ai (-1,0):=by
 have h:=(gA x u).trans (gA x 0).symm
 generalize fB x ai ai (-1,u)=y at *
 generalize fB x ai ai (-1,0)=z at *
 obtain⟨y⟩:=y
 obtain⟨z⟩:=z
 exact congrArg Str.mk (fI.mp h)
def c21:Str:="zyxwvtsrqpnmlkjhgfdcb"
theorem zaZ(e:Int):∃c,atI c21.cps.toList (e % 21)=aa c/\inC c=ae:=by
 have g1:=cL e (b:=21) (by decide)
 have g2:=cD e (b:=21) (by decide)
 obtain⟨v,h1,h2⟩:=zbF (xs:=c21.cps.toList) (i:=e % 21) g1 (by rw[show c21.cps.toList.length=21 from by decide +kernel];exact g2)
 exact⟨v,h1,zh8 v h2⟩
theorem zcC{c:Int}{x y:Str}(lx:x.length=2)(ly:y.length=1)(px:vg inC x)(py:vg inC y)(q:∀nm ws H',Same H H'->NamesAt H' nm ws->ws.length=3->Q (.ref nm) H') :
  wj K t { nx:=λ_ H'=>Q .non H',rt:=Q } [aa (.int c),aa (.int 3),aa (.str "zyxwvtsrqpnmlkjhgfdcb"),aa (.str x),aa (.str y),ai,ai] H:=by
 simp only[wj,jd,zk,zd1,zo,zJ,zm,zB,tOp,tUn,zc,tC,xq,zb,zi,zn,xI,YM,Yj,jG,y6,rI,rI0,rU,kR,cr,bG,bJ,bP,b8,bB,bb,bd,bj,ah,V.int.injEq,V.str.injEq,bp,and_true,true_and,and_assoc,am,br,bx,bL,m8,fC,gr,if_true]
 have lr:(fB x ai ai (-1,0)).length=x.length:=PyProof.Rows.step_rev_len x 0
 have pr:=zeE px 0
 refine⟨zU (by lia),zU (by lia),_,zge x,zU (by lia),by decide,λp hp=>⟨by decide,by decide,λr H1 r0 r1 s1=>⟨by decide,by decide,by decide,λD hD=>?_⟩⟩⟩
 have hp1:=s1 _ _ (zf (H:=H) (a:=p) (o:=HO.lst [V.str x,V.str (y ++ x),V.str (fB x ai ai (-1,0)),V.str (x ++ y)]))
 have S1:Same H H1:=(isV p hp).trans s1
 have nmz:∀v∈[V.str x,V.str (y ++ x),V.str (fB x ai ai (-1,0)),V.str (x ++ y)],nmV v:=λv hv=>by
  simp only[bS,ee,or_false] at hv
  rcases hv with rfl | rfl | rfl | rfl
  ·exact⟨_,rfl,Zl (by lia) (by lia) (.inr px)⟩
  ·exact⟨_,rfl,Zl (by rw[wc];lia) (by rw[wc];lia) (.inr (vX py px))⟩
  ·exact⟨_,rfl,Zl (by lia) (by lia) (.inr pr)⟩
  ·exact⟨_,rfl,Zl (by rw[wc];lia) (by rw[wc];lia) (.inr (vX px py))⟩
 generalize hM:[V.str x,V.str (y ++ x),V.str (fB x ai ai (-1,0)),V.str (x ++ y)]=M at *
 have lM:M.length=4:=by rw[<-hM];rfl
 refine KJ (J:=Itr 0 3) 3 (by decide) (λτ=>∃o,τ=[o,aa (.ref p),aa (.int (r % 4))]) (λi v=>nmV v) ⟨_,rfl⟩ (λi H _ h=>h) (λH _=>bq _) hD ?_ ?_
 ·rintro i v τ H2 H' ⟨o,rfl⟩ s hi ⟨rfl,rfl⟩
  simp only[bb,bd,bj,ah,V.int.injEq,V.ref.injEq,bp,and_true,br]
  obtain⟨v,hv,hm⟩:=zaN (r % 4 + (0 + (i:Int))) 4 (xs:=M) lM (by decide)
  exact⟨by decide,_,SqL.of (s _ _ hp1),v,hv,⟨_,rfl⟩,nmz v hm,Same.refl _⟩
 ·intro ys H' hly hv s hq
  obtain⟨ls,rfl,hp⟩:=J8 (P:=λx=>xD x=ae) (ys:=ys) λv hv2=>by
   obtain⟨i,hi⟩:=cV hv2
   exact hv i v hi
  rw[bu] at hly
  exact q D ls H' (S1.trans s) ⟨hq,hp⟩ hly
theorem Xb{c:Int}(q:∀nm ws H',Same H H'->NamesAt H' nm ws->ws.length=3->Q (.ref nm) H') :
  vq K t { nx:=λ_ H'=>Q .non H',rt:=Q } (L2.start ["cell","many","signs","stem","more","some","turn"] [.int c,.int 3]) H:=by
 simp only[vq,je,xK,zk,L2.start,zo,zJ,zm,zB,zH,tOp,zc,tC,zb,zi,zS,zA,zn,Ju,rI,rI0,kR,cr,bG,bJ,bP,b8,bB,bb,bd,bj,ah,V.int.injEq,V.str.injEq,V.bl.injEq,bp,and_true,and_assoc,am,br,bx,bU,bL,decide_eq_true_eq]
 refine⟨by decide,by decide,λr H1 _ _ s1=>⟨by decide,xo (λ_=>⟨by decide,by decide,λnm ws H2 s2 hn hl=>q nm ws H2 (s1.trans s2) hn (by lia)⟩) λ_=>⟨by decide,by decide,λr2 H2 _ _ s2=>?_⟩⟩⟩
 have sz:(bg "zyxwvtsrqpnmlkjhgfdcb").length<=sizeLine:=by decide +kernel
 obtain⟨c1,e1,i1⟩:=zaZ r2
 refine⟨by decide,sz,c1,e1,by decide,by decide,λr3 H3 _ _ s3=>?_⟩
 obtain⟨c2,e2,i2⟩:=zaZ r3
 refine⟨by decide,sz,c2,e2,zU (by rw[wU,wU];decide),by decide,by decide,λr4 H4 _ _ s4=>?_⟩
 obtain⟨c3,e3,i3⟩:=zaZ r4
 refine⟨by decide,sz,c3,e3,?_⟩
 exact zcC (by rw[wc,wU,wU]) (wU _) (vX (qT i1) (qT i2)) (qT i3) λnm ws H5 s5 hn hl=>q nm ws H5 (s1.trans (s2.trans (s3.trans (s4.trans s5)))) hn hl
def tw7:List V:=[V.str (bg "plus"),V.str (bg "minus"),V.str (bg "times"),V.str (bg "over"),V.str (bg "rest"),V.str (bg "under"),V.str (bg "plus")]
theorem zhw(r:Int):∃w:Str,atI tw7 (r % 7)=aa (.str w)/\wdJ w:=by
 obtain⟨x,hx,hm⟩:=zaN r 7 (xs:=tw7) rfl (by decide)
 unfold tw7 at hm
 simp only[bS,ee,or_false] at hm
 rcases hm with rfl | rfl | rfl | rfl | rfl | rfl | rfl <;> exact⟨_,hx,by decide +kernel,by decide +kernel,by decide +kernel⟩
theorem VD{c j:Int}{a:ag}{ws:List Str}(h1:0<=j)(h2:j<=700)(h3:NamesAt H a ws)(h4:ws.length=2)(q:∀p e H',Same H H'->H p=ai->H' p=aa (.tup e)->TermOk e->tmP e->Q (.ref p) H') :
  kK K t { nx:=λ_ H'=>Q .non H',rt:=Q } (L2.start ["cell","j","slots","slot","kind","words"] [.int c,.int j,.ref a]) H:=by
 simp only[kK,zk,yu,L2.start,zo,zJ,zm,zB,zH,tOp,zc,tC,xq,yC,zb,zi,zS,zA,zn,y6,rEq,rI,rI0,Ye,cr,bG,bJ,bP,b8,bB,bb,bd,bj,ah,V.int.injEq,V.ref.injEq,V.bl.injEq,bp,and_true,true_and,and_assoc,am,br,bx,bU,bL,decide_eq_true_eq]
 refine⟨h1,by lia,λr1 H1 _ _ s1=>⟨by decide,?_⟩⟩
 obtain⟨x,hx,_,nx⟩:=jV (h3.same s1) 2 h4 (by decide) r1
 obtain⟨t1,p1⟩:=YB (u:=.str x) (.inr ⟨x,rfl,nx⟩)
 refine⟨_,SqL.of (s1 _ _ h3.1),_,hx,by lia,by lia,λr2 H2 _ _ s2=>⟨by decide,xo (λ_=>⟨by decide,λp hp=>?_⟩) λ_=>xo (λ_=>⟨by lia,by lia,λw H3 hw s3=>⟨by decide,λp hp=>?_⟩⟩) λ_=>⟨by decide,λl hl=>⟨by lia,by lia,λw H3 hw s3=>⟨by lia,by lia,λr4 H4 _ _ s4=>⟨by decide,?_⟩⟩⟩⟩⟩⟩
 ·have S:=s1.trans s2
  exact q p [.str x] _ (S.trans (isV p hp)) (zD S hp) zf t1 p1
 ·have S:=s1.trans (s2.trans s3)
  obtain⟨t2,p2⟩:=YB (u:=.int w) (.inl ⟨w,rfl,hw⟩)
  exact q p [.int w] _ (S.trans (isV p hp)) (zD S hp) zf t2 p2
 ·have s0:=isV (o:=HO.lst tw7) l hl
  have e0:upd H2 l (HO.lst tw7) l=aa (.lst tw7):=zf
  obtain⟨y,hy,jy⟩:=zhw r4
  refine⟨tw7,SqL.of ((s3.trans s4) _ _ e0),_,hy,by decide,λp hp=>?_⟩
  have S:=s1.trans (s2.trans (s0.trans (s3.trans s4)))
  obtain⟨t2,p2⟩:=YB (u:=.int w) (.inl ⟨w,rfl,hw⟩)
  exact q p ([.str x] ++ [.int w] ++ [.str y]) _ (S.trans (isV p hp)) (zD S hp) zf (Y9 t1 t2 jy (by simp)) (Ka p1 p2 jy)
theorem VE{c j wd:Int}{a:ag}{ws:List Str}(h1:0<=j)(h2:j<=600)(h3:NamesAt H a ws)(h4:ws.length=2)(w1:1<=wd)(w2:wd<=8)(q:∀p e H',Same H H'->H p=ai->H' p=aa (.tup e)->TermOk e->tmP e->Q (.ref p) H') :
  kJ K t { nx:=λ_ H'=>Q .non H',rt:=Q } (L2.start ["cell","j","slots","wide","kind"] [.int c,.int j,.ref a,.int wd]) H:=by
 simp only[kJ,zk,L2.start,zo,zJ,zm,zB,zH,tOp,zc,tC,yC,zb,zi,zS,zA,zn,y6,rEq,rI,rI0,Ye,cr,bG,bJ,bP,b8,bB,bb,bd,bj,ah,V.int.injEq,V.ref.injEq,V.bl.injEq,bp,and_true,true_and,and_assoc,am,br,bx,bU,bL,decide_eq_true_eq]
 have nm:∀ {r:Int},inW (r % wd)=ae:=λ{r}=>by
  have n0:=cL r (b:=wd) (by lia)
  have n1:=cD r (b:=wd) (by lia)
  exact inW_iff.mpr (by lia)
 refine⟨by lia,by lia,λr1 H1 _ _ s1=>⟨by decide,xo (λ_=>⟨by lia,by lia,λr2 H2 _ _ s2=>⟨by decide,?_⟩⟩) λ_=>xo (λ_=>⟨by lia,by lia,λr2 H2 _ _ s2=>⟨by decide,?_⟩⟩) λ_=>⟨by lia,by lia,λr2 H2 _ _ s2=>⟨by lia,by decide,λp hp=>?_⟩⟩⟩⟩
 ·have S:=s1.trans s2
  obtain⟨x,hx,_,nx⟩:=jV (h3.same S) 2 h4 (by decide) r2
  obtain⟨t1,p1⟩:=YB (u:=.str x) (.inr ⟨x,rfl,nx⟩)
  exact⟨_,SqL.of (S _ _ h3.1),_,hx,by decide,λp hp=>q p [.str x] _ (S.trans (isV p hp)) (zD S hp) zf t1 p1⟩
 ·have S:=s1.trans s2
  obtain⟨x,hx,_,nx⟩:=jV (h3.same S) 2 h4 (by decide) r2
  obtain⟨t1,p1⟩:=YB (u:=.str x) (.inr ⟨x,rfl,nx⟩)
  refine⟨_,SqL.of (S _ _ h3.1),_,hx,by lia,by lia,λr3 H3 _ _ s3=>⟨by lia,by decide,λp hp=>?_⟩⟩
  have S3:=S.trans s3
  have jw:wdJ (bg "plus"):=⟨by decide +kernel,by decide +kernel,by decide +kernel⟩
  obtain⟨t2,p2⟩:=YB (u:=.int (r3 % wd)) (.inl ⟨_,rfl,nm⟩)
  exact q p ([.str x] ++ [.int (r3 % wd)] ++ [.str (bg "plus")]) _ (S3.trans (isV p hp)) (zD S3 hp) zf (Y9 t1 t2 jw (by simp)) (Ka p1 p2 jw)
 ·have S:=s1.trans s2
  obtain⟨t2,p2⟩:=YB (u:=.int (r2 % wd)) (.inl ⟨_,rfl,nm⟩)
  exact q p [.int (r2 % wd)] _ (S.trans (isV p hp)) (zD S hp) zf t2 p2
section
variable {c j kd wd:Int}{a b sp:ag}{ws us:List Str}{sh sl:Str}{e0:List V}{Hb:Hp}
theorem zeF{o:V}(j0:0<=j)(j1:j<=200)(h3:NamesAt H a ws)(h4:ws.length=2)(nsh:xD sh=ae)(nsl:xD sl=ae)(te:TermOk e0)(pe:tmP e0)(hp:H sp=aa (.tup e0))(fs:Hb sp=ai)(S:Same Hb H)
  (q:∀v r H',Same Hb H'->RwAt (λb=>Hb b=ai) H' v r->rwW r->Q v H') :
  jD K t { nx:=λ_ H'=>Q .non H',rt:=Q } [aa (.int c),aa (.int j),aa (.ref a),aa (.ref b),aa (.int wd),aa (.int kd),aa (.str sh),aa (.str sl),aa (.ref sp)] H:=by
 simp only[jD,y0,yu,zo,zB,zH,tOp,zc,tC,yC,zb,zi,zS,zA,zn,rEq,rI0,Ye,bJ,bB,bb,bd,bj,ah,V.int.injEq,V.ref.injEq,V.bl.injEq,bp,and_true,true_and,and_assoc,am,bL,decide_eq_true_eq]
 obtain⟨ts,ps⟩:=YB (u:=.str sl) (.inr ⟨sl,rfl,nsl⟩)
 refine xo (λ_=>⟨by decide,λr hr=>?_⟩) λ_=>xo (λ_=>⟨by lia,by lia,ws,h3,h4,λp2 f H2 s2 fp2 hp2 tf pf=>⟨by decide,λr hr=>?_⟩⟩) λ_=>xo (λ_=>⟨by lia,by lia,ws,h3,h4,λp f H1 s1 fp hp te pe=>⟨by decide,λr hr=>?_⟩⟩) λ_=>xo (λ_=>⟨by lia,by lia,λw H2 hw s2=>⟨by decide,λp hp=>⟨by decide,λr hr=>?_⟩⟩⟩) λ_=>⟨by lia,by lia,ws,h3,h4,λp f H1 s1 fp hp te pe=>⟨by decide,λr hr=>?_⟩⟩
 ·exact q _ (.take sh e0 sl) _ (S.trans (isV r hr)) ⟨r,sp,rfl,zD S hr,fs,zf,isV r hr _ _ hp⟩ ⟨trivial,⟨Zk nsh,pe,Zk nsl⟩,te⟩
 ·exact q _ (.give sh e0 f) _ (S.trans (s2.trans (isV r hr))) ⟨r,sp,p2,rfl,zD (S.trans s2) hr,fs,zD S fp2,zf,(s2.trans (isV r hr)) _ _ hp,isV r hr _ _ hp2⟩ ⟨trivial,⟨Zk nsh,pe,pf⟩,⟨te,tf⟩⟩
 ·exact q _ (.lt sl f) _ (S.trans (s1.trans (isV r hr))) ⟨r,p,rfl,zD (S.trans s1) hr,zD S fp,zf,isV r hr _ _ hp⟩ ⟨trivial,⟨Zk nsl,pe⟩,te⟩
 ·have T:=S.trans s2
  have s3:=isV (o:=HO.tup [V.str sl,V.int w,V.str (bg "same")]) p hp
  have jw:wdJ (bg "same"):=⟨by decide +kernel,by decide +kernel,by decide +kernel⟩
  obtain⟨t2,p2⟩:=YB (u:=.int w) (.inl ⟨w,rfl,hw⟩)
  exact q _ (.off ([.str sl] ++ [.int w] ++ [.str (bg "same")])) _ (T.trans (s3.trans (isV r hr))) ⟨r,p,rfl,zD (T.trans s3) hr,zD T hp,zf,isV r hr _ _ zf⟩ ⟨trivial,(by unfold WI;exact Ka ps p2 jw),(by unfold xV;exact Y9 ts t2 jw (by simp))⟩
 ·exact q _ (.say f) _ (S.trans (s1.trans (isV r hr))) ⟨r,p,rfl,zD (S.trans s1) hr,zD S fp,zf,isV r hr _ _ hp⟩ ⟨trivial,pe,te⟩
theorem Kf(j0:0<=j)(j1:j<=200)(h1:NamesAt H a ws)(h2:ws.length=2)(h3:NamesAt H b us)(h4:us.length=3)(w1:1<=wd)(w2:wd<=8)(q:∀v r H',Same H H'->RwAt (λb=>H b=ai) H' v r->rwW r->Q v H') :
  qQ K t { nx:=λ_ H'=>Q .non H',rt:=Q } (L2.start ["cell","j","slots","shelves","wide","kind","shelf","slot","place"] [.int c,.int j,.ref a,.ref b,.int wd]) H:=by
 simp only[qQ,zk,kE,L2.start,zo,zJ,zm,tOp,zc,tC,zb,zi,zn,y6,rI,rI0,cr,bG,bJ,bP,b8,bB,bb,bd,bj,ah,V.int.injEq,V.ref.injEq,bp,and_true,and_assoc,am,br,bx,bU,bL]
 refine⟨by lia,by lia,λr1 H1 a1 b1 s1=>⟨by decide,by lia,by lia,λr2 H2 a2 b2 s2=>⟨by decide,?_⟩⟩⟩
 obtain⟨x,hx,mx,nx⟩:=jV (h3.same (s1.trans s2)) 3 h4 (by decide) r2
 refine⟨_,SqL.of ((s1.trans s2) _ _ h3.1),_,hx,by lia,by lia,λr3 H3 a3 b3 s3=>⟨by decide,?_⟩⟩
 have S:=s1.trans (s2.trans s3)
 obtain⟨y,hy,_,ny⟩:=jV (h1.same S) 2 h2 (by decide) r3
 refine⟨_,SqL.of (S _ _ h1.1),_,hy,by lia,by lia,ws,h1.same S,h2,w1,w2,λsp e H4 s4 fs hp te pe=>?_⟩
 have S4:=S.trans s4
 exact zeF (o:=.non) j0 j1 (h1.same S4) h2 nx ny te pe hp (zD S fs) S4 q
end
def tbI(c wd:Int)(b d:ag)(H:Hp)(i:Nat)(σ:St)(H':Hp):Prop:=∃rows:List Row,(∃o1 o2,σ=[aa (.int c),aa (.ref b),aa (.int wd),aa (.ref d),o1,o2])/\Same H H'/\H' d=aa (.dT (dOf rows))/\rows.length<=i/\∀r∈rows,cf r.1.1=ae/\inW r.2=ae/\r.2≠0
theorem W9{c wd:Int}{b:ag}{us:List Str}(h1:NamesAt H b us)(h2:us.length=3)(w1:1<=wd)(w2:wd<=8)(q:∀l tab H',Same H H'->H l=ai->LsAt H' l tab->zcu tab->Q (.ref l) H') :
  jq K t { nx:=λ_ H'=>Q .non H',rt:=Q } (L2.start ["cell","shelves","wide","worths","k","worth"] [.int c,.ref b,.int wd]) H:=by
 simp only[jq,zk,j9,qv,Qj,L2.start,zo,zJ,zm,zB,tOp,zc,tC,zb,zi,xF,tCB,zn,jG,rI,cr,bG,bJ,bP,b8,bB,bb,bj,ah,V.int.injEq,V.ref.injEq,bp,and_true,and_assoc,am,br,bx,bU,bL,fC,gr]
 intro d hd
 have s0:=isV (o:=HO.dT []) d hd
 refine⟨by decide,by decide,λr1 H1 a1 b1 s1=>⟨by decide,by lia,by lia,kg (tbI c wd b d H) ⟨[],⟨_,_,rfl⟩,s0.trans s1,s1 _ _ zf,bq _,λ_ z=>nomatch z⟩ ?_ ?_⟩⟩
 ·rintro i σ H' hi ⟨rows,⟨o1,o2,rfl⟩,s,hD,hl,hr⟩
  simp only[kW,yu,zo,zJ,zm,zH,tOp,zc,tC,zb,zi,zS,zA,zn,rNe,rI,rI0,Ye,bB,bb,bd,bj,ah,V.int.injEq,V.bl.injEq,bp,and_true,true_and,and_assoc,am,br,bx,cB,decide_eq_false_iff_not]
  have hb:(10000000000000000000000000000000000000000000000:Int) < big:=by decide +kernel
  have i6:i < 9:=by lia
  refine⟨⟨by lia,by lia⟩,by lia,by lia,λw H2 hw s2=>?_⟩
  refine xo (λh0=>?_) λh0=>⟨rows,⟨_,_,rfl⟩,s.trans s2,s2 _ _ hD,by lia,hr⟩
  simp only[kU,zk,wu,tOp,zc,tC,yC,zb,zi,zn,y6,rI,rI0,bJ,bB,bb,bd,bj,ah,V.int.injEq,V.ref.injEq,bp,and_true,and_assoc,am,bL]
  refine⟨by lia,by lia,λr2 H3 a2 b2 s3=>⟨by decide,?_⟩⟩
  obtain⟨sh,hsh,hus,nsh⟩:=jV h1 3 h2 (by decide) r2
  refine⟨_,SqL.of ((s.trans (s2.trans s3)) _ _ h1.1),_,hsh,by lia,by lia,λr3 H4 a3 b3 s4=>⟨by lia,by decide,λp hp=>?_⟩⟩
  have s5:=isV (o:=HO.tup [V.str sh,V.int (r3 % wd)]) p hp
  have S5:=s2.trans (s3.trans (s4.trans s5))
  have ld:=xO rows
  refine⟨_,DPut.t (k:=zI (sh,r3 % wd)) (S5 _ _ hD) zf (bZ (by lia:_<=900) (by decide)),rows ++ [((sh,r3 % wd),w)],⟨_,_,rfl⟩,z6 (s.trans S5) hd,?_,by simp;lia,?_⟩
  ·rw[zf,jN]
  ·intro z hz
   rcases bF.mp hz with hz | hz
   ·exact hr z hz
   ·rw[b5.mp hz]
    exact⟨Zk nsh,hw,λz=>h0 z⟩
 ·rintro σ H' ⟨rows,⟨o1,o2,rfl⟩,s,hD,hl,hr⟩
  simp only[bb,bd,bj,ah,V.ref.injEq]
  refine⟨_,hD,λr hr'=>?_⟩
  have s3:=isV (o:=kS r d) r hr'
  have ld:=xO rows
  refine⟨d,zf,rows,s3 _ _ hD,by lia,λl ys srt H2 s4 fl hl pr ri mi=>q l srt H2 (s.trans (s3.trans s4)) (zD (s.trans s3) fl) ⟨ys,hl,pr⟩ ⟨ri,λz hz=>hr z (vY ((mi z.1 z.2).mp hz)),?_⟩⟩
  have:=jO (a:=srt.map (·.1)) (b:=rows.map (·.1)) (Rising.nd ri) λx hx=>by
   obtain⟨z,hz,rfl⟩:=cj.mp hx
   exact cj.mpr ⟨_,vY ((mi z.1 z.2).mp hz),rfl⟩
  rw[bu,bu] at this
  lia
theorem Kg(h:JY r):r.deep=0/\szR r=1:=by
 cases r with
 | iff e a b=>exact absurd h (λz=>z)
 | take _ _ _=>exact⟨by simp[Rw.deep],by simp[szR]⟩
 | give _ _ _=>exact⟨by simp[Rw.deep],by simp[szR]⟩
 | lt _ _=>exact⟨by simp[Rw.deep],by simp[szR]⟩
 | say _=>exact⟨by simp[Rw.deep],by simp[szR]⟩
 | off _=>exact⟨by simp[Rw.deep],by simp[szR]⟩
structure rwX(r:Rw):Prop where
 dp:r.deep<=1
 pl:WI r
 ok:xV r
 sz:szR r<=4
section
variable {us ws:List Str}{wd:Int}{n:Nat}
theorem rwW.x(h:rwW r):rwX r:=by
 obtain⟨a,b⟩:=Kg h.nf
 exact⟨by lia,h.pl,h.ok,by lia⟩
theorem rwsW.snoc(h:rwsW n r)(hx:rwX x):rwsW (n + 1) (r.snoc x):=
 ⟨by have:=h.dp;have:=hx.dp;rw[Je];lia,zbB hx.pl r h.pl,zbA hx.ok r h.ok,by have:=h.sz;have:=hx.sz;rw[Jo];lia⟩
theorem rwsW.cc(h:rwsW n r)(hn:n<=8):Zo 6 r/\(zt r 0).length<=4 * n/\JZ (zt r 0)/\r.cnt<=40:=by
 have z:=YC r 0
 have:=h.sz
 have:=h.dp
 have R:Zo 6 r:=⟨by lia,by lia,h.pl⟩
 exact⟨R,by lia,zh9 R h.ok (by lia),by lia⟩
def lcI(cl a b l:ag)(wd:Int)(H0:Hp)(i:Nat)(σ:St)(H:Hp):Prop:=∃(R:Rws) (ys:List V),(∃o5 o6 o7,σ=[aa (.ref cl),aa (.ref a),aa (.ref b),aa (.int wd),aa (.ref l),o5,o6,o7])/\Same H0 H/\H l=aa (.lst ys)/\RwsAt (λb=>H0 b=ai/\b≠l) H ys R/\rwsW i R/\ys.length=i
theorem zeG{H0 H1 H2:Hp}(hl:H0 l=ai)(s1:Same H0 H1)(h1:H1 l=aa (.lst ys))(hR:RwsAt (λb=>H0 b=ai/\b≠l) H1 ys R)(rR:rwsW i R)(ly:ys.length=i)(hi:i<=8)(s2:Same H1 H2)(hx:RwAt (λb=>H1 b=ai) H2 v x)(rx:rwX x) :
  H2 l=aa (.lst ys)/\ys.length < sizeLine/\lcI cl a b l wd H0 (i + 1) [aa (.ref cl),aa (.ref a),aa (.ref b),aa (.int wd),aa (.ref l),o5,o6,o7] (upd H2 l (.lst (ys ++ [v]))):=by
 have ne:∀ {b},H1 b=ai->b≠l:=λ{b} e z=>by rw[z,h1] at e;cases e
 refine⟨s2 _ _ h1,bZ (by lia:_<=63) (by decide),R.snoc x,ys ++ [v],⟨_,_,_,rfl⟩,z6 (s1.trans s2) hl,zf,?_,rR.snoc rx,by rw[bt,ly];rfl⟩
 exact RwsAt.snoc (hx.to x (λb o f _=>⟨zD s1 f,ne f⟩) λb o f e=>by rw[zl (ne f)];exact e) R (hR.to R (λ_ _ f _=>f) λb o f e=>by rw[zl f.2];exact s2 _ _ e)
theorem VF{cl a b:ag}{ns:List Int}(h1:H cl=aa (.lst (ns.map V.int)))(h2:ns.length<=8)(h3:NamesAt H a ws)(h4:ws.length=2)(h5:NamesAt H b us)(h6:us.length=3)(h7:1<=wd)(h8:wd<=8)(q:∀l r H',Same H H'->RlAt (λb=>H b=ai) H' (.ref l) r->rwsW ns.length r->Q (.ref l) H') :
  kL K t { nx:=λ_ H'=>Q .non H',rt:=Q } (L2.start ["cells","slots","shelves","wide","rows","cell","row","others"] [.ref cl,.ref a,.ref b,.int wd]) H:=by
 simp only[kL,L2.start,zo,zJ,zm,zB,zc,xq,zi,xF,yD,cr,bG,bJ,bP,b8,bb,bj,ah,V.ref.injEq,br,bx,bU,bL]
 refine⟨by decide,λl hl=>?_⟩
 have s0:=isV (o:=HO.lst []) l hl
 have e0:upd H l (HO.lst []) l=aa (.lst []):=zf
 generalize upd H l (HO.lst [])=H0 at *
 have lm:(ns.map V.int).length=ns.length:=bu ..
 refine⟨⟨_,SqL.of (s0 _ _ h1)⟩,xg (ns.map V.int) (lcI cl a b l wd H) ⟨.nil,[],⟨_,_,_,rfl⟩,s0,e0,by unfold RwsAt;rfl,⟨by simp[Rws.deep],by unfold x0;trivial,by unfold yJ;trivial,by simp[kD]⟩,rfl⟩ (λi σ H' ⟨_,_,_,z,_⟩=>SqL.of (z _ _ h1)) ?_ ?_⟩
 ·rintro i v σ H1 hv ⟨R,ys,⟨o5,o6,o7,rfl⟩,s1,hl1,hR,rR,ly⟩
  have hi:=(bn.mp hv).1
  rw[lm] at hi
  obtain⟨c,_,rfl⟩:=cj.mp (bD hv)
  simp only[qS,ve,zk,z7,v5,zo,zJ,zm,yT,zH,tOp,zc,tC,zb,zi,zS,zA,tBM,tyV,zn,rEq,rI,Ye,bB,bb,bd,bj,ah,V.int.injEq,V.ref.injEq,V.bl.injEq,bp,and_true,true_and,and_assoc,am,br,bx,decide_eq_true_eq]
  refine⟨by decide,by decide,ws,h3.same s1,h4,us,h5.same s1,h6,h7,h8,λv1 r1 H2 s2 k1 w1=>⟨by decide,by decide,λd1 H3 _ _ s3=>⟨by decide,?_⟩⟩⟩
  have S3:=s2.trans s3
  have T3:=s1.trans S3
  refine xo (λ_=>?_) λ_=>?_
  ·simp only[qR,ve,y0,v5,zo,zJ,zm,yT,zc,tC,xq,yC,zb,zi,tBM,tyV,zn,bJ,bB,bb,bd,bj,ah,V.int.injEq,V.ref.injEq,bp,and_true,true_and,and_assoc,am,br,bx,bL]
   refine⟨by decide,by decide,ws,h3.same T3,h4,us,h5.same T3,h6,h7,h8,λv2 r2 H4 s4 k2 w2=>⟨by decide,λol ho=>?_⟩⟩
   have s5:=isV (o:=HO.lst [v2]) ol ho
   have e5:upd H4 ol (HO.lst [v2]) ol=aa (.lst [v2]):=zf
   generalize upd H4 ol (HO.lst [v2])=H5 at *
   have S4:=S3.trans s4
   have S5:=S4.trans s5
   refine⟨by decide,by decide,ws,h3.same (s1.trans S5),h4,λtp e H6 s6 ft ht te pe=>⟨by decide,λrl hr=>?_⟩⟩
   have s7:=isV (o:=HO.lst [v1]) rl hr
   have e7:upd H6 rl (HO.lst [v1]) rl=aa (.lst [v1]):=zf
   generalize upd H6 rl (HO.lst [v1])=H7 at *
   refine⟨by decide,λrp hrp=>?_⟩
   have sA:=isV (o:=HO.tup [V.str (bg "if"),V.ref tp,V.ref rl,V.ref ol]) rp hrp
   have eA:upd H7 rp (HO.tup [V.str (bg "if"),V.ref tp,V.ref rl,V.ref ol]) rp=aa (.tup [V.str (bg "if"),V.ref tp,V.ref rl,V.ref ol]):=zf
   generalize upd H7 rp (HO.tup [V.str (bg "if"),V.ref tp,V.ref rl,V.ref ol])=HA at *
   have U1:=s7.trans sA
   have U2:=s6.trans U1
   have U3:=s5.trans U2
   have S6:=S5.trans s6
   obtain⟨dp1,sz1⟩:=Kg w1.nf
   obtain⟨dp2,sz2⟩:=Kg w2.nf
   have one:∀ {v r},RwAt (λb=>H1 b=ai) HA v r->rwW r->RwsAt (λb=>H1 b=ai) HA [v] (.cons r .nil)/\x0 (.cons r .nil)/\yJ (.cons r .nil):=λ{v r} h w=>⟨by unfold RwsAt;exact⟨_,_,rfl,h,by unfold RwsAt;rfl⟩,by unfold x0;exact⟨w.pl,by unfold x0;trivial⟩,by unfold yJ;exact⟨w.ok,by unfold yJ;trivial⟩⟩
   obtain⟨a1,a2,a3⟩:=one (k1.to r1 (λb o f _=>f) λb o _ z=>(s3.trans (s4.trans U3)) _ _ z) w1
   obtain⟨b1,b2,b3⟩:=one (k2.to r2 (λb o f _=>zD S3 f) λb o _ z=>U3 _ _ z) w2
   have hx:RwAt (λb=>H1 b=ai) HA (.ref rp) (.iff e (.cons r1 .nil) (.cons r2 .nil)):=by
    unfold RwAt
    exact⟨rp,tp,rl,ol,[v1],[v2],rfl,zD (S6.trans s7) hrp,zD S5 ft,zD S6 hr,zD S4 ho,eA,U1 _ _ ht,sA _ _ e7,a1,U2 _ _ e5,b1⟩
   have rx:rwX (.iff e (.cons r1 .nil) (.cons r2 .nil)):=⟨by simp only[Rw.deep,Rws.deep];lia,by unfold WI;exact⟨pe,a2,b2⟩,by unfold xV;exact⟨te,a3,b3⟩,by simp only[szR,kD];lia⟩
   obtain⟨f1,f2,f3⟩:=zeG (cl:=cl) (a:=a) (b:=b) (wd:=wd) (o5:=aa (.int c)) (o6:=aa (.ref rp)) (o7:=aa (.ref ol)) hl s1 hl1 hR rR ly (by lia) (S4.trans U3) hx rx
   exact⟨.inl ⟨_,SqL.of f1⟩,_,f1,f2,f3⟩
  ·obtain⟨f1,f2,f3⟩:=zeG (cl:=cl) (a:=a) (b:=b) (wd:=wd) (o5:=aa (.int c)) (o6:=aa v1) (o7:=o7) hl s1 hl1 hR rR ly (by lia) S3 (k1.to r1 (λb o f _=>f) λb o _ z=>s3 _ _ z) w1.x
   exact⟨.inl ⟨_,SqL.of f1⟩,_,f1,f2,f3⟩
 ·rintro σ H1 ⟨R,ys,⟨o5,o6,o7,rfl⟩,s1,hl1,hR,rR,ly⟩
  simp only[bb,bd,bj,ah]
  rw[lm] at rR
  exact q l R H1 s1 ⟨l,ys,rfl,hl,hl1,hR.to R (λ_ _ f _=>f.1) λb o _ e=>e⟩ rR
end
def zix(a b ol:ag)(T:Nat->List Row)(O:Nat->Oc)(H:Hp)(i:Nat)(σ:St)(H':Hp):Prop:=∃(l:ag) (ys:List V),(∃o4 o5,σ=[aa (.ref a),aa (.ref b),aa (.ref ol),aa (.ref l),o4,o5])/\Same H H'/\l≠ol/\H' ol=aa (.lst ys)/\ys.length=i/\Paired (OcAt H') ys ((bI i).map O)/\LsAt H' l (T i)
theorem Va{a b:ag}{xs:List V}{ds:List Rws}{T:Nat->List Row}{O:Nat->Oc}(h1:H a=aa (.lst xs))(h2:Paired (RlAt w6 H) xs ds)(h3:LsAt H b (T 0))(h5:ds.length<=500)(h6:∀i d,ds[i]?=aa d->Xq d (T i)/\∀oc out,we d (T i) oc out->oc=O i/\out=T (i + 1))
  (q:∀r ol l ys H',Same H H'->H' r=aa (.tup [.ref ol,.ref l])->H' ol=aa (.lst ys)->Paired (OcAt H') ys ((bI ds.length).map O)->LsAt H' l (T ds.length)->Q (.ref r) H') :
  jC K t { nx:=λ_ H'=>Q .non H',rt:=Q } (L2.start ["dealings","table","outcomes","behind","rows","done"] [.ref a,.ref b]) H:=by
 simp only[jC,WM,L2.start,zas,z7,v5,zO,zo,zJ,zm,zB,yT,tOp,zc,tC,xq,yC,zb,zi,xF,tCB,tBM,tyV,zn,yD,zO,cr,bG,bJ,bP,b8,bB,bb,bd,bj,ah,V.int.injEq,V.ref.injEq,bp,and_true,true_and,and_assoc,am,br,bx,bU,bL]
 refine⟨by decide,λol hol=>?_⟩
 have s1:=isV (o:=HO.lst []) ol hol
 obtain⟨ts,ht,rt⟩:=h3
 refine⟨ts,.inl (SqL.of (s1 _ _ ht)),λl hl=>?_⟩
 have s2:=isV (o:=HO.lst ts) l hl
 have S:=s1.trans s2
 have lx:=bM h2
 refine⟨⟨_,SqL.of (S _ _ h1)⟩,xg xs (zix a b ol T O H) ⟨l,[],⟨_,_,rfl⟩,S,WS zf hl,s2 _ _ zf,rfl,.nil,⟨ts,zf,x5 S rt⟩⟩ (λi σ H' ⟨l,ys,_,s,_⟩=>SqL.of (s _ _ h1)) ?_ ?_⟩
 ·rintro i v σ H' hv ⟨l,ys,⟨o4,o5,rfl⟩,s,nl,ho,ly,po,hm⟩
  obtain⟨d,hd,rd⟩:=Paired.getP h2 hv
  have hi:=(bn.mp hv).1
  obtain⟨pre,nxt⟩:=h6 i d hd
  simp only[bb,bd,bj,ah,V.ref.injEq,br,bx]
  refine⟨d,rd.mono s,_,hm,pre,λr o l' oc out H1 s1' fr hr oa la ar=>?_⟩
  obtain⟨rfl,rfl⟩:=nxt oc out ar
  have ts1:Xv H1 (upd H1 ol (.lst (ys ++ [o]))):=WT (s1' _ _ ho)
  refine⟨.inl ⟨_,SqL.of (s1' _ _ ho)⟩,_,SqT.of hr,_,rfl,ys,s1' _ _ ho,bZ (by lia:ys.length<=500) (by decide),_,SqT.of (ts1 _ _ hr),_,rfl,l',ys ++ [o],⟨_,_,rfl⟩,z6 (s.trans s1') hol,WS ho fr,zf,by simp[ly],?_,la.up (s1' _ _ ho) (WS ho fr)⟩
  rw[nj,cQ]
  exact Paired.snocP (Z9 ts1 (Z9 (Same.ts s1') po)) (oa.ts ts1)
 ·rintro σ H' ⟨l,ys,⟨o4,o5,rfl⟩,s,nl,ho,ly,po,hm⟩
  simp only[bb,bd,bj,ah]
  refine⟨by decide,λr hr=>?_⟩
  have s3:=isV (o:=HO.tup [V.ref ol,V.ref l]) r hr
  rw[lx] at po hm
  exact q r ol l ys _ (s.trans s3) zf (s3 _ _ ho) (Z9 (Same.ts s3) po) (hm.same s3)
theorem YE{v:V}{p:Pp}(h:PpV H v p)(q:∀H',Same H H'->Q (.bl ae) H') :
  wL K t { nx:=λ_ H'=>Q .non H',rt:=Q } (L2.start ["paper"] [v]) H:=by
 obtain⟨r,o,nl,gl,rfl,h1,_,⟨xs,h2,_⟩,⟨ys,h3,_⟩⟩:=h
 simp only[wL,L2.start,zO,zB,tOp,zc,tC,zb,zi,Ku,tCB,Zn,zO,rEq,xy,YN,Ye,cr,bG,bJ,bB,bb,bj,ah,V.int.injEq,V.ref.injEq,V.bl.injEq,V.ty.injEq,bp,and_true,true_and,and_assoc,am,bU,bL,decide_eq_true_eq]
 refine⟨_,.tup h1,ae,vW _,?_⟩
 rw[ap rfl]
 refine⟨3,.inr ⟨_,SqT.of h1,rfl⟩,?_⟩
 rw[ap (by decide)]
 refine⟨_,SqT.of h1,_,rfl,_,.lst h2,ae,vW _,?_⟩
 rw[ap rfl]
 exact⟨_,SqT.of h1,_,rfl,_,.lst h3,ae,vW _,q _ (Same.refl _)⟩
theorem Yc{r pl tl:ag}{P:List Pp}(h1:H r=aa (.tup [.ref pl,.ref tl]))(h2:PpsAt H pl P)(q:∀H',Same H H'->Q (.ref pl) H') :
  wk K t { nx:=λ_ H'=>Q .non H',rt:=Q } (L2.start ["told","many","paper"] [.ref r,.int P.length]) H:=by
 obtain⟨xs,hx,px⟩:=h2.at_
 have lx:=bM px
 simp only[wk,wK,L2.start,zO,zo,zm,zB,zH,tOp,zc,tC,zb,zi,xF,zS,tOr,ZE,zA,tB,tCB,zn,Zn,yD,zO,rNe,xy,YN,Ye,cr,bG,bJ,bP,b8,bB,bb,bd,bj,ah,V.int.injEq,V.ref.injEq,V.bl.injEq,V.ty.injEq,bp,and_true,true_and,and_assoc,am,bU,bL,cB,decide_eq_false_iff_not,if_true]
 refine⟨_,.tup h1,ae,vW _,?_⟩
 rw[ak (by decide)]
 refine⟨2,.inr ⟨_,SqT.of h1,rfl⟩,?_⟩
 rw[ak (by decide)]
 refine⟨_,SqT.of h1,_,rfl,_,.lst hx,ae,vW _,?_⟩
 rw[ak (by decide)]
 refine⟨_,SqT.of h1,_,rfl,P.length,.inl ⟨_,SqL.of hx,lx.symm⟩,?_⟩
 rw[ak (λz=>z rfl)]
 refine⟨_,SqT.of h1,_,rfl,pl,rfl,⟨_,SqL.of hx⟩,xg xs (λ_ σ H'=>(∃o,σ=[aa (.ref r),aa (.int P.length),o])/\Same H H') ⟨⟨_,rfl⟩,Same.refl _⟩ (λi σ H' z=>SqL.of (z.2 _ _ hx)) ?_ ?_⟩
 ·rintro i v σ H1 hv ⟨⟨o,rfl⟩,s1⟩
  obtain⟨p,_,hp⟩:=Paired.getP px hv
  simp only[bb,bd,bj,ah,bp,and_true,true_and,br,bx]
  refine⟨p,hp.same s1,λH2 s2=>?_⟩
  rw[ak (by decide)]
  exact⟨⟨_,rfl⟩,s1.trans s2⟩
 ·rintro σ H1 ⟨⟨o,rfl⟩,s1⟩
  simp only[bb,bj,ah,V.ref.injEq]
  exact⟨_,SqT.of (s1 _ _ h1),_,rfl,q H1 s1⟩
section
variable {v u:V}{a b:Pp}
theorem zbR:Vq a b=ae↔∃r∈a.gi,pIn r.1 (b.no ++ b.gi)=ae:=by unfold Vq;exact fF
theorem pIn_app :pIn p (l ++ m)=ae↔pIn p l=ae\/pIn p m=ae:=by unfold pIn;rw[pj,lG]
theorem met_iff:Zp a b=ae↔(∃r∈b.gi,pIn r.1 a.gi=ae)\/(∃r∈b.no,pIn r.1 a.gi=ae)\/∃r∈a.no,pIn r.1 b.gi=ae:=by
 have sw:∀ {l m:List Row},(∃r∈l,pIn r.1 m=ae)->∃r∈m,pIn r.1 l=ae:=λ⟨r,h1,h2⟩=>by
  obtain⟨s,h3,h4⟩:=pIn_iff.mp h2
  exact⟨s,h3,pIn_iff.mpr ⟨r,h1,h4.symm⟩⟩
 unfold Zp
 rw[lG,zbR,zbR]
 constructor
 ·rintro(⟨r,h1,h2⟩ | ⟨r,h1,h2⟩)
  ·rcases pIn_app.mp h2 with h2 | h2
   ·exact .inr (.inl (sw ⟨r,h1,h2⟩))
   ·exact .inl (sw ⟨r,h1,h2⟩)
  ·rcases pIn_app.mp h2 with h2 | h2
   ·exact .inr (.inr (sw ⟨r,h1,h2⟩))
   ·exact .inl ⟨r,h1,h2⟩
 ·rintro(h | h | h)
  ·obtain⟨r,h1,h2⟩:=h
   exact .inr ⟨r,h1,pIn_app.mpr (.inr h2)⟩
  ·obtain⟨r,h1,h2⟩:=sw h
   exact .inl ⟨r,h1,pIn_app.mpr (.inl h2)⟩
  ·obtain⟨r,h1,h2⟩:=sw h
   exact .inr ⟨r,h1,pIn_app.mpr (.inl h2)⟩
def setP(H:Hp)(d:ag)(n:Nat)(rows:List Row):Prop:=∃kvs,H d=aa (.dT kvs)/\kvs.length<=n/\∀q:Pl,(yH kvs (zI q)).isSome=pIn q rows
theorem setP.add{H':Hp}{i:Nat}{rows:List Row}{r:Row}(S:setP H d i (rows.take i))(hr:rows[i]?=aa r)(hp:H p=aa (.tup [.str r.1.1,.int r.1.2]))(hi:i<=100):∃H',DPut H d (.ref p) (.bl ae) H'/\setP H' d (i + 1) (rows.take (i + 1))/\∀c o,c≠d->H c=aa o->H' c=aa o:=by
 obtain⟨kvs,h1,h2,h3⟩:=S
 refine⟨_,DPut.t (k:=zI r.1) h1 hp (bZ (by lia:_<=900) (by decide)),⟨_,zf,?_,λq=>?_⟩,λc o n e=>by rw[zl n];exact e⟩
 ·have:=yY kvs (zI r.1) (V.bl ae);lia
 ·rw[jJ,cX,hr]
  have e:pIn q (rows.take i ++ [r])=(pIn q (rows.take i) || decide (r.1=q)):=by unfold pIn;rw[pj];simp
  show _=pIn q (rows.take i ++ [r])
  rw[e]
  by_cases c:zI q=zI r.1
  ·rw[ap c,decide_eq_true (xz c).symm,Bool.or_true];rfl
  ·rw[ak c,h3 q,decide_eq_false (λz=>c (by rw[z])),nU]
theorem setP.get{n:Nat}{rows:List Row}{r:Row}(S:setP H d n rows)(hp:H p=aa (.tup [.str r.1.1,.int r.1.2])):∃o,DGet H d (.ref p) o/\o.isSome=pIn r.1 rows:=by
 obtain⟨kvs,h1,h2,h3⟩:=S
 exact⟨_,DGet.t (k:=zI r.1) h1 hp,h3 r.1⟩
theorem setP.same{H':Hp}(S:setP H d n rows)(s:Same H H'):setP H' d n rows:=by
 obtain⟨kvs,h1,h2⟩:=S
 exact⟨kvs,s _ _ h1,h2⟩
def srI(σ0:Option V->St)(H0 H:Hp)(rows X:List Row)(i:Nat)(σ:St)(H':Hp):Prop:=(∃o,σ=σ0 o)/\H'=H/\∀r∈rows.take i,pIn r.1 X=ao
def bdI(σ0:Option V->St)(d:ag)(H0:Hp)(rows:List Row)(i:Nat)(σ:St)(H':Hp):Prop:=(∃o,σ=σ0 o)/\Same H0 H'/\setP H' d i (rows.take i)
theorem QY{rows X:List Row}{i:Nat}(h:∀r∈rows.take i,pIn r.1 X=ao)(hr:rows[i]?=aa r)(hn:pIn r.1 X=ao):∀r∈rows.take (i + 1),pIn r.1 X=ao:=λs hs=>by
 rw[cX,hr] at hs
 rcases bF.mp hs with hs | hs
 ·exact h s hs
 ·rw[b5.mp (show s∈[r] from hs)];exact hn
end
section
variable {v u:V}{a b:Pp}
theorem zeH{r1 r2 d2 d4:ag}{o3:Option V}{m:Nat}(h1:PpV H (.ref r1) a)(h2:PpV H (.ref r2) b)(oa:vd a)(ob:vd b)(S:setP H d4 m b.gi)(n1:∀r∈b.gi,pIn r.1 a.gi=ao)(n2:∀r∈b.no,pIn r.1 a.gi=ao)(q:∀H',Same H H'->Q (.bl (Zp a b)) H') :
  ju K t { nx:=λ_ H'=>Q .non H',rt:=Q } [aa (.ref r1),aa (.ref r2),aa (.ref d2),o3,aa (.ref d4)] H:=by
 have k1:=h1
 have k2:=h2
 obtain⟨r,o,nl,gl,e,h,_,f1,f2⟩:=h1
 cases e
 obtain⟨xs,hx,px⟩:=f1
 simp only[ju,YO,zO,zo,zm,zB,zH,tOp,zc,tC,xF,zS,zA,yD,zO,bb,bj,ah,V.int.injEq,V.ref.injEq,V.bl.injEq,am,cG,ite_false]
 refine⟨_,SqT.of h,_,rfl,_,rfl,⟨_,SqL.of hx⟩,xg xs (srI (λo=>[aa (.ref r1),aa (.ref r2),aa (.ref d2),o,aa (.ref d4)]) H H a.no b.gi) ⟨⟨_,rfl⟩,rfl,λr h=>by simp at h⟩ (λi σ H' ⟨_,e,_⟩=>by rw[e];exact SqL.of hx) ?_ ?_⟩
 ·rintro i v σ H' hv ⟨⟨o,rfl⟩,eH,hn⟩
  subst eH
  obtain⟨row,hr,r',p',rfl,e2,e3⟩:=Paired.getP px hv
  obtain⟨oo,g1,g2⟩:=S.get e3
  simp only[bb,bd,bj,ah,V.ref.injEq,br,bx]
  refine⟨_,SqT.of e2,_,rfl,oo,g1,?_⟩
  cases c:pIn row.1 b.gi with
  | true =>
   rw[g2,c,ap rfl]
   have m:Zp a b=ae:=met_iff.mpr (.inr (.inr ⟨row,bD hr,c⟩))
   have:=q _ (Same.refl _)
   rw[m] at this
   exact this
  | false =>
   rw[g2,c,ak (by decide)]
   exact⟨⟨_,rfl⟩,rfl,QY hn hr c⟩
 ·rintro σ H' ⟨⟨o,rfl⟩,eH,hn⟩
  subst eH
  have hn:∀r∈a.no,pIn r.1 b.gi=ao:=λr hr=>hn r (by rw[bQ (by rw[bM px];exact bq _)];exact hr)
  have m:Zp a b=ao:=by
   cases c:Zp a b with
   | false=>rfl
   | true =>
    rcases met_iff.mp c with ⟨r,h1,h2⟩ | ⟨r,h1,h2⟩ | ⟨r,h1,h2⟩
    ·rw[n1 r h1] at h2;cases h2
    ·rw[n2 r h1] at h2;cases h2
    ·rw[hn r h1] at h2;cases h2
  have:=q _ (Same.refl _)
  rw[m] at this
  exact this
theorem zeI{r1 r2 d2 d4:ag}{o3:Option V}{m n:Nat}(h1:PpV H (.ref r1) a)(h2:PpV H (.ref r2) b)(oa:vd a)(ob:vd b)(S:setP H d2 m a.gi)(S4:setP H d4 n b.gi)(q:∀H',Same H H'->Q (.bl (Zp a b)) H') :
  jv K t { nx:=λ_ H'=>Q .non H',rt:=Q } [aa (.ref r1),aa (.ref r2),aa (.ref d2),o3,aa (.ref d4)] H:=by
 have k1:=h1
 have k2:=h2
 obtain⟨r,o,nl,gl,e,h,_,f1,f2⟩:=h2
 cases e
 obtain⟨ys,hy,py⟩:=f1
 obtain⟨zs,hz,pz⟩:=f2
 have ly:=bM py
 have lz:=bM pz
 have lb:=ob.lg
 have lc:=ob.ln
 simp only[jv,YO,j7,zO,zo,zm,zB,zH,tOp,zc,tC,xF,zS,zA,yD,j7,zO,bb,bd,bj,ah,V.int.injEq,V.ref.injEq,V.bl.injEq,am,cG,ite_false]
 refine⟨_,SqT.of h,_,rfl,_,SqT.of h,_,rfl,nl,rfl,gl,rfl,ys,hy,zs,hz,zU (by lia),λl hl=>?_⟩
 have s1:=isV (o:=HO.lst (ys ++ zs)) l hl
 have hx:upd H l (HO.lst (ys ++ zs)) l=aa (.lst (ys ++ zs)):=zf
 generalize upd H l (HO.lst (ys ++ zs))=H1 at *
 have px:Paired (PrAt H1) (ys ++ zs) (b.no ++ b.gi):=Ya (wp s1 py) (wp s1 pz)
 have S1:=S.same s1
 refine⟨⟨_,SqL.of hx⟩,xg (ys ++ zs) (srI (λo=>[aa (.ref r1),aa (.ref r2),aa (.ref d2),o,aa (.ref d4)]) H1 H1 (b.no ++ b.gi) a.gi) ⟨⟨_,rfl⟩,rfl,λr h=>by simp at h⟩ (λi σ H' ⟨_,e,_⟩=>by rw[e];exact SqL.of hx) ?_ ?_⟩
 ·rintro i v σ H' hv ⟨⟨o,rfl⟩,eH,hn⟩
  subst eH
  obtain⟨row,hr,r',p',rfl,e2,e3⟩:=Paired.getP px hv
  obtain⟨oo,g1,g2⟩:=S1.get e3
  simp only[bb,bd,bj,ah,V.ref.injEq,br,bx]
  refine⟨_,SqT.of e2,_,rfl,oo,g1,?_⟩
  cases c:pIn row.1 a.gi with
  | true =>
   rw[g2,c,ap rfl]
   have m:Zp a b=ae:=by
    rcases bF.mp (bD hr) with z | z
    ·exact met_iff.mpr (.inr (.inl ⟨row,z,c⟩))
    ·exact met_iff.mpr (.inl ⟨row,z,c⟩)
   have:=q _ s1
   rw[m] at this
   exact this
  | false =>
   rw[g2,c,ak (by decide)]
   exact⟨⟨_,rfl⟩,rfl,QY hn hr c⟩
 ·rintro σ H' ⟨⟨o,rfl⟩,eH,hn⟩
  subst eH
  have hn:∀r∈b.no ++ b.gi,pIn r.1 a.gi=ao:=λr hr=>hn r (by rw[bQ (by rw[bM px];exact bq _)];exact hr)
  exact zeH (k1.same s1) (k2.same s1) oa ob (S4.same s1) (λr hr=>hn r (bT _ hr)) (λr hr=>hn r (cE _ hr)) λH2 s2=>q H2 (s1.trans s2)
theorem zeJ{r1 r2 d2:ag}{o3:Option V}(h1:PpV H (.ref r1) a)(h2:PpV H (.ref r2) b)(oa:vd a)(ob:vd b){m:Nat}(S0:setP H d2 m a.gi)(q:∀H',Same H H'->Q (.bl (Zp a b)) H') :
  jx K t { nx:=λ_ H'=>Q .non H',rt:=Q } [aa (.ref r1),aa (.ref r2),aa (.ref d2),o3,ai] H:=by
 have k1:=h1
 have k2:=h2
 obtain⟨r,o,nl,gl,e,h,_,f1,f2⟩:=h2
 cases e
 obtain⟨xs,hx,px⟩:=f2
 have lx:=bM px
 have lg:=ob.lg
 simp only[jx,wu,j9,zO,zo,zJ,zm,tOp,zc,tC,xF,yD,zO,bb,bd,bj,ah,V.int.injEq,V.ref.injEq,am,br,bx]
 intro d4 hd
 have s0:=isV (o:=HO.dT []) d4 hd
 refine⟨_,SqT.of (s0 _ _ h),_,rfl,_,rfl,⟨_,SqL.of (s0 _ _ hx)⟩,xg xs (bdI (λo=>[aa (.ref r1),aa (.ref r2),aa (.ref d2),o,aa (.ref d4)]) d4 H b.gi) ⟨⟨_,rfl⟩,s0,[],zf,bq _,λq=>rfl⟩ (λi σ H' ⟨_,s,_⟩=>SqL.of (s _ _ hx)) ?_ ?_⟩
 ·rintro i v σ H' hv ⟨⟨o,rfl⟩,s,S⟩
  obtain⟨row,hr,r',p',rfl,e2,e3⟩:=Paired.getP px hv
  have hi:=(bn.mp hv).1
  obtain⟨H2,g1,g2,g3⟩:=S.add (H':=H') hr (s _ _ e3) (by lia)
  simp only[bb,bd,bj,ah,V.ref.injEq,br,bx]
  exact⟨_,SqT.of (s _ _ e2),_,rfl,H2,g1,⟨_,rfl⟩,λc o e=>g3 c o (λz=>by rw[z,hd] at e;cases e) (s c o e),g2⟩
 ·rintro σ H' ⟨⟨o,rfl⟩,s,S⟩
  rw[bQ (by lia)] at S
  exact zeI (k1.same s) (k2.same s) oa ob (S0.same s) S λH2 s2=>q H2 (s.trans s2)
theorem Kh(h1:PpV H v a)(h2:PpV H u b)(oa:vd a)(ob:vd b)(q:∀H',Same H H'->Q (.bl (Zp a b)) H') :
  qN K t { nx:=λ_ H'=>Q .non H',rt:=Q } (L2.start ["one","other","gifts","row","theirs"] [v,u]) H:=by
 obtain⟨r1,_,_,_,rfl,_⟩:=id h1
 obtain⟨r2,_,_,_,rfl,_⟩:=id h2
 have k1:=h1
 have k2:=h2
 obtain⟨r,o,nl,gl,e,h,_,f1,f2⟩:=h1
 cases e
 obtain⟨xs,hx,px⟩:=f2
 have lx:=bM px
 have lg:=oa.lg
 simp only[qN,wu,j9,L2.start,zO,zo,zJ,zm,tOp,zc,tC,xF,yD,zO,cr,bG,bJ,bP,b8,bb,bj,ah,V.int.injEq,V.ref.injEq,am,br,bx,bU,bL]
 intro d2 hd
 have s0:=isV (o:=HO.dT []) d2 hd
 refine⟨_,SqT.of (s0 _ _ h),_,rfl,_,rfl,⟨_,SqL.of (s0 _ _ hx)⟩,xg xs (bdI (λo=>[aa (.ref r1),aa (.ref r2),aa (.ref d2),o,ai]) d2 H a.gi) ⟨⟨_,rfl⟩,s0,[],zf,bq _,λq=>rfl⟩ (λi σ H' ⟨_,s,_⟩=>SqL.of (s _ _ hx)) ?_ ?_⟩
 ·rintro i v σ H' hv ⟨⟨o,rfl⟩,s,S⟩
  obtain⟨row,hr,r',p',rfl,e2,e3⟩:=Paired.getP px hv
  have hi:=(bn.mp hv).1
  obtain⟨H2,g1,g2,g3⟩:=S.add (H':=H') hr (s _ _ e3) (by lia)
  simp only[bb,bd,bj,ah,V.ref.injEq,br,bx]
  exact⟨_,SqT.of (s _ _ e2),_,rfl,H2,g1,⟨_,rfl⟩,λc o e=>g3 c o (λz=>by rw[z,hd] at e;cases e) (s c o e),g2⟩
 ·rintro σ H' ⟨⟨o,rfl⟩,s,S⟩
  rw[bQ (by lia)] at S
  exact zeJ (k1.same s) (k2.same s) oa ob S λH2 s2=>q H2 (s.trans s2)
end
theorem zeK(xs:List V)(n:Nat):XB xs (aa (n:Int)) ai=xs.drop n:=by
 unfold XB
 rw[HT.sIx_none,HT.sIx_nat]
 by_cases c:n<=xs.length
 ·rw[eI c]
  exact bQ (by rw[cC];exact bq _)
 ·rw[gH (by lia),gW (bq _),gW (by lia),List.take_nil]
section
variable {σ:St}{i:Nat}{l:ag}{os:List Nat}{te te':TE}
theorem YF{k:Int}(h0:σ[i]?=aa (aa (.ref p)))(h1:H p=aa (.lst xs))(he:∀Q:VK,Q (.int k) H->te σ H Q)(h2:atI xs k=aa v)(q:Q v H):tOp (y6 K) (zc i) te σ H Q:=⟨_,h0,he _ ⟨p,xs,k,v,rfl,rfl,SqL.of h1,h2,q⟩⟩
theorem zeL(h:σ[i]?=aa (aa (.int (k:Nat))))(k0:1<=k)(q:Q (.int ((k - 1:Nat):Int)) H):tOp (rI0 λi j=>.int (i - j)) (zc i) (tC (.int 1)) σ H Q:=⟨_,h,_,_,rfl,rfl,by rw[Int.ofNat_sub k0] at q;exact q⟩
theorem zhx(h0:σ[i]?=aa (aa (.ref l)))(hl:H l=aa (.lst (os.map z8)))(he:∀Q:VK,Q (.int (k:Nat)) H->te σ H Q)(q:∀p H',Same H H'->H' p=aa (.lst ((os.take k).map z8))->Q (.ref p) H'):tSl (Yf K) (zc i) yy (xG te) σ H Q:=⟨_,h0,he _ ⟨_,rfl,l,_,rfl,SqL.of hl,λp hp=>by rw[QN,<-gn];exact q p _ (isV p hp) zf⟩⟩
theorem zhy(h0:σ[i]?=aa (aa (.ref l)))(hl:H l=aa (.lst (os.map z8)))(he:∀Q:VK,Q (.int (k:Nat)) H->te σ H Q)(q:∀p H',Same H H'->H' p=aa (.lst ((os.drop k).map z8))->Q (.ref p) H'):tSl (Yf K) (zc i) (xG te) yy σ H Q:=⟨_,h0,he _ ⟨_,rfl,l,_,rfl,SqL.of hl,λp hp=>by rw[zeK,<-gO];exact q p _ (isV p hp) zf⟩⟩
theorem zgB{A B:List Nat}(hA:H a=aa (.lst (A.map z8)))(hB:H b=aa (.lst (B.map z8)))(le:A.length + B.length<=200)(q:∀p H',Same H H'->H' p=aa (.lst ((A ++ B).map z8))->Q (.ref p) H'):j7 (.ref a) (.ref b) H Q:=⟨a,b,_,_,rfl,rfl,hA,hB,bR (by rw[bu,bu];exact le) (by decide),λp hp=>q p _ (isV p hp) (by rw[zf,cQ])⟩
theorem zig(h1:∀Q:VK,Q (z8 x) H->te σ H Q)(h2:∀Q:VK,Q (z8 y) H->te' σ H Q)(q:∀p H',Same H H'->H' p=aa (.lst ([x,y].map z8))->Q (.ref p) H'):xq (zb te (zb te' zi)) σ H Q:=h1 _ (h2 _ ⟨by show 2<=sizeLine;decide,λp hp=>q p _ (isV p hp) zf⟩)
theorem zhz(h2:σ[2]?=aa (aa (.ref l)))(h4:σ[4]?=aa (aa (.int (k:Nat))))(hl:H l=aa (.lst (os.map z8)))(k0:1<=k)(kn:k < os.length)(le:os.length<=63)(q:∀p H',Same H H'->H' p=aa (.lst ((os.take (k - 1) ++ [os.getD k 0,os.getD (k - 1) 0] ++ os.drop (k + 1)).map z8))->Q (.ref p) H'):tOp j7 (tOp j7 (tSl (Yf K) (zc 2) yy (xG (tOp (rI0 λi j=>.int (i - j)) (zc 4) (tC (.int 1))))) (xq (zb (tOp (y6 K) (zc 2) (zc 4)) (zb (tOp (y6 K) (zc 2) (tOp (rI0 λi j=>.int (i - j)) (zc 4) (tC (.int 1)))) zi)))) (tSl (Yf K) (zc 2) (xG (tOp (rI0 λi j=>.int (i + j)) (zc 4) (tC (.int 1)))) yy) σ H Q:=
 zhx h2 hl (λ_ q=>zeL h4 k0 q) λp1 H1 s1 e1=>zig (λ_ q=>YF h2 (s1 _ _ hl) (λ_ q=>⟨_,h4,q⟩) (x8 (qX kn)) q) (λ_ q=>YF h2 (s1 _ _ hl) (λ_ q=>zeL h4 k0 q) (x8 (qX (bZ (oE ..) kn))) q) λp2 H2 s2 e2=>zgB (s2 _ _ e1) e2 (by rw[cm];show _ + 2<=200;lia) λp3 H3 s3 e3 =>
 have S3:=s1.trans (s2.trans s3)
 zhy (k:=k + 1) h2 (S3 _ _ hl) (λ_ q=>⟨_,h4,_,_,rfl,rfl,q⟩) λp4 H4 s4 e4=>zgB (s4 _ _ e3) e4 (by rw[bt,cm,cC];show _ + 2 + _<=200;lia) λp5 H5 s5 e5=>q p5 H5 (S3.trans (s4.trans s5)) e5
end
section
variable {a p l:ag}{P:List Pp}{os:List Nat}{ns:List Int}{i:Nat}{f mo:Int}
theorem zeM(pm:os.Perm (bI i)):(os.take m ++ i :: os.drop m).Perm (bI (i + 1)):=by
 refine(List.perm_middle).trans ?_
 rw[cS,nj]
 exact(List.Perm.cons i pm).trans (List.perm_append_singleton i (bI i)).symm
theorem zeN(pm:os.Perm (bI i))(kl:xx P os)(h:∀j∈os.drop m,mtB P j i=ao):xx P (os.take m ++ i :: os.drop m):=by
 unfold xx at kl ⊢
 rw[<-cS m os,ca] at kl
 obtain⟨k1,k2,k3⟩:=kl
 have lt:∀j∈os,j < i:=λj hj=>cP.mp (pm.mem_iff.mp hj)
 refine ca.mpr ⟨k1,List.pairwise_cons.mpr ⟨λj hj z=>?_,k2⟩,λx hx y hy z=>?_⟩
 ·rw[Kc,h j hj] at z;cases z
 ·rcases bS.mp hy with rfl | hy
  ·exact lt x (dJ hx)
  ·exact k3 x hx y hy z
def odS(a p l:ag)(mo:Int)(o4 o5 o6:Option V):St:=[aa (.ref a),aa (.ref p),aa (.int mo),aa (.ref l),o4,o5,o6]
def woI(a p l:ag)(mo:Int)(i:Nat)(f:Int)(P:List Pp)(os:List Nat)(H0:Hp)(v:Nat)(σ:St)(H:Hp):Prop:=∃m:Nat,σ=odS a p l mo (aa (.int (i:Nat))) (aa (.int f)) (aa (.int (m:Nat)))/\Same H0 H/\v=m/\m<=i/\∀j∈os.drop m,mtB P j i=ao
theorem za0(h1:PpsAt H p P)(hi:i < P.length)(h2:H l=aa (.lst (os.map z8)))(pm:os.Perm (bI i))(q:∀H' m o4 o5 o6,Same H H'->(∀j∈os.drop m,mtB P j i=ao)->D.nx (odS a p l mo o4 o5 o6) (upd H' l (.lst ((os.take m ++ i :: os.drop m).map z8)))) :
  kX K t D (odS a p l mo (aa (.int (i:Nat))) (aa (.int f)) (aa (.int (i:Nat)))) H:=by
 have le63:=h1.le
 have lo:=pm.length_eq
 rw[db] at lo
 have fin:∀(m:Nat) H2,m<=i->Same H H2->(∀j∈os.drop m,mtB P j i=ao)->yT (tBM K "list" qw (zc 3) (zb (zc 6) (zb (zc 4) zi))) D (odS a p l mo (aa (.int (i:Nat))) (aa (.int f)) (aa (.int (m:Nat)))) H2:=λm H2 hm s2 hf=>by
  refine⟨_,rfl,.inl ⟨rfl,_,SqL.of (s2 _ _ h2)⟩,_,rfl,_,rfl,l,os.map z8,m,z8 i,rfl,rfl,s2 _ _ h2,by rw[bu];lia,by rw[bu];lia,?_⟩
  have z:=q H2 m (aa (.int (i:Nat))) (aa (.int f)) (aa (.int (m:Nat))) s2 hf
  rw[cQ,b7,gn,gO] at z
  exact z
 refine⟨woI a p l mo i f P os H,⟨i,i,rfl,Same.refl H,rfl,bq _,by rw[gW (by lia)];exact λj z=>nomatch z⟩,?_⟩
 rintro v σ H1 ⟨m,rfl,s1,hv,hm,hf⟩
 have F:=fin m H1 hm s1 hf
 refine⟨_,rfl,_,_,rfl,rfl,_,rfl,xo (λc=>⟨_,rfl,_,rfl,_,_,rfl,rfl,_,rfl,_,_,rfl,rfl,_,rfl,xo (λc2=>?_) λ_=>F⟩) λ_=>xo (λz=>Bool.noConfusion z) λ_=>F⟩
 have m0:1<=m:=Int.ofNat_lt.mp (of_decide_eq_true c)
 refine⟨woI a p l mo i f P os H (m - 1),λσ' H' z=>⟨m - 1,by lia,z⟩,?_⟩
 have g1:=h1.same s1
 have hk:m - 1 < os.length:=by lia
 obtain⟨xs,v1,x1,x2,x3,x4,_⟩:=g1.get (lR (cP.mp (pm.mem_iff.mp (jY hk))) hi)
 obtain⟨xs',v2,y1,y2,y3,y4,_⟩:=g1.get hi
 refine YF rfl x1 (λ_ q=>YF rfl (s1 _ _ h2) (λ_ q=>zeL rfl m0 q) (x8 (qX hk)) q) x2 (YF rfl y1 (λ_ q=>⟨_,rfl,q⟩) y2 ⟨_,_,_,_,rfl,x3,y3,x4,y4,λH2 s2=>⟨_,rfl,xo (λ_=>fin m H2 hm (s1.trans s2) hf) λg=>zeL rfl m0 ⟨m - 1,rfl,s1.trans s2,rfl,bR (oE ..) hm,λj hj=>?_⟩⟩⟩)
 have e:os.drop (m - 1)=os.getD (m - 1) 0 :: os.drop m:=by
  rw[cU hk,bh,ba hk,dg m0]
  rfl
 rw[e] at hj
 rcases bS.mp hj with rfl | hj
 ·exact oA.mpr g
 ·exact hf j hj
def odI(a p l:ag)(mo:Int)(P:List Pp)(H0:Hp)(i:Nat)(σ:St)(H:Hp):Prop:=∃os:List Nat,(∃o4 o5 o6,σ=odS a p l mo o4 o5 o6)/\Same H0 H/\H l=aa (.lst (os.map z8))/\os.Perm (bI i)/\xx P os
theorem Vb(hS:SqL K H a (ns.map V.int))(hn:ns.length<=63)(h1:PpsAt H p P)(hm:1<=mo)(q:∀(l:ag) (os:List Nat) (H':Hp),Same H H'->H' l=aa (.lst (os.map z8))->os.Perm (bI P.length)->xx P os->Q (.ref l) H') :
  jz K t { nx:=λ_ H'=>Q .non H',rt:=Q } (L2.start ["script","papers","most","order","rank","far","at"] [.ref a,.ref p,.int mo]) H:=by
 simp only[jz,L2.start,zo,zJ,zm,zB,zc,xq,zb,zi,xF,tCB,Zn,jG,xy,cr,bG,bJ,bP,b8,bb,bd,bj,ah,V.int.injEq,bp,and_true,am,br,bx,bU,bL,fC,gr]
 refine⟨by decide,λl hl=>?_⟩
 have s0:=isV (o:=HO.lst []) l hl
 have e0:upd H l (HO.lst []) l=aa (.lst []):=zf
 generalize upd H l (HO.lst [])=H0 at *
 obtain⟨⟨xs,hx,px⟩,_,le⟩:=id h1
 have lx:=bM px
 refine⟨P.length,.inl ⟨_,SqL.of (s0 _ _ hx),lx.symm⟩,by lia,by lia,kg (odI a p l mo P H) ⟨[],⟨_,_,_,rfl⟩,s0,e0,iu _,md⟩ ?_ ?_⟩
 ·rintro i σ H3 hi ⟨os,⟨o4,o5,o6,rfl⟩,s3,e3,pm,kl⟩
  simp only[kY,odS,zR,zk,zo,zJ,zm,tOp,zc,tC,zb,zi,zn,rI,bB,bb,bd,bj,ah,V.int.injEq,V.ref.injEq,bp,and_true,and_assoc,am,br,bx,nk]
  refine⟨ns,i,rfl,hS.mono s3,hn,λc1 H4 s4=>⟨by decide,by decide,λr H5 g1 g2 s5=>⟨by lia,?_⟩⟩⟩
  have S5:=s3.trans (s4.trans s5)
  exact za0 (h1.same S5) (by lia) ((s4.trans s5) _ _ e3) pm λH6 m o4 o5 o6 s6 hf=>⟨_,⟨_,_,_,rfl⟩,z6 (S5.trans s6) hl,zf,zeM pm,zeN pm kl hf⟩
 ·rintro σ H3 ⟨os,⟨o4,o5,o6,rfl⟩,s3,e3,pm,kl⟩
  simp only[odS,bb,bd,bj,ah]
  have pm:os.Perm (bI P.length):=by simpa using pm
  exact q l os H3 s3 e3 pm kl
theorem zeO(pm:os.Perm (bI P.length))(kl:xx P os)(hk:k < os.length)(h0:1<=k)(m:mtB P (os.getD (k - 1) 0) (os.getD k 0)=ae):(os.take (k - 1) ++ [os.getD k 0,os.getD (k - 1) 0] ++ os.drop (k + 1)).Perm (bI P.length)/\kpB P (os.take (k - 1) ++ [os.getD k 0,os.getD (k - 1) 0] ++ os.drop (k + 1))=ao:=by
 have e:os=os.take (k - 1) ++ [os.getD (k - 1) 0,os.getD k 0] ++ os.drop (k + 1):=by
  have h1:=cU (l:=os) (i:=k - 1) (by lia)
  have h2:=cU hk
  rw[show k - 1 + 1=k by lia,h2] at h1
  have e1:os.getD (k - 1) 0=os[k - 1]:=by rw[bh,ba (by lia)];rfl
  have e2:os.getD k 0=os[k]:=by rw[bh,ba hk];rfl
  rw[e1,e2,cb]
  show os=os.take (k - 1) ++ (os[k - 1] :: os[k] :: os.drop (k + 1))
  rw[<-h1,cS]
 have lt:os.getD (k - 1) 0 < os.getD k 0:=by
  unfold xx at kl
  rw[e,cb,ca] at kl
  have:=kl.2.1
  rw[bP,fO] at this
  exact this.1 _ bC m
 refine⟨?_,?_⟩
 ·refine gP ?_ pm
  conv=>rhs;rw[e]
  exact oV (oV (iu _) (List.Perm.swap ..)) (iu _)
 ·have lk:(os.take (k - 1)).length=k - 1:=by rw[cm];lia
  generalize os.getD k 0=y at *
  generalize os.getD (k - 1) 0=x at *
  generalize os.take (k - 1)=A at *
  have g:(A ++ [y,x] ++ os.drop (k + 1)).getD k 0=x:=by
   rw[bh,cb,cI (by lia),show k - A.length=1 by lia]
   rfl
  refine QV (k:=k) (by rw[bt,bt];simp only[cA,m3];lia) ?_
  unfold Vr
  rw[g,fF]
  refine⟨y,?_,by rw[decide_eq_true lt,Kc,m];rfl⟩
  rw[cb,show k=A.length + 1 by lia,List.take_length_add_append]
  simp
theorem zcD{c:Int}(h1:PpsAt H p P)(h2:H l=aa (.lst (os.map z8)))(hd:H d=aa (.lst (ks.map z8)))(b:∀k∈os,k < P.length)(hi:i + 1 < os.length)(lk:ks.length<=63)(q1:∀H',Same H H'->mtB P (os.getD i 0) (os.getD (i + 1) 0)=ae->D.nx [aa (.int c),aa (.ref p),aa (.ref l),aa (.ref d),aa (.int ((i + 1:Nat):Int))] (upd H' d (.lst ((ks ++ [i + 1]).map z8))))(q2:∀H',Same H H'->D.nx [aa (.int c),aa (.ref p),aa (.ref l),aa (.ref d),aa (.int ((i + 1:Nat):Int))] H'):wM K t D [aa (.int c),aa (.ref p),aa (.ref l),aa (.ref d),aa (.int ((i + 1:Nat):Int))] H:=by
 obtain⟨xs,v1,x1,x2,x3,x4,_⟩:=h1.get (b _ (jY (os:=os) (k:=i) (ii hi)))
 obtain⟨xs',v2,y1,y2,y3,y4,_⟩:=h1.get (b _ (jY (os:=os) (k:=i + 1) hi))
 refine YF rfl x1 (λ_ q=>YF rfl h2 (λ_ q=>zeL (k:=i + 1) rfl (oO _) q) (x8 (qX (k:=i) (ii hi))) q) x2 (YF rfl y1 (λ_ q=>YF rfl h2 (λ_ q=>⟨_,rfl,q⟩) (x8 (qX hi)) q) y2 ⟨_,_,_,_,rfl,x3,y3,x4,y4,λH2 s2=>⟨_,rfl,?_⟩⟩)
 refine xo (λg=>?_) λ_=>q2 H2 s2
 refine⟨_,rfl,.inl ⟨rfl,_,SqL.of (s2 _ _ hd)⟩,_,rfl,d,_,_,rfl,rfl,s2 _ _ hd,by rw[bu];exact bZ lk (by decide),?_⟩
 have z:=q1 H2 s2 g
 rw[cQ] at z
 exact z
def tuI(c:Int)(p l d:ag)(P:List Pp)(os:List Nat)(H0:Hp)(i:Nat)(σ:St)(H:Hp):Prop:=∃ks:List Nat,(∃o4,σ=[aa (.int c),aa (.ref p),aa (.ref l),aa (.ref d),o4])/\Same H0 H/\H d=aa (.lst (ks.map z8))/\ks.length<=i/\∀k∈ks,1<=k/\k < os.length/\mtB P (os.getD (k - 1) 0) (os.getD k 0)=ae
theorem XV{c:Int}(h1:PpsAt H p P)(h2:H l=aa (.lst (os.map z8)))(pm:os.Perm (bI P.length))(kl:xx P os)(q1:∀H',Same H H'->Q .non H')(q2:∀(l':ag) (os':List Nat) (H':Hp),Same H H'->H' l'=aa (.lst (os'.map z8))->os'.Perm (bI P.length)->kpB P os'=ao->Q (.ref l') H') :
  qO K t { nx:=λ_ H'=>Q .non H',rt:=Q } (L2.start ["cell","papers","order","pairs","k"] [.int c,.ref p,.ref l]) H:=by
 have le:=h1.le
 have lo:=pm.length_eq
 rw[db] at lo
 have b:∀k∈os,k < P.length:=λk h=>cP.mp (pm.mem_iff.mp h)
 have lm:∀ks:List Nat,ks.length=(ks.map z8).length:=λks=>(bu ..).symm
 refine⟨by decide,λd hd=>?_⟩
 have s0:=isV (o:=HO.lst []) d hd
 refine⟨_,rfl,_,os.length,rfl,.inl ⟨_,SqL.of (s0 _ _ h2),lm _⟩,1,os.length,rfl,⟨by decide,by decide,by lia,by lia⟩,kg (tuI c p l d P os H) ⟨[],⟨_,rfl⟩,s0,zf,bq _,λk z=>nomatch z⟩ ?_ ?_⟩
 ·rintro i σ H1 hi ⟨ks,⟨o4,rfl⟩,s1,hd1,lk,mk⟩
  have hi:i + 1 < os.length:=by lia
  show wM K t _ [aa (.int c),aa (.ref p),aa (.ref l),aa (.ref d),aa (.int (1 + (i:Nat)))] H1
  rw[show (1:Int) + (i:Nat)=((i + 1:Nat):Int) by lia]
  refine zcD (h1.same s1) (s1 _ _ h2) hd1 b hi (by lia) (λH2 s2 g=>⟨ks ++ [i + 1],⟨_,rfl⟩,z6 (s1.trans s2) hd,zf,by rw[bt];exact dz lk,λk hk=>?_⟩) λH2 s2=>⟨ks,⟨_,rfl⟩,s1.trans s2,s2 _ _ hd1,bX lk,mk⟩
  rcases bF.mp hk with hk | hk
  ·exact mk k hk
  ·rw[b5.mp hk];exact⟨oO _,hi,g⟩
 ·rintro σ H1 ⟨ks,⟨o4,rfl⟩,s1,hd1,lk,mk⟩
  refine⟨_,rfl,by decide,λe he=>?_⟩
  have s2:=isV (o:=HO.lst []) e he
  refine⟨_,_,_,rfl,rfl,SqL.of (s2 _ _ hd1),SqL.of zf,_,rfl,?_⟩
  have S2:=s1.trans s2
  refine xo (λ_=>q1 _ S2) λne=>?_
  have kp:0 < ks.length:=by
   cases ks with
   | nil=>exact absurd (decide_eq_true rfl) ne
   | cons x t=>exact oO _
  refine⟨_,rfl,_,rfl,_,_,rfl,by decide,by decide,λr H3 _ _ s3=>⟨_,rfl,_,ks.length,rfl,.inl ⟨_,SqL.of ((s2.trans s3) _ _ hd1),lm _⟩,_,_,rfl,rfl,Int.ofNat_lt.mpr kp,?_⟩⟩
  have f1:=cL r (b:=(ks.length:Int)) (by lia)
  have f2:=cD r (b:=(ks.length:Int)) (by lia)
  obtain⟨j,ej⟩:∃j:Nat,r % (ks.length:Int)=j:=⟨(r % (ks.length:Int)).toNat,(fA f1).symm⟩
  rw[ej] at f2
  obtain⟨k0,kn,km⟩:=mk _ (jY (os:=ks) (k:=j) (by lia))
  refine⟨_,_,_,_,rfl,congrArg V.int ej,SqL.of ((s2.trans s3) _ _ hd1),x8 (qX (os:=ks) (k:=j) (by lia)),?_⟩
  obtain⟨pb,kb⟩:=zeO pm kl kn k0 km
  have S3:=S2.trans s3
  exact zhz rfl rfl (S3 _ _ h2) k0 kn (by lia) λp5 H5 s5 e5=>q2 p5 _ H5 (S3.trans s5) e5 pb kb
end
theorem Xc:∀ {ds:List PyData} {m:Nat},(∀d∈ds,zL d=ae/\d.depth<=m)->z5 ds=ae/\cq ds<=m
 | [],_,_=>by simp[z5,cq]
 | d :: ds,m,h=>by
  have h1:=h d bC
  have h2:=Xc (ds:=ds) (m:=m) λx hx=>h x (bE _ hx)
  rw[z5,cq,h1.1,h2.1]
  exact⟨rfl,by lia⟩
def pD(p:Pp):PyData:=ppD p.oc p.no p.gi
theorem PpV.dat(P:PpV H v p)(o:vd p):Dat K H v (pD p)/\zL (pD p)=ae/\(pD p).depth<=7:=by
 obtain⟨r,x,nl,gl,rfl,hr,ho,hn,hg⟩:=P
 unfold pD
 refine⟨.tup (SqT.of hr) (.cons (zej ho) (.cons (WV hn) (.cons (WV hg) .nil))),?_,?_⟩
 ·have a1:=QI (oc:=p.oc) o.so
  have a2:=qU o.sn
  have a3:=qU o.sg
  simp only[ppD,zL,z5,b9,and_true] at a1 a2 a3 ⊢
  exact⟨a1,a2,a3⟩
 ·have a1:=zbM p.oc
  have a2:=YA p.no
  have a3:=YA p.gi
  simp only[ppD,dm,cq] at *
  lia
theorem zbS:∀ {xs:List V} {P:List Pp},Paired (PpV H) xs P->(∀p∈P,vd p)->DatAll K H xs (P.map pD)
 | _,_,.nil,_=>.nil
 | _,_,.cons a t,h=>.cons (a.dat (h _ bC)).1 (zbS t λp hp=>h p (bE _ hp))
def psD(P:List Pp):PyData:=.list (P.map pD)
theorem PpsAt.dat(h:PpsAt H l P):Dat K H (.ref l) (psD P)/\zL (psD P)=ae/\(psD P).depth<=8:=by
 obtain⟨⟨xs,hx,px⟩,ok,le⟩:=h
 refine⟨.lst (SqL.of hx) (zbS px ok),?_⟩
 have a:=Xc (ds:=P.map pD) (m:=7) λd hd=>by
  obtain⟨p,hp,rfl⟩:=cj.mp hd
  obtain⟨i,hi⟩:=cV hp
  have lx:=bM px
  have li:=(bn.mp hi).1
  have:=yo px (ba (show i < xs.length by lia)) hi
  exact(PpV.dat (K:=K) this (ok p hp)).2
 unfold psD
 rw[zL,dm]
 exact⟨a.1,by lia⟩
theorem zbT(uo:UOk U)(ti:TabI U tab)(h:LsAt H l tab):Dat K H (.ref l) (.list (tab.map Zq))/\zL (.list (tab.map Zq))=ae/\(PyData.list (tab.map Zq)).depth<=64:=by
 refine⟨WV h,qU λr hr=>uo.nm _ (ti.ps r hr).1,?_⟩
 have:=YA tab
 lia
theorem zeP(ns:List Int)(k m:Nat)(hk:k < ns.length):XB (ns.map V.int) (aa (k:Int)) (aa ((k + m:Nat):Int))=((ns.drop k).take m).map V.int:=by
 unfold XB
 rw[bu,HT.sIx_nat,HT.sIx_nat,gn,gO,eI (by lia:k<=ns.length)]
 by_cases c:k + m<=ns.length
 ·rw[eI c,fk]
 ·rw[gH (by lia)]
  rw[bQ (by simp),bQ (by simp;lia)]
def hid(D:ag)(H:Hp):Hp:=λb=>if b=D then ai else H b
theorem Vc{H:Hp}(h:b≠D):hid D H b=H b:=ak h
theorem QZ{H:Hp}:Same (hid D H) H:=λb o e=>by
 by_cases c:b=D
 ·unfold hid at e;rw[ap c] at e;cases e
 ·rw[Vc c] at e;exact e
theorem Ki:∀ {xs:List V} {os:List Oc},Paired (OcAt H) xs os->DatAll K H xs (os.map ocD)
 | _,_,.nil=>.nil
 | _,_,.cons a t=>.cons (zej a) (Ki t)
section
variable {a sa sb tl cl dl pl bl tr:ag}{wd mn:Int}{ns cs:List Int}{ws us:List Str}{tab:List Row}{CC:List (List Cs)}{ds:List Rws}{zs:List Nat}{U:List Pl}{xs:List V}{o7:Option V}{i:Nat}
structure LwP(U:List Pl)(ds:List Rws)(CC:List (List Cs))(tab:List Row):Prop where
 ec:CC=ds.map λd=>zt d 0
 rw_:∀d∈ds,Zo 6 d/\yJ d/\d.cnt<=40
 uo:UOk U
 ti:TabI U tab
 hU:∀i now,i < CC.length->FedR (CC.getD i []) now (sI CC tab i)->∀r∈(sI CC tab i).gi,r.1∈U
 id_:∀j,j < CC.length->Idy CC tab j
theorem YG(P:LwP U ds CC tab):∀i,i<=CC.length->TabI U (vJ CC tab i)
 | 0,_=>P.ti
 | i + 1,h=>by
  have I:=P.id_ i (by lia)
  obtain⟨m,_,J⟩:=I.fd.ri
  exact zbQ (YG P i (by lia)) (λr hr=>P.hU i _ (by lia) I.fd r (zaW I.gi hr)) (zep J I.gi) I.tb
theorem TabI.self(h:TabI U tab):xj tab tab:=⟨h.ri,λp w=>⟨λz=>⟨(wS h.ri.nd).mpr z,(h.ps _ z).2.2⟩,λz=>(wS h.ri.nd).mp z.1⟩⟩
theorem zgf(P:LwP U ds CC tab)(i:Nat)(d:Rws)(hd:ds[i]?=aa d):Xq d (vJ CC tab i)/\∀oc out,we d (vJ CC tab i) oc out->oc=ZV (sI CC tab i)/\out=vJ CC tab (i + 1):=by
 have li:=(bn.mp hd).1
 have lc:CC.length=ds.length:=by rw[P.ec,bu]
 have T:=YG P i (by lia)
 obtain⟨r1,r2,r3⟩:=P.rw_ d (bD hd)
 have eC:CC.getD i []=zt d 0:=by rw[P.ec,bh,bW,hd];rfl
 have I:=P.id_ i (by lia)
 refine⟨zhp r1 r2 r3 (λr hr=>(T.ps r hr).2.1) (by have:=T.len P.uo;lia),λoc out A=>?_⟩
 have F:=I.fd
 rw[eC] at F
 obtain⟨e1,e2⟩:=zcz T.self A F I.gi
 exact⟨e1,Qd e2 I.tb⟩
structure LwS(K:bz)(ds:List Rws)(CC:List (List Cs))(tab:List Row)(ns:List Int)(H:Hp)(a tl dl cl tr pl bl:ag):Prop where
 sc:SqL K H a (ns.map V.int)
 hn:ns.length<=63
 da:∃xs,H dl=aa (.lst xs)/\Paired (RlAt w6 H) xs ds
 co:CosAt H cl CC
 ht:LsAt H tl tab
 tr:H tr=aa (.tup [.ref pl,.ref bl])
 hp:PpsAt H pl (pI CC tab)
 hb:LsAt H bl (vJ CC tab CC.length)
theorem Vd{H H':Hp}(s:Same H H')(h:Paired (RlAt w6 H) xs ds):Paired (RlAt w6 H') xs ds:=Paired.mapP h λ_ _ z=>z.mono s
theorem LwS.same{H':Hp}(S:LwS K ds CC tab ns H a tl dl cl tr pl bl)(s:Same H H'):LwS K ds CC tab ns H' a tl dl cl tr pl bl:=by
 obtain⟨xs,h1,h2⟩:=S.da
 exact⟨S.sc.mono s,S.hn,⟨xs,s _ _ h1,Vd s h2⟩,S.co.same s,xm S.ht s,s _ _ S.tr,S.hp.same s,xm S.hb s⟩
noncomputable def tlD(CC:List (List Cs))(tab:List Row):PyData:=.tuple [psD (pI CC tab),.list ((vJ CC tab CC.length).map Zq)]
theorem zih(P:LwP U ds CC tab)(hp:PpsAt H pl (pI CC tab)):zL (tlD CC tab)=ae/\(tlD CC tab).depth<=64:=by
 obtain⟨_,a2,a3⟩:=hp.dat (K:=[])
 have te:=YG P CC.length (bq _)
 have b2:=qU λr hr=>P.uo.nm _ (te.ps r hr).1
 have b4:=YA (vJ CC tab CC.length)
 unfold tlD
 constructor
 ·simp only[zL,z5,b9,and_true] at b2 ⊢
  exact⟨a2,b2⟩
 ·simp only[dm,cq] at b4 ⊢
  lia
theorem zcE{ol:ag}{os:List Nat}{x11:Option V}(P:LwP U ds CC tab)(S:LwS K ds CC tab ns H a tl dl cl tr pl bl)(ho:H ol=aa (.lst (os.map z8)))(pm:os.Perm (bI (pI CC tab).length))(kl:xx (pI CC tab) os)(q:∀H',Q (.bl ae) H') :
  Y3 K t { nx:=λ_ H'=>Q .non H',rt:=Q } [aa (.ref a),aa (.ref sa),aa (.ref sb),aa (.int wd),aa (.ref tl),aa (.int mn),aa (.ref dl),o7,aa (.ref cl),aa (.ref tr),aa (.ref pl),x11,aa (.ref ol),ai] H:=by
 simp only[Y3,Yx,vf,vU,zR,zay,zo,zJ,zm,zB,zH,tOp,zc,tC,zb,zi,zS,tOr,zA,Q8,zn,zhK,zbk,zc4,bB,bb,bd,bj,ah,V.int.injEq,V.ref.injEq,V.bl.injEq,bp,and_true,true_and,and_assoc,am,br,bx,decide_eq_true_eq,cB,if_true]
 refine⟨_,S.hp,os,ho,pm,λH2 s2=>?_⟩
 rw[zhr pm kl,ak (by decide)]
 have S2:=S.same s2
 have pm2:os.Perm (bI CC.length):=by rw[<-Yb (tab:=tab)];exact pm
 refine⟨U,CC,S2.co,P.uo,tab,S2.ht,P.ti,os,s2 _ _ ho,pm2,JT CC tab os,(by unfold JT;exact λp=>rfl),_,zf9 P.id_ P.hU pm2 kl,λv out H3 s3 hJ T=>?_⟩
 rw[zeA pm2] at T
 have S3:=S2.same s3
 obtain⟨⟨r,pl2,tl2,rfl,t1,t2,t3⟩,t4⟩:=T
 unfold JT at hJ
 rw[dY] at hJ
 have te:=YG P CC.length (bq _)
 have eo:out=vJ CC tab CC.length:=zht P.id_ kl (λj hj=>pm2.mem_iff.mpr (cP.mpr hj)) hJ t4 te
 subst eo
 obtain⟨d1,d2⟩:=zih P S.hp
 refine⟨tlD CC tab,.tup (SqT.of t1) (.cons (t2.dat).1 (.cons (zbT P.uo te t3).1 .nil)),tlD CC tab,.tup (SqT.of S3.tr) (.cons (S3.hp.dat).1 (.cons (zbT P.uo te S3.hb).1 .nil)),d1,d1,d2,d2,λc hc=>?_⟩
 rw[hc.mpr rfl,ak (by decide)]
 refine⟨ns,4,rfl,S3.sc,S3.hn,λc4 H4 s4=>?_⟩
 have S4:=S3.same s4
 refine⟨_,S4.hp,os,(s2.trans (s3.trans s4)) _ _ ho,pm,kl,λH5 s5=>?_,λl' os' H5 s5 h5 p5 k5=>?_⟩
 ·exact q H5
 ·refine⟨_,(S4.same s5).hp,os',h5,p5,λH6 s6=>?_⟩
  rw[k5]
  exact q H6
theorem zcF(P:LwP U ds CC tab)(S:LwS K ds CC tab ns H a tl dl cl tr pl bl)(q:∀H',Q (.bl ae) H') :
  Y4 K t { nx:=λ_ H'=>Q .non H',rt:=Q } [aa (.ref a),aa (.ref sa),aa (.ref sb),aa (.int wd),aa (.ref tl),aa (.int mn),aa (.ref dl),o7,aa (.ref cl),aa (.ref tr),aa (.ref pl),ai,ai,ai] H:=by
 simp only[Y4,Jh,Jg,jn,zR,zk,jo,zay,zO,zo,zJ,zm,zB,zH,tOp,zc,tC,yC,zb,zi,zS,zA,tCB,zn,xI,YM,Yj,Zn,yD,zO,rI,rI0,xy,cr,bG,bJ,bB,bb,bd,bj,ah,V.int.injEq,V.ref.injEq,V.bl.injEq,bp,and_true,and_assoc,am,br,bx,bL,cB,if_true]
 obtain⟨xs,hx,px⟩:=S.da
 have lc:CC.length=ds.length:=by rw[P.ec,bu]
 have lp:=S.hp.le
 rw[Yb] at lp
 refine⟨xs,hx,ds,px,vJ CC tab,S.ht,by lia,λi=>ZV (sI CC tab i),zgf P,λr ol l ys H1 s1 e1 e2 e3 e4=>?_⟩
 have S1:=S.same s1
 obtain⟨vs,hv,pv⟩:=S1.hp.at_
 have lv:=bM pv
 rw[Yb] at lv
 refine⟨⟨_,SqL.of hv⟩,λD hD=>?_⟩
 refine jU (J:=Itl K pl) vs.length (by lia) (λτ=>∃o,τ=[o]) (λi ys H=>Paired (OcAt H) ys (((pI CC tab).take i).map Pp.oc)) (λi ys H H' s h=>Z9 s h) ⟨_,rfl⟩ .nil (λi H s h=>⟨_,_,SqL.of (s _ _ hv),ba h⟩) (λH s=>⟨_,SqL.of (s _ _ hv),bq _⟩) hD ?_ ?_
 ·rintro i v τ us H4 H5 ⟨o0,rfl⟩ s4 hi hR ⟨rfl,hv'⟩
  have hv':=hv' _ (SqL.of (s4 _ _ hv))
  obtain⟨pp,hpp,rr,oo,nl,gl,rfl,q1,q2,_⟩:=Paired.getP pv hv'
  simp only[bb,bj,ah,V.ref.injEq,bp,and_true,br]
  refine⟨_,SqT.of (s4 _ _ q1),_,rfl,⟨_,rfl⟩,?_,Same.refl _⟩
  rw[cX,hpp,cQ]
  exact Paired.snocP hR (zbL q2 s4)
 ·rintro us H4 hl hR s4 hDl
  rw[bQ (by rw[Yb];lia)] at hR
  have S4:=S1.same s4
  refine⟨_,SqT.of S4.tr,_,rfl,by decide,λp hp=>?_⟩
  have s5:=isV (o:=HO.tup [V.ref D,V.ref bl]) p hp
  have e5:upd H4 p (HO.tup [V.ref D,V.ref bl]) p=aa (.tup [V.ref D,V.ref bl]):=zf
  generalize upd H4 p (HO.tup [V.ref D,V.ref bl])=H5 at *
  have S5:=S4.same s5
  have te:=YG P CC.length (bq _)
  rw[<-lc] at e3 e4
  have eo:(bI CC.length).map (λi=>ZV (sI CC tab i))=(pI CC tab).map Pp.oc:=by unfold pI;rw[dR];rfl
  rw[eo] at e3
  have T:=s4.trans s5
  have d:=Xc (ds:=((pI CC tab).map Pp.oc).map ocD) (m:=3) λx hx=>by
   obtain⟨y,hy,rfl⟩:=cj.mp hx
   obtain⟨z,hz,rfl⟩:=cj.mp hy
   exact⟨QI (S.hp.ok z hz).so,zbM _⟩
  have b2:=qU λr hr=>P.uo.nm _ (te.ps r hr).1
  have b4:=YA (vJ CC tab CC.length)
  have g:zL (.tuple [.list (((pI CC tab).map Pp.oc).map ocD),.list ((vJ CC tab CC.length).map Zq)])=ae/\(PyData.tuple [.list (((pI CC tab).map Pp.oc).map ocD),.list ((vJ CC tab CC.length).map Zq)]).depth<=64:=by
   constructor
   ·simp only[zL,z5,b9,and_true] at b2 ⊢
    exact⟨d.1,b2⟩
   ·have d2:=d.2
    simp only[dm,cq] at b4 ⊢
    lia
  refine⟨_,.tup (SqT.of (T _ _ e1)) (.cons (.lst (SqL.of (T _ _ e2)) (Ki (Z9 (Same.ts T) e3))) (.cons (WV (xm e4 T)) .nil)),_,.tup (SqT.of e5) (.cons (.lst (SqL.of (s5 _ _ hDl)) (Ki (Z9 (Same.ts s5) hR))) (.cons (WV S5.hb) .nil)),g.1,g.1,g.2,g.2,λc hc=>?_⟩
  rw[hc.mpr rfl,ak (by decide)]
  refine⟨ns,3,rfl,S5.sc,S5.hn,λc3 H6 s6=>⟨by decide,by decide,λr3 H7 _ _ s7=>?_⟩⟩
  have S7:=S5.same (s6.trans s7)
  obtain⟨⟨ws,hw,pw⟩,_,lw⟩:=id S7.co
  refine⟨CC.length,.inl ⟨_,SqL.of hw,(bM pw).symm⟩,by lia,?_⟩
  have f1:=cL r3 (b:=1 + (CC.length:Int)) (by lia)
  refine⟨ns,S7.sc,S7.hn,_,S7.hp,by lia,λol os H8 s8 ho pm kl=>?_⟩
  exact zcE P (S7.same s8) ho pm kl q
theorem zeQ(sc:SqL K H a (ns.map V.int))(hn:ns.length<=63)(hd:H dl=aa (.lst xs))(pd:Paired (RlAt w6 H) xs ds)(ht:LsAt H tl tab)(ti:zcu tab)(co:CosAt H cl CC)(ec:CC=ds.map λd=>zt d 0)(hr:∀d∈ds,Zo 6 d/\yJ d/\d.cnt<=40)(cw:(CC.map bJ).sum<=252)(q:∀H',Q (.bl ae) H') :
  WP K t { nx:=λ_ H'=>Q .non H',rt:=Q } [aa (.ref a),aa (.ref sa),aa (.ref sb),aa (.int wd),aa (.ref tl),aa (.int mn),aa (.ref dl),o7,aa (.ref cl),ai,ai,ai,ai,ai] H:=by
 simp only[WP,Qx,Ji,vf,wg,Qp,zo,zJ,zm,zB,zH,tOp,zc,tC,zb,zi,zS,zA,tCB,zn,Zn,zc4,xy,bB,bb,bd,bj,ah,V.int.injEq,V.ref.injEq,V.bl.injEq,bp,and_true,true_and,and_assoc,am,br,bx,decide_eq_true_eq]
 obtain⟨U,uo,tu,hU⟩:=ziw cw ti (sI CC tab)
 obtain⟨⟨zs,hz,pz⟩,_,le⟩:=id co
 have lz:=bM pz
 refine⟨CC.length,.inl ⟨_,SqL.of hz,lz.symm⟩,CC.length,rfl,by lia,λl hl=>?_⟩
 have el:((bI CC.length).map λi=>V.int (i:Nat))=(bI CC.length).map z8:=rfl
 rw[el]
 have s1:=isV (o:=HO.lst ((bI CC.length).map z8)) l hl
 have e1:upd H l (HO.lst ((bI CC.length).map z8)) l=aa (.lst ((bI CC.length).map z8)):=zf
 generalize upd H l (HO.lst ((bI CC.length).map z8))=H1 at *
 refine⟨U,CC,co.same s1,uo,tab,xm ht s1,tu,_,e1,iu _,JI CC tab,⟨rfl,λj hj=>absurd hj (lH _)⟩,_,zf6 hU,λv out H2 s2 hJ T=>?_⟩
 rw[zhs] at T
 rw[db] at hJ
 obtain⟨rfl,ij⟩:=hJ
 obtain⟨⟨r,pl,bl,rfl,t1,t2,t3⟩,t4⟩:=T
 have S2:=s1.trans s2
 have C2:=co.same S2
 obtain⟨⟨ws,hw,pw⟩,_,_⟩:=id C2
 refine⟨CC.length,.inl ⟨_,SqL.of hw,(bM pw).symm⟩,r,rfl,pl,bl,pI CC tab,by rw[Yb],t1,t2,λH3 s3=>?_⟩
 rw[ak (by simp)]
 have S3:=S2.trans s3
 exact zcF ⟨ec,hr,uo,tu,hU,ij⟩ ⟨sc.mono S3,hn,⟨xs,S3 _ _ hd,Vd S3 pd⟩,co.same S3,xm ht S3,s3 _ _ t1,t2.same s3,xm t3 s3⟩ q
def cCo(D:ag)(ds:List Rws)(i:Nat)(ys:List V)(H:Hp):Prop:=Paired (zh5 (hid D H)) ys ((ds.take i).map λd=>zt d 0)
theorem zeR:∀ {ds:List Rws} {zs:List Nat},Paired (λd n=>rwsW n d/\n<=8) ds zs->((ds.map λd=>zt d 0).map bJ).sum<=4 * zs.sum
 | _,_,.nil=>bq _
 | _,_,.cons a t=>by
  have h1:=(a.1.cc a.2).2.1
  have h2:=zeR t
  rw[b7,b7,oj,oj]
  lia
theorem zeS(sc:SqL K H a (ns.map V.int))(hn:ns.length<=63)(hd:H dl=aa (.lst xs))(pd:Paired (RlAt w6 H) xs ds)(ht:LsAt H tl tab)(ti:zcu tab)(wz:Paired (λd n=>rwsW n d/\n<=8) ds zs)(sz:zs.sum<=63)(ld:ds.length<=40)(q:∀H',Q (.bl ae) H') :
  WQ K t { nx:=λ_ H'=>Q .non H',rt:=Q } [aa (.ref a),aa (.ref sa),aa (.ref sb),aa (.int wd),aa (.ref tl),aa (.int mn),aa (.ref dl),o7,ai,ai,ai,ai,ai,ai] H:=by
 simp only[WQ,ZU,zo,zJ,zm,zc,zb,zi,zn,xI,YM,Yj,yD,cr,bG,bB,bb,bd,bj,ah,V.ref.injEq,bp,and_true,am,br,bx,if_true]
 have lx:=bM pd
 have all:∀d∈ds,Zo 6 d/\(zt d 0).length<=32/\JZ (zt d 0)/\d.cnt<=40/\yJ d:=λd hd=>by
  obtain⟨i,hi⟩:=cV hd
  have li:=(bn.mp hi).1
  have lz:=bM wz
  obtain⟨w,n8⟩:=yo wz hi (ba (show i < zs.length by lia))
  obtain⟨a1,a2,a3,a4⟩:=w.cc n8
  exact⟨a1,by lia,a3,a4,w.ok⟩
 refine⟨⟨_,SqL.of hd⟩,λD hD=>?_⟩
 refine zcy (J:=Itl K dl) xs.length (by lia) (λτ=>∃o,τ=[o]) (cCo D ds) (λi ys H H' s h=>Paired.mapP h λ_ _ ⟨a,ys,e,h5,h6⟩=>?_) ⟨_,rfl⟩ .nil (λi H s h=>⟨_,_,SqL.of (s _ _ hd),ba h⟩) (λH s=>⟨_,SqL.of (s _ _ hd),bq _⟩) hD ?_ ?_
 ·have s':Same (hid D H) (hid D H'):=λb o e=>by
   have n:b≠D:=λz=>by rw[z] at e;unfold hid at e;rw[ap rfl] at e;cases e
   rw[Vc n] at e ⊢
   exact s b o n e
  exact⟨a,ys,e,s' _ _ h5,xQ s' h6⟩
 ·rintro i v τ ys H4 H5 ⟨o,rfl⟩ s4 hi hR hy ⟨rfl,hv⟩
  have hv:=hv _ (SqL.of (s4 _ _ hd))
  obtain⟨d,hdd,rd⟩:=Paired.getP pd hv
  obtain⟨a1,a2,_⟩:=all d (bD hdd)
  simp only[bb,bj,ah,bp,and_true,br]
  refine⟨d,rd.mono s4,a1,by lia,λl1 x1 H6 s6 fl hl1 pc=>⟨⟨_,rfl⟩,?_,s6⟩⟩
  unfold cCo at hR ⊢
  rw[cX,hdd,cQ]
  have s':Same (hid D H5) (hid D H6):=λb o e=>by
   have n:b≠D:=λz=>by rw[z] at e;unfold hid at e;rw[ap rfl] at e;cases e
   rw[Vc n] at e ⊢
   exact s6 _ _ e
  have nl:l1≠D:=λz=>by rw[z,hy] at fl;cases fl
  have hD6:=s6 _ _ hy
  exact Paired.snocP (Paired.mapP hR λ_ _ ⟨a,ys,e,h5,h6⟩=>⟨a,ys,e,s' _ _ h5,xQ s' h6⟩) ⟨l1,x1,rfl,by rw[Vc nl];exact hl1,jF (λb zs e=>by rw[Vc (λz=>by rw[z,hD6] at e;cases e)];exact e) pc⟩
 ·rintro ys H4 hly hR s4 hq
  unfold cCo at hR
  rw[bQ (by lia)] at hR
  refine zeQ (sc.mono s4) hn (s4 _ _ hd) (Vd s4 pd) (xm ht s4) ti ⟨⟨ys,hq,Paired.mapP hR λ_ _ ⟨a,ys,e,h5,h6⟩=>⟨a,ys,e,QZ _ _ h5,xQ QZ h6⟩⟩,λC hC=>?_,by rw[bu];exact ld⟩ rfl (λd hd=>?_) (by have:=zeR wz;lia) q
  ·obtain⟨d,hd,rfl⟩:=cj.mp hC
   exact(all d hd).2.2.1
  ·obtain⟨a1,_,_,a4,a5⟩:=all d hd
   exact⟨a1,a5,a4⟩
def lwI(a sa sb tl dl:ag)(wd mn:Int)(n m:Nat)(H0:Hp)(i:Nat)(σ:St)(H:Hp):Prop:=∃xs ds zs,(∃o7,σ=[aa (.ref a),aa (.ref sa),aa (.ref sb),aa (.int wd),aa (.ref tl),aa (.int mn),aa (.ref dl),o7,ai,ai,ai,ai,ai,ai])/\Same H0 H/\H dl=aa (.lst xs)/\Paired (RlAt (λb=>b≠dl) H) xs ds/\Paired (λd n=>rwsW n d/\n<=8) ds zs/\zs.sum + (n - i * m)<=n/\ds.length=i
theorem zeT(sc:SqL K H a (ns.map V.int))(hn:ns.length<=63)(hw:NamesAt H sa ws)(lw:ws.length=2)(hu:NamesAt H sb us)(lu:us.length=3)(w1:1<=wd)(w2:wd<=8)(ht:LsAt H tl tab)(ti:zcu tab)(m1:2<=mn)(m2:mn<=8)(q:∀H',Q (.bl ae) H') :
  WR K t { nx:=λ_ H'=>Q .non H',rt:=Q } [aa (.ref a),aa (.ref sa),aa (.ref sb),aa (.int wd),aa (.ref tl),aa (.int mn),ai,ai,ai,ai,ai,ai,ai,ai] H:=by
 simp only[WR,Qy,zdP,zo,zJ,zm,zc,tC,xq,zb,zi,xF,tCB,tSl,xG,yy,Zn,Yf,xy,bJ,bb,bd,bj,ah,V.int.injEq,V.ref.injEq,bp,and_true,and_assoc,am,br,bx]
 refine⟨by decide,λdl hdl=>?_⟩
 have s0:=isV (o:=HO.lst []) dl hdl
 have e0:upd H dl (HO.lst []) dl=aa (.lst []):=zf
 generalize upd H dl (HO.lst [])=H0 at *
 obtain⟨cs,ec,lc⟩:=zfW ns ai (aa 120)
 refine⟨_,sc.mono s0,λp0 hp0=>?_⟩
 rw[ec]
 have s1:=isV (o:=HO.lst (cs.map V.int)) p0 hp0
 have e1:upd H0 p0 (HO.lst (cs.map V.int)) p0=aa (.lst (cs.map V.int)):=zf
 generalize upd H0 p0 (HO.lst (cs.map V.int))=H1 at *
 have lm:(cs.map V.int).length=cs.length:=bu ..
 have lim:=zhk (j:=(cs.length:Int)) (c:=mn) (by lia) (by lia)
 obtain⟨m,em⟩:∃m:Nat,mn=m:=⟨mn.toNat,by lia⟩
 refine⟨cs.length,.inl ⟨_,SqL.of e1,by rw[lm]⟩,by lia,by lia,by lia,by lia,by lia,by lia,QJ (lwI a sa sb tl dl wd mn cs.length m H) ⟨[],[],[],⟨_,rfl⟩,s0.trans s1,s1 _ _ e0,.nil,.nil,by rw[Nat.zero_mul];simp,rfl⟩ ?_ ?_⟩
 ·rintro i σ H2 hi ⟨xs,ds,zs,⟨o7,rfl⟩,s2,hd2,pd,wz,sm,li⟩
  simp only[Qw,kF,z7,v5,yT,tOp,zc,tC,zb,zi,tBM,tyV,tSl,xG,yy,zn,rI0,Yf,bB,bb,bd,bj,ah,V.int.injEq,V.ref.injEq,bp,and_true,true_and,and_assoc,am,br,bx]
  have lt:=zeo (by lia) (by lia) hi
  have ek:0 + (i:Int) * mn=((i * m:Nat):Int):=by rw[em,nk];exact(Int.natCast_mul i m).symm
  have e2:0 + (i:Int) * mn + mn=((i * m + m:Nat):Int):=by rw[ek,em];lia
  rw[e2,ek]
  rw[nk] at ek
  have lk:i * m < cs.length:=by lia
  refine⟨.inl ⟨_,SqL.of hd2⟩,_,sc.mono s2,λp1 hp1=>?_⟩
  rw[ec]
  have s3:=isV (o:=HO.lst (cs.map V.int)) p1 hp1
  have e3:upd H2 p1 (HO.lst (cs.map V.int)) p1=aa (.lst (cs.map V.int)):=zf
  generalize upd H2 p1 (HO.lst (cs.map V.int))=H3 at *
  refine⟨_,SqL.of e3,λp hp=>?_⟩
  rw[zeP cs _ _ lk]
  have sm2:(i + 1) * m=i * m + m:=Nat.succ_mul ..
  have lim2:cs.length < 64:=by lia
  generalize i * m=k at *
  have le:((cs.drop k).take m).length=min m (cs.length - k):=by rw[cm,cC]
  generalize (cs.drop k).take m=es at *
  have s4:=isV (o:=HO.lst (es.map V.int)) p hp
  have S:=s2.trans (s3.trans s4)
  refine⟨es,zf,by lia,ws,hw.same S,lw,us,hu.same S,lu,w1,w2,λl1 r1 H6 s6 rl wr=>?_⟩
  have T:=s3.trans (s4.trans s6)
  have hd6:=T _ _ hd2
  have lx:=bM pd
  have ne:∀ {b},upd H3 p (HO.lst (es.map V.int)) b=ai->b≠dl:=λ{b} e z=>by rw[z,(s3.trans s4) _ _ hd2] at e;cases e
  refine⟨_,hd6,bZ (by lia:_<=63) (by decide),xs ++ [.ref l1],ds ++ [r1],zs ++ [es.length],⟨_,rfl⟩,z6 (S.trans s6) hdl,zf,Paired.snocP (Paired.mapP pd λ_ _ z=>z.to (λ_ _ f _=>f) λb o f e=>by rw[zl f];exact T _ _ e) (rl.to (λb o f _=>ne f) λb o f e=>by rw[zl (ne f)];exact e),Paired.snocP wz ⟨wr,by lia⟩,?_,by rw[bt,li];rfl⟩
  rw[List.sum_append,sm2,List.sum_singleton];lia
 ·rintro σ H2 ⟨xs,ds,zs,⟨o7,rfl⟩,s2,hd2,pd,wz,sm,li⟩
  have lz:(ds.length:Int) * 2<=cs.length + 1:=by
   by_cases c:ds.length=0
   ·lia
   ·have:=zeo (i:=ds.length - 1) (j:=(cs.length:Int)) (c:=mn) (by lia) (by lia) (by lia)
    have e:((ds.length - 1:Nat):Int) * 2<=((ds.length - 1:Nat):Int) * mn:=Int.mul_le_mul_of_nonneg_left m1 (by lia)
    lia
  exact zeS (sc.mono s2) hn hd2 (Paired.mapP pd λ_ _ z=>z.any) (xm ht s2) ti wz (by lia) (by lia) q
theorem zgg(hS:SqL K H a (ns.map V.int))(hn:ns.length<=63)(q:∀H',Q (.bl ae) H') :
  zaM K t { nx:=λ_ H'=>Q .non H',rt:=Q } (L2.start ["script","slots","shelves","wide","table","many","dealings","at","codes","told","papers","most","order","turned"] [.ref a]) H:=by
 simp only[zaM,zR,xK,vm,zk,jm,L2.start,zo,zJ,zm,tOp,zc,tC,zb,zi,zn,rI,rI0,cr,bG,bJ,bP,b8,bB,bb,bd,bj,ah,V.int.injEq,V.ref.injEq,bp,and_true,and_assoc,am,br,bx,bU,bL]
 refine⟨ns,0,rfl,hS,hn,λc1 H1 s1=>⟨by decide,by decide,λsa ws H2 s2 n1 n2=>⟨ns,1,rfl,hS.mono (s1.trans s2),hn,λc2 H3 s3=>λsb us H4 s4 n3 n4=>?_⟩⟩⟩
 have S4:=s1.trans (s2.trans (s3.trans s4))
 refine⟨ns,1,rfl,hS.mono S4,hn,λc3 H5 s5=>⟨by decide,by decide,λr1 H6 _ _ s6=>⟨by decide,?_⟩⟩⟩
 have g1:=cL r1 (b:=8) (by decide)
 have g2:=cD r1 (b:=8) (by decide)
 have S6:=S4.trans (s5.trans s6)
 refine⟨ns,2,rfl,hS.mono S6,hn,λc4 H7 s7=>⟨us,n3.same (s5.trans (s6.trans s7)),n4,by lia,by lia,λtl tab H8 s8 ft lt ti=>?_⟩⟩
 have S8:=S6.trans (s7.trans s8)
 refine⟨ns,0,rfl,hS.mono S8,hn,λc5 H9 s9=>⟨by decide,by decide,λr2 HA _ _ sA=>⟨by decide,?_⟩⟩⟩
 have g3:=cL r2 (b:=7) (by decide)
 have g4:=cD r2 (b:=7) (by decide)
 have T:=s9.trans sA
 have T2:=s5.trans (s6.trans (s7.trans (s8.trans T)))
 exact zeT (hS.mono (S8.trans T)) hn (n1.same (s3.trans (s4.trans T2))) (by lia) (n3.same T2) n4 (by lia) (by lia) (xm lt T) ti (by lia) (by lia) q
end
section
variable {x:ag}{a:RAd}{C:List Cs}{s:RSt}{E:XK}{σ:St}
theorem qY{k:Int}(R:RnAt t H x a C s)(so:yr s.sl)(h0:σ[0]?=aa (aa (.ref x)))(h1:σ[1]?=aa (aa (.ref p)))(e2:H p=aa (.tup xs))(ek:atI xs k=aa (.ref te))(e3:H te=aa (.tup e))(ok:TermOk e)(q:∀H1,Same H H1->fin t (rk s.sl e) Q E H1) :
  yw t.c_Run "worth_of" (yd t) [] E (zc 0) (zb (tOp (zO K) (zc 1) (tC (.int k))) zi) σ H Q:=
 ⟨_,h0,x,_,_,rfl,R.ix,rfl,qb h1 e2 ek ⟨x,te,e,a,C,s,rfl,R,so,e3,ok,q⟩⟩
theorem Q0(R:RnAt t H x a C s)(so:yr s.sl)(h0:σ[0]?=aa (aa (.ref x)))(h1:σ[1]?=aa (aa (.ref p)))(e2:H p=aa (.tup xs))(i1:atI xs 1=aa (.str sh))(i2:atI xs 2=aa (.ref te))(e3:H te=aa (.tup e))(ok:TermOk e)(q1:∀i q H',rk s.sl e=.ok i->Same H H'->H' q=aa (.tup [.str sh,.int i])->Q (.ref q) H')(q2:∀er H',rk s.sl e=.error er->Same H H'->XI t er E H') :
  yw t.c_Run "place_in" (y9 t) [] E (zc 0) (zb (zc 1) zi) σ H Q:=
 ⟨_,h0,x,_,_,rfl,R.ix,rfl,_,h1,x,p,xs,sh,te,e,a,C,s,rfl,R,so,e2,i1,i2,e3,ok,q1,q2⟩
theorem Kj{v:V}{r:Rw}{w:Int}{m:Nat}(F:RnF K t)(R:RnAt t H x a C s)(h1:RwAt w6 H v r)(h2:vi r)(h3:xV r)(h4:RnOk m s)(h5:m<=900)
  (q1:∀H' s',doR r w s=.ok s'->Kp x a H H'->RnAt t H' x a C s'->Q .non H') (q2:∀H' er,doR r w s=.error er->Same H H'->XI t er E H') :
  Xt K t E { nx:=λ_ H'=>Q .non H',rt:=Q } (L2.start ["self","due","worth","place"] [.ref x,v,.int w]) H:=by
 have l1:=h4.l1
 have l2:=h4.l2
 have l4:=h4.l4
 have so:=h4.so
 cases r with
 | take sh e sl' =>
  unfold RwAt at h1
  unfold xV at h3
  obtain⟨r,te,rfl,_,_,e2,e3⟩:=h1
  refine xE rfl e2 rfl (λ_=>?_) λz=>absurd rfl z
  refine⟨_,rfl,x,_,_,rfl,R.ix,rfl,Q0 R so rfl rfl e2 rfl rfl e3 h3 (λi q H1 hk s1 hq=>?_) λer H1 hk s1=>q2 H1 er (by unfold doR;simp only[hk]) s1⟩
  have R1:=R.same s1
  refine⟨_,rfl,x,q,(sh,i),w,a,C,s,rfl,R1,hq,by have:=h4.l3;lia,λH2 K2 R2=>?_⟩
  have hs2:=R2.hs
  rw[zea] at hs2
  exact vD rfl R2.ix F.cl F.n4 rfl (qb rfl (K2 _ _ (R1.notup (s1 _ _ e2)) (s1 _ _ e2)) rfl ⟨_,_,rfl,DPut.k (k:=.inr sl') hs2 (bZ (by lia:_<=900) (by decide)),q1 _ _ (by unfold doR;simp only[hk]) ((Kp.of_same s1).trans (K2.trans (wN (.inr (.inl rfl))))) (R2.putS _)⟩)
 | give sh e f =>
  unfold RwAt at h1
  unfold xV at h3
  obtain⟨r,te,tf,rfl,_,_,_,e2,e3,e4⟩:=h1
  refine xE rfl e2 rfl (λz=>absurd z (by decide +kernel)) λ_=>xE rfl e2 rfl (λ_=>?_) λz=>absurd rfl z
  refine Q0 R so rfl rfl e2 rfl rfl e3 h3.1 (λi q H1 hk s1 hq=>?_) λer H1 hk s1=>q2 H1 er (by unfold doR;simp only[hk]) s1
  have R1:=R.same s1
  refine qY R1 so rfl rfl (s1 _ _ e2) rfl (s1 _ _ e4) h3.2 λH3 s3=>?_
  cases hk2:rk s.sl f with
  | error er=>exact fin_err.mpr (q2 H3 er (by unfold doR;simp only[hk,hk2]) (s1.trans s3))
  | ok n =>
   have R3:=R1.same s3
   have ld:=xO s.gi
   refine fin_ok.mpr (vD rfl R3.ix F.cl F.n5 rfl ⟨_,rfl,_,_,rfl,DPut.t (k:=zI (sh,i)) R3.hg (s3 _ _ hq) (bZ (by lia:_<=900) (by decide)),?_⟩)
   rw[show yz (dOf s.gi) (zI (sh,i)) (V.int n)=dOf (s.gi ++ [((sh,i),n)]) from (jN s.gi ((sh,i),n)).symm]
   exact q1 _ _ (by unfold doR;simp only[hk,hk2]) ((Kp.of_same (s1.trans s3)).trans (wN (.inr (.inr (.inl rfl))))) (R3.putG _)
 | lt sl' e =>
  unfold RwAt at h1
  unfold xV at h3
  obtain⟨r,te,rfl,_,_,e2,e3⟩:=h1
  refine xE rfl e2 rfl (λz=>absurd z (by decide +kernel)) λ_=>xE rfl e2 rfl (λz=>absurd z (by decide +kernel)) λ_=>xE rfl e2 rfl (λ_=>?_) λz=>absurd rfl z
  refine qY R so rfl rfl e2 rfl e3 h3 λH1 s1=>?_
  cases hk:rk s.sl e with
  | error er=>exact fin_err.mpr (q2 H1 er (by unfold doR;simp only[hk]) s1)
  | ok n =>
   have R2:=R.same s1
   exact fin_ok.mpr (vD rfl R2.ix F.cl F.n4 rfl (qb rfl (s1 _ _ e2) rfl ⟨_,_,rfl,DPut.k (k:=.inr sl') R2.hs (bZ (by lia:_<=900) (by decide)),q1 _ _ (by unfold doR;simp only[hk]) ((Kp.of_same s1).trans (wN (.inr (.inl rfl)))) (R2.putS _)⟩))
 | say e =>
  unfold RwAt at h1
  unfold xV at h3
  obtain⟨r,te,rfl,_,_,e2,e3⟩:=h1
  refine xE rfl e2 rfl (λz=>absurd z (by decide +kernel)) λ_=>xE rfl e2 rfl (λz=>absurd z (by decide +kernel)) λ_=>xE rfl e2 rfl (λz=>absurd z (by decide +kernel)) λ_=>?_
  unfold Zx yT tBM
  refine vD rfl R.ix F.cl F.n7 rfl ⟨.inl ⟨rfl,_,SqL.of R.ha⟩,?_⟩
  refine qY R so rfl rfl e2 rfl e3 h3 λH1 s1=>?_
  cases hk:rk s.sl e with
  | error er=>exact fin_err.mpr (q2 H1 er (by unfold doR;simp only[hk]) s1)
  | ok n =>
   have R1:=R.same s1
   refine fin_ok.mpr ⟨_,_,_,rfl,rfl,R1.ha,bZ (by rw[bu];lia:_<=900) (by decide),?_⟩
   rw[show cr V.int s.sa ++ [V.int n]=cr V.int (s.sa ++ [n]) by simp]
   exact q1 _ _ (by unfold doR;simp only[hk]) ((Kp.of_same s1).trans (wN (.inr (.inr (.inr (.inr rfl)))))) (R1.putA _)
 | off e=>exact h2.elim
 | iff e b d=>exact h2.elim
theorem Ve{v:V}{c:Cs}{w:Int}{m:Nat}(F:RnF K t)(R:RnAt t H x a C s)(h1:CsAt H v c)(h2:XJ c)(h3:RnOk m s)(h4:m<=900)
  (q1:∀H' s' k,yv c w s=.ok (k,s')->Kp x a H H'->RnAt t H' x a C s'->Q (.int (k:Nat)) H') (q2:∀H' er,yv c w s=.error er->Same H H'->XI t er E H') :
  Zy K t E { nx:=λ_ H'=>Q .non H',rt:=Q } (L2.start ["self","due","worth"] [.ref x,v,.int w]) H:=by
 have so:=h3.so
 have nx:∀ {v' H1 s1},RnAt t H1 x a C s1->(∀k:Nat,k=s1.n + 1->Q (.int (k:Nat)) H1)->zB (tOp (rI0 λi j=>.int (i + j)) (yG K (zc 0) "at") (tC (.int 1))) { nx:=λ_ H'=>Q .non H',rt:=Q } (L2.start ["self","due","worth"] [.ref x,v',.int w]) H1:=λR1 q=>by
  unfold zB tOp
  exact vD rfl R1.ix F.cl F.n2 rfl ⟨_,_,rfl,rfl,q _ rfl⟩
 cases c with
 | go en =>
  obtain⟨p,rfl,e2⟩:=h1
  refine xE rfl e2 rfl (λ_=>?_) λz=>absurd rfl z
  exact qb rfl e2 rfl (q1 H s en rfl (.of_same λ_ _ z=>z) R)
 | skip e to =>
  obtain⟨p,te,rfl,e2,e3⟩:=h1
  refine xE rfl e2 rfl (λz=>absurd z (by decide +kernel)) λ_=>xE rfl e2 rfl (λ_=>?_) λz=>absurd rfl z
  refine qY R so rfl rfl e2 rfl e3 h2 λH1 s1=>?_
  cases hk:rk s.sl e with
  | error er=>exact fin_err.mpr (q2 H1 er (by unfold yv;simp only[hk]) s1)
  | ok n =>
   have R2:=R.same s1
   refine fin_ok.mpr ⟨rfl,_,rfl,zh2 (λhn=>?_) λhn=>?_⟩
   ·exact qb rfl (s1 _ _ e2) rfl (q1 H1 s to (by unfold yv;simp only[hk,ap hn]) (.of_same s1) R2)
   ·exact nx R2 λk hk'=>q1 H1 s k (by unfold yv;simp only[hk,ak hn,hk']) (.of_same s1) R2
 | row r =>
  obtain⟨h1,hni⟩:=h1
  rcases zfO r hni with ⟨e,rfl⟩ | hdo
  ·unfold RwAt at h1
   unfold XJ xV at h2
   obtain⟨r,te,rfl,_,_,e2,e3⟩:=h1
   refine xE rfl e2 rfl (λz=>absurd z (by decide +kernel)) λ_=>xE rfl e2 rfl (λz=>absurd z (by decide +kernel)) λ_=>xE rfl e2 rfl (λ_=>?_) λz=>absurd rfl z
   refine qY R so rfl rfl e2 rfl e3 h2 λH1 s1=>?_
   cases hk:rk s.sl e with
   | error er=>exact fin_err.mpr (q2 H1 er (by unfold yv;simp only[hk]) s1)
   | ok n =>
    have R2:=R.same s1
    refine fin_ok.mpr ⟨rfl,_,rfl,zd5 (λhn=>?_) λhn=>?_⟩
    ·have R3:=R2.putI { s with why:=aa (bg "told") } rfl rfl rfl rfl
     refine⟨_,rfl,_,_,_,_,rfl,R2.ix,F.cl,F.n3,(by show (7:Nat) < 1000;decide),?_⟩
     exact nx R3 λk hk'=>q1 _ { s with why:=aa (bg "told") } k (by unfold yv;simp only[hk,ak hn,hk']) ((Kp.of_same s1).trans (wN (.inl rfl))) R3
    ·exact nx R2 λk hk'=>q1 H1 s k (by unfold yv;simp only[hk,ap hn,hk']) (.of_same s1) R2
  ·obtain⟨p,zs,hd,rfl,e2,e3,n1,n2,n3⟩:=zfP h1 hdo
   have el:=QD (w:=w) (s:=s) hdo
   refine xE rfl e2 e3 (λz=>absurd z n1) λ_=>xE rfl e2 e3 (λz=>absurd z n2) λ_=>xE rfl e2 e3 (λz=>absurd z n3) λ_=>?_
   refine⟨_,rfl,x,_,_,rfl,R.ix,rfl,_,rfl,_,rfl,x,_,r,w,m,a,C,s,rfl,R,h1,hdo,h2,h3,h4,λH1 s' e K1 R1=>?_,λH1 er e s1=>q2 H1 er (by rw[el,e]) s1⟩
   have en:=zh6 hdo e
   exact nx R1 λk hk'=>q1 H1 s' k (by rw[el,e,hk',en]) K1 R1
end
section
variable {x:ag}{H0:Hp}{dx sl wo sa:ag}{s:Sta}{E:XK}{σ:St}
theorem vZ{k:Int}(D:DoAt t H0 H x dx sl wo sa s)(so:yr s.sl)(h0:σ[0]?=aa (aa (.ref x)))(h1:σ[i]?=aa (aa (.ref p)))(e2:H p=aa (.tup xs))(ek:atI xs k=aa (.ref te))(e3:H te=aa (.tup e))(ok:TermOk e)(q:∀H1,Same H H1->fin t (rk s.sl e) Q E H1) :
  yw t.c_Doing "worth_of" (zY t) [] E (zc 0) (zb (tOp (zO K) (zc i) (tC (.int k))) zi) σ H Q:=
 ⟨_,h0,x,_,_,rfl,D.ix,rfl,qb h1 e2 ek ⟨x,te,e,H0,dx,sl,wo,sa,s,rfl,D,so,e3,ok,q⟩⟩
theorem Vf{v:V}{r:Rw}{m:Nat}(F:DoF K t)(D:DoAt t H0 H x dx sl wo sa s)(h1:RwAt w6 H0 v r)(h2:vi r)(h3:xV r)(h4:StOk m s)(h5:m<=900)
  (q1:∀H' s',goR r s=.go s'->DoAt t H0 H' x dx sl wo sa s'->Q .non H') (q2:∀H' e,goR r s=.er e->Same H0 H'->XI t e E H') :
  ZA K t E { nx:=λ_ H'=>Q .non H',rt:=Q } (L2.start ["self","row","place"] [.ref x,v]) H:=by
 have so:=h4.so
 cases r with
 | take sh e sl' =>
  unfold RwAt at h1
  unfold xV at h3
  obtain⟨r,te,rfl,_,_,e2,e3⟩:=h1
  have e2:=D.sm _ _ e2
  have e3:=D.sm _ _ e3
  refine xE rfl e2 rfl (λ_=>?_) λz=>absurd rfl z
  unfold k9 wu ka
  refine vD rfl D.ix F.cl F.n2 rfl ⟨_,rfl,.inr ⟨_,.inl D.hw⟩,?_⟩
  unfold yC zb
  refine qb rfl e2 rfl ?_
  refine vZ D so rfl rfl e2 rfl e3 h3 λH1 s1=>?_
  cases hk:rk s.sl e with
  | error er=>exact fin_err.mpr (q2 H1 er (by unfold goR;rw[hk]) (D.sm.trans s1))
  | ok n =>
   refine fin_ok.mpr ⟨by show (2:Nat)<=sizeLine;decide,λp hp=>?_⟩
   have s2:=isV (o:=HO.tup [V.str sh,V.int n]) p hp
   have D2:=D.same (s1.trans s2)
   refine⟨(zq s.wo (sh,n)).map V.int,.inr ⟨dOf s.wo,zI (sh,n),p,.inl D2.hw,rfl,zf,(xM _ _).symm⟩,?_⟩
   have hv:(Option.map V.int (zq s.wo (sh,n))).getD (V.int 0)=V.int ((zq s.wo (sh,n)).getD 0):=by cases zq s.wo (sh,n) <;> rfl
   rw[hv]
   have l1:=h4.l1
   exact vD rfl D2.ix F.cl F.n1 rfl (qb rfl ((s1.trans s2) _ _ e2) rfl ⟨_,_,rfl,DPut.k (k:=.inr sl') D2.hs (bZ (by lia:_<=900) (by decide)),q1 _ _ (by unfold goR;rw[hk]) (D2.putS _)⟩)
 | give sh e f =>
  unfold RwAt at h1
  unfold xV at h3
  obtain⟨r,te,tf,rfl,_,_,_,e2,e3,e4⟩:=h1
  have e2:=D.sm _ _ e2
  have e3:=D.sm _ _ e3
  have e4:=D.sm _ _ e4
  refine xE rfl e2 rfl (λz=>absurd z (by decide +kernel)) λ_=>xE rfl e2 rfl (λ_=>?_) λz=>absurd rfl z
  unfold k4 zo zJ yC zb
  refine qb rfl e2 rfl ?_
  refine vZ D so rfl rfl e2 rfl e3 h3.1 λH1 s1=>?_
  cases hk:rk s.sl e with
  | error er=>exact fin_err.mpr (q2 H1 er (by unfold goR;rw[hk]) (D.sm.trans s1))
  | ok n =>
   refine fin_ok.mpr ⟨by show (2:Nat)<=sizeLine;decide,λp hp=>?_⟩
   have s2:=isV (o:=HO.tup [V.str sh,V.int n]) p hp
   have D2:=D.same (s1.trans s2)
   have S2:=s1.trans s2
   have ep:upd H1 p (HO.tup [V.str sh,V.int n]) p=aa (.tup [V.str sh,V.int n]):=zf
   refine vZ D2 so rfl rfl (S2 _ _ e2) rfl (S2 _ _ e4) h3.2 λH3 s3=>?_
   cases hk2:rk s.sl f with
   | error er=>exact fin_err.mpr (q2 H3 er (by unfold goR;rw[hk];simp only[hk2]) (D2.sm.trans s3))
   | ok w =>
    have D3:=D2.same s3
    have l2:=h4.l2
    have ld:=xO s.wo
    refine fin_ok.mpr (vD rfl D3.ix F.cl F.n2 rfl ⟨_,rfl,_,_,rfl,DPut.t (k:=zI (sh,n)) D3.hw (s3 _ _ ep) (bZ (by lia:_<=900) (by decide)),?_⟩)
    rw[show yz (dOf s.wo) (zI (sh,n)) (V.int w)=dOf (s.wo ++ [((sh,n),w)]) from (jN s.wo ((sh,n),w)).symm]
    exact q1 _ _ (by unfold goR;rw[hk];simp only[hk2]) (D3.putW _)
 | lt sl' e =>
  unfold RwAt at h1
  unfold xV at h3
  obtain⟨r,te,rfl,_,_,e2,e3⟩:=h1
  have e2:=D.sm _ _ e2
  have e3:=D.sm _ _ e3
  refine xE rfl e2 rfl (λz=>absurd z (by decide +kernel)) λ_=>xE rfl e2 rfl (λz=>absurd z (by decide +kernel)) λ_=>xE rfl e2 rfl (λ_=>?_) λz=>absurd rfl z
  refine vZ D so rfl rfl e2 rfl e3 h3 λH1 s1=>?_
  cases hk:rk s.sl e with
  | error er=>exact fin_err.mpr (q2 H1 er (by unfold goR;rw[hk]) (D.sm.trans s1))
  | ok n =>
   have D2:=D.same s1
   have l1:=h4.l1
   exact fin_ok.mpr (vD rfl D2.ix F.cl F.n1 rfl (qb rfl (s1 _ _ e2) rfl ⟨_,_,rfl,DPut.k (k:=.inr sl') D2.hs (bZ (by lia:_<=900) (by decide)),q1 _ _ (by unfold goR;rw[hk]) (D2.putS _)⟩))
 | say e =>
  unfold RwAt at h1
  unfold xV at h3
  obtain⟨r,te,rfl,_,_,e2,e3⟩:=h1
  have e2:=D.sm _ _ e2
  have e3:=D.sm _ _ e3
  refine xE rfl e2 rfl (λz=>absurd z (by decide +kernel)) λ_=>xE rfl e2 rfl (λz=>absurd z (by decide +kernel)) λ_=>xE rfl e2 rfl (λz=>absurd z (by decide +kernel)) λ_=>?_
  unfold kZ yT tBM
  refine vD rfl D.ix F.cl F.n3 rfl ⟨.inl ⟨rfl,_,SqL.of D.ha⟩,?_⟩
  refine vZ D so rfl rfl e2 rfl e3 h3 λH1 s1=>?_
  cases hk:rk s.sl e with
  | error er=>exact fin_err.mpr (q2 H1 er (by unfold goR;rw[hk]) (D.sm.trans s1))
  | ok n =>
   have D2:=D.same s1
   have l3:=h4.l3
   have e:s.sa.map V.int ++ [V.int n]=(s.sa ++ [n]).map V.int:=by simp
   refine fin_ok.mpr ⟨_,_,_,rfl,rfl,D2.ha,bZ (by rw[bu];lia:_<=900) (by decide),?_⟩
   rw[e]
   exact q1 _ _ (by unfold goR;rw[hk]) (D2.putA _)
 | off e=>exact h2.elim
 | iff e a b=>exact h2.elim
end
theorem zgC(h:max (max a b + 1) c < n + 1):a < n/\b < n:=by lia
theorem zii(h:m + (max a b + 1 + c)<=900):m + a<=900/\m + b<=900:=by lia
theorem kP{x l:ag}{xs:List V}{rws:Rws}{m n:Nat}{H0:Hp}{dx sl wo sa:ag}{s:Sta}{E:XK}(F:DoF K t)(D:DoAt t H0 H x dx sl wo sa s)(h1:H0 l=aa (.lst xs))(h2:RwsAt w6 H0 xs rws)(h3:yJ rws)(h4:rws.deep < n + 1)(h5:StOk m s)(h6:m + rws.cnt<=900)
  (q1:∀H' s',yL rws s=.go s'->DoAt t H0 H' x dx sl wo sa s'->Q (.bl ae) H') (q2:∀H',yL rws s=.off->Same H0 H'->Q (.bl ao) H') (q3:∀H' e,yL rws s=.er e->Same H0 H'->XI t e E H') :
  wA K t n E { nx:=λ_ H'=>Q .non H',rt:=Q } (L2.start ["self","rows","row"] [.ref x,.ref l]) H:=by
 refine⟨_,rfl,l,rfl,⟨_,SqL.of (D.sm _ _ h1)⟩,?_⟩
 refine xg xs (goI t x l dx sl wo sa xs rws s n H0) ⟨s,rws,m,⟨_,rfl⟩,D,by rw[du];exact h2,h3,h4,h5,h6,rfl⟩ (λi σ H' ⟨s',rest,m,_,D',_⟩=>SqL.of (D'.sm _ _ h1)) ?_ ?_
 ·rintro i v σ H' hv ⟨s',rest,m,⟨o,rfl⟩,D',hr,ok,dp,st,ct,ge⟩
  obtain⟨r,rs,rfl,rx,rr⟩:=hr.get hv
  unfold yJ at ok
  have c1:(Rws.cons r rs).deep=max r.deep rs.deep:=by rw[Rws.deep]
  have c2:(Rws.cons r rs).cnt=r.cnt + rs.cnt:=by rw[Rws.cnt]
  rw[c1] at dp
  rw[c2] at ct
  have go:∀s'',goR r s'=.go s''->yL rws s=yL rs s'':=λs'' z=>by rw[ge,yL,z]
  have nx:∀(s'':Sta) (H'':Hp) (o':Option V),goR r s'=.go s''->DoAt t H0 H'' x dx sl wo sa s''->goI t x l dx sl wo sa xs rws s n H0 (i + 1) [aa (.ref x),aa (.ref l),o'] H'':=λs'' H'' o' z D''=>⟨s'',rs,m + r.cnt,⟨_,rfl⟩,D'',rr,ok.2,by lia,zdQ r st ok.1 z,by lia,go s'' z⟩
  have er:∀e,goR r s'=.er e->yL rws s=.er e:=λe z=>by rw[ge,yL,z]
  have of:goR r s'=.off->yL rws s=.off:=λz=>by rw[ge,yL,z]
  rcases Classical.em (vi r) with hD | hD
  ·obtain⟨p,ws,hd,rfl,e2,e3,n1,n2⟩:=zd9 rx hD
   have e2:=D'.sm _ _ e2
   refine xE rfl e2 e3 (λz=>absurd z n1) λ_=>xE rfl e2 e3 (λz=>absurd z n2) λ_=>?_
   exact⟨_,rfl,x,_,_,rfl,D'.ix,rfl,_,rfl,x,_,r,m,H0,dx,sl,wo,sa,s',rfl,D',rx,hD,ok.1,st,by lia,λH1 s1 z D1=>nx s1 H1 _ z D1,λH1 e z sm=>q3 H1 e (er e z) sm⟩
  cases r with
  | take sh e sl'=>exact(hD trivial).elim
  | give sh e f=>exact(hD trivial).elim
  | lt sl' e=>exact(hD trivial).elim
  | say e=>exact(hD trivial).elim
  | off e =>
   unfold RwAt at rx
   have ok1:=ok.1
   unfold xV at ok1
   obtain⟨r,te,rfl,_,_,e2,e3⟩:=rx
   have e2:=D'.sm _ _ e2
   have e3:=D'.sm _ _ e3
   refine xE rfl e2 rfl (λ_=>?_) λz=>absurd rfl z
   refine vZ D' st.so rfl rfl e2 rfl e3 ok1 λH1 s1=>?_
   cases hk:rk s'.sl e with
   | error x=>exact fin_err.mpr (q3 H1 x (er x (by unfold goR;rw[hk])) (D'.sm.trans s1))
   | ok k =>
    refine fin_ok.mpr ⟨rfl,_,rfl,zd5 (λh0=>?_) λh0=>?_⟩
    ·exact q2 H1 (of (by unfold goR;rw[hk];simp only[ak h0])) (D'.sm.trans s1)
    ·exact nx s' H1 _ (by unfold goR;rw[hk];simp only[ap h0]) (D'.same s1)
  | iff e a b =>
   unfold RwAt at rx
   have ok1:=ok.1
   unfold xV at ok1
   obtain⟨r,te,la,lb,as,bs,rfl,_,_,_,_,e2,e3,e4,e5,e6,e7⟩:=rx
   have e2:=D'.sm _ _ e2
   have e3:=D'.sm _ _ e3
   have c3:(Rw.iff e a b).deep=max a.deep b.deep + 1:=by rw[Rw.deep]
   have c4:(Rw.iff e a b).cnt=max a.cnt b.cnt + 1:=by rw[Rw.cnt]
   rw[c3] at dp
   rw[c4] at ct
   refine xE rfl e2 rfl (λz=>absurd z (by decide +kernel)) λ_=>xE rfl e2 rfl (λ_=>?_) λz=>absurd rfl z
   refine⟨_,rfl,x,_,_,rfl,D'.ix,rfl,?_⟩
   refine vZ D' st.so rfl rfl e2 rfl e3 ok1.1 λH1 s1=>?_
   cases hk:rk s'.sl e with
   | error x=>exact fin_err.mpr (q3 H1 x (er x (by unfold goR;rw[hk])) (D'.sm.trans s1))
   | ok k =>
    refine fin_ok.mpr ⟨rfl,_,rfl,zd5 (λh0=>?_) λh0=>?_⟩
    rotate_left
    ·have gb:goR (.iff e a b) s'=yL b s':=by rw[goR,hk];simp only[ap h0]
     refine qb rfl (s1 _ _ e2) rfl ⟨x,_,bs,b,m,H0,dx,sl,wo,sa,s',rfl,D'.same s1,e6,e7,ok1.2.2,(zgC dp).2,st,(zii ct).2,λH2 s2 g D2=>?_,λH2 g sm=>?_,λH2 x g sm=>q3 H2 x (er x (gb.trans g)) sm⟩
     ·refine⟨_,rfl,?_⟩
      exact nx s2 H2 _ (gb.trans g) D2
     ·refine⟨_,rfl,?_⟩
      exact q2 H2 (of (gb.trans g)) sm
    ·have gb:goR (.iff e a b) s'=yL a s':=by rw[goR,hk];simp only[ak h0]
     refine qb rfl (s1 _ _ e2) rfl ⟨x,_,as,a,m,H0,dx,sl,wo,sa,s',rfl,D'.same s1,e4,e5,ok1.2.1,(zgC dp).1,st,(zii ct).1,λH2 s2 g D2=>?_,λH2 g sm=>?_,λH2 x g sm=>q3 H2 x (er x (gb.trans g)) sm⟩
     ·refine⟨_,rfl,?_⟩
      exact nx s2 H2 _ (gb.trans g) D2
     ·refine⟨_,rfl,?_⟩
      exact q2 H2 (of (gb.trans g)) sm
 ·rintro σ H' ⟨s',rest,m,⟨o,rfl⟩,D',hr,ok,dp,st,ct,ge⟩
  have e:=hr.none
  subst e
  exact q1 H' s' (by rw[ge];unfold yL;rfl) D'
section
variable {x:ag}{a:RAd}{C:List Cs}{s:RSt}{E:XK}
theorem Kk{l dx:ag}{xs:List V}(F:RnF K t)(h1:H x=aa (.ins t.c_Run dx []))(h2:H l=aa (.lst xs))(h3:Paired (CsAt H) xs C)
  (q:∀H' a,Xl x H H'->RnAt t H' x a C st0->(∀b,OwA x a b->b=x\/H b=ai)->Q .non H') :
  Xr K t { nx:=λ_ H'=>Q .non H',rt:=Q } (L2.start ["self","code"] [.ref x,.ref l]) H:=by
 refine⟨_,rfl,l,xs,rfl,.inl (SqL.of h2),λco hco=>?_⟩
 have nco:x≠co:=zG h1 hco
 refine⟨_,rfl,x,_,_,_,rfl,(by rw[zl nco];exact h1),F.cl,F.n1,by decide,_,rfl,x,_,_,_,rfl,zf,F.cl,F.n2,(by show (1:Nat) < 1000;decide),_,rfl,x,_,_,_,rfl,zf,F.cl,F.n3,(by show (2:Nat) < 1000;decide),?_⟩
 have A1:Xl x H (upd (upd (upd (upd H co (HO.lst xs)) x (.ins t.c_Run dx (z4 (bg "code") (V.ref co) []))) x (.ins t.c_Run dx (z4 (bg "at") (V.int 0) (z4 (bg "code") (V.ref co) [])))) x (.ins t.c_Run dx (z4 (bg "why") V.non (z4 (bg "at") (V.int 0) (z4 (bg "code") (V.ref co) []))))):=λb o n e=>by
  rw[zl n,zl n,zl n,zl (λz=>by rw[z,hco] at e;cases e)];exact e
 have A2:(upd (upd (upd (upd H co (HO.lst xs)) x (.ins t.c_Run dx (z4 (bg "code") (V.ref co) []))) x (.ins t.c_Run dx (z4 (bg "at") (V.int 0) (z4 (bg "code") (V.ref co) [])))) x (.ins t.c_Run dx (z4 (bg "why") V.non (z4 (bg "at") (V.int 0) (z4 (bg "code") (V.ref co) []))))) x=aa (.ins t.c_Run dx [(bg "code",V.ref co),(bg "at",V.int 0),(bg "why",V.non)]):=zf
 have A3:(upd (upd (upd (upd H co (HO.lst xs)) x (.ins t.c_Run dx (z4 (bg "code") (V.ref co) []))) x (.ins t.c_Run dx (z4 (bg "at") (V.int 0) (z4 (bg "code") (V.ref co) [])))) x (.ins t.c_Run dx (z4 (bg "why") V.non (z4 (bg "at") (V.int 0) (z4 (bg "code") (V.ref co) []))))) co=aa (.lst xs):=by
  rw[zl (cH nco),zl (cH nco),zl (cH nco),zf]
 generalize (upd (upd (upd (upd H co (HO.lst xs)) x (.ins t.c_Run dx (z4 (bg "code") (V.ref co) []))) x (.ins t.c_Run dx (z4 (bg "at") (V.int 0) (z4 (bg "code") (V.ref co) [])))) x (.ins t.c_Run dx (z4 (bg "why") V.non (z4 (bg "at") (V.int 0) (z4 (bg "code") (V.ref co) [])))))=HA at *
 refine λsl hsl=>?_
 obtain⟨nsl,fsl,B1,B4,B5⟩:=ini (o:=HO.dK []) (i':=HO.ins t.c_Run dx (z4 (bg "slots") (V.ref sl) [(bg "code",V.ref co),(bg "at",V.int 0),(bg "why",V.non)])) A1 A2 hsl
 refine⟨_,rfl,x,_,_,_,rfl,(by rw[zl nsl];exact A2),F.cl,F.n4,(by show (3:Nat) < 1000;decide),?_⟩
 have B2:(upd (upd HA sl (HO.dK [])) x (.ins t.c_Run dx (z4 (bg "slots") (V.ref sl) [(bg "code",V.ref co),(bg "at",V.int 0),(bg "why",V.non)]))) x=aa (.ins t.c_Run dx [(bg "code",V.ref co),(bg "at",V.int 0),(bg "why",V.non),(bg "slots",V.ref sl)]):=zf
 have B_co:=B5 _ _ (cH nco) A3
 generalize (upd (upd HA sl (HO.dK [])) x (.ins t.c_Run dx (z4 (bg "slots") (V.ref sl) [(bg "code",V.ref co),(bg "at",V.int 0),(bg "why",V.non)])))=HB at *
 refine λgi hgi=>?_
 obtain⟨ngi,fgi,C1,C4,C5⟩:=ini (o:=HO.dT []) (i':=HO.ins t.c_Run dx (z4 (bg "gifts") (V.ref gi) [(bg "code",V.ref co),(bg "at",V.int 0),(bg "why",V.non),(bg "slots",V.ref sl)])) B1 B2 hgi
 refine⟨_,rfl,x,_,_,_,rfl,(by rw[zl ngi];exact B2),F.cl,F.n5,(by show (4:Nat) < 1000;decide),?_⟩
 have C2:(upd (upd HB gi (HO.dT [])) x (.ins t.c_Run dx (z4 (bg "gifts") (V.ref gi) [(bg "code",V.ref co),(bg "at",V.int 0),(bg "why",V.non),(bg "slots",V.ref sl)]))) x=aa (.ins t.c_Run dx [(bg "code",V.ref co),(bg "at",V.int 0),(bg "why",V.non),(bg "slots",V.ref sl),(bg "gifts",V.ref gi)]):=zf
 have C_co:=C5 _ _ (cH nco) B_co
 have C_sl:=C5 _ _ (cH nsl) B4
 generalize (upd (upd HB gi (HO.dT [])) x (.ins t.c_Run dx (z4 (bg "gifts") (V.ref gi) [(bg "code",V.ref co),(bg "at",V.int 0),(bg "why",V.non),(bg "slots",V.ref sl)])))=HC at *
 refine λno hno=>?_
 obtain⟨nno,fno,D1,D4,D5⟩:=ini (o:=HO.dT []) (i':=HO.ins t.c_Run dx (z4 (bg "notes") (V.ref no) [(bg "code",V.ref co),(bg "at",V.int 0),(bg "why",V.non),(bg "slots",V.ref sl),(bg "gifts",V.ref gi)])) C1 C2 hno
 refine⟨_,rfl,x,_,_,_,rfl,(by rw[zl nno];exact C2),F.cl,F.n6,(by show (5:Nat) < 1000;decide),cp _,?_⟩
 have D2:(upd (upd HC no (HO.dT [])) x (.ins t.c_Run dx (z4 (bg "notes") (V.ref no) [(bg "code",V.ref co),(bg "at",V.int 0),(bg "why",V.non),(bg "slots",V.ref sl),(bg "gifts",V.ref gi)]))) x=aa (.ins t.c_Run dx [(bg "code",V.ref co),(bg "at",V.int 0),(bg "why",V.non),(bg "slots",V.ref sl),(bg "gifts",V.ref gi),(bg "notes",V.ref no)]):=zf
 have D_co:=D5 _ _ (cH nco) C_co
 have D_sl:=D5 _ _ (cH nsl) C_sl
 have D_gi:=D5 _ _ (cH ngi) C4
 have ngn:gi≠no:=λz=>by rw[<-z,C4] at hno;cases hno
 generalize (upd (upd HC no (HO.dT [])) x (.ins t.c_Run dx (z4 (bg "notes") (V.ref no) [(bg "code",V.ref co),(bg "at",V.int 0),(bg "why",V.non),(bg "slots",V.ref sl),(bg "gifts",V.ref gi)])))=HD at *
 refine λsa hsa=>?_
 obtain⟨nsa,fsa,E1,E4,E5⟩:=ini (o:=HO.lst []) (i':=HO.ins t.c_Run dx (z4 (bg "sayings") (V.ref sa) [(bg "code",V.ref co),(bg "at",V.int 0),(bg "why",V.non),(bg "slots",V.ref sl),(bg "gifts",V.ref gi),(bg "notes",V.ref no)])) D1 D2 hsa
 refine⟨_,rfl,x,_,_,_,rfl,(by rw[zl nsa];exact D2),F.cl,F.n7,(by show (6:Nat) < 1000;decide),?_⟩
 have E2:(upd (upd HD sa (HO.lst [])) x (.ins t.c_Run dx (z4 (bg "sayings") (V.ref sa) [(bg "code",V.ref co),(bg "at",V.int 0),(bg "why",V.non),(bg "slots",V.ref sl),(bg "gifts",V.ref gi),(bg "notes",V.ref no)]))) x=aa (.ins t.c_Run dx [(bg "code",V.ref co),(bg "at",V.int 0),(bg "why",V.non),(bg "slots",V.ref sl),(bg "gifts",V.ref gi),(bg "notes",V.ref no),(bg "sayings",V.ref sa)]):=zf
 have E_co:=E5 _ _ (cH nco) D_co
 have E_sl:=E5 _ _ (cH nsl) D_sl
 have E_gi:=E5 _ _ (cH ngi) D_gi
 have E_no:=E5 _ _ (cH nno) D4
 have ncs:co≠sa:=λz=>by rw[<-z,D_co] at hsa;cases hsa
 refine q _ ⟨dx,co,sl,gi,no,sa⟩ E1 ⟨E2,⟨xs,E_co,jF (λb ys e=>E1 b _ (λz=>by rw[z,h1] at e;cases e) e) h3⟩,E_sl,E_gi,E_no,E4,ngn,ncs⟩ ?_
 rintro b ((z | z | z | z | z) | z)
 ·exact .inl z
 ·exact .inr (by rw[z];exact fsl)
 ·exact .inr (by rw[z];exact fgi)
 ·exact .inr (by rw[z];exact fno)
 ·exact .inr (by rw[z];exact fsa)
 ·exact .inr (by rw[z];exact hco)
end
section
variable {x:ag}{a:RAd}{C:List Cs}{s:RSt}{E:XK}
theorem Kl{P:Str->Option af}(T:Txt K P t)(R:RnAt t H x a C s)(h2:∀c∈C,XJ c)(h3:yr s.sl)(q1:∀H',vb C s=ai->Same H H'->Q .non H')(q2:∀p q H',vb C s=aa p->Same H H'->H' q=aa (.tup [.str p.1,.int p.2])->Q (.ref q) H') :
  Xs K t { nx:=λ_ H'=>Q .non H',rt:=Q } (L2.start ["self","place"] [.ref x]) H:=by
 have F:=rnF T
 refine⟨_,rfl,x,_,_,rfl,R.ix,rfl,x,a,C,s,rfl,R,λH1 s1=>⟨_,rfl,?_⟩⟩
 show if _ then _ else _
 have R1:=R.same s1
 by_cases ho:yh C s=ae
 ·rw[ap ho]
  show if _ then _ else _
  rw[ap rfl]
  exact q1 H1 (by unfold vb;rw[ap ho]) s1
 rw[ak ho]
 obtain⟨xs,hx,pr⟩:=R1.hc
 have lx:=bM pr
 have lt:=Yz ho
 have hc:C[s.n]?=aa C[s.n]:=ba lt
 have hv:xs[s.n]?=aa xs[s.n]:=ba (by lia)
 have cv:=yo pr hv hc
 have ok:=h2 _ (dM lt)
 have es:vb C s=wx C[s.n] s:=by unfold vb;rw[ak ho,hc];rfl
 rw[es] at q1 q2
 obtain⟨p,zs,hd,ev,hp,h0,ht,hnt⟩:=zhc cv
 unfold zA tOp
 refine vD rfl R1.ix F.cl F.n1 rfl (vD rfl R1.ix F.cl F.n2 rfl ⟨_,xs,_,_,rfl,rfl,SqL.of hx,x8 hv,p,zs,0,_,ev,rfl,SqT.of hp,h0,rfl,_,rfl,?_⟩)
 show if _ then _ else _
 by_cases hh:hd=bg "take"
 case neg =>
  rw[ap (by rw[decide_eq_false (λz=>hh (V.str.inj z))];rfl)]
  exact q1 H1 (hnt hh s) s1
 rw[ak (by rw[hh];decide)]
 obtain⟨sh,e,sl,te,ec,a1,a2,ht⟩:=ht hh
 rw[ec] at q1 q2 ok
 unfold XJ xV at ok
 refine⟨_,rfl,x,_,_,rfl,R1.ix,rfl,?_⟩
 unfold zb tOp
 refine vD rfl R1.ix F.cl F.n1 rfl (vD rfl R1.ix F.cl F.n2 rfl ⟨_,xs,_,_,rfl,rfl,SqL.of hx,x8 hv,?_⟩)
 refine⟨x,p,zs,sh,te,e,a,C,s,by rw[ev];rfl,R1,h3,hp,a1,a2,ht,ok,λi q H2 hk s2 hq=>?_,λer H2 hk s2=>?_⟩
 case refine_2 =>
  have q':=q1 H2 (by unfold wx;simp only[hk]) (s1.trans s2)
  cases er with
  | nought=>exact⟨t.c_Nought,rfl,T.m_Nought_Great_Nought,q'⟩
  | great=>exact⟨t.c_Great,rfl,T.m_Great_Great_Nought,q'⟩
  | stuck=>trivial
 have R2:=R1.same s2
 have g1:DGet H2 a.gi (.ref q) ((zq s.gi (sh,i)).map V.int):=.inr ⟨dOf s.gi,zI (sh,i),q,.inl R2.hg,rfl,hq,(xM _ _).symm⟩
 have g2:DGet H2 a.no (.ref q) ((zq s.no (sh,i)).map V.int):=.inr ⟨dOf s.no,zI (sh,i),q,.inl R2.hn,rfl,hq,(xM _ _).symm⟩
 refine⟨_,rfl,?_⟩
 refine vD rfl R2.ix F.cl F.n5 rfl ⟨_,_,rfl,g1,_,rfl,?_⟩
 show if _ then _ else _
 cases hg:zq s.gi (sh,i) with
 | some j =>
  rw[ap (by rfl)]
  show if _ then _ else _
  rw[ap rfl]
  exact q1 H2 (by unfold wx;simp only[hk,hg];rfl) (s1.trans s2)
 | none =>
  rw[ak (by decide)]
  refine⟨_,rfl,?_⟩
  refine vD rfl R2.ix F.cl F.n6 rfl ⟨_,_,rfl,g2,_,rfl,?_⟩
  show if _ then _ else _
  cases hn:zq s.no (sh,i) with
  | some j =>
   rw[ap (by rfl)]
   exact q1 H2 (by unfold wx;simp only[hk,hg,hn];rfl) (s1.trans s2)
  | none =>
   rw[ak (by decide)]
   refine⟨_,rfl,?_⟩
   exact q2 (sh,i) q H2 (by unfold wx;simp only[hk,hg,hn];rfl) (s1.trans s2) hq
end
section
variable {l tl:ag}{xs:List V}{C:List Cs}{rows:List Row}
theorem zgh(h1:H l=aa (.lst xs))(h2:Paired (CsAt H) xs C)(O:JZ C)(h4:LsAt H tl rows)(h5:rows.length<=500)(h6:∀r∈rows,inW r.2=ae)(q:∀r s H',Same H H'->FedR C rows s->PpAt H H' r s->Q (.ref r) H') :
  zd7 K t { nx:=λ_ H'=>Q .non H',rt:=Q } (L2.start ["code","table","run","place"] [.ref l,.ref tl]) H:=by
 refine⟨_,rfl,λx dx hx hd n=>?_⟩
 have hdx:H dx=ai:=hd
 have n1:∀b o,H b=aa o->b≠x:=λb o e=>zG e hx
 have n2:∀b o,H b=aa o->b≠dx:=λb o e=>zG e hd
 have s2:Same H (upd (upd H dx (HO.own x)) x (HO.ins t.c_Run dx [])):=λb o e=>by rw[zl (n1 b o e),zl (n2 b o e)];exact e
 refine⟨x,l,dx,xs,C,rfl,zf,s2 _ _ h1,xQ s2 h2,λH3 a k3 R3 fr=>⟨rfl,?_⟩⟩
 obtain⟨s3,ow⟩:=zhj (Same.refl H) hx hd k3 fr
 refine⟨fdI t H l tl x a C (v3 rows),⟨_,0,st0,rfl,⟨_,rfl⟩,s3,R3,rn0,rfl,bq _,cp _⟩,?_⟩
 rintro m σ H4 ⟨k,s,rfl,⟨o,rfl⟩,S⟩
 have lc:=O.le
 have lk:=S.le
 refine⟨_,rfl,x,_,_,rfl,S.R.ix,rfl,x,a,C,s,rfl,S.R,λH5 s5=>⟨_,rfl,?_⟩⟩
 show if _ then _ else _
 have S5:=S.same s5
 cases ho:yh C s with
 | true =>
  rw[ak (by decide)]
  have l2:=S.I.ok.l2
  have l3:=S.I.ok.l3
  refine⟨_,rfl,x,_,_,rfl,S5.R.ix,rfl,x,a,C,s,rfl,S5.R,by lia,S.I.ok.nd,by lia,λH6 z=>(by rw[ho] at z;cases z),λr o' nl gl out H6 _ s6 fn fg _ hr oc hn hg gi=>?_⟩
  exact q r s H6 (S5.sm.trans s6) ⟨ho,⟨k,S.rc⟩,⟨k,S.le,S.I⟩,bR S.fw S.le⟩ ⟨o',nl,gl,out,hr,oc,hn,hg,gi,zD S5.sm fn,zD S5.sm fg⟩
 | false =>
  rw[ap (by decide)]
  refine⟨fdI t H l tl x a C (v3 rows) (C.length - (k + 1)),λσ' H' z=>⟨_,?_,z⟩,?_⟩
  ·have:=Yz (C:=C) (s:=s) (by rw[ho];decide)
   have wn:s.why=ai:=by
    cases e:s.why with
    | none=>rfl
    | some v=>rw[show yh C s=ae by unfold yh;rw[e];rfl] at ho;cases ho
   have:=S.I.at_ wn
   lia
  refine⟨_,rfl,x,_,_,rfl,S5.R.ix,rfl,x,a,C,s,rfl,S5.R,O.ok,S.I.ok.so,λH6 ha s6=>?_,λp q1 H6 ha s6 hq=>?_⟩
  ·have S6:=S5.same s6
   have ew:ZW C (v3 rows) s=0:=by unfold ZW;rw[ha]
   refine⟨_,rfl,x,_,_,rfl,S6.R.ix,rfl,_,rfl,rfl,_,rfl,?_⟩
   show if _ then _ else _
   rw[ap (decide_eq_true rfl)]
   refine⟨x,0,k,a,C,s,rfl,S6.R,O.ok,S.I.ok,by lia,λH7 k7 R7=>?_⟩
   rw[<-ew] at R7
   exact⟨k + 1,_,rfl,⟨_,rfl⟩,S6.step O ow ho (by rw[ew];rfl) k7 R7⟩
  ·have S6:=S5.same s6
   have ew:ZW C (v3 rows) s=v3 rows p:=by unfold ZW;rw[ha]
   refine⟨_,rfl,x,_,_,rfl,S6.R.ix,rfl,_,rfl,rfl,_,rfl,?_⟩
   show if _ then _ else _
   rw[ak (by rw[decide_eq_true_eq];exact λz=>nomatch z)]
   refine⟨_,rfl,_,rfl,tl,q1,rows,p,rfl,xm h4 S6.sm,h5,hq,λH7 s7=>?_⟩
   have S7:=S6.same s7
   refine⟨x,_,k,a,C,s,rfl,S7.R,O.ok,S.I.ok,by lia,λH8 k8 R8=>?_⟩
   have R9:RnAt t H8 x a C (xB C (ZW C (v3 rows) s) s):=by rw[ew];exact R8
   exact⟨k + 1,_,rfl,⟨_,rfl⟩,S7.step O ow ho (by rw[ew];exact Ql h6 p) k8 R9⟩
end
end
section
variable {P:aq}{w:au}{K:bz}{mg:Str->Option af}{base:aw}{t:Adr}
theorem zw(T:Txt K mg t):FnOk P w K mg base (CX1 P w) 1 t.a0 t.d0 ["cell","j"] (zk):=by
 refine T.g0.f.okA sc__law_draw λvs H Q E h=>?_
 obtain⟨c,j,rfl,h1,h2,q⟩:=h
 exact⟨rfl,λ_ _ _ _ hr=>⟨kG K t,(zg (zy (i:=2) sc__law_draw.nd rfl (cu rfl) (zp zX (zp zQ (zp wP (zp zX (pv 0) (ze (i:=1000000007))) (ze (i:=6700417))) (zp wP (zp wP (zp zQ (pv 1) (ze (i:=1))) (ze (i:=104729))) (ze (i:=65537)))) (ze (i:=1000000009))))
  (zh (zu (zp zc6 (zp zX (zp wP (zp zX (zp wP (pv 2) (pv 2)) (ze (i:=1000000009))) (pv 2)) (ze (i:=1000000009))) (ze (i:=32)))))),Vy h1 h2 q⟩⟩
theorem ZB(T:Txt K mg t):FnOk P w K mg base (CX1 P w) 2 t.a1 t.d1 ["cell","many"] (xK):=by
 refine T.g1.f.okA sc__law_names λvs H Q E h=>?_
 obtain⟨c,m,rfl,h1,h2,q⟩:=h
 exact⟨rfl,λ_ _ _ _ hr=>⟨jp K t,(zg (zy (i:=2) sc__law_names.nd rfl (cu rfl) (zp zQ (ze (i:=1)) (zp zX (pcG (zw T) T.g0 hr zr (za (pv 0) (za (ze (i:=1)) zd))) (ze (i:=6)))))
  (zg (zy (i:=3) sc__law_names.nd rfl (iO rfl) (zK (x:="zyxwvtsrqpnmlkjhgfdcb")))
  (zg (zT (zv yE (pv 2) (ze (i:=6)) (zE _)) (zh (zy (i:=3) sc__law_names.nd rfl (iO rfl) (zK (x:="zyxwvutsrqponmlkjihgfedcba"))))
    zF)
  (zg (zy (i:=4) sc__law_names.nd rfl (iO rfl) (zK (x:="")))
  (zg (xp cT rfl (vL rfl T.b_range (za (pv 2) zd)) (z0 (i:=5) sc__law_names.nd rfl (cu rfl)) (zh (zy (i:=4) sc__law_names.nd rfl (iO rfl) (zp xR (pv 4) (zx Wd (pv 3) (zp zX (pcG (zw T) T.g0 hr zr (za (pv 0) (za (zp zQ (ze (i:=2)) (pv 5)) zd))) (zM ye rfl T.b_len yX (za (pv 3) zd))) (λ_ _=>rfl))))))
  (zg (zy (i:=6) sc__law_names.nd rfl (iO rfl) (zp zX (pcG (zw T) T.g0 hr zr (za (pv 0) (za (ze (i:=8)) zd))) (pv 2)))
  (zg (zy (i:=7) sc__law_names.nd rfl (cu rfl) (zp zX (pcG (zw T) T.g0 hr zr (za (pv 0) (za (ze (i:=9)) zd))) (zM ye rfl T.b_len yX (za (pv 3) zd))))
  (zg (zy (i:=3) sc__law_names.nd rfl (iO rfl) (zp xR (xH JE (pv 3) (x6 (pv 7)) vF) (xH JE (pv 3) vF (x6 (pv 7)))))
  (zh (zu (ke rfl (osc:=zj vH) (N:=["cell","many","size","signs","stem","k","at","turn"]) (xs:=["k"]) (ix:=[4,6,3]) (by decide +kernel) (vL rfl T.b_range (za (pv 1) zd)) (λ_ _ _ _=>(z0 (i:=0) (show ff (["k","stem","at","signs"]:List Str) from (by decide +kernel)) rfl (cu rfl) (.inr rfl))) (λ_ _ _ _=>Zb) (λ_ _ _ _=>(zp xR (zp xR (xH JE (pv 1) vF (x6 (pv 2))) (zx Wd (pv 3) (pv 0) (λ_ _=>rfl))) (xH JE (pv 1) (x6 (zp zQ (pv 2) (ze (i:=1)))) vF)))))))))))))),WU h1 h2 q⟩⟩
theorem XW(T:Txt K mg t):FnOk P w K mg base (CX1 P w) 3 t.a2 t.d2 ["cell","many"] (vm):=by
 refine T.g2.f.okA sc__law_shelves λvs H Q E h=>?_
 obtain⟨c,rfl,q⟩:=h
 exact⟨rfl,λ_ _ _ _ hr=>⟨vq K t,(zg (zT (zv zcS (zp zX (pcG (zw T) T.g0 hr zr (za (pv 0) (za (ze (i:=11)) zd))) (ze (i:=3))) (ze (i:=0)) (zE _)) (zh (zu (pcG (ZB T) T.g1 hr zr (za (pv 0) (za (pv 1) zd)))))
   zF)
  (zg (zy (i:=2) sc__law_shelves.nd rfl (cu rfl) (zK (x:="zyxwvtsrqpnmlkjhgfdcb")))
  (zg (zy (i:=3) sc__law_shelves.nd rfl (cu rfl) (zp xR (zx Wd (pv 2) (zp zX (pcG (zw T) T.g0 hr zr (za (pv 0) (za (ze (i:=12)) zd))) (ze (i:=21))) (λ_ _=>rfl)) (zx Wd (pv 2) (zp zX (pcG (zw T) T.g0 hr zr (za (pv 0) (za (ze (i:=13)) zd))) (ze (i:=21))) (λ_ _=>rfl))))
  (zg (zy (i:=4) sc__law_shelves.nd rfl (cu rfl) (zx Wd (pv 2) (zp zX (pcG (zw T) T.g0 hr zr (za (pv 0) (za (ze (i:=14)) zd))) (ze (i:=21))) (λ_ _=>rfl)))
  (zg (zy (i:=5) sc__law_shelves.nd rfl (iO rfl) (yR (za (pv 3) (za (zp xR (pv 4) (pv 3)) (za (zfH (pv 3) (zgk zcQ (ze (i:=1)))) (za (zp xR (pv 3) (pv 4)) zd))))))
  (zg (zy (i:=6) sc__law_shelves.nd rfl (iO rfl) (zp zX (pcG (zw T) T.g0 hr zr (za (pv 0) (za (ze (i:=15)) zd))) (ze (i:=4))))
  (zh (zu (ke rfl (osc:=zj wf) (N:=["cell","many","signs","stem","more","some","turn"]) (xs:=["k"]) (ix:=[5,6]) (by decide +kernel) (vL rfl T.b_range (za (pv 1) zd)) (λ_ _ _ _=>(z0 (i:=0) (show ff (["k","some","turn"]:List Str) from (by decide +kernel)) rfl (cu rfl) (.inr rfl))) (λ_ _ _ _=>Zb) (λ_ _ _ _=>(zx yc (pv 1) (zp zX (zp zQ (pv 2) (pv 0)) (ze (i:=4))) (λ_ _=>rfl)))))))))))),Xb q⟩⟩
theorem wt(T:Txt K mg t):FnOk P w K mg base (CX1 P w) 2 t.a3 t.d3 ["cell","j"] (yu):=by
 refine T.g3.f.okA WL λvs H Q E h=>?_
 obtain⟨c,j,rfl,h1,h2,q⟩:=h
 exact⟨rfl,λ_ _ _ _ hr=>⟨vV K t,(zg (zT (zv yE (zp zX (pcG (zw T) T.g0 hr zr (za (pv 0) (za (pv 1) zd))) (ze (i:=12))) (ze (i:=0)) (zE _)) (zh (zu (zp j5 (zp zX (zp zQ (zp wP (zp wP (zp zX (pv 0) (zp Wb (ze (i:=10)) (ze (i:=40)))) (zp zQ (pv 1) (ze (i:=2)))) (ze (i:=1000003))) (pv 1)) (zp zQ (zp wP (ze (i:=2)) (zp Wb (ze (i:=10)) (ze (i:=30)))) (ze (i:=1)))) (zp Wb (ze (i:=10)) (ze (i:=30))))))
   zF)
  (zh (zu (zp j5 (zp zX (pcG (zw T) T.g0 hr zr (za (pv 0) (za (zp zQ (pv 1) (ze (i:=1))) zd))) (ze (i:=7))) (ze (i:=2)))))),XU h1 h2 q⟩⟩
theorem VG(T:Txt K mg t):FnOk P w K mg base (CX1 P w) 3 t.a4 t.d4 ["cell","shelves","wide"] (jm):=by
 refine T.g4.f.okA sc__law_table λvs H Q E h=>?_
 obtain⟨c,b,wd,us,rfl,h1,h2,h3,h4,q⟩:=h
 exact⟨rfl,λ_ _ _ _ hr=>⟨jq K t,(zg (zy (i:=3) sc__law_table.nd rfl (cu rfl) qi)
  (zg (xp cT rfl (vL rfl T.b_range (za (zp zX (pcG (zw T) T.g0 hr zr (za (pv 0) (za (ze (i:=20)) zd))) (ze (i:=9))) zd)) (z0 (i:=4) sc__law_table.nd rfl (cu rfl)) (zg (zy (i:=5) sc__law_table.nd rfl (cu rfl) (pcG (wt T) T.g3 hr zr (za (pv 0) (za (zp zQ (ze (i:=30)) (zp wP (ze (i:=3)) (pv 4))) zd))))
  (zh (zT (zv Xe (pv 5) (ze (i:=0)) (zE _)) (zh (x9 (yW hr) (pv 3) (yb (za (zx yc (pv 1) (zp zX (pcG (zw T) T.g0 hr zr (za (pv 0) (za (zp zQ (ze (i:=60)) (pv 4)) zd))) (ze (i:=3))) (λ_ _=>rfl)) (za (zp zX (pcG (zw T) T.g0 hr zr (za (pv 0) (za (zp zQ (ze (i:=70)) (pv 4)) zd))) (pv 2)) zd))) (pv 5) rfl))
    zF))))
  (zh (zu (zM (jc rfl (hu3 hr)) rfl T.b_sorted Zc (za (Yq (pv 3)) zd)))))),W9 h1 h2 h3 h4 q⟩⟩
theorem ZC(T:Txt K mg t):FnOk P w K mg base (CX1 P w) 1 t.a5 t.d5 ["order","many"] (xL):=by
 refine T.g5.f.okB Vm λvs H Q E h=>?_
 obtain⟨l,n,os,rfl,h1,h2,h3,q⟩:=h
 exact⟨rfl,λ_ _ _ _ hr=>⟨jr K t E,(zh (zT (zv (Wz (zap hr)) (zM (JV rfl (hu3 hr)) rfl T.b_sorted Zc (za (pv 0) zd)) (zbC rfl rfl T.b_list rfl T.b_range (za (pv 1) zd)) (zE _)) (zh (Wp rfl T.x_NoOrder JF rfl T.g_NoOrder (za (zfD (pv 1)) zd)))
   zF)),W8 h1 h2 h3 q⟩⟩
theorem Q1(T:Txt K mg t):FnOk P w K mg base (CX1 P w) 1 t.a6 t.d6 ["self","code"] (Xm t):=by
 refine T.f_Run_init.ok0 Qq (λvs H Q E h=>?_) (λcdv A outer s H vs Q E hr h=>?_)
 ·obtain⟨x,l,dx,xs,C,rfl,_⟩:=h;rfl
 obtain⟨x,l,dx,xs,C,rfl,h1,h2,h3,q⟩:=h
 exact⟨Xr K t,(zg (wC (f:="code") (pv 0) (yM vG rfl T.b_list wO (za (pv 1) zd)) rfl)
  (zg (wC (f:="at") (pv 0) (ze (i:=0)) rfl)
  (zg (wC (f:="why") (pv 0) wB rfl)
  (zg (wC (f:="slots") (pv 0) Wj rfl)
  (zg (wC (f:="gifts") (pv 0) qi rfl)
  (zg (wC (f:="notes") (pv 0) qi rfl)
  (zh (wC (f:="sayings") (pv 0) (yR zd) rfl)))))))),Kk (rnF T) h1 h2 h3 q⟩
theorem jg(T:Txt K mg t):FnOk P w K mg base (CX1 P w) 1 t.a7 t.d7 ["self"] (xw t):=by
 refine T.g7.f.okA Qr λvs H Q E h=>?_
 obtain⟨x,a,C,s,rfl,h1,q⟩:=h
 exact⟨rfl,λ_ _ _ _ hr=>⟨qG K t,(zh (zu (zcJ (qZ zbb (zZ (f:="why") (pv 0) rfl) wB (zE _)) (Jr (qZ zhE (zZ (f:="at") (pv 0) rfl) (zM ye rfl T.b_len yX (za (zZ (f:="code") (pv 0) rfl) zd)) (zE _)))))),J6 (rnF T) h1 q⟩⟩
theorem Km(T:Txt K mg t):FnOk P w K mg base (CX1 P w) 2 t.a8 t.d8 ["self"] (Yw t):=by
 refine T.g8.f.okA sc_Run_paper λvs H Q E h=>?_
 obtain⟨x,a,C,s,rfl,h1,h2,h3,h4,q1,q2⟩:=h
 exact⟨rfl,λ_ _ _ _ hr=>⟨kH K t,(zg (zT (j3 (xC (jH (pv 0) T.cl_Run T.g7.me (FnOk.mono (jg T) (by decide)) hr T.g7.b .nil zr))) (zh (zu wB))
   zF)
  (zg (zy (i:=1) sc_Run_paper.nd rfl (cu rfl) (yM (kT rfl) rfl T.b_list wO (za (Yq (zZ (f:="notes") (pv 0) rfl)) zd)))
  (zg (zT (zv zbb (zZ (f:="why") (pv 0) rfl) wB (zE _)) (zh (zu (yb (za (yb (za (zK (x:="off")) (za (zZ (f:="why") (pv 0) rfl) zd))) (za (pv 1) (za (yR zd) zd))))))
    zF)
  (zh (zu (yb (za (yb (za (zK (x:="done")) (za (yM Zs rfl T.b_tuple Yk (za (zZ (f:="sayings") (pv 0) rfl) zd)) zd))) (za (pv 1) (za (zM (jc rfl (hu3 hr)) rfl T.b_sorted Zc (za (Yq (zZ (f:="gifts") (pv 0) rfl)) zd)) zd))))))))),VB (rnF T) h1 h2 h3 h4 q1 q2⟩⟩
theorem za1(T:Txt K mg t):FnOk P w K mg base (CX1 P w) 1 t.a9 t.d9 ["word","first","second"] (ZS t):=by
 refine T.g9.f.okB zaG λvs H Q E h=>?_
 obtain⟨w,a,b,rfl,hw,ha,hb,q⟩:=h
 exact⟨rfl,λ_ _ _ _ hr=>⟨ZZ K t E,(zg (zT (zv yE (pv 2) (ze (i:=0)) (zE _)) (zh (Wp rfl T.x_Nought JF rfl T.g_Nought (za (zbm (pv 0)) zd)))
   zF)
  (zh (zu (vN (zv yE (pv 0) (zK (x:="over")) (zE _)) (zp zdd (pv 1) (pv 2)) (zp ze1 (pv 1) (pv 2)))))),Qz hw ha hb q⟩⟩
theorem za2(T:Txt K mg t):FnOk P w K mg base (CX1 P w) 2 t.a10 t.d10 ["word","first","second"] (ZT t):=by
 refine T.g10.f.okB zaH λvs H Q E h=>?_
 obtain⟨w,a,b,rfl,hw,ha,hb,q⟩:=h
 exact⟨rfl,λ_ _ _ _ hr=>⟨Z0 K t E,(zg (zT (zv yE (pv 0) (zK (x:="plus")) (zE _)) (zh (zu (zp zQ (pv 1) (pv 2))))
   zF)
  (zg (zT (zv yE (pv 0) (zK (x:="minus")) (zE _)) (zh (zu (zp j5 (pv 1) (pv 2))))
    zF)
  (zg (zT (zv yE (pv 0) (zK (x:="times")) (zE _)) (zh (zu (zp wP (pv 1) (pv 2))))
    zF)
  (zg (zT (zv yE (pv 0) (zK (x:="under")) (zE _)) (zh (zu (vN (zv Kx (pv 1) (pv 2) (zE _)) (ze (i:=1)) (ze (i:=0)))))
    zF)
  (zg (zT (zv yE (pv 0) (zK (x:="same")) (zE _)) (zh (zu (vN (zv yE (pv 1) (pv 2) (zE _)) (ze (i:=1)) (ze (i:=0)))))
    zF)
  (zh (zu (pcG (za1 T) T.g9 hr yI (za (pv 0) (za (pv 1) (za (pv 2) zd))))))))))),QA hw ha hb q⟩⟩
theorem Q2(T:Txt K mg t):FnOk P w K mg base (CX1 P w) 1 t.a11 t.d11 ["thing"] (qD):=by
 refine T.g11.f.okA Qs λvs H Q E h=>?_
 obtain⟨i,rfl,q⟩:=h
 exact⟨rfl,λ_ _ _ _ hr=>⟨qJ K t,(zg (zT (PW.pt (X8 (j3 (xC (zM wX rfl T.b_isinstance yA (za (pv 0) (za (v4 rfl T.b_int zgS rfl) zd))))) (X7 (xC (zM wX rfl T.b_isinstance yA (za (pv 0) (za (v4 rfl T.b_bool zfc rfl) zd))))))) (zh (zu (vA (b:=ao))))
   zF)
  (zh (zu (zcT zgl zgl (zgk zcQ (zp Wb (ze (i:=10)) (ze (i:=30)))) (pv 0) (zp Wb (ze (i:=10)) (ze (i:=30))))))),J3 (kf K).i_b q⟩⟩
theorem zcG(T:Txt K mg t):FnOk P w K mg base (CX1 P w) 3 t.a12 t.d12 ["word","first","second"] (YW t):=by
 refine T.g12.f.okB sc_joined λvs H Q E h=>?_
 obtain⟨w,a,b,rfl,hw,ha,hb,q⟩:=h
 exact⟨rfl,λ_ _ _ _ hr=>⟨YX K t E,(zg (zy (i:=3) sc_joined.nd rfl (cu rfl) (pcG (za2 T) T.g10 hr yI (za (pv 0) (za (pv 1) (za (pv 2) zd)))))
  (zg (zT (j3 (xC (pcG (Q2 T) T.g11 hr yI (za (pv 3) zd)))) (zh (Wp rfl T.x_Great JF rfl T.g_Great (za (zbm (pv 0)) zd)))
    zF)
  (zh (zu (pv 3))))),zaO hw ha hb q⟩⟩
theorem Xw(T:Txt K mg t):FnOk P w K mg base (CX1 P w) 4 t.a13 t.d13 ["term","slots"] (va t):=by
 refine T.g13.f.okB sc_reckoned λvs H Q E h=>?_
 obtain⟨kvs,tm,sl,ps,r,rfl,h1,h2,h3,h4,h5,h6,q⟩:=h
 exact⟨rfl,λ_ _ _ _ hr=>⟨qK K t E,(zg (zy (i:=2) sc_reckoned.nd rfl (cu rfl) (yR zd))
  (zg (xp zfd rfl (zgK (pv 0)) (z0 (i:=3) sc_reckoned.nd rfl (cu rfl)) (zh (zT (zv zb5 (pv 3) (zeX rfl T.g_JOINING rfl) (by with_unfolding_all rfl)) (zg (zy (i:=4) sc_reckoned.nd rfl (cu rfl) (zak cx iH iI zam (pv 2)))
  (zg (zy (i:=5) sc_reckoned.nd rfl (cu rfl) (zak cx iH iI zam (pv 2)))
  (zh (yU (qg cx cN cO xc (pv 2) (za (pcG (zcG T) T.g12 hr yI (za (pv 3) (za (pv 5) (za (pv 4) zd)))) zd))))))
   (zh (yU (qg cx cN cO xc (pv 2) (za (vN (xC (zM wX rfl T.b_isinstance yA (za (pv 3) (za (v4 rfl T.b_str zgR rfl) zd)))) (Wk (yW hr) (pv 1) (pv 3) (ze (i:=0)) ⟨rfl,rfl,rfl,rfl⟩) (pv 3)) zd)))))))
  (zh (zu (zak cx iH iI zam (pv 2)))))),J4 (kf K).i_s T.v_JOINING h1 h2 h3 h4 h5 h6 q⟩⟩
theorem yO(T:Txt K mg t):FnOk P w K mg base (CX1 P w) 5 t.a14 t.d14 ["self","term"] (yd t):=by
 refine T.g14.f.okB XE λvs H Q E h=>?_
 obtain⟨x,tm,e,a,C,s,rfl,h1,h2,h3,h4,q⟩:=h
 exact⟨rfl,λ_ _ _ _ hr=>⟨vt K t E,(zh (zu (pcG (Xw T) T.g13 hr yI (za (pv 1) (za (zZ (f:="slots") (pv 0) rfl) zd))))),Y7 (rnF T) h1 h2 h3 h4 q⟩⟩
theorem vz(T:Txt K mg t):FnOk P w K mg base (CX1 P w) 6 t.a15 t.d15 ["self","due"] (y9 t):=by
 refine T.g15.f.okB XG λvs H Q E h=>?_
 obtain⟨x,p,xs,sh,te,e,a,C,s,rfl,h1,h2,h3,h4,h5,h6,h7,q1,q2⟩:=h
 exact⟨rfl,λ_ _ _ _ hr=>⟨vx K t E,(zh (zu (yb (za (zx zC (pv 1) (ze (i:=1)) (λ_ _=>rfl)) (za (yx (pv 0) T.cl_Run T.g14.me (FnOk.mono (yO T) (by decide)) hr T.g14.b .nil yI (za (zx zC (pv 1) (ze (i:=2)) (λ_ _=>rfl)) zd)) zd))))),Y8 (rnF T) h1 h2 h3 h4 h5 h6 h7 q1 q2⟩⟩
theorem Q3(T:Txt K mg t):FnOk P w K mg base (CX1 P w) 7 t.a16 t.d16 ["self"] (Xp t):=by
 refine T.g16.f.okA sc_Run_asks λvs H Q E h=>?_
 obtain⟨x,a,C,s,rfl,h1,h2,h3,q1,q2⟩:=h
 exact⟨rfl,λ_ _ _ _ hr=>⟨Xs K t,(zg (zT (PW.pt (X8 (xC (jH (pv 0) T.cl_Run T.g7.me (FnOk.mono (jg T) (by decide)) hr T.g7.b .nil zr)) (X7 (zv Xe (zx zC (zx yc (zZ (f:="code") (pv 0) rfl) (zZ (f:="at") (pv 0) rfl) (λ_ _=>rfl)) (ze (i:=0)) (λ_ _=>rfl)) (zK (x:="take")) (zE _))))) (zh (zu wB))
   zF)
  (zg (zfG (And.intro rfl rfl) rfl (zbo (i:=1) sc_Run_asks.nd rfl (cu rfl) (WB (pv 0) T.cl_Run T.g15.me (FnOk.mono (vz T) (by decide)) hr T.g15.b (za (zx yc (zZ (f:="code") (pv 0) rfl) (zZ (f:="at") (pv 0) rfl) (λ_ _=>rfl)) zd))) rfl T.g_Great rfl T.g_Nought (λ_=>(zh (zu wB))))
  (zg (zT (PW.pt (X8 (zv (Zf (yW hr)) (pv 1) (zZ (f:="gifts") (pv 0) rfl) (by with_unfolding_all rfl)) (X7 (zv (Zf (yW hr)) (pv 1) (zZ (f:="notes") (pv 0) rfl) (by with_unfolding_all rfl))))) (zh (zu wB))
    zF)
  (zh (zu (pv 1)))))),Kl T h1 h2 h3 q1 q2⟩⟩
theorem Kn(T:Txt K mg t):FnOk P w K mg base (CX1 P w) 1 t.a17 t.d17 ["self","place","worth"] (Yv t):=by
 refine T.g17.f.okA JX λvs H Q E h=>?_
 obtain⟨x,q,p,w,a,C,s,rfl,h1,h2,h3,q⟩:=h
 exact⟨rfl,λ_ _ _ _ hr=>⟨kI K t,(zg (zT (zv (Zf (yW hr)) (pv 1) (zZ (f:="gifts") (pv 0) rfl) (by with_unfolding_all rfl)) (zh (zu (q9 (yW hr) (zZ (f:="gifts") (pv 0) rfl) (pv 1) (λ_ _=>rfl))))
   zF)
  (zg (zT (zv (zaz (yW hr)) (pv 1) (zZ (f:="notes") (pv 0) rfl) (by with_unfolding_all rfl)) (zh (x9 (yW hr) (zZ (f:="notes") (pv 0) rfl) (pv 1) (pv 2) rfl))
    zF)
  (zh (zu (q9 (yW hr) (zZ (f:="notes") (pv 0) rfl) (pv 1) (λ_ _=>rfl)))))),VA (rnF T) h1 h2 h3 q⟩⟩
theorem Q4(T:Txt K mg t):FnOk P w K mg base (CX1 P w) 7 t.a18 t.d18 ["self","due","worth"] (Xn t):=by
 refine T.g18.f.okB sc_Run_does λvs H Q E h=>?_
 obtain⟨x,v,r,w,m,a,C,s,rfl,h1,h2,h3,h4,h5,h6,q1,q2⟩:=h
 exact⟨rfl,λ_ _ _ _ hr=>⟨Xt K t E,(zh (zT (zv yE (zx zC (pv 1) (ze (i:=0)) (λ_ _=>rfl)) (zK (x:="take")) (zE _)) (zh (x9 (yW hr) (zZ (f:="slots") (pv 0) rfl) (zx zC (pv 1) (ze (i:=3)) (λ_ _=>rfl)) (yx (pv 0) T.cl_Run T.g17.me (FnOk.mono (Kn T) (by decide)) hr T.g17.b .nil yI (za (yx (pv 0) T.cl_Run T.g15.me (FnOk.mono (vz T) (by decide)) hr T.g15.b .nil yI (za (pv 1) zd)) (za (pv 2) zd))) rfl))
   (zh (zT (zv yE (zx zC (pv 1) (ze (i:=0)) (λ_ _=>rfl)) (zK (x:="give")) (zE _)) (zg (zy (i:=3) sc_Run_does.nd rfl (cu rfl) (yx (pv 0) T.cl_Run T.g15.me (FnOk.mono (vz T) (by decide)) hr T.g15.b .nil yI (za (pv 1) zd)))
  (zh (x9 (yW hr) (zZ (f:="gifts") (pv 0) rfl) (pv 3) (yx (pv 0) T.cl_Run T.g14.me (FnOk.mono (yO T) (by decide)) hr T.g14.b .nil yI (za (zx zC (pv 1) (ze (i:=3)) (λ_ _=>rfl)) zd)) rfl)))
   (zh (zT (zv yE (zx zC (pv 1) (ze (i:=0)) (λ_ _=>rfl)) (zK (x:="let")) (zE _)) (zh (x9 (yW hr) (zZ (f:="slots") (pv 0) rfl) (zx zC (pv 1) (ze (i:=1)) (λ_ _=>rfl)) (yx (pv 0) T.cl_Run T.g14.me (FnOk.mono (yO T) (by decide)) hr T.g14.b .nil yI (za (zx zC (pv 1) (ze (i:=2)) (λ_ _=>rfl)) zd)) rfl))
   (zh (yU (qg cx cN cO xc (zZ (f:="sayings") (pv 0) rfl) (za (yx (pv 0) T.cl_Run T.g14.me (FnOk.mono (yO T) (by decide)) hr T.g14.b .nil yI (za (zx zC (pv 1) (ze (i:=1)) (λ_ _=>rfl)) zd)) zd)))))))))),Kj (rnF T) h1 h2 h3 h4 h5 h6 q1 q2⟩⟩
theorem VH(T:Txt K mg t):FnOk P w K mg base (CX1 P w) 8 t.a19 t.d19 ["self","due","worth"] (jk t):=by
 refine T.g19.f.okB Vn λvs H Q E h=>?_
 obtain⟨x,v,c,w,m,a,C,s,rfl,h1,h2,h3,h4,h5,q1,q2⟩:=h
 exact⟨rfl,λ_ _ _ _ hr=>⟨Zy K t E,(zg (zT (zv yE (zx zC (pv 1) (ze (i:=0)) (λ_ _=>rfl)) (zK (x:="go")) (zE _)) (zh (zu (zx zC (pv 1) (ze (i:=1)) (λ_ _=>rfl))))
   zF)
  (zg (zT (zv yE (zx zC (pv 1) (ze (i:=0)) (λ_ _=>rfl)) (zK (x:="skip")) (zE _)) (zh (zu (vN (zv yE (yx (pv 0) T.cl_Run T.g14.me (FnOk.mono (yO T) (by decide)) hr T.g14.b .nil yI (za (zx zC (pv 1) (ze (i:=1)) (λ_ _=>rfl)) zd)) (ze (i:=0)) (zE _)) (zx zC (pv 1) (ze (i:=2)) (λ_ _=>rfl)) (zp zQ (zZ (f:="at") (pv 0) rfl) (ze (i:=1))))))
    zF)
  (zg (zT (zv yE (zx zC (pv 1) (ze (i:=0)) (λ_ _=>rfl)) (zK (x:="off")) (zE _)) (zh (zT (zv Xe (yx (pv 0) T.cl_Run T.g14.me (FnOk.mono (yO T) (by decide)) hr T.g14.b .nil yI (za (zx zC (pv 1) (ze (i:=1)) (λ_ _=>rfl)) zd)) (ze (i:=0)) (zE _)) (zh (wC (f:="why") (pv 0) (zK (x:="told")) rfl))
    zF))
    (zh (yU (yx (pv 0) T.cl_Run T.g18.me (FnOk.mono (Q4 T) (by decide)) hr T.g18.b .nil yI (za (pv 1) (za (pv 2) zd))))))
  (zh (zu (zp zQ (zZ (f:="at") (pv 0) rfl) (ze (i:=1)))))))),Ve (rnF T) h1 h2 h3 h4 h5 q1 q2⟩⟩
theorem Q5(T:Txt K mg t):FnOk P w K mg base (CX1 P w) 9 t.a20 t.d20 ["self","worth"] (Xo t):=by
 refine T.f_Run_step.ok0 Qt (λvs H Q E h=>?_) (λcdv A outer s H vs Q E hr h=>?_)
 ·obtain⟨x,w,m,a,C,s,rfl,_⟩:=h;rfl
 obtain⟨x,w,m,a,C,s,rfl,h1,h2,h3,h4,q⟩:=h
 exact⟨qL K t,(zg (zT (xC (jH (pv 0) T.cl_Run T.g7.me (FnOk.mono (jg T) (by decide)) hr T.g7.b .nil zr)) (zh zeZ)
   zF)
  (zh (Qe (And.intro rfl rfl) rfl (zfF (f:="at") (pv 0) (WB (pv 0) T.cl_Run T.g19.me (FnOk.mono (VH T) (by decide)) hr T.g19.b (za (zx yc (zZ (f:="code") (pv 0) rfl) (zZ (f:="at") (pv 0) rfl) (λ_ _=>rfl)) (za (pv 1) zd))) rfl) rfl T.g_Great rfl T.g_Nought (λ_=>(zh (wC (f:="why") (pv 0) (zK (x:="great")) rfl))) (λ_=>(zh (wC (f:="why") (pv 0) (zK (x:="nought")) rfl)))))),J7 T h1 h2 h3 h4 q⟩
theorem zcH(T:Txt K mg t):FnOk P w K mg base (CX1 P w) 1 t.a21 t.d21 ["table","place"] (Jf):=by
 refine T.g21.f.okA zct λvs H Q E h=>?_
 obtain⟨l,q0,rows,p,rfl,h1,h2,h3,q⟩:=h
 exact⟨rfl,λ_ _ _ _ hr=>⟨YY K t,(zh (zu (Wk (yW hr) (yM (xP rfl (hu3 hr)) rfl T.b_dict X0 (za (pv 0) zd)) (pv 1) (ze (i:=0)) ⟨rfl,rfl,rfl,rfl⟩))),zaR h1 h2 h3 q⟩⟩
theorem zhA(T:Txt K mg t):FnOk P w K mg base (CX1 P w) 10 t.a22 t.d22 ["code","table"] (zaL t):=by
 refine T.g22.f.okA sc_fed λvs H Q E h=>?_
 obtain⟨l,tl,xs,C,rows,rfl,h1,h2,h3,h4,h5,h6,q⟩:=h
 exact⟨rfl,λ_ _ _ _ hr=>⟨zd7 K t,(zg (zy (i:=2) sc_fed.nd rfl (cu rfl) (zbd T.mk_Run (FnOk.mono (Q1 T) (by decide)) hr rfl T.g_Run T.b_Run_init .nil zr (za (pv 0) zd)))
  (zg (Kv cT (j3 (xC (jH (pv 2) T.cl_Run T.g7.me (FnOk.mono (jg T) (by decide)) hr T.g7.b .nil zr))) (zg (zy (i:=3) sc_fed.nd rfl (cu rfl) (jH (pv 2) T.cl_Run T.g16.me (FnOk.mono (Q3 T) (by decide)) hr T.g16.b .nil zr))
  (zh (yU (yx (pv 2) T.cl_Run T.me_Run_step (FnOk.mono (Q5 T) (by decide)) hr T.b_Run_step .nil zr (za (vN (zv zae (pv 3) wB (zE _)) (ze (i:=0)) (pcG (zcH T) T.g21 hr zr (za (pv 1) (za (pv 3) zd)))) zd))))))
  (zh (zu (jH (pv 2) T.cl_Run T.g8.me (FnOk.mono (Km T) (by decide)) hr T.g8.b .nil zr))))),zgh h1 h2 h3 h4 h5 h6 q⟩⟩
theorem Xx(T:Txt K mg t):FnOk P w K mg base (CX1 P w) 1 t.a23 t.d23 ["rows"] (vc):=by
 refine T.g23.f.okA sc_table_of λvs H Q E h=>?_
 obtain⟨a,rows,rfl,h1,h2,h3,q⟩:=h
 exact⟨rfl,λ_ _ _ _ hr=>⟨jf K t,(zg (zy (i:=1) sc_table_of.nd rfl (iO rfl) (yM (xP rfl (hu3 hr)) rfl T.b_dict X0 (za (pv 0) zd)))
  (zh (zu (ke rfl (osc:=zj ku) (N:=["rows","worths"]) (xs:=["place"]) (ix:=[1]) (by decide +kernel) (yV (zM (JQ rfl) rfl T.b_sorted Zc (za (pv 1) zd))) (λ_ _ _ _=>(z0 (i:=0) (show ff (["place","worths"]:List Str) from (by decide +kernel)) rfl (cu rfl) (.inr rfl))) (λ_ _ _ _=>(JA (zv Xe (q9 (yW hr) (pv 1) (pv 0) (λ_ _=>rfl)) (ze (i:=0)) (zE _)))) (λ_ _ _ _=>(yb (za (pv 0) (za (q9 (yW hr) (pv 1) (pv 0) (λ_ _=>rfl)) zd)))))))),J9 h1 h2 h3 q⟩⟩
theorem za3(T:Txt K mg t):FnOk P w K mg base (CX1 P w) 2 t.a24 t.d24 ["table","gifts"] (ZY):=by
 refine T.g24.f.okA zaI λvs H Q E h=>?_
 obtain⟨a,b,tab,gifts,rfl,h1,h2,h3,h4,q⟩:=h
 exact⟨rfl,λ_ _ _ _ hr=>⟨Z1 K t,(zh (zu (pcG (Xx T) T.g23 hr zr (za (zp j8 (pv 0) (pv 1)) zd)))),QW h1 h2 h3 h4 q⟩⟩
theorem Xy(T:Txt K mg t):FnOk P w K mg base (CX1 P w) 11 t.a25 t.d25 ["codes","table","order"] (vf):=by
 refine T.g25.f.okB sc_in_order λvs H Q E h=>?_
 obtain⟨cl,tl,l,U,CC,tab,os,J,S,rfl,h1,h2,h3,h4,h5,h6,h7,h8,q⟩:=h
 exact⟨rfl,λ_ _ _ _ hr=>⟨qM K t E,(zg (yU (pcG (ZC T) T.g5 hr yI (za (pv 2) (za (zM ye rfl T.b_len yX (za (pv 0) zd)) zd))))
  (zg (zy (i:=3) sc_in_order.nd rfl (iO rfl) Wj)
  (zg (zy (i:=4) sc_in_order.nd rfl (cu rfl) (yM vG rfl T.b_list wO (za (pv 1) zd)))
  (zg (xp zfd rfl (yV (pv 2)) (z0 (i:=5) sc_in_order.nd rfl (cu rfl)) (zg (x9 (yW hr) (pv 3) (pv 5) (pcG (zhA T) T.g22 hr yI (za (zx yc (pv 0) (pv 5) (λ_ _=>rfl)) (za (pv 4) zd))) rfl)
  (zh (zy (i:=4) sc_in_order.nd rfl (cu rfl) (pcG (za3 T) T.g24 hr yI (za (pv 4) (za (zx zC (q9 (yW hr) (pv 3) (pv 5) (λ_ _=>rfl)) (ze (i:=2)) (λ_ _=>rfl)) zd)))))))
  (zh (zu (yb (za (ke rfl (osc:=zj ky) (N:=["codes","table","order","papers","behind","rank"]) (xs:=["rank"]) (ix:=[3]) (by decide +kernel) (vL rfl T.b_range (za (zM ye rfl T.b_len yX (za (pv 0) zd)) zd)) (λ_ _ _ _=>(z0 (i:=0) (show ff (["rank","papers"]:List Str) from (by decide +kernel)) rfl (cu rfl) (.inr rfl))) (λ_ _ _ _=>Zb) (λ_ _ _ _=>(q9 (yW hr) (pv 1) (pv 0) (λ_ _=>rfl)))) (za (pv 4) zd))))))))),Ke h1 h2 h3 h4 h5 h6 h7 h8 q⟩⟩
theorem Xd(T:Txt K mg t):FnOk P w K mg base (CX1 P w) 1 t.a26 t.d26 ["paper"] (wK):=by
 refine T.g26.f.okA YV λvs H Q E h=>?_
 obtain⟨v,p,rfl,h1,q⟩:=h
 exact⟨rfl,λ_ _ _ _ hr=>⟨wL K t,(zh (zu (Q9 (zM wX rfl T.b_isinstance yA (za (pv 0) (za (v4 rfl T.b_tuple Yk rfl) zd))) (Q9 (qZ yE (zM ye rfl T.b_len yX (za (pv 0) zd)) (ze (i:=3)) (zE _)) (Q9 (zM wX rfl T.b_isinstance yA (za (zx zC (pv 0) (ze (i:=1)) (λ_ _=>rfl)) (za (v4 rfl T.b_list wO rfl) zd))) (Jr (zM wX rfl T.b_isinstance yA (za (zx zC (pv 0) (ze (i:=2)) (λ_ _=>rfl)) (za (v4 rfl T.b_list wO rfl) zd))))))))),YE h1 q⟩⟩
theorem YH(T:Txt K mg t):FnOk P w K mg base (CX1 P w) 2 t.a27 t.d27 ["told","many"] (wg):=by
 refine T.g27.f.okA sc__law_papers_of λvs H Q E h=>?_
 obtain⟨r,pl,tl,P,rfl,h1,h2,q⟩:=h
 exact⟨rfl,λ_ _ _ _ hr=>⟨wk K t,(zg (zT (PW.pt (X8 (j3 (xC (zM wX rfl T.b_isinstance yA (za (pv 0) (za (v4 rfl T.b_tuple Yk rfl) zd))))) (X8 (zv Xe (zM ye rfl T.b_len yX (za (pv 0) zd)) (ze (i:=2)) (zE _)) (X8 (j3 (xC (zM wX rfl T.b_isinstance yA (za (zx zC (pv 0) (ze (i:=0)) (λ_ _=>rfl)) (za (v4 rfl T.b_list wO rfl) zd))))) (X7 (zv Xe (zM ye rfl T.b_len yX (za (zx zC (pv 0) (ze (i:=0)) (λ_ _=>rfl)) zd)) (pv 1) (zE _))))))) (zh (zu wB))
   zF)
  (zg (xp cT rfl (yV (zx zC (pv 0) (ze (i:=0)) (λ_ _=>rfl))) (z0 (i:=2) sc__law_papers_of.nd rfl (cu rfl)) (zh (zT (j3 (xC (pcG (Xd T) T.g26 hr zr (za (pv 2) zd)))) (zh (zu wB))
    zF)))
  (zh (zu (zx zC (pv 0) (ze (i:=0)) (λ_ _=>rfl)))))),Yc h1 h2 q⟩⟩
theorem Xz(T:Txt K mg t):FnOk P w K mg base (CX1 P w) 1 t.a28 t.d28 ["one","other"] (qF):=by
 refine T.g28.f.okA sc__law_met λvs H Q E h=>?_
 obtain⟨v,u,a,b,rfl,h1,h2,h3,h4,q⟩:=h
 exact⟨rfl,λ_ _ _ _ hr=>⟨qN K t,(zg (zy (i:=2) sc__law_met.nd rfl (cu rfl) qi)
  (zg (xp cT rfl (yV (zx zC (pv 0) (ze (i:=2)) (λ_ _=>rfl))) (z0 (i:=3) sc__law_met.nd rfl (cu rfl)) (zh (x9 (yW hr) (pv 2) (zx zC (pv 3) (ze (i:=0)) (λ_ _=>rfl)) (vA (b:=ae)) rfl)))
  (zg (zy (i:=4) sc__law_met.nd rfl (cu rfl) qi)
  (zg (xp cT rfl (yV (zx zC (pv 1) (ze (i:=2)) (λ_ _=>rfl))) (z0 (i:=3) sc__law_met.nd rfl (cu rfl)) (zh (x9 (yW hr) (pv 4) (zx zC (pv 3) (ze (i:=0)) (λ_ _=>rfl)) (vA (b:=ae)) rfl)))
  (zg (xp cT rfl (yV (zp j8 (zx zC (pv 1) (ze (i:=1)) (λ_ _=>rfl)) (zx zC (pv 1) (ze (i:=2)) (λ_ _=>rfl)))) (z0 (i:=3) sc__law_met.nd rfl (cu rfl)) (zh (zT (zv (Zf (yW hr)) (zx zC (pv 3) (ze (i:=0)) (λ_ _=>rfl)) (pv 2) (by with_unfolding_all rfl)) (zh (zu (vA (b:=ae))))
    zF)))
  (zg (xp cT rfl (yV (zx zC (pv 0) (ze (i:=1)) (λ_ _=>rfl))) (z0 (i:=3) sc__law_met.nd rfl (cu rfl)) (zh (zT (zv (Zf (yW hr)) (zx zC (pv 3) (ze (i:=0)) (λ_ _=>rfl)) (pv 4) (by with_unfolding_all rfl)) (zh (zu (vA (b:=ae))))
    zF)))
  (zh (zu (vA (b:=ao)))))))))),Kh h1 h2 h3 h4 q⟩⟩
theorem yi(T:Txt K mg t):FnOk P w K mg base (CX1 P w) 1 t.a29 t.d29 ["script","k"] (zR K):=by
 refine T.g29.f.okA XH λvs H Q E h=>?_
 obtain⟨a,ns,k,rfl,hS,hl,q⟩:=h
 exact⟨rfl,λ_ _ _ _ hr=>⟨vy K t,(zg (zT (zv Kx (pv 1) (zM ye rfl T.b_len yX (za (pv 0) zd)) (zE _)) (zh (zu (zx yc (pv 0) (pv 1) (λ_ _=>rfl))))
   zF)
  (zh (zu (ze (i:=0))))),Y6 hS hl q⟩⟩
theorem VI(T:Txt K mg t):FnOk P w K mg base (CX1 P w) 2 t.a30 t.d30 ["script","papers","most"] (jo K):=by
 refine T.g30.f.okA sc__law_order λvs H Q E h=>?_
 obtain⟨a,p,m,ns,P,rfl,h1,h2,h3,h4,q⟩:=h
 exact⟨rfl,λ_ _ _ _ hr=>⟨jz K t,(zg (zy (i:=3) sc__law_order.nd rfl (cu rfl) (yR zd))
  (zg (xp cT rfl (vL rfl T.b_range (za (zM ye rfl T.b_len yX (za (pv 1) zd)) zd)) (z0 (i:=4) sc__law_order.nd rfl (cu rfl)) (zg (zy (i:=5) sc__law_order.nd rfl (cu rfl) (zp zX (pcG (zw T) T.g0 hr zr (za (pcG (yi T) T.g29 hr zr (za (pv 0) (za (pv 4) zd))) (za (ze (i:=203)) zd))) (pv 2)))
  (zg (zy (i:=6) sc__law_order.nd rfl (cu rfl) (pv 4))
  (zg (Kv cT (PW.pt (zgI (zv zcS (pv 6) (ze (i:=0)) (zE _)) (zeY (zv Kx (zp j5 (pv 4) (pv 6)) (pv 5) (zE _))))) (zg (zT (xC (pcG (Xz T) T.g28 hr zr (za (zx yc (pv 1) (zx yc (pv 3) (zp j5 (pv 6) (ze (i:=1))) (λ_ _=>rfl)) (λ_ _=>rfl)) (za (zx yc (pv 1) (pv 4) (λ_ _=>rfl)) zd)))) (zh zcL)
    zF)
  (zh (zy (i:=6) sc__law_order.nd rfl (cu rfl) (zp j5 (pv 6) (ze (i:=1)))))))
  (zh (yU (qg cx PySem.F.slot_list_insert PySem.F.type_list_insert zcr (pv 3) (za (pv 6) (za (pv 4) zd)))))))))
  (zh (zu (pv 3))))),Vb h1 h2 h3 h4 q⟩⟩
theorem Vg(T:Txt K mg t):FnOk P w K mg base (CX1 P w) 2 t.a31 t.d31 ["cell","papers","order"] (vU):=by
 refine T.g31.f.okA sc__law_turned λvs H Q E h=>?_
 obtain⟨c,p,l,P,os,rfl,h1,h2,h3,h4,q1,q2⟩:=h
 exact⟨rfl,λ_ _ _ _ hr=>⟨qO K t,(zg (zy (i:=3) sc__law_turned.nd rfl (cu rfl) (yR zd))
  (zg (xp cT rfl (zbZ rfl T.b_range (za (ze (i:=1)) (za (zM ye rfl T.b_len yX (za (pv 2) zd)) zd))) (z0 (i:=4) sc__law_turned.nd rfl (cu rfl)) (zh (zT (xC (pcG (Xz T) T.g28 hr zr (za (zx yc (pv 1) (zx yc (pv 2) (zp j5 (pv 4) (ze (i:=1))) (λ_ _=>rfl)) (λ_ _=>rfl)) (za (zx yc (pv 1) (zx yc (pv 2) (pv 4) (λ_ _=>rfl)) (λ_ _=>rfl)) zd)))) (zh (yU (qg cx cN cO xc (pv 3) (za (pv 4) zd))))
    zF)))
  (zg (zT (zv (KL (zap hr)) (pv 3) (yR zd) (zE _)) (zh (zu wB))
    zF)
  (zg (zy (i:=4) sc__law_turned.nd rfl (cu rfl) (zx yc (pv 3) (zp zX (pcG (zw T) T.g0 hr zr (za (pv 0) (za (ze (i:=205)) zd))) (zM ye rfl T.b_len yX (za (pv 3) zd))) (λ_ _=>rfl)))
  (zh (zu (zp j8 (zp j8 (xH q8 (pv 2) vF (x6 (zp j5 (pv 4) (ze (i:=1))))) (yR (za (zx yc (pv 2) (pv 4) (λ_ _=>rfl)) (za (zx yc (pv 2) (zp j5 (pv 4) (ze (i:=1))) (λ_ _=>rfl)) zd)))) (xH q8 (pv 2) (x6 (zp zQ (pv 4) (ze (i:=1)))) vF)))))))),XV h1 h2 h3 h4 q1 q2⟩⟩
theorem Vh(T:Txt K mg t)(n:Nat)(IH:FnOk P w K mg base (CX1 P w) (2 + 2 * n) t.a33 t.d33 ["rows","first"] (xv n)):FnOk P w K mg base (CX1 P w) (2 + 2 * n + 1) t.a32 t.d32 ["row","at"] (qE n):=by
 refine T.g32.f.okA sc_block_steps (k:=2 + 2 * n) λvs H Q E h=>?_
 obtain⟨v,e,a,b,k,rfl,h1,h2,h3,h4,q⟩:=h
 exact⟨rfl,λ_ _ _ _ hr=>⟨qP K t n,(zg (zy (i:=2) sc_block_steps.nd rfl (cu rfl) (XZ (FnOk.mono IH (by lia)) hr rfl T.g33.m T.g33.f.kp T.g33.b .nil zr (za (zx zC (pv 0) (ze (i:=2)) (λ_ _=>rfl)) (za (zp zQ (pv 1) (ze (i:=1))) zd))))
  (zg (zy (i:=3) sc_block_steps.nd rfl (cu rfl) (zp zQ (zp zQ (pv 1) (ze (i:=1))) (zM ye rfl T.b_len yX (za (pv 2) zd))))
  (zg (zT (zv (KL (zap hr)) (zx zC (pv 0) (ze (i:=3)) (λ_ _=>rfl)) (yR zd) (zE _)) (zh (zu (zp j8 (yR (za (yb (za (zK (x:="skip")) (za (zx zC (pv 0) (ze (i:=1)) (λ_ _=>rfl)) (za (pv 3) zd)))) zd)) (pv 2))))
    zF)
  (zg (zy (i:=4) sc_block_steps.nd rfl (cu rfl) (XZ (FnOk.mono IH (by lia)) hr rfl T.g33.m T.g33.f.kp T.g33.b .nil zr (za (zx zC (pv 0) (ze (i:=3)) (λ_ _=>rfl)) (za (zp zQ (pv 3) (ze (i:=1))) zd))))
  (zh (zu (zp j8 (zp j8 (zp j8 (yR (za (yb (za (zK (x:="skip")) (za (zx zC (pv 0) (ze (i:=1)) (λ_ _=>rfl)) (za (zp zQ (pv 3) (ze (i:=1))) zd)))) zd)) (pv 2)) (yR (za (yb (za (zK (x:="go")) (za (zp zQ (zp zQ (pv 3) (ze (i:=1))) (zM ye rfl T.b_len yX (za (pv 4) zd))) zd))) zd))) (pv 4)))))))),XT h1 h2 h3 h4 q⟩⟩
theorem Q6(T:Txt K mg t):∀n,FnOk P w K mg base (CX1 P w) (2 + 2 * n) t.a33 t.d33 ["rows","first"] (xv n):=by
 intro n
 induction n with
 | zero=>exact⟨λvs H Q E h=>(Yy h).elim,λA outer s H args us vs Q E hr he hb hv h=>(Yy h).elim⟩
 | succ n IH =>
 refine T.g33.f.okA sc_steps_of (k:=2 + 2 * n + 1) λvs H Q E h=>?_
 obtain⟨v,r,k,rfl,h1,h2,h3,q⟩:=h
 exact⟨rfl,λ_ _ _ _ hr=>⟨Xu K t n,(zg (zy (i:=2) sc_steps_of.nd rfl (cu rfl) (yR zd))
  (zg (xp cT rfl (yV (pv 0)) (z0 (i:=3) sc_steps_of.nd rfl (cu rfl)) (zh (zT (zv yE (zx zC (pv 3) (ze (i:=0)) (λ_ _=>rfl)) (zK (x:="if")) (zE _)) (zh (yU (qg cx PySem.F.slot_list_extend PySem.F.type_list_extend zb7 (pv 2) (za (XZ (FnOk.mono (Vh T n IH) (by lia)) hr rfl T.g32.m T.g32.f.kp T.g32.b .nil zr (za (pv 3) (za (zp zQ (pv 1) (zM ye rfl T.b_len yX (za (pv 2) zd))) zd))) zd))))
    (zh (yU (qg cx cN cO xc (pv 2) (za (pv 3) zd)))))))
  (zh (zu (pv 2))))),J5 h1 h2 h3 q⟩⟩
theorem za4(T:Txt K mg t):FnOk P w K mg base (CX1 P w) 15 t.a34 t.d34 ["rows"] (ZU):=by
 refine T.g34.f.okA zaJ λvs H Q E h=>?_
 obtain⟨v,r,rfl,h1,h2,h3,q⟩:=h
 exact⟨rfl,λ_ _ _ _ hr=>⟨Z2 K t,(zh (zu (pcG (Q6 T 6) T.g33 hr zr (za (pv 0) (za (ze (i:=0)) zd))))),QC h1 h2 h3 q⟩⟩
theorem VJ(T:Txt K mg t):FnOk P w K mg base (CX1 P w) 1 t.a35 t.d35 ["self","table"] (jl t):=by
 refine T.f_Doing_init.ok0 Vo (λvs H Q E h=>?_) (λcdv A outer s H vs Q E hr h=>?_)
 ·obtain⟨x,a,tab,H0,dx,rfl,_⟩:=h;rfl
 obtain⟨x,a,tab,H0,dx,rfl,h1,h2,h3,h4,h5,q⟩:=h
 exact⟨jA K t,(zg (wC (f:="slots") (pv 0) Wj rfl)
  (zg (wC (f:="worths") (pv 0) (yM (xP rfl (hu3 hr)) rfl T.b_dict X0 (za (pv 1) zd)) rfl)
  (zh (wC (f:="sayings") (pv 0) (yR zd) rfl)))),WX (doF T) h1 h2 h3 h4 h5 q⟩
theorem yg(T:Txt K mg t):FnOk P w K mg base (CX1 P w) 5 t.a36 t.d36 ["self","term"] (zY t):=by
 refine T.g36.f.okB Yu λvs H Q E h=>?_
 obtain⟨x,tm,e,H0,dx,sl,wo,sa,s0,rfl,h1,h2,h3,h4,q⟩:=h
 exact⟨rfl,λ_ _ _ _ hr=>⟨wm K t E,(zh (zu (pcG (Xw T) T.g13 hr yI (za (pv 1) (za (zZ (f:="slots") (pv 0) rfl) zd))))),Z8 (doF T) h1 h2 h3 h4 q⟩⟩
theorem VL(T:Txt K mg t):FnOk P w K mg base (CX1 P w) 6 t.a37 t.d37 ["self","row"] (Zt t):=by
 refine T.g37.f.okB sc_Doing_does λvs H Q E h=>?_
 obtain⟨x,v,r,m,H0,dx,sl,wo,sa,s0,rfl,h1,h2,h3,h4,h5,h6,q1,q2⟩:=h
 exact⟨rfl,λ_ _ _ _ hr=>⟨ZA K t E,(zh (zT (zv yE (zx zC (pv 1) (ze (i:=0)) (λ_ _=>rfl)) (zK (x:="take")) (zE _)) (zh (x9 (yW hr) (zZ (f:="slots") (pv 0) rfl) (zx zC (pv 1) (ze (i:=3)) (λ_ _=>rfl)) (Wk (yW hr) (zZ (f:="worths") (pv 0) rfl) (yb (za (zx zC (pv 1) (ze (i:=1)) (λ_ _=>rfl)) (za (yx (pv 0) T.cl_Doing T.g36.me (FnOk.mono (yg T) (by decide)) hr T.g36.b .nil yI (za (zx zC (pv 1) (ze (i:=2)) (λ_ _=>rfl)) zd)) zd))) (ze (i:=0)) ⟨rfl,rfl,rfl,rfl⟩) rfl))
   (zh (zT (zv yE (zx zC (pv 1) (ze (i:=0)) (λ_ _=>rfl)) (zK (x:="give")) (zE _)) (zg (zy (i:=2) sc_Doing_does.nd rfl (cu rfl) (yb (za (zx zC (pv 1) (ze (i:=1)) (λ_ _=>rfl)) (za (yx (pv 0) T.cl_Doing T.g36.me (FnOk.mono (yg T) (by decide)) hr T.g36.b .nil yI (za (zx zC (pv 1) (ze (i:=2)) (λ_ _=>rfl)) zd)) zd))))
  (zh (x9 (yW hr) (zZ (f:="worths") (pv 0) rfl) (pv 2) (yx (pv 0) T.cl_Doing T.g36.me (FnOk.mono (yg T) (by decide)) hr T.g36.b .nil yI (za (zx zC (pv 1) (ze (i:=3)) (λ_ _=>rfl)) zd)) rfl)))
   (zh (zT (zv yE (zx zC (pv 1) (ze (i:=0)) (λ_ _=>rfl)) (zK (x:="let")) (zE _)) (zh (x9 (yW hr) (zZ (f:="slots") (pv 0) rfl) (zx zC (pv 1) (ze (i:=1)) (λ_ _=>rfl)) (yx (pv 0) T.cl_Doing T.g36.me (FnOk.mono (yg T) (by decide)) hr T.g36.b .nil yI (za (zx zC (pv 1) (ze (i:=2)) (λ_ _=>rfl)) zd)) rfl))
   (zh (yU (qg cx cN cO xc (zZ (f:="sayings") (pv 0) rfl) (za (yx (pv 0) T.cl_Doing T.g36.me (FnOk.mono (yg T) (by decide)) hr T.g36.b .nil yI (za (zx zC (pv 1) (ze (i:=1)) (λ_ _=>rfl)) zd)) zd)))))))))),Vf (doF T) h1 h2 h3 h4 h5 h6 q1 q2⟩⟩
theorem qd(T:Txt K mg t):∀n,FnOk P w K mg base (CX1 P w) (7 + n) t.a38 t.d38 ["self","rows"] (ym t n):=by
 intro n
 induction n with
 | zero=>exact⟨λvs H Q E h=>(wq h).elim,λA outer s H args us vs Q E hr he hb hv h=>(wq h).elim⟩
 | succ n IH =>
 refine T.g38.f.okB sc_Doing_goes_through (k:=7 + n) λvs H Q E h=>?_
 obtain⟨x,l,xs,rws,m,H0,dx,sl,wo,sa,s0,rfl,h1,h2,h3,h4,h5,h6,h7,q1,q2,q3⟩:=h
 exact⟨rfl,λ_ _ _ _ hr=>⟨wA K t n E,(zg (xp zfd rfl (yV (pv 1)) (z0 (i:=2) sc_Doing_goes_through.nd rfl (cu rfl)) (zh (zT (zv yE (zx zC (pv 2) (ze (i:=0)) (λ_ _=>rfl)) (zK (x:="off")) (zE _)) (zh (zT (zv Xe (yx (pv 0) T.cl_Doing T.g36.me (FnOk.mono (yg T) (by lia)) hr T.g36.b .nil yI (za (zx zC (pv 2) (ze (i:=1)) (λ_ _=>rfl)) zd)) (ze (i:=0)) (zE _)) (zh (zu (vA (b:=ao))))
   zF))
   (zh (zT (zv yE (zx zC (pv 2) (ze (i:=0)) (λ_ _=>rfl)) (zK (x:="if")) (zE _)) (zh (zT (j3 (xC (yx (pv 0) T.cl_Doing T.g38.me (FnOk.mono IH (by lia)) hr T.g38.b .nil yI (za (vN (zv Xe (yx (pv 0) T.cl_Doing T.g36.me (FnOk.mono (yg T) (by lia)) hr T.g36.b .nil yI (za (zx zC (pv 2) (ze (i:=1)) (λ_ _=>rfl)) zd)) (ze (i:=0)) (zE _)) (zx zC (pv 2) (ze (i:=2)) (λ_ _=>rfl)) (zx zC (pv 2) (ze (i:=3)) (λ_ _=>rfl))) zd)))) (zh (zu (vA (b:=ao))))
   zF))
   (zh (yU (yx (pv 0) T.cl_Doing T.g37.me (FnOk.mono (VL T) (by lia)) hr T.g37.b .nil yI (za (pv 2) zd)))))))))
  (zh (zu (vA (b:=ae))))),kP (doF T) h1 h2 h3 h4 h5 h6 h7 q1 q2 q3⟩⟩
theorem v0(T:Txt K mg t):FnOkH P w K mg base 1 t.a39 t.d39 ["why","table"] (yS):=by
 refine T.g39.f.okH Vp (λvs H Q E h=>?_) (λcdv A outer s H vs Q E hr h=>?_)
 ·obtain⟨w,a,tab,rfl,_⟩:=h;rfl
 obtain⟨w,a,tab,rfl,h1,q⟩:=h
 exact⟨jB K t,(zh (zu (yb (za (yb (za (zK (x:="off")) (za (pv 0) zd))) (za (yM vG rfl T.b_list wO (za (pv 1) zd)) zd))))),WY h1 q⟩
theorem VM(T:Txt K mg t):FnOk P w K mg base (CX1 P w) 1 t.a39 t.d39 ["why","table"] (yS):=(v0 T).toFn
theorem zeU(T:Txt K mg t):FnOk P w K mg base (CX1 P w) 14 t.a40 t.d40 ["rows","table"] (WM):=by
 refine T.g40.f.okA sc_alone λvs H Q E h=>?_
 obtain⟨v,a,rws,tab,rfl,h1,h2,h3,q⟩:=h
 exact⟨rfl,λ_ _ _ _ hr=>⟨WN K t,(zg (zy (i:=2) sc_alone.nd rfl (cu rfl) (zbd T.mk_Doing (FnOk.mono (VJ T) (by decide)) hr rfl T.g_Doing T.b_Doing_init .nil zr (za (pv 1) zd)))
  (zg (Qe (And.intro rfl rfl) rfl (zbo (i:=3) sc_alone.nd rfl (cu rfl) (WB (pv 2) T.cl_Doing T.g38.me (FnOk.mono (qd T 6) (by decide)) hr T.g38.b (za (pv 0) zd))) rfl T.g_Great rfl T.g_Nought (λ_=>(zh (zu (Qf (FnOkH.mono (v0 T) (by decide)) (zgv hr) rfl T.g39.m T.g39.f.kp T.g39.b (za (zK (x:="great")) (za (pv 1) zd)))))) (λ_=>(zh (zu (Qf (FnOkH.mono (v0 T) (by decide)) (zgv hr) rfl T.g39.m T.g39.f.kp T.g39.b (za (zK (x:="nought")) (za (pv 1) zd)))))))
  (zg (zT (j3 (xC (pv 3))) (zh (zu (pcG (VM T) T.g39 hr zr (za (zK (x:="told")) (za (pv 1) zd)))))
    zF)
  (zh (zu (yb (za (yb (za (zK (x:="done")) (za (yM Zs rfl T.b_tuple Yk (za (zZ (f:="sayings") (pv 2) rfl) zd)) zd))) (za (pcG (Xx T) T.g23 hr zr (za (yM (kT rfl) rfl T.b_list wO (za (Yq (zZ (f:="worths") (pv 2) rfl)) zd)) zd)) zd)))))))),zcw T h1 h2 h3 q⟩⟩
theorem VN(T:Txt K mg t):FnOk P w K mg base (CX1 P w) 15 t.a41 t.d41 ["dealings","table"] (jn):=by
 refine T.g41.f.okA sc_one_by_one λvs H Q E h=>?_
 obtain⟨a,b,xs,ds,T0,O,rfl,h1,h2,h3,h4,h5,q⟩:=h
 exact⟨rfl,λ_ _ _ _ hr=>⟨jC K t,(zg (zy (i:=2) sc_one_by_one.nd rfl (cu rfl) (yR zd))
  (zg (zy (i:=3) sc_one_by_one.nd rfl (cu rfl) (yM vG rfl T.b_list wO (za (pv 1) zd)))
  (zg (xp cT rfl (yV (pv 0)) (z0 (i:=4) sc_one_by_one.nd rfl (cu rfl)) (zg (zy (i:=5) sc_one_by_one.nd rfl (cu rfl) (pcG (zeU T) T.g40 hr zr (za (pv 4) (za (pv 3) zd))))
  (zg (yU (qg cx cN cO xc (pv 2) (za (zx zC (pv 5) (ze (i:=0)) (λ_ _=>rfl)) zd)))
  (zh (zy (i:=3) sc_one_by_one.nd rfl (cu rfl) (zx zC (pv 5) (ze (i:=1)) (λ_ _=>rfl)))))))
  (zh (zu (yb (za (pv 2) (za (pv 3) zd)))))))),Va h1 h2 h3 h4 h5 q⟩⟩
theorem Ko(T:Txt K mg t):FnOk P w K mg base (CX1 P w) 2 t.a42 t.d42 ["cell","j","slots","wide"] (kE):=by
 refine T.g42.f.okA sc__law_spot λvs H Q E h=>?_
 obtain⟨c,j,a,wd,ws,rfl,h1,h2,h3,h4,h5,h6,q⟩:=h
 exact⟨rfl,λ_ _ _ _ hr=>⟨kJ K t,(zg (zy (i:=4) sc__law_spot.nd rfl (cu rfl) (zp zX (pcG (zw T) T.g0 hr zr (za (pv 0) (za (pv 1) zd))) (ze (i:=6))))
  (zg (zT (zv yE (pv 4) (ze (i:=0)) (zE _)) (zh (zu (yb (za (zx yc (pv 2) (zp zX (pcG (zw T) T.g0 hr zr (za (pv 0) (za (zp zQ (pv 1) (ze (i:=1))) zd))) (ze (i:=2))) (λ_ _=>rfl)) zd))))
    zF)
  (zg (zT (zv yE (pv 4) (ze (i:=1)) (zE _)) (zh (zu (yb (za (zx yc (pv 2) (zp zX (pcG (zw T) T.g0 hr zr (za (pv 0) (za (zp zQ (pv 1) (ze (i:=1))) zd))) (ze (i:=2))) (λ_ _=>rfl)) (za (zp zX (pcG (zw T) T.g0 hr zr (za (pv 0) (za (zp zQ (pv 1) (ze (i:=2))) zd))) (pv 3)) (za (zK (x:="plus")) zd))))))
    zF)
  (zh (zu (yb (za (zp zX (pcG (zw T) T.g0 hr zr (za (pv 0) (za (zp zQ (pv 1) (ze (i:=2))) zd))) (pv 3)) zd))))))),VE h1 h2 h3 h4 h5 h6 q⟩⟩
theorem vK(T:Txt K mg t):FnOk P w K mg base (CX1 P w) 3 t.a43 t.d43 ["cell","j","slots"] (y0):=by
 refine T.g43.f.okA sc__law_term λvs H Q E h=>?_
 obtain⟨c,j,a,ws,rfl,h1,h2,h3,h4,q⟩:=h
 exact⟨rfl,λ_ _ _ _ hr=>⟨kK K t,(zg (zy (i:=3) sc__law_term.nd rfl (cu rfl) (zx yc (pv 2) (zp zX (pcG (zw T) T.g0 hr zr (za (pv 0) (za (pv 1) zd))) (ze (i:=2))) (λ_ _=>rfl)))
  (zg (zy (i:=4) sc__law_term.nd rfl (cu rfl) (zp zX (pcG (zw T) T.g0 hr zr (za (pv 0) (za (zp zQ (pv 1) (ze (i:=1))) zd))) (ze (i:=5))))
  (zg (zT (zv yE (pv 4) (ze (i:=0)) (zE _)) (zh (zu (yb (za (pv 3) zd))))
    zF)
  (zg (zT (zv yE (pv 4) (ze (i:=1)) (zE _)) (zh (zu (yb (za (pcG (wt T) T.g3 hr zr (za (pv 0) (za (zp zQ (pv 1) (ze (i:=2))) zd))) zd))))
    zF)
  (zg (zy (i:=5) sc__law_term.nd rfl (cu rfl) (yR (za (zK (x:="plus")) (za (zK (x:="minus")) (za (zK (x:="times")) (za (zK (x:="over")) (za (zK (x:="rest")) (za (zK (x:="under")) (za (zK (x:="plus")) zd)))))))))
  (zh (zu (yb (za (pv 3) (za (pcG (wt T) T.g3 hr zr (za (pv 0) (za (zp zQ (pv 1) (ze (i:=2))) zd))) (za (zx yc (pv 5) (zp zX (pcG (zw T) T.g0 hr zr (za (pv 0) (za (zp zQ (pv 1) (ze (i:=4))) zd))) (ze (i:=7))) (λ_ _=>rfl)) zd))))))))))),VD h1 h2 h3 h4 q⟩⟩
theorem XA(T:Txt K mg t):FnOk P w K mg base (CX1 P w) 4 t.a44 t.d44 ["cell","j","slots","shelves","wide"] (ve):=by
 refine T.g44.f.okA sc__law_row λvs H Q E h=>?_
 obtain⟨c,j,a,b,wd,ws,us,rfl,h1,h2,h3,h4,h5,h6,h7,h8,q⟩:=h
 exact⟨rfl,λ_ _ _ _ hr=>⟨qQ K t,(zg (zy (i:=5) sc__law_row.nd rfl (cu rfl) (zp zX (pcG (zw T) T.g0 hr zr (za (pv 0) (za (pv 1) zd))) (ze (i:=14))))
  (zg (zy (i:=6) sc__law_row.nd rfl (cu rfl) (zx yc (pv 3) (zp zX (pcG (zw T) T.g0 hr zr (za (pv 0) (za (zp zQ (pv 1) (ze (i:=60))) zd))) (ze (i:=3))) (λ_ _=>rfl)))
  (zg (zy (i:=7) sc__law_row.nd rfl (cu rfl) (zx yc (pv 2) (zp zX (pcG (zw T) T.g0 hr zr (za (pv 0) (za (zp zQ (pv 1) (ze (i:=61))) zd))) (ze (i:=2))) (λ_ _=>rfl)))
  (zg (zy (i:=8) sc__law_row.nd rfl (cu rfl) (pcG (Ko T) T.g42 hr zr (za (pv 0) (za (zp zQ (pv 1) (ze (i:=50))) (za (pv 2) (za (pv 4) zd))))))
  (zg (zT (zv Kx (pv 5) (ze (i:=5)) (zE _)) (zh (zu (yb (za (zK (x:="take")) (za (pv 6) (za (pv 8) (za (pv 7) zd)))))))
    zF)
  (zg (zT (zv Kx (pv 5) (ze (i:=10)) (zE _)) (zh (zu (yb (za (zK (x:="give")) (za (pv 6) (za (pv 8) (za (pcG (vK T) T.g43 hr zr (za (pv 0) (za (zp zQ (pv 1) (ze (i:=20))) (za (pv 2) zd)))) zd)))))))
    zF)
  (zg (zT (zv yE (pv 5) (ze (i:=10)) (zE _)) (zh (zu (yb (za (zK (x:="let")) (za (pv 7) (za (pcG (vK T) T.g43 hr zr (za (pv 0) (za (zp zQ (pv 1) (ze (i:=20))) (za (pv 2) zd)))) zd))))))
    zF)
  (zg (zT (zv yE (pv 5) (ze (i:=11)) (zE _)) (zh (zu (yb (za (zK (x:="off")) (za (yb (za (pv 7) (za (pcG (wt T) T.g3 hr zr (za (pv 0) (za (zp zQ (pv 1) (ze (i:=21))) zd))) (za (zK (x:="same")) zd)))) zd)))))
    zF)
  (zh (zu (yb (za (zK (x:="say")) (za (pcG (vK T) T.g43 hr zr (za (pv 0) (za (zp zQ (pv 1) (ze (i:=20))) (za (pv 2) zd)))) zd))))))))))))),Kf h1 h2 h3 h4 h5 h6 h7 h8 q⟩⟩
theorem Kq(T:Txt K mg t):FnOk P w K mg base (CX1 P w) 5 t.a45 t.d45 ["cells","slots","shelves","wide"] (kF):=by
 refine T.g45.f.okA sc__law_rows λvs H Q E h=>?_
 obtain⟨cl,a,b,wd,ns,ws,us,rfl,h1,h2,h3,h4,h5,h6,h7,h8,q⟩:=h
 exact⟨rfl,λ_ _ _ _ hr=>⟨kL K t,(zg (zy (i:=4) sc__law_rows.nd rfl (cu rfl) (yR zd))
  (zg (xp cT rfl (yV (pv 0)) (z0 (i:=5) sc__law_rows.nd rfl (cu rfl)) (zg (zy (i:=6) sc__law_rows.nd rfl (cu rfl) (pcG (XA T) T.g44 hr zr (za (pv 5) (za (ze (i:=0)) (za (pv 1) (za (pv 2) (za (pv 3) zd)))))))
  (zg (zT (zv yE (zp zX (pcG (zw T) T.g0 hr zr (za (pv 5) (za (ze (i:=150)) zd))) (ze (i:=5))) (ze (i:=0)) (zE _)) (zg (zy (i:=7) sc__law_rows.nd rfl (cu rfl) (yR (za (pcG (XA T) T.g44 hr zr (za (pv 5) (za (ze (i:=100)) (za (pv 1) (za (pv 2) (za (pv 3) zd)))))) zd)))
  (zh (zy (i:=6) sc__law_rows.nd rfl (cu rfl) (yb (za (zK (x:="if")) (za (pcG (vK T) T.g43 hr zr (za (pv 5) (za (ze (i:=152)) (za (pv 1) zd)))) (za (yR (za (pv 6) zd)) (za (pv 7) zd))))))))
   zF)
  (zh (yU (qg cx cN cO xc (pv 4) (za (pv 6) zd)))))))
  (zh (zu (pv 4))))),VF h1 h2 h3 h4 h5 h6 h7 h8 q⟩⟩
theorem ZD(T:Txt K mg t):FnOk P w K mg base (CX1 P w) 1 t.a46 t.d46 ["one","other"] (wT):=by
 refine T.g46.f.okA sc_gives_into λvs H Q E h=>?_
 obtain⟨v,u,a,b,rfl,h1,h2,h3,h4,q⟩:=h
 exact⟨rfl,λ_ _ _ _ hr=>⟨jE K t,(zg (zy (i:=2) sc_gives_into.nd rfl (iO rfl) (yM (xP rfl (hu3 hr)) rfl T.b_dict X0 (za (zp j8 (zx zC (pv 1) (ze (i:=1)) (λ_ _=>rfl)) (zx zC (pv 1) (ze (i:=2)) (λ_ _=>rfl))) zd)))
  (zh (zu (zM (zcs rfl) rfl T.b_any zgQ (za (ke rfl (osc:=zj vI) (N:=["one","other","known"]) (xs:=["place","worth"]) (ix:=[2]) (by decide +kernel) (yV (zx zC (pv 0) (ze (i:=2)) (λ_ _=>rfl))) (λ_ _ _ _=>(zcP rfl (Yd (z0 (i:=0) (show ff (["place","worth","known"]:List Str) from (by decide +kernel)) rfl (cu rfl)) (Yd (z0 (i:=1) (show ff (["place","worth","known"]:List Str) from (by decide +kernel)) rfl (cu rfl)) za6)))) (λ_ _ _ _=>Zb) (λ_ _ _ _=>(qZ (Zf (yW hr)) (pv 0) (pv 2) (by with_unfolding_all rfl)))) zd))))),W4 h1 h2 h3 h4 q⟩⟩
theorem zgi(T:Txt K mg t):FnOk P w K mg base (CX1 P w) 2 t.a47 t.d47 ["one","other"] (J1):=by
 refine T.g47.f.okA zfJ λvs H Q E h=>?_
 obtain⟨v,u,a,b,rfl,h1,h2,h3,h4,q⟩:=h
 exact⟨rfl,λ_ _ _ _ hr=>⟨J2 K t,(zh (zu (zcJ (pcG (ZD T) T.g46 hr zr (za (pv 0) (za (pv 1) zd))) (Jr (pcG (ZD T) T.g46 hr zr (za (pv 1) (za (pv 0) zd))))))),zes h1 h2 h3 h4 q⟩⟩
theorem za5(T:Txt K mg t):FnOk P w K mg base (CX1 P w) 3 t.a48 t.d48 ["papers","ranks","rank"] (ZX):=by
 refine T.g48.f.okA zaK λvs H Q E h=>?_
 obtain⟨p,l,k,P,rs,rfl,h1,h2,h3,h4,h5,q⟩:=h
 exact⟨rfl,λ_ _ _ _ hr=>⟨Z5 K t,(zh (zu (ke rfl (osc:=zj Zj) (N:=["papers","ranks","rank"]) (xs:=["one"]) (ix:=[0,2]) (by decide +kernel) (yV (pv 1)) (λ_ _ _ _=>(z0 (i:=0) (show ff (["one","papers","rank"]:List Str) from (by decide +kernel)) rfl (cu rfl) (.inr rfl))) (λ_ _ _ _=>(JA (xC (pcG (zgi T) T.g47 hr zr (za (zx yc (pv 1) (pv 0) (λ_ _=>rfl)) (za (zx yc (pv 1) (pv 2) (λ_ _=>rfl)) zd)))))) (λ_ _ _ _=>(pv 0))))),QS h1 h2 h3 h4 h5 q⟩⟩
theorem Q7(T:Txt K mg t):FnOk P w K mg base (CX1 P w) 4 t.a49 t.d49 ["papers","order"] (Yx):=by
 refine T.g49.f.okB sc_keeps λvs H Q E h=>?_
 obtain⟨p,l,P,os,rfl,h1,h2,h3,q⟩:=h
 exact⟨rfl,λ_ _ _ _ hr=>⟨WO K t E,(zg (yU (pcG (ZC T) T.g5 hr yI (za (pv 1) (za (zM ye rfl T.b_len yX (za (pv 0) zd)) zd))))
  (zg (xp zfd rfl (zfC rfl T.b_enumerate (za (pv 1) zd)) (zcP rfl (Yd (z0 (i:=2) sc_keeps.nd rfl (cu rfl)) (Yd (z0 (i:=3) sc_keeps.nd rfl (iO rfl)) za6))) (zg (Wm (j:=4) sc_keeps.nd rfl rfl (cu rfl) (osc:=zj X4) (N:=["papers","order","at","rank","higher"]) (xs:=["other"]) (ix:=[3]) (by decide +kernel) (yV (xH q8 (pv 1) vF (x6 (pv 2)))) (λ_ _ _ _=>(z0 (i:=0) (show ff (["other","rank"]:List Str) from (by decide +kernel)) rfl (cu rfl) (.inr rfl))) (λ_ _ _ _=>(JA (zv zcS (pv 0) (pv 1) (zE _)))) (λ_ _ _ _=>(pv 0)))
  (zh (zT (zv (zdV (zap hr)) (pcG (za5 T) T.g48 hr yI (za (pv 0) (za (pv 4) (za (pv 3) zd)))) (yR zd) (zE _)) (zh (zu (vA (b:=ao))))
    zF))))
  (zh (zu (vA (b:=ae)))))),zcB h1 h2 h3 q⟩⟩
theorem ok_law(T:Txt K mg t):FnOk P w K mg base (CX1 P w) 16 t.a50 t.d50 ["script"] (sp_law K):=by
 refine T.f_law.ok0 sc_law (λvs H Q E h=>?_) (λcdv A outer s H vs Q E hr h=>?_)
 ·obtain⟨a,ns,rfl,_⟩:=h;rfl
 obtain⟨a,ns,rfl,hS,hn,q⟩:=h
 exact⟨zaM K t,(zg (zy (i:=1) sc_law.nd rfl (cu rfl) (pcG (ZB T) T.g1 hr zr (za (pcG (yi T) T.g29 hr zr (za (pv 0) (za (ze (i:=0)) zd))) (za (ze (i:=2)) zd))))
  (zg (zy (i:=2) sc_law.nd rfl (cu rfl) (pcG (XW T) T.g2 hr zr (za (pcG (yi T) T.g29 hr zr (za (pv 0) (za (ze (i:=1)) zd))) (za (ze (i:=3)) zd))))
  (zg (zy (i:=3) sc_law.nd rfl (cu rfl) (zp zQ (ze (i:=1)) (zp zX (pcG (zw T) T.g0 hr zr (za (pcG (yi T) T.g29 hr zr (za (pv 0) (za (ze (i:=1)) zd))) (za (ze (i:=201)) zd))) (ze (i:=8)))))
  (zg (zy (i:=4) sc_law.nd rfl (cu rfl) (pcG (VG T) T.g4 hr zr (za (pcG (yi T) T.g29 hr zr (za (pv 0) (za (ze (i:=2)) zd))) (za (pv 2) (za (pv 3) zd)))))
  (zg (zy (i:=5) sc_law.nd rfl (cu rfl) (zp zQ (ze (i:=2)) (zp zX (pcG (zw T) T.g0 hr zr (za (pcG (yi T) T.g29 hr zr (za (pv 0) (za (ze (i:=0)) zd))) (za (ze (i:=200)) zd))) (ze (i:=7)))))
  (zg (zy (i:=6) sc_law.nd rfl (cu rfl) (yR zd))
  (zg (xp cT rfl (zcp rfl T.b_range (za (ze (i:=0)) (za (zM ye rfl T.b_len yX (za (xH q8 (pv 0) vF (x6 (ze (i:=120)))) zd)) (za (pv 5) zd)))) (z0 (i:=7) sc_law.nd rfl (cu rfl)) (zh (yU (qg cx cN cO xc (pv 6) (za (pcG (Kq T) T.g45 hr zr (za (xH q8 (xH q8 (pv 0) vF (x6 (ze (i:=120)))) (x6 (pv 7)) (x6 (zp zQ (pv 7) (pv 5)))) (za (pv 1) (za (pv 2) (za (pv 3) zd))))) zd)))))
  (zg (Wm (j:=8) sc_law.nd rfl rfl (cu rfl) (osc:=zj Xk) (N:=["script","slots","shelves","wide","table","many","dealings","at","codes","told","papers","most","order","turned"]) (xs:=["rows"]) (ix:=[]) (by decide +kernel) (yV (pv 6)) (λ_ _ _ _=>(z0 (i:=0) (show ff (["rows"]:List Str) from (by decide +kernel)) rfl (cu rfl) (.inr rfl))) (λ_ _ _ _=>Zb) (λ_ _ _ _=>(pcG (za4 T) T.g34 hr zr (za (pv 0) zd))))
  (zg (zy (i:=9) sc_law.nd rfl (cu rfl) (pcG (Xy T) T.g25 hr zr (za (pv 8) (za (pv 4) (za (zbC rfl rfl T.b_list rfl T.b_range (za (zM ye rfl T.b_len yX (za (pv 8) zd)) zd)) zd)))))
  (zg (zy (i:=10) sc_law.nd rfl (cu rfl) (pcG (YH T) T.g27 hr zr (za (pv 9) (za (zM ye rfl T.b_len yX (za (pv 8) zd)) zd))))
  (zg (zT (zv zae (pv 10) wB (zE _)) (zh (zu (vA (b:=ao))))
    zF)
  (zg (zT (zv (Wz (zap hr)) (pcG (VN T) T.g41 hr zr (za (pv 6) (za (pv 4) zd))) (yb (za (ke rfl (osc:=zj Xk) (N:=["script","slots","shelves","wide","table","many","dealings","at","codes","told","papers","most","order","turned"]) (xs:=["paper"]) (ix:=[]) (by decide +kernel) (yV (pv 10)) (λ_ _ _ _=>(z0 (i:=0) (show ff (["paper"]:List Str) from (by decide +kernel)) rfl (cu rfl) (.inr rfl))) (λ_ _ _ _=>Zb) (λ_ _ _ _=>(zx zC (pv 0) (ze (i:=0)) (λ_ _=>rfl)))) (za (zx zC (pv 9) (ze (i:=1)) (λ_ _=>rfl)) zd))) (zE _)) (zh (zu (vA (b:=ao))))
    zF)
  (zg (zy (i:=11) sc_law.nd rfl (cu rfl) (zp zQ (ze (i:=1)) (zp zX (pcG (zw T) T.g0 hr zr (za (pcG (yi T) T.g29 hr zr (za (pv 0) (za (ze (i:=3)) zd))) (za (ze (i:=204)) zd))) (zp zQ (ze (i:=1)) (zM ye rfl T.b_len yX (za (pv 8) zd))))))
  (zg (zy (i:=12) sc_law.nd rfl (cu rfl) (pcG (VI T) T.g30 hr zr (za (pv 0) (za (pv 10) (za (pv 11) zd)))))
  (zg (zT (PW.pt (X8 (zv KH (pcG (Q7 T) T.g49 hr zr (za (pv 10) (za (pv 12) zd))) (vA (b:=ae)) (zE _)) (X7 (zv (Wz (zap hr)) (pcG (Xy T) T.g25 hr zr (za (pv 8) (za (pv 4) (za (pv 12) zd)))) (pv 9) (zE _))))) (zh (zu (vA (b:=ao))))
    zF)
  (zg (zy (i:=13) sc_law.nd rfl (cu rfl) (pcG (Vg T) T.g31 hr zr (za (pcG (yi T) T.g29 hr zr (za (pv 0) (za (ze (i:=4)) zd))) (za (pv 10) (za (pv 12) zd)))))
  (zh (zu (zcJ (qZ zae (pv 13) wB (zE _)) (Jr (qZ zc7 (pcG (Q7 T) T.g49 hr zr (za (pv 10) (za (pv 13) zd))) (vA (b:=ao)) (zE _)))))))))))))))))))))),zgg hS hn q⟩
end
end K55
open PySem PySem.W PyProof.Rows
namespace PySem.W.Fast
def tw900173077753865488:Unit:=()
def tw810477450401964034:Unit:=()
def tw5312412852483794495:Unit:=()
def tw14051982615900039784:Unit:=()
def tw7294801421009892007:Unit:=()
def tw11985126884726727812:Unit:=()
def tw14268760317251001190:Unit:=()
def tw9506379946598132158:Unit:=()
def tw14990903469596657561:Unit:=()
def tw14285798016430271315:Unit:=()
def tw12056259444636893892:Unit:=()
def tw13480673268576509847:Unit:=()
def tw7235497133086989013:Unit:=()
def tw5855409721936769405:Unit:=()
def tw702963832220660130:Unit:=()
def tw4371503290408304495:Unit:=()
def tw3552243946515943326:Unit:=()
def tw1124776039074180048:Unit:=()
def tw11725949483604501737:Unit:=()
def tw217266562209274056:Unit:=()
def tw1588397847210434440:Unit:=()
def tw7216148079042528307:Unit:=()
def tw1120435670165570882:Unit:=()
def tw5438629558942562161:Unit:=()
def tw2291859016340048368:Unit:=()
def tw8856582721037646902:Unit:=()
def tw14772952975590052368:Unit:=()
def tw10301642178535555266:Unit:=()
def tw18244465524989736150:Unit:=()
def tw12317681305485839394:Unit:=()
def tw9324117108390614523:Unit:=()
def tw9656932268564440382:Unit:=()
def tw9539155308961115777:Unit:=()
def tw14790112640299483794:Unit:=()
def tw17660212715748606487:Unit:=()
def tw6273348326151916791:Unit:=()
def tw8456836985029813229:Unit:=()
def tw61361379579660194:Unit:=()
def tw7975401987597223777:Unit:=()
def tw9416819637967682813:Unit:=()
def tw17239991441656015502:Unit:=()
def tw2060114018173145708:Unit:=()
def tw8708037997608217518:Unit:=()
def tw15879359648089010865:Unit:=()
def tw1194272243552415843:Unit:=()
def tw11737835063030983584:Unit:=()
def tw13357507538217445767:Unit:=()
def tw3673393695360902145:Unit:=()
def tw12841690636094528842:Unit:=()
def tw5237029666677667665:Unit:=()
def tw13191169321449724800:Unit:=()
def tw10200792920689233596:Unit:=()
def tw12737843662207904518:Unit:=()
def tw17967553778369011351:Unit:=()
def tw1533893136847813469:Unit:=()
def tw4247072251306115223:Unit:=()
def tw17756177736446654642:Unit:=()
def tw10008776062022666298:Unit:=()
def tw4880550359032220246:Unit:=()
def tw17599883348241319486:Unit:=()
def tw14808212239857299055:Unit:=()
def tw9789352290219806835:Unit:=()
def tw16140486759515194190:Unit:=()
def tw1911286858706133176:Unit:=()
def tw4443796032883539412:Unit:=()
def tw6523154190346305807:Unit:=()
def tw1064331572944246259:Unit:=()
def tw10429844724060088885:Unit:=()
def tw15311213193780454342:Unit:=()
def tw2923647539017964729:Unit:=()
def tw13282851067551996647:Unit:=()
def tw8438416203763128807:Unit:=()
def tw1707438616281589842:Unit:=()
def tw4410264034986579569:Unit:=()
def tw354307976252221837:Unit:=()
def tw17654842781703870362:Unit:=()
def tw4927539015458805846:Unit:=()
def tw2854236741097387176:Unit:=()
def tw1497107721704459106:Unit:=()
def tw6773639818030340168:Unit:=()
def tw10116691649888183592:Unit:=()
def tw1095669387621011685:Unit:=()
def tw9409419425876299053:Unit:=()
def tw16799474325871040780:Unit:=()
def tw5674361857574372041:Unit:=()
def tw1998350215454293777:Unit:=()
def tw10675191397369311633:Unit:=()
def tw14544570319267843243:Unit:=()
def tw16976127197073781675:Unit:=()
def tw15110105036006873143:Unit:=()
def tw1662687410887458026:Unit:=()
def tw4461784501147946017:Unit:=()
def tw8708923452078737567:Unit:=()
def tw8995904591263052489:Unit:=()
def tw11066274862678505932:Unit:=()
def tw17752515875693222961:Unit:=()
def tw4159046388530009201:Unit:=()
def tw13877146707229139540:Unit:=()
def tw4771395429813183982:Unit:=()
def tw1170003171072671932:Unit:=()
def tw14191029695713831857:Unit:=()
def tw14476380454314166096:Unit:=()
def tw7783792035831575009:Unit:=()
def tw11928041541309828415:Unit:=()
def tw7515910869347759084:Unit:=()
def tw6913738326595561094:Unit:=()
def tw18203141638126763205:Unit:=()
def tw3255791643751184509:Unit:=()
def tw7039978999082553135:Unit:=()
def tw1320395887395801713:Unit:=()
def tw5598051260178952175:Unit:=()
def tw7130381146826670156:Unit:=()
def tw278555593627770135:Unit:=()
def tw11904587405112585330:Unit:=()
def tw2670245567577057494:Unit:=()
def tw17104083386447707778:Unit:=()
def tw5664310365631847601:Unit:=()
def tw3191748366262832807:Unit:=()
def tw16681419335962297252:Unit:=()
def tw17566177168784661383:Unit:=()
def tw12958883363205316670:Unit:=()
def tw5166865304301319565:Unit:=()
def tw4269945880433580524:Unit:=()
def tw964185577718125294:Unit:=()
def tw15762975211023160875:Unit:=()
def tw14421621767446535085:Unit:=()
def tw4882824884337930835:Unit:=()
def tw17974837098477600902:Unit:=()
def tw8487286358895290807:Unit:=()
def tw6554656283646502549:Unit:=()
def tw16584432569744266452:Unit:=()
def tw1803683095493955346:Unit:=()
def tw16098402069446025153:Unit:=()
def tw15424509707531416394:Unit:=()
def tw8362133905081581338:Unit:=()
def tw6032805404458696495:Unit:=()
def tw6611536522639121878:Unit:=()
def tw13031679053944340281:Unit:=()
def tw9123231196500981492:Unit:=()
def tw5971623445055119826:Unit:=()
def tw14488019033925675930:Unit:=()
def tw2652836817819161690:Unit:=()
def tw10806550845469032195:Unit:=()
def tw4834691302984136632:Unit:=()
def tw9685950155311320369:Unit:=()
def tw730589693582047985:Unit:=()
def tw3186527324741586478:Unit:=()
def tw17927875130375910665:Unit:=()
def tw14007340676282154992:Unit:=()
def tw17840552717645924803:Unit:=()
def tw8460494302070613427:Unit:=()
def tw15098128619897086023:Unit:=()
def tw9422553617593191553:Unit:=()
def tw14413172658567737394:Unit:=()
def tw1718507289921436571:Unit:=()
def tw18426855042413057246:Unit:=()
def tw2551861575510531310:Unit:=()
def tw12621156963861201065:Unit:=()
def tw10429871444147539104:Unit:=()
def tw16615794129706758071:Unit:=()
def tw15385701491432539935:Unit:=()
def tw3088414957440424622:Unit:=()
def tw8446699134209827778:Unit:=()
def tw11767171579544245995:Unit:=()
def tw887001765522053469:Unit:=()
def tw7436284314777955940:Unit:=()
def tw17603174100944048043:Unit:=()
def tw15762138129299224384:Unit:=()
def tw11851989493092999621:Unit:=()
def tw16876436144817998204:Unit:=()
def tw4137444437429696903:Unit:=()
def tw7296061978363101066:Unit:=()
def tw15509932999200354688:Unit:=()
def tw6804862844654283181:Unit:=()
def tw11792313745980352427:Unit:=()
def tw7168429026927003322:Unit:=()
def tw3228761694964969826:Unit:=()
def tw13502296282643279937:Unit:=()
def tw17944407557732624759:Unit:=()
def tw9937889675578626588:Unit:=()
def tw6380666533585053687:Unit:=()
def tw16420852375216825001:Unit:=()
def tw9679398575814484161:Unit:=()
def tw13549665006154834512:Unit:=()
def tw15325789592726538703:Unit:=()
def tw18221846680206250159:Unit:=()
def tw17314001215856467654:Unit:=()
def tw7063004114954429833:Unit:=()
def tw2138820110045660228:Unit:=()
def tw9550139897128006730:Unit:=()
def tw5840051071172415890:Unit:=()
def tw12014497518293799637:Unit:=()
def tw8849010705170989516:Unit:=()
def tw3698403352065949273:Unit:=()
def tw4327870407693649068:Unit:=()
def tw14334431862960300349:Unit:=()
def tw4335165274651261963:Unit:=()
def tw16893594819852531961:Unit:=()
def tw4499604501415684567:Unit:=()
def tw12657034199266190835:Unit:=()
def tw1560725068348936432:Unit:=()
def tw6511514780375196496:Unit:=()
def tw13685888321670636971:Unit:=()
def tw14687106368657151933:Unit:=()
def tw11954830451075372832:Unit:=()
def tw6208724609336094362:Unit:=()
def tw15391897026724964701:Unit:=()
def tw13203689768344767159:Unit:=()
def tw8992601200585027692:Unit:=()
def tw17917743033041341455:Unit:=()
def tw6779388584430322615:Unit:=()
def tw11329492101794332663:Unit:=()
def tw13975789684340352062:Unit:=()
def tw6034859942664760281:Unit:=()
def tw5583010718131972181:Unit:=()
def tw10229887643543348033:Unit:=()
def tw11147397972286719290:Unit:=()
def tw4375624891713245519:Unit:=()
def tw17820057951911132834:Unit:=()
def tw4244156909568836277:Unit:=()
def tw2525147550472163487:Unit:=()
def tw11359130092157440398:Unit:=()
def tw8163592659796223061:Unit:=()
def tw2783566005500107845:Unit:=()
def tw5225300061670148504:Unit:=()
def tw7882267926114424421:Unit:=()
def tw8327017411434710001:Unit:=()
def tw7887423448596300927:Unit:=()
def tw14686058619578740333:Unit:=()
def tw4361990718703457447:Unit:=()
def tw544465382432001047:Unit:=()
def tw6558660592459641029:Unit:=()
def tw10948348002651768727:Unit:=()
def tw17910230649314900611:Unit:=()
def tw11315216366163011139:Unit:=()
def tw750613158822148488:Unit:=()
def tw731307126823249462:Unit:=()
def tw11173370654776412742:Unit:=()
def tw5334869267855393301:Unit:=()
def tw12174695872608600146:Unit:=()
def tw1189169016589368872:Unit:=()
def tw6543160279270565578:Unit:=()
def tw7363480812550350169:Unit:=()
def tw7056221532386038852:Unit:=()
def tw5406033939945261934:Unit:=()
def tw18122121241156300175:Unit:=()
def tw15570181436886352920:Unit:=()
def tw13167827161664416589:Unit:=()
def tw14896503837986587954:Unit:=()
def tw9915291627788018678:Unit:=()
def tw1410623979346596740:Unit:=()
def tw10882728746906715065:Unit:=()
def tw11370712674294745855:Unit:=()
def tw8881882394709339528:Unit:=()
def tw2241373069974004599:Unit:=()
def tw14901141001727039637:Unit:=()
def tw6869174416112481346:Unit:=()
def tw7815138933144094123:Unit:=()
def tw3005184760323675746:Unit:=()
def tw8664793518680610450:Unit:=()
def tw13374730615963209019:Unit:=()
def tw12614174614928489673:Unit:=()
def tw3213266071567734103:Unit:=()
def tw14487868783336169493:Unit:=()
def tw4772819128671133919:Unit:=()
def tw5765170162687725040:Unit:=()
def tw355512511861379227:Unit:=()
def tw2029649588513359084:Unit:=()
def tw12816745716749651475:Unit:=()
def tw8636864558197486856:Unit:=()
def tw1932058517154320898:Unit:=()
def tw13013527278333502328:Unit:=()
def tw1278897747655113290:Unit:=()
def tw3827902312856898238:Unit:=()
def tw8965828103712182175:Unit:=()
def tw3159638703986562953:Unit:=()
def tw4229307427827577718:Unit:=()
def tw13034959031320575256:Unit:=()
def tw10131836275665960316:Unit:=()
def tw11651607740617678084:Unit:=()
def tw1655325585209971510:Unit:=()
def tw5939596815438011079:Unit:=()
def tw10100111069576352996:Unit:=()
def tw11056518404452446920:Unit:=()
def tw18060813651562098846:Unit:=()
def tw11883004951608498039:Unit:=()
def tw17605611997542394998:Unit:=()
def tw11071447480256885254:Unit:=()
def tw12251085135944134786:Unit:=()
def tw14968947414822119098:Unit:=()
def tw3033409566304887845:Unit:=()
def tw14819835545034613537:Unit:=()
def tw13366965757734564854:Unit:=()
def tw8457402406888957023:Unit:=()
def tw1449110009129030268:Unit:=()
def tw11289728785612510216:Unit:=()
def tw6135518099943024720:Unit:=()
def tw10115206565303523572:Unit:=()
def tw3934323041684553278:Unit:=()
def tw11109865110243542732:Unit:=()
def tw17241524274492908143:Unit:=()
def tw951246378668464378:Unit:=()
def tw8958979614495310568:Unit:=()
def tw2288169466363284120:Unit:=()
def tw6939612341372590202:Unit:=()
def tw1541631393114406278:Unit:=()
def tw12061784575189835593:Unit:=()
def tw16261016024007720586:Unit:=()
def tw1653764592560927539:Unit:=()
def tw6906723073111215568:Unit:=()
def tw17584730604567723110:Unit:=()
def tw6724561786782990051:Unit:=()
def tw10082460674848612524:Unit:=()
def tw12593883244496596356:Unit:=()
def tw18136653065851742821:Unit:=()
def tw782484330192101917:Unit:=()
def tw7853193128141948277:Unit:=()
def tw5430033663803734758:Unit:=()
def tw14349065201880835979:Unit:=()
def tw13391085447914127039:Unit:=()
def tw16158803075543313962:Unit:=()
def tw5122430078892348838:Unit:=()
def tw13120372989323758309:Unit:=()
def tw6207386988524978706:Unit:=()
def tw5609737080971732523:Unit:=()
def tw5505615126176332162:Unit:=()
def tw14980099488876770003:Unit:=()
def tw16006121655889744369:Unit:=()
def tw16557207074527452697:Unit:=()
def tw17795780618505844714:Unit:=()
def tw3165268343048817598:Unit:=()
def tw13865492332775376913:Unit:=()
def tw2074558809450646065:Unit:=()
def tw6395235157584659690:Unit:=()
def tw13133255633625662772:Unit:=()
def tw3087710940834656041:Unit:=()
def tw14051604225963360452:Unit:=()
def tw15229222424442521920:Unit:=()
def tw9326612637631148174:Unit:=()
def tw15702965398380019121:Unit:=()
def tw10832773657852697001:Unit:=()
def tw16415183545042650302:Unit:=()
def tw3782069042139246781:Unit:=()
def tw17682470216192056685:Unit:=()
def tw16921098196423386700:Unit:=()
def tw13791190692517932068:Unit:=()
def tw16995885001903105372:Unit:=()
def tw2323163688251538327:Unit:=()
def tw12491988225990451397:Unit:=()
def tw16286012418481560988:Unit:=()
def tw16549843041033636532:Unit:=()
def tw9678798656911856778:Unit:=()
def tw6035853971005860913:Unit:=()
def tw60623271596721685:Unit:=()
def tw5304692783671604871:Unit:=()
def tw6977704537861845026:Unit:=()
def tw3141899675122773239:Unit:=()
def tw12066293420734054950:Unit:=()
def tw2444778270650673621:Unit:=()
def tw10530300096596520219:Unit:=()
def tw8818650299888035061:Unit:=()
def tw3563648318193924032:Unit:=()
def tw7616050027294993458:Unit:=()
def tw13783310188761800727:Unit:=()
def tw9612202857057170327:Unit:=()
def tw16658306628272884831:Unit:=()
def tw5386189736845806740:Unit:=()
def tw9689416328943225854:Unit:=()
def tw16677121624613637143:Unit:=()
def tw12936979973472757494:Unit:=()
def tw17725005764349022763:Unit:=()
def tw4680943668711035934:Unit:=()
def tw6630310336684440117:Unit:=()
def tw14838342402413732073:Unit:=()
def tw17282848028301492221:Unit:=()
def tw8469664717898861779:Unit:=()
def tw9294547170853601695:Unit:=()
def tw13654538984630968033:Unit:=()
def tw4988322726374873516:Unit:=()
def tw10022924469412619712:Unit:=()
def tw13870910575778450934:Unit:=()
def tw13482892542094549096:Unit:=()
def tw15070038829948394092:Unit:=()
def tw6249678393790773851:Unit:=()
def tw3881902330892498588:Unit:=()
def tw15666292025438382225:Unit:=()
def tw13319824163450872453:Unit:=()
def tw7125984105128143531:Unit:=()
def tw9339656368216806952:Unit:=()
def tw18378388443894888718:Unit:=()
def tw9655996143116351848:Unit:=()
def tw13011592120027718670:Unit:=()
def tw12864058206706312993:Unit:=()
def tw17257825087210010078:Unit:=()
def tw1729054676072278171:Unit:=()
def tw1002468062542502092:Unit:=()
def tw13141795189656696135:Unit:=()
def tw9019570053291990083:Unit:=()
def tw301965387354956004:Unit:=()
def tw1014597118889875754:Unit:=()
def tw4286894203353013387:Unit:=()
def tw4581515322549283767:Unit:=()
def tw11419666890536090037:Unit:=()
def tw11645736378294776198:Unit:=()
def tw2473571765970827510:Unit:=()
def tw8472039032593613264:Unit:=()
def tw9517534590563234891:Unit:=()
end PySem.W.Fast
set_option maxRecDepth 100000 in
set_option maxHeartbeats 0 in
theorem PySem.Challenge.cw_forerun_k55_whole_any_order_that_keeps_holds : PySem.Challenge.rw_forerun_k55_whole_any_order_that_keeps.Holds := by
 w_on; o_law; k_head; (case hw => w_witness2)
 k_fill
 refine L2.walk_ofX (l := PySem.Challenge.rw_forerun_k55_whole_any_order_that_keeps) (n := 63) (k := 16) (x := "script") (sp := K55.sp_law) rfl (by decide) rfl ⟨rfl, by decide, by decide⟩ (fun w h Y => PySem.W.kIn_of Y) ?F ?S
 case F =>
  intro w mg fa h KX G hmg
  have T : ∃ t, K55.Txt (L2.KOf KX) mg t := by
   dsimp only [L2.KOf]
   refine' K55.txt_mk KX G ?h0 ?h1 ?h2 ?h3 ?h4 ?h5 ?qa6 ?qi6 ?ql6 ?qc6 ?qk6 ?h7 ?h8 ?h9 ?h10 ?h11 ?h12 ?h13 ?h14 ?h15 ?h16 ?h17 ?h18 ?h19 ?qa20 ?qi20 ?ql20 ?qc20 ?qk20 ?qd20 ?h21 ?h22 ?h23 ?h24 ?h25 ?h26 ?h27 ?h28 ?h29 ?h30 ?h31 ?h32 ?h33 ?h34 ?qa35 ?qi35 ?ql35 ?qc35 ?qk35 ?h36 ?h37 ?h38 ?h39 ?h40 ?h41 ?h42 ?h43 ?h44 ?h45 ?h46 ?h47 ?h48 ?h49 ?qa50 ?ql50 ?qc50 ?qk50 ?qz0 ?qz1 ?qz2 ?qz3 ?qz4 ?qz5 ?qz6 ?qz7 ?qz8 ?qz9 ?qz10 ?qz11 ?qg0 ?qh0 ?qv0 ?qv1 ?qv2 ?qv3 ?qv4 ?pg0 ?pd0 ?po0 ?pe0 ?pm0_ ?pk0 ?pn0_0 ?pn0_1 ?pn0_2 ?pg4 ?pd4 ?po4 ?pe4 ?pm4_ ?pk4 ?pn4_0 ?pn4_1 ?pn4_2 ?pn4_3 ?pn4_4 ?pn4_5 ?pn4_6 ?rx0 ?ry0 ?re0_0 ?re0_1 ?rm0_0 ?rx1 ?ry1 ?re1_0 ?re1_1 ?rm1_0 ?rx2 ?ry2 ?re2_0 ?re2_1 ?rm2_0
   (case qv0 | qv1 | qv2 | qv3 | qv4 => k_is)
   (case h0 | h1 | h2 | h3 | h4 | h5 => exact ⟨_, by k_is, _, _, _, _, _, _, _, _, _, by k_is, by k_is, by k_is⟩)
   (case qa6 | qi6 | ql6 | qc6 | qk6 => k_is)
   (case h7 | h8 => exact ⟨_, by k_is, by k_is, _, _, _, _, _, _, _, _, _, by k_is, by k_is, by k_is⟩)
   (case h9 | h10 | h11 | h12 | h13 => exact ⟨_, by k_is, _, _, _, _, _, _, _, _, _, by k_is, by k_is, by k_is⟩)
   (case h14 | h15 | h16 | h17 | h18 | h19 => exact ⟨_, by k_is, by k_is, _, _, _, _, _, _, _, _, _, by k_is, by k_is, by k_is⟩)
   (case qa20 | qi20 | ql20 | qc20 | qk20 | qd20 => k_is)
   (case h21 | h22 | h23 | h24 | h25 | h26 | h27 | h28 | h29 | h30 | h31 | h32 | h33 | h34 => exact ⟨_, by k_is, _, _, _, _, _, _, _, _, _, by k_is, by k_is, by k_is⟩)
   (case qa35 | qi35 | ql35 | qc35 | qk35 => k_is)
   (case h36 | h37 | h38 => exact ⟨_, by k_is, by k_is, _, _, _, _, _, _, _, _, _, by k_is, by k_is, by k_is⟩)
   (case h39 | h40 | h41 | h42 | h43 | h44 | h45 | h46 | h47 | h48 | h49 => exact ⟨_, by k_is, _, _, _, _, _, _, _, _, _, by k_is, by k_is, by k_is⟩)
   (case qa50 | ql50 | qc50 | qk50 | qz0 | qz1 | qz2 | qz3 | qz4 | qz5 | qz6 | qz7 | qz8 | qz9 | qz10 | qz11 | qg0 | qh0 | pg0 | pd0 | po0 | pe0 | pm0_ | pk0 | pn0_0 | pn0_1 | pn0_2 | pg4 | pd4 | po4 | pe4 | pm4_ | pk4 | pn4_0 | pn4_1 | pn4_2 | pn4_3 | pn4_4 | pn4_5 | pn4_6 => k_is)
   (case rx0 => k_exc)
   (case ry0 => exact ⟨_, by k_is, by k_is, by k_is, by k_is, by k_is, by k_is, by k_is, by k_is⟩)
   (case re0_0 | re0_1 | rm0_0 => kernel_rfl)
   (case rx1 => k_exc)
   (case ry1 => exact ⟨_, by k_is, by k_is, by k_is, by k_is, by k_is, by k_is, by k_is, by k_is⟩)
   (case re1_0 | re1_1 | rm1_0 => kernel_rfl)
   (case rx2 => k_exc)
   (case ry2 => exact ⟨_, by k_is, by k_is, by k_is, by k_is, by k_is, by k_is, by k_is, by k_is⟩)
   (case re2_0 | re2_1 | rm2_0 => kernel_rfl)
  obtain ⟨t, T⟩ := T
  have e0 := hmg.symm.trans T.m_law
  cases e0
  exact ⟨_, T.w_law, fun base _ _ => K55.ok_law T⟩
 case S => exact fun K H a ns hl _ hS => ⟨a, ns, rfl, hS, hl, fun _ => rfl⟩
