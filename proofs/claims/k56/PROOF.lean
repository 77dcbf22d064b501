import PyProof.Rows.All
import Wide.All
import OpenK.AllK
import PySem.Challenge.RW_forerun_k56_whole_a_round_at_once
open Array renaming length_toList→bW,getElem?_eq_getElem→cE,getElem?_toList→cX,toList_inj→fR,perm_iff_toList_perm→gy,getElem?_eq_none→gX,getD_eq_getD_getElem?→i4,toArray_toList→nU,toList_map→pF,toList_zip→pG
open Array.Perm renaming trans→iF,refl→i7,mem_iff→oG
open Bool renaming false_ne_true→bJ,and_eq_true→bV,false_eq_true→cu,not_eq_true'→cB,or_eq_false_iff→iL,eq_iff_iff→iU,eq_false_iff→ml,or_false→oC,or_eq_true→pU
open Classical renaming epsilon_spec→gY,epsilon→ms
open False renaming elim→dv
open ForInStep renaming yield→gc
open Int renaming emod_lt_of_pos→cF,emod_nonneg→cQ,reduceNeg→dC,reducePow→dY,toNat_natCast→eI,toNat_of_nonneg→eQ,zero_add→gm,ediv_nonneg→lB,reduceToNat→nK,ediv_le_self→pJ
open Int.ofNat renaming inj→p9
open List renaming getElem?_eq_getElem→ba,getElem?_cons_zero→bc,getElem?_cons_succ→bd,getD_eq_getElem?_getD→bg,length_map→bn,set_cons_zero→bp,mem_cons_self→br,length_append→bt,set_cons_succ→bu,getElem?_eq_some_iff→bw,mem_cons_of_mem→bx,append_nil→bB,getElem?_map→bC,replicate→bE,size_toArray→bG,cons_append→bI,mem_cons→bK,range→bN,length→bO,mem_append→bP,nil_append→bQ,mem_append_right→bR,map_cons→bX,mem_singleton→b5,mem_map→b8,map→b9,length_cons→cp,mem_of_getElem?→cq,mem_append_left→cz,length_dropLast→cA,take_of_length_le→cC,mem_range→cI,getElem?_eq_none→cK,take_add_one→cM,length_range→cR,lookup_cons→cS,mem_filter→cT,getElem?_of_mem→cV,nodup_cons→cW,map_append→cY,length_take→c8,getElem_mem→da,length_singleton→dg,length_reverse→dj,take_length→dk,mem_map_of_mem→dy,all_eq_true→dz,getElem?_append_left→dG,map_congr_left→dJ,not_mem_nil→dN,getElem?_append_right→dQ,map_map→ee,length_drop→et,any_eq_true→eB,any_eq_false→eG,append_assoc→eK,ext_getElem?→eL,pairwise_map→eM,flatten_append→eS,Nodup→eV,mem_flatten→eW,take_append_drop→eZ,filter_append→ff,mem_of_mem_take→fj,foldl_cons→fu,reverse_cons→fA,getElem?_range→fJ,getElem_inj→fN,filter_cons→fO,eq_nil_of_length_eq_zero→fQ,mem_filterMap→fV,length_replicate→fZ,find?_cons→gb,getElem?_reverse→gj,idxOf_lt_length_of_mem→gk,all_cons→gq,getLastD_eq_getLast?→gE,getLast?_eq_getElem?→gF,nodup_range→gI,mem_reverse→gJ,filterMap_cons→gK,pairwise_cons→gT,getElem?_set_self→gW,lookup→ia,take_sublist→ic,nodup_nil→ig,drop_zero→ii,filterMap_append→iy,length_filter_le→iA,getElem?_set_ne→iI,any_cons→iO,getElem?_concat_length→lD,length_set→lE,length_pos_iff→lF,toArray→lR,getElem?_take→lS,pairwise_iff_getElem→lV,drop_eq_getElem_cons→lZ,flatten_cons→my,getElem?_replicate→mz,map_take→mR,length_eq_zero_iff→mS,map_reverse→mU,drop_eq_nil_of_le→m4,getElem?_dropLast→m7,drop_of_length_le→m8,of_mem_zip→nt,range_succ→nJ,take_zero→nZ,reverse_append→oj,filter_sublist→oq,map_drop→oI,getElem_idxOf→oK,foldl_append→oP,getElem?_inj→oQ,reverse_perm→oS,nodup_append→oU,reverse→pi,reverse_nil→pC,map_snd_zip→pH,length_nil→pR
open List.Nodup renaming sublist→oJ
open List.Pairwise renaming nil→mf,imp→mo,imp_of_mem→mw
open List.Perm renaming refl→l5
open List.Sublist renaming append→ot,refl→oV
open List.cons renaming injEq→bq
open Nat renaming le_refl→bj,reduceAdd→bL,reduceSub→bT,le_trans→bU,zero_le→bY,ne_of_lt→bZ,lt_of_le_of_lt→b0,le_succ_of_le→cx,lt_of_lt_of_le→cy,lt_irrefl→dX,succ_le_succ→eD,ne_of_gt→eF,not_lt_zero→eR,min_eq_left→gd,min_eq_right→gH,zero_add→iz,le_succ→iV,le_of_eq→nj,sub_zero→nB,le_of_lt→oX,lt_trans→o8,succ_pos→pj,lt_succ_self→pq,le_add_right→pE
open Ne renaming symm→cP
open Option renaming map_eq_some_iff→dq,isSome_iff_exists→fo,map_some→iX,isSome_map→ma,getD_none→pA,or_none→pV
open Option.some renaming injEq→bi,inj→bS
open Or renaming inl→cr,inr→gD
open Prod renaming ext→p8
open Prod.mk renaming inj→mQ
open PyProof renaming noPylong_of_log2→mj
open PyProof.Rows renaming callWith_type1→cJ,step_rev_list→gA,listUpdate_at→gS,get?_update_seq→i8,seqEpoch_at→i9,reads_newData→mG,subscriptTail_builtinR→mY,entry_list_sort→nE,Subscript_→nP,entry_proto_collect'→nT,slot_list_sort→nV,args_list_sort→nW,lt_int→og,plain_sorted→pb,entry_sorted→pd,args_sorted1→ph
open PySem renaming wpAny_bind→bb,wpAny_pure→bo,wpAny_call_entry→c9,wpAny_setField_rec→df,wpAny_typeNameOfWhole_itemiter→dh,wpAny_newObj_type→dm,sizeLine_eq→dw,wpAny_mono→dA,wpAny_typeNameOf_itemiter→dH,wpAny_holding→dI,wpAny_callSpecial?_slot→dM,wpAny_isOneOf_itemiter→dR,wpAny_truthy_bool→dU,wpAny_dictEntries→dW,wpAny_typeNameOfWhole_keyiter→eC,wpAny_execs_nil→eN,mem_of_lookup→eO,codeAny_builtin→eP,wpAny_Call_Name_kw→eX,tupleKind_room_in1→eY,plainId_quiet→fb,wpAny_passesOwn→fk,wpAny_dictEpoch→fC,wpAny_typeNameOf_keyiter→fD,wpAny_updateSeq→fF,codeAny_mono→fY,wpAny_notOrdered_dict→gf,wpAny_loadPart'→gg,wpAny_field→gh,wpAny_Call_method0_late→gQ,plainObj_wpAny_Assign_Attribute→ib,wpAny_fieldsOf→im,builtinLookup_eq_fast→iu,codeAny_handlers_test→iw,wpAny_execs_cons→iD,wpAny_pyIter_revIter→iK,wpAny_newList→iP,wpAny_attempt→iQ,evalArgs_none→iW,wpAny_handleBy_cons→lA,wpAny_FormattedValue_plain→lH,wpAny_newTuple→lU,wpAny_pyIter_list→l7,slot_list_getitem→l8,wpAny_getItem_list_slice→l9,call→md,wpAny_comprehension_free→mh,wpAny_pyIter_slot→mm,evalPart_none→mB,wpAny_getItem_str_slice→mE,wpAny_letGo→mK,wpAny_isInstance→mT,wpAny_pyNext_list_item→mV,wpAny_pyNext_range_end→mW,wpAny_pyIter_rangeiter→mX,codeAny_handlers_suite→m5,wpAny_pyNext_list_end→nh,wpAny_specialOf→nv,wpAny_isOneOf_keyiter→nF,wpAny_typeOf→nG,typeLookup_type→nH,wpAny_load→nM,call_meets→nQ,wpAny_loadName_local→nS,wpAny_setField→nX,callType_codes→nY,evalPart_some→oz,typeIs_str→oO,Within→oW,call_meetsIn→o9
open PySem.Around renaming under_plainId→dD,under→oY
open PySem.Builtin.Dict renaming showsAll→dZ,updateFrom→mI,noArgs→om
open PySem.Builtin.Dict_items renaming ownsTuple→du,ownedTupleIsFree→dL,pairFromOwner→dP,ownedTupleFields→gL
open PySem.Builtin.Int renaming intBits→iY
open PySem.Builtin.List renaming listExtendWith→cL,listSameRef→fG,listItems→fU,listTooLong→gN,listLengthHint→lC,listUpdate→mP
open PySem.Builtin.Range renaming rangeSize→fI,small→oo
open PySem.Builtin.Str renaming strSliceIndices→iZ,occurrences→mF
open PySem.Calls renaming spliced_cons→eh,callWith_builtin→eU,call_function_entry→fi,spliced_nil→gp,Constant_str→gO,evalArgs_plain→iJ,Name_function_global→lG
open PySem.Code renaming isFrame→oZ
open PySem.Data renaming fields→pN
open PySem.F renaming plainAttrs_list→cG,slot_dict_itemiterator_next→cO,slot_list_append→db,type_list_append→de,plain_extend_loop→dn,slot_dict_keyiterator_next→eE,args_dict_itemiterator_next_1→fE,entry_dict_itemiterator_next→fH,plain_list_iadd→fK,slot_dict_items→fL,plainAttrs_dict→gR,slot_dict_get→ip,args_dict_keyiterator_next_1→ir,slot_list_pop→iB,type_list_pop→iC,entry_dict_keyiterator_next→iG,slot_dict_itemiterator_iter→iH,plain_proto_collect→lq,args_dict_items_1→lX,entry_extend_loop→lY,entry_dict_items→mq,args_list_init_2→mr,args_dict_get_3→mC,type_dict_items→mL,typeCall_list_1→mM,entry_list_init→mO,entry_dict_get→mZ,slot_dict_items_iter→m6,slot_tuple_lt→nI,called_list→on,slot_str_getitem→oF
open PySem.Heap renaming get?_push_of_some→bh,get?_push_size→bz,lt_size→bF,get?_update_other→cN,SameBut→cZ,get?_update_self→ed,size_push→fT,get?_push_cases→iM
open PySem.Heap.IsSliceOf renaming new→oA
open PySem.Heap.SameBut renaming update→lh
open PySem.IsRange renaming new→pO
open PySem.NameKind renaming free→dt,cell→mD
open PySem.Obj renaming mapSeq→cD,data_mapFields→oH
open PySem.Paired renaming length→bH
open PySem.PassesOwn renaming never→cU
open PySem.PyData renaming strOk→cf,depthAll→cj,depth→dF,canLay0→fh,canLayAll0→gr,eqv→ie,eqvAll→iR,int→mv
open PySem.SeqAt renaming noMixAll→ik,shaped→iq,noMix→oh
open PySem.SeqAt.EqAt renaming int_int→lO,str_str→lP,int_str→ou,str_int→ox
open PySem.Shared renaming TypeIs→mJ
open PySem.Spec renaming sameAll→lQ,same→pS
open PySem.Str renaming ofString→bf,length_append→eJ,length→gM,empty→gP
open PySem.Txt renaming sliceBy→fM,slice→fP
open PySem.Value renaming ref→bM,none→cH,type→gn,bool→gZ,int→io,str→iS,float→pL
open PySem.W renaming Frag→bD,findIn→dE,mg_none_of→dO,hideAll_none→fS,exmOne→fW,emptyDict→fX,hideAll→gB,kia_one→gC,keepIn→gG,nsIn→gU,funFrames_hide→iE,hideAll_get→iN,instObj→iT,of_hideAll→lI,kitOne→lJ,fnOf→lK,codeIn→lL,kas_desc→mH,callWith_K→nk,methodCall_KW→nr,excIn→nA,kas_place→nD,plainGet→nN,exmAny→nR,hasDictIn→n9,plainGet_of→oy,OpenLaw→oE,mg_of→oR,methodObj→pM,plainOver→pP,specialIn→pQ,lookIn→pX,mroIn→pY,WalkO→pZ,isFn→re
open PySem.W.KatTups renaming cons→rf
open PySem.W.Looks renaming ld→pW
open StateT renaming run_pure→pT
open Sum renaming inl→oM,inr→oN
open Sum.inl renaming inj→pK
open True renaming intro→fm
set_option Elab.async false
set_option linter.all false
set_option maxRecDepth 100000
namespace L2
open PySem PySem.Spec PyProof.Rows
abbrev Key:=Sum Int Str
def Wg:Key→Value→Bool
 | .inl k,v=>Value.isInt k v
 | .inr x,v=>Value.isStrOf x v
def zgE (w:World):Key→Int
 | .inl k=>hashInt k
 | .inr x=>hashStr w x
theorem yz:∀ {k:Key} {v:Value},Wg k v=true→(∃ i t,k=oM i∧v=io i t)∨(∃ x t,k=oN x∧v=iS x t)
 | .inl i,v,h=>by
  obtain ⟨t,e⟩:=Value.isInt_shape (k:=i) (v:=v) h
  exact .inl ⟨i,t,rfl,e⟩
 | .inr x,v,h=>by
  obtain ⟨t,e⟩:=Value.isStrOf_shape (x:=x) (v:=v) h
  exact .inr ⟨x,t,rfl,e⟩
theorem zai (i:Int) (t:Tok):Wg (.inl i) (.int i t)=true:=by simp [Wg,Value.isInt]
theorem zaj (x:Str) (t:Tok):Wg (.inr x) (.str x t)=true:=by simp [Wg,Value.isStrOf]
theorem ze0 (a b:Int):decide ((oM a:Key)=oM b)=(a == b):=by
 by_cases e:a=b
 ·subst e;simp
 ·have h:¬ (oM a:Key)=oM b:=fun q=>e (pK q)
  rw [decide_eq_false h]
  exact (beq_eq_false_iff_ne.mpr e).symm
theorem ze1 (a b:Str):decide ((oN a:Key)=oN b)=decide (a=b):=by
 by_cases e:a=b
 ·subst e;simp
 ·have h:¬ (oN a:Key)=oN b:=fun q=>e (Sum.inr.inj q)
  rw [decide_eq_false h,decide_eq_false e]
theorem ze2 (a:Int) (b:Str):decide ((oM a:Key)=oN b)=false:=decide_eq_false (fun q=>nomatch q)
theorem ze3 (a:Str) (b:Int):decide ((oN a:Key)=oM b)=false:=decide_eq_false (fun q=>nomatch q)
def yA (prog:Program) (w:World):PySem.KeyKind prog w Key where
 is:=Wg
 hash:=zgE w
 inj:=fun v a b ha hb=>by
  rcases yz ha with ⟨i,t,rfl,rfl⟩ | ⟨x,t,rfl,rfl⟩
  ·rcases yz hb with ⟨j,u,rfl,e⟩ | ⟨y,u,rfl,e⟩
   ·injection e with e1 _;rw [e1]
   ·exact nomatch e
  ·rcases yz hb with ⟨j,u,rfl,e⟩ | ⟨y,u,rfl,e⟩
   ·exact nomatch e
   ·injection e with e1 _;rw [e1]
 byValue:=fun k v h=>by
  rcases yz h with ⟨i,t,rfl,rfl⟩ | ⟨x,t,rfl,rfl⟩ <;> rfl
 pyHash:=fun hv h=>by
  rcases yz hv with ⟨i,t,rfl,rfl⟩ | ⟨x,t,rfl,rfl⟩
  ·exact wpAny_pyHash_int h
  ·exact wpAny_pyHash_str h
 eqBool:=fun hu hv h=>by
  rcases yz hu with ⟨i,t,rfl,rfl⟩ | ⟨x,t,rfl,rfl⟩
  ·rcases yz hv with ⟨j,u,rfl,rfl⟩ | ⟨y,u,rfl,rfl⟩
   ·rw [ze0] at h;exact wpAny_eqBool_int h
   ·rw [ze2] at h;exact ou i t y u _ _ _ _ h
  ·rcases yz hv with ⟨j,u,rfl,rfl⟩ | ⟨y,u,rfl,rfl⟩
   ·rw [ze3] at h;exact ox x t j u _ _ _ _ h
   ·rw [ze1] at h;exact wpAny_eqBool_str h
 «strs»:=fun k x t v h=>by
  rcases yz h with ⟨i,u,rfl,e⟩ | ⟨y,u,rfl,e⟩
  ·exact nomatch e
  ·injection e with e1 _
   subst e1
   cases v <;> rfl
theorem VR (prog:Program) (w:World) (i:Int) (t:Tok):(yA prog w).is (.inl i) (.int i t)=true:=zai i t
theorem VS (prog:Program) (w:World) (x:Str) (t:Tok):(yA prog w).is (.inr x) (.str x t)=true:=zaj x t
inductive V where
 | non | bl (b:Bool) | int (i:Int) | str (x:Str) | byt (b:Array UInt8) | flt (b:UInt64) | ref (a:Addr) | ty (n:String)
 deriving DecidableEq
def RelV:V→Value→Prop
 | .non,u=>u=cH
 | .bl b,u=>u=gZ b
 | .int i,u=>∃ t,u=io i t
 | .str x,u=>∃ t,u=iS x t
 | .byt b,u=>∃ t,u=Value.bytes b t
 | .flt b,u=>∃ t,u=pL b t
 | .ref a,u=>u=bM a
 | .ty n,u=>u=gn n
abbrev Vals:List V→List Value→Prop:=Paired RelV
theorem Vals.length {xs:List V} {us:List Value} (r:Vals xs us):xs.length=us.length:=bH r
theorem Vals.get:∀ {xs:List V} {us:List Value} {i:Nat} {x:V},Vals xs us→xs[i]?=some x→∃ u,us[i]?=some u∧RelV x u
 | _,_,_,_,.nil,e=>by simp at e
 | _,_,0,_,.cons r _,e=>by simp at e;subst e;exact ⟨_,rfl,r⟩
 | _,_,i + 1,x,.cons _ t,e=>by
  obtain ⟨u,h1,h2⟩:=Vals.get (i:=i) (x:=x) t (by simpa using e)
  exact ⟨u,by simpa using h1,h2⟩
theorem Vals.append:∀ {xs ys:List V} {us ws:List Value},Vals xs us→Vals ys ws→Vals (xs ++ ys) (us ++ ws)
 | _,_,_,_,.nil,s=>s
 | _,_,_,_,.cons r t,s=>.cons r (Vals.append t s)
theorem Vals.take:∀ {xs:List V} {us:List Value} (n:Nat),Vals xs us→Vals (xs.take n) (us.take n)
 | _,_,0,_=>.nil
 | _,_,_ + 1,.nil=>.nil
 | _,_,n + 1,.cons r t=>.cons r (Vals.take n t)
theorem Vals.drop:∀ {xs:List V} {us:List Value} (n:Nat),Vals xs us→Vals (xs.drop n) (us.drop n)
 | _,_,0,r=>r
 | _,_,_ + 1,.nil=>.nil
 | _,_,n + 1,.cons _ t=>Vals.drop n t
def RelO:Option V→Option Value→Prop
 | some v,some u=>RelV v u
 | none,none=>True
 | _,_=>False
def KV {κ:Type}:List (κ × V)→List (κ × Value)→Prop:=Paired fun (p:κ × V) (q:κ × Value)=>p.1=q.1∧RelV p.2 q.2
def kV:Key→V
 | .inl i=>.int i
 | .inr x=>.str x
inductive HO where
  | lst (xs:List V)
  | tup (xs:List V)
  | dK (kvs:List (Key × V)) | dT (kvs:List (List Key × V))
  | set (S:Int→Bool) (n:Nat)
  | ins (C dx:Addr) (fs:List (Str × V))
  | own (x:Addr)
  | xd (fs:List (Str × V))
  | met (f x:Addr)
  | rng (lo hi:Int)
  | frz (o:Obj) (u:HO)
  | tbl (ps:Array Value)
  | ext (φ:Heap→Prop)
abbrev Hp:=Addr→Option HO
def upd (H:Hp) (a:Addr) (o:HO):Hp:=fun b=>if b=a then some o else H b
theorem ze {H:Hp} {a:Addr} {o:HO}:upd H a o a=some o:=by unfold upd;rw [if_pos rfl]
theorem zk {H:Hp} {a b:Addr} {o:HO} (h:b≠a):upd H a o b=H b:=by unfold upd;rw [if_neg h]
theorem Yq {H:Hp} {a:Addr} {o u:HO}:upd (upd H a o) a u=upd H a u:=by
 funext b;unfold upd;split <;> rfl
theorem yE {H:Hp} {a b:Addr} {o u:HO} (h:H a=some o) (h':H b=some u) (d:o≠u):a≠b:=by
 intro e;subst e;rw [h] at h';exact d (bS h')
theorem zP {H:Hp} {a b:Addr} {o:HO} (h:H a=some o) (h':H b=none):a≠b:=by
 intro e;subst e;rw [h] at h';cases h'
section
variable (P:Program) (w:World)
def ObjOk (H:Hp) (h:Heap) (a:Addr):HO→Prop
 | .lst xs=>xs.length≤sizeLine∧∃ (its:List Value) (n:Nat),Vals xs its∧h.get? a=some { cls:=.type "list",data:=.seq its.toArray n }
 | .tup xs=>xs.length≤sizeLine∧∃ its:List Value,Vals xs its∧IsTup h a its.toArray
 | .dK kvs=>kvs.length≤sizeLine∧(a == sysModules)=false∧∃ vs,KV kvs vs∧h.DictOf (yA P w) a vs
 | .dT kvs=>kvs.length≤sizeLine∧(a == sysModules)=false∧∃ xs:List (List Key × Addr × Value),
   Paired (fun (p:List Key × V) (q:List Key × Addr × Value)=>p.1=q.1∧H q.2.1=some (.tup (p.1.map kV))∧RelV p.2 q.2.2) kvs xs ∧
   ∃ o es ep,h.get? a=some o∧o.ExactDict∧o.data=.dict es ep∧es.toList=xs.map (entryOfKey (tupleKind (yA P w)))∧(xs.map (·.1)).Nodup
 | .set S n=>h.SetOf (intKind P w) a S n
 | .ins C dx fs=>H dx=some (.own a)∧fs.length≤1000∧dx≠a∧h.get? a=some (iT C dx) ∧
   ∃ mA,h.Ns1 dx mA∧(∀ f,RelO (fs.lookup f) (mA f))∧oW mA (fs.map (·.1))
 | .own _=>∃ o,h.get? a=some o
 | .xd fs=>∃ mA,h.Ns1 a mA∧∀ f,RelO (fs.lookup f) (mA f)
 | .rng lo hi=>∃ t u v,h.get? a=some { cls:=.type "range",data:=.fields #[.int lo t,.int hi u,.int 1 v] }
 | .frz o u=>h.get? a=some o∧ObjOk H h a u
 | .tbl ps=>h.get? a=some { cls:=.none,data:=.fields ps }
 | .met f x=>h.get? a=some (pM (.ref f) (.ref x))
 | .ext φ=>φ h∧(∃ o,h.get? a=some o)∧∀ h1 h2:Heap,φ h1→(∀ o,h1.get? a=some o→h2.get? a=some o)→φ h2
def HOk (H:Hp) (h:Heap):Prop:=∀ a o,H a=some o→ObjOk P w H h a o
end
section
variable {P:Program} {w:World} {H H':Hp} {h h':Heap} {a:Addr} {o:HO}
theorem ObjOk.lt (x:ObjOk P w H h a o):a < h.objs.size:=by
 cases o with
 | lst xs=>obtain ⟨_,_,_,_,e⟩:=x;exact bF e
 | tup xs=>obtain ⟨_,_,_,p⟩:=x;exact p.lt
 | dK kvs=>obtain ⟨_,_,_,_,o,_,_,e,_⟩:=x;exact bF e
 | dT kvs=>obtain ⟨_,_,_,_,o,_,_,e,_⟩:=x;exact bF e
 | set S n=>obtain ⟨o,_,_,_,e,_⟩:=x;exact bF e
 | ins C dx fs=>obtain ⟨_,_,_,e,_⟩:=x;exact bF e
 | own y=>obtain ⟨_,e⟩:=x;exact bF e
 | xd fs=>obtain ⟨_,⟨_,_,_,e,_⟩,_⟩:=x;exact bF e
 | rng lo hi=>obtain ⟨_,_,_,e⟩:=x;exact bF e
 | frz ob u=>obtain ⟨e,_⟩:=x;exact bF e
 | tbl ps=>exact bF (show h.get? a=some _ from x)
 | met f y=>exact bF (show h.get? a=some _ from x)
 | ext φ=>obtain ⟨_,⟨_,e⟩,_⟩:=x;exact bF e
theorem Paired.mapP {α β:Type} {F G:α→β→Prop}:∀ {l₁:List α} {l₂:List β},Paired F l₁ l₂→(∀ a b,F a b→G a b)→Paired G l₁ l₂
 | _,_,.nil,_=>.nil
 | _,_,.cons r t,f=>.cons (f _ _ r) (Paired.mapP t f)
theorem ObjOk.stay (x:ObjOk P w H h a o) (k:∀ b u,(b=a∨H b=some (.own a))→h.get? b=some u→h'.get? b=some u)
  (ho:∀ b,H b=some (.own a)→H' b=some (.own a)) (ht:∀ b xs,H b=some (.tup xs)→H' b=some (.tup xs)):ObjOk P w H' h' a o:=by
 induction o with
 | lst xs=>obtain ⟨z,its,n,r,e⟩:=x;exact ⟨z,its,n,r,k _ _ (.inl rfl) e⟩
 | tup xs=>obtain ⟨z,its,r,ob,e,c⟩:=x;exact ⟨z,its,r,ob,k _ _ (.inl rfl) e,c⟩
 | dK kvs=>obtain ⟨z,y,vs,r,ob,es,ep,e,c⟩:=x;exact ⟨z,y,vs,r,ob,es,ep,k _ _ (.inl rfl) e,c⟩
 | dT kvs =>
  obtain ⟨z,y,xs,r,ob,es,ep,e,c⟩:=x
  exact ⟨z,y,xs,Paired.mapP r fun p q z=>⟨z.1,ht _ _ z.2.1,z.2.2⟩,ob,es,ep,k _ _ (.inl rfl) e,c⟩
 | set S n=>obtain ⟨ob,es,ep,t,e,c⟩:=x;exact ⟨ob,es,ep,t,k _ _ (.inl rfl) e,c⟩
 | ins C dx fs =>
  obtain ⟨d,z,ne,e,mA,⟨od,es,ep,e2,c⟩,r⟩:=x
  exact ⟨ho _ d,z,ne,k _ _ (.inl rfl) e,mA,⟨od,es,ep,k _ _ (.inr d) e2,c⟩,r⟩
 | own y=>obtain ⟨ob,e⟩:=x;exact ⟨ob,k _ _ (.inl rfl) e⟩
 | xd fs=>obtain ⟨mA,⟨od,es,ep,e,c⟩,r⟩:=x;exact ⟨mA,⟨od,es,ep,k _ _ (.inl rfl) e,c⟩,r⟩
 | rng lo hi=>obtain ⟨t,u,v,e⟩:=x;exact ⟨t,u,v,k _ _ (.inl rfl) e⟩
 | frz ob u ih=>obtain ⟨e,q⟩:=x;exact ⟨k _ _ (.inl rfl) e,ih q⟩
 | tbl ps =>
  have e:h.get? a=some { cls:=.none,data:=.fields ps }:=x
  show h'.get? a=some { cls:=.none,data:=.fields ps }
  exact k a _ (.inl rfl) e
 | met f y =>
  have e:h.get? a=some (pM (.ref f) (.ref y)):=x
  show h'.get? a=some (pM (.ref f) (.ref y))
  exact k a _ (.inl rfl) e
 | ext φ=>obtain ⟨p,⟨o,e⟩,st⟩:=x;exact ⟨st _ _ p fun o q=>k _ _ (.inl rfl) q,⟨o,k _ _ (.inl rfl) e⟩,st⟩
theorem HOk.lt (x:HOk P w H h) (e:H a=some o):a < h.objs.size:=(x a o e).lt
theorem HOk.fresh (x:HOk P w H h) (e:h.objs.size≤a):H a=none:=by
 cases q:H a with
 | none=>rfl
 | some u=>exact absurd (cy (x.lt q) e) (dX _)
theorem HOk.kept (x:HOk P w H h) (k:∀ b u,h.get? b=some u→h'.get? b=some u):HOk P w H h':=fun a o e =>
 (x a o e).stay (fun b u _ q=>k b u q) (fun _ q=>q) fun _ _ q=>q
theorem HOk.laid (x:HOk P w H h) (k:∀ b u,h.get? b=some u→h'.get? b=some u) (hp:h.objs.size≤a) (new:ObjOk P w (upd H a o) h' a o):HOk P w (upd H a o) h':=fun b u e=>by
 have hn:=x.fresh hp
 by_cases hb:b=a
 ·subst hb;rw [ze] at e;cases e;exact new
 ·rw [zk hb] at e
  exact (x b u e).stay (fun c v _ q=>k c v q) (fun c q=>by rw [zk (zP q hn)];exact q) fun c xs q=>by rw [zk (zP q hn)];exact q
end
def Rd (H:Hp) (a:Addr) (u:HO):Prop:=H a=some u∨∃ o,H a=some (.frz o u)
theorem Rd.ok {P:Program} {w:World} {H:Hp} {h:Heap} {a:Addr} {u:HO} (r:Rd H a u) (x:HOk P w H h):ObjOk P w H h a u:=by
 rcases r with r | ⟨o,r⟩
 ·exact x a u r
 ·obtain ⟨_,q⟩:=x a _ r
  exact q
def Mut:Option HO→Prop
 | some (.lst _)=>True
 | some (.dK _)=>True
 | some (.dT _)=>True
 | some (.set _ _)=>True
 | some (.ins _ _ _)=>True
 | some (.ext _)=>True
 | _=>False
section
variable {P:Program} {w:World} {H:Hp} {h h':Heap} {x e:Addr} {o':HO}
theorem HOk.write (ok:HOk P w H h) (mu:Mut (H x)) (he:e=x∨H e=some (.own x)) (k:∀ b u,b≠e→h.get? b=some u→h'.get? b=some u) (heo:∃ u,h'.get? e=some u)
  (new:ObjOk P w (upd H x o') h' x o'):HOk P w (upd H x o') h':=fun b u q=>by
 have nown:∀ c y,H c=some (.own y)→c≠x:=fun c y r z=>by subst z;rw [r] at mu;exact mu
 have ntup:∀ c xs,H c=some (.tup xs)→c≠x:=fun c xs r z=>by subst z;rw [r] at mu;exact mu
 by_cases hb:b=x
 ·subst hb;rw [ze] at q;cases q;exact new
 ·rw [zk hb] at q
  by_cases hbe:b=e
  ·have q':H b=some (.own x):=by
    rcases he with z | z
    ·exact absurd (hbe.trans z) hb
    ·rw [hbe];exact z
   rw [q] at q';cases q'
   obtain ⟨v,hv⟩:=heo
   exact ⟨v,by rw [hbe];exact hv⟩
  ·refine (ok b u q).stay (fun c v hc r=>k c v ?_ r) (fun c r=>by rw [zk (nown c b r)];exact r) fun c xs r=>by rw [zk (ntup c xs r)];exact r
   rcases hc with rfl | hc
   ·exact hbe
   ·rintro rfl
    rcases he with z | z
    ·exact nown c b hc z
    ·rw [hc] at z;cases z;exact hb rfl
end
structure Un (fs ex:List Addr) (H H':Hp) (h h':Heap):Prop where
 keep:∀ b o,h.get? b=some o→H b=none→b ∉ fs→b ∉ ex→h'.get? b=some o
 slot:∀ b o,h.get? b=some o→H b=none→b∈fs→b ∉ ex→∃ sl,h'.get? b=some { o with slots:=sl }
 free:∀ b o,h.get? b=some o→H b=none→b ∉ ex→H' b=none
 there:∀ b o,h.get? b=some o→b ∉ ex→∃ o',h'.get? b=some o'
 tups:∀ b xs,H b=some (.tup xs)→H' b=some (.tup xs)
 frzs:∀ b o u,H b=some (.frz o u)→H' b=some (.frz o u)
 tbls:∀ b ps,H b=some (.tbl ps)→∃ more,H' b=some (.tbl (ps ++ more))
section
variable {fs fs' ex ex':List Addr} {H H1 H2:Hp} {h h1 h2 h':Heap} {a x e:Addr} {o:HO}
theorem Un.any (u:Un fs ex H H1 h h1) {b:Addr} {ob:Obj} (q:h.get? b=some ob) (n:H b=none) (hx:b ∉ ex):∃ sl,h1.get? b=some { ob with slots:=sl }:=by
 by_cases hb:b∈fs
 ·exact u.slot b ob q n hb hx
 ·exact ⟨ob.slots,u.keep b ob q n hb hx⟩
theorem Un.kept (k:∀ b u,h.get? b=some u→h'.get? b=some u):Un fs ex H H h h' :=
 ⟨fun b ob q _ _ _=>k b ob q,fun b ob q _ _ _=>⟨ob.slots,k b ob q⟩,fun _ _ _ n _=>n,fun b ob q _=>⟨ob,k b ob q⟩,fun _ _ q=>q,fun _ _ _ q=>q,fun _ ps q=>⟨#[],by rw [q];simp⟩⟩
theorem Un.refl:Un fs ex H H h h:=Un.kept fun _ _ q=>q
theorem Un.laid (k:∀ b u,h.get? b=some u→h'.get? b=some u) (hp:h.objs.size≤a) (hn:H a=none):Un fs ex H (upd H a o) h h' where
 keep:=fun b u q _ _ _=>k b u q
 slot:=fun b u q _ _ _=>⟨u.slots,k b u q⟩
 free:=fun b u q n _=>by rw [zk (bZ (cy (bF q) hp))];exact n
 there:=fun b u q _=>⟨u,k b u q⟩
 tups:=fun b xs q=>by rw [zk (zP q hn)];exact q
 frzs:=fun b u xs q=>by rw [zk (zP q hn)];exact q
 tbls:=fun b ps q=>⟨#[],by rw [zk (zP q hn),q];simp⟩
theorem Un.write (mu:Mut (H x)) (he:e=x∨H e=some (.own x)) (k:∀ b u,b≠e→h.get? b=some u→h'.get? b=some u) (heo:∃ u,h'.get? e=some u):Un fs ex H (upd H x o) h h':=by
 have hx:∀ b,H b=none→b≠x:=fun b n z=>by subst z;rw [n] at mu;exact mu
 have hb:∀ b,H b=none→b≠e:=fun b n z=>by
  subst z
  rcases he with r | r
  ·exact hx b n r
  ·rw [n] at r;cases r
 have hm:∀ b u,H b=some u→¬ Mut (some u)→b≠x:=fun b u q nm z=>by subst z;rw [q] at mu;exact nm mu
 refine ⟨fun b u q n _ _=>k b u (hb b n) q,fun b u q n _ _=>⟨u.slots,k b u (hb b n) q⟩,fun b u q n _=>by rw [zk (hx b n)];exact n,fun b u q _=>?_,
  fun b xs q=>by rw [zk (hm b _ q fun z=>z)];exact q,fun b u xs q=>by rw [zk (hm b _ q fun z=>z)];exact q,fun b ps q=>⟨#[],by rw [zk (hm b _ q fun z=>z),q];simp⟩⟩
 by_cases hbe:b=e
 ·subst hbe;exact heo
 ·exact ⟨u,k b u hbe q⟩
end
def trk (h:Heap) (H:Hp):List Addr:=(bN h.objs.size).filter fun a=>(H a).isSome
def WT (h:Heap) (H:Hp):Heap:=gB h (trk h H)
theorem zak (h:Heap) (H:Hp):(WT h H).objs.size=h.objs.size:=W.hideAll_size _ _
theorem za4 {h:Heap} {H:Hp} {b:Addr} {o:Obj} (e:h.get? b=some o) (n:H b=none):(WT h H).get? b=some o :=
 iN _ e fun hm=>by
  have q:(H b).isSome=true:=(cT.mp hm).2
  rw [n] at q;simp at q
theorem zdl {h:Heap} {H:Hp} {b:Addr} {o:Obj} (e:(WT h H).get? b=some o):h.get? b=some o∧H b=none:=by
 have e':h.get? b=some o:=lI (trk h H) e
 refine ⟨e',?_⟩
 cases q:H b with
 | none=>rfl
 | some x =>
  have hm:b∈trk h H:=cT.mpr ⟨cI.mpr (bF e'),by simp [q]⟩
  have z:(WT h H).get? b=none:=fS (trk h H) hm
  rw [z] at e;cases e
def zdm (g h:Heap) (L:Addr):List (Addr × Obj):=(bN h.objs.size).filterMap fun a=>if a=L∨(g.get? a).isSome=true then none else (h.get? a).map fun o=>(a,o)
def rest (g h:Heap) (L d:Addr):List (Addr × Obj):=(zdm g h L).filter fun p=>decide (p.1≠d)
structure Mod (K:bD) (mg:Str→Option Value) (base:Heap):Prop where
 kin:K.In base
 glob:base.Ns mainGlobals mg
 blt:∃ mb,base.Ns builtinsNs mb∧∀ x:Str,x≠"__name__"→mb x=bootBuiltins x
 nolimit:base.NoLimit
set_option genSizeOf false in
set_option genInjectivity false in
structure Cx where
 prog:Program
 w:World
 K:bD
 mg:Str→Option Value
 base:Heap
 A:Around
 N:List Str
 s₀:Shared
 H₀:Hp
 env:Env
 outer:List Env
 stack:List Env
 ex:List Addr
 fn:Str→Bool
 calm:Bool
 pn:List (Addr × Obj)
 xe:Value→Shared→Prop
def frs (l:List Env):List Addr:=l.filterMap (·.frame)
abbrev Cx.fs (X:Cx):List Addr:=frs X.outer
def Vis (sc:Scope) (x:Str):Prop:=sc.names.lookup x=some .local∨sc.names.lookup x=some .cell∨sc.names.lookup x=some .free
def Loc (sc:Scope) (x:Str):Prop:=sc.names.lookup x=some .local∨sc.names.lookup x=some .cell
def zgF (env:Env) (h:Heap) (m:Str→Option Value) (x:Str) (u:Value):Prop :=
 (env.kindOf x=some .local∧m x=some u)∨((env.kindOf x=some .cell∨env.kindOf x=some .free)∧∃ c,env.cells.lookup x=some c∧h.IsCell c (some u))
structure Cx.Ok (X:Cx):Prop where
 mod:Mod X.K X.mg X.base
 kind:X.env.scope.kind=.function
 glob:X.env.globals=mainGlobals
 blt:X.env.builtins=builtinsNs
 above:X.s₀.heap.objs.size≤X.env.locals
 inj:∀ x y c,X.env.cells.lookup x=some c→X.env.cells.lookup y=some c→x=y
 has:∀ x,(X.env.kindOf x=some .cell∨X.env.kindOf x=some .free)→∃ c,X.env.cells.lookup x=some c
 cab:∀ x c,X.fn x=true→X.env.cells.lookup x=some c→X.s₀.heap.objs.size≤c
 hd:X.calm=true→X.A.handled=none
 frames:X.A.frames=some X.stack
 stk:X.stack=X.outer∨(X.stack=X.env :: X.outer∧X.env.frame=some X.env.locals)
 exf:∀ b∈X.ex,b≠X.env.locals∧∀ x c,X.env.cells.lookup x=some c→c≠b
 bs:∀ b o,X.base.get? b=some o→X.s₀.heap.get? b=some o∧X.H₀ b=none
 bsz:X.base.objs.size≤X.s₀.heap.objs.size
 noex:∀ b o,X.base.get? b=some o→b ∉ X.ex
 exfs:∀ b∈X.ex,b ∉ X.fs
 funs:X.s₀.heap.FunFrames X.base X.outer
 frf:∀ b∈X.fs,X.H₀ b=none
structure Inv (X:Cx) (pins:List (Addr × Obj)) (σ:List (Option V)) (H:Hp) (s:Shared):Prop where
 ok:X.Ok
 os:s.os=X.s₀.os
 bare:AllBare s.gens
 base:Un X.fs X.ex X.H₀ H X.s₀.heap s.heap
 loc:∃ m,s.heap.Ns X.env.locals m∧∀ (i:Nat) (x:Str) (v:V),X.N[i]?=some x→σ[i]?=some (some v)→Vis X.env.scope x→∃ u,RelV v u∧zgF X.env s.heap m x u
 cell:∀ x c,X.env.cells.lookup x=some c→∃ v,s.heap.IsCell c v
 free:H X.env.locals=none
 freeC:∀ x c,X.env.cells.lookup x=some c→H c=none
 pin:∀ p∈X.pn ++ pins,s.heap.get? p.1=some p.2∧H p.1=none∧p.1≠X.env.locals∧p.1 ∉ X.fs∧∀ v,p.2.data≠.cell v
 hok:HOk X.prog X.w H s.heap
 len:σ.length=X.N.length
section
variable {X:Cx} {pins:List (Addr × Obj)} {σ:List (Option V)} {H H':Hp} {s:Shared} {h':Heap}
theorem Cx.Ok.nofr (ok:X.Ok) {b:Addr} {o:Obj} (e:X.base.get? b=some o):b ∉ X.fs:=fun hb=>by
 have:=(ok.funs.mem hb).1
 rw [e] at this;cases this
theorem Inv.bs (I:Inv X pins σ H s):∀ b o,X.base.get? b=some o→s.heap.get? b=some o∧H b=none:=fun b o e =>
 ⟨I.base.keep b o (I.ok.bs b o e).1 (I.ok.bs b o e).2 (I.ok.nofr e) (I.ok.noex b o e),I.base.free b o (I.ok.bs b o e).1 (I.ok.bs b o e).2 (I.ok.noex b o e)⟩
theorem Inv.bk (I:Inv X pins σ H s):∀ b o,X.base.get? b=some o→s.heap.get? b=some o:=fun b o e=>(I.bs b o e).1
theorem Inv.mod (I:Inv X pins σ H s):Mod X.K X.mg X.base:=I.ok.mod
theorem Inv.kIn (I:Inv X pins σ H s):X.K.In s.heap:=I.ok.mod.kin.keeps I.bk
theorem Inv.lt (I:Inv X pins σ H s):X.env.locals < s.heap.objs.size:=let ⟨_,hn,_⟩:=I.loc;hn.lt
theorem Inv.sz (I:Inv X pins σ H s):X.s₀.heap.objs.size≤s.heap.objs.size:=bU I.ok.above (oX I.lt)
theorem Inv.nofs (I:Inv X pins σ H s) {a:Addr} (h:s.heap.objs.size≤a):a ∉ X.fs:=fun hb=>by
 obtain ⟨_,o,ho,_⟩:=I.ok.funs.mem hb
 exact absurd (cy (bF ho) (bU I.sz h)) (dX _)
theorem Inv.cne (I:Inv X pins σ H s):∀ x c,X.env.cells.lookup x=some c→c≠X.env.locals:=fun x c e z=>by
 obtain ⟨v,o,ho,hd⟩:=I.cell x c e
 obtain ⟨m,⟨o',es,ep,ho',hd',_⟩,_⟩:=I.loc
 rw [z,ho'] at ho;cases ho;rw [hd'] at hd;cases hd
theorem Inv.funs (I:Inv X pins σ H s):s.heap.FunFrames X.base X.outer:=by
 have all:∀ (l:List Env),(∀ b∈frs l,b∈X.fs)→X.s₀.heap.FunFrames X.base l→s.heap.FunFrames X.base l:=by
  intro l
  induction l with
  | nil=>intro _ _;trivial
  | cons env r ih =>
   intro hs hl
   obtain ⟨hk,⟨L,o,hf,hn,ho,hd⟩,hr⟩:=hl
   have hL:L∈X.fs:=hs L (by unfold frs;rw [gK,hf];exact br)
   obtain ⟨sl,e⟩:=I.base.slot L o ho (I.ok.frf L hL) hL fun z=>I.ok.exfs L z hL
   exact ⟨hk,⟨L,_,hf,hn,e,hd⟩,ih (fun b hb=>hs b (by unfold frs;rw [gK,hf];exact bx _ hb)) hr⟩
 exact all X.outer (fun _ hb=>hb) I.ok.funs
theorem Inv.stack (I:Inv X pins σ H s):s.heap.FunFrames X.base X.stack:=by
 rcases I.ok.stk with e | ⟨e,hf⟩
 ·rw [e];exact I.funs
 ·rw [e]
  obtain ⟨m,hn,_⟩:=I.loc
  refine .cons (by rw [I.ok.kind];decide) hf hn ?_ I.funs
  exact Heap.get?_none_of_le (bU I.ok.bsz I.ok.above)
theorem Inv.stkSub (I:Inv X pins σ H s):∀ b∈frs X.stack,b∈X.env.locals :: X.fs:=fun b hb=>by
 rcases I.ok.stk with e | ⟨e,hf⟩
 ·rw [e] at hb;exact bx _ hb
 ·rw [e] at hb
  unfold frs at hb
  rw [gK,hf] at hb
  exact hb
theorem Inv.stkFree (I:Inv X pins σ H s):∀ b∈frs X.stack,H b=none:=fun b hb=>by
 rcases bK.mp (I.stkSub b hb) with e | hb
 ·rw [e];exact I.free
 ·obtain ⟨_,o,ho,_⟩:=I.ok.funs.mem hb
  exact I.base.free b o ho (I.ok.frf b hb) fun z=>I.ok.exfs b z hb
theorem Inv.step {g':Array GenState} {t':Nat} {d':Drawn} {ch:List Addr} (I:Inv X pins σ H s)
  (hch:∀ b∈ch,(b∈X.ex∨X.s₀.heap.objs.size≤b)∧b≠X.env.locals∧(∀ x c,X.env.cells.lookup x=some c→c≠b)∧∀ p∈X.pn ++ pins,p.1≠b)
  (keep:∀ b o,b≠X.env.locals→b ∉ X.fs→b ∉ ch→s.heap.get? b=some o→H b=none→h'.get? b=some o)
  (slot:∀ b o,b≠X.env.locals→b∈X.fs→b ∉ ch→s.heap.get? b=some o→H b=none→∃ sl,h'.get? b=some { o with slots:=sl }) (free:∀ b o,b ∉ ch→s.heap.get? b=some o→H b=none→H' b=none)
  (there:∀ b o,b ∉ ch→s.heap.get? b=some o→∃ o',h'.get? b=some o')
  (tups:∀ b xs,H b=some (.tup xs)→H' b=some (.tup xs)) (frzs:∀ b o u,H b=some (.frz o u)→H' b=some (.frz o u)) (tbls:∀ b ps,H b=some (.tbl ps)→∃ more,H' b=some (.tbl (ps ++ more)))
  (ns:∀ m,s.heap.Ns X.env.locals m→h'.Ns X.env.locals m) (hok:HOk X.prog X.w H' h') (hg:AllBare g') :
  Inv X pins σ H' { s with heap:=h',gens:=g',drawn:=d',toks:=t' }:=by
 have neL:∀ b o,X.s₀.heap.get? b=some o→b≠X.env.locals:=fun b o e=>bZ (cy (bF e) I.ok.above)
 have neC:∀ b o,X.s₀.heap.get? b=some o→b ∉ X.ex→b ∉ ch:=fun b o e hx hb=>by
  rcases (hch b hb).1 with z | z
  ·exact hx z
  ·exact absurd (cy (bF e) z) (dX _)
 have cellK:∀ x c,X.env.cells.lookup x=some c→∀ v,s.heap.IsCell c v→h'.IsCell c v:=fun x c e v ⟨o,ho,hd⟩=>by
  have nch:c ∉ ch:=fun z=>(hch c z).2.2.1 x c e rfl
  by_cases hc:c∈X.fs
  ·obtain ⟨sl,q⟩:=slot c o (I.cne x c e) hc nch ho (I.freeC x c e)
   exact ⟨_,q,hd⟩
  ·exact ⟨o,keep c o (I.cne x c e) hc nch ho (I.freeC x c e),hd⟩
 refine ⟨I.ok,I.os,hg,⟨fun b o e n hb hx=>?_,fun b o e n hb hx=>?_,fun b o e n hx=>?_,fun b o e hx=>?_,fun b xs e=>tups b xs (I.base.tups b xs e),fun b o xs e=>frzs b o xs (I.base.frzs b o xs e),fun b ps e=>?_⟩,?_,fun x c e=>?_,?_,fun x c e=>?_,fun p hp=>?_,hok,I.len⟩
 ·exact keep b o (neL b o e) hb (neC b o e hx) (I.base.keep b o e n hb hx) (I.base.free b o e n hx)
 ·obtain ⟨sl,e1⟩:=I.base.slot b o e n hb hx
  obtain ⟨sl',e2⟩:=slot b _ (neL b o e) hb (neC b o e hx) e1 (I.base.free b o e n hx)
  exact ⟨sl',e2⟩
 ·obtain ⟨o',e1⟩:=I.base.there b o e hx
  exact free b o' (neC b o e hx) e1 (I.base.free b o e n hx)
 ·obtain ⟨o',e1⟩:=I.base.there b o e hx
  exact there b o' (neC b o e hx) e1
 ·obtain ⟨m1,e1⟩:=I.base.tbls b ps e
  obtain ⟨m2,e2⟩:=tbls b _ e1
  exact ⟨m1 ++ m2,by rw [e2,Array.append_assoc]⟩
 ·obtain ⟨m,hn,hl⟩:=I.loc
  refine ⟨m,ns m hn,fun i x v e1 e2 e3=>?_⟩
  obtain ⟨u,r,l⟩:=hl i x v e1 e2 e3
  refine ⟨u,r,?_⟩
  rcases l with l | ⟨k,c,e,z⟩
  ·exact .inl l
  ·exact .inr ⟨k,c,e,cellK x c e _ z⟩
 ·obtain ⟨v,z⟩:=I.cell x c e
  exact ⟨v,cellK x c e v z⟩
 ·obtain ⟨m,⟨o,_,_,ho,_⟩,_⟩:=I.loc
  exact free _ o (fun z=>(hch _ z).2.1 rfl) ho I.free
 ·obtain ⟨v,o,ho,hd⟩:=I.cell x c e
  exact free c o (fun z=>(hch c z).2.2.1 x c e rfl) ho (I.freeC x c e)
 ·obtain ⟨e,n,ne,nf,d⟩:=I.pin p hp
  have nch:p.1 ∉ ch:=fun z=>(hch p.1 z).2.2.2 p hp rfl
  exact ⟨keep p.1 p.2 ne nf nch e n,free p.1 p.2 nch e n,ne,nf,d⟩
theorem Inv.un {t':Nat} (I:Inv X pins σ H s) (u:Un X.fs [] H H' s.heap h') (hok:HOk X.prog X.w H' h'):Inv X pins σ H' { s with heap:=h',toks:=t' }:=by
 obtain ⟨m,⟨o,es,ep,ho,r⟩,_⟩:=id I.loc
 obtain ⟨sl,hL⟩:=u.any ho I.free (by simp)
 exact I.step (g':=s.gens) (d':=s.drawn) (ch:=[]) (fun _ z=>nomatch z) (fun b o _ hb _ e n=>u.keep b o e n hb (by simp)) (fun b o _ hb _ e n=>u.slot b o e n hb (by simp)) (fun b o _ e n=>u.free b o e n (by simp)) (fun b o _ e=>u.there b o e (by simp)) u.tups u.frzs u.tbls (fun m' hm=>by
  obtain ⟨o',es',ep',ho',r'⟩:=hm
  rw [ho] at ho';cases ho'
  exact ⟨_,es',ep',hL,r'⟩) hok I.bare
theorem Inv.call {g':Array GenState} {t':Nat} {d':Drawn} {ch:List Addr} (I:Inv X pins σ H s) (u:Un (frs X.stack) ch H H' s.heap h') (hok:HOk X.prog X.w H' h') (hg:AllBare g')
  (hch:∀ b∈ch,(b∈X.ex∨X.s₀.heap.objs.size≤b)∧b≠X.env.locals∧(∀ x c,X.env.cells.lookup x=some c→c≠b)∧∀ p∈X.pn ++ pins,p.1≠b) :
  Inv X pins σ H' { s with heap:=h',gens:=g',drawn:=d',toks:=t' }:=by
 obtain ⟨m,⟨o,es,ep,ho,r⟩,_⟩:=id I.loc
 obtain ⟨sl,hL⟩:=u.any ho I.free fun z=>(hch _ z).2.1 rfl
 exact I.step (ch:=ch) hch (fun b o hL hb hc e n=>u.keep b o e n (fun z=>(bK.mp (I.stkSub b z)).elim hL hb) hc) (fun b o _ _ hc e n=>u.any e n hc) (fun b o hc e n=>u.free b o e n hc) (fun b o hc e=>u.there b o e hc) u.tups u.frzs u.tbls (fun m' hm=>by
  obtain ⟨o',es',ep',ho',r'⟩:=hm
  rw [ho] at ho';cases ho'
  exact ⟨_,es',ep',hL,r'⟩) hok hg
theorem Inv.turned {t':Nat} {it:Addr} (I:Inv X pins σ H s) (k:∀ b o,b≠it→s.heap.get? b=some o→h'.get? b=some o) (hn:H it=none) (hL:it≠X.env.locals)
  (h1:it∈X.ex∨X.s₀.heap.objs.size≤it) (h2:∀ x c,X.env.cells.lookup x=some c→c≠it) (h3:∀ p∈X.pn ++ pins,p.1≠it):Inv X pins σ H { s with heap:=h',toks:=t' }:=by
 have nit:∀ b u,H b=some u→b≠it:=fun b u e z=>by rw [z,hn] at e;cases e
 refine I.step (g':=s.gens) (d':=s.drawn) (ch:=[it]) (fun b hb=>?_) (fun b o _ _ hc e _=>k b o (fun z=>hc (by simp [z])) e) (fun b o _ _ hc e _=>⟨o.slots,k b o (fun z=>hc (by simp [z])) e⟩) (fun _ _ _ _ n=>n)
  (fun b o hc e=>⟨o,k b o (fun z=>hc (by simp [z])) e⟩) (fun _ _ e=>e) (fun _ _ _ e=>e) (fun b ps e=>⟨#[],by rw [e];simp⟩) (fun m hm=>?_) (fun b u e=>?_) I.bare
 ·have e:b=it:=by simpa using hb
  subst e
  exact ⟨h1,hL,h2,h3⟩
 ·obtain ⟨o,es,ep,ho,r⟩:=hm
  exact ⟨o,es,ep,k _ o (cP hL) ho,r⟩
 ·refine (I.hok b u e).stay (fun c v hc q=>k c v ?_ q) (fun _ q=>q) fun _ _ q=>q
  rcases hc with z | z
  ·rw [z];exact nit b u e
  ·exact nit c _ z
theorem Inv.tok (I:Inv X pins σ H s) (t:Nat):Inv X pins σ H { s with toks:=t }:=I.un (h':=s.heap) (t':=t) Un.refl I.hok
theorem Inv.kept {t':Nat} (I:Inv X pins σ H s) (k:∀ b u,s.heap.get? b=some u→h'.get? b=some u):Inv X pins σ H { s with heap:=h',toks:=t' }:=I.un (Un.kept k) (I.hok.kept k)
theorem Inv.laid {a:Addr} {o:HO} {t':Nat} (I:Inv X pins σ H s) (k:∀ b u,s.heap.get? b=some u→h'.get? b=some u) (hp:s.heap.objs.size≤a) (new:ObjOk X.prog X.w (upd H a o) h' a o) :
  Inv X pins σ (upd H a o) { s with heap:=h',toks:=t' }:=I.un (Un.laid k hp (I.hok.fresh hp)) (I.hok.laid k hp new)
theorem Inv.write {x e:Addr} {o:HO} {t':Nat} (I:Inv X pins σ H s) (mu:Mut (H x)) (he:e=x∨H e=some (.own x)) (k:∀ b u,b≠e→s.heap.get? b=some u→h'.get? b=some u) (heo:∃ u,h'.get? e=some u)
  (new:ObjOk X.prog X.w (upd H x o) h' x o):Inv X pins σ (upd H x o) { s with heap:=h',toks:=t' }:=I.un (Un.write mu he k heo) (I.hok.write mu he k heo new)
theorem Inv.pins_of {pins':List (Addr × Obj)} (I:Inv X pins σ H s) (h:∀ p∈pins',s.heap.get? p.1=some p.2∧H p.1=none∧p.1≠X.env.locals∧p.1 ∉ X.fs∧∀ v,p.2.data≠.cell v):Inv X pins' σ H s :=
 ⟨I.ok,I.os,I.bare,I.base,I.loc,I.cell,I.free,I.freeC,fun p hp=>(bP.mp hp).elim (fun z=>I.pin p (cz _ z)) (h p),I.hok,I.len⟩
theorem VT {N:List Str} (hN:N.Nodup) {i j:Nat} {x:Str} (a:N[i]?=some x) (b:N[j]?=some x):i=j:=by
 obtain ⟨h1,e1⟩:=bw.mp a
 obtain ⟨h2,e2⟩:=bw.mp b
 exact (fN hN).mp (e1.trans e2.symm)
theorem Wh {M:Model} {A:Around} {E:Value→Shared→Prop} {i:Nat} {x:Str} {v:V} {u:Value} {Q:Unit→Shared→Prop} (I:Inv X pins σ H s) (hN:X.N.Nodup) (hi:X.N[i]?=some x) (hx:Loc X.env.scope x) (r:RelV v u)
  (h:∀ s',Inv X pins (σ.set i (some v)) H s'→(∃ a,cZ a s.heap s'.heap∧(a=X.env.locals∨X.env.cells.lookup x=some a))→Q () s') (hf:X.fn x=true∨X.env.scope.names.lookup x=some .local:=by first | exact .inl rfl | exact .inr rfl | assumption):wpAny M A (storeName X.env x u) Q E s:=by
 obtain ⟨m,hn,hl⟩:=id I.loc
 have hcls:(X.env.scope.kind == .class || (X.env.scope.kind == .module && X.env.locals != X.env.globals))=false:=by rw [I.ok.kind];rfl
 have hiσ:i < σ.length:=by rw [I.len];exact (bw.mp hi).1
 have cne:=I.cne
 have tracked:∀ {a:Addr} {h':Heap},(∃ o,s.heap.get? a=some o∧H a=none)→cZ a s.heap h'→HOk X.prog X.w H h':=fun {a h'} ha hs b ob e=>by
  obtain ⟨_,_,hfree⟩:=ha
  refine (I.hok b ob e).stay (fun c w' hc q=>(hs.2 c ?_).trans q) (fun _ q=>q) fun _ _ q=>q
  rintro rfl
  rcases hc with rfl | hc
  ·rw [hfree] at e;cases e
  ·rw [hfree] at hc;cases hc
 rcases hx with hk | hk
 ·refine wpAny_storeName_local hk hn (fun h' hn' hs=>?_) hcls
  obtain ⟨oL,_,_,hoL,_⟩:=id hn
  refine h _ ⟨I.ok,I.os,I.bare,⟨fun b o e n hb hx=>?_,fun b o e n hb hx=>?_,I.base.free,fun b o e hx=>?_,I.base.tups,I.base.frzs,I.base.tbls⟩,⟨_,hn',fun j y v' e1 e2 e3=>?_⟩,fun y c e=>?_,I.free,I.freeC,fun p hp=>?_,tracked ⟨oL,hoL,I.free⟩ hs,by simpa using I.len⟩ ⟨_,hs,.inl rfl⟩
  ·exact (hs.2 b (bZ (cy (bF e) I.ok.above))).trans (I.base.keep b o e n hb hx)
  ·obtain ⟨sl,e1⟩:=I.base.slot b o e n hb hx
   exact ⟨sl,(hs.2 b (bZ (cy (bF e) I.ok.above))).trans e1⟩
  ·obtain ⟨o',e1⟩:=I.base.there b o e hx
   exact ⟨o',(hs.2 b (bZ (cy (bF e) I.ok.above))).trans e1⟩
  ·by_cases hj:j=i
   ·subst hj
    rw [hi] at e1;cases e1
    rw [gW hiσ] at e2
    cases e2
    exact ⟨u,r,.inl ⟨hk,by simp⟩⟩
   ·rw [iI (cP hj)] at e2
    obtain ⟨u',r',q⟩:=hl j y v' e1 e2 e3
    refine ⟨u',r',?_⟩
    rcases q with ⟨k,e⟩ | ⟨k,c,e,z⟩
    ·refine .inl ⟨k,?_⟩
     have:y≠x:=fun e=>hj (VT hN e1 (e ▸ hi))
     simp [this,e]
    ·exact .inr ⟨k,c,e,z.sameBut hs (cne y c e)⟩
  ·obtain ⟨w',z⟩:=I.cell y c e
   exact ⟨w',z.sameBut hs (cne y c e)⟩
  ·obtain ⟨e,n,ne,nf,d⟩:=I.pin p hp
   exact ⟨(hs.2 p.1 ne).trans e,n,ne,nf,d⟩
 ·have hfn:X.fn x=true:=by
   rcases hf with z | z
   ·exact z
   ·rw [z] at hk;cases hk
  obtain ⟨c,hc⟩:=I.ok.has x (.inl hk)
  obtain ⟨w',z⟩:=I.cell x c hc
  refine wpAny_storeName_cell I.ok.kind hk hc z (fun h' hc' hs=>?_)
  obtain ⟨oc,hoc,hocd⟩:=id z
  refine h { s with heap:=h' } ⟨I.ok,I.os,I.bare,⟨fun b o e n hb hx=>?_,fun b o e n hb hx=>?_,I.base.free,fun b o e hx=>?_,I.base.tups,I.base.frzs,I.base.tbls⟩,⟨m,hn.sameBut hs (cP (cne x c hc)),fun j y v' e1 e2 e3=>?_⟩,fun y c' e=>?_,I.free,I.freeC,fun p hp=>?_,tracked ⟨oc,hoc,I.freeC x c hc⟩ hs,by simpa using I.len⟩ ⟨c,hs,.inr hc⟩
  ·exact (hs.2 b (bZ (cy (bF e) (I.ok.cab x c hfn hc)))).trans (I.base.keep b o e n hb hx)
  ·obtain ⟨sl,e1⟩:=I.base.slot b o e n hb hx
   exact ⟨sl,(hs.2 b (bZ (cy (bF e) (I.ok.cab x c hfn hc)))).trans e1⟩
  ·obtain ⟨o',e1⟩:=I.base.there b o e hx
   exact ⟨o',(hs.2 b (bZ (cy (bF e) (I.ok.cab x c hfn hc)))).trans e1⟩
  ·by_cases hj:j=i
   ·subst hj
    rw [hi] at e1;cases e1
    rw [gW hiσ] at e2
    cases e2
    exact ⟨u,r,.inr ⟨.inl hk,c,hc,hc'⟩⟩
   ·rw [iI (cP hj)] at e2
    obtain ⟨u',r',q⟩:=hl j y v' e1 e2 e3
    refine ⟨u',r',?_⟩
    rcases q with q | ⟨k,c',e,z'⟩
    ·exact .inl q
    ·refine .inr ⟨k,c',e,z'.sameBut hs ?_⟩
     rintro rfl
     exact hj (VT hN e1 (I.ok.inj _ _ _ e hc ▸ hi))
  ·by_cases hcc:c'=c
   ·subst hcc;exact ⟨_,hc'⟩
   ·obtain ⟨w2,z2⟩:=I.cell y c' e
    exact ⟨w2,z2.sameBut hs hcc⟩
  ·obtain ⟨e,n,ne,nf,d⟩:=I.pin p hp
   refine ⟨(hs.2 p.1 ?_).trans e,n,ne,nf,d⟩
   intro q
   rw [q,hoc] at e
   have q':oc=p.2:=bS e
   exact d w' (by rw [← q'];exact hocd)
theorem qH {M:Model} {A:Around} {E:Value→Shared→Prop} {i:Nat} {x:Str} {v:V} {u:Value} {Q:Unit→Shared→Prop} (I:Inv X pins σ H s) (hN:X.N.Nodup) (hi:X.N[i]?=some x) (hx:Loc X.env.scope x) (r:RelV v u)
  (h:∀ s',Inv X pins (σ.set i (some v)) H s'→Q () s') (hf:X.fn x=true∨X.env.scope.names.lookup x=some .local:=by first | exact .inl rfl | exact .inr rfl | assumption):wpAny M A (storeName X.env x u) Q E s :=
 Wh I hN hi hx r (fun s' I' _=>h s' I') hf
theorem Inv.call' {s':Shared} {ch:List Addr} (I:Inv X pins σ H s) (ho:s'.os=s.os) (u:Un (frs X.stack) ch H H' s.heap s'.heap) (hok:HOk X.prog X.w H' s'.heap) (hg:AllBare s'.gens)
  (hch:∀ b∈ch,(b∈X.ex∨X.s₀.heap.objs.size≤b)∧b≠X.env.locals∧(∀ x c,X.env.cells.lookup x=some c→c≠b)∧∀ p∈X.pn ++ pins,p.1≠b):Inv X pins σ H' s':=by
 obtain ⟨h',g',d',t',o'⟩:=s'
 have e:o'=s.os:=ho
 subst e
 exact I.call (g':=g') (t':=t') (d':=d') u hok hg hch
end
abbrev XK:=Value→Option Addr→Hp→Prop
abbrev St:=List (Option V)
abbrev VK:=V→Hp→Prop
abbrev TE:=St→Hp→VK→Prop
abbrev TT:=St→Hp→(Bool→Hp→Prop)→Prop
abbrev TA:=St→Hp→(List V→Hp→Prop)→Prop
set_option genSizeOf false in
set_option genInjectivity false in
structure XQ where
 nx:St→Hp→Prop
 rt:VK
 bk:St→Hp→Prop:=fun _ _=>False
 ct:St→Hp→Prop:=fun _ _=>False
abbrev TS:=XQ→St→Hp→Prop
def EP (X:Cx) (pins:List (Addr × Obj)) (σ:St) (Q:VK) (u:Value) (s':Shared):Prop:=∃ v H',Inv X pins σ H' s'∧RelV v u∧Q v H'
def TP (X:Cx) (pins:List (Addr × Obj)) (σ:St) (Q:Bool→Hp→Prop) (b:Bool) (s':Shared):Prop:=∃ H',Inv X pins σ H' s'∧Q b H'
def AP (X:Cx) (pins:List (Addr × Obj)) (σ:St) (Q:List V→Hp→Prop) (us:List Value) (s':Shared):Prop:=∃ vs H',Inv X pins σ H' s'∧Vals vs us∧Q vs H'
def SP (X:Cx) (pins:List (Addr × Obj)) (D:XQ) (f:Flow) (s':Shared):Prop :=
 match f with
 | .next=>∃ σ' H',Inv X pins σ' H' s'∧D.nx σ' H'
 | .brk=>∃ σ' H',Inv X pins σ' H' s'∧D.bk σ' H'
 | .cont=>∃ σ' H',Inv X pins σ' H' s'∧D.ct σ' H'
 | .ret u=>∃ v σ' H',Inv X pins σ' H' s'∧RelV v u∧D.rt v H'
def PE (X:Cx) (e:Expr) (t:TE):Prop :=
 ∀ (pins:List (Addr × Obj)) (s:Shared) (σ:St) (H:Hp) (Q:VK),Inv X pins σ H s→t σ H Q→wpAny (model X.prog X.w) X.A (eval e X.env) (EP X pins σ Q) X.xe s
def PT (X:Cx) (e:Expr) (t:TT):Prop :=
 ∀ (pins:List (Addr × Obj)) (s:Shared) (σ:St) (H:Hp) (Q:Bool→Hp→Prop),Inv X pins σ H s→t σ H Q→wpAny (model X.prog X.w) X.A (isTrue e X.env (eval e X.env)) (TP X pins σ Q) X.xe s
def PW (X:Cx) (e:Expr) (t:TT):Prop :=
 ∀ (whole:Sem Value) (pins:List (Addr × Obj)) (s:Shared) (σ:St) (H:Hp) (Q:Bool→Hp→Prop),Inv X pins σ H s→t σ H Q→wpAny (model X.prog X.w) X.A (isTrue e X.env whole) (TP X pins σ Q) X.xe s
theorem PW.pt {X:Cx} {e:Expr} {t:TT} (h:PW X e t):PT X e t:=h _
def PA (X:Cx) (es:List Expr) (t:TA):Prop :=
 ∀ (pos:Pos) (pins:List (Addr × Obj)) (s:Shared) (σ:St) (H:Hp) (Q:List V→Hp→Prop),Inv X pins σ H s→t σ H Q→wpAny (model X.prog X.w) X.A (spliced (backTo pos (starEach es X.env))) (AP X pins σ Q) X.xe s
def PS (X:Cx) (st:Stmt) (t:TS):Prop :=
 ∀ (pins:List (Addr × Obj)) (s:Shared) (σ:St) (H:Hp) (D:XQ),Inv X pins σ H s→t D σ H→wpAny (model X.prog X.w) X.A (exec st X.env) (SP X pins D) X.xe s
def PSs (X:Cx) (st:List Stmt) (t:TS):Prop :=
 ∀ (pins:List (Addr × Obj)) (s:Shared) (σ:St) (H:Hp) (D:XQ),Inv X pins σ H s→t D σ H→wpAny (model X.prog X.w) X.A (execs st X.env) (SP X pins D) X.xe s
theorem thn {α:Type} {t:Sem α} {Q Q':α→Shared→Prop} {M:Model} {A:Around} {E:Value→Shared→Prop} {s:Shared} (h:wpAny M A t Q E s) (hQ:∀ a s,Q a s→Q' a s):wpAny M A t Q' E s:=dA h hQ fun _ _ x=>x
section
variable {X:Cx}
def zc (i:Nat):TE:=fun σ H Q=>∃ v,σ[i]?=some (some v)∧Q v H
def tC (v:V):TE:=fun _ H Q=>Q v H
theorem ze4 {i:Nat} {x:Str} {pos:Pos} (hN:X.N[i]?=some x) (hv:Vis X.env.scope x) (hd:(x == ("__debug__":Str))=false:=by decide) (hcd:(x == ("__classdict__":Str))=false:=by decide):PE X (.Name x pos) (zc i):=by
 intro pins s σ H Q I h
 obtain ⟨v,e,h⟩:=h
 obtain ⟨m,hn,hl⟩:=I.loc
 obtain ⟨u,r,l⟩:=hl i x v hN e hv
 have fin:EP X pins σ Q u s:=⟨v,H,I,r,h⟩
 rcases l with ⟨hk,hm⟩ | ⟨hk,c,hc,hcell⟩
 ·exact wpAny_Name (nS I.ok.kind hk hn hm fin) hd
 ·rcases hk with hk | hk
  ·exact wpAny_Name (wpAny_loadName_cell I.ok.kind hk hc hcell fin) hd
  ·exact wpAny_Name (wpAny_loadName_free I.ok.kind hk hc hcell fin hcd) hd
theorem zg {i j pos}:PE X (.Constant (.int i) j pos) (tC (.int i)):=fun _ _ _ H _ I h=>wpAny_Constant_int ⟨.int i,H,I.tok _,⟨_,rfl⟩,h⟩
theorem jL {b j pos}:PE X (.Constant (.bool b) j pos) (tC (.bl b)):=fun _ _ _ H _ I h=>Constant_bool ⟨.bl b,H,I,rfl,h⟩
theorem jc {j pos}:PE X (.Constant .none j pos) (tC .non):=fun _ _ _ H _ I h=>Constant_none ⟨.non,H,I,rfl,h⟩
theorem zR {x j pos}:PE X (.Constant (.str x) j pos) (tC (.str x)):=fun _ _ _ H _ I h=>gO ⟨.str x,H,I.tok _,⟨_,rfl⟩,h⟩
def Gl (X:Cx) (x:Str):Prop:=X.env.kindOf x=some .globalImplicit
theorem vo {E:Value→Shared→Prop} {pins:List (Addr × Obj)} {s:Shared} {σ:St} {H:Hp} {x:Str} {u:Value} {pos:Pos} {Q:Value→Shared→Prop} (I:Inv X pins σ H s) (hg:Gl X x) (hm:X.mg x=some u) (h:Q u s)
  (hd:(x == ("__debug__":Str))=false:=by decide):wpAny (model X.prog X.w) X.A (eval (.Name x pos) X.env) Q E s :=
 lG I.ok.kind hg (Calls.loadGlobal_global (by rw [I.ok.glob];exact I.mod.glob.keeps I.bk) hm h) hd
theorem wQ {E:Value→Shared→Prop} {pins:List (Addr × Obj)} {s:Shared} {σ:St} {H:Hp} {x:Str} {u:Value} {pos:Pos} {Q:Value→Shared→Prop} (I:Inv X pins σ H s) (hg:Gl X x) (hm:X.mg x=none) (hv:bootBuiltins x=some u) (h:Q u s)
  (hn:x≠"__name__":=by decide) (hd:(x == ("__debug__":Str))=false:=by decide):wpAny (model X.prog X.w) X.A (eval (.Name x pos) X.env) Q E s:=by
 obtain ⟨mb,h1,h2⟩:=I.mod.blt
 exact lG I.ok.kind hg (Calls.loadGlobal_builtin (by rw [I.ok.glob];exact I.mod.glob.keeps I.bk) hm (by rw [I.ok.blt];exact h1.keeps I.bk) ((h2 x hn).trans hv) h) hd
theorem zdn {x:Str} {v:V} {u:Value} {pos:Pos} (hg:Gl X x) (hm:X.mg x=some u) (r:RelV v u) (hd:(x == ("__debug__":Str))=false:=by decide):PE X (.Name x pos) (tC v) :=
 fun _ _ _ H _ I h=>vo I hg hm ⟨v,H,I,r,h⟩ hd
theorem vp {x:Str} {v:V} {u:Value} {pos:Pos} (hg:Gl X x) (hm:X.mg x=none) (hv:bootBuiltins x=some u) (r:RelV v u) (hn:x≠"__name__":=by decide) (hd:(x == ("__debug__":Str))=false:=by decide):PE X (.Name x pos) (tC v) :=
 fun _ _ _ H _ I h=>wQ I hg hm hv ⟨v,H,I,r,h⟩ hn hd
variable {a b:Expr} {ta tb:TE} {pos:Pos}
def tB (t:TE):TT:=fun σ H Q=>t σ H fun x H1=>∃ c,x=.bl c∧Q c H1
theorem xi {e:Expr} {t:TE} (h:PE X e t) (he:∀ whole,isTrue e X.env whole=(do let v ← whole;standAt e.pos;holding [v] (truthy v)):=by intro _;rfl):PT X e (tB t):=by
 intro pins s σ H Q I hw
 refine isTrue_plain (thn (h pins s σ H _ I hw) fun v s1 ⟨x,H1,I1,r1,q1⟩=>?_) (he _)
 obtain ⟨d,rfl,q⟩:=q1
 cases r1
 exact dU ⟨H1,I1,q⟩
variable {tA tB':TT} {rest:List Expr}
def ze5 (t u:TT):TT:=fun σ H Q=>t σ H fun c H1=>if c=true then u σ H1 Q else Q false H1
def tOr (t u:TT):TT:=fun σ H Q=>t σ H fun c H1=>if c=true then Q true H1 else u σ H1 Q
def jO (t:TT):TT:=fun σ H Q=>t σ H fun c H1=>Q (!c) H1
theorem zdo (ha:PT X a tA):PW X (.BoolOp .And [a] pos) tA:=by
 intro wh pins s σ H Q I h
 refine isTrue_and (thn (ha pins s σ H Q I h) fun c s1 e=>?_)
 cases c with
 | true=>exact isTrue_and_nil e
 | false=>exact e
theorem Zi (ha:PT X a tA):PW X (.BoolOp .Or [a] pos) tA:=by
 intro wh pins s σ H Q I h
 refine isTrue_or (thn (ha pins s σ H Q I h) fun c s1 e=>?_)
 cases c with
 | false=>exact isTrue_or_nil e
 | true=>exact e
theorem ze6 (ha:PT X a tA) (hb:PW X (.BoolOp .And (b :: rest) pos) tB'):PW X (.BoolOp .And (a :: b :: rest) pos) (ze5 tA tB'):=by
 intro wh pins s σ H Q I h
 refine isTrue_and (thn (ha pins s σ H _ I h) fun c s1 ⟨H1,I1,q1⟩=>?_)
 cases c with
 | true=>exact hb wh pins s1 σ H1 Q I1 q1
 | false=>exact ⟨H1,I1,q1⟩
theorem ZQ (ha:PT X a tA) (hb:PW X (.BoolOp .Or (b :: rest) pos) tB'):PW X (.BoolOp .Or (a :: b :: rest) pos) (tOr tA tB'):=by
 intro wh pins s σ H Q I h
 refine isTrue_or (thn (ha pins s σ H _ I h) fun c s1 ⟨H1,I1,q1⟩=>?_)
 cases c with
 | true=>exact ⟨H1,I1,q1⟩
 | false=>exact hb wh pins s1 σ H1 Q I1 q1
theorem wR (ha:PT X a tA):PT X (.UnaryOp .Not a pos) (jO tA):=by
 intro pins s σ H Q I h
 exact isTrue_not (ha pins s σ H (fun c H1=>Q (!c) H1) I h)
def za5 (ta tb:TE):TE:=fun σ H Q=>ta σ H fun x H1=>∃ c,x=.bl c∧if c=true then tb σ H1 Q else Q (.bl false) H1
def za6 (ta tb:TE):TE:=fun σ H Q=>ta σ H fun x H1=>∃ c,x=.bl c∧if c=true then Q (.bl true) H1 else tb σ H1 Q
theorem Kk {op} {t:TE} (h:PE X a t):PE X (.BoolOp op [a] pos) t:=fun pins s σ H Q I hw=>BoolOp_one (h pins s σ H Q I hw)
theorem ze7 (ha:PE X a ta) (hb:PE X (.BoolOp .And (b :: rest) pos) tb):PE X (.BoolOp .And (a :: b :: rest) pos) (za5 ta tb):=by
 intro pins s σ H Q I h
 refine BoolOp_and (thn (ha pins s σ H _ I h) fun v s1 ⟨x,H1,I1,r1,q1⟩=>?_)
 obtain ⟨c,rfl,q1⟩:=q1
 cases r1
 refine dU ?_
 cases c with
 | true=>exact hb pins s1 σ H1 Q I1 q1
 | false=>exact ⟨.bl false,H1,I1,rfl,q1⟩
theorem zeL (ha:PE X a ta) (hb:PE X (.BoolOp .Or (b :: rest) pos) tb):PE X (.BoolOp .Or (a :: b :: rest) pos) (za6 ta tb):=by
 intro pins s σ H Q I h
 refine BoolOp_or (thn (ha pins s σ H _ I h) fun v s1 ⟨x,H1,I1,r1,q1⟩=>?_)
 obtain ⟨c,rfl,q1⟩:=q1
 cases r1
 refine dU ?_
 cases c with
 | false=>exact hb pins s1 σ H1 Q I1 q1
 | true=>exact ⟨.bl true,H1,I1,rfl,q1⟩
def tIf (t:TT) (ta tb:TE):TE:=fun σ H Q=>t σ H fun c H1=>if c=true then ta σ H1 Q else tb σ H1 Q
theorem vW {c:Expr} (hc:PT X c tA) (ha:PE X a ta) (hb:PE X b tb):PE X (.IfExp c a b pos) (tIf tA ta tb):=by
 intro pins s σ H Q I h
 refine wpAny_IfExp (thn (hc pins s σ H _ I h) fun d s1 ⟨H1,I1,q1⟩=>?_)
 cases d with
 | true=>exact ha pins s1 σ H1 Q I1 q1
 | false=>exact hb pins s1 σ H1 Q I1 q1
end
def SqL (K:bD) (H:Hp) (a:Addr) (xs:List V):Prop :=
 Rd H a (.lst xs) ∨
  ∃ (o:Obj) (its:Array Value) (n:Nat),K.lookup a=some o∧o.cls=.type "list"∧o.dict=none∧o.data=.seq its n∧its.size≤sizeLine∧Vals xs its.toList
def SqT (K:bD) (H:Hp) (a:Addr) (xs:List V):Prop :=
 Rd H a (.tup xs) ∨
  ∃ (o:Obj) (its:Array Value) (n:Nat),K.lookup a=some o∧o.cls=.type "tuple"∧o.data=.seq its n∧its.size≤sizeLine∧Vals xs its.toList
def zgG:Value→Option V
 | .none=>some .non
 | .bool b=>some (.bl b)
 | .int i _=>some (.int i)
 | .str x _=>some (.str x)
 | .bytes b _=>some (.byt b)
 | .float b _=>some (.flt b)
 | .ref a=>some (.ref a)
 | .type n=>some (.ty n)
 | _=>none
theorem RelV.abs {x:V} {u:Value} (r:RelV x u):zgG u=some x:=by
 cases x with
 | non=>cases r;rfl
 | bl _=>cases r;rfl
 | int _=>obtain ⟨t,rfl⟩:=r;rfl
 | str _=>obtain ⟨t,rfl⟩:=r;rfl
 | byt _=>obtain ⟨t,rfl⟩:=r;rfl
 | flt _=>obtain ⟨t,rfl⟩:=r;rfl
 | ref _=>cases r;rfl
 | ty _=>cases r;rfl
theorem RelV.inj {x y:V} {u:Value} (r:RelV x u) (q:RelV y u):x=y:=bS (r.abs.symm.trans q.abs)
theorem Vals.inj:∀ {xs ys:List V} {us:List Value},Vals xs us→Vals ys us→xs=ys
 | _,_,_,.nil,.nil=>rfl
 | _,_,_,.cons r t,.cons r' t'=>by rw [r.inj r',Vals.inj t t']
section
variable {X:Cx} {pins:List (Addr × Obj)} {σ:St} {H:Hp} {s:Shared} {a:Addr} {xs ys:List V}
theorem SqL.of {K:bD} (h:H a=some (.lst xs)):SqL K H a xs:=.inl (.inl h)
theorem SqT.of {K:bD} (h:H a=some (.tup xs)):SqT K H a xs:=.inl (.inl h)
theorem Inv.list (I:Inv X pins σ H s) (h:SqL X.K H a xs):∃ its:List Value,Vals xs its∧PlainL s.heap a its.toArray∧xs.length≤sizeLine:=by
 rcases h with h | ⟨o,its,n,hk,hc,hd,hs,hz,r⟩
 ·obtain ⟨z,its,n,r,e⟩:=h.ok I.hok
  exact ⟨its,r,⟨_,n,e,rfl,rfl,rfl⟩,z⟩
 ·refine ⟨its.toList,r,⟨o,n,I.kIn a o hk,hc,hd,by simpa using hs⟩,?_⟩
  have e:=r.length
  simp only [bW] at e
  lia
theorem Inv.tuple (I:Inv X pins σ H s) (h:SqT X.K H a xs):∃ its:List Value,Vals xs its∧IsTup s.heap a its.toArray∧xs.length≤sizeLine:=by
 rcases h with h | ⟨o,its,n,hk,hc,hs,hz,r⟩
 ·obtain ⟨z,its,r,p⟩:=h.ok I.hok
  exact ⟨its,r,p,z⟩
 ·refine ⟨its.toList,r,⟨o,I.kIn a o hk,hc,n,by simpa using hs⟩,?_⟩
  have e:=r.length
  simp only [bW] at e
  lia
theorem Inv.list_inj (I:Inv X pins σ H s) (h:SqL X.K H a xs) (h':SqL X.K H a ys):xs=ys:=by
 obtain ⟨its,r,⟨o,n,e,_,_,d⟩,_⟩:=I.list h
 obtain ⟨its',r',⟨o',n',e',_,_,d'⟩,_⟩:=I.list h'
 rw [e] at e';cases e'
 rw [d] at d'
 injection d' with d1 _
 have:its=its':=by simpa using congrArg Array.toList d1
 subst this
 exact r.inj r'
theorem Inv.tuple_inj (I:Inv X pins σ H s) (h:SqT X.K H a xs) (h':SqT X.K H a ys):xs=ys:=by
 obtain ⟨its,r,⟨o,e,_,n,d⟩,_⟩:=I.tuple h
 obtain ⟨its',r',⟨o',e',_,n',d'⟩,_⟩:=I.tuple h'
 rw [e] at e';cases e'
 rw [d] at d'
 injection d' with d1 _
 have:its=its':=by simpa using congrArg Array.toList d1
 subst this
 exact r.inj r'
end
abbrev Cx.wish (X:Cx) (E:Value→Shared→Prop):Cx:={ X with xe:=E }
abbrev Cx.nox (X:Cx):Cx:=X.wish fun _ _=>False
theorem Cx.Ok.wish {X:Cx} (ok:X.Ok) (E:Value→Shared→Prop):(X.wish E).Ok :=
 ⟨ok.mod,ok.kind,ok.glob,ok.blt,ok.above,ok.inj,ok.has,ok.cab,ok.hd,ok.frames,ok.stk,ok.exf,ok.bs,ok.bsz,ok.noex,ok.exfs,ok.funs,ok.frf⟩
theorem Cx.Ok.unwish {X:Cx} {E:Value→Shared→Prop} (ok:(X.wish E).Ok):X.Ok :=
 ⟨ok.mod,ok.kind,ok.glob,ok.blt,ok.above,ok.inj,ok.has,ok.cab,ok.hd,ok.frames,ok.stk,ok.exf,ok.bs,ok.bsz,ok.noex,ok.exfs,ok.funs,ok.frf⟩
section
variable {X:Cx} {pins:List (Addr × Obj)} {σ:St} {H:Hp} {s:Shared} {E:Value→Shared→Prop}
theorem Inv.wish (I:Inv X pins σ H s) (E:Value→Shared→Prop):Inv (X.wish E) pins σ H s:=⟨I.ok.wish E,I.os,I.bare,I.base,I.loc,I.cell,I.free,I.freeC,I.pin,I.hok,I.len⟩
theorem Inv.unwish (I:Inv (X.wish E) pins σ H s):Inv X pins σ H s:=⟨I.ok.unwish,I.os,I.bare,I.base,I.loc,I.cell,I.free,I.freeC,I.pin,I.hok,I.len⟩
theorem SP.unwish {D:XQ} {f:Flow} {s':Shared} (h:SP (X.wish E) pins D f s'):SP X pins D f s':=by
 cases f with
 | next=>obtain ⟨σ',H',I,q⟩:=h;exact ⟨σ',H',I.unwish,q⟩
 | brk=>obtain ⟨σ',H',I,q⟩:=h;exact ⟨σ',H',I.unwish,q⟩
 | cont=>obtain ⟨σ',H',I,q⟩:=h;exact ⟨σ',H',I.unwish,q⟩
 | ret u=>obtain ⟨v,σ',H',I,r,q⟩:=h;exact ⟨v,σ',H',I.unwish,r,q⟩
theorem PSs.nox {st:List Stmt} {t:TS} (h:PSs X.nox st t):PSs X st t:=fun pins s σ H D I hw =>
 dA (h pins s σ H D (I.wish _) hw) (fun _ _ q=>q.unwish) fun _ _ z=>dv z
end
section
variable {X:Cx} {st:Stmt} {rest:List Stmt} {t u:TS} {e:Expr} {te:TE} {pos:Pos}
def zI:TS:=fun D σ H=>D.nx σ H
def zo (t u:TS):TS:=fun D σ H=>t { D with nx:=u D } σ H
theorem zE:PSs X [] zI:=fun _ _ σ H _ I h=>eN ⟨σ,H,I,h⟩
theorem zf (h1:PS X st t) (h2:PSs X rest u):PSs X (st :: rest) (zo t u):=by
 intro pins s σ H D I h
 refine iD (thn (h1 pins s σ H { D with nx:=u D } I h) fun f s1 q=>?_)
 cases f with
 | next =>
  obtain ⟨σ',H',I',q⟩:=q
  exact h2 pins s1 σ' H' D I' q
 | ret v=>exact q
 | brk=>exact q
 | cont=>exact q
theorem zh (h1:PS X st t):PSs X [st] t:=by
 intro pins s σ H D I h
 refine iD (thn (h1 pins s σ H D I h) fun f s1 q=>?_)
 cases f with
 | next=>exact eN q
 | ret v=>exact q
 | brk=>exact q
 | cont=>exact q
theorem Inv.quiet {pins:List (Addr × Obj)} {σ:St} {H:Hp} {s:Shared} (I:Inv X pins σ H s):interactive X.env=false:=by simp [interactive,I.ok.kind]
def xb (te:TE):TS:=fun D σ H=>te σ H fun _ H1=>D.nx σ H1
theorem y0 (he:PE X e te) (hs:swapsWith e none pos.line X.env=pure false:=by rfl):PS X (.Expr e pos) (xb te):=by
 intro pins s σ H D I h
 exact wpAny_Expr_any (thn (he pins s σ H _ I h) fun v s1 ⟨x,H1,I1,r1,q1⟩=>⟨σ,H1,I1,q1⟩) I.quiet hs
def zD (te:TE):TS:=fun D σ H=>te σ H D.rt
theorem zt (he:PE X e te):PS X (.Return (some e) pos) (zD te):=by
 intro pins s σ H D I h
 exact wpAny_Return_some (thn (he pins s σ H _ I h) fun v s1 ⟨x,H1,I1,r1,q1⟩=>⟨x,σ,H1,I1,r1,q1⟩)
def za7:TS:=fun D _ H=>D.rt .non H
theorem zdp:PS X (.Return none pos) za7:=fun _ _ σ H _ I h=>wpAny_Return_none ⟨.non,σ,H,I,rfl,h⟩
def zS (c:TT) (t u:TS):TS:=fun D σ H=>c σ H fun b H1=>if b=true then t D σ H1 else u D σ H1
theorem zW {c:Expr} {a b:List Stmt} {tc:TT} (hc:PT X c tc) (ha:PSs X a t) (hb:PSs X b u):PS X (.If c a b pos) (zS tc t u):=by
 intro pins s σ H D I h
 refine wpAny_If (thn (hc pins s σ H _ I h) fun d s1 ⟨H1,I1,q1⟩=>?_)
 cases d with
 | true=>exact ha pins s1 σ H1 D I1 q1
 | false=>exact hb pins s1 σ H1 D I1 q1
end
abbrev TG:=V→St→Hp→(St→Hp→Prop)→Prop
abbrev TGs:=List V→St→Hp→(St→Hp→Prop)→Prop
def PG (X:Cx) (target:Expr) (t:TG):Prop :=
 ∀ (pins:List (Addr × Obj)) (s:Shared) (σ:St) (H:Hp) (v:V) (u:Value) (Q:St→Hp→Prop),Inv X pins σ H s→RelV v u→t v σ H Q →
  wpAny (model X.prog X.w) X.A (assign target X.env u) (fun _ s'=>∃ σ' H',Inv X pins σ' H' s'∧Q σ' H') X.xe s
def PGs (X:Cx) (ts:List Expr) (t:TGs):Prop :=
 ∀ (pins:List (Addr × Obj)) (s:Shared) (σ:St) (H:Hp) (vs:List V) (us:List Value) (Q:St→Hp→Prop),Inv X pins σ H s→Vals vs us→t vs σ H Q →
  wpAny (model X.prog X.w) X.A (assignInOrder ((assignEach ts X.env).map (·.2)) us) (fun _ s'=>∃ σ' H',Inv X pins σ' H' s'∧Q σ' H') X.xe s
abbrev TIp:=V→V→Hp→VK→Prop
def PIp (X:Cx) (op:Operator) (t:TIp):Prop :=
 ∀ (pins:List (Addr × Obj)) (s:Shared) (σ:St) (H:Hp) (x y:V) (v u:Value) (Q:VK),Inv X pins σ H s→RelV x v→RelV y u→t x y H Q →
  wpAny (model X.prog X.w) X.A (inplaceOp op v u) (EP X pins σ Q) X.xe s
section
variable {X:Cx} {pos:Pos}
def zl (i:Nat):TG:=fun v σ H Q=>Q (σ.set i (some v)) H
theorem zU {i:Nat} {x:Str} (hN:X.N.Nodup) (hi:X.N[i]?=some x) (hx:Loc X.env.scope x) (hf:X.fn x=true∨X.env.scope.names.lookup x=some .local:=by first | exact .inl rfl | exact .inr rfl | assumption):PG X (.Name x pos) (zl i):=by
 intro pins s σ H v u Q I r h
 exact wpAny_assign_Name (qH I hN hi hx r (fun s' I'=>⟨_,H,I',h⟩) hf)
def WU:TGs:=fun vs σ H Q=>vs=[]∧Q σ H
def vX (t:TG) (u:TGs):TGs:=fun vs σ H Q=>∃ v r,vs=v :: r∧t v σ H fun σ' H'=>u r σ' H' Q
theorem Yr:PGs X [] WU:=by
 intro pins s σ H vs us Q I r h
 obtain ⟨e,h⟩:=h
 subst e
 cases r
 exact assignInOrder_nil ⟨σ,H,I,h⟩
theorem wc {e:Expr} {es:List Expr} {t:TG} {u:TGs} (h1:PG X e t) (h2:PGs X es u)
  (hs:(assignEach (e :: es) X.env).map (·.2)=assign e X.env :: (assignEach es X.env).map (·.2):=by rfl):PGs X (e :: es) (vX t u):=by
 intro pins s σ H vs us Q I r h
 obtain ⟨v,vr,e1,h⟩:=h
 subst e1
 cases r with
 | cons r rr =>
  rw [hs]
  refine assignInOrder_cons (thn (h1 pins s σ H _ _ _ I r h) fun _ s1 ⟨σ1,H1,I1,q1⟩=>?_)
  exact h2 pins s1 σ1 H1 _ _ Q I1 rr q1
def WV (K:bD) (n:Nat) (t:TGs):TG:=fun v σ H Q=>∃ a xs,v=.ref a∧SqT K H a xs∧xs.length=n∧t xs σ H Q
theorem WW {es:List Expr} {k:Nat} {t:TGs} {n:Nat} (hc:X.calm=true) (h:PGs X es t)
  (hn:(assignEach es X.env).length=n:=by rfl) (hst:(assignEach es X.env).findIdx? (·.1)=none:=by rfl):PG X (.Tuple es k pos) (WV X.K n t):=by
 intro pins s σ H v u Q I r hw
 obtain ⟨a,xs,e1,hq,hl,hw⟩:=hw
 subst e1
 cases r
 obtain ⟨its,rv,ht,hz⟩:=I.tuple hq
 refine assign_Tuple_tuple (I.ok.hd hc) ht (by simp [hn,← hl,rv.length]) hst fun h' hx=>?_
 have I1:Inv X pins σ H { s with heap:=h' }:=I.kept (t':=s.toks) fun b o e=>hx b o (bZ (bF e)) e
 exact h pins _ σ H xs _ Q I1 (by simpa using rv) hw
def zK (te:TE) (g:TG):TS:=fun D σ H=>te σ H fun x H1=>g x σ H1 D.nx
theorem ze8 {tg e:Expr} {te:TE} {g:TG} (he:PE X e te) (hg:PG X tg g) (hs:swapsWithSole [tg] e pos.line X.env=pure false:=by rfl) (hw:swappedStores [tg] e X.env=pure none:=by rfl)
  (h1:(assignEach [tg] X.env).map (·.2)=[assign tg X.env]:=by rfl):PS X (.Assign [tg] e pos) (zK te g):=by
 intro pins s σ H D I h
 refine wpAny_Assign_stores (thn (he pins s σ H _ I h) fun v s1 ⟨x,H1,I1,r1,q1⟩=>?_) hs hw
 rw [h1]
 exact thn (hg pins s1 σ H1 x v _ I1 r1 q1) fun _ s2 q=>q
theorem zx {i:Nat} {x:Str} {e:Expr} {te:TE} {pos':Pos} (hN:X.N.Nodup) (hi:X.N[i]?=some x) (hx:Loc X.env.scope x) (he:PE X e te) (hs:swapsWith e (some (.Name x pos')) pos.line X.env=pure false:=by rfl) (hf:X.fn x=true∨X.env.scope.names.lookup x=some .local:=by first | exact .inl rfl | exact .inr rfl | assumption) :
  PS X (.Assign [.Name x pos'] e pos) (zK te (zl i)):=by
 intro pins s σ H D I h
 refine wpAny_Assign_Name (thn (he pins s σ H _ I h) fun v s1 ⟨y,H1,I1,r1,q1⟩=>?_) hs
 exact qH I1 hN hi hx r1 (fun s2 I2=>⟨_,H1,I2,q1⟩) hf
def ze9 (i:Nat) (te:TE) (ti:TIp):TS:=fun D σ H=>∃ x,σ[i]?=some (some x)∧te σ H fun y H1=>ti x y H1 fun z H2=>D.nx (σ.set i (some z)) H2
theorem zfa {i:Nat} {x:Str} {e:Expr} {te:TE} {op:Operator} {ti:TIp} {pos':Pos} (hN:X.N.Nodup) (hi:X.N[i]?=some x) (hx:Loc X.env.scope x) (he:PE X e te) (ho:PIp X op ti) (hf:X.fn x=true∨X.env.scope.names.lookup x=some .local:=by first | exact .inl rfl | exact .inr rfl | assumption) :
  PS X (.AugAssign (.Name x pos') op e pos) (ze9 i te ti):=by
 intro pins s σ H D I h
 obtain ⟨v,e1,h⟩:=h
 obtain ⟨m,hn,hl⟩:=I.loc
 have vis:Vis X.env.scope x:=by rcases hx with k | k;exact .inl k;exact .inr (.inl k)
 obtain ⟨u,r,l⟩:=hl i x v hi e1 vis
 refine wpAny_AugAssign_Name ?_
 have go:wpAny (model X.prog X.w) X.A (eval e X.env) (fun w s₂=>wpAny (model X.prog X.w) X.A (inplaceOp op u w) (fun r s₃=>wpAny (model X.prog X.w) X.A (storeName X.env x r) (fun _=>SP X pins D .next) X.xe s₃) X.xe s₂) X.xe s:=by
  refine thn (he pins s σ H _ I h) fun w s1 ⟨y,H1,I1,r1,q1⟩=>?_
  refine thn (ho pins s1 σ H1 v y u w _ I1 r r1 q1) fun z s2 ⟨zv,H2,I2,r2,q2⟩=>?_
  exact qH I2 hN hi hx r2 (fun s3 I3=>⟨_,H2,I3,q2⟩) hf
 rcases l with ⟨hk,hm⟩ | ⟨hk,c,hc,hcell⟩
 ·exact nS I.ok.kind hk hn hm go
 ·rcases hk with hk | hk
  ·exact wpAny_loadName_cell I.ok.kind hk hc hcell go
  ·rcases hx with k | k
   ·have:X.env.scope.names.lookup x=some .free:=hk
    rw [k] at this;cases this
   ·have:X.env.scope.names.lookup x=some .free:=hk
    rw [k] at this;cases this
def ipI (f:Int→Int→Int):TIp:=fun x y H Q=>∃ i j,x=.int i∧y=.int j∧Q (.int (f i j)) H
theorem zfb:PIp X .Sub (ipI fun i j=>i - j):=by
 intro pins s σ H x y v u Q I r1 r2 h
 obtain ⟨i,j,e1,e2,q⟩:=h
 subst e1;subst e2
 obtain ⟨t,rfl⟩:=r1
 obtain ⟨t',rfl⟩:=r2
 exact isub_int ⟨.int _,H,I.tok _,⟨_,rfl⟩,q⟩
end
section
variable {X:Cx} {pos:Pos}
def WX (c:TT) (tb:TS):TS:=fun D σ H=>∃ W:Nat→St→Hp→Prop,(∃ m,W m σ H)∧∀ m σ H,W m σ H →
 c σ H fun b H1=>if b=true then ∃ N:St→Hp→Prop,(∀ σ' H',N σ' H'→∃ m',m' < m∧W m' σ' H')∧tb { D with nx:=N,ct:=N,bk:=D.nx } σ H1 else D.nx σ H1
theorem VU {c:Expr} {body:List Stmt} {tc:TT} {tb:TS} (hp:PassesOwn (model X.prog X.w) X.A X.env X.xe) (hc:PT X c tc) (hb:PSs X body tb):PS X (.While c body [] pos) (WX tc tb):=by
 intro pins s σ H D I h
 obtain ⟨W,⟨m0,w0⟩,turn⟩:=h
 refine wpAny_While (codeAny_whileLoop (fun n s'=>∃ σ' H',Inv X pins σ' H' s'∧W n σ' H') ?_ m0 ⟨σ,H,I,w0⟩)
 rintro n s1 ⟨σ1,H1,I1,w1⟩
 refine fk hp (thn (hc pins s1 σ1 H1 _ I1 (turn n σ1 H1 w1)) fun b s2 ⟨H2,I2,q2⟩=>?_)
 cases b with
 | true =>
  obtain ⟨N,hN,q2⟩:=q2
  rw [if_pos rfl]
  refine fk hp (thn (hb pins s2 σ1 H2 _ I2 q2) fun f s3 q3=>?_)
  cases f with
  | next =>
   obtain ⟨σ3,H3,I3,n3⟩:=q3
   obtain ⟨m',hm,w3⟩:=hN σ3 H3 n3
   exact ⟨m',hm,σ3,H3,I3,w3⟩
  | cont =>
   obtain ⟨σ3,H3,I3,n3⟩:=q3
   obtain ⟨m',hm,w3⟩:=hN σ3 H3 n3
   exact ⟨m',hm,σ3,H3,I3,w3⟩
  | brk=>exact q3
  | ret v=>exact q3
 | false =>
  rw [if_neg bJ]
  exact eN ⟨σ1,H2,I2,q2⟩
end
set_option genSizeOf false in
set_option genInjectivity false in
structure It where
 go:Nat→Hp→Prop
 yld:Nat→Hp→V→Hp→Prop
 stop:Nat→Hp→Prop
def jP (X:Cx) (pins:List (Addr × Obj)) (H:Hp) (b:Addr):Prop :=
 H b=none∧b≠X.env.locals∧b ∉ X.fs∧(b∈X.ex∨X.s₀.heap.objs.size≤b)∧(∀ x c,X.env.cells.lookup x=some c→c≠b)∧∀ p∈X.pn ++ pins,p.1≠b
theorem Inv.fpOk {X:Cx} {pins:List (Addr × Obj)} {σ:St} {H H':Hp} {s:Shared} {b:Addr} (I:Inv X pins σ H s) (hb:s.heap.objs.size≤b) (hn:H' b=none):jP X pins H' b:=by
 refine ⟨hn,eF (cy I.lt hb),I.nofs hb,.inr (bU I.sz hb),fun x c e z=>?_,fun p hp z=>?_⟩
 ·obtain ⟨v,q⟩:=I.cell x c e
  exact absurd (cy q.lt (by rw [z];exact hb)) (dX _)
 ·exact absurd (cy (bF (I.pin p hp).1) (by rw [z];exact hb)) (dX _)
structure VV (P:Program) (w:World) (K:bD) (tg:Expr) (J:It) (fp:List Addr) (it:Addr) (tn:Nat→Heap→Prop):Prop where
 mem:it∈fp
 obj:∀ i h,tn i h→∀ b∈fp,∃ o,h.get? b=some o∧∀ v,o.data≠.cell v
 keep:∀ i h h',tn i h→(∀ b∈fp,∀ o,h.get? b=some o→h'.get? b=some o)→tn i h'
 item:∀ (X:Cx),X.prog=P→X.w=w→X.K=K→X.calm=true→∀ (i:Nat) (pins:List (Addr × Obj)) (s:Shared) (σ:St) (H:Hp) (E:Value→Shared→Prop),Inv X pins σ H s→(∀ b∈fp,jP X pins H b)→tn i s.heap→J.go i H →
  wpAny (model P w) X.A (pyNext (.ref it)) (fun r s1=>∃ u,r=some u ∧
   wpAny (model P w) X.A (letOwnedTupleGo tg (.ref it) u) (fun _ s2=>∃ x H',Inv X pins σ H' s2∧RelV x u∧J.yld i H x H'∧tn (i + 1) s2.heap∧∀ b∈fp,H' b=none) E s1) E s
 done:∀ (X:Cx),X.prog=P→X.w=w→X.K=K→X.calm=true→∀ (i:Nat) (pins:List (Addr × Obj)) (s:Shared) (σ:St) (H:Hp) (E:Value→Shared→Prop),Inv X pins σ H s→(∀ b∈fp,jP X pins H b)→tn i s.heap→J.stop i H →
  wpAny (model P w) X.A (pyNext (.ref it)) (fun r s1=>r=none∧Inv X pins σ H s1) E s
 self:∀ (A:Around) (i:Nat) (s:Shared) (Q:Value→Shared→Prop) (E:Value→Shared→Prop),tn i s.heap→Q (.ref it) s→wpAny (model P w) A (pyIter (.ref it)) Q E s
abbrev TI:=St→Hp→(It→Hp→Prop)→Prop
def PIE (X:Cx) (pins:List (Addr × Obj)) (σ:St) (tg:Expr) (R:It→Hp→Prop) (itv:Value) (s2:Shared):Prop :=
 ∃ (it:Addr) (fp:List Addr) (tn:Nat→Heap→Prop) (J:It) (H':Hp),itv=.ref it∧Inv X pins σ H' s2∧VV X.prog X.w X.K tg J fp it tn∧tn 0 s2.heap∧(∀ b∈fp,jP X pins H' b)∧R J H'
def PI (X:Cx) (tg iter:Expr) (wi:TI):Prop :=
 ∀ (pins:List (Addr × Obj)) (s:Shared) (σ:St) (H:Hp) (R:It→Hp→Prop),Inv X pins σ H s→wi σ H R →
  wpAny (model X.prog X.w) X.A (eval iter X.env) (fun v s1=>wpAny (model X.prog X.w) X.A (pyIter v) (PIE X pins σ tg R) X.xe s1) X.xe s
theorem VW {M:Model} {A:Around} {E:Value→Shared→Prop} {s:Shared} {tg:Expr} {it:Addr} {u:Value} {o:Obj} {n:String} {vs:Array Value} {Q:Unit→Shared→Prop} (ho:s.heap.get? it=some o) (hc:o.cls=.type n) (hd:o.data=.fields vs)
  (hn:["enumerate","zip","dict_itemiterator","dict_reverseitemiterator","odict_iterator","itertools.zip_longest","itertools.pairwise"].contains n=false) (hQ:Q () s):wpAny M A (letOwnedTupleGo tg (.ref it) u) Q E s:=by
 unfold letOwnedTupleGo
 cases tg <;> first
  | exact bo hQ
  | (cases u <;> first
      | exact bo hQ
      | (refine bb (nM ho ?_)
         rw [hc,hd]
         show wpAny M A (if (["enumerate","zip","dict_itemiterator","dict_reverseitemiterator","odict_iterator","itertools.zip_longest","itertools.pairwise"].contains n && vs[0]? == some (rawInt _))=true then _ else _) Q E s
         rw [if_neg (by intro h;rw [hn,Bool.false_and] at h;cases h)]
         exact bo hQ))
def Itl (K:bD) (a:Addr):It :=
 ⟨fun i H=>∃ xs x,SqL K H a xs∧xs[i]?=some x,fun i H x H'=>H'=H∧∀ xs,SqL K H a xs→xs[i]?=some x,fun i H=>∃ xs,SqL K H a xs∧xs.length≤i⟩
def Itt (K:bD) (a:Addr):It :=
 ⟨fun i H=>∃ xs x,SqT K H a xs∧xs[i]?=some x,fun i H x H'=>H'=H∧∀ xs,SqT K H a xs→xs[i]?=some x,fun i H=>∃ xs,SqT K H a xs∧xs.length≤i⟩
def Itr (lo:Int) (n:Nat):It:=⟨fun i _=>i < n,fun i H x H'=>H'=H∧x=.int (lo + i),fun i _=>n≤i⟩
theorem zal {P:Program} {w:World} {K:bD} {tg:Expr} (a it:Addr):VV P w K tg (Itl K a) [it] it (fun i h=>h.IsListIter it a i) where
 mem:=by simp
 obj:=fun i h st b hb=>by
  have e:b=it:=by simpa using hb
  subst e
  obtain ⟨o,e,c,d⟩:=st
  exact ⟨o,e,fun v z=>by rw [d] at z;cases z⟩
 keep:=fun i h h' st k=>st.at fun o e=>k it (by simp) o e
 item:=by
  intro X hP hw hK hc i pins s σ H E I hf st hg
  subst hP hw hK
  obtain ⟨xs,x,hq,hx⟩:=hg
  obtain ⟨its,rv,p,hz⟩:=I.list hq
  obtain ⟨u,hu,ru⟩:=rv.get hx
  obtain ⟨f0,f1,f2,f3,f4,f5⟩:=hf it (by simp)
  refine mV st p.isList (x:=u) (by simpa using hu) fun h' st' sb=>?_
  have I1:Inv X pins σ H { s with heap:=h' }:=I.turned (t':=s.toks) (fun b o hb e=>(sb.2 b hb).trans e) f0 f1 f3 f4 f5
  obtain ⟨o,e,c,d⟩:=id st'
  exact ⟨u,rfl,VW (s:={ s with heap:=h' }) e c d (by decide) ⟨x,H,I1,ru,⟨rfl,fun ys hy=>by rw [I.list_inj hy hq];exact hx⟩,st',fun b hb=>(hf b hb).1⟩⟩
 done:=by
  intro X hP hw hK hc i pins s σ H E I hf st hg
  subst hP hw hK
  obtain ⟨xs,hq,hx⟩:=hg
  obtain ⟨its,rv,p,hz⟩:=I.list hq
  obtain ⟨f0,f1,f2,f3,f4,f5⟩:=hf it (by simp)
  have hl:=rv.length
  exact nh (I.ok.hd hc) st p.isList (by simp;lia) fun h' eb=>⟨rfl,I.turned (t':=s.toks) (fun b o hb e=>eb b o hb e) f0 f1 f3 f4 f5⟩
 self:=fun _ _ _ _ _ st h=>wpAny_pyIter_listiter st h
theorem Kl {P:Program} {w:World} {K:bD} {tg:Expr} (a it:Addr):VV P w K tg (Itt K a) [it] it (fun i h=>h.IsTupleIter it a i) where
 mem:=by simp
 obj:=fun i h st b hb=>by
  have e:b=it:=by simpa using hb
  subst e
  obtain ⟨o,e,c,d⟩:=st
  exact ⟨o,e,fun v z=>by rw [d] at z;cases z⟩
 keep:=fun i h h' st k=>st.at fun o e=>k it (by simp) o e
 item:=by
  intro X hP hw hK hc i pins s σ H E I hf st hg
  subst hP hw hK
  obtain ⟨xs,x,hq,hx⟩:=hg
  obtain ⟨its,rv,p,hz⟩:=I.tuple hq
  obtain ⟨u,hu,ru⟩:=rv.get hx
  obtain ⟨f0,f1,f2,f3,f4,f5⟩:=hf it (by simp)
  refine wpAny_pyNext_tuple_item st (show s.heap.IsTuple a its.toArray from p) (x:=u) (by simpa using hu) fun h' st' sb=>?_
  have I1:Inv X pins σ H { s with heap:=h' }:=I.turned (t':=s.toks) (fun b o hb e=>(sb.2 b hb).trans e) f0 f1 f3 f4 f5
  obtain ⟨o,e,c,d⟩:=id st'
  exact ⟨u,rfl,VW (s:={ s with heap:=h' }) e c d (by decide) ⟨x,H,I1,ru,⟨rfl,fun ys hy=>by rw [I.tuple_inj hy hq];exact hx⟩,st',fun b hb=>(hf b hb).1⟩⟩
 done:=by
  intro X hP hw hK hc i pins s σ H E I hf st hg
  subst hP hw hK
  obtain ⟨xs,hq,hx⟩:=hg
  obtain ⟨its,rv,p,hz⟩:=I.tuple hq
  obtain ⟨f0,f1,f2,f3,f4,f5⟩:=hf it (by simp)
  have hl:=rv.length
  exact wpAny_pyNext_tuple_end (I.ok.hd hc) st (show s.heap.IsTuple a its.toArray from p) (by simp;lia) fun h' eb=>⟨rfl,I.turned (t':=s.toks) (fun b o hb e=>eb b o hb e) f0 f1 f3 f4 f5⟩
 self:=fun _ _ _ _ _ st h=>wpAny_pyIter_tupleiter st h
theorem Km {P:Program} {w:World} {K:bD} {tg:Expr} (it:Addr) (lo:Int) (n:Nat):VV P w K tg (Itr lo n) [it] it (fun i h=>IsRangeIter h it (lo + (i:Nat) * 1) ((n:Int) - (i:Nat)) 1) where
 mem:=by simp
 obj:=fun i h st b hb=>by
  have e:b=it:=by simpa using hb
  subst e
  exact ⟨_,st,fun v z=>by
   have z':pN _=Data.cell v:=z
   cases z'⟩
 keep:=fun i h h' st k=>k it (by simp) _ st
 item:=by
  intro X hP hw hK hc i pins s σ H E I hf st hg
  subst hP hw hK
  obtain ⟨f0,f1,f2,f3,f4,f5⟩:=hf it (by simp)
  have W:=Walks.range (prog:=X.prog) (w:=X.w) (I.ok.hd hc) it lo 1 n
  refine W.item i s _ _ hg st fun v h' tk hv st' kk=>?_
  obtain ⟨t,rfl⟩:=hv
  have I1:Inv X pins σ H { s with heap:=h',toks:=tk }:=I.turned (fun b o hb e=>kk b o (by simpa using hb) e) f0 f1 f3 f4 f5
  refine ⟨_,rfl,VW (s:={ s with heap:=h',toks:=tk }) (n:="range_iterator") st' rfl rfl (by decide) ⟨.int (lo + i),H,I1,⟨t,?_⟩,⟨rfl,rfl⟩,st',fun b hb=>(hf b hb).1⟩⟩
  rw [Int.mul_one]
 done:=by
  intro X hP hw hK hc i pins s σ H E I hf st hg
  subst hP hw hK
  obtain ⟨f0,f1,f2,f3,f4,f5⟩:=hf it (by simp)
  exact mW (I.ok.hd hc) st (by have:n≤i:=hg;lia) fun h' eb=>⟨rfl,I.turned (t':=s.toks) (fun b o hb e=>eb b o hb e) f0 f1 f3 f4 f5⟩
 self:=fun _ _ _ _ _ st h=>mX st h
section
variable {X:Cx} {tg:Expr}
def xc (K:bD) (tl:TE):TI:=fun σ H R=>tl σ H fun x H1=>∃ a,x=.ref a∧(∃ xs,SqL K H1 a xs)∧R (Itl K a) H1
def zfc (K:bD) (tl:TE):TI:=fun σ H R=>tl σ H fun x H1=>∃ a,x=.ref a∧(∃ xs,SqT K H1 a xs)∧R (Itt K a) H1
theorem xo {l:Expr} {tl:TE} (hl:PE X l tl):PI X tg l (xc X.K tl):=by
 intro pins s σ H R I h
 refine thn (hl pins s σ H _ I h) fun v s1 ⟨x,H1,I1,r1,q1⟩=>?_
 obtain ⟨a,e,⟨xs,hq⟩,q⟩:=q1
 subst e
 cases r1
 obtain ⟨its,rv,p,hz⟩:=I1.list hq
 refine l7 p.isList ?_
 refine ⟨s1.heap.objs.size,[s1.heap.objs.size],_,_,H1,rfl,I1.kept (t':=s1.toks) fun b o e=>bh _ e,zal a _,⟨_,bz _ rfl,rfl,rfl⟩,fun b hb=>?_,q⟩
 have e:b=s1.heap.objs.size:=by simpa using hb
 subst e
 exact I1.fpOk (bj _) (I1.hok.fresh (bj _))
theorem zfd {l:Expr} {tl:TE} (hl:PE X l tl):PI X tg l (zfc X.K tl):=by
 intro pins s σ H R I h
 refine thn (hl pins s σ H _ I h) fun v s1 ⟨x,H1,I1,r1,q1⟩=>?_
 obtain ⟨a,e,⟨xs,hq⟩,q⟩:=q1
 subst e
 cases r1
 obtain ⟨its,rv,p,hz⟩:=I1.tuple hq
 refine wpAny_pyIter_tuple (show s1.heap.IsTuple a its.toArray from p) ?_
 refine ⟨s1.heap.objs.size,[s1.heap.objs.size],_,_,H1,rfl,I1.kept (t':=s1.toks) fun b o e=>bh _ e,Kl a _,⟨_,bz _ rfl,rfl,rfl⟩,fun b hb=>?_,q⟩
 have e:b=s1.heap.objs.size:=by simpa using hb
 subst e
 exact I1.fpOk (bj _) (I1.hok.fresh (bj _))
theorem za8 {pins:List (Addr × Obj)} {σ:St} {H:Hp} {s:Shared} {R:It→Hp→Prop} {E:Value→Shared→Prop} {lo hi:Int} {t u v:Tok} {tk:Nat} (I:Inv X pins σ H s) (h1:-(2 ^ 62)≤lo) (h2:lo < 2 ^ 62) (h3:-(2 ^ 62)≤hi) (h4:hi < 2 ^ 62)
  (q:R (Itr lo (hi - lo).toNat) H):wpAny (model X.prog X.w) X.A (pyIter (.ref s.heap.objs.size)) (PIE X pins σ tg R) E { s with heap:=s.heap.push { cls:=.type "range",data:=.fields #[.int lo t,.int hi u,.int 1 v] },toks:=tk }:=by
 refine wpAny_pyIter_range (pO ..) (small_one h1 h2 h3 h4) ?_
 have I1:Inv X pins σ H { s with heap:=s.heap.push { cls:=.type "range",data:=.fields #[.int lo t,.int hi u,.int 1 v] },toks:=tk }:=I.kept fun b o e=>bh _ e
 refine ⟨(s.heap.push { cls:=.type "range",data:=.fields #[.int lo t,.int hi u,.int 1 v] }).objs.size,[(s.heap.push { cls:=.type "range",data:=.fields #[.int lo t,.int hi u,.int 1 v] }).objs.size],_,_,H,rfl,
  I1.kept (t':=tk) fun b o e=>bh _ e,Km _ lo (hi - lo).toNat,?_,fun b hb=>?_,q⟩
 ·have e1:lo + ((0:Nat):Int) * 1=lo:=by simp
  have e2:(((hi - lo).toNat:Nat):Int) - ((0:Nat):Int)=fI lo hi 1:=by rw [rangeSize_one];split <;> lia
  show IsRangeIter _ _ (lo + ((0:Nat):Int) * 1) ((((hi - lo).toNat:Nat):Int) - ((0:Nat):Int)) 1
  rw [e1,e2]
  exact bz _ rfl
 ·have e:b=(s.heap.push { cls:=.type "range",data:=.fields #[.int lo t,.int hi u,.int 1 v] }).objs.size:=by simpa using hb
  subst e
  exact I1.fpOk (bj _) (I1.hok.fresh (bj _))
def xD (ta:TA):TI:=fun σ H R=>ta σ H fun vs H1=>∃ j:Int,vs=[.int j]∧-(2 ^ 62)≤j∧j < 2 ^ 62∧R (Itr 0 j.toNat) H1
theorem y6 {a:Expr} {ta:TA} {p pos:Pos} (hg:Gl X "range") (hm:X.mg "range"=none) (ha:PA X [a] ta) (hs:starEach [a] X.env=[(false,eval a X.env)]:=by rfl):PI X tg (.Call (.Name "range" p) [a] [] pos) (xD ta):=by
 intro pins s σ H R I h
 refine Call_ (wQ I hg hm boot_range (cJ (thn (ha pos pins s σ H _ I h) fun us s1 ⟨vs,H1,I1,r1,q1⟩=>?_) hs rfl))
 obtain ⟨j,e,q1,q2,q⟩:=q1
 subst e
 cases r1 with
 | cons r rr =>
  cases rr
  obtain ⟨t,rfl⟩:=r
  exact call_range_1 (za8 I1 (by lia) (by lia) q1 q2 (by simpa using q))
def xr (wi:TI) (g:TG) (tb:TS):TS:=fun D σ H=>wi σ H fun J H1=>∃ W:Nat→Nat→St→Hp→Prop,(∃ m,W 0 m σ H1)∧∀ i m σ H,W i m σ H →
 (J.stop i H∧D.nx σ H)∨(J.go i H∧∃ N:St→Hp→Prop,(∀ σ' H',N σ' H'→∃ m',m' < m∧W (i + 1) m' σ' H')∧∀ x H',J.yld i H x H'→g x σ H' fun σ2 H2=>tb { D with nx:=N,ct:=N,bk:=D.nx } σ2 H2)
def YD (fp:List Addr) (h:Heap):List (Addr × Obj):=fp.filterMap fun b=>(h.get? b).map fun o=>(b,o)
theorem jd {fp:List Addr} {h:Heap} {b:Addr} {o:Obj} (hb:b∈fp) (e:h.get? b=some o):(b,o)∈YD fp h:=fV.mpr ⟨b,hb,by rw [e];rfl⟩
theorem zam {fp:List Addr} {h:Heap} {p:Addr × Obj} (hp:p∈YD fp h):p.1∈fp∧h.get? p.1=some p.2:=by
 obtain ⟨b,hb,e⟩:=List.mem_filterMap.mp hp
 cases q:h.get? b with
 | none=>rw [q] at e;cases e
 | some o =>
  rw [q] at e
  have e':(b,o)=p:=bS e
  subst e'
  exact ⟨hb,q⟩
theorem Inv.pinned {pins:List (Addr × Obj)} {σ:St} {H:Hp} {s:Shared} {fp:List Addr} (I:Inv X pins σ H s) (hf:∀ b∈fp,jP X pins H b) (ho:∀ b∈fp,∃ o,s.heap.get? b=some o∧∀ v,o.data≠.cell v):Inv X (pins ++ YD fp s.heap) σ H s :=
 I.pins_of fun p hp=>(bP.mp hp).elim (fun z=>I.pin p (bR _ z)) fun z=>by
  obtain ⟨hb,e⟩:=zam z
  obtain ⟨f0,f1,f2,_⟩:=hf p.1 hb
  obtain ⟨o,e',d⟩:=ho p.1 hb
  rw [e] at e';cases e'
  exact ⟨e,f0,f1,f2,d⟩
theorem Inv.unpinned {pins pl:List (Addr × Obj)} {σ:St} {H:Hp} {s:Shared} (I:Inv X (pins ++ pl) σ H s):Inv X pins σ H s:=I.pins_of fun p hp=>I.pin p (bR _ (cz _ hp))
theorem yU {iter:Expr} {body:List Stmt} {wi:TI} {g:TG} {tb:TS} {pos:Pos} (hp:PassesOwn (model X.prog X.w) X.A X.env X.xe) (hc:X.calm=true) (hi:PI X tg iter wi) (hg:PG X tg g) (hb:PSs X body tb)
  (hs:∀ x,foldedSetIterable iter X.env x=pure x:=by intro _;rfl):PS X (.For tg iter body [] pos) (xr wi g tb):=by
 intro pins s σ H D I h
 refine wpAny_For (thn (hi pins s σ H _ I h) fun v s1 h1=>thn h1 fun itv s2 h2=>?_) hs
 obtain ⟨it,fp,tn,J,H2,e,I2,T,st2,f2,W,⟨m0,w0⟩,turn⟩:=h2
 subst e
 -- what stays true of the iterator's objects through the loop
 have stat:∀ {H':Hp},(∀ b∈fp,H' b=none)→∀ b∈fp,jP X pins H' b:=fun hn b hb=>⟨hn b hb,(f2 b hb).2⟩
 refine codeAny_forLoop_any (fun n s'=>∃ i σ' H',Inv X pins σ' H' s'∧tn i s'.heap∧(∀ b∈fp,H' b=none)∧W i n σ' H') ?_ m0 ⟨0,σ,H2,I2,st2,fun b hb=>(f2 b hb).1,w0⟩
 rintro n s3 ⟨i,σ3,H3,I3,st3,fr3,w3⟩
 rcases turn i n σ3 H3 w3 with ⟨stop,qn⟩ | ⟨go,N,hN,step⟩
 ·refine fk hp (thn (T.done X rfl rfl rfl hc i pins s3 σ3 H3 X.xe I3 (stat fr3) st3 stop) fun r s4 ⟨hr,I4⟩=>?_)
  subst hr
  exact eN ⟨σ3,H3,I4,qn⟩
 ·refine fk hp (thn (T.item X rfl rfl rfl hc i pins s3 σ3 H3 X.xe I3 (stat fr3) st3 go) fun r s4 ⟨u,hr,h4⟩=>?_)
  subst hr
  refine fk hp (thn h4 fun _ s5 ⟨x,H5,I5,r5,y5,st5,fr5⟩=>?_)
  have I5':=I5.pinned (stat fr5) (T.obj _ _ st5)
  refine fk hp (thn (hg _ s5 σ3 H5 x u _ I5' r5 (step x H5 y5)) fun _ s6 ⟨σ6,H6,I6,q6⟩=>?_)
  refine fk hp (thn (hb _ s6 σ6 H6 _ I6 q6) fun f s7 q7=>?_)
  have again:∀ {σ7:St} {H7:Hp},Inv X (pins ++ YD fp s5.heap) σ7 H7 s7→N σ7 H7→∃ m,m < n∧∃ i σ' H',Inv X pins σ' H' s7∧tn i s7.heap∧(∀ b∈fp,H' b=none)∧W i m σ' H':=fun {σ7 H7} I7 n7=>by
   obtain ⟨m',hm,w7⟩:=hN σ7 H7 n7
   refine ⟨m',hm,i + 1,σ7,H7,I7.unpinned,T.keep _ _ _ st5 fun b hb o e=>(I7.pin (b,o) (bR _ (bR _ (jd hb e)))).1,fun b hb=>?_,w7⟩
   obtain ⟨o,e,d⟩:=T.obj _ _ st5 b hb
   exact (I7.pin (b,o) (bR _ (bR _ (jd hb e)))).2.1
  cases f with
  | next=>obtain ⟨σ7,H7,I7,n7⟩:=q7;exact again I7 n7
  | cont=>obtain ⟨σ7,H7,I7,n7⟩:=q7;exact again I7 n7
  | brk=>obtain ⟨σ7,H7,I7,q7⟩:=q7;exact ⟨σ7,H7,I7.unpinned,q7⟩
  | ret v=>obtain ⟨x7,σ7,H7,I7,r7,q7⟩:=q7;exact ⟨x7,σ7,H7,I7.unpinned,r7,q7⟩
end
abbrev R2:=V→V→Hp→VK→Prop
def OpR (X:Cx) (f:Value→Value→Sem Value) (r:R2):Prop :=
 ∀ (pins:List (Addr × Obj)) (s:Shared) (σ:St) (H:Hp) (x y:V) (v u:Value) (Q:VK),Inv X pins σ H s→RelV x v→RelV y u→r x y H Q →
  wpAny (model X.prog X.w) X.A (f v u) (EP X pins σ Q) X.xe s
def UnR (X:Cx) (f:Value→Sem Value) (r:V→Hp→VK→Prop):Prop :=
 ∀ (pins:List (Addr × Obj)) (s:Shared) (σ:St) (H:Hp) (x:V) (v:Value) (Q:VK),Inv X pins σ H s→RelV x v→r x H Q →
  wpAny (model X.prog X.w) X.A (f v) (EP X pins σ Q) X.xe s
def vq (X:Cx) (f:Value) (r:List V→Hp→VK→Prop):Prop :=
 ∀ (pins:List (Addr × Obj)) (s:Shared) (σ:St) (H:Hp) (xs:List V) (us:List Value) (Q:VK),Inv X pins σ H s→Vals xs us→r xs H Q →
  wpAny (model X.prog X.w) X.A (call f us) (EP X pins σ Q) X.xe s
def tOp (r:R2) (ta tb:TE):TE:=fun σ H Q=>ta σ H fun x H1=>tb σ H1 fun y H2=>r x y H2 Q
def tUn (r:V→Hp→VK→Prop) (ta:TE):TE:=fun σ H Q=>ta σ H fun x H1=>r x H1 Q
def rI (C:Int→Int→Prop) (g:Int→Int→V):R2:=fun x y H Q=>∃ i j,x=.int i∧y=.int j∧C i j∧Q (g i j) H
def rI0 (g:Int→Int→V):R2:=fun x y H Q=>∃ i j,x=.int i∧y=.int j∧Q (g i j) H
def rU (g:Int→V):V→Hp→VK→Prop:=fun x H Q=>∃ i,x=.int i∧Q (g i) H
section
variable {X:Cx} {a b c:Expr} {ta tb tc:TE} {pos:Pos}
theorem zfe (ha:PE X a ta) (hb:PE X b tb) {pins:List (Addr × Obj)} {s:Shared} {σ:St} {H:Hp} {R:V→V→Hp→Prop} (I:Inv X pins σ H s)
  (h:ta σ H fun x H1=>tb σ H1 fun y H2=>R x y H2) {Q:Value→Shared→Prop} {f:Value→Value→Sem Value}
  (hf:∀ v u s2 x y H2,Inv X pins σ H2 s2→RelV x v→RelV y u→R x y H2→wpAny (model X.prog X.w) X.A (f v u) Q X.xe s2) :
  wpAny (model X.prog X.w) X.A (eval a X.env) (fun v s₁=>wpAny (model X.prog X.w) X.A (eval b X.env) (fun u s₂=>wpAny (model X.prog X.w) X.A (f v u) Q X.xe s₂) X.xe s₁) X.xe s:=by
 refine thn (ha pins s σ H _ I h) fun v s1 ⟨x,H1,I1,r1,q1⟩=>?_
 refine thn (hb pins s1 σ H1 _ I1 q1) fun u s2 ⟨y,H2,I2,r2,q2⟩=>?_
 exact hf v u s2 x y H2 I2 r1 r2 q2
theorem zp {op:Operator} {r:R2} (ho:OpR X (binaryOp op) r) (ha:PE X a ta) (hb:PE X b tb):PE X (.BinOp a op b pos) (tOp r ta tb):=by
 intro pins s σ H Q I h
 exact wpAny_BinOp (zfe ha hb I h fun v u s2 x y H2 I2 rx ry q=>ho pins s2 σ H2 x y v u Q I2 rx ry q)
theorem YE {op:UnaryOp} {r:V→Hp→VK→Prop} (ho:UnR X (unaryOp op) r) (ha:PE X a ta):PE X (.UnaryOp op a pos) (tUn r ta):=by
 intro pins s σ H Q I h
 exact UnaryOp_ (thn (ha pins s σ H _ I h) fun v s1 ⟨x,H1,I1,r1,q1⟩=>ho pins s1 σ H1 x v Q I1 r1 q1)
theorem opI {f:Value→Value→Sem Value} {C:Int→Int→Prop} {g:Int→Int→Int}
  (rule:∀ (i j:Int) (t u:Tok) (s:Shared) (Q:Value→Shared→Prop) (E:Value→Shared→Prop),C i j→Q (.int (g i j) s.toks) { s with toks:=s.toks + 1 }→wpAny (model X.prog X.w) X.A (f (.int i t) (.int j u)) Q E s) :
  OpR X f (rI C fun i j=>.int (g i j)):=by
 intro pins s σ H x y v u Q I rx ry h
 obtain ⟨i,j,rfl,rfl,hc,q⟩:=h
 obtain ⟨t,rfl⟩:=rx
 obtain ⟨t',rfl⟩:=ry
 exact rule i j t t' s _ _ hc ⟨.int (g i j),H,I.tok _,⟨_,rfl⟩,q⟩
theorem zf6 {f:Value→Value→Sem Value} {g:Int→Int→Int}
  (rule:∀ (i j:Int) (t u:Tok) (s:Shared) (Q:Value→Shared→Prop) (E:Value→Shared→Prop),Q (.int (g i j) s.toks) { s with toks:=s.toks + 1 }→wpAny (model X.prog X.w) X.A (f (.int i t) (.int j u)) Q E s) :
  OpR X f (rI0 fun i j=>.int (g i j)):=by
 intro pins s σ H x y v u Q I rx ry h
 obtain ⟨i,j,rfl,rfl,q⟩:=h
 obtain ⟨t,rfl⟩:=rx
 obtain ⟨t',rfl⟩:=ry
 exact rule i j t t' s _ _ ⟨.int (g i j),H,I.tok _,⟨_,rfl⟩,q⟩
theorem zdq {f:Value→Value→Sem Value} {g:Int→Int→Bool}
  (rule:∀ (i j:Int) (t u:Tok) (s:Shared) (Q:Value→Shared→Prop) (E:Value→Shared→Prop),Q (.bool (g i j)) s→wpAny (model X.prog X.w) X.A (f (.int i t) (.int j u)) Q E s) :
  OpR X f (rI0 fun i j=>.bl (g i j)):=by
 intro pins s σ H x y v u Q I rx ry h
 obtain ⟨i,j,rfl,rfl,q⟩:=h
 obtain ⟨t,rfl⟩:=rx
 obtain ⟨t',rfl⟩:=ry
 exact rule i j t t' s _ _ ⟨.bl (g i j),H,I,rfl,q⟩
def Kn (i j:Int):Prop:=0≤j∧j≤1000000∧i.natAbs < 2 ^ 64
theorem zQ:OpR X (binaryOp .Add) (rI0 fun i j=>.int (i + j)):=zf6 fun _ _ _ _ _ _ _ q=>add_int q
theorem WY:OpR X (binaryOp .Sub) (rI0 fun i j=>.int (i - j)):=zf6 fun _ _ _ _ _ _ _ q=>sub_int q
theorem zY:OpR X (binaryOp .Mod) (rI (fun _ j=>0 < j) fun i j=>.int (i % j)):=opI fun i j _ _ _ _ _ hc q=>by
 have h1:(0:Int) < j:=hc
 exact mod_int' (by lia) (by rw [Int.fmod_eq_emod_of_nonneg i (by lia)];exact q)
theorem zdr:OpR X (binaryOp .Mod) (rI (fun _ j=>j≠0) fun i j=>.int (i.fmod j)):=opI fun _ _ _ _ _ _ _ hc q=>mod_int' hc q
theorem YF:OpR X (binaryOp .Pow) (rI Kn fun i j=>.int (i ^ j.toNat)):=opI fun _ _ _ _ _ _ _ hc q=>pow_int_small hc.1 hc.2.1 hc.2.2 q
theorem unI {f:Value→Sem Value} {g:Int→Int}
  (rule:∀ (i:Int) (t:Tok) (s:Shared) (Q:Value→Shared→Prop) (E:Value→Shared→Prop),Q (.int (g i) s.toks) { s with toks:=s.toks + 1 }→wpAny (model X.prog X.w) X.A (f (.int i t)) Q E s) :
  UnR X f (rU fun i=>.int (g i)):=by
 intro pins s σ H x v Q I rx h
 obtain ⟨i,rfl,q⟩:=h
 obtain ⟨t,rfl⟩:=rx
 exact rule i t s _ _ ⟨.int (g i),H,I.tok _,⟨_,rfl⟩,q⟩
theorem k9:UnR X (unaryOp .USub) (rU fun i=>.int (-i)):=unI fun _ _ _ _ _ q=>neg_int q
end
def jS:V→V→Bool
 | .non,.non=>true | .non,.int _=>true | .int _,.non=>true | .non,.bl _=>true | .bl _,.non=>true | .non,.str _=>true | .str _,.non=>true
 | .int _,.int _=>true | .bl _,.bl _=>true | .str _,.str _=>true | .byt _,.byt _=>true
 | .int _,.str _=>true | .str _,.int _=>true | .bl _,.str _=>true | .str _,.bl _=>true
 | _,_=>false
def rEq:R2:=fun x y H Q=>jS x y=true∧Q (.bl (decide (x=y))) H
def rNe:R2:=fun x y H Q=>jS x y=true∧Q (.bl (!decide (x=y))) H
theorem Qq {i j:Int}:decide (V.int i=V.int j)=(i == j):=by
 rw [iU]
 simp
theorem za9 {i j:Bool}:decide (V.bl i=V.bl j)=(i == j):=by
 rw [iU]
 simp
theorem Qr {i j:Str}:decide (V.str i=V.str j)=(i == j):=by
 rw [iU]
 simp
theorem Qs {i j:Array UInt8}:decide (V.byt i=V.byt j)=(i.toList == j.toList):=by
 rw [iU]
 cases i
 cases j
 simp
section
variable {X:Cx} {a b c:Expr} {ta tb tc:TE} {pos:Pos}
theorem z7 {pins:List (Addr × Obj)} {σ:St} {H:Hp} {s:Shared} {Q:VK} {k k':Bool} (I:Inv X pins σ H s) (q:Q (.bl k) H) (e:k=k'):EP X pins σ Q (.bool k') s:=by
 subst e
 exact ⟨.bl k,H,I,rfl,q⟩
theorem yF:OpR X (compareOp .Eq) rEq:=by
 intro pins s σ H x y v u Q I rx ry h
 obtain ⟨hs,q⟩:=h
 cases x with
 | non =>
  cases rx
  cases y with
  | non=>cases ry;exact PySem.EqNone.eq_none_none (z7 I q (by simp))
  | bl j=>cases ry;exact PySem.EqNone.eq_none_bool (z7 I q (by simp))
  | int j=>obtain ⟨t',rfl⟩:=ry;exact PySem.EqNone.eq_none_int (z7 I q (by simp))
  | str j=>obtain ⟨t',rfl⟩:=ry;exact PySem.EqNone.eq_none_str (z7 I q (by simp))
  | _=>exact absurd (show false=true from hs) bJ
 | bl i =>
  cases rx
  cases y with
  | non=>cases ry;exact PySem.EqNone.eq_bool_none (z7 I q (by simp))
  | bl j=>cases ry;exact eq_bool (z7 I q za9)
  | str j=>obtain ⟨t',rfl⟩:=ry;exact PySem.EqMixed.eq_bool_str (z7 I q (by simp))
  | _=>exact absurd (show false=true from hs) bJ
 | int i =>
  obtain ⟨t,rfl⟩:=rx
  cases y with
  | non=>cases ry;exact PySem.EqNone.eq_int_none (z7 I q (by simp))
  | int j=>obtain ⟨t',rfl⟩:=ry;exact eq_int (z7 I q Qq)
  | str j=>obtain ⟨t',rfl⟩:=ry;exact PySem.EqMixed.eq_int_str (z7 I q (by simp))
  | _=>exact absurd (show false=true from hs) bJ
 | str i =>
  obtain ⟨t,rfl⟩:=rx
  cases y with
  | non=>cases ry;exact PySem.EqNone.eq_str_none (z7 I q (by simp))
  | bl j=>cases ry;exact PySem.EqMixed.eq_str_bool (z7 I q (by simp))
  | int j=>obtain ⟨t',rfl⟩:=ry;exact PySem.EqMixed.eq_str_int (z7 I q (by simp))
  | str j=>obtain ⟨t',rfl⟩:=ry;exact eq_str (z7 I q Qr)
  | _=>exact absurd (show false=true from hs) bJ
 | byt i =>
  obtain ⟨t,rfl⟩:=rx
  cases y with
  | byt j=>obtain ⟨t',rfl⟩:=ry;exact W.eq_bytes (z7 I q Qs)
  | _=>exact absurd (show false=true from hs) bJ
 | _=>cases y <;> exact absurd (show false=true from hs) bJ
theorem Wi:OpR X (compareOp .NotEq) rNe:=by
 intro pins s σ H x y v u Q I rx ry h
 obtain ⟨hs,q⟩:=h
 cases x with
 | non =>
  cases rx
  cases y with
  | non=>cases ry;exact PySem.EqNone.ne_none_none (z7 I q (by simp))
  | bl j=>cases ry;exact PySem.EqNone.ne_none_bool (z7 I q (by simp))
  | int j=>obtain ⟨t',rfl⟩:=ry;exact PySem.EqNone.ne_none_int (z7 I q (by simp))
  | str j=>obtain ⟨t',rfl⟩:=ry;exact PySem.EqNone.ne_none_str (z7 I q (by simp))
  | _=>exact absurd (show false=true from hs) bJ
 | bl i =>
  cases rx
  cases y with
  | non=>cases ry;exact PySem.EqNone.ne_bool_none (z7 I q (by simp))
  | bl j=>cases ry;exact ne_bool (z7 I q (congrArg not za9))
  | str j=>obtain ⟨t',rfl⟩:=ry;exact PySem.EqMixed.ne_bool_str (z7 I q (by simp))
  | _=>exact absurd (show false=true from hs) bJ
 | int i =>
  obtain ⟨t,rfl⟩:=rx
  cases y with
  | non=>cases ry;exact PySem.EqNone.ne_int_none (z7 I q (by simp))
  | int j=>obtain ⟨t',rfl⟩:=ry;exact ne_int (z7 I q (congrArg not Qq))
  | str j=>obtain ⟨t',rfl⟩:=ry;exact PySem.EqMixed.ne_int_str (z7 I q (by simp))
  | _=>exact absurd (show false=true from hs) bJ
 | str i =>
  obtain ⟨t,rfl⟩:=rx
  cases y with
  | non=>cases ry;exact PySem.EqNone.ne_str_none (z7 I q (by simp))
  | bl j=>cases ry;exact PySem.EqMixed.ne_str_bool (z7 I q (by simp))
  | int j=>obtain ⟨t',rfl⟩:=ry;exact PySem.EqMixed.ne_str_int (z7 I q (by simp))
  | str j=>obtain ⟨t',rfl⟩:=ry;exact ne_str (z7 I q (congrArg not Qr))
  | _=>exact absurd (show false=true from hs) bJ
 | byt i =>
  obtain ⟨t,rfl⟩:=rx
  cases y with
  | byt j=>obtain ⟨t',rfl⟩:=ry;exact W.ne_bytes (z7 I q (congrArg not Qs))
  | _=>exact absurd (show false=true from hs) bJ
 | _=>cases y <;> exact absurd (show false=true from hs) bJ
theorem VX:OpR X (compareOp .Lt) (rI0 fun i j=>.bl (decide (i < j))):=zdq fun _ _ _ _ _ _ _ q=>lt_int q
theorem zba:OpR X (compareOp .LtE) (rI0 fun i j=>.bl (decide (i≤j))):=zdq fun _ _ _ _ _ _ _ q=>le_int q
theorem zbb:OpR X (compareOp .Gt) (rI0 fun i j=>.bl (decide (j < i))):=zdq fun _ _ _ _ _ _ _ q=>gt_int q
theorem zf7:OpR X (compareOp .GtE) (rI0 fun i j=>.bl (decide (j≤i))):=zdq fun _ _ _ _ _ _ _ q=>ge_int q
theorem zff:OpR X (compareOp .Is) (fun x y H Q=>y=.non∧Q (.bl (decide (x=.non))) H):=by
 intro pins s σ H x y v u Q I rx ry h
 obtain ⟨rfl,q⟩:=h
 cases ry
 refine is_none_gen (z7 I q ?_)
 cases x <;> first
  | (cases rx;rfl)
  | (obtain ⟨t,rfl⟩:=rx;rfl)
theorem Qt:OpR X (compareOp .IsNot) (fun x y H Q=>y=.non∧Q (.bl (!decide (x=.non))) H):=by
 intro pins s σ H x y v u Q I rx ry h
 obtain ⟨rfl,q⟩:=h
 cases ry
 refine isnot_none_gen (z7 I q ?_)
 cases x <;> first
  | (cases rx;rfl)
  | (obtain ⟨t,rfl⟩:=rx;rfl)
theorem zJ (b:Expr) {op:CmpOp} (h:op≠.In:=by decide) (h2:op≠.NotIn:=by decide):behindInMarks op b=false:=by
 have e1:(op == CmpOp.In)=false:=by cases op <;> first | rfl | exact absurd rfl h
 have e2:(op == CmpOp.NotIn)=false:=by cases op <;> first | rfl | exact absurd rfl h2
 cases b <;> simp [behindInMarks,e1,e2]
theorem kF {op:CmpOp} {r:R2} (ho:OpR X (compareOp op) r) (ha:PE X a ta) (hb:PE X b tb) (hm:behindInMarks op b=false):PE X (.Compare a [op] [b] pos) (tOp r ta tb):=by
 intro pins s σ H Q I h
 exact wpAny_Compare1 (zfe ha hb I h fun v u s2 x y H2 I2 rx ry q=>ho pins s2 σ H2 x y v u Q I2 rx ry q) hm
def zC (t:TE):TT:=fun σ H Q=>t σ H fun x H'=>∃ k,x=.bl k∧Q k H'
theorem zw {op:CmpOp} {r:R2} (ho:OpR X (compareOp op) r) (ha:PE X a ta) (hb:PE X b tb) (hm:behindInMarks op b=false):PT X (.Compare a [op] [b] pos) (zC (tOp r ta tb)):=by
 intro pins s σ H Q I h
 refine wpAny_isTrue_Compare1 (thn (ha pins s σ H _ I h) fun v s1 ⟨x,H1,I1,r1,q1⟩=>thn (hb pins s1 σ H1 _ I1 q1) fun u s2 ⟨y,H2,I2,r2,q2⟩ =>
  thn (ho pins s2 σ H2 x y v u _ I2 r1 r2 q2) fun c s3 ⟨z,H3,I3,r3,k,e,q3⟩=>?_) hm
 subst e
 cases r3
 exact dU ⟨H3,I3,q3⟩
def Zj (r r':R2) (ta tb tc:TE):TE:=fun σ H Q=>ta σ H fun x H1=>tb σ H1 fun y H2=>r x y H2 fun z H3=>∃ k,z=.bl k ∧
 (if k=true then tc σ H3 fun w' H4=>r' y w' H4 Q else Q (.bl false) H3)
theorem zbc {op op':CmpOp} {r r':R2} (ho:OpR X (compareOp op) r) (ho':OpR X (compareOp op') r') (ha:PE X a ta) (hb:PE X b tb) (hc:PE X c tc)
  (hm:lastMarks [op,op'] [b,c]=false:=by with_unfolding_all rfl):PE X (.Compare a [op,op'] [b,c] pos) (Zj r r' ta tb tc):=by
 intro pins s σ H Q I h
 refine Compare_chain (thn (ha pins s σ H _ I h) fun v s1 ⟨x,H1,I1,r1,q1⟩=>chain_link (thn (hb pins s1 σ H1 _ I1 q1) fun u s2 ⟨y,H2,I2,r2,q2⟩ =>
  thn (ho pins s2 σ H2 x y v u _ I2 r1 r2 q2) fun d s3 ⟨z,H3,I3,r3,k,e,q3⟩=>?_)) hm
 subst e
 cases r3
 refine dU ?_
 cases k with
 | false=>exact ite_ff ⟨.bl false,H3,I3,rfl,q3⟩
 | true=>exact ite_tt (chain_last (thn (hc pins s3 σ H3 _ I3 q3) fun w' s4 ⟨z',H4,I4,r4,q4⟩=>ho' pins s4 σ H4 y z' u w' Q I4 r2 r4 q4))
theorem zbd {op op':CmpOp} {r r':R2} (ho:OpR X (compareOp op) r) (ho':OpR X (compareOp op') r') (ha:PE X a ta) (hb:PE X b tb) (hc:PE X c tc)
  (hm:lastMarks [op,op'] [b,c]=false:=by with_unfolding_all rfl):PT X (.Compare a [op,op'] [b,c] pos) (zC (Zj r r' ta tb tc)):=by
 intro pins s σ H Q I h
 refine isTrue_chain (thn (ha pins s σ H _ I h) fun v s1 ⟨x,H1,I1,r1,q1⟩=>test_link (thn (hb pins s1 σ H1 _ I1 q1) fun u s2 ⟨y,H2,I2,r2,q2⟩ =>
  thn (ho pins s2 σ H2 x y v u _ I2 r1 r2 q2) fun d s3 ⟨z,H3,I3,r3,k,e,q3⟩=>?_)) hm
 subst e
 cases r3
 refine dU ?_
 cases k with
 | false =>
  obtain ⟨k',e',q'⟩:=q3
  cases e'
  exact ite_ff ⟨H3,I3,q'⟩
 | true =>
  refine ite_tt (test_last (thn (hc pins s3 σ H3 _ I3 q3) fun w' s4 ⟨z',H4,I4,r4,q4⟩=>thn (ho' pins s4 σ H4 y z' u w' _ I4 r2 r4 q4) fun d' s5 ⟨z2,H5,I5,r5,k2,e2,q5⟩=>?_))
  subst e2
  cases r5
  exact dU ⟨H5,I5,q5⟩
theorem WZ:(sizeLine:Nat) < 2 ^ 63:=by rw [dw];decide
theorem xt:OpR X (binaryOp .Add) (fun x y H Q=>∃ i j,x=.str i∧y=.str j∧i.length + j.length≤sizeLine∧Q (.str (i ++ j)) H):=by
 intro pins s σ H x y v u Q I rx ry h
 obtain ⟨i,j,rfl,rfl,hz,q⟩:=h
 obtain ⟨t,rfl⟩:=rx
 obtain ⟨t',rfl⟩:=ry
 exact add_str (fun t' tk=>⟨.str (i ++ j),H,I.tok _,⟨_,rfl⟩,q⟩) hz
theorem jM {x:V} {us:List Value} (r:Vals [x] us):∃ u,us=[u]∧RelV x u:=by
 cases r with
 | cons r1 r2=>cases r2;exact ⟨_,rfl,r1⟩
theorem zf8 {x y:V} {us:List Value} (r:Vals [x,y] us):∃ u w',us=[u,w']∧RelV x u∧RelV y w':=by
 cases r with
 | cons r1 r2 =>
  cases r2 with
  | cons r3 r4=>cases r4;exact ⟨_,_,rfl,r1,r3⟩
def je (K:bD) (x:V) (H:Hp) (n:Nat):Prop :=
 match x with
 | .str y=>y.length≤sizeLine∧n=y.length
 | .byt y=>y.size≤sizeLine∧n=y.size
 | .ref p=>(∃ xs,SqL K H p xs∧n=xs.length)∨∃ xs,SqT K H p xs∧n=xs.length
 | _=>False
theorem z5:vq X (.builtin "len") (fun xs H Q=>∃ x n,xs=[x]∧je X.K x H n∧Q (.int n) H):=by
 intro pins s σ H xs us Q I r h
 obtain ⟨x,n,rfl,e,q⟩:=h
 obtain ⟨u,rfl,rx⟩:=jM r
 have hl:=WZ
 have hs:sizeLine=16777216:=dw
 cases x with
 | str y =>
  obtain ⟨t,rfl⟩:=rx
  obtain ⟨hy,e'⟩:y.length≤sizeLine∧n=y.length:=e
  subst e'
  exact len_str (by lia) ⟨.int _,H,I.tok _,⟨_,rfl⟩,q⟩
 | byt y =>
  obtain ⟨t,rfl⟩:=rx
  obtain ⟨hy,e'⟩:y.size≤sizeLine∧n=y.size:=e
  subst e'
  exact W.len_bytes (by lia) ⟨.int _,H,I.tok _,⟨_,rfl⟩,q⟩
 | ref p =>
  cases rx
  have e':(∃ xs,SqL X.K H p xs∧n=xs.length)∨∃ xs,SqT X.K H p xs∧n=xs.length:=e
  rcases e' with ⟨xs,hx,e'⟩ | ⟨xs,hx,e'⟩
  ·subst e'
   obtain ⟨its,r',pl,hz⟩:=I.list hx
   have hlen:=r'.length
   exact Calls.call_len_list pl.isList (by simp only [bG];lia) ⟨.int xs.length,H,I.tok _,⟨_,by simp only [bG];rw [hlen]⟩,q⟩
  ·subst e'
   obtain ⟨its,r',pl,hz⟩:=I.tuple hx
   have hlen:=r'.length
   exact len_tuple pl (by simp only [bG];lia) ⟨.int xs.length,H,I.tok _,⟨_,by simp only [bG];rw [hlen]⟩,q⟩
 | _=>exact (show False from e).elim
end
structure ObjM (h:Heap) (x dx C:Addr) (mA:Str→Option Value):Prop where
 obj:h.get? x=some (iT C dx)
 ns:h.Ns1 dx mA
 ne:dx≠x
theorem zan {h:Heap} {dx:Addr} {mA:Str→Option Value} (n:h.Ns1 dx mA):∃ od,h.get? dx=some od∧∀ name,pX name od=some (mA name):=by
 obtain ⟨o,es,ep,ho,hd,hk,_,hm⟩:=n
 refine ⟨o,ho,fun name=>?_⟩
 have e:=hm name
 unfold nsFind findBy at e
 rw [← Array.find?_toList] at e
 unfold pX
 rw [hd]
 dsimp only
 split
 ·rename_i y q
  rw [q] at e
  exact congrArg some e
 ·rename_i q
  rw [q] at e
  have a:es.toList.any (·.refKey)=false:=by
   rw [eG]
   intro y hy
   obtain ⟨z,t,hkey⟩:=hk y (Array.mem_toList_iff.mp hy)
   simp [DictEntry.refKey,hkey]
  have a':¬ es.toList.any (·.refKey)=true:=by rw [a];exact bJ
  rw [if_neg a']
  exact congrArg some e
theorem ObjM.look {h:Heap} {x dx C:Addr} {mA:Str→Option Value} (I:ObjM h x dx C mA):∃ od,W.InstAt h x (iT C dx) C (some od)∧∀ name,pX name od=some (mA name) :=
 let ⟨od,ho,hl⟩:=zan I.ns
 ⟨od,⟨I.obj,rfl,rfl,ho⟩,hl⟩
section
variable {prog:Program} {w:World} {A:Around} {E:Value→Shared→Prop} {s:Shared} {K:bD} {x dx C f:Addr} {mA:Str→Option Value} {name:Str} {v:Value}
theorem zds {expr:Bool} {Q:Value→Shared→Prop} (X:K.In s.heap) (I:ObjM s.heap x dx C mA) (hg:nN K C name=true) (hh:n9 K C=true)
  (ha:dE K (.ref C) name=some none) (hv:mA name=some v) (hv':W.handedIn v=true) (h:Q v { s with toks:=s.toks + 1 }) :
  wpAny (model prog w) A (getAttr (.ref x) name expr) Q E s:=by
 obtain ⟨od,J,hl⟩:=I.look
 exact W.get_value X J (oy hg).1 (W.findObj_own hh ha rfl (by rw [hl,hv])) hv' h
theorem zbe {pl:Sem Bool} {Q:Value × List Value→Shared→Prop} (X:K.In s.heap) (I:ObjM s.heap x dx C mA) (hg:nN K C name=true)
  (hf:dE K (.ref C) name=some (some (.ref f))) (ht:re K (.ref f)=true) (hv:mA name=none) (h:Q (.ref f,[.ref x]) s) :
  wpAny (model prog w) A (getMethod (.ref x) name pl) Q E s:=by
 obtain ⟨od,J,hl⟩:=I.look
 exact W.method_fn X J (oy hg).1 (oy hg).2 hf (beq_iff_eq.mp ht) (by show (pX name od).map (·.isSome)=some false;rw [hl,hv];rfl) h
theorem zdt {ns:List Str} {Q:Unit→Shared→Prop} (X:K.In s.heap) (I:ObjM s.heap x dx C mA)
  (hs:dE K (.ref C) "__setattr__"=some (some (.builtin "object.__setattr__"))) (hp:pP K C=true) (ht:W.takerIn K C name=some none) (hh:n9 K C=true)
  (hw:oW mA ns) (hsz:ns.length≤sizeLine)
  (h:∀ h',ObjM h' x dx C (fun y=>if y=name then some v else mA y)→cZ dx s.heap h'→Q () { s with heap:=h',toks:=s.toks + 2 }) :
  wpAny (model prog w) A (setAttr (.ref x) name v) Q E s:=by
 obtain ⟨od,J,hl⟩:=I.look
 refine W.set_plain X J hs (W.osa_open (s:={ s with toks:=s.toks + 1 }) (r:=none) X J hp ht fun b=>?_)
 obtain ⟨cd,hc,hd'⟩:=W.any_some hh
 have hx:s.heap.get? x=some ⟨.ref C,some dx,.plain,#[]⟩:=I.obj
 refine bb (bo (bb (bb (wpAny_loadPart hx (bb (W.Looks.here (s:={ s with toks:=s.toks + 1 }) (W.looks_clsIn X hc) ?_))))))
 rw [hd']
 refine bo (a:=some dx) (bb (bo (bb ?_)))
 refine wpAny_nsSet1 (s:={ s with toks:=s.toks + 1 }) I.ns fun h' hn2 hs2=>?_
 obtain ⟨oD,esD,epD,hoD,hdD,hcD⟩:=hn2.count (PySem.Within.cons name v hw)
 refine bb (wpAny_lookBehind hoD (by rw [hdD];exact pastItsLine_dict (bU hcD (by rw [cp];lia))) ?_)
 exact bo (h _ ⟨(hs2.2 _ (cP I.ne)).trans I.obj,hn2,I.ne⟩ hs2)
theorem zbf {R:Result→Shared→Prop} {vs:List Value} {kw:List (Str × Value)} (X:K.In s.heap) (hm:W.makesIn K C=true)
  (hi:dE K (.ref C) "__init__"=some (some (.ref f))) (hf:W.typeIn K (.ref f)=some (.type "function"))
  (h:codeAny (model prog w) (A.under (.builtin "type.__call__" ⟨.ref C :: vs,kw⟩)) (.call (.ref f) ⟨.ref (s.heap.objs.size + 1) :: vs,kw⟩) (W.InitBack (s.heap.objs.size + 1) R)
   { s with heap:=(s.heap.push fX).push (iT C s.heap.objs.size) }) :
  codeAny (model prog w) A (.call (.ref C) ⟨vs,kw⟩) R s:=by
 obtain ⟨hh,g,d,t,os⟩:=s
 exact W.make_core (W.makes_of X hm) (W.looks_findIn X hi) (fun self=>W.bind_fn X self hf) (.inl rfl) h
end
def yi (f:Str) (v:V):List (Str × V)→List (Str × V)
 | []=>[(f,v)]
 | (g,x) :: r=>if g=f then (g,v) :: r else (g,x) :: yi f v r
theorem ZR (f g:Str) (v:V):∀ fs:List (Str × V),(yi f v fs).lookup g=if g=f then some v else fs.lookup g
 | []=>by
  show ia g [(f,v)]=_
  by_cases h:g=f
  ·have hb:(g == f)=true:=beq_iff_eq.mpr h
   simp only [ia,hb,if_pos h]
  ·have hb:(g == f)=false:=beq_eq_false_iff_ne.mpr h
   simp only [ia,hb,if_neg h]
 | (k,x) :: r=>by
  have ih:=ZR f g v r
  rw [show yi f v ((k,x) :: r)=(if k=f then (k,v) :: r else (k,x) :: yi f v r) from rfl]
  by_cases hk:k=f
  ·rw [if_pos hk]
   by_cases h:g=k
   ·have hb:(g == k)=true:=beq_iff_eq.mpr h
    simp only [ia,hb,if_pos (h.trans hk)]
   ·have hb:(g == k)=false:=beq_eq_false_iff_ne.mpr h
    simp only [ia,hb,if_neg (fun e:g=f=>h (e.trans hk.symm))]
  ·rw [if_neg hk]
   by_cases h:g=k
   ·have hb:(g == k)=true:=beq_iff_eq.mpr h
    simp only [ia,hb,if_neg (fun e:g=f=>hk (h.symm.trans e))]
   ·have hb:(g == k)=false:=beq_eq_false_iff_ne.mpr h
    simp only [ia,hb]
    exact ih
theorem Zk (f:Str) (v:V):∀ fs:List (Str × V),f∈(yi f v fs).map (·.1)∧∀ g,g∈fs.map (·.1)→g∈(yi f v fs).map (·.1)
 | []=>⟨by simp [yi],fun g h=>by simp at h⟩
 | (k,x) :: r=>by
  obtain ⟨i1,i2⟩:=Zk f v r
  rw [show yi f v ((k,x) :: r)=(if k=f then (k,v) :: r else (k,x) :: yi f v r) from rfl]
  by_cases hk:k=f
  ·rw [if_pos hk]
   subst hk
   exact ⟨by simp,fun g h=>by simpa using h⟩
  ·rw [if_neg hk]
   refine ⟨?_,fun g h=>?_⟩
   ·rw [bX]
    exact bx _ i1
   ·rw [bX] at h ⊢
    rcases bK.mp h with e | e
    ·exact bK.mpr (.inl e)
    ·exact bx _ (i2 g e)
theorem ZS (f:Str) (v:V):∀ fs:List (Str × V),(yi f v fs).length≤fs.length + 1
 | []=>by simp [yi]
 | (k,x) :: r=>by
  have ih:=ZS f v r
  rw [show yi f v ((k,x) :: r)=(if k=f then (k,v) :: r else (k,x) :: yi f v r) from rfl]
  by_cases hk:k=f
  ·rw [if_pos hk,cp,cp];lia
  ·rw [if_neg hk,cp,cp];lia
theorem RelO.some_of {v:V} {o:Option Value} (r:RelO (some v) o):∃ u,o=some u∧RelV v u:=by
 cases o with
 | none=>exact (show False from r).elim
 | some u=>exact ⟨u,rfl,r⟩
theorem RelO.none_of {o:Option Value} (r:RelO none o):o=none:=by
 cases o with
 | none=>rfl
 | some u=>exact (show False from r).elim
theorem zao {v:V} {u:Value} (r:RelV v u):W.handedIn u=true:=by
 cases v with
 | non=>cases (show u=cH from r);rfl
 | bl b=>cases (show u=gZ b from r);rfl
 | int i=>obtain ⟨t,e⟩:=(show ∃ t,u=io i t from r);cases e;rfl
 | str x=>obtain ⟨t,e⟩:=(show ∃ t,u=iS x t from r);cases e;rfl
 | byt b=>obtain ⟨t,e⟩:=(show ∃ t,u=Value.bytes b t from r);cases e;rfl
 | flt b=>obtain ⟨t,e⟩:=(show ∃ t,u=pL b t from r);cases e;rfl
 | ref a=>cases (show u=bM a from r);rfl
 | ty n=>cases (show u=gn n from r);rfl
section
variable {P:Program} {w:World} {H H':Hp} {h h':Heap} {a C dx:Addr} {fs fs':List (Str × V)}
theorem Ys (hok:HOk P w H h) (e:H a=some (.ins C dx fs)):∃ mA,ObjM h a dx C mA∧(∀ f,RelO (fs.lookup f) (mA f))∧oW mA (fs.map (·.1))∧fs.length≤1000∧H dx=some (.own a):=by
 obtain ⟨d,z,ne,ob,mA,n,r,q⟩:=(show ObjOk P w H h a (.ins C dx fs) from hok a _ e)
 exact ⟨mA,⟨ob,n,ne⟩,r,q,z,d⟩
end
structure Cls (K:bD) (C:Addr):Prop where
 pg:nN K C gP=true
 hd:n9 K C=true
 po:pP K C=true
 sa:dE K (.ref C) "__setattr__"=some (some (.builtin "object.__setattr__"))
theorem Cls.get {K:bD} {C:Addr} (c:Cls K C) (f:Str):nN K C f=true:=c.pg
def NoAttr (K:bD) (C:Addr) (f:Str):Prop:=dE K (.ref C) f=some none
theorem NoAttr.taker {K:bD} {C:Addr} {f:Str} (n:NoAttr K C f):W.takerIn K C f=some none:=by
 unfold W.takerIn
 rw [show dE K (.ref C) f=some none from n]
 rfl
structure zap (K:bD) (C:Addr) (m:Str) (f:Addr):Prop where
 at_:dE K (.ref C) m=some (some (.ref f))
 fn:re K (.ref f)=true
 kp:gG K (.ref f)=true
section
variable {X:Cx} {pins:List (Addr × Obj)} {σ:St} {H:Hp} {s:Shared} {a C dx:Addr} {fs:List (Str × V)} {f:Str} {v:V} {A:Around} {E:Value→Shared→Prop}
theorem Ko {b:Bool} {Q:Value→Shared→Prop} (I:Inv X pins σ H s) (e:H a=some (.ins C dx fs)) (c:Cls X.K C) (n:NoAttr X.K C f) (l:fs.lookup f=some v)
  (h:∀ u s',Inv X pins σ H s'→RelV v u→Q u s'):wpAny (model X.prog X.w) A (getAttr (.ref a) f b) Q E s:=by
 obtain ⟨mA,O,r,_,_,_⟩:=Ys I.hok e
 obtain ⟨u,hu,ru⟩:=RelO.some_of (v:=v) (o:=mA f) (by rw [← l];exact r f)
 exact zds I.kIn O (c.get f) c.hd n hu (zao ru) (h u _ (I.tok _) ru)
theorem qa {m:Str} {g:Addr} {pl:Sem Bool} {Q:Value × List Value→Shared→Prop} (I:Inv X pins σ H s) (e:H a=some (.ins C dx fs)) (c:Cls X.K C) (k:zap X.K C m g) (l:fs.lookup m=none)
  (h:Q (.ref g,[.ref a]) s):wpAny (model X.prog X.w) A (getMethod (.ref a) m pl) Q E s:=by
 obtain ⟨mA,O,r,_,_,_⟩:=Ys I.hok e
 have hn:mA m=none:=RelO.none_of (by rw [← l];exact r m)
 exact zbe I.kIn O (c.get m) k.at_ k.fn hn h
theorem YG {y:V} {u:Value} {Q:Unit→Shared→Prop} (I:Inv X pins σ H s) (e:H a=some (.ins C dx fs)) (c:Cls X.K C) (n:NoAttr X.K C f) (hl:fs.length < 1000) (ry:RelV y u)
  (h:∀ s',Inv X pins σ (upd H a (.ins C dx (yi f y fs))) s'→Q () s'):wpAny (model X.prog X.w) A (setAttr (.ref a) f u) Q E s:=by
 obtain ⟨mA,O,r,wi,_,ho⟩:=Ys I.hok e
 have hz:(fs.map (·.1)).length≤sizeLine:=by rw [bn,dw];lia
 refine zdt I.kIn O c.sa c.po n.taker c.hd wi hz fun h' O' sb=>h _ ?_
 have hd:∃ o,h'.get? dx=some o:=let ⟨o,_,_,e',_⟩:=O'.ns;⟨o,e'⟩
 refine I.write (x:=a) (e:=dx) (by rw [e];exact fm) (.inr ho) (fun b q hb z=>(sb.2 b hb).trans z) hd ?_
 refine ⟨by rw [zk O.ne];exact ho,?_,O.ne,O'.obj,_,O'.ns,fun g=>?_,fun g hg=>?_⟩
 ·have:=ZS f y fs;lia
 ·show RelO ((yi f y fs).lookup g) (if g=f then some u else mA g)
  rw [ZR]
  by_cases q:g=f
  ·rw [if_pos q,if_pos q];exact ry
  ·rw [if_neg q,if_neg q];exact r g
 ·by_cases q:g=f
  ·rw [q];exact (Zk f y fs).1
  ·refine (Zk f y fs).2 g (wi g fun z=>hg ?_)
   show (if g=f then some u else mA g)=none
   rw [if_neg q];exact z
theorem Inv.made (I:Inv X pins σ H s):Inv X pins σ (upd (upd H s.heap.objs.size (.own (s.heap.objs.size + 1))) (s.heap.objs.size + 1) (.ins C s.heap.objs.size []))
  { s with heap:=(s.heap.push fX).push (iT C s.heap.objs.size) }:=by
 have e1:(s.heap.push fX).get? s.heap.objs.size=some fX:=bz s.heap rfl
 have e2:((s.heap.push fX).push (iT C s.heap.objs.size)).get? (s.heap.objs.size + 1)=some (iT C s.heap.objs.size):=by
  have:=bz (s.heap.push fX) (o:=iT C s.heap.objs.size) rfl
  rwa [fT] at this
 have e3:(s.heap.push fX).Ns s.heap.objs.size (fun _=>none):=⟨fX,#[],_,e1,rfl,(fun e he=>absurd he (by simp)),fun _=>rfl⟩
 have I1:=I.laid (a:=s.heap.objs.size) (o:=.own (s.heap.objs.size + 1)) (h':=s.heap.push fX) (t':=s.toks) (fun b u q=>bh _ q) (bj _) ⟨_,e1⟩
 refine I1.laid (a:=s.heap.objs.size + 1) (o:=.ins C s.heap.objs.size []) (t':=s.toks) (fun b u q=>bh _ q) (nj (fT _ _)) ?_
 have ne:s.heap.objs.size≠s.heap.objs.size + 1:=bZ (pq _)
 refine ⟨by rw [zk ne,ze],bY _,ne,e2,fun _=>none,(Heap.Ns1.of_empty e3).at fun o q=>bh _ q,fun _=>fm,fun y hy=>absurd rfl hy⟩
theorem zdu {prog:Program} {w:World} {env:Env} {e:Expr} {f:Str} {pos:Pos} {s:Shared} {Q:Value→Shared→Prop} (hb:attributeBase e f env (eval e env)=eval e env)
  (h:wpAny (model prog w) A (eval e env) (fun o s₁=>wpAny (model prog w) A (getAttr o f true) Q E s₁) E s):wpAny (model prog w) A (eval (.Attribute e f pos) env) Q E s :=
 Attribute_any_ h (by rw [arm_eval_Attribute,hb])
end
def yT (K:bD) (ta:TE) (f:Str):TE:=fun σ H Q=>ta σ H fun x H1=>∃ a C dx fs v,x=.ref a∧H1 a=some (.ins C dx fs)∧Cls K C∧NoAttr K C f∧fs.lookup f=some v∧Q v H1
def Zl (K:bD) (ta tv:TE) (f:Str):TS:=fun D σ H=>tv σ H fun y H1=>ta σ H1 fun x H2=>∃ a C dx fs,x=.ref a∧H2 a=some (.ins C dx fs)∧Cls K C∧NoAttr K C f∧fs.length < 1000 ∧
 D.nx σ (upd H2 a (.ins C dx (yi f y fs)))
section
variable {X:Cx} {o e value:Expr} {f:Str} {pos pos' tpos:Pos} {ta tv:TE}
theorem ye (he:PE X e ta) (hb:attributeBase e f X.env (eval e X.env)=eval e X.env):PE X (.Attribute e f pos) (yT X.K ta f):=by
 intro pins s σ H Q I h
 refine zdu hb (thn (he pins s σ H _ I h) fun u s1 ⟨x,H1,I1,rx,a,C,dx,fs,v,ex,ea,c,n,l,q⟩=>?_)
 subst ex
 obtain rfl:u=bM a:=rx
 exact Ko I1 ea c n l fun u' s2 I2 ru=>⟨v,H1,I2,ru,q⟩
theorem vG (ha:PE X o ta) (hv:PE X value tv) (hs:swapsWith value (some (.Attribute o f pos')) pos.line X.env=pure false):PS X (.Assign [.Attribute o f pos'] value pos) (Zl X.K ta tv f):=by
 intro pins s σ H D I h
 refine ib (thn (hv pins s σ H _ I h) fun u s1 ⟨y,H1,I1,ry,q⟩=>thn (ha pins s1 σ H1 _ I1 q) fun ov s2 ⟨x,H2,I2,rx,a,C,dx,fs,ex,ea,c,n,l,q2⟩=>?_) hs
 subst ex
 obtain rfl:ov=bM a:=rx
 exact YG I2 ea c n l ry fun s3 I3=>⟨σ,_,I3,q2⟩
end
section
variable {X:Cx} {pins:List (Addr × Obj)} {σ:St} {H:Hp} {s:Shared} {A:Around} {E:Value→Shared→Prop} {Q:Value→Shared→Prop} {c:Value} {b:Bool}
inductive Zm (K:bD) (H:Hp):V→Value→Prop where
 | non:Zm K H .non (.type "NoneType")
 | bl (x:Bool):Zm K H (.bl x) (.type "bool")
 | int (i:Int):Zm K H (.int i) (.type "int")
 | str (x:Str):Zm K H (.str x) (.type "str")
 | flt (x:UInt64):Zm K H (.flt x) (.type "float")
 | lst {a:Addr} {xs:List V} (e:H a=some (.lst xs)):Zm K H (.ref a) (.type "list")
 | frz {a:Addr} {o:Obj} {xs:List V} (e:H a=some (.frz o (.lst xs))):Zm K H (.ref a) (.type "list")
 | tup {a:Addr} {xs:List V} (e:H a=some (.tup xs)):Zm K H (.ref a) (.type "tuple")
 | dK {a:Addr} {kvs:List (Key × V)} (e:H a=some (.dK kvs)):Zm K H (.ref a) (.type "dict")
 | dT {a:Addr} {kvs:List (List Key × V)} (e:H a=some (.dT kvs)):Zm K H (.ref a) (.type "dict")
 | ins {a C dx:Addr} {fs:List (Str × V)} (e:H a=some (.ins C dx fs)) (cl:Cls K C) (ha:dE K (.ref C) "__class__"=some (some (.builtin "object.__class__")))
   (hn:pQ K (.builtin "object.__class__") "__get__"=some (some (.builtin "getset_descriptor.__get__"))) (htk:W.takesIn K (.builtin "object.__class__")=some true)
   (hm:pY K C (.type "object")=some true):Zm K H (.ref a) (.ref C)
theorem zaq {x:V} {u t:Value} (I:Inv X pins σ H s) (rx:RelV x u) (ty:Zm X.K H x t) (e:lJ X.K t c=some b) (h:∀ tk,Q (.bool b) { s with toks:=tk }) :
  wpAny (model X.prog X.w) A (call (.builtin "isinstance") [u,c]) Q E s:=by
 cases ty with
 | non=>cases (show u=cH from rx);exact gC W.kitx_none I.kIn fm e (fun z=>nomatch z) h
 | bl y=>cases (show u=gZ y from rx);exact gC W.kitx_bool I.kIn fm e (fun z=>nomatch z) h
 | int i=>obtain ⟨t,q⟩:=(show ∃ t,u=io i t from rx);cases q;exact gC W.kitx_int I.kIn fm e (fun z=>nomatch z) h
 | str y=>obtain ⟨t,q⟩:=(show ∃ t,u=iS y t from rx);cases q;exact gC W.kitx_str I.kIn fm e (fun z=>nomatch z) h
 | flt y=>obtain ⟨t,q⟩:=(show ∃ t,u=pL y t from rx);cases q;exact gC W.kitx_float I.kIn fm e (fun z=>nomatch z) h
 | @lst a xs ea =>
  cases (show u=bM a from rx)
  obtain ⟨_,_,n,_,h1⟩:=(show ObjOk X.prog X.w H s.heap a (.lst xs) from I.hok a _ ea)
  exact gC W.kitx_list I.kIn ⟨_,h1,rfl⟩ e (fun z=>nomatch z) h
 | @frz a ob xs ea =>
  cases (show u=bM a from rx)
  obtain ⟨_,_,_,n,_,h1⟩:=(show ObjOk X.prog X.w H s.heap a (.frz ob (.lst xs)) from I.hok a _ ea)
  exact gC W.kitx_list I.kIn ⟨_,h1,rfl⟩ e (fun z=>nomatch z) h
 | @tup a xs ea =>
  cases (show u=bM a from rx)
  obtain ⟨_,_,_,p⟩:=(show ObjOk X.prog X.w H s.heap a (.tup xs) from I.hok a _ ea)
  obtain ⟨o,h1,h2,_⟩:=p
  exact gC W.kitx_tuple I.kIn ⟨o,h1,h2⟩ e (fun z=>nomatch z) h
 | @dK a kvs ea =>
  cases (show u=bM a from rx)
  obtain ⟨_,_,vs,_,p⟩:=(show ObjOk X.prog X.w H s.heap a (.dK kvs) from I.hok a _ ea)
  obtain ⟨o,es,ep,h1,h2,_⟩:=p
  exact gC W.kitx_dict I.kIn ⟨o,h1,h2.1⟩ e (fun z=>nomatch z) h
 | @dT a kvs ea =>
  cases (show u=bM a from rx)
  obtain ⟨_,_,xs,_,o,es,ep,h1,h2,_⟩:=(show ObjOk X.prog X.w H s.heap a (.dT kvs) from I.hok a _ ea)
  exact gC W.kitx_dict I.kIn ⟨o,h1,h2.1⟩ e (fun z=>nomatch z) h
 | @ins a C dx fs ea cl ha hn htk hm =>
  cases (show u=bM a from rx)
  obtain ⟨mA,O,_⟩:=Ys I.hok ea
  obtain ⟨od,J,_⟩:=O.look
  exact gC (W.kitx_own (cl.get _) cl.hd ha hn htk hm) I.kIn J e (fun z=>nomatch z) h
end
structure Room (k:Nat) (A:Around):Prop where
 hd:A.handled=none
 dp:A.depth + 3 * k + 5 < recursionLimit
 un:A.units + 16 * k + 200 < cLine
theorem Room.mono {j k:Nat} {A:Around} (r:Room k A) (h:j≤k):Room j A:=⟨r.hd,by have:=r.dp;lia,by have:=r.un;lia⟩
theorem Room.deeper {k:Nat} {A:Around} (r:Room (k + 1) A) (env:Env):Room k (A.deeper env) :=
 ⟨r.hd,by have:=r.dp;show A.depth + 1 + 3 * k + 5 < _;lia,by have:=r.un;show A.units + 3 + 16 * k + 200 < _;lia⟩
theorem Kq {A:Around} {C:Addr} {us:List Value} {kw:List (Str × Value)}:(A.under (.builtin "type.__call__" ⟨.ref C :: us,kw⟩)).depth=A.depth + 1:=by
 first | rfl | simp [oY,Code.weight,Code.isCreation,Code.isGuard,Code.isCaller,Code.frames,oZ,guardIds]
theorem Kr {A:Around} {C:Addr} {us:List Value} {kw:List (Str × Value)}:(A.under (.builtin "type.__call__" ⟨.ref C :: us,kw⟩)).units=A.units + 1:=by
 first | rfl | simp [oY,Code.cUnits,Code.frames,oZ]
theorem Room.make {k:Nat} {A:Around} (r:Room (k + 1) A) (C:Addr) (us:List Value) (kw:List (Str × Value)):Room k (A.under (.builtin "type.__call__" ⟨.ref C :: us,kw⟩)) :=
 ⟨r.hd,by have:=r.dp;rw [Kq];lia,by have:=r.un;rw [Kr];lia⟩
theorem Room.depth {k:Nat} {A:Around} (r:Room k A):A.depth < recursionLimit:=by have:=r.dp;lia
theorem Room.units {k:Nat} {A:Around} (r:Room k A):A.units + 64 < cLine:=by have:=r.un;lia
def zi:TA:=fun _ H Q=>Q [] H
def zb (ta:TE) (tr:TA):TA:=fun σ H Q=>ta σ H fun x H1=>tr σ H1 fun xs H2=>Q (x :: xs) H2
section
variable {X:Cx} {e:Expr} {es:List Expr} {te:TE} {t:TA} {pos:Pos}
theorem zd:PA X [] zi:=fun _ _ _ _ H Q I h=>gp ⟨[],H,I,.nil,h⟩
theorem za (ha:PE X e te) (hr:PA X es t) (hs:starEach (e :: es) X.env=(false,eval e X.env) :: starEach es X.env:=by rfl):PA X (e :: es) (zb te t):=by
 intro pos pins s σ H Q I h
 rw [hs]
 show wpAny _ _ (spliced ((false,eval e X.env) :: backTo pos (starEach es X.env))) _ _ s
 refine eh (thn (ha pins s σ H _ I h) fun u s1 ⟨x,H1,I1,r1,q1⟩=>?_)
 exact thn (hr pos pins s1 σ H1 _ I1 q1) fun us s2 ⟨xs,H2,I2,r2,q2⟩=>⟨x :: xs,H2,I2,.cons r1 r2,q2⟩
def yO (t:TA):TE:=fun σ H Q=>t σ H fun xs H1=>xs.length≤sizeLine∧∀ p,H1 p=none→Q (.ref p) (upd H1 p (.tup xs))
def xj (t:TA):TE:=fun σ H Q=>t σ H fun xs H1=>xs.length≤sizeLine∧∀ p,H1 p=none→Q (.ref p) (upd H1 p (.lst xs))
theorem yj {x1} (h:PA X es t):PE X (.Tuple es x1 pos) (yO t):=by
 intro pins s σ H Q I hq
 refine wpAny_Tuple_spliced (thn (h pos pins s σ H _ I hq) fun us s1 ⟨xs,H1,I1,r,z,q⟩=>⟨by rw [← r.length];exact z,?_⟩)
 have hf:H1 s1.heap.objs.size=none:=I1.hok.fresh (bj _)
 refine ⟨.ref s1.heap.objs.size,upd H1 s1.heap.objs.size (.tup xs),I1.laid (t':=s1.toks) (fun b u e=>bh _ e) (bj _) ?_,rfl,q _ hf⟩
 exact ⟨z,us,r,⟨_,bz _ rfl,rfl,_,rfl⟩⟩
theorem yC (h:PA X es t):PE X (.List es pos) (xj t):=by
 intro pins s σ H Q I hq
 refine wpAny_List_spliced (thn (h pos pins s σ H _ I hq) fun us s1 ⟨xs,H1,I1,r,z,q⟩=>⟨by rw [← r.length];exact z,?_⟩)
 have hf:H1 s1.heap.objs.size=none:=I1.hok.fresh (bj _)
 refine ⟨.ref s1.heap.objs.size,upd H1 s1.heap.objs.size (.lst xs),I1.laid (t':=s1.toks) (fun b u e=>bh _ e) (bj _) ?_,rfl,q _ hf⟩
 exact ⟨z,us,0,r,bz _ rfl⟩
end
abbrev Sp:=List V→Hp→VK→XK→Prop
abbrev CXT:=List Env→Hp→Shared→XK→Value→Shared→Prop
structure Env0 (P:Program) (w:World) (K:bD) (mg:Str→Option Value) (base:Heap) (A:Around) (outer:List Env) (s:Shared) (H:Hp):Prop where
 frames:A.frames=some outer
 mod:Mod K mg base
 bs:∀ b o,base.get? b=some o→s.heap.get? b=some o∧H b=none
 bsz:base.objs.size≤s.heap.objs.size
 funs:s.heap.FunFrames base outer
 frf:∀ b∈frs outer,H b=none
 hok:HOk P w H s.heap
 bare:AllBare s.gens
def CE (outer:List Env) (P:Program) (w:World) (H:Hp) (s:Shared) (Q:VK) (u:Value) (s':Shared):Prop :=
 ∃ v H',s'.os=s.os∧AllBare s'.gens∧Un (frs outer) [] H H' s.heap s'.heap∧HOk P w H' s'.heap∧RelV v u∧Q v H'
def CR (CX:CXT) (outer:List Env) (P:Program) (w:World) (H:Hp) (s:Shared) (Q:VK) (E:XK) (r:Result) (s':Shared):Prop :=
 match r with
 | .ok (.ret u)=>CE outer P w H s Q u s'
 | .ok _=>False
 | .error e=>CX outer H s E e s'
structure FnOk (P:Program) (w:World) (K:bD) (mg:Str→Option Value) (base:Heap) (CX:CXT) (k:Nat) (f:Addr) (fd:FuncData) (ps:List Str) (sp:Sp):Prop where
 len:∀ vs H Q E,sp vs H Q E→vs.length=ps.length
 run:∀ (A:Around) (outer:List Env) (s:Shared) (H:Hp) (args:Args) (us:List Value) (vs:List V) (Q:VK) (E:XK),Room k A→Env0 P w K mg base A outer s H→BindsTo s fd args (ps.zip us)→Vals vs us→sp vs H Q E →
  codeAny (model P w) A (.call (.ref f) args) (CR CX outer P w H s Q E) s
theorem FnOk.mono {P:Program} {w:World} {K:bD} {mg:Str→Option Value} {base:Heap} {CX:CXT} {j k:Nat} {f:Addr} {fd:FuncData} {ps:List Str} {sp:Sp} (F:FnOk P w K mg base CX j f fd ps sp) (h:j≤k) :
  FnOk P w K mg base CX k f fd ps sp:=⟨F.len,fun A outer s H args us vs Q E hr=>F.run A outer s H args us vs Q E (hr.mono h)⟩
theorem Env0.make {P:Program} {w:World} {K:bD} {mg:Str→Option Value} {base:Heap} {A:Around} {outer:List Env} {s:Shared} {H:Hp} (e:Env0 P w K mg base A outer s H) (C:Addr) (us:List Value) (kw:List (Str × Value)) :
  Env0 P w K mg base (A.under (.builtin "type.__call__" ⟨.ref C :: us,kw⟩)) outer s H:=⟨by first | exact e.frames | (simpa [oY,Code.envs,oZ,pushEnvs] using e.frames),e.mod,e.bs,e.bsz,e.funs,e.frf,e.hok,e.bare⟩
section
variable {X:Cx} {pins:List (Addr × Obj)} {σ:St} {H:Hp} {s s':Shared}
theorem Inv.env0 (I:Inv X pins σ H s):Env0 X.prog X.w X.K X.mg X.base X.A X.stack s H :=
 ⟨I.ok.frames,I.ok.mod,I.bs,bU I.ok.bsz I.sz,I.stack,I.stkFree,I.hok,I.bare⟩
theorem Inv.after {Q:VK} {u:Value} (I:Inv X pins σ H s) (h:CE X.stack X.prog X.w H s Q u s'):EP X pins σ Q u s':=by
 obtain ⟨v,H',os,bare,un,hok,r,q⟩:=h
 obtain ⟨hh,g,d,t,os'⟩:=s'
 obtain rfl:os'=s.os:=os
 exact ⟨v,H',I.call (h':=hh) (g':=g) (d':=d) (t':=t) (ch:=[]) un hok bare (fun b z=>absurd z (by simp)),r,q⟩
end
def zn (sp:Sp) (dvs:List V) (E:XK) (t:TA):TE:=fun σ H Q=>t σ H fun vs H1=>sp (vs ++ dvs) H1 Q E
def yQ (C:Addr) (m:Str) (sp:Sp) (dvs:List V) (E:XK) (ta:TE) (t:TA):TE:=fun σ H Q=>ta σ H fun x H1=>∃ a dx fs,x=.ref a∧H1 a=some (.ins C dx fs)∧fs.lookup m=none ∧
 t σ H1 fun vs H2=>sp (x :: (vs ++ dvs)) H2 Q E
def zeM (C:Addr) (sp:Sp) (dvs:List V) (E:XK) (t:TA):TE:=fun σ H Q=>t σ H fun vs H1=>∀ x dx,H1 x=none→H1 dx=none→dx≠x →
 sp (.ref x :: (vs ++ dvs)) (upd (upd H1 dx (.own x)) x (.ins C dx [])) (fun v H2=>v=.non∧Q (.ref x) H2) E
def Binds (K:bD) (fd:FuncData) (ps:List Str) (ds:List Value):Prop :=
 ∀ (s:Shared) (us:List Value),K.In s.heap→(us ++ ds).length=ps.length→BindsTo s fd ⟨us,[]⟩ (ps.zip (us ++ ds))
theorem Binds.all {K:bD} {fd:FuncData} {ps:List Str} (h:∀ us:List Value,us.length=ps.length→bindArgs fd ⟨us,[]⟩=pure (ps.zip us)):Binds K fd ps []:=fun s us _ hl=>by
 rw [bB] at hl ⊢
 exact .of_eq (h us hl)
def jf (CX:CXT) (X:Cx) (E:XK):Prop:=∀ (pins:List (Addr × Obj)) (σ:St) (H:Hp) (s:Shared) (e:Value) (s':Shared),Inv X pins σ H s→CX X.stack H s E e s'→X.xe e s'
section
variable {X:Cx} {CX:CXT} {k:Nat} {f C:Addr} {fd:FuncData} {ps:List Str} {sp:Sp} {dvs:List V} {ds:List Value} {E:XK} {x m:Str} {p pos apos:Pos} {e o:Expr} {es:List Expr} {ta:TE} {t:TA}
theorem Ks {pins:List (Addr × Obj)} {σ:St} {H:Hp} {s:Shared} {Q:VK} {us:List Value} {vs:List V} (F:FnOk X.prog X.w X.K X.mg X.base CX k f fd ps sp) (hr:Room k X.A) (hb:Binds X.K fd ps ds) (hd:Vals dvs ds) (hx:jf CX X E)
  (I:Inv X pins σ H s) (r:Vals vs us) (h:sp (vs ++ dvs) H Q E):wpAny (model X.prog X.w) X.A (call (.ref f) us) (EP X pins σ Q) X.xe s:=by
 have r2:Vals (vs ++ dvs) (us ++ ds):=r.append hd
 have hl:(us ++ ds).length=ps.length:=by rw [← r2.length];exact F.len _ _ _ _ h
 refine wpAny_call (fY (F.run X.A X.stack s H ⟨us,[]⟩ (us ++ ds) (vs ++ dvs) Q E hr I.env0 (hb s us I.kIn hl) r2 h) fun r s' hq=>?_)
 cases r with
 | error e=>exact hx pins σ H s e s' I hq
 | ok fl =>
  cases fl with
  | ret u=>exact I.after hq
  | next=>exact dv hq
  | brk=>exact dv hq
  | cont=>exact dv hq
theorem Yt (F:FnOk X.prog X.w X.K X.mg X.base CX k f fd ps sp) (hr:Room k X.A) (hg:Gl X x) (hm:X.mg x=some (.ref f)) (hk:gG X.K (.ref f)=true) (hb:Binds X.K fd ps ds) (hd:Vals dvs ds) (hx:jf CX X E)
  (ha:PA X (e :: es) t) (hdb:(x == ("__debug__":Str))=false:=by decide) (he:starEach (e :: es) X.env=(false,eval e X.env) :: starEach es X.env:=by rfl) (hpl:(backTo pos (starEach es X.env)).any (·.1)=false:=by rfl) :
  PE X (.Call (.Name x p) (e :: es) [] pos) (zn sp dvs E t):=by
 intro pins s σ H Q I h
 refine eX (vo I hg hm ?_ hdb)
 refine nk (h₀:=X.base) I.ok.mod.kin hk (thn (ha pos pins s σ H _ I h) fun us s1 ⟨vs,H1,I1,r,q⟩=>⟨I1.kIn,?_⟩) he hpl
 exact Ks F hr hb hd hx I1 r q
theorem xE {pl:Sem Bool} (he:PE X o ta) (c:Cls X.K C) (hm:zap X.K C m f) (F:FnOk X.prog X.w X.K X.mg X.base CX k f fd ps sp) (hr:Room k X.A) (hb:Binds X.K fd ps ds) (hd:Vals dvs ds) (hx:jf CX X E) (ha:PA X (e :: es) t)
  (hst:starEach (e :: es) X.env=(false,eval e X.env) :: starEach es X.env:=by rfl) (hpl:(backTo pos (starEach es X.env)).any (·.1)=false:=by rfl)
  (ht:eval (.Call (.Attribute o m apos) (e :: es) [] pos) X.env=(do
   let ov ← eval o X.env
   standAt apos.atName
   let (f,first) ← holding [ov] (getMethod ov m pl)
   callWith pos f first (backTo pos (starEach (e :: es) X.env)) (backToKw pos (keywordEach [] X.env))):=by rfl) :
  PE X (.Call (.Attribute o m apos) (e :: es) [] pos) (yQ C m sp dvs E ta t):=by
 intro pins s σ H Q I h
 refine nr (pl:=pl) (thn (he pins s σ H _ I h) fun u s1 ⟨x,H1,I1,rx,a,dx,fs,ex,ea,l,q⟩=>?_) ht
 subst ex
 obtain rfl:u=bM a:=rx
 refine qa I1 ea c hm l ?_
 refine nk (first:=[.ref a]) (h₀:=X.base) I.ok.mod.kin hm.kp (thn (ha pos pins s1 σ H1 _ I1 q) fun us s2 ⟨vs,H2,I2,r,q2⟩=>⟨I2.kIn,?_⟩) hst hpl
 exact Ks (us:=.ref a :: us) (vs:=.ref a :: vs) F hr hb hd hx I2 (.cons rfl r) q2
theorem vY {pl:Sem Bool} (he:PE X o ta) (c:Cls X.K C) (hm:zap X.K C m f) (F:FnOk X.prog X.w X.K X.mg X.base CX k f fd ps sp) (hr:Room k X.A) (hb:Binds X.K fd ps ds) (hd:Vals dvs ds) (hx:jf CX X E)
  (ht:eval (.Call (.Attribute o m apos) [] [] pos) X.env=(do
   let ov ← eval o X.env
   standAt apos.atName
   let (f,first) ← holding [ov] (getMethod ov m pl)
   callWith pos f first (backTo pos (starEach [] X.env)) (backToKw pos (keywordEach [] X.env))):=by rfl) :
  PE X (.Call (.Attribute o m apos) [] [] pos) (yQ C m sp dvs E ta zi):=by
 intro pins s σ H Q I h
 refine nr (pl:=pl) (thn (he pins s σ H _ I h) fun u s1 ⟨x,H1,I1,rx,a,dx,fs,ex,ea,l,q⟩=>?_) ht
 subst ex
 obtain rfl:u=bM a:=rx
 refine qa I1 ea c hm l ?_
 exact W.callWith_K0 (first:=[.ref a]) I1.kIn hm.kp (Ks (us:=[.ref a]) (vs:=[.ref a]) F hr hb hd hx I1 (.cons rfl .nil) q)
structure Mk (K:bD) (C f:Addr):Prop where
 makes:W.makesIn K C=true
 init:dE K (.ref C) "__init__"=some (some (.ref f))
 fn:re K (.ref f)=true
 kp:gG K (.ref C)=true
theorem zbg {pins:List (Addr × Obj)} {σ:St} {H:Hp} {s:Shared} {Q:VK} {us:List Value} {vs:List V} (M:Mk X.K C f) (F:FnOk X.prog X.w X.K X.mg X.base CX k f fd ps sp) (hr:Room (k + 1) X.A) (hb:Binds X.K fd ps ds) (hd:Vals dvs ds)
  (hx:jf CX X E) (I:Inv X pins σ H s) (r:Vals vs us)
  (h:∀ x dx,H x=none→H dx=none→dx≠x→sp (.ref x :: (vs ++ dvs)) (upd (upd H dx (.own x)) x (.ins C dx [])) (fun v H2=>v=.non∧Q (.ref x) H2) E) :
  wpAny (model X.prog X.w) X.A (call (.ref C) us) (EP X pins σ Q) X.xe s:=by
 have hq:=h (s.heap.objs.size + 1) s.heap.objs.size (I.hok.fresh (iV _)) (I.hok.fresh (bj _)) (bZ (pq _))
 have I2:=Inv.made (C:=C) I
 have r2:Vals (V.ref (s.heap.objs.size + 1) :: (vs ++ dvs)) (bM (s.heap.objs.size + 1) :: (us ++ ds)):=.cons rfl (r.append hd)
 have hl:(bM (s.heap.objs.size + 1) :: us ++ ds).length=ps.length:=by
  have e:=r2.length
  rw [F.len _ _ _ _ hq] at e
  exact e.symm
 refine wpAny_call (zbf (f:=f) I.kIn M.makes M.init (beq_iff_eq.mp M.fn) (fY (F.run _ X.stack _ _ ⟨bM (s.heap.objs.size + 1) :: us,[]⟩ (bM (s.heap.objs.size + 1) :: (us ++ ds)) _ _ E (hr.make C us [])
  (I2.env0.make C us []) (hb _ (bM (s.heap.objs.size + 1) :: us) I2.kIn hl) r2 hq) fun r s' hq'=>?_))
 cases r with
 | error e=>exact hx pins σ _ _ e s' I2 hq'
 | ok fl =>
  cases fl with
  | ret u =>
   obtain ⟨v,H',I3,rv,ev,q3⟩:=I2.after hq'
   subst ev
   exact ⟨rv,⟨V.ref (s.heap.objs.size + 1),H',I3,rfl,q3⟩⟩
  | next=>exact dv hq'
  | brk=>exact dv hq'
  | cont=>exact dv hq'
theorem zdv (M:Mk X.K C f) (F:FnOk X.prog X.w X.K X.mg X.base CX k f fd ps sp) (hr:Room (k + 1) X.A) (hg:Gl X x) (hm:X.mg x=some (.ref C)) (hb:Binds X.K fd ps ds) (hd:Vals dvs ds) (hx:jf CX X E)
  (ha:PA X (e :: es) t) (hdb:(x == ("__debug__":Str))=false:=by decide) (he:starEach (e :: es) X.env=(false,eval e X.env) :: starEach es X.env:=by rfl) (hpl:(backTo pos (starEach es X.env)).any (·.1)=false:=by rfl) :
  PE X (.Call (.Name x p) (e :: es) [] pos) (zeM C sp dvs E t):=by
 intro pins s σ H Q I h
 refine eX (vo I hg hm ?_ hdb)
 refine nk (h₀:=X.base) I.ok.mod.kin M.kp (thn (ha pos pins s σ H _ I h) fun us s1 ⟨vs,H1,I1,r,q⟩=>⟨I1.kIn,?_⟩) he hpl
 exact zbg M F hr hb hd hx I1 r q
end
structure zA (N P:List Str) (sc:Scope):Prop where
 kind:sc.kind=.function
 co:sc.isCoroutine=false
 gen:sc.isGenerator=false
 nd:N.Nodup
 pre:N.take P.length=P
 par:∀ x∈P,sc.names.lookup x=some .local∨sc.names.lookup x=some .cell
 nofree:∀ y∈sc.names,y.2≠.free
theorem Wj {kindOf:Str→Option NameKind} {x:Str}:∀ {binds:List (Str × Value)} {m:Str→Option Value},(∀ v,(x,v) ∉ binds)→bindL kindOf binds m x=m x
 | [],_,_=>rfl
 | (n,v) :: r,m,h=>by
  unfold bindL
  rw [Wj fun w hw=>h w (bx _ hw)]
  split
  ·have:x≠n:=by rintro rfl;exact h v br
   simp [this]
  ·rfl
theorem Wk {kindOf:Str→Option NameKind} {x:Str}:∀ {binds:List (Str × Value)} {m:Str→Option Value},(∀ v,(x,v) ∉ binds)→bindC kindOf binds m x=m x
 | [],_,_=>rfl
 | (n,v) :: r,m,h=>by
  unfold bindC
  rw [Wk fun w hw=>h w (bx _ hw)]
  split
  ·rfl
  ·have:x≠n:=by rintro rfl;exact h v br
   simp [this]
theorem Wl {kindOf:Str→Option NameKind} {x:Str} {v:Value}:∀ {P:List Str} {vs:List Value} {i:Nat} {m:Str→Option Value},P.Nodup→P[i]?=some x→vs[i]?=some v→kindOf x=some .local →
  bindL kindOf (P.zip vs) m x=some v
 | [],_,_,_,_,h,_,_=>by simp at h
 | _ :: _,[],_,_,_,_,h,_=>by simp at h
 | p :: P,w :: vs,0,m,nd,h1,h2,hk=>by
  simp at h1 h2;subst h1;subst h2
  show bindL kindOf ((p,w) :: P.zip vs) m p=_
  unfold bindL
  rw [Wj fun v hv=>(cW.mp nd).1 (nt hv).1,if_pos hk]
  simp
 | p :: P,w :: vs,i + 1,m,nd,h1,h2,hk=>by
  show bindL kindOf ((p,w) :: P.zip vs) m x=_
  unfold bindL
  exact Wl (i:=i) (cW.mp nd).2 (by simpa using h1) (by simpa using h2) hk
theorem Wm {kindOf:Str→Option NameKind} {x:Str} {v:Value}:∀ {P:List Str} {vs:List Value} {i:Nat} {m:Str→Option Value},P.Nodup→P[i]?=some x→vs[i]?=some v→kindOf x≠some .local →
  bindC kindOf (P.zip vs) m x=some v
 | [],_,_,_,_,h,_,_=>by simp at h
 | _ :: _,[],_,_,_,_,h,_=>by simp at h
 | p :: P,w :: vs,0,m,nd,h1,h2,hk=>by
  simp at h1 h2;subst h1;subst h2
  show bindC kindOf ((p,w) :: P.zip vs) m p=_
  unfold bindC
  rw [Wk fun v hv=>(cW.mp nd).1 (nt hv).1,if_neg hk]
  simp
 | p :: P,w :: vs,i + 1,m,nd,h1,h2,hk=>by
  show bindC kindOf ((p,w) :: P.zip vs) m x=_
  unfold bindC
  exact Wm (i:=i) (cW.mp nd).2 (by simpa using h1) (by simpa using h2) hk
def start (N:List Str) (vs:List V):St:=vs.map some ++ bE (N.length - vs.length) none
def kN (CX:CXT) (P:Program) (w:World) (K:bD) (mg:Str→Option Value) (base:Heap) (N:List Str) (qual:Str) (scope:Scope) (f:Addr) (cd:Value) (A:Around) (outer:List Env) (s:Shared) (H:Hp) (E:XK):Cx where
 prog:=P
 w:=w
 K:=K
 mg:=mg
 base:=base
 A:=A.deeper (envOfC qual scope s.heap.objs.size f cd)
 N:=N
 s₀:=s
 H₀:=H
 env:=envOfC qual scope s.heap.objs.size f cd
 outer:=outer
 stack:=envOfC qual scope s.heap.objs.size f cd :: outer
 ex:=[]
 calm:=true
 fn:=fun _=>true
 pn:=[]
 xe:=fun e s'=>wpAny (model P w) (A.deeper (envOfC qual scope s.heap.objs.size f cd)) (leaving (envOfC qual scope s.heap.objs.size f cd) e) (fun _ s''=>CX outer H s E e s'') (fun e' s''=>CX outer H s E e' s'') s'
theorem VY {sc:Scope} {n:Nat} {x:Str} (h:sc.names.lookup x=some .cell):∃ c,(cellsFrom n sc.names []).lookup x=some c:=by
 have q:=W.cellsFrom_some sc.names n [] (.inl h)
 exact fo.mp q
theorem zar {CX:CXT} {P:Program} {w:World} {K:bD} {mg:Str→Option Value} {base:Heap} {N ps:List Str} {qual:Str} {scope:Scope} {f:Addr} {cd:Value} {A:Around} {outer:List Env} {s s1:Shared} {H:Hp} {E:XK} {us:List Value} {vs:List V}
  (S:zA N ps scope) (hd:A.handled=none) (e0:Env0 P w K mg base A outer s H) (hl:vs.length=ps.length) (r:Vals vs us)
  (x:InCallC s s.heap.objs.size (bindL (envOfC qual scope s.heap.objs.size f cd).kindOf (ps.zip us) fun _=>none) (cellsFrom (s.heap.objs.size + 1) scope.names []) (bindC (envOfC qual scope s.heap.objs.size f cd).kindOf (ps.zip us) fun _=>none) s1) :
  Inv (kN CX P w K mg base N qual scope f cd A outer s H E) [] (start N vs) H s1:=by
 have hpl:ps.length≤N.length:=by have:=congrArg bO S.pre;rw [c8] at this;lia
 obtain ⟨h1,tk,rfl,hk⟩:=x.done
 have noA:∀ b:Addr,b ∉ (kN CX P w K mg base N qual scope f cd A outer s H E).ex:=fun b z=>absurd (show b∈([]:List Addr) from z) (by simp)
 refine ⟨⟨e0.mod,S.kind,rfl,rfl,bj _,fun y z c h1 h2=>?_,fun y hy=>?_,fun y c _ h=>?_,fun _=>hd,Around.frames_deeper e0.frames,.inr ⟨rfl,rfl⟩,fun b z=>absurd z (noA b),e0.bs,e0.bsz,fun b _ _=>noA b,fun b z=>absurd z (noA b),e0.funs,e0.frf⟩,
  rfl,e0.bare,Un.kept hk,⟨_,x.toInCall.ns,fun i y v h1 h2 h3=>?_⟩,fun y c h=>⟨_,x.cell y c h⟩,e0.hok.fresh (bj _),fun y c h=>?_,fun p hp=>absurd (show p∈([]:List (Addr × Obj)) from hp) (by simp),e0.hok.kept hk,?_⟩
 ·exact name_of_addr x.apart (eO h1) (eO h2)
 ·have hy:scope.names.lookup y=some .cell∨scope.names.lookup y=some .free:=hy
  rcases hy with hy | hy
  ·exact VY hy
  ·exact absurd rfl (S.nofree _ (eO hy))
 ·exact oX (x.above y c (eO h))
 ·have hi:i < vs.length:=by
   unfold start at h2
   by_cases hi:i < vs.length
   ·exact hi
   ·rw [dQ (by simpa using hi)] at h2
    rw [mz] at h2
    split at h2 <;> cases h2
  have ha:vs[i]?=some v:=by
   unfold start at h2
   rw [dG (by simpa using hi),bC] at h2
   cases e:vs[i]? with
   | none=>rw [e] at h2;cases h2
   | some a=>rw [e] at h2;cases h2;rfl
  obtain ⟨u,hu,rv⟩:=r.get ha
  have hp:ps[i]?=some y:=by
   rw [← S.pre,List.getElem?_take_of_lt (by lia)];exact h1
  have ndP:ps.Nodup:=by rw [← S.pre];exact S.nd.sublist (ic _ _)
  refine ⟨u,rv,?_⟩
  rcases S.par y (cq hp) with k | k
  ·exact .inl ⟨k,Wl ndP hp hu k⟩
  ·obtain ⟨c,e⟩:=VY (n:=s.heap.objs.size + 1) k
   refine .inr ⟨.inl k,c,e,?_⟩
   have q:=x.cell y c e
   rw [Wm ndP hp hu (by show scope.names.lookup y≠_;rw [k];decide)] at q
   exact q
 ·exact e0.hok.fresh (oX (x.above y c (eO h)))
 ·unfold start
  show _=N.length
  rw [bt,bn,fZ]
  lia
theorem zeN {CX:CXT} {P:Program} {w:World} {K:bD} {mg:Str→Option Value} {base:Heap} {k:Nat} {f:Addr} {name qual:Str} {params:Arguments} {body:List Stmt} {scope:Scope} {dV kV doc pm cdv ct oc:Value} {an od:Option Addr}
  {osl:Array (Option Value)} {N ps:List Str} {sp:Sp} (lk:K.lookup f=some ⟨oc,od,.func (lK name qual params body scope dV kV doc pm an cdv ct),osl⟩) (hcd:lL K cdv qual=true) (S:zA N ps scope)
  (len:∀ vs H Q E,sp vs H Q E→vs.length=ps.length)
  (hbody:∀ (A:Around) (outer:List Env) (s:Shared) (H:Hp) (vs:List V) (Q:VK) (E:XK),Room k (A.deeper (envOfC qual scope s.heap.objs.size f cdv))→sp vs H Q E →
   ∃ t,PSs (kN CX P w K mg base N qual scope f cdv A outer s H E) body t∧t { nx:=fun _ H'=>Q .non H',rt:=Q } (start N vs) H) :
  FnOk P w K mg base CX (k + 1) f (lK name qual params body scope dV kV doc pm an cdv ct) ps sp:=by
 refine ⟨len,fun A outer s H args us vs Q E hr e0 hb r hsp=>?_⟩
 have hl:=len _ _ _ _ hsp
 have KX:K.In s.heap:=e0.mod.kin.keeps fun b o e=>(e0.bs b o e).1
 have lim:s.heap.NoLimit:=e0.mod.nolimit.keeps fun b o e=>(e0.bs b o e).1
 have hkind:∀ y∈ps.zip us,scope.names.lookup y.1=some .local∨(scope.names.lookup y.1=some .cell∧((cellsFrom (s.heap.objs.size + 1) scope.names []).lookup y.1).isSome=true):=fun ⟨n,v⟩ hy=>by
  rcases S.par n (nt hy).1 with q | q
  ·exact .inl q
  ·exact .inr ⟨q,W.cellsFrom_some _ _ _ (.inl q)⟩
 refine codeAny_call_function hr.depth (KX _ _ lk) rfl S.co S.gen rfl (W.codeRec_of KX hcd) (hb _ _ _ _ ?_)
 refine wpAny_newFunctionEnv_cells S.kind hkind fun env he s1 x=>?_
 subst he
 refine ⟨lim.keeps x.toInCall.keep,codeAny_func ?_⟩
 obtain ⟨t,ht,hq⟩:=hbody A outer s H vs Q E (hr.deeper _) hsp
 have I:Inv (kN CX P w K mg base N qual scope f cdv A outer s H E) [] (start N vs) H s1:=zar S hr.hd e0 hl r x
 refine dA (ht [] s1 (start N vs) H _ I hq) (fun fl s' hs=>?_) fun e s' hs=>hs
 have fin:∀ {σ':St} {H':Hp} {v:V} {u:Value},Inv (kN CX P w K mg base N qual scope f cdv A outer s H E) [] σ' H' s'→RelV v u→Q v H'→CE outer P w H s Q u s' :=
  fun {σ' H' v u} J rv q=>⟨v,H',J.os,J.bare,J.base,J.hok,rv,q⟩
 cases fl with
 | ret u =>
  obtain ⟨v,σ',H',J,rv,q⟩:=hs
  exact fin J rv q
 | next =>
  obtain ⟨σ',H',J,q⟩:=hs
  exact fin (v:=V.non) (u:=cH) J rfl q
 | brk =>
  obtain ⟨_,_,_,q⟩:=hs
  exact dv q
 | cont =>
  obtain ⟨_,_,_,q⟩:=hs
  exact dv q
section
variable {X:Cx} {x:Str} {p pos:Pos} {e:Expr} {es:List Expr} {t:TA} {id T:String} {r:List V→Hp→VK→Prop}
def tCB (r:List V→Hp→VK→Prop) (t:TA):TE:=fun σ H Q=>t σ H fun vs H1=>r vs H1 Q
theorem zF (hc:vq X (.builtin id) r) (hg:Gl X x) (hm:X.mg x=none) (hv:bootBuiltins x=some (.builtin id)) (ha:PA X (e :: es) t) (hn:x≠"__name__":=by decide) (hdb:(x == ("__debug__":Str))=false:=by decide)
  (he:starEach (e :: es) X.env=(false,eval e X.env) :: starEach es X.env:=by rfl) (hpl:(backTo pos (starEach es X.env)).any (·.1)=false:=by rfl):PE X (.Call (.Name x p) (e :: es) [] pos) (tCB r t):=by
 intro pins s σ H Q I h
 refine eX (wQ I hg hm hv ?_ hn hdb)
 exact PyProof.Rows.callWith_builtin1 (thn (ha pos pins s σ H _ I h) fun us s1 ⟨vs,H1,I1,r1,q1⟩=>hc pins s1 σ H1 vs us Q I1 r1 q1) he hpl
theorem yN (hc:vq X (.type T) r) (hg:Gl X x) (hm:X.mg x=none) (hv:bootBuiltins x=some (.type T)) (ha:PA X (e :: es) t) (hn:x≠"__name__":=by decide) (hdb:(x == ("__debug__":Str))=false:=by decide)
  (he:starEach (e :: es) X.env=(false,eval e X.env) :: starEach es X.env:=by rfl) (hpl:(backTo pos (starEach es X.env)).any (·.1)=false:=by rfl):PE X (.Call (.Name x p) (e :: es) [] pos) (tCB r t):=by
 intro pins s σ H Q I h
 refine eX (wQ I hg hm hv ?_ hn hdb)
 exact cJ (thn (ha pos pins s σ H _ I h) fun us s1 ⟨vs,H1,I1,r1,q1⟩=>hc pins s1 σ H1 vs us Q I1 r1 q1) he hpl
end
end L2
namespace HT
open PySem PyProof.Rows
def zf9:List Int→List Int→Bool
 | [],[]=>false
 | [],_ :: _=>true
 | _ :: _,[]=>false
 | x :: xs,y :: ys=>if x=y then zf9 xs ys else decide (x < y)
theorem rcLt_int (A:Around) (s:Shared) (a:Int) (t:Tok) (c:Int) (u:Tok) (prog:Program) (w:World) (E:Value→Shared→Prop) (Q:Value→Shared→Prop) (h:Q (.bool (decide (a < c))) s) :
  wpAny (model prog w) A (richCompare .Lt (.int a t) (.int c u)) Q E s :=
 (og h:wpAny (model prog w) A (compareOp .Lt (.int a t) (.int c u)) Q E s)
section
variable {prog:Program} {w:World} {A:Around} {E:Value→Shared→Prop} {s:Shared}
def sIx (n d:Nat):Option Int→Nat
 | none=>d
 | some v=>if v < 0 then (v + (n:Int)).toNat else min v.toNat n
theorem sIx_none (n d:Nat):sIx n d none=d:=rfl
theorem sIx_nat (n d k:Nat):sIx n d (some (k:Int))=min k n:=by
 show (if (k:Int) < 0 then ((k:Int) + (n:Int)).toNat else min (k:Int).toNat n)=min k n
 rw [if_neg (by lia),eI]
theorem sIx_le (n d:Nat) (hd:d≤n) (o:Option Int):sIx n d o≤n:=by
 cases o with
 | none=>exact hd
 | some v =>
  show (if v < 0 then (v + (n:Int)).toNat else min v.toNat n)≤n
  by_cases hv:v < 0
  ·rw [if_pos hv];lia
  ·rw [if_neg hv];exact Nat.min_le_right _ _
end
end HT
namespace L2
open PySem PySem.Spec PyProof.Rows
abbrev TO:=St→Hp→(Option Int→Hp→Prop)→Prop
def PO (X:Cx) (e:Option Expr) (t:TO):Prop :=
 ∀ (pins:List (Addr × Obj)) (s:Shared) (σ:St) (H:Hp) (Q:Option Int→Hp→Prop),Inv X pins σ H s→t σ H Q →
  wpAny (model X.prog X.w) X.A (evalPart e X.env) (fun u s'=>∃ o H',Inv X pins σ H' s'∧IsPart u o∧Q o H') X.xe s
def yu:TO:=fun _ H Q=>Q none H
def xw (t:TE):TO:=fun σ H Q=>t σ H fun x H1=>∃ i,x=.int i∧Q (some i) H1
section
variable {X:Cx} {e:Expr} {te:TE} {lo hi:Option Expr} {tl th:TO} {pos p2:Pos}
theorem xV:PO X none yu:=by
 intro pins s σ H Q I h
 rw [mB]
 exact bo ⟨none,H,I,.none,h⟩
theorem xp (h:PE X e te):PO X (some e) (xw te):=by
 intro pins s σ H Q I hw
 rw [oz]
 refine thn (h pins s σ H _ I hw) fun u s1 ⟨x,H1,I1,r1,q1⟩=>?_
 obtain ⟨i,rfl,q⟩:=q1
 obtain ⟨t,rfl⟩:=r1
 exact ⟨some i,H1,I1,.int i t,q⟩
def SlR (X:Cx) (r:V→Option Int→Option Int→Hp→VK→Prop):Prop :=
 ∀ (pins:List (Addr × Obj)) (s:Shared) (σ:St) (H:Hp) (x:V) (v vl vu:Value) (lo hi:Option Int) (sl:Addr) (Q:VK),Inv X pins σ H s→RelV x v→s.heap.IsSliceOf sl vl vu .none→IsPart vl lo→IsPart vu hi→r x lo hi H Q →
  ∃ T id,typeLookup (.type T) "__getitem__"=pure (some (.builtin id))∧s.TypeIs v T∧wpAny (model X.prog X.w) X.A (getItem v (.ref sl)) (EP X pins σ Q) X.xe s
def tSl (r:V→Option Int→Option Int→Hp→VK→Prop) (te:TE) (tl th:TO):TE:=fun σ H Q=>te σ H fun x H1=>tl σ H1 fun l H2=>th σ H2 fun u H3=>r x l u H3 Q
theorem yV {r:V→Option Int→Option Int→Hp→VK→Prop} (hr:SlR X r) (he:PE X e te) (hl:PO X lo tl) (hu:PO X hi th):PE X (.Subscript e (.Slice lo hi none p2) pos) (tSl r te tl th):=by
 intro pins s σ H Q I h
 refine nP (thn (he pins s σ H _ I h) fun v s1 ⟨x,H1,I1,r1,q1⟩=>?_)
 refine wpAny_Slice (thn (hl pins s1 σ H1 _ I1 q1) fun vl s2 ⟨l,H2,I2,pl,q2⟩=>thn (hu pins s2 σ H2 _ I2 q2) fun vu s3 ⟨u,H3,I3,pu,q3⟩=>?_)
 rw [mB]
 refine bo ?_
 have I4:Inv X pins σ H3 { s3 with heap:=s3.heap.push { cls:=.type "slice",data:=.fields #[vl,vu,.none] } }:=I3.kept (t':=s3.toks) fun b ob q=>bh _ q
 obtain ⟨T,id,hT,ht,hg⟩:=hr pins { s3 with heap:=s3.heap.push { cls:=.type "slice",data:=.fields #[vl,vu,.none] } } σ H3 x v vl vu l u s3.heap.objs.size Q I4 r1 (oA ..) pl pu q3
 show wpAny (model X.prog X.w) X.A (subscriptTail e (.Slice lo hi none p2) v (.ref s3.heap.objs.size)) (EP X pins σ Q) X.xe { s3 with heap:=s3.heap.push { cls:=.type "slice",data:=.fields #[vl,vu,.none] } }
 exact tail_any (ops:=[.ref s3.heap.objs.size,v]) ht hT hg (by with_unfolding_all rfl)
def qI (xs:List V) (lo hi:Option Int):List V:=(xs.drop (HT.sIx xs.length 0 lo)).take (HT.sIx xs.length xs.length hi - HT.sIx xs.length 0 lo)
theorem VZ (xs:List V) (lo hi:Option Int):(qI xs lo hi).length≤xs.length:=by
 unfold qI
 rw [c8,et]
 lia
end
def ixN (n:Nat) (i:Int):Option Nat:=if 0≤i then (if i < n then some i.toNat else none) else if -(n:Int)≤i then some (i + n).toNat else none
def atI {α:Type} (xs:List α) (i:Int):Option α:=(ixN xs.length i).bind fun j=>xs[j]?
theorem zdw {n:Nat} {i:Int} {j:Nat} (h:ixN n i=some j):seqIndex? i n=some j∧j < n∧-(n:Int)≤i∧i < n:=by
 unfold ixN at h
 by_cases h0:0≤i
 ·rw [if_pos h0] at h
  by_cases h1:i < n
  ·rw [if_pos h1] at h
   have e:i.toNat=j:=bS h
   exact ⟨by rw [seqIndex_of h0 h1,e],by lia,by lia,h1⟩
  ·rw [if_neg h1] at h;cases h
 ·rw [if_neg h0] at h
  by_cases h1:-(n:Int)≤i
  ·rw [if_pos h1] at h
   have e:(i + n).toNat=j:=bS h
   exact ⟨by rw [seqIndex_neg (by lia) h1,e],by lia,h1,by lia⟩
  ·rw [if_neg h1] at h;cases h
theorem W0 {α:Type} {xs:List α} {i:Int} {v:α} (h:atI xs i=some v):∃ j,seqIndex? i xs.length=some j∧xs[j]?=some v∧j < xs.length∧-(xs.length:Int)≤i∧i < xs.length:=by
 unfold atI at h
 cases e:ixN xs.length i with
 | none=>rw [e] at h;cases h
 | some j =>
  rw [e] at h
  obtain ⟨h1,h2,h3,h4⟩:=zdw e
  exact ⟨j,h1,h,h2,h3,h4⟩
theorem xF {α:Type} {xs:List α} {j:Nat} {v:α} (h:xs[j]?=some v):atI xs (j:Int)=some v:=by
 have hj:j < xs.length:=(bw.mp h).1
 have e:ixN xs.length (j:Int)=some j:=by
  unfold ixN
  rw [if_pos (by lia),if_pos (by lia)];simp
 unfold atI;rw [e];exact h
def zdx (b:Expr):Prop:=∀ o i,subscripted b false o i=operate [o,i] (getItem o i)
def IxR (X:Cx) (r:R2):Prop :=
 ∀ (value slice:Expr) (pins:List (Addr × Obj)) (s:Shared) (σ:St) (H:Hp) (x y:V) (v u:Value) (Q:VK),Inv X pins σ H s→RelV x v→RelV y u→r x y H Q →
  subscripted slice false v u=operate [v,u] (getItem v u)→wpAny (model X.prog X.w) X.A (subscriptTail value slice v u) (EP X pins σ Q) X.xe s
def MtR (X:Cx) (id:String) (r:V→List V→Hp→VK→Prop):Prop :=
 ∀ (pins:List (Addr × Obj)) (s:Shared) (σ:St) (H:Hp) (x:V) (xs:List V) (v:Value) (us:List Value) (Q:VK),Inv X pins σ H s→RelV x v→Vals xs us→r x xs H Q →
  wpAny (model X.prog X.w) X.A (call (.builtin id) (v :: us)) (EP X pins σ Q) X.xe s
section
variable {X:Cx} {a b:Expr} {ta tb:TE} {pos:Pos}
theorem zO {r:R2} (hr:IxR X r) (ha:PE X a ta) (hb:PE X b tb) (hs:zdx b):PE X (.Subscript a b pos) (tOp r ta tb):=by
 intro pins s σ H Q I h
 exact nP (zfe ha hb I h fun v u s2 x y H2 I2 rx ry q=>hr a b pins s2 σ H2 x y v u Q I2 rx ry q (hs _ _))
def yw (K:bD):R2:=fun x y H Q=>∃ p xs i v,x=.ref p∧y=.int i∧SqL K H p xs∧atI xs i=some v∧Q v H
def yx (K:bD):R2:=fun x y H Q=>∃ p xs i v,x=.ref p∧y=.int i∧SqT K H p xs∧atI xs i=some v∧Q v H
def W1:R2:=fun x y H Q=>∃ z i c,x=.str z∧y=.int i∧z.length≤sizeLine∧atI z.cps.toList i=some c∧Q (.str ⟨#[c]⟩) H
theorem zZ:IxR X (yw X.K):=by
 intro value slice pins s σ H x y v u Q I rx ry h hs
 obtain ⟨p,xs,i,z,rfl,rfl,hq,he,q⟩:=h
 cases rx
 obtain ⟨t,rfl⟩:=ry
 obtain ⟨its,r,pl,hz⟩:=I.list hq
 obtain ⟨j,h1,h2,h3,h4,h5⟩:=W0 he
 obtain ⟨w,ew,rw'⟩:=r.get h2
 have hl:=r.length
 have hn:=WZ
 have fin:EP X pins σ Q w s:=⟨z,H,I,rw',q⟩
 by_cases h0:0≤i
 ·have hj:i.toNat=j:=by
   rw [seqIndex_of h0 h5] at h1
   exact bS h1
  exact item_listR pl.isList h0 (by lia) (by rw [hj];simpa using ew) fin hs
 ·have hj:(i + (its.toArray.size:Int)).toNat=j:=by
   rw [seqIndex_neg (by lia) h4] at h1
   rw [bG,← hl]
   exact bS h1
  exact mY (x:=w) pl.isList.typeIs l8.lookup
   (wpAny_getItem_list_neg (Q:=fun r s'=>r=w∧EP X pins σ Q r s') pl.isList (by lia) (by rw [bG] <;> lia) (by lia) (by rw [hj];simpa using ew) ⟨rfl,fin⟩) hs
theorem yb:IxR X (yx X.K):=by
 intro value slice pins s σ H x y v u Q I rx ry h hs
 obtain ⟨p,xs,i,z,rfl,rfl,hq,he,q⟩:=h
 cases rx
 obtain ⟨t,rfl⟩:=ry
 obtain ⟨its,r,pl,hz⟩:=I.tuple hq
 obtain ⟨j,h1,h2,h3,h4,h5⟩:=W0 he
 obtain ⟨w,ew,rw'⟩:=r.get h2
 have hl:=r.length
 have hn:=WZ
 have fin:EP X pins σ Q w s:=⟨z,H,I,rw',q⟩
 exact mY (x:=w) pl.typeIs slot_tuple_getitem.lookup
  (getItem_tuple (j:=j) (Q:=fun r s'=>r=w∧EP X pins σ Q r s') pl (by lia) (by lia) (by rw [bG,← hl];exact h1) (by simpa using ew) ⟨rfl,fin⟩) hs
theorem YH:IxR X W1:=by
 intro value slice pins s σ H x y v u Q I rx ry h hs
 obtain ⟨z,i,c,rfl,rfl,hz,he,q⟩:=h
 obtain ⟨t,rfl⟩:=rx
 obtain ⟨t',rfl⟩:=ry
 obtain ⟨j,h1,h2,h3,h4,h5⟩:=W0 he
 have hl:z.cps.toList.length=z.length:=by simp [gM]
 rw [hl] at h1 h4 h5
 have hn:=WZ
 exact tail_any (oO s z t) slot_str_getitem.lookup (getItem_str (c:=c) (by
  have e1:decide (i < -(2 ^ 63:Int))=false:=decide_eq_false (by lia)
  have e2:decide (i ≥ 2 ^ 63)=false:=decide_eq_false (by lia)
  rw [e1,e2,oC]) (by rw [h1];simpa using h2) ⟨.str ⟨#[c]⟩,H,I.tok _,⟨_,rfl⟩,q⟩) hs
theorem W2 (lo hi:Option Int) (n:Nat):(sliceBounds lo hi none n).1=((HT.sIx n 0 lo:Nat):Int)∧(sliceBounds lo hi none n).2.1=((HT.sIx n n hi:Nat):Int)∧(sliceBounds lo hi none n).2.2=1:=by
 refine ⟨?_,?_,rfl⟩
 ·cases lo with
  | none=>simp [sliceBounds,HT.sIx]
  | some i =>
   simp only [sliceBounds,HT.sIx,pA,show (1:Int) > 0 by decide,if_true]
   by_cases h:i < 0
   ·simp only [h,if_true] <;> lia
   ·simp only [h,if_false] <;> lia
 ·cases hi with
  | none=>simp [sliceBounds,HT.sIx]
  | some i =>
   simp only [sliceBounds,HT.sIx,pA,show (1:Int) > 0 by decide,if_true]
   by_cases h:i < 0
   ·simp only [h,if_true] <;> lia
   ·simp only [h,if_false] <;> lia
theorem XR (its:List Value) (lo hi:Option Int):slicePick its.toArray lo hi none=((its.drop (HT.sIx its.length 0 lo)).take (HT.sIx its.length its.length hi - HT.sIx its.length 0 lo)).toArray:=by
 obtain ⟨h1,h2,h3⟩:=W2 lo hi its.toArray.size
 unfold slicePick
 rw [h1,h2,h3]
 simp only [sliceRange_one,pick_run,bG] <;> rfl
def Zn (K:bD):V→Option Int→Option Int→Hp→VK→Prop:=fun x lo hi H Q=>∃ a xs,x=.ref a∧SqL K H a xs∧∀ p,H p=none→Q (.ref p) (upd H p (.lst (qI xs lo hi)))
theorem jg:SlR X (Zn X.K):=by
 intro pins s σ H x v vl vu lo hi sl Q I rx hs pl pu h
 obtain ⟨a,xs,rfl,hx,q⟩:=h
 cases rx
 obtain ⟨its,r,ht,hz⟩:=I.list hx
 have hlen:=r.length
 refine ⟨"list",_,l8.lookup,ht.isList.typeIs,?_⟩
 refine l9 ht.isList hs pl pu .none (by simp) ?_ (by rw [bG] <;> lia)
 rw [XR,← hlen]
 refine ⟨.ref s.heap.objs.size,_,I.laid (t':=s.toks) (o:=.lst (qI xs lo hi)) (fun b ob q=>bh _ q) (bj _) ?_,rfl,q _ (I.hok.fresh (bj _))⟩
 exact ⟨bU (VZ xs lo hi) hz,_,0,(r.drop (HT.sIx xs.length 0 lo)).take (HT.sIx xs.length xs.length hi - HT.sIx xs.length 0 lo),bz _ rfl⟩
def qJ:V→Bool
 | .non=>true
 | .bl _=>true
 | .int _=>true
 | .str _=>true
 | _=>false
def eqV:V→V→Bool
 | .non,.non=>true
 | .bl a,.bl b=>a == b
 | .bl a,.int b=>(if a then 1 else 0) == b
 | .int a,.bl b=>a == (if b then 1 else 0)
 | .int a,.int b=>a == b
 | .str a,.str b=>a == b
 | _,_=>false
theorem zfg {A:Around} {s:Shared} {y x:V} {u v:Value} (ry:RelV y u) (rx:RelV x v) (fy:qJ y=true) (fx:qJ x=true):SeqAt.EqAt A s u v (eqV y x):=by
 cases y with
 | non =>
  cases ry
  cases x with
  | non=>cases rx;exact SeqAt.EqAt.same _
  | bl b=>cases rx;exact SeqAt.EqAt.none_bool b
  | int b=>obtain ⟨t,rfl⟩:=rx;exact SeqAt.EqAt.none_int b t
  | str b=>obtain ⟨t,rfl⟩:=rx;exact SeqAt.EqAt.none_str b t
  | _=>exact absurd (show false=true from fx) bJ
 | bl a =>
  cases ry
  cases x with
  | non=>cases rx;exact SeqAt.EqAt.bool_none a
  | bl b=>cases rx;exact SeqAt.EqAt.bool_bool a b
  | int b=>obtain ⟨t,rfl⟩:=rx;exact SeqAt.EqAt.bool_int a b t
  | str b=>obtain ⟨t,rfl⟩:=rx;exact SeqAt.EqAt.bool_str a b t
  | _=>exact absurd (show false=true from fx) bJ
 | int a =>
  obtain ⟨t',rfl⟩:=ry
  cases x with
  | non=>cases rx;exact SeqAt.EqAt.int_none a t'
  | bl b=>cases rx;exact SeqAt.EqAt.int_bool a t' b
  | int b=>obtain ⟨t,rfl⟩:=rx;exact lO a t' b t
  | str b=>obtain ⟨t,rfl⟩:=rx;exact ou a t' b t
  | _=>exact absurd (show false=true from fx) bJ
 | str a =>
  obtain ⟨t',rfl⟩:=ry
  cases x with
  | non=>cases rx;exact SeqAt.EqAt.str_none a t'
  | bl b=>cases rx;exact SeqAt.EqAt.str_bool a t' b
  | int b=>obtain ⟨t,rfl⟩:=rx;exact ox a t' b t
  | str b=>obtain ⟨t,rfl⟩:=rx;exact lP a t' b t
  | _=>exact absurd (show false=true from fx) bJ
 | _=>exact absurd (show false=true from fy) bJ
def eqU (x:V) (u:Value):Bool:=match u with
 | .none=>eqV .non x
 | .bool b=>eqV (.bl b) x
 | .int i _=>eqV (.int i) x
 | .str z _=>eqV (.str z) x
 | _=>false
theorem zbh {x y:V} {u:Value} (r:RelV y u) (f:qJ y=true):eqU x u=eqV y x:=by
 cases y with
 | non=>cases r;rfl
 | bl b=>cases r;rfl
 | int i=>obtain ⟨t,rfl⟩:=r;rfl
 | str z=>obtain ⟨t,rfl⟩:=r;rfl
 | _=>exact absurd (show false=true from f) bJ
theorem qK {x:V}:∀ {xs:List V} {us:List Value},Vals xs us→xs.all qJ=true→us.any (eqU x)=xs.any fun y=>eqV y x
 | _,_,.nil,_=>rfl
 | y :: xs,u :: us,.cons r t,f=>by
  rw [gq,bV] at f
  rw [iO,iO,zbh r f.1,qK t f.2]
theorem jT {A:Around} {s:Shared} {x:V} {v:Value} (rx:RelV x v) (fx:qJ x=true):∀ {xs:List V} {us:List Value},Vals xs us→xs.all qJ=true→∀ u∈us,SeqAt.EqAt A s u v (eqU x u)
 | _,_,.nil,_=>fun u hu=>by cases hu
 | y :: xs,u :: us,.cons r t,f=>fun u' hu=>by
  rw [gq,bV] at f
  rcases bK.mp hu with rfl | hu
  ·rw [zbh r f.1];exact zfg r rx f.1 fx
  ·exact jT rx fx t f.2 u' hu
def inV (x:V) (xs:List V):Bool:=xs.any fun y=>eqV y x
def rIn (K:bD) (neg:Bool):R2:=fun x y H Q=>∃ p xs,y=.ref p∧(SqL K H p xs∨SqT K H p xs)∧qJ x=true∧xs.all qJ=true∧Q (.bl (if neg then !inV x xs else inV x xs)) H
theorem zas:OpR X (compareOp .In) (rIn X.K false):=by
 intro pins s σ H x y v u Q I rx ry h
 obtain ⟨p,xs,rfl,hq,fx,fs,q⟩:=h
 cases ry
 rcases hq with hq | hq
 ·obtain ⟨its,r,pl,hz⟩:=I.list hq
  refine SeqAt.in_listAt (eqU x) pl.isList (fun w hw=>jT rx fx r fs w (by simpa using hw)) ⟨.bl _,H,I,rfl,?_⟩
  rw [show its.toArray.any (eqU x)=its.any (eqU x) by simp,qK r fs]
  exact q
 ·obtain ⟨its,r,pl,hz⟩:=I.tuple hq
  refine SeqAt.in_tupleAt (eqU x) pl (fun w hw=>jT rx fx r fs w (by simpa using hw)) ⟨.bl _,H,I,rfl,?_⟩
  rw [show its.toArray.any (eqU x)=its.any (eqU x) by simp,qK r fs]
  exact q
theorem W3:OpR X (compareOp .NotIn) (rIn X.K true):=by
 intro pins s σ H x y v u Q I rx ry h
 obtain ⟨p,xs,rfl,hq,fx,fs,q⟩:=h
 cases ry
 rcases hq with hq | hq
 ·obtain ⟨its,r,pl,hz⟩:=I.list hq
  refine SeqAt.notIn_listAt (eqU x) pl.isList (fun w hw=>jT rx fx r fs w (by simpa using hw)) ⟨.bl _,H,I,rfl,?_⟩
  rw [show its.toArray.any (eqU x)=its.any (eqU x) by simp,qK r fs]
  exact q
 ·obtain ⟨its,r,pl,hz⟩:=I.tuple hq
  refine SeqAt.notIn_tupleAt (eqU x) pl (fun w hw=>jT rx fx r fs w (by simpa using hw)) ⟨.bl _,H,I,rfl,?_⟩
  rw [show its.toArray.any (eqU x)=its.any (eqU x) by simp,qK r fs]
  exact q
theorem wK:vq X (.type "list") (fun xs H Q=>∃ p ys,xs=[.ref p]∧(SqL X.K H p ys∨SqT X.K H p ys)∧∀ l,H l=none→Q (.ref l) (upd H l (.lst ys))):=by
 intro pins s σ H xs us Q I r h
 obtain ⟨p,ys,rfl,hq,q⟩:=h
 obtain ⟨u,rfl,rx⟩:=jM r
 cases rx
 have fin:∀ (its:List Value),Vals ys its→ys.length≤sizeLine→∀ (h':Heap) (c':Nat),(∀ b o',s.heap.get? b=some o'→h'.get? b=some o') →
   h'.get? s.heap.objs.size=some { cls:=.type "list",dict:=none,data:=.seq its.toArray c',slots:=#[] }→EP X pins σ Q (.ref s.heap.objs.size) { s with heap:=h' }:=fun its r' hz h' c' kp e =>
  ⟨.ref s.heap.objs.size,_,I.laid (t':=s.toks) kp (bj _) (show ObjOk X.prog X.w _ h' _ (.lst ys) from ⟨hz,its,c',r',e⟩),rfl,q _ (I.hok.fresh (bj _))⟩
 rcases hq with hq | hq
 ·obtain ⟨its,r',pl,hz⟩:=I.list hq
  have hlen:=r'.length
  obtain ⟨o,ho,hc,n,hd⟩:=pl.isList
  exact call_list_seq p (.inl rfl) ho hc hd (fun h' c' kp e=>fin its r' hz h' c' kp e) (by simp only [bG] <;> lia)
 ·obtain ⟨its,r',pl,hz⟩:=I.tuple hq
  have hlen:=r'.length
  obtain ⟨o,ho,hc,n,hd⟩:=pl
  exact call_list_seq p (.inr rfl) ho hc hd (fun h' c' kp e=>fin its r' hz h' c' kp e) (by simp only [bG] <;> lia)
theorem XS:vq X (.type "tuple") (fun xs H Q=>∃ p ys,xs=[.ref p]∧((SqL X.K H p ys∧∀ l,H l=none→Q (.ref l) (upd H l (.tup ys)))∨(SqT X.K H p ys∧Q (.ref p) H))):=by
 intro pins s σ H xs us Q I r h
 obtain ⟨p,ys,rfl,h⟩:=h
 obtain ⟨u,rfl,rx⟩:=jM r
 cases rx
 rcases h with ⟨hq,q⟩ | ⟨hq,q⟩
 ·obtain ⟨its,r',pl,hz⟩:=I.list hq
  have hlen:=r'.length
  refine call_tuple_list pl.isList (fun h' kp=>?_) (by simp only [bG] <;> lia)
  have I1:Inv X pins σ H { s with heap:=h' }:=I.kept (t':=s.toks) kp
  have I2:Inv X pins σ (upd H h'.objs.size (.tup ys)) { s with heap:=h'.push { cls:=.type "tuple",data:=.seq its.toArray } } :=
   I1.laid (t':=s.toks) (fun b o e=>bh _ e) (bj _) (show ObjOk X.prog X.w _ _ _ (.tup ys) from ⟨hz,its,r',IsTup.new _ _⟩)
  exact ⟨.ref h'.objs.size,_,I2,rfl,q _ (I1.hok.fresh (bj _))⟩
 ·obtain ⟨its,r',pl,hz⟩:=I.tuple hq
  exact call_tuple_same pl ⟨.ref p,H,I,rfl,q⟩
def tyV (K:bD) (T:String) (x:V) (H:Hp):Prop:=match x with
 | .str _=>T="str"
 | .int _=>T="int"
 | .ref p=>(T="list"∧∃ xs,SqL K H p xs)∨(T="tuple"∧∃ o,K.lookup p=some o∧o.cls=.type "tuple"∧o.dict=none) ∨
   (T="dict"∧((∃ kvs,H p=some (.dK kvs))∨∃ kvs,H p=some (.dT kvs)))∨(T="set"∧∃ S n,H p=some (.set S n))
 | _=>False
theorem zbi {pins:List (Addr × Obj)} {σ:St} {H:Hp} {s:Shared} {T:String} {x:V} {v:Value} (I:Inv X pins σ H s) (r:RelV x v) (ty:tyV X.K T x H) :
  s.TypeIs v T∧∀ a,v=.ref a→∃ ob,s.heap.get? a=some ob∧ob.dict=none:=by
 cases x with
 | str z =>
  obtain ⟨t,rfl⟩:=r
  cases (show T="str" from ty)
  exact ⟨oO s z t,fun _ e=>nomatch e⟩
 | int i =>
  obtain ⟨t,rfl⟩:=r
  cases (show T="int" from ty)
  exact ⟨typeIs_int s i t,fun _ e=>nomatch e⟩
 | ref p =>
  cases r
  rcases ty with ⟨rfl,xs,hq⟩ | ⟨rfl,o,hk,hc,hd⟩ | ⟨rfl,hk⟩ | ⟨rfl,S,n,hk⟩
  ·obtain ⟨its,_,pl,_⟩:=I.list hq
   refine ⟨pl.isList.typeIs,fun a e=>?_⟩
   cases e
   obtain ⟨o,n,e,c,hd,_⟩:=pl
   exact ⟨o,e,hd⟩
  ·refine ⟨⟨o,I.kIn p o hk,hc⟩,fun a e=>?_⟩
   cases e
   exact ⟨o,I.kIn _ o hk,hd⟩
  ·have z:∃ o,s.heap.get? p=some o∧o.ExactDict:=by
    rcases hk with ⟨kvs,hk⟩ | ⟨kvs,hk⟩
    ·obtain ⟨_,_,_,_,o,_,_,e,ex,_⟩:=I.hok p _ hk
     exact ⟨o,e,ex⟩
    ·obtain ⟨_,_,_,_,o,_,_,e,ex,_⟩:=I.hok p _ hk
     exact ⟨o,e,ex⟩
   obtain ⟨o,e,ex⟩:=z
   refine ⟨⟨o,e,ex.1⟩,fun a e2=>?_⟩
   cases e2
   exact ⟨o,e,ex.2.1⟩
  ·obtain ⟨o,_,_,_,e,ex,_⟩:=I.hok p _ hk
   refine ⟨⟨o,e,ex.1⟩,fun a e2=>?_⟩
   cases e2
   exact ⟨o,e,ex.2.1⟩
 | _=>exact dv ty
def zat (K:bD) (T:String) (r:V→List V→Hp→VK→Prop) (to:TE):TE:=fun σ H Q=>to σ H fun x H1=>tyV K T x H1∧r x [] H1 Q
def tBM (K:bD) (T:String) (r:V→List V→Hp→VK→Prop) (to:TE) (t:TA):TE:=fun σ H Q=>to σ H fun x H1=>tyV K T x H1∧t σ H1 fun xs H2=>r x xs H2 Q
variable {o e:Expr} {es:List Expr} {to:TE} {t:TA} {name:Str} {apos cpos:Pos} {T id:String} {r:V→List V→Hp→VK→Prop}
theorem Kt (pa:PlainAttrs T) (slot:Slot T name id) (hty:typeOf (.builtin id)=pure (.type "method_descriptor")) (hm:MtR X id r) (ho:PE X o to)
  (hbase:attributeBase o name X.env (eval o X.env)=eval o X.env:=by rfl) (hline:(apos.endLine == cpos.line)=true:=by rfl):PE X (.Call (.Attribute o name apos) [] [] cpos) (zat X.K T r to):=by
 intro pins s σ H Q I h
 refine gQ hbase hline (thn (ho pins s σ H _ I h) fun v s1 ⟨x,H1,I1,r1,ty,q1⟩=>?_)
 obtain ⟨h1,h2⟩:=zbi I1 r1 ty
 exact ⟨T,id,pa,slot,hty,h1,h2,eU rfl (iW (hm pins s1 σ H1 x [] v [] Q I1 r1 .nil q1))⟩
theorem qL (pa:PlainAttrs T) (slot:Slot T name id) (hty:typeOf (.builtin id)=pure (.type "method_descriptor")) (hm:MtR X id r) (ho:PE X o to) (ha:PA X (e :: es) t)
  (hbase:attributeBase o name X.env (eval o X.env)=eval o X.env:=by rfl)
  (hfew:((backTo cpos (starEach (e :: es) X.env)).all (fun x=>!x.1) && (backToKw cpos (keywordEach [] X.env)).all (fun x=>x.1.isSome)
   && decide ((e :: es).length + ([]:List Keyword).length + (if ([]:List Keyword).isEmpty then 0 else 1) < 30))=true:=by rfl)
  (hline:(apos.endLine == cpos.line)=true:=by rfl) (hs:starEach (e :: es) X.env=(false,eval e X.env) :: starEach es X.env:=by rfl) (hplain:(backTo cpos (starEach es X.env)).any (·.1)=false:=by rfl) :
  PE X (.Call (.Attribute o name apos) (e :: es) [] cpos) (tBM X.K T r to t):=by
 intro pins s σ H Q I h
 refine wpAny_Call_method_late hbase hfew hline rfl (thn (ho pins s σ H _ I h) fun v s1 ⟨x,H1,I1,r1,ty,q1⟩=>?_)
 obtain ⟨h1,h2⟩:=zbi I1 r1 ty
 refine ⟨T,id,pa,slot,hty,h1,h2,?_⟩
 have hA:=ha cpos pins s1 σ H1 _ I1 q1
 rw [hs] at hA ⊢
 refine eU (by show (false || (backTo cpos (starEach es X.env)).any (·.1))=false;rw [hplain] <;> rfl) (iJ ?_)
 exact thn hA fun us s2 ⟨vs,H2,I2,r2,q2⟩=>hm pins s2 σ H2 x vs v us Q I2 r1 r2 q2
end
def MtM (X:Cx) (id:String) (r:V→List V→Hp→VK→Prop):Prop :=
 ∀ (pins:List (Addr × Obj)) (s:Shared) (σ:St) (H:Hp) (x:V) (xs:List V) (v:Value) (us:List Value) (Q:VK),Inv X pins σ H s→RelV x v→Vals xs us→r x xs H Q →
  wpAny (model X.prog X.w) X.A (call (.builtin id) (v :: us)) (EP X pins σ Q) X.xe s
theorem Vals.one:∀ {x:V} {us:List Value},Vals [x] us→∃ u,us=[u]∧RelV x u
 | _,_,.cons r .nil=>⟨_,rfl,r⟩
theorem Vals.zero:∀ {us:List Value},Vals [] us→us=[]
 | _,.nil=>rfl
theorem Vals.dropLast {xs:List V} {us:List Value} (h:Vals xs us):Vals xs.dropLast us.dropLast:=by
 induction h with
 | nil=>exact .nil
 | cons r t ih =>
  cases t with
  | nil=>exact .nil
  | cons q t'=>exact .cons r ih
theorem Ku {α:Type} (l:List α):l.eraseIdx (l.length - 1)=l.dropLast:=by
 induction l with
 | nil=>rfl
 | cons a r ih =>
  cases r with
  | nil=>rfl
  | cons b r =>
   have e:(a :: b :: r).length - 1=((b :: r).length - 1) + 1:=by
    have h1:(a :: b :: r).length=r.length + 2:=rfl
    have h2:(b :: r).length=r.length + 1:=rfl
    lia
   rw [e,List.eraseIdx_cons_succ,ih]
   all_goals rfl
section
variable {X:Cx} {pins:List (Addr × Obj)} {σ:St} {H:Hp} {s:Shared} {l b:Addr} {xs ys zs:List V}
theorem Inv.lset {its its':List Value} {n:Nat} {f:Array Value→Array Value} {t':Nat} (I:Inv X pins σ H s) (hH:H l=some (.lst xs))
  (e:s.heap.get? l=some { cls:=.type "list",data:=.seq its.toArray n }) (hf:f its.toArray=its'.toArray) (hv:Vals ys its') (hz:ys.length≤sizeLine) :
  Inv X pins σ (upd H l (.lst ys)) { s with heap:=s.heap.update l (cD f),toks:=t' }:=by
 have q:=PySem.IsL.update e f
 rw [hf] at q
 refine I.write (x:=l) (e:=l) (by rw [hH];exact trivial) (.inl rfl) (fun b' u hb hu=>(cN s.heap (cD f) (cP hb)).trans hu) ⟨_,q⟩ ?_
 exact ⟨hz,its',_,hv,q⟩
theorem Inv.lnew {its:List Value} {t':Nat} (I:Inv X pins σ H s) (hv:Vals ys its) (hz:ys.length≤sizeLine) :
  Inv X pins σ (upd H s.heap.objs.size (.lst ys)) { s with heap:=s.heap.push { cls:=.type "list",data:=.seq its.toArray },toks:=t' } :=
 I.laid (fun _ _ q=>bh _ q) (bj _) ⟨hz,its,0,hv,bz _ rfl⟩
theorem Inv.fresh (I:Inv X pins σ H s):H s.heap.objs.size=none:=I.hok.fresh (bj _)
theorem Inv.lstM (I:Inv X pins σ H s) (hH:H l=some (.lst xs)):xs.length≤sizeLine∧∃ (its:List Value) (n:Nat),Vals xs its∧xs.length=its.length∧s.heap.get? l=some { cls:=.type "list",data:=.seq its.toArray n }:=by
 obtain ⟨z,its,n,r,e⟩:=I.hok l _ hH
 exact ⟨z,its,n,r,r.length,e⟩
theorem zbj {n:Nat} (h:n≤sizeLine):gN n=false:=by
 unfold gN
 exact decide_eq_false (by lia)
end
section
variable {X:Cx}
def jh:V→List V→Hp→VK→Prop:=fun x vs H Q=>∃ l xs y,x=.ref l∧vs=[y]∧H l=some (.lst xs)∧xs.length < sizeLine∧Q .non (upd H l (.lst (xs ++ [y])))
theorem y7:MtM X "list.append" jh:=by
 intro pins s σ H x vs v us Q I rx rv h
 obtain ⟨l,xs,y,rfl,rfl,hH,hz,q⟩:=h
 cases rx
 obtain ⟨u,rfl,ru⟩:=rv.one
 obtain ⟨z,its,n,r,hl,e⟩:=I.lstM hH
 refine nQ F.slot_list_append ⟨_,e,rfl⟩ F.entry_list_append (F.args_list_append_2 _ _) (PySem.list_append l its.toArray n u (by rw [bG];lia)) ⟨e,?_⟩
 refine ⟨.non,_,I.lset (its':=its ++ [u]) hH e (by simp) (r.append (.cons ru .nil)) ?_,rfl,q⟩
 rw [bt,dg]
 lia
def Qu:V→List V→Hp→VK→Prop:=fun x vs H Q=>∃ l b xs zs,x=.ref l∧vs=[.ref b]∧H l=some (.lst xs)∧H b=some (.lst zs)∧xs.length + zs.length≤sizeLine∧Q .non (upd H l (.lst (xs ++ zs)))
theorem zau:MtM X "list.extend" Qu:=by
 intro pins s σ H x vs v us Q I rx rv h
 obtain ⟨l,b,xs,zs,rfl,rfl,hH,hB,hz,q⟩:=h
 cases rx
 obtain ⟨u,rfl,ru⟩:=rv.one
 cases ru
 obtain ⟨z,its,n,r,hl,e⟩:=I.lstM hH
 obtain ⟨z2,its2,n2,r2,hl2,e2⟩:=I.lstM hB
 have hsz:its.toArray.size + its2.toArray.size≤sizeLine:=by rw [bG,bG];lia
 have hlong:¬ (!its.toArray.isEmpty && gN (its.toArray.size + its2.toArray.size))=true:=by
  rw [zbj hsz,Bool.and_false]
  exact bJ
 refine nQ F.slot_list_extend ⟨_,e,rfl⟩ F.entry_list_extend (F.args_list_extend_2 _ _)
  (AutoSeq1.list_extend_list_list_0 l its.toArray n b its2.toArray n2 hlong (by rw [bG];lia) (by lia)) ⟨e,e2,?_⟩
 refine ⟨.non,_,I.lset (its':=its ++ its2) hH e (by simp) (r.append r2) ?_,rfl,q⟩
 rw [bt]
 lia
def zdy:V→List V→Hp→VK→Prop:=fun x vs H Q=>∃ l xs y,x=.ref l∧vs=[]∧H l=some (.lst xs)∧xs[xs.length - 1]?=some y∧Q y (upd H l (.lst xs.dropLast))
theorem Kv:MtM X "list.pop" zdy:=by
 intro pins s σ H x vs v us Q I rx rv h
 obtain ⟨l,xs,y,rfl,rfl,hH,hy,q⟩:=h
 cases rx
 have hus:=rv.zero
 subst hus
 obtain ⟨z,its,n,r,hl,e⟩:=I.lstM hH
 obtain ⟨u,hu,ru⟩:=r.get hy
 have hy':its.toArray[its.toArray.size - 1]?=some u:=by
  show its.toArray[its.length - 1]?=some u
  rw [← cX,← hl]
  exact hu
 refine nQ F.slot_list_pop ⟨_,e,rfl⟩ F.entry_list_pop (F.args_list_pop_1 _) (MeetsSeq.list_pop_last l its.toArray n u hy' (by rw [bG];lia)) ⟨e,?_⟩
 refine ⟨y,_,I.lset (its':=its.dropLast) hH e ?_ r.dropLast ?_,ru,q⟩
 ·show its.toArray.eraseIdxIfInBounds (its.toArray.size - 1)=its.dropLast.toArray
  rw [bG,List.eraseIdxIfInBounds_toArray,Ku]
 ·rw [cA]
  lia
def qb:R2:=fun x y H Q=>∃ l b xs zs,x=.ref l∧y=.ref b∧H l=some (.lst xs)∧H b=some (.lst zs)∧xs.length + zs.length≤sizeLine∧∀ p,H p=none→Q (.ref p) (upd H p (.lst (xs ++ zs)))
theorem jU:OpR X (binaryOp .Add) qb:=by
 intro pins s σ H x y v u Q I rx ry h
 obtain ⟨l,b,xs,zs,rfl,rfl,hH,hB,hz,q⟩:=h
 cases rx
 cases ry
 obtain ⟨z,its,n,r,hl,e⟩:=I.lstM hH
 obtain ⟨z2,its2,n2,r2,hl2,e2⟩:=I.lstM hB
 refine PySem.P.add_list e e2 ?_ (by rw [bG,bG];lia)
 have ea:its.toArray ++ its2.toArray=(its ++ its2).toArray:=by simp
 rw [ea]
 exact ⟨.ref _,_,I.lnew (t':=s.toks) (r.append r2) (by rw [bt];lia),rfl,q _ I.fresh⟩
end
section
variable {prog:Program} {w:World} {A:Around} {E:Value→Shared→Prop} {s:Shared}
set_option maxRecDepth 100000 in
end
section
variable {κ:Type} [DecidableEq κ]
def yf (kvs:List (κ × V)) (k:κ):Option V:=(kvs.find? fun kv=>decide (kv.1=k)).map (·.2)
def yD (kvs:List (κ × V)) (k:κ) (v:V):List (κ × V) :=
 if (kvs.any fun kv=>decide (kv.1=k))=true then kvs.map (fun kv=>if kv.1=k then (kv.1,v) else kv) else kvs ++ [(k,v)]
def Qv (kvs:List (κ × V)) (k:κ):List (κ × V):=kvs.filter fun kv=>decide (kv.1≠k)
theorem zbk {k:κ}:yf ([]:List (κ × V)) k=none:=rfl
theorem yI {p:κ × V} {r:List (κ × V)} {k:κ} (e:p.1=k):yf (p :: r) k=some p.2:=by simp [yf,gb,e]
theorem yJ {p:κ × V} {r:List (κ × V)} {k:κ} (e:¬ p.1=k):yf (p :: r) k=yf r k:=by simp [yf,gb,e]
theorem we (k:κ):∀ kvs:List (κ × V),(kvs.any fun kv=>decide (kv.1=k))=(yf kvs k).isSome
 | []=>rfl
 | p :: r=>by
  rw [iO]
  by_cases e:p.1=k
  ·simp only [yI e,decide_eq_true e,Bool.true_or,Option.isSome_some]
  ·rw [yJ e,decide_eq_false e,Bool.false_or];exact we k r
theorem V0 (k j:κ) (y:V):∀ kvs:List (κ × V),yf (kvs.map fun kv=>if kv.1=k then (kv.1,y) else kv) j=(yf kvs j).map fun x=>if j=k then y else x
 | []=>rfl
 | p :: r=>by
  have ih:=V0 k j y r
  rw [bX]
  by_cases h:p.1=k
  ·rw [if_pos h]
   by_cases e:p.1=j
   ·rw [yI (p:=(p.1,y)) e,yI e,iX,if_pos (e.symm.trans h)]
   ·rw [yJ (p:=(p.1,y)) e,yJ e,ih]
  ·rw [if_neg h]
   by_cases e:p.1=j
   ·rw [yI (p:=p) e,yI e,iX,if_neg (fun z=>h (e.trans z))]
   ·rw [yJ (p:=p) e,yJ e,ih]
theorem Wn (k j:κ) (y:V):∀ kvs:List (κ × V),yf kvs k=none→yf (kvs ++ [(k,y)]) j=if j=k then some y else yf kvs j
 | [],_=>by
  by_cases e:k=j
  ·rw [if_pos e.symm];exact yI (p:=(k,y)) e
  ·rw [if_neg (fun z=>e z.symm)];exact yJ (p:=(k,y)) e
 | p :: r,hn=>by
  rw [bI]
  have hk:¬ p.1=k:=fun z=>by rw [yI z] at hn;cases hn
  rw [yJ hk] at hn
  have ih:=Wn k j y r hn
  by_cases e:p.1=j
  ·rw [yI e,yI e,if_neg (fun z=>hk (e.trans z))]
  ·rw [yJ e,yJ e,ih]
theorem wg (kvs:List (κ × V)) (k j:κ) (y:V):yf (yD kvs k y) j=if j=k then some y else yf kvs j:=by
 unfold yD
 by_cases a:(kvs.any fun kv=>decide (kv.1=k))=true
 ·rw [if_pos a,V0]
  rw [we] at a
  by_cases e:j=k
  ·obtain ⟨x,hx⟩:=fo.mp a
   rw [if_pos e,e,hx,iX,if_pos rfl]
  ·rw [if_neg e]
   cases yf kvs j with
   | none=>rfl
   | some x=>rw [iX,if_neg e]
 ·rw [if_neg a]
  refine Wn k j y kvs ?_
  rw [we] at a
  cases q:yf kvs k with
  | none=>rfl
  | some x=>rw [q] at a;exact (a rfl).elim
theorem wj (kvs:List (κ × V)) (k:κ) (v:V):(yD kvs k v).length≤kvs.length + 1:=by
 unfold yD
 split
 ·rw [bn];lia
 ·rw [bt,cp,pR];lia
theorem jV {kvs:List (κ × V)} {k:κ} (v:V) (h:yf kvs k=none):yD kvs k v=kvs ++ [(k,v)]:=by
 unfold yD
 rw [we,h]
 exact if_neg (by decide)
theorem RelO.isSome_eq {o:Option V} {u:Option Value} (r:RelO o u):o.isSome=u.isSome:=by
 cases o with
 | none=>cases u with
  | none=>rfl
  | some _=>exact (show False from r).elim
 | some _=>cases u with
  | none=>exact (show False from r).elim
  | some _=>rfl
theorem RelO.getD {o:Option V} {u:Option Value} {d:V} {d':Value} (r:RelO o u) (rd:RelV d d'):RelV (o.getD d) (u.getD d'):=by
 cases o with
 | none=>cases u with
  | none=>exact rd
  | some _=>exact (show False from r).elim
 | some _=>cases u with
  | none=>exact (show False from r).elim
  | some _=>exact r
theorem KV.val {kvs:List (κ × V)} {vs:List (κ × Value)} (r:KV kvs vs) (k:κ):RelO (yf kvs k) (valueAt vs k):=by
 unfold KV at r
 induction r with
 | nil=>exact fm
 | @cons p q ps qs h t ih =>
  obtain ⟨h1,h2⟩:=h
  by_cases e:p.1=k
  ·have e':q.1=k:=h1.symm.trans e
   have b:valueAt (q :: qs) k=some q.2:=by simp [valueAt,gb,e']
   rw [yI e,b];exact h2
  ·have e':¬ q.1=k:=fun z=>e (h1.trans z)
   have b:valueAt (q :: qs) k=valueAt qs k:=by simp [valueAt,gb,e']
   rw [yJ e,b];exact ih
theorem KV.any {kvs:List (κ × V)} {vs:List (κ × Value)} (r:KV kvs vs) (k:κ):(kvs.any fun kv=>decide (kv.1=k))=vs.any fun kv=>decide (kv.1=k):=by
 unfold KV at r
 induction r with
 | nil=>rfl
 | cons h t ih=>rw [iO,iO,ih,h.1]
theorem KV.repl {kvs:List (κ × V)} {vs:List (κ × Value)} (r:KV kvs vs) (k:κ) {y:V} {u:Value} (ry:RelV y u) :
  KV (kvs.map fun kv=>if kv.1=k then (kv.1,y) else kv) (vs.map fun kv=>if kv.1=k then (kv.1,u) else kv):=by
 unfold KV at r ⊢
 induction r with
 | nil=>exact .nil
 | @cons p q ps qs h t ih =>
  rw [bX,bX]
  refine .cons ?_ ih
  obtain ⟨h1,h2⟩:=h
  by_cases e:p.1=k
  ·rw [if_pos e,if_pos (h1.symm.trans e)];exact ⟨h1,ry⟩
  ·rw [if_neg e,if_neg (fun z=>e (h1.trans z))];exact ⟨h1,h2⟩
theorem KV.put {kvs:List (κ × V)} {vs:List (κ × Value)} (r:KV kvs vs) (k:κ) {y:V} {u:Value} (ry:RelV y u):KV (yD kvs k y) (stored vs k u):=by
 unfold yD stored
 rw [r.any k]
 by_cases e:(vs.any fun kv=>decide (kv.1=k))=true
 ·rw [if_pos e,if_pos e];exact r.repl k ry
 ·rw [if_neg e,if_neg e];exact Paired.snoc r ⟨rfl,ry⟩
theorem KV.length {kvs:List (κ × V)} {vs:List (κ × Value)} (r:KV kvs vs):kvs.length=vs.length:=bH r
end
theorem Wo {P:Program} {w:World} {k:Key} {u:Value} (r:RelV (kV k) u):(yA P w).is k u=true:=by
 cases k with
 | inl i=>obtain ⟨t,e⟩:=(show ∃ t,u=io i t from r);subst e;exact VR P w i t
 | inr x=>obtain ⟨t,e⟩:=(show ∃ t,u=iS x t from r);subst e;exact VS P w x t
theorem Zo {P:Program} {w:World}:∀ {ks:List Key} {us:List Value},Vals (ks.map kV) us→ItemsAre (yA P w) ks us
 | [],_,r=>by rw [List.map_nil] at r;cases r;exact .nil
 | k :: ks,_,r=>by
  rw [bX] at r
  cases r with
  | cons h t=>exact .cons (Wo h) (Zo t)
abbrev KT (H:Hp):List (List Key × V)→List (List Key × Addr × Value)→Prop:=Paired fun p q=>p.1=q.1∧H q.2.1=some (.tup (p.1.map kV))∧RelV p.2 q.2.2
theorem KT.val {H:Hp} {kvs:List (List Key × V)} {xs:List (List Key × Addr × Value)} (r:KT H kvs xs) (k:List Key):RelO (yf kvs k) ((atKey xs k).map (·.2)):=by
 induction r with
 | nil=>exact fm
 | @cons p q ps qs h t ih =>
  obtain ⟨h1,_,h2⟩:=h
  by_cases e:p.1=k
  ·have e':q.1=k:=h1.symm.trans e
   have b:atKey (q :: qs) k=some q.2:=by simp [atKey,gb,e']
   rw [yI e,b];exact h2
  ·have e':¬ q.1=k:=fun z=>e (h1.trans z)
   have b:atKey (q :: qs) k=atKey qs k:=by simp [atKey,gb,e']
   rw [yJ e,b];exact ih
theorem KT.repl {H:Hp} {kvs:List (List Key × V)} {xs:List (List Key × Addr × Value)} (r:KT H kvs xs) (k:List Key) {y:V} {u:Value} (ry:RelV y u) :
  KT H (kvs.map fun kv=>if kv.1=k then (kv.1,y) else kv) (xs.map (putAt k u)):=by
 induction r with
 | nil=>exact .nil
 | @cons p q ps qs h t ih =>
  rw [bX,bX]
  refine .cons ?_ ih
  obtain ⟨h1,h2,h3⟩:=h
  unfold putAt
  by_cases e:p.1=k
  ·rw [if_pos e,if_pos (h1.symm.trans e)];exact ⟨h1,h2,ry⟩
  ·rw [if_neg e,if_neg (fun z=>e (h1.trans z))];exact ⟨h1,h2,h3⟩
theorem KT.put {H:Hp} {kvs:List (List Key × V)} {xs:List (List Key × Addr × Value)} (r:KT H kvs xs) (k:List Key) {b:Addr} {y:V} {u:Value} (hb:H b=some (.tup (k.map kV))) (ry:RelV y u) :
  KT H (yD kvs k y) (storedH xs k b u):=by
 have e:(kvs.any fun kv=>decide (kv.1=k))=(atKey xs k).isSome:=by
  rw [we,(r.val k).isSome_eq,ma]
 unfold yD storedH
 rw [e]
 by_cases q:(atKey xs k).isSome=true
 ·rw [if_pos q,if_pos q];exact r.repl k ry
 ·rw [if_neg q,if_neg q];exact Paired.snoc r ⟨rfl,hb,ry⟩
theorem KT.keeps {H H':Hp} {kvs:List (List Key × V)} {xs:List (List Key × Addr × Value)} (r:KT H kvs xs) (ht:∀ b ys,H b=some (.tup ys)→H' b=some (.tup ys)):KT H' kvs xs :=
 Paired.mapP r fun _ _ z=>⟨z.1,ht _ _ z.2.1,z.2.2⟩
section
variable {P:Program} {w:World} {H:Hp} {h:Heap} {a:Addr}
theorem zeO {u:HO} (ok:HOk P w H h) (e:Rd H a u):ObjOk P w H h a u:=e.ok ok
theorem YI {kvs:List (Key × V)} (ok:HOk P w H h) (e:Rd H a (.dK kvs)):kvs.length≤sizeLine∧(a == sysModules)=false∧∃ vs,KV kvs vs∧h.DictOf (yA P w) a vs :=
 show ObjOk P w H h a (.dK kvs) from zeO ok e
theorem zga {kvs:List (Key × V)} (ok:HOk P w H h) (e:H a=some (.dK kvs)):kvs.length≤sizeLine∧(a == sysModules)=false∧∃ vs,KV kvs vs∧h.DictOf (yA P w) a vs:=YI ok (.inl e)
theorem qc {ks:List Key} (ok:HOk P w H h) (e:H a=some (.tup (ks.map kV))):(tupleKind (yA P w)).is h ks a:=by
 obtain ⟨_,its,r,o,h1,h2,n,h3⟩:=(show ObjOk P w H h a (.tup (ks.map kV)) from ok a _ e)
 exact ⟨o,its.toArray,n,h1,h2,h3,by simpa using Zo r⟩
theorem YJ {kvs:List (List Key × V)} (ok:HOk P w H h) (e:Rd H a (.dT kvs)):kvs.length≤sizeLine∧(a == sysModules)=false ∧
  ∃ xs,KT H kvs xs∧h.DictOfH (tupleKind (yA P w)) a xs:=by
 obtain ⟨z,y,xs,r,o,es,ep,h1,h2,h3,h4,h5⟩:=(show ObjOk P w H h a (.dT kvs) from zeO ok e)
 refine ⟨z,y,xs,r,o,es,ep,h1,h2,h3,h4,fun x hx=>?_,h5⟩
 have all:∀ {l:List (List Key × V)} {m:List (List Key × Addr × Value)},KT H l m→∀ x∈m,(tupleKind (yA P w)).is h x.1 x.2.1:=by
  intro l m q
  induction q with
  | nil=>intro x hx;exact nomatch hx
  | @cons p q ps qs hq t ih =>
   intro x hx
   rcases bK.mp hx with e | hx
   ·subst e
    exact qc ok (by rw [← hq.1];exact hq.2.1)
   ·exact ih x hx
 exact all r x hx
theorem zeP {kvs:List (List Key × V)} (ok:HOk P w H h) (e:H a=some (.dT kvs)):kvs.length≤sizeLine∧(a == sysModules)=false ∧
  ∃ xs,KT H kvs xs∧h.DictOfH (tupleKind (yA P w)) a xs:=YJ ok (.inl e)
end
def DGet (H:Hp) (a:Addr) (y:V) (r:Option V):Prop :=
 (∃ kvs k,Rd H a (.dK kvs)∧y=kV k∧r=yf kvs k)∨∃ kvs k b,Rd H a (.dT kvs)∧y=.ref b∧H b=some (.tup (k.map kV))∧r=yf kvs k
def DPut (H:Hp) (a:Addr) (y v:V) (H':Hp):Prop :=
 (∃ kvs k,H a=some (.dK kvs)∧y=kV k∧kvs.length < sizeLine∧H'=upd H a (.dK (yD kvs k v))) ∨
 ∃ kvs k b,H a=some (.dT kvs)∧y=.ref b∧H b=some (.tup (k.map kV))∧kvs.length < sizeLine∧H'=upd H a (.dT (yD kvs k v))
theorem DGet.k {H:Hp} {a:Addr} {kvs:List (Key × V)} {k:Key} (e:H a=some (.dK kvs)):DGet H a (kV k) (yf kvs k):=.inl ⟨kvs,k,.inl e,rfl,rfl⟩
theorem DGet.t {H:Hp} {a b:Addr} {kvs:List (List Key × V)} {k:List Key} (e:H a=some (.dT kvs)) (eb:H b=some (.tup (k.map kV))):DGet H a (.ref b) (yf kvs k):=.inr ⟨kvs,k,b,.inl e,rfl,eb,rfl⟩
theorem DPut.k {H:Hp} {a:Addr} {kvs:List (Key × V)} {k:Key} {v:V} (e:H a=some (.dK kvs)) (hl:kvs.length < sizeLine):DPut H a (kV k) v (upd H a (.dK (yD kvs k v))):=.inl ⟨kvs,k,e,rfl,hl,rfl⟩
theorem DPut.t {H:Hp} {a b:Addr} {kvs:List (List Key × V)} {k:List Key} {v:V} (e:H a=some (.dT kvs)) (eb:H b=some (.tup (k.map kV))) (hl:kvs.length < sizeLine) :
  DPut H a (.ref b) v (upd H a (.dT (yD kvs k v))):=.inr ⟨kvs,k,b,e,rfl,eb,hl,rfl⟩
section
variable {X:Cx} {pins:List (Addr × Obj)} {σ:St} {H:Hp} {s:Shared} {a:Addr} {y v:V} {u r:Value} {o:Option V} {A:Around} {E:Value→Shared→Prop}
theorem Inv.big (I:Inv X pins σ H s):sysModules < s.heap.objs.size:=by
 have h:mainGlobals < s.heap.objs.size:=(I.mod.glob.keeps I.bk).lt
 exact o8 (by decide) h
theorem zav {Q:Value→Shared→Prop} (hu:A.units + 1 < cLine) (I:Inv X pins σ H s) (g:DGet H a y (some v)) (ry:RelV y u) (h:∀ w' s',Inv X pins σ H s'→RelV v w'→Q w' s') :
  wpAny (model X.prog X.w) A (getItem (.ref a) u) Q E s:=by
 rcases g with ⟨kvs,k,e,ey,l⟩ | ⟨kvs,k,b,e,ey,eb,l⟩
 ·subst ey
  obtain ⟨z,hd,vs,rel,dd⟩:=YI I.hok e
  obtain ⟨w',hw,rw'⟩:=RelO.some_of (v:=v) (o:=valueAt vs k) (by rw [l];exact rel.val k)
  exact wpAny_getItem_of (Wo ry) dd.mapOf hw (h w' _ (I.tok _) rw')
 ·subst ey
  cases (show u=bM b from ry)
  obtain ⟨z,hd,xs,rel,dd⟩:=YJ I.hok e
  obtain ⟨w',hw,rw'⟩:=RelO.some_of (v:=v) (o:=(atKey xs k).map (·.2)) (by rw [l];exact rel.val k)
  obtain ⟨p,hp,hp2⟩:=dq.mp hw
  refine wpAny_getItem_heap (eY hu) (qc I.hok eb) dd hp ?_
  rw [hp2]
  exact h w' _ (I.tok _) rw'
theorem zgH {Q:Value→Shared→Prop} (hu:A.units + 1 < cLine) (I:Inv X pins σ H s) (g:DGet H a y o) (ry:RelV y u) (h:∀ s',Inv X pins σ H s'→Q (.bool o.isSome) s') :
  wpAny (model X.prog X.w) A (compareOp .In u (.ref a)) Q E s:=by
 rcases g with ⟨kvs,k,e,ey,l⟩ | ⟨kvs,k,b,e,ey,eb,l⟩
 ·subst ey
  obtain ⟨z,hd,vs,rel,dd⟩:=YI I.hok e
  refine wpAny_in_of (Wo ry) hd dd.mapOf ?_
  rw [← (rel.val k).isSome_eq,← l]
  exact h _ (I.tok _)
 ·subst ey
  cases (show u=bM b from ry)
  obtain ⟨z,hd,xs,rel,dd⟩:=YJ I.hok e
  refine wpAny_in_heap (eY hu) (qc I.hok eb) hd dd ?_
  have q:=(rel.val k).isSome_eq
  rw [ma] at q
  rw [← q,← l]
  exact h _ (I.tok _)
theorem zdz {Q:Value→Shared→Prop} (hu:A.units + 1 < cLine) (I:Inv X pins σ H s) (g:DGet H a y o) (ry:RelV y u) (h:∀ s',Inv X pins σ H s'→Q (.bool (!o.isSome)) s') :
  wpAny (model X.prog X.w) A (compareOp .NotIn u (.ref a)) Q E s:=by
 rcases g with ⟨kvs,k,e,ey,l⟩ | ⟨kvs,k,b,e,ey,eb,l⟩
 ·subst ey
  obtain ⟨z,hd,vs,rel,dd⟩:=YI I.hok e
  refine wpAny_notIn_of (Wo ry) hd dd.mapOf ?_
  rw [← (rel.val k).isSome_eq,← l]
  exact h _ (I.tok _)
 ·subst ey
  cases (show u=bM b from ry)
  obtain ⟨z,hd,xs,rel,dd⟩:=YJ I.hok e
  refine wpAny_notIn_heap (eY hu) (qc I.hok eb) hd dd ?_
  have q:=(rel.val k).isSome_eq
  rw [ma] at q
  rw [← q,← l]
  exact h _ (I.tok _)
theorem W4 {h':Heap} {t':Nat} {ob:HO} (I:Inv X pins σ H s) (mu:Mut (H a)) (hs:cZ a s.heap h') (he:∃ q,h'.get? a=some q) (new:ObjOk X.prog X.w (upd H a ob) h' a ob) :
  Inv X pins σ (upd H a ob) { s with heap:=h',toks:=t' } :=
 I.write (x:=a) (e:=a) mu (.inl rfl) (fun b q hb z=>(hs.2 b hb).trans z) he new
theorem zfh {P:Program} {w:World} {H':Hp} {h':Heap} {kvs:List (Key × V)} {vs:List (Key × Value)} (z:kvs.length≤sizeLine) (hd:(a == sysModules)=false) (rel:KV kvs vs) (dd:h'.DictOf (yA P w) a vs) :
  ObjOk P w H' h' a (.dK kvs):=⟨z,hd,vs,rel,dd⟩
theorem zaw {H':Hp} {Q:Unit→Shared→Prop} (hu:A.units + 1 < cLine) (I:Inv X pins σ H s) (g:DPut H a y v H') (ry:RelV y u) (rv:RelV v r) (h:∀ s',Inv X pins σ H' s'→Q () s') :
  wpAny (model X.prog X.w) A (setItem (.ref a) u r) Q E s:=by
 rcases g with ⟨kvs,k,e,ey,l,eH⟩ | ⟨kvs,k,b,e,ey,eb,l,eH⟩
 ·subst ey eH
  obtain ⟨z,hd,vs,rel,dd⟩:=zga I.hok e
  have hz:vs.length≤sizeLine:=by rw [← rel.length];exact z
  have hl:(yD kvs k v).length≤sizeLine:=by have:=wj kvs k v;lia
  refine wpAny_setItem_pairs (hsz:=hz) (Wo ry) dd fun h' dd' hs=>h _ ?_
  have he:∃ q,h'.get? a=some q:=let ⟨q,_,_,hq,_⟩:=dd';⟨q,hq⟩
  exact W4 I (by rw [e];exact fm) hs he (zfh hl hd (rel.put k rv) dd')
 ·subst ey eH
  cases (show u=bM b from ry)
  obtain ⟨z,hd,xs,rel,dd⟩:=zeP I.hok e
  have hz:xs.length≤sizeLine:=by rw [← bH rel];exact z
  have hl:(yD kvs k v).length≤sizeLine:=by have:=wj kvs k v;lia
  refine wpAny_setItem_heap (hsz:=hz) (eY hu) (qc I.hok eb) dd fun h' dd' hs=>h _ ?_
  obtain ⟨q,es,ep,hq,h2,h3,h4,_,h5⟩:=dd'
  refine W4 I (by rw [e];exact fm) hs ⟨q,hq⟩ ⟨hl,hd,_,(rel.put k eb rv).keeps fun c ys ec=>?_,q,es,ep,hq,h2,h3,h4,h5⟩
  rw [zk (yE ec e (fun z=>nomatch z))]
  exact ec
end
def zgb (i:Expr):Prop:=∀ ov iv,subscripted i false ov iv=operate [ov,iv] (getItem ov iv)
theorem zdA {prog:Program} {w:World} {A:Around} {E:Value→Shared→Prop} {s:Shared} {env:Env} {value slice:Expr} {pos:Pos} {T id:String} {Q:Value→Shared→Prop}
  (hl:typeLookup (.type T) "__getitem__"=pure (some (.builtin id))) (hs:zgb slice)
  (h:wpAny (model prog w) A (eval value env) (fun o s₁=>wpAny (model prog w) A (eval slice env) (fun i s₂=>s₂.TypeIs o T∧wpAny (model prog w) A (getItem o i) Q E s₂) E s₁) E s) :
  wpAny (model prog w) A (eval (.Subscript value slice pos) env) Q E s:=by
 refine nP (dA h (fun o s₁ h₁=>dA h₁ (fun i s₂ h₂=>?_) fun _ _ x=>x) fun _ _ x=>x)
 obtain ⟨hT,h₂⟩:=h₂
 unfold subscriptTail
 refine bb ?_
 rw [getitemInPython_of_ne hT.not_modules]
 refine bb (nv hT hl ?_)
 have fin:wpAny (model prog w) A (subscripted slice false o i) (fun r s₃=>wpAny (model prog w) A (letTemporaryGo value o r >>= fun _=>pure r) Q E s₃) E s₂:=by
  rw [hs o i]
  exact wpAny_operating (dA h₂ (fun r s₃ h₃=>bb (wpAny_letTemporaryGo (bo h₃))) fun _ _ x=>x)
 first
  | exact bo (bb fin)
  | exact bb (bo (bb fin))
  | exact bb fin
theorem V1 {X:Cx} {pins:List (Addr × Obj)} {σ:St} {H:Hp} {s:Shared} {a:Addr} {y:V} {o:Option V} (I:Inv X pins σ H s) (g:DGet H a y o):s.TypeIs (.ref a) "dict":=by
 rcases g with ⟨kvs,k,e,_,_⟩ | ⟨kvs,k,b,e,_,_,_⟩
 ·obtain ⟨_,_,vs,_,dd⟩:=YI I.hok e
  exact dd.typeIs
 ·obtain ⟨_,_,xs,_,dd⟩:=YJ I.hok e
  exact dd.typeIs
def jW (td ty:TE):TE:=fun σ H Q=>td σ H fun x H1=>ty σ H1 fun y H2=>∃ a v,x=.ref a∧DGet H2 a y (some v)∧Q v H2
def vt (td ty tv:TE):TS:=fun D σ H=>tv σ H fun v H1=>td σ H1 fun x H2=>ty σ H2 fun y H3=>∃ a H4,x=.ref a∧DPut H3 a y v H4∧D.nx σ H4
section
variable {X:Cx} {o i e value:Expr} {pos pos' tpos:Pos} {td ty tv:TE}
theorem kG (hu:X.A.units + 1 < cLine) (ho:PE X o td) (hi:PE X i ty) (hs:zgb i):PE X (.Subscript o i pos) (jW td ty):=by
 intro pins s σ H Q I h
 refine zdA PySem.F.slot_dict_getitem.lookup hs (thn (ho pins s σ H _ I h) fun u s1 ⟨x,H1,I1,rx,q1⟩=>thn (hi pins s1 σ H1 _ I1 q1) fun iv s2 ⟨y,H2,I2,ry,a,v,ex,g,q2⟩=>?_)
 subst ex
 obtain rfl:u=bM a:=rx
 exact ⟨V1 I2 g,zav hu I2 g ry fun w' s3 I3 rw'=>⟨v,H2,I3,rw',q2⟩⟩
theorem vx (hu:X.A.units + 1 < cLine) (ho:PE X o td) (hi:PE X i ty) (hv:PE X value tv) (hs:swapsWith value (some (.Subscript o i pos')) pos.line X.env=pure false) :
  PS X (.Assign [.Subscript o i pos'] value pos) (vt td ty tv):=by
 intro pins s σ H D I h
 refine wpAny_Assign_Subscript (thn (hv pins s σ H _ I h) fun r s1 ⟨v,H1,I1,rv,q1⟩=>thn (ho pins s1 σ H1 _ I1 q1) fun u s2 ⟨x,H2,I2,rx,q2⟩=>thn (hi pins s2 σ H2 _ I2 q2) fun iv s3 ⟨y,H3,I3,ry,a,H4,ex,g,q3⟩=>?_) hs
 subst ex
 obtain rfl:u=bM a:=rx
 exact zaw hu I3 g ry rv fun s4 I4=>⟨σ,H4,I4,q3⟩
end
theorem zbl {P:Program} {w:World} {H:Hp} (h:Heap) (hb:sysModules < h.objs.size):ObjOk P w H (h.push { cls:=.type "dict",data:=.dict #[] }) h.objs.size (.dK []) :=
 ⟨bY _,beq_eq_false_iff_ne.mpr (cP (bZ hb)),[],.nil,Heap.DictOf.new h⟩
theorem V2 {P:Program} {w:World} {H:Hp} (h:Heap) (hb:sysModules < h.objs.size):ObjOk P w H (h.push { cls:=.type "dict",data:=.dict #[] }) h.objs.size (.dT []) :=
 ⟨bY _,beq_eq_false_iff_ne.mpr (cP (bZ hb)),[],.nil,_,#[],0,bz _ rfl,⟨rfl,rfl,rfl⟩,rfl,rfl,ig⟩
def Zp:TE:=fun _ H Q=>∀ p,H p=none→Q (.ref p) (upd H p (.dK []))
def YK:TE:=fun _ H Q=>∀ p,H p=none→Q (.ref p) (upd H p (.dT []))
section
variable {X:Cx} {pos:Pos}
theorem YL:PE X (.Dict [] [] pos) Zp:=fun pins s σ H Q I h =>
 wpAny_Dict_empty ⟨.ref s.heap.objs.size,_,I.laid (a:=s.heap.objs.size) (o:=.dK []) (t':=s.toks) (fun _ _ q=>bh _ q) (bj _) (zbl s.heap I.big),rfl,h _ (I.hok.fresh (bj _))⟩
theorem YM:PE X (.Dict [] [] pos) YK:=fun pins s σ H Q I h =>
 wpAny_Dict_empty ⟨.ref s.heap.objs.size,_,I.laid (a:=s.heap.objs.size) (o:=.dT []) (t':=s.toks) (fun _ _ q=>bh _ q) (bj _) (V2 s.heap I.big),rfl,h _ (I.hok.fresh (bj _))⟩
end
def zfi:List (TE × TE)→St→Hp→(List (V × V)→Hp→Prop)→Prop
 | [],_,H,Q=>Q [] H
 | (tk,tv) :: r,σ,H,Q=>tk σ H fun x H1=>tv σ H1 fun y H2=>zfi r σ H2 fun ps H3=>Q ((x,y) :: ps) H3
structure M2 (X:Cx) (o:Expr) (m:Str) (apos:Pos) (e f:Expr) (cpos:Pos):Prop where
 base:attributeBase o m X.env (eval o X.env)=eval o X.env
 few:((backTo cpos (starEach [e,f] X.env)).all (fun x=>!x.1) && (backToKw cpos (keywordEach [] X.env)).all (fun x=>x.1.isSome)
  && decide (([e,f]:List Expr).length + ([]:List Keyword).length + (if ([]:List Keyword).isEmpty then 0 else 1) < 30))=true
 line:(apos.endLine == cpos.line)=true
 trees:backTo cpos (starEach [e,f] X.env)=[(false,eval e X.env),(false,eval f X.env)]
def IsD (H:Hp) (a:Addr):Prop:=(∃ kvs,Rd H a (.dK kvs))∨∃ kvs,Rd H a (.dT kvs)
theorem Kw {X:Cx} {pins:List (Addr × Obj)} {σ:St} {H:Hp} {s:Shared} {a:Addr} (I:Inv X pins σ H s) (d:IsD H a) :
  s.TypeIs (.ref a) "dict"∧(∀ b,bM a=.ref b→∃ ob,s.heap.get? b=some ob∧ob.dict=none)∧(a == sysModules)=false:=by
 rcases d with ⟨kvs,e⟩ | ⟨kvs,e⟩
 ·obtain ⟨_,hd,vs,_,dd⟩:=YI I.hok e
  refine ⟨dd.typeIs,fun b q=>?_,hd⟩
  cases q
  obtain ⟨ob,_,_,h1,h2,_⟩:=dd
  exact ⟨ob,h1,h2.2.1⟩
 ·obtain ⟨_,hd,xs,_,dd⟩:=YJ I.hok e
  refine ⟨dd.typeIs,fun b q=>?_,hd⟩
  cases q
  obtain ⟨ob,_,_,h1,h2,_⟩:=dd
  exact ⟨ob,h1,h2.2.1⟩
section
variable {X:Cx} {pins:List (Addr × Obj)} {σ:St} {H:Hp} {s:Shared} {a:Addr} {y d:V} {u r:Value} {o:Option V} {A:Around} {E:Value→Shared→Prop}
theorem zfj {Q:Value→Shared→Prop} (hu:A.units + 1 < cLine) (I:Inv X pins σ H s) (g:DGet H a y o) (ry:RelV y u) (rd:RelV d r) (h:∀ w' s',Inv X pins σ H s'→RelV (o.getD d) w'→Q w' s') :
  wpAny (model X.prog X.w) A (call (.builtin "dict.get") [.ref a,u,r]) Q E s:=by
 rcases g with ⟨kvs,k,e,ey,l⟩ | ⟨kvs,k,b,e,ey,eb,l⟩
 ·subst ey
  obtain ⟨z,hd,vs,rel,dd⟩:=YI I.hok e
  refine o9 ip dd.typeIs mZ (mC _ _ _) (meets_dict_get_default (yA X.prog X.w) a (Wo ry) hd r) ⟨_,dd.mapOf,h _ _ (I.tok _) ?_⟩
  rw [l]
  exact (rel.val k).getD rd
 ·subst ey
  cases (show u=bM b from ry)
  obtain ⟨z,hd,xs,rel,dd⟩:=YJ I.hok e
  refine o9 ip dd.typeIs mZ (mC _ _ _) (meetsH_dict_get_default (tupleKind (yA X.prog X.w)) a b hd r) ⟨eY hu,k,xs,qc I.hok eb,dd,h _ _ (I.tok _) ?_⟩
  rw [l]
  exact (rel.val k).getD rd
end
def qd (td ty tx:TE):TE:=fun σ H Q=>td σ H fun x H1=>∃ a,x=.ref a∧IsD H1 a∧ty σ H1 fun y H2=>tx σ H2 fun z H3=>∃ o,DGet H3 a y o∧Q (o.getD z) H3
section
variable {X:Cx} {o e f:Expr} {apos cpos:Pos} {td ty tx:TE}
theorem V3 (hu:X.A.units + 1 < cLine) (ho:PE X o td) (he:PE X e ty) (hf:PE X f tx) (m:M2 X o "get" apos e f cpos):PE X (.Call (.Attribute o "get" apos) [e,f] [] cpos) (qd td ty tx):=by
 intro pins s σ H Q I h
 refine wpAny_Call_method m.base m.few m.line gR ip PySem.F.type_dict_get (thn (ho pins s σ H _ I h) fun u s1 ⟨x,H1,I1,rx,a,ex,d,q1⟩=>?_)
 subst ex
 obtain rfl:u=bM a:=rx
 obtain ⟨t1,t2,_⟩:=Kw I1 d
 refine ⟨t1,t2,?_⟩
 rw [m.trees]
 refine eU rfl (iJ (eh (thn (he pins s1 σ H1 _ I1 q1) fun iv s2 ⟨y,H2,I2,ry,q2⟩ =>
  eh (thn (hf pins s2 σ H2 _ I2 q2) fun fv s3 ⟨z,H3,I3,rz,ov,g,q3⟩=>gp ?_))))
 exact zfj hu I3 g ry rz fun w' s4 I4 rw'=>⟨_,H3,I4,rw',q3⟩
end
end L2
namespace Att
open PySem PySem.W PySem.Calls PyProof.Rows
theorem Z9 {P:Params} {h:Heap}:∀ (ns:List Int) (vs:List Value),WellAll P h vs (ns.map WData.int)→IntsAre vs ns:=by
 intro ns
 induction ns with
 | nil =>
  intro vs w
  rw [List.map_nil] at w
  cases w
  exact .nil
 | cons n ns ih =>
  intro vs w
  rw [bX] at w
  cases w with
  | cons a b =>
   cases a
   exact .cons _ _ (ih _ b)
theorem Wp {l:OpenLaw} {n:Nat} (hn:l.most=some n) {P:Params} {h:Heap} {args:List WData} {vals:List Value}
  (hpre:l.row.toRowW.claim.pre args=true) (hwl:WellAll P h vals args) :
  ∃ a vs ns,vals=[bM a]∧args=[WData.list (ns.map WData.int)]∧h.get? a=some { cls:=.type "list",data:=.seq vs.toArray }∧IntsAre vs ns∧ns.length≤n:=by
 have hsh:WShape.hasAll [] args [.list .int]=true:=(pre_splitW hpre).1
 have hc:l.pre.holds [] { args:=args }=true:=(pre_splitW hpre).2
 obtain ⟨d,r,rfl,h1,h2⟩:=hasAllW_cons hsh
 obtain rfl:=hasAllW_nil h2
 obtain ⟨xs,rfl,h3⟩:=hasW_list h1
 obtain ⟨ns,rfl⟩:=items_int h3
 have hlen:ns.length≤n:=by
  unfold OpenLaw.pre at hc
  have h4:(WTm.not (.lt (.lit (.int (n:Int))) (.len (.arg 0)))).holds [] { args:=[.list (ns.map .int)] }=true:=by
   have h4:=(holds_andW hc).1
   rw [hn] at h4
   exact h4
  have h5:=condW_of h4 (w_not (w_lt w_lit (w_len_list (w_arg rfl))))
  rw [bn] at h5
  refine Nat.le_of_not_lt fun q=>?_
  have q':(n:Int) < ((ns.length:Nat):Int):=by lia
  first
   | (rw [decide_eq_true q'] at h5;exact absurd h5 (by decide))
   | (simp at h5;lia)
 cases hwl with
 | cons w1 w2 =>
  cases w2
  cases w1 with
  | list ho hall=>exact ⟨_,_,ns,rfl,rfl,ho,Z9 ns _ hall,hlen⟩
theorem Wq (l:OpenLaw) (args:List WData):l.row.toRowW.claim.post args (.bool true) args=true :=
 postW_of (r:=l.row.toRowW) (X:=(true == true))
  (show WShape.has [] (.bool true) .bool=true by first | rfl | decide | simp [WShape.has,WShape.arms,WShape.armsAll])
  (show (WTm.eq .res (.lit (.bool true))).value [] { args:=args,res:=some (.bool true),after:=args }=some (.bool (true == true)) from w_eq_bool (w_res rfl) w_lit) rfl
theorem attach_call {l:OpenLaw} {n:Nat} {q:Program} {loose:List Str} {XP:(Str→Option Value)→Heap→Prop} {YP:World→Heap→Prop} {d:DefRec}
  (hn:l.most=some n) (hdf:d.params.defaults=[])
  (call:∀ (w:World) (s₀ s₁:Shared) (mg mb:Str→Option Value) (fa:Addr) (o:Obj) (pm cd doc:Value) (a:Addr) (vs:List Value) (ns:List Int),
   Ground q loose [] XP w s₀ mg mb s₁.heap→YP w s₁.heap →
   s₁.heap.get? fa=some o→o.data=.func (docDef d.name d.params d.body d.scope pm cd doc)→s₁.heap.CodeRec cd d.name→mg d.name=some (.ref fa) →
   s₁.heap.get? a=some { cls:=.type "list",data:=.seq vs.toArray }→IntsAre vs ns→ns.length≤n→s₁.gens=#[] →
   codeAny (model l.prog w) callerA (.call (.ref fa) ⟨[.ref a],[]⟩) (fun r s'=>r=.ok (.ret (.bool true))∧OldK s₁.heap s'.heap∧s'.os=s₁.os∧AllBare s'.gens) s₁) :
  WalkO q loose XP YP l.row.toRowW d [] (fun f vs=>md f vs):=by
 intro w s₀ s₁ mg mb G Y fa o pm cd doc dV kV ho hd hcd hD hmg hg args vals as hpre hlay hrd hwl hlo
 obtain rfl:dV=.none:=Dflts.none hD hdf
 obtain rfl:kV=.none:=Dflts.noKw hD
 obtain ⟨a,vs,ns,rfl,rfl,hobj,hints,hlen⟩:=Wp hn hpre hwl
 refine enter_call (fY (call w s₀ s₁ mg mb fa o pm cd doc a vs ns G Y ho (fd_plain hd) hcd hmg hobj hints hlen hg) fun r s' hq=>?_)
 obtain ⟨rfl,h2,h3,h4⟩:=hq
 exact ⟨.inl ⟨.bool true,.bool true,[],rfl,fun _=>rfl,.bool true,Wq l _,fun _=>⟨mf,fun _ hm=>(nomatch hm)⟩⟩,h2,h3,h4⟩
section
variable {prog:Program} {w:World} {A:Around} {E:Value→Shared→Prop} {s:Shared} {K:Frag}
def zgI (h:Heap) (L d:Addr):List (Addr × Obj):=(bN h.objs.size).filterMap fun a=>if a=L∨a=d then none else (h.get? a).map fun o=>(a,o)
end
end Att
namespace L2
open PySem PySem.Spec PyProof.Rows
theorem Wr:∀ {vs:List Value} {ns:List Int},IntsAre vs ns→Vals (ns.map V.int) vs
 | _,_,.nil=>.nil
 | _,_,.cons n t h=>.cons ⟨t,rfl⟩ (Wr h)
def Kx (H:Hp):Prop:=∀ b,H b=none∨∃ o xs,H b=some (.frz o (.lst xs))
theorem V4 {P:Program} {w:World} {K:bD} {mg mb:Str→Option Value} {CX:CXT} {k:Nat} {fa a:Addr} {fd:FuncData} {x:Str} {sp:Sp} {s₁:Shared} {vs:List Value} {ns:List Int}
  (KX:K.In s₁.heap) (hns:s₁.heap.Ns mainGlobals mg) (hb:s₁.heap.Ns builtinsNs mb) (hbb:∀ x:Str,x≠"__name__"→mb x=bootBuiltins x) (hlim:s₁.heap.NoLimit) (hg:s₁.gens=#[])
  (ha:s₁.heap.get? a=some { cls:=.type "list",data:=.seq vs.toArray }) (hi:IntsAre vs ns) (hl:ns.length≤sizeLine) (hr:Room k callerA)
  (F:∀ base:Heap,K.In base→base.Ns mainGlobals mg→FnOk P w K mg base CX k fa fd [x] sp) (hbind:∀ (s:Shared) (u:Value),BindsTo s fd ⟨[u],[]⟩ [(x,u)])
  (hsp:∀ H:Hp,Kx H→SqL K H a (ns.map V.int)→sp [.ref a] H (fun v _=>v=.bl true) fun _ _ _=>False)
  (hCX:∀ H e s',CX [] H s₁ (fun _ _ _=>False) e s'→False) :
  codeAny (model P w) callerA (.call (.ref fa) ⟨[.ref a],[]⟩) (fun r s'=>r=.ok (.ret (.bool true))∧OldK s₁.heap s'.heap∧s'.os=s₁.os∧AllBare s'.gens) s₁:=by
 have rv:=Wr hi
 have lenV:=hi.length
 -- from an abstract heap in which nothing but the script may be tracked
 have core:∀ H:Hp,Kx H→SqL K H a (ns.map V.int)→HOk P w H s₁.heap→(∀ b,H b≠none→b=a)→(H a≠none→K.lookup a=none) →
   codeAny (model P w) callerA (.call (.ref fa) ⟨[.ref a],[]⟩) (fun r s'=>r=.ok (.ret (.bool true))∧OldK s₁.heap s'.heap∧s'.os=s₁.os∧AllBare s'.gens) s₁:=by
  intro H hO hS hok hA hK
  have base_of:∀ {b:Addr} {o:Obj},s₁.heap.get? b=some o→H b=none→(WT s₁.heap H).get? b=some o:=fun e n=>za4 e n
  have noA:∀ {b:Addr} {o:Obj} {es:Array DictEntry} {ep:Nat},s₁.heap.get? b=some o→o.data=.dict es ep→H b=none:=fun {b o es ep} e d=>by
   cases q:H b with
   | none=>rfl
   | some u =>
    have e':b=a:=hA b (by rw [q];simp)
    subst e'
    rw [ha] at e;cases e
    have d':Data.seq vs.toArray _=Data.dict es ep:=d
    cases d'
  have nsK:∀ {b:Addr} {m:Str→Option Value},s₁.heap.Ns b m→(WT s₁.heap H).Ns b m:=fun {b m} ⟨o,es,ep,e,d,r⟩=>⟨o,es,ep,base_of e (noA e d),d,r⟩
  have hKb:K.In (WT s₁.heap H):=fun b o e=>base_of (KX b o e) (by
   cases q:H b with
   | none=>rfl
   | some u =>
    have e':b=a:=hA b (by rw [q];simp)
    subst e'
    rw [hK (by rw [q];simp)] at e;cases e)
  have hM:Mod K mg (WT s₁.heap H):=⟨hKb,nsK hns,⟨mb,nsK hb,hbb⟩,let ⟨mc,h1,h2⟩:=hlim;⟨mc,nsK h1,h2⟩⟩
  have e0:Env0 P w K mg (WT s₁.heap H) callerA [] s₁ H:=⟨rfl,hM,fun b o e=>zdl e,nj (zak _ _),trivial,fun b hb=>absurd (show b∈([]:List Addr) from hb) (by simp),hok,.of_eq hg⟩
  refine fY ((F _ hKb (nsK hns)).run callerA [] s₁ H ⟨[.ref a],[]⟩ [.ref a] [.ref a] _ _ hr e0 (hbind s₁ (.ref a)) (.cons rfl .nil) (hsp H hO hS)) fun r s' h=>?_
  cases r with
  | error e=>exact (hCX H e s' h).elim
  | ok fl =>
   cases fl with
   | next=>exact dv h
   | brk=>exact dv h
   | cont=>exact dv h
   | ret u =>
    obtain ⟨v,H',os,bare,un,hok',r',q⟩:=h
    have q':v=.bl true:=q
    subst q'
    obtain rfl:u=gZ true:=r'
    refine ⟨rfl,OldK.of_keep fun b o e=>?_,os,bare⟩
    cases q:H b with
    | none=>exact un.keep b o e q (by intro z;exact absurd (show b∈([]:List Addr) from z) (by simp)) (by simp)
    | some u =>
     rcases hO b with z | ⟨ob,xs,z⟩
     ·rw [q] at z;cases z
     ·have z2:=un.frzs b ob _ z
      obtain ⟨e1,_⟩:=hok b _ z
      obtain ⟨e2,_⟩:=hok' b _ z2
      rw [e] at e1;cases e1
      exact e2
 cases hk:K.lookup a with
 | some o =>
  -- the script is one of the module's own objects
  have e:=KX a o hk
  rw [ha] at e
  cases e
  refine core (fun _=>none) (fun _=>.inl rfl) (.inr ⟨_,vs.toArray,_,hk,rfl,rfl,rfl,by rw [bG,lenV];exact hl,by simpa using rv⟩) (fun b u z=>by have z':(none:Option HO)=some u:=z;cases z') (fun b z=>absurd rfl z) fun z=>absurd rfl z
 | none =>
  refine core (fun b=>if b=a then some (.frz { cls:=.type "list",data:=.seq vs.toArray } (.lst (ns.map V.int))) else none) (fun b=>?_) (.inl (.inr ⟨{ cls:=.type "list",data:=.seq vs.toArray },if_pos rfl⟩)) (fun b u z=>?_) (fun b z=>?_) fun _=>hk
  ·by_cases hb:b=a
   ·exact .inr ⟨_,_,if_pos hb⟩
   ·exact .inl (if_neg hb)
  ·by_cases hb:b=a
   ·have z':=(if_pos hb).symm.trans z
    cases z'
    subst hb
    exact ⟨ha,by rw [bn];exact hl,vs,_,rv,ha⟩
   ·have z':=(if_neg hb).symm.trans z
    cases z'
  ·by_cases hb:b=a
   ·exact hb
   ·exact absurd (if_neg hb) z
abbrev KOf {K:bD} {h:Heap} (_:K.In h):bD:=K
theorem Qw {l:oE} {n k:Nat} {q:Program} {loose:List Str} {XP:(Str→Option Value)→Heap→Prop} {YP:World→Heap→Prop} {d:DefRec} {K:Params→bD} {CX:World→CXT} {sp:World→Sp} {x:Str}
  (hn:l.most=some n) (hn2:n≤sizeLine) (hdf:d.params.defaults=[]) (hr:Room k callerA)
  (hY:∀ (w:World) (h:Heap),YP w h→(K w.params).In h)
  (F:∀ (w:World) (mg:Str→Option Value) (fa:Addr) (h:Heap),(K w.params).In h→h.Ns mainGlobals mg→mg d.name=some (.ref fa) →
   ∃ fd:FuncData,(∀ (s:Shared) (u:Value),BindsTo s fd ⟨[u],[]⟩ [(x,u)]) ∧
    ∀ base:Heap,(K w.params).In base→base.Ns mainGlobals mg→FnOk l.prog w (K w.params) mg base (CX w) k fa fd [x] (sp w))
  (hsp:∀ (w:World) (H:Hp) (a:Addr) (ns:List Int),ns.length≤n→Kx H→SqL (K w.params) H a (ns.map V.int)→sp w [.ref a] H (fun v _=>v=.bl true) fun _ _ _=>False)
  (hCX:∀ (w:World) (H:Hp) (s:Shared) (e:Value) (s':Shared),CX w [] H s (fun _ _ _=>False) e s'→False) :
  pZ q loose XP YP l.row.toRowW d [] (fun f vs=>md f vs):=by
 refine Att.attach_call hn hdf fun w s₀ s₁ mg mb fa o pm cd doc a vs ns G Y ho hd hcd hmg hobj hints hlen hg=>?_
 have KX:=hY w _ Y
 obtain ⟨fd,hb,hF⟩:=F w mg fa _ KX G.T.g hmg
 exact V4 KX G.T.g G.T.b G.T.builtins G.T.nolimit hg hobj hints (bU hlen hn2) hr hF hb (fun H hO hS=>hsp w H a ns hlen hO hS) fun H e s'=>hCX w H s₁ e s'
theorem zgc {l:oE} {n k:Nat} {q:Program} {loose:List Str} {XP:(Str→Option Value)→Heap→Prop} {YP:World→Heap→Prop} {d:DefRec} {K:Params→bD} {CX:CXT} {sp:bD→Sp} {x:Str}
  (hn:l.most=some n) (hn2:n≤sizeLine) (hdf:d.params.defaults=[]) (hr:Room k callerA)
  (hY:∀ (w:World) (h:Heap),YP w h→(K w.params).In h)
  (F:∀ (w:World) (mg:Str→Option Value) (fa:Addr) (h:Heap),(K w.params).In h→h.Ns mainGlobals mg→mg d.name=some (.ref fa) →
   ∃ fd:FuncData,(∀ (s:Shared) (u:Value),BindsTo s fd ⟨[u],[]⟩ [(x,u)]) ∧
    ∀ base:Heap,(K w.params).In base→base.Ns mainGlobals mg→FnOk l.prog w (K w.params) mg base CX k fa fd [x] (sp (K w.params)))
  (hsp:∀ (K:bD) (H:Hp) (a:Addr) (ns:List Int),ns.length≤n→Kx H→SqL K H a (ns.map V.int)→sp K [.ref a] H (fun v _=>v=.bl true) fun _ _ _=>False)
  (hCX:∀ (H:Hp) (s:Shared) (e:Value) (s':Shared),CX [] H s (fun _ _ _=>False) e s'→False) :
  pZ q loose XP YP l.row.toRowW d [] (fun f vs=>md f vs) :=
 Qw (K:=K) (CX:=fun _=>CX) (sp:=fun w=>sp (K w.params)) hn hn2 hdf hr hY F (fun w H a ns h1 h2 h3=>hsp (K w.params) H a ns h1 h2 h3) fun _ H s e s'=>hCX H s e s'
def xW (s:Stmt) (j:Nat):Stmt:=match s with
 | .ClassDef _ _ _ body _ _ _ _ _ _ _=>body.getD j (.Pass ⟨0,0,0,0⟩)
 | _=>.Pass ⟨0,0,0,0⟩
def y8 (s:Stmt):Arguments:=match s with
 | .FunctionDef _ a _ _ _ _ _ _ _ _=>a
 | _=>{ posonlyargs:=[],args:=[],vararg:=none,kwonlyargs:=[],kw_defaults:=[],kwarg:=none,defaults:=[] }
def yB (s:Stmt):List Stmt:=match s with
 | .FunctionDef _ _ b _ _ _ _ _ _ _=>b
 | _=>[]
def zj (s:Stmt):Scope:=match s with
 | .FunctionDef _ _ _ _ _ _ sc _ _ _=>sc
 | _=>{ kind:=.function,names:=[],isGenerator:=false,isCoroutine:=false }
abbrev E0:XK:=fun _ _ _=>False
structure Fun (K:bD) (x qual:Str) (st:Stmt) (f:Addr) (fd:FuncData):Prop where
 ex:∃ (oc:Value) (od:Option Addr) (kV doc pm:Value) (an:Option Addr) (cdv ct:Value) (osl:Array (Option Value)),
  fd=lK x qual (y8 st) (yB st) (zj st) .none kV doc pm an cdv ct∧K.lookup f=some ⟨oc,od,.func fd,osl⟩∧lL K cdv qual=true
 kp:gG K (.ref f)=true
section
variable {P:Program} {w:World} {K:bD} {mg:Str→Option Value} {base:Heap}
theorem Fun.binds {x qual:Str} {st:Stmt} {f:Addr} {fd:FuncData} {ps:List Str} (F:Fun K x qual st f fd)
  (h:∀ (kV doc pm:Value) (an:Option Addr) (cdv ct:Value) (us:List Value),us.length=ps.length→bindArgs (lK x qual (y8 st) (yB st) (zj st) .none kV doc pm an cdv ct) ⟨us,[]⟩=pure (ps.zip us)):Binds K fd ps []:=by
 obtain ⟨oc,od,kV,doc,pm,an,cdv,ct,osl,rfl,lk,hcd⟩:=F.ex
 exact .all (h kV doc pm an cdv ct)
theorem Ky {x qual:Str} {st:Stmt} {f:Addr} {oc:Value} {od an:Option Addr} {osl:Array (Option Value)} {kV doc pm cdv ct:Value} (l:K.lookup f=some ⟨oc,od,.func (lK x qual (y8 st) (yB st) (zj st) .none kV doc pm an cdv ct),osl⟩)
  (c:lL K cdv qual=true) (k:gG K (.ref f)=true):Fun K x qual st f (lK x qual (y8 st) (yB st) (zj st) .none kV doc pm an cdv ct):=⟨⟨oc,od,kV,doc,pm,an,cdv,ct,osl,rfl,l,c⟩,k⟩
end
theorem xg {A:Around} {k:Nat} (hr:Room k A):A.units + 1 < cLine:=b0 (Nat.add_le_add_left (by decide:1≤64) _) hr.units
section
variable {X:Cx}
theorem pv (i:Nat) {x:Str} {pos:Pos} (hN:X.N[i]?=some x:=by rfl) (hv:Vis X.env.scope x:=by first | exact cr rfl | exact gD (cr rfl) | exact gD (gD rfl)) (hd:(x == ("__debug__":Str))=false:=by decide)
  (hcd:(x == ("__classdict__":Str))=false:=by decide):PE X (.Name x pos) (zc i):=ze4 hN hv hd hcd
end
theorem xu {c A B:Prop} [Decidable c] (h1:c→A) (h2:¬ c→B):if c then A else B:=by
 by_cases h:c
 ·rw [if_pos h]
  exact h1 h
 ·rw [if_neg h]
  exact h2 h
def Same (H H':Hp):Prop:=∀ b o,H b=some o→H' b=some o
theorem Same.refl (H:Hp):Same H H:=fun _ _ h=>h
theorem Same.trans {H H1 H2:Hp} (a:Same H H1) (b:Same H1 H2):Same H H2:=fun c o h=>b c o (a c o h)
section
variable {κ:Type} [DecidableEq κ]
theorem zbm {kvs:List (κ × V)} {k:κ} (h:yf kvs k=none):¬ k∈kvs.map (·.1):=by
 intro m
 obtain ⟨p,hp,e⟩:=b8.mp m
 have q:(kvs.any fun kv=>decide (kv.1=k))=true:=eB.mpr ⟨p,hp,decide_eq_true e⟩
 rw [we,h] at q
 exact absurd q (by simp)
theorem Qx {kvs:List (κ × V)} {k:κ} {v:V} (h:yf kvs k=some v):k∈kvs.map (·.1):=by
 have q:(kvs.any fun kv=>decide (kv.1=k))=true:=by
  rw [we,h]
  all_goals rfl
 obtain ⟨p,hp,e⟩:=eB.mp q
 exact b8.mpr ⟨p,hp,of_decide_eq_true e⟩
theorem Qy:∀ {l:List κ} {k:κ},l.Nodup→¬ k∈l→(l ++ [k]).Nodup
 | [],k,_,_=>by simp
 | a :: r,k,h,hk=>by
  obtain ⟨h1,h2⟩:=cW.mp h
  show (a :: (r ++ [k])).Nodup
  refine cW.mpr ⟨fun m=>?_,Qy h2 fun m=>hk (bK.mpr (gD m))⟩
  rcases bP.mp m with q | q
  ·exact h1 q
  ·exact hk (bK.mpr (cr (b5.mp q).symm))
theorem zdB {kvs:List (κ × V)} {k:κ} (v:V) (hn:(kvs.map (·.1)).Nodup) (h:yf kvs k=none):((yD kvs k v).map (·.1)).Nodup:=by
 rw [jV v h,cY]
 exact Qy hn (zbm h)
theorem zax {p:κ × V} {r:List (κ × V)} {k:κ} (e:¬ p.1=k):Qv (p :: r) k=p :: Qv r k:=by
 unfold Qv
 rw [fO,if_pos (by simp [e])]
theorem zbn:∀ {kvs:List (κ × V)} {k:κ},¬ k∈kvs.map (·.1)→Qv kvs k=kvs
 | [],_,_=>rfl
 | p :: r,k,h=>by
  have h':¬ k∈r.map (·.1):=fun m=>by
   obtain ⟨q,hq,e⟩:=b8.mp m
   exact h (b8.mpr ⟨q,bK.mpr (gD hq),e⟩)
  rw [zax fun e=>h (b8.mpr ⟨p,bK.mpr (cr rfl),e⟩),zbn h']
end
end L2
set_option Elab.async false
set_option linter.all false
set_option maxRecDepth 100000
set_option maxHeartbeats 4000000
namespace L2
open PySem PySem.Spec PyProof.Rows
def Cx.comp (X:Cx) (scope:Scope) (cl:List (Str × Addr)) (C:Addr) (N:List Str) (fp:List Addr) (s:Shared) (H:Hp):Cx :=
 { X with env:=compEnvC scope cl C X.env,N:=N,s₀:=s,H₀:=H,outer:=X.stack,ex:=fp,fn:=fun _=>false,pn:=[],xe:=fun _ _=>False }
structure kH (X:Cx) (scope:Scope) (cl:List (Str × Addr)) (ix:List Nat):Prop where
 clos:closureFor scope X.env=pure cl
 nocell:∀ y∈scope.names,y.2≠.cell
 kind:scope.kind=.function
 names:∀ y∈scope.names,y.2=.local→scope.names.lookup y.1=some .local
 sub:∀ y c,cl.lookup y=some c→X.env.cells.lookup y=some c
 has:∀ y,((relabel scope X.env).names.lookup y=some .cell∨(relabel scope X.env).names.lookup y=some .free)→∃ c,cl.lookup y=some c
 cap:∀ i∈ix,∃ y,X.N[i]?=some y∧(X.env.kindOf y=some .cell∨X.env.kindOf y=some .free)∧((relabel scope X.env).names.lookup y=some .cell∨(relabel scope X.env).names.lookup y=some .free)
def jX (scope:Scope) (env:Env):List (Str × Addr):=scope.names.foldl (fun cs y=>if y.2 == .free then (y.1,(env.cells.lookup y.1).getD 0) :: cs else cs) []
def Qz (osc:Scope) (N:List Str) (sc:Scope) (ix:List Nat):Bool :=
 sc.kind == .function && sc.names.all (fun y=>y.2 != .cell && (y.2 != .local || sc.names.lookup y.1 == some .local) && (y.2 != .free || osc.names.lookup y.1 == some .cell || osc.names.lookup y.1 == some .free)) &&
  ix.all fun i=>match N[i]? with
   | some y=>sc.names.lookup y == some .free
   | none=>false
theorem wk {l:List (Str × NameKind)} {y:Str} {k:NameKind} (h:l.lookup y=some k):(y,k)∈l:=eO h
theorem ji {env:Env}:∀ {names:List (Str × NameKind)} {x:Str} {k:NameKind},(names.map fun (n,k)=>if (k == dt && env.scope.kind == .function && env.kindOf n == some .cell) then (n,mD) else (n,k)).lookup x=some k →
  ∃ k',names.lookup x=some k'∧(k'=.free∨k'=k)
 | [],_,_,h=>by simp at h
 | (n,k') :: r,x,k,h=>by
  have ih:=@ji env r x k
  rw [bX] at h
  cases hx:x == n with
  | true =>
   by_cases hc:(k' == dt && env.scope.kind == .function && env.kindOf n == some .cell)=true
   ·have e:k'=.free:=by
     have:=(bV _ _ ▸ (bV _ _ ▸ hc).1).1
     simpa using this
    exact ⟨k',by simp [cS,hx],.inl e⟩
   ·simp only [if_neg hc,cS,hx] at h
    exact ⟨k',by simp [cS,hx],.inr (bS h)⟩
  | false =>
   have h':(r.map fun (n,k)=>if (k == dt && env.scope.kind == .function && env.kindOf n == some .cell) then (n,mD) else (n,k)).lookup x=some k:=by
    by_cases hc:(k' == dt && env.scope.kind == .function && env.kindOf n == some .cell)=true
    ·simp only [if_pos hc,cS,hx] at h;exact h
    ·simp only [if_neg hc,cS,hx] at h;exact h
   obtain ⟨q,e,r'⟩:=ih h'
   exact ⟨q,by simp only [cS,hx];exact e,r'⟩
theorem qM {env:Env}:∀ {names:List (Str × NameKind)} {x:Str},names.lookup x=some .free →
  ((names.map fun (n,k)=>if (k == dt && env.scope.kind == .function && env.kindOf n == some .cell) then (n,mD) else (n,k)).lookup x=some .cell ∨
   (names.map fun (n,k)=>if (k == dt && env.scope.kind == .function && env.kindOf n == some .cell) then (n,mD) else (n,k)).lookup x=some .free)
 | [],_,h=>by simp at h
 | (n,k') :: r,x,h=>by
  have ih:=@qM env r x
  rw [bX]
  cases hx:x == n with
  | true =>
   simp only [cS,hx] at h
   cases h
   by_cases hc:(dt == dt && env.scope.kind == .function && env.kindOf n == some .cell)=true
   ·left;simp only [if_pos hc,cS,hx]
   ·right;simp only [if_neg hc,cS,hx]
  | false =>
   simp only [cS,hx] at h
   by_cases hc:(k' == dt && env.scope.kind == .function && env.kindOf n == some .cell)=true
   ·simp only [if_pos hc,cS,hx];exact ih h
   ·simp only [if_neg hc,cS,hx];exact ih h
theorem Ws {env:Env}:∀ (l:List (Str × NameKind)) (cs:List (Str × Addr)),(∀ y∈l,y.2=.free→∃ c,env.cells.lookup y.1=some c) →
  (∀ y c,cs.lookup y=some c→env.cells.lookup y=some c)→∀ y c,(l.foldl (fun cs y=>if y.2 == .free then (y.1,(env.cells.lookup y.1).getD 0) :: cs else cs) cs).lookup y=some c→env.cells.lookup y=some c
 | [],_,_,h,y,c,e=>h y c e
 | z :: r,cs,hl,h,y,c,e=>by
  rw [fu] at e
  refine Ws r _ (fun y hy=>hl y (bx _ hy)) (fun y' c' e'=>?_) y c e
  by_cases hz:z.2=.free
  ·obtain ⟨c0,h0⟩:=hl z br hz
   have hb:(z.2 == dt)=true:=by simpa using hz
   rw [if_pos hb,h0,cS] at e'
   cases hq:y' == z.1 with
   | true =>
    rw [hq] at e'
    have e2:y'=z.1:=by simpa using hq
    cases e'
    rw [e2];exact h0
   | false=>rw [hq] at e';exact h _ _ e'
  ·have hb:(z.2 == dt)=false:=by simpa using hz
   rw [hb] at e'
   exact h _ _ e'
theorem V5 {env:Env}:∀ (l:List (Str × NameKind)) (cs:List (Str × Addr)) (y:Str),((∃ c,cs.lookup y=some c)∨(y,dt)∈l) →
  ∃ c,(l.foldl (fun cs y=>if y.2 == .free then (y.1,(env.cells.lookup y.1).getD 0) :: cs else cs) cs).lookup y=some c
 | [],_,_,h=>h.elim id fun z=>nomatch z
 | z :: r,cs,y,h=>by
  rw [fu]
  refine V5 r _ y ?_
  rcases h with ⟨c,h⟩ | h
  ·left
   by_cases hz:(z.2 == dt)=true
   ·rw [if_pos hz,cS]
    cases y == z.1 with
    | true=>exact ⟨_,rfl⟩
    | false=>exact ⟨c,h⟩
   ·rw [if_neg hz];exact ⟨c,h⟩
  ·rcases bK.mp h with h | h
   ·left
    subst h
    rw [if_pos (by rfl),cS]
    simp
   ·exact .inr h
theorem W5 {env:Env}:∀ (l:List (Str × NameKind)) (cs:List (Str × Addr)),(∀ y∈l,y.2=.free→∃ c,env.cells.lookup y.1=some c) →
  forIn (m:=Sem) l cs (fun x r=>match x with | (name,kind)=>if (kind == dt)=true then do let c ← cellOf env name;pure (gc ((name,c) :: r)) else pure (gc r)) =
   pure (l.foldl (fun cs y=>if y.2 == .free then (y.1,(env.cells.lookup y.1).getD 0) :: cs else cs) cs)
 | [],_,_=>rfl
 | (n,k) :: r,cs,h=>by
  rw [List.forIn_cons,fu]
  by_cases hz:(k == dt)=true
  ·obtain ⟨c,hc⟩:=h (n,k) br (by simpa using hz)
   have e:cellOf env n=pure c:=by unfold cellOf;rw [hc]
   simp only [hz,if_true,e,pure_bind]
   rw [W5 r _ fun y hy=>h y (bx _ hy)]
   simp only [hc,Option.getD_some]
  ·simp only [hz,if_false,pure_bind]
   exact W5 r _ fun y hy=>h y (bx _ hy)
theorem qN {X:Cx} {osc scope:Scope} {N:List Str} {ix:List Nat} (ok:X.Ok) (h:Qz osc N scope ix=true) (hs:X.env.scope=osc) (hN:X.N=N):kH X scope (jX scope X.env) ix:=by
 subst hs hN
 unfold Qz at h
 rw [bV,bV,dz,dz] at h
 obtain ⟨⟨h1,h2⟩,h3⟩:=h
 have p:∀ y∈scope.names,y.2≠.cell∧(y.2=.local→scope.names.lookup y.1=some .local)∧(y.2=.free→X.env.kindOf y.1=some .cell∨X.env.kindOf y.1=some .free):=fun y hy=>by
  have q:=h2 y hy
  rw [bV,bV] at q
  obtain ⟨⟨q1,q2⟩,q3⟩:=q
  refine ⟨by simpa using q1,fun e=>?_,fun e=>?_⟩
  ·rw [e] at q2;simpa using q2
  ·rw [e] at q3
   have q3':X.env.scope.names.lookup y.1=some .cell∨X.env.scope.names.lookup y.1=some .free:=by simpa using q3
   exact q3'
 have f:∀ y∈scope.names,y.2=.free→∃ c,X.env.cells.lookup y.1=some c:=fun y hy e=>ok.has y.1 ((p y hy).2.2 e)
 refine ⟨?_,fun y hy=>(p y hy).1,by simpa using h1,fun y hy=>(p y hy).2.1,fun y c e=>Ws scope.names [] f (fun _ _ z=>by simp at z) y c e,fun y hy=>?_,fun i hi=>?_⟩
 ·have e:=W5 scope.names [] f
  unfold closureFor jX
  refine Eq.trans (congrArg (fun m=>m >>= fun s=>(pure s:Sem (List (Str × Addr)))) e) ?_
  rw [pure_bind]
 ·refine V5 scope.names [] y (.inr ?_)
  rcases hy with hy | hy
  ·obtain ⟨k',e,z | z⟩:=ji hy
   ·subst z;exact wk e
   ·subst z;exact absurd rfl (p _ (wk e)).1
  ·obtain ⟨k',e,z | z⟩:=ji hy
   ·subst z;exact wk e
   ·subst z;exact wk e
 ·have q:=h3 i hi
  cases hy:X.N[i]? with
  | none=>rw [hy] at q;cases q
  | some y =>
   rw [hy] at q
   have q':scope.names.lookup y=some .free:=by simpa using q
   exact ⟨y,rfl,(p _ (wk q')).2.2 rfl,qM q'⟩
def qO (ix:List Nat) (σ:St):St:=ix.map fun i=>(σ[i]?).getD none
def vZ (ix:List Nat) (N:List Str):List Str:=ix.map fun i=>(N[i]?).getD ""
section
variable {X:Cx} {pins:List (Addr × Obj)} {σ:St} {H:Hp} {s:Shared} {scope:Scope} {cl:List (Str × Addr)} {ix:List Nat} {fp:List Addr} {C:Addr} {xs:List Str}
theorem Inv.compOk (I:Inv X pins σ H s) (S:kH X scope cl ix) (hC:C=s.heap.objs.size) (hf:∀ b∈fp,jP X pins H b) (hl:∀ b∈fp,b < s.heap.objs.size) (N':List Str) :
  (X.comp scope cl C N' fp s H).Ok where
 mod:=I.ok.mod
 kind:=S.kind
 glob:=I.ok.glob
 blt:=I.ok.blt
 above:=nj hC.symm
 inj:=fun x y c h1 h2=>I.ok.inj x y c (S.sub x c h1) (S.sub y c h2)
 has:=fun x hx=>S.has x hx
 cab:=fun x c h1 _=>nomatch h1
 hd:=I.ok.hd
 frames:=I.ok.frames
 stk:=.inl rfl
 exf:=fun b hb=>⟨fun z=>absurd (hl b hb) (by rw [z];show ¬ C < _;rw [hC];exact dX _),fun x c h=>(hf b hb).2.2.2.2.1 x c (S.sub x c h)⟩
 bs:=I.bs
 bsz:=bU I.ok.bsz I.sz
 noex:=fun b o e hb=>by
  rcases (hf b hb).2.2.2.1 with z | z
  ·exact I.ok.noex b o e z
  ·exact absurd (cy (bF e) (bU I.ok.bsz z)) (dX _)
 exfs:=fun b hb z=>by
  rcases bK.mp (I.stkSub b z) with e | e
  ·exact (hf b hb).2.1 e
  ·exact (hf b hb).2.2.1 e
 funs:=I.stack
 frf:=I.stkFree
theorem Inv.comp {h₁:Heap} {m₁:Str→Option Value} {t':Nat} (I:Inv X pins σ H s) (S:kH X scope cl ix) (hC:C=s.heap.objs.size) (hf:∀ b∈fp,jP X pins H b) (hl:∀ b∈fp,b < s.heap.objs.size)
  (hn:h₁.Ns C m₁) (hk:∀ b o,s.heap.get? b=some o→h₁.get? b=some o) :
  Inv (X.comp scope cl C (xs ++ vZ ix X.N) fp s H) [] (bE xs.length none ++ qO ix σ) H { s with heap:=h₁,toks:=t' } where
 ok:=I.compOk S hC hf hl _
 os:=rfl
 bare:=I.bare
 base:=Un.kept hk
 loc:=by
  refine ⟨m₁,hn,fun i y v e1 e2 e3=>?_⟩
  by_cases hi:i < xs.length
  ·rw [dG (by simpa using hi),mz,if_pos hi] at e2
   cases e2
  ·have e1':(xs ++ vZ ix X.N)[i]?=some y:=e1
   rw [dQ (by lia)] at e1'
   rw [dQ (by rw [fZ];lia),fZ] at e2
   generalize i - xs.length=j at e1' e2
   unfold vZ at e1'
   unfold qO at e2
   rw [bC] at e1' e2
   cases hj:ix[j]? with
   | none=>rw [hj] at e1';cases e1'
   | some k =>
    rw [hj] at e1' e2
    obtain ⟨y',c1,c2,c3⟩:=S.cap k (cq hj)
    have ey:y'=y:=by
     have q:(X.N[k]?).getD ""=y:=bS e1'
     rw [c1] at q
     exact q
    subst ey
    have ev:σ[k]?=some (some v):=by
     have q:(σ[k]?).getD none=some v:=bS e2
     cases hs:σ[k]? with
     | none=>rw [hs] at q;cases q
     | some o=>rw [hs] at q;exact congrArg some q
    obtain ⟨m,hm,hv⟩:=I.loc
    obtain ⟨u,r,l⟩:=hv k y' v c1 ev (c2.elim (fun z=>.inr (.inl z)) fun z=>.inr (.inr z))
    refine ⟨u,r,.inr ⟨c3,?_⟩⟩
    rcases l with ⟨l1,_⟩ | ⟨_,c,lc,⟨o,ho,hd⟩⟩
    ·rcases c2 with z | z <;> (rw [l1] at z;cases z)
    ·obtain ⟨c',hc'⟩:=S.has y' c3
     have e:=S.sub _ _ hc'
     rw [lc] at e
     cases e
     exact ⟨c,hc',o,hk _ _ ho,hd⟩
 cell:=fun x c e=>by
  obtain ⟨v,o,ho,hd⟩:=I.cell x c (S.sub x c e)
  exact ⟨v,o,hk _ _ ho,hd⟩
 free:=I.hok.fresh (nj hC.symm)
 freeC:=fun x c e=>I.freeC x c (S.sub x c e)
 pin:=fun p hp=>absurd (show p∈([]:List (Addr × Obj)) from hp) (by simp)
 hok:=I.hok.kept hk
 len:=by
  show (bE xs.length none ++ qO ix σ).length=(xs ++ vZ ix X.N).length
  rw [bt,bt,fZ,qO,vZ,bn,bn]
theorem Inv.uncomp {s':Shared} {σ':St} {H':Hp} {N':List Str} {h':Heap} (I:Inv X pins σ H s) (hC:C=s.heap.objs.size) (hf:∀ b∈fp,jP X pins H b)
  (J:Inv (X.comp scope cl C N' fp s H) [] σ' H' s') (hb:cZ C s'.heap h'):Inv X pins σ H' { s' with heap:=h' }:=by
 have lt:∀ b o,s.heap.get? b=some o→b≠C:=fun b o e=>by
  rw [hC];exact bZ (bF e)
 have B:Un (frs X.stack) fp H H' s.heap s'.heap:=J.base
 refine I.call' (s':={ s' with heap:=h' }) (ch:=fp) J.os ?_ ?_ J.bare ?_
 ·exact ⟨fun b o e n h1 h2=>(hb.2 b (lt b o e)).trans (B.keep b o e n h1 h2),fun b o e n h1 h2=>by
   obtain ⟨sl,q⟩:=B.slot b o e n h1 h2
   exact ⟨sl,(hb.2 b (lt b o e)).trans q⟩,B.free,fun b o e h1=>by
   obtain ⟨o',q⟩:=B.there b o e h1
   exact ⟨o',(hb.2 b (lt b o e)).trans q⟩,B.tups,B.frzs,B.tbls⟩
 ·intro b o e
  refine (J.hok b o e).stay (fun c u hc q=>(hb.2 c ?_).trans q) (fun _ q=>q) fun _ _ q=>q
  have hC0:H' C=none:=J.free
  rintro rfl
  rcases hc with rfl | hc
  ·rw [hC0] at e;cases e
  ·rw [hC0] at hc;cases hc
 ·intro b hb'
  obtain ⟨f0,f1,f2,f3,f4,f5⟩:=hf b hb'
  exact ⟨f3,f1,f4,f5⟩
end
def PTs (X:Cx) (ifs:List Expr) (t:TT):Prop :=
 ∀ (pins:List (Addr × Obj)) (s:Shared) (σ:St) (H:Hp) (Q:Bool→Hp→Prop),Inv X pins σ H s→t σ H Q →
  wpAny (model X.prog X.w) X.A (forIn ifs true fun c r=>if r=true then do let ok ← isTrue c X.env (eval c X.env);pure (gc ok) else pure (gc r)) (TP X pins σ Q) X.xe s
def YN:TT:=fun _ H Q=>Q true H
theorem qP {X:Cx}:PTs X [] YN:=fun _ _ _ H _ I h=>wpAny_tests_nil ⟨H,I,h⟩
theorem Yu {X:Cx} {c:Expr} {t:TT} (h:PT X c t):PTs X [c] t:=fun pins s σ H Q I q=>wpAny_tests_one (h pins s σ H Q I q)
section
variable {prog:Program} {w:World} {A:Around} {R:Result→Shared→Prop} {s:Shared}
theorem W6 {elt target iter:Expr} {ifs:List Expr} {scope:Scope} {pos:Pos} {it acc:Value} {env:Env} (W:Nat→Shared→Prop) {EE:Value→Shared→Prop}
  (hE:∀ e s',EE e s'→notedBy (model prog w) A env (fun e s'=>R (.error e) s') e s')
  (turn:∀ n s,W n s→wpAny (model prog w) A (pyNext it) (fun r s₁=>match r with
   | none=>R (.ok .next) s₁
   | some v=>wpAny (model prog w) A (letOwnedTupleGo target it v) (fun _ t₁=>wpAny (model prog w) A (assign target env v) (fun _ s₂ =>
     wpAny (model prog w) A (forIn ifs true fun c r=>if r=true then do let ok ← isTrue c env (eval c env);pure (gc ok) else pure (gc r)) (fun ok s₃ =>
      if ok=true then wpAny (model prog w) A (eval elt env) (fun x s₄=>wpAny (model prog w) A (call (.builtin "list.append") [acc,x]) (fun _ s₅=>∃ m,m < n∧W m s₅) EE s₄) EE s₃
      else ∃ m,m < n∧W m s₃) EE s₂) EE t₁) EE s₁) EE s)
  (n:Nat) (h:W n s):codeAny (model prog w) A (.compLoop (.ListComp elt [⟨target,iter,ifs,0⟩] scope pos) 0 it acc env) R s:=by
 refine codeAny_loop rfl W (fun n s hW=>?_) n h
 show wpAny _ A ((compTurn (.ListComp elt [⟨target,iter,ifs,0⟩] scope pos) 0 it acc env).onRaise (fun x=>do noteFrame x env;theTreesLotGoes x)) _ _ s
 refine wpAny_noted (dA ?_ (fun _ _ q=>q) hE)
 rw [compTurn_list]
 refine bb (wpAny_standAt (bb (thn (turn n s hW) fun r s₁ h₁=>?_)))
 cases r with
 | none=>exact bo h₁
 | some v =>
  refine bb (thn h₁ fun _ t₁ k₁=>?_)
  refine bb (thn k₁ fun _ s₂ h₂=>bb (thn h₂ fun ok s₃ h₃=>?_))
  cases ok with
  | false=>exact bo ⟨rfl,h₃⟩
  | true=>exact bb (bb (thn h₃ fun x s₄ h₄=>bb (thn h₄ fun _ s₅ h₅=>bo (bo ⟨rfl,h₅⟩))))
end
def xk (wi:TI) (g:TG) (tt:TT) (te:TE) (k:Nat) (ix:List Nat):TE:=fun σ H Q=>wi σ H fun J H1=>∀ D,H1 D=none →
 ∃ W:Nat→Nat→List V→St→Hp→Prop,(∃ m,W 0 m [] (bE k none ++ qO ix σ) (upd H1 D (.lst [])))∧∀ i m ys τ H,W i m ys τ H→H D=some (.lst ys) ∧
  ((J.stop i H∧Q (.ref D) H)∨(J.go i H∧ys.length < sizeLine∧∃ N:V→St→Hp→Prop,
   (∀ v τ' H',N v τ' H'→H' D=some (.lst ys)∧∃ m',m' < m∧W (i + 1) m' (ys ++ [v]) τ' (upd H' D (.lst (ys ++ [v]))))∧∃ Nf:St→Hp→Prop,(∀ τ' H',Nf τ' H'→∃ m',m' < m∧W (i + 1) m' ys τ' H') ∧
   ∀ x H',J.yld i H x H'→g x τ H' fun τ2 H2=>tt τ2 H2 fun b H3=>if b=true then te τ2 H3 fun v H4=>N v τ2 H4 else Nf τ2 H3))
section
variable {X:Cx} {elt iter tg:Expr} {ifs:List Expr} {scope:Scope} {pos:Pos} {cl:List (Str × Addr)} {ix:List Nat} {xs:List Str} {wi:TI} {g:TG} {tt:TT} {te:TE}
theorem YO (S:kH X scope cl ix) (hc:X.calm=true) (hi:PI X tg iter wi)
  (hg:∀ C fp s H,PG (X.comp scope cl C (xs ++ vZ ix X.N) fp s H) tg g) (ht:∀ C fp s H,PTs (X.comp scope cl C (xs ++ vZ ix X.N) fp s H) ifs tt)
  (he:∀ C fp s H,PE (X.comp scope cl C (xs ++ vZ ix X.N) fp s H) elt te)
  {pins:List (Addr × Obj)} {s:Shared} {σ:St} {H:Hp} {Q:VK} (I:Inv X pins σ H s) (h:xk wi g tt te xs.length ix σ H Q) {RR:Value→Addr→Result→Shared→Prop}
  (hR:∀ v u s' C,RelV v u→(∃ H',Q v H'∧(∃ m,s'.heap.Ns C m)∧(∀ h',cZ C s'.heap h'→Inv X pins σ H' { s' with heap:=h' })∧jP X pins H' C)→RR u C (.ok .next) s') :
  wpAny (model X.prog X.w) X.A (eval iter X.env) (fun x s₁=>wpAny (model X.prog X.w) X.A (pyIter x) (fun it s₂=>wpAny (model X.prog X.w) X.A (newList []) (fun acc s₃ =>
   wpAny (model X.prog X.w) X.A (newFunctionEnv scope X.env.globals cl [] X.env.qual none .none (some X.env)) (fun cenv s₄ =>
    codeAny (model X.prog X.w) X.A (.compStart (.ListComp elt [⟨tg,iter,ifs,0⟩] scope pos) 0 it acc { cenv with scope:=relabel scope X.env }) (RR acc cenv.locals) s₄) X.xe s₃) X.xe s₂) X.xe s₁) X.xe s:=by
 refine thn (hi pins s σ H _ I h) fun v s1 h1=>thn h1 fun itv s2 h2=>?_
 obtain ⟨it,fp,tn,J,H2,e,I2,T,st2,f2,hW⟩:=h2
 subst e
 refine dm (wpAny_newFunctionEnv S.nocell (fun y hy=>nomatch hy) (fun h₁ hns₁ hsb₁=>?_) S.kind)
 dsimp only at hns₁ hsb₁ ⊢
 obtain ⟨W,⟨m0,w0⟩,turn⟩:=hW s2.heap.objs.size I2.fresh
 have I3:=I2.lnew (t':=s2.toks) (ys:=[]) (its:=[]) .nil (bY _)
 have hl3:∀ b∈fp,b < s2.heap.objs.size:=fun b hb=>by
  obtain ⟨o,e,_⟩:=T.obj _ _ st2 b hb
  exact bF e
 generalize hs3:({ s2 with heap:=s2.heap.push { cls:=.type "list",data:=.seq ([]:List Value).toArray },toks:=s2.toks }:Shared)=s3 at I3
 have hs3h:s3.heap=s2.heap.push { cls:=.type "list",data:=.seq ([]:List Value).toArray }:=by rw [← hs3]
 have hsz:s3.heap.objs.size=s2.heap.objs.size + 1:=by rw [hs3h,fT]
 have f3:∀ b∈fp,jP X pins (upd H2 s2.heap.objs.size (.lst [])) b:=fun b hb=>by
  obtain ⟨q0,q⟩:=f2 b hb
  exact ⟨by rw [zk (bZ (hl3 b hb))];exact q0,q⟩
 have hl3':∀ b∈fp,b < s3.heap.objs.size:=fun b hb=>by rw [hsz];exact Nat.lt_succ_of_lt (hl3 b hb)
 rw [← hs3h] at hns₁ hsb₁ ⊢
 have hk:∀ b o,s3.heap.get? b=some o→h₁.get? b=some o:=fun b o e=>(hsb₁.2 b (bZ (bF e))).trans (bh _ e)
 have hk2:∀ b o,s2.heap.get? b=some o→s3.heap.get? b=some o:=fun b o e=>by rw [hs3h];exact bh _ e
 have J0:=I3.comp (xs:=xs) (t':=s2.toks) (C:=s3.heap.objs.size) S rfl f3 hl3' hns₁ hk
 have st3:tn 0 h₁:=T.keep _ _ _ st2 fun b _ o e=>hk b o (hk2 b o e)
 have loop:∀ tk,codeAny (model X.prog X.w) X.A (.compLoop (.ListComp elt [⟨tg,iter,ifs,0⟩] scope pos) 0 (.ref it) (.ref s2.heap.objs.size) (compEnvC scope cl s3.heap.objs.size X.env))
   (RR (.ref s2.heap.objs.size) s3.heap.objs.size) { s3 with heap:=h₁,toks:=tk }:=by
  intro tk
  refine W6 (EE:=fun _ _=>False) (fun n s'=>∃ i ys τ H',Inv (X.comp scope cl s3.heap.objs.size (xs ++ vZ ix X.N) fp s3 (upd H2 s2.heap.objs.size (.lst []))) [] τ H' s'∧tn i s'.heap∧(∀ b∈fp,H' b=none)∧W i n ys τ H')
   (fun _ _ z=>z.elim) ?_ m0 ⟨0,[],_,_,J0.tok tk,st3,fun b hb=>(f3 b hb).1,w0⟩
  rintro n s' ⟨i,ys,τ,H',I',st',fr',w'⟩
  have stat:∀ {H':Hp},(∀ b∈fp,H' b=none)→∀ b∈fp,jP (X.comp scope cl s3.heap.objs.size (xs ++ vZ ix X.N) fp s3 (upd H2 s2.heap.objs.size (.lst []))) [] H' b:=fun hn b hb =>
   ⟨hn b hb,(I'.ok.exf b hb).1,I'.ok.exfs b hb,.inl hb,(I'.ok.exf b hb).2,fun p hp=>absurd (show p∈([]:List (Addr × Obj)) from hp) (by simp)⟩
  obtain ⟨hD,⟨stop,q⟩ | ⟨go,hz,N,hN,Nf,hNf,step⟩⟩:=turn i n ys τ H' w'
  ·refine thn (T.done (X.comp scope cl s3.heap.objs.size (xs ++ vZ ix X.N) fp s3 (upd H2 s2.heap.objs.size (.lst []))) rfl rfl rfl hc i [] s' τ H' _ I' (stat fr') st' stop) fun r s4 ⟨hr,I4⟩=>?_
   subst hr
   refine hR (.ref s2.heap.objs.size) _ s4 _ rfl ⟨H',q,?_,fun h' hb=>I3.uncomp rfl f3 I4 hb,I3.fpOk (bj _) I4.free⟩
   obtain ⟨m,hn,_⟩:=I4.loc
   exact ⟨m,hn⟩
  ·refine thn (T.item (X.comp scope cl s3.heap.objs.size (xs ++ vZ ix X.N) fp s3 (upd H2 s2.heap.objs.size (.lst []))) rfl rfl rfl hc i [] s' τ H' _ I' (stat fr') st' go) fun r s4 ⟨u,hr,h4⟩=>?_
   subst hr
   refine thn h4 fun _ s5 ⟨x,H5,I5,r5,y5,st5,fr5⟩=>?_
   have I5':=I5.pinned (stat fr5) (T.obj _ _ st5)
   refine thn (hg _ _ _ _ _ s5 τ H5 x u _ I5' r5 (step x H5 y5)) fun _ s6 ⟨τ6,H6,I6,q6⟩=>?_
   refine thn (ht _ _ _ _ _ s6 τ6 H6 _ I6 q6) fun ok s7 ⟨H7,I7,q7⟩=>?_
   have back:∀ {s8:Shared} {H8:Hp} {m:Nat} {zs:List V},Inv (X.comp scope cl s3.heap.objs.size (xs ++ vZ ix X.N) fp s3 (upd H2 s2.heap.objs.size (.lst []))) ([] ++ YD fp s5.heap) τ6 H8 s8→W (i + 1) m zs τ6 H8 →
     ∃ i ys τ H',Inv (X.comp scope cl s3.heap.objs.size (xs ++ vZ ix X.N) fp s3 (upd H2 s2.heap.objs.size (.lst []))) [] τ H' s8∧tn i s8.heap∧(∀ b∈fp,H' b=none)∧W i m ys τ H':=fun {s8 H8 m zs} I8 w8=>by
    refine ⟨i + 1,zs,τ6,H8,I8.unpinned,T.keep _ _ _ st5 fun b hb o e=>(I8.pin (b,o) (bR _ (bR _ (jd hb e)))).1,fun b hb=>?_,w8⟩
    obtain ⟨o,e,d⟩:=T.obj _ _ st5 b hb
    exact (I8.pin (b,o) (bR _ (bR _ (jd hb e)))).2.1
   cases ok with
   | false =>
    rw [if_neg bJ] at q7 ⊢
    obtain ⟨m',hm,w7⟩:=hNf _ _ q7
    exact ⟨m',hm,back I7 w7⟩
   | true =>
    rw [if_pos rfl] at q7 ⊢
    refine thn (he _ _ _ _ _ s7 τ6 H7 _ I7 q7) fun y s8 ⟨v8,H8,I8,r8,n8⟩=>?_
    obtain ⟨hD8,m',hm,w8⟩:=hN _ _ _ n8
    refine thn (y7 _ s8 τ6 H8 (.ref s2.heap.objs.size) [v8] (.ref s2.heap.objs.size) [y] (fun _ Hn=>∃ m,m < n∧W (i + 1) m (ys ++ [v8]) τ6 Hn) I8 rfl (.cons r8 .nil) ⟨_,ys,v8,rfl,rfl,hD8,hz,m',hm,w8⟩) fun _ s9 ⟨_,H9,I9,_,m9,hm9,w9⟩=>?_
    exact ⟨m9,hm9,back I9 w9⟩
 have e3:∀ tk,({ s3 with heap:=h₁,toks:=tk }:Shared)={ s2 with heap:=h₁,toks:=tk }:=fun tk=>by rw [← hs3]
 have loop':∀ tk,codeAny (model X.prog X.w) X.A (.compLoop (.ListComp elt [⟨tg,iter,ifs,0⟩] scope pos) 0 (.ref it) (.ref s2.heap.objs.size) (compEnvC scope cl s3.heap.objs.size X.env))
   (RR (.ref s2.heap.objs.size) s3.heap.objs.size) { s2 with heap:=h₁,toks:=tk }:=fun tk=>by rw [← e3];exact loop tk
 exact codeAny_compStart_list (loop' _) (T.self _ 0 _ _ _ st3 (loop' _))
theorem jj {osc:Scope} {N:List Str} (hc:X.calm=true) (hD:Qz osc N scope ix=true) (hi:PI X tg iter wi)
  (hg:∀ C fp s H,PG (X.comp scope (jX scope X.env) C (xs ++ vZ ix X.N) fp s H) tg g) (ht:∀ C fp s H,PTs (X.comp scope (jX scope X.env) C (xs ++ vZ ix X.N) fp s H) ifs tt)
  (he:∀ C fp s H,PE (X.comp scope (jX scope X.env) C (xs ++ vZ ix X.N) fp s H) elt te) (hsc:X.env.scope=osc:=by rfl) (hN:X.N=N:=by rfl) (hs:∀ x,foldedSetIterable iter X.env x=pure x:=by intro _;rfl) :
  PE X (.ListComp elt [⟨tg,iter,ifs,0⟩] scope pos) (xk wi g tt te xs.length ix):=by
 intro pins s σ H Q I h
 have S:=qN I.ok hD hsc hN
 rw [eval_ListComp]
 refine mh (use:=none) rfl hs S.clos S.kind S.names (YO S hc hi hg ht he I h (RR:=fun acc C=>compPost (model X.prog X.w) X.A X.xe none (EP X pins σ Q) acc C) ?_)
 rintro v u s' C r ⟨H',q,⟨m,hn⟩,hI,_⟩
 exact ⟨m,hn,fun h' hb=>⟨v,H',hI h' hb,r,q⟩⟩
theorem YQ {osc:Scope} {N:List Str} {y:Str} {py:Pos} {j:Nat} {spos:Pos} (hNd:X.N.Nodup) (hj:X.N[j]?=some y) (hc:X.calm=true) (hy:Loc X.env.scope y) (hD:Qz osc N scope ix=true) (hi:PI X tg iter wi)
  (hg:∀ C fp s H,PG (X.comp scope (jX scope X.env) C (xs ++ vZ ix X.N) fp s H) tg g) (ht:∀ C fp s H,PTs (X.comp scope (jX scope X.env) C (xs ++ vZ ix X.N) fp s H) ifs tt)
  (he:∀ C fp s H,PE (X.comp scope (jX scope X.env) C (xs ++ vZ ix X.N) fp s H) elt te) (hsc:X.env.scope=osc:=by rfl) (hN:X.N=N:=by rfl)
  (hsw:swapsWith (.ListComp elt [⟨tg,iter,ifs,0⟩] scope pos) (some (.Name y py)) spos.line X.env=pure true:=by rfl)
  (hs:∀ x,foldedSetIterable iter X.env x=pure x:=by intro _;rfl) (hf:X.fn y=true∨X.env.scope.names.lookup y=some .local:=by first | exact .inl rfl | exact .inr rfl | assumption) :
  PS X (.Assign [.Name y py] (.ListComp elt [⟨tg,iter,ifs,0⟩] scope pos) spos) (zK (xk wi g tt te xs.length ix) (zl j)):=by
 intro pins s σ H D I h
 have S:=qN I.ok hD hsc hN
 rw [exec_Assign_Name_used _ _ _ _ hsw]
 refine bb (wpAny_standAt (bb ?_))
 show wpAny _ X.A (do let _ ← comprehension (.ListComp elt [⟨tg,iter,ifs,0⟩] scope pos) scope X.env _ (newList []) false (eval iter X.env) (some (assign (.Name y py) X.env))) _ _ s
 refine bb (thn (mh (use:=some (assign (.Name y py) X.env)) (Q:=fun _ s'=>SP X pins D .next s') rfl hs S.clos S.kind S.names
  (YO S hc hi hg ht he I h (RR:=fun acc C=>compPost (model X.prog X.w) X.A X.xe (some (assign (.Name y py) X.env)) (fun _ s'=>SP X pins D .next s') acc C) ?_)) fun _ s' hq=>bo (bo hq))
 rintro v u s' C r ⟨H',q,⟨m,hn⟩,hI,f0,f1,f2,f3,f4,f5⟩
 have I':Inv X pins σ H' s':=hI s'.heap (.refl ..)
 show wpAny _ X.A (assign (.Name y py) X.env u) _ _ _
 refine wpAny_assign_Name (Wh I' hNd hj hy r (fun s2 I2 hx=>?_) hf)
 obtain ⟨a,hb,ha⟩:=hx
 have hCa:C≠a:=by
  rcases ha with rfl | ha
  ·exact f1
  ·exact cP (f4 _ _ ha)
 refine ⟨m,hn.sameBut hb hCa,fun h' hb'=>⟨_,H',?_,q⟩⟩
 exact I2.turned (t':=s2.toks) (fun b o hne e=>(hb'.2 b hne).trans e) f0 f1 f3 f4 f5
end
abbrev jN:R2:=fun x y H Q=>∃ i j,x=.str i∧y=.str j∧i.length + j.length≤sizeLine∧Q (.str (i ++ j)) H
abbrev zgd:R2:=fun x y H Q=>∃ a b,x=.bl a∧y=.bl b∧Q (.bl (a == b)) H
abbrev zgJ:R2:=fun x y H Q=>y=.non∧Q (.bl (decide (x=.non))) H
abbrev QA:R2:=fun x y H Q=>y=.non∧Q (.bl (!decide (x=.non))) H
abbrev RC:=List V→Hp→VK→Prop
abbrev yG (K:bD):RC:=fun xs H Q=>∃ x n,xs=[x]∧je K x H n∧Q (.int n) H
abbrev Zq (K:bD):RC:=fun xs H Q=>∃ x c t b,xs=[x,c]∧Zm K H x t∧(∃ T,c=.ty T∧lJ K t (.type T)=some b)∧Q (.bl b) H
abbrev RM:=V→List V→Hp→VK→Prop
theorem zdC {H:Hp} {p:Addr} {o:HO} (h:H p=none):∃ H',H'=upd H p o∧Same H H'∧H' p=some o :=
 ⟨_,rfl,fun b u e=>by rw [zk (zP e h)];exact e,ze⟩
theorem isV (p:Addr) {H:Hp} {o:HO} (h:H p=none):Same H (upd H p o):=fun b u e=>by rw [zk (zP e h)];exact e
theorem zV {n:Nat} (h:n≤100000):n≤sizeLine:=bU h (by decide)
theorem yq:bootBuiltins "len"=some (.builtin "len"):=by decide +kernel
theorem yp:bootBuiltins "isinstance"=some (.builtin "isinstance"):=by decide +kernel
theorem zfk:bootBuiltins "any"=some (.builtin "any"):=by decide +kernel
theorem v0:bootBuiltins "sorted"=some (.builtin "sorted"):=by decide +kernel
theorem ZT:bootBuiltins "reversed"=some (.type "reversed"):=by decide +kernel
theorem W7:bootBuiltins "enumerate"=some (.type "enumerate"):=by decide +kernel
theorem zfl:bootBuiltins "str"=some (.type "str"):=by decide +kernel
theorem zbo:bootBuiltins "int"=some (.type "int"):=by decide +kernel
theorem QB:bootBuiltins "bool"=some (.type "bool"):=by decide +kernel
theorem xX:bootBuiltins "list"=some (.type "list"):=by decide +kernel
theorem zbp:bootBuiltins "tuple"=some (.type "tuple"):=by decide +kernel
theorem Yv:bootBuiltins "dict"=some (.type "dict"):=by decide +kernel
section
variable {X:Cx}
def big:Int:=10 ^ 200
def zbq (_ j:Int):Prop:=0 < j∧j < big
def CMulB (i j:Int):Prop:=(-big < i∧i < big)∧(-big < j∧j < big)
theorem YR {j:Int} (h:j.natAbs < 10 ^ 200):j.natAbs.log2 < 700:=by
 by_cases h0:j.natAbs=0
 ·rw [h0];decide
 ·exact (Nat.log2_lt h0).mpr (cy h (by decide +kernel))
theorem W9 {j:Int} (h:-big < j∧j < big):j.natAbs < 10 ^ 200:=by
 have e:big=((10 ^ 200:Nat):Int):=by decide +kernel
 rw [e] at h
 lia
theorem CMulB.ok {i j:Int} (h:CMulB i j):IntMulOk i j:=by
 have b:∀ k:Int,(-big < k∧k < big)→iY k≤2 ^ 20:=fun k hk=>by
  have q:=YR (W9 hk)
  unfold iY
  split <;> lia
 exact .of_bits (b i h.1) (b j h.2)
theorem xY:OpR X (binaryOp .Mult) (rI CMulB fun i j=>.int (i * j)):=opI fun _ _ _ _ _ _ _ hc q=>mul_int q hc.ok
theorem zbr:OpR X (binaryOp .FloorDiv) (rI zbq fun i j=>.int (i / j)):=opI fun i j _ _ _ _ _ hc q=>by
 have h1:(0:Int) < j:=hc.1
 refine floordiv_int (by lia) ?_ (.inl (mj (o8 (YR (W9 ⟨by have:=hc.2;lia,hc.2⟩)) (by decide))))
 rw [Int.fdiv_eq_ediv_of_nonneg i (by lia)]
 exact q
theorem zbs:OpR X (compareOp .Is) (fun x y H Q=>∃ a b,x=.bl a∧y=.bl b∧Q (.bl (a == b)) H):=by
 intro pins s σ H x y v u Q I rx ry h
 obtain ⟨a,b,rfl,rfl,q⟩:=h
 cases rx
 cases ry
 exact is_bool ⟨.bl (a == b),H,I,rfl,q⟩
theorem wm:vq X (.builtin "isinstance") (Zq X.K):=by
 intro pins s σ H xs us Q I r h
 obtain ⟨x,c,t,b,rfl,ty,⟨T,rfl,e⟩,q⟩:=h
 obtain ⟨u,w',rfl,r1,r2⟩:=zf8 r
 cases r2
 exact zaq I r1 ty e fun tk=>⟨.bl b,H,I.tok tk,rfl,q⟩
def Kz:V→Option Int→Option Int→Hp→VK→Prop:=fun x lo hi H Q=>∃ z,x=.str z∧z.length≤sizeLine∧Q (.str (fP z lo hi)) H
theorem Va:SlR X Kz:=by
 intro pins s σ H x v vl vu lo hi sl Q I rx hs pl pu h
 obtain ⟨z,rfl,hz,q⟩:=h
 obtain ⟨t,rfl⟩:=rx
 obtain ⟨o,ho,hc,hd⟩:=hs
 refine ⟨"str",_,oF.lookup,oO _ _ _,?_⟩
 obtain ⟨l,e1,e2⟩:∃ l:Option (Int × Tok),vl=partValue l∧lo=l.map (·.1):=by
  cases pl with
  | none=>exact ⟨none,rfl,rfl⟩
  | int i t=>exact ⟨some (i,t),rfl,rfl⟩
 obtain ⟨u,e3,e4⟩:∃ l:Option (Int × Tok),vu=partValue l∧hi=l.map (·.1):=by
  cases pu with
  | none=>exact ⟨none,rfl,rfl⟩
  | int i t=>exact ⟨some (i,t),rfl,rfl⟩
 subst e1 e2 e3 e4
 exact mE (l:=l) (u:=u) (st:=none) ⟨o,ho,hc,hd⟩ rfl
  (post_val_or_str ⟨bU (Txt.slice_le z _ _) hz,fun t' k=>⟨.str (fP z (l.map (·.1)) (u.map (·.1))),H,I.tok k,⟨t',rfl⟩,q⟩⟩)
end
theorem ObjOk.there {P:Program} {w:World} {H:Hp} {h:Heap} {a:Addr} {o:HO} (x:ObjOk P w H h a o):∃ u,h.get? a=some u:=by
 cases o with
 | lst xs=>obtain ⟨_,_,_,_,e⟩:=x;exact ⟨_,e⟩
 | tup xs=>obtain ⟨_,_,_,o,e,_⟩:=x;exact ⟨_,e⟩
 | dK kvs=>obtain ⟨_,_,_,_,o,_,_,e,_⟩:=x;exact ⟨_,e⟩
 | dT kvs=>obtain ⟨_,_,_,_,o,_,_,e,_⟩:=x;exact ⟨_,e⟩
 | set S n=>obtain ⟨o,_,_,_,e,_⟩:=x;exact ⟨_,e⟩
 | ins C dx fs=>obtain ⟨_,_,_,e,_⟩:=x;exact ⟨_,e⟩
 | own y=>exact x
 | xd fs=>obtain ⟨_,⟨o,_,_,e,_⟩,_⟩:=x;exact ⟨_,e⟩
 | rng lo hi=>obtain ⟨_,_,_,e⟩:=x;exact ⟨_,e⟩
 | frz ob u=>obtain ⟨e,_⟩:=x;exact ⟨_,e⟩
 | tbl ps=>exact ⟨_,(show h.get? a=some _ from x)⟩
 | met f y=>exact ⟨_,(show h.get? a=some _ from x)⟩
 | ext φ=>obtain ⟨_,e,_⟩:=x;exact e
def XF (g h:Heap) (H:Hp) (e:Addr) (cls:Value):Prop :=
 ∃ oe vs a0 T oT ts,h.get? e=some oe∧(oe.cls=cls∧vs[0]?=some a0)∧oe.data=.fields vs∧vs[1]?=some (.ref T)∧T≠e∧h.get? T=some oT∧oT.data=.fields ts∧ts[3]?=some .none ∧
  g.get? e=none∧g.get? T=none∧H e=none∧H T=none
def CX1 (P:Program) (w:World):CXT:=fun outer H s E ev s'=>∃ e cls H',ev=.ref e∧s'.os=s.os∧AllBare s'.gens∧Un (frs outer) [] H H' s.heap s'.heap∧HOk P w H' s'.heap∧XF s.heap s'.heap H' e cls∧E cls none H'
theorem v3 {g h:Heap} (k:∀ b o,g.get? b=some o→∃ o',h.get? b=some o') {b:Addr} (e:h.get? b=none):g.get? b=none:=by
 cases q:g.get? b with
 | none=>rfl
 | some o =>
  obtain ⟨o',z⟩:=k b o q
  rw [e] at z;cases z
theorem XF.older {g g' h:Heap} {H:Hp} {e:Addr} {cls:Value} (x:XF g h H e cls) (k:∀ b o,g'.get? b=some o→∃ o',g.get? b=some o'):XF g' h H e cls:=by
 obtain ⟨oe,vs,a0,T,oT,ts,h1,h2,h3,h4,h5,h6,h7,h8,h9,h10,h11,h12⟩:=x
 exact ⟨oe,vs,a0,T,oT,ts,h1,h2,h3,h4,h5,h6,h7,h8,v3 k h9,v3 k h10,h11,h12⟩
section
variable {X:Cx} {pins:List (Addr × Obj)} {σ:St} {H:Hp} {s:Shared}
theorem Inv.stackFields (J:Inv X pins σ H s) {b:Addr} (hb:b∈frs X.stack):∃ o,s.heap.get? b=some o∧∀ vs,o.data≠.fields vs:=(J.stack.mem hb).2
theorem Inv.there0 (hex:X.ex=[]) (J:Inv X pins σ H s):∀ b o,X.s₀.heap.get? b=some o→∃ o',s.heap.get? b=some o':=fun b o e=>J.base.there b o e (by rw [hex];simp)
theorem Inv.behind {h2:Heap} {cs:List Addr} (hex:X.ex=[]) (J:Inv X pins σ H s) (hcs:∀ b∈cs,H b=none∧X.s₀.heap.get? b=none)
  (hB:∀ b o,s.heap.get? b=some o→b ∉ frs X.stack→b ∉ cs→h2.get? b=some o) (hF:∀ b o,s.heap.get? b=some o→b∈frs X.stack→∃ sl,h2.get? b=some { o with slots:=sl }) :
  Un X.fs [] X.H₀ H X.s₀.heap h2∧HOk X.prog X.w H h2:=by
 have B:Un X.fs [] X.H₀ H X.s₀.heap s.heap:=by have:=J.base;rw [hex] at this;exact this
 have nL:∀ b o,X.s₀.heap.get? b=some o→b≠X.env.locals:=fun b o e=>bZ (cy (bF e) J.ok.above)
 have nC:∀ b o,X.s₀.heap.get? b=some o→b ∉ cs:=fun b o e z=>by rw [(hcs b z).2] at e;cases e
 have any:∀ b o,s.heap.get? b=some o→b ∉ cs→∃ sl,h2.get? b=some { o with slots:=sl }:=fun b o e n=>by
  by_cases hb:b∈frs X.stack
  ·exact hF b o e hb
  ·exact ⟨o.slots,hB b o e hb n⟩
 refine ⟨⟨fun b o e n h1 _=>?_,fun b o e n h1 _=>?_,B.free,fun b o e h1=>?_,B.tups,B.frzs,B.tbls⟩,fun b u e=>?_⟩
 ·refine hB b o (B.keep b o e n h1 (by simp)) (fun z=>?_) (nC b o e)
  rcases bK.mp (J.stkSub b z) with q | q
  ·exact nL b o e q
  ·exact h1 q
 ·obtain ⟨sl,q⟩:=B.slot b o e n h1 (by simp)
  obtain ⟨sl',q'⟩:=any b _ q (nC b o e)
  exact ⟨sl',q'⟩
 ·obtain ⟨o',q⟩:=B.there b o e (by simp)
  obtain ⟨sl,q'⟩:=any b o' q (nC b o e)
  exact ⟨_,q'⟩
 ·refine (J.hok b u e).stay (fun c v hc q=>?_) (fun _ q=>q) fun _ _ q=>q
  have hn:H c≠none:=by
   rcases hc with rfl | hc
   ·rw [e];simp
   ·rw [hc];simp
  exact hB c v q (fun z=>hn (J.stkFree c z)) fun z=>hn (hcs c z).1
theorem Inv.flown {B h2:Heap} {cs:List Addr} {e:Addr} {cls a0:Value} (hex:X.ex=[]) (J:Inv X pins σ H s) (hcs:∀ b∈cs,H b=none∧X.s₀.heap.get? b=none)
  (hB:∀ b o,s.heap.get? b=some o→b ∉ frs X.stack→b ∉ cs→B.get? b=some o) (hF:∀ b o,s.heap.get? b=some o→b∈frs X.stack→∃ sl,h2.get? b=some { o with slots:=sl })
  (he:H e=none) (he0:X.s₀.heap.get? e=none) (kb:B.StaysIn h2) (tr:h2.TracedW B e cls a0) :
  Un X.fs [] X.H₀ H X.s₀.heap h2∧HOk X.prog X.w H h2∧XF X.s₀.heap h2 H e cls:=by
 have hk:=J.behind (h2:=h2) hex hcs (fun b o q n1 n2=>kb b o (hB b o q n1 n2)) hF
 refine ⟨hk.1,hk.2,?_⟩
 obtain ⟨oe,vs,T,oT,ts,h1,h2',h3,h4,h5,h6,h7,h8,h9⟩:=tr
 have noT:∀ o,s.heap.get? T=some o→T∈cs:=fun o q=>by
  by_cases hb:T∈frs X.stack
  ·obtain ⟨o',q',nf⟩:=J.stackFields hb
   obtain ⟨sl,z⟩:=hF T o' q' hb
   rw [h7] at z
   have z':oT={ o' with slots:=sl }:=bS z
   exact absurd (by rw [← h8,z']) (nf ts)
  ·by_cases hc:T∈cs
   ·exact hc
   ·rw [hB T o q hb hc] at h5;cases h5
 refine ⟨oe,vs,a0,T,oT,ts,h1,h2',h3,h4,h6,h7,h8,h9,he0,?_,he,?_⟩
 ·cases q:X.s₀.heap.get? T with
  | none=>rfl
  | some o =>
   obtain ⟨o',q'⟩:=J.there0 hex T o q
   rw [(hcs T (noT o' q')).2] at q;cases q
 ·cases q:H T with
  | none=>rfl
  | some u =>
   obtain ⟨o,z⟩:=(J.hok T u q).there
   rw [(hcs T (noT o z)).1] at q;cases q
theorem zay {h':Heap} {e:Addr} {cls:Value} {vs:List Value} {E:XK} {EE:Value→Shared→Prop} (hst:X.stack=X.env :: X.outer∧X.env.frame=some X.env.locals) (hex:X.ex=[]) (J:Inv X pins σ H s) (hx:Heap.MadeExcOf s.heap h' e cls vs) (hE:E cls none H) :
  wpAny (model X.prog X.w) X.A (leaving X.env (.ref e)) (fun _ s2=>CX1 X.prog X.w X.outer X.H₀ X.s₀ E (.ref e) s2) EE { s with heap:=h' }:=by
 have fr:s.heap.FunFrames (gB s.heap (frs X.stack)) (X.env :: X.outer):=by
  have q:=iE (as:=frs X.stack) J.stack fun env he a ha=>fV.mpr ⟨env,he,ha⟩
  rw [hst.1] at q ⊢
  exact q
 refine wpAny_leaves_madeW (s:={ s with heap:=h' }) (base:=gB s.heap (frs X.stack)) (h:=s.heap) (by rw [J.ok.frames,hst.1]) hst.2 (fun b o q=>lI _ q) fr hx fun h2 t hfl _ _ hup=>?_
 obtain ⟨f1,f2,f3,f4⟩:=hfl
 have hF:∀ b o,s.heap.get? b=some o→b∈frs X.stack→∃ sl,h2.get? b=some { o with slots:=sl }:=fun b o q hb=>by
  obtain ⟨o',q',nf⟩:=J.stackFields hb
  rw [q] at q';cases q'
  exact hup b o (hx.keeps b o q) nf
 obtain ⟨r1,r2,r3⟩:=J.flown (cs:=[]) hex (fun b z=>nomatch z) (fun b o q n _=>iN _ q n) hF
  (by
   cases q:H e with
   | none=>rfl
   | some u =>
    obtain ⟨o,z⟩:=(J.hok e u q).there
    rw [hx.new] at z;cases z)
  (v3 (J.there0 hex) hx.new) f1 f4
 exact ⟨e,cls,H,rfl,J.os,J.bare,r1,r2,r3,hE⟩
theorem zbt {e:Addr} {cls:Value} {E:XK} {EE:Value→Shared→Prop} (hst:X.stack=X.env :: X.outer∧X.env.frame=some X.env.locals) (hex:X.ex=[]) (J:Inv X pins σ H s) (xf:XF X.s₀.heap s.heap H e cls) (hE:E cls none H) :
  wpAny (model X.prog X.w) X.A (leaving X.env (.ref e)) (fun _ s2=>CX1 X.prog X.w X.outer X.H₀ X.s₀ E (.ref e) s2) EE s:=by
 obtain ⟨oe,vs,a0,T,oT,ts,h1,h2,h3,h4,h5,h6,h7,h8,h9,h10,h11,h12⟩:=id xf
 have fr:s.heap.FunFrames (gB s.heap (frs X.stack ++ [e,T])) (X.env :: X.outer):=by
  have q:=iE (as:=frs X.stack ++ [e,T]) J.stack fun env he a ha=>cz _ (fV.mpr ⟨env,he,ha⟩)
  rw [hst.1] at q ⊢
  exact q
 refine wpAny_leaves_onW (base:=gB s.heap (frs X.stack ++ [e,T])) (a0:=a0) (by rw [J.ok.frames,hst.1]) hst.2
  ⟨fun b o q=>lI _ q,fS _ (bR _ (by simp)),fr,oe,vs,T,oT,ts,h1,h2,h3,h4,fS _ (bR _ (by simp)),h5,h6,h7,h8⟩ fun h2' hfl hup=>?_
 obtain ⟨f1,f2,f3,f4⟩:=hfl
 have hF:∀ b o,s.heap.get? b=some o→b∈frs X.stack→∃ sl,h2'.get? b=some { o with slots:=sl }:=fun b o q hb=>by
  obtain ⟨o',q',nf⟩:=J.stackFields hb
  rw [q] at q';cases q'
  exact hup b o q nf
 obtain ⟨r1,r2,r3⟩:=J.flown (cs:=[e,T]) hex (fun b z=>by
   have z':b=e∨b=T:=by simpa using z
   rcases z' with rfl | rfl
   ·exact ⟨h11,h9⟩
   ·exact ⟨h12,h10⟩) (fun b o q n n2=>iN _ q fun z=>(bP.mp z).elim n n2) hF h11 h9 f1 f4
 exact ⟨e,cls,H,rfl,J.os,J.bare,r1,r2,r3,hE⟩
end
def zbu (X:Cx) (E:XK):Prop:=∀ (pins:List (Addr × Obj)) (σ:St) (H:Hp) (s:Shared) (h':Heap) (e:Addr) (cls:Value) (vs:List Value),Inv X pins σ H s→Heap.MadeExcOf s.heap h' e cls vs→E cls none H→X.xe (.ref e) { s with heap:=h' }
section
variable {P:Program} {w:World} {K:bD} {mg:Str→Option Value} {base:Heap} {N:List Str} {qual:Str} {scope:Scope} {f:Addr} {cd:Value} {A:Around} {outer:List Env} {s₀:Shared} {H₀:Hp} {E:XK}
theorem xx:jf (CX1 P w) (kN (CX1 P w) P w K mg base N qual scope f cd A outer s₀ H₀ E) E:=by
 intro pins σ H s ev s' I hcx
 obtain ⟨e,cls,H',rfl,os,bare,un,hok,xf,hE⟩:=hcx
 have J:=I.call' (ch:=[]) os un hok bare (fun b z=>nomatch z)
 exact zbt (X:=kN (CX1 P w) P w K mg base N qual scope f cd A outer s₀ H₀ E) ⟨rfl,rfl⟩ rfl J (xf.older (I.there0 rfl)) hE
theorem Vb:zbu (kN (CX1 P w) P w K mg base N qual scope f cd A outer s₀ H₀ E) E:=by
 intro pins σ H s h' e cls vs I hx hE
 exact zay (X:=kN (CX1 P w) P w K mg base N qual scope f cd A outer s₀ H₀ E) ⟨rfl,rfl⟩ rfl I hx hE
theorem zfm:PassesOwn (model P w) (kN (CX1 P w) P w K mg base N qual scope f cd A outer s₀ H₀ E).A (kN (CX1 P w) P w K mg base N qual scope f cd A outer s₀ H₀ E).env (kN (CX1 P w) P w K mg base N qual scope f cd A outer s₀ H₀ E).xe:=PassesOwn.leaving
end
abbrev YS:List Value:=[.type "ValueError",.type "Exception",.type "BaseException",.type "object"]
abbrev jY:String:="ValueError.__new__"
def qe (C:Addr) (ta:TA) (E:XK):TS:=fun _ σ H=>ta σ H fun vs H1=>vs.length≤sizeLine∧E (.ref C) none H1
theorem zdD {K:bD} {h:Heap} {C:Addr} {bmB:List Value} {newId:String} (X:K.In h) (q:nA K C bmB newId=true) :
  ∃ bm N nm qn bs hdct sn sub ab col dd k0 k1 k2 k3 k5 mN,h.get? C=some (excClassObj nm qn C N bs bm hdct sn sub ab col dd k0 k1 k2 k3 k5 newId)∧h.Ns N mN∧mN "__init__"=none∧OwnTail h bmB bm:=by
 unfold nA at q
 split at q
 case h_2=>cases q
 rename_i dd cd sl ho
 split at q
 case h_2=>cases q
 rename_i C' bm k0 k1 k2 k3 n k5 hm hs
 rw [bV,bV,bV,bV,bV] at q
 obtain ⟨⟨⟨⟨⟨q1,q2⟩,q3⟩,q4⟩,q5⟩,q6⟩:=q
 obtain rfl:C'=C:=by simpa using q1
 obtain rfl:n=newId:=by simpa using q2
 obtain ⟨nm,bs,mro,ns,qn,hd,sn,sub,ab,col,del⟩:=cd
 have hdel:del=false:=by simpa using q3
 have hm':mro=.ref C' :: bm:=hm
 subst hdel hm'
 have hsl:sl=#[k0,k1,k2,k3,some (.builtin n),k5]:=by
  apply Array.ext'
  exact hs
 subst hsl
 exact ⟨bm,ns,nm,qn,bs,hd,sn,sub,ab,col,dd,k0,k1,k2,k3,k5,_,X _ _ ho,.of_isNs (W.isNs_of_in X q5),W.nsMap_none_of_in X q5 (by simpa using q6),W.tail_of_in X q4⟩
section
variable {X:Cx} {x:Str} {C:Addr} {np cpos pos:Pos} {e₀:Expr} {rest:List Expr} {ta:TA} {E:XK}
theorem YT (hc:X.calm=true) (q:nA X.K C YS jY=true) (hr:zbu X E) (hg:Gl X x) (hm:X.mg x=some (.ref C)) (ha:PA X (e₀ :: rest) ta)
  (he:starEach (e₀ :: rest) X.env=(false,eval e₀ X.env) :: starEach rest X.env:=by rfl) (hp:(backTo cpos (starEach rest X.env)).any (·.1)=false:=by rfl) (hd:(x == ("__debug__":Str))=false:=by decide) :
  PS X (.Raise (some (.Call (.Name x np) (e₀ :: rest) [] cpos)) none pos) (qe C ta E):=by
 intro pins s σ H D I h
 obtain ⟨tl,N,nm,qn,bs,hdct,sn,sub,ab,col,dd,k0,k1,k2,k3,k5,mN,hC,hN,hni,T⟩:=zdD I.ok.mod.kin q
 refine wpAny_Raise_call_subT (C:=C) (nm:=nm) (q:=qn) (N:=N) (bs:=bs) (bm:=tl) (hdct:=hdct) (sn:=sn) (sub:=sub) (ab:=ab) (col:=col) (dd:=dd) (k0:=k0) (k1:=k1) (k2:=k2) (k3:=k3) (k5:=k5) (newId:=jY)
  PySem.F.excBase_ValueError (mN:=mN) (T.hasType PySem.F.excBase_ValueError.hasBase) (I.ok.hd hc) (by rw [he];exact hp) hni (vo I hg hm ⟨rfl,?_⟩ hd)
 have hA:=ha cpos pins s σ H _ I h
 rw [he] at hA ⊢
 refine iJ (thn hA fun us s2 ⟨vs,H2,I2,r2,z2,q2⟩=>?_)
 exact ⟨rfl,by rw [← r2.length];exact z2,I2.bk _ _ hC,hN.keeps I2.bk,T.keeps I2.bk,fun h' e hm=>hr pins σ H2 s2 h' e _ _ I2 hm q2⟩
end
def Asc (x:Str):Prop:=∀ c∈x.cps.toList,c < 128
section
variable {X:Cx} {e:Expr} {te:TE} {a:Str} {j:Nat} {p1 p2 p3:Pos}
def V6 (te:TE):TE:=fun σ H Q=>te σ H fun v H1=>∃ x:Str,v=.str x∧x.length≤100000∧∀ y:Str,Q (.str y) H1
theorem QC (he:PE X e te) (hl:a.length≤1000:=by decide +kernel):PE X (.JoinedStr [.FormattedValue e (-1) none p2,.Constant (.str a) j p1] p3) (V6 te):=by
 intro pins s σ H Q I h
 refine wpAny_JoinedStr ?_
 show wpAny _ _ (eval (.FormattedValue e (-1) none p2) X.env) _ _ s
 refine lH (thn (he pins _ σ H _ I h) fun v s1 ⟨x,H1,I1,r1,z,ex,hz,q⟩=>?_)
 subst ex
 obtain ⟨t,rfl⟩:=r1
 have hs:sizeLine=16777216:=dw
 have e0:(gP ++ z).length=z.length:=by rw [eJ];simp [gP,gM]
 have fin:∀ (t':Tok) (tk:Nat),∃ y u,iS z t'=iS y u∧(gP ++ y).length≤sizeLine∧Joins (model X.prog X.w) X.A X.xe (evalEach [.Constant (.str a) j p1] X.env) (gP ++ y) (fun out s₁=>out.length≤sizeLine∧EP X pins σ Q (.str out s₁.toks) { s₁ with toks:=s₁.toks + 1 }) { s1 with toks:=tk }:=fun t' tk=>by
  refine ⟨_,_,rfl,by rw [e0];lia,?_⟩
  show wpAny _ _ (eval (.Constant (.str a) j p1) X.env) _ _ _
  have hz2:(gP ++ z ++ a).length≤sizeLine:=by rw [eJ,e0];lia
  refine gO ⟨a,_,rfl,hz2,hz2,.str _,H1,I1.tok _,⟨_,rfl⟩,q _⟩
 exact wpAny_formatField_str (fin _ _) (fin _ _) (by lia)
end
structure ExC (K:bD) (C:Addr):Prop where
 ga:dE K (.ref C) "__getattribute__"=some (some (.builtin "BaseException.__getattribute__"))
 gx:dE K (.ref C) "__getattr__"=some none
 cl:dE K (.ref C) "__class__"=some (some (.builtin "object.__class__"))
 ob:pY K C (.type "object")=some true
 be:pY K C (.type "BaseException")=some true
 ge:pQ K (.builtin "object.__class__") "__get__"=some (some (.builtin "getset_descriptor.__get__"))
 tk:W.takesIn K (.builtin "object.__class__")=some true
section
variable {X:Cx} {pins:List (Addr × Obj)} {σ:St} {H:Hp} {s:Shared}
theorem Inv.land {h2:Heap} {cs:List Addr} (hex:X.ex=[]) (I:Inv X pins σ H s) (hcs:∀ b∈cs,H b=none∧X.s₀.heap.get? b=none) (hcp:∀ b∈cs,∀ p∈X.pn ++ pins,p.1≠b)
  (hB:∀ b o,s.heap.get? b=some o→b ∉ frs X.stack→b ∉ cs→h2.get? b=some o) (sm:s.heap.UpToSlots h2):Inv X pins σ H { s with heap:=h2 }:=by
 have hF:∀ b o,s.heap.get? b=some o→b∈frs X.stack→∃ sl,h2.get? b=some { o with slots:=sl }:=fun b o q hb=>by
  obtain ⟨o',q',nf⟩:=I.stackFields hb
  rw [q] at q';cases q'
  exact sm b o q nf
 obtain ⟨r1,r2⟩:=I.behind hex hcs hB hF
 have ce:∀ c v,s.heap.IsCell c v→h2.IsCell c v:=fun c v ⟨o,ho,hd⟩=>by
  obtain ⟨sl,q⟩:=sm c o ho fun vs z=>by rw [hd] at z;cases z
  exact ⟨_,q,hd⟩
 refine ⟨I.ok,I.os,I.bare,by rw [hex];exact r1,?_,fun x c e=>?_,I.free,I.freeC,fun p hp=>?_,r2,I.len⟩
 ·obtain ⟨m,hn,hl⟩:=I.loc
  refine ⟨m,sm.ns hn,fun i x v e1 e2 e3=>?_⟩
  obtain ⟨u,r,l⟩:=hl i x v e1 e2 e3
  refine ⟨u,r,?_⟩
  rcases l with l | ⟨k,c,e,z⟩
  ·exact .inl l
  ·exact .inr ⟨k,c,e,ce c _ z⟩
 ·obtain ⟨v,z⟩:=I.cell x c e
  exact ⟨v,ce c v z⟩
 ·obtain ⟨e,n,ne,nf,d⟩:=I.pin p hp
  exact ⟨hB _ _ e (fun z=>(bK.mp (I.stkSub _ z)).elim ne nf) fun z=>hcp _ z p hp rfl,n,ne,nf,d⟩
end
abbrev Cx.sub (X:Cx) (e:Addr):Cx:={ X with A:=X.A.mark (some (.ref e)),calm:=false,xe:=fun _ _=>False }
section
variable {X:Cx} {pins:List (Addr × Obj)} {σ:St} {H:Hp} {s:Shared} {e:Addr}
theorem Inv.toSub (I:Inv X pins σ H s):Inv (X.sub e) pins σ H s :=
 ⟨⟨I.ok.mod,I.ok.kind,I.ok.glob,I.ok.blt,I.ok.above,I.ok.inj,I.ok.has,I.ok.cab,(fun z=>nomatch z),I.ok.frames,I.ok.stk,I.ok.exf,I.ok.bs,I.ok.bsz,I.ok.noex,I.ok.exfs,I.ok.funs,I.ok.frf⟩,I.os,I.bare,I.base,I.loc,I.cell,I.free,I.freeC,I.pin,I.hok,I.len⟩
theorem Inv.ofSub {J:Inv X pins σ H s} {σ':St} {H':Hp} {s':Shared} (I:Inv (X.sub e) pins σ' H' s'):Inv X pins σ' H' s' :=
 ⟨J.ok,I.os,I.bare,I.base,I.loc,I.cell,I.free,I.freeC,I.pin,I.hok,I.len⟩
end
abbrev EXK:=Value→St→Hp→Prop
def PX (X:Cx) (pins:List (Addr × Obj)) (EX:EXK):Value→Shared→Prop:=fun ev s'=>∃ e cls σ s1 H1 H',ev=.ref e∧Inv X pins σ H1 s1∧Inv X pins σ H' s'∧XF s1.heap s'.heap H' e cls∧EX cls σ H'
def PEX (X:Cx) (ex:Expr) (t:EXK→TE):Prop :=
 ∀ (pins:List (Addr × Obj)) (s:Shared) (σ:St) (H:Hp) (Q:VK) (EX:EXK),Inv X pins σ H s→t EX σ H Q→wpAny (model X.prog X.w) X.A (eval ex X.env) (EP X pins σ Q) (PX X pins EX) s
def PSX (X:Cx) (st:Stmt) (t:EXK→TS):Prop :=
 ∀ (pins:List (Addr × Obj)) (s:Shared) (σ:St) (H:Hp) (D:XQ) (EX:EXK),Inv X pins σ H s→t EX D σ H→wpAny (model X.prog X.w) X.A (exec st X.env) (SP X pins D) (PX X pins EX) s
section
variable {X:Cx} {ex:Expr} {tx:EXK→TE} {pos p1:Pos} {i:Nat} {y:Str}
def zeQ (tx:EXK→TE) (i:Nat) (EX:EXK):TS:=fun D σ H=>tx EX σ H fun v H1=>D.nx (σ.set i (some v)) H1
theorem zdE {pos':Pos} (hN:X.N.Nodup) (hi:X.N[i]?=some y) (hx:Loc X.env.scope y) (he:PEX X ex tx) (hs:swapsWith ex (some (.Name y pos')) pos.line X.env=pure false:=by rfl) (hf:X.fn y=true∨X.env.scope.names.lookup y=some .local:=by first | exact .inl rfl | exact .inr rfl | assumption) :
  PSX X (.Assign [.Name y pos'] ex pos) (zeQ tx i):=by
 intro pins s σ H D EX I h
 refine wpAny_Assign_Name (thn (he pins s σ H _ EX I h) fun v s1 ⟨x,H1,I1,r1,q1⟩=>?_) hs
 exact qH I1 hN hi hx r1 (fun s2 I2=>⟨_,H1,I2,q1⟩) hf
end
structure ExK (K:bD) (C:Addr):Prop extends ExC K C where
 has:(W.clsIn K C).isSome=true
theorem zq {P:Program} {w:World} {X:Cx}:jf (CX1 P w) X E0:=fun _ _ _ _ _ _ _ h=>by
 obtain ⟨_,_,_,_,_,_,_,_,_,z⟩:=h
 exact z.elim
section
variable {P:Program} {w:World} {K:bD} {mg:Str→Option Value} {base:Heap}
theorem Fun.ok1 {x qual:Str} {st:Stmt} {f:Addr} {fd:FuncData} {N ps:List Str} {k:Nat} {sp:Sp} (F:Fun K x qual st f fd) (S:zA N ps (zj st)) (len:∀ vs H Q E,sp vs H Q E→vs.length=ps.length)
  (hbody:∀ (cdv:Value) (A:Around) (outer:List Env) (s:Shared) (H:Hp) (vs:List V) (Q:VK) (E:XK),Room k (A.deeper (envOfC qual (zj st) s.heap.objs.size f cdv))→sp vs H Q E →
   ∃ t,PSs (kN (CX1 P w) P w K mg base N qual (zj st) f cdv A outer s H E) (yB st) t∧t { nx:=fun _ H'=>Q .non H',rt:=Q } (start N vs) H):FnOk P w K mg base (CX1 P w) (k + 1) f fd ps sp:=by
 obtain ⟨oc,od,kV,doc,pm,an,cdv,ct,osl,rfl,lk,hcd⟩:=F.ex
 exact zeN lk hcd S len fun A outer s H vs Q E hr hsp=>hbody cdv A outer s H vs Q E hr hsp
theorem Fun.ok0 {x qual:Str} {st:Stmt} {f:Addr} {fd:FuncData} {N ps:List Str} {k:Nat} {sp:Sp} (F:Fun K x qual st f fd) (S:zA N ps (zj st)) (len:∀ vs H Q E,sp vs H Q E→vs.length=ps.length)
  (hbody:∀ (cdv:Value) (A:Around) (outer:List Env) (s:Shared) (H:Hp) (vs:List V) (Q:VK) (E:XK),Room k (A.deeper (envOfC qual (zj st) s.heap.objs.size f cdv))→sp vs H Q E →
   ∃ t,PSs (kN (CX1 P w) P w K mg base N qual (zj st) f cdv A outer s H E).nox (yB st) t∧t { nx:=fun _ H'=>Q .non H',rt:=Q } (start N vs) H):FnOk P w K mg base (CX1 P w) (k + 1) f fd ps sp :=
 F.ok1 S len fun cdv A outer s H vs Q E hr h=>let ⟨t,a,b⟩:=hbody cdv A outer s H vs Q E hr h;⟨t,a.nox,b⟩
end
theorem walk_ofX {l:oE} {n k:Nat} {q:Program} {loose:List Str} {XP:(Str→Option Value)→Heap→Prop} {YP:World→Heap→Prop} {d:DefRec} {K:Params→bD} {sp:bD→Sp} {x:Str}
  (hn:l.most=some n) (hn2:n≤sizeLine) (hdf:d.params.defaults=[]) (hr:Room k callerA)
  (hY:∀ (w:World) (h:Heap),YP w h→(K w.params).In h)
  (F:∀ (w:World) (mg:Str→Option Value) (fa:Addr) (h:Heap),(K w.params).In h→h.Ns mainGlobals mg→mg d.name=some (.ref fa) →
   ∃ fd:FuncData,(∀ (s:Shared) (u:Value),BindsTo s fd ⟨[u],[]⟩ [(x,u)]) ∧
    ∀ base:Heap,(K w.params).In base→base.Ns mainGlobals mg→FnOk l.prog w (K w.params) mg base (CX1 l.prog w) k fa fd [x] (sp (K w.params)))
  (hsp:∀ (K:bD) (H:Hp) (a:Addr) (ns:List Int),ns.length≤n→Kx H→SqL K H a (ns.map V.int)→sp K [.ref a] H (fun v _=>v=.bl true) fun _ _ _=>False) :
  pZ q loose XP YP l.row.toRowW d [] (fun f vs=>md f vs) :=
 Qw (K:=K) (CX:=fun w=>CX1 l.prog w) (sp:=fun w=>sp (K w.params)) hn hn2 hdf hr hY F (fun w H a ns h1 h2 h3=>hsp (K w.params) H a ns h1 h2 h3) fun _ _ _ _ _ z=>by
  obtain ⟨_,_,_,_,_,_,_,_,_,y⟩:=z
  exact y
end L2
namespace L2
open PySem
section
variable {σ:St} {H:Hp} {nx:St→Hp→Prop} {B:V→St→Hp→(St→Hp→Prop)→Prop}
theorem xO {lo:Int} {n:Nat} (Pv:Nat→St→Hp→Prop) (h0:Pv 0 σ H) (hs:∀ i σ H,i < n→Pv i σ H→B (.int (lo + i)) σ H (Pv (i + 1))) (hd:∀ σ H,Pv n σ H→nx σ H) :
  ∃ W:Nat→Nat→St→Hp→Prop,(∃ m,W 0 m σ H)∧∀ i m σ H,W i m σ H→((Itr lo n).stop i H∧nx σ H)∨((Itr lo n).go i H∧∃ N:St→Hp→Prop,(∀ σ' H',N σ' H'→∃ m',m' < m∧W (i + 1) m' σ' H')∧∀ x H',(Itr lo n).yld i H x H'→B x σ H' N):=by
 refine ⟨fun i m σ H=>m=n - i∧i≤n∧Pv i σ H,⟨n,by simp,bY _,h0⟩,?_⟩
 rintro i m σ H ⟨rfl,hi,p⟩
 by_cases hlt:i < n
 ·refine .inr ⟨hlt,Pv (i + 1),fun σ' H' p'=>⟨n - (i + 1),by lia,rfl,hlt,p'⟩,?_⟩
  rintro x H' ⟨rfl,rfl⟩
  exact hs i σ _ hlt p
 ·obtain rfl:i=n:=by lia
  exact .inl ⟨bj _,hd σ H p⟩
theorem xy {K:bD} {a:Addr} (xs:List V) (Pv:Nat→St→Hp→Prop) (h0:Pv 0 σ H) (hl:∀ i σ H,Pv i σ H→SqL K H a xs) (hs:∀ i x σ H,xs[i]?=some x→Pv i σ H→B x σ H (Pv (i + 1))) (hd:∀ σ H,Pv xs.length σ H→nx σ H) :
  ∃ W:Nat→Nat→St→Hp→Prop,(∃ m,W 0 m σ H)∧∀ i m σ H,W i m σ H→((Itl K a).stop i H∧nx σ H)∨((Itl K a).go i H∧∃ N:St→Hp→Prop,(∀ σ' H',N σ' H'→∃ m',m' < m∧W (i + 1) m' σ' H')∧∀ x H',(Itl K a).yld i H x H'→B x σ H' N):=by
 refine ⟨fun i m σ H=>m=xs.length - i∧i≤xs.length∧Pv i σ H,⟨xs.length,by simp,bY _,h0⟩,?_⟩
 rintro i m σ H ⟨rfl,hi,p⟩
 have q:=hl i σ H p
 by_cases hlt:i < xs.length
 ·refine .inr ⟨⟨xs,xs[i],q,by simp [hlt]⟩,Pv (i + 1),fun σ' H' p'=>⟨xs.length - (i + 1),by lia,rfl,hlt,p'⟩,?_⟩
  rintro x H' ⟨rfl,y⟩
  exact hs i x σ _ (y xs q) p
 ·obtain rfl:i=xs.length:=by lia
  exact .inl ⟨⟨xs,q,bj _⟩,hd σ H p⟩
theorem zbv {K:bD} {a:Addr} (xs:List V) (Pv:Nat→St→Hp→Prop) (h0:Pv 0 σ H) (hl:∀ i σ H,Pv i σ H→SqT K H a xs) (hs:∀ i x σ H,xs[i]?=some x→Pv i σ H→B x σ H (Pv (i + 1))) (hd:∀ σ H,Pv xs.length σ H→nx σ H) :
  ∃ W:Nat→Nat→St→Hp→Prop,(∃ m,W 0 m σ H)∧∀ i m σ H,W i m σ H→((Itt K a).stop i H∧nx σ H)∨((Itt K a).go i H∧∃ N:St→Hp→Prop,(∀ σ' H',N σ' H'→∃ m',m' < m∧W (i + 1) m' σ' H')∧∀ x H',(Itt K a).yld i H x H'→B x σ H' N):=by
 refine ⟨fun i m σ H=>m=xs.length - i∧i≤xs.length∧Pv i σ H,⟨xs.length,by simp,bY _,h0⟩,?_⟩
 rintro i m σ H ⟨rfl,hi,p⟩
 have q:=hl i σ H p
 by_cases hlt:i < xs.length
 ·refine .inr ⟨⟨xs,xs[i],q,by simp [hlt]⟩,Pv (i + 1),fun σ' H' p'=>⟨xs.length - (i + 1),by lia,rfl,hlt,p'⟩,?_⟩
  rintro x H' ⟨rfl,y⟩
  exact hs i x σ _ (y xs q) p
 ·obtain rfl:i=xs.length:=by lia
  exact .inl ⟨⟨xs,q,bj _⟩,hd σ H p⟩
end
theorem V7 {J:It} {D:Addr} {τ₀:St} {H1:Hp} {Q:Hp→Prop} {B:V→St→Hp→(V→St→Hp→Prop)→(St→Hp→Prop)→Prop} (n:Nat) (hn:n≤1000000) (C:St→Prop) (R:Nat→V→Prop) (hC:C τ₀)
  (go:∀ i H,Same H1 H→i < n→J.go i H) (stop:∀ H,Same H1 H→J.stop n H) (hD:H1 D=none)
  (hs:∀ i x τ H H',C τ→Same H1 H→i < n→J.yld i H x H'→B x τ H' (fun v τ' H4=>C τ'∧R i v∧Same H H4) (fun _ _=>False))
  (hd:∀ ys H,ys.length=n→(∀ i v,ys[i]?=some v→R i v)→Same H1 H→H D=some (.lst ys)→Q H) :
  ∃ W:Nat→Nat→List V→St→Hp→Prop,(∃ m,W 0 m [] τ₀ (upd H1 D (.lst [])))∧∀ i m ys τ H,W i m ys τ H→H D=some (.lst ys) ∧
  ((J.stop i H∧Q H)∨(J.go i H∧ys.length < sizeLine∧∃ N:V→St→Hp→Prop,
   (∀ v τ' H',N v τ' H'→H' D=some (.lst ys)∧∃ m',m' < m∧W (i + 1) m' (ys ++ [v]) τ' (upd H' D (.lst (ys ++ [v]))))∧∃ Nf:St→Hp→Prop,(∀ τ' H',Nf τ' H'→∃ m',m' < m∧W (i + 1) m' ys τ' H') ∧
   ∀ x H',J.yld i H x H'→B x τ H' N Nf)):=by
 have ext:∀ {H:Hp} {o:HO},Same H1 H→Same H1 (upd H D o):=fun {H o} h b u e=>by
  rw [zk (zP e hD)];exact h b u e
 refine ⟨fun i m ys τ H=>m=n - i∧i≤n∧ys.length=i∧(∀ j v,ys[j]?=some v→R j v)∧Same H1 H∧H D=some (.lst ys)∧C τ,⟨n,by simp,bY _,rfl,by simp,ext (Same.refl _),ze,hC⟩,?_⟩
 rintro i m ys τ H ⟨rfl,hi,hl,hR,hS,hy,hc⟩
 refine ⟨hy,?_⟩
 by_cases hlt:i < n
 ·refine .inr ⟨go i H hS hlt,b0 (by lia:ys.length≤1000000) (by decide),(fun v τ' H4=>C τ'∧R i v∧Same H H4),?_,(fun _ _=>False),fun _ _ z=>z.elim,fun x H' y=>hs i x τ H H' hc hS hlt y⟩
  rintro v τ' H4 ⟨c4,r4,s4⟩
  refine ⟨s4 _ _ hy,n - (i + 1),by lia,rfl,hlt,by simp [hl],fun j u hj=>?_,ext (hS.trans s4),ze,c4⟩
  rcases Nat.lt_trichotomy j ys.length with h | h | h
  ·exact hR j u (by rwa [dG h] at hj)
  ·subst h
   simp at hj
   subst hj
   rw [hl];exact r4
  ·rw [cK (by simp;lia)] at hj;cases hj
 ·obtain rfl:i=n:=by lia
  exact .inl ⟨stop H hS,hd ys H hl hR hS hy⟩
theorem Vc (n d:Nat) (v:Int):max (0:Int) (min (if v < 0 then v + n else v) n)=((HT.sIx n d (some v):Nat):Int):=by
 show _=(((if v < 0 then (v + (n:Int)).toNat else min v.toNat n):Nat):Int)
 by_cases hv:v < 0
 ·simp only [if_pos hv];lia
 ·simp only [if_neg hv];lia
theorem zdF (a b:Nat):sliceRange (a:Int) (b:Int) 1=(bN (b - a)).map fun k=>a + k:=by
 simp only [sliceRange,show ((1:Int) > 0)=True from by simp,if_true]
 by_cases hlt:(a:Int) < b
 ·have e3:(((b:Int) - a + 1 - 1) / 1).toNat=b - a:=by rw [Int.ediv_one];lia
  simp only [hlt,if_true,e3]
  refine dJ fun k _=>?_
  lia
 ·have:b - a=0:=by lia
  simp [hlt,this]
theorem zbw (lo hi:Option Int) (n:Nat):iZ lo hi 1 n=(bN (HT.sIx n n hi - HT.sIx n 0 lo)).map fun k=>HT.sIx n 0 lo + k:=by
 rw [← zdF]
 unfold iZ
 simp only [show ((1:Int) > 0)=True from by simp,if_true]
 cases lo with
 | none =>
  cases hi with
  | none=>rfl
  | some v=>simp only [Vc n n v];rfl
 | some u =>
  cases hi with
  | none=>simp only [Vc n 0 u];rfl
  | some v=>simp only [Vc n n v,Vc n 0 u]
theorem Wt (x:Str) (lo hi:Option Int):(fP x lo hi).cps.toList=(x.cps.toList.drop (HT.sIx x.length 0 lo)).take (HT.sIx x.length x.length hi - HT.sIx x.length 0 lo):=by
 have hb:=HT.sIx_le x.length x.length (bj _) hi
 have hn:x.cps.toList.length=x.length:=by simp [gM]
 unfold fP
 rw [zbw]
 split
 ·rename_i h
  have h':HT.sIx x.length x.length hi - HT.sIx x.length 0 lo=x.length:=by simpa using h
  have e0:HT.sIx x.length 0 lo=0∨x.length=0:=by lia
  rcases e0 with e0 | e0
  ·rw [e0,ii,cC]
   lia
  ·rw [fQ (by lia:x.cps.toList.length=0)];simp
 ·by_cases hab:HT.sIx x.length 0 lo≤HT.sIx x.length x.length hi
  ·have h:=StrLaws.picks x.cps.toList (HT.sIx x.length x.length hi - HT.sIx x.length 0 lo) (HT.sIx x.length 0 lo) (by lia)
   simpa using h
  ·have:HT.sIx x.length x.length hi - HT.sIx x.length 0 lo=0:=by lia
   rw [this];simp
theorem YU (x:Str) (k:Nat):(fP x (some (k:Int)) none).cps.toList=x.cps.toList.drop k:=by
 rw [Wt,HT.sIx_none,HT.sIx_nat]
 have hn:x.cps.toList.length=x.length:=by simp [gM]
 by_cases h:k≤x.length
 ·rw [gd h,cC (by rw [et];lia)]
 ·rw [m4 (by lia:x.cps.toList.length≤k),gH (by lia),m4 (by lia)];simp
theorem V8 (x:Str) (k:Nat):(fP x none (some (k:Int))).cps.toList=x.cps.toList.take k:=by
 rw [Wt,HT.sIx_none,HT.sIx_nat,ii,nB]
 have hn:x.cps.toList.length=x.length:=by simp [gM]
 by_cases h:k≤x.length
 ·rw [gd h]
 ·rw [gH (by lia),cC (by lia),cC (by lia)]
theorem zdG {x y:Str} (h:x.cps.toList=y.cps.toList):x=y:=by
 obtain ⟨a⟩:=x
 obtain ⟨b⟩:=y
 have:a=b:=fR.mp h
 rw [this]
theorem zdH (x y:Str):(x ++ y).cps.toList=x.cps.toList ++ y.cps.toList:=by
 show (x.cps ++ y.cps).toList=_
 simp
open PySem.NumText in
section
def zgK (w:Int):Str:=bf (toString w)
theorem Yw (x:Str):x.length=x.cps.toList.length:=by simp [gM]
def inF (c:Nat):Bool:=!(mF "0123456789" ⟨#[c]⟩ 0 (gM "0123456789") 1).isEmpty
def zge (x:Str):Bool:=!decide (x="") && x.cps.toList.all inF
def inW (i:Int):Bool:=decide (-1000000000000000000000000000000≤i∧i≤1000000000000000000000000000000)
def zeR (x:Str):Str:=if (x.cps.toList.take 1 == [45])=true then fP x (some 1) none else x
def zbx (x:Str):Int:=(intText? x).getD 0
def zgf (x:Str):Bool:=!(decide (31 < (zeR x).length) || !zge (zeR x)) && (inW (zbx x) && decide (zgK (zbx x)=x))
end
end L2
namespace L2
open PySem PySem.Spec PyProof.Rows
theorem xG (x y:Str):(x ++ y).length=x.length + y.length:=eJ x y
def zeS (_ j:Int):Prop:=j≠0∧-big < j∧j < big
section
variable {X:Cx}
theorem zby:OpR X (binaryOp .FloorDiv) (rI zeS fun i j=>.int (i.fdiv j)):=opI fun i j _ _ _ _ _ hc q =>
 floordiv_int hc.1 q (.inl (mj (o8 (YR (W9 hc.2)) (by decide))))
end
theorem Vd {k:Nat} {A:Around} (r:Room k A):A.units + 64 < cLine:=by have:=r.un;lia
def jQ:V→PyData
 | .non=>.none
 | .bl b=>.bool b
 | .int i=>.int i
 | .str x=>.str x
 | _=>.none
def yr:V→Bool
 | .non=>true
 | .bl _=>true
 | .int _=>true
 | .str x=>cf x
 | _=>false
theorem Asc.flat {x:Str} (h:Asc x):yr (.str x)=true:=by
 unfold yr cf
 rw [Array.all_eq_true]
 intro i hi
 have:=h x.cps[i] (by simp)
 exact decide_eq_true (by lia)
def zfn:V→V→Bool
 | .bl _,.int _=>false
 | .int _,.bl _=>false
 | _,_=>true
def Ve:List V→List V→Bool
 | x :: xs,y :: ys=>zfn x y && Ve xs ys
 | _,_=>true
theorem wS:∀ {xs:List V} {us:List Value},xs.all yr=true→Vals xs us→CarriedAll us (xs.map jQ)
 | [],_,_,.nil=>.nil
 | x :: r,_,h,.cons rx t=>by
  rw [gq,bV] at h
  refine .cons ?_ (wS h.2 t)
  cases x with
  | non=>cases rx;exact .none
  | bl b=>cases rx;exact .bool b
  | int i=>obtain ⟨t,rfl⟩:=rx;exact .int i t
  | str x=>obtain ⟨t,rfl⟩:=rx;exact .str x t
  | byt b=>exact absurd h.1 (by simp [yr])
  | flt b=>exact absurd h.1 (by simp [yr])
  | ref a=>exact absurd h.1 (by simp [yr])
  | ty n=>exact absurd h.1 (by simp [yr])
theorem zbz {x y:V} (hx:yr x=true) (hy:yr y=true):pS (jQ x) (jQ y)=decide (x=y):=by
 cases x <;> cases y <;> simp_all [yr,jQ,pS] <;> (rename_i a b;by_cases e:a=b <;> simp [e])
theorem jZ:∀ {xs ys:List V},xs.all yr=true→ys.all yr=true→lQ (xs.map jQ) (ys.map jQ)=decide (xs=ys)
 | [],[],_,_=>by simp [lQ]
 | [],_ :: _,_,_=>by simp [lQ]
 | _ :: _,[],_,_=>by simp [lQ]
 | x :: r,y :: t,hx,hy=>by
  rw [gq,bV] at hx hy
  rw [bX,bX,lQ,zbz hx.1 hy.1,jZ hx.2 hy.2]
  by_cases a:x=y <;> by_cases b:r=t <;> simp [a,b]
theorem zaz {x y:V} (hx:yr x=true) (hy:yr y=true) (h:zfn x y=true):oh (jQ x) (jQ y)=true:=by
 cases x <;> cases y <;> simp_all [yr,jQ,oh,zfn]
theorem jk:∀ {xs ys:List V},xs.all yr=true→ys.all yr=true→Ve xs ys=true→ik (xs.map jQ) (ys.map jQ)=true
 | [],[],_,_,_=>by simp [ik]
 | [],_ :: _,_,_,_=>by simp [ik]
 | _ :: _,[],_,_,_=>by simp [ik]
 | x :: r,y :: t,hx,hy,h=>by
  rw [gq,bV] at hx hy
  rw [Ve,bV] at h
  rw [bX,bX,ik,zaz hx.1 hy.1 h.1,jk hx.2 hy.2 h.2]
  rfl
theorem jl {xs:List V} (h:xs.all yr=true):iq (.list (xs.map jQ))=true∧iq (.tuple (xs.map jQ))=true:=by
 have a:∀ x,yr x=true→(jQ x).canLay0=true∧(jQ x).depth=0:=fun x=>by cases x <;> simp [jQ,fh,dF,yr]
 have l:∀ ys:List V,ys.all yr=true→gr (ys.map jQ)=true∧cj (ys.map jQ)=0:=by
  intro ys
  induction ys with
  | nil=>exact fun _=>⟨rfl,rfl⟩
  | cons y r ih =>
   intro h
   rw [gq,bV] at h
   exact ⟨by rw [bX,gr,(a y h.1).1,(ih h.2).1];rfl,by rw [bX,cj,(a y h.1).2,(ih h.2).2];rfl⟩
 exact ⟨by simp [iq,fh,dF,(l xs h).1,(l xs h).2],by simp [iq,fh,dF,(l xs h).1,(l xs h).2]⟩
abbrev zgg (K:bD) (neg:Bool):R2:=fun x y H Q=>∃ a b xs ys,x=.ref a∧y=.ref b∧SqL K H a xs∧SqL K H b ys∧(xs.all yr=true∧ys.all yr=true∧Ve xs ys=true)∧Q (.bl (if neg then !decide (xs=ys) else decide (xs=ys))) H
section
variable {X:Cx}
theorem zfo (hu:X.A.units + 64 < cLine):OpR X (compareOp .Eq) (zgg X.K false):=by
 intro pins s σ H x y v u Q I rx ry h
 obtain ⟨a,b,xs,ys,rfl,rfl,ha,hb,⟨f1,f2,f3⟩,q⟩:=h
 cases rx
 cases ry
 obtain ⟨us,r1,p1,_⟩:=I.list ha
 obtain ⟨ws,r2,p2,_⟩:=I.list hb
 refine eq_dataH_same (mG p1.isList (wS f1 r1)) (mG p2.isList (wS f2 r2)) (jl f1).1 (jl f2).1 hu (by rw [oh];exact jk f1 f2 f3) ?_
 rw [pS,jZ f1 f2]
 exact ⟨.bl _,H,I,rfl,q⟩
theorem zfp (hu:X.A.units + 64 < cLine):OpR X (compareOp .NotEq) (zgg X.K true):=by
 intro pins s σ H x y v u Q I rx ry h
 obtain ⟨a,b,xs,ys,rfl,rfl,ha,hb,⟨f1,f2,f3⟩,q⟩:=h
 cases rx
 cases ry
 obtain ⟨us,r1,p1,_⟩:=I.list ha
 obtain ⟨ws,r2,p2,_⟩:=I.list hb
 refine ne_dataH_same (mG p1.isList (wS f1 r1)) (mG p2.isList (wS f2 r2)) (jl f1).1 (jl f2).1 hu (by rw [oh];exact jk f1 f2 f3) ?_
 rw [pS,jZ f1 f2]
 exact ⟨.bl _,H,I,rfl,q⟩
abbrev Zr (K:bD):R2:=fun x y H Q=>∃ a b xs,x=.ref a∧y=.ref b∧SqL K H a xs∧SqL K H b []∧Q (.bl (decide (xs=[]))) H
theorem YV (hu:X.A.units + 64 < cLine):OpR X (compareOp .Eq) (Zr X.K):=by
 intro pins s σ H x y v u Q I rx ry h
 obtain ⟨a,b,xs,rfl,rfl,ha,hb,q⟩:=h
 by_cases e:xs=[]
 ·subst e
  exact zfo hu pins s σ H _ _ v u Q I rx ry ⟨a,b,[],[],rfl,rfl,ha,hb,⟨rfl,rfl,rfl⟩,q⟩
 ·cases rx
  cases ry
  obtain ⟨us,r1,p1,_⟩:=I.list ha
  obtain ⟨ws,r2,p2,_⟩:=I.list hb
  cases r2
  have e1:=r1.length
  have e2:xs.length≠0:=fun z=>e (fQ z)
  refine PySem.SeqAt.eq_list_lengthsAt p1.isList p2.isList (by simp;intro z;rw [z] at e1;exact e2 e1) (by lia) ?_
  rw [decide_eq_false e] at q
  exact ⟨.bl false,H,I,rfl,q⟩
end
abbrev yc:RM:=jh
abbrev j2:RM:=zdy
def jw:List V:=[.str "plus",.str "minus",.str "times",.str "over",.str "rest",.str "under",.str "same"]
def isJ (v:V):Bool:=inV v jw
inductive Er where
 | nought | great | stuck
 deriving DecidableEq
def wT (w:Str) (a b:Int):Int :=
 if w="plus" then a + b else if w="minus" then a - b else if w="times" then a * b else if w="under" then (if a < b then 1 else 0) else if w="same" then (if a=b then 1 else 0) else if w="over" then a.fdiv b else a.fmod b
def ZU (w:Str):Prop:=¬ w="plus"∧¬ w="minus"∧¬ w="times"∧¬ w="under"∧¬ w="same"
instance (w:Str):Decidable (ZU w):=by unfold ZU;infer_instance
def wH (w:Str) (a b:Int):Except Er Int:=if ZU w∧b=0 then .error .nought else if inW (wT w a b)=true then .ok (wT w a b) else .error .great
def Vf (kvs:List (Key × V)):V→Int
 | .int i=>i
 | .str x=>(match yf kvs (.inr x) with | some (.int i)=>i | _=>0)
 | _=>0
def xH (kvs:List (Key × V)) (st:List Int) (v:V):Except Er (List Int) :=
 if isJ v=true then (match v,st.reverse with | .str w,b :: a :: r=>(match wH w a b with | .ok c=>.ok (r.reverse ++ [c]) | .error e=>.error e) | _,_=>.error .stuck) else .ok (st ++ [Vf kvs v])
def xP (kvs:List (Key × V)):List V→List Int→Except Er (List Int)
 | [],st=>.ok st
 | v :: r,st=>match xH kvs st v with | .ok st'=>xP kvs r st' | .error e=>.error e
section
variable {kvs:List (Key × V)}
theorem j3:∀ (p q:List V) (st:List Int),xP kvs (p ++ q) st=match xP kvs p st with | .ok st'=>xP kvs q st' | .error e=>.error e
 | [],q,st=>rfl
 | v :: r,q,st=>by
  show (match xH kvs st v with | .ok st'=>xP kvs (r ++ q) st' | .error e=>.error e)=match (match xH kvs st v with | .ok st'=>xP kvs r st' | .error e=>.error e) with | .ok st'=>xP kvs q st' | .error e=>.error e
  cases xH kvs st v with
  | error e=>rfl
  | ok st'=>exact j3 r q st'
def Good (kvs:List (Key × V)) (ps:List V) (r:Except Er Int):Prop:=(∀ st,xP kvs ps st=match r with | .ok i=>.ok (st ++ [i]) | .error e=>.error e)∧r≠.error .stuck
theorem zaA {v:V} (h:isJ v=false):Good kvs [v] (.ok (Vf kvs v)):=by
 refine ⟨fun st=>?_,fun z=>nomatch z⟩
 unfold xP xH
 rw [h,if_neg (by decide)]
 rfl
def zeT (w:Str) (r1 r2:Except Er Int):Except Er Int:=match r1 with | .error e=>.error e | .ok a=>match r2 with | .error e=>.error e | .ok b=>wH w a b
theorem zbA (w:Str) (a b:Int):wH w a b≠.error .stuck:=by
 unfold wH
 split
 ·exact fun z=>nomatch z
 ·split <;> exact fun z=>nomatch z
theorem zaB {w:Str} {p1 p2:List V} {r1 r2:Except Er Int} (hw:isJ (.str w)=true) (g1:Good kvs p1 r1) (g2:Good kvs p2 r2):Good kvs (p1 ++ p2 ++ [.str w]) (zeT w r1 r2):=by
 refine ⟨fun st=>?_,?_⟩
 ·rw [j3,j3,g1.1]
  cases r1 with
  | error e=>rfl
  | ok a =>
   show (match xP kvs p2 (st ++ [a]) with | .ok st'=>xP kvs [.str w] st' | .error e=>.error e)=_
   rw [g2.1]
   cases r2 with
   | error e=>rfl
   | ok b =>
    show xP kvs [.str w] (st ++ [a] ++ [b])=match wH w a b with | .ok i=>.ok (st ++ [i]) | .error e=>.error e
    unfold xP xH
    rw [hw,if_pos rfl]
    simp only [oj,fA,pC,bQ,bI,eK]
    cases wH w a b with
    | error e=>rfl
    | ok c=>simp [xP]
 ·unfold zeT
  cases r1 with
  | error e=>exact g1.2
  | ok a =>
   cases r2 with
   | error e=>exact g2.2
   | ok b=>exact zbA w a b
theorem QD {ps:List V} {i:Nat} {st:List Int} {e:Er} (h:xP kvs (ps.take i) st=.error e):xP kvs ps st=.error e:=by
 have:=j3 (kvs:=kvs) (ps.take i) (ps.drop i) st
 rw [eZ,h] at this
 exact this
theorem zdI {ps:List V} {i:Nat} {st st0:List Int} {v:V} (h:xP kvs (ps.take i) st0=.ok st) (hv:ps[i]?=some v):xP kvs (ps.take (i + 1)) st0=xH kvs st v:=by
 rw [cM,hv]
 show xP kvs (ps.take i ++ [v]) st0=_
 rw [j3,h]
 show (match xH kvs st v with | .ok st'=>xP kvs [] st' | .error e=>.error e)=_
 cases xH kvs st v <;> rfl
end
def jm (v:V):Prop:=(∃ i,v=.int i∧inW i=true)∨∃ x:Str,v=.str x∧x.length≤1000
def yv (kvs:List (Key × V)):Prop:=∀ k v,yf kvs k=some v→∃ i,v=.int i∧inW i=true
theorem V9 {kvs:List (Key × V)} (h:yv kvs) {v:V} (hv:jm v):inW (Vf kvs v)=true:=by
 rcases hv with ⟨i,rfl,hi⟩ | ⟨x,rfl,_⟩
 ·exact hi
 ·show inW (match yf kvs (.inr x) with | some (.int i)=>i | _=>0)=true
  cases e:yf kvs (.inr x) with
  | none=>rfl
  | some u =>
   obtain ⟨i,rfl,hi⟩:=h _ _ e
   exact hi
theorem inW_iff {i:Int}:inW i=true↔-1000000000000000000000000000000≤i∧i≤1000000000000000000000000000000:=by unfold inW;rw [decide_eq_true_eq]
theorem Vg {i:Int} (h:inW i=true):-big < i∧i < big:=by
 have:=inW_iff.mp h
 have hb:(1000000000000000000000000000001:Int) < big:=by decide +kernel
 lia
def Itv (K:bD) (a:Addr) (xs:List V):It:=⟨fun i H=>i < xs.length∧SqL K H a xs,fun i H x H'=>H'=H∧xs[xs.length - 1 - i]?=some x,fun i _=>xs.length≤i⟩
theorem zbB {P:Program} {w:World} {K:bD} {tg:Expr} (a it:Addr) (xs:List V):VV P w K tg (Itv K a xs) [it] it (fun i h=>i≤xs.length∧h.IsRevIter it a ((xs.length:Int) - 1 - (i:Int))) where
 mem:=by simp
 obj:=fun i h st b hb=>by
  have e:b=it:=by simpa using hb
  subst e
  obtain ⟨_,o,e,c,d⟩:=st
  exact ⟨o,e,fun v z=>by rw [d] at z;cases z⟩
 keep:=fun i h h' st k=>⟨st.1,st.2.at fun o e=>k it (by simp) o e⟩
 item:=by
  intro X hP hw hK hc i pins s σ H E I hf st hg
  subst hP hw hK
  obtain ⟨hi,hq⟩:=hg
  obtain ⟨its,rv,p,hz⟩:=I.list hq
  have hl:=rv.length
  obtain ⟨u,hu,ru⟩:=rv.get (i:=xs.length - 1 - i) (x:=xs[xs.length - 1 - i]'(by lia)) (ba (by lia))
  obtain ⟨f0,f1,f2,f3,f4,f5⟩:=hf it (by simp)
  have st2:=st.2
  have e1:(xs.length:Int) - 1 - (i:Int)=((xs.length - 1 - i:Nat):Int):=by lia
  rw [e1] at st2
  refine wpAny_pyNext_rev_item st2 p.isList (x:=u) (by simpa using hu) fun h' st' sb=>?_
  have I1:Inv X pins σ H { s with heap:=h' }:=I.turned (t':=s.toks) (fun b o hb e=>(sb.2 b hb).trans e) f0 f1 f3 f4 f5
  have e2:((xs.length - 1 - i:Nat):Int) - 1=(xs.length:Int) - 1 - ((i + 1:Nat):Int):=by lia
  rw [e2] at st'
  obtain ⟨o,e,c,d⟩:=id st'
  exact ⟨u,rfl,VW (s:={ s with heap:=h' }) e c d (by decide) ⟨_,H,I1,ru,⟨rfl,ba (by lia)⟩,⟨hi,st'⟩,fun b hb=>(hf b hb).1⟩⟩
 done:=by
  intro X hP hw hK hc i pins s σ H E I hf st hg
  subst hP hw hK
  obtain ⟨f0,f1,f2,f3,f4,f5⟩:=hf it (by simp)
  have hi:i=xs.length:=Nat.le_antisymm st.1 hg
  have st2:=st.2
  rw [hi,show (xs.length:Int) - 1 - (xs.length:Int)=-1 by lia] at st2
  exact wpAny_pyNext_rev_end (I.ok.hd hc) st2 fun h' eb=>⟨rfl,I.turned (t':=s.toks) (fun b o hb e=>eb b o hb e) f0 f1 f3 f4 f5⟩
 self:=fun _ _ _ _ _ st h=>iK st.2 h
def zfq (K:bD) (ta:TA):TI:=fun σ H R=>ta σ H fun vs H1=>∃ a xs,vs=[.ref a]∧SqL K H1 a xs∧R (Itv K a xs) H1
section
variable {X:Cx} {tg:Expr}
theorem zfr {a:Expr} {ta:TA} {p pos:Pos} (hg:Gl X "reversed") (hm:X.mg "reversed"=none) (ha:PA X [a] ta) (hs:starEach [a] X.env=[(false,eval a X.env)]:=by rfl):PI X tg (.Call (.Name "reversed" p) [a] [] pos) (zfq X.K ta):=by
 intro pins s σ H R I h
 refine Call_ (wQ I hg hm ZT (cJ (thn (ha pos pins s σ H _ I h) fun us s1 ⟨vs,H1,I1,r1,q1⟩=>?_) hs rfl))
 obtain ⟨b,xs,e,hq,q⟩:=q1
 subst e
 cases r1 with
 | cons r rr =>
  cases rr
  cases r
  obtain ⟨its,rv,pl,hz⟩:=I1.list hq
  have hl:=rv.length
  refine call_reversed_list pl.isList ?_
  have st:(s1.heap.push (revObj b ((its.toArray.size:Int) - 1))).IsRevIter s1.heap.objs.size b ((xs.length:Int) - 1 - ((0:Nat):Int)):=⟨_,bz _ rfl,rfl,by
   show pN _=_
   rw [show ((its.toArray.size:Nat):Int) - 1=(xs.length:Int) - 1 - ((0:Nat):Int) by simp;lia]⟩
  refine iK (s:={ s1 with heap:=_ }) st ?_
  refine ⟨s1.heap.objs.size,[s1.heap.objs.size],_,_,H1,rfl,I1.kept (t':=s1.toks) fun b o e=>bh _ e,zbB b _ xs,⟨bY _,st⟩,fun c hc=>?_,q⟩
  have e:c=s1.heap.objs.size:=by simpa using hc
  subst e
  exact I1.fpOk (bj _) (I1.hok.fresh (bj _))
end
section
variable {σ:St} {H:Hp} {nx:St→Hp→Prop} {B:V→St→Hp→(St→Hp→Prop)→Prop}
theorem zbC {K:bD} {a:Addr} (xs:List V) (Pv:Nat→St→Hp→Prop) (h0:Pv 0 σ H) (hl:∀ i σ H,Pv i σ H→SqL K H a xs) (hs:∀ i x σ H,i < xs.length→xs[xs.length - 1 - i]?=some x→Pv i σ H→B x σ H (Pv (i + 1))) (hd:∀ σ H,Pv xs.length σ H→nx σ H) :
  ∃ W:Nat→Nat→St→Hp→Prop,(∃ m,W 0 m σ H)∧∀ i m σ H,W i m σ H→((Itv K a xs).stop i H∧nx σ H)∨((Itv K a xs).go i H∧∃ N:St→Hp→Prop,(∀ σ' H',N σ' H'→∃ m',m' < m∧W (i + 1) m' σ' H')∧∀ x H',(Itv K a xs).yld i H x H'→B x σ H' N):=by
 refine ⟨fun i m σ H=>m=xs.length - i∧i≤xs.length∧Pv i σ H,⟨xs.length,by simp,bY _,h0⟩,?_⟩
 rintro i m σ H ⟨rfl,hi,p⟩
 by_cases hlt:i < xs.length
 ·refine .inr ⟨⟨hlt,hl i σ H p⟩,Pv (i + 1),fun σ' H' p'=>⟨xs.length - (i + 1),by lia,rfl,hlt,p'⟩,?_⟩
  rintro x H' ⟨rfl,y⟩
  exact hs i x σ _ hlt y p
 ·obtain rfl:i=xs.length:=by lia
  exact .inl ⟨bj _,hd σ H p⟩
end
abbrev zaC (K:bD):RC:=fun xs H Q=>∃ p ys,xs=[.ref p]∧(SqL K H p ys∨SqT K H p ys)∧∀ l,H l=none→Q (.ref l) (upd H l (.lst ys))
def inL (c:Nat):Bool:=!(mF "abcdefghijklmnopqrstuvwxyz" ⟨#[c]⟩ 0 (gM "abcdefghijklmnopqrstuvwxyz") 1).isEmpty
def wl:List V:=[.str "take",.str "give",.str "let",.str "say",.str "off",.str "if",.str "else",.str "end",.str "as"]
def yP (x:Str):Bool:=!(decide (x="") || decide (6 < x.length)) && !(inV (.str x) jw || inV (.str x) wl) && x.cps.toList.all inL
theorem zdJ (c:Nat):inL c=true→97≤c∧c≤122:=by
 unfold inL
 rw [StrLaws.found_one]
 have e:(bf "abcdefghijklmnopqrstuvwxyz").cps.toList=[97,98,99,100,101,102,103,104,105,106,107,108,109,110,111,112,113,114,115,116,117,118,119,120,121,122]:=by decide +kernel
 rw [e]
 simp only [decide_eq_true_eq,bK,dN,or_false]
 omega
theorem qQ {x:Str} (h:yP x=true):x.cps.toList≠[]∧x.length≤6∧isJ (.str x)=false∧x.cps.toList.all inL=true:=by
 unfold yP at h
 rw [bV,bV,cB,cB,iL,iL,decide_eq_false_iff_not,decide_eq_false_iff_not] at h
 refine ⟨fun z=>h.1.1.1 (zdG (by rw [z];decide +kernel)),by lia,h.1.2.1,h.2⟩
def zbD (w:Str):Option V:=if yP w=true then some (.str w) else if zgf w=true then some (.int (zbx w)) else none
inductive Tw where
 | leaf (w:Str) | node (w:Str) (a b:Tw)
def pre:Tw→List Str
 | .leaf w=>[w]
 | .node w a b=>w :: (pre a ++ pre b)
def wfT:Tw→Prop
 | .leaf w=>isJ (.str w)=false
 | .node w a b=>isJ (.str w)=true∧wfT a∧wfT b
def okT:Tw→Bool
 | .leaf w=>(zbD w).isSome
 | .node _ a b=>okT a && okT b
def pvw (w:Str):V:=(zbD w).getD (.str w)
def pst:Tw→List V
 | .leaf w=>[pvw w]
 | .node w a b=>pst a ++ pst b ++ [.str w]
def zgh:List Str→Nat→Option Nat
 | _,0=>some 0
 | [],_ + 1=>none
 | w :: r,d + 1=>(zgh r (if isJ (.str w)=true then d + 2 else d)).map (· + 1)
def xh (st:List (List V)) (w:Str):Except Bool (List (List V)) :=
 if isJ (.str w)=true then (match st.reverse with | a :: b :: r=>.ok (r.reverse ++ [a ++ b ++ [.str w]]) | _=>.error false) else (match zbD w with | some v=>.ok (st ++ [[v]]) | none=>.error true)
def KA:List Str→List (List V)→Except Bool (List (List V))
 | [],st=>.ok st
 | w :: r,st=>match xh st w with | .ok st'=>KA r st' | .error e=>.error e
theorem zbE:∀ (p q:List Str) (st:List (List V)),KA (p ++ q) st=match KA p st with | .ok st'=>KA q st' | .error e=>.error e
 | [],q,st=>rfl
 | v :: r,q,st=>by
  show (match xh st v with | .ok st'=>KA (r ++ q) st' | .error e=>.error e)=match (match xh st v with | .ok st'=>KA r st' | .error e=>.error e) with | .ok st'=>KA q st' | .error e=>.error e
  cases xh st v with
  | error e=>rfl
  | ok st'=>exact zbE r q st'
theorem zbF {x:Str} (h:yP x=true):Asc x:=fun c hc=>by
 have:=zdJ c (dz.mp (qQ h).2.2.2 c hc)
 lia
theorem Inv.turnedL {X:Cx} {pins:List (Addr × Obj)} {σ:St} {H:Hp} {s:Shared} {h':Heap} {t':Nat} {ch:List Addr} (I:Inv X pins σ H s) (k:∀ b o,b ∉ ch→s.heap.get? b=some o→h'.get? b=some o) (hf:∀ b∈ch,jP X pins H b) :
  Inv X pins σ H { s with heap:=h',toks:=t' }:=by
 have nit:∀ b u,H b=some u→b ∉ ch:=fun b u e z=>by rw [(hf b z).1] at e;cases e
 refine I.step (g':=s.gens) (d':=s.drawn) (ch:=ch) (fun b hb=>?_) (fun b o _ _ hc e _=>k b o hc e) (fun b o _ _ hc e _=>⟨o.slots,k b o hc e⟩) (fun _ _ _ _ n=>n) (fun b o hc e=>⟨o,k b o hc e⟩) (fun _ _ e=>e) (fun _ _ _ e=>e) (fun b ps e=>⟨#[],by rw [e];simp⟩) (fun m hm=>?_) (fun b u e=>?_) I.bare
 ·obtain ⟨f0,f1,f2,f3,f4,f5⟩:=hf b hb
  exact ⟨f3,f1,f4,f5⟩
 ·obtain ⟨o,es,ep,ho,r⟩:=hm
  exact ⟨o,es,ep,k _ o (fun z=>(hf _ z).2.1 rfl) ho,r⟩
 ·refine (I.hok b u e).stay (fun c v hc q=>k c v ?_ q) (fun _ q=>q) fun _ _ q=>q
  rcases hc with z | z
  ·rw [z];exact nit b u e
  ·exact nit c _ z
abbrev zgi (K:bD):RC:=fun xs H Q=>∃ p ys,xs=[.ref p]∧((SqL K H p ys∧∀ l,H l=none→Q (.ref l) (upd H l (.tup ys)))∨(SqT K H p ys∧Q (.ref p) H))
def QE (st:List (List V)) (v:V):Option (List (List V)):=if isJ v=true then (match st.reverse with | b :: a :: r=>some (r.reverse ++ [v :: (a ++ b)]) | _=>none) else some (st ++ [[v]])
def KB:List V→List (List V)→Option (List (List V))
 | [],st=>some st
 | v :: r,st=>(QE st v).bind (KB r)
theorem zbG:∀ (p q:List V) (st:List (List V)),KB (p ++ q) st=(KB p st).bind (KB q)
 | [],q,st=>rfl
 | v :: r,q,st=>by
  show (QE st v).bind (KB (r ++ q))=((QE st v).bind (KB r)).bind (KB q)
  cases QE st v with
  | none=>rfl
  | some st'=>exact zbG r q st'
end L2
namespace L2
open PySem PySem.W PyProof.Rows
section
variable {α β:Type} {lt:Nat→Nat→Bool} {n:Nat}
def kOk (lt:Nat→Nat→Bool) (n:Nat):KasT α→(α→Prop)→Prop
 | .ret a,R=>R a
 | .ask i j k,R=>i < n∧j < n∧i≠j∧kOk lt n (k (lt i j)) R
theorem yW:∀ {t:KasT α} {f:α→KasT β} {R:β→Prop},kOk lt n t (fun a=>kOk lt n (f a) R)→kOk lt n (t.bind f) R
 | .ret _,_,_,h=>h
 | .ask _ _ _,_,_,h=>⟨h.1,h.2.1,h.2.2.1,yW h.2.2.2⟩
theorem yd:∀ {t:KasT α} {R R':α→Prop},kOk lt n t R→(∀ a,R a→R' a)→kOk lt n t R'
 | .ret _,_,_,h,m=>m _ h
 | .ask _ _ _,_,_,h,m=>⟨h.1,h.2.1,h.2.2.1,yd h.2.2.2 m⟩
structure SO (lt:Nat→Nat→Bool) (n:Nat):Prop where
 irr:∀ i,i < n→lt i i=false
 trans:∀ i j k,i < n→j < n→k < n→lt i j=true→lt j k=true→lt i k=true
 tot:∀ i j,i < n→j < n→i≠j→lt i j=false→lt j i=true
def PP (n:Nat) (p:Array Nat):Prop:=p.Perm (bN n).toArray
def gt (p:Array Nat) (k:Nat):Nat:=p.getD k 0
theorem v4 {p:Array Nat} {k:Nat} (h:k < p.size):p[k]?=some (gt p k):=by
 unfold gt
 rw [i4,cE h]
 rfl
theorem PP.size {p:Array Nat} (h:PP n p):p.size=n:=by
 have:=h.size_eq
 simpa using this
theorem PP.blt {p:Array Nat} (h:PP n p) {k:Nat} (hk:k < n):gt p k < n:=by
 have hs:=h.size
 have m:gt p k∈p:=Array.mem_of_getElem? (v4 (by lia))
 have m2:gt p k∈(bN n).toArray:=(oG h).mp m
 simpa using m2
theorem PP.inj {p:Array Nat} (h:PP n p) {i j:Nat} (hi:i < n) (hj:j < n) (e:gt p i=gt p j):i=j:=by
 have hs:=h.size
 have nd:p.toList.Nodup:=by
  have:p.toList.Perm (bN n):=by
   have:=gy.mp h
   simpa using this
  exact this.nodup_iff.mpr gI
 have e1:=v4 (p:=p) (k:=i) (by lia)
 have e2:=v4 (p:=p) (k:=j) (by lia)
 rw [← e] at e2
 have e1':p.toList[i]?=some (gt p i):=by simpa using e1
 have e2':p.toList[j]?=some (gt p i):=by simpa using e2
 obtain ⟨a1,b1⟩:=bw.mp e1'
 obtain ⟨a2,b2⟩:=bw.mp e2'
 exact (fN nd).mp (b1.trans b2.symm)
def wU (lt:Nat→Nat→Bool) (p:Array Nat) (m:Nat):Prop:=∀ i j,i < j→j < m→lt (gt p i) (gt p j)=true
def zfs (lt:Nat→Nat→Bool) (p:Array Nat) (m:Nat):Prop:=∀ i j,i < j→j < m→lt (gt p j) (gt p i)=true
theorem KC (S:SO lt n) {p:Array Nat} (hp:PP n p):∀ (f a:Nat),1≤a→a + f≤n→wU lt p a→kOk lt n (kas_asc p f a) fun m=>a≤m∧m≤a + f∧wU lt p m∧(m < a + f→lt (gt p m) (gt p (m - 1))=true)
 | 0,a,h1,h2,hr=>⟨bj _,bj _,hr,fun z=>absurd z (dX _)⟩
 | f + 1,a,h1,h2,hr=>by
  refine ⟨hp.blt (by lia),hp.blt (by lia),(fun z=>by have:=hp.inj (by lia) (by lia) z;lia),?_⟩
  show kOk lt n (if lt (gt p a) (gt p (a - 1))=true then .ret a else kas_asc p f (a + 1)) _
  by_cases c:lt (gt p a) (gt p (a - 1))=true
  ·rw [if_pos c]
   exact ⟨bj _,by lia,hr,fun _=>c⟩
  ·rw [if_neg c]
   have up:lt (gt p (a - 1)) (gt p a)=true:=S.tot _ _ (hp.blt (by lia)) (hp.blt (by lia)) (fun z=>by have:=hp.inj (by lia) (by lia) z;lia) (ml.mpr c)
   refine yd (KC S hp f (a + 1) (by lia) (by lia) fun i j hij hj=>?_) fun m ⟨x1,x2,x3,x4⟩=>⟨by lia,by lia,x3,fun z=>x4 (by lia)⟩
   by_cases hja:j < a
   ·exact hr i j hij hja
   ·obtain rfl:j=a:=by lia
    by_cases hi:i=j - 1
    ·rw [hi];exact up
    ·exact S.trans _ _ _ (hp.blt (by lia)) (hp.blt (by lia)) (hp.blt (by lia)) (hr i (j - 1) (by lia) (by lia)) up
theorem QH (S:SO lt n) {p:Array Nat} (hp:PP n p):∀ (f a:Nat),1≤a→a + f≤n→zfs lt p a→kOk lt n (mH f p a 0) fun r=>r.1=p∧r.2.2=0∧a≤r.2.1∧r.2.1≤a + f∧zfs lt p r.2.1
 | 0,a,h1,h2,hr=>⟨rfl,rfl,bj _,bj _,hr⟩
 | f + 1,a,h1,h2,hr=>by
  refine ⟨hp.blt (by lia),hp.blt (by lia),(fun z=>by have:=hp.inj (by lia) (by lia) z;lia),?_⟩
  show kOk lt n (if lt (gt p a) (gt p (a - 1))=true then (if 0 > 0 then _ else mH f p (a + 1) 0) else .ask (gt p (a - 1)) (gt p a) fun d=>if d=true then .ret (p,a,0) else mH f p (a + 1) (0 + 1)) _
  by_cases c:lt (gt p a) (gt p (a - 1))=true
  ·rw [if_pos c,if_neg (by lia)]
   refine yd (QH S hp f (a + 1) (by lia) (by lia) fun i j hij hj=>?_) fun m ⟨x1,x2,x3,x4,x5⟩=>⟨x1,x2,by lia,by lia,x5⟩
   by_cases hja:j < a
   ·exact hr i j hij hja
   ·obtain rfl:j=a:=by lia
    by_cases hi:i=j - 1
    ·rw [hi];exact c
    ·exact S.trans _ _ _ (hp.blt (by lia)) (hp.blt (by lia)) (hp.blt (by lia)) c (hr i (j - 1) (by lia) (by lia))
  ·rw [if_neg c]
   have up:lt (gt p (a - 1)) (gt p a)=true:=S.tot _ _ (hp.blt (by lia)) (hp.blt (by lia)) (fun z=>by have:=hp.inj (by lia) (by lia) z;lia) (ml.mpr c)
   refine ⟨hp.blt (by lia),hp.blt (by lia),(fun z=>by have:=hp.inj (by lia) (by lia) z;lia),?_⟩
   show kOk lt n (if lt (gt p (a - 1)) (gt p a)=true then .ret (p,a,0) else _) _
   rw [if_pos up]
   exact ⟨rfl,rfl,bj _,pE _ _,hr⟩
theorem zbH {p:Array Nat} {m k:Nat} (hm:m≤p.size) (hk:k < m):gt (kas_rev p 0 m) k=gt p (m - 1 - k):=by
 have e:=getElem?_mirror_all (xs:=p) (i:=0) (j:=m) hm k
 rw [if_pos ⟨bY _,hk⟩] at e
 have e1:=v4 (p:=kas_rev p 0 m) (k:=k) (by unfold kas_rev;rw [mirror_size];lia)
 have e2:=v4 (p:=p) (k:=m - 1 - k) (by lia)
 unfold kas_rev at e1 ⊢
 rw [e,show 0 + m - 1 - k=m - 1 - k by lia,e2] at e1
 exact (bS e1).symm
theorem PP.rev {p:Array Nat} (h:PP n p) (m:Nat):PP n (kas_rev p 0 m):=iF (mirror_perm _ _ _ _) h
theorem zdK (S:SO lt n) {p:Array Nat} (hp:PP n p) {m:Nat} (h1:1≤m) (h2:m≤n) (hf:zfs lt p m):kOk lt n (kas_tail3 m n p) fun r=>PP n r.2∧wU lt r.2 r.1∧1≤r.1∧r.1≤n:=by
 refine yW (yd (KC S (hp.rev m) (n - m) m h1 (by lia) fun i j hij hj=>?_) fun a ⟨x1,x2,x3,_⟩=>⟨hp.rev m,x3,by lia,by lia⟩)
 have hs:=hp.size
 rw [zbH (by lia) (by lia),zbH (by lia) hj]
 exact hf _ _ (by lia) (by lia)
theorem zbI (S:SO lt n) {p:Array Nat} (hp:PP n p) (hn:1≤n):kOk lt n (kas_count n p) fun r=>PP n r.2∧wU lt r.2 r.1∧1≤r.1∧r.1≤n:=by
 refine yW (yd (KC S hp (n - 1) 1 (bj _) (by lia) fun i j hij hj=>by lia) fun m ⟨x1,x2,x3,x4⟩=>?_)
 by_cases e:(m == n)=true
 ·rw [if_pos e]
  exact ⟨hp,x3,x1,by lia⟩
 ·rw [if_neg e]
  have ne:m≠n:=by simpa using e
  by_cases h:m > 1
  ·rw [if_pos h]
   refine ⟨hp.blt (by lia),hp.blt (by lia),(fun z=>by have:=hp.inj (by lia) (by lia) z;lia),?_⟩
   show kOk lt n (if lt (gt p 0) (gt p (m - 1))=true then .ret (m,p) else _) _
   rw [if_pos (x3 0 (m - 1) (by lia) (by lia))]
   exact ⟨hp,x3,x1,by lia⟩
  ·rw [if_neg h]
   obtain rfl:m=1:=by lia
   have c:=x4 (by lia)
   refine yW (yd (QH S hp (n - 2) 2 (by lia) (by lia) fun i j hij hj=>?_) fun r ⟨y1,y2,y3,y4,y5⟩=>?_)
   ·obtain rfl:j=1:=by lia
    obtain rfl:i=0:=by lia
    exact c
   ·rw [if_neg (by lia),y1]
    exact zdK S hp (by lia) (by lia) y5
theorem YW (S:SO lt n) {p:Array Nat} (hp:PP n p) {k:Nat} (hk:k < n) (hr:wU lt p k):∀ (f l r:Nat),l≤r→r≤k→r - l≤f→(∀ i,i < l→lt (gt p i) (gt p k)=true)→(∀ i,r≤i→i < k→lt (gt p k) (gt p i)=true) →
  kOk lt n (nD p k f l r) fun m=>m≤k∧(∀ i,i < m→lt (gt p i) (gt p k)=true)∧∀ i,m≤i→i < k→lt (gt p k) (gt p i)=true
 | 0,l,r,h1,h2,h3,h4,h5=>⟨by lia,h4,fun i hi hik=>h5 i (by lia) hik⟩
 | f + 1,l,r,h1,h2,h3,h4,h5=>by
  unfold nD
  by_cases c:l ≥ r
  ·rw [if_pos c]
   exact ⟨by lia,h4,fun i hi hik=>h5 i (by lia) hik⟩
  ·rw [if_neg c]
   refine ⟨hp.blt (by lia),hp.blt (by lia),(fun z=>by have:=hp.inj (by lia) (by lia) z;lia),?_⟩
   show kOk lt n (if lt (gt p k) (gt p ((l + r) / 2))=true then _ else _) _
   by_cases d:lt (gt p k) (gt p ((l + r) / 2))=true
   ·rw [if_pos d]
    refine YW S hp hk hr f l ((l + r) / 2) (by lia) (by lia) (by lia) h4 fun i hi hik=>?_
    by_cases e:i=(l + r) / 2
    ·rw [e];exact d
    ·exact S.trans _ _ _ (hp.blt (by lia)) (hp.blt (by lia)) (hp.blt (by lia)) d (hr _ i (by lia) hik)
   ·rw [if_neg d]
    have up:lt (gt p ((l + r) / 2)) (gt p k)=true:=S.tot _ _ (hp.blt (by lia)) (hp.blt (by lia)) (fun z=>by have:=hp.inj (by lia) (by lia) z;lia) (ml.mpr d)
    refine YW S hp hk hr f ((l + r) / 2 + 1) r (by lia) (by lia) (by lia) (fun i hi=>?_) h5
    by_cases e:i=(l + r) / 2
    ·rw [e];exact up
    ·exact S.trans _ _ _ (hp.blt (by lia)) (hp.blt (by lia)) (hp.blt (by lia)) (hr i _ (by lia) (by lia)) up
theorem zbJ {p:Array Nat} {k d j:Nat} (hk:k < p.size) (hd:d≤k) (hj:j < p.size):gt (bubble p k d) j=if j=k - d then gt p k else if k - d < j∧j≤k then gt p (j - 1) else gt p j:=by
 have e:=getElem?_bubble hk d hd j
 rw [v4 (p:=bubble p k d) (k:=j) (by rw [bubble_size];exact hj)] at e
 by_cases h1:j=k - d
 ·rw [if_pos h1,v4 hk] at e
  rw [if_pos h1];exact bS e
 ·rw [if_neg h1] at e ⊢
  by_cases h2:k - d < j∧j≤k
  ·rw [if_pos h2,v4 (by lia)] at e
   rw [if_pos h2];exact bS e
  ·rw [if_neg h2,v4 hj] at e
   rw [if_neg h2];exact bS e
theorem zbK (S:SO lt n):∀ (f:Nat) {p:Array Nat} (k:Nat),PP n p→k + f=n→wU lt p k→kOk lt n (kas_bin f p k) fun p'=>PP n p'∧wU lt p' n
 | 0,p,k,hp,hk,hr=>⟨hp,by rw [← hk];exact hr⟩
 | f + 1,p,k,hp,hk,hr=>by
  have hs:=hp.size
  refine yW (yd (YW S hp (by lia) hr k 0 k (bY _) (bj _) (by lia) (fun i hi=>by lia) (fun i h1 h2=>by lia)) fun l ⟨x1,x2,x3⟩=>?_)
  refine zbK S f (k + 1) (iF (bubble_perm _ _ _) hp) (by lia) fun i j hij hj=>?_
  rw [zbJ (by lia) (by lia) (by lia),zbJ (by lia) (by lia) (by lia)]
  have e:k - (k - l)=l:=by lia
  rw [e]
  by_cases hi:i=l
  ·rw [if_pos hi,if_neg (by lia),if_pos (by lia)]
   exact x3 _ (by lia) (by lia)
  ·rw [if_neg hi]
   by_cases hi2:l < i∧i≤k
   ·rw [if_pos hi2,if_neg (by lia),if_pos (by lia)]
    exact hr _ _ (by lia) (by lia)
   ·rw [if_neg hi2]
    by_cases hj1:j=l
    ·rw [if_pos hj1]
     exact x2 _ (by lia)
    ·rw [if_neg hj1]
     by_cases hj2:l < j∧j≤k
     ·rw [if_pos hj2]
      by_cases hij2:i < j - 1
      ·exact hr _ _ hij2 (by lia)
      ·lia
     ·rw [if_neg hj2]
      exact hr _ _ hij (by lia)
theorem QI (S:SO lt n) (hn:1≤n):kOk lt n (kas_sort n) fun p=>PP n p∧wU lt p n:=by
 refine yW (yd (zbI S (p:=lR (bN n)) (i7 _) hn) fun r ⟨x1,x2,x3,x4⟩=>?_)
 by_cases h:r.1 < n
 ·rw [if_pos h,Nat.max_eq_left x3]
  exact zbK S _ _ x1 (by lia) x2
 ·rw [if_neg h]
  obtain e:r.1=n:=by lia
  exact ⟨x1,by rw [← e];rw [e] at x2 ⊢;exact x2⟩
end
theorem KD {α:Type} {lt:Nat→Nat→Bool} {n:Nat} {s:Shared} {cmp:Nat→Nat→(Bool→Shared→Prop)→Shared→Prop} (hc:∀ i j C,i < n→j < n→i≠j→C (lt i j) s→cmp i j C s):∀ {t:KasT α} {R:α→Prop} {Q:α→Shared→Prop},kOk lt n t R→(∀ a,R a→Q a s)→t.kasWp cmp Q s
 | .ret _,_,_,h,m=>m _ h
 | .ask _ _ _,_,_,h,m=>hc _ _ _ h.1 h.2.1 h.2.2.1 (KD hc h.2.2.2 m)
def Kp (a:Addr) (h h':Heap):Prop:=∀ b o,b≠a→h.get? b=some o→h'.get? b=some o
def yK (vs:List Value) (p:Array Nat):List Value:=p.toList.map fun i=>vs.getD i cH
theorem ZV (vs:List Value):yK vs (lR (bN vs.length))=vs:=by
 unfold yK
 apply eL
 intro i
 simp only [bC]
 by_cases h:i < vs.length
 ·rw [ba (l:=vs) h]
  simp [fJ h,h]
 ·rw [cK (by lia:vs.length≤i)]
  simp
  lia
section
variable {P:Program} {w:World} {A:Around} {E:Value→Shared→Prop} {s:Shared}
theorem YX {a:Addr} {vs:List Value} {n:Nat} {κ:SortKind} {lt:Nat→Nat→Bool} {R:PySem.Fin→Shared→Prop} (ho:s.heap.get? a=some (seqObj "list" vs.toArray n)) (h64:vs.length < 64)
  (hk:2≤vs.length→∀ (h:Heap) (Q:SortKind→Shared→Prop),Kp a s.heap h→Q κ { s with heap:=h }→wpAny (model P w) A (keyKind' vs.toArray) Q (fun _ _=>False) { s with heap:=h })
  (hc:∀ (h:Heap) i j C,Kp a s.heap h→i < vs.length→j < vs.length→i≠j→C (lt i j) { s with heap:=h }→kas_ask P w A κ vs i j C { s with heap:=h }) (S:SO lt vs.length)
  (fin:∀ h p c,Kp a s.heap h→h.get? a=some (seqObj "list" (yK vs p).toArray c)→PP vs.length p→wU lt p vs.length→R (.done (.ret .none)) { s with heap:=h }) :
  wpAny (model P w) A (Builtin.«list.sort» ⟨[.ref a],[]⟩) R E s:=by
 have ha:a < s.heap.objs.size:=bF ho
 obtain ⟨e1,o1⟩:∃ e1,(s.heap.update a (cD fun _=>(#[]:Array Value))).get? a=some (seqObj "list" #[] e1):=⟨_,i8 ho fun _=>#[]⟩
 have k1:Kp a s.heap (((s.heap.update a (cD fun _=>(#[]:Array Value))).push (seqObj "tuple" vs.toArray 0)).push (seqObj "list" #[] 0)):=fun b o hb e =>
  bh _ (bh _ ((cN _ _ (cP hb)).trans e))
 have o3:(((s.heap.update a (cD fun _=>(#[]:Array Value))).push (seqObj "tuple" vs.toArray 0)).push (seqObj "list" #[] 0)).get? a=some (seqObj "list" #[] e1):=bh _ (bh _ o1)
 have last:∀ out:List Value,out.length=vs.length→∃ c,((((s.heap.update a (cD fun _=>(#[]:Array Value))).push (seqObj "tuple" vs.toArray 0)).push (seqObj "list" #[] 0)).update a (cD fun _=>out.toArray)).get? a=some (seqObj "list" out.toArray c):=fun out _=>⟨_,i8 o3 fun _=>out.toArray⟩
 have keep2:∀ out:List Value,Kp a s.heap ((((s.heap.update a (cD fun _=>(#[]:Array Value))).push (seqObj "tuple" vs.toArray 0)).push (seqObj "list" #[] 0)).update a (cD fun _=>out.toArray)):=fun out b o hb e =>
  (cN _ _ (cP hb)).trans (k1 b o hb e)
 rw [list_sort_plain];refine bb (listItems_at ho rfl ?_)
 refine bb (gS ho rfl ?_ (by rw [bG,dw];lia) (bY _));refine bb (i9 o1 rfl ?_)
 refine bb (lU ?_ (by show vs.length≤_;rw [dw];lia));refine bb (iP ?_ (bY _));refine dI ?_
 show wpAny (model P w) A _ R E { s with heap:=((s.heap.update a (cD fun _=>(#[]:Array Value))).push (seqObj "tuple" vs.toArray 0)).push (seqObj "list" #[] 0) }
 generalize hH:((s.heap.update a (cD fun _=>(#[]:Array Value))).push (seqObj "tuple" vs.toArray 0)).push (seqObj "list" #[] 0)=g at *
 dsimp only
 have up:∀ out:List Value,out.length=vs.length→∀ p,out=yK vs p→PP vs.length p→wU lt p vs.length→R (.done (.ret .none)) { s with heap:=g.update a (cD fun _=>out.toArray) }:=fun out hl p e hp hr=>by
  obtain ⟨c,hcc⟩:=last out hl
  refine fin _ p c (keep2 out) ?_ hp hr
  rw [← e];exact hcc
 by_cases h2:vs.toArray.size < 2
 ·have hl2:vs.length < 2:=by simpa using h2
  rw [if_pos h2,if_pos h2];refine bb (bo ?_);rw [pT];refine bb (bo ?_)
  dsimp only
  have ez:((vs.toArray.zip vs.toArray).map (·.2))=vs.toArray:=by
   apply fR.mp
   rw [pF,pG]
   simp [pH]
  refine bb (i9 o3 rfl ?_)
  rw [show (arrOf (SortSt.mk' general' (vs.toArray.zip vs.toArray) #[] 7 none))=vs.toArray.zip vs.toArray from rfl,ez]
  refine bb (gS o3 rfl ?_ (bY _) (by rw [bG,dw];lia))
  simp only [bne_self_eq_false,cu,if_false]
  exact bo (up vs rfl _ (ZV vs).symm (i7 _) fun i j hij hj=>by lia)
 ·have hl2:2≤vs.length:=by simpa using h2
  rw [if_neg h2,if_neg h2];refine bb (dA (hk hl2 g (fun κ' s'=>κ'=κ∧s'={ s with heap:=g }) k1 ⟨rfl,rfl⟩) (fun κ' s' hs=>?_) fun _ _ x=>x.elim)
  obtain ⟨rfl,rfl⟩:=hs
  have run:=KD (s:={ s with heap:=g }) (cmp:=kas_ask P w A κ' vs) (fun i j C hi hj hij hC=>hc g i j C k1 hi hj hij hC) (QI S (by lia)) (Q:=fun p s'=>s'={ s with heap:=g }∧PP vs.length p∧wU lt p vs.length) fun p hp=>⟨rfl,hp⟩
  refine bb (dA (kat_run (ks:=vs) (Q:=fun st s'=>∃ p:Array Nat,arrOf st=p.map (kas_item (vs.toArray.zip vs.toArray))∧failedOf st=none∧s'={ s with heap:=g }∧PP vs.length p∧wU lt p vs.length) rfl hl2 h64 (fun p st s' _ a2 a3 a4=>⟨p,a2,a3,a4⟩) run) ?_ fun _ _ e=>e)
  rintro ⟨⟨⟩,st⟩ s' ⟨p,har,hf,rfl,hp,hr⟩
  dsimp only
  have out:=kat_snds (ks:=vs) rfl har
  have ol:(yK vs p).length=vs.length:=by unfold yK;rw [bn,bW,hp.size]
  rw [out];refine bb (i9 o3 rfl ?_)
  refine bb (gS o3 rfl ?_ (bY _) (by show (lR (yK vs p)).size≤_;rw [bG,ol,dw];lia));rw [hf]
  simp only [bne_self_eq_false,cu,if_false]
  exact bo (up (yK vs p) ol p rfl hp hr)
theorem ZW {l:Addr} {vs:List Value} {κ:SortKind} {lt:Nat→Nat→Bool} {Q:Value→Shared→Prop} (h64:vs.length < 64) (S:SO lt vs.length)
  (coll:∀ R:List Value→Shared→Prop,(∀ (h:Heap) (tk:Nat),(∀ b o,s.heap.get? b=some o→h.get? b=some o)→R vs { s with heap:=h,toks:=tk })→wpAny (model P w) A.in1 (collect (.ref l)) R E s)
  (hk:2≤vs.length→∀ (h:Heap) (tk:Nat) (Q:SortKind→Shared→Prop),(∀ b o,s.heap.get? b=some o→h.get? b=some o)→Q κ { s with heap:=h,toks:=tk }→wpAny (model P w) A.in1.in1 (keyKind' vs.toArray) Q (fun _ _=>False) { s with heap:=h,toks:=tk })
  (hc:∀ (h:Heap) (tk:Nat) i j C,(∀ b o,s.heap.get? b=some o→h.get? b=some o)→i < vs.length→j < vs.length→i≠j→C (lt i j) { s with heap:=h,toks:=tk }→kas_ask P w A.in1.in1 κ vs i j C { s with heap:=h,toks:=tk })
  (fin:∀ (h:Heap) (tk:Nat) (h':Heap) (p:Array Nat) (c:Nat),(∀ b o,s.heap.get? b=some o→h.get? b=some o)→(∀ b o,h.get? b=some o→h'.get? b=some o)→h'.get? h.objs.size=some (seqObj "list" (yK vs p).toArray c)→PP vs.length p→wU lt p vs.length→Q (.ref h.objs.size) { s with heap:=h',toks:=tk }) :
  wpAny (model P w) A (call (.builtin "sorted") [.ref l]) Q E s:=by
 refine fi kind_sorted pb pd (ph _) ?_;unfold Builtin.«sorted»
 refine bb (m:=checkCount "sorted" 1 1 _) (bo ?_);refine bb (coll _ fun h tk hk1=>?_)
 refine bb (iP ?_ (by rw [dw];lia))
 have hoL:(h.push (seqObj "list" vs.toArray 0)).get? h.objs.size=some (seqObj "list" vs.toArray 0):=bz _ rfl
 have kept:∀ h',Kp h.objs.size (h.push (seqObj "list" vs.toArray 0)) h'→∀ b o,h.get? b=some o→h'.get? b=some o:=fun h' k b o e=>k b o (bZ (bF e)) (bh _ e)
 refine bb (dI (c9 nV ⟨_,hoL,rfl⟩ nE (YX (s:={ s with heap:=h.push (seqObj "list" vs.toArray 0),toks:=tk }) hoL h64 (κ:=κ) (lt:=lt) (fun h2 h' Q' k q=>?_) (fun h' i j C k hi hj hij q=>?_) S fun h' p c k ho hp hr=>?_) (nW _)))
 ·exact hk h2 h' tk Q' (fun b o e=>kept h' k b o (hk1 b o e)) q
 ·exact hc h' tk i j C (fun b o e=>kept h' k b o (hk1 b o e)) hi hj hij q
 ·exact ⟨_,rfl,bo ⟨_,rfl,fin h tk h' p c hk1 (kept h' k) ho hp hr⟩⟩
end
section
variable {lt:Nat→Nat→Bool} {n:Nat}
theorem PP.rev2 {p:Array Nat} (h:PP n p) (i j:Nat):PP n (kas_rev p i j):=iF (mirror_perm _ _ _ _) h
theorem PP.ask {p:Array Nat} (h:PP n p) {i j:Nat} (hi:i < n) (hj:j < n) (hij:i≠j):gt p i < n∧gt p j < n∧gt p i≠gt p j:=⟨h.blt hi,h.blt hj,fun z=>hij (h.inj hi hj z)⟩
theorem Vh {p:Array Nat} (hp:PP n p):∀ (f a:Nat),1≤a→a + f≤n→kOk lt n (kas_asc p f a) fun m=>a≤m∧m≤a + f
 | 0,a,h1,h2=>⟨bj _,bj _⟩
 | f + 1,a,h1,h2=>by
  obtain ⟨x,y,z⟩:=hp.ask (i:=a) (j:=a - 1) (by lia) (by lia) (by lia)
  refine ⟨x,y,z,?_⟩
  show kOk lt n (if lt (gt p a) (gt p (a - 1))=true then .ret a else kas_asc p f (a + 1)) _
  split
  ·exact ⟨bj _,by lia⟩
  ·exact yd (Vh hp f (a + 1) (by lia) (by lia)) fun m h=>⟨by lia,by lia⟩
theorem qR:∀ (f:Nat) {p:Array Nat} (a q:Nat),PP n p→1≤a→a + f≤n→kOk lt n (mH f p a q) fun r=>PP n r.1∧a≤r.2.1∧r.2.1≤a + f
 | 0,p,a,q,hp,h1,h2=>⟨hp,bj _,bj _⟩
 | f + 1,p,a,q,hp,h1,h2=>by
  obtain ⟨x,y,z⟩:=hp.ask (i:=a) (j:=a - 1) (by lia) (by lia) (by lia)
  refine ⟨x,y,z,?_⟩
  show kOk lt n (if lt (gt p a) (gt p (a - 1))=true then (if q > 0 then mH f (kas_rev p (a - (q + 1)) a) (a + 1) 0 else mH f p (a + 1) 0) else .ask (gt p (a - 1)) (gt p a) fun d=>if d=true then .ret (p,a,q) else mH f p (a + 1) (q + 1)) _
  split
  ·split
   ·exact yd (qR f (a + 1) 0 (hp.rev2 _ _) (by lia) (by lia)) fun m h=>⟨h.1,by lia,by lia⟩
   ·exact yd (qR f (a + 1) 0 hp (by lia) (by lia)) fun m h=>⟨h.1,by lia,by lia⟩
  ·refine ⟨y,x,cP z,?_⟩
   show kOk lt n (if lt (gt p (a - 1)) (gt p a)=true then .ret (p,a,q) else mH f p (a + 1) (q + 1)) _
   split
   ·exact ⟨hp,bj _,by show a≤a + (f + 1);lia⟩
   ·exact yd (qR f (a + 1) (q + 1) hp (by lia) (by lia)) fun m h=>⟨h.1,by lia,by lia⟩
theorem zbL {p:Array Nat} (hp:PP n p) {m:Nat} (h1:1≤m) (h2:m≤n):kOk lt n (kas_tail3 m n p) fun r=>PP n r.2∧1≤r.1∧r.1≤n :=
 yW (yd (Vh (hp.rev2 0 m) (n - m) m h1 (by lia)) fun a h=>⟨hp.rev2 0 m,by lia,by lia⟩)
theorem Ja {p:Array Nat} (hp:PP n p) {m:Nat} (h1:1≤m) (h2:m + 1≤n):kOk lt n (kas_descPart m n p) fun r=>PP n r.2∧1≤r.1∧r.1≤n:=by
 refine yW (yd (qR (n - (m + 1)) (m + 1) 0 hp (by lia) (by lia)) fun r h=>?_)
 split
 ·exact zbL (h.1.rev2 _ _) (by lia) (by lia)
 ·exact zbL h.1 (by lia) (by lia)
theorem zaD {p:Array Nat} (hp:PP n p) (hn:1≤n):kOk lt n (kas_count n p) fun r=>PP n r.2∧1≤r.1∧r.1≤n:=by
 refine yW (yd (Vh hp (n - 1) 1 (bj _) (by lia)) fun m ⟨x1,x2⟩=>?_)
 by_cases e:(m == n)=true
 ·rw [if_pos e]
  exact ⟨hp,x1,by lia⟩
 ·rw [if_neg e]
  have ne:m≠n:=by simpa using e
  by_cases h:m > 1
  ·rw [if_pos h]
   obtain ⟨x,y,z⟩:=hp.ask (i:=0) (j:=m - 1) (by lia) (by lia) (by lia)
   refine ⟨x,y,z,?_⟩
   show kOk lt n (if lt (gt p 0) (gt p (m - 1))=true then .ret (m,p) else kas_descPart m n (kas_rev p 0 m)) _
   split
   ·exact ⟨hp,x1,by lia⟩
   ·exact Ja (hp.rev2 _ _) x1 (by lia)
  ·rw [if_neg h]
   exact Ja hp x1 (by lia)
theorem Zs {p:Array Nat} (hp:PP n p) {k:Nat} (hk:k < n):∀ (f l r:Nat),l≤r→r≤k→kOk lt n (nD p k f l r) fun m=>m≤k
 | 0,l,r,h1,h2=>bU h1 h2
 | f + 1,l,r,h1,h2=>by
  unfold nD
  split
  ·exact bU h1 h2
  ·obtain ⟨x,y,z⟩:=hp.ask (i:=k) (j:=(l + r) / 2) (by lia) (by lia) (by lia)
   refine ⟨x,y,z,?_⟩
   show kOk lt n (if lt (gt p k) (gt p ((l + r) / 2))=true then nD p k f l ((l + r) / 2) else nD p k f ((l + r) / 2 + 1) r) _
   split
   ·exact Zs hp hk f l _ (by lia) (by lia)
   ·exact Zs hp hk f _ r (by lia) (by lia)
theorem QJ:∀ (f:Nat) {p:Array Nat} (k:Nat),PP n p→k + f=n→kOk lt n (kas_bin f p k) (PP n)
 | 0,p,k,hp,hk=>hp
 | f + 1,p,k,hp,hk=>yW (yd (Zs hp (by lia) k 0 k (bY _) (bj _)) fun l _=>QJ f (k + 1) (iF (bubble_perm _ _ _) hp) (by lia))
theorem zaE (hn:1≤n):kOk lt n (kas_sort n) (PP n):=by
 refine yW (yd (zaD (p:=lR (bN n)) (i7 _) hn) fun r ⟨x1,x2,x3⟩=>?_)
 split
 ·rw [Nat.max_eq_left x2]
  exact QJ _ _ x1 (by lia)
 ·exact x1
theorem zbM (hn:1≤n):kOk lt n (kas_sort n) fun p=>PP n p∧(SO lt n→wU lt p n):=by
 by_cases S:SO lt n
 ·exact yd (QI S hn) fun p h=>⟨h.1,fun _=>h.2⟩
 ·exact yd (zaE hn) fun p h=>⟨h,fun z=>absurd z S⟩
end
section
variable {P:Program} {w:World} {A:Around} {E:Value→Shared→Prop} {s:Shared}
theorem zaF {a:Addr} {vs:List Value} {n:Nat} {κ:SortKind} {lt:Nat→Nat→Bool} {R:PySem.Fin→Shared→Prop} (ho:s.heap.get? a=some (seqObj "list" vs.toArray n)) (h64:vs.length < 64)
  (hk:2≤vs.length→∀ (h:Heap) (Q:SortKind→Shared→Prop),Kp a s.heap h→Q κ { s with heap:=h }→wpAny (model P w) A (keyKind' vs.toArray) Q (fun _ _=>False) { s with heap:=h })
  (hc:∀ (h:Heap) i j C,Kp a s.heap h→i < vs.length→j < vs.length→i≠j→C (lt i j) { s with heap:=h }→kas_ask P w A κ vs i j C { s with heap:=h })
  (fin:∀ h p c,Kp a s.heap h→h.get? a=some (seqObj "list" (yK vs p).toArray c)→PP vs.length p→(SO lt vs.length→wU lt p vs.length)→R (.done (.ret .none)) { s with heap:=h }) :
  wpAny (model P w) A (Builtin.«list.sort» ⟨[.ref a],[]⟩) R E s:=by
 have ha:a < s.heap.objs.size:=bF ho
 obtain ⟨e1,o1⟩:∃ e1,(s.heap.update a (cD fun _=>(#[]:Array Value))).get? a=some (seqObj "list" #[] e1):=⟨_,i8 ho fun _=>#[]⟩
 have k1:Kp a s.heap (((s.heap.update a (cD fun _=>(#[]:Array Value))).push (seqObj "tuple" vs.toArray 0)).push (seqObj "list" #[] 0)):=fun b o hb e =>
  bh _ (bh _ ((cN _ _ (cP hb)).trans e))
 have o3:(((s.heap.update a (cD fun _=>(#[]:Array Value))).push (seqObj "tuple" vs.toArray 0)).push (seqObj "list" #[] 0)).get? a=some (seqObj "list" #[] e1):=bh _ (bh _ o1)
 have last:∀ out:List Value,out.length=vs.length→∃ c,((((s.heap.update a (cD fun _=>(#[]:Array Value))).push (seqObj "tuple" vs.toArray 0)).push (seqObj "list" #[] 0)).update a (cD fun _=>out.toArray)).get? a=some (seqObj "list" out.toArray c):=fun out _=>⟨_,i8 o3 fun _=>out.toArray⟩
 have keep2:∀ out:List Value,Kp a s.heap ((((s.heap.update a (cD fun _=>(#[]:Array Value))).push (seqObj "tuple" vs.toArray 0)).push (seqObj "list" #[] 0)).update a (cD fun _=>out.toArray)):=fun out b o hb e =>
  (cN _ _ (cP hb)).trans (k1 b o hb e)
 rw [list_sort_plain];refine bb (listItems_at ho rfl ?_)
 refine bb (gS ho rfl ?_ (by rw [bG,dw];lia) (bY _));refine bb (i9 o1 rfl ?_)
 refine bb (lU ?_ (by show vs.length≤_;rw [dw];lia));refine bb (iP ?_ (bY _));refine dI ?_
 show wpAny (model P w) A _ R E { s with heap:=((s.heap.update a (cD fun _=>(#[]:Array Value))).push (seqObj "tuple" vs.toArray 0)).push (seqObj "list" #[] 0) }
 generalize hH:((s.heap.update a (cD fun _=>(#[]:Array Value))).push (seqObj "tuple" vs.toArray 0)).push (seqObj "list" #[] 0)=g at *
 dsimp only
 have up:∀ out:List Value,out.length=vs.length→∀ p,out=yK vs p→PP vs.length p→(SO lt vs.length→wU lt p vs.length)→R (.done (.ret .none)) { s with heap:=g.update a (cD fun _=>out.toArray) }:=fun out hl p e hp hr=>by
  obtain ⟨c,hcc⟩:=last out hl
  refine fin _ p c (keep2 out) ?_ hp hr
  rw [← e];exact hcc
 by_cases h2:vs.toArray.size < 2
 ·have hl2:vs.length < 2:=by simpa using h2
  rw [if_pos h2,if_pos h2];refine bb (bo ?_);rw [pT];refine bb (bo ?_)
  dsimp only
  have ez:((vs.toArray.zip vs.toArray).map (·.2))=vs.toArray:=by
   apply fR.mp
   rw [pF,pG]
   simp [pH]
  refine bb (i9 o3 rfl ?_)
  rw [show (arrOf (SortSt.mk' general' (vs.toArray.zip vs.toArray) #[] 7 none))=vs.toArray.zip vs.toArray from rfl,ez]
  refine bb (gS o3 rfl ?_ (bY _) (by rw [bG,dw];lia))
  simp only [bne_self_eq_false,cu,if_false]
  exact bo (up vs rfl _ (ZV vs).symm (i7 _) fun _ i j hij hj=>by lia)
 ·have hl2:2≤vs.length:=by simpa using h2
  rw [if_neg h2,if_neg h2];refine bb (dA (hk hl2 g (fun κ' s'=>κ'=κ∧s'={ s with heap:=g }) k1 ⟨rfl,rfl⟩) (fun κ' s' hs=>?_) fun _ _ x=>x.elim)
  obtain ⟨rfl,rfl⟩:=hs
  have run:=KD (s:={ s with heap:=g }) (cmp:=kas_ask P w A κ' vs) (fun i j C hi hj hij hC=>hc g i j C k1 hi hj hij hC) (zbM (by lia)) (Q:=fun p s'=>s'={ s with heap:=g }∧PP vs.length p∧(SO lt vs.length→wU lt p vs.length)) fun p hp=>⟨rfl,hp⟩
  refine bb (dA (kat_run (ks:=vs) (Q:=fun st s'=>∃ p:Array Nat,arrOf st=p.map (kas_item (vs.toArray.zip vs.toArray))∧failedOf st=none∧s'={ s with heap:=g }∧PP vs.length p∧(SO lt vs.length→wU lt p vs.length)) rfl hl2 h64 (fun p st s' _ a2 a3 a4=>⟨p,a2,a3,a4⟩) run) ?_ fun _ _ e=>e)
  rintro ⟨⟨⟩,st⟩ s' ⟨p,har,hf,rfl,hp,hr⟩
  dsimp only
  have out:=kat_snds (ks:=vs) rfl har
  have ol:(yK vs p).length=vs.length:=by unfold yK;rw [bn,bW,hp.size]
  rw [out];refine bb (i9 o3 rfl ?_)
  refine bb (gS o3 rfl ?_ (bY _) (by show (lR (yK vs p)).size≤_;rw [bG,ol,dw];lia));rw [hf]
  simp only [bne_self_eq_false,cu,if_false]
  exact bo (up (yK vs p) ol p rfl hp hr)
theorem KG {l:Addr} {vs:List Value} {κ:SortKind} {lt:Nat→Nat→Bool} {Q:Value→Shared→Prop} (h64:vs.length < 64)
  (coll:∀ R:List Value→Shared→Prop,(∀ (h:Heap) (tk:Nat),(∀ b o,s.heap.get? b=some o→h.get? b=some o)→R vs { s with heap:=h,toks:=tk })→wpAny (model P w) A.in1 (collect (.ref l)) R E s)
  (hk:2≤vs.length→∀ (h:Heap) (tk:Nat) (Q:SortKind→Shared→Prop),(∀ b o,s.heap.get? b=some o→h.get? b=some o)→Q κ { s with heap:=h,toks:=tk }→wpAny (model P w) A.in1.in1 (keyKind' vs.toArray) Q (fun _ _=>False) { s with heap:=h,toks:=tk })
  (hc:∀ (h:Heap) (tk:Nat) i j C,(∀ b o,s.heap.get? b=some o→h.get? b=some o)→i < vs.length→j < vs.length→i≠j→C (lt i j) { s with heap:=h,toks:=tk }→kas_ask P w A.in1.in1 κ vs i j C { s with heap:=h,toks:=tk })
  (fin:∀ (h:Heap) (tk:Nat) (h':Heap) (p:Array Nat) (c:Nat),(∀ b o,s.heap.get? b=some o→h.get? b=some o)→(∀ b o,h.get? b=some o→h'.get? b=some o)→h'.get? h.objs.size=some (seqObj "list" (yK vs p).toArray c)→PP vs.length p→(SO lt vs.length→wU lt p vs.length)→Q (.ref h.objs.size) { s with heap:=h',toks:=tk }) :
  wpAny (model P w) A (call (.builtin "sorted") [.ref l]) Q E s:=by
 refine fi kind_sorted pb pd (ph _) ?_;unfold Builtin.«sorted»
 refine bb (m:=checkCount "sorted" 1 1 _) (bo ?_);refine bb (coll _ fun h tk hk1=>?_)
 refine bb (iP ?_ (by rw [dw];lia))
 have hoL:(h.push (seqObj "list" vs.toArray 0)).get? h.objs.size=some (seqObj "list" vs.toArray 0):=bz _ rfl
 have kept:∀ h',Kp h.objs.size (h.push (seqObj "list" vs.toArray 0)) h'→∀ b o,h.get? b=some o→h'.get? b=some o:=fun h' k b o e=>k b o (bZ (bF e)) (bh _ e)
 refine bb (dI (c9 nV ⟨_,hoL,rfl⟩ nE (zaF (s:={ s with heap:=h.push (seqObj "list" vs.toArray 0),toks:=tk }) hoL h64 (κ:=κ) (lt:=lt) (fun h2 h' Q' k q=>?_) (fun h' i j C k hi hj hij q=>?_) fun h' p c k ho hp hr=>?_) (nW _)))
 ·exact hk h2 h' tk Q' (fun b o e=>kept h' k b o (hk1 b o e)) q
 ·exact hc h' tk i j C (fun b o e=>kept h' k b o (hk1 b o e)) hi hj hij q
 ·exact ⟨_,rfl,bo ⟨_,rfl,fin h tk h' p c hk1 (kept h' k) ho hp hr⟩⟩
end
def z4 (a b:Str × Int):Bool:=if a.1=b.1 then decide (a.2 < b.2) else decide (a.1.cps.toList < b.1.cps.toList)
def PlAt (h:Heap) (v:Value) (q:Str × Int):Prop:=∃ a o t u n,v=.ref a∧h.get? a=some o∧o.cls=.type "tuple"∧o.data=.seq #[.str q.1 t,.int q.2 u] n
section
variable {P:Program} {w:World} {A:Around} {E:Value→Shared→Prop} {s:Shared}
theorem zdL {a c:Str} {t u:Tok} {Q:Bool→Shared→Prop} (h:Q (decide (a.cps.toList < c.cps.toList)) s):wpAny (model P w) A (oneLt' true (.str a t) (.str c u)) Q E s:=by
 rw [← keyLt'_oneType]
 exact kas_lt_str h
theorem zdM {a c:Int} {t u:Tok} {Q:Bool→Shared→Prop} (h:Q (decide (a < c)) s):wpAny (model P w) A (oneLt' false (.int a t) (.int c u)) Q E s :=
 kat_one _ _ (og (show W.BoolBack Q (.bool (decide (a < c))) s from h))
theorem zaG {x y:Value} {a b:Str × Int} {Q:Bool→Shared→Prop} (hx:PlAt s.heap x a) (hy:PlAt s.heap y b) (h:Q (z4 a b) s) (hn:a≠b):wpAny (model P w) A (keyLt' (tuples' true) x y) Q E s:=by
 obtain ⟨p,o,t,u,n,rfl,ho,hc,hd⟩:=hx
 obtain ⟨p2,o2,t2,u2,n2,rfl,ho2,hc2,hd2⟩:=hy
 refine kat_lt ho hd ho2 hd2 (kat_cons (wpAny_eqBool_str (kat_go (fun e=>kat_yes (kat_cons (wpAny_eqBool_int (kat_go (fun e2=>?_) fun e2=>kat_no ?_)))) fun e=>kat_no ?_)))
 ·exact absurd (p8 (of_decide_eq_true e) (by simpa using e2)) hn
 ·have e:=of_decide_eq_true e
  unfold z4 at h
  rw [if_pos e] at h
  exact zdM h
 ·have e:=of_decide_eq_false e
  unfold z4 at h
  rw [if_neg e] at h
  exact zdL h
theorem KH {vs:List Value} {qs:List (Str × Int)} {Q:SortKind→Shared→Prop} (hl:vs.length=qs.length) (hv:∀ (i:Nat) (v:Value) (q:Str × Int),vs[i]?=some v→qs[i]?=some q→PlAt s.heap v q) (h2:0 < vs.length) (h:Q (tuples' true) s) :
  wpAny (model P w) A (keyKind' vs.toArray) Q E s:=by
 have T:∀ (vs:List Value) (qs:List (Str × Int)),vs.length=qs.length→(∀ (i:Nat) (v:Value) (q:Str × Int),vs[i]?=some v→qs[i]?=some q→PlAt s.heap v q)→∃ fs,KatTups s.heap vs fs∧fs.length=vs.length∧∀ v∈fs,∃ x t,v=iS x t:=by
  intro vs
  induction vs with
  | nil=>exact fun qs _ _=>⟨[],trivial,rfl,fun _ z=>nomatch z⟩
  | cons v r ih =>
   intro qs hl hv
   match qs,hl with
   | q :: qr,hl =>
    obtain ⟨fs,k,kl,kf⟩:=ih qr (by simpa using hl) fun i v' q' e1 e2=>hv (i + 1) v' q' (by simpa using e1) (by simpa using e2)
    obtain ⟨a,o,t,u,n,rfl,ho,hc,hd⟩:=hv 0 v q rfl rfl
    refine ⟨.str q.1 t :: fs,rf ho hc hd rfl k,by simp [kl],fun z hz=>?_⟩
    rcases bK.mp hz with rfl | hz
    ·exact ⟨_,_,rfl⟩
    ·exact kf z hz
 obtain ⟨fs,k,kl,kf⟩:=T vs qs hl hv
 refine kat_kind (T:=.type "str") k (by lia) (fun v hv=>?_) (by decide) h
 obtain ⟨x,t,rfl⟩:=kf v hv
 exact Looks.of_pure rfl
end
theorem Jb {x y:Str} (h:x.cps.toList=y.cps.toList):x=y:=by
 obtain ⟨a⟩:=x
 obtain ⟨b⟩:=y
 have:a=b:=fR.mp h
 rw [this]
theorem qf {qs:List (Str × Int)} (hn:qs.Nodup):SO (fun i j=>z4 (qs.getD i ("",0)) (qs.getD j ("",0))) qs.length where
 irr:=fun i _=>by
  unfold z4
  rw [if_pos rfl]
  exact decide_eq_false (by lia)
 trans:=fun i j k _ _ _ h1 h2=>by
  generalize qs.getD i ("",0)=a at *
  generalize qs.getD j ("",0)=b at *
  generalize qs.getD k ("",0)=c at *
  unfold z4 at *
  by_cases e1:a.1=b.1
  ·rw [if_pos e1] at h1
   by_cases e2:b.1=c.1
   ·rw [if_pos e2] at h2
    rw [if_pos (e1.trans e2)]
    have h1:=of_decide_eq_true h1
    have h2:=of_decide_eq_true h2
    exact decide_eq_true (by lia)
   ·rw [if_neg e2] at h2
    rw [if_neg (by rw [e1];exact e2),e1]
    exact h2
  ·rw [if_neg e1] at h1
   have h1:=of_decide_eq_true h1
   by_cases e2:b.1=c.1
   ·rw [if_neg (by rw [← e2];exact e1),← e2]
    exact decide_eq_true h1
   ·rw [if_neg e2] at h2
    have h2:=of_decide_eq_true h2
    have h3:=List.lt_trans h1 h2
    rw [if_neg (fun z=>by rw [z] at h3;exact List.lt_irrefl _ h3)]
    exact decide_eq_true h3
 tot:=fun i j hi hj hij h=>by
  have ne:qs.getD i ("",0)≠qs.getD j ("",0):=fun z=>hij (by
   rw [bg,bg,ba hi,ba hj] at z
   exact (fN hn).mp z)
  generalize qs.getD i ("",0)=a at *
  generalize qs.getD j ("",0)=b at *
  unfold z4 at *
  by_cases e:a.1=b.1
  ·rw [if_pos e] at h
   rw [if_pos e.symm]
   have h:=of_decide_eq_false h
   have:a.2≠b.2:=fun z=>ne (p8 e z)
   exact decide_eq_true (by lia)
  ·rw [if_neg e] at h
   rw [if_neg (fun z=>e z.symm)]
   have h:=of_decide_eq_false h
   refine decide_eq_true ?_
   rcases List.le_iff_lt_or_eq.mp (List.not_lt.mp h) with z | z
   ·exact z
   ·exact absurd (Jb z.symm) e
end L2
namespace L2
open PySem
def RawD (h:Heap) (d:Addr) (es:Array DictEntry) (ep:Nat):Prop:=∃ o,h.get? d=some o∧o.ExactDict∧o.data=.dict es ep
section
variable {P:Program} {w:World} {A:Around} {E:Value→Shared→Prop} {s:Shared}
theorem RawD.type {d:Addr} {es:Array DictEntry} {ep:Nat} (x:RawD s.heap d es ep):s.TypeIs (.ref d) "dict":=let ⟨o,ho,hc,_⟩:=x;⟨o,ho,hc.1⟩
theorem RawD.at {h h':Heap} {d:Addr} {es:Array DictEntry} {ep:Nat} (x:RawD h d es ep) (e:∀ o,h.get? d=some o→h'.get? d=some o):RawD h' d es ep:=let ⟨o,ho,r⟩:=x;⟨o,e _ ho,r⟩
theorem zbN {d:Addr} {es:Array DictEntry} {ep:Nat} {Q:Value→Shared→Prop} (lo:(d == sysModules)=false) (hm:RawD s.heap d es ep)
  (q:Q (.ref s.heap.objs.size) { s with heap:=s.heap.push { cls:=.type "dict_keyiterator",data:=.fields #[.ref d,.int 0 0,.int es.size 0,.int ep 0] } }):wpAny (model P w) A (pyIter (.ref d)) Q E s:=by
 have T:=hm.type
 obtain ⟨o,ho,hc,hd⟩:=id hm
 refine mm T F.slot_dict_iter (c9 F.slot_dict_iter T F.entry_dict_iter ?_ (F.args_dict_iter_1 _));unfold Builtin.«dict.__iter__»
 refine bb ?_;unfold Builtin.Dict.dictSlotNone;refine bb (gf T ?_)
 show wpAny _ _ (pure (bM d)) _ _ s;refine bo ?_
 show wpAny _ _ (dZ d >>= _) _ _ s;unfold dZ
 rw [if_neg (by rw [lo];exact bJ)];refine bb (bo ?_)
 refine bb (dW ho hd ?_);refine bb (fC ho hd ?_)
 refine bb (dm (bo ⟨_,rfl,"dict_keyiterator",_,⟨_,bz _ rfl,rfl⟩,F.slot_dict_keyiterator_next.lookup,?_⟩));simpa [rawInt] using q
theorem zbO {it d:Addr} {i ep:Nat} {es:Array DictEntry} {e:DictEntry} {Q:Option Value→Shared→Prop} (hit:s.heap.IsKeyIter it d i es.size ep) (hm:RawD s.heap d es ep) (hx:es[i]?=some e)
  (q:∀ h,h.IsKeyIter it d (i + 1) es.size ep→cZ it s.heap h→Q (some e.key) { s with heap:=h }):wpAny (model P w) A (pyNext (.ref it)) Q E s:=by
 obtain ⟨o,ho,hc,hd⟩:=id hit
 obtain ⟨od,hod,hcd,hdd⟩:=id hm
 have lt:i < es.size:=by
  rcases Nat.lt_or_ge i es.size with h | h
  ·exact h
  ·rw [gX h] at hx;cases hx
 unfold pyNext
 refine bb (iQ (dM (name:=bf "__next__") hit.typeIs eE (c9 eE hit.typeIs iG ?_ (ir _))))
 refine bb (bo ?_);refine bb ?_;refine bb ?_
 first | (refine bb (eC hit.typeIs (bo ?_))) | (refine bb (fD hit.typeIs (bo ?_)))
 refine bb (im ho hd ?_);have own:du "dict_keyiterator"=false:=by decide
 simp only [own,cu,if_false];show wpAny _ _ (if (bM d == cH)=true then _ else _) _ _ s
 rw [if_neg (show ¬ ((bM d == cH)=true) from bJ)];refine bb (bo ?_);refine bb (dW hod hdd ?_)
 rw [if_neg (by simp)];refine bb (bo ?_);refine bb (fC hod hdd ?_);rw [if_neg (by simp)];refine bo ?_
 simp only [show ¬ ((i:Int) < 0) from by lia,if_false,eI,hx]
 refine bb ?_
 first | (refine bb (eC hit.typeIs (bo ?_))) | (refine bb (fD hit.typeIs (bo ?_)))
 refine bb (nF hit.typeIs ?_);show wpAny _ _ (setField (.ref it) 1 (rawInt ((i:Int) + 1)) >>= _) _ _ s
 refine bb (nX ho hd (by simp) ?_)
 have next:(s.heap.update it (Obj.mapFields (·.setIfInBounds 1 (rawInt ((i:Int) + 1))))).IsKeyIter it d (i + 1) es.size ep:=by
  refine ⟨_,ed _ ho (Obj.isFreed_of_fields (oH hd _)),(Obj.cls_mapFields ..).trans hc,?_⟩;rw [oH hd];simp [rawInt]
 refine bb (dI ?_)
 refine bb (nF (s:={ s with heap:=s.heap.update it (Obj.mapFields (·.setIfInBounds 1 (rawInt ((i:Int) + 1)))) }) next.typeIs ?_);show wpAny _ _ (pure e.key) _ _ _
 exact bo (bo ⟨_,rfl,bo (q _ next (lh ..))⟩)
theorem zdN {it d:Addr} {i ep:Nat} {es:Array DictEntry} {Q:Option Value→Shared→Prop} (hh:A.handled=none) (hit:s.heap.IsKeyIter it d i es.size ep) (hm:RawD s.heap d es ep) (hx:es.size≤i)
  (q:∀ h,Heap.ExtBut it s.heap h→Q none { s with heap:=h }):wpAny (model P w) A (pyNext (.ref it)) Q E s:=by
 obtain ⟨o,ho,hc,hd⟩:=id hit
 obtain ⟨od,hod,hcd,hdd⟩:=id hm
 unfold pyNext
 refine bb (iQ (dM (name:=bf "__next__") hit.typeIs eE (c9 eE hit.typeIs iG ?_ (ir _))))
 refine bb (bo ?_);refine bb ?_;refine bb ?_
 first | (refine bb (eC hit.typeIs (bo ?_))) | (refine bb (fD hit.typeIs (bo ?_)))
 refine bb (im ho hd ?_);have own:du "dict_keyiterator"=false:=by decide
 simp only [own,cu,if_false];show wpAny _ _ (if (bM d == cH)=true then _ else _) _ _ s
 rw [if_neg (show ¬ ((bM d == cH)=true) from bJ)];refine bb (bo ?_);refine bb (dW hod hdd ?_)
 rw [if_neg (by simp)];refine bb (bo ?_);refine bb (fC hod hdd ?_);rw [if_neg (by simp)];refine bo ?_
 simp only [show ¬ ((i:Int) < 0) from by lia,if_false,eI,gX hx]
 refine bb ?_
 first | (refine bb (eC hit.typeIs (bo ?_))) | (refine bb (fD hit.typeIs (bo ?_)))
 show wpAny _ _ (setField (.ref it) 0 .none >>= _) _ _ s;refine bb (nX ho hd (by simp) ?_)
 show wpAny _ _ (newExc (.type "StopIteration") [] >>= _) _ _ _;refine bb ?_;simp only [newExc,newTuple]
 refine bb (dm ?_ (by size_fits));refine bb (m:=firstArgMember _ _) (wpAny_of_eq (a:=cH) (by first | rfl | (simp only [firstArgMember];rfl)) ?_)
 refine dm ?_ (by size_fits);simp only [raiseNew]
 refine bb (wpAny_handled ?_);rw [show A.in1.handled=none from hh];refine bb (bo (wpAny_throw ?_))
 exact bb (mT (T:="StopIteration") (b:=true) ⟨_,bz _ rfl,rfl⟩ isSubtype_stop (bo (q _ (((lh ..).extBut.push _).push _))))
theorem zaH (hh:A.handled=none) (I d:Addr) (hne:d≠I) (es:Array DictEntry) (ep:Nat) :
  Walks P w A I [I,d] [I] es.size (fun i v=>∃ e,es[i]?=some e∧v=e.key) (fun i h=>h.IsKeyIter I d i es.size ep∧RawD h d es ep) where
 sub:=fun b hb=>by simp at hb;simp [hb]
 frame:=fun _ _ _ st hk=>⟨st.1.at fun o e=>hk I (by simp) o e,st.2.at fun o e=>hk d (by simp) o e⟩
 item:=fun i s Q E hi st hQ=>by
  refine zbO st.1 st.2 (cE hi) fun h' hit' hs'=>?_
  exact hQ _ h' s.toks ⟨_,cE hi,rfl⟩ ⟨hit',st.2.at fun o e=>hs'.extBut d o hne e⟩ fun b o hb e=>hs'.extBut b o (fun h=>hb (by simp [h])) e
 done:=fun s Q E st hQ=>zdN hh st.1 st.2 (bj _) fun h' he'=>hQ h' s.toks fun b o hb e=>he' b o (fun h=>hb (by simp [h])) e
 self:=fun _ _ _ _ st hQ=>wpAny_pyIter_keyiter st.1 hQ
end
end L2
namespace L2
open PySem PySem.Spec PyProof.Rows
section
open PySem.SeqAt
open PySem.AutoSeq1 (wpAny_loadPart')
open PySem.MeetsSeq PySem.MeetsSeq2 PySem.MeetsSeq3
theorem YY (l b:Addr) (x y:Str) (i j:Int) (t u t2 u2:Tok) (n n2:Nat) (dd dd2:Option Addr) (sl sl2:Array (Option Value)) :
  Meets (Builtin.«tuple.__lt__» ⟨[.ref l,.ref b],[]⟩) (fun _ R s=>s.heap.get? l=some { cls:=.type "tuple",dict:=dd,data:=.seq #[.str x t,.int i u] n,slots:=sl } ∧
   s.heap.get? b=some { cls:=.type "tuple",dict:=dd2,data:=.seq #[.str y t2,.int j u2] n2,slots:=sl2 }∧R (.ok (.ret (.bool (z4 (x,i) (y,j))))) s) :=
 .of_wp fun prog w A R s h=>by
  obtain ⟨hp,g,d,tk,os⟩:=s;obtain ⟨hl,hb,h⟩:=h
  have f2:=AutoSeq1.sub_tuple_tuple
  have lt1:∀ (E:Value→Shared→Prop) (Q:Value→Shared→Prop) (s:Shared),Q (.bool (decide (x.cps.toList < y.cps.toList))) s→wpAny (model prog w) A.in1 (richCompare .Lt (.str x t) (.str y t2)) Q E s:=fun E Q s q=>(PyProof.Rows.lt_str q:wpAny (model prog w) A.in1 (compareOp .Lt (.str x t) (.str y t2)) Q E s)
  have lt2:=HT.rcLt_int A.in1 ⟨hp,g,d,tk,os⟩ i u j u2 prog w
  by_cases e:x=y
  ·subst e
   have eq1:=lP (A:=A.in1) (s:=⟨hp,g,d,tk,os⟩) x t x t2 prog w
   rw [beq_self_eq_true] at eq1
   unfold z4 at h
   rw [if_pos rfl] at h
   by_cases e2:i=j
   ·subst e2
    have eq2:=lO (A:=A.in1) (s:=⟨hp,g,d,tk,os⟩) i u i u2 prog w
    rw [beq_self_eq_true] at eq2
    wp_walk using gg hl,gg hb,eq1,eq2
    exact ⟨_,rfl,by simpa [Builtin.Tuple.tupleCompareSizes] using h⟩
   ·have eq2:=lO (A:=A.in1) (s:=⟨hp,g,d,tk,os⟩) i u j u2 prog w
    rw [show (i == j)=false from by simpa using e2] at eq2
    wp_walk using gg hl,gg hb,eq1,eq2,lt2
    exact ⟨_,rfl,by simpa using h⟩
  ·have eq1:=lP (A:=A.in1) (s:=⟨hp,g,d,tk,os⟩) x t y t2 prog w
   rw [show (x == y)=false from by simpa using e] at eq1
   unfold z4 at h
   rw [if_neg e] at h
   wp_walk using gg hl,gg hb,eq1,lt1
   exact ⟨_,rfl,by simpa using h⟩
end
section
variable {P:Program} {w:World} {A:Around} {E:Value→Shared→Prop} {s:Shared}
theorem RawD.lt {h:Heap} {d:Addr} {es:Array DictEntry} {ep:Nat} (x:RawD h d es ep):d < h.objs.size:=let ⟨_,ho,_⟩:=x;bF ho
theorem zdO {d:Addr} {es:Array DictEntry} {ep:Nat} (lo:(d == sysModules)=false):W.KdlSrc P w "dict" d d es.size (fun i v=>∃ e,es[i]?=some e∧v=e.key) (fun h=>RawD h d es ep) where
 type:=fun _ hm=>hm.type
 there:=fun _ hm=>⟨hm.lt,hm.lt⟩
 keep:=fun _ _ hm hk=>hm.at fun o e=>hk d (.inl rfl) o e
 notList:=by decide
 notTuple:=by decide
 hint:=fun _ _ _ _ hm hq=>W.kdl_hint_dict hm.type hq
 iter:=fun _ _ hh hm=>⟨_,_,(fun _ _ hq=>zbN lo hm hq),zaH hh _ d (bZ hm.lt) es ep,⟨⟨_,bz _ rfl,rfl,rfl⟩,hm.at fun o e=>bh _ e⟩⟩
theorem Jc {T:String} {r d:Addr} {n:Nat} {G:Nat→Value→Prop} {OK:Heap→Prop} {R:List Value→Shared→Prop} (K:W.KdlSrc P w T r d n G OK) (hh:A.handled=none) (hok:OK s.heap) (hn:n≤sizeLine)
  (h:∀ (h':Heap) (tk:Nat) (vs:List Value),(∀ b o,s.heap.get? b=some o→h'.get? b=some o)→vs.length=n→(∀ j v,vs[j]?=some v→G j v)→R vs { s with heap:=h',toks:=tk }) :
  wpAny (model P w) A (collect (.ref r)) R E s:=by
 obtain ⟨lr,ld⟩:=K.there _ hok
 unfold collect
 refine bb (wpAny_runValue (eP nT ?_));rw [dD lq _]
 show wpAny _ A.in1 (newList [] >>= fun l=>again (.builtin "list.__iadd__" ⟨[l,.ref r],[]⟩)) _ _ s;refine bb (dm ?_)
 refine bo ⟨fb fK _,eP entry_list_iadd' ?_⟩;rw [dD fK _]
 have hS:(s.heap.push { cls:=.type "list",data:=.seq ([]:List Value).toArray }).get? s.heap.objs.size=some { cls:=.type "list",data:=.seq #[] }:=bz _ rfl
 show wpAny _ A.in1 (cL (.ref s.heap.objs.size) (.ref r) (.ref s.heap.objs.size)) _ _ _
 have key:=W.kdl_extend (A:=A) (s:={ s with heap:=s.heap.push { cls:=.type "list",data:=.seq ([]:List Value).toArray } }) (R:=fun (q:Result) (s':Shared)=>∃ (h':Heap) (tk:Nat) (acc:Array Value) (c:Nat),q=.ok (.ret (.ref s.heap.objs.size))∧s'={ s with heap:=h',toks:=tk } ∧
   (∀ b o,s.heap.get? b=some o→h'.get? b=some o)∧h'.get? s.heap.objs.size=some { cls:=.type "list",dict:=none,data:=.seq acc c,slots:=#[] }∧ItemsOf G acc n) K hh (K.keep _ _ hok fun b _ o e=>bh _ e) s.heap.objs.size (eF lr) (eF ld) (.ref s.heap.objs.size) 0 hS
  (fun h' tk acc c hk hS' hacc=>⟨h',tk,acc,c,rfl,rfl,fun b o e=>hk b o (bZ (bF e)) (bh _ e),hS',hacc⟩) hn
 refine dA key (fun fin s' x=>?_) fun e s' x=>?_
 ·cases fin with
  | done f =>
   obtain ⟨h',tk,acc,c,e,rfl,hk,hS',hacc⟩:=x
   cases e
   show wpAny _ A (load s.heap.objs.size >>= _) _ _ _;refine bb (nM hS' ?_)
   exact bo (h h' tk acc.toList hk (by rw [bW];exact hacc.1) fun j v e=>hacc.2 j v (by rw [← cX];exact e))
  | again c =>
   refine ⟨x.1,fY x.2 fun q s' x=>?_⟩
   obtain ⟨h',tk,acc,c,rfl,rfl,hk,hS',hacc⟩:=x
   show wpAny _ A (load s.heap.objs.size >>= _) _ _ _;refine bb (nM hS' ?_)
   exact bo (h h' tk acc.toList hk (by rw [bW];exact hacc.1) fun j v e=>hacc.2 j v (by rw [← cX];exact e))
 ·obtain ⟨h',tk,acc,c,e',_⟩:=x
  cases e'
end
def zL (q:Str × Int):List Key:=[.inr q.1,.inl q.2]
abbrev zbP:RC:=fun xs H Q=>∃ (a:Addr) (kvs:List (List Key × V)) (qs:List (Str × Int)),xs=[.ref a]∧H a=some (.dT kvs)∧kvs.map (·.1)=qs.map zL∧kvs.length < 64 ∧
 ∀ (l:Addr) (ps:List (Addr × (Str × Int))),H l=none→(ps.map (·.2)).Perm qs→(ps.map (·.2)).Pairwise (fun a b=>z4 a b=true)→(∀ n∈ps,H n.1=some (.tup [.str n.2.1,.int n.2.2]))→Q (.ref l) (upd H l (.lst (ps.map fun n=>V.ref n.1)))
theorem zX {α β:Type} {F:α→β→Prop}:∀ {l₁:List α} {l₂:List β},Paired F l₁ l₂→∀ {i:Nat} {a:α} {b:β},l₁[i]?=some a→l₂[i]?=some b→F a b
 | _,_,.nil,i,a,b,h,_=>by simp at h
 | _,_,.cons x r,0,a,b,h1,h2=>by
  simp only [bc,bi] at h1 h2
  subst h1 h2
  exact x
 | _,_,.cons x r,i + 1,a,b,h1,h2=>zX r (by simpa using h1) (by simpa using h2)
theorem PlAt.keep {h h':Heap} {v:Value} {q:Str × Int} (x:PlAt h v q) (k:∀ b o,h.get? b=some o→h'.get? b=some o):PlAt h' v q:=by
 obtain ⟨a,o,t,u,n,e,ho,r⟩:=x
 exact ⟨a,o,t,u,n,e,k _ _ ho,r⟩
section
variable {X:Cx}
theorem Jd {pins:List (Addr × Obj)} {σ:St} {H:Hp} {s:Shared} {a:Addr} {q:Str × Int} (I:Inv X pins σ H s) (h:H a=some (.tup [.str q.1,.int q.2])):PlAt s.heap (.ref a) q:=by
 obtain ⟨its,rv,⟨o,ho,hc,n,hd⟩,_⟩:=I.tuple (SqT.of h)
 cases rv with
 | cons r1 rr =>
  cases rr with
  | cons r2 rn =>
   cases rn
   obtain ⟨t,rfl⟩:=r1
   obtain ⟨u,rfl⟩:=r2
   exact ⟨a,o,t,u,n,rfl,ho,hc,hd⟩
theorem xZ {α β:Type} {f:α→β}:∀ {l:List α},(l.map f).Nodup→l.Nodup
 | [],_=>ig
 | a :: r,h=>by
  rw [bX,cW] at h
  exact cW.mpr ⟨fun z=>h.1 (dy z),xZ h.2⟩
theorem Vi (hc:X.calm=true):vq X (.builtin "sorted") zbP:=by
 intro pins s σ H xs us Q I r h
 obtain ⟨a,kvs,qs,rfl,ha,hk,h64,q⟩:=h
 obtain ⟨u,rfl,ru⟩:=jM r
 cases ru
 obtain ⟨hz,lo,xs,rel,o,es,ep,ho,hx,hd,he,hn⟩:=(show ObjOk X.prog X.w H s.heap a (.dT kvs) from I.hok a _ ha)
 have hh:X.A.handled=none:=I.ok.hd hc
 have lk:kvs.length=qs.length:=by have:=congrArg bO hk;simpa using this
 have lx:kvs.length=xs.length:=bH rel
 have les:es.size=xs.length:=by rw [← bW,he,bn]
 -- the keys in their order
 have key:∀ (i:Nat) (x:List Key × Addr × Value),xs[i]?=some x→∃ q,qs[i]?=some q∧x.1=zL q∧H x.2.1=some (.tup [.str q.1,.int q.2]):=fun i x hx=>by
  have hi:=(bw.mp hx).1
  obtain ⟨kv,hkv⟩:∃ kv,kvs[i]?=some kv:=⟨_,ba (by lia)⟩
  obtain ⟨q,hq⟩:∃ q,qs[i]?=some q:=⟨_,ba (by lia)⟩
  have rl:=zX rel hkv hx
  have e1:kv.1=zL q:=by
   have e1:(kvs.map (·.1))[i]?=some kv.1:=by rw [bC,hkv];rfl
   have e2:(qs.map zL)[i]?=some (zL q):=by rw [bC,hq];rfl
   rw [hk,e2] at e1
   exact (bS e1).symm
  refine ⟨q,hq,by rw [← rl.1,e1],?_⟩
  have:=rl.2.1
  rw [e1] at this
  exact this
 have nq:qs.Nodup:=by
  refine xZ (f:=zL) ?_
  have e:xs.map (·.1)=qs.map zL:=by
   rw [← hk]
   apply eL
   intro i
   rw [bC,bC]
   cases hx:xs[i]? with
   | none =>
    have:xs.length≤i:=by simpa using hx
    rw [cK (by lia:kvs.length≤i)]
    rfl
   | some x =>
    have hi:=(bw.mp hx).1
    have hkv:kvs[i]?=some kvs[i]:=ba (by lia)
    rw [hkv]
    have:=(zX rel hkv hx).1
    simp [this]
  rw [← e];exact hn
 have vv:∀ (i:Nat) (v:Value) (q:Str × Int),(xs.map fun x=>bM x.2.1)[i]?=some v→qs[i]?=some q→PlAt s.heap v q:=fun i v q hv hq=>by
  rw [bC] at hv
  obtain ⟨x,hx,rfl⟩:=dq.mp hv
  obtain ⟨q',hq',_,hH⟩:=key i x hx
  rw [hq] at hq'
  cases hq'
  exact Jd I hH
 have lv:(xs.map fun x=>bM x.2.1).length=qs.length:=by rw [bn];lia
 have vat:∀ i,i < qs.length→PlAt s.heap ((xs.map fun x=>bM x.2.1).getD i cH) (qs.getD i ("",0)):=fun i hi=>by
  refine vv i _ _ ?_ ?_
  ·rw [bg,ba (by rw [lv];exact hi)];rfl
  ·rw [bg,ba hi];rfl
 have S:=qf nq
 rw [← lv] at S
 refine ZW (vs:=xs.map fun x=>bM x.2.1) (κ:=tuples' true) (by rw [bn];lia) S (fun R hR=>?_) (fun h2 h tk Q' kp q'=>?_) (fun h tk i j C kp hi hj hij q'=>?_) fun h tk h' p c k1 k2 hD hp hr=>?_
 ·refine Jc (zdO (ep:=ep) (es:=es) lo) hh ⟨o,ho,hx,hd⟩ (by rw [les];lia) fun h' tk vs kp hl hG=>?_
  have ev:vs=xs.map fun x=>bM x.2.1:=by
   apply eL
   intro i
   by_cases hi:i < vs.length
   ·obtain ⟨e,hes,ek⟩:=hG i vs[i] (ba hi)
    have e2:es.toList[i]?=some e:=by rw [cX];exact hes
    rw [he,bC] at e2
    obtain ⟨x,hxx,ex⟩:=dq.mp e2
    rw [ba hi,ek,bC,hxx,← ex]
    rfl
   ·rw [cK (by lia),cK (by rw [bn];lia)]
  rw [ev]
  exact hR h' tk kp
 ·exact KH (s:={ s with heap:=h,toks:=tk }) lv (fun i v q hv hq=>(vv i v q hv hq).keep kp) (by lia) q'
 ·rw [lv] at hi hj
  refine zaG (s:={ s with heap:=h,toks:=tk }) ((vat i hi).keep kp) ((vat j hj).keep kp) q' fun z=>hij ?_
  rw [bg,bg,ba hi,ba hj] at z
  exact (fN nq).mp z
 ·have I1:Inv X pins σ H { s with heap:=h,toks:=tk }:=I.kept k1
  have ps:∃ ps:List (Addr × (Str × Int)),ps.map (fun n=>bM n.1)=yK (xs.map fun x=>bM x.2.1) p∧ps.map (·.2)=p.toList.map (fun i=>qs.getD i ("",0))∧∀ n∈ps,H n.1=some (.tup [.str n.2.1,.int n.2.2]):=by
   have pl:∀ i∈p.toList,i < xs.length:=fun i hi=>by
    have:i∈p:=by simpa using hi
    have:=(oG hp).mp this
    rw [bn] at this
    simpa using this
   refine ⟨p.toList.map fun i=>((xs.getD i ([],0,.none)).2.1,qs.getD i ("",0)),?_,by rw [ee];rfl,fun n hn=>?_⟩
   ·unfold yK
    rw [ee]
    refine dJ fun i hi=>?_
    have:=pl i hi
    simp [bg,bC,ba this]
   ·obtain ⟨i,hi,rfl⟩:=b8.mp hn
    have hl:=pl i hi
    obtain ⟨q,hq,_,hH⟩:=key i xs[i] (ba hl)
    have e1:xs.getD i ([],0,.none)=xs[i]:=by rw [bg,ba hl];rfl
    have e2:qs.getD i ("",0)=q:=by rw [bg,hq];rfl
    show H (xs.getD i ([],0,.none)).2.1=some (.tup [.str (qs.getD i ("",0)).1,.int (qs.getD i ("",0)).2])
    rw [e1,e2]
    exact hH
  obtain ⟨ps,e1,e2,hps⟩:=ps
  have vr:Vals (ps.map fun n=>V.ref n.1) (ps.map fun n=>bM n.1):=by
   clear e1 e2 hps
   induction ps with
   | nil=>exact .nil
   | cons n r ih=>exact .cons rfl ih
  have psz:p.size=xs.length:=by have:=hp.size;rw [bn] at this;exact this
  have pln:ps.length=xs.length:=by have:=congrArg bO e1;unfold yK at this;simpa [psz] using this
  have I2:Inv X pins σ (upd H h.objs.size (.lst (ps.map fun n=>V.ref n.1))) { s with heap:=h',toks:=tk }:=I1.laid (s:={ s with heap:=h,toks:=tk }) (a:=h.objs.size) (o:=.lst (ps.map fun n=>V.ref n.1)) (t':=tk) k2 (bj _)
   ⟨by rw [bn];lia,ps.map fun n=>bM n.1,c,vr,by rw [e1];exact hD⟩
  refine ⟨.ref h.objs.size,_,I2,rfl,q _ ps (I1.hok.fresh (bj _)) ?_ ?_ hps⟩
  ·rw [e2]
   have pr:p.toList.Perm (bN qs.length):=by
    have:=gy.mp hp
    rw [lv] at this
    simpa using this
   refine (pr.map _).trans ?_
   have:(bN qs.length).map (fun i=>qs.getD i ("",0))=qs:=by
    apply eL
    intro i
    rw [bC]
    by_cases hi:i < qs.length
    ·rw [fJ hi,ba hi]
     simp [bg,ba hi]
    ·rw [cK (by simpa using hi),cK (by lia)]
     rfl
   rw [this]
  ·rw [e2,eM,lV]
   intro i j hi hj hij
   rw [bW] at hi hj
   have g1:=v4 hi
   have g2:=v4 hj
   have r:=hr i j hij (by rw [bn];lia)
   have x1:p.toList[i]=gt p i:=by
    rw [cE hi] at g1
    simpa using g1
   have x2:p.toList[j]=gt p j:=by
    rw [cE hj] at g2
    simpa using g2
   rw [x1,x2]
   exact r
end
section
variable {X:Cx}
def zbQ:HO→Prop
 | .tup _=>False
 | .own _=>False
 | .tbl _=>False
 | _=>True
theorem Inv.relab {pins:List (Addr × Obj)} {σ:St} {H:Hp} {s:Shared} {a:Addr} {u u':HO} (I:Inv X pins σ H s) (ha:H a=some u) (hp:zbQ u) (hf:∀ o z,X.H₀ a≠some (.frz o z)) (ho:ObjOk X.prog X.w (upd H a u') s.heap a u'):Inv X pins σ (upd H a u') s:=by
 have nn:∀ b,H b=none→b≠a:=fun b n z=>by subst z;rw [n] at ha;cases ha
 have ntup:∀ b xs,H b=some (.tup xs)→b≠a:=fun b xs q z=>by subst z;rw [ha] at q;cases q;exact hp
 have nown:∀ b y,H b=some (.own y)→b≠a:=fun b y q z=>by subst z;rw [ha] at q;cases q;exact hp
 have ntbl:∀ b y,H b=some (.tbl y)→b≠a:=fun b y q z=>by subst z;rw [ha] at q;cases q;exact hp
 refine ⟨I.ok,I.os,I.bare,⟨I.base.keep,I.base.slot,fun b o q n hb=>?_,I.base.there,fun b xs q=>?_,fun b o z q=>?_,fun b ps q=>?_⟩,I.loc,I.cell,?_,fun x c e=>?_,fun p hp=>?_,fun b v q=>?_,I.len⟩
 ·have:=I.base.free b o q n hb
  rw [zk (nn b this)];exact this
 ·have:=I.base.tups b xs q
  rw [zk (ntup b xs this)];exact this
 ·have:=I.base.frzs b o z q
  rw [zk (fun e=>hf o z (by rw [← e];exact q))];exact this
 ·obtain ⟨m,e⟩:=I.base.tbls b ps q
  exact ⟨m,by rw [zk (ntbl b _ e)];exact e⟩
 ·rw [zk (nn _ I.free)];exact I.free
 ·have:=I.freeC x c e
  rw [zk (nn _ this)];exact this
 ·obtain ⟨h1,h2,h3⟩:=I.pin p hp
  exact ⟨h1,by rw [zk (nn _ h2)];exact h2,h3⟩
 ·by_cases hb:b=a
  ·subst hb
   rw [ze] at q;cases q;exact ho
  ·rw [zk hb] at q
   exact (I.hok b v q).stay (fun _ _ _ r=>r) (fun c r=>by rw [zk (nown c b r)];exact r) fun c xs r=>by rw [zk (ntup c xs r)];exact r
def zgj (t:TS):TS:=fun D σ H=>∃ a u0 kvs,H a=some u0∧(u0=.dT kvs∨∃ o,u0=.frz o (.dT kvs))∧∀ o,t
 ⟨fun σ' H'=>H' a=some (.frz o (.dT kvs))∧D.nx σ' (upd H' a u0),fun v H'=>H' a=some (.frz o (.dT kvs))∧D.rt v (upd H' a u0),fun σ' H'=>H' a=some (.frz o (.dT kvs))∧D.bk σ' (upd H' a u0),fun σ' H'=>H' a=some (.frz o (.dT kvs))∧D.ct σ' (upd H' a u0)⟩ σ (upd H a (.frz o (.dT kvs)))
theorem ObjOk.upd_dT {P:Program} {w:World} {H:Hp} {h:Heap} {a:Addr} {kvs:List (List Key × V)} {u u':HO} (ha:H a=some u) (hp:zbQ u) (x:ObjOk P w H h a (.dT kvs)):ObjOk P w (upd H a u') h a (.dT kvs):=by
 refine x.stay (fun _ _ _ r=>r) (fun c r=>?_) fun c xs r=>?_
 ·rw [zk fun z=>by subst z;rw [ha] at r;cases r;exact hp];exact r
 ·rw [zk fun z=>by subst z;rw [ha] at r;cases r;exact hp];exact r
theorem zft {st:Stmt} {t:TS} (hst:PS X st t):PS X st (zgj t):=by
 rintro pins s σ H D I ⟨a,u0,kvs,ha,hu,h⟩
 have pl:zbQ u0:=by rcases hu with rfl | ⟨o,rfl⟩ <;> trivial
 -- the object as it stands
 have ob:∃ o,s.heap.get? a=some o∧(u0=.dT kvs∨u0=.frz o (.dT kvs)):=by
  rcases hu with rfl | ⟨o,rfl⟩
  ·obtain ⟨hz,lo,xs,rel,o,es,ep,ho,_⟩:=(show ObjOk X.prog X.w H s.heap a (.dT kvs) from I.hok a _ ha)
   exact ⟨o,ho,.inl rfl⟩
  ·exact ⟨o,(show ObjOk X.prog X.w H s.heap a (.frz o (.dT kvs)) from I.hok a _ ha).1,.inr rfl⟩
 obtain ⟨o,ho,hu⟩:=ob
 have I1:Inv X pins σ (upd H a (.frz o (.dT kvs))) s:=by
  rcases hu with rfl | rfl
  ·refine I.relab ha trivial (fun o' z q=>?_) ⟨ho,ObjOk.upd_dT ha trivial (I.hok a _ ha)⟩
   have:=I.base.frzs a o' z q
   rw [ha] at this;cases this
  ·have e:upd H a (.frz o (.dT kvs))=H:=by
    funext b;unfold upd;split
    ·next z=>rw [z];exact ha.symm
    ·rfl
   rw [e];exact I
 have back:∀ {σ':St} {H':Hp} {s':Shared},Inv X pins σ' H' s'→H' a=some (.frz o (.dT kvs))→Inv X pins σ' (upd H' a u0) s':=fun {σ' H' s'} I' ha'=>by
  rcases hu with rfl | rfl
  ·refine I'.relab ha' trivial (fun o' z q=>?_) (ObjOk.upd_dT ha' trivial (show ObjOk X.prog X.w H' s'.heap a (.frz o (.dT kvs)) from I'.hok a _ ha').2)
   have:=I.base.frzs a o' z q
   rw [ha] at this;cases this
  ·have e:upd H' a (.frz o (.dT kvs))=H':=by
    funext b;unfold upd;split
    ·next z=>rw [z];exact ha'.symm
    ·rfl
   rw [e];exact I'
 refine thn (hst pins s σ _ _ I1 (h o)) fun f s' q=>?_
 cases f with
 | next=>obtain ⟨σ',H',I',ha',q⟩:=q;exact ⟨σ',_,back I' ha',q⟩
 | brk=>obtain ⟨σ',H',I',ha',q⟩:=q;exact ⟨σ',_,back I' ha',q⟩
 | cont=>obtain ⟨σ',H',I',ha',q⟩:=q;exact ⟨σ',_,back I' ha',q⟩
 | ret v=>obtain ⟨x,σ',H',I',r,ha',q⟩:=q;exact ⟨x,σ',_,back I' ha',r,q⟩
end
mutual
inductive Dat (K:bD) (H:Hp):V→PyData→Prop
 | non:Dat K H .non .none
 | bl (b:Bool):Dat K H (.bl b) (.bool b)
 | int (i:Int):Dat K H (.int i) (.int i)
 | str (x:Str):Dat K H (.str x) (.str x)
 | lst {a:Addr} {xs:List V} {ds:List PyData}:SqL K H a xs→DatAll K H xs ds→Dat K H (.ref a) (.list ds)
 | tup {a:Addr} {xs:List V} {ds:List PyData}:SqT K H a xs→DatAll K H xs ds→Dat K H (.ref a) (.tuple ds)
inductive DatAll (K:bD) (H:Hp):List V→List PyData→Prop
 | nil:DatAll K H [] []
 | cons {x:V} {d:PyData} {xs:List V} {ds:List PyData}:Dat K H x d→DatAll K H xs ds→DatAll K H (x :: xs) (d :: ds)
end
section
variable {X:Cx} {pins:List (Addr × Obj)} {σ:St} {H:Hp} {s:Shared}
mutual
theorem Dat.reads (I:Inv X pins σ H s):∀ {x:V} {d:PyData} {u:Value},Dat X.K H x d→RelV x u→∃ as,Reads s.heap u d as
 | _,_,_,.non,r=>by cases r;exact ⟨_,.none⟩
 | _,_,_,.bl b,r=>by cases r;exact ⟨_,.bool b⟩
 | _,_,_,.int i,r=>by obtain ⟨t,rfl⟩:=r;exact ⟨_,.int i t⟩
 | _,_,_,.str x,r=>by obtain ⟨t,rfl⟩:=r;exact ⟨_,.str x t⟩
 | _,_,_,.lst hq ha,r=>by
  cases r
  obtain ⟨its,rv,⟨o,n,e,c,_,d⟩,_⟩:=I.list hq
  obtain ⟨as,ra⟩:=DatAll.reads I ha rv
  exact ⟨_,.list e c d (by simpa using ra)⟩
 | _,_,_,.tup hq ha,r=>by
  cases r
  obtain ⟨its,rv,⟨o,e,c,n,d⟩,_⟩:=I.tuple hq
  obtain ⟨as,ra⟩:=DatAll.reads I ha rv
  exact ⟨_,.tuple e c d (by simpa using ra)⟩
theorem DatAll.reads (I:Inv X pins σ H s):∀ {xs:List V} {ds:List PyData} {us:List Value},DatAll X.K H xs ds→Vals xs us→∃ as,ReadsAll s.heap us ds as
 | _,_,_,.nil,r=>by cases r;exact ⟨_,.nil⟩
 | _,_,_,.cons hx ht,r=>by
  cases r with
  | cons r1 rr =>
   obtain ⟨as,ra⟩:=Dat.reads I hx r1
   obtain ⟨bs,rb⟩:=DatAll.reads I ht rr
   exact ⟨_,.cons ra rb⟩
end
end
section
variable {K:bD} {H H':Hp}
theorem SqL.mono {a:Addr} {xs:List V} (k:Same H H') (h:SqL K H a xs):SqL K H' a xs:=by
 rcases h with (h | ⟨o,h⟩) | h
 ·exact .inl (.inl (k _ _ h))
 ·exact .inl (.inr ⟨o,k _ _ h⟩)
 ·exact .inr h
theorem DatAll.of {α:Type} {f:α→V} {g:α→PyData}:∀ {l:List α},(∀ a∈l,Dat K H (f a) (g a))→DatAll K H (l.map f) (l.map g)
 | [],_=>.nil
 | a :: r,h=>.cons (h a br) (DatAll.of fun b hb=>h b (bx _ hb))
end
mutual
def zM:PyData→Bool
 | .none=>true
 | .int _=>true
 | .str x=>cf x
 | .list xs=>z6 xs
 | .tuple xs=>z6 xs
 | .bool _=>false
 | .dict _=>false
def z6:List PyData→Bool
 | []=>true
 | x :: xs=>zM x && z6 xs
end
mutual
theorem Wu:∀ {d:PyData},zM d=true→d.canLay0=true
 | .none,_=>by simp [fh]
 | .int _,_=>by simp [fh]
 | .str x,h=>by simpa [fh,zM] using h
 | .list xs,h=>by rw [fh];exact qg (by simpa [zM] using h)
 | .tuple xs,h=>by rw [fh];exact qg (by simpa [zM] using h)
 | .bool _,h=>by simp [zM] at h
 | .dict _,h=>by simp [zM] at h
theorem qg:∀ {ds:List PyData},z6 ds=true→gr ds=true
 | [],_=>by simp [gr]
 | x :: xs,h=>by
  rw [z6,bV] at h
  rw [gr,Wu h.1,qg h.2];rfl
end
mutual
theorem Zt:∀ {d e:PyData},zM d=true→zM e=true→(ie d e=true↔d=e)
 | .list xs,.list ys,h,h'=>by
  rw [ie,qh (by simpa [zM] using h) (by simpa [zM] using h'),PyData.list.injEq]
 | .tuple xs,.tuple ys,h,h'=>by
  rw [ie,qh (by simpa [zM] using h) (by simpa [zM] using h'),PyData.tuple.injEq]
 | .bool _,_,h,_=>by simp [zM] at h
 | .dict _,_,h,_=>by simp [zM] at h
 | .none,.bool _,_,h=>by simp [zM] at h
 | .int _,.bool _,_,h=>by simp [zM] at h
 | .str _,.bool _,_,h=>by simp [zM] at h
 | .list _,.bool _,_,h=>by simp [zM] at h
 | .tuple _,.bool _,_,h=>by simp [zM] at h
 | .none,.dict _,_,h=>by simp [zM] at h
 | .int _,.dict _,_,h=>by simp [zM] at h
 | .str _,.dict _,_,h=>by simp [zM] at h
 | .list _,.dict _,_,h=>by simp [zM] at h
 | .tuple _,.dict _,_,h=>by simp [zM] at h
 | .none,.none,_,_ | .none,.int _,_,_ | .none,.str _,_,_ | .none,.list _,_,_ | .none,.tuple _,_,_=>by simp [ie]
 | .int _,.none,_,_ | .int _,.int _,_,_ | .int _,.str _,_,_ | .int _,.list _,_,_ | .int _,.tuple _,_,_=>by simp [ie]
 | .str _,.none,_,_ | .str _,.int _,_,_ | .str _,.str _,_,_ | .str _,.list _,_,_ | .str _,.tuple _,_,_=>by simp [ie]
 | .list _,.none,_,_ | .list _,.int _,_,_ | .list _,.str _,_,_ | .list _,.tuple _,_,_=>by simp [ie]
 | .tuple _,.none,_,_ | .tuple _,.int _,_,_ | .tuple _,.str _,_,_ | .tuple _,.list _,_,_=>by simp [ie]
theorem qh:∀ {xs ys:List PyData},z6 xs=true→z6 ys=true→(iR xs ys=true↔xs=ys)
 | [],[],_,_=>by simp [iR]
 | [],_ :: _,_,_=>by simp [iR]
 | _ :: _,[],_,_=>by simp [iR]
 | x :: xs,y :: ys,h,h'=>by
  rw [z6,bV] at h h'
  rw [iR,bV,Zt h.1 h'.1,qh h.2 h'.2,bq]
end
abbrev XT (K:bD) (neg:Bool):R2:=fun x y H Q=>∃ d e,Dat K H x d∧Dat K H y e∧(zM d=true∧zM e=true∧d.depth≤64∧e.depth≤64)∧∀ b:Bool,(b=true↔d=e)→Q (.bl (if neg then !b else b)) H
section
variable {X:Cx}
theorem wL {d:PyData} (h:zM d=true) (h':d.depth≤64):iq d=true:=by
 unfold iq
 rw [Wu h,decide_eq_true h'];rfl
theorem zbR (hu:X.A.units + 64 < cLine):OpR X (compareOp .Eq) (XT X.K false):=by
 intro pins s σ H x y v u Q I rx ry h
 obtain ⟨d,e,hd,he,⟨p1,p2,l1,l2⟩,q⟩:=h
 obtain ⟨as,ra⟩:=hd.reads I rx
 obtain ⟨bs,rb⟩:=he.reads I ry
 exact eq_dataH ra rb (wL p1 l1) (wL p2 l2) hu ⟨.bl _,H,I,rfl,q _ (Zt p1 p2)⟩
theorem YZ (hu:X.A.units + 64 < cLine):OpR X (compareOp .NotEq) (XT X.K true):=by
 intro pins s σ H x y v u Q I rx ry h
 obtain ⟨d,e,hd,he,⟨p1,p2,l1,l2⟩,q⟩:=h
 obtain ⟨as,ra⟩:=hd.reads I rx
 obtain ⟨bs,rb⟩:=he.reads I ry
 exact ne_dataH ra rb (wL p1 l1) (wL p2 l2) hu ⟨.bl _,H,I,rfl,q _ (Zt p1 p2)⟩
end
end L2
namespace L2
open PySem PySem.Spec PyProof.Rows
abbrev Y0 (neg:Bool):R2:=fun x y H Q=>∃ a o,y=.ref a∧DGet H a x o∧Q (.bl (if neg then !o.isSome else o.isSome)) H
section
variable {X:Cx}
theorem qS (hu:X.A.units + 1 < cLine):OpR X (compareOp .In) (Y0 false):=by
 intro pins s σ H x y v u Q I rx ry h
 obtain ⟨a,o,rfl,g,q⟩:=h
 cases ry
 exact zgH hu I g rx fun s' I'=>⟨.bl _,H,I',rfl,q⟩
theorem KI (hu:X.A.units + 1 < cLine):OpR X (compareOp .NotIn) (Y0 true):=by
 intro pins s σ H x y v u Q I rx ry h
 obtain ⟨a,o,rfl,g,q⟩:=h
 cases ry
 exact zdz hu I g rx fun s' I'=>⟨.bl _,H,I',rfl,q⟩
end
end L2
namespace L2
open PySem
abbrev Pl:=Str × Int
abbrev Row:=Pl × Int
def zy:List Row→Pl→Option Int
 | [],_=>none
 | r :: t,p=>(zy t p).or (if r.1=p then some r.2 else none)
def qT (kvs:List (List Key × V)) (q:Row):List (List Key × V):=yD kvs (zL q.1) (.int q.2)
def dOf (rows:List Row):List (List Key × V):=rows.foldl qT []
theorem xz {p q:Pl} (h:zL p=zL q):p=q:=by
 unfold zL at h
 simp only [bq,Sum.inr.injEq,Sum.inl.injEq,and_true] at h
 exact p8 h.1 h.2
theorem Je:∀ (rows:List Row) (kvs:List (List Key × V)) (p:Pl),yf (rows.foldl qT kvs) (zL p)=((zy rows p).map V.int).or (yf kvs (zL p))
 | [],_,_=>rfl
 | r :: t,kvs,p=>by
  rw [fu,Je t,zy]
  show _=_
  rw [qT,wg]
  cases zy t p with
  | some w=>rfl
  | none =>
   by_cases e:r.1=p
   ·subst e;simp
   ·rw [if_neg (fun z=>e (xz z).symm)];simp [e]
theorem xI (rows:List Row) (p:Pl):yf (dOf rows) (zL p)=(zy rows p).map V.int:=by
 unfold dOf
 rw [Je,zbk]
 cases zy rows p <;> rfl
theorem v5 (rows:List Row) (q:Row):dOf (rows ++ [q])=yD (dOf rows) (zL q.1) (.int q.2):=by
 unfold dOf
 rw [oP];rfl
def OkKv (kvs:List (List Key × V)):Prop:=(kvs.map (·.1)).Nodup∧∀ kv∈kvs,∃ (p:Pl) (w:Int),kv=(zL p,.int w)
theorem OkKv.put {kvs:List (List Key × V)} (h:OkKv kvs) (p:Pl) (w:Int):OkKv (yD kvs (zL p) (.int w)):=by
 cases e:yf kvs (zL p) with
 | none =>
  refine ⟨zdB _ h.1 e,fun kv hk=>?_⟩
  rw [jV _ e] at hk
  rcases bP.mp hk with hk | hk
  ·exact h.2 kv hk
  ·exact ⟨p,w,b5.mp hk⟩
 | some v =>
  have q:(kvs.any fun kv=>decide (kv.1=zL p))=true:=by rw [we,e];rfl
  unfold yD
  rw [if_pos q]
  constructor
  ·rw [ee]
   have:((fun x:List Key × V=>x.1) ∘ fun kv:List Key × V=>if kv.1=zL p then (kv.1,V.int w) else kv)=fun x=>x.1:=by
    funext kv
    show (if kv.1=zL p then (kv.1,V.int w) else kv).1=kv.1
    split <;> rfl
   rw [this];exact h.1
  ·intro kv hk
   obtain ⟨z,hz,rfl⟩:=b8.mp hk
   by_cases e:z.1=zL p
   ·exact ⟨p,w,by rw [if_pos e,e]⟩
   ·rw [if_neg e];exact h.2 z hz
theorem Wv:∀ (rows:List Row) (kvs:List (List Key × V)),OkKv kvs→OkKv (rows.foldl qT kvs)
 | [],_,h=>h
 | r :: t,kvs,h=>Wv t _ (h.put r.1 r.2)
theorem wV (rows:List Row):OkKv (dOf rows):=Wv rows [] ⟨ig,fun _ h=>nomatch h⟩
theorem zdP (kvs:List (List Key × V)) (k:List Key) (v:V):(yD kvs k v).length≤kvs.length + 1:=by
 unfold yD
 split
 ·rw [bn];lia
 ·rw [bt];simp
theorem Jf:∀ (rows:List Row) (kvs:List (List Key × V)),(rows.foldl qT kvs).length≤kvs.length + rows.length
 | [],_=>by simp
 | r :: t,kvs=>by
  have:=Jf t (qT kvs r)
  have:=zdP kvs (zL r.1) (.int r.2)
  rw [fu,cp]
  unfold qT at *
  lia
theorem x0 (rows:List Row):(dOf rows).length≤rows.length:=by have:=Jf rows [];simpa [dOf] using this
theorem QK {kvs:List (List Key × V)}:(kvs.map (·.1)).Nodup→∀ kv∈kvs,yf kvs kv.1=some kv.2:=by
 induction kvs with
 | nil=>exact fun _ kv h=>nomatch h
 | cons a r ih =>
  intro hn kv hk
  rw [bX,cW] at hn
  rcases bK.mp hk with rfl | hk
  ·exact yI rfl
  ·rw [yJ fun z=>hn.1 (by rw [z];exact dy hk)]
   exact ih hn.2 kv hk
theorem mem_dOf {rows:List Row} {kv:List Key × V}:kv∈dOf rows↔∃ p w,kv=(zL p,.int w)∧zy rows p=some w:=by
 constructor
 ·intro h
  obtain ⟨p,w,rfl⟩:=(wV rows).2 kv h
  have:=QK (wV rows).1 _ h
  rw [xI] at this
  obtain ⟨w',e1,e2⟩:=dq.mp this
  cases e2
  exact ⟨p,w,rfl,e1⟩
 ·rintro ⟨p,w,rfl,h⟩
  have e:yf (dOf rows) (zL p)=some (.int w):=by rw [xI,h];rfl
  obtain ⟨kv,hk,e1⟩:=b8.mp (Qx e)
  have:=QK (wV rows).1 _ hk
  rw [e1,e] at this
  have e2:kv=(zL p,V.int w):=p8 e1 (bS this).symm
  rw [← e2];exact hk
theorem vy (a:Pl):z4 a a=false:=by
 unfold z4
 rw [if_pos rfl]
 exact decide_eq_false (by lia)
theorem XU {a b c:Pl} (h1:z4 a b=true) (h2:z4 b c=true):z4 a c=true:=by
 unfold z4 at *
 by_cases e1:a.1=b.1
 ·rw [if_pos e1] at h1
  by_cases e2:b.1=c.1
  ·rw [if_pos e2] at h2
   rw [if_pos (e1.trans e2)]
   have h1:=of_decide_eq_true h1
   have h2:=of_decide_eq_true h2
   exact decide_eq_true (by lia)
  ·rw [if_neg e2] at h2
   rw [if_neg (by rw [e1];exact e2),e1]
   exact h2
 ·rw [if_neg e1] at h1
  have h1:=of_decide_eq_true h1
  by_cases e2:b.1=c.1
  ·rw [if_neg (by rw [← e2];exact e1),← e2]
   exact decide_eq_true h1
  ·rw [if_neg e2] at h2
   have h2:=of_decide_eq_true h2
   have h3:=List.lt_trans h1 h2
   rw [if_neg (fun z=>by rw [z] at h3;exact List.lt_irrefl _ h3)]
   exact decide_eq_true h3
def Rising (l:List Row):Prop:=l.Pairwise fun a b=>z4 a.1 b.1=true
def xA (rows out:List Row):Prop:=Rising out∧∀ p w,(p,w)∈out↔zy rows p=some w∧w≠0
theorem Rising.nd {l:List Row} (h:Rising l):(l.map (·.1)).Nodup:=by
 unfold eV
 rw [eM]
 exact mo (fun {a b} h z=>by rw [z,vy] at h;cases h) h
theorem Ww {p:Pl}:∀ {l:List Row},(∀ r∈l,r.1≠p)→zy l p=none
 | [],_=>rfl
 | r :: t,h=>by
  rw [zy,Ww fun r hr=>h r (bx _ hr),if_neg (h r br)];rfl
theorem qU {p:Pl} {w:Int}:∀ {l:List Row},(l.map (·.1)).Nodup→(zy l p=some w↔(p,w)∈l)
 | [],_=>by simp [zy]
 | r :: t,hn=>by
  rw [bX,cW] at hn
  have ih:=qU (p:=p) (w:=w) hn.2
  by_cases e:r.1=p
  ·have z:zy t p=none:=Ww fun q hq zz=>hn.1 (by rw [e,← zz];exact dy hq)
   rw [zy,z,if_pos e]
   constructor
   ·intro h
    have:r.2=w:=by simpa using h
    rw [← e,← this];exact br
   ·intro h
    rcases bK.mp h with h | h
    ·rw [← h];rfl
    ·exact absurd (dy (f:=(·.1)) h) (by rw [← e];exact hn.1)
  ·rw [zy,if_neg e,pV,ih,bK]
   constructor
   ·exact .inr
   ·rintro (h | h)
    ·exact absurd (by rw [← h]) e
    ·exact h
theorem zdQ {rows out:List Row} (h:xA rows out) (p:Pl):(zy out p).getD 0=(zy rows p).getD 0:=by
 have k:=fun w=>qU (p:=p) (w:=w) h.1.nd
 cases e:zy rows p with
 | none =>
  cases e':zy out p with
  | none=>rfl
  | some w =>
   have:=(h.2 p w).mp ((k w).mp e')
   rw [e] at this;cases this.1
 | some w =>
  by_cases hw:w=0
  ·subst hw
   cases e':zy out p with
   | none=>rfl
   | some w' =>
    have:=(h.2 p w').mp ((k w').mp e')
    rw [e] at this
    cases this.1
    exact absurd rfl this.2
  ·rw [(k w).mpr ((h.2 p w).mpr ⟨e,hw⟩)]
theorem jn:∀ {a b:List Row},Rising a→Rising b→(∀ x,x∈a↔x∈b)→a=b
 | [],[],_,_,_=>rfl
 | [],y :: _,_,_,h=>absurd ((h y).mpr br) (by simp)
 | x :: _,[],_,_,h=>absurd ((h x).mp br) (by simp)
 | x :: a,y :: b,ha,hb,h=>by
  unfold Rising at ha hb
  rw [gT] at ha hb
  have e:x=y:=by
   rcases bK.mp ((h x).mp br) with e | e
   ·exact e
   ·rcases bK.mp ((h y).mpr br) with e' | e'
    ·exact e'.symm
    ·have:=XU (ha.1 y e') (hb.1 x e)
     rw [vy] at this;cases this
  subst e
  have nx:x ∉ a:=fun z=>by have:=ha.1 x z;rw [vy] at this;cases this
  have ny:x ∉ b:=fun z=>by have:=hb.1 x z;rw [vy] at this;cases this
  rw [jn ha.2 hb.2 fun z=>?_]
  constructor
  ·intro hz
   rcases bK.mp ((h z).mp (bx _ hz)) with e | e
   ·subst e;exact absurd hz nx
   ·exact e
  ·intro hz
   rcases bK.mp ((h z).mpr (bx _ hz)) with e | e
   ·subst e;exact absurd hz ny
   ·exact e
theorem zbS {rows a b:List Row} (ha:xA rows a) (hb:xA rows b):a=b :=
 jn ha.1 hb.1 fun x=>(ha.2 x.1 x.2).trans (hb.2 x.1 x.2).symm
theorem wP {α:Type} [DecidableEq α]:∀ {a b:List α},a.Nodup→(∀ x∈a,x∈b)→a.length≤b.length
 | [],_,_,_=>bY _
 | x :: a,b,hn,h=>by
  rw [cW] at hn
  have hx:=h x br
  have:=wP (a:=a) (b:=b.erase x) hn.2 fun y hy=>(List.mem_erase_of_ne fun z=>hn.1 (by rw [← z];exact hy)).mpr (h y (bx _ hy))
  rw [List.length_erase_of_mem hx] at this
  have:0 < b.length:=List.length_pos_of_mem hx
  rw [cp];lia
end L2
namespace L2
open PySem PySem.Spec PyProof.Rows
end L2
namespace L2
open PySem PySem.Spec PyProof.Rows
theorem kI:plainId "dict.update.loop"=true:=by decide +kernel
theorem Wx:entryFor table "dict.update.loop"=some Builtin.«dict.update.loop»:=entryFor_of_fast (by kernel_rfl)
section
variable {X:Cx} {A:Around} {R:Result→Shared→Prop}
def PrAt (H:Hp) (v:V) (q:Row):Prop:=∃ r p,v=.ref r∧H r=some (.tup [.ref p,.int q.2])∧H p=some (.tup [.str q.1.1,.int q.1.2])
theorem zaI {pins:List (Addr × Obj)} {σ:St} {H:Hp} {s:Shared} {d b:Addr} {kvs:List (List Key × V)} {k:List Key} {v:V} {u:Value} {E:Value→Shared→Prop} {Q:Unit→Shared→Prop} (hu:A.units + 1 < cLine) (I:Inv X pins σ H s) (e:H d=some (.dT kvs)) (eb:H b=some (.tup (k.map kV))) (l:kvs.length < sizeLine) (rv:RelV v u)
  (h:∀ h' tk,Inv X pins σ (upd H d (.dT (yD kvs k v))) { s with heap:=h',toks:=tk }→cZ d s.heap h'→Q () { s with heap:=h',toks:=tk }):wpAny (model X.prog X.w) A.in1 (dictSet d (.ref b) u) Q E s:=by
 obtain ⟨z,hd,xs,rel,dd⟩:=zeP I.hok e
 have hz:xs.length≤sizeLine:=by rw [← bH rel];exact z
 have hl:(yD kvs k v).length≤sizeLine:=by have:=wj kvs k v;lia
 refine wpAny_dictSet_heap (hsz:=hz) (eY hu) (qc I.hok eb) dd fun h' dd' hs=>h _ _ ?_ hs
 obtain ⟨q,es,ep,hq,h2,h3,h4,_,h5⟩:=dd'
 refine W4 I (by rw [e];exact fm) hs ⟨q,hq⟩ ⟨hl,hd,_,(rel.put k eb rv).keeps fun c ys ec=>?_,q,es,ep,hq,h2,h3,h4,h5⟩
 rw [zk (yE ec e (fun z=>nomatch z))]
 exact ec
theorem zbT {pins:List (Addr × Obj)} {σ:St} {H:Hp} {d it l:Addr} {xs:List V} {rows:List Row} {res:Value} (hu:A.units + 1 < cLine) (hh:A.handled=none) (hd:H d=none) (hl:H l=some (.lst xs)) (hr:Paired (PrAt H) xs rows) (h63:rows.length≤1000) (dit:it≠d) (lit:l≠it) :
  ∀ (k i:Nat) (s:Shared),rows.length - i=k→i≤rows.length→Inv X pins σ (upd H d (.dT (dOf (rows.take i)))) s→s.heap.IsListIter it l i→(∀ u,jP X pins (upd H d u) it) →
  (∀ s',Inv X pins σ (upd H d (.dT (dOf rows))) s'→R (.ok (.ret res)) s') →
  codeAny (model X.prog X.w) A (.builtin "dict.update.loop" ⟨[.ref d,.ref it,rawInt i,res],[]⟩) R s:=by
 have lx:xs.length=rows.length:=bH hr
 have S:∀ u:HO,Same H (upd H d u):=fun u=>isV (o:=u) d hd
 intro k
 induction k with
 | zero =>
  intro i s hk hi I st hf fin
  have e:i=rows.length:=by lia
  subst e
  refine eP Wx ?_
  rw [dD kI _]
  show wpAny _ A.in1 (pyNext (.ref it) >>= _) _ _ s
  obtain ⟨its,rv,p,hz⟩:=I.list (SqL.of (S _ _ _ hl))
  obtain ⟨f0,f1,f2,f3,f4,f5⟩:=hf (.dT (dOf (rows.take rows.length)))
  have hl2:=rv.length
  refine bb (nh hh st p.isList (by simp;lia) fun h' eb=>?_)
  have I1:=I.turned (t':=s.toks) (fun b o hb e=>eb b o hb e) f0 f1 f3 f4 f5
  rw [dk] at I1
  show wpAny _ A.in1 (Builtin.Dict.addKeywords d [] >>= _) _ _ _
  exact bb (bo (bo (fin _ I1)))
 | succ k ih =>
  intro i s hk hi I st hf fin
  have hlt:i < rows.length:=by lia
  refine eP Wx ?_
  rw [dD kI _]
  show wpAny _ A.in1 (pyNext (.ref it) >>= _) _ _ s
  obtain ⟨its,rv,p,hz⟩:=I.list (SqL.of (S _ _ _ hl))
  obtain ⟨f0,f1,f2,f3,f4,f5⟩:=hf (.dT (dOf (rows.take i)))
  have hx:xs[i]?=some xs[i]:=ba (by lia)
  have hq:rows[i]?=some rows[i]:=ba hlt
  obtain ⟨r,pl,e1,t1,u1⟩:=zX hr hx hq
  obtain ⟨u,hu',ru⟩:=rv.get hx
  rw [e1] at ru
  cases ru
  refine bb (mV st p.isList (x:=.ref r) (by simpa using hu') fun h' st' sb=>?_)
  have I1:=I.turned (t':=s.toks) (fun b o hb e=>(sb.2 b hb).trans e) f0 f1 f3 f4 f5
  obtain ⟨tis,tv,⟨o,ho,hc,n,hdt⟩,_⟩:=I1.tuple (SqT.of (S _ _ _ t1))
  cases tv with
  | cons r1 rr =>
   cases rr with
   | cons r2 rn =>
    cases rn
    cases r1
    obtain ⟨tk,rfl⟩:=r2
    refine bb (dI ?_)
    have T:({ s with heap:=h' }:Shared).TypeIs (.ref r) "tuple":=⟨o,ho,hc⟩
    refine bb (wpAny_tryCatch ?_)
    unfold Builtin.Dict.pairItems
    refine bb (nG T ?_)
    rw [if_pos (by decide)]
    refine bb ?_
    unfold seqItems?
    refine bb (nM ho ?_)
    rw [hdt]
    refine bo (bo ?_)
    show wpAny _ _ (holding [.ref pl,.int rows[i].2 tk] (dictSet d (.ref pl) (.int rows[i].2 tk))) _ _ _
    refine dI ?_
    have tk2:dOf (rows.take (i + 1))=yD (dOf (rows.take i)) (zL rows[i].1) (.int rows[i].2):=by rw [cM,hq,← v5];rfl
    have l2:(dOf (rows.take i)).length < sizeLine:=by
     have h1:=x0 (rows.take i)
     have h2:=List.length_take_le' i rows
     exact b0 (by lia:_≤1000) (by decide)
    refine zaI (k:=zL rows[i].1) (v:=.int rows[i].2) hu I1 ze (S _ _ _ u1) l2 ⟨tk,rfl⟩ fun h2 tk3 I2 sb2=>?_
    rw [Yq,← tk2] at I2
    refine bo ⟨fb kI _,ih (i + 1) _ (by lia) hlt I2 (st'.at fun o e=>(sb2.2 it dit).trans e) hf fin⟩
end
end L2
namespace L2
open PySem PySem.Spec PyProof.Rows
theorem Vj:typeLookup (.type "list") "keys"=pure none:=by rw [nH,iu];kernel_rfl
section
variable {prog:Program} {w:World} {A:Around} {E:Value→Shared→Prop} {s:Shared} {a:Addr} {o:Obj} {xs:Array Value} {k:Nat}
theorem Y1 {Q:Option Value→Shared→Prop} (hx:s.heap.get? a=some o) (hc:o.cls=.type "list") (hdat:o.data=.seq xs k) (hd:o.dict=none) (hA:A.handled=none)
  (h:∀ h' tk,(∀ b ob,s.heap.get? b=some ob→h'.get? b=some ob)→Q none { s with heap:=h',toks:=tk }):wpAny (model prog w) A (getAttr? (.ref a) "keys") Q E s:=by
 obtain ⟨c,dct,dat,sl⟩:=o;simp only at hc hdat hd;subst hc hdat hd
 obtain ⟨hp,g,d,tk,os⟩:=s;have hT:∀ tk',(⟨hp,g,d,tk',os⟩:Shared).TypeIs (.ref a) "list":=fun _=>⟨_,hx,rfl⟩
 have f1:=sub_AttributeError;have f3:=F.slot_list_getattribute.lookup;have f4:=F.slot_list_getattribute.bind (.ref a);have f5:=am_list_getattr_none
 unfold getAttr? getAttrBy? getAttrBy
 repeat (any_goals (first | assumption | exact hT _ | ((with_reducible show wpAny _ _ (call (Value.builtin "list.__getattribute__") _ _) _ _ _);refine nQ F.slot_list_getattribute (hT _) am_entry_list_getattribute (F.args_list_getattribute_2 _ _) (meets_getattribute_miss_list a xs k sl "keys" _ Vj (by decide +kernel) (by decide +kernel)) ⟨hx,hA,fun h' tk' e hx'=>?_⟩) | wp_step))
 obtain ⟨t',u',he⟩:=hx'.there;have kp:=hx'.keeps
 show wpAny _ _ (getattributeRaised _ _ _ _ _ _ _) _ _ _;unfold getattributeRaised
 repeat (any_goals (first | assumption | wp_step))
 all_goals exact h _ _ fun b ob e=>kp b ob e
end
theorem hu3 {k:Nat} {A:Around} (r:Room k A):A.units + 3 < cLine:=by have:=Vd r;lia
abbrev qV:RC:=fun vs H Q=>∃ (a:Addr) (xs:List V) (rows:List Row),vs=[.ref a]∧H a=some (.lst xs)∧Paired (PrAt H) xs rows∧rows.length≤1000∧∀ p,H p=none→Q (.ref p) (upd H p (.dT (dOf rows)))
section
variable {X:Cx}
theorem xq (hc:X.calm=true) (hu:X.A.units + 3 < cLine):vq X (.type "dict") qV:=by
 intro pins s σ H vs us Q I r h
 obtain ⟨a,xs,rows,rfl,ha,hr,hl,q⟩:=h
 obtain ⟨u,rfl,ru⟩:=jM r
 cases ru
 have hh:X.A.handled=none:=I.ok.hd hc
 refine nY (Q₁:=fun obj s₁=>obj=.ref s.heap.objs.size∧s₁={ s with heap:=s.heap.push { cls:=.type "dict",data:=.dict #[] } }) F.kt_called_dict (F.kt_typeCall_dict_1 _) F.entry_dict_init (kt_code_dict_new _ ⟨rfl,rfl⟩) ?_;rintro obj s₁ ⟨rfl,rfl⟩
 have T0:({ s with heap:=s.heap.push { cls:=.type "dict",data:=.dict #[] } }:Shared).TypeIs (.ref s.heap.objs.size) "dict":=⟨_,bz _ rfl,rfl⟩
 refine ⟨T0,F.args_dict_init_2 _ _,?_⟩;unfold Builtin.«dict.__init__»;refine bb ?_;unfold Builtin.Dict.selfAndRest
 refine bb (gf T0 ?_);show wpAny _ _ (pure (s.heap.objs.size,[bM a])) _ _ _;refine bo ?_
 show wpAny _ _ (mI "dict.__init__" s.heap.objs.size (.ref a) [] .none) _ _ _;unfold mI
 have hn:H s.heap.objs.size=none:=I.hok.fresh (bj _)
 have S:∀ u:HO,Same H (upd H s.heap.objs.size u):=fun u=>isV (o:=u) _ hn
 have I1:Inv X pins σ (upd H s.heap.objs.size (.dT [])) { s with heap:=s.heap.push { cls:=.type "dict",data:=.dict #[] } } :=
  I.laid (a:=s.heap.objs.size) (o:=.dT []) (t':=s.toks) (fun b o z=>bh _ z) (bj _) (V2 s.heap I.big)
 obtain ⟨its,rv,pl,_⟩:=I1.list (SqL.of (S _ _ _ ha))
 obtain ⟨o,n,ho,oc,od,odat⟩:=id pl
 have T1:({ s with heap:=s.heap.push { cls:=.type "dict",data:=.dict #[] } }:Shared).TypeIs (.ref a) "list":=⟨o,ho,oc⟩
 refine bb (nG T1 ?_);rw [if_pos (by decide)]
 refine bb (Y1 ho oc odat od (by exact hh) fun h2 tk2 k2=>?_);rw [if_pos (show (none:Option Value).isNone=true from rfl)]
 refine bb (wpAny_rule ?_)
 have I2:Inv X pins σ (upd H s.heap.objs.size (.dT [])) { s with heap:=h2,toks:=tk2 }:=I1.kept k2
 obtain ⟨its2,rv2,pl2,_⟩:=I2.list (SqL.of (S _ _ _ ha))
 refine bb (l7 pl2.isList ?_)
 have I3:Inv X pins σ (upd H s.heap.objs.size (.dT (dOf (rows.take 0)))) { s with heap:=h2.push { cls:=.type "list_iterator",data:=.fields #[.ref a,.int 0 0] },toks:=tk2 }:=I2.kept (t':=tk2) fun b o e=>bh _ e
 refine bo ⟨fb kI _,?_⟩
 have lt:s.heap.objs.size < h2.objs.size:=bF (k2 s.heap.objs.size _ (bz _ rfl))
 have la:a < h2.objs.size:=by obtain ⟨_,_,z,_⟩:=pl2;exact bF z
 refine zbT (A:=X.A.in1) (H:=H) (d:=s.heap.objs.size) (it:=h2.objs.size) (l:=a) (xs:=xs) (rows:=rows) (res:=.none) ?_ hh hn ha hr hl (eF lt) (bZ la) rows.length 0 _ (by lia) (bY _) I3 ⟨_,bz _ rfl,rfl,rfl⟩ (fun u=>?_) fun s' I'=>⟨rfl,.ref s.heap.objs.size,_,I',rfl,q _ hn⟩
 ·have e:X.A.in1.units=X.A.units + 1:=rfl
  lia
 ·refine I2.fpOk (bj _) ?_
  rw [zk (eF lt)]
  have:=I2.hok.fresh (bj h2.objs.size)
  rw [zk (eF lt)] at this
  exact this
end
end L2
namespace L2
open PySem PySem.Spec PyProof.Rows
section
variable {X:Cx} {k:Nat} {f C:Addr} {fd:FuncData} {ps:List Str} {sp:Sp} {m:Str} {pos apos:Pos} {e o:Expr} {es:List Expr} {ta:TE} {t:TA}
def Vk (C:Addr) (m:Str) (sp:Sp) (ta:TE) (t:TA) (EX:EXK):TE:=fun σ H Q=>ta σ H fun x H1=>∃ a dx fs,x=.ref a∧H1 a=some (.ins C dx fs)∧fs.lookup m=none ∧
 t σ H1 fun vs H2=>sp (x :: (vs ++ [])) H2 Q fun cls _ H3=>EX cls σ H3
theorem Jg {pl:Sem Bool} (he:PE X.nox o ta) (c:Cls X.K C) (hm:zap X.K C m f) (F:FnOk X.prog X.w X.K X.mg X.base (CX1 X.prog X.w) k f fd ps sp) (hr:Room k X.A) (hb:Binds X.K fd ps []) (ha:PA X.nox (e :: es) t)
  (hst:starEach (e :: es) X.env=(false,eval e X.env) :: starEach es X.env:=by rfl) (hpl:(backTo pos (starEach es X.env)).any (·.1)=false:=by rfl)
  (ht:eval (.Call (.Attribute o m apos) (e :: es) [] pos) X.env=(do
   let ov ← eval o X.env
   standAt apos.atName
   let (f,first) ← holding [ov] (getMethod ov m pl)
   callWith pos f first (backTo pos (starEach (e :: es) X.env)) (backToKw pos (keywordEach [] X.env))):=by rfl) :
  PEX X (.Call (.Attribute o m apos) (e :: es) [] pos) (Vk C m sp ta t):=by
 intro pins s σ H Q EX I h
 refine nr (pl:=pl) (dA (he pins s σ H _ (I.wish _) h) (fun u s1 ⟨x,H1,I1',rx,a,dx,fs,ex,ea,l,q⟩=>?_) fun _ _ z=>dv z) ht
 subst ex
 obtain rfl:u=bM a:=rx
 have I1:=I1'.unwish
 refine qa I1 ea c hm l ?_
 refine nk (first:=[.ref a]) (h₀:=X.base) I.ok.mod.kin hm.kp (dA (ha pos pins s1 σ H1 _ (I1.wish _) q) (fun us s2 ⟨vs,H2,I2',r,q2⟩=>⟨I2'.kIn,?_⟩) fun _ _ z=>dv z) hst hpl
 have I2:=I2'.unwish
 have r2:Vals (V.ref a :: (vs ++ [])) (bM a :: (us ++ [])):=.cons rfl (r.append .nil)
 have hl:((bM a :: us) ++ []).length=ps.length:=by
  have e:=r2.length
  rw [F.len _ _ _ _ q2] at e
  exact e.symm
 refine wpAny_call (fY (F.run X.A X.stack s2 H2 ⟨.ref a :: us,[]⟩ ((.ref a :: us) ++ []) (.ref a :: (vs ++ [])) _ _ hr I2.env0 (hb s2 (.ref a :: us) I2.kIn hl) r2 q2) fun r s' hq=>?_)
 cases r with
 | error ev =>
  obtain ⟨e,cls,H',rfl,os,bare,un,hok,xf,hE⟩:=hq
  exact ⟨e,cls,σ,s2,H2,H',rfl,I2,I2.call' (ch:=[]) os un hok bare (fun b z=>nomatch z),xf,hE⟩
 | ok fl =>
  cases fl with
  | ret u=>exact I2.after hq
  | next=>exact dv hq
  | brk=>exact dv hq
  | cont=>exact dv hq
end
def KJ (K:bD) (tb:EXK→TS) (C1:Addr) (th1:TS) (C2:Addr) (th2:TS):TS:=fun D σ H=>tb (fun cls σ1 H1=>∃ C,cls=.ref C ∧
 ((fW K (.ref C) (.ref C1)=some true∧th1 D σ1 H1)∨(fW K (.ref C) (.ref C1)=some false∧fW K (.ref C) (.ref C2)=some true∧th2 D σ1 H1))) D σ H
section
variable {X:Cx} {st b₀ b₁:Stmt} {suite suite1:List Stmt} {tb:EXK→TS} {th1 th2:TS} {c1 c2:Str} {C1 C2:Addr} {np hpos np2 hpos2 pos:Pos}
theorem zbU (hst:X.stack=X.env :: X.outer∧X.env.frame=some X.env.locals) (hex:X.ex=[]) (hb:PSX X st tb) (hg1:Gl X c1) (hm1:X.mg c1=some (.ref C1)) (hg2:Gl X c2) (hm2:X.mg c2=some (.ref C2))
  (hs1:∀ e,PSs (X.sub e) (b₀ :: suite) th1) (hs2:∀ e,PSs (X.sub e) (b₁ :: suite1) th2) (hdb1:(c1 == ("__debug__":Str))=false:=by decide) (hdb2:(c2 == ("__debug__":Str))=false:=by decide) :
  PS X (.Try [st] [.ExceptHandler (some (.Name c1 np)) none (b₀ :: suite) hpos,.ExceptHandler (some (.Name c2 np2)) none (b₁ :: suite1) hpos2] [] [] pos) (KJ X.K tb C1 th1 C2 th2):=by
 intro pins s σ H D I h
 refine wpAny_Try_except (iD (dA (hb pins s σ H D _ I h) (fun f s1 q=>?_) fun ev s1 q=>?_))
 ·cases f with
  | next=>exact eN (eN q)
  | ret v=>exact q
  | brk=>exact q
  | cont=>exact q
 obtain ⟨e,cls,σ1,s0,H0,H1,rfl,I0,I1,xf,C,rfl,hth⟩:=q
 obtain ⟨oe,vs,a0,T,oT,ts,h1,h2,h3,h4,h5,h6,h7,h8,h9,h10,h11,h12⟩:=xf
 have fr:s1.heap.FunFrames (gB s1.heap (frs X.stack ++ [e,T])) (X.env :: X.outer):=by
  have q:=iE (as:=frs X.stack ++ [e,T]) I1.stack fun env he a ha=>cz _ (fV.mpr ⟨env,he,ha⟩)
  rw [hst.1] at q ⊢
  exact q
 have two:∀ b∈[e,T],s0.heap.get? b=none∧H1 b=none:=fun b z=>by
  have z':b=e∨b=T:=by simpa using z
  rcases z' with rfl | rfl
  ·exact ⟨h9,h11⟩
  ·exact ⟨h10,h12⟩
 have hcs:∀ b∈[e,T],H1 b=none∧X.s₀.heap.get? b=none:=fun b z=>⟨(two b z).2,v3 (I0.there0 hex) (two b z).1⟩
 have hcp:∀ b∈[e,T],∀ p∈X.pn ++ pins,p.1≠b:=fun b z p hp q=>by
  have:=(I0.pin p hp).1
  rw [q,(two b z).1] at this;cases this
 refine wpAny_looks_onW (base:=gB s1.heap (frs X.stack ++ [e,T])) (a0:=a0) (cls:=.ref C) (by rw [I1.ok.frames,hst.1]) hst.2
  ⟨fun b o q=>lI _ q,fS _ (bR _ (by simp)),fr,oe,vs,T,oT,ts,h1,h2,h3,h4,fS _ (bR _ (by simp)),h5,h6,h7,h8⟩ fun g4 held4 sm4=>?_
 refine wpAny_landsW held4 fun g5 fly5 sm5=>?_
 have hB:∀ {g:Heap},(gB s1.heap (frs X.stack ++ [e,T])).StaysIn g→∀ b o,s1.heap.get? b=some o→b ∉ frs X.stack→b ∉ [e,T]→g.get? b=some o :=
  fun {g} k b o q n1 n2=>k b o (iN _ q fun z=>(bP.mp z).elim n1 n2)
 have I5:Inv X pins σ1 H1 { s1 with heap:=g5 }:=I1.land hex hcs hcp (hB fly5.1) (sm4.trans sm5)
 have K5:=I5.kIn
 have ty5:W.Looks (model X.prog X.w) g5 (typeOf (.ref e)) (.ref C):=by
  obtain ⟨o,p1,p2⟩:=fly5.there
  exact p2 ▸ (pW p1).andThen .now
 have run:∀ {b₂:Stmt} {su:List Stmt} {th:TS} {hp:Pos} {R:Result→Shared→Prop},(∀ e,PSs (X.sub e) (b₂ :: su) th)→th D σ1 H1→(∀ f s',SP X pins D f s'→R (.ok f) s') →
   codeAny (model X.prog X.w) (X.A.mark (some (.ref e))) (.handlers (.ref e) [.ExceptHandler none none (b₂ :: su) hp] X.env) R { s1 with heap:=g5 }:=fun {b₂ su th hp R} hs hth hR=>by
  refine m5 (lands_againW fly5 fun g6 fly6 sm6=>?_)
  have I6:Inv X pins σ1 H1 { s1 with heap:=g6 }:=I1.land hex hcs hcp (hB fly6.1) ((sm4.trans sm5).trans sm6)
  refine dA (hs e pins _ σ1 H1 D I6.toSub hth) (fun f s9 q=>hR f s9 ?_) fun _ _ z=>dv z
  cases f with
  | next=>obtain ⟨σ9,H9,J,z⟩:=q;exact ⟨σ9,H9,Inv.ofSub (J:=I) J,z⟩
  | brk=>obtain ⟨σ9,H9,J,z⟩:=q;exact ⟨σ9,H9,Inv.ofSub (J:=I) J,z⟩
  | cont=>obtain ⟨σ9,H9,J,z⟩:=q;exact ⟨σ9,H9,Inv.ofSub (J:=I) J,z⟩
  | ret u=>obtain ⟨v,σ9,H9,J,r,z⟩:=q;exact ⟨v,σ9,H9,Inv.ofSub (J:=I) J,r,z⟩
 refine lA (iw ?_) (by intro q;cases q)
 refine vo (X:=X.sub e) (I5.toSub (e:=e)) hg1 hm1 ?_ hdb1
 rcases hth with ⟨hx,ht⟩ | ⟨hx,hx2,ht⟩
 ·refine (W.exm_one K5 ty5 hx).here ?_
  exact run hs1 ht fun f s' q=>q
 ·refine (W.exm_one K5 ty5 hx).here ?_
  show wpAny _ _ (handleBy (.ref e) X.env _) _ _ _
  refine lA (iw ?_) (by intro q;cases q)
  refine vo (X:=X.sub e) (I5.toSub (e:=e)) hg2 hm2 ?_ hdb2
  refine (W.exm_one K5 ty5 hx2).here ?_
  exact run hs2 ht fun f s' q=>q
end
end L2
namespace L2
open PySem
def rk (kvs:List (Key × V)) (ps:List V):Except Er Int:=match xP kvs ps [] with
 | .ok [i]=>.ok i
 | .ok _=>.error .stuck
 | .error e=>.error e
theorem Good.rk {kvs:List (Key × V)} {ps:List V} {r:Except Er Int} (h:Good kvs ps r):L2.rk kvs ps=r:=by
 unfold L2.rk
 rw [h.1 []]
 cases r <;> rfl
theorem zbV {kvs:List (Key × V)} (hs:yv kvs) {v:V} (hv:jm v) {st st':List Int} (h:∀ x∈st,inW x=true) (e:xH kvs st v=.ok st'):∀ x∈st',inW x=true:=by
 unfold xH at e
 split at e
 ·split at e
  ·rename_i w b a r hr hj
   unfold wH at e
   by_cases c1:ZU w∧b=0
   ·rw [if_pos c1] at e;cases e
   ·rw [if_neg c1] at e
    by_cases c2:inW (wT w a b)=true
    ·rw [if_pos c2] at e
     cases e
     intro x hx
     rcases bP.mp hx with hx | hx
     ·refine h x (gJ.mp ?_)
      rw [hr]
      exact bx _ (bx _ (gJ.mp hx))
     ·rw [b5.mp hx];exact c2
    ·rw [if_neg c2] at e;cases e
  ·cases e
 ·cases e
  intro x hx
  rcases bP.mp hx with hx | hx
  ·exact h x hx
  ·rw [b5.mp hx];exact V9 hs hv
theorem QL {kvs:List (Key × V)} (hs:yv kvs):∀ {ps:List V} {st st':List Int},(∀ v∈ps,jm v)→(∀ x∈st,inW x=true)→xP kvs ps st=.ok st'→∀ x∈st',inW x=true
 | [],st,st',_,h,e=>by cases e;exact h
 | v :: r,st,st',hp,h,e=>by
  unfold xP at e
  split at e
  ·rename_i st1 e1
   exact QL hs (fun v hv=>hp v (bx _ hv)) (zbV hs (hp v br) h e1) e
  ·cases e
theorem zbW {kvs:List (Key × V)} (hs:yv kvs) {ps:List V} (hp:∀ v∈ps,jm v) {i:Int} (e:rk kvs ps=.ok i):inW i=true:=by
 unfold rk at e
 split at e
 ·rename_i j hj
  cases e
  exact QL hs hp (fun _ z=>absurd z dN) hj i br
 ·cases e
 ·cases e
def TermOk (e:List V):Prop:=(∀ kvs,∃ r,Good kvs e r)∧(∀ v∈e,jm v)∧e.length≤1000
theorem TermOk.good {e:List V} (h:TermOk e) (kvs:List (Key × V)):Good kvs e (rk kvs e):=by
 obtain ⟨r,g⟩:=h.1 kvs
 rw [g.rk];exact g
mutual
inductive Rw where
 | take (sh:Str) (e:List V) (sl:Str)
 | give (sh:Str) (e f:List V)
 | lt (sl:Str) (e:List V)
 | say (e:List V)
 | off (e:List V)
 | iff (e:List V) (a b:Rws)
inductive Rws where
 | nil
 | cons (r:Rw) (rs:Rws)
end
set_option genSizeOf false in
set_option genInjectivity false in
structure Sta where
 sl:List (Key × V)
 wo:List Row
 sa:List Int
inductive Res where
 | go (s:Sta)
 | off
 | er (e:Er)
mutual
def goR:Rw→Sta→Res
 | .take sh e sl,s=>match rk s.sl e with
  | .ok n=>.go { s with sl:=yD s.sl (.inr sl) (.int ((zy s.wo (sh,n)).getD 0)) }
  | .error x=>.er x
 | .give sh e f,s=>match rk s.sl e with
  | .ok n=>(match rk s.sl f with
   | .ok w=>.go { s with wo:=s.wo ++ [((sh,n),w)] }
   | .error x=>.er x)
  | .error x=>.er x
 | .lt sl e,s=>match rk s.sl e with
  | .ok n=>.go { s with sl:=yD s.sl (.inr sl) (.int n) }
  | .error x=>.er x
 | .say e,s=>match rk s.sl e with
  | .ok n=>.go { s with sa:=s.sa ++ [n] }
  | .error x=>.er x
 | .off e,s=>match rk s.sl e with
  | .ok n=>if n=0 then .go s else .off
  | .error x=>.er x
 | .iff e a b,s=>match rk s.sl e with
  | .ok n=>if n=0 then zdR b s else zdR a s
  | .error x=>.er x
def zdR:Rws→Sta→Res
 | .nil,s=>.go s
 | .cons r rs,s=>match goR r s with
  | .go s'=>zdR rs s'
  | x=>x
end
mutual
def RwAt (F:Addr→Prop) (H:Hp) (v:V):Rw→Prop
 | .take sh e sl=>∃ r te,v=.ref r∧F r∧F te∧H r=some (.tup [.str "take",.str sh,.ref te,.str sl])∧H te=some (.tup e)
 | .give sh e f=>∃ r te tf,v=.ref r∧F r∧F te∧F tf∧H r=some (.tup [.str "give",.str sh,.ref te,.ref tf])∧H te=some (.tup e)∧H tf=some (.tup f)
 | .lt sl e=>∃ r te,v=.ref r∧F r∧F te∧H r=some (.tup [.str "let",.str sl,.ref te])∧H te=some (.tup e)
 | .say e=>∃ r te,v=.ref r∧F r∧F te∧H r=some (.tup [.str "say",.ref te])∧H te=some (.tup e)
 | .off e=>∃ r te,v=.ref r∧F r∧F te∧H r=some (.tup [.str "off",.ref te])∧H te=some (.tup e)
 | .iff e a b=>∃ r te la lb xs ys,v=.ref r∧F r∧F te∧F la∧F lb∧H r=some (.tup [.str "if",.ref te,.ref la,.ref lb])∧H te=some (.tup e)∧H la=some (.lst xs)∧RwsAt F H xs a∧H lb=some (.lst ys)∧RwsAt F H ys b
def RwsAt (F:Addr→Prop) (H:Hp) (vs:List V):Rws→Prop
 | .nil=>vs=[]
 | .cons r rs=>∃ v ws,vs=v :: ws∧RwAt F H v r∧RwsAt F H ws rs
end
mutual
theorem RwAt.to_ {F G:Addr→Prop} {H H':Hp} (g:∀ b o,F b→H b=some o→G b) (s:∀ b o,F b→H b=some o→H' b=some o):∀ {v:V} (r:Rw),RwAt F H v r→RwAt G H' v r
 | v,.take sh e sl,h=>by
  unfold RwAt at h ⊢
  obtain ⟨r,te,e1,f1,f2,e2,e3⟩:=h
  exact ⟨r,te,e1,g _ _ f1 e2,g _ _ f2 e3,s _ _ f1 e2,s _ _ f2 e3⟩
 | v,.give sh e f,h=>by
  unfold RwAt at h ⊢
  obtain ⟨r,te,tf,e1,f1,f2,f3,e2,e3,e4⟩:=h
  exact ⟨r,te,tf,e1,g _ _ f1 e2,g _ _ f2 e3,g _ _ f3 e4,s _ _ f1 e2,s _ _ f2 e3,s _ _ f3 e4⟩
 | v,.lt sl e,h=>by
  unfold RwAt at h ⊢
  obtain ⟨r,te,e1,f1,f2,e2,e3⟩:=h
  exact ⟨r,te,e1,g _ _ f1 e2,g _ _ f2 e3,s _ _ f1 e2,s _ _ f2 e3⟩
 | v,.say e,h=>by
  unfold RwAt at h ⊢
  obtain ⟨r,te,e1,f1,f2,e2,e3⟩:=h
  exact ⟨r,te,e1,g _ _ f1 e2,g _ _ f2 e3,s _ _ f1 e2,s _ _ f2 e3⟩
 | v,.off e,h=>by
  unfold RwAt at h ⊢
  obtain ⟨r,te,e1,f1,f2,e2,e3⟩:=h
  exact ⟨r,te,e1,g _ _ f1 e2,g _ _ f2 e3,s _ _ f1 e2,s _ _ f2 e3⟩
 | v,.iff e a b,h=>by
  unfold RwAt at h ⊢
  obtain ⟨r,te,la,lb,xs,ys,e1,f1,f2,f3,f4,e2,e3,e4,e5,e6,e7⟩:=h
  exact ⟨r,te,la,lb,xs,ys,e1,g _ _ f1 e2,g _ _ f2 e3,g _ _ f3 e4,g _ _ f4 e6,s _ _ f1 e2,s _ _ f2 e3,s _ _ f3 e4,RwsAt.to_ g s a e5,s _ _ f4 e6,RwsAt.to_ g s b e7⟩
theorem RwsAt.to_ {F G:Addr→Prop} {H H':Hp} (g:∀ b o,F b→H b=some o→G b) (s:∀ b o,F b→H b=some o→H' b=some o):∀ {vs:List V} (r:Rws),RwsAt F H vs r→RwsAt G H' vs r
 | vs,.nil,h=>by
  unfold RwsAt at h ⊢
  exact h
 | vs,.cons r rs,h=>by
  unfold RwsAt at h ⊢
  obtain ⟨v,ws,e1,e2,e3⟩:=h
  exact ⟨v,ws,e1,RwAt.to_ g s r e2,RwsAt.to_ g s rs e3⟩
end
theorem RwAt.to {F G:Addr→Prop} {H H':Hp} {v:V} (r:Rw) (g:∀ b o,F b→H b=some o→G b) (s:∀ b o,F b→H b=some o→H' b=some o) (h:RwAt F H v r):RwAt G H' v r:=RwAt.to_ g s r h
theorem RwsAt.to {F G:Addr→Prop} {H H':Hp} {vs:List V} (r:Rws) (g:∀ b o,F b→H b=some o→G b) (s:∀ b o,F b→H b=some o→H' b=some o) (h:RwsAt F H vs r):RwsAt G H' vs r:=RwsAt.to_ g s r h
theorem RwAt.mono {F:Addr→Prop} {H H':Hp} (s:Same H H') {v:V} {r:Rw} (h:RwAt F H v r):RwAt F H' v r:=h.to r (fun _ _ f _=>f) (fun b o _ e=>s b o e)
theorem RwsAt.mono {F:Addr→Prop} {H H':Hp} (s:Same H H') {vs:List V} {r:Rws} (h:RwsAt F H vs r):RwsAt F H' vs r:=h.to r (fun _ _ f _=>f) (fun b o _ e=>s b o e)
def zdS (F:Addr→Prop) (H:Hp) (v:V) (r:Rws):Prop:=∃ a xs,v=.ref a∧F a∧H a=some (.lst xs)∧RwsAt F H xs r
abbrev XV:Addr→Prop:=fun _=>True
mutual
def jR:Rw→Prop
 | .take _ e _=>TermOk e
 | .give _ e f=>TermOk e∧TermOk f
 | .lt _ e=>TermOk e
 | .say e=>TermOk e
 | .off e=>TermOk e
 | .iff e a b=>TermOk e∧yX a∧yX b
def yX:Rws→Prop
 | .nil=>True
 | .cons r rs=>jR r∧yX rs
end
mutual
def Rw.deep:Rw→Nat
 | .iff _ a b=>max a.deep b.deep + 1
 | _=>0
def Rws.deep:Rws→Nat
 | .nil=>0
 | .cons r rs=>max r.deep rs.deep
end
mutual
def Rw.cnt:Rw→Nat
 | .iff _ a b=>max a.cnt b.cnt + 1
 | _=>1
def Rws.cnt:Rws→Nat
 | .nil=>0
 | .cons r rs=>r.cnt + rs.cnt
end
end L2
namespace L2
open PySem
abbrev ItA (h:Heap) (it d:Addr) (i n ep:Nat) (o0:Value) (f:Bool) (ok ov:Value):Prop :=
 h.get? it=some { cls:=.type "dict_itemiterator",dict:=none,data:=.fields #[o0,.bool f,.ref d,.int i 0,.int n 0,.int ep 0,ok,ov],slots:=#[] }
section
variable {P:Program} {w:World} {A:Around} {E:Value→Shared→Prop} {s:Shared}
theorem Jh {v d:Addr} {es:Array DictEntry} {ep:Nat} {Q:Value→Shared→Prop} (hv:s.heap.IsItemsView v d) (hm:RawD s.heap d es ep)
  (q:Q (.ref s.heap.objs.size) { s with heap:=s.heap.push { cls:=.type "dict_itemiterator",data:=.fields #[.none,.bool false,.ref d,.int 0 0,.int es.size 0,.int ep 0,.none,.none] } }):wpAny (model P w) A (pyIter (.ref v)) Q E s:=by
 obtain ⟨ov,hov,hcv,hdv⟩:=id hv;obtain ⟨o,ho,hc,hdat⟩:=id hm
 refine mm hv.typeIs m6 (c9 m6 hv.typeIs F.entry_dict_items_iter ?_ (F.args_dict_items_iter_1 _));unfold Builtin.«dict_items.__iter__»
 refine bb (bo ?_);refine bb ?_;unfold Builtin.Dict_items.dictOf
 refine bb (gh hov hdv (x:=.ref d) rfl (bo ?_));refine bb ?_;unfold Builtin.Dict_items.newIterator
 refine bb (dW ho hdat ?_);refine bb (fC ho hdat ?_)
 have own:du "dict_itemiterator"=true:=by decide
 simp only [own,if_true];refine dm (bo ⟨_,rfl,"dict_itemiterator",_,⟨_,bz _ rfl,rfl⟩,cO.lookup,?_⟩) (by simp only [sizeOk,gL,bG,bt,cp,pR,dw];lia)
 simpa [rawInt,gL] using q
theorem zbX {it d:Addr} {i ep:Nat} {es:Array DictEntry} {e:DictEntry} {o0 ok ov:Value} {f:Bool} {Q:Option Value→Shared→Prop} (hit:ItA s.heap it d i es.size ep o0 f ok ov) (hm:RawD s.heap d es ep) (hx:es[i]?=some e)
  (ho0:(o0=.none∧f=false)∨∃ (a:Addr) (oa:Obj),o0=rawInt (a:Nat)∧s.heap.get? a=some oa∧a≠it)
  (q:∀ h' o1 f1 k1 v1,ItA h' it d (i + 1) es.size ep o1 f1 k1 v1→((o1=.none∧f1=false)∨∃ (a:Addr) (oa:Obj),o1=rawInt (a:Nat)∧h'.get? a=some oa∧a≠it)→h'.get? s.heap.objs.size=some { cls:=.type "tuple",data:=.seq #[e.key,e.val] }→h'.objs.size=s.heap.objs.size + 1 →
   (∀ b o,b≠it→s.heap.get? b=some o→h'.get? b=some o)→(∀ a:Addr,o1=rawInt (a:Nat)→a=s.heap.objs.size∨o0=rawInt (a:Nat))→Q (some (.ref s.heap.objs.size)) { s with heap:=h' }):wpAny (model P w) A (pyNext (.ref it)) Q E s:=by
 obtain ⟨hp,g,dr,tk,os⟩:=s;obtain ⟨od,hod,hcd,hdd⟩:=id hm
 have T:mJ ⟨hp,g,dr,tk,os⟩ (.ref it) "dict_itemiterator":=⟨_,hit,rfl⟩
 unfold pyNext;refine bb (iQ (dM (name:=bf "__next__") T cO (c9 cO T fH ?_ (fE _))))
 refine bb (bo ?_);refine bb ?_;refine bb ?_
 first | (refine bb (dh T (bo ?_))) | (refine bb (dH T (bo ?_)))
 refine bb (im hit rfl ?_);have own:du "dict_itemiterator"=true:=by decide
 simp only [own,if_true];show wpAny _ _ (if (bM d == cH)=true then _ else _) _ _ _
 rw [if_neg (show ¬ ((bM d == cH)=true) from bJ)];refine bb (bo ?_);refine bb (dW hod hdd ?_)
 rw [if_neg (by simp)];refine bb (bo ?_);refine bb (fC hod hdd ?_);rw [if_neg (by simp)];refine bo ?_
 simp only [show ¬ ((i:Int) < 0) from by lia,if_false,eI,hx];refine bb ?_
 first | (refine bb (dh T (bo ?_))) | (refine bb (dH T (bo ?_)))
 refine bb (dR T ?_);show wpAny _ _ (setField (.ref it) 3 (rawInt ((i:Int) + 1)) >>= _) _ _ ⟨hp,g,dr,tk,os⟩
 refine bb (df hit (by simp) fun h₁ e1 s1=>?_)
 replace s1:cZ it hp h₁:=s1
 replace e1:ItA h₁ it d (i + 1) es.size ep o0 f ok ov:=by
  have z:((i + 1:Nat):Int)=(i:Int) + 1:=by lia
  unfold ItA;rw [z];simpa [rawInt] using e1
 have T1:mJ ⟨h₁,g,dr,tk,os⟩ (.ref it) "dict_itemiterator":=⟨_,e1,rfl⟩
 refine bb (dI ?_);refine bb (dR T1 ?_);refine bb (dR T1 ?_)
 show wpAny _ _ (dP (.ref it) 6 e.key e.val) _ _ ⟨h₁,g,dr,tk,os⟩
 unfold dP;refine bb (lU ?_)
 have e2:ItA (h₁.push { cls:=.type "tuple",data:=.seq #[e.key,e.val] }) it d (i + 1) es.size ep o0 f ok ov:=bh _ e1
 generalize hg:h₁.push { cls:=.type "tuple",data:=.seq #[e.key,e.val] }=h₂ at e2
 have z1:h₁.objs.size=hp.objs.size:=s1.1;have il:it < hp.objs.size:=bF hit
 have t2:h₂.get? hp.objs.size=some { cls:=.type "tuple",data:=.seq #[e.key,e.val] }:=by rw [← hg,← z1];exact bz _ rfl
 have z2:h₂.objs.size=hp.objs.size + 1:=by rw [← hg,fT,z1]
 have k2:∀ b o,b≠it→hp.get? b=some o→h₂.get? b=some o:=fun b o hb z=>by rw [← hg];exact bh _ (s1.extBut b o hb z)
 show wpAny _ _ (dL (.ref it) >>= _) _ _ ⟨h₂,g,dr,tk,os⟩;rw [z1]
 clear hg e1 s1 T1 z1 h₁;refine bb ?_;unfold dL
 rcases ho0 with ⟨rfl,rfl⟩ | ⟨a,oa,rfl,ha,hai⟩
 ·refine bb (gh e2 rfl (x:=.none) rfl (bo ?_));simp only [if_true]
  refine bb (gh e2 rfl (x:=ok) rfl ?_);refine bb (gh e2 rfl (x:=ov) rfl ?_)
  refine bb (df e2 (by simp) fun h₃ e3 s3=>?_);replace s3:cZ it h₂ h₃:=s3;replace e3:ItA h₃ it d (i + 1) es.size ep .none false e.key ov:=e3
  refine bb (df e3 (by simp) fun h₄ e4 s4=>?_);replace s4:cZ it h₃ h₄:=s4;replace e4:ItA h₄ it d (i + 1) es.size ep .none false e.key e.val:=e4
  refine bb (df e4 (by simp) fun h₅ e5 s5=>?_);replace s5:cZ it h₄ h₅:=s5;replace e5:ItA h₅ it d (i + 1) es.size ep (rawInt (hp.objs.size:Nat)) false e.key e.val:=e5
  refine bb (df e5 (by simp) fun h₆ e6 s6=>?_);replace s6:cZ it h₅ h₆:=s6;replace e6:ItA h₆ it d (i + 1) es.size ep (rawInt (hp.objs.size:Nat)) false e.key e.val:=e6
  have k6:∀ b o,b≠it→h₂.get? b=some o→h₆.get? b=some o:=fun b o hb z=>s6.extBut b o hb (s5.extBut b o hb (s4.extBut b o hb (s3.extBut b o hb z)))
  have t6:=k6 _ _ (eF il) t2
  refine bb (mK (bo (bo ⟨_,rfl,bo (q h₆ _ _ _ _ e6 (.inr ⟨_,_,rfl,t6,eF il⟩) t6 ?_ (fun b o hb z=>k6 b o hb (k2 b o hb z)) fun a z=>?_)⟩)))
  ·show h₆.objs.size=hp.objs.size + 1;rw [s6.1,s5.1,s4.1,s3.1,z2]
  ·refine .inl ?_
   have z':(io (hp.objs.size:Nat) 0:Value)=io (a:Nat) 0:=z
   have z'':((hp.objs.size:Nat):Int)=((a:Nat):Int):=by injection z'
   exact (p9 z'').symm
 ·refine bb (gh e2 rfl (x:=rawInt (a:Nat)) rfl ?_);show wpAny _ _ (loadIfAlive (((a:Nat):Int).toNat) >>= _) _ _ _;rw [eI]
  have a2:h₂.get? a=some oa:=k2 a oa hai ha
  refine bb (W.kdx_alive a2 ?_);simp only [Option.isNone_some,cu,if_false];refine bb (gh e2 rfl (x:=.bool f) rfl ?_)
  cases f with
  | true =>
   rw [if_neg (show ¬ ((gZ true != gZ true)=true) from bJ)];refine bo ?_;simp only [cu,if_false]
   exact bo (bo ⟨_,rfl,bo (q h₂ _ _ _ _ e2 (.inr ⟨_,_,rfl,a2,hai⟩) t2 z2 k2 fun a z=>.inr z)⟩)
  | false =>
   rw [if_pos (show (gZ false != gZ true)=true from rfl)];refine bb (df e2 (by simp) fun h₃ e3 s3=>?_)
   replace s3:cZ it h₂ h₃:=s3;replace e3:ItA h₃ it d (i + 1) es.size ep (rawInt (a:Nat)) true ok ov:=e3
   refine bo ?_;simp only [cu,if_false]
   exact bo (bo ⟨_,rfl,bo (q h₃ _ _ _ _ e3 (.inr ⟨_,_,rfl,s3.extBut _ _ hai a2,hai⟩) (s3.extBut _ _ (eF il) t2) (by show h₃.objs.size=_;rw [s3.1,z2]) (fun b o hb z=>s3.extBut b o hb (k2 b o hb z)) fun a z=>.inr z)⟩)
theorem QN {it d:Addr} {i ep:Nat} {es:Array DictEntry} {o0 ok ov:Value} {f:Bool} {Q:Option Value→Shared→Prop} (hh:A.handled=none) (hit:ItA s.heap it d i es.size ep o0 f ok ov) (hm:RawD s.heap d es ep) (hx:es.size≤i)
  (q:∀ h',Heap.ExtBut it s.heap h'→Q none { s with heap:=h' }):wpAny (model P w) A (pyNext (.ref it)) Q E s:=by
 obtain ⟨od,hod,hcd,hdd⟩:=id hm;have T:s.TypeIs (.ref it) "dict_itemiterator":=⟨_,hit,rfl⟩
 unfold pyNext;refine bb (iQ (dM (name:=bf "__next__") T cO (c9 cO T fH ?_ (fE _))))
 refine bb (bo ?_);refine bb ?_;refine bb ?_
 first | (refine bb (dh T (bo ?_))) | (refine bb (dH T (bo ?_)))
 refine bb (im hit rfl ?_);have own:du "dict_itemiterator"=true:=by decide
 simp only [own,if_true];show wpAny _ _ (if (bM d == cH)=true then _ else _) _ _ s
 rw [if_neg (show ¬ ((bM d == cH)=true) from bJ)];refine bb (bo ?_);refine bb (dW hod hdd ?_)
 rw [if_neg (by simp)];refine bb (bo ?_);refine bb (fC hod hdd ?_);rw [if_neg (by simp)];refine bo ?_
 simp only [show ¬ ((i:Int) < 0) from by lia,if_false,eI,gX hx];refine bb ?_
 first | (refine bb (dh T (bo ?_))) | (refine bb (dH T (bo ?_)))
 show wpAny _ _ (setField (.ref it) 2 .none >>= _) _ _ s;refine bb (nX hit rfl (by simp) ?_)
 show wpAny _ _ (newExc (.type "StopIteration") [] >>= _) _ _ _;refine bb ?_;simp only [newExc,newTuple];refine bb (dm ?_ (by size_fits))
 refine bb (m:=firstArgMember _ _) (wpAny_of_eq (a:=cH) (by first | rfl | (simp only [firstArgMember];rfl)) ?_);refine dm ?_ (by size_fits)
 simp only [raiseNew];refine bb (wpAny_handled ?_);rw [show A.in1.handled=none from hh];refine bb (bo (wpAny_throw ?_))
 refine bb (mT (T:="StopIteration") (b:=true) ⟨_,bz _ rfl,rfl⟩ isSubtype_stop ?_);exact bo (q _ (((lh ..).extBut.push _).push _))
end
end L2
namespace L2
open PySem PySem.Spec PyProof.Rows
def j4 (r d:Addr):HO:=.ext fun h=>h.IsItemsView r d
def Zu (td:TE):TE:=fun σ H Q=>td σ H fun x H1=>∃ d kvs,x=.ref d∧H1 d=some (.dT kvs)∧∀ r,H1 r=none→Q (.ref r) (upd H1 r (j4 r d))
section
variable {X:Cx} {o:Expr} {apos cpos:Pos} {td:TE}
theorem Y2 (ho:PE X o td) (hbase:attributeBase o "items" X.env (eval o X.env)=eval o X.env:=by rfl) (hline:(apos.endLine == cpos.line)=true:=by rfl):PE X (.Call (.Attribute o "items" apos) [] [] cpos) (Zu td):=by
 intro pins s σ H Q I h
 refine gQ hbase hline (thn (ho pins s σ H _ I h) fun v s1 ⟨x,H1,I1,r1,d,kvs,ex,hd,q1⟩=>?_)
 subst ex
 obtain rfl:v=bM d:=r1
 obtain ⟨t1,t2,t3⟩:=Kw I1 (.inr ⟨kvs,.inl hd⟩)
 refine ⟨"dict","dict.items",gR,fL,mL,t1,t2,eU rfl (iW ?_)⟩
 refine c9 fL t1 mq ?_ (lX _)
 unfold Builtin.«dict.items»;refine bb ?_;unfold om;refine bb (gf t1 ?_)
 show wpAny _ _ (pure d) _ _ s1;refine bo ?_
 show wpAny _ _ (dZ d >>= _) _ _ s1;unfold dZ
 rw [if_neg (by rw [t3];exact bJ)];refine bb (bo ?_)
 refine bb (dm (bo ⟨_,rfl,?_⟩))
 have hn:H1 s1.heap.objs.size=none:=I1.hok.fresh (bj _)
 have at0:(s1.heap.push { cls:=.type "dict_items",data:=.fields #[.ref d] }).get? s1.heap.objs.size=some { cls:=.type "dict_items",data:=.fields #[.ref d] }:=bz _ rfl
 refine ⟨.ref s1.heap.objs.size,_,I1.laid (a:=s1.heap.objs.size) (o:=j4 s1.heap.objs.size d) (t':=s1.toks) (fun b u e=>bh _ e) (bj _) ?_,rfl,q1 _ hn⟩
 exact ⟨⟨_,at0,rfl,rfl⟩,⟨_,at0⟩,fun h1 h2 ⟨o,e1,e2⟩ k=>⟨o,k o e1,e2⟩⟩
end
def qW (H:Hp) (v:V) (kv:List Key × V):Prop:=∃ r p,v=.ref r∧H r=some (.tup [.ref p,kv.2])∧H p=some (.tup (kv.1.map kV))
theorem Ji {H H':Hp} (s:∀ b ys,H b=some (.tup ys)→H' b=some (.tup ys)):∀ {vs:List V} {kvs:List (List Key × V)},Paired (qW H) vs kvs→Paired (qW H') vs kvs
 | _,_,.nil=>.nil
 | _,_,.cons ⟨r,p,e,h1,h2⟩ t=>.cons ⟨r,p,e,s _ _ h1,s _ _ h2⟩ (Ji s t)
theorem Jj {H:Hp} {v:V} {q:List Key × V}:∀ {ys:List V} {kvs:List (List Key × V)},Paired (qW H) ys kvs→qW H v q→Paired (qW H) (ys ++ [v]) (kvs ++ [q])
 | _,_,.nil,h=>.cons h .nil
 | _,_,.cons a r,h=>.cons a (Jj r h)
section
variable {X:Cx} {A:Around} {R:Result→Shared→Prop}
theorem zbY {pins:List (Addr × Obj)} {σ:St} {H:Hp} {S it d:Addr} {kvs:List (List Key × V)} {es:Array DictEntry} {ep:Nat} {res:Value} (hh:A.handled=none) (hS:H S=none) (hd:H d=some (.dT kvs)) (Sit:S≠it) (dit:d≠it) (hz:kvs.length≤1000)
  (hes:es.size=kvs.length) (hen:∀ (i:Nat) (e:DictEntry) (kv:List Key × V),es[i]?=some e→kvs[i]?=some kv→∃ p,e.key=.ref p∧H p=some (.tup (kv.1.map kV))∧RelV kv.2 e.val) (fin:∀ s' H' ys,Inv X pins σ H' s'→Same H H'→H' S=some (.lst ys)→Paired (qW H') ys kvs→R (.ok (.ret res)) s') :
  ∀ (k i:Nat) (s:Shared) (Hi:Hp) (ys:List V) (o0 ok ov:Value) (f:Bool),kvs.length - i=k→i≤kvs.length→Inv X pins σ Hi s→Same H Hi→Hi S=some (.lst ys)→Paired (qW Hi) ys (kvs.take i)→RawD s.heap d es ep→ItA s.heap it d i es.size ep o0 f ok ov →
  ((o0=.none∧f=false)∨∃ (a:Addr) (oa:Obj),o0=rawInt (a:Nat)∧s.heap.get? a=some oa∧a≠it∧a≠S)→jP X pins Hi it →
  codeAny (model X.prog X.w) A (.builtin "list.extend.loop" ⟨[.ref S,.ref it,res],[]⟩) R s:=by
 intro k
 induction k with
 | zero =>
  intro i s Hi ys o0 ok ov f hk hi I sm hy pr rd hit ho0 hf
  have e:i=kvs.length:=by lia
  subst e
  refine eP lY ?_;rw [dD dn _]
  show wpAny _ A.in1 (pyNext (.ref it) >>= _) _ _ s
  obtain ⟨f0,f1,f2,f3,f4,f5⟩:=hf
  refine bb (QN (A:=A.in1) hh hit rd (by lia) fun h' eb=>?_)
  have I1:=I.turned (t':=s.toks) (fun b o hb e=>eb b o hb e) f0 f1 f3 f4 f5
  rw [dk] at pr
  exact bo (fin _ Hi ys I1 sm hy pr)
 | succ k ih =>
  intro i s Hi ys o0 ok ov f hk hi I sm hy pr rd hit ho0 hf
  have hlt:i < kvs.length:=by lia
  have hx:es[i]?=some es[i]:=cE (by lia)
  have hkv:kvs[i]?=some kvs[i]:=ba hlt
  obtain ⟨p,ek,hp,rv⟩:=hen i _ _ hx hkv
  refine eP lY ?_;rw [dD dn _]
  show wpAny _ A.in1 (pyNext (.ref it) >>= _) _ _ s
  obtain ⟨f0,f1,f2,f3,f4,f5⟩:=id hf
  have ho0':(o0=.none∧f=false)∨∃ (a:Addr) (oa:Obj),o0=rawInt (a:Nat)∧s.heap.get? a=some oa∧a≠it:=by
   rcases ho0 with z | ⟨a,oa,z1,z2,z3,_⟩
   ·exact .inl z
   ·exact .inr ⟨a,oa,z1,z2,z3⟩
  refine bb (zbX (A:=A.in1) hit rd hx ho0' fun h' o1 f1' k1 v1 hit' ho1 ht hz' kp own=>?_)
  have Sl:S < s.heap.objs.size:=by
   obtain ⟨_,_,_,_,e⟩:=(show ObjOk X.prog X.w Hi s.heap S (.lst ys) from I.hok S _ hy)
   exact bF e
  have tn:s.heap.objs.size≠it:=eF (bF hit)
  have hTn:Hi s.heap.objs.size=none:=I.hok.fresh (bj _)
  have STn:S≠s.heap.objs.size:=bZ Sl
  generalize hT:s.heap.objs.size=T at *
  have I6:Inv X pins σ (upd Hi T (.tup [.ref p,kvs[i].2])) { s with heap:=s.heap.push { cls:=.type "tuple",data:=.seq #[es[i].key,es[i].val] } } :=
   I.laid (a:=T) (o:=.tup [.ref p,kvs[i].2]) (t':=s.toks) (fun b u e=>bh _ e) (by rw [hT];exact bj _) ⟨by show 2≤sizeLine;decide,[es[i].key,es[i].val],.cons (by rw [ek];exact rfl) (.cons rv .nil),⟨_,by rw [← hT];exact bz _ rfl,rfl,_,rfl⟩⟩
  have S6:Same Hi (upd Hi T (.tup [.ref p,kvs[i].2])):=isV T hTn
  have I7:Inv X pins σ (upd Hi T (.tup [.ref p,kvs[i].2])) { s with heap:=h' }:=I6.turned (s:={ s with heap:=s.heap.push { cls:=.type "tuple",data:=.seq #[es[i].key,es[i].val] } }) (t':=s.toks) (fun b o hb e=>by
   rcases iM (show (s.heap.push { cls:=.type "tuple",data:=.seq #[es[i].key,es[i].val] }).get? b=some o from e) with ⟨rfl,rfl⟩ | e
   ·rw [hT];exact ht
   ·exact kp b o hb e) (by rw [zk (cP tn)];exact f0) f1 f3 f4 f5
  have hy7:(upd Hi T (.tup [.ref p,kvs[i].2])) S=some (.lst ys):=S6 _ _ hy
  obtain ⟨z,its,n,r,hl,e⟩:=I7.lstM hy7
  have yl:ys.length=i:=by
   have:=bH pr
   rw [c8] at this
   lia
  show wpAny _ A.in1 (updateSeq S (·.push (bM T)) >>= _) _ _ _
  have e':h'.get? S=some { cls:=.type "list",data:=.seq its.toArray n }:=e
  refine bb (fF (s:={ s with heap:=h' }) e' rfl ?_ (by rw [bG,← r.length,yl];exact bU (by lia:i≤1000) (by decide)) (by rw [Array.size_push,bG,← r.length,yl];exact bU (by lia:i + 1≤1001) (by decide)))
  have I8:=I7.lset (f:=fun xs=>xs.push (bM T)) (t':=s.toks) (its':=its ++ [bM T]) hy7 e' (by simp) (r.append (.cons (show RelV (.ref T) (.ref T) from rfl) .nil)) (by rw [bt,yl];exact bU (by show i + 1≤1001;lia) (by decide))
  have up:∀ b o,b≠S→h'.get? b=some o→(h'.update S (cD (·.push (bM T)))).get? b=some o:=fun b o hb z=>(cN _ _ (cP hb)).trans z
  have dS:d≠S:=zP hd hS
  have tS:∀ b zs,Hi b=some (.tup zs)→(upd (upd Hi T (.tup [.ref p,kvs[i].2])) S (.lst (ys ++ [.ref T]))) b=some (.tup zs):=fun b zs z=>by
   rw [zk (yE z hy (by intro z;cases z))];exact S6 _ _ z
  have ri:∀ {a b:Nat},(rawInt (a:Int):Value)=rawInt (b:Int)→a=b:=fun {a b} z=>by
   have z':(io (a:Int) 0:Value)=io (b:Int) 0:=z
   have z'':(a:Int)=(b:Int):=by injection z'
   exact p9 z''
  refine bo ⟨fb dn _,ih (i + 1) _ _ (ys ++ [.ref T]) o1 k1 v1 f1' (by lia) hlt I8 (fun b o z=>?_) ze ?_ (rd.at fun o z=>up d o dS (kp d o dit z)) (up it _ (cP Sit) hit') ?_ ⟨?_,f1,f2,f3,f4,f5⟩⟩
  ·rw [zk (zP z hS)];exact S6 _ _ (sm _ _ z)
  ·rw [cM,hkv]
   exact Jj (Ji tS pr) ⟨T,p,rfl,by rw [zk (cP STn),ze],tS _ _ (sm _ _ hp)⟩
  ·rcases ho1 with z | ⟨a,oa,z1,z2,z3⟩
   ·exact .inl z
   ·have aS:a≠S:=by
     rcases own a z1 with z | z
     ·rw [z];exact cP STn
     ·rcases ho0 with ⟨y1,_⟩ | ⟨a',oa',y1,_,_,y4⟩
      ·rw [y1] at z;cases z
      ·rw [y1] at z
       rw [← ri z];exact y4
    exact .inr ⟨a,oa,z1,up a _ aS z2,z3,aS⟩
  ·rw [zk (cP Sit),zk (cP tn)];exact f0
end
end L2
namespace L2
open PySem PySem.Spec PyProof.Rows
abbrev zbZ:RC:=fun vs H Q=>∃ r d kvs,vs=[.ref r]∧H r=some (j4 r d)∧H d=some (.dT kvs)∧kvs.length≤1000∧∀ l ys H',Same H H'→H l=none→H' l=some (.lst ys)→Paired (qW H') ys kvs→Q (.ref l) H'
theorem zdT {P:Program} {w:World} {H:Hp} {h:Heap} {r d:Addr} (k:HOk P w H h) (e:H r=some (j4 r d)):h.IsItemsView r d:=(k r _ e).1
theorem zdU {H:Hp}:∀ {kvs:List (List Key × V)} {xs:List (List Key × Addr × Value)},Paired (fun (p:List Key × V) (q:List Key × Addr × Value)=>p.1=q.1∧H q.2.1=some (.tup (p.1.map kV))∧RelV p.2 q.2.2) kvs xs→∀ {i:Nat} {kv:List Key × V} {x:List Key × Addr × Value},kvs[i]?=some kv→xs[i]?=some x→H x.2.1=some (.tup (kv.1.map kV))∧RelV kv.2 x.2.2 :=
 fun {_ _} h {_ _ _} e1 e2=>(zX h e1 e2).2
section
variable {X:Cx}
theorem zfu {pins:List (Addr × Obj)} {σ:St} {H:Hp} {s:Shared} {d:Addr} {kvs:List (List Key × V)} (I:Inv X pins σ H s) (e:H d=some (.dT kvs)):∃ es ep,RawD s.heap d es ep∧es.size=kvs.length ∧
  ∀ (i:Nat) (en:DictEntry) (kv:List Key × V),es[i]?=some en→kvs[i]?=some kv→∃ p,en.key=.ref p∧H p=some (.tup (kv.1.map kV))∧RelV kv.2 en.val:=by
 obtain ⟨z,hd,xs,rel,o,es,ep,h1,h2,h3,h4,_⟩:=(show ObjOk X.prog X.w H s.heap d (.dT kvs) from I.hok d _ e)
 have l1:es.size=xs.length:=by rw [← bW,h4,bn]
 refine ⟨es,ep,⟨o,h1,h2,h3⟩,by rw [l1,← bH rel],fun i en kv e1 e2=>?_⟩
 have e3:es.toList[i]?=some en:=by rw [cX];exact e1
 rw [h4,bC] at e3
 obtain ⟨x,hx,rfl⟩:=dq.mp e3
 obtain ⟨g1,g2⟩:=zdU rel e2 hx
 exact ⟨x.2.1,rfl,g1,g2⟩
theorem Wy {A:Around} {R:Result→Shared→Prop} {pins:List (Addr × Obj)} {σ:St} {H:Hp} {s:Shared} {S r d:Addr} {kvs:List (List Key × V)} {res:Value} {c:Nat} (hh:A.handled=none) (hS:H S=none) (hr:H r=some (j4 r d)) (hd:H d=some (.dT kvs)) (hl:kvs.length≤1000)
  (I2:Inv X pins σ (upd H S (.lst [])) s) (T2:s.heap.get? S=some { cls:=.type "list",data:=.seq #[] c }) (hR:∀ s' H' ys,Inv X pins σ H' s'→Same H H'→H' S=some (.lst ys)→Paired (qW H') ys kvs→R (.ok (.ret res)) s') :
  wpAny (model X.prog X.w) A.in1 (cL (.ref S) (.ref r) res) (fun fin s'=>match fin with | .done f=>R (.ok f) s' | .again c'=>c'.quiet=true∧codeAny (model X.prog X.w) A c' R s') (fun e s'=>R (.error e) s') s:=by
 have Sr:r≠S:=zP hr hS
 have Sd:d≠S:=zP hd hS
 have SS:Same H (upd H S (.lst [])):=isV S hS
 obtain ⟨es,ep,rd,hes,hen0⟩:=zfu I2 (SS _ _ hd)
 have hen:∀ (i:Nat) (en:DictEntry) (kv:List Key × V),es[i]?=some en→kvs[i]?=some kv→∃ p,en.key=.ref p∧H p=some (.tup (kv.1.map kV))∧RelV kv.2 en.val:=fun i en kv e1 e2=>by
  obtain ⟨p,g1,g2,g3⟩:=hen0 i en kv e1 e2
  refine ⟨p,g1,?_,g3⟩
  by_cases hp:p=S
  ·rw [hp,ze] at g2;cases g2
  ·rwa [zk hp] at g2
 have vw:=zdT I2.hok (SS _ _ hr)
 unfold cL
 refine bb (nG (T:="dict_items") vw.typeIs ?_)
 have c1:fG (.ref S) (.ref r)=false:=by simp [fG,cP Sr]
 have c2:(gn "dict_items" == gn "list")=false:=by decide
 have c3:(gn "dict_items" == gn "tuple")=false:=by decide
 simp only [c1,c2,c3,oC,cu,if_false]
 refine bb (Jh vw rd ?_)
 have ni:(upd H S (.lst [])) s.heap.objs.size=none:=I2.hok.fresh (bj _)
 have fp:jP X pins (upd H S (.lst [])) s.heap.objs.size:=I2.fpOk (bj _) ni
 have Si:S≠s.heap.objs.size:=bZ (bF T2)
 have di:d≠s.heap.objs.size:=bZ rd.lt
 have I3:Inv X pins σ (upd H S (.lst [])) { s with heap:=s.heap.push { cls:=.type "dict_itemiterator",data:=.fields #[.none,.bool false,.ref d,.int 0 0,.int es.size 0,.int ep 0,.none,.none] } }:=I2.kept (t':=s.toks) fun b o e=>bh _ e
 have T3:=bh { cls:=.type "dict_itemiterator",data:=.fields #[.none,.bool false,.ref d,.int 0 0,.int es.size 0,.int ep 0,.none,.none] } T2
 have it3:ItA (s.heap.push { cls:=.type "dict_itemiterator",data:=.fields #[.none,.bool false,.ref d,.int 0 0,.int es.size 0,.int ep 0,.none,.none] }) s.heap.objs.size d 0 es.size ep .none false .none .none:=bz _ rfl
 have rd3:RawD (s.heap.push { cls:=.type "dict_itemiterator",data:=.fields #[.none,.bool false,.ref d,.int 0 0,.int es.size 0,.int ep 0,.none,.none] }) d es ep:=rd.at fun o e=>bh _ e
 have vw3:(s.heap.push { cls:=.type "dict_itemiterator",data:=.fields #[.none,.bool false,.ref d,.int 0 0,.int es.size 0,.int ep 0,.none,.none] }).IsItemsView r d:=let ⟨o,ho,x⟩:=vw;⟨o,bh _ ho,x⟩
 generalize hh3:s.heap.push { cls:=.type "dict_itemiterator",data:=.fields #[.none,.bool false,.ref d,.int 0 0,.int es.size 0,.int ep 0,.none,.none] }=h3 at *
 generalize s.heap.objs.size=it at *
 refine bb (dI (W.kdx_hint vw3.typeIs ?_))
 have fin:∀ (h4:Heap) (tk:Nat) (R:Result→Shared→Prop),(∀ s' H' ys,Inv X pins σ H' s'→Same H H'→H' S=some (.lst ys)→Paired (qW H') ys kvs→R (.ok (.ret res)) s')→Inv X pins σ (upd H S (.lst [])) { s with heap:=h4,toks:=tk }→RawD h4 d es ep→ItA h4 it d 0 es.size ep .none false .none .none →
   codeAny (model X.prog X.w) A (.builtin "list.extend.loop" ⟨[.ref S,.ref it,res],[]⟩) R { s with heap:=h4,toks:=tk }:=fun h4 tk R hR I4 rd4 it4 =>
  zbY (A:=A) (H:=H) (es:=es) (ep:=ep) hh hS hd Si di hl hes hen hR kvs.length 0 _ (upd H S (.lst [])) [] .none .none .none false (nB _) (bY _) I4 SS ze .nil rd4 it4 (.inl ⟨rfl,rfl⟩) fp
 refine wpAny_ite_split (fun _=>?_) (fun _=>bo ⟨fb dn _,fin h3 s.toks _ hR I3 rd3 it3⟩)
 refine bb (wpAny_rule ?_);refine bb ?_
 show wpAny _ _ (updateSeq S (·.push .none) >>= fun _=>updateSeq S (·.pop)) _ _ _;refine bb (fF T3 rfl ?_)
 have T4:=ed (cD (·.push cH)) T3 rfl
 refine fF (hz:=by seq_fits) T4 rfl ?_
 have I4:=I3.lset (f:=fun xs=>xs.push cH) (its:=[]) (its':=[cH]) (ys:=[V.non]) (t':=s.toks) ze T3 rfl (.cons rfl .nil) (by show 1≤sizeLine;decide)
 have I5:=I4.lset (f:=fun xs=>xs.pop) (its:=[cH]) (its':=[]) (ys:=[]) (t':=s.toks) ze T4 rfl .nil (bY _)
 rw [Yq,Yq] at I5
 have oth:∀ b o,b≠S→h3.get? b=some o→((h3.update S (cD (·.push cH))).update S (cD (·.pop))).get? b=some o:=fun b o hb e=>(cN _ _ (cP hb)).trans ((cN _ _ (cP hb)).trans e)
 exact bo ⟨fb dn _,fin _ s.toks _ hR I5 (rd3.at fun o e=>oth d o Sd e) (oth it _ (cP Si) it3)⟩
theorem Ya (hc:X.calm=true):vq X (.type "list") zbZ:=by
 intro pins s σ H vs us Q I r0 h
 obtain ⟨r,d,kvs,rfl,hr,hd,hl,q⟩:=h
 obtain ⟨u,rfl,ru⟩:=jM r0
 cases ru
 have hh:X.A.handled=none:=I.ok.hd hc
 refine nY (Q₁:=fun obj s₁=>obj=.ref s.heap.objs.size∧s₁={ s with heap:=s.heap.push { cls:=.type "list",data:=.seq #[] } }) on (mM _) mO (code_list_new _ ⟨rfl,rfl⟩) ?_;rintro obj s₁ ⟨rfl,rfl⟩
 have hS:H s.heap.objs.size=none:=I.hok.fresh (bj _)
 have I1:Inv X pins σ (upd H s.heap.objs.size (.lst [])) { s with heap:=s.heap.push { cls:=.type "list",data:=.seq #[] } }:=I.lnew (its:=[]) (t':=s.toks) .nil (bY _)
 have T0:(s.heap.push { cls:=.type "list",data:=.seq #[] }).get? s.heap.objs.size=some { cls:=.type "list",data:=.seq #[] }:=bz _ rfl
 generalize hT:s.heap.objs.size=S at *
 refine ⟨⟨_,T0,rfl⟩,mr _ _,?_⟩
 show wpAny _ _ (do let old ← fU (.ref S);mP (.ref S) (fun _=>#[]);letGo old.toList.reverse;cL (.ref S) (.ref r) .none) _ _ _
 refine bb ?_;unfold fU;refine bb (wpAny_seqItems T0 rfl (bo ?_))
 show wpAny _ _ (updateSeq S (fun _=>#[]) >>= fun _=>letGo (#[]:Array Value).toList.reverse >>= fun _=>cL (.ref S) (.ref r) .none) _ _ _
 refine bb (fF T0 rfl ?_)
 have I2:=I1.lset (f:=fun _=>(#[]:Array Value)) (its:=[]) (its':=[]) (ys:=[]) (t':=s.toks) ze T0 rfl .nil (bY _)
 rw [Yq] at I2
 have T2:=ed (cD (fun _=>(#[]:Array Value))) T0 rfl
 refine bb (mK ?_)
 generalize hh2:(s.heap.push { cls:=.type "list",data:=.seq #[] }).update S (cD (fun _=>(#[]:Array Value)))=h2 at *
 exact Wy (A:=X.A.in1) (H:=H) hh hS hr hd hl I2 T2 fun s' H' ys I' sm hy pr=>⟨rfl,.ref S,H',I',rfl,q S ys H' sm hS hy pr⟩
end
end L2
namespace L2
open PySem PySem.Spec PyProof.Rows PySem.W
section
variable {X:Cx}
theorem KK {A:Around} {E:Value→Shared→Prop} {R:List Value→Shared→Prop} {pins:List (Addr × Obj)} {σ:St} {H:Hp} {s:Shared} {r d:Addr} {kvs:List (List Key × V)} (hh:A.handled=none) (hr:H r=some (j4 r d)) (hd:H d=some (.dT kvs)) (hl:kvs.length≤1000) (I:Inv X pins σ H s)
  (h:∀ s1 H' ys us,Inv X pins σ H' s1→Same H H'→Paired (qW H') ys kvs→Vals ys us→R us s1):wpAny (model X.prog X.w) A (collect (.ref r)) R E s:=by
 have hS:H s.heap.objs.size=none:=I.hok.fresh (bj _)
 have I1:Inv X pins σ (upd H s.heap.objs.size (.lst [])) { s with heap:=s.heap.push { cls:=.type "list",data:=.seq ([]:List Value).toArray } }:=I.lnew (its:=[]) (t':=s.toks) .nil (bY _)
 have T1:(s.heap.push { cls:=.type "list",data:=.seq ([]:List Value).toArray }).get? s.heap.objs.size=some { cls:=.type "list",data:=.seq #[] }:=bz _ rfl
 unfold collect;refine bb (wpAny_runValue (eP nT ?_));rw [dD lq _]
 show wpAny _ A.in1 (newList [] >>= fun l=>again (.builtin "list.__iadd__" ⟨[l,.ref r],[]⟩)) _ _ s;refine bb (dm ?_)
 refine bo ⟨fb fK _,eP entry_list_iadd' ?_⟩;rw [dD fK _]
 generalize s.heap.objs.size=S at *
 show wpAny _ A.in1 (cL (.ref S) (.ref r) (.ref S)) _ _ _
 have key:=Wy (A:=A) (R:=fun (q:Result) (s':Shared)=>∃ H' ys,q=.ok (.ret (.ref S))∧Inv X pins σ H' s'∧Same H H'∧H' S=some (.lst ys)∧Paired (qW H') ys kvs) (res:=.ref S) hh hS hr hd hl I1 T1 fun s' H' ys I' sm hy pr=>⟨H',ys,rfl,I',sm,hy,pr⟩
 have fin:∀ s':Shared,(∃ H' ys,Inv X pins σ H' s'∧Same H H'∧H' S=some (.lst ys)∧Paired (qW H') ys kvs)→wpAny (model X.prog X.w) A (load S >>= fun o=>match o.data with | .seq xs _=>pure xs.toList | _=>unsupported "internal:collect") R E s':=fun s' ⟨H',ys,I',sm,hy,pr⟩=>by
  obtain ⟨z,its,n,rv,hl',e⟩:=I'.lstM hy
  refine bb (nM e ?_)
  refine bo ?_
  exact h s' H' ys its I' sm pr rv
 refine dA key (fun f s' x=>?_) fun e s' x=>?_
 ·cases f with
  | done f =>
   obtain ⟨H',ys,e,x⟩:=x
   cases e
   exact fin s' ⟨H',ys,x⟩
  | again c₁ =>
   refine ⟨x.1,fY x.2 fun q s₂ y=>?_⟩
   obtain ⟨H',ys,rfl,y⟩:=y
   exact fin s₂ ⟨H',ys,y⟩
 ·obtain ⟨_,_,e',_⟩:=x
  cases e'
end
section
variable {P:Program} {w:World} {A:Around} {E:Value→Shared→Prop} {s:Shared}
theorem zb0 {x y:Addr} {a b:Str × Int} {Q:Bool→Shared→Prop} (hu:A.units < cLine) (hx:PlAt s.heap (.ref x) a) (hy:PlAt s.heap (.ref y) b) (h:Q (z4 a b) s):wpAny (model P w) A (oneLt' false (.ref x) (.ref y)) Q E s:=by
 obtain ⟨p,o,t,u,n,e1,ho,hc,hd⟩:=hx
 obtain ⟨p2,o2,t2,u2,n2,e2,ho2,hc2,hd2⟩:=hy
 cases e1
 cases e2
 obtain ⟨c,dd,dat,sl⟩:=o
 obtain ⟨c2,dd2,dat2,sl2⟩:=o2
 simp only at hc hd hc2 hd2
 subst hc hd hc2 hd2
 have T1:s.TypeIs (.ref x) "tuple":=⟨_,ho,rfl⟩
 have T2:s.TypeIs (.ref y) "tuple":=⟨_,ho2,rfl⟩
 refine kat_one _ _ ?_
 show wpAny _ _ (richCompare .Lt (.ref x) (.ref y)) _ _ _
 refine wpAny_richCompare_same_room T1 T2 nI ?_ hu
 exact nQ nI T1 PySem.F.entry_tuple_lt (PySem.F.args_tuple_lt_2 _ _) (YY x y a.1 b.1 a.2 b.2 t u t2 u2 n n2 dd dd2 sl sl2) ⟨ho,ho2,by simp,h⟩
theorem zb1 {h:Heap} {x:Addr} {a:Str × Int} (hx:PlAt h (.ref x) a):IsTupleKey (yA P w) h (zL a) x:=by
 obtain ⟨p,o,t,u,n,e1,ho,hc,hd⟩:=hx
 cases e1
 exact ⟨o,_,n,ho,hc,hd,Zo (ks:=zL a) (.cons ⟨t,rfl⟩ (.cons ⟨u,rfl⟩ .nil))⟩
def RvAt (h:Heap) (v:Value) (q:Row):Prop:=∃ a o p t n,v=.ref a∧h.get? a=some o∧o.cls=.type "tuple"∧o.data=.seq #[.ref p,.int q.2 t] n∧PlAt h (.ref p) q.1
theorem RvAt.keep {h h':Heap} {v:Value} {q:Row} (x:RvAt h v q) (k:∀ b o,h.get? b=some o→h'.get? b=some o):RvAt h' v q:=by
 obtain ⟨a,o,p,t,n,e,ho,hc,hd,hp⟩:=x
 exact ⟨a,o,p,t,n,e,k _ _ ho,hc,hd,hp.keep k⟩
theorem QO {x y:Value} {a b:Row} {Q:Bool→Shared→Prop} (hu:A.units < cLine) (hx:RvAt s.heap x a) (hy:RvAt s.heap y b) (h:Q (z4 a.1 b.1) s) (hn:a.1≠b.1):wpAny (model P w) A (keyLt' (tuples' false) x y) Q E s:=by
 obtain ⟨p,o,pp,t,n,rfl,ho,hc,hd,hp⟩:=hx
 obtain ⟨p2,o2,pp2,t2,n2,rfl,ho2,hc2,hd2,hp2⟩:=hy
 refine kat_lt ho hd ho2 hd2 (kat_cons (wpAny_eqBool_tuple (knd:=yA P w) hu (zb1 hp) (zb1 hp2) (kat_go (fun e=>?_) fun e=>kat_no ?_)))
 ·exact absurd (xz (of_decide_eq_true e)) hn
 ·exact zb0 hu hp hp2 h
theorem Jk {vs:List Value} {qs:List Row} {Q:SortKind→Shared→Prop} (hl:vs.length=qs.length) (hv:∀ (i:Nat) (v:Value) (q:Row),vs[i]?=some v→qs[i]?=some q→RvAt s.heap v q) (h2:0 < vs.length) (h:Q (tuples' false) s) :
  wpAny (model P w) A (keyKind' vs.toArray) Q E s:=by
 have T:∀ (vs:List Value) (qs:List Row),vs.length=qs.length→(∀ (i:Nat) (v:Value) (q:Row),vs[i]?=some v→qs[i]?=some q→RvAt s.heap v q)→∃ fs,KatTups s.heap vs fs∧fs.length=vs.length∧∀ v∈fs,∃ p o,v=bM p∧s.heap.get? p=some o∧o.cls=.type "tuple":=by
  intro vs
  induction vs with
  | nil=>exact fun qs _ _=>⟨[],trivial,rfl,fun _ z=>nomatch z⟩
  | cons v r ih =>
   intro qs hl hv
   match qs,hl with
   | q :: qr,hl =>
    obtain ⟨fs,k,kl,kf⟩:=ih qr (by simpa using hl) fun i v' q' e1 e2=>hv (i + 1) v' q' (by simpa using e1) (by simpa using e2)
    obtain ⟨a,o,p,t,n,rfl,ho,hc,hd,hp⟩:=hv 0 v q rfl rfl
    refine ⟨.ref p :: fs,rf ho hc hd rfl k,by simp [kl],fun z hz=>?_⟩
    rcases bK.mp hz with rfl | hz
    ·obtain ⟨p',o',_,_,_,e,g1,g2,_⟩:=hp
     cases e
     exact ⟨_,o',rfl,g1,g2⟩
    ·exact kf z hz
 obtain ⟨fs,k,kl,kf⟩:=T vs qs hl hv
 refine kat_kind (T:=.type "tuple") k (by lia) (fun v hv=>?_) (by decide) h
 obtain ⟨p,o,rfl,g1,g2⟩:=kf v hv
 exact g2 ▸ (pW g1).andThen .now
theorem Vl {l:Addr} {κ:SortKind} {Q:Value→Shared→Prop} (G:List Value→(Nat→Nat→Bool)→Shared→Prop)
  (coll:∀ R:List Value→Shared→Prop,(∀ vs lt s1,G vs lt s1→R vs s1)→wpAny (model P w) A.in1 (collect (.ref l)) R E s)
  (h64:∀ vs lt s1,G vs lt s1→vs.length < 64∧SO lt vs.length)
  (hk:∀ vs lt s1,G vs lt s1→2≤vs.length→∀ (h:Heap) (Q:SortKind→Shared→Prop),(∀ b o,s1.heap.get? b=some o→h.get? b=some o)→Q κ { s1 with heap:=h }→wpAny (model P w) A.in1.in1 (keyKind' vs.toArray) Q (fun _ _=>False) { s1 with heap:=h })
  (hc:∀ vs lt s1,G vs lt s1→∀ (h:Heap) i j C,(∀ b o,s1.heap.get? b=some o→h.get? b=some o)→i < vs.length→j < vs.length→i≠j→C (lt i j) { s1 with heap:=h }→kas_ask P w A.in1.in1 κ vs i j C { s1 with heap:=h })
  (fin:∀ vs lt s1,G vs lt s1→∀ (h':Heap) (p:Array Nat) (c:Nat),(∀ b o,s1.heap.get? b=some o→h'.get? b=some o)→h'.get? s1.heap.objs.size=some (seqObj "list" (yK vs p).toArray c)→PP vs.length p→wU lt p vs.length→Q (.ref s1.heap.objs.size) { s1 with heap:=h' }) :
  wpAny (model P w) A (call (.builtin "sorted") [.ref l]) Q E s:=by
 refine fi kind_sorted pb pd (ph _) ?_;unfold Builtin.«sorted»
 refine bb (m:=checkCount "sorted" 1 1 _) (bo ?_);refine bb (coll _ fun vs lt s1 g=>?_)
 obtain ⟨l64,S⟩:=h64 vs lt s1 g
 refine bb (iP ?_ (by rw [dw];lia))
 have hoL:(s1.heap.push (seqObj "list" vs.toArray 0)).get? s1.heap.objs.size=some (seqObj "list" vs.toArray 0):=bz _ rfl
 have kept:∀ h',Kp s1.heap.objs.size (s1.heap.push (seqObj "list" vs.toArray 0)) h'→∀ b o,s1.heap.get? b=some o→h'.get? b=some o:=fun h' k b o e=>k b o (bZ (bF e)) (bh _ e)
 refine bb (dI (c9 nV ⟨_,hoL,rfl⟩ nE (YX (s:={ s1 with heap:=s1.heap.push (seqObj "list" vs.toArray 0) }) hoL l64 (κ:=κ) (lt:=lt) (fun h2 h' Q' k q=>?_) (fun h' i j C k hi hj hij q=>?_) S fun h' p c k ho hp hr=>?_) (nW _)))
 ·exact hk vs lt s1 g h2 h' Q' (kept h' k) q
 ·exact hc vs lt s1 g h' i j C (kept h' k) hi hj hij q
 ·exact ⟨_,rfl,bo ⟨_,rfl,fin vs lt s1 g h' p c (kept h' k) ho hp hr⟩⟩
end
end L2
namespace L2
open PySem PySem.Spec PyProof.Rows PySem.W
def d0:Row:=(("",0),0)
theorem zb2 (rows:List Row):∃ its:List Row,dOf rows=its.map (fun q=>(zL q.1,V.int q.2))∧(its.map (·.1)).Nodup∧∀ p w,(p,w)∈its↔zy rows p=some w:=by
 have h:=wV rows
 have:∀ (kvs:List (List Key × V)),(∀ kv∈kvs,∃ (p:Pl) (w:Int),kv=(zL p,.int w))→∃ its:List Row,kvs=its.map (fun q=>(zL q.1,V.int q.2)):=fun kvs=>by
  induction kvs with
  | nil=>exact fun _=>⟨[],rfl⟩
  | cons kv r ih =>
   intro hk
   obtain ⟨qs,e⟩:=ih fun z hz=>hk z (bx _ hz)
   obtain ⟨p,w,e2⟩:=hk kv br
   exact ⟨(p,w) :: qs,by rw [bX,← e,e2]⟩
 obtain ⟨its,e⟩:=this _ h.2
 refine ⟨its,e,?_,fun p w=>?_⟩
 ·have:=h.1
  rw [e,ee] at this
  refine xZ (f:=zL) ?_
  rw [ee]
  exact this
 ·have m:=mem_dOf (rows:=rows) (kv:=(zL p,V.int w))
  constructor
  ·intro hm
   obtain ⟨p',w',e1,e2⟩:=m.mp (by rw [e];exact b8.mpr ⟨_,hm,rfl⟩)
   have e3:=xz (mQ e1).1
   have e4:=V.int.inj (mQ e1).2
   rw [e3,e4];exact e2
  ·intro hw
   have hm:=m.mpr ⟨p,w,rfl,hw⟩
   rw [e] at hm
   obtain ⟨q,hq,e1⟩:=b8.mp hm
   have e3:=xz (mQ e1).1
   have e4:=V.int.inj (mQ e1).2
   rw [← e3,← e4];exact hq
theorem qi {α:Type} (l:List α) (d:α):(bN l.length).map (fun i=>l.getD i d)=l:=by
 apply eL
 intro i
 rw [bC]
 by_cases hi:i < l.length
 ·rw [fJ hi,ba hi]
  simp [bg,ba hi]
 ·rw [cK (by simpa using hi),cK (by lia)]
  rfl
theorem PP.list {n:Nat} {p:Array Nat} (h:PP n p):p.toList.Perm (bN n):=by
 have:=gy.mp h
 simpa using this
theorem PP.lt {n:Nat} {p:Array Nat} (h:PP n p):∀ i∈p.toList,i < n:=fun i hi=>by
 have:=h.list.mem_iff.mp hi
 simpa using this
theorem qj {α:Type} {F:α→α→Bool} {l:List α} {d:α} {n:Nat} {p:Array Nat} (hp:PP n p) (hr:wU (fun i j=>F (l.getD i d) (l.getD j d)) p n):(p.toList.map fun i=>l.getD i d).Pairwise fun a b=>F a b=true:=by
 rw [eM,lV]
 intro i j hi hj hij
 rw [bW] at hi hj
 have g1:=v4 hi
 have g2:=v4 hj
 have sz:=hp.size
 have r:=hr i j hij (by lia)
 have x1:p.toList[i]=gt p i:=by
  rw [cE hi] at g1
  simpa using g1
 have x2:p.toList[j]=gt p j:=by
  rw [cE hj] at g2
  simpa using g2
 rw [x1,x2];exact r
theorem xB {α β:Type} {F:α→β→Prop} {l₁:List α} {l₂:List β} (h:Paired F l₁ l₂) (a:α) (b:β):∀ {is:List Nat},(∀ i∈is,i < l₁.length)→Paired F (is.map fun i=>l₁.getD i a) (is.map fun i=>l₂.getD i b)
 | [],_=>.nil
 | i :: r,hi=>by
  have l:=bH h
  have h1:=hi i br
  refine .cons ?_ (xB h a b fun j hj=>hi j (bx _ hj))
  show F (l₁.getD i a) (l₂.getD i b)
  have e1:=ba h1
  have e2:l₂[i]?=some l₂[i]:=ba (by lia)
  rw [bg,bg,e1,e2]
  exact zX h e1 e2
abbrev Jl:RC:=fun vs H Q=>∃ r d rows,vs=[.ref r]∧H r=some (j4 r d)∧H d=some (.dT (dOf rows))∧(dOf rows).length < 64 ∧
 ∀ l ys srt H',Same H H'→H l=none→H' l=some (.lst ys)→Paired (PrAt H') ys srt→Rising srt→(∀ p w,(p,w)∈srt↔zy rows p=some w)→Q (.ref l) H'
theorem zb3 {H:Hp}:∀ {ys:List V} {its:List Row},Paired (qW H) ys (its.map fun q=>(zL q.1,V.int q.2))→Paired (PrAt H) ys its
 | _,[],h=>by cases h;exact .nil
 | _,q :: r,h=>by
  rw [bX] at h
  cases h with
  | cons a t=>exact .cons a (zb3 t)
section
variable {X:Cx}
theorem zeU {pins:List (Addr × Obj)} {σ:St} {H:Hp} {s:Shared} {v:V} {u:Value} {q:Row} (I:Inv X pins σ H s) (h:PrAt H v q) (r:RelV v u):RvAt s.heap u q:=by
 obtain ⟨a,p,rfl,h1,h2⟩:=h
 cases r
 obtain ⟨_,its,rv,o,o1,o2,n,o3⟩:=(show ObjOk X.prog X.w H s.heap a (.tup [.ref p,.int q.2]) from I.hok a _ h1)
 cases rv with
 | cons r1 rr =>
  cases rr with
  | cons r2 rn =>
   cases rn
   cases r1
   obtain ⟨t,rfl⟩:=r2
   exact ⟨a,o,p,t,n,rfl,o1,o2,o3,Jd I h2⟩
theorem vz (hc:X.calm=true) (hu:X.A.units + 3 < cLine):vq X (.builtin "sorted") Jl:=by
 intro pins s σ H vs us Q I r0 h
 obtain ⟨r,d,rows,rfl,hr,hd,h64,q⟩:=h
 obtain ⟨u,rfl,ru⟩:=jM r0
 cases ru
 have hh:X.A.handled=none:=I.ok.hd hc
 obtain ⟨its,ei,nd,mi⟩:=zb2 rows
 have li:(dOf rows).length=its.length:=by rw [ei,bn]
 have so:=qf nd
 have vat:∀ {s1:Shared} {H':Hp} {ys:List V} {vs:List Value},Inv X pins σ H' s1→Paired (PrAt H') ys its→Vals ys vs→∀ (i:Nat) (q:Row),its[i]?=some q→∃ v,vs[i]?=some v∧RvAt s1.heap v q:=fun {s1 H' ys vs} I' pr rv i q hq=>by
  have hi:=(bw.mp hq).1
  have l1:=bH pr
  obtain ⟨y,hy⟩:∃ y,ys[i]?=some y:=⟨_,ba (by lia)⟩
  obtain ⟨u,hu',ru⟩:=rv.get hy
  exact ⟨u,hu',zeU I' (zX pr hy hq) ru⟩
 refine Vl (κ:=tuples' false) (fun vs lt s1=>∃ H' ys,Inv X pins σ H' s1∧Same H H'∧Paired (PrAt H') ys its∧Vals ys vs∧lt=fun i j=>z4 ((its.map (·.1)).getD i (("",0):Pl)) ((its.map (·.1)).getD j (("",0):Pl)))
  (fun R hR=>KK (A:=X.A.in1) hh hr hd (by lia) I fun s1 H' ys us I' sm pr rv=>hR us _ s1 ⟨H',ys,I',sm,zb3 (by rw [← ei];exact pr),rv,rfl⟩) ?_ ?_ ?_ ?_
 ·rintro vs lt s1 ⟨H',ys,I',sm,pr,rv,rfl⟩
  have l1:=bH pr
  have l2:=rv.length
  refine ⟨by lia,?_⟩
  rw [show vs.length=(its.map (·.1)).length by rw [bn];lia]
  exact so
 ·rintro vs lt s1 ⟨H',ys,I',sm,pr,rv,rfl⟩ h2 h Q' k q'
  have l1:=bH pr
  have l2:=rv.length
  refine Jk (s:={ s1 with heap:=h }) (qs:=its) (by lia) (fun i v q hv hq=>?_) (by lia) q'
  obtain ⟨v',hv',rr⟩:=vat I' pr rv i q hq
  rw [hv] at hv'
  cases hv'
  exact rr.keep k
 ·rintro vs lt s1 ⟨H',ys,I',sm,pr,rv,rfl⟩ h i j C k hi hj hij q'
  have l1:=bH pr
  have l2:=rv.length
  have e1:its[i]?=some its[i]:=ba (by lia)
  have e2:its[j]?=some its[j]:=ba (by lia)
  obtain ⟨v1,g1,r1⟩:=vat I' pr rv i _ e1
  obtain ⟨v2,g2,r2⟩:=vat I' pr rv j _ e2
  have n1:(its.map (·.1)).getD i (("",0):Pl)=its[i].1:=by rw [bg,bC,e1];rfl
  have n2:(its.map (·.1)).getD j (("",0):Pl)=its[j].1:=by rw [bg,bC,e2];rfl
  have m1:vs.getD i cH=v1:=by rw [bg,g1];rfl
  have m2:vs.getD j cH=v2:=by rw [bg,g2];rfl
  simp only [n1,n2] at q'
  have key:=QO (P:=X.prog) (w:=X.w) (A:=X.A.in1.in1) (E:=fun _ _=>False) (s:={ s1 with heap:=h }) (Q:=C) (by have e:X.A.in1.in1.units=X.A.units + 2:=rfl;lia) (r1.keep k) (r2.keep k) q' fun z=>hij (by
   have e3:(its.map (·.1))[i]?=some its[i].1:=by rw [bC,e1];rfl
   have e4:(its.map (·.1))[j]?=some its[j].1:=by rw [bC,e2];rfl
   rw [z] at e3
   exact (oQ (by rw [bn];lia) nd).mp (e3.trans e4.symm))
  rw [← m1,← m2] at key
  exact key
 ·rintro vs lt s1 ⟨H',ys,I',sm,pr,rv,rfl⟩ h' p c k hD hp hr
  have l1:=bH pr
  have l2:=rv.length
  have hp':PP its.length p:=by rw [show its.length=vs.length by lia];exact hp
  have fr:H' s1.heap.objs.size=none:=I'.hok.fresh (bj _)
  have sz:=hp'.size
  have pk:=xB pr V.non d0 (is:=p.toList) fun i hi=>by have:=hp'.lt i hi;lia
  have vk:Vals (p.toList.map fun i=>ys.getD i V.non) (yK vs p):=xB rv V.non cH (is:=p.toList) fun i hi=>by have:=hp'.lt i hi;lia
  have I2:Inv X pins σ (upd H' s1.heap.objs.size (.lst (p.toList.map fun i=>ys.getD i V.non))) { s1 with heap:=h' }:=I'.laid (a:=s1.heap.objs.size) (o:=.lst (p.toList.map fun i=>ys.getD i V.non)) (t':=s1.toks) k (bj _)
   ⟨by rw [bn,bW];exact bU (by lia:_≤64) (by decide),yK vs p,c,vk,hD⟩
  have S2:Same H' (upd H' s1.heap.objs.size (.lst (p.toList.map fun i=>ys.getD i V.non))):=isV _ fr
  have hn:H s1.heap.objs.size=none:=by
   cases e:H s1.heap.objs.size with
   | none=>rfl
   | some o=>rw [sm _ _ e] at fr;cases fr
  have mono:∀ {us:List V} {ws:List Row},Paired (PrAt H') us ws→Paired (PrAt (upd H' s1.heap.objs.size (.lst (p.toList.map fun i=>ys.getD i V.non)))) us ws:=fun {us ws} h=>by
   induction h with
   | nil=>exact .nil
   | cons a _ ih =>
    obtain ⟨r,p,e,h1,h2⟩:=a
    exact .cons ⟨r,p,e,S2 _ _ h1,S2 _ _ h2⟩ ih
  refine ⟨.ref s1.heap.objs.size,_,I2,rfl,q _ _ (p.toList.map fun i=>its.getD i d0) _ (sm.trans S2) hn ze (mono pk) ?_ fun pl wv=>?_⟩
  ·have hr':wU (fun i j=>z4 ((its.map (·.1)).getD i (("",0):Pl)) ((its.map (·.1)).getD j (("",0):Pl))) p its.length:=by rw [show its.length=vs.length by lia];exact hr
   have pw:=qj (F:=z4) hp' hr'
   have eq:(p.toList.map fun i=>its.getD i d0).map (·.1)=p.toList.map fun i=>(its.map (·.1)).getD i (("",0):Pl):=by
    rw [ee]
    refine dJ fun i hi=>?_
    have hi:=hp'.lt i hi
    simp [bg,bC,ba hi]
   rw [← eq,eM] at pw
   exact pw
  ·have pm:(p.toList.map fun i=>its.getD i d0).Perm its:=by
    refine (hp'.list.map _).trans ?_
    rw [qi]
   rw [pm.mem_iff]
   exact mi pl wv
end
end L2
namespace L2
open PySem PySem.Spec PyProof.Rows
def zfv (lo c:Int) (n:Nat):It:=⟨fun i _=>i < n,fun i H x H'=>H'=H∧x=.int (lo + i * c),fun i _=>n≤i⟩
theorem Jm {P:Program} {w:World} {K:bD} {tg:Expr} (it:Addr) (lo c:Int) (n:Nat):VV P w K tg (zfv lo c n) [it] it (fun i h=>IsRangeIter h it (lo + (i:Nat) * c) ((n:Int) - (i:Nat)) c) where
 mem:=by simp
 obj:=fun i h st b hb=>by
  have e:b=it:=by simpa using hb
  subst e
  refine ⟨_,st,fun v z=>?_⟩
  have z':pN _=Data.cell v:=z
  cases z'
 keep:=fun i h h' st k=>k it (by simp) _ st
 item:=by
  intro X hP hw hK hc i pins s σ H E I hf st hg;subst hP hw hK
  obtain ⟨f0,f1,f2,f3,f4,f5⟩:=hf it (by simp)
  refine (Walks.range (prog:=X.prog) (w:=X.w) (I.ok.hd hc) it lo c n).item i s _ _ hg st fun v h' tk hv st' kk=>?_
  obtain ⟨t,rfl⟩:=hv
  have I1:Inv X pins σ H { s with heap:=h',toks:=tk }:=I.turned (fun b o hb e=>kk b o (by simpa using hb) e) f0 f1 f3 f4 f5
  exact ⟨_,rfl,VW (s:={ s with heap:=h',toks:=tk }) (n:="range_iterator") st' rfl rfl (by decide) ⟨.int (lo + i * c),H,I1,⟨t,rfl⟩,⟨rfl,rfl⟩,st',fun b hb=>(hf b hb).1⟩⟩
 done:=by
  intro X hP hw hK hc i pins s σ H E I hf st hg;subst hP hw hK
  obtain ⟨f0,f1,f2,f3,f4,f5⟩:=hf it (by simp)
  exact mW (I.ok.hd hc) st (by have:n≤i:=hg;lia) fun h' eb=>⟨rfl,I.turned (t':=s.toks) (fun b o hb e=>eb b o hb e) f0 f1 f3 f4 f5⟩
 self:=fun _ _ _ _ _ st h=>mX st h
def Zv (i j c:Int):Nat:=if i < j then ((j - i - 1) / c + 1).toNat else 0
def zb4 (ta:TA):TI:=fun σ H R=>ta σ H fun vs H1=>∃ i j c:Int,vs=[.int i,.int j,.int c]∧(0≤i∧i < 1073741824∧0≤j∧j < 1073741824∧0 < c∧c < 1073741824)∧R (zfv i c (Zv i j c)) H1
section
variable {X:Cx} {tg:Expr}
theorem zaJ {a b c:Expr} {ta:TA} {p pos:Pos} (hg:Gl X "range") (hm:X.mg "range"=none) (ha:PA X [a,b,c] ta) (hs:starEach [a,b,c] X.env=[(false,eval a X.env),(false,eval b X.env),(false,eval c X.env)]:=by rfl) (hs2:starEach [b,c] X.env=[(false,eval b X.env),(false,eval c X.env)]:=by rfl) :
  PI X tg (.Call (.Name "range" p) [a,b,c] [] pos) (zb4 ta):=by
 intro pins s σ H R I h
 refine Call_ (wQ I hg hm boot_range (cJ (thn (ha pos pins s σ H _ I h) fun us s1 ⟨vs,H1,I1,r1,q1⟩=>?_) (by rw [hs,hs2]) (by rw [hs2];rfl)))
 obtain ⟨i,j,c,e,⟨q1,q2,q3,q4,q5,q6⟩,q⟩:=q1
 subst e
 cases r1 with
 | cons r rr =>
  cases rr with
  | cons r' rr =>
   cases rr with
   | cons r'' rr =>
    cases rr
    obtain ⟨t,rfl⟩:=r
    obtain ⟨t',rfl⟩:=r'
    obtain ⟨t'',rfl⟩:=r''
    refine call_range_3 (by lia) ?_ (.inl (PyProof.noPylong_small (by lia)))
    have hz:fI i j c=(Zv i j c:Int):=by
     unfold fI Zv
     rw [if_pos q5]
     split
     ·rename_i h
      have:=lB (a:=j - i - 1) (b:=c) (by lia) (by lia)
      lia
     ·rfl
    have hb:(Zv i j c:Int)≤1073741824∧(Zv i j c:Int) * c≤2147483648:=by
     unfold Zv
     split
     ·rename_i h
      have h1:=lB (a:=j - i - 1) (b:=c) (by lia) (by lia)
      have h2:=pJ (a:=j - i - 1) c (by lia)
      have h3:=Int.ediv_mul_le (j - i - 1) (b:=c) (by lia)
      rw [eQ (by lia),Int.add_mul]
      lia
     ·simp
    generalize Zv i j c=n at *
    have sm:oo i j c=true:=by
     unfold oo
     rw [hz]
     simp only [Builtin.Range.rangeFitsLong,bV,pU,decide_eq_true_eq,beq_iff_eq,show c > 0 from q5,if_true]
     lia
    refine wpAny_pyIter_range (pO ..) sm ?_
    rw [hz]
    have I2:Inv X pins σ H1 { s1 with heap:=s1.heap.push { cls:=.type "range",data:=.fields #[.int i t,.int j t',.int c t''] },toks:=s1.toks }:=I1.kept fun b o e=>bh _ e
    refine ⟨(s1.heap.push { cls:=.type "range",data:=.fields #[.int i t,.int j t',.int c t''] }).objs.size,[(s1.heap.push { cls:=.type "range",data:=.fields #[.int i t,.int j t',.int c t''] }).objs.size],_,_,H1,rfl,I2.kept (t':=s1.toks) fun b o e=>bh _ e,Jm _ i c n,?_,fun b hb=>?_,q⟩
    ·show IsRangeIter _ _ (i + ((0:Nat):Int) * c) ((n:Int) - ((0:Nat):Int)) c
     rw [show i + ((0:Nat):Int) * c=i by simp,show (n:Int) - ((0:Nat):Int)=n by simp]
     exact bz _ rfl
    ·have e:b=(s1.heap.push { cls:=.type "range",data:=.fields #[.int i t,.int j t',.int c t''] }).objs.size:=by simpa using hb
     subst e
     exact I2.fpOk (bj _) (I2.hok.fresh (bj _))
end
end L2
namespace L2
open PySem
structure StOk (n:Nat) (s:Sta):Prop where
 so:yv s.sl
 wo:∀ r∈s.wo,inW r.2=true
 l1:s.sl.length≤n
 l2:s.wo.length≤n
 l3:s.sa.length≤n
theorem StOk.mono {n m:Nat} {s:Sta} (h:StOk n s) (l:n≤m):StOk m s:=⟨h.so,h.wo,bU h.l1 l,bU h.l2 l,bU h.l3 l⟩
theorem Wz {kvs:List (Key × V)} (h:yv kvs) (k:Key) {i:Int} (hi:inW i=true):yv (yD kvs k (.int i)):=fun k' v e=>by
 rw [wg] at e
 by_cases c:k'=k
 ·rw [if_pos c] at e
  exact ⟨i,(bS e).symm,hi⟩
 ·rw [if_neg c] at e
  exact h k' v e
theorem kJ {P:Row→Prop} {p:Pl} {w:Int}:∀ {l:List Row},(∀ r∈l,P r)→zy l p=some w→P (p,w)
 | [],_,h=>by cases h
 | r :: t,hp,h=>by
  rw [zy] at h
  cases e:zy t p with
  | some w' =>
   rw [e] at h
   have:w'=w:=by simpa using h
   subst this
   exact kJ (fun r hr=>hp r (bx _ hr)) e
  | none =>
   rw [e] at h
   by_cases c:r.1=p
   ·rw [if_pos c] at h
    have:r.2=w:=by simpa using h
    rw [← c,← this];exact hp r br
   ·rw [if_neg c] at h;cases h
theorem zb5 {l:List Row} (h:∀ r∈l,inW r.2=true) (p:Pl):inW ((zy l p).getD 0)=true:=by
 cases e:zy l p with
 | none=>rfl
 | some w=>exact kJ (P:=fun r=>inW r.2=true) h e
mutual
def zgL (P:Pl→Prop):Rw→Prop
 | .give sh e _=>∀ kvs n,rk kvs e=.ok n→P (sh,n)
 | .iff _ a b=>zb6 P a∧zb6 P b
 | _=>True
def zb6 (P:Pl→Prop):Rws→Prop
 | .nil=>True
 | .cons r rs=>zgL P r∧zb6 P rs
end
inductive Oc where
 | done (sa:List Int)
 | off (why:Str)
def Jn:Er→Str
 | .great=>"great"
 | _=>"nought"
def zfw (rws:Rws) (tab:List Row) (oc:Oc) (out:List Row):Prop:=match zdR rws ⟨[],tab,[]⟩ with
 | .go s=>oc=.done s.sa∧xA s.wo out
 | .off=>oc=.off "told"∧out=tab
 | .er e=>oc=.off (Jn e)∧out=tab
inductive zfx:List Rws→List Row→List Oc→List Row→Prop
 | nil {tab:List Row}:zfx [] tab [] tab
 | cons {d:Rws} {ds:List Rws} {tab mid out:List Row} {oc:Oc} {ocs:List Oc}:zfw d tab oc mid→zfx ds mid ocs out→zfx (d :: ds) tab (oc :: ocs) out
def ZX:V→PyData
 | .int i=>.int i
 | .str x=>.str x
 | _=>.none
def plV (v:V):Prop:=(∃ i,v=.int i)∨∃ x,v=.str x∧cf x=true
def Y3 (e:List V):PyData:=.tuple (e.map ZX)
mutual
def rwD:Rw→PyData
 | .take sh e sl=>.tuple [.str "take",.str sh,Y3 e,.str sl]
 | .give sh e f=>.tuple [.str "give",.str sh,Y3 e,Y3 f]
 | .lt sl e=>.tuple [.str "let",.str sl,Y3 e]
 | .say e=>.tuple [.str "say",Y3 e]
 | .off e=>.tuple [.str "off",Y3 e]
 | .iff e a b=>.tuple [.str "if",Y3 e,.list (zfy a),.list (zfy b)]
def zfy:Rws→List PyData
 | .nil=>[]
 | .cons r rs=>rwD r :: zfy rs
end
def tmP (e:List V):Prop:=∀ v∈e,plV v
mutual
def Y4:Rw→Prop
 | .take sh e sl=>cf sh=true∧tmP e∧cf sl=true
 | .give sh e f=>cf sh=true∧tmP e∧tmP f
 | .lt sl e=>cf sl=true∧tmP e
 | .say e=>tmP e
 | .off e=>tmP e
 | .iff e a b=>tmP e∧yR a∧yR b
def yR:Rws→Prop
 | .nil=>True
 | .cons r rs=>Y4 r∧yR rs
end
section
variable {K:bD} {H:Hp} {F:Addr→Prop}
theorem zb7 {v:V} (h:plV v):Dat K H v (ZX v):=by
 rcases h with ⟨i,rfl⟩ | ⟨x,rfl,_⟩
 ·exact .int i
 ·exact .str x
theorem zaK:∀ {e:List V},tmP e→DatAll K H e (e.map ZX)
 | [],_=>.nil
 | v :: r,h=>.cons (zb7 (h v br)) (zaK fun u hu=>h u (bx _ hu))
end
theorem Jo:∀ {e:List V},tmP e→z6 (e.map ZX)=true
 | [],_=>by simp [z6]
 | v :: r,h=>by
  rw [bX,z6,Jo fun u hu=>h u (bx _ hu),Bool.and_true]
  rcases h v br with ⟨i,rfl⟩ | ⟨x,rfl,hx⟩
  ·rw [ZX,zM]
  ·rw [ZX,zM];exact hx
theorem KL:∀ (e:List V),cj (e.map ZX)=0
 | []=>by simp [cj]
 | v :: r=>by
  rw [bX,cj,KL r]
  cases v <;> simp [ZX,dF]
theorem zdV:cf "off"=true:=by decide +kernel
def Rws.snoc:Rws→Rw→Rws
 | .nil,x=>.cons x .nil
 | .cons r rs,x=>.cons r (rs.snoc x)
def Rws.app:Rws→Rws→Rws
 | .nil,x=>x
 | .cons r rs,x=>.cons r (rs.app x)
theorem RwsAt.snoc {F:Addr→Prop} {H:Hp} {v:V} {x:Rw} (hx:RwAt F H v x):∀ (r:Rws) {vs:List V},RwsAt F H vs r→RwsAt F H (vs ++ [v]) (r.snoc x)
 | .nil,vs,h=>by
  unfold RwsAt at h
  subst h
  show RwsAt F H [v] (.cons x .nil)
  unfold RwsAt
  exact ⟨v,[],rfl,hx,by unfold RwsAt;rfl⟩
 | .cons r rs,vs,h=>by
  unfold RwsAt at h
  obtain ⟨u,ws,rfl,e2,e3⟩:=h
  show RwsAt F H (u :: (ws ++ [v])) (.cons r (rs.snoc x))
  unfold RwsAt
  exact ⟨u,ws ++ [v],rfl,e2,RwsAt.snoc hx rs e3⟩
theorem RwsAt.get {F:Addr→Prop} {H:Hp}:∀ {r:Rws} {vs:List V} {i:Nat} {v:V},RwsAt F H (vs.drop i) r→vs[i]?=some v→∃ x rs,r=.cons x rs∧RwAt F H v x∧RwsAt F H (vs.drop (i + 1)) rs
 | .nil,vs,i,v,h,e=>by
  unfold RwsAt at h
  have:=(bw.mp e).1
  have:=congrArg bO h
  rw [et] at this
  simp at this
  lia
 | .cons x rs,vs,i,v,h,e=>by
  unfold RwsAt at h
  obtain ⟨u,ws,e1,e2,e3⟩:=h
  have hi:=(bw.mp e).1
  have d:=lZ hi
  rw [e1] at d
  have e4:vs[i]=v:=(bw.mp e).2
  rw [e4] at d
  injection d with d1 d2
  subst d1 d2
  exact ⟨x,rs,rfl,e2,e3⟩
theorem RwsAt.none {F:Addr→Prop} {H:Hp} {r:Rws} {vs:List V} (h:RwsAt F H (vs.drop vs.length) r):r=.nil:=by
 rw [List.drop_length] at h
 cases r with
 | nil=>rfl
 | cons x rs =>
  unfold RwsAt at h
  obtain ⟨_,_,e,_⟩:=h
  cases e
theorem QP {x:Rw} (hx:jR x):∀ (r:Rws),yX r→yX (r.snoc x)
 | .nil,_=>by show yX (.cons x .nil);unfold yX;exact ⟨hx,by unfold yX;trivial⟩
 | .cons y r,h=>by
  unfold yX at h
  show yX (.cons y (r.snoc x))
  unfold yX
  exact ⟨h.1,QP hx r h.2⟩
theorem QQ {x:Rw} (hx:Y4 x):∀ (r:Rws),yR r→yR (r.snoc x)
 | .nil,_=>by show yR (.cons x .nil);unfold yR;exact ⟨hx,by unfold yR;trivial⟩
 | .cons y r,h=>by
  unfold yR at h
  show yR (.cons y (r.snoc x))
  unfold yR
  exact ⟨h.1,QQ hx r h.2⟩
theorem WA (x:Rw):∀ (r:Rws),(r.snoc x).deep=max r.deep x.deep
 | .nil=>by show (Rws.cons x .nil).deep=_;simp [Rws.deep]
 | .cons y r=>by
  show (Rws.cons y (r.snoc x)).deep=_
  rw [Rws.deep,Rws.deep,WA x r];lia
theorem zb8 {v:V} (h:jm v) (j:isJ v=false):TermOk [v] :=
 ⟨fun kvs=>⟨_,zaA j⟩,fun u hu=>by rw [b5.mp hu];exact h,by simp⟩
theorem Paired.snocP {α β:Type} {F:α→β→Prop} {x:α} {y:β}:∀ {a:List α} {b:List β},Paired F a b→F x y→Paired F (a ++ [x]) (b ++ [y])
 | _,_,.nil,h=>.cons h .nil
 | _,_,.cons a r,h=>.cons a (Paired.snocP r h)
theorem Paired.getP {α β:Type} {F:α→β→Prop} {a:List α} {b:List β} {i:Nat} {x:α} (h:Paired F a b) (e:a[i]?=some x):∃ y,b[i]?=some y∧F x y:=by
 have hi:=(bw.mp e).1
 have l:=bH h
 exact ⟨b[i],ba (by lia),zX h e (ba (by lia))⟩
end L2
namespace L2
open PySem PySem.Spec PyProof.Rows
def EL (e it p:Addr) (k:Nat) (h:Heap):Prop:=(∃ old,IsEnum h e it (k:Int) old)∧h.IsListIter it p k
def zb9 (K:bD) (p:Addr) (xs:List V):It:=⟨fun i H=>i < xs.length∧SqL K H p xs,fun i H x H'=>∃ T u,x=.ref T∧H T=none∧H'=upd H T (.tup [.int i,u])∧xs[i]?=some u,fun i H=>xs.length≤i∧SqL K H p xs⟩
theorem KM {P:Program} {w:World} {K:bD} {elts:List Expr} {x1} {pos:Pos} {e it p:Addr} {xs:List V} (hei:e≠it) :
  VV P w K (.Tuple elts x1 pos) (zb9 K p xs) [e,it] e (EL e it p) where
 mem:=by simp
 obj:=fun k h st c hc=>by
  obtain ⟨⟨old,he⟩,⟨oi,hi,ci,di⟩⟩:=st
  simp only [bK,dN,or_false] at hc
  rcases hc with rfl | rfl
  ·exact ⟨_,he,fun v z=>by cases z⟩
  ·exact ⟨_,hi,fun v z=>by rw [di] at z;cases z⟩
 keep:=fun k h h' st kk=>by
  obtain ⟨⟨old,he⟩,⟨oi,hi,ci⟩⟩:=st
  exact ⟨⟨old,kk e (by simp) _ he⟩,⟨oi,kk it (by simp) _ hi,ci⟩⟩
 item:=by
  intro X hP hw hK hc k pins s σ H E I hf st hg
  subst hP hw hK
  obtain ⟨hlt,h1⟩:=hg
  obtain ⟨us,r1,p1,_⟩:=I.list h1
  obtain ⟨u,hu,ru⟩:=r1.get (i:=k) (x:=xs[k]) (ba hlt)
  have old:∀ c∈[e,it],c≠s.heap.objs.size:=fun c hc=>by
   obtain ⟨⟨old,he⟩,⟨oi,hi,ci⟩⟩:=st
   simp only [bK,dN,or_false] at hc
   rcases hc with rfl | rfl
   ·exact bZ (bF he)
   ·exact bZ (bF hi)
  obtain ⟨⟨o0,he⟩,hi⟩:=st
  refine wpAny_pyNext_enum_item he hi p1.isList (x:=u) (by simpa using hu) hei fun h e8 i5 t5 sz k5=>?_
  have I6:Inv X pins σ (upd H s.heap.objs.size (.tup [.int k,xs[k]])) { s with heap:=s.heap.push { cls:=.type "tuple",data:=.seq #[.int k s.toks,u] },toks:=s.toks + 1 } :=
   I.laid (a:=s.heap.objs.size) (o:=.tup [.int k,xs[k]]) (t':=s.toks + 1) (fun b u e=>bh _ e) (bj _) ⟨by show 2≤sizeLine;decide,[.int k s.toks,u],.cons ⟨_,rfl⟩ (.cons ru .nil),⟨_,bz _ rfl,rfl,_,rfl⟩⟩
  have free:∀ c∈[e,it],upd H s.heap.objs.size (HO.tup [.int k,xs[k]]) c=none:=fun c hc=>by rw [zk (old c hc)];exact (hf c hc).1
  have fz:∀ c∈[e,it],jP X pins (upd H s.heap.objs.size (HO.tup [.int k,xs[k]])) c:=fun c hc=>⟨free c hc,(hf c hc).2⟩
  refine ⟨.ref s.heap.objs.size,rfl,wpAny_letOwnedTupleGo_enum e8 fun h2 z9 sb2=>?_⟩
  have up:∀ c o,c≠e→h.get? c=some o→h2.get? c=some o:=fun c o hc e=>by
   rw [show h2.get? c=h.get? c from sb2.2 c hc];exact e
  have I7:Inv X pins σ (upd H s.heap.objs.size (.tup [.int k,xs[k]])) { s with heap:=h2,toks:=s.toks + 1 }:=I6.turnedL (s:={ s with heap:=s.heap.push { cls:=.type "tuple",data:=.seq #[.int k s.toks,u] },toks:=s.toks + 1 }) (t':=s.toks + 1) (ch:=[e,it]) (fun c o hc e=>by
   simp only [bK,dN,or_false,not_or] at hc
   refine up c o hc.1 ?_
   rcases iM (show (s.heap.push { cls:=.type "tuple",data:=.seq #[.int k s.toks,u] }).get? c=some o from e) with ⟨rfl,rfl⟩ | e
   ·exact t5
   ·exact k5 c o hc.1 hc.2 e) fun c hc=>fz c hc
  refine ⟨.ref s.heap.objs.size,_,I7,rfl,⟨_,_,rfl,I.hok.fresh (bj _),rfl,ba hlt⟩,?_,free⟩
  obtain ⟨oi,hi,ci⟩:=i5
  exact ⟨⟨_,z9⟩,⟨oi,up it _ (cP hei) hi,ci⟩⟩
 done:=by
  intro X hP hw hK hc k pins s σ H E I hf st hg
  subst hP hw hK
  obtain ⟨hlt,h1⟩:=hg
  obtain ⟨us,r1,p1,_⟩:=I.list h1
  have hl1:=r1.length
  obtain ⟨⟨o0,he⟩,hi⟩:=st
  refine wpAny_pyNext_enum_end (I.ok.hd hc) he hi p1.isList (by simp;lia) fun h hk=>⟨rfl,I.turnedL (t':=s.toks) (ch:=[e,it]) (fun c o hc e=>?_) fun c hc=>hf c hc⟩
  simp only [bK,dN,or_false,not_or] at hc
  exact hk c o hc.2 e
 self:=fun _ _ _ _ _ st h=>by
  obtain ⟨⟨o0,he⟩,hi⟩:=st
  exact wpAny_pyIter_enum he h
def zfz (K:bD) (ta:TA):TI:=fun σ H R=>ta σ H fun vs H1=>∃ p xs,vs=[.ref p]∧SqL K H1 p xs∧R (zb9 K p xs) H1
section
variable {X:Cx}
theorem zdW {elts:List Expr} {x1} {tp:Pos} {e1:Expr} {ta:TA} {p pos:Pos} (hg:Gl X "enumerate") (hm:X.mg "enumerate"=none) (ha:PA X [e1] ta) (he:starEach [e1] X.env=(false,eval e1 X.env) :: starEach [] X.env:=by rfl) (hpl:(backTo pos (starEach [] X.env)).any (·.1)=false:=by rfl) :
  PI X (.Tuple elts x1 tp) (.Call (.Name "enumerate" p) [e1] [] pos) (zfz X.K ta):=by
 intro pins s σ H R I h
 refine Call_ (wQ I hg hm W7 (cJ (thn (ha pos pins s σ H _ I h) fun us s1 ⟨vs,H1,I1,r1,q1⟩=>?_) he hpl))
 obtain ⟨a,xs,e,h1,q⟩:=q1
 subst e
 obtain ⟨u1,rfl,ra⟩:=jM r1
 cases ra
 obtain ⟨us1,r1,p1,_⟩:=I1.list h1
 refine call_enumerate_list p1.isList fun h' e0 i0 _ k=>?_
 refine wpAny_pyIter_enum (s:={ s1 with heap:=h' }) e0 ?_
 generalize hn:s1.heap.objs.size=n at *
 have ne:∀ {x y:Nat},x≠y→(show Addr from x)≠(show Addr from y):=fun h=>h
 refine ⟨_,_,_,_,H1,rfl,I1.kept (t':=s1.toks) k,KM (e:=n + 1) (it:=n) (ne (by lia)),⟨⟨_,e0⟩,i0⟩,fun c hc=>?_,q⟩
 simp only [bK,dN,or_false] at hc
 have hc:n≤c:=by rcases hc with rfl | rfl <;> first | exact pE _ _ | exact bj _
 exact I1.fpOk (by rw [hn];exact hc) (I1.hok.fresh (by rw [hn];exact hc))
end
section
variable {σ:St} {H:Hp} {nx:St→Hp→Prop} {B:V→St→Hp→(St→Hp→Prop)→Prop}
theorem KN {K:bD} {p:Addr} (xs:List V) (Pv:Nat→St→Hp→Prop) (h0:Pv 0 σ H) (hl:∀ i σ H,Pv i σ H→SqL K H p xs)
  (hs:∀ i u T σ H,xs[i]?=some u→H T=none→Pv i σ H→B (.ref T) σ (upd H T (.tup [.int i,u])) (Pv (i + 1))) (hd:∀ σ H,Pv xs.length σ H→nx σ H) :
  ∃ W:Nat→Nat→St→Hp→Prop,(∃ m,W 0 m σ H)∧∀ i m σ H,W i m σ H→((zb9 K p xs).stop i H∧nx σ H)∨((zb9 K p xs).go i H∧∃ N:St→Hp→Prop,(∀ σ' H',N σ' H'→∃ m',m' < m∧W (i + 1) m' σ' H')∧∀ x H',(zb9 K p xs).yld i H x H'→B x σ H' N):=by
 refine ⟨fun i m σ H=>m=xs.length - i∧i≤xs.length∧Pv i σ H,⟨xs.length,by simp,bY _,h0⟩,?_⟩
 rintro i m σ H ⟨rfl,hi,pv⟩
 by_cases hlt:i < xs.length
 ·refine .inr ⟨⟨hlt,hl i σ H pv⟩,Pv (i + 1),fun σ' H' p'=>⟨xs.length - (i + 1),by lia,rfl,hlt,p'⟩,?_⟩
  rintro x H' ⟨T,u,rfl,hT,rfl,hu⟩
  exact hs i u T σ H hu hT pv
 ·obtain rfl:i=xs.length:=by lia
  exact .inl ⟨⟨bj _,hl _ σ H pv⟩,hd σ H pv⟩
end
end L2
namespace L2
open PySem PySem.Spec PyProof.Rows
theorem zfA {c:Nat}:∀ {a b r s:List Nat},c ∉ a→c ∉ b→a ++ c :: r=b ++ c :: s→a=b∧r=s
 | [],[],r,s,_,_,h=>by simpa using h
 | [],y :: b,r,s,_,hb,h=>by
  simp only [bQ,bI,bq] at h
  exact absurd h.1 (fun z=>hb (by rw [z];exact br))
 | x :: a,[],r,s,ha,_,h=>by
  simp only [bQ,bI,bq] at h
  exact absurd h.1.symm (fun z=>ha (by rw [z];exact br))
 | x :: a,y :: b,r,s,ha,hb,h=>by
  simp only [bI,bq] at h
  obtain ⟨e1,e2⟩:=zfA (fun z=>ha (bx _ z)) (fun z=>hb (bx _ z)) h.2
  exact ⟨by rw [h.1,e1],e2⟩
end L2
namespace L2
open PySem PySem.Spec PyProof.Rows
end L2
namespace L2
open PySem PySem.Spec PyProof.Rows
section
variable {X:Cx}
abbrev KO (K:bD):R2:=fun x y H Q=>∃ a b xs,x=.ref a∧y=.ref b∧SqL K H a xs∧SqL K H b []∧Q (.bl (!decide (xs=[]))) H
theorem zca (hu:X.A.units + 64 < cLine):OpR X (compareOp .NotEq) (KO X.K):=by
 intro pins s σ H x y v u Q I rx ry h
 obtain ⟨a,b,xs,rfl,rfl,ha,hb,q⟩:=h
 by_cases e:xs=[]
 ·subst e
  exact zfp hu pins s σ H _ _ v u Q I rx ry ⟨a,b,[],[],rfl,rfl,ha,hb,⟨rfl,rfl,rfl⟩,q⟩
 ·cases rx
  cases ry
  obtain ⟨us,r1,p1,_⟩:=I.list ha
  obtain ⟨ws,r2,p2,_⟩:=I.list hb
  cases r2
  have e1:=r1.length
  have e2:xs.length≠0:=fun z=>e (fQ z)
  rw [decide_eq_false e] at q
  exact PySem.SeqAt.RcNeAt.lists_lengths p1.isList p2.isList (by simp;intro z;rw [z] at e1;exact e2 e1) (by lia) X.prog X.w X.xe _ ⟨.bl true,H,I,rfl,q⟩
end
mutual
inductive zcb (H:Hp):V→PyData→Prop
 | int (i:Int):zcb H (.int i) (.int i)
 | str (x:Str):zcb H (.str x) (.str x)
 | lst {a:Addr} {xs:List V} {ds:List PyData}:H a=some (.lst xs)→Jp H xs ds→zcb H (.ref a) (.list ds)
 | tup {a:Addr} {xs:List V} {ds:List PyData}:H a=some (.tup xs)→Jp H xs ds→zcb H (.ref a) (.tuple ds)
inductive Jp (H:Hp):List V→List PyData→Prop
 | nil:Jp H [] []
 | cons {x:V} {d:PyData} {xs:List V} {ds:List PyData}:zcb H x d→Jp H xs ds→Jp H (x :: xs) (d :: ds)
end
end L2
namespace L2
open PySem
end L2
namespace L2
open PySem
abbrev Jq:RM:=Qu
end L2
namespace L2
open PySem PySem.Spec PyProof.Rows
end L2
namespace L2
open PySem PySem.Spec PyProof.Rows
section
variable {X:Cx}
open Classical in
noncomputable def zgO (K:PySem.W.Frag) (H:Hp) (d:PyData) (u:Value):Bool:=decide (∃ x,RelV x u∧Dat K H x d)
open Classical in
end
abbrev zcc (K:bD):RC:=fun vs H Q=>∃ r xs its,vs=[.ref r]∧SqL K H r xs∧Paired (PrAt H) xs its∧(its.map (·.1)).Nodup∧its.length < 64 ∧
 ∀ l ys srt H',Same H H'→H l=none→H' l=some (.lst ys)→Paired (PrAt H') ys srt→Rising srt→srt.Perm its→Q (.ref l) H'
section
variable {X:Cx}
theorem Vm (hc:X.calm=true) (hu:X.A.units + 3 < cLine):vq X (.builtin "sorted") (zcc X.K):=by
 intro pins s σ H vs us Q I r0 h
 obtain ⟨r,xs,its,rfl,hq,pr,nd,h64,q⟩:=h
 obtain ⟨u,rfl,ru⟩:=jM r0
 cases ru
 obtain ⟨vs,rv,⟨o,n,ho,oc,_,od⟩,hz⟩:=I.list hq
 have so:=qf nd
 have l1:=bH pr
 have l2:=rv.length
 have vat:∀ {h:Heap},(∀ b o,s.heap.get? b=some o→h.get? b=some o)→∀ (i:Nat) (q:Row),its[i]?=some q→∃ v,vs[i]?=some v∧RvAt h v q:=fun {h} k i q hq=>by
  have hi:=(bw.mp hq).1
  obtain ⟨y,hy⟩:∃ y,xs[i]?=some y:=⟨_,ba (by lia)⟩
  obtain ⟨u,hu',ru⟩:=rv.get hy
  exact ⟨u,hu',(zeU I (zX pr hy hq) ru).keep k⟩
 refine ZW (vs:=vs) (κ:=tuples' false) (lt:=fun i j=>z4 ((its.map (·.1)).getD i (("",0):Pl)) ((its.map (·.1)).getD j (("",0):Pl))) (by lia) (by rw [show vs.length=(its.map (·.1)).length by rw [bn];lia];exact so) (fun R hR=>?_) (fun h2 h tk Q' k q'=>?_) (fun h tk i j C k hi hj hij q'=>?_) fun h tk h' p c k1 k2 hD hp hr=>?_
 ·refine wpAny_collect_seq r (.inl rfl) ho oc od (fun h' k=>?_) (by rw [bG];exact bU (by lia:_≤64) (by decide))
  have e:({ s with heap:=h' }:Shared)={ s with heap:=h',toks:=s.toks }:=rfl
  rw [e]
  exact hR h' s.toks k
 ·refine Jk (s:={ s with heap:=h,toks:=tk }) (qs:=its) (by lia) (fun i v q hv hq=>?_) (by lia) q'
  obtain ⟨v',hv',rr⟩:=vat k i q hq
  rw [hv] at hv'
  cases hv'
  exact rr
 ·have e1:its[i]?=some its[i]:=ba (by lia)
  have e2:its[j]?=some its[j]:=ba (by lia)
  obtain ⟨v1,g1,r1⟩:=vat k i _ e1
  obtain ⟨v2,g2,r2⟩:=vat k j _ e2
  have n1:(its.map (·.1)).getD i (("",0):Pl)=its[i].1:=by rw [bg,bC,e1];rfl
  have n2:(its.map (·.1)).getD j (("",0):Pl)=its[j].1:=by rw [bg,bC,e2];rfl
  have m1:vs.getD i cH=v1:=by rw [bg,g1];rfl
  have m2:vs.getD j cH=v2:=by rw [bg,g2];rfl
  simp only [n1,n2] at q'
  have key:=QO (P:=X.prog) (w:=X.w) (A:=X.A.in1.in1) (E:=fun _ _=>False) (s:={ s with heap:=h,toks:=tk }) (Q:=C) (by have e:X.A.in1.in1.units=X.A.units + 2:=rfl;lia) r1 r2 q' fun z=>hij (by
   have e3:(its.map (·.1))[i]?=some its[i].1:=by rw [bC,e1];rfl
   have e4:(its.map (·.1))[j]?=some its[j].1:=by rw [bC,e2];rfl
   rw [z] at e3
   exact (oQ (by rw [bn];lia) nd).mp (e3.trans e4.symm))
  rw [← m1,← m2] at key
  exact key
 ·have I1:Inv X pins σ H { s with heap:=h,toks:=tk }:=I.kept k1
  have hp':PP its.length p:=by rw [show its.length=vs.length by lia];exact hp
  have fr:H h.objs.size=none:=I1.hok.fresh (bj _)
  have sz:=hp'.size
  have pk:=xB pr V.non d0 (is:=p.toList) fun i hi=>by have:=hp'.lt i hi;lia
  have vk:Vals (p.toList.map fun i=>xs.getD i V.non) (yK vs p):=xB rv V.non cH (is:=p.toList) fun i hi=>by have:=hp'.lt i hi;lia
  have I2:Inv X pins σ (upd H h.objs.size (.lst (p.toList.map fun i=>xs.getD i V.non))) { s with heap:=h',toks:=tk }:=I1.laid (s:={ s with heap:=h,toks:=tk }) (a:=h.objs.size) (o:=.lst (p.toList.map fun i=>xs.getD i V.non)) (t':=tk) k2 (bj _)
   ⟨by rw [bn,bW];exact bU (by lia:_≤64) (by decide),yK vs p,c,vk,hD⟩
  have S2:Same H (upd H h.objs.size (.lst (p.toList.map fun i=>xs.getD i V.non))):=isV _ fr
  have mono:∀ {us:List V} {ws:List Row},Paired (PrAt H) us ws→Paired (PrAt (upd H h.objs.size (.lst (p.toList.map fun i=>xs.getD i V.non)))) us ws:=fun {us ws} h=>by
   induction h with
   | nil=>exact .nil
   | cons a _ ih =>
    obtain ⟨r,p,e,h1,h2⟩:=a
    exact .cons ⟨r,p,e,S2 _ _ h1,S2 _ _ h2⟩ ih
  refine ⟨.ref h.objs.size,_,I2,rfl,q _ _ (p.toList.map fun i=>its.getD i d0) _ S2 fr ze (mono pk) ?_ ?_⟩
  ·have hr':wU (fun i j=>z4 ((its.map (·.1)).getD i (("",0):Pl)) ((its.map (·.1)).getD j (("",0):Pl))) p its.length:=by rw [show its.length=vs.length by lia];exact hr
   have pw:=qj (F:=z4) hp' hr'
   have eq:(p.toList.map fun i=>its.getD i d0).map (·.1)=p.toList.map fun i=>(its.map (·.1)).getD i (("",0):Pl):=by
    rw [ee]
    refine dJ fun i hi=>?_
    have hi:=hp'.lt i hi
    simp [bg,bC,ba hi]
   rw [← eq,eM] at pw
   exact pw
  ·refine (hp'.list.map _).trans ?_
   rw [qi]
end
def Cb (i:Int):Prop:=iY i≤1048576
open Att PySem.W PySem.Calls in
theorem zcd {l:oE} {n k:Nat} {q:Program} {loose:List Str} {XP:(Str→Option Value)→Heap→Prop} {YP:World→Heap→Prop} {d:DefRec} {K:Params→bD} {CX:World→CXT} {sp:World→Sp} {x:Str}
  (hn:l.most=some n) (hn2:n≤sizeLine) (hdf:d.params.defaults=[]) (hr:Room k callerA) (hY:∀ (w:World) (h:Heap),YP w h→(K w.params).In h)
  (F:∀ (w:World) (mg:Str→Option Value) (fa:Addr) (h:Heap),(K w.params).In h→h.Ns mainGlobals mg→mg d.name=some (.ref fa) →
   ∃ fd:FuncData,(∀ (s:Shared) (u:Value),BindsTo s fd ⟨[u],[]⟩ [(x,u)]) ∧
    ∀ base:Heap,(K w.params).In base→base.Ns mainGlobals mg→FnOk l.prog w (K w.params) mg base (CX w) k fa fd [x] (sp w))
  (hsp:∀ (w:World) (H:Hp) (a:Addr) (ns:List Int),ns.length≤n→(∀ i∈ns,Cb i)→Kx H→SqL (K w.params) H a (ns.map V.int)→sp w [.ref a] H (fun v _=>v=.bl true) fun _ _ _=>False)
  (hCX:∀ (w:World) (H:Hp) (s:Shared) (e:Value) (s':Shared),CX w [] H s (fun _ _ _=>False) e s'→False) :
  pZ q loose XP YP l.row.toRowW d [] (fun f vs=>md f vs):=by
 intro w s₀ s₁ mg mb G Y fa o pm cd doc dV kV ho hd hcd hD hmg hg args vals as hpre hlay hrd hwl hlo
 obtain rfl:dV=.none:=Dflts.none hD hdf
 obtain rfl:kV=.none:=Dflts.noKw hD
 obtain ⟨a,vs,ns,rfl,rfl,hobj,hints,hlen⟩:=Wp hn hpre hwl
 have hb:∀ i∈ns,Cb i:=fun i hi=>intBits_le_of_layable (layable_of_mem (lay0_int (layableW_item (layableW_arg hlay _ br) _ (b8.mpr ⟨i,hi,rfl⟩))) br)
 have KX:=hY w _ Y
 obtain ⟨fd,hbd,hF⟩:=F w mg fa _ KX G.T.g hmg
 refine enter_call (fY (V4 KX G.T.g G.T.b G.T.builtins G.T.nolimit hg hobj hints (bU hlen hn2) hr hF hbd (fun H hO hS=>hsp w H a ns hlen hb hO hS) fun H e s'=>hCX w H s₁ e s') fun r s' hq=>?_)
 obtain ⟨rfl,h2,h3,h4⟩:=hq
 exact ⟨.inl ⟨.bool true,.bool true,[],rfl,fun _=>rfl,.bool true,Wq l _,fun _=>⟨mf,fun _ hm=>(nomatch hm)⟩⟩,h2,h3,h4⟩
theorem zf5 {l:oE} {n k:Nat} {q:Program} {loose:List Str} {XP:(Str→Option Value)→Heap→Prop} {YP:World→Heap→Prop} {d:DefRec} {K:Params→bD} {sp:bD→Sp} {x:Str}
  (hn:l.most=some n) (hn2:n≤sizeLine) (hdf:d.params.defaults=[]) (hr:Room k callerA) (hY:∀ (w:World) (h:Heap),YP w h→(K w.params).In h)
  (F:∀ (w:World) (mg:Str→Option Value) (fa:Addr) (h:Heap),(K w.params).In h→h.Ns mainGlobals mg→mg d.name=some (.ref fa) →
   ∃ fd:FuncData,(∀ (s:Shared) (u:Value),BindsTo s fd ⟨[u],[]⟩ [(x,u)]) ∧
    ∀ base:Heap,(K w.params).In base→base.Ns mainGlobals mg→FnOk l.prog w (K w.params) mg base (CX1 l.prog w) k fa fd [x] (sp (K w.params)))
  (hsp:∀ (K:bD) (H:Hp) (a:Addr) (ns:List Int),ns.length≤n→(∀ i∈ns,Cb i)→Kx H→SqL K H a (ns.map V.int)→sp K [.ref a] H (fun v _=>v=.bl true) fun _ _ _=>False) :
  pZ q loose XP YP l.row.toRowW d [] (fun f vs=>md f vs) :=
 zcd (K:=K) (CX:=fun w=>CX1 l.prog w) (sp:=fun w=>sp (K w.params)) hn hn2 hdf hr hY F (fun w H a ns h1 hb h2 h3=>hsp (K w.params) H a ns h1 hb h2 h3) fun _ _ _ _ _ z=>by
  obtain ⟨_,_,_,_,_,_,_,_,_,y⟩:=z
  exact y
end L2
namespace L2
open PySem PySem.Spec PyProof.Rows
end L2
namespace L2
open PySem PySem.Spec PyProof.Rows
end L2
namespace L2
open PySem PySem.Spec PyProof.Rows
section
variable {X:Cx}
theorem KP {prog:Program} {w:World} {d:Addr} (hd:(d == sysModules)=false) :
  MeetsIn prog w (Builtin.«dict.__len__» ⟨[.ref d],[]⟩) (fun _ R s=>∃ es ep,RawD s.heap d es ep∧R (.ok (.ret (.int (es.size:Nat) s.toks))) { s with toks:=s.toks + 1 }) :=
 .of_wp fun A R s ⟨es,ep,hm,h⟩=>by
  obtain ⟨o,ho,hc,hdat⟩:=hm
  show wpAny _ _ (dictSize d >>= _) _ _ s
  unfold dictSize
  refine bb (bb (dW ho hdat (bo ?_)))
  show wpAny _ _ (Builtin.Dict.pendingCount d >>= _) _ _ s
  refine bb (wpAny_pendingCount_other hd ?_)
  refine wpAny_ret_mkInt ?_
  rw [Nat.add_zero];exact h
theorem zaL {prog:Program} {w:World} {A:Around} {E:Value→Shared→Prop} {s:Shared} {d:Addr} {es:Array DictEntry} {ep:Nat} {Q:Value→Shared→Prop} (hd:(d == sysModules)=false) (hm:RawD s.heap d es ep) (hfit:(es.size:Int) < 2 ^ 63)
  (h:Q (.int (es.size:Nat) (s.toks + 1)) { s with toks:=s.toks + 1 + 1 }):wpAny (model prog w) A (Builtin.«len» ⟨[.ref d],[]⟩) (fun fin s'=>∃ r,fin=.done (.ret r)∧Q r s') E s:=by
 unfold Builtin.«len»
 refine bb (m:=oneArg "len" _) (bo ?_)
 refine bb (m:=callSpecial? (.ref d) (bf "__len__")) (dM (name:=bf "__len__") hm.type F.slot_dict_len
  (o9 F.slot_dict_len hm.type F.entry_dict_len (F.args_dict_len_1 _) (KP hd) ⟨es,ep,hm,?_⟩))
 show wpAny _ _ _ _ _ { s with toks:=s.toks + 1 }
 refine bb (dI (bo ?_));refine bb (mK ?_)
 show wpAny _ _ (if ((es.size:Nat):Int) < 0 then _ else _) _ _ _;rw [if_neg (by lia)]
 show wpAny _ _ (if ((es.size:Nat):Int) ≥ 2 ^ 63 then _ else _) _ _ _;rw [if_neg (by lia)]
 exact bb (wpAny_mkInt (bo ⟨_,rfl,h⟩))
end
end L2
namespace L2
open PySem PySem.Spec PyProof.Rows
section
variable {X:Cx} {e:Expr} {te:TE} {a b:Str} {j k:Nat} {p1 p2 p3 p4:Pos}
def zce (te:TE):TE:=fun σ H Q=>te σ H fun v H1=>∃ i:Int,v=.int i∧i.natAbs.log2 < 1920∧∀ y:Str,Q (.str y) H1
theorem zdX (he:PE X e te) (hl:a.length≤1000:=by decide +kernel) (hl2:b.length≤1000:=by decide +kernel):PE X (.JoinedStr [.Constant (.str a) j p1,.FormattedValue e (-1) none p2,.Constant (.str b) k p4] p3) (zce te):=by
 intro pins s σ H Q I h
 have hs:sizeLine=16777216:=dw
 refine wpAny_JoinedStr ?_
 show wpAny _ _ (eval (.Constant (.str a) j p1) X.env) _ _ s
 have e0:(gP ++ a).length=a.length:=by rw [eJ];simp [gP,gM]
 refine gO ⟨a,_,rfl,by rw [e0];exact zV (by lia),?_⟩
 show wpAny _ _ (eval (.FormattedValue e (-1) none p2) X.env) _ _ _
 refine lH (thn (he pins _ σ H _ (I.tok _) h) fun v s1 ⟨x,H1,I1,r1,i,ex,hz,q⟩=>?_)
 subst ex
 obtain ⟨t,rfl⟩:=r1
 have le:(bf (toString i)).length≤2000:=by
  have e:=int_text_length_le (k:=1920) (by decide) hz
  rw [PySem.ofString_length];lia
 refine wpAny_formatField_int hz ⟨bf (toString i),_,rfl,by rw [eJ,e0];lia,?_⟩
 show wpAny _ _ (eval (.Constant (.str b) k p4) X.env) _ _ _
 have hz2:(gP ++ a ++ bf (toString i) ++ b).length≤sizeLine:=by rw [eJ,eJ,e0];lia
 exact gO ⟨b,_,rfl,hz2,hz2,.str _,H1,I1.tok _,⟨_,rfl⟩,q _⟩
end
end L2
namespace L2
open PySem PySem.Spec PyProof.Rows
structure FunD (K:bD) (x qual:Str) (st:Stmt) (f:Addr) (fd:FuncData):Prop where
 ex:∃ (oc:Value) (od:Option Addr) (dV kV doc pm:Value) (an:Option Addr) (cdv ct:Value) (osl:Array (Option Value)),fd=lK x qual (y8 st) (yB st) (zj st) dV kV doc pm an cdv ct∧K.lookup f=some ⟨oc,od,.func fd,osl⟩∧lL K cdv qual=true
 kp:gG K (.ref f)=true
section
variable {P:Program} {w:World} {K:bD} {mg:Str→Option Value} {base:Heap} {x qual:Str} {st:Stmt} {f:Addr} {fd:FuncData} {N ps:List Str} {k:Nat} {sp:Sp}
theorem FunD.ok1 (F:FunD K x qual st f fd) (S:zA N ps (zj st)) (len:∀ vs H Q E,sp vs H Q E→vs.length=ps.length)
  (hbody:∀ (cdv:Value) (A:Around) (outer:List Env) (s:Shared) (H:Hp) (vs:List V) (Q:VK) (E:XK),Room k (A.deeper (envOfC qual (zj st) s.heap.objs.size f cdv))→sp vs H Q E→∃ t,PSs (kN (CX1 P w) P w K mg base N qual (zj st) f cdv A outer s H E) (yB st) t∧t { nx:=fun _ H'=>Q .non H',rt:=Q } (start N vs) H):FnOk P w K mg base (CX1 P w) (k + 1) f fd ps sp:=by
 obtain ⟨oc,od,dV,kV,doc,pm,an,cdv,ct,osl,rfl,lk,hcd⟩:=F.ex
 exact zeN lk hcd S len fun A outer s H vs Q E hr hsp=>hbody cdv A outer s H vs Q E hr hsp
theorem FunD.ok0 (F:FunD K x qual st f fd) (S:zA N ps (zj st)) (len:∀ vs H Q E,sp vs H Q E→vs.length=ps.length)
  (hbody:∀ (cdv:Value) (A:Around) (outer:List Env) (s:Shared) (H:Hp) (vs:List V) (Q:VK) (E:XK),Room k (A.deeper (envOfC qual (zj st) s.heap.objs.size f cdv))→sp vs H Q E→∃ t,PSs (kN (CX1 P w) P w K mg base N qual (zj st) f cdv A outer s H E).nox (yB st) t∧t { nx:=fun _ H'=>Q .non H',rt:=Q } (start N vs) H):FnOk P w K mg base (CX1 P w) (k + 1) f fd ps sp :=
 F.ok1 S len fun cdv A outer s H vs Q E hr h=>let ⟨t,a,b⟩:=hbody cdv A outer s H vs Q E hr h;⟨t,a.nox,b⟩
theorem zdY {oc:Value} {od an:Option Addr} {osl:Array (Option Value)} {dV kV doc pm cdv ct:Value} (l:K.lookup f=some ⟨oc,od,.func (lK x qual (y8 st) (yB st) (zj st) dV kV doc pm an cdv ct),osl⟩)
  (c:lL K cdv qual=true) (k:gG K (.ref f)=true):FunD K x qual st f (lK x qual (y8 st) (yB st) (zj st) dV kV doc pm an cdv ct):=⟨⟨oc,od,dV,kV,doc,pm,an,cdv,ct,osl,rfl,l,c⟩,k⟩
end
section
variable {X:Cx} {o value:Expr} {f:Str} {pos pos':Pos} {ta:TE} {tx:EXK→TE}
def zcf (K:bD) (ta:TE) (tx:EXK→TE) (f:Str) (EX:EXK):TS:=Zl K ta (tx EX) f
theorem zdZ (ha:PE X.nox o ta) (hv:PEX X value tx) (hs:swapsWith value (some (.Attribute o f pos')) pos.line X.env=pure false):PSX X (.Assign [.Attribute o f pos'] value pos) (zcf X.K ta tx f):=by
 intro pins s σ H D EX I h
 refine ib (thn (hv pins s σ H _ EX I h) fun u s1 ⟨y,H1,I1,ry,q⟩=>dA (ha pins s1 σ H1 _ (I1.wish _) q) (fun ov s2 ⟨x,H2,I2',rx,a,C,dx,fs,ex,ea,c,n,l,q2⟩=>?_) fun _ _ z=>dv z) hs
 subst ex
 obtain rfl:ov=bM a:=rx
 exact YG I2'.unwish ea c n l ry fun s3 I3=>⟨σ,_,I3,q2⟩
end
def zeV (K:bD) (tb:EXK→TS) (C1 C2:Addr) (th:TS):TS:=fun D σ H=>tb (fun cls σ1 H1=>∃ C,cls=.ref C∧nR K (.ref C) [.ref C1,.ref C2]=some true∧th D σ1 H1) D σ H
theorem zcg {base h:Heap} {l:List Env} {e:Addr} {cls a0:Value} (x:Heap.FlyingW base l e cls a0 h) (o:Obj):Heap.FlyingW base l e cls a0 (h.push o):=by
 obtain ⟨f1,f2,f3,oe,vs,T,oT,ts,a1,a2,a3,a4,a5,a6,a7,a8,a9⟩:=x
 exact ⟨fun b u q=>bh _ (f1 b u q),f2,f3.of_keeps (fun b u q _=>⟨u,bh _ q,rfl⟩),oe,vs,T,oT,ts,bh _ a1,a2,a3,a4,a5,a6,bh _ a7,a8,a9⟩
section
variable {X:Cx} {st b₀:Stmt} {suite:List Stmt} {tb:EXK→TS} {th:TS} {c1 c2:Str} {C1 C2:Addr} {np np2 hpos tpos pos:Pos} {x1:Nat}
theorem zd0 (hst:X.stack=X.env :: X.outer∧X.env.frame=some X.env.locals) (hex:X.ex=[]) (hb:PSX X st tb) (hg1:Gl X c1) (hm1:X.mg c1=some (.ref C1)) (hg2:Gl X c2) (hm2:X.mg c2=some (.ref C2))
  (hs:∀ e,PSs (X.sub e) (b₀ :: suite) th) (hdb1:(c1 == ("__debug__":Str))=false:=by decide) (hdb2:(c2 == ("__debug__":Str))=false:=by decide) :
  PS X (.Try [st] [.ExceptHandler (some (.Tuple [.Name c1 np,.Name c2 np2] x1 tpos)) none (b₀ :: suite) hpos] [] [] pos) (zeV X.K tb C1 C2 th):=by
 intro pins s σ H D I h
 refine wpAny_Try_except (iD (dA (hb pins s σ H D _ I h) (fun f s1 q=>?_) fun ev s1 q=>?_))
 ·cases f with
  | next=>exact eN (eN q)
  | ret v=>exact q
  | brk=>exact q
  | cont=>exact q
 obtain ⟨e,cls,σ1,s0,H0,H1,rfl,I0,I1,xf,C,rfl,hx,hth⟩:=q
 obtain ⟨oe,vs,a0,T,oT,ts,h1,h2,h3,h4,h5,h6,h7,h8,h9,h10,h11,h12⟩:=xf
 have fr:s1.heap.FunFrames (gB s1.heap (frs X.stack ++ [e,T])) (X.env :: X.outer):=by
  have q:=iE (as:=frs X.stack ++ [e,T]) I1.stack fun env he a ha=>cz _ (fV.mpr ⟨env,he,ha⟩)
  rw [hst.1] at q ⊢
  exact q
 have two:∀ b∈[e,T],s0.heap.get? b=none∧H1 b=none:=fun b z=>by
  have z':b=e∨b=T:=by simpa using z
  rcases z' with rfl | rfl
  ·exact ⟨h9,h11⟩
  ·exact ⟨h10,h12⟩
 have hcs:∀ b∈[e,T],H1 b=none∧X.s₀.heap.get? b=none:=fun b z=>⟨(two b z).2,v3 (I0.there0 hex) (two b z).1⟩
 have hcp:∀ b∈[e,T],∀ p∈X.pn ++ pins,p.1≠b:=fun b z p hp q=>by
  have:=(I0.pin p hp).1
  rw [q,(two b z).1] at this;cases this
 refine wpAny_looks_onW (base:=gB s1.heap (frs X.stack ++ [e,T])) (a0:=a0) (cls:=.ref C) (by rw [I1.ok.frames,hst.1]) hst.2
  ⟨fun b o q=>lI _ q,fS _ (bR _ (by simp)),fr,oe,vs,T,oT,ts,h1,h2,h3,h4,fS _ (bR _ (by simp)),h5,h6,h7,h8⟩ fun g4 held4 sm4=>?_
 refine wpAny_landsW held4 fun g5 fly5 sm5=>?_
 have hB:∀ {g:Heap},(gB s1.heap (frs X.stack ++ [e,T])).StaysIn g→∀ b o,s1.heap.get? b=some o→b ∉ frs X.stack→b ∉ [e,T]→g.get? b=some o :=
  fun {g} k b o q n1 n2=>k b o (iN _ q fun z=>(bP.mp z).elim n1 n2)
 have I5:Inv X pins σ1 H1 { s1 with heap:=g5 }:=I1.land hex hcs hcp (hB fly5.1) (sm4.trans sm5)
 refine lA (iw ?_) (by intro q;cases q)
 refine wpAny_Tuple_spliced (eh (vo (X:=X.sub e) (I5.toSub (e:=e)) hg1 hm1 (eh (vo (X:=X.sub e) (I5.toSub (e:=e)) hg2 hm2 (gp ⟨(by show 2≤sizeLine;decide),?_⟩) hdb2)) hdb1))
 have fly6:=zcg fly5 { cls:=.type "tuple",data:=.seq [bM C1,bM C2].toArray }
 have kp:∀ b o,g5.get? b=some o→(g5.push { cls:=.type "tuple",data:=.seq [bM C1,bM C2].toArray }).get? b=some o:=fun b o q=>bh _ q
 have hp:(g5.push { cls:=.type "tuple",data:=.seq [bM C1,bM C2].toArray }).get? g5.objs.size=some { cls:=.type "tuple",data:=.seq [bM C1,bM C2].toArray }:=bz _ rfl
 have K6:X.K.In (g5.push { cls:=.type "tuple",data:=.seq [bM C1,bM C2].toArray }):=(I5.kept (t':=s1.toks) kp).kIn
 have ty6:W.Looks (model X.prog X.w) (g5.push { cls:=.type "tuple",data:=.seq [bM C1,bM C2].toArray }) (typeOf (.ref e)) (.ref C):=by
  obtain ⟨o,p1,p2⟩:=fly6.there
  exact p2 ▸ (pW p1).andThen .now
 refine (W.exm_tup2 K6 ty6 hp hx).here ?_
 refine m5 (lands_againW fly6 fun g7 fly7 sm7=>?_)
 have I7:Inv X pins σ1 H1 { s1 with heap:=g7 }:=I1.land hex hcs hcp (hB fly7.1) (((sm4.trans sm5).trans (Heap.UpToSlots.of_keeps kp)).trans sm7)
 refine dA (hs e pins _ σ1 H1 D I7.toSub hth) (fun f s9 q=>?_) fun _ _ z=>dv z
 cases f with
 | next=>obtain ⟨σ9,H9,J,z⟩:=q;exact ⟨σ9,H9,Inv.ofSub (J:=I) J,z⟩
 | brk=>obtain ⟨σ9,H9,J,z⟩:=q;exact ⟨σ9,H9,Inv.ofSub (J:=I) J,z⟩
 | cont=>obtain ⟨σ9,H9,J,z⟩:=q;exact ⟨σ9,H9,Inv.ofSub (J:=I) J,z⟩
 | ret u=>obtain ⟨v,σ9,H9,J,r,z⟩:=q;exact ⟨v,σ9,H9,Inv.ofSub (J:=I) J,r,z⟩
end
end L2
namespace L2
open PySem PySem.Spec PyProof.Rows
end L2
namespace L2
open PySem PySem.Spec PyProof.Rows
end L2
namespace L2
open PySem PySem.Spec PyProof.Rows
abbrev zfB (K:bD):RC:=fun xs H Q=>∃ (a:Addr) (bs:List Bool),xs=[.ref a]∧SqL K H a (bs.map V.bl)∧Q (.bl (bs.any id)) H
section
variable {X:Cx}
theorem zaM (hc:X.calm=true):vq X (.builtin "any") (zfB X.K):=by
 intro pins s σ H xs us Q I r h
 obtain ⟨a,bs,rfl,hq,q⟩:=h
 obtain ⟨u,rfl,r1⟩:=jM r
 cases r1
 obtain ⟨its,rv,p,hz⟩:=I.list hq
 have hl:=rv.length
 rw [bn] at hl
 have hne:a≠s.heap.objs.size:=by
  obtain ⟨o,n,e,_⟩:=p
  exact bZ (bF e)
 refine call_any_walk (l7 p.isList ?_)
 refine ⟨s.heap.objs.size,_,_,its.toArray.size,fun i v=>its.toArray[i]?=some v,_,fun i=>bs.getD i false,rfl,Walks.list (A:=X.A.in1) (I.ok.hd hc) _ a hne its.toArray,?_,?_,fun h' tk k=>?_⟩
 ·exact ⟨⟨_,bz _ rfl,rfl,rfl⟩,p.isList.at fun o e=>bh _ e⟩
 ·intro i v s' Q' E' hv hQ
  have hv':its[i]?=some v:=by simpa using hv
  have hi:i < bs.length:=by
   rw [hl]
   exact (bw.mp hv').1
  obtain ⟨u',hu,ru⟩:=rv.get (i:=i) (x:=V.bl bs[i]) (by simp [hi])
  rw [hv'] at hu
  cases hu
  cases ru
  have e:bs.getD i false=bs[i]:=by simp [hi]
  have hQ':Q' (bs.getD i false) s':=hQ
  rw [e] at hQ'
  exact dU hQ'
 ·have e:(bN its.toArray.size).any (fun i=>bs.getD i false)=bs.any id:=by
   rw [bG,← hl]
   have:bs.map id=(bN bs.length).map fun i=>bs.getD i false:=by
    apply eL
    intro i
    by_cases hi:i < bs.length <;> simp [hi]
   have h2:bs.any id=(bs.map id).any id:=by simp
   rw [h2,this,List.any_map]
   rfl
  rw [e]
  refine ⟨.bl (bs.any id),H,?_,rfl,q⟩
  exact I.kept fun b o e=>k b o (by
   have:=bZ (bF e)
   simpa using this) (bh _ e)
end
def zch (te ts:TE):TE:=fun σ H Q=>te σ H fun x H1=>ts σ H1 fun k H2=>∃ z y,x=.str z∧k=.int (-1)∧z.length≤sizeLine∧(∀ u,fM z none none (-1,u)=y)∧Q (.str y) H2
section
variable {X:Cx} {e st:Expr} {p2 pos:Pos} {te ts:TE}
theorem zd1 (he:PE X e te) (hst:PE X st ts):PE X (.Subscript e (.Slice none none (some st) p2) pos) (zch te ts):=by
 intro pins s σ H Q I h
 refine nP (thn (he pins s σ H _ I h) fun v s1 ⟨x,H1,I1,r1,h1⟩=>?_)
 refine wpAny_Slice ?_
 rw [mB]
 refine bo ?_
 refine bo ?_
 rw [oz]
 refine thn (hst pins s1 σ H1 _ I1 h1) fun u s2 ⟨k,H2,I2,r2,z,y,ex,ek,hz,hy,q1⟩=>?_
 subst ex ek
 obtain ⟨t,rfl⟩:=r1
 obtain ⟨uk,rfl⟩:=r2
 have I4:Inv X pins σ H2 { s2 with heap:=s2.heap.push { cls:=.type "slice",data:=.fields #[.none,.none,.int (-1) uk] } }:=I2.kept (t':=s2.toks) fun b ob q=>bh _ q
 refine tail_any (ops:=[.ref s2.heap.objs.size,.str z t]) (oO _ _ _) oF.lookup ?_ (by with_unfolding_all rfl)
 refine mE (l:=none) (u:=none) (st:=some (-1,uk)) ⟨_,bz _ rfl,rfl,rfl⟩ (show ((-1:Int) == 0)=false by decide) ?_
 refine post_val_or_str ⟨bU (Txt.sliceBy_le z _ _ (-1,uk) (show (-1:Int)≠0 by decide)) hz,fun t' k=>⟨.str y,H2,I4.tok k,⟨t',by rw [← hy uk];rfl⟩,q1⟩⟩
end
theorem zd2:typeLookup (.type "list_reverseiterator") "__len__"=pure none:=by rw [nH,iu];kernel_rfl
theorem zci:typeLookup (.type "list_reverseiterator") "__length_hint__"=pure (some (.builtin "list_reverseiterator.__length_hint__")):=by rw [nH,iu];kernel_rfl
section
variable {P:Program} {w:World} {A:Around} {E:Value→Shared→Prop} {s:Shared}
theorem zcj {it l:Addr} {i:Int} {Q:Bool→Shared→Prop} (hit:s.heap.IsRevIter it l i) (h:Q false s):wpAny (model P w) A (lC (.ref it)) Q E s:=by
 unfold lC
 refine bb (nv hit.typeIs zd2 ?_);show wpAny _ A (specialOf (bM it) (bf "__length_hint__") >>= _) _ _ _
 refine bb (nv hit.typeIs zci ?_)
 generalize hid:("list_reverseiterator.__length_hint__":String)=id0;wp_delta
 rw [show splitId id0=some ("list_reverseiterator","__length_hint__") from by subst hid;decide +kernel];subst hid
 refine bb (mT (b:=true) hit.typeIs (by rw [isSubtype_type];kernel_rfl) ?_)
 exact bo h
theorem zd3 {its acc:Array Value} (h:ItemsOf (fun i v=>its[its.size - 1 - i]?=some v) acc its.size):acc.toList=its.toList.reverse:=by
 apply eL
 intro i
 by_cases hi:i < its.size
 ·have hv:acc[i]?=some (acc[i]'(by rw [h.1];exact hi)):=cE (by rw [h.1];exact hi)
  have h2:=h.2 i _ hv
  rw [cX,hv,← h2,gj (by rw [bW];exact hi),bW,cX]
 ·rw [cK (by rw [bW,h.1];lia),cK (by rw [dj,bW];lia)]
theorem zck {it l:Addr} {its:Array Value} {Q:Value→Shared→Prop} (hh:A.handled=none) (hit:s.heap.IsRevIter it l ((its.size:Int) - 1)) (hl:s.heap.IsList l its) (hne:l≠it) (hz:its.size≤sizeLine)
  (hQ:∀ h' tk acc c,(∀ b o,b≠it→s.heap.get? b=some o→h'.get? b=some o)→h'.get? s.heap.objs.size=some { cls:=.type "list",dict:=none,data:=.seq acc c,slots:=#[] }→acc.toList=its.toList.reverse→Q (.ref s.heap.objs.size) { s with heap:=h',toks:=tk }) :
  wpAny (model P w) A (call (.type "list") [.ref it]) Q E s:=by
 refine nY (Q₁:=fun obj s₁=>obj=.ref s.heap.objs.size∧s₁={ s with heap:=s.heap.push { cls:=.type "list",data:=.seq #[] } }) on (mM _) mO (code_list_new _ ⟨rfl,rfl⟩) ?_;rintro obj s₁ ⟨rfl,rfl⟩
 have T0:(s.heap.push { cls:=.type "list",data:=.seq #[] }).get? s.heap.objs.size=some { cls:=.type "list",data:=.seq #[] }:=bz _ rfl
 have lit:it < s.heap.objs.size:=let ⟨o,ho,_⟩:=hit;bF ho
 have ll:l < s.heap.objs.size:=let ⟨o,ho,_⟩:=hl;bF ho
 have hit1:(s.heap.push { cls:=.type "list",data:=.seq #[] }).IsRevIter it l ((its.size:Int) - 1):=hit.at fun o e=>bh _ e
 have hl1:(s.heap.push { cls:=.type "list",data:=.seq #[] }).IsList l its:=hl.at fun o e=>bh _ e
 have k1:∀ b o,s.heap.get? b=some o→(s.heap.push { cls:=.type "list",data:=.seq #[] }).get? b=some o:=fun b o e=>bh _ e
 generalize hT:s.heap.objs.size=S at *
 generalize s.heap.push { cls:=.type "list",data:=.seq #[] }=h1 at *
 refine ⟨⟨_,T0,rfl⟩,mr _ _,?_⟩
 show wpAny _ _ (do let old ← fU (.ref S);mP (.ref S) (fun _=>#[]);letGo old.toList.reverse;cL (.ref S) (.ref it) .none) _ _ _
 refine bb ?_;unfold fU;refine bb (wpAny_seqItems T0 rfl (bo ?_))
 show wpAny _ _ (updateSeq S (fun _=>#[]) >>= fun _=>letGo (#[]:Array Value).toList.reverse >>= fun _=>cL (.ref S) (.ref it) .none) _ _ _
 refine bb (fF T0 rfl ?_)
 have T2:=ed (cD (fun _=>(#[]:Array Value))) T0 rfl
 have o2:∀ b o,b≠S→h1.get? b=some o→(h1.update S (cD (fun _=>(#[]:Array Value)))).get? b=some o:=fun b o hb e=>(cN _ _ (cP hb)).trans e
 refine bb (mK ?_)
 have si:it≠S:=bZ lit
 have sl:l≠S:=bZ ll
 have hit2:=hit1.at fun o e=>o2 it o si e
 have hl2:=hl1.at fun o e=>o2 l o sl e
 generalize h1.update S (cD (fun _=>(#[]:Array Value)))=h2 at *
 unfold cL
 refine bb (nG (T:="list_reverseiterator") hit2.typeIs ?_)
 have c1:fG (.ref S) (.ref it)=false:=by simp [fG,cP si]
 have c2:(gn "list_reverseiterator" == gn "list")=false:=by decide
 have c3:(gn "list_reverseiterator" == gn "tuple")=false:=by decide
 simp only [c1,c2,c3,oC,cu,if_false]
 refine bb (iK hit2 ?_)
 refine bb (dI (zcj hit2 ?_))
 have W:=Walks.listRev (prog:=P) (w:=w) (A:=A.in1.in1) hh it l hne its
 have fin:∀ (h3:Heap) (tk:Nat) (c₁:Nat),h3.IsRevIter it l ((its.size:Int) - 1)→h3.IsList l its→(∀ b o,b≠S→s.heap.get? b=some o→h3.get? b=some o)→h3.get? S=some { cls:=.type "list",data:=.seq #[] c₁ } →
   codeAny (model P w) A.in1 (.builtin "list.extend.loop" ⟨[.ref S,.ref it,.none],[]⟩) (wants (fun r s₂=>r=cH∧Q (.ref S) s₂) E) { s with heap:=h3,toks:=tk }:=fun h3 tk c₁ i3 l3 k3 S3=>by
  refine codeAny_extend_loopS W.toS hz S (by simp;exact ⟨cP si,cP sl⟩) .none its.size 0 { s with heap:=h3,toks:=tk } #[] c₁ rfl (bY _) ⟨bY _,by simpa using i3,l3⟩ S3 (ItemsOf.nil _) fun s' acc c hm hS' hacc=>?_
  rw [Moved.eq_with hm]
  exact ⟨rfl,hQ s'.heap s'.toks acc c (fun b o hb e=>hm.heap b o (fun hmem=>by
   rcases bK.mp hmem with e' | hmem
   ·rw [e',← hT] at e;exact dX _ (bF e)
   ·exact hb (by simpa using hmem)) (k3 b o (fun z=>by rw [z,← hT] at e;exact dX _ (bF e)) e)) hS' (zd3 hacc)⟩
 refine wpAny_ite_split (fun _=>?_) (fun _=>bo ⟨fb dn _,fin h2 s.toks _ hit2 hl2 (fun b o hb e=>o2 b o hb (k1 b o e)) T2⟩)
 refine bb (wpAny_rule ?_);refine bb ?_
 show wpAny _ _ (updateSeq S (·.push .none) >>= fun _=>updateSeq S (·.pop)) _ _ _;refine bb (fF T2 rfl ?_)
 have T4:=ed (cD (·.push cH)) T2 rfl
 refine fF (hz:=by seq_fits) T4 rfl ?_
 have T5:=ed (cD (·.pop)) T4 rfl
 have oth:∀ b o,b≠S→h2.get? b=some o→((h2.update S (cD (·.push cH))).update S (cD (·.pop))).get? b=some o:=fun b o hb e=>(cN _ _ (cP hb)).trans ((cN _ _ (cP hb)).trans e)
 exact bo ⟨fb dn _,fin _ s.toks _ (hit2.at fun o e=>oth it o si e) (hl2.at fun o e=>oth l o sl e) (fun b o hb e=>oth b o hb (o2 b o hb (k1 b o e))) T5⟩
end
def zcl (K:bD) (ta:TA):TE:=fun σ H Q=>ta σ H fun vs H1=>∃ a xs,vs=[.ref a]∧SqL K H1 a xs∧∀ l,H1 l=none→Q (.ref l) (upd H1 l (.lst xs.reverse))
theorem Vals.rev:∀ {xs:List V} {us:List Value},Vals xs us→Vals xs.reverse us.reverse
 | _,_,.nil=>.nil
 | _,_,.cons h t=>by
  rw [fA,fA]
  exact (Vals.rev t).append (.cons h .nil)
section
variable {X:Cx} {a:Expr} {ta:TA} {p p2 pos pos2:Pos}
theorem zd4 (hc:X.calm=true) (hg1:Gl X "list") (hm1:X.mg "list"=none) (hg2:Gl X "reversed") (hm2:X.mg "reversed"=none) (ha:PA X [a] ta) (hs:starEach [a] X.env=[(false,eval a X.env)]:=by rfl)
  (he:starEach [.Call (.Name "reversed" p2) [a] [] pos2] X.env=[(false,eval (.Call (.Name "reversed" p2) [a] [] pos2) X.env)]:=by rfl):PE X (.Call (.Name "list" p) [.Call (.Name "reversed" p2) [a] [] pos2] [] pos) (zcl X.K ta):=by
 intro pins s σ H Q I h
 refine eX (wQ I hg1 hm1 xX ?_ (by decide) (by decide))
 refine cJ ?_ he rfl
 rw [he]
 show wpAny _ _ (spliced ((false,eval (.Call (.Name "reversed" p2) [a] [] pos2) X.env) :: backTo pos (starEach [] X.env))) _ _ s
 refine eh ?_
 refine Call_ (wQ I hg2 hm2 ZT (cJ (thn (ha pos2 pins s σ H _ I h) fun us s1 ⟨vs,H1,I1,r1,q1⟩=>?_) hs rfl))
 obtain ⟨b,xs,e,hq,q⟩:=q1
 subst e
 cases r1 with
 | cons r rr =>
  cases rr
  cases r
  obtain ⟨its,rv,pl,hz⟩:=I1.list hq
  have hlen:=rv.length
  refine call_reversed_list pl.isList ?_
  refine gp ?_
  have ht:(s1.heap.push (revObj b (((its.toArray.size:Nat):Int) - 1))).IsRevIter s1.heap.objs.size b (((its.toArray.size:Nat):Int) - 1):=⟨_,bz _ rfl,rfl,rfl⟩
  have bl:b < s1.heap.objs.size:=let ⟨o,ho,_⟩:=pl.isList;bF ho
  refine zck (A:=X.A) (I1.ok.hd hc) ht (pl.isList.at fun o e=>bh _ e) (bZ bl) (by rw [bG];lia) fun h' tk acc c k hS e=>?_
  have sz:(s1.heap.push (revObj b (((its.toArray.size:Nat):Int) - 1))).objs.size=s1.heap.objs.size + 1:=fT ..
  rw [sz] at hS ⊢
  refine ⟨.ref (s1.heap.objs.size + 1),upd H1 (s1.heap.objs.size + 1) (.lst xs.reverse),?_,rfl,q _ (I1.hok.fresh (iV _))⟩
  refine I1.laid (a:=s1.heap.objs.size + 1) (o:=.lst xs.reverse) (t':=tk) (fun c o e=>k c o (bZ (bF e)) (bh _ e)) (iV _) ⟨by rw [dj];exact hz,acc.toList,c,?_,by rw [nU];exact hS⟩
  rw [e]
  exact Vals.rev rv
end
end L2
namespace L2
open PySem PySem.Spec PyProof.Rows
abbrev zcm:RC:=fun vs H Q=>∃ a kvs,vs=[.ref a]∧H a=some (.dK kvs)∧Q (.int (kvs.length:Nat)) H
section
variable {X:Cx}
theorem zaN:vq X (.builtin "len") zcm:=by
 intro pins s σ H vs us Q I r0 h
 obtain ⟨a,kvs,rfl,ha,q⟩:=h
 obtain ⟨u,rfl,ru⟩:=jM r0
 cases ru
 obtain ⟨z,lo,vs,kv,o,es,ep,ho,hx,hd,hk,pr,hn⟩:=(show ObjOk X.prog X.w H s.heap a (.dK kvs) from I.hok a _ ha)
 have hes:es.size=kvs.length:=by
  have l1:=pr.length
  have l2:=kv.length
  have l3:es.size=es.toList.length:=(bW ..).symm
  lia
 have rd:RawD s.heap a es ep:=⟨o,ho,hx,hd⟩
 rw [← hes] at q
 exact fi kind_len plain_len entry_len (args_len1 _) (zaL lo rd (by rw [hes];rw [dw] at z;lia) ⟨.int (es.size:Nat),H,I.tok _,⟨_,rfl⟩,q⟩)
end
end L2
namespace L2
open PySem PySem.Spec PyProof.Rows
end L2
namespace L2
open PySem PySem.Spec PyProof.Rows
end L2
namespace HT
open PySem PySem.Spec PyProof.Rows
end HT
namespace L2
open PySem PySem.Spec PyProof.Rows
end L2
namespace L2
open PySem PySem.Spec PyProof.Rows
theorem zcn (items:Array Value):slicePick items none none (some (-1))=items.reverse:=by
 apply fR.mp
 rw [Array.toList_reverse]
 unfold slicePick
 show List.filterMap (fun x=>items[x]?) (sliceRange ((items.size:Int) - 1) (-1) (-1))=_
 have e:sliceRange ((items.size:Int) - 1) (-1) (-1)=(bN items.size).map fun k=>items.size - 1 - k:=by
  unfold sliceRange
  have c:(if (-1:Int) > 0 then (if (items.size:Int) - 1 < -1 then (-1 - ((items.size:Int) - 1) + -1 - 1) / -1 else 0) else (if (items.size:Int) - 1 > -1 then ((items.size:Int) - 1 - -1 - -1 - 1) / - -1 else 0)).toNat=items.size:=by
   have e1:(- -1:Int)=1:=by decide
   rw [if_neg (by decide),e1,Int.ediv_one]
   split <;> lia
  dsimp only
  rw [c]
  refine dJ fun k hk=>?_
  have:k < items.size:=cI.mp hk
  lia
 rw [e,List.filterMap_map]
 have:∀ n,n≤items.size→List.filterMap ((fun x=>items[x]?) ∘ fun k=>items.size - 1 - k) (bN n)=items.toList.reverse.take n:=by
  intro n hn
  induction n with
  | zero=>rfl
  | succ n ih =>
   rw [nJ,iy,ih (by lia),cM]
   congr 1
   rw [gj (by rw [bW];lia),bW,cX]
   simp only [gK,List.filterMap_nil,Function.comp]
   cases items[items.size - 1 - n]? <;> rfl
 rw [this _ (bj _),cC (by simp)]
def Y5 (K:bD) (te ts:TE):TE:=fun σ H Q=>te σ H fun x H1=>ts σ H1 fun k H2=>∃ a xs,x=.ref a∧k=.int (-1)∧SqL K H2 a xs∧∀ p,H2 p=none→Q (.ref p) (upd H2 p (.lst xs.reverse))
section
variable {X:Cx} {e st:Expr} {p2 pos:Pos} {te ts:TE}
theorem Jr:∀ {xs:List V} {us:List Value},Vals xs us→Vals xs.reverse us.reverse
 | _,_,.nil=>.nil
 | _,_,.cons h r=>by
  rw [fA,fA]
  exact Vals.append (Jr r) (.cons h .nil)
theorem Js (he:PE X e te) (hst:PE X st ts):PE X (.Subscript e (.Slice none none (some st) p2) pos) (Y5 X.K te ts):=by
 intro pins s σ H Q I h
 refine nP (thn (he pins s σ H _ I h) fun v s1 ⟨x,H1,I1,r1,h1⟩=>?_)
 refine wpAny_Slice ?_
 rw [mB]
 refine bo ?_
 refine bo ?_
 rw [oz]
 refine thn (hst pins s1 σ H1 _ I1 h1) fun u s2 ⟨k,H2,I2,r2,a,xs,ex,ek,hq,q1⟩=>?_
 subst ek
 obtain ⟨uk,rfl⟩:=r2
 have I4:Inv X pins σ H2 { s2 with heap:=s2.heap.push { cls:=.type "slice",data:=.fields #[.none,.none,.int (-1) uk] } }:=I2.kept (t':=s2.toks) fun b ob q=>bh _ q
 have g:∃ T id,typeLookup (.type T) "__getitem__"=pure (some (.builtin id))∧({ s2 with heap:=s2.heap.push { cls:=.type "slice",data:=.fields #[.none,.none,.int (-1) uk] } }:Shared).TypeIs v T∧wpAny (model X.prog X.w) X.A (getItem v (.ref s2.heap.objs.size)) (EP X pins σ Q) X.xe { s2 with heap:=s2.heap.push { cls:=.type "slice",data:=.fields #[.none,.none,.int (-1) uk] } }:=by
  subst ex
  cases r1
  obtain ⟨its,r,ht,hz⟩:=I4.list hq
  have hlen:=r.length
  refine ⟨"list",_,l8.lookup,ht.isList.typeIs,?_⟩
  refine l9 (st:=some (-1)) ht.isList (oA ..) .none .none (.int (-1) uk) (by simp) ?_ (by rw [bG] <;> lia)
  rw [zcn]
  refine ⟨.ref _,_,I4.laid (t':=s2.toks) (o:=.lst xs.reverse) (fun b ob q=>bh _ q) (bj _) ?_,rfl,q1 _ (I4.hok.fresh (bj _))⟩
  refine ⟨by rw [dj];exact hz,its.reverse,0,Jr r,?_⟩
  have:(its.toArray.reverse:Array Value)=its.reverse.toArray:=by simp
  rw [this]
  exact bz _ rfl
 obtain ⟨T,id,hT,ht,hg⟩:=g
 show wpAny (model X.prog X.w) X.A (subscriptTail e (.Slice none none (some st) p2) v (.ref s2.heap.objs.size)) (EP X pins σ Q) X.xe { s2 with heap:=s2.heap.push { cls:=.type "slice",data:=.fields #[.none,.none,.int (-1) uk] } }
 exact tail_any (ops:=[v,.ref s2.heap.objs.size]) ht hT hg (by with_unfolding_all rfl)
end
end L2
namespace L2
open PySem
section
variable {P:Program} {w:World} {A:Around} {E:Value→Shared→Prop} {s:Shared}
theorem zaO {it d:Addr} {i ep:Nat} {es:Array DictEntry} {e:DictEntry} {ok ov:Value} {Q:Option Value→Shared→Prop} (hit:ItA s.heap it d i es.size ep .none false ok ov) (hm:RawD s.heap d es ep) (hx:es[i]?=some e)
  (q:∀ h',IsItemIterOut h' it d (i + 1) es.size ep e.key e.val s.heap.objs.size→h'.get? s.heap.objs.size=some { cls:=.type "tuple",data:=.seq #[e.key,e.val] }→h'.objs.size=s.heap.objs.size + 1 →
   (∀ b o,b≠it→s.heap.get? b=some o→h'.get? b=some o)→Q (some (.ref s.heap.objs.size)) { s with heap:=h' }):wpAny (model P w) A (pyNext (.ref it)) Q E s:=by
 obtain ⟨hp,g,dr,tk,os⟩:=s;obtain ⟨od,hod,hcd,hdd⟩:=id hm
 have T:mJ ⟨hp,g,dr,tk,os⟩ (.ref it) "dict_itemiterator":=⟨_,hit,rfl⟩
 unfold pyNext;refine bb (iQ (dM (name:=bf "__next__") T cO (c9 cO T fH ?_ (fE _))))
 refine bb (bo ?_);refine bb ?_;refine bb ?_
 first | (refine bb (dh T (bo ?_))) | (refine bb (dH T (bo ?_)))
 refine bb (im hit rfl ?_);have own:du "dict_itemiterator"=true:=by decide
 simp only [own,if_true];show wpAny _ _ (if (bM d == cH)=true then _ else _) _ _ _
 rw [if_neg (show ¬ ((bM d == cH)=true) from bJ)];refine bb (bo ?_);refine bb (dW hod hdd ?_)
 rw [if_neg (by simp)];refine bb (bo ?_);refine bb (fC hod hdd ?_);rw [if_neg (by simp)];refine bo ?_
 simp only [show ¬ ((i:Int) < 0) from by lia,if_false,eI,hx];refine bb ?_
 first | (refine bb (dh T (bo ?_))) | (refine bb (dH T (bo ?_)))
 refine bb (dR T ?_);show wpAny _ _ (setField (.ref it) 3 (rawInt ((i:Int) + 1)) >>= _) _ _ ⟨hp,g,dr,tk,os⟩
 refine bb (df hit (by simp) fun h₁ e1 s1=>?_)
 replace s1:cZ it hp h₁:=s1
 replace e1:ItA h₁ it d (i + 1) es.size ep .none false ok ov:=by
  have z:((i + 1:Nat):Int)=(i:Int) + 1:=by lia
  unfold ItA;rw [z];simpa [rawInt] using e1
 have T1:mJ ⟨h₁,g,dr,tk,os⟩ (.ref it) "dict_itemiterator":=⟨_,e1,rfl⟩
 refine bb (dI ?_);refine bb (dR T1 ?_);refine bb (dR T1 ?_)
 show wpAny _ _ (dP (.ref it) 6 e.key e.val) _ _ ⟨h₁,g,dr,tk,os⟩
 unfold dP;refine bb (lU ?_)
 have e2:ItA (h₁.push { cls:=.type "tuple",data:=.seq #[e.key,e.val] }) it d (i + 1) es.size ep .none false ok ov:=bh _ e1
 generalize hg:h₁.push { cls:=.type "tuple",data:=.seq #[e.key,e.val] }=h₂ at e2
 have z1:h₁.objs.size=hp.objs.size:=s1.1;have il:it < hp.objs.size:=bF hit
 have t2:h₂.get? hp.objs.size=some { cls:=.type "tuple",data:=.seq #[e.key,e.val] }:=by rw [← hg,← z1];exact bz _ rfl
 have z2:h₂.objs.size=hp.objs.size + 1:=by rw [← hg,fT,z1]
 have k2:∀ b o,b≠it→hp.get? b=some o→h₂.get? b=some o:=fun b o hb z=>by rw [← hg];exact bh _ (s1.extBut b o hb z)
 show wpAny _ _ (dL (.ref it) >>= _) _ _ ⟨h₂,g,dr,tk,os⟩;rw [z1]
 clear hg e1 s1 T1 z1 h₁;refine bb ?_;unfold dL
 refine bb (gh e2 rfl (x:=.none) rfl (bo ?_));simp only [if_true]
 refine bb (gh e2 rfl (x:=ok) rfl ?_);refine bb (gh e2 rfl (x:=ov) rfl ?_)
 refine bb (df e2 (by simp) fun h₃ e3 s3=>?_);replace s3:cZ it h₂ h₃:=s3;replace e3:ItA h₃ it d (i + 1) es.size ep .none false e.key ov:=e3
 refine bb (df e3 (by simp) fun h₄ e4 s4=>?_);replace s4:cZ it h₃ h₄:=s4;replace e4:ItA h₄ it d (i + 1) es.size ep .none false e.key e.val:=e4
 refine bb (df e4 (by simp) fun h₅ e5 s5=>?_);replace s5:cZ it h₄ h₅:=s5;replace e5:ItA h₅ it d (i + 1) es.size ep (rawInt (hp.objs.size:Nat)) false e.key e.val:=e5
 refine bb (df e5 (by simp) fun h₆ e6 s6=>?_);replace s6:cZ it h₅ h₆:=s6;replace e6:ItA h₆ it d (i + 1) es.size ep (rawInt (hp.objs.size:Nat)) false e.key e.val:=e6
 have k6:∀ b o,b≠it→h₂.get? b=some o→h₆.get? b=some o:=fun b o hb z=>s6.extBut b o hb (s5.extBut b o hb (s4.extBut b o hb (s3.extBut b o hb z)))
 have t6:=k6 _ _ (eF il) t2
 refine bb (mK (bo (bo ⟨_,rfl,bo (q h₆ e6 t6 ?_ (fun b o hb z=>k6 b o hb (k2 b o hb z)))⟩)))
 show h₆.objs.size=hp.objs.size + 1;rw [s6.1,s5.1,s4.1,s3.1,z2]
theorem Y6:entryFor table "dict_itemiterator.__iter__"=some Builtin.«dict_keyiterator.__iter__» :=
 entryFor_alias (id':="dict_keyiterator.__iter__") (by kernel_rfl) rfl (by decide +kernel) (by kernel_rfl)
theorem KQ {it d:Addr} {i n ep:Nat} {ok ov:Value} {Q:Value→Shared→Prop} (hit:IsItemIter s.heap it d i n ep ok ov) (h:Q (.ref it) s):wpAny (model P w) A (pyIter (.ref it)) Q E s:=by
 have T:s.TypeIs (.ref it) "dict_itemiterator":=⟨_,hit,rfl⟩
 refine mm T iH (c9 iH T Y6 ?_ (F.args_dict_itemiterator_iter_1 _))
 show wpAny _ _ (ret (.ref it)) _ _ s
 exact bo ⟨_,rfl,"dict_itemiterator",_,T,cO.lookup,h⟩
end
end L2
namespace L2
open PySem PySem.Spec PyProof.Rows
def Itm (a:Addr) (o:Obj) (kvs:List (List Key × V)):It :=
 ⟨fun i H=>H a=some (.frz o (.dT kvs))∧i < kvs.length,fun i H x H'=>∃ T k v p,kvs[i]?=some (k,v)∧x=.ref T∧H T=none∧H p=some (.tup (k.map kV))∧H'=upd H T (.tup [.ref p,v]),fun i H=>H a=some (.frz o (.dT kvs))∧kvs.length≤i⟩
section
variable {X:Cx}
theorem Y7 {pins:List (Addr × Obj)} {σ:St} {H:Hp} {s:Shared} {a:Addr} {o:Obj} {kvs:List (List Key × V)} (I:Inv X pins σ H s) (ha:H a=some (.frz o (.dT kvs))) :
  (a == sysModules)=false∧∃ (es:Array DictEntry) (ep:Nat),o.data=.dict es ep∧RawD s.heap a es ep∧es.size=kvs.length∧∀ (i:Nat) (e:DictEntry),es[i]?=some e→∃ (k:List Key) (v:V) (p:Addr),kvs[i]?=some (k,v)∧e.key=bM p∧H p=some (.tup (k.map kV))∧RelV v e.val:=by
 obtain ⟨hg,hz,lo,xs,rel,o',es,ep,ho,hx,hd,he,hn⟩:=(show ObjOk X.prog X.w H s.heap a (.frz o (.dT kvs)) from I.hok a _ ha)
 rw [hg] at ho
 cases ho
 have lx:kvs.length=xs.length:=bH rel
 have les:es.size=xs.length:=by rw [← bW,he,bn]
 refine ⟨lo,es,ep,hd,⟨o,hg,hx,hd⟩,by lia,fun i e hi=>?_⟩
 have e2:es.toList[i]?=some e:=by rw [cX];exact hi
 rw [he,bC] at e2
 obtain ⟨x,hxx,ex⟩:=dq.mp e2
 have hl:=(bw.mp hxx).1
 have hk:kvs[i]?=some kvs[i]:=ba (by lia)
 have rl:=zX rel hk hxx
 refine ⟨kvs[i].1,kvs[i].2,x.2.1,hk,by rw [← ex];rfl,rl.2.1,by rw [← ex];exact rl.2.2⟩
theorem KR {P:Program} {w:World} {K:bD} {elts:List Expr} {x1} {pos:Pos} {a it:Addr} {o:Obj} {kvs:List (List Key × V)} {es:Array DictEntry} {ep:Nat} (hd:o.data=.dict es ep) :
  VV P w K (.Tuple elts x1 pos) (Itm a o kvs) [it] it (fun i h=>∃ ok ov,IsItemIter h it a i es.size ep ok ov) where
 mem:=by simp
 obj:=fun i h st b hb=>by
  have e:b=it:=by simpa using hb
  subst e
  obtain ⟨ok,ov,st⟩:=st
  exact ⟨_,st,fun v z=>by cases z⟩
 keep:=fun i h h' ⟨ok,ov,st⟩ k=>⟨ok,ov,k it (by simp) _ st⟩
 item:=by
  intro X hP hw hK hc i pins s σ H E I hf st hg
  subst hP hw hK
  obtain ⟨ha,hi⟩:=hg
  obtain ⟨lo,es',ep',hd',raw,hs,key⟩:=Y7 I ha
  rw [hd] at hd'
  cases hd'
  obtain ⟨ok,ov,st⟩:=st
  have hx:es[i]?=some es[i]:=cE (by lia)
  obtain ⟨k,v,p,hk,ek,hp,rv⟩:=key i _ hx
  refine zaO st raw hx fun h e8 t8 sz k8=>?_
  have I6:Inv X pins σ (upd H s.heap.objs.size (.tup [.ref p,v])) { s with heap:=s.heap.push { cls:=.type "tuple",data:=.seq #[es[i].key,es[i].val] } } :=
   I.laid (a:=s.heap.objs.size) (o:=.tup [.ref p,v]) (t':=s.toks) (fun b u e=>bh _ e) (bj _) ⟨by show 2≤sizeLine;decide,[es[i].key,es[i].val],.cons (by rw [ek];rfl) (.cons rv .nil),⟨_,bz _ rfl,rfl,_,rfl⟩⟩
  have old:∀ c∈[it],c≠s.heap.objs.size:=fun c hc=>by
   rw [b5.mp hc];exact bZ (bF st)
  have free:∀ c∈[it],upd H s.heap.objs.size (HO.tup [.ref p,v]) c=none:=fun c hc=>by rw [zk (old c hc)];exact (hf c hc).1
  have fz:∀ c∈[it],jP X pins (upd H s.heap.objs.size (HO.tup [.ref p,v])) c:=fun c hc=>⟨free c hc,(hf c hc).2⟩
  refine ⟨.ref s.heap.objs.size,rfl,wpAny_letOwnedTupleGo_items e8 fun h2 z9 sb2=>?_⟩
  have up:∀ c o,c≠it→h.get? c=some o→h2.get? c=some o:=fun c o hc e=>by
   rw [show h2.get? c=h.get? c from sb2.2 c hc];exact e
  have I7:Inv X pins σ (upd H s.heap.objs.size (.tup [.ref p,v])) { s with heap:=h2 }:=I6.turnedL (s:={ s with heap:=s.heap.push { cls:=.type "tuple",data:=.seq #[es[i].key,es[i].val] } }) (t':=s.toks) (ch:=[it]) (fun c o hc e=>by
   have hc:c≠it:=fun z=>hc (List.mem_singleton.mpr z)
   refine up c o hc ?_
   rcases iM (show (s.heap.push { cls:=.type "tuple",data:=.seq #[es[i].key,es[i].val] }).get? c=some o from e) with ⟨rfl,rfl⟩ | e
   ·exact t8
   ·exact k8 c o hc e) fun c hc=>fz c hc
  exact ⟨.ref s.heap.objs.size,_,I7,rfl,⟨_,k,v,p,hk,rfl,I.hok.fresh (bj _),hp,rfl⟩,⟨_,_,z9⟩,free⟩
 done:=by
  intro X hP hw hK hc i pins s σ H E I hf st hg
  subst hP hw hK
  obtain ⟨ha,hi⟩:=hg
  obtain ⟨lo,es',ep',hd',raw,hs,key⟩:=Y7 I ha
  rw [hd] at hd'
  cases hd'
  obtain ⟨ok,ov,st⟩:=st
  obtain ⟨f0,f1,f2,f3,f4,f5⟩:=hf it (by simp)
  exact QN (I.ok.hd hc) st raw (by lia) fun h' eb=>⟨rfl,I.turned (t':=s.toks) (fun b o hb e=>eb b o hb e) f0 f1 f3 f4 f5⟩
 self:=fun _ _ _ _ _ st h=>by
  obtain ⟨ok,ov,st⟩:=st
  exact KQ st h
def zfC (td:TE):TI:=fun σ H R=>td σ H fun x H1=>∃ a o kvs,x=.ref a∧H1 a=some (.frz o (.dT kvs))∧R (Itm a o kvs) H1
theorem zco {elts:List Expr} {x1} {tp:Pos} {o:Expr} {apos cpos:Pos} {td:TE} (ho:PE X o td) (hbase:attributeBase o "items" X.env (eval o X.env)=eval o X.env:=by rfl) (hline:(apos.endLine == cpos.line)=true:=by rfl):PI X (.Tuple elts x1 tp) (.Call (.Attribute o "items" apos) [] [] cpos) (zfC td):=by
 intro pins s σ H R I h
 refine gQ hbase hline (thn (ho pins s σ H _ I h) fun v s1 ⟨x,H1,I1,r1,d,ob,kvs,ex,hd,q1⟩=>?_)
 subst ex
 obtain rfl:v=bM d:=r1
 obtain ⟨lo,es,ep,hdd,raw,hs,key⟩:=Y7 I1 hd
 obtain ⟨t1,t2,t3⟩:=Kw I1 (.inr ⟨kvs,.inr ⟨ob,hd⟩⟩)
 refine ⟨"dict","dict.items",gR,fL,mL,t1,t2,eU rfl (iW ?_)⟩
 refine c9 fL t1 mq ?_ (lX _)
 unfold Builtin.«dict.items»;refine bb ?_;unfold om;refine bb (gf t1 ?_)
 show wpAny _ _ (pure d) _ _ s1;refine bo ?_
 show wpAny _ _ (dZ d >>= _) _ _ s1;unfold dZ
 rw [if_neg (by rw [t3];exact bJ)];refine bb (bo ?_)
 refine bb (dm (bo ⟨_,rfl,?_⟩))
 have at0:(s1.heap.push { cls:=.type "dict_items",data:=.fields #[.ref d] }).get? s1.heap.objs.size=some { cls:=.type "dict_items",data:=.fields #[.ref d] }:=bz _ rfl
 have I2:Inv X pins σ H1 { s1 with heap:=s1.heap.push { cls:=.type "dict_items",data:=.fields #[.ref d] } }:=I1.kept (t':=s1.toks) fun b u e=>bh _ e
 have raw2:RawD (s1.heap.push { cls:=.type "dict_items",data:=.fields #[.ref d] }) d es ep:=raw.at fun o e=>bh _ e
 refine Jh (s:={ s1 with heap:=s1.heap.push { cls:=.type "dict_items",data:=.fields #[.ref d] } }) ⟨_,at0,rfl,rfl⟩ raw2 ?_
 generalize hg:(s1.heap.push { cls:=.type "dict_items",data:=.fields #[.ref d] }:Heap)=h2 at *
 refine ⟨h2.objs.size,[h2.objs.size],_,_,H1,rfl,I2.kept (s:={ s1 with heap:=h2 }) (t':=s1.toks) fun b o e=>bh _ e,KR hdd,⟨.none,.none,bz _ rfl⟩,fun b hb=>?_,q1⟩
 have e:b=h2.objs.size:=by simpa using hb
 subst e
 exact I2.fpOk (bj _) (I2.hok.fresh (bj _))
end
end L2
namespace L2
open PySem PySem.Spec PySem.W PyProof.Rows
abbrev zcp (K:bD):RC:=fun vs H Q=>∃ r ns,vs=[.ref r]∧SqL K H r (b9 V.int ns)∧ns.length < 64 ∧
 ∀ (l:Addr) (srt:List Int),H l=none→srt.Perm ns→(ns.Nodup→srt.Pairwise (· < ·))→Q (.ref l) (upd H l (.lst (srt.map V.int)))
theorem zcq {qs:List Int} (hn:qs.Nodup):SO (fun i j=>decide (qs.getD i 0 < qs.getD j 0)) qs.length where
 irr:=fun i _=>decide_eq_false (by lia)
 trans:=fun i j k _ _ _ h1 h2=>by
  have h1:=of_decide_eq_true h1
  have h2:=of_decide_eq_true h2
  exact decide_eq_true (by lia)
 tot:=fun i j hi hj hij h=>by
  have ne:qs.getD i 0≠qs.getD j 0:=fun z=>hij (by
   rw [bg,bg,ba hi,ba hj] at z
   exact (fN hn).mp z)
  have h:=of_decide_eq_false h
  exact decide_eq_true (by lia)
section
variable {X:Cx}
theorem Vn (hc:X.calm=true) (hu:X.A.units + 3 < cLine):vq X (.builtin "sorted") (zcp X.K):=by
 intro pins s σ H vs us Q I r0 h
 obtain ⟨r,rs,rfl,hq,h64,q⟩:=h
 obtain ⟨u,rfl,ru⟩:=jM r0
 cases ru
 obtain ⟨vs,rv,⟨o,n,ho,oc,_,od⟩,hz⟩:=I.list hq
 have l2:=rv.length
 rw [bn] at l2
 have klen:vs.length=rs.length:=by lia
 have kat:∀ (i:Nat) (n:Int),rs[i]?=some n→∃ t,vs[i]?=some (.int n t):=fun i n hi=>by
  obtain ⟨u,hu',ru⟩:=rv.get (show (rs.map V.int)[i]?=some (V.int n) by rw [bC,hi];rfl)
  obtain ⟨t,e⟩:=ru
  exact ⟨t,by rw [hu',e]⟩
 have getI:∀ i,i < rs.length→∃ t,vs.getD i cH=.int (rs.getD i 0) t:=fun i hi=>by
  obtain ⟨t,ht⟩:=kat i rs[i] (ba hi)
  exact ⟨t,by rw [bg,ht,bg,ba hi];rfl⟩
 refine KG (vs:=vs) (κ:=oneType') (lt:=fun i j=>decide (rs.getD i 0 < rs.getD j 0)) (by lia) (fun R hR=>?_) (fun h2 h tk Q' kp q'=>?_) (fun h tk i j C kp hi hj hij q'=>?_) fun h tk h' p c k1 k2 hD hp hr=>?_
 ·refine wpAny_collect_seq r (.inl rfl) ho oc od (fun h' k=>?_) (by rw [bG];exact bU (by lia:_≤64) (by decide))
  have e:({ s with heap:=h' }:Shared)={ s with heap:=h',toks:=s.toks }:=rfl
  rw [e]
  exact hR h' s.toks k
 ·refine kas_kind (T:=.type "int") h2 (fun v hv=>?_) (by decide) (by decide) q'
  obtain ⟨i,hi⟩:=cV hv
  have hl:=(bw.mp hi).1
  obtain ⟨t,ht⟩:=kat i rs[i] (ba (by lia))
  rw [hi] at ht
  cases ht
  exact Looks.of_pure rfl
 ·rw [klen] at hi hj
  obtain ⟨t1,e1⟩:=getI i hi
  obtain ⟨t2,e2⟩:=getI j hj
  have key2:=kat_lt_int (prog:=X.prog) (w:=X.w) (A:=X.A.in1.in1) (E:=fun _ _=>False) (s:={ s with heap:=h,toks:=tk }) (t:=t1) (u:=t2) (Q:=C) q'
  rw [← e1,← e2] at key2
  exact key2
 ·have I1:Inv X pins σ H { s with heap:=h,toks:=tk }:=I.kept k1
  rw [klen] at hp hr
  have fr:H h.objs.size=none:=I1.hok.fresh (bj _)
  have sz:=hp.size
  have vk:Vals (p.toList.map fun i=>(rs.map V.int).getD i V.non) (yK vs p):=xB rv V.non cH (is:=p.toList) fun i hi=>by have:=hp.lt i hi;rw [bn];exact this
  have e3:(p.toList.map fun i=>(rs.map V.int).getD i V.non)=(p.toList.map fun i=>rs.getD i 0).map V.int:=by
   rw [ee]
   refine dJ fun i hi=>?_
   have:=hp.lt i hi
   rw [bg,bC,ba this]
   show V.int rs[i]=V.int (rs.getD i 0)
   rw [bg,ba this]
   rfl
  rw [e3] at vk
  have I2:Inv X pins σ (upd H h.objs.size (.lst ((p.toList.map fun i=>rs.getD i 0).map V.int))) { s with heap:=h',toks:=tk }:=I1.laid (s:={ s with heap:=h,toks:=tk }) (a:=h.objs.size) (o:=.lst ((p.toList.map fun i=>rs.getD i 0).map V.int)) (t':=tk) k2 (bj _)
   ⟨by rw [bn,bn,bW];exact bU (by lia:_≤1000) (by decide),_,c,vk,hD⟩
  refine ⟨.ref h.objs.size,_,I2,rfl,q _ _ fr ?_ fun nd=>?_⟩
  ·refine (hp.list.map _).trans ?_
   rw [qi]
  ·exact (qj (F:=fun a b:Int=>decide (a < b)) hp (hr (zcq nd))).imp fun h=>of_decide_eq_true h
end
theorem qX {α β:Type} {F:α→β→Prop}:∀ {a:List α} {b:List β},a.length=b.length→(∀ (i:Nat) (x:α) (y:β),a[i]?=some x→b[i]?=some y→F x y)→Paired F a b
 | [],[],_,_=>.nil
 | x :: a,y :: b,h,f=>.cons (f 0 x y rfl rfl) (qX (by simpa using h) fun i x' y' h1 h2=>f (i + 1) x' y' h1 h2)
 | [],_ :: _,h,_=>by simp at h
 | _ :: _,[],h,_=>by simp at h
theorem zd5 (n:Nat) (us:List Value) (hl:us.length=n) (h:∀ (i:Nat) (v:Value),us[i]?=some v→∃ t,v=.int (i:Nat) t):Vals ((bN n).map fun i=>V.int (i:Nat)) us:=by
 refine qX (by simp [hl]) fun i a b ha hb=>?_
 rw [bC] at ha
 obtain ⟨j,hj,rfl⟩:=dq.mp ha
 have:=bw.mp hj
 obtain ⟨lt,e⟩:=this
 rw [List.getElem_range] at e
 subst e
 obtain ⟨t,e⟩:=h _ _ hb
 exact ⟨t,e⟩
def Jt (ta:TA):TE:=fun σ H Q=>ta σ H fun vs H1=>∃ n:Nat,vs=[.int n]∧n≤1000∧∀ l,H1 l=none→Q (.ref l) (upd H1 l (.lst ((bN n).map fun i=>V.int (i:Nat))))
section
variable {X:Cx} {a:Expr} {ta:TA} {p p2 pos pos2:Pos}
theorem QR (hc:X.calm=true) (hg1:Gl X "list") (hm1:X.mg "list"=none) (hg2:Gl X "range") (hm2:X.mg "range"=none) (ha:PA X [a] ta) (hs:starEach [a] X.env=[(false,eval a X.env)]:=by rfl)
  (he:starEach [.Call (.Name "range" p2) [a] [] pos2] X.env=[(false,eval (.Call (.Name "range" p2) [a] [] pos2) X.env)]:=by rfl):PE X (.Call (.Name "list" p) [.Call (.Name "range" p2) [a] [] pos2] [] pos) (Jt ta):=by
 intro pins s σ H Q I h
 refine eX (wQ I hg1 hm1 xX ?_ (by decide) (by decide))
 refine cJ ?_ he rfl
 rw [he]
 show wpAny _ _ (spliced ((false,eval (.Call (.Name "range" p2) [a] [] pos2) X.env) :: backTo pos (starEach [] X.env))) _ _ s
 refine eh ?_
 refine Call_ (wQ I hg2 hm2 boot_range (cJ (thn (ha pos2 pins s σ H _ I h) fun us s1 ⟨vs,H1,I1,r1,q1⟩=>?_) hs rfl))
 obtain ⟨n,e,hn,q⟩:=q1
 subst e
 cases r1 with
 | cons r rr =>
  cases rr
  obtain ⟨t,rfl⟩:=r
  refine call_range_1 ?_
  refine gp ?_
  have e2:fI 0 (n:Int) 1=(n:Int):=by rw [rangeSize_one];split <;> lia
  refine call_list_range (I1.ok.hd hc) (pO ..) (small_one (by lia) (by lia) (by lia) (by lia)) e2 (bU hn (by decide)) fun h' tk acc c k hS it=>?_
  have sz:(s1.heap.push { cls:=.type "range",data:=.fields #[.int 0 s1.toks,.int (n:Int) t,.int 1 (s1.toks + 1)] }).objs.size=s1.heap.objs.size + 1:=fT ..
  rw [sz] at hS ⊢
  refine ⟨.ref (s1.heap.objs.size + 1),upd H1 (s1.heap.objs.size + 1) (.lst ((bN n).map fun i=>V.int (i:Nat))),?_,rfl,q _ (I1.hok.fresh (iV _))⟩
  refine I1.laid (a:=s1.heap.objs.size + 1) (o:=.lst ((bN n).map fun i=>V.int (i:Nat))) (t':=tk) (fun c o e=>k c o (bh _ e)) (iV _) ⟨by rw [bn,cR];exact bU hn (by decide),acc.toList,c,?_,by rw [nU];exact hS⟩
  have rv:=zd5 n acc.toList (by rw [bW];exact it.1) fun i v hv=>by
   obtain ⟨t,e⟩:=it.2 i v (by rw [← cX];exact hv)
   exact ⟨t,by rw [e];simp⟩
  exact rv
end
end L2
namespace L2
open PySem PySem.Spec PySem.W PyProof.Rows PySem.Calls
end L2
namespace L2
open PySem PySem.Spec PyProof.Rows
structure FG (K:bD) (mg:Str→Option Value) (x:Str) (st:Stmt) (ps:List Str) (a:Addr) (d:FuncData):Prop where
 f:Fun K x x st a d
 b:Binds K d ps []
 m:mg x=some (.ref a)
structure FM (K:bD) (C:Addr) (x qual:Str) (st:Stmt) (ps:List Str) (a:Addr) (d:FuncData):Prop where
 f:Fun K x qual st a d
 b:Binds K d ps []
 me:zap K C x a
abbrev QF (K:bD) (x qual:Str) (st:Stmt) (a:Addr):Prop:=∃ oc od sl kV dc pm an cd ct,K.lookup a=some ⟨oc,od,.func (lK x qual (y8 st) (yB st) (zj st) .none kV dc pm an cd ct),sl⟩∧lL K cd qual=true∧gG K (.ref a)=true
abbrev QG (K:bD) (x:Str) (st:Stmt):Prop:=∃ a,gU K mainGlobals x=some (some (.ref a))∧QF K x x st a
abbrev QM (K:bD) (C:Addr) (x qual:Str) (st:Stmt):Prop:=∃ a,dE K (.ref C) x=some (some (.ref a))∧re K (.ref a)=true∧QF K x qual st a
section
variable {K:bD} {h:Heap} {mg:Str→Option Value} {x qual:Str} {st:Stmt} {a C:Addr} {ps:List Str}
theorem QF.to (q:QF K x qual st a) (hb:∀ (kV doc pm:Value) (an:Option Addr) (cdv ct:Value) (us:List Value),us.length=ps.length→bindArgs (lK x qual (y8 st) (yB st) (zj st) .none kV doc pm an cdv ct) ⟨us,[]⟩=pure (ps.zip us)):∃ d,Fun K x qual st a d∧Binds K d ps []∧gG K (.ref a)=true:=by
 obtain ⟨oc,od,sl,kV,dc,pm,an,cd,ct,h1,h2,h3⟩:=q
 have F:=Ky (st:=st) h1 h2 h3
 exact ⟨_,F,F.binds hb,h3⟩
abbrev bA (x qual:Str) (st:Stmt) (us:List Value) (bs:List (Str × Value)):Prop:=∀ (kV doc pm:Value) (an:Option Addr) (cdv ct:Value),bindArgs (lK x qual (y8 st) (yB st) (zj st) .none kV doc pm an cdv ct) ⟨us,[]⟩=pure bs
theorem QG.to (X:K.In h) (G:h.Ns mainGlobals mg) (q:QG K x st) (hb:∀ us:List Value,us.length=ps.length→bA x x st us (ps.zip us)):∃ a d,FG K mg x st ps a d:=by
 obtain ⟨a,n,q⟩:=q
 obtain ⟨d,F,B,_⟩:=QF.to q fun _ _ _ _ _ _ us hl=>hb us hl _ _ _ _ _ _
 exact ⟨a,d,F,B,oR X G n⟩
theorem QM.to (q:QM K C x qual st) (hb:∀ us:List Value,us.length=ps.length→bA x qual st us (ps.zip us)):∃ a d,FM K C x qual st ps a d:=by
 obtain ⟨a,n,i,q⟩:=q
 obtain ⟨d,F,B,k⟩:=QF.to q fun _ _ _ _ _ _ us hl=>hb us hl _ _ _ _ _ _
 exact ⟨a,d,F,B,n,i,k⟩
theorem ar1 {P:List Value→Prop} (h:∀ a,P [a]):∀ us,us.length=1→P us
 | [a],_=>h a
theorem ar2 {P:List Value→Prop} (h:∀ a b,P [a,b]):∀ us,us.length=2→P us
 | [a,b],_=>h a b
theorem ar3 {P:List Value→Prop} (h:∀ a b c,P [a,b,c]):∀ us,us.length=3→P us
 | [a,b,c],_=>h a b c
theorem ar4 {P:List Value→Prop} (h:∀ a b c d,P [a,b,c,d]):∀ us,us.length=4→P us
 | [a,b,c,d],_=>h a b c d
theorem ar5 {P:List Value→Prop} (h:∀ a b c d e,P [a,b,c,d,e]):∀ us,us.length=5→P us
 | [a,b,c,d,e],_=>h a b c d e
variable (X:K.In h) (G:h.Ns mainGlobals mg) (u v w y z:Str)
include X G in
theorem QG.a1 (q:QG K x st) (hb:∀ a,bA x x st [a] [(u,a)]:=by exact fun _ _ _ _ _ _ _=>rfl):∃ a d,FG K mg x st [u] a d:=QG.to X G q (ar1 hb)
include X G in
theorem QG.a2 (q:QG K x st) (hb:∀ a b,bA x x st [a,b] [(u,a),(v,b)]:=by exact fun _ _ _ _ _ _ _ _=>rfl):∃ a d,FG K mg x st [u,v] a d:=QG.to X G q (ar2 hb)
include X G in
theorem QG.a3 (q:QG K x st) (hb:∀ a b c,bA x x st [a,b,c] [(u,a),(v,b),(w,c)]:=by exact fun _ _ _ _ _ _ _ _ _=>rfl):∃ a d,FG K mg x st [u,v,w] a d:=QG.to X G q (ar3 hb)
include X G in
theorem QG.a4 (q:QG K x st) (hb:∀ a b c d,bA x x st [a,b,c,d] [(u,a),(v,b),(w,c),(y,d)]:=by exact fun _ _ _ _ _ _ _ _ _ _=>rfl):∃ a d,FG K mg x st [u,v,w,y] a d:=QG.to X G q (ar4 hb)
include X G in
theorem QG.a5 (q:QG K x st) (hb:∀ a b c d e,bA x x st [a,b,c,d,e] [(u,a),(v,b),(w,c),(y,d),(z,e)]:=by exact fun _ _ _ _ _ _ _ _ _ _ _=>rfl):∃ a d,FG K mg x st [u,v,w,y,z] a d:=QG.to X G q (ar5 hb)
theorem QM.a1 (q:QM K C x qual st) (hb:∀ a,bA x qual st [a] [(u,a)]:=by exact fun _ _ _ _ _ _ _=>rfl):∃ a d,FM K C x qual st [u] a d:=QM.to q (ar1 hb)
theorem QM.a2 (q:QM K C x qual st) (hb:∀ a b,bA x qual st [a,b] [(u,a),(v,b)]:=by exact fun _ _ _ _ _ _ _ _=>rfl):∃ a d,FM K C x qual st [u,v] a d:=QM.to q (ar2 hb)
theorem QM.a3 (q:QM K C x qual st) (hb:∀ a b c,bA x qual st [a,b,c] [(u,a),(v,b),(w,c)]:=by exact fun _ _ _ _ _ _ _ _ _=>rfl):∃ a d,FM K C x qual st [u,v,w] a d:=QM.to q (ar3 hb)
end
abbrev QX (K:bD) (a:Addr):Prop:=∃ cl,dE K (.ref a) "__getattribute__"=some (some (.builtin "BaseException.__getattribute__"))∧dE K (.ref a) "__getattr__"=some none∧dE K (.ref a) "__class__"=some (some (.builtin "object.__class__"))∧pY K a (.type "object")=some true∧pY K a (.type "BaseException")=some true∧pQ K (.builtin "object.__class__") "__get__"=some (some (.builtin "getset_descriptor.__get__"))∧W.takesIn K (.builtin "object.__class__")=some true∧W.clsIn K a=some cl
theorem QX.to {K:bD} {a:Addr} (q:QX K a):ExK K a:=by
 obtain ⟨cl,h1,h2,h3,h4,h5,h6,h7,h8⟩:=q
 exact ⟨⟨h1,h2,h3,h4,h5,h6,h7⟩,by rw [h8];rfl⟩
section
variable {X:Cx} {CX:CXT} {j k:Nat} {a C:Addr} {d:FuncData} {ps:List Str} {sp:Sp} {x m qual:Str} {st:Stmt} {p pos apos:Pos} {o e:Expr} {es:List Expr} {ta:TE} {t:TA} {E:XK}
theorem pcG (F:FnOk X.prog X.w X.K X.mg X.base CX j a d ps sp) (G:FG X.K X.mg x st ps a d) (hr:Room k X.A) (hx:jf CX X E) (ha:PA X (e :: es) t) (hj:j≤k:=by decide) (hg:Gl X x:=by exact rfl) (hdb:(x == ("__debug__":Str))=false:=by decide) (he:starEach (e :: es) X.env=(false,eval e X.env) :: starEach es X.env:=by rfl) (hpl:(backTo pos (starEach es X.env)).any (·.1)=false:=by rfl) :
  PE X (.Call (.Name x p) (e :: es) [] pos) (zn sp [] E t):=Yt (F.mono hj) hr hg G.m G.f.kp G.b .nil hx ha hdb he hpl
end
end L2
namespace L2
open PySem PySem.Spec PyProof.Rows
section
variable {K:bD} {σ:St} {H:Hp} {Q:VK} {i:Nat} {k:Int} {p a C dx:Addr} {xs:List V} {u v:V} {x w f:Str} {fs:List (Str × V)} {te:TE} {A B:TS} {D:XQ}
theorem Y8 (h0:σ[i]?=some (some (.ref p))) (h1:H p=some (.tup xs)) (h2:atI xs k=some u) (q:Q u H):tOp (yx K) (zc i) (tC (.int k)) σ H Q:=⟨_,h0,p,xs,k,u,rfl,rfl,SqT.of h1,h2,q⟩
theorem j5 (h0:σ[i]?=some (some (.ref a))) (h1:H a=some (.ins C dx fs)) (c:Cls K C) (n:NoAttr K C f) (l:fs.lookup f=some v) (q:Q v H):yT K (zc i) f σ H Q:=⟨_,h0,a,C,dx,fs,v,rfl,h1,c,n,l,q⟩
theorem zgk (h:∀ Q:VK,Q (.str x) H→te σ H Q) (a:x=w→A D σ H) (b:x≠w→B D σ H):zS (zC (tOp rEq te (tC (.str w)))) A B D σ H:=by
 refine h _ ⟨rfl,_,rfl,?_⟩
 by_cases c:x=w
 ·show if _ then _ else _
  rw [if_pos (by rw [c];exact decide_eq_true rfl)];exact a c
 ·show if _ then _ else _
  rw [if_neg (by rw [decide_eq_true_eq];exact fun z=>c (V.str.inj z))];exact b c
theorem jo (h0:σ[i]?=some (some (.ref p))) (h1:H p=some (.tup xs)) (h2:atI xs k=some (.str x)) (a:x=w→A D σ H) (b:x≠w→B D σ H):zS (zC (tOp rEq (tOp (yx K) (zc i) (tC (.int k))) (tC (.str w)))) A B D σ H:=zgk (fun Q q=>Y8 h0 h1 h2 q) a b
theorem zcr {l:Addr} {xs:List V} (h0:σ[i]?=some (some (.ref l))) (h1:H l=some (.lst xs)) (q:Q (.int xs.length) H):tCB (yG K) (zb (zc i) zi) σ H Q:=by
 refine ⟨_,h0,.ref l,xs.length,rfl,?_,q⟩
 simp only [je]
 exact .inl ⟨_,SqL.of h1,rfl⟩
theorem zgl {n:Int} {P R:Prop} (a:n≠0→P) (b:n=0→R):if (!decide (V.int n=V.int 0))=true then P else R:=by
 by_cases c:n=0
 ·rw [if_neg (by rw [c];decide)];exact b c
 ·rw [if_pos (by rw [decide_eq_false (fun z=>c (V.int.inj z))];rfl)];exact a c
theorem zgm {n:Int} {P R:Prop} (a:n=0→P) (b:n≠0→R):if decide (V.int n=V.int 0)=true then P else R:=by
 by_cases c:n=0
 ·rw [if_pos (by rw [c];decide)];exact a c
 ·rw [if_neg (by rw [decide_eq_false (fun z=>c (V.int.inj z))];decide)];exact b c
end
end L2
namespace K56
open PySem L2
def top (i:Nat):Stmt:=PySem.Challenge.pw_forerun_k56_whole_a_round_at_once.main.body.getD i (.Pass ⟨0,0,0,0⟩)
abbrev j6:Stmt:=top 37
abbrev wM:Stmt:=top 38
abbrev xJ:Stmt:=top 39
abbrev vH:Stmt:=top 40
abbrev jp:Stmt:=top 44
abbrev jq:Stmt:=top 32
abbrev xQ:Stmt:=xW (top 29) 0
abbrev qk:Stmt:=xW (top 29) 1
abbrev j7:Stmt:=xW (top 29) 4
abbrev Zw:Stmt:=top 24
abbrev Zx:Stmt:=top 25
abbrev ql:Stmt:=top 21
abbrev Y9:Stmt:=top 26
abbrev qm:Stmt:=top 27
abbrev wW:Stmt:=xW (top 29) 5
abbrev wX:Stmt:=xW (top 29) 6
abbrev qo:Stmt:=xW (top 29) 2
abbrev j8:Stmt:=xW (top 29) 9
abbrev qp:Stmt:=xW (top 29) 8
abbrev jr:Stmt:=xW (top 29) 7
abbrev xR:Stmt:=xW (top 29) 3
abbrev Xa:Stmt:=top 18
abbrev zcs:Stmt:=top 30
abbrev js:Stmt:=top 17
abbrev Zy:Stmt:=top 19
abbrev jt:Stmt:=top 34
abbrev wN:Stmt:=top 1
abbrev KS:Stmt:=top 2
abbrev kK:Stmt:=top 3
abbrev j9:Stmt:=top 4
abbrev Xb:Stmt:=top 5
abbrev wY:Stmt:=top 36
abbrev vI:Stmt:=top 48
abbrev vJ:Stmt:=top 9
abbrev qq:Stmt:=top 8
abbrev Zz:Stmt:=top 10
abbrev ka:Stmt:=top 41
abbrev qt:Stmt:=top 42
abbrev kc:Stmt:=top 43
abbrev vA:Stmt:=top 45
abbrev wZ:Stmt:=top 47
abbrev ju:Stmt:=top 46
abbrev wr:Stmt:=top 49
abbrev Yx:Stmt:=top 33
abbrev Vo:Stmt:=top 6
abbrev Xc:Stmt:=top 50
theorem sc__law_draw:zA ["cell","j","far"] ["cell","j"] (zj j6):=⟨rfl,rfl,rfl,by decide +kernel,rfl,by decide +kernel,by decide +kernel⟩
theorem sc__law_names:zA ["cell","many","size","signs","stem","k","at","turn"] ["cell","many"] (zj wM):=⟨rfl,rfl,rfl,by decide +kernel,rfl,by decide +kernel,by decide +kernel⟩
theorem sc__law_shelves:zA ["cell","many","signs","stem","more","some","turn"] ["cell","many"] (zj xJ):=⟨rfl,rfl,rfl,by decide +kernel,rfl,by decide +kernel,by decide +kernel⟩
theorem Xd:zA ["cell","j"] ["cell","j"] (zj vH):=⟨rfl,rfl,rfl,by decide +kernel,rfl,by decide +kernel,by decide +kernel⟩
theorem sc__law_table:zA ["cell","shelves","wide","worths","k","worth"] ["cell","shelves","wide"] (zj jp):=⟨rfl,rfl,rfl,by decide +kernel,rfl,by decide +kernel,by decide +kernel⟩
theorem XW:zA ["order","many"] ["order","many"] (zj jq):=⟨rfl,rfl,rfl,by decide +kernel,rfl,by decide +kernel,by decide +kernel⟩
theorem Ju:zA ["self","code"] ["self","code"] (zj xQ):=⟨rfl,rfl,rfl,by decide +kernel,rfl,by decide +kernel,by decide +kernel⟩
theorem Jv:zA ["self"] ["self"] (zj qk):=⟨rfl,rfl,rfl,by decide +kernel,rfl,by decide +kernel,by decide +kernel⟩
theorem sc_Run_paper:zA ["self","notes"] ["self"] (zj j7):=⟨rfl,rfl,rfl,by decide +kernel,rfl,by decide +kernel,by decide +kernel⟩
theorem KU:zA ["word","first","second"] ["word","first","second"] (zj Zw):=⟨rfl,rfl,rfl,by decide +kernel,rfl,by decide +kernel,by decide +kernel⟩
theorem KW:zA ["word","first","second"] ["word","first","second"] (zj Zx):=⟨rfl,rfl,rfl,by decide +kernel,rfl,by decide +kernel,by decide +kernel⟩
theorem Jw:zA ["thing"] ["thing"] (zj ql):=⟨rfl,rfl,rfl,by decide +kernel,rfl,by decide +kernel,by decide +kernel⟩
theorem sc_joined:zA ["word","first","second","worth"] ["word","first","second"] (zj Y9):=⟨rfl,rfl,rfl,by decide +kernel,rfl,by decide +kernel,by decide +kernel⟩
theorem sc_reckoned:zA ["term","slots","worths","part","second","first"] ["term","slots"] (zj qm):=⟨rfl,rfl,rfl,by decide +kernel,rfl,by decide +kernel,by decide +kernel⟩
theorem Yb:zA ["self","term"] ["self","term"] (zj wW):=⟨rfl,rfl,rfl,by decide +kernel,rfl,by decide +kernel,by decide +kernel⟩
theorem Yc:zA ["self","due"] ["self","due"] (zj wX):=⟨rfl,rfl,rfl,by decide +kernel,rfl,by decide +kernel,by decide +kernel⟩
theorem sc_Run_asks:zA ["self","place"] ["self"] (zj qo):=⟨rfl,rfl,rfl,by decide +kernel,rfl,by decide +kernel,by decide +kernel⟩
theorem Vp:zA ["self","place","worth"] ["self","place","worth"] (zj j8):=⟨rfl,rfl,rfl,by decide +kernel,rfl,by decide +kernel,by decide +kernel⟩
theorem sc_Run_does:zA ["self","due","worth","place"] ["self","due","worth"] (zj qp):=⟨rfl,rfl,rfl,by decide +kernel,rfl,by decide +kernel,by decide +kernel⟩
theorem XX:zA ["self","due","worth"] ["self","due","worth"] (zj jr):=⟨rfl,rfl,rfl,by decide +kernel,rfl,by decide +kernel,by decide +kernel⟩
theorem Jx:zA ["self","worth"] ["self","worth"] (zj xR):=⟨rfl,rfl,rfl,by decide +kernel,rfl,by decide +kernel,by decide +kernel⟩
theorem zaP:zA ["table","place"] ["table","place"] (zj Xa):=⟨rfl,rfl,rfl,by decide +kernel,rfl,by decide +kernel,by decide +kernel⟩
theorem sc_fed:zA ["code","table","run","place"] ["code","table"] (zj zcs):=⟨rfl,rfl,rfl,by decide +kernel,rfl,by decide +kernel,by decide +kernel⟩
theorem sc_table_of:zA ["rows","worths"] ["rows"] (zj js):=⟨rfl,rfl,rfl,by decide +kernel,rfl,by decide +kernel,by decide +kernel⟩
theorem KY:zA ["table","gifts"] ["table","gifts"] (zj Zy):=⟨rfl,rfl,rfl,by decide +kernel,rfl,by decide +kernel,by decide +kernel⟩
theorem sc_in_order:zA ["codes","table","order","papers","behind","rank"] ["codes","table","order"] (zj jt):=⟨rfl,rfl,rfl,by decide +kernel,rfl,by decide +kernel,by decide +kernel⟩
theorem sc_gives_into:zA ["one","other","known"] ["one","other"] (zj wN):=⟨rfl,rfl,rfl,by decide +kernel,rfl,by decide +kernel,by decide +kernel⟩
theorem zd6:zA ["one","other"] ["one","other"] (zj KS):=⟨rfl,rfl,rfl,by decide +kernel,rfl,by decide +kernel,by decide +kernel⟩
theorem KZ:zA ["papers","ranks","rank"] ["papers","ranks","rank"] (zj kK):=⟨rfl,rfl,rfl,by decide +kernel,rfl,by decide +kernel,by decide +kernel⟩
theorem sc_round_for:zA ["papers","told","rank","at"] ["papers","told","rank"] (zj j9):=⟨rfl,rfl,rfl,by decide +kernel,rfl,by decide +kernel,by decide +kernel⟩
theorem sc_rounds:zA ["papers","told","rank","at"] ["papers"] (zj Xb):=⟨rfl,rfl,rfl,by decide +kernel,rfl,by decide +kernel,by decide +kernel⟩
theorem Yd:zA ["script","k"] ["script","k"] (zj wY):=⟨rfl,rfl,rfl,by decide +kernel,rfl,by decide +kernel,by decide +kernel⟩
theorem sc__law_turned:zA ["script","told","order","k","ranks","at"] ["script","told"] (zj vI):=⟨rfl,rfl,rfl,by decide +kernel,rfl,by decide +kernel,by decide +kernel⟩
theorem sc_block_steps:zA ["row","at","steps","to","others"] ["row","at"] (zj vJ):=⟨rfl,rfl,rfl,by decide +kernel,rfl,by decide +kernel,by decide +kernel⟩
theorem sc_steps_of:zA ["rows","first","steps","row"] ["rows","first"] (zj qq):=⟨rfl,rfl,rfl,by decide +kernel,rfl,by decide +kernel,by decide +kernel⟩
theorem K0:zA ["rows"] ["rows"] (zj Zz):=⟨rfl,rfl,rfl,by decide +kernel,rfl,by decide +kernel,by decide +kernel⟩
theorem sc__law_term:zA ["cell","j","slots","slot","kind","words"] ["cell","j","slots"] (zj ka):=⟨rfl,rfl,rfl,by decide +kernel,rfl,by decide +kernel,by decide +kernel⟩
theorem sc__law_row:zA ["cell","j","slots","shelves","wide","kind","shelf","slot","place"] ["cell","j","slots","shelves","wide"] (zj qt):=⟨rfl,rfl,rfl,by decide +kernel,rfl,by decide +kernel,by decide +kernel⟩
theorem sc__law_code:zA ["cells","slots","shelves","wide","rows","cell","row","others"] ["cells","slots","shelves","wide"] (zj kc):=⟨rfl,rfl,rfl,by decide +kernel,rfl,by decide +kernel,by decide +kernel⟩
theorem sc__law_laid:zA ["table","gifts","there","row"] ["table","gifts"] (zj vA):=⟨rfl,rfl,rfl,by decide +kernel,rfl,by decide +kernel,by decide +kernel⟩
theorem sc__law_at_once:zA ["codes","papers","table","told","now","ranks","rank"] ["codes","papers","table","told"] (zj wZ):=⟨rfl,rfl,rfl,by decide +kernel,rfl,by decide +kernel,by decide +kernel⟩
theorem sc__law_ranks:zA ["told","many","there","k","rank"] ["told","many"] (zj ju):=⟨rfl,rfl,rfl,by decide +kernel,rfl,by decide +kernel,by decide +kernel⟩
theorem sc__law_one_each:zA ["told","some","k"] ["told","some"] (zj wr):=⟨rfl,rfl,rfl,by decide +kernel,rfl,by decide +kernel,by decide +kernel⟩
theorem sc_keeps:zA ["papers","order","at","rank","higher"] ["papers","order"] (zj Yx):=⟨rfl,rfl,rfl,by decide +kernel,rfl,by decide +kernel,by decide +kernel⟩
theorem sc_chain:zA ["papers","told","linked","ranks"] ["papers"] (zj Vo):=⟨rfl,rfl,rfl,by decide +kernel,rfl,by decide +kernel,by decide +kernel⟩
theorem sc_law:zA ["script","slots","shelves","wide","table","many","cells","codes","papers","behind","told","order"] ["script"] (zj Xc):=⟨rfl,rfl,rfl,by decide +kernel,rfl,by decide +kernel,by decide +kernel⟩
set_option genSizeOf false in
set_option genInjectivity false in
structure Adr where
 a0:Addr
 d0:FuncData
 a1:Addr
 d1:FuncData
 a2:Addr
 d2:FuncData
 a3:Addr
 d3:FuncData
 a4:Addr
 d4:FuncData
 a5:Addr
 d5:FuncData
 a6:Addr
 d6:FuncData
 a7:Addr
 d7:FuncData
 a8:Addr
 d8:FuncData
 a9:Addr
 d9:FuncData
 a10:Addr
 d10:FuncData
 a11:Addr
 d11:FuncData
 a12:Addr
 d12:FuncData
 a13:Addr
 d13:FuncData
 a14:Addr
 d14:FuncData
 a15:Addr
 d15:FuncData
 a16:Addr
 d16:FuncData
 a17:Addr
 d17:FuncData
 a18:Addr
 d18:FuncData
 a19:Addr
 d19:FuncData
 a20:Addr
 d20:FuncData
 a21:Addr
 d21:FuncData
 a22:Addr
 d22:FuncData
 a23:Addr
 d23:FuncData
 a24:Addr
 d24:FuncData
 a25:Addr
 d25:FuncData
 a26:Addr
 d26:FuncData
 a27:Addr
 d27:FuncData
 a28:Addr
 d28:FuncData
 a29:Addr
 d29:FuncData
 a30:Addr
 d30:FuncData
 a31:Addr
 d31:FuncData
 a32:Addr
 d32:FuncData
 a33:Addr
 d33:FuncData
 a34:Addr
 d34:FuncData
 a35:Addr
 d35:FuncData
 a36:Addr
 d36:FuncData
 a37:Addr
 d37:FuncData
 a38:Addr
 d38:FuncData
 a39:Addr
 d39:FuncData
 a40:Addr
 d40:FuncData
 a41:Addr
 d41:FuncData
 a42:Addr
 d42:FuncData
 a43:Addr
 d43:FuncData
 a44:Addr
 d44:FuncData
 a45:Addr
 d45:FuncData
 c_JOINING:Addr
 c_Great:Addr
 c_NoOrder:Addr
 c_Nought:Addr
 c_Run:Addr
structure Txt (K:bD) (mg:Str→Option Value) (t:Adr):Prop where
 g0:FG K mg "_law_draw" j6 ["cell","j"] t.a0 t.d0
 g1:FG K mg "_law_names" wM ["cell","many"] t.a1 t.d1
 g2:FG K mg "_law_shelves" xJ ["cell","many"] t.a2 t.d2
 g3:FG K mg "_law_number" vH ["cell","j"] t.a3 t.d3
 g4:FG K mg "_law_table" jp ["cell","shelves","wide"] t.a4 t.d4
 g5:FG K mg "heed_order" jq ["order","many"] t.a5 t.d5
 f_Run_init:Fun K "__init__" "Run.__init__" xQ t.a6 t.d6
 b_Run_init:Binds K t.d6 ["self","code"] []
 g7:FM K t.c_Run "over" "Run.over" qk ["self"] t.a7 t.d7
 g8:FM K t.c_Run "paper" "Run.paper" j7 ["self"] t.a8 t.d8
 g9:FG K mg "divided" Zw ["word","first","second"] t.a9 t.d9
 g10:FG K mg "come_to" Zx ["word","first","second"] t.a10 t.d10
 g11:FG K mg "is_worth" ql ["thing"] t.a11 t.d11
 g12:FG K mg "joined" Y9 ["word","first","second"] t.a12 t.d12
 g13:FG K mg "reckoned" qm ["term","slots"] t.a13 t.d13
 g14:FM K t.c_Run "worth_of" "Run.worth_of" wW ["self","term"] t.a14 t.d14
 g15:FM K t.c_Run "place_in" "Run.place_in" wX ["self","due"] t.a15 t.d15
 g16:FM K t.c_Run "asks" "Run.asks" qo ["self"] t.a16 t.d16
 g17:FM K t.c_Run "taken" "Run.taken" j8 ["self","place","worth"] t.a17 t.d17
 g18:FM K t.c_Run "does" "Run.does" qp ["self","due","worth"] t.a18 t.d18
 g19:FM K t.c_Run "led_by" "Run.led_by" jr ["self","due","worth"] t.a19 t.d19
 f_Run_step:FunD K "step" "Run.step" xR t.a20 t.d20
 b_Run_step:Binds K t.d20 ["self","worth"] []
 me_Run_step:zap K t.c_Run "step" t.a20
 g21:FG K mg "stands" Xa ["table","place"] t.a21 t.d21
 g22:FG K mg "fed" zcs ["code","table"] t.a22 t.d22
 g23:FG K mg "table_of" js ["rows"] t.a23 t.d23
 g24:FG K mg "laid_on" Zy ["table","gifts"] t.a24 t.d24
 g25:FG K mg "in_order" jt ["codes","table","order"] t.a25 t.d25
 g26:FG K mg "gives_into" wN ["one","other"] t.a26 t.d26
 g27:FG K mg "meet" KS ["one","other"] t.a27 t.d27
 g28:FG K mg "meeting" kK ["papers","ranks","rank"] t.a28 t.d28
 g29:FG K mg "round_for" j9 ["papers","told","rank"] t.a29 t.d29
 g30:FG K mg "rounds" Xb ["papers"] t.a30 t.d30
 g31:FG K mg "_law_cell_at" wY ["script","k"] t.a31 t.d31
 g32:FG K mg "_law_turned" vI ["script","told"] t.a32 t.d32
 g33:FG K mg "block_steps" vJ ["row","at"] t.a33 t.d33
 g34:FG K mg "steps_of" qq ["rows","first"] t.a34 t.d34
 g35:FG K mg "code_of" Zz ["rows"] t.a35 t.d35
 g36:FG K mg "_law_term" ka ["cell","j","slots"] t.a36 t.d36
 g37:FG K mg "_law_row" qt ["cell","j","slots","shelves","wide"] t.a37 t.d37
 g38:FG K mg "_law_code" kc ["cells","slots","shelves","wide"] t.a38 t.d38
 g39:FG K mg "_law_laid" vA ["table","gifts"] t.a39 t.d39
 g40:FG K mg "_law_at_once" wZ ["codes","papers","table","told"] t.a40 t.d40
 g41:FG K mg "_law_ranks" ju ["told","many"] t.a41 t.d41
 g42:FG K mg "_law_one_each" wr ["told","some"] t.a42 t.d42
 g43:FG K mg "keeps" Yx ["papers","order"] t.a43 t.d43
 g44:FG K mg "chain" Vo ["papers"] t.a44 t.d44
 f_law:Fun K "law" "law" Xc t.a45 t.d45
 b_law:Binds K t.d45 ["script"] []
 m_law:mg "law"=some (.ref t.a45)
 w_law:∀ (s:Shared) (v:Value),BindsTo s t.d45 ⟨[v],[]⟩ [("script",v)]
 b_any:mg "any"=none
 b_bool:mg "bool"=none
 b_dict:mg "dict"=none
 b_enumerate:mg "enumerate"=none
 b_int:mg "int"=none
 b_isinstance:mg "isinstance"=none
 b_len:mg "len"=none
 b_list:mg "list"=none
 b_range:mg "range"=none
 b_reversed:mg "reversed"=none
 b_sorted:mg "sorted"=none
 b_str:mg "str"=none
 b_tuple:mg "tuple"=none
 g_JOINING:mg "JOINING"=some (.ref t.c_JOINING)
 v_JOINING:∀ H:Hp,SqT K H t.c_JOINING [.str "plus",.str "minus",.str "times",.str "over",.str "rest",.str "under",.str "same"]
 g_Great:mg "Great"=some (.ref t.c_Great)
 g_NoOrder:mg "NoOrder"=some (.ref t.c_NoOrder)
 g_Nought:mg "Nought"=some (.ref t.c_Nought)
 g_Run:mg "Run"=some (.ref t.c_Run)
 cl_Run:Cls K t.c_Run
 mk_Run:Mk K t.c_Run t.a6
 na_Run_at:NoAttr K t.c_Run "at"
 na_Run_code:NoAttr K t.c_Run "code"
 na_Run_gifts:NoAttr K t.c_Run "gifts"
 na_Run_notes:NoAttr K t.c_Run "notes"
 na_Run_sayings:NoAttr K t.c_Run "sayings"
 na_Run_slots:NoAttr K t.c_Run "slots"
 na_Run_why:NoAttr K t.c_Run "why"
 x_NoOrder:nA K t.c_NoOrder YS jY=true
 y_NoOrder:ExK K t.c_NoOrder
 e_NoOrder_Great:fW K (.ref t.c_NoOrder) (.ref t.c_Great)=some false
 e_NoOrder_Nought:fW K (.ref t.c_NoOrder) (.ref t.c_Nought)=some false
 m_NoOrder_Great_Nought:nR K (.ref t.c_NoOrder) [.ref t.c_Great,.ref t.c_Nought]=some false
 x_Nought:nA K t.c_Nought YS jY=true
 y_Nought:ExK K t.c_Nought
 e_Nought_Great:fW K (.ref t.c_Nought) (.ref t.c_Great)=some false
 e_Nought_Nought:fW K (.ref t.c_Nought) (.ref t.c_Nought)=some true
 m_Nought_Great_Nought:nR K (.ref t.c_Nought) [.ref t.c_Great,.ref t.c_Nought]=some true
 x_Great:nA K t.c_Great YS jY=true
 y_Great:ExK K t.c_Great
 e_Great_Great:fW K (.ref t.c_Great) (.ref t.c_Great)=some true
 e_Great_Nought:fW K (.ref t.c_Great) (.ref t.c_Nought)=some false
 m_Great_Great_Nought:nR K (.ref t.c_Great) [.ref t.c_Great,.ref t.c_Nought]=some true
theorem txt_mk {K:bD} {h:Heap} {mg:Str→Option Value} (X:K.In h) (G:h.Ns mainGlobals mg)
  {f6:Addr} {od6 an6:Option Addr} {sl6:Array (Option Value)} {oc6 kV6 dc6 pm6 cd6 ct6:Value}
  {f20:Addr} {od20 an20:Option Addr} {sl20:Array (Option Value)} {oc20 kV20 dc20 pm20 cd20 ct20:Value} {dA20:Addr} {dn20:Nat} {dt20_0:Tok}
  {f45:Addr} {od45 an45:Option Addr} {sl45:Array (Option Value)} {oc45 kV45 dc45 pm45 cd45 ct45:Value}
  {ga0:Addr} {gn0:Nat} {gt0_0:Tok} {gt0_1:Tok} {gt0_2:Tok} {gt0_3:Tok} {gt0_4:Tok} {gt0_5:Tok} {gt0_6:Tok}
  {ca0:Addr}
  {ca1:Addr}
  {ca2:Addr}
  {ca3:Addr}
  (h0:QG K "_law_draw" j6)
  (h1:QG K "_law_names" wM)
  (h2:QG K "_law_shelves" xJ)
  (h3:QG K "_law_number" vH)
  (h4:QG K "_law_table" jp)
  (h5:QG K "heed_order" jq)
  (qa6:dE K (.ref ca3) "__init__"=some (some (.ref f6))) (qi6:re K (.ref f6)=true) (ql6:K.lookup f6=some ⟨oc6,od6,.func (lK "__init__" "Run.__init__" (y8 xQ) (yB xQ) (zj xQ) .none kV6 dc6 pm6 an6 cd6 ct6),sl6⟩) (qc6:lL K cd6 "Run.__init__"=true) (qk6:gG K (.ref f6)=true)
  (h7:QM K ca3 "over" "Run.over" qk)
  (h8:QM K ca3 "paper" "Run.paper" j7)
  (h9:QG K "divided" Zw)
  (h10:QG K "come_to" Zx)
  (h11:QG K "is_worth" ql)
  (h12:QG K "joined" Y9)
  (h13:QG K "reckoned" qm)
  (h14:QM K ca3 "worth_of" "Run.worth_of" wW)
  (h15:QM K ca3 "place_in" "Run.place_in" wX)
  (h16:QM K ca3 "asks" "Run.asks" qo)
  (h17:QM K ca3 "taken" "Run.taken" j8)
  (h18:QM K ca3 "does" "Run.does" qp)
  (h19:QM K ca3 "led_by" "Run.led_by" jr)
  (qa20:dE K (.ref ca3) "step"=some (some (.ref f20))) (qi20:re K (.ref f20)=true) (ql20:K.lookup f20=some ⟨oc20,od20,.func (lK "step" "Run.step" (y8 xR) (yB xR) (zj xR) (.ref dA20) kV20 dc20 pm20 an20 cd20 ct20),sl20⟩) (qc20:lL K cd20 "Run.step"=true) (qk20:gG K (.ref f20)=true) (qd20:K.lookup dA20=some ⟨.type "tuple",none,.seq #[.int 0 dt20_0] dn20,#[]⟩)
  (h21:QG K "stands" Xa)
  (h22:QG K "fed" zcs)
  (h23:QG K "table_of" js)
  (h24:QG K "laid_on" Zy)
  (h25:QG K "in_order" jt)
  (h26:QG K "gives_into" wN)
  (h27:QG K "meet" KS)
  (h28:QG K "meeting" kK)
  (h29:QG K "round_for" j9)
  (h30:QG K "rounds" Xb)
  (h31:QG K "_law_cell_at" wY)
  (h32:QG K "_law_turned" vI)
  (h33:QG K "block_steps" vJ)
  (h34:QG K "steps_of" qq)
  (h35:QG K "code_of" Zz)
  (h36:QG K "_law_term" ka)
  (h37:QG K "_law_row" qt)
  (h38:QG K "_law_code" kc)
  (h39:QG K "_law_laid" vA)
  (h40:QG K "_law_at_once" wZ)
  (h41:QG K "_law_ranks" ju)
  (h42:QG K "_law_one_each" wr)
  (h43:QG K "keeps" Yx)
  (h44:QG K "chain" Vo)
  (qa45:gU K mainGlobals "law"=some (some (.ref f45))) (ql45:K.lookup f45=some ⟨oc45,od45,.func (lK "law" "law" (y8 Xc) (yB Xc) (zj Xc) .none kV45 dc45 pm45 an45 cd45 ct45),sl45⟩) (qc45:lL K cd45 "law"=true) (qk45:gG K (.ref f45)=true)
  (qz0:gU K mainGlobals "any"=some none)
  (qz1:gU K mainGlobals "bool"=some none)
  (qz2:gU K mainGlobals "dict"=some none)
  (qz3:gU K mainGlobals "enumerate"=some none)
  (qz4:gU K mainGlobals "int"=some none)
  (qz5:gU K mainGlobals "isinstance"=some none)
  (qz6:gU K mainGlobals "len"=some none)
  (qz7:gU K mainGlobals "list"=some none)
  (qz8:gU K mainGlobals "range"=some none)
  (qz9:gU K mainGlobals "reversed"=some none)
  (qz10:gU K mainGlobals "sorted"=some none)
  (qz11:gU K mainGlobals "str"=some none)
  (qz12:gU K mainGlobals "tuple"=some none)
  (qg0:gU K mainGlobals "JOINING"=some (some (.ref ga0))) (qh0:K.lookup ga0=some ⟨.type "tuple",none,.seq #[.str "plus" gt0_0,.str "minus" gt0_1,.str "times" gt0_2,.str "over" gt0_3,.str "rest" gt0_4,.str "under" gt0_5,.str "same" gt0_6] gn0,#[]⟩)
  (qv0:gU K mainGlobals "Great"=some (some (.ref ca0)))
  (qv1:gU K mainGlobals "NoOrder"=some (some (.ref ca1)))
  (qv2:gU K mainGlobals "Nought"=some (some (.ref ca2)))
  (qv3:gU K mainGlobals "Run"=some (some (.ref ca3)))
  (pg3:nN K ca3 gP=true) (pd3:n9 K ca3=true) (po3:pP K ca3=true) (pe3:dE K (.ref ca3) "__setattr__"=some (some (.builtin "object.__setattr__"))) (pm3_:W.makesIn K ca3=true) (pk3:gG K (.ref ca3)=true)
  (pn3_0:dE K (.ref ca3) "at"=some none)
  (pn3_1:dE K (.ref ca3) "code"=some none)
  (pn3_2:dE K (.ref ca3) "gifts"=some none)
  (pn3_3:dE K (.ref ca3) "notes"=some none)
  (pn3_4:dE K (.ref ca3) "sayings"=some none)
  (pn3_5:dE K (.ref ca3) "slots"=some none)
  (pn3_6:dE K (.ref ca3) "why"=some none)
  (rx0:nA K ca1 YS jY=true)
  (ry0:QX K ca1)
  (re0_0:fW K (.ref ca1) (.ref ca0)=some false)
  (re0_1:fW K (.ref ca1) (.ref ca2)=some false)
  (rm0_0:nR K (.ref ca1) [(.ref ca0),(.ref ca2)]=some false)
  (rx1:nA K ca2 YS jY=true)
  (ry1:QX K ca2)
  (re1_0:fW K (.ref ca2) (.ref ca0)=some false)
  (re1_1:fW K (.ref ca2) (.ref ca2)=some true)
  (rm1_0:nR K (.ref ca2) [(.ref ca0),(.ref ca2)]=some true)
  (rx2:nA K ca0 YS jY=true)
  (ry2:QX K ca0)
  (re2_0:fW K (.ref ca0) (.ref ca0)=some true)
  (re2_1:fW K (.ref ca0) (.ref ca2)=some false)
  (rm2_0:nR K (.ref ca0) [(.ref ca0),(.ref ca2)]=some true):∃ t,Txt K mg t:=by
 obtain ⟨f0,d0,F0⟩:=QG.a2 X G "cell" "j" h0
 obtain ⟨f1,d1,F1⟩:=QG.a2 X G "cell" "many" h1
 obtain ⟨f2,d2,F2⟩:=QG.a2 X G "cell" "many" h2
 obtain ⟨f3,d3,F3⟩:=QG.a2 X G "cell" "j" h3
 obtain ⟨f4,d4,F4⟩:=QG.a3 X G "cell" "shelves" "wide" h4
 obtain ⟨f5,d5,F5⟩:=QG.a2 X G "order" "many" h5
 have F6:=Ky (st:=xQ) ql6 qc6 qk6
 obtain ⟨f7,d7,F7⟩:=QM.a1 "self" h7
 obtain ⟨f8,d8,F8⟩:=QM.a1 "self" h8
 obtain ⟨f9,d9,F9⟩:=QG.a3 X G "word" "first" "second" h9
 obtain ⟨f10,d10,F10⟩:=QG.a3 X G "word" "first" "second" h10
 obtain ⟨f11,d11,F11⟩:=QG.a1 X G "thing" h11
 obtain ⟨f12,d12,F12⟩:=QG.a3 X G "word" "first" "second" h12
 obtain ⟨f13,d13,F13⟩:=QG.a2 X G "term" "slots" h13
 obtain ⟨f14,d14,F14⟩:=QM.a2 "self" "term" h14
 obtain ⟨f15,d15,F15⟩:=QM.a2 "self" "due" h15
 obtain ⟨f16,d16,F16⟩:=QM.a1 "self" h16
 obtain ⟨f17,d17,F17⟩:=QM.a3 "self" "place" "worth" h17
 obtain ⟨f18,d18,F18⟩:=QM.a3 "self" "due" "worth" h18
 obtain ⟨f19,d19,F19⟩:=QM.a3 "self" "due" "worth" h19
 have F20:=zdY (st:=xR) ql20 qc20 qk20
 obtain ⟨f21,d21,F21⟩:=QG.a2 X G "table" "place" h21
 obtain ⟨f22,d22,F22⟩:=QG.a2 X G "code" "table" h22
 obtain ⟨f23,d23,F23⟩:=QG.a1 X G "rows" h23
 obtain ⟨f24,d24,F24⟩:=QG.a2 X G "table" "gifts" h24
 obtain ⟨f25,d25,F25⟩:=QG.a3 X G "codes" "table" "order" h25
 obtain ⟨f26,d26,F26⟩:=QG.a2 X G "one" "other" h26
 obtain ⟨f27,d27,F27⟩:=QG.a2 X G "one" "other" h27
 obtain ⟨f28,d28,F28⟩:=QG.a3 X G "papers" "ranks" "rank" h28
 obtain ⟨f29,d29,F29⟩:=QG.a3 X G "papers" "told" "rank" h29
 obtain ⟨f30,d30,F30⟩:=QG.a1 X G "papers" h30
 obtain ⟨f31,d31,F31⟩:=QG.a2 X G "script" "k" h31
 obtain ⟨f32,d32,F32⟩:=QG.a2 X G "script" "told" h32
 obtain ⟨f33,d33,F33⟩:=QG.a2 X G "row" "at" h33
 obtain ⟨f34,d34,F34⟩:=QG.a2 X G "rows" "first" h34
 obtain ⟨f35,d35,F35⟩:=QG.a1 X G "rows" h35
 obtain ⟨f36,d36,F36⟩:=QG.a3 X G "cell" "j" "slots" h36
 obtain ⟨f37,d37,F37⟩:=QG.a5 X G "cell" "j" "slots" "shelves" "wide" h37
 obtain ⟨f38,d38,F38⟩:=QG.a4 X G "cells" "slots" "shelves" "wide" h38
 obtain ⟨f39,d39,F39⟩:=QG.a2 X G "table" "gifts" h39
 obtain ⟨f40,d40,F40⟩:=QG.a4 X G "codes" "papers" "table" "told" h40
 obtain ⟨f41,d41,F41⟩:=QG.a2 X G "told" "many" h41
 obtain ⟨f42,d42,F42⟩:=QG.a2 X G "told" "some" h42
 obtain ⟨f43,d43,F43⟩:=QG.a2 X G "papers" "order" h43
 obtain ⟨f44,d44,F44⟩:=QG.a1 X G "papers" h44
 have F45:=Ky (st:=Xc) ql45 qc45 qk45
 exact ⟨⟨f0,d0,f1,d1,f2,d2,f3,d3,f4,d4,f5,d5,f6,_,f7,d7,f8,d8,f9,d9,f10,d10,f11,d11,f12,d12,f13,d13,f14,d14,f15,d15,f16,d16,f17,d17,f18,d18,f19,d19,f20,_,f21,d21,f22,d22,f23,d23,f24,d24,f25,d25,f26,d26,f27,d27,f28,d28,f29,d29,f30,d30,f31,d31,f32,d32,f33,d33,f34,d34,f35,d35,f36,d36,f37,d37,f38,d38,f39,d39,f40,d40,f41,d41,f42,d42,f43,d43,f44,d44,f45,_,ga0,ca0,ca1,ca2,ca3⟩,⟨F0,
  F1,
  F2,
  F3,
  F4,
  F5,
  F6,F6.binds (ps:=["self","code"]) (fun _ _ _ _ _ _ us hl=>match us,hl with | [_,_],_=>rfl),
  F7,
  F8,
  F9,
  F10,
  F11,
  F12,
  F13,
  F14,
  F15,
  F16,
  F17,
  F18,
  F19,
  F20,(fun s us hK hl=>match us,(show us.length=2 by simpa using hl) with | [_,_],_=>.of_defaults (T:=dA20) rfl (hK _ _ qd20) rfl rfl rfl),⟨qa20,qi20,qk20⟩,
  F21,
  F22,
  F23,
  F24,
  F25,
  F26,
  F27,
  F28,
  F29,
  F30,
  F31,
  F32,
  F33,
  F34,
  F35,
  F36,
  F37,
  F38,
  F39,
  F40,
  F41,
  F42,
  F43,
  F44,
  F45,F45.binds (ps:=["script"]) (fun _ _ _ _ _ _ us hl=>match us,hl with | [_],_=>rfl),oR X G qa45,
  fun s v=>.of_eq rfl,
  dO X G qz0,
  dO X G qz1,
  dO X G qz2,
  dO X G qz3,
  dO X G qz4,
  dO X G qz5,
  dO X G qz6,
  dO X G qz7,
  dO X G qz8,
  dO X G qz9,
  dO X G qz10,
  dO X G qz11,
  dO X G qz12,
  oR X G qg0,fun _=>.inr ⟨_,_,_,qh0,rfl,rfl,(by show 7≤sizeLine;decide),(.cons ⟨_,rfl⟩ (.cons ⟨_,rfl⟩ (.cons ⟨_,rfl⟩ (.cons ⟨_,rfl⟩ (.cons ⟨_,rfl⟩ (.cons ⟨_,rfl⟩ (.cons ⟨_,rfl⟩ .nil)))))))⟩,
  oR X G qv0,
  oR X G qv1,
  oR X G qv2,
  oR X G qv3,
  ⟨pg3,pd3,po3,pe3⟩,
  ⟨pm3_,qa6,qi6,pk3⟩,
  pn3_0,
  pn3_1,
  pn3_2,
  pn3_3,
  pn3_4,
  pn3_5,
  pn3_6,
  rx0,
  ry0.to,
  re0_0,
  re0_1,
  rm0_0,
  rx1,
  ry1.to,
  re1_0,
  re1_1,
  rm1_0,
  rx2,
  ry2.to,
  re2_0,
  re2_1,
  rm2_0⟩⟩
structure KF (K:bD):Prop where
 i_b:lJ K (.type "int") (.type "bool")=some false
 i_s:lJ K (.type "int") (.type "str")=some false
 s_i:lJ K (.type "str") (.type "int")=some false
def fin (t:Adr) (r:Except Er Int) (Q:VK) (E:XK) (H:Hp):Prop:=match r with
 | .ok i=>Q (.int i) H
 | .error .nought=>E (.ref t.c_Nought) none H
 | .error .great=>E (.ref t.c_Great) none H
 | .error .stuck=>True
def Jy (t:Adr) (e:Er) (E:XK) (H:Hp):Prop:=match e with
 | .nought=>E (.ref t.c_Nought) none H
 | .great=>E (.ref t.c_Great) none H
 | .stuck=>True
def zd7 (K:bD):Prop:=lJ K (.type "int") (.type "bool")=some false
def NamesAt (H:Hp) (nm:Addr) (ws:List Str):Prop:=H nm=some (.lst (ws.map V.str))∧∀ w∈ws,yP w=true
def ke:Rw→Prop
 | .off _=>False
 | .iff _ _ _=>False
 | _=>True
def kg:Sp:=fun vs H Q _=>∃ i,vs=[.int i]∧∀ H',Same H H'→Q (.bl (inW i)) H'
def qu (t:Adr):Sp:=fun vs H Q E=>∃ w a b,vs=[.str w,.int a,.int b]∧w.length≤1000∧inW a=true∧inW b=true∧∀ H',Same H H'→if b=0 then E (.ref t.c_Nought) none H' else Q (.int (if w="over" then a.fdiv b else a.fmod b)) H'
def qv (t:Adr):Sp:=fun vs H Q E=>∃ w a b,vs=[.str w,.int a,.int b]∧w.length≤1000∧inW a=true∧inW b=true∧∀ H',Same H H'→if ZU w∧b=0 then E (.ref t.c_Nought) none H' else Q (.int (wT w a b)) H'
def ZA (t:Adr):Sp:=fun vs H Q E=>∃ w a b,vs=[.str w,.int a,.int b]∧w.length≤1000∧inW a=true∧inW b=true∧∀ H',Same H H'→fin t (wH w a b) Q E H'
def kh (t:Adr):Sp:=fun vs H Q E=>∃ kvs tm sl ps r,vs=[.ref tm,.ref sl]∧H tm=some (.tup ps)∧H sl=some (.dK kvs)∧Good kvs ps r∧(∀ v∈ps,jm v)∧ps.length≤1000∧yv kvs∧∀ H',Same H H'→fin t r Q E H'
inductive Cs where
 | row (r:Rw)
 | skip (e:List V) (to:Nat)
 | go (en:Nat)
def Rws.isNil:Rws→Bool
 | .nil=>true
 | .cons _ _=>false
def blk (e:List V) (k:Nat) (A:List Cs) (nl:Bool) (B:List Cs):List Cs :=
 if nl=true then .skip e (k + 1 + A.length) :: A else .skip e (k + 2 + A.length) :: (A ++ (.go (k + 2 + A.length + B.length) :: B))
mutual
def yn:Rw→Nat→List Cs
 | .iff e a b,k=>blk e k (zH a (k + 1)) (Rws.isNil b) (zH b (k + 2 + (zH a (k + 1)).length))
 | r,_=>[.row r]
def zH:Rws→Nat→List Cs
 | .nil,_=>[]
 | .cons r rs,k=>yn r k ++ zH rs (k + (yn r k).length)
end
def ZB:Rw→Prop
 | .iff _ _ _=>False
 | _=>True
def CsAt (H:Hp) (v:V):Cs→Prop
 | .row r=>RwAt XV H v r∧ZB r
 | .skip e to=>∃ p te,v=.ref p∧H p=some (.tup [.str "skip",.ref te,.int (to:Nat)])∧H te=some (.tup e)
 | .go en=>∃ p,v=.ref p∧H p=some (.tup [.str "go",.int (en:Nat)])
structure Ye (n:Nat) (r:Rws):Prop where
 dp:r.deep < n
 ct:r.cnt≤500
 pl:yR r
def ki (n:Nat):Sp:=fun vs H Q _=>∃ (v:V) (e:List V) (a b:Rws) (k:Nat),vs=[v,.int k]∧RwAt XV H v (.iff e a b)∧Ye n a∧Ye n b∧k + (yn (.iff e a b) k).length≤500∧∀ l xs H',Same H H'→H' l=some (.lst xs)→Paired (CsAt H') xs (yn (.iff e a b) k)→Q (.ref l) H'
def yY (n:Nat):Sp:=fun vs H Q _=>∃ (v:V) (r:Rws) (k:Nat),vs=[v,.int k]∧zdS XV H v r∧Ye n r∧k + (zH r k).length≤500∧∀ l xs H',Same H H'→H l=none→H' l=some (.lst xs)→Paired (CsAt H') xs (zH r k)→Q (.ref l) H'
def qw:Sp:=fun vs H Q _=>∃ (v:V) (r:Rws),vs=[v]∧zdS XV H v r∧Ye 6 r∧(zH r 0).length≤500∧∀ l xs H',Same H H'→H l=none→H' l=some (.lst xs)→Paired (CsAt H') xs (zH r 0)→Q (.ref l) H'
structure RSt where
 n:Nat
 why:Option Str
 sl:List (Key × V)
 gi:List Row
 no:List Row
 sa:List Int
structure RAd where
 dx:Addr
 co:Addr
 sl:Addr
 gi:Addr
 no:Addr
 sa:Addr
def zgn:Option Str→V
 | none=>.non
 | some w=>.str w
def zgo (a:RAd) (s:RSt):List (Str × V):=[(bf "code",.ref a.co),(bf "at",.int s.n),(bf "why",zgn s.why),(bf "slots",.ref a.sl),(bf "gifts",.ref a.gi),(bf "notes",.ref a.no),(bf "sayings",.ref a.sa)]
structure RnAt (t:Adr) (H:Hp) (x:Addr) (a:RAd) (C:List Cs) (s:RSt):Prop where
 ix:H x=some (.ins t.c_Run a.dx (zgo a s))
 hc:∃ xs,H a.co=some (.lst xs)∧Paired (CsAt H) xs C
 hs:H a.sl=some (.dK s.sl)
 hg:H a.gi=some (.dT (dOf s.gi))
 hn:H a.no=some (.dT (dOf s.no))
 ha:H a.sa=some (.lst (s.sa.map V.int))
 ng:a.gi≠a.no
 nc:a.co≠a.sa
def Ow (x:Addr) (a:RAd) (b:Addr):Prop:=b=x∨b=a.sl∨b=a.gi∨b=a.no∨b=a.sa
def OwA (x:Addr) (a:RAd) (b:Addr):Prop:=Ow x a b∨b=a.co
def Kp (x:Addr) (a:RAd) (H H':Hp):Prop:=∀ b o,¬ Ow x a b→H b=some o→H' b=some o
def ZY (x:Addr) (H H':Hp):Prop:=∀ b o,b≠x→H b=some o→H' b=some o
structure RnOk (m:Nat) (s:RSt):Prop where
 so:yv s.sl
 gw:∀ r∈s.gi,inW r.2=true
 nw:∀ r∈s.no,inW r.2=true
 l1:s.sl.length≤m
 l2:s.gi.length≤m
 l3:s.no.length≤m
 l4:s.sa.length≤m
 nd:(s.no.map (·.1)).Nodup
def Yf:Cs→Prop
 | .row r=>jR r
 | .skip e _=>TermOk e
 | .go _=>True
def yo (C:List Cs) (s:RSt):Bool:=s.why.isSome || decide (C.length≤s.n)
def yL (p:Pl) (w:Int) (s:RSt):RSt:=if (zy s.gi p).isSome=true∨(zy s.no p).isSome=true then s else { s with no:=s.no ++ [(p,w)] }
def w5 (p:Pl) (w:Int) (s:RSt):Int:=(zy s.gi p).getD ((zy s.no p).getD w)
def doR:Rw→Int→RSt→Except Er RSt
 | .take sh e x,w,s=>match rk s.sl e with
  | .error er=>.error er
  | .ok n=>.ok { yL (sh,n) w s with sl:=yD s.sl (.inr x) (.int (w5 (sh,n) w s)) }
 | .give sh e f,_,s=>match rk s.sl e with
  | .error er=>.error er
  | .ok n=>match rk s.sl f with
   | .error er=>.error er
   | .ok i=>.ok { s with gi:=s.gi ++ [((sh,n),i)] }
 | .lt x e,_,s=>match rk s.sl e with
  | .error er=>.error er
  | .ok i=>.ok { s with sl:=yD s.sl (.inr x) (.int i) }
 | .say e,_,s=>match rk s.sl e with
  | .error er=>.error er
  | .ok i=>.ok { s with sa:=s.sa ++ [i] }
 | _,_,s=>.ok s
def yk:Cs→Int→RSt→Except Er (Nat × RSt)
 | .go k,_,s=>.ok (k,s)
 | .skip e to,_,s=>match rk s.sl e with
  | .error er=>.error er
  | .ok i=>.ok (if i=0 then to else s.n + 1,s)
 | .row (.off e),_,s=>match rk s.sl e with
  | .error er=>.error er
  | .ok i=>.ok (s.n + 1,if i=0 then s else { s with why:=some (bf "told") })
 | .row r,w,s=>match doR r w s with
  | .error er=>.error er
  | .ok s'=>.ok (s.n + 1,s')
def zT (c:Cs) (w:Int) (s:RSt):RSt:=match yk c w s with
 | .ok (k,s')=>{ s' with n:=k }
 | .error er=>{ s with why:=some (Jn er) }
def xh (C:List Cs) (w:Int) (s:RSt):RSt:=if yo C s=true then s else match C[s.n]? with
 | none=>s
 | some c=>zT c w s
def wI (c:Cs) (s:RSt):Option Pl:=match c with
 | .row (.take sh e _)=>match rk s.sl e with
  | .error _=>none
  | .ok n=>if (zy s.gi (sh,n)).isSome=true∨(zy s.no (sh,n)).isSome=true then none else some (sh,n)
 | _=>none
def wJ (C:List Cs) (s:RSt):Option Pl:=if yo C s=true then none else (C[s.n]?).bind fun c=>wI c s
abbrev WB (H:Hp) (v:V) (q:Row):Prop:=PrAt H v q
abbrev xK (H:Hp) (vs:List V) (rows:List Row):Prop:=Paired (PrAt H) vs rows
def yh (H:Hp) (a:Addr) (rows:List Row):Prop:=∃ xs,H a=some (.lst xs)∧Paired (PrAt H) xs rows
def Vq (H:Hp) (v:V):Oc→Prop
 | .done sa=>∃ o y,v=.ref o∧H o=some (.tup [.str "done",.ref y])∧H y=some (.tup (sa.map V.int))
 | .off w=>∃ o,v=.ref o∧H o=some (.tup [.str "off",.str w])
def Jz (s:RSt):Oc:=match s.why with
 | some w=>.off w
 | none=>.done s.sa
def vj (s:RSt) (out:List Row):Prop:=match s.why with
 | some _=>out=[]
 | none=>Rising out∧∀ p w,(p,w)∈out↔zy s.gi p=some w
structure RnF (K:bD) (t:Adr):Prop where
 cl:Cls K t.c_Run
 n1:NoAttr K t.c_Run "code"
 n2:NoAttr K t.c_Run "at"
 n3:NoAttr K t.c_Run "why"
 n4:NoAttr K t.c_Run "slots"
 n5:NoAttr K t.c_Run "gifts"
 n6:NoAttr K t.c_Run "notes"
 n7:NoAttr K t.c_Run "sayings"
def st0:RSt:=⟨0,none,[],[],[],[]⟩
def ZZ (t:Adr):Sp:=fun vs H Q _=>∃ (x l dx:Addr) (xs:List V) (C:List Cs),vs=[.ref x,.ref l]∧H x=some (.ins t.c_Run dx [])∧H l=some (.lst xs)∧Paired (CsAt H) xs C∧∀ H' a,ZY x H H'→RnAt t H' x a C st0→(∀ b,OwA x a b→b=x∨H b=none)→Q .non H'
def yZ (t:Adr):Sp:=fun vs H Q _=>∃ (x:Addr) (a:RAd) (C:List Cs) (s:RSt),vs=[.ref x]∧RnAt t H x a C s∧∀ H',Same H H'→Q (.bl (yo C s)) H'
def z8 (t:Adr):Sp:=fun vs H Q E=>∃ (x tm:Addr) (e:List V) (a:RAd) (C:List Cs) (s:RSt),vs=[.ref x,.ref tm]∧RnAt t H x a C s∧yv s.sl∧H tm=some (.tup e)∧TermOk e∧∀ H',Same H H'→fin t (rk s.sl e) Q E H'
def yM (t:Adr):Sp:=fun vs H Q E=>∃ (x p:Addr) (xs:List V) (sh:Str) (te:Addr) (e:List V) (a:RAd) (C:List Cs) (s:RSt),vs=[.ref x,.ref p]∧RnAt t H x a C s∧yv s.sl∧H p=some (.tup xs)∧atI xs 1=some (.str sh)∧atI xs 2=some (.ref te)∧H te=some (.tup e)∧TermOk e ∧
 (∀ i q H',rk s.sl e=.ok i→Same H H'→H' q=some (.tup [.str sh,.int i])→Q (.ref q) H')∧∀ er H',rk s.sl e=.error er→Same H H'→Jy t er E H'
def qY (t:Adr):Sp:=fun vs H Q _=>∃ (x q:Addr) (p:Pl) (w:Int) (a:RAd) (C:List Cs) (s:RSt),vs=[.ref x,.ref q,.int w]∧RnAt t H x a C s∧H q=some (.tup [.str p.1,.int p.2])∧s.no.length≤900∧∀ H',Kp x a H H'→RnAt t H' x a C (yL p w s)→Q (.int (w5 p w s)) H'
def Z0 (t:Adr):Sp:=fun vs H Q E=>∃ (x:Addr) (v:V) (r:Rw) (w:Int) (m:Nat) (a:RAd) (C:List Cs) (s:RSt),vs=[.ref x,v,.int w]∧RnAt t H x a C s∧RwAt XV H v r∧ke r∧jR r∧RnOk m s∧m≤900 ∧
 (∀ H' s',doR r w s=.ok s'→Kp x a H H'→RnAt t H' x a C s'→Q .non H')∧∀ H' er,doR r w s=.error er→Same H H'→Jy t er E H'
def vK (t:Adr):Sp:=fun vs H Q E=>∃ (x:Addr) (v:V) (c:Cs) (w:Int) (m:Nat) (a:RAd) (C:List Cs) (s:RSt),vs=[.ref x,v,.int w]∧RnAt t H x a C s∧CsAt H v c∧Yf c∧RnOk m s∧m≤900 ∧
 (∀ H' s' k,yk c w s=.ok (k,s')→Kp x a H H'→RnAt t H' x a C s'→Q (.int (k:Nat)) H')∧∀ H' er,yk c w s=.error er→Same H H'→Jy t er E H'
def Z1 (t:Adr):Sp:=fun vs H Q _=>∃ (x:Addr) (w:Int) (m:Nat) (a:RAd) (C:List Cs) (s:RSt),vs=[.ref x,.int w]∧RnAt t H x a C s∧(∀ c∈C,Yf c)∧RnOk m s∧m≤900∧∀ H',Kp x a H H'→RnAt t H' x a C (xh C w s)→Q .non H'
def Z2 (t:Adr):Sp:=fun vs H Q _=>∃ (x:Addr) (a:RAd) (C:List Cs) (s:RSt),vs=[.ref x]∧RnAt t H x a C s∧(∀ c∈C,Yf c)∧yv s.sl∧(∀ H',wJ C s=none→Same H H'→Q .non H')∧∀ p q H',wJ C s=some p→Same H H'→H' q=some (.tup [.str p.1,.int p.2])→Q (.ref q) H'
def qZ (t:Adr):Sp:=fun vs H Q _=>∃ (x:Addr) (a:RAd) (C:List Cs) (s:RSt),vs=[.ref x]∧RnAt t H x a C s∧s.no.length≤900∧(s.no.map (·.1)).Nodup∧s.gi.length≤63∧(∀ H',yo C s=false→Same H H'→Q .non H') ∧
 ∀ r o nl gl out H',yo C s=true→Same H H'→H nl=none→H gl=none→nl≠gl→H' r=some (.tup [o,.ref nl,.ref gl])→Vq H' o (Jz s)→yh H' nl s.no→yh H' gl out→vj s out→Q (.ref r) H'
def z0 (K:bD):Sp:=fun vs H Q _=>∃ (a:Addr) (ns:List Int) (k:Nat),vs=[.ref a,.int k]∧SqL K H a (ns.map V.int)∧ns.length≤63∧∀ c H',Same H H'→Q (.int c) H'
def zm:Sp:=fun vs H Q _=>∃ c j,vs=[.int c,.int j]∧0≤j∧j≤1000∧∀ r H',0≤r→r < 2147483648→Same H H'→Q (.int r) H'
def xm:Sp:=fun vs H Q _=>∃ c m,vs=[.int c,.int m]∧0≤m∧m≤6∧∀ nm ws H',Same H H'→NamesAt H' nm ws→(ws.length:Int)=m→Q (.ref nm) H'
def yg:Sp:=fun vs H Q _=>∃ c j,vs=[.int c,.int j]∧0≤j∧j≤900∧∀ w H',inW w=true→Same H H'→Q (.int w) H'
def lfV (v:V):Prop:=(∃ i,v=.int i∧inW i=true)∨∃ x,v=.str x∧yP x=true
def wdJ (w:Str):Prop:=isJ (.str w)=true∧w.length≤1000∧cf w=true
def yH:Sp:=fun vs H Q _=>∃ c j a ws,vs=[.int c,.int j,.ref a]∧0≤j∧j≤700∧NamesAt H a ws∧ws.length=3∧∀ p e H',Same H H'→H p=none→H' p=some (.tup e)→TermOk e→tmP e→Q (.ref p) H'
mutual
def szR:Rw→Nat
 | .iff _ a b=>vm a + vm b + 2
 | _=>1
def vm:Rws→Nat
 | .nil=>0
 | .cons r rs=>szR r + vm rs
end
def zd8:Cs→Prop
 | .row r=>Y4 r
 | _=>True
structure Xe (C:List Cs):Prop where
 ok:∀ c∈C,Yf c
 pl:∀ c∈C,zd8 c
 fw:∀ (i to:Nat) (e:List V),C[i]?=some (Cs.skip e to)→i < to
 fg:∀ (i to:Nat),C[i]?=some (Cs.go to)→i < to
 le:C.length≤40
structure RnI (C:List Cs) (m:Nat) (s:RSt):Prop where
 ok:RnOk m s
 ng:∀ r∈s.gi,cf r.1.1=true
 nn:∀ r∈s.no,cf r.1.1=true
 at_:s.why=none→m≤s.n
 wy:∀ w,s.why=some w→cf w=true
def kj:Sp:=fun vs H Q _=>∃ a rows,vs=[.ref a]∧yh H a rows∧(dOf rows).length≤63∧rows.length≤1000∧∀ l out H',Same H H'→H l=none→yh H' l out→xA rows out→Q (.ref l) H'
def WC:Sp:=fun vs H Q _=>∃ (l q:Addr) (rows:List Row) (p:Pl),vs=[.ref l,.ref q]∧yh H l rows∧rows.length≤500∧H q=some (.tup [.str p.1,.int p.2])∧∀ H',Same H H'→Q (.int ((zy rows p).getD 0)) H'
def vn (rows:List Row) (p:Pl):Int:=(zy rows p).getD 0
def q8 (C:List Cs) (tb:Pl→Int) (s:RSt):Int:=match wJ C s with
 | none=>0
 | some p=>tb p
def xC (C:List Cs) (tb:Pl→Int) (s:RSt):RSt:=xh C (q8 C tb s) s
def jv (C:List Cs) (tb:Pl→Int):Nat→RSt→RSt
 | 0,s=>s
 | k + 1,s=>jv C tb k (xC C tb s)
def Rch (C:List Cs) (tb:Pl→Int) (s s':RSt):Prop:=∃ k,jv C tb k s=s'
structure FedR (C:List Cs) (rows:List Row) (s:RSt):Prop where
 ov:yo C s=true
 rc:Rch C (vn rows) st0 s
 ri:∃ m,m≤C.length∧RnI C m s
 fw:s.gi.length + s.no.length≤C.length
def PpAt (H0 H:Hp) (r:Addr) (s:RSt):Prop:=∃ o nl gl out,H r=some (.tup [o,.ref nl,.ref gl])∧Vq H o (Jz s)∧yh H nl s.no∧yh H gl out∧vj s out∧H0 nl=none∧H0 gl=none
def Xf (t:Adr):Sp:=fun vs H Q _=>∃ (l tl:Addr) (xs:List V) (C:List Cs) (rows:List Row),vs=[.ref l,.ref tl]∧H l=some (.lst xs)∧Paired (CsAt H) xs C∧Xe C∧yh H tl rows∧rows.length≤500∧(∀ r∈rows,inW r.2=true)∧∀ r s H',Same H H'→FedR C rows s→PpAt H H' r s→Q (.ref r) H'
def zN (n:Nat):V:=.int n
structure Pp where
 oc:Oc
 no:List Row
 gi:List Row
def PpV (H:Hp) (v:V) (p:Pp):Prop:=∃ r o nl gl,v=.ref r∧H r=some (.tup [o,.ref nl,.ref gl])∧Vq H o p.oc∧yh H nl p.no∧yh H gl p.gi
structure kO (p:Pp):Prop where
 ln:p.no.length≤40
 lg:p.gi.length≤40
 sn:∀ r∈p.no,cf r.1.1=true
 sg:∀ r∈p.gi,cf r.1.1=true
 so:∀ w,p.oc=.off w→cf w=true
structure PpsAt (H:Hp) (a:Addr) (P:List Pp):Prop where
 at_:∃ xs,H a=some (.lst xs)∧Paired (PpV H) xs P
 ok:∀ p∈P,kO p
 le:P.length≤63
def pIn (p:Pl) (l:List Row):Bool:=l.any fun r=>decide (r.1=p)
def JA (a b:Pp):Bool:=a.gi.any fun r=>pIn r.1 (b.no ++ b.gi)
def zct (a b:Pp):Bool:=JA a b || JA b a
def pAt (P:List Pp) (i:Nat):Pp:=P.getD i ⟨.done [],[],[]⟩
def mtB (P:List Pp) (i j:Nat):Bool:=zct (pAt P i) (pAt P j)
structure RsAt (H:Hp) (a:Addr) (ls:List Addr) (T:List (List Nat)):Prop where
 at_:H a=some (.lst (ls.map V.ref))
 each:Paired (fun (l:Addr) (rs:List Nat)=>H l=some (.lst (rs.map zN))) ls T
 nd:ls.Nodup
 na:a ∉ ls
def rfA (P:List Pp) (T:List (List Nat)) (k:Nat):Nat→Nat
 | 0=>0
 | m + 1=>if (T.getD m []).any (fun j=>mtB P j k)=true then m + 1 else rfA P T k m
def zaQ (T:List (List Nat)) (m k:Nat):List (List Nat):=if m=T.length then T ++ [[k]] else T.set m (T.getD m [] ++ [k])
def zr (P:List Pp):Nat→List (List Nat)
 | 0=>[]
 | k + 1=>zaQ (zr P k) (rfA P (zr P k) k (zr P k).length) k
def nO (P:List Pp) (k:Nat):Nat:=rfA P (zr P k) k (zr P k).length
def chB (P:List Pp):List (List Nat)→Nat→List Nat
 | [],x=>[x]
 | r :: rs,x=>x :: chB P rs ((r.filter fun j=>mtB P j x).headD 0)
def chn (P:List Pp):List Nat:=if zr P P.length=[] then [] else (chB P (zr P P.length).dropLast.reverse (((zr P P.length).getLastD []).headD 0)).reverse
structure UOk (U:List Pl):Prop where
 le:U.length≤63
 nm:∀ p∈U,cf p.1=true
structure TabI (U:List Pl) (tab:List Row):Prop where
 ri:Rising tab
 ps:∀ r∈tab,r.1∈U∧inW r.2=true∧r.2≠0
def PN (us:List Str) (wd:Int) (p:Pl):Prop:=p.1∈us∧0≤p.2∧p.2 < wd
structure zcu (us:List Str) (wd:Int) (tab:List Row):Prop where
 ri:Rising tab
 ps:∀ r∈tab,PN us wd r.1∧inW r.2=true∧r.2≠0
 le:tab.length≤8
def wu:Sp:=fun vs H Q _=>∃ c,vs=[.int c,.int 2]∧∀ nm ws H',Same H H'→NamesAt H' nm ws→ws.length=2→Q (.ref nm) H'
def vL:Sp:=fun vs H Q _=>∃ c b wd us,vs=[.int c,.ref b,.int wd]∧NamesAt H b us∧us.length=2∧2≤wd∧wd≤12∧∀ l tab H',Same H H'→H l=none→yh H' l tab→zcu us wd tab→Q (.ref l) H'
def Gv (us:List Str) (wd:Int):Rw→Prop
 | .give sh e _=>sh∈us∧((∃ n,e=[.int n]∧0≤n∧n < wd)∨∃ x,e=[.str x])
 | _=>True
structure rwW (us:List Str) (wd:Int) (r:Rw):Prop where
 nf:ZB r
 pl:Y4 r
 ok:jR r
 gv:Gv us wd r
def vB:Sp:=fun vs H Q _=>∃ c j a b wd ws us,vs=[.int c,.int j,.ref a,.ref b,.int wd]∧0≤j∧j≤200∧NamesAt H a ws∧ws.length=3∧NamesAt H b us∧us.length=2∧2≤wd∧wd≤12∧∀ v r H',Same H H'→RwAt (fun b=>H b=none) H' v r→rwW us wd r→Q v H'
structure q9 (us:List Str) (wd:Int) (C:List Cs) (k u:Nat) (f:Nat→Nat):Prop where
 z:f k≤u
 rw_:∀ i r,C[i]?=some (.row r)→f (k + i + 1) + 1≤f (k + i)∧Gv us wd r
 sk:∀ i e to,C[i]?=some (.skip e to)→k + i < to∧f to≤f (k + i)∧f (k + i + 1)≤f (k + i)
 go:∀ i to,C[i]?=some (.go to)→k + i < to∧f to≤f (k + i)
def jx:Sp:=fun vs H Q _=>∃ (cl a b:Addr) (wd:Int) (ns:List Int) (ws us:List Str),vs=[.ref cl,.ref a,.ref b,.int wd]∧H cl=some (.lst (ns.map V.int))∧ns.length≤8∧NamesAt H a ws∧ws.length=3∧NamesAt H b us∧us.length=2∧2≤wd∧wd≤12∧∀ l xs C f H',Same H H'→H l=none→H' l=some (.lst xs)→Paired (CsAt H') xs C→Xe C→q9 us wd C 0 ns.length f→Q (.ref l) H'
def zgp (H:Hp) (v:V) (C:List Cs):Prop:=∃ a ys,v=.ref a∧H a=some (.lst ys)∧Paired (CsAt H) ys C
structure CosAt (H:Hp) (l:Addr) (CC:List (List Cs)):Prop where
 at_:∃ xs,H l=some (.lst xs)∧Paired (zgp H) xs CC
 ok:∀ C∈CC,Xe C
 le:CC.length≤63
def zgq (us:List Str) (wd:Int) (CC:List (List Cs)) (zs:List Nat):Prop:=Paired (fun C u=>∃ f,q9 us wd C 0 u f) CC zs∧zs.sum≤63
def x8:Sp:=fun vs H Q _=>∃ (v u:V) (a b:Pp),vs=[v,u]∧PpV H v a∧PpV H u b∧kO a∧kO b∧∀ H',Same H H'→Q (.bl (JA a b)) H'
def Vr:Sp:=fun vs H Q _=>∃ (v u:V) (a b:Pp),vs=[v,u]∧PpV H v a∧PpV H u b∧kO a∧kO b∧∀ H',Same H H'→Q (.bl (zct a b)) H'
def xv:Sp:=fun vs H Q _=>∃ (p l:Addr) (k:Nat) (P:List Pp) (rs:List Nat),vs=[.ref p,.ref l,.int k]∧PpsAt H p P∧H l=some (.lst (rs.map zN))∧rs.length≤63∧(∀ j∈rs,j < P.length)∧k < P.length∧∀ q H',Same H H'→H q=none→H' q=some (.lst ((rs.filter fun j=>mtB P j k).map zN))→Q (.ref q) H'
def jz:Sp:=fun vs H Q _=>∃ (p a:Addr) (k:Nat) (P:List Pp) (ls:List Addr) (T:List (List Nat)),vs=[.ref p,.ref a,.int k]∧PpsAt H p P∧RsAt H a ls T∧(∀ rs∈T,rs.length≤63∧∀ j∈rs,j < P.length)∧T.length≤63∧k < P.length∧∀ H',Same H H'→Q (.int (rfA P T k T.length:Nat)) H'
def v6:Sp:=fun vs H Q _=>∃ (p:Addr) (P:List Pp),vs=[.ref p]∧PpsAt H p P∧∀ a ls H',Same H H'→H a=none→(∀ l∈ls,H l=none)→RsAt H' a ls (zr P P.length)→Q (.ref a) H'
def Xg:Sp:=fun vs H Q _=>∃ (p:Addr) (P:List Pp),vs=[.ref p]∧PpsAt H p P∧∀ a H',Same H H'→H a=none→H' a=some (.lst ((chn P).map zN))→Q (.ref a) H'
def zcv (P:List Pp) (os:List Nat) (k:Nat):Bool:=(os.take k).any fun j=>decide (os.getD k 0 < j) && mtB P j (os.getD k 0)
def xn:Sp:=fun vs H Q _=>∃ (l:Addr) (n:Nat) (os:List Nat),vs=[.ref l,.int n]∧H l=some (.lst (os.map zN))∧n≤63∧os.Perm (bN n)∧∀ H',Same H H'→Q .non H'
def Xh:Sp:=fun vs H Q _=>∃ (p l:Addr) (P:List Pp) (os:List Nat),vs=[.ref p,.ref l]∧PpsAt H p P∧H l=some (.lst (os.map zN))∧os.Perm (bN P.length)∧(∀ k,k < os.length→zcv P os k=false)∧∀ H',Same H H'→Q (.bl true) H'
def w6:Sp:=fun vs H Q _=>∃ a b tab gifts,vs=[.ref a,.ref b]∧yh H a tab∧yh H b gifts∧(dOf (tab ++ gifts)).length≤63∧(tab ++ gifts).length≤1000∧∀ l out H',Same H H'→H l=none→yh H' l out→xA (tab ++ gifts) out→Q (.ref l) H'
def jA:Sp:=w6
noncomputable def giS (s:RSt):List Row:=@ms (List Row) ⟨[]⟩ (vj s)
noncomputable def ppS (s:RSt):Pp:=⟨Jz s,s.no,giS s⟩
noncomputable def XY (S:Nat→RSt) (os:List Nat) (n:Nat):List Pp:=(bN n).map fun k=>ppS (S (os.idxOf k))
structure QS (U:List Pl) (H:Hp) (v:V) (P:List Pp) (out:List Row):Prop where
 at_:∃ r pl tl,v=.ref r∧H r=some (.tup [.ref pl,.ref tl])∧PpsAt H pl P∧yh H tl out
 ti:TabI U out
def JB (U:List Pl) (CC:List (List Cs)) (os:List Nat) (J:Nat→List Row→Prop) (S:Nat→RSt):Prop:=∀ i now s gi,i < os.length→J i now→TabI U now→FedR (CC.getD (os.getD i 0) []) now s→vj s gi→S i=s∧(∀ r∈gi,r.1∈U)∧∀ out,xA (now ++ gi) out→J (i + 1) out
def wp:Sp:=fun vs H Q _=>∃ (cl tl l:Addr) (U:List Pl) (CC:List (List Cs)) (tab:List Row) (os:List Nat) (J:Nat→List Row→Prop) (S:Nat→RSt),vs=[.ref cl,.ref tl,.ref l]∧CosAt H cl CC∧UOk U∧yh H tl tab∧TabI U tab∧H l=some (.lst (os.map zN))∧os.Perm (bN CC.length)∧J 0 tab∧JB U CC os J S ∧
 ∀ v out H',Same H H'→J os.length out→QS U H' v (XY S os CC.length) out→Q v H'
def vM:Sp:=fun vs H Q _=>∃ (a:Addr) (ls:List Addr) (P:List Pp),vs=[.ref a,.int P.length]∧P.length≤63∧RsAt H a ls (zr P P.length)∧∀ H',Same H H'→Q (.bl true) H'
def xS:Sp:=fun vs H Q _=>∃ (a c:Addr) (ls:List Addr) (P:List Pp),vs=[.ref a,.ref c]∧P.length≤63∧RsAt H a ls (zr P P.length)∧H c=some (.lst ((chn P).map zN))∧∀ H',Same H H'→Q (.bl true) H'
def K3 (T:List (List Nat)) (os:List Nat):Prop:=∃ Ts,Paired (fun (a b:List Nat)=>b.Perm a) T Ts∧os=Ts.flatten
def va (K:bD):Sp:=fun vs H Q _=>∃ (a r:Addr) (ns:List Int) (ls:List Addr) (T:List (List Nat)),vs=[.ref a,.ref r]∧SqL K H a (ns.map V.int)∧ns.length≤63∧RsAt H r ls T∧T.flatten.length≤63∧T.length≤63∧∀ l os H',Same H H'→H' l=some (.lst (os.map zN))→K3 T os→Q (.ref l) H'
def vb (T:List (List Nat)) (i:Nat):List Nat:=((T.take i).map pi).flatten
def zcw (P:List Pp) (tab:List Row) (L:List Nat) (p:Pl):Int:=L.foldl (fun w k=>(zy (pAt P k).gi p).getD w) (vn tab p)
def TbV (P:List Pp) (tab:List Row) (L:List Nat) (now:List Row):Prop:=∀ p,vn now p=zcw P tab L p
structure zcx (U:List Pl) (CC:List (List Cs)) (P:List Pp) (tab:List Row) (T:List (List Nat)):Prop where
 uo:UOk U
 ti:TabI U tab
 lp:P.length=CC.length
 lt:∀ rs∈T,∀ k∈rs,k < CC.length
 gu:∀ k,k < CC.length→∀ r∈(pAt P k).gi,r.1∈U
 gw:∀ k,k < CC.length→∀ r∈(pAt P k).gi,inW r.2=true
 fd:∀ i rs k now s,T[i]?=some rs→k∈rs→TbV P tab (vb T i) now→FedR (CC.getD k []) now s→ppS s=pAt P k
def ww:Sp:=fun vs H Q _=>∃ (cl pl tl ta:Addr) (ls:List Addr) (U:List Pl) (CC:List (List Cs)) (P:List Pp) (tab:List Row) (T:List (List Nat)),vs=[.ref cl,.ref pl,.ref tl,.ref ta]∧CosAt H cl CC∧PpsAt H pl P∧yh H tl tab∧RsAt H ta ls T∧zcx U CC P tab T∧∀ l out H',Same H H'→yh H' l out→TabI U out→TbV P tab (vb T T.length) out→Q (.ref l) H'
def sp_law (K:bD):Sp:=fun vs H Q _=>∃ (a:Addr) (ns:List Int),vs=[.ref a]∧SqL K H a (ns.map V.int)∧ns.length≤63∧∀ H',Q (.bl true) H'
def jB (K:bD) (t:Adr):TS:=(zo (zK (tOp (rI (fun _ j=>0 < j) fun i j=>.int (i % j)) (tOp (rI0 fun i j=>.int (i + j)) (tOp (rI CMulB fun i j=>.int (i * j)) (tOp (rI (fun _ j=>0 < j) fun i j=>.int (i % j)) (zc 0) (tC (.int 1000000007))) (tC (.int 6700417))) (tOp (rI CMulB fun i j=>.int (i * j)) (tOp (rI CMulB fun i j=>.int (i * j)) (tOp (rI0 fun i j=>.int (i + j)) (zc 1) (tC (.int 1))) (tC (.int 104729))) (tC (.int 65537)))) (tC (.int 1000000009))) (zl 2))
  (zD (tOp (rI zbq fun i j=>.int (i / j)) (tOp (rI (fun _ j=>0 < j) fun i j=>.int (i % j)) (tOp (rI CMulB fun i j=>.int (i * j)) (tOp (rI (fun _ j=>0 < j) fun i j=>.int (i % j)) (tOp (rI CMulB fun i j=>.int (i * j)) (zc 2) (zc 2)) (tC (.int 1000000009))) (zc 2)) (tC (.int 1000000009))) (tC (.int 32)))))
def wx (K:bD) (t:Adr):TS:=(zD (xk (xD (zb (zc 1) zi)) (zl 0) YN (tOp jN (tOp jN (tSl Kz (zc 1) yu (xw (zc 2))) (tOp W1 (zc 3) (zc 0))) (tSl Kz (zc 1) (xw (tOp (rI0 fun i j=>.int (i + j)) (zc 2) (tC (.int 1)))) yu)) 1 [4,6,3]))
def wz (K:bD) (t:Adr):TS:=(zo (zK (tOp (rI (fun _ j=>0 < j) fun i j=>.int (i % j)) (zn zm [] E0 (zb (zc 0) (zb (tC (.int 8)) zi))) (zc 2)) (zl 6))
  (zo (zK (tOp (rI (fun _ j=>0 < j) fun i j=>.int (i % j)) (zn zm [] E0 (zb (zc 0) (zb (tC (.int 9)) zi))) (tCB (yG K) (zb (zc 3) zi))) (zl 7))
  (zo (zK (tOp jN (tSl Kz (zc 3) (xw (zc 7)) yu) (tSl Kz (zc 3) yu (xw (zc 7)))) (zl 3))
  (wx K t))))
def wA (K:bD) (t:Adr):TS:=(zo (zK (tC (.str "")) (zl 4))
  (zo (xr (xD (zb (zc 2) zi)) (zl 5)
    (zK (tOp jN (zc 4) (tOp W1 (zc 3) (tOp (rI (fun _ j=>0 < j) fun i j=>.int (i % j)) (zn zm [] E0 (zb (zc 0) (zb (tOp (rI0 fun i j=>.int (i + j)) (tC (.int 2)) (zc 5)) zi))) (tCB (yG K) (zb (zc 3) zi))))) (zl 4)))
  (wz K t)))
def vN (K:bD) (t:Adr):TS:=(zo (zK (tOp (rI0 fun i j=>.int (i + j)) (tC (.int 1)) (tOp (rI (fun _ j=>0 < j) fun i j=>.int (i % j)) (zn zm [] E0 (zb (zc 0) (zb (tC (.int 1)) zi))) (tC (.int 6)))) (zl 2))
  (zo (zK (tC (.str "zyxwvtsrqpnmlkjhgfdcb")) (zl 3))
  (zo (zS (zC (tOp rEq (zc 2) (tC (.int 6))))
    (zK (tC (.str "zyxwvutsrqponmlkjihgfedcba")) (zl 3))
    zI)
  (wA K t))))
def vC (K:bD) (t:Adr):TS:=(zD (xk (xD (zb (zc 1) zi)) (zl 0) YN (tOp (yw K) (zc 1) (tOp (rI (fun _ j=>0 < j) fun i j=>.int (i % j)) (tOp (rI0 fun i j=>.int (i + j)) (zc 2) (zc 0)) (tC (.int 4)))) 1 [5,6]))
def xL (K:bD) (t:Adr):TS:=(zo (zK (xj (zb (zc 3) (zb (tOp jN (zc 4) (zc 3)) (zb (zch (zc 3) (tUn (rU fun i=>.int (-i)) (tC (.int 1)))) (zb (tOp jN (zc 3) (zc 4)) zi))))) (zl 5))
  (zo (zK (tOp (rI (fun _ j=>0 < j) fun i j=>.int (i % j)) (zn zm [] E0 (zb (zc 0) (zb (tC (.int 15)) zi))) (tC (.int 4))) (zl 6))
  (vC K t)))
def vD (K:bD) (t:Adr):TS:=(zo (zK (tC (.str "zyxwvtsrqpnmlkjhgfdcb")) (zl 2))
  (zo (zK (tOp jN (tOp W1 (zc 2) (tOp (rI (fun _ j=>0 < j) fun i j=>.int (i % j)) (zn zm [] E0 (zb (zc 0) (zb (tC (.int 12)) zi))) (tC (.int 21)))) (tOp W1 (zc 2) (tOp (rI (fun _ j=>0 < j) fun i j=>.int (i % j)) (zn zm [] E0 (zb (zc 0) (zb (tC (.int 13)) zi))) (tC (.int 21))))) (zl 3))
  (zo (zK (tOp W1 (zc 2) (tOp (rI (fun _ j=>0 < j) fun i j=>.int (i % j)) (zn zm [] E0 (zb (zc 0) (zb (tC (.int 14)) zi))) (tC (.int 21)))) (zl 4))
  (xL K t))))
def wB (K:bD) (t:Adr):TS:=(zo (zS (zC (tOp (rI0 fun i j=>.bl (decide (j < i))) (tOp (rI (fun _ j=>0 < j) fun i j=>.int (i % j)) (zn zm [] E0 (zb (zc 0) (zb (tC (.int 11)) zi))) (tC (.int 3))) (tC (.int 0))))
   (zD (zn xm [] E0 (zb (zc 0) (zb (zc 1) zi))))
   zI)
  (vD K t))
def vc (K:bD) (t:Adr):TS:=(zo (zS (zC (tOp rEq (tOp (rI (fun _ j=>0 < j) fun i j=>.int (i % j)) (zn zm [] E0 (zb (zc 0) (zb (zc 1) zi))) (tC (.int 10))) (tC (.int 0))))
   (zD (tOp (rI0 fun i j=>.int (i - j)) (tOp (rI (fun _ j=>0 < j) fun i j=>.int (i % j)) (tOp (rI0 fun i j=>.int (i + j)) (tOp (rI CMulB fun i j=>.int (i * j)) (tOp (rI CMulB fun i j=>.int (i * j)) (tOp (rI (fun _ j=>0 < j) fun i j=>.int (i % j)) (zc 0) (tOp (rI Kn fun i j=>.int (i ^ j.toNat)) (tC (.int 10)) (tC (.int 40)))) (tOp (rI0 fun i j=>.int (i + j)) (zc 1) (tC (.int 2)))) (tC (.int 1000003))) (zc 1)) (tOp (rI0 fun i j=>.int (i + j)) (tOp (rI CMulB fun i j=>.int (i * j)) (tC (.int 2)) (tOp (rI Kn fun i j=>.int (i ^ j.toNat)) (tC (.int 10)) (tC (.int 30)))) (tC (.int 1)))) (tOp (rI Kn fun i j=>.int (i ^ j.toNat)) (tC (.int 10)) (tC (.int 30)))))
   zI)
  (zD (tOp (rI0 fun i j=>.int (i - j)) (tOp (rI (fun _ j=>0 < j) fun i j=>.int (i % j)) (zn zm [] E0 (zb (zc 0) (zb (tOp (rI0 fun i j=>.int (i + j)) (zc 1) (tC (.int 1))) zi))) (tC (.int 7))) (tC (.int 2)))))
def vO (K:bD) (t:Adr):TS:=(zo (zK YK (zl 3))
  (zo (xr (xD (zb (tOp (rI (fun _ j=>0 < j) fun i j=>.int (i % j)) (zn zm [] E0 (zb (zc 0) (zb (tC (.int 20)) zi))) (tC (.int 9))) zi)) (zl 4)
    (zo (zK (zn yg [] E0 (zb (zc 0) (zb (tOp (rI0 fun i j=>.int (i + j)) (tC (.int 30)) (tOp (rI CMulB fun i j=>.int (i * j)) (tC (.int 3)) (zc 4))) zi))) (zl 5))
  (zS (zC (tOp rNe (zc 5) (tC (.int 0))))
   (vt (zc 3) (yO (zb (tOp (yw K) (zc 1) (tOp (rI (fun _ j=>0 < j) fun i j=>.int (i % j)) (zn zm [] E0 (zb (zc 0) (zb (tOp (rI0 fun i j=>.int (i + j)) (tC (.int 60)) (zc 4)) zi))) (tC (.int 2)))) (zb (tOp (rI (fun _ j=>0 < j) fun i j=>.int (i % j)) (zn zm [] E0 (zb (zc 0) (zb (tOp (rI0 fun i j=>.int (i + j)) (tC (.int 70)) (zc 4)) zi))) (zc 2)) zi))) (zc 5))
   zI)))
  (zD (tCB Jl (zb (Zu (zc 3)) zi)))))
def vP (K:bD) (t:Adr) (E:XK):TS:=(zS (zC (tOp (XT K true) (tCB (zcp K) (zb (zc 0) zi)) (Jt (zb (zc 1) zi))))
   (qe t.c_NoOrder (zb (zce (zc 1)) zi) E)
   zI)
def Z3 (K:bD) (t:Adr):TS:=(zo (Zl K (zc 0) (tCB (zaC K) (zb (zc 1) zi)) "code")
  (zo (Zl K (zc 0) (tC (.int 0)) "at")
  (zo (Zl K (zc 0) (tC .non) "why")
  (zo (Zl K (zc 0) Zp "slots")
  (zo (Zl K (zc 0) YK "gifts")
  (zo (Zl K (zc 0) YK "notes")
  (Zl K (zc 0) (xj zi) "sayings")))))))
def km (K:bD) (t:Adr):TS:=(zD (za6 (tOp QA (yT K (zc 0) "why") (tC .non)) (tOp (rI0 fun i j=>.bl (decide (j≤i))) (yT K (zc 0) "at") (tCB (yG K) (zb (yT K (zc 0) "code") zi)))))
def kn (K:bD) (t:Adr):TS:=(zo (zS (zC (tOp QA (yT K (zc 0) "why") (tC .non)))
   (zD (yO (zb (yO (zb (tC (.str "off")) (zb (yT K (zc 0) "why") zi))) (zb (zc 1) (zb (xj zi) zi)))))
   zI)
  (zD (yO (zb (yO (zb (tC (.str "done")) (zb (tCB (zgi K) (zb (yT K (zc 0) "sayings") zi)) zi))) (zb (zc 1) (zb (tCB Jl (zb (Zu (yT K (zc 0) "gifts")) zi)) zi))))))
def ko (K:bD) (t:Adr):TS:=(zo (zK (tCB zbZ (zb (Zu (yT K (zc 0) "notes")) zi)) (zl 1))
  (kn K t))
def jC (K:bD) (t:Adr):TS:=(zo (zS (jO (tB (yQ t.c_Run "over" (yZ t) [] E0 (zc 0) zi)))
   (zD (tC .non))
   zI)
  (ko K t))
def qx (K:bD) (t:Adr) (E:XK):TS:=(zo (zS (zC (tOp rEq (zc 2) (tC (.int 0))))
   (qe t.c_Nought (zb (V6 (zc 0)) zi) E)
   zI)
  (zD (tIf (zC (tOp rEq (zc 0) (tC (.str "over")))) (tOp (rI zeS fun i j=>.int (i.fdiv j)) (zc 1) (zc 2)) (tOp (rI (fun _ j=>j≠0) fun i j=>.int (i.fmod j)) (zc 1) (zc 2)))))
def qy (K:bD) (t:Adr) (E:XK):TS:=(zo (zS (zC (tOp rEq (zc 0) (tC (.str "plus"))))
   (zD (tOp (rI0 fun i j=>.int (i + j)) (zc 1) (zc 2)))
   zI)
  (zo (zS (zC (tOp rEq (zc 0) (tC (.str "minus"))))
    (zD (tOp (rI0 fun i j=>.int (i - j)) (zc 1) (zc 2)))
    zI)
  (zo (zS (zC (tOp rEq (zc 0) (tC (.str "times"))))
    (zD (tOp (rI CMulB fun i j=>.int (i * j)) (zc 1) (zc 2)))
    zI)
  (zo (zS (zC (tOp rEq (zc 0) (tC (.str "under"))))
    (zD (tIf (zC (tOp (rI0 fun i j=>.bl (decide (i < j))) (zc 1) (zc 2))) (tC (.int 1)) (tC (.int 0))))
    zI)
  (zo (zS (zC (tOp rEq (zc 0) (tC (.str "same"))))
    (zD (tIf (zC (tOp rEq (zc 1) (zc 2))) (tC (.int 1)) (tC (.int 0))))
    zI)
  (zD (zn (qu t) [] E (zb (zc 0) (zb (zc 1) (zb (zc 2) zi))))))))))
def kq (K:bD) (t:Adr):TS:=(zo (zS (tOr (jO (tB (tCB (Zq K) (zb (zc 0) (zb (tC (.ty "int")) zi))))) (tB (tCB (Zq K) (zb (zc 0) (zb (tC (.ty "bool")) zi)))))
   (zD (tC (.bl false)))
   zI)
  (zD (Zj (rI0 fun i j=>.bl (decide (i≤j))) (rI0 fun i j=>.bl (decide (i≤j))) (tUn (rU fun i=>.int (-i)) (tOp (rI Kn fun i j=>.int (i ^ j.toNat)) (tC (.int 10)) (tC (.int 30)))) (zc 0) (tOp (rI Kn fun i j=>.int (i ^ j.toNat)) (tC (.int 10)) (tC (.int 30))))))
def ZC (K:bD) (t:Adr) (E:XK):TS:=(zo (zK (zn (qv t) [] E (zb (zc 0) (zb (zc 1) (zb (zc 2) zi)))) (zl 3))
  (zo (zS (jO (tB (zn kg [] E (zb (zc 3) zi))))
    (qe t.c_Great (zb (V6 (zc 0)) zi) E)
    zI)
  (zD (zc 3))))
def kP (K:bD) (t:Adr) (E:XK):TS:=(zo (zK (zat K "list" j2 (zc 2)) (zl 4))
  (zo (zK (zat K "list" j2 (zc 2)) (zl 5))
  (xb (tBM K "list" yc (zc 2) (zb (zn (ZA t) [] E (zb (zc 3) (zb (zc 5) (zb (zc 4) zi)))) zi)))))
def kQ (K:bD) (t:Adr) (E:XK):TS:=(xb (tBM K "list" yc (zc 2) (zb (tIf (tB (tCB (Zq K) (zb (zc 3) (zb (tC (.ty "str")) zi)))) (qd (zc 1) (zc 3) (tC (.int 0))) (zc 3)) zi)))
def kR (K:bD) (t:Adr) (E:XK):TS:=(zS (zC (tOp (rIn K false) (zc 3) (tC (.ref t.c_JOINING))))
   (kP K t E)
   (kQ K t E))
def kr (K:bD) (t:Adr) (E:XK):TS:=(zo (zK (xj zi) (zl 2))
  (zo (xr (zfc K (zc 0)) (zl 3)
    (kR K t E))
  (zD (zat K "list" j2 (zc 2)))))
def wC (K:bD) (t:Adr) (E:XK):TS:=(zD (zn (kh t) [] E (zb (zc 1) (zb (yT K (zc 0) "slots") zi))))
def wD (K:bD) (t:Adr) (E:XK):TS:=(zD (yO (zb (tOp (yx K) (zc 1) (tC (.int 1))) (zb (yQ t.c_Run "worth_of" (z8 t) [] E (zc 0) (zb (tOp (yx K) (zc 1) (tC (.int 2))) zi)) zi))))
def XZ (K:bD) (t:Adr):TS:=(zo (zS (tOr (zC (tOp (Y0 false) (zc 1) (yT K (zc 0) "gifts"))) (zC (tOp (Y0 false) (zc 1) (yT K (zc 0) "notes"))))
   (zD (tC .non))
   zI)
  (zD (zc 1)))
def X0 (K:bD) (t:Adr):TS:=(zo (zeV K (zeQ (Vk t.c_Run "place_in" (yM t) (zc 0) (zb (tOp (yw K) (yT K (zc 0) "code") (yT K (zc 0) "at")) zi)) 1) t.c_Great t.c_Nought (zD (tC .non)))
  (XZ K t))
def Z4 (K:bD) (t:Adr):TS:=(zo (zS (tOr (tB (yQ t.c_Run "over" (yZ t) [] E0 (zc 0) zi)) (zC (tOp rNe (tOp (yx K) (tOp (yw K) (yT K (zc 0) "code") (yT K (zc 0) "at")) (tC (.int 0))) (tC (.str "take")))))
   (zD (tC .non))
   zI)
  (X0 K t))
def jD (K:bD) (t:Adr):TS:=(zo (zS (zC (tOp (Y0 false) (zc 1) (yT K (zc 0) "gifts")))
   (zD (jW (yT K (zc 0) "gifts") (zc 1)))
   zI)
  (zo (zS (zC (tOp (Y0 true) (zc 1) (yT K (zc 0) "notes")))
    (vt (yT K (zc 0) "notes") (zc 1) (zc 2))
    zI)
  (zD (jW (yT K (zc 0) "notes") (zc 1)))))
def X1 (K:bD) (t:Adr) (E:XK):TS:=(vt (yT K (zc 0) "slots") (tOp (yx K) (zc 1) (tC (.int 1))) (yQ t.c_Run "worth_of" (z8 t) [] E (zc 0) (zb (tOp (yx K) (zc 1) (tC (.int 2))) zi)))
def kS (K:bD) (t:Adr) (E:XK):TS:=(xb (tBM K "list" yc (yT K (zc 0) "sayings") (zb (yQ t.c_Run "worth_of" (z8 t) [] E (zc 0) (zb (tOp (yx K) (zc 1) (tC (.int 1))) zi)) zi)))
def X2 (K:bD) (t:Adr) (E:XK):TS:=(zo (zK (yQ t.c_Run "place_in" (yM t) [] E (zc 0) (zb (zc 1) zi)) (zl 3))
  (vt (yT K (zc 0) "gifts") (zc 3) (yQ t.c_Run "worth_of" (z8 t) [] E (zc 0) (zb (tOp (yx K) (zc 1) (tC (.int 3))) zi))))
def X3 (K:bD) (t:Adr) (E:XK):TS:=(vt (yT K (zc 0) "slots") (tOp (yx K) (zc 1) (tC (.int 3))) (yQ t.c_Run "taken" (qY t) [] E (zc 0) (zb (yQ t.c_Run "place_in" (yM t) [] E (zc 0) (zb (zc 1) zi)) (zb (zc 2) zi))))
def Z5 (K:bD) (t:Adr) (E:XK):TS:=(zS (zC (tOp rEq (tOp (yx K) (zc 1) (tC (.int 0))) (tC (.str "take"))))
   (X3 K t E)
   (zS (zC (tOp rEq (tOp (yx K) (zc 1) (tC (.int 0))) (tC (.str "give"))))
   (X2 K t E)
   (zS (zC (tOp rEq (tOp (yx K) (zc 1) (tC (.int 0))) (tC (.str "let"))))
   (X1 K t E)
   (kS K t E))))
def Yg (K:bD) (t:Adr) (E:XK):TS:=(zS (zC (tOp rNe (yQ t.c_Run "worth_of" (z8 t) [] E (zc 0) (zb (tOp (yx K) (zc 1) (tC (.int 1))) zi)) (tC (.int 0))))
   (Zl K (zc 0) (tC (.str "told")) "why")
   zI)
def Yh (K:bD) (t:Adr) (E:XK):TS:=(xb (yQ t.c_Run "does" (Z0 t) [] E (zc 0) (zb (zc 1) (zb (zc 2) zi))))
def Yi (K:bD) (t:Adr) (E:XK):TS:=(zD (tIf (zC (tOp rEq (yQ t.c_Run "worth_of" (z8 t) [] E (zc 0) (zb (tOp (yx K) (zc 1) (tC (.int 1))) zi)) (tC (.int 0)))) (tOp (yx K) (zc 1) (tC (.int 2))) (tOp (rI0 fun i j=>.int (i + j)) (yT K (zc 0) "at") (tC (.int 1)))))
def Yj (K:bD) (t:Adr) (E:XK):TS:=(zo (zS (zC (tOp rEq (tOp (yx K) (zc 1) (tC (.int 0))) (tC (.str "off"))))
   (Yg K t E)
   (Yh K t E))
  (zD (tOp (rI0 fun i j=>.int (i + j)) (yT K (zc 0) "at") (tC (.int 1)))))
def Yk (K:bD) (t:Adr) (E:XK):TS:=(zo (zS (zC (tOp rEq (tOp (yx K) (zc 1) (tC (.int 0))) (tC (.str "skip"))))
   (Yi K t E)
   zI)
  (Yj K t E))
def kT (K:bD) (t:Adr) (E:XK):TS:=(zo (zS (zC (tOp rEq (tOp (yx K) (zc 1) (tC (.int 0))) (tC (.str "go"))))
   (zD (tOp (yx K) (zc 1) (tC (.int 1))))
   zI)
  (Yk K t E))
def kt (K:bD) (t:Adr):TS:=(zo (zS (tB (yQ t.c_Run "over" (yZ t) [] E0 (zc 0) zi))
   za7
   zI)
  (KJ K (zcf K (zc 0) (Vk t.c_Run "led_by" (vK t) (zc 0) (zb (tOp (yw K) (yT K (zc 0) "code") (yT K (zc 0) "at")) (zb (zc 1) zi))) "at") t.c_Great (Zl K (zc 0) (tC (.str "great")) "why") t.c_Nought (Zl K (zc 0) (tC (.str "nought")) "why")))
def ZD (K:bD) (t:Adr):TS:=(zD (qd (tCB qV (zb (zc 0) zi)) (zc 1) (tC (.int 0))))
def zcy (K:bD) (t:Adr):TS:=(zo (zK (zeM t.c_Run (ZZ t) [] E0 (zb (zc 0) zi)) (zl 2))
  (zo (WX (jO (tB (yQ t.c_Run "over" (yZ t) [] E0 (zc 2) zi))) (zo (zK (yQ t.c_Run "asks" (Z2 t) [] E0 (zc 2) zi) (zl 3))
  (xb (yQ t.c_Run "step" (Z1 t) [] E0 (zc 2) (zb (tIf (zC (tOp zgJ (zc 3) (tC .non))) (tC (.int 0)) (zn WC [] E0 (zb (zc 1) (zb (zc 3) zi)))) zi)))))
  (zD (yQ t.c_Run "paper" (qZ t) [] E0 (zc 2) zi))))
def vE (K:bD) (t:Adr):TS:=(zo (zK (tCB qV (zb (zc 0) zi)) (zl 1))
  (zD (xk (xc K (tCB zbP (zb (zc 1) zi))) (zl 0) (zC (tOp rNe (jW (zc 1) (zc 0)) (tC (.int 0)))) (yO (zb (zc 0) (zb (jW (zc 1) (zc 0)) zi))) 1 [1])))
def qz (K:bD) (t:Adr):TS:=(zD (zn kj [] E0 (zb (tOp qb (zc 0) (zc 1)) zi)))
def vQ (K:bD) (t:Adr) (E:XK):TS:=(zD (yO (zb (xk (xD (zb (tCB (yG K) (zb (zc 0) zi)) zi)) (zl 0) YN (jW (zc 1) (zc 0)) 1 [3]) (zb (zc 4) zi))))
def vR (K:bD) (t:Adr) (E:XK):TS:=(zo (xr (xc K (zc 2)) (zl 5)
   (zo (vt (zc 3) (zc 5) (zn (Xf t) [] E (zb (tOp (yw K) (zc 0) (zc 5)) (zb (zc 4) zi))))
  (zK (zn w6 [] E (zb (zc 4) (zb (tOp (yx K) (jW (zc 3) (zc 5)) (tC (.int 2))) zi))) (zl 4))))
  (vQ K t E))
def kU (K:bD) (t:Adr) (E:XK):TS:=(zo (zK Zp (zl 3))
  (zo (zK (tCB (zaC K) (zb (zc 1) zi)) (zl 4))
  (vR K t E)))
def ku (K:bD) (t:Adr) (E:XK):TS:=(zo (xb (zn xn [] E (zb (zc 2) (zb (tCB (yG K) (zb (zc 0) zi)) zi))))
  (kU K t E))
def vS (K:bD) (t:Adr):TS:=(zo (zK (tCB qV (zb (tOp qb (tOp (yx K) (zc 1) (tC (.int 1))) (tOp (yx K) (zc 1) (tC (.int 2)))) zi)) (zl 2))
  (zD (tCB (zfB K) (zb (xk (xc K (tOp (yx K) (zc 0) (tC (.int 2)))) (WV K 2 (vX (zl 0) (vX (zl 1) WU))) YN (tOp (Y0 false) (zc 0) (zc 2)) 2 [2]) zi))))
def Vs (K:bD) (t:Adr):TS:=(zD (za6 (zn x8 [] E0 (zb (zc 0) (zb (zc 1) zi))) (zn x8 [] E0 (zb (zc 1) (zb (zc 0) zi)))))
def qA (K:bD) (t:Adr):TS:=(zD (xk (xc K (zc 1)) (zl 0) (tB (zn Vr [] E0 (zb (tOp (yw K) (zc 1) (zc 0)) (zb (tOp (yw K) (zc 1) (zc 2)) zi)))) (zc 0) 1 [0,2]))
def jE (K:bD) (t:Adr):TS:=(zo (zK (tCB (yG K) (zb (zc 1) zi)) (zl 3))
  (zo (WX (ze5 (zC (tOp (rI0 fun i j=>.bl (decide (j < i))) (zc 3) (tC (.int 0)))) (zC (tOp (Zr K) (zn xv [] E0 (zb (zc 0) (zb (tOp (yw K) (zc 1) (tOp (rI0 fun i j=>.int (i - j)) (zc 3) (tC (.int 1)))) (zb (zc 2) zi)))) (xj zi)))) (ze9 3 (tC (.int 1)) (ipI fun i j=>i - j)))
  (zD (zc 3))))
def kx (K:bD) (t:Adr):TS:=(zo (zK (zn jz [] E0 (zb (zc 0) (zb (zc 1) (zb (zc 2) zi)))) (zl 3))
  (zo (zS (zC (tOp rEq (zc 3) (tCB (yG K) (zb (zc 1) zi))))
    (xb (tBM K "list" yc (zc 1) (zb (xj zi) zi)))
    zI)
  (xb (tBM K "list" yc (tOp (yw K) (zc 1) (zc 3)) (zb (zc 2) zi)))))
def ZE (K:bD) (t:Adr):TS:=(zo (zK (xj zi) (zl 1))
  (zo (xr (xD (zb (tCB (yG K) (zb (zc 0) zi)) zi)) (zl 2)
    (kx K t))
  (zD (zc 1))))
def wE (K:bD) (t:Adr):TS:=(zo (zS (zC (tOp (rI0 fun i j=>.bl (decide (i < j))) (zc 1) (tCB (yG K) (zb (zc 0) zi))))
   (zD (tOp (yw K) (zc 0) (zc 1)))
   zI)
  (zD (tC (.int 0))))
def vd (K:bD) (t:Adr):TS:=(zo (zK (xj zi) (zl 2))
  (zo (xr (xD (zb (tCB (yG K) (zb (zc 1) zi)) zi)) (zl 3)
    (zo (zK (tOp (yw K) (zc 1) (zc 3)) (zl 4))
  (zo (zK (tOp (rI (fun _ j=>0 < j) fun i j=>.int (i % j)) (zn zm [] E0 (zb (zn (z0 K) [] E0 (zb (zc 0) (zb (zc 3) zi))) (zb (tC (.int 203)) zi))) (tOp (rI0 fun i j=>.int (i + j)) (tC (.int 1)) (tCB (yG K) (zb (zc 4) zi)))) (zl 5))
  (zo (zK (tOp qb (tSl (Zn K) (zc 4) (xw (zc 5)) yu) (tSl (Zn K) (zc 4) yu (xw (zc 5)))) (zl 4))
  (zo (zS (zC (tOp rEq (tOp (rI (fun _ j=>0 < j) fun i j=>.int (i % j)) (zn zm [] E0 (zb (zn (z0 K) [] E0 (zb (zc 0) (zb (zc 3) zi))) (zb (tC (.int 204)) zi))) (tC (.int 2))) (tC (.int 0))))
    (zK (Y5 K (zc 4) (tUn (rU fun i=>.int (-i)) (tC (.int 1)))) (zl 4))
    zI)
  (zK (tOp qb (zc 2) (zc 4)) (zl 2)))))))
  (zD (zc 2))))
def ZF (K:bD) (t:Adr) (n:Nat):TS:=(zD (tOp qb (xj (zb (yO (zb (tC (.str "skip")) (zb (tOp (yx K) (zc 0) (tC (.int 1))) (zb (zc 3) zi)))) zi)) (zc 2)))
def ZG (K:bD) (t:Adr) (n:Nat):TS:=(zo (zK (zn (yY  n) [] E0 (zb (tOp (yx K) (zc 0) (tC (.int 3))) (zb (tOp (rI0 fun i j=>.int (i + j)) (zc 3) (tC (.int 1))) zi))) (zl 4))
  (zD (tOp qb (tOp qb (tOp qb (xj (zb (yO (zb (tC (.str "skip")) (zb (tOp (yx K) (zc 0) (tC (.int 1))) (zb (tOp (rI0 fun i j=>.int (i + j)) (zc 3) (tC (.int 1))) zi)))) zi)) (zc 2)) (xj (zb (yO (zb (tC (.str "go")) (zb (tOp (rI0 fun i j=>.int (i + j)) (tOp (rI0 fun i j=>.int (i + j)) (zc 3) (tC (.int 1))) (tCB (yG K) (zb (zc 4) zi))) zi))) zi))) (zc 4))))
def v7 (K:bD) (t:Adr) (n:Nat):TS:=(zo (zS (zC (tOp (Zr K) (tOp (yx K) (zc 0) (tC (.int 3))) (xj zi)))
   (ZF K t n)
   zI)
  (ZG K t n))
def ky (K:bD) (t:Adr) (n:Nat):TS:=(zo (zK (zn (yY  n) [] E0 (zb (tOp (yx K) (zc 0) (tC (.int 2))) (zb (tOp (rI0 fun i j=>.int (i + j)) (zc 1) (tC (.int 1))) zi))) (zl 2))
  (zo (zK (tOp (rI0 fun i j=>.int (i + j)) (tOp (rI0 fun i j=>.int (i + j)) (zc 1) (tC (.int 1))) (tCB (yG K) (zb (zc 2) zi))) (zl 3))
  (v7 K t n)))
def Z6 (K:bD) (t:Adr) (n:Nat):TS:=(zo (zK (xj zi) (zl 2))
  (zo (xr (xc K (zc 0)) (zl 3)
    (zS (zC (tOp rEq (tOp (yx K) (zc 3) (tC (.int 0))) (tC (.str "if"))))
    (xb (tBM K "list" Jq (zc 2) (zb (zn (ki  n) [] E0 (zb (zc 3) (zb (tOp (rI0 fun i j=>.int (i + j)) (zc 1) (tCB (yG K) (zb (zc 2) zi))) zi))) zi)))
    (xb (tBM K "list" yc (zc 2) (zb (zc 3) zi)))))
  (zD (zc 2))))
def qB (K:bD) (t:Adr):TS:=(zD (zn (yY  6) [] E0 (zb (zc 0) (zb (tC (.int 0)) zi))))
def jF (K:bD) (t:Adr):TS:=(zo (zK (tOp (yw K) (zc 2) (tOp (rI (fun _ j=>0 < j) fun i j=>.int (i % j)) (zn zm [] E0 (zb (zc 0) (zb (zc 1) zi))) (tC (.int 3)))) (zl 3))
  (zo (zK (tOp (rI (fun _ j=>0 < j) fun i j=>.int (i % j)) (zn zm [] E0 (zb (zc 0) (zb (tOp (rI0 fun i j=>.int (i + j)) (zc 1) (tC (.int 1))) zi))) (tC (.int 5))) (zl 4))
  (zo (zS (zC (tOp rEq (zc 4) (tC (.int 0))))
    (zD (yO (zb (zc 3) zi)))
    zI)
  (zo (zS (zC (tOp rEq (zc 4) (tC (.int 1))))
    (zD (yO (zb (zn yg [] E0 (zb (zc 0) (zb (tOp (rI0 fun i j=>.int (i + j)) (zc 1) (tC (.int 2))) zi))) zi)))
    zI)
  (zo (zK (xj (zb (tC (.str "plus")) (zb (tC (.str "minus")) (zb (tC (.str "times")) (zb (tC (.str "over")) (zb (tC (.str "rest")) (zb (tC (.str "under")) (zb (tC (.str "plus")) zi)))))))) (zl 5))
  (zD (yO (zb (zc 3) (zb (zn yg [] E0 (zb (zc 0) (zb (tOp (rI0 fun i j=>.int (i + j)) (zc 1) (tC (.int 2))) zi))) (zb (tOp (yw K) (zc 5) (tOp (rI (fun _ j=>0 < j) fun i j=>.int (i % j)) (zn zm [] E0 (zb (zc 0) (zb (tOp (rI0 fun i j=>.int (i + j)) (zc 1) (tC (.int 4))) zi))) (tC (.int 7)))) zi))))))))))
def vT (K:bD) (t:Adr):TS:=(zo (zS (zC (tOp (rI0 fun i j=>.bl (decide (i < j))) (zc 5) (tC (.int 5))))
   (zD (yO (zb (tC (.str "take")) (zb (zc 6) (zb (zc 8) (zb (zc 7) zi))))))
   zI)
  (zo (zS (zC (tOp (rI0 fun i j=>.bl (decide (i < j))) (zc 5) (tC (.int 9))))
    (zD (yO (zb (tC (.str "give")) (zb (zc 6) (zb (zc 8) (zb (zn yH [] E0 (zb (zc 0) (zb (tOp (rI0 fun i j=>.int (i + j)) (zc 1) (tC (.int 20))) (zb (zc 2) zi)))) zi))))))
    zI)
  (zo (zS (zC (tOp rEq (zc 5) (tC (.int 9))))
    (zD (yO (zb (tC (.str "let")) (zb (zc 7) (zb (zn yH [] E0 (zb (zc 0) (zb (tOp (rI0 fun i j=>.int (i + j)) (zc 1) (tC (.int 20))) (zb (zc 2) zi)))) zi)))))
    zI)
  (zo (zS (zC (tOp rEq (zc 5) (tC (.int 10))))
    (zD (yO (zb (tC (.str "off")) (zb (yO (zb (zc 7) (zb (zn yg [] E0 (zb (zc 0) (zb (tOp (rI0 fun i j=>.int (i + j)) (zc 1) (tC (.int 21))) zi))) (zb (tC (.str "same")) zi)))) zi))))
    zI)
  (zD (yO (zb (tC (.str "say")) (zb (zn yH [] E0 (zb (zc 0) (zb (tOp (rI0 fun i j=>.int (i + j)) (zc 1) (tC (.int 20))) (zb (zc 2) zi)))) zi))))))))
def kW (K:bD) (t:Adr):TS:=(zo (zS (zC (tOp rEq (tOp (rI (fun _ j=>0 < j) fun i j=>.int (i % j)) (zn zm [] E0 (zb (zc 0) (zb (tOp (rI0 fun i j=>.int (i + j)) (zc 1) (tC (.int 50))) zi))) (tC (.int 6))) (tC (.int 0))))
   (zK (yO (zb (tOp (yw K) (zc 2) (tOp (rI (fun _ j=>0 < j) fun i j=>.int (i % j)) (zn zm [] E0 (zb (zc 0) (zb (tOp (rI0 fun i j=>.int (i + j)) (zc 1) (tC (.int 51))) zi))) (tC (.int 3)))) zi)) (zl 8))
   zI)
  (vT K t))
def kz (K:bD) (t:Adr):TS:=(zo (zK (tOp (rI (fun _ j=>0 < j) fun i j=>.int (i % j)) (zn zm [] E0 (zb (zc 0) (zb (zc 1) zi))) (tC (.int 13))) (zl 5))
  (zo (zK (tOp (yw K) (zc 3) (tOp (rI (fun _ j=>0 < j) fun i j=>.int (i % j)) (zn zm [] E0 (zb (zc 0) (zb (tOp (rI0 fun i j=>.int (i + j)) (zc 1) (tC (.int 60))) zi))) (tC (.int 2)))) (zl 6))
  (zo (zK (tOp (yw K) (zc 2) (tOp (rI (fun _ j=>0 < j) fun i j=>.int (i % j)) (zn zm [] E0 (zb (zc 0) (zb (tOp (rI0 fun i j=>.int (i + j)) (zc 1) (tC (.int 61))) zi))) (tC (.int 3)))) (zl 7))
  (zo (zK (yO (zb (tOp (rI (fun _ j=>0 < j) fun i j=>.int (i % j)) (zn zm [] E0 (zb (zc 0) (zb (tOp (rI0 fun i j=>.int (i + j)) (zc 1) (tC (.int 52))) zi))) (zc 4)) zi)) (zl 8))
  (kW K t)))))
def jG (K:bD) (t:Adr):TS:=(zo (zK (xj zi) (zl 4))
  (zo (xr (xc K (zc 0)) (zl 5)
    (zo (zK (zn vB [] E0 (zb (zc 5) (zb (tC (.int 0)) (zb (zc 1) (zb (zc 2) (zb (zc 3) zi)))))) (zl 6))
  (zo (zS (zC (tOp rEq (tOp (rI (fun _ j=>0 < j) fun i j=>.int (i % j)) (zn zm [] E0 (zb (zc 5) (zb (tC (.int 150)) zi))) (tC (.int 5))) (tC (.int 0))))
    (zo (zK (xj (zb (zn vB [] E0 (zb (zc 5) (zb (tC (.int 100)) (zb (zc 1) (zb (zc 2) (zb (zc 3) zi)))))) zi)) (zl 7))
  (zK (yO (zb (tC (.str "if")) (zb (zn yH [] E0 (zb (zc 5) (zb (tC (.int 152)) (zb (zc 1) zi)))) (zb (xj (zb (zc 6) zi)) (zb (tSl (Zn K) (zc 7) yu (xw (tOp (rI (fun _ j=>0 < j) fun i j=>.int (i % j)) (zn zm [] E0 (zb (zc 5) (zb (tC (.int 151)) zi))) (tC (.int 2))))) zi))))) (zl 6)))
   zI)
  (xb (tBM K "list" yc (zc 4) (zb (zc 6) zi))))))
  (zD (zn qw [] E0 (zb (zc 4) zi)))))
def ve (K:bD) (t:Adr):TS:=(zgj (zD (tCB (zcc K) (zb (xk (zfC (zc 2)) (WV K 2 (vX (zl 0) (vX (zl 1) WU))) (zC (tOp rNe (zc 1) (tC (.int 0)))) (yO (zb (zc 0) (zb (zc 1) zi))) 2 []) zi))))
def kA (K:bD) (t:Adr):TS:=(zo (xr (xc K (zc 1)) (zl 3)
   (vt (zc 2) (tOp (yx K) (zc 3) (tC (.int 0))) (tOp (yx K) (zc 3) (tC (.int 1)))))
  (ve K t))
def jH (K:bD) (t:Adr):TS:=(zo (zK (tCB qV (zb (zc 0) zi)) (zl 2))
  (kA K t))
def xM (K:bD) (t:Adr):TS:=(zS (zC (tOp (XT K true) (zn (Xf t) [] E0 (zb (tCB (zaC K) (zb (tOp (yw K) (zc 0) (zc 6)) zi)) (zb (tCB (zaC K) (zb (zc 4) zi)) zi))) (tOp (yw K) (zc 1) (zc 6))))
   (zD (tC .non))
   zI)
def wF (K:bD) (t:Adr):TS:=(zo (zK (zc 2) (zl 4))
  (zo (xr (xc K (zc 3)) (zl 5)
    (zo (xr (xc K (zc 5)) (zl 6)
    (xM K t))
  (xr (xc K (Y5 K (zc 5) (tUn (rU fun i=>.int (-i)) (tC (.int 1))))) (zl 6)
    (zK (zn jA [] E0 (zb (zc 4) (zb (tOp (yx K) (tOp (yw K) (zc 1) (zc 6)) (tC (.int 2))) zi))) (zl 4)))))
  (zD (zc 4))))
def vU (K:bD) (t:Adr):TS:=(zo (zK Zp (zl 2))
  (zo (zS (jO (tB (tCB (Zq K) (zb (zc 0) (zb (tC (.ty "list")) zi)))))
    (zD (tC (.bl false)))
    zI)
  (zo (xr (xD (zb (tCB (yG K) (zb (zc 0) zi)) zi)) (zl 3)
    (zo (zS (jO (tB (tCB (Zq K) (zb (tOp (yw K) (zc 0) (zc 3)) (zb (tC (.ty "list")) zi)))))
    (zD (tC (.bl false)))
    zI)
  (xr (xc K (tOp (yw K) (zc 0) (zc 3))) (zl 4)
    (zo (zS (tOr (jO (tB (tCB (Zq K) (zb (zc 4) (zb (tC (.ty "int")) zi))))) (tOr (tB (tCB (Zq K) (zb (zc 4) (zb (tC (.ty "bool")) zi)))) (tOr (zC (tOp (Y0 false) (zc 4) (zc 2))) (jO (zC (Zj (rI0 fun i j=>.bl (decide (i≤j))) (rI0 fun i j=>.bl (decide (i < j))) (tC (.int 0)) (zc 4) (zc 1)))))))
    (zD (tC (.bl false)))
    zI)
  (vt (zc 2) (zc 4) (zc 3))))))
  (zD (tOp rEq (tCB zcm (zb (zc 2) zi)) (zc 1))))))
def xT (K:bD) (t:Adr):TS:=(zo (zS (tOr (jO (tB (tCB (Zq K) (zb (zc 1) (zb (tC (.ty "list")) zi))))) (zC (tOp rNe (tCB (yG K) (zb (zc 1) zi)) (tCB (yG K) (zb (zc 0) zi)))))
   (zD (tC (.bl false)))
   zI)
  (zo (xr (xD (zb (tCB (yG K) (zb (zc 0) zi)) zi)) (zl 2)
    (zS (zC (tOp (rIn K true) (tOp (yw K) (zc 1) (zc 2)) (tOp (yw K) (zc 0) (zc 2))))
    (zD (tC (.bl false)))
    zI))
  (zD (tC (.bl true)))))
def qC (K:bD) (t:Adr) (E:XK):TS:=(zo (zK (xk (xc K (tSl (Zn K) (zc 1) yu (xw (zc 2)))) (zl 0) (zC (tOp (rI0 fun i j=>.bl (decide (j < i))) (zc 0) (zc 1))) (zc 0) 1 [3]) (zl 4))
  (zS (zC (tOp (KO K) (zn xv [] E (zb (zc 0) (zb (zc 4) (zb (zc 3) zi)))) (xj zi)))
   (zD (tC (.bl false)))
   zI))
def Xi (K:bD) (t:Adr) (E:XK):TS:=(zo (xr (zfz K (zb (zc 1) zi)) (WV K 2 (vX (zl 2) (vX (zl 3) WU)))
   (qC K t E))
  (zD (tC (.bl true))))
def Xj (K:bD) (t:Adr) (E:XK):TS:=(zo (xb (zn xn [] E (zb (zc 1) (zb (tCB (yG K) (zb (zc 0) zi)) zi))))
  (Xi K t E))
def qD (K:bD) (t:Adr):TS:=(zo (xr (zfq K (zb (tSl (Zn K) (zc 1) yu (xw (tUn (rU fun i=>.int (-i)) (tC (.int 1))))) zi)) (zl 3)
   (xb (tBM K "list" yc (zc 2) (zb (tOp (yw K) (zn xv [] E0 (zb (zc 0) (zb (zc 3) (zb (tOp (yw K) (zc 2) (tUn (rU fun i=>.int (-i)) (tC (.int 1)))) zi)))) (tC (.int 0))) zi))))
  (zD (zcl K (zb (zc 2) zi))))
def Xk (K:bD) (t:Adr):TS:=(zo (zK (xj (zb (tOp (yw K) (tOp (yw K) (zc 1) (tUn (rU fun i=>.int (-i)) (tC (.int 1)))) (tC (.int 0))) zi)) (zl 2))
  (qD K t))
def Xl (K:bD) (t:Adr):TS:=(zo (zK (zn v6 [] E0 (zb (zc 0) zi)) (zl 1))
  (zo (zS (zC (tOp (Zr K) (zc 1) (xj zi)))
    (zD (xj zi))
    zI)
  (Xk K t)))
def ZH (K:bD) (t:Adr):TS:=(zo (zK (zn (va K) [] E0 (zb (zc 0) (zb (zc 10) zi))) (zl 11))
  (zD (za5 (tOp zgd (zn Xh [] E0 (zb (zc 8) (zb (zc 11) zi))) (tC (.bl true))) (tOp (XT K false) (zn wp [] E0 (zb (zc 7) (zb (zc 4) (zb (zc 11) zi)))) (yO (zb (zc 8) (zb (zc 9) zi)))))))
def WD (K:bD) (t:Adr):TS:=(zo (zS (zC (tOp (XT K true) (zn ww [] E0 (zb (zc 7) (zb (zc 8) (zb (zc 4) (zb (zc 10) zi))))) (zc 9)))
   (zD (tC (.bl false)))
   zI)
  (ZH K t))
def JC (K:bD) (t:Adr):TS:=(zo (zS (tOr (jO (tB (zn vM [] E0 (zb (zc 10) (zb (tCB (yG K) (zb (zc 7) zi)) zi))))) (jO (tB (zn xS [] E0 (zb (zc 10) (zb (zn Xg [] E0 (zb (zc 8) zi)) zi))))))
   (zD (tC (.bl false)))
   zI)
  (WD K t))
def Xm (K:bD) (t:Adr):TS:=(zo (zK (zn v6 [] E0 (zb (zc 8) zi)) (zl 10))
  (JC K t))
def Xn (K:bD) (t:Adr):TS:=(zo (zK (zn wp [] E0 (zb (zc 7) (zb (zc 4) (zb (Jt (zb (tCB (yG K) (zb (zc 7) zi)) zi)) zi)))) (WV K 2 (vX (zl 8) (vX (zl 9) WU))))
  (Xm K t))
def Xo (K:bD) (t:Adr):TS:=(zo (zK (tSl (Zn K) (zc 0) yu (xw (tC (.int 120)))) (zl 6))
  (zo (zK (xk (zb4 (zb (tC (.int 0)) (zb (tCB (yG K) (zb (zc 6) zi)) (zb (zc 5) zi)))) (zl 0) YN (zn jx [] E0 (zb (tSl (Zn K) (zc 1) (xw (zc 0)) (xw (tOp (rI0 fun i j=>.int (i + j)) (zc 0) (zc 2)))) (zb (zc 3) (zb (zc 4) (zb (zc 5) zi))))) 1 [6,5,1,2,3]) (zl 7))
  (Xn K t)))
def K4 (K:bD) (t:Adr):TS:=(zo (zK (zn xm [] E0 (zb (zn (z0 K) [] E0 (zb (zc 0) (zb (tC (.int 0)) zi))) (zb (tC (.int 3)) zi))) (zl 1))
  (zo (zK (zn wu [] E0 (zb (zn (z0 K) [] E0 (zb (zc 0) (zb (tC (.int 1)) zi))) (zb (tC (.int 2)) zi))) (zl 2))
  (zo (zK (tOp (rI0 fun i j=>.int (i + j)) (tC (.int 2)) (tOp (rI (fun _ j=>0 < j) fun i j=>.int (i % j)) (zn zm [] E0 (zb (zn (z0 K) [] E0 (zb (zc 0) (zb (tC (.int 1)) zi))) (zb (tC (.int 201)) zi))) (tC (.int 11)))) (zl 3))
  (zo (zK (zn vL [] E0 (zb (zn (z0 K) [] E0 (zb (zc 0) (zb (tC (.int 2)) zi))) (zb (zc 2) (zb (zc 3) zi)))) (zl 4))
  (zo (zK (tOp (rI0 fun i j=>.int (i + j)) (tC (.int 2)) (tOp (rI (fun _ j=>0 < j) fun i j=>.int (i % j)) (zn zm [] E0 (zb (zn (z0 K) [] E0 (zb (zc 0) (zb (tC (.int 0)) zi))) (zb (tC (.int 200)) zi))) (tC (.int 7)))) (zl 5))
  (Xo K t))))))
section
variable {K:bD} {t:Adr} {H:Hp} {Q:VK}
theorem QT {j:Int} (h0:0≤j) (h1:j≤100):Kn 10 j:=⟨h0,by lia,by decide⟩
theorem zV {n:Nat} (h:n≤100000):n≤sizeLine:=bU h (by decide)
theorem v9 (T:String):lJ K (.type T) (.type T)=some true:=by
 unfold lJ
 rw [if_pos (by simp)]
theorem kf (K:bD):KF K:=⟨by with_unfolding_all rfl,by with_unfolding_all rfl,by with_unfolding_all rfl⟩
theorem dB {i j:Int} (h0:0 < j:=by decide) (h1:j < 10000000000000000000000000000000000000000000000:=by decide):zbq i j:=by
 have hb:(10000000000000000000000000000000000000000000000:Int) < big:=by decide +kernel
 exact ⟨h0,by lia⟩
theorem QU {α:Type} {xs:List α} {i:Int} (h0:0≤i) (h1:i < xs.length):∃ x,atI xs i=some x∧x∈xs:=by
 obtain ⟨n,rfl⟩:∃ n:Nat,i=(n:Int):=⟨i.toNat,by lia⟩
 have hn:n < xs.length:=by lia
 refine ⟨xs[n],?_,da hn⟩
 unfold atI ixN
 rw [if_pos h0,if_pos h1]
 simp [hn]
theorem K7 {α:Type} {xs:List α} (e:Int) (n:Nat) (hl:xs.length=n) (hn:0 < (n:Int)):∃ x,atI xs (e % n)=some x∧x∈xs :=
 QU (cQ _ (by lia)) (by rw [hl];exact cF _ hn)
theorem Vt {i:Int} (hK:zd7 K) (q:∀ H',Same H H'→Q (.bl (inW i)) H') :
  kq K t { nx:=fun _ H'=>Q .non H',rt:=Q } (L2.start ["thing"] [.int i]) H:=by
 simp only [kq,L2.start,zo,zD,zI,tOp,tUn,zc,tC,zb,zi,zS,tOr,jO,tB,tCB,Zj,rI,rI0,rU,Zq,b9,bE,bO,bB,bc,bi,exists_eq_left',V.int.injEq,V.bl.injEq,V.ty.injEq,bq,and_true,and_assoc,exists_and_left,bT,bL,decide_eq_true_eq,cB,nK,dY,dC,if_true]
 have q:=q H (Same.refl H)
 refine ⟨_,.int i,true,v9 _,?_⟩
 rw [if_neg (by decide)]
 refine ⟨_,.int i,false,hK,?_⟩
 rw [if_neg (by decide)]
 refine ⟨QT (by decide) (by decide),xu (fun c=>⟨QT (by decide) (by decide),?_⟩) fun c=>?_⟩
 ·have e:inW i=decide (i≤1000000000000000000000000000000):=by
   unfold inW
   by_cases h:i≤1000000000000000000000000000000
   ·rw [decide_eq_true h,decide_eq_true ⟨c,h⟩]
   ·rw [decide_eq_false h,decide_eq_false fun z=>h z.2]
  rw [e] at q
  exact q
 ·have e:inW i=false:=decide_eq_false fun z=>c z.1
  rw [e] at q
  exact q
theorem JD {E:XK} {w:Str} {a b:Int} (hw:w.length≤1000) (ha:inW a=true) (hb:inW b=true) (q:∀ H',Same H H'→if b=0 then E (.ref t.c_Nought) none H' else Q (.int (if w="over" then a.fdiv b else a.fmod b)) H') :
  qx K t E { nx:=fun _ H'=>Q .non H',rt:=Q } (L2.start ["word","first","second"] [.str w,.int a,.int b]) H:=by
 simp only [qx,L2.start,qe,V6,zo,zD,zI,tOp,zc,tC,zb,zi,zS,zC,tIf,rEq,rI,jS,b9,bE,bO,bB,bc,bd,bi,exists_eq_left',V.int.injEq,V.str.injEq,V.bl.injEq,true_and,exists_and_left,bT,bL,decide_eq_true_eq]
 have q:=q H (Same.refl H)
 have B:=Vg hb
 refine xu (fun c=>?_) fun c=>?_
 ·rw [if_pos c] at q
  exact ⟨by lia,fun y=>⟨by decide,q⟩⟩
 ·rw [if_neg c] at q
  refine xu (fun e=>?_) fun e=>?_
  ·rw [if_pos e] at q
   exact ⟨⟨c,B⟩,q⟩
  ·rw [if_neg e] at q
   exact ⟨c,q⟩
theorem JE {E:XK} {w:Str} {a b:Int} (hw:w.length≤1000) (ha:inW a=true) (hb:inW b=true) (q:∀ H',Same H H'→if ZU w∧b=0 then E (.ref t.c_Nought) none H' else Q (.int (wT w a b)) H') :
  qy K t E { nx:=fun _ H'=>Q .non H',rt:=Q } (L2.start ["word","first","second"] [.str w,.int a,.int b]) H:=by
 simp only [qy,qu,L2.start,zo,zD,zI,tOp,zc,tC,zb,zi,zS,zC,tIf,zn,rEq,rI,rI0,jS,b9,bE,bO,bB,bc,bd,bi,exists_eq_left',V.int.injEq,V.str.injEq,V.bl.injEq,bq,and_true,true_and,and_assoc,exists_and_left,bT,bL,decide_eq_true_eq]
 have A:=Vg ha
 have B:=Vg hb
 have nd:¬ ZU w→Q (.int (wT w a b)) H:=fun h=>by
  have q:=q H (Same.refl H)
  rw [if_neg fun z=>h z.1] at q
  exact q
 refine xu (fun c=>?_) fun c1=>xu (fun c=>?_) fun c2=>xu (fun c=>⟨⟨A,B⟩,?_⟩) fun c3=>xu (fun c=>?_) fun c4=>xu (fun c=>?_) fun c5=>⟨hw,ha,hb,fun H' s=>?_⟩
 ·subst c
  have q:=nd fun z=>z.1 rfl
  exact q
 ·subst c
  have q:=nd fun z=>z.2.1 rfl
  rw [show wT "minus" a b=a - b by unfold wT;rw [if_neg c1,if_pos rfl]] at q
  exact q
 ·subst c
  have q:=nd fun z=>z.2.2.1 rfl
  rw [show wT "times" a b=a * b by unfold wT;rw [if_neg c1,if_neg c2,if_pos rfl]] at q
  exact q
 ·subst c
  have q:=nd fun z=>z.2.2.2.1 rfl
  rw [show wT "under" a b=if a < b then 1 else 0 by unfold wT;rw [if_neg c1,if_neg c2,if_neg c3,if_pos rfl]] at q
  refine xu (fun d=>?_) fun d=>?_
  ·rw [if_pos d] at q;exact q
  ·rw [if_neg d] at q;exact q
 ·subst c
  have q:=nd fun z=>z.2.2.2.2 rfl
  rw [show wT "same" a b=if a=b then 1 else 0 by unfold wT;rw [if_neg c1,if_neg c2,if_neg c3,if_neg c4,if_pos rfl]] at q
  refine xu (fun d=>?_) fun d=>?_
  ·rw [if_pos d] at q;exact q
  ·rw [if_neg d] at q;exact q
 ·have q:=q H' s
  have hd:ZU w:=⟨c1,c2,c3,c4,c5⟩
  refine xu (fun d=>?_) fun d=>?_
  ·rw [if_pos ⟨hd,d⟩] at q;exact q
  ·rw [if_neg fun z=>d z.2] at q
   unfold wT at q
   rw [if_neg c1,if_neg c2,if_neg c3,if_neg c4,if_neg c5] at q
   exact q
theorem K8 {E:XK} {w:Str} {a b:Int} (hw:w.length≤1000) (ha:inW a=true) (hb:inW b=true) (q:∀ H',Same H H'→fin t (wH w a b) Q E H') :
  ZC K t E { nx:=fun _ H'=>Q .non H',rt:=Q } (L2.start ["word","first","second","worth"] [.str w,.int a,.int b]) H:=by
 simp only [ZC,qv,kg,L2.start,qe,V6,zo,zK,zl,zD,zI,zc,zb,zi,zS,jO,tB,zn,b9,bE,bO,bI,bQ,bB,bc,bd,bi,exists_eq_left',V.int.injEq,V.str.injEq,V.bl.injEq,bq,and_true,and_assoc,exists_and_left,bp,bu,bT,bL,cB]
 refine ⟨hw,ha,hb,fun H1 s1=>xu (fun c=>?_) fun c H2 s2=>xu (fun d=>?_) fun d=>?_⟩
 ·have q:=q H1 s1
  unfold wH at q
  rw [if_pos c] at q
  exact q
 ·have q:=q H2 (s1.trans s2)
  unfold wH at q
  rw [if_neg c,if_neg (by rw [d];decide)] at q
  exact ⟨by lia,fun y=>⟨by decide,q⟩⟩
 ·have q:=q H2 (s1.trans s2)
  unfold wH at q
  rw [if_neg c,if_pos (by simpa using d)] at q
  exact q
theorem Xp {xs:List V} {y:V}:(xs ++ [y])[(xs ++ [y]).length - 1]?=some y:=by simp
theorem ZI {xs:List V} {y:V}:(xs ++ [y]).dropLast=xs:=by simp
theorem yt {H H':Hp} {w:Addr} {o:HO} (s:Same H H') (hw:H w=none):Same H (upd H' w o):=fun b u e=>by rw [zk (zP e hw)];exact s b u e
theorem zfD (st:List Int):(∃ l a b,st=l ++ [a,b])∨∀ kvs v,isJ v=true→xH kvs st v=.error .stuck:=by
 cases h:st.reverse with
 | nil =>
  refine .inr fun kvs v hv=>?_
  unfold xH
  rw [hv,if_pos rfl,h]
  split <;> rename_i e1 e2 <;> first | rfl | cases e2
 | cons b r =>
  cases r with
  | nil =>
   refine .inr fun kvs v hv=>?_
   unfold xH
   rw [hv,if_pos rfl,h]
   split <;> rename_i e1 e2 <;> first | rfl | cases e2
  | cons a r =>
   refine .inl ⟨r.reverse,a,b,?_⟩
   have:=congrArg pi h
   rw [List.reverse_reverse] at this
   rw [this];simp
theorem zcz {kvs:List (Key × V)} {l:List Int} {a b:Int} {w:Str} (hw:isJ (.str w)=true):xH kvs (l ++ [a,b]) (.str w)=match wH w a b with | .ok c=>.ok (l ++ [c]) | .error e=>.error e:=by
 unfold xH
 rw [hw,if_pos rfl]
 simp only [oj,fA,pC,bQ,bI]
 cases wH w a b with
 | error e=>rfl
 | ok c=>simp
def rkI (kvs:List (Key × V)) (ps:List V) (tm sl w:Addr) (H:Hp) (i:Nat) (σ:St) (H':Hp):Prop:=∃ st,(∃ o3 o4 o5,σ=[some (.ref tm),some (.ref sl),some (.ref w),o3,o4,o5])∧xP kvs (ps.take i) []=.ok st∧(∀ x∈st,inW x=true)∧st.length≤i∧H' w=some (.lst (st.map V.int))∧Same H H'
theorem Vu {E:XK} {kvs:List (Key × V)} {tm sl:Addr} {ps:List V} {r:Except Er Int} (hK:lJ K (.type "int") (.type "str")=some false) (hJ:∀ H:Hp,SqT K H t.c_JOINING jw) (h1:H tm=some (.tup ps)) (h2:H sl=some (.dK kvs)) (h3:Good kvs ps r) (h4:∀ v∈ps,jm v) (h5:ps.length≤1000) (h6:yv kvs)
  (q:∀ H',Same H H'→fin t r Q E H'):kr K t E { nx:=fun _ H'=>Q .non H',rt:=Q } (L2.start ["term","slots","worths","part","second","first"] [.ref tm,.ref sl]) H:=by
 simp only [kr,L2.start,j2,zdy,zo,zK,zl,zD,zc,xj,zi,xr,zat,tyV,zfc,b9,bE,bO,bI,bQ,bc,bi,exists_eq_left',V.ref.injEq,true_and,exists_and_left,bp,bu,bT,bL]
 refine ⟨by decide,fun w hw=>⟨⟨_,SqT.of ((isV w hw) _ _ h1)⟩,?_⟩⟩
 have run0:=h3.1 []
 have fe:∀ {e:Er} {H':Hp},xP kvs ps []=.error e→Same H H'→fin t (.error e) Q E H':=fun {e H'} z s=>by
  rw [z] at run0
  cases r with
  | ok i=>cases run0
  | error e' =>
   cases run0
   exact q _ s
 have ns:xP kvs ps []≠.error .stuck:=fun z=>by
  rw [z] at run0
  cases r with
  | ok i=>cases run0
  | error e' =>
   cases run0
   exact h3.2 rfl
 refine zbv ps (rkI kvs ps tm sl w H) ⟨[],⟨_,_,_,rfl⟩,rfl,(fun x z=>nomatch z),bj _,ze,isV w hw⟩ (fun i σ H' ⟨st,a,b,c,d,e,s⟩=>SqT.of (s _ _ h1)) ?_ ?_
 ·rintro i v σ H' hv ⟨st,⟨o3,o4,o5,rfl⟩,hr,hW,hl,hst,hS⟩
  have hi:i < ps.length:=(bw.mp hv).1
  have one:=zdI hr hv
  have ok:=h4 v (cq hv)
  have fl:qJ v=true:=by rcases ok with ⟨j,rfl,_⟩ | ⟨x,rfl,_⟩ <;> rfl
  simp only [kR,tOp,zc,tC,zS,zC,rIn,bc,bd,bi,exists_eq_left',V.ref.injEq,V.bl.injEq,exists_and_left,bp,bu,cu,ite_false]
  refine ⟨jw,.inr (hJ H'),fl,rfl,xu (fun c=>?_) fun c=>?_⟩
  ·simp only [kP,ZA,yc,j2,jh,zdy,zo,zK,zl,xb,zc,zb,zi,tBM,zat,tyV,zn,bB,bc,bd,bi,exists_eq_left',V.ref.injEq,bq,and_true,true_and,and_assoc,exists_and_left,bp,bu]
   rcases zfD st with ⟨l,a,b,rfl⟩ | z
   ·obtain ⟨x,rfl,hx⟩:∃ x:Str,v=.str x∧x.length≤1000:=by
     rcases ok with ⟨j,rfl,_⟩ | h
     ·exact absurd c (by rw [show inV (V.int j) jw=false from rfl];decide)
     ·exact h
    have e1:b9 V.int (l ++ [a,b])=(l.map V.int ++ [.int a]) ++ [.int b]:=by simp
    rw [e1] at hst
    have one':=one.trans (zcz c)
    have wa:=hW a (by simp)
    have wb:=hW b (by simp)
    refine ⟨.inl ⟨_,SqL.of hst⟩,_,hst,_,Xp,.inl ⟨_,SqL.of ze⟩,_,by rw [ZI];exact ze,_,Xp,.inl ⟨_,SqL.of ze⟩,x,rfl,a,rfl,b,rfl,hx,wa,wb,fun H2 s2=>?_⟩
    rw [ZI,ZI] at s2
    have S2:Same H H2:=(yt (yt hS hw) hw).trans s2
    cases e:wH x a b with
    | ok d =>
     rw [e] at one'
     have hd:inW d=true:=by
      unfold wH at e
      split at e
      ·cases e
      ·split at e
       ·rename_i z;cases e;exact z
       ·cases e
     refine ⟨_,s2 _ _ ze,?_,l ++ [d],⟨_,_,_,rfl⟩,one',?_,?_,?_,yt S2 hw⟩
     ·rw [bn]
      have:(l ++ [a,b]).length=l.length + 2:=by simp
      exact b0 (by lia:l.length≤1000) (by decide)
     ·intro y hy
      rcases bP.mp hy with h | h
      ·exact hW y (cz _ h)
      ·have:y=d:=by simpa using h
       rw [this];exact hd
     ·have:(l ++ [a,b]).length=l.length + 2:=by simp
      rw [bt];show l.length + 1≤i + 1
      lia
     ·rw [cY];exact ze
    | error er =>
     rw [e] at one'
     have:=fe (QD one') S2
     cases er with
     | nought=>exact this
     | great=>exact this
     | stuck=>trivial
   ·exact absurd (QD (one.trans (z kvs v c))) ns
  ·simp only [kQ,qd,qd,yc,jh,xb,zc,tC,zb,zi,tB,tIf,tCB,tBM,tyV,Zq,bc,bd,bi,exists_eq_left',V.ref.injEq,V.bl.injEq,V.ty.injEq,bq,and_true,true_and,and_assoc,exists_and_left]
   have st1:xH kvs st v=.ok (st ++ [Vf kvs v]):=by
    unfold xH
    rw [if_neg (by unfold isJ;exact c)]
   have one':=one.trans st1
   have hwv:=V9 h6 ok
   have fin1:∀ u,u=V.int (Vf kvs v)→rkI kvs ps tm sl w H (i + 1) [some (V.ref tm),some (V.ref sl),some (V.ref w),some v,o4,o5] (upd H' w (HO.lst (b9 V.int st ++ [u]))):=fun u hu=>by
    subst hu
    refine ⟨st ++ [Vf kvs v],⟨_,_,_,rfl⟩,one',?_,?_,?_,yt hS hw⟩
    ·intro y hy
     rcases bP.mp hy with h | h
     ·exact hW y h
     ·have:y=Vf kvs v:=by simpa using h
      rw [this];exact hwv
    ·rw [bt];show st.length + 1≤i + 1
     lia
    ·rw [cY];exact ze
   have sz:(b9 V.int st).length < sizeLine:=by
    rw [bn]
    exact b0 (by lia:st.length≤1000) (by decide)
   refine ⟨.inl ⟨_,SqL.of hst⟩,?_⟩
   rcases ok with ⟨j,rfl,hj⟩ | ⟨x,rfl,hx⟩
   ·refine ⟨_,.int j,false,hK,?_⟩
    rw [if_neg (by decide)]
    exact ⟨_,hst,sz,fin1 _ rfl⟩
   ·refine ⟨_,.str x,true,v9 _,?_⟩
    rw [if_pos rfl]
    refine ⟨.inl ⟨kvs,.inl (hS _ _ h2)⟩,_,DGet.k (k:=.inr x) (hS _ _ h2),_,hst,sz,fin1 _ ?_⟩
    show (yf kvs (.inr x)).getD (V.int 0)=V.int (match yf kvs (.inr x) with | some (.int i)=>i | _=>0)
    cases e:yf kvs (.inr x) with
    | none=>rfl
    | some u =>
     obtain ⟨i,rfl,_⟩:=h6 _ _ e
     rfl
 ·rintro σ H' ⟨st,⟨o3,o4,o5,rfl⟩,hr,hW,hl,hst,hS⟩
  rw [dk] at hr
  simp only [bc,bd,bi,exists_eq_left',V.ref.injEq]
  rw [hr] at run0
  cases r with
  | error e=>cases run0
  | ok i =>
   have e:st=[i]:=by injection run0
   subst e
   exact ⟨.inl ⟨_,SqL.of hst⟩,_,hst,_,rfl,q _ (yt hS hw)⟩
theorem ZJ {a:Addr} {ns:List Int} {k:Nat} (hS:SqL K H a (ns.map V.int)) (hl:ns.length≤63) (q:∀ c H',Same H H'→Q (.int c) H') :
  wE K t { nx:=fun _ H'=>Q .non H',rt:=Q } (L2.start ["script","k"] [.ref a,.int k]) H:=by
 simp only [wE,L2.start,zo,zD,zI,tOp,zc,tC,zb,zi,zS,zC,tCB,je,yw,rI0,yG,b9,bE,bO,bB,bc,bd,bi,exists_eq_left',V.int.injEq,V.ref.injEq,V.bl.injEq,bq,and_true,exists_and_left,bT,bL,decide_eq_true_eq]
 refine ⟨_,.inl ⟨_,hS,rfl⟩,xu (fun c=>?_) fun _=>q _ _ (Same.refl H)⟩
 obtain ⟨v,hv,hm⟩:=QU (xs:=ns.map V.int) (i:=(k:Int)) (by lia) c
 obtain ⟨i,_,rfl⟩:=b8.mp hm
 exact ⟨_,hS,_,hv,q _ _ (Same.refl H)⟩
theorem x9 (c:Nat):({ cps:=#[c] }:Str).length=1:=rfl
theorem zG {H H':Hp} {D:Addr} (s:Same H H') (h:H' D=none):H D=none:=by
 cases e:H D with
 | none=>rfl
 | some o=>rw [s _ _ e] at h;cases h
theorem fin_err {t:Adr} {e:Er} {Q:VK} {E:XK} {H:Hp}:fin t (.error e) Q E H↔Jy t e E H:=by cases e <;> rfl
theorem fin_ok {t:Adr} {i:Int} {Q:VK} {E:XK} {H:Hp}:fin t (.ok i) Q E H↔Q (.int i) H:=Iff.rfl
theorem X4 {c j:Int} (h1:0≤j) (h2:j≤1000) (q:∀ r H',0≤r→r < 2147483648→Same H H'→Q (.int r) H') :
  jB K t { nx:=fun _ H'=>Q .non H',rt:=Q } (L2.start ["cell","j","far"] [.int c,.int j]) H:=by
 simp only [jB,L2.start,zo,zK,zl,zD,tOp,zc,tC,rI,rI0,b9,bE,bO,bI,bQ,bc,bd,bi,exists_eq_left',V.int.injEq,exists_and_left,bp,bu,bT,bL]
 have hb:(10000000000000000000000000000000000000000000000:Int) < big:=by decide +kernel
 have g1:=cQ c (b:=1000000007) (by decide)
 have g2:=cF c (b:=1000000007) (by decide)
 generalize c % 1000000007=a at *
 have g3:=cQ (a * 6700417 + (j + 1) * 104729 * 65537) (b:=1000000009) (by decide)
 have g4:=cF (a * 6700417 + (j + 1) * 104729 * 65537) (b:=1000000009) (by decide)
 generalize hf:(a * 6700417 + (j + 1) * 104729 * 65537) % 1000000009=f at *
 have g5:=cQ (f * f) (b:=1000000009) (by decide)
 have g6:=cF (f * f) (b:=1000000009) (by decide)
 generalize hg:f * f % 1000000009=g at *
 have g7:=cQ (g * f) (b:=1000000009) (by decide)
 have g8:=cF (g * f) (b:=1000000009) (by decide)
 refine ⟨by decide,⟨⟨by lia,by lia⟩,by lia,by lia⟩,⟨⟨by lia,by lia⟩,by lia,by lia⟩,⟨⟨by lia,by lia⟩,by lia,by lia⟩,by decide,?_⟩
 refine ⟨⟨⟨by lia,by lia⟩,by lia,by lia⟩,by decide,⟨⟨by lia,by lia⟩,by lia,by lia⟩,by decide,dB,q _ _ ?_ ?_ (Same.refl H)⟩
 ·exact lB g7 (by decide)
 ·lia
theorem CsAt.same {H H':Hp} {v:V} {c:Cs} (h:CsAt H v c) (s:Same H H'):CsAt H' v c:=by
 cases c with
 | row r=>exact ⟨h.1.mono s,h.2⟩
 | skip e to =>
  obtain ⟨p,te,h1,h2,h3⟩:=h
  exact ⟨p,te,h1,s _ _ h2,s _ _ h3⟩
 | go en =>
  obtain ⟨p,h1,h2⟩:=h
  exact ⟨p,h1,s _ _ h2⟩
theorem y9 {H H':Hp} (s:Same H H'):∀ {xs:List V} {C:List Cs},Paired (CsAt H) xs C→Paired (CsAt H') xs C
 | _,_,.nil=>.nil
 | _,_,.cons h r=>.cons (h.same s) (y9 s r)
def TSm (H H':Hp):Prop:=∀ b ys,H b=some (.tup ys)→H' b=some (.tup ys)
theorem CsAt.ts {H H':Hp} {v:V} {c:Cs} (s:TSm H H') (h:CsAt H v c):CsAt H' v c:=by
 cases c with
 | row r =>
  obtain ⟨h,n⟩:=h
  refine ⟨?_,n⟩
  cases r with
  | iff e a b=>exact n.elim
  | take sh e sl =>
   obtain ⟨r,te,a1,a2,a3,a4,a5⟩:=h
   exact ⟨r,te,a1,a2,a3,s _ _ a4,s _ _ a5⟩
  | give sh e f =>
   obtain ⟨r,te,tf,a1,a2,a3,a4,a5,a6,a7⟩:=h
   exact ⟨r,te,tf,a1,a2,a3,a4,s _ _ a5,s _ _ a6,s _ _ a7⟩
  | lt sl e =>
   obtain ⟨r,te,a1,a2,a3,a4,a5⟩:=h
   exact ⟨r,te,a1,a2,a3,s _ _ a4,s _ _ a5⟩
  | say e =>
   obtain ⟨r,te,a1,a2,a3,a4,a5⟩:=h
   exact ⟨r,te,a1,a2,a3,s _ _ a4,s _ _ a5⟩
  | off e =>
   obtain ⟨r,te,a1,a2,a3,a4,a5⟩:=h
   exact ⟨r,te,a1,a2,a3,s _ _ a4,s _ _ a5⟩
 | skip e to =>
  obtain ⟨p,te,h1,h2,h3⟩:=h
  exact ⟨p,te,h1,s _ _ h2,s _ _ h3⟩
 | go en =>
  obtain ⟨p,h1,h2⟩:=h
  exact ⟨p,h1,s _ _ h2⟩
theorem vV {H H':Hp} (s:TSm H H'):∀ {xs:List V} {C:List Cs},Paired (CsAt H) xs C→Paired (CsAt H') xs C
 | _,_,.nil=>.nil
 | _,_,.cons h r=>.cons (h.ts s) (vV s r)
theorem QV (x:Rw):(∃ e a b,x=.iff e a b)∨ZB x:=by
 cases x with
 | iff e a b=>exact .inl ⟨e,a,b,rfl⟩
 | _=>exact .inr trivial
theorem xa {x:Rw} (h:ZB x) (k:Nat):yn x k=[.row x]:=by
 cases x with
 | iff e a b=>exact h.elim
 | _=>rw [yn];intro e a b z;cases z
theorem zd9 {F:Addr→Prop} {v:V} {r:Rw} (h:RwAt F H v r):∃ p xs hd,v=.ref p∧H p=some (.tup xs)∧atI xs 0=some (.str hd)∧(hd="if"↔¬ ZB r):=by
 cases r with
 | take sh e sl =>
  unfold RwAt at h
  obtain ⟨r,te,rfl,_,_,e2,e3⟩:=h
  exact ⟨r,_,_,rfl,e2,rfl,⟨fun z=>absurd z (by decide +kernel),fun z=>absurd trivial z⟩⟩
 | give sh e f =>
  unfold RwAt at h
  obtain ⟨r,te,tf,rfl,_,_,_,e2,e3⟩:=h
  exact ⟨r,_,_,rfl,e2,rfl,⟨fun z=>absurd z (by decide +kernel),fun z=>absurd trivial z⟩⟩
 | lt sl e =>
  unfold RwAt at h
  obtain ⟨r,te,rfl,_,_,e2,e3⟩:=h
  exact ⟨r,_,_,rfl,e2,rfl,⟨fun z=>absurd z (by decide +kernel),fun z=>absurd trivial z⟩⟩
 | say e =>
  unfold RwAt at h
  obtain ⟨r,te,rfl,_,_,e2,e3⟩:=h
  exact ⟨r,_,_,rfl,e2,rfl,⟨fun z=>absurd z (by decide +kernel),fun z=>absurd trivial z⟩⟩
 | off e =>
  unfold RwAt at h
  obtain ⟨r,te,rfl,_,_,e2,e3⟩:=h
  exact ⟨r,_,_,rfl,e2,rfl,⟨fun z=>absurd z (by decide +kernel),fun z=>absurd trivial z⟩⟩
 | iff e a b =>
  unfold RwAt at h
  obtain ⟨r,te,la,lb,xs,ys,rfl,f1,f2,f3,f4,e2,e3⟩:=h
  exact ⟨r,_,_,rfl,e2,rfl,⟨fun _ z=>z,fun _=>rfl⟩⟩
theorem Paired.app2 {α β:Type} {F:α→β→Prop}:∀ {a:List α} {b:List β} {c:List α} {d:List β},Paired F a b→Paired F c d→Paired F (a ++ c) (b ++ d)
 | _,_,_,_,.nil,h=>h
 | _,_,_,_,.cons h r,h2=>.cons h (Paired.app2 r h2)
theorem JF {v:V} {r:Rws} (h1:zdS XV H v r) (h2:Ye 6 r) (h3:(zH r 0).length≤500) (q:∀ l xs H',Same H H'→H l=none→H' l=some (.lst xs)→Paired (CsAt H') xs (zH r 0)→Q (.ref l) H') :
  qB K t { nx:=fun _ H'=>Q .non H',rt:=Q } (L2.start ["rows"] [v]) H:=by
 simp only [qB,yY,L2.start,zD,zc,tC,zb,zi,zn,b9,bE,bO,bB,bc,bi,exists_eq_left',V.int.injEq,bq,and_true,and_assoc,exists_and_left,bT,bL]
 exact ⟨r,0,rfl,h1,h2,by lia,q⟩
def sfI (v:V) (L:Addr) (xs:List V) (k n:Nat) (r:Rws) (H:Hp) (i:Nat) (σ:St) (H':Hp):Prop:=∃ (rest:Rws) (ys:List V) (C:List Cs),(∃ o,σ=[some v,some (.int k),some (.ref L),o])∧Same H H'∧H' L=some (.lst ys)∧Paired (CsAt H') ys C∧RwsAt XV H (xs.drop i) rest∧Ye (n + 1) rest∧C ++ zH rest (k + C.length)=zH r k
theorem K9 {H:Hp} {L:Addr} {ys zs:List V} (h:H L=some (.lst ys)):TSm H (upd H L (.lst zs)):=fun b us e=>by rw [zk (yE e h (fun z=>nomatch z))];exact e
theorem Vv {v:V} {r:Rws} {k n:Nat} (h1:zdS XV H v r) (h2:Ye (n + 1) r) (h3:k + (zH r k).length≤500) (q:∀ l xs H',Same H H'→H l=none→H' l=some (.lst xs)→Paired (CsAt H') xs (zH r k)→Q (.ref l) H') :
  Z6 K t n { nx:=fun _ H'=>Q .non H',rt:=Q } (L2.start ["rows","first","steps","row"] [v,.int k]) H:=by
 obtain ⟨p,xs,rfl,_,hp,hx⟩:=h1
 refine ⟨bY _,fun L hL=>?_⟩
 have s0:=isV (o:=HO.lst []) L hL
 refine ⟨_,rfl,p,rfl,⟨_,SqL.of (s0 _ _ hp)⟩,?_⟩
 refine xy xs (sfI (.ref p) L xs k n r H) ⟨r,[],[],⟨_,rfl⟩,s0,ze,.nil,by rw [ii];exact hx,h2,rfl⟩ (fun i σ H' ⟨_,_,_,_,s,_⟩=>SqL.of (s _ _ hp)) ?_ ?_
 ·rintro i u σ H' hu ⟨rest,ys,C,⟨o,rfl⟩,s,hy,pr,hr,ok,eq⟩
  obtain ⟨x,rs,rfl,rx,rr⟩:=hr.get hu
  have e0:zH (.cons x rs) (k + C.length)=yn x (k + C.length) ++ zH rs (k + C.length + (yn x (k + C.length)).length):=by rw [zH]
  rw [e0] at eq
  have okd:=ok.dp
  have c1:(Rws.cons x rs).deep=max x.deep rs.deep:=by rw [Rws.deep]
  rw [c1] at okd
  have okc:=ok.ct
  have c2:(Rws.cons x rs).cnt=x.cnt + rs.cnt:=by rw [Rws.cnt]
  rw [c2] at okc
  have okp:=ok.pl
  unfold yR at okp
  have le:=congrArg bO eq
  rw [bt,bt] at le
  have ly:=bH pr
  have nx:∀ {H2:Hp} {o':Option V} {zs:List V},Same H H2→H2 L=some (.lst zs)→Paired (CsAt H2) zs (C ++ yn x (k + C.length))→sfI (.ref p) L xs k n r H (i + 1) [some (.ref p),some (.int k),some (.ref L),o'] H2:=fun {H2 o' zs} s2 g2 p2 =>
   ⟨rs,zs,_,⟨_,rfl⟩,s2,g2,p2,rr,⟨by lia,by lia,okp.2⟩,by rw [eK,bt,← Nat.add_assoc];exact eq⟩
  obtain ⟨p1,fs,hd,rfl,e2,e3,e4⟩:=zd9 rx
  refine jo rfl (s _ _ e2) e3 (fun ez=>?_) fun ez=>?_
  ·rcases QV x with ⟨e,a,b,rfl⟩ | hni
   rotate_left
   ·exact absurd hni (e4.mp ez)
   have d1:(Rw.iff e a b).deep=max a.deep b.deep + 1:=by rw [Rw.deep]
   have d2:(Rw.iff e a b).cnt=max a.cnt b.cnt + 1:=by rw [Rw.cnt]
   rw [d1] at okd
   rw [d2] at okc
   have pl:=okp.1
   unfold Y4 at pl
   refine ⟨_,rfl,.inl ⟨rfl,_,SqL.of hy⟩,_,rfl,_,rfl,zcr rfl hy ⟨_,_,rfl,rfl,_,e,a,b,k + C.length,by rw [← ly];rfl,rx.mono s,⟨by lia,by lia,pl.2.1⟩,⟨by lia,by lia,pl.2.2⟩,by lia,fun l us H2 s2 hl pu=>?_⟩⟩
   have lu:=bH pu
   refine ⟨L,_,ys,us,rfl,rfl,s2 _ _ hy,hl,bU (by lia:ys.length + us.length≤1000) (by decide),?_⟩
   exact nx (yt (s.trans s2) hL) ze (vV (K9 (s2 _ _ hy)) (Paired.app2 (y9 s2 pr) pu))
  ·have hni:ZB x:=by
    rcases QV x with ⟨e,a,b,rfl⟩ | hni
    ·exact absurd (e4.mpr (fun z=>z)) ez
    ·exact hni
   have ec:=xa hni (k + C.length)
   rw [ec] at nx
   refine ⟨_,rfl,.inl ⟨rfl,_,SqL.of hy⟩,_,rfl,L,ys,_,rfl,rfl,hy,b0 (by lia:ys.length≤900) (by decide),?_⟩
   exact nx (yt s hL) ze (Paired.snocP (vV (K9 hy) pr) (CsAt.ts (K9 hy) ⟨rx.mono s,hni⟩))
 ·rintro σ H' ⟨rest,ys,C,⟨o,rfl⟩,s,hy,pr,hr,ok,eq⟩
  have e:=hr.none
  subst e
  rw [show zH .nil (k + C.length)=[] by rw [zH],bB] at eq
  rw [eq] at pr
  exact ⟨_,rfl,q L ys H' s hL hy pr⟩
theorem X5 {H H':Hp} {a:Addr} {o:HO} (e:upd H a o=H') (h:H a=none):Same H H'∧H' a=some o:=⟨e ▸ isV a h,e ▸ ze⟩
theorem Yl {v:V} {e:List V} {a b:Rws} {k n:Nat} (h1:RwAt XV H v (.iff e a b)) (h2:Ye n a) (h3:Ye n b) (h4:k + (yn (.iff e a b) k).length≤500) (q:∀ l xs H',Same H H'→H' l=some (.lst xs)→Paired (CsAt H') xs (yn (.iff e a b) k)→Q (.ref l) H') :
  ky K t n { nx:=fun _ H'=>Q .non H',rt:=Q } (L2.start ["row","at","steps","to","others"] [v,.int k]) H:=by
 unfold RwAt at h1
 obtain ⟨p,te,la,lb,xs,ys,rfl,f1,f2,f3,f4,e2,e3,e4,e6,e5,e7⟩:=h1
 have ec:yn (.iff e a b) k=blk e k (zH a (k + 1)) (Rws.isNil b) (zH b (k + 2 + (zH a (k + 1)).length)):=by rw [yn]
 rw [ec] at h4 q
 refine Y8 rfl e2 rfl ⟨_,rfl,_,_,rfl,rfl,.ref la,a,k + 1,rfl,⟨la,xs,rfl,f3,e4,e6⟩,h2,?_,fun l us H1 s1 fl hl pu=>?_⟩
 ·unfold blk at h4;split at h4 <;> simp only [cp,bt] at h4 <;> lia
 have lu:=bH pu
 generalize zH a (k + 1)=A at *
 refine ⟨_,rfl,_,_,rfl,rfl,zcr rfl hl ⟨_,_,rfl,rfl,?_⟩⟩
 have ei:(k:Int) + 1 + us.length=((k + 1 + A.length:Nat):Int):=by lia
 show v7 K t n _ [some (.ref p),some (.int k),some (.ref l),some (.int ((k:Int) + 1 + us.length)),none] H1
 rw [ei]
 refine Y8 rfl (s1 _ _ e2) rfl ⟨bY _,fun z gz=>?_⟩
 generalize f0:upd H1 z _=H2
 obtain ⟨s2,hz⟩:=X5 f0 gz
 have S2:=s1.trans s2
 refine ⟨lb,z,ys,rfl,rfl,SqL.of (S2 _ _ e5),SqL.of hz,_,rfl,?_⟩
 have nb:Rws.isNil b=decide (ys=[]):=by
  cases b with
  | nil=>unfold RwsAt at e7;simp [Rws.isNil,e7]
  | cons x r=>unfold RwsAt at e7;obtain ⟨v,vs,rfl,_⟩:=e7;simp [Rws.isNil]
 have hl2:=s2 _ _ hl
 have pu2:=y9 s2 pu
 show if _ then _ else _
 by_cases hb:ys=[]
 ·rw [if_pos (decide_eq_true hb)]
  have eb:∀ B,blk e k A (Rws.isNil b) B=.skip e (k + 1 + A.length) :: A:=fun B=>by unfold blk;rw [if_pos (by rw [nb];exact decide_eq_true hb)]
  rw [eb] at q h4
  rw [cp] at h4
  refine Y8 rfl (S2 _ _ e2) rfl ⟨_,rfl,by show (3:Nat)≤sizeLine;decide,fun p1 g1=>?_⟩
  generalize c1:upd H2 p1 _=H3
  obtain ⟨t1,hp1⟩:=X5 c1 g1
  refine ⟨by show (1:Nat)≤sizeLine;decide,fun p2 g2=>?_⟩
  generalize c2:upd H3 p2 _=H4
  obtain ⟨t2,hp2⟩:=X5 c2 g2
  have T:=t1.trans t2
  refine ⟨_,rfl,_,_,_,us,rfl,rfl,hp2,T _ _ hl2,bU (by show 1 + us.length≤1000;lia) (by decide),fun p3 g3=>?_⟩
  have t3:=isV (o:=HO.lst ([V.ref p1] ++ us)) p3 g3
  exact q p3 ([V.ref p1] ++ us) _ (S2.trans (T.trans t3)) ze (.cons ⟨p1,te,rfl,(t2.trans t3) _ _ hp1,(S2.trans (T.trans t3)) _ _ e3⟩ (y9 (T.trans t3) pu2))
 ·rw [if_neg (by rw [decide_eq_true_eq];exact hb)]
  have eb:∀ B,blk e k A (Rws.isNil b) B=.skip e (k + 2 + A.length) :: (A ++ (.go (k + 2 + A.length + B.length) :: B)):=fun B=>by unfold blk;rw [if_neg (by rw [nb];simpa using hb)]
  rw [eb] at q h4
  rw [cp,bt,cp] at h4
  have ej:((k + 1 + A.length:Nat):Int) + 1=((k + 2 + A.length:Nat):Int):=by lia
  refine Y8 rfl (S2 _ _ e2) rfl ⟨_,rfl,_,_,rfl,rfl,.ref lb,b,k + 2 + A.length,?_,⟨lb,ys,rfl,f4,S2 _ _ e5,e7.mono S2⟩,h3,by lia,fun l2 ws H3 s3 fl2 hl3 pw=>?_⟩
  ·show [V.ref lb,V.int (((k + 1 + A.length:Nat):Int) + 1)]=_
   rw [ej]
  have lw:=bH pw
  generalize zH b (k + 2 + A.length)=B at *
  have S3:=S2.trans s3
  refine Y8 rfl (S3 _ _ e2) rfl ⟨_,rfl,_,_,rfl,rfl,by show (3:Nat)≤sizeLine;decide,fun p1 g1=>?_⟩
  generalize c1:upd H3 p1 _=H4
  obtain ⟨t1,hp1⟩:=X5 c1 g1
  have hp1:H4 p1=some (.tup [.str (bf "skip"),.ref te,.int ((k + 2 + A.length:Nat):Int)]):=by rw [← ej];exact hp1
  refine ⟨by show (1:Nat)≤sizeLine;decide,fun p2 g2=>?_⟩
  generalize c2:upd H4 p2 _=H5
  obtain ⟨t2,hp2⟩:=X5 c2 g2
  have T2:=t1.trans t2
  refine ⟨_,rfl,_,_,_,us,rfl,rfl,hp2,(s3.trans T2) _ _ hl2,bU (by show 1 + us.length≤1000;lia) (by decide),fun p3 g3=>?_⟩
  generalize c3:upd H5 p3 _=H6
  obtain ⟨t3,hp3⟩:=X5 c3 g3
  have T3:=T2.trans t3
  refine ⟨_,rfl,_,_,rfl,rfl,zcr rfl (T3 _ _ hl3) ⟨_,_,rfl,rfl,by show (2:Nat)≤sizeLine;decide,fun p4 g4=>?_⟩⟩
  generalize c4:upd H6 p4 _=H7
  obtain ⟨t4,hp4⟩:=X5 c4 g4
  have eg:((k + 1 + A.length:Nat):Int) + 1 + ws.length=((k + 2 + A.length + B.length:Nat):Int):=by lia
  have hp4:H7 p4=some (.tup [.str (bf "go"),.int ((k + 2 + A.length + B.length:Nat):Int)]):=by rw [← eg];exact hp4
  refine ⟨by show (1:Nat)≤sizeLine;decide,fun p5 g5=>?_⟩
  generalize c5:upd H7 p5 _=H8
  obtain ⟨t5,hp5⟩:=X5 c5 g5
  refine ⟨_,_,_,_,rfl,rfl,(t4.trans t5) _ _ hp3,hp5,bU (by show ([V.ref p1] ++ us).length + 1≤1000;rw [bt,dg];lia) (by decide),fun p6 g6=>?_⟩
  generalize c6:upd H8 p6 _=H9
  obtain ⟨t6,hp6⟩:=X5 c6 g6
  have T6:=t4.trans (t5.trans t6)
  refine ⟨_,rfl,_,_,_,ws,rfl,rfl,hp6,(T3.trans T6) _ _ hl3,bU (by rw [bt,bt,dg,dg];lia:_≤1000) (by decide),fun p7 g7=>?_⟩
  generalize c7:upd H9 p7 _=H10
  obtain ⟨t7,hp7⟩:=X5 c7 g7
  have T7:=T6.trans t7
  have U:=T3.trans T7
  have el:[V.ref p1] ++ us ++ [V.ref p4] ++ ws=V.ref p1 :: (us ++ (V.ref p4 :: ws)):=by simp
  refine q p7 ([V.ref p1] ++ us ++ [V.ref p4] ++ ws) _ (S3.trans U) hp7 ?_
  rw [el]
  exact .cons ⟨p1,te,rfl,(t2.trans (t3.trans T7)) _ _ hp1,(S3.trans U) _ _ e3⟩ (Paired.app2 (y9 (s3.trans U) pu2) (.cons ⟨p4,rfl,(t5.trans (t6.trans t7)) _ _ hp4⟩ (y9 U pw)))
theorem Za {vs:List V} {H:Hp} {Q:VK} {E:XK} (h:yY 0 vs H Q E):False:=by
 obtain ⟨v,r,k,e,h1,h2,h3⟩:=h
 have:=h2.dp
 lia
theorem rnF {P:Str→Option Value} (T:Txt K P t):RnF K t:=⟨T.cl_Run,T.na_Run_code,T.na_Run_at,T.na_Run_why,T.na_Run_slots,T.na_Run_gifts,T.na_Run_notes,T.na_Run_sayings⟩
section
variable {x:Addr} {a:RAd} {C:List Cs} {s:RSt}
theorem RnAt.notup {b:Addr} {zs:List V} (R:RnAt t H x a C s) (h:H b=some (.tup zs)):¬ Ow x a b:=by
 rintro (rfl | rfl | rfl | rfl | rfl)
 ·rw [R.ix] at h;cases h
 ·rw [R.hs] at h;cases h
 ·rw [R.hg] at h;cases h
 ·rw [R.hn] at h;cases h
 ·rw [R.ha] at h;cases h
theorem RnAt.ts {H':Hp} (R:RnAt t H x a C s) (k:Kp x a H H'):TSm H H':=fun b ys e=>k b _ (R.notup e) e
theorem Kp.of_same {H':Hp} (s:Same H H'):Kp x a H H':=fun b o _ e=>s b o e
theorem Kp.trans {H' H'':Hp} (h:Kp x a H H') (k:Kp x a H' H''):Kp x a H H'':=fun b o n e=>k b o n (h b o n e)
theorem xU {b:Addr} {o:HO} (h:Ow x a b):Kp x a H (upd H b o):=fun c o' n e=>by rw [zk (fun z=>n (by rw [z];exact h))];exact e
theorem RnAt.same {H':Hp} (R:RnAt t H x a C s) (k:Same H H'):RnAt t H' x a C s :=
 ⟨k _ _ R.ix,let ⟨xs,h1,h2⟩:=R.hc;⟨xs,k _ _ h1,y9 k h2⟩,k _ _ R.hs,k _ _ R.hg,k _ _ R.hn,k _ _ R.ha,R.ng,R.nc⟩
theorem RnAt.putI (R:RnAt t H x a C s) (s':RSt) (e1:s'.sl=s.sl) (e2:s'.gi=s.gi) (e3:s'.no=s.no) (e4:s'.sa=s.sa):RnAt t (upd H x (.ins t.c_Run a.dx (zgo a s'))) x a C s':=by
 refine ⟨ze,?_,?_,?_,?_,?_,R.ng,R.nc⟩
 ·obtain ⟨xs,h1,h2⟩:=R.hc
  exact ⟨xs,by rw [zk (yE h1 R.ix (fun z=>nomatch z))];exact h1,vV (R.ts (xU (.inl rfl))) h2⟩
 ·rw [zk (yE R.hs R.ix (fun z=>nomatch z)),e1];exact R.hs
 ·rw [zk (yE R.hg R.ix (fun z=>nomatch z)),e2];exact R.hg
 ·rw [zk (yE R.hn R.ix (fun z=>nomatch z)),e3];exact R.hn
 ·rw [zk (yE R.ha R.ix (fun z=>nomatch z)),e4];exact R.ha
theorem RnAt.putS (R:RnAt t H x a C s) (kvs:List (Key × V)):RnAt t (upd H a.sl (.dK kvs)) x a C { s with sl:=kvs }:=by
 refine ⟨by rw [zk (yE R.ix R.hs (fun z=>nomatch z))];exact R.ix,?_,ze,?_,?_,?_,R.ng,R.nc⟩
 ·obtain ⟨xs,h1,h2⟩:=R.hc
  exact ⟨xs,by rw [zk (yE h1 R.hs (fun z=>nomatch z))];exact h1,vV (R.ts (xU (.inr (.inl rfl)))) h2⟩
 ·rw [zk (yE R.hg R.hs (fun z=>nomatch z))];exact R.hg
 ·rw [zk (yE R.hn R.hs (fun z=>nomatch z))];exact R.hn
 ·rw [zk (yE R.ha R.hs (fun z=>nomatch z))];exact R.ha
theorem RnAt.putG (R:RnAt t H x a C s) (rows:List Row):RnAt t (upd H a.gi (.dT (dOf rows))) x a C { s with gi:=rows }:=by
 refine ⟨by rw [zk (yE R.ix R.hg (fun z=>nomatch z))];exact R.ix,?_,?_,ze,?_,?_,R.ng,R.nc⟩
 ·obtain ⟨xs,h1,h2⟩:=R.hc
  exact ⟨xs,by rw [zk (yE h1 R.hg (fun z=>nomatch z))];exact h1,vV (R.ts (xU (.inr (.inr (.inl rfl))))) h2⟩
 ·rw [zk (yE R.hs R.hg (fun z=>nomatch z))];exact R.hs
 ·rw [zk (cP R.ng)];exact R.hn
 ·rw [zk (yE R.ha R.hg (fun z=>nomatch z))];exact R.ha
theorem RnAt.putO (R:RnAt t H x a C s) (rows:List Row):RnAt t (upd H a.no (.dT (dOf rows))) x a C { s with no:=rows }:=by
 refine ⟨by rw [zk (yE R.ix R.hn (fun z=>nomatch z))];exact R.ix,?_,?_,?_,ze,?_,R.ng,R.nc⟩
 ·obtain ⟨xs,h1,h2⟩:=R.hc
  exact ⟨xs,by rw [zk (yE h1 R.hn (fun z=>nomatch z))];exact h1,vV (R.ts (xU (.inr (.inr (.inr (.inl rfl)))))) h2⟩
 ·rw [zk (yE R.hs R.hn (fun z=>nomatch z))];exact R.hs
 ·rw [zk R.ng];exact R.hg
 ·rw [zk (yE R.ha R.hn (fun z=>nomatch z))];exact R.ha
theorem RnAt.putA (R:RnAt t H x a C s) (is:List Int):RnAt t (upd H a.sa (.lst (is.map V.int))) x a C { s with sa:=is }:=by
 refine ⟨by rw [zk (yE R.ix R.ha (fun z=>nomatch z))];exact R.ix,?_,?_,?_,?_,ze,R.ng,R.nc⟩
 ·obtain ⟨xs,h1,h2⟩:=R.hc
  exact ⟨xs,by rw [zk R.nc];exact h1,vV (R.ts (xU (.inr (.inr (.inr (.inr rfl)))))) h2⟩
 ·rw [zk (yE R.hs R.ha (fun z=>nomatch z))];exact R.hs
 ·rw [zk (yE R.hg R.ha (fun z=>nomatch z))];exact R.hg
 ·rw [zk (yE R.hn R.ha (fun z=>nomatch z))];exact R.hn
end
theorem Zb {C:List Cs} {s:RSt} (h:¬ yo C s=true):s.n < C.length:=by
 unfold yo at h
 simp only [pU,decide_eq_true_eq,not_or] at h
 lia
theorem Qa (rows:List Row) (p:Pl) (w:Int):zy (rows ++ [(p,w)]) p=some w:=by
 have h:=xI (rows ++ [(p,w)]) p
 rw [v5,wg,if_pos rfl] at h
 cases hl:zy (rows ++ [(p,w)]) p with
 | none=>rw [hl] at h;cases h
 | some i=>rw [hl] at h;cases h;rfl
theorem zfE {v:V} {c:Cs} (h:CsAt H v c):∃ p zs hd,v=.ref p∧H p=some (.tup zs)∧atI zs 0=some (.str hd)∧(hd=bf "take"→∃ sh e x te,c=.row (.take sh e x)∧atI zs 1=some (.str sh)∧atI zs 2=some (.ref te)∧H te=some (.tup e))∧(hd≠bf "take"→∀ s,wI c s=none):=by
 cases c with
 | row r =>
  have h1:=h.1
  cases r with
  | take sh e sl=>unfold RwAt at h1;obtain ⟨r,te,rfl,_,_,e2,e3⟩:=h1;exact ⟨r,_,_,rfl,e2,rfl,fun _=>⟨sh,e,sl,te,rfl,rfl,rfl,e3⟩,fun z=>absurd rfl z⟩
  | give sh e f=>unfold RwAt at h1;obtain ⟨r,te,tf,rfl,_,_,_,e2,e3⟩:=h1;exact ⟨r,_,_,rfl,e2,rfl,fun z=>absurd z (by decide +kernel),fun _ _=>rfl⟩
  | lt sl e=>unfold RwAt at h1;obtain ⟨r,te,rfl,_,_,e2,e3⟩:=h1;exact ⟨r,_,_,rfl,e2,rfl,fun z=>absurd z (by decide +kernel),fun _ _=>rfl⟩
  | say e=>unfold RwAt at h1;obtain ⟨r,te,rfl,_,_,e2,e3⟩:=h1;exact ⟨r,_,_,rfl,e2,rfl,fun z=>absurd z (by decide +kernel),fun _ _=>rfl⟩
  | off e=>unfold RwAt at h1;obtain ⟨r,te,rfl,_,_,e2,e3⟩:=h1;exact ⟨r,_,_,rfl,e2,rfl,fun z=>absurd z (by decide +kernel),fun _ _=>rfl⟩
  | iff e b d=>exact (h.2:False).elim
 | skip e to=>obtain ⟨p,te,e1,e2,_⟩:=h;exact ⟨p,_,_,e1,e2,rfl,fun z=>absurd z (by decide +kernel),fun _ _=>rfl⟩
 | go en=>obtain ⟨p,e1,e2⟩:=h;exact ⟨p,_,_,e1,e2,rfl,fun z=>absurd z (by decide +kernel),fun _ _=>rfl⟩
theorem zfF {κ:Type} [DecidableEq κ] {kvs:List (κ × V)} {k:κ} (h:k ∉ kvs.map (·.1)):yf kvs k=none:=by
 cases e:yf kvs k with
 | none=>rfl
 | some v=>exact absurd (Qx e) h
theorem QW:∀ (gs:List Row) (kvs:List (List Key × V)),(∀ r∈gs,zL r.1 ∉ kvs.map (·.1))→(gs.map (·.1)).Nodup→gs.foldl qT kvs=kvs ++ gs.map fun r=>(zL r.1,V.int r.2)
 | [],kvs,_,_=>by simp
 | r :: gs,kvs,h,nd=>by
  rw [bX,cW] at nd
  rw [fu,qT,jV _ (zfF (h r br)),QW gs _ (fun q hq=>?_) nd.2,bX,eK,List.singleton_append]
  rw [cY,List.mem_append,not_or]
  refine ⟨h q (bx _ hq),fun z=>nd.1 ?_⟩
  have z2:zL q.1=zL r.1:=by simpa using z
  rw [← xz z2]
  exact dy hq
theorem zfG {gs:List Row} (nd:(gs.map (·.1)).Nodup):dOf gs=gs.map fun r=>(zL r.1,V.int r.2):=by
 unfold dOf
 rw [QW gs [] (fun _ _ h=>nomatch h) nd,bQ]
theorem vf {H H':Hp} (s:Same H H'):∀ {ys:List V} {rows:List Row},Paired (PrAt H) ys rows→Paired (PrAt H') ys rows
 | _,_,.nil=>.nil
 | _,_,.cons ⟨r,p,e1,e2,e3⟩ t=>.cons ⟨r,p,e1,s _ _ e2,s _ _ e3⟩ (vf s t)
theorem ini {H HA:Hp} {x sl:Addr} {o i i':HO} (A1:ZY x H HA) (A2:HA x=some i) (h:HA sl=none):x≠sl∧H sl=none∧ZY x H (upd (upd HA sl o) x i')∧upd (upd HA sl o) x i' sl=some o∧ZY x HA (upd (upd HA sl o) x i'):=by
 have n:x≠sl:=zP A2 h
 have S:ZY x HA (upd (upd HA sl o) x i'):=fun b u nb e=>by rw [zk nb,zk (fun z=>by rw [z,h] at e;cases e)];exact e
 refine ⟨n,?_,fun b u nb e=>S b u nb (A1 b u nb e),by rw [zk (cP n),ze],S⟩
 cases hs:H sl with
 | none=>rfl
 | some u=>rw [A1 sl u (cP n) hs] at h;cases h
section
variable {x:Addr} {a:RAd} {C:List Cs} {s:RSt} {E:XK}
theorem Vw (F:RnF K t) (R:RnAt t H x a C s) (q:∀ H',Same H H'→Q (.bl (yo C s)) H') :
  km K t { nx:=fun _ H'=>Q .non H',rt:=Q } (L2.start ["self"] [.ref x]) H:=by
 simp only [km,yT,L2.start,zD,tOp,zc,tC,zb,zi,za6,tCB,je,rI0,QA,yG,b9,bE,bO,bB,bc,bi,exists_eq_left',V.int.injEq,V.ref.injEq,V.bl.injEq,bq,and_true,true_and,exists_and_left,bT,bL,cB,decide_eq_false_iff_not]
 obtain ⟨xs,hx,pr⟩:=R.hc
 have lx:=bH pr
 refine ⟨_,_,_,R.ix,F.cl,F.n3,_,rfl,?_⟩
 cases hw:s.why with
 | some w =>
  rw [if_pos (fun z=>nomatch z)]
  have e:yo C s=true:=by unfold yo;rw [hw];rfl
  rw [e] at q
  exact q H fun _ _ z=>z
 | none =>
  rw [if_neg (fun z=>z rfl)]
  refine ⟨_,_,_,R.ix,F.cl,F.n2,_,rfl,_,_,_,R.ix,F.cl,F.n1,_,rfl,xs.length,.inl ⟨_,SqL.of hx,rfl⟩,_,rfl,?_⟩
  have e:yo C s=decide ((xs.length:Int)≤(s.n:Int)):=by unfold yo;rw [hw,lx];simp
  rw [← e]
  exact q H fun _ _ z=>z
theorem ZK {tm:Addr} {e:List V} (F:RnF K t) (R:RnAt t H x a C s) (h2:yv s.sl) (h3:H tm=some (.tup e)) (h4:TermOk e)
  (q:∀ H',Same H H'→fin t (rk s.sl e) Q E H'):wC K t E { nx:=fun _ H'=>Q .non H',rt:=Q } (L2.start ["self","term"] [.ref x,.ref tm]) H:=by
 simp only [wC,kh,yT,L2.start,zD,zc,zb,zi,zn,b9,bE,bO,bB,bc,bd,bi,exists_eq_left',V.ref.injEq,bq,and_true,and_assoc,exists_and_left,bT,bL]
 exact ⟨_,_,_,R.ix,F.cl,F.n4,_,rfl,s.sl,_,rfl,e,h3,R.hs,_,h4.good s.sl,h4.2.1,h4.2.2,h2,q⟩
theorem ZL {p te:Addr} {xs e:List V} {sh:Str} (F:RnF K t) (R:RnAt t H x a C s) (h2:yv s.sl) (h3:H p=some (.tup xs)) (h4:atI xs 1=some (.str sh)) (h5:atI xs 2=some (.ref te)) (h6:H te=some (.tup e)) (h7:TermOk e)
  (q1:∀ i q H',rk s.sl e=.ok i→Same H H'→H' q=some (.tup [.str sh,.int i])→Q (.ref q) H') (q2:∀ er H',rk s.sl e=.error er→Same H H'→Jy t er E H') :
  wD K t E { nx:=fun _ H'=>Q .non H',rt:=Q } (L2.start ["self","due"] [.ref x,.ref p]) H:=by
 simp only [wD,z8,yQ,L2.start,yx,zD,tOp,zc,tC,yO,zb,zi,yx,b9,bE,bO,bB,bc,bd,bi,exists_eq_left',V.int.injEq,V.ref.injEq,bq,and_true,and_assoc,exists_and_left,bT,bL]
 refine ⟨_,SqT.of h3,_,h4,_,_,R.ix,rfl,_,SqT.of h3,_,h5,_,rfl,e,a,C,s,R,h2,h6,h7,fun H1 s1=>?_⟩
 cases hk:rk s.sl e with
 | error er=>exact fin_err.mpr (q2 er H1 hk s1)
 | ok n =>
  refine fin_ok.mpr ⟨by decide,fun p hp=>?_⟩
  exact q1 n p _ hk (s1.trans (isV (o:=HO.tup [V.str sh,V.int n]) p hp)) ze
theorem X6 {q:Addr} {p:Pl} {w:Int} (F:RnF K t) (R:RnAt t H x a C s) (h2:H q=some (.tup [.str p.1,.int p.2])) (h3:s.no.length≤900)
  (k:∀ H',Kp x a H H'→RnAt t H' x a C (yL p w s)→Q (.int (w5 p w s)) H') :
  jD K t { nx:=fun _ H'=>Q .non H',rt:=Q } (L2.start ["self","place","worth"] [.ref x,.ref q,.int w]) H:=by
 simp only [jD,vt,Y0,jW,yT,L2.start,zo,zD,zI,tOp,zc,zS,zC,b9,bE,bO,bB,bc,bd,bi,exists_eq_left',V.ref.injEq,V.bl.injEq,exists_and_left,bT,bL,cB,if_true,cu,ite_false]
 have g1:DGet H a.gi (.ref q) ((zy s.gi p).map V.int):=.inr ⟨dOf s.gi,zL p,q,.inl R.hg,rfl,h2,(xI _ _).symm⟩
 have g2:DGet H a.no (.ref q) ((zy s.no p).map V.int):=.inr ⟨dOf s.no,zL p,q,.inl R.hn,rfl,h2,(xI _ _).symm⟩
 refine ⟨_,_,_,R.ix,F.cl,F.n5,_,rfl,_,rfl,_,g1,?_⟩
 cases hg:zy s.gi p with
 | some i =>
  rw [if_pos (by simp)]
  have e:yL p w s=s:=by unfold yL;rw [if_pos (.inl (by rw [hg];rfl))]
  have e2:w5 p w s=i:=by unfold w5;rw [hg];rfl
  rw [e,e2] at k
  rw [hg] at g1
  exact ⟨_,_,_,R.ix,F.cl,F.n5,_,rfl,_,rfl,_,g1,k H (.of_same fun _ _ z=>z) R⟩
 | none =>
  rw [if_neg (by simp)]
  refine ⟨_,_,_,R.ix,F.cl,F.n6,_,rfl,_,rfl,_,g2,?_⟩
  cases ho:zy s.no p with
  | some i =>
   rw [if_neg (by simp)]
   have e:yL p w s=s:=by unfold yL;rw [if_pos (.inr (by rw [ho];rfl))]
   have e2:w5 p w s=i:=by unfold w5;rw [hg,ho];rfl
   rw [e,e2] at k
   rw [ho] at g2
   exact ⟨_,_,_,R.ix,F.cl,F.n6,_,rfl,_,rfl,_,g2,k H (.of_same fun _ _ z=>z) R⟩
  | none =>
   rw [if_pos (by simp)]
   have e:yL p w s={ s with no:=s.no ++ [(p,w)] }:=by unfold yL;rw [if_neg (by rw [hg,ho];simp)]
   have e2:w5 p w s=w:=by unfold w5;rw [hg,ho];rfl
   rw [e,e2] at k
   have ld:=x0 s.no
   have ep:yD (dOf s.no) (zL p) (V.int w)=dOf (s.no ++ [(p,w)]):=(v5 s.no (p,w)).symm
   have D:=DPut.t (k:=zL p) (v:=V.int w) R.hn h2 (b0 (by lia:_≤900) (by decide))
   rw [ep] at D
   have R2:=R.putO (s.no ++ [(p,w)])
   have K2:Kp x a H (upd H a.no (.dT (dOf (s.no ++ [(p,w)])))):=xU (.inr (.inr (.inr (.inl rfl))))
   refine ⟨_,_,_,R.ix,F.cl,F.n6,_,rfl,_,rfl,_,D,_,_,_,R2.ix,F.cl,F.n6,_,rfl,_,rfl,V.int w,?_,k _ K2 R2⟩
   refine .inr ⟨_,zL p,q,.inl R2.hn,rfl,K2 _ _ (R.notup h2) h2,?_⟩
   rw [xI,Qa];rfl
theorem Vx {P:Str→Option Value} {w:Int} {m:Nat} (T:Txt K P t) (R:RnAt t H x a C s) (h2:∀ c∈C,Yf c) (h3:RnOk m s) (h4:m≤900) (q:∀ H',Kp x a H H'→RnAt t H' x a C (xh C w s)→Q .non H') :
  kt K t { nx:=fun _ H'=>Q .non H',rt:=Q } (L2.start ["self","worth"] [.ref x,.int w]) H:=by
 simp only [kt,yZ,vK,yT,Zl,yQ,Vk,KJ,zcf,L2.start,zo,za7,zI,tOp,zc,tC,zb,zi,zS,tB,yw,b9,bE,bO,bB,bc,bd,bi,exists_eq_left',V.int.injEq,V.ref.injEq,V.bl.injEq,bq,and_true,and_assoc,exists_and_left,bT,bL]
 have F:=rnF T
 refine ⟨_,_,R.ix,rfl,a,C,s,R,fun H1 s1=>?_⟩
 have R1:=R.same s1
 by_cases ho:yo C s=true
 ·rw [if_pos ho]
  exact q H1 (.of_same s1) (by unfold xh;rw [if_pos ho];exact R1)
 rw [if_neg ho]
 obtain ⟨xs,hx,pr⟩:=R1.hc
 have lx:=bH pr
 have lt:=Zb ho
 have hc:C[s.n]?=some C[s.n]:=ba lt
 have hv:xs[s.n]?=some xs[s.n]:=ba (by lia)
 have cv:=zX pr hv hc
 have es:∀ w,xh C w s=zT C[s.n] w s:=fun w=>by unfold xh;rw [if_neg ho,hc]
 rw [es] at q
 refine ⟨_,_,R1.ix,rfl,_,_,_,R1.ix,F.cl,F.n1,_,rfl,_,_,_,R1.ix,F.cl,F.n2,_,rfl,_,rfl,xs,_,rfl,SqL.of hx,_,xF hv,C[s.n],m,a,C,s,R1,cv,h2 _ (da lt),h3,h4,fun H2 s' k e K2 R2=>⟨_,_,_,R2.ix,F.cl,F.n2,(by show (7:Nat) < 1000;decide),?_⟩,fun H2 er e s2=>?_⟩
 ·have z:=R2.putI { s' with n:=k } rfl rfl rfl rfl
  exact q _ ((Kp.of_same s1).trans (K2.trans (xU (.inl rfl)))) (by unfold zT;rw [e];exact z)
 ·have R3:=R1.same s2
  have z:=R3.putI { s with why:=some (Jn er) } rfl rfl rfl rfl
  have q':=q _ ((Kp.of_same s1).trans ((Kp.of_same s2).trans (xU (.inl rfl)))) (by unfold zT;rw [e];exact z)
  cases er with
  | nought=>exact ⟨t.c_Nought,rfl,.inr ⟨T.e_Nought_Great,T.e_Nought_Nought,_,_,_,R3.ix,F.cl,F.n3,(by show (7:Nat) < 1000;decide),q'⟩⟩
  | great=>exact ⟨t.c_Great,rfl,.inl ⟨T.e_Great_Great,_,_,_,R3.ix,F.cl,F.n3,(by show (7:Nat) < 1000;decide),q'⟩⟩
  | stuck=>trivial
theorem X7 (F:RnF K t) (R:RnAt t H x a C s) (h2:s.no.length≤900) (h3:(s.no.map (·.1)).Nodup) (h4:s.gi.length≤63) (q1:∀ H',yo C s=false→Same H H'→Q .non H')
  (q2:∀ r o nl gl out H',yo C s=true→Same H H'→H nl=none→H gl=none→nl≠gl→H' r=some (.tup [o,.ref nl,.ref gl])→Vq H' o (Jz s)→yh H' nl s.no→yh H' gl out→vj s out→Q (.ref r) H') :
  jC K t { nx:=fun _ H'=>Q .non H',rt:=Q } (L2.start ["self","notes"] [.ref x]) H:=by
 simp only [jC,yZ,yQ,L2.start,zo,zD,zI,zc,tC,zi,zS,jO,tB,b9,bE,bO,bI,bQ,bB,bc,bi,exists_eq_left',V.ref.injEq,V.bl.injEq,bq,and_true,exists_and_left,bT,bL,cB]
 refine ⟨_,_,R.ix,rfl,a,C,s,R,fun H1 s1=>?_⟩
 have R1:=R.same s1
 cases ho:yo C s with
 | false=>rw [if_pos rfl];exact q1 H1 ho s1
 | true =>
  rw [if_neg (by decide)]
  simp only [ko,kn,zgi,yT,Zu,zbZ,Jl,zo,zK,zl,zD,zI,tOp,zc,tC,xj,yO,zb,zi,zS,zC,tCB,QA,bO,bc,bd,bi,exists_eq_left',V.ref.injEq,V.bl.injEq,bq,and_true,true_and,exists_and_left,bp,bu,bL,cB,decide_eq_false_iff_not]
  refine ⟨_,_,_,R1.ix,F.cl,F.n6,_,rfl,_,rfl,_,R1.hn,fun r hr=>⟨a.no,ze,dOf s.no,(by rw [zk (zP R1.hn hr)];exact R1.hn),(by have:=x0 s.no;lia),fun l ys H2 s2 fl hl pr=>?_⟩⟩
  have sv:=isV (o:=j4 r a.no) r hr
  have S2:=sv.trans s2
  have R2:=R1.same S2
  have nl:H l=none:=zG (s1.trans sv) fl
  rw [zfG h3] at pr
  have pn:=zb3 pr
  refine ⟨_,_,_,R2.ix,F.cl,F.n3,_,rfl,?_⟩
  cases hw:s.why with
  | some w =>
   rw [if_pos (fun z=>nomatch z)]
   refine ⟨_,_,_,R2.ix,F.cl,F.n3,_,rfl,by decide,fun p hp=>⟨by decide,fun g hg=>⟨by decide,fun r2 hr2=>?_⟩⟩⟩
   rw [hw]
   rw [hw] at hg hr2
   have t1:=isV (o:=HO.tup [V.str (bf "off"),zgn (some w)]) p hp
   have t2:=isV (o:=HO.lst []) g hg
   have t3:=isV (o:=HO.tup [V.ref p,V.ref l,V.ref g]) r2 hr2
   have T3:=t1.trans (t2.trans t3)
   refine q2 r2 (.ref p) l g [] _ ho (s1.trans (S2.trans T3)) nl (zG (s1.trans (S2.trans t1)) hg) (fun z=>by rw [← z,t1 _ _ hl] at hg;cases hg) ze ?_ ⟨ys,T3 _ _ hl,vf T3 pn⟩ ⟨[],t3 _ _ ze,.nil⟩ ?_
   ·unfold Jz;rw [hw];exact ⟨p,rfl,(t2.trans t3) _ _ ze⟩
   ·unfold vj;rw [hw]
  | none =>
   rw [if_neg (fun z=>z rfl)]
   refine ⟨_,_,_,R2.ix,F.cl,F.n7,_,rfl,_,rfl,_,.inl ⟨SqL.of R2.ha,fun y hy=>⟨by decide,fun p hp=>?_⟩⟩⟩
   have t1:=isV (o:=HO.tup (b9 V.int s.sa)) y hy
   have t2:=isV (o:=HO.tup [V.str (bf "done"),V.ref y]) p hp
   have R3:=R2.same (t1.trans t2)
   have ly:=t2 _ _ (ze (H:=H2) (a:=y) (o:=HO.tup (b9 V.int s.sa)))
   have lp:upd (upd H2 y (HO.tup (b9 V.int s.sa))) p (HO.tup [V.str (bf "done"),V.ref y]) p=some (HO.tup [V.str (bf "done"),V.ref y]):=ze
   have T2:=t1.trans t2
   generalize upd (upd H2 y (HO.tup (b9 V.int s.sa))) p (HO.tup [V.str (bf "done"),V.ref y])=H3 at *
   refine ⟨_,_,_,R3.ix,F.cl,F.n5,_,rfl,_,rfl,_,R3.hg,fun r3 hr3=>⟨a.gi,ze,s.gi,(by rw [zk (zP R3.hg hr3)];exact R3.hg),(by have:=x0 s.gi;lia),fun g zs srt H4 s4 fg hg ps ri mi=>⟨by decide,fun r2 hr2=>?_⟩⟩⟩
   have t3:=(isV (o:=j4 r3 a.gi) r3 hr3).trans s4
   have t5:=isV (o:=HO.tup [V.ref p,V.ref l,V.ref g]) r2 hr2
   have T5:=t3.trans t5
   have fg3:H3 g=none:=zG (isV (o:=j4 r3 a.gi) r3 hr3) fg
   refine q2 r2 (.ref p) l g srt _ ho (s1.trans (S2.trans (T2.trans T5))) nl (zG (s1.trans (S2.trans T2)) fg3) (fun z=>by rw [← z,T2 _ _ hl] at fg3;cases fg3) ze ?_ ⟨ys,(T2.trans T5) _ _ hl,vf (T2.trans T5) pn⟩ ⟨zs,t5 _ _ hg,vf t5 ps⟩ ?_
   ·unfold Jz;rw [hw];exact ⟨p,y,rfl,T5 _ _ lp,T5 _ _ ly⟩
   ·unfold vj;rw [hw];exact ⟨ri,mi⟩
end
theorem zcA (p:Pl) (w:Int) (s:RSt):(yL p w s).sl=s.sl:=by unfold yL;split <;> rfl
theorem zea (p:Pl) (w:Int) (s:RSt):(yL p w s).n=s.n:=by unfold yL;split <;> rfl
theorem zgr {r:Rw} {w:Int} {s s':RSt} (h:ke r) (e:doR r w s=.ok s'):s'.n=s.n:=by
 cases r with
 | take sh e' x =>
  cases hk:rk s.sl e' with
  | error er=>simp only [doR,hk] at e;cases e
  | ok n=>simp only [doR,hk] at e;cases e;exact zea _ _ _
 | give sh e' f =>
  cases hk:rk s.sl e' with
  | error er=>simp only [doR,hk] at e;cases e
  | ok n =>
   cases hk2:rk s.sl f with
   | error er=>simp only [doR,hk,hk2] at e;cases e
   | ok i=>simp only [doR,hk,hk2] at e;cases e;rfl
 | lt x e' =>
  cases hk:rk s.sl e' with
  | error er=>simp only [doR,hk] at e;cases e
  | ok n=>simp only [doR,hk] at e;cases e;rfl
 | say e' =>
  cases hk:rk s.sl e' with
  | error er=>simp only [doR,hk] at e;cases e
  | ok n=>simp only [doR,hk] at e;cases e;rfl
 | off e'=>exact h.elim
 | iff e' b d=>exact h.elim
theorem JG {r:Rw} {w:Int} {s:RSt} (h:ke r):yk (.row r) w s=match doR r w s with
  | .error er=>.error er
  | .ok s'=>.ok (s.n + 1,s'):=by
 cases r with
 | off e'=>exact h.elim
 | iff e' b d=>exact h.elim
 | take sh e' x=>rfl
 | give sh e' f=>rfl
 | lt x e'=>rfl
 | say e'=>rfl
theorem zeb (r:Rw) (h:ZB r):(∃ e,r=.off e)∨ke r:=by
 cases r with
 | off e'=>exact .inl ⟨e',rfl⟩
 | iff e' b d=>exact h.elim
 | take sh e' x=>exact .inr trivial
 | give sh e' f=>exact .inr trivial
 | lt x e'=>exact .inr trivial
 | say e'=>exact .inr trivial
theorem zec {F:Addr→Prop} {v:V} {r:Rw} (h:RwAt F H v r) (d:ke r):∃ p xs hd,v=.ref p∧H p=some (.tup xs)∧atI xs 0=some (.str hd)∧hd≠bf "go"∧hd≠bf "skip"∧hd≠bf "off":=by
 cases r with
 | take sh e sl=>unfold RwAt at h;obtain ⟨r,te,rfl,_,_,e2,e3⟩:=h;exact ⟨r,_,_,rfl,e2,rfl,by decide +kernel,by decide +kernel,by decide +kernel⟩
 | give sh e f=>unfold RwAt at h;obtain ⟨r,te,tf,rfl,_,_,_,e2,e3⟩:=h;exact ⟨r,_,_,rfl,e2,rfl,by decide +kernel,by decide +kernel,by decide +kernel⟩
 | lt sl e=>unfold RwAt at h;obtain ⟨r,te,rfl,_,_,e2,e3⟩:=h;exact ⟨r,_,_,rfl,e2,rfl,by decide +kernel,by decide +kernel,by decide +kernel⟩
 | say e=>unfold RwAt at h;obtain ⟨r,te,rfl,_,_,e2,e3⟩:=h;exact ⟨r,_,_,rfl,e2,rfl,by decide +kernel,by decide +kernel,by decide +kernel⟩
 | off e=>exact d.elim
 | iff e a b=>exact d.elim
theorem jI {x:Str} (h:yP x=true):cf x=true:=(zbF h).flat
def JH (H H':Hp):Prop:=∀ b ys,H b=some (.tup ys)→H' b=some (.tup ys)
theorem Same.ts {H H':Hp} (s:Same H H'):JH H H':=fun b ys e=>s _ _ e
theorem ja {J:It} {D:Addr} {τ₀:St} {H1:Hp} {Q:Hp→Prop} {B:V→St→Hp→(V→St→Hp→Prop)→(St→Hp→Prop)→Prop} (n:Nat) (hn:n≤1000000) (C:St→Prop) (R:Nat→List V→Hp→Prop) (hm:∀ i ys H H',JH H H'→R i ys H→R i ys H') (hC:C τ₀) (h0:R 0 [] H1)
  (go:∀ i H,Same H1 H→i < n→J.go i H) (stop:∀ H,Same H1 H→J.stop n H) (hD:H1 D=none)
  (hs:∀ i x τ ys H H',C τ→Same H1 H→i < n→R i ys H→J.yld i H x H'→B x τ H' (fun v τ' H4=>C τ'∧R (i + 1) (ys ++ [v]) H4∧Same H H4) (fun τ' H4=>C τ'∧R (i + 1) ys H4∧Same H H4))
  (hd:∀ ys H,ys.length≤n→R n ys H→Same H1 H→H D=some (.lst ys)→Q H) :
  ∃ W:Nat→Nat→List V→St→Hp→Prop,(∃ m,W 0 m [] τ₀ (upd H1 D (.lst [])))∧∀ i m ys τ H,W i m ys τ H→H D=some (.lst ys) ∧
  ((J.stop i H∧Q H)∨(J.go i H∧ys.length < sizeLine∧∃ N:V→St→Hp→Prop,
   (∀ v τ' H',N v τ' H'→H' D=some (.lst ys)∧∃ m',m' < m∧W (i + 1) m' (ys ++ [v]) τ' (upd H' D (.lst (ys ++ [v]))))∧∃ Nf:St→Hp→Prop,(∀ τ' H',Nf τ' H'→∃ m',m' < m∧W (i + 1) m' ys τ' H') ∧
   ∀ x H',J.yld i H x H'→B x τ H' N Nf)):=by
 have ext:∀ {H:Hp} {o:HO},Same H1 H→Same H1 (upd H D o):=fun {H o} h b u e=>by
  rw [zk (zP e hD)];exact h b u e
 refine ⟨fun i m ys τ H=>m=n - i∧i≤n∧ys.length≤i∧R i ys H∧Same H1 H∧H D=some (.lst ys)∧C τ,⟨n,by simp,bY _,bj _,hm _ _ _ _ (Same.ts (ext (Same.refl _))) h0,ext (Same.refl _),ze,hC⟩,?_⟩
 rintro i m ys τ H ⟨rfl,hi,hl,hR,hS,hy,hc⟩
 refine ⟨hy,?_⟩
 by_cases hlt:i < n
 ·refine .inr ⟨go i H hS hlt,b0 (by lia:ys.length≤1000000) (by decide),_,?_,_,?_,fun x H' y=>hs i x τ ys H H' hc hS hlt hR y⟩
  ·rintro v τ' H4 ⟨c4,r4,s4⟩
   have y4:=s4 _ _ hy
   exact ⟨y4,n - (i + 1),by lia,rfl,hlt,by simp;lia,hm _ _ _ _ (fun b zs e=>by rw [zk (yE e y4 (by simp))];exact e) r4,ext (hS.trans s4),ze,c4⟩
  ·rintro τ' H4 ⟨c4,r4,s4⟩
   exact ⟨n - (i + 1),by lia,rfl,hlt,by lia,r4,hS.trans s4,s4 _ _ hy,c4⟩
 ·obtain rfl:i=n:=by lia
  exact .inl ⟨stop H hS,hd ys H hl hR hS hy⟩
def wq (P:Nat→Bool) (x:Str):Prop:=x.cps.toList.all P=true
theorem vg {P:Nat→Bool} {x y:Str} (h:wq P x) (h':wq P y):wq P (x ++ y):=by
 unfold wq at *
 rw [zdH,List.all_append,h,h'];rfl
theorem kB {P:Nat→Bool} {c:Nat} (h:P c=true):wq P ⟨#[c]⟩:=by
 show [c].all P=true
 rw [gq,h];rfl
theorem QY {P:Nat→Bool} {x:Str} (h:wq P x) (k:Nat):wq P (fP x none (some (k:Int))):=by
 unfold wq at *
 rw [V8]
 rw [dz] at *
 exact fun c hc=>h c (fj hc)
theorem WE {P:Nat→Bool} {x:Str} (h:wq P x) (k:Nat):wq P (fP x (some (k:Int)) none):=by
 unfold wq at *
 rw [YU]
 rw [dz] at *
 exact fun c hc=>h c (List.mem_of_mem_drop hc)
theorem zcB (x:Str) (k:Nat) (h:k≤x.length):(fP x none (some (k:Int))).length=k:=by
 rw [Yw] at *
 rw [V8,c8];lia
theorem JJ (x:Str) (k:Nat):(fP x (some (k:Int)) none).length=x.length - k:=by
 rw [Yw,Yw,YU,et]
def inC (c:Nat):Bool:=(bf "zyxwvtsrqpnmlkjhgfdcb").cps.toList.contains c
theorem zgs:∀ c∈(bf "zyxwvtsrqpnmlkjhgfdcb").cps.toList,inL c=true:=by decide +kernel
theorem zgt:∀ c∈(bf "zyxwvtsrqpnmlkjhgfdcb").cps.toList,inC c=true:=fun c hc=>by unfold inC;exact List.contains_iff_mem.mpr hc
theorem zgM:∀ c∈(bf "zyxwvutsrqponmlkjihgfedcba").cps.toList,inL c=true:=by decide +kernel
theorem zaR:∀ v∈jw ++ wl,(match v with | .str w=>decide (w.length≠6) && !(w.cps.toList.all inC) | _=>true)=true:=by decide +kernel
theorem zed {x:Str} (h:x.length=6∨wq inC x):(inV (.str x) jw || inV (.str x) wl)=false:=by
 have key:∀ v∈jw ++ wl,eqV v (.str x)=false:=fun v hv=>by
  have w:=zaR v hv
  cases e:eqV v (.str x) with
  | false=>rfl
  | true =>
   cases v <;> simp only [eqV,cu] at e
   rename_i y
   have e':y=x:=by simpa using e
   subst e'
   simp only [bV,decide_eq_true_eq,cB] at w
   rcases h with h | h
   ·exact absurd h w.1
   ·unfold wq at h;rw [h] at w;exact absurd w.2 (by decide)
 rw [iL]
 unfold inV
 constructor
 ·rw [eG]
  exact fun v hv=>by rw [key v (cz _ hv)];decide
 ·rw [eG]
  exact fun v hv=>by rw [key v (bR _ hv)];decide
theorem kL {x:Str} (h1:1≤x.length) (h2:x.length≤6) (h3:(x.length=6∧wq inL x)∨wq inC x):yP x=true:=by
 have nw:(inV (.str x) jw || inV (.str x) wl)=false:=zed (h3.imp (·.1) id)
 have al:x.cps.toList.all inL=true:=by
  rcases h3 with h | h
  ·exact h.2
  ·unfold wq at h
   rw [dz] at *
   exact fun c hc=>zgs c (List.contains_iff_mem.mp (h c hc))
 have ne:decide (x="")=false:=decide_eq_false fun z=>by rw [z] at h1;exact absurd h1 (by decide)
 have nl:decide (6 < x.length)=false:=decide_eq_false (by lia)
 unfold yP
 rw [nw,al,ne,nl];rfl
structure Sgn (P:Nat→Bool) (sz:Nat) (sg:Str):Prop where
 al:wq P sg
 lo:21≤sg.length
 hi:sg.length≤26
 s1:1≤sz
 s6:sz≤6
 nm:∀ x:Str,x.length=sz→wq P x→yP x=true
theorem zcC {P:Nat→Bool} {sz:Nat} {sg:Str} (S:Sgn P sz sg) {i:Int} (h0:0≤i) (h1:i < sg.length):∃ c,atI sg.cps.toList i=some c∧P c=true:=by
 obtain ⟨c,hc,hm⟩:=QU (xs:=sg.cps.toList) (i:=i) h0 (by rw [← Yw];exact h1)
 exact ⟨c,hc,dz.mp S.al c hm⟩
theorem Vy {P:Str→Prop}:∀ {ys:List V},(∀ v∈ys,∃ x,v=.str x∧P x)→∃ ls:List Str,ys=ls.map V.str∧∀ x∈ls,P x
 | [],_=>⟨[],rfl,fun _ z=>nomatch z⟩
 | v :: r,h=>by
  obtain ⟨x,rfl,px⟩:=h v br
  obtain ⟨ls,rfl,pl⟩:=Vy (ys:=r) fun u hu=>h u (bx _ hu)
  exact ⟨x :: ls,rfl,fun y hy=>by
   rcases bK.mp hy with rfl | hy
   ·exact px
   ·exact pl y hy⟩
def nmV (v:V):Prop:=∃ x:Str,v=.str x∧yP x=true
theorem zee {P:Nat→Bool} {sz:Nat} {sg stem:Str} {c m tn:Int} {o5:Option V} {at_:Nat} (S:Sgn P sz sg) (hs:stem.length=sz) (hp:wq P stem) (ha:at_ < sz) (h1:0≤m) (h2:m≤6) (q:∀ nm ws H',Same H H'→NamesAt H' nm ws→(ws.length:Int)=m→Q (.ref nm) H') :
  wx K t { nx:=fun _ H'=>Q .non H',rt:=Q } [some (.int c),some (.int m),some (.int sz),some (.str sg),some (.str stem),o5,some (.int at_),some (.int tn)] H:=by
 simp only [wx,zl,zD,tOp,zc,tC,zb,zi,tSl,xw,yu,xk,YN,qO,xD,W1,rI0,Kz,jN,b9,bE,bI,bQ,bc,bd,bi,exists_eq_left',V.int.injEq,V.str.injEq,bq,and_true,exists_and_left,dY,dC,if_true]
 have lo:=S.lo
 have hi:=S.hi
 have s6:=S.s6
 refine ⟨by lia,by lia,fun D hD=>?_⟩
 refine V7 (J:=Itr 0 m.toNat) m.toNat (by lia) (fun τ=>∃ o,τ=[o,some (.str stem),some (.int (at_:Int)),some (.str sg)]) (fun i v=>nmV v) ⟨_,rfl⟩ (fun i H _ h=>h) (fun H _=>bj _) hD ?_ ?_
 ·rintro i v τ H2 H' ⟨o,rfl⟩ s hi ⟨rfl,rfl⟩
  simp only [bc,bd,bi,exists_eq_left',V.int.injEq,V.str.injEq,bq,and_true,bp]
  obtain ⟨d,hd,hP⟩:=zcC S (i:=0 + (i:Int)) (by lia) (by lia)
  have l1:=zcB stem at_ (by lia)
  have l2:=JJ stem (at_ + 1)
  have p1:=QY hp at_
  have p2:=WE hp (at_ + 1)
  rw [show ((at_ + 1:Nat):Int)=(at_:Int) + 1 by lia] at l2 p2
  exact ⟨zV (by lia),zV (by lia),d,hd,zV (by rw [x9];lia),zV (by lia),zV (by rw [xG,x9];lia),⟨_,rfl⟩,⟨_,rfl,S.nm _ (by rw [xG,xG,x9];lia) (vg (vg p1 (kB hP)) p2)⟩,Same.refl _⟩
 ·intro ys H' hly hv s hq
  obtain ⟨ls,rfl,hp⟩:=Vy (P:=fun x=>yP x=true) (ys:=ys) fun v hv2=>by
   obtain ⟨i,hi⟩:=cV hv2
   exact hv i v hi
  rw [bn] at hly
  exact q D ls H' s ⟨hq,hp⟩ (by lia)
theorem zef {P:Nat→Bool} {sz:Nat} {sg stem:Str} {c m:Int} {o5:Option V} (S:Sgn P sz sg) (hs:stem.length=sz) (hp:wq P stem) (h1:0≤m) (h2:m≤6) (q:∀ nm ws H',Same H H'→NamesAt H' nm ws→(ws.length:Int)=m→Q (.ref nm) H') :
  wz K t { nx:=fun _ H'=>Q .non H',rt:=Q } [some (.int c),some (.int m),some (.int sz),some (.str sg),some (.str stem),o5,none,none] H:=by
 simp only [wz,zm,zo,zK,zl,tOp,zc,tC,zb,zi,tCB,tSl,xw,yu,zn,je,rI,Kz,jN,yG,bB,bc,bd,bi,exists_eq_left',exists_eq_left,V.int.injEq,V.str.injEq,bq,and_true,and_assoc,exists_and_left,bp,bu]
 have lo:=S.lo
 have hi:=S.hi
 have s1:=S.s1
 have s6:=S.s6
 refine ⟨by decide,by decide,fun r1 H1 a1 b1 s1'=>⟨by lia,by decide,by decide,fun r2 H2 a2 b2 s2'=>⟨zV (by lia),by lia,?_⟩⟩⟩
 obtain ⟨k,ek⟩:∃ k:Nat,r1 % (sz:Int)=k:=⟨_,(eQ (cQ _ (by lia))).symm⟩
 have hk:(k:Int) < sz:=by rw [← ek];exact cF _ (by lia)
 obtain ⟨u,eu⟩:∃ u:Nat,r2 % (sg.length:Int)=u:=⟨_,(eQ (cQ _ (by lia))).symm⟩
 have hu:(u:Int) < sg.length:=by rw [← eu];exact cF _ (by lia)
 rw [ek,eu]
 have l1:=zcB sg u (by lia)
 have l2:=JJ sg u
 refine ⟨zV (by lia),zV (by lia),zV (by lia),?_⟩
 have S':Sgn P sz (fP sg (some (u:Int)) none ++ fP sg none (some (u:Int))):=⟨vg (WE S.al u) (QY S.al u),by rw [xG];lia,by rw [xG];lia,S.s1,S.s6,S.nm⟩
 exact zee S' hs hp (by lia) h1 h2 fun nm ws H' s hn hl=>q nm ws H' (s1'.trans (s2'.trans s)) hn hl
def nmI (P:Nat→Bool) (c m:Int) (sz:Nat) (sg:Str) (H:Hp) (i:Nat) (σ:St) (H':Hp):Prop:=(∃ (x:Str) (o:Option V),σ=[some (.int c),some (.int m),some (.int sz),some (.str sg),some (.str x),o,none,none]∧x.length=i∧wq P x)∧Same H H'
theorem QZ {P:Nat→Bool} {sz:Nat} {sg:Str} {c m:Int} (S:Sgn P sz sg) (h1:0≤m) (h2:m≤6) (q:∀ nm ws H',Same H H'→NamesAt H' nm ws→(ws.length:Int)=m→Q (.ref nm) H') :
  wA K t { nx:=fun _ H'=>Q .non H',rt:=Q } [some (.int c),some (.int m),some (.int sz),some (.str sg),none,none,none,none] H:=by
 simp only [wA,zm,zo,zK,zl,tOp,zc,tC,zb,zi,xr,tCB,zn,je,xD,W1,rI,rI0,jN,yG,bB,bc,bd,bi,exists_eq_left',V.int.injEq,V.str.injEq,bq,and_true,and_assoc,exists_and_left,bp,bu,dY,dC]
 have lo:=S.lo
 have hi:=S.hi
 have s1:=S.s1
 have s6:=S.s6
 refine ⟨by lia,by lia,xO (nmI P c m sz sg H) ⟨⟨_,none,rfl,by decide +kernel,by show [].all P=true;rfl⟩,Same.refl H⟩ ?_ ?_⟩
 ·rintro i σ H' hi ⟨⟨x,o,rfl,hx,hp⟩,s⟩
  simp only [bc,bd,bi,exists_eq_left',exists_eq_left,V.int.injEq,V.str.injEq,and_assoc,exists_and_left,bp,bu]
  refine ⟨by lia,by lia,fun r1 H1 a1 b1 s1'=>⟨zV (by lia),by lia,?_⟩⟩
  obtain ⟨d,hd,hP⟩:=zcC S (i:=r1 % (sg.length:Int)) (cQ _ (by lia)) (cF _ (by lia))
  exact ⟨zV (by lia),d,hd,zV (by rw [x9];lia),⟨_,_,rfl,by rw [xG,x9];lia,vg hp (kB hP)⟩,s.trans s1'⟩
 ·rintro σ H' ⟨⟨x,o,rfl,hx,hp⟩,s⟩
  exact zef S (by lia) hp h1 h2 fun nm ws H2 s2 hn hl=>q nm ws H2 (s.trans s2) hn hl
theorem Xq {c m:Int} (h1:0≤m) (h2:m≤6) (q:∀ nm ws H',Same H H'→NamesAt H' nm ws→(ws.length:Int)=m→Q (.ref nm) H') :
  vN K t { nx:=fun _ H'=>Q .non H',rt:=Q } (L2.start ["cell","many","size","signs","stem","k","at","turn"] [.int c,.int m]) H:=by
 simp only [vN,zm,L2.start,zo,zK,zl,zI,tOp,zc,tC,zb,zi,zS,zC,zn,rEq,rI,rI0,jS,b9,bE,bO,bI,bQ,bB,bc,bd,bi,exists_eq_left',V.int.injEq,V.bl.injEq,bq,and_true,true_and,and_assoc,exists_and_left,bp,bu,bT,bL,decide_eq_true_eq]
 refine ⟨by decide,by decide,fun r1 H1 a1 b1 s1'=>⟨by decide,?_⟩⟩
 obtain ⟨k,ek⟩:∃ k:Nat,1 + r1 % 6=k:=⟨(1 + r1 % 6).toNat,by lia⟩
 rw [ek]
 have lc:(bf "zyxwvtsrqpnmlkjhgfdcb").length=21:=by decide +kernel
 have lz:(bf "zyxwvutsrqponmlkjihgfedcba").length=26:=by decide +kernel
 refine xu (fun e=>?_) fun e=>?_
 ·have e5:(k:Int)=6:=by simpa using e
  have e6:k=6:=by lia
  exact QZ (P:=inL) (sg:="zyxwvutsrqponmlkjihgfedcba") ⟨dz.mpr zgM,by rw [lz];lia,by rw [lz];lia,by lia,by lia,fun x hx hp=>kL (by lia) (by lia) (.inl ⟨by lia,hp⟩)⟩ h1 h2 fun nm ws H2 s2 hn hl=>q nm ws H2 (s1'.trans s2) hn hl
 ·exact QZ (P:=inC) (sg:="zyxwvtsrqpnmlkjhgfdcb") ⟨dz.mpr zgt,by rw [lc];lia,by rw [lc];lia,by lia,by lia,fun x hx hp=>kL (by lia) (by lia) (.inr hp)⟩ h1 h2 fun nm ws H2 s2 hn hl=>q nm ws H2 (s1'.trans s2) hn hl
structure RnP (m:Nat) (s:RSt):Prop where
 ok:RnOk m s
 ng:∀ r∈s.gi,cf r.1.1=true
 nn:∀ r∈s.no,cf r.1.1=true
theorem RnOk.up {m:Nat} {s:RSt} (h:RnOk m s):RnOk (m + 1) s:=⟨h.so,h.gw,h.nw,cx h.l1,cx h.l2,cx h.l3,cx h.l4,h.nd⟩
theorem RnP.up {m:Nat} {s:RSt} (h:RnP m s):RnP (m + 1) s:=⟨h.ok.up,h.ng,h.nn⟩
theorem zcD {p:Pl} {l:List Row} (nd:(l.map (·.1)).Nodup) (h:zy l p=none):p ∉ l.map (·.1):=fun z=>by
 obtain ⟨r,hr,e⟩:=b8.mp z
 have:=(qU (w:=r.2) nd).mpr (show (p,r.2)∈l by rw [← e];exact hr)
 rw [h] at this
 cases this
theorem zcE {m:Nat} {s:RSt} {p:Pl} {w:Int} (h:RnOk m s) (hw:inW w=true):inW (w5 p w s)=true:=by
 unfold w5
 cases e:zy s.gi p with
 | some i=>exact kJ (P:=fun r=>inW r.2=true) h.gw e
 | none =>
  cases e2:zy s.no p with
  | some i=>exact kJ (P:=fun r=>inW r.2=true) h.nw e2
  | none=>exact hw
theorem zeg {m:Nat} {s:RSt} {p:Pl} {w i:Int} {x:Str} (h:RnP m s) (hp:cf p.1=true) (hw:inW w=true) (hi:inW i=true):RnP (m + 1) { yL p w s with sl:=yD s.sl (.inr x) (.int i) }:=by
 have so:=Wz h.ok.so (.inr x) hi
 have l1:(yD s.sl (.inr x) (V.int i)).length≤m + 1:=bU (wj _ _ _) (eD h.ok.l1)
 unfold yL
 by_cases c:(zy s.gi p).isSome=true∨(zy s.no p).isSome=true
 ·rw [if_pos c]
  exact ⟨⟨so,h.ok.gw,h.ok.nw,l1,cx h.ok.l2,cx h.ok.l3,cx h.ok.l4,h.ok.nd⟩,h.ng,h.nn⟩
 ·rw [if_neg c]
  have cn:zy s.no p=none:=by
   cases e:zy s.no p with
   | none=>rfl
   | some i=>exact absurd (.inr (by rw [e];rfl)) c
  refine ⟨⟨so,h.ok.gw,fun r hr=>?_,l1,cx h.ok.l2,?_,cx h.ok.l4,?_⟩,h.ng,fun r hr=>?_⟩
  ·rcases bP.mp hr with hr | hr
   ·exact h.ok.nw r hr
   ·rw [b5.mp hr];exact hw
  ·show (s.no ++ [(p,w)]).length≤m + 1
   rw [bt];exact eD h.ok.l3
  ·show ((s.no ++ [(p,w)]).map (·.1)).Nodup
   rw [cY]
   refine List.nodup_append.mpr ⟨h.ok.nd,by simp,fun a ha b hb=>?_⟩
   have hb:b=p:=by simpa using hb
   rw [hb]
   exact fun z=>zcD h.ok.nd cn (by rw [← z];exact ha)
  ·rcases bP.mp hr with hr | hr
   ·exact h.nn r hr
   ·rw [b5.mp hr];exact hp
theorem zfH {r:Rw} {m:Nat} {w:Int} {s s':RSt} (h:RnP m s) (d:ke r) (k:jR r) (pl:Y4 r) (hw:inW w=true) (e:doR r w s=.ok s'):RnP (m + 1) s'∧s'.why=s.why:=by
 cases r with
 | off e'=>exact d.elim
 | iff e' b c=>exact d.elim
 | take sh e' x =>
  cases hk:rk s.sl e' with
  | error er=>simp only [doR,hk] at e;cases e
  | ok n =>
   simp only [doR,hk] at e
   cases e
   exact ⟨zeg h pl.1 hw (zcE h.ok hw),by show (yL _ _ _).why=_;unfold yL;split <;> rfl⟩
 | give sh e' f =>
  cases hk:rk s.sl e' with
  | error er=>simp only [doR,hk] at e;cases e
  | ok n =>
   cases hk2:rk s.sl f with
   | error er=>simp only [doR,hk,hk2] at e;cases e
   | ok i =>
    simp only [doR,hk,hk2] at e
    cases e
    have hi:=zbW h.ok.so k.2.2.1 hk2
    refine ⟨⟨⟨h.ok.so,fun r hr=>?_,h.ok.nw,cx h.ok.l1,?_,cx h.ok.l3,cx h.ok.l4,h.ok.nd⟩,fun r hr=>?_,h.nn⟩,rfl⟩
    ·rcases bP.mp hr with hr | hr
     ·exact h.ok.gw r hr
     ·rw [b5.mp hr];exact hi
    ·show (s.gi ++ [((sh,n),i)]).length≤m + 1
     rw [bt];exact eD h.ok.l2
    ·rcases bP.mp hr with hr | hr
     ·exact h.ng r hr
     ·rw [b5.mp hr];exact pl.1
 | lt x e' =>
  cases hk:rk s.sl e' with
  | error er=>simp only [doR,hk] at e;cases e
  | ok i =>
   simp only [doR,hk] at e
   cases e
   have hi:=zbW h.ok.so k.2.1 hk
   exact ⟨⟨⟨Wz h.ok.so _ hi,h.ok.gw,h.ok.nw,bU (wj _ _ _) (eD h.ok.l1),cx h.ok.l2,cx h.ok.l3,cx h.ok.l4,h.ok.nd⟩,h.ng,h.nn⟩,rfl⟩
 | say e' =>
  cases hk:rk s.sl e' with
  | error er=>simp only [doR,hk] at e;cases e
  | ok i =>
   simp only [doR,hk] at e
   cases e
   exact ⟨⟨⟨h.ok.so,h.ok.gw,h.ok.nw,cx h.ok.l1,cx h.ok.l2,cx h.ok.l3,by show (s.sa ++ [i]).length≤m + 1;rw [bt];exact eD h.ok.l4,h.ok.nd⟩,h.ng,h.nn⟩,rfl⟩
theorem zfI (er:Er):cf (Jn er)=true:=by cases er <;> decide +kernel
theorem zeh {C:List Cs} {m:Nat} {w:Int} {s:RSt} (O:Xe C) (h:RnI C m s) (ho:yo C s=false) (hw:inW w=true):RnI C (m + 1) (xh C w s):=by
 have no:¬ yo C s=true:=by rw [ho];decide
 have lt:=Zb no
 have hc:C[s.n]?=some C[s.n]:=ba lt
 have es:xh C w s=zT C[s.n] w s:=by unfold xh;rw [if_neg no,hc]
 have wn:s.why=none:=by
  cases e:s.why with
  | none=>rfl
  | some v=>exact absurd (show yo C s=true by unfold yo;rw [e];rfl) no
 have mn:=h.at_ wn
 have ok:=O.ok _ (da lt)
 have pl:=O.pl _ (da lt)
 have P:RnP m s:=⟨h.ok,h.ng,h.nn⟩
 have fin:∀ {s':RSt} {k:Nat},RnP (m + 1) s'→(s'.why=none→m + 1≤k)→(∀ v,s'.why=some v→cf v=true)→RnI C (m + 1) { s' with n:=k }:=fun {s' k} p l y =>
  ⟨⟨p.ok.so,p.ok.gw,p.ok.nw,p.ok.l1,p.ok.l2,p.ok.l3,p.ok.l4,p.ok.nd⟩,p.ng,p.nn,l,y⟩
 have bad:∀ er,RnI C (m + 1) { s with why:=some (Jn er) }:=fun er=>⟨⟨P.up.ok.so,P.up.ok.gw,P.up.ok.nw,P.up.ok.l1,P.up.ok.l2,P.up.ok.l3,P.up.ok.l4,P.up.ok.nd⟩,P.ng,P.nn,fun z=>(by cases z),fun v z=>by cases z;exact zfI er⟩
 have does:∀ r:Rw,ke r→Yf (.row r)→zd8 (.row r)→RnI C (m + 1) (zT (.row r) w s):=fun r hf ok pl=>by
  unfold zT
  rw [JG hf]
  cases hk:doR r w s with
  | error er=>exact bad er
  | ok s' =>
   obtain ⟨a,b⟩:=zfH P hf ok pl hw hk
   exact fin a (fun _=>by lia) (fun v z=>h.wy v (by rw [← b];exact z))
 rw [es]
 have hg:∀ to,C[s.n]=.go to→s.n < to:=fun to e=>O.fg s.n to (by rw [hc,e])
 have hs:∀ e to,C[s.n]=.skip e to→s.n < to:=fun e to e2=>O.fw s.n to e (by rw [hc,e2])
 generalize C[s.n]=c at *
 cases c with
 | go to =>
  have:=hg to rfl
  exact fin P.up (fun _=>by lia) h.wy
 | skip e to =>
  have:=hs e to rfl
  cases hk:rk s.sl e with
  | error er=>simp only [zT,yk,hk];exact bad er
  | ok i =>
   simp only [zT,yk,hk]
   refine fin P.up (fun _=>?_) h.wy
   split <;> lia
 | row r =>
  cases r with
  | off e =>
   cases hk:rk s.sl e with
   | error er=>simp only [zT,yk,hk];exact bad er
   | ok i =>
    by_cases hi:i=0
    ·simp only [zT,yk,hk,if_pos hi]
     exact fin P.up (fun _=>by lia) h.wy
    ·simp only [zT,yk,hk,if_neg hi]
     exact fin (s':={ s with why:=some (bf "told") }) ⟨⟨P.up.ok.so,P.up.ok.gw,P.up.ok.nw,P.up.ok.l1,P.up.ok.l2,P.up.ok.l3,P.up.ok.l4,P.up.ok.nd⟩,P.ng,P.nn⟩ (fun z=>by cases z) (fun v z=>by cases z;decide +kernel)
  | iff e b d=>exact fin (k:=s.n + 1) P.up (fun _=>by lia) h.wy
  | take sh e x=>exact does (.take sh e x) trivial ok pl
  | give sh e x=>exact does (.give sh e x) trivial ok pl
  | lt sh e=>exact does (.lt sh e) trivial ok pl
  | say e=>exact does (.say e) trivial ok pl
structure FwC (k:Nat) (C:List Cs):Prop where
 ok:∀ c∈C,Yf c∧zd8 c
 fw:∀ (i to:Nat) (e:List V),C[i]?=some (Cs.skip e to)→k + i < to
 fg:∀ (i to:Nat),C[i]?=some (Cs.go to)→k + i < to
theorem FwC.nil (k:Nat):FwC k []:=⟨fun c h=>(nomatch h),fun i to e h=>by simp at h,fun i to h=>by simp at h⟩
theorem FwC.cons {k:Nat} {c:Cs} {C:List Cs} (h1:Yf c∧zd8 c) (h2:∀ e to,c=.skip e to→k < to) (h3:∀ to,c=.go to→k < to) (h:FwC (k + 1) C):FwC k (c :: C):=by
 refine ⟨fun x hx=>?_,fun i to e hi=>?_,fun i to hi=>?_⟩
 ·rcases bK.mp hx with rfl | hx
  ·exact h1
  ·exact h.ok x hx
 ·cases i with
  | zero=>have:=h2 e to (by simpa using hi);lia
  | succ i=>have:=h.fw i to e (by simpa using hi);lia
 ·cases i with
  | zero=>have:=h3 to (by simpa using hi);lia
  | succ i=>have:=h.fg i to (by simpa using hi);lia
theorem FwC.app:∀ {A:List Cs} {k:Nat} {B:List Cs},FwC k A→FwC (k + A.length) B→FwC k (A ++ B)
 | [],k,B,_,h=>by simpa using h
 | c :: A,k,B,h,h'=>by
  rw [bI]
  refine .cons (h.ok c br) (fun e to z=>by have:=h.fw 0 to e (by rw [z];rfl);lia) (fun to z=>by have:=h.fg 0 to (by rw [z];rfl);lia) (FwC.app ⟨fun x hx=>h.ok x (bx _ hx),fun i to e hi=>?_,fun i to hi=>?_⟩ (by rw [cp] at h';rw [show k + 1 + A.length=k + (A.length + 1) by lia];exact h'))
  ·have:=h.fw (i + 1) to e (by simpa using hi);lia
  ·have:=h.fg (i + 1) to (by simpa using hi);lia
mutual
theorem zcF:∀ (r:Rw) (k:Nat),jR r→Y4 r→FwC k (yn r k)
 | .iff e a b,k,o,p=>by
  unfold jR at o
  unfold Y4 at p
  have ha:=kM a (k + 1) o.2.1 p.2.1
  have hb:=kM b (k + 2 + (zH a (k + 1)).length) o.2.2 p.2.2
  have ec:yn (.iff e a b) k=blk e k (zH a (k + 1)) (Rws.isNil b) (zH b (k + 2 + (zH a (k + 1)).length)):=by rw [yn]
  rw [ec]
  generalize zH a (k + 1)=A at *
  generalize zH b (k + 2 + A.length)=B at *
  unfold blk
  split
  ·exact .cons ⟨o.1,trivial⟩ (fun e' to z=>by cases z;lia) (fun to z=>nomatch z) ha
  ·refine .cons ⟨o.1,trivial⟩ (fun e' to z=>by cases z;lia) (fun to z=>nomatch z) (.app ha (.cons ⟨trivial,trivial⟩ (fun e' to z=>nomatch z) (fun to z=>by cases z;lia) ?_))
   rw [show k + 1 + A.length + 1=k + 2 + A.length by lia]
   exact hb
 | .take sh e sl,k,o,p=>by rw [xa (x:=.take sh e sl) trivial];exact .cons ⟨o,p⟩ (fun _ _ z=>nomatch z) (fun _ z=>nomatch z) (.nil _)
 | .give sh e f,k,o,p=>by rw [xa (x:=.give sh e f) trivial];exact .cons ⟨o,p⟩ (fun _ _ z=>nomatch z) (fun _ z=>nomatch z) (.nil _)
 | .lt sl e,k,o,p=>by rw [xa (x:=.lt sl e) trivial];exact .cons ⟨o,p⟩ (fun _ _ z=>nomatch z) (fun _ z=>nomatch z) (.nil _)
 | .say e,k,o,p=>by rw [xa (x:=.say e) trivial];exact .cons ⟨o,p⟩ (fun _ _ z=>nomatch z) (fun _ z=>nomatch z) (.nil _)
 | .off e,k,o,p=>by rw [xa (x:=.off e) trivial];exact .cons ⟨o,p⟩ (fun _ _ z=>nomatch z) (fun _ z=>nomatch z) (.nil _)
theorem kM:∀ (r:Rws) (k:Nat),yX r→yR r→FwC k (zH r k)
 | .nil,k,o,p=>by rw [zH];exact .nil k
 | .cons r rs,k,o,p=>by
  unfold yX at o
  unfold yR at p
  rw [zH]
  exact .app (zcF r k o.1 p.1) (kM rs _ o.2 p.2)
end
theorem zgu {r:Rws} (h1:Ye 6 r) (h2:yX r) (h3:(zH r 0).length≤40):Xe (zH r 0):=by
 have f:=kM r 0 h2 h1.pl
 exact ⟨fun c hc=>(f.ok c hc).1,fun c hc=>(f.ok c hc).2,fun i to e h=>by have:=f.fw i to e h;lia,fun i to h=>by have:=f.fg i to h;lia,h3⟩
def plD (p:Pl):PyData:=.tuple [.str p.1,.int p.2]
def qE (r:Row):PyData:=.tuple [plD r.1,.int r.2]
theorem zfJ {q:Addr} {p:Pl} (h:H q=some (.tup [.str p.1,.int p.2])):Dat K H (.ref q) (plD p):=.tup (SqT.of h) (.cons (.str _) (.cons (.int _) .nil))
theorem zcG {p:Pl} (h:cf p.1=true):zM (plD p)=true:=by simp [plD,zM,z6,h]
theorem zcH (p:Pl):(plD p).depth≤2:=by simp [plD,dF,cj]
theorem Q0:∀ {ys:List V} {rows:List Row},Paired (PrAt H) ys rows→DatAll K H ys (rows.map qE)
 | _,_,.nil=>.nil
 | _,_,.cons ⟨r,p,e1,e2,e3⟩ t=>by
  rw [bX,e1]
  exact .cons (.tup (SqT.of e2) (.cons (zfJ e3) (.cons (.int _) .nil))) (Q0 t)
theorem Qb {l:Addr} {rows:List Row} (h:yh H l rows):Dat K H (.ref l) (.list (rows.map qE)):=by
 obtain ⟨xs,h1,h2⟩:=h
 exact .lst (SqL.of h1) (Q0 h2)
theorem WF:∀ {rows:List Row},(∀ r∈rows,cf r.1.1=true)→z6 (rows.map qE)=true
 | [],_=>rfl
 | r :: t,h=>by
  rw [bX,z6,WF (fun x hx=>h x (bx _ hx))]
  have:=zcG (h r br)
  simp [qE,zM,z6,this]
theorem JK:∀ (rows:List Row),cj (rows.map qE)≤3
 | []=>by simp [cj]
 | r :: t=>by
  have h:=JK t
  have h2:=zcH r.1
  rw [bX,cj]
  simp only [qE,dF,cj] at h2 ⊢
  lia
theorem Xr {rows:List Row} (h:∀ r∈rows,cf r.1.1=true):zM (.list (rows.map qE))=true:=by rw [zM];exact WF h
theorem Yy (rows:List Row):(PyData.list (rows.map qE)).depth≤4:=by
 have:=JK rows
 rw [dF];lia
section
variable {l:Addr}
theorem zgv {H':Hp} {rows:List Row} (h:yh H l rows) (k:∀ o,H l=some o→H' l=some o) (ts:TSm H H'):yh H' l rows:=by
 obtain ⟨xs,h1,h2⟩:=h
 exact ⟨xs,k _ h1,Paired.mapP h2 fun _ _ ⟨r,p,e1,e2,e3⟩=>⟨r,p,e1,ts _ _ e2,ts _ _ e3⟩⟩
theorem yS {H':Hp} {rows:List Row} (h:yh H l rows) (s:Same H H'):yh H' l rows:=zgv h (fun o e=>s _ _ e) fun b ys e=>s _ _ e
end
section
variable {C:List Cs} {s:RSt} {m:Nat}
theorem zcI:cf (bf "done")=true:=by decide +kernel
def ocD:Oc→PyData
 | .done sa=>.tuple [.str (bf "done"),.tuple (sa.map mv)]
 | .off w=>.tuple [.str (bf "off"),.str w]
theorem zei {H':Hp} {v:V} {oc:Oc} (h:Vq H v oc) (s:Same H H'):Vq H' v oc:=by
 cases oc with
 | done sa=>obtain ⟨o,y,e1,e2,e3⟩:=h;exact ⟨o,y,e1,s _ _ e2,s _ _ e3⟩
 | off w=>obtain ⟨o,e1,e2⟩:=h;exact ⟨o,e1,s _ _ e2⟩
theorem zgw {H':Hp} {v:V} {oc:Oc} (h:Vq H v oc) (s:TSm H H'):Vq H' v oc:=by
 cases oc with
 | done sa=>obtain ⟨o,y,e1,e2,e3⟩:=h;exact ⟨o,y,e1,s _ _ e2,s _ _ e3⟩
 | off w=>obtain ⟨o,e1,e2⟩:=h;exact ⟨o,e1,s _ _ e2⟩
theorem zfK {v:V} {oc:Oc} (h:Vq H v oc):Dat K H v (ocD oc):=by
 cases oc with
 | done sa =>
  obtain ⟨o,y,rfl,e2,e3⟩:=h
  exact .tup (SqT.of e2) (.cons (.str _) (.cons (.tup (SqT.of e3) (DatAll.of fun i _=>.int i)) .nil))
 | off w =>
  obtain ⟨o,rfl,e2⟩:=h
  exact .tup (SqT.of e2) (.cons (.str _) (.cons (.str _) .nil))
theorem Xs:∀ (sa:List Int),z6 (sa.map mv)=true
 | []=>rfl
 | i :: t=>by rw [bX,z6,Xs t];rfl
theorem WG:∀ (sa:List Int),cj (sa.map mv)=0
 | []=>by simp [cj]
 | i :: t=>by rw [bX,cj,WG t,dF];rfl
theorem zcJ {oc:Oc} (h:∀ w,oc=.off w→cf w=true):zM (ocD oc)=true:=by
 cases oc with
 | done sa=>have:=zcI;simp [ocD,zM,z6,Xs,this]
 | off w=>have:=h w rfl;have k:=zdV;simp [ocD,zM,z6,this,k]
theorem zej (oc:Oc):(ocD oc).depth≤3:=by
 cases oc with
 | done sa=>simp only [ocD,dF,cj,WG];lia
 | off w=>simp only [ocD,dF,cj];lia
def ppD (oc:Oc) (no gi:List Row):PyData:=.tuple [ocD oc,.list (no.map qE),.list (gi.map qE)]
theorem zek {out out':List Row} (h:vj s out) (h':vj s out'):out=out':=by
 unfold vj at h h'
 cases e:s.why with
 | some w=>rw [e] at h h';rw [h,h']
 | none=>rw [e] at h h';exact jn h.1 h'.1 fun ⟨p,w⟩=>(h.2 p w).trans (h'.2 p w).symm
theorem zgx {out:List Row} (I:RnI C m s) (h:vj s out):∀ r∈out,cf r.1.1=true:=by
 unfold vj at h
 cases e:s.why with
 | some w=>rw [e] at h;rw [h];exact fun r hr=>nomatch hr
 | none =>
  rw [e] at h
  intro r hr
  exact kJ (P:=fun r=>cf r.1.1=true) I.ng ((h.2 r.1 r.2).mp hr)
theorem zfL {out:List Row} (h:vj s out):out.length≤s.gi.length:=by
 unfold vj at h
 cases e:s.why with
 | some w=>rw [e] at h;rw [h];exact bY _
 | none =>
  rw [e] at h
  have ld:=x0 s.gi
  have n1:((dOf s.gi).map (·.1)).Nodup:=(wV s.gi).1
  have n2:((out.map (·.1)).map zL).Nodup:=by
   have:=h.1.nd
   unfold eV at *
   rw [eM]
   exact this.imp fun {a b} hab z=>hab (xz z)
  have sub2:∀ k∈(out.map (·.1)).map zL,k∈(dOf s.gi).map (·.1):=fun k hk=>by
   obtain ⟨p,hp,rfl⟩:=b8.mp hk
   obtain ⟨r,hr,rfl⟩:=b8.mp hp
   exact dy (f:=(·.1)) (mem_dOf.mpr ⟨r.1,r.2,rfl,(h.2 r.1 r.2).mp hr⟩)
  have:=wP n2 sub2
  simp only [bn] at this
  lia
end
theorem zcK {xs:List V} {y:V}:atI (xs ++ [y]) (-1)=some y:=by
 have e:ixN (xs ++ [y]).length (-1)=some ((xs ++ [y]).length - 1):=by
  unfold ixN
  rw [bt,dg]
  simp
  lia
 unfold atI
 rw [e]
 exact Xp
theorem zfM {H0 H1 H3:Hp} {x dx:Addr} {a:RAd} (s1:Same H0 H1) (hx:H1 x=none) (hdx:H1 dx=none) (k3:ZY x (upd (upd H1 dx (.own x)) x (.ins t.c_Run dx [])) H3) (fr:∀ b,OwA x a b→b=x∨upd (upd H1 dx (.own x)) x (.ins t.c_Run dx []) b=none):Same H1 H3∧∀ b,OwA x a b→H1 b=none:=by
 have s2:Same H1 (upd (upd H1 dx (HO.own x)) x (HO.ins t.c_Run dx [])):=fun b o e=>by rw [zk (zP e hx),zk (zP e hdx)];exact e
 refine ⟨fun b o e=>k3 b o (fun z=>by rw [z,hx] at e;cases e) (s2 b o e),fun b ob=>?_⟩
 rcases fr b ob with z | z
 ·rw [z];exact hx
 ·exact zG s2 z
theorem zel (ns:List Int) (lo hi:Option Int):∃ ys:List Int,qI (ns.map V.int) lo hi=ys.map V.int∧ys.length≤ns.length:=by
 refine ⟨(ns.drop (HT.sIx ns.length 0 lo)).take (HT.sIx ns.length ns.length hi - HT.sIx ns.length 0 lo),?_,?_⟩
 ·unfold qI
  rw [mR,oI,bn]
 ·rw [c8,et];lia
theorem zfN {j c:Int} (hj:0≤j) (hc:0 < c):(Zv 0 j c:Int)≤j:=by
 unfold Zv
 split
 ·rename_i h
  have h1:=lB (a:=j - 0 - 1) (b:=c) (by lia) (by lia)
  have h2:=pJ (a:=j - 0 - 1) c (by lia)
  rw [eQ (by lia)]
  lia
 ·simpa using hj
theorem _root_.L2.PrAt.same {H H':Hp} {v:V} {q:Row} (h:WB H v q) (s:Same H H'):WB H' v q:=by
 obtain ⟨r,p,e,h1,h2⟩:=h
 exact ⟨r,p,e,s _ _ h1,s _ _ h2⟩
theorem _root_.L2.PrAt.tsame {H H':Hp} {v:V} {q:Row} (h:WB H v q) (s:JH H H'):WB H' v q:=by
 obtain ⟨r,p,e,h1,h2⟩:=h
 exact ⟨r,p,e,s _ _ h1,s _ _ h2⟩
theorem vh {H H':Hp} (s:JH H H'):∀ {vs:List V} {rows:List Row},xK H vs rows→xK H' vs rows
 | _,_,.nil=>.nil
 | _,_,.cons h r=>.cons (h.tsame s) (vh s r)
theorem jb {H H':Hp} (s:Same H H'):∀ {vs:List V} {rows:List Row},xK H vs rows→xK H' vs rows
 | _,_,.nil=>.nil
 | _,_,.cons h r=>.cons (h.same s) (jb s r)
theorem kC {vs:List V} {rows:List Row} (h:xK H vs rows):vs.length=rows.length:=bH h
theorem zcL {vs:List V} {rows:List Row} {i:Nat} {v:V} (h:xK H vs rows) (e:vs[i]?=some v):∃ q,rows[i]?=some q∧WB H v q:=by
 have hi:=(bw.mp e).1
 have l:=kC h
 exact ⟨rows[i],ba (by lia),zX h e (ba (by lia))⟩
theorem WH {H:Hp} {v:V} {q:Row}:∀ {ys:List V} {rows:List Row},xK H ys rows→WB H v q→xK H (ys ++ [v]) (rows ++ [q])
 | _,_,.nil,h=>.cons h .nil
 | _,_,.cons a r,h=>.cons a (WH r h)
theorem zcM (rows:List Row):∃ qs:List Pl,(dOf rows).map (·.1)=qs.map zL∧qs.Nodup∧∀ p,p∈qs↔(zy rows p).isSome=true:=by
 have h:=wV rows
 have:∀ (kvs:List (List Key × V)),(∀ kv∈kvs,∃ (p:Pl) (w:Int),kv=(zL p,.int w))→∃ qs:List Pl,kvs.map (·.1)=qs.map zL:=fun kvs=>by
  induction kvs with
  | nil=>exact fun _=>⟨[],rfl⟩
  | cons kv r ih =>
   intro hk
   obtain ⟨qs,e⟩:=ih fun z hz=>hk z (bx _ hz)
   obtain ⟨p,w,e2⟩:=hk kv br
   exact ⟨p :: qs,by rw [bX,bX,e,e2]⟩
 obtain ⟨qs,e⟩:=this _ h.2
 refine ⟨qs,e,xZ (f:=zL) (by rw [← e];exact h.1),fun p=>?_⟩
 constructor
 ·intro hp
  have:zL p∈(dOf rows).map (·.1):=by rw [e];exact dy hp
  obtain ⟨kv,hk,e1⟩:=b8.mp this
  obtain ⟨p',w,rfl,hw⟩:=mem_dOf.mp hk
  have:=xz e1
  subst this
  rw [hw];rfl
 ·intro hp
  obtain ⟨w,hw⟩:=fo.mp hp
  have:zL p∈qs.map zL:=by rw [← e];exact dy (f:=(·.1)) (mem_dOf.mpr ⟨p,w,rfl,hw⟩)
  obtain ⟨p',hp',e1⟩:=b8.mp this
  rw [← xz e1];exact hp'
def WI (rows:List Row) (p:Pl):Option Row:=match zy rows p with
 | some w=>if w=0 then none else some (p,w)
 | none=>none
def zfO (rows:List Row) (qs:List Pl) (i:Nat) (ys:List V) (H:Hp):Prop:=∃ out:List Row,xK H ys out∧out=(qs.take i).filterMap (WI rows)
theorem zem {rows:List Row} {qs:List Pl} {i:Nat} {ys:List V} {H H':Hp} (s:JH H H') (h:zfO rows qs i ys H):zfO rows qs i ys H':=by
 obtain ⟨out,h1,h2⟩:=h
 exact ⟨out,vh s h1,h2⟩
theorem toRow_iff {rows:List Row} {p:Pl} {b:Row}:WI rows p=some b↔b.1=p∧zy rows p=some b.2∧b.2≠0:=by
 unfold WI
 obtain ⟨p',w'⟩:=b
 cases e:zy rows p with
 | none=>simp
 | some w =>
  by_cases h:w=0
  ·subst h
   simp only [if_true]
   constructor
   ·intro z;cases z
   ·rintro ⟨_,z,h2⟩
    exact absurd (bS z).symm h2
  ·simp only [if_neg h,bi,Prod.mk.injEq]
   constructor
   ·rintro ⟨rfl,rfl⟩;exact ⟨rfl,rfl,h⟩
   ·rintro ⟨rfl,rfl,_⟩;exact ⟨rfl,rfl⟩
theorem zfP {rows:List Row} {ps:List Pl} (hw:ps.Pairwise fun a b=>z4 a b=true) (hm:∀ p,p∈ps↔(zy rows p).isSome=true):xA rows (ps.filterMap (WI rows)):=by
 constructor
 ·unfold Rising
  rw [List.pairwise_filterMap]
  refine hw.imp fun {a a'} h b hb b' hb'=>?_
  rw [(toRow_iff.mp hb).1,(toRow_iff.mp hb').1];exact h
 ·intro p w
  rw [List.mem_filterMap]
  constructor
  ·rintro ⟨a,_,h⟩
   obtain ⟨h1,h2,h3⟩:=toRow_iff.mp h
   cases h1
   exact ⟨h2,h3⟩
  ·rintro ⟨h1,h2⟩
   exact ⟨p,(hm p).mpr (by rw [h1];rfl),toRow_iff.mpr ⟨rfl,h1,h2⟩⟩
theorem X8 {a:Addr} {xs:List V} {rows:List Row} (h1:H a=some (.lst xs)) (h2:xK H xs rows) (h4:(dOf rows).length≤63) (h5:rows.length≤1000) (q:∀ l ys out H',Same H H'→H l=none→H' l=some (.lst ys)→xK H' ys out→xA rows out→Q (.ref l) H') :
  vE K t { nx:=fun _ H'=>Q .non H',rt:=Q } (L2.start ["rows","worths"] [.ref a]) H:=by
 simp only [vE,jW,zbP,qV,L2.start,zo,zK,zl,zD,tOp,zc,tC,yO,zb,zi,zC,tCB,xk,qO,xc,rNe,jS,b9,bE,bO,bI,bQ,bc,bd,bi,exists_eq_left',V.ref.injEq,V.bl.injEq,bq,and_true,exists_and_left,bp,bu,bT,bL,cB,decide_eq_false_iff_not]
 refine ⟨xs,h1,rows,h2,h5,fun d hd=>?_⟩
 have S:∀ u:HO,Same H (upd H d u):=fun u=>isV (o:=u) d hd
 obtain ⟨qs,hqs,nqs,mqs⟩:=zcM rows
 have ld:=x0 rows
 generalize hH0:upd H d (.dT (dOf rows))=H0
 have S0:Same H H0:=by rw [← hH0];exact S _
 have d0:H0 d=some (.dT (dOf rows)):=by rw [← hH0];exact ze
 refine ⟨dOf rows,d0,qs,hqs,by lia,fun l ps hl0 hperm hpw hps=>?_⟩
 obtain ⟨H1,eH,s1,q1⟩:=zdC (o:=HO.lst (ps.map fun n=>V.ref n.1)) hl0
 rw [← eH]
 clear eH
 refine ⟨⟨_,SqL.of q1⟩,fun D hD=>?_⟩
 refine ja (J:=Itl K l) ps.length (by have:=hperm.length_eq;have:=congrArg bO hqs;simp at *;lia) (fun τ=>∃ o,τ=[o,some (.ref d)]) (zfO rows (ps.map (·.2))) (fun i ys H H' s h=>zem s h) ⟨_,rfl⟩ ⟨[],.nil,rfl⟩ (fun i H s h=>⟨_,_,SqL.of (s _ _ q1),ba (by rw [bn];exact h)⟩) (fun H s=>⟨_,SqL.of (s _ _ q1),by rw [bn];exact bj _⟩) hD ?_ ?_
 ·rintro i v τ ys H4 H5 ⟨o,rfl⟩ s4 hi hR ⟨rfl,hv⟩
  have hv:=hv _ (SqL.of (s4 _ _ q1))
  rw [bC] at hv
  obtain ⟨n,hn,rfl⟩:=dq.mp hv
  have hp:=s4 _ _ (s1 _ _ (hps n (cq hn)))
  simp only [bc,bd,bi,exists_eq_left',V.ref.injEq,bq,and_true,bp]
  have hm:n.2∈qs:=hperm.mem_iff.mp (dy (cq hn))
  obtain ⟨w,hw⟩:=fo.mp ((mqs n.2).mp hm)
  have g:DGet H5 d (.ref n.1) ((zy rows n.2).map V.int):=.inr ⟨dOf rows,zL n.2,n.1,.inl (s4 _ _ (s1 _ _ d0)),rfl,hp,(xI rows n.2).symm⟩
  rw [hw] at g
  have tk:(ps.map (·.2)).take (i + 1)=(ps.map (·.2)).take i ++ [n.2]:=by rw [cM,bC,hn];rfl
  obtain ⟨out,hr,ho⟩:=hR
  refine ⟨_,g,rfl,xu (fun c=>⟨_,g,by decide,fun p hp2=>⟨⟨_,rfl⟩,?_,isV p hp2⟩⟩) fun c=>⟨⟨_,rfl⟩,?_,Same.refl _⟩⟩
  ·refine ⟨out ++ [(n.2,w)],WH (jb (isV p hp2) hr) ⟨p,n.1,rfl,ze,isV p hp2 _ _ hp⟩,?_⟩
   have hw0:w≠0:=fun z=>c (by rw [z])
   rw [tk,iy,← ho]
   simp [WI,hw,hw0]
  ·refine ⟨out,hr,?_⟩
   have hw0:w=0:=by simpa using c
   rw [tk,iy,← ho]
   simp [WI,hw,hw0]
 ·rintro ys H4 hly ⟨out,hr,ho⟩ s4 hq
  refine q D ys out H4 (S0.trans (s1.trans s4)) (zG (S0.trans s1) hD) hq hr ?_
  rw [cC (by rw [bn];exact bj _)] at ho
  subst ho
  exact zfP hpw fun p=>(hperm.mem_iff.trans (mqs p))
theorem vi {p:Pl} {w:Int}:∀ {l:List Row},zy l p=some w→(p,w)∈l
 | [],h=>by cases h
 | r :: t,h=>by
  rw [zy] at h
  cases e:zy t p with
  | some w' =>
   rw [e] at h
   have:w'=w:=by simpa using h
   subst this
   exact bx _ (vi e)
  | none =>
   rw [e] at h
   by_cases c:r.1=p
   ·rw [if_pos c] at h
    have:r.2=w:=by simpa using h
    rw [← c,← this];exact br
   ·rw [if_neg c] at h;cases h
theorem JL {H:Hp} {b:List Row} {ys:List V} (h2:xK H ys b):∀ {xs:List V} {a:List Row},xK H xs a→xK H (xs ++ ys) (a ++ b)
 | _,_,.nil=>h2
 | _,_,.cons h r=>.cons h (JL h2 r)
theorem Vz {a:Addr} {rows:List Row} (h1:yh H a rows) (h2:(dOf rows).length≤63) (h3:rows.length≤1000) (q:∀ l out H',Same H H'→H l=none→yh H' l out→xA rows out→Q (.ref l) H') :
  vE K t { nx:=fun _ H'=>Q .non H',rt:=Q } (L2.start ["rows","worths"] [.ref a]) H:=by
 obtain ⟨xs,hx,rx⟩:=h1
 exact X8 hx rx h2 h3 fun l ys out H' s fr hy ry ti=>q l out H' s fr ⟨ys,hy,ry⟩ ti
theorem Qc {a p:Addr} {tab:List Row} {q0:Pl} (h1:yh H a tab) (h5:tab.length≤500) (h6:H p=some (.tup [.str q0.1,.int q0.2])) (q:∀ H',Same H H'→Q (.int ((zy tab q0).getD 0)) H') :
  ZD K t { nx:=fun _ H'=>Q .non H',rt:=Q } (L2.start ["table","place"] [.ref a,.ref p]) H:=by
 simp only [ZD,qV,qd,L2.start,qd,zD,zc,tC,zb,zi,tCB,b9,bE,bO,bB,bc,bd,bi,exists_eq_left',V.ref.injEq,bq,and_true,exists_and_left,bT,bL]
 obtain ⟨xs,h1,h2⟩:=h1
 refine ⟨xs,h1,tab,h2,by lia,fun d hd=>⟨.inr ⟨dOf tab,.inl ze⟩,?_⟩⟩
 have S:=isV (o:=HO.dT (dOf tab)) d hd
 have g:DGet (upd H d (.dT (dOf tab))) d (.ref p) ((zy tab q0).map V.int):=.inr ⟨dOf tab,zL q0,p,.inl ze,rfl,S _ _ h6,(xI tab q0).symm⟩
 refine ⟨_,g,?_⟩
 have:=q _ S
 cases e:zy tab q0 with
 | none=>rw [e] at this;exact this
 | some w=>rw [e] at this;exact this
theorem zgy {v:V} (h:lfV v):jm v∧isJ v=false∧plV v:=by
 rcases h with ⟨i,rfl,hi⟩ | ⟨x,rfl,hx⟩
 ·exact ⟨.inl ⟨i,rfl,hi⟩,rfl,.inl ⟨i,rfl⟩⟩
 ·have:=qQ hx
  exact ⟨.inr ⟨x,rfl,by lia⟩,this.2.2.1,.inr ⟨x,rfl,jI hx⟩⟩
theorem NamesAt.same {H H':Hp} {nm:Addr} {ws:List Str} (h:NamesAt H nm ws) (s:Same H H'):NamesAt H' nm ws:=⟨s _ _ h.1,h.2⟩
theorem kD {nm:Addr} {ws:List Str} (h:NamesAt H nm ws) (n:Nat) (hl:ws.length=n) (hn:0 < (n:Int)) (e:Int):∃ x,atI (ws.map V.str) (e % n)=some (.str x)∧x∈ws∧yP x=true:=by
 obtain ⟨v,hv,hm⟩:=K7 e n (xs:=ws.map V.str) (by rw [bn,hl]) hn
 obtain ⟨x,hx,rfl⟩:=b8.mp hm
 exact ⟨x,hv,hx,h.2 x hx⟩
theorem Ym {c j:Int} (h1:0≤j) (h2:j≤900) (q:∀ w H',inW w=true→Same H H'→Q (.int w) H') :
  vc K t { nx:=fun _ H'=>Q .non H',rt:=Q } (L2.start ["cell","j"] [.int c,.int j]) H:=by
 simp only [vc,zm,L2.start,zo,zD,zI,tOp,zc,tC,zb,zi,zS,zC,zn,rEq,rI,rI0,jS,b9,bE,bO,bB,bc,bd,bi,exists_eq_left',V.int.injEq,V.bl.injEq,bq,and_true,true_and,and_assoc,exists_and_left,bT,bL,decide_eq_true_eq,nK,dY,Int.reduceMul,Int.reduceAdd]
 have P30:=QT (j:=30) (by decide) (by decide)
 have P40:=QT (j:=40) (by decide) (by decide)
 have hb:(1000000000000000000000000000000000000000000000000000000000000:Int) < big:=by decide +kernel
 refine ⟨h1,by lia,fun r1 H1 a1 b1 s1=>⟨by decide,xu (fun _=>?_) fun _=>⟨by lia,by lia,fun r2 H2 a2 b2 s2=>⟨by decide,q _ _ (inW_iff.mpr ?_) (s1.trans s2)⟩⟩⟩⟩
 ·have g1:=cQ c (b:=10000000000000000000000000000000000000000) (by decide)
  have g2:=cF c (b:=10000000000000000000000000000000000000000) (by decide)
  generalize c % 10000000000000000000000000000000000000000=d at *
  have m1:0≤d * (j + 2):=Int.mul_nonneg g1 (by lia)
  have m2:d * (j + 2)≤10000000000000000000000000000000000000000 * 1000:=Int.mul_le_mul (by lia) (by lia) (by lia) (by decide)
  generalize d * (j + 2)=f at *
  have g3:=cQ (f * 1000003 + j) (b:=2000000000000000000000000000001) (by decide)
  have g4:=cF (f * 1000003 + j) (b:=2000000000000000000000000000001) (by decide)
  exact ⟨P40,by decide,⟨by lia,by lia⟩,⟨by lia,by lia⟩,P30,⟨by lia,by lia⟩,by decide,P30,q _ _ (inW_iff.mpr (by lia)) s1⟩
 ·lia
theorem WJ {a b:List V} {w:Str} (ha:TermOk a) (hb:TermOk b) (hw:wdJ w) (l:a.length + b.length < 1000):TermOk (a ++ b ++ [.str w]):=by
 refine ⟨fun kvs=>?_,fun z hz=>?_,by rw [bt,bt,dg];lia⟩
 ·obtain ⟨r1,g1⟩:=ha.1 kvs
  obtain ⟨r2,g2⟩:=hb.1 kvs
  exact ⟨_,zaB hw.1 g1 g2⟩
 ·rcases bP.mp hz with hz | hz
  ·rcases bP.mp hz with hz | hz
   ·exact ha.2.1 z hz
   ·exact hb.2.1 z hz
  ·rw [b5.mp hz];exact .inr ⟨w,rfl,hw.2.1⟩
theorem Q1 {a b:List V} {w:Str} (ha:tmP a) (hb:tmP b) (hw:wdJ w):tmP (a ++ b ++ [.str w]):=fun z hz=>by
 rcases bP.mp hz with hz | hz
 ·rcases bP.mp hz with hz | hz
  ·exact ha z hz
  ·exact hb z hz
 ·rw [b5.mp hz];exact .inr ⟨w,rfl,hw.2.2⟩
theorem Xt {u:V} (h:lfV u):TermOk [u]∧tmP [u]:=by
 obtain ⟨o1,j1,p1⟩:=zgy h
 exact ⟨zb8 o1 j1,fun z hz=>by rw [b5.mp hz];exact p1⟩
mutual
theorem zen:∀ (r:Rw) (k:Nat),(yn r k).length≤szR r∧r.cnt≤szR r
 | .iff e a b,k=>by
  have h1:=Zc a (k + 1)
  have h2:=Zc b (k + 2 + (zH a (k + 1)).length)
  have c:(Rw.iff e a b).cnt=max a.cnt b.cnt + 1:=by rw [Rw.cnt]
  have z:szR (.iff e a b)=vm a + vm b + 2:=by rw [szR]
  rw [yn,c,z]
  unfold blk
  split
  ·exact ⟨by simp;lia,by lia⟩
  ·exact ⟨by simp;lia,by lia⟩
 | .take sh e sl,k=>by simp [yn,szR,Rw.cnt]
 | .give sh e f,k=>by simp [yn,szR,Rw.cnt]
 | .lt sl e,k=>by simp [yn,szR,Rw.cnt]
 | .say e,k=>by simp [yn,szR,Rw.cnt]
 | .off e,k=>by simp [yn,szR,Rw.cnt]
theorem Zc:∀ (r:Rws) (k:Nat),(zH r k).length≤vm r∧r.cnt≤vm r
 | .nil,k=>by simp [zH,vm,Rws.cnt]
 | .cons r rs,k=>by
  have h1:=zen r k
  have h2:=Zc rs (k + (yn r k).length)
  rw [zH,vm,Rws.cnt,bt]
  lia
end
theorem WK (x:Rw):∀ (r:Rws),vm (r.snoc x)=vm r + szR x
 | .nil=>by show vm (.cons x .nil)=_;simp [vm]
 | .cons y r=>by
  show vm (.cons y (r.snoc x))=_
  rw [vm,vm,WK x r];lia
theorem Zd (C:List Cs) (tb:Pl→Int):∀ (a b:Nat) (s:RSt),jv C tb (a + b) s=jv C tb b (jv C tb a s)
 | 0,b,s=>by rw [iz];rfl
 | a + 1,b,s=>by
  rw [Nat.add_right_comm]
  exact Zd C tb a b (xC C tb s)
theorem Xu {C:List Cs} {tb:Pl→Int} {s:RSt} (h:yo C s=true):∀ k,jv C tb k s=s
 | 0=>rfl
 | k + 1=>by
  have e:xC C tb s=s:=by unfold xC xh;rw [if_pos h]
  show jv C tb k (xC C tb s)=s
  rw [e]
  exact Xu h k
theorem JM {C:List Cs} {tb:Pl→Int} {s a b:RSt} (ha:Rch C tb s a) (hb:Rch C tb s b) (oa:yo C a=true) (ob:yo C b=true):a=b:=by
 obtain ⟨j,rfl⟩:=ha
 obtain ⟨k,rfl⟩:=hb
 rcases Nat.le_total j k with h | h
 ·obtain ⟨d,rfl⟩:∃ d,k=j + d:=⟨k - j,by lia⟩
  rw [Zd,Xu oa]
 ·obtain ⟨d,rfl⟩:∃ d,j=k + d:=⟨j - k,by lia⟩
  rw [Zd,Xu ob]
theorem zaS (c:Cs) (w:Int) (s:RSt):(zT c w s).gi.length + (zT c w s).no.length≤s.gi.length + s.no.length + 1:=by
 have z:s.gi.length + s.no.length≤s.gi.length + s.no.length + 1:=by lia
 cases c with
 | go k=>exact z
 | skip e to=>cases hk:rk s.sl e with
  | error x=>simp only [zT,yk,hk];exact z
  | ok i=>simp only [zT,yk,hk];exact z
 | row r =>
  cases r with
  | off e=>cases hk:rk s.sl e with
   | error x=>simp only [zT,yk,hk];exact z
   | ok i =>
    simp only [zT,yk,hk]
    split
    ·exact z
    ·exact z
  | iff e a b=>exact z
  | take sh e x=>cases hk:rk s.sl e with
   | error x=>simp only [zT,yk,doR,hk];exact z
   | ok i =>
    simp only [zT,yk,doR,hk]
    unfold yL
    split
    ·exact z
    ·show s.gi.length + (s.no ++ [((sh,i),w)]).length≤_
     rw [bt,dg];lia
  | give sh e f=>cases hk:rk s.sl e with
   | error x=>simp only [zT,yk,doR,hk];exact z
   | ok i=>cases hk2:rk s.sl f with
    | error x=>simp only [zT,yk,doR,hk,hk2];exact z
    | ok j =>
     simp only [zT,yk,doR,hk,hk2]
     rw [bt,dg];lia
  | lt x e=>cases hk:rk s.sl e with
   | error x=>simp only [zT,yk,doR,hk];exact z
   | ok i=>simp only [zT,yk,doR,hk];exact z
  | say e=>cases hk:rk s.sl e with
   | error x=>simp only [zT,yk,doR,hk];exact z
   | ok i=>simp only [zT,yk,doR,hk];exact z
theorem zeo (C:List Cs) (tb:Pl→Int) (s:RSt):(xC C tb s).gi.length + (xC C tb s).no.length≤s.gi.length + s.no.length + 1:=by
 unfold xC xh
 split
 ·lia
 ·split
  ·lia
  ·exact zaS ..
theorem rn0 {C:List Cs}:RnI C 0 st0:=⟨⟨(fun k v e=>by cases e),(fun r h=>nomatch h),(fun r h=>nomatch h),bj _,bj _,bj _,bj _,ig⟩,(fun r h=>nomatch h),(fun r h=>nomatch h),fun _=>bY _,fun w z=>nomatch z⟩
structure FdS (t:Adr) (H0 H:Hp) (x:Addr) (a:RAd) (C:List Cs) (tb:Pl→Int) (k:Nat) (s:RSt):Prop where
 sm:Same H0 H
 R:RnAt t H x a C s
 I:RnI C k s
 rc:jv C tb k st0=s
 fw:s.gi.length + s.no.length≤k
 le:k≤C.length
theorem FdS.same {H0 H':Hp} {x:Addr} {a:RAd} {C:List Cs} {tb:Pl→Int} {k:Nat} {s:RSt} (S:FdS t H0 H x a C tb k s) (h:Same H H'):FdS t H0 H' x a C tb k s:=⟨S.sm.trans h,S.R.same h,S.I,S.rc,S.fw,S.le⟩
def fdI (t:Adr) (H0:Hp) (l tl x:Addr) (a:RAd) (C:List Cs) (tb:Pl→Int) (m:Nat) (σ:St) (H:Hp):Prop:=∃ k s,m=C.length - k∧(∃ o,σ=[some (.ref l),some (.ref tl),some (.ref x),o])∧FdS t H0 H x a C tb k s
section
variable {l tl x:Addr} {a:RAd} {xs:List V} {C:List Cs} {rows:List Row} {H0:Hp}
theorem FdS.step {k:Nat} {s:RSt} {tb:Pl→Int} {H1 H2:Hp} (O:Xe C) (ow:∀ b,OwA x a b→H0 b=none) (S:FdS t H0 H1 x a C tb k s) (ho:yo C s=false) (hw:inW (q8 C tb s)=true) (k2:Kp x a H1 H2) (R2:RnAt t H2 x a C (xh C (q8 C tb s) s)):FdS t H0 H2 x a C tb (k + 1) (xC C tb s):=by
 have no:¬ yo C s=true:=by rw [ho];decide
 have lt:=Zb no
 have wn:s.why=none:=by
  cases e:s.why with
  | none=>rfl
  | some v=>exact absurd (show yo C s=true by unfold yo;rw [e];rfl) no
 have:=S.I.at_ wn
 refine ⟨fun b o e=>k2 b o (fun y=>by rw [ow b (.inl y)] at e;cases e) (S.sm _ _ e),R2,zeh O S.I ho hw,?_,?_,by lia⟩
 ·rw [Zd,S.rc];rfl
 ·have:=zeo C tb s
  have:=S.fw
  lia
end
theorem zaT {J:It} {D:Addr} {τ₀:St} {H1:Hp} {Q:Hp→Prop} {B:V→St→Hp→(V→St→Hp→Prop)→(St→Hp→Prop)→Prop} (n:Nat) (hn:n≤1000000) (C:St→Prop) (R:Nat→List V→Hp→Prop) (hm:∀ i ys H H',(∀ b o,b≠D→H b=some o→H' b=some o)→R i ys H→R i ys H') (hC:C τ₀) (h0:R 0 [] H1)
  (go:∀ i H,Same H1 H→i < n→J.go i H) (stop:∀ H,Same H1 H→J.stop n H) (hD:H1 D=none)
  (hs:∀ i x τ ys H H',C τ→Same H1 H→i < n→R i ys H→H D=some (.lst ys)→J.yld i H x H'→B x τ H' (fun v τ' H4=>C τ'∧R (i + 1) (ys ++ [v]) H4∧Same H H4) (fun τ' H4=>C τ'∧R (i + 1) ys H4∧Same H H4))
  (hd:∀ ys H,ys.length≤n→R n ys H→Same H1 H→H D=some (.lst ys)→Q H) :
  ∃ W:Nat→Nat→List V→St→Hp→Prop,(∃ m,W 0 m [] τ₀ (upd H1 D (.lst [])))∧∀ i m ys τ H,W i m ys τ H→H D=some (.lst ys) ∧
  ((J.stop i H∧Q H)∨(J.go i H∧ys.length < sizeLine∧∃ N:V→St→Hp→Prop,
   (∀ v τ' H',N v τ' H'→H' D=some (.lst ys)∧∃ m',m' < m∧W (i + 1) m' (ys ++ [v]) τ' (upd H' D (.lst (ys ++ [v]))))∧∃ Nf:St→Hp→Prop,(∀ τ' H',Nf τ' H'→∃ m',m' < m∧W (i + 1) m' ys τ' H') ∧
   ∀ x H',J.yld i H x H'→B x τ H' N Nf)):=by
 have ext:∀ {H:Hp} {o:HO},Same H1 H→Same H1 (upd H D o):=fun {H o} h b u e=>by
  rw [zk (zP e hD)];exact h b u e
 refine ⟨fun i m ys τ H=>m=n - i∧i≤n∧ys.length≤i∧R i ys H∧Same H1 H∧H D=some (.lst ys)∧C τ,⟨n,by simp,bY _,bj _,hm _ _ _ _ (fun b o hb e=>by rw [zk hb];exact e) h0,ext (Same.refl _),ze,hC⟩,?_⟩
 rintro i m ys τ H ⟨rfl,hi,hl,hR,hS,hy,hc⟩
 refine ⟨hy,?_⟩
 by_cases hlt:i < n
 ·refine .inr ⟨go i H hS hlt,b0 (by lia:ys.length≤1000000) (by decide),_,?_,_,?_,fun x H' y=>hs i x τ ys H H' hc hS hlt hR hy y⟩
  ·rintro v τ' H4 ⟨c4,r4,s4⟩
   have y4:=s4 _ _ hy
   exact ⟨y4,n - (i + 1),by lia,rfl,hlt,by simp;lia,hm _ _ _ _ (fun b o hb e=>by rw [zk hb];exact e) r4,ext (hS.trans s4),ze,c4⟩
  ·rintro τ' H4 ⟨c4,r4,s4⟩
   exact ⟨n - (i + 1),by lia,rfl,hlt,by lia,r4,hS.trans s4,s4 _ _ hy,c4⟩
 ·obtain rfl:i=n:=by lia
  exact .inl ⟨stop H hS,hd ys H hl hR hS hy⟩
theorem zfQ {i:Nat} {j c:Int} (hj:0≤j) (hc:0 < c) (h:i < Zv 0 j c):(i:Int) * c < j:=by
 unfold Zv at h
 split at h
 ·have h2:(i:Int)≤(j - 0 - 1) / c:=by lia
  have h3:=(Int.le_ediv_iff_mul_le hc).mp h2
  lia
 ·lia
theorem zfR {C:List Cs} {m:Nat} {s:RSt} (I:RnI C m s):∀ w,Jz s=.off w→cf w=true:=fun w z=>by
 unfold Jz at z
 cases e:s.why with
 | none=>rw [e] at z;cases z
 | some v=>rw [e] at z;cases z;exact I.wy _ e
theorem zcN {C:List Cs} {m:Nat} {s:RSt} {out:List Row} (I:RnI C m s) (h:vj s out):∀ r∈out,inW r.2=true:=by
 unfold vj at h
 cases e:s.why with
 | some w=>rw [e] at h;rw [h];exact fun r hr=>nomatch hr
 | none =>
  rw [e] at h
  intro r hr
  exact kJ (P:=fun r=>inW r.2=true) I.ok.gw ((h.2 r.1 r.2).mp hr)
theorem Xv (xs:List V) (n:Nat):qI xs none (some (n:Int))=xs.take n:=by
 unfold qI
 rw [HT.sIx_none,HT.sIx_nat,ii,nB]
 by_cases c:n≤xs.length
 ·rw [gd c]
 ·rw [gH (by lia),cC (bj _),cC (by lia)]
theorem JN {H H':Hp} (s:Same H H') {xs:List V} {rows:List Row} (h:Paired (PrAt H) xs rows):Paired (PrAt H') xs rows:=Paired.mapP h fun _ _ ⟨r,p,e,h1,h2⟩=>⟨r,p,e,s _ _ h1,s _ _ h2⟩
def cIt (its:List Row) (i:Nat) (ys:List V) (H:Hp):Prop:=Paired (PrAt H) ys ((its.take i).filter fun r=>decide (r.2≠0))
theorem zep {H1:Hp} {d p:Addr} {rows:List Row} {q:Row} (hd:H1 d=some (.dT (dOf rows))) (hp:H1 p=some (.tup [.str q.1.1,.int q.1.2])) (hl:rows.length≤1000):DPut H1 d (.ref p) (.int q.2) (upd H1 d (.dT (dOf (rows ++ [q])))):=by
 rw [v5]
 have:=x0 rows
 exact DPut.t (k:=zL q.1) hd hp (b0 (by lia:(dOf rows).length≤1000) (by decide))
theorem zfS {r:Rw} {w:Int} {s s':RSt} (h:doR r w s=.ok s'):s'.no=s.no∨∃ p,wI (.row r) s=some p∧s'.no=s.no ++ [(p,w)]:=by
 cases r with
 | take sh e x =>
  cases hk:rk s.sl e with
  | error er=>rw [doR,hk] at h;cases h
  | ok n =>
   rw [doR,hk] at h
   cases h
   by_cases hh:(zy s.gi (sh,n)).isSome=true∨(zy s.no (sh,n)).isSome=true
   ·refine .inl ?_
    show (yL (sh,n) w s).no=s.no
    rw [show yL (sh,n) w s=s from if_pos hh]
   ·refine .inr ⟨(sh,n),?_,?_⟩
    ·simp only [wI,hk]
     rw [if_neg hh]
    ·show (yL (sh,n) w s).no=s.no ++ [((sh,n),w)]
     rw [show yL (sh,n) w s={ s with no:=s.no ++ [((sh,n),w)] } from if_neg hh]
 | give sh e f =>
  cases hk:rk s.sl e with
  | error er=>rw [doR,hk] at h;cases h
  | ok n =>
   rw [doR,hk] at h
   dsimp only at h
   cases hf:rk s.sl f with
   | error er=>rw [hf] at h;cases h
   | ok i=>rw [hf] at h;cases h;exact .inl rfl
 | lt x e =>
  cases hk:rk s.sl e with
  | error er=>rw [doR,hk] at h;cases h
  | ok n=>rw [doR,hk] at h;cases h;exact .inl rfl
 | say e =>
  cases hk:rk s.sl e with
  | error er=>rw [doR,hk] at h;cases h
  | ok n=>rw [doR,hk] at h;cases h;exact .inl rfl
 | off e=>cases h;exact .inl rfl
 | iff e a b=>cases h;exact .inl rfl
theorem zeq {sh:Str} {e:List V} {x:Str} {w:Int} {s:RSt} {p:Pl} (h:wI (.row (.take sh e x)) s=some p):(zT (.row (.take sh e x)) w s).no=s.no ++ [(p,w)]:=by
 cases hk:rk s.sl e with
 | error er=>simp only [wI,hk] at h;cases h
 | ok n =>
  simp only [wI,hk] at h
  by_cases hh:(zy s.gi (sh,n)).isSome=true∨(zy s.no (sh,n)).isSome=true
  ·rw [if_pos hh] at h;cases h
  ·rw [if_neg hh] at h
   cases h
   simp only [zT,yk,doR,hk]
   show (yL (sh,n) w s).no=_
   rw [show yL (sh,n) w s={ s with no:=s.no ++ [((sh,n),w)] } from if_neg hh]
theorem zcO (c:Cs) (w:Int) (s:RSt):(wI c s=none∧(zT c w s).no=s.no)∨∃ p,wI c s=some p∧(zT c w s).no=s.no ++ [(p,w)]:=by
 cases ha:wI c s with
 | some p =>
  cases c with
  | row r =>
   cases r with
   | take sh e x=>exact .inr ⟨p,rfl,zeq ha⟩
   | _=>cases ha
  | _=>cases ha
 | none =>
  refine .inl ⟨rfl,?_⟩
  cases c with
  | go k=>rfl
  | skip e to =>
   simp only [zT,yk]
   cases rk s.sl e <;> rfl
  | row r =>
   have d:∀ s',doR r w s=.ok s'→s'.no=s.no:=fun s' h=>by
    rcases zfS h with z | ⟨p,z,_⟩
    ·exact z
    ·rw [ha] at z;cases z
   cases r with
   | off e =>
    simp only [zT,yk]
    cases rk s.sl e with
    | error er=>rfl
    | ok i=>dsimp only;split <;> rfl
   | take sh e x =>
    simp only [zT,yk]
    cases h:doR (.take sh e x) w s with
    | error er=>rfl
    | ok s'=>exact d s' h
   | give sh e f =>
    simp only [zT,yk]
    cases h:doR (.give sh e f) w s with
    | error er=>rfl
    | ok s'=>exact d s' h
   | lt x e =>
    simp only [zT,yk]
    cases h:doR (.lt x e) w s with
    | error er=>rfl
    | ok s'=>exact d s' h
   | say e =>
    simp only [zT,yk]
    cases h:doR (.say e) w s with
    | error er=>rfl
    | ok s'=>exact d s' h
   | iff e a b =>
    simp only [zT,yk]
    cases h:doR (.iff e a b) w s with
    | error er=>rfl
    | ok s'=>exact d s' h
theorem Qd (C:List Cs) (tb:Pl→Int) (s:RSt):(wJ C s=none∧(xC C tb s).no=s.no)∨∃ p,wJ C s=some p∧(xC C tb s).no=s.no ++ [(p,tb p)]:=by
 by_cases ho:yo C s=true
 ·refine .inl ⟨by unfold wJ;rw [if_pos ho],?_⟩
  unfold xC xh
  rw [if_pos ho]
 ·cases hc:C[s.n]? with
  | none =>
   refine .inl ⟨by unfold wJ;rw [if_neg ho,hc];rfl,?_⟩
   unfold xC xh
   rw [if_neg ho,hc]
  | some c =>
   have e:wJ C s=wI c s:=by unfold wJ;rw [if_neg ho,hc];rfl
   have f:xC C tb s=zT c (q8 C tb s) s:=by unfold xC xh;rw [if_neg ho,hc]
   rw [e,f]
   rcases zcO c (q8 C tb s) s with ⟨a,b⟩ | ⟨p,a,b⟩
   ·exact .inl ⟨a,b⟩
   ·refine .inr ⟨p,a,?_⟩
    rw [b]
    unfold q8
    rw [e,a]
theorem zcP {C:List Cs} {tb tb':Pl→Int} {s:RSt} (h:∀ p,wJ C s=some p→tb' p=tb p):xC C tb' s=xC C tb s:=by
 have e:q8 C tb' s=q8 C tb s:=by
  unfold q8
  cases ha:wJ C s with
  | none=>rfl
  | some p=>exact h p ha
 unfold xC
 rw [e]
theorem JO (C:List Cs) (tb:Pl→Int):∀ (k:Nat) (s:RSt),∃ l,(jv C tb k s).no=s.no ++ l
 | 0,s=>⟨[],by simp [jv]⟩
 | k + 1,s=>by
  obtain ⟨l,e⟩:=JO C tb k (xC C tb s)
  show ∃ l,(jv C tb k (xC C tb s)).no=_
  rcases Qd C tb s with ⟨_,b⟩ | ⟨p,_,b⟩
  ·exact ⟨l,by rw [e,b]⟩
  ·exact ⟨(p,tb p) :: l,by rw [e,b];simp⟩
theorem JP (C:List Cs) (tb tb':Pl→Int):∀ (k:Nat) (s:RSt),(∀ r∈(jv C tb k s).no,tb' r.1=r.2)→jv C tb' k s=jv C tb k s
 | 0,s,_=>rfl
 | k + 1,s,h=>by
  have h:∀ r∈(jv C tb k (xC C tb s)).no,tb' r.1=r.2:=h
  have e:xC C tb' s=xC C tb s:=zcP fun p hp=>by
   rcases Qd C tb s with ⟨a,_⟩ | ⟨q,a,b⟩
   ·rw [hp] at a;cases a
   ·rw [hp] at a
    cases a
    obtain ⟨l,g⟩:=JO C tb k (xC C tb s)
    exact h (p,tb p) (by rw [g,b];simp)
  show jv C tb' k (xC C tb' s)=jv C tb k (xC C tb s)
  rw [e]
  exact JP C tb tb' k (xC C tb s) h
theorem zcQ (C:List Cs) (tb:Pl→Int):∀ (k:Nat) (s:RSt),(∀ r∈s.no,tb r.1=r.2)→∀ r∈(jv C tb k s).no,tb r.1=r.2
 | 0,s,h=>h
 | k + 1,s,h=>by
  refine zcQ C tb k (xC C tb s) fun r hr=>?_
  rcases Qd C tb s with ⟨_,e⟩ | ⟨p,_,e⟩
  ·rw [e] at hr;exact h r hr
  ·rw [e] at hr
   rcases bP.mp hr with hr | hr
   ·exact h r hr
   ·rw [b5.mp hr]
theorem FedR.tb {C:List Cs} {rows:List Row} {s:RSt} (F:FedR C rows s):∀ r∈s.no,vn rows r.1=r.2:=by
 obtain ⟨k,e⟩:=F.rc
 rw [← e]
 exact zcQ C (vn rows) k st0 fun r h=>nomatch h
theorem zfT {x y:Option Int} {w:Int} (h:x.getD 0=y.getD 0) (k:x=some w∧w≠0):y=some w∧w≠0:=by
 obtain ⟨rfl,n⟩:=k
 cases y with
 | none=>exact absurd h n
 | some v =>
  have h:w=v:=h
  rw [h]
  exact ⟨rfl,by rw [← h];exact n⟩
theorem WL (p:Pl) (b:List Row):∀ (a:List Row),zy (a ++ b) p=(zy b p).or (zy a p)
 | []=>by rw [bQ];show _=Option.or _ none;rw [pV]
 | r :: t=>by
  show (zy (t ++ b) p).or _=(zy b p).or ((zy t p).or _)
  rw [WL p b t,Option.or_assoc]
section
variable {P:List Pp} {T:List (List Nat)} {k m:Nat}
theorem VA:∀ m,rfA P T k m≤m
 | 0=>bj _
 | m + 1=>by
  unfold rfA
  split
  ·exact bj _
  ·exact cx (VA m)
theorem Q2:∀ m,0 < rfA P T k m→(T.getD (rfA P T k m - 1) []).any (fun j=>mtB P j k)=true
 | 0,h=>absurd h (dX _)
 | m + 1,h=>by
  unfold rfA at h ⊢
  split
  ·rename_i c;exact c
  ·rename_i c
   rw [if_neg c] at h
   exact Q2 m h
theorem JQ:∀ m r,rfA P T k m≤r→r < m→(T.getD r []).any (fun j=>mtB P j k)=false
 | 0,r,_,h=>absurd h (eR _)
 | m + 1,r,h1,h2=>by
  unfold rfA at h1
  split at h1
  ·lia
  ·rename_i c
   by_cases e:r=m
   ·subst e;simpa using c
   ·exact JQ m r h1 (by lia)
structure RInv (P:List Pp) (k:Nat) (T:List (List Nat)):Prop where
 each:∀ r,r < T.length→T[r]?=some ((bN k).filter fun j=>decide (nO P j=r))
 ne:∀ r,r < T.length→∃ j,j < k∧nO P j=r
 lt:∀ j,j < k→nO P j < T.length
 le:T.length≤k
theorem WM (k r:Nat) (f:Nat→Nat):(bN (k + 1)).filter (fun j=>decide (f j=r))=(bN k).filter (fun j=>decide (f j=r)) ++ (if f k=r then [k] else []):=by
 rw [nJ,ff]
 congr 1
 by_cases h:f k=r
 ·rw [if_pos h];simp [h]
 ·rw [if_neg h];simp [h]
theorem ZM (P:List Pp):∀ k,RInv P k (zr P k)
 | 0=>⟨fun r h=>absurd h (eR _),fun r h=>absurd h (eR _),fun j h=>absurd h (eR _),bj _⟩
 | k + 1=>by
  have I:=ZM P k
  have e:zr P (k + 1)=zaQ (zr P k) (nO P k) k:=rfl
  have le:nO P k≤(zr P k).length:=VA _
  rw [e]
  generalize zr P k=T at *
  unfold zaQ
  by_cases c:nO P k=T.length
  ·rw [if_pos c]
   have ll:(T ++ [[k]]).length=T.length + 1:=by simp
   refine ⟨fun r h=>?_,fun r h=>?_,fun j h=>?_,by have:=I.le;lia⟩
   ·rw [WM]
    by_cases hr:r < T.length
    ·rw [dG hr,I.each r hr,if_neg (by lia),bB]
    ·have er:r=T.length:=by lia
     subst er
     rw [lD,if_pos c]
     have z:(bN k).filter (fun j=>decide (nO P j=T.length))=[]:=List.filter_eq_nil_iff.mpr fun j hj=>by
      have:=I.lt j (cI.mp hj)
      simp;lia
     rw [z];rfl
   ·by_cases hr:r < T.length
    ·obtain ⟨j,h1,h2⟩:=I.ne r hr
     exact ⟨j,by lia,h2⟩
    ·exact ⟨k,by lia,by lia⟩
   ·by_cases hj:j < k
    ·have:=I.lt j hj;lia
    ·have:j=k:=by lia
     subst this;lia
  ·rw [if_neg c]
   have lt:nO P k < T.length:=by lia
   refine ⟨fun r h=>?_,fun r h=>?_,fun j h=>?_,by rw [lE];have:=I.le;lia⟩
   ·rw [lE] at h
    rw [WM]
    by_cases hr:nO P k=r
    ·subst hr
     rw [gW lt,if_pos rfl,bg,I.each _ lt]
     rfl
    ·rw [iI hr,if_neg hr,bB]
     exact I.each r h
   ·rw [lE] at h
    obtain ⟨j,h1,h2⟩:=I.ne r h
    exact ⟨j,by lia,h2⟩
   ·rw [lE]
    by_cases hj:j < k
    ·exact I.lt j hj
    ·have:j=k:=by lia
     subst this;exact lt
theorem RInv.mem (I:RInv P k T) {r j:Nat} (hr:r < T.length):j∈T.getD r []↔j < k∧nO P j=r:=by
 rw [bg,I.each r hr]
 simp
theorem RInv.mem' (I:RInv P k T) {rs:List Nat} (h:rs∈T):rs.length≤k∧∀ j∈rs,j < k:=by
 obtain ⟨r,hr⟩:=cV h
 have hl:=(bw.mp hr).1
 have e:=(I.each r hl).symm.trans hr
 cases e
 refine ⟨?_,fun j hj=>?_⟩
 ·have:=iA (fun j=>decide (nO P j=r)) (bN k)
  rw [cR] at this
  exact this
 ·have:=(cT.mp hj).1
  exact cI.mp this
theorem zfU {k:Nat} (h:0 < nO P k):∃ j,j < k∧mtB P j k=true∧nO P j + 1=nO P k:=by
 have I:=ZM P k
 have h1:=Q2 (P:=P) (T:=zr P k) (k:=k) (zr P k).length h
 have le:nO P k≤(zr P k).length:=VA _
 obtain ⟨j,hj,hm⟩:=eB.mp h1
 have hj:j∈(zr P k).getD (nO P k - 1) []:=hj
 obtain ⟨a,b⟩:=(I.mem (by lia)).mp hj
 exact ⟨j,a,hm,by lia⟩
theorem Xw {j k:Nat} (hj:j < k) (hm:mtB P j k=true):nO P j < nO P k:=by
 have I:=ZM P k
 by_cases c:nO P j < nO P k
 ·exact c
 ·have hl:=I.lt j hj
  have:=JQ (P:=P) (T:=zr P k) (k:=k) (zr P k).length (nO P j) (by show nO P k≤_;lia) hl
  have hmem:=(I.mem hl).mpr ⟨hj,rfl⟩
  have:=eG.mp this j hmem
  exact absurd hm this
end
theorem pIn_iff {p:Pl} {l:List Row}:pIn p l=true↔∃ r∈l,r.1=p:=by
 unfold pIn
 rw [eB]
 exact ⟨fun ⟨r,h1,h2⟩=>⟨r,h1,of_decide_eq_true h2⟩,fun ⟨r,h1,h2⟩=>⟨r,h1,decide_eq_true h2⟩⟩
theorem JR {p:Pl} {l:List Row}:(zy l p).isSome=pIn p l:=by
 cases h:zy l p with
 | none =>
  cases e:pIn p l with
  | false=>rfl
  | true =>
   obtain ⟨r,hr,rfl⟩:=pIn_iff.mp e
   have:∀ l:List Row,r∈l→zy l r.1≠none:=by
    intro l
    induction l with
    | nil=>exact fun h=>nomatch h
    | cons x t ih =>
     intro hm hn
     unfold zy at hn
     cases e:zy t r.1 with
     | some w=>rw [e] at hn;cases hn
     | none =>
      rw [e] at hn
      rcases bK.mp hm with z | hm
      ·rw [z] at hn;rw [if_pos rfl] at hn;cases hn
      ·exact ih hm e
   exact absurd h (this l hr)
 | some w=>exact (pIn_iff.mpr ⟨(p,w),vi h,rfl⟩).symm
section
variable {H':Hp}
theorem PpV.same {v:V} {p:Pp} (h:PpV H v p) (s:Same H H'):PpV H' v p:=by
 obtain ⟨r,o,nl,gl,e,h1,h2,h3,h4⟩:=h
 exact ⟨r,o,nl,gl,e,s _ _ h1,zei h2 s,yS h3 s,yS h4 s⟩
theorem PpsAt.same {a:Addr} {P:List Pp} (h:PpsAt H a P) (s:Same H H'):PpsAt H' a P:=by
 obtain ⟨⟨xs,h1,h2⟩,h3,h4⟩:=h
 exact ⟨⟨xs,s _ _ h1,Paired.mapP h2 fun _ _ z=>z.same s⟩,h3,h4⟩
theorem RsAt.same {a:Addr} {ls:List Addr} {T:List (List Nat)} (h:RsAt H a ls T) (s:Same H H'):RsAt H' a ls T:=⟨s _ _ h.at_,Paired.mapP h.each fun _ _ z=>s _ _ z,h.nd,h.na⟩
theorem PpsAt.get {a:Addr} {P:List Pp} (h:PpsAt H a P) {k:Nat} (hk:k < P.length):∃ xs v,H a=some (.lst xs)∧atI xs (k:Nat)=some v∧PpV H v (pAt P k)∧kO (pAt P k)∧xs.length=P.length:=by
 obtain ⟨⟨xs,h1,h2⟩,h3,h4⟩:=h
 have lx:=bH h2
 have hv:xs[k]?=some xs[k]:=ba (by lia)
 have hp:P[k]?=some P[k]:=ba hk
 have e:pAt P k=P[k]:=by unfold pAt;rw [bg,hp];rfl
 exact ⟨xs,_,h1,xF hv,by rw [e];exact zX h2 hv hp,by rw [e];exact h3 _ (da hk),lx⟩
end
section
variable {v u:V} {a b:Pp}
theorem Xx {α β:Type} {R:α→β→Prop}:∀ {xs:List α} {ys:List β} {us:List α} {vs:List β},Paired R xs ys→Paired R us vs→Paired R (xs ++ us) (ys ++ vs)
 | _,_,_,_,.nil,h=>h
 | _,_,_,_,.cons a t,h=>.cons a (Xx t h)
def gvR (gi:List Row) (all:List Row) (i:Nat) (ys:List V) (_:Hp):Prop:=ys=((gi.take i).map fun r=>V.bl (pIn r.1 all))
theorem Xy (h1:PpV H v a) (h2:PpV H u b) (oa:kO a) (ob:kO b) (q:∀ H',Same H H'→Q (.bl (JA a b)) H') :
  vS K t { nx:=fun _ H'=>Q .non H',rt:=Q } (L2.start ["one","other","known"] [v,u]) H:=by
 obtain ⟨r1,o1,n1,g1,rfl,e1,_,f1,f2⟩:=h1
 obtain ⟨r2,o2,n2,g2,rfl,e2,_,f3,f4⟩:=h2
 obtain ⟨xs,hx,px⟩:=f2
 obtain ⟨ys,hy,py⟩:=f3
 obtain ⟨zs,hz,pz⟩:=f4
 have lx:=bH px
 have ly:=bH py
 have lz:=bH pz
 have la:=oa.lg
 have lb:=ob.lg
 have lc:=ob.ln
 simp only [vS,Y0,qV,qb,zfB,L2.start,yx,zo,zK,zl,WV,vX,WU,zD,tOp,zc,tC,zb,zi,tCB,xk,YN,qO,xc,qb,yx,b9,bE,bO,bI,bQ,bc,bd,bi,exists_eq_left',V.int.injEq,V.ref.injEq,bq,and_true,exists_and_left,bp,bu,bT,bL,if_true,cu,ite_false]
 refine ⟨_,SqT.of e2,_,rfl,_,SqT.of e2,_,rfl,n2,rfl,g2,rfl,ys,hy,zs,hz,zV (by lia),fun l hl=>?_⟩
 have s1:=isV (o:=HO.lst (ys ++ zs)) l hl
 have pr:Paired (PrAt (upd H l (HO.lst (ys ++ zs)))) (ys ++ zs) (b.no ++ b.gi):=Xx (vf s1 py) (vf s1 pz)
 refine ⟨_,ze,b.no ++ b.gi,pr,by rw [bt];lia,fun d hd=>?_⟩
 generalize upd H l (HO.lst (ys ++ zs))=H1 at *
 have s2:=isV (o:=HO.dT (dOf (b.no ++ b.gi))) d hd
 have S2:=s1.trans s2
 have e1':=S2 _ _ e1
 have hx':=S2 _ _ hx
 have hd':upd H1 d (HO.dT (dOf (b.no ++ b.gi))) d=some (.dT (dOf (b.no ++ b.gi))):=ze
 have px':=vf S2 px
 generalize upd H1 d (HO.dT (dOf (b.no ++ b.gi)))=H2 at *
 refine ⟨_,SqT.of e1',_,rfl,g1,rfl,⟨_,SqL.of hx'⟩,fun D hD=>?_⟩
 refine ja (J:=Itl K g1) xs.length (by lia) (fun τ=>∃ o0 o1,τ=[o0,o1,some (.ref d)]) (gvR a.gi (b.no ++ b.gi)) (fun i ys H H' s h=>h) ⟨_,_,rfl⟩ rfl (fun i H s h=>⟨_,_,SqL.of (s _ _ hx'),ba h⟩) (fun H s=>⟨_,SqL.of (s _ _ hx'),bj _⟩) hD ?_ ?_
 ·rintro i v τ us H4 H5 ⟨o0,o1,rfl⟩ s4 hi hR ⟨rfl,hv⟩
  have hv:=hv _ (SqL.of (s4 _ _ hx'))
  obtain ⟨row,hrow,r,p0,rfl,q2,q3⟩:=Paired.getP px' hv
  simp only [bc,bd,bi,exists_eq_left',V.ref.injEq,bq,and_true,exists_and_left,bp,bu]
  refine ⟨_,SqT.of (s4 _ _ q2),rfl,_,_,rfl,_,_,rfl,rfl,_,DGet.t (k:=zL row.1) (s4 _ _ hd') (s4 _ _ q3),⟨_,rfl⟩,?_,Same.refl _⟩
  unfold gvR at hR ⊢
  rw [cM,hrow,cY,hR]
  have e:(yf (dOf (b.no ++ b.gi)) (zL row.1)).isSome=pIn row.1 (b.no ++ b.gi):=by
   rw [← JR,xI]
   cases zy (b.no ++ b.gi) row.1 <;> rfl
  rw [e]
  rfl
 ·rintro us H4 hl hR s4 hDl
  unfold gvR at hR
  rw [lx,dk] at hR
  have e:us=(a.gi.map fun r=>pIn r.1 (b.no ++ b.gi)).map V.bl:=by rw [hR,ee];rfl
  rw [e] at hDl
  refine ⟨_,SqL.of hDl,?_⟩
  have:=q H4 (S2.trans s4)
  unfold JA at this
  rw [List.any_map]
  exact this
theorem zcR (h1:PpV H v a) (h2:PpV H u b) (oa:kO a) (ob:kO b) (q:∀ H',Same H H'→Q (.bl (zct a b)) H') :
  Vs K t { nx:=fun _ H'=>Q .non H',rt:=Q } (L2.start ["one","other"] [v,u]) H:=by
 simp only [Vs,x8,L2.start,zD,zc,zb,zi,za6,zn,b9,bE,bO,bB,bc,bd,bi,exists_eq_left',V.bl.injEq,bq,and_true,and_assoc,exists_and_left,bT,bL]
 refine ⟨a,h1,b,h2,oa,ob,fun H1 s1=>?_⟩
 have e:zct a b=(JA a b || JA b a):=rfl
 cases g:JA a b with
 | true =>
  rw [if_pos rfl]
  rw [g,Bool.true_or] at e
  have:=q H1 s1
  rw [e] at this
  exact this
 | false =>
  rw [if_neg (by decide)]
  rw [g,Bool.false_or] at e
  refine ⟨b,h2.same s1,a,h1.same s1,ob,oa,fun H2 s2=>?_⟩
  have:=q H2 (s1.trans s2)
  rw [e] at this
  exact this
end
section
variable {p l a:Addr} {k:Nat} {P:List Pp} {rs:List Nat} {ls:List Addr} {T:List (List Nat)}
def mgR (P:List Pp) (rs:List Nat) (k:Nat) (i:Nat) (ys:List V) (_:Hp):Prop:=ys=(((rs.take i).filter fun j=>mtB P j k).map zN)
theorem Xz {ws:List Nat} {k:Nat} {w:Nat} (h:ws[k]?=some w):ws.take (k + 1)=ws.take k ++ [w]:=by rw [cM,h];rfl
theorem JS (h1:PpsAt H p P) (h2:H l=some (.lst (rs.map zN))) (h3:rs.length≤63) (h4:∀ j∈rs,j < P.length) (h5:k < P.length) (q:∀ q H',Same H H'→H q=none→H' q=some (.lst ((rs.filter fun j=>mtB P j k).map zN))→Q (.ref q) H') :
  qA K t { nx:=fun _ H'=>Q .non H',rt:=Q } (L2.start ["papers","ranks","rank"] [.ref p,.ref l,.int k]) H:=by
 simp only [qA,Vr,L2.start,zl,zD,tOp,zc,zb,zi,tB,zn,xk,qO,xc,yw,b9,bE,bO,bI,bQ,bB,bc,bd,bi,exists_eq_left',V.ref.injEq,V.bl.injEq,bq,and_true,and_assoc,exists_and_left,bT,bL]
 have lr:(rs.map zN).length=rs.length:=bn ..
 refine ⟨⟨_,SqL.of h2⟩,fun D hD=>?_⟩
 refine ja (J:=Itl K l) rs.length (by lia) (fun τ=>∃ o0,τ=[o0,some (.ref p),some (.int k)]) (mgR P rs k) (fun i ys H H' s h=>h) ⟨_,rfl⟩ rfl (fun i H s h=>⟨_,_,SqL.of (s _ _ h2),ba (by rw [lr];exact h)⟩) (fun H s=>⟨_,SqL.of (s _ _ h2),by rw [lr];exact bj _⟩) hD ?_ ?_
 ·rintro i v τ us H4 H5 ⟨o0,rfl⟩ s4 hi hR ⟨rfl,hv⟩
  have hv:=hv _ (SqL.of (s4 _ _ h2))
  have hj:rs[i]?=some rs[i]:=ba hi
  rw [bC,hj] at hv
  obtain rfl:zN rs[i]=v:=bS hv
  have tk:=Xz (ws:=rs) hj
  have hlt:=h4 _ (da hi)
  generalize rs[i]=j at *
  have h1':=h1.same s4
  obtain ⟨xs,v1,x1,x2,x3,x4,_⟩:=h1'.get hlt
  obtain ⟨xs',v2,y1,y2,y3,y4,_⟩:=h1'.get h5
  simp only [zN,bc,bd,bi,exists_eq_left',V.int.injEq,V.ref.injEq,bq,and_true,bp]
  refine ⟨_,SqL.of x1,_,x2,_,SqL.of y1,_,y2,_,x3,_,y3,x4,y4,fun H6 s6=>?_⟩
  have em:zct (pAt P j) (pAt P k)=mtB P j k:=rfl
  rw [em]
  unfold mgR at hR ⊢
  rw [tk,ff,cY]
  cases g:mtB P j k with
  | true =>
   rw [if_pos rfl]
   exact ⟨⟨_,rfl⟩,by rw [hR];simp [g,zN],s6⟩
  | false =>
   rw [if_neg (by decide)]
   exact ⟨⟨_,rfl⟩,by rw [hR];simp [g],s6⟩
 ·rintro us H4 hl hR s4 hDl
  unfold mgR at hR
  rw [dk] at hR
  rw [hR] at hDl
  exact q D H4 s4 hD hDl
def rfI (P:List Pp) (T:List (List Nat)) (p a:Addr) (k:Nat) (H:Hp) (v:Nat) (σ:St) (H':Hp):Prop:=∃ m:Nat,σ=[some (.ref p),some (.ref a),some (.int (k:Nat)),some (.int (m:Nat))]∧Same H H'∧rfA P T k m=rfA P T k T.length∧v=m∧m≤T.length
theorem X9 (h1:PpsAt H p P) (h2:RsAt H a ls T) (h3:∀ rs∈T,rs.length≤63∧∀ j∈rs,j < P.length) (h4:T.length≤63) (h5:k < P.length) (q:∀ H',Same H H'→Q (.int (rfA P T k T.length:Nat)) H') :
  jE K t { nx:=fun _ H'=>Q .non H',rt:=Q } (L2.start ["papers","told","rank","at"] [.ref p,.ref a,.int k]) H:=by
 simp only [jE,WX,xv,L2.start,Zr,zo,zK,zl,zD,tOp,zc,tC,xj,zb,zi,ze5,zC,tCB,ze9,ipI,zn,je,yw,rI0,yG,b9,bE,bO,bI,bQ,bB,bc,bd,bi,exists_eq_left',V.int.injEq,V.ref.injEq,V.bl.injEq,bq,and_true,and_assoc,exists_and_left,bp,bu,bT,bL,decide_eq_true_eq,cu,ite_false]
 have le:=bH h2.each
 have lm:(ls.map V.ref).length=ls.length:=bn ..
 refine ⟨T.length,.inl ⟨_,SqL.of h2.at_,by lia⟩,rfI P T p a k H,⟨T.length,T.length,rfl,Same.refl H,rfl,rfl,bj _⟩,?_⟩
 rintro v σ H1 ⟨m,rfl,s1,hm,hv,lm1⟩
 simp only [bc,bd,bi,exists_eq_left',V.int.injEq,V.ref.injEq,bp,bu]
 cases m with
 | zero =>
  rw [if_neg (by decide)]
  have:=q H1 s1
  rw [← hm] at this
  exact this
 | succ m =>
  rw [if_pos (by lia)]
  have hT:T[m]?=some T[m]:=ba (by lia)
  have hL:ls[m]?=some ls[m]:=ba (by lia)
  have el:=zX h2.each hL hT
  obtain ⟨g1,g2⟩:=h3 _ (da (l:=T) (n:=m) (by lia))
  have e1:((m + 1:Nat):Int) - 1=(m:Nat):=by lia
  have eT:T.getD m []=T[m]:=by rw [bg,hT];rfl
  have step:rfA P T k (m + 1)=if (T.getD m []).any (fun j=>mtB P j k)=true then m + 1 else rfA P T k m:=rfl
  rw [eT] at step
  generalize T[m]=rs at *
  generalize ls[m]=l0 at *
  refine ⟨_,SqL.of (s1 _ _ h2.at_),_,by rw [e1];exact xF (by rw [bC,hL];rfl),l0,rfl,k,rfl,P,h1.same s1,rs,s1 _ _ el,g1,g2,h5,fun q0 H2 s2 _ hq=>⟨by decide,fun p1 hp1=>?_⟩⟩
  have s3:=isV (o:=HO.lst []) p1 hp1
  refine ⟨_,SqL.of (s3 _ _ hq),SqL.of ze,?_⟩
  have S3:=s1.trans (s2.trans s3)
  cases hf:rs.filter (fun j=>mtB P j k) with
  | nil =>
   rw [if_pos (by rfl)]
   have na:rs.any (fun j=>mtB P j k)=false:=by
    rw [eG]
    exact fun j hj z=>by
     have:j∈rs.filter (fun j=>mtB P j k):=cT.mpr ⟨hj,z⟩
     rw [hf] at this;cases this
   rw [na,if_neg (by decide)] at step
   refine ⟨rfI P T p a k H (v - 1),fun σ' H' z=>⟨v - 1,by lia,z⟩,m,by rw [e1],S3,by rw [← step];exact hm,by lia,by lia⟩
  | cons j t =>
   rw [if_neg (by simp)]
   have ya:rs.any (fun j=>mtB P j k)=true:=by
    have:j∈rs.filter (fun j=>mtB P j k):=by rw [hf];exact br
    exact eB.mpr ⟨j,cT.mp this⟩
   rw [ya,if_pos rfl] at step
   have:=q _ S3
   rw [← hm,step] at this
   exact this
end
theorem zfV {kvs:List (Key × V)} {m n:Int} (h:rk kvs [.int m]=.ok n):n=m:=by
 have h:(Except.ok m:Except Er Int)=.ok n:=h
 cases h
 rfl
theorem zer {kvs:List (Key × V)} {x:Str} {n:Int} (h:rk kvs [.str x]=.ok n):n=0∨yf kvs (.inr x)=some (.int n):=by
 unfold rk xP xH at h
 split at h
 ·rename_i i e
  cases h
  by_cases c:isJ (.str x)=true
  ·rw [if_pos c] at e
   cases e
  ·rw [if_neg c] at e
   have e:Vf kvs (.str x)=n:=by
    have e:(Except.ok [Vf kvs (.str x)]:Except Er (List Int))=.ok [n]:=e
    injection e with e
    injection e
   have e:(match yf kvs (.inr x) with | some (.int i)=>i | _=>0)=n:=e
   split at e
   ·rename_i i h
    right
    rw [h,e]
   ·exact .inl e.symm
 ·cases h
 ·cases h
def InvG (us:List Str) (wd:Int) (f:Nat→Nat) (u:Nat) (s:RSt):Prop:=∃ (A G:List Pl) (hs:List Int),(∀ r∈s.gi,r.1∈A∨r.1∈G)∧(∀ p∈A,PN us wd p)∧(∀ p∈G,p.1∈us∧p.2∈hs)∧(∀ k i,yf s.sl k=some (.int i)→i∈hs)∧A.length + G.length + hs.length + f s.n≤u
section
variable {us:List Str} {wd:Int} {f:Nat→Nat} {u:Nat} {C:List Cs} {s s':RSt}
theorem InvG.to (I:InvG us wd f u s) (hg:s'.gi=s.gi) (hl:s'.sl=s.sl) (hf:f s'.n≤f s.n):InvG us wd f u s':=by
 obtain ⟨A,G,hs,h1,h2,h3,h4,h5⟩:=I
 exact ⟨A,G,hs,by rw [hg];exact h1,h2,h3,by rw [hl];exact h4,by lia⟩
theorem InvG.set (I:InvG us wd f u s) {x:Str} {i:Int} (hg:s'.gi=s.gi) (hl:s'.sl=yD s.sl (.inr x) (.int i)) (hf:f s'.n + 1≤f s.n):InvG us wd f u s':=by
 obtain ⟨A,G,hs,h1,h2,h3,h4,h5⟩:=I
 refine ⟨A,G,i :: hs,by rw [hg];exact h1,h2,fun p hp=>⟨(h3 p hp).1,bx _ (h3 p hp).2⟩,fun k j h=>?_,by rw [cp];lia⟩
 rw [hl,wg] at h
 split at h
 ·cases h;exact br
 ·exact bx _ (h4 k j h)
theorem InvG.put (I:InvG us wd f u s) {sh:Str} {e:List V} {n i:Int} (hw:2≤wd) (hu:sh∈us) (he:(∃ n,e=[.int n]∧0≤n∧n < wd)∨∃ x,e=[.str x]) (hk:rk s.sl e=.ok n) (hg:s'.gi=s.gi ++ [((sh,n),i)]) (hl:s'.sl=s.sl) (hf:f s'.n + 1≤f s.n):InvG us wd f u s':=by
 obtain ⟨A,G,hs,h1,h2,h3,h4,h5⟩:=I
 have inA:0≤n→n < wd→InvG us wd f u s':=fun a b=>by
  refine ⟨(sh,n) :: A,G,hs,fun r hr=>?_,fun p hp=>?_,h3,by rw [hl];exact h4,by rw [cp];lia⟩
  ·rw [hg] at hr
   rcases bP.mp hr with hr | hr
   ·exact (h1 r hr).imp (bx _) id
   ·rw [b5.mp hr];exact .inl br
  ·rcases bK.mp hp with rfl | hp
   ·exact ⟨hu,a,b⟩
   ·exact h2 p hp
 rcases he with ⟨m,rfl,a,b⟩ | ⟨x,rfl⟩
 ·obtain rfl:=zfV hk
  exact inA a b
 ·rcases zer hk with rfl | hv
  ·exact inA (Int.le_refl _) (by lia)
  ·refine ⟨A,(sh,n) :: G,hs,fun r hr=>?_,h2,fun p hp=>?_,by rw [hl];exact h4,by rw [cp];lia⟩
   ·rw [hg] at hr
    rcases bP.mp hr with hr | hr
    ·exact (h1 r hr).imp id (bx _)
    ·rw [b5.mp hr];exact .inr br
   ·rcases bK.mp hp with rfl | hp
    ·exact ⟨hu,h4 _ _ hv⟩
    ·exact h3 p hp
theorem zaU {c:Cs} {w:Int} (hw:2≤wd) (W:q9 us wd C 0 u f) (hc:C[s.n]?=some c) (I:InvG us wd f u s):InvG us wd f u (zT c w s):=by
 have z:=fun {r} (h:C[s.n]?=some (.row r))=>by
  have:=W.rw_ _ _ h
  rw [iz] at this
  exact this
 cases c with
 | go k =>
  have:=(W.go _ _ hc).2
  rw [iz] at this
  exact I.to rfl rfl this
 | skip e to =>
  obtain ⟨_,h1,h2⟩:=W.sk _ _ _ hc
  rw [iz] at h1 h2
  cases hk:rk s.sl e with
  | error x=>simp only [zT,yk,hk];exact I.to rfl rfl (bj _)
  | ok i =>
   simp only [zT,yk,hk]
   refine I.to rfl rfl ?_
   show f (if i=0 then to else s.n + 1)≤f s.n
   split
   ·exact h1
   ·exact h2
 | row r =>
  obtain ⟨h1,h2⟩:=z hc
  have h3:f (s.n + 1)≤f s.n:=by lia
  cases r with
  | off e=>cases hk:rk s.sl e with
   | error x=>simp only [zT,yk,hk];exact I.to rfl rfl (bj _)
   | ok i =>
    simp only [zT,yk,hk]
    split
    ·exact I.to rfl rfl h3
    ·exact I.to rfl rfl h3
  | iff e a b=>exact I.to rfl rfl h3
  | take sh e x=>cases hk:rk s.sl e with
   | error x=>simp only [zT,yk,doR,hk];exact I.to rfl rfl (bj _)
   | ok i =>
    simp only [zT,yk,doR,hk]
    unfold yL
    split
    ·exact I.set rfl rfl h1
    ·exact I.set rfl rfl h1
  | give sh e g=>cases hk:rk s.sl e with
   | error x=>simp only [zT,yk,doR,hk];exact I.to rfl rfl (bj _)
   | ok i=>cases hk2:rk s.sl g with
    | error x=>simp only [zT,yk,doR,hk,hk2];exact I.to rfl rfl (bj _)
    | ok j =>
     simp only [zT,yk,doR,hk,hk2]
     have h2:sh∈us∧((∃ n,e=[.int n]∧0≤n∧n < wd)∨∃ x,e=[.str x]):=h2
     exact I.put hw h2.1 h2.2 hk rfl rfl h1
  | lt x e=>cases hk:rk s.sl e with
   | error x=>simp only [zT,yk,doR,hk];exact I.to rfl rfl (bj _)
   | ok i=>simp only [zT,yk,doR,hk];exact I.set rfl rfl h1
  | say e=>cases hk:rk s.sl e with
   | error x=>simp only [zT,yk,doR,hk];exact I.to rfl rfl (bj _)
   | ok i=>simp only [zT,yk,doR,hk];exact I.to rfl rfl h3
theorem JU (hw:2≤wd) (W:q9 us wd C 0 u f) (tb:Pl→Int):∀ (k:Nat) (s:RSt),InvG us wd f u s→InvG us wd f u (jv C tb k s)
 | 0,s,I=>I
 | k + 1,s,I=>by
  refine JU hw W tb k (xC C tb s) ?_
  unfold xC xh
  split
  ·exact I
  ·split
   ·exact I
   ·rename_i c hc
    exact zaU hw W hc I
theorem XA (hu:us.length=2):∀ hs:List Int,(hs.flatMap fun i=>us.map fun x=>((x,i):Pl)).length=2 * hs.length
 | []=>rfl
 | i :: hs=>by
  rw [List.flatMap_cons,bt,bn,XA hu hs,cp]
  lia
theorem JV {hs:List Int} {p:Pl} (h1:p.1∈us) (h2:p.2∈hs):p∈hs.flatMap fun i=>us.map fun x=>((x,i):Pl):=List.mem_flatMap.mpr ⟨p.2,h2,b8.mpr ⟨p.1,h1,rfl⟩⟩
theorem Q3 {hs:List Int} {p:Pl} (h:p∈hs.flatMap fun i=>us.map fun x=>((x,i):Pl)):p.1∈us:=by
 obtain ⟨i,_,h⟩:=List.mem_flatMap.mp h
 obtain ⟨x,hx,rfl⟩:=b8.mp h
 exact hx
theorem zfW {now:List Row} (hu:us.length=2) (hw:2≤wd) (W:q9 us wd C 0 u f) (F:FedR C now s):∃ A B:List Pl,(∀ r∈s.gi,r.1∈A∨r.1∈B)∧(∀ p∈A,PN us wd p)∧(∀ p∈B,p.1∈us)∧3 * B.length + 2 * A.length≤2 * u:=by
 obtain ⟨k,e⟩:=F.rc
 have I:=JU hw W (vn now) k st0 ⟨[],[],[],(fun r h=>nomatch h),(fun r h=>nomatch h),(fun r h=>nomatch h),(fun k i h=>by cases h),by have:=W.z;show 0 + f 0≤u;lia⟩
 rw [e] at I
 obtain ⟨A,G,hs,h1,h2,h3,h4,h5⟩:=I
 by_cases c:G.length≤2 * hs.length
 ·exact ⟨A,G,h1,h2,fun p hp=>(h3 p hp).1,by lia⟩
 ·exact ⟨A,hs.flatMap fun i=>us.map fun x=>((x,i):Pl),fun r hr=>(h1 r hr).imp id fun h=>JV (h3 _ h).1 (h3 _ h).2,h2,fun p hp=>Q3 hp,by rw [XA hu];lia⟩
theorem zcS (hu:us.length=2) (hw:2≤wd):∀ {CC:List (List Cs)} {zs:List Nat},Paired (fun C u=>∃ f,q9 us wd C 0 u f) CC zs→∀ S:Nat→RSt,∃ A B:List Pl,(∀ i now,i < CC.length→FedR (CC.getD i []) now (S i)→∀ r∈(S i).gi,r.1∈A∨r.1∈B)∧(∀ p∈A,PN us wd p)∧(∀ p∈B,p.1∈us)∧3 * B.length + 2 * A.length≤2 * zs.sum
 | _,_,.nil,S=>⟨[],[],(fun i _ h=>absurd h (eR _)),(fun r h=>nomatch h),(fun r h=>nomatch h),bj _⟩
 | C :: CC,u :: zs,.cons ⟨f,W⟩ t,S=>by
  obtain ⟨A,B,h1,h2,h3,h4⟩:=zcS hu hw t fun i=>S (i + 1)
  have step:∀ A' B':List Pl,(∀ now,FedR C now (S 0)→∀ r∈(S 0).gi,r.1∈A'∨r.1∈B')→(∀ p∈A',PN us wd p)→(∀ p∈B',p.1∈us)→3 * B'.length + 2 * A'.length≤2 * u→∃ A B:List Pl,(∀ i now,i < (C :: CC).length→FedR ((C :: CC).getD i []) now (S i)→∀ r∈(S i).gi,r.1∈A∨r.1∈B)∧(∀ p∈A,PN us wd p)∧(∀ p∈B,p.1∈us)∧3 * B.length + 2 * A.length≤2 * (u :: zs).sum:=fun A' B' k1 k2 k3 k4=>by
   refine ⟨A' ++ A,B' ++ B,fun i now hi F r hr=>?_,fun p hp=>(bP.mp hp).elim (k2 p) (h2 p),fun p hp=>(bP.mp hp).elim (k3 p) (h3 p),by rw [bt,bt,List.sum_cons];lia⟩
   cases i with
   | zero=>exact (k1 now F r hr).imp (cz _) (cz _)
   | succ i=>exact (h1 i now (by simpa using hi) F r hr).imp (bR _) (bR _)
  by_cases c:∃ now,FedR C now (S 0)
  ·obtain ⟨now,F⟩:=c
   obtain ⟨A',B',k1,k2,k3,k4⟩:=zfW hu hw W F
   exact step A' B' (fun _ _=>k1) k2 k3 k4
  ·exact step [] [] (fun now F=>absurd ⟨now,F⟩ c) (fun r h=>nomatch h) (fun r h=>nomatch h) (bY _)
theorem zgN {CC:List (List Cs)} {zs:List Nat} {tab:List Row} (hu:us.length=2) (hn:∀ w∈us,yP w=true) (hw:2≤wd) (hw2:wd≤12) (W:zgq us wd CC zs) (T:zcu us wd tab) (S:Nat→RSt):∃ U:List Pl,UOk U∧TabI U tab∧∀ i now,i < CC.length→FedR (CC.getD i []) now (S i)→∀ r∈(S i).gi,r.1∈U:=by
 obtain ⟨A,B,h1,h2,h3,h4⟩:=zcS hu hw W.1 S
 have sm:=W.2
 have lt:=T.le
 by_cases c:A.length≤16
 ·refine ⟨tab.map (·.1) ++ A ++ B,⟨by rw [bt,bt,bn];lia,fun p hp=>jI (hn _ ?_)⟩,⟨T.ri,fun r hr=>⟨cz _ (cz _ (b8.mpr ⟨r,hr,rfl⟩)),(T.ps r hr).2⟩⟩,fun i now hi F r hr=>?_⟩
  ·rcases bP.mp hp with hp | hp
   ·rcases bP.mp hp with hp | hp
    ·obtain ⟨r,hr,rfl⟩:=b8.mp hp
     exact (T.ps r hr).1.1
    ·exact (h2 p hp).1
   ·exact h3 p hp
  ·rcases h1 i now hi F r hr with h | h
   ·exact cz _ (bR _ h)
   ·exact bR _ h
 ·have lN:=XA hu ((bN wd.toNat).map Int.ofNat)
  rw [bn,cR] at lN
  have inN:∀ p,PN us wd p→p∈((bN wd.toNat).map Int.ofNat).flatMap fun i=>us.map fun x=>((x,i):Pl):=fun p hp=>JV hp.1 (b8.mpr ⟨p.2.toNat,cI.mpr (by have:=hp.2;lia),by have:=hp.2.1;show ((p.2.toNat:Nat):Int)=p.2;lia⟩)
  refine ⟨(((bN wd.toNat).map Int.ofNat).flatMap fun i=>us.map fun x=>((x,i):Pl)) ++ B,⟨by rw [bt];lia,fun p hp=>jI (hn _ ((bP.mp hp).elim Q3 (h3 p)))⟩,⟨T.ri,fun r hr=>⟨cz _ (inN _ (T.ps r hr).1),(T.ps r hr).2⟩⟩,fun i now hi F r hr=>?_⟩
  rcases h1 i now hi F r hr with h | h
  ·exact cz _ (inN _ (h2 _ h))
  ·exact bR _ h
end
def JW:Rws→Nat
 | .nil=>0
 | .cons _ rs=>JW rs + 1
def RwF (us:List Str) (wd:Int):Rw→Prop
 | .iff _ a b=>(∃ x,a=.cons x .nil∧ZB x∧Gv us wd x)∧(b=.nil∨∃ y,b=.cons y .nil∧ZB y∧Gv us wd y)
 | r=>Gv us wd r
def zcT (us:List Str) (wd:Int):Rws→Prop
 | .nil=>True
 | .cons r rs=>RwF us wd r∧zcT us wd rs
section
variable {us:List Str} {wd:Int}
theorem zcU {x:Rw} (hx:RwF us wd x):∀ (r:Rws),zcT us wd r→zcT us wd (r.snoc x)
 | .nil,_=>⟨hx,trivial⟩
 | .cons _ r,h=>⟨h.1,zcU hx r h.2⟩
theorem JX {x:Rw}:∀ (r:Rws),JW (r.snoc x)=JW r + 1
 | .nil=>rfl
 | .cons _ r=>by show JW (r.snoc x) + 1=_;rw [JX r];rfl
theorem zgz {x:Rw} (n:ZB x) (g:Gv us wd x):RwF us wd x:=by
 cases x with
 | iff e a b=>exact absurd n (fun z=>z)
 | take _ _ _=>exact g
 | give _ _ _=>exact g
 | lt _ _=>exact g
 | say _=>exact g
 | off _=>exact g
theorem Qe {A C:List Cs} {k u:Nat} {g f:Nat→Nat} (W:q9 us wd C (k + A.length) u f) (z:g k≤u + 1)
  (h1:∀ i r,A[i]?=some (.row r)→(if i + 1 < A.length then g (k + i + 1) else f (k + i + 1)) + 1≤g (k + i)∧Gv us wd r)
  (h2:∀ i e to,A[i]?=some (.skip e to)→k + i < to∧(if to < k + A.length then g to else f to)≤g (k + i)∧(if i + 1 < A.length then g (k + i + 1) else f (k + i + 1))≤g (k + i))
  (h3:∀ i to,A[i]?=some (.go to)→k + i < to∧(if to < k + A.length then g to else f to)≤g (k + i)) (ne:0 < A.length) :
  q9 us wd (A ++ C) k (u + 1) (fun i=>if i < k + A.length then g i else f i):=by
 have lo:∀ {i c},A[i]?=some c→i < A.length:=fun {i c} e=>(bw.mp e).1
 have sp:∀ {i c},(A ++ C)[i]?=some c→A[i]?=some c∨(A.length≤i∧C[i - A.length]?=some c):=fun {i c} e=>by
  by_cases h:i < A.length
  ·rw [dG h] at e;exact .inl e
  ·rw [dQ (by lia)] at e;exact .inr ⟨by lia,e⟩
 have nx:∀ i,(if k + i + 1 < k + A.length then g (k + i + 1) else f (k + i + 1))=(if i + 1 < A.length then g (k + i + 1) else f (k + i + 1)):=fun i=>by
  by_cases c:i + 1 < A.length
  ·rw [if_pos c,if_pos (by lia)]
  ·rw [if_neg c,if_neg (by lia)]
 refine ⟨by show (if k < k + A.length then g k else f k)≤u + 1;rw [if_pos (by lia)];exact z,fun i r e=>?_,fun i ex to e=>?_,fun i to e=>?_⟩
 ·show (if k + i + 1 < k + A.length then g (k + i + 1) else f (k + i + 1)) + 1≤(if k + i < k + A.length then g (k + i) else f (k + i))∧_
  rcases sp e with e | ⟨li,e⟩
  ·rw [nx,if_pos (c:=k + i < k + A.length) (by have:=lo e;lia)]
   exact h1 i r e
  ·have:=W.rw_ _ _ e
   rw [show k + A.length + (i - A.length)=k + i by lia] at this
   rw [if_neg (by lia),if_neg (by lia)]
   exact this
 ·show k + i < to∧(if to < k + A.length then g to else f to)≤(if k + i < k + A.length then g (k + i) else f (k + i))∧(if k + i + 1 < k + A.length then g (k + i + 1) else f (k + i + 1))≤(if k + i < k + A.length then g (k + i) else f (k + i))
  rcases sp e with e | ⟨li,e⟩
  ·rw [nx,if_pos (c:=k + i < k + A.length) (by have:=lo e;lia)]
   exact h2 i ex to e
  ·have:=W.sk _ _ _ e
   rw [show k + A.length + (i - A.length)=k + i by lia] at this
   rw [if_neg (by lia),if_neg (by lia),if_neg (by lia)]
   exact this
 ·show k + i < to∧(if to < k + A.length then g to else f to)≤(if k + i < k + A.length then g (k + i) else f (k + i))
  rcases sp e with e | ⟨li,e⟩
  ·rw [if_pos (c:=k + i < k + A.length) (by have:=lo e;lia)]
   exact h3 i to e
  ·have:=W.go _ _ e
   rw [show k + A.length + (i - A.length)=k + i by lia] at this
   rw [if_neg (by lia),if_neg (by lia)]
   exact this
theorem Qf {c d:Cs} {i:Nat} (h:[c][i]?=some d):i=0∧d=c:=by
 cases i with
 | zero=>exact ⟨rfl,(bS h).symm⟩
 | succ i=>simp at h
theorem zeW:∀ (R:Rws) (k:Nat),zcT us wd R→∃ f,q9 us wd (zH R k) k (JW R) f
 | .nil,k,_=>⟨fun _=>0,bj _,(fun i r e=>by rw [zH] at e;cases e),(fun i r to e=>by rw [zH] at e;cases e),(fun i to e=>by rw [zH] at e;cases e)⟩
 | .cons r rs,k,h=>by
  obtain ⟨f,W⟩:=zeW rs (k + (yn r k).length) h.2
  have hr:=h.1
  rw [zH]
  show ∃ f,q9 us wd (yn r k ++ zH rs (k + (yn r k).length)) k (JW rs + 1) f
  have fz:=W.z
  have row:ZB r→Gv us wd r→∃ f,q9 us wd (yn r k ++ zH rs (k + (yn r k).length)) k (JW rs + 1) f:=fun n g=>by
   rw [xa n] at W fz ⊢
   refine ⟨_,Qe (A:=[.row r]) (g:=fun _=>f (k + 1) + 1) W (eD fz) (fun i x e=>?_) (fun i ex to e=>?_) (fun i to e=>?_) (pj _)⟩
   ·obtain ⟨rfl,e⟩:=Qf e
    cases e
    exact ⟨bj _,g⟩
   ·cases (Qf e).2
   ·cases (Qf e).2
  cases r with
  | iff e a b =>
   obtain ⟨⟨x,rfl,n1,g1⟩,hb⟩:=hr
   have ca:∀ k,zH (.cons x .nil) k=[.row x]:=fun k=>by rw [zH,zH,xa n1];rfl
   rcases hb with rfl | ⟨y,rfl,n2,g2⟩
   ·have ec:yn (.iff e (.cons x .nil) .nil) k=[.skip e (k + 2),.row x]:=by
     rw [yn,ca];rfl
    rw [ec] at W fz ⊢
    refine ⟨_,Qe (A:=[.skip e (k + 2),.row x]) (g:=fun _=>f (k + 2) + 1) W (eD fz) (fun i r he=>?_) (fun i ex to he=>?_) (fun i to he=>?_) (pj _)⟩
    ·match i,he with
     | 0,he=>cases he
     | 1,he=>cases he;exact ⟨bj _,g1⟩
     | i + 2,he=>simp at he
    ·match i,he with
     | 0,he =>
      cases he
      exact ⟨by lia,by rw [if_neg (by show ¬ k + 2 < k + 2;lia)];exact iV _,bj _⟩
     | 1,he=>cases he
     | i + 2,he=>simp at he
    ·match i,he with
     | 0,he=>cases he
     | 1,he=>cases he
     | i + 2,he=>simp at he
   ·have cb:∀ k,zH (.cons y .nil) k=[.row y]:=fun k=>by rw [zH,zH,xa n2];rfl
    have ec:yn (.iff e (.cons x .nil) (.cons y .nil)) k=[.skip e (k + 3),.row x,.go (k + 4),.row y]:=by
     rw [yn,ca,cb];rfl
    rw [ec] at W fz ⊢
    refine ⟨_,Qe (A:=[.skip e (k + 3),.row x,.go (k + 4),.row y]) (g:=fun i=>if i=k + 2 then f (k + 4) else f (k + 4) + 1) W (by rw [if_neg (by lia)];exact eD fz) (fun i r he=>?_) (fun i ex to he=>?_) (fun i to he=>?_) (pj _)⟩
    ·match i,he with
     | 0,he=>cases he
     | 1,he =>
      cases he
      exact ⟨by show (if k + 1 + 1=k + 2 then f (k + 4) else f (k + 4) + 1) + 1≤(if k + 1=k + 2 then f (k + 4) else f (k + 4) + 1);rw [if_pos (by lia),if_neg (by lia)];exact bj _,g1⟩
     | 2,he=>cases he
     | 3,he =>
      cases he
      exact ⟨by show f (k + 3 + 1) + 1≤(if k + 3=k + 2 then f (k + 4) else f (k + 4) + 1);rw [if_neg (by lia)];exact bj _,g2⟩
     | i + 4,he=>simp at he
    ·match i,he with
     | 0,he =>
      cases he
      exact ⟨by lia,by
       show (if k + 3 < k + 4 then (if k + 3=k + 2 then f (k + 4) else f (k + 4) + 1) else f (k + 3))≤(if k + 0=k + 2 then f (k + 4) else f (k + 4) + 1)
       rw [if_pos (by lia),if_neg (by lia),if_neg (by lia)];exact bj _,by
       show (if k + 0 + 1=k + 2 then f (k + 4) else f (k + 4) + 1)≤(if k + 0=k + 2 then f (k + 4) else f (k + 4) + 1)
       rw [if_neg (by lia),if_neg (by lia)];exact bj _⟩
     | 1,he=>cases he
     | 2,he=>cases he
     | 3,he=>cases he
     | i + 4,he=>simp at he
    ·match i,he with
     | 0,he=>cases he
     | 1,he=>cases he
     | 2,he =>
      cases he
      exact ⟨by lia,by
       show (if k + 4 < k + 4 then _ else f (k + 4))≤(if k + 2=k + 2 then f (k + 4) else f (k + 4) + 1)
       rw [if_neg (by lia),if_pos rfl];exact bj _⟩
     | 3,he=>cases he
     | i + 4,he=>simp at he
  | take _ _ _=>exact row trivial hr
  | give _ _ _=>exact row trivial hr
  | lt _ _=>exact row trivial hr
  | say _=>exact row trivial hr
  | off _=>exact row trivial hr
end
theorem XB {s:RSt} {out:List Row} (G:vj s out):giS s=out:=zek (gY (p:=vj s) ⟨out,G⟩) G
theorem zcV {C:List Cs} {rows rows2:List Row} {s:RSt} (F:FedR C rows s) (h:∀ r∈s.no,vn rows2 r.1=r.2):FedR C rows2 s:=by
 obtain ⟨k,e⟩:=F.rc
 exact ⟨F.ov,⟨k,(JP C (vn rows) (vn rows2) k st0 (by rw [e];exact h)).trans e⟩,F.ri,F.fw⟩
theorem Q4 {C:List Cs} {rows:List Row} {s s2:RSt} (F:FedR C rows s) (F2:FedR C rows s2):s2=s:=JM F2.rc F.rc F2.ov F.ov
def gvs (P:List Pp) (p:Pl) (k:Nat):Bool:=(zy (pAt P k).gi p).isSome
section
variable {P:List Pp} {tab now out:List Row} {L L1 L2:List Nat} {p:Pl} {j k:Nat}
theorem VB:mtB P j k=mtB P k j:=Bool.or_comm ..
theorem zcW (h1:gvs P p j=true) (h2:pIn p (pAt P k).no=true∨gvs P p k=true):mtB P j k=true:=by
 unfold gvs at h1 h2
 rw [JR] at h1 h2
 obtain ⟨r,hr,rfl⟩:=pIn_iff.mp h1
 refine Bool.or_eq_true_iff.mpr (.inl (eB.mpr ⟨r,hr,pIn_iff.mpr ?_⟩))
 rcases h2 with h | h
 ·obtain ⟨q,hq,e⟩:=pIn_iff.mp h
  exact ⟨q,cz _ hq,e⟩
 ·obtain ⟨q,hq,e⟩:=pIn_iff.mp h
  exact ⟨q,bR _ hq,e⟩
theorem zeX (h:gvs P p j=true):j < P.length:=by
 by_cases c:j < P.length
 ·exact c
 ·unfold gvs pAt at h
  rw [bg,cK (by lia)] at h
  cases h
theorem XC:∀ (L:List Nat) (w:Int),L.foldl (fun w k=>(zy (pAt P k).gi p).getD w) w=(L.filter (gvs P p)).foldl (fun w k=>(zy (pAt P k).gi p).getD w) w
 | [],w=>rfl
 | k :: L,w=>by
  rw [fu,fO,XC L]
  split
  ·rfl
  ·rename_i c
   have e:zy (pAt P k).gi p=none:=by
    cases e:zy (pAt P k).gi p with
    | none=>rfl
    | some v=>exact absurd (by unfold gvs;rw [e];rfl) c
   rw [e];rfl
theorem zcX:∀ {a b:List Nat},a.Pairwise (· < ·)→b.Pairwise (· < ·)→(∀ x,x∈a↔x∈b)→a=b
 | [],[],_,_,_=>rfl
 | [],y :: b,_,_,h=>absurd ((h y).mpr br) (fun z=>nomatch z)
 | x :: a,[],_,_,h=>absurd ((h x).mp br) (fun z=>nomatch z)
 | x :: a,y :: b,ha,hb,h=>by
  rw [gT] at ha hb
  have e:x=y:=by
   rcases bK.mp ((h x).mp br) with e | e
   ·exact e
   ·rcases bK.mp ((h y).mpr br) with e' | e'
    ·exact e'.symm
    ·have:=ha.1 y e'
     have:=hb.1 x e
     lia
  subst e
  rw [zcX ha.2 hb.2 fun z=>?_]
  constructor
  ·intro hz
   rcases bK.mp ((h z).mp (bx _ hz)) with e | e
   ·have:=ha.1 z hz;lia
   ·exact e
  ·intro hz
   rcases bK.mp ((h z).mpr (bx _ hz)) with e | e
   ·have:=hb.1 z hz;lia
   ·exact e
def Ze (P:List Pp) (L:List Nat):Prop:=L.Pairwise fun a b=>mtB P a b=true→a < b
theorem Q5 (h:Ze P L) (p:Pl):(L.filter (gvs P p)).Pairwise (· < ·):=by
 have h2:(L.filter (gvs P p)).Pairwise fun a b=>mtB P a b=true→a < b:=List.Pairwise.filter _ h
 refine mw (fun {a b} ha hb f=>f ?_) h2
 exact zcW (cT.mp ha).2 (.inr (cT.mp hb).2)
theorem XD (n:Nat):Ze P (bN n):=by unfold Ze;exact mo (S:=fun a b=>mtB P a b=true→a < b) (fun h _=>h) List.pairwise_lt_range
theorem zcY (h1:Ze P L1) (h2:Ze P L2) (h:∀ j,gvs P p j=true→(j∈L1↔j∈L2)):zcw P tab L1 p=zcw P tab L2 p:=by
 unfold zcw
 rw [XC L1,XC L2,zcX (Q5 h1 p) (Q5 h2 p) fun x=>?_]
 rw [cT,cT]
 exact ⟨fun ⟨a,b⟩=>⟨(h x b).mp a,b⟩,fun ⟨a,b⟩=>⟨(h x b).mpr a,b⟩⟩
theorem TbV.step (h:TbV P tab L now) (T:xA (now ++ (pAt P k).gi) out):TbV P tab (L ++ [k]) out:=fun p=>by
 have e:vn out p=(zy (pAt P k).gi p).getD (vn now p):=by
  unfold vn
  rw [zdQ T,WL]
  cases zy (pAt P k).gi p <;> rfl
 rw [e,h p]
 unfold zcw
 rw [oP]
 rfl
end
theorem zes {U:List Pl} {a b:List Row} (ha:TabI U a) (hb:TabI U b) (h:∀ p,vn a p=vn b p):a=b:=by
 have one:∀ {a b:List Row},TabI U a→TabI U b→(∀ p,vn a p=vn b p)→∀ x,x∈a→x∈b:=fun {a b} ha hb h x hx=>by
  have e1:=(qU (p:=x.1) (w:=x.2) ha.ri.nd).mpr hx
  have e2:=zfT (h x.1) ⟨e1,(ha.ps x hx).2.2⟩
  exact (qU hb.ri.nd).mp e2.1
 exact jn ha.ri hb.ri fun x=>⟨one ha hb h x,one hb ha (fun p=>(h p).symm) x⟩
noncomputable def zet (C:List Cs) (rows:List Row):RSt:=@ms RSt ⟨st0⟩ (FedR C rows)
noncomputable def zfX (rows:List Row):List Row:=@ms (List Row) ⟨[]⟩ (xA rows)
noncomputable def jJ (CC:List (List Cs)) (tab:List Row):Nat→List Row
 | 0=>tab
 | i + 1=>zfX (jJ CC tab i ++ giS (zet (CC.getD i []) (jJ CC tab i)))
noncomputable def sI (CC:List (List Cs)) (tab:List Row) (i:Nat):RSt:=zet (CC.getD i []) (jJ CC tab i)
structure Idy (CC:List (List Cs)) (tab:List Row) (j:Nat):Prop where
 fd:FedR (CC.getD j []) (jJ CC tab j) (sI CC tab j)
 gi:vj (sI CC tab j) (giS (sI CC tab j))
 tb:xA (jJ CC tab j ++ giS (sI CC tab j)) (jJ CC tab (j + 1))
def JI (CC:List (List Cs)) (tab:List Row) (i:Nat) (now:List Row):Prop:=now=jJ CC tab i∧∀ j,j < i→Idy CC tab j
theorem zeu {C:List Cs} {rows:List Row} {s:RSt} (F:FedR C rows s):zet C rows=s:=by
 have G:FedR C rows (zet C rows):=gY (p:=FedR C rows) ⟨s,F⟩
 exact JM G.rc F.rc G.ov F.ov
theorem zev {rows out:List Row} (T:xA rows out):zfX rows=out:=zbS (gY (p:=xA rows) ⟨out,T⟩) T
theorem Qg {s:RSt} {gi:List Row} (G:vj s gi) {r:Row} (hr:r∈gi):r∈s.gi:=by
 unfold vj at G
 cases ew:s.why with
 | some x=>rw [ew] at G;rw [G] at hr;cases hr
 | none =>
  rw [ew] at G
  exact vi ((G.2 r.1 r.2).mp hr)
theorem JY {n i:Nat} (h:i < n):(bN n).getD i 0=i:=by
 rw [bg,fJ h];rfl
section
variable {U:List Pl} {CC:List (List Cs)} {tab:List Row}
theorem zew (hU:∀ i now,i < CC.length→FedR (CC.getD i []) now (sI CC tab i)→∀ r∈(sI CC tab i).gi,r.1∈U):JB U CC (bN CC.length) (JI CC tab) (sI CC tab):=by
 rintro i now s gi hi ⟨rfl,J⟩ _ F G
 rw [cR] at hi
 rw [JY hi] at F
 have e:sI CC tab i=s:=zeu F
 have u:=hU i _ hi (by rw [e];exact F)
 rw [e] at u
 refine ⟨e,fun r hr=>u r (Qg G hr),fun out T=>?_⟩
 have en:jJ CC tab (i + 1)=out:=by
  show zfX (jJ CC tab i ++ giS (sI CC tab i))=out
  rw [e,XB G,zev T]
 refine ⟨en.symm,fun j hj=>?_⟩
 by_cases c:j=i
 ·subst c
  refine ⟨by rw [e];exact F,?_,?_⟩
  ·rw [e,XB G];exact G
  ·rw [en,e,XB G];exact T
 ·exact J j (by lia)
end
noncomputable def pI (CC:List (List Cs)) (tab:List Row):List Pp:=(bN CC.length).map fun k=>ppS (sI CC tab k)
section
variable {U:List Pl} {CC:List (List Cs)} {tab now:List Row} {L os:List Nat} {j k:Nat}
theorem XE:(pI CC tab).length=CC.length:=by unfold pI;rw [bn,cR]
theorem WN (h:k < CC.length):pAt (pI CC tab) k=ppS (sI CC tab k):=by
 unfold pAt pI
 rw [bg,bC,fJ h]
 rfl
theorem VC (I:∀ j,j < CC.length→Idy CC tab j):∀ k,k≤CC.length→TbV (pI CC tab) tab (bN k) (jJ CC tab k)
 | 0,_=>fun p=>rfl
 | k + 1,h=>by
  have:=(I k (by lia)).tb
  rw [nJ]
  refine (VC I k (by lia)).step ?_
  rw [WN (by lia)]
  exact this
theorem Q6 (I:∀ j,j < CC.length→Idy CC tab j) (hk:k < CC.length) (T:TbV (pI CC tab) tab L now) (K:Ze (pI CC tab) L) (h:∀ j,j < CC.length→mtB (pI CC tab) j k=true→(j∈L↔j < k)):FedR (CC.getD k []) now (sI CC tab k):=by
 refine zcV (I k hk).fd fun r hr=>?_
 rw [T r.1,zcY K (XD k) (fun j g=>?_),← VC I k (by lia) r.1]
 ·exact (I k hk).fd.tb r hr
 ·have lj:=zeX g
  rw [XE] at lj
  rw [cI]
  refine h j lj (zcW g (.inl (pIn_iff.mpr ⟨r,?_,rfl⟩)))
  rw [WN hk]
  exact hr
def Lvl (P:List Pp) (L:List Nat):Prop:=L.Pairwise fun a b=>nO P a≤nO P b∧a≠b
theorem Lvl.keep {P:List Pp} (h:Lvl P L):Ze P L:=mo (fun {a b} ⟨h1,h2⟩ m=>by
 by_cases c:a < b
 ·exact c
 ·have:=Xw (P:=P) (j:=b) (k:=a) (by lia) (by rw [VB];exact m)
  lia) h
theorem Qh {P:List Pp}:∀ (Ts:List (List Nat)) (m:Nat),(∀ i rs,Ts[i]?=some rs→rs.Nodup∧∀ j∈rs,nO P j=m + i)→Lvl P Ts.flatten
 | [],_,_=>mf
 | rs :: Ts,m,h=>by
  obtain ⟨n0,e0⟩:=h 0 rs rfl
  rw [my]
  refine List.pairwise_append.mpr ⟨mw (fun {a b} ha hb n=>⟨by rw [e0 a ha,e0 b hb];exact bj _,n⟩) n0,Qh Ts (m + 1) fun i rs hi=>?_,fun a ha b hb=>?_⟩
  ·obtain ⟨n1,e1⟩:=h (i + 1) rs hi
   exact ⟨n1,fun j hj=>by rw [e1 j hj];lia⟩
  ·obtain ⟨l,hl,hb⟩:=eW.mp hb
   obtain ⟨i,hi⟩:=cV hl
   have e1:=(h (i + 1) l hi).2 b hb
   have e2:=e0 a ha
   exact ⟨by lia,fun z=>by rw [z] at e2;lia⟩
theorem jK {P:List Pp} {n i:Nat} {rs:List Nat} (h:(zr P n)[i]?=some rs):rs.Nodup∧∀ j,j∈rs↔j < n∧nO P j=i:=by
 have I:=ZM P n
 have hl:=(bw.mp h).1
 have e:=(I.each i hl).symm.trans h
 cases e
 refine ⟨oJ oq gI,fun j=>?_⟩
 rw [cT,cI,decide_eq_true_eq]
theorem Q7 {P:List Pp} {n:Nat} (h:j < n):∃ rs,(zr P n)[nO P j]?=some rs∧j∈rs:=by
 have I:=ZM P n
 have hl:=I.lt j h
 refine ⟨_,I.each _ hl,?_⟩
 rw [cT,cI,decide_eq_true_eq]
 exact ⟨h,rfl⟩
theorem JZ {T:List (List Nat)} {i m:Nat} {rs:List Nat} (h:((T.take i).map pi)[m]?=some rs):∃ r0,T[m]?=some r0∧rs=r0.reverse∧m < i:=by
 rw [bC,lS] at h
 split at h
 ·rename_i c
  cases e:T[m]? with
  | none=>rw [e] at h;cases h
  | some r0=>rw [e] at h;cases h;exact ⟨r0,rfl,rfl,c⟩
 ·cases h
theorem J1 {P:List Pp} {n:Nat} (i:Nat):Lvl P (vb (zr P n) i):=Qh _ 0 fun m rs h=>by
 obtain ⟨r0,e,rfl,_⟩:=JZ h
 obtain ⟨a,b⟩:=jK e
 exact ⟨(oS r0).nodup_iff.mpr a,fun j hj=>by rw [iz];exact ((b j).mp (gJ.mp hj)).2⟩
theorem J2 {P:List Pp} {n i:Nat} (h:j < n):j∈vb (zr P n) i↔nO P j < i:=by
 unfold vb
 constructor
 ·intro hj
  obtain ⟨l,hl,hj⟩:=eW.mp hj
  obtain ⟨m,hm⟩:=cV hl
  obtain ⟨r0,e,rfl,lt⟩:=JZ hm
  have:=(((jK e).2 j).mp (gJ.mp hj)).2
  lia
 ·intro lt
  obtain ⟨rs,e,hj⟩:=Q7 (P:=P) h
  refine eW.mpr ⟨rs.reverse,cq (i:=nO P j) ?_,List.mem_reverse.mpr hj⟩
  rw [bC,lS,if_pos lt,e]
  rfl
theorem zex {P:List Pp} (m:mtB P j k=true) (ne:j≠k):nO P j < nO P k↔j < k:=by
 constructor
 ·intro h
  by_cases c:j < k
  ·exact c
  ·have:=Xw (P:=P) (j:=k) (k:=j) (by lia) (by rw [VB];exact m)
   lia
 ·exact fun h=>Xw h m
theorem zfY (I:∀ j,j < CC.length→Idy CC tab j) (uo:UOk U) (ti:TabI U tab) (hU:∀ i now,i < CC.length→FedR (CC.getD i []) now (sI CC tab i)→∀ r∈(sI CC tab i).gi,r.1∈U):zcx U CC (pI CC tab) tab (zr (pI CC tab) CC.length):=by
 refine ⟨uo,ti,XE,fun rs h k hk=>?_,fun k hk r hr=>?_,fun k hk r hr=>?_,fun i rs k now s hi hk T F=>?_⟩
 ·obtain ⟨i,hi⟩:=cV h
  exact (((jK hi).2 k).mp hk).1
 ·rw [WN hk] at hr
  exact hU k _ hk (I k hk).fd r (Qg (I k hk).gi hr)
 ·rw [WN hk] at hr
  obtain ⟨m,_,J⟩:=(I k hk).fd.ri
  exact zcN J (I k hk).gi r hr
 ·obtain ⟨lk,ek⟩:=((jK hi).2 k).mp hk
  have:=Q6 I lk T (J1 i).keep fun j lj m=>?_
  ·rw [Q4 this F,WN lk]
  ·rw [J2 lj]
   by_cases c:j=k
   ·rw [c];lia
   ·rw [← ek];exact zex m c
structure zcZ (P:List Pp) (n:Nat) (os:List Nat):Prop where
 pm:os.Perm (bN n)
 lv:Lvl P os
theorem WO {α β:Type} {R:α→β→Prop}:∀ {xs:List α} {ys:List β},Paired R xs ys→∀ {i:Nat} {y:β},ys[i]?=some y→∃ x,xs[i]?=some x∧R x y
 | _,_,.nil,i,y,h=>by simp at h
 | _,_,.cons a t,0,y,h=>by cases h;exact ⟨_,rfl,a⟩
 | _,_,.cons a t,i + 1,y,h=>WO t (by simpa using h)
theorem WP {T Ts:List (List Nat)} (h:Paired (fun (a b:List Nat)=>b.Perm a) T Ts):Ts.flatten.Perm T.flatten:=by
 induction h with
 | nil=>exact l5 _
 | cons a t ih=>rw [my,my];exact List.Perm.append a ih
theorem zey {a b:List Nat} (ha:a.Nodup) (hb:b.Nodup) (h:∀ x,x∈a↔x∈b):a.Perm b:=(List.perm_ext_iff_of_nodup ha hb).mpr h
theorem J3 {P:List Pp} {n:Nat} (h:K3 (zr P n) os):zcZ P n os:=by
 obtain ⟨Ts,pr,rfl⟩:=h
 have lv:Lvl P Ts.flatten:=Qh _ 0 fun i rs e=>by
  obtain ⟨r0,e0,pm⟩:=WO pr e
  obtain ⟨a,b⟩:=jK e0
  exact ⟨pm.nodup_iff.mpr a,fun j hj=>by rw [iz];exact ((b j).mp (pm.mem_iff.mp hj)).2⟩
 refine ⟨zey (lv.imp fun h=>h.2) gI fun x=>?_,lv⟩
 rw [(WP pr).mem_iff,cI]
 constructor
 ·intro hx
  obtain ⟨l,hl,hx⟩:=eW.mp hx
  obtain ⟨i,hi⟩:=cV hl
  exact (((jK hi).2 x).mp hx).1
 ·intro hx
  obtain ⟨rs,e,h⟩:=Q7 (P:=P) hx
  exact eW.mpr ⟨rs,cq e,h⟩
theorem zc0 {P:List Pp} {n i:Nat} (O:zcZ P n os) (hi:i < os.length) (lj:j < n) (m:mtB P j (os.getD i 0)=true):j∈os.take i↔j < os.getD i 0:=by
 have e:os=os.take i ++ (os.getD i 0 :: os.drop (i + 1)):=by
  have h:=lZ hi
  rw [bg,ba hi]
  show os=os.take i ++ (os[i] :: os.drop (i + 1))
  rw [← h,eZ]
 have lv:=O.lv
 unfold Lvl at lv
 rw [e,List.pairwise_append] at lv
 obtain ⟨_,l2,l3⟩:=lv
 rw [gT] at l2
 generalize os.getD i 0=k at *
 constructor
 ·intro h
  obtain ⟨a,b⟩:=l3 j h k br
  by_cases c:j < k
  ·exact c
  ·have:=Xw (P:=P) (j:=k) (k:=j) (by lia) (by rw [VB];exact m)
   lia
 ·intro h
  have hm:=O.pm.mem_iff.mpr (cI.mpr lj)
  rw [e] at hm
  rcases bP.mp hm with hm | hm
  ·exact hm
  ·rcases bK.mp hm with rfl | hm
   ·lia
   ·have:=(l2.1 j hm).1
    have:=Xw h m
    lia
theorem zez {P:List Pp} {n i:Nat} (O:zcZ P n os) (hi:i < os.length):zcv P os i=false:=by
 unfold zcv
 rw [eG]
 intro j hj z
 rw [bV,decide_eq_true_eq] at z
 have lj:j < n:=cI.mp (O.pm.mem_iff.mp (fj hj))
 have:=(zc0 O hi lj z.2).mp hj
 lia
theorem zeA {i:Nat} (hi:i < os.length):os.take (i + 1)=os.take i ++ [os.getD i 0]:=by
 rw [cM,bg,ba hi];rfl
def JT (CC:List (List Cs)) (tab:List Row) (os:List Nat) (i:Nat) (now:List Row):Prop:=TbV (pI CC tab) tab (os.take i) now
theorem zeB (I:∀ j,j < CC.length→Idy CC tab j) (hU:∀ i now,i < CC.length→FedR (CC.getD i []) now (sI CC tab i)→∀ r∈(sI CC tab i).gi,r.1∈U) (O:zcZ (pI CC tab) CC.length os):JB U CC os (JT CC tab os) fun i=>sI CC tab (os.getD i 0):=by
 intro i now s gi hi J _ F G
 have hk:os.getD i 0 < CC.length:=by
  refine cI.mp (O.pm.mem_iff.mp ?_)
  rw [bg,ba hi];exact da hi
 have kp:Ze (pI CC tab) (os.take i):=List.Pairwise.sublist (ic ..) O.lv.keep
 have F2:=Q6 I hk J kp fun j lj m=>zc0 O hi lj m
 have e:=Q4 F F2
 refine ⟨e,fun r hr=>?_,fun out T=>?_⟩
 ·have:=hU _ _ hk F2
  rw [e] at this
  exact this r (Qg G hr)
 ·unfold JT
  rw [zeA hi]
  refine TbV.step J ?_
  rw [WN hk,e]
  show xA (now ++ giS s) out
  rw [XB G]
  exact T
theorem zc1 (pm:os.Perm (bN CC.length)):XY (fun i=>sI CC tab (os.getD i 0)) os CC.length=pI CC tab:=by
 unfold XY pI
 refine dJ fun k hk=>?_
 have hj:=gk (pm.mem_iff.mpr hk)
 have e:os.getD (os.idxOf k) 0=k:=by
  rw [bg,ba hj]
  exact oK hj
 show ppS (sI CC tab (os.getD (os.idxOf k) 0))=_
 rw [e]
theorem zfZ:XY (sI CC tab) (bN CC.length) CC.length=pI CC tab:=by
 have:=zc1 (CC:=CC) (tab:=tab) (l5 (bN CC.length))
 rw [← this]
 unfold XY
 refine dJ fun k hk=>?_
 have hj:=gk hk
 rw [cR] at hj
 show _=ppS (sI CC tab ((bN CC.length).getD ((bN CC.length).idxOf k) 0))
 rw [JY hj]
theorem zc2 {out:List Row} (I:∀ j,j < CC.length→Idy CC tab j) (k1:Ze (pI CC tab) L) (m:∀ j,j < CC.length→j∈L) (T:TbV (pI CC tab) tab L out) (ti:TabI U out) (ti2:TabI U (jJ CC tab CC.length)):out=jJ CC tab CC.length:=by
 refine zes ti ti2 fun p=>?_
 rw [T p,VC I _ (bj _) p]
 refine zcY k1 (XD _) fun j g=>?_
 have lj:=zeX g
 rw [XE] at lj
 exact ⟨fun _=>cI.mpr lj,fun _=>m j lj⟩
end
def rsR (H:Hp) (l:Addr) (rs:List Nat):Prop:=H l=some (.lst (rs.map zN))
theorem Zf {x:Addr} {o:HO}:∀ {ls:List Addr} {T:List (List Nat)},Paired (rsR H) ls T→x ∉ ls→Paired (rsR (upd H x o)) ls T
 | _,_,.nil,_=>.nil
 | _,_,.cons h t,n=>.cons (by unfold rsR;rw [zk (fun z=>n (by rw [z];exact br))];exact h) (Zf t fun z=>n (bx _ z))
theorem zc3 {x:Addr} {o:List Nat}:∀ {ls:List Addr} {T:List (List Nat)} {m:Nat},Paired (rsR H) ls T→ls.Nodup→ls[m]?=some x→Paired (rsR (upd H x (.lst (o.map zN)))) ls (T.set m o)
 | _,_,_,.nil,_,e=>by simp at e
 | _,_,0,.cons h t,nd,e=>by
  cases e
  exact .cons ze (Zf t (cW.mp nd).1)
 | l :: ls,_,m + 1,.cons h t,nd,e=>by
  have e:ls[m]?=some x:=by simpa using e
  have hx:=cq e
  refine .cons ?_ (zc3 t (cW.mp nd).2 e)
  unfold rsR
  rw [zk (fun z=>(cW.mp nd).1 (by rw [z];exact hx))]
  exact h
theorem Q8 {l:Addr} {rs:List Nat}:∀ {ls:List Addr} {T:List (List Nat)},Paired (rsR H) ls T→rsR H l rs→Paired (rsR H) (ls ++ [l]) (T ++ [rs])
 | _,_,.nil,h=>.cons h .nil
 | _,_,.cons a t,h=>.cons a (Q8 t h)
theorem RsAt.addE {a l:Addr} {ls:List Addr} {T:List (List Nat)} (R:RsAt H a ls T) (hl:H l=none):RsAt (upd (upd H l (.lst [])) a (.lst (ls.map V.ref ++ [V.ref l]))) a (ls ++ [l]) (T ++ [[]]):=by
 have nl:l ∉ ls:=fun z=>by
  obtain ⟨i,hi⟩:=cV z
  have lt:=(bw.mp hi).1
  have le:=bH R.each
  have:=zX R.each hi (ba (show i < T.length by lia))
  rw [hl] at this;cases this
 have na:a≠l:=fun z=>by have:=R.at_;rw [z,hl] at this;cases this
 refine ⟨by rw [ze,cY];rfl,?_,?_,?_⟩
 ·refine Q8 (Zf (Zf (show Paired (rsR H) ls T from R.each) nl) R.na) ?_
  unfold rsR
  rw [zk (cP na),ze]
  rfl
 ·rw [oU]
  exact ⟨R.nd,by simp,fun x hx y hy=>by rw [b5.mp hy];exact fun z=>nl (by rw [← z];exact hx)⟩
 ·intro z
  rcases bP.mp z with z | z
  ·exact R.na z
  ·exact na (b5.mp z)
theorem RsAt.push {a x:Addr} {ls:List Addr} {T:List (List Nat)} {m:Nat} {o:List Nat} (R:RsAt H a ls T) (e:ls[m]?=some x):RsAt (upd H x (.lst (o.map zN))) a ls (T.set m o):=by
 have hx:=cq e
 exact ⟨by rw [zk (fun z=>R.na (by rw [z];exact hx))];exact R.at_,zc3 (show Paired (rsR H) ls T from R.each) R.nd e,R.nd,R.na⟩
theorem RsAt.get {a:Addr} {ls:List Addr} {T:List (List Nat)} (R:RsAt H a ls T) {m:Nat} (h:m < T.length):∃ l,ls[m]?=some l∧H l=some (.lst ((T.getD m []).map zN))∧atI (ls.map V.ref) (m:Nat)=some (.ref l):=by
 have le:=bH R.each
 have hT:T[m]?=some T[m]:=ba h
 have hL:ls[m]?=some ls[m]:=ba (by lia)
 refine ⟨_,hL,?_,xF (by rw [bC,hL];rfl)⟩
 rw [bg,hT]
 exact zX R.each hL hT
def rnI (P:List Pp) (p ta:Addr) (H0:Hp) (i:Nat) (σ:St) (H:Hp):Prop:=∃ (ls:List Addr) (o2 o3:Option V),σ=[some (.ref p),some (.ref ta),o2,o3]∧Same H0 H∧RsAt H ta ls (zr P i)∧∀ l∈ls,H0 l=none
theorem J4 {D:XQ} {p ta:Addr} {P:List Pp} {H0:Hp} {k:Nat} {ls:List Addr} {o3:Option V} (h1:PpsAt H0 p P) (hk:k < P.length) (sm:Same H0 H) (R:RsAt H ta ls (zr P k)) (ft:H0 ta=none) (fl:∀ l∈ls,H0 l=none)
  (q:∀ σ H',rnI P p ta H0 (k + 1) σ H'→D.nx σ H'):kx K t D [some (.ref p),some (.ref ta),some (.int (k:Nat)),o3] H:=by
 have I:=ZM P k
 have le63:=h1.le
 have lk:=I.le
 simp only [kx,jz,yc,jh,zo,zK,zl,xb,zI,tOp,zc,xj,zb,zi,zS,zC,tCB,tBM,tyV,zn,je,yw,rEq,yG,jS,bO,bB,bc,bd,bi,exists_eq_left',V.int.injEq,V.ref.injEq,V.bl.injEq,bq,and_true,true_and,and_assoc,exists_and_left,bp,bu,decide_eq_true_eq]
 have ll:=bH R.each
 have lm:(ls.map V.ref).length=ls.length:=bn ..
 refine ⟨k,rfl,P,h1.same sm,ls,_,R,fun rs hr=>?_,by lia,hk,fun H1 s1=>⟨_,.inl ⟨_,SqL.of (s1 _ _ R.at_),rfl⟩,?_⟩⟩
 ·obtain ⟨a,b⟩:=I.mem' hr
  exact ⟨by lia,fun j hj=>by have:=b j hj;lia⟩
 have R1:=R.same s1
 have en:rfA P (zr P k) k (zr P k).length=nO P k:=rfl
 have ep:zr P (k + 1)=zaQ (zr P k) (nO P k) k:=rfl
 have le:nO P k≤(zr P k).length:=VA _
 rw [en]
 have S1:=sm.trans s1
 have tail:∀ (H3:Hp) (ls3:List Addr) (T3:List (List Nat)),Same H0 H3→RsAt H3 ta ls3 T3→(∀ l∈ls3,H0 l=none)→(hm:nO P k < T3.length)→(T3.getD (nO P k) []).length≤63→T3.set (nO P k) (T3.getD (nO P k) [] ++ [k])=zr P (k + 1) →
   ∃ l x3,atI (ls3.map V.ref) (nO P k:Nat)=some (.ref l)∧H3 l=some (.lst x3)∧x3.length < sizeLine∧D.nx [some (V.ref p),some (V.ref ta),some (V.int (k:Nat)),some (V.int (nO P k:Nat))] (upd H3 l (.lst (x3 ++ [V.int (k:Nat)]))):=fun H3 ls3 T3 sm3 R3 f3 hm hz e3=>by
  obtain ⟨l,hL,hH,hA⟩:=R3.get hm
  have lz:((T3.getD (nO P k) []).map zN).length=(T3.getD (nO P k) []).length:=bn ..
  have R4:=R3.push (o:=T3.getD (nO P k) [] ++ [k]) hL
  rw [cY,e3] at R4
  exact ⟨l,_,hA,hH,b0 (by lia:_≤900) (by decide),q _ _ ⟨ls3,_,_,rfl,yt sm3 (f3 l (cq hL)),R4,f3⟩⟩
 by_cases c:nO P k=(zr P k).length
 ·rw [if_pos (by rw [lm];lia)]
  refine ⟨.inl ⟨_,SqL.of R1.at_⟩,by decide,fun l hl=>?_⟩
  have R2:=R1.addE hl
  have na:ta≠l:=fun z=>by have:=R1.at_;rw [z,hl] at this;cases this
  have e2:upd H1 l (HO.lst []) ta=some (HO.lst (ls.map V.ref)):=by rw [zk na];exact R1.at_
  have S2:Same H0 (upd (upd H1 l (HO.lst [])) ta (HO.lst (ls.map V.ref ++ [V.ref l]))):=yt (yt S1 (zG S1 hl)) ft
  have eg:(zr P k ++ [[]]).getD (nO P k) []=[]:=by rw [c,bg,lD];rfl
  obtain ⟨l',x3,hA,hH,hz,hq⟩:=tail _ (ls ++ [l]) (zr P k ++ [[]]) S2 R2 (fun y hy=>by
   rcases bP.mp hy with hy | hy
   ·exact fl y hy
   ·rw [b5.mp hy];exact zG S1 hl) (by rw [bt,dg];lia) (by rw [eg];exact bY _) (by
    rw [ep,eg,c];unfold zaQ;rw [if_pos rfl,List.set_append_right _ _ (bj _),Nat.sub_self];rfl)
  exact ⟨_,e2,b0 (by lia:_≤900) (by decide),_,SqL.of R2.at_,_,hA,.inl ⟨_,SqL.of hH⟩,l',rfl,x3,hH,hz,hq⟩
 ·rw [if_neg (by rw [lm];lia)]
  have hlt:nO P k < (zr P k).length:=by lia
  have hmem:(zr P k).getD (nO P k) []∈zr P k:=by
   rw [bg,ba hlt];exact da hlt
  have hz':=(I.mem' hmem).1
  obtain ⟨l',x3,hA,hH,hz,hq⟩:=tail H1 ls (zr P k) S1 R1 fl hlt (by lia) (by rw [ep];unfold zaQ;rw [if_neg c])
  exact ⟨_,SqL.of R1.at_,_,hA,.inl ⟨_,SqL.of hH⟩,l',rfl,x3,hH,hz,hq⟩
theorem Qi {p:Addr} {P:List Pp} (h1:PpsAt H p P) (q:∀ a ls H',Same H H'→H a=none→(∀ l∈ls,H l=none)→RsAt H' a ls (zr P P.length)→Q (.ref a) H') :
  ZE K t { nx:=fun _ H'=>Q .non H',rt:=Q } (L2.start ["papers","told","rank","at"] [.ref p]) H:=by
 simp only [ZE,L2.start,zo,zK,zl,zD,zc,xj,zb,zi,xr,tCB,je,xD,yG,b9,bE,bO,bI,bQ,bc,bi,exists_eq_left',V.int.injEq,bq,and_true,exists_and_left,bp,bu,bT,bL,dY,dC]
 refine ⟨by decide,fun ta hta=>?_⟩
 have s0:=isV (o:=HO.lst []) ta hta
 obtain ⟨xs,hx,px⟩:=h1.at_
 have lx:=bH px
 have le63:=h1.le
 refine ⟨P.length,.inl ⟨_,SqL.of (s0 _ _ hx),lx.symm⟩,by lia,by lia,xO (rnI P p ta H) ⟨[],_,_,rfl,s0,⟨ze,.nil,ig,fun z=>nomatch z⟩,fun l z=>nomatch z⟩ ?_ ?_⟩
 ·rintro i σ H1 hi ⟨ls,o2,o3,rfl,sm,R,fl⟩
  simp only [bp,bu,gm]
  exact J4 h1 (by lia) sm R hta fl fun σ H' z=>z
 ·rintro σ H1 ⟨ls,o2,o3,rfl,sm,R,fl⟩
  exact ⟨_,rfl,q ta ls H1 sm hta fl R⟩
section
variable {P:List Pp} {R:List (List Nat)} {x:Nat}
theorem Yz:∀ (R:List (List Nat)) (x:Nat),(chB P R x).length=R.length + 1
 | [],_=>rfl
 | _ :: rs,_=>by rw [chB,cp,Yz rs,cp]
theorem XG:∀ (R:List (List Nat)) (x:Nat),(chB P R x).getD 0 0=x
 | [],_=>rfl
 | _ :: _,_=>rfl
theorem YA:∀ (R:List (List Nat)) (x i:Nat),i < R.length→(chB P R x).getD (i + 1) 0=((R.getD i []).filter fun j=>mtB P j ((chB P R x).getD i 0)).headD 0
 | [],_,_,h=>absurd h (eR _)
 | r :: rs,x,0,_=>by
  show (chB P rs _).getD 0 0=_
  rw [XG]
  rfl
 | r :: rs,x,i + 1,h=>YA rs _ i (by simpa using h)
theorem qF {r x:Nat} (hx:x < P.length) (e:nO P x=r + 1):∃ j l,((zr P P.length).getD r []).filter (fun j=>mtB P j x)=j :: l∧j < P.length∧nO P j=r:=by
 have I:=ZM P P.length
 have hl:=I.lt x hx
 obtain ⟨j,h1,h2,h3⟩:=zfU (P:=P) (k:=x) (by lia)
 have hj:=(I.mem (r:=r) (by lia)).mpr ⟨show j < P.length by lia,by lia⟩
 cases hf:((zr P P.length).getD r []).filter (fun j=>mtB P j x) with
 | nil =>
  have:j∈((zr P P.length).getD r []).filter (fun j=>mtB P j x):=cT.mpr ⟨hj,h2⟩
  rw [hf] at this;cases this
 | cons y l =>
  have:y∈((zr P P.length).getD r []).filter (fun j=>mtB P j x):=by rw [hf];exact br
  obtain ⟨a,b⟩:=(I.mem (by lia)).mp (cT.mp this).1
  exact ⟨y,l,rfl,a,b⟩
theorem VD {T:List (List Nat)} {i:Nat} (h:i < T.dropLast.length):T.dropLast.reverse.getD i []=T.getD (T.length - 2 - i) []:=by
 rw [cA] at h
 rw [bg,bg,gj (by rw [cA];exact h),cA,m7,if_pos (by lia)]
 congr 2
theorem VE (hx:x < P.length) (h2:nO P x + 1=(zr P P.length).length):∀ i,i < (zr P P.length).length→(chB P (zr P P.length).dropLast.reverse x).getD i 0 < P.length∧nO P ((chB P (zr P P.length).dropLast.reverse x).getD i 0) + i + 1=(zr P P.length).length
 | 0,_=>by rw [XG];exact ⟨hx,h2⟩
 | i + 1,h=>by
  obtain ⟨a,b⟩:=VE hx h2 i (by lia)
  have hl:i < (zr P P.length).dropLast.length:=by rw [cA];lia
  rw [YA _ _ _ (by rw [dj];exact hl),VD hl]
  generalize (chB P (zr P P.length).dropLast.reverse x).getD i 0=y at *
  obtain ⟨j,l,e,h3,h4⟩:=qF (r:=(zr P P.length).length - 2 - i) a (by lia)
  rw [e]
  exact ⟨h3,by show nO P j + (i + 1) + 1=_;lia⟩
theorem Q9 (h:zr P P.length≠[]):∃ y l,(zr P P.length).getLastD []=y :: l∧y < P.length∧nO P y + 1=(zr P P.length).length:=by
 have I:=ZM P P.length
 have hp:0 < (zr P P.length).length:=lF.mpr h
 obtain ⟨j,h1,h2⟩:=I.ne ((zr P P.length).length - 1) (by lia)
 have e:(zr P P.length).getLastD []=(zr P P.length).getD ((zr P P.length).length - 1) []:=by
  rw [gE,gF,bg]
 have hj:=(I.mem (r:=(zr P P.length).length - 1) (by lia)).mpr ⟨h1,h2⟩
 rw [← e] at hj
 cases hg:(zr P P.length).getLastD [] with
 | nil=>rw [hg] at hj;cases hj
 | cons y l =>
  have:y∈(zr P P.length).getD ((zr P P.length).length - 1) []:=by rw [← e,hg];exact br
  obtain ⟨a,b⟩:=(I.mem (by lia)).mp this
  exact ⟨y,l,rfl,a,by lia⟩
end
theorem zc4 (xs:List V):qI xs none (some (-1))=xs.dropLast:=by
 have e1:HT.sIx xs.length 0 none=0:=rfl
 have e2:HT.sIx xs.length xs.length (some (-1))=xs.length - 1:=by
  show (if (-1:Int) < 0 then ((-1:Int) + (xs.length:Int)).toNat else min (-1:Int).toNat xs.length)=_
  rw [if_pos (by decide)]
  lia
 unfold qI
 rw [e1,e2,ii,nB,List.dropLast_eq_take]
theorem zaa {xs:List V} (h:0 < xs.length):∃ y,atI xs (-1)=some y∧xs[xs.length - 1]?=some y:=by
 have e:xs=xs.dropLast ++ [xs[xs.length - 1]]:=by
  have:=List.dropLast_concat_getLast (l:=xs) (by intro z;rw [z] at h;cases h)
  rw [List.getLast_eq_getElem] at this
  exact this.symm
 refine ⟨xs[xs.length - 1],?_,ba (by lia)⟩
 have:=zcK (xs:=xs.dropLast) (y:=xs[xs.length - 1])
 rw [← e] at this
 exact this
theorem RsAt.off {a c:Addr} {ls:List Addr} {T:List (List Nat)} {o:HO} (R:RsAt H a ls T) (n1:c≠a) (n2:c ∉ ls):RsAt (upd H c o) a ls T:=⟨by rw [zk (cP n1)];exact R.at_,Zf (show Paired (rsR H) ls T from R.each) n2,R.nd,R.na⟩
def chI (P:List Pp) (x:Nat) (p ta c d:Addr) (ls:List Addr) (H0:Hp) (i:Nat) (σ:St) (H:Hp):Prop:=(∃ o3,σ=[some (.ref p),some (.ref ta),some (.ref c),o3])∧Same H0 H∧RsAt H ta ls (zr P P.length)∧H c=some (.lst (((chB P (zr P P.length).dropLast.reverse x).take (i + 1)).map zN))∧H d=some (.lst (ls.map V.ref).dropLast)
theorem Qj {p ta c:Addr} {P:List Pp} {ls:List Addr} {H0:Hp} {x:Nat} (h1:PpsAt H0 p P) (sm:Same H0 H) (R:RsAt H ta ls (zr P P.length)) (hc:H c=some (.lst [zN x])) (fc:H0 c=none) (hx:x < P.length) (hx2:nO P x + 1=(zr P P.length).length) (ncl:c ∉ ls) (nct:c≠ta) (q:∀ a H',Same H0 H'→H0 a=none→H' a=some (.lst ((chB P (zr P P.length).dropLast.reverse x).reverse.map zN))→Q (.ref a) H') :
  qD K t { nx:=fun _ H'=>Q .non H',rt:=Q } [some (.ref p),some (.ref ta),some (.ref c),none] H:=by
 simp only [qD,xv,zcl,zfq,yc,jh,zo,zl,zD,xb,tOp,tUn,zc,tC,zb,zi,xr,tBM,tyV,tSl,xw,yu,zn,yw,rU,Zn,bB,bc,bd,bi,exists_eq_left',V.int.injEq,V.ref.injEq,bq,and_true,true_and,and_assoc,exists_and_left,dC]
 have I:=ZM P P.length
 have le63:=h1.le
 have lT:=I.le
 have ll:=bH R.each
 have lm:(ls.map V.ref).length=ls.length:=bn ..
 have ck:=VE hx hx2
 have cl:=Yz (P:=P) (zr P P.length).dropLast.reverse x
 rw [dj,cA] at cl
 refine ⟨_,SqL.of R.at_,fun d hd=>?_⟩
 rw [zc4]
 have s1:=isV (o:=HO.lst (ls.map V.ref).dropLast) d hd
 have ncd:c≠d:=fun z=>by rw [z,hd] at hc;cases hc
 refine ⟨_,SqL.of ze,zbC (ls.map V.ref).dropLast (chI P x p ta c d ls H0) ⟨⟨_,rfl⟩,sm.trans s1,R.same s1,?_,ze⟩ (fun i σ H' z=>SqL.of z.2.2.2.2) ?_ ?_⟩
 ·have e:(chB P (zr P P.length).dropLast.reverse x).take 1=[x]:=by
   cases (zr P P.length).dropLast.reverse <;> rfl
  rw [e]
  exact s1 _ _ hc
 ·rintro i v σ H1 hi hv ⟨⟨o3,rfl⟩,S1,R1,hc1,hd1⟩
  rw [cA,lm] at hi
  rw [cA,lm,m7,lm,if_pos (by lia),bC] at hv
  have hL:ls[ls.length - 1 - 1 - i]?=some ls[ls.length - 1 - 1 - i]:=ba (by lia)
  rw [hL] at hv
  obtain rfl:=bS hv
  obtain ⟨l0,g1,g2,_⟩:=R1.get (m:=ls.length - 1 - 1 - i) (by lia)
  rw [hL] at g1
  obtain rfl:=bS g1
  generalize ls[ls.length - 1 - 1 - i]=l0 at *
  simp only [bc,bd,bi,exists_eq_left',V.ref.injEq,bp,bu,dC]
  have er:ls.length - 1 - 1 - i=(zr P P.length).length - 2 - i:=by lia
  rw [er] at g2
  obtain ⟨a1,a2⟩:=ck i (by lia)
  have gi:=YA (P:=P) (zr P P.length).dropLast.reverse x i (by rw [dj,cA];lia)
  rw [VD (by rw [cA];lia)] at gi
  have h0i:(chB P (zr P P.length).dropLast.reverse x)[i]?=some ((chB P (zr P P.length).dropLast.reverse x).getD i 0):=by
   rw [bg,ba (by lia)];rfl
  have h1i:(chB P (zr P P.length).dropLast.reverse x)[i + 1]?=some ((chB P (zr P P.length).dropLast.reverse x).getD (i + 1) 0):=by
   rw [bg,ba (by lia)];rfl
  generalize hB:chB P (zr P P.length).dropLast.reverse x=B at *
  generalize hy:B.getD i 0=y at *
  obtain ⟨j,l1,ef,b1,b2⟩:=qF (r:=(zr P P.length).length - 2 - i) a1 (by lia)
  rw [ef] at gi
  have gi:B.getD (i + 1) 0=j:=gi
  rw [gi] at h1i
  have lt1:((B.take (i + 1)).map zN).length=i + 1:=by rw [bn,c8];lia
  obtain ⟨w,w1,w2⟩:=zaa (xs:=(B.take (i + 1)).map zN) (by lia)
  have ew:w=zN y:=by
   rw [lt1,Nat.add_sub_cancel,bC,lS,if_pos (by lia),h0i] at w2
   exact (bS w2).symm
  have hmem:(zr P P.length).getD ((zr P P.length).length - 2 - i) []∈zr P P.length:=by
   rw [bg,ba (by lia)];exact da (by lia)
  obtain ⟨m1,m2⟩:=I.mem' hmem
  refine ⟨.inl ⟨_,SqL.of hc1⟩,_,SqL.of hc1,_,w1,y,ew,P,h1.same S1,_,g2,by lia,m2,a1,fun q0 H2 s2 fq hq=>?_⟩
  rw [ef] at hq
  refine ⟨_,SqL.of hq,zN j,xF (j:=0) rfl,_,s2 _ _ hc1,b0 (by lia:_≤900) (by decide),⟨_,rfl⟩,yt (S1.trans s2) fc,(R1.same s2).off nct ncl,?_,by rw [zk (cP ncd)];exact s2 _ _ hd1⟩
  rw [ze,hB,Xz h1i,cY]
  rfl
 ·rintro σ H1 ⟨⟨o3,rfl⟩,S1,R1,hc1,hd1⟩
  rw [cA,lm] at hc1
  rw [cC (by lia)] at hc1
  refine ⟨_,rfl,_,rfl,_,SqL.of hc1,fun a ha=>?_⟩
  have s2:=isV (o:=HO.lst ((chB P (zr P P.length).dropLast.reverse x).map zN).reverse) a ha
  exact q a _ (S1.trans s2) (zG S1 ha) (by rw [ze,mU])
theorem zaV {p:Addr} {P:List Pp} (h1:PpsAt H p P) (q:∀ a H',Same H H'→H a=none→H' a=some (.lst ((chn P).map zN))→Q (.ref a) H') :
  Xl K t { nx:=fun _ H'=>Q .non H',rt:=Q } (L2.start ["papers","told","linked","ranks"] [.ref p]) H:=by
 simp only [Xl,Xk,v6,L2.start,Zr,zo,zK,zl,zD,zI,tOp,tUn,zc,tC,xj,zb,zi,zS,zC,zn,yw,rU,b9,bE,bO,bI,bQ,bB,bc,bd,bi,exists_eq_left',V.int.injEq,V.ref.injEq,V.bl.injEq,bq,and_true,exists_and_left,bp,bu,bT,bL,decide_eq_true_eq,dC]
 refine ⟨P,h1,fun ta ls H1 s1 fa fl R=>⟨by decide,fun e0 he0=>?_⟩⟩
 have s2:=isV (o:=HO.lst []) e0 he0
 have R2:=R.same s2
 have ll:=bH R.each
 refine ⟨_,SqL.of R2.at_,SqL.of ze,?_⟩
 have S2:=s1.trans s2
 generalize upd H1 e0 (HO.lst [])=H2 at *
 unfold chn at q
 by_cases c:zr P P.length=[]
 ·rw [if_pos c] at q
  rw [c] at ll
  have e:ls=[]:=mS.mp ll
  rw [e,if_pos (show b9 V.ref []=[] from rfl)]
  refine ⟨by decide,fun a ha=>q a _ (S2.trans (isV a ha)) (zG S2 ha) ze⟩
 ·rw [if_neg c] at q
  have ne:ls.map V.ref≠[]:=fun z=>c (by
   have:=congrArg bO z
   rw [bn] at this
   exact mS.mp (by rw [← ll];exact this))
  rw [if_neg ne]
  obtain ⟨y,l,e1,e2,e3⟩:=Q9 c
  rw [e1] at q
  have hp:0 < (zr P P.length).length:=lF.mpr c
  obtain ⟨l0,g1,g2,g3⟩:=R2.get (m:=(zr P P.length).length - 1) (by lia)
  have eg:(zr P P.length).getD ((zr P P.length).length - 1) []=y :: l:=by
   rw [← e1,gE,gF,bg]
  rw [eg] at g2
  obtain ⟨w,w1,w2⟩:=zaa (xs:=ls.map V.ref) (by rw [bn];lia)
  have ew:w=.ref l0:=by
   rw [bn,bC,ll,g1] at w2
   exact (bS w2).symm
  refine ⟨_,SqL.of R2.at_,_,w1,l0,ew,_,SqL.of g2,zN y,xF (j:=0) rfl,by decide,fun c0 hc0=>?_⟩
  have s3:=isV (o:=HO.lst [zN y]) c0 hc0
  refine Qj (x:=y) h1 (S2.trans s3) (R2.same s3) ze (zG S2 hc0) e2 e3 (fun z=>?_) (fun z=>by have:=R2.at_;rw [← z,hc0] at this;cases this) q
  obtain ⟨i,hi⟩:=cV z
  have lt:=(bw.mp hi).1
  obtain ⟨l1,k1,k2,_⟩:=R2.get (m:=i) (by lia)
  rw [hi] at k1
  obtain rfl:=bS k1
  rw [hc0] at k2;cases k2
def inD (ns:List Int):PyData:=.list (ns.map mv)
theorem zc5 {a:Addr} {ns:List Int} (h:H a=some (.lst (ns.map V.int))):Dat K H (.ref a) (inD ns):=.lst (SqL.of h) (DatAll.of fun i _=>.int i)
theorem J5:∀ (ns:List Int),z6 (ns.map mv)=true∧cj (ns.map mv)≤1
 | []=>⟨rfl,by simp [cj]⟩
 | n :: r=>by
  have ih:=J5 r
  rw [bX,z6,cj,ih.1]
  refine ⟨by simp [zM],?_⟩
  simp only [dF];lia
theorem zab (ns:List Int):zM (inD ns)=true∧(inD ns).depth≤64:=by
 obtain ⟨h1,h2⟩:=J5 ns
 exact ⟨by unfold inD;rw [zM];exact h1,by unfold inD;rw [dF];lia⟩
def rgI (n:Nat):List Int:=(bN n).map fun (i:Nat)=>(i:Int)
theorem zf0 (n:Nat):((bN n).map fun i=>V.int (i:Nat))=(rgI n).map V.int:=by unfold rgI;rw [ee];rfl
theorem zeY (n:Nat):(rgI n).Pairwise (· < ·):=by
 unfold rgI
 rw [eM]
 exact List.pairwise_lt_range.imp fun h=>by lia
theorem zgA (n:Nat):(rgI n).Nodup:=(zeY n).imp fun h e=>by lia
theorem zeZ:∀ {a b:List Int},a.Pairwise (· < ·)→b.Pairwise (· < ·)→a.Perm b→a=b
 | [],b,_,_,h=>h.nil_eq
 | x :: a,[],_,_,h=>absurd h.length_eq (by simp)
 | x :: a,y :: b,ha,hb,h=>by
  rw [gT] at ha hb
  have e:x=y:=by
   rcases bK.mp (h.mem_iff.mp (br ..)) with e | e
   ·exact e
   ·rcases bK.mp (h.mem_iff.mpr (br ..)) with e' | e'
    ·exact e'.symm
    ·have:=ha.1 y e'
     have:=hb.1 x e
     lia
  subst e
  rw [zeZ ha.2 hb.2 (List.perm_cons x |>.mp h)]
theorem zeC (os:List Nat):os.map zN=(os.map fun (i:Nat)=>(i:Int)).map V.int:=by rw [ee];rfl
theorem XH {l:Addr} {n:Nat} {os:List Nat} {E:XK} (h1:H l=some (.lst (os.map zN))) (h2:n≤63) (h3:os.Perm (bN n)) (q:∀ H',Same H H'→Q .non H') :
  vP K t E { nx:=fun _ H'=>Q .non H',rt:=Q } (L2.start ["order","many"] [.ref l,.int n]) H:=by
 simp only [vP,zce,XT,zcp,Jt,L2.start,qe,zI,tOp,zc,zb,zi,zS,zC,tCB,b9,bE,bO,bB,bc,bd,bi,exists_eq_left',V.int.injEq,V.ref.injEq,V.bl.injEq,bq,and_true,and_assoc,exists_and_left,bT,bL,cB,if_true]
 rw [zeC] at h1
 have ln:=h3.length_eq
 rw [cR] at ln
 have o:(os.map fun (i:Nat)=>(i:Int)).Perm (rgI n):=List.Perm.map _ h3
 refine ⟨_,SqL.of h1,by rw [bn];lia,fun a srt ha pm up=>⟨n,rfl,by lia,fun b hb=>?_⟩⟩
 have s1:=isV (o:=HO.lst (srt.map V.int)) a ha
 have e1:upd H a (HO.lst (srt.map V.int)) a=some (.lst (srt.map V.int)):=ze
 generalize upd H a (HO.lst (srt.map V.int))=H1 at *
 rw [zf0]
 have s2:=isV (o:=HO.lst ((rgI n).map V.int)) b hb
 have e2:upd H1 b (HO.lst ((rgI n).map V.int)) b=some (.lst ((rgI n).map V.int)):=ze
 generalize upd H1 b (HO.lst ((rgI n).map V.int))=H2 at *
 have S:=s1.trans s2
 refine ⟨_,zc5 (s2 _ _ e1),_,zc5 e2,(zab _).1,(zab _).1,(zab _).2,(zab _).2,fun c hc=>?_⟩
 have e:srt=rgI n:=zeZ (up ((List.Perm.nodup_iff o).mpr (zgA n))) (zeY n) (pm.trans o)
 rw [hc.mpr (by rw [e]),if_neg (by decide)]
 exact q _ S
theorem zc6 {os:List Nat} {k:Nat} (h:k < os.length):(os.map zN)[k]?=some (.int ((os.getD k 0:Nat):Int)):=by
 rw [bC,ba h,bg,ba h];rfl
theorem J6 {os:List Nat} {k:Nat} (h:k < os.length):os.getD k 0∈os:=by
 rw [bg,ba h];exact da h
section
variable {p l:Addr} {P:List Pp} {os:List Nat} {E:XK}
def hiR (os:List Nat) (r:Nat) (m:Nat) (i:Nat) (ys:List V) (_:Hp):Prop:=ys=(((os.take m).take i).filter fun j=>decide (r < j)).map zN
theorem Qk {D:XQ} {k:Nat} {o4:Option V} (h1:PpsAt H p P) (h2:H l=some (.lst (os.map zN))) (h3:os.length≤63) (h4:∀ j∈os,j < P.length) (hk:k < os.length) (hb:zcv P os k=false) (qn:∀ H' o4,Same H H'→D.nx [some (.ref p),some (.ref l),some (.int (k:Nat)),some (.int ((os.getD k 0:Nat):Int)),o4] H') :
  qC K t E D [some (.ref p),some (.ref l),some (.int (k:Nat)),some (.int ((os.getD k 0:Nat):Int)),o4] H:=by
 simp only [qC,xv,KO,zo,zK,zl,zD,zI,tOp,zc,tC,xj,zb,zi,zS,zC,tSl,xw,yu,zn,xk,qO,xc,rI0,Zn,b9,bE,bO,bI,bQ,bB,bc,bd,bi,exists_eq_left',V.int.injEq,V.ref.injEq,V.bl.injEq,bq,and_true,and_assoc,exists_and_left,bp,bu,decide_eq_true_eq,cB,decide_eq_false_iff_not]
 refine ⟨_,SqL.of h2,fun l1 hl1=>?_⟩
 rw [Xv,← mR]
 have s1:=isV (o:=HO.lst ((os.take k).map zN)) l1 hl1
 have e1:upd H l1 (HO.lst ((os.take k).map zN)) l1=some (.lst ((os.take k).map zN)):=ze
 generalize upd H l1 (HO.lst ((os.take k).map zN))=H1 at *
 have lk:((os.take k).map zN).length=k:=by rw [bn,c8];lia
 refine ⟨⟨_,SqL.of e1⟩,fun D1 hD1=>?_⟩
 refine ja (J:=Itl K l1) k (by lia) (fun τ=>∃ o0,τ=[o0,some (.int ((os.getD k 0:Nat):Int))]) (hiR os (os.getD k 0) k) (fun i ys H H' s h=>h) ⟨_,rfl⟩ rfl (fun i H s h=>⟨_,_,SqL.of (s _ _ e1),ba (by rw [lk];exact h)⟩) (fun H s=>⟨_,SqL.of (s _ _ e1),by rw [lk];exact bj _⟩) hD1 ?_ ?_
 ·rintro i v τ us H4 H5 ⟨o0,rfl⟩ s4 hi hR ⟨rfl,hv⟩
  have hv:=hv _ (SqL.of (s4 _ _ e1))
  have hik:i < (os.take k).length:=by rw [c8];lia
  have hj:(os.take k)[i]?=some (os.take k)[i]:=ba hik
  rw [bC,hj] at hv
  obtain rfl:zN (os.take k)[i]=v:=bS hv
  have tk:=Xz (ws:=os.take k) hj
  generalize (os.take k)[i]=j at *
  simp only [zN,bc,bd,bi,exists_eq_left',V.int.injEq,bq,and_true,bp]
  unfold hiR at hR ⊢
  refine xu (fun c=>⟨⟨_,rfl⟩,?_,Same.refl _⟩) fun c=>⟨⟨_,rfl⟩,?_,Same.refl _⟩
  ·rw [tk,ff,cY,hR,fO,if_pos (decide_eq_true (by lia))];rfl
  ·rw [tk,ff,cY,hR,fO,if_neg (by rw [decide_eq_true_eq];lia)];simp
 ·rintro us H4 hle hR s4 hDl
  unfold hiR at hR
  rw [cC (l:=os.take k) (by rw [c8];lia)] at hR
  rw [hR] at hDl
  have S4:=s1.trans s4
  have lf:=iA (fun j=>decide (os.getD k 0 < j)) (os.take k)
  have lt:(os.take k).length≤os.length:=by rw [c8];lia
  refine ⟨os.getD k 0,rfl,P,h1.same S4,_,hDl,by lia,fun j hj=>h4 j (fj (cT.mp hj).1),h4 _ (J6 hk),fun q0 H5 s5 _ hq=>⟨by decide,fun p1 hp1=>?_⟩⟩
  have s6:=isV (o:=HO.lst []) p1 hp1
  refine ⟨_,SqL.of (s6 _ _ hq),SqL.of ze,?_⟩
  have S6:=S4.trans (s5.trans s6)
  have ef:((os.take k).filter (fun j=>decide (os.getD k 0 < j))).filter (fun j=>mtB P j (os.getD k 0))=[]:=by
   rw [List.filter_filter,List.filter_eq_nil_iff]
   intro j hj z
   rw [Bool.and_comm] at z
   exact eG.mp hb j hj z
  rw [ef,if_neg (by simp)]
  exact qn _ _ S6
def keI (p l:Addr) (H0:Hp) (i:Nat) (σ:St) (H:Hp):Prop:=(∃ o2 o3 o4,σ=[some (.ref p),some (.ref l),o2,o3,o4])∧Same H0 H
theorem zaW (h1:PpsAt H p P) (h2:H l=some (.lst (os.map zN))) (h3:os.Perm (bN P.length)) (h4:∀ k,k < os.length→zcv P os k=false) (q:∀ H',Same H H'→Q (.bl true) H') :
  Xj K t E { nx:=fun _ H'=>Q .non H',rt:=Q } (L2.start ["papers","order","at","rank","higher"] [.ref p,.ref l]) H:=by
 simp only [Xj,Xi,xn,zfz,L2.start,zo,zl,WV,vX,WU,zD,xb,zc,tC,zb,zi,xr,tCB,zn,je,yG,b9,bE,bO,bI,bQ,bB,bc,bd,bi,exists_eq_left',V.int.injEq,V.ref.injEq,bq,and_true,and_assoc,exists_and_left,bT,bL]
 obtain ⟨⟨xs,hx,px⟩,_,hle⟩:=id h1
 have lx:=bH px
 have lo:=h3.length_eq
 rw [cR] at lo
 have ln:(os.map zN).length=os.length:=bn ..
 have h5:∀ j∈os,j < P.length:=fun j hj=>cI.mp (h3.mem_iff.mp hj)
 refine ⟨P.length,.inl ⟨_,SqL.of hx,lx.symm⟩,P.length,rfl,os,h2,hle,h3,fun H1 s1=>⟨_,SqL.of (s1 _ _ h2),KN (os.map zN) (keI p l H1) ⟨⟨_,_,_,rfl⟩,Same.refl _⟩ (fun i σ H' z=>SqL.of (z.2 _ _ (s1 _ _ h2))) ?_ ?_⟩⟩
 ·rintro i u A σ H2 hu hA ⟨⟨o2,o3,o4,rfl⟩,s2⟩
  have hi:=(bw.mp hu).1
  rw [ln] at hi
  rw [zc6 hi] at hu
  obtain rfl:=bS hu
  have s3:=isV (o:=HO.tup [V.int (i:Int),V.int ((os.getD i 0:Nat):Int)]) A hA
  simp only [exists_eq_left',V.ref.injEq,bp,bu]
  refine ⟨_,SqT.of ze,rfl,_,_,rfl,_,_,rfl,rfl,?_⟩
  have S3:=s1.trans (s2.trans s3)
  exact Qk (h1.same S3) (S3 _ _ h2) (by lia) h5 hi (h4 i hi) fun H3 o4 s4=>⟨⟨_,_,_,rfl⟩,s2.trans (s3.trans s4)⟩
 ·rintro σ H2 ⟨_,s2⟩
  exact q H2 (s1.trans s2)
end
section
variable {U:List Pl} {now gi out rows:List Row}
theorem zgB (h:∀ r∈rows,r.1∈U):(dOf rows).length≤U.length:=by
 have:=wP (a:=(dOf rows).map (·.1)) (b:=U.map zL) (wV rows).1 fun x hx=>by
  obtain ⟨kv,hk,rfl⟩:=b8.mp hx
  obtain ⟨p,w,rfl,e⟩:=mem_dOf.mp hk
  exact b8.mpr ⟨p,h _ (vi e),rfl⟩
 rw [bn,bn] at this
 exact this
theorem TabI.len (uo:UOk U) (ti:TabI U now):now.length≤63:=by
 have:=wP (a:=now.map (·.1)) (b:=U) ti.ri.nd fun x hx=>by
  obtain ⟨r,hr,rfl⟩:=b8.mp hx
  exact (ti.ps r hr).1
 rw [bn] at this
 exact bU this uo.le
theorem zac (uo:UOk U) (ti:TabI U now) (gu:∀ r∈gi,r.1∈U):(dOf (now ++ gi)).length≤63:=bU (zgB fun r hr=>(bP.mp hr).elim (fun h=>(ti.ps r h).1) (gu r)) uo.le
theorem zad (ti:TabI U now) (gu:∀ r∈gi,r.1∈U) (gw:∀ r∈gi,inW r.2=true) (T:xA (now ++ gi) out):TabI U out:=⟨T.1,fun r hr=>by
 obtain ⟨a,b⟩:=(T.2 r.1 r.2).mp hr
 rcases bP.mp (vi a) with h | h
 ·exact ⟨(ti.ps _ h).1,(ti.ps _ h).2.1,b⟩
 ·exact ⟨gu _ h,gw _ h,b⟩⟩
end
section
variable {d:Addr}
theorem Zg {a:Addr} {k:List (Key × V)} {o:HO} {zs:List V} (hd:H d=some (.dK k)) (h:H a=some (.tup zs)):upd H d o a=some (.tup zs):=by rw [zk (fun z=>by rw [z,hd] at h;cases h)];exact h
theorem YB {a:Addr} {k:List (Key × V)} {o:HO} {rows:List Row} (hd:H d=some (.dK k)) (h:yh H a rows):yh (upd H d o) a rows:=by
 obtain ⟨xs,hx,px⟩:=h
 exact ⟨xs,by rw [zk (fun z=>by rw [z,hd] at hx;cases hx)];exact hx,vh (fun b us e=>Zg hd e) px⟩
theorem PpV.updK {v:V} {p:Pp} {k:List (Key × V)} {o:HO} (hd:H d=some (.dK k)) (h:PpV H v p):PpV (upd H d o) v p:=by
 obtain ⟨r,x,nl,gl,e,h1,h2,h3,h4⟩:=h
 exact ⟨r,x,nl,gl,e,Zg hd h1,zgw h2 (fun b us e=>Zg hd e),YB hd h3,YB hd h4⟩
end
theorem PpAt.v {Hb:Hp} {r:Addr} {s:RSt} {C:List Cs} {rows:List Row} (P:PpAt Hb H r s) (F:FedR C rows s) (lc:C.length≤40):PpV H (.ref r) (ppS s)∧kO (ppS s)∧vj s (giS s)∧(∀ r∈giS s,inW r.2=true)∧∃ o nl gl,H r=some (.tup [o,.ref nl,.ref gl])∧yh H gl (giS s):=by
 obtain ⟨o,nl,gl,out,h1,h2,h3,h4,h5,_⟩:=P
 obtain ⟨m,_,I⟩:=F.ri
 have e:=XB h5
 rw [← e] at h4 h5
 have lg:=zfL h5
 have fw:=F.fw
 exact ⟨⟨r,o,nl,gl,rfl,h1,h2,h3,h4⟩,⟨by show s.no.length≤40;lia,by show (giS s).length≤40;lia,I.nn,zgx I h5,zfR I⟩,h5,zcN I h5,o,nl,gl,h1,h4⟩
structure OrS (U:List Pl) (os:List Nat) (J:Nat→List Row→Prop) (S:Nat→RSt) (H0 H:Hp) (d nl:Addr) (i:Nat):Prop where
 sm:Same H0 H
 fd:H0 d=none
 nw:∃ now,yh H nl now∧TabI U now∧J i now
 pp:∃ kvs,H d=some (.dK kvs)∧kvs.length≤i∧∀ j,j < i→∃ v,yf kvs (.inl ((os.getD j 0:Nat):Int))=some v∧PpV H v (ppS (S j))∧kO (ppS (S j))
theorem zc7 {kvs:List (Key × V)} {k:Key} {v:V}:(yD kvs k v).length≤kvs.length + 1:=by
 unfold yD
 split
 ·rw [bn];lia
 ·rw [bt];simp
theorem CosAt.same {H':Hp} {cl:Addr} {CC:List (List Cs)} (h:CosAt H cl CC) (s:Same H H'):CosAt H' cl CC:=by
 obtain ⟨⟨xs,h1,h2⟩,h3,h4⟩:=h
 exact ⟨⟨xs,s _ _ h1,Paired.mapP h2 fun _ _ ⟨a,ys,e,h5,h6⟩=>⟨a,ys,e,s _ _ h5,y9 s h6⟩⟩,h3,h4⟩
theorem zc8 {cl:Addr} {CC:List (List Cs)} (hC:CosAt H cl CC) {k:Nat} (hk:k < CC.length):∃ xs a ys,H cl=some (.lst xs)∧xs[k]?=some (.ref a)∧H a=some (.lst ys)∧Paired (CsAt H) ys (CC.getD k [])∧Xe (CC.getD k []):=by
 obtain ⟨⟨xs,h1,h2⟩,h3,_⟩:=hC
 have lx:=bH h2
 have hx:xs[k]?=some xs[k]:=ba (by lia)
 obtain ⟨C,hc,a,ys,e,h5,h6⟩:=L2.Paired.getP h2 hx
 have ec:CC.getD k []=C:=by rw [bg,hc];rfl
 rw [ec]
 exact ⟨xs,a,ys,h1,by rw [hx,e],h5,h6,h3 C (cq hc)⟩
section
variable {U:List Pl} {CC:List (List Cs)} {tab:List Row} {os:List Nat} {J:Nat→List Row→Prop} {S:Nat→RSt} {H0:Hp} {d nl cl tl l:Addr} {i:Nat} {E:XK}
theorem OrS.step {Ha Hc:Hp} {r nl':Addr} {kvs:List (Key × V)} {out:List Row} (O:OrS U os J S H0 H d nl i) (nd:os.Nodup) (hi:i < os.length) (hk:H d=some (.dK kvs)) (sa:Same H Ha) (P:PpV Ha (.ref r) (ppS (S i))) (po:kO (ppS (S i))) (sc:Same (upd Ha d (.dK (yD kvs (.inl ((os.getD i 0:Nat):Int)) (.ref r)))) Hc) (hl:yh Hc nl' out) (ti:TabI U out) (hJ:J (i + 1) out):OrS U os J S H0 Hc d nl' (i + 1):=by
 obtain ⟨kvs',e1,e2,e3⟩:=O.pp
 have ek:kvs'=kvs:=by rw [hk] at e1;cases e1;rfl
 subst ek
 have ha:Ha d=some (.dK kvs'):=sa _ _ hk
 have key:∀ j,j < i→((os.getD j 0:Nat):Int)≠((os.getD i 0:Nat):Int):=fun j hj z=>by
  have z:os.getD j 0=os.getD i 0:=by lia
  rw [bg,bg,ba hi,ba (by lia)] at z
  have:=(fN nd).mp z
  lia
 refine ⟨fun b o e=>sc _ _ (by rw [zk (fun z=>by rw [z,O.fd] at e;cases e)];exact sa _ _ (O.sm _ _ e)),O.fd,⟨out,hl,ti,hJ⟩,_,sc _ _ ze,by have:=zc7 (kvs:=kvs') (k:=.inl ((os.getD i 0:Nat):Int)) (v:=V.ref r);lia,fun j hj=>?_⟩
 rw [wg]
 by_cases c:j=i
 ·rw [c,if_pos rfl]
  exact ⟨_,rfl,(P.updK ha).same sc,po⟩
 ·rw [if_neg (fun z=>key j (by lia) (pK z))]
  obtain ⟨v,h1,h2,h3⟩:=e3 j (by lia)
  exact ⟨v,h1,((h2.same sa).updK ha).same sc,h3⟩
def ykR (kvs:List (Key × V)) (i:Nat) (ys:List V) (_:Hp):Prop:=ys.length=i∧∀ k,k < i→ys[k]?=yf kvs (.inl ((k:Nat):Int))
theorem WQ {α:Type} {R:V→α→Prop}:∀ {xs:List V} {n:Nat} {g:Nat→α},xs.length=n→(∀ k v,xs[k]?=some v→R v (g k))→Paired R xs ((bN n).map g)
 | [],_,g,e,_=>by cases e;exact .nil
 | x :: xs,n,g,e,h=>by
  cases e
  rw [cp,List.range_succ_eq_map,bX,ee]
  exact .cons (h 0 x rfl) (WQ rfl fun k v e=>h (k + 1) v e)
theorem zc9 {o5:Option V} (O:OrS U os J S H0 H d nl os.length) (hC:CosAt H0 cl CC) (pm:os.Perm (bN CC.length)) (q:∀ v out H',Same H0 H'→J os.length out→QS U H' v (XY S os CC.length) out→Q v H') :
  vQ K t E { nx:=fun _ H'=>Q .non H',rt:=Q } [some (.ref cl),some (.ref tl),some (.ref l),some (.ref d),some (.ref nl),o5] H:=by
 simp only [vQ,jW,zl,zD,zc,yO,zb,zi,tCB,xk,YN,qO,je,xD,yG,b9,bE,bO,bI,bQ,bc,bd,bi,exists_eq_left',V.int.injEq,bq,and_true,exists_and_left,bL,dY,dC,if_true]
 obtain ⟨⟨zs,hz,pz⟩,_,le⟩:=id hC
 have lz:=bH pz
 obtain ⟨kvs,e1,e2,e3⟩:=O.pp
 obtain ⟨now,n1,n2,n3⟩:=O.nw
 have g:∀ k,k < CC.length→∃ v,yf kvs (.inl ((k:Nat):Int))=some v∧PpV H v (ppS (S (os.idxOf k)))∧kO (ppS (S (os.idxOf k))):=fun k hk=>by
  have hj:=gk (pm.mem_iff.mpr (cI.mpr hk))
  obtain ⟨v,h1,h2⟩:=e3 _ hj
  rw [bg,ba hj] at h1
  have e:os[os.idxOf k]=k:=oK hj
  rw [show (some os[os.idxOf k]).getD 0=k from e] at h1
  exact ⟨v,h1,h2⟩
 refine ⟨CC.length,.inl ⟨_,SqL.of (O.sm _ _ hz),lz.symm⟩,by lia,by lia,fun D hD=>?_⟩
 refine ja (J:=Itr 0 CC.length) CC.length (by lia) (fun τ=>∃ o,τ=[o,some (.ref d)]) (ykR kvs) (fun i ys H H' s h=>h) ⟨_,rfl⟩ ⟨rfl,fun k h=>by lia⟩ (fun i H _ h=>h) (fun H _=>bj _) hD ?_ ?_
 ·rintro i v τ ys H4 H5 ⟨o,rfl⟩ s4 hi ⟨l1,l2⟩ ⟨rfl,rfl⟩
  simp only [bc,bd,bi,exists_eq_left',V.ref.injEq,bq,and_true,bp]
  rw [gm]
  obtain ⟨v,h1,_⟩:=g i hi
  refine ⟨v,.inl ⟨kvs,.inl (i:Int),.inl (s4 _ _ e1),rfl,h1.symm⟩,⟨_,rfl⟩,⟨by rw [bt,l1];rfl,fun k hk=>?_⟩,Same.refl _⟩
  by_cases c:k=i
  ·rw [c,dQ (by lia),l1,Nat.sub_self,h1];rfl
  ·rw [dG (by lia)];exact l2 k (by lia)
 ·rintro ys H4 hly ⟨l1,l2⟩ s4 hq
  refine ⟨by decide,fun p hp=>?_⟩
  have s5:=isV (o:=HO.tup [V.ref D,V.ref nl]) p hp
  have S5:=s4.trans s5
  refine q (.ref p) now _ (O.sm.trans S5) n3 ⟨⟨p,D,nl,rfl,ze,⟨⟨ys,s5 _ _ hq,?_⟩,fun x hx=>?_,by unfold XY;rw [bn,cR];exact le⟩,yS n1 S5⟩,n2⟩
  ·refine WQ l1 fun k v hv=>?_
   have hk:=(bw.mp hv).1
   obtain ⟨v',h1,h2,_⟩:=g k (by lia)
   rw [l2 k (by lia),h1] at hv
   cases hv
   exact h2.same S5
  ·unfold XY at hx
   obtain ⟨k,hk,rfl⟩:=b8.mp hx
   obtain ⟨_,_,_,h⟩:=g k (cI.mp hk)
   exact h
def ioI (U:List Pl) (os:List Nat) (J:Nat→List Row→Prop) (S:Nat→RSt) (cl tl l d:Addr) (H0:Hp) (i:Nat) (σ:St) (H:Hp):Prop:=∃ nl,(∃ o5,σ=[some (.ref cl),some (.ref tl),some (.ref l),some (.ref d),some (.ref nl),o5])∧OrS U os J S H0 H d nl i
theorem zeD (hC:CosAt H0 cl CC) (uo:UOk U) (hl:H0 l=some (.lst (os.map zN))) (pm:os.Perm (bN CC.length)) (st:JB U CC os J S) (O:OrS U os J S H0 H d nl 0) (q:∀ v out H',Same H0 H'→J os.length out→QS U H' v (XY S os CC.length) out→Q v H') :
  vR K t E { nx:=fun _ H'=>Q .non H',rt:=Q } [some (.ref cl),some (.ref tl),some (.ref l),some (.ref d),some (.ref nl),none] H:=by
 simp only [vR,Xf,w6,vt,jW,yx,zo,zK,zl,tOp,zc,tC,zb,zi,xr,zn,xc,yw,yx,bB,bc,bd,bi,exists_eq_left',V.int.injEq,V.ref.injEq,bq,and_true,and_assoc,exists_and_left]
 have lm:(os.map zN).length=os.length:=bn ..
 have nd:os.Nodup:=pm.nodup_iff.mpr gI
 have lo:=pm.length_eq
 rw [cR] at lo
 have le:=hC.le
 refine ⟨⟨_,SqL.of (O.sm _ _ hl)⟩,xy (os.map zN) (ioI U os J S cl tl l d H0) ⟨nl,⟨_,rfl⟩,O⟩ (fun i σ H' ⟨_,_,z⟩=>SqL.of (z.sm _ _ hl)) ?_ ?_⟩
 ·rintro i v σ H1 hv ⟨nl,⟨o5,rfl⟩,O⟩
  have hi:=(bw.mp hv).1
  rw [lm] at hi
  rw [zc6 hi] at hv
  cases hv
  have hk:os.getD i 0 < CC.length:=cI.mp (pm.mem_iff.mp (J6 hi))
  simp only [bc,bd,bi,exists_eq_left',V.int.injEq,V.ref.injEq,bp,bu]
  obtain ⟨xs,a,ys,c1,c2,c3,c4,cc⟩:=zc8 (hC.same O.sm) hk
  obtain ⟨now,n1,ti,n3⟩:=O.nw
  have l6:=ti.len uo
  refine ⟨_,SqL.of c1,_,xF c2,a,rfl,_,c3,_,c4,cc,_,n1,by lia,fun r hr=>(ti.ps r hr).2.1,fun r s H2 s2 F P=>?_⟩
  obtain ⟨p1,p2,p3,p4,o,n2,gl,p5,p6⟩:=P.v F cc.le
  obtain ⟨kvs,e1,e2,_⟩:=O.pp
  have hd:=s2 _ _ e1
  obtain ⟨es,gu,nx⟩:=st i now s _ hi n3 ti F p3
  have lg:=p2.lg
  have lg:(giS s).length≤40:=lg
  rw [← es] at p1 p2
  exact ⟨_,.inl ⟨kvs,.inl ((os.getD i 0:Nat):Int),hd,rfl,b0 (by lia:_≤63) (by decide),rfl⟩,.ref r,.inl ⟨_,.inl ((os.getD i 0:Nat):Int),.inl ze,rfl,by rw [wg,if_pos rfl]⟩,r,rfl,_,SqT.of (Zg hd p5),_,rfl,gl,rfl,_,YB hd (yS n1 s2),_,YB hd p6,zac uo ti gu,by rw [bt];lia,fun nl' out H3 s3 fn hl T=>⟨nl',⟨_,rfl⟩,O.step nd hi e1 s2 p1 p2 s3 hl (zad ti gu p4 T) (nx out T)⟩⟩
 ·rintro σ H1 ⟨nl,⟨o5,rfl⟩,O⟩
  rw [lm] at O
  exact zc9 O hC pm q
theorem VF (hC:CosAt H cl CC) (uo:UOk U) (ht:yh H tl tab) (ti:TabI U tab) (hl:H l=some (.lst (os.map zN))) (pm:os.Perm (bN CC.length)) (j0:J 0 tab) (st:JB U CC os J S) (q:∀ v out H',Same H H'→J os.length out→QS U H' v (XY S os CC.length) out→Q v H') :
  ku K t E { nx:=fun _ H'=>Q .non H',rt:=Q } (L2.start ["codes","table","order","papers","behind","rank"] [.ref cl,.ref tl,.ref l]) H:=by
 simp only [ku,kU,xn,L2.start,zaC,zo,zK,zl,xb,zc,zb,zi,tCB,zn,je,Zp,yG,b9,bE,bO,bI,bQ,bB,bc,bd,bi,exists_eq_left',V.int.injEq,V.ref.injEq,bq,and_true,and_assoc,exists_and_left,bp,bu,bT,bL]
 obtain ⟨⟨zs,hz,pz⟩,_,le⟩:=id hC
 have lz:=bH pz
 refine ⟨CC.length,.inl ⟨_,SqL.of hz,lz.symm⟩,_,rfl,os,hl,le,pm,fun H1 s1=>?_⟩
 intro d hd
 obtain ⟨xs,hx,px⟩:=ht
 have s2:=isV (o:=HO.dK []) d hd
 have e2:upd H1 d (HO.dK []) d=some (.dK []):=ze
 generalize upd H1 d (HO.dK [])=H2 at *
 refine ⟨xs,.inl (SqL.of ((s1.trans s2) _ _ hx)),fun nl hnl=>?_⟩
 have s3:=isV (o:=HO.lst xs) nl hnl
 have O:OrS U os J S H1 (upd H2 nl (HO.lst xs)) d nl 0:=⟨s2.trans s3,hd,⟨tab,⟨xs,ze,jb (s1.trans (s2.trans s3)) px⟩,ti,j0⟩,[],s3 _ _ e2,bj _,fun j hj=>absurd hj (eR _)⟩
 exact zeD (hC.same s1) uo (s1 _ _ hl) pm st O fun v out H' a1 a2 a3=>q v out H' (s1.trans a1) a2 a3
end
theorem zaX {a b d:Addr} {rows:List Row} {o3:Option V} (h1:H d=some (.dT (dOf rows))) (h2:(dOf rows).length≤63) (q:∀ l out H',Same H H'→H l=none→yh H' l out→xA rows out→Q (.ref l) H') :
  ve K t { nx:=fun _ H'=>Q .non H',rt:=Q } [some (.ref a),some (.ref b),some (.ref d),o3] H:=by
 simp only [ve]
 obtain ⟨its,ei,nd,mi⟩:=zb2 rows
 have li:its.length=(dOf rows).length:=by rw [ei,bn]
 refine ⟨d,_,dOf rows,h1,.inl rfl,fun o=>?_⟩
 have f1:upd H d (.frz o (.dT (dOf rows))) d=some (.frz o (.dT (dOf rows))):=ze
 have back:∀ {H':Hp},Same (upd H d (.frz o (.dT (dOf rows)))) H'→Same H (upd H' d (.dT (dOf rows))):=fun {H'} s b u e=>by
  by_cases c:b=d
  ·subst c
   rw [h1] at e
   cases e
   exact ze
  ·rw [zk c]
   exact s b u (by rw [zk c];exact e)
 have fr0:∀ {b:Addr},upd H d (.frz o (.dT (dOf rows))) b=none→H b=none∧b≠d:=fun {b} e=>by
  by_cases c:b=d
  ·subst c;rw [f1] at e;cases e
  ·rw [zk c] at e;exact ⟨e,c⟩
 generalize upd H d (.frz o (.dT (dOf rows)))=H1 at *
 simp only [zcc,zfC,zl,WV,vX,WU,zD,tOp,zc,tC,yO,zb,zi,zC,tCB,xk,qO,rNe,jS,b9,bE,bO,bB,bc,bd,bi,exists_eq_left',V.ref.injEq,V.bl.injEq,bq,and_true,exists_and_left,bL,cB,decide_eq_false_iff_not]
 refine ⟨_,_,f1,fun D hD=>?_⟩
 refine ja (J:=Itm d o (dOf rows)) its.length (by lia) (fun τ=>∃ o1 o2,τ=[o1,o2]) (cIt its) (fun i ys H H' s h=>vh s h) ⟨_,_,rfl⟩ .nil (fun i H s h=>⟨s _ _ f1,by lia⟩) (fun H s=>⟨s _ _ f1,by lia⟩) hD ?_ ?_
 ·rintro i v τ ys H4 H5 ⟨x,y,rfl⟩ s4 hi hR ⟨T,k,v',p,hk,rfl,hT,hp,rfl⟩
  have hit:its[i]?=some its[i]:=ba hi
  rw [ei,bC,hit] at hk
  obtain ⟨ek,ev⟩:=mQ (bS hk)
  have s5:=isV (o:=HO.tup [V.ref p,v']) T hT
  simp only [bc,bd,bi,exists_eq_left',V.ref.injEq,bq,and_true,exists_and_left,bp,bu]
  subst ek ev
  have tk:its.take (i + 1)=its.take i ++ [its[i]]:=by rw [cM,hit];rfl
  refine ⟨_,SqT.of ze,rfl,_,_,rfl,_,_,rfl,rfl,rfl,xu (fun c=>⟨by decide,fun p2 hp2=>⟨⟨_,rfl⟩,?_,s5.trans (isV p2 hp2)⟩⟩) fun c=>⟨⟨_,rfl⟩,?_,s5⟩⟩
  ·have hw0:its[i].2≠0:=fun z=>c (by rw [z])
   unfold cIt at hR ⊢
   rw [tk,ff,show [its[i]].filter (fun r:Row=>decide (r.2≠0))=[its[i]] by rw [fO,if_pos (decide_eq_true hw0)];rfl]
   have s6:=s5.trans (isV (o:=HO.tup [V.ref p,V.int its[i].2]) p2 hp2)
   exact Paired.snocP (JN s6 hR) ⟨p2,p,rfl,ze,s6 _ _ hp⟩
  ·have hw0:its[i].2=0:=by simpa using c
   unfold cIt at hR ⊢
   rw [tk,ff,show [its[i]].filter (fun r:Row=>decide (r.2≠0))=[] by rw [fO,if_neg (by rw [decide_eq_true_eq];exact fun z=>z hw0)];rfl,bB]
   exact JN s5 hR
 ·rintro ys H4 hly hR s4 hq
  have hR:Paired (PrAt H4) ys (its.filter fun r=>decide (r.2≠0)):=by
   unfold cIt at hR
   rw [dk] at hR;exact hR
  have nd2:((its.filter fun r=>decide (r.2≠0)).map (·.1)).Nodup:=oJ ((oq (l:=its)).map _) nd
  have ln2:=iA (fun r:Row=>decide (r.2≠0)) its
  refine ⟨_,SqL.of hq,_,hR,nd2,by lia,fun l zs srt H5 s5 fl hl hs ris perm=>?_⟩
  have f5:=(s4.trans s5) _ _ f1
  have fl1:=fr0 (zG s4 fl)
  refine ⟨f5,q l srt _ (back (s4.trans s5)) fl1.1 ⟨zs,by rw [zk fl1.2];exact hl,vh (fun b us e=>by rw [zk (fun z=>by rw [z,f5] at e;cases e)];exact e) hs⟩ ⟨ris,fun p w=>?_⟩⟩
  rw [perm.mem_iff,cT,mi p w,decide_eq_true_eq]
theorem J7 {a b:Addr} {tab gifts:List Row} (h1:yh H a tab) (h2:yh H b gifts) (h3:(dOf (tab ++ gifts)).length≤63) (h4:(tab ++ gifts).length≤1000) (q:∀ l out H',Same H H'→H l=none→yh H' l out→xA (tab ++ gifts) out→Q (.ref l) H') :
  qz K t { nx:=fun _ H'=>Q .non H',rt:=Q } (L2.start ["table","gifts"] [.ref a,.ref b]) H:=by
 simp only [qz,kj,qb,L2.start,zD,tOp,zc,zb,zi,zn,qb,b9,bE,bO,bB,bc,bd,bi,exists_eq_left',V.ref.injEq,bq,and_true,exists_and_left,bT,bL]
 obtain ⟨xs,hx,rx⟩:=h1
 obtain ⟨ys,hy,ry⟩:=h2
 have l:=h4
 rw [bt,← kC rx,← kC ry] at l
 exact ⟨xs,hx,ys,hy,bU l (by decide),fun p hp=>⟨tab ++ gifts,⟨xs ++ ys,ze,jb (isV p hp) (JL ry rx)⟩,h3,h4,fun l out H' s fr hl ti=>q l out H' ((isV p hp).trans s) (zG (isV p hp) fr) hl ti⟩⟩
def llI (a b d:Addr) (tab gifts:List Row) (H0:Hp) (i:Nat) (σ:St) (H:Hp):Prop:=(∃ o3,σ=[some (.ref a),some (.ref b),some (.ref d),o3])∧Same H0 H∧H d=some (.dT (dOf (tab ++ gifts.take i)))
theorem Wa {a b:Addr} {tab gifts:List Row} (h1:yh H a tab) (h2:yh H b gifts) (h3:(dOf (tab ++ gifts)).length≤63) (h4:(tab ++ gifts).length≤1000) (q:∀ l out H',Same H H'→H l=none→yh H' l out→xA (tab ++ gifts) out→Q (.ref l) H') :
  jH K t { nx:=fun _ H'=>Q .non H',rt:=Q } (L2.start ["table","gifts","there","row"] [.ref a,.ref b]) H:=by
 simp only [jH,kA,vt,qV,L2.start,yx,zo,zK,zl,tOp,zc,tC,zb,zi,xr,tCB,xc,yx,b9,bE,bO,bI,bQ,bc,bd,bi,exists_eq_left',V.int.injEq,V.ref.injEq,bq,and_true,exists_and_left,bp,bu,bT,bL]
 obtain ⟨xs,hx,rx⟩:=h1
 obtain ⟨ys,hy,ry⟩:=h2
 have lx:=kC rx
 have ly:=kC ry
 rw [bt] at h4
 refine ⟨xs,hx,tab,rx,by lia,fun d hd=>?_⟩
 have s0:=isV (o:=HO.dT (dOf tab)) d hd
 have e0:upd H d (HO.dT (dOf tab)) d=some (.dT (dOf (tab ++ gifts.take 0))):=by rw [ze,nZ,bB]
 generalize upd H d (HO.dT (dOf tab))=H0 at *
 refine ⟨⟨_,SqL.of (s0 _ _ hy)⟩,xy ys (llI a b d tab gifts H) ⟨⟨_,rfl⟩,s0,e0⟩ (fun i σ H' z=>SqL.of (z.2.1 _ _ hy)) ?_ ?_⟩
 ·rintro i v σ H1 hv ⟨⟨o3,rfl⟩,s1,e1⟩
  simp only [bc,bd,bi,exists_eq_left',V.ref.injEq,bp,bu]
  obtain ⟨g,hg,r,p,rfl,h5,h6⟩:=zcL ry hv
  have tk:gifts.take (i + 1)=gifts.take i ++ [g]:=by rw [cM,hg];rfl
  have h5:=s1 _ _ h5
  have h6:=s1 _ _ h6
  have li:=(bw.mp hv).1
  refine ⟨r,rfl,_,SqT.of h5,_,rfl,r,rfl,_,SqT.of h5,_,rfl,_,zep (q:=g) e1 h6 (by rw [bt,c8];lia),⟨_,rfl⟩,yt s1 hd,?_⟩
  rw [ze,tk,eK]
 ·rintro σ H1 ⟨⟨o3,rfl⟩,s1,e1⟩
  rw [ly,dk] at e1
  exact zaX e1 h3 fun l out H' s fl la T=>q l out H' (s1.trans s) (zG s1 fl) la T
theorem zda {P:Nat→Bool} {x:Str} (h:wq P x) (u:Tok):wq P (fM x none none (-1,u)):=by
 unfold wq at *
 rw [gA]
 rw [dz] at *
 intro c hc
 obtain ⟨k,hk,rfl⟩:=b8.mp hc
 have hk:=cI.mp hk
 refine h _ ?_
 have hlt:x.length - 1 - k < x.cps.size:=by show _ < x.length;lia
 rw [i4,cE hlt]
 exact Array.getElem_mem_toList ..
theorem zeE (x:Str) (u:Tok):fM x none none (-1,u)=fM x none none (-1,0):=by
 have h:=(gA x u).trans (gA x 0).symm
 generalize fM x none none (-1,u)=y at *
 generalize fM x none none (-1,0)=z at *
 obtain ⟨y⟩:=y
 obtain ⟨z⟩:=z
 exact congrArg Str.mk (fR.mp h)
def c21:Str:="zyxwvtsrqpnmlkjhgfdcb"
theorem Ql (e:Int):∃ c,atI c21.cps.toList (e % 21)=some c∧inC c=true:=by
 have g1:=cQ e (b:=21) (by decide)
 have g2:=cF e (b:=21) (by decide)
 obtain ⟨v,h1,h2⟩:=QU (xs:=c21.cps.toList) (i:=e % 21) g1 (by rw [show c21.cps.toList.length=21 from by decide +kernel];exact g2)
 exact ⟨v,h1,zgt v h2⟩
theorem zaY {c:Int} {x y:Str} (lx:x.length=2) (ly:y.length=1) (px:wq inC x) (py:wq inC y) (q:∀ nm ws H',Same H H'→NamesAt H' nm ws→ws.length=2→Q (.ref nm) H') :
  xL K t { nx:=fun _ H'=>Q .non H',rt:=Q } [some (.int c),some (.int 2),some (.str "zyxwvtsrqpnmlkjhgfdcb"),some (.str x),some (.str y),none,none] H:=by
 simp only [xL,vC,zm,zch,zo,zK,zl,zD,tOp,tUn,zc,tC,xj,zb,zi,zn,xk,YN,qO,xD,yw,rI,rI0,rU,jN,b9,bE,bO,bI,bQ,bB,bc,bd,bi,exists_eq_left',V.int.injEq,V.str.injEq,bq,and_true,true_and,and_assoc,exists_and_left,bp,bu,bL,nK,dY,dC,if_true]
 have lr:(fM x none none (-1,0)).length=x.length:=PyProof.Rows.step_rev_len x 0
 have pr:=zda px 0
 refine ⟨zV (by lia),zV (by lia),_,zeE x,zV (by lia),by decide,fun p hp=>⟨by decide,by decide,fun r H1 r0 r1 s1=>⟨by decide,by decide,by decide,fun D hD=>?_⟩⟩⟩
 have hp1:=s1 _ _ (ze (H:=H) (a:=p) (o:=HO.lst [V.str x,V.str (y ++ x),V.str (fM x none none (-1,0)),V.str (x ++ y)]))
 have S1:Same H H1:=(isV p hp).trans s1
 have nmz:∀ v∈[V.str x,V.str (y ++ x),V.str (fM x none none (-1,0)),V.str (x ++ y)],nmV v:=fun v hv=>by
  simp only [bK,dN,or_false] at hv
  rcases hv with rfl | rfl | rfl | rfl
  ·exact ⟨_,rfl,kL (by lia) (by lia) (.inr px)⟩
  ·exact ⟨_,rfl,kL (by rw [xG];lia) (by rw [xG];lia) (.inr (vg py px))⟩
  ·exact ⟨_,rfl,kL (by lia) (by lia) (.inr pr)⟩
  ·exact ⟨_,rfl,kL (by rw [xG];lia) (by rw [xG];lia) (.inr (vg px py))⟩
 generalize hM:[V.str x,V.str (y ++ x),V.str (fM x none none (-1,0)),V.str (x ++ y)]=M at *
 have lM:M.length=4:=by rw [← hM];rfl
 refine V7 (J:=Itr 0 2) 2 (by decide) (fun τ=>∃ o,τ=[o,some (.ref p),some (.int (r % 4))]) (fun i v=>nmV v) ⟨_,rfl⟩ (fun i H _ h=>h) (fun H _=>bj _) hD ?_ ?_
 ·rintro i v τ H2 H' ⟨o,rfl⟩ s hi ⟨rfl,rfl⟩
  simp only [bc,bd,bi,exists_eq_left',V.int.injEq,V.ref.injEq,bq,and_true,bp]
  obtain ⟨v,hv,hm⟩:=K7 (r % 4 + (0 + (i:Int))) 4 (xs:=M) lM (by decide)
  exact ⟨by decide,_,SqL.of (s _ _ hp1),v,hv,⟨_,rfl⟩,nmz v hm,Same.refl _⟩
 ·intro ys H' hly hv s hq
  obtain ⟨ls,rfl,hp⟩:=Vy (P:=fun x=>yP x=true) (ys:=ys) fun v hv2=>by
   obtain ⟨i,hi⟩:=cV hv2
   exact hv i v hi
  rw [bn] at hly
  exact q D ls H' (S1.trans s) ⟨hq,hp⟩ hly
theorem ZN {c:Int} (q:∀ nm ws H',Same H H'→NamesAt H' nm ws→ws.length=2→Q (.ref nm) H') :
  wB K t { nx:=fun _ H'=>Q .non H',rt:=Q } (L2.start ["cell","many","signs","stem","more","some","turn"] [.int c,.int 2]) H:=by
 simp only [wB,vD,xm,zm,L2.start,zo,zK,zl,zD,zI,tOp,zc,tC,zb,zi,zS,zC,zn,W1,rI,rI0,jN,b9,bE,bO,bI,bQ,bB,bc,bd,bi,exists_eq_left',V.int.injEq,V.str.injEq,V.bl.injEq,bq,and_true,and_assoc,exists_and_left,bp,bu,bT,bL,decide_eq_true_eq]
 refine ⟨by decide,by decide,fun r H1 _ _ s1=>⟨by decide,xu (fun _=>⟨by decide,by decide,fun nm ws H2 s2 hn hl=>q nm ws H2 (s1.trans s2) hn (by lia)⟩) fun _=>⟨by decide,by decide,fun r2 H2 _ _ s2=>?_⟩⟩⟩
 have sz:(bf "zyxwvtsrqpnmlkjhgfdcb").length≤sizeLine:=by decide +kernel
 obtain ⟨c1,e1,i1⟩:=Ql r2
 refine ⟨by decide,sz,c1,e1,by decide,by decide,fun r3 H3 _ _ s3=>?_⟩
 obtain ⟨c2,e2,i2⟩:=Ql r3
 refine ⟨by decide,sz,c2,e2,zV (by rw [x9,x9];decide),by decide,by decide,fun r4 H4 _ _ s4=>?_⟩
 obtain ⟨c3,e3,i3⟩:=Ql r4
 refine ⟨by decide,sz,c3,e3,?_⟩
 exact zaY (by rw [xG,x9,x9]) (x9 _) (vg (kB i1) (kB i2)) (kB i3) fun nm ws H5 s5 hn hl=>q nm ws H5 (s1.trans (s2.trans (s3.trans (s4.trans s5)))) hn hl
def tw7:List V:=[V.str (bf "plus"),V.str (bf "minus"),V.str (bf "times"),V.str (bf "over"),V.str (bf "rest"),V.str (bf "under"),V.str (bf "plus")]
theorem zf1 (r:Int):∃ w:Str,atI tw7 (r % 7)=some (.str w)∧wdJ w:=by
 obtain ⟨x,hx,hm⟩:=K7 r 7 (xs:=tw7) rfl (by decide)
 unfold tw7 at hm
 simp only [bK,dN,or_false] at hm
 rcases hm with rfl | rfl | rfl | rfl | rfl | rfl | rfl <;> exact ⟨_,hx,by decide +kernel,by decide +kernel,by decide +kernel⟩
theorem Wb {c j:Int} {a:Addr} {ws:List Str} (h1:0≤j) (h2:j≤700) (h3:NamesAt H a ws) (h4:ws.length=3) (q:∀ p e H',Same H H'→H p=none→H' p=some (.tup e)→TermOk e→tmP e→Q (.ref p) H') :
  jF K t { nx:=fun _ H'=>Q .non H',rt:=Q } (L2.start ["cell","j","slots","slot","kind","words"] [.int c,.int j,.ref a]) H:=by
 simp only [jF,zm,yg,L2.start,zo,zK,zl,zD,zI,tOp,zc,tC,xj,yO,zb,zi,zS,zC,zn,yw,rEq,rI,rI0,jS,b9,bE,bO,bI,bQ,bB,bc,bd,bi,exists_eq_left',V.int.injEq,V.ref.injEq,V.bl.injEq,bq,and_true,true_and,and_assoc,exists_and_left,bp,bu,bT,bL,decide_eq_true_eq]
 refine ⟨h1,by lia,fun r1 H1 _ _ s1=>⟨by decide,?_⟩⟩
 obtain ⟨x,hx,_,nx⟩:=kD (h3.same s1) 3 h4 (by decide) r1
 obtain ⟨t1,p1⟩:=Xt (u:=.str x) (.inr ⟨x,rfl,nx⟩)
 refine ⟨_,SqL.of (s1 _ _ h3.1),_,hx,by lia,by lia,fun r2 H2 _ _ s2=>⟨by decide,xu (fun _=>⟨by decide,fun p hp=>?_⟩) fun _=>xu (fun _=>⟨by lia,by lia,fun w H3 hw s3=>⟨by decide,fun p hp=>?_⟩⟩) fun _=>⟨by decide,fun l hl=>⟨by lia,by lia,fun w H3 hw s3=>⟨by lia,by lia,fun r4 H4 _ _ s4=>⟨by decide,?_⟩⟩⟩⟩⟩⟩
 ·have S:=s1.trans s2
  exact q p [.str x] _ (S.trans (isV p hp)) (zG S hp) ze t1 p1
 ·have S:=s1.trans (s2.trans s3)
  obtain ⟨t2,p2⟩:=Xt (u:=.int w) (.inl ⟨w,rfl,hw⟩)
  exact q p [.int w] _ (S.trans (isV p hp)) (zG S hp) ze t2 p2
 ·have s0:=isV (o:=HO.lst tw7) l hl
  have e0:upd H2 l (HO.lst tw7) l=some (.lst tw7):=ze
  obtain ⟨y,hy,jy⟩:=zf1 r4
  refine ⟨tw7,SqL.of ((s3.trans s4) _ _ e0),_,hy,by decide,fun p hp=>?_⟩
  have S:=s1.trans (s2.trans (s0.trans (s3.trans s4)))
  obtain ⟨t2,p2⟩:=Xt (u:=.int w) (.inl ⟨w,rfl,hw⟩)
  exact q p ([.str x] ++ [.int w] ++ [.str y]) _ (S.trans (isV p hp)) (zG S hp) ze (WJ t1 t2 jy (by simp)) (Q1 p1 p2 jy)
section
variable {c j kd wd:Int} {a b sp:Addr} {ws us:List Str} {sh sl:Str} {e0:List V} {Hb:Hp}
theorem J8 (j0:0≤j) (j1:j≤200) (h3:NamesAt H a ws) (h4:ws.length=3) (nsh:yP sh=true) (nsl:yP sl=true) (hsh:sh∈us) (te:TermOk e0) (pe:tmP e0) (he:(∃ n,e0=[.int n]∧0≤n∧n < wd)∨∃ x,e0=[.str x]) (hp:H sp=some (.tup e0)) (fs:Hb sp=none) (S:Same Hb H)
  (q:∀ v r H',Same Hb H'→RwAt (fun b=>Hb b=none) H' v r→rwW us wd r→Q v H') :
  vT K t { nx:=fun _ H'=>Q .non H',rt:=Q } [some (.int c),some (.int j),some (.ref a),some (.ref b),some (.int wd),some (.int kd),some (.str sh),some (.str sl),some (.ref sp)] H:=by
 simp only [vT,yH,yg,zo,zD,zI,tOp,zc,tC,yO,zb,zi,zS,zC,zn,rEq,rI0,jS,bO,bB,bc,bd,bi,exists_eq_left',V.int.injEq,V.ref.injEq,V.bl.injEq,bq,and_true,true_and,and_assoc,exists_and_left,bL,decide_eq_true_eq]
 obtain ⟨ts,ps⟩:=Xt (u:=.str sl) (.inr ⟨sl,rfl,nsl⟩)
 refine xu (fun _=>⟨by decide,fun r hr=>?_⟩) fun _=>xu (fun _=>⟨by lia,by lia,ws,h3,h4,fun p2 f H2 s2 fp2 hp2 tf pf=>⟨by decide,fun r hr=>?_⟩⟩) fun _=>xu (fun _=>⟨by lia,by lia,ws,h3,h4,fun p f H1 s1 fp hp te pe=>⟨by decide,fun r hr=>?_⟩⟩) fun _=>xu (fun _=>⟨by lia,by lia,fun w H2 hw s2=>⟨by decide,fun p hp=>⟨by decide,fun r hr=>?_⟩⟩⟩) fun _=>⟨by lia,by lia,ws,h3,h4,fun p f H1 s1 fp hp te pe=>⟨by decide,fun r hr=>?_⟩⟩
 ·exact q _ (.take sh e0 sl) _ (S.trans (isV r hr)) ⟨r,sp,rfl,zG S hr,fs,ze,isV r hr _ _ hp⟩ ⟨trivial,⟨jI nsh,pe,jI nsl⟩,te,trivial⟩
 ·exact q _ (.give sh e0 f) _ (S.trans (s2.trans (isV r hr))) ⟨r,sp,p2,rfl,zG (S.trans s2) hr,fs,zG S fp2,ze,(s2.trans (isV r hr)) _ _ hp,isV r hr _ _ hp2⟩ ⟨trivial,⟨jI nsh,pe,pf⟩,⟨te,tf⟩,hsh,he⟩
 ·exact q _ (.lt sl f) _ (S.trans (s1.trans (isV r hr))) ⟨r,p,rfl,zG (S.trans s1) hr,zG S fp,ze,isV r hr _ _ hp⟩ ⟨trivial,⟨jI nsl,pe⟩,te,trivial⟩
 ·have T:=S.trans s2
  have s3:=isV (o:=HO.tup [V.str sl,V.int w,V.str (bf "same")]) p hp
  have jw:wdJ (bf "same"):=⟨by decide +kernel,by decide +kernel,by decide +kernel⟩
  obtain ⟨t2,p2⟩:=Xt (u:=.int w) (.inl ⟨w,rfl,hw⟩)
  exact q _ (.off ([.str sl] ++ [.int w] ++ [.str (bf "same")])) _ (T.trans (s3.trans (isV r hr))) ⟨r,p,rfl,zG (T.trans s3) hr,zG T hp,ze,isV r hr _ _ ze⟩ ⟨trivial,(by unfold Y4;exact Q1 ps p2 jw),(by unfold jR;exact WJ ts t2 jw (by simp)),trivial⟩
 ·exact q _ (.say f) _ (S.trans (s1.trans (isV r hr))) ⟨r,p,rfl,zG (S.trans s1) hr,zG S fp,ze,isV r hr _ _ hp⟩ ⟨trivial,pe,te,trivial⟩
theorem VG (j0:0≤j) (j1:j≤200) (h1:NamesAt H a ws) (h2:ws.length=3) (h3:NamesAt H b us) (h4:us.length=2) (w1:2≤wd) (w2:wd≤12) (q:∀ v r H',Same H H'→RwAt (fun b=>H b=none) H' v r→rwW us wd r→Q v H') :
  kz K t { nx:=fun _ H'=>Q .non H',rt:=Q } (L2.start ["cell","j","slots","shelves","wide","kind","shelf","slot","place"] [.int c,.int j,.ref a,.ref b,.int wd]) H:=by
 simp only [kz,kW,zm,L2.start,zo,zK,zl,zI,tOp,zc,tC,yO,zb,zi,zS,zC,zn,yw,rEq,rI,rI0,jS,b9,bE,bO,bI,bQ,bB,bc,bd,bi,exists_eq_left',V.int.injEq,V.ref.injEq,V.bl.injEq,bq,and_true,true_and,and_assoc,exists_and_left,bp,bu,bT,bL,decide_eq_true_eq]
 refine ⟨by lia,by lia,fun r1 H1 a1 b1 s1=>⟨by decide,by lia,by lia,fun r2 H2 a2 b2 s2=>⟨by decide,?_⟩⟩⟩
 obtain ⟨x,hx,mx,nx⟩:=kD (h3.same (s1.trans s2)) 2 h4 (by decide) r2
 refine ⟨_,SqL.of ((s1.trans s2) _ _ h3.1),_,hx,by lia,by lia,fun r3 H3 a3 b3 s3=>⟨by decide,?_⟩⟩
 have S:=s1.trans (s2.trans s3)
 obtain ⟨y,hy,_,ny⟩:=kD (h1.same S) 3 h2 (by decide) r3
 refine ⟨_,SqL.of (S _ _ h1.1),_,hy,by lia,by lia,fun r4 H4 a4 b4 s4=>⟨by lia,by decide,fun sp hsp=>⟨by lia,by lia,fun r5 H6 a6 b6 s6=>⟨by decide,?_⟩⟩⟩⟩
 have n0:=cQ r4 (b:=wd) (by lia)
 have n1:=cF r4 (b:=wd) (by lia)
 have s5:=isV (o:=HO.tup [V.int (r4 % wd)]) sp hsp
 have S5:=S.trans (s4.trans (s5.trans s6))
 obtain ⟨te,pe⟩:=Xt (u:=.int (r4 % wd)) (.inl ⟨_,rfl,inW_iff.mpr (by lia)⟩)
 refine xu (fun _=>⟨by lia,by lia,fun r6 H7 a7 b7 s7=>⟨by decide,?_⟩⟩) fun _=>J8 j0 j1 (h1.same S5) h2 nx ny mx te pe (.inl ⟨_,rfl,n0,n1⟩) (s6 _ _ ze) (zG (S.trans s4) hsp) S5 q
 have S7:=S5.trans s7
 obtain ⟨z,hz,_,nz⟩:=kD (h1.same S7) 3 h2 (by decide) r6
 refine ⟨_,SqL.of (S7 _ _ h1.1),_,hz,by decide,fun sq hsq=>?_⟩
 have S8:=S7.trans (isV (o:=HO.tup [V.str z]) sq hsq)
 obtain ⟨te2,pe2⟩:=Xt (u:=.str z) (.inr ⟨z,rfl,nz⟩)
 exact J8 j0 j1 (h1.same S8) h2 nx ny mx te2 pe2 (.inr ⟨_,rfl⟩) ze (zG S7 hsq) S8 q
end
def tbI (c wd:Int) (b d:Addr) (us:List Str) (H:Hp) (i:Nat) (σ:St) (H':Hp):Prop:=∃ rows:List Row,(∃ o1 o2,σ=[some (.int c),some (.ref b),some (.int wd),some (.ref d),o1,o2])∧Same H H'∧H' d=some (.dT (dOf rows))∧rows.length≤i∧∀ r∈rows,PN us wd r.1∧inW r.2=true∧r.2≠0
theorem XI {c wd:Int} {b:Addr} {us:List Str} (h1:NamesAt H b us) (h2:us.length=2) (w1:2≤wd) (w2:wd≤12) (q:∀ l tab H',Same H H'→H l=none→yh H' l tab→zcu us wd tab→Q (.ref l) H') :
  vO K t { nx:=fun _ H'=>Q .non H',rt:=Q } (L2.start ["cell","shelves","wide","worths","k","worth"] [.int c,.ref b,.int wd]) H:=by
 simp only [vO,zm,yg,vt,YK,Zu,Jl,L2.start,zo,zK,zl,zD,zI,tOp,zc,tC,yO,zb,zi,xr,zS,zC,tCB,zn,xD,yw,rNe,rI,rI0,jS,b9,bE,bO,bI,bQ,bB,bc,bi,exists_eq_left',V.int.injEq,V.ref.injEq,V.bl.injEq,bq,and_true,and_assoc,exists_and_left,bp,bu,bT,bL,cB,decide_eq_false_iff_not,dY,dC]
 intro d hd
 have s0:=isV (o:=HO.dT []) d hd
 refine ⟨by decide,by decide,fun r1 H1 a1 b1 s1=>⟨by decide,by lia,by lia,xO (tbI c wd b d us H) ⟨[],⟨_,_,rfl⟩,s0.trans s1,s1 _ _ ze,bj _,fun _ z=>nomatch z⟩ ?_ ?_⟩⟩
 ·rintro i σ H' hi ⟨rows,⟨o1,o2,rfl⟩,s,hD,hl,hr⟩
  simp only [bc,bd,bi,exists_eq_left',V.int.injEq,V.ref.injEq,true_and,bp,bu]
  have hb:(10000000000000000000000000000000000000000000000:Int) < big:=by decide +kernel
  have i6:i < 9:=by lia
  refine ⟨⟨by lia,by lia⟩,by lia,by lia,fun w H2 hw s2=>?_⟩
  refine xu (fun h0=>?_) fun h0=>⟨rows,⟨_,_,rfl⟩,s.trans s2,s2 _ _ hD,by lia,hr⟩
  refine ⟨by lia,by lia,fun r2 H3 a2 b2 s3=>⟨by decide,?_⟩⟩
  obtain ⟨sh,hsh,hus,nsh⟩:=kD h1 2 h2 (by decide) r2
  refine ⟨_,SqL.of ((s.trans (s2.trans s3)) _ _ h1.1),_,hsh,by lia,by lia,fun r3 H4 a3 b3 s4=>⟨by lia,by decide,fun p hp=>?_⟩⟩
  have s5:=isV (o:=HO.tup [V.str sh,V.int (r3 % wd)]) p hp
  have S5:=s2.trans (s3.trans (s4.trans s5))
  have ld:=x0 rows
  refine ⟨_,DPut.t (k:=zL (sh,r3 % wd)) (S5 _ _ hD) ze (b0 (by lia:_≤900) (by decide)),rows ++ [((sh,r3 % wd),w)],⟨_,_,rfl⟩,yt (s.trans S5) hd,?_,by simp;lia,?_⟩
  ·rw [ze,v5]
  ·intro z hz
   rcases bP.mp hz with hz | hz
   ·exact hr z hz
   ·rw [b5.mp hz]
    exact ⟨⟨hus,cQ _ (by lia),cF _ (by lia)⟩,hw,fun z=>h0 z⟩
 ·rintro σ H' ⟨rows,⟨o1,o2,rfl⟩,s,hD,hl,hr⟩
  simp only [bc,bd,bi,exists_eq_left',V.ref.injEq]
  refine ⟨_,hD,fun r hr'=>?_⟩
  have s3:=isV (o:=j4 r d) r hr'
  have ld:=x0 rows
  refine ⟨d,ze,rows,s3 _ _ hD,by lia,fun l ys srt H2 s4 fl hl pr ri mi=>q l srt H2 (s.trans (s3.trans s4)) (zG (s.trans s3) fl) ⟨ys,hl,pr⟩ ⟨ri,fun z hz=>hr z (vi ((mi z.1 z.2).mp hz)),?_⟩⟩
  have:=wP (a:=srt.map (·.1)) (b:=rows.map (·.1)) (Rising.nd ri) fun x hx=>by
   obtain ⟨z,hz,rfl⟩:=b8.mp hx
   exact b8.mpr ⟨_,vi ((mi z.1 z.2).mp hz),rfl⟩
  rw [bn,bn] at this
  lia
structure rwsW (us:List Str) (wd:Int) (n:Nat) (r:Rws):Prop where
 dp:r.deep≤1
 pl:yR r
 ok:yX r
 sz:vm r≤4 * n
 fr:zcT us wd r
 ln:JW r=n
theorem VH {r:Rw} (h:ZB r):r.deep=0∧szR r=1:=by
 cases r with
 | iff e a b=>exact absurd h (fun z=>z)
 | take _ _ _=>exact ⟨by simp [Rw.deep],by simp [szR]⟩
 | give _ _ _=>exact ⟨by simp [Rw.deep],by simp [szR]⟩
 | lt _ _=>exact ⟨by simp [Rw.deep],by simp [szR]⟩
 | say _=>exact ⟨by simp [Rw.deep],by simp [szR]⟩
 | off _=>exact ⟨by simp [Rw.deep],by simp [szR]⟩
structure rwX (us:List Str) (wd:Int) (r:Rw):Prop where
 dp:r.deep≤1
 pl:Y4 r
 ok:jR r
 sz:szR r≤4
 fr:RwF us wd r
section
variable {us ws:List Str} {wd:Int} {n:Nat}
theorem rwW.x {r:Rw} (h:rwW us wd r):rwX us wd r:=by
 obtain ⟨a,b⟩:=VH h.nf
 exact ⟨by lia,h.pl,h.ok,by lia,zgz h.nf h.gv⟩
theorem rwsW.snoc {r:Rws} {x:Rw} (h:rwsW us wd n r) (hx:rwX us wd x):rwsW us wd (n + 1) (r.snoc x) :=
 ⟨by have:=h.dp;have:=hx.dp;rw [WA];lia,QQ hx.pl r h.pl,QP hx.ok r h.ok,by have:=h.sz;have:=hx.sz;rw [WK];lia,zcU hx.fr r h.fr,by rw [JX,h.ln]⟩
theorem rwsW.cc {r:Rws} (h:rwsW us wd n r) (hn:n≤8):Ye 6 r∧(zH r 0).length≤500∧Xe (zH r 0)∧∃ f,q9 us wd (zH r 0) 0 n f:=by
 have z:=Zc r 0
 have:=h.sz
 have:=h.dp
 have R:Ye 6 r:=⟨by lia,by lia,h.pl⟩
 have w:=zeW r 0 h.fr
 rw [h.ln] at w
 exact ⟨R,by lia,zgu R h.ok (by lia),w⟩
def lcI (cl a b l:Addr) (us:List Str) (wd:Int) (H0:Hp) (i:Nat) (σ:St) (H:Hp):Prop:=∃ (R:Rws) (ys:List V),(∃ o5 o6 o7,σ=[some (.ref cl),some (.ref a),some (.ref b),some (.int wd),some (.ref l),o5,o6,o7])∧Same H0 H∧H l=some (.lst ys)∧RwsAt (fun b=>b≠l) H ys R∧rwsW us wd i R∧ys.length=i
theorem zdb {cl a b l:Addr} {H0 H1 H2:Hp} {i:Nat} {R:Rws} {ys:List V} {v:V} {x:Rw} {o5 o6 o7:Option V} (hl:H0 l=none) (s1:Same H0 H1) (h1:H1 l=some (.lst ys)) (hR:RwsAt (fun b=>b≠l) H1 ys R) (rR:rwsW us wd i R) (ly:ys.length=i) (hi:i≤8) (s2:Same H1 H2) (hx:RwAt (fun b=>H1 b=none) H2 v x) (rx:rwX us wd x) :
  H2 l=some (.lst ys)∧ys.length < sizeLine∧lcI cl a b l us wd H0 (i + 1) [some (.ref cl),some (.ref a),some (.ref b),some (.int wd),some (.ref l),o5,o6,o7] (upd H2 l (.lst (ys ++ [v]))):=by
 have ne:∀ {b},H1 b=none→b≠l:=fun {b} e z=>by rw [z,h1] at e;cases e
 refine ⟨s2 _ _ h1,b0 (by lia:_≤63) (by decide),R.snoc x,ys ++ [v],⟨_,_,_,rfl⟩,yt (s1.trans s2) hl,ze,?_,rR.snoc rx,by rw [bt,ly];rfl⟩
 exact RwsAt.snoc (hx.to x (fun b o f _=>ne f) fun b o f e=>by rw [zk (ne f)];exact e) R (hR.to R (fun _ _ f _=>f) fun b o f e=>by rw [zk f];exact s2 _ _ e)
theorem Wc {cl a b:Addr} {ns:List Int} (h1:H cl=some (.lst (ns.map V.int))) (h2:ns.length≤8) (h3:NamesAt H a ws) (h4:ws.length=3) (h5:NamesAt H b us) (h6:us.length=2) (h7:2≤wd) (h8:wd≤12) (q:∀ l xs C f H',Same H H'→H l=none→H' l=some (.lst xs)→Paired (CsAt H') xs C→Xe C→q9 us wd C 0 ns.length f→Q (.ref l) H') :
  jG K t { nx:=fun _ H'=>Q .non H',rt:=Q } (L2.start ["cells","slots","shelves","wide","rows","cell","row","others"] [.ref cl,.ref a,.ref b,.int wd]) H:=by
 simp only [jG,vB,zm,yH,qw,L2.start,yc,jh,zo,zK,zl,zD,xb,zI,tOp,zc,tC,xj,yO,zb,zi,xr,zS,zC,tBM,tyV,tSl,xw,yu,zn,xc,rEq,rI,Zn,jS,b9,bE,bO,bI,bQ,bB,bc,bi,exists_eq_left',V.int.injEq,V.ref.injEq,V.bl.injEq,bq,and_true,true_and,and_assoc,exists_and_left,bp,bu,bT,bL,decide_eq_true_eq]
 refine ⟨by decide,fun l hl=>?_⟩
 have s0:=isV (o:=HO.lst []) l hl
 have e0:upd H l (HO.lst []) l=some (.lst []):=ze
 generalize upd H l (HO.lst [])=H0 at *
 have lm:(ns.map V.int).length=ns.length:=bn ..
 refine ⟨⟨_,SqL.of (s0 _ _ h1)⟩,xy (ns.map V.int) (lcI cl a b l us wd H) ⟨.nil,[],⟨_,_,_,rfl⟩,s0,e0,by unfold RwsAt;rfl,⟨by simp [Rws.deep],by unfold yR;trivial,by unfold yX;trivial,by simp [vm],trivial,rfl⟩,rfl⟩ (fun i σ H' ⟨_,_,_,z,_⟩=>SqL.of (z _ _ h1)) ?_ ?_⟩
 ·rintro i v σ H1 hv ⟨R,ys,⟨o5,o6,o7,rfl⟩,s1,hl1,hR,rR,ly⟩
  have hi:=(bw.mp hv).1
  rw [lm] at hi
  obtain ⟨c,_,rfl⟩:=b8.mp (cq hv)
  simp only [bc,bd,bi,exists_eq_left',V.int.injEq,V.ref.injEq,bp,bu]
  refine ⟨by decide,by decide,ws,h3.same s1,h4,us,h5.same s1,h6,h7,h8,fun v1 r1 H2 s2 k1 w1=>⟨by decide,by decide,fun d1 H3 _ _ s3=>⟨by decide,?_⟩⟩⟩
  have S3:=s2.trans s3
  have T3:=s1.trans S3
  refine xu (fun _=>⟨by decide,by decide,ws,h3.same T3,h4,us,h5.same T3,h6,h7,h8,fun v2 r2 H4 s4 k2 w2=>⟨by decide,fun ol ho=>?_⟩⟩) fun _=>?_
  ·have s5:=isV (o:=HO.lst [v2]) ol ho
   have e5:upd H4 ol (HO.lst [v2]) ol=some (.lst [v2]):=ze
   generalize upd H4 ol (HO.lst [v2])=H5 at *
   have S5:=S3.trans (s4.trans s5)
   refine ⟨by decide,by decide,ws,h3.same (s1.trans S5),h4,fun tp e H6 s6 ft ht te pe=>⟨by decide,fun rl hr=>?_⟩⟩
   have s7:=isV (o:=HO.lst [v1]) rl hr
   have e7:upd H6 rl (HO.lst [v1]) rl=some (.lst [v1]):=ze
   generalize upd H6 rl (HO.lst [v1])=H7 at *
   refine ⟨by decide,by decide,fun d2 H8 _ _ s8=>⟨by decide,?_⟩⟩
   have g1:=cQ d2 (b:=2) (by decide)
   have g2:=cF d2 (b:=2) (by decide)
   obtain ⟨m,em⟩:∃ m:Nat,d2 % 2=m:=⟨(d2 % 2).toNat,(eQ g1).symm⟩
   rw [em] at g2 ⊢
   have W8:=s6.trans (s7.trans s8)
   refine ⟨_,SqL.of (W8 _ _ e5),fun xl hxl=>?_⟩
   rw [Xv]
   have s9:=isV (o:=HO.lst ([v2].take m)) xl hxl
   have e9:upd H8 xl (HO.lst ([v2].take m)) xl=some (.lst ([v2].take m)):=ze
   generalize upd H8 xl (HO.lst ([v2].take m))=H9 at *
   refine ⟨by decide,fun rp hrp=>?_⟩
   have sA:=isV (o:=HO.tup [V.str (bf "if"),V.ref tp,V.ref rl,V.ref xl]) rp hrp
   have eA:upd H9 rp (HO.tup [V.str (bf "if"),V.ref tp,V.ref rl,V.ref xl]) rp=some (.tup [V.str (bf "if"),V.ref tp,V.ref rl,V.ref xl]):=ze
   generalize upd H9 rp (HO.tup [V.str (bf "if"),V.ref tp,V.ref rl,V.ref xl])=HA at *
   have U1:=s7.trans (s8.trans (s9.trans sA))
   have U2:=s5.trans (s6.trans U1)
   have F5:=fun {b} (z:H5 b=none)=>zG S5 z
   have S6:=S5.trans s6
   have S8:=S6.trans (s7.trans s8)
   obtain ⟨dp1,sz1⟩:=VH w1.nf
   obtain ⟨dp2,sz2⟩:=VH w2.nf
   have at1:RwAt (fun b=>H1 b=none) HA v1 r1:=k1.to r1 (fun b o f _=>f) fun b o _ z=>(s3.trans (s4.trans U2)) _ _ z
   have at2:RwAt (fun b=>H1 b=none) HA v2 r2:=k2.to r2 (fun b o f _=>zG S3 f) fun b o _ z=>U2 _ _ z
   have ra:RwsAt (fun b=>H1 b=none) HA [v1] (.cons r1 .nil):=by
    unfold RwsAt
    exact ⟨_,_,rfl,at1,by unfold RwsAt;rfl⟩
   have fin:∀ (B:Rws),RwsAt (fun b=>H1 b=none) HA ([v2].take m) B→yR B→yX B→B.deep≤0→vm B≤1→(B=.nil∨∃ y,B=.cons y .nil∧ZB y∧Gv us wd y)→HA l=some (.lst ys)∧ys.length < sizeLine∧lcI cl a b l us wd H (i + 1) [some (.ref cl),some (.ref a),some (.ref b),some (.int wd),some (.ref l),some (.int c),some (.ref rp),some (.ref ol)] (upd HA l (.lst (ys ++ [.ref rp]))):=fun B hB pB oB dB zB fB=>by
    refine zdb hl s1 hl1 hR rR ly (by lia) (S3.trans (s4.trans U2)) (x:=.iff e (.cons r1 .nil) B) ?_ ⟨?_,?_,?_,?_,⟨r1,rfl,w1.nf,w1.gv⟩,fB⟩
    ·unfold RwAt
     exact ⟨rp,tp,rl,xl,[v1],[v2].take m,rfl,zG (S8.trans s9) hrp,F5 ft,zG S6 hr,zG S8 hxl,eA,U1 _ _ ht,(s8.trans (s9.trans sA)) _ _ e7,ra,sA _ _ e9,hB⟩
    ·simp only [Rw.deep,Rws.deep];lia
    ·have a:yR (.cons r1 .nil):=by unfold yR;exact ⟨w1.pl,by unfold yR;trivial⟩
     unfold Y4
     exact ⟨pe,a,pB⟩
    ·have a:yX (.cons r1 .nil):=by unfold yX;exact ⟨w1.ok,by unfold yX;trivial⟩
     unfold jR
     exact ⟨te,a,oB⟩
    ·simp only [szR,vm];lia
   rcases (show m=0∨m=1 by lia) with rfl | rfl
   ·obtain ⟨f1,f2,f3⟩:=fin .nil (by unfold RwsAt;rfl) (by unfold yR;trivial) (by unfold yX;trivial) (by simp [Rws.deep]) (by simp [vm]) (.inl rfl)
    exact ⟨.inl ⟨_,SqL.of f1⟩,_,f1,f2,f3⟩
   ·obtain ⟨f1,f2,f3⟩:=fin (.cons r2 .nil) (by unfold RwsAt;exact ⟨_,_,rfl,at2,by unfold RwsAt;rfl⟩) (by unfold yR;exact ⟨w2.pl,by unfold yR;trivial⟩) (by unfold yX;exact ⟨w2.ok,by unfold yX;trivial⟩) (by simp only [Rws.deep];lia) (by simp only [vm];lia) (.inr ⟨r2,rfl,w2.nf,w2.gv⟩)
    exact ⟨.inl ⟨_,SqL.of f1⟩,_,f1,f2,f3⟩
  ·obtain ⟨f1,f2,f3⟩:=zdb (cl:=cl) (a:=a) (b:=b) (o5:=some (.int c)) (o6:=some v1) (o7:=o7) hl s1 hl1 hR rR ly (by lia) S3 (k1.to r1 (fun b o f _=>f) fun b o _ z=>s3 _ _ z) w1.x
   exact ⟨.inl ⟨_,SqL.of f1⟩,_,f1,f2,f3⟩
 ·rintro σ H1 ⟨R,ys,⟨o5,o6,o7,rfl⟩,s1,hl1,hR,rR,ly⟩
  simp only [bc,bd,bi,exists_eq_left']
  rw [lm] at rR
  obtain ⟨R6,l24,cc,f,w⟩:=rR.cc (by lia)
  exact ⟨R,⟨l,ys,rfl,trivial,hl1,hR.to R (fun _ _ _ _=>trivial) fun b o _ e=>e⟩,R6,l24,fun l1 x1 H5 s5 fl hl1 pc=>q l1 x1 _ f H5 (s1.trans s5) (zG s1 fl) hl1 pc cc w⟩
end
theorem jV {kvs:List (Key × V)} {k:Key} {v:V} (h:yf kvs k=none):(yD kvs k v).length=kvs.length + 1:=by
 have e:=wg kvs k k v
 unfold yD at e ⊢
 split
 ·rename_i c
  exfalso
  obtain ⟨kv,hm,hk⟩:=eB.mp c
  have hk:kv.1=k:=of_decide_eq_true hk
  have:∀ l:List (Key × V),kv∈l→yf l k≠none:=by
   intro l
   induction l with
   | nil=>exact fun z=>nomatch z
   | cons x t ih =>
    intro hm
    by_cases z:x.1=k
    ·unfold yf
     rw [List.find?_cons_of_pos (by simpa using z)]
     simp
    ·rcases bK.mp hm with r | r
     ·exact absurd (by rw [← r];exact hk) z
     ·have:=ih r
      unfold yf at this ⊢
      rw [List.find?_cons_of_neg (by simpa using z)]
      exact this
  exact this kvs hm h
 ·rw [bt];rfl
section
variable {P:List Pp} {T:List (List Nat)} {a c d:Addr} {ls:List Addr}
theorem J9 (P:List Pp) (n:Nat):(zr P n).flatten.Perm (bN n):=(J3 ⟨_,by
 generalize zr P n=T
 induction T with
 | nil=>exact .nil
 | cons x t ih=>exact .cons (l5 _) ih,rfl⟩:zcZ P n _).pm
def hasW (kvs:List (Key × V)) (W:List Nat):Prop:=kvs.length=W.length∧∀ k:Nat,(yf kvs (.inl (k:Int))).isSome=decide (k∈W)
theorem hasW.put {kvs:List (Key × V)} {W:List Nat} {k:Nat} {v:V} (h:hasW kvs W) (n:k ∉ W):yf kvs (.inl (k:Int))=none∧hasW (yD kvs (.inl (k:Int)) v) (W ++ [k]):=by
 have e:yf kvs (.inl (k:Int))=none:=by
  have:=h.2 k
  rw [decide_eq_false n] at this
  cases z:yf kvs (.inl (k:Int)) with
  | none=>rfl
  | some y=>rw [z] at this;cases this
 refine ⟨e,by rw [jV e,h.1,bt];rfl,fun j=>?_⟩
 rw [wg]
 by_cases c:j=k
 ·rw [if_pos (by rw [c]),decide_eq_true (by rw [c];simp)];rfl
 ·rw [if_neg (fun z=>c (by have:=pK z;lia)),h.2 j]
  congr 1
  simp [c]
def zgC (a d:Addr) (n:Nat) (W:Nat→List Nat) (H0:Hp) (o3:Option V→Prop) (i:Nat) (σ:St) (H:Hp):Prop:=∃ kvs,(∃ x3 x4,o3 x3∧σ=[some (.ref a),some (.int (n:Nat)),some (.ref d),x3,x4])∧Same H0 H∧H d=some (.dK kvs)∧hasW kvs (W i)
theorem XJ (kf:KF K) (h1:P.length≤63) (R:RsAt H a ls (zr P P.length)) (q:∀ H',Same H H'→Q (.bl true) H') :
  vU K t { nx:=fun _ H'=>Q .non H',rt:=Q } (L2.start ["told","many","there","k","rank"] [.ref a,.int P.length]) H:=by
 simp only [vU,vt,Y0,zcm,L2.start,zo,zK,zl,zD,zI,tOp,zc,tC,zb,zi,xr,zS,tOr,jO,zC,tB,tCB,Zj,je,xD,Zp,xc,yw,rEq,rI0,yG,Zq,jS,b9,bE,bO,bI,bQ,bc,bi,exists_eq_left',V.int.injEq,V.bl.injEq,V.ty.injEq,bq,and_true,and_assoc,exists_and_left,bp,bu,bT,bL,decide_eq_true_eq,cB,decide_eq_false_iff_not,dY,dC,if_true,cu,ite_false]
 intro d hd
 have s1:=isV (o:=HO.dK []) d hd
 have I:=ZM P P.length
 have lT:=I.le
 have ll:=bH R.each
 have pf:=J9 P P.length
 have nf:(zr P P.length).flatten.Nodup:=pf.nodup_iff.mpr gI
 have lf:=pf.length_eq
 rw [cR] at lf
 have lm:(ls.map V.ref).length=ls.length:=bn ..
 refine ⟨_,.lst (s1 _ _ R.at_),true,v9 _,?_⟩
 rw [if_neg (by decide)]
 refine ⟨(zr P P.length).length,.inl ⟨_,SqL.of (s1 _ _ R.at_),by lia⟩,by lia,by lia,xO (zgC a d P.length (fun i=>((zr P P.length).take i).flatten) H fun _=>True) ⟨[],⟨_,_,trivial,rfl⟩,s1,ze,rfl,fun k=>rfl⟩ ?_ ?_⟩
 ·rintro r σ H1 hr ⟨kvs,⟨o3,o4,_,rfl⟩,S1,hd1,hw⟩
  simp only [bc,bd,bi,exists_eq_left',V.int.injEq,V.ref.injEq,bp,bu,gm]
  obtain ⟨l0,g1,g2,g3⟩:=R.get (m:=r) (by lia)
  have hT:(zr P P.length)[r]?=some ((zr P P.length).getD r []):=by
   rw [bg,ba (by lia)];rfl
  obtain ⟨n1,m1⟩:=jK hT
  have tk:(zr P P.length).take (r + 1)=(zr P P.length).take r ++ [(zr P P.length).getD r []]:=by rw [cM,hT];rfl
  have nd:(((zr P P.length).take r).flatten ++ (zr P P.length).getD r []).Nodup:=by
   have:((zr P P.length).take (r + 1)).flatten.Sublist (zr P P.length).flatten:=by
    conv=>rhs;rw [← eZ (r + 1) (zr P P.length),eS]
    exact List.sublist_append_left ..
   have:=nf.sublist this
   rw [tk,eS] at this
   simpa using this
  have hw:hasW kvs ((zr P P.length).take r).flatten:=hw
  generalize hrs:(zr P P.length).getD r []=rs at *
  generalize hW:((zr P P.length).take r).flatten=W at *
  refine ⟨_,SqL.of (S1 _ _ R.at_),_,g3,_,.lst (S1 _ _ g2),true,v9 _,?_⟩
  rw [if_neg (by decide)]
  refine ⟨_,SqL.of (S1 _ _ R.at_),_,g3,l0,rfl,⟨_,SqL.of (S1 _ _ g2)⟩,xy (rs.map zN) (zgC a d P.length (fun j=>W ++ rs.take j) H fun o=>o=some (.int (r:Int))) ⟨kvs,⟨_,_,rfl,rfl⟩,S1,hd1,by show hasW kvs (W ++ rs.take 0);rw [nZ,bB];exact hw⟩ (fun i σ H' ⟨_,_,z,_⟩=>SqL.of (z _ _ g2)) ?_ ?_⟩
  ·rintro j v σ H2 hv ⟨kvs,⟨o3,o4,rfl,rfl⟩,S2,hd2,hw⟩
   have hj:=(bw.mp hv).1
   rw [bn] at hj
   have hw:hasW kvs (W ++ rs.take j):=hw
   have hk:rs[j]?=some rs[j]:=ba hj
   rw [bC,hk] at hv
   obtain rfl:zN rs[j]=v:=bS hv
   have tk2:rs.take (j + 1)=rs.take j ++ [rs[j]]:=by rw [cM,hk];rfl
   have lt:=((m1 _).mp (da hj)).1
   have nw:rs[j] ∉ W ++ rs.take j:=by
    intro z
    have:(W ++ rs.take (j + 1)).Nodup:=nd.sublist (ot (oV _) (ic ..))
    rw [tk2,← eK,oU] at this
    exact this.2.2 _ z _ br rfl
   generalize rs[j]=k at *
   obtain ⟨e0,hw2⟩:=hw.put (v:=.int (r:Int)) nw
   simp only [zN,bc,bd,bi,exists_eq_left',V.int.injEq,V.ref.injEq,bp,bu]
   refine ⟨_,.int _,true,v9 _,?_⟩
   rw [if_neg (by decide)]
   refine ⟨_,.int _,false,kf.i_b,?_⟩
   rw [if_neg (by decide)]
   refine ⟨_,.inl ⟨kvs,.inl (k:Int),.inl hd2,rfl,rfl⟩,?_⟩
   rw [e0,if_neg (by decide)]
   have lw:=hw.1
   have lW:(W ++ rs.take j).length≤63:=by
    have:=wP (a:=W ++ rs.take j) (b:=bN P.length) (nd.sublist (ot (oV _) (ic ..))) fun x hx=>?_
    ·rw [cR] at this;lia
    ·rw [cI]
     rcases bP.mp hx with hx | hx
     ·refine cI.mp (pf.mem_iff.mp ?_)
      rw [← hW] at hx
      obtain ⟨l,hl,hx⟩:=eW.mp hx
      exact eW.mpr ⟨l,fj hl,hx⟩
     ·exact ((m1 x).mp (fj hx)).1
   rw [if_pos (by lia),if_neg (fun z=>z (by lia))]
   refine ⟨_,.inl ⟨kvs,.inl (k:Int),hd2,rfl,b0 (by lia:_≤63) (by decide),rfl⟩,_,⟨_,_,rfl,rfl⟩,yt S2 hd,ze,?_⟩
   show hasW _ (W ++ rs.take (j + 1))
   rw [tk2,← eK]
   exact hw2
  ·rintro σ H2 ⟨kvs,⟨o3,o4,rfl,rfl⟩,S2,hd2,hw⟩
   refine ⟨kvs,⟨_,_,trivial,rfl⟩,S2,hd2,?_⟩
   have hw:hasW kvs (W ++ rs.take (rs.map zN).length):=hw
   rw [bn,dk] at hw
   show hasW kvs ((zr P P.length).take (r + 1)).flatten
   rw [tk,eS,hW]
   simpa using hw
 ·rintro σ H1 ⟨kvs,⟨o3,o4,_,rfl⟩,S1,hd1,hw⟩
  simp only [bc,bd,bi,exists_eq_left',V.int.injEq,V.ref.injEq,true_and]
  have hw:hasW kvs ((zr P P.length).take (zr P P.length).length).flatten:=hw
  rw [dk] at hw
  have:=hw.1
  refine ⟨_,hd1,?_⟩
  have e:kvs.length=P.length:=by lia
  have:=q H1 S1
  rw [e]
  simpa using this
end
section
variable {P:List Pp}
def cg (P:List Pp) (k:Nat):Nat:=(chn P).getD k 0
theorem zdc (h:zr P P.length≠[]):∃ y l,(zr P P.length).getLastD []=y :: l∧y < P.length∧nO P y + 1=(zr P P.length).length∧chn P=(chB P (zr P P.length).dropLast.reverse y).reverse:=by
 obtain ⟨y,l,e1,e2,e3⟩:=Q9 h
 refine ⟨y,l,e1,e2,e3,?_⟩
 unfold chn
 rw [if_neg h,e1]
 rfl
theorem zae:(chn P).length=(zr P P.length).length:=by
 by_cases h:zr P P.length=[]
 ·unfold chn;rw [if_pos h,h];rfl
 ·obtain ⟨y,l,_,_,_,e⟩:=zdc h
  have hp:0 < (zr P P.length).length:=lF.mpr h
  rw [e,dj,Yz,dj,cA]
  lia
theorem zaf {k:Nat} (hk:k < (zr P P.length).length):∃ y l,(zr P P.length).getLastD []=y :: l∧y < P.length∧nO P y + 1=(zr P P.length).length∧cg P k=(chB P (zr P P.length).dropLast.reverse y).getD ((zr P P.length).length - 1 - k) 0:=by
 have h:zr P P.length≠[]:=fun z=>by rw [z] at hk;cases hk
 obtain ⟨y,l,e1,e2,e3,e⟩:=zdc h
 refine ⟨y,l,e1,e2,e3,?_⟩
 have cl:=Yz (P:=P) (zr P P.length).dropLast.reverse y
 rw [dj,cA] at cl
 unfold cg
 rw [e,bg,bg,gj (by lia),cl]
 congr 2
theorem zgD {k:Nat} (hk:k < (zr P P.length).length):cg P k < P.length:=by
 obtain ⟨y,l,e1,e2,e3,e⟩:=zaf hk
 rw [e]
 exact (VE e2 e3 ((zr P P.length).length - 1 - k) (by lia)).1
theorem zeF {k:Nat} (hk:k + 1=(zr P P.length).length):∃ l,(zr P P.length).getD k []=cg P k :: l:=by
 obtain ⟨y,l,e1,e2,e3,e⟩:=zaf (P:=P) (k:=k) (by lia)
 refine ⟨l,?_⟩
 rw [e,show (zr P P.length).length - 1 - k=0 by lia,XG,← e1,gE,gF,bg,show (zr P P.length).length - 1=k by lia]
theorem zeG {k:Nat} (hk:k + 1 < (zr P P.length).length):∃ l,((zr P P.length).getD k []).filter (fun j=>mtB P j (cg P (k + 1)))=cg P k :: l:=by
 obtain ⟨y,l,e1,e2,e3,e⟩:=zaf (P:=P) (k:=k) (by lia)
 obtain ⟨y',l',f1,f2,f3,f⟩:=zaf (k:=k + 1) hk
 rw [e1] at f1
 cases f1
 have gi:=YA (P:=P) (zr P P.length).dropLast.reverse y ((zr P P.length).length - 2 - k) (by rw [dj,cA];lia)
 rw [VD (by rw [cA];lia),show (zr P P.length).length - 2 - ((zr P P.length).length - 2 - k)=k by lia,show (zr P P.length).length - 2 - k + 1=(zr P P.length).length - 1 - k by lia] at gi
 rw [show (zr P P.length).length - 1 - (k + 1)=(zr P P.length).length - 2 - k by lia] at f
 rw [← e,← f] at gi
 obtain ⟨j,l2,h1,h2,h3⟩:=qF (P:=P) (r:=k) (x:=cg P (k + 1)) (zgD hk) (by
  rw [f]
  have:=(VE e2 e3 ((zr P P.length).length - 2 - k) (by lia)).2
  lia)
 rw [h1] at gi
 exact ⟨l2,by rw [h1,gi];rfl⟩
theorem zf2 {k:Nat} (hk:k < (zr P P.length).length):atI ((chn P).map zN) (k:Nat)=some (zN (cg P k)):=xF (by
 have:k < (chn P).length:=by rw [zae];exact hk
 unfold cg
 rw [bC,ba this,bg,ba this]
 rfl)
end
theorem zdd (xs:List V) (n:Nat):qI xs (some (n:Int)) none=xs.drop n:=by
 unfold qI
 rw [HT.sIx_none,HT.sIx_nat]
 by_cases c:n≤xs.length
 ·rw [gd c]
  exact cC (by rw [et];exact bj _)
 ·rw [gH (by lia),m8 (bj _),m8 (by lia),List.take_nil]
section
variable {P:List Pp} {T:List (List Nat)} {a c r:Addr} {ls:List Addr} {ns:List Int}
theorem zf3 {k:Nat} (hk:k < (zr P P.length).length):cg P k∈(zr P P.length).getD k []:=by
 by_cases c:k + 1=(zr P P.length).length
 ·obtain ⟨l,e⟩:=zeF c
  rw [e];exact br
 ·obtain ⟨l,e⟩:=zeG (P:=P) (k:=k) (by lia)
  have:cg P k∈((zr P P.length).getD k []).filter (fun j=>mtB P j (cg P (k + 1))):=by rw [e];exact br
  exact (cT.mp this).1
theorem Zh (kf:KF K) (h1:P.length≤63) (R:RsAt H a ls (zr P P.length)) (h3:H c=some (.lst ((chn P).map zN))) (q:∀ H',Same H H'→Q (.bl true) H') :
  xT K t { nx:=fun _ H'=>Q .non H',rt:=Q } (L2.start ["told","some","k"] [.ref a,.ref c]) H:=by
 simp only [xT,L2.start,zo,zl,zD,zI,tOp,zc,tC,zb,zi,xr,zS,tOr,jO,zC,tB,tCB,je,xD,yw,rNe,rIn,yG,Zq,jS,b9,bE,bO,bI,bQ,bc,bd,bi,exists_eq_left',V.int.injEq,V.bl.injEq,V.ty.injEq,bq,and_true,true_and,and_assoc,exists_and_left,bT,bL,cB,decide_eq_false_iff_not,dY,dC,if_true]
 have lT:=(ZM P P.length).le
 have ll:=bH R.each
 have lm:(ls.map V.ref).length=ls.length:=bn ..
 have lc:((chn P).map zN).length=(zr P P.length).length:=by rw [bn,zae]
 refine ⟨_,.lst h3,true,v9 _,?_⟩
 rw [if_neg (by decide)]
 refine ⟨(zr P P.length).length,.inl ⟨_,SqL.of h3,lc.symm⟩,(zr P P.length).length,.inl ⟨_,SqL.of R.at_,by lia⟩,?_⟩
 rw [if_neg (fun z=>z rfl)]
 refine ⟨(zr P P.length).length,.inl ⟨_,SqL.of R.at_,by lia⟩,by lia,by lia,xO (fun _ σ H'=>(∃ o,σ=[some (.ref a),some (.ref c),o])∧Same H H') ⟨⟨_,rfl⟩,Same.refl _⟩ ?_ ?_⟩
 ·rintro i σ H1 hi ⟨⟨o,rfl⟩,s1⟩
  simp only [bc,bd,bi,exists_eq_left',V.int.injEq,V.ref.injEq,bq,and_true,true_and,bp,bu,gm]
  obtain ⟨l0,g1,g2,g3⟩:=R.get (m:=i) (by lia)
  have cm:=zf3 (P:=P) (k:=i) (by lia)
  refine ⟨_,SqL.of (s1 _ _ h3),_,zf2 (by lia),_,SqL.of (s1 _ _ R.at_),_,g3,l0,rfl,_,.inl (SqL.of (s1 _ _ g2)),rfl,?_,?_⟩
  ·rw [dz]
   intro x hx
   obtain ⟨k,_,rfl⟩:=b8.mp hx
   rfl
  ·have e:inV (zN (cg P i)) (((zr P P.length).getD i []).map zN)=true:=by
    unfold inV
    rw [eB]
    exact ⟨_,b8.mpr ⟨_,cm,rfl⟩,by unfold zN eqV;exact beq_self_eq_true _⟩
   rw [e,if_neg (by decide)]
   exact ⟨⟨_,rfl⟩,s1⟩
 ·rintro σ H1 ⟨⟨o,rfl⟩,s1⟩
  exact q H1 s1
def trI (a r:Addr) (T:List (List Nat)) (H0:Hp) (i:Nat) (σ:St) (H:Hp):Prop:=∃ (l:Addr) (Ts:List (List Nat)),(∃ o3 o4 o5,σ=[some (.ref a),some (.ref r),some (.ref l),o3,o4,o5])∧Same H0 H∧H l=some (.lst (Ts.flatten.map zN))∧Paired (fun (a b:List Nat)=>b.Perm a) (T.take i) Ts
theorem zeH {i:Nat}:(T.take i).flatten.length≤T.flatten.length:=by
 conv=>rhs;rw [← eZ i T,eS,bt]
 lia
theorem zf4 {rs:List Nat} (h:rs∈T):rs.length≤T.flatten.length:=(List.sublist_flatten_of_mem h).length_le
theorem Yn (hS:SqL K H a (ns.map V.int)) (hn:ns.length≤63) (R:RsAt H r ls T) (h4:T.flatten.length≤63) (h5:T.length≤63) (q:∀ l os H',Same H H'→H' l=some (.lst (os.map zN))→K3 T os→Q (.ref l) H') :
  vd K t { nx:=fun _ H'=>Q .non H',rt:=Q } (L2.start ["script","told","order","k","ranks","at"] [.ref a,.ref r]) H:=by
 simp only [vd,z0,zm,qb,Y5,L2.start,zo,zK,zl,zD,zI,tOp,tUn,zc,tC,xj,zb,zi,xr,zS,zC,tCB,tSl,xw,yu,zn,je,xD,qb,yw,rEq,rI,rI0,rU,Zn,yG,jS,b9,bE,bO,bI,bQ,bB,bc,bd,bi,exists_eq_left',V.int.injEq,V.ref.injEq,V.bl.injEq,bq,and_true,true_and,and_assoc,exists_and_left,bp,bu,bT,bL,decide_eq_true_eq,dY,dC]
 refine ⟨by decide,fun l hl=>?_⟩
 have s0:=isV (o:=HO.lst []) l hl
 have e0:upd H l (HO.lst []) l=some (.lst []):=ze
 generalize upd H l (HO.lst [])=H0 at *
 have ll:=bH R.each
 have lm:(ls.map V.ref).length=ls.length:=bn ..
 refine ⟨T.length,.inl ⟨_,SqL.of (s0 _ _ R.at_),by lia⟩,by lia,by lia,xO (trI a r T H) ⟨l,[],⟨_,_,_,rfl⟩,s0,e0,.nil⟩ ?_ ?_⟩
 ·rintro i σ H1 hi ⟨l,Ts,⟨o3,o4,o5,rfl⟩,s1,hl,pr⟩
  simp only [bc,bd,bi,exists_eq_left',V.int.injEq,V.ref.injEq,bp,bu,gm]
  obtain ⟨l0,g1,g2,g3⟩:=R.get (m:=i) (by lia)
  have hT:T[i]?=some (T.getD i []):=by rw [bg,ba (by lia)];rfl
  have tk:T.take (i + 1)=T.take i ++ [T.getD i []]:=by rw [cM,hT];rfl
  have lr:=zf4 (cq hT)
  have lf:Ts.flatten.length≤63:=by
   have:=(WP pr).length_eq
   have:=zeH (T:=T) (i:=i)
   lia
  generalize T.getD i []=rs at *
  have ln:(rs.map zN).length=rs.length:=bn ..
  refine ⟨_,SqL.of (s1 _ _ R.at_),_,g3,ns,i,rfl,hS.mono s1,hn,fun c1 H2 s2=>⟨by decide,by decide,fun d1 H3 _ _ s3=>⟨rs.length,.inl ⟨_,SqL.of ((s1.trans (s2.trans s3)) _ _ g2),ln.symm⟩,by lia,?_⟩⟩⟩
  have f1:=cQ d1 (b:=1 + (rs.length:Int)) (by lia)
  obtain ⟨m,em⟩:∃ m:Nat,d1 % (1 + (rs.length:Int))=m:=⟨(d1 % (1 + (rs.length:Int))).toNat,(eQ f1).symm⟩
  rw [em]
  have S3:=s1.trans (s2.trans s3)
  refine ⟨l0,rfl,_,SqL.of (S3 _ _ g2),fun p1 hp1=>?_⟩
  rw [zdd,← oI]
  have s4:=isV (o:=HO.lst ((rs.drop m).map zN)) p1 hp1
  have e4:upd H3 p1 (HO.lst ((rs.drop m).map zN)) p1=some (.lst ((rs.drop m).map zN)):=ze
  generalize upd H3 p1 (HO.lst ((rs.drop m).map zN))=H4 at *
  refine ⟨l0,rfl,_,SqL.of ((S3.trans s4) _ _ g2),fun p2 hp2=>?_⟩
  rw [Xv,← mR]
  have s5:=isV (o:=HO.lst ((rs.take m).map zN)) p2 hp2
  have e5:upd H4 p2 (HO.lst ((rs.take m).map zN)) p2=some (.lst ((rs.take m).map zN)):=ze
  generalize upd H4 p2 (HO.lst ((rs.take m).map zN))=H5 at *
  refine ⟨_,s5 _ _ e4,_,e5,bU (by rw [bn,bn,et,c8];lia:_≤200) (by decide),fun p3 hp3=>?_⟩
  rw [← cY]
  have pm:(rs.drop m ++ rs.take m).Perm rs:=List.perm_append_comm.trans (by rw [eZ])
  generalize rs.drop m ++ rs.take m=us at *
  have lu:=pm.length_eq
  have s6:=isV (o:=HO.lst (us.map zN)) p3 hp3
  have e6:upd H5 p3 (HO.lst (us.map zN)) p3=some (.lst (us.map zN)):=ze
  generalize upd H5 p3 (HO.lst (us.map zN))=H6 at *
  have S6:=S3.trans (s4.trans (s5.trans s6))
  have T6:=s2.trans (s3.trans (s4.trans (s5.trans s6)))
  have fin:∀ (us:List Nat) (H7:Hp) (p:Addr) (o5:Option V),us.Perm rs→Same H6 H7→H7 p=some (.lst (us.map zN))→∃ xs,H7 l=some (.lst xs)∧∃ ys,H7 p=some (.lst ys)∧xs.length + ys.length≤sizeLine∧∀ p',H7 p'=none→trI a r T H (i + 1) [some (.ref a),some (.ref r),some (.ref p'),some (.int (i:Int)),some (.ref p),o5] (upd H7 p' (.lst (xs ++ ys))):=fun us H7 p o5 pm s7 e7=>by
   have lu:=pm.length_eq
   refine ⟨_,(T6.trans s7) _ _ hl,_,e7,bU (by rw [bn,bn];lia:_≤200) (by decide),fun p' hp'=>⟨p',Ts ++ [us],⟨_,_,_,rfl⟩,S6.trans (s7.trans (isV p' hp')),?_,?_⟩⟩
   ·rw [ze,eS,cY];simp
   ·rw [tk];exact Paired.snocP pr pm
  refine ⟨ns,i,rfl,hS.mono S6,hn,fun c2 H7 s7=>⟨by decide,by decide,fun d2 H8 _ _ s8=>⟨by decide,xu (fun _=>?_) fun _=>?_⟩⟩⟩
  ·refine ⟨_,SqL.of ((s7.trans s8) _ _ e6),fun p4 hp4=>?_⟩
   rw [← mU]
   obtain ⟨xs,f1,ys,f2,f3,f4⟩:=fin us.reverse (upd H8 p4 (HO.lst (us.reverse.map zN))) p4 (some (.int (m:Int))) ((oS us).trans pm) (s7.trans (s8.trans (isV p4 hp4))) ze
   exact ⟨xs,f1,ys,f2,f3,f4⟩
  ·obtain ⟨xs,f1,ys,f2,f3,f4⟩:=fin us H8 p3 (some (.int (m:Int))) pm (s7.trans s8) ((s7.trans s8) _ _ e6)
   exact ⟨xs,f1,ys,f2,f3,f4⟩
 ·rintro σ H1 ⟨l,Ts,⟨o3,o4,o5,rfl⟩,s1,hl,pr⟩
  have pr:Paired (fun (a b:List Nat)=>b.Perm a) (T.take T.length) Ts:=pr
  rw [dk] at pr
  simp only [bc,bd,bi,exists_eq_left']
  exact q l _ H1 s1 hl ⟨Ts,pr,rfl⟩
end
theorem WR:∀ {ds:List PyData} {m:Nat},(∀ d∈ds,zM d=true∧d.depth≤m)→z6 ds=true∧cj ds≤m
 | [],_,_=>by simp [z6,cj]
 | d :: ds,m,h=>by
  have h1:=h d br
  have h2:=WR (ds:=ds) (m:=m) fun x hx=>h x (bx _ hx)
  rw [z6,cj,h1.1,h2.1]
  exact ⟨rfl,by lia⟩
def pD (p:Pp):PyData:=ppD p.oc p.no p.gi
theorem PpV.dat {v:V} {p:Pp} (P:PpV H v p) (o:kO p):Dat K H v (pD p)∧zM (pD p)=true∧(pD p).depth≤7:=by
 obtain ⟨r,x,nl,gl,rfl,hr,ho,hn,hg⟩:=P
 unfold pD
 refine ⟨.tup (SqT.of hr) (.cons (zfK ho) (.cons (Qb hn) (.cons (Qb hg) .nil))),?_,?_⟩
 ·have a1:=zcJ (oc:=p.oc) o.so
  have a2:=Xr o.sn
  have a3:=Xr o.sg
  simp only [ppD,zM,z6,bV,and_true] at a1 a2 a3 ⊢
  exact ⟨a1,a2,a3⟩
 ·have a1:=zej p.oc
  have a2:=Yy p.no
  have a3:=Yy p.gi
  simp only [ppD,dF,cj] at *
  lia
theorem zag:∀ {xs:List V} {P:List Pp},Paired (PpV H) xs P→(∀ p∈P,kO p)→DatAll K H xs (P.map pD)
 | _,_,.nil,_=>.nil
 | _,_,.cons a t,h=>.cons (a.dat (h _ br)).1 (zag t fun p hp=>h p (bx _ hp))
def psD (P:List Pp):PyData:=.list (P.map pD)
theorem PpsAt.dat {l:Addr} {P:List Pp} (h:PpsAt H l P):Dat K H (.ref l) (psD P)∧zM (psD P)=true∧(psD P).depth≤8:=by
 obtain ⟨⟨xs,hx,px⟩,ok,le⟩:=h
 refine ⟨.lst (SqL.of hx) (zag px ok),?_⟩
 have a:=WR (ds:=P.map pD) (m:=7) fun d hd=>by
  obtain ⟨p,hp,rfl⟩:=b8.mp hd
  obtain ⟨i,hi⟩:=cV hp
  have lx:=bH px
  have li:=(bw.mp hi).1
  have:=zX px (ba (show i < xs.length by lia)) hi
  exact (PpV.dat (K:=K) this (ok p hp)).2
 unfold psD
 rw [zM,dF]
 exact ⟨a.1,by lia⟩
theorem YC {l:Addr} {U:List Pl} {tab:List Row} (uo:UOk U) (ti:TabI U tab) (h:yh H l tab):Dat K H (.ref l) (.list (tab.map qE))∧zM (.list (tab.map qE))=true∧(PyData.list (tab.map qE)).depth≤64:=by
 refine ⟨Qb h,Xr fun r hr=>uo.nm _ (ti.ps r hr).1,?_⟩
 have:=Yy tab
 lia
theorem zaZ {T:List (List Nat)} {i:Nat} {rs:List Nat} (h:T[i]?=some rs):vb T (i + 1)=vb T i ++ rs.reverse:=by
 unfold vb
 rw [cM,h,cY,eS]
 simp
def aoI (cl pl tl ta:Addr) (o5:Option V→Prop) (U:List Pl) (P:List Pp) (tab:List Row) (L:Nat→List Nat) (H0:Hp) (i:Nat) (σ:St) (H:Hp):Prop:=∃ nl now,(∃ x5 x6,o5 x5∧σ=[some (.ref cl),some (.ref pl),some (.ref tl),some (.ref ta),some (.ref nl),x5,x6])∧Same H0 H∧yh H nl now∧TabI U now∧TbV P tab (L i) now
section
variable {cl pl tl ta:Addr} {ls:List Addr} {U:List Pl} {CC:List (List Cs)} {P:List Pp} {tab now:List Row} {T:List (List Nat)} {rs:List Nat} {k:Nat}
theorem zah {rs:List Nat} {v:V} {j:Nat} (h:(rs.map zN)[j]?=some v):∃ k,rs[j]?=some k∧v=zN k:=by
 rw [bC] at h
 cases e:rs[j]? with
 | none=>rw [e] at h;cases h
 | some k=>rw [e] at h;exact ⟨k,rfl,(bS h).symm⟩
theorem za0 {D:XQ} {nl:Addr} {o5:Option V} (hC:CosAt H cl CC) (hP:PpsAt H pl P) (hn:yh H nl now) (ti:TabI U now) (uo:UOk U) (lp:P.length=CC.length) (hk:k < CC.length) (fd:∀ s,FedR (CC.getD k []) now s→ppS s=pAt P k) (q:∀ H',Same H H'→D.nx [some (.ref cl),some (.ref pl),some (.ref tl),some (.ref ta),some (.ref nl),o5,some (zN k)] H') :
  xM K t D [some (.ref cl),some (.ref pl),some (.ref tl),some (.ref ta),some (.ref nl),o5,some (zN k)] H:=by
 simp only [xM,zN,Xf,XT,zaC,zD,zI,tOp,zc,tC,zb,zi,zS,zC,tCB,zn,yw,bB,bc,bd,bi,exists_eq_left',V.int.injEq,V.ref.injEq,V.bl.injEq,bq,and_true,and_assoc,exists_and_left,cB,if_true]
 obtain ⟨xs,a,ys,c1,c2,c3,c4,cc⟩:=zc8 hC hk
 obtain ⟨zs,hz,pz⟩:=id hn
 have l6:=ti.len uo
 refine ⟨_,SqL.of c1,_,xF c2,a,rfl,ys,.inl (SqL.of c3),fun p1 hp1=>?_⟩
 have s1:=isV (o:=HO.lst ys) p1 hp1
 have e1:upd H p1 (HO.lst ys) p1=some (.lst ys):=ze
 generalize upd H p1 (HO.lst ys)=H1 at *
 refine ⟨zs,.inl (SqL.of (s1 _ _ hz)),fun p2 hp2=>?_⟩
 have s2:=isV (o:=HO.lst zs) p2 hp2
 have e2:upd H1 p2 (HO.lst zs) p2=some (.lst zs):=ze
 generalize upd H1 p2 (HO.lst zs)=H2 at *
 have S2:=s1.trans s2
 refine ⟨_,s2 _ _ e1,_,y9 S2 c4,cc,now,⟨zs,e2,jb S2 pz⟩,by lia,fun r hr=>(ti.ps r hr).2.1,fun r s H3 s3 F Pa=>?_⟩
 obtain ⟨p1,p2,_⟩:=Pa.v F cc.le
 rw [fd s F] at p1 p2
 obtain ⟨ws,v,w1,w2,w3,w4,_⟩:=(hP.same (S2.trans s3)).get (show k < P.length by lia)
 obtain ⟨a1,a2,a3⟩:=p1.dat (K:=K) p2
 refine ⟨_,SqL.of w1,_,w2,_,a1,_,(w3.dat w4).1,a2,a2,by lia,by lia,fun c hc=>?_⟩
 rw [hc.mpr rfl,if_neg (by decide)]
 exact q _ (S2.trans s3)
theorem ZO (hC:CosAt H cl CC) (hP:PpsAt H pl P) (ht:yh H tl tab) (R:RsAt H ta ls T) (O:zcx U CC P tab T) (q:∀ l out H',Same H H'→yh H' l out→TabI U out→TbV P tab (vb T T.length) out→Q (.ref l) H') :
  wF K t { nx:=fun _ H'=>Q .non H',rt:=Q } (L2.start ["codes","papers","table","told","now","ranks","rank"] [.ref cl,.ref pl,.ref tl,.ref ta]) H:=by
 simp only [wF,jA,w6,Y5,L2.start,yx,zo,zK,zl,zD,tOp,tUn,zc,tC,zb,zi,xr,zn,xc,yw,yx,rU,b9,bE,bO,bI,bQ,bB,bc,bd,bi,exists_eq_left',V.int.injEq,V.ref.injEq,bq,and_true,true_and,and_assoc,exists_and_left,bp,bu,bT,bL,dC]
 have ll:=bH R.each
 have lm:(ls.map V.ref).length=ls.length:=bn ..
 refine ⟨⟨_,SqL.of R.at_⟩,xy (ls.map V.ref) (aoI cl pl tl ta (fun _=>True) U P tab (vb T) H) ⟨tl,tab,⟨_,_,trivial,rfl⟩,Same.refl _,ht,O.ti,fun p=>rfl⟩ (fun i σ H' ⟨_,_,_,z,_⟩=>SqL.of (z _ _ R.at_)) ?_ ?_⟩
 ·rintro i v σ H1 hv ⟨nl,now,⟨o5,o6,_,rfl⟩,s1,n1,n2,n3⟩
  have hi:=(bw.mp hv).1
  rw [lm] at hi
  obtain ⟨l0,g1,g2,_⟩:=R.get (m:=i) (by lia)
  rw [bC,g1] at hv
  obtain rfl:=bS hv
  have hT:T[i]?=some (T.getD i []):=by rw [bg,ba (by lia)];rfl
  have fd:=fun {k now s}=>O.fd i _ k now s hT
  have lt:=fun {k}=>O.lt _ (cq hT) k
  have ds:=zaZ hT
  generalize T.getD i []=rs at *
  have g2:=s1 _ _ g2
  simp only [bc,bd,bi,exists_eq_left',V.ref.injEq,bp,bu]
  refine ⟨⟨_,SqL.of g2⟩,xy (rs.map zN) (fun _ σ H'=>(∃ o6,σ=[some (.ref cl),some (.ref pl),some (.ref tl),some (.ref ta),some (.ref nl),some (.ref l0),o6])∧Same H1 H') ⟨⟨_,rfl⟩,Same.refl _⟩ (fun i σ H' z=>SqL.of (z.2 _ _ g2)) ?_ ?_⟩
  ·rintro j v σ H2 hv ⟨⟨o6,rfl⟩,s2⟩
   obtain ⟨k,hk,rfl⟩:=zah hv
   have mk:=cq hk
   have S2:=s1.trans s2
   exact za0 (hC.same S2) (hP.same S2) (yS n1 s2) n2 O.uo O.lp (lt mk) (fun s F=>fd mk n3 F) fun H3 s3=>⟨⟨_,rfl⟩,s2.trans s3⟩
  ·rintro σ H2 ⟨⟨o6,rfl⟩,s2⟩
   simp only [bc,bd,bi,exists_eq_left',V.ref.injEq]
   refine ⟨_,SqL.of (s2 _ _ g2),fun p hp=>?_⟩
   rw [← mU]
   have s3:=isV (o:=HO.lst (rs.reverse.map zN)) p hp
   have e3:upd H2 p (HO.lst (rs.reverse.map zN)) p=some (.lst (rs.reverse.map zN)):=ze
   generalize upd H2 p (HO.lst (rs.reverse.map zN))=H3 at *
   have S3:=s1.trans (s2.trans s3)
   refine ⟨⟨_,SqL.of e3⟩,xy (rs.reverse.map zN) (aoI cl pl tl ta (fun _=>True) U P tab (fun j=>vb T i ++ rs.reverse.take j) H3) ⟨nl,now,⟨_,_,trivial,rfl⟩,Same.refl _,yS n1 (s2.trans s3),n2,by show TbV P tab (vb T i ++ rs.reverse.take 0) now;rw [nZ,bB];exact n3⟩ (fun i σ H' ⟨_,_,_,z,_⟩=>SqL.of (z _ _ e3)) ?_ ?_⟩
   ·rintro j v σ H4 hv ⟨nl,now,⟨o5,o6,_,rfl⟩,s4,m1,m2,m3⟩
    obtain ⟨k,hk,rfl⟩:=zah hv
    have mk:=lt (gJ.mp (cq hk))
    have tk:rs.reverse.take (j + 1)=rs.reverse.take j ++ [k]:=by rw [cM,hk];rfl
    have m3:TbV P tab (vb T i ++ rs.reverse.take j) now:=m3
    obtain ⟨ws,v,w1,w2,w3,w4,_⟩:=(hP.same (S3.trans s4)).get (show k < P.length by rw [O.lp];exact mk)
    obtain ⟨pr,x,nn,gl,rfl,q1,_,_,q2⟩:=w3
    have gu:=O.gu k mk
    have l6:=m2.len O.uo
    have lg:=w4.lg
    simp only [zN,bc,bd,bi,exists_eq_left',V.int.injEq,V.ref.injEq,bp,bu]
    refine ⟨_,SqL.of w1,_,w2,pr,rfl,_,SqT.of q1,_,rfl,gl,rfl,_,m1,_,q2,zac O.uo m2 gu,by rw [bt];lia,fun l out H5 s5 _ hl T5=>⟨l,out,⟨_,_,trivial,rfl⟩,s4.trans s5,hl,zad m2 gu (O.gw k mk) T5,?_⟩⟩
    show TbV P tab (vb T i ++ rs.reverse.take (j + 1)) out
    rw [tk,← eK]
    exact m3.step T5
   ·rintro σ H4 ⟨nl,now,⟨o5,o6,_,rfl⟩,s4,m1,m2,m3⟩
    have m3:TbV P tab (vb T i ++ rs.reverse.take (rs.reverse.map zN).length) now:=m3
    rw [bn,dk,← ds] at m3
    exact ⟨nl,now,⟨_,_,trivial,rfl⟩,S3.trans s4,m1,m2,m3⟩
 ·rintro σ H1 ⟨nl,now,⟨o5,o6,_,rfl⟩,s1,n1,n2,n3⟩
  simp only [bc,bd,bi,exists_eq_left']
  rw [lm,ll] at n3
  exact q nl now H1 s1 n1 n2 n3
end
theorem zde (ns:List Int) (k m:Nat) (hk:k < ns.length):qI (ns.map V.int) (some (k:Int)) (some ((k + m:Nat):Int))=((ns.drop k).take m).map V.int:=by
 unfold qI
 rw [bn,HT.sIx_nat,HT.sIx_nat,mR,oI,gd (by lia:k≤ns.length)]
 by_cases c:k + m≤ns.length
 ·rw [gd c,Nat.add_sub_cancel_left]
 ·rw [gH (by lia)]
  rw [cC (by simp),cC (by simp;lia)]
def hid (D:Addr) (H:Hp):Hp:=fun b=>if b=D then none else H b
theorem XL {D b:Addr} {H:Hp} (h:b≠D):hid D H b=H b:=if_neg h
theorem Ka {D:Addr} {H:Hp}:Same (hid D H) H:=fun b o e=>by
 by_cases c:b=D
 ·unfold hid at e;rw [if_pos c] at e;cases e
 ·rw [XL c] at e;exact e
def cCo (D:Addr) (us:List Str) (wd:Int) (n m:Nat) (i:Nat) (ys:List V) (H:Hp):Prop:=∃ CC zs,Paired (zgp (hid D H)) ys CC∧(∀ C∈CC,Xe C)∧Paired (fun C u=>∃ f,q9 us wd C 0 u f) CC zs∧zs.sum + (n - i * m)≤n∧CC.length=i
section
variable {a sa sb tl cl pl bl ta:Addr} {wd:Int} {mn:Nat} {ns cs:List Int} {ws us:List Str} {tab:List Row} {CC:List (List Cs)} {zs:List Nat} {U:List Pl} {ls:List Addr}
structure LwP (U:List Pl) (CC:List (List Cs)) (tab:List Row):Prop where
 uo:UOk U
 ti:TabI U tab
 hU:∀ i now,i < CC.length→FedR (CC.getD i []) now (sI CC tab i)→∀ r∈(sI CC tab i).gi,r.1∈U
 id_:∀ j,j < CC.length→Idy CC tab j
 te:TabI U (jJ CC tab CC.length)
structure LwS (K:bD) (CC:List (List Cs)) (tab:List Row) (ns:List Int) (H:Hp) (a tl cl pl bl:Addr):Prop where
 sc:SqL K H a (ns.map V.int)
 hn:ns.length≤63
 co:CosAt H cl CC
 ht:yh H tl tab
 hp:PpsAt H pl (pI CC tab)
 hb:yh H bl (jJ CC tab CC.length)
theorem LwS.same {H':Hp} (S:LwS K CC tab ns H a tl cl pl bl) (s:Same H H'):LwS K CC tab ns H' a tl cl pl bl:=⟨S.sc.mono s,S.hn,S.co.same s,yS S.ht s,S.hp.same s,yS S.hb s⟩
theorem za1 {o6:Option V} {mn:Int} (P:LwP U CC tab) (S:LwS K CC tab ns H a tl cl pl bl) (R:RsAt H ta ls (zr (pI CC tab) (pI CC tab).length)) (q:∀ H',Q (.bl true) H') :
  ZH K t { nx:=fun _ H'=>Q .non H',rt:=Q } [some (.ref a),some (.ref sa),some (.ref sb),some (.int wd),some (.ref tl),some (.int mn),o6,some (.ref cl),some (.ref pl),some (.ref bl),some (.ref ta),none] H:=by
 simp only [ZH,va,Xh,wp,XT,zo,zK,zl,zD,tOp,zc,tC,yO,zb,zi,za5,zn,zgd,bO,bB,bc,bd,bi,exists_eq_left',V.ref.injEq,V.bl.injEq,bq,and_true,and_assoc,exists_and_left,bp,bu,bL,cu,ite_false]
 have I:=ZM (pI CC tab) (pI CC tab).length
 have lT:=I.le
 have le:=S.hp.le
 have lf:=(J9 (pI CC tab) (pI CC tab).length).length_eq
 rw [cR] at lf
 refine ⟨ns,S.sc,S.hn,ls,_,R,by lia,by lia,fun l os H1 s1 hl tu=>?_⟩
 have S1:=S.same s1
 have O:=J3 tu
 refine ⟨_,S1.hp,os,hl,O.pm,fun k hk=>zez O hk,fun H2 s2=>?_⟩
 have S2:=S1.same s2
 rw [XE] at O
 rw [if_pos (by decide)]
 refine ⟨U,CC,S2.co,P.uo,tab,S2.ht,P.ti,os,s2 _ _ hl,O.pm,JT CC tab os,(by unfold JT;exact fun p=>rfl),_,zeB P.id_ P.hU O,fun v out H3 s3 hJ T=>⟨by decide,fun p hp=>?_⟩⟩
 rw [zc1 O.pm] at T
 have S3:=S2.same s3
 have s4:=isV (o:=HO.tup [V.ref pl,V.ref bl]) p hp
 have e4:upd H3 p (HO.tup [V.ref pl,V.ref bl]) p=some (.tup [V.ref pl,V.ref bl]):=ze
 generalize upd H3 p (HO.tup [V.ref pl,V.ref bl])=H4 at *
 have S4:=S3.same s4
 obtain ⟨⟨r,pl2,tl2,rfl,t1,t2,t3⟩,t4⟩:=T
 unfold JT at hJ
 rw [dk] at hJ
 have eo:out=jJ CC tab CC.length:=zc2 P.id_ O.lv.keep (fun j hj=>O.pm.mem_iff.mpr (cI.mpr hj)) hJ t4 P.te
 subst eo
 obtain ⟨a1,a2,a3⟩:=(t2.same s4).dat (K:=K)
 obtain ⟨b1,b2,b3⟩:=YC (K:=K) P.uo P.te (yS t3 s4)
 have c1:=(S4.hp.dat (K:=K)).1
 have c2:=(YC (K:=K) P.uo P.te S4.hb).1
 have b4:=Yy (jJ CC tab CC.length)
 have pl_:zM (.tuple [psD (pI CC tab),.list ((jJ CC tab CC.length).map qE)])=true:=by
  simp only [zM,z6,bV,and_true] at b2 ⊢
  exact ⟨a2,b2⟩
 have dp:(PyData.tuple [psD (pI CC tab),.list ((jJ CC tab CC.length).map qE)]).depth≤64:=by
  simp only [dF,cj] at b4 ⊢
  lia
 refine ⟨_,.tup (SqT.of (s4 _ _ t1)) (.cons a1 (.cons b1 .nil)),_,.tup (SqT.of e4) (.cons c1 (.cons c2 .nil)),pl_,pl_,dp,dp,fun c hc=>?_⟩
 rw [hc.mpr rfl]
 exact q _
theorem zdf {mn:Int} {o6:Option V} (kf:KF K) (P:LwP U CC tab) (S:LwS K CC tab ns H a tl cl pl bl) (q:∀ H',Q (.bl true) H') :
  Xm K t { nx:=fun _ H'=>Q .non H',rt:=Q } [some (.ref a),some (.ref sa),some (.ref sb),some (.int wd),some (.ref tl),some (.int mn),o6,some (.ref cl),some (.ref pl),some (.ref bl),none,none] H:=by
 simp only [Xm,JC,WD,v6,Xg,vM,xS,ww,XT,zo,zK,zl,zD,zI,tOp,zc,tC,zb,zi,zS,tOr,jO,zC,tB,tCB,zn,je,yG,bB,bc,bd,bi,exists_eq_left',V.int.injEq,V.ref.injEq,V.bl.injEq,bq,and_true,and_assoc,exists_and_left,bp,bu,cB,if_true]
 refine ⟨_,S.hp,fun ta ls H1 s1 _ _ R=>?_⟩
 have S1:=S.same s1
 obtain ⟨⟨xs,hx,px⟩,_,le⟩:=id S1.co
 have lx:=bH px
 have lp:(pI CC tab).length=CC.length:=XE
 have lpp:=S.hp.le
 refine ⟨CC.length,.inl ⟨_,SqL.of hx,lx.symm⟩,ls,pI CC tab,by rw [lp],lpp,R,fun H2 s2=>?_⟩
 rw [if_neg (by decide)]
 have S2:=S1.same s2
 refine ⟨_,S2.hp,fun c H3 s3 _ hc=>⟨ls,_,lpp,R.same (s2.trans s3),hc,fun H4 s4=>?_⟩⟩
 rw [if_neg (by decide)]
 have S4:=S2.same (s3.trans s4)
 have R4:=R.same (s2.trans (s3.trans s4))
 have O:=zfY P.id_ P.uo P.ti P.hU
 rw [← lp] at O
 refine ⟨ls,U,CC,S4.co,pI CC tab,S4.hp,tab,S4.ht,_,R4,O,fun l out H5 s5 hl t1 t2=>?_⟩
 have S5:=S4.same s5
 have eo:out=jJ CC tab CC.length:=zc2 P.id_ (J1 _).keep (fun j hj=>by
  rw [lp,J2 hj]
  exact (ZM (pI CC tab) CC.length).lt j hj) t2 t1 P.te
 subst eo
 obtain ⟨b1,b2,b3⟩:=YC (K:=K) P.uo P.te hl
 have c2:=(YC (K:=K) P.uo P.te S5.hb).1
 refine ⟨_,b1,_,c2,b2,b2,b3,b3,fun c hc=>?_⟩
 rw [hc.mpr rfl,if_neg (by decide)]
 exact za1 P S5 (R4.same s5) q
theorem zdg {mn:Int} {o6:Option V} (kf:KF K) (sc:SqL K H a (ns.map V.int)) (hn:ns.length≤63) (hu:us.length=2) (nu:∀ w∈us,yP w=true) (w1:2≤wd) (w2:wd≤12) (ht:yh H tl tab) (ti:zcu us wd tab) (co:CosAt H cl CC) (cw:zgq us wd CC zs) (q:∀ H',Q (.bl true) H') :
  Xn K t { nx:=fun _ H'=>Q .non H',rt:=Q } [some (.ref a),some (.ref sa),some (.ref sb),some (.int wd),some (.ref tl),some (.int mn),o6,some (.ref cl),none,none,none,none] H:=by
 simp only [Xn,wp,Jt,zo,zK,zl,WV,vX,WU,zc,zb,zi,tCB,zn,je,yG,bB,bc,bd,bi,exists_eq_left',V.int.injEq,V.ref.injEq,bq,and_true,and_assoc,exists_and_left,bp,bu]
 obtain ⟨U,uo,tu,hU⟩:=zgN hu nu w1 w2 cw ti (sI CC tab)
 obtain ⟨⟨xs,hx,px⟩,_,le⟩:=id co
 have lx:=bH px
 refine ⟨CC.length,.inl ⟨_,SqL.of hx,lx.symm⟩,CC.length,rfl,by lia,fun l hl=>?_⟩
 have el:((bN CC.length).map fun i=>V.int (i:Nat))=(bN CC.length).map zN:=rfl
 rw [el]
 have s1:=isV (o:=HO.lst ((bN CC.length).map zN)) l hl
 have e1:upd H l (HO.lst ((bN CC.length).map zN)) l=some (.lst ((bN CC.length).map zN)):=ze
 generalize upd H l (HO.lst ((bN CC.length).map zN))=H1 at *
 refine ⟨U,CC,co.same s1,uo,tab,yS ht s1,tu,_,e1,l5 _,JI CC tab,⟨rfl,fun j hj=>absurd hj (eR _)⟩,_,zew hU,fun v out H2 s2 hJ T=>?_⟩
 rw [zfZ] at T
 rw [cR] at hJ
 obtain ⟨rfl,ij⟩:=hJ
 obtain ⟨⟨r,pl,bl,rfl,t1,t2,t3⟩,t4⟩:=T
 refine ⟨r,rfl,_,SqT.of t1,rfl,_,_,rfl,_,_,rfl,rfl,?_⟩
 have S2:=s1.trans s2
 exact zdf kf ⟨uo,tu,hU,ij,t4⟩ ⟨sc.mono S2,hn,co.same S2,yS ht S2,t2,t3⟩ q
theorem zdh {mn:Int} (kf:KF K) (sc:SqL K H a (ns.map V.int)) (hn:ns.length≤63) (hw:NamesAt H sa ws) (lw:ws.length=3) (hu:NamesAt H sb us) (lu:us.length=2) (w1:2≤wd) (w2:wd≤12) (ht:yh H tl tab) (ti:zcu us wd tab) (m1:2≤mn) (m2:mn≤8) (q:∀ H',Q (.bl true) H') :
  Xo K t { nx:=fun _ H'=>Q .non H',rt:=Q } [some (.ref a),some (.ref sa),some (.ref sb),some (.int wd),some (.ref tl),some (.int mn),none,none,none,none,none,none] H:=by
 simp only [Xo,jx,zb4,zo,zK,zl,tOp,zc,tC,zb,zi,tCB,tSl,xw,yu,zn,xk,YN,qO,je,rI0,Zn,yG,b9,bE,bI,bQ,bB,bc,bd,bi,exists_eq_left',V.int.injEq,V.ref.injEq,bq,and_true,and_assoc,exists_and_left,bp,bu,if_true]
 refine ⟨_,sc,fun cl hcl=>?_⟩
 obtain ⟨cs,ec,lc⟩:=zel ns none (some 120)
 rw [ec] at *
 have s0:=isV (o:=HO.lst (cs.map V.int)) cl hcl
 have hc:upd H cl (HO.lst (cs.map V.int)) cl=some (.lst (cs.map V.int)):=ze
 generalize upd H cl (HO.lst (cs.map V.int))=H0 at *
 have lm:(cs.map V.int).length=cs.length:=bn ..
 have lim:=zfN (j:=(cs.length:Int)) (c:=mn) (by lia) (by lia)
 obtain ⟨m,em⟩:∃ m:Nat,mn=m:=⟨mn.toNat,by lia⟩
 refine ⟨cs.length,.inl ⟨_,SqL.of hc,by rw [lm]⟩,by lia,by lia,by lia,by lia,by lia,by lia,fun D hD=>?_⟩
 refine zaT (J:=zfv 0 mn (Zv 0 cs.length mn)) (Zv 0 cs.length mn) (by lia) (fun τ=>∃ o,τ=[o,some (.ref cl),some (.int mn),some (.ref sa),some (.ref sb),some (.int wd)]) (cCo D us wd cs.length m) (fun i ys H H' s ⟨CC,zs,h1,h2⟩=>⟨CC,zs,Paired.mapP h1 fun _ _ ⟨a,ys,e,h5,h6⟩=>?_,h2⟩) ⟨_,rfl⟩ ⟨[],[],.nil,(fun C h=>nomatch h),.nil,by rw [Nat.zero_mul];simp,rfl⟩ (fun i H _ h=>h) (fun H _=>bj _) hD ?_ ?_
 ·have s':Same (hid D H) (hid D H'):=fun b o e=>by
   have n:b≠D:=fun z=>by rw [z] at e;unfold hid at e;rw [if_pos rfl] at e;cases e
   rw [XL n] at e ⊢
   exact s b o n e
  exact ⟨a,ys,e,s' _ _ h5,y9 s' h6⟩
 ·rintro i v τ ys H4 H5 ⟨o,rfl⟩ s4 hi ⟨CC,zs,hR,ok,wt,sm,li⟩ hy ⟨rfl,rfl⟩
  simp only [bc,bd,bi,exists_eq_left',V.int.injEq,V.ref.injEq,bq,and_true,bp]
  have lt:=zfQ (by lia) (by lia) hi
  have ek:0 + (i:Int) * mn=((i * m:Nat):Int):=by rw [em,gm];exact (Int.natCast_mul i m).symm
  have e2:0 + (i:Int) * mn + mn=((i * m + m:Nat):Int):=by rw [ek,em];lia
  rw [gm] at ek
  have lk:i * m < cs.length:=by lia
  rw [e2,gm,ek]
  refine ⟨_,SqL.of (s4 _ _ hc),fun p hp=>?_⟩
  rw [zde cs _ _ lk]
  have sm2:(i + 1) * m=i * m + m:=Nat.succ_mul ..
  generalize i * m=k at *
  have le:((cs.drop k).take m).length=min m (cs.length - k):=by rw [c8,et]
  generalize (cs.drop k).take m=es at *
  have s5:=isV (o:=HO.lst (es.map V.int)) p hp
  have S:=s0.trans (s4.trans s5)
  refine ⟨es,ze,by lia,ws,hw.same S,lw,us,hu.same S,lu,w1,w2,fun l1 x1 C f H6 s6 fl hl1 pc cc wf=>⟨⟨_,rfl⟩,⟨CC ++ [C],zs ++ [es.length],Paired.snocP (Paired.mapP hR fun _ _ ⟨a,ys,e,h5,h6⟩=>?_) ?_,fun C' hC=>?_,Paired.snocP wt ⟨f,wf⟩,?_,by rw [bt,li];rfl⟩,s5.trans s6⟩⟩
  ·have s':Same (hid D H5) (hid D H6):=fun b o e=>by
    have n:b≠D:=fun z=>by rw [z] at e;unfold hid at e;rw [if_pos rfl] at e;cases e
    rw [XL n] at e ⊢
    exact (s5.trans s6) _ _ e
   exact ⟨a,ys,e,s' _ _ h5,y9 s' h6⟩
  ·have hD5:=s5 _ _ hy
   have nl:l1≠D:=fun z=>by rw [z,hD5] at fl;cases fl
   have hD6:=s6 _ _ hD5
   exact ⟨l1,x1,rfl,by rw [XL nl];exact hl1,vV (fun b zs e=>by rw [XL (fun z=>by rw [z,hD6] at e;cases e)];exact e) pc⟩
  ·rcases bP.mp hC with h | h
   ·exact ok C' h
   ·rw [b5.mp h];exact cc
  ·rw [List.sum_append,sm2,List.sum_singleton];lia
 ·rintro ys H4 hly ⟨CC,zs,hR,ok,wt,sm,li⟩ s4 hq
  have S:=s0.trans s4
  exact zdg kf (sc.mono S) hn lu hu.2 w1 w2 (yS ht S) ti ⟨⟨ys,hq,Paired.mapP hR fun _ _ ⟨a,ys,e,h5,h6⟩=>⟨a,ys,e,Ka _ _ h5,y9 Ka h6⟩⟩,ok,by lia⟩ ⟨wt,by lia⟩ q
theorem zeI (kf:KF K) (hS:SqL K H a (ns.map V.int)) (hn:ns.length≤63) (q:∀ H',Q (.bl true) H') :
  K4 K t { nx:=fun _ H'=>Q .non H',rt:=Q } (L2.start ["script","slots","shelves","wide","table","many","cells","codes","papers","behind","told","order"] [.ref a]) H:=by
 simp only [K4,z0,xm,wu,zm,vL,L2.start,zo,zK,zl,tOp,zc,tC,zb,zi,zn,rI,rI0,b9,bE,bO,bI,bQ,bB,bc,bd,bi,exists_eq_left',V.int.injEq,V.ref.injEq,bq,and_true,and_assoc,exists_and_left,bp,bu,bT,bL]
 refine ⟨ns,0,rfl,hS,hn,fun c1 H1 s1=>⟨by decide,by decide,fun sa ws H2 s2 n1 n2=>⟨ns,1,rfl,hS.mono (s1.trans s2),hn,fun c2 H3 s3=>fun sb us H4 s4 n3 n4=>?_⟩⟩⟩
 have S4:=s1.trans (s2.trans (s3.trans s4))
 refine ⟨ns,1,rfl,hS.mono S4,hn,fun c3 H5 s5=>⟨by decide,by decide,fun r1 H6 _ _ s6=>⟨by decide,?_⟩⟩⟩
 have g1:=cQ r1 (b:=11) (by decide)
 have g2:=cF r1 (b:=11) (by decide)
 have S6:=S4.trans (s5.trans s6)
 refine ⟨ns,2,rfl,hS.mono S6,hn,fun c4 H7 s7=>⟨us,n3.same (s5.trans (s6.trans s7)),n4,by lia,by lia,fun tl tab H8 s8 ft lt ti=>?_⟩⟩
 have S8:=S6.trans (s7.trans s8)
 refine ⟨ns,0,rfl,hS.mono S8,hn,fun c5 H9 s9=>⟨by decide,by decide,fun r2 HA _ _ sA=>⟨by decide,?_⟩⟩⟩
 have g3:=cQ r2 (b:=7) (by decide)
 have g4:=cF r2 (b:=7) (by decide)
 have T:=s9.trans sA
 have T2:=s5.trans (s6.trans (s7.trans (s8.trans T)))
 exact zdh kf (hS.mono (S8.trans T)) hn (n1.same (s3.trans (s4.trans T2))) (by lia) (n3.same T2) n4 (by lia) (by lia) (yS lt T) ti (by lia) (by lia) q
end
section
variable {x:Addr} {a:RAd} {C:List Cs} {s:RSt} {E:XK} {σ:St}
theorem kE {k:Int} {p te:Addr} {xs e:List V} (R:RnAt t H x a C s) (so:yv s.sl) (h0:σ[0]?=some (some (.ref x))) (h1:σ[1]?=some (some (.ref p))) (e2:H p=some (.tup xs)) (ek:atI xs k=some (.ref te)) (e3:H te=some (.tup e)) (ok:TermOk e) (q:∀ H1,Same H H1→fin t (rk s.sl e) Q E H1) :
  yQ t.c_Run "worth_of" (z8 t) [] E (zc 0) (zb (tOp (yx K) (zc 1) (tC (.int k))) zi) σ H Q :=
 ⟨_,h0,x,_,_,rfl,R.ix,rfl,Y8 h1 e2 ek ⟨x,te,e,a,C,s,rfl,R,so,e3,ok,q⟩⟩
theorem Kb {p te:Addr} {xs e:List V} {sh:Str} (R:RnAt t H x a C s) (so:yv s.sl) (h0:σ[0]?=some (some (.ref x))) (h1:σ[1]?=some (some (.ref p))) (e2:H p=some (.tup xs)) (i1:atI xs 1=some (.str sh)) (i2:atI xs 2=some (.ref te)) (e3:H te=some (.tup e)) (ok:TermOk e) (q1:∀ i q H',rk s.sl e=.ok i→Same H H'→H' q=some (.tup [.str sh,.int i])→Q (.ref q) H') (q2:∀ er H',rk s.sl e=.error er→Same H H'→Jy t er E H') :
  yQ t.c_Run "place_in" (yM t) [] E (zc 0) (zb (zc 1) zi) σ H Q :=
 ⟨_,h0,x,_,_,rfl,R.ix,rfl,_,h1,x,p,xs,sh,te,e,a,C,s,rfl,R,so,e2,i1,i2,e3,ok,q1,q2⟩
theorem VI {v:V} {r:Rw} {w:Int} {m:Nat} (F:RnF K t) (R:RnAt t H x a C s) (h1:RwAt XV H v r) (h2:ke r) (h3:jR r) (h4:RnOk m s) (h5:m≤900)
  (q1:∀ H' s',doR r w s=.ok s'→Kp x a H H'→RnAt t H' x a C s'→Q .non H') (q2:∀ H' er,doR r w s=.error er→Same H H'→Jy t er E H') :
  Z5 K t E { nx:=fun _ H'=>Q .non H',rt:=Q } (L2.start ["self","due","worth","place"] [.ref x,v,.int w]) H:=by
 have l1:=h4.l1
 have l2:=h4.l2
 have l4:=h4.l4
 have so:=h4.so
 cases r with
 | take sh e sl' =>
  unfold RwAt at h1
  unfold jR at h3
  obtain ⟨r,te,rfl,_,_,e2,e3⟩:=h1
  refine jo rfl e2 rfl (fun _=>?_) fun z=>absurd rfl z
  refine ⟨_,rfl,x,_,_,rfl,R.ix,rfl,Kb R so rfl rfl e2 rfl rfl e3 h3 (fun i q H1 hk s1 hq=>?_) fun er H1 hk s1=>q2 H1 er (by unfold doR;simp only [hk]) s1⟩
  have R1:=R.same s1
  refine ⟨_,rfl,x,q,(sh,i),w,a,C,s,rfl,R1,hq,by have:=h4.l3;lia,fun H2 K2 R2=>?_⟩
  have hs2:=R2.hs
  rw [zcA] at hs2
  exact j5 rfl R2.ix F.cl F.n4 rfl (Y8 rfl (K2 _ _ (R1.notup (s1 _ _ e2)) (s1 _ _ e2)) rfl ⟨_,_,rfl,DPut.k (k:=.inr sl') hs2 (b0 (by lia:_≤900) (by decide)),q1 _ _ (by unfold doR;simp only [hk]) ((Kp.of_same s1).trans (K2.trans (xU (.inr (.inl rfl))))) (R2.putS _)⟩)
 | give sh e f =>
  unfold RwAt at h1
  unfold jR at h3
  obtain ⟨r,te,tf,rfl,_,_,_,e2,e3,e4⟩:=h1
  refine jo rfl e2 rfl (fun z=>absurd z (by decide +kernel)) fun _=>jo rfl e2 rfl (fun _=>?_) fun z=>absurd rfl z
  refine Kb R so rfl rfl e2 rfl rfl e3 h3.1 (fun i q H1 hk s1 hq=>?_) fun er H1 hk s1=>q2 H1 er (by unfold doR;simp only [hk]) s1
  have R1:=R.same s1
  refine kE R1 so rfl rfl (s1 _ _ e2) rfl (s1 _ _ e4) h3.2 fun H3 s3=>?_
  cases hk2:rk s.sl f with
  | error er=>exact fin_err.mpr (q2 H3 er (by unfold doR;simp only [hk,hk2]) (s1.trans s3))
  | ok n =>
   have R3:=R1.same s3
   have ld:=x0 s.gi
   refine fin_ok.mpr (j5 rfl R3.ix F.cl F.n5 rfl ⟨_,rfl,_,_,rfl,DPut.t (k:=zL (sh,i)) R3.hg (s3 _ _ hq) (b0 (by lia:_≤900) (by decide)),?_⟩)
   rw [show yD (dOf s.gi) (zL (sh,i)) (V.int n)=dOf (s.gi ++ [((sh,i),n)]) from (v5 s.gi ((sh,i),n)).symm]
   exact q1 _ _ (by unfold doR;simp only [hk,hk2]) ((Kp.of_same (s1.trans s3)).trans (xU (.inr (.inr (.inl rfl))))) (R3.putG _)
 | lt sl' e =>
  unfold RwAt at h1
  unfold jR at h3
  obtain ⟨r,te,rfl,_,_,e2,e3⟩:=h1
  refine jo rfl e2 rfl (fun z=>absurd z (by decide +kernel)) fun _=>jo rfl e2 rfl (fun z=>absurd z (by decide +kernel)) fun _=>jo rfl e2 rfl (fun _=>?_) fun z=>absurd rfl z
  refine kE R so rfl rfl e2 rfl e3 h3 fun H1 s1=>?_
  cases hk:rk s.sl e with
  | error er=>exact fin_err.mpr (q2 H1 er (by unfold doR;simp only [hk]) s1)
  | ok n =>
   have R2:=R.same s1
   exact fin_ok.mpr (j5 rfl R2.ix F.cl F.n4 rfl (Y8 rfl (s1 _ _ e2) rfl ⟨_,_,rfl,DPut.k (k:=.inr sl') R2.hs (b0 (by lia:_≤900) (by decide)),q1 _ _ (by unfold doR;simp only [hk]) ((Kp.of_same s1).trans (xU (.inr (.inl rfl)))) (R2.putS _)⟩))
 | say e =>
  unfold RwAt at h1
  unfold jR at h3
  obtain ⟨r,te,rfl,_,_,e2,e3⟩:=h1
  refine jo rfl e2 rfl (fun z=>absurd z (by decide +kernel)) fun _=>jo rfl e2 rfl (fun z=>absurd z (by decide +kernel)) fun _=>jo rfl e2 rfl (fun z=>absurd z (by decide +kernel)) fun _=>?_
  unfold kS xb tBM
  refine j5 rfl R.ix F.cl F.n7 rfl ⟨.inl ⟨rfl,_,SqL.of R.ha⟩,?_⟩
  refine kE R so rfl rfl e2 rfl e3 h3 fun H1 s1=>?_
  cases hk:rk s.sl e with
  | error er=>exact fin_err.mpr (q2 H1 er (by unfold doR;simp only [hk]) s1)
  | ok n =>
   have R1:=R.same s1
   refine fin_ok.mpr ⟨_,_,_,rfl,rfl,R1.ha,b0 (by rw [bn];lia:_≤900) (by decide),?_⟩
   rw [show b9 V.int s.sa ++ [V.int n]=b9 V.int (s.sa ++ [n]) by simp]
   exact q1 _ _ (by unfold doR;simp only [hk]) ((Kp.of_same s1).trans (xU (.inr (.inr (.inr (.inr rfl)))))) (R1.putA _)
 | off e=>exact h2.elim
 | iff e b d=>exact h2.elim
theorem XM {v:V} {c:Cs} {w:Int} {m:Nat} (F:RnF K t) (R:RnAt t H x a C s) (h1:CsAt H v c) (h2:Yf c) (h3:RnOk m s) (h4:m≤900)
  (q1:∀ H' s' k,yk c w s=.ok (k,s')→Kp x a H H'→RnAt t H' x a C s'→Q (.int (k:Nat)) H') (q2:∀ H' er,yk c w s=.error er→Same H H'→Jy t er E H') :
  kT K t E { nx:=fun _ H'=>Q .non H',rt:=Q } (L2.start ["self","due","worth"] [.ref x,v,.int w]) H:=by
 have so:=h3.so
 have nx:∀ {v' H1 s1},RnAt t H1 x a C s1→(∀ k:Nat,k=s1.n + 1→Q (.int (k:Nat)) H1)→zD (tOp (rI0 fun i j=>.int (i + j)) (yT K (zc 0) "at") (tC (.int 1))) { nx:=fun _ H'=>Q .non H',rt:=Q } (L2.start ["self","due","worth"] [.ref x,v',.int w]) H1:=fun R1 q=>by
  unfold zD tOp
  exact j5 rfl R1.ix F.cl F.n2 rfl ⟨_,_,rfl,rfl,q _ rfl⟩
 cases c with
 | go en =>
  obtain ⟨p,rfl,e2⟩:=h1
  refine jo rfl e2 rfl (fun _=>?_) fun z=>absurd rfl z
  exact Y8 rfl e2 rfl (q1 H s en rfl (.of_same fun _ _ z=>z) R)
 | skip e to =>
  obtain ⟨p,te,rfl,e2,e3⟩:=h1
  refine jo rfl e2 rfl (fun z=>absurd z (by decide +kernel)) fun _=>jo rfl e2 rfl (fun _=>?_) fun z=>absurd rfl z
  refine kE R so rfl rfl e2 rfl e3 h2 fun H1 s1=>?_
  cases hk:rk s.sl e with
  | error er=>exact fin_err.mpr (q2 H1 er (by unfold yk;simp only [hk]) s1)
  | ok n =>
   have R2:=R.same s1
   refine fin_ok.mpr ⟨rfl,_,rfl,zgm (fun hn=>?_) fun hn=>?_⟩
   ·exact Y8 rfl (s1 _ _ e2) rfl (q1 H1 s to (by unfold yk;simp only [hk,if_pos hn]) (.of_same s1) R2)
   ·exact nx R2 fun k hk'=>q1 H1 s k (by unfold yk;simp only [hk,if_neg hn,hk']) (.of_same s1) R2
 | row r =>
  obtain ⟨h1,hni⟩:=h1
  rcases zeb r hni with ⟨e,rfl⟩ | hdo
  ·unfold RwAt at h1
   unfold Yf jR at h2
   obtain ⟨r,te,rfl,_,_,e2,e3⟩:=h1
   refine jo rfl e2 rfl (fun z=>absurd z (by decide +kernel)) fun _=>jo rfl e2 rfl (fun z=>absurd z (by decide +kernel)) fun _=>jo rfl e2 rfl (fun _=>?_) fun z=>absurd rfl z
   refine kE R so rfl rfl e2 rfl e3 h2 fun H1 s1=>?_
   cases hk:rk s.sl e with
   | error er=>exact fin_err.mpr (q2 H1 er (by unfold yk;simp only [hk]) s1)
   | ok n =>
    have R2:=R.same s1
    refine fin_ok.mpr ⟨rfl,_,rfl,zgl (fun hn=>?_) fun hn=>?_⟩
    ·have R3:=R2.putI { s with why:=some (bf "told") } rfl rfl rfl rfl
     refine ⟨_,rfl,_,_,_,_,rfl,R2.ix,F.cl,F.n3,(by show (7:Nat) < 1000;decide),?_⟩
     exact nx R3 fun k hk'=>q1 _ { s with why:=some (bf "told") } k (by unfold yk;simp only [hk,if_neg hn,hk']) ((Kp.of_same s1).trans (xU (.inl rfl))) R3
    ·exact nx R2 fun k hk'=>q1 H1 s k (by unfold yk;simp only [hk,if_pos hn,hk']) (.of_same s1) R2
  ·obtain ⟨p,zs,hd,rfl,e2,e3,n1,n2,n3⟩:=zec h1 hdo
   have el:=JG (w:=w) (s:=s) hdo
   refine jo rfl e2 e3 (fun z=>absurd z n1) fun _=>jo rfl e2 e3 (fun z=>absurd z n2) fun _=>jo rfl e2 e3 (fun z=>absurd z n3) fun _=>?_
   refine ⟨_,rfl,x,_,_,rfl,R.ix,rfl,_,rfl,_,rfl,x,_,r,w,m,a,C,s,rfl,R,h1,hdo,h2,h3,h4,fun H1 s' e K1 R1=>?_,fun H1 er e s1=>q2 H1 er (by rw [el,e]) s1⟩
   have en:=zgr hdo e
   exact nx R1 fun k hk'=>q1 H1 s' k (by rw [el,e,hk',en]) K1 R1
end
section
variable {x:Addr} {a:RAd} {C:List Cs} {s:RSt} {E:XK}
theorem VJ {l dx:Addr} {xs:List V} (F:RnF K t) (h1:H x=some (.ins t.c_Run dx [])) (h2:H l=some (.lst xs)) (h3:Paired (CsAt H) xs C)
  (q:∀ H' a,ZY x H H'→RnAt t H' x a C st0→(∀ b,OwA x a b→b=x∨H b=none)→Q .non H') :
  Z3 K t { nx:=fun _ H'=>Q .non H',rt:=Q } (L2.start ["self","code"] [.ref x,.ref l]) H:=by
 refine ⟨_,rfl,l,xs,rfl,.inl (SqL.of h2),fun co hco=>?_⟩
 have nco:x≠co:=zP h1 hco
 refine ⟨_,rfl,x,_,_,_,rfl,(by rw [zk nco];exact h1),F.cl,F.n1,by decide,_,rfl,x,_,_,_,rfl,ze,F.cl,F.n2,(by show (1:Nat) < 1000;decide),_,rfl,x,_,_,_,rfl,ze,F.cl,F.n3,(by show (2:Nat) < 1000;decide),?_⟩
 have A1:ZY x H (upd (upd (upd (upd H co (HO.lst xs)) x (.ins t.c_Run dx (yi (bf "code") (V.ref co) []))) x (.ins t.c_Run dx (yi (bf "at") (V.int 0) (yi (bf "code") (V.ref co) [])))) x (.ins t.c_Run dx (yi (bf "why") V.non (yi (bf "at") (V.int 0) (yi (bf "code") (V.ref co) []))))):=fun b o n e=>by
  rw [zk n,zk n,zk n,zk (fun z=>by rw [z,hco] at e;cases e)];exact e
 have A2:(upd (upd (upd (upd H co (HO.lst xs)) x (.ins t.c_Run dx (yi (bf "code") (V.ref co) []))) x (.ins t.c_Run dx (yi (bf "at") (V.int 0) (yi (bf "code") (V.ref co) [])))) x (.ins t.c_Run dx (yi (bf "why") V.non (yi (bf "at") (V.int 0) (yi (bf "code") (V.ref co) []))))) x=some (.ins t.c_Run dx [(bf "code",V.ref co),(bf "at",V.int 0),(bf "why",V.non)]):=ze
 have A3:(upd (upd (upd (upd H co (HO.lst xs)) x (.ins t.c_Run dx (yi (bf "code") (V.ref co) []))) x (.ins t.c_Run dx (yi (bf "at") (V.int 0) (yi (bf "code") (V.ref co) [])))) x (.ins t.c_Run dx (yi (bf "why") V.non (yi (bf "at") (V.int 0) (yi (bf "code") (V.ref co) []))))) co=some (.lst xs):=by
  rw [zk (cP nco),zk (cP nco),zk (cP nco),ze]
 generalize (upd (upd (upd (upd H co (HO.lst xs)) x (.ins t.c_Run dx (yi (bf "code") (V.ref co) []))) x (.ins t.c_Run dx (yi (bf "at") (V.int 0) (yi (bf "code") (V.ref co) [])))) x (.ins t.c_Run dx (yi (bf "why") V.non (yi (bf "at") (V.int 0) (yi (bf "code") (V.ref co) [])))))=HA at *
 refine fun sl hsl=>?_
 obtain ⟨nsl,fsl,B1,B4,B5⟩:=ini (o:=HO.dK []) (i':=HO.ins t.c_Run dx (yi (bf "slots") (V.ref sl) [(bf "code",V.ref co),(bf "at",V.int 0),(bf "why",V.non)])) A1 A2 hsl
 refine ⟨_,rfl,x,_,_,_,rfl,(by rw [zk nsl];exact A2),F.cl,F.n4,(by show (3:Nat) < 1000;decide),?_⟩
 have B2:(upd (upd HA sl (HO.dK [])) x (.ins t.c_Run dx (yi (bf "slots") (V.ref sl) [(bf "code",V.ref co),(bf "at",V.int 0),(bf "why",V.non)]))) x=some (.ins t.c_Run dx [(bf "code",V.ref co),(bf "at",V.int 0),(bf "why",V.non),(bf "slots",V.ref sl)]):=ze
 have B_co:=B5 _ _ (cP nco) A3
 generalize (upd (upd HA sl (HO.dK [])) x (.ins t.c_Run dx (yi (bf "slots") (V.ref sl) [(bf "code",V.ref co),(bf "at",V.int 0),(bf "why",V.non)])))=HB at *
 refine fun gi hgi=>?_
 obtain ⟨ngi,fgi,C1,C4,C5⟩:=ini (o:=HO.dT []) (i':=HO.ins t.c_Run dx (yi (bf "gifts") (V.ref gi) [(bf "code",V.ref co),(bf "at",V.int 0),(bf "why",V.non),(bf "slots",V.ref sl)])) B1 B2 hgi
 refine ⟨_,rfl,x,_,_,_,rfl,(by rw [zk ngi];exact B2),F.cl,F.n5,(by show (4:Nat) < 1000;decide),?_⟩
 have C2:(upd (upd HB gi (HO.dT [])) x (.ins t.c_Run dx (yi (bf "gifts") (V.ref gi) [(bf "code",V.ref co),(bf "at",V.int 0),(bf "why",V.non),(bf "slots",V.ref sl)]))) x=some (.ins t.c_Run dx [(bf "code",V.ref co),(bf "at",V.int 0),(bf "why",V.non),(bf "slots",V.ref sl),(bf "gifts",V.ref gi)]):=ze
 have C_co:=C5 _ _ (cP nco) B_co
 have C_sl:=C5 _ _ (cP nsl) B4
 generalize (upd (upd HB gi (HO.dT [])) x (.ins t.c_Run dx (yi (bf "gifts") (V.ref gi) [(bf "code",V.ref co),(bf "at",V.int 0),(bf "why",V.non),(bf "slots",V.ref sl)])))=HC at *
 refine fun no hno=>?_
 obtain ⟨nno,fno,D1,D4,D5⟩:=ini (o:=HO.dT []) (i':=HO.ins t.c_Run dx (yi (bf "notes") (V.ref no) [(bf "code",V.ref co),(bf "at",V.int 0),(bf "why",V.non),(bf "slots",V.ref sl),(bf "gifts",V.ref gi)])) C1 C2 hno
 refine ⟨_,rfl,x,_,_,_,rfl,(by rw [zk nno];exact C2),F.cl,F.n6,(by show (5:Nat) < 1000;decide),bY _,?_⟩
 have D2:(upd (upd HC no (HO.dT [])) x (.ins t.c_Run dx (yi (bf "notes") (V.ref no) [(bf "code",V.ref co),(bf "at",V.int 0),(bf "why",V.non),(bf "slots",V.ref sl),(bf "gifts",V.ref gi)]))) x=some (.ins t.c_Run dx [(bf "code",V.ref co),(bf "at",V.int 0),(bf "why",V.non),(bf "slots",V.ref sl),(bf "gifts",V.ref gi),(bf "notes",V.ref no)]):=ze
 have D_co:=D5 _ _ (cP nco) C_co
 have D_sl:=D5 _ _ (cP nsl) C_sl
 have D_gi:=D5 _ _ (cP ngi) C4
 have ngn:gi≠no:=fun z=>by rw [← z,C4] at hno;cases hno
 generalize (upd (upd HC no (HO.dT [])) x (.ins t.c_Run dx (yi (bf "notes") (V.ref no) [(bf "code",V.ref co),(bf "at",V.int 0),(bf "why",V.non),(bf "slots",V.ref sl),(bf "gifts",V.ref gi)])))=HD at *
 refine fun sa hsa=>?_
 obtain ⟨nsa,fsa,E1,E4,E5⟩:=ini (o:=HO.lst []) (i':=HO.ins t.c_Run dx (yi (bf "sayings") (V.ref sa) [(bf "code",V.ref co),(bf "at",V.int 0),(bf "why",V.non),(bf "slots",V.ref sl),(bf "gifts",V.ref gi),(bf "notes",V.ref no)])) D1 D2 hsa
 refine ⟨_,rfl,x,_,_,_,rfl,(by rw [zk nsa];exact D2),F.cl,F.n7,(by show (6:Nat) < 1000;decide),?_⟩
 have E2:(upd (upd HD sa (HO.lst [])) x (.ins t.c_Run dx (yi (bf "sayings") (V.ref sa) [(bf "code",V.ref co),(bf "at",V.int 0),(bf "why",V.non),(bf "slots",V.ref sl),(bf "gifts",V.ref gi),(bf "notes",V.ref no)]))) x=some (.ins t.c_Run dx [(bf "code",V.ref co),(bf "at",V.int 0),(bf "why",V.non),(bf "slots",V.ref sl),(bf "gifts",V.ref gi),(bf "notes",V.ref no),(bf "sayings",V.ref sa)]):=ze
 have E_co:=E5 _ _ (cP nco) D_co
 have E_sl:=E5 _ _ (cP nsl) D_sl
 have E_gi:=E5 _ _ (cP ngi) D_gi
 have E_no:=E5 _ _ (cP nno) D4
 have ncs:co≠sa:=fun z=>by rw [← z,D_co] at hsa;cases hsa
 refine q _ ⟨dx,co,sl,gi,no,sa⟩ E1 ⟨E2,⟨xs,E_co,vV (fun b ys e=>E1 b _ (fun z=>by rw [z,h1] at e;cases e) e) h3⟩,E_sl,E_gi,E_no,E4,ngn,ncs⟩ ?_
 rintro b ((z | z | z | z | z) | z)
 ·exact .inl z
 ·exact .inr (by rw [z];exact fsl)
 ·exact .inr (by rw [z];exact fgi)
 ·exact .inr (by rw [z];exact fno)
 ·exact .inr (by rw [z];exact fsa)
 ·exact .inr (by rw [z];exact hco)
end
section
variable {x:Addr} {a:RAd} {C:List Cs} {s:RSt} {E:XK}
theorem VL {P:Str→Option Value} (T:Txt K P t) (R:RnAt t H x a C s) (h2:∀ c∈C,Yf c) (h3:yv s.sl) (q1:∀ H',wJ C s=none→Same H H'→Q .non H') (q2:∀ p q H',wJ C s=some p→Same H H'→H' q=some (.tup [.str p.1,.int p.2])→Q (.ref q) H') :
  Z4 K t { nx:=fun _ H'=>Q .non H',rt:=Q } (L2.start ["self","place"] [.ref x]) H:=by
 have F:=rnF T
 refine ⟨_,rfl,x,_,_,rfl,R.ix,rfl,x,a,C,s,rfl,R,fun H1 s1=>⟨_,rfl,?_⟩⟩
 show if _ then _ else _
 have R1:=R.same s1
 by_cases ho:yo C s=true
 ·rw [if_pos ho]
  show if _ then _ else _
  rw [if_pos rfl]
  exact q1 H1 (by unfold wJ;rw [if_pos ho]) s1
 rw [if_neg ho]
 obtain ⟨xs,hx,pr⟩:=R1.hc
 have lx:=bH pr
 have lt:=Zb ho
 have hc:C[s.n]?=some C[s.n]:=ba lt
 have hv:xs[s.n]?=some xs[s.n]:=ba (by lia)
 have cv:=zX pr hv hc
 have ok:=h2 _ (da lt)
 have es:wJ C s=wI C[s.n] s:=by unfold wJ;rw [if_neg ho,hc];rfl
 rw [es] at q1 q2
 obtain ⟨p,zs,hd,ev,hp,h0,ht,hnt⟩:=zfE cv
 unfold zC tOp
 refine j5 rfl R1.ix F.cl F.n1 rfl (j5 rfl R1.ix F.cl F.n2 rfl ⟨_,xs,_,_,rfl,rfl,SqL.of hx,xF hv,p,zs,0,_,ev,rfl,SqT.of hp,h0,rfl,_,rfl,?_⟩)
 show if _ then _ else _
 by_cases hh:hd=bf "take"
 case neg =>
  rw [if_pos (by rw [decide_eq_false (fun z=>hh (V.str.inj z))];rfl)]
  exact q1 H1 (hnt hh s) s1
 rw [if_neg (by rw [hh];decide)]
 obtain ⟨sh,e,sl,te,ec,a1,a2,ht⟩:=ht hh
 rw [ec] at q1 q2 ok
 unfold Yf jR at ok
 refine ⟨_,rfl,x,_,_,rfl,R1.ix,rfl,?_⟩
 unfold zb tOp
 refine j5 rfl R1.ix F.cl F.n1 rfl (j5 rfl R1.ix F.cl F.n2 rfl ⟨_,xs,_,_,rfl,rfl,SqL.of hx,xF hv,?_⟩)
 refine ⟨x,p,zs,sh,te,e,a,C,s,by rw [ev];rfl,R1,h3,hp,a1,a2,ht,ok,fun i q H2 hk s2 hq=>?_,fun er H2 hk s2=>?_⟩
 case refine_2 =>
  have q':=q1 H2 (by unfold wI;simp only [hk]) (s1.trans s2)
  cases er with
  | nought=>exact ⟨t.c_Nought,rfl,T.m_Nought_Great_Nought,q'⟩
  | great=>exact ⟨t.c_Great,rfl,T.m_Great_Great_Nought,q'⟩
  | stuck=>trivial
 have R2:=R1.same s2
 have g1:DGet H2 a.gi (.ref q) ((zy s.gi (sh,i)).map V.int):=.inr ⟨dOf s.gi,zL (sh,i),q,.inl R2.hg,rfl,hq,(xI _ _).symm⟩
 have g2:DGet H2 a.no (.ref q) ((zy s.no (sh,i)).map V.int):=.inr ⟨dOf s.no,zL (sh,i),q,.inl R2.hn,rfl,hq,(xI _ _).symm⟩
 refine ⟨_,rfl,?_⟩
 refine j5 rfl R2.ix F.cl F.n5 rfl ⟨_,_,rfl,g1,_,rfl,?_⟩
 show if _ then _ else _
 cases hg:zy s.gi (sh,i) with
 | some j =>
  rw [if_pos (by rfl)]
  show if _ then _ else _
  rw [if_pos rfl]
  exact q1 H2 (by unfold wI;simp only [hk,hg];rfl) (s1.trans s2)
 | none =>
  rw [if_neg (by decide)]
  refine ⟨_,rfl,?_⟩
  refine j5 rfl R2.ix F.cl F.n6 rfl ⟨_,_,rfl,g2,_,rfl,?_⟩
  show if _ then _ else _
  cases hn:zy s.no (sh,i) with
  | some j =>
   rw [if_pos (by rfl)]
   exact q1 H2 (by unfold wI;simp only [hk,hg,hn];rfl) (s1.trans s2)
  | none =>
   rw [if_neg (by decide)]
   refine ⟨_,rfl,?_⟩
   exact q2 (sh,i) q H2 (by unfold wI;simp only [hk,hg,hn];rfl) (s1.trans s2) hq
end
section
variable {l tl:Addr} {xs:List V} {C:List Cs} {rows:List Row}
theorem zeJ (h1:H l=some (.lst xs)) (h2:Paired (CsAt H) xs C) (O:Xe C) (h4:yh H tl rows) (h5:rows.length≤500) (h6:∀ r∈rows,inW r.2=true) (q:∀ r s H',Same H H'→FedR C rows s→PpAt H H' r s→Q (.ref r) H') :
  zcy K t { nx:=fun _ H'=>Q .non H',rt:=Q } (L2.start ["code","table","run","place"] [.ref l,.ref tl]) H:=by
 refine ⟨_,rfl,fun x dx hx hd n=>?_⟩
 have hdx:H dx=none:=hd
 have n1:∀ b o,H b=some o→b≠x:=fun b o e=>zP e hx
 have n2:∀ b o,H b=some o→b≠dx:=fun b o e=>zP e hd
 have s2:Same H (upd (upd H dx (HO.own x)) x (HO.ins t.c_Run dx [])):=fun b o e=>by rw [zk (n1 b o e),zk (n2 b o e)];exact e
 refine ⟨x,l,dx,xs,C,rfl,ze,s2 _ _ h1,y9 s2 h2,fun H3 a k3 R3 fr=>⟨rfl,?_⟩⟩
 obtain ⟨s3,ow⟩:=zfM (Same.refl H) hx hd k3 fr
 refine ⟨fdI t H l tl x a C (vn rows),⟨_,0,st0,rfl,⟨_,rfl⟩,s3,R3,rn0,rfl,bj _,bY _⟩,?_⟩
 rintro m σ H4 ⟨k,s,rfl,⟨o,rfl⟩,S⟩
 have lc:=O.le
 have lk:=S.le
 refine ⟨_,rfl,x,_,_,rfl,S.R.ix,rfl,x,a,C,s,rfl,S.R,fun H5 s5=>⟨_,rfl,?_⟩⟩
 show if _ then _ else _
 have S5:=S.same s5
 cases ho:yo C s with
 | true =>
  rw [if_neg (by decide)]
  have l2:=S.I.ok.l2
  have l3:=S.I.ok.l3
  refine ⟨_,rfl,x,_,_,rfl,S5.R.ix,rfl,x,a,C,s,rfl,S5.R,by lia,S.I.ok.nd,by lia,fun H6 z=>(by rw [ho] at z;cases z),fun r o' nl gl out H6 _ s6 fn fg _ hr oc hn hg gi=>?_⟩
  exact q r s H6 (S5.sm.trans s6) ⟨ho,⟨k,S.rc⟩,⟨k,S.le,S.I⟩,bU S.fw S.le⟩ ⟨o',nl,gl,out,hr,oc,hn,hg,gi,zG S5.sm fn,zG S5.sm fg⟩
 | false =>
  rw [if_pos (by decide)]
  refine ⟨fdI t H l tl x a C (vn rows) (C.length - (k + 1)),fun σ' H' z=>⟨_,?_,z⟩,?_⟩
  ·have:=Zb (C:=C) (s:=s) (by rw [ho];decide)
   have wn:s.why=none:=by
    cases e:s.why with
    | none=>rfl
    | some v=>rw [show yo C s=true by unfold yo;rw [e];rfl] at ho;cases ho
   have:=S.I.at_ wn
   lia
  refine ⟨_,rfl,x,_,_,rfl,S5.R.ix,rfl,x,a,C,s,rfl,S5.R,O.ok,S.I.ok.so,fun H6 ha s6=>?_,fun p q1 H6 ha s6 hq=>?_⟩
  ·have S6:=S5.same s6
   have ew:q8 C (vn rows) s=0:=by unfold q8;rw [ha]
   refine ⟨_,rfl,x,_,_,rfl,S6.R.ix,rfl,_,rfl,rfl,_,rfl,?_⟩
   show if _ then _ else _
   rw [if_pos (decide_eq_true rfl)]
   refine ⟨x,0,k,a,C,s,rfl,S6.R,O.ok,S.I.ok,by lia,fun H7 k7 R7=>?_⟩
   rw [← ew] at R7
   exact ⟨k + 1,_,rfl,⟨_,rfl⟩,S6.step O ow ho (by rw [ew];rfl) k7 R7⟩
  ·have S6:=S5.same s6
   have ew:q8 C (vn rows) s=vn rows p:=by unfold q8;rw [ha]
   refine ⟨_,rfl,x,_,_,rfl,S6.R.ix,rfl,_,rfl,rfl,_,rfl,?_⟩
   show if _ then _ else _
   rw [if_neg (by rw [decide_eq_true_eq];exact fun z=>nomatch z)]
   refine ⟨_,rfl,_,rfl,tl,q1,rows,p,rfl,yS h4 S6.sm,h5,hq,fun H7 s7=>?_⟩
   have S7:=S6.same s7
   refine ⟨x,_,k,a,C,s,rfl,S7.R,O.ok,S.I.ok,by lia,fun H8 k8 R8=>?_⟩
   have R9:RnAt t H8 x a C (xh C (q8 C (vn rows) s) s):=by rw [ew];exact R8
   exact ⟨k + 1,_,rfl,⟨_,rfl⟩,S7.step O ow ho (by rw [ew];exact zb5 h6 p) k8 R9⟩
end
end
section
variable {P:Program} {w:World} {K:bD} {mg:Str→Option Value} {base:Heap} {t:Adr}
theorem zu (T:Txt K mg t):FnOk P w K mg base (CX1 P w) 1 t.a0 t.d0 ["cell","j"] (zm):=by
 refine T.g0.f.ok0 sc__law_draw (fun vs H Q E h=>?_) (fun cdv A outer s H vs Q E hr h=>?_)
 ·obtain ⟨c,j,rfl,_⟩:=h;rfl
 obtain ⟨c,j,rfl,h1,h2,q⟩:=h
 exact ⟨jB K t,(zf (zx (i:=2) sc__law_draw.nd rfl (cr rfl) (zp zY (zp zQ (zp xY (zp zY (pv 0) (zg (i:=1000000007))) (zg (i:=6700417))) (zp xY (zp xY (zp zQ (pv 1) (zg (i:=1))) (zg (i:=104729))) (zg (i:=65537)))) (zg (i:=1000000009))))
  (zh (zt (zp zbr (zp zY (zp xY (zp zY (zp xY (pv 2) (pv 2)) (zg (i:=1000000009))) (pv 2)) (zg (i:=1000000009))) (zg (i:=32)))))),X4 h1 h2 q⟩
theorem kX (T:Txt K mg t):FnOk P w K mg base (CX1 P w) 2 t.a1 t.d1 ["cell","many"] (xm):=by
 refine T.g1.f.ok0 sc__law_names (fun vs H Q E h=>?_) (fun cdv A outer s H vs Q E hr h=>?_)
 ·obtain ⟨c,m,rfl,_⟩:=h;rfl
 obtain ⟨c,m,rfl,h1,h2,q⟩:=h
 exact ⟨vN K t,(zf (zx (i:=2) sc__law_names.nd rfl (cr rfl) (zp zQ (zg (i:=1)) (zp zY (pcG (zu T) T.g0 hr zq (za (pv 0) (za (zg (i:=1)) zd))) (zg (i:=6)))))
  (zf (zx (i:=3) sc__law_names.nd rfl (gD rfl) (zR (x:="zyxwvtsrqpnmlkjhgfdcb")))
  (zf (zW (zw yF (pv 2) (zg (i:=6)) (zJ _)) (zh (zx (i:=3) sc__law_names.nd rfl (gD rfl) (zR (x:="zyxwvutsrqponmlkjihgfedcba"))))
    zE)
  (zf (zx (i:=4) sc__law_names.nd rfl (gD rfl) (zR (x:="")))
  (zf (yU cU rfl (y6 rfl T.b_range (za (pv 2) zd)) (zU (i:=5) sc__law_names.nd rfl (cr rfl)) (zh (zx (i:=4) sc__law_names.nd rfl (gD rfl) (zp xt (pv 4) (zO YH (pv 3) (zp zY (pcG (zu T) T.g0 hr zq (za (pv 0) (za (zp zQ (zg (i:=2)) (pv 5)) zd))) (zF z5 rfl T.b_len yq (za (pv 3) zd))) (fun _ _=>rfl))))))
  (zf (zx (i:=6) sc__law_names.nd rfl (gD rfl) (zp zY (pcG (zu T) T.g0 hr zq (za (pv 0) (za (zg (i:=8)) zd))) (pv 2)))
  (zf (zx (i:=7) sc__law_names.nd rfl (cr rfl) (zp zY (pcG (zu T) T.g0 hr zq (za (pv 0) (za (zg (i:=9)) zd))) (zF z5 rfl T.b_len yq (za (pv 3) zd))))
  (zf (zx (i:=3) sc__law_names.nd rfl (gD rfl) (zp xt (yV Va (pv 3) (xp (pv 7)) xV) (yV Va (pv 3) xV (xp (pv 7)))))
  (zh (zt (jj rfl (osc:=zj wM) (N:=["cell","many","size","signs","stem","k","at","turn"]) (xs:=["k"]) (ix:=[4,6,3]) (by decide +kernel) (y6 rfl T.b_range (za (pv 1) zd)) (fun _ _ _ _=>(zU (i:=0) (show eV (["k","stem","at","signs"]:List Str) from (by decide +kernel)) rfl (cr rfl) (.inr rfl))) (fun _ _ _ _=>qP) (fun _ _ _ _=>(zp xt (zp xt (yV Va (pv 1) xV (xp (pv 2))) (zO YH (pv 3) (pv 0) (fun _ _=>rfl))) (yV Va (pv 1) (xp (zp zQ (pv 2) (zg (i:=1)))) xV)))))))))))))),Xq h1 h2 q⟩
theorem Yo (T:Txt K mg t):FnOk P w K mg base (CX1 P w) 3 t.a2 t.d2 ["cell","many"] (wu):=by
 refine T.g2.f.ok0 sc__law_shelves (fun vs H Q E h=>?_) (fun cdv A outer s H vs Q E hr h=>?_)
 ·obtain ⟨c,rfl,_⟩:=h;rfl
 obtain ⟨c,rfl,q⟩:=h
 exact ⟨wB K t,(zf (zW (zw zbb (zp zY (pcG (zu T) T.g0 hr zq (za (pv 0) (za (zg (i:=11)) zd))) (zg (i:=3))) (zg (i:=0)) (zJ _)) (zh (zt (pcG (kX T) T.g1 hr zq (za (pv 0) (za (pv 1) zd)))))
   zE)
  (zf (zx (i:=2) sc__law_shelves.nd rfl (cr rfl) (zR (x:="zyxwvtsrqpnmlkjhgfdcb")))
  (zf (zx (i:=3) sc__law_shelves.nd rfl (cr rfl) (zp xt (zO YH (pv 2) (zp zY (pcG (zu T) T.g0 hr zq (za (pv 0) (za (zg (i:=12)) zd))) (zg (i:=21))) (fun _ _=>rfl)) (zO YH (pv 2) (zp zY (pcG (zu T) T.g0 hr zq (za (pv 0) (za (zg (i:=13)) zd))) (zg (i:=21))) (fun _ _=>rfl))))
  (zf (zx (i:=4) sc__law_shelves.nd rfl (cr rfl) (zO YH (pv 2) (zp zY (pcG (zu T) T.g0 hr zq (za (pv 0) (za (zg (i:=14)) zd))) (zg (i:=21))) (fun _ _=>rfl)))
  (zf (zx (i:=5) sc__law_shelves.nd rfl (gD rfl) (yC (za (pv 3) (za (zp xt (pv 4) (pv 3)) (za (zd1 (pv 3) (YE k9 (zg (i:=1)))) (za (zp xt (pv 3) (pv 4)) zd))))))
  (zf (zx (i:=6) sc__law_shelves.nd rfl (gD rfl) (zp zY (pcG (zu T) T.g0 hr zq (za (pv 0) (za (zg (i:=15)) zd))) (zg (i:=4))))
  (zh (zt (jj rfl (osc:=zj xJ) (N:=["cell","many","signs","stem","more","some","turn"]) (xs:=["k"]) (ix:=[5,6]) (by decide +kernel) (y6 rfl T.b_range (za (pv 1) zd)) (fun _ _ _ _=>(zU (i:=0) (show eV (["k","some","turn"]:List Str) from (by decide +kernel)) rfl (cr rfl) (.inr rfl))) (fun _ _ _ _=>qP) (fun _ _ _ _=>(zO zZ (pv 1) (zp zY (zp zQ (pv 2) (pv 0)) (zg (i:=4))) (fun _ _=>rfl)))))))))))),ZN q⟩
theorem xN (T:Txt K mg t):FnOk P w K mg base (CX1 P w) 2 t.a3 t.d3 ["cell","j"] (yg):=by
 refine T.g3.f.ok0 Xd (fun vs H Q E h=>?_) (fun cdv A outer s H vs Q E hr h=>?_)
 ·obtain ⟨c,j,rfl,_⟩:=h;rfl
 obtain ⟨c,j,rfl,h1,h2,q⟩:=h
 exact ⟨vc K t,(zf (zW (zw yF (zp zY (pcG (zu T) T.g0 hr zq (za (pv 0) (za (pv 1) zd))) (zg (i:=10))) (zg (i:=0)) (zJ _)) (zh (zt (zp WY (zp zY (zp zQ (zp xY (zp xY (zp zY (pv 0) (zp YF (zg (i:=10)) (zg (i:=40)))) (zp zQ (pv 1) (zg (i:=2)))) (zg (i:=1000003))) (pv 1)) (zp zQ (zp xY (zg (i:=2)) (zp YF (zg (i:=10)) (zg (i:=30)))) (zg (i:=1)))) (zp YF (zg (i:=10)) (zg (i:=30))))))
   zE)
  (zh (zt (zp WY (zp zY (pcG (zu T) T.g0 hr zq (za (pv 0) (za (zp zQ (pv 1) (zg (i:=1))) zd))) (zg (i:=7))) (zg (i:=2)))))),Ym h1 h2 q⟩
theorem Wd (T:Txt K mg t):FnOk P w K mg base (CX1 P w) 3 t.a4 t.d4 ["cell","shelves","wide"] (vL):=by
 refine T.g4.f.ok0 sc__law_table (fun vs H Q E h=>?_) (fun cdv A outer s H vs Q E hr h=>?_)
 ·obtain ⟨c,b,wd,us,rfl,_⟩:=h;rfl
 obtain ⟨c,b,wd,us,rfl,h1,h2,h3,h4,q⟩:=h
 exact ⟨vO K t,(zf (zx (i:=3) sc__law_table.nd rfl (cr rfl) YM)
  (zf (yU cU rfl (y6 rfl T.b_range (za (zp zY (pcG (zu T) T.g0 hr zq (za (pv 0) (za (zg (i:=20)) zd))) (zg (i:=9))) zd)) (zU (i:=4) sc__law_table.nd rfl (cr rfl)) (zf (zx (i:=5) sc__law_table.nd rfl (cr rfl) (pcG (xN T) T.g3 hr zq (za (pv 0) (za (zp zQ (zg (i:=30)) (zp xY (zg (i:=3)) (pv 4))) zd))))
  (zh (zW (zw Wi (pv 5) (zg (i:=0)) (zJ _)) (zh (vx (xg hr) (pv 3) (yj (za (zO zZ (pv 1) (zp zY (pcG (zu T) T.g0 hr zq (za (pv 0) (za (zp zQ (zg (i:=60)) (pv 4)) zd))) (zg (i:=2))) (fun _ _=>rfl)) (za (zp zY (pcG (zu T) T.g0 hr zq (za (pv 0) (za (zp zQ (zg (i:=70)) (pv 4)) zd))) (pv 2)) zd))) (pv 5) rfl))
    zE))))
  (zh (zt (zF (vz rfl (hu3 hr)) rfl T.b_sorted v0 (za (Y2 (pv 3)) zd)))))),XI h1 h2 h3 h4 q⟩
theorem kY (T:Txt K mg t):FnOk P w K mg base (CX1 P w) 1 t.a5 t.d5 ["order","many"] (xn):=by
 refine T.g5.f.ok1 XW (fun vs H Q E h=>?_) (fun cdv A outer s H vs Q E hr h=>?_)
 ·obtain ⟨l,n,os,rfl,_⟩:=h;rfl
 obtain ⟨l,n,os,rfl,h1,h2,h3,q⟩:=h
 exact ⟨vP K t E,(zh (zW (zw (YZ (Vd hr)) (zF (Vn rfl (hu3 hr)) rfl T.b_sorted v0 (za (pv 0) zd)) (QR rfl rfl T.b_list rfl T.b_range (za (pv 1) zd)) (zJ _)) (zh (YT rfl T.x_NoOrder Vb rfl T.g_NoOrder (za (zdX (pv 1)) zd)))
   zE)),XH h1 h2 h3 q⟩
theorem Kc (T:Txt K mg t):FnOk P w K mg base (CX1 P w) 1 t.a6 t.d6 ["self","code"] (ZZ t):=by
 refine T.f_Run_init.ok0 Ju (fun vs H Q E h=>?_) (fun cdv A outer s H vs Q E hr h=>?_)
 ·obtain ⟨x,l,dx,xs,C,rfl,_⟩:=h;rfl
 obtain ⟨x,l,dx,xs,C,rfl,h1,h2,h3,q⟩:=h
 exact ⟨Z3 K t,(zf (vG (f:="code") (pv 0) (yN wK rfl T.b_list xX (za (pv 1) zd)) rfl)
  (zf (vG (f:="at") (pv 0) (zg (i:=0)) rfl)
  (zf (vG (f:="why") (pv 0) jc rfl)
  (zf (vG (f:="slots") (pv 0) YL rfl)
  (zf (vG (f:="gifts") (pv 0) YM rfl)
  (zf (vG (f:="notes") (pv 0) YM rfl)
  (zh (vG (f:="sayings") (pv 0) (yC zd) rfl)))))))),VJ (rnF T) h1 h2 h3 q⟩
theorem vF (T:Txt K mg t):FnOk P w K mg base (CX1 P w) 1 t.a7 t.d7 ["self"] (yZ t):=by
 refine T.g7.f.ok0 Jv (fun vs H Q E h=>?_) (fun cdv A outer s H vs Q E hr h=>?_)
 ·obtain ⟨x,a,C,s,rfl,_⟩:=h;rfl
 obtain ⟨x,a,C,s,rfl,h1,q⟩:=h
 exact ⟨km K t,(zh (zt (zeL (kF Qt (ye (f:="why") (pv 0) rfl) jc (zJ _)) (Kk (kF zf7 (ye (f:="at") (pv 0) rfl) (zF z5 rfl T.b_len yq (za (ye (f:="code") (pv 0) rfl) zd)) (zJ _)))))),Vw (rnF T) h1 q⟩
theorem VM (T:Txt K mg t):FnOk P w K mg base (CX1 P w) 2 t.a8 t.d8 ["self"] (qZ t):=by
 refine T.g8.f.ok0 sc_Run_paper (fun vs H Q E h=>?_) (fun cdv A outer s H vs Q E hr h=>?_)
 ·obtain ⟨x,a,C,s,rfl,_⟩:=h;rfl
 obtain ⟨x,a,C,s,rfl,h1,h2,h3,h4,q1,q2⟩:=h
 exact ⟨jC K t,(zf (zW (wR (xi (vY (pv 0) T.cl_Run T.g7.me (FnOk.mono (vF T) (by decide)) hr T.g7.b .nil zq))) (zh (zt jc))
   zE)
  (zf (zx (i:=1) sc_Run_paper.nd rfl (cr rfl) (yN (Ya rfl) rfl T.b_list xX (za (Y2 (ye (f:="notes") (pv 0) rfl)) zd)))
  (zf (zW (zw Qt (ye (f:="why") (pv 0) rfl) jc (zJ _)) (zh (zt (yj (za (yj (za (zR (x:="off")) (za (ye (f:="why") (pv 0) rfl) zd))) (za (pv 1) (za (yC zd) zd))))))
    zE)
  (zh (zt (yj (za (yj (za (zR (x:="done")) (za (yN XS rfl T.b_tuple zbp (za (ye (f:="sayings") (pv 0) rfl) zd)) zd))) (za (pv 1) (za (zF (vz rfl (hu3 hr)) rfl T.b_sorted v0 (za (Y2 (ye (f:="gifts") (pv 0) rfl)) zd)) zd))))))))),X7 (rnF T) h1 h2 h3 h4 q1 q2⟩
theorem Qm (T:Txt K mg t):FnOk P w K mg base (CX1 P w) 1 t.a9 t.d9 ["word","first","second"] (qu t):=by
 refine T.g9.f.ok1 KU (fun vs H Q E h=>?_) (fun cdv A outer s H vs Q E hr h=>?_)
 ·obtain ⟨w,a,b,rfl,_⟩:=h;rfl
 obtain ⟨w,a,b,rfl,hw,ha,hb,q⟩:=h
 exact ⟨qx K t E,(zf (zW (zw yF (pv 2) (zg (i:=0)) (zJ _)) (zh (YT rfl T.x_Nought Vb rfl T.g_Nought (za (QC (pv 0)) zd)))
   zE)
  (zh (zt (vW (zw yF (pv 0) (zR (x:="over")) (zJ _)) (zp zby (pv 1) (pv 2)) (zp zdr (pv 1) (pv 2)))))),JD hw ha hb q⟩
theorem Qn (T:Txt K mg t):FnOk P w K mg base (CX1 P w) 2 t.a10 t.d10 ["word","first","second"] (qv t):=by
 refine T.g10.f.ok1 KW (fun vs H Q E h=>?_) (fun cdv A outer s H vs Q E hr h=>?_)
 ·obtain ⟨w,a,b,rfl,_⟩:=h;rfl
 obtain ⟨w,a,b,rfl,hw,ha,hb,q⟩:=h
 exact ⟨qy K t E,(zf (zW (zw yF (pv 0) (zR (x:="plus")) (zJ _)) (zh (zt (zp zQ (pv 1) (pv 2))))
   zE)
  (zf (zW (zw yF (pv 0) (zR (x:="minus")) (zJ _)) (zh (zt (zp WY (pv 1) (pv 2))))
    zE)
  (zf (zW (zw yF (pv 0) (zR (x:="times")) (zJ _)) (zh (zt (zp xY (pv 1) (pv 2))))
    zE)
  (zf (zW (zw yF (pv 0) (zR (x:="under")) (zJ _)) (zh (zt (vW (zw VX (pv 1) (pv 2) (zJ _)) (zg (i:=1)) (zg (i:=0)))))
    zE)
  (zf (zW (zw yF (pv 0) (zR (x:="same")) (zJ _)) (zh (zt (vW (zw yF (pv 1) (pv 2) (zJ _)) (zg (i:=1)) (zg (i:=0)))))
    zE)
  (zh (zt (pcG (Qm T) T.g9 hr xx (za (pv 0) (za (pv 1) (za (pv 2) zd))))))))))),JE hw ha hb q⟩
theorem Kd (T:Txt K mg t):FnOk P w K mg base (CX1 P w) 1 t.a11 t.d11 ["thing"] (kg):=by
 refine T.g11.f.ok0 Jw (fun vs H Q E h=>?_) (fun cdv A outer s H vs Q E hr h=>?_)
 ·obtain ⟨i,rfl,_⟩:=h;rfl
 obtain ⟨i,rfl,q⟩:=h
 exact ⟨kq K t,(zf (zW (PW.pt (ZQ (wR (xi (zF wm rfl T.b_isinstance yp (za (pv 0) (za (vp rfl T.b_int zbo rfl) zd))))) (Zi (xi (zF wm rfl T.b_isinstance yp (za (pv 0) (za (vp rfl T.b_bool QB rfl) zd))))))) (zh (zt (jL (b:=false))))
   zE)
  (zh (zt (zbc zba zba (YE k9 (zp YF (zg (i:=10)) (zg (i:=30)))) (pv 0) (zp YF (zg (i:=10)) (zg (i:=30))))))),Vt (kf K).i_b q⟩
theorem za2 (T:Txt K mg t):FnOk P w K mg base (CX1 P w) 3 t.a12 t.d12 ["word","first","second"] (ZA t):=by
 refine T.g12.f.ok1 sc_joined (fun vs H Q E h=>?_) (fun cdv A outer s H vs Q E hr h=>?_)
 ·obtain ⟨w,a,b,rfl,_⟩:=h;rfl
 obtain ⟨w,a,b,rfl,hw,ha,hb,q⟩:=h
 exact ⟨ZC K t E,(zf (zx (i:=3) sc_joined.nd rfl (cr rfl) (pcG (Qn T) T.g10 hr xx (za (pv 0) (za (pv 1) (za (pv 2) zd)))))
  (zf (zW (wR (xi (pcG (Kd T) T.g11 hr xx (za (pv 3) zd)))) (zh (YT rfl T.x_Great Vb rfl T.g_Great (za (QC (pv 0)) zd)))
    zE)
  (zh (zt (pv 3))))),K8 hw ha hb q⟩
theorem Ke (T:Txt K mg t):FnOk P w K mg base (CX1 P w) 4 t.a13 t.d13 ["term","slots"] (kh t):=by
 refine T.g13.f.ok1 sc_reckoned (fun vs H Q E h=>?_) (fun cdv A outer s H vs Q E hr h=>?_)
 ·obtain ⟨kvs,tm,sl,ps,r,rfl,_⟩:=h;rfl
 obtain ⟨kvs,tm,sl,ps,r,rfl,h1,h2,h3,h4,h5,h6,q⟩:=h
 exact ⟨kr K t E,(zf (zx (i:=2) sc_reckoned.nd rfl (cr rfl) (yC zd))
  (zf (yU zfm rfl (zfd (pv 0)) (zU (i:=3) sc_reckoned.nd rfl (cr rfl)) (zh (zW (zw zas (pv 3) (zdn rfl T.g_JOINING rfl) (by with_unfolding_all rfl)) (zf (zx (i:=4) sc_reckoned.nd rfl (cr rfl) (Kt cG iB iC Kv (pv 2)))
  (zf (zx (i:=5) sc_reckoned.nd rfl (cr rfl) (Kt cG iB iC Kv (pv 2)))
  (zh (y0 (qL cG db de y7 (pv 2) (za (pcG (za2 T) T.g12 hr xx (za (pv 3) (za (pv 5) (za (pv 4) zd)))) zd))))))
   (zh (y0 (qL cG db de y7 (pv 2) (za (vW (xi (zF wm rfl T.b_isinstance yp (za (pv 3) (za (vp rfl T.b_str zfl rfl) zd)))) (V3 (xg hr) (pv 1) (pv 3) (zg (i:=0)) ⟨rfl,rfl,rfl,rfl⟩) (pv 3)) zd)))))))
  (zh (zt (Kt cG iB iC Kv (pv 2)))))),Vu (kf K).i_s T.v_JOINING h1 h2 h3 h4 h5 h6 q⟩
theorem yy (T:Txt K mg t):FnOk P w K mg base (CX1 P w) 5 t.a14 t.d14 ["self","term"] (z8 t):=by
 refine T.g14.f.ok1 Yb (fun vs H Q E h=>?_) (fun cdv A outer s H vs Q E hr h=>?_)
 ·obtain ⟨x,tm,e,a,C,s,rfl,_⟩:=h;rfl
 obtain ⟨x,tm,e,a,C,s,rfl,h1,h2,h3,h4,q⟩:=h
 exact ⟨wC K t E,(zh (zt (pcG (Ke T) T.g13 hr xx (za (pv 1) (za (ye (f:="slots") (pv 0) rfl) zd))))),ZK (rnF T) h1 h2 h3 h4 q⟩
theorem wG (T:Txt K mg t):FnOk P w K mg base (CX1 P w) 6 t.a15 t.d15 ["self","due"] (yM t):=by
 refine T.g15.f.ok1 Yc (fun vs H Q E h=>?_) (fun cdv A outer s H vs Q E hr h=>?_)
 ·obtain ⟨x,p,xs,sh,te,e,a,C,s,rfl,_⟩:=h;rfl
 obtain ⟨x,p,xs,sh,te,e,a,C,s,rfl,h1,h2,h3,h4,h5,h6,h7,q1,q2⟩:=h
 exact ⟨wD K t E,(zh (zt (yj (za (zO yb (pv 1) (zg (i:=1)) (fun _ _=>rfl)) (za (xE (pv 0) T.cl_Run T.g14.me (FnOk.mono (yy T) (by decide)) hr T.g14.b .nil xx (za (zO yb (pv 1) (zg (i:=2)) (fun _ _=>rfl)) zd)) zd))))),ZL (rnF T) h1 h2 h3 h4 h5 h6 h7 q1 q2⟩
theorem Kf (T:Txt K mg t):FnOk P w K mg base (CX1 P w) 7 t.a16 t.d16 ["self"] (Z2 t):=by
 refine T.g16.f.ok0 sc_Run_asks (fun vs H Q E h=>?_) (fun cdv A outer s H vs Q E hr h=>?_)
 ·obtain ⟨x,a,C,s,rfl,_⟩:=h;rfl
 obtain ⟨x,a,C,s,rfl,h1,h2,h3,q1,q2⟩:=h
 exact ⟨Z4 K t,(zf (zW (PW.pt (ZQ (xi (vY (pv 0) T.cl_Run T.g7.me (FnOk.mono (vF T) (by decide)) hr T.g7.b .nil zq)) (Zi (zw Wi (zO yb (zO zZ (ye (f:="code") (pv 0) rfl) (ye (f:="at") (pv 0) rfl) (fun _ _=>rfl)) (zg (i:=0)) (fun _ _=>rfl)) (zR (x:="take")) (zJ _))))) (zh (zt jc))
   zE)
  (zf (zd0 (And.intro rfl rfl) rfl (zdE (i:=1) sc_Run_asks.nd rfl (cr rfl) (Jg (pv 0) T.cl_Run T.g15.me (FnOk.mono (wG T) (by decide)) hr T.g15.b (za (zO zZ (ye (f:="code") (pv 0) rfl) (ye (f:="at") (pv 0) rfl) (fun _ _=>rfl)) zd))) rfl T.g_Great rfl T.g_Nought (fun _=>(zh (zt jc))))
  (zf (zW (PW.pt (ZQ (zw (qS (xg hr)) (pv 1) (ye (f:="gifts") (pv 0) rfl) (by with_unfolding_all rfl)) (Zi (zw (qS (xg hr)) (pv 1) (ye (f:="notes") (pv 0) rfl) (by with_unfolding_all rfl))))) (zh (zt jc))
    zE)
  (zh (zt (pv 1)))))),VL T h1 h2 h3 q1 q2⟩
theorem VN (T:Txt K mg t):FnOk P w K mg base (CX1 P w) 1 t.a17 t.d17 ["self","place","worth"] (qY t):=by
 refine T.g17.f.ok0 Vp (fun vs H Q E h=>?_) (fun cdv A outer s H vs Q E hr h=>?_)
 ·obtain ⟨x,q,p,w,a,C,s,rfl,_⟩:=h;rfl
 obtain ⟨x,q,p,w,a,C,s,rfl,h1,h2,h3,q⟩:=h
 exact ⟨jD K t,(zf (zW (zw (qS (xg hr)) (pv 1) (ye (f:="gifts") (pv 0) rfl) (by with_unfolding_all rfl)) (zh (zt (kG (xg hr) (ye (f:="gifts") (pv 0) rfl) (pv 1) (fun _ _=>rfl))))
   zE)
  (zf (zW (zw (KI (xg hr)) (pv 1) (ye (f:="notes") (pv 0) rfl) (by with_unfolding_all rfl)) (zh (vx (xg hr) (ye (f:="notes") (pv 0) rfl) (pv 1) (pv 2) rfl))
    zE)
  (zh (zt (kG (xg hr) (ye (f:="notes") (pv 0) rfl) (pv 1) (fun _ _=>rfl)))))),X6 (rnF T) h1 h2 h3 q⟩
theorem Kg (T:Txt K mg t):FnOk P w K mg base (CX1 P w) 7 t.a18 t.d18 ["self","due","worth"] (Z0 t):=by
 refine T.g18.f.ok1 sc_Run_does (fun vs H Q E h=>?_) (fun cdv A outer s H vs Q E hr h=>?_)
 ·obtain ⟨x,v,r,w,m,a,C,s,rfl,_⟩:=h;rfl
 obtain ⟨x,v,r,w,m,a,C,s,rfl,h1,h2,h3,h4,h5,h6,q1,q2⟩:=h
 exact ⟨Z5 K t E,(zh (zW (zw yF (zO yb (pv 1) (zg (i:=0)) (fun _ _=>rfl)) (zR (x:="take")) (zJ _)) (zh (vx (xg hr) (ye (f:="slots") (pv 0) rfl) (zO yb (pv 1) (zg (i:=3)) (fun _ _=>rfl)) (xE (pv 0) T.cl_Run T.g17.me (FnOk.mono (VN T) (by decide)) hr T.g17.b .nil xx (za (xE (pv 0) T.cl_Run T.g15.me (FnOk.mono (wG T) (by decide)) hr T.g15.b .nil xx (za (pv 1) zd)) (za (pv 2) zd))) rfl))
   (zh (zW (zw yF (zO yb (pv 1) (zg (i:=0)) (fun _ _=>rfl)) (zR (x:="give")) (zJ _)) (zf (zx (i:=3) sc_Run_does.nd rfl (cr rfl) (xE (pv 0) T.cl_Run T.g15.me (FnOk.mono (wG T) (by decide)) hr T.g15.b .nil xx (za (pv 1) zd)))
  (zh (vx (xg hr) (ye (f:="gifts") (pv 0) rfl) (pv 3) (xE (pv 0) T.cl_Run T.g14.me (FnOk.mono (yy T) (by decide)) hr T.g14.b .nil xx (za (zO yb (pv 1) (zg (i:=3)) (fun _ _=>rfl)) zd)) rfl)))
   (zh (zW (zw yF (zO yb (pv 1) (zg (i:=0)) (fun _ _=>rfl)) (zR (x:="let")) (zJ _)) (zh (vx (xg hr) (ye (f:="slots") (pv 0) rfl) (zO yb (pv 1) (zg (i:=1)) (fun _ _=>rfl)) (xE (pv 0) T.cl_Run T.g14.me (FnOk.mono (yy T) (by decide)) hr T.g14.b .nil xx (za (zO yb (pv 1) (zg (i:=2)) (fun _ _=>rfl)) zd)) rfl))
   (zh (y0 (qL cG db de y7 (ye (f:="sayings") (pv 0) rfl) (za (xE (pv 0) T.cl_Run T.g14.me (FnOk.mono (yy T) (by decide)) hr T.g14.b .nil xx (za (zO yb (pv 1) (zg (i:=1)) (fun _ _=>rfl)) zd)) zd)))))))))),VI (rnF T) h1 h2 h3 h4 h5 h6 q1 q2⟩
theorem We (T:Txt K mg t):FnOk P w K mg base (CX1 P w) 8 t.a19 t.d19 ["self","due","worth"] (vK t):=by
 refine T.g19.f.ok1 XX (fun vs H Q E h=>?_) (fun cdv A outer s H vs Q E hr h=>?_)
 ·obtain ⟨x,v,c,w,m,a,C,s,rfl,_⟩:=h;rfl
 obtain ⟨x,v,c,w,m,a,C,s,rfl,h1,h2,h3,h4,h5,q1,q2⟩:=h
 exact ⟨kT K t E,(zf (zW (zw yF (zO yb (pv 1) (zg (i:=0)) (fun _ _=>rfl)) (zR (x:="go")) (zJ _)) (zh (zt (zO yb (pv 1) (zg (i:=1)) (fun _ _=>rfl))))
   zE)
  (zf (zW (zw yF (zO yb (pv 1) (zg (i:=0)) (fun _ _=>rfl)) (zR (x:="skip")) (zJ _)) (zh (zt (vW (zw yF (xE (pv 0) T.cl_Run T.g14.me (FnOk.mono (yy T) (by decide)) hr T.g14.b .nil xx (za (zO yb (pv 1) (zg (i:=1)) (fun _ _=>rfl)) zd)) (zg (i:=0)) (zJ _)) (zO yb (pv 1) (zg (i:=2)) (fun _ _=>rfl)) (zp zQ (ye (f:="at") (pv 0) rfl) (zg (i:=1))))))
    zE)
  (zf (zW (zw yF (zO yb (pv 1) (zg (i:=0)) (fun _ _=>rfl)) (zR (x:="off")) (zJ _)) (zh (zW (zw Wi (xE (pv 0) T.cl_Run T.g14.me (FnOk.mono (yy T) (by decide)) hr T.g14.b .nil xx (za (zO yb (pv 1) (zg (i:=1)) (fun _ _=>rfl)) zd)) (zg (i:=0)) (zJ _)) (zh (vG (f:="why") (pv 0) (zR (x:="told")) rfl))
    zE))
    (zh (y0 (xE (pv 0) T.cl_Run T.g18.me (FnOk.mono (Kg T) (by decide)) hr T.g18.b .nil xx (za (pv 1) (za (pv 2) zd))))))
  (zh (zt (zp zQ (ye (f:="at") (pv 0) rfl) (zg (i:=1)))))))),XM (rnF T) h1 h2 h3 h4 h5 q1 q2⟩
theorem Kh (T:Txt K mg t):FnOk P w K mg base (CX1 P w) 9 t.a20 t.d20 ["self","worth"] (Z1 t):=by
 refine T.f_Run_step.ok0 Jx (fun vs H Q E h=>?_) (fun cdv A outer s H vs Q E hr h=>?_)
 ·obtain ⟨x,w,m,a,C,s,rfl,_⟩:=h;rfl
 obtain ⟨x,w,m,a,C,s,rfl,h1,h2,h3,h4,q⟩:=h
 exact ⟨kt K t,(zf (zW (xi (vY (pv 0) T.cl_Run T.g7.me (FnOk.mono (vF T) (by decide)) hr T.g7.b .nil zq)) (zh zdp)
   zE)
  (zh (zbU (And.intro rfl rfl) rfl (zdZ (f:="at") (pv 0) (Jg (pv 0) T.cl_Run T.g19.me (FnOk.mono (We T) (by decide)) hr T.g19.b (za (zO zZ (ye (f:="code") (pv 0) rfl) (ye (f:="at") (pv 0) rfl) (fun _ _=>rfl)) (za (pv 1) zd))) rfl) rfl T.g_Great rfl T.g_Nought (fun _=>(zh (vG (f:="why") (pv 0) (zR (x:="great")) rfl))) (fun _=>(zh (vG (f:="why") (pv 0) (zR (x:="nought")) rfl)))))),Vx T h1 h2 h3 h4 q⟩
theorem za3 (T:Txt K mg t):FnOk P w K mg base (CX1 P w) 1 t.a21 t.d21 ["table","place"] (WC):=by
 refine T.g21.f.ok0 zaP (fun vs H Q E h=>?_) (fun cdv A outer s H vs Q E hr h=>?_)
 ·obtain ⟨l,q0,rows,p,rfl,_⟩:=h;rfl
 obtain ⟨l,q0,rows,p,rfl,h1,h2,h3,q⟩:=h
 exact ⟨ZD K t,(zh (zt (V3 (xg hr) (yN (xq rfl (hu3 hr)) rfl T.b_dict Yv (za (pv 0) zd)) (pv 1) (zg (i:=0)) ⟨rfl,rfl,rfl,rfl⟩))),Qc h1 h2 h3 q⟩
theorem zdi (T:Txt K mg t):FnOk P w K mg base (CX1 P w) 10 t.a22 t.d22 ["code","table"] (Xf t):=by
 refine T.g22.f.ok0 sc_fed (fun vs H Q E h=>?_) (fun cdv A outer s H vs Q E hr h=>?_)
 ·obtain ⟨l,tl,xs,C,rows,rfl,_⟩:=h;rfl
 obtain ⟨l,tl,xs,C,rows,rfl,h1,h2,h3,h4,h5,h6,q⟩:=h
 exact ⟨zcy K t,(zf (zx (i:=2) sc_fed.nd rfl (cr rfl) (zdv T.mk_Run (FnOk.mono (Kc T) (by decide)) hr rfl T.g_Run T.b_Run_init .nil zq (za (pv 0) zd)))
  (zf (VU cU (wR (xi (vY (pv 2) T.cl_Run T.g7.me (FnOk.mono (vF T) (by decide)) hr T.g7.b .nil zq))) (zf (zx (i:=3) sc_fed.nd rfl (cr rfl) (vY (pv 2) T.cl_Run T.g16.me (FnOk.mono (Kf T) (by decide)) hr T.g16.b .nil zq))
  (zh (y0 (xE (pv 2) T.cl_Run T.me_Run_step (FnOk.mono (Kh T) (by decide)) hr T.b_Run_step .nil zq (za (vW (zw zff (pv 3) jc (zJ _)) (zg (i:=0)) (pcG (za3 T) T.g21 hr zq (za (pv 1) (za (pv 3) zd)))) zd))))))
  (zh (zt (vY (pv 2) T.cl_Run T.g8.me (FnOk.mono (VM T) (by decide)) hr T.g8.b .nil zq))))),zeJ h1 h2 h3 h4 h5 h6 q⟩
theorem Ki (T:Txt K mg t):FnOk P w K mg base (CX1 P w) 1 t.a23 t.d23 ["rows"] (kj):=by
 refine T.g23.f.ok0 sc_table_of (fun vs H Q E h=>?_) (fun cdv A outer s H vs Q E hr h=>?_)
 ·obtain ⟨a,rows,rfl,_⟩:=h;rfl
 obtain ⟨a,rows,rfl,h1,h2,h3,q⟩:=h
 exact ⟨vE K t,(zf (zx (i:=1) sc_table_of.nd rfl (gD rfl) (yN (xq rfl (hu3 hr)) rfl T.b_dict Yv (za (pv 0) zd)))
  (zh (zt (jj rfl (osc:=zj js) (N:=["rows","worths"]) (xs:=["place"]) (ix:=[1]) (by decide +kernel) (xo (zF (Vi rfl) rfl T.b_sorted v0 (za (pv 1) zd))) (fun _ _ _ _=>(zU (i:=0) (show eV (["place","worths"]:List Str) from (by decide +kernel)) rfl (cr rfl) (.inr rfl))) (fun _ _ _ _=>(Yu (zw Wi (kG (xg hr) (pv 1) (pv 0) (fun _ _=>rfl)) (zg (i:=0)) (zJ _)))) (fun _ _ _ _=>(yj (za (pv 0) (za (kG (xg hr) (pv 1) (pv 0) (fun _ _=>rfl)) zd)))))))),Vz h1 h2 h3 q⟩
theorem Qo (T:Txt K mg t):FnOk P w K mg base (CX1 P w) 2 t.a24 t.d24 ["table","gifts"] (w6):=by
 refine T.g24.f.ok0 KY (fun vs H Q E h=>?_) (fun cdv A outer s H vs Q E hr h=>?_)
 ·obtain ⟨a,b,tab,gifts,rfl,_⟩:=h;rfl
 obtain ⟨a,b,tab,gifts,rfl,h1,h2,h3,h4,q⟩:=h
 exact ⟨qz K t,(zh (zt (pcG (Ki T) T.g23 hr zq (za (zp jU (pv 0) (pv 1)) zd)))),J7 h1 h2 h3 h4 q⟩
theorem Z7 (T:Txt K mg t):FnOk P w K mg base (CX1 P w) 11 t.a25 t.d25 ["codes","table","order"] (wp):=by
 refine T.g25.f.ok1 sc_in_order (fun vs H Q E h=>?_) (fun cdv A outer s H vs Q E hr h=>?_)
 ·obtain ⟨cl,tl,l,U,CC,tab,os,J,S,rfl,_⟩:=h;rfl
 obtain ⟨cl,tl,l,U,CC,tab,os,J,S,rfl,h1,h2,h3,h4,h5,h6,h7,h8,q⟩:=h
 exact ⟨ku K t E,(zf (y0 (pcG (kY T) T.g5 hr xx (za (pv 2) (za (zF z5 rfl T.b_len yq (za (pv 0) zd)) zd))))
  (zf (zx (i:=3) sc_in_order.nd rfl (gD rfl) YL)
  (zf (zx (i:=4) sc_in_order.nd rfl (cr rfl) (yN wK rfl T.b_list xX (za (pv 1) zd)))
  (zf (yU zfm rfl (xo (pv 2)) (zU (i:=5) sc_in_order.nd rfl (cr rfl)) (zf (vx (xg hr) (pv 3) (pv 5) (pcG (zdi T) T.g22 hr xx (za (zO zZ (pv 0) (pv 5) (fun _ _=>rfl)) (za (pv 4) zd))) rfl)
  (zh (zx (i:=4) sc_in_order.nd rfl (cr rfl) (pcG (Qo T) T.g24 hr xx (za (pv 4) (za (zO yb (kG (xg hr) (pv 3) (pv 5) (fun _ _=>rfl)) (zg (i:=2)) (fun _ _=>rfl)) zd)))))))
  (zh (zt (yj (za (jj rfl (osc:=zj jt) (N:=["codes","table","order","papers","behind","rank"]) (xs:=["rank"]) (ix:=[3]) (by decide +kernel) (y6 rfl T.b_range (za (zF z5 rfl T.b_len yq (za (pv 0) zd)) zd)) (fun _ _ _ _=>(zU (i:=0) (show eV (["rank","papers"]:List Str) from (by decide +kernel)) rfl (cr rfl) (.inr rfl))) (fun _ _ _ _=>qP) (fun _ _ _ _=>(kG (xg hr) (pv 1) (pv 0) (fun _ _=>rfl)))) (za (pv 4) zd))))))))),VF h1 h2 h3 h4 h5 h6 h7 h8 q⟩
theorem kZ (T:Txt K mg t):FnOk P w K mg base (CX1 P w) 1 t.a26 t.d26 ["one","other"] (x8):=by
 refine T.g26.f.ok0 sc_gives_into (fun vs H Q E h=>?_) (fun cdv A outer s H vs Q E hr h=>?_)
 ·obtain ⟨v,u,a,b,rfl,_⟩:=h;rfl
 obtain ⟨v,u,a,b,rfl,h1,h2,h3,h4,q⟩:=h
 exact ⟨vS K t,(zf (zx (i:=2) sc_gives_into.nd rfl (gD rfl) (yN (xq rfl (hu3 hr)) rfl T.b_dict Yv (za (zp jU (zO yb (pv 1) (zg (i:=1)) (fun _ _=>rfl)) (zO yb (pv 1) (zg (i:=2)) (fun _ _=>rfl))) zd)))
  (zh (zt (zF (zaM rfl) rfl T.b_any zfk (za (jj rfl (osc:=zj wN) (N:=["one","other","known"]) (xs:=["place","worth"]) (ix:=[2]) (by decide +kernel) (xo (zO yb (pv 0) (zg (i:=2)) (fun _ _=>rfl))) (fun _ _ _ _=>(WW rfl (wc (zU (i:=0) (show eV (["place","worth","known"]:List Str) from (by decide +kernel)) rfl (cr rfl)) (wc (zU (i:=1) (show eV (["place","worth","known"]:List Str) from (by decide +kernel)) rfl (cr rfl)) Yr)))) (fun _ _ _ _=>qP) (fun _ _ _ _=>(kF (qS (xg hr)) (pv 0) (pv 2) (by with_unfolding_all rfl)))) zd))))),Xy h1 h2 h3 h4 q⟩
theorem zeK (T:Txt K mg t):FnOk P w K mg base (CX1 P w) 2 t.a27 t.d27 ["one","other"] (Vr):=by
 refine T.g27.f.ok0 zd6 (fun vs H Q E h=>?_) (fun cdv A outer s H vs Q E hr h=>?_)
 ·obtain ⟨v,u,a,b,rfl,_⟩:=h;rfl
 obtain ⟨v,u,a,b,rfl,h1,h2,h3,h4,q⟩:=h
 exact ⟨Vs K t,(zh (zt (zeL (pcG (kZ T) T.g26 hr zq (za (pv 0) (za (pv 1) zd))) (Kk (pcG (kZ T) T.g26 hr zq (za (pv 1) (za (pv 0) zd))))))),zcR h1 h2 h3 h4 q⟩
theorem qG (T:Txt K mg t):FnOk P w K mg base (CX1 P w) 3 t.a28 t.d28 ["papers","ranks","rank"] (xv):=by
 refine T.g28.f.ok0 KZ (fun vs H Q E h=>?_) (fun cdv A outer s H vs Q E hr h=>?_)
 ·obtain ⟨p,l,k,P,rs,rfl,_⟩:=h;rfl
 obtain ⟨p,l,k,P,rs,rfl,h1,h2,h3,h4,h5,q⟩:=h
 exact ⟨qA K t,(zh (zt (jj rfl (osc:=zj kK) (N:=["papers","ranks","rank"]) (xs:=["one"]) (ix:=[0,2]) (by decide +kernel) (xo (pv 1)) (fun _ _ _ _=>(zU (i:=0) (show eV (["one","papers","rank"]:List Str) from (by decide +kernel)) rfl (cr rfl) (.inr rfl))) (fun _ _ _ _=>(Yu (xi (pcG (zeK T) T.g27 hr zq (za (zO zZ (pv 1) (pv 0) (fun _ _=>rfl)) (za (zO zZ (pv 1) (pv 2) (fun _ _=>rfl)) zd)))))) (fun _ _ _ _=>(pv 0))))),JS h1 h2 h3 h4 h5 q⟩
theorem VO (T:Txt K mg t):FnOk P w K mg base (CX1 P w) 4 t.a29 t.d29 ["papers","told","rank"] (jz):=by
 refine T.g29.f.ok0 sc_round_for (fun vs H Q E h=>?_) (fun cdv A outer s H vs Q E hr h=>?_)
 ·obtain ⟨p,a,k,P,ls,T0,rfl,_⟩:=h;rfl
 obtain ⟨p,a,k,P,ls,T0,rfl,h1,h2,h3,h4,h5,q⟩:=h
 exact ⟨jE K t,(zf (zx (i:=3) sc_round_for.nd rfl (cr rfl) (zF z5 rfl T.b_len yq (za (pv 1) zd)))
  (zf (VU cU (PW.pt (ze6 (zw zbb (pv 3) (zg (i:=0)) (zJ _)) (zdo (zw (YV (Vd hr)) (pcG (qG T) T.g28 hr zq (za (pv 0) (za (zO zZ (pv 1) (zp WY (pv 3) (zg (i:=1))) (fun _ _=>rfl)) (za (pv 2) zd)))) (yC zd) (zJ _))))) (zh (zfa (i:=3) sc_round_for.nd rfl (cr rfl) (zg (i:=1)) zfb)))
  (zh (zt (pv 3))))),X9 h1 h2 h3 h4 h5 q⟩
theorem WS (T:Txt K mg t):FnOk P w K mg base (CX1 P w) 5 t.a30 t.d30 ["papers"] (v6):=by
 refine T.g30.f.ok0 sc_rounds (fun vs H Q E h=>?_) (fun cdv A outer s H vs Q E hr h=>?_)
 ·obtain ⟨p,P,rfl,_⟩:=h;rfl
 obtain ⟨p,P,rfl,h1,q⟩:=h
 exact ⟨ZE K t,(zf (zx (i:=1) sc_rounds.nd rfl (cr rfl) (yC zd))
  (zf (yU cU rfl (y6 rfl T.b_range (za (zF z5 rfl T.b_len yq (za (pv 0) zd)) zd)) (zU (i:=2) sc_rounds.nd rfl (cr rfl)) (zf (zx (i:=3) sc_rounds.nd rfl (cr rfl) (pcG (VO T) T.g29 hr zq (za (pv 0) (za (pv 1) (za (pv 2) zd)))))
  (zf (zW (zw yF (pv 3) (zF z5 rfl T.b_len yq (za (pv 1) zd)) (zJ _)) (zh (y0 (qL cG db de y7 (pv 1) (za (yC zd) zd))))
    zE)
  (zh (y0 (qL cG db de y7 (zO zZ (pv 1) (pv 3) (fun _ _=>rfl)) (za (pv 2) zd)))))))
  (zh (zt (pv 1))))),Qi h1 q⟩
theorem ym (T:Txt K mg t):FnOk P w K mg base (CX1 P w) 1 t.a31 t.d31 ["script","k"] (z0 K):=by
 refine T.g31.f.ok0 Yd (fun vs H Q E h=>?_) (fun cdv A outer s H vs Q E hr h=>?_)
 ·obtain ⟨a,ns,k,rfl,_⟩:=h;rfl
 obtain ⟨a,ns,k,rfl,hS,hl,q⟩:=h
 exact ⟨wE K t,(zf (zW (zw VX (pv 1) (zF z5 rfl T.b_len yq (za (pv 0) zd)) (zJ _)) (zh (zt (zO zZ (pv 0) (pv 1) (fun _ _=>rfl))))
   zE)
  (zh (zt (zg (i:=0))))),ZJ hS hl q⟩
theorem XN (T:Txt K mg t):FnOk P w K mg base (CX1 P w) 2 t.a32 t.d32 ["script","told"] (va K):=by
 refine T.g32.f.ok0 sc__law_turned (fun vs H Q E h=>?_) (fun cdv A outer s H vs Q E hr h=>?_)
 ·obtain ⟨a,r,ns,ls,T0,rfl,_⟩:=h;rfl
 obtain ⟨a,r,ns,ls,T0,rfl,h1,h2,h3,h4,h5,q⟩:=h
 exact ⟨vd K t,(zf (zx (i:=2) sc__law_turned.nd rfl (cr rfl) (yC zd))
  (zf (yU cU rfl (y6 rfl T.b_range (za (zF z5 rfl T.b_len yq (za (pv 1) zd)) zd)) (zU (i:=3) sc__law_turned.nd rfl (cr rfl)) (zf (zx (i:=4) sc__law_turned.nd rfl (cr rfl) (zO zZ (pv 1) (pv 3) (fun _ _=>rfl)))
  (zf (zx (i:=5) sc__law_turned.nd rfl (cr rfl) (zp zY (pcG (zu T) T.g0 hr zq (za (pcG (ym T) T.g31 hr zq (za (pv 0) (za (pv 3) zd))) (za (zg (i:=203)) zd))) (zp zQ (zg (i:=1)) (zF z5 rfl T.b_len yq (za (pv 4) zd)))))
  (zf (zx (i:=4) sc__law_turned.nd rfl (cr rfl) (zp jU (yV jg (pv 4) (xp (pv 5)) xV) (yV jg (pv 4) xV (xp (pv 5)))))
  (zf (zW (zw yF (zp zY (pcG (zu T) T.g0 hr zq (za (pcG (ym T) T.g31 hr zq (za (pv 0) (za (pv 3) zd))) (za (zg (i:=204)) zd))) (zg (i:=2))) (zg (i:=0)) (zJ _)) (zh (zx (i:=4) sc__law_turned.nd rfl (cr rfl) (Js (pv 4) (YE k9 (zg (i:=1))))))
    zE)
  (zh (zx (i:=2) sc__law_turned.nd rfl (cr rfl) (zp jU (pv 2) (pv 4)))))))))
  (zh (zt (pv 2))))),Yn h1 h2 h3 h4 h5 q⟩
theorem XO (T:Txt K mg t) (n:Nat) (IH:FnOk P w K mg base (CX1 P w) (2 + 2 * n) t.a34 t.d34 ["rows","first"] (yY n)):FnOk P w K mg base (CX1 P w) (2 + 2 * n + 1) t.a33 t.d33 ["row","at"] (ki n):=by
 refine T.g33.f.ok0 sc_block_steps (k:=2 + 2 * n) (fun vs H Q E h=>?_) (fun cdv A outer s H vs Q E hr h=>?_)
 ·obtain ⟨v,e,a,b,k,rfl,_⟩:=h;rfl
 obtain ⟨v,e,a,b,k,rfl,h1,h2,h3,h4,q⟩:=h
 exact ⟨ky K t n,(zf (zx (i:=2) sc_block_steps.nd rfl (cr rfl) (Yt (FnOk.mono IH (by lia)) hr rfl T.g34.m T.g34.f.kp T.g34.b .nil zq (za (zO yb (pv 0) (zg (i:=2)) (fun _ _=>rfl)) (za (zp zQ (pv 1) (zg (i:=1))) zd))))
  (zf (zx (i:=3) sc_block_steps.nd rfl (cr rfl) (zp zQ (zp zQ (pv 1) (zg (i:=1))) (zF z5 rfl T.b_len yq (za (pv 2) zd))))
  (zf (zW (zw (YV (Vd hr)) (zO yb (pv 0) (zg (i:=3)) (fun _ _=>rfl)) (yC zd) (zJ _)) (zh (zt (zp jU (yC (za (yj (za (zR (x:="skip")) (za (zO yb (pv 0) (zg (i:=1)) (fun _ _=>rfl)) (za (pv 3) zd)))) zd)) (pv 2))))
    zE)
  (zf (zx (i:=4) sc_block_steps.nd rfl (cr rfl) (Yt (FnOk.mono IH (by lia)) hr rfl T.g34.m T.g34.f.kp T.g34.b .nil zq (za (zO yb (pv 0) (zg (i:=3)) (fun _ _=>rfl)) (za (zp zQ (pv 3) (zg (i:=1))) zd))))
  (zh (zt (zp jU (zp jU (zp jU (yC (za (yj (za (zR (x:="skip")) (za (zO yb (pv 0) (zg (i:=1)) (fun _ _=>rfl)) (za (zp zQ (pv 3) (zg (i:=1))) zd)))) zd)) (pv 2)) (yC (za (yj (za (zR (x:="go")) (za (zp zQ (zp zQ (pv 3) (zg (i:=1))) (zF z5 rfl T.b_len yq (za (pv 4) zd))) zd))) zd))) (pv 4)))))))),Yl h1 h2 h3 h4 q⟩
theorem Kj (T:Txt K mg t):∀ n,FnOk P w K mg base (CX1 P w) (2 + 2 * n) t.a34 t.d34 ["rows","first"] (yY n):=by
 intro n
 induction n with
 | zero=>exact ⟨fun vs H Q E h=>(Za h).elim,fun A outer s H args us vs Q E hr he hb hv h=>(Za h).elim⟩
 | succ n IH =>
 refine T.g34.f.ok0 sc_steps_of (k:=2 + 2 * n + 1) (fun vs H Q E h=>?_) (fun cdv A outer s H vs Q E hr h=>?_)
 ·obtain ⟨v,r,k,rfl,_⟩:=h;rfl
 obtain ⟨v,r,k,rfl,h1,h2,h3,q⟩:=h
 exact ⟨Z6 K t n,(zf (zx (i:=2) sc_steps_of.nd rfl (cr rfl) (yC zd))
  (zf (yU cU rfl (xo (pv 0)) (zU (i:=3) sc_steps_of.nd rfl (cr rfl)) (zh (zW (zw yF (zO yb (pv 3) (zg (i:=0)) (fun _ _=>rfl)) (zR (x:="if")) (zJ _)) (zh (y0 (qL cG PySem.F.slot_list_extend PySem.F.type_list_extend zau (pv 2) (za (Yt (FnOk.mono (XO T n IH) (by lia)) hr rfl T.g33.m T.g33.f.kp T.g33.b .nil zq (za (pv 3) (za (zp zQ (pv 1) (zF z5 rfl T.b_len yq (za (pv 2) zd))) zd))) zd))))
    (zh (y0 (qL cG db de y7 (pv 2) (za (pv 3) zd)))))))
  (zh (zt (pv 2))))),Vv h1 h2 h3 q⟩
theorem Qp (T:Txt K mg t):FnOk P w K mg base (CX1 P w) 15 t.a35 t.d35 ["rows"] (qw):=by
 refine T.g35.f.ok0 K0 (fun vs H Q E h=>?_) (fun cdv A outer s H vs Q E hr h=>?_)
 ·obtain ⟨v,r,rfl,_⟩:=h;rfl
 obtain ⟨v,r,rfl,h1,h2,h3,q⟩:=h
 exact ⟨qB K t,(zh (zt (pcG (Kj T 6) T.g34 hr zq (za (pv 0) (za (zg (i:=0)) zd))))),JF h1 h2 h3 q⟩
theorem wO (T:Txt K mg t):FnOk P w K mg base (CX1 P w) 3 t.a36 t.d36 ["cell","j","slots"] (yH):=by
 refine T.g36.f.ok0 sc__law_term (fun vs H Q E h=>?_) (fun cdv A outer s H vs Q E hr h=>?_)
 ·obtain ⟨c,j,a,ws,rfl,_⟩:=h;rfl
 obtain ⟨c,j,a,ws,rfl,h1,h2,h3,h4,q⟩:=h
 exact ⟨jF K t,(zf (zx (i:=3) sc__law_term.nd rfl (cr rfl) (zO zZ (pv 2) (zp zY (pcG (zu T) T.g0 hr zq (za (pv 0) (za (pv 1) zd))) (zg (i:=3))) (fun _ _=>rfl)))
  (zf (zx (i:=4) sc__law_term.nd rfl (cr rfl) (zp zY (pcG (zu T) T.g0 hr zq (za (pv 0) (za (zp zQ (pv 1) (zg (i:=1))) zd))) (zg (i:=5))))
  (zf (zW (zw yF (pv 4) (zg (i:=0)) (zJ _)) (zh (zt (yj (za (pv 3) zd))))
    zE)
  (zf (zW (zw yF (pv 4) (zg (i:=1)) (zJ _)) (zh (zt (yj (za (pcG (xN T) T.g3 hr zq (za (pv 0) (za (zp zQ (pv 1) (zg (i:=2))) zd))) zd))))
    zE)
  (zf (zx (i:=5) sc__law_term.nd rfl (cr rfl) (yC (za (zR (x:="plus")) (za (zR (x:="minus")) (za (zR (x:="times")) (za (zR (x:="over")) (za (zR (x:="rest")) (za (zR (x:="under")) (za (zR (x:="plus")) zd)))))))))
  (zh (zt (yj (za (pv 3) (za (pcG (xN T) T.g3 hr zq (za (pv 0) (za (zp zQ (pv 1) (zg (i:=2))) zd))) (za (zO zZ (pv 5) (zp zY (pcG (zu T) T.g0 hr zq (za (pv 0) (za (zp zQ (pv 1) (zg (i:=4))) zd))) (zg (i:=7))) (fun _ _=>rfl)) zd))))))))))),Wb h1 h2 h3 h4 q⟩
theorem Z8 (T:Txt K mg t):FnOk P w K mg base (CX1 P w) 4 t.a37 t.d37 ["cell","j","slots","shelves","wide"] (vB):=by
 refine T.g37.f.ok0 sc__law_row (fun vs H Q E h=>?_) (fun cdv A outer s H vs Q E hr h=>?_)
 ·obtain ⟨c,j,a,b,wd,ws,us,rfl,_⟩:=h;rfl
 obtain ⟨c,j,a,b,wd,ws,us,rfl,h1,h2,h3,h4,h5,h6,h7,h8,q⟩:=h
 exact ⟨kz K t,(zf (zx (i:=5) sc__law_row.nd rfl (cr rfl) (zp zY (pcG (zu T) T.g0 hr zq (za (pv 0) (za (pv 1) zd))) (zg (i:=13))))
  (zf (zx (i:=6) sc__law_row.nd rfl (cr rfl) (zO zZ (pv 3) (zp zY (pcG (zu T) T.g0 hr zq (za (pv 0) (za (zp zQ (pv 1) (zg (i:=60))) zd))) (zg (i:=2))) (fun _ _=>rfl)))
  (zf (zx (i:=7) sc__law_row.nd rfl (cr rfl) (zO zZ (pv 2) (zp zY (pcG (zu T) T.g0 hr zq (za (pv 0) (za (zp zQ (pv 1) (zg (i:=61))) zd))) (zg (i:=3))) (fun _ _=>rfl)))
  (zf (zx (i:=8) sc__law_row.nd rfl (cr rfl) (yj (za (zp zY (pcG (zu T) T.g0 hr zq (za (pv 0) (za (zp zQ (pv 1) (zg (i:=52))) zd))) (pv 4)) zd)))
  (zf (zW (zw yF (zp zY (pcG (zu T) T.g0 hr zq (za (pv 0) (za (zp zQ (pv 1) (zg (i:=50))) zd))) (zg (i:=6))) (zg (i:=0)) (zJ _)) (zh (zx (i:=8) sc__law_row.nd rfl (cr rfl) (yj (za (zO zZ (pv 2) (zp zY (pcG (zu T) T.g0 hr zq (za (pv 0) (za (zp zQ (pv 1) (zg (i:=51))) zd))) (zg (i:=3))) (fun _ _=>rfl)) zd))))
    zE)
  (zf (zW (zw VX (pv 5) (zg (i:=5)) (zJ _)) (zh (zt (yj (za (zR (x:="take")) (za (pv 6) (za (pv 8) (za (pv 7) zd)))))))
    zE)
  (zf (zW (zw VX (pv 5) (zg (i:=9)) (zJ _)) (zh (zt (yj (za (zR (x:="give")) (za (pv 6) (za (pv 8) (za (pcG (wO T) T.g36 hr zq (za (pv 0) (za (zp zQ (pv 1) (zg (i:=20))) (za (pv 2) zd)))) zd)))))))
    zE)
  (zf (zW (zw yF (pv 5) (zg (i:=9)) (zJ _)) (zh (zt (yj (za (zR (x:="let")) (za (pv 7) (za (pcG (wO T) T.g36 hr zq (za (pv 0) (za (zp zQ (pv 1) (zg (i:=20))) (za (pv 2) zd)))) zd))))))
    zE)
  (zf (zW (zw yF (pv 5) (zg (i:=10)) (zJ _)) (zh (zt (yj (za (zR (x:="off")) (za (yj (za (pv 7) (za (pcG (xN T) T.g3 hr zq (za (pv 0) (za (zp zQ (pv 1) (zg (i:=21))) zd))) (za (zR (x:="same")) zd)))) zd)))))
    zE)
  (zh (zt (yj (za (zR (x:="say")) (za (pcG (wO T) T.g36 hr zq (za (pv 0) (za (zp zQ (pv 1) (zg (i:=20))) (za (pv 2) zd)))) zd)))))))))))))),VG h1 h2 h3 h4 h5 h6 h7 h8 q⟩
theorem VP (T:Txt K mg t):FnOk P w K mg base (CX1 P w) 16 t.a38 t.d38 ["cells","slots","shelves","wide"] (jx):=by
 refine T.g38.f.ok0 sc__law_code (fun vs H Q E h=>?_) (fun cdv A outer s H vs Q E hr h=>?_)
 ·obtain ⟨cl,a,b,wd,ns,ws,us,rfl,_⟩:=h;rfl
 obtain ⟨cl,a,b,wd,ns,ws,us,rfl,h1,h2,h3,h4,h5,h6,h7,h8,q⟩:=h
 exact ⟨jG K t,(zf (zx (i:=4) sc__law_code.nd rfl (cr rfl) (yC zd))
  (zf (yU cU rfl (xo (pv 0)) (zU (i:=5) sc__law_code.nd rfl (cr rfl)) (zf (zx (i:=6) sc__law_code.nd rfl (cr rfl) (pcG (Z8 T) T.g37 hr zq (za (pv 5) (za (zg (i:=0)) (za (pv 1) (za (pv 2) (za (pv 3) zd)))))))
  (zf (zW (zw yF (zp zY (pcG (zu T) T.g0 hr zq (za (pv 5) (za (zg (i:=150)) zd))) (zg (i:=5))) (zg (i:=0)) (zJ _)) (zf (zx (i:=7) sc__law_code.nd rfl (cr rfl) (yC (za (pcG (Z8 T) T.g37 hr zq (za (pv 5) (za (zg (i:=100)) (za (pv 1) (za (pv 2) (za (pv 3) zd)))))) zd)))
  (zh (zx (i:=6) sc__law_code.nd rfl (cr rfl) (yj (za (zR (x:="if")) (za (pcG (wO T) T.g36 hr zq (za (pv 5) (za (zg (i:=152)) (za (pv 1) zd)))) (za (yC (za (pv 6) zd)) (za (yV jg (pv 7) xV (xp (zp zY (pcG (zu T) T.g0 hr zq (za (pv 5) (za (zg (i:=151)) zd))) (zg (i:=2))))) zd))))))))
   zE)
  (zh (y0 (qL cG db de y7 (pv 4) (za (pv 6) zd)))))))
  (zh (zt (pcG (Qp T) T.g35 hr zq (za (pv 4) zd)))))),Wc h1 h2 h3 h4 h5 h6 h7 h8 q⟩
theorem VQ (T:Txt K mg t):FnOk P w K mg base (CX1 P w) 1 t.a39 t.d39 ["table","gifts"] (jA):=by
 refine T.g39.f.ok0 sc__law_laid (fun vs H Q E h=>?_) (fun cdv A outer s H vs Q E hr h=>?_)
 ·obtain ⟨a,b,tab,gifts,rfl,_⟩:=h;rfl
 obtain ⟨a,b,tab,gifts,rfl,h1,h2,h3,h4,q⟩:=h
 exact ⟨jH K t,(zf (zx (i:=2) sc__law_laid.nd rfl (cr rfl) (yN (xq rfl (hu3 hr)) rfl T.b_dict Yv (za (pv 0) zd)))
  (zf (yU cU rfl (xo (pv 1)) (zU (i:=3) sc__law_laid.nd rfl (cr rfl)) (zh (vx (xg hr) (pv 2) (zO yb (pv 3) (zg (i:=0)) (fun _ _=>rfl)) (zO yb (pv 3) (zg (i:=1)) (fun _ _=>rfl)) rfl)))
  (zh (zft (zt (zF (Vm rfl (hu3 hr)) rfl T.b_sorted v0 (za (jj rfl (osc:=zj vA) (N:=["table","gifts","there","row"]) (xs:=["place","worth"]) (ix:=[]) (by decide +kernel) (zco (pv 2)) (fun _ _ _ _=>(WW rfl (wc (zU (i:=0) (show eV (["place","worth"]:List Str) from (by decide +kernel)) rfl (cr rfl)) (wc (zU (i:=1) (show eV (["place","worth"]:List Str) from (by decide +kernel)) rfl (cr rfl)) Yr)))) (fun _ _ _ _=>(Yu (zw Wi (pv 1) (zg (i:=0)) (zJ _)))) (fun _ _ _ _=>(yj (za (pv 0) (za (pv 1) zd))))) zd))))))),Wa h1 h2 h3 h4 q⟩
theorem Yp (T:Txt K mg t):FnOk P w K mg base (CX1 P w) 11 t.a40 t.d40 ["codes","papers","table","told"] (ww):=by
 refine T.g40.f.ok0 sc__law_at_once (fun vs H Q E h=>?_) (fun cdv A outer s H vs Q E hr h=>?_)
 ·obtain ⟨cl,pl,tl,ta,ls,U,CC,P,tab,T0,rfl,_⟩:=h;rfl
 obtain ⟨cl,pl,tl,ta,ls,U,CC,P,tab,T0,rfl,h1,h2,h3,h4,h5,q⟩:=h
 exact ⟨wF K t,(zf (zx (i:=4) sc__law_at_once.nd rfl (cr rfl) (pv 2))
  (zf (yU cU rfl (xo (pv 3)) (zU (i:=5) sc__law_at_once.nd rfl (cr rfl)) (zf (yU cU rfl (xo (pv 5)) (zU (i:=6) sc__law_at_once.nd rfl (cr rfl)) (zh (zW (zw (YZ (Vd hr)) (pcG (zdi T) T.g22 hr zq (za (yN wK rfl T.b_list xX (za (zO zZ (pv 0) (pv 6) (fun _ _=>rfl)) zd)) (za (yN wK rfl T.b_list xX (za (pv 4) zd)) zd))) (zO zZ (pv 1) (pv 6) (fun _ _=>rfl)) (zJ _)) (zh (zt jc))
    zE)))
  (zh (yU cU rfl (xo (Js (pv 5) (YE k9 (zg (i:=1))))) (zU (i:=6) sc__law_at_once.nd rfl (cr rfl)) (zh (zx (i:=4) sc__law_at_once.nd rfl (cr rfl) (pcG (VQ T) T.g39 hr zq (za (pv 4) (za (zO yb (zO zZ (pv 1) (pv 6) (fun _ _=>rfl)) (zg (i:=2)) (fun _ _=>rfl)) zd)))))))))
  (zh (zt (pv 4))))),ZO h1 h2 h3 h4 h5 q⟩
theorem Wf (T:Txt K mg t):FnOk P w K mg base (CX1 P w) 1 t.a41 t.d41 ["told","many"] (vM):=by
 refine T.g41.f.ok0 sc__law_ranks (fun vs H Q E h=>?_) (fun cdv A outer s H vs Q E hr h=>?_)
 ·obtain ⟨a,ls,P,rfl,_⟩:=h;rfl
 obtain ⟨a,ls,P,rfl,h1,h2,q⟩:=h
 exact ⟨vU K t,(zf (zx (i:=2) sc__law_ranks.nd rfl (cr rfl) YL)
  (zf (zW (wR (xi (zF wm rfl T.b_isinstance yp (za (pv 0) (za (vp rfl T.b_list xX rfl) zd))))) (zh (zt (jL (b:=false))))
    zE)
  (zf (yU cU rfl (y6 rfl T.b_range (za (zF z5 rfl T.b_len yq (za (pv 0) zd)) zd)) (zU (i:=3) sc__law_ranks.nd rfl (cr rfl)) (zf (zW (wR (xi (zF wm rfl T.b_isinstance yp (za (zO zZ (pv 0) (pv 3) (fun _ _=>rfl)) (za (vp rfl T.b_list xX rfl) zd))))) (zh (zt (jL (b:=false))))
    zE)
  (zh (yU cU rfl (xo (zO zZ (pv 0) (pv 3) (fun _ _=>rfl))) (zU (i:=4) sc__law_ranks.nd rfl (cr rfl)) (zf (zW (PW.pt (ZQ (wR (xi (zF wm rfl T.b_isinstance yp (za (pv 4) (za (vp rfl T.b_int zbo rfl) zd))))) (ZQ (xi (zF wm rfl T.b_isinstance yp (za (pv 4) (za (vp rfl T.b_bool QB rfl) zd)))) (ZQ (zw (qS (xg hr)) (pv 4) (pv 2) (by with_unfolding_all rfl)) (Zi (wR (zbd zba VX (zg (i:=0)) (pv 4) (pv 1)))))))) (zh (zt (jL (b:=false))))
    zE)
  (zh (vx (xg hr) (pv 2) (pv 4) (pv 3) rfl)))))))
  (zh (zt (kF yF (zF zaN rfl T.b_len yq (za (pv 2) zd)) (pv 1) (zJ _))))))),XJ (kf K) h1 h2 q⟩
theorem ZP (T:Txt K mg t):FnOk P w K mg base (CX1 P w) 1 t.a42 t.d42 ["told","some"] (xS):=by
 refine T.g42.f.ok0 sc__law_one_each (fun vs H Q E h=>?_) (fun cdv A outer s H vs Q E hr h=>?_)
 ·obtain ⟨a,c,ls,P,rfl,_⟩:=h;rfl
 obtain ⟨a,c,ls,P,rfl,h1,h2,h3,q⟩:=h
 exact ⟨xT K t,(zf (zW (PW.pt (ZQ (wR (xi (zF wm rfl T.b_isinstance yp (za (pv 1) (za (vp rfl T.b_list xX rfl) zd))))) (Zi (zw Wi (zF z5 rfl T.b_len yq (za (pv 1) zd)) (zF z5 rfl T.b_len yq (za (pv 0) zd)) (zJ _))))) (zh (zt (jL (b:=false))))
   zE)
  (zf (yU cU rfl (y6 rfl T.b_range (za (zF z5 rfl T.b_len yq (za (pv 0) zd)) zd)) (zU (i:=2) sc__law_one_each.nd rfl (cr rfl)) (zh (zW (zw W3 (zO zZ (pv 1) (pv 2) (fun _ _=>rfl)) (zO zZ (pv 0) (pv 2) (fun _ _=>rfl)) (by with_unfolding_all rfl)) (zh (zt (jL (b:=false))))
    zE)))
  (zh (zt (jL (b:=true)))))),Zh (kf K) h1 h2 h3 q⟩
theorem zdj (T:Txt K mg t):FnOk P w K mg base (CX1 P w) 4 t.a43 t.d43 ["papers","order"] (Xh):=by
 refine T.g43.f.ok1 sc_keeps (fun vs H Q E h=>?_) (fun cdv A outer s H vs Q E hr h=>?_)
 ·obtain ⟨p,l,P,os,rfl,_⟩:=h;rfl
 obtain ⟨p,l,P,os,rfl,h1,h2,h3,h4,q⟩:=h
 exact ⟨Xj K t E,(zf (y0 (pcG (kY T) T.g5 hr xx (za (pv 1) (za (zF z5 rfl T.b_len yq (za (pv 0) zd)) zd))))
  (zf (yU zfm rfl (zdW rfl T.b_enumerate (za (pv 1) zd)) (WW rfl (wc (zU (i:=2) sc_keeps.nd rfl (cr rfl)) (wc (zU (i:=3) sc_keeps.nd rfl (gD rfl)) Yr))) (zf (YQ (j:=4) sc_keeps.nd rfl rfl (cr rfl) (osc:=zj Yx) (N:=["papers","order","at","rank","higher"]) (xs:=["other"]) (ix:=[3]) (by decide +kernel) (xo (yV jg (pv 1) xV (xp (pv 2)))) (fun _ _ _ _=>(zU (i:=0) (show eV (["other","rank"]:List Str) from (by decide +kernel)) rfl (cr rfl) (.inr rfl))) (fun _ _ _ _=>(Yu (zw zbb (pv 0) (pv 1) (zJ _)))) (fun _ _ _ _=>(pv 0)))
  (zh (zW (zw (zca (Vd hr)) (pcG (qG T) T.g28 hr xx (za (pv 0) (za (pv 4) (za (pv 3) zd)))) (yC zd) (zJ _)) (zh (zt (jL (b:=false))))
    zE))))
  (zh (zt (jL (b:=true)))))),zaW h1 h2 h3 h4 q⟩
theorem zdk (T:Txt K mg t):FnOk P w K mg base (CX1 P w) 6 t.a44 t.d44 ["papers"] (Xg):=by
 refine T.g44.f.ok0 sc_chain (fun vs H Q E h=>?_) (fun cdv A outer s H vs Q E hr h=>?_)
 ·obtain ⟨p,P,rfl,_⟩:=h;rfl
 obtain ⟨p,P,rfl,h1,q⟩:=h
 exact ⟨Xl K t,(zf (zx (i:=1) sc_chain.nd rfl (cr rfl) (pcG (WS T) T.g30 hr zq (za (pv 0) zd)))
  (zf (zW (zw (YV (Vd hr)) (pv 1) (yC zd) (zJ _)) (zh (zt (yC zd)))
    zE)
  (zf (zx (i:=2) sc_chain.nd rfl (cr rfl) (yC (za (zO zZ (zO zZ (pv 1) (YE k9 (zg (i:=1))) (fun _ _=>rfl)) (zg (i:=0)) (fun _ _=>rfl)) zd)))
  (zf (yU cU rfl (zfr rfl T.b_reversed (za (yV jg (pv 1) xV (xp (YE k9 (zg (i:=1))))) zd)) (zU (i:=3) sc_chain.nd rfl (cr rfl)) (zh (y0 (qL cG db de y7 (pv 2) (za (zO zZ (pcG (qG T) T.g28 hr zq (za (pv 0) (za (pv 3) (za (zO zZ (pv 2) (YE k9 (zg (i:=1))) (fun _ _=>rfl)) zd)))) (zg (i:=0)) (fun _ _=>rfl)) zd)))))
  (zh (zt (zd4 rfl rfl T.b_list rfl T.b_reversed (za (pv 2) zd)))))))),zaV h1 q⟩
theorem ok_law (T:Txt K mg t):FnOk P w K mg base (CX1 P w) 17 t.a45 t.d45 ["script"] (sp_law K):=by
 refine T.f_law.ok0 sc_law (fun vs H Q E h=>?_) (fun cdv A outer s H vs Q E hr h=>?_)
 ·obtain ⟨a,ns,rfl,_⟩:=h;rfl
 obtain ⟨a,ns,rfl,hS,hn,q⟩:=h
 exact ⟨K4 K t,(zf (zx (i:=1) sc_law.nd rfl (gD rfl) (pcG (kX T) T.g1 hr zq (za (pcG (ym T) T.g31 hr zq (za (pv 0) (za (zg (i:=0)) zd))) (za (zg (i:=3)) zd))))
  (zf (zx (i:=2) sc_law.nd rfl (gD rfl) (pcG (Yo T) T.g2 hr zq (za (pcG (ym T) T.g31 hr zq (za (pv 0) (za (zg (i:=1)) zd))) (za (zg (i:=2)) zd))))
  (zf (zx (i:=3) sc_law.nd rfl (gD rfl) (zp zQ (zg (i:=2)) (zp zY (pcG (zu T) T.g0 hr zq (za (pcG (ym T) T.g31 hr zq (za (pv 0) (za (zg (i:=1)) zd))) (za (zg (i:=201)) zd))) (zg (i:=11)))))
  (zf (zx (i:=4) sc_law.nd rfl (cr rfl) (pcG (Wd T) T.g4 hr zq (za (pcG (ym T) T.g31 hr zq (za (pv 0) (za (zg (i:=2)) zd))) (za (pv 2) (za (pv 3) zd)))))
  (zf (zx (i:=5) sc_law.nd rfl (gD rfl) (zp zQ (zg (i:=2)) (zp zY (pcG (zu T) T.g0 hr zq (za (pcG (ym T) T.g31 hr zq (za (pv 0) (za (zg (i:=0)) zd))) (za (zg (i:=200)) zd))) (zg (i:=7)))))
  (zf (zx (i:=6) sc_law.nd rfl (gD rfl) (yV jg (pv 0) xV (xp (zg (i:=120)))))
  (zf (YQ (j:=7) sc_law.nd rfl rfl (cr rfl) (osc:=zj Xc) (N:=["script","slots","shelves","wide","table","many","cells","codes","papers","behind","told","order"]) (xs:=["at"]) (ix:=[6,5,1,2,3]) (by decide +kernel) (zaJ rfl T.b_range (za (zg (i:=0)) (za (zF z5 rfl T.b_len yq (za (pv 6) zd)) (za (pv 5) zd)))) (fun _ _ _ _=>(zU (i:=0) (show eV (["at","cells","many","slots","shelves","wide"]:List Str) from (by decide +kernel)) rfl (cr rfl) (.inr rfl))) (fun _ _ _ _=>qP) (fun _ _ _ _=>(pcG (VP T) T.g38 hr zq (za (yV jg (pv 1) (xp (pv 0)) (xp (zp zQ (pv 0) (pv 2)))) (za (pv 3) (za (pv 4) (za (pv 5) zd)))))))
  (zf (ze8 (pcG (Z7 T) T.g25 hr zq (za (pv 7) (za (pv 4) (za (QR rfl rfl T.b_list rfl T.b_range (za (zF z5 rfl T.b_len yq (za (pv 7) zd)) zd)) zd)))) (WW rfl (wc (zU (i:=8) sc_law.nd rfl (cr rfl)) (wc (zU (i:=9) sc_law.nd rfl (cr rfl)) Yr))))
  (zf (zx (i:=10) sc_law.nd rfl (cr rfl) (pcG (WS T) T.g30 hr zq (za (pv 8) zd)))
  (zf (zW (PW.pt (ZQ (wR (xi (pcG (Wf T) T.g41 hr zq (za (pv 10) (za (zF z5 rfl T.b_len yq (za (pv 7) zd)) zd))))) (Zi (wR (xi (pcG (ZP T) T.g42 hr zq (za (pv 10) (za (pcG (zdk T) T.g44 hr zq (za (pv 8) zd)) zd)))))))) (zh (zt (jL (b:=false))))
    zE)
  (zf (zW (zw (YZ (Vd hr)) (pcG (Yp T) T.g40 hr zq (za (pv 7) (za (pv 8) (za (pv 4) (za (pv 10) zd))))) (pv 9) (zJ _)) (zh (zt (jL (b:=false))))
    zE)
  (zf (zx (i:=11) sc_law.nd rfl (cr rfl) (pcG (XN T) T.g32 hr zq (za (pv 0) (za (pv 10) zd))))
  (zh (zt (ze7 (kF zbs (pcG (zdj T) T.g43 hr zq (za (pv 8) (za (pv 11) zd))) (jL (b:=true)) (zJ _)) (Kk (kF (zbR (Vd hr)) (pcG (Z7 T) T.g25 hr zq (za (pv 7) (za (pv 4) (za (pv 11) zd)))) (yj (za (pv 8) (za (pv 9) zd))) (zJ _)))))))))))))))))),zeI (kf K) hS hn q⟩
end
end K56
open PySem PySem.W PyProof.Rows
namespace PySem.W.Fast
def tw16022185629490516573:Unit:=()
def tw11020540594037675270:Unit:=()
def tw14070837917227829889:Unit:=()
def tw3852999792414906955:Unit:=()
def tw18297757564039481419:Unit:=()
def tw13000667933796254421:Unit:=()
def tw15192729065104986058:Unit:=()
def tw483826235848395905:Unit:=()
def tw3793642972369224774:Unit:=()
def tw2305713284404154466:Unit:=()
def tw6743346170372867448:Unit:=()
def tw5806252826974167313:Unit:=()
def tw8001099549344165703:Unit:=()
def tw5857669184315699577:Unit:=()
def tw14948803584696065288:Unit:=()
def tw1805901002106393197:Unit:=()
def tw7892784501373665012:Unit:=()
def tw2629441383860049087:Unit:=()
def tw7266963485561994369:Unit:=()
def tw3372285539358333676:Unit:=()
def tw10205000703085081137:Unit:=()
def tw14208220008851419098:Unit:=()
def tw15722305086666132670:Unit:=()
def tw13801718039131320375:Unit:=()
def tw2859712645268471634:Unit:=()
def tw9544757410507799398:Unit:=()
def tw1955164711282021619:Unit:=()
def tw14836183397913384097:Unit:=()
def tw12845537496933817326:Unit:=()
def tw15128324267870342402:Unit:=()
def tw9530920887641749533:Unit:=()
def tw8504070431749376123:Unit:=()
def tw5738795055438421298:Unit:=()
def tw14135663125632493623:Unit:=()
def tw16298267173309756581:Unit:=()
def tw11054704639707795305:Unit:=()
def tw2262440499913388090:Unit:=()
def tw16242536002440259771:Unit:=()
def tw2558524646446494427:Unit:=()
def tw2039814627660853128:Unit:=()
def tw3198170743632549164:Unit:=()
def tw14761535583349675373:Unit:=()
def tw13641053492042472275:Unit:=()
def tw8430658243947168038:Unit:=()
def tw8850351655799703564:Unit:=()
def tw7827680640235385416:Unit:=()
def tw13455303665425317511:Unit:=()
def tw1755649896652208135:Unit:=()
def tw16926851555574659562:Unit:=()
def tw18207738025995910060:Unit:=()
def tw15570260101912552358:Unit:=()
def tw16907993930129686235:Unit:=()
def tw1697320293378308890:Unit:=()
def tw15620305522021230363:Unit:=()
def tw7044461620263867824:Unit:=()
def tw10302470334474604519:Unit:=()
def tw5185238682618083143:Unit:=()
def tw1157028193029880520:Unit:=()
def tw5175096102978546848:Unit:=()
def tw10574818326074050324:Unit:=()
def tw11677642683816144963:Unit:=()
def tw10422688753229087106:Unit:=()
def tw6796219951583172738:Unit:=()
def tw12807395736458653498:Unit:=()
def tw10454774610827153019:Unit:=()
def tw5513053516003931590:Unit:=()
def tw2742628939940792923:Unit:=()
def tw3992492759723548264:Unit:=()
def tw9406181141487253204:Unit:=()
def tw10754203653852089965:Unit:=()
def tw16305549782394064826:Unit:=()
def tw14352925628477068786:Unit:=()
def tw13449495626709468702:Unit:=()
def tw5205261286411927727:Unit:=()
def tw4608089749776183430:Unit:=()
def tw7788123596309388568:Unit:=()
def tw13999043845490902226:Unit:=()
def tw12081434748073032262:Unit:=()
def tw14960827436924728882:Unit:=()
def tw99836308814565051:Unit:=()
def tw11830099035438000412:Unit:=()
def tw9616910067184799010:Unit:=()
def tw5976849487372379949:Unit:=()
def tw12397520472286257625:Unit:=()
def tw9530989108964781374:Unit:=()
def tw10083108944790541923:Unit:=()
def tw12683624141376650141:Unit:=()
def tw14285272164770339922:Unit:=()
def tw5687019675548986263:Unit:=()
def tw15426953352816002877:Unit:=()
def tw1239770000934880043:Unit:=()
def tw2086112523548450541:Unit:=()
def tw941562234065507079:Unit:=()
def tw11714963859437602023:Unit:=()
def tw11879943615072013465:Unit:=()
def tw6495090277644641839:Unit:=()
def tw1668455175704562537:Unit:=()
def tw12898889460469456359:Unit:=()
def tw8274823132904847585:Unit:=()
def tw15379103524190908368:Unit:=()
def tw5490944088174670536:Unit:=()
def tw8393652870858640514:Unit:=()
def tw18106664630229851050:Unit:=()
def tw16774660245568590705:Unit:=()
def tw3846274927754844394:Unit:=()
def tw10907698508690238087:Unit:=()
def tw14827342530105649304:Unit:=()
def tw4347437242824867474:Unit:=()
def tw14024561256410516389:Unit:=()
def tw18210390885696920916:Unit:=()
def tw10327699619373048025:Unit:=()
def tw13172580262661584042:Unit:=()
def tw7646726487838021306:Unit:=()
def tw422576916114588042:Unit:=()
def tw4951137896116405591:Unit:=()
def tw446432041537838522:Unit:=()
def tw12067450476313435577:Unit:=()
def tw16970883778526213341:Unit:=()
def tw17528345457264245578:Unit:=()
def tw14872919590189139810:Unit:=()
def tw14845354122339298585:Unit:=()
def tw3012855199038796723:Unit:=()
def tw17443201160968732319:Unit:=()
def tw10624831568940949751:Unit:=()
def tw13231809981948840286:Unit:=()
def tw16981119324408939982:Unit:=()
def tw14074429390578798625:Unit:=()
def tw14420790476328743616:Unit:=()
def tw13053498055651668314:Unit:=()
def tw17033604023572296472:Unit:=()
def tw15735666868184542176:Unit:=()
def tw3120646649872866613:Unit:=()
def tw2966043743622395124:Unit:=()
def tw15786601829011987796:Unit:=()
def tw2562867867051631099:Unit:=()
def tw14173151444880904927:Unit:=()
def tw7271022510422955891:Unit:=()
def tw617668045388734958:Unit:=()
def tw7883144071418710173:Unit:=()
def tw16814632195907786188:Unit:=()
def tw5309834565920512314:Unit:=()
def tw16861966283851857317:Unit:=()
def tw5974287653460558570:Unit:=()
def tw4826492145768536665:Unit:=()
def tw3333586275087887574:Unit:=()
def tw456603275572256538:Unit:=()
def tw1164764651875009819:Unit:=()
def tw7025233401198446301:Unit:=()
def tw3194764783462374932:Unit:=()
def tw16620489643287802546:Unit:=()
def tw15166971749299683385:Unit:=()
def tw7922530381776652529:Unit:=()
def tw10081703005051165768:Unit:=()
def tw1949725146293162032:Unit:=()
def tw16849894559051763702:Unit:=()
def tw13973407997287373778:Unit:=()
def tw10757552858615580553:Unit:=()
def tw13117147803058499488:Unit:=()
def tw10765687608414030109:Unit:=()
def tw7916984702494808387:Unit:=()
def tw2121837837857656913:Unit:=()
def tw8137380398300521475:Unit:=()
def tw14200386890565168101:Unit:=()
def tw3559827563831420307:Unit:=()
def tw18088395634390277448:Unit:=()
def tw14330382010802998735:Unit:=()
def tw6459933341181602233:Unit:=()
def tw13307961446222451571:Unit:=()
def tw416746306501866480:Unit:=()
def tw16223198732093616884:Unit:=()
def tw16609870439318312258:Unit:=()
def tw8448022609360161915:Unit:=()
def tw12595162873317312586:Unit:=()
def tw10115541343972337615:Unit:=()
def tw1485872159598870727:Unit:=()
def tw7707990926302388565:Unit:=()
def tw5602129391337199789:Unit:=()
def tw14160831756112762313:Unit:=()
def tw7510795394808705299:Unit:=()
def tw16463830710002414084:Unit:=()
def tw10974191153335844324:Unit:=()
def tw5780283952758535222:Unit:=()
def tw12489056395614105095:Unit:=()
def tw11526496448935716675:Unit:=()
def tw3410812607313194005:Unit:=()
def tw14388042457102188228:Unit:=()
def tw1914879642044410949:Unit:=()
def tw11756608514883762664:Unit:=()
def tw2321029633274862447:Unit:=()
def tw10904841482167098403:Unit:=()
def tw16181163367636930718:Unit:=()
def tw18133010111641175168:Unit:=()
def tw16555213675549059398:Unit:=()
def tw5155077213674329110:Unit:=()
def tw2236659183400546543:Unit:=()
def tw12079451747212068843:Unit:=()
def tw12848930542122209498:Unit:=()
def tw382971775080082808:Unit:=()
def tw1049964143836379710:Unit:=()
def tw1131667405364542457:Unit:=()
def tw4374223015297447242:Unit:=()
def tw8733397635664922100:Unit:=()
def tw1596141307804450107:Unit:=()
def tw16586042883300289078:Unit:=()
def tw6162679429535977128:Unit:=()
def tw6002664053287418926:Unit:=()
def tw15222073900263904738:Unit:=()
def tw6330715727923940805:Unit:=()
def tw16879366075414653096:Unit:=()
def tw3208749677399624845:Unit:=()
def tw14766250989967198416:Unit:=()
def tw15757998037758635714:Unit:=()
def tw10427161845657665134:Unit:=()
def tw16976993745785794637:Unit:=()
def tw9897272826349490490:Unit:=()
def tw15583852048178879648:Unit:=()
def tw13732798967316379303:Unit:=()
def tw13408599973219727149:Unit:=()
def tw15893773637406162924:Unit:=()
def tw1586000135702756812:Unit:=()
def tw18064894441636757761:Unit:=()
def tw15271037193701663971:Unit:=()
def tw16186576310234396083:Unit:=()
def tw11159934082269242598:Unit:=()
def tw15663775380935792737:Unit:=()
def tw4452908090473624454:Unit:=()
def tw1879261089205728286:Unit:=()
def tw18431497781174496902:Unit:=()
def tw5350738042918518346:Unit:=()
def tw8001796669001396201:Unit:=()
def tw13317424377316450750:Unit:=()
def tw4707062321091501713:Unit:=()
def tw2090673162664070018:Unit:=()
def tw12284810720961711186:Unit:=()
def tw4589310769300555921:Unit:=()
def tw7853995543687984902:Unit:=()
def tw13204613765588916348:Unit:=()
def tw17043755679378805098:Unit:=()
def tw4785681274663969113:Unit:=()
def tw13161570269695182317:Unit:=()
def tw8849282174560668097:Unit:=()
def tw3917762016966185729:Unit:=()
def tw16327577777606963378:Unit:=()
def tw3598632301444665507:Unit:=()
def tw3534188652155344173:Unit:=()
def tw7126479085337050432:Unit:=()
def tw3088053555610104459:Unit:=()
def tw10269885363847425979:Unit:=()
def tw15456746919448262219:Unit:=()
def tw9680722411518044227:Unit:=()
def tw15451513883953946779:Unit:=()
def tw5776204488395691701:Unit:=()
def tw7271505681088363454:Unit:=()
def tw15591729540504888462:Unit:=()
def tw1306555420244490504:Unit:=()
def tw17576145136640086675:Unit:=()
def tw9472906915579550348:Unit:=()
def tw16899904713267745691:Unit:=()
def tw5340119063656800443:Unit:=()
def tw3853266642519684790:Unit:=()
def tw13727357213430762045:Unit:=()
def tw17244298881150120219:Unit:=()
def tw7414098676665153355:Unit:=()
def tw17379480208401245309:Unit:=()
def tw8911356223003661365:Unit:=()
def tw12573617825994165677:Unit:=()
def tw5814722229136709460:Unit:=()
def tw17588667588193782951:Unit:=()
def tw16180195016483028478:Unit:=()
def tw7780258128850027977:Unit:=()
def tw616564913248344814:Unit:=()
def tw16364534675039723977:Unit:=()
def tw13810701528902047637:Unit:=()
def tw4238121571587627628:Unit:=()
def tw14842671385220684942:Unit:=()
def tw69132984800874969:Unit:=()
def tw937932503607865314:Unit:=()
def tw16157186113793274765:Unit:=()
def tw17259015240041804959:Unit:=()
def tw694847925354131713:Unit:=()
def tw6549488835757550667:Unit:=()
def tw9714952039863827540:Unit:=()
def tw5816999378625105913:Unit:=()
def tw16971558646180144179:Unit:=()
def tw11022741621266293074:Unit:=()
def tw203771897912373101:Unit:=()
def tw15006224627015448181:Unit:=()
def tw1848033593846549029:Unit:=()
def tw11054356565095088261:Unit:=()
def tw1653131405951192399:Unit:=()
def tw17021932996480522252:Unit:=()
def tw13090964127134757783:Unit:=()
def tw15181263963675278747:Unit:=()
def tw12683032118177487505:Unit:=()
def tw8812215539084619088:Unit:=()
def tw3849070551246723013:Unit:=()
def tw5711703408957542023:Unit:=()
def tw8289650059525748524:Unit:=()
def tw16491208088985906331:Unit:=()
def tw16554411745501511549:Unit:=()
def tw10954458653255371049:Unit:=()
def tw1166492999419145453:Unit:=()
def tw11525540956980101127:Unit:=()
def tw17349753365326379901:Unit:=()
def tw6125662077641448683:Unit:=()
def tw10527779375933732887:Unit:=()
def tw11506888562200566718:Unit:=()
def tw3480057493156358189:Unit:=()
def tw2466224122044900883:Unit:=()
def tw10878432802786124319:Unit:=()
def tw16869731217767075020:Unit:=()
def tw14102079695960933865:Unit:=()
def tw13184726249512174602:Unit:=()
def tw6589125759062793947:Unit:=()
def tw6593567103940626724:Unit:=()
def tw933243707183437782:Unit:=()
def tw14919666125911318893:Unit:=()
def tw14041798999598099013:Unit:=()
def tw10238658482496243168:Unit:=()
def tw10885589635459981198:Unit:=()
def tw4843865141233580406:Unit:=()
def tw15820673805568344571:Unit:=()
def tw4524577242066441028:Unit:=()
def tw2523684091100368676:Unit:=()
def tw4130519390683379040:Unit:=()
def tw11370150716830734776:Unit:=()
def tw17926701004442438828:Unit:=()
def tw18140227242228943373:Unit:=()
def tw14568956574559346371:Unit:=()
def tw13865302788385317790:Unit:=()
def tw7452107080540025929:Unit:=()
def tw2164646040008972026:Unit:=()
def tw6286735563837252836:Unit:=()
def tw13007417314838589340:Unit:=()
def tw3633673706368055862:Unit:=()
def tw12429086242162010902:Unit:=()
def tw15298971560743750554:Unit:=()
def tw14329186370657780089:Unit:=()
def tw11356601931255129191:Unit:=()
def tw15066013555384889128:Unit:=()
def tw5759075282601905892:Unit:=()
def tw2133681567641643296:Unit:=()
def tw13198968219414212449:Unit:=()
def tw294688723801334059:Unit:=()
def tw12653834969013943186:Unit:=()
def tw3338221471280355472:Unit:=()
def tw12344551234934093654:Unit:=()
def tw12371874754227578246:Unit:=()
def tw11593482256901173544:Unit:=()
def tw17503529532133555582:Unit:=()
def tw18192133437746476627:Unit:=()
def tw6320675255543896317:Unit:=()
def tw10074184118364598812:Unit:=()
def tw11070454177554841688:Unit:=()
def tw5169263977675549064:Unit:=()
end PySem.W.Fast
set_option maxRecDepth 100000 in
set_option maxHeartbeats 0 in
theorem PySem.Challenge.cw_forerun_k56_whole_a_round_at_once_holds : PySem.Challenge.rw_forerun_k56_whole_a_round_at_once.Holds := by
 w_on; o_law; k_head; (case hw => w_witness2)
 k_fill
 refine L2.walk_ofX (l := PySem.Challenge.rw_forerun_k56_whole_a_round_at_once) (n := 63) (k := 17) (x := "script") (sp := K56.sp_law) rfl (by decide) rfl ⟨rfl, by decide, by decide⟩ (fun w h Y => PySem.W.kIn_of Y) ?F ?S
 case F =>
  intro w mg fa h KX G hmg
  have T : ∃ t, K56.Txt (L2.KOf KX) mg t := by
   dsimp only [L2.KOf]
   refine' K56.txt_mk KX G ?h0 ?h1 ?h2 ?h3 ?h4 ?h5 ?qa6 ?qi6 ?ql6 ?qc6 ?qk6 ?h7 ?h8 ?h9 ?h10 ?h11 ?h12 ?h13 ?h14 ?h15 ?h16 ?h17 ?h18 ?h19 ?qa20 ?qi20 ?ql20 ?qc20 ?qk20 ?qd20 ?h21 ?h22 ?h23 ?h24 ?h25 ?h26 ?h27 ?h28 ?h29 ?h30 ?h31 ?h32 ?h33 ?h34 ?h35 ?h36 ?h37 ?h38 ?h39 ?h40 ?h41 ?h42 ?h43 ?h44 ?qa45 ?ql45 ?qc45 ?qk45 ?qz0 ?qz1 ?qz2 ?qz3 ?qz4 ?qz5 ?qz6 ?qz7 ?qz8 ?qz9 ?qz10 ?qz11 ?qz12 ?qg0 ?qh0 ?qv0 ?qv1 ?qv2 ?qv3 ?pg3 ?pd3 ?po3 ?pe3 ?pm3_ ?pk3 ?pn3_0 ?pn3_1 ?pn3_2 ?pn3_3 ?pn3_4 ?pn3_5 ?pn3_6 ?rx0 ?ry0 ?re0_0 ?re0_1 ?rm0_0 ?rx1 ?ry1 ?re1_0 ?re1_1 ?rm1_0 ?rx2 ?ry2 ?re2_0 ?re2_1 ?rm2_0
   (case qv0 | qv1 | qv2 | qv3 => k_is)
   (case h0 | h1 | h2 | h3 | h4 | h5 => exact ⟨_, by k_is, _, _, _, _, _, _, _, _, _, by k_is, by k_is, by k_is⟩)
   (case qa6 | qi6 | ql6 | qc6 | qk6 => k_is)
   (case h7 | h8 => exact ⟨_, by k_is, by k_is, _, _, _, _, _, _, _, _, _, by k_is, by k_is, by k_is⟩)
   (case h9 | h10 | h11 | h12 | h13 => exact ⟨_, by k_is, _, _, _, _, _, _, _, _, _, by k_is, by k_is, by k_is⟩)
   (case h14 | h15 | h16 | h17 | h18 | h19 => exact ⟨_, by k_is, by k_is, _, _, _, _, _, _, _, _, _, by k_is, by k_is, by k_is⟩)
   (case qa20 | qi20 | ql20 | qc20 | qk20 | qd20 => k_is)
   (case h21 | h22 | h23 | h24 | h25 | h26 | h27 | h28 | h29 | h30 | h31 | h32 | h33 | h34 | h35 | h36 | h37 | h38 | h39 | h40 | h41 | h42 | h43 | h44 => exact ⟨_, by k_is, _, _, _, _, _, _, _, _, _, by k_is, by k_is, by k_is⟩)
   (case qa45 | ql45 | qc45 | qk45 | qz0 | qz1 | qz2 | qz3 | qz4 | qz5 | qz6 | qz7 | qz8 | qz9 | qz10 | qz11 | qz12 | qg0 | qh0 | pg3 | pd3 | po3 | pe3 | pm3_ | pk3 | pn3_0 | pn3_1 | pn3_2 | pn3_3 | pn3_4 | pn3_5 | pn3_6 => k_is)
   (case rx0 => k_exc)
   (case ry0 => exact ⟨_, by k_is, by k_is, by k_is, by k_is, by k_is, by k_is, by k_is, by k_is⟩)
   (case re0_0 | re0_1 | rm0_0 => kernel_rfl)
   (case rx1 => k_exc)
   (case ry1 => exact ⟨_, by k_is, by k_is, by k_is, by k_is, by k_is, by k_is, by k_is, by k_is⟩)
   (case re1_0 | re1_1 | rm1_0 => kernel_rfl)
   (case rx2 => k_exc)
   (case ry2 => exact ⟨_, by k_is, by k_is, by k_is, by k_is, by k_is, by k_is, by k_is, by k_is⟩)
   (case re2_0 | re2_1 | rm2_0 => kernel_rfl)
  obtain ⟨t, T⟩ := T
  have e0 := hmg.symm.trans T.m_law
  cases e0
  exact ⟨_, T.w_law, fun base _ _ => K56.ok_law T⟩
 case S => exact fun K H a ns hl _ hS => ⟨a, ns, rfl, hS, hl, fun _ => rfl⟩
