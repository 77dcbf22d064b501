import PyProof.Rows.All
import Wide.All
import OpenK.AllK
import PySem.Challenge.RW_forerun_k28_whole_fed_is_alone
open Array renaming length_toList→cm,getElem?_eq_getElem→cw,getElem?_toList→dA,perm_iff_toList_perm→fU,toList_inj→gg,getElem?_eq_none→gJ,getD_eq_getD_getElem?→iU,getElem?_map→nG
open Array.Perm renaming trans→mv,mem_iff→nE,refl→oA
open Bool renaming false_ne_true→bK,and_eq_true→bX,not_eq_true'→b7,false_eq_true→cr,or_eq_false_iff→iA,eq_iff_iff→iO,or_eq_true→oC
open False renaming elim→cI
open ForInStep renaming yield→fF
open Int renaming emod_lt_of_pos→cT,emod_nonneg→du,toNat_natCast→dJ,toNat_of_nonneg→e9,reduceNeg→fb,reducePow→fT,ediv_nonneg→i4,reduceToNat→mR,ediv_le_self→oj,add_mul→oB
open Int.ofNat renaming inj→oO
open List renaming getElem?_cons_zero→bd,getElem?_eq_getElem→bg,getElem?_cons_succ→bh,getD_eq_getElem?_getD→bo,getElem?_eq_some_iff→bp,append_nil→bt,length_append→bw,mem_cons_of_mem→bx,mem_append→bz,length_map→bB,mem_singleton→bD,set_cons_zero→bE,mem_of_getElem?→bF,mem_cons_self→bH,set_cons_succ→bI,size_toArray→bJ,replicate→bM,mem_cons→bN,length→bP,getElem?_map→bQ,mem_append_right→bV,map_cons→bW,cons_append→cb,append_assoc→cg,nil_append→cj,length_cons→ck,pairwise_append→cq,nodup_cons→cu,take_of_length_le→cB,map→cC,length_take→cE,mem_map→cG,lookup_cons→cJ,pairwise_iff_getElem→cO,mem_map_of_mem→cP,length_drop→cR,getElem?_eq_none→cU,getElem?_append_right→cW,mem_append_left→cZ,getElem?_append_left→dm,drop_zero→dq,getElem?_take_of_lt→dy,length_singleton→dz,getElem?_drop→dC,getElem?_of_mem→dD,all_eq_true→dE,take_add_one→dL,take_append_drop→dO,range→dX,reverse_cons→dY,pairwise_map→eh,take_length→eG,drop_eq_getElem_cons→eN,foldl_cons→eR,mem_singleton_self→eX,eq_nil_of_length_eq_zero→fj,drop_eq_nil_of_le→fm,mem_filterMap→fq,length_replicate→fC,find?_cons→fD,map_append→fE,perm_append_comm→fH,all_cons→fP,ext_getElem?→fR,mem_of_mem_drop→fV,mem_of_mem_take→fW,drop_drop→fZ,not_mem_nil→gh,drop_length→gn,getElem_mem→gq,map_congr_left→gr,map_map→gB,lookup→gN,eraseIdxIfInBounds_toArray→gQ,getElem_inj→ip,any_cons→iE,map_take→iF,Nodup→iJ,mem_filter→iM,filterMap_cons→iN,of_mem_zip→iQ,getElem?_range→iW,nodup_nil→lq,take_zero→lC,any_eq_false→lH,getElem?_inj→lT,getElem?_replicate→lV,map_drop→l5,filter_cons→mq,getElem?_set_self→mw,filterMap_append→mS,length_filter_le→mT,getElem?_set_ne→mW,reverse_reverse→mY,reverse_append→nh,filter_sublist→nj,filter_append→nN,toArray→nZ,reverse_nil→oh,mem_reverse→oi,length_nil→oy
open List.Nodup renaming sublist→nK
open List.Pairwise renaming nil→lN
open List.Perm renaming append_right→fo,append_left→fG,trans→iV
open List.cons renaming injEq→bq
open Nat renaming le_refl→bu,reduceAdd→bO,le_succ_of_le→bT,lt_of_le_of_lt→bY,reduceSub→bZ,zero_le→b9,le_trans→cf,lt_of_lt_of_le→cx,ne_of_lt→cz,succ_le_succ→dF,ne_of_gt→dW,lt_irrefl→fO,min_eq_left→gH,add_assoc→iG,add_sub_cancel_left→mj,lt_succ_self→ml,min_eq_right→ms,le_of_eq→mK,zero_add→mP,le_of_lt→nU,lt_trans→nY,le_add_right→om
open Ne renaming symm→cA
open Option renaming map_eq_some_iff→dk,isSome_iff_exists→eQ,map_some→gE,isSome_map→lL,getD_none→og,or_none→oF
open Option.some renaming injEq→bi,inj→ca
open Or renaming inl→cH,inr→mO
open Prod renaming ext→oN
open Prod.mk renaming inj→mf
open PyProof renaming noPylong_of_log2→lO
open PyProof.Rows renaming wpS_bind→bG,wpS_pure→bR,wpS_forRange→c8,wpS_mono→dR,wpS_modify→eF,callWith_type1→fA,reads_newData→lZ,subscriptTail_builtinR→mD,wpS_lift→mV,entry_proto_collect'→mZ,lt_int→m7,listUpdate_at→nH
open PyProof.Rows.SortSt renaming mk'→iI
open PySem renaming wpAny_bind→ba,wpAny_pure→bj,wpAny_call_entry→cN,wpAny_setField_rec→cS,wpAny_typeNameOfWhole_itemiter→cV,wpAny_newObj_type→cY,wpAny_mono→db,wpAny_callSpecial?_slot→dg,wpAny_typeNameOf_itemiter→dt,wpAny_isOneOf_itemiter→dI,wpAny_holding→dM,wpAny_typeNameOfWhole_keyiter→dQ,wpAny_dictEntries→dZ,wpAny_execs_nil→et,mem_of_lookup→eC,codeAny_builtin→eD,codeAny_mono→eI,tupleKind_room_in1→eJ,sizeLine_eq→eL,wpAny_passesOwn→eO,wpAny_dictEpoch→eS,wpAny_typeNameOf_keyiter→eT,wpAny_Call_Name_kw→fu,wpAny_notOrdered_dict→fI,wpAny_loadPart'→fJ,wpAny_field→fK,plainId_quiet→fS,wpAny_Call_method0_late→gD,wpAny_attempt→gI,wpAny_truthy_bool→gM,plainObj_wpAny_Assign_Attribute→gO,wpAny_rule→gR,slot_list_setitem→gT,wpAny_fieldsOf→gY,codeAny_handlers_test→io,wpAny_execs_cons→iq,evalArgs_none→iR,wpAny_handleBy_cons→iZ,wpAny_updateSeq→i0,wpAny_richCompare_same_room→i3,wpAny_newFunctionEnv_cells→i8,call_meets→lK,call→lM,wpAny_pyIter_slot→lQ,wpAny_listSubscript_int→mh,wpAny_pyNext_list_item→my,wpAny_pyNext_range_end→mB,wpAny_pyIter_rangeiter→mC,wpAny_Assign_Subscript→mE,codeAny_handlers_suite→mG,wpAny_pyNext_list_end→mJ,codeAny_call_function→mM,wpAny_isOneOf_keyiter→mQ,wpAny_load→mU,wpAny_newTuple→m4,wpAny_setField→m5,wpAny_newList→nI,wpAny_call→nQ,Within→nT,seqIndex_neg→nX,wpAny_typeOf→n9
open PySem.Around renaming under_plainId→dh,frames_deeper→mX,under→nV
open PySem.Builtin.Dict renaming showsAll→dP,updateFrom→l7,noArgs→nk
open PySem.Builtin.Dict_items renaming ownsTuple→da,ownedTupleIsFree→dw,pairFromOwner→dG,ownedTupleFields→gu
open PySem.Builtin.Int renaming intBits→iS
open PySem.Builtin.List renaming listExtendWith→df,listTooLong→gA,listItems→gK,listSubscript?→i5,listSameRef→lS
open PySem.Builtin.Range renaming rangeSize→gC,small→nr
open PySem.Builtin.Str renaming strSliceIndices→iT,occurrences→lY
open PySem.Calls renaming callWith_builtin→eE,spliced_cons→ft,evalArgs_plain→iz,Name_function_global→i7,call_function_entry→lD,spliced_nil→lJ,Constant_str→nv
open PySem.Code renaming isFrame→nW
open PySem.F renaming plainAttrs_list→ci,slot_dict_itemiterator_next→cF,slot_list_append→cL,type_list_append→cM,plain_extend_loop→dN,slot_dict_keyiterator_next→dU,args_dict_itemiterator_next_1→eU,entry_dict_itemiterator_next→eV,plain_list_iadd→eY,slot_dict_items→eZ,slot_tuple_lt→fL,slot_list_pop→fM,type_list_pop→fN,plainAttrs_dict→gG,slot_dict_get→ig,args_dict_keyiterator_next_1→ij,entry_dict_keyiterator_next→iu,slot_dict_itemiterator_iter→iy,plain_proto_collect→iY,args_dict_items_1→lE,entry_extend_loop→lF,entry_dict_items→lR,args_dict_get_3→lW,type_dict_items→l9,args_tuple_lt_2→md,entry_dict_get→mF,slot_dict_items_iter→mH,entry_tuple_lt→mI
open PySem.Heap renaming get?_push_of_some→bn,get?_push_size→bC,lt_size→bS,SameBut→cQ,get?_update_other→dH,size_push→gU,get?_update_self→ik,get?_push_cases→m3
open PySem.Heap.SameBut renaming update→iX
open PySem.NameKind renaming free→c9,cell→lX
open PySem.Obj renaming mapSeq→de,data_mapFields→nJ
open PySem.Paired renaming length→cy
open PySem.PassesOwn renaming never→dv
open PySem.PyData renaming depthAll→bU,strOk→b6,depth→cK,canLay0→eM,canLayAll0→fQ,eqv→gS,eqvAll→iH,list→oE,int→oI
open PySem.SeqAt renaming noMixAll→gX,shaped→ii,noMix→m8
open PySem.SeqAt.EqAt renaming int_int→lh,str_str→lj,int_str→nt,str_int→nu
open PySem.Shared renaming TypeIs→l8
open PySem.Spec renaming sameAll→ll,same→oz
open PySem.Str renaming ofString→bb,length→gP,empty→iP,length_append→lP
open PySem.Txt renaming slice→fh
open PySem.Value renaming ref→bL,none→cD,bool→gL,int→ic,str→iK,type→lG,float→oq
open PySem.W renaming Frag→br,findIn→cX,mg_none_of→eK,keepIn→eW,hideAll_none→fk,emptyDict→fB,hideAll→fX,kia_one→fY,codeIn→gW,exmOne→gZ,fnOf→ie,funFrames_hide→ir,nsIn→iB,hideAll_get→iC,kitOne→iD,instObj→iL,of_hideAll→i9,callWith_K→lg,plainGet→lI,hasDictIn→lU,cellsFrom_some→mo,methodCall_KW→mL,plainOver→m6,plainGet_of→nz,OpenLaw→nD,kitAny→nM,excIn→nR,mg_of→nS,exmAny→on,methodObj→ot,makesIn→ou,specialIn→ox,isFn→oG,lookIn→oJ,mroIn→oK,WalkO→oM
open PySem.W.KatTups renaming cons→oP
open PySem.W.Looks renaming ld→oH
open Sum renaming inl→nO,inr→nP
open True renaming intro→eP
set_option Elab.async false
set_option linter.all false
set_option maxRecDepth 100000
namespace L2
open PySem PySem.Spec PyProof.Rows
abbrev Key:=Sum Int Str
def Vf:Key→Value→Bool
 | .inl k,v=>Value.isInt k v
 | .inr x,v=>Value.isStrOf x v
def zgb (w:World):Key→Int
 | .inl k=>hashInt k
 | .inr x=>hashStr w x
theorem yK:∀ {k:Key} {v:Value},Vf k v=true→(∃ i t,k=nO i∧v=ic i t)∨(∃ x t,k=nP x∧v=iK x t)
 | .inl i,v,h=>by
  obtain ⟨t,e⟩:=Value.isInt_shape (k:=i) (v:=v) h
  exact .inl ⟨i,t,rfl,e⟩
 | .inr x,v,h=>by
  obtain ⟨t,e⟩:=Value.isStrOf_shape (x:=x) (v:=v) h
  exact .inr ⟨x,t,rfl,e⟩
theorem za3 (i:Int) (t:Tok):Vf (.inl i) (.int i t)=true:=by simp [Vf,Value.isInt]
theorem za4 (x:Str) (t:Tok):Vf (.inr x) (.str x t)=true:=by simp [Vf,Value.isStrOf]
theorem zeT (a b:Int):decide ((nO a:Key)=nO b)=(a == b):=by
 by_cases e:a=b
 ·subst e;simp
 ·have h:¬ (nO a:Key)=nO b:=fun q=>e (Sum.inl.inj q)
  rw [decide_eq_false h]
  exact (beq_eq_false_iff_ne.mpr e).symm
theorem zeU (a b:Str):decide ((nP a:Key)=nP b)=decide (a=b):=by
 by_cases e:a=b
 ·subst e;simp
 ·have h:¬ (nP a:Key)=nP b:=fun q=>e (Sum.inr.inj q)
  rw [decide_eq_false h,decide_eq_false e]
theorem zeV (a:Int) (b:Str):decide ((nO a:Key)=nP b)=false:=decide_eq_false (fun q=>nomatch q)
theorem zeW (a:Str) (b:Int):decide ((nP a:Key)=nO b)=false:=decide_eq_false (fun q=>nomatch q)
def yL (prog:Program) (w:World):PySem.KeyKind prog w Key where
 is:=Vf
 hash:=zgb w
 inj:=fun v a b ha hb=>by
  rcases yK ha with ⟨i,t,rfl,rfl⟩ | ⟨x,t,rfl,rfl⟩
  ·rcases yK hb with ⟨j,u,rfl,e⟩ | ⟨y,u,rfl,e⟩
   ·injection e with e1 _;rw [e1]
   ·exact nomatch e
  ·rcases yK hb with ⟨j,u,rfl,e⟩ | ⟨y,u,rfl,e⟩
   ·exact nomatch e
   ·injection e with e1 _;rw [e1]
 byValue:=fun k v h=>by
  rcases yK h with ⟨i,t,rfl,rfl⟩ | ⟨x,t,rfl,rfl⟩ <;> rfl
 pyHash:=fun hv h=>by
  rcases yK hv with ⟨i,t,rfl,rfl⟩ | ⟨x,t,rfl,rfl⟩
  ·exact wpAny_pyHash_int h
  ·exact wpAny_pyHash_str h
 eqBool:=fun hu hv h=>by
  rcases yK hu with ⟨i,t,rfl,rfl⟩ | ⟨x,t,rfl,rfl⟩
  ·rcases yK hv with ⟨j,u,rfl,rfl⟩ | ⟨y,u,rfl,rfl⟩
   ·rw [zeT] at h;exact wpAny_eqBool_int h
   ·rw [zeV] at h;exact nt i t y u _ _ _ _ h
  ·rcases yK hv with ⟨j,u,rfl,rfl⟩ | ⟨y,u,rfl,rfl⟩
   ·rw [zeW] at h;exact nu x t j u _ _ _ _ h
   ·rw [zeU] at h;exact wpAny_eqBool_str h
 «strs»:=fun k x t v h=>by
  rcases yK h with ⟨i,u,rfl,e⟩ | ⟨y,u,rfl,e⟩
  ·exact nomatch e
  ·injection e with e1 _
   subst e1
   cases v <;> rfl
theorem JT (prog:Program) (w:World) (i:Int) (t:Tok):(yL prog w).is (.inl i) (.int i t)=true:=za3 i t
theorem JU (prog:Program) (w:World) (x:Str) (t:Tok):(yL prog w).is (.inr x) (.str x t)=true:=za4 x t
inductive V where
 | non | bl (b:Bool) | int (i:Int) | str (x:Str) | byt (b:Array UInt8) | flt (b:UInt64) | ref (a:Addr) | ty (n:String)
 deriving DecidableEq
def RelV:V→Value→Prop
 | .non,u=>u=cD
 | .bl b,u=>u=gL b
 | .int i,u=>∃ t,u=ic i t
 | .str x,u=>∃ t,u=iK x t
 | .byt b,u=>∃ t,u=Value.bytes b t
 | .flt b,u=>∃ t,u=oq b t
 | .ref a,u=>u=bL a
 | .ty n,u=>u=lG n
abbrev Vals:List V→List Value→Prop:=Paired RelV
theorem Vals.length {xs:List V} {us:List Value} (r:Vals xs us):xs.length=us.length:=cy r
theorem Vals.get:∀ {xs:List V} {us:List Value} {i:Nat} {x:V},Vals xs us→xs[i]?=some x→∃ u,us[i]?=some u∧RelV x u
 | _,_,_,_,.nil,e=>by simp at e
 | _,_,0,_,.cons r _,e=>by simp at e;subst e;exact ⟨_,rfl,r⟩
 | _,_,i + 1,x,.cons _ t,e=>by
  obtain ⟨u,h1,h2⟩:=Vals.get (i:=i) (x:=x) t (by simpa using e)
  exact ⟨u,by simpa using h1,h2⟩
theorem Vals.append:∀ {xs ys:List V} {us ws:List Value},Vals xs us→Vals ys ws→Vals (xs ++ ys) (us ++ ws)
 | _,_,_,_,.nil,s=>s
 | _,_,_,_,.cons r t,s=>.cons r (Vals.append t s)
theorem Vals.take:∀ {xs:List V} {us:List Value} (n:Nat),Vals xs us→Vals (xs.take n) (us.take n)
 | _,_,0,_=>.nil
 | _,_,_ + 1,.nil=>.nil
 | _,_,n + 1,.cons r t=>.cons r (Vals.take n t)
theorem Vals.drop:∀ {xs:List V} {us:List Value} (n:Nat),Vals xs us→Vals (xs.drop n) (us.drop n)
 | _,_,0,r=>r
 | _,_,_ + 1,.nil=>.nil
 | _,_,n + 1,.cons _ t=>Vals.drop n t
def RelO:Option V→Option Value→Prop
 | some v,some u=>RelV v u
 | none,none=>True
 | _,_=>False
def KV {κ:Type}:List (κ × V)→List (κ × Value)→Prop:=Paired fun (p:κ × V) (q:κ × Value)=>p.1=q.1∧RelV p.2 q.2
def kV:Key→V
 | .inl i=>.int i
 | .inr x=>.str x
inductive HO where
  | lst (xs:List V)
  | tup (xs:List V)
  | dK (kvs:List (Key × V)) | dT (kvs:List (List Key × V))
  | set (S:Int→Bool) (n:Nat)
  | ins (C dx:Addr) (fs:List (Str × V))
  | own (x:Addr)
  | xd (fs:List (Str × V))
  | met (f x:Addr)
  | rng (lo hi:Int)
  | frz (o:Obj) (u:HO)
  | tbl (ps:Array Value)
  | ext (φ:Heap→Prop)
abbrev Hp:=Addr→Option HO
def upd (H:Hp) (a:Addr) (o:HO):Hp:=fun b=>if b=a then some o else H b
theorem zf {H:Hp} {a:Addr} {o:HO}:upd H a o a=some o:=by unfold upd;rw [if_pos rfl]
theorem zj {H:Hp} {a b:Addr} {o:HO} (h:b≠a):upd H a o b=H b:=by unfold upd;rw [if_neg h]
theorem XE {H:Hp} {a:Addr} {o u:HO}:upd (upd H a o) a u=upd H a u:=by
 funext b;unfold upd;split <;> rfl
theorem yi {H:Hp} {a b:Addr} {o u:HO} (h:H a=some o) (h':H b=some u) (d:o≠u):a≠b:=by
 intro e;subst e;rw [h] at h';exact d (ca h')
theorem zB {H:Hp} {a b:Addr} {o:HO} (h:H a=some o) (h':H b=none):a≠b:=by
 intro e;subst e;rw [h] at h';cases h'
section
variable (P:Program) (w:World)
def ObjOk (H:Hp) (h:Heap) (a:Addr):HO→Prop
 | .lst xs=>xs.length≤sizeLine∧∃ (its:List Value) (n:Nat),Vals xs its∧h.get? a=some { cls:=.type "list",data:=.seq its.toArray n }
 | .tup xs=>xs.length≤sizeLine∧∃ its:List Value,Vals xs its∧IsTup h a its.toArray
 | .dK kvs=>kvs.length≤sizeLine∧(a == sysModules)=false∧∃ vs,KV kvs vs∧h.DictOf (yL P w) a vs
 | .dT kvs=>kvs.length≤sizeLine∧(a == sysModules)=false∧∃ xs:List (List Key × Addr × Value),
   Paired (fun (p:List Key × V) (q:List Key × Addr × Value)=>p.1=q.1∧H q.2.1=some (.tup (p.1.map kV))∧RelV p.2 q.2.2) kvs xs ∧
   ∃ o es ep,h.get? a=some o∧o.ExactDict∧o.data=.dict es ep∧es.toList=xs.map (entryOfKey (tupleKind (yL P w)))∧(xs.map (·.1)).Nodup
 | .set S n=>h.SetOf (intKind P w) a S n
 | .ins C dx fs=>H dx=some (.own a)∧fs.length≤1000∧dx≠a∧h.get? a=some (iL C dx) ∧
   ∃ mA,h.Ns1 dx mA∧(∀ f,RelO (fs.lookup f) (mA f))∧nT mA (fs.map (·.1))
 | .own _=>∃ o,h.get? a=some o
 | .xd fs=>∃ mA,h.Ns1 a mA∧∀ f,RelO (fs.lookup f) (mA f)
 | .rng lo hi=>∃ t u v,h.get? a=some { cls:=.type "range",data:=.fields #[.int lo t,.int hi u,.int 1 v] }
 | .frz o u=>h.get? a=some o∧ObjOk H h a u
 | .tbl ps=>h.get? a=some { cls:=.none,data:=.fields ps }
 | .met f x=>h.get? a=some (ot (.ref f) (.ref x))
 | .ext φ=>φ h∧(∃ o,h.get? a=some o)∧∀ h1 h2:Heap,φ h1→(∀ o,h1.get? a=some o→h2.get? a=some o)→φ h2
def HOk (H:Hp) (h:Heap):Prop:=∀ a o,H a=some o→ObjOk P w H h a o
end
section
variable {P:Program} {w:World} {H H':Hp} {h h':Heap} {a:Addr} {o:HO}
theorem ObjOk.lt (x:ObjOk P w H h a o):a < h.objs.size:=by
 cases o with
 | lst xs=>obtain ⟨_,_,_,_,e⟩:=x;exact bS e
 | tup xs=>obtain ⟨_,_,_,p⟩:=x;exact p.lt
 | dK kvs=>obtain ⟨_,_,_,_,o,_,_,e,_⟩:=x;exact bS e
 | dT kvs=>obtain ⟨_,_,_,_,o,_,_,e,_⟩:=x;exact bS e
 | set S n=>obtain ⟨o,_,_,_,e,_⟩:=x;exact bS e
 | ins C dx fs=>obtain ⟨_,_,_,e,_⟩:=x;exact bS e
 | own y=>obtain ⟨_,e⟩:=x;exact bS e
 | xd fs=>obtain ⟨_,⟨_,_,_,e,_⟩,_⟩:=x;exact bS e
 | rng lo hi=>obtain ⟨_,_,_,e⟩:=x;exact bS e
 | frz ob u=>obtain ⟨e,_⟩:=x;exact bS e
 | tbl ps=>exact bS (show h.get? a=some _ from x)
 | met f y=>exact bS (show h.get? a=some _ from x)
 | ext φ=>obtain ⟨_,⟨_,e⟩,_⟩:=x;exact bS e
theorem Paired.mapP {α β:Type} {F G:α→β→Prop}:∀ {l₁:List α} {l₂:List β},Paired F l₁ l₂→(∀ a b,F a b→G a b)→Paired G l₁ l₂
 | _,_,.nil,_=>.nil
 | _,_,.cons r t,f=>.cons (f _ _ r) (Paired.mapP t f)
theorem ObjOk.stay (x:ObjOk P w H h a o) (k:∀ b u,(b=a∨H b=some (.own a))→h.get? b=some u→h'.get? b=some u)
  (ho:∀ b,H b=some (.own a)→H' b=some (.own a)) (ht:∀ b xs,H b=some (.tup xs)→H' b=some (.tup xs)):ObjOk P w H' h' a o:=by
 induction o with
 | lst xs=>obtain ⟨z,its,n,r,e⟩:=x;exact ⟨z,its,n,r,k _ _ (.inl rfl) e⟩
 | tup xs=>obtain ⟨z,its,r,ob,e,c⟩:=x;exact ⟨z,its,r,ob,k _ _ (.inl rfl) e,c⟩
 | dK kvs=>obtain ⟨z,y,vs,r,ob,es,ep,e,c⟩:=x;exact ⟨z,y,vs,r,ob,es,ep,k _ _ (.inl rfl) e,c⟩
 | dT kvs =>
  obtain ⟨z,y,xs,r,ob,es,ep,e,c⟩:=x
  exact ⟨z,y,xs,Paired.mapP r fun p q z=>⟨z.1,ht _ _ z.2.1,z.2.2⟩,ob,es,ep,k _ _ (.inl rfl) e,c⟩
 | set S n=>obtain ⟨ob,es,ep,t,e,c⟩:=x;exact ⟨ob,es,ep,t,k _ _ (.inl rfl) e,c⟩
 | ins C dx fs =>
  obtain ⟨d,z,ne,e,mA,⟨od,es,ep,e2,c⟩,r⟩:=x
  exact ⟨ho _ d,z,ne,k _ _ (.inl rfl) e,mA,⟨od,es,ep,k _ _ (.inr d) e2,c⟩,r⟩
 | own y=>obtain ⟨ob,e⟩:=x;exact ⟨ob,k _ _ (.inl rfl) e⟩
 | xd fs=>obtain ⟨mA,⟨od,es,ep,e,c⟩,r⟩:=x;exact ⟨mA,⟨od,es,ep,k _ _ (.inl rfl) e,c⟩,r⟩
 | rng lo hi=>obtain ⟨t,u,v,e⟩:=x;exact ⟨t,u,v,k _ _ (.inl rfl) e⟩
 | frz ob u ih=>obtain ⟨e,q⟩:=x;exact ⟨k _ _ (.inl rfl) e,ih q⟩
 | tbl ps =>
  have e:h.get? a=some { cls:=.none,data:=.fields ps }:=x
  show h'.get? a=some { cls:=.none,data:=.fields ps }
  exact k a _ (.inl rfl) e
 | met f y =>
  have e:h.get? a=some (ot (.ref f) (.ref y)):=x
  show h'.get? a=some (ot (.ref f) (.ref y))
  exact k a _ (.inl rfl) e
 | ext φ=>obtain ⟨p,⟨o,e⟩,st⟩:=x;exact ⟨st _ _ p fun o q=>k _ _ (.inl rfl) q,⟨o,k _ _ (.inl rfl) e⟩,st⟩
theorem HOk.lt (x:HOk P w H h) (e:H a=some o):a < h.objs.size:=(x a o e).lt
theorem HOk.fresh (x:HOk P w H h) (e:h.objs.size≤a):H a=none:=by
 cases q:H a with
 | none=>rfl
 | some u=>exact absurd (cx (x.lt q) e) (fO _)
theorem HOk.kept (x:HOk P w H h) (k:∀ b u,h.get? b=some u→h'.get? b=some u):HOk P w H h':=fun a o e =>
 (x a o e).stay (fun b u _ q=>k b u q) (fun _ q=>q) fun _ _ q=>q
theorem HOk.laid (x:HOk P w H h) (k:∀ b u,h.get? b=some u→h'.get? b=some u) (hp:h.objs.size≤a) (new:ObjOk P w (upd H a o) h' a o):HOk P w (upd H a o) h':=fun b u e=>by
 have hn:=x.fresh hp
 by_cases hb:b=a
 ·subst hb;rw [zf] at e;cases e;exact new
 ·rw [zj hb] at e
  exact (x b u e).stay (fun c v _ q=>k c v q) (fun c q=>by rw [zj (zB q hn)];exact q) fun c xs q=>by rw [zj (zB q hn)];exact q
end
def Rd (H:Hp) (a:Addr) (u:HO):Prop:=H a=some u∨∃ o,H a=some (.frz o u)
theorem Rd.ok {P:Program} {w:World} {H:Hp} {h:Heap} {a:Addr} {u:HO} (r:Rd H a u) (x:HOk P w H h):ObjOk P w H h a u:=by
 rcases r with r | ⟨o,r⟩
 ·exact x a u r
 ·obtain ⟨_,q⟩:=x a _ r
  exact q
def Mut:Option HO→Prop
 | some (.lst _)=>True
 | some (.dK _)=>True
 | some (.dT _)=>True
 | some (.set _ _)=>True
 | some (.ins _ _ _)=>True
 | some (.ext _)=>True
 | _=>False
section
variable {P:Program} {w:World} {H:Hp} {h h':Heap} {x e:Addr} {o':HO}
theorem HOk.write (ok:HOk P w H h) (mu:Mut (H x)) (he:e=x∨H e=some (.own x)) (k:∀ b u,b≠e→h.get? b=some u→h'.get? b=some u) (heo:∃ u,h'.get? e=some u)
  (new:ObjOk P w (upd H x o') h' x o'):HOk P w (upd H x o') h':=fun b u q=>by
 have nown:∀ c y,H c=some (.own y)→c≠x:=fun c y r z=>by subst z;rw [r] at mu;exact mu
 have ntup:∀ c xs,H c=some (.tup xs)→c≠x:=fun c xs r z=>by subst z;rw [r] at mu;exact mu
 by_cases hb:b=x
 ·subst hb;rw [zf] at q;cases q;exact new
 ·rw [zj hb] at q
  by_cases hbe:b=e
  ·have q':H b=some (.own x):=by
    rcases he with z | z
    ·exact absurd (hbe.trans z) hb
    ·rw [hbe];exact z
   rw [q] at q';cases q'
   obtain ⟨v,hv⟩:=heo
   exact ⟨v,by rw [hbe];exact hv⟩
  ·refine (ok b u q).stay (fun c v hc r=>k c v ?_ r) (fun c r=>by rw [zj (nown c b r)];exact r) fun c xs r=>by rw [zj (ntup c xs r)];exact r
   rcases hc with rfl | hc
   ·exact hbe
   ·rintro rfl
    rcases he with z | z
    ·exact nown c b hc z
    ·rw [hc] at z;cases z;exact hb rfl
end
structure Un (fs ex:List Addr) (H H':Hp) (h h':Heap):Prop where
 keep:∀ b o,h.get? b=some o→H b=none→b ∉ fs→b ∉ ex→h'.get? b=some o
 slot:∀ b o,h.get? b=some o→H b=none→b∈fs→b ∉ ex→∃ sl,h'.get? b=some { o with slots:=sl }
 free:∀ b o,h.get? b=some o→H b=none→b ∉ ex→H' b=none
 there:∀ b o,h.get? b=some o→b ∉ ex→∃ o',h'.get? b=some o'
 tups:∀ b xs,H b=some (.tup xs)→H' b=some (.tup xs)
 frzs:∀ b o u,H b=some (.frz o u)→H' b=some (.frz o u)
 tbls:∀ b ps,H b=some (.tbl ps)→∃ more,H' b=some (.tbl (ps ++ more))
section
variable {fs fs' ex ex':List Addr} {H H1 H2:Hp} {h h1 h2 h':Heap} {a x e:Addr} {o:HO}
theorem Un.any (u:Un fs ex H H1 h h1) {b:Addr} {ob:Obj} (q:h.get? b=some ob) (n:H b=none) (hx:b ∉ ex):∃ sl,h1.get? b=some { ob with slots:=sl }:=by
 by_cases hb:b∈fs
 ·exact u.slot b ob q n hb hx
 ·exact ⟨ob.slots,u.keep b ob q n hb hx⟩
theorem Un.kept (k:∀ b u,h.get? b=some u→h'.get? b=some u):Un fs ex H H h h' :=
 ⟨fun b ob q _ _ _=>k b ob q,fun b ob q _ _ _=>⟨ob.slots,k b ob q⟩,fun _ _ _ n _=>n,fun b ob q _=>⟨ob,k b ob q⟩,fun _ _ q=>q,fun _ _ _ q=>q,fun _ ps q=>⟨#[],by rw [q];simp⟩⟩
theorem Un.refl:Un fs ex H H h h:=Un.kept fun _ _ q=>q
theorem Un.laid (k:∀ b u,h.get? b=some u→h'.get? b=some u) (hp:h.objs.size≤a) (hn:H a=none):Un fs ex H (upd H a o) h h' where
 keep:=fun b u q _ _ _=>k b u q
 slot:=fun b u q _ _ _=>⟨u.slots,k b u q⟩
 free:=fun b u q n _=>by rw [zj (cz (cx (bS q) hp))];exact n
 there:=fun b u q _=>⟨u,k b u q⟩
 tups:=fun b xs q=>by rw [zj (zB q hn)];exact q
 frzs:=fun b u xs q=>by rw [zj (zB q hn)];exact q
 tbls:=fun b ps q=>⟨#[],by rw [zj (zB q hn),q];simp⟩
theorem Un.write (mu:Mut (H x)) (he:e=x∨H e=some (.own x)) (k:∀ b u,b≠e→h.get? b=some u→h'.get? b=some u) (heo:∃ u,h'.get? e=some u):Un fs ex H (upd H x o) h h':=by
 have hx:∀ b,H b=none→b≠x:=fun b n z=>by subst z;rw [n] at mu;exact mu
 have hb:∀ b,H b=none→b≠e:=fun b n z=>by
  subst z
  rcases he with r | r
  ·exact hx b n r
  ·rw [n] at r;cases r
 have hm:∀ b u,H b=some u→¬ Mut (some u)→b≠x:=fun b u q nm z=>by subst z;rw [q] at mu;exact nm mu
 refine ⟨fun b u q n _ _=>k b u (hb b n) q,fun b u q n _ _=>⟨u.slots,k b u (hb b n) q⟩,fun b u q n _=>by rw [zj (hx b n)];exact n,fun b u q _=>?_,
  fun b xs q=>by rw [zj (hm b _ q fun z=>z)];exact q,fun b u xs q=>by rw [zj (hm b _ q fun z=>z)];exact q,fun b ps q=>⟨#[],by rw [zj (hm b _ q fun z=>z),q];simp⟩⟩
 by_cases hbe:b=e
 ·subst hbe;exact heo
 ·exact ⟨u,k b u hbe q⟩
end
def trk (h:Heap) (H:Hp):List Addr:=(dX h.objs.size).filter fun a=>(H a).isSome
def VR (h:Heap) (H:Hp):Heap:=fX h (trk h H)
theorem za5 (h:Heap) (H:Hp):(VR h H).objs.size=h.objs.size:=W.hideAll_size _ _
theorem zbK {h:Heap} {H:Hp} {b:Addr} {o:Obj} (e:h.get? b=some o) (n:H b=none):(VR h H).get? b=some o :=
 iC _ e fun hm=>by
  have q:(H b).isSome=true:=(List.mem_filter.mp hm).2
  rw [n] at q;simp at q
theorem zdu {h:Heap} {H:Hp} {b:Addr} {o:Obj} (e:(VR h H).get? b=some o):h.get? b=some o∧H b=none:=by
 have e':h.get? b=some o:=i9 (trk h H) e
 refine ⟨e',?_⟩
 cases q:H b with
 | none=>rfl
 | some x =>
  have hm:b∈trk h H:=iM.mpr ⟨List.mem_range.mpr (bS e'),by simp [q]⟩
  have z:(VR h H).get? b=none:=fk (trk h H) hm
  rw [z] at e;cases e
def zdv (g h:Heap) (L:Addr):List (Addr × Obj):=(dX h.objs.size).filterMap fun a=>if a=L∨(g.get? a).isSome=true then none else (h.get? a).map fun o=>(a,o)
def rest (g h:Heap) (L d:Addr):List (Addr × Obj):=(zdv g h L).filter fun p=>decide (p.1≠d)
structure Mod (K:br) (mg:Str→Option Value) (base:Heap):Prop where
 kin:K.In base
 glob:base.Ns mainGlobals mg
 blt:∃ mb,base.Ns builtinsNs mb∧∀ x:Str,x≠"__name__"→mb x=bootBuiltins x
 nolimit:base.NoLimit
set_option genSizeOf false in
set_option genInjectivity false in
structure Cx where
 prog:Program
 w:World
 K:br
 mg:Str→Option Value
 base:Heap
 A:Around
 N:List Str
 s₀:Shared
 H₀:Hp
 env:Env
 outer:List Env
 stack:List Env
 ex:List Addr
 fn:Str→Bool
 calm:Bool
 pn:List (Addr × Obj)
 xe:Value→Shared→Prop
def frs (l:List Env):List Addr:=l.filterMap (·.frame)
abbrev Cx.fs (X:Cx):List Addr:=frs X.outer
def Vis (sc:Scope) (x:Str):Prop:=sc.names.lookup x=some .local∨sc.names.lookup x=some .cell∨sc.names.lookup x=some .free
def Loc (sc:Scope) (x:Str):Prop:=sc.names.lookup x=some .local∨sc.names.lookup x=some .cell
def zgc (env:Env) (h:Heap) (m:Str→Option Value) (x:Str) (u:Value):Prop :=
 (env.kindOf x=some .local∧m x=some u)∨((env.kindOf x=some .cell∨env.kindOf x=some .free)∧∃ c,env.cells.lookup x=some c∧h.IsCell c (some u))
structure Cx.Ok (X:Cx):Prop where
 mod:Mod X.K X.mg X.base
 kind:X.env.scope.kind=.function
 glob:X.env.globals=mainGlobals
 blt:X.env.builtins=builtinsNs
 above:X.s₀.heap.objs.size≤X.env.locals
 inj:∀ x y c,X.env.cells.lookup x=some c→X.env.cells.lookup y=some c→x=y
 has:∀ x,(X.env.kindOf x=some .cell∨X.env.kindOf x=some .free)→∃ c,X.env.cells.lookup x=some c
 cab:∀ x c,X.fn x=true→X.env.cells.lookup x=some c→X.s₀.heap.objs.size≤c
 hd:X.calm=true→X.A.handled=none
 frames:X.A.frames=some X.stack
 stk:X.stack=X.outer∨(X.stack=X.env :: X.outer∧X.env.frame=some X.env.locals)
 exf:∀ b∈X.ex,b≠X.env.locals∧∀ x c,X.env.cells.lookup x=some c→c≠b
 bs:∀ b o,X.base.get? b=some o→X.s₀.heap.get? b=some o∧X.H₀ b=none
 bsz:X.base.objs.size≤X.s₀.heap.objs.size
 noex:∀ b o,X.base.get? b=some o→b ∉ X.ex
 exfs:∀ b∈X.ex,b ∉ X.fs
 funs:X.s₀.heap.FunFrames X.base X.outer
 frf:∀ b∈X.fs,X.H₀ b=none
structure Inv (X:Cx) (pins:List (Addr × Obj)) (σ:List (Option V)) (H:Hp) (s:Shared):Prop where
 ok:X.Ok
 os:s.os=X.s₀.os
 bare:AllBare s.gens
 base:Un X.fs X.ex X.H₀ H X.s₀.heap s.heap
 loc:∃ m,s.heap.Ns X.env.locals m∧∀ (i:Nat) (x:Str) (v:V),X.N[i]?=some x→σ[i]?=some (some v)→Vis X.env.scope x→∃ u,RelV v u∧zgc X.env s.heap m x u
 cell:∀ x c,X.env.cells.lookup x=some c→∃ v,s.heap.IsCell c v
 free:H X.env.locals=none
 freeC:∀ x c,X.env.cells.lookup x=some c→H c=none
 pin:∀ p∈X.pn ++ pins,s.heap.get? p.1=some p.2∧H p.1=none∧p.1≠X.env.locals∧p.1 ∉ X.fs∧∀ v,p.2.data≠.cell v
 hok:HOk X.prog X.w H s.heap
 len:σ.length=X.N.length
section
variable {X:Cx} {pins:List (Addr × Obj)} {σ:List (Option V)} {H H':Hp} {s:Shared} {h':Heap}
theorem Cx.Ok.nofr (ok:X.Ok) {b:Addr} {o:Obj} (e:X.base.get? b=some o):b ∉ X.fs:=fun hb=>by
 have:=(ok.funs.mem hb).1
 rw [e] at this;cases this
theorem Inv.bs (I:Inv X pins σ H s):∀ b o,X.base.get? b=some o→s.heap.get? b=some o∧H b=none:=fun b o e =>
 ⟨I.base.keep b o (I.ok.bs b o e).1 (I.ok.bs b o e).2 (I.ok.nofr e) (I.ok.noex b o e),I.base.free b o (I.ok.bs b o e).1 (I.ok.bs b o e).2 (I.ok.noex b o e)⟩
theorem Inv.bk (I:Inv X pins σ H s):∀ b o,X.base.get? b=some o→s.heap.get? b=some o:=fun b o e=>(I.bs b o e).1
theorem Inv.mod (I:Inv X pins σ H s):Mod X.K X.mg X.base:=I.ok.mod
theorem Inv.kIn (I:Inv X pins σ H s):X.K.In s.heap:=I.ok.mod.kin.keeps I.bk
theorem Inv.lt (I:Inv X pins σ H s):X.env.locals < s.heap.objs.size:=let ⟨_,hn,_⟩:=I.loc;hn.lt
theorem Inv.sz (I:Inv X pins σ H s):X.s₀.heap.objs.size≤s.heap.objs.size:=cf I.ok.above (nU I.lt)
theorem Inv.nofs (I:Inv X pins σ H s) {a:Addr} (h:s.heap.objs.size≤a):a ∉ X.fs:=fun hb=>by
 obtain ⟨_,o,ho,_⟩:=I.ok.funs.mem hb
 exact absurd (cx (bS ho) (cf I.sz h)) (fO _)
theorem Inv.cne (I:Inv X pins σ H s):∀ x c,X.env.cells.lookup x=some c→c≠X.env.locals:=fun x c e z=>by
 obtain ⟨v,o,ho,hd⟩:=I.cell x c e
 obtain ⟨m,⟨o',es,ep,ho',hd',_⟩,_⟩:=I.loc
 rw [z,ho'] at ho;cases ho;rw [hd'] at hd;cases hd
theorem Inv.funs (I:Inv X pins σ H s):s.heap.FunFrames X.base X.outer:=by
 have all:∀ (l:List Env),(∀ b∈frs l,b∈X.fs)→X.s₀.heap.FunFrames X.base l→s.heap.FunFrames X.base l:=by
  intro l
  induction l with
  | nil=>intro _ _;trivial
  | cons env r ih =>
   intro hs hl
   obtain ⟨hk,⟨L,o,hf,hn,ho,hd⟩,hr⟩:=hl
   have hL:L∈X.fs:=hs L (by unfold frs;rw [iN,hf];exact bH)
   obtain ⟨sl,e⟩:=I.base.slot L o ho (I.ok.frf L hL) hL fun z=>I.ok.exfs L z hL
   exact ⟨hk,⟨L,_,hf,hn,e,hd⟩,ih (fun b hb=>hs b (by unfold frs;rw [iN,hf];exact bx _ hb)) hr⟩
 exact all X.outer (fun _ hb=>hb) I.ok.funs
theorem Inv.stack (I:Inv X pins σ H s):s.heap.FunFrames X.base X.stack:=by
 rcases I.ok.stk with e | ⟨e,hf⟩
 ·rw [e];exact I.funs
 ·rw [e]
  obtain ⟨m,hn,_⟩:=I.loc
  refine .cons (by rw [I.ok.kind];decide) hf hn ?_ I.funs
  exact Heap.get?_none_of_le (cf I.ok.bsz I.ok.above)
theorem Inv.stkSub (I:Inv X pins σ H s):∀ b∈frs X.stack,b∈X.env.locals :: X.fs:=fun b hb=>by
 rcases I.ok.stk with e | ⟨e,hf⟩
 ·rw [e] at hb;exact bx _ hb
 ·rw [e] at hb
  unfold frs at hb
  rw [iN,hf] at hb
  exact hb
theorem Inv.stkFree (I:Inv X pins σ H s):∀ b∈frs X.stack,H b=none:=fun b hb=>by
 rcases bN.mp (I.stkSub b hb) with e | hb
 ·rw [e];exact I.free
 ·obtain ⟨_,o,ho,_⟩:=I.ok.funs.mem hb
  exact I.base.free b o ho (I.ok.frf b hb) fun z=>I.ok.exfs b z hb
theorem Inv.step {g':Array GenState} {t':Nat} {d':Drawn} {ch:List Addr} (I:Inv X pins σ H s)
  (hch:∀ b∈ch,(b∈X.ex∨X.s₀.heap.objs.size≤b)∧b≠X.env.locals∧(∀ x c,X.env.cells.lookup x=some c→c≠b)∧∀ p∈X.pn ++ pins,p.1≠b)
  (keep:∀ b o,b≠X.env.locals→b ∉ X.fs→b ∉ ch→s.heap.get? b=some o→H b=none→h'.get? b=some o)
  (slot:∀ b o,b≠X.env.locals→b∈X.fs→b ∉ ch→s.heap.get? b=some o→H b=none→∃ sl,h'.get? b=some { o with slots:=sl }) (free:∀ b o,b ∉ ch→s.heap.get? b=some o→H b=none→H' b=none)
  (there:∀ b o,b ∉ ch→s.heap.get? b=some o→∃ o',h'.get? b=some o')
  (tups:∀ b xs,H b=some (.tup xs)→H' b=some (.tup xs)) (frzs:∀ b o u,H b=some (.frz o u)→H' b=some (.frz o u)) (tbls:∀ b ps,H b=some (.tbl ps)→∃ more,H' b=some (.tbl (ps ++ more)))
  (ns:∀ m,s.heap.Ns X.env.locals m→h'.Ns X.env.locals m) (hok:HOk X.prog X.w H' h') (hg:AllBare g') :
  Inv X pins σ H' { s with heap:=h',gens:=g',drawn:=d',toks:=t' }:=by
 have neL:∀ b o,X.s₀.heap.get? b=some o→b≠X.env.locals:=fun b o e=>cz (cx (bS e) I.ok.above)
 have neC:∀ b o,X.s₀.heap.get? b=some o→b ∉ X.ex→b ∉ ch:=fun b o e hx hb=>by
  rcases (hch b hb).1 with z | z
  ·exact hx z
  ·exact absurd (cx (bS e) z) (fO _)
 have cellK:∀ x c,X.env.cells.lookup x=some c→∀ v,s.heap.IsCell c v→h'.IsCell c v:=fun x c e v ⟨o,ho,hd⟩=>by
  have nch:c ∉ ch:=fun z=>(hch c z).2.2.1 x c e rfl
  by_cases hc:c∈X.fs
  ·obtain ⟨sl,q⟩:=slot c o (I.cne x c e) hc nch ho (I.freeC x c e)
   exact ⟨_,q,hd⟩
  ·exact ⟨o,keep c o (I.cne x c e) hc nch ho (I.freeC x c e),hd⟩
 refine ⟨I.ok,I.os,hg,⟨fun b o e n hb hx=>?_,fun b o e n hb hx=>?_,fun b o e n hx=>?_,fun b o e hx=>?_,fun b xs e=>tups b xs (I.base.tups b xs e),fun b o xs e=>frzs b o xs (I.base.frzs b o xs e),fun b ps e=>?_⟩,?_,fun x c e=>?_,?_,fun x c e=>?_,fun p hp=>?_,hok,I.len⟩
 ·exact keep b o (neL b o e) hb (neC b o e hx) (I.base.keep b o e n hb hx) (I.base.free b o e n hx)
 ·obtain ⟨sl,e1⟩:=I.base.slot b o e n hb hx
  obtain ⟨sl',e2⟩:=slot b _ (neL b o e) hb (neC b o e hx) e1 (I.base.free b o e n hx)
  exact ⟨sl',e2⟩
 ·obtain ⟨o',e1⟩:=I.base.there b o e hx
  exact free b o' (neC b o e hx) e1 (I.base.free b o e n hx)
 ·obtain ⟨o',e1⟩:=I.base.there b o e hx
  exact there b o' (neC b o e hx) e1
 ·obtain ⟨m1,e1⟩:=I.base.tbls b ps e
  obtain ⟨m2,e2⟩:=tbls b _ e1
  exact ⟨m1 ++ m2,by rw [e2,Array.append_assoc]⟩
 ·obtain ⟨m,hn,hl⟩:=I.loc
  refine ⟨m,ns m hn,fun i x v e1 e2 e3=>?_⟩
  obtain ⟨u,r,l⟩:=hl i x v e1 e2 e3
  refine ⟨u,r,?_⟩
  rcases l with l | ⟨k,c,e,z⟩
  ·exact .inl l
  ·exact .inr ⟨k,c,e,cellK x c e _ z⟩
 ·obtain ⟨v,z⟩:=I.cell x c e
  exact ⟨v,cellK x c e v z⟩
 ·obtain ⟨m,⟨o,_,_,ho,_⟩,_⟩:=I.loc
  exact free _ o (fun z=>(hch _ z).2.1 rfl) ho I.free
 ·obtain ⟨v,o,ho,hd⟩:=I.cell x c e
  exact free c o (fun z=>(hch c z).2.2.1 x c e rfl) ho (I.freeC x c e)
 ·obtain ⟨e,n,ne,nf,d⟩:=I.pin p hp
  have nch:p.1 ∉ ch:=fun z=>(hch p.1 z).2.2.2 p hp rfl
  exact ⟨keep p.1 p.2 ne nf nch e n,free p.1 p.2 nch e n,ne,nf,d⟩
theorem Inv.un {t':Nat} (I:Inv X pins σ H s) (u:Un X.fs [] H H' s.heap h') (hok:HOk X.prog X.w H' h'):Inv X pins σ H' { s with heap:=h',toks:=t' }:=by
 obtain ⟨m,⟨o,es,ep,ho,r⟩,_⟩:=id I.loc
 obtain ⟨sl,hL⟩:=u.any ho I.free (by simp)
 exact I.step (g':=s.gens) (d':=s.drawn) (ch:=[]) (fun _ z=>nomatch z) (fun b o _ hb _ e n=>u.keep b o e n hb (by simp)) (fun b o _ hb _ e n=>u.slot b o e n hb (by simp)) (fun b o _ e n=>u.free b o e n (by simp)) (fun b o _ e=>u.there b o e (by simp)) u.tups u.frzs u.tbls (fun m' hm=>by
  obtain ⟨o',es',ep',ho',r'⟩:=hm
  rw [ho] at ho';cases ho'
  exact ⟨_,es',ep',hL,r'⟩) hok I.bare
theorem Inv.call {g':Array GenState} {t':Nat} {d':Drawn} {ch:List Addr} (I:Inv X pins σ H s) (u:Un (frs X.stack) ch H H' s.heap h') (hok:HOk X.prog X.w H' h') (hg:AllBare g')
  (hch:∀ b∈ch,(b∈X.ex∨X.s₀.heap.objs.size≤b)∧b≠X.env.locals∧(∀ x c,X.env.cells.lookup x=some c→c≠b)∧∀ p∈X.pn ++ pins,p.1≠b) :
  Inv X pins σ H' { s with heap:=h',gens:=g',drawn:=d',toks:=t' }:=by
 obtain ⟨m,⟨o,es,ep,ho,r⟩,_⟩:=id I.loc
 obtain ⟨sl,hL⟩:=u.any ho I.free fun z=>(hch _ z).2.1 rfl
 exact I.step (ch:=ch) hch (fun b o hL hb hc e n=>u.keep b o e n (fun z=>(bN.mp (I.stkSub b z)).elim hL hb) hc) (fun b o _ _ hc e n=>u.any e n hc) (fun b o hc e n=>u.free b o e n hc) (fun b o hc e=>u.there b o e hc) u.tups u.frzs u.tbls (fun m' hm=>by
  obtain ⟨o',es',ep',ho',r'⟩:=hm
  rw [ho] at ho';cases ho'
  exact ⟨_,es',ep',hL,r'⟩) hok hg
theorem Inv.turned {t':Nat} {it:Addr} (I:Inv X pins σ H s) (k:∀ b o,b≠it→s.heap.get? b=some o→h'.get? b=some o) (hn:H it=none) (hL:it≠X.env.locals)
  (h1:it∈X.ex∨X.s₀.heap.objs.size≤it) (h2:∀ x c,X.env.cells.lookup x=some c→c≠it) (h3:∀ p∈X.pn ++ pins,p.1≠it):Inv X pins σ H { s with heap:=h',toks:=t' }:=by
 have nit:∀ b u,H b=some u→b≠it:=fun b u e z=>by rw [z,hn] at e;cases e
 refine I.step (g':=s.gens) (d':=s.drawn) (ch:=[it]) (fun b hb=>?_) (fun b o _ _ hc e _=>k b o (fun z=>hc (by simp [z])) e) (fun b o _ _ hc e _=>⟨o.slots,k b o (fun z=>hc (by simp [z])) e⟩) (fun _ _ _ _ n=>n)
  (fun b o hc e=>⟨o,k b o (fun z=>hc (by simp [z])) e⟩) (fun _ _ e=>e) (fun _ _ _ e=>e) (fun b ps e=>⟨#[],by rw [e];simp⟩) (fun m hm=>?_) (fun b u e=>?_) I.bare
 ·have e:b=it:=by simpa using hb
  subst e
  exact ⟨h1,hL,h2,h3⟩
 ·obtain ⟨o,es,ep,ho,r⟩:=hm
  exact ⟨o,es,ep,k _ o (cA hL) ho,r⟩
 ·refine (I.hok b u e).stay (fun c v hc q=>k c v ?_ q) (fun _ q=>q) fun _ _ q=>q
  rcases hc with z | z
  ·rw [z];exact nit b u e
  ·exact nit c _ z
theorem Inv.tok (I:Inv X pins σ H s) (t:Nat):Inv X pins σ H { s with toks:=t }:=I.un (h':=s.heap) (t':=t) Un.refl I.hok
theorem Inv.kept {t':Nat} (I:Inv X pins σ H s) (k:∀ b u,s.heap.get? b=some u→h'.get? b=some u):Inv X pins σ H { s with heap:=h',toks:=t' }:=I.un (Un.kept k) (I.hok.kept k)
theorem Inv.laid {a:Addr} {o:HO} {t':Nat} (I:Inv X pins σ H s) (k:∀ b u,s.heap.get? b=some u→h'.get? b=some u) (hp:s.heap.objs.size≤a) (new:ObjOk X.prog X.w (upd H a o) h' a o) :
  Inv X pins σ (upd H a o) { s with heap:=h',toks:=t' }:=I.un (Un.laid k hp (I.hok.fresh hp)) (I.hok.laid k hp new)
theorem Inv.write {x e:Addr} {o:HO} {t':Nat} (I:Inv X pins σ H s) (mu:Mut (H x)) (he:e=x∨H e=some (.own x)) (k:∀ b u,b≠e→s.heap.get? b=some u→h'.get? b=some u) (heo:∃ u,h'.get? e=some u)
  (new:ObjOk X.prog X.w (upd H x o) h' x o):Inv X pins σ (upd H x o) { s with heap:=h',toks:=t' }:=I.un (Un.write mu he k heo) (I.hok.write mu he k heo new)
theorem Inv.pins_of {pins':List (Addr × Obj)} (I:Inv X pins σ H s) (h:∀ p∈pins',s.heap.get? p.1=some p.2∧H p.1=none∧p.1≠X.env.locals∧p.1 ∉ X.fs∧∀ v,p.2.data≠.cell v):Inv X pins' σ H s :=
 ⟨I.ok,I.os,I.bare,I.base,I.loc,I.cell,I.free,I.freeC,fun p hp=>(bz.mp hp).elim (fun z=>I.pin p (cZ _ z)) (h p),I.hok,I.len⟩
theorem JV {N:List Str} (hN:N.Nodup) {i j:Nat} {x:Str} (a:N[i]?=some x) (b:N[j]?=some x):i=j:=by
 obtain ⟨h1,e1⟩:=bp.mp a
 obtain ⟨h2,e2⟩:=bp.mp b
 exact (ip hN).mp (e1.trans e2.symm)
theorem za6 {M:Model} {A:Around} {E:Value→Shared→Prop} {i:Nat} {x:Str} {v:V} {u:Value} {Q:Unit→Shared→Prop} (I:Inv X pins σ H s) (hN:X.N.Nodup) (hi:X.N[i]?=some x) (hx:Loc X.env.scope x) (r:RelV v u)
  (h:∀ s',Inv X pins (σ.set i (some v)) H s'→(∃ a,cQ a s.heap s'.heap∧(a=X.env.locals∨X.env.cells.lookup x=some a))→Q () s') (hf:X.fn x=true∨X.env.scope.names.lookup x=some .local:=by first | exact .inl rfl | exact .inr rfl | assumption):wpAny M A (storeName X.env x u) Q E s:=by
 obtain ⟨m,hn,hl⟩:=id I.loc
 have hcls:(X.env.scope.kind == .class || (X.env.scope.kind == .module && X.env.locals != X.env.globals))=false:=by rw [I.ok.kind];rfl
 have hiσ:i < σ.length:=by rw [I.len];exact (bp.mp hi).1
 have cne:=I.cne
 have tracked:∀ {a:Addr} {h':Heap},(∃ o,s.heap.get? a=some o∧H a=none)→cQ a s.heap h'→HOk X.prog X.w H h':=fun {a h'} ha hs b ob e=>by
  obtain ⟨_,_,hfree⟩:=ha
  refine (I.hok b ob e).stay (fun c w' hc q=>(hs.2 c ?_).trans q) (fun _ q=>q) fun _ _ q=>q
  rintro rfl
  rcases hc with rfl | hc
  ·rw [hfree] at e;cases e
  ·rw [hfree] at hc;cases hc
 rcases hx with hk | hk
 ·refine wpAny_storeName_local hk hn (fun h' hn' hs=>?_) hcls
  obtain ⟨oL,_,_,hoL,_⟩:=id hn
  refine h _ ⟨I.ok,I.os,I.bare,⟨fun b o e n hb hx=>?_,fun b o e n hb hx=>?_,I.base.free,fun b o e hx=>?_,I.base.tups,I.base.frzs,I.base.tbls⟩,⟨_,hn',fun j y v' e1 e2 e3=>?_⟩,fun y c e=>?_,I.free,I.freeC,fun p hp=>?_,tracked ⟨oL,hoL,I.free⟩ hs,by simpa using I.len⟩ ⟨_,hs,.inl rfl⟩
  ·exact (hs.2 b (cz (cx (bS e) I.ok.above))).trans (I.base.keep b o e n hb hx)
  ·obtain ⟨sl,e1⟩:=I.base.slot b o e n hb hx
   exact ⟨sl,(hs.2 b (cz (cx (bS e) I.ok.above))).trans e1⟩
  ·obtain ⟨o',e1⟩:=I.base.there b o e hx
   exact ⟨o',(hs.2 b (cz (cx (bS e) I.ok.above))).trans e1⟩
  ·by_cases hj:j=i
   ·subst hj
    rw [hi] at e1;cases e1
    rw [mw hiσ] at e2
    cases e2
    exact ⟨u,r,.inl ⟨hk,by simp⟩⟩
   ·rw [mW (cA hj)] at e2
    obtain ⟨u',r',q⟩:=hl j y v' e1 e2 e3
    refine ⟨u',r',?_⟩
    rcases q with ⟨k,e⟩ | ⟨k,c,e,z⟩
    ·refine .inl ⟨k,?_⟩
     have:y≠x:=fun e=>hj (JV hN e1 (e ▸ hi))
     simp [this,e]
    ·exact .inr ⟨k,c,e,z.sameBut hs (cne y c e)⟩
  ·obtain ⟨w',z⟩:=I.cell y c e
   exact ⟨w',z.sameBut hs (cne y c e)⟩
  ·obtain ⟨e,n,ne,nf,d⟩:=I.pin p hp
   exact ⟨(hs.2 p.1 ne).trans e,n,ne,nf,d⟩
 ·have hfn:X.fn x=true:=by
   rcases hf with z | z
   ·exact z
   ·rw [z] at hk;cases hk
  obtain ⟨c,hc⟩:=I.ok.has x (.inl hk)
  obtain ⟨w',z⟩:=I.cell x c hc
  refine wpAny_storeName_cell I.ok.kind hk hc z (fun h' hc' hs=>?_)
  obtain ⟨oc,hoc,hocd⟩:=id z
  refine h { s with heap:=h' } ⟨I.ok,I.os,I.bare,⟨fun b o e n hb hx=>?_,fun b o e n hb hx=>?_,I.base.free,fun b o e hx=>?_,I.base.tups,I.base.frzs,I.base.tbls⟩,⟨m,hn.sameBut hs (cA (cne x c hc)),fun j y v' e1 e2 e3=>?_⟩,fun y c' e=>?_,I.free,I.freeC,fun p hp=>?_,tracked ⟨oc,hoc,I.freeC x c hc⟩ hs,by simpa using I.len⟩ ⟨c,hs,.inr hc⟩
  ·exact (hs.2 b (cz (cx (bS e) (I.ok.cab x c hfn hc)))).trans (I.base.keep b o e n hb hx)
  ·obtain ⟨sl,e1⟩:=I.base.slot b o e n hb hx
   exact ⟨sl,(hs.2 b (cz (cx (bS e) (I.ok.cab x c hfn hc)))).trans e1⟩
  ·obtain ⟨o',e1⟩:=I.base.there b o e hx
   exact ⟨o',(hs.2 b (cz (cx (bS e) (I.ok.cab x c hfn hc)))).trans e1⟩
  ·by_cases hj:j=i
   ·subst hj
    rw [hi] at e1;cases e1
    rw [mw hiσ] at e2
    cases e2
    exact ⟨u,r,.inr ⟨.inl hk,c,hc,hc'⟩⟩
   ·rw [mW (cA hj)] at e2
    obtain ⟨u',r',q⟩:=hl j y v' e1 e2 e3
    refine ⟨u',r',?_⟩
    rcases q with q | ⟨k,c',e,z'⟩
    ·exact .inl q
    ·refine .inr ⟨k,c',e,z'.sameBut hs ?_⟩
     rintro rfl
     exact hj (JV hN e1 (I.ok.inj _ _ _ e hc ▸ hi))
  ·by_cases hcc:c'=c
   ·subst hcc;exact ⟨_,hc'⟩
   ·obtain ⟨w2,z2⟩:=I.cell y c' e
    exact ⟨w2,z2.sameBut hs hcc⟩
  ·obtain ⟨e,n,ne,nf,d⟩:=I.pin p hp
   refine ⟨(hs.2 p.1 ?_).trans e,n,ne,nf,d⟩
   intro q
   rw [q,hoc] at e
   have q':oc=p.2:=ca e
   exact d w' (by rw [← q'];exact hocd)
theorem XN {M:Model} {A:Around} {E:Value→Shared→Prop} {i:Nat} {x:Str} {v:V} {u:Value} {Q:Unit→Shared→Prop} (I:Inv X pins σ H s) (hN:X.N.Nodup) (hi:X.N[i]?=some x) (hx:Loc X.env.scope x) (r:RelV v u)
  (h:∀ s',Inv X pins (σ.set i (some v)) H s'→Q () s') (hf:X.fn x=true∨X.env.scope.names.lookup x=some .local:=by first | exact .inl rfl | exact .inr rfl | assumption):wpAny M A (storeName X.env x u) Q E s :=
 za6 I hN hi hx r (fun s' I' _=>h s' I') hf
theorem Inv.call' {s':Shared} {ch:List Addr} (I:Inv X pins σ H s) (ho:s'.os=s.os) (u:Un (frs X.stack) ch H H' s.heap s'.heap) (hok:HOk X.prog X.w H' s'.heap) (hg:AllBare s'.gens)
  (hch:∀ b∈ch,(b∈X.ex∨X.s₀.heap.objs.size≤b)∧b≠X.env.locals∧(∀ x c,X.env.cells.lookup x=some c→c≠b)∧∀ p∈X.pn ++ pins,p.1≠b):Inv X pins σ H' s':=by
 obtain ⟨h',g',d',t',o'⟩:=s'
 have e:o'=s.os:=ho
 subst e
 exact I.call (g':=g') (t':=t') (d':=d') u hok hg hch
end
abbrev XK:=Value→Option Addr→Hp→Prop
abbrev St:=List (Option V)
abbrev VK:=V→Hp→Prop
abbrev TE:=St→Hp→VK→Prop
abbrev TT:=St→Hp→(Bool→Hp→Prop)→Prop
abbrev TA:=St→Hp→(List V→Hp→Prop)→Prop
set_option genSizeOf false in
set_option genInjectivity false in
structure VS where
 nx:St→Hp→Prop
 rt:VK
 bk:St→Hp→Prop:=fun _ _=>False
 ct:St→Hp→Prop:=fun _ _=>False
abbrev TS:=VS→St→Hp→Prop
def EP (X:Cx) (pins:List (Addr × Obj)) (σ:St) (Q:VK) (u:Value) (s':Shared):Prop:=∃ v H',Inv X pins σ H' s'∧RelV v u∧Q v H'
def TP (X:Cx) (pins:List (Addr × Obj)) (σ:St) (Q:Bool→Hp→Prop) (b:Bool) (s':Shared):Prop:=∃ H',Inv X pins σ H' s'∧Q b H'
def AP (X:Cx) (pins:List (Addr × Obj)) (σ:St) (Q:List V→Hp→Prop) (us:List Value) (s':Shared):Prop:=∃ vs H',Inv X pins σ H' s'∧Vals vs us∧Q vs H'
def SP (X:Cx) (pins:List (Addr × Obj)) (D:VS) (f:Flow) (s':Shared):Prop :=
 match f with
 | .next=>∃ σ' H',Inv X pins σ' H' s'∧D.nx σ' H'
 | .brk=>∃ σ' H',Inv X pins σ' H' s'∧D.bk σ' H'
 | .cont=>∃ σ' H',Inv X pins σ' H' s'∧D.ct σ' H'
 | .ret u=>∃ v σ' H',Inv X pins σ' H' s'∧RelV v u∧D.rt v H'
def PE (X:Cx) (e:Expr) (t:TE):Prop :=
 ∀ (pins:List (Addr × Obj)) (s:Shared) (σ:St) (H:Hp) (Q:VK),Inv X pins σ H s→t σ H Q→wpAny (model X.prog X.w) X.A (eval e X.env) (EP X pins σ Q) X.xe s
def PT (X:Cx) (e:Expr) (t:TT):Prop :=
 ∀ (pins:List (Addr × Obj)) (s:Shared) (σ:St) (H:Hp) (Q:Bool→Hp→Prop),Inv X pins σ H s→t σ H Q→wpAny (model X.prog X.w) X.A (isTrue e X.env (eval e X.env)) (TP X pins σ Q) X.xe s
def PW (X:Cx) (e:Expr) (t:TT):Prop :=
 ∀ (whole:Sem Value) (pins:List (Addr × Obj)) (s:Shared) (σ:St) (H:Hp) (Q:Bool→Hp→Prop),Inv X pins σ H s→t σ H Q→wpAny (model X.prog X.w) X.A (isTrue e X.env whole) (TP X pins σ Q) X.xe s
theorem PW.pt {X:Cx} {e:Expr} {t:TT} (h:PW X e t):PT X e t:=h _
def PA (X:Cx) (es:List Expr) (t:TA):Prop :=
 ∀ (pos:Pos) (pins:List (Addr × Obj)) (s:Shared) (σ:St) (H:Hp) (Q:List V→Hp→Prop),Inv X pins σ H s→t σ H Q→wpAny (model X.prog X.w) X.A (spliced (backTo pos (starEach es X.env))) (AP X pins σ Q) X.xe s
def PS (X:Cx) (st:Stmt) (t:TS):Prop :=
 ∀ (pins:List (Addr × Obj)) (s:Shared) (σ:St) (H:Hp) (D:VS),Inv X pins σ H s→t D σ H→wpAny (model X.prog X.w) X.A (exec st X.env) (SP X pins D) X.xe s
def PSs (X:Cx) (st:List Stmt) (t:TS):Prop :=
 ∀ (pins:List (Addr × Obj)) (s:Shared) (σ:St) (H:Hp) (D:VS),Inv X pins σ H s→t D σ H→wpAny (model X.prog X.w) X.A (execs st X.env) (SP X pins D) X.xe s
theorem thn {α:Type} {t:Sem α} {Q Q':α→Shared→Prop} {M:Model} {A:Around} {E:Value→Shared→Prop} {s:Shared} (h:wpAny M A t Q E s) (hQ:∀ a s,Q a s→Q' a s):wpAny M A t Q' E s:=db h hQ fun _ _ x=>x
section
variable {X:Cx}
def zc (i:Nat):TE:=fun σ H Q=>∃ v,σ[i]?=some (some v)∧Q v H
def tC (v:V):TE:=fun _ H Q=>Q v H
theorem zeX {i:Nat} {x:Str} {pos:Pos} (hN:X.N[i]?=some x) (hv:Vis X.env.scope x) (hd:(x == ("__debug__":Str))=false:=by decide) (hcd:(x == ("__classdict__":Str))=false:=by decide):PE X (.Name x pos) (zc i):=by
 intro pins s σ H Q I h
 obtain ⟨v,e,h⟩:=h
 obtain ⟨m,hn,hl⟩:=I.loc
 obtain ⟨u,r,l⟩:=hl i x v hN e hv
 have fin:EP X pins σ Q u s:=⟨v,H,I,r,h⟩
 rcases l with ⟨hk,hm⟩ | ⟨hk,c,hc,hcell⟩
 ·exact wpAny_Name (wpAny_loadName_local I.ok.kind hk hn hm fin) hd
 ·rcases hk with hk | hk
  ·exact wpAny_Name (wpAny_loadName_cell I.ok.kind hk hc hcell fin) hd
  ·exact wpAny_Name (wpAny_loadName_free I.ok.kind hk hc hcell fin hcd) hd
theorem zd {i j pos}:PE X (.Constant (.int i) j pos) (tC (.int i)):=fun _ _ _ H _ I h=>wpAny_Constant_int ⟨.int i,H,I.tok _,⟨_,rfl⟩,h⟩
theorem kr {b j pos}:PE X (.Constant (.bool b) j pos) (tC (.bl b)):=fun _ _ _ H _ I h=>Constant_bool ⟨.bl b,H,I,rfl,h⟩
theorem xg {j pos}:PE X (.Constant .none j pos) (tC .non):=fun _ _ _ H _ I h=>Constant_none ⟨.non,H,I,rfl,h⟩
theorem zL {x j pos}:PE X (.Constant (.str x) j pos) (tC (.str x)):=fun _ _ _ H _ I h=>nv ⟨.str x,H,I.tok _,⟨_,rfl⟩,h⟩
def Gl (X:Cx) (x:Str):Prop:=X.env.kindOf x=some .globalImplicit
theorem wZ {E:Value→Shared→Prop} {pins:List (Addr × Obj)} {s:Shared} {σ:St} {H:Hp} {x:Str} {u:Value} {pos:Pos} {Q:Value→Shared→Prop} (I:Inv X pins σ H s) (hg:Gl X x) (hm:X.mg x=some u) (h:Q u s)
  (hd:(x == ("__debug__":Str))=false:=by decide):wpAny (model X.prog X.w) X.A (eval (.Name x pos) X.env) Q E s :=
 i7 I.ok.kind hg (Calls.loadGlobal_global (by rw [I.ok.glob];exact I.mod.glob.keeps I.bk) hm h) hd
theorem XO {E:Value→Shared→Prop} {pins:List (Addr × Obj)} {s:Shared} {σ:St} {H:Hp} {x:Str} {u:Value} {pos:Pos} {Q:Value→Shared→Prop} (I:Inv X pins σ H s) (hg:Gl X x) (hm:X.mg x=none) (hv:bootBuiltins x=some u) (h:Q u s)
  (hn:x≠"__name__":=by decide) (hd:(x == ("__debug__":Str))=false:=by decide):wpAny (model X.prog X.w) X.A (eval (.Name x pos) X.env) Q E s:=by
 obtain ⟨mb,h1,h2⟩:=I.mod.blt
 exact i7 I.ok.kind hg (Calls.loadGlobal_builtin (by rw [I.ok.glob];exact I.mod.glob.keeps I.bk) hm (by rw [I.ok.blt];exact h1.keeps I.bk) ((h2 x hn).trans hv) h) hd
theorem zdw {x:Str} {v:V} {u:Value} {pos:Pos} (hg:Gl X x) (hm:X.mg x=some u) (r:RelV v u) (hd:(x == ("__debug__":Str))=false:=by decide):PE X (.Name x pos) (tC v) :=
 fun _ _ _ H _ I h=>wZ I hg hm ⟨v,H,I,r,h⟩ hd
theorem wq {x:Str} {v:V} {u:Value} {pos:Pos} (hg:Gl X x) (hm:X.mg x=none) (hv:bootBuiltins x=some u) (r:RelV v u) (hn:x≠"__name__":=by decide) (hd:(x == ("__debug__":Str))=false:=by decide):PE X (.Name x pos) (tC v) :=
 fun _ _ _ H _ I h=>XO I hg hm hv ⟨v,H,I,r,h⟩ hn hd
variable {a b:Expr} {ta tb:TE} {pos:Pos}
def tB (t:TE):TT:=fun σ H Q=>t σ H fun x H1=>∃ c,x=.bl c∧Q c H1
theorem yR {e:Expr} {t:TE} (h:PE X e t) (he:∀ whole,isTrue e X.env whole=(do let v ← whole;standAt e.pos;holding [v] (truthy v)):=by intro _;rfl):PT X e (tB t):=by
 intro pins s σ H Q I hw
 refine isTrue_plain (thn (h pins s σ H _ I hw) fun v s1 ⟨x,H1,I1,r1,q1⟩=>?_) (he _)
 obtain ⟨d,rfl,q⟩:=q1
 cases r1
 exact gM ⟨H1,I1,q⟩
variable {tA tB':TT} {rest:List Expr}
def ZZ (t u:TT):TT:=fun σ H Q=>t σ H fun c H1=>if c=true then u σ H1 Q else Q false H1
def tOr (t u:TT):TT:=fun σ H Q=>t σ H fun c H1=>if c=true then Q true H1 else u σ H1 Q
def x9 (t:TT):TT:=fun σ H Q=>t σ H fun c H1=>Q (!c) H1
theorem qR (ha:PT X a tA):PW X (.BoolOp .And [a] pos) tA:=by
 intro wh pins s σ H Q I h
 refine isTrue_and (thn (ha pins s σ H Q I h) fun c s1 e=>?_)
 cases c with
 | true=>exact isTrue_and_nil e
 | false=>exact e
theorem jI (ha:PT X a tA):PW X (.BoolOp .Or [a] pos) tA:=by
 intro wh pins s σ H Q I h
 refine isTrue_or (thn (ha pins s σ H Q I h) fun c s1 e=>?_)
 cases c with
 | false=>exact isTrue_or_nil e
 | true=>exact e
theorem Zu (ha:PT X a tA) (hb:PW X (.BoolOp .And (b :: rest) pos) tB'):PW X (.BoolOp .And (a :: b :: rest) pos) (ZZ tA tB'):=by
 intro wh pins s σ H Q I h
 refine isTrue_and (thn (ha pins s σ H _ I h) fun c s1 ⟨H1,I1,q1⟩=>?_)
 cases c with
 | true=>exact hb wh pins s1 σ H1 Q I1 q1
 | false=>exact ⟨H1,I1,q1⟩
theorem vg (ha:PT X a tA) (hb:PW X (.BoolOp .Or (b :: rest) pos) tB'):PW X (.BoolOp .Or (a :: b :: rest) pos) (tOr tA tB'):=by
 intro wh pins s σ H Q I h
 refine isTrue_or (thn (ha pins s σ H _ I h) fun c s1 ⟨H1,I1,q1⟩=>?_)
 cases c with
 | true=>exact ⟨H1,I1,q1⟩
 | false=>exact hb wh pins s1 σ H1 Q I1 q1
theorem xA (ha:PT X a tA):PT X (.UnaryOp .Not a pos) (x9 tA):=by
 intro pins s σ H Q I h
 exact isTrue_not (ha pins s σ H (fun c H1=>Q (!c) H1) I h)
def zeY (ta tb:TE):TE:=fun σ H Q=>ta σ H fun x H1=>∃ c,x=.bl c∧if c=true then Q (.bl true) H1 else tb σ H1 Q
theorem zeZ {op} {t:TE} (h:PE X a t):PE X (.BoolOp op [a] pos) t:=fun pins s σ H Q I hw=>BoolOp_one (h pins s σ H Q I hw)
theorem zfL (ha:PE X a ta) (hb:PE X (.BoolOp .Or (b :: rest) pos) tb):PE X (.BoolOp .Or (a :: b :: rest) pos) (zeY ta tb):=by
 intro pins s σ H Q I h
 refine BoolOp_or (thn (ha pins s σ H _ I h) fun v s1 ⟨x,H1,I1,r1,q1⟩=>?_)
 obtain ⟨c,rfl,q1⟩:=q1
 cases r1
 refine gM ?_
 cases c with
 | false=>exact hb pins s1 σ H1 Q I1 q1
 | true=>exact ⟨.bl true,H1,I1,rfl,q1⟩
def tIf (t:TT) (ta tb:TE):TE:=fun σ H Q=>t σ H fun c H1=>if c=true then ta σ H1 Q else tb σ H1 Q
theorem vh {c:Expr} (hc:PT X c tA) (ha:PE X a ta) (hb:PE X b tb):PE X (.IfExp c a b pos) (tIf tA ta tb):=by
 intro pins s σ H Q I h
 refine wpAny_IfExp (thn (hc pins s σ H _ I h) fun d s1 ⟨H1,I1,q1⟩=>?_)
 cases d with
 | true=>exact ha pins s1 σ H1 Q I1 q1
 | false=>exact hb pins s1 σ H1 Q I1 q1
end
def SqL (K:br) (H:Hp) (a:Addr) (xs:List V):Prop :=
 Rd H a (.lst xs) ∨
  ∃ (o:Obj) (its:Array Value) (n:Nat),K.lookup a=some o∧o.cls=.type "list"∧o.dict=none∧o.data=.seq its n∧its.size≤sizeLine∧Vals xs its.toList
def SqT (K:br) (H:Hp) (a:Addr) (xs:List V):Prop :=
 Rd H a (.tup xs) ∨
  ∃ (o:Obj) (its:Array Value) (n:Nat),K.lookup a=some o∧o.cls=.type "tuple"∧o.data=.seq its n∧its.size≤sizeLine∧Vals xs its.toList
def zgd:Value→Option V
 | .none=>some .non
 | .bool b=>some (.bl b)
 | .int i _=>some (.int i)
 | .str x _=>some (.str x)
 | .bytes b _=>some (.byt b)
 | .float b _=>some (.flt b)
 | .ref a=>some (.ref a)
 | .type n=>some (.ty n)
 | _=>none
theorem RelV.abs {x:V} {u:Value} (r:RelV x u):zgd u=some x:=by
 cases x with
 | non=>cases r;rfl
 | bl _=>cases r;rfl
 | int _=>obtain ⟨t,rfl⟩:=r;rfl
 | str _=>obtain ⟨t,rfl⟩:=r;rfl
 | byt _=>obtain ⟨t,rfl⟩:=r;rfl
 | flt _=>obtain ⟨t,rfl⟩:=r;rfl
 | ref _=>cases r;rfl
 | ty _=>cases r;rfl
theorem RelV.inj {x y:V} {u:Value} (r:RelV x u) (q:RelV y u):x=y:=ca (r.abs.symm.trans q.abs)
theorem Vals.inj:∀ {xs ys:List V} {us:List Value},Vals xs us→Vals ys us→xs=ys
 | _,_,_,.nil,.nil=>rfl
 | _,_,_,.cons r t,.cons r' t'=>by rw [r.inj r',Vals.inj t t']
section
variable {X:Cx} {pins:List (Addr × Obj)} {σ:St} {H:Hp} {s:Shared} {a:Addr} {xs ys:List V}
theorem SqL.of {K:br} (h:H a=some (.lst xs)):SqL K H a xs:=.inl (.inl h)
theorem SqT.of {K:br} (h:H a=some (.tup xs)):SqT K H a xs:=.inl (.inl h)
theorem Inv.list (I:Inv X pins σ H s) (h:SqL X.K H a xs):∃ its:List Value,Vals xs its∧PlainL s.heap a its.toArray∧xs.length≤sizeLine:=by
 rcases h with h | ⟨o,its,n,hk,hc,hd,hs,hz,r⟩
 ·obtain ⟨z,its,n,r,e⟩:=h.ok I.hok
  exact ⟨its,r,⟨_,n,e,rfl,rfl,rfl⟩,z⟩
 ·refine ⟨its.toList,r,⟨o,n,I.kIn a o hk,hc,hd,by simpa using hs⟩,?_⟩
  have e:=r.length
  simp only [cm] at e
  lia
theorem Inv.tuple (I:Inv X pins σ H s) (h:SqT X.K H a xs):∃ its:List Value,Vals xs its∧IsTup s.heap a its.toArray∧xs.length≤sizeLine:=by
 rcases h with h | ⟨o,its,n,hk,hc,hs,hz,r⟩
 ·obtain ⟨z,its,r,p⟩:=h.ok I.hok
  exact ⟨its,r,p,z⟩
 ·refine ⟨its.toList,r,⟨o,I.kIn a o hk,hc,n,by simpa using hs⟩,?_⟩
  have e:=r.length
  simp only [cm] at e
  lia
theorem Inv.list_inj (I:Inv X pins σ H s) (h:SqL X.K H a xs) (h':SqL X.K H a ys):xs=ys:=by
 obtain ⟨its,r,⟨o,n,e,_,_,d⟩,_⟩:=I.list h
 obtain ⟨its',r',⟨o',n',e',_,_,d'⟩,_⟩:=I.list h'
 rw [e] at e';cases e'
 rw [d] at d'
 injection d' with d1 _
 have:its=its':=by simpa using congrArg Array.toList d1
 subst this
 exact r.inj r'
theorem Inv.tuple_inj (I:Inv X pins σ H s) (h:SqT X.K H a xs) (h':SqT X.K H a ys):xs=ys:=by
 obtain ⟨its,r,⟨o,e,_,n,d⟩,_⟩:=I.tuple h
 obtain ⟨its',r',⟨o',e',_,n',d'⟩,_⟩:=I.tuple h'
 rw [e] at e';cases e'
 rw [d] at d'
 injection d' with d1 _
 have:its=its':=by simpa using congrArg Array.toList d1
 subst this
 exact r.inj r'
end
abbrev Cx.wish (X:Cx) (E:Value→Shared→Prop):Cx:={ X with xe:=E }
abbrev Cx.nox (X:Cx):Cx:=X.wish fun _ _=>False
theorem Cx.Ok.wish {X:Cx} (ok:X.Ok) (E:Value→Shared→Prop):(X.wish E).Ok :=
 ⟨ok.mod,ok.kind,ok.glob,ok.blt,ok.above,ok.inj,ok.has,ok.cab,ok.hd,ok.frames,ok.stk,ok.exf,ok.bs,ok.bsz,ok.noex,ok.exfs,ok.funs,ok.frf⟩
theorem Cx.Ok.unwish {X:Cx} {E:Value→Shared→Prop} (ok:(X.wish E).Ok):X.Ok :=
 ⟨ok.mod,ok.kind,ok.glob,ok.blt,ok.above,ok.inj,ok.has,ok.cab,ok.hd,ok.frames,ok.stk,ok.exf,ok.bs,ok.bsz,ok.noex,ok.exfs,ok.funs,ok.frf⟩
section
variable {X:Cx} {pins:List (Addr × Obj)} {σ:St} {H:Hp} {s:Shared} {E:Value→Shared→Prop}
theorem Inv.wish (I:Inv X pins σ H s) (E:Value→Shared→Prop):Inv (X.wish E) pins σ H s:=⟨I.ok.wish E,I.os,I.bare,I.base,I.loc,I.cell,I.free,I.freeC,I.pin,I.hok,I.len⟩
theorem Inv.unwish (I:Inv (X.wish E) pins σ H s):Inv X pins σ H s:=⟨I.ok.unwish,I.os,I.bare,I.base,I.loc,I.cell,I.free,I.freeC,I.pin,I.hok,I.len⟩
theorem SP.unwish {D:VS} {f:Flow} {s':Shared} (h:SP (X.wish E) pins D f s'):SP X pins D f s':=by
 cases f with
 | next=>obtain ⟨σ',H',I,q⟩:=h;exact ⟨σ',H',I.unwish,q⟩
 | brk=>obtain ⟨σ',H',I,q⟩:=h;exact ⟨σ',H',I.unwish,q⟩
 | cont=>obtain ⟨σ',H',I,q⟩:=h;exact ⟨σ',H',I.unwish,q⟩
 | ret u=>obtain ⟨v,σ',H',I,r,q⟩:=h;exact ⟨v,σ',H',I.unwish,r,q⟩
theorem PSs.nox {st:List Stmt} {t:TS} (h:PSs X.nox st t):PSs X st t:=fun pins s σ H D I hw =>
 db (h pins s σ H D (I.wish _) hw) (fun _ _ q=>q.unwish) fun _ _ z=>cI z
end
section
variable {X:Cx} {st:Stmt} {rest:List Stmt} {t u:TS} {e:Expr} {te:TE} {pos:Pos}
def zJ:TS:=fun D σ H=>D.nx σ H
def zp (t u:TS):TS:=fun D σ H=>t { D with nx:=u D } σ H
theorem zG:PSs X [] zJ:=fun _ _ σ H _ I h=>et ⟨σ,H,I,h⟩
theorem zg (h1:PS X st t) (h2:PSs X rest u):PSs X (st :: rest) (zp t u):=by
 intro pins s σ H D I h
 refine iq (thn (h1 pins s σ H { D with nx:=u D } I h) fun f s1 q=>?_)
 cases f with
 | next =>
  obtain ⟨σ',H',I',q⟩:=q
  exact h2 pins s1 σ' H' D I' q
 | ret v=>exact q
 | brk=>exact q
 | cont=>exact q
theorem zh (h1:PS X st t):PSs X [st] t:=by
 intro pins s σ H D I h
 refine iq (thn (h1 pins s σ H D I h) fun f s1 q=>?_)
 cases f with
 | next=>exact et q
 | ret v=>exact q
 | brk=>exact q
 | cont=>exact q
theorem Inv.quiet {pins:List (Addr × Obj)} {σ:St} {H:Hp} {s:Shared} (I:Inv X pins σ H s):interactive X.env=false:=by simp [interactive,I.ok.kind]
def xh (te:TE):TS:=fun D σ H=>te σ H fun _ H1=>D.nx σ H1
theorem yV (he:PE X e te) (hs:swapsWith e none pos.line X.env=pure false:=by rfl):PS X (.Expr e pos) (xh te):=by
 intro pins s σ H D I h
 exact wpAny_Expr_any (thn (he pins s σ H _ I h) fun v s1 ⟨x,H1,I1,r1,q1⟩=>⟨σ,H1,I1,q1⟩) I.quiet hs
def zE (te:TE):TS:=fun D σ H=>te σ H D.rt
theorem zt (he:PE X e te):PS X (.Return (some e) pos) (zE te):=by
 intro pins s σ H D I h
 exact wpAny_Return_some (thn (he pins s σ H _ I h) fun v s1 ⟨x,H1,I1,r1,q1⟩=>⟨x,σ,H1,I1,r1,q1⟩)
def zbL:TS:=fun D _ H=>D.rt .non H
theorem zdx:PS X (.Return none pos) zbL:=fun _ _ σ H _ I h=>wpAny_Return_none ⟨.non,σ,H,I,rfl,h⟩
def zM (c:TT) (t u:TS):TS:=fun D σ H=>c σ H fun b H1=>if b=true then t D σ H1 else u D σ H1
theorem zO {c:Expr} {a b:List Stmt} {tc:TT} (hc:PT X c tc) (ha:PSs X a t) (hb:PSs X b u):PS X (.If c a b pos) (zM tc t u):=by
 intro pins s σ H D I h
 refine wpAny_If (thn (hc pins s σ H _ I h) fun d s1 ⟨H1,I1,q1⟩=>?_)
 cases d with
 | true=>exact ha pins s1 σ H1 D I1 q1
 | false=>exact hb pins s1 σ H1 D I1 q1
end
abbrev TG:=V→St→Hp→(St→Hp→Prop)→Prop
abbrev TGs:=List V→St→Hp→(St→Hp→Prop)→Prop
def PG (X:Cx) (target:Expr) (t:TG):Prop :=
 ∀ (pins:List (Addr × Obj)) (s:Shared) (σ:St) (H:Hp) (v:V) (u:Value) (Q:St→Hp→Prop),Inv X pins σ H s→RelV v u→t v σ H Q →
  wpAny (model X.prog X.w) X.A (assign target X.env u) (fun _ s'=>∃ σ' H',Inv X pins σ' H' s'∧Q σ' H') X.xe s
def PGs (X:Cx) (ts:List Expr) (t:TGs):Prop :=
 ∀ (pins:List (Addr × Obj)) (s:Shared) (σ:St) (H:Hp) (vs:List V) (us:List Value) (Q:St→Hp→Prop),Inv X pins σ H s→Vals vs us→t vs σ H Q →
  wpAny (model X.prog X.w) X.A (assignInOrder ((assignEach ts X.env).map (·.2)) us) (fun _ s'=>∃ σ' H',Inv X pins σ' H' s'∧Q σ' H') X.xe s
section
variable {X:Cx} {pos:Pos}
def zw (i:Nat):TG:=fun v σ H Q=>Q (σ.set i (some v)) H
theorem yF {i:Nat} {x:Str} (hN:X.N.Nodup) (hi:X.N[i]?=some x) (hx:Loc X.env.scope x) (hf:X.fn x=true∨X.env.scope.names.lookup x=some .local:=by first | exact .inl rfl | exact .inr rfl | assumption):PG X (.Name x pos) (zw i):=by
 intro pins s σ H v u Q I r h
 exact wpAny_assign_Name (XN I hN hi hx r (fun s' I'=>⟨_,H,I',h⟩) hf)
def Ql:TGs:=fun vs σ H Q=>vs=[]∧Q σ H
def Ze (t:TG) (u:TGs):TGs:=fun vs σ H Q=>∃ v r,vs=v :: r∧t v σ H fun σ' H'=>u r σ' H' Q
theorem VT:PGs X [] Ql:=by
 intro pins s σ H vs us Q I r h
 obtain ⟨e,h⟩:=h
 subst e
 cases r
 exact assignInOrder_nil ⟨σ,H,I,h⟩
theorem jm {e:Expr} {es:List Expr} {t:TG} {u:TGs} (h1:PG X e t) (h2:PGs X es u)
  (hs:(assignEach (e :: es) X.env).map (·.2)=assign e X.env :: (assignEach es X.env).map (·.2):=by rfl):PGs X (e :: es) (Ze t u):=by
 intro pins s σ H vs us Q I r h
 obtain ⟨v,vr,e1,h⟩:=h
 subst e1
 cases r with
 | cons r rr =>
  rw [hs]
  refine assignInOrder_cons (thn (h1 pins s σ H _ _ _ I r h) fun _ s1 ⟨σ1,H1,I1,q1⟩=>?_)
  exact h2 pins s1 σ1 H1 _ _ Q I1 rr q1
def Qm (K:br) (n:Nat) (t:TGs):TG:=fun v σ H Q=>∃ a xs,v=.ref a∧SqT K H a xs∧xs.length=n∧t xs σ H Q
theorem Qn {es:List Expr} {k:Nat} {t:TGs} {n:Nat} (hc:X.calm=true) (h:PGs X es t)
  (hn:(assignEach es X.env).length=n:=by rfl) (hst:(assignEach es X.env).findIdx? (·.1)=none:=by rfl):PG X (.Tuple es k pos) (Qm X.K n t):=by
 intro pins s σ H v u Q I r hw
 obtain ⟨a,xs,e1,hq,hl,hw⟩:=hw
 subst e1
 cases r
 obtain ⟨its,rv,ht,hz⟩:=I.tuple hq
 refine assign_Tuple_tuple (I.ok.hd hc) ht (by simp [hn,← hl,rv.length]) hst fun h' hx=>?_
 have I1:Inv X pins σ H { s with heap:=h' }:=I.kept (t':=s.toks) fun b o e=>hx b o (cz (bS e)) e
 exact h pins _ σ H xs _ Q I1 (by simpa using rv) hw
def zV (te:TE) (g:TG):TS:=fun D σ H=>te σ H fun x H1=>g x σ H1 D.nx
theorem ze0 {tg e:Expr} {te:TE} {g:TG} (he:PE X e te) (hg:PG X tg g) (hs:swapsWithSole [tg] e pos.line X.env=pure false:=by rfl) (hw:swappedStores [tg] e X.env=pure none:=by rfl)
  (h1:(assignEach [tg] X.env).map (·.2)=[assign tg X.env]:=by rfl):PS X (.Assign [tg] e pos) (zV te g):=by
 intro pins s σ H D I h
 refine wpAny_Assign_stores (thn (he pins s σ H _ I h) fun v s1 ⟨x,H1,I1,r1,q1⟩=>?_) hs hw
 rw [h1]
 exact thn (hg pins s1 σ H1 x v _ I1 r1 q1) fun _ s2 q=>q
theorem zK {i:Nat} {x:Str} {e:Expr} {te:TE} {pos':Pos} (hN:X.N.Nodup) (hi:X.N[i]?=some x) (hx:Loc X.env.scope x) (he:PE X e te) (hs:swapsWith e (some (.Name x pos')) pos.line X.env=pure false:=by rfl) (hf:X.fn x=true∨X.env.scope.names.lookup x=some .local:=by first | exact .inl rfl | exact .inr rfl | assumption) :
  PS X (.Assign [.Name x pos'] e pos) (zV te (zw i)):=by
 intro pins s σ H D I h
 refine wpAny_Assign_Name (thn (he pins s σ H _ I h) fun v s1 ⟨y,H1,I1,r1,q1⟩=>?_) hs
 exact XN I1 hN hi hx r1 (fun s2 I2=>⟨_,H1,I2,q1⟩) hf
end
section
variable {X:Cx} {pos:Pos}
def VU (c:TT) (tb:TS):TS:=fun D σ H=>∃ W:Nat→St→Hp→Prop,(∃ m,W m σ H)∧∀ m σ H,W m σ H →
 c σ H fun b H1=>if b=true then ∃ N:St→Hp→Prop,(∀ σ' H',N σ' H'→∃ m',m' < m∧W m' σ' H')∧tb { D with nx:=N,ct:=N,bk:=D.nx } σ H1 else D.nx σ H1
theorem JW {c:Expr} {body:List Stmt} {tc:TT} {tb:TS} (hp:PassesOwn (model X.prog X.w) X.A X.env X.xe) (hc:PT X c tc) (hb:PSs X body tb):PS X (.While c body [] pos) (VU tc tb):=by
 intro pins s σ H D I h
 obtain ⟨W,⟨m0,w0⟩,turn⟩:=h
 refine wpAny_While (codeAny_whileLoop (fun n s'=>∃ σ' H',Inv X pins σ' H' s'∧W n σ' H') ?_ m0 ⟨σ,H,I,w0⟩)
 rintro n s1 ⟨σ1,H1,I1,w1⟩
 refine eO hp (thn (hc pins s1 σ1 H1 _ I1 (turn n σ1 H1 w1)) fun b s2 ⟨H2,I2,q2⟩=>?_)
 cases b with
 | true =>
  obtain ⟨N,hN,q2⟩:=q2
  rw [if_pos rfl]
  refine eO hp (thn (hb pins s2 σ1 H2 _ I2 q2) fun f s3 q3=>?_)
  cases f with
  | next =>
   obtain ⟨σ3,H3,I3,n3⟩:=q3
   obtain ⟨m',hm,w3⟩:=hN σ3 H3 n3
   exact ⟨m',hm,σ3,H3,I3,w3⟩
  | cont =>
   obtain ⟨σ3,H3,I3,n3⟩:=q3
   obtain ⟨m',hm,w3⟩:=hN σ3 H3 n3
   exact ⟨m',hm,σ3,H3,I3,w3⟩
  | brk=>exact q3
  | ret v=>exact q3
 | false =>
  rw [if_neg bK]
  exact et ⟨σ1,H2,I2,q2⟩
end
set_option genSizeOf false in
set_option genInjectivity false in
structure It where
 go:Nat→Hp→Prop
 yld:Nat→Hp→V→Hp→Prop
 stop:Nat→Hp→Prop
def kQ (X:Cx) (pins:List (Addr × Obj)) (H:Hp) (b:Addr):Prop :=
 H b=none∧b≠X.env.locals∧b ∉ X.fs∧(b∈X.ex∨X.s₀.heap.objs.size≤b)∧(∀ x c,X.env.cells.lookup x=some c→c≠b)∧∀ p∈X.pn ++ pins,p.1≠b
theorem Inv.fpOk {X:Cx} {pins:List (Addr × Obj)} {σ:St} {H H':Hp} {s:Shared} {b:Addr} (I:Inv X pins σ H s) (hb:s.heap.objs.size≤b) (hn:H' b=none):kQ X pins H' b:=by
 refine ⟨hn,dW (cx I.lt hb),I.nofs hb,.inr (cf I.sz hb),fun x c e z=>?_,fun p hp z=>?_⟩
 ·obtain ⟨v,q⟩:=I.cell x c e
  exact absurd (cx q.lt (by rw [z];exact hb)) (fO _)
 ·exact absurd (cx (bS (I.pin p hp).1) (by rw [z];exact hb)) (fO _)
structure za7 (P:Program) (w:World) (K:br) (tg:Expr) (J:It) (fp:List Addr) (it:Addr) (tn:Nat→Heap→Prop):Prop where
 mem:it∈fp
 obj:∀ i h,tn i h→∀ b∈fp,∃ o,h.get? b=some o∧∀ v,o.data≠.cell v
 keep:∀ i h h',tn i h→(∀ b∈fp,∀ o,h.get? b=some o→h'.get? b=some o)→tn i h'
 item:∀ (X:Cx),X.prog=P→X.w=w→X.K=K→X.calm=true→∀ (i:Nat) (pins:List (Addr × Obj)) (s:Shared) (σ:St) (H:Hp) (E:Value→Shared→Prop),Inv X pins σ H s→(∀ b∈fp,kQ X pins H b)→tn i s.heap→J.go i H →
  wpAny (model P w) X.A (pyNext (.ref it)) (fun r s1=>∃ u,r=some u ∧
   wpAny (model P w) X.A (letOwnedTupleGo tg (.ref it) u) (fun _ s2=>∃ x H',Inv X pins σ H' s2∧RelV x u∧J.yld i H x H'∧tn (i + 1) s2.heap∧∀ b∈fp,H' b=none) E s1) E s
 done:∀ (X:Cx),X.prog=P→X.w=w→X.K=K→X.calm=true→∀ (i:Nat) (pins:List (Addr × Obj)) (s:Shared) (σ:St) (H:Hp) (E:Value→Shared→Prop),Inv X pins σ H s→(∀ b∈fp,kQ X pins H b)→tn i s.heap→J.stop i H →
  wpAny (model P w) X.A (pyNext (.ref it)) (fun r s1=>r=none∧Inv X pins σ H s1) E s
 self:∀ (A:Around) (i:Nat) (s:Shared) (Q:Value→Shared→Prop) (E:Value→Shared→Prop),tn i s.heap→Q (.ref it) s→wpAny (model P w) A (pyIter (.ref it)) Q E s
abbrev TI:=St→Hp→(It→Hp→Prop)→Prop
def PIE (X:Cx) (pins:List (Addr × Obj)) (σ:St) (tg:Expr) (R:It→Hp→Prop) (itv:Value) (s2:Shared):Prop :=
 ∃ (it:Addr) (fp:List Addr) (tn:Nat→Heap→Prop) (J:It) (H':Hp),itv=.ref it∧Inv X pins σ H' s2∧za7 X.prog X.w X.K tg J fp it tn∧tn 0 s2.heap∧(∀ b∈fp,kQ X pins H' b)∧R J H'
def PI (X:Cx) (tg iter:Expr) (wi:TI):Prop :=
 ∀ (pins:List (Addr × Obj)) (s:Shared) (σ:St) (H:Hp) (R:It→Hp→Prop),Inv X pins σ H s→wi σ H R →
  wpAny (model X.prog X.w) X.A (eval iter X.env) (fun v s1=>wpAny (model X.prog X.w) X.A (pyIter v) (PIE X pins σ tg R) X.xe s1) X.xe s
theorem zaa {M:Model} {A:Around} {E:Value→Shared→Prop} {s:Shared} {tg:Expr} {it:Addr} {u:Value} {o:Obj} {n:String} {vs:Array Value} {Q:Unit→Shared→Prop} (ho:s.heap.get? it=some o) (hc:o.cls=.type n) (hd:o.data=.fields vs)
  (hn:["enumerate","zip","dict_itemiterator","dict_reverseitemiterator","odict_iterator","itertools.zip_longest","itertools.pairwise"].contains n=false) (hQ:Q () s):wpAny M A (letOwnedTupleGo tg (.ref it) u) Q E s:=by
 unfold letOwnedTupleGo
 cases tg <;> first
  | exact bj hQ
  | (cases u <;> first
      | exact bj hQ
      | (refine ba (mU ho ?_)
         rw [hc,hd]
         show wpAny M A (if (["enumerate","zip","dict_itemiterator","dict_reverseitemiterator","odict_iterator","itertools.zip_longest","itertools.pairwise"].contains n && vs[0]? == some (rawInt _))=true then _ else _) Q E s
         rw [if_neg (by intro h;rw [hn,Bool.false_and] at h;cases h)]
         exact bj hQ))
def Itl (K:br) (a:Addr):It :=
 ⟨fun i H=>∃ xs x,SqL K H a xs∧xs[i]?=some x,fun i H x H'=>H'=H∧∀ xs,SqL K H a xs→xs[i]?=some x,fun i H=>∃ xs,SqL K H a xs∧xs.length≤i⟩
def Itt (K:br) (a:Addr):It :=
 ⟨fun i H=>∃ xs x,SqT K H a xs∧xs[i]?=some x,fun i H x H'=>H'=H∧∀ xs,SqT K H a xs→xs[i]?=some x,fun i H=>∃ xs,SqT K H a xs∧xs.length≤i⟩
def Itr (lo:Int) (n:Nat):It:=⟨fun i _=>i < n,fun i H x H'=>H'=H∧x=.int (lo + i),fun i _=>n≤i⟩
theorem za8 {P:Program} {w:World} {K:br} {tg:Expr} (a it:Addr):za7 P w K tg (Itl K a) [it] it (fun i h=>h.IsListIter it a i) where
 mem:=by simp
 obj:=fun i h st b hb=>by
  have e:b=it:=by simpa using hb
  subst e
  obtain ⟨o,e,c,d⟩:=st
  exact ⟨o,e,fun v z=>by rw [d] at z;cases z⟩
 keep:=fun i h h' st k=>st.at fun o e=>k it (by simp) o e
 item:=by
  intro X hP hw hK hc i pins s σ H E I hf st hg
  subst hP hw hK
  obtain ⟨xs,x,hq,hx⟩:=hg
  obtain ⟨its,rv,p,hz⟩:=I.list hq
  obtain ⟨u,hu,ru⟩:=rv.get hx
  obtain ⟨f0,f1,f2,f3,f4,f5⟩:=hf it (by simp)
  refine my st p.isList (x:=u) (by simpa using hu) fun h' st' sb=>?_
  have I1:Inv X pins σ H { s with heap:=h' }:=I.turned (t':=s.toks) (fun b o hb e=>(sb.2 b hb).trans e) f0 f1 f3 f4 f5
  obtain ⟨o,e,c,d⟩:=id st'
  exact ⟨u,rfl,zaa (s:={ s with heap:=h' }) e c d (by decide) ⟨x,H,I1,ru,⟨rfl,fun ys hy=>by rw [I.list_inj hy hq];exact hx⟩,st',fun b hb=>(hf b hb).1⟩⟩
 done:=by
  intro X hP hw hK hc i pins s σ H E I hf st hg
  subst hP hw hK
  obtain ⟨xs,hq,hx⟩:=hg
  obtain ⟨its,rv,p,hz⟩:=I.list hq
  obtain ⟨f0,f1,f2,f3,f4,f5⟩:=hf it (by simp)
  have hl:=rv.length
  exact mJ (I.ok.hd hc) st p.isList (by simp;lia) fun h' eb=>⟨rfl,I.turned (t':=s.toks) (fun b o hb e=>eb b o hb e) f0 f1 f3 f4 f5⟩
 self:=fun _ _ _ _ _ st h=>wpAny_pyIter_listiter st h
theorem Qo {P:Program} {w:World} {K:br} {tg:Expr} (a it:Addr):za7 P w K tg (Itt K a) [it] it (fun i h=>h.IsTupleIter it a i) where
 mem:=by simp
 obj:=fun i h st b hb=>by
  have e:b=it:=by simpa using hb
  subst e
  obtain ⟨o,e,c,d⟩:=st
  exact ⟨o,e,fun v z=>by rw [d] at z;cases z⟩
 keep:=fun i h h' st k=>st.at fun o e=>k it (by simp) o e
 item:=by
  intro X hP hw hK hc i pins s σ H E I hf st hg
  subst hP hw hK
  obtain ⟨xs,x,hq,hx⟩:=hg
  obtain ⟨its,rv,p,hz⟩:=I.tuple hq
  obtain ⟨u,hu,ru⟩:=rv.get hx
  obtain ⟨f0,f1,f2,f3,f4,f5⟩:=hf it (by simp)
  refine wpAny_pyNext_tuple_item st (show s.heap.IsTuple a its.toArray from p) (x:=u) (by simpa using hu) fun h' st' sb=>?_
  have I1:Inv X pins σ H { s with heap:=h' }:=I.turned (t':=s.toks) (fun b o hb e=>(sb.2 b hb).trans e) f0 f1 f3 f4 f5
  obtain ⟨o,e,c,d⟩:=id st'
  exact ⟨u,rfl,zaa (s:={ s with heap:=h' }) e c d (by decide) ⟨x,H,I1,ru,⟨rfl,fun ys hy=>by rw [I.tuple_inj hy hq];exact hx⟩,st',fun b hb=>(hf b hb).1⟩⟩
 done:=by
  intro X hP hw hK hc i pins s σ H E I hf st hg
  subst hP hw hK
  obtain ⟨xs,hq,hx⟩:=hg
  obtain ⟨its,rv,p,hz⟩:=I.tuple hq
  obtain ⟨f0,f1,f2,f3,f4,f5⟩:=hf it (by simp)
  have hl:=rv.length
  exact wpAny_pyNext_tuple_end (I.ok.hd hc) st (show s.heap.IsTuple a its.toArray from p) (by simp;lia) fun h' eb=>⟨rfl,I.turned (t':=s.toks) (fun b o hb e=>eb b o hb e) f0 f1 f3 f4 f5⟩
 self:=fun _ _ _ _ _ st h=>wpAny_pyIter_tupleiter st h
theorem Qp {P:Program} {w:World} {K:br} {tg:Expr} (it:Addr) (lo:Int) (n:Nat):za7 P w K tg (Itr lo n) [it] it (fun i h=>IsRangeIter h it (lo + (i:Nat) * 1) ((n:Int) - (i:Nat)) 1) where
 mem:=by simp
 obj:=fun i h st b hb=>by
  have e:b=it:=by simpa using hb
  subst e
  exact ⟨_,st,fun v z=>by
   have z':Data.fields _=Data.cell v:=z
   cases z'⟩
 keep:=fun i h h' st k=>k it (by simp) _ st
 item:=by
  intro X hP hw hK hc i pins s σ H E I hf st hg
  subst hP hw hK
  obtain ⟨f0,f1,f2,f3,f4,f5⟩:=hf it (by simp)
  have W:=Walks.range (prog:=X.prog) (w:=X.w) (I.ok.hd hc) it lo 1 n
  refine W.item i s _ _ hg st fun v h' tk hv st' kk=>?_
  obtain ⟨t,rfl⟩:=hv
  have I1:Inv X pins σ H { s with heap:=h',toks:=tk }:=I.turned (fun b o hb e=>kk b o (by simpa using hb) e) f0 f1 f3 f4 f5
  refine ⟨_,rfl,zaa (s:={ s with heap:=h',toks:=tk }) (n:="range_iterator") st' rfl rfl (by decide) ⟨.int (lo + i),H,I1,⟨t,?_⟩,⟨rfl,rfl⟩,st',fun b hb=>(hf b hb).1⟩⟩
  rw [Int.mul_one]
 done:=by
  intro X hP hw hK hc i pins s σ H E I hf st hg
  subst hP hw hK
  obtain ⟨f0,f1,f2,f3,f4,f5⟩:=hf it (by simp)
  exact mB (I.ok.hd hc) st (by have:n≤i:=hg;lia) fun h' eb=>⟨rfl,I.turned (t':=s.toks) (fun b o hb e=>eb b o hb e) f0 f1 f3 f4 f5⟩
 self:=fun _ _ _ _ _ st h=>mC st h
section
variable {X:Cx} {tg:Expr}
def jn (K:br) (tl:TE):TI:=fun σ H R=>tl σ H fun x H1=>∃ a,x=.ref a∧(∃ xs,SqL K H1 a xs)∧R (Itl K a) H1
def ze1 (K:br) (tl:TE):TI:=fun σ H R=>tl σ H fun x H1=>∃ a,x=.ref a∧(∃ xs,SqT K H1 a xs)∧R (Itt K a) H1
theorem jJ {l:Expr} {tl:TE} (hl:PE X l tl):PI X tg l (jn X.K tl):=by
 intro pins s σ H R I h
 refine thn (hl pins s σ H _ I h) fun v s1 ⟨x,H1,I1,r1,q1⟩=>?_
 obtain ⟨a,e,⟨xs,hq⟩,q⟩:=q1
 subst e
 cases r1
 obtain ⟨its,rv,p,hz⟩:=I1.list hq
 refine wpAny_pyIter_list p.isList ?_
 refine ⟨s1.heap.objs.size,[s1.heap.objs.size],_,_,H1,rfl,I1.kept (t':=s1.toks) fun b o e=>bn _ e,za8 a _,⟨_,bC _ rfl,rfl,rfl⟩,fun b hb=>?_,q⟩
 have e:b=s1.heap.objs.size:=by simpa using hb
 subst e
 exact I1.fpOk (bu _) (I1.hok.fresh (bu _))
theorem ze2 {l:Expr} {tl:TE} (hl:PE X l tl):PI X tg l (ze1 X.K tl):=by
 intro pins s σ H R I h
 refine thn (hl pins s σ H _ I h) fun v s1 ⟨x,H1,I1,r1,q1⟩=>?_
 obtain ⟨a,e,⟨xs,hq⟩,q⟩:=q1
 subst e
 cases r1
 obtain ⟨its,rv,p,hz⟩:=I1.tuple hq
 refine wpAny_pyIter_tuple (show s1.heap.IsTuple a its.toArray from p) ?_
 refine ⟨s1.heap.objs.size,[s1.heap.objs.size],_,_,H1,rfl,I1.kept (t':=s1.toks) fun b o e=>bn _ e,Qo a _,⟨_,bC _ rfl,rfl,rfl⟩,fun b hb=>?_,q⟩
 have e:b=s1.heap.objs.size:=by simpa using hb
 subst e
 exact I1.fpOk (bu _) (I1.hok.fresh (bu _))
theorem zbM {pins:List (Addr × Obj)} {σ:St} {H:Hp} {s:Shared} {R:It→Hp→Prop} {E:Value→Shared→Prop} {lo hi:Int} {t u v:Tok} {tk:Nat} (I:Inv X pins σ H s) (h1:-(2 ^ 62)≤lo) (h2:lo < 2 ^ 62) (h3:-(2 ^ 62)≤hi) (h4:hi < 2 ^ 62)
  (q:R (Itr lo (hi - lo).toNat) H):wpAny (model X.prog X.w) X.A (pyIter (.ref s.heap.objs.size)) (PIE X pins σ tg R) E { s with heap:=s.heap.push { cls:=.type "range",data:=.fields #[.int lo t,.int hi u,.int 1 v] },toks:=tk }:=by
 refine wpAny_pyIter_range (IsRange.new ..) (small_one h1 h2 h3 h4) ?_
 have I1:Inv X pins σ H { s with heap:=s.heap.push { cls:=.type "range",data:=.fields #[.int lo t,.int hi u,.int 1 v] },toks:=tk }:=I.kept fun b o e=>bn _ e
 refine ⟨(s.heap.push { cls:=.type "range",data:=.fields #[.int lo t,.int hi u,.int 1 v] }).objs.size,[(s.heap.push { cls:=.type "range",data:=.fields #[.int lo t,.int hi u,.int 1 v] }).objs.size],_,_,H,rfl,
  I1.kept (t':=tk) fun b o e=>bn _ e,Qp _ lo (hi - lo).toNat,?_,fun b hb=>?_,q⟩
 ·have e1:lo + ((0:Nat):Int) * 1=lo:=by simp
  have e2:(((hi - lo).toNat:Nat):Int) - ((0:Nat):Int)=gC lo hi 1:=by rw [rangeSize_one];split <;> lia
  show IsRangeIter _ _ (lo + ((0:Nat):Int) * 1) ((((hi - lo).toNat:Nat):Int) - ((0:Nat):Int)) 1
  rw [e1,e2]
  exact bC _ rfl
 ·have e:b=(s.heap.push { cls:=.type "range",data:=.fields #[.int lo t,.int hi u,.int 1 v] }).objs.size:=by simpa using hb
  subst e
  exact I1.fpOk (bu _) (I1.hok.fresh (bu _))
def Z0 (ta:TA):TI:=fun σ H R=>ta σ H fun vs H1=>∃ j:Int,vs=[.int j]∧-(2 ^ 62)≤j∧j < 2 ^ 62∧R (Itr 0 j.toNat) H1
theorem qS {a:Expr} {ta:TA} {p pos:Pos} (hg:Gl X "range") (hm:X.mg "range"=none) (ha:PA X [a] ta) (hs:starEach [a] X.env=[(false,eval a X.env)]:=by rfl):PI X tg (.Call (.Name "range" p) [a] [] pos) (Z0 ta):=by
 intro pins s σ H R I h
 refine Call_ (XO I hg hm boot_range (fA (thn (ha pos pins s σ H _ I h) fun us s1 ⟨vs,H1,I1,r1,q1⟩=>?_) hs rfl))
 obtain ⟨j,e,q1,q2,q⟩:=q1
 subst e
 cases r1 with
 | cons r rr =>
  cases rr
  obtain ⟨t,rfl⟩:=r
  exact call_range_1 (zbM I1 (by lia) (by lia) q1 q2 (by simpa using q))
def v5 (wi:TI) (g:TG) (tb:TS):TS:=fun D σ H=>wi σ H fun J H1=>∃ W:Nat→Nat→St→Hp→Prop,(∃ m,W 0 m σ H1)∧∀ i m σ H,W i m σ H →
 (J.stop i H∧D.nx σ H)∨(J.go i H∧∃ N:St→Hp→Prop,(∀ σ' H',N σ' H'→∃ m',m' < m∧W (i + 1) m' σ' H')∧∀ x H',J.yld i H x H'→g x σ H' fun σ2 H2=>tb { D with nx:=N,ct:=N,bk:=D.nx } σ2 H2)
def XQ (fp:List Addr) (h:Heap):List (Addr × Obj):=fp.filterMap fun b=>(h.get? b).map fun o=>(b,o)
theorem jK {fp:List Addr} {h:Heap} {b:Addr} {o:Obj} (hb:b∈fp) (e:h.get? b=some o):(b,o)∈XQ fp h:=fq.mpr ⟨b,hb,by rw [e];rfl⟩
theorem za9 {fp:List Addr} {h:Heap} {p:Addr × Obj} (hp:p∈XQ fp h):p.1∈fp∧h.get? p.1=some p.2:=by
 obtain ⟨b,hb,e⟩:=List.mem_filterMap.mp hp
 cases q:h.get? b with
 | none=>rw [q] at e;cases e
 | some o =>
  rw [q] at e
  have e':(b,o)=p:=ca e
  subst e'
  exact ⟨hb,q⟩
theorem Inv.pinned {pins:List (Addr × Obj)} {σ:St} {H:Hp} {s:Shared} {fp:List Addr} (I:Inv X pins σ H s) (hf:∀ b∈fp,kQ X pins H b) (ho:∀ b∈fp,∃ o,s.heap.get? b=some o∧∀ v,o.data≠.cell v):Inv X (pins ++ XQ fp s.heap) σ H s :=
 I.pins_of fun p hp=>(bz.mp hp).elim (fun z=>I.pin p (bV _ z)) fun z=>by
  obtain ⟨hb,e⟩:=za9 z
  obtain ⟨f0,f1,f2,_⟩:=hf p.1 hb
  obtain ⟨o,e',d⟩:=ho p.1 hb
  rw [e] at e';cases e'
  exact ⟨e,f0,f1,f2,d⟩
theorem Inv.unpinned {pins pl:List (Addr × Obj)} {σ:St} {H:Hp} {s:Shared} (I:Inv X (pins ++ pl) σ H s):Inv X pins σ H s:=I.pins_of fun p hp=>I.pin p (bV _ (cZ _ hp))
theorem vi {iter:Expr} {body:List Stmt} {wi:TI} {g:TG} {tb:TS} {pos:Pos} (hp:PassesOwn (model X.prog X.w) X.A X.env X.xe) (hc:X.calm=true) (hi:PI X tg iter wi) (hg:PG X tg g) (hb:PSs X body tb)
  (hs:∀ x,foldedSetIterable iter X.env x=pure x:=by intro _;rfl):PS X (.For tg iter body [] pos) (v5 wi g tb):=by
 intro pins s σ H D I h
 refine wpAny_For (thn (hi pins s σ H _ I h) fun v s1 h1=>thn h1 fun itv s2 h2=>?_) hs
 obtain ⟨it,fp,tn,J,H2,e,I2,T,st2,f2,W,⟨m0,w0⟩,turn⟩:=h2
 subst e
 -- what stays true of the iterator's objects through the loop
 have stat:∀ {H':Hp},(∀ b∈fp,H' b=none)→∀ b∈fp,kQ X pins H' b:=fun hn b hb=>⟨hn b hb,(f2 b hb).2⟩
 refine codeAny_forLoop_any (fun n s'=>∃ i σ' H',Inv X pins σ' H' s'∧tn i s'.heap∧(∀ b∈fp,H' b=none)∧W i n σ' H') ?_ m0 ⟨0,σ,H2,I2,st2,fun b hb=>(f2 b hb).1,w0⟩
 rintro n s3 ⟨i,σ3,H3,I3,st3,fr3,w3⟩
 rcases turn i n σ3 H3 w3 with ⟨stop,qn⟩ | ⟨go,N,hN,step⟩
 ·refine eO hp (thn (T.done X rfl rfl rfl hc i pins s3 σ3 H3 X.xe I3 (stat fr3) st3 stop) fun r s4 ⟨hr,I4⟩=>?_)
  subst hr
  exact et ⟨σ3,H3,I4,qn⟩
 ·refine eO hp (thn (T.item X rfl rfl rfl hc i pins s3 σ3 H3 X.xe I3 (stat fr3) st3 go) fun r s4 ⟨u,hr,h4⟩=>?_)
  subst hr
  refine eO hp (thn h4 fun _ s5 ⟨x,H5,I5,r5,y5,st5,fr5⟩=>?_)
  have I5':=I5.pinned (stat fr5) (T.obj _ _ st5)
  refine eO hp (thn (hg _ s5 σ3 H5 x u _ I5' r5 (step x H5 y5)) fun _ s6 ⟨σ6,H6,I6,q6⟩=>?_)
  refine eO hp (thn (hb _ s6 σ6 H6 _ I6 q6) fun f s7 q7=>?_)
  have again:∀ {σ7:St} {H7:Hp},Inv X (pins ++ XQ fp s5.heap) σ7 H7 s7→N σ7 H7→∃ m,m < n∧∃ i σ' H',Inv X pins σ' H' s7∧tn i s7.heap∧(∀ b∈fp,H' b=none)∧W i m σ' H':=fun {σ7 H7} I7 n7=>by
   obtain ⟨m',hm,w7⟩:=hN σ7 H7 n7
   refine ⟨m',hm,i + 1,σ7,H7,I7.unpinned,T.keep _ _ _ st5 fun b hb o e=>(I7.pin (b,o) (bV _ (bV _ (jK hb e)))).1,fun b hb=>?_,w7⟩
   obtain ⟨o,e,d⟩:=T.obj _ _ st5 b hb
   exact (I7.pin (b,o) (bV _ (bV _ (jK hb e)))).2.1
  cases f with
  | next=>obtain ⟨σ7,H7,I7,n7⟩:=q7;exact again I7 n7
  | cont=>obtain ⟨σ7,H7,I7,n7⟩:=q7;exact again I7 n7
  | brk=>obtain ⟨σ7,H7,I7,q7⟩:=q7;exact ⟨σ7,H7,I7.unpinned,q7⟩
  | ret v=>obtain ⟨x7,σ7,H7,I7,r7,q7⟩:=q7;exact ⟨x7,σ7,H7,I7.unpinned,r7,q7⟩
end
abbrev R2:=V→V→Hp→VK→Prop
def OpR (X:Cx) (f:Value→Value→Sem Value) (r:R2):Prop :=
 ∀ (pins:List (Addr × Obj)) (s:Shared) (σ:St) (H:Hp) (x y:V) (v u:Value) (Q:VK),Inv X pins σ H s→RelV x v→RelV y u→r x y H Q →
  wpAny (model X.prog X.w) X.A (f v u) (EP X pins σ Q) X.xe s
def UnR (X:Cx) (f:Value→Sem Value) (r:V→Hp→VK→Prop):Prop :=
 ∀ (pins:List (Addr × Obj)) (s:Shared) (σ:St) (H:Hp) (x:V) (v:Value) (Q:VK),Inv X pins σ H s→RelV x v→r x H Q →
  wpAny (model X.prog X.w) X.A (f v) (EP X pins σ Q) X.xe s
def kR (X:Cx) (f:Value) (r:List V→Hp→VK→Prop):Prop :=
 ∀ (pins:List (Addr × Obj)) (s:Shared) (σ:St) (H:Hp) (xs:List V) (us:List Value) (Q:VK),Inv X pins σ H s→Vals xs us→r xs H Q →
  wpAny (model X.prog X.w) X.A (call f us) (EP X pins σ Q) X.xe s
def tOp (r:R2) (ta tb:TE):TE:=fun σ H Q=>ta σ H fun x H1=>tb σ H1 fun y H2=>r x y H2 Q
def tUn (r:V→Hp→VK→Prop) (ta:TE):TE:=fun σ H Q=>ta σ H fun x H1=>r x H1 Q
def rI (C:Int→Int→Prop) (g:Int→Int→V):R2:=fun x y H Q=>∃ i j,x=.int i∧y=.int j∧C i j∧Q (g i j) H
def rI0 (g:Int→Int→V):R2:=fun x y H Q=>∃ i j,x=.int i∧y=.int j∧Q (g i j) H
def rU (g:Int→V):V→Hp→VK→Prop:=fun x H Q=>∃ i,x=.int i∧Q (g i) H
section
variable {X:Cx} {a b c:Expr} {ta tb tc:TE} {pos:Pos}
theorem ze3 (ha:PE X a ta) (hb:PE X b tb) {pins:List (Addr × Obj)} {s:Shared} {σ:St} {H:Hp} {R:V→V→Hp→Prop} (I:Inv X pins σ H s)
  (h:ta σ H fun x H1=>tb σ H1 fun y H2=>R x y H2) {Q:Value→Shared→Prop} {f:Value→Value→Sem Value}
  (hf:∀ v u s2 x y H2,Inv X pins σ H2 s2→RelV x v→RelV y u→R x y H2→wpAny (model X.prog X.w) X.A (f v u) Q X.xe s2) :
  wpAny (model X.prog X.w) X.A (eval a X.env) (fun v s₁=>wpAny (model X.prog X.w) X.A (eval b X.env) (fun u s₂=>wpAny (model X.prog X.w) X.A (f v u) Q X.xe s₂) X.xe s₁) X.xe s:=by
 refine thn (ha pins s σ H _ I h) fun v s1 ⟨x,H1,I1,r1,q1⟩=>?_
 refine thn (hb pins s1 σ H1 _ I1 q1) fun u s2 ⟨y,H2,I2,r2,q2⟩=>?_
 exact hf v u s2 x y H2 I2 r1 r2 q2
theorem zv {op:Operator} {r:R2} (ho:OpR X (binaryOp op) r) (ha:PE X a ta) (hb:PE X b tb):PE X (.BinOp a op b pos) (tOp r ta tb):=by
 intro pins s σ H Q I h
 exact wpAny_BinOp (ze3 ha hb I h fun v u s2 x y H2 I2 rx ry q=>ho pins s2 σ H2 x y v u Q I2 rx ry q)
theorem YY {op:UnaryOp} {r:V→Hp→VK→Prop} (ho:UnR X (unaryOp op) r) (ha:PE X a ta):PE X (.UnaryOp op a pos) (tUn r ta):=by
 intro pins s σ H Q I h
 exact UnaryOp_ (thn (ha pins s σ H _ I h) fun v s1 ⟨x,H1,I1,r1,q1⟩=>ho pins s1 σ H1 x v Q I1 r1 q1)
theorem opI {f:Value→Value→Sem Value} {C:Int→Int→Prop} {g:Int→Int→Int}
  (rule:∀ (i j:Int) (t u:Tok) (s:Shared) (Q:Value→Shared→Prop) (E:Value→Shared→Prop),C i j→Q (.int (g i j) s.toks) { s with toks:=s.toks + 1 }→wpAny (model X.prog X.w) X.A (f (.int i t) (.int j u)) Q E s) :
  OpR X f (rI C fun i j=>.int (g i j)):=by
 intro pins s σ H x y v u Q I rx ry h
 obtain ⟨i,j,rfl,rfl,hc,q⟩:=h
 obtain ⟨t,rfl⟩:=rx
 obtain ⟨t',rfl⟩:=ry
 exact rule i j t t' s _ _ hc ⟨.int (g i j),H,I.tok _,⟨_,rfl⟩,q⟩
theorem zfM {f:Value→Value→Sem Value} {g:Int→Int→Int}
  (rule:∀ (i j:Int) (t u:Tok) (s:Shared) (Q:Value→Shared→Prop) (E:Value→Shared→Prop),Q (.int (g i j) s.toks) { s with toks:=s.toks + 1 }→wpAny (model X.prog X.w) X.A (f (.int i t) (.int j u)) Q E s) :
  OpR X f (rI0 fun i j=>.int (g i j)):=by
 intro pins s σ H x y v u Q I rx ry h
 obtain ⟨i,j,rfl,rfl,q⟩:=h
 obtain ⟨t,rfl⟩:=rx
 obtain ⟨t',rfl⟩:=ry
 exact rule i j t t' s _ _ ⟨.int (g i j),H,I.tok _,⟨_,rfl⟩,q⟩
theorem zdy {f:Value→Value→Sem Value} {g:Int→Int→Bool}
  (rule:∀ (i j:Int) (t u:Tok) (s:Shared) (Q:Value→Shared→Prop) (E:Value→Shared→Prop),Q (.bool (g i j)) s→wpAny (model X.prog X.w) X.A (f (.int i t) (.int j u)) Q E s) :
  OpR X f (rI0 fun i j=>.bl (g i j)):=by
 intro pins s σ H x y v u Q I rx ry h
 obtain ⟨i,j,rfl,rfl,q⟩:=h
 obtain ⟨t,rfl⟩:=rx
 obtain ⟨t',rfl⟩:=ry
 exact rule i j t t' s _ _ ⟨.bl (g i j),H,I,rfl,q⟩
def JX (i j:Int):Prop:=0≤j∧j≤1000000∧i.natAbs < 2 ^ 64
theorem zZ:OpR X (binaryOp .Add) (rI0 fun i j=>.int (i + j)):=zfM fun _ _ _ _ _ _ _ q=>add_int q
theorem Zv:OpR X (binaryOp .Sub) (rI0 fun i j=>.int (i - j)):=zfM fun _ _ _ _ _ _ _ q=>sub_int q
theorem ya:OpR X (binaryOp .Mod) (rI (fun _ j=>0 < j) fun i j=>.int (i % j)):=opI fun i j _ _ _ _ _ hc q=>by
 have h1:(0:Int) < j:=hc
 exact mod_int' (by lia) (by rw [Int.fmod_eq_emod_of_nonneg i (by lia)];exact q)
theorem zdz:OpR X (binaryOp .Mod) (rI (fun _ j=>j≠0) fun i j=>.int (i.fmod j)):=opI fun _ _ _ _ _ _ _ hc q=>mod_int' hc q
theorem Yv:OpR X (binaryOp .Pow) (rI JX fun i j=>.int (i ^ j.toNat)):=opI fun _ _ _ _ _ _ _ hc q=>pow_int_small hc.1 hc.2.1 hc.2.2 q
theorem unI {f:Value→Sem Value} {g:Int→Int}
  (rule:∀ (i:Int) (t:Tok) (s:Shared) (Q:Value→Shared→Prop) (E:Value→Shared→Prop),Q (.int (g i) s.toks) { s with toks:=s.toks + 1 }→wpAny (model X.prog X.w) X.A (f (.int i t)) Q E s) :
  UnR X f (rU fun i=>.int (g i)):=by
 intro pins s σ H x v Q I rx h
 obtain ⟨i,rfl,q⟩:=h
 obtain ⟨t,rfl⟩:=rx
 exact rule i t s _ _ ⟨.int (g i),H,I.tok _,⟨_,rfl⟩,q⟩
theorem kS:UnR X (unaryOp .USub) (rU fun i=>.int (-i)):=unI fun _ _ _ _ _ q=>neg_int q
end
def kH:V→V→Bool
 | .non,.non=>true | .non,.int _=>true | .int _,.non=>true | .non,.bl _=>true | .bl _,.non=>true | .non,.str _=>true | .str _,.non=>true
 | .int _,.int _=>true | .bl _,.bl _=>true | .str _,.str _=>true | .byt _,.byt _=>true
 | .int _,.str _=>true | .str _,.int _=>true | .bl _,.str _=>true | .str _,.bl _=>true
 | _,_=>false
def rEq:R2:=fun x y H Q=>kH x y=true∧Q (.bl (decide (x=y))) H
def rNe:R2:=fun x y H Q=>kH x y=true∧Q (.bl (!decide (x=y))) H
theorem zab {i j:Int}:decide (V.int i=V.int j)=(i == j):=by
 rw [iO]
 simp
theorem zbN {i j:Bool}:decide (V.bl i=V.bl j)=(i == j):=by
 rw [iO]
 simp
theorem zac {i j:Str}:decide (V.str i=V.str j)=(i == j):=by
 rw [iO]
 simp
theorem zad {i j:Array UInt8}:decide (V.byt i=V.byt j)=(i.toList == j.toList):=by
 rw [iO]
 cases i
 cases j
 simp
section
variable {X:Cx} {a b c:Expr} {ta tb tc:TE} {pos:Pos}
theorem yb {pins:List (Addr × Obj)} {σ:St} {H:Hp} {s:Shared} {Q:VK} {k k':Bool} (I:Inv X pins σ H s) (q:Q (.bl k) H) (e:k=k'):EP X pins σ Q (.bool k') s:=by
 subst e
 exact ⟨.bl k,H,I,rfl,q⟩
theorem yD:OpR X (compareOp .Eq) rEq:=by
 intro pins s σ H x y v u Q I rx ry h
 obtain ⟨hs,q⟩:=h
 cases x with
 | non =>
  cases rx
  cases y with
  | non=>cases ry;exact PySem.EqNone.eq_none_none (yb I q (by simp))
  | bl j=>cases ry;exact PySem.EqNone.eq_none_bool (yb I q (by simp))
  | int j=>obtain ⟨t',rfl⟩:=ry;exact PySem.EqNone.eq_none_int (yb I q (by simp))
  | str j=>obtain ⟨t',rfl⟩:=ry;exact PySem.EqNone.eq_none_str (yb I q (by simp))
  | _=>exact absurd (show false=true from hs) bK
 | bl i =>
  cases rx
  cases y with
  | non=>cases ry;exact PySem.EqNone.eq_bool_none (yb I q (by simp))
  | bl j=>cases ry;exact eq_bool (yb I q zbN)
  | str j=>obtain ⟨t',rfl⟩:=ry;exact PySem.EqMixed.eq_bool_str (yb I q (by simp))
  | _=>exact absurd (show false=true from hs) bK
 | int i =>
  obtain ⟨t,rfl⟩:=rx
  cases y with
  | non=>cases ry;exact PySem.EqNone.eq_int_none (yb I q (by simp))
  | int j=>obtain ⟨t',rfl⟩:=ry;exact eq_int (yb I q zab)
  | str j=>obtain ⟨t',rfl⟩:=ry;exact PySem.EqMixed.eq_int_str (yb I q (by simp))
  | _=>exact absurd (show false=true from hs) bK
 | str i =>
  obtain ⟨t,rfl⟩:=rx
  cases y with
  | non=>cases ry;exact PySem.EqNone.eq_str_none (yb I q (by simp))
  | bl j=>cases ry;exact PySem.EqMixed.eq_str_bool (yb I q (by simp))
  | int j=>obtain ⟨t',rfl⟩:=ry;exact PySem.EqMixed.eq_str_int (yb I q (by simp))
  | str j=>obtain ⟨t',rfl⟩:=ry;exact eq_str (yb I q zac)
  | _=>exact absurd (show false=true from hs) bK
 | byt i =>
  obtain ⟨t,rfl⟩:=rx
  cases y with
  | byt j=>obtain ⟨t',rfl⟩:=ry;exact W.eq_bytes (yb I q zad)
  | _=>exact absurd (show false=true from hs) bK
 | _=>cases y <;> exact absurd (show false=true from hs) bK
theorem kT:OpR X (compareOp .NotEq) rNe:=by
 intro pins s σ H x y v u Q I rx ry h
 obtain ⟨hs,q⟩:=h
 cases x with
 | non =>
  cases rx
  cases y with
  | non=>cases ry;exact PySem.EqNone.ne_none_none (yb I q (by simp))
  | bl j=>cases ry;exact PySem.EqNone.ne_none_bool (yb I q (by simp))
  | int j=>obtain ⟨t',rfl⟩:=ry;exact PySem.EqNone.ne_none_int (yb I q (by simp))
  | str j=>obtain ⟨t',rfl⟩:=ry;exact PySem.EqNone.ne_none_str (yb I q (by simp))
  | _=>exact absurd (show false=true from hs) bK
 | bl i =>
  cases rx
  cases y with
  | non=>cases ry;exact PySem.EqNone.ne_bool_none (yb I q (by simp))
  | bl j=>cases ry;exact ne_bool (yb I q (congrArg not zbN))
  | str j=>obtain ⟨t',rfl⟩:=ry;exact PySem.EqMixed.ne_bool_str (yb I q (by simp))
  | _=>exact absurd (show false=true from hs) bK
 | int i =>
  obtain ⟨t,rfl⟩:=rx
  cases y with
  | non=>cases ry;exact PySem.EqNone.ne_int_none (yb I q (by simp))
  | int j=>obtain ⟨t',rfl⟩:=ry;exact ne_int (yb I q (congrArg not zab))
  | str j=>obtain ⟨t',rfl⟩:=ry;exact PySem.EqMixed.ne_int_str (yb I q (by simp))
  | _=>exact absurd (show false=true from hs) bK
 | str i =>
  obtain ⟨t,rfl⟩:=rx
  cases y with
  | non=>cases ry;exact PySem.EqNone.ne_str_none (yb I q (by simp))
  | bl j=>cases ry;exact PySem.EqMixed.ne_str_bool (yb I q (by simp))
  | int j=>obtain ⟨t',rfl⟩:=ry;exact PySem.EqMixed.ne_str_int (yb I q (by simp))
  | str j=>obtain ⟨t',rfl⟩:=ry;exact ne_str (yb I q (congrArg not zac))
  | _=>exact absurd (show false=true from hs) bK
 | byt i =>
  obtain ⟨t,rfl⟩:=rx
  cases y with
  | byt j=>obtain ⟨t',rfl⟩:=ry;exact W.ne_bytes (yb I q (congrArg not zad))
  | _=>exact absurd (show false=true from hs) bK
 | _=>cases y <;> exact absurd (show false=true from hs) bK
theorem YZ:OpR X (compareOp .Lt) (rI0 fun i j=>.bl (decide (i < j))):=zdy fun _ _ _ _ _ _ _ q=>lt_int q
theorem zeD:OpR X (compareOp .LtE) (rI0 fun i j=>.bl (decide (i≤j))):=zdy fun _ _ _ _ _ _ _ q=>le_int q
theorem zae:OpR X (compareOp .Gt) (rI0 fun i j=>.bl (decide (j < i))):=zdy fun _ _ _ _ _ _ _ q=>gt_int q
theorem zfN:OpR X (compareOp .GtE) (rI0 fun i j=>.bl (decide (j≤i))):=zdy fun _ _ _ _ _ _ _ q=>ge_int q
theorem Qq:OpR X (compareOp .Is) (fun x y H Q=>y=.non∧Q (.bl (decide (x=.non))) H):=by
 intro pins s σ H x y v u Q I rx ry h
 obtain ⟨rfl,q⟩:=h
 cases ry
 refine is_none_gen (yb I q ?_)
 cases x <;> first
  | (cases rx;rfl)
  | (obtain ⟨t,rfl⟩:=rx;rfl)
theorem zaf:OpR X (compareOp .IsNot) (fun x y H Q=>y=.non∧Q (.bl (!decide (x=.non))) H):=by
 intro pins s σ H x y v u Q I rx ry h
 obtain ⟨rfl,q⟩:=h
 cases ry
 refine isnot_none_gen (yb I q ?_)
 cases x <;> first
  | (cases rx;rfl)
  | (obtain ⟨t,rfl⟩:=rx;rfl)
theorem zy (b:Expr) {op:CmpOp} (h:op≠.In:=by decide) (h2:op≠.NotIn:=by decide):behindInMarks op b=false:=by
 have e1:(op == CmpOp.In)=false:=by cases op <;> first | rfl | exact absurd rfl h
 have e2:(op == CmpOp.NotIn)=false:=by cases op <;> first | rfl | exact absurd rfl h2
 cases b <;> simp [behindInMarks,e1,e2]
theorem VV {op:CmpOp} {r:R2} (ho:OpR X (compareOp op) r) (ha:PE X a ta) (hb:PE X b tb) (hm:behindInMarks op b=false):PE X (.Compare a [op] [b] pos) (tOp r ta tb):=by
 intro pins s σ H Q I h
 exact wpAny_Compare1 (ze3 ha hb I h fun v u s2 x y H2 I2 rx ry q=>ho pins s2 σ H2 x y v u Q I2 rx ry q) hm
def zq (t:TE):TT:=fun σ H Q=>t σ H fun x H'=>∃ k,x=.bl k∧Q k H'
theorem zn {op:CmpOp} {r:R2} (ho:OpR X (compareOp op) r) (ha:PE X a ta) (hb:PE X b tb) (hm:behindInMarks op b=false):PT X (.Compare a [op] [b] pos) (zq (tOp r ta tb)):=by
 intro pins s σ H Q I h
 refine wpAny_isTrue_Compare1 (thn (ha pins s σ H _ I h) fun v s1 ⟨x,H1,I1,r1,q1⟩=>thn (hb pins s1 σ H1 _ I1 q1) fun u s2 ⟨y,H2,I2,r2,q2⟩ =>
  thn (ho pins s2 σ H2 x y v u _ I2 r1 r2 q2) fun c s3 ⟨z,H3,I3,r3,k,e,q3⟩=>?_) hm
 subst e
 cases r3
 exact gM ⟨H3,I3,q3⟩
def Qr (r r':R2) (ta tb tc:TE):TE:=fun σ H Q=>ta σ H fun x H1=>tb σ H1 fun y H2=>r x y H2 fun z H3=>∃ k,z=.bl k ∧
 (if k=true then tc σ H3 fun w' H4=>r' y w' H4 Q else Q (.bl false) H3)
theorem zbO {op op':CmpOp} {r r':R2} (ho:OpR X (compareOp op) r) (ho':OpR X (compareOp op') r') (ha:PE X a ta) (hb:PE X b tb) (hc:PE X c tc)
  (hm:lastMarks [op,op'] [b,c]=false:=by with_unfolding_all rfl):PE X (.Compare a [op,op'] [b,c] pos) (Qr r r' ta tb tc):=by
 intro pins s σ H Q I h
 refine Compare_chain (thn (ha pins s σ H _ I h) fun v s1 ⟨x,H1,I1,r1,q1⟩=>chain_link (thn (hb pins s1 σ H1 _ I1 q1) fun u s2 ⟨y,H2,I2,r2,q2⟩ =>
  thn (ho pins s2 σ H2 x y v u _ I2 r1 r2 q2) fun d s3 ⟨z,H3,I3,r3,k,e,q3⟩=>?_)) hm
 subst e
 cases r3
 refine gM ?_
 cases k with
 | false=>exact ite_ff ⟨.bl false,H3,I3,rfl,q3⟩
 | true=>exact ite_tt (chain_last (thn (hc pins s3 σ H3 _ I3 q3) fun w' s4 ⟨z',H4,I4,r4,q4⟩=>ho' pins s4 σ H4 y z' u w' Q I4 r2 r4 q4))
theorem VW:(sizeLine:Nat) < 2 ^ 63:=by rw [eL];decide
theorem jL:OpR X (binaryOp .Add) (fun x y H Q=>∃ i j,x=.str i∧y=.str j∧i.length + j.length≤sizeLine∧Q (.str (i ++ j)) H):=by
 intro pins s σ H x y v u Q I rx ry h
 obtain ⟨i,j,rfl,rfl,hz,q⟩:=h
 obtain ⟨t,rfl⟩:=rx
 obtain ⟨t',rfl⟩:=ry
 exact add_str (fun t' tk=>⟨.str (i ++ j),H,I.tok _,⟨_,rfl⟩,q⟩) hz
theorem Y0 {x:V} {us:List Value} (r:Vals [x] us):∃ u,us=[u]∧RelV x u:=by
 cases r with
 | cons r1 r2=>cases r2;exact ⟨_,rfl,r1⟩
theorem zfO {x y:V} {us:List Value} (r:Vals [x,y] us):∃ u w',us=[u,w']∧RelV x u∧RelV y w':=by
 cases r with
 | cons r1 r2 =>
  cases r2 with
  | cons r3 r4=>cases r4;exact ⟨_,_,rfl,r1,r3⟩
def Zw (K:br) (x:V) (H:Hp) (n:Nat):Prop :=
 match x with
 | .str y=>y.length≤sizeLine∧n=y.length
 | .byt y=>y.size≤sizeLine∧n=y.size
 | .ref p=>(∃ xs,SqL K H p xs∧n=xs.length)∨∃ xs,SqT K H p xs∧n=xs.length
 | _=>False
theorem yz:kR X (.builtin "len") (fun xs H Q=>∃ x n,xs=[x]∧Zw X.K x H n∧Q (.int n) H):=by
 intro pins s σ H xs us Q I r h
 obtain ⟨x,n,rfl,e,q⟩:=h
 obtain ⟨u,rfl,rx⟩:=Y0 r
 have hl:=VW
 have hs:sizeLine=16777216:=eL
 cases x with
 | str y =>
  obtain ⟨t,rfl⟩:=rx
  obtain ⟨hy,e'⟩:y.length≤sizeLine∧n=y.length:=e
  subst e'
  exact len_str (by lia) ⟨.int _,H,I.tok _,⟨_,rfl⟩,q⟩
 | byt y =>
  obtain ⟨t,rfl⟩:=rx
  obtain ⟨hy,e'⟩:y.size≤sizeLine∧n=y.size:=e
  subst e'
  exact W.len_bytes (by lia) ⟨.int _,H,I.tok _,⟨_,rfl⟩,q⟩
 | ref p =>
  cases rx
  have e':(∃ xs,SqL X.K H p xs∧n=xs.length)∨∃ xs,SqT X.K H p xs∧n=xs.length:=e
  rcases e' with ⟨xs,hx,e'⟩ | ⟨xs,hx,e'⟩
  ·subst e'
   obtain ⟨its,r',pl,hz⟩:=I.list hx
   have hlen:=r'.length
   exact Calls.call_len_list pl.isList (by simp only [bJ];lia) ⟨.int xs.length,H,I.tok _,⟨_,by simp only [bJ];rw [hlen]⟩,q⟩
  ·subst e'
   obtain ⟨its,r',pl,hz⟩:=I.tuple hx
   have hlen:=r'.length
   exact len_tuple pl (by simp only [bJ];lia) ⟨.int xs.length,H,I.tok _,⟨_,by simp only [bJ];rw [hlen]⟩,q⟩
 | _=>exact (show False from e).elim
end
structure ObjM (h:Heap) (x dx C:Addr) (mA:Str→Option Value):Prop where
 obj:h.get? x=some (iL C dx)
 ns:h.Ns1 dx mA
 ne:dx≠x
theorem zba {h:Heap} {dx:Addr} {mA:Str→Option Value} (n:h.Ns1 dx mA):∃ od,h.get? dx=some od∧∀ name,oJ name od=some (mA name):=by
 obtain ⟨o,es,ep,ho,hd,hk,_,hm⟩:=n
 refine ⟨o,ho,fun name=>?_⟩
 have e:=hm name
 unfold nsFind findBy at e
 rw [← Array.find?_toList] at e
 unfold oJ
 rw [hd]
 dsimp only
 split
 ·rename_i y q
  rw [q] at e
  exact congrArg some e
 ·rename_i q
  rw [q] at e
  have a:es.toList.any (·.refKey)=false:=by
   rw [lH]
   intro y hy
   obtain ⟨z,t,hkey⟩:=hk y (Array.mem_toList_iff.mp hy)
   simp [DictEntry.refKey,hkey]
  have a':¬ es.toList.any (·.refKey)=true:=by rw [a];exact bK
  rw [if_neg a']
  exact congrArg some e
theorem ObjM.look {h:Heap} {x dx C:Addr} {mA:Str→Option Value} (I:ObjM h x dx C mA):∃ od,W.InstAt h x (iL C dx) C (some od)∧∀ name,oJ name od=some (mA name) :=
 let ⟨od,ho,hl⟩:=zba I.ns
 ⟨od,⟨I.obj,rfl,rfl,ho⟩,hl⟩
section
variable {prog:Program} {w:World} {A:Around} {E:Value→Shared→Prop} {s:Shared} {K:br} {x dx C f:Addr} {mA:Str→Option Value} {name:Str} {v:Value}
theorem zdA {expr:Bool} {Q:Value→Shared→Prop} (X:K.In s.heap) (I:ObjM s.heap x dx C mA) (hg:lI K C name=true) (hh:lU K C=true)
  (ha:cX K (.ref C) name=some none) (hv:mA name=some v) (hv':W.handedIn v=true) (h:Q v { s with toks:=s.toks + 1 }) :
  wpAny (model prog w) A (getAttr (.ref x) name expr) Q E s:=by
 obtain ⟨od,J,hl⟩:=I.look
 exact W.get_value X J (nz hg).1 (W.findObj_own hh ha rfl (by rw [hl,hv])) hv' h
theorem zbP {pl:Sem Bool} {Q:Value × List Value→Shared→Prop} (X:K.In s.heap) (I:ObjM s.heap x dx C mA) (hg:lI K C name=true)
  (hf:cX K (.ref C) name=some (some (.ref f))) (ht:oG K (.ref f)=true) (hv:mA name=none) (h:Q (.ref f,[.ref x]) s) :
  wpAny (model prog w) A (getMethod (.ref x) name pl) Q E s:=by
 obtain ⟨od,J,hl⟩:=I.look
 exact W.method_fn X J (nz hg).1 (nz hg).2 hf (beq_iff_eq.mp ht) (by show (oJ name od).map (·.isSome)=some false;rw [hl,hv];rfl) h
theorem zdB {ns:List Str} {Q:Unit→Shared→Prop} (X:K.In s.heap) (I:ObjM s.heap x dx C mA)
  (hs:cX K (.ref C) "__setattr__"=some (some (.builtin "object.__setattr__"))) (hp:m6 K C=true) (ht:W.takerIn K C name=some none) (hh:lU K C=true)
  (hw:nT mA ns) (hsz:ns.length≤sizeLine)
  (h:∀ h',ObjM h' x dx C (fun y=>if y=name then some v else mA y)→cQ dx s.heap h'→Q () { s with heap:=h',toks:=s.toks + 2 }) :
  wpAny (model prog w) A (setAttr (.ref x) name v) Q E s:=by
 obtain ⟨od,J,hl⟩:=I.look
 refine W.set_plain X J hs (W.osa_open (s:={ s with toks:=s.toks + 1 }) (r:=none) X J hp ht fun b=>?_)
 obtain ⟨cd,hc,hd'⟩:=W.any_some hh
 have hx:s.heap.get? x=some ⟨.ref C,some dx,.plain,#[]⟩:=I.obj
 refine ba (bj (ba (ba (wpAny_loadPart hx (ba (W.Looks.here (s:={ s with toks:=s.toks + 1 }) (W.looks_clsIn X hc) ?_))))))
 rw [hd']
 refine bj (a:=some dx) (ba (bj (ba ?_)))
 refine wpAny_nsSet1 (s:={ s with toks:=s.toks + 1 }) I.ns fun h' hn2 hs2=>?_
 obtain ⟨oD,esD,epD,hoD,hdD,hcD⟩:=hn2.count (PySem.Within.cons name v hw)
 refine ba (wpAny_lookBehind hoD (by rw [hdD];exact pastItsLine_dict (cf hcD (by rw [ck];lia))) ?_)
 exact bj (h _ ⟨(hs2.2 _ (cA I.ne)).trans I.obj,hn2,I.ne⟩ hs2)
theorem zbQ {R:Result→Shared→Prop} {vs:List Value} {kw:List (Str × Value)} (X:K.In s.heap) (hm:ou K C=true)
  (hi:cX K (.ref C) "__init__"=some (some (.ref f))) (hf:W.typeIn K (.ref f)=some (.type "function"))
  (h:codeAny (model prog w) (A.under (.builtin "type.__call__" ⟨.ref C :: vs,kw⟩)) (.call (.ref f) ⟨.ref (s.heap.objs.size + 1) :: vs,kw⟩) (W.InitBack (s.heap.objs.size + 1) R)
   { s with heap:=(s.heap.push fB).push (iL C s.heap.objs.size) }) :
  codeAny (model prog w) A (.call (.ref C) ⟨vs,kw⟩) R s:=by
 obtain ⟨hh,g,d,t,os⟩:=s
 exact W.make_core (W.makes_of X hm) (W.looks_findIn X hi) (fun self=>W.bind_fn X self hf) (.inl rfl) h
end
def z7 (f:Str) (v:V):List (Str × V)→List (Str × V)
 | []=>[(f,v)]
 | (g,x) :: r=>if g=f then (g,v) :: r else (g,x) :: z7 f v r
theorem Y1 (f g:Str) (v:V):∀ fs:List (Str × V),(z7 f v fs).lookup g=if g=f then some v else fs.lookup g
 | []=>by
  show gN g [(f,v)]=_
  by_cases h:g=f
  ·have hb:(g == f)=true:=beq_iff_eq.mpr h
   simp only [gN,hb,if_pos h]
  ·have hb:(g == f)=false:=beq_eq_false_iff_ne.mpr h
   simp only [gN,hb,if_neg h]
 | (k,x) :: r=>by
  have ih:=Y1 f g v r
  rw [show z7 f v ((k,x) :: r)=(if k=f then (k,v) :: r else (k,x) :: z7 f v r) from rfl]
  by_cases hk:k=f
  ·rw [if_pos hk]
   by_cases h:g=k
   ·have hb:(g == k)=true:=beq_iff_eq.mpr h
    simp only [gN,hb,if_pos (h.trans hk)]
   ·have hb:(g == k)=false:=beq_eq_false_iff_ne.mpr h
    simp only [gN,hb,if_neg (fun e:g=f=>h (e.trans hk.symm))]
  ·rw [if_neg hk]
   by_cases h:g=k
   ·have hb:(g == k)=true:=beq_iff_eq.mpr h
    simp only [gN,hb,if_neg (fun e:g=f=>hk (h.symm.trans e))]
   ·have hb:(g == k)=false:=beq_eq_false_iff_ne.mpr h
    simp only [gN,hb]
    exact ih
theorem Yw (f:Str) (v:V):∀ fs:List (Str × V),f∈(z7 f v fs).map (·.1)∧∀ g,g∈fs.map (·.1)→g∈(z7 f v fs).map (·.1)
 | []=>⟨by simp [z7],fun g h=>by simp at h⟩
 | (k,x) :: r=>by
  obtain ⟨i1,i2⟩:=Yw f v r
  rw [show z7 f v ((k,x) :: r)=(if k=f then (k,v) :: r else (k,x) :: z7 f v r) from rfl]
  by_cases hk:k=f
  ·rw [if_pos hk]
   subst hk
   exact ⟨by simp,fun g h=>by simpa using h⟩
  ·rw [if_neg hk]
   refine ⟨?_,fun g h=>?_⟩
   ·rw [bW]
    exact bx _ i1
   ·rw [bW] at h ⊢
    rcases bN.mp h with e | e
    ·exact bN.mpr (.inl e)
    ·exact bx _ (i2 g e)
theorem Y2 (f:Str) (v:V):∀ fs:List (Str × V),(z7 f v fs).length≤fs.length + 1
 | []=>by simp [z7]
 | (k,x) :: r=>by
  have ih:=Y2 f v r
  rw [show z7 f v ((k,x) :: r)=(if k=f then (k,v) :: r else (k,x) :: z7 f v r) from rfl]
  by_cases hk:k=f
  ·rw [if_pos hk,ck,ck];lia
  ·rw [if_neg hk,ck,ck];lia
theorem RelO.some_of {v:V} {o:Option Value} (r:RelO (some v) o):∃ u,o=some u∧RelV v u:=by
 cases o with
 | none=>exact (show False from r).elim
 | some u=>exact ⟨u,rfl,r⟩
theorem RelO.none_of {o:Option Value} (r:RelO none o):o=none:=by
 cases o with
 | none=>rfl
 | some u=>exact (show False from r).elim
theorem zbb {v:V} {u:Value} (r:RelV v u):W.handedIn u=true:=by
 cases v with
 | non=>cases (show u=cD from r);rfl
 | bl b=>cases (show u=gL b from r);rfl
 | int i=>obtain ⟨t,e⟩:=(show ∃ t,u=ic i t from r);cases e;rfl
 | str x=>obtain ⟨t,e⟩:=(show ∃ t,u=iK x t from r);cases e;rfl
 | byt b=>obtain ⟨t,e⟩:=(show ∃ t,u=Value.bytes b t from r);cases e;rfl
 | flt b=>obtain ⟨t,e⟩:=(show ∃ t,u=oq b t from r);cases e;rfl
 | ref a=>cases (show u=bL a from r);rfl
 | ty n=>cases (show u=lG n from r);rfl
section
variable {P:Program} {w:World} {H H':Hp} {h h':Heap} {a C dx:Addr} {fs fs':List (Str × V)}
theorem XG (hok:HOk P w H h) (e:H a=some (.ins C dx fs)):∃ mA,ObjM h a dx C mA∧(∀ f,RelO (fs.lookup f) (mA f))∧nT mA (fs.map (·.1))∧fs.length≤1000∧H dx=some (.own a):=by
 obtain ⟨d,z,ne,ob,mA,n,r,q⟩:=(show ObjOk P w H h a (.ins C dx fs) from hok a _ e)
 exact ⟨mA,⟨ob,n,ne⟩,r,q,z,d⟩
end
structure Cls (K:br) (C:Addr):Prop where
 pg:lI K C iP=true
 hd:lU K C=true
 po:m6 K C=true
 sa:cX K (.ref C) "__setattr__"=some (some (.builtin "object.__setattr__"))
theorem Cls.get {K:br} {C:Addr} (c:Cls K C) (f:Str):lI K C f=true:=c.pg
def NoAttr (K:br) (C:Addr) (f:Str):Prop:=cX K (.ref C) f=some none
theorem NoAttr.taker {K:br} {C:Addr} {f:Str} (n:NoAttr K C f):W.takerIn K C f=some none:=by
 unfold W.takerIn
 rw [show cX K (.ref C) f=some none from n]
 rfl
structure zbc (K:br) (C:Addr) (m:Str) (f:Addr):Prop where
 at_:cX K (.ref C) m=some (some (.ref f))
 fn:oG K (.ref f)=true
 kp:eW K (.ref f)=true
section
variable {X:Cx} {pins:List (Addr × Obj)} {σ:St} {H:Hp} {s:Shared} {a C dx:Addr} {fs:List (Str × V)} {f:Str} {v:V} {A:Around} {E:Value→Shared→Prop}
theorem Qs {b:Bool} {Q:Value→Shared→Prop} (I:Inv X pins σ H s) (e:H a=some (.ins C dx fs)) (c:Cls X.K C) (n:NoAttr X.K C f) (l:fs.lookup f=some v)
  (h:∀ u s',Inv X pins σ H s'→RelV v u→Q u s'):wpAny (model X.prog X.w) A (getAttr (.ref a) f b) Q E s:=by
 obtain ⟨mA,O,r,_,_,_⟩:=XG I.hok e
 obtain ⟨u,hu,ru⟩:=RelO.some_of (v:=v) (o:=mA f) (by rw [← l];exact r f)
 exact zdA I.kIn O (c.get f) c.hd n hu (zbb ru) (h u _ (I.tok _) ru)
theorem Zx {m:Str} {g:Addr} {pl:Sem Bool} {Q:Value × List Value→Shared→Prop} (I:Inv X pins σ H s) (e:H a=some (.ins C dx fs)) (c:Cls X.K C) (k:zbc X.K C m g) (l:fs.lookup m=none)
  (h:Q (.ref g,[.ref a]) s):wpAny (model X.prog X.w) A (getMethod (.ref a) m pl) Q E s:=by
 obtain ⟨mA,O,r,_,_,_⟩:=XG I.hok e
 have hn:mA m=none:=RelO.none_of (by rw [← l];exact r m)
 exact zbP I.kIn O (c.get m) k.at_ k.fn hn h
theorem XR {y:V} {u:Value} {Q:Unit→Shared→Prop} (I:Inv X pins σ H s) (e:H a=some (.ins C dx fs)) (c:Cls X.K C) (n:NoAttr X.K C f) (hl:fs.length < 1000) (ry:RelV y u)
  (h:∀ s',Inv X pins σ (upd H a (.ins C dx (z7 f y fs))) s'→Q () s'):wpAny (model X.prog X.w) A (setAttr (.ref a) f u) Q E s:=by
 obtain ⟨mA,O,r,wi,_,ho⟩:=XG I.hok e
 have hz:(fs.map (·.1)).length≤sizeLine:=by rw [bB,eL];lia
 refine zdB I.kIn O c.sa c.po n.taker c.hd wi hz fun h' O' sb=>h _ ?_
 have hd:∃ o,h'.get? dx=some o:=let ⟨o,_,_,e',_⟩:=O'.ns;⟨o,e'⟩
 refine I.write (x:=a) (e:=dx) (by rw [e];exact eP) (.inr ho) (fun b q hb z=>(sb.2 b hb).trans z) hd ?_
 refine ⟨by rw [zj O.ne];exact ho,?_,O.ne,O'.obj,_,O'.ns,fun g=>?_,fun g hg=>?_⟩
 ·have:=Y2 f y fs;lia
 ·show RelO ((z7 f y fs).lookup g) (if g=f then some u else mA g)
  rw [Y1]
  by_cases q:g=f
  ·rw [if_pos q,if_pos q];exact ry
  ·rw [if_neg q,if_neg q];exact r g
 ·by_cases q:g=f
  ·rw [q];exact (Yw f y fs).1
  ·refine (Yw f y fs).2 g (wi g fun z=>hg ?_)
   show (if g=f then some u else mA g)=none
   rw [if_neg q];exact z
theorem Inv.made (I:Inv X pins σ H s):Inv X pins σ (upd (upd H s.heap.objs.size (.own (s.heap.objs.size + 1))) (s.heap.objs.size + 1) (.ins C s.heap.objs.size []))
  { s with heap:=(s.heap.push fB).push (iL C s.heap.objs.size) }:=by
 have e1:(s.heap.push fB).get? s.heap.objs.size=some fB:=bC s.heap rfl
 have e2:((s.heap.push fB).push (iL C s.heap.objs.size)).get? (s.heap.objs.size + 1)=some (iL C s.heap.objs.size):=by
  have:=bC (s.heap.push fB) (o:=iL C s.heap.objs.size) rfl
  rwa [gU] at this
 have e3:(s.heap.push fB).Ns s.heap.objs.size (fun _=>none):=⟨fB,#[],_,e1,rfl,(fun e he=>absurd he (by simp)),fun _=>rfl⟩
 have I1:=I.laid (a:=s.heap.objs.size) (o:=.own (s.heap.objs.size + 1)) (h':=s.heap.push fB) (t':=s.toks) (fun b u q=>bn _ q) (bu _) ⟨_,e1⟩
 refine I1.laid (a:=s.heap.objs.size + 1) (o:=.ins C s.heap.objs.size []) (t':=s.toks) (fun b u q=>bn _ q) (mK (gU _ _)) ?_
 have ne:s.heap.objs.size≠s.heap.objs.size + 1:=cz (ml _)
 refine ⟨by rw [zj ne,zf],b9 _,ne,e2,fun _=>none,(Heap.Ns1.of_empty e3).at fun o q=>bn _ q,fun _=>eP,fun y hy=>absurd rfl hy⟩
theorem zdC {prog:Program} {w:World} {env:Env} {e:Expr} {f:Str} {pos:Pos} {s:Shared} {Q:Value→Shared→Prop} (hb:attributeBase e f env (eval e env)=eval e env)
  (h:wpAny (model prog w) A (eval e env) (fun o s₁=>wpAny (model prog w) A (getAttr o f true) Q E s₁) E s):wpAny (model prog w) A (eval (.Attribute e f pos) env) Q E s :=
 Attribute_any_ h (by rw [arm_eval_Attribute,hb])
end
def yG (K:br) (ta:TE) (f:Str):TE:=fun σ H Q=>ta σ H fun x H1=>∃ a C dx fs v,x=.ref a∧H1 a=some (.ins C dx fs)∧Cls K C∧NoAttr K C f∧fs.lookup f=some v∧Q v H1
def kU (K:br) (ta tv:TE) (f:Str):TS:=fun D σ H=>tv σ H fun y H1=>ta σ H1 fun x H2=>∃ a C dx fs,x=.ref a∧H2 a=some (.ins C dx fs)∧Cls K C∧NoAttr K C f∧fs.length < 1000 ∧
 D.nx σ (upd H2 a (.ins C dx (z7 f y fs)))
section
variable {X:Cx} {o e value:Expr} {f:Str} {pos pos' tpos:Pos} {ta tv:TE}
theorem z0 (he:PE X e ta) (hb:attributeBase e f X.env (eval e X.env)=eval e X.env):PE X (.Attribute e f pos) (yG X.K ta f):=by
 intro pins s σ H Q I h
 refine zdC hb (thn (he pins s σ H _ I h) fun u s1 ⟨x,H1,I1,rx,a,C,dx,fs,v,ex,ea,c,n,l,q⟩=>?_)
 subst ex
 obtain rfl:u=bL a:=rx
 exact Qs I1 ea c n l fun u' s2 I2 ru=>⟨v,H1,I2,ru,q⟩
theorem wf (ha:PE X o ta) (hv:PE X value tv) (hs:swapsWith value (some (.Attribute o f pos')) pos.line X.env=pure false):PS X (.Assign [.Attribute o f pos'] value pos) (kU X.K ta tv f):=by
 intro pins s σ H D I h
 refine gO (thn (hv pins s σ H _ I h) fun u s1 ⟨y,H1,I1,ry,q⟩=>thn (ha pins s1 σ H1 _ I1 q) fun ov s2 ⟨x,H2,I2,rx,a,C,dx,fs,ex,ea,c,n,l,q2⟩=>?_) hs
 subst ex
 obtain rfl:ov=bL a:=rx
 exact XR I2 ea c n l ry fun s3 I3=>⟨σ,_,I3,q2⟩
end
section
variable {X:Cx} {pins:List (Addr × Obj)} {σ:St} {H:Hp} {s:Shared} {A:Around} {E:Value→Shared→Prop} {Q:Value→Shared→Prop} {c:Value} {b:Bool}
inductive Yx (K:br) (H:Hp):V→Value→Prop where
 | non:Yx K H .non (.type "NoneType")
 | bl (x:Bool):Yx K H (.bl x) (.type "bool")
 | int (i:Int):Yx K H (.int i) (.type "int")
 | str (x:Str):Yx K H (.str x) (.type "str")
 | flt (x:UInt64):Yx K H (.flt x) (.type "float")
 | lst {a:Addr} {xs:List V} (e:H a=some (.lst xs)):Yx K H (.ref a) (.type "list")
 | frz {a:Addr} {o:Obj} {xs:List V} (e:H a=some (.frz o (.lst xs))):Yx K H (.ref a) (.type "list")
 | tup {a:Addr} {xs:List V} (e:H a=some (.tup xs)):Yx K H (.ref a) (.type "tuple")
 | dK {a:Addr} {kvs:List (Key × V)} (e:H a=some (.dK kvs)):Yx K H (.ref a) (.type "dict")
 | dT {a:Addr} {kvs:List (List Key × V)} (e:H a=some (.dT kvs)):Yx K H (.ref a) (.type "dict")
 | ins {a C dx:Addr} {fs:List (Str × V)} (e:H a=some (.ins C dx fs)) (cl:Cls K C) (ha:cX K (.ref C) "__class__"=some (some (.builtin "object.__class__")))
   (hn:ox K (.builtin "object.__class__") "__get__"=some (some (.builtin "getset_descriptor.__get__"))) (htk:W.takesIn K (.builtin "object.__class__")=some true)
   (hm:oK K C (.type "object")=some true):Yx K H (.ref a) (.ref C)
theorem zbd {x:V} {u t:Value} (I:Inv X pins σ H s) (rx:RelV x u) (ty:Yx X.K H x t) (e:iD X.K t c=some b) (h:∀ tk,Q (.bool b) { s with toks:=tk }) :
  wpAny (model X.prog X.w) A (call (.builtin "isinstance") [u,c]) Q E s:=by
 cases ty with
 | non=>cases (show u=cD from rx);exact fY W.kitx_none I.kIn eP e (fun z=>nomatch z) h
 | bl y=>cases (show u=gL y from rx);exact fY W.kitx_bool I.kIn eP e (fun z=>nomatch z) h
 | int i=>obtain ⟨t,q⟩:=(show ∃ t,u=ic i t from rx);cases q;exact fY W.kitx_int I.kIn eP e (fun z=>nomatch z) h
 | str y=>obtain ⟨t,q⟩:=(show ∃ t,u=iK y t from rx);cases q;exact fY W.kitx_str I.kIn eP e (fun z=>nomatch z) h
 | flt y=>obtain ⟨t,q⟩:=(show ∃ t,u=oq y t from rx);cases q;exact fY W.kitx_float I.kIn eP e (fun z=>nomatch z) h
 | @lst a xs ea =>
  cases (show u=bL a from rx)
  obtain ⟨_,_,n,_,h1⟩:=(show ObjOk X.prog X.w H s.heap a (.lst xs) from I.hok a _ ea)
  exact fY W.kitx_list I.kIn ⟨_,h1,rfl⟩ e (fun z=>nomatch z) h
 | @frz a ob xs ea =>
  cases (show u=bL a from rx)
  obtain ⟨_,_,_,n,_,h1⟩:=(show ObjOk X.prog X.w H s.heap a (.frz ob (.lst xs)) from I.hok a _ ea)
  exact fY W.kitx_list I.kIn ⟨_,h1,rfl⟩ e (fun z=>nomatch z) h
 | @tup a xs ea =>
  cases (show u=bL a from rx)
  obtain ⟨_,_,_,p⟩:=(show ObjOk X.prog X.w H s.heap a (.tup xs) from I.hok a _ ea)
  obtain ⟨o,h1,h2,_⟩:=p
  exact fY W.kitx_tuple I.kIn ⟨o,h1,h2⟩ e (fun z=>nomatch z) h
 | @dK a kvs ea =>
  cases (show u=bL a from rx)
  obtain ⟨_,_,vs,_,p⟩:=(show ObjOk X.prog X.w H s.heap a (.dK kvs) from I.hok a _ ea)
  obtain ⟨o,es,ep,h1,h2,_⟩:=p
  exact fY W.kitx_dict I.kIn ⟨o,h1,h2.1⟩ e (fun z=>nomatch z) h
 | @dT a kvs ea =>
  cases (show u=bL a from rx)
  obtain ⟨_,_,xs,_,o,es,ep,h1,h2,_⟩:=(show ObjOk X.prog X.w H s.heap a (.dT kvs) from I.hok a _ ea)
  exact fY W.kitx_dict I.kIn ⟨o,h1,h2.1⟩ e (fun z=>nomatch z) h
 | @ins a C dx fs ea cl ha hn htk hm =>
  cases (show u=bL a from rx)
  obtain ⟨mA,O,_⟩:=XG I.hok ea
  obtain ⟨od,J,_⟩:=O.look
  exact fY (W.kitx_own (cl.get _) cl.hd ha hn htk hm) I.kIn J e (fun z=>nomatch z) h
end
structure Room (k:Nat) (A:Around):Prop where
 hd:A.handled=none
 dp:A.depth + 3 * k + 5 < recursionLimit
 un:A.units + 16 * k + 200 < cLine
theorem Room.mono {j k:Nat} {A:Around} (r:Room k A) (h:j≤k):Room j A:=⟨r.hd,by have:=r.dp;lia,by have:=r.un;lia⟩
theorem Room.deeper {k:Nat} {A:Around} (r:Room (k + 1) A) (env:Env):Room k (A.deeper env) :=
 ⟨r.hd,by have:=r.dp;show A.depth + 1 + 3 * k + 5 < _;lia,by have:=r.un;show A.units + 3 + 16 * k + 200 < _;lia⟩
theorem Qt {A:Around} {C:Addr} {us:List Value} {kw:List (Str × Value)}:(A.under (.builtin "type.__call__" ⟨.ref C :: us,kw⟩)).depth=A.depth + 1:=by
 first | rfl | simp [nV,Code.weight,Code.isCreation,Code.isGuard,Code.isCaller,Code.frames,nW,guardIds]
theorem Qu {A:Around} {C:Addr} {us:List Value} {kw:List (Str × Value)}:(A.under (.builtin "type.__call__" ⟨.ref C :: us,kw⟩)).units=A.units + 1:=by
 first | rfl | simp [nV,Code.cUnits,Code.frames,nW]
theorem Room.make {k:Nat} {A:Around} (r:Room (k + 1) A) (C:Addr) (us:List Value) (kw:List (Str × Value)):Room k (A.under (.builtin "type.__call__" ⟨.ref C :: us,kw⟩)) :=
 ⟨r.hd,by have:=r.dp;rw [Qt];lia,by have:=r.un;rw [Qu];lia⟩
theorem Room.depth {k:Nat} {A:Around} (r:Room k A):A.depth < recursionLimit:=by have:=r.dp;lia
theorem Room.units {k:Nat} {A:Around} (r:Room k A):A.units + 64 < cLine:=by have:=r.un;lia
def zi:TA:=fun _ H Q=>Q [] H
def zb (ta:TE) (tr:TA):TA:=fun σ H Q=>ta σ H fun x H1=>tr σ H1 fun xs H2=>Q (x :: xs) H2
section
variable {X:Cx} {e:Expr} {es:List Expr} {te:TE} {t:TA} {pos:Pos}
theorem ze:PA X [] zi:=fun _ _ _ _ H Q I h=>lJ ⟨[],H,I,.nil,h⟩
theorem za (ha:PE X e te) (hr:PA X es t) (hs:starEach (e :: es) X.env=(false,eval e X.env) :: starEach es X.env:=by rfl):PA X (e :: es) (zb te t):=by
 intro pos pins s σ H Q I h
 rw [hs]
 show wpAny _ _ (spliced ((false,eval e X.env) :: backTo pos (starEach es X.env))) _ _ s
 refine ft (thn (ha pins s σ H _ I h) fun u s1 ⟨x,H1,I1,r1,q1⟩=>?_)
 exact thn (hr pos pins s1 σ H1 _ I1 q1) fun us s2 ⟨xs,H2,I2,r2,q2⟩=>⟨x :: xs,H2,I2,.cons r1 r2,q2⟩
def yx (t:TA):TE:=fun σ H Q=>t σ H fun xs H1=>xs.length≤sizeLine∧∀ p,H1 p=none→Q (.ref p) (upd H1 p (.tup xs))
def xo (t:TA):TE:=fun σ H Q=>t σ H fun xs H1=>xs.length≤sizeLine∧∀ p,H1 p=none→Q (.ref p) (upd H1 p (.lst xs))
theorem zW {x1} (h:PA X es t):PE X (.Tuple es x1 pos) (yx t):=by
 intro pins s σ H Q I hq
 refine wpAny_Tuple_spliced (thn (h pos pins s σ H _ I hq) fun us s1 ⟨xs,H1,I1,r,z,q⟩=>⟨by rw [← r.length];exact z,?_⟩)
 have hf:H1 s1.heap.objs.size=none:=I1.hok.fresh (bu _)
 refine ⟨.ref s1.heap.objs.size,upd H1 s1.heap.objs.size (.tup xs),I1.laid (t':=s1.toks) (fun b u e=>bn _ e) (bu _) ?_,rfl,q _ hf⟩
 exact ⟨z,us,r,⟨_,bC _ rfl,rfl,_,rfl⟩⟩
theorem yA (h:PA X es t):PE X (.List es pos) (xo t):=by
 intro pins s σ H Q I hq
 refine wpAny_List_spliced (thn (h pos pins s σ H _ I hq) fun us s1 ⟨xs,H1,I1,r,z,q⟩=>⟨by rw [← r.length];exact z,?_⟩)
 have hf:H1 s1.heap.objs.size=none:=I1.hok.fresh (bu _)
 refine ⟨.ref s1.heap.objs.size,upd H1 s1.heap.objs.size (.lst xs),I1.laid (t':=s1.toks) (fun b u e=>bn _ e) (bu _) ?_,rfl,q _ hf⟩
 exact ⟨z,us,0,r,bC _ rfl⟩
end
abbrev Sp:=List V→Hp→VK→XK→Prop
abbrev CXT:=List Env→Hp→Shared→XK→Value→Shared→Prop
structure Env0 (P:Program) (w:World) (K:br) (mg:Str→Option Value) (base:Heap) (A:Around) (outer:List Env) (s:Shared) (H:Hp):Prop where
 frames:A.frames=some outer
 mod:Mod K mg base
 bs:∀ b o,base.get? b=some o→s.heap.get? b=some o∧H b=none
 bsz:base.objs.size≤s.heap.objs.size
 funs:s.heap.FunFrames base outer
 frf:∀ b∈frs outer,H b=none
 hok:HOk P w H s.heap
 bare:AllBare s.gens
def CE (outer:List Env) (P:Program) (w:World) (H:Hp) (s:Shared) (Q:VK) (u:Value) (s':Shared):Prop :=
 ∃ v H',s'.os=s.os∧AllBare s'.gens∧Un (frs outer) [] H H' s.heap s'.heap∧HOk P w H' s'.heap∧RelV v u∧Q v H'
def CR (CX:CXT) (outer:List Env) (P:Program) (w:World) (H:Hp) (s:Shared) (Q:VK) (E:XK) (r:Result) (s':Shared):Prop :=
 match r with
 | .ok (.ret u)=>CE outer P w H s Q u s'
 | .ok _=>False
 | .error e=>CX outer H s E e s'
structure FnOk (P:Program) (w:World) (K:br) (mg:Str→Option Value) (base:Heap) (CX:CXT) (k:Nat) (f:Addr) (fd:FuncData) (ps:List Str) (sp:Sp):Prop where
 len:∀ vs H Q E,sp vs H Q E→vs.length=ps.length
 run:∀ (A:Around) (outer:List Env) (s:Shared) (H:Hp) (args:Args) (us:List Value) (vs:List V) (Q:VK) (E:XK),Room k A→Env0 P w K mg base A outer s H→BindsTo s fd args (ps.zip us)→Vals vs us→sp vs H Q E →
  codeAny (model P w) A (.call (.ref f) args) (CR CX outer P w H s Q E) s
theorem FnOk.mono {P:Program} {w:World} {K:br} {mg:Str→Option Value} {base:Heap} {CX:CXT} {j k:Nat} {f:Addr} {fd:FuncData} {ps:List Str} {sp:Sp} (F:FnOk P w K mg base CX j f fd ps sp) (h:j≤k) :
  FnOk P w K mg base CX k f fd ps sp:=⟨F.len,fun A outer s H args us vs Q E hr=>F.run A outer s H args us vs Q E (hr.mono h)⟩
theorem Env0.make {P:Program} {w:World} {K:br} {mg:Str→Option Value} {base:Heap} {A:Around} {outer:List Env} {s:Shared} {H:Hp} (e:Env0 P w K mg base A outer s H) (C:Addr) (us:List Value) (kw:List (Str × Value)) :
  Env0 P w K mg base (A.under (.builtin "type.__call__" ⟨.ref C :: us,kw⟩)) outer s H:=⟨by first | exact e.frames | (simpa [nV,Code.envs,nW,pushEnvs] using e.frames),e.mod,e.bs,e.bsz,e.funs,e.frf,e.hok,e.bare⟩
section
variable {X:Cx} {pins:List (Addr × Obj)} {σ:St} {H:Hp} {s s':Shared}
theorem Inv.env0 (I:Inv X pins σ H s):Env0 X.prog X.w X.K X.mg X.base X.A X.stack s H :=
 ⟨I.ok.frames,I.ok.mod,I.bs,cf I.ok.bsz I.sz,I.stack,I.stkFree,I.hok,I.bare⟩
theorem Inv.after {Q:VK} {u:Value} (I:Inv X pins σ H s) (h:CE X.stack X.prog X.w H s Q u s'):EP X pins σ Q u s':=by
 obtain ⟨v,H',os,bare,un,hok,r,q⟩:=h
 obtain ⟨hh,g,d,t,os'⟩:=s'
 obtain rfl:os'=s.os:=os
 exact ⟨v,H',I.call (h':=hh) (g':=g) (d':=d) (t':=t) (ch:=[]) un hok bare (fun b z=>absurd z (by simp)),r,q⟩
end
def zo (sp:Sp) (dvs:List V) (E:XK) (t:TA):TE:=fun σ H Q=>t σ H fun vs H1=>sp (vs ++ dvs) H1 Q E
def yt (C:Addr) (m:Str) (sp:Sp) (dvs:List V) (E:XK) (ta:TE) (t:TA):TE:=fun σ H Q=>ta σ H fun x H1=>∃ a dx fs,x=.ref a∧H1 a=some (.ins C dx fs)∧fs.lookup m=none ∧
 t σ H1 fun vs H2=>sp (x :: (vs ++ dvs)) H2 Q E
def zag (C:Addr) (sp:Sp) (dvs:List V) (E:XK) (t:TA):TE:=fun σ H Q=>t σ H fun vs H1=>∀ x dx,H1 x=none→H1 dx=none→dx≠x →
 sp (.ref x :: (vs ++ dvs)) (upd (upd H1 dx (.own x)) x (.ins C dx [])) (fun v H2=>v=.non∧Q (.ref x) H2) E
def Binds (K:br) (fd:FuncData) (ps:List Str) (ds:List Value):Prop :=
 ∀ (s:Shared) (us:List Value),K.In s.heap→(us ++ ds).length=ps.length→BindsTo s fd ⟨us,[]⟩ (ps.zip (us ++ ds))
theorem Binds.all {K:br} {fd:FuncData} {ps:List Str} (h:∀ us:List Value,us.length=ps.length→bindArgs fd ⟨us,[]⟩=pure (ps.zip us)):Binds K fd ps []:=fun s us _ hl=>by
 rw [bt] at hl ⊢
 exact .of_eq (h us hl)
def jM (CX:CXT) (X:Cx) (E:XK):Prop:=∀ (pins:List (Addr × Obj)) (σ:St) (H:Hp) (s:Shared) (e:Value) (s':Shared),Inv X pins σ H s→CX X.stack H s E e s'→X.xe e s'
section
variable {X:Cx} {CX:CXT} {k:Nat} {f C:Addr} {fd:FuncData} {ps:List Str} {sp:Sp} {dvs:List V} {ds:List Value} {E:XK} {x m:Str} {p pos apos:Pos} {e o:Expr} {es:List Expr} {ta:TE} {t:TA}
theorem Qv {pins:List (Addr × Obj)} {σ:St} {H:Hp} {s:Shared} {Q:VK} {us:List Value} {vs:List V} (F:FnOk X.prog X.w X.K X.mg X.base CX k f fd ps sp) (hr:Room k X.A) (hb:Binds X.K fd ps ds) (hd:Vals dvs ds) (hx:jM CX X E)
  (I:Inv X pins σ H s) (r:Vals vs us) (h:sp (vs ++ dvs) H Q E):wpAny (model X.prog X.w) X.A (call (.ref f) us) (EP X pins σ Q) X.xe s:=by
 have r2:Vals (vs ++ dvs) (us ++ ds):=r.append hd
 have hl:(us ++ ds).length=ps.length:=by rw [← r2.length];exact F.len _ _ _ _ h
 refine nQ (eI (F.run X.A X.stack s H ⟨us,[]⟩ (us ++ ds) (vs ++ dvs) Q E hr I.env0 (hb s us I.kIn hl) r2 h) fun r s' hq=>?_)
 cases r with
 | error e=>exact hx pins σ H s e s' I hq
 | ok fl =>
  cases fl with
  | ret u=>exact I.after hq
  | next=>exact cI hq
  | brk=>exact cI hq
  | cont=>exact cI hq
theorem XH (F:FnOk X.prog X.w X.K X.mg X.base CX k f fd ps sp) (hr:Room k X.A) (hg:Gl X x) (hm:X.mg x=some (.ref f)) (hk:eW X.K (.ref f)=true) (hb:Binds X.K fd ps ds) (hd:Vals dvs ds) (hx:jM CX X E)
  (ha:PA X (e :: es) t) (hdb:(x == ("__debug__":Str))=false:=by decide) (he:starEach (e :: es) X.env=(false,eval e X.env) :: starEach es X.env:=by rfl) (hpl:(backTo pos (starEach es X.env)).any (·.1)=false:=by rfl) :
  PE X (.Call (.Name x p) (e :: es) [] pos) (zo sp dvs E t):=by
 intro pins s σ H Q I h
 refine fu (wZ I hg hm ?_ hdb)
 refine lg (h₀:=X.base) I.ok.mod.kin hk (thn (ha pos pins s σ H _ I h) fun us s1 ⟨vs,H1,I1,r,q⟩=>⟨I1.kIn,?_⟩) he hpl
 exact Qv F hr hb hd hx I1 r q
theorem yu {pl:Sem Bool} (he:PE X o ta) (c:Cls X.K C) (hm:zbc X.K C m f) (F:FnOk X.prog X.w X.K X.mg X.base CX k f fd ps sp) (hr:Room k X.A) (hb:Binds X.K fd ps ds) (hd:Vals dvs ds) (hx:jM CX X E) (ha:PA X (e :: es) t)
  (hst:starEach (e :: es) X.env=(false,eval e X.env) :: starEach es X.env:=by rfl) (hpl:(backTo pos (starEach es X.env)).any (·.1)=false:=by rfl)
  (ht:eval (.Call (.Attribute o m apos) (e :: es) [] pos) X.env=(do
   let ov ← eval o X.env
   standAt apos.atName
   let (f,first) ← holding [ov] (getMethod ov m pl)
   callWith pos f first (backTo pos (starEach (e :: es) X.env)) (backToKw pos (keywordEach [] X.env))):=by rfl) :
  PE X (.Call (.Attribute o m apos) (e :: es) [] pos) (yt C m sp dvs E ta t):=by
 intro pins s σ H Q I h
 refine mL (pl:=pl) (thn (he pins s σ H _ I h) fun u s1 ⟨x,H1,I1,rx,a,dx,fs,ex,ea,l,q⟩=>?_) ht
 subst ex
 obtain rfl:u=bL a:=rx
 refine Zx I1 ea c hm l ?_
 refine lg (first:=[.ref a]) (h₀:=X.base) I.ok.mod.kin hm.kp (thn (ha pos pins s1 σ H1 _ I1 q) fun us s2 ⟨vs,H2,I2,r,q2⟩=>⟨I2.kIn,?_⟩) hst hpl
 exact Qv (us:=.ref a :: us) (vs:=.ref a :: vs) F hr hb hd hx I2 (.cons rfl r) q2
theorem jo {pl:Sem Bool} (he:PE X o ta) (c:Cls X.K C) (hm:zbc X.K C m f) (F:FnOk X.prog X.w X.K X.mg X.base CX k f fd ps sp) (hr:Room k X.A) (hb:Binds X.K fd ps ds) (hd:Vals dvs ds) (hx:jM CX X E)
  (ht:eval (.Call (.Attribute o m apos) [] [] pos) X.env=(do
   let ov ← eval o X.env
   standAt apos.atName
   let (f,first) ← holding [ov] (getMethod ov m pl)
   callWith pos f first (backTo pos (starEach [] X.env)) (backToKw pos (keywordEach [] X.env))):=by rfl) :
  PE X (.Call (.Attribute o m apos) [] [] pos) (yt C m sp dvs E ta zi):=by
 intro pins s σ H Q I h
 refine mL (pl:=pl) (thn (he pins s σ H _ I h) fun u s1 ⟨x,H1,I1,rx,a,dx,fs,ex,ea,l,q⟩=>?_) ht
 subst ex
 obtain rfl:u=bL a:=rx
 refine Zx I1 ea c hm l ?_
 exact W.callWith_K0 (first:=[.ref a]) I1.kIn hm.kp (Qv (us:=[.ref a]) (vs:=[.ref a]) F hr hb hd hx I1 (.cons rfl .nil) q)
structure Mk (K:br) (C f:Addr):Prop where
 makes:ou K C=true
 init:cX K (.ref C) "__init__"=some (some (.ref f))
 fn:oG K (.ref f)=true
 kp:eW K (.ref C)=true
theorem zbR {pins:List (Addr × Obj)} {σ:St} {H:Hp} {s:Shared} {Q:VK} {us:List Value} {vs:List V} (M:Mk X.K C f) (F:FnOk X.prog X.w X.K X.mg X.base CX k f fd ps sp) (hr:Room (k + 1) X.A) (hb:Binds X.K fd ps ds) (hd:Vals dvs ds)
  (hx:jM CX X E) (I:Inv X pins σ H s) (r:Vals vs us)
  (h:∀ x dx,H x=none→H dx=none→dx≠x→sp (.ref x :: (vs ++ dvs)) (upd (upd H dx (.own x)) x (.ins C dx [])) (fun v H2=>v=.non∧Q (.ref x) H2) E) :
  wpAny (model X.prog X.w) X.A (call (.ref C) us) (EP X pins σ Q) X.xe s:=by
 have hq:=h (s.heap.objs.size + 1) s.heap.objs.size (I.hok.fresh (Nat.le_succ _)) (I.hok.fresh (bu _)) (cz (ml _))
 have I2:=Inv.made (C:=C) I
 have r2:Vals (V.ref (s.heap.objs.size + 1) :: (vs ++ dvs)) (bL (s.heap.objs.size + 1) :: (us ++ ds)):=.cons rfl (r.append hd)
 have hl:(bL (s.heap.objs.size + 1) :: us ++ ds).length=ps.length:=by
  have e:=r2.length
  rw [F.len _ _ _ _ hq] at e
  exact e.symm
 refine nQ (zbQ (f:=f) I.kIn M.makes M.init (beq_iff_eq.mp M.fn) (eI (F.run _ X.stack _ _ ⟨bL (s.heap.objs.size + 1) :: us,[]⟩ (bL (s.heap.objs.size + 1) :: (us ++ ds)) _ _ E (hr.make C us [])
  (I2.env0.make C us []) (hb _ (bL (s.heap.objs.size + 1) :: us) I2.kIn hl) r2 hq) fun r s' hq'=>?_))
 cases r with
 | error e=>exact hx pins σ _ _ e s' I2 hq'
 | ok fl =>
  cases fl with
  | ret u =>
   obtain ⟨v,H',I3,rv,ev,q3⟩:=I2.after hq'
   subst ev
   exact ⟨rv,⟨V.ref (s.heap.objs.size + 1),H',I3,rfl,q3⟩⟩
  | next=>exact cI hq'
  | brk=>exact cI hq'
  | cont=>exact cI hq'
theorem zah (M:Mk X.K C f) (F:FnOk X.prog X.w X.K X.mg X.base CX k f fd ps sp) (hr:Room (k + 1) X.A) (hg:Gl X x) (hm:X.mg x=some (.ref C)) (hb:Binds X.K fd ps ds) (hd:Vals dvs ds) (hx:jM CX X E)
  (ha:PA X (e :: es) t) (hdb:(x == ("__debug__":Str))=false:=by decide) (he:starEach (e :: es) X.env=(false,eval e X.env) :: starEach es X.env:=by rfl) (hpl:(backTo pos (starEach es X.env)).any (·.1)=false:=by rfl) :
  PE X (.Call (.Name x p) (e :: es) [] pos) (zag C sp dvs E t):=by
 intro pins s σ H Q I h
 refine fu (wZ I hg hm ?_ hdb)
 refine lg (h₀:=X.base) I.ok.mod.kin M.kp (thn (ha pos pins s σ H _ I h) fun us s1 ⟨vs,H1,I1,r,q⟩=>⟨I1.kIn,?_⟩) he hpl
 exact zbR M F hr hb hd hx I1 r q
end
structure zD (N P:List Str) (sc:Scope):Prop where
 kind:sc.kind=.function
 co:sc.isCoroutine=false
 gen:sc.isGenerator=false
 nd:N.Nodup
 pre:N.take P.length=P
 par:∀ x∈P,sc.names.lookup x=some .local∨sc.names.lookup x=some .cell
 nofree:∀ y∈sc.names,y.2≠.free
theorem Vg {kindOf:Str→Option NameKind} {x:Str}:∀ {binds:List (Str × Value)} {m:Str→Option Value},(∀ v,(x,v) ∉ binds)→bindL kindOf binds m x=m x
 | [],_,_=>rfl
 | (n,v) :: r,m,h=>by
  unfold bindL
  rw [Vg fun w hw=>h w (bx _ hw)]
  split
  ·have:x≠n:=by rintro rfl;exact h v bH
   simp [this]
  ·rfl
theorem Vh {kindOf:Str→Option NameKind} {x:Str}:∀ {binds:List (Str × Value)} {m:Str→Option Value},(∀ v,(x,v) ∉ binds)→bindC kindOf binds m x=m x
 | [],_,_=>rfl
 | (n,v) :: r,m,h=>by
  unfold bindC
  rw [Vh fun w hw=>h w (bx _ hw)]
  split
  ·rfl
  ·have:x≠n:=by rintro rfl;exact h v bH
   simp [this]
theorem Vi {kindOf:Str→Option NameKind} {x:Str} {v:Value}:∀ {P:List Str} {vs:List Value} {i:Nat} {m:Str→Option Value},P.Nodup→P[i]?=some x→vs[i]?=some v→kindOf x=some .local →
  bindL kindOf (P.zip vs) m x=some v
 | [],_,_,_,_,h,_,_=>by simp at h
 | _ :: _,[],_,_,_,_,h,_=>by simp at h
 | p :: P,w :: vs,0,m,nd,h1,h2,hk=>by
  simp at h1 h2;subst h1;subst h2
  show bindL kindOf ((p,w) :: P.zip vs) m p=_
  unfold bindL
  rw [Vg fun v hv=>(cu.mp nd).1 (iQ hv).1,if_pos hk]
  simp
 | p :: P,w :: vs,i + 1,m,nd,h1,h2,hk=>by
  show bindL kindOf ((p,w) :: P.zip vs) m x=_
  unfold bindL
  exact Vi (i:=i) (cu.mp nd).2 (by simpa using h1) (by simpa using h2) hk
theorem Vj {kindOf:Str→Option NameKind} {x:Str} {v:Value}:∀ {P:List Str} {vs:List Value} {i:Nat} {m:Str→Option Value},P.Nodup→P[i]?=some x→vs[i]?=some v→kindOf x≠some .local →
  bindC kindOf (P.zip vs) m x=some v
 | [],_,_,_,_,h,_,_=>by simp at h
 | _ :: _,[],_,_,_,_,h,_=>by simp at h
 | p :: P,w :: vs,0,m,nd,h1,h2,hk=>by
  simp at h1 h2;subst h1;subst h2
  show bindC kindOf ((p,w) :: P.zip vs) m p=_
  unfold bindC
  rw [Vh fun v hv=>(cu.mp nd).1 (iQ hv).1,if_neg hk]
  simp
 | p :: P,w :: vs,i + 1,m,nd,h1,h2,hk=>by
  show bindC kindOf ((p,w) :: P.zip vs) m x=_
  unfold bindC
  exact Vj (i:=i) (cu.mp nd).2 (by simpa using h1) (by simpa using h2) hk
def start (N:List Str) (vs:List V):St:=vs.map some ++ bM (N.length - vs.length) none
def kI (CX:CXT) (P:Program) (w:World) (K:br) (mg:Str→Option Value) (base:Heap) (N:List Str) (qual:Str) (scope:Scope) (f:Addr) (cd:Value) (A:Around) (outer:List Env) (s:Shared) (H:Hp) (E:XK):Cx where
 prog:=P
 w:=w
 K:=K
 mg:=mg
 base:=base
 A:=A.deeper (envOfC qual scope s.heap.objs.size f cd)
 N:=N
 s₀:=s
 H₀:=H
 env:=envOfC qual scope s.heap.objs.size f cd
 outer:=outer
 stack:=envOfC qual scope s.heap.objs.size f cd :: outer
 ex:=[]
 calm:=true
 fn:=fun _=>true
 pn:=[]
 xe:=fun e s'=>wpAny (model P w) (A.deeper (envOfC qual scope s.heap.objs.size f cd)) (leaving (envOfC qual scope s.heap.objs.size f cd) e) (fun _ s''=>CX outer H s E e s'') (fun e' s''=>CX outer H s E e' s'') s'
theorem JY {sc:Scope} {n:Nat} {x:Str} (h:sc.names.lookup x=some .cell):∃ c,(cellsFrom n sc.names []).lookup x=some c:=by
 have q:=mo sc.names n [] (.inl h)
 exact eQ.mp q
theorem Vk {CX:CXT} {P:Program} {w:World} {K:br} {mg:Str→Option Value} {base:Heap} {N ps:List Str} {qual:Str} {scope:Scope} {f:Addr} {cd:Value} {A:Around} {outer:List Env} {s s1:Shared} {H:Hp} {E:XK} {us:List Value} {vs:List V}
  (S:zD N ps scope) (hd:A.handled=none) (e0:Env0 P w K mg base A outer s H) (hl:vs.length=ps.length) (r:Vals vs us)
  (x:InCallC s s.heap.objs.size (bindL (envOfC qual scope s.heap.objs.size f cd).kindOf (ps.zip us) fun _=>none) (cellsFrom (s.heap.objs.size + 1) scope.names []) (bindC (envOfC qual scope s.heap.objs.size f cd).kindOf (ps.zip us) fun _=>none) s1) :
  Inv (kI CX P w K mg base N qual scope f cd A outer s H E) [] (start N vs) H s1:=by
 have hpl:ps.length≤N.length:=by have:=congrArg bP S.pre;rw [cE] at this;lia
 obtain ⟨h1,tk,rfl,hk⟩:=x.done
 have noA:∀ b:Addr,b ∉ (kI CX P w K mg base N qual scope f cd A outer s H E).ex:=fun b z=>absurd (show b∈([]:List Addr) from z) (by simp)
 refine ⟨⟨e0.mod,S.kind,rfl,rfl,bu _,fun y z c h1 h2=>?_,fun y hy=>?_,fun y c _ h=>?_,fun _=>hd,mX e0.frames,.inr ⟨rfl,rfl⟩,fun b z=>absurd z (noA b),e0.bs,e0.bsz,fun b _ _=>noA b,fun b z=>absurd z (noA b),e0.funs,e0.frf⟩,
  rfl,e0.bare,Un.kept hk,⟨_,x.toInCall.ns,fun i y v h1 h2 h3=>?_⟩,fun y c h=>⟨_,x.cell y c h⟩,e0.hok.fresh (bu _),fun y c h=>?_,fun p hp=>absurd (show p∈([]:List (Addr × Obj)) from hp) (by simp),e0.hok.kept hk,?_⟩
 ·exact name_of_addr x.apart (eC h1) (eC h2)
 ·have hy:scope.names.lookup y=some .cell∨scope.names.lookup y=some .free:=hy
  rcases hy with hy | hy
  ·exact JY hy
  ·exact absurd rfl (S.nofree _ (eC hy))
 ·exact nU (x.above y c (eC h))
 ·have hi:i < vs.length:=by
   unfold start at h2
   by_cases hi:i < vs.length
   ·exact hi
   ·rw [cW (by simpa using hi)] at h2
    rw [lV] at h2
    split at h2 <;> cases h2
  have ha:vs[i]?=some v:=by
   unfold start at h2
   rw [dm (by simpa using hi),bQ] at h2
   cases e:vs[i]? with
   | none=>rw [e] at h2;cases h2
   | some a=>rw [e] at h2;cases h2;rfl
  obtain ⟨u,hu,rv⟩:=r.get ha
  have hp:ps[i]?=some y:=by
   rw [← S.pre,dy (by lia)];exact h1
  have ndP:ps.Nodup:=by rw [← S.pre];exact S.nd.sublist (List.take_sublist _ _)
  refine ⟨u,rv,?_⟩
  rcases S.par y (bF hp) with k | k
  ·exact .inl ⟨k,Vi ndP hp hu k⟩
  ·obtain ⟨c,e⟩:=JY (n:=s.heap.objs.size + 1) k
   refine .inr ⟨.inl k,c,e,?_⟩
   have q:=x.cell y c e
   rw [Vj ndP hp hu (by show scope.names.lookup y≠_;rw [k];decide)] at q
   exact q
 ·exact e0.hok.fresh (nU (x.above y c (eC h)))
 ·unfold start
  show _=N.length
  rw [bw,bB,fC]
  lia
theorem zeE {CX:CXT} {P:Program} {w:World} {K:br} {mg:Str→Option Value} {base:Heap} {k:Nat} {f:Addr} {name qual:Str} {params:Arguments} {body:List Stmt} {scope:Scope} {dV kV doc pm cdv ct oc:Value} {an od:Option Addr}
  {osl:Array (Option Value)} {N ps:List Str} {sp:Sp} (lk:K.lookup f=some ⟨oc,od,.func (ie name qual params body scope dV kV doc pm an cdv ct),osl⟩) (hcd:gW K cdv qual=true) (S:zD N ps scope)
  (len:∀ vs H Q E,sp vs H Q E→vs.length=ps.length)
  (hbody:∀ (A:Around) (outer:List Env) (s:Shared) (H:Hp) (vs:List V) (Q:VK) (E:XK),Room k (A.deeper (envOfC qual scope s.heap.objs.size f cdv))→sp vs H Q E →
   ∃ t,PSs (kI CX P w K mg base N qual scope f cdv A outer s H E) body t∧t { nx:=fun _ H'=>Q .non H',rt:=Q } (start N vs) H) :
  FnOk P w K mg base CX (k + 1) f (ie name qual params body scope dV kV doc pm an cdv ct) ps sp:=by
 refine ⟨len,fun A outer s H args us vs Q E hr e0 hb r hsp=>?_⟩
 have hl:=len _ _ _ _ hsp
 have KX:K.In s.heap:=e0.mod.kin.keeps fun b o e=>(e0.bs b o e).1
 have lim:s.heap.NoLimit:=e0.mod.nolimit.keeps fun b o e=>(e0.bs b o e).1
 have hkind:∀ y∈ps.zip us,scope.names.lookup y.1=some .local∨(scope.names.lookup y.1=some .cell∧((cellsFrom (s.heap.objs.size + 1) scope.names []).lookup y.1).isSome=true):=fun ⟨n,v⟩ hy=>by
  rcases S.par n (iQ hy).1 with q | q
  ·exact .inl q
  ·exact .inr ⟨q,mo _ _ _ (.inl q)⟩
 refine mM hr.depth (KX _ _ lk) rfl S.co S.gen rfl (W.codeRec_of KX hcd) (hb _ _ _ _ ?_)
 refine i8 S.kind hkind fun env he s1 x=>?_
 subst he
 refine ⟨lim.keeps x.toInCall.keep,codeAny_func ?_⟩
 obtain ⟨t,ht,hq⟩:=hbody A outer s H vs Q E (hr.deeper _) hsp
 have I:Inv (kI CX P w K mg base N qual scope f cdv A outer s H E) [] (start N vs) H s1:=Vk S hr.hd e0 hl r x
 refine db (ht [] s1 (start N vs) H _ I hq) (fun fl s' hs=>?_) fun e s' hs=>hs
 have fin:∀ {σ':St} {H':Hp} {v:V} {u:Value},Inv (kI CX P w K mg base N qual scope f cdv A outer s H E) [] σ' H' s'→RelV v u→Q v H'→CE outer P w H s Q u s' :=
  fun {σ' H' v u} J rv q=>⟨v,H',J.os,J.bare,J.base,J.hok,rv,q⟩
 cases fl with
 | ret u =>
  obtain ⟨v,σ',H',J,rv,q⟩:=hs
  exact fin J rv q
 | next =>
  obtain ⟨σ',H',J,q⟩:=hs
  exact fin (v:=V.non) (u:=cD) J rfl q
 | brk =>
  obtain ⟨_,_,_,q⟩:=hs
  exact cI q
 | cont =>
  obtain ⟨_,_,_,q⟩:=hs
  exact cI q
section
variable {X:Cx} {x:Str} {p pos:Pos} {e:Expr} {es:List Expr} {t:TA} {id T:String} {r:List V→Hp→VK→Prop}
def tCB (r:List V→Hp→VK→Prop) (t:TA):TE:=fun σ H Q=>t σ H fun vs H1=>r vs H1 Q
theorem zP (hc:kR X (.builtin id) r) (hg:Gl X x) (hm:X.mg x=none) (hv:bootBuiltins x=some (.builtin id)) (ha:PA X (e :: es) t) (hn:x≠"__name__":=by decide) (hdb:(x == ("__debug__":Str))=false:=by decide)
  (he:starEach (e :: es) X.env=(false,eval e X.env) :: starEach es X.env:=by rfl) (hpl:(backTo pos (starEach es X.env)).any (·.1)=false:=by rfl):PE X (.Call (.Name x p) (e :: es) [] pos) (tCB r t):=by
 intro pins s σ H Q I h
 refine fu (XO I hg hm hv ?_ hn hdb)
 exact PyProof.Rows.callWith_builtin1 (thn (ha pos pins s σ H _ I h) fun us s1 ⟨vs,H1,I1,r1,q1⟩=>hc pins s1 σ H1 vs us Q I1 r1 q1) he hpl
theorem yv (hc:kR X (.type T) r) (hg:Gl X x) (hm:X.mg x=none) (hv:bootBuiltins x=some (.type T)) (ha:PA X (e :: es) t) (hn:x≠"__name__":=by decide) (hdb:(x == ("__debug__":Str))=false:=by decide)
  (he:starEach (e :: es) X.env=(false,eval e X.env) :: starEach es X.env:=by rfl) (hpl:(backTo pos (starEach es X.env)).any (·.1)=false:=by rfl):PE X (.Call (.Name x p) (e :: es) [] pos) (tCB r t):=by
 intro pins s σ H Q I h
 refine fu (XO I hg hm hv ?_ hn hdb)
 exact fA (thn (ha pos pins s σ H _ I h) fun us s1 ⟨vs,H1,I1,r1,q1⟩=>hc pins s1 σ H1 vs us Q I1 r1 q1) he hpl
end
end L2
namespace HT
open PySem PyProof.Rows
def zfP:List Int→List Int→Bool
 | [],[]=>false
 | [],_ :: _=>true
 | _ :: _,[]=>false
 | x :: xs,y :: ys=>if x=y then zfP xs ys else decide (x < y)
theorem rcLt_int (A:Around) (s:Shared) (a:Int) (t:Tok) (c:Int) (u:Tok) (prog:Program) (w:World) (E:Value→Shared→Prop) (Q:Value→Shared→Prop) (h:Q (.bool (decide (a < c))) s) :
  wpAny (model prog w) A (richCompare .Lt (.int a t) (.int c u)) Q E s :=
 (m7 h:wpAny (model prog w) A (compareOp .Lt (.int a t) (.int c u)) Q E s)
section
variable {prog:Program} {w:World} {A:Around} {E:Value→Shared→Prop} {s:Shared}
def sIx (n d:Nat):Option Int→Nat
 | none=>d
 | some v=>if v < 0 then (v + (n:Int)).toNat else min v.toNat n
theorem sIx_none (n d:Nat):sIx n d none=d:=rfl
theorem sIx_nat (n d k:Nat):sIx n d (some (k:Int))=min k n:=by
 show (if (k:Int) < 0 then ((k:Int) + (n:Int)).toNat else min (k:Int).toNat n)=min k n
 rw [if_neg (by lia),dJ]
theorem sIx_le (n d:Nat) (hd:d≤n) (o:Option Int):sIx n d o≤n:=by
 cases o with
 | none=>exact hd
 | some v =>
  show (if v < 0 then (v + (n:Int)).toNat else min v.toNat n)≤n
  by_cases hv:v < 0
  ·rw [if_pos hv];lia
  ·rw [if_neg hv];exact Nat.min_le_right _ _
end
end HT
namespace L2
open PySem PySem.Spec PyProof.Rows
abbrev TO:=St→Hp→(Option Int→Hp→Prop)→Prop
def PO (X:Cx) (e:Option Expr) (t:TO):Prop :=
 ∀ (pins:List (Addr × Obj)) (s:Shared) (σ:St) (H:Hp) (Q:Option Int→Hp→Prop),Inv X pins σ H s→t σ H Q →
  wpAny (model X.prog X.w) X.A (evalPart e X.env) (fun u s'=>∃ o H',Inv X pins σ H' s'∧IsPart u o∧Q o H') X.xe s
def w5:TO:=fun _ H Q=>Q none H
def kt (t:TE):TO:=fun σ H Q=>t σ H fun x H1=>∃ i,x=.int i∧Q (some i) H1
section
variable {X:Cx} {e:Expr} {te:TE} {lo hi:Option Expr} {tl th:TO} {pos p2:Pos}
theorem Z4:PO X none w5:=by
 intro pins s σ H Q I h
 rw [evalPart_none]
 exact bj ⟨none,H,I,.none,h⟩
theorem jN (h:PE X e te):PO X (some e) (kt te):=by
 intro pins s σ H Q I hw
 rw [evalPart_some]
 refine thn (h pins s σ H _ I hw) fun u s1 ⟨x,H1,I1,r1,q1⟩=>?_
 obtain ⟨i,rfl,q⟩:=q1
 obtain ⟨t,rfl⟩:=r1
 exact ⟨some i,H1,I1,.int i t,q⟩
def SlR (X:Cx) (r:V→Option Int→Option Int→Hp→VK→Prop):Prop :=
 ∀ (pins:List (Addr × Obj)) (s:Shared) (σ:St) (H:Hp) (x:V) (v vl vu:Value) (lo hi:Option Int) (sl:Addr) (Q:VK),Inv X pins σ H s→RelV x v→s.heap.IsSliceOf sl vl vu .none→IsPart vl lo→IsPart vu hi→r x lo hi H Q →
  ∃ T id,typeLookup (.type T) "__getitem__"=pure (some (.builtin id))∧s.TypeIs v T∧wpAny (model X.prog X.w) X.A (getItem v (.ref sl)) (EP X pins σ Q) X.xe s
def tSl (r:V→Option Int→Option Int→Hp→VK→Prop) (te:TE) (tl th:TO):TE:=fun σ H Q=>te σ H fun x H1=>tl σ H1 fun l H2=>th σ H2 fun u H3=>r x l u H3 Q
theorem jq {r:V→Option Int→Option Int→Hp→VK→Prop} (hr:SlR X r) (he:PE X e te) (hl:PO X lo tl) (hu:PO X hi th):PE X (.Subscript e (.Slice lo hi none p2) pos) (tSl r te tl th):=by
 intro pins s σ H Q I h
 refine Subscript_ (thn (he pins s σ H _ I h) fun v s1 ⟨x,H1,I1,r1,q1⟩=>?_)
 refine wpAny_Slice (thn (hl pins s1 σ H1 _ I1 q1) fun vl s2 ⟨l,H2,I2,pl,q2⟩=>thn (hu pins s2 σ H2 _ I2 q2) fun vu s3 ⟨u,H3,I3,pu,q3⟩=>?_)
 rw [evalPart_none]
 refine bj ?_
 have I4:Inv X pins σ H3 { s3 with heap:=s3.heap.push { cls:=.type "slice",data:=.fields #[vl,vu,.none] } }:=I3.kept (t':=s3.toks) fun b ob q=>bn _ q
 obtain ⟨T,id,hT,ht,hg⟩:=hr pins { s3 with heap:=s3.heap.push { cls:=.type "slice",data:=.fields #[vl,vu,.none] } } σ H3 x v vl vu l u s3.heap.objs.size Q I4 r1 (Heap.IsSliceOf.new ..) pl pu q3
 show wpAny (model X.prog X.w) X.A (subscriptTail e (.Slice lo hi none p2) v (.ref s3.heap.objs.size)) (EP X pins σ Q) X.xe { s3 with heap:=s3.heap.push { cls:=.type "slice",data:=.fields #[vl,vu,.none] } }
 exact tail_any (ops:=[.ref s3.heap.objs.size,v]) ht hT hg (by with_unfolding_all rfl)
def JZ (xs:List V) (lo hi:Option Int):List V:=(xs.drop (HT.sIx xs.length 0 lo)).take (HT.sIx xs.length xs.length hi - HT.sIx xs.length 0 lo)
theorem J1 (xs:List V) (lo hi:Option Int):(JZ xs lo hi).length≤xs.length:=by
 unfold JZ
 rw [cE,cR]
 lia
end
def ixN (n:Nat) (i:Int):Option Nat:=if 0≤i then (if i < n then some i.toNat else none) else if -(n:Int)≤i then some (i + n).toNat else none
def atI {α:Type} (xs:List α) (i:Int):Option α:=(ixN xs.length i).bind fun j=>xs[j]?
theorem zdD {n:Nat} {i:Int} {j:Nat} (h:ixN n i=some j):seqIndex? i n=some j∧j < n∧-(n:Int)≤i∧i < n:=by
 unfold ixN at h
 by_cases h0:0≤i
 ·rw [if_pos h0] at h
  by_cases h1:i < n
  ·rw [if_pos h1] at h
   have e:i.toNat=j:=ca h
   exact ⟨by rw [seqIndex_of h0 h1,e],by lia,by lia,h1⟩
  ·rw [if_neg h1] at h;cases h
 ·rw [if_neg h0] at h
  by_cases h1:-(n:Int)≤i
  ·rw [if_pos h1] at h
   have e:(i + n).toNat=j:=ca h
   exact ⟨by rw [nX (by lia) h1,e],by lia,h1,by lia⟩
  ·rw [if_neg h1] at h;cases h
theorem VX {α:Type} {xs:List α} {i:Int} {v:α} (h:atI xs i=some v):∃ j,seqIndex? i xs.length=some j∧xs[j]?=some v∧j < xs.length∧-(xs.length:Int)≤i∧i < xs.length:=by
 unfold atI at h
 cases e:ixN xs.length i with
 | none=>rw [e] at h;cases h
 | some j =>
  rw [e] at h
  obtain ⟨h1,h2,h3,h4⟩:=zdD e
  exact ⟨j,h1,h,h2,h3,h4⟩
theorem w6 {α:Type} {xs:List α} {j:Nat} {v:α} (h:xs[j]?=some v):atI xs (j:Int)=some v:=by
 have hj:j < xs.length:=(bp.mp h).1
 have e:ixN xs.length (j:Int)=some j:=by
  unfold ixN
  rw [if_pos (by lia),if_pos (by lia)];simp
 unfold atI;rw [e];exact h
def zdE (b:Expr):Prop:=∀ o i,subscripted b false o i=operate [o,i] (getItem o i)
def IxR (X:Cx) (r:R2):Prop :=
 ∀ (value slice:Expr) (pins:List (Addr × Obj)) (s:Shared) (σ:St) (H:Hp) (x y:V) (v u:Value) (Q:VK),Inv X pins σ H s→RelV x v→RelV y u→r x y H Q →
  subscripted slice false v u=operate [v,u] (getItem v u)→wpAny (model X.prog X.w) X.A (subscriptTail value slice v u) (EP X pins σ Q) X.xe s
def MtR (X:Cx) (id:String) (r:V→List V→Hp→VK→Prop):Prop :=
 ∀ (pins:List (Addr × Obj)) (s:Shared) (σ:St) (H:Hp) (x:V) (xs:List V) (v:Value) (us:List Value) (Q:VK),Inv X pins σ H s→RelV x v→Vals xs us→r x xs H Q →
  wpAny (model X.prog X.w) X.A (call (.builtin id) (v :: us)) (EP X pins σ Q) X.xe s
section
variable {X:Cx} {a b:Expr} {ta tb:TE} {pos:Pos}
theorem zx {r:R2} (hr:IxR X r) (ha:PE X a ta) (hb:PE X b tb) (hs:zdE b):PE X (.Subscript a b pos) (tOp r ta tb):=by
 intro pins s σ H Q I h
 exact Subscript_ (ze3 ha hb I h fun v u s2 x y H2 I2 rx ry q=>hr a b pins s2 σ H2 x y v u Q I2 rx ry q (hs _ _))
def yn (K:br):R2:=fun x y H Q=>∃ p xs i v,x=.ref p∧y=.int i∧SqL K H p xs∧atI xs i=some v∧Q v H
def zU (K:br):R2:=fun x y H Q=>∃ p xs i v,x=.ref p∧y=.int i∧SqT K H p xs∧atI xs i=some v∧Q v H
def zbS:R2:=fun x y H Q=>∃ z i c,x=.str z∧y=.int i∧z.length≤sizeLine∧atI z.cps.toList i=some c∧Q (.str ⟨#[c]⟩) H
theorem zN:IxR X (yn X.K):=by
 intro value slice pins s σ H x y v u Q I rx ry h hs
 obtain ⟨p,xs,i,z,rfl,rfl,hq,he,q⟩:=h
 cases rx
 obtain ⟨t,rfl⟩:=ry
 obtain ⟨its,r,pl,hz⟩:=I.list hq
 obtain ⟨j,h1,h2,h3,h4,h5⟩:=VX he
 obtain ⟨w,ew,rw'⟩:=r.get h2
 have hl:=r.length
 have hn:=VW
 have fin:EP X pins σ Q w s:=⟨z,H,I,rw',q⟩
 by_cases h0:0≤i
 ·have hj:i.toNat=j:=by
   rw [seqIndex_of h0 h5] at h1
   exact ca h1
  exact item_listR pl.isList h0 (by lia) (by rw [hj];simpa using ew) fin hs
 ·have hj:(i + (its.toArray.size:Int)).toNat=j:=by
   rw [nX (by lia) h4] at h1
   rw [bJ,← hl]
   exact ca h1
  exact mD (x:=w) pl.isList.typeIs slot_list_getitem.lookup
   (wpAny_getItem_list_neg (Q:=fun r s'=>r=w∧EP X pins σ Q r s') pl.isList (by lia) (by rw [bJ] <;> lia) (by lia) (by rw [hj];simpa using ew) ⟨rfl,fin⟩) hs
theorem zF:IxR X (zU X.K):=by
 intro value slice pins s σ H x y v u Q I rx ry h hs
 obtain ⟨p,xs,i,z,rfl,rfl,hq,he,q⟩:=h
 cases rx
 obtain ⟨t,rfl⟩:=ry
 obtain ⟨its,r,pl,hz⟩:=I.tuple hq
 obtain ⟨j,h1,h2,h3,h4,h5⟩:=VX he
 obtain ⟨w,ew,rw'⟩:=r.get h2
 have hl:=r.length
 have hn:=VW
 have fin:EP X pins σ Q w s:=⟨z,H,I,rw',q⟩
 exact mD (x:=w) pl.typeIs slot_tuple_getitem.lookup
  (getItem_tuple (j:=j) (Q:=fun r s'=>r=w∧EP X pins σ Q r s') pl (by lia) (by lia) (by rw [bJ,← hl];exact h1) (by simpa using ew) ⟨rfl,fin⟩) hs
theorem zbT:IxR X zbS:=by
 intro value slice pins s σ H x y v u Q I rx ry h hs
 obtain ⟨z,i,c,rfl,rfl,hz,he,q⟩:=h
 obtain ⟨t,rfl⟩:=rx
 obtain ⟨t',rfl⟩:=ry
 obtain ⟨j,h1,h2,h3,h4,h5⟩:=VX he
 have hl:z.cps.toList.length=z.length:=by simp [gP]
 rw [hl] at h1 h4 h5
 have hn:=VW
 exact tail_any (typeIs_str s z t) slot_str_getitem.lookup (getItem_str (c:=c) (by
  have e1:decide (i < -(2 ^ 63:Int))=false:=decide_eq_false (by lia)
  have e2:decide (i ≥ 2 ^ 63)=false:=decide_eq_false (by lia)
  rw [e1,e2,Bool.or_false]) (by rw [h1];simpa using h2) ⟨.str ⟨#[c]⟩,H,I.tok _,⟨_,rfl⟩,q⟩) hs
theorem VY (lo hi:Option Int) (n:Nat):(sliceBounds lo hi none n).1=((HT.sIx n 0 lo:Nat):Int)∧(sliceBounds lo hi none n).2.1=((HT.sIx n n hi:Nat):Int)∧(sliceBounds lo hi none n).2.2=1:=by
 refine ⟨?_,?_,rfl⟩
 ·cases lo with
  | none=>simp [sliceBounds,HT.sIx]
  | some i =>
   simp only [sliceBounds,HT.sIx,og,show (1:Int) > 0 by decide,if_true]
   by_cases h:i < 0
   ·simp only [h,if_true] <;> lia
   ·simp only [h,if_false] <;> lia
 ·cases hi with
  | none=>simp [sliceBounds,HT.sIx]
  | some i =>
   simp only [sliceBounds,HT.sIx,og,show (1:Int) > 0 by decide,if_true]
   by_cases h:i < 0
   ·simp only [h,if_true] <;> lia
   ·simp only [h,if_false] <;> lia
theorem WF (its:List Value) (lo hi:Option Int):slicePick its.toArray lo hi none=((its.drop (HT.sIx its.length 0 lo)).take (HT.sIx its.length its.length hi - HT.sIx its.length 0 lo)).toArray:=by
 obtain ⟨h1,h2,h3⟩:=VY lo hi its.toArray.size
 unfold slicePick
 rw [h1,h2,h3]
 simp only [sliceRange_one,pick_run,bJ] <;> rfl
def zbU (K:br):V→Option Int→Option Int→Hp→VK→Prop:=fun x lo hi H Q=>∃ a xs,x=.ref a∧SqL K H a xs∧∀ p,H p=none→Q (.ref p) (upd H p (.lst (JZ xs lo hi)))
theorem zai:SlR X (zbU X.K):=by
 intro pins s σ H x v vl vu lo hi sl Q I rx hs pl pu h
 obtain ⟨a,xs,rfl,hx,q⟩:=h
 cases rx
 obtain ⟨its,r,ht,hz⟩:=I.list hx
 have hlen:=r.length
 refine ⟨"list",_,slot_list_getitem.lookup,ht.isList.typeIs,?_⟩
 refine wpAny_getItem_list_slice ht.isList hs pl pu .none (by simp) ?_ (by rw [bJ] <;> lia)
 rw [WF,← hlen]
 refine ⟨.ref s.heap.objs.size,_,I.laid (t':=s.toks) (o:=.lst (JZ xs lo hi)) (fun b ob q=>bn _ q) (bu _) ?_,rfl,q _ (I.hok.fresh (bu _))⟩
 exact ⟨cf (J1 xs lo hi) hz,_,0,(r.drop (HT.sIx xs.length 0 lo)).take (HT.sIx xs.length xs.length hi - HT.sIx xs.length 0 lo),bC _ rfl⟩
def Z5:V→Bool
 | .non=>true
 | .bl _=>true
 | .int _=>true
 | .str _=>true
 | _=>false
def eqV:V→V→Bool
 | .non,.non=>true
 | .bl a,.bl b=>a == b
 | .bl a,.int b=>(if a then 1 else 0) == b
 | .int a,.bl b=>a == (if b then 1 else 0)
 | .int a,.int b=>a == b
 | .str a,.str b=>a == b
 | _,_=>false
theorem ze4 {A:Around} {s:Shared} {y x:V} {u v:Value} (ry:RelV y u) (rx:RelV x v) (fy:Z5 y=true) (fx:Z5 x=true):SeqAt.EqAt A s u v (eqV y x):=by
 cases y with
 | non =>
  cases ry
  cases x with
  | non=>cases rx;exact SeqAt.EqAt.same _
  | bl b=>cases rx;exact SeqAt.EqAt.none_bool b
  | int b=>obtain ⟨t,rfl⟩:=rx;exact SeqAt.EqAt.none_int b t
  | str b=>obtain ⟨t,rfl⟩:=rx;exact SeqAt.EqAt.none_str b t
  | _=>exact absurd (show false=true from fx) bK
 | bl a =>
  cases ry
  cases x with
  | non=>cases rx;exact SeqAt.EqAt.bool_none a
  | bl b=>cases rx;exact SeqAt.EqAt.bool_bool a b
  | int b=>obtain ⟨t,rfl⟩:=rx;exact SeqAt.EqAt.bool_int a b t
  | str b=>obtain ⟨t,rfl⟩:=rx;exact SeqAt.EqAt.bool_str a b t
  | _=>exact absurd (show false=true from fx) bK
 | int a =>
  obtain ⟨t',rfl⟩:=ry
  cases x with
  | non=>cases rx;exact SeqAt.EqAt.int_none a t'
  | bl b=>cases rx;exact SeqAt.EqAt.int_bool a t' b
  | int b=>obtain ⟨t,rfl⟩:=rx;exact lh a t' b t
  | str b=>obtain ⟨t,rfl⟩:=rx;exact nt a t' b t
  | _=>exact absurd (show false=true from fx) bK
 | str a =>
  obtain ⟨t',rfl⟩:=ry
  cases x with
  | non=>cases rx;exact SeqAt.EqAt.str_none a t'
  | bl b=>cases rx;exact SeqAt.EqAt.str_bool a t' b
  | int b=>obtain ⟨t,rfl⟩:=rx;exact nu a t' b t
  | str b=>obtain ⟨t,rfl⟩:=rx;exact lj a t' b t
  | _=>exact absurd (show false=true from fx) bK
 | _=>exact absurd (show false=true from fy) bK
def eqU (x:V) (u:Value):Bool:=match u with
 | .none=>eqV .non x
 | .bool b=>eqV (.bl b) x
 | .int i _=>eqV (.int i) x
 | .str z _=>eqV (.str z) x
 | _=>false
theorem zbV {x y:V} {u:Value} (r:RelV y u) (f:Z5 y=true):eqU x u=eqV y x:=by
 cases y with
 | non=>cases r;rfl
 | bl b=>cases r;rfl
 | int i=>obtain ⟨t,rfl⟩:=r;rfl
 | str z=>obtain ⟨t,rfl⟩:=r;rfl
 | _=>exact absurd (show false=true from f) bK
theorem VZ {x:V}:∀ {xs:List V} {us:List Value},Vals xs us→xs.all Z5=true→us.any (eqU x)=xs.any fun y=>eqV y x
 | _,_,.nil,_=>rfl
 | y :: xs,u :: us,.cons r t,f=>by
  rw [fP,bX] at f
  rw [iE,iE,zbV r f.1,VZ t f.2]
theorem XS {A:Around} {s:Shared} {x:V} {v:Value} (rx:RelV x v) (fx:Z5 x=true):∀ {xs:List V} {us:List Value},Vals xs us→xs.all Z5=true→∀ u∈us,SeqAt.EqAt A s u v (eqU x u)
 | _,_,.nil,_=>fun u hu=>by cases hu
 | y :: xs,u :: us,.cons r t,f=>fun u' hu=>by
  rw [fP,bX] at f
  rcases bN.mp hu with rfl | hu
  ·rw [zbV r f.1];exact ze4 r rx f.1 fx
  ·exact XS rx fx t f.2 u' hu
def inV (x:V) (xs:List V):Bool:=xs.any fun y=>eqV y x
def rIn (K:br) (neg:Bool):R2:=fun x y H Q=>∃ p xs,y=.ref p∧(SqL K H p xs∨SqT K H p xs)∧Z5 x=true∧xs.all Z5=true∧Q (.bl (if neg then !inV x xs else inV x xs)) H
theorem Vl:OpR X (compareOp .In) (rIn X.K false):=by
 intro pins s σ H x y v u Q I rx ry h
 obtain ⟨p,xs,rfl,hq,fx,fs,q⟩:=h
 cases ry
 rcases hq with hq | hq
 ·obtain ⟨its,r,pl,hz⟩:=I.list hq
  refine SeqAt.in_listAt (eqU x) pl.isList (fun w hw=>XS rx fx r fs w (by simpa using hw)) ⟨.bl _,H,I,rfl,?_⟩
  rw [show its.toArray.any (eqU x)=its.any (eqU x) by simp,VZ r fs]
  exact q
 ·obtain ⟨its,r,pl,hz⟩:=I.tuple hq
  refine SeqAt.in_tupleAt (eqU x) pl (fun w hw=>XS rx fx r fs w (by simpa using hw)) ⟨.bl _,H,I,rfl,?_⟩
  rw [show its.toArray.any (eqU x)=its.any (eqU x) by simp,VZ r fs]
  exact q
theorem xV:kR X (.type "list") (fun xs H Q=>∃ p ys,xs=[.ref p]∧(SqL X.K H p ys∨SqT X.K H p ys)∧∀ l,H l=none→Q (.ref l) (upd H l (.lst ys))):=by
 intro pins s σ H xs us Q I r h
 obtain ⟨p,ys,rfl,hq,q⟩:=h
 obtain ⟨u,rfl,rx⟩:=Y0 r
 cases rx
 have fin:∀ (its:List Value),Vals ys its→ys.length≤sizeLine→∀ (h':Heap) (c':Nat),(∀ b o',s.heap.get? b=some o'→h'.get? b=some o') →
   h'.get? s.heap.objs.size=some { cls:=.type "list",dict:=none,data:=.seq its.toArray c',slots:=#[] }→EP X pins σ Q (.ref s.heap.objs.size) { s with heap:=h' }:=fun its r' hz h' c' kp e =>
  ⟨.ref s.heap.objs.size,_,I.laid (t':=s.toks) kp (bu _) (show ObjOk X.prog X.w _ h' _ (.lst ys) from ⟨hz,its,c',r',e⟩),rfl,q _ (I.hok.fresh (bu _))⟩
 rcases hq with hq | hq
 ·obtain ⟨its,r',pl,hz⟩:=I.list hq
  have hlen:=r'.length
  obtain ⟨o,ho,hc,n,hd⟩:=pl.isList
  exact call_list_seq p (.inl rfl) ho hc hd (fun h' c' kp e=>fin its r' hz h' c' kp e) (by simp only [bJ] <;> lia)
 ·obtain ⟨its,r',pl,hz⟩:=I.tuple hq
  have hlen:=r'.length
  obtain ⟨o,ho,hc,n,hd⟩:=pl
  exact call_list_seq p (.inr rfl) ho hc hd (fun h' c' kp e=>fin its r' hz h' c' kp e) (by simp only [bJ] <;> lia)
theorem Zf:kR X (.type "tuple") (fun xs H Q=>∃ p ys,xs=[.ref p]∧((SqL X.K H p ys∧∀ l,H l=none→Q (.ref l) (upd H l (.tup ys)))∨(SqT X.K H p ys∧Q (.ref p) H))):=by
 intro pins s σ H xs us Q I r h
 obtain ⟨p,ys,rfl,h⟩:=h
 obtain ⟨u,rfl,rx⟩:=Y0 r
 cases rx
 rcases h with ⟨hq,q⟩ | ⟨hq,q⟩
 ·obtain ⟨its,r',pl,hz⟩:=I.list hq
  have hlen:=r'.length
  refine call_tuple_list pl.isList (fun h' kp=>?_) (by simp only [bJ] <;> lia)
  have I1:Inv X pins σ H { s with heap:=h' }:=I.kept (t':=s.toks) kp
  have I2:Inv X pins σ (upd H h'.objs.size (.tup ys)) { s with heap:=h'.push { cls:=.type "tuple",data:=.seq its.toArray } } :=
   I1.laid (t':=s.toks) (fun b o e=>bn _ e) (bu _) (show ObjOk X.prog X.w _ _ _ (.tup ys) from ⟨hz,its,r',IsTup.new _ _⟩)
  exact ⟨.ref h'.objs.size,_,I2,rfl,q _ (I1.hok.fresh (bu _))⟩
 ·obtain ⟨its,r',pl,hz⟩:=I.tuple hq
  exact call_tuple_same pl ⟨.ref p,H,I,rfl,q⟩
def tyV (K:br) (T:String) (x:V) (H:Hp):Prop:=match x with
 | .str _=>T="str"
 | .int _=>T="int"
 | .ref p=>(T="list"∧∃ xs,SqL K H p xs)∨(T="tuple"∧∃ o,K.lookup p=some o∧o.cls=.type "tuple"∧o.dict=none) ∨
   (T="dict"∧((∃ kvs,H p=some (.dK kvs))∨∃ kvs,H p=some (.dT kvs)))∨(T="set"∧∃ S n,H p=some (.set S n))
 | _=>False
theorem zbW {pins:List (Addr × Obj)} {σ:St} {H:Hp} {s:Shared} {T:String} {x:V} {v:Value} (I:Inv X pins σ H s) (r:RelV x v) (ty:tyV X.K T x H) :
  s.TypeIs v T∧∀ a,v=.ref a→∃ ob,s.heap.get? a=some ob∧ob.dict=none:=by
 cases x with
 | str z =>
  obtain ⟨t,rfl⟩:=r
  cases (show T="str" from ty)
  exact ⟨typeIs_str s z t,fun _ e=>nomatch e⟩
 | int i =>
  obtain ⟨t,rfl⟩:=r
  cases (show T="int" from ty)
  exact ⟨typeIs_int s i t,fun _ e=>nomatch e⟩
 | ref p =>
  cases r
  rcases ty with ⟨rfl,xs,hq⟩ | ⟨rfl,o,hk,hc,hd⟩ | ⟨rfl,hk⟩ | ⟨rfl,S,n,hk⟩
  ·obtain ⟨its,_,pl,_⟩:=I.list hq
   refine ⟨pl.isList.typeIs,fun a e=>?_⟩
   cases e
   obtain ⟨o,n,e,c,hd,_⟩:=pl
   exact ⟨o,e,hd⟩
  ·refine ⟨⟨o,I.kIn p o hk,hc⟩,fun a e=>?_⟩
   cases e
   exact ⟨o,I.kIn _ o hk,hd⟩
  ·have z:∃ o,s.heap.get? p=some o∧o.ExactDict:=by
    rcases hk with ⟨kvs,hk⟩ | ⟨kvs,hk⟩
    ·obtain ⟨_,_,_,_,o,_,_,e,ex,_⟩:=I.hok p _ hk
     exact ⟨o,e,ex⟩
    ·obtain ⟨_,_,_,_,o,_,_,e,ex,_⟩:=I.hok p _ hk
     exact ⟨o,e,ex⟩
   obtain ⟨o,e,ex⟩:=z
   refine ⟨⟨o,e,ex.1⟩,fun a e2=>?_⟩
   cases e2
   exact ⟨o,e,ex.2.1⟩
  ·obtain ⟨o,_,_,_,e,ex,_⟩:=I.hok p _ hk
   refine ⟨⟨o,e,ex.1⟩,fun a e2=>?_⟩
   cases e2
   exact ⟨o,e,ex.2.1⟩
 | _=>exact cI ty
def Qw (K:br) (T:String) (r:V→List V→Hp→VK→Prop) (to:TE):TE:=fun σ H Q=>to σ H fun x H1=>tyV K T x H1∧r x [] H1 Q
def tBM (K:br) (T:String) (r:V→List V→Hp→VK→Prop) (to:TE) (t:TA):TE:=fun σ H Q=>to σ H fun x H1=>tyV K T x H1∧t σ H1 fun xs H2=>r x xs H2 Q
variable {o e:Expr} {es:List Expr} {to:TE} {t:TA} {name:Str} {apos cpos:Pos} {T id:String} {r:V→List V→Hp→VK→Prop}
theorem V0 (pa:PlainAttrs T) (slot:Slot T name id) (hty:typeOf (.builtin id)=pure (.type "method_descriptor")) (hm:MtR X id r) (ho:PE X o to)
  (hbase:attributeBase o name X.env (eval o X.env)=eval o X.env:=by rfl) (hline:(apos.endLine == cpos.line)=true:=by rfl):PE X (.Call (.Attribute o name apos) [] [] cpos) (Qw X.K T r to):=by
 intro pins s σ H Q I h
 refine gD hbase hline (thn (ho pins s σ H _ I h) fun v s1 ⟨x,H1,I1,r1,ty,q1⟩=>?_)
 obtain ⟨h1,h2⟩:=zbW I1 r1 ty
 exact ⟨T,id,pa,slot,hty,h1,h2,eE rfl (iR (hm pins s1 σ H1 x [] v [] Q I1 r1 .nil q1))⟩
theorem Zg (pa:PlainAttrs T) (slot:Slot T name id) (hty:typeOf (.builtin id)=pure (.type "method_descriptor")) (hm:MtR X id r) (ho:PE X o to) (ha:PA X (e :: es) t)
  (hbase:attributeBase o name X.env (eval o X.env)=eval o X.env:=by rfl)
  (hfew:((backTo cpos (starEach (e :: es) X.env)).all (fun x=>!x.1) && (backToKw cpos (keywordEach [] X.env)).all (fun x=>x.1.isSome)
   && decide ((e :: es).length + ([]:List Keyword).length + (if ([]:List Keyword).isEmpty then 0 else 1) < 30))=true:=by rfl)
  (hline:(apos.endLine == cpos.line)=true:=by rfl) (hs:starEach (e :: es) X.env=(false,eval e X.env) :: starEach es X.env:=by rfl) (hplain:(backTo cpos (starEach es X.env)).any (·.1)=false:=by rfl) :
  PE X (.Call (.Attribute o name apos) (e :: es) [] cpos) (tBM X.K T r to t):=by
 intro pins s σ H Q I h
 refine wpAny_Call_method_late hbase hfew hline rfl (thn (ho pins s σ H _ I h) fun v s1 ⟨x,H1,I1,r1,ty,q1⟩=>?_)
 obtain ⟨h1,h2⟩:=zbW I1 r1 ty
 refine ⟨T,id,pa,slot,hty,h1,h2,?_⟩
 have hA:=ha cpos pins s1 σ H1 _ I1 q1
 rw [hs] at hA ⊢
 refine eE (by show (false || (backTo cpos (starEach es X.env)).any (·.1))=false;rw [hplain] <;> rfl) (iz ?_)
 exact thn hA fun us s2 ⟨vs,H2,I2,r2,q2⟩=>hm pins s2 σ H2 x vs v us Q I2 r1 r2 q2
end
def MtM (X:Cx) (id:String) (r:V→List V→Hp→VK→Prop):Prop :=
 ∀ (pins:List (Addr × Obj)) (s:Shared) (σ:St) (H:Hp) (x:V) (xs:List V) (v:Value) (us:List Value) (Q:VK),Inv X pins σ H s→RelV x v→Vals xs us→r x xs H Q →
  wpAny (model X.prog X.w) X.A (call (.builtin id) (v :: us)) (EP X pins σ Q) X.xe s
theorem Vals.one:∀ {x:V} {us:List Value},Vals [x] us→∃ u,us=[u]∧RelV x u
 | _,_,.cons r .nil=>⟨_,rfl,r⟩
theorem Vals.zero:∀ {us:List Value},Vals [] us→us=[]
 | _,.nil=>rfl
theorem Vals.dropLast {xs:List V} {us:List Value} (h:Vals xs us):Vals xs.dropLast us.dropLast:=by
 induction h with
 | nil=>exact .nil
 | cons r t ih =>
  cases t with
  | nil=>exact .nil
  | cons q t'=>exact .cons r ih
theorem Qx {α:Type} (l:List α):l.eraseIdx (l.length - 1)=l.dropLast:=by
 induction l with
 | nil=>rfl
 | cons a r ih =>
  cases r with
  | nil=>rfl
  | cons b r =>
   have e:(a :: b :: r).length - 1=((b :: r).length - 1) + 1:=by
    have h1:(a :: b :: r).length=r.length + 2:=rfl
    have h2:(b :: r).length=r.length + 1:=rfl
    lia
   rw [e,List.eraseIdx_cons_succ,ih]
   all_goals rfl
section
variable {X:Cx} {pins:List (Addr × Obj)} {σ:St} {H:Hp} {s:Shared} {l b:Addr} {xs ys zs:List V}
theorem Inv.lset {its its':List Value} {n:Nat} {f:Array Value→Array Value} {t':Nat} (I:Inv X pins σ H s) (hH:H l=some (.lst xs))
  (e:s.heap.get? l=some { cls:=.type "list",data:=.seq its.toArray n }) (hf:f its.toArray=its'.toArray) (hv:Vals ys its') (hz:ys.length≤sizeLine) :
  Inv X pins σ (upd H l (.lst ys)) { s with heap:=s.heap.update l (de f),toks:=t' }:=by
 have q:=PySem.IsL.update e f
 rw [hf] at q
 refine I.write (x:=l) (e:=l) (by rw [hH];exact trivial) (.inl rfl) (fun b' u hb hu=>(dH s.heap (de f) (cA hb)).trans hu) ⟨_,q⟩ ?_
 exact ⟨hz,its',_,hv,q⟩
theorem Inv.lnew {its:List Value} {t':Nat} (I:Inv X pins σ H s) (hv:Vals ys its) (hz:ys.length≤sizeLine) :
  Inv X pins σ (upd H s.heap.objs.size (.lst ys)) { s with heap:=s.heap.push { cls:=.type "list",data:=.seq its.toArray },toks:=t' } :=
 I.laid (fun _ _ q=>bn _ q) (bu _) ⟨hz,its,0,hv,bC _ rfl⟩
theorem Inv.fresh (I:Inv X pins σ H s):H s.heap.objs.size=none:=I.hok.fresh (bu _)
theorem Inv.lstM (I:Inv X pins σ H s) (hH:H l=some (.lst xs)):xs.length≤sizeLine∧∃ (its:List Value) (n:Nat),Vals xs its∧xs.length=its.length∧s.heap.get? l=some { cls:=.type "list",data:=.seq its.toArray n }:=by
 obtain ⟨z,its,n,r,e⟩:=I.hok l _ hH
 exact ⟨z,its,n,r,r.length,e⟩
theorem zbX {n:Nat} (h:n≤sizeLine):gA n=false:=by
 unfold gA
 exact decide_eq_false (by lia)
end
section
variable {X:Cx}
def qT:V→List V→Hp→VK→Prop:=fun x vs H Q=>∃ l xs y,x=.ref l∧vs=[y]∧H l=some (.lst xs)∧xs.length < sizeLine∧Q .non (upd H l (.lst (xs ++ [y])))
theorem y9:MtM X "list.append" qT:=by
 intro pins s σ H x vs v us Q I rx rv h
 obtain ⟨l,xs,y,rfl,rfl,hH,hz,q⟩:=h
 cases rx
 obtain ⟨u,rfl,ru⟩:=rv.one
 obtain ⟨z,its,n,r,hl,e⟩:=I.lstM hH
 refine lK F.slot_list_append ⟨_,e,rfl⟩ F.entry_list_append (F.args_list_append_2 _ _) (PySem.list_append l its.toArray n u (by rw [bJ];lia)) ⟨e,?_⟩
 refine ⟨.non,_,I.lset (its':=its ++ [u]) hH e (by simp) (r.append (.cons ru .nil)) ?_,rfl,q⟩
 rw [bw,dz]
 lia
def zaj:V→List V→Hp→VK→Prop:=fun x vs H Q=>∃ l b xs zs,x=.ref l∧vs=[.ref b]∧H l=some (.lst xs)∧H b=some (.lst zs)∧xs.length + zs.length≤sizeLine∧Q .non (upd H l (.lst (xs ++ zs)))
theorem zbe:MtM X "list.extend" zaj:=by
 intro pins s σ H x vs v us Q I rx rv h
 obtain ⟨l,b,xs,zs,rfl,rfl,hH,hB,hz,q⟩:=h
 cases rx
 obtain ⟨u,rfl,ru⟩:=rv.one
 cases ru
 obtain ⟨z,its,n,r,hl,e⟩:=I.lstM hH
 obtain ⟨z2,its2,n2,r2,hl2,e2⟩:=I.lstM hB
 have hsz:its.toArray.size + its2.toArray.size≤sizeLine:=by rw [bJ,bJ];lia
 have hlong:¬ (!its.toArray.isEmpty && gA (its.toArray.size + its2.toArray.size))=true:=by
  rw [zbX hsz,Bool.and_false]
  exact bK
 refine lK F.slot_list_extend ⟨_,e,rfl⟩ F.entry_list_extend (F.args_list_extend_2 _ _)
  (AutoSeq1.list_extend_list_list_0 l its.toArray n b its2.toArray n2 hlong (by rw [bJ];lia) (by lia)) ⟨e,e2,?_⟩
 refine ⟨.non,_,I.lset (its':=its ++ its2) hH e (by simp) (r.append r2) ?_,rfl,q⟩
 rw [bw]
 lia
def zdF:V→List V→Hp→VK→Prop:=fun x vs H Q=>∃ l xs y,x=.ref l∧vs=[]∧H l=some (.lst xs)∧xs[xs.length - 1]?=some y∧Q y (upd H l (.lst xs.dropLast))
theorem V1:MtM X "list.pop" zdF:=by
 intro pins s σ H x vs v us Q I rx rv h
 obtain ⟨l,xs,y,rfl,rfl,hH,hy,q⟩:=h
 cases rx
 have hus:=rv.zero
 subst hus
 obtain ⟨z,its,n,r,hl,e⟩:=I.lstM hH
 obtain ⟨u,hu,ru⟩:=r.get hy
 have hy':its.toArray[its.toArray.size - 1]?=some u:=by
  show its.toArray[its.length - 1]?=some u
  rw [← dA,← hl]
  exact hu
 refine lK F.slot_list_pop ⟨_,e,rfl⟩ F.entry_list_pop (F.args_list_pop_1 _) (MeetsSeq.list_pop_last l its.toArray n u hy' (by rw [bJ];lia)) ⟨e,?_⟩
 refine ⟨y,_,I.lset (its':=its.dropLast) hH e ?_ r.dropLast ?_,ru,q⟩
 ·show its.toArray.eraseIdxIfInBounds (its.toArray.size - 1)=its.dropLast.toArray
  rw [bJ,gQ,Qx]
 ·rw [List.length_dropLast]
  lia
def zbY:R2:=fun x y H Q=>∃ l b xs zs,x=.ref l∧y=.ref b∧H l=some (.lst xs)∧H b=some (.lst zs)∧xs.length + zs.length≤sizeLine∧∀ p,H p=none→Q (.ref p) (upd H p (.lst (xs ++ zs)))
theorem V2:OpR X (binaryOp .Add) zbY:=by
 intro pins s σ H x y v u Q I rx ry h
 obtain ⟨l,b,xs,zs,rfl,rfl,hH,hB,hz,q⟩:=h
 cases rx
 cases ry
 obtain ⟨z,its,n,r,hl,e⟩:=I.lstM hH
 obtain ⟨z2,its2,n2,r2,hl2,e2⟩:=I.lstM hB
 refine PySem.P.add_list e e2 ?_ (by rw [bJ,bJ];lia)
 have ea:its.toArray ++ its2.toArray=(its ++ its2).toArray:=by simp
 rw [ea]
 exact ⟨.ref _,_,I.lnew (t':=s.toks) (r.append r2) (by rw [bw];lia),rfl,q _ I.fresh⟩
end
section
variable {prog:Program} {w:World} {A:Around} {E:Value→Shared→Prop} {s:Shared}
set_option maxRecDepth 100000 in
end
section
variable {κ:Type} [DecidableEq κ]
def yP (kvs:List (κ × V)) (k:κ):Option V:=(kvs.find? fun kv=>decide (kv.1=k)).map (·.2)
def yB (kvs:List (κ × V)) (k:κ) (v:V):List (κ × V) :=
 if (kvs.any fun kv=>decide (kv.1=k))=true then kvs.map (fun kv=>if kv.1=k then (kv.1,v) else kv) else kvs ++ [(k,v)]
def zak (kvs:List (κ × V)) (k:κ):List (κ × V):=kvs.filter fun kv=>decide (kv.1≠k)
theorem XT {k:κ}:yP ([]:List (κ × V)) k=none:=rfl
theorem yZ {p:κ × V} {r:List (κ × V)} {k:κ} (e:p.1=k):yP (p :: r) k=some p.2:=by simp [yP,fD,e]
theorem y0 {p:κ × V} {r:List (κ × V)} {k:κ} (e:¬ p.1=k):yP (p :: r) k=yP r k:=by simp [yP,fD,e]
theorem wz (k:κ):∀ kvs:List (κ × V),(kvs.any fun kv=>decide (kv.1=k))=(yP kvs k).isSome
 | []=>rfl
 | p :: r=>by
  rw [iE]
  by_cases e:p.1=k
  ·simp only [yZ e,decide_eq_true e,Bool.true_or,Option.isSome_some]
  ·rw [y0 e,decide_eq_false e,Bool.false_or];exact wz k r
theorem J2 (k j:κ) (y:V):∀ kvs:List (κ × V),yP (kvs.map fun kv=>if kv.1=k then (kv.1,y) else kv) j=(yP kvs j).map fun x=>if j=k then y else x
 | []=>rfl
 | p :: r=>by
  have ih:=J2 k j y r
  rw [bW]
  by_cases h:p.1=k
  ·rw [if_pos h]
   by_cases e:p.1=j
   ·rw [yZ (p:=(p.1,y)) e,yZ e,gE,if_pos (e.symm.trans h)]
   ·rw [y0 (p:=(p.1,y)) e,y0 e,ih]
  ·rw [if_neg h]
   by_cases e:p.1=j
   ·rw [yZ (p:=p) e,yZ e,gE,if_neg (fun z=>h (e.trans z))]
   ·rw [y0 (p:=p) e,y0 e,ih]
theorem Vm (k j:κ) (y:V):∀ kvs:List (κ × V),yP kvs k=none→yP (kvs ++ [(k,y)]) j=if j=k then some y else yP kvs j
 | [],_=>by
  by_cases e:k=j
  ·rw [if_pos e.symm];exact yZ (p:=(k,y)) e
  ·rw [if_neg (fun z=>e z.symm)];exact y0 (p:=(k,y)) e
 | p :: r,hn=>by
  rw [cb]
  have hk:¬ p.1=k:=fun z=>by rw [yZ z] at hn;cases hn
  rw [y0 hk] at hn
  have ih:=Vm k j y r hn
  by_cases e:p.1=j
  ·rw [yZ e,yZ e,if_neg (fun z=>hk (e.trans z))]
  ·rw [y0 e,y0 e,ih]
theorem Z6 (kvs:List (κ × V)) (k j:κ) (y:V):yP (yB kvs k y) j=if j=k then some y else yP kvs j:=by
 unfold yB
 by_cases a:(kvs.any fun kv=>decide (kv.1=k))=true
 ·rw [if_pos a,J2]
  rw [wz] at a
  by_cases e:j=k
  ·obtain ⟨x,hx⟩:=eQ.mp a
   rw [if_pos e,e,hx,gE,if_pos rfl]
  ·rw [if_neg e]
   cases yP kvs j with
   | none=>rfl
   | some x=>rw [gE,if_neg e]
 ·rw [if_neg a]
  refine Vm k j y kvs ?_
  rw [wz] at a
  cases q:yP kvs k with
  | none=>rfl
  | some x=>rw [q] at a;exact (a rfl).elim
theorem xp (kvs:List (κ × V)) (k:κ) (v:V):(yB kvs k v).length≤kvs.length + 1:=by
 unfold yB
 split
 ·rw [bB];lia
 ·rw [bw,ck,oy];lia
theorem XU {kvs:List (κ × V)} {k:κ} (v:V) (h:yP kvs k=none):yB kvs k v=kvs ++ [(k,v)]:=by
 unfold yB
 rw [wz,h]
 exact if_neg (by decide)
theorem RelO.isSome_eq {o:Option V} {u:Option Value} (r:RelO o u):o.isSome=u.isSome:=by
 cases o with
 | none=>cases u with
  | none=>rfl
  | some _=>exact (show False from r).elim
 | some _=>cases u with
  | none=>exact (show False from r).elim
  | some _=>rfl
theorem RelO.getD {o:Option V} {u:Option Value} {d:V} {d':Value} (r:RelO o u) (rd:RelV d d'):RelV (o.getD d) (u.getD d'):=by
 cases o with
 | none=>cases u with
  | none=>exact rd
  | some _=>exact (show False from r).elim
 | some _=>cases u with
  | none=>exact (show False from r).elim
  | some _=>exact r
theorem KV.val {kvs:List (κ × V)} {vs:List (κ × Value)} (r:KV kvs vs) (k:κ):RelO (yP kvs k) (valueAt vs k):=by
 unfold KV at r
 induction r with
 | nil=>exact eP
 | @cons p q ps qs h t ih =>
  obtain ⟨h1,h2⟩:=h
  by_cases e:p.1=k
  ·have e':q.1=k:=h1.symm.trans e
   have b:valueAt (q :: qs) k=some q.2:=by simp [valueAt,fD,e']
   rw [yZ e,b];exact h2
  ·have e':¬ q.1=k:=fun z=>e (h1.trans z)
   have b:valueAt (q :: qs) k=valueAt qs k:=by simp [valueAt,fD,e']
   rw [y0 e,b];exact ih
theorem KV.any {kvs:List (κ × V)} {vs:List (κ × Value)} (r:KV kvs vs) (k:κ):(kvs.any fun kv=>decide (kv.1=k))=vs.any fun kv=>decide (kv.1=k):=by
 unfold KV at r
 induction r with
 | nil=>rfl
 | cons h t ih=>rw [iE,iE,ih,h.1]
theorem KV.repl {kvs:List (κ × V)} {vs:List (κ × Value)} (r:KV kvs vs) (k:κ) {y:V} {u:Value} (ry:RelV y u) :
  KV (kvs.map fun kv=>if kv.1=k then (kv.1,y) else kv) (vs.map fun kv=>if kv.1=k then (kv.1,u) else kv):=by
 unfold KV at r ⊢
 induction r with
 | nil=>exact .nil
 | @cons p q ps qs h t ih =>
  rw [bW,bW]
  refine .cons ?_ ih
  obtain ⟨h1,h2⟩:=h
  by_cases e:p.1=k
  ·rw [if_pos e,if_pos (h1.symm.trans e)];exact ⟨h1,ry⟩
  ·rw [if_neg e,if_neg (fun z=>e (h1.trans z))];exact ⟨h1,h2⟩
theorem KV.put {kvs:List (κ × V)} {vs:List (κ × Value)} (r:KV kvs vs) (k:κ) {y:V} {u:Value} (ry:RelV y u):KV (yB kvs k y) (stored vs k u):=by
 unfold yB stored
 rw [r.any k]
 by_cases e:(vs.any fun kv=>decide (kv.1=k))=true
 ·rw [if_pos e,if_pos e];exact r.repl k ry
 ·rw [if_neg e,if_neg e];exact Paired.snoc r ⟨rfl,ry⟩
theorem KV.length {kvs:List (κ × V)} {vs:List (κ × Value)} (r:KV kvs vs):kvs.length=vs.length:=cy r
end
theorem Vn {P:Program} {w:World} {k:Key} {u:Value} (r:RelV (kV k) u):(yL P w).is k u=true:=by
 cases k with
 | inl i=>obtain ⟨t,e⟩:=(show ∃ t,u=ic i t from r);subst e;exact JT P w i t
 | inr x=>obtain ⟨t,e⟩:=(show ∃ t,u=iK x t from r);subst e;exact JU P w x t
theorem Yy {P:Program} {w:World}:∀ {ks:List Key} {us:List Value},Vals (ks.map kV) us→ItemsAre (yL P w) ks us
 | [],_,r=>by rw [List.map_nil] at r;cases r;exact .nil
 | k :: ks,_,r=>by
  rw [bW] at r
  cases r with
  | cons h t=>exact .cons (Vn h) (Yy t)
abbrev KT (H:Hp):List (List Key × V)→List (List Key × Addr × Value)→Prop:=Paired fun p q=>p.1=q.1∧H q.2.1=some (.tup (p.1.map kV))∧RelV p.2 q.2.2
theorem KT.val {H:Hp} {kvs:List (List Key × V)} {xs:List (List Key × Addr × Value)} (r:KT H kvs xs) (k:List Key):RelO (yP kvs k) ((atKey xs k).map (·.2)):=by
 induction r with
 | nil=>exact eP
 | @cons p q ps qs h t ih =>
  obtain ⟨h1,_,h2⟩:=h
  by_cases e:p.1=k
  ·have e':q.1=k:=h1.symm.trans e
   have b:atKey (q :: qs) k=some q.2:=by simp [atKey,fD,e']
   rw [yZ e,b];exact h2
  ·have e':¬ q.1=k:=fun z=>e (h1.trans z)
   have b:atKey (q :: qs) k=atKey qs k:=by simp [atKey,fD,e']
   rw [y0 e,b];exact ih
theorem KT.repl {H:Hp} {kvs:List (List Key × V)} {xs:List (List Key × Addr × Value)} (r:KT H kvs xs) (k:List Key) {y:V} {u:Value} (ry:RelV y u) :
  KT H (kvs.map fun kv=>if kv.1=k then (kv.1,y) else kv) (xs.map (putAt k u)):=by
 induction r with
 | nil=>exact .nil
 | @cons p q ps qs h t ih =>
  rw [bW,bW]
  refine .cons ?_ ih
  obtain ⟨h1,h2,h3⟩:=h
  unfold putAt
  by_cases e:p.1=k
  ·rw [if_pos e,if_pos (h1.symm.trans e)];exact ⟨h1,h2,ry⟩
  ·rw [if_neg e,if_neg (fun z=>e (h1.trans z))];exact ⟨h1,h2,h3⟩
theorem KT.put {H:Hp} {kvs:List (List Key × V)} {xs:List (List Key × Addr × Value)} (r:KT H kvs xs) (k:List Key) {b:Addr} {y:V} {u:Value} (hb:H b=some (.tup (k.map kV))) (ry:RelV y u) :
  KT H (yB kvs k y) (storedH xs k b u):=by
 have e:(kvs.any fun kv=>decide (kv.1=k))=(atKey xs k).isSome:=by
  rw [wz,(r.val k).isSome_eq,lL]
 unfold yB storedH
 rw [e]
 by_cases q:(atKey xs k).isSome=true
 ·rw [if_pos q,if_pos q];exact r.repl k ry
 ·rw [if_neg q,if_neg q];exact Paired.snoc r ⟨rfl,hb,ry⟩
theorem KT.keeps {H H':Hp} {kvs:List (List Key × V)} {xs:List (List Key × Addr × Value)} (r:KT H kvs xs) (ht:∀ b ys,H b=some (.tup ys)→H' b=some (.tup ys)):KT H' kvs xs :=
 Paired.mapP r fun _ _ z=>⟨z.1,ht _ _ z.2.1,z.2.2⟩
section
variable {P:Program} {w:World} {H:Hp} {h:Heap} {a:Addr}
theorem zeF {u:HO} (ok:HOk P w H h) (e:Rd H a u):ObjOk P w H h a u:=e.ok ok
theorem XV {kvs:List (Key × V)} (ok:HOk P w H h) (e:Rd H a (.dK kvs)):kvs.length≤sizeLine∧(a == sysModules)=false∧∃ vs,KV kvs vs∧h.DictOf (yL P w) a vs :=
 show ObjOk P w H h a (.dK kvs) from zeF ok e
theorem zfQ {kvs:List (Key × V)} (ok:HOk P w H h) (e:H a=some (.dK kvs)):kvs.length≤sizeLine∧(a == sysModules)=false∧∃ vs,KV kvs vs∧h.DictOf (yL P w) a vs:=XV ok (.inl e)
theorem Zy {ks:List Key} (ok:HOk P w H h) (e:H a=some (.tup (ks.map kV))):(tupleKind (yL P w)).is h ks a:=by
 obtain ⟨_,its,r,o,h1,h2,n,h3⟩:=(show ObjOk P w H h a (.tup (ks.map kV)) from ok a _ e)
 exact ⟨o,its.toArray,n,h1,h2,h3,by simpa using Yy r⟩
theorem XW {kvs:List (List Key × V)} (ok:HOk P w H h) (e:Rd H a (.dT kvs)):kvs.length≤sizeLine∧(a == sysModules)=false ∧
  ∃ xs,KT H kvs xs∧h.DictOfH (tupleKind (yL P w)) a xs:=by
 obtain ⟨z,y,xs,r,o,es,ep,h1,h2,h3,h4,h5⟩:=(show ObjOk P w H h a (.dT kvs) from zeF ok e)
 refine ⟨z,y,xs,r,o,es,ep,h1,h2,h3,h4,fun x hx=>?_,h5⟩
 have all:∀ {l:List (List Key × V)} {m:List (List Key × Addr × Value)},KT H l m→∀ x∈m,(tupleKind (yL P w)).is h x.1 x.2.1:=by
  intro l m q
  induction q with
  | nil=>intro x hx;exact nomatch hx
  | @cons p q ps qs hq t ih =>
   intro x hx
   rcases bN.mp hx with e | hx
   ·subst e
    exact Zy ok (by rw [← hq.1];exact hq.2.1)
   ·exact ih x hx
 exact all r x hx
theorem zeG {kvs:List (List Key × V)} (ok:HOk P w H h) (e:H a=some (.dT kvs)):kvs.length≤sizeLine∧(a == sysModules)=false ∧
  ∃ xs,KT H kvs xs∧h.DictOfH (tupleKind (yL P w)) a xs:=XW ok (.inl e)
end
def DGet (H:Hp) (a:Addr) (y:V) (r:Option V):Prop :=
 (∃ kvs k,Rd H a (.dK kvs)∧y=kV k∧r=yP kvs k)∨∃ kvs k b,Rd H a (.dT kvs)∧y=.ref b∧H b=some (.tup (k.map kV))∧r=yP kvs k
def DPut (H:Hp) (a:Addr) (y v:V) (H':Hp):Prop :=
 (∃ kvs k,H a=some (.dK kvs)∧y=kV k∧kvs.length < sizeLine∧H'=upd H a (.dK (yB kvs k v))) ∨
 ∃ kvs k b,H a=some (.dT kvs)∧y=.ref b∧H b=some (.tup (k.map kV))∧kvs.length < sizeLine∧H'=upd H a (.dT (yB kvs k v))
theorem DGet.k {H:Hp} {a:Addr} {kvs:List (Key × V)} {k:Key} (e:H a=some (.dK kvs)):DGet H a (kV k) (yP kvs k):=.inl ⟨kvs,k,.inl e,rfl,rfl⟩
theorem DGet.t {H:Hp} {a b:Addr} {kvs:List (List Key × V)} {k:List Key} (e:H a=some (.dT kvs)) (eb:H b=some (.tup (k.map kV))):DGet H a (.ref b) (yP kvs k):=.inr ⟨kvs,k,b,.inl e,rfl,eb,rfl⟩
theorem DPut.k {H:Hp} {a:Addr} {kvs:List (Key × V)} {k:Key} {v:V} (e:H a=some (.dK kvs)) (hl:kvs.length < sizeLine):DPut H a (kV k) v (upd H a (.dK (yB kvs k v))):=.inl ⟨kvs,k,e,rfl,hl,rfl⟩
theorem DPut.t {H:Hp} {a b:Addr} {kvs:List (List Key × V)} {k:List Key} {v:V} (e:H a=some (.dT kvs)) (eb:H b=some (.tup (k.map kV))) (hl:kvs.length < sizeLine) :
  DPut H a (.ref b) v (upd H a (.dT (yB kvs k v))):=.inr ⟨kvs,k,b,e,rfl,eb,hl,rfl⟩
section
variable {X:Cx} {pins:List (Addr × Obj)} {σ:St} {H:Hp} {s:Shared} {a:Addr} {y v:V} {u r:Value} {o:Option V} {A:Around} {E:Value→Shared→Prop}
theorem Inv.big (I:Inv X pins σ H s):sysModules < s.heap.objs.size:=by
 have h:mainGlobals < s.heap.objs.size:=(I.mod.glob.keeps I.bk).lt
 exact nY (by decide) h
theorem zbf {Q:Value→Shared→Prop} (hu:A.units + 1 < cLine) (I:Inv X pins σ H s) (g:DGet H a y (some v)) (ry:RelV y u) (h:∀ w' s',Inv X pins σ H s'→RelV v w'→Q w' s') :
  wpAny (model X.prog X.w) A (getItem (.ref a) u) Q E s:=by
 rcases g with ⟨kvs,k,e,ey,l⟩ | ⟨kvs,k,b,e,ey,eb,l⟩
 ·subst ey
  obtain ⟨z,hd,vs,rel,dd⟩:=XV I.hok e
  obtain ⟨w',hw,rw'⟩:=RelO.some_of (v:=v) (o:=valueAt vs k) (by rw [l];exact rel.val k)
  exact wpAny_getItem_of (Vn ry) dd.mapOf hw (h w' _ (I.tok _) rw')
 ·subst ey
  cases (show u=bL b from ry)
  obtain ⟨z,hd,xs,rel,dd⟩:=XW I.hok e
  obtain ⟨w',hw,rw'⟩:=RelO.some_of (v:=v) (o:=(atKey xs k).map (·.2)) (by rw [l];exact rel.val k)
  obtain ⟨p,hp,hp2⟩:=dk.mp hw
  refine wpAny_getItem_heap (eJ hu) (Zy I.hok eb) dd hp ?_
  rw [hp2]
  exact h w' _ (I.tok _) rw'
theorem zge {Q:Value→Shared→Prop} (hu:A.units + 1 < cLine) (I:Inv X pins σ H s) (g:DGet H a y o) (ry:RelV y u) (h:∀ s',Inv X pins σ H s'→Q (.bool o.isSome) s') :
  wpAny (model X.prog X.w) A (compareOp .In u (.ref a)) Q E s:=by
 rcases g with ⟨kvs,k,e,ey,l⟩ | ⟨kvs,k,b,e,ey,eb,l⟩
 ·subst ey
  obtain ⟨z,hd,vs,rel,dd⟩:=XV I.hok e
  refine wpAny_in_of (Vn ry) hd dd.mapOf ?_
  rw [← (rel.val k).isSome_eq,← l]
  exact h _ (I.tok _)
 ·subst ey
  cases (show u=bL b from ry)
  obtain ⟨z,hd,xs,rel,dd⟩:=XW I.hok e
  refine wpAny_in_heap (eJ hu) (Zy I.hok eb) hd dd ?_
  have q:=(rel.val k).isSome_eq
  rw [lL] at q
  rw [← q,← l]
  exact h _ (I.tok _)
theorem zdG {Q:Value→Shared→Prop} (hu:A.units + 1 < cLine) (I:Inv X pins σ H s) (g:DGet H a y o) (ry:RelV y u) (h:∀ s',Inv X pins σ H s'→Q (.bool (!o.isSome)) s') :
  wpAny (model X.prog X.w) A (compareOp .NotIn u (.ref a)) Q E s:=by
 rcases g with ⟨kvs,k,e,ey,l⟩ | ⟨kvs,k,b,e,ey,eb,l⟩
 ·subst ey
  obtain ⟨z,hd,vs,rel,dd⟩:=XV I.hok e
  refine wpAny_notIn_of (Vn ry) hd dd.mapOf ?_
  rw [← (rel.val k).isSome_eq,← l]
  exact h _ (I.tok _)
 ·subst ey
  cases (show u=bL b from ry)
  obtain ⟨z,hd,xs,rel,dd⟩:=XW I.hok e
  refine wpAny_notIn_heap (eJ hu) (Zy I.hok eb) hd dd ?_
  have q:=(rel.val k).isSome_eq
  rw [lL] at q
  rw [← q,← l]
  exact h _ (I.tok _)
theorem V3 {h':Heap} {t':Nat} {ob:HO} (I:Inv X pins σ H s) (mu:Mut (H a)) (hs:cQ a s.heap h') (he:∃ q,h'.get? a=some q) (new:ObjOk X.prog X.w (upd H a ob) h' a ob) :
  Inv X pins σ (upd H a ob) { s with heap:=h',toks:=t' } :=
 I.write (x:=a) (e:=a) mu (.inl rfl) (fun b q hb z=>(hs.2 b hb).trans z) he new
theorem ze5 {P:Program} {w:World} {H':Hp} {h':Heap} {kvs:List (Key × V)} {vs:List (Key × Value)} (z:kvs.length≤sizeLine) (hd:(a == sysModules)=false) (rel:KV kvs vs) (dd:h'.DictOf (yL P w) a vs) :
  ObjOk P w H' h' a (.dK kvs):=⟨z,hd,vs,rel,dd⟩
theorem zbg {H':Hp} {Q:Unit→Shared→Prop} (hu:A.units + 1 < cLine) (I:Inv X pins σ H s) (g:DPut H a y v H') (ry:RelV y u) (rv:RelV v r) (h:∀ s',Inv X pins σ H' s'→Q () s') :
  wpAny (model X.prog X.w) A (setItem (.ref a) u r) Q E s:=by
 rcases g with ⟨kvs,k,e,ey,l,eH⟩ | ⟨kvs,k,b,e,ey,eb,l,eH⟩
 ·subst ey eH
  obtain ⟨z,hd,vs,rel,dd⟩:=zfQ I.hok e
  have hz:vs.length≤sizeLine:=by rw [← rel.length];exact z
  have hl:(yB kvs k v).length≤sizeLine:=by have:=xp kvs k v;lia
  refine wpAny_setItem_pairs (hsz:=hz) (Vn ry) dd fun h' dd' hs=>h _ ?_
  have he:∃ q,h'.get? a=some q:=let ⟨q,_,_,hq,_⟩:=dd';⟨q,hq⟩
  exact V3 I (by rw [e];exact eP) hs he (ze5 hl hd (rel.put k rv) dd')
 ·subst ey eH
  cases (show u=bL b from ry)
  obtain ⟨z,hd,xs,rel,dd⟩:=zeG I.hok e
  have hz:xs.length≤sizeLine:=by rw [← cy rel];exact z
  have hl:(yB kvs k v).length≤sizeLine:=by have:=xp kvs k v;lia
  refine wpAny_setItem_heap (hsz:=hz) (eJ hu) (Zy I.hok eb) dd fun h' dd' hs=>h _ ?_
  obtain ⟨q,es,ep,hq,h2,h3,h4,_,h5⟩:=dd'
  refine V3 I (by rw [e];exact eP) hs ⟨q,hq⟩ ⟨hl,hd,_,(rel.put k eb rv).keeps fun c ys ec=>?_,q,es,ep,hq,h2,h3,h4,h5⟩
  rw [zj (yi ec e (fun z=>nomatch z))]
  exact ec
end
def zfR (i:Expr):Prop:=∀ ov iv,subscripted i false ov iv=operate [ov,iv] (getItem ov iv)
theorem zdH {prog:Program} {w:World} {A:Around} {E:Value→Shared→Prop} {s:Shared} {env:Env} {value slice:Expr} {pos:Pos} {T id:String} {Q:Value→Shared→Prop}
  (hl:typeLookup (.type T) "__getitem__"=pure (some (.builtin id))) (hs:zfR slice)
  (h:wpAny (model prog w) A (eval value env) (fun o s₁=>wpAny (model prog w) A (eval slice env) (fun i s₂=>s₂.TypeIs o T∧wpAny (model prog w) A (getItem o i) Q E s₂) E s₁) E s) :
  wpAny (model prog w) A (eval (.Subscript value slice pos) env) Q E s:=by
 refine Subscript_ (db h (fun o s₁ h₁=>db h₁ (fun i s₂ h₂=>?_) fun _ _ x=>x) fun _ _ x=>x)
 obtain ⟨hT,h₂⟩:=h₂
 unfold subscriptTail
 refine ba ?_
 rw [getitemInPython_of_ne hT.not_modules]
 refine ba (wpAny_specialOf hT hl ?_)
 have fin:wpAny (model prog w) A (subscripted slice false o i) (fun r s₃=>wpAny (model prog w) A (letTemporaryGo value o r >>= fun _=>pure r) Q E s₃) E s₂:=by
  rw [hs o i]
  exact wpAny_operating (db h₂ (fun r s₃ h₃=>ba (wpAny_letTemporaryGo (bj h₃))) fun _ _ x=>x)
 first
  | exact bj (ba fin)
  | exact ba (bj (ba fin))
  | exact ba fin
theorem J3 {X:Cx} {pins:List (Addr × Obj)} {σ:St} {H:Hp} {s:Shared} {a:Addr} {y:V} {o:Option V} (I:Inv X pins σ H s) (g:DGet H a y o):s.TypeIs (.ref a) "dict":=by
 rcases g with ⟨kvs,k,e,_,_⟩ | ⟨kvs,k,b,e,_,_,_⟩
 ·obtain ⟨_,_,vs,_,dd⟩:=XV I.hok e
  exact dd.typeIs
 ·obtain ⟨_,_,xs,_,dd⟩:=XW I.hok e
  exact dd.typeIs
def XX (td ty:TE):TE:=fun σ H Q=>td σ H fun x H1=>ty σ H1 fun y H2=>∃ a v,x=.ref a∧DGet H2 a y (some v)∧Q v H2
def wA (td ty tv:TE):TS:=fun D σ H=>tv σ H fun v H1=>td σ H1 fun x H2=>ty σ H2 fun y H3=>∃ a H4,x=.ref a∧DPut H3 a y v H4∧D.nx σ H4
section
variable {X:Cx} {o i e value:Expr} {pos pos' tpos:Pos} {td ty tv:TE}
theorem XI (hu:X.A.units + 1 < cLine) (ho:PE X o td) (hi:PE X i ty) (hs:zfR i):PE X (.Subscript o i pos) (XX td ty):=by
 intro pins s σ H Q I h
 refine zdH PySem.F.slot_dict_getitem.lookup hs (thn (ho pins s σ H _ I h) fun u s1 ⟨x,H1,I1,rx,q1⟩=>thn (hi pins s1 σ H1 _ I1 q1) fun iv s2 ⟨y,H2,I2,ry,a,v,ex,g,q2⟩=>?_)
 subst ex
 obtain rfl:u=bL a:=rx
 exact ⟨J3 I2 g,zbf hu I2 g ry fun w' s3 I3 rw'=>⟨v,H2,I3,rw',q2⟩⟩
theorem wr (hu:X.A.units + 1 < cLine) (ho:PE X o td) (hi:PE X i ty) (hv:PE X value tv) (hs:swapsWith value (some (.Subscript o i pos')) pos.line X.env=pure false) :
  PS X (.Assign [.Subscript o i pos'] value pos) (wA td ty tv):=by
 intro pins s σ H D I h
 refine mE (thn (hv pins s σ H _ I h) fun r s1 ⟨v,H1,I1,rv,q1⟩=>thn (ho pins s1 σ H1 _ I1 q1) fun u s2 ⟨x,H2,I2,rx,q2⟩=>thn (hi pins s2 σ H2 _ I2 q2) fun iv s3 ⟨y,H3,I3,ry,a,H4,ex,g,q3⟩=>?_) hs
 subst ex
 obtain rfl:u=bL a:=rx
 exact zbg hu I3 g ry rv fun s4 I4=>⟨σ,H4,I4,q3⟩
end
theorem zbZ {P:Program} {w:World} {H:Hp} (h:Heap) (hb:sysModules < h.objs.size):ObjOk P w H (h.push { cls:=.type "dict",data:=.dict #[] }) h.objs.size (.dK []) :=
 ⟨b9 _,beq_eq_false_iff_ne.mpr (cA (cz hb)),[],.nil,Heap.DictOf.new h⟩
theorem J4 {P:Program} {w:World} {H:Hp} (h:Heap) (hb:sysModules < h.objs.size):ObjOk P w H (h.push { cls:=.type "dict",data:=.dict #[] }) h.objs.size (.dT []) :=
 ⟨b9 _,beq_eq_false_iff_ne.mpr (cA (cz hb)),[],.nil,_,#[],0,bC _ rfl,⟨rfl,rfl,rfl⟩,rfl,rfl,lq⟩
def V4:TE:=fun _ H Q=>∀ p,H p=none→Q (.ref p) (upd H p (.dK []))
def Zz:TE:=fun _ H Q=>∀ p,H p=none→Q (.ref p) (upd H p (.dT []))
section
variable {X:Cx} {pos:Pos}
theorem J5:PE X (.Dict [] [] pos) V4:=fun pins s σ H Q I h =>
 wpAny_Dict_empty ⟨.ref s.heap.objs.size,_,I.laid (a:=s.heap.objs.size) (o:=.dK []) (t':=s.toks) (fun _ _ q=>bn _ q) (bu _) (zbZ s.heap I.big),rfl,h _ (I.hok.fresh (bu _))⟩
theorem Z7:PE X (.Dict [] [] pos) Zz:=fun pins s σ H Q I h =>
 wpAny_Dict_empty ⟨.ref s.heap.objs.size,_,I.laid (a:=s.heap.objs.size) (o:=.dT []) (t':=s.toks) (fun _ _ q=>bn _ q) (bu _) (J4 s.heap I.big),rfl,h _ (I.hok.fresh (bu _))⟩
end
def ze6:List (TE × TE)→St→Hp→(List (V × V)→Hp→Prop)→Prop
 | [],_,H,Q=>Q [] H
 | (tk,tv) :: r,σ,H,Q=>tk σ H fun x H1=>tv σ H1 fun y H2=>ze6 r σ H2 fun ps H3=>Q ((x,y) :: ps) H3
structure M1 (X:Cx) (o:Expr) (m:Str) (apos:Pos) (e:Expr) (cpos:Pos):Prop where
 base:attributeBase o m X.env (eval o X.env)=eval o X.env
 few:((backTo cpos (starEach [e] X.env)).all (fun x=>!x.1) && (backToKw cpos (keywordEach [] X.env)).all (fun x=>x.1.isSome)
  && decide (([e]:List Expr).length + ([]:List Keyword).length + (if ([]:List Keyword).isEmpty then 0 else 1) < 30))=true
 line:(apos.endLine == cpos.line)=true
 trees:backTo cpos (starEach [e] X.env)=[(false,eval e X.env)]
structure M2 (X:Cx) (o:Expr) (m:Str) (apos:Pos) (e f:Expr) (cpos:Pos):Prop where
 base:attributeBase o m X.env (eval o X.env)=eval o X.env
 few:((backTo cpos (starEach [e,f] X.env)).all (fun x=>!x.1) && (backToKw cpos (keywordEach [] X.env)).all (fun x=>x.1.isSome)
  && decide (([e,f]:List Expr).length + ([]:List Keyword).length + (if ([]:List Keyword).isEmpty then 0 else 1) < 30))=true
 line:(apos.endLine == cpos.line)=true
 trees:backTo cpos (starEach [e,f] X.env)=[(false,eval e X.env),(false,eval f X.env)]
def IsD (H:Hp) (a:Addr):Prop:=(∃ kvs,Rd H a (.dK kvs))∨∃ kvs,Rd H a (.dT kvs)
theorem Qy {X:Cx} {pins:List (Addr × Obj)} {σ:St} {H:Hp} {s:Shared} {a:Addr} (I:Inv X pins σ H s) (d:IsD H a) :
  s.TypeIs (.ref a) "dict"∧(∀ b,bL a=.ref b→∃ ob,s.heap.get? b=some ob∧ob.dict=none)∧(a == sysModules)=false:=by
 rcases d with ⟨kvs,e⟩ | ⟨kvs,e⟩
 ·obtain ⟨_,hd,vs,_,dd⟩:=XV I.hok e
  refine ⟨dd.typeIs,fun b q=>?_,hd⟩
  cases q
  obtain ⟨ob,_,_,h1,h2,_⟩:=dd
  exact ⟨ob,h1,h2.2.1⟩
 ·obtain ⟨_,hd,xs,_,dd⟩:=XW I.hok e
  refine ⟨dd.typeIs,fun b q=>?_,hd⟩
  cases q
  obtain ⟨ob,_,_,h1,h2,_⟩:=dd
  exact ⟨ob,h1,h2.2.1⟩
section
variable {X:Cx} {pins:List (Addr × Obj)} {σ:St} {H:Hp} {s:Shared} {a:Addr} {y d:V} {u r:Value} {o:Option V} {A:Around} {E:Value→Shared→Prop}
theorem ze7 {Q:Value→Shared→Prop} (hu:A.units + 1 < cLine) (I:Inv X pins σ H s) (g:DGet H a y o) (ry:RelV y u) (rd:RelV d r) (h:∀ w' s',Inv X pins σ H s'→RelV (o.getD d) w'→Q w' s') :
  wpAny (model X.prog X.w) A (call (.builtin "dict.get") [.ref a,u,r]) Q E s:=by
 rcases g with ⟨kvs,k,e,ey,l⟩ | ⟨kvs,k,b,e,ey,eb,l⟩
 ·subst ey
  obtain ⟨z,hd,vs,rel,dd⟩:=XV I.hok e
  refine call_meetsIn ig dd.typeIs mF (lW _ _ _) (meets_dict_get_default (yL X.prog X.w) a (Vn ry) hd r) ⟨_,dd.mapOf,h _ _ (I.tok _) ?_⟩
  rw [l]
  exact (rel.val k).getD rd
 ·subst ey
  cases (show u=bL b from ry)
  obtain ⟨z,hd,xs,rel,dd⟩:=XW I.hok e
  refine call_meetsIn ig dd.typeIs mF (lW _ _ _) (meetsH_dict_get_default (tupleKind (yL X.prog X.w)) a b hd r) ⟨eJ hu,k,xs,Zy I.hok eb,dd,h _ _ (I.tok _) ?_⟩
  rw [l]
  exact (rel.val k).getD rd
end
def wM (td ty tx:TE):TE:=fun σ H Q=>td σ H fun x H1=>∃ a,x=.ref a∧IsD H1 a∧ty σ H1 fun y H2=>tx σ H2 fun z H3=>∃ o,DGet H3 a y o∧Q (o.getD z) H3
section
variable {X:Cx} {o e f:Expr} {apos cpos:Pos} {td ty tx:TE}
theorem Z8 (hu:X.A.units + 1 < cLine) (ho:PE X o td) (he:PE X e ty) (hf:PE X f tx) (m:M2 X o "get" apos e f cpos):PE X (.Call (.Attribute o "get" apos) [e,f] [] cpos) (wM td ty tx):=by
 intro pins s σ H Q I h
 refine wpAny_Call_method m.base m.few m.line gG ig PySem.F.type_dict_get (thn (ho pins s σ H _ I h) fun u s1 ⟨x,H1,I1,rx,a,ex,d,q1⟩=>?_)
 subst ex
 obtain rfl:u=bL a:=rx
 obtain ⟨t1,t2,_⟩:=Qy I1 d
 refine ⟨t1,t2,?_⟩
 rw [m.trees]
 refine eE rfl (iz (ft (thn (he pins s1 σ H1 _ I1 q1) fun iv s2 ⟨y,H2,I2,ry,q2⟩ =>
  ft (thn (hf pins s2 σ H2 _ I2 q2) fun fv s3 ⟨z,H3,I3,rz,ov,g,q3⟩=>lJ ?_))))
 exact ze7 hu I3 g ry rz fun w' s4 I4 rw'=>⟨_,H3,I4,rw',q3⟩
end
end L2
namespace Att
open PySem PySem.W PySem.Calls PyProof.Rows
theorem Xj {P:Params} {h:Heap}:∀ (ns:List Int) (vs:List Value),WellAll P h vs (ns.map WData.int)→IntsAre vs ns:=by
 intro ns
 induction ns with
 | nil =>
  intro vs w
  rw [List.map_nil] at w
  cases w
  exact .nil
 | cons n ns ih =>
  intro vs w
  rw [bW] at w
  cases w with
  | cons a b =>
   cases a
   exact .cons _ _ (ih _ b)
theorem Vo {l:OpenLaw} {n:Nat} (hn:l.most=some n) {P:Params} {h:Heap} {args:List WData} {vals:List Value}
  (hpre:l.row.toRowW.claim.pre args=true) (hwl:WellAll P h vals args) :
  ∃ a vs ns,vals=[bL a]∧args=[WData.list (ns.map WData.int)]∧h.get? a=some { cls:=.type "list",data:=.seq vs.toArray }∧IntsAre vs ns∧ns.length≤n:=by
 have hsh:WShape.hasAll [] args [.list .int]=true:=(pre_splitW hpre).1
 have hc:l.pre.holds [] { args:=args }=true:=(pre_splitW hpre).2
 obtain ⟨d,r,rfl,h1,h2⟩:=hasAllW_cons hsh
 obtain rfl:=hasAllW_nil h2
 obtain ⟨xs,rfl,h3⟩:=hasW_list h1
 obtain ⟨ns,rfl⟩:=items_int h3
 have hlen:ns.length≤n:=by
  unfold OpenLaw.pre at hc
  have h4:(WTm.not (.lt (.lit (.int (n:Int))) (.len (.arg 0)))).holds [] { args:=[.list (ns.map .int)] }=true:=by
   have h4:=(holds_andW hc).1
   rw [hn] at h4
   exact h4
  have h5:=condW_of h4 (w_not (w_lt w_lit (w_len_list (w_arg rfl))))
  rw [bB] at h5
  refine Nat.le_of_not_lt fun q=>?_
  have q':(n:Int) < ((ns.length:Nat):Int):=by lia
  first
   | (rw [decide_eq_true q'] at h5;exact absurd h5 (by decide))
   | (simp at h5;lia)
 cases hwl with
 | cons w1 w2 =>
  cases w2
  cases w1 with
  | list ho hall=>exact ⟨_,_,ns,rfl,rfl,ho,Xj ns _ hall,hlen⟩
theorem Vp (l:OpenLaw) (args:List WData):l.row.toRowW.claim.post args (.bool true) args=true :=
 postW_of (r:=l.row.toRowW) (X:=(true == true))
  (show WShape.has [] (.bool true) .bool=true by first | rfl | decide | simp [WShape.has,WShape.arms,WShape.armsAll])
  (show (WTm.eq .res (.lit (.bool true))).value [] { args:=args,res:=some (.bool true),after:=args }=some (.bool (true == true)) from w_eq_bool (w_res rfl) w_lit) rfl
theorem attach_call {l:OpenLaw} {n:Nat} {q:Program} {loose:List Str} {XP:(Str→Option Value)→Heap→Prop} {YP:World→Heap→Prop} {d:DefRec}
  (hn:l.most=some n) (hdf:d.params.defaults=[])
  (call:∀ (w:World) (s₀ s₁:Shared) (mg mb:Str→Option Value) (fa:Addr) (o:Obj) (pm cd doc:Value) (a:Addr) (vs:List Value) (ns:List Int),
   Ground q loose [] XP w s₀ mg mb s₁.heap→YP w s₁.heap →
   s₁.heap.get? fa=some o→o.data=.func (docDef d.name d.params d.body d.scope pm cd doc)→s₁.heap.CodeRec cd d.name→mg d.name=some (.ref fa) →
   s₁.heap.get? a=some { cls:=.type "list",data:=.seq vs.toArray }→IntsAre vs ns→ns.length≤n→s₁.gens=#[] →
   codeAny (model l.prog w) callerA (.call (.ref fa) ⟨[.ref a],[]⟩) (fun r s'=>r=.ok (.ret (.bool true))∧OldK s₁.heap s'.heap∧s'.os=s₁.os∧AllBare s'.gens) s₁) :
  WalkO q loose XP YP l.row.toRowW d [] (fun f vs=>lM f vs):=by
 intro w s₀ s₁ mg mb G Y fa o pm cd doc dV kV ho hd hcd hD hmg hg args vals as hpre hlay hrd hwl hlo
 obtain rfl:dV=.none:=Dflts.none hD hdf
 obtain rfl:kV=.none:=Dflts.noKw hD
 obtain ⟨a,vs,ns,rfl,rfl,hobj,hints,hlen⟩:=Vo hn hpre hwl
 refine enter_call (eI (call w s₀ s₁ mg mb fa o pm cd doc a vs ns G Y ho (fd_plain hd) hcd hmg hobj hints hlen hg) fun r s' hq=>?_)
 obtain ⟨rfl,h2,h3,h4⟩:=hq
 exact ⟨.inl ⟨.bool true,.bool true,[],rfl,fun _=>rfl,.bool true,Vp l _,fun _=>⟨lN,fun _ hm=>(nomatch hm)⟩⟩,h2,h3,h4⟩
section
variable {prog:Program} {w:World} {A:Around} {E:Value→Shared→Prop} {s:Shared} {K:Frag}
def zgf (h:Heap) (L d:Addr):List (Addr × Obj):=(dX h.objs.size).filterMap fun a=>if a=L∨a=d then none else (h.get? a).map fun o=>(a,o)
end
end Att
namespace L2
open PySem PySem.Spec PyProof.Rows
theorem Vq:∀ {vs:List Value} {ns:List Int},IntsAre vs ns→Vals (ns.map V.int) vs
 | _,_,.nil=>.nil
 | _,_,.cons n t h=>.cons ⟨t,rfl⟩ (Vq h)
def Qz (H:Hp):Prop:=∀ b,H b=none∨∃ o xs,H b=some (.frz o (.lst xs))
theorem J6 {P:Program} {w:World} {K:br} {mg mb:Str→Option Value} {CX:CXT} {k:Nat} {fa a:Addr} {fd:FuncData} {x:Str} {sp:Sp} {s₁:Shared} {vs:List Value} {ns:List Int}
  (KX:K.In s₁.heap) (hns:s₁.heap.Ns mainGlobals mg) (hb:s₁.heap.Ns builtinsNs mb) (hbb:∀ x:Str,x≠"__name__"→mb x=bootBuiltins x) (hlim:s₁.heap.NoLimit) (hg:s₁.gens=#[])
  (ha:s₁.heap.get? a=some { cls:=.type "list",data:=.seq vs.toArray }) (hi:IntsAre vs ns) (hl:ns.length≤sizeLine) (hr:Room k callerA)
  (F:∀ base:Heap,K.In base→base.Ns mainGlobals mg→FnOk P w K mg base CX k fa fd [x] sp) (hbind:∀ (s:Shared) (u:Value),BindsTo s fd ⟨[u],[]⟩ [(x,u)])
  (hsp:∀ H:Hp,Qz H→SqL K H a (ns.map V.int)→sp [.ref a] H (fun v _=>v=.bl true) fun _ _ _=>False)
  (hCX:∀ H e s',CX [] H s₁ (fun _ _ _=>False) e s'→False) :
  codeAny (model P w) callerA (.call (.ref fa) ⟨[.ref a],[]⟩) (fun r s'=>r=.ok (.ret (.bool true))∧OldK s₁.heap s'.heap∧s'.os=s₁.os∧AllBare s'.gens) s₁:=by
 have rv:=Vq hi
 have lenV:=hi.length
 -- from an abstract heap in which nothing but the script may be tracked
 have core:∀ H:Hp,Qz H→SqL K H a (ns.map V.int)→HOk P w H s₁.heap→(∀ b,H b≠none→b=a)→(H a≠none→K.lookup a=none) →
   codeAny (model P w) callerA (.call (.ref fa) ⟨[.ref a],[]⟩) (fun r s'=>r=.ok (.ret (.bool true))∧OldK s₁.heap s'.heap∧s'.os=s₁.os∧AllBare s'.gens) s₁:=by
  intro H hO hS hok hA hK
  have base_of:∀ {b:Addr} {o:Obj},s₁.heap.get? b=some o→H b=none→(VR s₁.heap H).get? b=some o:=fun e n=>zbK e n
  have noA:∀ {b:Addr} {o:Obj} {es:Array DictEntry} {ep:Nat},s₁.heap.get? b=some o→o.data=.dict es ep→H b=none:=fun {b o es ep} e d=>by
   cases q:H b with
   | none=>rfl
   | some u =>
    have e':b=a:=hA b (by rw [q];simp)
    subst e'
    rw [ha] at e;cases e
    have d':Data.seq vs.toArray _=Data.dict es ep:=d
    cases d'
  have nsK:∀ {b:Addr} {m:Str→Option Value},s₁.heap.Ns b m→(VR s₁.heap H).Ns b m:=fun {b m} ⟨o,es,ep,e,d,r⟩=>⟨o,es,ep,base_of e (noA e d),d,r⟩
  have hKb:K.In (VR s₁.heap H):=fun b o e=>base_of (KX b o e) (by
   cases q:H b with
   | none=>rfl
   | some u =>
    have e':b=a:=hA b (by rw [q];simp)
    subst e'
    rw [hK (by rw [q];simp)] at e;cases e)
  have hM:Mod K mg (VR s₁.heap H):=⟨hKb,nsK hns,⟨mb,nsK hb,hbb⟩,let ⟨mc,h1,h2⟩:=hlim;⟨mc,nsK h1,h2⟩⟩
  have e0:Env0 P w K mg (VR s₁.heap H) callerA [] s₁ H:=⟨rfl,hM,fun b o e=>zdu e,mK (za5 _ _),trivial,fun b hb=>absurd (show b∈([]:List Addr) from hb) (by simp),hok,.of_eq hg⟩
  refine eI ((F _ hKb (nsK hns)).run callerA [] s₁ H ⟨[.ref a],[]⟩ [.ref a] [.ref a] _ _ hr e0 (hbind s₁ (.ref a)) (.cons rfl .nil) (hsp H hO hS)) fun r s' h=>?_
  cases r with
  | error e=>exact (hCX H e s' h).elim
  | ok fl =>
   cases fl with
   | next=>exact cI h
   | brk=>exact cI h
   | cont=>exact cI h
   | ret u =>
    obtain ⟨v,H',os,bare,un,hok',r',q⟩:=h
    have q':v=.bl true:=q
    subst q'
    obtain rfl:u=gL true:=r'
    refine ⟨rfl,OldK.of_keep fun b o e=>?_,os,bare⟩
    cases q:H b with
    | none=>exact un.keep b o e q (by intro z;exact absurd (show b∈([]:List Addr) from z) (by simp)) (by simp)
    | some u =>
     rcases hO b with z | ⟨ob,xs,z⟩
     ·rw [q] at z;cases z
     ·have z2:=un.frzs b ob _ z
      obtain ⟨e1,_⟩:=hok b _ z
      obtain ⟨e2,_⟩:=hok' b _ z2
      rw [e] at e1;cases e1
      exact e2
 cases hk:K.lookup a with
 | some o =>
  -- the script is one of the module's own objects
  have e:=KX a o hk
  rw [ha] at e
  cases e
  refine core (fun _=>none) (fun _=>.inl rfl) (.inr ⟨_,vs.toArray,_,hk,rfl,rfl,rfl,by rw [bJ,lenV];exact hl,by simpa using rv⟩) (fun b u z=>by have z':(none:Option HO)=some u:=z;cases z') (fun b z=>absurd rfl z) fun z=>absurd rfl z
 | none =>
  refine core (fun b=>if b=a then some (.frz { cls:=.type "list",data:=.seq vs.toArray } (.lst (ns.map V.int))) else none) (fun b=>?_) (.inl (.inr ⟨{ cls:=.type "list",data:=.seq vs.toArray },if_pos rfl⟩)) (fun b u z=>?_) (fun b z=>?_) fun _=>hk
  ·by_cases hb:b=a
   ·exact .inr ⟨_,_,if_pos hb⟩
   ·exact .inl (if_neg hb)
  ·by_cases hb:b=a
   ·have z':=(if_pos hb).symm.trans z
    cases z'
    subst hb
    exact ⟨ha,by rw [bB];exact hl,vs,_,rv,ha⟩
   ·have z':=(if_neg hb).symm.trans z
    cases z'
  ·by_cases hb:b=a
   ·exact hb
   ·exact absurd (if_neg hb) z
abbrev KOf {K:br} {h:Heap} (_:K.In h):br:=K
theorem zal {l:nD} {n k:Nat} {q:Program} {loose:List Str} {XP:(Str→Option Value)→Heap→Prop} {YP:World→Heap→Prop} {d:DefRec} {K:Params→br} {CX:World→CXT} {sp:World→Sp} {x:Str}
  (hn:l.most=some n) (hn2:n≤sizeLine) (hdf:d.params.defaults=[]) (hr:Room k callerA)
  (hY:∀ (w:World) (h:Heap),YP w h→(K w.params).In h)
  (F:∀ (w:World) (mg:Str→Option Value) (fa:Addr) (h:Heap),(K w.params).In h→h.Ns mainGlobals mg→mg d.name=some (.ref fa) →
   ∃ fd:FuncData,(∀ (s:Shared) (u:Value),BindsTo s fd ⟨[u],[]⟩ [(x,u)]) ∧
    ∀ base:Heap,(K w.params).In base→base.Ns mainGlobals mg→FnOk l.prog w (K w.params) mg base (CX w) k fa fd [x] (sp w))
  (hsp:∀ (w:World) (H:Hp) (a:Addr) (ns:List Int),ns.length≤n→Qz H→SqL (K w.params) H a (ns.map V.int)→sp w [.ref a] H (fun v _=>v=.bl true) fun _ _ _=>False)
  (hCX:∀ (w:World) (H:Hp) (s:Shared) (e:Value) (s':Shared),CX w [] H s (fun _ _ _=>False) e s'→False) :
  oM q loose XP YP l.row.toRowW d [] (fun f vs=>lM f vs):=by
 refine Att.attach_call hn hdf fun w s₀ s₁ mg mb fa o pm cd doc a vs ns G Y ho hd hcd hmg hobj hints hlen hg=>?_
 have KX:=hY w _ Y
 obtain ⟨fd,hb,hF⟩:=F w mg fa _ KX G.T.g hmg
 exact J6 KX G.T.g G.T.b G.T.builtins G.T.nolimit hg hobj hints (cf hlen hn2) hr hF hb (fun H hO hS=>hsp w H a ns hlen hO hS) fun H e s'=>hCX w H s₁ e s'
theorem zfS {l:nD} {n k:Nat} {q:Program} {loose:List Str} {XP:(Str→Option Value)→Heap→Prop} {YP:World→Heap→Prop} {d:DefRec} {K:Params→br} {CX:CXT} {sp:br→Sp} {x:Str}
  (hn:l.most=some n) (hn2:n≤sizeLine) (hdf:d.params.defaults=[]) (hr:Room k callerA)
  (hY:∀ (w:World) (h:Heap),YP w h→(K w.params).In h)
  (F:∀ (w:World) (mg:Str→Option Value) (fa:Addr) (h:Heap),(K w.params).In h→h.Ns mainGlobals mg→mg d.name=some (.ref fa) →
   ∃ fd:FuncData,(∀ (s:Shared) (u:Value),BindsTo s fd ⟨[u],[]⟩ [(x,u)]) ∧
    ∀ base:Heap,(K w.params).In base→base.Ns mainGlobals mg→FnOk l.prog w (K w.params) mg base CX k fa fd [x] (sp (K w.params)))
  (hsp:∀ (K:br) (H:Hp) (a:Addr) (ns:List Int),ns.length≤n→Qz H→SqL K H a (ns.map V.int)→sp K [.ref a] H (fun v _=>v=.bl true) fun _ _ _=>False)
  (hCX:∀ (H:Hp) (s:Shared) (e:Value) (s':Shared),CX [] H s (fun _ _ _=>False) e s'→False) :
  oM q loose XP YP l.row.toRowW d [] (fun f vs=>lM f vs) :=
 zal (K:=K) (CX:=fun _=>CX) (sp:=fun w=>sp (K w.params)) hn hn2 hdf hr hY F (fun w H a ns h1 h2 h3=>hsp (K w.params) H a ns h1 h2 h3) fun _ H s e s'=>hCX H s e s'
def xi (s:Stmt) (j:Nat):Stmt:=match s with
 | .ClassDef _ _ _ body _ _ _ _ _ _ _=>body.getD j (.Pass ⟨0,0,0,0⟩)
 | _=>.Pass ⟨0,0,0,0⟩
def xj (s:Stmt):Arguments:=match s with
 | .FunctionDef _ a _ _ _ _ _ _ _ _=>a
 | _=>{ posonlyargs:=[],args:=[],vararg:=none,kwonlyargs:=[],kw_defaults:=[],kwarg:=none,defaults:=[] }
def yC (s:Stmt):List Stmt:=match s with
 | .FunctionDef _ _ b _ _ _ _ _ _ _=>b
 | _=>[]
def zk (s:Stmt):Scope:=match s with
 | .FunctionDef _ _ _ _ _ _ sc _ _ _=>sc
 | _=>{ kind:=.function,names:=[],isGenerator:=false,isCoroutine:=false }
abbrev CX0:CXT:=fun _ _ _ _ _ _=>False
abbrev E0:XK:=fun _ _ _=>False
structure Fun (K:br) (x qual:Str) (st:Stmt) (f:Addr) (fd:FuncData):Prop where
 ex:∃ (oc:Value) (od:Option Addr) (kV doc pm:Value) (an:Option Addr) (cdv ct:Value) (osl:Array (Option Value)),
  fd=ie x qual (xj st) (yC st) (zk st) .none kV doc pm an cdv ct∧K.lookup f=some ⟨oc,od,.func fd,osl⟩∧gW K cdv qual=true
 kp:eW K (.ref f)=true
section
variable {P:Program} {w:World} {K:br} {mg:Str→Option Value} {base:Heap}
theorem Fun.binds {x qual:Str} {st:Stmt} {f:Addr} {fd:FuncData} {ps:List Str} (F:Fun K x qual st f fd)
  (h:∀ (kV doc pm:Value) (an:Option Addr) (cdv ct:Value) (us:List Value),us.length=ps.length→bindArgs (ie x qual (xj st) (yC st) (zk st) .none kV doc pm an cdv ct) ⟨us,[]⟩=pure (ps.zip us)):Binds K fd ps []:=by
 obtain ⟨oc,od,kV,doc,pm,an,cdv,ct,osl,rfl,lk,hcd⟩:=F.ex
 exact .all (h kV doc pm an cdv ct)
theorem V5 {x qual:Str} {st:Stmt} {f:Addr} {oc:Value} {od an:Option Addr} {osl:Array (Option Value)} {kV doc pm cdv ct:Value} (l:K.lookup f=some ⟨oc,od,.func (ie x qual (xj st) (yC st) (zk st) .none kV doc pm an cdv ct),osl⟩)
  (c:gW K cdv qual=true) (k:eW K (.ref f)=true):Fun K x qual st f (ie x qual (xj st) (yC st) (zk st) .none kV doc pm an cdv ct):=⟨⟨oc,od,kV,doc,pm,an,cdv,ct,osl,rfl,l,c⟩,k⟩
end
theorem xq {A:Around} {k:Nat} (hr:Room k A):A.units + 1 < cLine:=bY (Nat.add_le_add_left (by decide:1≤64) _) hr.units
section
variable {X:Cx}
theorem pv (i:Nat) {x:Str} {pos:Pos} (hN:X.N[i]?=some x:=by rfl) (hv:Vis X.env.scope x:=by first | exact cH rfl | exact mO (cH rfl) | exact mO (mO rfl)) (hd:(x == ("__debug__":Str))=false:=by decide)
  (hcd:(x == ("__classdict__":Str))=false:=by decide):PE X (.Name x pos) (zc i):=zeX hN hv hd hcd
end
theorem xm {c A B:Prop} [Decidable c] (h1:c→A) (h2:¬ c→B):if c then A else B:=by
 by_cases h:c
 ·rw [if_pos h]
  exact h1 h
 ·rw [if_neg h]
  exact h2 h
def Same (H H':Hp):Prop:=∀ b o,H b=some o→H' b=some o
theorem Same.refl (H:Hp):Same H H:=fun _ _ h=>h
theorem Same.trans {H H1 H2:Hp} (a:Same H H1) (b:Same H1 H2):Same H H2:=fun c o h=>b c o (a c o h)
section
variable {κ:Type} [DecidableEq κ]
theorem zb0 {kvs:List (κ × V)} {k:κ} (h:yP kvs k=none):¬ k∈kvs.map (·.1):=by
 intro m
 obtain ⟨p,hp,e⟩:=cG.mp m
 have q:(kvs.any fun kv=>decide (kv.1=k))=true:=List.any_eq_true.mpr ⟨p,hp,decide_eq_true e⟩
 rw [wz,h] at q
 exact absurd q (by simp)
theorem zam {kvs:List (κ × V)} {k:κ} {v:V} (h:yP kvs k=some v):k∈kvs.map (·.1):=by
 have q:(kvs.any fun kv=>decide (kv.1=k))=true:=by
  rw [wz,h]
  all_goals rfl
 obtain ⟨p,hp,e⟩:=List.any_eq_true.mp q
 exact cG.mpr ⟨p,hp,of_decide_eq_true e⟩
theorem zan:∀ {l:List κ} {k:κ},l.Nodup→¬ k∈l→(l ++ [k]).Nodup
 | [],k,_,_=>by simp
 | a :: r,k,h,hk=>by
  obtain ⟨h1,h2⟩:=cu.mp h
  show (a :: (r ++ [k])).Nodup
  refine cu.mpr ⟨fun m=>?_,zan h2 fun m=>hk (bN.mpr (mO m))⟩
  rcases bz.mp m with q | q
  ·exact h1 q
  ·exact hk (bN.mpr (cH (bD.mp q).symm))
theorem zdI {kvs:List (κ × V)} {k:κ} (v:V) (hn:(kvs.map (·.1)).Nodup) (h:yP kvs k=none):((yB kvs k v).map (·.1)).Nodup:=by
 rw [XU v h,fE]
 exact zan hn (zb0 h)
theorem zbh {p:κ × V} {r:List (κ × V)} {k:κ} (e:¬ p.1=k):zak (p :: r) k=p :: zak r k:=by
 unfold zak
 rw [mq,if_pos (by simp [e])]
theorem zb1:∀ {kvs:List (κ × V)} {k:κ},¬ k∈kvs.map (·.1)→zak kvs k=kvs
 | [],_,_=>rfl
 | p :: r,k,h=>by
  have h':¬ k∈r.map (·.1):=fun m=>by
   obtain ⟨q,hq,e⟩:=cG.mp m
   exact h (cG.mpr ⟨q,bN.mpr (mO hq),e⟩)
  rw [zbh fun e=>h (cG.mpr ⟨p,bN.mpr (cH rfl),e⟩),zb1 h']
end
end L2
set_option Elab.async false
set_option linter.all false
set_option maxRecDepth 100000
set_option maxHeartbeats 4000000
namespace L2
open PySem PySem.Spec PyProof.Rows
def Cx.comp (X:Cx) (scope:Scope) (cl:List (Str × Addr)) (C:Addr) (N:List Str) (fp:List Addr) (s:Shared) (H:Hp):Cx :=
 { X with env:=compEnvC scope cl C X.env,N:=N,s₀:=s,H₀:=H,outer:=X.stack,ex:=fp,fn:=fun _=>false,pn:=[],xe:=fun _ _=>False }
structure qU (X:Cx) (scope:Scope) (cl:List (Str × Addr)) (ix:List Nat):Prop where
 clos:closureFor scope X.env=pure cl
 nocell:∀ y∈scope.names,y.2≠.cell
 kind:scope.kind=.function
 names:∀ y∈scope.names,y.2=.local→scope.names.lookup y.1=some .local
 sub:∀ y c,cl.lookup y=some c→X.env.cells.lookup y=some c
 has:∀ y,((relabel scope X.env).names.lookup y=some .cell∨(relabel scope X.env).names.lookup y=some .free)→∃ c,cl.lookup y=some c
 cap:∀ i∈ix,∃ y,X.N[i]?=some y∧(X.env.kindOf y=some .cell∨X.env.kindOf y=some .free)∧((relabel scope X.env).names.lookup y=some .cell∨(relabel scope X.env).names.lookup y=some .free)
def XY (scope:Scope) (env:Env):List (Str × Addr):=scope.names.foldl (fun cs y=>if y.2 == .free then (y.1,(env.cells.lookup y.1).getD 0) :: cs else cs) []
def zb2 (osc:Scope) (N:List Str) (sc:Scope) (ix:List Nat):Bool :=
 sc.kind == .function && sc.names.all (fun y=>y.2 != .cell && (y.2 != .local || sc.names.lookup y.1 == some .local) && (y.2 != .free || osc.names.lookup y.1 == some .cell || osc.names.lookup y.1 == some .free)) &&
  ix.all fun i=>match N[i]? with
   | some y=>sc.names.lookup y == some .free
   | none=>false
theorem wB {l:List (Str × NameKind)} {y:Str} {k:NameKind} (h:l.lookup y=some k):(y,k)∈l:=eC h
theorem jO {env:Env}:∀ {names:List (Str × NameKind)} {x:Str} {k:NameKind},(names.map fun (n,k)=>if (k == c9 && env.scope.kind == .function && env.kindOf n == some .cell) then (n,lX) else (n,k)).lookup x=some k →
  ∃ k',names.lookup x=some k'∧(k'=.free∨k'=k)
 | [],_,_,h=>by simp at h
 | (n,k') :: r,x,k,h=>by
  have ih:=@jO env r x k
  rw [bW] at h
  cases hx:x == n with
  | true =>
   by_cases hc:(k' == c9 && env.scope.kind == .function && env.kindOf n == some .cell)=true
   ·have e:k'=.free:=by
     have:=(bX _ _ ▸ (bX _ _ ▸ hc).1).1
     simpa using this
    exact ⟨k',by simp [cJ,hx],.inl e⟩
   ·simp only [if_neg hc,cJ,hx] at h
    exact ⟨k',by simp [cJ,hx],.inr (ca h)⟩
  | false =>
   have h':(r.map fun (n,k)=>if (k == c9 && env.scope.kind == .function && env.kindOf n == some .cell) then (n,lX) else (n,k)).lookup x=some k:=by
    by_cases hc:(k' == c9 && env.scope.kind == .function && env.kindOf n == some .cell)=true
    ·simp only [if_pos hc,cJ,hx] at h;exact h
    ·simp only [if_neg hc,cJ,hx] at h;exact h
   obtain ⟨q,e,r'⟩:=ih h'
   exact ⟨q,by simp only [cJ,hx];exact e,r'⟩
theorem Z9 {env:Env}:∀ {names:List (Str × NameKind)} {x:Str},names.lookup x=some .free →
  ((names.map fun (n,k)=>if (k == c9 && env.scope.kind == .function && env.kindOf n == some .cell) then (n,lX) else (n,k)).lookup x=some .cell ∨
   (names.map fun (n,k)=>if (k == c9 && env.scope.kind == .function && env.kindOf n == some .cell) then (n,lX) else (n,k)).lookup x=some .free)
 | [],_,h=>by simp at h
 | (n,k') :: r,x,h=>by
  have ih:=@Z9 env r x
  rw [bW]
  cases hx:x == n with
  | true =>
   simp only [cJ,hx] at h
   cases h
   by_cases hc:(c9 == c9 && env.scope.kind == .function && env.kindOf n == some .cell)=true
   ·left;simp only [if_pos hc,cJ,hx]
   ·right;simp only [if_neg hc,cJ,hx]
  | false =>
   simp only [cJ,hx] at h
   by_cases hc:(k' == c9 && env.scope.kind == .function && env.kindOf n == some .cell)=true
   ·simp only [if_pos hc,cJ,hx];exact ih h
   ·simp only [if_neg hc,cJ,hx];exact ih h
theorem Vr {env:Env}:∀ (l:List (Str × NameKind)) (cs:List (Str × Addr)),(∀ y∈l,y.2=.free→∃ c,env.cells.lookup y.1=some c) →
  (∀ y c,cs.lookup y=some c→env.cells.lookup y=some c)→∀ y c,(l.foldl (fun cs y=>if y.2 == .free then (y.1,(env.cells.lookup y.1).getD 0) :: cs else cs) cs).lookup y=some c→env.cells.lookup y=some c
 | [],_,_,h,y,c,e=>h y c e
 | z :: r,cs,hl,h,y,c,e=>by
  rw [eR] at e
  refine Vr r _ (fun y hy=>hl y (bx _ hy)) (fun y' c' e'=>?_) y c e
  by_cases hz:z.2=.free
  ·obtain ⟨c0,h0⟩:=hl z bH hz
   have hb:(z.2 == c9)=true:=by simpa using hz
   rw [if_pos hb,h0,cJ] at e'
   cases hq:y' == z.1 with
   | true =>
    rw [hq] at e'
    have e2:y'=z.1:=by simpa using hq
    cases e'
    rw [e2];exact h0
   | false=>rw [hq] at e';exact h _ _ e'
  ·have hb:(z.2 == c9)=false:=by simpa using hz
   rw [hb] at e'
   exact h _ _ e'
theorem J7 {env:Env}:∀ (l:List (Str × NameKind)) (cs:List (Str × Addr)) (y:Str),((∃ c,cs.lookup y=some c)∨(y,c9)∈l) →
  ∃ c,(l.foldl (fun cs y=>if y.2 == .free then (y.1,(env.cells.lookup y.1).getD 0) :: cs else cs) cs).lookup y=some c
 | [],_,_,h=>h.elim id fun z=>nomatch z
 | z :: r,cs,y,h=>by
  rw [eR]
  refine J7 r _ y ?_
  rcases h with ⟨c,h⟩ | h
  ·left
   by_cases hz:(z.2 == c9)=true
   ·rw [if_pos hz,cJ]
    cases y == z.1 with
    | true=>exact ⟨_,rfl⟩
    | false=>exact ⟨c,h⟩
   ·rw [if_neg hz];exact ⟨c,h⟩
  ·rcases bN.mp h with h | h
   ·left
    subst h
    rw [if_pos (by rfl),cJ]
    simp
   ·exact .inr h
theorem V6 {env:Env}:∀ (l:List (Str × NameKind)) (cs:List (Str × Addr)),(∀ y∈l,y.2=.free→∃ c,env.cells.lookup y.1=some c) →
  forIn (m:=Sem) l cs (fun x r=>match x with | (name,kind)=>if (kind == c9)=true then do let c ← cellOf env name;pure (fF ((name,c) :: r)) else pure (fF r)) =
   pure (l.foldl (fun cs y=>if y.2 == .free then (y.1,(env.cells.lookup y.1).getD 0) :: cs else cs) cs)
 | [],_,_=>rfl
 | (n,k) :: r,cs,h=>by
  rw [List.forIn_cons,eR]
  by_cases hz:(k == c9)=true
  ·obtain ⟨c,hc⟩:=h (n,k) bH (by simpa using hz)
   have e:cellOf env n=pure c:=by unfold cellOf;rw [hc]
   simp only [hz,if_true,e,pure_bind]
   rw [V6 r _ fun y hy=>h y (bx _ hy)]
   simp only [hc,Option.getD_some]
  ·simp only [hz,if_false,pure_bind]
   exact V6 r _ fun y hy=>h y (bx _ hy)
theorem V7 {X:Cx} {osc scope:Scope} {N:List Str} {ix:List Nat} (ok:X.Ok) (h:zb2 osc N scope ix=true) (hs:X.env.scope=osc) (hN:X.N=N):qU X scope (XY scope X.env) ix:=by
 subst hs hN
 unfold zb2 at h
 rw [bX,bX,dE,dE] at h
 obtain ⟨⟨h1,h2⟩,h3⟩:=h
 have p:∀ y∈scope.names,y.2≠.cell∧(y.2=.local→scope.names.lookup y.1=some .local)∧(y.2=.free→X.env.kindOf y.1=some .cell∨X.env.kindOf y.1=some .free):=fun y hy=>by
  have q:=h2 y hy
  rw [bX,bX] at q
  obtain ⟨⟨q1,q2⟩,q3⟩:=q
  refine ⟨by simpa using q1,fun e=>?_,fun e=>?_⟩
  ·rw [e] at q2;simpa using q2
  ·rw [e] at q3
   have q3':X.env.scope.names.lookup y.1=some .cell∨X.env.scope.names.lookup y.1=some .free:=by simpa using q3
   exact q3'
 have f:∀ y∈scope.names,y.2=.free→∃ c,X.env.cells.lookup y.1=some c:=fun y hy e=>ok.has y.1 ((p y hy).2.2 e)
 refine ⟨?_,fun y hy=>(p y hy).1,by simpa using h1,fun y hy=>(p y hy).2.1,fun y c e=>Vr scope.names [] f (fun _ _ z=>by simp at z) y c e,fun y hy=>?_,fun i hi=>?_⟩
 ·have e:=V6 scope.names [] f
  unfold closureFor XY
  refine Eq.trans (congrArg (fun m=>m >>= fun s=>(pure s:Sem (List (Str × Addr)))) e) ?_
  rw [pure_bind]
 ·refine J7 scope.names [] y (.inr ?_)
  rcases hy with hy | hy
  ·obtain ⟨k',e,z | z⟩:=jO hy
   ·subst z;exact wB e
   ·subst z;exact absurd rfl (p _ (wB e)).1
  ·obtain ⟨k',e,z | z⟩:=jO hy
   ·subst z;exact wB e
   ·subst z;exact wB e
 ·have q:=h3 i hi
  cases hy:X.N[i]? with
  | none=>rw [hy] at q;cases q
  | some y =>
   rw [hy] at q
   have q':scope.names.lookup y=some .free:=by simpa using q
   exact ⟨y,rfl,(p _ (wB q')).2.2 rfl,Z9 q'⟩
def J8 (ix:List Nat) (σ:St):St:=ix.map fun i=>(σ[i]?).getD none
def kW (ix:List Nat) (N:List Str):List Str:=ix.map fun i=>(N[i]?).getD ""
section
variable {X:Cx} {pins:List (Addr × Obj)} {σ:St} {H:Hp} {s:Shared} {scope:Scope} {cl:List (Str × Addr)} {ix:List Nat} {fp:List Addr} {C:Addr} {xs:List Str}
theorem Inv.compOk (I:Inv X pins σ H s) (S:qU X scope cl ix) (hC:C=s.heap.objs.size) (hf:∀ b∈fp,kQ X pins H b) (hl:∀ b∈fp,b < s.heap.objs.size) (N':List Str) :
  (X.comp scope cl C N' fp s H).Ok where
 mod:=I.ok.mod
 kind:=S.kind
 glob:=I.ok.glob
 blt:=I.ok.blt
 above:=mK hC.symm
 inj:=fun x y c h1 h2=>I.ok.inj x y c (S.sub x c h1) (S.sub y c h2)
 has:=fun x hx=>S.has x hx
 cab:=fun x c h1 _=>nomatch h1
 hd:=I.ok.hd
 frames:=I.ok.frames
 stk:=.inl rfl
 exf:=fun b hb=>⟨fun z=>absurd (hl b hb) (by rw [z];show ¬ C < _;rw [hC];exact fO _),fun x c h=>(hf b hb).2.2.2.2.1 x c (S.sub x c h)⟩
 bs:=I.bs
 bsz:=cf I.ok.bsz I.sz
 noex:=fun b o e hb=>by
  rcases (hf b hb).2.2.2.1 with z | z
  ·exact I.ok.noex b o e z
  ·exact absurd (cx (bS e) (cf I.ok.bsz z)) (fO _)
 exfs:=fun b hb z=>by
  rcases bN.mp (I.stkSub b z) with e | e
  ·exact (hf b hb).2.1 e
  ·exact (hf b hb).2.2.1 e
 funs:=I.stack
 frf:=I.stkFree
theorem Inv.comp {h₁:Heap} {m₁:Str→Option Value} {t':Nat} (I:Inv X pins σ H s) (S:qU X scope cl ix) (hC:C=s.heap.objs.size) (hf:∀ b∈fp,kQ X pins H b) (hl:∀ b∈fp,b < s.heap.objs.size)
  (hn:h₁.Ns C m₁) (hk:∀ b o,s.heap.get? b=some o→h₁.get? b=some o) :
  Inv (X.comp scope cl C (xs ++ kW ix X.N) fp s H) [] (bM xs.length none ++ J8 ix σ) H { s with heap:=h₁,toks:=t' } where
 ok:=I.compOk S hC hf hl _
 os:=rfl
 bare:=I.bare
 base:=Un.kept hk
 loc:=by
  refine ⟨m₁,hn,fun i y v e1 e2 e3=>?_⟩
  by_cases hi:i < xs.length
  ·rw [dm (by simpa using hi),lV,if_pos hi] at e2
   cases e2
  ·have e1':(xs ++ kW ix X.N)[i]?=some y:=e1
   rw [cW (by lia)] at e1'
   rw [cW (by rw [fC];lia),fC] at e2
   generalize i - xs.length=j at e1' e2
   unfold kW at e1'
   unfold J8 at e2
   rw [bQ] at e1' e2
   cases hj:ix[j]? with
   | none=>rw [hj] at e1';cases e1'
   | some k =>
    rw [hj] at e1' e2
    obtain ⟨y',c1,c2,c3⟩:=S.cap k (bF hj)
    have ey:y'=y:=by
     have q:(X.N[k]?).getD ""=y:=ca e1'
     rw [c1] at q
     exact q
    subst ey
    have ev:σ[k]?=some (some v):=by
     have q:(σ[k]?).getD none=some v:=ca e2
     cases hs:σ[k]? with
     | none=>rw [hs] at q;cases q
     | some o=>rw [hs] at q;exact congrArg some q
    obtain ⟨m,hm,hv⟩:=I.loc
    obtain ⟨u,r,l⟩:=hv k y' v c1 ev (c2.elim (fun z=>.inr (.inl z)) fun z=>.inr (.inr z))
    refine ⟨u,r,.inr ⟨c3,?_⟩⟩
    rcases l with ⟨l1,_⟩ | ⟨_,c,lc,⟨o,ho,hd⟩⟩
    ·rcases c2 with z | z <;> (rw [l1] at z;cases z)
    ·obtain ⟨c',hc'⟩:=S.has y' c3
     have e:=S.sub _ _ hc'
     rw [lc] at e
     cases e
     exact ⟨c,hc',o,hk _ _ ho,hd⟩
 cell:=fun x c e=>by
  obtain ⟨v,o,ho,hd⟩:=I.cell x c (S.sub x c e)
  exact ⟨v,o,hk _ _ ho,hd⟩
 free:=I.hok.fresh (mK hC.symm)
 freeC:=fun x c e=>I.freeC x c (S.sub x c e)
 pin:=fun p hp=>absurd (show p∈([]:List (Addr × Obj)) from hp) (by simp)
 hok:=I.hok.kept hk
 len:=by
  show (bM xs.length none ++ J8 ix σ).length=(xs ++ kW ix X.N).length
  rw [bw,bw,fC,J8,kW,bB,bB]
theorem Inv.uncomp {s':Shared} {σ':St} {H':Hp} {N':List Str} {h':Heap} (I:Inv X pins σ H s) (hC:C=s.heap.objs.size) (hf:∀ b∈fp,kQ X pins H b)
  (J:Inv (X.comp scope cl C N' fp s H) [] σ' H' s') (hb:cQ C s'.heap h'):Inv X pins σ H' { s' with heap:=h' }:=by
 have lt:∀ b o,s.heap.get? b=some o→b≠C:=fun b o e=>by
  rw [hC];exact cz (bS e)
 have B:Un (frs X.stack) fp H H' s.heap s'.heap:=J.base
 refine I.call' (s':={ s' with heap:=h' }) (ch:=fp) J.os ?_ ?_ J.bare ?_
 ·exact ⟨fun b o e n h1 h2=>(hb.2 b (lt b o e)).trans (B.keep b o e n h1 h2),fun b o e n h1 h2=>by
   obtain ⟨sl,q⟩:=B.slot b o e n h1 h2
   exact ⟨sl,(hb.2 b (lt b o e)).trans q⟩,B.free,fun b o e h1=>by
   obtain ⟨o',q⟩:=B.there b o e h1
   exact ⟨o',(hb.2 b (lt b o e)).trans q⟩,B.tups,B.frzs,B.tbls⟩
 ·intro b o e
  refine (J.hok b o e).stay (fun c u hc q=>(hb.2 c ?_).trans q) (fun _ q=>q) fun _ _ q=>q
  have hC0:H' C=none:=J.free
  rintro rfl
  rcases hc with rfl | hc
  ·rw [hC0] at e;cases e
  ·rw [hC0] at hc;cases hc
 ·intro b hb'
  obtain ⟨f0,f1,f2,f3,f4,f5⟩:=hf b hb'
  exact ⟨f3,f1,f4,f5⟩
end
def PTs (X:Cx) (ifs:List Expr) (t:TT):Prop :=
 ∀ (pins:List (Addr × Obj)) (s:Shared) (σ:St) (H:Hp) (Q:Bool→Hp→Prop),Inv X pins σ H s→t σ H Q →
  wpAny (model X.prog X.w) X.A (forIn ifs true fun c r=>if r=true then do let ok ← isTrue c X.env (eval c X.env);pure (fF ok) else pure (fF r)) (TP X pins σ Q) X.xe s
def ze8:TT:=fun _ H Q=>Q true H
theorem zdJ {X:Cx}:PTs X [] ze8:=fun _ _ _ H _ I h=>wpAny_tests_nil ⟨H,I,h⟩
theorem zao {X:Cx} {c:Expr} {t:TT} (h:PT X c t):PTs X [c] t:=fun pins s σ H Q I q=>wpAny_tests_one (h pins s σ H Q I q)
section
variable {prog:Program} {w:World} {A:Around} {R:Result→Shared→Prop} {s:Shared}
theorem V8 {elt target iter:Expr} {ifs:List Expr} {scope:Scope} {pos:Pos} {it acc:Value} {env:Env} (W:Nat→Shared→Prop) {EE:Value→Shared→Prop}
  (hE:∀ e s',EE e s'→notedBy (model prog w) A env (fun e s'=>R (.error e) s') e s')
  (turn:∀ n s,W n s→wpAny (model prog w) A (pyNext it) (fun r s₁=>match r with
   | none=>R (.ok .next) s₁
   | some v=>wpAny (model prog w) A (letOwnedTupleGo target it v) (fun _ t₁=>wpAny (model prog w) A (assign target env v) (fun _ s₂ =>
     wpAny (model prog w) A (forIn ifs true fun c r=>if r=true then do let ok ← isTrue c env (eval c env);pure (fF ok) else pure (fF r)) (fun ok s₃ =>
      if ok=true then wpAny (model prog w) A (eval elt env) (fun x s₄=>wpAny (model prog w) A (call (.builtin "list.append") [acc,x]) (fun _ s₅=>∃ m,m < n∧W m s₅) EE s₄) EE s₃
      else ∃ m,m < n∧W m s₃) EE s₂) EE t₁) EE s₁) EE s)
  (n:Nat) (h:W n s):codeAny (model prog w) A (.compLoop (.ListComp elt [⟨target,iter,ifs,0⟩] scope pos) 0 it acc env) R s:=by
 refine codeAny_loop rfl W (fun n s hW=>?_) n h
 show wpAny _ A ((compTurn (.ListComp elt [⟨target,iter,ifs,0⟩] scope pos) 0 it acc env).onRaise (fun x=>do noteFrame x env;theTreesLotGoes x)) _ _ s
 refine wpAny_noted (db ?_ (fun _ _ q=>q) hE)
 rw [compTurn_list]
 refine ba (wpAny_standAt (ba (thn (turn n s hW) fun r s₁ h₁=>?_)))
 cases r with
 | none=>exact bj h₁
 | some v =>
  refine ba (thn h₁ fun _ t₁ k₁=>?_)
  refine ba (thn k₁ fun _ s₂ h₂=>ba (thn h₂ fun ok s₃ h₃=>?_))
  cases ok with
  | false=>exact bj ⟨rfl,h₃⟩
  | true=>exact ba (ba (thn h₃ fun x s₄ h₄=>ba (thn h₄ fun _ s₅ h₅=>bj (bj ⟨rfl,h₅⟩))))
end
def Y3 (wi:TI) (g:TG) (tt:TT) (te:TE) (k:Nat) (ix:List Nat):TE:=fun σ H Q=>wi σ H fun J H1=>∀ D,H1 D=none →
 ∃ W:Nat→Nat→List V→St→Hp→Prop,(∃ m,W 0 m [] (bM k none ++ J8 ix σ) (upd H1 D (.lst [])))∧∀ i m ys τ H,W i m ys τ H→H D=some (.lst ys) ∧
  ((J.stop i H∧Q (.ref D) H)∨(J.go i H∧ys.length < sizeLine∧∃ N:V→St→Hp→Prop,
   (∀ v τ' H',N v τ' H'→H' D=some (.lst ys)∧∃ m',m' < m∧W (i + 1) m' (ys ++ [v]) τ' (upd H' D (.lst (ys ++ [v]))))∧∃ Nf:St→Hp→Prop,(∀ τ' H',Nf τ' H'→∃ m',m' < m∧W (i + 1) m' ys τ' H') ∧
   ∀ x H',J.yld i H x H'→g x τ H' fun τ2 H2=>tt τ2 H2 fun b H3=>if b=true then te τ2 H3 fun v H4=>N v τ2 H4 else Nf τ2 H3))
section
variable {X:Cx} {elt iter tg:Expr} {ifs:List Expr} {scope:Scope} {pos:Pos} {cl:List (Str × Addr)} {ix:List Nat} {xs:List Str} {wi:TI} {g:TG} {tt:TT} {te:TE}
theorem QA (S:qU X scope cl ix) (hc:X.calm=true) (hi:PI X tg iter wi)
  (hg:∀ C fp s H,PG (X.comp scope cl C (xs ++ kW ix X.N) fp s H) tg g) (ht:∀ C fp s H,PTs (X.comp scope cl C (xs ++ kW ix X.N) fp s H) ifs tt)
  (he:∀ C fp s H,PE (X.comp scope cl C (xs ++ kW ix X.N) fp s H) elt te)
  {pins:List (Addr × Obj)} {s:Shared} {σ:St} {H:Hp} {Q:VK} (I:Inv X pins σ H s) (h:Y3 wi g tt te xs.length ix σ H Q) {RR:Value→Addr→Result→Shared→Prop}
  (hR:∀ v u s' C,RelV v u→(∃ H',Q v H'∧(∃ m,s'.heap.Ns C m)∧(∀ h',cQ C s'.heap h'→Inv X pins σ H' { s' with heap:=h' })∧kQ X pins H' C)→RR u C (.ok .next) s') :
  wpAny (model X.prog X.w) X.A (eval iter X.env) (fun x s₁=>wpAny (model X.prog X.w) X.A (pyIter x) (fun it s₂=>wpAny (model X.prog X.w) X.A (newList []) (fun acc s₃ =>
   wpAny (model X.prog X.w) X.A (newFunctionEnv scope X.env.globals cl [] X.env.qual none .none (some X.env)) (fun cenv s₄ =>
    codeAny (model X.prog X.w) X.A (.compStart (.ListComp elt [⟨tg,iter,ifs,0⟩] scope pos) 0 it acc { cenv with scope:=relabel scope X.env }) (RR acc cenv.locals) s₄) X.xe s₃) X.xe s₂) X.xe s₁) X.xe s:=by
 refine thn (hi pins s σ H _ I h) fun v s1 h1=>thn h1 fun itv s2 h2=>?_
 obtain ⟨it,fp,tn,J,H2,e,I2,T,st2,f2,hW⟩:=h2
 subst e
 refine cY (wpAny_newFunctionEnv S.nocell (fun y hy=>nomatch hy) (fun h₁ hns₁ hsb₁=>?_) S.kind)
 dsimp only at hns₁ hsb₁ ⊢
 obtain ⟨W,⟨m0,w0⟩,turn⟩:=hW s2.heap.objs.size I2.fresh
 have I3:=I2.lnew (t':=s2.toks) (ys:=[]) (its:=[]) .nil (b9 _)
 have hl3:∀ b∈fp,b < s2.heap.objs.size:=fun b hb=>by
  obtain ⟨o,e,_⟩:=T.obj _ _ st2 b hb
  exact bS e
 generalize hs3:({ s2 with heap:=s2.heap.push { cls:=.type "list",data:=.seq ([]:List Value).toArray },toks:=s2.toks }:Shared)=s3 at I3
 have hs3h:s3.heap=s2.heap.push { cls:=.type "list",data:=.seq ([]:List Value).toArray }:=by rw [← hs3]
 have hsz:s3.heap.objs.size=s2.heap.objs.size + 1:=by rw [hs3h,gU]
 have f3:∀ b∈fp,kQ X pins (upd H2 s2.heap.objs.size (.lst [])) b:=fun b hb=>by
  obtain ⟨q0,q⟩:=f2 b hb
  exact ⟨by rw [zj (cz (hl3 b hb))];exact q0,q⟩
 have hl3':∀ b∈fp,b < s3.heap.objs.size:=fun b hb=>by rw [hsz];exact Nat.lt_succ_of_lt (hl3 b hb)
 rw [← hs3h] at hns₁ hsb₁ ⊢
 have hk:∀ b o,s3.heap.get? b=some o→h₁.get? b=some o:=fun b o e=>(hsb₁.2 b (cz (bS e))).trans (bn _ e)
 have hk2:∀ b o,s2.heap.get? b=some o→s3.heap.get? b=some o:=fun b o e=>by rw [hs3h];exact bn _ e
 have J0:=I3.comp (xs:=xs) (t':=s2.toks) (C:=s3.heap.objs.size) S rfl f3 hl3' hns₁ hk
 have st3:tn 0 h₁:=T.keep _ _ _ st2 fun b _ o e=>hk b o (hk2 b o e)
 have loop:∀ tk,codeAny (model X.prog X.w) X.A (.compLoop (.ListComp elt [⟨tg,iter,ifs,0⟩] scope pos) 0 (.ref it) (.ref s2.heap.objs.size) (compEnvC scope cl s3.heap.objs.size X.env))
   (RR (.ref s2.heap.objs.size) s3.heap.objs.size) { s3 with heap:=h₁,toks:=tk }:=by
  intro tk
  refine V8 (EE:=fun _ _=>False) (fun n s'=>∃ i ys τ H',Inv (X.comp scope cl s3.heap.objs.size (xs ++ kW ix X.N) fp s3 (upd H2 s2.heap.objs.size (.lst []))) [] τ H' s'∧tn i s'.heap∧(∀ b∈fp,H' b=none)∧W i n ys τ H')
   (fun _ _ z=>z.elim) ?_ m0 ⟨0,[],_,_,J0.tok tk,st3,fun b hb=>(f3 b hb).1,w0⟩
  rintro n s' ⟨i,ys,τ,H',I',st',fr',w'⟩
  have stat:∀ {H':Hp},(∀ b∈fp,H' b=none)→∀ b∈fp,kQ (X.comp scope cl s3.heap.objs.size (xs ++ kW ix X.N) fp s3 (upd H2 s2.heap.objs.size (.lst []))) [] H' b:=fun hn b hb =>
   ⟨hn b hb,(I'.ok.exf b hb).1,I'.ok.exfs b hb,.inl hb,(I'.ok.exf b hb).2,fun p hp=>absurd (show p∈([]:List (Addr × Obj)) from hp) (by simp)⟩
  obtain ⟨hD,⟨stop,q⟩ | ⟨go,hz,N,hN,Nf,hNf,step⟩⟩:=turn i n ys τ H' w'
  ·refine thn (T.done (X.comp scope cl s3.heap.objs.size (xs ++ kW ix X.N) fp s3 (upd H2 s2.heap.objs.size (.lst []))) rfl rfl rfl hc i [] s' τ H' _ I' (stat fr') st' stop) fun r s4 ⟨hr,I4⟩=>?_
   subst hr
   refine hR (.ref s2.heap.objs.size) _ s4 _ rfl ⟨H',q,?_,fun h' hb=>I3.uncomp rfl f3 I4 hb,I3.fpOk (bu _) I4.free⟩
   obtain ⟨m,hn,_⟩:=I4.loc
   exact ⟨m,hn⟩
  ·refine thn (T.item (X.comp scope cl s3.heap.objs.size (xs ++ kW ix X.N) fp s3 (upd H2 s2.heap.objs.size (.lst []))) rfl rfl rfl hc i [] s' τ H' _ I' (stat fr') st' go) fun r s4 ⟨u,hr,h4⟩=>?_
   subst hr
   refine thn h4 fun _ s5 ⟨x,H5,I5,r5,y5,st5,fr5⟩=>?_
   have I5':=I5.pinned (stat fr5) (T.obj _ _ st5)
   refine thn (hg _ _ _ _ _ s5 τ H5 x u _ I5' r5 (step x H5 y5)) fun _ s6 ⟨τ6,H6,I6,q6⟩=>?_
   refine thn (ht _ _ _ _ _ s6 τ6 H6 _ I6 q6) fun ok s7 ⟨H7,I7,q7⟩=>?_
   have back:∀ {s8:Shared} {H8:Hp} {m:Nat} {zs:List V},Inv (X.comp scope cl s3.heap.objs.size (xs ++ kW ix X.N) fp s3 (upd H2 s2.heap.objs.size (.lst []))) ([] ++ XQ fp s5.heap) τ6 H8 s8→W (i + 1) m zs τ6 H8 →
     ∃ i ys τ H',Inv (X.comp scope cl s3.heap.objs.size (xs ++ kW ix X.N) fp s3 (upd H2 s2.heap.objs.size (.lst []))) [] τ H' s8∧tn i s8.heap∧(∀ b∈fp,H' b=none)∧W i m ys τ H':=fun {s8 H8 m zs} I8 w8=>by
    refine ⟨i + 1,zs,τ6,H8,I8.unpinned,T.keep _ _ _ st5 fun b hb o e=>(I8.pin (b,o) (bV _ (bV _ (jK hb e)))).1,fun b hb=>?_,w8⟩
    obtain ⟨o,e,d⟩:=T.obj _ _ st5 b hb
    exact (I8.pin (b,o) (bV _ (bV _ (jK hb e)))).2.1
   cases ok with
   | false =>
    rw [if_neg bK] at q7 ⊢
    obtain ⟨m',hm,w7⟩:=hNf _ _ q7
    exact ⟨m',hm,back I7 w7⟩
   | true =>
    rw [if_pos rfl] at q7 ⊢
    refine thn (he _ _ _ _ _ s7 τ6 H7 _ I7 q7) fun y s8 ⟨v8,H8,I8,r8,n8⟩=>?_
    obtain ⟨hD8,m',hm,w8⟩:=hN _ _ _ n8
    refine thn (y9 _ s8 τ6 H8 (.ref s2.heap.objs.size) [v8] (.ref s2.heap.objs.size) [y] (fun _ Hn=>∃ m,m < n∧W (i + 1) m (ys ++ [v8]) τ6 Hn) I8 rfl (.cons r8 .nil) ⟨_,ys,v8,rfl,rfl,hD8,hz,m',hm,w8⟩) fun _ s9 ⟨_,H9,I9,_,m9,hm9,w9⟩=>?_
    exact ⟨m9,hm9,back I9 w9⟩
 have e3:∀ tk,({ s3 with heap:=h₁,toks:=tk }:Shared)={ s2 with heap:=h₁,toks:=tk }:=fun tk=>by rw [← hs3]
 have loop':∀ tk,codeAny (model X.prog X.w) X.A (.compLoop (.ListComp elt [⟨tg,iter,ifs,0⟩] scope pos) 0 (.ref it) (.ref s2.heap.objs.size) (compEnvC scope cl s3.heap.objs.size X.env))
   (RR (.ref s2.heap.objs.size) s3.heap.objs.size) { s2 with heap:=h₁,toks:=tk }:=fun tk=>by rw [← e3];exact loop tk
 exact codeAny_compStart_list (loop' _) (T.self _ 0 _ _ _ st3 (loop' _))
theorem V9 {osc:Scope} {N:List Str} (hc:X.calm=true) (hD:zb2 osc N scope ix=true) (hi:PI X tg iter wi)
  (hg:∀ C fp s H,PG (X.comp scope (XY scope X.env) C (xs ++ kW ix X.N) fp s H) tg g) (ht:∀ C fp s H,PTs (X.comp scope (XY scope X.env) C (xs ++ kW ix X.N) fp s H) ifs tt)
  (he:∀ C fp s H,PE (X.comp scope (XY scope X.env) C (xs ++ kW ix X.N) fp s H) elt te) (hsc:X.env.scope=osc:=by rfl) (hN:X.N=N:=by rfl) (hs:∀ x,foldedSetIterable iter X.env x=pure x:=by intro _;rfl) :
  PE X (.ListComp elt [⟨tg,iter,ifs,0⟩] scope pos) (Y3 wi g tt te xs.length ix):=by
 intro pins s σ H Q I h
 have S:=V7 I.ok hD hsc hN
 rw [eval_ListComp]
 refine wpAny_comprehension_free (use:=none) rfl hs S.clos S.kind S.names (QA S hc hi hg ht he I h (RR:=fun acc C=>compPost (model X.prog X.w) X.A X.xe none (EP X pins σ Q) acc C) ?_)
 rintro v u s' C r ⟨H',q,⟨m,hn⟩,hI,_⟩
 exact ⟨m,hn,fun h' hb=>⟨v,H',hI h' hb,r,q⟩⟩
end
abbrev XZ:R2:=fun x y H Q=>∃ i j,x=.str i∧y=.str j∧i.length + j.length≤sizeLine∧Q (.str (i ++ j)) H
abbrev zdK:R2:=fun x y H Q=>y=.non∧Q (.bl (decide (x=.non))) H
abbrev zap:R2:=fun x y H Q=>y=.non∧Q (.bl (!decide (x=.non))) H
abbrev RC:=List V→Hp→VK→Prop
abbrev xW (K:br):RC:=fun xs H Q=>∃ x n,xs=[x]∧Zw K x H n∧Q (.int n) H
abbrev kJ (K:br):RC:=fun xs H Q=>∃ x c t b,xs=[x,c]∧Yx K H x t∧(∃ T,c=.ty T∧iD K t (.type T)=some b)∧Q (.bl b) H
abbrev RM:=V→List V→Hp→VK→Prop
theorem zdL {H:Hp} {p:Addr} {o:HO} (h:H p=none):∃ H',H'=upd H p o∧Same H H'∧H' p=some o :=
 ⟨_,rfl,fun b u e=>by rw [zj (zB e h)];exact e,zf⟩
theorem isV (p:Addr) {H:Hp} {o:HO} (h:H p=none):Same H (upd H p o):=fun b u e=>by rw [zj (zB e h)];exact e
theorem xB:bootBuiltins "len"=some (.builtin "len"):=by decide +kernel
theorem ye:bootBuiltins "isinstance"=some (.builtin "isinstance"):=by decide +kernel
theorem qV:bootBuiltins "sorted"=some (.builtin "sorted"):=by decide +kernel
theorem ze9:bootBuiltins "str"=some (.type "str"):=by decide +kernel
theorem zb3:bootBuiltins "int"=some (.type "int"):=by decide +kernel
theorem zaq:bootBuiltins "bool"=some (.type "bool"):=by decide +kernel
theorem va:bootBuiltins "list"=some (.type "list"):=by decide +kernel
theorem kX:bootBuiltins "tuple"=some (.type "tuple"):=by decide +kernel
theorem Ya:bootBuiltins "dict"=some (.type "dict"):=by decide +kernel
section
variable {X:Cx}
def big:Int:=10 ^ 200
def zb4 (_ j:Int):Prop:=0 < j∧j < big
def CMulB (i j:Int):Prop:=(-big < i∧i < big)∧(-big < j∧j < big)
theorem X0 {j:Int} (h:j.natAbs < 10 ^ 200):j.natAbs.log2 < 700:=by
 by_cases h0:j.natAbs=0
 ·rw [h0];decide
 ·exact (Nat.log2_lt h0).mpr (cx h (by decide +kernel))
theorem Ja {j:Int} (h:-big < j∧j < big):j.natAbs < 10 ^ 200:=by
 have e:big=((10 ^ 200:Nat):Int):=by decide +kernel
 rw [e] at h
 lia
theorem CMulB.ok {i j:Int} (h:CMulB i j):IntMulOk i j:=by
 have b:∀ k:Int,(-big < k∧k < big)→iS k≤2 ^ 20:=fun k hk=>by
  have q:=X0 (Ja hk)
  unfold iS
  split <;> lia
 exact .of_bits (b i h.1) (b j h.2)
theorem wt:OpR X (binaryOp .Mult) (rI CMulB fun i j=>.int (i * j)):=opI fun _ _ _ _ _ _ _ hc q=>mul_int q hc.ok
theorem zb5:OpR X (binaryOp .FloorDiv) (rI zb4 fun i j=>.int (i / j)):=opI fun i j _ _ _ _ _ hc q=>by
 have h1:(0:Int) < j:=hc.1
 refine floordiv_int (by lia) ?_ (.inl (lO (nY (X0 (Ja ⟨by have:=hc.2;lia,hc.2⟩)) (by decide))))
 rw [Int.fdiv_eq_ediv_of_nonneg i (by lia)]
 exact q
theorem xE:kR X (.builtin "isinstance") (kJ X.K):=by
 intro pins s σ H xs us Q I r h
 obtain ⟨x,c,t,b,rfl,ty,⟨T,rfl,e⟩,q⟩:=h
 obtain ⟨u,w',rfl,r1,r2⟩:=zfO r
 cases r2
 exact zbd I r1 ty e fun tk=>⟨.bl b,H,I.tok tk,rfl,q⟩
def QB:V→Option Int→Option Int→Hp→VK→Prop:=fun x lo hi H Q=>∃ z,x=.str z∧z.length≤sizeLine∧Q (.str (fh z lo hi)) H
theorem Jb:SlR X QB:=by
 intro pins s σ H x v vl vu lo hi sl Q I rx hs pl pu h
 obtain ⟨z,rfl,hz,q⟩:=h
 obtain ⟨t,rfl⟩:=rx
 obtain ⟨o,ho,hc,hd⟩:=hs
 refine ⟨"str",_,F.slot_str_getitem.lookup,typeIs_str _ _ _,?_⟩
 obtain ⟨l,e1,e2⟩:∃ l:Option (Int × Tok),vl=partValue l∧lo=l.map (·.1):=by
  cases pl with
  | none=>exact ⟨none,rfl,rfl⟩
  | int i t=>exact ⟨some (i,t),rfl,rfl⟩
 obtain ⟨u,e3,e4⟩:∃ l:Option (Int × Tok),vu=partValue l∧hi=l.map (·.1):=by
  cases pu with
  | none=>exact ⟨none,rfl,rfl⟩
  | int i t=>exact ⟨some (i,t),rfl,rfl⟩
 subst e1 e2 e3 e4
 exact wpAny_getItem_str_slice (l:=l) (u:=u) (st:=none) ⟨o,ho,hc,hd⟩ rfl
  (post_val_or_str ⟨cf (Txt.slice_le z _ _) hz,fun t' k=>⟨.str (fh z (l.map (·.1)) (u.map (·.1))),H,I.tok k,⟨t',rfl⟩,q⟩⟩)
end
theorem ObjOk.there {P:Program} {w:World} {H:Hp} {h:Heap} {a:Addr} {o:HO} (x:ObjOk P w H h a o):∃ u,h.get? a=some u:=by
 cases o with
 | lst xs=>obtain ⟨_,_,_,_,e⟩:=x;exact ⟨_,e⟩
 | tup xs=>obtain ⟨_,_,_,o,e,_⟩:=x;exact ⟨_,e⟩
 | dK kvs=>obtain ⟨_,_,_,_,o,_,_,e,_⟩:=x;exact ⟨_,e⟩
 | dT kvs=>obtain ⟨_,_,_,_,o,_,_,e,_⟩:=x;exact ⟨_,e⟩
 | set S n=>obtain ⟨o,_,_,_,e,_⟩:=x;exact ⟨_,e⟩
 | ins C dx fs=>obtain ⟨_,_,_,e,_⟩:=x;exact ⟨_,e⟩
 | own y=>exact x
 | xd fs=>obtain ⟨_,⟨o,_,_,e,_⟩,_⟩:=x;exact ⟨_,e⟩
 | rng lo hi=>obtain ⟨_,_,_,e⟩:=x;exact ⟨_,e⟩
 | frz ob u=>obtain ⟨e,_⟩:=x;exact ⟨_,e⟩
 | tbl ps=>exact ⟨_,(show h.get? a=some _ from x)⟩
 | met f y=>exact ⟨_,(show h.get? a=some _ from x)⟩
 | ext φ=>obtain ⟨_,e,_⟩:=x;exact e
def XF (g h:Heap) (H:Hp) (e:Addr) (cls:Value):Prop :=
 ∃ oe vs a0 T oT ts,h.get? e=some oe∧(oe.cls=cls∧vs[0]?=some a0)∧oe.data=.fields vs∧vs[1]?=some (.ref T)∧T≠e∧h.get? T=some oT∧oT.data=.fields ts∧ts[3]?=some .none ∧
  g.get? e=none∧g.get? T=none∧H e=none∧H T=none
def CX1 (P:Program) (w:World):CXT:=fun outer H s E ev s'=>∃ e cls H',ev=.ref e∧s'.os=s.os∧AllBare s'.gens∧Un (frs outer) [] H H' s.heap s'.heap∧HOk P w H' s'.heap∧XF s.heap s'.heap H' e cls∧E cls none H'
theorem jr {g h:Heap} (k:∀ b o,g.get? b=some o→∃ o',h.get? b=some o') {b:Addr} (e:h.get? b=none):g.get? b=none:=by
 cases q:g.get? b with
 | none=>rfl
 | some o =>
  obtain ⟨o',z⟩:=k b o q
  rw [e] at z;cases z
theorem XF.older {g g' h:Heap} {H:Hp} {e:Addr} {cls:Value} (x:XF g h H e cls) (k:∀ b o,g'.get? b=some o→∃ o',g.get? b=some o'):XF g' h H e cls:=by
 obtain ⟨oe,vs,a0,T,oT,ts,h1,h2,h3,h4,h5,h6,h7,h8,h9,h10,h11,h12⟩:=x
 exact ⟨oe,vs,a0,T,oT,ts,h1,h2,h3,h4,h5,h6,h7,h8,jr k h9,jr k h10,h11,h12⟩
section
variable {X:Cx} {pins:List (Addr × Obj)} {σ:St} {H:Hp} {s:Shared}
theorem Inv.stackFields (J:Inv X pins σ H s) {b:Addr} (hb:b∈frs X.stack):∃ o,s.heap.get? b=some o∧∀ vs,o.data≠.fields vs:=(J.stack.mem hb).2
theorem Inv.there0 (hex:X.ex=[]) (J:Inv X pins σ H s):∀ b o,X.s₀.heap.get? b=some o→∃ o',s.heap.get? b=some o':=fun b o e=>J.base.there b o e (by rw [hex];simp)
theorem Inv.behind {h2:Heap} {cs:List Addr} (hex:X.ex=[]) (J:Inv X pins σ H s) (hcs:∀ b∈cs,H b=none∧X.s₀.heap.get? b=none)
  (hB:∀ b o,s.heap.get? b=some o→b ∉ frs X.stack→b ∉ cs→h2.get? b=some o) (hF:∀ b o,s.heap.get? b=some o→b∈frs X.stack→∃ sl,h2.get? b=some { o with slots:=sl }) :
  Un X.fs [] X.H₀ H X.s₀.heap h2∧HOk X.prog X.w H h2:=by
 have B:Un X.fs [] X.H₀ H X.s₀.heap s.heap:=by have:=J.base;rw [hex] at this;exact this
 have nL:∀ b o,X.s₀.heap.get? b=some o→b≠X.env.locals:=fun b o e=>cz (cx (bS e) J.ok.above)
 have nC:∀ b o,X.s₀.heap.get? b=some o→b ∉ cs:=fun b o e z=>by rw [(hcs b z).2] at e;cases e
 have any:∀ b o,s.heap.get? b=some o→b ∉ cs→∃ sl,h2.get? b=some { o with slots:=sl }:=fun b o e n=>by
  by_cases hb:b∈frs X.stack
  ·exact hF b o e hb
  ·exact ⟨o.slots,hB b o e hb n⟩
 refine ⟨⟨fun b o e n h1 _=>?_,fun b o e n h1 _=>?_,B.free,fun b o e h1=>?_,B.tups,B.frzs,B.tbls⟩,fun b u e=>?_⟩
 ·refine hB b o (B.keep b o e n h1 (by simp)) (fun z=>?_) (nC b o e)
  rcases bN.mp (J.stkSub b z) with q | q
  ·exact nL b o e q
  ·exact h1 q
 ·obtain ⟨sl,q⟩:=B.slot b o e n h1 (by simp)
  obtain ⟨sl',q'⟩:=any b _ q (nC b o e)
  exact ⟨sl',q'⟩
 ·obtain ⟨o',q⟩:=B.there b o e (by simp)
  obtain ⟨sl,q'⟩:=any b o' q (nC b o e)
  exact ⟨_,q'⟩
 ·refine (J.hok b u e).stay (fun c v hc q=>?_) (fun _ q=>q) fun _ _ q=>q
  have hn:H c≠none:=by
   rcases hc with rfl | hc
   ·rw [e];simp
   ·rw [hc];simp
  exact hB c v q (fun z=>hn (J.stkFree c z)) fun z=>hn (hcs c z).1
theorem Inv.flown {B h2:Heap} {cs:List Addr} {e:Addr} {cls a0:Value} (hex:X.ex=[]) (J:Inv X pins σ H s) (hcs:∀ b∈cs,H b=none∧X.s₀.heap.get? b=none)
  (hB:∀ b o,s.heap.get? b=some o→b ∉ frs X.stack→b ∉ cs→B.get? b=some o) (hF:∀ b o,s.heap.get? b=some o→b∈frs X.stack→∃ sl,h2.get? b=some { o with slots:=sl })
  (he:H e=none) (he0:X.s₀.heap.get? e=none) (kb:B.StaysIn h2) (tr:h2.TracedW B e cls a0) :
  Un X.fs [] X.H₀ H X.s₀.heap h2∧HOk X.prog X.w H h2∧XF X.s₀.heap h2 H e cls:=by
 have hk:=J.behind (h2:=h2) hex hcs (fun b o q n1 n2=>kb b o (hB b o q n1 n2)) hF
 refine ⟨hk.1,hk.2,?_⟩
 obtain ⟨oe,vs,T,oT,ts,h1,h2',h3,h4,h5,h6,h7,h8,h9⟩:=tr
 have noT:∀ o,s.heap.get? T=some o→T∈cs:=fun o q=>by
  by_cases hb:T∈frs X.stack
  ·obtain ⟨o',q',nf⟩:=J.stackFields hb
   obtain ⟨sl,z⟩:=hF T o' q' hb
   rw [h7] at z
   have z':oT={ o' with slots:=sl }:=ca z
   exact absurd (by rw [← h8,z']) (nf ts)
  ·by_cases hc:T∈cs
   ·exact hc
   ·rw [hB T o q hb hc] at h5;cases h5
 refine ⟨oe,vs,a0,T,oT,ts,h1,h2',h3,h4,h6,h7,h8,h9,he0,?_,he,?_⟩
 ·cases q:X.s₀.heap.get? T with
  | none=>rfl
  | some o =>
   obtain ⟨o',q'⟩:=J.there0 hex T o q
   rw [(hcs T (noT o' q')).2] at q;cases q
 ·cases q:H T with
  | none=>rfl
  | some u =>
   obtain ⟨o,z⟩:=(J.hok T u q).there
   rw [(hcs T (noT o z)).1] at q;cases q
theorem zbi {h':Heap} {e:Addr} {cls:Value} {vs:List Value} {E:XK} {EE:Value→Shared→Prop} (hst:X.stack=X.env :: X.outer∧X.env.frame=some X.env.locals) (hex:X.ex=[]) (J:Inv X pins σ H s) (hx:Heap.MadeExcOf s.heap h' e cls vs) (hE:E cls none H) :
  wpAny (model X.prog X.w) X.A (leaving X.env (.ref e)) (fun _ s2=>CX1 X.prog X.w X.outer X.H₀ X.s₀ E (.ref e) s2) EE { s with heap:=h' }:=by
 have fr:s.heap.FunFrames (fX s.heap (frs X.stack)) (X.env :: X.outer):=by
  have q:=ir (as:=frs X.stack) J.stack fun env he a ha=>fq.mpr ⟨env,he,ha⟩
  rw [hst.1] at q ⊢
  exact q
 refine wpAny_leaves_madeW (s:={ s with heap:=h' }) (base:=fX s.heap (frs X.stack)) (h:=s.heap) (by rw [J.ok.frames,hst.1]) hst.2 (fun b o q=>i9 _ q) fr hx fun h2 t hfl _ _ hup=>?_
 obtain ⟨f1,f2,f3,f4⟩:=hfl
 have hF:∀ b o,s.heap.get? b=some o→b∈frs X.stack→∃ sl,h2.get? b=some { o with slots:=sl }:=fun b o q hb=>by
  obtain ⟨o',q',nf⟩:=J.stackFields hb
  rw [q] at q';cases q'
  exact hup b o (hx.keeps b o q) nf
 obtain ⟨r1,r2,r3⟩:=J.flown (cs:=[]) hex (fun b z=>nomatch z) (fun b o q n _=>iC _ q n) hF
  (by
   cases q:H e with
   | none=>rfl
   | some u =>
    obtain ⟨o,z⟩:=(J.hok e u q).there
    rw [hx.new] at z;cases z)
  (jr (J.there0 hex) hx.new) f1 f4
 exact ⟨e,cls,H,rfl,J.os,J.bare,r1,r2,r3,hE⟩
theorem zb6 {e:Addr} {cls:Value} {E:XK} {EE:Value→Shared→Prop} (hst:X.stack=X.env :: X.outer∧X.env.frame=some X.env.locals) (hex:X.ex=[]) (J:Inv X pins σ H s) (xf:XF X.s₀.heap s.heap H e cls) (hE:E cls none H) :
  wpAny (model X.prog X.w) X.A (leaving X.env (.ref e)) (fun _ s2=>CX1 X.prog X.w X.outer X.H₀ X.s₀ E (.ref e) s2) EE s:=by
 obtain ⟨oe,vs,a0,T,oT,ts,h1,h2,h3,h4,h5,h6,h7,h8,h9,h10,h11,h12⟩:=id xf
 have fr:s.heap.FunFrames (fX s.heap (frs X.stack ++ [e,T])) (X.env :: X.outer):=by
  have q:=ir (as:=frs X.stack ++ [e,T]) J.stack fun env he a ha=>cZ _ (fq.mpr ⟨env,he,ha⟩)
  rw [hst.1] at q ⊢
  exact q
 refine wpAny_leaves_onW (base:=fX s.heap (frs X.stack ++ [e,T])) (a0:=a0) (by rw [J.ok.frames,hst.1]) hst.2
  ⟨fun b o q=>i9 _ q,fk _ (bV _ (by simp)),fr,oe,vs,T,oT,ts,h1,h2,h3,h4,fk _ (bV _ (by simp)),h5,h6,h7,h8⟩ fun h2' hfl hup=>?_
 obtain ⟨f1,f2,f3,f4⟩:=hfl
 have hF:∀ b o,s.heap.get? b=some o→b∈frs X.stack→∃ sl,h2'.get? b=some { o with slots:=sl }:=fun b o q hb=>by
  obtain ⟨o',q',nf⟩:=J.stackFields hb
  rw [q] at q';cases q'
  exact hup b o q nf
 obtain ⟨r1,r2,r3⟩:=J.flown (cs:=[e,T]) hex (fun b z=>by
   have z':b=e∨b=T:=by simpa using z
   rcases z' with rfl | rfl
   ·exact ⟨h11,h9⟩
   ·exact ⟨h12,h10⟩) (fun b o q n n2=>iC _ q fun z=>(bz.mp z).elim n n2) hF h11 h9 f1 f4
 exact ⟨e,cls,H,rfl,J.os,J.bare,r1,r2,r3,hE⟩
end
def zb7 (X:Cx) (E:XK):Prop:=∀ (pins:List (Addr × Obj)) (σ:St) (H:Hp) (s:Shared) (h':Heap) (e:Addr) (cls:Value) (vs:List Value),Inv X pins σ H s→Heap.MadeExcOf s.heap h' e cls vs→E cls none H→X.xe (.ref e) { s with heap:=h' }
section
variable {P:Program} {w:World} {K:br} {mg:Str→Option Value} {base:Heap} {N:List Str} {qual:Str} {scope:Scope} {f:Addr} {cd:Value} {A:Around} {outer:List Env} {s₀:Shared} {H₀:Hp} {E:XK}
theorem y6:jM (CX1 P w) (kI (CX1 P w) P w K mg base N qual scope f cd A outer s₀ H₀ E) E:=by
 intro pins σ H s ev s' I hcx
 obtain ⟨e,cls,H',rfl,os,bare,un,hok,xf,hE⟩:=hcx
 have J:=I.call' (ch:=[]) os un hok bare (fun b z=>nomatch z)
 exact zb6 (X:=kI (CX1 P w) P w K mg base N qual scope f cd A outer s₀ H₀ E) ⟨rfl,rfl⟩ rfl J (xf.older (I.there0 rfl)) hE
theorem zar:zb7 (kI (CX1 P w) P w K mg base N qual scope f cd A outer s₀ H₀ E) E:=by
 intro pins σ H s h' e cls vs I hx hE
 exact zbi (X:=kI (CX1 P w) P w K mg base N qual scope f cd A outer s₀ H₀ E) ⟨rfl,rfl⟩ rfl I hx hE
theorem zfT:PassesOwn (model P w) (kI (CX1 P w) P w K mg base N qual scope f cd A outer s₀ H₀ E).A (kI (CX1 P w) P w K mg base N qual scope f cd A outer s₀ H₀ E).env (kI (CX1 P w) P w K mg base N qual scope f cd A outer s₀ H₀ E).xe:=PassesOwn.leaving
end
abbrev J9:List Value:=[.type "ValueError",.type "Exception",.type "BaseException",.type "object"]
abbrev Yz:String:="ValueError.__new__"
def X1 (C:Addr) (ta:TA) (E:XK):TS:=fun _ σ H=>ta σ H fun vs H1=>vs.length≤sizeLine∧E (.ref C) none H1
theorem zdM {K:br} {h:Heap} {C:Addr} {bmB:List Value} {newId:String} (X:K.In h) (q:nR K C bmB newId=true) :
  ∃ bm N nm qn bs hdct sn sub ab col dd k0 k1 k2 k3 k5 mN,h.get? C=some (excClassObj nm qn C N bs bm hdct sn sub ab col dd k0 k1 k2 k3 k5 newId)∧h.Ns N mN∧mN "__init__"=none∧OwnTail h bmB bm:=by
 unfold nR at q
 split at q
 case h_2=>cases q
 rename_i dd cd sl ho
 split at q
 case h_2=>cases q
 rename_i C' bm k0 k1 k2 k3 n k5 hm hs
 rw [bX,bX,bX,bX,bX] at q
 obtain ⟨⟨⟨⟨⟨q1,q2⟩,q3⟩,q4⟩,q5⟩,q6⟩:=q
 obtain rfl:C'=C:=by simpa using q1
 obtain rfl:n=newId:=by simpa using q2
 obtain ⟨nm,bs,mro,ns,qn,hd,sn,sub,ab,col,del⟩:=cd
 have hdel:del=false:=by simpa using q3
 have hm':mro=.ref C' :: bm:=hm
 subst hdel hm'
 have hsl:sl=#[k0,k1,k2,k3,some (.builtin n),k5]:=by
  apply Array.ext'
  exact hs
 subst hsl
 exact ⟨bm,ns,nm,qn,bs,hd,sn,sub,ab,col,dd,k0,k1,k2,k3,k5,_,X _ _ ho,.of_isNs (W.isNs_of_in X q5),W.nsMap_none_of_in X q5 (by simpa using q6),W.tail_of_in X q4⟩
section
variable {X:Cx} {x:Str} {C:Addr} {np cpos pos:Pos} {e₀:Expr} {rest:List Expr} {ta:TA} {E:XK}
theorem Ka (hc:X.calm=true) (q:nR X.K C J9 Yz=true) (hr:zb7 X E) (hg:Gl X x) (hm:X.mg x=some (.ref C)) (ha:PA X (e₀ :: rest) ta)
  (he:starEach (e₀ :: rest) X.env=(false,eval e₀ X.env) :: starEach rest X.env:=by rfl) (hp:(backTo cpos (starEach rest X.env)).any (·.1)=false:=by rfl) (hd:(x == ("__debug__":Str))=false:=by decide) :
  PS X (.Raise (some (.Call (.Name x np) (e₀ :: rest) [] cpos)) none pos) (X1 C ta E):=by
 intro pins s σ H D I h
 obtain ⟨tl,N,nm,qn,bs,hdct,sn,sub,ab,col,dd,k0,k1,k2,k3,k5,mN,hC,hN,hni,T⟩:=zdM I.ok.mod.kin q
 refine wpAny_Raise_call_subT (C:=C) (nm:=nm) (q:=qn) (N:=N) (bs:=bs) (bm:=tl) (hdct:=hdct) (sn:=sn) (sub:=sub) (ab:=ab) (col:=col) (dd:=dd) (k0:=k0) (k1:=k1) (k2:=k2) (k3:=k3) (k5:=k5) (newId:=Yz)
  PySem.F.excBase_ValueError (mN:=mN) (T.hasType PySem.F.excBase_ValueError.hasBase) (I.ok.hd hc) (by rw [he];exact hp) hni (wZ I hg hm ⟨rfl,?_⟩ hd)
 have hA:=ha cpos pins s σ H _ I h
 rw [he] at hA ⊢
 refine iz (thn hA fun us s2 ⟨vs,H2,I2,r2,z2,q2⟩=>?_)
 exact ⟨rfl,by rw [← r2.length];exact z2,I2.bk _ _ hC,hN.keeps I2.bk,T.keeps I2.bk,fun h' e hm=>hr pins σ H2 s2 h' e _ _ I2 hm q2⟩
end
def Asc (x:Str):Prop:=∀ c∈x.cps.toList,c < 128
section
variable {X:Cx} {e:Expr} {te:TE} {a:Str} {j:Nat} {p1 p2 p3:Pos}
def Kb (te:TE):TE:=fun σ H Q=>te σ H fun v H1=>∃ x:Str,v=.str x∧x.length≤100000∧∀ y:Str,Q (.str y) H1
theorem zas (he:PE X e te) (hl:a.length≤1000:=by decide +kernel):PE X (.JoinedStr [.FormattedValue e (-1) none p2,.Constant (.str a) j p1] p3) (Kb te):=by
 intro pins s σ H Q I h
 refine wpAny_JoinedStr ?_
 show wpAny _ _ (eval (.FormattedValue e (-1) none p2) X.env) _ _ s
 refine wpAny_FormattedValue_plain (thn (he pins _ σ H _ I h) fun v s1 ⟨x,H1,I1,r1,z,ex,hz,q⟩=>?_)
 subst ex
 obtain ⟨t,rfl⟩:=r1
 have hs:sizeLine=16777216:=eL
 have e0:(iP ++ z).length=z.length:=by rw [lP];simp [iP,gP]
 have fin:∀ (t':Tok) (tk:Nat),∃ y u,iK z t'=iK y u∧(iP ++ y).length≤sizeLine∧Joins (model X.prog X.w) X.A X.xe (evalEach [.Constant (.str a) j p1] X.env) (iP ++ y) (fun out s₁=>out.length≤sizeLine∧EP X pins σ Q (.str out s₁.toks) { s₁ with toks:=s₁.toks + 1 }) { s1 with toks:=tk }:=fun t' tk=>by
  refine ⟨_,_,rfl,by rw [e0];lia,?_⟩
  show wpAny _ _ (eval (.Constant (.str a) j p1) X.env) _ _ _
  have hz2:(iP ++ z ++ a).length≤sizeLine:=by rw [lP,e0];lia
  refine nv ⟨a,_,rfl,hz2,hz2,.str _,H1,I1.tok _,⟨_,rfl⟩,q _⟩
 exact wpAny_formatField_str (fin _ _) (fin _ _) (by lia)
end
structure ExC (K:br) (C:Addr):Prop where
 ga:cX K (.ref C) "__getattribute__"=some (some (.builtin "BaseException.__getattribute__"))
 gx:cX K (.ref C) "__getattr__"=some none
 cl:cX K (.ref C) "__class__"=some (some (.builtin "object.__class__"))
 ob:oK K C (.type "object")=some true
 be:oK K C (.type "BaseException")=some true
 ge:ox K (.builtin "object.__class__") "__get__"=some (some (.builtin "getset_descriptor.__get__"))
 tk:W.takesIn K (.builtin "object.__class__")=some true
section
variable {X:Cx} {pins:List (Addr × Obj)} {σ:St} {H:Hp} {s:Shared}
theorem Inv.land {h2:Heap} {cs:List Addr} (hex:X.ex=[]) (I:Inv X pins σ H s) (hcs:∀ b∈cs,H b=none∧X.s₀.heap.get? b=none) (hcp:∀ b∈cs,∀ p∈X.pn ++ pins,p.1≠b)
  (hB:∀ b o,s.heap.get? b=some o→b ∉ frs X.stack→b ∉ cs→h2.get? b=some o) (sm:s.heap.UpToSlots h2):Inv X pins σ H { s with heap:=h2 }:=by
 have hF:∀ b o,s.heap.get? b=some o→b∈frs X.stack→∃ sl,h2.get? b=some { o with slots:=sl }:=fun b o q hb=>by
  obtain ⟨o',q',nf⟩:=I.stackFields hb
  rw [q] at q';cases q'
  exact sm b o q nf
 obtain ⟨r1,r2⟩:=I.behind hex hcs hB hF
 have ce:∀ c v,s.heap.IsCell c v→h2.IsCell c v:=fun c v ⟨o,ho,hd⟩=>by
  obtain ⟨sl,q⟩:=sm c o ho fun vs z=>by rw [hd] at z;cases z
  exact ⟨_,q,hd⟩
 refine ⟨I.ok,I.os,I.bare,by rw [hex];exact r1,?_,fun x c e=>?_,I.free,I.freeC,fun p hp=>?_,r2,I.len⟩
 ·obtain ⟨m,hn,hl⟩:=I.loc
  refine ⟨m,sm.ns hn,fun i x v e1 e2 e3=>?_⟩
  obtain ⟨u,r,l⟩:=hl i x v e1 e2 e3
  refine ⟨u,r,?_⟩
  rcases l with l | ⟨k,c,e,z⟩
  ·exact .inl l
  ·exact .inr ⟨k,c,e,ce c _ z⟩
 ·obtain ⟨v,z⟩:=I.cell x c e
  exact ⟨v,ce c v z⟩
 ·obtain ⟨e,n,ne,nf,d⟩:=I.pin p hp
  exact ⟨hB _ _ e (fun z=>(bN.mp (I.stkSub _ z)).elim ne nf) fun z=>hcp _ z p hp rfl,n,ne,nf,d⟩
end
abbrev Cx.sub (X:Cx) (e:Addr):Cx:={ X with A:=X.A.mark (some (.ref e)),calm:=false,xe:=fun _ _=>False }
section
variable {X:Cx} {pins:List (Addr × Obj)} {σ:St} {H:Hp} {s:Shared} {e:Addr}
theorem Inv.toSub (I:Inv X pins σ H s):Inv (X.sub e) pins σ H s :=
 ⟨⟨I.ok.mod,I.ok.kind,I.ok.glob,I.ok.blt,I.ok.above,I.ok.inj,I.ok.has,I.ok.cab,(fun z=>nomatch z),I.ok.frames,I.ok.stk,I.ok.exf,I.ok.bs,I.ok.bsz,I.ok.noex,I.ok.exfs,I.ok.funs,I.ok.frf⟩,I.os,I.bare,I.base,I.loc,I.cell,I.free,I.freeC,I.pin,I.hok,I.len⟩
theorem Inv.ofSub {J:Inv X pins σ H s} {σ':St} {H':Hp} {s':Shared} (I:Inv (X.sub e) pins σ' H' s'):Inv X pins σ' H' s' :=
 ⟨J.ok,I.os,I.bare,I.base,I.loc,I.cell,I.free,I.freeC,I.pin,I.hok,I.len⟩
end
abbrev EXK:=Value→St→Hp→Prop
def PX (X:Cx) (pins:List (Addr × Obj)) (EX:EXK):Value→Shared→Prop:=fun ev s'=>∃ e cls σ s1 H1 H',ev=.ref e∧Inv X pins σ H1 s1∧Inv X pins σ H' s'∧XF s1.heap s'.heap H' e cls∧EX cls σ H'
def PEX (X:Cx) (ex:Expr) (t:EXK→TE):Prop :=
 ∀ (pins:List (Addr × Obj)) (s:Shared) (σ:St) (H:Hp) (Q:VK) (EX:EXK),Inv X pins σ H s→t EX σ H Q→wpAny (model X.prog X.w) X.A (eval ex X.env) (EP X pins σ Q) (PX X pins EX) s
def PSX (X:Cx) (st:Stmt) (t:EXK→TS):Prop :=
 ∀ (pins:List (Addr × Obj)) (s:Shared) (σ:St) (H:Hp) (D:VS) (EX:EXK),Inv X pins σ H s→t EX D σ H→wpAny (model X.prog X.w) X.A (exec st X.env) (SP X pins D) (PX X pins EX) s
section
variable {X:Cx} {ex:Expr} {tx:EXK→TE} {pos p1:Pos} {i:Nat} {y:Str}
def zat (tx:EXK→TE) (i:Nat) (EX:EXK):TS:=fun D σ H=>tx EX σ H fun v H1=>D.nx (σ.set i (some v)) H1
theorem zau {pos':Pos} (hN:X.N.Nodup) (hi:X.N[i]?=some y) (hx:Loc X.env.scope y) (he:PEX X ex tx) (hs:swapsWith ex (some (.Name y pos')) pos.line X.env=pure false:=by rfl) (hf:X.fn y=true∨X.env.scope.names.lookup y=some .local:=by first | exact .inl rfl | exact .inr rfl | assumption) :
  PSX X (.Assign [.Name y pos'] ex pos) (zat tx i):=by
 intro pins s σ H D EX I h
 refine wpAny_Assign_Name (thn (he pins s σ H _ EX I h) fun v s1 ⟨x,H1,I1,r1,q1⟩=>?_) hs
 exact XN I1 hN hi hx r1 (fun s2 I2=>⟨_,H1,I2,q1⟩) hf
end
structure ExK (K:br) (C:Addr):Prop extends ExC K C where
 has:(W.clsIn K C).isSome=true
theorem zu {P:Program} {w:World} {X:Cx}:jM (CX1 P w) X E0:=fun _ _ _ _ _ _ _ h=>by
 obtain ⟨_,_,_,_,_,_,_,_,_,z⟩:=h
 exact z.elim
section
variable {P:Program} {w:World} {K:br} {mg:Str→Option Value} {base:Heap}
theorem Fun.ok1 {x qual:Str} {st:Stmt} {f:Addr} {fd:FuncData} {N ps:List Str} {k:Nat} {sp:Sp} (F:Fun K x qual st f fd) (S:zD N ps (zk st)) (len:∀ vs H Q E,sp vs H Q E→vs.length=ps.length)
  (hbody:∀ (cdv:Value) (A:Around) (outer:List Env) (s:Shared) (H:Hp) (vs:List V) (Q:VK) (E:XK),Room k (A.deeper (envOfC qual (zk st) s.heap.objs.size f cdv))→sp vs H Q E →
   ∃ t,PSs (kI (CX1 P w) P w K mg base N qual (zk st) f cdv A outer s H E) (yC st) t∧t { nx:=fun _ H'=>Q .non H',rt:=Q } (start N vs) H):FnOk P w K mg base (CX1 P w) (k + 1) f fd ps sp:=by
 obtain ⟨oc,od,kV,doc,pm,an,cdv,ct,osl,rfl,lk,hcd⟩:=F.ex
 exact zeE lk hcd S len fun A outer s H vs Q E hr hsp=>hbody cdv A outer s H vs Q E hr hsp
theorem Fun.ok0 {x qual:Str} {st:Stmt} {f:Addr} {fd:FuncData} {N ps:List Str} {k:Nat} {sp:Sp} (F:Fun K x qual st f fd) (S:zD N ps (zk st)) (len:∀ vs H Q E,sp vs H Q E→vs.length=ps.length)
  (hbody:∀ (cdv:Value) (A:Around) (outer:List Env) (s:Shared) (H:Hp) (vs:List V) (Q:VK) (E:XK),Room k (A.deeper (envOfC qual (zk st) s.heap.objs.size f cdv))→sp vs H Q E →
   ∃ t,PSs (kI (CX1 P w) P w K mg base N qual (zk st) f cdv A outer s H E).nox (yC st) t∧t { nx:=fun _ H'=>Q .non H',rt:=Q } (start N vs) H):FnOk P w K mg base (CX1 P w) (k + 1) f fd ps sp :=
 F.ok1 S len fun cdv A outer s H vs Q E hr h=>let ⟨t,a,b⟩:=hbody cdv A outer s H vs Q E hr h;⟨t,a.nox,b⟩
end
theorem walk_ofX {l:nD} {n k:Nat} {q:Program} {loose:List Str} {XP:(Str→Option Value)→Heap→Prop} {YP:World→Heap→Prop} {d:DefRec} {K:Params→br} {sp:br→Sp} {x:Str}
  (hn:l.most=some n) (hn2:n≤sizeLine) (hdf:d.params.defaults=[]) (hr:Room k callerA)
  (hY:∀ (w:World) (h:Heap),YP w h→(K w.params).In h)
  (F:∀ (w:World) (mg:Str→Option Value) (fa:Addr) (h:Heap),(K w.params).In h→h.Ns mainGlobals mg→mg d.name=some (.ref fa) →
   ∃ fd:FuncData,(∀ (s:Shared) (u:Value),BindsTo s fd ⟨[u],[]⟩ [(x,u)]) ∧
    ∀ base:Heap,(K w.params).In base→base.Ns mainGlobals mg→FnOk l.prog w (K w.params) mg base (CX1 l.prog w) k fa fd [x] (sp (K w.params)))
  (hsp:∀ (K:br) (H:Hp) (a:Addr) (ns:List Int),ns.length≤n→Qz H→SqL K H a (ns.map V.int)→sp K [.ref a] H (fun v _=>v=.bl true) fun _ _ _=>False) :
  oM q loose XP YP l.row.toRowW d [] (fun f vs=>lM f vs) :=
 zal (K:=K) (CX:=fun w=>CX1 l.prog w) (sp:=fun w=>sp (K w.params)) hn hn2 hdf hr hY F (fun w H a ns h1 h2 h3=>hsp (K w.params) H a ns h1 h2 h3) fun _ _ _ _ _ z=>by
  obtain ⟨_,_,_,_,_,_,_,_,_,y⟩:=z
  exact y
end L2
namespace L2
open PySem
section
variable {σ:St} {H:Hp} {nx:St→Hp→Prop} {B:V→St→Hp→(St→Hp→Prop)→Prop}
theorem ZA {lo:Int} {n:Nat} (Pv:Nat→St→Hp→Prop) (h0:Pv 0 σ H) (hs:∀ i σ H,i < n→Pv i σ H→B (.int (lo + i)) σ H (Pv (i + 1))) (hd:∀ σ H,Pv n σ H→nx σ H) :
  ∃ W:Nat→Nat→St→Hp→Prop,(∃ m,W 0 m σ H)∧∀ i m σ H,W i m σ H→((Itr lo n).stop i H∧nx σ H)∨((Itr lo n).go i H∧∃ N:St→Hp→Prop,(∀ σ' H',N σ' H'→∃ m',m' < m∧W (i + 1) m' σ' H')∧∀ x H',(Itr lo n).yld i H x H'→B x σ H' N):=by
 refine ⟨fun i m σ H=>m=n - i∧i≤n∧Pv i σ H,⟨n,by simp,b9 _,h0⟩,?_⟩
 rintro i m σ H ⟨rfl,hi,p⟩
 by_cases hlt:i < n
 ·refine .inr ⟨hlt,Pv (i + 1),fun σ' H' p'=>⟨n - (i + 1),by lia,rfl,hlt,p'⟩,?_⟩
  rintro x H' ⟨rfl,rfl⟩
  exact hs i σ _ hlt p
 ·obtain rfl:i=n:=by lia
  exact .inl ⟨bu _,hd σ H p⟩
theorem vf {K:br} {a:Addr} (xs:List V) (Pv:Nat→St→Hp→Prop) (h0:Pv 0 σ H) (hl:∀ i σ H,Pv i σ H→SqL K H a xs) (hs:∀ i x σ H,xs[i]?=some x→Pv i σ H→B x σ H (Pv (i + 1))) (hd:∀ σ H,Pv xs.length σ H→nx σ H) :
  ∃ W:Nat→Nat→St→Hp→Prop,(∃ m,W 0 m σ H)∧∀ i m σ H,W i m σ H→((Itl K a).stop i H∧nx σ H)∨((Itl K a).go i H∧∃ N:St→Hp→Prop,(∀ σ' H',N σ' H'→∃ m',m' < m∧W (i + 1) m' σ' H')∧∀ x H',(Itl K a).yld i H x H'→B x σ H' N):=by
 refine ⟨fun i m σ H=>m=xs.length - i∧i≤xs.length∧Pv i σ H,⟨xs.length,by simp,b9 _,h0⟩,?_⟩
 rintro i m σ H ⟨rfl,hi,p⟩
 have q:=hl i σ H p
 by_cases hlt:i < xs.length
 ·refine .inr ⟨⟨xs,xs[i],q,by simp [hlt]⟩,Pv (i + 1),fun σ' H' p'=>⟨xs.length - (i + 1),by lia,rfl,hlt,p'⟩,?_⟩
  rintro x H' ⟨rfl,y⟩
  exact hs i x σ _ (y xs q) p
 ·obtain rfl:i=xs.length:=by lia
  exact .inl ⟨⟨xs,q,bu _⟩,hd σ H p⟩
theorem zb8 {K:br} {a:Addr} (xs:List V) (Pv:Nat→St→Hp→Prop) (h0:Pv 0 σ H) (hl:∀ i σ H,Pv i σ H→SqT K H a xs) (hs:∀ i x σ H,xs[i]?=some x→Pv i σ H→B x σ H (Pv (i + 1))) (hd:∀ σ H,Pv xs.length σ H→nx σ H) :
  ∃ W:Nat→Nat→St→Hp→Prop,(∃ m,W 0 m σ H)∧∀ i m σ H,W i m σ H→((Itt K a).stop i H∧nx σ H)∨((Itt K a).go i H∧∃ N:St→Hp→Prop,(∀ σ' H',N σ' H'→∃ m',m' < m∧W (i + 1) m' σ' H')∧∀ x H',(Itt K a).yld i H x H'→B x σ H' N):=by
 refine ⟨fun i m σ H=>m=xs.length - i∧i≤xs.length∧Pv i σ H,⟨xs.length,by simp,b9 _,h0⟩,?_⟩
 rintro i m σ H ⟨rfl,hi,p⟩
 have q:=hl i σ H p
 by_cases hlt:i < xs.length
 ·refine .inr ⟨⟨xs,xs[i],q,by simp [hlt]⟩,Pv (i + 1),fun σ' H' p'=>⟨xs.length - (i + 1),by lia,rfl,hlt,p'⟩,?_⟩
  rintro x H' ⟨rfl,y⟩
  exact hs i x σ _ (y xs q) p
 ·obtain rfl:i=xs.length:=by lia
  exact .inl ⟨⟨xs,q,bu _⟩,hd σ H p⟩
end
theorem zb9 {J:It} {D:Addr} {τ₀:St} {H1:Hp} {Q:Hp→Prop} {B:V→St→Hp→(V→St→Hp→Prop)→(St→Hp→Prop)→Prop} (n:Nat) (hn:n≤1000000) (C:St→Prop) (R:Nat→V→Prop) (hC:C τ₀)
  (go:∀ i H,Same H1 H→i < n→J.go i H) (stop:∀ H,Same H1 H→J.stop n H) (hD:H1 D=none)
  (hs:∀ i x τ H H',C τ→Same H1 H→i < n→J.yld i H x H'→B x τ H' (fun v τ' H4=>C τ'∧R i v∧Same H H4) (fun _ _=>False))
  (hd:∀ ys H,ys.length=n→(∀ i v,ys[i]?=some v→R i v)→Same H1 H→H D=some (.lst ys)→Q H) :
  ∃ W:Nat→Nat→List V→St→Hp→Prop,(∃ m,W 0 m [] τ₀ (upd H1 D (.lst [])))∧∀ i m ys τ H,W i m ys τ H→H D=some (.lst ys) ∧
  ((J.stop i H∧Q H)∨(J.go i H∧ys.length < sizeLine∧∃ N:V→St→Hp→Prop,
   (∀ v τ' H',N v τ' H'→H' D=some (.lst ys)∧∃ m',m' < m∧W (i + 1) m' (ys ++ [v]) τ' (upd H' D (.lst (ys ++ [v]))))∧∃ Nf:St→Hp→Prop,(∀ τ' H',Nf τ' H'→∃ m',m' < m∧W (i + 1) m' ys τ' H') ∧
   ∀ x H',J.yld i H x H'→B x τ H' N Nf)):=by
 have ext:∀ {H:Hp} {o:HO},Same H1 H→Same H1 (upd H D o):=fun {H o} h b u e=>by
  rw [zj (zB e hD)];exact h b u e
 refine ⟨fun i m ys τ H=>m=n - i∧i≤n∧ys.length=i∧(∀ j v,ys[j]?=some v→R j v)∧Same H1 H∧H D=some (.lst ys)∧C τ,⟨n,by simp,b9 _,rfl,by simp,ext (Same.refl _),zf,hC⟩,?_⟩
 rintro i m ys τ H ⟨rfl,hi,hl,hR,hS,hy,hc⟩
 refine ⟨hy,?_⟩
 by_cases hlt:i < n
 ·refine .inr ⟨go i H hS hlt,bY (by lia:ys.length≤1000000) (by decide),(fun v τ' H4=>C τ'∧R i v∧Same H H4),?_,(fun _ _=>False),fun _ _ z=>z.elim,fun x H' y=>hs i x τ H H' hc hS hlt y⟩
  rintro v τ' H4 ⟨c4,r4,s4⟩
  refine ⟨s4 _ _ hy,n - (i + 1),by lia,rfl,hlt,by simp [hl],fun j u hj=>?_,ext (hS.trans s4),zf,c4⟩
  rcases Nat.lt_trichotomy j ys.length with h | h | h
  ·exact hR j u (by rwa [dm h] at hj)
  ·subst h
   simp at hj
   subst hj
   rw [hl];exact r4
  ·rw [cU (by simp;lia)] at hj;cases hj
 ·obtain rfl:i=n:=by lia
  exact .inl ⟨stop H hS,hd ys H hl hR hS hy⟩
theorem Jc (n d:Nat) (v:Int):max (0:Int) (min (if v < 0 then v + n else v) n)=((HT.sIx n d (some v):Nat):Int):=by
 show _=(((if v < 0 then (v + (n:Int)).toNat else min v.toNat n):Nat):Int)
 by_cases hv:v < 0
 ·simp only [if_pos hv];lia
 ·simp only [if_neg hv];lia
theorem zdN (a b:Nat):sliceRange (a:Int) (b:Int) 1=(dX (b - a)).map fun k=>a + k:=by
 simp only [sliceRange,show ((1:Int) > 0)=True from by simp,if_true]
 by_cases hlt:(a:Int) < b
 ·have e3:(((b:Int) - a + 1 - 1) / 1).toNat=b - a:=by rw [Int.ediv_one];lia
  simp only [hlt,if_true,e3]
  refine gr fun k _=>?_
  lia
 ·have:b - a=0:=by lia
  simp [hlt,this]
theorem zca (lo hi:Option Int) (n:Nat):iT lo hi 1 n=(dX (HT.sIx n n hi - HT.sIx n 0 lo)).map fun k=>HT.sIx n 0 lo + k:=by
 rw [← zdN]
 unfold iT
 simp only [show ((1:Int) > 0)=True from by simp,if_true]
 cases lo with
 | none =>
  cases hi with
  | none=>rfl
  | some v=>simp only [Jc n n v];rfl
 | some u =>
  cases hi with
  | none=>simp only [Jc n 0 u];rfl
  | some v=>simp only [Jc n n v,Jc n 0 u]
theorem Vs (x:Str) (lo hi:Option Int):(fh x lo hi).cps.toList=(x.cps.toList.drop (HT.sIx x.length 0 lo)).take (HT.sIx x.length x.length hi - HT.sIx x.length 0 lo):=by
 have hb:=HT.sIx_le x.length x.length (bu _) hi
 have hn:x.cps.toList.length=x.length:=by simp [gP]
 unfold fh
 rw [zca]
 split
 ·rename_i h
  have h':HT.sIx x.length x.length hi - HT.sIx x.length 0 lo=x.length:=by simpa using h
  have e0:HT.sIx x.length 0 lo=0∨x.length=0:=by lia
  rcases e0 with e0 | e0
  ·rw [e0,dq,cB]
   lia
  ·rw [fj (by lia:x.cps.toList.length=0)];simp
 ·by_cases hab:HT.sIx x.length 0 lo≤HT.sIx x.length x.length hi
  ·have h:=StrLaws.picks x.cps.toList (HT.sIx x.length x.length hi - HT.sIx x.length 0 lo) (HT.sIx x.length 0 lo) (by lia)
   simpa using h
  ·have:HT.sIx x.length x.length hi - HT.sIx x.length 0 lo=0:=by lia
   rw [this];simp
theorem X2 (x:Str) (k:Nat):(fh x (some (k:Int)) none).cps.toList=x.cps.toList.drop k:=by
 rw [Vs,HT.sIx_none,HT.sIx_nat]
 have hn:x.cps.toList.length=x.length:=by simp [gP]
 by_cases h:k≤x.length
 ·rw [gH h,cB (by rw [cR];lia)]
 ·rw [fm (by lia:x.cps.toList.length≤k),ms (by lia),fm (by lia)];simp
theorem Kc (x:Str) (k:Nat):(fh x none (some (k:Int))).cps.toList=x.cps.toList.take k:=by
 rw [Vs,HT.sIx_none,HT.sIx_nat,dq,Nat.sub_zero]
 have hn:x.cps.toList.length=x.length:=by simp [gP]
 by_cases h:k≤x.length
 ·rw [gH h]
 ·rw [ms (by lia),cB (by lia),cB (by lia)]
theorem zdO {x y:Str} (h:x.cps.toList=y.cps.toList):x=y:=by
 obtain ⟨a⟩:=x
 obtain ⟨b⟩:=y
 have:a=b:=gg.mp h
 rw [this]
theorem zdP (x y:Str):(x ++ y).cps.toList=x.cps.toList ++ y.cps.toList:=by
 show (x.cps ++ y.cps).toList=_
 simp
open PySem.NumText in
section
def zgg (w:Int):Str:=bb (toString w)
theorem XJ (x:Str):x.length=x.cps.toList.length:=by simp [gP]
def inF (c:Nat):Bool:=!(lY "0123456789" ⟨#[c]⟩ 0 (gP "0123456789") 1).isEmpty
def zfU (x:Str):Bool:=!decide (x="") && x.cps.toList.all inF
def inW (i:Int):Bool:=decide (-1000000000000000000000000000000≤i∧i≤1000000000000000000000000000000)
def zeH (x:Str):Str:=if (x.cps.toList.take 1 == [45])=true then fh x (some 1) none else x
def zcb (x:Str):Int:=(intText? x).getD 0
def zfV (x:Str):Bool:=!(decide (31 < (zeH x).length) || !zfU (zeH x)) && (inW (zcb x) && decide (zgg (zcb x)=x))
end
end L2
namespace L2
open PySem PySem.Spec PyProof.Rows
theorem qW (x y:Str):(x ++ y).length=x.length + y.length:=lP x y
def zeI (_ j:Int):Prop:=j≠0∧-big < j∧j < big
section
variable {X:Cx}
theorem zcc:OpR X (binaryOp .FloorDiv) (rI zeI fun i j=>.int (i.fdiv j)):=opI fun i j _ _ _ _ _ hc q =>
 floordiv_int hc.1 q (.inl (lO (nY (X0 (Ja hc.2)) (by decide))))
end
theorem WG {k:Nat} {A:Around} (r:Room k A):A.units + 64 < cLine:=by have:=r.un;lia
def kK:V→PyData
 | .non=>.none
 | .bl b=>.bool b
 | .int i=>.int i
 | .str x=>.str x
 | _=>.none
def yE:V→Bool
 | .non=>true
 | .bl _=>true
 | .int _=>true
 | .str x=>b6 x
 | _=>false
theorem Asc.flat {x:Str} (h:Asc x):yE (.str x)=true:=by
 unfold yE b6
 rw [Array.all_eq_true]
 intro i hi
 have:=h x.cps[i] (by simp)
 exact decide_eq_true (by lia)
def zfa:V→V→Bool
 | .bl _,.int _=>false
 | .int _,.bl _=>false
 | _,_=>true
def Jd:List V→List V→Bool
 | x :: xs,y :: ys=>zfa x y && Jd xs ys
 | _,_=>true
theorem vj:∀ {xs:List V} {us:List Value},xs.all yE=true→Vals xs us→CarriedAll us (xs.map kK)
 | [],_,_,.nil=>.nil
 | x :: r,_,h,.cons rx t=>by
  rw [fP,bX] at h
  refine .cons ?_ (vj h.2 t)
  cases x with
  | non=>cases rx;exact .none
  | bl b=>cases rx;exact .bool b
  | int i=>obtain ⟨t,rfl⟩:=rx;exact .int i t
  | str x=>obtain ⟨t,rfl⟩:=rx;exact .str x t
  | byt b=>exact absurd h.1 (by simp [yE])
  | flt b=>exact absurd h.1 (by simp [yE])
  | ref a=>exact absurd h.1 (by simp [yE])
  | ty n=>exact absurd h.1 (by simp [yE])
theorem zcd {x y:V} (hx:yE x=true) (hy:yE y=true):oz (kK x) (kK y)=decide (x=y):=by
 cases x <;> cases y <;> simp_all [yE,kK,oz] <;> (rename_i a b;by_cases e:a=b <;> simp [e])
theorem kY:∀ {xs ys:List V},xs.all yE=true→ys.all yE=true→ll (xs.map kK) (ys.map kK)=decide (xs=ys)
 | [],[],_,_=>by simp [ll]
 | [],_ :: _,_,_=>by simp [ll]
 | _ :: _,[],_,_=>by simp [ll]
 | x :: r,y :: t,hx,hy=>by
  rw [fP,bX] at hx hy
  rw [bW,bW,ll,zcd hx.1 hy.1,kY hx.2 hy.2]
  by_cases a:x=y <;> by_cases b:r=t <;> simp [a,b]
theorem zbj {x y:V} (hx:yE x=true) (hy:yE y=true) (h:zfa x y=true):m8 (kK x) (kK y)=true:=by
 cases x <;> cases y <;> simp_all [yE,kK,m8,zfa]
theorem jP:∀ {xs ys:List V},xs.all yE=true→ys.all yE=true→Jd xs ys=true→gX (xs.map kK) (ys.map kK)=true
 | [],[],_,_,_=>by simp [gX]
 | [],_ :: _,_,_,_=>by simp [gX]
 | _ :: _,[],_,_,_=>by simp [gX]
 | x :: r,y :: t,hx,hy,h=>by
  rw [fP,bX] at hx hy
  rw [Jd,bX] at h
  rw [bW,bW,gX,zbj hx.1 hy.1 h.1,jP hx.2 hy.2 h.2]
  rfl
theorem jQ {xs:List V} (h:xs.all yE=true):ii (.list (xs.map kK))=true∧ii (.tuple (xs.map kK))=true:=by
 have a:∀ x,yE x=true→(kK x).canLay0=true∧(kK x).depth=0:=fun x=>by cases x <;> simp [kK,eM,cK,yE]
 have l:∀ ys:List V,ys.all yE=true→fQ (ys.map kK)=true∧bU (ys.map kK)=0:=by
  intro ys
  induction ys with
  | nil=>exact fun _=>⟨rfl,rfl⟩
  | cons y r ih =>
   intro h
   rw [fP,bX] at h
   exact ⟨by rw [bW,fQ,(a y h.1).1,(ih h.2).1];rfl,by rw [bW,bU,(a y h.1).2,(ih h.2).2];rfl⟩
 exact ⟨by simp [ii,eM,cK,(l xs h).1,(l xs h).2],by simp [ii,eM,cK,(l xs h).1,(l xs h).2]⟩
abbrev zfW (K:br) (neg:Bool):R2:=fun x y H Q=>∃ a b xs ys,x=.ref a∧y=.ref b∧SqL K H a xs∧SqL K H b ys∧(xs.all yE=true∧ys.all yE=true∧Jd xs ys=true)∧Q (.bl (if neg then !decide (xs=ys) else decide (xs=ys))) H
section
variable {X:Cx}
theorem zfb (hu:X.A.units + 64 < cLine):OpR X (compareOp .Eq) (zfW X.K false):=by
 intro pins s σ H x y v u Q I rx ry h
 obtain ⟨a,b,xs,ys,rfl,rfl,ha,hb,⟨f1,f2,f3⟩,q⟩:=h
 cases rx
 cases ry
 obtain ⟨us,r1,p1,_⟩:=I.list ha
 obtain ⟨ws,r2,p2,_⟩:=I.list hb
 refine eq_dataH_same (lZ p1.isList (vj f1 r1)) (lZ p2.isList (vj f2 r2)) (jQ f1).1 (jQ f2).1 hu (by rw [m8];exact jP f1 f2 f3) ?_
 rw [oz,kY f1 f2]
 exact ⟨.bl _,H,I,rfl,q⟩
theorem zfc (hu:X.A.units + 64 < cLine):OpR X (compareOp .NotEq) (zfW X.K true):=by
 intro pins s σ H x y v u Q I rx ry h
 obtain ⟨a,b,xs,ys,rfl,rfl,ha,hb,⟨f1,f2,f3⟩,q⟩:=h
 cases rx
 cases ry
 obtain ⟨us,r1,p1,_⟩:=I.list ha
 obtain ⟨ws,r2,p2,_⟩:=I.list hb
 refine ne_dataH_same (lZ p1.isList (vj f1 r1)) (lZ p2.isList (vj f2 r2)) (jQ f1).1 (jQ f2).1 hu (by rw [m8];exact jP f1 f2 f3) ?_
 rw [oz,kY f1 f2]
 exact ⟨.bl _,H,I,rfl,q⟩
abbrev zce (K:br):R2:=fun x y H Q=>∃ a b xs,x=.ref a∧y=.ref b∧SqL K H a xs∧SqL K H b []∧Q (.bl (decide (xs=[]))) H
theorem zcf (hu:X.A.units + 64 < cLine):OpR X (compareOp .Eq) (zce X.K):=by
 intro pins s σ H x y v u Q I rx ry h
 obtain ⟨a,b,xs,rfl,rfl,ha,hb,q⟩:=h
 by_cases e:xs=[]
 ·subst e
  exact zfb hu pins s σ H _ _ v u Q I rx ry ⟨a,b,[],[],rfl,rfl,ha,hb,⟨rfl,rfl,rfl⟩,q⟩
 ·cases rx
  cases ry
  obtain ⟨us,r1,p1,_⟩:=I.list ha
  obtain ⟨ws,r2,p2,_⟩:=I.list hb
  cases r2
  have e1:=r1.length
  have e2:xs.length≠0:=fun z=>e (fj z)
  refine PySem.SeqAt.eq_list_lengthsAt p1.isList p2.isList (by simp;intro z;rw [z] at e1;exact e2 e1) (by lia) ?_
  rw [decide_eq_false e] at q
  exact ⟨.bl false,H,I,rfl,q⟩
end
abbrev yd:RM:=qT
abbrev js:RM:=zdF
def jw:List V:=[.str "plus",.str "minus",.str "times",.str "over",.str "rest",.str "under",.str "same"]
def isJ (v:V):Bool:=inV v jw
inductive Er where
 | nought | great | stuck
 deriving DecidableEq
def vm (w:Str) (a b:Int):Int :=
 if w="plus" then a + b else if w="minus" then a - b else if w="times" then a * b else if w="under" then (if a < b then 1 else 0) else if w="same" then (if a=b then 1 else 0) else if w="over" then a.fdiv b else a.fmod b
def Y4 (w:Str):Prop:=¬ w="plus"∧¬ w="minus"∧¬ w="times"∧¬ w="under"∧¬ w="same"
instance (w:Str):Decidable (Y4 w):=by unfold Y4;infer_instance
def wX (w:Str) (a b:Int):Except Er Int:=if Y4 w∧b=0 then .error .nought else if inW (vm w a b)=true then .ok (vm w a b) else .error .great
def QC (kvs:List (Key × V)):V→Int
 | .int i=>i
 | .str x=>(match yP kvs (.inr x) with | some (.int i)=>i | _=>0)
 | _=>0
def wc (kvs:List (Key × V)) (st:List Int) (v:V):Except Er (List Int) :=
 if isJ v=true then (match v,st.reverse with | .str w,b :: a :: r=>(match wX w a b with | .ok c=>.ok (r.reverse ++ [c]) | .error e=>.error e) | _,_=>.error .stuck) else .ok (st ++ [QC kvs v])
def wC (kvs:List (Key × V)):List V→List Int→Except Er (List Int)
 | [],st=>.ok st
 | v :: r,st=>match wc kvs st v with | .ok st'=>wC kvs r st' | .error e=>.error e
section
variable {kvs:List (Key × V)}
theorem kZ:∀ (p q:List V) (st:List Int),wC kvs (p ++ q) st=match wC kvs p st with | .ok st'=>wC kvs q st' | .error e=>.error e
 | [],q,st=>rfl
 | v :: r,q,st=>by
  show (match wc kvs st v with | .ok st'=>wC kvs (r ++ q) st' | .error e=>.error e)=match (match wc kvs st v with | .ok st'=>wC kvs r st' | .error e=>.error e) with | .ok st'=>wC kvs q st' | .error e=>.error e
  cases wc kvs st v with
  | error e=>rfl
  | ok st'=>exact kZ r q st'
def Good (kvs:List (Key × V)) (ps:List V) (r:Except Er Int):Prop:=(∀ st,wC kvs ps st=match r with | .ok i=>.ok (st ++ [i]) | .error e=>.error e)∧r≠.error .stuck
theorem zbk {v:V} (h:isJ v=false):Good kvs [v] (.ok (QC kvs v)):=by
 refine ⟨fun st=>?_,fun z=>nomatch z⟩
 unfold wC wc
 rw [h,if_neg (by decide)]
 rfl
def zeJ (w:Str) (r1 r2:Except Er Int):Except Er Int:=match r1 with | .error e=>.error e | .ok a=>match r2 with | .error e=>.error e | .ok b=>wX w a b
theorem zcg (w:Str) (a b:Int):wX w a b≠.error .stuck:=by
 unfold wX
 split
 ·exact fun z=>nomatch z
 ·split <;> exact fun z=>nomatch z
theorem zbl {w:Str} {p1 p2:List V} {r1 r2:Except Er Int} (hw:isJ (.str w)=true) (g1:Good kvs p1 r1) (g2:Good kvs p2 r2):Good kvs (p1 ++ p2 ++ [.str w]) (zeJ w r1 r2):=by
 refine ⟨fun st=>?_,?_⟩
 ·rw [kZ,kZ,g1.1]
  cases r1 with
  | error e=>rfl
  | ok a =>
   show (match wC kvs p2 (st ++ [a]) with | .ok st'=>wC kvs [.str w] st' | .error e=>.error e)=_
   rw [g2.1]
   cases r2 with
   | error e=>rfl
   | ok b =>
    show wC kvs [.str w] (st ++ [a] ++ [b])=match wX w a b with | .ok i=>.ok (st ++ [i]) | .error e=>.error e
    unfold wC wc
    rw [hw,if_pos rfl]
    simp only [nh,dY,oh,cj,cb,cg]
    cases wX w a b with
    | error e=>rfl
    | ok c=>simp [wC]
 ·unfold zeJ
  cases r1 with
  | error e=>exact g1.2
  | ok a =>
   cases r2 with
   | error e=>exact g2.2
   | ok b=>exact zcg w a b
theorem zav {ps:List V} {i:Nat} {st:List Int} {e:Er} (h:wC kvs (ps.take i) st=.error e):wC kvs ps st=.error e:=by
 have:=kZ (kvs:=kvs) (ps.take i) (ps.drop i) st
 rw [dO,h] at this
 exact this
theorem zdQ {ps:List V} {i:Nat} {st st0:List Int} {v:V} (h:wC kvs (ps.take i) st0=.ok st) (hv:ps[i]?=some v):wC kvs (ps.take (i + 1)) st0=wc kvs st v:=by
 rw [dL,hv]
 show wC kvs (ps.take i ++ [v]) st0=_
 rw [kZ,h]
 show (match wc kvs st v with | .ok st'=>wC kvs [] st' | .error e=>.error e)=_
 cases wc kvs st v <;> rfl
end
def jR (v:V):Prop:=(∃ i,v=.int i∧inW i=true)∨∃ x:Str,v=.str x∧x.length≤1000
def yo (kvs:List (Key × V)):Prop:=∀ k v,yP kvs k=some v→∃ i,v=.int i∧inW i=true
theorem Kd {kvs:List (Key × V)} (h:yo kvs) {v:V} (hv:jR v):inW (QC kvs v)=true:=by
 rcases hv with ⟨i,rfl,hi⟩ | ⟨x,rfl,_⟩
 ·exact hi
 ·show inW (match yP kvs (.inr x) with | some (.int i)=>i | _=>0)=true
  cases e:yP kvs (.inr x) with
  | none=>rfl
  | some u =>
   obtain ⟨i,rfl,hi⟩:=h _ _ e
   exact hi
theorem inW_iff {i:Int}:inW i=true↔-1000000000000000000000000000000≤i∧i≤1000000000000000000000000000000:=by unfold inW;rw [decide_eq_true_eq]
theorem Je {i:Int} (h:inW i=true):-big < i∧i < big:=by
 have:=inW_iff.mp h
 have hb:(1000000000000000000000000000001:Int) < big:=by decide +kernel
 lia
abbrev Ke (K:br):RC:=fun xs H Q=>∃ p ys,xs=[.ref p]∧(SqL K H p ys∨SqT K H p ys)∧∀ l,H l=none→Q (.ref l) (upd H l (.lst ys))
def inL (c:Nat):Bool:=!(lY "abcdefghijklmnopqrstuvwxyz" ⟨#[c]⟩ 0 (gP "abcdefghijklmnopqrstuvwxyz") 1).isEmpty
def wl:List V:=[.str "take",.str "give",.str "let",.str "say",.str "off",.str "if",.str "else",.str "end",.str "as"]
def xC (x:Str):Bool:=!(decide (x="") || decide (6 < x.length)) && !(inV (.str x) jw || inV (.str x) wl) && x.cps.toList.all inL
theorem zdR (c:Nat):inL c=true→97≤c∧c≤122:=by
 unfold inL
 rw [StrLaws.found_one]
 have e:(bb "abcdefghijklmnopqrstuvwxyz").cps.toList=[97,98,99,100,101,102,103,104,105,106,107,108,109,110,111,112,113,114,115,116,117,118,119,120,121,122]:=by decide +kernel
 rw [e]
 simp only [decide_eq_true_eq,bN,gh,or_false]
 omega
theorem Yb {x:Str} (h:xC x=true):x.cps.toList≠[]∧x.length≤6∧isJ (.str x)=false∧x.cps.toList.all inL=true:=by
 unfold xC at h
 rw [bX,bX,b7,b7,iA,iA,decide_eq_false_iff_not,decide_eq_false_iff_not] at h
 refine ⟨fun z=>h.1.1.1 (zdO (by rw [z];decide +kernel)),by lia,h.1.2.1,h.2⟩
def zch (w:Str):Option V:=if xC w=true then some (.str w) else if zfV w=true then some (.int (zcb w)) else none
inductive Tw where
 | leaf (w:Str) | node (w:Str) (a b:Tw)
def pre:Tw→List Str
 | .leaf w=>[w]
 | .node w a b=>w :: (pre a ++ pre b)
def wfT:Tw→Prop
 | .leaf w=>isJ (.str w)=false
 | .node w a b=>isJ (.str w)=true∧wfT a∧wfT b
def okT:Tw→Bool
 | .leaf w=>(zch w).isSome
 | .node _ a b=>okT a && okT b
def pvw (w:Str):V:=(zch w).getD (.str w)
def pst:Tw→List V
 | .leaf w=>[pvw w]
 | .node w a b=>pst a ++ pst b ++ [.str w]
def zfX:List Str→Nat→Option Nat
 | _,0=>some 0
 | [],_ + 1=>none
 | w :: r,d + 1=>(zfX r (if isJ (.str w)=true then d + 2 else d)).map (· + 1)
def xz (st:List (List V)) (w:Str):Except Bool (List (List V)) :=
 if isJ (.str w)=true then (match st.reverse with | a :: b :: r=>.ok (r.reverse ++ [a ++ b ++ [.str w]]) | _=>.error false) else (match zch w with | some v=>.ok (st ++ [[v]]) | none=>.error true)
def QD:List Str→List (List V)→Except Bool (List (List V))
 | [],st=>.ok st
 | w :: r,st=>match xz st w with | .ok st'=>QD r st' | .error e=>.error e
theorem zci:∀ (p q:List Str) (st:List (List V)),QD (p ++ q) st=match QD p st with | .ok st'=>QD q st' | .error e=>.error e
 | [],q,st=>rfl
 | v :: r,q,st=>by
  show (match xz st v with | .ok st'=>QD (r ++ q) st' | .error e=>.error e)=match (match xz st v with | .ok st'=>QD r st' | .error e=>.error e) with | .ok st'=>QD q st' | .error e=>.error e
  cases xz st v with
  | error e=>rfl
  | ok st'=>exact zci r q st'
theorem QE {c:Const} {j:Nat} {p:Pos} {es:List Expr} {env:Env}:starEach (.Constant c j p :: es) env=(false,eval (.Constant c j p) env) :: starEach es env:=by
 first | rfl | simp only [starEach]
theorem v6 {X:Cx} {es:List Expr} {t:TA} {x:Str} {j:Nat} {p:Pos} (hr:PA X es t):PA X (.Constant (.str x) j p :: es) (zb (tC (.str x)) t):=za zL hr QE
theorem zcj {x:Str} (h:xC x=true):Asc x:=fun c hc=>by
 have:=zdR c (dE.mp (Yb h).2.2.2 c hc)
 lia
theorem Inv.turnedL {X:Cx} {pins:List (Addr × Obj)} {σ:St} {H:Hp} {s:Shared} {h':Heap} {t':Nat} {ch:List Addr} (I:Inv X pins σ H s) (k:∀ b o,b ∉ ch→s.heap.get? b=some o→h'.get? b=some o) (hf:∀ b∈ch,kQ X pins H b) :
  Inv X pins σ H { s with heap:=h',toks:=t' }:=by
 have nit:∀ b u,H b=some u→b ∉ ch:=fun b u e z=>by rw [(hf b z).1] at e;cases e
 refine I.step (g':=s.gens) (d':=s.drawn) (ch:=ch) (fun b hb=>?_) (fun b o _ _ hc e _=>k b o hc e) (fun b o _ _ hc e _=>⟨o.slots,k b o hc e⟩) (fun _ _ _ _ n=>n) (fun b o hc e=>⟨o,k b o hc e⟩) (fun _ _ e=>e) (fun _ _ _ e=>e) (fun b ps e=>⟨#[],by rw [e];simp⟩) (fun m hm=>?_) (fun b u e=>?_) I.bare
 ·obtain ⟨f0,f1,f2,f3,f4,f5⟩:=hf b hb
  exact ⟨f3,f1,f4,f5⟩
 ·obtain ⟨o,es,ep,ho,r⟩:=hm
  exact ⟨o,es,ep,k _ o (fun z=>(hf _ z).2.1 rfl) ho,r⟩
 ·refine (I.hok b u e).stay (fun c v hc q=>k c v ?_ q) (fun _ q=>q) fun _ _ q=>q
  rcases hc with z | z
  ·rw [z];exact nit b u e
  ·exact nit c _ z
abbrev zdS (K:br):RC:=fun xs H Q=>∃ p ys,xs=[.ref p]∧((SqL K H p ys∧∀ l,H l=none→Q (.ref l) (upd H l (.tup ys)))∨(SqT K H p ys∧Q (.ref p) H))
def zaw (st:List (List V)) (v:V):Option (List (List V)):=if isJ v=true then (match st.reverse with | b :: a :: r=>some (r.reverse ++ [v :: (a ++ b)]) | _=>none) else some (st ++ [[v]])
def QH:List V→List (List V)→Option (List (List V))
 | [],st=>some st
 | v :: r,st=>(zaw st v).bind (QH r)
theorem zck:∀ (p q:List V) (st:List (List V)),QH (p ++ q) st=(QH p st).bind (QH q)
 | [],q,st=>rfl
 | v :: r,q,st=>by
  show (zaw st v).bind (QH (r ++ q))=((zaw st v).bind (QH r)).bind (QH q)
  cases zaw st v with
  | none=>rfl
  | some st'=>exact zck r q st'
end L2
namespace L2
open PySem PySem.W PyProof.Rows
section
variable {α β:Type} {lt:Nat→Nat→Bool} {n:Nat}
def kOk (lt:Nat→Nat→Bool) (n:Nat):KasT α→(α→Prop)→Prop
 | .ret a,R=>R a
 | .ask i j k,R=>i < n∧j < n∧i≠j∧kOk lt n (k (lt i j)) R
theorem zcl:∀ {t:KasT α} {f:α→KasT β} {R:β→Prop},kOk lt n t (fun a=>kOk lt n (f a) R)→kOk lt n (t.bind f) R
 | .ret _,_,_,h=>h
 | .ask _ _ _,_,_,h=>⟨h.1,h.2.1,h.2.2.1,zcl h.2.2.2⟩
theorem zcm:∀ {t:KasT α} {R R':α→Prop},kOk lt n t R→(∀ a,R a→R' a)→kOk lt n t R'
 | .ret _,_,_,h,m=>m _ h
 | .ask _ _ _,_,_,h,m=>⟨h.1,h.2.1,h.2.2.1,zcm h.2.2.2 m⟩
structure SO (lt:Nat→Nat→Bool) (n:Nat):Prop where
 irr:∀ i,i < n→lt i i=false
 trans:∀ i j k,i < n→j < n→k < n→lt i j=true→lt j k=true→lt i k=true
 tot:∀ i j,i < n→j < n→i≠j→lt i j=false→lt j i=true
def PP (n:Nat) (p:Array Nat):Prop:=p.Perm (dX n).toArray
def gt (p:Array Nat) (k:Nat):Nat:=p.getD k 0
theorem wD {p:Array Nat} {k:Nat} (h:k < p.size):p[k]?=some (gt p k):=by
 unfold gt
 rw [iU,cw h]
 rfl
theorem PP.size {p:Array Nat} (h:PP n p):p.size=n:=by
 have:=h.size_eq
 simpa using this
theorem PP.blt {p:Array Nat} (h:PP n p) {k:Nat} (hk:k < n):gt p k < n:=by
 have hs:=h.size
 have m:gt p k∈p:=Array.mem_of_getElem? (wD (by lia))
 have m2:gt p k∈(dX n).toArray:=(nE h).mp m
 simpa using m2
theorem PP.inj {p:Array Nat} (h:PP n p) {i j:Nat} (hi:i < n) (hj:j < n) (e:gt p i=gt p j):i=j:=by
 have hs:=h.size
 have nd:p.toList.Nodup:=by
  have:p.toList.Perm (dX n):=by
   have:=fU.mp h
   simpa using this
  exact this.nodup_iff.mpr List.nodup_range
 have e1:=wD (p:=p) (k:=i) (by lia)
 have e2:=wD (p:=p) (k:=j) (by lia)
 rw [← e] at e2
 have e1':p.toList[i]?=some (gt p i):=by simpa using e1
 have e2':p.toList[j]?=some (gt p i):=by simpa using e2
 obtain ⟨a1,b1⟩:=bp.mp e1'
 obtain ⟨a2,b2⟩:=bp.mp e2'
 exact (ip nd).mp (b1.trans b2.symm)
def X3 (lt:Nat→Nat→Bool) (p:Array Nat) (m:Nat):Prop:=∀ i j,i < j→j < m→lt (gt p i) (gt p j)=true
theorem Kf (S:SO lt n) {p:Array Nat} (hp:PP n p) {k:Nat} (hk:k < n) (hr:X3 lt p k):∀ (f l r:Nat),l≤r→r≤k→r - l≤f→(∀ i,i < l→lt (gt p i) (gt p k)=true)→(∀ i,r≤i→i < k→lt (gt p k) (gt p i)=true) →
  kOk lt n (kas_place p k f l r) fun m=>m≤k∧(∀ i,i < m→lt (gt p i) (gt p k)=true)∧∀ i,m≤i→i < k→lt (gt p k) (gt p i)=true
 | 0,l,r,h1,h2,h3,h4,h5=>⟨by lia,h4,fun i hi hik=>h5 i (by lia) hik⟩
 | f + 1,l,r,h1,h2,h3,h4,h5=>by
  unfold kas_place
  by_cases c:l ≥ r
  ·rw [if_pos c]
   exact ⟨by lia,h4,fun i hi hik=>h5 i (by lia) hik⟩
  ·rw [if_neg c]
   refine ⟨hp.blt (by lia),hp.blt (by lia),(fun z=>by have:=hp.inj (by lia) (by lia) z;lia),?_⟩
   show kOk lt n (if lt (gt p k) (gt p ((l + r) / 2))=true then _ else _) _
   by_cases d:lt (gt p k) (gt p ((l + r) / 2))=true
   ·rw [if_pos d]
    refine Kf S hp hk hr f l ((l + r) / 2) (by lia) (by lia) (by lia) h4 fun i hi hik=>?_
    by_cases e:i=(l + r) / 2
    ·rw [e];exact d
    ·exact S.trans _ _ _ (hp.blt (by lia)) (hp.blt (by lia)) (hp.blt (by lia)) d (hr _ i (by lia) hik)
   ·rw [if_neg d]
    have up:lt (gt p ((l + r) / 2)) (gt p k)=true:=S.tot _ _ (hp.blt (by lia)) (hp.blt (by lia)) (fun z=>by have:=hp.inj (by lia) (by lia) z;lia) (Bool.eq_false_iff.mpr d)
    refine Kf S hp hk hr f ((l + r) / 2 + 1) r (by lia) (by lia) (by lia) (fun i hi=>?_) h5
    by_cases e:i=(l + r) / 2
    ·rw [e];exact up
    ·exact S.trans _ _ _ (hp.blt (by lia)) (hp.blt (by lia)) (hp.blt (by lia)) (hr i _ (by lia) (by lia)) up
theorem zfd {p:Array Nat} {k d j:Nat} (hk:k < p.size) (hd:d≤k) (hj:j < p.size):gt (bubble p k d) j=if j=k - d then gt p k else if k - d < j∧j≤k then gt p (j - 1) else gt p j:=by
 have e:=getElem?_bubble hk d hd j
 rw [wD (p:=bubble p k d) (k:=j) (by rw [bubble_size];exact hj)] at e
 by_cases h1:j=k - d
 ·rw [if_pos h1,wD hk] at e
  rw [if_pos h1];exact ca e
 ·rw [if_neg h1] at e ⊢
  by_cases h2:k - d < j∧j≤k
  ·rw [if_pos h2,wD (by lia)] at e
   rw [if_pos h2];exact ca e
  ·rw [if_neg h2,wD hj] at e
   rw [if_neg h2];exact ca e
end
abbrev SMZ:=StateT SortSt Sem
def jt:Bool→Keyed→Array Keyed→Nat→Nat→Nat→SMZ (Option Nat):=sortPriv% PySem.Builtin.gallop
def zbm:Array Keyed→Array Keyed→SMZ (Array Keyed):=sortPriv% PySem.Builtin.mergeLo
def zbn:Array Keyed→Array Keyed→SMZ (Array Keyed):=sortPriv% PySem.Builtin.mergeHi
def zax (g:Nat):SMZ Unit:=(sortPriv% PySem.Builtin.setMinGallop) g
def zay (left:Bool) (key:Keyed) (arr:Array Keyed) (base:Nat) (i:Nat):SMZ (Option Bool):=do
 let x ← elem' arr (base + i)
 if left then lt' x key else return (← lt' key x).map (!·)
def gBZ (bf:Nat→SMZ (Option Bool)) (n lo hi:Nat):SMZ (Option (Option Nat) × Nat × Nat) :=
 forIn [:n] (none,lo,hi) fun _ z=>if z.2.1 ≥ z.2.2 then pure (.done (none,z.2.1,z.2.2)) else do
  match ← bf (z.2.1 + (z.2.2 - z.2.1) / 2) with
  | some m=>if m=true then pure (.yield (none,z.2.1 + (z.2.2 - z.2.1) / 2 + 1,z.2.2)) else pure (.yield (none,z.2.1,z.2.1 + (z.2.2 - z.2.1) / 2))
  | _=>pure (.done (some none,z.2.1,z.2.2))
def gEZ (bf:Nat→SMZ (Option Bool)) (n lo hi:Nat):SMZ (Option Nat):=do
 let z ← gBZ bf n lo hi
 match z.1 with
 | some r=>pure r
 | none=>pure (some z.2.2)
def gRZ (bf:Nat→SMZ (Option Bool)) (n hint mx:Nat):SMZ (Option (Option Nat) × Nat × Nat) :=
 forIn [:n] (none,0,1) fun _ z=>if z.2.2 ≥ mx then pure (.done (none,z.2.1,z.2.2)) else do
  match ← bf (hint + z.2.2) with
  | some m=>if (!m)=true then pure (.done (none,z.2.1,z.2.2)) else pure (.yield (none,z.2.2,2 * z.2.2 + 1))
  | _=>pure (.done (some none,z.2.1,z.2.2))
def gLZ (bf:Nat→SMZ (Option Bool)) (n hint mx:Nat):SMZ (Option (Option Nat) × Nat × Nat) :=
 forIn [:n] (none,0,1) fun _ z=>if z.2.2 ≥ mx then pure (.done (none,z.2.1,z.2.2)) else do
  match ← bf (hint - z.2.2) with
  | some m=>if m=true then pure (.done (none,z.2.1,z.2.2)) else pure (.yield (none,z.2.2,2 * z.2.2 + 1))
  | _=>pure (.done (some none,z.2.1,z.2.2))
def zaz (bf:Nat→SMZ (Option Bool)) (n hint:Nat):SMZ (Option Nat):=do
 match ← bf hint with
 | some r=>if r=true then (do
   let z ← gRZ bf n hint (n - hint)
   match z.1 with
   | some r=>pure r
   | none=>gEZ bf n (hint + z.2.1 + 1) (hint + min z.2.2 (n - hint))) else (do
   let z ← gLZ bf n hint (hint + 1)
   match z.1 with
   | some r=>pure r
   | none=>gEZ bf n (hint + 1 - min z.2.2 (hint + 1)) (hint - z.2.1))
 | _=>pure none
theorem Kg (left:Bool) (key:Keyed) (arr:Array Keyed) (base n hint:Nat):jt left key arr base n hint=zaz (zay left key arr base) n hint:=by
 have tl:∀ (lo hi:Nat) (f:Option (Option Nat) × Nat × Nat→SMZ (Option Nat)),(∀ z,f z=match z.1 with | some r=>pure r | none=>pure (some z.2.2))→(gBZ (zay left key arr base) n lo hi >>= f)=gEZ (zay left key arr base) n lo hi:=fun lo hi f h=>by
  unfold gEZ
  congr 1
  exact funext h
 unfold zaz
 show bind _ _=bind _ _
 congr 1
 funext z
 cases z with
 | none=>rfl
 | some r =>
  show ite _ _ _=ite _ _ _
  congr 1
  ·show bind _ _=bind _ _
   congr 1
   funext z
   obtain ⟨z1,z2,z3⟩:=z
   cases z1 with
   | some r=>rfl
   | none =>
    refine tl _ _ _ fun z=>?_
    obtain ⟨z1,z2,z3⟩:=z
    cases z1 <;> rfl
  ·show bind _ _=bind _ _
   congr 1
   funext z
   obtain ⟨z1,z2,z3⟩:=z
   cases z1 with
   | some r=>rfl
   | none =>
    refine tl _ _ _ fun z=>?_
    obtain ⟨z1,z2,z3⟩:=z
    cases z1 <;> rfl
section
variable {prog:Program} {w:World} {A:Around} {E:Value→Shared→Prop} {s:Shared}
def zeK (M:Model) (A:Around) (E:Value→Shared→Prop) (s:Shared) (st:SortSt) (bf:Nat→SMZ (Option Bool)) (b:Nat→Bool) (n:Nat):Prop:=∀ i,i < n→∀ Q:Option Bool→SortSt→Prop,Q (some (b i)) st→wpS M A E s (bf i) Q st
structure zfe (b:Nat→Bool) (n k:Nat):Prop where
 le:k≤n
 lo:∀ i,i < k→b i=true
 hi:∀ i,k≤i→i < n→b i=false
variable {M:Model} {st:SortSt} {bf:Nat→SMZ (Option Bool)} {b:Nat→Bool} {n:Nat}
theorem zaA {lo hi:Nat} {Q:Option Nat→SortSt→Prop} (ha:zeK M A E s st bf b n) (mono:∀ i j,i≤j→j < n→b j=true→b i=true) (h1:lo≤hi) (h2:hi≤n) (hl:∀ i,i < lo→b i=true) (hh:∀ i,hi≤i→i < n→b i=false) (q:∀ k,zfe b n k→Q (some k) st) :
  wpS M A E s (gEZ bf n lo hi) Q st:=by
 unfold gEZ
 refine bG (dR (show wpS M A E s (gBZ bf n lo hi) (fun z st'=>st=st'∧z.1=none∧zfe b n z.2.2) st from ?_) ?_)
 ·unfold gBZ
  refine c8 (fun x z st'=>st=st'∧z.1=none∧z.2.1≤z.2.2∧z.2.2≤n∧(∀ i,i < z.2.1→b i=true)∧(∀ i,z.2.2≤i→i < n→b i=false)∧z.2.2 - z.2.1≤n - x) ?_ ?_ ⟨rfl,rfl,h1,h2,hl,hh,by dsimp only;lia⟩
  ·rintro x ⟨r,l,h⟩ st' _ hx ⟨rfl,rfl,a1,a2,a3,a4,a5⟩
   dsimp only at *
   by_cases c:l ≥ h
   ·rw [if_pos c]
    exact bR ⟨rfl,rfl,a2,fun i hi=>a3 i (by dsimp only at hi;lia),a4⟩
   ·rw [if_neg c]
    refine bG (ha _ (by lia) _ ?_)
    dsimp only
    cases e:b (l + (h - l) / 2) with
    | true =>
     rw [if_pos rfl]
     refine bR ⟨rfl,rfl,by dsimp only;lia,a2,fun i hi=>?_,a4,by dsimp only;lia⟩
     dsimp only at hi
     exact mono i _ (by lia) (by lia) e
    | false =>
     rw [if_neg (by decide)]
     refine bR ⟨rfl,rfl,by dsimp only;lia,by dsimp only;lia,a3,fun i h1 h2=>?_,by dsimp only;lia⟩
     dsimp only at h1
     cases e2:b i with
     | false=>rfl
     | true=>rw [mono _ i h1 h2 e2] at e;cases e
  ·rintro ⟨r,l,h⟩ st' ⟨rfl,rfl,a1,a2,a3,a4,a5⟩
   dsimp only at *
   have:max 0 n=n:=by lia
   exact ⟨rfl,rfl,a2,fun i hi=>a3 i (by lia),a4⟩
 ·rintro ⟨r,l,h⟩ st' ⟨rfl,rfl,c⟩
  exact bR (q _ c)
theorem zbo {hint:Nat} {Q:Option Nat→SortSt→Prop} (ha:zeK M A E s st bf b n) (mono:∀ i j,i≤j→j < n→b j=true→b i=true) (hn:hint < n) (q:∀ k,zfe b n k→Q (some k) st) :
  wpS M A E s (zaz bf n hint) Q st:=by
 unfold zaz
 refine bG (ha _ hn _ ?_)
 dsimp only
 cases e:b hint with
 | true =>
  rw [if_pos rfl]
  refine bG (dR (show wpS M A E s (gRZ bf n hint (n - hint)) (fun z st'=>st=st'∧z.1=none∧hint + z.2.1 < n∧b (hint + z.2.1)=true∧z.2.1 < z.2.2∧(z.2.2 < n - hint→b (hint + z.2.2)=false)) st from ?_) ?_)
  ·unfold gRZ
   refine c8 (fun x z st'=>st=st'∧z.1=none∧hint + z.2.1 < n∧b (hint + z.2.1)=true∧z.2.1 < z.2.2∧x < z.2.2) ?_ ?_ ⟨rfl,rfl,hn,by simpa using e,by dsimp only;lia,by dsimp only;lia⟩
   ·rintro x ⟨r,l,o⟩ st' _ hx ⟨rfl,rfl,a1,a2,a3,a4⟩
    dsimp only at *
    by_cases c:o ≥ n - hint
    ·rw [if_pos c]
     exact bR ⟨rfl,rfl,a1,a2,a3,fun z=>by dsimp only at z;lia⟩
    ·rw [if_neg c]
     refine bG (ha _ (by lia) _ ?_)
     dsimp only
     cases e2:b (hint + o) with
     | true =>
      rw [if_neg (by decide)]
      exact bR ⟨rfl,rfl,by dsimp only;lia,e2,by dsimp only;lia,by dsimp only;lia⟩
     | false =>
      rw [if_pos (by decide)]
      exact bR ⟨rfl,rfl,a1,a2,a3,fun _=>e2⟩
   ·rintro ⟨r,l,o⟩ st' ⟨rfl,rfl,a1,a2,a3,a4⟩
    dsimp only at *
    exact ⟨rfl,rfl,a1,a2,a3,fun z=>by lia⟩
  ·rintro ⟨r,l,o⟩ st' ⟨rfl,rfl,a1,a2,a3,a4⟩
   dsimp only at *
   refine zaA ha mono (by lia) (by lia) (fun i hi=>mono i _ (by lia) a1 a2) (fun i h1 h2=>?_) q
   have f:=a4 (by lia)
   cases e2:b i with
   | false=>rfl
   | true=>rw [mono (hint + o) i (by lia) h2 e2] at f;cases f
 | false =>
  rw [if_neg (by decide)]
  refine bG (dR (show wpS M A E s (gLZ bf n hint (hint + 1)) (fun z st'=>st=st'∧z.1=none∧z.2.1≤hint∧b (hint - z.2.1)=false∧z.2.1 < z.2.2∧(z.2.2 < hint + 1→b (hint - z.2.2)=true)) st from ?_) ?_)
  ·unfold gLZ
   refine c8 (fun x z st'=>st=st'∧z.1=none∧z.2.1≤hint∧b (hint - z.2.1)=false∧z.2.1 < z.2.2∧x < z.2.2) ?_ ?_ ⟨rfl,rfl,by dsimp only;lia,by simpa using e,by dsimp only;lia,by dsimp only;lia⟩
   ·rintro x ⟨r,l,o⟩ st' _ hx ⟨rfl,rfl,a1,a2,a3,a4⟩
    dsimp only at *
    by_cases c:o ≥ hint + 1
    ·rw [if_pos c]
     exact bR ⟨rfl,rfl,a1,a2,a3,fun z=>by dsimp only at z;lia⟩
    ·rw [if_neg c]
     refine bG (ha _ (by lia) _ ?_)
     dsimp only
     cases e2:b (hint - o) with
     | false =>
      rw [if_neg (by decide)]
      exact bR ⟨rfl,rfl,by dsimp only;lia,e2,by dsimp only;lia,by dsimp only;lia⟩
     | true =>
      rw [if_pos rfl]
      exact bR ⟨rfl,rfl,a1,a2,a3,fun _=>e2⟩
   ·rintro ⟨r,l,o⟩ st' ⟨rfl,rfl,a1,a2,a3,a4⟩
    dsimp only at *
    exact ⟨rfl,rfl,a1,a2,a3,fun z=>by lia⟩
  ·rintro ⟨r,l,o⟩ st' ⟨rfl,rfl,a1,a2,a3,a4⟩
   dsimp only at *
   refine zaA ha mono (by lia) (by lia) (fun i hi=>?_) (fun i h1 h2=>?_) q
   ·by_cases c:o < hint + 1
    ·exact mono i _ (by lia) (by lia) (a4 c)
    ·lia
   ·cases e2:b i with
    | false=>rfl
    | true=>rw [mono (hint - l) i (by lia) h2 e2] at a2;cases a2
end
def imZ (it:Nat→Keyed) (p:List Nat):Array Keyed:=(p.map it).toArray
section
variable {it:Nat→Keyed}
theorem xX (p:List Nat):(imZ it p).size=p.length:=by simp [imZ]
theorem yp {p:List Nat} {i x:Nat} (h:p[i]?=some x):(imZ it p)[i]?=some (it x):=by simp [imZ,h]
theorem qa (p:List Nat) (x:Nat):(imZ it p).push (it x)=imZ it (p ++ [x]):=by simp [imZ]
theorem zQ (p q:List Nat):imZ it p ++ imZ it q=imZ it (p ++ q):=by simp [imZ]
theorem vT (p:List Nat) (i j:Nat):(imZ it p).extract i j=imZ it ((p.drop i).take (j - i)):=by simp [imZ,iF,l5]
theorem ju (p:List Nat) (i:Nat):(imZ it p).extract i (imZ it p).size=imZ it (p.drop i):=by
 rw [vT,xX,cB (by rw [cR];lia)]
end
theorem Vt {it:Nat→Keyed} (p:List Nat) (i:Nat):(imZ it p).extract i p.length=imZ it (p.drop i):=by
 rw [vT,cB (by rw [cR];lia)]
structure MIZ (lt:Nat→Nat→Bool) (a b o P Q:List Nat):Prop where
 so:o.Pairwise fun x y=>lt x y=true
 pe:(o ++ P ++ Q).Perm (a ++ b)
 be:∀ x∈o,∀ y∈P ++ Q,lt x y=true
 sp:P.Pairwise fun x y=>lt x y=true
 sq:Q.Pairwise fun x y=>lt x y=true
structure YA (lt:Nat→Nat→Bool) (a b m:List Nat):Prop where
 pe:m.Perm (a ++ b)
 so:m.Pairwise fun x y=>lt x y=true
section
variable {lt:Nat→Nat→Bool} {a b o P Q c:List Nat}
theorem MIZ.left (h:MIZ lt a b o (c ++ P) Q) (k:∀ x∈c,∀ y∈Q,lt x y=true):MIZ lt a b (o ++ c) P Q:=by
 have sp:=cq.mp h.sp
 refine ⟨cq.mpr ⟨h.so,sp.1,fun x hx y hy=>h.be x hx y (by simp [hy])⟩,?_,fun x hx y hy=>?_,sp.2.1,h.sq⟩
 ·have:=h.pe
  simpa [cg] using this
 ·rcases bz.mp hx with hx | hx
  ·exact h.be x hx y (by rcases bz.mp hy with hy | hy <;> simp [hy])
  ·rcases bz.mp hy with hy | hy
   ·exact sp.2.2 x hx y hy
   ·exact k x hx y hy
theorem MIZ.right (h:MIZ lt a b o P (c ++ Q)) (k:∀ x∈c,∀ y∈P,lt x y=true):MIZ lt a b (o ++ c) P Q:=by
 have sq:=cq.mp h.sq
 refine ⟨cq.mpr ⟨h.so,sq.1,fun x hx y hy=>h.be x hx y (by simp [hy])⟩,?_,fun x hx y hy=>?_,h.sp,sq.2.1⟩
 ·refine iV ?_ h.pe
  rw [cg,cg,cg]
  refine fG _ ?_
  rw [← cg,← cg]
  exact fo _ fH
 ·rcases bz.mp hx with hx | hx
  ·exact h.be x hx y (by rcases bz.mp hy with hy | hy <;> simp [hy])
  ·rcases bz.mp hy with hy | hy
   ·exact k x hx y hy
   ·exact sq.2.2 x hx y hy
theorem MIZ.len (h:MIZ lt a b o P Q):o.length + P.length + Q.length=a.length + b.length:=by
 have:=h.pe.length_eq
 simp only [bw] at this
 lia
theorem MIZ.end (h:MIZ lt a b o P Q) (k:∀ x∈P,∀ y∈Q,lt x y=true):YA lt a b (o ++ P ++ Q) :=
 ⟨h.pe,cq.mpr ⟨cq.mpr ⟨h.so,h.sp,fun x hx y hy=>h.be x hx y (by simp [hy])⟩,h.sq,fun x hx y hy=>by
  rcases bz.mp hx with hx | hx
  ·exact h.be x hx y (by simp [hy])
  ·exact k x hx y hy⟩⟩
theorem MIZ.end' (h:MIZ lt a b o P Q) (k:∀ x∈Q,∀ y∈P,lt x y=true):YA lt a b (o ++ Q ++ P):=by
 refine ⟨?_,cq.mpr ⟨cq.mpr ⟨h.so,h.sq,fun x hx y hy=>h.be x hx y (by simp [hy])⟩,h.sp,fun x hx y hy=>?_⟩⟩
 ·refine iV ?_ h.pe
  rw [cg,cg]
  exact fG _ fH
 ·rcases bz.mp hx with hx | hx
  ·exact h.be x hx y (by simp [hy])
  ·exact k x hx y hy
theorem MIZ.start (ha:a.Pairwise fun x y=>lt x y=true) (hb:b.Pairwise fun x y=>lt x y=true):MIZ lt a b [] a b:=⟨.nil,by simp,(fun x h=>nomatch h),ha,hb⟩
end
section
variable {prog:Program} {w:World} {A:Around} {E:Value→Shared→Prop} {s:Shared} {κ:SortKind} {it:Nat→Keyed} {lt:Nat→Nat→Bool} {N:Nat}
def xY (prog:Program) (w:World) (A:Around) (s:Shared) (κ:SortKind) (it:Nat→Keyed) (lt:Nat→Nat→Bool) (N:Nat):Prop:=∀ i j (C:Bool→Shared→Prop),i < N→j < N→i≠j→C (lt i j) s→wpAny (model prog w) A (keyLt' κ (it i).1 (it j).1) C (fun _ _=>False) s
structure xL (κ:SortKind) (st0 st:SortSt):Prop where
 k:kindOf st=κ
 f:failedOf st=none
 a:arrOf st=arrOf st0
 p:pendingOf st=pendingOf st0
theorem qb {st:SortSt} {i j:Nat} {Q:Option Bool→SortSt→Prop} (hc:xY prog w A s κ it lt N) (hk:kindOf st=κ) (hi:i < N) (hj:j < N) (hij:i≠j) (q:Q (some (lt i j)) st):wpS (model prog w) A E s (lt' (it i) (it j)) Q st:=by
 rw [lt'_eq]
 refine bG (wpS_get ?_)
 rw [hk]
 refine bG (mV (gI (db (hc i j (fun b s'=>s'=s∧b=lt i j) hi hj hij ⟨rfl,rfl⟩) (fun b s' h=>?_) fun _ _ h=>h.elim)))
 obtain ⟨rfl,rfl⟩:=h
 exact ⟨rfl,bR q⟩
theorem zS {M:Model} {st:SortSt} {arr:Array Keyed} {i:Nat} {x:Keyed} {Q:Keyed→SortSt→Prop} (h:arr[i]?=some x) (q:Q x st):wpS M A E s (elem' arr i) Q st:=by
 rw [elem'_eq,h]
 exact bR q
theorem zcn (S:SO lt N) {i j:Nat} (hi:i < N) (hj:j < N) (hij:i≠j):(!lt i j)=lt j i:=by
 cases e:lt i j with
 | false=>rw [S.tot i j hi hj hij e];rfl
 | true =>
  cases e2:lt j i with
  | false=>rfl
  | true =>
   have:=S.trans i j i hi hj hi e e2
   rw [S.irr i hi] at this;cases this
theorem xM {st:SortSt} {left:Bool} {kx base n hint:Nat} {a:List Nat} {Q:Option Nat→SortSt→Prop} (S:SO lt N) (hc:xY prog w A s κ it lt N) (hk:kindOf st=κ) (kN:kx < N) (h1:∀ x∈(a.drop base).take n,x < N∧x≠kx) (srt:((a.drop base).take n).Pairwise fun x y=>lt x y=true) (len:base + n≤a.length) (hh:hint < n)
  (q:∀ k,k≤n→(∀ x∈(a.drop base).take k,lt x kx=true)→(∀ x∈((a.drop base).take n).drop k,lt kx x=true)→Q (some k) st) :
  wpS (model prog w) A E s (jt left (it kx) (imZ it a) base n hint) Q st:=by
 rw [Kg]
 have g:∀ i,i < n→∃ x,a[base + i]?=some x∧x < N∧x≠kx∧((a.drop base).take n)[i]?=some x:=fun i hi=>by
  have e:a[base + i]?=some a[base + i]:=bg (by lia)
  have e2:((a.drop base).take n)[i]?=some a[base + i]:=by rw [dy hi,dC,e]
  exact ⟨_,e,(h1 _ (bF e2)).1,(h1 _ (bF e2)).2,e2⟩
 refine zbo (b:=fun i=>lt (a.getD (base + i) 0) kx) (fun i hi Q' q'=>?_) (fun i j hij hj hb=>?_) hh fun k c=>?_
 ·obtain ⟨x,e,xN,xk,_⟩:=g i hi
  have ed:a.getD (base + i) 0=x:=by rw [bo,e];rfl
  dsimp only at q'
  rw [ed] at q'
  unfold zay
  refine bG (zS (yp e) ?_)
  cases left with
  | true =>
   rw [if_pos rfl]
   exact qb hc hk xN kN xk q'
  | false =>
   rw [if_neg (by decide)]
   refine bG (qb hc hk kN xN (cA xk) (bR ?_))
   show Q' (some (!lt kx x)) st
   rw [zcn S kN xN (cA xk)]
   exact q'
 ·obtain ⟨x,e,xN,xk,ex⟩:=g i (by lia)
  obtain ⟨y,e',yN,yk,ey⟩:=g j hj
  have ed:a.getD (base + i) 0=x:=by rw [bo,e];rfl
  have ed':a.getD (base + j) 0=y:=by rw [bo,e'];rfl
  rw [ed'] at hb
  rw [ed]
  by_cases c:i=j
  ·subst c;rw [e] at e';cases e';exact hb
  ·have l:=(bp.mp ex)
   have l':=(bp.mp ey)
   have:=cO.mp srt i j l.1 l'.1 (by lia)
   rw [l.2,l'.2] at this
   exact S.trans _ _ _ xN yN kN this hb
 ·refine q k c.le (fun x hx=>?_) fun x hx=>?_
  ·obtain ⟨i,hi⟩:=dD hx
   have il:=(bp.mp hi).1
   rw [cE] at il
   rw [dy (by lia),dC] at hi
   have:=c.lo i (by lia)
   rw [bo,hi] at this
   exact this
  ·obtain ⟨i,hi⟩:=dD hx
   rw [dC] at hi
   have il:=(bp.mp hi).1
   have kl:=c.le
   rw [cE,cR] at il
   obtain ⟨y,e,yN,yk,ey⟩:=g (k + i) (by lia)
   rw [ey] at hi
   cases hi
   have:=c.hi (k + i) (by lia) (by lia)
   rw [bo,e] at this
   exact S.tot x kx yN kN yk this
end
section
variable {prog:Program} {w:World} {A:Around} {E:Value→Shared→Prop} {s:Shared} {κ:SortKind} {it:Nat→Keyed} {lt:Nat→Nat→Bool} {N:Nat}
structure MPreZ (lt:Nat→Nat→Bool) (N:Nat) (a b:List Nat):Prop where
 sa:a.Pairwise fun x y=>lt x y=true
 sb:b.Pairwise fun x y=>lt x y=true
 nA:∀ x∈a,x < N
 nB:∀ x∈b,x < N
 dj:∀ x∈a,∀ y∈b,x≠y
 la:0 < a.length
 lb:0 < b.length
 hd:∀ y∈a,lt (b.getD 0 0) y=true
 tl:∀ x∈b,lt x (a.getD (a.length - 1) 0)=true
variable {a b:List Nat}
theorem yW {l:List Nat} {i x:Nat} (h:l[i]?=some x):l.drop i=[x] ++ l.drop (i + 1):=by
 obtain ⟨hl,rfl⟩:=bp.mp h
 rw [eN hl];rfl
theorem X4 {l:List Nat} (i k:Nat):l.drop i=(l.drop i).take k ++ l.drop (i + k):=by
 rw [← fZ,dO]
theorem xO {l:List Nat} {i x:Nat} (h:x∈l.drop i):x∈l:=fV h
theorem MPreZ.last (P:MPreZ lt N a b) {ia ib:Nat} (h:ia + 1=a.length):∀ x∈b.drop ib,∀ y∈a.drop ia,lt x y=true:=by
 intro x hx y hy
 have e:a.drop ia=[a.getD (a.length - 1) 0]:=by
  have g:a[ia]?=some a[ia]:=bg (by lia)
  rw [yW g,fm (by lia)]
  have:a.getD (a.length - 1) 0=a[ia]:=by rw [bo,show a.length - 1=ia by lia,g];rfl
  rw [this];rfl
 rw [e,bD] at hy
 rw [hy]
 exact P.tl x (xO hx)
theorem xP (S:SO lt N) {l:List Nat} {i x y:Nat} (sl:l.Pairwise fun x y=>lt x y=true) (nl:∀ x∈l,x < N) (hx:l[i]?=some x) (yN:y < N) (h:lt y x=true):∀ z∈l.drop i,lt y z=true:=by
 intro z hz
 rw [yW hx] at hz
 rcases bz.mp hz with hz | hz
 ·rw [bD.mp hz];exact h
 ·have xl:=bF hx
  refine S.trans y x z yN (nl x xl) (nl z (xO hz)) h ?_
  obtain ⟨k,hk⟩:=dD hz
  rw [dC] at hk
  obtain ⟨l1,e1⟩:=bp.mp hx
  obtain ⟨l2,e2⟩:=bp.mp hk
  have:=cO.mp sl i (i + 1 + k) l1 l2 (by lia)
  rw [e1,e2] at this
  exact this
structure WayZ (lt:Nat→Nat→Bool) (a b o:List Nat) (ia ib:Nat):Prop where
 m:MIZ lt a b o (a.drop ia) (b.drop ib)
 ha:ia + 1 < a.length
 hb:ib < b.length
theorem WayZ.len {o:List Nat} {ia ib:Nat} (W:WayZ lt a b o ia ib):o.length < a.length + b.length:=by
 have:=W.m.len
 have h1:=W.ha
 have h2:=W.hb
 rw [cR,cR] at this
 lia
def WH (κ:SortKind) (it:Nat→Keyed) (lt:Nat→Nat→Bool) (a b:List Nat) (st0:SortSt) (r:Option (Array Keyed)) (st:SortSt):Prop:=∃ m,r=some (imZ it m)∧YA lt a b m∧xL κ st0 st
abbrev zdT:=Option (Array Keyed) × Array Keyed × Nat × Nat × Nat × Nat × Nat
def zaB (a b:Array Keyed) (mg ac bc:Nat) (out:Array Keyed) (ia ib:Nat):SMZ (ForInStep zdT):=do
 let x ← elem' a ia
 if (ia + 1 + 1 == a.size)=true then pure (.done (some (out.push x ++ b.extract ib b.size ++ a.extract (ia + 1) a.size),out.push x,ia + 1,ib,mg,ac,bc))
 else if (decide (ac < 7) && decide (bc < 7))=true then pure (.done (none,out.push x,ia + 1,ib,mg,ac,bc))
 else pure (.yield (none,out.push x,ia + 1,ib,mg,ac,bc))
def zaC (a b:Array Keyed) (mg ac bc:Nat) (out:Array Keyed) (ia ib:Nat):SMZ (ForInStep zdT):=do
 let x ← elem' b ib
 if (ib + 1 == b.size)=true then pure (.done (some (out.push x ++ a.extract ia a.size ++ b.extract (ib + 1) b.size),out.push x,ia,ib + 1,mg,ac,bc))
 else do
  let y ← elem' a ia
  match ← jt true y b (ib + 1) (b.size - (ib + 1)) 0 with
  | some k=>if k > 0 then (if (ib + 1 + k == b.size)=true then pure (.done (some (out.push x ++ b.extract (ib + 1) (ib + 1 + k) ++ a.extract ia a.size ++ b.extract (ib + 1 + k) b.size),out.push x ++ b.extract (ib + 1) (ib + 1 + k),ia,ib + 1 + k,mg,ac,k)) else zaB a b mg ac k (out.push x ++ b.extract (ib + 1) (ib + 1 + k)) ia (ib + 1 + k)) else zaB a b mg ac k (out.push x) ia (ib + 1)
  | _=>pure (.done (some (out.push x ++ a.extract ia a.size ++ b.extract (ib + 1) b.size),out.push x,ia,ib + 1,mg,ac,bc))
def zco (κ:SortKind) (it:Nat→Keyed) (lt:Nat→Nat→Bool) (a b:List Nat) (st0:SortSt) (n:Nat) (r:ForInStep zdT) (st:SortSt):Prop:=match r with
 | .done c=>WH κ it lt a b st0 c.1 st∨∃ o ia ib mg ac bc,c=(none,imZ it o,ia,ib,mg,ac,bc)∧WayZ lt a b o ia ib∧n < o.length∧xL κ st0 st
 | .yield c=>∃ o ia ib mg ac bc,c=(none,imZ it o,ia,ib,mg,ac,bc)∧WayZ lt a b o ia ib∧n < o.length∧xL κ st0 st
theorem Vu {st0 st:SortSt} {mg ac bc ia ib n xa xb:Nat} {o:List Nat} (S:SO lt N) (P:MPreZ lt N a b) (k:xL κ st0 st) (m:MIZ lt a b o (a.drop ia) (b.drop ib)) (ha:ia + 1 < a.length) (ga:a[ia]?=some xa) (gb:b[ib]?=some xb) (e:lt xa xb=true) (hn:n≤o.length) :
  wpS (model prog w) A E s (zaB (imZ it a) (imZ it b) mg ac bc (imZ it o) ia ib) (zco κ it lt a b st0 n) st:=by
 have mb:=bF gb
 have ma:=bF ga
 have lb:=(bp.mp gb).1
 unfold zaB
 refine bG (zS (yp ga) ?_)
 rw [qa,ju,ju]
 have M2:MIZ lt a b (o ++ [xa]) (a.drop (ia + 1)) (b.drop ib):=by
  rw [yW ga] at m
  exact m.left fun x hx z hz=>by rw [bD.mp hx];exact xP S P.sb P.nB gb (P.nA _ ma) e z hz
 by_cases d1:(ia + 1 + 1 == (imZ it a).size)=true
 ·rw [if_pos d1]
  rw [xX] at d1
  refine bR (.inl ⟨_,?_,M2.end' (P.last (by simpa using d1)),k⟩)
  rw [zQ,zQ]
 ·rw [if_neg d1]
  rw [xX] at d1
  have d1':ia + 1 + 1≠a.length:=by simpa using d1
  have W2:WayZ lt a b (o ++ [xa]) (ia + 1) ib:=⟨M2,by lia,lb⟩
  by_cases d2:(decide (ac < 7) && decide (bc < 7))=true
  ·rw [if_pos d2]
   exact bR (.inr ⟨_,_,_,_,_,_,rfl,W2,by simp;lia,k⟩)
  ·rw [if_neg d2]
   exact bR ⟨_,_,_,_,_,_,rfl,W2,by simp;lia,k⟩
theorem Vv {st0 st:SortSt} {mg ac bc ia ib n xa xb:Nat} {o:List Nat} (S:SO lt N) (hc:xY prog w A s κ it lt N) (P:MPreZ lt N a b) (k:xL κ st0 st) (m:MIZ lt a b o (a.drop ia) (b.drop ib)) (ha:ia + 1 < a.length) (ga:a[ia]?=some xa) (gb:b[ib]?=some xb) (e:lt xb xa=true) (hn:n≤o.length) :
  wpS (model prog w) A E s (zaC (imZ it a) (imZ it b) mg ac bc (imZ it o) ia ib) (zco κ it lt a b st0 n) st:=by
 have mb:=bF gb
 have ma:=bF ga
 have lb:=(bp.mp gb).1
 unfold zaC
 refine bG (zS (yp gb) ?_)
 rw [qa,ju,ju,xX]
 have M2:MIZ lt a b (o ++ [xb]) (a.drop ia) (b.drop (ib + 1)):=by
  rw [yW gb] at m
  exact m.right fun x hx z hz=>by rw [bD.mp hx];exact xP S P.sa P.nA ga (P.nB _ mb) e z hz
 by_cases d1:(ib + 1 == b.length)=true
 ·rw [if_pos d1]
  have d1':ib + 1=b.length:=by simpa using d1
  refine bR (.inl ⟨_,?_,M2.end (fun x _ y hy=>by rw [d1',gn] at hy;cases hy),k⟩)
  rw [zQ,zQ]
 ·rw [if_neg d1]
  have d1':ib + 1≠b.length:=by simpa using d1
  refine bG (zS (yp ga) ?_)
  have tk:(b.drop (ib + 1)).take (b.length - (ib + 1))=b.drop (ib + 1):=cB (by rw [cR];lia)
  refine bG (xM S hc k.k (P.nA _ ma) (fun x hx=>?_) ?_ (by lia) (by lia) fun j hj lo hi=>?_)
  ·rw [tk] at hx;exact ⟨P.nB _ (xO hx),cA (P.dj _ ma _ (xO hx))⟩
  ·rw [tk];exact M2.sq
  ·rw [tk] at hi
   dsimp only
   -- what is taken of b
   have M3:MIZ lt a b (o ++ [xb] ++ (b.drop (ib + 1)).take j) (a.drop ia) (b.drop (ib + 1 + j)):=by
    rw [X4 (ib + 1) j] at M2
    exact M2.right fun x hx z hz=>xP S P.sa P.nA ga (P.nB _ (xO (fW hx))) (lo x hx) z hz
   have nx:ib + 1 + j < b.length→∃ y,b[ib + 1 + j]?=some y∧lt xa y=true:=fun h=>by
    refine ⟨b[ib + 1 + j],bg h,hi _ ?_⟩
    rw [fZ]
    have g:b[ib + 1 + j]?=some b[ib + 1 + j]:=bg h
    rw [yW g];exact cZ _ (eX _)
   by_cases z:j > 0
   ·rw [if_pos z,vT,show ib + 1 + j - (ib + 1)=j by lia,zQ]
    by_cases d2:(ib + 1 + j == b.length)=true
    ·rw [if_pos d2]
     have d2':ib + 1 + j=b.length:=by simpa using d2
     refine bR (.inl ⟨_,?_,M3.end (fun x _ y hy=>by rw [d2',gn] at hy;cases hy),k⟩)
     rw [Vt,zQ,zQ]
    ·rw [if_neg d2]
     have d2':ib + 1 + j≠b.length:=by simpa using d2
     obtain ⟨y,gy,ly⟩:=nx (by lia)
     exact Vu S P k M3 ha ga gy ly (by simp;lia)
   ·rw [if_neg z]
    obtain rfl:j=0:=by lia
    obtain ⟨y,gy,ly⟩:=nx (by lia)
    exact Vu S P k M2 ha ga gy ly (by simp;lia)
theorem Jf {st:SortSt} {Q:Array Keyed→SortSt→Prop} (S:SO lt N) (hc:xY prog w A s κ it lt N) (hk:xL κ st st) (P:MPreZ lt N a b) (q:∀ m st',YA lt a b m→xL κ st st'→Q (imZ it m) st') :
  wpS (model prog w) A E s (zbm (imZ it a) (imZ it b)) Q st:=by
 refine bG (mV (gR ⟨rfl,?_⟩))
 have b0:b[0]?=some (b.getD 0 0):=by rw [bo,bg P.lb];rfl
 refine bG (zS (yp b0) ?_)
 have M0:MIZ lt a b [b.getD 0 0] a (b.drop 1):=by
  have:=MIZ.start P.sa P.sb
  have e:=yW b0
  rw [dq] at e
  have h2:MIZ lt a b [] a ([b.getD 0 0] ++ b.drop 1):=by rw [← e];exact this
  exact h2.right fun x hx y hy=>by rw [bD.mp hx];exact P.hd y hy
 have o0:(#[it (b.getD 0 0)]:Array Keyed)=imZ it [b.getD 0 0]:=rfl
 rw [o0]
 have eA:∀ i,(imZ it a).extract i (imZ it a).size=imZ it (a.drop i):=ju a
 have eB:∀ i,(imZ it b).extract i (imZ it b).size=imZ it (b.drop i):=ju b
 have sA:=xX (it:=it) a
 have sB:=xX (it:=it) b
 -- the ways in which it may end
 have endB:∀ {o:List Nat} {ia ib:Nat},MIZ lt a b o (a.drop ia) (b.drop ib)→ib=b.length→YA lt a b (o ++ a.drop ia ++ b.drop ib):=fun m e=>m.end fun x hx y hy=>by rw [e,gn] at hy;cases hy
 have endA:∀ {o:List Nat} {ia ib:Nat},MIZ lt a b o (a.drop ia) (b.drop ib)→ia=a.length→YA lt a b (o ++ a.drop ia ++ b.drop ib):=fun m e=>m.end fun x hx y hy=>by rw [e,gn] at hx;cases hx
 have endL:∀ {o:List Nat} {ia ib:Nat},MIZ lt a b o (a.drop ia) (b.drop ib)→ia + 1=a.length→YA lt a b (o ++ b.drop ib ++ a.drop ia):=fun m e=>m.end' (P.last e)
 have big:∀ {o:List Nat} {ia ib:Nat},imZ it o ++ imZ it (a.drop ia) ++ imZ it (b.drop ib)=imZ it (o ++ a.drop ia ++ b.drop ib):=by intros;rw [zQ,zQ]
 have big':∀ {o:List Nat} {ia ib:Nat},imZ it o ++ imZ it (b.drop ib) ++ imZ it (a.drop ia)=imZ it (o ++ b.drop ib ++ a.drop ia):=by intros;rw [zQ,zQ]
 have M0':MIZ lt a b [b.getD 0 0] (a.drop 0) (b.drop 1):=by rw [dq];exact M0
 by_cases c1:(1 == (imZ it b).size)=true
 ·rw [if_pos c1]
  refine bR ?_
  dsimp only
  rw [eA,eB,big]
  exact q _ _ (endB M0' (by rw [← sB];simpa using c1)) hk
 ·rw [if_neg c1]
  by_cases c2:(0 + 1 == (imZ it a).size)=true
  ·rw [if_pos c2]
   refine bR ?_
   dsimp only
   rw [eA,eB,big']
   exact q _ _ (endL M0' (by rw [← sA];simpa using c2)) hk
  ·rw [if_neg c2]
   have n1:1≠b.length:=by rw [← sB];simpa using c1
   have n2:1≠a.length:=by rw [← sA];simpa using c2
   have W0:WayZ lt a b [b.getD 0 0] 0 1:=⟨M0',by have:=P.la;lia,by have:=P.lb;lia⟩
   refine bG (wpS_get ?_)
   refine bG (dR (c8 (fun x c st'=>∃ o ia ib mg,c=(none,imZ it o,ia,ib,mg)∧WayZ lt a b o ia ib∧x < o.length∧xL κ st st') (Q:=fun c st'=>WH κ it lt a b st c.1 st') ?step ?fin ⟨[b.getD 0 0],0,1,_,rfl,W0,by simp,hk⟩) ?post)
   case post =>
    rintro c st' ⟨m,e,r,k⟩
    obtain ⟨r1,c⟩:=c
    dsimp only at e
    subst e
    exact bR (q m st' r k)
   case fin =>
    rintro c st' ⟨o,ia,ib,mg,rfl,W,hx,k⟩
    have:=W.len
    rw [sA,sB] at hx
    lia
   case step =>
    rintro x c st' _ hx ⟨o,ia,ib,mg,rfl,W,hxo,k⟩
    dsimp only
    refine bG (dR (c8 (fun y c st2=>∃ o' ia' ib' ac bc,c=(none,imZ it o',ia',ib',ac,bc)∧WayZ lt a b o' ia' ib'∧o.length + y≤o'.length∧xL κ st st2) (Q:=fun c st2=>WH κ it lt a b st c.1 st2∨∃ o' ia' ib' ac bc,c=(none,imZ it o',ia',ib',ac,bc)∧WayZ lt a b o' ia' ib'∧o.length + 1≤o'.length∧xL κ st st2) ?step1 ?fin1 ⟨o,ia,ib,0,0,rfl,W,bu _,k⟩) ?post1)
    case fin1 =>
     rintro c st2 ⟨o',ia',ib',ac,bc,rfl,W',hl,k'⟩
     have:=W'.len
     rw [sA,sB] at hl
     lia
    case step1 =>
     rintro y c st2 _ hy ⟨o',ia',ib',ac,bc,rfl,W',hl,k'⟩
     dsimp only
     obtain ⟨xb,gb⟩:∃ xb,b[ib']?=some xb:=⟨_,bg W'.hb⟩
     obtain ⟨xa,ga⟩:∃ xa,a[ia']?=some xa:=⟨_,bg (by have:=W'.ha;lia)⟩
     have mb:=bF gb
     have ma:=bF ga
     refine bG (zS (yp gb) (bG (zS (yp ga) (bG (qb hc k'.k (P.nB _ mb) (P.nA _ ma) (cA (P.dj _ ma _ mb)) ?_)))))
     have M1:=W'.m
     cases e:lt xb xa with
     | true =>
      dsimp only
      rw [if_pos rfl]
      refine bG (zS (yp gb) ?_)
      rw [qa]
      have M2:MIZ lt a b (o' ++ [xb]) (a.drop ia') (b.drop (ib' + 1)):=by
       rw [yW gb] at M1
       exact M1.right fun x hx z hz=>by rw [bD.mp hx];exact xP S P.sa P.nA ga (P.nB _ mb) e z hz
      by_cases d1:(ib' + 1 == (imZ it b).size)=true
      ·rw [if_pos d1]
       refine bR (.inl ⟨_,?_,endB M2 (by rw [← sB];simpa using d1),k'⟩)
       rw [eA,eB,big]
      ·rw [if_neg d1]
       have d1':ib' + 1≠b.length:=by rw [← sB];simpa using d1
       have hb':=W'.hb
       have W2:WayZ lt a b (o' ++ [xb]) ia' (ib' + 1):=⟨M2,W'.ha,by lia⟩
       by_cases d2:bc + 1 ≥ mg
       ·rw [if_pos d2]
        exact bR (.inr ⟨_,_,_,_,_,rfl,W2,by simp;lia,k'⟩)
       ·rw [if_neg d2]
        exact bR ⟨_,_,_,_,_,rfl,W2,by simp;lia,k'⟩
     | false =>
      dsimp only
      rw [if_neg (by decide)]
      refine bG (zS (yp ga) ?_)
      rw [qa]
      have e':=S.tot _ _ (P.nB _ mb) (P.nA _ ma) (cA (P.dj _ ma _ mb)) e
      have M2:MIZ lt a b (o' ++ [xa]) (a.drop (ia' + 1)) (b.drop ib'):=by
       rw [yW ga] at M1
       exact M1.left fun x hx z hz=>by rw [bD.mp hx];exact xP S P.sb P.nB gb (P.nA _ ma) e' z hz
      by_cases d1:(ia' + 1 + 1 == (imZ it a).size)=true
      ·rw [if_pos d1]
       refine bR (.inl ⟨_,?_,endL M2 (by rw [← sA];simpa using d1),k'⟩)
       rw [eA,eB,big']
      ·rw [if_neg d1]
       have d1':ia' + 1 + 1≠a.length:=by rw [← sA];simpa using d1
       have ha':=W'.ha
       have W2:WayZ lt a b (o' ++ [xa]) (ia' + 1) ib':=⟨M2,by lia,W'.hb⟩
       by_cases d2:ac + 1 ≥ mg
       ·rw [if_pos d2]
        exact bR (.inr ⟨_,_,_,_,_,rfl,W2,by simp;lia,k'⟩)
       ·rw [if_neg d2]
        exact bR ⟨_,_,_,_,_,rfl,W2,by simp;lia,k'⟩
    case post1 =>
     rintro c st2 (⟨m,e,r,k'⟩ | ⟨o',ia',ib',ac,bc,rfl,W',hl,k'⟩)
     ·obtain ⟨r1,c⟩:=c
      dsimp only at e
      subst e
      exact bR ⟨m,rfl,r,k'⟩
     ·dsimp only
      refine bG (mV (gR ⟨rfl,?_⟩))
      refine bG (dR (c8 (fun y c st3=>∃ o2 ia2 ib2 mg2 ac2 bc2,c=(none,imZ it o2,ia2,ib2,mg2,ac2,bc2)∧WayZ lt a b o2 ia2 ib2∧o.length + 1 + y≤o2.length∧xL κ st st3) (Q:=fun c st3=>WH κ it lt a b st c.1 st3∨∃ o2 ia2 ib2 mg2 ac2 bc2,c=(none,imZ it o2,ia2,ib2,mg2,ac2,bc2)∧WayZ lt a b o2 ia2 ib2∧o.length < o2.length∧xL κ st st3) ?step2 ?fin2 ⟨o',ia',ib',_,ac,bc,rfl,W',hl,k'⟩) ?post2)
      case fin2 =>
       rintro c st3 ⟨o2,ia2,ib2,mg2,ac2,bc2,rfl,W2,hl2,k2⟩
       have:=W2.len
       rw [sA,sB] at hl2
       lia
      case step2 =>
       rintro y c st3 _ hy ⟨o2,ia2,ib2,mg2,ac2,bc2,rfl,W2,hl2,k2⟩
       dsimp only
       obtain ⟨xb,gb⟩:∃ xb,b[ib2]?=some xb:=⟨_,bg W2.hb⟩
       have mb:=bF gb
       have ha2:=W2.ha
       have go:∀ g:Nat,wpS (model prog w) A E s (do
         zax g
         let u ← elem' (imZ it b) ib2
         match ← jt false u (imZ it a) ia2 ((imZ it a).size - ia2) 0 with
         | some k=>if k > 0 then (if (ia2 + k + 1 == (imZ it a).size)=true then pure (.done (some (imZ it o2 ++ (imZ it a).extract ia2 (ia2 + k) ++ (imZ it b).extract ib2 (imZ it b).size ++ (imZ it a).extract (ia2 + k) (imZ it a).size),imZ it o2 ++ (imZ it a).extract ia2 (ia2 + k),ia2 + k,ib2,g,k,bc2)) else if (ia2 + k == (imZ it a).size)=true then pure (.done (some (imZ it o2 ++ (imZ it a).extract ia2 (ia2 + k) ++ (imZ it a).extract (ia2 + k) (imZ it a).size ++ (imZ it b).extract ib2 (imZ it b).size),imZ it o2 ++ (imZ it a).extract ia2 (ia2 + k),ia2 + k,ib2,g,k,bc2)) else zaC (imZ it a) (imZ it b) g k bc2 (imZ it o2 ++ (imZ it a).extract ia2 (ia2 + k)) (ia2 + k) ib2) else zaC (imZ it a) (imZ it b) g k bc2 (imZ it o2) ia2 ib2
         | _=>pure (.done (some (imZ it o2 ++ (imZ it a).extract ia2 (imZ it a).size ++ (imZ it b).extract ib2 (imZ it b).size),imZ it o2,ia2,ib2,g,ac2,bc2)):SMZ (ForInStep zdT)) (zco κ it lt a b st (o.length + 1 + y)) st3:=by
        intro g
        refine bG (eF ?_)
        have k3:xL κ st (iI (kindOf st3) (arrOf st3) (pendingOf st3) g (failedOf st3)):=⟨k2.k,k2.f,k2.a,k2.p⟩
        refine bG (zS (yp gb) ?_)
        rw [xX]
        have tk:(a.drop ia2).take (a.length - ia2)=a.drop ia2:=cB (by rw [cR];lia)
        refine bG (xM S hc k3.k (P.nB _ mb) (fun x hx=>?_) ?_ (by lia) (by lia) fun j hj lo hi=>?_)
        ·rw [tk] at hx;exact ⟨P.nA _ (xO hx),P.dj _ (xO hx) _ mb⟩
        ·rw [tk];exact W2.m.sp
        ·rw [tk] at hi
         dsimp only
         have M3:MIZ lt a b (o2 ++ (a.drop ia2).take j) (a.drop (ia2 + j)) (b.drop ib2):=by
          have m:=W2.m
          rw [X4 ia2 j] at m
          exact m.left fun x hx z hz=>xP S P.sb P.nB gb (P.nA _ (xO (fW hx))) (lo x hx) z hz
         have nx:ia2 + j < a.length→∃ z,a[ia2 + j]?=some z∧lt xb z=true:=fun h=>by
          refine ⟨a[ia2 + j],bg h,hi _ ?_⟩
          rw [fZ]
          have g:a[ia2 + j]?=some a[ia2 + j]:=bg h
          rw [yW g];exact cZ _ (eX _)
         by_cases z:j > 0
         ·rw [if_pos z,vT,show ia2 + j - ia2=j by lia,zQ,Vt,eB]
          by_cases d1:(ia2 + j + 1 == a.length)=true
          ·rw [if_pos d1]
           refine bR (.inl ⟨_,?_,endL M3 (by simpa using d1),k3⟩)
           rw [zQ,zQ]
          ·rw [if_neg d1]
           have d1':ia2 + j + 1≠a.length:=by simpa using d1
           by_cases d2:(ia2 + j == a.length)=true
           ·rw [if_pos d2]
            refine bR (.inl ⟨_,?_,endA M3 (by simpa using d2),k3⟩)
            rw [zQ,zQ]
           ·rw [if_neg d2]
            have d2':ia2 + j≠a.length:=by simpa using d2
            obtain ⟨z,gz,lz⟩:=nx (by lia)
            exact Vv S hc P k3 M3 (by lia) gz gb lz (by simp;lia)
         ·rw [if_neg z]
          obtain rfl:j=0:=by lia
          obtain ⟨z,gz,lz⟩:=nx (by lia)
          exact Vv S hc P k3 W2.m ha2 gz gb lz (by lia)
       have fitD:∀ c' st4,zco κ it lt a b st (o.length + 1 + y) (.done c') st4→WH κ it lt a b st c'.1 st4∨∃ o2 ia2 ib2 mg2 ac2 bc2,c'=(none,imZ it o2,ia2,ib2,mg2,ac2,bc2)∧WayZ lt a b o2 ia2 ib2∧o.length < o2.length∧xL κ st st4:=by
        intro c st4 h
        rcases h with h | ⟨o3,ia3,ib3,mg3,ac3,bc3,e,W3,l3,k4⟩
        ·exact .inl h
        ·exact .inr ⟨o3,ia3,ib3,mg3,ac3,bc3,e,W3,by lia,k4⟩
       have fitY:∀ c' st4,zco κ it lt a b st (o.length + 1 + y) (.yield c') st4→∃ o2 ia2 ib2 mg2 ac2 bc2,c'=(none,imZ it o2,ia2,ib2,mg2,ac2,bc2)∧WayZ lt a b o2 ia2 ib2∧o.length + 1 + (y + 1)≤o2.length∧xL κ st st4:=by
        intro c st4 h
        obtain ⟨o3,ia3,ib3,mg3,ac3,bc3,e,W3,l3,k4⟩:=h
        exact ⟨o3,ia3,ib3,mg3,ac3,bc3,e,W3,by lia,k4⟩
       by_cases d:mg2 > 1
       ·rw [if_pos d]
        exact dR (go (mg2 - 1)) fun r st4 h=>by cases r with | done c=>exact fitD _ _ h | yield c=>exact fitY _ _ h
       ·rw [if_neg d]
        exact dR (go mg2) fun r st4 h=>by cases r with | done c=>exact fitD _ _ h | yield c=>exact fitY _ _ h
      case post2 =>
       rintro c st3 (⟨m,e,r,k2⟩ | ⟨o2,ia2,ib2,mg2,ac2,bc2,rfl,W2,hl2,k2⟩)
       ·obtain ⟨r1,c⟩:=c
        dsimp only at e
        subst e
        exact bR ⟨m,rfl,r,k2⟩
       ·dsimp only
        refine bG (eF (bR ⟨o2,ia2,ib2,_,rfl,W2,by lia,?_⟩))
        exact ⟨k2.k,k2.f,k2.a,k2.p⟩
end
structure MJZ (lt:Nat→Nat→Bool) (a b o P Q:List Nat):Prop where
 so:o.Pairwise fun x y=>lt x y=true
 pe:(P ++ Q ++ o).Perm (a ++ b)
 be:∀ x∈P ++ Q,∀ y∈o,lt x y=true
 sp:P.Pairwise fun x y=>lt x y=true
 sq:Q.Pairwise fun x y=>lt x y=true
section
variable {lt:Nat→Nat→Bool} {a b o P Q c:List Nat}
theorem MJZ.left (h:MJZ lt a b o (P ++ c) Q) (k:∀ x∈c,∀ y∈Q,lt y x=true):MJZ lt a b (c ++ o) P Q:=by
 have sp:=cq.mp h.sp
 refine ⟨cq.mpr ⟨sp.2.1,h.so,fun x hx y hy=>h.be x (by simp [hx]) y hy⟩,?_,fun x hx y hy=>?_,sp.1,h.sq⟩
 ·refine iV ?_ h.pe
  rw [← cg,cg P Q c,cg P c Q]
  exact fo _ (fG _ fH)
 ·rcases bz.mp hy with hy | hy
  ·rcases bz.mp hx with hx | hx
   ·exact sp.2.2 x hx y hy
   ·exact k y hy x hx
  ·exact h.be x (by rcases bz.mp hx with hx | hx <;> simp [hx]) y hy
theorem MJZ.right (h:MJZ lt a b o P (Q ++ c)) (k:∀ x∈c,∀ y∈P,lt y x=true):MJZ lt a b (c ++ o) P Q:=by
 have sq:=cq.mp h.sq
 refine ⟨cq.mpr ⟨sq.2.1,h.so,fun x hx y hy=>h.be x (by simp [hx]) y hy⟩,?_,fun x hx y hy=>?_,h.sp,sq.1⟩
 ·have:=h.pe
  simpa [cg] using this
 ·rcases bz.mp hy with hy | hy
  ·rcases bz.mp hx with hx | hx
   ·exact k y hy x hx
   ·exact sq.2.2 x hx y hy
  ·exact h.be x (by rcases bz.mp hx with hx | hx <;> simp [hx]) y hy
theorem MJZ.len (h:MJZ lt a b o P Q):o.length + P.length + Q.length=a.length + b.length:=by
 have:=h.pe.length_eq
 simp only [bw] at this
 lia
theorem MJZ.end (h:MJZ lt a b o P Q) (k:∀ x∈P,∀ y∈Q,lt x y=true):YA lt a b (P ++ Q ++ o) :=
 ⟨h.pe,cq.mpr ⟨cq.mpr ⟨h.sp,h.sq,k⟩,h.so,h.be⟩⟩
theorem MJZ.end' (h:MJZ lt a b o P Q) (k:∀ x∈Q,∀ y∈P,lt x y=true):YA lt a b (Q ++ P ++ o) :=
 ⟨iV (fo _ fH) h.pe,cq.mpr ⟨cq.mpr ⟨h.sq,h.sp,k⟩,h.so,fun x hx y hy=>h.be x (by rcases bz.mp hx with hx | hx <;> simp [hx]) y hy⟩⟩
theorem MJZ.start (ha:a.Pairwise fun x y=>lt x y=true) (hb:b.Pairwise fun x y=>lt x y=true):MJZ lt a b [] a b:=⟨.nil,by simp,(fun x _ y h=>nomatch h),ha,hb⟩
theorem yX {l:List Nat} {i x:Nat} (h:l[i]?=some x):l.take (i + 1)=l.take i ++ [x]:=by rw [dL,h];rfl
theorem X5 {l:List Nat} {i j:Nat} (h:i≤j):l.take j=l.take i ++ (l.take j).drop i:=by
 have:=(dO i (l.take j)).symm
 rwa [List.take_take,gH h] at this
theorem xQ {l:List Nat} {i x:Nat} (h:x∈l.take i):x∈l:=fW h
end
section
variable {it:Nat→Keyed}
theorem ZB (p:List Nat) (i:Nat):(imZ it p).extract 0 i=imZ it (p.take i):=by rw [vT];simp
theorem zaD (p:List Nat):(imZ it p).reverse=imZ it p.reverse:=by simp [imZ]
theorem XL (p:List Nat) (x:Nat):(imZ it p.reverse).push (it x)=imZ it ([x] ++ p).reverse:=by rw [qa];simp
theorem zaE {p:List Nat} {i j:Nat} (h:i≤j):(imZ it p).extract i j=imZ it ((p.take j).drop i):=by
 rw [vT]
 congr 1
 rw [List.drop_take]
theorem Kh (p c:List Nat):imZ it p.reverse ++ (imZ it c).reverse=imZ it (c ++ p).reverse:=by rw [zaD,zQ];simp
end
section
variable {prog:Program} {w:World} {A:Around} {E:Value→Shared→Prop} {s:Shared} {κ:SortKind} {it:Nat→Keyed} {lt:Nat→Nat→Bool} {N:Nat} {a b:List Nat}
theorem xR (S:SO lt N) {l:List Nat} {i x y:Nat} (sl:l.Pairwise fun x y=>lt x y=true) (nl:∀ x∈l,x < N) (hx:l[i]?=some x) (yN:y < N) (h:lt x y=true):∀ z∈l.take (i + 1),lt z y=true:=by
 intro z hz
 rw [yX hx] at hz
 rcases bz.mp hz with hz | hz
 ·have xl:=bF hx
  refine S.trans z x y (nl z (xQ hz)) (nl x xl) yN ?_ h
  obtain ⟨k,hk⟩:=dD hz
  have kl:=(bp.mp hk).1
  rw [cE] at kl
  rw [dy (by lia)] at hk
  obtain ⟨l1,e1⟩:=bp.mp hx
  obtain ⟨l2,e2⟩:=bp.mp hk
  have:=cO.mp sl k i l2 l1 (by lia)
  rw [e1,e2] at this
  exact this
 ·rw [bD.mp hz];exact h
theorem MPreZ.first (P:MPreZ lt N a b) {na:Nat}:∀ x∈b.take 1,∀ y∈a.take na,lt x y=true:=by
 intro x hx y hy
 have e:b.take 1=[b.getD 0 0]:=by
  have plb:=P.lb
  have g:b[0]?=some b[0]:=bg plb
  have t:=yX g
  rw [t,bo,g];rfl
 rw [e,bD] at hx
 rw [hx]
 exact P.hd y (xQ hy)
structure WayHZ (lt:Nat→Nat→Bool) (a b o:List Nat) (na nb:Nat):Prop where
 m:MJZ lt a b o (a.take na) (b.take nb)
 ha:0 < na
 la:na≤a.length
 hb:1 < nb
 lb:nb≤b.length
theorem WayHZ.len {o:List Nat} {na nb:Nat} (W:WayHZ lt a b o na nb):o.length < a.length + b.length:=by
 have:=W.m.len
 have h1:=W.ha
 have h2:=W.hb
 have h3:=W.la
 have h4:=W.lb
 rw [cE,cE] at this
 lia
abbrev zdU:=Option (Array Keyed) × Nat × Nat × Array Keyed × Nat × Nat × Nat
def zaF (a b:Array Keyed) (mg ac bc:Nat) (na nb:Nat) (out:Array Keyed):SMZ (ForInStep zdU):=do
 let x ← elem' a (na - 1)
 if (na - 1 == 0)=true then pure (.done (some (a.extract 0 (na - 1) ++ b.extract 0 nb ++ (out.push x).reverse),na - 1,nb,out.push x,mg,ac,bc))
 else if (decide (ac < 7) && decide (bc < 7))=true then pure (.done (none,na - 1,nb,out.push x,mg,ac,bc))
 else pure (.yield (none,na - 1,nb,out.push x,mg,ac,bc))
def zaG (a b:Array Keyed) (mg ac bc:Nat) (na nb:Nat) (out:Array Keyed):SMZ (ForInStep zdU):=do
 let x ← elem' b (nb - 1)
 if (nb - 1 == 1)=true then pure (.done (some (b.extract 0 (nb - 1) ++ a.extract 0 na ++ (out.push x).reverse),na,nb - 1,out.push x,mg,ac,bc))
 else do
  let y ← elem' a (na - 1)
  match ← jt true y b 0 (nb - 1) (nb - 1 - 1) with
  | some k=>if nb - 1 - k > 0 then (if (k == 1)=true then pure (.done (some (b.extract 0 k ++ a.extract 0 na ++ (out.push x ++ (b.extract k (nb - 1)).reverse).reverse),na,k,out.push x ++ (b.extract k (nb - 1)).reverse,mg,ac,nb - 1 - k)) else if (k == 0)=true then pure (.done (some (a.extract 0 na ++ b.extract 0 k ++ (out.push x ++ (b.extract k (nb - 1)).reverse).reverse),na,k,out.push x ++ (b.extract k (nb - 1)).reverse,mg,ac,nb - 1 - k)) else zaF a b mg ac (nb - 1 - k) na k (out.push x ++ (b.extract k (nb - 1)).reverse)) else zaF a b mg ac (nb - 1 - k) na (nb - 1) (out.push x)
  | _=>pure (.done (some (a.extract 0 na ++ b.extract 0 (nb - 1) ++ (out.push x).reverse),na,nb - 1,out.push x,mg,ac,bc))
def zcp (κ:SortKind) (it:Nat→Keyed) (lt:Nat→Nat→Bool) (a b:List Nat) (st0:SortSt) (n:Nat) (r:ForInStep zdU) (st:SortSt):Prop:=match r with
 | .done c=>WH κ it lt a b st0 c.1 st∨∃ o na nb mg ac bc,c=(none,na,nb,imZ it o.reverse,mg,ac,bc)∧WayHZ lt a b o na nb∧n < o.length∧xL κ st0 st
 | .yield c=>∃ o na nb mg ac bc,c=(none,na,nb,imZ it o.reverse,mg,ac,bc)∧WayHZ lt a b o na nb∧n < o.length∧xL κ st0 st
theorem Y5 (o:List Nat):(imZ it o.reverse).reverse=imZ it o:=by rw [zaD,mY]
theorem Vw {st0 st:SortSt} {mg ac bc na nb n xa xb:Nat} {o:List Nat} (S:SO lt N) (P:MPreZ lt N a b) (k:xL κ st0 st) (m:MJZ lt a b o (a.take na) (b.take nb)) (ha:0 < na) (la:na≤a.length) (hb:1 < nb) (lb:nb≤b.length) (ga:a[na - 1]?=some xa) (gb:b[nb - 1]?=some xb) (e:lt xb xa=true) (hn:n≤o.length) :
  wpS (model prog w) A E s (zaF (imZ it a) (imZ it b) mg ac bc na nb (imZ it o.reverse)) (zcp κ it lt a b st0 n) st:=by
 have mb:=bF gb
 have ma:=bF ga
 unfold zaF
 refine bG (zS (yp ga) ?_)
 rw [XL,Y5,ZB,ZB]
 have M2:MJZ lt a b ([xa] ++ o) (a.take (na - 1)) (b.take nb):=by
  have t:=yX ga
  rw [show na - 1 + 1=na by lia] at t
  rw [t] at m
  refine m.left fun x hx z hz=>?_
  rw [bD.mp hx]
  have:=xR S P.sb P.nB gb (P.nA _ ma) e
  rw [show nb - 1 + 1=nb by lia] at this
  exact this z hz
 by_cases d1:(na - 1 == 0)=true
 ·rw [if_pos d1]
  have d1':na - 1=0:=by simpa using d1
  refine bR (.inl ⟨_,?_,M2.end (fun x hx y hy=>by rw [d1',lC] at hx;cases hx),k⟩)
  rw [zQ,zQ]
 ·rw [if_neg d1]
  have d1':na - 1≠0:=by simpa using d1
  have W2:WayHZ lt a b ([xa] ++ o) (na - 1) nb:=⟨M2,by lia,by lia,hb,lb⟩
  by_cases d2:(decide (ac < 7) && decide (bc < 7))=true
  ·rw [if_pos d2]
   exact bR (.inr ⟨_,_,_,_,_,_,rfl,W2,by simp;lia,k⟩)
  ·rw [if_neg d2]
   exact bR ⟨_,_,_,_,_,_,rfl,W2,by simp;lia,k⟩
theorem Vx {st0 st:SortSt} {mg ac bc na nb n xa xb:Nat} {o:List Nat} (S:SO lt N) (hc:xY prog w A s κ it lt N) (P:MPreZ lt N a b) (k:xL κ st0 st) (m:MJZ lt a b o (a.take na) (b.take nb)) (ha:0 < na) (la:na≤a.length) (hb:1 < nb) (lb:nb≤b.length) (ga:a[na - 1]?=some xa) (gb:b[nb - 1]?=some xb) (e:lt xa xb=true) (hn:n≤o.length) :
  wpS (model prog w) A E s (zaG (imZ it a) (imZ it b) mg ac bc na nb (imZ it o.reverse)) (zcp κ it lt a b st0 n) st:=by
 have mb:=bF gb
 have ma:=bF ga
 unfold zaG
 refine bG (zS (yp gb) ?_)
 rw [XL,Y5,ZB,ZB]
 have M2:MJZ lt a b ([xb] ++ o) (a.take na) (b.take (nb - 1)):=by
  have t:=yX gb
  rw [show nb - 1 + 1=nb by lia] at t
  rw [t] at m
  refine m.right fun x hx z hz=>?_
  rw [bD.mp hx]
  have:=xR S P.sa P.nA ga (P.nB _ mb) e
  rw [show na - 1 + 1=na by lia] at this
  exact this z hz
 by_cases d1:(nb - 1 == 1)=true
 ·rw [if_pos d1]
  have d1':nb - 1=1:=by simpa using d1
  refine bR (.inl ⟨_,?_,M2.end' (by rw [d1'];exact P.first),k⟩)
  rw [zQ,zQ]
 ·rw [if_neg d1]
  have d1':nb - 1≠1:=by simpa using d1
  refine bG (zS (yp ga) ?_)
  refine bG (xM S hc k.k (P.nA _ ma) (fun x hx=>?_) ?_ (by lia) (by lia) fun j hj lo hi=>?_)
  ·rw [dq] at hx;exact ⟨P.nB _ (xQ hx),cA (P.dj _ ma _ (xQ hx))⟩
  ·rw [dq];exact M2.sq
  ·rw [dq] at lo hi
   dsimp only
   rw [ZB,zaE hj,Kh,Y5]
   have M3:MJZ lt a b ((b.take (nb - 1)).drop j ++ ([xb] ++ o)) (a.take na) (b.take j):=by
    rw [X5 hj] at M2
    refine M2.right fun x hx z hz=>?_
    have xb':x∈b:=xQ (fV hx)
    have h:=hi x hx
    have:=xR S P.sa P.nA ga (P.nB _ xb') h
    rw [show na - 1 + 1=na by lia] at this
    exact this z hz
   have nx:0 < j→∃ y,b[j - 1]?=some y∧lt y xa=true:=fun h=>by
    have g:b[j - 1]?=some b[j - 1]:=bg (by lia)
    refine ⟨b[j - 1],g,lo _ ?_⟩
    have t:=yX g
    rw [show j - 1 + 1=j by lia] at t
    rw [t];exact bV _ (eX _)
   by_cases z:nb - 1 - j > 0
   ·rw [if_pos z]
    by_cases d2:(j == 1)=true
    ·rw [if_pos d2]
     have d2':j=1:=by simpa using d2
     refine bR (.inl ⟨_,?_,M3.end' (by rw [d2'];exact P.first),k⟩)
     rw [zQ,zQ]
    ·rw [if_neg d2]
     have d2':j≠1:=by simpa using d2
     by_cases d3:(j == 0)=true
     ·rw [if_pos d3]
      have d3':j=0:=by simpa using d3
      refine bR (.inl ⟨_,?_,M3.end (fun x _ y hy=>by rw [d3',lC] at hy;cases hy),k⟩)
      rw [zQ,zQ]
     ·rw [if_neg d3]
      have d3':j≠0:=by simpa using d3
      obtain ⟨y,gy,ly⟩:=nx (by lia)
      exact Vw S P k M3 ha la (by lia) (by lia) ga gy ly (by simp;lia)
   ·rw [if_neg z]
    obtain rfl:j=nb - 1:=by lia
    obtain ⟨y,gy,ly⟩:=nx (by lia)
    exact Vw S P k M2 ha la (by lia) (by lia) ga gy ly (by simp;lia)
theorem Jg {st:SortSt} {Q:Array Keyed→SortSt→Prop} (S:SO lt N) (hc:xY prog w A s κ it lt N) (hk:xL κ st st) (P:MPreZ lt N a b) (q:∀ m st',YA lt a b m→xL κ st st'→Q (imZ it m) st') :
  wpS (model prog w) A E s (zbn (imZ it a) (imZ it b)) Q st:=by
 have pla:=P.la
 have plb:=P.lb
 refine bG (mV (gR ⟨rfl,?_⟩))
 have sA:=xX (it:=it) a
 have sB:=xX (it:=it) b
 have a0:a[a.length - 1]?=some (a.getD (a.length - 1) 0):=by rw [bo,bg (by lia)];rfl
 refine bG (zS (x:=it (a.getD (a.length - 1) 0)) (by rw [sA];exact yp a0) ?_)
 have M0:MJZ lt a b [a.getD (a.length - 1) 0] (a.take (a.length - 1)) (b.take b.length):=by
  have:=MJZ.start P.sa P.sb
  have t:=yX a0
  rw [show a.length - 1 + 1=a.length by lia,eG] at t
  have h2:MJZ lt a b [] (a.take (a.length - 1) ++ [a.getD (a.length - 1) 0]) b:=by rw [← t];exact this
  rw [eG]
  exact h2.left fun x hx y hy=>by rw [bD.mp hx];exact P.tl y hy
 have o0:(#[it (a.getD (a.length - 1) 0)]:Array Keyed)=imZ it [a.getD (a.length - 1) 0].reverse:=rfl
 rw [o0,sA,sB]
 have eA:∀ i,(imZ it a).extract 0 i=imZ it (a.take i):=ZB a
 have eB:∀ i,(imZ it b).extract 0 i=imZ it (b.take i):=ZB b
 have endA:∀ {o:List Nat} {na nb:Nat},MJZ lt a b o (a.take na) (b.take nb)→na=0→YA lt a b (a.take na ++ b.take nb ++ o):=fun m e=>m.end fun x hx y hy=>by rw [e,lC] at hx;cases hx
 have endF:∀ {o:List Nat} {na nb:Nat},MJZ lt a b o (a.take na) (b.take nb)→nb=1→YA lt a b (b.take nb ++ a.take na ++ o):=fun m e=>m.end' (by rw [e];exact P.first)
 by_cases c1:(a.length - 1 == 0)=true
 ·rw [if_pos c1]
  refine bR ?_
  dsimp only
  rw [eA,eB,Y5,zQ,zQ]
  exact q _ _ (endA M0 (by simpa using c1)) hk
 ·rw [if_neg c1]
  by_cases c2:(b.length == 1)=true
  ·rw [if_pos c2]
   refine bR ?_
   dsimp only
   rw [eA,eB,Y5,zQ,zQ]
   exact q _ _ (endF M0 (by simpa using c2)) hk
  ·rw [if_neg c2]
   have n1:a.length - 1≠0:=by simpa using c1
   have n2:b.length≠1:=by simpa using c2
   have W0:WayHZ lt a b [a.getD (a.length - 1) 0] (a.length - 1) b.length:=⟨M0,by lia,by lia,by lia,by lia⟩
   refine bG (wpS_get ?_)
   refine bG (dR (c8 (fun x c st'=>∃ o na nb mg,c=(none,na,nb,imZ it o.reverse,mg)∧WayHZ lt a b o na nb∧x < o.length∧xL κ st st') (Q:=fun c st'=>WH κ it lt a b st c.1 st') ?step ?fin ⟨[a.getD (a.length - 1) 0],_,_,_,rfl,W0,by simp,hk⟩) ?post)
   case post =>
    rintro c st' ⟨m,e,r,k⟩
    obtain ⟨r1,c⟩:=c
    dsimp only at e
    subst e
    exact bR (q m st' r k)
   case fin =>
    rintro c st' ⟨o,na,nb,mg,rfl,W,hx,k⟩
    have:=W.len
    lia
   case step =>
    rintro x c st' _ hx ⟨o,na,nb,mg,rfl,W,hxo,k⟩
    dsimp only
    refine bG (dR (c8 (fun y c st2=>∃ o' na' nb' ac bc,c=(none,na',nb',imZ it o'.reverse,ac,bc)∧WayHZ lt a b o' na' nb'∧o.length + y≤o'.length∧xL κ st st2) (Q:=fun c st2=>WH κ it lt a b st c.1 st2∨∃ o' na' nb' ac bc,c=(none,na',nb',imZ it o'.reverse,ac,bc)∧WayHZ lt a b o' na' nb'∧o.length + 1≤o'.length∧xL κ st st2) ?step1 ?fin1 ⟨o,na,nb,0,0,rfl,W,bu _,k⟩) ?post1)
    case fin1 =>
     rintro c st2 ⟨o',na',nb',ac,bc,rfl,W',hl,k'⟩
     have:=W'.len
     lia
    case step1 =>
     rintro y c st2 _ hy ⟨o',na',nb',ac,bc,rfl,W',hl,k'⟩
     dsimp only
     have w1:=W'.ha
     have w2:=W'.la
     have w3:=W'.hb
     have w4:=W'.lb
     obtain ⟨xb,gb⟩:∃ xb,b[nb' - 1]?=some xb:=⟨_,bg (by lia)⟩
     obtain ⟨xa,ga⟩:∃ xa,a[na' - 1]?=some xa:=⟨_,bg (by lia)⟩
     have mb:=bF gb
     have ma:=bF ga
     refine bG (zS (yp gb) (bG (zS (yp ga) (bG (qb hc k'.k (P.nB _ mb) (P.nA _ ma) (cA (P.dj _ ma _ mb)) ?_)))))
     have M1:=W'.m
     cases e:lt xb xa with
     | true =>
      dsimp only
      rw [if_pos rfl]
      refine bG (zS (yp ga) ?_)
      rw [XL]
      have M2:MJZ lt a b ([xa] ++ o') (a.take (na' - 1)) (b.take nb'):=by
       have t:=yX ga
       rw [show na' - 1 + 1=na' by lia] at t
       rw [t] at M1
       refine M1.left fun x hx z hz=>?_
       rw [bD.mp hx]
       have:=xR S P.sb P.nB gb (P.nA _ ma) e
       rw [show nb' - 1 + 1=nb' by lia] at this
       exact this z hz
      by_cases d1:(na' - 1 == 0)=true
      ·rw [if_pos d1]
       refine bR (.inl ⟨_,?_,endA M2 (by simpa using d1),k'⟩)
       rw [eA,eB,Y5,zQ,zQ]
      ·rw [if_neg d1]
       have d1':na' - 1≠0:=by simpa using d1
       have W2:WayHZ lt a b ([xa] ++ o') (na' - 1) nb':=⟨M2,by lia,by lia,w3,w4⟩
       by_cases d2:ac + 1 ≥ mg
       ·rw [if_pos d2]
        exact bR (.inr ⟨_,_,_,_,_,rfl,W2,by simp;lia,k'⟩)
       ·rw [if_neg d2]
        exact bR ⟨_,_,_,_,_,rfl,W2,by simp;lia,k'⟩
     | false =>
      dsimp only
      rw [if_neg (by decide)]
      refine bG (zS (yp gb) ?_)
      rw [XL]
      have e':=S.tot _ _ (P.nB _ mb) (P.nA _ ma) (cA (P.dj _ ma _ mb)) e
      have M2:MJZ lt a b ([xb] ++ o') (a.take na') (b.take (nb' - 1)):=by
       have t:=yX gb
       rw [show nb' - 1 + 1=nb' by lia] at t
       rw [t] at M1
       refine M1.right fun x hx z hz=>?_
       rw [bD.mp hx]
       have:=xR S P.sa P.nA ga (P.nB _ mb) e'
       rw [show na' - 1 + 1=na' by lia] at this
       exact this z hz
      by_cases d1:(nb' - 1 == 1)=true
      ·rw [if_pos d1]
       refine bR (.inl ⟨_,?_,endF M2 (by simpa using d1),k'⟩)
       rw [eA,eB,Y5,zQ,zQ]
      ·rw [if_neg d1]
       have d1':nb' - 1≠1:=by simpa using d1
       have W2:WayHZ lt a b ([xb] ++ o') na' (nb' - 1):=⟨M2,w1,w2,by lia,by lia⟩
       by_cases d2:bc + 1 ≥ mg
       ·rw [if_pos d2]
        exact bR (.inr ⟨_,_,_,_,_,rfl,W2,by simp;lia,k'⟩)
       ·rw [if_neg d2]
        exact bR ⟨_,_,_,_,_,rfl,W2,by simp;lia,k'⟩
    case post1 =>
     rintro c st2 (⟨m,e,r,k'⟩ | ⟨o',na',nb',ac,bc,rfl,W',hl,k'⟩)
     ·obtain ⟨r1,c⟩:=c
      dsimp only at e
      subst e
      exact bR ⟨m,rfl,r,k'⟩
     ·dsimp only
      refine bG (mV (gR ⟨rfl,?_⟩))
      refine bG (dR (c8 (fun y c st3=>∃ o2 na2 nb2 mg2 ac2 bc2,c=(none,na2,nb2,imZ it o2.reverse,mg2,ac2,bc2)∧WayHZ lt a b o2 na2 nb2∧o.length + 1 + y≤o2.length∧xL κ st st3) (Q:=fun c st3=>WH κ it lt a b st c.1 st3∨∃ o2 na2 nb2 mg2 ac2 bc2,c=(none,na2,nb2,imZ it o2.reverse,mg2,ac2,bc2)∧WayHZ lt a b o2 na2 nb2∧o.length < o2.length∧xL κ st st3) ?step2 ?fin2 ⟨o',na',nb',_,ac,bc,rfl,W',hl,k'⟩) ?post2)
      case fin2 =>
       rintro c st3 ⟨o2,na2,nb2,mg2,ac2,bc2,rfl,W2,hl2,k2⟩
       have:=W2.len
       lia
      case step2 =>
       rintro y c st3 _ hy ⟨o2,na2,nb2,mg2,ac2,bc2,rfl,W2,hl2,k2⟩
       dsimp only
       have w1:=W2.ha
       have w2:=W2.la
       have w3:=W2.hb
       have w4:=W2.lb
       obtain ⟨xb,gb⟩:∃ xb,b[nb2 - 1]?=some xb:=⟨_,bg (by lia)⟩
       have mb:=bF gb
       have go:∀ g:Nat,wpS (model prog w) A E s (do
         zax g
         let u ← elem' (imZ it b) (nb2 - 1)
         match ← jt false u (imZ it a) 0 na2 (na2 - 1) with
         | some k=>if na2 - k > 0 then (if (k == 0)=true then pure (.done (some ((imZ it a).extract 0 k ++ (imZ it b).extract 0 nb2 ++ (imZ it o2.reverse ++ ((imZ it a).extract k na2).reverse).reverse),k,nb2,imZ it o2.reverse ++ ((imZ it a).extract k na2).reverse,g,na2 - k,bc2)) else zaG (imZ it a) (imZ it b) g (na2 - k) bc2 k nb2 (imZ it o2.reverse ++ ((imZ it a).extract k na2).reverse)) else zaG (imZ it a) (imZ it b) g (na2 - k) bc2 na2 nb2 (imZ it o2.reverse)
         | _=>pure (.done (some ((imZ it a).extract 0 na2 ++ (imZ it b).extract 0 nb2 ++ (imZ it o2.reverse).reverse),na2,nb2,imZ it o2.reverse,g,ac2,bc2)):SMZ (ForInStep zdU)) (zcp κ it lt a b st (o.length + 1 + y)) st3:=by
        intro g
        refine bG (eF ?_)
        have k3:xL κ st (iI (kindOf st3) (arrOf st3) (pendingOf st3) g (failedOf st3)):=⟨k2.k,k2.f,k2.a,k2.p⟩
        refine bG (zS (yp gb) ?_)
        refine bG (xM S hc k3.k (P.nB _ mb) (fun x hx=>?_) ?_ (by lia) (by lia) fun j hj lo hi=>?_)
        ·rw [dq] at hx;exact ⟨P.nA _ (xQ hx),P.dj _ (xQ hx) _ mb⟩
        ·rw [dq];exact W2.m.sp
        ·rw [dq] at lo hi
         dsimp only
         rw [zaE hj,Kh,Y5,eA,eB]
         have M3:MJZ lt a b ((a.take na2).drop j ++ o2) (a.take j) (b.take nb2):=by
          have m:=W2.m
          rw [X5 hj] at m
          refine m.left fun x hx z hz=>?_
          have xa':x∈a:=xQ (fV hx)
          have:=xR S P.sb P.nB gb (P.nA _ xa') (hi x hx)
          rw [show nb2 - 1 + 1=nb2 by lia] at this
          exact this z hz
         have nx:0 < j→∃ z,a[j - 1]?=some z∧lt z xb=true:=fun h=>by
          have g:a[j - 1]?=some a[j - 1]:=bg (by lia)
          refine ⟨a[j - 1],g,lo _ ?_⟩
          have t:=yX g
          rw [show j - 1 + 1=j by lia] at t
          rw [t];exact bV _ (eX _)
         by_cases z:na2 - j > 0
         ·rw [if_pos z]
          by_cases d1:(j == 0)=true
          ·rw [if_pos d1]
           refine bR (.inl ⟨_,?_,endA M3 (by simpa using d1),k3⟩)
           rw [zQ,zQ]
          ·rw [if_neg d1]
           have d1':j≠0:=by simpa using d1
           obtain ⟨z,gz,lz⟩:=nx (by lia)
           exact Vx S hc P k3 M3 (by lia) (by lia) w3 w4 gz gb lz (by simp;lia)
         ·rw [if_neg z]
          obtain rfl:j=na2:=by lia
          obtain ⟨z,gz,lz⟩:=nx (by lia)
          exact Vx S hc P k3 W2.m w1 w2 w3 w4 gz gb lz (by lia)
       have fitD:∀ c' st4,zcp κ it lt a b st (o.length + 1 + y) (.done c') st4→WH κ it lt a b st c'.1 st4∨∃ o2 na2 nb2 mg2 ac2 bc2,c'=(none,na2,nb2,imZ it o2.reverse,mg2,ac2,bc2)∧WayHZ lt a b o2 na2 nb2∧o.length < o2.length∧xL κ st st4:=by
        intro c st4 h
        rcases h with h | ⟨o3,na3,nb3,mg3,ac3,bc3,e,W3,l3,k4⟩
        ·exact .inl h
        ·exact .inr ⟨o3,na3,nb3,mg3,ac3,bc3,e,W3,by lia,k4⟩
       have fitY:∀ c' st4,zcp κ it lt a b st (o.length + 1 + y) (.yield c') st4→∃ o2 na2 nb2 mg2 ac2 bc2,c'=(none,na2,nb2,imZ it o2.reverse,mg2,ac2,bc2)∧WayHZ lt a b o2 na2 nb2∧o.length + 1 + (y + 1)≤o2.length∧xL κ st st4:=by
        intro c st4 h
        obtain ⟨o3,na3,nb3,mg3,ac3,bc3,e,W3,l3,k4⟩:=h
        exact ⟨o3,na3,nb3,mg3,ac3,bc3,e,W3,by lia,k4⟩
       by_cases d:mg2 > 1
       ·rw [if_pos d]
        exact dR (go (mg2 - 1)) fun r st4 h=>by cases r with | done c=>exact fitD _ _ h | yield c=>exact fitY _ _ h
       ·rw [if_neg d]
        exact dR (go mg2) fun r st4 h=>by cases r with | done c=>exact fitD _ _ h | yield c=>exact fitY _ _ h
      case post2 =>
       rintro c st3 (⟨m,e,r,k2⟩ | ⟨o2,na2,nb2,mg2,ac2,bc2,rfl,W2,hl2,k2⟩)
       ·obtain ⟨r1,c⟩:=c
        dsimp only at e
        subst e
        exact bR ⟨m,rfl,r,k2⟩
       ·dsimp only
        refine bG (eF (bR ⟨o2,na2,nb2,_,rfl,W2,by lia,?_⟩))
        exact ⟨k2.k,k2.f,k2.a,k2.p⟩
end
section
variable {prog:Program} {w:World} {A:Around} {E:Value→Shared→Prop} {s:Shared} {κ:SortKind} {it:Nat→Keyed} {lt:Nat→Nat→Bool} {N:Nat}
def RiseSZ (lt:Nat→Nat→Bool) (p:Array Nat) (lo m:Nat):Prop:=∀ i j,i < j→j < m→lt (gt p (lo + i)) (gt p (lo + j))=true
structure SAZ (κ:SortKind) (it:Nat→Keyed) (N:Nat) (p:Array Nat) (st:SortSt):Prop where
 k:kindOf st=κ
 f:failedOf st=none
 a:arrOf st=p.map it
 pp:PP N p
theorem SAZ.set {p p':Array Nat} {st:SortSt} (h:SAZ κ it N p st) (hp:PP N p'):SAZ κ it N p' (setArr st (p'.map it)):=⟨h.k,h.f,rfl,hp⟩
theorem qX {st:SortSt} {p:Array Nat} {i j:Nat} {Q:Option Bool→SortSt→Prop} (hc:xY prog w A s κ it lt N) (h:SAZ κ it N p st) (hi:i < N) (hj:j < N) (hij:i≠j) (q:Q (some (lt (gt p i) (gt p j))) st):wpS (model prog w) A E s (ltAt' i j) Q st:=by
 rw [ltAt'_eq]
 refine bG (wpS_get ?_)
 have sz:=h.pp.size
 have gi:(arrOf st)[i]?=some (it (gt p i)):=by rw [h.a,nG,wD (by lia)];rfl
 have gj:(arrOf st)[j]?=some (it (gt p j)):=by rw [h.a,nG,wD (by lia)];rfl
 exact bG (zS gi (bG (zS gj (qb hc h.k (h.pp.blt hi) (h.pp.blt hj) (fun z=>hij (h.pp.inj hi hj z)) q))))
theorem X6 (S:SO lt N) {p:Array Nat} {lo m:Nat} (hp:PP N p) (h:RiseSZ lt p lo m) (h1:1≤m) (hm:lo + m < N) (c:lt (gt p (lo + m)) (gt p (lo + m - 1))=false):RiseSZ lt p lo (m + 1):=by
 have up:lt (gt p (lo + m - 1)) (gt p (lo + m))=true:=S.tot _ _ (hp.blt hm) (hp.blt (by lia)) (fun z=>by have:=hp.inj hm (by lia) z;lia) c
 intro i j hij hj
 by_cases e:j < m
 ·exact h i j hij e
 ·obtain rfl:j=m:=by lia
  by_cases e2:i=j - 1
  ·rw [e2,show lo + (j - 1)=lo + j - 1 by lia];exact up
  ·refine S.trans _ (gt p (lo + j - 1)) _ (hp.blt (by lia)) (hp.blt (by lia)) (hp.blt hm) ?_ up
   have:=h i (j - 1) (by lia) (by lia)
   rwa [show lo + (j - 1)=lo + j - 1 by lia] at this
theorem Ki (p:Array Nat) (i j d:Nat):mirror (p.map it) i j d=(mirror p i j d).map it:=kas_swaps_map it (fun k=>i + k) (fun k=>j - 1 - k) _ p
theorem Kj (p:Array Nat) (i d:Nat):bubble (p.map it) i d=(bubble p i d).map it:=kas_swaps_map it (fun k=>i - k) (fun k=>i - k - 1) _ p
theorem zdV {p:Array Nat} {i j k:Nat} (hj:j≤p.size) (hk:k < p.size):gt (mirror p i j ((j - i) / 2)) k=if i≤k∧k < j then gt p (i + j - 1 - k) else gt p k:=by
 have e:=getElem?_mirror_all (xs:=p) (i:=i) (j:=j) hj k
 have e1:=wD (p:=mirror p i j ((j - i) / 2)) (k:=k) (by rw [mirror_size];exact hk)
 rw [e] at e1
 by_cases c:i≤k∧k < j
 ·rw [if_pos c] at e1 ⊢
  rw [wD (by lia)] at e1
  exact (ca e1).symm
 ·rw [if_neg c] at e1 ⊢
  rw [wD hk] at e1
  exact (ca e1).symm
theorem QI {st:SortSt} {p:Array Nat} {lo nrem:Nat} {Q:Option Nat→SortSt→Prop} (S:SO lt N) (hc:xY prog w A s κ it lt N) (h:SAZ κ it N p st) (h1:1≤nrem) (h2:lo + nrem≤N)
  (q:∀ m p',1≤m→m≤nrem→SAZ κ it N p' (setArr st (p'.map it))→(∀ i,i < lo→gt p' i=gt p i)→RiseSZ lt p' lo m→Q (some m) (setArr st (p'.map it))) :
  wpS (model prog w) A E s (countRun' lo nrem) Q st:=by
 have sz:=h.pp.size
 have st0:setArr st (p.map it)=st:=by rw [← h.a]
 refine bG (dR (c8 (fun x c st'=>st=st'∧c=(none,x)∧RiseSZ lt p lo x) (Q:=fun c st'=>st=st'∧∃ m,c=(none,m)∧1≤m∧m≤nrem∧RiseSZ lt p lo m∧(m < nrem→lt (gt p (lo + m)) (gt p (lo + m - 1))=true)) ?step ?fin ⟨rfl,rfl,fun i j hij hj=>by lia⟩) ?post)
 case step =>
  rintro x c st' hx1 hx ⟨rfl,rfl,r⟩
  dsimp only
  refine bG (qX hc h (by lia) (by lia) (by lia) ?_)
  dsimp only
  cases e:lt (gt p (lo + x)) (gt p (lo + x - 1)) with
  | true =>
   rw [if_pos rfl]
   exact bR ⟨rfl,x,rfl,hx1,by lia,r,fun _=>e⟩
  | false =>
   rw [if_neg (by decide)]
   exact bR ⟨rfl,rfl,X6 S h.pp r hx1 (by lia) e⟩
 case fin =>
  rintro c st' ⟨rfl,rfl,r⟩
  exact ⟨rfl,_,rfl,by lia,by lia,r,fun z=>by lia⟩
 case post =>
  rintro c st' ⟨rfl,m,rfl,m1,m2,r,tn⟩
  dsimp only
  by_cases c1:(m == nrem)=true
  ·rw [if_pos c1]
   refine bR ?_
   have:=q m p m1 m2 (h.set h.pp) (fun _ _=>rfl) r
   rw [st0] at this
   exact this
  ·rw [if_neg c1]
   have c1':m≠nrem:=by simpa using c1
   by_cases c2:m > 1
   ·rw [if_pos c2]
    refine bG (qX hc h (by lia) (by lia) (by lia) ?_)
    dsimp only
    have ro:=r 0 (m - 1) (by lia) (by lia)
    rw [Nat.add_zero,show lo + (m - 1)=lo + m - 1 by lia] at ro
    rw [ro,if_pos rfl]
    refine bR ?_
    have:=q m p m1 m2 (h.set h.pp) (fun _ _=>rfl) r
    rw [st0] at this
    exact this
   ·rw [if_neg c2]
    obtain rfl:m=1:=by lia
    have dn:=tn (by lia)
    refine bG (mV (gR ⟨rfl,?_⟩))
    -- the part that falls
    refine bG (dR (c8 (fun x c st'=>st=st'∧c=(none,x,0)∧∀ i j,i < j→j < x→lt (gt p (lo + j)) (gt p (lo + i))=true) (Q:=fun c st'=>st=st'∧∃ x,c=(none,x,0)∧2≤x∧x≤nrem∧∀ i j,i < j→j < x→lt (gt p (lo + j)) (gt p (lo + i))=true) ?step2 ?fin2 ⟨rfl,rfl,fun i j hij hj=>(by
     obtain rfl:j=1:=by lia
     obtain rfl:i=0:=by lia
     exact dn)⟩) ?post2)
    case step2 =>
     rintro x c st' hx1 hx ⟨rfl,rfl,f⟩
     dsimp only
     refine bG (qX hc h (by lia) (by lia) (by lia) ?_)
     dsimp only
     cases e:lt (gt p (lo + x)) (gt p (lo + x - 1)) with
     | true =>
      rw [if_pos rfl,if_neg (by decide)]
      refine bR ⟨rfl,rfl,fun i j hij hj=>?_⟩
      by_cases e1:j < x
      ·exact f i j hij e1
      ·obtain rfl:j=x:=by lia
       by_cases e2:i=j - 1
       ·rw [e2,show lo + (j - 1)=lo + j - 1 by lia];exact e
       ·refine S.trans _ (gt p (lo + j - 1)) _ (h.pp.blt (by lia)) (h.pp.blt (by lia)) (h.pp.blt (by lia)) e ?_
        have:=f i (j - 1) (by lia) (by lia)
        rwa [show lo + (j - 1)=lo + j - 1 by lia] at this
     | false =>
      rw [if_neg (by decide)]
      refine bG (qX hc h (by lia) (by lia) (by lia) ?_)
      dsimp only
      have up:lt (gt p (lo + x - 1)) (gt p (lo + x))=true:=S.tot _ _ (h.pp.blt (by lia)) (h.pp.blt (by lia)) (fun z=>by have:=h.pp.inj (by lia) (by lia) z;lia) e
      rw [up,if_pos rfl]
      exact bR ⟨rfl,x,rfl,hx1,by lia,f⟩
    case fin2 =>
     rintro c st' ⟨rfl,rfl,f⟩
     exact ⟨rfl,_,rfl,by lia,by lia,f⟩
    case post2 =>
     rintro c st' ⟨rfl,x,rfl,x2,xn,f⟩
     dsimp only
     rw [if_neg (by decide)]
     refine bG (eF ?_)
     have es:(fun s=>setArr s (mirror (arrOf s) lo (lo + x) ((lo + x - lo) / 2))) st=setArr st ((mirror p lo (lo + x) ((lo + x - lo) / 2)).map it):=by
      show setArr st (mirror (arrOf st) lo (lo + x) ((lo + x - lo) / 2))=_
      rw [h.a,Ki]
     have hp':PP N (mirror p lo (lo + x) ((lo + x - lo) / 2)):=mv (mirror_perm _ _ _ _) h.pp
     have g':∀ k,k < N→gt (mirror p lo (lo + x) ((lo + x - lo) / 2)) k=if lo≤k∧k < lo + x then gt p (lo + (lo + x) - 1 - k) else gt p k:=fun k hk=>zdV (by lia) (by lia)
     show wpS (model prog w) A E s _ Q ((fun s=>setArr s (mirror (arrOf s) lo (lo + x) ((lo + x - lo) / 2))) st)
     rw [es]
     generalize mirror p lo (lo + x) ((lo + x - lo) / 2)=p' at *
     have h':=h.set hp'
     have r':RiseSZ lt p' lo x:=fun i j hij hj=>by
      rw [g' _ (by lia),g' _ (by lia),if_pos ⟨by lia,by lia⟩,if_pos ⟨by lia,by lia⟩]
      have:=f (x - 1 - j) (x - 1 - i) (by lia) (by lia)
      rwa [show lo + (x - 1 - i)=lo + (lo + x) - 1 - (lo + i) by lia,show lo + (x - 1 - j)=lo + (lo + x) - 1 - (lo + j) by lia] at this
     have kp:∀ i,i < lo→gt p' i=gt p i:=fun i hi=>by rw [g' i (by lia),if_neg (by lia)]
     refine bG (dR (c8 (fun y c st'=>setArr st (p'.map it)=st'∧c=(none,y)∧RiseSZ lt p' lo y) (Q:=fun c st'=>setArr st (p'.map it)=st'∧∃ m,c=(none,m)∧1≤m∧m≤nrem∧RiseSZ lt p' lo m) ?step3 ?fin3 ⟨rfl,rfl,r'⟩) ?post3)
     case step3 =>
      rintro y c st' hy1 hy ⟨rfl,rfl,r⟩
      dsimp only
      refine bG (qX hc h' (by lia) (by lia) (by lia) ?_)
      dsimp only
      cases e:lt (gt p' (lo + y)) (gt p' (lo + y - 1)) with
      | true =>
       rw [if_pos rfl]
       exact bR ⟨rfl,y,rfl,by lia,by lia,r⟩
      | false =>
       rw [if_neg (by decide)]
       exact bR ⟨rfl,rfl,X6 S hp' r (by lia) (by lia) e⟩
     case fin3 =>
      rintro c st' ⟨rfl,rfl,r⟩
      exact ⟨rfl,_,rfl,by lia,by lia,r⟩
     case post3 =>
      rintro c st' ⟨rfl,m,rfl,m1,m2,r⟩
      exact bR (q m p' m1 m2 h' kp r)
theorem zcq {st:SortSt} {p:Array Nat} {lo n ok:Nat} {Q:Bool→SortSt→Prop} (S:SO lt N) (hc:xY prog w A s κ it lt N) (h:SAZ κ it N p st) (h1:1≤ok) (h2:ok≤n) (h3:lo + n≤N) (r:RiseSZ lt p lo ok)
  (q:∀ p',SAZ κ it N p' (setArr st (p'.map it))→(∀ i,i < lo→gt p' i=gt p i)→RiseSZ lt p' lo n→Q true (setArr st (p'.map it))) :
  wpS (model prog w) A E s (binarySort' lo n ok) Q st:=by
 have sz:=h.pp.size
 refine bG (dR (c8 (fun x c st'=>∃ p',setArr st (p'.map it)=st'∧c=(none,())∧PP N p'∧(∀ i,i < lo→gt p' i=gt p i)∧RiseSZ lt p' lo x) (Q:=fun c st'=>∃ p',setArr st (p'.map it)=st'∧c=(none,())∧PP N p'∧(∀ i,i < lo→gt p' i=gt p i)∧RiseSZ lt p' lo n) ?step ?fin ⟨p,by rw [← h.a],rfl,h.pp,fun _ _=>rfl,by rw [Nat.max_eq_left h1];exact r⟩) ?post)
 case fin =>
  rintro c st' ⟨p',rfl,rfl,hp,kp,r⟩
  exact ⟨p',rfl,rfl,hp,kp,by rw [show max (max ok 1) n=n by lia] at r;exact r⟩
 case post =>
  rintro c st' ⟨p',rfl,rfl,hp,kp,r⟩
  exact bR (q p' (h.set hp) kp r)
 case step =>
  rintro x c st' hx1 hx ⟨p',rfl,rfl,hp,kp,r⟩
  dsimp only
  have h':=h.set hp
  have sz':=hp.size
  refine bG (dR (c8 (fun y c st2=>setArr st (p'.map it)=st2∧∃ l u,c=(none,l,u)∧l≤u∧u≤x∧u - l≤x - y∧(∀ i,i < l→lt (gt p' (lo + i)) (gt p' (lo + x))=true)∧(∀ i,u≤i→i < x→lt (gt p' (lo + x)) (gt p' (lo + i))=true)) (Q:=fun c st2=>setArr st (p'.map it)=st2∧∃ l u,c=(none,l,u)∧l≤x∧(∀ i,i < l→lt (gt p' (lo + i)) (gt p' (lo + x))=true)∧(∀ i,l≤i→i < x→lt (gt p' (lo + x)) (gt p' (lo + i))=true)) ?step1 ?fin1 ⟨rfl,0,x,rfl,by lia,by lia,by lia,fun i hi=>by lia,fun i h1 h2=>by lia⟩) ?post1)
  case fin1 =>
   rintro c st2 ⟨rfl,l,u,rfl,a1,a2,a3,a4,a5⟩
   have:l=u:=by lia
   subst this
   exact ⟨rfl,l,l,rfl,a2,a4,a5⟩
  case step1 =>
   rintro y c st2 _ hy ⟨rfl,l,u,rfl,a1,a2,a3,a4,a5⟩
   dsimp only
   by_cases c1:l ≥ u
   ·rw [if_pos c1]
    have:l=u:=by lia
    subst this
    exact bR ⟨rfl,l,l,rfl,a2,a4,a5⟩
   ·rw [if_neg c1]
    refine bG (qX hc h' (by lia) (by lia) (by lia) ?_)
    dsimp only
    cases e:lt (gt p' (lo + x)) (gt p' (lo + (l + u) / 2)) with
    | true =>
     rw [if_pos rfl]
     refine bR ⟨rfl,l,(l + u) / 2,rfl,by lia,by lia,by lia,a4,fun i h1 h2=>?_⟩
     by_cases d:i=(l + u) / 2
     ·rw [d];exact e
     ·exact S.trans _ _ _ (hp.blt (by lia)) (hp.blt (by lia)) (hp.blt (by lia)) e (r _ _ (by lia) h2)
    | false =>
     rw [if_neg (by decide)]
     have up:=S.tot _ _ (hp.blt (by lia)) (hp.blt (by lia)) (fun z=>by have:=hp.inj (by lia) (by lia) z;lia) e
     refine bR ⟨rfl,(l + u) / 2 + 1,u,rfl,by lia,a2,by lia,fun i hi=>?_,a5⟩
     by_cases d:i=(l + u) / 2
     ·rw [d];exact up
     ·exact S.trans _ _ _ (hp.blt (by lia)) (hp.blt (by lia)) (hp.blt (by lia)) (r _ _ (by lia) (by lia)) up
  case post1 =>
   rintro c st2 ⟨rfl,l,u,rfl,a1,a2,a3⟩
   dsimp only
   refine bG (eF ?_)
   have es:(fun s=>setArr s (bubble (arrOf s) (lo + x) (lo + x - (lo + l)))) (setArr st (p'.map it))=setArr st ((bubble p' (lo + x) (lo + x - (lo + l))).map it):=by
    show setArr _ (bubble (p'.map it) _ _)=_
    rw [Kj]
   show wpS (model prog w) A E s _ _ ((fun s=>setArr s (bubble (arrOf s) (lo + x) (lo + x - (lo + l)))) (setArr st (p'.map it)))
   rw [es]
   have g':∀ j,j < N→gt (bubble p' (lo + x) (lo + x - (lo + l))) j=if j=lo + l then gt p' (lo + x) else if lo + l < j∧j≤lo + x then gt p' (j - 1) else gt p' j:=fun j hj=>by
    have:=zfd (p:=p') (k:=lo + x) (d:=lo + x - (lo + l)) (j:=j) (by lia) (by lia) (by lia)
    rwa [show lo + x - (lo + x - (lo + l))=lo + l by lia] at this
   have hp':PP N (bubble p' (lo + x) (lo + x - (lo + l))):=mv (bubble_perm _ _ _) hp
   generalize bubble p' (lo + x) (lo + x - (lo + l))=p2 at *
   refine bR ⟨p2,rfl,rfl,hp',fun i hi=>?_,fun i j hij hj=>?_⟩
   ·rw [g' i (by lia),if_neg (by lia),if_neg (by lia)];exact kp i hi
   ·rw [g' _ (by lia),g' _ (by lia)]
    by_cases c1:i=l
    ·rw [if_pos (by lia),if_neg (by lia),if_pos (by lia),show lo + j - 1=lo + (j - 1) by lia]
     exact a3 _ (by lia) (by lia)
    ·rw [if_neg (by lia)]
     by_cases c2:l < i∧i≤x
     ·rw [if_pos (by lia),if_neg (by lia),if_pos (by lia),show lo + j - 1=lo + (j - 1) by lia,show lo + i - 1=lo + (i - 1) by lia]
      exact r _ _ (by lia) (by lia)
     ·rw [if_neg (by lia)]
      by_cases c3:j=l
      ·rw [if_pos (by lia)];exact a2 _ (by lia)
      ·rw [if_neg (by lia)]
       by_cases c4:l < j∧j≤x
       ·rw [if_pos (by lia),show lo + j - 1=lo + (j - 1) by lia]
        exact r _ _ (by lia) (by lia)
       ·rw [if_neg (by lia)]
        exact r _ _ hij (by lia)
end
theorem Vy {α:Type} (off:Nat):∀ (l:List α) (arr:Array α) (j:Nat),off + j + l.length≤arr.size→(l.zipIdx j).foldl (fun a x=>match x with | (p,j)=>a.setIfInBounds (off + j) p) arr=(arr.toList.take (off + j) ++ l ++ arr.toList.drop (off + j + l.length)).toArray
 | [],arr,j,h=>by simp
 | x :: t,arr,j,h=>by
  rw [ck] at h
  rw [List.zipIdx_cons,eR]
  have e:=Vy off t (arr.setIfInBounds (off + j) x) (j + 1) (by simp;lia)
  dsimp only at e ⊢
  rw [e]
  congr 1
  have es:(arr.setIfInBounds (off + j) x).toList=arr.toList.take (off + j) ++ x :: arr.toList.drop (off + j + 1):=by
   rw [Array.toList_setIfInBounds,List.set_eq_take_append_cons_drop,if_pos (by simp;lia)]
  have lt:(arr.toList.take (off + j)).length=off + j:=by rw [cE,cm];lia
  have a1:∀ (U D:List α) (n:Nat),U.length=n→(U ++ x :: D).take (n + 1)=U ++ [x]:=fun U D n h=>by
   rw [List.take_append,cB (by lia),show n + 1 - U.length=1 by lia];rfl
  have a2:∀ (U D:List α) (n k:Nat),U.length=n→(U ++ x :: D).drop (n + 1 + k)=D.drop k:=fun U D n k h=>by
   rw [List.drop_append,fm (by lia),show n + 1 + k - U.length=k + 1 by lia];rfl
  rw [es,show off + (j + 1)=(off + j) + 1 by lia,a1 _ _ _ lt,a2 _ _ _ _ lt,fZ,ck,show off + j + 1 + t.length=off + j + (t.length + 1) by lia]
  simp
section
variable {prog:Program} {w:World} {A:Around} {E:Value→Shared→Prop} {s:Shared} {κ:SortKind} {it:Nat→Keyed} {lt:Nat→Nat→Bool} {N:Nat}
theorem Jh (p:Array Nat):p.map it=imZ it p.toList:=by apply gg.mp;simp [imZ]
theorem zcr {M:Model} {st st':SortSt} {Q:PUnit→SortSt→Prop} (q:Q ⟨⟩ st'):wpS M A E s (set st':SMZ PUnit) Q st:=by
 unfold wpS
 exact bj ⟨rfl,q⟩
theorem qc {p:Array Nat} {k:Nat} (h:k < p.size):p.toList[k]?=some (gt p k):=by
 rw [dA];exact wD h
theorem wE {p:Array Nat} {lo m i:Nat} (h:lo + m≤p.size) (hi:i < m):((p.toList.drop lo).take m)[i]?=some (gt p (lo + i)):=by
 rw [dy hi,dC,qc (by lia)]
theorem Yc {p:Array Nat} {lo m:Nat} (h:lo + m≤p.size):((p.toList.drop lo).take m).length=m:=by
 rw [cE,cR,cm];lia
theorem xF {p:Array Nat} {lo m x:Nat} (h:lo + m≤p.size) (hx:x∈(p.toList.drop lo).take m):∃ i,i < m∧x=gt p (lo + i):=by
 obtain ⟨i,hi⟩:=dD hx
 have il:=(bp.mp hi).1
 rw [Yc h] at il
 rw [wE h il] at hi
 exact ⟨i,il,(ca hi).symm⟩
theorem zaH {p:Array Nat} {lo m i:Nat} (h:lo + m≤p.size) (hi:i < m):gt p (lo + i)∈(p.toList.drop lo).take m:=bF (wE h hi)
theorem qY {p:Array Nat} {lo m:Nat} (h:lo + m≤p.size) (r:RiseSZ lt p lo m):((p.toList.drop lo).take m).Pairwise fun x y=>lt x y=true:=by
 rw [cO]
 intro i j hi hj hij
 rw [Yc h] at hi hj
 have gi:=bp.mp (wE h hi)
 have gj:=bp.mp (wE h hj)
 rw [gi.2,gj.2]
 exact r i j hij hj
theorem RiseSZ.sub {p:Array Nat} {lo m k n:Nat} (r:RiseSZ lt p lo m) (h:k + n≤m):RiseSZ lt p (lo + k) n:=fun i j hij hj=>by
 have:=r (k + i) (k + j) (by lia) (by lia)
 rwa [← iG,← iG] at this
theorem RiseSZ.same {p p':Array Nat} {lo m:Nat} (r:RiseSZ lt p lo m) (h:∀ i,i < m→gt p' (lo + i)=gt p (lo + i)):RiseSZ lt p' lo m:=fun i j hij hj=>by
 rw [h i (by lia),h j hj];exact r i j hij hj
def wu (p:Array Nat) (off:Nat) (m:List Nat):Array Nat:=(p.toList.take off ++ m ++ p.toList.drop (off + m.length)).toArray
theorem zdW {p:Array Nat} {off:Nat} {m:List Nat} (h:off + m.length≤p.size) {k:Nat} (hk:k < p.size):gt (wu p off m) k=if off≤k∧k < off + m.length then m.getD (k - off) 0 else gt p k:=by
 have lt:(p.toList.take off).length=off:=by rw [cE,cm];lia
 have e:gt (wu p off m) k=((p.toList.take off ++ m ++ p.toList.drop (off + m.length))[k]?).getD 0:=by
  unfold gt wu
  rw [iU]
  simp
 rw [e]
 by_cases c1:k < off
 ·rw [if_neg (by lia),cg,dm (by lia),dy c1,qc hk];rfl
 ·by_cases c2:k < off + m.length
  ·rw [if_pos ⟨by lia,c2⟩,cg,cW (by lia),lt,dm (by lia),bo]
  ·rw [if_neg (by lia),cg,cW (by lia),lt,cW (by lia),dC,show off + m.length + (k - off - m.length)=k by lia,qc hk];rfl
theorem zbp {p:Array Nat} {off:Nat} {m:List Nat} (hp:PP N p) (h:m.Perm ((p.toList.drop off).take m.length)):PP N (wu p off m):=by
 refine mv ?_ hp
 rw [Array.perm_iff_toList_perm]
 unfold wu
 show (p.toList.take off ++ m ++ p.toList.drop (off + m.length)).Perm p.toList
 have e:p.toList=p.toList.take off ++ (p.toList.drop off).take m.length ++ p.toList.drop (off + m.length):=by
  rw [cg,← fZ,dO,dO]
 conv=>rhs;rw [e]
 exact fo _ (fG _ h)
theorem Ji {st:SortSt} {p:Array Nat} {pre post:List (Nat × Nat × Nat)} {sa na pw sb nb pw2 i:Nat} {Q:Bool→SortSt→Prop} (S:SO lt N) (hc:xY prog w A s κ it lt N) (h:SAZ κ it N p st) (hpd:pendingOf st=(pre ++ (sa,na,pw) :: (sb,nb,pw2) :: post).toArray) (hi:i=pre.length) (e:sb=sa + na) (r1:RiseSZ lt p sa na) (r2:RiseSZ lt p sb nb) (n1:0 < na) (n2:0 < nb) (hN:sb + nb≤N)
  (q:∀ p' st',SAZ κ it N p' st'→pendingOf st'=(pre ++ (sa,na + nb,pw) :: post).toArray→(∀ k,k < N→k < sa∨sa + na + nb≤k→gt p' k=gt p k)→RiseSZ lt p' sa (na + nb)→Q true st') :
  wpS (model prog w) A E s (mergeAt' i) Q st:=by
 subst hi
 have sz:=h.pp.size
 refine bG (wpS_get ?_)
 have g1:(pendingOf st)[pre.length]?=some (sa,na,pw):=by rw [hpd];simp
 have g2:(pendingOf st)[pre.length + 1]?=some (sb,nb,pw2):=by rw [hpd];simp
 have pd':((pendingOf st).setIfInBounds pre.length (sa,na + nb,pw)).eraseIdxIfInBounds (pre.length + 1)=(pre ++ (sa,na + nb,pw) :: post).toArray:=by
  rw [hpd]
  apply gg.mp
  simp only [List.setIfInBounds_toArray,gQ]
  rw [List.set_append_right _ _ (bu _),Nat.sub_self,bE,List.eraseIdx_append_of_length_le (by lia),show pre.length + 1 - pre.length=1 by lia]
  rfl
 rw [g1,g2]
 dsimp only
 refine bG (zcr ?_)
 rw [pd']
 have hA:arrOf st=imZ it p.toList:=by rw [h.a,Jh]
 have gb0:=h.pp.blt (k:=sb) (by lia)
 have inj:∀ {k l:Nat},k < N→l < N→k≠l→gt p k≠gt p l:=fun hk hl n z=>n (h.pp.inj hk hl z)
 have hA':(sortPriv% PySem.Builtin.SortState.a) st=imZ it p.toList:=hA
 rw [hA']
 refine bG (zS (yp (qc (k:=sb) (by lia))) ?_)
 show wpS (model prog w) A E s _ Q (iI (kindOf st) (imZ it p.toList) (pre ++ (sa,na + nb,pw) :: post).toArray (gallopOf st) (failedOf st))
 generalize est:iI (kindOf st) (imZ it p.toList) (pre ++ (sa,na + nb,pw) :: post).toArray (gallopOf st) (failedOf st)=st1
 have h1:SAZ κ it N p st1:=by rw [← est];exact ⟨h.k,h.f,(Jh p).symm,h.pp⟩
 have hp1:pendingOf st1=(pre ++ (sa,na + nb,pw) :: post).toArray:=by rw [← est]
 refine bG (xM S hc h1.k gb0 (fun x hx=>?_) (qY (by lia) r1) (by rw [cm];lia) n1 fun k hk lo hi=>?_)
 ·obtain ⟨j,hj,rfl⟩:=xF (by lia) hx
  exact ⟨h.pp.blt (by lia),inj (by lia) (by lia) (by lia)⟩
 dsimp only
 -- the first part's ones ahead of all of the second part's
 have loA:∀ j,j < k→lt (gt p (sa + j)) (gt p sb)=true:=fun j hj=>lo _ (zaH (by lia) hj)
 have hiA:∀ j,k≤j→j < na→lt (gt p sb) (gt p (sa + j))=true:=fun j h1 h2=>by
  refine hi _ ?_
  refine bF (i:=j - k) ?_
  rw [dC,show k + (j - k)=j by lia,wE (by lia) h2]
 have below:∀ j l,j < k→l < nb→lt (gt p (sa + j)) (gt p (sb + l))=true:=fun j l hj hl=>by
  by_cases c:l=0
  ·rw [c];exact loA j hj
  ·have:=r2 0 l (by lia) hl
   exact S.trans _ (gt p sb) _ (h.pp.blt (by lia)) gb0 (h.pp.blt (by lia)) (loA j hj) this
 by_cases c1:(na - k == 0)=true
 ·rw [if_pos c1]
  have c1':na - k=0:=by simpa using c1
  refine bR (q p st1 h1 hp1 (fun _ _ _=>rfl) fun i j hij hj=>?_)
  by_cases d1:j < na
  ·exact r1 i j hij d1
  ·have ej:sa + j=sb + (j - na):=by lia
   by_cases d2:i < na
   ·rw [ej];exact below i (j - na) (by lia) (by lia)
   ·rw [ej,show sa + i=sb + (i - na) by lia]
    exact r2 _ _ (by lia) (by lia)
 ·rw [if_neg c1]
  have c1':na - k≠0:=by simpa using c1
  have el:sa + k + (na - k) - 1=sb - 1:=by lia
  rw [el]
  refine bG (zS (yp (qc (k:=sb - 1) (by lia))) ?_)
  refine bG (xM S hc h1.k (h.pp.blt (k:=sb - 1) (by lia)) (fun x hx=>?_) (qY (by lia) r2) (by rw [cm];lia) (by lia) fun l hl lo2 hi2=>?_)
  ·obtain ⟨j,hj,rfl⟩:=xF (by lia) hx
   exact ⟨h.pp.blt (by lia),inj (by lia) (by lia) (by lia)⟩
  dsimp only
  have loB:∀ j,j < l→lt (gt p (sb + j)) (gt p (sb - 1))=true:=fun j hj=>lo2 _ (zaH (by lia) hj)
  have hiB:∀ j,l≤j→j < nb→lt (gt p (sb - 1)) (gt p (sb + j))=true:=fun j h1 h2=>by
   refine hi2 _ ?_
   refine bF (i:=j - l) ?_
   rw [dC,show l + (j - l)=j by lia,wE (by lia) h2]
  have above:∀ j i,l≤j→j < nb→i < na→lt (gt p (sa + i)) (gt p (sb + j))=true:=fun j i h1 h2 h3=>by
   by_cases c:i=na - 1
   ·rw [c,show sa + (na - 1)=sb - 1 by lia];exact hiB j h1 h2
   ·have:=r1 i (na - 1) (by lia) (by lia)
    rw [show sa + (na - 1)=sb - 1 by lia] at this
    exact S.trans _ (gt p (sb - 1)) _ (h.pp.blt (by lia)) (h.pp.blt (by lia)) (h.pp.blt (by lia)) this (hiB j h1 h2)
  by_cases c2:(l == 0)=true
  ·rw [if_pos c2]
   have c2':l=0:=by simpa using c2
   refine bR (q p st1 h1 hp1 (fun _ _ _=>rfl) fun i j hij hj=>?_)
   by_cases d1:j < na
   ·exact r1 i j hij d1
   ·have ej:sa + j=sb + (j - na):=by lia
    by_cases d2:i < na
    ·rw [ej];exact above (j - na) i (by lia) (by lia) d2
    ·rw [ej,show sa + i=sb + (i - na) by lia]
     exact r2 _ _ (by lia) (by lia)
  ·rw [if_neg c2]
   have c2':l≠0:=by simpa using c2
   rw [vT,vT,show sb - (sa + k)=na - k by lia,show sb + l - sb=l by lia]
   have rA:RiseSZ lt p (sa + k) (na - k):=r1.sub (by lia)
   have rB:RiseSZ lt p sb l:=fun i j hij hj=>r2 i j hij (by lia)
   have lA:=Yc (p:=p) (lo:=sa + k) (m:=na - k) (by lia)
   have lB:=Yc (p:=p) (lo:=sb) (m:=l) (by lia)
   have P:MPreZ lt N ((p.toList.drop (sa + k)).take (na - k)) ((p.toList.drop sb).take l):=by
    refine ⟨qY (by lia) rA,qY (by lia) rB,fun x hx=>?_,fun x hx=>?_,fun x hx y hy=>?_,by lia,by lia,fun y hy=>?_,fun x hx=>?_⟩
    ·obtain ⟨j,hj,rfl⟩:=xF (by lia) hx
     exact h.pp.blt (by lia)
    ·obtain ⟨j,hj,rfl⟩:=xF (by lia) hx
     exact h.pp.blt (by lia)
    ·obtain ⟨j,hj,rfl⟩:=xF (by lia) hx
     obtain ⟨j',hj',rfl⟩:=xF (by lia) hy
     exact inj (by lia) (by lia) (by lia)
    ·obtain ⟨j,hj,rfl⟩:=xF (by lia) hy
     have eb:((p.toList.drop sb).take l).getD 0 0=gt p sb:=by rw [bo,wE (by lia) (by lia)];rfl
     rw [eb,show sa + k + j=sa + (k + j) by lia]
     exact hiA _ (by lia) (by lia)
    ·obtain ⟨j,hj,rfl⟩:=xF (by lia) hx
     have ea:((p.toList.drop (sa + k)).take (na - k)).getD (((p.toList.drop (sa + k)).take (na - k)).length - 1) 0=gt p (sb - 1):=by
      rw [lA,bo,wE (by lia) (by lia),show sa + k + (na - k - 1)=sb - 1 by lia];rfl
     rw [ea]
     exact loB j hj
   have fin:∀ m st',YA lt ((p.toList.drop (sa + k)).take (na - k)) ((p.toList.drop sb).take l) m→xL κ st1 st'→wpS (model prog w) A E s (do
     modify fun z=>setArr z ((imZ it m).toList.zipIdx.foldl (fun a x=>match x with | (p,j)=>a.setIfInBounds (sa + k + j) p) (arrOf z))
     let z ← get
     pure (failedOf z).isNone:SMZ Bool) Q st':=by
    intro m st' R T
    have lm:m.length=na - k + l:=by have:=R.pe.length_eq;rw [bw,lA,lB] at this;exact this
    have ea:arrOf st'=imZ it p.toList:=by rw [T.a,h1.a,Jh]
    refine bG (eF (bG (wpS_get (bR ?_))))
    have ef:(imZ it m).toList.zipIdx.foldl (fun a x=>match x with | (p,j)=>a.setIfInBounds (sa + k + j) p) (arrOf st')=(wu p (sa + k) m).map it:=by
     rw [ea]
     have:=Vy (sa + k) (imZ it m).toList (imZ it p.toList) 0 (by
      have e1:(imZ it m).toList.length=m.length:=by simp [imZ]
      have e2:(imZ it p.toList).size=p.size:=by simp [imZ]
      lia)
     rw [this]
     unfold wu
     simp [imZ,iF,l5]
    show Q (failedOf (setArr st' ((imZ it m).toList.zipIdx.foldl (fun a x=>match x with | (p,j)=>a.setIfInBounds (sa + k + j) p) (arrOf st')))).isNone (setArr st' ((imZ it m).toList.zipIdx.foldl (fun a x=>match x with | (p,j)=>a.setIfInBounds (sa + k + j) p) (arrOf st')))
    rw [ef]
    have en:(failedOf (setArr st' ((wu p (sa + k) m).map it))).isNone=true:=by show (failedOf st').isNone=true;rw [T.f];rfl
    rw [en]
    have ab:(p.toList.drop (sa + k)).take (na - k) ++ (p.toList.drop sb).take l=(p.toList.drop (sa + k)).take m.length:=by
     rw [lm,List.take_add,fZ,show sa + k + (na - k)=sb by lia]
    have pp':PP N (wu p (sa + k) m):=zbp h.pp (by rw [← ab];exact R.pe)
    have gp:∀ j,j < N→gt (wu p (sa + k) m) j=if sa + k≤j∧j < sa + k + m.length then m.getD (j - (sa + k)) 0 else gt p j:=fun j hj=>zdW (by lia) (by lia)
    -- what lies in m
    have mm:∀ j,j < m.length→(∃ i,k≤i∧i < na∧m.getD j 0=gt p (sa + i))∨∃ i,i < l∧m.getD j 0=gt p (sb + i):=fun j hj=>by
     have gm:m[j]?=some (m.getD j 0):=by rw [bo,bg hj];rfl
     have:=R.pe.mem_iff.mp (bF gm)
     rcases bz.mp this with z | z
     ·obtain ⟨i,hi,e⟩:=xF (by lia) z
      exact .inl ⟨k + i,by lia,by lia,by rw [e,show sa + k + i=sa + (k + i) by lia]⟩
     ·obtain ⟨i,hi,e⟩:=xF (by lia) z
      exact .inr ⟨i,hi,e⟩
    refine q _ _ ⟨T.k,T.f,rfl,pp'⟩ (by show pendingOf st'=_;rw [T.p,hp1]) (fun j hj hc=>?_) fun i j hij hj=>?_
    ·rw [gp j hj,if_neg (by lia)]
    ·rw [gp _ (by lia),gp _ (by lia)]
     by_cases i1:i < k
     ·rw [if_neg (by lia)]
      by_cases j1:j < k
      ·rw [if_neg (by lia)];exact r1 i j hij (by lia)
      ·by_cases j2:j < na + l
       ·rw [if_pos ⟨by lia,by lia⟩]
        rcases mm (sa + j - (sa + k)) (by lia) with ⟨u,u1,u2,eu⟩ | ⟨u,u1,eu⟩
        ·rw [eu];exact r1 i u (by lia) u2
        ·rw [eu];exact below i u i1 (by lia)
       ·rw [if_neg (by lia),show sa + j=sb + (j - na) by lia]
        exact below i _ i1 (by lia)
     ·by_cases i2:i < na + l
      ·rw [if_pos ⟨by lia,by lia⟩]
       by_cases j2:j < na + l
       ·rw [if_pos ⟨by lia,by lia⟩]
        have a1:sa + i - (sa + k) < m.length:=by lia
        have a2:sa + j - (sa + k) < m.length:=by lia
        rw [bo,bo,bg a1,bg a2]
        exact cO.mp R.so _ _ a1 a2 (by lia)
       ·rw [if_neg (by lia),show sa + j=sb + (j - na) by lia]
        rcases mm (sa + i - (sa + k)) (by lia) with ⟨u,u1,u2,eu⟩ | ⟨u,u1,eu⟩
        ·rw [eu];exact above _ u (by lia) (by lia) u2
        ·rw [eu];exact r2 u _ (by lia) (by lia)
      ·rw [if_neg (by lia),if_neg (by lia),show sa + j=sb + (j - na) by lia,show sa + i=sb + (i - na) by lia]
       exact r2 _ _ (by lia) (by lia)
   have k1:xL κ st1 st1:=⟨h1.k,h1.f,rfl,rfl⟩
   by_cases c3:na - k≤l
   ·rw [if_pos c3]
    exact bG (Jf S hc k1 P fin)
   ·rw [if_neg c3]
    exact bG (Jg S hc k1 P fin)
end
abbrev RnZ:=Nat × Nat × Nat
def RunsZ (lt:Nat→Nat→Bool) (p:Array Nat):List RnZ→Nat→Nat→Prop
 | [],a,b=>a=b
 | x :: r,a,b=>x.1=a∧0 < x.2.1∧RiseSZ lt p a x.2.1∧RunsZ lt p r (a + x.2.1) b
section
variable {lt:Nat→Nat→Bool} {p p':Array Nat}
theorem RunsZ.app:∀ {L M:List RnZ} {a b:Nat},RunsZ lt p (L ++ M) a b↔∃ c,RunsZ lt p L a c∧RunsZ lt p M c b
 | [],M,a,b=>⟨fun h=>⟨a,rfl,h⟩,fun ⟨c,e,h⟩=>by cases e;exact h⟩
 | x :: L,M,a,b=>by
  constructor
  ·rintro ⟨h1,h2,h3,h4⟩
   obtain ⟨c,h5,h6⟩:=RunsZ.app.mp h4
   exact ⟨c,⟨h1,h2,h3,h5⟩,h6⟩
  ·rintro ⟨c,⟨h1,h2,h3,h5⟩,h6⟩
   exact ⟨h1,h2,h3,RunsZ.app.mpr ⟨c,h5,h6⟩⟩
theorem RunsZ.len:∀ {L:List RnZ} {a b:Nat},RunsZ lt p L a b→a + L.length≤b
 | [],a,b,h=>by have h:a=b:=h;simp;lia
 | x :: L,a,b,⟨h1,h2,h3,h4⟩=>by have:=RunsZ.len h4;simp;lia
theorem RunsZ.same:∀ {L:List RnZ} {a b:Nat},RunsZ lt p L a b→(∀ k,a≤k→k < b→gt p' k=gt p k)→RunsZ lt p' L a b
 | [],a,b,h,_=>h
 | x :: L,a,b,⟨h1,h2,h3,h4⟩,k=>by
  have:=RunsZ.len h4
  exact ⟨h1,h2,h3.same fun i hi=>k _ (by lia) (by lia),RunsZ.same h4 fun j h5 h6=>k j (by lia) h6⟩
theorem RunsZ.power {pw:Nat}:∀ {L:List RnZ} {a b:Nat} (k:Nat),RunsZ lt p L a b→RunsZ lt p (L.modify k fun x=>(x.1,x.2.1,pw)) a b
 | [],a,b,k,h=>by cases k <;> exact h
 | x :: L,a,b,0,⟨h1,h2,h3,h4⟩=>⟨h1,h2,h3,h4⟩
 | x :: L,a,b,k + 1,⟨h1,h2,h3,h4⟩=>⟨h1,h2,h3,RunsZ.power k h4⟩
end
section
variable {prog:Program} {w:World} {A:Around} {E:Value→Shared→Prop} {s:Shared} {κ:SortKind} {it:Nat→Keyed} {lt:Nat→Nat→Bool} {N:Nat}
structure SRZ (κ:SortKind) (it:Nat→Keyed) (lt:Nat→Nat→Bool) (N lo:Nat) (p:Array Nat) (L:List RnZ) (st:SortSt):Prop where
 h:SAZ κ it N p st
 d:pendingOf st=L.toArray
 r:RunsZ lt p L 0 lo
 l:lo≤N
theorem X7 {st:SortSt} {p:Array Nat} {L:List RnZ} {lo i:Nat} {Q:Bool→SortSt→Prop} (S:SO lt N) (hc:xY prog w A s κ it lt N) (h:SRZ κ it lt N lo p L st) (hi:i + 2≤L.length)
  (q:∀ p' L' st',SRZ κ it lt N lo p' L' st'→L'.length + 1=L.length→(∀ k,lo≤k→k < N→gt p' k=gt p k)→Q true st'):wpS (model prog w) A E s (mergeAt' i) Q st:=by
 obtain ⟨x,hx⟩:∃ x,L[i]?=some x:=⟨_,bg (by lia)⟩
 obtain ⟨y,hy⟩:∃ y,L[i + 1]?=some y:=⟨_,bg (by lia)⟩
 have e:L=L.take i ++ x :: y :: L.drop (i + 2):=by
  obtain ⟨l1,rfl⟩:=bp.mp hx
  obtain ⟨l2,rfl⟩:=bp.mp hy
  rw [← eN l2,← eN l1,dO]
 have lp:(L.take i).length=i:=by rw [cE];lia
 have r:=h.r
 have hd:=h.d
 rw [e] at r hd
 obtain ⟨c,r1,x1,x2,x3,y1,y2,y3,r2⟩:=RunsZ.app.mp r
 obtain ⟨sa,na,pw⟩:=x
 obtain ⟨sb,nb,pw2⟩:=y
 dsimp only at *
 subst x1
 subst y1
 have:=r2.len
 have hl:=h.l
 refine Ji S hc h.h hd lp.symm rfl x3 y3 x2 y2 (by lia) fun p' st' h' d' kp r'=>?_
 refine q p' (L.take i ++ (sa,na + nb,pw) :: L.drop (i + 2)) st' ⟨h',d',?_,hl⟩ ?_ fun k h1 h2=>kp k h2 (by lia)
 ·refine RunsZ.app.mpr ⟨sa,r1.same fun k h1 h2=>kp k (by lia) (by lia),rfl,by dsimp only;lia,r',?_⟩
  dsimp only
  rw [← iG]
  exact r2.same fun k h1 h2=>kp k (by lia) (by lia)
 ·have e2:=congrArg bP e
  simp only [bw,ck] at e2 ⊢
  lia
def zfY (size pw:Nat):SMZ (Option Unit × Unit) :=
 forIn [:size] (none,()) fun _ _=>do
  let z ← get
  match (if (pendingOf z).size > 1 then (pendingOf z)[(pendingOf z).size - 2]? else none) with
  | some (_,_,older)=>if older≤pw then pure (.done (none,())) else do
    let ok ← mergeAt' ((pendingOf z).size - 2)
    if (!ok)=true then pure (.done (some (),())) else pure (.yield (none,()))
  | _=>pure (.done (none,()))
theorem Kk {st:SortSt} {p:Array Nat} {L:List RnZ} {size lo n pw:Nat} {Q:Option Unit × Unit→SortSt→Prop} (S:SO lt N) (hc:xY prog w A s κ it lt N) (h:SRZ κ it lt N lo p L st) (n2:lo + n≤N) (r:RiseSZ lt p lo n) (q:∀ p' L' st',SRZ κ it lt N lo p' L' st'→RiseSZ lt p' lo n→Q (none,()) st'):wpS (model prog w) A E s (zfY size pw) Q st:=by
 unfold zfY
 refine c8 (fun _ c st'=>∃ p' L',c=(none,())∧SRZ κ it lt N lo p' L' st'∧RiseSZ lt p' lo n) ?_ ?_ ⟨p,L,rfl,h,r⟩
 ·rintro x c st' _ hx ⟨p',L',rfl,h',r'⟩
  refine bG (wpS_get ?_)
  by_cases c1:(pendingOf st').size > 1
  ·rw [if_pos c1]
   rw [h'.d,bJ] at c1
   obtain ⟨⟨a1,a2,a3⟩,ha⟩:∃ y,(pendingOf st')[(pendingOf st').size - 2]?=some y:=⟨_,by rw [h'.d];exact cw (by simp;lia)⟩
   rw [ha]
   dsimp only
   by_cases c2:a3≤pw
   ·rw [if_pos c2]
    exact bR (q p' L' st' h' r')
   ·rw [if_neg c2]
    refine bG (X7 S hc h' (by rw [h'.d,bJ];lia) fun p2 L2 st2 h2 _ kp=>?_)
    rw [if_neg (by decide)]
    exact bR ⟨p2,L2,rfl,h2,r'.same fun i hi=>kp _ (by lia) (by lia)⟩
  ·rw [if_neg c1]
   exact bR (q p' L' st' h' r')
 ·rintro c st' ⟨p',L',rfl,h',r'⟩
  exact q p' L' st' h' r'
theorem zbq {st:SortSt} {p:Array Nat} {Q:Unit→SortSt→Prop} (S:SO lt N) (hc:xY prog w A s κ it lt N) (h:SAZ κ it N p st) (hd:pendingOf st=#[]) (hN:1≤N) (q:∀ p' st',SAZ κ it N p' st'→X3 lt p' N→Q () st'):wpS (model prog w) A E s sortRuns' Q st:=by
 have sz:=h.pp.size
 have size:(arrOf st).size=N:=by rw [h.a,Array.size_map,sz]
 refine bG (wpS_get ?_)
 have size':((sortPriv% PySem.Builtin.SortState.a) st).size=N:=size
 rw [size']
 refine bG (dR (c8 (fun x c st'=>∃ p L lo,c=(none,lo)∧SRZ κ it lt N lo p L st'∧x≤lo) (Q:=fun c st'=>∃ p L,c=(none,N)∧SRZ κ it lt N N p L st') ?step ?fin ⟨p,[],0,rfl,⟨h,hd,rfl,by lia⟩,bu _⟩) ?post)
 case fin =>
  rintro c st' ⟨p,L,lo,rfl,h,hx⟩
  have:=h.l
  obtain rfl:lo=N:=by lia
  exact ⟨p,L,rfl,h⟩
 case step =>
  rintro x c st' _ hx ⟨p,L,lo,rfl,h,hxl⟩
  dsimp only
  have hl:=h.l
  by_cases c1:lo ≥ N
  ·rw [if_pos c1]
   obtain rfl:lo=N:=by lia
   exact bR ⟨p,L,rfl,h⟩
  ·rw [if_neg c1]
   refine bG (QI S hc h.h (by lia) (by lia) fun m p' m1 m2 h' kp r=>?_)
   dsimp only
   have R:SRZ κ it lt N lo p' L (setArr st' (p'.map it)):=⟨h',h.d,h.r.same fun k h1 h2=>kp k h2,hl⟩
   have fin:∀ {n:Nat} {p3:Array Nat} {L3:List RnZ} {st3:SortSt},0 < n→lo + n≤N→SRZ κ it lt N lo p3 L3 st3→RiseSZ lt p3 lo n→∃ p L lo',((none,lo + n):Option Unit × Nat)=(none,lo')∧SRZ κ it lt N lo' p L (setPending st3 ((pendingOf st3).push (lo,n,0)))∧x + 1≤lo':=fun {n p3 L3 st3} n1 n2 h3 r3=>by
    refine ⟨p3,L3 ++ [(lo,n,0)],lo + n,rfl,⟨⟨h3.h.k,h3.h.f,h3.h.a,h3.h.pp⟩,?_,RunsZ.app.mpr ⟨lo,h3.r,rfl,n1,r3,rfl⟩,n2⟩,by lia⟩
    show (pendingOf st3).push (lo,n,0)=_
    rw [h3.d];simp
   have hpw:∀ {pw:Nat} {p3:Array Nat} {L3:List RnZ} {st3:SortSt},SRZ κ it lt N lo p3 L3 st3→SRZ κ it lt N lo p3 (L3.modify (L3.length - 1) fun x=>(x.1,x.2.1,pw)) (setPending st3 ((pendingOf st3).modify ((pendingOf st3).size - 1) fun x=>(x.1,x.2.1,pw))):=fun {pw p3 L3 st3} h3=>by
    refine ⟨⟨h3.h.k,h3.h.f,h3.h.a,h3.h.pp⟩,?_,RunsZ.power _ h3.r,h3.l⟩
    have pe:∀ x,pendingOf (setPending st3 x)=x:=fun _=>rfl
    rw [pe,h3.d]
    simp
   generalize hmr:(sortPriv% PySem.Builtin.minRun) N N 0=mr
   by_cases c2:m < mr
   ·rw [if_pos c2]
    refine bG (mV (gR ⟨rfl,?_⟩))
    refine bG (zcq S hc h' m1 (by lia) (by lia) r fun p2 h2 kp2 r2=>?_)
    rw [if_neg (by decide)]
    have R2:SRZ κ it lt N lo p2 L (setArr (setArr st' (p'.map it)) (p2.map it)):=⟨h2,h.d,R.r.same fun k h1 h2=>kp2 k h2,hl⟩
    refine bG (wpS_get ?_)
    generalize ebk:((sortPriv% PySem.Builtin.SortState.pending) (setArr (setArr st' (p'.map it)) (p2.map it))).back?=bk
    cases bk with
    | none =>
     refine bG (eF (bR ?_))
     exact fin (by lia) (by lia) R2 r2
    | some y =>
     obtain ⟨s1,u1,u⟩:=y
     refine bG (Kk S hc R2 (by lia) r2 fun p3 L3 st3 h3 r3=>?_)
     refine bG (eF (bG (eF (bR ?_))))
     exact fin (by lia) (by lia) (hpw h3) r3
   ·rw [if_neg c2]
    refine bG (wpS_get ?_)
    generalize ebk:((sortPriv% PySem.Builtin.SortState.pending) (setArr st' (p'.map it))).back?=bk
    cases bk with
    | none =>
     refine bG (eF (bR ?_))
     exact fin (by lia) (by lia) R r
    | some y =>
     obtain ⟨s1,u1,u⟩:=y
     refine bG (Kk S hc R (by lia) r fun p3 L3 st3 h3 r3=>?_)
     refine bG (eF (bG (eF (bR ?_))))
     exact fin (by lia) (by lia) (hpw h3) r3
 case post =>
  rintro c st' ⟨p,L,rfl,h⟩
  dsimp only
  refine bG (dR (c8 (fun x c st'=>∃ p L,c=(none,())∧SRZ κ it lt N N p L st'∧L.length + x≤N + 1) (Q:=fun c st'=>∃ p L,c=(none,())∧SRZ κ it lt N N p L st'∧L.length≤1) ?step2 ?fin2 ⟨p,L,rfl,h,by have:=h.r.len;lia⟩) ?post2)
  case fin2 =>
   rintro c st' ⟨p,L,rfl,h,hl⟩
   exact ⟨p,L,rfl,h,by lia⟩
  case step2 =>
   rintro x c st' _ hx ⟨p,L,rfl,h,hl⟩
   refine bG (wpS_get ?_)
   have ps:(pendingOf st').size=L.length:=by rw [h.d,bJ]
   have ps':((sortPriv% PySem.Builtin.SortState.pending) st').size=L.length:=ps
   rw [ps']
   by_cases c1:L.length≤1
   ·rw [if_pos c1]
    exact bR ⟨p,L,rfl,h,c1⟩
   ·rw [if_neg c1]
    refine bG (X7 S hc h ?_ fun p2 L2 st2 h2 l2 _=>?_)
    ·have hh:∀ b:Bool,(if b=true then L.length - 2 - 1 else L.length - 2) + 2≤L.length:=fun b=>by cases b <;> simp <;> lia
     exact hh _
    ·rw [if_neg (by decide)]
     exact bR ⟨p2,L2,rfl,h2,by lia⟩
  case post2 =>
   rintro c st' ⟨p,L,rfl,h,hl⟩
   refine bR (q p st' h.h ?_)
   have r:=h.r
   match L,r,hl with
   | [],r,_=>exact absurd (show (0:Nat)=N from r) (by lia)
   | [x],⟨x1,x2,x3,x4⟩,_ =>
    have x4:0 + x.2.1=N:=x4
    intro i j hij hj
    have:=x3 i j hij (by lia)
    rwa [mP,mP] at this
end
def Kp (a:Addr) (h h':Heap):Prop:=∀ b o,b≠a→h.get? b=some o→h'.get? b=some o
def wF (vs:List Value) (p:Array Nat):List Value:=p.toList.map fun i=>vs.getD i cD
theorem Kl (vs:List Value):wF vs (nZ (dX vs.length))=vs:=by
 unfold wF
 apply fR
 intro i
 simp only [bQ]
 by_cases h:i < vs.length
 ·rw [bg (l:=vs) h]
  simp [iW h,h]
 ·rw [cU (by lia:vs.length≤i)]
  simp
  lia
section
variable {P:Program} {w:World} {A:Around} {E:Value→Shared→Prop} {s:Shared}
theorem zdX {vs:List Value} {κ:SortKind} {lt:Nat→Nat→Bool} {Q:SortSt→Shared→Prop} (h1:1≤vs.length) (S:SO lt vs.length) (hc:∀ i j C,i < vs.length→j < vs.length→i≠j→C (lt i j) s→kas_ask P w A κ vs i j C s)
  (q:∀ p st,arrOf st=p.map (kas_item (vs.toArray.zip vs.toArray))→failedOf st=none→PP vs.length p→X3 lt p vs.length→Q st s):wpAny (model P w) A ((sortRuns').run (iI κ (vs.toArray.zip vs.toArray) #[] 7 none)) (fun r s'=>Q r.2 s') E s:=by
 have e:=kas_range (vs.toArray.zip vs.toArray)
 rw [show (vs.toArray.zip vs.toArray).size=vs.length by simp] at e
 have hA:SAZ κ (kas_item (vs.toArray.zip vs.toArray)) vs.length (nZ (dX vs.length)) (iI κ (vs.toArray.zip vs.toArray) #[] 7 none):=⟨rfl,rfl,e.symm,oA _⟩
 have C:xY P w A s κ (kas_item (vs.toArray.zip vs.toArray)) lt vs.length:=fun i j C hi hj hij h=>by
  have:=hc i j C hi hj hij h
  rw [kat_ask_eq (vs:=vs) rfl] at this
  exact this
 exact db (zbq (E:=E) S C hA rfl h1 (Q:=fun _ st=>Q st s) fun p st h r=>q p st h.a h.f h.pp r) (fun r s' h=>by obtain ⟨rfl,h⟩:=h;exact h) fun _ _ e=>e
end
section
variable {P:Program} {w:World} {A:Around} {E:Value→Shared→Prop} {s:Shared}
theorem X8 {a:Addr} {vs:List Value} {n:Nat} {κ:SortKind} {lt:Nat→Nat→Bool} {R:PySem.Fin→Shared→Prop} (ho:s.heap.get? a=some (seqObj "list" vs.toArray n)) (h64:vs.length < 1000)
  (hk:2≤vs.length→∀ (h:Heap) (Q:SortKind→Shared→Prop),Kp a s.heap h→Q κ { s with heap:=h }→wpAny (model P w) A (keyKind' vs.toArray) Q (fun _ _=>False) { s with heap:=h })
  (hc:∀ (h:Heap) i j C,Kp a s.heap h→i < vs.length→j < vs.length→i≠j→C (lt i j) { s with heap:=h }→kas_ask P w A κ vs i j C { s with heap:=h }) (S:SO lt vs.length)
  (fin:∀ h p c,Kp a s.heap h→h.get? a=some (seqObj "list" (wF vs p).toArray c)→PP vs.length p→X3 lt p vs.length→R (.done (.ret .none)) { s with heap:=h }) :
  wpAny (model P w) A (Builtin.«list.sort» ⟨[.ref a],[]⟩) R E s:=by
 have ha:a < s.heap.objs.size:=bS ho
 obtain ⟨e1,o1⟩:∃ e1,(s.heap.update a (de fun _=>(#[]:Array Value))).get? a=some (seqObj "list" #[] e1):=⟨_,get?_update_seq ho fun _=>#[]⟩
 have k1:Kp a s.heap (((s.heap.update a (de fun _=>(#[]:Array Value))).push (seqObj "tuple" vs.toArray 0)).push (seqObj "list" #[] 0)):=fun b o hb e =>
  bn _ (bn _ ((dH _ _ (cA hb)).trans e))
 have o3:(((s.heap.update a (de fun _=>(#[]:Array Value))).push (seqObj "tuple" vs.toArray 0)).push (seqObj "list" #[] 0)).get? a=some (seqObj "list" #[] e1):=bn _ (bn _ o1)
 have last:∀ out:List Value,out.length=vs.length→∃ c,((((s.heap.update a (de fun _=>(#[]:Array Value))).push (seqObj "tuple" vs.toArray 0)).push (seqObj "list" #[] 0)).update a (de fun _=>out.toArray)).get? a=some (seqObj "list" out.toArray c):=fun out _=>⟨_,get?_update_seq o3 fun _=>out.toArray⟩
 have keep2:∀ out:List Value,Kp a s.heap ((((s.heap.update a (de fun _=>(#[]:Array Value))).push (seqObj "tuple" vs.toArray 0)).push (seqObj "list" #[] 0)).update a (de fun _=>out.toArray)):=fun out b o hb e =>
  (dH _ _ (cA hb)).trans (k1 b o hb e)
 rw [list_sort_plain];refine ba (listItems_at ho rfl ?_)
 refine ba (nH ho rfl ?_ (by rw [bJ,eL];lia) (b9 _));refine ba (seqEpoch_at o1 rfl ?_)
 refine ba (m4 ?_ (by show vs.length≤_;rw [eL];lia));refine ba (nI ?_ (b9 _));refine dM ?_
 show wpAny (model P w) A _ R E { s with heap:=((s.heap.update a (de fun _=>(#[]:Array Value))).push (seqObj "tuple" vs.toArray 0)).push (seqObj "list" #[] 0) }
 generalize hH:((s.heap.update a (de fun _=>(#[]:Array Value))).push (seqObj "tuple" vs.toArray 0)).push (seqObj "list" #[] 0)=g at *
 dsimp only
 have up:∀ out:List Value,out.length=vs.length→∀ p,out=wF vs p→PP vs.length p→X3 lt p vs.length→R (.done (.ret .none)) { s with heap:=g.update a (de fun _=>out.toArray) }:=fun out hl p e hp hr=>by
  obtain ⟨c,hcc⟩:=last out hl
  refine fin _ p c (keep2 out) ?_ hp hr
  rw [← e];exact hcc
 by_cases h2:vs.toArray.size < 2
 ·have hl2:vs.length < 2:=by simpa using h2
  rw [if_pos h2,if_pos h2];refine ba (bj ?_);rw [StateT.run_pure];refine ba (bj ?_)
  dsimp only
  have ez:((vs.toArray.zip vs.toArray).map (·.2))=vs.toArray:=by
   apply gg.mp
   rw [Array.toList_map,Array.toList_zip]
   simp [List.map_snd_zip]
  refine ba (seqEpoch_at o3 rfl ?_)
  rw [show (arrOf (iI general' (vs.toArray.zip vs.toArray) #[] 7 none))=vs.toArray.zip vs.toArray from rfl,ez]
  refine ba (nH o3 rfl ?_ (b9 _) (by rw [bJ,eL];lia))
  simp only [bne_self_eq_false,cr,if_false]
  exact bj (up vs rfl _ (Kl vs).symm (oA _) fun i j hij hj=>by lia)
 ·have hl2:2≤vs.length:=by simpa using h2
  rw [if_neg h2,if_neg h2];refine ba (db (hk hl2 g (fun κ' s'=>κ'=κ∧s'={ s with heap:=g }) k1 ⟨rfl,rfl⟩) (fun κ' s' hs=>?_) fun _ _ x=>x.elim)
  obtain ⟨rfl,rfl⟩:=hs
  refine ba (db (zdX (s:={ s with heap:=g }) (vs:=vs) (κ:=κ') (lt:=lt) (Q:=fun st s'=>∃ p:Array Nat,arrOf st=p.map (kas_item (vs.toArray.zip vs.toArray))∧failedOf st=none∧s'={ s with heap:=g }∧PP vs.length p∧X3 lt p vs.length) (by lia) S (fun i j C hi hj hij hC=>hc g i j C k1 hi hj hij hC) fun p st a2 a3 a4 a5=>⟨p,a2,a3,rfl,a4,a5⟩) ?_ fun _ _ e=>e)
  rintro ⟨⟨⟩,st⟩ s' ⟨p,har,hf,rfl,hp,hr⟩
  dsimp only
  have out:=kat_snds (ks:=vs) rfl har
  have ol:(wF vs p).length=vs.length:=by unfold wF;rw [bB,cm,hp.size]
  rw [out];refine ba (seqEpoch_at o3 rfl ?_)
  refine ba (nH o3 rfl ?_ (b9 _) (by show (nZ (wF vs p)).size≤_;rw [bJ,ol,eL];lia));rw [hf]
  simp only [bne_self_eq_false,cr,if_false]
  exact bj (up (wF vs p) ol p rfl hp hr)
theorem Y6 {l:Addr} {vs:List Value} {κ:SortKind} {lt:Nat→Nat→Bool} {Q:Value→Shared→Prop} (h64:vs.length < 1000) (S:SO lt vs.length)
  (coll:∀ R:List Value→Shared→Prop,(∀ (h:Heap) (tk:Nat),(∀ b o,s.heap.get? b=some o→h.get? b=some o)→R vs { s with heap:=h,toks:=tk })→wpAny (model P w) A.in1 (collect (.ref l)) R E s)
  (hk:2≤vs.length→∀ (h:Heap) (tk:Nat) (Q:SortKind→Shared→Prop),(∀ b o,s.heap.get? b=some o→h.get? b=some o)→Q κ { s with heap:=h,toks:=tk }→wpAny (model P w) A.in1.in1 (keyKind' vs.toArray) Q (fun _ _=>False) { s with heap:=h,toks:=tk })
  (hc:∀ (h:Heap) (tk:Nat) i j C,(∀ b o,s.heap.get? b=some o→h.get? b=some o)→i < vs.length→j < vs.length→i≠j→C (lt i j) { s with heap:=h,toks:=tk }→kas_ask P w A.in1.in1 κ vs i j C { s with heap:=h,toks:=tk })
  (fin:∀ (h:Heap) (tk:Nat) (h':Heap) (p:Array Nat) (c:Nat),(∀ b o,s.heap.get? b=some o→h.get? b=some o)→(∀ b o,h.get? b=some o→h'.get? b=some o)→h'.get? h.objs.size=some (seqObj "list" (wF vs p).toArray c)→PP vs.length p→X3 lt p vs.length→Q (.ref h.objs.size) { s with heap:=h',toks:=tk }) :
  wpAny (model P w) A (call (.builtin "sorted") [.ref l]) Q E s:=by
 refine lD kind_sorted plain_sorted entry_sorted (args_sorted1 _) ?_;unfold Builtin.«sorted»
 refine ba (m:=checkCount "sorted" 1 1 _) (bj ?_);refine ba (coll _ fun h tk hk1=>?_)
 refine ba (nI ?_ (by rw [eL];lia))
 have hoL:(h.push (seqObj "list" vs.toArray 0)).get? h.objs.size=some (seqObj "list" vs.toArray 0):=bC _ rfl
 have kept:∀ h',Kp h.objs.size (h.push (seqObj "list" vs.toArray 0)) h'→∀ b o,h.get? b=some o→h'.get? b=some o:=fun h' k b o e=>k b o (cz (bS e)) (bn _ e)
 refine ba (dM (cN slot_list_sort ⟨_,hoL,rfl⟩ entry_list_sort (X8 (s:={ s with heap:=h.push (seqObj "list" vs.toArray 0),toks:=tk }) hoL h64 (κ:=κ) (lt:=lt) (fun h2 h' Q' k q=>?_) (fun h' i j C k hi hj hij q=>?_) S fun h' p c k ho hp hr=>?_) (args_list_sort _)))
 ·exact hk h2 h' tk Q' (fun b o e=>kept h' k b o (hk1 b o e)) q
 ·exact hc h' tk i j C (fun b o e=>kept h' k b o (hk1 b o e)) hi hj hij q
 ·exact ⟨_,rfl,bj ⟨_,rfl,fin h tk h' p c hk1 (kept h' k) ho hp hr⟩⟩
end
def zX (a b:Str × Int):Bool:=if a.1=b.1 then decide (a.2 < b.2) else decide (a.1.cps.toList < b.1.cps.toList)
def PlAt (h:Heap) (v:Value) (q:Str × Int):Prop:=∃ a o t u n,v=.ref a∧h.get? a=some o∧o.cls=.type "tuple"∧o.data=.seq #[.str q.1 t,.int q.2 u] n
section
variable {P:Program} {w:World} {A:Around} {E:Value→Shared→Prop} {s:Shared}
theorem zdY {a c:Str} {t u:Tok} {Q:Bool→Shared→Prop} (h:Q (decide (a.cps.toList < c.cps.toList)) s):wpAny (model P w) A (oneLt' true (.str a t) (.str c u)) Q E s:=by
 rw [← keyLt'_oneType]
 exact kas_lt_str h
theorem zdZ {a c:Int} {t u:Tok} {Q:Bool→Shared→Prop} (h:Q (decide (a < c)) s):wpAny (model P w) A (oneLt' false (.int a t) (.int c u)) Q E s :=
 kat_one _ _ (m7 (show W.BoolBack Q (.bool (decide (a < c))) s from h))
theorem zbr {x y:Value} {a b:Str × Int} {Q:Bool→Shared→Prop} (hx:PlAt s.heap x a) (hy:PlAt s.heap y b) (h:Q (zX a b) s) (hn:a≠b):wpAny (model P w) A (keyLt' (tuples' true) x y) Q E s:=by
 obtain ⟨p,o,t,u,n,rfl,ho,hc,hd⟩:=hx
 obtain ⟨p2,o2,t2,u2,n2,rfl,ho2,hc2,hd2⟩:=hy
 refine kat_lt ho hd ho2 hd2 (kat_cons (wpAny_eqBool_str (kat_go (fun e=>kat_yes (kat_cons (wpAny_eqBool_int (kat_go (fun e2=>?_) fun e2=>kat_no ?_)))) fun e=>kat_no ?_)))
 ·exact absurd (oN (of_decide_eq_true e) (by simpa using e2)) hn
 ·have e:=of_decide_eq_true e
  unfold zX at h
  rw [if_pos e] at h
  exact zdZ h
 ·have e:=of_decide_eq_false e
  unfold zX at h
  rw [if_neg e] at h
  exact zdY h
theorem QJ {vs:List Value} {qs:List (Str × Int)} {Q:SortKind→Shared→Prop} (hl:vs.length=qs.length) (hv:∀ (i:Nat) (v:Value) (q:Str × Int),vs[i]?=some v→qs[i]?=some q→PlAt s.heap v q) (h2:0 < vs.length) (h:Q (tuples' true) s) :
  wpAny (model P w) A (keyKind' vs.toArray) Q E s:=by
 have T:∀ (vs:List Value) (qs:List (Str × Int)),vs.length=qs.length→(∀ (i:Nat) (v:Value) (q:Str × Int),vs[i]?=some v→qs[i]?=some q→PlAt s.heap v q)→∃ fs,KatTups s.heap vs fs∧fs.length=vs.length∧∀ v∈fs,∃ x t,v=iK x t:=by
  intro vs
  induction vs with
  | nil=>exact fun qs _ _=>⟨[],trivial,rfl,fun _ z=>nomatch z⟩
  | cons v r ih =>
   intro qs hl hv
   match qs,hl with
   | q :: qr,hl =>
    obtain ⟨fs,k,kl,kf⟩:=ih qr (by simpa using hl) fun i v' q' e1 e2=>hv (i + 1) v' q' (by simpa using e1) (by simpa using e2)
    obtain ⟨a,o,t,u,n,rfl,ho,hc,hd⟩:=hv 0 v q rfl rfl
    refine ⟨.str q.1 t :: fs,oP ho hc hd rfl k,by simp [kl],fun z hz=>?_⟩
    rcases bN.mp hz with rfl | hz
    ·exact ⟨_,_,rfl⟩
    ·exact kf z hz
 obtain ⟨fs,k,kl,kf⟩:=T vs qs hl hv
 refine kat_kind (T:=.type "str") k (by lia) (fun v hv=>?_) (by decide) h
 obtain ⟨x,t,rfl⟩:=kf v hv
 exact Looks.of_pure rfl
end
theorem Km {x y:Str} (h:x.cps.toList=y.cps.toList):x=y:=by
 obtain ⟨a⟩:=x
 obtain ⟨b⟩:=y
 have:a=b:=gg.mp h
 rw [this]
theorem ZC {qs:List (Str × Int)} (hn:qs.Nodup):SO (fun i j=>zX (qs.getD i ("",0)) (qs.getD j ("",0))) qs.length where
 irr:=fun i _=>by
  unfold zX
  rw [if_pos rfl]
  exact decide_eq_false (by lia)
 trans:=fun i j k _ _ _ h1 h2=>by
  generalize qs.getD i ("",0)=a at *
  generalize qs.getD j ("",0)=b at *
  generalize qs.getD k ("",0)=c at *
  unfold zX at *
  by_cases e1:a.1=b.1
  ·rw [if_pos e1] at h1
   by_cases e2:b.1=c.1
   ·rw [if_pos e2] at h2
    rw [if_pos (e1.trans e2)]
    have h1:=of_decide_eq_true h1
    have h2:=of_decide_eq_true h2
    exact decide_eq_true (by lia)
   ·rw [if_neg e2] at h2
    rw [if_neg (by rw [e1];exact e2),e1]
    exact h2
  ·rw [if_neg e1] at h1
   have h1:=of_decide_eq_true h1
   by_cases e2:b.1=c.1
   ·rw [if_neg (by rw [← e2];exact e1),← e2]
    exact decide_eq_true h1
   ·rw [if_neg e2] at h2
    have h2:=of_decide_eq_true h2
    have h3:=List.lt_trans h1 h2
    rw [if_neg (fun z=>by rw [z] at h3;exact List.lt_irrefl _ h3)]
    exact decide_eq_true h3
 tot:=fun i j hi hj hij h=>by
  have ne:qs.getD i ("",0)≠qs.getD j ("",0):=fun z=>hij (by
   rw [bo,bo,bg hi,bg hj] at z
   exact (ip hn).mp z)
  generalize qs.getD i ("",0)=a at *
  generalize qs.getD j ("",0)=b at *
  unfold zX at *
  by_cases e:a.1=b.1
  ·rw [if_pos e] at h
   rw [if_pos e.symm]
   have h:=of_decide_eq_false h
   have:a.2≠b.2:=fun z=>ne (oN e z)
   exact decide_eq_true (by lia)
  ·rw [if_neg e] at h
   rw [if_neg (fun z=>e z.symm)]
   have h:=of_decide_eq_false h
   refine decide_eq_true ?_
   rcases List.le_iff_lt_or_eq.mp (List.not_lt.mp h) with z | z
   ·exact z
   ·exact absurd (Km z.symm) e
end L2
namespace L2
open PySem
def RawD (h:Heap) (d:Addr) (es:Array DictEntry) (ep:Nat):Prop:=∃ o,h.get? d=some o∧o.ExactDict∧o.data=.dict es ep
section
variable {P:Program} {w:World} {A:Around} {E:Value→Shared→Prop} {s:Shared}
theorem RawD.type {d:Addr} {es:Array DictEntry} {ep:Nat} (x:RawD s.heap d es ep):s.TypeIs (.ref d) "dict":=let ⟨o,ho,hc,_⟩:=x;⟨o,ho,hc.1⟩
theorem RawD.at {h h':Heap} {d:Addr} {es:Array DictEntry} {ep:Nat} (x:RawD h d es ep) (e:∀ o,h.get? d=some o→h'.get? d=some o):RawD h' d es ep:=let ⟨o,ho,r⟩:=x;⟨o,e _ ho,r⟩
theorem zcs {d:Addr} {es:Array DictEntry} {ep:Nat} {Q:Value→Shared→Prop} (lo:(d == sysModules)=false) (hm:RawD s.heap d es ep)
  (q:Q (.ref s.heap.objs.size) { s with heap:=s.heap.push { cls:=.type "dict_keyiterator",data:=.fields #[.ref d,.int 0 0,.int es.size 0,.int ep 0] } }):wpAny (model P w) A (pyIter (.ref d)) Q E s:=by
 have T:=hm.type
 obtain ⟨o,ho,hc,hd⟩:=id hm
 refine lQ T F.slot_dict_iter (cN F.slot_dict_iter T F.entry_dict_iter ?_ (F.args_dict_iter_1 _));unfold Builtin.«dict.__iter__»
 refine ba ?_;unfold Builtin.Dict.dictSlotNone;refine ba (fI T ?_)
 show wpAny _ _ (pure (bL d)) _ _ s;refine bj ?_
 show wpAny _ _ (dP d >>= _) _ _ s;unfold dP
 rw [if_neg (by rw [lo];exact bK)];refine ba (bj ?_)
 refine ba (dZ ho hd ?_);refine ba (eS ho hd ?_)
 refine ba (cY (bj ⟨_,rfl,"dict_keyiterator",_,⟨_,bC _ rfl,rfl⟩,F.slot_dict_keyiterator_next.lookup,?_⟩));simpa [rawInt] using q
theorem zct {it d:Addr} {i ep:Nat} {es:Array DictEntry} {e:DictEntry} {Q:Option Value→Shared→Prop} (hit:s.heap.IsKeyIter it d i es.size ep) (hm:RawD s.heap d es ep) (hx:es[i]?=some e)
  (q:∀ h,h.IsKeyIter it d (i + 1) es.size ep→cQ it s.heap h→Q (some e.key) { s with heap:=h }):wpAny (model P w) A (pyNext (.ref it)) Q E s:=by
 obtain ⟨o,ho,hc,hd⟩:=id hit
 obtain ⟨od,hod,hcd,hdd⟩:=id hm
 have lt:i < es.size:=by
  rcases Nat.lt_or_ge i es.size with h | h
  ·exact h
  ·rw [gJ h] at hx;cases hx
 unfold pyNext
 refine ba (gI (dg (name:=bb "__next__") hit.typeIs dU (cN dU hit.typeIs iu ?_ (ij _))))
 refine ba (bj ?_);refine ba ?_;refine ba ?_
 first | (refine ba (dQ hit.typeIs (bj ?_))) | (refine ba (eT hit.typeIs (bj ?_)))
 refine ba (gY ho hd ?_);have own:da "dict_keyiterator"=false:=by decide
 simp only [own,cr,if_false];show wpAny _ _ (if (bL d == cD)=true then _ else _) _ _ s
 rw [if_neg (show ¬ ((bL d == cD)=true) from bK)];refine ba (bj ?_);refine ba (dZ hod hdd ?_)
 rw [if_neg (by simp)];refine ba (bj ?_);refine ba (eS hod hdd ?_);rw [if_neg (by simp)];refine bj ?_
 simp only [show ¬ ((i:Int) < 0) from by lia,if_false,dJ,hx]
 refine ba ?_
 first | (refine ba (dQ hit.typeIs (bj ?_))) | (refine ba (eT hit.typeIs (bj ?_)))
 refine ba (mQ hit.typeIs ?_);show wpAny _ _ (setField (.ref it) 1 (rawInt ((i:Int) + 1)) >>= _) _ _ s
 refine ba (m5 ho hd (by simp) ?_)
 have next:(s.heap.update it (Obj.mapFields (·.setIfInBounds 1 (rawInt ((i:Int) + 1))))).IsKeyIter it d (i + 1) es.size ep:=by
  refine ⟨_,ik _ ho (Obj.isFreed_of_fields (nJ hd _)),(Obj.cls_mapFields ..).trans hc,?_⟩;rw [nJ hd];simp [rawInt]
 refine ba (dM ?_)
 refine ba (mQ (s:={ s with heap:=s.heap.update it (Obj.mapFields (·.setIfInBounds 1 (rawInt ((i:Int) + 1)))) }) next.typeIs ?_);show wpAny _ _ (pure e.key) _ _ _
 exact bj (bj ⟨_,rfl,bj (q _ next (iX ..))⟩)
theorem zd0 {it d:Addr} {i ep:Nat} {es:Array DictEntry} {Q:Option Value→Shared→Prop} (hh:A.handled=none) (hit:s.heap.IsKeyIter it d i es.size ep) (hm:RawD s.heap d es ep) (hx:es.size≤i)
  (q:∀ h,Heap.ExtBut it s.heap h→Q none { s with heap:=h }):wpAny (model P w) A (pyNext (.ref it)) Q E s:=by
 obtain ⟨o,ho,hc,hd⟩:=id hit
 obtain ⟨od,hod,hcd,hdd⟩:=id hm
 unfold pyNext
 refine ba (gI (dg (name:=bb "__next__") hit.typeIs dU (cN dU hit.typeIs iu ?_ (ij _))))
 refine ba (bj ?_);refine ba ?_;refine ba ?_
 first | (refine ba (dQ hit.typeIs (bj ?_))) | (refine ba (eT hit.typeIs (bj ?_)))
 refine ba (gY ho hd ?_);have own:da "dict_keyiterator"=false:=by decide
 simp only [own,cr,if_false];show wpAny _ _ (if (bL d == cD)=true then _ else _) _ _ s
 rw [if_neg (show ¬ ((bL d == cD)=true) from bK)];refine ba (bj ?_);refine ba (dZ hod hdd ?_)
 rw [if_neg (by simp)];refine ba (bj ?_);refine ba (eS hod hdd ?_);rw [if_neg (by simp)];refine bj ?_
 simp only [show ¬ ((i:Int) < 0) from by lia,if_false,dJ,gJ hx]
 refine ba ?_
 first | (refine ba (dQ hit.typeIs (bj ?_))) | (refine ba (eT hit.typeIs (bj ?_)))
 show wpAny _ _ (setField (.ref it) 0 .none >>= _) _ _ s;refine ba (m5 ho hd (by simp) ?_)
 show wpAny _ _ (newExc (.type "StopIteration") [] >>= _) _ _ _;refine ba ?_;simp only [newExc,newTuple]
 refine ba (cY ?_ (by size_fits));refine ba (m:=firstArgMember _ _) (wpAny_of_eq (a:=cD) (by first | rfl | (simp only [firstArgMember];rfl)) ?_)
 refine cY ?_ (by size_fits);simp only [raiseNew]
 refine ba (wpAny_handled ?_);rw [show A.in1.handled=none from hh];refine ba (bj (wpAny_throw ?_))
 exact ba (wpAny_isInstance (T:="StopIteration") (b:=true) ⟨_,bC _ rfl,rfl⟩ isSubtype_stop (bj (q _ (((iX ..).extBut.push _).push _))))
theorem zbs (hh:A.handled=none) (I d:Addr) (hne:d≠I) (es:Array DictEntry) (ep:Nat) :
  Walks P w A I [I,d] [I] es.size (fun i v=>∃ e,es[i]?=some e∧v=e.key) (fun i h=>h.IsKeyIter I d i es.size ep∧RawD h d es ep) where
 sub:=fun b hb=>by simp at hb;simp [hb]
 frame:=fun _ _ _ st hk=>⟨st.1.at fun o e=>hk I (by simp) o e,st.2.at fun o e=>hk d (by simp) o e⟩
 item:=fun i s Q E hi st hQ=>by
  refine zct st.1 st.2 (cw hi) fun h' hit' hs'=>?_
  exact hQ _ h' s.toks ⟨_,cw hi,rfl⟩ ⟨hit',st.2.at fun o e=>hs'.extBut d o hne e⟩ fun b o hb e=>hs'.extBut b o (fun h=>hb (by simp [h])) e
 done:=fun s Q E st hQ=>zd0 hh st.1 st.2 (bu _) fun h' he'=>hQ h' s.toks fun b o hb e=>he' b o (fun h=>hb (by simp [h])) e
 self:=fun _ _ _ _ st hQ=>wpAny_pyIter_keyiter st.1 hQ
end
end L2
namespace L2
open PySem PySem.Spec PyProof.Rows
section
open PySem.SeqAt
open PySem.AutoSeq1 (wpAny_loadPart')
open PySem.MeetsSeq PySem.MeetsSeq2 PySem.MeetsSeq3
theorem qd (l b:Addr) (x y:Str) (i j:Int) (t u t2 u2:Tok) (n n2:Nat) (dd dd2:Option Addr) (sl sl2:Array (Option Value)) :
  Meets (Builtin.«tuple.__lt__» ⟨[.ref l,.ref b],[]⟩) (fun _ R s=>s.heap.get? l=some { cls:=.type "tuple",dict:=dd,data:=.seq #[.str x t,.int i u] n,slots:=sl } ∧
   s.heap.get? b=some { cls:=.type "tuple",dict:=dd2,data:=.seq #[.str y t2,.int j u2] n2,slots:=sl2 }∧R (.ok (.ret (.bool (zX (x,i) (y,j))))) s) :=
 .of_wp fun prog w A R s h=>by
  obtain ⟨hp,g,d,tk,os⟩:=s;obtain ⟨hl,hb,h⟩:=h
  have f2:=AutoSeq1.sub_tuple_tuple
  have lt1:∀ (E:Value→Shared→Prop) (Q:Value→Shared→Prop) (s:Shared),Q (.bool (decide (x.cps.toList < y.cps.toList))) s→wpAny (model prog w) A.in1 (richCompare .Lt (.str x t) (.str y t2)) Q E s:=fun E Q s q=>(PyProof.Rows.lt_str q:wpAny (model prog w) A.in1 (compareOp .Lt (.str x t) (.str y t2)) Q E s)
  have lt2:=HT.rcLt_int A.in1 ⟨hp,g,d,tk,os⟩ i u j u2 prog w
  by_cases e:x=y
  ·subst e
   have eq1:=lj (A:=A.in1) (s:=⟨hp,g,d,tk,os⟩) x t x t2 prog w
   rw [beq_self_eq_true] at eq1
   unfold zX at h
   rw [if_pos rfl] at h
   by_cases e2:i=j
   ·subst e2
    have eq2:=lh (A:=A.in1) (s:=⟨hp,g,d,tk,os⟩) i u i u2 prog w
    rw [beq_self_eq_true] at eq2
    wp_walk using fJ hl,fJ hb,eq1,eq2
    exact ⟨_,rfl,by simpa [Builtin.Tuple.tupleCompareSizes] using h⟩
   ·have eq2:=lh (A:=A.in1) (s:=⟨hp,g,d,tk,os⟩) i u j u2 prog w
    rw [show (i == j)=false from by simpa using e2] at eq2
    wp_walk using fJ hl,fJ hb,eq1,eq2,lt2
    exact ⟨_,rfl,by simpa using h⟩
  ·have eq1:=lj (A:=A.in1) (s:=⟨hp,g,d,tk,os⟩) x t y t2 prog w
   rw [show (x == y)=false from by simpa using e] at eq1
   unfold zX at h
   rw [if_neg e] at h
   wp_walk using fJ hl,fJ hb,eq1,lt1
   exact ⟨_,rfl,by simpa using h⟩
end
section
variable {P:Program} {w:World} {A:Around} {E:Value→Shared→Prop} {s:Shared}
theorem RawD.lt {h:Heap} {d:Addr} {es:Array DictEntry} {ep:Nat} (x:RawD h d es ep):d < h.objs.size:=let ⟨_,ho,_⟩:=x;bS ho
theorem zd1 {d:Addr} {es:Array DictEntry} {ep:Nat} (lo:(d == sysModules)=false):W.KdlSrc P w "dict" d d es.size (fun i v=>∃ e,es[i]?=some e∧v=e.key) (fun h=>RawD h d es ep) where
 type:=fun _ hm=>hm.type
 there:=fun _ hm=>⟨hm.lt,hm.lt⟩
 keep:=fun _ _ hm hk=>hm.at fun o e=>hk d (.inl rfl) o e
 notList:=by decide
 notTuple:=by decide
 hint:=fun _ _ _ _ hm hq=>W.kdl_hint_dict hm.type hq
 iter:=fun _ _ hh hm=>⟨_,_,(fun _ _ hq=>zcs lo hm hq),zbs hh _ d (cz hm.lt) es ep,⟨⟨_,bC _ rfl,rfl,rfl⟩,hm.at fun o e=>bn _ e⟩⟩
theorem Kn {T:String} {r d:Addr} {n:Nat} {G:Nat→Value→Prop} {OK:Heap→Prop} {R:List Value→Shared→Prop} (K:W.KdlSrc P w T r d n G OK) (hh:A.handled=none) (hok:OK s.heap) (hn:n≤sizeLine)
  (h:∀ (h':Heap) (tk:Nat) (vs:List Value),(∀ b o,s.heap.get? b=some o→h'.get? b=some o)→vs.length=n→(∀ j v,vs[j]?=some v→G j v)→R vs { s with heap:=h',toks:=tk }) :
  wpAny (model P w) A (collect (.ref r)) R E s:=by
 obtain ⟨lr,ld⟩:=K.there _ hok
 unfold collect
 refine ba (wpAny_runValue (eD mZ ?_));rw [dh iY _]
 show wpAny _ A.in1 (newList [] >>= fun l=>again (.builtin "list.__iadd__" ⟨[l,.ref r],[]⟩)) _ _ s;refine ba (cY ?_)
 refine bj ⟨fS eY _,eD entry_list_iadd' ?_⟩;rw [dh eY _]
 have hS:(s.heap.push { cls:=.type "list",data:=.seq ([]:List Value).toArray }).get? s.heap.objs.size=some { cls:=.type "list",data:=.seq #[] }:=bC _ rfl
 show wpAny _ A.in1 (df (.ref s.heap.objs.size) (.ref r) (.ref s.heap.objs.size)) _ _ _
 have key:=W.kdl_extend (A:=A) (s:={ s with heap:=s.heap.push { cls:=.type "list",data:=.seq ([]:List Value).toArray } }) (R:=fun (q:Result) (s':Shared)=>∃ (h':Heap) (tk:Nat) (acc:Array Value) (c:Nat),q=.ok (.ret (.ref s.heap.objs.size))∧s'={ s with heap:=h',toks:=tk } ∧
   (∀ b o,s.heap.get? b=some o→h'.get? b=some o)∧h'.get? s.heap.objs.size=some { cls:=.type "list",dict:=none,data:=.seq acc c,slots:=#[] }∧ItemsOf G acc n) K hh (K.keep _ _ hok fun b _ o e=>bn _ e) s.heap.objs.size (dW lr) (dW ld) (.ref s.heap.objs.size) 0 hS
  (fun h' tk acc c hk hS' hacc=>⟨h',tk,acc,c,rfl,rfl,fun b o e=>hk b o (cz (bS e)) (bn _ e),hS',hacc⟩) hn
 refine db key (fun fin s' x=>?_) fun e s' x=>?_
 ·cases fin with
  | done f =>
   obtain ⟨h',tk,acc,c,e,rfl,hk,hS',hacc⟩:=x
   cases e
   show wpAny _ A (load s.heap.objs.size >>= _) _ _ _;refine ba (mU hS' ?_)
   exact bj (h h' tk acc.toList hk (by rw [cm];exact hacc.1) fun j v e=>hacc.2 j v (by rw [← dA];exact e))
  | again c =>
   refine ⟨x.1,eI x.2 fun q s' x=>?_⟩
   obtain ⟨h',tk,acc,c,rfl,rfl,hk,hS',hacc⟩:=x
   show wpAny _ A (load s.heap.objs.size >>= _) _ _ _;refine ba (mU hS' ?_)
   exact bj (h h' tk acc.toList hk (by rw [cm];exact hacc.1) fun j v e=>hacc.2 j v (by rw [← dA];exact e))
 ·obtain ⟨h',tk,acc,c,e',_⟩:=x
  cases e'
end
def zH (q:Str × Int):List Key:=[.inr q.1,.inl q.2]
abbrev zcu:RC:=fun xs H Q=>∃ (a:Addr) (kvs:List (List Key × V)) (qs:List (Str × Int)),xs=[.ref a]∧H a=some (.dT kvs)∧kvs.map (·.1)=qs.map zH∧kvs.length < 1000 ∧
 ∀ (l:Addr) (ps:List (Addr × (Str × Int))),H l=none→(ps.map (·.2)).Perm qs→(ps.map (·.2)).Pairwise (fun a b=>zX a b=true)→(∀ n∈ps,H n.1=some (.tup [.str n.2.1,.int n.2.2]))→Q (.ref l) (upd H l (.lst (ps.map fun n=>V.ref n.1)))
theorem ym {α β:Type} {F:α→β→Prop}:∀ {l₁:List α} {l₂:List β},Paired F l₁ l₂→∀ {i:Nat} {a:α} {b:β},l₁[i]?=some a→l₂[i]?=some b→F a b
 | _,_,.nil,i,a,b,h,_=>by simp at h
 | _,_,.cons x r,0,a,b,h1,h2=>by
  simp only [bd,bi] at h1 h2
  subst h1 h2
  exact x
 | _,_,.cons x r,i + 1,a,b,h1,h2=>ym r (by simpa using h1) (by simpa using h2)
theorem PlAt.keep {h h':Heap} {v:Value} {q:Str × Int} (x:PlAt h v q) (k:∀ b o,h.get? b=some o→h'.get? b=some o):PlAt h' v q:=by
 obtain ⟨a,o,t,u,n,e,ho,r⟩:=x
 exact ⟨a,o,t,u,n,e,k _ _ ho,r⟩
section
variable {X:Cx}
theorem Yd {pins:List (Addr × Obj)} {σ:St} {H:Hp} {s:Shared} {a:Addr} {q:Str × Int} (I:Inv X pins σ H s) (h:H a=some (.tup [.str q.1,.int q.2])):PlAt s.heap (.ref a) q:=by
 obtain ⟨its,rv,⟨o,ho,hc,n,hd⟩,_⟩:=I.tuple (SqT.of h)
 cases rv with
 | cons r1 rr =>
  cases rr with
  | cons r2 rn =>
   cases rn
   obtain ⟨t,rfl⟩:=r1
   obtain ⟨u,rfl⟩:=r2
   exact ⟨a,o,t,u,n,rfl,ho,hc,hd⟩
theorem ww {α β:Type} {f:α→β}:∀ {l:List α},(l.map f).Nodup→l.Nodup
 | [],_=>lq
 | a :: r,h=>by
  rw [bW,cu] at h
  exact cu.mpr ⟨fun z=>h.1 (cP z),ww h.2⟩
theorem Jj (hc:X.calm=true):kR X (.builtin "sorted") zcu:=by
 intro pins s σ H xs us Q I r h
 obtain ⟨a,kvs,qs,rfl,ha,hk,h64,q⟩:=h
 obtain ⟨u,rfl,ru⟩:=Y0 r
 cases ru
 obtain ⟨hz,lo,xs,rel,o,es,ep,ho,hx,hd,he,hn⟩:=(show ObjOk X.prog X.w H s.heap a (.dT kvs) from I.hok a _ ha)
 have hh:X.A.handled=none:=I.ok.hd hc
 have lk:kvs.length=qs.length:=by have:=congrArg bP hk;simpa using this
 have lx:kvs.length=xs.length:=cy rel
 have les:es.size=xs.length:=by rw [← cm,he,bB]
 -- the keys in their order
 have key:∀ (i:Nat) (x:List Key × Addr × Value),xs[i]?=some x→∃ q,qs[i]?=some q∧x.1=zH q∧H x.2.1=some (.tup [.str q.1,.int q.2]):=fun i x hx=>by
  have hi:=(bp.mp hx).1
  obtain ⟨kv,hkv⟩:∃ kv,kvs[i]?=some kv:=⟨_,bg (by lia)⟩
  obtain ⟨q,hq⟩:∃ q,qs[i]?=some q:=⟨_,bg (by lia)⟩
  have rl:=ym rel hkv hx
  have e1:kv.1=zH q:=by
   have e1:(kvs.map (·.1))[i]?=some kv.1:=by rw [bQ,hkv];rfl
   have e2:(qs.map zH)[i]?=some (zH q):=by rw [bQ,hq];rfl
   rw [hk,e2] at e1
   exact (ca e1).symm
  refine ⟨q,hq,by rw [← rl.1,e1],?_⟩
  have:=rl.2.1
  rw [e1] at this
  exact this
 have nq:qs.Nodup:=by
  refine ww (f:=zH) ?_
  have e:xs.map (·.1)=qs.map zH:=by
   rw [← hk]
   apply fR
   intro i
   rw [bQ,bQ]
   cases hx:xs[i]? with
   | none =>
    have:xs.length≤i:=by simpa using hx
    rw [cU (by lia:kvs.length≤i)]
    rfl
   | some x =>
    have hi:=(bp.mp hx).1
    have hkv:kvs[i]?=some kvs[i]:=bg (by lia)
    rw [hkv]
    have:=(ym rel hkv hx).1
    simp [this]
  rw [← e];exact hn
 have vv:∀ (i:Nat) (v:Value) (q:Str × Int),(xs.map fun x=>bL x.2.1)[i]?=some v→qs[i]?=some q→PlAt s.heap v q:=fun i v q hv hq=>by
  rw [bQ] at hv
  obtain ⟨x,hx,rfl⟩:=dk.mp hv
  obtain ⟨q',hq',_,hH⟩:=key i x hx
  rw [hq] at hq'
  cases hq'
  exact Yd I hH
 have lv:(xs.map fun x=>bL x.2.1).length=qs.length:=by rw [bB];lia
 have vat:∀ i,i < qs.length→PlAt s.heap ((xs.map fun x=>bL x.2.1).getD i cD) (qs.getD i ("",0)):=fun i hi=>by
  refine vv i _ _ ?_ ?_
  ·rw [bo,bg (by rw [lv];exact hi)];rfl
  ·rw [bo,bg hi];rfl
 have S:=ZC nq
 rw [← lv] at S
 refine Y6 (vs:=xs.map fun x=>bL x.2.1) (κ:=tuples' true) (by rw [bB];lia) S (fun R hR=>?_) (fun h2 h tk Q' kp q'=>?_) (fun h tk i j C kp hi hj hij q'=>?_) fun h tk h' p c k1 k2 hD hp hr=>?_
 ·refine Kn (zd1 (ep:=ep) (es:=es) lo) hh ⟨o,ho,hx,hd⟩ (by rw [les];lia) fun h' tk vs kp hl hG=>?_
  have ev:vs=xs.map fun x=>bL x.2.1:=by
   apply fR
   intro i
   by_cases hi:i < vs.length
   ·obtain ⟨e,hes,ek⟩:=hG i vs[i] (bg hi)
    have e2:es.toList[i]?=some e:=by rw [dA];exact hes
    rw [he,bQ] at e2
    obtain ⟨x,hxx,ex⟩:=dk.mp e2
    rw [bg hi,ek,bQ,hxx,← ex]
    rfl
   ·rw [cU (by lia),cU (by rw [bB];lia)]
  rw [ev]
  exact hR h' tk kp
 ·exact QJ (s:={ s with heap:=h,toks:=tk }) lv (fun i v q hv hq=>(vv i v q hv hq).keep kp) (by lia) q'
 ·rw [lv] at hi hj
  refine zbr (s:={ s with heap:=h,toks:=tk }) ((vat i hi).keep kp) ((vat j hj).keep kp) q' fun z=>hij ?_
  rw [bo,bo,bg hi,bg hj] at z
  exact (ip nq).mp z
 ·have I1:Inv X pins σ H { s with heap:=h,toks:=tk }:=I.kept k1
  have ps:∃ ps:List (Addr × (Str × Int)),ps.map (fun n=>bL n.1)=wF (xs.map fun x=>bL x.2.1) p∧ps.map (·.2)=p.toList.map (fun i=>qs.getD i ("",0))∧∀ n∈ps,H n.1=some (.tup [.str n.2.1,.int n.2.2]):=by
   have pl:∀ i∈p.toList,i < xs.length:=fun i hi=>by
    have:i∈p:=by simpa using hi
    have:=(nE hp).mp this
    rw [bB] at this
    simpa using this
   refine ⟨p.toList.map fun i=>((xs.getD i ([],0,.none)).2.1,qs.getD i ("",0)),?_,by rw [gB];rfl,fun n hn=>?_⟩
   ·unfold wF
    rw [gB]
    refine gr fun i hi=>?_
    have:=pl i hi
    simp [bo,bQ,bg this]
   ·obtain ⟨i,hi,rfl⟩:=cG.mp hn
    have hl:=pl i hi
    obtain ⟨q,hq,_,hH⟩:=key i xs[i] (bg hl)
    have e1:xs.getD i ([],0,.none)=xs[i]:=by rw [bo,bg hl];rfl
    have e2:qs.getD i ("",0)=q:=by rw [bo,hq];rfl
    show H (xs.getD i ([],0,.none)).2.1=some (.tup [.str (qs.getD i ("",0)).1,.int (qs.getD i ("",0)).2])
    rw [e1,e2]
    exact hH
  obtain ⟨ps,e1,e2,hps⟩:=ps
  have vr:Vals (ps.map fun n=>V.ref n.1) (ps.map fun n=>bL n.1):=by
   clear e1 e2 hps
   induction ps with
   | nil=>exact .nil
   | cons n r ih=>exact .cons rfl ih
  have psz:p.size=xs.length:=by have:=hp.size;rw [bB] at this;exact this
  have pln:ps.length=xs.length:=by have:=congrArg bP e1;unfold wF at this;simpa [psz] using this
  have I2:Inv X pins σ (upd H h.objs.size (.lst (ps.map fun n=>V.ref n.1))) { s with heap:=h',toks:=tk }:=I1.laid (s:={ s with heap:=h,toks:=tk }) (a:=h.objs.size) (o:=.lst (ps.map fun n=>V.ref n.1)) (t':=tk) k2 (bu _)
   ⟨by rw [bB];lia,ps.map fun n=>bL n.1,c,vr,by rw [e1];exact hD⟩
  refine ⟨.ref h.objs.size,_,I2,rfl,q _ ps (I1.hok.fresh (bu _)) ?_ ?_ hps⟩
  ·rw [e2]
   have pr:p.toList.Perm (dX qs.length):=by
    have:=fU.mp hp
    rw [lv] at this
    simpa using this
   refine (pr.map _).trans ?_
   have:(dX qs.length).map (fun i=>qs.getD i ("",0))=qs:=by
    apply fR
    intro i
    rw [bQ]
    by_cases hi:i < qs.length
    ·rw [iW hi,bg hi]
     simp [bo,bg hi]
    ·rw [cU (by simpa using hi),cU (by lia)]
     rfl
   rw [this]
  ·rw [e2,eh,cO]
   intro i j hi hj hij
   rw [cm] at hi hj
   have g1:=wD hi
   have g2:=wD hj
   have r:=hr i j hij (by rw [bB];lia)
   have x1:p.toList[i]=gt p i:=by
    rw [cw hi] at g1
    simpa using g1
   have x2:p.toList[j]=gt p j:=by
    rw [cw hj] at g2
    simpa using g2
   rw [x1,x2]
   exact r
end
section
variable {X:Cx}
def zcv:HO→Prop
 | .tup _=>False
 | .own _=>False
 | .tbl _=>False
 | _=>True
theorem Inv.relab {pins:List (Addr × Obj)} {σ:St} {H:Hp} {s:Shared} {a:Addr} {u u':HO} (I:Inv X pins σ H s) (ha:H a=some u) (hp:zcv u) (hf:∀ o z,X.H₀ a≠some (.frz o z)) (ho:ObjOk X.prog X.w (upd H a u') s.heap a u'):Inv X pins σ (upd H a u') s:=by
 have nn:∀ b,H b=none→b≠a:=fun b n z=>by subst z;rw [n] at ha;cases ha
 have ntup:∀ b xs,H b=some (.tup xs)→b≠a:=fun b xs q z=>by subst z;rw [ha] at q;cases q;exact hp
 have nown:∀ b y,H b=some (.own y)→b≠a:=fun b y q z=>by subst z;rw [ha] at q;cases q;exact hp
 have ntbl:∀ b y,H b=some (.tbl y)→b≠a:=fun b y q z=>by subst z;rw [ha] at q;cases q;exact hp
 refine ⟨I.ok,I.os,I.bare,⟨I.base.keep,I.base.slot,fun b o q n hb=>?_,I.base.there,fun b xs q=>?_,fun b o z q=>?_,fun b ps q=>?_⟩,I.loc,I.cell,?_,fun x c e=>?_,fun p hp=>?_,fun b v q=>?_,I.len⟩
 ·have:=I.base.free b o q n hb
  rw [zj (nn b this)];exact this
 ·have:=I.base.tups b xs q
  rw [zj (ntup b xs this)];exact this
 ·have:=I.base.frzs b o z q
  rw [zj (fun e=>hf o z (by rw [← e];exact q))];exact this
 ·obtain ⟨m,e⟩:=I.base.tbls b ps q
  exact ⟨m,by rw [zj (ntbl b _ e)];exact e⟩
 ·rw [zj (nn _ I.free)];exact I.free
 ·have:=I.freeC x c e
  rw [zj (nn _ this)];exact this
 ·obtain ⟨h1,h2,h3⟩:=I.pin p hp
  exact ⟨h1,by rw [zj (nn _ h2)];exact h2,h3⟩
 ·by_cases hb:b=a
  ·subst hb
   rw [zf] at q;cases q;exact ho
  ·rw [zj hb] at q
   exact (I.hok b v q).stay (fun _ _ _ r=>r) (fun c r=>by rw [zj (nown c b r)];exact r) fun c xs r=>by rw [zj (ntup c xs r)];exact r
def zfZ (t:TS):TS:=fun D σ H=>∃ a u0 kvs,H a=some u0∧(u0=.dT kvs∨∃ o,u0=.frz o (.dT kvs))∧∀ o,t
 ⟨fun σ' H'=>H' a=some (.frz o (.dT kvs))∧D.nx σ' (upd H' a u0),fun v H'=>H' a=some (.frz o (.dT kvs))∧D.rt v (upd H' a u0),fun σ' H'=>H' a=some (.frz o (.dT kvs))∧D.bk σ' (upd H' a u0),fun σ' H'=>H' a=some (.frz o (.dT kvs))∧D.ct σ' (upd H' a u0)⟩ σ (upd H a (.frz o (.dT kvs)))
theorem ObjOk.upd_dT {P:Program} {w:World} {H:Hp} {h:Heap} {a:Addr} {kvs:List (List Key × V)} {u u':HO} (ha:H a=some u) (hp:zcv u) (x:ObjOk P w H h a (.dT kvs)):ObjOk P w (upd H a u') h a (.dT kvs):=by
 refine x.stay (fun _ _ _ r=>r) (fun c r=>?_) fun c xs r=>?_
 ·rw [zj fun z=>by subst z;rw [ha] at r;cases r;exact hp];exact r
 ·rw [zj fun z=>by subst z;rw [ha] at r;cases r;exact hp];exact r
theorem zff {st:Stmt} {t:TS} (hst:PS X st t):PS X st (zfZ t):=by
 rintro pins s σ H D I ⟨a,u0,kvs,ha,hu,h⟩
 have pl:zcv u0:=by rcases hu with rfl | ⟨o,rfl⟩ <;> trivial
 -- the object as it stands
 have ob:∃ o,s.heap.get? a=some o∧(u0=.dT kvs∨u0=.frz o (.dT kvs)):=by
  rcases hu with rfl | ⟨o,rfl⟩
  ·obtain ⟨hz,lo,xs,rel,o,es,ep,ho,_⟩:=(show ObjOk X.prog X.w H s.heap a (.dT kvs) from I.hok a _ ha)
   exact ⟨o,ho,.inl rfl⟩
  ·exact ⟨o,(show ObjOk X.prog X.w H s.heap a (.frz o (.dT kvs)) from I.hok a _ ha).1,.inr rfl⟩
 obtain ⟨o,ho,hu⟩:=ob
 have I1:Inv X pins σ (upd H a (.frz o (.dT kvs))) s:=by
  rcases hu with rfl | rfl
  ·refine I.relab ha trivial (fun o' z q=>?_) ⟨ho,ObjOk.upd_dT ha trivial (I.hok a _ ha)⟩
   have:=I.base.frzs a o' z q
   rw [ha] at this;cases this
  ·have e:upd H a (.frz o (.dT kvs))=H:=by
    funext b;unfold upd;split
    ·next z=>rw [z];exact ha.symm
    ·rfl
   rw [e];exact I
 have back:∀ {σ':St} {H':Hp} {s':Shared},Inv X pins σ' H' s'→H' a=some (.frz o (.dT kvs))→Inv X pins σ' (upd H' a u0) s':=fun {σ' H' s'} I' ha'=>by
  rcases hu with rfl | rfl
  ·refine I'.relab ha' trivial (fun o' z q=>?_) (ObjOk.upd_dT ha' trivial (show ObjOk X.prog X.w H' s'.heap a (.frz o (.dT kvs)) from I'.hok a _ ha').2)
   have:=I.base.frzs a o' z q
   rw [ha] at this;cases this
  ·have e:upd H' a (.frz o (.dT kvs))=H':=by
    funext b;unfold upd;split
    ·next z=>rw [z];exact ha'.symm
    ·rfl
   rw [e];exact I'
 refine thn (hst pins s σ _ _ I1 (h o)) fun f s' q=>?_
 cases f with
 | next=>obtain ⟨σ',H',I',ha',q⟩:=q;exact ⟨σ',_,back I' ha',q⟩
 | brk=>obtain ⟨σ',H',I',ha',q⟩:=q;exact ⟨σ',_,back I' ha',q⟩
 | cont=>obtain ⟨σ',H',I',ha',q⟩:=q;exact ⟨σ',_,back I' ha',q⟩
 | ret v=>obtain ⟨x,σ',H',I',r,ha',q⟩:=q;exact ⟨x,σ',_,back I' ha',r,q⟩
end
mutual
inductive Dat (K:br) (H:Hp):V→PyData→Prop
 | non:Dat K H .non .none
 | bl (b:Bool):Dat K H (.bl b) (.bool b)
 | int (i:Int):Dat K H (.int i) (.int i)
 | str (x:Str):Dat K H (.str x) (.str x)
 | lst {a:Addr} {xs:List V} {ds:List PyData}:SqL K H a xs→DatAll K H xs ds→Dat K H (.ref a) (.list ds)
 | tup {a:Addr} {xs:List V} {ds:List PyData}:SqT K H a xs→DatAll K H xs ds→Dat K H (.ref a) (.tuple ds)
inductive DatAll (K:br) (H:Hp):List V→List PyData→Prop
 | nil:DatAll K H [] []
 | cons {x:V} {d:PyData} {xs:List V} {ds:List PyData}:Dat K H x d→DatAll K H xs ds→DatAll K H (x :: xs) (d :: ds)
end
section
variable {X:Cx} {pins:List (Addr × Obj)} {σ:St} {H:Hp} {s:Shared}
mutual
theorem Dat.reads (I:Inv X pins σ H s):∀ {x:V} {d:PyData} {u:Value},Dat X.K H x d→RelV x u→∃ as,Reads s.heap u d as
 | _,_,_,.non,r=>by cases r;exact ⟨_,.none⟩
 | _,_,_,.bl b,r=>by cases r;exact ⟨_,.bool b⟩
 | _,_,_,.int i,r=>by obtain ⟨t,rfl⟩:=r;exact ⟨_,.int i t⟩
 | _,_,_,.str x,r=>by obtain ⟨t,rfl⟩:=r;exact ⟨_,.str x t⟩
 | _,_,_,.lst hq ha,r=>by
  cases r
  obtain ⟨its,rv,⟨o,n,e,c,_,d⟩,_⟩:=I.list hq
  obtain ⟨as,ra⟩:=DatAll.reads I ha rv
  exact ⟨_,.list e c d (by simpa using ra)⟩
 | _,_,_,.tup hq ha,r=>by
  cases r
  obtain ⟨its,rv,⟨o,e,c,n,d⟩,_⟩:=I.tuple hq
  obtain ⟨as,ra⟩:=DatAll.reads I ha rv
  exact ⟨_,.tuple e c d (by simpa using ra)⟩
theorem DatAll.reads (I:Inv X pins σ H s):∀ {xs:List V} {ds:List PyData} {us:List Value},DatAll X.K H xs ds→Vals xs us→∃ as,ReadsAll s.heap us ds as
 | _,_,_,.nil,r=>by cases r;exact ⟨_,.nil⟩
 | _,_,_,.cons hx ht,r=>by
  cases r with
  | cons r1 rr =>
   obtain ⟨as,ra⟩:=Dat.reads I hx r1
   obtain ⟨bs,rb⟩:=DatAll.reads I ht rr
   exact ⟨_,.cons ra rb⟩
end
end
section
variable {K:br} {H H':Hp}
theorem SqL.mono {a:Addr} {xs:List V} (k:Same H H') (h:SqL K H a xs):SqL K H' a xs:=by
 rcases h with (h | ⟨o,h⟩) | h
 ·exact .inl (.inl (k _ _ h))
 ·exact .inl (.inr ⟨o,k _ _ h⟩)
 ·exact .inr h
theorem DatAll.of {α:Type} {f:α→V} {g:α→PyData}:∀ {l:List α},(∀ a∈l,Dat K H (f a) (g a))→DatAll K H (l.map f) (l.map g)
 | [],_=>.nil
 | a :: r,h=>.cons (h a bH) (DatAll.of fun b hb=>h b (bx _ hb))
end
mutual
def zI:PyData→Bool
 | .none=>true
 | .int _=>true
 | .str x=>b6 x
 | .list xs=>zR xs
 | .tuple xs=>zR xs
 | .bool _=>false
 | .dict _=>false
def zR:List PyData→Bool
 | []=>true
 | x :: xs=>zI x && zR xs
end
mutual
theorem Vz:∀ {d:PyData},zI d=true→d.canLay0=true
 | .none,_=>by simp [eM]
 | .int _,_=>by simp [eM]
 | .str x,h=>by simpa [eM,zI] using h
 | .list xs,h=>by rw [eM];exact ZD (by simpa [zI] using h)
 | .tuple xs,h=>by rw [eM];exact ZD (by simpa [zI] using h)
 | .bool _,h=>by simp [zI] at h
 | .dict _,h=>by simp [zI] at h
theorem ZD:∀ {ds:List PyData},zR ds=true→fQ ds=true
 | [],_=>by simp [fQ]
 | x :: xs,h=>by
  rw [zR,bX] at h
  rw [fQ,Vz h.1,ZD h.2];rfl
end
mutual
theorem YB:∀ {d e:PyData},zI d=true→zI e=true→(gS d e=true↔d=e)
 | .list xs,.list ys,h,h'=>by
  rw [gS,ZE (by simpa [zI] using h) (by simpa [zI] using h'),PyData.list.injEq]
 | .tuple xs,.tuple ys,h,h'=>by
  rw [gS,ZE (by simpa [zI] using h) (by simpa [zI] using h'),PyData.tuple.injEq]
 | .bool _,_,h,_=>by simp [zI] at h
 | .dict _,_,h,_=>by simp [zI] at h
 | .none,.bool _,_,h=>by simp [zI] at h
 | .int _,.bool _,_,h=>by simp [zI] at h
 | .str _,.bool _,_,h=>by simp [zI] at h
 | .list _,.bool _,_,h=>by simp [zI] at h
 | .tuple _,.bool _,_,h=>by simp [zI] at h
 | .none,.dict _,_,h=>by simp [zI] at h
 | .int _,.dict _,_,h=>by simp [zI] at h
 | .str _,.dict _,_,h=>by simp [zI] at h
 | .list _,.dict _,_,h=>by simp [zI] at h
 | .tuple _,.dict _,_,h=>by simp [zI] at h
 | .none,.none,_,_ | .none,.int _,_,_ | .none,.str _,_,_ | .none,.list _,_,_ | .none,.tuple _,_,_=>by simp [gS]
 | .int _,.none,_,_ | .int _,.int _,_,_ | .int _,.str _,_,_ | .int _,.list _,_,_ | .int _,.tuple _,_,_=>by simp [gS]
 | .str _,.none,_,_ | .str _,.int _,_,_ | .str _,.str _,_,_ | .str _,.list _,_,_ | .str _,.tuple _,_,_=>by simp [gS]
 | .list _,.none,_,_ | .list _,.int _,_,_ | .list _,.str _,_,_ | .list _,.tuple _,_,_=>by simp [gS]
 | .tuple _,.none,_,_ | .tuple _,.int _,_,_ | .tuple _,.str _,_,_ | .tuple _,.list _,_,_=>by simp [gS]
theorem ZE:∀ {xs ys:List PyData},zR xs=true→zR ys=true→(iH xs ys=true↔xs=ys)
 | [],[],_,_=>by simp [iH]
 | [],_ :: _,_,_=>by simp [iH]
 | _ :: _,[],_,_=>by simp [iH]
 | x :: xs,y :: ys,h,h'=>by
  rw [zR,bX] at h h'
  rw [iH,bX,YB h.1 h'.1,ZE h.2 h'.2,bq]
end
abbrev WI (K:br) (neg:Bool):R2:=fun x y H Q=>∃ d e,Dat K H x d∧Dat K H y e∧(zI d=true∧zI e=true∧d.depth≤64∧e.depth≤64)∧∀ b:Bool,(b=true↔d=e)→Q (.bl (if neg then !b else b)) H
section
variable {X:Cx}
theorem vb {d:PyData} (h:zI d=true) (h':d.depth≤64):ii d=true:=by
 unfold ii
 rw [Vz h,decide_eq_true h'];rfl
theorem zcw (hu:X.A.units + 64 < cLine):OpR X (compareOp .Eq) (WI X.K false):=by
 intro pins s σ H x y v u Q I rx ry h
 obtain ⟨d,e,hd,he,⟨p1,p2,l1,l2⟩,q⟩:=h
 obtain ⟨as,ra⟩:=hd.reads I rx
 obtain ⟨bs,rb⟩:=he.reads I ry
 exact eq_dataH ra rb (vb p1 l1) (vb p2 l2) hu ⟨.bl _,H,I,rfl,q _ (YB p1 p2)⟩
theorem qe (hu:X.A.units + 64 < cLine):OpR X (compareOp .NotEq) (WI X.K true):=by
 intro pins s σ H x y v u Q I rx ry h
 obtain ⟨d,e,hd,he,⟨p1,p2,l1,l2⟩,q⟩:=h
 obtain ⟨as,ra⟩:=hd.reads I rx
 obtain ⟨bs,rb⟩:=he.reads I ry
 exact ne_dataH ra rb (vb p1 l1) (vb p2 l2) hu ⟨.bl _,H,I,rfl,q _ (YB p1 p2)⟩
end
end L2
namespace L2
open PySem PySem.Spec PyProof.Rows
abbrev Jk (neg:Bool):R2:=fun x y H Q=>∃ a o,y=.ref a∧DGet H a x o∧Q (.bl (if neg then !o.isSome else o.isSome)) H
section
variable {X:Cx}
theorem XM (hu:X.A.units + 1 < cLine):OpR X (compareOp .In) (Jk false):=by
 intro pins s σ H x y v u Q I rx ry h
 obtain ⟨a,o,rfl,g,q⟩:=h
 cases ry
 exact zge hu I g rx fun s' I'=>⟨.bl _,H,I',rfl,q⟩
theorem QK (hu:X.A.units + 1 < cLine):OpR X (compareOp .NotIn) (Jk true):=by
 intro pins s σ H x y v u Q I rx ry h
 obtain ⟨a,o,rfl,g,q⟩:=h
 cases ry
 exact zdG hu I g rx fun s' I'=>⟨.bl _,H,I',rfl,q⟩
end
end L2
namespace L2
open PySem
abbrev Pl:=Str × Int
abbrev Row:=Pl × Int
def zr:List Row→Pl→Option Int
 | [],_=>none
 | r :: t,p=>(zr t p).or (if r.1=p then some r.2 else none)
def Ye (kvs:List (List Key × V)) (q:Row):List (List Key × V):=yB kvs (zH q.1) (.int q.2)
def dOf (rows:List Row):List (List Key × V):=rows.foldl Ye []
theorem xc {p q:Pl} (h:zH p=zH q):p=q:=by
 unfold zH at h
 simp only [bq,Sum.inr.injEq,Sum.inl.injEq,and_true] at h
 exact oN h.1 h.2
theorem Ko:∀ (rows:List Row) (kvs:List (List Key × V)) (p:Pl),yP (rows.foldl Ye kvs) (zH p)=((zr rows p).map V.int).or (yP kvs (zH p))
 | [],_,_=>rfl
 | r :: t,kvs,p=>by
  rw [eR,Ko t,zr]
  show _=_
  rw [Ye,Z6]
  cases zr t p with
  | some w=>rfl
  | none =>
   by_cases e:r.1=p
   ·subst e;simp
   ·rw [if_neg (fun z=>e (xc z).symm)];simp [e]
theorem xH (rows:List Row) (p:Pl):yP (dOf rows) (zH p)=(zr rows p).map V.int:=by
 unfold dOf
 rw [Ko,XT]
 cases zr rows p <;> rfl
theorem vn (rows:List Row) (q:Row):dOf (rows ++ [q])=yB (dOf rows) (zH q.1) (.int q.2):=by
 unfold dOf
 rw [List.foldl_append];rfl
def OkKv (kvs:List (List Key × V)):Prop:=(kvs.map (·.1)).Nodup∧∀ kv∈kvs,∃ (p:Pl) (w:Int),kv=(zH p,.int w)
theorem OkKv.put {kvs:List (List Key × V)} (h:OkKv kvs) (p:Pl) (w:Int):OkKv (yB kvs (zH p) (.int w)):=by
 cases e:yP kvs (zH p) with
 | none =>
  refine ⟨zdI _ h.1 e,fun kv hk=>?_⟩
  rw [XU _ e] at hk
  rcases bz.mp hk with hk | hk
  ·exact h.2 kv hk
  ·exact ⟨p,w,bD.mp hk⟩
 | some v =>
  have q:(kvs.any fun kv=>decide (kv.1=zH p))=true:=by rw [wz,e];rfl
  unfold yB
  rw [if_pos q]
  constructor
  ·rw [gB]
   have:((fun x:List Key × V=>x.1) ∘ fun kv:List Key × V=>if kv.1=zH p then (kv.1,V.int w) else kv)=fun x=>x.1:=by
    funext kv
    show (if kv.1=zH p then (kv.1,V.int w) else kv).1=kv.1
    split <;> rfl
   rw [this];exact h.1
  ·intro kv hk
   obtain ⟨z,hz,rfl⟩:=cG.mp hk
   by_cases e:z.1=zH p
   ·exact ⟨p,w,by rw [if_pos e,e]⟩
   ·rw [if_neg e];exact h.2 z hz
theorem VA:∀ (rows:List Row) (kvs:List (List Key × V)),OkKv kvs→OkKv (rows.foldl Ye kvs)
 | [],_,h=>h
 | r :: t,kvs,h=>VA t _ (h.put r.1 r.2)
theorem vo (rows:List Row):OkKv (dOf rows):=VA rows [] ⟨lq,fun _ h=>nomatch h⟩
theorem zd2 (kvs:List (List Key × V)) (k:List Key) (v:V):(yB kvs k v).length≤kvs.length + 1:=by
 unfold yB
 split
 ·rw [bB];lia
 ·rw [bw];simp
theorem Kq:∀ (rows:List Row) (kvs:List (List Key × V)),(rows.foldl Ye kvs).length≤kvs.length + rows.length
 | [],_=>by simp
 | r :: t,kvs=>by
  have:=Kq t (Ye kvs r)
  have:=zd2 kvs (zH r.1) (.int r.2)
  rw [eR,ck]
  unfold Ye at *
  lia
theorem yY (rows:List Row):(dOf rows).length≤rows.length:=by have:=Kq rows [];simpa [dOf] using this
theorem zaI {kvs:List (List Key × V)}:(kvs.map (·.1)).Nodup→∀ kv∈kvs,yP kvs kv.1=some kv.2:=by
 induction kvs with
 | nil=>exact fun _ kv h=>nomatch h
 | cons a r ih =>
  intro hn kv hk
  rw [bW,cu] at hn
  rcases bN.mp hk with rfl | hk
  ·exact yZ rfl
  ·rw [y0 fun z=>hn.1 (by rw [z];exact cP hk)]
   exact ih hn.2 kv hk
theorem mem_dOf {rows:List Row} {kv:List Key × V}:kv∈dOf rows↔∃ p w,kv=(zH p,.int w)∧zr rows p=some w:=by
 constructor
 ·intro h
  obtain ⟨p,w,rfl⟩:=(vo rows).2 kv h
  have:=zaI (vo rows).1 _ h
  rw [xH] at this
  obtain ⟨w',e1,e2⟩:=dk.mp this
  cases e2
  exact ⟨p,w,rfl,e1⟩
 ·rintro ⟨p,w,rfl,h⟩
  have e:yP (dOf rows) (zH p)=some (.int w):=by rw [xH,h];rfl
  obtain ⟨kv,hk,e1⟩:=cG.mp (zam e)
  have:=zaI (vo rows).1 _ hk
  rw [e1,e] at this
  have e2:kv=(zH p,V.int w):=oN e1 (ca this).symm
  rw [← e2];exact hk
theorem vU (a:Pl):zX a a=false:=by
 unfold zX
 rw [if_pos rfl]
 exact decide_eq_false (by lia)
theorem WJ {a b c:Pl} (h1:zX a b=true) (h2:zX b c=true):zX a c=true:=by
 unfold zX at *
 by_cases e1:a.1=b.1
 ·rw [if_pos e1] at h1
  by_cases e2:b.1=c.1
  ·rw [if_pos e2] at h2
   rw [if_pos (e1.trans e2)]
   have h1:=of_decide_eq_true h1
   have h2:=of_decide_eq_true h2
   exact decide_eq_true (by lia)
  ·rw [if_neg e2] at h2
   rw [if_neg (by rw [e1];exact e2),e1]
   exact h2
 ·rw [if_neg e1] at h1
  have h1:=of_decide_eq_true h1
  by_cases e2:b.1=c.1
  ·rw [if_neg (by rw [← e2];exact e1),← e2]
   exact decide_eq_true h1
  ·rw [if_neg e2] at h2
   have h2:=of_decide_eq_true h2
   have h3:=List.lt_trans h1 h2
   rw [if_neg (fun z=>by rw [z] at h3;exact List.lt_irrefl _ h3)]
   exact decide_eq_true h3
def Rising (l:List Row):Prop:=l.Pairwise fun a b=>zX a.1 b.1=true
def xS (rows out:List Row):Prop:=Rising out∧∀ p w,(p,w)∈out↔zr rows p=some w∧w≠0
theorem Rising.nd {l:List Row} (h:Rising l):(l.map (·.1)).Nodup:=by
 unfold iJ
 rw [eh]
 exact List.Pairwise.imp (fun {a b} h z=>by rw [z,vU] at h;cases h) h
theorem VB {p:Pl}:∀ {l:List Row},(∀ r∈l,r.1≠p)→zr l p=none
 | [],_=>rfl
 | r :: t,h=>by
  rw [zr,VB fun r hr=>h r (bx _ hr),if_neg (h r bH)];rfl
theorem jS {p:Pl} {w:Int}:∀ {l:List Row},(l.map (·.1)).Nodup→(zr l p=some w↔(p,w)∈l)
 | [],_=>by simp [zr]
 | r :: t,hn=>by
  rw [bW,cu] at hn
  have ih:=jS (p:=p) (w:=w) hn.2
  by_cases e:r.1=p
  ·have z:zr t p=none:=VB fun q hq zz=>hn.1 (by rw [e,← zz];exact cP hq)
   rw [zr,z,if_pos e]
   constructor
   ·intro h
    have:r.2=w:=by simpa using h
    rw [← e,← this];exact bH
   ·intro h
    rcases bN.mp h with h | h
    ·rw [← h];rfl
    ·exact absurd (cP (f:=(·.1)) h) (by rw [← e];exact hn.1)
  ·rw [zr,if_neg e,oF,ih,bN]
   constructor
   ·exact .inr
   ·rintro (h | h)
    ·exact absurd (by rw [← h]) e
    ·exact h
theorem ZF:∀ {a b:List Row},Rising a→Rising b→(∀ x,x∈a↔x∈b)→a=b
 | [],[],_,_,_=>rfl
 | [],y :: _,_,_,h=>absurd ((h y).mpr bH) (by simp)
 | x :: _,[],_,_,h=>absurd ((h x).mp bH) (by simp)
 | x :: a,y :: b,ha,hb,h=>by
  unfold Rising at ha hb
  rw [List.pairwise_cons] at ha hb
  have e:x=y:=by
   rcases bN.mp ((h x).mp bH) with e | e
   ·exact e
   ·rcases bN.mp ((h y).mpr bH) with e' | e'
    ·exact e'.symm
    ·have:=WJ (ha.1 y e') (hb.1 x e)
     rw [vU] at this;cases this
  subst e
  have nx:x ∉ a:=fun z=>by have:=ha.1 x z;rw [vU] at this;cases this
  have ny:x ∉ b:=fun z=>by have:=hb.1 x z;rw [vU] at this;cases this
  rw [ZF ha.2 hb.2 fun z=>?_]
  constructor
  ·intro hz
   rcases bN.mp ((h z).mp (bx _ hz)) with e | e
   ·subst e;exact absurd hz nx
   ·exact e
  ·intro hz
   rcases bN.mp ((h z).mpr (bx _ hz)) with e | e
   ·subst e;exact absurd hz ny
   ·exact e
theorem zcx {rows a b:List Row} (ha:xS rows a) (hb:xS rows b):a=b :=
 ZF ha.1 hb.1 fun x=>(ha.2 x.1 x.2).trans (hb.2 x.1 x.2).symm
theorem qZ {α:Type} [DecidableEq α]:∀ {a b:List α},a.Nodup→(∀ x∈a,x∈b)→a.length≤b.length
 | [],_,_,_=>b9 _
 | x :: a,b,hn,h=>by
  rw [cu] at hn
  have hx:=h x bH
  have:=qZ (a:=a) (b:=b.erase x) hn.2 fun y hy=>(List.mem_erase_of_ne fun z=>hn.1 (by rw [← z];exact hy)).mpr (h y (bx _ hy))
  rw [List.length_erase_of_mem hx] at this
  have:0 < b.length:=List.length_pos_of_mem hx
  rw [ck];lia
def nzV (kv:List Key × V):Bool:=decide (kv.2≠.int 0)
theorem zd3 {rows out:List Row} (h:xS rows out):((dOf rows).filter nzV).length=out.length:=by
 have n1:(((dOf rows).filter nzV).map (·.1)).Nodup:=nK (List.Sublist.map _ nj) (vo rows).1
 have n2:((out.map (·.1)).map zH).Nodup:=by
  have:=h.1.nd
  unfold iJ at *
  rw [eh]
  exact this.imp fun {a b} hab z=>hab (xc z)
 have sub1:∀ k∈((dOf rows).filter nzV).map (·.1),k∈(out.map (·.1)).map zH:=fun k hk=>by
  obtain ⟨kv,hkv,rfl⟩:=cG.mp hk
  rw [iM] at hkv
  obtain ⟨p,w,rfl,e⟩:=mem_dOf.mp hkv.1
  have hw:w≠0:=fun z=>by have:=of_decide_eq_true hkv.2;rw [z] at this;exact this rfl
  exact cP (cP (f:=(·.1)) ((h.2 p w).mpr ⟨e,hw⟩))
 have sub2:∀ k∈(out.map (·.1)).map zH,k∈((dOf rows).filter nzV).map (·.1):=fun k hk=>by
  obtain ⟨p,hp,rfl⟩:=cG.mp hk
  obtain ⟨⟨p,w⟩,hr,rfl⟩:=cG.mp hp
  obtain ⟨e,hw⟩:=(h.2 p w).mp hr
  exact cG.mpr ⟨(zH p,.int w),iM.mpr ⟨mem_dOf.mpr ⟨p,w,rfl,e⟩,decide_eq_true (by simpa using hw)⟩,rfl⟩
 have l1:=qZ n1 sub1
 have l2:=qZ n2 sub2
 simp only [bB] at l1 l2
 lia
end L2
namespace L2
open PySem PySem.Spec PyProof.Rows
end L2
namespace L2
open PySem PySem.Spec PyProof.Rows
theorem q8:plainId "dict.update.loop"=true:=by decide +kernel
theorem VC:entryFor table "dict.update.loop"=some Builtin.«dict.update.loop»:=entryFor_of_fast (by kernel_rfl)
section
variable {X:Cx} {A:Around} {R:Result→Shared→Prop}
def PrAt (H:Hp) (v:V) (q:Row):Prop:=∃ r p,v=.ref r∧H r=some (.tup [.ref p,.int q.2])∧H p=some (.tup [.str q.1.1,.int q.1.2])
theorem zbt {pins:List (Addr × Obj)} {σ:St} {H:Hp} {s:Shared} {d b:Addr} {kvs:List (List Key × V)} {k:List Key} {v:V} {u:Value} {E:Value→Shared→Prop} {Q:Unit→Shared→Prop} (hu:A.units + 1 < cLine) (I:Inv X pins σ H s) (e:H d=some (.dT kvs)) (eb:H b=some (.tup (k.map kV))) (l:kvs.length < sizeLine) (rv:RelV v u)
  (h:∀ h' tk,Inv X pins σ (upd H d (.dT (yB kvs k v))) { s with heap:=h',toks:=tk }→cQ d s.heap h'→Q () { s with heap:=h',toks:=tk }):wpAny (model X.prog X.w) A.in1 (dictSet d (.ref b) u) Q E s:=by
 obtain ⟨z,hd,xs,rel,dd⟩:=zeG I.hok e
 have hz:xs.length≤sizeLine:=by rw [← cy rel];exact z
 have hl:(yB kvs k v).length≤sizeLine:=by have:=xp kvs k v;lia
 refine wpAny_dictSet_heap (hsz:=hz) (eJ hu) (Zy I.hok eb) dd fun h' dd' hs=>h _ _ ?_ hs
 obtain ⟨q,es,ep,hq,h2,h3,h4,_,h5⟩:=dd'
 refine V3 I (by rw [e];exact eP) hs ⟨q,hq⟩ ⟨hl,hd,_,(rel.put k eb rv).keeps fun c ys ec=>?_,q,es,ep,hq,h2,h3,h4,h5⟩
 rw [zj (yi ec e (fun z=>nomatch z))]
 exact ec
theorem zcy {pins:List (Addr × Obj)} {σ:St} {H:Hp} {d it l:Addr} {xs:List V} {rows:List Row} {res:Value} (hu:A.units + 1 < cLine) (hh:A.handled=none) (hd:H d=none) (hl:H l=some (.lst xs)) (hr:Paired (PrAt H) xs rows) (h63:rows.length≤1000) (dit:it≠d) (lit:l≠it) :
  ∀ (k i:Nat) (s:Shared),rows.length - i=k→i≤rows.length→Inv X pins σ (upd H d (.dT (dOf (rows.take i)))) s→s.heap.IsListIter it l i→(∀ u,kQ X pins (upd H d u) it) →
  (∀ s',Inv X pins σ (upd H d (.dT (dOf rows))) s'→R (.ok (.ret res)) s') →
  codeAny (model X.prog X.w) A (.builtin "dict.update.loop" ⟨[.ref d,.ref it,rawInt i,res],[]⟩) R s:=by
 have lx:xs.length=rows.length:=cy hr
 have S:∀ u:HO,Same H (upd H d u):=fun u=>isV (o:=u) d hd
 intro k
 induction k with
 | zero =>
  intro i s hk hi I st hf fin
  have e:i=rows.length:=by lia
  subst e
  refine eD VC ?_
  rw [dh q8 _]
  show wpAny _ A.in1 (pyNext (.ref it) >>= _) _ _ s
  obtain ⟨its,rv,p,hz⟩:=I.list (SqL.of (S _ _ _ hl))
  obtain ⟨f0,f1,f2,f3,f4,f5⟩:=hf (.dT (dOf (rows.take rows.length)))
  have hl2:=rv.length
  refine ba (mJ hh st p.isList (by simp;lia) fun h' eb=>?_)
  have I1:=I.turned (t':=s.toks) (fun b o hb e=>eb b o hb e) f0 f1 f3 f4 f5
  rw [eG] at I1
  show wpAny _ A.in1 (Builtin.Dict.addKeywords d [] >>= _) _ _ _
  exact ba (bj (bj (fin _ I1)))
 | succ k ih =>
  intro i s hk hi I st hf fin
  have hlt:i < rows.length:=by lia
  refine eD VC ?_
  rw [dh q8 _]
  show wpAny _ A.in1 (pyNext (.ref it) >>= _) _ _ s
  obtain ⟨its,rv,p,hz⟩:=I.list (SqL.of (S _ _ _ hl))
  obtain ⟨f0,f1,f2,f3,f4,f5⟩:=hf (.dT (dOf (rows.take i)))
  have hx:xs[i]?=some xs[i]:=bg (by lia)
  have hq:rows[i]?=some rows[i]:=bg hlt
  obtain ⟨r,pl,e1,t1,u1⟩:=ym hr hx hq
  obtain ⟨u,hu',ru⟩:=rv.get hx
  rw [e1] at ru
  cases ru
  refine ba (my st p.isList (x:=.ref r) (by simpa using hu') fun h' st' sb=>?_)
  have I1:=I.turned (t':=s.toks) (fun b o hb e=>(sb.2 b hb).trans e) f0 f1 f3 f4 f5
  obtain ⟨tis,tv,⟨o,ho,hc,n,hdt⟩,_⟩:=I1.tuple (SqT.of (S _ _ _ t1))
  cases tv with
  | cons r1 rr =>
   cases rr with
   | cons r2 rn =>
    cases rn
    cases r1
    obtain ⟨tk,rfl⟩:=r2
    refine ba (dM ?_)
    have T:({ s with heap:=h' }:Shared).TypeIs (.ref r) "tuple":=⟨o,ho,hc⟩
    refine ba (wpAny_tryCatch ?_)
    unfold Builtin.Dict.pairItems
    refine ba (n9 T ?_)
    rw [if_pos (by decide)]
    refine ba ?_
    unfold seqItems?
    refine ba (mU ho ?_)
    rw [hdt]
    refine bj (bj ?_)
    show wpAny _ _ (holding [.ref pl,.int rows[i].2 tk] (dictSet d (.ref pl) (.int rows[i].2 tk))) _ _ _
    refine dM ?_
    have tk2:dOf (rows.take (i + 1))=yB (dOf (rows.take i)) (zH rows[i].1) (.int rows[i].2):=by rw [dL,hq,← vn];rfl
    have l2:(dOf (rows.take i)).length < sizeLine:=by
     have h1:=yY (rows.take i)
     have h2:=List.length_take_le' i rows
     exact bY (by lia:_≤1000) (by decide)
    refine zbt (k:=zH rows[i].1) (v:=.int rows[i].2) hu I1 zf (S _ _ _ u1) l2 ⟨tk,rfl⟩ fun h2 tk3 I2 sb2=>?_
    rw [XE,← tk2] at I2
    refine bj ⟨fS q8 _,ih (i + 1) _ (by lia) hlt I2 (st'.at fun o e=>(sb2.2 it dit).trans e) hf fin⟩
end
end L2
namespace L2
open PySem PySem.Spec PyProof.Rows
theorem Jl:typeLookup (.type "list") "keys"=pure none:=by rw [typeLookup_type,builtinLookup_eq_fast];kernel_rfl
section
variable {prog:Program} {w:World} {A:Around} {E:Value→Shared→Prop} {s:Shared} {a:Addr} {o:Obj} {xs:Array Value} {k:Nat}
theorem X9 {Q:Option Value→Shared→Prop} (hx:s.heap.get? a=some o) (hc:o.cls=.type "list") (hdat:o.data=.seq xs k) (hd:o.dict=none) (hA:A.handled=none)
  (h:∀ h' tk,(∀ b ob,s.heap.get? b=some ob→h'.get? b=some ob)→Q none { s with heap:=h',toks:=tk }):wpAny (model prog w) A (getAttr? (.ref a) "keys") Q E s:=by
 obtain ⟨c,dct,dat,sl⟩:=o;simp only at hc hdat hd;subst hc hdat hd
 obtain ⟨hp,g,d,tk,os⟩:=s;have hT:∀ tk',(⟨hp,g,d,tk',os⟩:Shared).TypeIs (.ref a) "list":=fun _=>⟨_,hx,rfl⟩
 have f1:=sub_AttributeError;have f3:=F.slot_list_getattribute.lookup;have f4:=F.slot_list_getattribute.bind (.ref a);have f5:=am_list_getattr_none
 unfold getAttr? getAttrBy? getAttrBy
 repeat (any_goals (first | assumption | exact hT _ | ((with_reducible show wpAny _ _ (call (Value.builtin "list.__getattribute__") _ _) _ _ _);refine lK F.slot_list_getattribute (hT _) am_entry_list_getattribute (F.args_list_getattribute_2 _ _) (meets_getattribute_miss_list a xs k sl "keys" _ Jl (by decide +kernel) (by decide +kernel)) ⟨hx,hA,fun h' tk' e hx'=>?_⟩) | wp_step))
 obtain ⟨t',u',he⟩:=hx'.there;have kp:=hx'.keeps
 show wpAny _ _ (getattributeRaised _ _ _ _ _ _ _) _ _ _;unfold getattributeRaised
 repeat (any_goals (first | assumption | wp_step))
 all_goals exact h _ _ fun b ob e=>kp b ob e
end
theorem hu3 {k:Nat} {A:Around} (r:Room k A):A.units + 3 < cLine:=by have:=WG r;lia
abbrev qf:RC:=fun vs H Q=>∃ (a:Addr) (xs:List V) (rows:List Row),vs=[.ref a]∧H a=some (.lst xs)∧Paired (PrAt H) xs rows∧rows.length≤1000∧∀ p,H p=none→Q (.ref p) (upd H p (.dT (dOf rows)))
section
variable {X:Cx}
theorem y7 (hc:X.calm=true) (hu:X.A.units + 3 < cLine):kR X (.type "dict") qf:=by
 intro pins s σ H vs us Q I r h
 obtain ⟨a,xs,rows,rfl,ha,hr,hl,q⟩:=h
 obtain ⟨u,rfl,ru⟩:=Y0 r
 cases ru
 have hh:X.A.handled=none:=I.ok.hd hc
 refine callType_codes (Q₁:=fun obj s₁=>obj=.ref s.heap.objs.size∧s₁={ s with heap:=s.heap.push { cls:=.type "dict",data:=.dict #[] } }) F.kt_called_dict (F.kt_typeCall_dict_1 _) F.entry_dict_init (kt_code_dict_new _ ⟨rfl,rfl⟩) ?_;rintro obj s₁ ⟨rfl,rfl⟩
 have T0:({ s with heap:=s.heap.push { cls:=.type "dict",data:=.dict #[] } }:Shared).TypeIs (.ref s.heap.objs.size) "dict":=⟨_,bC _ rfl,rfl⟩
 refine ⟨T0,F.args_dict_init_2 _ _,?_⟩;unfold Builtin.«dict.__init__»;refine ba ?_;unfold Builtin.Dict.selfAndRest
 refine ba (fI T0 ?_);show wpAny _ _ (pure (s.heap.objs.size,[bL a])) _ _ _;refine bj ?_
 show wpAny _ _ (l7 "dict.__init__" s.heap.objs.size (.ref a) [] .none) _ _ _;unfold l7
 have hn:H s.heap.objs.size=none:=I.hok.fresh (bu _)
 have S:∀ u:HO,Same H (upd H s.heap.objs.size u):=fun u=>isV (o:=u) _ hn
 have I1:Inv X pins σ (upd H s.heap.objs.size (.dT [])) { s with heap:=s.heap.push { cls:=.type "dict",data:=.dict #[] } } :=
  I.laid (a:=s.heap.objs.size) (o:=.dT []) (t':=s.toks) (fun b o z=>bn _ z) (bu _) (J4 s.heap I.big)
 obtain ⟨its,rv,pl,_⟩:=I1.list (SqL.of (S _ _ _ ha))
 obtain ⟨o,n,ho,oc,od,odat⟩:=id pl
 have T1:({ s with heap:=s.heap.push { cls:=.type "dict",data:=.dict #[] } }:Shared).TypeIs (.ref a) "list":=⟨o,ho,oc⟩
 refine ba (n9 T1 ?_);rw [if_pos (by decide)]
 refine ba (X9 ho oc odat od (by exact hh) fun h2 tk2 k2=>?_);rw [if_pos (show (none:Option Value).isNone=true from rfl)]
 refine ba (gR ?_)
 have I2:Inv X pins σ (upd H s.heap.objs.size (.dT [])) { s with heap:=h2,toks:=tk2 }:=I1.kept k2
 obtain ⟨its2,rv2,pl2,_⟩:=I2.list (SqL.of (S _ _ _ ha))
 refine ba (wpAny_pyIter_list pl2.isList ?_)
 have I3:Inv X pins σ (upd H s.heap.objs.size (.dT (dOf (rows.take 0)))) { s with heap:=h2.push { cls:=.type "list_iterator",data:=.fields #[.ref a,.int 0 0] },toks:=tk2 }:=I2.kept (t':=tk2) fun b o e=>bn _ e
 refine bj ⟨fS q8 _,?_⟩
 have lt:s.heap.objs.size < h2.objs.size:=bS (k2 s.heap.objs.size _ (bC _ rfl))
 have la:a < h2.objs.size:=by obtain ⟨_,_,z,_⟩:=pl2;exact bS z
 refine zcy (A:=X.A.in1) (H:=H) (d:=s.heap.objs.size) (it:=h2.objs.size) (l:=a) (xs:=xs) (rows:=rows) (res:=.none) ?_ hh hn ha hr hl (dW lt) (cz la) rows.length 0 _ (by lia) (b9 _) I3 ⟨_,bC _ rfl,rfl,rfl⟩ (fun u=>?_) fun s' I'=>⟨rfl,.ref s.heap.objs.size,_,I',rfl,q _ hn⟩
 ·have e:X.A.in1.units=X.A.units + 1:=rfl
  lia
 ·refine I2.fpOk (bu _) ?_
  rw [zj (dW lt)]
  have:=I2.hok.fresh (bu h2.objs.size)
  rw [zj (dW lt)] at this
  exact this
end
end L2
namespace L2
open PySem PySem.Spec PyProof.Rows
section
variable {X:Cx} {k:Nat} {f C:Addr} {fd:FuncData} {ps:List Str} {sp:Sp} {m:Str} {pos apos:Pos} {e o:Expr} {es:List Expr} {ta:TE} {t:TA}
def YC (C:Addr) (m:Str) (sp:Sp) (ta:TE) (t:TA) (EX:EXK):TE:=fun σ H Q=>ta σ H fun x H1=>∃ a dx fs,x=.ref a∧H1 a=some (.ins C dx fs)∧fs.lookup m=none ∧
 t σ H1 fun vs H2=>sp (x :: (vs ++ [])) H2 Q fun cls _ H3=>EX cls σ H3
theorem Wa {pl:Sem Bool} (he:PE X.nox o ta) (c:Cls X.K C) (hm:zbc X.K C m f) (F:FnOk X.prog X.w X.K X.mg X.base (CX1 X.prog X.w) k f fd ps sp) (hr:Room k X.A) (hb:Binds X.K fd ps []) (ha:PA X.nox (e :: es) t)
  (hst:starEach (e :: es) X.env=(false,eval e X.env) :: starEach es X.env:=by rfl) (hpl:(backTo pos (starEach es X.env)).any (·.1)=false:=by rfl)
  (ht:eval (.Call (.Attribute o m apos) (e :: es) [] pos) X.env=(do
   let ov ← eval o X.env
   standAt apos.atName
   let (f,first) ← holding [ov] (getMethod ov m pl)
   callWith pos f first (backTo pos (starEach (e :: es) X.env)) (backToKw pos (keywordEach [] X.env))):=by rfl) :
  PEX X (.Call (.Attribute o m apos) (e :: es) [] pos) (YC C m sp ta t):=by
 intro pins s σ H Q EX I h
 refine mL (pl:=pl) (db (he pins s σ H _ (I.wish _) h) (fun u s1 ⟨x,H1,I1',rx,a,dx,fs,ex,ea,l,q⟩=>?_) fun _ _ z=>cI z) ht
 subst ex
 obtain rfl:u=bL a:=rx
 have I1:=I1'.unwish
 refine Zx I1 ea c hm l ?_
 refine lg (first:=[.ref a]) (h₀:=X.base) I.ok.mod.kin hm.kp (db (ha pos pins s1 σ H1 _ (I1.wish _) q) (fun us s2 ⟨vs,H2,I2',r,q2⟩=>⟨I2'.kIn,?_⟩) fun _ _ z=>cI z) hst hpl
 have I2:=I2'.unwish
 have r2:Vals (V.ref a :: (vs ++ [])) (bL a :: (us ++ [])):=.cons rfl (r.append .nil)
 have hl:((bL a :: us) ++ []).length=ps.length:=by
  have e:=r2.length
  rw [F.len _ _ _ _ q2] at e
  exact e.symm
 refine nQ (eI (F.run X.A X.stack s2 H2 ⟨.ref a :: us,[]⟩ ((.ref a :: us) ++ []) (.ref a :: (vs ++ [])) _ _ hr I2.env0 (hb s2 (.ref a :: us) I2.kIn hl) r2 q2) fun r s' hq=>?_)
 cases r with
 | error ev =>
  obtain ⟨e,cls,H',rfl,os,bare,un,hok,xf,hE⟩:=hq
  exact ⟨e,cls,σ,s2,H2,H',rfl,I2,I2.call' (ch:=[]) os un hok bare (fun b z=>nomatch z),xf,hE⟩
 | ok fl =>
  cases fl with
  | ret u=>exact I2.after hq
  | next=>exact cI hq
  | brk=>exact cI hq
  | cont=>exact cI hq
end
def Wb (K:br) (tb:EXK→TS) (C1:Addr) (th1:TS) (C2:Addr) (th2:TS):TS:=fun D σ H=>tb (fun cls σ1 H1=>∃ C,cls=.ref C ∧
 ((gZ K (.ref C) (.ref C1)=some true∧th1 D σ1 H1)∨(gZ K (.ref C) (.ref C1)=some false∧gZ K (.ref C) (.ref C2)=some true∧th2 D σ1 H1))) D σ H
section
variable {X:Cx} {st b₀ b₁:Stmt} {suite suite1:List Stmt} {tb:EXK→TS} {th1 th2:TS} {c1 c2:Str} {C1 C2:Addr} {np hpos np2 hpos2 pos:Pos}
theorem Kr (hst:X.stack=X.env :: X.outer∧X.env.frame=some X.env.locals) (hex:X.ex=[]) (hb:PSX X st tb) (hg1:Gl X c1) (hm1:X.mg c1=some (.ref C1)) (hg2:Gl X c2) (hm2:X.mg c2=some (.ref C2))
  (hs1:∀ e,PSs (X.sub e) (b₀ :: suite) th1) (hs2:∀ e,PSs (X.sub e) (b₁ :: suite1) th2) (hdb1:(c1 == ("__debug__":Str))=false:=by decide) (hdb2:(c2 == ("__debug__":Str))=false:=by decide) :
  PS X (.Try [st] [.ExceptHandler (some (.Name c1 np)) none (b₀ :: suite) hpos,.ExceptHandler (some (.Name c2 np2)) none (b₁ :: suite1) hpos2] [] [] pos) (Wb X.K tb C1 th1 C2 th2):=by
 intro pins s σ H D I h
 refine wpAny_Try_except (iq (db (hb pins s σ H D _ I h) (fun f s1 q=>?_) fun ev s1 q=>?_))
 ·cases f with
  | next=>exact et (et q)
  | ret v=>exact q
  | brk=>exact q
  | cont=>exact q
 obtain ⟨e,cls,σ1,s0,H0,H1,rfl,I0,I1,xf,C,rfl,hth⟩:=q
 obtain ⟨oe,vs,a0,T,oT,ts,h1,h2,h3,h4,h5,h6,h7,h8,h9,h10,h11,h12⟩:=xf
 have fr:s1.heap.FunFrames (fX s1.heap (frs X.stack ++ [e,T])) (X.env :: X.outer):=by
  have q:=ir (as:=frs X.stack ++ [e,T]) I1.stack fun env he a ha=>cZ _ (fq.mpr ⟨env,he,ha⟩)
  rw [hst.1] at q ⊢
  exact q
 have two:∀ b∈[e,T],s0.heap.get? b=none∧H1 b=none:=fun b z=>by
  have z':b=e∨b=T:=by simpa using z
  rcases z' with rfl | rfl
  ·exact ⟨h9,h11⟩
  ·exact ⟨h10,h12⟩
 have hcs:∀ b∈[e,T],H1 b=none∧X.s₀.heap.get? b=none:=fun b z=>⟨(two b z).2,jr (I0.there0 hex) (two b z).1⟩
 have hcp:∀ b∈[e,T],∀ p∈X.pn ++ pins,p.1≠b:=fun b z p hp q=>by
  have:=(I0.pin p hp).1
  rw [q,(two b z).1] at this;cases this
 refine wpAny_looks_onW (base:=fX s1.heap (frs X.stack ++ [e,T])) (a0:=a0) (cls:=.ref C) (by rw [I1.ok.frames,hst.1]) hst.2
  ⟨fun b o q=>i9 _ q,fk _ (bV _ (by simp)),fr,oe,vs,T,oT,ts,h1,h2,h3,h4,fk _ (bV _ (by simp)),h5,h6,h7,h8⟩ fun g4 held4 sm4=>?_
 refine wpAny_landsW held4 fun g5 fly5 sm5=>?_
 have hB:∀ {g:Heap},(fX s1.heap (frs X.stack ++ [e,T])).StaysIn g→∀ b o,s1.heap.get? b=some o→b ∉ frs X.stack→b ∉ [e,T]→g.get? b=some o :=
  fun {g} k b o q n1 n2=>k b o (iC _ q fun z=>(bz.mp z).elim n1 n2)
 have I5:Inv X pins σ1 H1 { s1 with heap:=g5 }:=I1.land hex hcs hcp (hB fly5.1) (sm4.trans sm5)
 have K5:=I5.kIn
 have ty5:W.Looks (model X.prog X.w) g5 (typeOf (.ref e)) (.ref C):=by
  obtain ⟨o,p1,p2⟩:=fly5.there
  exact p2 ▸ (oH p1).andThen .now
 have run:∀ {b₂:Stmt} {su:List Stmt} {th:TS} {hp:Pos} {R:Result→Shared→Prop},(∀ e,PSs (X.sub e) (b₂ :: su) th)→th D σ1 H1→(∀ f s',SP X pins D f s'→R (.ok f) s') →
   codeAny (model X.prog X.w) (X.A.mark (some (.ref e))) (.handlers (.ref e) [.ExceptHandler none none (b₂ :: su) hp] X.env) R { s1 with heap:=g5 }:=fun {b₂ su th hp R} hs hth hR=>by
  refine mG (lands_againW fly5 fun g6 fly6 sm6=>?_)
  have I6:Inv X pins σ1 H1 { s1 with heap:=g6 }:=I1.land hex hcs hcp (hB fly6.1) ((sm4.trans sm5).trans sm6)
  refine db (hs e pins _ σ1 H1 D I6.toSub hth) (fun f s9 q=>hR f s9 ?_) fun _ _ z=>cI z
  cases f with
  | next=>obtain ⟨σ9,H9,J,z⟩:=q;exact ⟨σ9,H9,Inv.ofSub (J:=I) J,z⟩
  | brk=>obtain ⟨σ9,H9,J,z⟩:=q;exact ⟨σ9,H9,Inv.ofSub (J:=I) J,z⟩
  | cont=>obtain ⟨σ9,H9,J,z⟩:=q;exact ⟨σ9,H9,Inv.ofSub (J:=I) J,z⟩
  | ret u=>obtain ⟨v,σ9,H9,J,r,z⟩:=q;exact ⟨v,σ9,H9,Inv.ofSub (J:=I) J,r,z⟩
 refine iZ (io ?_) (by intro q;cases q)
 refine wZ (X:=X.sub e) (I5.toSub (e:=e)) hg1 hm1 ?_ hdb1
 rcases hth with ⟨hx,ht⟩ | ⟨hx,hx2,ht⟩
 ·refine (W.exm_one K5 ty5 hx).here ?_
  exact run hs1 ht fun f s' q=>q
 ·refine (W.exm_one K5 ty5 hx).here ?_
  show wpAny _ _ (handleBy (.ref e) X.env _) _ _ _
  refine iZ (io ?_) (by intro q;cases q)
  refine wZ (X:=X.sub e) (I5.toSub (e:=e)) hg2 hm2 ?_ hdb2
  refine (W.exm_one K5 ty5 hx2).here ?_
  exact run hs2 ht fun f s' q=>q
end
structure RoomH (k:Nat) (A:Around):Prop where
 dp:A.depth + 3 * k + 5 < recursionLimit
 un:A.units + 16 * k + 200 < cLine
theorem zeL {k:Nat} {A:Around} {v:Option Value} (r:Room k A):RoomH k (A.mark v):=⟨r.dp,r.un⟩
theorem RoomH.deeper {k:Nat} {A:Around} (r:RoomH (k + 1) A) (env:Env):RoomH k (A.deeper env) :=
 ⟨by have:=r.dp;show A.depth + 1 + 3 * k + 5 < _;lia,by have:=r.un;show A.units + 3 + 16 * k + 200 < _;lia⟩
theorem RoomH.mono {j k:Nat} {A:Around} (r:RoomH k A) (h:j≤k):RoomH j A:=⟨by have:=r.dp;lia,by have:=r.un;lia⟩
structure FnOkH (P:Program) (w:World) (K:br) (mg:Str→Option Value) (base:Heap) (k:Nat) (f:Addr) (fd:FuncData) (ps:List Str) (sp:Sp):Prop where
 len:∀ vs H Q E,sp vs H Q E→vs.length=ps.length
 run:∀ (A:Around) (outer:List Env) (s:Shared) (H:Hp) (args:Args) (us:List Value) (vs:List V) (Q:VK) (E:XK),RoomH k A→Env0 P w K mg base A outer s H→BindsTo s fd args (ps.zip us)→Vals vs us→sp vs H Q E →
  codeAny (model P w) A (.call (.ref f) args) (CR CX0 outer P w H s Q E) s
theorem FnOkH.toFn {P:Program} {w:World} {K:br} {mg:Str→Option Value} {base:Heap} {CX:CXT} {k:Nat} {f:Addr} {fd:FuncData} {ps:List Str} {sp:Sp} (F:FnOkH P w K mg base k f fd ps sp):FnOk P w K mg base CX k f fd ps sp :=
 ⟨F.len,fun A outer s H args us vs Q E hr he hb hv hs=>eI (F.run A outer s H args us vs Q E ⟨hr.dp,hr.un⟩ he hb hv hs) fun r s' q=>by
  cases r with
  | error e=>exact cI q
  | ok fl=>cases fl <;> exact q⟩
abbrev cxH (P:Program) (w:World) (K:br) (mg:Str→Option Value) (base:Heap) (N:List Str) (qual:Str) (scope:Scope) (f:Addr) (cd:Value) (A:Around) (outer:List Env) (s:Shared) (H:Hp):Cx :=
 { kI CX0 P w K mg base N qual scope f cd A outer s H E0 with calm:=false,xe:=fun _ _=>False }
theorem zfg {P:Program} {w:World} {K:br} {mg:Str→Option Value} {base:Heap} {k:Nat} {f:Addr} {name qual:Str} {params:Arguments} {body:List Stmt} {scope:Scope} {dV kV doc pm cdv ct oc:Value} {an od:Option Addr}
  {osl:Array (Option Value)} {N ps:List Str} {sp:Sp} (lk:K.lookup f=some ⟨oc,od,.func (ie name qual params body scope dV kV doc pm an cdv ct),osl⟩) (hcd:gW K cdv qual=true) (S:zD N ps scope)
  (len:∀ vs H Q E,sp vs H Q E→vs.length=ps.length)
  (hbody:∀ (A:Around) (outer:List Env) (s:Shared) (H:Hp) (vs:List V) (Q:VK) (E:XK),RoomH k (A.deeper (envOfC qual scope s.heap.objs.size f cdv))→sp vs H Q E →
   ∃ t,PSs (cxH P w K mg base N qual scope f cdv A outer s H) body t∧t { nx:=fun _ H'=>Q .non H',rt:=Q } (start N vs) H) :
  FnOkH P w K mg base (k + 1) f (ie name qual params body scope dV kV doc pm an cdv ct) ps sp:=by
 refine ⟨len,fun A outer s H args us vs Q E hr e0 hb r hsp=>?_⟩
 have hl:=len _ _ _ _ hsp
 have KX:K.In s.heap:=e0.mod.kin.keeps fun b o e=>(e0.bs b o e).1
 have lim:s.heap.NoLimit:=e0.mod.nolimit.keeps fun b o e=>(e0.bs b o e).1
 have hkind:∀ y∈ps.zip us,scope.names.lookup y.1=some .local∨(scope.names.lookup y.1=some .cell∧((cellsFrom (s.heap.objs.size + 1) scope.names []).lookup y.1).isSome=true):=fun ⟨n,v⟩ hy=>by
  rcases S.par n (iQ hy).1 with q | q
  ·exact .inl q
  ·exact .inr ⟨q,mo _ _ _ (.inl q)⟩
 refine mM (by have:=hr.dp;lia) (KX _ _ lk) rfl S.co S.gen rfl (W.codeRec_of KX hcd) (hb _ _ _ _ ?_)
 refine i8 S.kind hkind fun env he s1 x=>?_
 subst he
 refine ⟨lim.keeps x.toInCall.keep,codeAny_func ?_⟩
 obtain ⟨t,ht,hq⟩:=hbody A outer s H vs Q E (hr.deeper _) hsp
 have e1:Env0 P w K mg base { A with handled:=none } outer s H:=⟨e0.frames,e0.mod,e0.bs,e0.bsz,e0.funs,e0.frf,e0.hok,e0.bare⟩
 have I0:Inv (kI CX0 P w K mg base N qual scope f cdv { A with handled:=none } outer s H E0) [] (start N vs) H s1:=Vk S rfl e1 hl r x
 have I:Inv (cxH P w K mg base N qual scope f cdv A outer s H) [] (start N vs) H s1 :=
  ⟨⟨I0.ok.mod,I0.ok.kind,I0.ok.glob,I0.ok.blt,I0.ok.above,I0.ok.inj,I0.ok.has,I0.ok.cab,(fun z=>nomatch z),mX e0.frames,I0.ok.stk,I0.ok.exf,I0.ok.bs,I0.ok.bsz,I0.ok.noex,I0.ok.exfs,I0.ok.funs,I0.ok.frf⟩,I0.os,I0.bare,I0.base,I0.loc,I0.cell,I0.free,I0.freeC,I0.pin,I0.hok,I0.len⟩
 refine db (ht [] s1 (start N vs) H _ I hq) (fun fl s' hs=>?_) fun e s' hs=>cI hs
 have fin:∀ {σ':St} {H':Hp} {v:V} {u:Value},Inv (cxH P w K mg base N qual scope f cdv A outer s H) [] σ' H' s'→RelV v u→Q v H'→CE outer P w H s Q u s' :=
  fun {σ' H' v u} J rv q=>⟨v,H',J.os,J.bare,J.base,J.hok,rv,q⟩
 cases fl with
 | ret u =>
  obtain ⟨v,σ',H',J,rv,q⟩:=hs
  exact fin J rv q
 | next =>
  obtain ⟨σ',H',J,q⟩:=hs
  exact fin (v:=V.non) (u:=cD) J rfl q
 | brk =>
  obtain ⟨_,_,_,q⟩:=hs
  exact cI q
 | cont =>
  obtain ⟨_,_,_,q⟩:=hs
  exact cI q
theorem Fun.okH {P:Program} {w:World} {K:br} {mg:Str→Option Value} {base:Heap} {x qual:Str} {st:Stmt} {f:Addr} {fd:FuncData} {N ps:List Str} {k:Nat} {sp:Sp} (F:Fun K x qual st f fd) (S:zD N ps (zk st)) (len:∀ vs H Q E,sp vs H Q E→vs.length=ps.length)
  (hbody:∀ (cdv:Value) (A:Around) (outer:List Env) (s:Shared) (H:Hp) (vs:List V) (Q:VK) (E:XK),RoomH k (A.deeper (envOfC qual (zk st) s.heap.objs.size f cdv))→sp vs H Q E →
   ∃ t,PSs (cxH P w K mg base N qual (zk st) f cdv A outer s H) (yC st) t∧t { nx:=fun _ H'=>Q .non H',rt:=Q } (start N vs) H):FnOkH P w K mg base (k + 1) f fd ps sp:=by
 obtain ⟨oc,od,kV,doc,pm,an,cdv,ct,osl,rfl,lk,hcd⟩:=F.ex
 exact zfg lk hcd S len fun A outer s H vs Q E hr hsp=>hbody cdv A outer s H vs Q E hr hsp
section
variable {X:Cx} {k:Nat} {f:Addr} {fd:FuncData} {ps:List Str} {sp:Sp} {x:Str} {p pos:Pos} {e:Expr} {es:List Expr} {t:TA}
theorem Ks (F:FnOkH X.prog X.w X.K X.mg X.base k f fd ps sp) (hr:RoomH k X.A) (hg:Gl X x) (hm:X.mg x=some (.ref f)) (hk:eW X.K (.ref f)=true) (hb:Binds X.K fd ps [])
  (ha:PA X (e :: es) t) (hdb:(x == ("__debug__":Str))=false:=by decide) (he:starEach (e :: es) X.env=(false,eval e X.env) :: starEach es X.env:=by rfl) (hpl:(backTo pos (starEach es X.env)).any (·.1)=false:=by rfl) :
  PE X (.Call (.Name x p) (e :: es) [] pos) (zo sp [] E0 t):=by
 intro pins s σ H Q I h
 refine fu (wZ I hg hm ?_ hdb)
 refine lg (h₀:=X.base) I.ok.mod.kin hk (thn (ha pos pins s σ H _ I h) fun us s1 ⟨vs,H1,I1,r,q⟩=>⟨I1.kIn,?_⟩) he hpl
 have r2:Vals (vs ++ []) (us ++ []):=r.append .nil
 have hl:(us ++ []).length=ps.length:=by rw [← r2.length];exact F.len _ _ _ _ q
 refine nQ (eI (F.run X.A X.stack s1 H1 ⟨us,[]⟩ (us ++ []) (vs ++ []) Q E0 hr I1.env0 (hb s1 us I1.kIn hl) r2 q) fun r s' hq=>?_)
 cases r with
 | error e=>exact cI hq
 | ok fl =>
  cases fl with
  | ret u=>exact I1.after hq
  | next=>exact cI hq
  | brk=>exact cI hq
  | cont=>exact cI hq
end
end L2
namespace L2
open PySem
def rk (kvs:List (Key × V)) (ps:List V):Except Er Int:=match wC kvs ps [] with
 | .ok [i]=>.ok i
 | .ok _=>.error .stuck
 | .error e=>.error e
theorem Good.rk {kvs:List (Key × V)} {ps:List V} {r:Except Er Int} (h:Good kvs ps r):L2.rk kvs ps=r:=by
 unfold L2.rk
 rw [h.1 []]
 cases r <;> rfl
theorem zcz {kvs:List (Key × V)} (hs:yo kvs) {v:V} (hv:jR v) {st st':List Int} (h:∀ x∈st,inW x=true) (e:wc kvs st v=.ok st'):∀ x∈st',inW x=true:=by
 unfold wc at e
 split at e
 ·split at e
  ·rename_i w b a r hr hj
   unfold wX at e
   by_cases c1:Y4 w∧b=0
   ·rw [if_pos c1] at e;cases e
   ·rw [if_neg c1] at e
    by_cases c2:inW (vm w a b)=true
    ·rw [if_pos c2] at e
     cases e
     intro x hx
     rcases bz.mp hx with hx | hx
     ·refine h x (oi.mp ?_)
      rw [hr]
      exact bx _ (bx _ (oi.mp hx))
     ·rw [bD.mp hx];exact c2
    ·rw [if_neg c2] at e;cases e
  ·cases e
 ·cases e
  intro x hx
  rcases bz.mp hx with hx | hx
  ·exact h x hx
  ·rw [bD.mp hx];exact Kd hs hv
theorem zaJ {kvs:List (Key × V)} (hs:yo kvs):∀ {ps:List V} {st st':List Int},(∀ v∈ps,jR v)→(∀ x∈st,inW x=true)→wC kvs ps st=.ok st'→∀ x∈st',inW x=true
 | [],st,st',_,h,e=>by cases e;exact h
 | v :: r,st,st',hp,h,e=>by
  unfold wC at e
  split at e
  ·rename_i st1 e1
   exact zaJ hs (fun v hv=>hp v (bx _ hv)) (zcz hs (hp v bH) h e1) e
  ·cases e
theorem Jm {kvs:List (Key × V)} (hs:yo kvs) {ps:List V} (hp:∀ v∈ps,jR v) {i:Int} (e:rk kvs ps=.ok i):inW i=true:=by
 unfold rk at e
 split at e
 ·rename_i j hj
  cases e
  exact zaJ hs hp (fun _ z=>absurd z gh) hj i bH
 ·cases e
 ·cases e
def TermOk (e:List V):Prop:=(∀ kvs,∃ r,Good kvs e r)∧(∀ v∈e,jR v)∧e.length≤1000
theorem TermOk.good {e:List V} (h:TermOk e) (kvs:List (Key × V)):Good kvs e (rk kvs e):=by
 obtain ⟨r,g⟩:=h.1 kvs
 rw [g.rk];exact g
mutual
inductive Rw where
 | take (sh:Str) (e:List V) (sl:Str)
 | give (sh:Str) (e f:List V)
 | lt (sl:Str) (e:List V)
 | say (e:List V)
 | off (e:List V)
 | iff (e:List V) (a b:Rws)
inductive Rws where
 | nil
 | cons (r:Rw) (rs:Rws)
end
set_option genSizeOf false in
set_option genInjectivity false in
structure Sta where
 sl:List (Key × V)
 wo:List Row
 sa:List Int
inductive Res where
 | go (s:Sta)
 | off
 | er (e:Er)
mutual
def goR:Rw→Sta→Res
 | .take sh e sl,s=>match rk s.sl e with
  | .ok n=>.go { s with sl:=yB s.sl (.inr sl) (.int ((zr s.wo (sh,n)).getD 0)) }
  | .error x=>.er x
 | .give sh e f,s=>match rk s.sl e with
  | .ok n=>(match rk s.sl f with
   | .ok w=>.go { s with wo:=s.wo ++ [((sh,n),w)] }
   | .error x=>.er x)
  | .error x=>.er x
 | .lt sl e,s=>match rk s.sl e with
  | .ok n=>.go { s with sl:=yB s.sl (.inr sl) (.int n) }
  | .error x=>.er x
 | .say e,s=>match rk s.sl e with
  | .ok n=>.go { s with sa:=s.sa ++ [n] }
  | .error x=>.er x
 | .off e,s=>match rk s.sl e with
  | .ok n=>if n=0 then .go s else .off
  | .error x=>.er x
 | .iff e a b,s=>match rk s.sl e with
  | .ok n=>if n=0 then yH b s else yH a s
  | .error x=>.er x
def yH:Rws→Sta→Res
 | .nil,s=>.go s
 | .cons r rs,s=>match goR r s with
  | .go s'=>yH rs s'
  | x=>x
end
mutual
def RwAt (F:Addr→Prop) (H:Hp) (v:V):Rw→Prop
 | .take sh e sl=>∃ r te,v=.ref r∧F r∧F te∧H r=some (.tup [.str "take",.str sh,.ref te,.str sl])∧H te=some (.tup e)
 | .give sh e f=>∃ r te tf,v=.ref r∧F r∧F te∧F tf∧H r=some (.tup [.str "give",.str sh,.ref te,.ref tf])∧H te=some (.tup e)∧H tf=some (.tup f)
 | .lt sl e=>∃ r te,v=.ref r∧F r∧F te∧H r=some (.tup [.str "let",.str sl,.ref te])∧H te=some (.tup e)
 | .say e=>∃ r te,v=.ref r∧F r∧F te∧H r=some (.tup [.str "say",.ref te])∧H te=some (.tup e)
 | .off e=>∃ r te,v=.ref r∧F r∧F te∧H r=some (.tup [.str "off",.ref te])∧H te=some (.tup e)
 | .iff e a b=>∃ r te la lb xs ys,v=.ref r∧F r∧F te∧F la∧F lb∧H r=some (.tup [.str "if",.ref te,.ref la,.ref lb])∧H te=some (.tup e)∧H la=some (.lst xs)∧RwsAt F H xs a∧H lb=some (.lst ys)∧RwsAt F H ys b
def RwsAt (F:Addr→Prop) (H:Hp) (vs:List V):Rws→Prop
 | .nil=>vs=[]
 | .cons r rs=>∃ v ws,vs=v :: ws∧RwAt F H v r∧RwsAt F H ws rs
end
mutual
theorem RwAt.to_ {F G:Addr→Prop} {H H':Hp} (g:∀ b o,F b→H b=some o→G b) (s:∀ b o,F b→H b=some o→H' b=some o):∀ {v:V} (r:Rw),RwAt F H v r→RwAt G H' v r
 | v,.take sh e sl,h=>by
  unfold RwAt at h ⊢
  obtain ⟨r,te,e1,f1,f2,e2,e3⟩:=h
  exact ⟨r,te,e1,g _ _ f1 e2,g _ _ f2 e3,s _ _ f1 e2,s _ _ f2 e3⟩
 | v,.give sh e f,h=>by
  unfold RwAt at h ⊢
  obtain ⟨r,te,tf,e1,f1,f2,f3,e2,e3,e4⟩:=h
  exact ⟨r,te,tf,e1,g _ _ f1 e2,g _ _ f2 e3,g _ _ f3 e4,s _ _ f1 e2,s _ _ f2 e3,s _ _ f3 e4⟩
 | v,.lt sl e,h=>by
  unfold RwAt at h ⊢
  obtain ⟨r,te,e1,f1,f2,e2,e3⟩:=h
  exact ⟨r,te,e1,g _ _ f1 e2,g _ _ f2 e3,s _ _ f1 e2,s _ _ f2 e3⟩
 | v,.say e,h=>by
  unfold RwAt at h ⊢
  obtain ⟨r,te,e1,f1,f2,e2,e3⟩:=h
  exact ⟨r,te,e1,g _ _ f1 e2,g _ _ f2 e3,s _ _ f1 e2,s _ _ f2 e3⟩
 | v,.off e,h=>by
  unfold RwAt at h ⊢
  obtain ⟨r,te,e1,f1,f2,e2,e3⟩:=h
  exact ⟨r,te,e1,g _ _ f1 e2,g _ _ f2 e3,s _ _ f1 e2,s _ _ f2 e3⟩
 | v,.iff e a b,h=>by
  unfold RwAt at h ⊢
  obtain ⟨r,te,la,lb,xs,ys,e1,f1,f2,f3,f4,e2,e3,e4,e5,e6,e7⟩:=h
  exact ⟨r,te,la,lb,xs,ys,e1,g _ _ f1 e2,g _ _ f2 e3,g _ _ f3 e4,g _ _ f4 e6,s _ _ f1 e2,s _ _ f2 e3,s _ _ f3 e4,RwsAt.to_ g s a e5,s _ _ f4 e6,RwsAt.to_ g s b e7⟩
theorem RwsAt.to_ {F G:Addr→Prop} {H H':Hp} (g:∀ b o,F b→H b=some o→G b) (s:∀ b o,F b→H b=some o→H' b=some o):∀ {vs:List V} (r:Rws),RwsAt F H vs r→RwsAt G H' vs r
 | vs,.nil,h=>by
  unfold RwsAt at h ⊢
  exact h
 | vs,.cons r rs,h=>by
  unfold RwsAt at h ⊢
  obtain ⟨v,ws,e1,e2,e3⟩:=h
  exact ⟨v,ws,e1,RwAt.to_ g s r e2,RwsAt.to_ g s rs e3⟩
end
theorem RwAt.to {F G:Addr→Prop} {H H':Hp} {v:V} (r:Rw) (g:∀ b o,F b→H b=some o→G b) (s:∀ b o,F b→H b=some o→H' b=some o) (h:RwAt F H v r):RwAt G H' v r:=RwAt.to_ g s r h
theorem RwsAt.to {F G:Addr→Prop} {H H':Hp} {vs:List V} (r:Rws) (g:∀ b o,F b→H b=some o→G b) (s:∀ b o,F b→H b=some o→H' b=some o) (h:RwsAt F H vs r):RwsAt G H' vs r:=RwsAt.to_ g s r h
theorem RwAt.mono {F:Addr→Prop} {H H':Hp} (s:Same H H') {v:V} {r:Rw} (h:RwAt F H v r):RwAt F H' v r:=h.to r (fun _ _ f _=>f) (fun b o _ e=>s b o e)
theorem RwsAt.mono {F:Addr→Prop} {H H':Hp} (s:Same H H') {vs:List V} {r:Rws} (h:RwsAt F H vs r):RwsAt F H' vs r:=h.to r (fun _ _ f _=>f) (fun b o _ e=>s b o e)
def kL (F:Addr→Prop) (H:Hp) (v:V) (r:Rws):Prop:=∃ a xs,v=.ref a∧F a∧H a=some (.lst xs)∧RwsAt F H xs r
abbrev vc:Addr→Prop:=fun _=>True
mutual
def xG:Rw→Prop
 | .take _ e _=>TermOk e
 | .give _ e f=>TermOk e∧TermOk f
 | .lt _ e=>TermOk e
 | .say e=>TermOk e
 | .off e=>TermOk e
 | .iff e a b=>TermOk e∧yq a∧yq b
def yq:Rws→Prop
 | .nil=>True
 | .cons r rs=>xG r∧yq rs
end
mutual
def Rw.deep:Rw→Nat
 | .iff _ a b=>max a.deep b.deep + 1
 | _=>0
def Rws.deep:Rws→Nat
 | .nil=>0
 | .cons r rs=>max r.deep rs.deep
end
mutual
def Rw.cnt:Rw→Nat
 | .iff _ a b=>max a.cnt b.cnt + 1
 | _=>1
def Rws.cnt:Rws→Nat
 | .nil=>0
 | .cons r rs=>r.cnt + rs.cnt
end
end L2
namespace L2
open PySem
abbrev ItA (h:Heap) (it d:Addr) (i n ep:Nat) (o0:Value) (f:Bool) (ok ov:Value):Prop :=
 h.get? it=some { cls:=.type "dict_itemiterator",dict:=none,data:=.fields #[o0,.bool f,.ref d,.int i 0,.int n 0,.int ep 0,ok,ov],slots:=#[] }
section
variable {P:Program} {w:World} {A:Around} {E:Value→Shared→Prop} {s:Shared}
theorem Kt {v d:Addr} {es:Array DictEntry} {ep:Nat} {Q:Value→Shared→Prop} (hv:s.heap.IsItemsView v d) (hm:RawD s.heap d es ep)
  (q:Q (.ref s.heap.objs.size) { s with heap:=s.heap.push { cls:=.type "dict_itemiterator",data:=.fields #[.none,.bool false,.ref d,.int 0 0,.int es.size 0,.int ep 0,.none,.none] } }):wpAny (model P w) A (pyIter (.ref v)) Q E s:=by
 obtain ⟨ov,hov,hcv,hdv⟩:=id hv;obtain ⟨o,ho,hc,hdat⟩:=id hm
 refine lQ hv.typeIs mH (cN mH hv.typeIs F.entry_dict_items_iter ?_ (F.args_dict_items_iter_1 _));unfold Builtin.«dict_items.__iter__»
 refine ba (bj ?_);refine ba ?_;unfold Builtin.Dict_items.dictOf
 refine ba (fK hov hdv (x:=.ref d) rfl (bj ?_));refine ba ?_;unfold Builtin.Dict_items.newIterator
 refine ba (dZ ho hdat ?_);refine ba (eS ho hdat ?_)
 have own:da "dict_itemiterator"=true:=by decide
 simp only [own,if_true];refine cY (bj ⟨_,rfl,"dict_itemiterator",_,⟨_,bC _ rfl,rfl⟩,cF.lookup,?_⟩) (by simp only [sizeOk,gu,bJ,bw,ck,oy,eL];lia)
 simpa [rawInt,gu] using q
theorem zcA {it d:Addr} {i ep:Nat} {es:Array DictEntry} {e:DictEntry} {o0 ok ov:Value} {f:Bool} {Q:Option Value→Shared→Prop} (hit:ItA s.heap it d i es.size ep o0 f ok ov) (hm:RawD s.heap d es ep) (hx:es[i]?=some e)
  (ho0:(o0=.none∧f=false)∨∃ (a:Addr) (oa:Obj),o0=rawInt (a:Nat)∧s.heap.get? a=some oa∧a≠it)
  (q:∀ h' o1 f1 k1 v1,ItA h' it d (i + 1) es.size ep o1 f1 k1 v1→((o1=.none∧f1=false)∨∃ (a:Addr) (oa:Obj),o1=rawInt (a:Nat)∧h'.get? a=some oa∧a≠it)→h'.get? s.heap.objs.size=some { cls:=.type "tuple",data:=.seq #[e.key,e.val] }→h'.objs.size=s.heap.objs.size + 1 →
   (∀ b o,b≠it→s.heap.get? b=some o→h'.get? b=some o)→(∀ a:Addr,o1=rawInt (a:Nat)→a=s.heap.objs.size∨o0=rawInt (a:Nat))→Q (some (.ref s.heap.objs.size)) { s with heap:=h' }):wpAny (model P w) A (pyNext (.ref it)) Q E s:=by
 obtain ⟨hp,g,dr,tk,os⟩:=s;obtain ⟨od,hod,hcd,hdd⟩:=id hm
 have T:l8 ⟨hp,g,dr,tk,os⟩ (.ref it) "dict_itemiterator":=⟨_,hit,rfl⟩
 unfold pyNext;refine ba (gI (dg (name:=bb "__next__") T cF (cN cF T eV ?_ (eU _))))
 refine ba (bj ?_);refine ba ?_;refine ba ?_
 first | (refine ba (cV T (bj ?_))) | (refine ba (dt T (bj ?_)))
 refine ba (gY hit rfl ?_);have own:da "dict_itemiterator"=true:=by decide
 simp only [own,if_true];show wpAny _ _ (if (bL d == cD)=true then _ else _) _ _ _
 rw [if_neg (show ¬ ((bL d == cD)=true) from bK)];refine ba (bj ?_);refine ba (dZ hod hdd ?_)
 rw [if_neg (by simp)];refine ba (bj ?_);refine ba (eS hod hdd ?_);rw [if_neg (by simp)];refine bj ?_
 simp only [show ¬ ((i:Int) < 0) from by lia,if_false,dJ,hx];refine ba ?_
 first | (refine ba (cV T (bj ?_))) | (refine ba (dt T (bj ?_)))
 refine ba (dI T ?_);show wpAny _ _ (setField (.ref it) 3 (rawInt ((i:Int) + 1)) >>= _) _ _ ⟨hp,g,dr,tk,os⟩
 refine ba (cS hit (by simp) fun h₁ e1 s1=>?_)
 replace s1:cQ it hp h₁:=s1
 replace e1:ItA h₁ it d (i + 1) es.size ep o0 f ok ov:=by
  have z:((i + 1:Nat):Int)=(i:Int) + 1:=by lia
  unfold ItA;rw [z];simpa [rawInt] using e1
 have T1:l8 ⟨h₁,g,dr,tk,os⟩ (.ref it) "dict_itemiterator":=⟨_,e1,rfl⟩
 refine ba (dM ?_);refine ba (dI T1 ?_);refine ba (dI T1 ?_)
 show wpAny _ _ (dG (.ref it) 6 e.key e.val) _ _ ⟨h₁,g,dr,tk,os⟩
 unfold dG;refine ba (m4 ?_)
 have e2:ItA (h₁.push { cls:=.type "tuple",data:=.seq #[e.key,e.val] }) it d (i + 1) es.size ep o0 f ok ov:=bn _ e1
 generalize hg:h₁.push { cls:=.type "tuple",data:=.seq #[e.key,e.val] }=h₂ at e2
 have z1:h₁.objs.size=hp.objs.size:=s1.1;have il:it < hp.objs.size:=bS hit
 have t2:h₂.get? hp.objs.size=some { cls:=.type "tuple",data:=.seq #[e.key,e.val] }:=by rw [← hg,← z1];exact bC _ rfl
 have z2:h₂.objs.size=hp.objs.size + 1:=by rw [← hg,gU,z1]
 have k2:∀ b o,b≠it→hp.get? b=some o→h₂.get? b=some o:=fun b o hb z=>by rw [← hg];exact bn _ (s1.extBut b o hb z)
 show wpAny _ _ (dw (.ref it) >>= _) _ _ ⟨h₂,g,dr,tk,os⟩;rw [z1]
 clear hg e1 s1 T1 z1 h₁;refine ba ?_;unfold dw
 rcases ho0 with ⟨rfl,rfl⟩ | ⟨a,oa,rfl,ha,hai⟩
 ·refine ba (fK e2 rfl (x:=.none) rfl (bj ?_));simp only [if_true]
  refine ba (fK e2 rfl (x:=ok) rfl ?_);refine ba (fK e2 rfl (x:=ov) rfl ?_)
  refine ba (cS e2 (by simp) fun h₃ e3 s3=>?_);replace s3:cQ it h₂ h₃:=s3;replace e3:ItA h₃ it d (i + 1) es.size ep .none false e.key ov:=e3
  refine ba (cS e3 (by simp) fun h₄ e4 s4=>?_);replace s4:cQ it h₃ h₄:=s4;replace e4:ItA h₄ it d (i + 1) es.size ep .none false e.key e.val:=e4
  refine ba (cS e4 (by simp) fun h₅ e5 s5=>?_);replace s5:cQ it h₄ h₅:=s5;replace e5:ItA h₅ it d (i + 1) es.size ep (rawInt (hp.objs.size:Nat)) false e.key e.val:=e5
  refine ba (cS e5 (by simp) fun h₆ e6 s6=>?_);replace s6:cQ it h₅ h₆:=s6;replace e6:ItA h₆ it d (i + 1) es.size ep (rawInt (hp.objs.size:Nat)) false e.key e.val:=e6
  have k6:∀ b o,b≠it→h₂.get? b=some o→h₆.get? b=some o:=fun b o hb z=>s6.extBut b o hb (s5.extBut b o hb (s4.extBut b o hb (s3.extBut b o hb z)))
  have t6:=k6 _ _ (dW il) t2
  refine ba (wpAny_letGo (bj (bj ⟨_,rfl,bj (q h₆ _ _ _ _ e6 (.inr ⟨_,_,rfl,t6,dW il⟩) t6 ?_ (fun b o hb z=>k6 b o hb (k2 b o hb z)) fun a z=>?_)⟩)))
  ·show h₆.objs.size=hp.objs.size + 1;rw [s6.1,s5.1,s4.1,s3.1,z2]
  ·refine .inl ?_
   have z':(ic (hp.objs.size:Nat) 0:Value)=ic (a:Nat) 0:=z
   have z'':((hp.objs.size:Nat):Int)=((a:Nat):Int):=by injection z'
   exact (oO z'').symm
 ·refine ba (fK e2 rfl (x:=rawInt (a:Nat)) rfl ?_);show wpAny _ _ (loadIfAlive (((a:Nat):Int).toNat) >>= _) _ _ _;rw [dJ]
  have a2:h₂.get? a=some oa:=k2 a oa hai ha
  refine ba (W.kdx_alive a2 ?_);simp only [Option.isNone_some,cr,if_false];refine ba (fK e2 rfl (x:=.bool f) rfl ?_)
  cases f with
  | true =>
   rw [if_neg (show ¬ ((gL true != gL true)=true) from bK)];refine bj ?_;simp only [cr,if_false]
   exact bj (bj ⟨_,rfl,bj (q h₂ _ _ _ _ e2 (.inr ⟨_,_,rfl,a2,hai⟩) t2 z2 k2 fun a z=>.inr z)⟩)
  | false =>
   rw [if_pos (show (gL false != gL true)=true from rfl)];refine ba (cS e2 (by simp) fun h₃ e3 s3=>?_)
   replace s3:cQ it h₂ h₃:=s3;replace e3:ItA h₃ it d (i + 1) es.size ep (rawInt (a:Nat)) true ok ov:=e3
   refine bj ?_;simp only [cr,if_false]
   exact bj (bj ⟨_,rfl,bj (q h₃ _ _ _ _ e3 (.inr ⟨_,_,rfl,s3.extBut _ _ hai a2,hai⟩) (s3.extBut _ _ (dW il) t2) (by show h₃.objs.size=_;rw [s3.1,z2]) (fun b o hb z=>s3.extBut b o hb (k2 b o hb z)) fun a z=>.inr z)⟩)
theorem zaK {it d:Addr} {i ep:Nat} {es:Array DictEntry} {o0 ok ov:Value} {f:Bool} {Q:Option Value→Shared→Prop} (hh:A.handled=none) (hit:ItA s.heap it d i es.size ep o0 f ok ov) (hm:RawD s.heap d es ep) (hx:es.size≤i)
  (q:∀ h',Heap.ExtBut it s.heap h'→Q none { s with heap:=h' }):wpAny (model P w) A (pyNext (.ref it)) Q E s:=by
 obtain ⟨od,hod,hcd,hdd⟩:=id hm;have T:s.TypeIs (.ref it) "dict_itemiterator":=⟨_,hit,rfl⟩
 unfold pyNext;refine ba (gI (dg (name:=bb "__next__") T cF (cN cF T eV ?_ (eU _))))
 refine ba (bj ?_);refine ba ?_;refine ba ?_
 first | (refine ba (cV T (bj ?_))) | (refine ba (dt T (bj ?_)))
 refine ba (gY hit rfl ?_);have own:da "dict_itemiterator"=true:=by decide
 simp only [own,if_true];show wpAny _ _ (if (bL d == cD)=true then _ else _) _ _ s
 rw [if_neg (show ¬ ((bL d == cD)=true) from bK)];refine ba (bj ?_);refine ba (dZ hod hdd ?_)
 rw [if_neg (by simp)];refine ba (bj ?_);refine ba (eS hod hdd ?_);rw [if_neg (by simp)];refine bj ?_
 simp only [show ¬ ((i:Int) < 0) from by lia,if_false,dJ,gJ hx];refine ba ?_
 first | (refine ba (cV T (bj ?_))) | (refine ba (dt T (bj ?_)))
 show wpAny _ _ (setField (.ref it) 2 .none >>= _) _ _ s;refine ba (m5 hit rfl (by simp) ?_)
 show wpAny _ _ (newExc (.type "StopIteration") [] >>= _) _ _ _;refine ba ?_;simp only [newExc,newTuple];refine ba (cY ?_ (by size_fits))
 refine ba (m:=firstArgMember _ _) (wpAny_of_eq (a:=cD) (by first | rfl | (simp only [firstArgMember];rfl)) ?_);refine cY ?_ (by size_fits)
 simp only [raiseNew];refine ba (wpAny_handled ?_);rw [show A.in1.handled=none from hh];refine ba (bj (wpAny_throw ?_))
 refine ba (wpAny_isInstance (T:="StopIteration") (b:=true) ⟨_,bC _ rfl,rfl⟩ isSubtype_stop ?_);exact bj (q _ (((iX ..).extBut.push _).push _))
end
end L2
namespace L2
open PySem PySem.Spec PyProof.Rows
def ku (r d:Addr):HO:=.ext fun h=>h.IsItemsView r d
def qg (td:TE):TE:=fun σ H Q=>td σ H fun x H1=>∃ d kvs,x=.ref d∧H1 d=some (.dT kvs)∧∀ r,H1 r=none→Q (.ref r) (upd H1 r (ku r d))
section
variable {X:Cx} {o:Expr} {apos cpos:Pos} {td:TE}
theorem Yf (ho:PE X o td) (hbase:attributeBase o "items" X.env (eval o X.env)=eval o X.env:=by rfl) (hline:(apos.endLine == cpos.line)=true:=by rfl):PE X (.Call (.Attribute o "items" apos) [] [] cpos) (qg td):=by
 intro pins s σ H Q I h
 refine gD hbase hline (thn (ho pins s σ H _ I h) fun v s1 ⟨x,H1,I1,r1,d,kvs,ex,hd,q1⟩=>?_)
 subst ex
 obtain rfl:v=bL d:=r1
 obtain ⟨t1,t2,t3⟩:=Qy I1 (.inr ⟨kvs,.inl hd⟩)
 refine ⟨"dict","dict.items",gG,eZ,l9,t1,t2,eE rfl (iR ?_)⟩
 refine cN eZ t1 lR ?_ (lE _)
 unfold Builtin.«dict.items»;refine ba ?_;unfold nk;refine ba (fI t1 ?_)
 show wpAny _ _ (pure d) _ _ s1;refine bj ?_
 show wpAny _ _ (dP d >>= _) _ _ s1;unfold dP
 rw [if_neg (by rw [t3];exact bK)];refine ba (bj ?_)
 refine ba (cY (bj ⟨_,rfl,?_⟩))
 have hn:H1 s1.heap.objs.size=none:=I1.hok.fresh (bu _)
 have at0:(s1.heap.push { cls:=.type "dict_items",data:=.fields #[.ref d] }).get? s1.heap.objs.size=some { cls:=.type "dict_items",data:=.fields #[.ref d] }:=bC _ rfl
 refine ⟨.ref s1.heap.objs.size,_,I1.laid (a:=s1.heap.objs.size) (o:=ku s1.heap.objs.size d) (t':=s1.toks) (fun b u e=>bn _ e) (bu _) ?_,rfl,q1 _ hn⟩
 exact ⟨⟨_,at0,rfl,rfl⟩,⟨_,at0⟩,fun h1 h2 ⟨o,e1,e2⟩ k=>⟨o,k o e1,e2⟩⟩
end
def Yg (H:Hp) (v:V) (kv:List Key × V):Prop:=∃ r p,v=.ref r∧H r=some (.tup [.ref p,kv.2])∧H p=some (.tup (kv.1.map kV))
theorem Ku {H H':Hp} (s:∀ b ys,H b=some (.tup ys)→H' b=some (.tup ys)):∀ {vs:List V} {kvs:List (List Key × V)},Paired (Yg H) vs kvs→Paired (Yg H') vs kvs
 | _,_,.nil=>.nil
 | _,_,.cons ⟨r,p,e,h1,h2⟩ t=>.cons ⟨r,p,e,s _ _ h1,s _ _ h2⟩ (Ku s t)
theorem Kv {H:Hp} {v:V} {q:List Key × V}:∀ {ys:List V} {kvs:List (List Key × V)},Paired (Yg H) ys kvs→Yg H v q→Paired (Yg H) (ys ++ [v]) (kvs ++ [q])
 | _,_,.nil,h=>.cons h .nil
 | _,_,.cons a r,h=>.cons a (Kv r h)
section
variable {X:Cx} {A:Around} {R:Result→Shared→Prop}
theorem zcB {pins:List (Addr × Obj)} {σ:St} {H:Hp} {S it d:Addr} {kvs:List (List Key × V)} {es:Array DictEntry} {ep:Nat} {res:Value} (hh:A.handled=none) (hS:H S=none) (hd:H d=some (.dT kvs)) (Sit:S≠it) (dit:d≠it) (hz:kvs.length≤1000)
  (hes:es.size=kvs.length) (hen:∀ (i:Nat) (e:DictEntry) (kv:List Key × V),es[i]?=some e→kvs[i]?=some kv→∃ p,e.key=.ref p∧H p=some (.tup (kv.1.map kV))∧RelV kv.2 e.val) (fin:∀ s' H' ys,Inv X pins σ H' s'→Same H H'→H' S=some (.lst ys)→Paired (Yg H') ys kvs→R (.ok (.ret res)) s') :
  ∀ (k i:Nat) (s:Shared) (Hi:Hp) (ys:List V) (o0 ok ov:Value) (f:Bool),kvs.length - i=k→i≤kvs.length→Inv X pins σ Hi s→Same H Hi→Hi S=some (.lst ys)→Paired (Yg Hi) ys (kvs.take i)→RawD s.heap d es ep→ItA s.heap it d i es.size ep o0 f ok ov →
  ((o0=.none∧f=false)∨∃ (a:Addr) (oa:Obj),o0=rawInt (a:Nat)∧s.heap.get? a=some oa∧a≠it∧a≠S)→kQ X pins Hi it →
  codeAny (model X.prog X.w) A (.builtin "list.extend.loop" ⟨[.ref S,.ref it,res],[]⟩) R s:=by
 intro k
 induction k with
 | zero =>
  intro i s Hi ys o0 ok ov f hk hi I sm hy pr rd hit ho0 hf
  have e:i=kvs.length:=by lia
  subst e
  refine eD lF ?_;rw [dh dN _]
  show wpAny _ A.in1 (pyNext (.ref it) >>= _) _ _ s
  obtain ⟨f0,f1,f2,f3,f4,f5⟩:=hf
  refine ba (zaK (A:=A.in1) hh hit rd (by lia) fun h' eb=>?_)
  have I1:=I.turned (t':=s.toks) (fun b o hb e=>eb b o hb e) f0 f1 f3 f4 f5
  rw [eG] at pr
  exact bj (fin _ Hi ys I1 sm hy pr)
 | succ k ih =>
  intro i s Hi ys o0 ok ov f hk hi I sm hy pr rd hit ho0 hf
  have hlt:i < kvs.length:=by lia
  have hx:es[i]?=some es[i]:=cw (by lia)
  have hkv:kvs[i]?=some kvs[i]:=bg hlt
  obtain ⟨p,ek,hp,rv⟩:=hen i _ _ hx hkv
  refine eD lF ?_;rw [dh dN _]
  show wpAny _ A.in1 (pyNext (.ref it) >>= _) _ _ s
  obtain ⟨f0,f1,f2,f3,f4,f5⟩:=id hf
  have ho0':(o0=.none∧f=false)∨∃ (a:Addr) (oa:Obj),o0=rawInt (a:Nat)∧s.heap.get? a=some oa∧a≠it:=by
   rcases ho0 with z | ⟨a,oa,z1,z2,z3,_⟩
   ·exact .inl z
   ·exact .inr ⟨a,oa,z1,z2,z3⟩
  refine ba (zcA (A:=A.in1) hit rd hx ho0' fun h' o1 f1' k1 v1 hit' ho1 ht hz' kp own=>?_)
  have Sl:S < s.heap.objs.size:=by
   obtain ⟨_,_,_,_,e⟩:=(show ObjOk X.prog X.w Hi s.heap S (.lst ys) from I.hok S _ hy)
   exact bS e
  have tn:s.heap.objs.size≠it:=dW (bS hit)
  have hTn:Hi s.heap.objs.size=none:=I.hok.fresh (bu _)
  have STn:S≠s.heap.objs.size:=cz Sl
  generalize hT:s.heap.objs.size=T at *
  have I6:Inv X pins σ (upd Hi T (.tup [.ref p,kvs[i].2])) { s with heap:=s.heap.push { cls:=.type "tuple",data:=.seq #[es[i].key,es[i].val] } } :=
   I.laid (a:=T) (o:=.tup [.ref p,kvs[i].2]) (t':=s.toks) (fun b u e=>bn _ e) (by rw [hT];exact bu _) ⟨by show 2≤sizeLine;decide,[es[i].key,es[i].val],.cons (by rw [ek];exact rfl) (.cons rv .nil),⟨_,by rw [← hT];exact bC _ rfl,rfl,_,rfl⟩⟩
  have S6:Same Hi (upd Hi T (.tup [.ref p,kvs[i].2])):=isV T hTn
  have I7:Inv X pins σ (upd Hi T (.tup [.ref p,kvs[i].2])) { s with heap:=h' }:=I6.turned (s:={ s with heap:=s.heap.push { cls:=.type "tuple",data:=.seq #[es[i].key,es[i].val] } }) (t':=s.toks) (fun b o hb e=>by
   rcases m3 (show (s.heap.push { cls:=.type "tuple",data:=.seq #[es[i].key,es[i].val] }).get? b=some o from e) with ⟨rfl,rfl⟩ | e
   ·rw [hT];exact ht
   ·exact kp b o hb e) (by rw [zj (cA tn)];exact f0) f1 f3 f4 f5
  have hy7:(upd Hi T (.tup [.ref p,kvs[i].2])) S=some (.lst ys):=S6 _ _ hy
  obtain ⟨z,its,n,r,hl,e⟩:=I7.lstM hy7
  have yl:ys.length=i:=by
   have:=cy pr
   rw [cE] at this
   lia
  show wpAny _ A.in1 (updateSeq S (·.push (bL T)) >>= _) _ _ _
  have e':h'.get? S=some { cls:=.type "list",data:=.seq its.toArray n }:=e
  refine ba (i0 (s:={ s with heap:=h' }) e' rfl ?_ (by rw [bJ,← r.length,yl];exact cf (by lia:i≤1000) (by decide)) (by rw [Array.size_push,bJ,← r.length,yl];exact cf (by lia:i + 1≤1001) (by decide)))
  have I8:=I7.lset (f:=fun xs=>xs.push (bL T)) (t':=s.toks) (its':=its ++ [bL T]) hy7 e' (by simp) (r.append (.cons (show RelV (.ref T) (.ref T) from rfl) .nil)) (by rw [bw,yl];exact cf (by show i + 1≤1001;lia) (by decide))
  have up:∀ b o,b≠S→h'.get? b=some o→(h'.update S (de (·.push (bL T)))).get? b=some o:=fun b o hb z=>(dH _ _ (cA hb)).trans z
  have dS:d≠S:=zB hd hS
  have tS:∀ b zs,Hi b=some (.tup zs)→(upd (upd Hi T (.tup [.ref p,kvs[i].2])) S (.lst (ys ++ [.ref T]))) b=some (.tup zs):=fun b zs z=>by
   rw [zj (yi z hy (by intro z;cases z))];exact S6 _ _ z
  have ri:∀ {a b:Nat},(rawInt (a:Int):Value)=rawInt (b:Int)→a=b:=fun {a b} z=>by
   have z':(ic (a:Int) 0:Value)=ic (b:Int) 0:=z
   have z'':(a:Int)=(b:Int):=by injection z'
   exact oO z''
  refine bj ⟨fS dN _,ih (i + 1) _ _ (ys ++ [.ref T]) o1 k1 v1 f1' (by lia) hlt I8 (fun b o z=>?_) zf ?_ (rd.at fun o z=>up d o dS (kp d o dit z)) (up it _ (cA Sit) hit') ?_ ⟨?_,f1,f2,f3,f4,f5⟩⟩
  ·rw [zj (zB z hS)];exact S6 _ _ (sm _ _ z)
  ·rw [dL,hkv]
   exact Kv (Ku tS pr) ⟨T,p,rfl,by rw [zj (cA STn),zf],tS _ _ (sm _ _ hp)⟩
  ·rcases ho1 with z | ⟨a,oa,z1,z2,z3⟩
   ·exact .inl z
   ·have aS:a≠S:=by
     rcases own a z1 with z | z
     ·rw [z];exact cA STn
     ·rcases ho0 with ⟨y1,_⟩ | ⟨a',oa',y1,_,_,y4⟩
      ·rw [y1] at z;cases z
      ·rw [y1] at z
       rw [← ri z];exact y4
    exact .inr ⟨a,oa,z1,up a _ aS z2,z3,aS⟩
  ·rw [zj (cA Sit),zj (cA tn)];exact f0
end
end L2
namespace L2
open PySem PySem.Spec PyProof.Rows
abbrev Kw:RC:=fun vs H Q=>∃ r d kvs,vs=[.ref r]∧H r=some (ku r d)∧H d=some (.dT kvs)∧kvs.length≤1000∧∀ l ys H',Same H H'→H l=none→H' l=some (.lst ys)→Paired (Yg H') ys kvs→Q (.ref l) H'
theorem zd4 {P:Program} {w:World} {H:Hp} {h:Heap} {r d:Addr} (k:HOk P w H h) (e:H r=some (ku r d)):h.IsItemsView r d:=(k r _ e).1
theorem zd5 {H:Hp}:∀ {kvs:List (List Key × V)} {xs:List (List Key × Addr × Value)},Paired (fun (p:List Key × V) (q:List Key × Addr × Value)=>p.1=q.1∧H q.2.1=some (.tup (p.1.map kV))∧RelV p.2 q.2.2) kvs xs→∀ {i:Nat} {kv:List Key × V} {x:List Key × Addr × Value},kvs[i]?=some kv→xs[i]?=some x→H x.2.1=some (.tup (kv.1.map kV))∧RelV kv.2 x.2.2 :=
 fun {_ _} h {_ _ _} e1 e2=>(ym h e1 e2).2
section
variable {X:Cx}
theorem zfh {pins:List (Addr × Obj)} {σ:St} {H:Hp} {s:Shared} {d:Addr} {kvs:List (List Key × V)} (I:Inv X pins σ H s) (e:H d=some (.dT kvs)):∃ es ep,RawD s.heap d es ep∧es.size=kvs.length ∧
  ∀ (i:Nat) (en:DictEntry) (kv:List Key × V),es[i]?=some en→kvs[i]?=some kv→∃ p,en.key=.ref p∧H p=some (.tup (kv.1.map kV))∧RelV kv.2 en.val:=by
 obtain ⟨z,hd,xs,rel,o,es,ep,h1,h2,h3,h4,_⟩:=(show ObjOk X.prog X.w H s.heap d (.dT kvs) from I.hok d _ e)
 have l1:es.size=xs.length:=by rw [← cm,h4,bB]
 refine ⟨es,ep,⟨o,h1,h2,h3⟩,by rw [l1,← cy rel],fun i en kv e1 e2=>?_⟩
 have e3:es.toList[i]?=some en:=by rw [dA];exact e1
 rw [h4,bQ] at e3
 obtain ⟨x,hx,rfl⟩:=dk.mp e3
 obtain ⟨g1,g2⟩:=zd5 rel e2 hx
 exact ⟨x.2.1,rfl,g1,g2⟩
theorem VD {A:Around} {R:Result→Shared→Prop} {pins:List (Addr × Obj)} {σ:St} {H:Hp} {s:Shared} {S r d:Addr} {kvs:List (List Key × V)} {res:Value} {c:Nat} (hh:A.handled=none) (hS:H S=none) (hr:H r=some (ku r d)) (hd:H d=some (.dT kvs)) (hl:kvs.length≤1000)
  (I2:Inv X pins σ (upd H S (.lst [])) s) (T2:s.heap.get? S=some { cls:=.type "list",data:=.seq #[] c }) (hR:∀ s' H' ys,Inv X pins σ H' s'→Same H H'→H' S=some (.lst ys)→Paired (Yg H') ys kvs→R (.ok (.ret res)) s') :
  wpAny (model X.prog X.w) A.in1 (df (.ref S) (.ref r) res) (fun fin s'=>match fin with | .done f=>R (.ok f) s' | .again c'=>c'.quiet=true∧codeAny (model X.prog X.w) A c' R s') (fun e s'=>R (.error e) s') s:=by
 have Sr:r≠S:=zB hr hS
 have Sd:d≠S:=zB hd hS
 have SS:Same H (upd H S (.lst [])):=isV S hS
 obtain ⟨es,ep,rd,hes,hen0⟩:=zfh I2 (SS _ _ hd)
 have hen:∀ (i:Nat) (en:DictEntry) (kv:List Key × V),es[i]?=some en→kvs[i]?=some kv→∃ p,en.key=.ref p∧H p=some (.tup (kv.1.map kV))∧RelV kv.2 en.val:=fun i en kv e1 e2=>by
  obtain ⟨p,g1,g2,g3⟩:=hen0 i en kv e1 e2
  refine ⟨p,g1,?_,g3⟩
  by_cases hp:p=S
  ·rw [hp,zf] at g2;cases g2
  ·rwa [zj hp] at g2
 have vw:=zd4 I2.hok (SS _ _ hr)
 unfold df
 refine ba (n9 (T:="dict_items") vw.typeIs ?_)
 have c1:lS (.ref S) (.ref r)=false:=by simp [lS,cA Sr]
 have c2:(lG "dict_items" == lG "list")=false:=by decide
 have c3:(lG "dict_items" == lG "tuple")=false:=by decide
 simp only [c1,c2,c3,Bool.or_false,cr,if_false]
 refine ba (Kt vw rd ?_)
 have ni:(upd H S (.lst [])) s.heap.objs.size=none:=I2.hok.fresh (bu _)
 have fp:kQ X pins (upd H S (.lst [])) s.heap.objs.size:=I2.fpOk (bu _) ni
 have Si:S≠s.heap.objs.size:=cz (bS T2)
 have di:d≠s.heap.objs.size:=cz rd.lt
 have I3:Inv X pins σ (upd H S (.lst [])) { s with heap:=s.heap.push { cls:=.type "dict_itemiterator",data:=.fields #[.none,.bool false,.ref d,.int 0 0,.int es.size 0,.int ep 0,.none,.none] } }:=I2.kept (t':=s.toks) fun b o e=>bn _ e
 have T3:=bn { cls:=.type "dict_itemiterator",data:=.fields #[.none,.bool false,.ref d,.int 0 0,.int es.size 0,.int ep 0,.none,.none] } T2
 have it3:ItA (s.heap.push { cls:=.type "dict_itemiterator",data:=.fields #[.none,.bool false,.ref d,.int 0 0,.int es.size 0,.int ep 0,.none,.none] }) s.heap.objs.size d 0 es.size ep .none false .none .none:=bC _ rfl
 have rd3:RawD (s.heap.push { cls:=.type "dict_itemiterator",data:=.fields #[.none,.bool false,.ref d,.int 0 0,.int es.size 0,.int ep 0,.none,.none] }) d es ep:=rd.at fun o e=>bn _ e
 have vw3:(s.heap.push { cls:=.type "dict_itemiterator",data:=.fields #[.none,.bool false,.ref d,.int 0 0,.int es.size 0,.int ep 0,.none,.none] }).IsItemsView r d:=let ⟨o,ho,x⟩:=vw;⟨o,bn _ ho,x⟩
 generalize hh3:s.heap.push { cls:=.type "dict_itemiterator",data:=.fields #[.none,.bool false,.ref d,.int 0 0,.int es.size 0,.int ep 0,.none,.none] }=h3 at *
 generalize s.heap.objs.size=it at *
 refine ba (dM (W.kdx_hint vw3.typeIs ?_))
 have fin:∀ (h4:Heap) (tk:Nat) (R:Result→Shared→Prop),(∀ s' H' ys,Inv X pins σ H' s'→Same H H'→H' S=some (.lst ys)→Paired (Yg H') ys kvs→R (.ok (.ret res)) s')→Inv X pins σ (upd H S (.lst [])) { s with heap:=h4,toks:=tk }→RawD h4 d es ep→ItA h4 it d 0 es.size ep .none false .none .none →
   codeAny (model X.prog X.w) A (.builtin "list.extend.loop" ⟨[.ref S,.ref it,res],[]⟩) R { s with heap:=h4,toks:=tk }:=fun h4 tk R hR I4 rd4 it4 =>
  zcB (A:=A) (H:=H) (es:=es) (ep:=ep) hh hS hd Si di hl hes hen hR kvs.length 0 _ (upd H S (.lst [])) [] .none .none .none false (Nat.sub_zero _) (b9 _) I4 SS zf .nil rd4 it4 (.inl ⟨rfl,rfl⟩) fp
 refine wpAny_ite_split (fun _=>?_) (fun _=>bj ⟨fS dN _,fin h3 s.toks _ hR I3 rd3 it3⟩)
 refine ba (gR ?_);refine ba ?_
 show wpAny _ _ (updateSeq S (·.push .none) >>= fun _=>updateSeq S (·.pop)) _ _ _;refine ba (i0 T3 rfl ?_)
 have T4:=ik (de (·.push cD)) T3 rfl
 refine i0 (hz:=by seq_fits) T4 rfl ?_
 have I4:=I3.lset (f:=fun xs=>xs.push cD) (its:=[]) (its':=[cD]) (ys:=[V.non]) (t':=s.toks) zf T3 rfl (.cons rfl .nil) (by show 1≤sizeLine;decide)
 have I5:=I4.lset (f:=fun xs=>xs.pop) (its:=[cD]) (its':=[]) (ys:=[]) (t':=s.toks) zf T4 rfl .nil (b9 _)
 rw [XE,XE] at I5
 have oth:∀ b o,b≠S→h3.get? b=some o→((h3.update S (de (·.push cD))).update S (de (·.pop))).get? b=some o:=fun b o hb e=>(dH _ _ (cA hb)).trans ((dH _ _ (cA hb)).trans e)
 exact bj ⟨fS dN _,fin _ s.toks _ hR I5 (rd3.at fun o e=>oth d o Sd e) (oth it _ (cA Si) it3)⟩
theorem ky (hc:X.calm=true):kR X (.type "list") Kw:=by
 intro pins s σ H vs us Q I r0 h
 obtain ⟨r,d,kvs,rfl,hr,hd,hl,q⟩:=h
 obtain ⟨u,rfl,ru⟩:=Y0 r0
 cases ru
 have hh:X.A.handled=none:=I.ok.hd hc
 refine callType_codes (Q₁:=fun obj s₁=>obj=.ref s.heap.objs.size∧s₁={ s with heap:=s.heap.push { cls:=.type "list",data:=.seq #[] } }) PySem.F.called_list (PySem.F.typeCall_list_1 _) PySem.F.entry_list_init (code_list_new _ ⟨rfl,rfl⟩) ?_;rintro obj s₁ ⟨rfl,rfl⟩
 have hS:H s.heap.objs.size=none:=I.hok.fresh (bu _)
 have I1:Inv X pins σ (upd H s.heap.objs.size (.lst [])) { s with heap:=s.heap.push { cls:=.type "list",data:=.seq #[] } }:=I.lnew (its:=[]) (t':=s.toks) .nil (b9 _)
 have T0:(s.heap.push { cls:=.type "list",data:=.seq #[] }).get? s.heap.objs.size=some { cls:=.type "list",data:=.seq #[] }:=bC _ rfl
 generalize hT:s.heap.objs.size=S at *
 refine ⟨⟨_,T0,rfl⟩,PySem.F.args_list_init_2 _ _,?_⟩
 show wpAny _ _ (do let old ← gK (.ref S);Builtin.List.listUpdate (.ref S) (fun _=>#[]);letGo old.toList.reverse;df (.ref S) (.ref r) .none) _ _ _
 refine ba ?_;unfold gK;refine ba (wpAny_seqItems T0 rfl (bj ?_))
 show wpAny _ _ (updateSeq S (fun _=>#[]) >>= fun _=>letGo (#[]:Array Value).toList.reverse >>= fun _=>df (.ref S) (.ref r) .none) _ _ _
 refine ba (i0 T0 rfl ?_)
 have I2:=I1.lset (f:=fun _=>(#[]:Array Value)) (its:=[]) (its':=[]) (ys:=[]) (t':=s.toks) zf T0 rfl .nil (b9 _)
 rw [XE] at I2
 have T2:=ik (de (fun _=>(#[]:Array Value))) T0 rfl
 refine ba (wpAny_letGo ?_)
 generalize hh2:(s.heap.push { cls:=.type "list",data:=.seq #[] }).update S (de (fun _=>(#[]:Array Value)))=h2 at *
 exact VD (A:=X.A.in1) (H:=H) hh hS hr hd hl I2 T2 fun s' H' ys I' sm hy pr=>⟨rfl,.ref S,H',I',rfl,q S ys H' sm hS hy pr⟩
end
end L2
namespace L2
open PySem PySem.Spec PyProof.Rows PySem.W
section
variable {X:Cx}
theorem QL {A:Around} {E:Value→Shared→Prop} {R:List Value→Shared→Prop} {pins:List (Addr × Obj)} {σ:St} {H:Hp} {s:Shared} {r d:Addr} {kvs:List (List Key × V)} (hh:A.handled=none) (hr:H r=some (ku r d)) (hd:H d=some (.dT kvs)) (hl:kvs.length≤1000) (I:Inv X pins σ H s)
  (h:∀ s1 H' ys us,Inv X pins σ H' s1→Same H H'→Paired (Yg H') ys kvs→Vals ys us→R us s1):wpAny (model X.prog X.w) A (collect (.ref r)) R E s:=by
 have hS:H s.heap.objs.size=none:=I.hok.fresh (bu _)
 have I1:Inv X pins σ (upd H s.heap.objs.size (.lst [])) { s with heap:=s.heap.push { cls:=.type "list",data:=.seq ([]:List Value).toArray } }:=I.lnew (its:=[]) (t':=s.toks) .nil (b9 _)
 have T1:(s.heap.push { cls:=.type "list",data:=.seq ([]:List Value).toArray }).get? s.heap.objs.size=some { cls:=.type "list",data:=.seq #[] }:=bC _ rfl
 unfold collect;refine ba (wpAny_runValue (eD mZ ?_));rw [dh iY _]
 show wpAny _ A.in1 (newList [] >>= fun l=>again (.builtin "list.__iadd__" ⟨[l,.ref r],[]⟩)) _ _ s;refine ba (cY ?_)
 refine bj ⟨fS eY _,eD entry_list_iadd' ?_⟩;rw [dh eY _]
 generalize s.heap.objs.size=S at *
 show wpAny _ A.in1 (df (.ref S) (.ref r) (.ref S)) _ _ _
 have key:=VD (A:=A) (R:=fun (q:Result) (s':Shared)=>∃ H' ys,q=.ok (.ret (.ref S))∧Inv X pins σ H' s'∧Same H H'∧H' S=some (.lst ys)∧Paired (Yg H') ys kvs) (res:=.ref S) hh hS hr hd hl I1 T1 fun s' H' ys I' sm hy pr=>⟨H',ys,rfl,I',sm,hy,pr⟩
 have fin:∀ s':Shared,(∃ H' ys,Inv X pins σ H' s'∧Same H H'∧H' S=some (.lst ys)∧Paired (Yg H') ys kvs)→wpAny (model X.prog X.w) A (load S >>= fun o=>match o.data with | .seq xs _=>pure xs.toList | _=>unsupported "internal:collect") R E s':=fun s' ⟨H',ys,I',sm,hy,pr⟩=>by
  obtain ⟨z,its,n,rv,hl',e⟩:=I'.lstM hy
  refine ba (mU e ?_)
  refine bj ?_
  exact h s' H' ys its I' sm pr rv
 refine db key (fun f s' x=>?_) fun e s' x=>?_
 ·cases f with
  | done f =>
   obtain ⟨H',ys,e,x⟩:=x
   cases e
   exact fin s' ⟨H',ys,x⟩
  | again c₁ =>
   refine ⟨x.1,eI x.2 fun q s₂ y=>?_⟩
   obtain ⟨H',ys,rfl,y⟩:=y
   exact fin s₂ ⟨H',ys,y⟩
 ·obtain ⟨_,_,e',_⟩:=x
  cases e'
end
section
variable {P:Program} {w:World} {A:Around} {E:Value→Shared→Prop} {s:Shared}
theorem zcC {x y:Addr} {a b:Str × Int} {Q:Bool→Shared→Prop} (hu:A.units < cLine) (hx:PlAt s.heap (.ref x) a) (hy:PlAt s.heap (.ref y) b) (h:Q (zX a b) s):wpAny (model P w) A (oneLt' false (.ref x) (.ref y)) Q E s:=by
 obtain ⟨p,o,t,u,n,e1,ho,hc,hd⟩:=hx
 obtain ⟨p2,o2,t2,u2,n2,e2,ho2,hc2,hd2⟩:=hy
 cases e1
 cases e2
 obtain ⟨c,dd,dat,sl⟩:=o
 obtain ⟨c2,dd2,dat2,sl2⟩:=o2
 simp only at hc hd hc2 hd2
 subst hc hd hc2 hd2
 have T1:s.TypeIs (.ref x) "tuple":=⟨_,ho,rfl⟩
 have T2:s.TypeIs (.ref y) "tuple":=⟨_,ho2,rfl⟩
 refine kat_one _ _ ?_
 show wpAny _ _ (richCompare .Lt (.ref x) (.ref y)) _ _ _
 refine i3 T1 T2 fL ?_ hu
 exact lK fL T1 mI (md _ _) (qd x y a.1 b.1 a.2 b.2 t u t2 u2 n n2 dd dd2 sl sl2) ⟨ho,ho2,by simp,h⟩
theorem zcD {h:Heap} {x:Addr} {a:Str × Int} (hx:PlAt h (.ref x) a):IsTupleKey (yL P w) h (zH a) x:=by
 obtain ⟨p,o,t,u,n,e1,ho,hc,hd⟩:=hx
 cases e1
 exact ⟨o,_,n,ho,hc,hd,Yy (ks:=zH a) (.cons ⟨t,rfl⟩ (.cons ⟨u,rfl⟩ .nil))⟩
def RvAt (h:Heap) (v:Value) (q:Row):Prop:=∃ a o p t n,v=.ref a∧h.get? a=some o∧o.cls=.type "tuple"∧o.data=.seq #[.ref p,.int q.2 t] n∧PlAt h (.ref p) q.1
theorem RvAt.keep {h h':Heap} {v:Value} {q:Row} (x:RvAt h v q) (k:∀ b o,h.get? b=some o→h'.get? b=some o):RvAt h' v q:=by
 obtain ⟨a,o,p,t,n,e,ho,hc,hd,hp⟩:=x
 exact ⟨a,o,p,t,n,e,k _ _ ho,hc,hd,hp.keep k⟩
theorem zaL {x y:Value} {a b:Row} {Q:Bool→Shared→Prop} (hu:A.units < cLine) (hx:RvAt s.heap x a) (hy:RvAt s.heap y b) (h:Q (zX a.1 b.1) s) (hn:a.1≠b.1):wpAny (model P w) A (keyLt' (tuples' false) x y) Q E s:=by
 obtain ⟨p,o,pp,t,n,rfl,ho,hc,hd,hp⟩:=hx
 obtain ⟨p2,o2,pp2,t2,n2,rfl,ho2,hc2,hd2,hp2⟩:=hy
 refine kat_lt ho hd ho2 hd2 (kat_cons (wpAny_eqBool_tuple (knd:=yL P w) hu (zcD hp) (zcD hp2) (kat_go (fun e=>?_) fun e=>kat_no ?_)))
 ·exact absurd (xc (of_decide_eq_true e)) hn
 ·exact zcC hu hp hp2 h
theorem Kx {vs:List Value} {qs:List Row} {Q:SortKind→Shared→Prop} (hl:vs.length=qs.length) (hv:∀ (i:Nat) (v:Value) (q:Row),vs[i]?=some v→qs[i]?=some q→RvAt s.heap v q) (h2:0 < vs.length) (h:Q (tuples' false) s) :
  wpAny (model P w) A (keyKind' vs.toArray) Q E s:=by
 have T:∀ (vs:List Value) (qs:List Row),vs.length=qs.length→(∀ (i:Nat) (v:Value) (q:Row),vs[i]?=some v→qs[i]?=some q→RvAt s.heap v q)→∃ fs,KatTups s.heap vs fs∧fs.length=vs.length∧∀ v∈fs,∃ p o,v=bL p∧s.heap.get? p=some o∧o.cls=.type "tuple":=by
  intro vs
  induction vs with
  | nil=>exact fun qs _ _=>⟨[],trivial,rfl,fun _ z=>nomatch z⟩
  | cons v r ih =>
   intro qs hl hv
   match qs,hl with
   | q :: qr,hl =>
    obtain ⟨fs,k,kl,kf⟩:=ih qr (by simpa using hl) fun i v' q' e1 e2=>hv (i + 1) v' q' (by simpa using e1) (by simpa using e2)
    obtain ⟨a,o,p,t,n,rfl,ho,hc,hd,hp⟩:=hv 0 v q rfl rfl
    refine ⟨.ref p :: fs,oP ho hc hd rfl k,by simp [kl],fun z hz=>?_⟩
    rcases bN.mp hz with rfl | hz
    ·obtain ⟨p',o',_,_,_,e,g1,g2,_⟩:=hp
     cases e
     exact ⟨_,o',rfl,g1,g2⟩
    ·exact kf z hz
 obtain ⟨fs,k,kl,kf⟩:=T vs qs hl hv
 refine kat_kind (T:=.type "tuple") k (by lia) (fun v hv=>?_) (by decide) h
 obtain ⟨p,o,rfl,g1,g2⟩:=kf v hv
 exact g2 ▸ (oH g1).andThen .now
theorem Jn {l:Addr} {κ:SortKind} {Q:Value→Shared→Prop} (G:List Value→(Nat→Nat→Bool)→Shared→Prop)
  (coll:∀ R:List Value→Shared→Prop,(∀ vs lt s1,G vs lt s1→R vs s1)→wpAny (model P w) A.in1 (collect (.ref l)) R E s)
  (h64:∀ vs lt s1,G vs lt s1→vs.length < 1000∧SO lt vs.length)
  (hk:∀ vs lt s1,G vs lt s1→2≤vs.length→∀ (h:Heap) (Q:SortKind→Shared→Prop),(∀ b o,s1.heap.get? b=some o→h.get? b=some o)→Q κ { s1 with heap:=h }→wpAny (model P w) A.in1.in1 (keyKind' vs.toArray) Q (fun _ _=>False) { s1 with heap:=h })
  (hc:∀ vs lt s1,G vs lt s1→∀ (h:Heap) i j C,(∀ b o,s1.heap.get? b=some o→h.get? b=some o)→i < vs.length→j < vs.length→i≠j→C (lt i j) { s1 with heap:=h }→kas_ask P w A.in1.in1 κ vs i j C { s1 with heap:=h })
  (fin:∀ vs lt s1,G vs lt s1→∀ (h':Heap) (p:Array Nat) (c:Nat),(∀ b o,s1.heap.get? b=some o→h'.get? b=some o)→h'.get? s1.heap.objs.size=some (seqObj "list" (wF vs p).toArray c)→PP vs.length p→X3 lt p vs.length→Q (.ref s1.heap.objs.size) { s1 with heap:=h' }) :
  wpAny (model P w) A (call (.builtin "sorted") [.ref l]) Q E s:=by
 refine lD kind_sorted plain_sorted entry_sorted (args_sorted1 _) ?_;unfold Builtin.«sorted»
 refine ba (m:=checkCount "sorted" 1 1 _) (bj ?_);refine ba (coll _ fun vs lt s1 g=>?_)
 obtain ⟨l64,S⟩:=h64 vs lt s1 g
 refine ba (nI ?_ (by rw [eL];lia))
 have hoL:(s1.heap.push (seqObj "list" vs.toArray 0)).get? s1.heap.objs.size=some (seqObj "list" vs.toArray 0):=bC _ rfl
 have kept:∀ h',Kp s1.heap.objs.size (s1.heap.push (seqObj "list" vs.toArray 0)) h'→∀ b o,s1.heap.get? b=some o→h'.get? b=some o:=fun h' k b o e=>k b o (cz (bS e)) (bn _ e)
 refine ba (dM (cN slot_list_sort ⟨_,hoL,rfl⟩ entry_list_sort (X8 (s:={ s1 with heap:=s1.heap.push (seqObj "list" vs.toArray 0) }) hoL l64 (κ:=κ) (lt:=lt) (fun h2 h' Q' k q=>?_) (fun h' i j C k hi hj hij q=>?_) S fun h' p c k ho hp hr=>?_) (args_list_sort _)))
 ·exact hk vs lt s1 g h2 h' Q' (kept h' k) q
 ·exact hc vs lt s1 g h' i j C (kept h' k) hi hj hij q
 ·exact ⟨_,rfl,bj ⟨_,rfl,fin vs lt s1 g h' p c (kept h' k) ho hp hr⟩⟩
end
end L2
namespace L2
open PySem PySem.Spec PyProof.Rows PySem.W
def d0:Row:=(("",0),0)
theorem QN (rows:List Row):∃ its:List Row,dOf rows=its.map (fun q=>(zH q.1,V.int q.2))∧(its.map (·.1)).Nodup∧∀ p w,(p,w)∈its↔zr rows p=some w:=by
 have h:=vo rows
 have:∀ (kvs:List (List Key × V)),(∀ kv∈kvs,∃ (p:Pl) (w:Int),kv=(zH p,.int w))→∃ its:List Row,kvs=its.map (fun q=>(zH q.1,V.int q.2)):=fun kvs=>by
  induction kvs with
  | nil=>exact fun _=>⟨[],rfl⟩
  | cons kv r ih =>
   intro hk
   obtain ⟨qs,e⟩:=ih fun z hz=>hk z (bx _ hz)
   obtain ⟨p,w,e2⟩:=hk kv bH
   exact ⟨(p,w) :: qs,by rw [bW,← e,e2]⟩
 obtain ⟨its,e⟩:=this _ h.2
 refine ⟨its,e,?_,fun p w=>?_⟩
 ·have:=h.1
  rw [e,gB] at this
  refine ww (f:=zH) ?_
  rw [gB]
  exact this
 ·have m:=mem_dOf (rows:=rows) (kv:=(zH p,V.int w))
  constructor
  ·intro hm
   obtain ⟨p',w',e1,e2⟩:=m.mp (by rw [e];exact cG.mpr ⟨_,hm,rfl⟩)
   have e3:=xc (mf e1).1
   have e4:=V.int.inj (mf e1).2
   rw [e3,e4];exact e2
  ·intro hw
   have hm:=m.mpr ⟨p,w,rfl,hw⟩
   rw [e] at hm
   obtain ⟨q,hq,e1⟩:=cG.mp hm
   have e3:=xc (mf e1).1
   have e4:=V.int.inj (mf e1).2
   rw [← e3,← e4];exact hq
theorem Wc {α:Type} (l:List α) (d:α):(dX l.length).map (fun i=>l.getD i d)=l:=by
 apply fR
 intro i
 rw [bQ]
 by_cases hi:i < l.length
 ·rw [iW hi,bg hi]
  simp [bo,bg hi]
 ·rw [cU (by simpa using hi),cU (by lia)]
  rfl
theorem PP.list {n:Nat} {p:Array Nat} (h:PP n p):p.toList.Perm (dX n):=by
 have:=fU.mp h
 simpa using this
theorem PP.lt {n:Nat} {p:Array Nat} (h:PP n p):∀ i∈p.toList,i < n:=fun i hi=>by
 have:=h.list.mem_iff.mp hi
 simpa using this
theorem Wd {α:Type} {F:α→α→Bool} {l:List α} {d:α} {n:Nat} {p:Array Nat} (hp:PP n p) (hr:X3 (fun i j=>F (l.getD i d) (l.getD j d)) p n):(p.toList.map fun i=>l.getD i d).Pairwise fun a b=>F a b=true:=by
 rw [eh,cO]
 intro i j hi hj hij
 rw [cm] at hi hj
 have g1:=wD hi
 have g2:=wD hj
 have sz:=hp.size
 have r:=hr i j hij (by lia)
 have x1:p.toList[i]=gt p i:=by
  rw [cw hi] at g1
  simpa using g1
 have x2:p.toList[j]=gt p j:=by
  rw [cw hj] at g2
  simpa using g2
 rw [x1,x2];exact r
theorem wG {α β:Type} {F:α→β→Prop} {l₁:List α} {l₂:List β} (h:Paired F l₁ l₂) (a:α) (b:β):∀ {is:List Nat},(∀ i∈is,i < l₁.length)→Paired F (is.map fun i=>l₁.getD i a) (is.map fun i=>l₂.getD i b)
 | [],_=>.nil
 | i :: r,hi=>by
  have l:=cy h
  have h1:=hi i bH
  refine .cons ?_ (wG h a b fun j hj=>hi j (bx _ hj))
  show F (l₁.getD i a) (l₂.getD i b)
  have e1:=bg h1
  have e2:l₂[i]?=some l₂[i]:=bg (by lia)
  rw [bo,bo,e1,e2]
  exact ym h e1 e2
abbrev Ky:RC:=fun vs H Q=>∃ r d rows,vs=[.ref r]∧H r=some (ku r d)∧H d=some (.dT (dOf rows))∧(dOf rows).length < 1000 ∧
 ∀ l ys srt H',Same H H'→H l=none→H' l=some (.lst ys)→Paired (PrAt H') ys srt→Rising srt→(∀ p w,(p,w)∈srt↔zr rows p=some w)→Q (.ref l) H'
theorem zaM {H:Hp}:∀ {ys:List V} {its:List Row},Paired (Yg H) ys (its.map fun q=>(zH q.1,V.int q.2))→Paired (PrAt H) ys its
 | _,[],h=>by cases h;exact .nil
 | _,q :: r,h=>by
  rw [bW] at h
  cases h with
  | cons a t=>exact .cons a (zaM t)
section
variable {X:Cx}
theorem zeM {pins:List (Addr × Obj)} {σ:St} {H:Hp} {s:Shared} {v:V} {u:Value} {q:Row} (I:Inv X pins σ H s) (h:PrAt H v q) (r:RelV v u):RvAt s.heap u q:=by
 obtain ⟨a,p,rfl,h1,h2⟩:=h
 cases r
 obtain ⟨_,its,rv,o,o1,o2,n,o3⟩:=(show ObjOk X.prog X.w H s.heap a (.tup [.ref p,.int q.2]) from I.hok a _ h1)
 cases rv with
 | cons r1 rr =>
  cases rr with
  | cons r2 rn =>
   cases rn
   cases r1
   obtain ⟨t,rfl⟩:=r2
   exact ⟨a,o,p,t,n,rfl,o1,o2,o3,Yd I h2⟩
theorem vV (hc:X.calm=true) (hu:X.A.units + 3 < cLine):kR X (.builtin "sorted") Ky:=by
 intro pins s σ H vs us Q I r0 h
 obtain ⟨r,d,rows,rfl,hr,hd,h64,q⟩:=h
 obtain ⟨u,rfl,ru⟩:=Y0 r0
 cases ru
 have hh:X.A.handled=none:=I.ok.hd hc
 obtain ⟨its,ei,nd,mi⟩:=QN rows
 have li:(dOf rows).length=its.length:=by rw [ei,bB]
 have so:=ZC nd
 have vat:∀ {s1:Shared} {H':Hp} {ys:List V} {vs:List Value},Inv X pins σ H' s1→Paired (PrAt H') ys its→Vals ys vs→∀ (i:Nat) (q:Row),its[i]?=some q→∃ v,vs[i]?=some v∧RvAt s1.heap v q:=fun {s1 H' ys vs} I' pr rv i q hq=>by
  have hi:=(bp.mp hq).1
  have l1:=cy pr
  obtain ⟨y,hy⟩:∃ y,ys[i]?=some y:=⟨_,bg (by lia)⟩
  obtain ⟨u,hu',ru⟩:=rv.get hy
  exact ⟨u,hu',zeM I' (ym pr hy hq) ru⟩
 refine Jn (κ:=tuples' false) (fun vs lt s1=>∃ H' ys,Inv X pins σ H' s1∧Same H H'∧Paired (PrAt H') ys its∧Vals ys vs∧lt=fun i j=>zX ((its.map (·.1)).getD i (("",0):Pl)) ((its.map (·.1)).getD j (("",0):Pl)))
  (fun R hR=>QL (A:=X.A.in1) hh hr hd (by lia) I fun s1 H' ys us I' sm pr rv=>hR us _ s1 ⟨H',ys,I',sm,zaM (by rw [← ei];exact pr),rv,rfl⟩) ?_ ?_ ?_ ?_
 ·rintro vs lt s1 ⟨H',ys,I',sm,pr,rv,rfl⟩
  have l1:=cy pr
  have l2:=rv.length
  refine ⟨by lia,?_⟩
  rw [show vs.length=(its.map (·.1)).length by rw [bB];lia]
  exact so
 ·rintro vs lt s1 ⟨H',ys,I',sm,pr,rv,rfl⟩ h2 h Q' k q'
  have l1:=cy pr
  have l2:=rv.length
  refine Kx (s:={ s1 with heap:=h }) (qs:=its) (by lia) (fun i v q hv hq=>?_) (by lia) q'
  obtain ⟨v',hv',rr⟩:=vat I' pr rv i q hq
  rw [hv] at hv'
  cases hv'
  exact rr.keep k
 ·rintro vs lt s1 ⟨H',ys,I',sm,pr,rv,rfl⟩ h i j C k hi hj hij q'
  have l1:=cy pr
  have l2:=rv.length
  have e1:its[i]?=some its[i]:=bg (by lia)
  have e2:its[j]?=some its[j]:=bg (by lia)
  obtain ⟨v1,g1,r1⟩:=vat I' pr rv i _ e1
  obtain ⟨v2,g2,r2⟩:=vat I' pr rv j _ e2
  have n1:(its.map (·.1)).getD i (("",0):Pl)=its[i].1:=by rw [bo,bQ,e1];rfl
  have n2:(its.map (·.1)).getD j (("",0):Pl)=its[j].1:=by rw [bo,bQ,e2];rfl
  have m1:vs.getD i cD=v1:=by rw [bo,g1];rfl
  have m2:vs.getD j cD=v2:=by rw [bo,g2];rfl
  simp only [n1,n2] at q'
  have key:=zaL (P:=X.prog) (w:=X.w) (A:=X.A.in1.in1) (E:=fun _ _=>False) (s:={ s1 with heap:=h }) (Q:=C) (by have e:X.A.in1.in1.units=X.A.units + 2:=rfl;lia) (r1.keep k) (r2.keep k) q' fun z=>hij (by
   have e3:(its.map (·.1))[i]?=some its[i].1:=by rw [bQ,e1];rfl
   have e4:(its.map (·.1))[j]?=some its[j].1:=by rw [bQ,e2];rfl
   rw [z] at e3
   exact (lT (by rw [bB];lia) nd).mp (e3.trans e4.symm))
  rw [← m1,← m2] at key
  exact key
 ·rintro vs lt s1 ⟨H',ys,I',sm,pr,rv,rfl⟩ h' p c k hD hp hr
  have l1:=cy pr
  have l2:=rv.length
  have hp':PP its.length p:=by rw [show its.length=vs.length by lia];exact hp
  have fr:H' s1.heap.objs.size=none:=I'.hok.fresh (bu _)
  have sz:=hp'.size
  have pk:=wG pr V.non d0 (is:=p.toList) fun i hi=>by have:=hp'.lt i hi;lia
  have vk:Vals (p.toList.map fun i=>ys.getD i V.non) (wF vs p):=wG rv V.non cD (is:=p.toList) fun i hi=>by have:=hp'.lt i hi;lia
  have I2:Inv X pins σ (upd H' s1.heap.objs.size (.lst (p.toList.map fun i=>ys.getD i V.non))) { s1 with heap:=h' }:=I'.laid (a:=s1.heap.objs.size) (o:=.lst (p.toList.map fun i=>ys.getD i V.non)) (t':=s1.toks) k (bu _)
   ⟨by rw [bB,cm];exact cf (by lia:_≤1000) (by decide),wF vs p,c,vk,hD⟩
  have S2:Same H' (upd H' s1.heap.objs.size (.lst (p.toList.map fun i=>ys.getD i V.non))):=isV _ fr
  have hn:H s1.heap.objs.size=none:=by
   cases e:H s1.heap.objs.size with
   | none=>rfl
   | some o=>rw [sm _ _ e] at fr;cases fr
  have mono:∀ {us:List V} {ws:List Row},Paired (PrAt H') us ws→Paired (PrAt (upd H' s1.heap.objs.size (.lst (p.toList.map fun i=>ys.getD i V.non)))) us ws:=fun {us ws} h=>by
   induction h with
   | nil=>exact .nil
   | cons a _ ih =>
    obtain ⟨r,p,e,h1,h2⟩:=a
    exact .cons ⟨r,p,e,S2 _ _ h1,S2 _ _ h2⟩ ih
  refine ⟨.ref s1.heap.objs.size,_,I2,rfl,q _ _ (p.toList.map fun i=>its.getD i d0) _ (sm.trans S2) hn zf (mono pk) ?_ fun pl wv=>?_⟩
  ·have hr':X3 (fun i j=>zX ((its.map (·.1)).getD i (("",0):Pl)) ((its.map (·.1)).getD j (("",0):Pl))) p its.length:=by rw [show its.length=vs.length by lia];exact hr
   have pw:=Wd (F:=zX) hp' hr'
   have eq:(p.toList.map fun i=>its.getD i d0).map (·.1)=p.toList.map fun i=>(its.map (·.1)).getD i (("",0):Pl):=by
    rw [gB]
    refine gr fun i hi=>?_
    have hi:=hp'.lt i hi
    simp [bo,bQ,bg hi]
   rw [← eq,eh] at pw
   exact pw
  ·have pm:(p.toList.map fun i=>its.getD i d0).Perm its:=by
    refine (hp'.list.map _).trans ?_
    rw [Wc]
   rw [pm.mem_iff]
   exact mi pl wv
end
end L2
namespace L2
open PySem PySem.Spec PyProof.Rows
def zcE (lo c:Int) (n:Nat):It:=⟨fun i _=>i < n,fun i H x H'=>H'=H∧x=.int (lo + i * c),fun i _=>n≤i⟩
theorem Kz {P:Program} {w:World} {K:br} {tg:Expr} (it:Addr) (lo c:Int) (n:Nat):za7 P w K tg (zcE lo c n) [it] it (fun i h=>IsRangeIter h it (lo + (i:Nat) * c) ((n:Int) - (i:Nat)) c) where
 mem:=by simp
 obj:=fun i h st b hb=>by
  have e:b=it:=by simpa using hb
  subst e
  refine ⟨_,st,fun v z=>?_⟩
  have z':Data.fields _=Data.cell v:=z
  cases z'
 keep:=fun i h h' st k=>k it (by simp) _ st
 item:=by
  intro X hP hw hK hc i pins s σ H E I hf st hg;subst hP hw hK
  obtain ⟨f0,f1,f2,f3,f4,f5⟩:=hf it (by simp)
  refine (Walks.range (prog:=X.prog) (w:=X.w) (I.ok.hd hc) it lo c n).item i s _ _ hg st fun v h' tk hv st' kk=>?_
  obtain ⟨t,rfl⟩:=hv
  have I1:Inv X pins σ H { s with heap:=h',toks:=tk }:=I.turned (fun b o hb e=>kk b o (by simpa using hb) e) f0 f1 f3 f4 f5
  exact ⟨_,rfl,zaa (s:={ s with heap:=h',toks:=tk }) (n:="range_iterator") st' rfl rfl (by decide) ⟨.int (lo + i * c),H,I1,⟨t,rfl⟩,⟨rfl,rfl⟩,st',fun b hb=>(hf b hb).1⟩⟩
 done:=by
  intro X hP hw hK hc i pins s σ H E I hf st hg;subst hP hw hK
  obtain ⟨f0,f1,f2,f3,f4,f5⟩:=hf it (by simp)
  exact mB (I.ok.hd hc) st (by have:n≤i:=hg;lia) fun h' eb=>⟨rfl,I.turned (t':=s.toks) (fun b o hb e=>eb b o hb e) f0 f1 f3 f4 f5⟩
 self:=fun _ _ _ _ _ st h=>mC st h
def Xk (i j c:Int):Nat:=if i < j then ((j - i - 1) / c + 1).toNat else 0
def zcF (ta:TA):TI:=fun σ H R=>ta σ H fun vs H1=>∃ i j c:Int,vs=[.int i,.int j,.int c]∧(0≤i∧i < 1073741824∧0≤j∧j < 1073741824∧0 < c∧c < 1073741824)∧R (zcE i c (Xk i j c)) H1
section
variable {X:Cx} {tg:Expr}
theorem zbu {a b c:Expr} {ta:TA} {p pos:Pos} (hg:Gl X "range") (hm:X.mg "range"=none) (ha:PA X [a,b,c] ta) (hs:starEach [a,b,c] X.env=[(false,eval a X.env),(false,eval b X.env),(false,eval c X.env)]:=by rfl) (hs2:starEach [b,c] X.env=[(false,eval b X.env),(false,eval c X.env)]:=by rfl) :
  PI X tg (.Call (.Name "range" p) [a,b,c] [] pos) (zcF ta):=by
 intro pins s σ H R I h
 refine Call_ (XO I hg hm boot_range (fA (thn (ha pos pins s σ H _ I h) fun us s1 ⟨vs,H1,I1,r1,q1⟩=>?_) (by rw [hs,hs2]) (by rw [hs2];rfl)))
 obtain ⟨i,j,c,e,⟨q1,q2,q3,q4,q5,q6⟩,q⟩:=q1
 subst e
 cases r1 with
 | cons r rr =>
  cases rr with
  | cons r' rr =>
   cases rr with
   | cons r'' rr =>
    cases rr
    obtain ⟨t,rfl⟩:=r
    obtain ⟨t',rfl⟩:=r'
    obtain ⟨t'',rfl⟩:=r''
    refine call_range_3 (by lia) ?_ (.inl (PyProof.noPylong_small (by lia)))
    have hz:gC i j c=(Xk i j c:Int):=by
     unfold gC Xk
     rw [if_pos q5]
     split
     ·rename_i h
      have:=i4 (a:=j - i - 1) (b:=c) (by lia) (by lia)
      lia
     ·rfl
    have hb:(Xk i j c:Int)≤1073741824∧(Xk i j c:Int) * c≤2147483648:=by
     unfold Xk
     split
     ·rename_i h
      have h1:=i4 (a:=j - i - 1) (b:=c) (by lia) (by lia)
      have h2:=oj (a:=j - i - 1) c (by lia)
      have h3:=Int.ediv_mul_le (j - i - 1) (b:=c) (by lia)
      rw [e9 (by lia),oB]
      lia
     ·simp
    generalize Xk i j c=n at *
    have sm:nr i j c=true:=by
     unfold nr
     rw [hz]
     simp only [Builtin.Range.rangeFitsLong,bX,oC,decide_eq_true_eq,beq_iff_eq,show c > 0 from q5,if_true]
     lia
    refine wpAny_pyIter_range (IsRange.new ..) sm ?_
    rw [hz]
    have I2:Inv X pins σ H1 { s1 with heap:=s1.heap.push { cls:=.type "range",data:=.fields #[.int i t,.int j t',.int c t''] },toks:=s1.toks }:=I1.kept fun b o e=>bn _ e
    refine ⟨(s1.heap.push { cls:=.type "range",data:=.fields #[.int i t,.int j t',.int c t''] }).objs.size,[(s1.heap.push { cls:=.type "range",data:=.fields #[.int i t,.int j t',.int c t''] }).objs.size],_,_,H1,rfl,I2.kept (t':=s1.toks) fun b o e=>bn _ e,Kz _ i c n,?_,fun b hb=>?_,q⟩
    ·show IsRangeIter _ _ (i + ((0:Nat):Int) * c) ((n:Int) - ((0:Nat):Int)) c
     rw [show i + ((0:Nat):Int) * c=i by simp,show (n:Int) - ((0:Nat):Int)=n by simp]
     exact bC _ rfl
    ·have e:b=(s1.heap.push { cls:=.type "range",data:=.fields #[.int i t,.int j t',.int c t''] }).objs.size:=by simpa using hb
     subst e
     exact I2.fpOk (bu _) (I2.hok.fresh (bu _))
end
end L2
namespace L2
open PySem
structure StOk (n:Nat) (s:Sta):Prop where
 so:yo s.sl
 wo:∀ r∈s.wo,inW r.2=true
 l1:s.sl.length≤n
 l2:s.wo.length≤n
 l3:s.sa.length≤n
theorem StOk.mono {n m:Nat} {s:Sta} (h:StOk n s) (l:n≤m):StOk m s:=⟨h.so,h.wo,cf h.l1 l,cf h.l2 l,cf h.l3 l⟩
theorem q9 {kvs:List (Key × V)} (h:yo kvs) (k:Key) {i:Int} (hi:inW i=true):yo (yB kvs k (.int i)):=fun k' v e=>by
 rw [Z6] at e
 by_cases c:k'=k
 ·rw [if_pos c] at e
  exact ⟨i,(ca e).symm,hi⟩
 ·rw [if_neg c] at e
  exact h k' v e
theorem Za {P:Row→Prop} {p:Pl} {w:Int}:∀ {l:List Row},(∀ r∈l,P r)→zr l p=some w→P (p,w)
 | [],_,h=>by cases h
 | r :: t,hp,h=>by
  rw [zr] at h
  cases e:zr t p with
  | some w' =>
   rw [e] at h
   have:w'=w:=by simpa using h
   subst this
   exact Za (fun r hr=>hp r (bx _ hr)) e
  | none =>
   rw [e] at h
   by_cases c:r.1=p
   ·rw [if_pos c] at h
    have:r.2=w:=by simpa using h
    rw [← c,← this];exact hp r bH
   ·rw [if_neg c] at h;cases h
theorem KA {l:List Row} (h:∀ r∈l,inW r.2=true) (p:Pl):inW ((zr l p).getD 0)=true:=by
 cases e:zr l p with
 | none=>rfl
 | some w=>exact Za (P:=fun r=>inW r.2=true) h e
theorem zd6 {n:Nat} {s:Sta} (h:StOk n s) (x:Str) (p:Pl):StOk (n + 1) { s with sl:=yB s.sl (.inr x) (.int ((zr s.wo p).getD 0)) } :=
 ⟨q9 h.so _ (KA h.wo p),h.wo,cf (xp _ _ _) (dF h.l1),bT h.l2,bT h.l3⟩
theorem zd7 {n:Nat} {s:Sta} (h:StOk n s) (p:Pl) {w:Int} (hw:inW w=true):StOk (n + 1) { s with wo:=s.wo ++ [(p,w)] } :=
 ⟨h.so,fun r hr=>by
  rcases bz.mp hr with hr | hr
  ·exact h.wo r hr
  ·rw [bD.mp hr];exact hw,bT h.l1,by show (s.wo ++ [(p,w)]).length≤n + 1;rw [bw];exact dF h.l2,bT h.l3⟩
theorem zfi {n:Nat} {s:Sta} (h:StOk n s) (x:Str) {w:Int} (hw:inW w=true):StOk (n + 1) { s with sl:=yB s.sl (.inr x) (.int w) } :=
 ⟨q9 h.so _ hw,h.wo,cf (xp _ _ _) (dF h.l1),bT h.l2,bT h.l3⟩
theorem zfj {n:Nat} {s:Sta} (h:StOk n s) (w:Int):StOk (n + 1) { s with sa:=s.sa ++ [w] } :=
 ⟨h.so,h.wo,bT h.l1,bT h.l2,by show (s.sa ++ [w]).length≤n + 1;rw [bw];exact dF h.l3⟩
mutual
theorem zcG:∀ (r:Rw) {n:Nat} {s s':Sta},StOk n s→xG r→goR r s=.go s'→StOk (n + r.cnt) s'
 | .take sh e sl,n,s,s',h,k,g=>by
  unfold goR at g
  unfold xG at k
  split at g
  ·cases g;exact zd6 h _ _
  ·cases g
 | .give sh e f,n,s,s',h,k,g=>by
  unfold goR at g
  unfold xG at k
  split at g
  ·split at g
   ·rename_i w hw
    cases g
    exact zd7 h _ (Jm h.so k.2.2.1 hw)
   ·cases g
  ·cases g
 | .lt sl e,n,s,s',h,k,g=>by
  unfold goR at g
  unfold xG at k
  split at g
  ·rename_i w hw
   cases g
   exact zfi h _ (Jm h.so k.2.1 hw)
  ·cases g
 | .say e,n,s,s',h,k,g=>by
  unfold goR at g
  split at g
  ·cases g;exact zfj h _
  ·cases g
 | .off e,n,s,s',h,k,g=>by
  unfold goR at g
  split at g
  ·split at g
   ·cases g;exact h.mono (om _ _)
   ·cases g
  ·cases g
 | .iff e a b,n,s,s',h,k,g=>by
  unfold goR at g
  unfold xG at k
  have c:(Rw.iff e a b).cnt=max a.cnt b.cnt + 1:=by rw [Rw.cnt]
  rw [c]
  split at g
  ·split at g
   ·exact (Yh b h k.2.2 g).mono (by lia)
   ·exact (Yh a h k.2.1 g).mono (by lia)
  ·cases g
theorem Yh:∀ (r:Rws) {n:Nat} {s s':Sta},StOk n s→yq r→yH r s=.go s'→StOk (n + r.cnt) s'
 | .nil,n,s,s',h,k,g=>by
  unfold yH at g
  cases g
  exact h.mono (om _ _)
 | .cons r rs,n,s,s',h,k,g=>by
  unfold yH at g
  unfold yq at k
  have c:(Rws.cons r rs).cnt=r.cnt + rs.cnt:=by rw [Rws.cnt]
  rw [c]
  split at g
  ·rename_i s1 e1
   exact (Yh rs (zcG r h k.1 e1) k.2 g).mono (by lia)
  ·rename_i x hx
   exact absurd g (hx s')
end
mutual
def Xl (P:Pl→Prop):Rw→Prop
 | .give sh e _=>∀ kvs n,rk kvs e=.ok n→P (sh,n)
 | .iff _ a b=>wH P a∧wH P b
 | _=>True
def wH (P:Pl→Prop):Rws→Prop
 | .nil=>True
 | .cons r rs=>Xl P r∧wH P rs
end
inductive Oc where
 | done (sa:List Int)
 | off (why:Str)
def We:Er→Str
 | .great=>"great"
 | _=>"nought"
def vp (rws:Rws) (tab:List Row) (oc:Oc) (out:List Row):Prop:=match yH rws ⟨[],tab,[]⟩ with
 | .go s=>oc=.done s.sa∧xS s.wo out
 | .off=>oc=.off "told"∧out=tab
 | .er e=>oc=.off (We e)∧out=tab
inductive zfk:List Rws→List Row→List Oc→List Row→Prop
 | nil {tab:List Row}:zfk [] tab [] tab
 | cons {d:Rws} {ds:List Rws} {tab mid out:List Row} {oc:Oc} {ocs:List Oc}:vp d tab oc mid→zfk ds mid ocs out→zfk (d :: ds) tab (oc :: ocs) out
theorem zd8 {rows its out:List Row} (nd:(its.map (·.1)).Nodup) (hi:∀ p w,(p,w)∈its↔zr rows p=some w) (t:xS its out):xS rows out:=by
 refine ⟨t.1,fun p w=>(t.2 p w).trans ?_⟩
 rw [jS nd,hi]
def Y7:V→PyData
 | .int i=>.int i
 | .str x=>.str x
 | _=>.none
def plV (v:V):Prop:=(∃ i,v=.int i)∨∃ x,v=.str x∧b6 x=true
def jv (e:List V):PyData:=.tuple (e.map Y7)
mutual
def rwD:Rw→PyData
 | .take sh e sl=>.tuple [.str "take",.str sh,jv e,.str sl]
 | .give sh e f=>.tuple [.str "give",.str sh,jv e,jv f]
 | .lt sl e=>.tuple [.str "let",.str sl,jv e]
 | .say e=>.tuple [.str "say",jv e]
 | .off e=>.tuple [.str "off",jv e]
 | .iff e a b=>.tuple [.str "if",jv e,.list (Xm a),.list (Xm b)]
def Xm:Rws→List PyData
 | .nil=>[]
 | .cons r rs=>rwD r :: Xm rs
end
def tmP (e:List V):Prop:=∀ v∈e,plV v
mutual
def xZ:Rw→Prop
 | .take sh e sl=>b6 sh=true∧tmP e∧b6 sl=true
 | .give sh e f=>b6 sh=true∧tmP e∧tmP f
 | .lt sl e=>b6 sl=true∧tmP e
 | .say e=>tmP e
 | .off e=>tmP e
 | .iff e a b=>tmP e∧yS a∧yS b
def yS:Rws→Prop
 | .nil=>True
 | .cons r rs=>xZ r∧yS rs
end
section
variable {K:br} {H:Hp} {F:Addr→Prop}
theorem zcH {v:V} (h:plV v):Dat K H v (Y7 v):=by
 rcases h with ⟨i,rfl⟩ | ⟨x,rfl,_⟩
 ·exact .int i
 ·exact .str x
theorem VE:∀ {e:List V},tmP e→DatAll K H e (e.map Y7)
 | [],_=>.nil
 | v :: r,h=>.cons (zcH (h v bH)) (VE fun u hu=>h u (bx _ hu))
theorem wI {a:Addr} {e:List V} (h:H a=some (.tup e)) (p:tmP e):Dat K H (.ref a) (jv e):=.tup (SqT.of h) (VE p)
mutual
theorem zcI:∀ (r:Rw) {v:V},RwAt F H v r→xZ r→Dat K H v (rwD r)
 | .take sh e sl,v,h,p=>by
  unfold RwAt at h
  unfold xZ at p
  obtain ⟨r,te,rfl,f1,f2,e2,e3⟩:=h
  rw [rwD]
  exact .tup (SqT.of e2) (.cons (.str _) (.cons (.str _) (.cons (wI e3 p.2.1) (.cons (.str _) .nil))))
 | .give sh e f,v,h,p=>by
  unfold RwAt at h
  unfold xZ at p
  obtain ⟨r,te,tf,rfl,f1,f2,f3,e2,e3,e4⟩:=h
  rw [rwD]
  exact .tup (SqT.of e2) (.cons (.str _) (.cons (.str _) (.cons (wI e3 p.2.1) (.cons (wI e4 p.2.2) .nil))))
 | .lt sl e,v,h,p=>by
  unfold RwAt at h
  unfold xZ at p
  obtain ⟨r,te,rfl,f1,f2,e2,e3⟩:=h
  rw [rwD]
  exact .tup (SqT.of e2) (.cons (.str _) (.cons (.str _) (.cons (wI e3 p.2) .nil)))
 | .say e,v,h,p=>by
  unfold RwAt at h
  unfold xZ at p
  obtain ⟨r,te,rfl,f1,f2,e2,e3⟩:=h
  rw [rwD]
  exact .tup (SqT.of e2) (.cons (.str _) (.cons (wI e3 p) .nil))
 | .off e,v,h,p=>by
  unfold RwAt at h
  unfold xZ at p
  obtain ⟨r,te,rfl,f1,f2,e2,e3⟩:=h
  rw [rwD]
  exact .tup (SqT.of e2) (.cons (.str _) (.cons (wI e3 p) .nil))
 | .iff e a b,v,h,p=>by
  unfold RwAt at h
  unfold xZ at p
  obtain ⟨r,te,la,lb,xs,ys,rfl,f1,f2,f3,f4,e2,e3,e4,e5,e6,e7⟩:=h
  rw [rwD]
  exact .tup (SqT.of e2) (.cons (.str _) (.cons (wI e3 p.1) (.cons (.lst (SqL.of e4) (Jo a e5 p.2.1)) (.cons (.lst (SqL.of e6) (Jo b e7 p.2.2)) .nil))))
theorem Jo:∀ (r:Rws) {vs:List V},RwsAt F H vs r→yS r→DatAll K H vs (Xm r)
 | .nil,vs,h,p=>by
  unfold RwsAt at h
  subst h
  rw [Xm];exact .nil
 | .cons r rs,vs,h,p=>by
  unfold RwsAt at h
  unfold yS at p
  obtain ⟨v,ws,rfl,e2,e3⟩:=h
  rw [Xm]
  exact .cons (zcI r e2 p.1) (Jo rs e3 p.2)
end
end
theorem Y8:∀ {e:List V},tmP e→zR (e.map Y7)=true
 | [],_=>by simp [zR]
 | v :: r,h=>by
  rw [bW,zR,Y8 fun u hu=>h u (bx _ hu),Bool.and_true]
  rcases h v bH with ⟨i,rfl⟩ | ⟨x,rfl,hx⟩
  ·rw [Y7,zI]
  ·rw [Y7,zI];exact hx
theorem xr {e:List V} (h:tmP e):zI (jv e)=true:=by rw [jv,zI];exact Y8 h
theorem Wf:∀ (e:List V),bU (e.map Y7)=0
 | []=>by simp [bU]
 | v :: r=>by
  rw [bW,bU,Wf r]
  cases v <;> simp [Y7,cK]
theorem xT (e:List V):(jv e).depth≤1:=by rw [jv,cK,Wf];lia
theorem zcJ:b6 "take"=true:=by decide +kernel
theorem zcK:b6 "give"=true:=by decide +kernel
theorem zd9:b6 "let"=true:=by decide +kernel
theorem zea:b6 "say"=true:=by decide +kernel
theorem zaN:b6 "off"=true:=by decide +kernel
theorem zfl:b6 "if"=true:=by decide +kernel
mutual
theorem KB:∀ (r:Rw),xZ r→zI (rwD r)=true
 | .take sh e sl,p=>by unfold xZ at p;rw [rwD];simp [zI,zR,zcJ,xr p.2.1,p.1,p.2.2]
 | .give sh e f,p=>by unfold xZ at p;rw [rwD];simp [zI,zR,zcK,xr p.2.1,p.1,xr p.2.2]
 | .lt sl e,p=>by unfold xZ at p;rw [rwD];simp [zI,zR,zd9,xr p.2,p.1]
 | .say e,p=>by unfold xZ at p;rw [rwD];simp [zI,zR,zea,xr p]
 | .off e,p=>by unfold xZ at p;rw [rwD];simp [zI,zR,zaN,xr p]
 | .iff e a b,p=>by unfold xZ at p;rw [rwD];simp [zI,zR,zfl,xr p.1,YD a p.2.1,YD b p.2.2]
theorem YD:∀ (r:Rws),yS r→zR (Xm r)=true
 | .nil,_=>by rw [Xm,zR]
 | .cons r rs,p=>by unfold yS at p;rw [Xm,zR,KB r p.1,YD rs p.2];rfl
end
mutual
theorem zaO:∀ (r:Rw),(rwD r).depth≤2 * r.deep + 2
 | .take sh e sl=>by have:=xT e;rw [rwD];simp [cK,bU];lia
 | .give sh e f=>by have:=xT e;have:=xT f;rw [rwD];simp [cK,bU];lia
 | .lt sl e=>by have:=xT e;rw [rwD];simp [cK,bU];lia
 | .say e=>by have:=xT e;rw [rwD];simp [cK,bU];lia
 | .off e=>by have:=xT e;rw [rwD];simp [cK,bU];lia
 | .iff e a b=>by
  have:=xT e
  have h1:=Wg a
  have h2:=Wg b
  have c:(Rw.iff e a b).deep=max a.deep b.deep + 1:=by rw [Rw.deep]
  rw [rwD,c];simp [cK,bU];lia
theorem Wg:∀ (r:Rws),bU (Xm r)≤2 * r.deep + 2
 | .nil=>by rw [Xm];simp [bU]
 | .cons r rs=>by
  have h1:=zaO r
  have h2:=Wg rs
  have c:(Rws.cons r rs).deep=max r.deep rs.deep:=by rw [Rws.deep]
  rw [Xm,c,bU];lia
end
def Rws.snoc:Rws→Rw→Rws
 | .nil,x=>.cons x .nil
 | .cons r rs,x=>.cons r (rs.snoc x)
def Rws.app:Rws→Rws→Rws
 | .nil,x=>x
 | .cons r rs,x=>.cons r (rs.app x)
theorem RwsAt.snoc {F:Addr→Prop} {H:Hp} {v:V} {x:Rw} (hx:RwAt F H v x):∀ (r:Rws) {vs:List V},RwsAt F H vs r→RwsAt F H (vs ++ [v]) (r.snoc x)
 | .nil,vs,h=>by
  unfold RwsAt at h
  subst h
  show RwsAt F H [v] (.cons x .nil)
  unfold RwsAt
  exact ⟨v,[],rfl,hx,by unfold RwsAt;rfl⟩
 | .cons r rs,vs,h=>by
  unfold RwsAt at h
  obtain ⟨u,ws,rfl,e2,e3⟩:=h
  show RwsAt F H (u :: (ws ++ [v])) (.cons r (rs.snoc x))
  unfold RwsAt
  exact ⟨u,ws ++ [v],rfl,e2,RwsAt.snoc hx rs e3⟩
theorem RwsAt.len {F:Addr→Prop} {H:Hp}:∀ (r:Rws) {vs:List V},RwsAt F H vs r→vs.length≤r.cnt
 | .nil,vs,h=>by
  unfold RwsAt at h
  subst h
  exact b9 _
 | .cons r rs,vs,h=>by
  unfold RwsAt at h
  obtain ⟨u,ws,rfl,e2,e3⟩:=h
  have:=RwsAt.len rs e3
  have c:(Rws.cons r rs).cnt=r.cnt + rs.cnt:=by rw [Rws.cnt]
  have:1≤r.cnt:=by cases r <;> simp [Rw.cnt]
  rw [c,ck];lia
theorem RwsAt.get {F:Addr→Prop} {H:Hp}:∀ {r:Rws} {vs:List V} {i:Nat} {v:V},RwsAt F H (vs.drop i) r→vs[i]?=some v→∃ x rs,r=.cons x rs∧RwAt F H v x∧RwsAt F H (vs.drop (i + 1)) rs
 | .nil,vs,i,v,h,e=>by
  unfold RwsAt at h
  have:=(bp.mp e).1
  have:=congrArg bP h
  rw [cR] at this
  simp at this
  lia
 | .cons x rs,vs,i,v,h,e=>by
  unfold RwsAt at h
  obtain ⟨u,ws,e1,e2,e3⟩:=h
  have hi:=(bp.mp e).1
  have d:=eN hi
  rw [e1] at d
  have e4:vs[i]=v:=(bp.mp e).2
  rw [e4] at d
  injection d with d1 d2
  subst d1 d2
  exact ⟨x,rs,rfl,e2,e3⟩
theorem RwsAt.none {F:Addr→Prop} {H:Hp} {r:Rws} {vs:List V} (h:RwsAt F H (vs.drop vs.length) r):r=.nil:=by
 rw [gn] at h
 cases r with
 | nil=>rfl
 | cons x rs =>
  unfold RwsAt at h
  obtain ⟨_,_,e,_⟩:=h
  cases e
theorem Jp {x:Rw} (hx:xG x):∀ (r:Rws),yq r→yq (r.snoc x)
 | .nil,_=>by show yq (.cons x .nil);unfold yq;exact ⟨hx,by unfold yq;trivial⟩
 | .cons y r,h=>by
  unfold yq at h
  show yq (.cons y (r.snoc x))
  unfold yq
  exact ⟨h.1,Jp hx r h.2⟩
theorem Jq {x:Rw} (hx:xZ x):∀ (r:Rws),yS r→yS (r.snoc x)
 | .nil,_=>by show yS (.cons x .nil);unfold yS;exact ⟨hx,by unfold yS;trivial⟩
 | .cons y r,h=>by
  unfold yS at h
  show yS (.cons y (r.snoc x))
  unfold yS
  exact ⟨h.1,Jq hx r h.2⟩
theorem Jr {P:Pl→Prop} {x:Rw} (hx:Xl P x):∀ (r:Rws),wH P r→wH P (r.snoc x)
 | .nil,_=>by show wH P (.cons x .nil);unfold wH;exact ⟨hx,by unfold wH;trivial⟩
 | .cons y r,h=>by
  unfold wH at h
  show wH P (.cons y (r.snoc x))
  unfold wH
  exact ⟨h.1,Jr hx r h.2⟩
theorem YE (x:Rw):∀ (r:Rws),(r.snoc x).deep=max r.deep x.deep
 | .nil=>by show (Rws.cons x .nil).deep=_;simp [Rws.deep]
 | .cons y r=>by
  show (Rws.cons y (r.snoc x)).deep=_
  rw [Rws.deep,Rws.deep,YE x r];lia
theorem zcL {v:V} (h:jR v) (j:isJ v=false):TermOk [v] :=
 ⟨fun kvs=>⟨_,zbk j⟩,fun u hu=>by rw [bD.mp hu];exact h,by simp⟩
theorem Paired.snocP {α β:Type} {F:α→β→Prop} {x:α} {y:β}:∀ {a:List α} {b:List β},Paired F a b→F x y→Paired F (a ++ [x]) (b ++ [y])
 | _,_,.nil,h=>.cons h .nil
 | _,_,.cons a r,h=>.cons a (Paired.snocP r h)
theorem Paired.getP {α β:Type} {F:α→β→Prop} {a:List α} {b:List β} {i:Nat} {x:α} (h:Paired F a b) (e:a[i]?=some x):∃ y,b[i]?=some y∧F x y:=by
 have hi:=(bp.mp e).1
 have l:=cy h
 exact ⟨b[i],bg (by lia),ym h e (bg (by lia))⟩
theorem FnOkH.mono {P:Program} {w:World} {K:br} {mg:Str→Option Value} {base:Heap} {j k:Nat} {f:Addr} {fd:FuncData} {ps:List Str} {sp:Sp} (F:FnOkH P w K mg base j f fd ps sp) (h:j≤k):FnOkH P w K mg base k f fd ps sp :=
 ⟨F.len,fun A outer s H args us vs Q E hr he hb hv hs=>F.run A outer s H args us vs Q E (hr.mono h) he hb hv hs⟩
end L2
namespace L2
open PySem PySem.Spec PyProof.Rows
end L2
namespace L2
open PySem PySem.Spec PyProof.Rows
theorem zfm {c:Nat}:∀ {a b r s:List Nat},c ∉ a→c ∉ b→a ++ c :: r=b ++ c :: s→a=b∧r=s
 | [],[],r,s,_,_,h=>by simpa using h
 | [],y :: b,r,s,_,hb,h=>by
  simp only [cj,cb,bq] at h
  exact absurd h.1 (fun z=>hb (by rw [z];exact bH))
 | x :: a,[],r,s,ha,_,h=>by
  simp only [cj,cb,bq] at h
  exact absurd h.1.symm (fun z=>ha (by rw [z];exact bH))
 | x :: a,y :: b,r,s,ha,hb,h=>by
  simp only [cb,bq] at h
  obtain ⟨e1,e2⟩:=zfm (fun z=>ha (bx _ z)) (fun z=>hb (bx _ z)) h.2
  exact ⟨by rw [h.1,e1],e2⟩
end L2
namespace L2
open PySem PySem.Spec PyProof.Rows
section
variable {prog:Program} {w:World} {A:Around} {E:Value→Shared→Prop} {s:Shared}
theorem KC {l:Addr} {items:Array Value} {n:Nat} {k:Int} {t:Tok} {v:Value} {Q:Unit→Shared→Prop} (hl:s.heap.get? l=some { cls:=.type "list",data:=.seq items n })
  (h0:k < 0) (h1:-(items.size:Int)≤k) (hfit:-(2 ^ 63)≤k) (hQ:Q () { s with heap:=s.heap.update l (de (·.setIfInBounds (k + items.size).toNat v)) }) :
  wpAny (model prog w) A (setItem (.ref l) (.int k t) v) Q E s:=by
 have hL:s.heap.IsList l items:=⟨_,hl,rfl,n,rfl⟩
 unfold setItem
 try with_reducible refine dM ?_
 first | refine ba (bj ?_) | skip
 refine ba (wpAny_sequenceKey hL.typeIs (by decide) ?_)
 refine ba (dg (name:=bb "__setitem__") hL.typeIs gT
  (cN gT hL.typeIs entry_list_setitem ?_ (args_list_setitem _ _ _)))
 show wpAny _ _ (i5 (.int k t) >>= _) _ _ s
 refine ba (mh (fitsIndex_neg h0 hfit) ?_)
 clear hfit
 have hidx:=nX h0 h1
 have hx:items[(k + items.size).toNat]?=some (items[(k + items.size).toNat]'(by lia)):=cw (by lia)
 obtain ⟨j,rfl⟩:∃ j:Nat,k=Int.negSucc j:=by
  cases k with
  | ofNat n=>exact absurd h0 (Int.not_lt.mpr (Int.ofNat_nonneg n))
  | negSucc n=>exact ⟨n,rfl⟩
 show wpAny _ _ ((gK (.ref l) >>= fun xs=>pure ((seqIndex? (Int.negSucc j) xs.size).bind fun i=>xs[i]?.map (i,·))) >>= _) _ _ s
 refine ba (ba ?_)
 show wpAny _ _ (seqItems? (.ref l) >>= _) _ _ s
 refine ba (wpAny_seqItems hl rfl (bj (bj ?_)))
 rw [hidx]
 simp only [Option.bind_some,hx,gE]
 refine ba (wpAny_setSeqItemAt hl rfl ?_)
 first
  | exact ba (bj (bj ⟨.none,rfl,bj hQ⟩))
  | exact bj ⟨.none,rfl,bj hQ⟩
theorem KD {l:Addr} {items:Array Value} {n j:Nat} {k:Int} {t:Tok} {v:Value} {Q:Unit→Shared→Prop} (hl:s.heap.get? l=some { cls:=.type "list",data:=.seq items n })
  (h0:0≤k) (hfit:k < 2 ^ 63) (hkj:k.toNat=j) (hn:j < items.size) (hQ:Q () { s with heap:=s.heap.update l (de (·.setIfInBounds j v)) }) :
  wpAny (model prog w) A (setItem (.ref l) (.int k t) v) Q E s:=by
 have hL:s.heap.IsList l items:=⟨_,hl,rfl,n,rfl⟩
 unfold setItem
 try with_reducible refine dM ?_
 first | refine ba (bj ?_) | skip
 refine ba (wpAny_sequenceKey hL.typeIs (by decide) ?_)
 refine ba (dg (name:=bb "__setitem__") hL.typeIs gT
  (cN gT hL.typeIs entry_list_setitem ?_ (args_list_setitem _ _ _)))
 show wpAny _ _ (i5 (.int k t) >>= _) _ _ s
 refine ba (mh (fitsIndex_of h0 hfit) ?_)
 clear hfit
 obtain ⟨j',rfl⟩:=Int.eq_ofNat_of_zero_le h0
 have hkj:j'=j:=hkj
 subst hkj
 have hx':items[j']?=some items[j']:=cw hn
 show wpAny _ _ ((seqItemAt l j' >>= fun r=>pure (r.map (j',·))) >>= _) _ _ s
 refine ba (ba (wpAny_seqItemAt hl rfl (bj ?_)))
 rw [hx']
 refine ba (wpAny_setSeqItemAt hl rfl ?_)
 first
  | exact ba (bj (bj ⟨.none,rfl,bj hQ⟩))
  | exact bj ⟨.none,rfl,bj hQ⟩
end
def zaP (td ty tv:TE):TS:=fun D σ H=>tv σ H fun v H1=>td σ H1 fun x H2=>ty σ H2 fun y H3=>∃ a xs i j,x=.ref a∧y=.int i∧H3 a=some (.lst xs)∧ixN xs.length i=some j∧(-1000≤i∧i≤1000)∧D.nx σ (upd H3 a (.lst (xs.set j v)))
theorem KG {v:V} {u:Value} (r:RelV v u):∀ {xs:List V} {us:List Value},Vals xs us→∀ j:Nat,Vals (xs.set j v) (us.set j u)
 | _,_,.nil,_=>.nil
 | _,_,.cons _ t,0=>.cons r t
 | _,_,.cons a t,j + 1=>.cons a (KG r t j)
section
variable {X:Cx} {o i value:Expr} {pos pos':Pos} {td ty tv:TE}
theorem zaQ (ho:PE X o td) (hi:PE X i ty) (hv:PE X value tv) (hs:swapsWith value (some (.Subscript o i pos')) pos.line X.env=pure false) :
  PS X (.Assign [.Subscript o i pos'] value pos) (zaP td ty tv):=by
 intro pins s σ H D I h
 refine mE (thn (hv pins s σ H _ I h) fun r s1 ⟨v,H1,I1,rv,q1⟩=>thn (ho pins s1 σ H1 _ I1 q1) fun u s2 ⟨x,H2,I2,rx,q2⟩=>thn (hi pins s2 σ H2 _ I2 q2) fun iv s3 ⟨y,H3,I3,ry,a,xs,k,j,ex,ey,ea,hj,hk,q3⟩=>?_) hs
 subst ex ey
 obtain rfl:u=bL a:=rx
 obtain ⟨t,rfl⟩:=ry
 obtain ⟨z,its,n,rl,hl,e⟩:=I3.lstM ea
 have fin:SP X pins D .next { s3 with heap:=s3.heap.update a (de (·.setIfInBounds j r)) }:=⟨σ,_,I3.lset (its':=its.set j r) (t':=s3.toks) ea e (by simp) (KG rv rl _) (by rw [List.length_set];exact z),q3⟩
 unfold ixN at hj
 by_cases h0:0≤k
 ·rw [if_pos h0] at hj
  split at hj
  ·rename_i h1
   cases hj
   exact KD e h0 (by lia) rfl (by rw [bJ,← hl];lia) fin
  ·cases hj
 ·rw [if_neg h0] at hj
  split at hj
  ·rename_i h1
   cases hj
   refine KC e (by lia) (by rw [bJ,← hl];exact h1) (by lia) ?_
   rw [bJ,← hl]
   exact fin
  ·cases hj
end
end L2
namespace L2
open PySem PySem.Spec PyProof.Rows
section
variable {X:Cx}
abbrev QO (K:br):R2:=fun x y H Q=>∃ a b xs,x=.ref a∧y=.ref b∧SqL K H a xs∧SqL K H b []∧Q (.bl (!decide (xs=[]))) H
theorem zcM (hu:X.A.units + 64 < cLine):OpR X (compareOp .NotEq) (QO X.K):=by
 intro pins s σ H x y v u Q I rx ry h
 obtain ⟨a,b,xs,rfl,rfl,ha,hb,q⟩:=h
 by_cases e:xs=[]
 ·subst e
  exact zfc hu pins s σ H _ _ v u Q I rx ry ⟨a,b,[],[],rfl,rfl,ha,hb,⟨rfl,rfl,rfl⟩,q⟩
 ·cases rx
  cases ry
  obtain ⟨us,r1,p1,_⟩:=I.list ha
  obtain ⟨ws,r2,p2,_⟩:=I.list hb
  cases r2
  have e1:=r1.length
  have e2:xs.length≠0:=fun z=>e (fj z)
  rw [decide_eq_false e] at q
  exact PySem.SeqAt.RcNeAt.lists_lengths p1.isList p2.isList (by simp;intro z;rw [z] at e1;exact e2 e1) (by lia) X.prog X.w X.xe _ ⟨.bl true,H,I,rfl,q⟩
end
mutual
inductive zcN (H:Hp):V→PyData→Prop
 | int (i:Int):zcN H (.int i) (.int i)
 | str (x:Str):zcN H (.str x) (.str x)
 | lst {a:Addr} {xs:List V} {ds:List PyData}:H a=some (.lst xs)→KH H xs ds→zcN H (.ref a) (.list ds)
 | tup {a:Addr} {xs:List V} {ds:List PyData}:H a=some (.tup xs)→KH H xs ds→zcN H (.ref a) (.tuple ds)
inductive KH (H:Hp):List V→List PyData→Prop
 | nil:KH H [] []
 | cons {x:V} {d:PyData} {xs:List V} {ds:List PyData}:zcN H x d→KH H xs ds→KH H (x :: xs) (d :: ds)
end
end L2
namespace L2
open PySem
end L2
namespace L2
open PySem
abbrev KI:RM:=zaj
end L2
namespace L2
open PySem PySem.Spec PyProof.Rows
end L2
namespace L2
open PySem PySem.Spec PyProof.Rows
section
variable {X:Cx}
open Classical in
noncomputable def zgj (K:PySem.W.Frag) (H:Hp) (d:PyData) (u:Value):Bool:=decide (∃ x,RelV x u∧Dat K H x d)
open Classical in
end
abbrev zcO (K:br):RC:=fun vs H Q=>∃ r xs its,vs=[.ref r]∧SqL K H r xs∧Paired (PrAt H) xs its∧(its.map (·.1)).Nodup∧its.length < 1000 ∧
 ∀ l ys srt H',Same H H'→H l=none→H' l=some (.lst ys)→Paired (PrAt H') ys srt→Rising srt→srt.Perm its→Q (.ref l) H'
section
variable {X:Cx}
theorem Js (hc:X.calm=true) (hu:X.A.units + 3 < cLine):kR X (.builtin "sorted") (zcO X.K):=by
 intro pins s σ H vs us Q I r0 h
 obtain ⟨r,xs,its,rfl,hq,pr,nd,h64,q⟩:=h
 obtain ⟨u,rfl,ru⟩:=Y0 r0
 cases ru
 obtain ⟨vs,rv,⟨o,n,ho,oc,_,od⟩,hz⟩:=I.list hq
 have so:=ZC nd
 have l1:=cy pr
 have l2:=rv.length
 have vat:∀ {h:Heap},(∀ b o,s.heap.get? b=some o→h.get? b=some o)→∀ (i:Nat) (q:Row),its[i]?=some q→∃ v,vs[i]?=some v∧RvAt h v q:=fun {h} k i q hq=>by
  have hi:=(bp.mp hq).1
  obtain ⟨y,hy⟩:∃ y,xs[i]?=some y:=⟨_,bg (by lia)⟩
  obtain ⟨u,hu',ru⟩:=rv.get hy
  exact ⟨u,hu',(zeM I (ym pr hy hq) ru).keep k⟩
 refine Y6 (vs:=vs) (κ:=tuples' false) (lt:=fun i j=>zX ((its.map (·.1)).getD i (("",0):Pl)) ((its.map (·.1)).getD j (("",0):Pl))) (by lia) (by rw [show vs.length=(its.map (·.1)).length by rw [bB];lia];exact so) (fun R hR=>?_) (fun h2 h tk Q' k q'=>?_) (fun h tk i j C k hi hj hij q'=>?_) fun h tk h' p c k1 k2 hD hp hr=>?_
 ·refine wpAny_collect_seq r (.inl rfl) ho oc od (fun h' k=>?_) (by rw [bJ];exact cf (by lia:_≤1000) (by decide))
  have e:({ s with heap:=h' }:Shared)={ s with heap:=h',toks:=s.toks }:=rfl
  rw [e]
  exact hR h' s.toks k
 ·refine Kx (s:={ s with heap:=h,toks:=tk }) (qs:=its) (by lia) (fun i v q hv hq=>?_) (by lia) q'
  obtain ⟨v',hv',rr⟩:=vat k i q hq
  rw [hv] at hv'
  cases hv'
  exact rr
 ·have e1:its[i]?=some its[i]:=bg (by lia)
  have e2:its[j]?=some its[j]:=bg (by lia)
  obtain ⟨v1,g1,r1⟩:=vat k i _ e1
  obtain ⟨v2,g2,r2⟩:=vat k j _ e2
  have n1:(its.map (·.1)).getD i (("",0):Pl)=its[i].1:=by rw [bo,bQ,e1];rfl
  have n2:(its.map (·.1)).getD j (("",0):Pl)=its[j].1:=by rw [bo,bQ,e2];rfl
  have m1:vs.getD i cD=v1:=by rw [bo,g1];rfl
  have m2:vs.getD j cD=v2:=by rw [bo,g2];rfl
  simp only [n1,n2] at q'
  have key:=zaL (P:=X.prog) (w:=X.w) (A:=X.A.in1.in1) (E:=fun _ _=>False) (s:={ s with heap:=h,toks:=tk }) (Q:=C) (by have e:X.A.in1.in1.units=X.A.units + 2:=rfl;lia) r1 r2 q' fun z=>hij (by
   have e3:(its.map (·.1))[i]?=some its[i].1:=by rw [bQ,e1];rfl
   have e4:(its.map (·.1))[j]?=some its[j].1:=by rw [bQ,e2];rfl
   rw [z] at e3
   exact (lT (by rw [bB];lia) nd).mp (e3.trans e4.symm))
  rw [← m1,← m2] at key
  exact key
 ·have I1:Inv X pins σ H { s with heap:=h,toks:=tk }:=I.kept k1
  have hp':PP its.length p:=by rw [show its.length=vs.length by lia];exact hp
  have fr:H h.objs.size=none:=I1.hok.fresh (bu _)
  have sz:=hp'.size
  have pk:=wG pr V.non d0 (is:=p.toList) fun i hi=>by have:=hp'.lt i hi;lia
  have vk:Vals (p.toList.map fun i=>xs.getD i V.non) (wF vs p):=wG rv V.non cD (is:=p.toList) fun i hi=>by have:=hp'.lt i hi;lia
  have I2:Inv X pins σ (upd H h.objs.size (.lst (p.toList.map fun i=>xs.getD i V.non))) { s with heap:=h',toks:=tk }:=I1.laid (s:={ s with heap:=h,toks:=tk }) (a:=h.objs.size) (o:=.lst (p.toList.map fun i=>xs.getD i V.non)) (t':=tk) k2 (bu _)
   ⟨by rw [bB,cm];exact cf (by lia:_≤1000) (by decide),wF vs p,c,vk,hD⟩
  have S2:Same H (upd H h.objs.size (.lst (p.toList.map fun i=>xs.getD i V.non))):=isV _ fr
  have mono:∀ {us:List V} {ws:List Row},Paired (PrAt H) us ws→Paired (PrAt (upd H h.objs.size (.lst (p.toList.map fun i=>xs.getD i V.non)))) us ws:=fun {us ws} h=>by
   induction h with
   | nil=>exact .nil
   | cons a _ ih =>
    obtain ⟨r,p,e,h1,h2⟩:=a
    exact .cons ⟨r,p,e,S2 _ _ h1,S2 _ _ h2⟩ ih
  refine ⟨.ref h.objs.size,_,I2,rfl,q _ _ (p.toList.map fun i=>its.getD i d0) _ S2 fr zf (mono pk) ?_ ?_⟩
  ·have hr':X3 (fun i j=>zX ((its.map (·.1)).getD i (("",0):Pl)) ((its.map (·.1)).getD j (("",0):Pl))) p its.length:=by rw [show its.length=vs.length by lia];exact hr
   have pw:=Wd (F:=zX) hp' hr'
   have eq:(p.toList.map fun i=>its.getD i d0).map (·.1)=p.toList.map fun i=>(its.map (·.1)).getD i (("",0):Pl):=by
    rw [gB]
    refine gr fun i hi=>?_
    have hi:=hp'.lt i hi
    simp [bo,bQ,bg hi]
   rw [← eq,eh] at pw
   exact pw
  ·refine (hp'.list.map _).trans ?_
   rw [Wc]
end
def Cb (i:Int):Prop:=iS i≤1048576
open Att PySem.W PySem.Calls in
theorem zcP {l:nD} {n k:Nat} {q:Program} {loose:List Str} {XP:(Str→Option Value)→Heap→Prop} {YP:World→Heap→Prop} {d:DefRec} {K:Params→br} {CX:World→CXT} {sp:World→Sp} {x:Str}
  (hn:l.most=some n) (hn2:n≤sizeLine) (hdf:d.params.defaults=[]) (hr:Room k callerA) (hY:∀ (w:World) (h:Heap),YP w h→(K w.params).In h)
  (F:∀ (w:World) (mg:Str→Option Value) (fa:Addr) (h:Heap),(K w.params).In h→h.Ns mainGlobals mg→mg d.name=some (.ref fa) →
   ∃ fd:FuncData,(∀ (s:Shared) (u:Value),BindsTo s fd ⟨[u],[]⟩ [(x,u)]) ∧
    ∀ base:Heap,(K w.params).In base→base.Ns mainGlobals mg→FnOk l.prog w (K w.params) mg base (CX w) k fa fd [x] (sp w))
  (hsp:∀ (w:World) (H:Hp) (a:Addr) (ns:List Int),ns.length≤n→(∀ i∈ns,Cb i)→Qz H→SqL (K w.params) H a (ns.map V.int)→sp w [.ref a] H (fun v _=>v=.bl true) fun _ _ _=>False)
  (hCX:∀ (w:World) (H:Hp) (s:Shared) (e:Value) (s':Shared),CX w [] H s (fun _ _ _=>False) e s'→False) :
  oM q loose XP YP l.row.toRowW d [] (fun f vs=>lM f vs):=by
 intro w s₀ s₁ mg mb G Y fa o pm cd doc dV kV ho hd hcd hD hmg hg args vals as hpre hlay hrd hwl hlo
 obtain rfl:dV=.none:=Dflts.none hD hdf
 obtain rfl:kV=.none:=Dflts.noKw hD
 obtain ⟨a,vs,ns,rfl,rfl,hobj,hints,hlen⟩:=Vo hn hpre hwl
 have hb:∀ i∈ns,Cb i:=fun i hi=>intBits_le_of_layable (layable_of_mem (lay0_int (layableW_item (layableW_arg hlay _ bH) _ (cG.mpr ⟨i,hi,rfl⟩))) bH)
 have KX:=hY w _ Y
 obtain ⟨fd,hbd,hF⟩:=F w mg fa _ KX G.T.g hmg
 refine enter_call (eI (J6 KX G.T.g G.T.b G.T.builtins G.T.nolimit hg hobj hints (cf hlen hn2) hr hF hbd (fun H hO hS=>hsp w H a ns hlen hb hO hS) fun H e s'=>hCX w H s₁ e s') fun r s' hq=>?_)
 obtain ⟨rfl,h2,h3,h4⟩:=hq
 exact ⟨.inl ⟨.bool true,.bool true,[],rfl,fun _=>rfl,.bool true,Vp l _,fun _=>⟨lN,fun _ hm=>(nomatch hm)⟩⟩,h2,h3,h4⟩
theorem zfK {l:nD} {n k:Nat} {q:Program} {loose:List Str} {XP:(Str→Option Value)→Heap→Prop} {YP:World→Heap→Prop} {d:DefRec} {K:Params→br} {sp:br→Sp} {x:Str}
  (hn:l.most=some n) (hn2:n≤sizeLine) (hdf:d.params.defaults=[]) (hr:Room k callerA) (hY:∀ (w:World) (h:Heap),YP w h→(K w.params).In h)
  (F:∀ (w:World) (mg:Str→Option Value) (fa:Addr) (h:Heap),(K w.params).In h→h.Ns mainGlobals mg→mg d.name=some (.ref fa) →
   ∃ fd:FuncData,(∀ (s:Shared) (u:Value),BindsTo s fd ⟨[u],[]⟩ [(x,u)]) ∧
    ∀ base:Heap,(K w.params).In base→base.Ns mainGlobals mg→FnOk l.prog w (K w.params) mg base (CX1 l.prog w) k fa fd [x] (sp (K w.params)))
  (hsp:∀ (K:br) (H:Hp) (a:Addr) (ns:List Int),ns.length≤n→(∀ i∈ns,Cb i)→Qz H→SqL K H a (ns.map V.int)→sp K [.ref a] H (fun v _=>v=.bl true) fun _ _ _=>False) :
  oM q loose XP YP l.row.toRowW d [] (fun f vs=>lM f vs) :=
 zcP (K:=K) (CX:=fun w=>CX1 l.prog w) (sp:=fun w=>sp (K w.params)) hn hn2 hdf hr hY F (fun w H a ns h1 hb h2 h3=>hsp (K w.params) H a ns h1 hb h2 h3) fun _ _ _ _ _ z=>by
  obtain ⟨_,_,_,_,_,_,_,_,_,y⟩:=z
  exact y
end L2
namespace L2
open PySem PySem.Spec PyProof.Rows
end L2
namespace L2
open PySem PySem.Spec PyProof.Rows
end L2
namespace L2
open PySem PySem.Spec PyProof.Rows
end L2
namespace L2
open PySem PySem.Spec PyProof.Rows
end L2
namespace L2
open PySem PySem.Spec PyProof.Rows
structure FunD (K:br) (x qual:Str) (st:Stmt) (f:Addr) (fd:FuncData):Prop where
 ex:∃ (oc:Value) (od:Option Addr) (dV kV doc pm:Value) (an:Option Addr) (cdv ct:Value) (osl:Array (Option Value)),fd=ie x qual (xj st) (yC st) (zk st) dV kV doc pm an cdv ct∧K.lookup f=some ⟨oc,od,.func fd,osl⟩∧gW K cdv qual=true
 kp:eW K (.ref f)=true
section
variable {P:Program} {w:World} {K:br} {mg:Str→Option Value} {base:Heap} {x qual:Str} {st:Stmt} {f:Addr} {fd:FuncData} {N ps:List Str} {k:Nat} {sp:Sp}
theorem FunD.ok1 (F:FunD K x qual st f fd) (S:zD N ps (zk st)) (len:∀ vs H Q E,sp vs H Q E→vs.length=ps.length)
  (hbody:∀ (cdv:Value) (A:Around) (outer:List Env) (s:Shared) (H:Hp) (vs:List V) (Q:VK) (E:XK),Room k (A.deeper (envOfC qual (zk st) s.heap.objs.size f cdv))→sp vs H Q E→∃ t,PSs (kI (CX1 P w) P w K mg base N qual (zk st) f cdv A outer s H E) (yC st) t∧t { nx:=fun _ H'=>Q .non H',rt:=Q } (start N vs) H):FnOk P w K mg base (CX1 P w) (k + 1) f fd ps sp:=by
 obtain ⟨oc,od,dV,kV,doc,pm,an,cdv,ct,osl,rfl,lk,hcd⟩:=F.ex
 exact zeE lk hcd S len fun A outer s H vs Q E hr hsp=>hbody cdv A outer s H vs Q E hr hsp
theorem FunD.ok0 (F:FunD K x qual st f fd) (S:zD N ps (zk st)) (len:∀ vs H Q E,sp vs H Q E→vs.length=ps.length)
  (hbody:∀ (cdv:Value) (A:Around) (outer:List Env) (s:Shared) (H:Hp) (vs:List V) (Q:VK) (E:XK),Room k (A.deeper (envOfC qual (zk st) s.heap.objs.size f cdv))→sp vs H Q E→∃ t,PSs (kI (CX1 P w) P w K mg base N qual (zk st) f cdv A outer s H E).nox (yC st) t∧t { nx:=fun _ H'=>Q .non H',rt:=Q } (start N vs) H):FnOk P w K mg base (CX1 P w) (k + 1) f fd ps sp :=
 F.ok1 S len fun cdv A outer s H vs Q E hr h=>let ⟨t,a,b⟩:=hbody cdv A outer s H vs Q E hr h;⟨t,a.nox,b⟩
theorem zeb {oc:Value} {od an:Option Addr} {osl:Array (Option Value)} {dV kV doc pm cdv ct:Value} (l:K.lookup f=some ⟨oc,od,.func (ie x qual (xj st) (yC st) (zk st) dV kV doc pm an cdv ct),osl⟩)
  (c:gW K cdv qual=true) (k:eW K (.ref f)=true):FunD K x qual st f (ie x qual (xj st) (yC st) (zk st) dV kV doc pm an cdv ct):=⟨⟨oc,od,dV,kV,doc,pm,an,cdv,ct,osl,rfl,l,c⟩,k⟩
end
section
variable {X:Cx} {o value:Expr} {f:Str} {pos pos':Pos} {ta:TE} {tx:EXK→TE}
def zcQ (K:br) (ta:TE) (tx:EXK→TE) (f:Str) (EX:EXK):TS:=kU K ta (tx EX) f
theorem zec (ha:PE X.nox o ta) (hv:PEX X value tx) (hs:swapsWith value (some (.Attribute o f pos')) pos.line X.env=pure false):PSX X (.Assign [.Attribute o f pos'] value pos) (zcQ X.K ta tx f):=by
 intro pins s σ H D EX I h
 refine gO (thn (hv pins s σ H _ EX I h) fun u s1 ⟨y,H1,I1,ry,q⟩=>db (ha pins s1 σ H1 _ (I1.wish _) q) (fun ov s2 ⟨x,H2,I2',rx,a,C,dx,fs,ex,ea,c,n,l,q2⟩=>?_) fun _ _ z=>cI z) hs
 subst ex
 obtain rfl:ov=bL a:=rx
 exact XR I2'.unwish ea c n l ry fun s3 I3=>⟨σ,_,I3,q2⟩
end
def zeN (K:br) (tb:EXK→TS) (C1 C2:Addr) (th:TS):TS:=fun D σ H=>tb (fun cls σ1 H1=>∃ C,cls=.ref C∧on K (.ref C) [.ref C1,.ref C2]=some true∧th D σ1 H1) D σ H
theorem zcR {base h:Heap} {l:List Env} {e:Addr} {cls a0:Value} (x:Heap.FlyingW base l e cls a0 h) (o:Obj):Heap.FlyingW base l e cls a0 (h.push o):=by
 obtain ⟨f1,f2,f3,oe,vs,T,oT,ts,a1,a2,a3,a4,a5,a6,a7,a8,a9⟩:=x
 exact ⟨fun b u q=>bn _ (f1 b u q),f2,f3.of_keeps (fun b u q _=>⟨u,bn _ q,rfl⟩),oe,vs,T,oT,ts,bn _ a1,a2,a3,a4,a5,a6,bn _ a7,a8,a9⟩
section
variable {X:Cx} {st b₀:Stmt} {suite:List Stmt} {tb:EXK→TS} {th:TS} {c1 c2:Str} {C1 C2:Addr} {np np2 hpos tpos pos:Pos} {x1:Nat}
theorem zed (hst:X.stack=X.env :: X.outer∧X.env.frame=some X.env.locals) (hex:X.ex=[]) (hb:PSX X st tb) (hg1:Gl X c1) (hm1:X.mg c1=some (.ref C1)) (hg2:Gl X c2) (hm2:X.mg c2=some (.ref C2))
  (hs:∀ e,PSs (X.sub e) (b₀ :: suite) th) (hdb1:(c1 == ("__debug__":Str))=false:=by decide) (hdb2:(c2 == ("__debug__":Str))=false:=by decide) :
  PS X (.Try [st] [.ExceptHandler (some (.Tuple [.Name c1 np,.Name c2 np2] x1 tpos)) none (b₀ :: suite) hpos] [] [] pos) (zeN X.K tb C1 C2 th):=by
 intro pins s σ H D I h
 refine wpAny_Try_except (iq (db (hb pins s σ H D _ I h) (fun f s1 q=>?_) fun ev s1 q=>?_))
 ·cases f with
  | next=>exact et (et q)
  | ret v=>exact q
  | brk=>exact q
  | cont=>exact q
 obtain ⟨e,cls,σ1,s0,H0,H1,rfl,I0,I1,xf,C,rfl,hx,hth⟩:=q
 obtain ⟨oe,vs,a0,T,oT,ts,h1,h2,h3,h4,h5,h6,h7,h8,h9,h10,h11,h12⟩:=xf
 have fr:s1.heap.FunFrames (fX s1.heap (frs X.stack ++ [e,T])) (X.env :: X.outer):=by
  have q:=ir (as:=frs X.stack ++ [e,T]) I1.stack fun env he a ha=>cZ _ (fq.mpr ⟨env,he,ha⟩)
  rw [hst.1] at q ⊢
  exact q
 have two:∀ b∈[e,T],s0.heap.get? b=none∧H1 b=none:=fun b z=>by
  have z':b=e∨b=T:=by simpa using z
  rcases z' with rfl | rfl
  ·exact ⟨h9,h11⟩
  ·exact ⟨h10,h12⟩
 have hcs:∀ b∈[e,T],H1 b=none∧X.s₀.heap.get? b=none:=fun b z=>⟨(two b z).2,jr (I0.there0 hex) (two b z).1⟩
 have hcp:∀ b∈[e,T],∀ p∈X.pn ++ pins,p.1≠b:=fun b z p hp q=>by
  have:=(I0.pin p hp).1
  rw [q,(two b z).1] at this;cases this
 refine wpAny_looks_onW (base:=fX s1.heap (frs X.stack ++ [e,T])) (a0:=a0) (cls:=.ref C) (by rw [I1.ok.frames,hst.1]) hst.2
  ⟨fun b o q=>i9 _ q,fk _ (bV _ (by simp)),fr,oe,vs,T,oT,ts,h1,h2,h3,h4,fk _ (bV _ (by simp)),h5,h6,h7,h8⟩ fun g4 held4 sm4=>?_
 refine wpAny_landsW held4 fun g5 fly5 sm5=>?_
 have hB:∀ {g:Heap},(fX s1.heap (frs X.stack ++ [e,T])).StaysIn g→∀ b o,s1.heap.get? b=some o→b ∉ frs X.stack→b ∉ [e,T]→g.get? b=some o :=
  fun {g} k b o q n1 n2=>k b o (iC _ q fun z=>(bz.mp z).elim n1 n2)
 have I5:Inv X pins σ1 H1 { s1 with heap:=g5 }:=I1.land hex hcs hcp (hB fly5.1) (sm4.trans sm5)
 refine iZ (io ?_) (by intro q;cases q)
 refine wpAny_Tuple_spliced (ft (wZ (X:=X.sub e) (I5.toSub (e:=e)) hg1 hm1 (ft (wZ (X:=X.sub e) (I5.toSub (e:=e)) hg2 hm2 (lJ ⟨(by show 2≤sizeLine;decide),?_⟩) hdb2)) hdb1))
 have fly6:=zcR fly5 { cls:=.type "tuple",data:=.seq [bL C1,bL C2].toArray }
 have kp:∀ b o,g5.get? b=some o→(g5.push { cls:=.type "tuple",data:=.seq [bL C1,bL C2].toArray }).get? b=some o:=fun b o q=>bn _ q
 have hp:(g5.push { cls:=.type "tuple",data:=.seq [bL C1,bL C2].toArray }).get? g5.objs.size=some { cls:=.type "tuple",data:=.seq [bL C1,bL C2].toArray }:=bC _ rfl
 have K6:X.K.In (g5.push { cls:=.type "tuple",data:=.seq [bL C1,bL C2].toArray }):=(I5.kept (t':=s1.toks) kp).kIn
 have ty6:W.Looks (model X.prog X.w) (g5.push { cls:=.type "tuple",data:=.seq [bL C1,bL C2].toArray }) (typeOf (.ref e)) (.ref C):=by
  obtain ⟨o,p1,p2⟩:=fly6.there
  exact p2 ▸ (oH p1).andThen .now
 refine (W.exm_tup2 K6 ty6 hp hx).here ?_
 refine mG (lands_againW fly6 fun g7 fly7 sm7=>?_)
 have I7:Inv X pins σ1 H1 { s1 with heap:=g7 }:=I1.land hex hcs hcp (hB fly7.1) (((sm4.trans sm5).trans (Heap.UpToSlots.of_keeps kp)).trans sm7)
 refine db (hs e pins _ σ1 H1 D I7.toSub hth) (fun f s9 q=>?_) fun _ _ z=>cI z
 cases f with
 | next=>obtain ⟨σ9,H9,J,z⟩:=q;exact ⟨σ9,H9,Inv.ofSub (J:=I) J,z⟩
 | brk=>obtain ⟨σ9,H9,J,z⟩:=q;exact ⟨σ9,H9,Inv.ofSub (J:=I) J,z⟩
 | cont=>obtain ⟨σ9,H9,J,z⟩:=q;exact ⟨σ9,H9,Inv.ofSub (J:=I) J,z⟩
 | ret u=>obtain ⟨v,σ9,H9,J,r,z⟩:=q;exact ⟨v,σ9,H9,Inv.ofSub (J:=I) J,r,z⟩
end
end L2
namespace L2
open PySem PySem.Spec PyProof.Rows
abbrev zfn:R2:=fun x y H Q=>∃ a b p r,x=.ref a∧y=.ref b∧H a=some (.tup [.str p.1,.int p.2])∧H b=some (.tup [.str r.1,.int r.2])∧Q (.bl (zX p r)) H
section
variable {X:Cx}
open PySem.SeqAt
open PySem.AutoSeq1 (wpAny_loadPart')
open PySem.MeetsSeq PySem.MeetsSeq2 PySem.MeetsSeq3
theorem zfo (hu0:X.A.units + 64 < cLine):OpR X (compareOp .Lt) zfn:=by
 intro pins s σ H x y v u Q I rx ry h
 obtain ⟨a,b,p,r,rfl,rfl,ha,hb,q⟩:=h
 have hu:X.A.units < cLine:=by lia
 cases rx
 cases ry
 obtain ⟨p1,o,t,u,n,e1,ho,hc,hd⟩:=Yd I ha
 obtain ⟨p2,o2,t2,u2,n2,e2,ho2,hc2,hd2⟩:=Yd I hb
 cases e1
 cases e2
 obtain ⟨c,dd,dat,sl⟩:=o
 obtain ⟨c2,dd2,dat2,sl2⟩:=o2
 simp only at hc hd hc2 hd2
 subst hc hd hc2 hd2
 have T1:s.TypeIs (.ref a) "tuple":=⟨_,ho,rfl⟩
 have T2:s.TypeIs (.ref b) "tuple":=⟨_,ho2,rfl⟩
 show wpAny _ _ (richCompare .Lt (.ref a) (.ref b)) _ _ _
 refine i3 T1 T2 fL ?_ hu
 exact lK fL T1 mI (md _ _) (qd a b p.1 r.1 p.2 r.2 t u t2 u2 n n2 dd dd2 sl sl2) ⟨ho,ho2,by simp,⟨.bl _,H,I,rfl,q⟩⟩
end
end L2
namespace L2
open PySem PySem.Spec PyProof.Rows
end L2
namespace L2
open PySem PySem.Spec PyProof.Rows
end L2
namespace L2
open PySem PySem.Spec PyProof.Rows
end L2
namespace L2
open PySem PySem.Spec PyProof.Rows
end L2
namespace L2
open PySem PySem.Spec PyProof.Rows
end L2
namespace HT
open PySem PySem.Spec PyProof.Rows
end HT
namespace L2
open PySem PySem.Spec PyProof.Rows
end L2
namespace L2
open PySem PySem.Spec PyProof.Rows
end L2
namespace L2
open PySem
section
variable {P:Program} {w:World} {A:Around} {E:Value→Shared→Prop} {s:Shared}
theorem zbv {it d:Addr} {i ep:Nat} {es:Array DictEntry} {e:DictEntry} {ok ov:Value} {Q:Option Value→Shared→Prop} (hit:ItA s.heap it d i es.size ep .none false ok ov) (hm:RawD s.heap d es ep) (hx:es[i]?=some e)
  (q:∀ h',IsItemIterOut h' it d (i + 1) es.size ep e.key e.val s.heap.objs.size→h'.get? s.heap.objs.size=some { cls:=.type "tuple",data:=.seq #[e.key,e.val] }→h'.objs.size=s.heap.objs.size + 1 →
   (∀ b o,b≠it→s.heap.get? b=some o→h'.get? b=some o)→Q (some (.ref s.heap.objs.size)) { s with heap:=h' }):wpAny (model P w) A (pyNext (.ref it)) Q E s:=by
 obtain ⟨hp,g,dr,tk,os⟩:=s;obtain ⟨od,hod,hcd,hdd⟩:=id hm
 have T:l8 ⟨hp,g,dr,tk,os⟩ (.ref it) "dict_itemiterator":=⟨_,hit,rfl⟩
 unfold pyNext;refine ba (gI (dg (name:=bb "__next__") T cF (cN cF T eV ?_ (eU _))))
 refine ba (bj ?_);refine ba ?_;refine ba ?_
 first | (refine ba (cV T (bj ?_))) | (refine ba (dt T (bj ?_)))
 refine ba (gY hit rfl ?_);have own:da "dict_itemiterator"=true:=by decide
 simp only [own,if_true];show wpAny _ _ (if (bL d == cD)=true then _ else _) _ _ _
 rw [if_neg (show ¬ ((bL d == cD)=true) from bK)];refine ba (bj ?_);refine ba (dZ hod hdd ?_)
 rw [if_neg (by simp)];refine ba (bj ?_);refine ba (eS hod hdd ?_);rw [if_neg (by simp)];refine bj ?_
 simp only [show ¬ ((i:Int) < 0) from by lia,if_false,dJ,hx];refine ba ?_
 first | (refine ba (cV T (bj ?_))) | (refine ba (dt T (bj ?_)))
 refine ba (dI T ?_);show wpAny _ _ (setField (.ref it) 3 (rawInt ((i:Int) + 1)) >>= _) _ _ ⟨hp,g,dr,tk,os⟩
 refine ba (cS hit (by simp) fun h₁ e1 s1=>?_)
 replace s1:cQ it hp h₁:=s1
 replace e1:ItA h₁ it d (i + 1) es.size ep .none false ok ov:=by
  have z:((i + 1:Nat):Int)=(i:Int) + 1:=by lia
  unfold ItA;rw [z];simpa [rawInt] using e1
 have T1:l8 ⟨h₁,g,dr,tk,os⟩ (.ref it) "dict_itemiterator":=⟨_,e1,rfl⟩
 refine ba (dM ?_);refine ba (dI T1 ?_);refine ba (dI T1 ?_)
 show wpAny _ _ (dG (.ref it) 6 e.key e.val) _ _ ⟨h₁,g,dr,tk,os⟩
 unfold dG;refine ba (m4 ?_)
 have e2:ItA (h₁.push { cls:=.type "tuple",data:=.seq #[e.key,e.val] }) it d (i + 1) es.size ep .none false ok ov:=bn _ e1
 generalize hg:h₁.push { cls:=.type "tuple",data:=.seq #[e.key,e.val] }=h₂ at e2
 have z1:h₁.objs.size=hp.objs.size:=s1.1;have il:it < hp.objs.size:=bS hit
 have t2:h₂.get? hp.objs.size=some { cls:=.type "tuple",data:=.seq #[e.key,e.val] }:=by rw [← hg,← z1];exact bC _ rfl
 have z2:h₂.objs.size=hp.objs.size + 1:=by rw [← hg,gU,z1]
 have k2:∀ b o,b≠it→hp.get? b=some o→h₂.get? b=some o:=fun b o hb z=>by rw [← hg];exact bn _ (s1.extBut b o hb z)
 show wpAny _ _ (dw (.ref it) >>= _) _ _ ⟨h₂,g,dr,tk,os⟩;rw [z1]
 clear hg e1 s1 T1 z1 h₁;refine ba ?_;unfold dw
 refine ba (fK e2 rfl (x:=.none) rfl (bj ?_));simp only [if_true]
 refine ba (fK e2 rfl (x:=ok) rfl ?_);refine ba (fK e2 rfl (x:=ov) rfl ?_)
 refine ba (cS e2 (by simp) fun h₃ e3 s3=>?_);replace s3:cQ it h₂ h₃:=s3;replace e3:ItA h₃ it d (i + 1) es.size ep .none false e.key ov:=e3
 refine ba (cS e3 (by simp) fun h₄ e4 s4=>?_);replace s4:cQ it h₃ h₄:=s4;replace e4:ItA h₄ it d (i + 1) es.size ep .none false e.key e.val:=e4
 refine ba (cS e4 (by simp) fun h₅ e5 s5=>?_);replace s5:cQ it h₄ h₅:=s5;replace e5:ItA h₅ it d (i + 1) es.size ep (rawInt (hp.objs.size:Nat)) false e.key e.val:=e5
 refine ba (cS e5 (by simp) fun h₆ e6 s6=>?_);replace s6:cQ it h₅ h₆:=s6;replace e6:ItA h₆ it d (i + 1) es.size ep (rawInt (hp.objs.size:Nat)) false e.key e.val:=e6
 have k6:∀ b o,b≠it→h₂.get? b=some o→h₆.get? b=some o:=fun b o hb z=>s6.extBut b o hb (s5.extBut b o hb (s4.extBut b o hb (s3.extBut b o hb z)))
 have t6:=k6 _ _ (dW il) t2
 refine ba (wpAny_letGo (bj (bj ⟨_,rfl,bj (q h₆ e6 t6 ?_ (fun b o hb z=>k6 b o hb (k2 b o hb z)))⟩)))
 show h₆.objs.size=hp.objs.size + 1;rw [s6.1,s5.1,s4.1,s3.1,z2]
theorem Wh:entryFor table "dict_itemiterator.__iter__"=some Builtin.«dict_keyiterator.__iter__» :=
 entryFor_alias (id':="dict_keyiterator.__iter__") (by kernel_rfl) rfl (by decide +kernel) (by kernel_rfl)
theorem QP {it d:Addr} {i n ep:Nat} {ok ov:Value} {Q:Value→Shared→Prop} (hit:IsItemIter s.heap it d i n ep ok ov) (h:Q (.ref it) s):wpAny (model P w) A (pyIter (.ref it)) Q E s:=by
 have T:s.TypeIs (.ref it) "dict_itemiterator":=⟨_,hit,rfl⟩
 refine lQ T iy (cN iy T Wh ?_ (F.args_dict_itemiterator_iter_1 _))
 show wpAny _ _ (ret (.ref it)) _ _ s
 exact bj ⟨_,rfl,"dict_itemiterator",_,T,cF.lookup,h⟩
end
end L2
namespace L2
open PySem PySem.Spec PyProof.Rows
def Itm (a:Addr) (o:Obj) (kvs:List (List Key × V)):It :=
 ⟨fun i H=>H a=some (.frz o (.dT kvs))∧i < kvs.length,fun i H x H'=>∃ T k v p,kvs[i]?=some (k,v)∧x=.ref T∧H T=none∧H p=some (.tup (k.map kV))∧H'=upd H T (.tup [.ref p,v]),fun i H=>H a=some (.frz o (.dT kvs))∧kvs.length≤i⟩
section
variable {X:Cx}
theorem Wi {pins:List (Addr × Obj)} {σ:St} {H:Hp} {s:Shared} {a:Addr} {o:Obj} {kvs:List (List Key × V)} (I:Inv X pins σ H s) (ha:H a=some (.frz o (.dT kvs))) :
  (a == sysModules)=false∧∃ (es:Array DictEntry) (ep:Nat),o.data=.dict es ep∧RawD s.heap a es ep∧es.size=kvs.length∧∀ (i:Nat) (e:DictEntry),es[i]?=some e→∃ (k:List Key) (v:V) (p:Addr),kvs[i]?=some (k,v)∧e.key=bL p∧H p=some (.tup (k.map kV))∧RelV v e.val:=by
 obtain ⟨hg,hz,lo,xs,rel,o',es,ep,ho,hx,hd,he,hn⟩:=(show ObjOk X.prog X.w H s.heap a (.frz o (.dT kvs)) from I.hok a _ ha)
 rw [hg] at ho
 cases ho
 have lx:kvs.length=xs.length:=cy rel
 have les:es.size=xs.length:=by rw [← cm,he,bB]
 refine ⟨lo,es,ep,hd,⟨o,hg,hx,hd⟩,by lia,fun i e hi=>?_⟩
 have e2:es.toList[i]?=some e:=by rw [dA];exact hi
 rw [he,bQ] at e2
 obtain ⟨x,hxx,ex⟩:=dk.mp e2
 have hl:=(bp.mp hxx).1
 have hk:kvs[i]?=some kvs[i]:=bg (by lia)
 have rl:=ym rel hk hxx
 refine ⟨kvs[i].1,kvs[i].2,x.2.1,hk,by rw [← ex];rfl,rl.2.1,by rw [← ex];exact rl.2.2⟩
theorem QQ {P:Program} {w:World} {K:br} {elts:List Expr} {x1} {pos:Pos} {a it:Addr} {o:Obj} {kvs:List (List Key × V)} {es:Array DictEntry} {ep:Nat} (hd:o.data=.dict es ep) :
  za7 P w K (.Tuple elts x1 pos) (Itm a o kvs) [it] it (fun i h=>∃ ok ov,IsItemIter h it a i es.size ep ok ov) where
 mem:=by simp
 obj:=fun i h st b hb=>by
  have e:b=it:=by simpa using hb
  subst e
  obtain ⟨ok,ov,st⟩:=st
  exact ⟨_,st,fun v z=>by cases z⟩
 keep:=fun i h h' ⟨ok,ov,st⟩ k=>⟨ok,ov,k it (by simp) _ st⟩
 item:=by
  intro X hP hw hK hc i pins s σ H E I hf st hg
  subst hP hw hK
  obtain ⟨ha,hi⟩:=hg
  obtain ⟨lo,es',ep',hd',raw,hs,key⟩:=Wi I ha
  rw [hd] at hd'
  cases hd'
  obtain ⟨ok,ov,st⟩:=st
  have hx:es[i]?=some es[i]:=cw (by lia)
  obtain ⟨k,v,p,hk,ek,hp,rv⟩:=key i _ hx
  refine zbv st raw hx fun h e8 t8 sz k8=>?_
  have I6:Inv X pins σ (upd H s.heap.objs.size (.tup [.ref p,v])) { s with heap:=s.heap.push { cls:=.type "tuple",data:=.seq #[es[i].key,es[i].val] } } :=
   I.laid (a:=s.heap.objs.size) (o:=.tup [.ref p,v]) (t':=s.toks) (fun b u e=>bn _ e) (bu _) ⟨by show 2≤sizeLine;decide,[es[i].key,es[i].val],.cons (by rw [ek];rfl) (.cons rv .nil),⟨_,bC _ rfl,rfl,_,rfl⟩⟩
  have old:∀ c∈[it],c≠s.heap.objs.size:=fun c hc=>by
   rw [bD.mp hc];exact cz (bS st)
  have free:∀ c∈[it],upd H s.heap.objs.size (HO.tup [.ref p,v]) c=none:=fun c hc=>by rw [zj (old c hc)];exact (hf c hc).1
  have fz:∀ c∈[it],kQ X pins (upd H s.heap.objs.size (HO.tup [.ref p,v])) c:=fun c hc=>⟨free c hc,(hf c hc).2⟩
  refine ⟨.ref s.heap.objs.size,rfl,wpAny_letOwnedTupleGo_items e8 fun h2 z9 sb2=>?_⟩
  have up:∀ c o,c≠it→h.get? c=some o→h2.get? c=some o:=fun c o hc e=>by
   rw [show h2.get? c=h.get? c from sb2.2 c hc];exact e
  have I7:Inv X pins σ (upd H s.heap.objs.size (.tup [.ref p,v])) { s with heap:=h2 }:=I6.turnedL (s:={ s with heap:=s.heap.push { cls:=.type "tuple",data:=.seq #[es[i].key,es[i].val] } }) (t':=s.toks) (ch:=[it]) (fun c o hc e=>by
   have hc:c≠it:=fun z=>hc (List.mem_singleton.mpr z)
   refine up c o hc ?_
   rcases m3 (show (s.heap.push { cls:=.type "tuple",data:=.seq #[es[i].key,es[i].val] }).get? c=some o from e) with ⟨rfl,rfl⟩ | e
   ·exact t8
   ·exact k8 c o hc e) fun c hc=>fz c hc
  exact ⟨.ref s.heap.objs.size,_,I7,rfl,⟨_,k,v,p,hk,rfl,I.hok.fresh (bu _),hp,rfl⟩,⟨_,_,z9⟩,free⟩
 done:=by
  intro X hP hw hK hc i pins s σ H E I hf st hg
  subst hP hw hK
  obtain ⟨ha,hi⟩:=hg
  obtain ⟨lo,es',ep',hd',raw,hs,key⟩:=Wi I ha
  rw [hd] at hd'
  cases hd'
  obtain ⟨ok,ov,st⟩:=st
  obtain ⟨f0,f1,f2,f3,f4,f5⟩:=hf it (by simp)
  exact zaK (I.ok.hd hc) st raw (by lia) fun h' eb=>⟨rfl,I.turned (t':=s.toks) (fun b o hb e=>eb b o hb e) f0 f1 f3 f4 f5⟩
 self:=fun _ _ _ _ _ st h=>by
  obtain ⟨ok,ov,st⟩:=st
  exact QP st h
def zfp (td:TE):TI:=fun σ H R=>td σ H fun x H1=>∃ a o kvs,x=.ref a∧H1 a=some (.frz o (.dT kvs))∧R (Itm a o kvs) H1
theorem zcS {elts:List Expr} {x1} {tp:Pos} {o:Expr} {apos cpos:Pos} {td:TE} (ho:PE X o td) (hbase:attributeBase o "items" X.env (eval o X.env)=eval o X.env:=by rfl) (hline:(apos.endLine == cpos.line)=true:=by rfl):PI X (.Tuple elts x1 tp) (.Call (.Attribute o "items" apos) [] [] cpos) (zfp td):=by
 intro pins s σ H R I h
 refine gD hbase hline (thn (ho pins s σ H _ I h) fun v s1 ⟨x,H1,I1,r1,d,ob,kvs,ex,hd,q1⟩=>?_)
 subst ex
 obtain rfl:v=bL d:=r1
 obtain ⟨lo,es,ep,hdd,raw,hs,key⟩:=Wi I1 hd
 obtain ⟨t1,t2,t3⟩:=Qy I1 (.inr ⟨kvs,.inr ⟨ob,hd⟩⟩)
 refine ⟨"dict","dict.items",gG,eZ,l9,t1,t2,eE rfl (iR ?_)⟩
 refine cN eZ t1 lR ?_ (lE _)
 unfold Builtin.«dict.items»;refine ba ?_;unfold nk;refine ba (fI t1 ?_)
 show wpAny _ _ (pure d) _ _ s1;refine bj ?_
 show wpAny _ _ (dP d >>= _) _ _ s1;unfold dP
 rw [if_neg (by rw [t3];exact bK)];refine ba (bj ?_)
 refine ba (cY (bj ⟨_,rfl,?_⟩))
 have at0:(s1.heap.push { cls:=.type "dict_items",data:=.fields #[.ref d] }).get? s1.heap.objs.size=some { cls:=.type "dict_items",data:=.fields #[.ref d] }:=bC _ rfl
 have I2:Inv X pins σ H1 { s1 with heap:=s1.heap.push { cls:=.type "dict_items",data:=.fields #[.ref d] } }:=I1.kept (t':=s1.toks) fun b u e=>bn _ e
 have raw2:RawD (s1.heap.push { cls:=.type "dict_items",data:=.fields #[.ref d] }) d es ep:=raw.at fun o e=>bn _ e
 refine Kt (s:={ s1 with heap:=s1.heap.push { cls:=.type "dict_items",data:=.fields #[.ref d] } }) ⟨_,at0,rfl,rfl⟩ raw2 ?_
 generalize hg:(s1.heap.push { cls:=.type "dict_items",data:=.fields #[.ref d] }:Heap)=h2 at *
 refine ⟨h2.objs.size,[h2.objs.size],_,_,H1,rfl,I2.kept (s:={ s1 with heap:=h2 }) (t':=s1.toks) fun b o e=>bn _ e,QQ hdd,⟨.none,.none,bC _ rfl⟩,fun b hb=>?_,q1⟩
 have e:b=h2.objs.size:=by simpa using hb
 subst e
 exact I2.fpOk (bu _) (I2.hok.fresh (bu _))
end
end L2
namespace L2
open PySem PySem.Spec PyProof.Rows
structure FG (K:br) (mg:Str→Option Value) (x:Str) (st:Stmt) (ps:List Str) (a:Addr) (d:FuncData):Prop where
 f:Fun K x x st a d
 b:Binds K d ps []
 m:mg x=some (.ref a)
structure FM (K:br) (C:Addr) (x qual:Str) (st:Stmt) (ps:List Str) (a:Addr) (d:FuncData):Prop where
 f:Fun K x qual st a d
 b:Binds K d ps []
 me:zbc K C x a
abbrev QF (K:br) (x qual:Str) (st:Stmt) (a:Addr):Prop:=∃ oc od sl kV dc pm an cd ct,K.lookup a=some ⟨oc,od,.func (ie x qual (xj st) (yC st) (zk st) .none kV dc pm an cd ct),sl⟩∧gW K cd qual=true∧eW K (.ref a)=true
abbrev QG (K:br) (x:Str) (st:Stmt):Prop:=∃ a,iB K mainGlobals x=some (some (.ref a))∧QF K x x st a
abbrev QM (K:br) (C:Addr) (x qual:Str) (st:Stmt):Prop:=∃ a,cX K (.ref C) x=some (some (.ref a))∧oG K (.ref a)=true∧QF K x qual st a
section
variable {K:br} {h:Heap} {mg:Str→Option Value} {x qual:Str} {st:Stmt} {a C:Addr} {ps:List Str}
theorem QF.to (q:QF K x qual st a) (hb:∀ (kV doc pm:Value) (an:Option Addr) (cdv ct:Value) (us:List Value),us.length=ps.length→bindArgs (ie x qual (xj st) (yC st) (zk st) .none kV doc pm an cdv ct) ⟨us,[]⟩=pure (ps.zip us)):∃ d,Fun K x qual st a d∧Binds K d ps []∧eW K (.ref a)=true:=by
 obtain ⟨oc,od,sl,kV,dc,pm,an,cd,ct,h1,h2,h3⟩:=q
 have F:=V5 (st:=st) h1 h2 h3
 exact ⟨_,F,F.binds hb,h3⟩
abbrev bA (x qual:Str) (st:Stmt) (us:List Value) (bs:List (Str × Value)):Prop:=∀ (kV doc pm:Value) (an:Option Addr) (cdv ct:Value),bindArgs (ie x qual (xj st) (yC st) (zk st) .none kV doc pm an cdv ct) ⟨us,[]⟩=pure bs
theorem QG.to (X:K.In h) (G:h.Ns mainGlobals mg) (q:QG K x st) (hb:∀ us:List Value,us.length=ps.length→bA x x st us (ps.zip us)):∃ a d,FG K mg x st ps a d:=by
 obtain ⟨a,n,q⟩:=q
 obtain ⟨d,F,B,_⟩:=QF.to q fun _ _ _ _ _ _ us hl=>hb us hl _ _ _ _ _ _
 exact ⟨a,d,F,B,nS X G n⟩
theorem QM.to (q:QM K C x qual st) (hb:∀ us:List Value,us.length=ps.length→bA x qual st us (ps.zip us)):∃ a d,FM K C x qual st ps a d:=by
 obtain ⟨a,n,i,q⟩:=q
 obtain ⟨d,F,B,k⟩:=QF.to q fun _ _ _ _ _ _ us hl=>hb us hl _ _ _ _ _ _
 exact ⟨a,d,F,B,n,i,k⟩
theorem ar1 {P:List Value→Prop} (h:∀ a,P [a]):∀ us,us.length=1→P us
 | [a],_=>h a
theorem ar2 {P:List Value→Prop} (h:∀ a b,P [a,b]):∀ us,us.length=2→P us
 | [a,b],_=>h a b
theorem ar3 {P:List Value→Prop} (h:∀ a b c,P [a,b,c]):∀ us,us.length=3→P us
 | [a,b,c],_=>h a b c
variable (X:K.In h) (G:h.Ns mainGlobals mg) (u v w:Str)
include X G in
theorem QG.a1 (q:QG K x st) (hb:∀ a,bA x x st [a] [(u,a)]:=by exact fun _ _ _ _ _ _ _=>rfl):∃ a d,FG K mg x st [u] a d:=QG.to X G q (ar1 hb)
include X G in
theorem QG.a2 (q:QG K x st) (hb:∀ a b,bA x x st [a,b] [(u,a),(v,b)]:=by exact fun _ _ _ _ _ _ _ _=>rfl):∃ a d,FG K mg x st [u,v] a d:=QG.to X G q (ar2 hb)
include X G in
theorem QG.a3 (q:QG K x st) (hb:∀ a b c,bA x x st [a,b,c] [(u,a),(v,b),(w,c)]:=by exact fun _ _ _ _ _ _ _ _ _=>rfl):∃ a d,FG K mg x st [u,v,w] a d:=QG.to X G q (ar3 hb)
theorem QM.a1 (q:QM K C x qual st) (hb:∀ a,bA x qual st [a] [(u,a)]:=by exact fun _ _ _ _ _ _ _=>rfl):∃ a d,FM K C x qual st [u] a d:=QM.to q (ar1 hb)
theorem QM.a2 (q:QM K C x qual st) (hb:∀ a b,bA x qual st [a,b] [(u,a),(v,b)]:=by exact fun _ _ _ _ _ _ _ _=>rfl):∃ a d,FM K C x qual st [u,v] a d:=QM.to q (ar2 hb)
theorem QM.a3 (q:QM K C x qual st) (hb:∀ a b c,bA x qual st [a,b,c] [(u,a),(v,b),(w,c)]:=by exact fun _ _ _ _ _ _ _ _ _=>rfl):∃ a d,FM K C x qual st [u,v,w] a d:=QM.to q (ar3 hb)
end
abbrev QX (K:br) (a:Addr):Prop:=∃ cl,cX K (.ref a) "__getattribute__"=some (some (.builtin "BaseException.__getattribute__"))∧cX K (.ref a) "__getattr__"=some none∧cX K (.ref a) "__class__"=some (some (.builtin "object.__class__"))∧oK K a (.type "object")=some true∧oK K a (.type "BaseException")=some true∧ox K (.builtin "object.__class__") "__get__"=some (some (.builtin "getset_descriptor.__get__"))∧W.takesIn K (.builtin "object.__class__")=some true∧W.clsIn K a=some cl
theorem QX.to {K:br} {a:Addr} (q:QX K a):ExK K a:=by
 obtain ⟨cl,h1,h2,h3,h4,h5,h6,h7,h8⟩:=q
 exact ⟨⟨h1,h2,h3,h4,h5,h6,h7⟩,by rw [h8];rfl⟩
section
variable {X:Cx} {CX:CXT} {j k:Nat} {a C:Addr} {d:FuncData} {ps:List Str} {sp:Sp} {x m qual:Str} {st:Stmt} {p pos apos:Pos} {o e:Expr} {es:List Expr} {ta:TE} {t:TA} {E:XK}
theorem pcG (F:FnOk X.prog X.w X.K X.mg X.base CX j a d ps sp) (G:FG X.K X.mg x st ps a d) (hr:Room k X.A) (hx:jM CX X E) (ha:PA X (e :: es) t) (hj:j≤k:=by decide) (hg:Gl X x:=by exact rfl) (hdb:(x == ("__debug__":Str))=false:=by decide) (he:starEach (e :: es) X.env=(false,eval e X.env) :: starEach es X.env:=by rfl) (hpl:(backTo pos (starEach es X.env)).any (·.1)=false:=by rfl) :
  PE X (.Call (.Name x p) (e :: es) [] pos) (zo sp [] E t):=XH (F.mono hj) hr hg G.m G.f.kp G.b .nil hx ha hdb he hpl
end
end L2
namespace L2
open PySem PySem.Spec PyProof.Rows
section
variable {K:br} {σ:St} {H:Hp} {Q:VK} {i:Nat} {k:Int} {p a C dx:Addr} {xs:List V} {u v:V} {x w f:Str} {fs:List (Str × V)} {te:TE} {A B:TS} {D:VS}
theorem kM (h0:σ[i]?=some (some (.ref p))) (h1:H p=some (.tup xs)) (h2:atI xs k=some u) (q:Q u H):tOp (zU K) (zc i) (tC (.int k)) σ H Q:=⟨_,h0,p,xs,k,u,rfl,rfl,SqT.of h1,h2,q⟩
theorem wY (h0:σ[i]?=some (some (.ref a))) (h1:H a=some (.ins C dx fs)) (c:Cls K C) (n:NoAttr K C f) (l:fs.lookup f=some v) (q:Q v H):yG K (zc i) f σ H Q:=⟨_,h0,a,C,dx,fs,v,rfl,h1,c,n,l,q⟩
theorem zf0 (h:∀ Q:VK,Q (.str x) H→te σ H Q) (a:x=w→A D σ H) (b:x≠w→B D σ H):zM (zq (tOp rEq te (tC (.str w)))) A B D σ H:=by
 refine h _ ⟨rfl,_,rfl,?_⟩
 by_cases c:x=w
 ·show if _ then _ else _
  rw [if_pos (by rw [c];exact decide_eq_true rfl)];exact a c
 ·show if _ then _ else _
  rw [if_neg (by rw [decide_eq_true_eq];exact fun z=>c (V.str.inj z))];exact b c
theorem xD (h0:σ[i]?=some (some (.ref p))) (h1:H p=some (.tup xs)) (h2:atI xs k=some (.str x)) (a:x=w→A D σ H) (b:x≠w→B D σ H):zM (zq (tOp rEq (tOp (zU K) (zc i) (tC (.int k))) (tC (.str w)))) A B D σ H:=zf0 (fun Q q=>kM h0 h1 h2 q) a b
theorem zf1 {n m:Int} (h:σ[i]?=some (some (.int n))) (a:n < m→A D σ H) (b:¬ n < m→B D σ H):zM (zq (tOp (rI0 fun i j=>.bl (decide (i < j))) (zc i) (tC (.int m)))) A B D σ H:=by
 refine ⟨_,h,_,_,rfl,rfl,_,rfl,?_⟩
 show if _ then _ else _
 by_cases c:n < m
 ·rw [if_pos (decide_eq_true c)];exact a c
 ·rw [if_neg (by rw [decide_eq_true_eq];exact c)];exact b c
theorem zeO {n m:Int} (h:σ[i]?=some (some (.int n))) (a:n=m→A D σ H) (b:n≠m→B D σ H):zM (zq (tOp rEq (zc i) (tC (.int m)))) A B D σ H:=by
 refine ⟨_,h,rfl,_,rfl,?_⟩
 show if _ then _ else _
 by_cases c:n=m
 ·rw [if_pos (decide_eq_true (by rw [c]))];exact a c
 ·rw [if_neg (by rw [decide_eq_true_eq];exact fun z=>c (V.int.inj z))];exact b c
theorem zcT {l:Addr} {xs:List V} (h0:σ[i]?=some (some (.ref l))) (h1:H l=some (.lst xs)) (q:Q (.int xs.length) H):tCB (xW K) (zb (zc i) zi) σ H Q:=by
 refine ⟨_,h0,.ref l,xs.length,rfl,?_,q⟩
 simp only [Zw]
 exact .inl ⟨_,SqL.of h1,rfl⟩
theorem zcU {n:Int} {P R:Prop} (a:n≠0→P) (b:n=0→R):if (!decide (V.int n=V.int 0))=true then P else R:=by
 by_cases c:n=0
 ·rw [if_neg (by rw [c];decide)];exact b c
 ·rw [if_pos (by rw [decide_eq_false (fun z=>c (V.int.inj z))];rfl)];exact a c
theorem zf2 {n:Int} {P R:Prop} (a:n=0→P) (b:n≠0→R):if decide (V.int n=V.int 0)=true then P else R:=by
 by_cases c:n=0
 ·rw [if_pos (by rw [c];decide)];exact a c
 ·rw [if_neg (by rw [decide_eq_false (fun z=>c (V.int.inj z))];decide)];exact b c
end
end L2
namespace K28
open PySem L2
def top (i:Nat):Stmt:=PySem.Challenge.pw_forerun_k28_whole_fed_is_alone.main.body.getD i (.Pass ⟨0,0,0,0⟩)
abbrev qh:Stmt:=top 28
abbrev vd:Stmt:=top 29
abbrev v7:Stmt:=top 30
abbrev jT:Stmt:=top 37
abbrev vq:Stmt:=top 27
abbrev v9:Stmt:=top 20
abbrev ZG:Stmt:=top 19
abbrev YF:Stmt:=top 21
abbrev wg:Stmt:=xi (top 16) 0
abbrev ZI:Stmt:=xi (top 16) 1
abbrev qi:Stmt:=xi (top 16) 4
abbrev YG:Stmt:=top 11
abbrev YH:Stmt:=top 12
abbrev ZJ:Stmt:=top 8
abbrev Wj:Stmt:=top 13
abbrev ZK:Stmt:=top 14
abbrev vt:Stmt:=xi (top 16) 5
abbrev vx:Stmt:=xi (top 16) 6
abbrev ZL:Stmt:=xi (top 16) 2
abbrev qj:Stmt:=xi (top 16) 9
abbrev ZM:Stmt:=xi (top 16) 8
abbrev jU:Stmt:=xi (top 16) 7
abbrev wj:Stmt:=xi (top 16) 3
abbrev Wk:Stmt:=top 6
abbrev zcV:Stmt:=top 17
abbrev xy:Stmt:=xi (top 23) 0
abbrev wk:Stmt:=xi (top 23) 1
abbrev jV:Stmt:=xi (top 23) 3
abbrev xt:Stmt:=xi (top 23) 2
abbrev jW:Stmt:=top 24
abbrev jX:Stmt:=top 5
abbrev Jt:Stmt:=top 25
abbrev vy:Stmt:=top 38
abbrev jY:Stmt:=top 39
abbrev vW:Stmt:=top 40
abbrev qk:Stmt:=top 41
abbrev ja:Stmt:=top 35
abbrev ql:Stmt:=top 31
abbrev qo:Stmt:=top 32
abbrev qp:Stmt:=top 33
abbrev ZN:Stmt:=top 34
abbrev qq:Stmt:=top 36
abbrev VF:Stmt:=top 42
theorem sc__law_draw:zD ["cell","j","far"] ["cell","j"] (zk qh):=⟨rfl,rfl,rfl,by decide +kernel,rfl,by decide +kernel,by decide +kernel⟩
theorem sc__law_names:zD ["cell","many","size","signs","stem","k","at","turn"] ["cell","many"] (zk vd):=⟨rfl,rfl,rfl,by decide +kernel,rfl,by decide +kernel,by decide +kernel⟩
theorem Wl:zD ["cell","j"] ["cell","j"] (zk v7):=⟨rfl,rfl,rfl,by decide +kernel,rfl,by decide +kernel,by decide +kernel⟩
theorem sc__law_table:zD ["cell","shelves","worths","k","worth"] ["cell","shelves"] (zk jT):=⟨rfl,rfl,rfl,by decide +kernel,rfl,by decide +kernel,by decide +kernel⟩
theorem Xn:zD ["script","k"] ["script","k"] (zk vq):=⟨rfl,rfl,rfl,by decide +kernel,rfl,by decide +kernel,by decide +kernel⟩
theorem sc_block_steps:zD ["row","at","steps","to","others"] ["row","at"] (zk v9):=⟨rfl,rfl,rfl,by decide +kernel,rfl,by decide +kernel,by decide +kernel⟩
theorem sc_steps_of:zD ["rows","first","steps","row"] ["rows","first"] (zk ZG):=⟨rfl,rfl,rfl,by decide +kernel,rfl,by decide +kernel,by decide +kernel⟩
theorem QR:zD ["rows"] ["rows"] (zk YF):=⟨rfl,rfl,rfl,by decide +kernel,rfl,by decide +kernel,by decide +kernel⟩
theorem KJ:zD ["self","code"] ["self","code"] (zk wg):=⟨rfl,rfl,rfl,by decide +kernel,rfl,by decide +kernel,by decide +kernel⟩
theorem KK:zD ["self"] ["self"] (zk ZI):=⟨rfl,rfl,rfl,by decide +kernel,rfl,by decide +kernel,by decide +kernel⟩
theorem sc_Run_paper:zD ["self","notes"] ["self"] (zk qi):=⟨rfl,rfl,rfl,by decide +kernel,rfl,by decide +kernel,by decide +kernel⟩
theorem QS:zD ["word","first","second"] ["word","first","second"] (zk YG):=⟨rfl,rfl,rfl,by decide +kernel,rfl,by decide +kernel,by decide +kernel⟩
theorem QT:zD ["word","first","second"] ["word","first","second"] (zk YH):=⟨rfl,rfl,rfl,by decide +kernel,rfl,by decide +kernel,by decide +kernel⟩
theorem KL:zD ["thing"] ["thing"] (zk ZJ):=⟨rfl,rfl,rfl,by decide +kernel,rfl,by decide +kernel,by decide +kernel⟩
theorem sc_joined:zD ["word","first","second","worth"] ["word","first","second"] (zk Wj):=⟨rfl,rfl,rfl,by decide +kernel,rfl,by decide +kernel,by decide +kernel⟩
theorem sc_reckoned:zD ["term","slots","worths","part","second","first"] ["term","slots"] (zk ZK):=⟨rfl,rfl,rfl,by decide +kernel,rfl,by decide +kernel,by decide +kernel⟩
theorem Xo:zD ["self","term"] ["self","term"] (zk vt):=⟨rfl,rfl,rfl,by decide +kernel,rfl,by decide +kernel,by decide +kernel⟩
theorem Xp:zD ["self","due"] ["self","due"] (zk vx):=⟨rfl,rfl,rfl,by decide +kernel,rfl,by decide +kernel,by decide +kernel⟩
theorem sc_Run_asks:zD ["self","place"] ["self"] (zk ZL):=⟨rfl,rfl,rfl,by decide +kernel,rfl,by decide +kernel,by decide +kernel⟩
theorem Ju:zD ["self","place","worth"] ["self","place","worth"] (zk qj):=⟨rfl,rfl,rfl,by decide +kernel,rfl,by decide +kernel,by decide +kernel⟩
theorem sc_Run_does:zD ["self","due","worth","place"] ["self","due","worth"] (zk ZM):=⟨rfl,rfl,rfl,by decide +kernel,rfl,by decide +kernel,by decide +kernel⟩
theorem WK:zD ["self","due","worth"] ["self","due","worth"] (zk jU):=⟨rfl,rfl,rfl,by decide +kernel,rfl,by decide +kernel,by decide +kernel⟩
theorem KM:zD ["self","worth"] ["self","worth"] (zk wj):=⟨rfl,rfl,rfl,by decide +kernel,rfl,by decide +kernel,by decide +kernel⟩
theorem zbw:zD ["table","place"] ["table","place"] (zk Wk):=⟨rfl,rfl,rfl,by decide +kernel,rfl,by decide +kernel,by decide +kernel⟩
theorem sc_fed:zD ["code","table","run","place"] ["code","table"] (zk zcV):=⟨rfl,rfl,rfl,by decide +kernel,rfl,by decide +kernel,by decide +kernel⟩
theorem WL:zD ["self","table"] ["self","table"] (zk xy):=⟨rfl,rfl,rfl,by decide +kernel,rfl,by decide +kernel,by decide +kernel⟩
theorem Yi:zD ["self","term"] ["self","term"] (zk wk):=⟨rfl,rfl,rfl,by decide +kernel,rfl,by decide +kernel,by decide +kernel⟩
theorem sc_Doing_does:zD ["self","row","place"] ["self","row"] (zk jV):=⟨rfl,rfl,rfl,by decide +kernel,rfl,by decide +kernel,by decide +kernel⟩
theorem sc_Doing_goes_through:zD ["self","rows","row"] ["self","rows"] (zk xt):=⟨rfl,rfl,rfl,by decide +kernel,rfl,by decide +kernel,by decide +kernel⟩
theorem WM:zD ["why","table"] ["why","table"] (zk jW):=⟨rfl,rfl,rfl,by decide +kernel,rfl,by decide +kernel,by decide +kernel⟩
theorem sc_table_of:zD ["rows","worths"] ["rows"] (zk jX):=⟨rfl,rfl,rfl,by decide +kernel,rfl,by decide +kernel,by decide +kernel⟩
theorem sc_alone:zD ["rows","table","doing","came_through"] ["rows","table"] (zk Jt):=⟨rfl,rfl,rfl,by decide +kernel,rfl,by decide +kernel,by decide +kernel⟩
theorem sc__law_rows_of:zD ["found","row","number"] ["found"] (zk vy):=⟨rfl,rfl,rfl,by decide +kernel,rfl,by decide +kernel,by decide +kernel⟩
theorem sc__law_noted:zD ["notes","table","there","seen","place","worth"] ["notes","table"] (zk jY):=⟨rfl,rfl,rfl,by decide +kernel,rfl,by decide +kernel,by decide +kernel⟩
theorem sc__law_laid:zD ["table","gifts","there","k"] ["table","gifts"] (zk vW):=⟨rfl,rfl,rfl,by decide +kernel,rfl,by decide +kernel,by decide +kernel⟩
theorem sc__law_done:zD ["rows","table","code","handed","given","paper","outcome","behind"] ["rows","table"] (zk qk):=⟨rfl,rfl,rfl,by decide +kernel,rfl,by decide +kernel,by decide +kernel⟩
theorem sc__law_closed:zD ["frames","frame"] ["frames"] (zk ja):=⟨rfl,rfl,rfl,by decide +kernel,rfl,by decide +kernel,by decide +kernel⟩
theorem Jv:zD ["cell","j","slots"] ["cell","j","slots"] (zk ql):=⟨rfl,rfl,rfl,by decide +kernel,rfl,by decide +kernel,by decide +kernel⟩
theorem sc__law_term:zD ["cell","j","slots","words","word","one","two","kind"] ["cell","j","slots"] (zk qo):=⟨rfl,rfl,rfl,by decide +kernel,rfl,by decide +kernel,by decide +kernel⟩
theorem Jw:zD ["cell","j","slots"] ["cell","j","slots"] (zk qp):=⟨rfl,rfl,rfl,by decide +kernel,rfl,by decide +kernel,by decide +kernel⟩
theorem sc__law_row:zD ["cell","slots","shelves","kind","shelf","slot","bad"] ["cell","slots","shelves"] (zk ZN):=⟨rfl,rfl,rfl,by decide +kernel,rfl,by decide +kernel,by decide +kernel⟩
theorem sc__law_rows:zD ["cells","slots","shelves","frames","cell","kind"] ["cells","slots","shelves"] (zk qq):=⟨rfl,rfl,rfl,by decide +kernel,rfl,by decide +kernel,by decide +kernel⟩
theorem sc_law:zD ["script","slots","shelves","table","many","cells","at"] ["script"] (zk VF):=⟨rfl,rfl,rfl,by decide +kernel,rfl,by decide +kernel,by decide +kernel⟩
set_option genSizeOf false in
set_option genInjectivity false in
structure Adr where
 a0:Addr
 d0:FuncData
 a1:Addr
 d1:FuncData
 a2:Addr
 d2:FuncData
 a3:Addr
 d3:FuncData
 a4:Addr
 d4:FuncData
 a5:Addr
 d5:FuncData
 a6:Addr
 d6:FuncData
 a7:Addr
 d7:FuncData
 a8:Addr
 d8:FuncData
 a9:Addr
 d9:FuncData
 a10:Addr
 d10:FuncData
 a11:Addr
 d11:FuncData
 a12:Addr
 d12:FuncData
 a13:Addr
 d13:FuncData
 a14:Addr
 d14:FuncData
 a15:Addr
 d15:FuncData
 a16:Addr
 d16:FuncData
 a17:Addr
 d17:FuncData
 a18:Addr
 d18:FuncData
 a19:Addr
 d19:FuncData
 a20:Addr
 d20:FuncData
 a21:Addr
 d21:FuncData
 a22:Addr
 d22:FuncData
 a23:Addr
 d23:FuncData
 a24:Addr
 d24:FuncData
 a25:Addr
 d25:FuncData
 a26:Addr
 d26:FuncData
 a27:Addr
 d27:FuncData
 a28:Addr
 d28:FuncData
 a29:Addr
 d29:FuncData
 a30:Addr
 d30:FuncData
 a31:Addr
 d31:FuncData
 a32:Addr
 d32:FuncData
 a33:Addr
 d33:FuncData
 a34:Addr
 d34:FuncData
 a35:Addr
 d35:FuncData
 a36:Addr
 d36:FuncData
 a37:Addr
 d37:FuncData
 a38:Addr
 d38:FuncData
 a39:Addr
 d39:FuncData
 a40:Addr
 d40:FuncData
 a41:Addr
 d41:FuncData
 a42:Addr
 d42:FuncData
 c_JOINING:Addr
 c_Doing:Addr
 c_Great:Addr
 c_Nought:Addr
 c_Run:Addr
structure Txt (K:br) (mg:Str→Option Value) (t:Adr):Prop where
 g0:FG K mg "_law_draw" qh ["cell","j"] t.a0 t.d0
 g1:FG K mg "_law_names" vd ["cell","many"] t.a1 t.d1
 g2:FG K mg "_law_number" v7 ["cell","j"] t.a2 t.d2
 g3:FG K mg "_law_table" jT ["cell","shelves"] t.a3 t.d3
 g4:FG K mg "_law_cell_at" vq ["script","k"] t.a4 t.d4
 g5:FG K mg "block_steps" v9 ["row","at"] t.a5 t.d5
 g6:FG K mg "steps_of" ZG ["rows","first"] t.a6 t.d6
 g7:FG K mg "code_of" YF ["rows"] t.a7 t.d7
 f_Run_init:Fun K "__init__" "Run.__init__" wg t.a8 t.d8
 b_Run_init:Binds K t.d8 ["self","code"] []
 g9:FM K t.c_Run "over" "Run.over" ZI ["self"] t.a9 t.d9
 g10:FM K t.c_Run "paper" "Run.paper" qi ["self"] t.a10 t.d10
 g11:FG K mg "divided" YG ["word","first","second"] t.a11 t.d11
 g12:FG K mg "come_to" YH ["word","first","second"] t.a12 t.d12
 g13:FG K mg "is_worth" ZJ ["thing"] t.a13 t.d13
 g14:FG K mg "joined" Wj ["word","first","second"] t.a14 t.d14
 g15:FG K mg "reckoned" ZK ["term","slots"] t.a15 t.d15
 g16:FM K t.c_Run "worth_of" "Run.worth_of" vt ["self","term"] t.a16 t.d16
 g17:FM K t.c_Run "place_in" "Run.place_in" vx ["self","due"] t.a17 t.d17
 g18:FM K t.c_Run "asks" "Run.asks" ZL ["self"] t.a18 t.d18
 g19:FM K t.c_Run "taken" "Run.taken" qj ["self","place","worth"] t.a19 t.d19
 g20:FM K t.c_Run "does" "Run.does" ZM ["self","due","worth"] t.a20 t.d20
 g21:FM K t.c_Run "led_by" "Run.led_by" jU ["self","due","worth"] t.a21 t.d21
 f_Run_step:FunD K "step" "Run.step" wj t.a22 t.d22
 b_Run_step:Binds K t.d22 ["self","worth"] []
 me_Run_step:zbc K t.c_Run "step" t.a22
 g23:FG K mg "stands" Wk ["table","place"] t.a23 t.d23
 g24:FG K mg "fed" zcV ["code","table"] t.a24 t.d24
 f_Doing_init:Fun K "__init__" "Doing.__init__" xy t.a25 t.d25
 b_Doing_init:Binds K t.d25 ["self","table"] []
 g26:FM K t.c_Doing "worth_of" "Doing.worth_of" wk ["self","term"] t.a26 t.d26
 g27:FM K t.c_Doing "does" "Doing.does" jV ["self","row"] t.a27 t.d27
 g28:FM K t.c_Doing "goes_through" "Doing.goes_through" xt ["self","rows"] t.a28 t.d28
 g29:FG K mg "broken_off" jW ["why","table"] t.a29 t.d29
 g30:FG K mg "table_of" jX ["rows"] t.a30 t.d30
 g31:FG K mg "alone" Jt ["rows","table"] t.a31 t.d31
 g32:FG K mg "_law_rows_of" vy ["found"] t.a32 t.d32
 g33:FG K mg "_law_noted" jY ["notes","table"] t.a33 t.d33
 g34:FG K mg "_law_laid" vW ["table","gifts"] t.a34 t.d34
 g35:FG K mg "_law_done" qk ["rows","table"] t.a35 t.d35
 g36:FG K mg "_law_closed" ja ["frames"] t.a36 t.d36
 g37:FG K mg "_law_part" ql ["cell","j","slots"] t.a37 t.d37
 g38:FG K mg "_law_term" qo ["cell","j","slots"] t.a38 t.d38
 g39:FG K mg "_law_spot" qp ["cell","j","slots"] t.a39 t.d39
 g40:FG K mg "_law_row" ZN ["cell","slots","shelves"] t.a40 t.d40
 g41:FG K mg "_law_rows" qq ["cells","slots","shelves"] t.a41 t.d41
 f_law:Fun K "law" "law" VF t.a42 t.d42
 b_law:Binds K t.d42 ["script"] []
 m_law:mg "law"=some (.ref t.a42)
 w_law:∀ (s:Shared) (v:Value),BindsTo s t.d42 ⟨[v],[]⟩ [("script",v)]
 b_bool:mg "bool"=none
 b_dict:mg "dict"=none
 b_int:mg "int"=none
 b_isinstance:mg "isinstance"=none
 b_len:mg "len"=none
 b_list:mg "list"=none
 b_range:mg "range"=none
 b_sorted:mg "sorted"=none
 b_str:mg "str"=none
 b_tuple:mg "tuple"=none
 g_JOINING:mg "JOINING"=some (.ref t.c_JOINING)
 v_JOINING:∀ H:Hp,SqT K H t.c_JOINING [.str "plus",.str "minus",.str "times",.str "over",.str "rest",.str "under",.str "same"]
 g_Doing:mg "Doing"=some (.ref t.c_Doing)
 g_Great:mg "Great"=some (.ref t.c_Great)
 g_Nought:mg "Nought"=some (.ref t.c_Nought)
 g_Run:mg "Run"=some (.ref t.c_Run)
 cl_Doing:Cls K t.c_Doing
 mk_Doing:Mk K t.c_Doing t.a25
 na_Doing_sayings:NoAttr K t.c_Doing "sayings"
 na_Doing_slots:NoAttr K t.c_Doing "slots"
 na_Doing_worths:NoAttr K t.c_Doing "worths"
 cl_Run:Cls K t.c_Run
 mk_Run:Mk K t.c_Run t.a8
 na_Run_at:NoAttr K t.c_Run "at"
 na_Run_code:NoAttr K t.c_Run "code"
 na_Run_gifts:NoAttr K t.c_Run "gifts"
 na_Run_notes:NoAttr K t.c_Run "notes"
 na_Run_sayings:NoAttr K t.c_Run "sayings"
 na_Run_slots:NoAttr K t.c_Run "slots"
 na_Run_why:NoAttr K t.c_Run "why"
 x_Nought:nR K t.c_Nought J9 Yz=true
 y_Nought:ExK K t.c_Nought
 e_Nought_Great:gZ K (.ref t.c_Nought) (.ref t.c_Great)=some false
 e_Nought_Nought:gZ K (.ref t.c_Nought) (.ref t.c_Nought)=some true
 m_Nought_Great_Nought:on K (.ref t.c_Nought) [.ref t.c_Great,.ref t.c_Nought]=some true
 x_Great:nR K t.c_Great J9 Yz=true
 y_Great:ExK K t.c_Great
 e_Great_Great:gZ K (.ref t.c_Great) (.ref t.c_Great)=some true
 e_Great_Nought:gZ K (.ref t.c_Great) (.ref t.c_Nought)=some false
 m_Great_Great_Nought:on K (.ref t.c_Great) [.ref t.c_Great,.ref t.c_Nought]=some true
theorem txt_mk {K:br} {h:Heap} {mg:Str→Option Value} (X:K.In h) (G:h.Ns mainGlobals mg)
  {f8:Addr} {od8 an8:Option Addr} {sl8:Array (Option Value)} {oc8 kV8 dc8 pm8 cd8 ct8:Value}
  {f22:Addr} {od22 an22:Option Addr} {sl22:Array (Option Value)} {oc22 kV22 dc22 pm22 cd22 ct22:Value} {dA22:Addr} {dn22:Nat} {dt22_0:Tok}
  {f25:Addr} {od25 an25:Option Addr} {sl25:Array (Option Value)} {oc25 kV25 dc25 pm25 cd25 ct25:Value}
  {f42:Addr} {od42 an42:Option Addr} {sl42:Array (Option Value)} {oc42 kV42 dc42 pm42 cd42 ct42:Value}
  {ga0:Addr} {gn0:Nat} {gt0_0:Tok} {gt0_1:Tok} {gt0_2:Tok} {gt0_3:Tok} {gt0_4:Tok} {gt0_5:Tok} {gt0_6:Tok}
  {ca0:Addr}
  {ca1:Addr}
  {ca2:Addr}
  {ca3:Addr}
  (h0:QG K "_law_draw" qh)
  (h1:QG K "_law_names" vd)
  (h2:QG K "_law_number" v7)
  (h3:QG K "_law_table" jT)
  (h4:QG K "_law_cell_at" vq)
  (h5:QG K "block_steps" v9)
  (h6:QG K "steps_of" ZG)
  (h7:QG K "code_of" YF)
  (qa8:cX K (.ref ca3) "__init__"=some (some (.ref f8))) (qi8:oG K (.ref f8)=true) (ql8:K.lookup f8=some ⟨oc8,od8,.func (ie "__init__" "Run.__init__" (xj wg) (yC wg) (zk wg) .none kV8 dc8 pm8 an8 cd8 ct8),sl8⟩) (qc8:gW K cd8 "Run.__init__"=true) (qk8:eW K (.ref f8)=true)
  (h9:QM K ca3 "over" "Run.over" ZI)
  (h10:QM K ca3 "paper" "Run.paper" qi)
  (h11:QG K "divided" YG)
  (h12:QG K "come_to" YH)
  (h13:QG K "is_worth" ZJ)
  (h14:QG K "joined" Wj)
  (h15:QG K "reckoned" ZK)
  (h16:QM K ca3 "worth_of" "Run.worth_of" vt)
  (h17:QM K ca3 "place_in" "Run.place_in" vx)
  (h18:QM K ca3 "asks" "Run.asks" ZL)
  (h19:QM K ca3 "taken" "Run.taken" qj)
  (h20:QM K ca3 "does" "Run.does" ZM)
  (h21:QM K ca3 "led_by" "Run.led_by" jU)
  (qa22:cX K (.ref ca3) "step"=some (some (.ref f22))) (qi22:oG K (.ref f22)=true) (ql22:K.lookup f22=some ⟨oc22,od22,.func (ie "step" "Run.step" (xj wj) (yC wj) (zk wj) (.ref dA22) kV22 dc22 pm22 an22 cd22 ct22),sl22⟩) (qc22:gW K cd22 "Run.step"=true) (qk22:eW K (.ref f22)=true) (qd22:K.lookup dA22=some ⟨.type "tuple",none,.seq #[.int 0 dt22_0] dn22,#[]⟩)
  (h23:QG K "stands" Wk)
  (h24:QG K "fed" zcV)
  (qa25:cX K (.ref ca0) "__init__"=some (some (.ref f25))) (qi25:oG K (.ref f25)=true) (ql25:K.lookup f25=some ⟨oc25,od25,.func (ie "__init__" "Doing.__init__" (xj xy) (yC xy) (zk xy) .none kV25 dc25 pm25 an25 cd25 ct25),sl25⟩) (qc25:gW K cd25 "Doing.__init__"=true) (qk25:eW K (.ref f25)=true)
  (h26:QM K ca0 "worth_of" "Doing.worth_of" wk)
  (h27:QM K ca0 "does" "Doing.does" jV)
  (h28:QM K ca0 "goes_through" "Doing.goes_through" xt)
  (h29:QG K "broken_off" jW)
  (h30:QG K "table_of" jX)
  (h31:QG K "alone" Jt)
  (h32:QG K "_law_rows_of" vy)
  (h33:QG K "_law_noted" jY)
  (h34:QG K "_law_laid" vW)
  (h35:QG K "_law_done" qk)
  (h36:QG K "_law_closed" ja)
  (h37:QG K "_law_part" ql)
  (h38:QG K "_law_term" qo)
  (h39:QG K "_law_spot" qp)
  (h40:QG K "_law_row" ZN)
  (h41:QG K "_law_rows" qq)
  (qa42:iB K mainGlobals "law"=some (some (.ref f42))) (ql42:K.lookup f42=some ⟨oc42,od42,.func (ie "law" "law" (xj VF) (yC VF) (zk VF) .none kV42 dc42 pm42 an42 cd42 ct42),sl42⟩) (qc42:gW K cd42 "law"=true) (qk42:eW K (.ref f42)=true)
  (qz0:iB K mainGlobals "bool"=some none)
  (qz1:iB K mainGlobals "dict"=some none)
  (qz2:iB K mainGlobals "int"=some none)
  (qz3:iB K mainGlobals "isinstance"=some none)
  (qz4:iB K mainGlobals "len"=some none)
  (qz5:iB K mainGlobals "list"=some none)
  (qz6:iB K mainGlobals "range"=some none)
  (qz7:iB K mainGlobals "sorted"=some none)
  (qz8:iB K mainGlobals "str"=some none)
  (qz9:iB K mainGlobals "tuple"=some none)
  (qg0:iB K mainGlobals "JOINING"=some (some (.ref ga0))) (qh0:K.lookup ga0=some ⟨.type "tuple",none,.seq #[.str "plus" gt0_0,.str "minus" gt0_1,.str "times" gt0_2,.str "over" gt0_3,.str "rest" gt0_4,.str "under" gt0_5,.str "same" gt0_6] gn0,#[]⟩)
  (qv0:iB K mainGlobals "Doing"=some (some (.ref ca0)))
  (qv1:iB K mainGlobals "Great"=some (some (.ref ca1)))
  (qv2:iB K mainGlobals "Nought"=some (some (.ref ca2)))
  (qv3:iB K mainGlobals "Run"=some (some (.ref ca3)))
  (pg0:lI K ca0 iP=true) (pd0:lU K ca0=true) (po0:m6 K ca0=true) (pe0:cX K (.ref ca0) "__setattr__"=some (some (.builtin "object.__setattr__"))) (pm0_:ou K ca0=true) (pk0:eW K (.ref ca0)=true)
  (pn0_0:cX K (.ref ca0) "sayings"=some none)
  (pn0_1:cX K (.ref ca0) "slots"=some none)
  (pn0_2:cX K (.ref ca0) "worths"=some none)
  (pg3:lI K ca3 iP=true) (pd3:lU K ca3=true) (po3:m6 K ca3=true) (pe3:cX K (.ref ca3) "__setattr__"=some (some (.builtin "object.__setattr__"))) (pm3_:ou K ca3=true) (pk3:eW K (.ref ca3)=true)
  (pn3_0:cX K (.ref ca3) "at"=some none)
  (pn3_1:cX K (.ref ca3) "code"=some none)
  (pn3_2:cX K (.ref ca3) "gifts"=some none)
  (pn3_3:cX K (.ref ca3) "notes"=some none)
  (pn3_4:cX K (.ref ca3) "sayings"=some none)
  (pn3_5:cX K (.ref ca3) "slots"=some none)
  (pn3_6:cX K (.ref ca3) "why"=some none)
  (rx0:nR K ca2 J9 Yz=true)
  (ry0:QX K ca2)
  (re0_0:gZ K (.ref ca2) (.ref ca1)=some false)
  (re0_1:gZ K (.ref ca2) (.ref ca2)=some true)
  (rm0_0:on K (.ref ca2) [(.ref ca1),(.ref ca2)]=some true)
  (rx1:nR K ca1 J9 Yz=true)
  (ry1:QX K ca1)
  (re1_0:gZ K (.ref ca1) (.ref ca1)=some true)
  (re1_1:gZ K (.ref ca1) (.ref ca2)=some false)
  (rm1_0:on K (.ref ca1) [(.ref ca1),(.ref ca2)]=some true):∃ t,Txt K mg t:=by
 obtain ⟨f0,d0,F0⟩:=QG.a2 X G "cell" "j" h0
 obtain ⟨f1,d1,F1⟩:=QG.a2 X G "cell" "many" h1
 obtain ⟨f2,d2,F2⟩:=QG.a2 X G "cell" "j" h2
 obtain ⟨f3,d3,F3⟩:=QG.a2 X G "cell" "shelves" h3
 obtain ⟨f4,d4,F4⟩:=QG.a2 X G "script" "k" h4
 obtain ⟨f5,d5,F5⟩:=QG.a2 X G "row" "at" h5
 obtain ⟨f6,d6,F6⟩:=QG.a2 X G "rows" "first" h6
 obtain ⟨f7,d7,F7⟩:=QG.a1 X G "rows" h7
 have F8:=V5 (st:=wg) ql8 qc8 qk8
 obtain ⟨f9,d9,F9⟩:=QM.a1 "self" h9
 obtain ⟨f10,d10,F10⟩:=QM.a1 "self" h10
 obtain ⟨f11,d11,F11⟩:=QG.a3 X G "word" "first" "second" h11
 obtain ⟨f12,d12,F12⟩:=QG.a3 X G "word" "first" "second" h12
 obtain ⟨f13,d13,F13⟩:=QG.a1 X G "thing" h13
 obtain ⟨f14,d14,F14⟩:=QG.a3 X G "word" "first" "second" h14
 obtain ⟨f15,d15,F15⟩:=QG.a2 X G "term" "slots" h15
 obtain ⟨f16,d16,F16⟩:=QM.a2 "self" "term" h16
 obtain ⟨f17,d17,F17⟩:=QM.a2 "self" "due" h17
 obtain ⟨f18,d18,F18⟩:=QM.a1 "self" h18
 obtain ⟨f19,d19,F19⟩:=QM.a3 "self" "place" "worth" h19
 obtain ⟨f20,d20,F20⟩:=QM.a3 "self" "due" "worth" h20
 obtain ⟨f21,d21,F21⟩:=QM.a3 "self" "due" "worth" h21
 have F22:=zeb (st:=wj) ql22 qc22 qk22
 obtain ⟨f23,d23,F23⟩:=QG.a2 X G "table" "place" h23
 obtain ⟨f24,d24,F24⟩:=QG.a2 X G "code" "table" h24
 have F25:=V5 (st:=xy) ql25 qc25 qk25
 obtain ⟨f26,d26,F26⟩:=QM.a2 "self" "term" h26
 obtain ⟨f27,d27,F27⟩:=QM.a2 "self" "row" h27
 obtain ⟨f28,d28,F28⟩:=QM.a2 "self" "rows" h28
 obtain ⟨f29,d29,F29⟩:=QG.a2 X G "why" "table" h29
 obtain ⟨f30,d30,F30⟩:=QG.a1 X G "rows" h30
 obtain ⟨f31,d31,F31⟩:=QG.a2 X G "rows" "table" h31
 obtain ⟨f32,d32,F32⟩:=QG.a1 X G "found" h32
 obtain ⟨f33,d33,F33⟩:=QG.a2 X G "notes" "table" h33
 obtain ⟨f34,d34,F34⟩:=QG.a2 X G "table" "gifts" h34
 obtain ⟨f35,d35,F35⟩:=QG.a2 X G "rows" "table" h35
 obtain ⟨f36,d36,F36⟩:=QG.a1 X G "frames" h36
 obtain ⟨f37,d37,F37⟩:=QG.a3 X G "cell" "j" "slots" h37
 obtain ⟨f38,d38,F38⟩:=QG.a3 X G "cell" "j" "slots" h38
 obtain ⟨f39,d39,F39⟩:=QG.a3 X G "cell" "j" "slots" h39
 obtain ⟨f40,d40,F40⟩:=QG.a3 X G "cell" "slots" "shelves" h40
 obtain ⟨f41,d41,F41⟩:=QG.a3 X G "cells" "slots" "shelves" h41
 have F42:=V5 (st:=VF) ql42 qc42 qk42
 exact ⟨⟨f0,d0,f1,d1,f2,d2,f3,d3,f4,d4,f5,d5,f6,d6,f7,d7,f8,_,f9,d9,f10,d10,f11,d11,f12,d12,f13,d13,f14,d14,f15,d15,f16,d16,f17,d17,f18,d18,f19,d19,f20,d20,f21,d21,f22,_,f23,d23,f24,d24,f25,_,f26,d26,f27,d27,f28,d28,f29,d29,f30,d30,f31,d31,f32,d32,f33,d33,f34,d34,f35,d35,f36,d36,f37,d37,f38,d38,f39,d39,f40,d40,f41,d41,f42,_,ga0,ca0,ca1,ca2,ca3⟩,⟨F0,
  F1,
  F2,
  F3,
  F4,
  F5,
  F6,
  F7,
  F8,F8.binds (ps:=["self","code"]) (fun _ _ _ _ _ _ us hl=>match us,hl with | [_,_],_=>rfl),
  F9,
  F10,
  F11,
  F12,
  F13,
  F14,
  F15,
  F16,
  F17,
  F18,
  F19,
  F20,
  F21,
  F22,(fun s us hK hl=>match us,(show us.length=2 by simpa using hl) with | [_,_],_=>.of_defaults (T:=dA22) rfl (hK _ _ qd22) rfl rfl rfl),⟨qa22,qi22,qk22⟩,
  F23,
  F24,
  F25,F25.binds (ps:=["self","table"]) (fun _ _ _ _ _ _ us hl=>match us,hl with | [_,_],_=>rfl),
  F26,
  F27,
  F28,
  F29,
  F30,
  F31,
  F32,
  F33,
  F34,
  F35,
  F36,
  F37,
  F38,
  F39,
  F40,
  F41,
  F42,F42.binds (ps:=["script"]) (fun _ _ _ _ _ _ us hl=>match us,hl with | [_],_=>rfl),nS X G qa42,
  fun s v=>.of_eq rfl,
  eK X G qz0,
  eK X G qz1,
  eK X G qz2,
  eK X G qz3,
  eK X G qz4,
  eK X G qz5,
  eK X G qz6,
  eK X G qz7,
  eK X G qz8,
  eK X G qz9,
  nS X G qg0,fun _=>.inr ⟨_,_,_,qh0,rfl,rfl,(by show 7≤sizeLine;decide),(.cons ⟨_,rfl⟩ (.cons ⟨_,rfl⟩ (.cons ⟨_,rfl⟩ (.cons ⟨_,rfl⟩ (.cons ⟨_,rfl⟩ (.cons ⟨_,rfl⟩ (.cons ⟨_,rfl⟩ .nil)))))))⟩,
  nS X G qv0,
  nS X G qv1,
  nS X G qv2,
  nS X G qv3,
  ⟨pg0,pd0,po0,pe0⟩,
  ⟨pm0_,qa25,qi25,pk0⟩,
  pn0_0,
  pn0_1,
  pn0_2,
  ⟨pg3,pd3,po3,pe3⟩,
  ⟨pm3_,qa8,qi8,pk3⟩,
  pn3_0,
  pn3_1,
  pn3_2,
  pn3_3,
  pn3_4,
  pn3_5,
  pn3_6,
  rx0,
  ry0.to,
  re0_0,
  re0_1,
  rm0_0,
  rx1,
  ry1.to,
  re1_0,
  re1_1,
  rm1_0⟩⟩
structure KF (K:br):Prop where
 i_b:iD K (.type "int") (.type "bool")=some false
 i_s:iD K (.type "int") (.type "str")=some false
 s_i:iD K (.type "str") (.type "int")=some false
 s_b:iD K (.type "str") (.type "bool")=some false
 a1:nM K (.type "tuple") [.type "list",.type "tuple"]=some true
 a2:nM K (.type "list") [.type "list",.type "tuple"]=some true
 a3:nM K (.type "int") [.type "list",.type "tuple"]=some false
 a4:nM K (.type "str") [.type "list",.type "tuple"]=some false
 a5:nM K (.type "int") [.type "int",.type "str"]=some true
 a6:nM K (.type "str") [.type "int",.type "str"]=some true
def fin (t:Adr) (r:Except Er Int) (Q:VK) (E:XK) (H:Hp):Prop:=match r with
 | .ok i=>Q (.int i) H
 | .error .nought=>E (.ref t.c_Nought) none H
 | .error .great=>E (.ref t.c_Great) none H
 | .error .stuck=>True
def Xq (t:Adr) (e:Er) (E:XK) (H:Hp):Prop:=match e with
 | .nought=>E (.ref t.c_Nought) none H
 | .great=>E (.ref t.c_Great) none H
 | .stuck=>True
def zee (K:br):Prop:=iD K (.type "int") (.type "bool")=some false
def NamesAt (H:Hp) (nm:Addr) (ws:List Str):Prop:=H nm=some (.lst (ws.map V.str))∧∀ w∈ws,xC w=true
def wN:Rw→Prop
 | .off _=>False
 | .iff _ _ _=>False
 | _=>True
def qt:Sp:=fun vs H Q _=>∃ i,vs=[.int i]∧∀ H',Same H H'→Q (.bl (inW i)) H'
def ZO (t:Adr):Sp:=fun vs H Q E=>∃ w a b,vs=[.str w,.int a,.int b]∧w.length≤1000∧inW a=true∧inW b=true∧∀ H',Same H H'→if b=0 then E (.ref t.c_Nought) none H' else Q (.int (if w="over" then a.fdiv b else a.fmod b)) H'
def ZP (t:Adr):Sp:=fun vs H Q E=>∃ w a b,vs=[.str w,.int a,.int b]∧w.length≤1000∧inW a=true∧inW b=true∧∀ H',Same H H'→if Y4 w∧b=0 then E (.ref t.c_Nought) none H' else Q (.int (vm w a b)) H'
def YI (t:Adr):Sp:=fun vs H Q E=>∃ w a b,vs=[.str w,.int a,.int b]∧w.length≤1000∧inW a=true∧inW b=true∧∀ H',Same H H'→fin t (wX w a b) Q E H'
def wJ (t:Adr):Sp:=fun vs H Q E=>∃ kvs tm sl ps r,vs=[.ref tm,.ref sl]∧H tm=some (.tup ps)∧H sl=some (.dK kvs)∧Good kvs ps r∧(∀ v∈ps,jR v)∧ps.length≤1000∧yo kvs∧∀ H',Same H H'→fin t r Q E H'
inductive Cs where
 | row (r:Rw)
 | skip (e:List V) (to:Nat)
 | go (en:Nat)
def Rws.isNil:Rws→Bool
 | .nil=>true
 | .cons _ _=>false
def blk (e:List V) (k:Nat) (A:List Cs) (nl:Bool) (B:List Cs):List Cs :=
 if nl=true then .skip e (k + 1 + A.length) :: A else .skip e (k + 2 + A.length) :: (A ++ (.go (k + 2 + A.length + B.length) :: B))
mutual
def yw:Rw→Nat→List Cs
 | .iff e a b,k=>blk e k (zm a (k + 1)) (Rws.isNil b) (zm b (k + 2 + (zm a (k + 1)).length))
 | r,_=>[.row r]
def zm:Rws→Nat→List Cs
 | .nil,_=>[]
 | .cons r rs,k=>yw r k ++ zm rs (k + (yw r k).length)
end
def Jx:Rw→Prop
 | .iff _ _ _=>False
 | _=>True
def CsAt (H:Hp) (v:V):Cs→Prop
 | .row r=>RwAt vc H v r∧Jx r
 | .skip e to=>∃ p te,v=.ref p∧H p=some (.tup [.str "skip",.ref te,.int (to:Nat)])∧H te=some (.tup e)
 | .go en=>∃ p,v=.ref p∧H p=some (.tup [.str "go",.int (en:Nat)])
structure kO (n:Nat) (r:Rws):Prop where
 dp:r.deep < n
 ct:r.cnt≤500
 pl:yS r
def qu (n:Nat):Sp:=fun vs H Q _=>∃ (v:V) (e:List V) (a b:Rws) (k:Nat),vs=[v,.int k]∧RwAt vc H v (.iff e a b)∧kO n a∧kO n b∧k + (yw (.iff e a b) k).length≤500∧∀ l xs H',Same H H'→H' l=some (.lst xs)→Paired (CsAt H') xs (yw (.iff e a b) k)→Q (.ref l) H'
def xu (n:Nat):Sp:=fun vs H Q _=>∃ (v:V) (r:Rws) (k:Nat),vs=[v,.int k]∧kL vc H v r∧kO n r∧k + (zm r k).length≤500∧∀ l xs H',Same H H'→H l=none→H' l=some (.lst xs)→Paired (CsAt H') xs (zm r k)→Q (.ref l) H'
def ZQ:Sp:=fun vs H Q _=>∃ (v:V) (r:Rws),vs=[v]∧kL vc H v r∧kO 6 r∧(zm r 0).length≤500∧∀ l xs H',Same H H'→H l=none→H' l=some (.lst xs)→Paired (CsAt H') xs (zm r 0)→Q (.ref l) H'
structure RSt where
 n:Nat
 why:Option Str
 sl:List (Key × V)
 gi:List Row
 no:List Row
 sa:List Int
structure RAd where
 dx:Addr
 co:Addr
 sl:Addr
 gi:Addr
 no:Addr
 sa:Addr
def zf3:Option Str→V
 | none=>.non
 | some w=>.str w
def zf4 (a:RAd) (s:RSt):List (Str × V):=[(bb "code",.ref a.co),(bb "at",.int s.n),(bb "why",zf3 s.why),(bb "slots",.ref a.sl),(bb "gifts",.ref a.gi),(bb "notes",.ref a.no),(bb "sayings",.ref a.sa)]
structure RnAt (t:Adr) (H:Hp) (x:Addr) (a:RAd) (C:List Cs) (s:RSt):Prop where
 ix:H x=some (.ins t.c_Run a.dx (zf4 a s))
 hc:∃ xs,H a.co=some (.lst xs)∧Paired (CsAt H) xs C
 hs:H a.sl=some (.dK s.sl)
 hg:H a.gi=some (.dT (dOf s.gi))
 hn:H a.no=some (.dT (dOf s.no))
 ha:H a.sa=some (.lst (s.sa.map V.int))
 ng:a.gi≠a.no
 nc:a.co≠a.sa
def Ow (x:Addr) (a:RAd) (b:Addr):Prop:=b=x∨b=a.sl∨b=a.gi∨b=a.no∨b=a.sa
def OwA (x:Addr) (a:RAd) (b:Addr):Prop:=Ow x a b∨b=a.co
def Kp (x:Addr) (a:RAd) (H H':Hp):Prop:=∀ b o,¬ Ow x a b→H b=some o→H' b=some o
def Y9 (x:Addr) (H H':Hp):Prop:=∀ b o,b≠x→H b=some o→H' b=some o
structure RnOk (m:Nat) (s:RSt):Prop where
 so:yo s.sl
 gw:∀ r∈s.gi,inW r.2=true
 nw:∀ r∈s.no,inW r.2=true
 l1:s.sl.length≤m
 l2:s.gi.length≤m
 l3:s.no.length≤m
 l4:s.sa.length≤m
 nd:(s.no.map (·.1)).Nodup
def Xr:Cs→Prop
 | .row r=>xG r
 | .skip e _=>TermOk e
 | .go _=>True
def yh (C:List Cs) (s:RSt):Bool:=s.why.isSome || decide (C.length≤s.n)
def yU (p:Pl) (w:Int) (s:RSt):RSt:=if (zr s.gi p).isSome=true∨(zr s.no p).isSome=true then s else { s with no:=s.no ++ [(p,w)] }
def wm (p:Pl) (w:Int) (s:RSt):Int:=(zr s.gi p).getD ((zr s.no p).getD w)
def doR:Rw→Int→RSt→Except Er RSt
 | .take sh e x,w,s=>match rk s.sl e with
  | .error er=>.error er
  | .ok n=>.ok { yU (sh,n) w s with sl:=yB s.sl (.inr x) (.int (wm (sh,n) w s)) }
 | .give sh e f,_,s=>match rk s.sl e with
  | .error er=>.error er
  | .ok n=>match rk s.sl f with
   | .error er=>.error er
   | .ok i=>.ok { s with gi:=s.gi ++ [((sh,n),i)] }
 | .lt x e,_,s=>match rk s.sl e with
  | .error er=>.error er
  | .ok i=>.ok { s with sl:=yB s.sl (.inr x) (.int i) }
 | .say e,_,s=>match rk s.sl e with
  | .error er=>.error er
  | .ok i=>.ok { s with sa:=s.sa ++ [i] }
 | _,_,s=>.ok s
def yr:Cs→Int→RSt→Except Er (Nat × RSt)
 | .go k,_,s=>.ok (k,s)
 | .skip e to,_,s=>match rk s.sl e with
  | .error er=>.error er
  | .ok i=>.ok (if i=0 then to else s.n + 1,s)
 | .row (.off e),_,s=>match rk s.sl e with
  | .error er=>.error er
  | .ok i=>.ok (s.n + 1,if i=0 then s else { s with why:=some (bb "told") })
 | .row r,w,s=>match doR r w s with
  | .error er=>.error er
  | .ok s'=>.ok (s.n + 1,s')
def zT (c:Cs) (w:Int) (s:RSt):RSt:=match yr c w s with
 | .ok (k,s')=>{ s' with n:=k }
 | .error er=>{ s with why:=some (We er) }
def xz (C:List Cs) (w:Int) (s:RSt):RSt:=if yh C s=true then s else match C[s.n]? with
 | none=>s
 | some c=>zT c w s
def wd (c:Cs) (s:RSt):Option Pl:=match c with
 | .row (.take sh e _)=>match rk s.sl e with
  | .error _=>none
  | .ok n=>if (zr s.gi (sh,n)).isSome=true∨(zr s.no (sh,n)).isSome=true then none else some (sh,n)
 | _=>none
def vz (C:List Cs) (s:RSt):Option Pl:=if yh C s=true then none else (C[s.n]?).bind fun c=>wd c s
abbrev VG (H:Hp) (v:V) (q:Row):Prop:=PrAt H v q
abbrev vA (H:Hp) (vs:List V) (rows:List Row):Prop:=Paired (PrAt H) vs rows
def LsAt (H:Hp) (a:Addr) (rows:List Row):Prop:=∃ xs,H a=some (.lst xs)∧Paired (PrAt H) xs rows
def Zd (H:Hp) (v:V):Oc→Prop
 | .done sa=>∃ o y,v=.ref o∧H o=some (.tup [.str "done",.ref y])∧H y=some (.tup (sa.map V.int))
 | .off w=>∃ o,v=.ref o∧H o=some (.tup [.str "off",.str w])
def wO (s:RSt):Oc:=match s.why with
 | some w=>.off w
 | none=>.done s.sa
def vS (s:RSt) (out:List Row):Prop:=match s.why with
 | some _=>out=[]
 | none=>Rising out∧∀ p w,(p,w)∈out↔zr s.gi p=some w
structure RnF (K:br) (t:Adr):Prop where
 cl:Cls K t.c_Run
 n1:NoAttr K t.c_Run "code"
 n2:NoAttr K t.c_Run "at"
 n3:NoAttr K t.c_Run "why"
 n4:NoAttr K t.c_Run "slots"
 n5:NoAttr K t.c_Run "gifts"
 n6:NoAttr K t.c_Run "notes"
 n7:NoAttr K t.c_Run "sayings"
def st0:RSt:=⟨0,none,[],[],[],[]⟩
def Xa (t:Adr):Sp:=fun vs H Q _=>∃ (x l dx:Addr) (xs:List V) (C:List Cs),vs=[.ref x,.ref l]∧H x=some (.ins t.c_Run dx [])∧H l=some (.lst xs)∧Paired (CsAt H) xs C∧∀ H' a,Y9 x H H'→RnAt t H' x a C st0→(∀ b,OwA x a b→b=x∨H b=none)→Q .non H'
def xv (t:Adr):Sp:=fun vs H Q _=>∃ (x:Addr) (a:RAd) (C:List Cs) (s:RSt),vs=[.ref x]∧RnAt t H x a C s∧∀ H',Same H H'→Q (.bl (yh C s)) H'
def yc (t:Adr):Sp:=fun vs H Q E=>∃ (x tm:Addr) (e:List V) (a:RAd) (C:List Cs) (s:RSt),vs=[.ref x,.ref tm]∧RnAt t H x a C s∧yo s.sl∧H tm=some (.tup e)∧TermOk e∧∀ H',Same H H'→fin t (rk s.sl e) Q E H'
def y8 (t:Adr):Sp:=fun vs H Q E=>∃ (x p:Addr) (xs:List V) (sh:Str) (te:Addr) (e:List V) (a:RAd) (C:List Cs) (s:RSt),vs=[.ref x,.ref p]∧RnAt t H x a C s∧yo s.sl∧H p=some (.tup xs)∧atI xs 1=some (.str sh)∧atI xs 2=some (.ref te)∧H te=some (.tup e)∧TermOk e ∧
 (∀ i q H',rk s.sl e=.ok i→Same H H'→H' q=some (.tup [.str sh,.int i])→Q (.ref q) H')∧∀ er H',rk s.sl e=.error er→Same H H'→Xq t er E H'
def Yj (t:Adr):Sp:=fun vs H Q _=>∃ (x q:Addr) (p:Pl) (w:Int) (a:RAd) (C:List Cs) (s:RSt),vs=[.ref x,.ref q,.int w]∧RnAt t H x a C s∧H q=some (.tup [.str p.1,.int p.2])∧s.no.length≤900∧∀ H',Kp x a H H'→RnAt t H' x a C (yU p w s)→Q (.int (wm p w s)) H'
def Xb (t:Adr):Sp:=fun vs H Q E=>∃ (x:Addr) (v:V) (r:Rw) (w:Int) (m:Nat) (a:RAd) (C:List Cs) (s:RSt),vs=[.ref x,v,.int w]∧RnAt t H x a C s∧RwAt vc H v r∧wN r∧xG r∧RnOk m s∧m≤900 ∧
 (∀ H' s',doR r w s=.ok s'→Kp x a H H'→RnAt t H' x a C s'→Q .non H')∧∀ H' er,doR r w s=.error er→Same H H'→Xq t er E H'
def jb (t:Adr):Sp:=fun vs H Q E=>∃ (x:Addr) (v:V) (c:Cs) (w:Int) (m:Nat) (a:RAd) (C:List Cs) (s:RSt),vs=[.ref x,v,.int w]∧RnAt t H x a C s∧CsAt H v c∧Xr c∧RnOk m s∧m≤900 ∧
 (∀ H' s' k,yr c w s=.ok (k,s')→Kp x a H H'→RnAt t H' x a C s'→Q (.int (k:Nat)) H')∧∀ H' er,yr c w s=.error er→Same H H'→Xq t er E H'
def Xc (t:Adr):Sp:=fun vs H Q _=>∃ (x:Addr) (w:Int) (m:Nat) (a:RAd) (C:List Cs) (s:RSt),vs=[.ref x,.int w]∧RnAt t H x a C s∧(∀ c∈C,Xr c)∧RnOk m s∧m≤900∧∀ H',Kp x a H H'→RnAt t H' x a C (xz C w s)→Q .non H'
def Xd (t:Adr):Sp:=fun vs H Q _=>∃ (x:Addr) (a:RAd) (C:List Cs) (s:RSt),vs=[.ref x]∧RnAt t H x a C s∧(∀ c∈C,Xr c)∧yo s.sl∧(∀ H',vz C s=none→Same H H'→Q .non H')∧∀ p q H',vz C s=some p→Same H H'→H' q=some (.tup [.str p.1,.int p.2])→Q (.ref q) H'
def Yk (t:Adr):Sp:=fun vs H Q _=>∃ (x:Addr) (a:RAd) (C:List Cs) (s:RSt),vs=[.ref x]∧RnAt t H x a C s∧s.no.length≤900∧(s.no.map (·.1)).Nodup∧s.gi.length≤63∧(∀ H',yh C s=false→Same H H'→Q .non H') ∧
 ∀ r o nl gl out H',yh C s=true→Same H H'→H nl=none→H gl=none→nl≠gl→H' r=some (.tup [o,.ref nl,.ref gl])→Zd H' o (wO s)→LsAt H' nl s.no→LsAt H' gl out→vS s out→Q (.ref r) H'
def yI (K:br):Sp:=fun vs H Q _=>∃ (a:Addr) (ns:List Int) (k:Nat),vs=[.ref a,.int k]∧SqL K H a (ns.map V.int)∧ns.length≤63∧∀ c H',Same H H'→Q (.int c) H'
def zl:Sp:=fun vs H Q _=>∃ c j,vs=[.int c,.int j]∧0≤j∧j≤1000∧∀ r H',0≤r→r < 2147483648→Same H H'→Q (.int r) H'
def wx:Sp:=fun vs H Q _=>∃ c m,vs=[.int c,.int m]∧0≤m∧m≤6∧∀ nm ws H',Same H H'→NamesAt H' nm ws→(ws.length:Int)=m→Q (.ref nm) H'
def nmP (p:Pl):Prop:=xC p.1=true
structure rwV (r:Rw):Prop where
 ni:Jx r
 pl:xZ r
 ok:xG r
 nm:Xl nmP r
def yf:Sp:=fun vs H Q _=>∃ c j,vs=[.int c,.int j]∧0≤j∧j≤900∧∀ w H',inW w=true→Same H H'→Q (.int w) H'
def lfV (v:V):Prop:=(∃ i,v=.int i∧inW i=true)∨∃ x,v=.str x∧xC x=true
def ve:Sp:=fun vs H Q _=>∃ c j a ws,vs=[.int c,.int j,.ref a]∧0≤j∧j≤800∧NamesAt H a ws∧ws.length=3∧∀ v H',lfV v→Same H H'→Q v H'
def wdJ (w:Str):Prop:=isJ (.str w)=true∧w.length≤1000∧b6 w=true
def yM:Sp:=fun vs H Q _=>∃ c j a ws,vs=[.int c,.int j,.ref a]∧0≤j∧j≤700∧NamesAt H a ws∧ws.length=3∧∀ p e H',Same H H'→H p=none→H' p=some (.tup e)→TermOk e→tmP e→Q (.ref p) H'
def jZ:Sp:=fun vs H Q _=>∃ c j a ws,vs=[.int c,.int j,.ref a]∧0≤j∧j≤600∧NamesAt H a ws∧ws.length=3∧∀ p e H',Same H H'→H p=none→H' p=some (.tup e)→TermOk e→tmP e→Q (.ref p) H'
def qv:Sp:=fun vs H Q _=>∃ c a b ws us,vs=[.int c,.ref a,.ref b]∧NamesAt H a ws∧ws.length=3∧NamesAt H b us∧us.length=3∧∀ v r H',Same H H'→RwAt (fun b=>H b=none) H' v r→rwV r→Q v H'
structure Gm where
 e:List V
 a:Option Rws
 D:Rws
def FsAt (F:Addr→Prop) (H:Hp):List Gm→List V→List Addr→Prop
 | [],fs,sp=>fs=[]∧sp=[]
 | g :: gs,fs,sp=>∃ f tv fi c xs fs' sp',fs=.ref f :: fs'∧sp=f :: c :: sp'∧H f=some (.lst [tv,fi,.ref c])∧H c=some (.lst xs)∧RwsAt F H xs g.D∧(gs≠[]→∃ te,tv=.ref te∧F te∧H te=some (.tup g.e)∧tmP g.e) ∧
  ((g.a=none∧fi=.non)∨∃ a ys A,g.a=some A∧fi=.ref a∧F a∧H a=some (.lst ys)∧RwsAt F H ys A)∧FsAt F H gs fs' sp'
def Fz (H0:Hp) (sp:List Addr) (FR:Addr) (b:Addr):Prop:=b ∉ sp∧b≠FR∧H0 b=none
structure FZ (H0 H:Hp) (FR:Addr) (gs:List Gm) (fs:List V) (sp:List Addr):Prop where
 sm:Same H0 H
 hf:H FR=some (.lst fs.reverse)
 fa:FsAt (Fz H0 sp FR) H gs fs sp
 nd:sp.Nodup
 nf:FR ∉ sp
 fr:∀ a∈sp,H0 a=none
 f0:H0 FR=none
def ZR (g h:Gm):Gm:={ h with D:=h.D.snoc (match g.a with | none=>.iff g.e g.D .nil | some A=>.iff g.e A g.D) }
def xw:Sp:=fun vs H Q _=>∃ FR H0 g h gs fs sp,vs=[.ref FR]∧FZ H0 H FR (g :: h :: gs) fs sp∧h.D.cnt≤500∧∀ fs' sp' H',FZ H0 H' FR (ZR g h :: gs) fs' sp'→Q .non H'
mutual
def szR:Rw→Nat
 | .iff _ a b=>yQ a + yQ b + 2
 | _=>1
def yQ:Rws→Nat
 | .nil=>0
 | .cons r rs=>szR r + yQ rs
end
def zfq (q:Row):Prop:=inW q.2=true∧b6 q.1.1=true
def j0:Sp:=fun vs H Q _=>∃ (p:Addr) (ns:List Int) (a b:Addr) (ws us:List Str),vs=[.ref p,.ref a,.ref b]∧H p=some (.lst (ns.map V.int))∧ns.length≤18∧NamesAt H a ws∧ws.length=3∧NamesAt H b us∧us.length=3∧∀ v r H',Same H H'→kL (fun b=>H b=none) H' v r→kO 6 r→yq r→(zm r 0).length≤2 * ns.length→r.cnt≤2 * ns.length→Q v H'
def zef:Cs→Prop
 | .row r=>xZ r
 | _=>True
structure zcW (C:List Cs):Prop where
 ok:∀ c∈C,Xr c
 pl:∀ c∈C,zef c
 fw:∀ (i to:Nat) (e:List V),C[i]?=some (Cs.skip e to)→i < to
 fg:∀ (i to:Nat),C[i]?=some (Cs.go to)→i < to
 le:C.length≤40
structure RnI (C:List Cs) (m:Nat) (s:RSt):Prop where
 ok:RnOk m s
 ng:∀ r∈s.gi,b6 r.1.1=true
 nn:∀ r∈s.no,b6 r.1.1=true
 at_:s.why=none→m≤s.n
 wy:∀ w,s.why=some w→b6 w=true
structure DoF (K:br) (t:Adr):Prop where
 cl:Cls K t.c_Doing
 n1:NoAttr K t.c_Doing "slots"
 n2:NoAttr K t.c_Doing "worths"
 n3:NoAttr K t.c_Doing "sayings"
structure DoAt (t:Adr) (H0 H:Hp) (x dx sl wo sa:Addr) (s:Sta):Prop where
 sm:Same H0 H
 f1:H0 sl=none
 f2:H0 wo=none
 f3:H0 sa=none
 ix:H x=some (.ins t.c_Doing dx [("slots",.ref sl),("worths",.ref wo),("sayings",.ref sa)])
 hs:H sl=some (.dK s.sl)
 hw:H wo=some (.dT (dOf s.wo))
 ha:H sa=some (.lst (s.sa.map V.int))
structure KN (rws:Rws) (tab:List Row):Prop where
 ok:yq rws
 dp:rws.deep < 6
 iw:∀ r∈tab,inW r.2=true
 ln:tab.length + rws.cnt≤500
 fw:∀ s,yH rws ⟨[],tab,[]⟩=.go s→(dOf s.wo).length≤900
def jc (t:Adr):Sp:=fun vs H Q _=>∃ x a tab H0 dx,vs=[.ref x,.ref a]∧Same H0 H∧H0 x=none∧H x=some (.ins t.c_Doing dx [])∧LsAt H0 a tab∧tab.length≤500 ∧
 ∀ H' sl wo sa,DoAt t H0 H' x dx sl wo sa ⟨[],tab,[]⟩→Q .non H'
def zY (t:Adr):Sp:=fun vs H Q E=>∃ x tm e H0 dx sl wo sa s,vs=[.ref x,.ref tm]∧DoAt t H0 H x dx sl wo sa s∧yo s.sl∧H tm=some (.tup e)∧TermOk e∧∀ H',Same H H'→fin t (rk s.sl e) Q E H'
def Zh (t:Adr):Sp:=fun vs H Q E=>∃ x v r m H0 dx sl wo sa s,vs=[.ref x,v]∧DoAt t H0 H x dx sl wo sa s∧RwAt vc H0 v r∧wN r∧xG r∧StOk m s∧m≤900 ∧
 (∀ H' s',goR r s=.go s'→DoAt t H0 H' x dx sl wo sa s'→Q .non H')∧∀ H' e,goR r s=.er e→Same H0 H'→Xq t e E H'
def yj (t:Adr) (n:Nat):Sp:=fun vs H Q E=>∃ x l xs rws m H0 dx sl wo sa s,vs=[.ref x,.ref l]∧DoAt t H0 H x dx sl wo sa s∧H0 l=some (.lst xs)∧RwsAt vc H0 xs rws∧yq rws∧rws.deep < n∧StOk m s∧m + rws.cnt≤900 ∧
 (∀ H' s',yH rws s=.go s'→DoAt t H0 H' x dx sl wo sa s'→Q (.bl true) H')∧(∀ H',yH rws s=.off→Same H0 H'→Q (.bl false) H')∧∀ H' e,yH rws s=.er e→Same H0 H'→Xq t e E H'
def yO:Sp:=fun vs H Q _=>∃ (w:Str) (a:Addr) (tab:List Row),vs=[.str w,.ref a]∧LsAt H a tab∧∀ r o l H',Same H H'→H l=none→H' r=some (.tup [o,.ref l])→Zd H' o (.off w)→LsAt H' l tab→Q (.ref r) H'
def qw:Sp:=fun vs H Q _=>∃ a rows,vs=[.ref a]∧LsAt H a rows∧(dOf rows).length≤900∧rows.length≤1000∧∀ l out H',Same H H'→H l=none→LsAt H' l out→xS rows out→Q (.ref l) H'
def Wm:Sp:=fun vs H Q _=>∃ v a rws tab,vs=[v,.ref a]∧kL vc H v rws∧LsAt H a tab∧KN rws tab∧∀ r o l oc out H',Same H H'→H l=none→H' r=some (.tup [o,.ref l])→Zd H' o oc→LsAt H' l out→vp rws tab oc out→Q (.ref r) H'
def VH:Sp:=fun vs H Q _=>∃ (l q:Addr) (rows:List Row) (p:Pl),vs=[.ref l,.ref q]∧LsAt H l rows∧rows.length≤500∧H q=some (.tup [.str p.1,.int p.2])∧∀ H',Same H H'→Q (.int ((zr rows p).getD 0)) H'
def YJ (rows:List Row) (p:Pl):Int:=(zr rows p).getD 0
def Xs (C:List Cs) (tb:Pl→Int) (s:RSt):Int:=match vz C s with
 | none=>0
 | some p=>tb p
def j3 (C:List Cs) (tb:Pl→Int) (s:RSt):RSt:=xz C (Xs C tb s) s
def Jy (C:List Cs) (tb:Pl→Int):Nat→RSt→RSt
 | 0,s=>s
 | k + 1,s=>Jy C tb k (j3 C tb s)
def Rch (C:List Cs) (tb:Pl→Int) (s s':RSt):Prop:=∃ k,Jy C tb k s=s'
structure FedR (C:List Cs) (rows:List Row) (s:RSt):Prop where
 ov:yh C s=true
 rc:Rch C (YJ rows) st0 s
 ri:∃ m,m≤C.length∧RnI C m s
 fw:s.gi.length + s.no.length≤C.length
def zeg (H0 H:Hp) (r:Addr) (s:RSt):Prop:=∃ o nl gl out,H r=some (.tup [o,.ref nl,.ref gl])∧Zd H o (wO s)∧LsAt H nl s.no∧LsAt H gl out∧vS s out∧H0 nl=none∧H0 gl=none
def YK (t:Adr):Sp:=fun vs H Q _=>∃ (l tl:Addr) (xs:List V) (C:List Cs) (rows:List Row),vs=[.ref l,.ref tl]∧H l=some (.lst xs)∧Paired (CsAt H) xs C∧zcW C∧LsAt H tl rows∧rows.length≤500∧(∀ r∈rows,inW r.2=true)∧∀ r s H',Same H H'→FedR C rows s→zeg H H' r s→Q (.ref r) H'
structure TaN (tab:List Row):Prop where
 ri:Rising tab
 ok:∀ r∈tab,zfq r∧r.2≠0
def jd:Sp:=fun vs H Q _=>∃ c b us,vs=[.int c,.ref b]∧NamesAt H b us∧us.length=3∧∀ l tab H',Same H H'→LsAt H' l tab→TaN tab→tab.length≤7→Q (.ref l) H'
def xI:Sp:=fun vs H Q _=>∃ (l:Addr) (rows:List Row),vs=[.ref l]∧LsAt H l rows∧∀ H',Same H H'→Q (.bl true) H'
def je:Sp:=fun vs H Q _=>∃ (nl tl:Addr) (no tab:List Row),vs=[.ref nl,.ref tl]∧LsAt H nl no∧LsAt H tl tab∧(no.map (·.1)).Nodup∧(∀ r∈no,YJ tab r.1=r.2)∧no.length≤500∧tab.length≤500∧∀ H',Same H H'→Q (.bl true) H'
def j4:Sp:=fun vs H Q _=>∃ (a b:Addr) (tab gifts:List Row),vs=[.ref a,.ref b]∧LsAt H a tab∧LsAt H b gifts∧Rising gifts∧(tab ++ gifts).length≤900∧∀ l out H',Same H H'→LsAt H' l out→xS (tab ++ gifts) out→Q (.ref l) H'
def j5:Sp:=fun vs H Q _=>∃ (v:V) (tl:Addr) (r:Rws) (tab:List Row),vs=[v,.ref tl]∧kL vc H v r∧kO 6 r∧yq r∧(zm r 0).length≤40∧r.cnt≤40∧LsAt H tl tab∧TaN tab∧tab.length≤400∧∀ l out H',Same H H'→LsAt H' l out→TaN out→out.length≤tab.length + (zm r 0).length→Q (.ref l) H'
def sp_law (K:br):Sp:=fun vs H Q _=>∃ (a:Addr) (ns:List Int),vs=[.ref a]∧SqL K H a (ns.map V.int)∧ns.length≤63∧∀ H',Q (.bl true) H'
def j6 (K:br) (t:Adr):TS:=(zp (zV (tOp (rI (fun _ j=>0 < j) fun i j=>.int (i % j)) (tOp (rI0 fun i j=>.int (i + j)) (tOp (rI CMulB fun i j=>.int (i * j)) (tOp (rI (fun _ j=>0 < j) fun i j=>.int (i % j)) (zc 0) (tC (.int 1000000007))) (tC (.int 6700417))) (tOp (rI CMulB fun i j=>.int (i * j)) (tOp (rI CMulB fun i j=>.int (i * j)) (tOp (rI0 fun i j=>.int (i + j)) (zc 1) (tC (.int 1))) (tC (.int 104729))) (tC (.int 65537)))) (tC (.int 1000000009))) (zw 2))
  (zE (tOp (rI zb4 fun i j=>.int (i / j)) (tOp (rI (fun _ j=>0 < j) fun i j=>.int (i % j)) (tOp (rI CMulB fun i j=>.int (i * j)) (tOp (rI (fun _ j=>0 < j) fun i j=>.int (i % j)) (tOp (rI CMulB fun i j=>.int (i * j)) (zc 2) (zc 2)) (tC (.int 1000000009))) (zc 2)) (tC (.int 1000000009))) (tC (.int 32)))))
def wP (K:br) (t:Adr):TS:=(zE (Y3 (Z0 (zb (zc 1) zi)) (zw 0) ze8 (tOp XZ (tOp XZ (tSl QB (zc 1) w5 (kt (zc 2))) (tOp zbS (zc 3) (zc 0))) (tSl QB (zc 1) (kt (tOp (rI0 fun i j=>.int (i + j)) (zc 2) (tC (.int 1)))) w5)) 1 [4,6,3]))
def wQ (K:br) (t:Adr):TS:=(zp (zV (tOp (rI (fun _ j=>0 < j) fun i j=>.int (i % j)) (zo zl [] E0 (zb (zc 0) (zb (tC (.int 8)) zi))) (zc 2)) (zw 6))
  (zp (zV (tOp (rI (fun _ j=>0 < j) fun i j=>.int (i % j)) (zo zl [] E0 (zb (zc 0) (zb (tC (.int 9)) zi))) (tCB (xW K) (zb (zc 3) zi))) (zw 7))
  (zp (zV (tOp XZ (tSl QB (zc 3) (kt (zc 7)) w5) (tSl QB (zc 3) w5 (kt (zc 7)))) (zw 3))
  (wP K t))))
def wR (K:br) (t:Adr):TS:=(zp (zV (tC (.str "")) (zw 4))
  (zp (v5 (Z0 (zb (zc 2) zi)) (zw 5)
    (zV (tOp XZ (zc 4) (tOp zbS (zc 3) (tOp (rI (fun _ j=>0 < j) fun i j=>.int (i % j)) (zo zl [] E0 (zb (zc 0) (zb (tOp (rI0 fun i j=>.int (i + j)) (tC (.int 2)) (zc 5)) zi))) (tCB (xW K) (zb (zc 3) zi))))) (zw 4)))
  (wQ K t)))
def jf (K:br) (t:Adr):TS:=(zp (zV (tOp (rI0 fun i j=>.int (i + j)) (tC (.int 1)) (tOp (rI (fun _ j=>0 < j) fun i j=>.int (i % j)) (zo zl [] E0 (zb (zc 0) (zb (tC (.int 1)) zi))) (tC (.int 6)))) (zw 2))
  (zp (zV (tC (.str "zyxwvtsrqpnmlkjhgfdcb")) (zw 3))
  (zp (zM (zq (tOp rEq (zc 2) (tC (.int 6))))
    (zV (tC (.str "zyxwvutsrqponmlkjihgfedcba")) (zw 3))
    zJ)
  (wR K t))))
def vB (K:br) (t:Adr):TS:=(zp (zM (zq (tOp rEq (tOp (rI (fun _ j=>0 < j) fun i j=>.int (i % j)) (zo zl [] E0 (zb (zc 0) (zb (zc 1) zi))) (tC (.int 10))) (tC (.int 3))))
   (zE (tOp (rI0 fun i j=>.int (i - j)) (tOp (rI (fun _ j=>0 < j) fun i j=>.int (i % j)) (tOp (rI0 fun i j=>.int (i + j)) (tOp (rI CMulB fun i j=>.int (i * j)) (tOp (rI CMulB fun i j=>.int (i * j)) (tOp (rI (fun _ j=>0 < j) fun i j=>.int (i % j)) (zc 0) (tOp (rI JX fun i j=>.int (i ^ j.toNat)) (tC (.int 10)) (tC (.int 40)))) (tOp (rI0 fun i j=>.int (i + j)) (zc 1) (tC (.int 2)))) (tC (.int 1000003))) (zc 1)) (tOp (rI0 fun i j=>.int (i + j)) (tOp (rI CMulB fun i j=>.int (i * j)) (tC (.int 2)) (tOp (rI JX fun i j=>.int (i ^ j.toNat)) (tC (.int 10)) (tC (.int 30)))) (tC (.int 1)))) (tOp (rI JX fun i j=>.int (i ^ j.toNat)) (tC (.int 10)) (tC (.int 30)))))
   zJ)
  (zE (tOp (rI0 fun i j=>.int (i - j)) (tOp (rI (fun _ j=>0 < j) fun i j=>.int (i % j)) (zo zl [] E0 (zb (zc 0) (zb (tOp (rI0 fun i j=>.int (i + j)) (zc 1) (tC (.int 1))) zi))) (tC (.int 6))) (tC (.int 2)))))
def kz (K:br) (t:Adr):TS:=(wA (zc 2) (yx (zb (tOp (yn K) (zc 1) (tOp (rI (fun _ j=>0 < j) fun i j=>.int (i % j)) (zo zl [] E0 (zb (zc 0) (zb (tOp (rI0 fun i j=>.int (i + j)) (tC (.int 60)) (zc 3)) zi))) (tC (.int 3)))) (zb (tOp (rI0 fun i j=>.int (i - j)) (tOp (rI (fun _ j=>0 < j) fun i j=>.int (i % j)) (zo zl [] E0 (zb (zc 0) (zb (tOp (rI0 fun i j=>.int (i + j)) (tC (.int 70)) (zc 3)) zi))) (tC (.int 4))) (tC (.int 1))) zi))) (zc 4))
def kA (K:br) (t:Adr):TS:=(zp (zV (zo yf [] E0 (zb (zc 0) (zb (tOp (rI0 fun i j=>.int (i + j)) (tC (.int 30)) (tOp (rI CMulB fun i j=>.int (i * j)) (tC (.int 3)) (zc 3))) zi))) (zw 4))
  (zM (zq (tOp rNe (zc 4) (tC (.int 0))))
   (kz K t)
   zJ))
def kB (K:br) (t:Adr):TS:=(zp (v5 (Z0 (zb (tOp (rI (fun _ j=>0 < j) fun i j=>.int (i % j)) (zo zl [] E0 (zb (zc 0) (zb (tC (.int 20)) zi))) (tC (.int 8))) zi)) (zw 3)
   (kA K t))
  (zE (tCB Ky (zb (qg (zc 2)) zi))))
def jg (K:br) (t:Adr):TS:=(zp (zV Zz (zw 2))
  (kB K t))
def wS (K:br) (t:Adr):TS:=(zp (zM (zq (tOp (rI0 fun i j=>.bl (decide (i < j))) (zc 1) (tCB (xW K) (zb (zc 0) zi))))
   (zE (tOp (yn K) (zc 0) (zc 1)))
   zJ)
  (zE (tC (.int 0))))
def YL (K:br) (t:Adr) (n:Nat):TS:=(zE (tOp zbY (xo (zb (yx (zb (tC (.str "skip")) (zb (tOp (zU K) (zc 0) (tC (.int 1))) (zb (zc 3) zi)))) zi)) (zc 2)))
def YM (K:br) (t:Adr) (n:Nat):TS:=(zp (zV (zo (xu  n) [] E0 (zb (tOp (zU K) (zc 0) (tC (.int 3))) (zb (tOp (rI0 fun i j=>.int (i + j)) (zc 3) (tC (.int 1))) zi))) (zw 4))
  (zE (tOp zbY (tOp zbY (tOp zbY (xo (zb (yx (zb (tC (.str "skip")) (zb (tOp (zU K) (zc 0) (tC (.int 1))) (zb (tOp (rI0 fun i j=>.int (i + j)) (zc 3) (tC (.int 1))) zi)))) zi)) (zc 2)) (xo (zb (yx (zb (tC (.str "go")) (zb (tOp (rI0 fun i j=>.int (i + j)) (tOp (rI0 fun i j=>.int (i + j)) (zc 3) (tC (.int 1))) (tCB (xW K) (zb (zc 4) zi))) zi))) zi))) (zc 4))))
def jz (K:br) (t:Adr) (n:Nat):TS:=(zp (zM (zq (tOp (zce K) (tOp (zU K) (zc 0) (tC (.int 3))) (xo zi)))
   (YL K t n)
   zJ)
  (YM K t n))
def qx (K:br) (t:Adr) (n:Nat):TS:=(zp (zV (zo (xu  n) [] E0 (zb (tOp (zU K) (zc 0) (tC (.int 2))) (zb (tOp (rI0 fun i j=>.int (i + j)) (zc 1) (tC (.int 1))) zi))) (zw 2))
  (zp (zV (tOp (rI0 fun i j=>.int (i + j)) (tOp (rI0 fun i j=>.int (i + j)) (zc 1) (tC (.int 1))) (tCB (xW K) (zb (zc 2) zi))) (zw 3))
  (jz K t n)))
def Xe (K:br) (t:Adr) (n:Nat):TS:=(zp (zV (xo zi) (zw 2))
  (zp (v5 (jn K (zc 0)) (zw 3)
    (zM (zq (tOp rEq (tOp (zU K) (zc 3) (tC (.int 0))) (tC (.str "if"))))
    (xh (tBM K "list" KI (zc 2) (zb (zo (qu  n) [] E0 (zb (zc 3) (zb (tOp (rI0 fun i j=>.int (i + j)) (zc 1) (tCB (xW K) (zb (zc 2) zi))) zi))) zi)))
    (xh (tBM K "list" yd (zc 2) (zb (zc 3) zi)))))
  (zE (zc 2))))
def ZS (K:br) (t:Adr):TS:=(zE (zo (xu  6) [] E0 (zb (zc 0) (zb (tC (.int 0)) zi))))
def Xf (K:br) (t:Adr):TS:=(zp (kU K (zc 0) (tCB (Ke K) (zb (zc 1) zi)) "code")
  (zp (kU K (zc 0) (tC (.int 0)) "at")
  (zp (kU K (zc 0) (tC .non) "why")
  (zp (kU K (zc 0) V4 "slots")
  (zp (kU K (zc 0) Zz "gifts")
  (zp (kU K (zc 0) Zz "notes")
  (kU K (zc 0) (xo zi) "sayings")))))))
def qy (K:br) (t:Adr):TS:=(zE (zeY (tOp zap (yG K (zc 0) "why") (tC .non)) (tOp (rI0 fun i j=>.bl (decide (j≤i))) (yG K (zc 0) "at") (tCB (xW K) (zb (yG K (zc 0) "code") zi)))))
def qz (K:br) (t:Adr):TS:=(zp (zM (zq (tOp zap (yG K (zc 0) "why") (tC .non)))
   (zE (yx (zb (yx (zb (tC (.str "off")) (zb (yG K (zc 0) "why") zi))) (zb (zc 1) (zb (xo zi) zi)))))
   zJ)
  (zE (yx (zb (yx (zb (tC (.str "done")) (zb (tCB (zdS K) (zb (yG K (zc 0) "sayings") zi)) zi))) (zb (zc 1) (zb (tCB Ky (zb (qg (yG K (zc 0) "gifts")) zi)) zi))))))
def qA (K:br) (t:Adr):TS:=(zp (zV (tCB Kw (zb (qg (yG K (zc 0) "notes")) zi)) (zw 1))
  (qz K t))
def j7 (K:br) (t:Adr):TS:=(zp (zM (x9 (tB (yt t.c_Run "over" (xv t) [] E0 (zc 0) zi)))
   (zE (tC .non))
   zJ)
  (qA K t))
def ZT (K:br) (t:Adr) (E:XK):TS:=(zp (zM (zq (tOp rEq (zc 2) (tC (.int 0))))
   (X1 t.c_Nought (zb (Kb (zc 0)) zi) E)
   zJ)
  (zE (tIf (zq (tOp rEq (zc 0) (tC (.str "over")))) (tOp (rI zeI fun i j=>.int (i.fdiv j)) (zc 1) (zc 2)) (tOp (rI (fun _ j=>j≠0) fun i j=>.int (i.fmod j)) (zc 1) (zc 2)))))
def ZU (K:br) (t:Adr) (E:XK):TS:=(zp (zM (zq (tOp rEq (zc 0) (tC (.str "plus"))))
   (zE (tOp (rI0 fun i j=>.int (i + j)) (zc 1) (zc 2)))
   zJ)
  (zp (zM (zq (tOp rEq (zc 0) (tC (.str "minus"))))
    (zE (tOp (rI0 fun i j=>.int (i - j)) (zc 1) (zc 2)))
    zJ)
  (zp (zM (zq (tOp rEq (zc 0) (tC (.str "times"))))
    (zE (tOp (rI CMulB fun i j=>.int (i * j)) (zc 1) (zc 2)))
    zJ)
  (zp (zM (zq (tOp rEq (zc 0) (tC (.str "under"))))
    (zE (tIf (zq (tOp (rI0 fun i j=>.bl (decide (i < j))) (zc 1) (zc 2))) (tC (.int 1)) (tC (.int 0))))
    zJ)
  (zp (zM (zq (tOp rEq (zc 0) (tC (.str "same"))))
    (zE (tIf (zq (tOp rEq (zc 1) (zc 2))) (tC (.int 1)) (tC (.int 0))))
    zJ)
  (zE (zo (ZO t) [] E (zb (zc 0) (zb (zc 1) (zb (zc 2) zi))))))))))
def qB (K:br) (t:Adr):TS:=(zp (zM (tOr (x9 (tB (tCB (kJ K) (zb (zc 0) (zb (tC (.ty "int")) zi))))) (tB (tCB (kJ K) (zb (zc 0) (zb (tC (.ty "bool")) zi)))))
   (zE (tC (.bl false)))
   zJ)
  (zE (Qr (rI0 fun i j=>.bl (decide (i≤j))) (rI0 fun i j=>.bl (decide (i≤j))) (tUn (rU fun i=>.int (-i)) (tOp (rI JX fun i j=>.int (i ^ j.toNat)) (tC (.int 10)) (tC (.int 30)))) (zc 0) (tOp (rI JX fun i j=>.int (i ^ j.toNat)) (tC (.int 10)) (tC (.int 30))))))
def YN (K:br) (t:Adr) (E:XK):TS:=(zp (zV (zo (ZP t) [] E (zb (zc 0) (zb (zc 1) (zb (zc 2) zi)))) (zw 3))
  (zp (zM (x9 (tB (zo qt [] E (zb (zc 3) zi))))
    (X1 t.c_Great (zb (Kb (zc 0)) zi) E)
    zJ)
  (zE (zc 3))))
def Zi (K:br) (t:Adr) (E:XK):TS:=(zp (zV (Qw K "list" js (zc 2)) (zw 4))
  (zp (zV (Qw K "list" js (zc 2)) (zw 5))
  (xh (tBM K "list" yd (zc 2) (zb (zo (YI t) [] E (zb (zc 3) (zb (zc 5) (zb (zc 4) zi)))) zi)))))
def Zj (K:br) (t:Adr) (E:XK):TS:=(xh (tBM K "list" yd (zc 2) (zb (tIf (tB (tCB (kJ K) (zb (zc 3) (zb (tC (.ty "str")) zi)))) (wM (zc 1) (zc 3) (tC (.int 0))) (zc 3)) zi)))
def Zk (K:br) (t:Adr) (E:XK):TS:=(zM (zq (tOp (rIn K false) (zc 3) (tC (.ref t.c_JOINING))))
   (Zi K t E)
   (Zj K t E))
def qC (K:br) (t:Adr) (E:XK):TS:=(zp (zV (xo zi) (zw 2))
  (zp (v5 (ze1 K (zc 0)) (zw 3)
    (Zk K t E))
  (zE (Qw K "list" js (zc 2)))))
def wT (K:br) (t:Adr) (E:XK):TS:=(zE (zo (wJ t) [] E (zb (zc 1) (zb (yG K (zc 0) "slots") zi))))
def wU (K:br) (t:Adr) (E:XK):TS:=(zE (yx (zb (tOp (zU K) (zc 1) (tC (.int 1))) (zb (yt t.c_Run "worth_of" (yc t) [] E (zc 0) (zb (tOp (zU K) (zc 1) (tC (.int 2))) zi)) zi))))
def WN (K:br) (t:Adr):TS:=(zp (zM (tOr (zq (tOp (Jk false) (zc 1) (yG K (zc 0) "gifts"))) (zq (tOp (Jk false) (zc 1) (yG K (zc 0) "notes"))))
   (zE (tC .non))
   zJ)
  (zE (zc 1)))
def WO (K:br) (t:Adr):TS:=(zp (zeN K (zat (YC t.c_Run "place_in" (y8 t) (zc 0) (zb (tOp (yn K) (yG K (zc 0) "code") (yG K (zc 0) "at")) zi)) 1) t.c_Great t.c_Nought (zE (tC .non)))
  (WN K t))
def Xg (K:br) (t:Adr):TS:=(zp (zM (tOr (tB (yt t.c_Run "over" (xv t) [] E0 (zc 0) zi)) (zq (tOp rNe (tOp (zU K) (tOp (yn K) (yG K (zc 0) "code") (yG K (zc 0) "at")) (tC (.int 0))) (tC (.str "take")))))
   (zE (tC .non))
   zJ)
  (WO K t))
def j8 (K:br) (t:Adr):TS:=(zp (zM (zq (tOp (Jk false) (zc 1) (yG K (zc 0) "gifts")))
   (zE (XX (yG K (zc 0) "gifts") (zc 1)))
   zJ)
  (zp (zM (zq (tOp (Jk true) (zc 1) (yG K (zc 0) "notes")))
    (wA (yG K (zc 0) "notes") (zc 1) (zc 2))
    zJ)
  (zE (XX (yG K (zc 0) "notes") (zc 1)))))
def WP (K:br) (t:Adr) (E:XK):TS:=(wA (yG K (zc 0) "slots") (tOp (zU K) (zc 1) (tC (.int 1))) (yt t.c_Run "worth_of" (yc t) [] E (zc 0) (zb (tOp (zU K) (zc 1) (tC (.int 2))) zi)))
def Zl (K:br) (t:Adr) (E:XK):TS:=(xh (tBM K "list" yd (yG K (zc 0) "sayings") (zb (yt t.c_Run "worth_of" (yc t) [] E (zc 0) (zb (tOp (zU K) (zc 1) (tC (.int 1))) zi)) zi)))
def WQ (K:br) (t:Adr) (E:XK):TS:=(zp (zV (yt t.c_Run "place_in" (y8 t) [] E (zc 0) (zb (zc 1) zi)) (zw 3))
  (wA (yG K (zc 0) "gifts") (zc 3) (yt t.c_Run "worth_of" (yc t) [] E (zc 0) (zb (tOp (zU K) (zc 1) (tC (.int 3))) zi))))
def WR (K:br) (t:Adr) (E:XK):TS:=(wA (yG K (zc 0) "slots") (tOp (zU K) (zc 1) (tC (.int 3))) (yt t.c_Run "taken" (Yj t) [] E (zc 0) (zb (yt t.c_Run "place_in" (y8 t) [] E (zc 0) (zb (zc 1) zi)) (zb (zc 2) zi))))
def Xh (K:br) (t:Adr) (E:XK):TS:=(zM (zq (tOp rEq (tOp (zU K) (zc 1) (tC (.int 0))) (tC (.str "take"))))
   (WR K t E)
   (zM (zq (tOp rEq (tOp (zU K) (zc 1) (tC (.int 0))) (tC (.str "give"))))
   (WQ K t E)
   (zM (zq (tOp rEq (tOp (zU K) (zc 1) (tC (.int 0))) (tC (.str "let"))))
   (WP K t E)
   (Zl K t E))))
def Xt (K:br) (t:Adr) (E:XK):TS:=(zM (zq (tOp rNe (yt t.c_Run "worth_of" (yc t) [] E (zc 0) (zb (tOp (zU K) (zc 1) (tC (.int 1))) zi)) (tC (.int 0))))
   (kU K (zc 0) (tC (.str "told")) "why")
   zJ)
def Xu (K:br) (t:Adr) (E:XK):TS:=(xh (yt t.c_Run "does" (Xb t) [] E (zc 0) (zb (zc 1) (zb (zc 2) zi))))
def Xv (K:br) (t:Adr) (E:XK):TS:=(zE (tIf (zq (tOp rEq (yt t.c_Run "worth_of" (yc t) [] E (zc 0) (zb (tOp (zU K) (zc 1) (tC (.int 1))) zi)) (tC (.int 0)))) (tOp (zU K) (zc 1) (tC (.int 2))) (tOp (rI0 fun i j=>.int (i + j)) (yG K (zc 0) "at") (tC (.int 1)))))
def Xw (K:br) (t:Adr) (E:XK):TS:=(zp (zM (zq (tOp rEq (tOp (zU K) (zc 1) (tC (.int 0))) (tC (.str "off"))))
   (Xt K t E)
   (Xu K t E))
  (zE (tOp (rI0 fun i j=>.int (i + j)) (yG K (zc 0) "at") (tC (.int 1)))))
def Xx (K:br) (t:Adr) (E:XK):TS:=(zp (zM (zq (tOp rEq (tOp (zU K) (zc 1) (tC (.int 0))) (tC (.str "skip"))))
   (Xv K t E)
   zJ)
  (Xw K t E))
def Zm (K:br) (t:Adr) (E:XK):TS:=(zp (zM (zq (tOp rEq (tOp (zU K) (zc 1) (tC (.int 0))) (tC (.str "go"))))
   (zE (tOp (zU K) (zc 1) (tC (.int 1))))
   zJ)
  (Xx K t E))
def qD (K:br) (t:Adr):TS:=(zp (zM (tB (yt t.c_Run "over" (xv t) [] E0 (zc 0) zi))
   zbL
   zJ)
  (Wb K (zcQ K (zc 0) (YC t.c_Run "led_by" (jb t) (zc 0) (zb (tOp (yn K) (yG K (zc 0) "code") (yG K (zc 0) "at")) (zb (zc 1) zi))) "at") t.c_Great (kU K (zc 0) (tC (.str "great")) "why") t.c_Nought (kU K (zc 0) (tC (.str "nought")) "why")))
def YO (K:br) (t:Adr):TS:=(zE (wM (tCB qf (zb (zc 0) zi)) (zc 1) (tC (.int 0))))
def zcX (K:br) (t:Adr):TS:=(zp (zV (zag t.c_Run (Xa t) [] E0 (zb (zc 0) zi)) (zw 2))
  (zp (VU (x9 (tB (yt t.c_Run "over" (xv t) [] E0 (zc 2) zi))) (zp (zV (yt t.c_Run "asks" (Xd t) [] E0 (zc 2) zi) (zw 3))
  (xh (yt t.c_Run "step" (Xc t) [] E0 (zc 2) (zb (tIf (zq (tOp zdK (zc 3) (tC .non))) (tC (.int 0)) (zo VH [] E0 (zb (zc 1) (zb (zc 3) zi)))) zi)))))
  (zE (yt t.c_Run "paper" (Yk t) [] E0 (zc 2) zi))))
def jh (K:br) (t:Adr):TS:=(zp (kU K (zc 0) V4 "slots")
  (zp (kU K (zc 0) (tCB qf (zb (zc 1) zi)) "worths")
  (kU K (zc 0) (xo zi) "sayings")))
def x0 (K:br) (t:Adr) (E:XK):TS:=(zE (zo (wJ t) [] E (zb (zc 1) (zb (yG K (zc 0) "slots") zi))))
def Xy (K:br) (t:Adr) (E:XK):TS:=(wA (yG K (zc 0) "slots") (tOp (zU K) (zc 1) (tC (.int 1))) (yt t.c_Doing "worth_of" (zY t) [] E (zc 0) (zb (tOp (zU K) (zc 1) (tC (.int 2))) zi)))
def kC (K:br) (t:Adr) (E:XK):TS:=(xh (tBM K "list" yd (yG K (zc 0) "sayings") (zb (yt t.c_Doing "worth_of" (zY t) [] E (zc 0) (zb (tOp (zU K) (zc 1) (tC (.int 1))) zi)) zi)))
def Xz (K:br) (t:Adr) (E:XK):TS:=(wA (yG K (zc 0) "worths") (zc 2) (yt t.c_Doing "worth_of" (zY t) [] E (zc 0) (zb (tOp (zU K) (zc 1) (tC (.int 3))) zi)))
def kD (K:br) (t:Adr) (E:XK):TS:=(zp (zV (yx (zb (tOp (zU K) (zc 1) (tC (.int 1))) (zb (yt t.c_Doing "worth_of" (zY t) [] E (zc 0) (zb (tOp (zU K) (zc 1) (tC (.int 2))) zi)) zi))) (zw 2))
  (Xz K t E))
def kE (K:br) (t:Adr) (E:XK):TS:=(wA (yG K (zc 0) "slots") (tOp (zU K) (zc 1) (tC (.int 3))) (wM (yG K (zc 0) "worths") (yx (zb (tOp (zU K) (zc 1) (tC (.int 1))) (zb (yt t.c_Doing "worth_of" (zY t) [] E (zc 0) (zb (tOp (zU K) (zc 1) (tC (.int 2))) zi)) zi))) (tC (.int 0))))
def Zn (K:br) (t:Adr) (E:XK):TS:=(zM (zq (tOp rEq (tOp (zU K) (zc 1) (tC (.int 0))) (tC (.str "take"))))
   (kE K t E)
   (zM (zq (tOp rEq (tOp (zU K) (zc 1) (tC (.int 0))) (tC (.str "give"))))
   (kD K t E)
   (zM (zq (tOp rEq (tOp (zU K) (zc 1) (tC (.int 0))) (tC (.str "let"))))
   (Xy K t E)
   (kC K t E))))
def jA (K:br) (t:Adr) (n:Nat) (E:XK):TS:=(zM (x9 (tB (yt t.c_Doing "goes_through" (yj t n) [] E (zc 0) (zb (tIf (zq (tOp rNe (yt t.c_Doing "worth_of" (zY t) [] E (zc 0) (zb (tOp (zU K) (zc 2) (tC (.int 1))) zi)) (tC (.int 0)))) (tOp (zU K) (zc 2) (tC (.int 2))) (tOp (zU K) (zc 2) (tC (.int 3)))) zi))))
   (zE (tC (.bl false)))
   zJ)
def jB (K:br) (t:Adr) (n:Nat) (E:XK):TS:=(xh (yt t.c_Doing "does" (Zh t) [] E (zc 0) (zb (zc 2) zi)))
def jC (K:br) (t:Adr) (n:Nat) (E:XK):TS:=(zM (zq (tOp rNe (yt t.c_Doing "worth_of" (zY t) [] E (zc 0) (zb (tOp (zU K) (zc 2) (tC (.int 1))) zi)) (tC (.int 0))))
   (zE (tC (.bl false)))
   zJ)
def jD (K:br) (t:Adr) (n:Nat) (E:XK):TS:=(zM (zq (tOp rEq (tOp (zU K) (zc 2) (tC (.int 0))) (tC (.str "off"))))
   (jC K t n E)
   (zM (zq (tOp rEq (tOp (zU K) (zc 2) (tC (.int 0))) (tC (.str "if"))))
   (jA K t n E)
   (jB K t n E)))
def we (K:br) (t:Adr) (n:Nat) (E:XK):TS:=(zp (v5 (jn K (zc 1)) (zw 2)
   (jD K t n E))
  (zE (tC (.bl true))))
def ji (K:br) (t:Adr):TS:=(zE (yx (zb (yx (zb (tC (.str "off")) (zb (zc 0) zi))) (zb (tCB (Ke K) (zb (zc 1) zi)) zi))))
def vX (K:br) (t:Adr):TS:=(zp (zV (tCB qf (zb (zc 0) zi)) (zw 1))
  (zE (Y3 (jn K (tCB zcu (zb (zc 1) zi))) (zw 0) (zq (tOp rNe (XX (zc 1) (zc 0)) (tC (.int 0)))) (yx (zb (zc 0) (zb (XX (zc 1) (zc 0)) zi))) 1 [1])))
def ZV (K:br) (t:Adr):TS:=(zp (zM (x9 (tB (zc 3)))
   (zE (zo yO [] E0 (zb (tC (.str "told")) (zb (zc 1) zi))))
   zJ)
  (zE (yx (zb (yx (zb (tC (.str "done")) (zb (tCB (zdS K) (zb (yG K (zc 2) "sayings") zi)) zi))) (zb (zo qw [] E0 (zb (tCB Kw (zb (qg (yG K (zc 2) "worths")) zi)) zi)) zi)))))
def ZW (K:br) (t:Adr):TS:=(zp (Wb K (zat (YC t.c_Doing "goes_through" (yj t 6) (zc 2) (zb (zc 0) zi)) 3) t.c_Great (zE (zo yO [] E0 (zb (tC (.str "great")) (zb (zc 1) zi)))) t.c_Nought (zE (zo yO [] E0 (zb (tC (.str "nought")) (zb (zc 1) zi)))))
  (ZV K t))
def Wn (K:br) (t:Adr):TS:=(zp (zV (zag t.c_Doing (jc t) [] E0 (zb (zc 1) zi)) (zw 2))
  (ZW K t))
def vY (K:br) (t:Adr):TS:=(zM (tOr (x9 (tB (tCB (kJ K) (zb (zc 2) (zb (tC (.ty "int")) zi))))) (tB (tCB (kJ K) (zb (zc 2) (zb (tC (.ty "bool")) zi)))))
   (zE (tC (.bl false)))
   zJ)
def vZ (K:br) (t:Adr):TS:=(v5 (jn K (xo (zb (tOp (zU K) (tOp (zU K) (zc 1) (tC (.int 0))) (tC (.int 1))) (zb (tOp (zU K) (zc 1) (tC (.int 1))) zi)))) (zw 2)
   (vY K t))
def v0 (K:br) (t:Adr):TS:=(zp (zM (tOr (x9 (tB (tCB (kJ K) (zb (zc 1) (zb (tC (.ty "tuple")) zi))))) (tOr (zq (tOp rNe (tCB (xW K) (zb (zc 1) zi)) (tC (.int 2)))) (tOr (x9 (tB (tCB (kJ K) (zb (tOp (zU K) (zc 1) (tC (.int 0))) (zb (tC (.ty "tuple")) zi))))) (zq (tOp rNe (tCB (xW K) (zb (tOp (zU K) (zc 1) (tC (.int 0))) zi)) (tC (.int 2)))))))
   (zE (tC (.bl false)))
   zJ)
  (vZ K t))
def wV (K:br) (t:Adr):TS:=(zp (zM (x9 (tB (tCB (kJ K) (zb (zc 0) (zb (tC (.ty "list")) zi)))))
   (zE (tC (.bl false)))
   zJ)
  (zp (v5 (jn K (zc 0)) (zw 1)
    (v0 K t))
  (zE (tC (.bl true)))))
def kF (K:br) (t:Adr):TS:=(zp (v5 (jn K (zc 0)) (Qm K 2 (Ze (zw 4) (Ze (zw 5) Ql)))
   (zp (zM (tOr (zq (tOp (Jk false) (zc 4) (zc 3))) (zq (tOp rNe (wM (zc 2) (zc 4) (tC (.int 0))) (zc 5))))
   (zE (tC (.bl false)))
   zJ)
  (wA (zc 3) (zc 4) (tC (.bl true)))))
  (zE (tC (.bl true))))
def jj (K:br) (t:Adr):TS:=(zp (zV (tCB qf (zb (zc 1) zi)) (zw 2))
  (zp (zV Zz (zw 3))
  (kF K t)))
def vC (K:br) (t:Adr):TS:=(wA (zc 2) (tOp (zU K) (tOp (yn K) (zc 1) (zc 3)) (tC (.int 0))) (tOp (zU K) (tOp (yn K) (zc 1) (zc 3)) (tC (.int 1))))
def qE (K:br) (t:Adr):TS:=(zp (zM (ZZ (zq (tOp (rI0 fun i j=>.bl (decide (j < i))) (zc 3) (tC (.int 0)))) (x9 (zq (tOp zfn (tOp (zU K) (tOp (yn K) (zc 1) (tOp (rI0 fun i j=>.int (i - j)) (zc 3) (tC (.int 1)))) (tC (.int 0))) (tOp (zU K) (tOp (yn K) (zc 1) (zc 3)) (tC (.int 0)))))))
   (zE (tC .non))
   zJ)
  (vC K t))
def vD (K:br) (t:Adr):TS:=(zfZ (zE (tCB (zcO K) (zb (Y3 (zfp (zc 2)) (Qm K 2 (Ze (zw 0) (Ze (zw 1) Ql))) (zq (tOp rNe (zc 1) (tC (.int 0)))) (yx (zb (zc 0) (zb (zc 1) zi))) 2 []) zi))))
def qF (K:br) (t:Adr):TS:=(zp (v5 (Z0 (zb (tCB (xW K) (zb (zc 1) zi)) zi)) (zw 3)
   (qE K t))
  (vD K t))
def j9 (K:br) (t:Adr):TS:=(zp (zV (tCB qf (zb (zc 0) zi)) (zw 2))
  (qF K t))
def vE (K:br) (t:Adr):TS:=(zp (zM (tOr (zq (tOp (WI K true) (zc 3) (zc 2))) (tOr (zq (tOp (WI K true) (zc 4) (zc 1))) (zq (tOp (WI K true) (zo (YK t) [] E0 (zb (zc 3) (zb (zc 4) zi))) (zc 5)))))
   (zE (tC .non))
   zJ)
  (zE (zc 7)))
def vF (K:br) (t:Adr):TS:=(zp (zM (ZZ (zq (tOp rEq (tOp (zU K) (zc 6) (tC (.int 0))) (tC (.str "off")))) (zq (tOp (QO K) (tOp (zU K) (zc 5) (tC (.int 2))) (xo zi))))
   (zE (tC .non))
   zJ)
  (vE K t))
def vG (K:br) (t:Adr):TS:=(zp (zM (tOr (zq (tOp (WI K true) (tOp (zU K) (zc 5) (tC (.int 0))) (zc 6))) (tOr (x9 (tB (zo je [] E0 (zb (tOp (zU K) (zc 5) (tC (.int 1))) (zb (zc 1) zi))))) (zq (tOp (WI K true) (zo j4 [] E0 (zb (zc 1) (zb (tOp (zU K) (zc 5) (tC (.int 2))) zi))) (zc 7)))))
   (zE (tC .non))
   zJ)
  (vF K t))
def qG (K:br) (t:Adr):TS:=(zp (zV (zo Wm [] E0 (zb (zc 0) (zb (tCB (Ke K) (zb (zc 1) zi)) zi))) (Qm K 2 (Ze (zw 6) (Ze (zw 7) Ql))))
  (vG K t))
def vH (K:br) (t:Adr):TS:=(zp (zM (tOr (x9 (tB (tCB (kJ K) (zb (zc 5) (zb (tC (.ty "tuple")) zi))))) (tOr (zq (tOp rNe (tCB (xW K) (zb (zc 5) zi)) (tC (.int 3)))) (tOr (x9 (tB (zo xI [] E0 (zb (tOp (zU K) (zc 5) (tC (.int 1))) zi)))) (x9 (tB (zo xI [] E0 (zb (tOp (zU K) (zc 5) (tC (.int 2))) zi)))))))
   (zE (tC .non))
   zJ)
  (qG K t))
def ka (K:br) (t:Adr):TS:=(zp (zV (zo ZQ [] E0 (zb (zc 0) zi)) (zw 2))
  (zp (zV (tCB (Ke K) (zb (zc 2) zi)) (zw 3))
  (zp (zV (tCB (Ke K) (zb (zc 1) zi)) (zw 4))
  (zp (zV (zo (YK t) [] E0 (zb (zc 3) (zb (zc 4) zi))) (zw 5))
  (vH K t)))))
def YQ (K:br) (t:Adr):TS:=(xh (tBM K "list" yd (tOp (yn K) (tOp (yn K) (zc 0) (tUn (rU fun i=>.int (-i)) (tC (.int 1)))) (tC (.int 2))) (zb (yx (zb (tC (.str "if")) (zb (tOp (yn K) (zc 1) (tC (.int 0))) (zb (tOp (yn K) (zc 1) (tC (.int 2))) (zb (xo zi) zi))))) zi)))
def YR (K:br) (t:Adr):TS:=(xh (tBM K "list" yd (tOp (yn K) (tOp (yn K) (zc 0) (tUn (rU fun i=>.int (-i)) (tC (.int 1)))) (tC (.int 2))) (zb (yx (zb (tC (.str "if")) (zb (tOp (yn K) (zc 1) (tC (.int 0))) (zb (tOp (yn K) (zc 1) (tC (.int 1))) (zb (tOp (yn K) (zc 1) (tC (.int 2))) zi))))) zi)))
def qH (K:br) (t:Adr):TS:=(zp (zV (Qw K "list" js (zc 0)) (zw 1))
  (zM (zq (tOp zdK (tOp (yn K) (zc 1) (tC (.int 1))) (tC .non)))
   (YQ K t)
   (YR K t)))
def kc (K:br) (t:Adr):TS:=(zp (zM (zq (tOp (rI0 fun i j=>.bl (decide (i < j))) (tOp (rI (fun _ j=>0 < j) fun i j=>.int (i % j)) (zo zl [] E0 (zb (zc 0) (zb (tOp (rI0 fun i j=>.int (i + j)) (zc 1) (tC (.int 5))) zi))) (tC (.int 5))) (tC (.int 3))))
   (zE (tOp (yn K) (zc 2) (tOp (rI (fun _ j=>0 < j) fun i j=>.int (i % j)) (zo zl [] E0 (zb (zc 0) (zb (tOp (rI0 fun i j=>.int (i + j)) (zc 1) (tC (.int 6))) zi))) (tC (.int 3)))))
   zJ)
  (zE (zo yf [] E0 (zb (zc 0) (zb (zc 1) zi)))))
def vI (K:br) (t:Adr):TS:=(zp (zV (tOp (rI (fun _ j=>0 < j) fun i j=>.int (i % j)) (zo zl [] E0 (zb (zc 0) (zb (zc 1) zi))) (tC (.int 8))) (zw 7))
  (zp (zM (zq (tOp (rI0 fun i j=>.bl (decide (i < j))) (zc 7) (tC (.int 3))))
    (zE (yx (zb (zc 5) zi)))
    zJ)
  (zp (zM (zq (tOp (rI0 fun i j=>.bl (decide (i < j))) (zc 7) (tC (.int 6))))
    (zE (yx (zb (zc 5) (zb (zc 6) (zb (zc 4) zi)))))
    zJ)
  (zp (zM (zq (tOp rEq (zc 7) (tC (.int 6))))
    (zE (yx (zb (zc 5) (zb (zc 6) (zb (zc 4) (zb (zo yf [] E0 (zb (zc 0) (zb (tOp (rI0 fun i j=>.int (i + j)) (zc 1) (tC (.int 20))) zi))) (zb (tOp (yn K) (zc 3) (tOp (rI (fun _ j=>0 < j) fun i j=>.int (i % j)) (zo zl [] E0 (zb (zc 0) (zb (tOp (rI0 fun i j=>.int (i + j)) (zc 1) (tC (.int 3))) zi))) (tC (.int 10)))) zi)))))))
    zJ)
  (zE (yx (zb (zc 5) (zb (zo yf [] E0 (zb (zc 0) (zb (tOp (rI0 fun i j=>.int (i + j)) (zc 1) (tC (.int 20))) zi))) (zb (zc 6) (zb (tOp (yn K) (zc 3) (tOp (rI (fun _ j=>0 < j) fun i j=>.int (i % j)) (zo zl [] E0 (zb (zc 0) (zb (tOp (rI0 fun i j=>.int (i + j)) (zc 1) (tC (.int 3))) zi))) (tC (.int 10)))) (zb (zc 4) zi)))))))))))
def ke (K:br) (t:Adr):TS:=(zp (zV (xo (zb (tC (.str "plus")) (zb (tC (.str "minus")) (zb (tC (.str "times")) (zb (tC (.str "over")) (zb (tC (.str "rest")) (zb (tC (.str "under")) (zb (tC (.str "same")) (zb (tC (.str "plus")) (zb (tC (.str "times")) (zb (tC (.str "minus")) zi))))))))))) (zw 3))
  (zp (zV (tOp (yn K) (zc 3) (tOp (rI (fun _ j=>0 < j) fun i j=>.int (i % j)) (zo zl [] E0 (zb (zc 0) (zb (tOp (rI0 fun i j=>.int (i + j)) (zc 1) (tC (.int 2))) zi))) (tC (.int 10)))) (zw 4))
  (zp (zV (zo ve [] E0 (zb (zc 0) (zb (tOp (rI0 fun i j=>.int (i + j)) (zc 1) (tC (.int 1))) (zb (zc 2) zi)))) (zw 5))
  (zp (zV (zo ve [] E0 (zb (zc 0) (zb (tOp (rI0 fun i j=>.int (i + j)) (zc 1) (tC (.int 10))) (zb (zc 2) zi)))) (zw 6))
  (vI K t)))))
def kg (K:br) (t:Adr):TS:=(zp (zM (zq (tOp rEq (tOp (rI (fun _ j=>0 < j) fun i j=>.int (i % j)) (zo zl [] E0 (zb (zc 0) (zb (zc 1) zi))) (tC (.int 3))) (tC (.int 0))))
   (zE (zo yM [] E0 (zb (zc 0) (zb (tOp (rI0 fun i j=>.int (i + j)) (zc 1) (tC (.int 1))) (zb (zc 2) zi)))))
   zJ)
  (zE (yx (zb (tOp (rI0 fun i j=>.int (i - j)) (tOp (rI (fun _ j=>0 < j) fun i j=>.int (i % j)) (zo zl [] E0 (zb (zc 0) (zb (tOp (rI0 fun i j=>.int (i + j)) (zc 1) (tC (.int 2))) zi))) (tC (.int 4))) (tC (.int 1))) zi))))
def Zo (K:br) (t:Adr):TS:=(zp (zV (xo (zb (yx (zb (zc 5) (zb (tC (.int 0)) (zb (tOp (yn K) (xo (zb (tC (.str "over")) (zb (tC (.str "rest")) zi))) (tOp (rI (fun _ j=>0 < j) fun i j=>.int (i % j)) (zo zl [] E0 (zb (zc 0) (zb (tC (.int 163)) zi))) (tC (.int 2)))) zi)))) (zb (yx (zb (tOp (rI JX fun i j=>.int (i ^ j.toNat)) (tC (.int 10)) (tC (.int 30))) (zb (tC (.int 1)) (zb (tC (.str "plus")) zi)))) zi))) (zw 6))
  (zE (yx (zb (tC (.str "give")) (zb (zc 4) (zb (tOp (yn K) (zc 6) (tOp (rI (fun _ j=>0 < j) fun i j=>.int (i % j)) (zo zl [] E0 (zb (zc 0) (zb (tC (.int 164)) zi))) (tC (.int 2)))) (zb (tOp (yn K) (zc 6) (tOp (rI0 fun i j=>.int (i - j)) (tC (.int 1)) (tOp (rI (fun _ j=>0 < j) fun i j=>.int (i % j)) (zo zl [] E0 (zb (zc 0) (zb (tC (.int 164)) zi))) (tC (.int 2))))) zi)))))))
def Zq (K:br) (t:Adr):TS:=(zE (yx (zb (tC (.str "say")) (zb (zo yM [] E0 (zb (zc 0) (zb (tC (.int 80)) (zb (zc 1) zi)))) zi))))
def Zr (K:br) (t:Adr):TS:=(zp (zM (ZZ (zq (tOp rEq (zc 3) (tC (.int 11)))) (zq (tOp rEq (tOp (rI (fun _ j=>0 < j) fun i j=>.int (i % j)) (zo zl [] E0 (zb (zc 0) (zb (tC (.int 162)) zi))) (tC (.int 3))) (tC (.int 0)))))
   (Zo K t)
   zJ)
  (Zq K t))
def WS (K:br) (t:Adr):TS:=(zp (zM (zq (tOp rEq (zc 3) (tC (.int 10))))
   (zE (yx (zb (tC (.str "off")) (zb (yx (zb (zc 5) (zb (zo yf [] E0 (zb (zc 0) (zb (tC (.int 81)) zi))) (zb (tC (.str "same")) zi)))) zi))))
   zJ)
  (Zr K t))
def WT (K:br) (t:Adr):TS:=(zp (zM (zq (tOp rEq (zc 3) (tC (.int 9))))
   (zE (yx (zb (tC (.str "let")) (zb (zc 5) (zb (zo yM [] E0 (zb (zc 0) (zb (tC (.int 80)) (zb (zc 1) zi)))) zi)))))
   zJ)
  (WS K t))
def WU (K:br) (t:Adr):TS:=(zp (zM (zq (tOp (rI0 fun i j=>.bl (decide (i < j))) (zc 3) (tC (.int 9))))
   (zE (yx (zb (tC (.str "give")) (zb (zc 4) (zb (zo jZ [] E0 (zb (zc 0) (zb (tC (.int 20)) (zb (zc 1) zi)))) (zb (zo yM [] E0 (zb (zc 0) (zb (tC (.int 80)) (zb (zc 1) zi)))) zi))))))
   zJ)
  (WT K t))
def Zs (K:br) (t:Adr):TS:=(zp (zM (zq (tOp (rI0 fun i j=>.bl (decide (i < j))) (zc 3) (tC (.int 5))))
   (zE (yx (zb (tC (.str "take")) (zb (zc 4) (zb (zo jZ [] E0 (zb (zc 0) (zb (tC (.int 20)) (zb (zc 1) zi)))) (zb (zc 5) zi))))))
   zJ)
  (WU K t))
def qI (K:br) (t:Adr):TS:=(zp (zV (tOp (rI (fun _ j=>0 < j) fun i j=>.int (i % j)) (zo zl [] E0 (zb (zc 0) (zb (tC (.int 0)) zi))) (tC (.int 17))) (zw 3))
  (zp (zV (tOp (yn K) (zc 2) (tOp (rI (fun _ j=>0 < j) fun i j=>.int (i % j)) (zo zl [] E0 (zb (zc 0) (zb (tC (.int 160)) zi))) (tC (.int 3)))) (zw 4))
  (zp (zV (tOp (yn K) (zc 1) (tOp (rI (fun _ j=>0 < j) fun i j=>.int (i % j)) (zo zl [] E0 (zb (zc 0) (zb (tC (.int 161)) zi))) (tC (.int 3)))) (zw 5))
  (Zs K t))))
def qJ (K:br) (t:Adr):TS:=(xh (zo xw [] E0 (zb (zc 3) zi)))
def vJ (K:br) (t:Adr):TS:=(xh (tBM K "list" yd (tOp (yn K) (tOp (yn K) (zc 3) (tUn (rU fun i=>.int (-i)) (tC (.int 1)))) (tC (.int 2))) (zb (zo qv [] E0 (zb (zc 4) (zb (zc 1) (zb (zc 2) zi)))) zi)))
def qK (K:br) (t:Adr):TS:=(zp (zaP (tOp (yn K) (zc 3) (tUn (rU fun i=>.int (-i)) (tC (.int 1)))) (tC (.int 1)) (tOp (yn K) (tOp (yn K) (zc 3) (tUn (rU fun i=>.int (-i)) (tC (.int 1)))) (tC (.int 2))))
  (zaP (tOp (yn K) (zc 3) (tUn (rU fun i=>.int (-i)) (tC (.int 1)))) (tC (.int 2)) (xo zi)))
def vK (K:br) (t:Adr):TS:=(zM (ZZ (zq (tOp rEq (zc 5) (tC (.int 16)))) (zq (tOp (rI0 fun i j=>.bl (decide (j < i))) (tCB (xW K) (zb (zc 3) zi)) (tC (.int 1)))))
   (qJ K t)
   (vJ K t))
def vL (K:br) (t:Adr):TS:=(xh (tBM K "list" yd (zc 3) (zb (xo (zb (zo yM [] E0 (zb (zc 4) (zb (tC (.int 80)) (zb (zc 1) zi)))) (zb (tC .non) (zb (xo zi) zi)))) zi)))
def vM (K:br) (t:Adr):TS:=(zM (ZZ (zq (tOp rEq (zc 5) (tC (.int 15)))) (ZZ (zq (tOp (rI0 fun i j=>.bl (decide (j < i))) (tCB (xW K) (zb (zc 3) zi)) (tC (.int 1)))) (zq (tOp zdK (tOp (yn K) (tOp (yn K) (zc 3) (tUn (rU fun i=>.int (-i)) (tC (.int 1)))) (tC (.int 1))) (tC .non)))))
   (qK K t)
   (vK K t))
def vN (K:br) (t:Adr):TS:=(zp (VU (zq (tOp (rI0 fun i j=>.bl (decide (j < i))) (tCB (xW K) (zb (zc 3) zi)) (tC (.int 1)))) (xh (zo xw [] E0 (zb (zc 3) zi))))
  (zE (tOp (yn K) (tOp (yn K) (zc 3) (tC (.int 0))) (tC (.int 2)))))
def vO (K:br) (t:Adr):TS:=(zp (v5 (jn K (zc 0)) (zw 4)
   (zp (zV (tOp (rI (fun _ j=>0 < j) fun i j=>.int (i % j)) (zo zl [] E0 (zb (zc 4) (zb (tC (.int 0)) zi))) (tC (.int 17))) (zw 5))
  (zM (ZZ (zq (tOp (rIn K false) (zc 5) (yx (zb (tC (.int 12)) (zb (tC (.int 13)) (zb (tC (.int 14)) zi)))))) (zq (tOp (rI0 fun i j=>.bl (decide (i < j))) (tCB (xW K) (zb (zc 3) zi)) (tC (.int 6)))))
   (vL K t)
   (vM K t))))
  (vN K t))
def kh (K:br) (t:Adr):TS:=(zp (zV (xo (zb (xo (zb (tC .non) (zb (tC .non) (zb (xo zi) zi)))) zi)) (zw 3))
  (vO K t))
def KO (K:br) (t:Adr):TS:=(zM (x9 (tB (tCB (kJ K) (zb (zc 3) (zb (tC (.ty "list")) zi)))))
   (zE (tC (.bl false)))
   zJ)
def KP (K:br) (t:Adr):TS:=(zp (zV (zo j5 [] E0 (zb (zo j0 [] E0 (zb (tSl (zbU K) (zc 5) (kt (zc 6)) (kt (tOp (rI0 fun i j=>.int (i + j)) (zc 6) (zc 4)))) (zb (zc 1) (zb (zc 2) zi)))) (zb (zc 3) zi))) (zw 3))
  (KO K t))
def zcY (K:br) (t:Adr):TS:=(zE (tOp (WI K false) (zo (YK t) [] E0 (zb (xo zi) (zb (zc 3) zi))) (yx (zb (yx (zb (tC (.str "done")) (zb (yx zi) zi))) (zb (xo zi) (zb (xo zi) zi))))))
def Wo (K:br) (t:Adr):TS:=(zp (v5 (zcF (zb (tC (.int 0)) (zb (tCB (xW K) (zb (zc 5) zi)) (zb (zc 4) zi)))) (zw 6)
   (KP K t))
  (zcY K t))
def KQ (K:br) (t:Adr):TS:=(zp (zV (tOp (rI0 fun i j=>.int (i + j)) (tC (.int 1)) (tOp (rI (fun _ j=>0 < j) fun i j=>.int (i % j)) (zo zl [] E0 (zb (zo (yI K) [] E0 (zb (zc 0) (zb (tC (.int 0)) zi))) (zb (tC (.int 200)) zi))) (tC (.int 18)))) (zw 4))
  (zp (zV (tSl (zbU K) (zc 0) w5 (kt (tC (.int 120)))) (zw 5))
  (Wo K t)))
def QU (K:br) (t:Adr):TS:=(zp (zV (zo wx [] E0 (zb (zo (yI K) [] E0 (zb (zc 0) (zb (tC (.int 0)) zi))) (zb (tC (.int 3)) zi))) (zw 1))
  (zp (zV (zo wx [] E0 (zb (zo (yI K) [] E0 (zb (zc 0) (zb (tC (.int 1)) zi))) (zb (tC (.int 3)) zi))) (zw 2))
  (zp (zV (zo jd [] E0 (zb (zo (yI K) [] E0 (zb (zc 0) (zb (tC (.int 2)) zi))) (zb (zc 2) zi))) (zw 3))
  (KQ K t))))
section
variable {K:br} {t:Adr} {H:Hp} {Q:VK}
theorem KR {j:Int} (h0:0≤j) (h1:j≤100):JX 10 j:=⟨h0,by lia,by decide⟩
theorem yy {n:Nat} (h:n≤100000):n≤sizeLine:=cf h (by decide)
theorem wK (T:String):iD K (.type T) (.type T)=some true:=by
 unfold iD
 rw [if_pos (by simp)]
theorem kf (K:br):KF K:=⟨by with_unfolding_all rfl,by with_unfolding_all rfl,by with_unfolding_all rfl,by with_unfolding_all rfl,by with_unfolding_all rfl,by with_unfolding_all rfl,by with_unfolding_all rfl,by with_unfolding_all rfl,by with_unfolding_all rfl,by with_unfolding_all rfl⟩
theorem dB {i j:Int} (h0:0 < j:=by decide) (h1:j < 10000000000000000000000000000000000000000000000:=by decide):zb4 i j:=by
 have hb:(10000000000000000000000000000000000000000000000:Int) < big:=by decide +kernel
 exact ⟨h0,by lia⟩
theorem zcZ {α:Type} {xs:List α} {i:Int} (h0:0≤i) (h1:i < xs.length):∃ x,atI xs i=some x∧x∈xs:=by
 obtain ⟨n,rfl⟩:∃ n:Nat,i=(n:Int):=⟨i.toNat,by lia⟩
 have hn:n < xs.length:=by lia
 refine ⟨xs[n],?_,gq hn⟩
 unfold atI ixN
 rw [if_pos h0,if_pos h1]
 simp [hn]
theorem QV {α:Type} {xs:List α} (e:Int) (n:Nat) (hl:xs.length=n) (hn:0 < (n:Int)):∃ x,atI xs (e % n)=some x∧x∈xs :=
 zcZ (du _ (by lia)) (by rw [hl];exact cT _ hn)
theorem Jz {i:Int} (hK:zee K) (q:∀ H',Same H H'→Q (.bl (inW i)) H') :
  qB K t { nx:=fun _ H'=>Q .non H',rt:=Q } (L2.start ["thing"] [.int i]) H:=by
 simp only [qB,L2.start,zp,zE,zJ,tOp,tUn,zc,tC,zb,zi,zM,tOr,x9,tB,tCB,Qr,rI,rI0,rU,kJ,cC,bM,bP,bt,bd,bi,exists_eq_left',V.int.injEq,V.bl.injEq,V.ty.injEq,bq,and_true,and_assoc,exists_and_left,bZ,bO,decide_eq_true_eq,b7,mR,fT,fb,if_true]
 have q:=q H (Same.refl H)
 refine ⟨_,.int i,true,wK _,?_⟩
 rw [if_neg (by decide)]
 refine ⟨_,.int i,false,hK,?_⟩
 rw [if_neg (by decide)]
 refine ⟨KR (by decide) (by decide),xm (fun c=>⟨KR (by decide) (by decide),?_⟩) fun c=>?_⟩
 ·have e:inW i=decide (i≤1000000000000000000000000000000):=by
   unfold inW
   by_cases h:i≤1000000000000000000000000000000
   ·rw [decide_eq_true h,decide_eq_true ⟨c,h⟩]
   ·rw [decide_eq_false h,decide_eq_false fun z=>h z.2]
  rw [e] at q
  exact q
 ·have e:inW i=false:=decide_eq_false fun z=>c z.1
  rw [e] at q
  exact q
theorem KS {E:XK} {w:Str} {a b:Int} (hw:w.length≤1000) (ha:inW a=true) (hb:inW b=true) (q:∀ H',Same H H'→if b=0 then E (.ref t.c_Nought) none H' else Q (.int (if w="over" then a.fdiv b else a.fmod b)) H') :
  ZT K t E { nx:=fun _ H'=>Q .non H',rt:=Q } (L2.start ["word","first","second"] [.str w,.int a,.int b]) H:=by
 simp only [ZT,L2.start,X1,Kb,zp,zE,zJ,tOp,zc,tC,zb,zi,zM,zq,tIf,rEq,rI,kH,cC,bM,bP,bt,bd,bh,bi,exists_eq_left',V.int.injEq,V.str.injEq,V.bl.injEq,true_and,exists_and_left,bZ,bO,decide_eq_true_eq]
 have q:=q H (Same.refl H)
 have B:=Je hb
 refine xm (fun c=>?_) fun c=>?_
 ·rw [if_pos c] at q
  exact ⟨by lia,fun y=>⟨by decide,q⟩⟩
 ·rw [if_neg c] at q
  refine xm (fun e=>?_) fun e=>?_
  ·rw [if_pos e] at q
   exact ⟨⟨c,B⟩,q⟩
  ·rw [if_neg e] at q
   exact ⟨c,q⟩
theorem KU {E:XK} {w:Str} {a b:Int} (hw:w.length≤1000) (ha:inW a=true) (hb:inW b=true) (q:∀ H',Same H H'→if Y4 w∧b=0 then E (.ref t.c_Nought) none H' else Q (.int (vm w a b)) H') :
  ZU K t E { nx:=fun _ H'=>Q .non H',rt:=Q } (L2.start ["word","first","second"] [.str w,.int a,.int b]) H:=by
 simp only [ZU,ZO,L2.start,zp,zE,zJ,tOp,zc,tC,zb,zi,zM,zq,tIf,zo,rEq,rI,rI0,kH,cC,bM,bP,bt,bd,bh,bi,exists_eq_left',V.int.injEq,V.str.injEq,V.bl.injEq,bq,and_true,true_and,and_assoc,exists_and_left,bZ,bO,decide_eq_true_eq]
 have A:=Je ha
 have B:=Je hb
 have nd:¬ Y4 w→Q (.int (vm w a b)) H:=fun h=>by
  have q:=q H (Same.refl H)
  rw [if_neg fun z=>h z.1] at q
  exact q
 refine xm (fun c=>?_) fun c1=>xm (fun c=>?_) fun c2=>xm (fun c=>⟨⟨A,B⟩,?_⟩) fun c3=>xm (fun c=>?_) fun c4=>xm (fun c=>?_) fun c5=>⟨hw,ha,hb,fun H' s=>?_⟩
 ·subst c
  have q:=nd fun z=>z.1 rfl
  exact q
 ·subst c
  have q:=nd fun z=>z.2.1 rfl
  rw [show vm "minus" a b=a - b by unfold vm;rw [if_neg c1,if_pos rfl]] at q
  exact q
 ·subst c
  have q:=nd fun z=>z.2.2.1 rfl
  rw [show vm "times" a b=a * b by unfold vm;rw [if_neg c1,if_neg c2,if_pos rfl]] at q
  exact q
 ·subst c
  have q:=nd fun z=>z.2.2.2.1 rfl
  rw [show vm "under" a b=if a < b then 1 else 0 by unfold vm;rw [if_neg c1,if_neg c2,if_neg c3,if_pos rfl]] at q
  refine xm (fun d=>?_) fun d=>?_
  ·rw [if_pos d] at q;exact q
  ·rw [if_neg d] at q;exact q
 ·subst c
  have q:=nd fun z=>z.2.2.2.2 rfl
  rw [show vm "same" a b=if a=b then 1 else 0 by unfold vm;rw [if_neg c1,if_neg c2,if_neg c3,if_neg c4,if_pos rfl]] at q
  refine xm (fun d=>?_) fun d=>?_
  ·rw [if_pos d] at q;exact q
  ·rw [if_neg d] at q;exact q
 ·have q:=q H' s
  have hd:Y4 w:=⟨c1,c2,c3,c4,c5⟩
  refine xm (fun d=>?_) fun d=>?_
  ·rw [if_pos ⟨hd,d⟩] at q;exact q
  ·rw [if_neg fun z=>d z.2] at q
   unfold vm at q
   rw [if_neg c1,if_neg c2,if_neg c3,if_neg c4,if_neg c5] at q
   exact q
theorem QW {E:XK} {w:Str} {a b:Int} (hw:w.length≤1000) (ha:inW a=true) (hb:inW b=true) (q:∀ H',Same H H'→fin t (wX w a b) Q E H') :
  YN K t E { nx:=fun _ H'=>Q .non H',rt:=Q } (L2.start ["word","first","second","worth"] [.str w,.int a,.int b]) H:=by
 simp only [YN,ZP,qt,L2.start,X1,Kb,zp,zV,zw,zE,zJ,zc,zb,zi,zM,x9,tB,zo,cC,bM,bP,cb,cj,bt,bd,bh,bi,exists_eq_left',V.int.injEq,V.str.injEq,V.bl.injEq,bq,and_true,and_assoc,exists_and_left,bE,bI,bZ,bO,b7]
 refine ⟨hw,ha,hb,fun H1 s1=>xm (fun c=>?_) fun c H2 s2=>xm (fun d=>?_) fun d=>?_⟩
 ·have q:=q H1 s1
  unfold wX at q
  rw [if_pos c] at q
  exact q
 ·have q:=q H2 (s1.trans s2)
  unfold wX at q
  rw [if_neg c,if_neg (by rw [d];decide)] at q
  exact ⟨by lia,fun y=>⟨by decide,q⟩⟩
 ·have q:=q H2 (s1.trans s2)
  unfold wX at q
  rw [if_neg c,if_pos (by simpa using d)] at q
  exact q
theorem Wp {xs:List V} {y:V}:(xs ++ [y])[(xs ++ [y]).length - 1]?=some y:=by simp
theorem Zb {xs:List V} {y:V}:(xs ++ [y]).dropLast=xs:=by simp
theorem z8 {H H':Hp} {w:Addr} {o:HO} (s:Same H H') (hw:H w=none):Same H (upd H' w o):=fun b u e=>by rw [zj (zB e hw)];exact s b u e
theorem zfr (st:List Int):(∃ l a b,st=l ++ [a,b])∨∀ kvs v,isJ v=true→wc kvs st v=.error .stuck:=by
 cases h:st.reverse with
 | nil =>
  refine .inr fun kvs v hv=>?_
  unfold wc
  rw [hv,if_pos rfl,h]
  split <;> rename_i e1 e2 <;> first | rfl | cases e2
 | cons b r =>
  cases r with
  | nil =>
   refine .inr fun kvs v hv=>?_
   unfold wc
   rw [hv,if_pos rfl,h]
   split <;> rename_i e1 e2 <;> first | rfl | cases e2
  | cons a r =>
   refine .inl ⟨r.reverse,a,b,?_⟩
   have:=congrArg List.reverse h
   rw [mY] at this
   rw [this];simp
theorem zc0 {kvs:List (Key × V)} {l:List Int} {a b:Int} {w:Str} (hw:isJ (.str w)=true):wc kvs (l ++ [a,b]) (.str w)=match wX w a b with | .ok c=>.ok (l ++ [c]) | .error e=>.error e:=by
 unfold wc
 rw [hw,if_pos rfl]
 simp only [nh,dY,oh,cj,cb]
 cases wX w a b with
 | error e=>rfl
 | ok c=>simp
def rkI (kvs:List (Key × V)) (ps:List V) (tm sl w:Addr) (H:Hp) (i:Nat) (σ:St) (H':Hp):Prop:=∃ st,(∃ o3 o4 o5,σ=[some (.ref tm),some (.ref sl),some (.ref w),o3,o4,o5])∧wC kvs (ps.take i) []=.ok st∧(∀ x∈st,inW x=true)∧st.length≤i∧H' w=some (.lst (st.map V.int))∧Same H H'
theorem JA {E:XK} {kvs:List (Key × V)} {tm sl:Addr} {ps:List V} {r:Except Er Int} (hK:iD K (.type "int") (.type "str")=some false) (hJ:∀ H:Hp,SqT K H t.c_JOINING jw) (h1:H tm=some (.tup ps)) (h2:H sl=some (.dK kvs)) (h3:Good kvs ps r) (h4:∀ v∈ps,jR v) (h5:ps.length≤1000) (h6:yo kvs)
  (q:∀ H',Same H H'→fin t r Q E H'):qC K t E { nx:=fun _ H'=>Q .non H',rt:=Q } (L2.start ["term","slots","worths","part","second","first"] [.ref tm,.ref sl]) H:=by
 simp only [qC,L2.start,js,zdF,zp,zV,zw,zE,zc,xo,zi,v5,Qw,tyV,ze1,cC,bM,bP,cb,cj,bd,bi,exists_eq_left',V.ref.injEq,true_and,exists_and_left,bE,bI,bZ,bO]
 refine ⟨by decide,fun w hw=>⟨⟨_,SqT.of ((isV w hw) _ _ h1)⟩,?_⟩⟩
 have run0:=h3.1 []
 have fe:∀ {e:Er} {H':Hp},wC kvs ps []=.error e→Same H H'→fin t (.error e) Q E H':=fun {e H'} z s=>by
  rw [z] at run0
  cases r with
  | ok i=>cases run0
  | error e' =>
   cases run0
   exact q _ s
 have ns:wC kvs ps []≠.error .stuck:=fun z=>by
  rw [z] at run0
  cases r with
  | ok i=>cases run0
  | error e' =>
   cases run0
   exact h3.2 rfl
 refine zb8 ps (rkI kvs ps tm sl w H) ⟨[],⟨_,_,_,rfl⟩,rfl,(fun x z=>nomatch z),bu _,zf,isV w hw⟩ (fun i σ H' ⟨st,a,b,c,d,e,s⟩=>SqT.of (s _ _ h1)) ?_ ?_
 ·rintro i v σ H' hv ⟨st,⟨o3,o4,o5,rfl⟩,hr,hW,hl,hst,hS⟩
  have hi:i < ps.length:=(bp.mp hv).1
  have one:=zdQ hr hv
  have ok:=h4 v (bF hv)
  have fl:Z5 v=true:=by rcases ok with ⟨j,rfl,_⟩ | ⟨x,rfl,_⟩ <;> rfl
  simp only [Zk,tOp,zc,tC,zM,zq,rIn,bd,bh,bi,exists_eq_left',V.ref.injEq,V.bl.injEq,exists_and_left,bE,bI,cr,ite_false]
  refine ⟨jw,.inr (hJ H'),fl,rfl,xm (fun c=>?_) fun c=>?_⟩
  ·simp only [Zi,YI,yd,js,qT,zdF,zp,zV,zw,xh,zc,zb,zi,tBM,Qw,tyV,zo,bt,bd,bh,bi,exists_eq_left',V.ref.injEq,bq,and_true,true_and,and_assoc,exists_and_left,bE,bI]
   rcases zfr st with ⟨l,a,b,rfl⟩ | z
   ·obtain ⟨x,rfl,hx⟩:∃ x:Str,v=.str x∧x.length≤1000:=by
     rcases ok with ⟨j,rfl,_⟩ | h
     ·exact absurd c (by rw [show inV (V.int j) jw=false from rfl];decide)
     ·exact h
    have e1:cC V.int (l ++ [a,b])=(l.map V.int ++ [.int a]) ++ [.int b]:=by simp
    rw [e1] at hst
    have one':=one.trans (zc0 c)
    have wa:=hW a (by simp)
    have wb:=hW b (by simp)
    refine ⟨.inl ⟨_,SqL.of hst⟩,_,hst,_,Wp,.inl ⟨_,SqL.of zf⟩,_,by rw [Zb];exact zf,_,Wp,.inl ⟨_,SqL.of zf⟩,x,rfl,a,rfl,b,rfl,hx,wa,wb,fun H2 s2=>?_⟩
    rw [Zb,Zb] at s2
    have S2:Same H H2:=(z8 (z8 hS hw) hw).trans s2
    cases e:wX x a b with
    | ok d =>
     rw [e] at one'
     have hd:inW d=true:=by
      unfold wX at e
      split at e
      ·cases e
      ·split at e
       ·rename_i z;cases e;exact z
       ·cases e
     refine ⟨_,s2 _ _ zf,?_,l ++ [d],⟨_,_,_,rfl⟩,one',?_,?_,?_,z8 S2 hw⟩
     ·rw [bB]
      have:(l ++ [a,b]).length=l.length + 2:=by simp
      exact bY (by lia:l.length≤1000) (by decide)
     ·intro y hy
      rcases bz.mp hy with h | h
      ·exact hW y (cZ _ h)
      ·have:y=d:=by simpa using h
       rw [this];exact hd
     ·have:(l ++ [a,b]).length=l.length + 2:=by simp
      rw [bw];show l.length + 1≤i + 1
      lia
     ·rw [fE];exact zf
    | error er =>
     rw [e] at one'
     have:=fe (zav one') S2
     cases er with
     | nought=>exact this
     | great=>exact this
     | stuck=>trivial
   ·exact absurd (zav (one.trans (z kvs v c))) ns
  ·simp only [Zj,wM,wM,yd,qT,xh,zc,tC,zb,zi,tB,tIf,tCB,tBM,tyV,kJ,bd,bh,bi,exists_eq_left',V.ref.injEq,V.bl.injEq,V.ty.injEq,bq,and_true,true_and,and_assoc,exists_and_left]
   have st1:wc kvs st v=.ok (st ++ [QC kvs v]):=by
    unfold wc
    rw [if_neg (by unfold isJ;exact c)]
   have one':=one.trans st1
   have hwv:=Kd h6 ok
   have fin1:∀ u,u=V.int (QC kvs v)→rkI kvs ps tm sl w H (i + 1) [some (V.ref tm),some (V.ref sl),some (V.ref w),some v,o4,o5] (upd H' w (HO.lst (cC V.int st ++ [u]))):=fun u hu=>by
    subst hu
    refine ⟨st ++ [QC kvs v],⟨_,_,_,rfl⟩,one',?_,?_,?_,z8 hS hw⟩
    ·intro y hy
     rcases bz.mp hy with h | h
     ·exact hW y h
     ·have:y=QC kvs v:=by simpa using h
      rw [this];exact hwv
    ·rw [bw];show st.length + 1≤i + 1
     lia
    ·rw [fE];exact zf
   have sz:(cC V.int st).length < sizeLine:=by
    rw [bB]
    exact bY (by lia:st.length≤1000) (by decide)
   refine ⟨.inl ⟨_,SqL.of hst⟩,?_⟩
   rcases ok with ⟨j,rfl,hj⟩ | ⟨x,rfl,hx⟩
   ·refine ⟨_,.int j,false,hK,?_⟩
    rw [if_neg (by decide)]
    exact ⟨_,hst,sz,fin1 _ rfl⟩
   ·refine ⟨_,.str x,true,wK _,?_⟩
    rw [if_pos rfl]
    refine ⟨.inl ⟨kvs,.inl (hS _ _ h2)⟩,_,DGet.k (k:=.inr x) (hS _ _ h2),_,hst,sz,fin1 _ ?_⟩
    show (yP kvs (.inr x)).getD (V.int 0)=V.int (match yP kvs (.inr x) with | some (.int i)=>i | _=>0)
    cases e:yP kvs (.inr x) with
    | none=>rfl
    | some u =>
     obtain ⟨i,rfl,_⟩:=h6 _ _ e
     rfl
 ·rintro σ H' ⟨st,⟨o3,o4,o5,rfl⟩,hr,hW,hl,hst,hS⟩
  rw [eG] at hr
  simp only [bd,bh,bi,exists_eq_left',V.ref.injEq]
  rw [hr] at run0
  cases r with
  | error e=>cases run0
  | ok i =>
   have e:st=[i]:=by injection run0
   subst e
   exact ⟨.inl ⟨_,SqL.of hst⟩,_,hst,_,rfl,q _ (z8 hS hw)⟩
theorem YS {a:Addr} {ns:List Int} {k:Nat} (hS:SqL K H a (ns.map V.int)) (hl:ns.length≤63) (q:∀ c H',Same H H'→Q (.int c) H') :
  wS K t { nx:=fun _ H'=>Q .non H',rt:=Q } (L2.start ["script","k"] [.ref a,.int k]) H:=by
 simp only [wS,L2.start,zp,zE,zJ,tOp,zc,tC,zb,zi,zM,zq,tCB,Zw,yn,rI0,xW,cC,bM,bP,bt,bd,bh,bi,exists_eq_left',V.int.injEq,V.ref.injEq,V.bl.injEq,bq,and_true,exists_and_left,bZ,bO,decide_eq_true_eq]
 refine ⟨_,.inl ⟨_,hS,rfl⟩,xm (fun c=>?_) fun _=>q _ _ (Same.refl H)⟩
 obtain ⟨v,hv,hm⟩:=zcZ (xs:=ns.map V.int) (i:=(k:Int)) (by lia) c
 obtain ⟨i,_,rfl⟩:=cG.mp hm
 exact ⟨_,hS,_,hv,q _ _ (Same.refl H)⟩
theorem Yl (c:Nat):({ cps:=#[c] }:Str).length=1:=rfl
theorem zA {H H':Hp} {D:Addr} (s:Same H H') (h:H' D=none):H D=none:=by
 cases e:H D with
 | none=>rfl
 | some o=>rw [s _ _ e] at h;cases h
theorem wL {H1:Hp} {R b:Addr} {o:HO} (h:H1 R=some o) (hb:H1 b=none):b≠R:=fun z=>by rw [z,h] at hb;cases hb
theorem fin_err {t:Adr} {e:Er} {Q:VK} {E:XK} {H:Hp}:fin t (.error e) Q E H↔Xq t e E H:=by cases e <;> rfl
theorem fin_ok {t:Adr} {i:Int} {Q:VK} {E:XK} {H:Hp}:fin t (.ok i) Q E H↔Q (.int i) H:=Iff.rfl
theorem zc1 {F:Addr→Prop} {v:V} {r:Rw} (h:RwAt F H v r) (d:wN r):∃ p xs hd,v=.ref p∧H p=some (.tup xs)∧atI xs 0=some (.str hd)∧hd≠"off"∧hd≠"if":=by
 cases r with
 | take sh e sl =>
  unfold RwAt at h
  obtain ⟨r,te,rfl,_,_,e2,e3⟩:=h
  exact ⟨r,_,_,rfl,e2,rfl,by decide +kernel,by decide +kernel⟩
 | give sh e f =>
  unfold RwAt at h
  obtain ⟨r,te,tf,rfl,_,_,_,e2,e3⟩:=h
  exact ⟨r,_,_,rfl,e2,rfl,by decide +kernel,by decide +kernel⟩
 | lt sl e =>
  unfold RwAt at h
  obtain ⟨r,te,rfl,_,_,e2,e3⟩:=h
  exact ⟨r,_,_,rfl,e2,rfl,by decide +kernel,by decide +kernel⟩
 | say e =>
  unfold RwAt at h
  obtain ⟨r,te,rfl,_,_,e2,e3⟩:=h
  exact ⟨r,_,_,rfl,e2,rfl,by decide +kernel,by decide +kernel⟩
 | off e=>exact d.elim
 | iff e a b=>exact d.elim
theorem WV {c j:Int} (h1:0≤j) (h2:j≤1000) (q:∀ r H',0≤r→r < 2147483648→Same H H'→Q (.int r) H') :
  j6 K t { nx:=fun _ H'=>Q .non H',rt:=Q } (L2.start ["cell","j","far"] [.int c,.int j]) H:=by
 simp only [j6,L2.start,zp,zV,zw,zE,tOp,zc,tC,rI,rI0,cC,bM,bP,cb,cj,bd,bh,bi,exists_eq_left',V.int.injEq,exists_and_left,bE,bI,bZ,bO]
 have hb:(10000000000000000000000000000000000000000000000:Int) < big:=by decide +kernel
 have g1:=du c (b:=1000000007) (by decide)
 have g2:=cT c (b:=1000000007) (by decide)
 generalize c % 1000000007=a at *
 have g3:=du (a * 6700417 + (j + 1) * 104729 * 65537) (b:=1000000009) (by decide)
 have g4:=cT (a * 6700417 + (j + 1) * 104729 * 65537) (b:=1000000009) (by decide)
 generalize hf:(a * 6700417 + (j + 1) * 104729 * 65537) % 1000000009=f at *
 have g5:=du (f * f) (b:=1000000009) (by decide)
 have g6:=cT (f * f) (b:=1000000009) (by decide)
 generalize hg:f * f % 1000000009=g at *
 have g7:=du (g * f) (b:=1000000009) (by decide)
 have g8:=cT (g * f) (b:=1000000009) (by decide)
 refine ⟨by decide,⟨⟨by lia,by lia⟩,by lia,by lia⟩,⟨⟨by lia,by lia⟩,by lia,by lia⟩,⟨⟨by lia,by lia⟩,by lia,by lia⟩,by decide,?_⟩
 refine ⟨⟨⟨by lia,by lia⟩,by lia,by lia⟩,by decide,⟨⟨by lia,by lia⟩,by lia,by lia⟩,by decide,dB,q _ _ ?_ ?_ (Same.refl H)⟩
 ·exact i4 g7 (by decide)
 ·lia
theorem CsAt.same {H H':Hp} {v:V} {c:Cs} (h:CsAt H v c) (s:Same H H'):CsAt H' v c:=by
 cases c with
 | row r=>exact ⟨h.1.mono s,h.2⟩
 | skip e to =>
  obtain ⟨p,te,h1,h2,h3⟩:=h
  exact ⟨p,te,h1,s _ _ h2,s _ _ h3⟩
 | go en =>
  obtain ⟨p,h1,h2⟩:=h
  exact ⟨p,h1,s _ _ h2⟩
theorem x5 {H H':Hp} (s:Same H H'):∀ {xs:List V} {C:List Cs},Paired (CsAt H) xs C→Paired (CsAt H') xs C
 | _,_,.nil=>.nil
 | _,_,.cons h r=>.cons (h.same s) (x5 s r)
def TSm (H H':Hp):Prop:=∀ b ys,H b=some (.tup ys)→H' b=some (.tup ys)
theorem CsAt.ts {H H':Hp} {v:V} {c:Cs} (s:TSm H H') (h:CsAt H v c):CsAt H' v c:=by
 cases c with
 | row r =>
  obtain ⟨h,n⟩:=h
  refine ⟨?_,n⟩
  cases r with
  | iff e a b=>exact n.elim
  | take sh e sl =>
   obtain ⟨r,te,a1,a2,a3,a4,a5⟩:=h
   exact ⟨r,te,a1,a2,a3,s _ _ a4,s _ _ a5⟩
  | give sh e f =>
   obtain ⟨r,te,tf,a1,a2,a3,a4,a5,a6,a7⟩:=h
   exact ⟨r,te,tf,a1,a2,a3,a4,s _ _ a5,s _ _ a6,s _ _ a7⟩
  | lt sl e =>
   obtain ⟨r,te,a1,a2,a3,a4,a5⟩:=h
   exact ⟨r,te,a1,a2,a3,s _ _ a4,s _ _ a5⟩
  | say e =>
   obtain ⟨r,te,a1,a2,a3,a4,a5⟩:=h
   exact ⟨r,te,a1,a2,a3,s _ _ a4,s _ _ a5⟩
  | off e =>
   obtain ⟨r,te,a1,a2,a3,a4,a5⟩:=h
   exact ⟨r,te,a1,a2,a3,s _ _ a4,s _ _ a5⟩
 | skip e to =>
  obtain ⟨p,te,h1,h2,h3⟩:=h
  exact ⟨p,te,h1,s _ _ h2,s _ _ h3⟩
 | go en =>
  obtain ⟨p,h1,h2⟩:=h
  exact ⟨p,h1,s _ _ h2⟩
theorem ki {H H':Hp} (s:TSm H H'):∀ {xs:List V} {C:List Cs},Paired (CsAt H) xs C→Paired (CsAt H') xs C
 | _,_,.nil=>.nil
 | _,_,.cons h r=>.cons (h.ts s) (ki s r)
theorem zaR (x:Rw):(∃ e a b,x=.iff e a b)∨Jx x:=by
 cases x with
 | iff e a b=>exact .inl ⟨e,a,b,rfl⟩
 | _=>exact .inr trivial
theorem yT {x:Rw} (h:Jx x) (k:Nat):yw x k=[.row x]:=by
 cases x with
 | iff e a b=>exact h.elim
 | _=>rw [yw];intro e a b z;cases z
theorem zeh {F:Addr→Prop} {v:V} {r:Rw} (h:RwAt F H v r):∃ p xs hd,v=.ref p∧H p=some (.tup xs)∧atI xs 0=some (.str hd)∧(hd="if"↔¬ Jx r):=by
 cases r with
 | take sh e sl =>
  unfold RwAt at h
  obtain ⟨r,te,rfl,_,_,e2,e3⟩:=h
  exact ⟨r,_,_,rfl,e2,rfl,⟨fun z=>absurd z (by decide +kernel),fun z=>absurd trivial z⟩⟩
 | give sh e f =>
  unfold RwAt at h
  obtain ⟨r,te,tf,rfl,_,_,_,e2,e3⟩:=h
  exact ⟨r,_,_,rfl,e2,rfl,⟨fun z=>absurd z (by decide +kernel),fun z=>absurd trivial z⟩⟩
 | lt sl e =>
  unfold RwAt at h
  obtain ⟨r,te,rfl,_,_,e2,e3⟩:=h
  exact ⟨r,_,_,rfl,e2,rfl,⟨fun z=>absurd z (by decide +kernel),fun z=>absurd trivial z⟩⟩
 | say e =>
  unfold RwAt at h
  obtain ⟨r,te,rfl,_,_,e2,e3⟩:=h
  exact ⟨r,_,_,rfl,e2,rfl,⟨fun z=>absurd z (by decide +kernel),fun z=>absurd trivial z⟩⟩
 | off e =>
  unfold RwAt at h
  obtain ⟨r,te,rfl,_,_,e2,e3⟩:=h
  exact ⟨r,_,_,rfl,e2,rfl,⟨fun z=>absurd z (by decide +kernel),fun z=>absurd trivial z⟩⟩
 | iff e a b =>
  unfold RwAt at h
  obtain ⟨r,te,la,lb,xs,ys,rfl,f1,f2,f3,f4,e2,e3⟩:=h
  exact ⟨r,_,_,rfl,e2,rfl,⟨fun _ z=>z,fun _=>rfl⟩⟩
theorem Paired.app2 {α β:Type} {F:α→β→Prop}:∀ {a:List α} {b:List β} {c:List α} {d:List β},Paired F a b→Paired F c d→Paired F (a ++ c) (b ++ d)
 | _,_,_,_,.nil,h=>h
 | _,_,_,_,.cons h r,h2=>.cons h (Paired.app2 r h2)
theorem KW {v:V} {r:Rws} (h1:kL vc H v r) (h2:kO 6 r) (h3:(zm r 0).length≤500) (q:∀ l xs H',Same H H'→H l=none→H' l=some (.lst xs)→Paired (CsAt H') xs (zm r 0)→Q (.ref l) H') :
  ZS K t { nx:=fun _ H'=>Q .non H',rt:=Q } (L2.start ["rows"] [v]) H:=by
 simp only [ZS,xu,L2.start,zE,zc,tC,zb,zi,zo,cC,bM,bP,bt,bd,bi,exists_eq_left',V.int.injEq,bq,and_true,and_assoc,exists_and_left,bZ,bO]
 exact ⟨r,0,rfl,h1,h2,by lia,q⟩
def sfI (v:V) (L:Addr) (xs:List V) (k n:Nat) (r:Rws) (H:Hp) (i:Nat) (σ:St) (H':Hp):Prop:=∃ (rest:Rws) (ys:List V) (C:List Cs),(∃ o,σ=[some v,some (.int k),some (.ref L),o])∧Same H H'∧H' L=some (.lst ys)∧Paired (CsAt H') ys C∧RwsAt vc H (xs.drop i) rest∧kO (n + 1) rest∧C ++ zm rest (k + C.length)=zm r k
theorem QY {H:Hp} {L:Addr} {ys zs:List V} (h:H L=some (.lst ys)):TSm H (upd H L (.lst zs)):=fun b us e=>by rw [zj (yi e h (fun z=>nomatch z))];exact e
theorem JB {v:V} {r:Rws} {k n:Nat} (h1:kL vc H v r) (h2:kO (n + 1) r) (h3:k + (zm r k).length≤500) (q:∀ l xs H',Same H H'→H l=none→H' l=some (.lst xs)→Paired (CsAt H') xs (zm r k)→Q (.ref l) H') :
  Xe K t n { nx:=fun _ H'=>Q .non H',rt:=Q } (L2.start ["rows","first","steps","row"] [v,.int k]) H:=by
 obtain ⟨p,xs,rfl,_,hp,hx⟩:=h1
 refine ⟨b9 _,fun L hL=>?_⟩
 have s0:=isV (o:=HO.lst []) L hL
 refine ⟨_,rfl,p,rfl,⟨_,SqL.of (s0 _ _ hp)⟩,?_⟩
 refine vf xs (sfI (.ref p) L xs k n r H) ⟨r,[],[],⟨_,rfl⟩,s0,zf,.nil,by rw [dq];exact hx,h2,rfl⟩ (fun i σ H' ⟨_,_,_,_,s,_⟩=>SqL.of (s _ _ hp)) ?_ ?_
 ·rintro i u σ H' hu ⟨rest,ys,C,⟨o,rfl⟩,s,hy,pr,hr,ok,eq⟩
  obtain ⟨x,rs,rfl,rx,rr⟩:=hr.get hu
  have e0:zm (.cons x rs) (k + C.length)=yw x (k + C.length) ++ zm rs (k + C.length + (yw x (k + C.length)).length):=by rw [zm]
  rw [e0] at eq
  have okd:=ok.dp
  have c1:(Rws.cons x rs).deep=max x.deep rs.deep:=by rw [Rws.deep]
  rw [c1] at okd
  have okc:=ok.ct
  have c2:(Rws.cons x rs).cnt=x.cnt + rs.cnt:=by rw [Rws.cnt]
  rw [c2] at okc
  have okp:=ok.pl
  unfold yS at okp
  have le:=congrArg bP eq
  rw [bw,bw] at le
  have ly:=cy pr
  have nx:∀ {H2:Hp} {o':Option V} {zs:List V},Same H H2→H2 L=some (.lst zs)→Paired (CsAt H2) zs (C ++ yw x (k + C.length))→sfI (.ref p) L xs k n r H (i + 1) [some (.ref p),some (.int k),some (.ref L),o'] H2:=fun {H2 o' zs} s2 g2 p2 =>
   ⟨rs,zs,_,⟨_,rfl⟩,s2,g2,p2,rr,⟨by lia,by lia,okp.2⟩,by rw [cg,bw,← iG];exact eq⟩
  obtain ⟨p1,fs,hd,rfl,e2,e3,e4⟩:=zeh rx
  refine xD rfl (s _ _ e2) e3 (fun ez=>?_) fun ez=>?_
  ·rcases zaR x with ⟨e,a,b,rfl⟩ | hni
   rotate_left
   ·exact absurd hni (e4.mp ez)
   have d1:(Rw.iff e a b).deep=max a.deep b.deep + 1:=by rw [Rw.deep]
   have d2:(Rw.iff e a b).cnt=max a.cnt b.cnt + 1:=by rw [Rw.cnt]
   rw [d1] at okd
   rw [d2] at okc
   have pl:=okp.1
   unfold xZ at pl
   refine ⟨_,rfl,.inl ⟨rfl,_,SqL.of hy⟩,_,rfl,_,rfl,zcT rfl hy ⟨_,_,rfl,rfl,_,e,a,b,k + C.length,by rw [← ly];rfl,rx.mono s,⟨by lia,by lia,pl.2.1⟩,⟨by lia,by lia,pl.2.2⟩,by lia,fun l us H2 s2 hl pu=>?_⟩⟩
   have lu:=cy pu
   refine ⟨L,_,ys,us,rfl,rfl,s2 _ _ hy,hl,cf (by lia:ys.length + us.length≤1000) (by decide),?_⟩
   exact nx (z8 (s.trans s2) hL) zf (ki (QY (s2 _ _ hy)) (Paired.app2 (x5 s2 pr) pu))
  ·have hni:Jx x:=by
    rcases zaR x with ⟨e,a,b,rfl⟩ | hni
    ·exact absurd (e4.mpr (fun z=>z)) ez
    ·exact hni
   have ec:=yT hni (k + C.length)
   rw [ec] at nx
   refine ⟨_,rfl,.inl ⟨rfl,_,SqL.of hy⟩,_,rfl,L,ys,_,rfl,rfl,hy,bY (by lia:ys.length≤900) (by decide),?_⟩
   exact nx (z8 s hL) zf (Paired.snocP (ki (QY hy) pr) (CsAt.ts (QY hy) ⟨rx.mono s,hni⟩))
 ·rintro σ H' ⟨rest,ys,C,⟨o,rfl⟩,s,hy,pr,hr,ok,eq⟩
  have e:=hr.none
  subst e
  rw [show zm .nil (k + C.length)=[] by rw [zm],bt] at eq
  rw [eq] at pr
  exact ⟨_,rfl,q L ys H' s hL hy pr⟩
theorem WW {H H':Hp} {a:Addr} {o:HO} (e:upd H a o=H') (h:H a=none):Same H H'∧H' a=some o:=⟨e ▸ isV a h,e ▸ zf⟩
theorem XA {v:V} {e:List V} {a b:Rws} {k n:Nat} (h1:RwAt vc H v (.iff e a b)) (h2:kO n a) (h3:kO n b) (h4:k + (yw (.iff e a b) k).length≤500) (q:∀ l xs H',Same H H'→H' l=some (.lst xs)→Paired (CsAt H') xs (yw (.iff e a b) k)→Q (.ref l) H') :
  qx K t n { nx:=fun _ H'=>Q .non H',rt:=Q } (L2.start ["row","at","steps","to","others"] [v,.int k]) H:=by
 unfold RwAt at h1
 obtain ⟨p,te,la,lb,xs,ys,rfl,f1,f2,f3,f4,e2,e3,e4,e6,e5,e7⟩:=h1
 have ec:yw (.iff e a b) k=blk e k (zm a (k + 1)) (Rws.isNil b) (zm b (k + 2 + (zm a (k + 1)).length)):=by rw [yw]
 rw [ec] at h4 q
 refine kM rfl e2 rfl ⟨_,rfl,_,_,rfl,rfl,.ref la,a,k + 1,rfl,⟨la,xs,rfl,f3,e4,e6⟩,h2,?_,fun l us H1 s1 fl hl pu=>?_⟩
 ·unfold blk at h4;split at h4 <;> simp only [ck,bw] at h4 <;> lia
 have lu:=cy pu
 generalize zm a (k + 1)=A at *
 refine ⟨_,rfl,_,_,rfl,rfl,zcT rfl hl ⟨_,_,rfl,rfl,?_⟩⟩
 have ei:(k:Int) + 1 + us.length=((k + 1 + A.length:Nat):Int):=by lia
 show jz K t n _ [some (.ref p),some (.int k),some (.ref l),some (.int ((k:Int) + 1 + us.length)),none] H1
 rw [ei]
 refine kM rfl (s1 _ _ e2) rfl ⟨b9 _,fun z gz=>?_⟩
 generalize f0:upd H1 z _=H2
 obtain ⟨s2,hz⟩:=WW f0 gz
 have S2:=s1.trans s2
 refine ⟨lb,z,ys,rfl,rfl,SqL.of (S2 _ _ e5),SqL.of hz,_,rfl,?_⟩
 have nb:Rws.isNil b=decide (ys=[]):=by
  cases b with
  | nil=>unfold RwsAt at e7;simp [Rws.isNil,e7]
  | cons x r=>unfold RwsAt at e7;obtain ⟨v,vs,rfl,_⟩:=e7;simp [Rws.isNil]
 have hl2:=s2 _ _ hl
 have pu2:=x5 s2 pu
 show if _ then _ else _
 by_cases hb:ys=[]
 ·rw [if_pos (decide_eq_true hb)]
  have eb:∀ B,blk e k A (Rws.isNil b) B=.skip e (k + 1 + A.length) :: A:=fun B=>by unfold blk;rw [if_pos (by rw [nb];exact decide_eq_true hb)]
  rw [eb] at q h4
  rw [ck] at h4
  refine kM rfl (S2 _ _ e2) rfl ⟨_,rfl,by show (3:Nat)≤sizeLine;decide,fun p1 g1=>?_⟩
  generalize c1:upd H2 p1 _=H3
  obtain ⟨t1,hp1⟩:=WW c1 g1
  refine ⟨by show (1:Nat)≤sizeLine;decide,fun p2 g2=>?_⟩
  generalize c2:upd H3 p2 _=H4
  obtain ⟨t2,hp2⟩:=WW c2 g2
  have T:=t1.trans t2
  refine ⟨_,rfl,_,_,_,us,rfl,rfl,hp2,T _ _ hl2,cf (by show 1 + us.length≤1000;lia) (by decide),fun p3 g3=>?_⟩
  have t3:=isV (o:=HO.lst ([V.ref p1] ++ us)) p3 g3
  exact q p3 ([V.ref p1] ++ us) _ (S2.trans (T.trans t3)) zf (.cons ⟨p1,te,rfl,(t2.trans t3) _ _ hp1,(S2.trans (T.trans t3)) _ _ e3⟩ (x5 (T.trans t3) pu2))
 ·rw [if_neg (by rw [decide_eq_true_eq];exact hb)]
  have eb:∀ B,blk e k A (Rws.isNil b) B=.skip e (k + 2 + A.length) :: (A ++ (.go (k + 2 + A.length + B.length) :: B)):=fun B=>by unfold blk;rw [if_neg (by rw [nb];simpa using hb)]
  rw [eb] at q h4
  rw [ck,bw,ck] at h4
  have ej:((k + 1 + A.length:Nat):Int) + 1=((k + 2 + A.length:Nat):Int):=by lia
  refine kM rfl (S2 _ _ e2) rfl ⟨_,rfl,_,_,rfl,rfl,.ref lb,b,k + 2 + A.length,?_,⟨lb,ys,rfl,f4,S2 _ _ e5,e7.mono S2⟩,h3,by lia,fun l2 ws H3 s3 fl2 hl3 pw=>?_⟩
  ·show [V.ref lb,V.int (((k + 1 + A.length:Nat):Int) + 1)]=_
   rw [ej]
  have lw:=cy pw
  generalize zm b (k + 2 + A.length)=B at *
  have S3:=S2.trans s3
  refine kM rfl (S3 _ _ e2) rfl ⟨_,rfl,_,_,rfl,rfl,by show (3:Nat)≤sizeLine;decide,fun p1 g1=>?_⟩
  generalize c1:upd H3 p1 _=H4
  obtain ⟨t1,hp1⟩:=WW c1 g1
  have hp1:H4 p1=some (.tup [.str (bb "skip"),.ref te,.int ((k + 2 + A.length:Nat):Int)]):=by rw [← ej];exact hp1
  refine ⟨by show (1:Nat)≤sizeLine;decide,fun p2 g2=>?_⟩
  generalize c2:upd H4 p2 _=H5
  obtain ⟨t2,hp2⟩:=WW c2 g2
  have T2:=t1.trans t2
  refine ⟨_,rfl,_,_,_,us,rfl,rfl,hp2,(s3.trans T2) _ _ hl2,cf (by show 1 + us.length≤1000;lia) (by decide),fun p3 g3=>?_⟩
  generalize c3:upd H5 p3 _=H6
  obtain ⟨t3,hp3⟩:=WW c3 g3
  have T3:=T2.trans t3
  refine ⟨_,rfl,_,_,rfl,rfl,zcT rfl (T3 _ _ hl3) ⟨_,_,rfl,rfl,by show (2:Nat)≤sizeLine;decide,fun p4 g4=>?_⟩⟩
  generalize c4:upd H6 p4 _=H7
  obtain ⟨t4,hp4⟩:=WW c4 g4
  have eg:((k + 1 + A.length:Nat):Int) + 1 + ws.length=((k + 2 + A.length + B.length:Nat):Int):=by lia
  have hp4:H7 p4=some (.tup [.str (bb "go"),.int ((k + 2 + A.length + B.length:Nat):Int)]):=by rw [← eg];exact hp4
  refine ⟨by show (1:Nat)≤sizeLine;decide,fun p5 g5=>?_⟩
  generalize c5:upd H7 p5 _=H8
  obtain ⟨t5,hp5⟩:=WW c5 g5
  refine ⟨_,_,_,_,rfl,rfl,(t4.trans t5) _ _ hp3,hp5,cf (by show ([V.ref p1] ++ us).length + 1≤1000;rw [bw,dz];lia) (by decide),fun p6 g6=>?_⟩
  generalize c6:upd H8 p6 _=H9
  obtain ⟨t6,hp6⟩:=WW c6 g6
  have T6:=t4.trans (t5.trans t6)
  refine ⟨_,rfl,_,_,_,ws,rfl,rfl,hp6,(T3.trans T6) _ _ hl3,cf (by rw [bw,bw,dz,dz];lia:_≤1000) (by decide),fun p7 g7=>?_⟩
  generalize c7:upd H9 p7 _=H10
  obtain ⟨t7,hp7⟩:=WW c7 g7
  have T7:=T6.trans t7
  have U:=T3.trans T7
  have el:[V.ref p1] ++ us ++ [V.ref p4] ++ ws=V.ref p1 :: (us ++ (V.ref p4 :: ws)):=by simp
  refine q p7 ([V.ref p1] ++ us ++ [V.ref p4] ++ ws) _ (S3.trans U) hp7 ?_
  rw [el]
  exact .cons ⟨p1,te,rfl,(t2.trans (t3.trans T7)) _ _ hp1,(S3.trans U) _ _ e3⟩ (Paired.app2 (x5 (s3.trans U) pu2) (.cons ⟨p4,rfl,(t5.trans (t6.trans t7)) _ _ hp4⟩ (x5 U pw)))
theorem Ym {vs:List V} {H:Hp} {Q:VK} {E:XK} (h:xu 0 vs H Q E):False:=by
 obtain ⟨v,r,k,e,h1,h2,h3⟩:=h
 have:=h2.dp
 lia
theorem rnF {P:Str→Option Value} (T:Txt K P t):RnF K t:=⟨T.cl_Run,T.na_Run_code,T.na_Run_at,T.na_Run_why,T.na_Run_slots,T.na_Run_gifts,T.na_Run_notes,T.na_Run_sayings⟩
section
variable {x:Addr} {a:RAd} {C:List Cs} {s:RSt}
theorem RnAt.notup {b:Addr} {zs:List V} (R:RnAt t H x a C s) (h:H b=some (.tup zs)):¬ Ow x a b:=by
 rintro (rfl | rfl | rfl | rfl | rfl)
 ·rw [R.ix] at h;cases h
 ·rw [R.hs] at h;cases h
 ·rw [R.hg] at h;cases h
 ·rw [R.hn] at h;cases h
 ·rw [R.ha] at h;cases h
theorem RnAt.ts {H':Hp} (R:RnAt t H x a C s) (k:Kp x a H H'):TSm H H':=fun b ys e=>k b _ (R.notup e) e
theorem Kp.of_same {H':Hp} (s:Same H H'):Kp x a H H':=fun b o _ e=>s b o e
theorem Kp.trans {H' H'':Hp} (h:Kp x a H H') (k:Kp x a H' H''):Kp x a H H'':=fun b o n e=>k b o n (h b o n e)
theorem wp {b:Addr} {o:HO} (h:Ow x a b):Kp x a H (upd H b o):=fun c o' n e=>by rw [zj (fun z=>n (by rw [z];exact h))];exact e
theorem RnAt.same {H':Hp} (R:RnAt t H x a C s) (k:Same H H'):RnAt t H' x a C s :=
 ⟨k _ _ R.ix,let ⟨xs,h1,h2⟩:=R.hc;⟨xs,k _ _ h1,x5 k h2⟩,k _ _ R.hs,k _ _ R.hg,k _ _ R.hn,k _ _ R.ha,R.ng,R.nc⟩
theorem RnAt.putI (R:RnAt t H x a C s) (s':RSt) (e1:s'.sl=s.sl) (e2:s'.gi=s.gi) (e3:s'.no=s.no) (e4:s'.sa=s.sa):RnAt t (upd H x (.ins t.c_Run a.dx (zf4 a s'))) x a C s':=by
 refine ⟨zf,?_,?_,?_,?_,?_,R.ng,R.nc⟩
 ·obtain ⟨xs,h1,h2⟩:=R.hc
  exact ⟨xs,by rw [zj (yi h1 R.ix (fun z=>nomatch z))];exact h1,ki (R.ts (wp (.inl rfl))) h2⟩
 ·rw [zj (yi R.hs R.ix (fun z=>nomatch z)),e1];exact R.hs
 ·rw [zj (yi R.hg R.ix (fun z=>nomatch z)),e2];exact R.hg
 ·rw [zj (yi R.hn R.ix (fun z=>nomatch z)),e3];exact R.hn
 ·rw [zj (yi R.ha R.ix (fun z=>nomatch z)),e4];exact R.ha
theorem RnAt.putS (R:RnAt t H x a C s) (kvs:List (Key × V)):RnAt t (upd H a.sl (.dK kvs)) x a C { s with sl:=kvs }:=by
 refine ⟨by rw [zj (yi R.ix R.hs (fun z=>nomatch z))];exact R.ix,?_,zf,?_,?_,?_,R.ng,R.nc⟩
 ·obtain ⟨xs,h1,h2⟩:=R.hc
  exact ⟨xs,by rw [zj (yi h1 R.hs (fun z=>nomatch z))];exact h1,ki (R.ts (wp (.inr (.inl rfl)))) h2⟩
 ·rw [zj (yi R.hg R.hs (fun z=>nomatch z))];exact R.hg
 ·rw [zj (yi R.hn R.hs (fun z=>nomatch z))];exact R.hn
 ·rw [zj (yi R.ha R.hs (fun z=>nomatch z))];exact R.ha
theorem RnAt.putG (R:RnAt t H x a C s) (rows:List Row):RnAt t (upd H a.gi (.dT (dOf rows))) x a C { s with gi:=rows }:=by
 refine ⟨by rw [zj (yi R.ix R.hg (fun z=>nomatch z))];exact R.ix,?_,?_,zf,?_,?_,R.ng,R.nc⟩
 ·obtain ⟨xs,h1,h2⟩:=R.hc
  exact ⟨xs,by rw [zj (yi h1 R.hg (fun z=>nomatch z))];exact h1,ki (R.ts (wp (.inr (.inr (.inl rfl))))) h2⟩
 ·rw [zj (yi R.hs R.hg (fun z=>nomatch z))];exact R.hs
 ·rw [zj (cA R.ng)];exact R.hn
 ·rw [zj (yi R.ha R.hg (fun z=>nomatch z))];exact R.ha
theorem RnAt.putO (R:RnAt t H x a C s) (rows:List Row):RnAt t (upd H a.no (.dT (dOf rows))) x a C { s with no:=rows }:=by
 refine ⟨by rw [zj (yi R.ix R.hn (fun z=>nomatch z))];exact R.ix,?_,?_,?_,zf,?_,R.ng,R.nc⟩
 ·obtain ⟨xs,h1,h2⟩:=R.hc
  exact ⟨xs,by rw [zj (yi h1 R.hn (fun z=>nomatch z))];exact h1,ki (R.ts (wp (.inr (.inr (.inr (.inl rfl)))))) h2⟩
 ·rw [zj (yi R.hs R.hn (fun z=>nomatch z))];exact R.hs
 ·rw [zj R.ng];exact R.hg
 ·rw [zj (yi R.ha R.hn (fun z=>nomatch z))];exact R.ha
theorem RnAt.putA (R:RnAt t H x a C s) (is:List Int):RnAt t (upd H a.sa (.lst (is.map V.int))) x a C { s with sa:=is }:=by
 refine ⟨by rw [zj (yi R.ix R.ha (fun z=>nomatch z))];exact R.ix,?_,?_,?_,?_,zf,R.ng,R.nc⟩
 ·obtain ⟨xs,h1,h2⟩:=R.hc
  exact ⟨xs,by rw [zj R.nc];exact h1,ki (R.ts (wp (.inr (.inr (.inr (.inr rfl)))))) h2⟩
 ·rw [zj (yi R.hs R.ha (fun z=>nomatch z))];exact R.hs
 ·rw [zj (yi R.hg R.ha (fun z=>nomatch z))];exact R.hg
 ·rw [zj (yi R.hn R.ha (fun z=>nomatch z))];exact R.hn
end
theorem Yn {C:List Cs} {s:RSt} (h:¬ yh C s=true):s.n < C.length:=by
 unfold yh at h
 simp only [oC,decide_eq_true_eq,not_or] at h
 lia
theorem QZ (rows:List Row) (p:Pl) (w:Int):zr (rows ++ [(p,w)]) p=some w:=by
 have h:=xH (rows ++ [(p,w)]) p
 rw [vn,Z6,if_pos rfl] at h
 cases hl:zr (rows ++ [(p,w)]) p with
 | none=>rw [hl] at h;cases h
 | some i=>rw [hl] at h;cases h;rfl
theorem zfs {v:V} {c:Cs} (h:CsAt H v c):∃ p zs hd,v=.ref p∧H p=some (.tup zs)∧atI zs 0=some (.str hd)∧(hd=bb "take"→∃ sh e x te,c=.row (.take sh e x)∧atI zs 1=some (.str sh)∧atI zs 2=some (.ref te)∧H te=some (.tup e))∧(hd≠bb "take"→∀ s,wd c s=none):=by
 cases c with
 | row r =>
  have h1:=h.1
  cases r with
  | take sh e sl=>unfold RwAt at h1;obtain ⟨r,te,rfl,_,_,e2,e3⟩:=h1;exact ⟨r,_,_,rfl,e2,rfl,fun _=>⟨sh,e,sl,te,rfl,rfl,rfl,e3⟩,fun z=>absurd rfl z⟩
  | give sh e f=>unfold RwAt at h1;obtain ⟨r,te,tf,rfl,_,_,_,e2,e3⟩:=h1;exact ⟨r,_,_,rfl,e2,rfl,fun z=>absurd z (by decide +kernel),fun _ _=>rfl⟩
  | lt sl e=>unfold RwAt at h1;obtain ⟨r,te,rfl,_,_,e2,e3⟩:=h1;exact ⟨r,_,_,rfl,e2,rfl,fun z=>absurd z (by decide +kernel),fun _ _=>rfl⟩
  | say e=>unfold RwAt at h1;obtain ⟨r,te,rfl,_,_,e2,e3⟩:=h1;exact ⟨r,_,_,rfl,e2,rfl,fun z=>absurd z (by decide +kernel),fun _ _=>rfl⟩
  | off e=>unfold RwAt at h1;obtain ⟨r,te,rfl,_,_,e2,e3⟩:=h1;exact ⟨r,_,_,rfl,e2,rfl,fun z=>absurd z (by decide +kernel),fun _ _=>rfl⟩
  | iff e b d=>exact (h.2:False).elim
 | skip e to=>obtain ⟨p,te,e1,e2,_⟩:=h;exact ⟨p,_,_,e1,e2,rfl,fun z=>absurd z (by decide +kernel),fun _ _=>rfl⟩
 | go en=>obtain ⟨p,e1,e2⟩:=h;exact ⟨p,_,_,e1,e2,rfl,fun z=>absurd z (by decide +kernel),fun _ _=>rfl⟩
theorem zft {κ:Type} [DecidableEq κ] {kvs:List (κ × V)} {k:κ} (h:k ∉ kvs.map (·.1)):yP kvs k=none:=by
 cases e:yP kvs k with
 | none=>rfl
 | some v=>exact absurd (zam e) h
theorem zaS:∀ (gs:List Row) (kvs:List (List Key × V)),(∀ r∈gs,zH r.1 ∉ kvs.map (·.1))→(gs.map (·.1)).Nodup→gs.foldl Ye kvs=kvs ++ gs.map fun r=>(zH r.1,V.int r.2)
 | [],kvs,_,_=>by simp
 | r :: gs,kvs,h,nd=>by
  rw [bW,cu] at nd
  rw [eR,Ye,XU _ (zft (h r bH)),zaS gs _ (fun q hq=>?_) nd.2,bW,cg,List.singleton_append]
  rw [fE,bz,not_or]
  refine ⟨h q (bx _ hq),fun z=>nd.1 ?_⟩
  have z2:zH q.1=zH r.1:=by simpa using z
  rw [← xc z2]
  exact cP hq
theorem zfu {gs:List Row} (nd:(gs.map (·.1)).Nodup):dOf gs=gs.map fun r=>(zH r.1,V.int r.2):=by
 unfold dOf
 rw [zaS gs [] (fun _ _ h=>nomatch h) nd,cj]
theorem Yo {H H':Hp} (s:Same H H'):∀ {ys:List V} {rows:List Row},Paired (PrAt H) ys rows→Paired (PrAt H') ys rows
 | _,_,.nil=>.nil
 | _,_,.cons ⟨r,p,e1,e2,e3⟩ t=>.cons ⟨r,p,e1,s _ _ e2,s _ _ e3⟩ (Yo s t)
theorem ini {H HA:Hp} {x sl:Addr} {o i i':HO} (A1:Y9 x H HA) (A2:HA x=some i) (h:HA sl=none):x≠sl∧H sl=none∧Y9 x H (upd (upd HA sl o) x i')∧upd (upd HA sl o) x i' sl=some o∧Y9 x HA (upd (upd HA sl o) x i'):=by
 have n:x≠sl:=zB A2 h
 have S:Y9 x HA (upd (upd HA sl o) x i'):=fun b u nb e=>by rw [zj nb,zj (fun z=>by rw [z,h] at e;cases e)];exact e
 refine ⟨n,?_,fun b u nb e=>S b u nb (A1 b u nb e),by rw [zj (cA n),zf],S⟩
 cases hs:H sl with
 | none=>rfl
 | some u=>rw [A1 sl u (cA n) hs] at h;cases h
section
variable {x:Addr} {a:RAd} {C:List Cs} {s:RSt} {E:XK}
theorem JC (F:RnF K t) (R:RnAt t H x a C s) (q:∀ H',Same H H'→Q (.bl (yh C s)) H') :
  qy K t { nx:=fun _ H'=>Q .non H',rt:=Q } (L2.start ["self"] [.ref x]) H:=by
 simp only [qy,yG,L2.start,zE,tOp,zc,tC,zb,zi,zeY,tCB,Zw,rI0,zap,xW,cC,bM,bP,bt,bd,bi,exists_eq_left',V.int.injEq,V.ref.injEq,V.bl.injEq,bq,and_true,true_and,exists_and_left,bZ,bO,b7,decide_eq_false_iff_not]
 obtain ⟨xs,hx,pr⟩:=R.hc
 have lx:=cy pr
 refine ⟨_,_,_,R.ix,F.cl,F.n3,_,rfl,?_⟩
 cases hw:s.why with
 | some w =>
  rw [if_pos (fun z=>nomatch z)]
  have e:yh C s=true:=by unfold yh;rw [hw];rfl
  rw [e] at q
  exact q H fun _ _ z=>z
 | none =>
  rw [if_neg (fun z=>z rfl)]
  refine ⟨_,_,_,R.ix,F.cl,F.n2,_,rfl,_,_,_,R.ix,F.cl,F.n1,_,rfl,xs.length,.inl ⟨_,SqL.of hx,rfl⟩,_,rfl,?_⟩
  have e:yh C s=decide ((xs.length:Int)≤(s.n:Int)):=by unfold yh;rw [hw,lx];simp
  rw [← e]
  exact q H fun _ _ z=>z
theorem YT {tm:Addr} {e:List V} (F:RnF K t) (R:RnAt t H x a C s) (h2:yo s.sl) (h3:H tm=some (.tup e)) (h4:TermOk e)
  (q:∀ H',Same H H'→fin t (rk s.sl e) Q E H'):wT K t E { nx:=fun _ H'=>Q .non H',rt:=Q } (L2.start ["self","term"] [.ref x,.ref tm]) H:=by
 simp only [wT,wJ,yG,L2.start,zE,zc,zb,zi,zo,cC,bM,bP,bt,bd,bh,bi,exists_eq_left',V.ref.injEq,bq,and_true,and_assoc,exists_and_left,bZ,bO]
 exact ⟨_,_,_,R.ix,F.cl,F.n4,_,rfl,s.sl,_,rfl,e,h3,R.hs,_,h4.good s.sl,h4.2.1,h4.2.2,h2,q⟩
theorem YU {p te:Addr} {xs e:List V} {sh:Str} (F:RnF K t) (R:RnAt t H x a C s) (h2:yo s.sl) (h3:H p=some (.tup xs)) (h4:atI xs 1=some (.str sh)) (h5:atI xs 2=some (.ref te)) (h6:H te=some (.tup e)) (h7:TermOk e)
  (q1:∀ i q H',rk s.sl e=.ok i→Same H H'→H' q=some (.tup [.str sh,.int i])→Q (.ref q) H') (q2:∀ er H',rk s.sl e=.error er→Same H H'→Xq t er E H') :
  wU K t E { nx:=fun _ H'=>Q .non H',rt:=Q } (L2.start ["self","due"] [.ref x,.ref p]) H:=by
 simp only [wU,yc,yt,L2.start,zU,zE,tOp,zc,tC,yx,zb,zi,zU,cC,bM,bP,bt,bd,bh,bi,exists_eq_left',V.int.injEq,V.ref.injEq,bq,and_true,and_assoc,exists_and_left,bZ,bO]
 refine ⟨_,SqT.of h3,_,h4,_,_,R.ix,rfl,_,SqT.of h3,_,h5,_,rfl,e,a,C,s,R,h2,h6,h7,fun H1 s1=>?_⟩
 cases hk:rk s.sl e with
 | error er=>exact fin_err.mpr (q2 er H1 hk s1)
 | ok n =>
  refine fin_ok.mpr ⟨by decide,fun p hp=>?_⟩
  exact q1 n p _ hk (s1.trans (isV (o:=HO.tup [V.str sh,V.int n]) p hp)) zf
theorem WX {q:Addr} {p:Pl} {w:Int} (F:RnF K t) (R:RnAt t H x a C s) (h2:H q=some (.tup [.str p.1,.int p.2])) (h3:s.no.length≤900)
  (k:∀ H',Kp x a H H'→RnAt t H' x a C (yU p w s)→Q (.int (wm p w s)) H') :
  j8 K t { nx:=fun _ H'=>Q .non H',rt:=Q } (L2.start ["self","place","worth"] [.ref x,.ref q,.int w]) H:=by
 simp only [j8,wA,Jk,XX,yG,L2.start,zp,zE,zJ,tOp,zc,zM,zq,cC,bM,bP,bt,bd,bh,bi,exists_eq_left',V.ref.injEq,V.bl.injEq,exists_and_left,bZ,bO,b7,if_true,cr,ite_false]
 have g1:DGet H a.gi (.ref q) ((zr s.gi p).map V.int):=.inr ⟨dOf s.gi,zH p,q,.inl R.hg,rfl,h2,(xH _ _).symm⟩
 have g2:DGet H a.no (.ref q) ((zr s.no p).map V.int):=.inr ⟨dOf s.no,zH p,q,.inl R.hn,rfl,h2,(xH _ _).symm⟩
 refine ⟨_,_,_,R.ix,F.cl,F.n5,_,rfl,_,rfl,_,g1,?_⟩
 cases hg:zr s.gi p with
 | some i =>
  rw [if_pos (by simp)]
  have e:yU p w s=s:=by unfold yU;rw [if_pos (.inl (by rw [hg];rfl))]
  have e2:wm p w s=i:=by unfold wm;rw [hg];rfl
  rw [e,e2] at k
  rw [hg] at g1
  exact ⟨_,_,_,R.ix,F.cl,F.n5,_,rfl,_,rfl,_,g1,k H (.of_same fun _ _ z=>z) R⟩
 | none =>
  rw [if_neg (by simp)]
  refine ⟨_,_,_,R.ix,F.cl,F.n6,_,rfl,_,rfl,_,g2,?_⟩
  cases ho:zr s.no p with
  | some i =>
   rw [if_neg (by simp)]
   have e:yU p w s=s:=by unfold yU;rw [if_pos (.inr (by rw [ho];rfl))]
   have e2:wm p w s=i:=by unfold wm;rw [hg,ho];rfl
   rw [e,e2] at k
   rw [ho] at g2
   exact ⟨_,_,_,R.ix,F.cl,F.n6,_,rfl,_,rfl,_,g2,k H (.of_same fun _ _ z=>z) R⟩
  | none =>
   rw [if_pos (by simp)]
   have e:yU p w s={ s with no:=s.no ++ [(p,w)] }:=by unfold yU;rw [if_neg (by rw [hg,ho];simp)]
   have e2:wm p w s=w:=by unfold wm;rw [hg,ho];rfl
   rw [e,e2] at k
   have ld:=yY s.no
   have ep:yB (dOf s.no) (zH p) (V.int w)=dOf (s.no ++ [(p,w)]):=(vn s.no (p,w)).symm
   have D:=DPut.t (k:=zH p) (v:=V.int w) R.hn h2 (bY (by lia:_≤900) (by decide))
   rw [ep] at D
   have R2:=R.putO (s.no ++ [(p,w)])
   have K2:Kp x a H (upd H a.no (.dT (dOf (s.no ++ [(p,w)])))):=wp (.inr (.inr (.inr (.inl rfl))))
   refine ⟨_,_,_,R.ix,F.cl,F.n6,_,rfl,_,rfl,_,D,_,_,_,R2.ix,F.cl,F.n6,_,rfl,_,rfl,V.int w,?_,k _ K2 R2⟩
   refine .inr ⟨_,zH p,q,.inl R2.hn,rfl,K2 _ _ (R.notup h2) h2,?_⟩
   rw [xH,QZ];rfl
theorem JD {P:Str→Option Value} {w:Int} {m:Nat} (T:Txt K P t) (R:RnAt t H x a C s) (h2:∀ c∈C,Xr c) (h3:RnOk m s) (h4:m≤900) (q:∀ H',Kp x a H H'→RnAt t H' x a C (xz C w s)→Q .non H') :
  qD K t { nx:=fun _ H'=>Q .non H',rt:=Q } (L2.start ["self","worth"] [.ref x,.int w]) H:=by
 simp only [qD,xv,jb,yG,kU,yt,YC,Wb,zcQ,L2.start,zp,zbL,zJ,tOp,zc,tC,zb,zi,zM,tB,yn,cC,bM,bP,bt,bd,bh,bi,exists_eq_left',V.int.injEq,V.ref.injEq,V.bl.injEq,bq,and_true,and_assoc,exists_and_left,bZ,bO]
 have F:=rnF T
 refine ⟨_,_,R.ix,rfl,a,C,s,R,fun H1 s1=>?_⟩
 have R1:=R.same s1
 by_cases ho:yh C s=true
 ·rw [if_pos ho]
  exact q H1 (.of_same s1) (by unfold xz;rw [if_pos ho];exact R1)
 rw [if_neg ho]
 obtain ⟨xs,hx,pr⟩:=R1.hc
 have lx:=cy pr
 have lt:=Yn ho
 have hc:C[s.n]?=some C[s.n]:=bg lt
 have hv:xs[s.n]?=some xs[s.n]:=bg (by lia)
 have cv:=ym pr hv hc
 have es:∀ w,xz C w s=zT C[s.n] w s:=fun w=>by unfold xz;rw [if_neg ho,hc]
 rw [es] at q
 refine ⟨_,_,R1.ix,rfl,_,_,_,R1.ix,F.cl,F.n1,_,rfl,_,_,_,R1.ix,F.cl,F.n2,_,rfl,_,rfl,xs,_,rfl,SqL.of hx,_,w6 hv,C[s.n],m,a,C,s,R1,cv,h2 _ (gq lt),h3,h4,fun H2 s' k e K2 R2=>⟨_,_,_,R2.ix,F.cl,F.n2,(by show (7:Nat) < 1000;decide),?_⟩,fun H2 er e s2=>?_⟩
 ·have z:=R2.putI { s' with n:=k } rfl rfl rfl rfl
  exact q _ ((Kp.of_same s1).trans (K2.trans (wp (.inl rfl)))) (by unfold zT;rw [e];exact z)
 ·have R3:=R1.same s2
  have z:=R3.putI { s with why:=some (We er) } rfl rfl rfl rfl
  have q':=q _ ((Kp.of_same s1).trans ((Kp.of_same s2).trans (wp (.inl rfl)))) (by unfold zT;rw [e];exact z)
  cases er with
  | nought=>exact ⟨t.c_Nought,rfl,.inr ⟨T.e_Nought_Great,T.e_Nought_Nought,_,_,_,R3.ix,F.cl,F.n3,(by show (7:Nat) < 1000;decide),q'⟩⟩
  | great=>exact ⟨t.c_Great,rfl,.inl ⟨T.e_Great_Great,_,_,_,R3.ix,F.cl,F.n3,(by show (7:Nat) < 1000;decide),q'⟩⟩
  | stuck=>trivial
theorem WY (F:RnF K t) (R:RnAt t H x a C s) (h2:s.no.length≤900) (h3:(s.no.map (·.1)).Nodup) (h4:s.gi.length≤63) (q1:∀ H',yh C s=false→Same H H'→Q .non H')
  (q2:∀ r o nl gl out H',yh C s=true→Same H H'→H nl=none→H gl=none→nl≠gl→H' r=some (.tup [o,.ref nl,.ref gl])→Zd H' o (wO s)→LsAt H' nl s.no→LsAt H' gl out→vS s out→Q (.ref r) H') :
  j7 K t { nx:=fun _ H'=>Q .non H',rt:=Q } (L2.start ["self","notes"] [.ref x]) H:=by
 simp only [j7,xv,yt,L2.start,zp,zE,zJ,zc,tC,zi,zM,x9,tB,cC,bM,bP,cb,cj,bt,bd,bi,exists_eq_left',V.ref.injEq,V.bl.injEq,bq,and_true,exists_and_left,bZ,bO,b7]
 refine ⟨_,_,R.ix,rfl,a,C,s,R,fun H1 s1=>?_⟩
 have R1:=R.same s1
 cases ho:yh C s with
 | false=>rw [if_pos rfl];exact q1 H1 ho s1
 | true =>
  rw [if_neg (by decide)]
  simp only [qA,qz,zdS,yG,qg,Kw,Ky,zp,zV,zw,zE,zJ,tOp,zc,tC,xo,yx,zb,zi,zM,zq,tCB,zap,bP,bd,bh,bi,exists_eq_left',V.ref.injEq,V.bl.injEq,bq,and_true,true_and,exists_and_left,bE,bI,bO,b7,decide_eq_false_iff_not]
  refine ⟨_,_,_,R1.ix,F.cl,F.n6,_,rfl,_,rfl,_,R1.hn,fun r hr=>⟨a.no,zf,dOf s.no,(by rw [zj (zB R1.hn hr)];exact R1.hn),(by have:=yY s.no;lia),fun l ys H2 s2 fl hl pr=>?_⟩⟩
  have sv:=isV (o:=ku r a.no) r hr
  have S2:=sv.trans s2
  have R2:=R1.same S2
  have nl:H l=none:=zA (s1.trans sv) fl
  rw [zfu h3] at pr
  have pn:=zaM pr
  refine ⟨_,_,_,R2.ix,F.cl,F.n3,_,rfl,?_⟩
  cases hw:s.why with
  | some w =>
   rw [if_pos (fun z=>nomatch z)]
   refine ⟨_,_,_,R2.ix,F.cl,F.n3,_,rfl,by decide,fun p hp=>⟨by decide,fun g hg=>⟨by decide,fun r2 hr2=>?_⟩⟩⟩
   rw [hw]
   rw [hw] at hg hr2
   have t1:=isV (o:=HO.tup [V.str (bb "off"),zf3 (some w)]) p hp
   have t2:=isV (o:=HO.lst []) g hg
   have t3:=isV (o:=HO.tup [V.ref p,V.ref l,V.ref g]) r2 hr2
   have T3:=t1.trans (t2.trans t3)
   refine q2 r2 (.ref p) l g [] _ ho (s1.trans (S2.trans T3)) nl (zA (s1.trans (S2.trans t1)) hg) (fun z=>by rw [← z,t1 _ _ hl] at hg;cases hg) zf ?_ ⟨ys,T3 _ _ hl,Yo T3 pn⟩ ⟨[],t3 _ _ zf,.nil⟩ ?_
   ·unfold wO;rw [hw];exact ⟨p,rfl,(t2.trans t3) _ _ zf⟩
   ·unfold vS;rw [hw]
  | none =>
   rw [if_neg (fun z=>z rfl)]
   refine ⟨_,_,_,R2.ix,F.cl,F.n7,_,rfl,_,rfl,_,.inl ⟨SqL.of R2.ha,fun y hy=>⟨by decide,fun p hp=>?_⟩⟩⟩
   have t1:=isV (o:=HO.tup (cC V.int s.sa)) y hy
   have t2:=isV (o:=HO.tup [V.str (bb "done"),V.ref y]) p hp
   have R3:=R2.same (t1.trans t2)
   have ly:=t2 _ _ (zf (H:=H2) (a:=y) (o:=HO.tup (cC V.int s.sa)))
   have lp:upd (upd H2 y (HO.tup (cC V.int s.sa))) p (HO.tup [V.str (bb "done"),V.ref y]) p=some (HO.tup [V.str (bb "done"),V.ref y]):=zf
   have T2:=t1.trans t2
   generalize upd (upd H2 y (HO.tup (cC V.int s.sa))) p (HO.tup [V.str (bb "done"),V.ref y])=H3 at *
   refine ⟨_,_,_,R3.ix,F.cl,F.n5,_,rfl,_,rfl,_,R3.hg,fun r3 hr3=>⟨a.gi,zf,s.gi,(by rw [zj (zB R3.hg hr3)];exact R3.hg),(by have:=yY s.gi;lia),fun g zs srt H4 s4 fg hg ps ri mi=>⟨by decide,fun r2 hr2=>?_⟩⟩⟩
   have t3:=(isV (o:=ku r3 a.gi) r3 hr3).trans s4
   have t5:=isV (o:=HO.tup [V.ref p,V.ref l,V.ref g]) r2 hr2
   have T5:=t3.trans t5
   have fg3:H3 g=none:=zA (isV (o:=ku r3 a.gi) r3 hr3) fg
   refine q2 r2 (.ref p) l g srt _ ho (s1.trans (S2.trans (T2.trans T5))) nl (zA (s1.trans (S2.trans T2)) fg3) (fun z=>by rw [← z,T2 _ _ hl] at fg3;cases fg3) zf ?_ ⟨ys,(T2.trans T5) _ _ hl,Yo (T2.trans T5) pn⟩ ⟨zs,t5 _ _ hg,Yo t5 ps⟩ ?_
   ·unfold wO;rw [hw];exact ⟨p,y,rfl,T5 _ _ lp,T5 _ _ ly⟩
   ·unfold vS;rw [hw];exact ⟨ri,mi⟩
end
theorem zc2 (p:Pl) (w:Int) (s:RSt):(yU p w s).sl=s.sl:=by unfold yU;split <;> rfl
theorem zei (p:Pl) (w:Int) (s:RSt):(yU p w s).n=s.n:=by unfold yU;split <;> rfl
theorem zf5 {r:Rw} {w:Int} {s s':RSt} (h:wN r) (e:doR r w s=.ok s'):s'.n=s.n:=by
 cases r with
 | take sh e' x =>
  cases hk:rk s.sl e' with
  | error er=>simp only [doR,hk] at e;cases e
  | ok n=>simp only [doR,hk] at e;cases e;exact zei _ _ _
 | give sh e' f =>
  cases hk:rk s.sl e' with
  | error er=>simp only [doR,hk] at e;cases e
  | ok n =>
   cases hk2:rk s.sl f with
   | error er=>simp only [doR,hk,hk2] at e;cases e
   | ok i=>simp only [doR,hk,hk2] at e;cases e;rfl
 | lt x e' =>
  cases hk:rk s.sl e' with
  | error er=>simp only [doR,hk] at e;cases e
  | ok n=>simp only [doR,hk] at e;cases e;rfl
 | say e' =>
  cases hk:rk s.sl e' with
  | error er=>simp only [doR,hk] at e;cases e
  | ok n=>simp only [doR,hk] at e;cases e;rfl
 | off e'=>exact h.elim
 | iff e' b d=>exact h.elim
theorem KY {r:Rw} {w:Int} {s:RSt} (h:wN r):yr (.row r) w s=match doR r w s with
  | .error er=>.error er
  | .ok s'=>.ok (s.n + 1,s'):=by
 cases r with
 | off e'=>exact h.elim
 | iff e' b d=>exact h.elim
 | take sh e' x=>rfl
 | give sh e' f=>rfl
 | lt x e'=>rfl
 | say e'=>rfl
theorem zej (r:Rw) (h:Jx r):(∃ e,r=.off e)∨wN r:=by
 cases r with
 | off e'=>exact .inl ⟨e',rfl⟩
 | iff e' b d=>exact h.elim
 | take sh e' x=>exact .inr trivial
 | give sh e' f=>exact .inr trivial
 | lt x e'=>exact .inr trivial
 | say e'=>exact .inr trivial
theorem zek {F:Addr→Prop} {v:V} {r:Rw} (h:RwAt F H v r) (d:wN r):∃ p xs hd,v=.ref p∧H p=some (.tup xs)∧atI xs 0=some (.str hd)∧hd≠bb "go"∧hd≠bb "skip"∧hd≠bb "off":=by
 cases r with
 | take sh e sl=>unfold RwAt at h;obtain ⟨r,te,rfl,_,_,e2,e3⟩:=h;exact ⟨r,_,_,rfl,e2,rfl,by decide +kernel,by decide +kernel,by decide +kernel⟩
 | give sh e f=>unfold RwAt at h;obtain ⟨r,te,tf,rfl,_,_,_,e2,e3⟩:=h;exact ⟨r,_,_,rfl,e2,rfl,by decide +kernel,by decide +kernel,by decide +kernel⟩
 | lt sl e=>unfold RwAt at h;obtain ⟨r,te,rfl,_,_,e2,e3⟩:=h;exact ⟨r,_,_,rfl,e2,rfl,by decide +kernel,by decide +kernel,by decide +kernel⟩
 | say e=>unfold RwAt at h;obtain ⟨r,te,rfl,_,_,e2,e3⟩:=h;exact ⟨r,_,_,rfl,e2,rfl,by decide +kernel,by decide +kernel,by decide +kernel⟩
 | off e=>exact d.elim
 | iff e a b=>exact d.elim
theorem kj {x:Str} (h:xC x=true):b6 x=true:=(zcj h).flat
def KZ (H H':Hp):Prop:=∀ b ys,H b=some (.tup ys)→H' b=some (.tup ys)
theorem Same.ts {H H':Hp} (s:Same H H'):KZ H H':=fun b ys e=>s _ _ e
theorem K0 {J:It} {D:Addr} {τ₀:St} {H1:Hp} {Q:Hp→Prop} {B:V→St→Hp→(V→St→Hp→Prop)→(St→Hp→Prop)→Prop} (n:Nat) (hn:n≤1000000) (C:St→Prop) (R:Nat→List V→Hp→Prop) (hm:∀ i ys H H',KZ H H'→R i ys H→R i ys H') (hC:C τ₀) (h0:R 0 [] H1)
  (go:∀ i H,Same H1 H→i < n→J.go i H) (stop:∀ H,Same H1 H→J.stop n H) (hD:H1 D=none)
  (hs:∀ i x τ ys H H',C τ→Same H1 H→i < n→R i ys H→J.yld i H x H'→B x τ H' (fun v τ' H4=>C τ'∧R (i + 1) (ys ++ [v]) H4∧Same H H4) (fun τ' H4=>C τ'∧R (i + 1) ys H4∧Same H H4))
  (hd:∀ ys H,ys.length≤n→R n ys H→Same H1 H→H D=some (.lst ys)→Q H) :
  ∃ W:Nat→Nat→List V→St→Hp→Prop,(∃ m,W 0 m [] τ₀ (upd H1 D (.lst [])))∧∀ i m ys τ H,W i m ys τ H→H D=some (.lst ys) ∧
  ((J.stop i H∧Q H)∨(J.go i H∧ys.length < sizeLine∧∃ N:V→St→Hp→Prop,
   (∀ v τ' H',N v τ' H'→H' D=some (.lst ys)∧∃ m',m' < m∧W (i + 1) m' (ys ++ [v]) τ' (upd H' D (.lst (ys ++ [v]))))∧∃ Nf:St→Hp→Prop,(∀ τ' H',Nf τ' H'→∃ m',m' < m∧W (i + 1) m' ys τ' H') ∧
   ∀ x H',J.yld i H x H'→B x τ H' N Nf)):=by
 have ext:∀ {H:Hp} {o:HO},Same H1 H→Same H1 (upd H D o):=fun {H o} h b u e=>by
  rw [zj (zB e hD)];exact h b u e
 refine ⟨fun i m ys τ H=>m=n - i∧i≤n∧ys.length≤i∧R i ys H∧Same H1 H∧H D=some (.lst ys)∧C τ,⟨n,by simp,b9 _,bu _,hm _ _ _ _ (Same.ts (ext (Same.refl _))) h0,ext (Same.refl _),zf,hC⟩,?_⟩
 rintro i m ys τ H ⟨rfl,hi,hl,hR,hS,hy,hc⟩
 refine ⟨hy,?_⟩
 by_cases hlt:i < n
 ·refine .inr ⟨go i H hS hlt,bY (by lia:ys.length≤1000000) (by decide),_,?_,_,?_,fun x H' y=>hs i x τ ys H H' hc hS hlt hR y⟩
  ·rintro v τ' H4 ⟨c4,r4,s4⟩
   have y4:=s4 _ _ hy
   exact ⟨y4,n - (i + 1),by lia,rfl,hlt,by simp;lia,hm _ _ _ _ (fun b zs e=>by rw [zj (yi e y4 (by simp))];exact e) r4,ext (hS.trans s4),zf,c4⟩
  ·rintro τ' H4 ⟨c4,r4,s4⟩
   exact ⟨n - (i + 1),by lia,rfl,hlt,by lia,r4,hS.trans s4,s4 _ _ hy,c4⟩
 ·obtain rfl:i=n:=by lia
  exact .inl ⟨stop H hS,hd ys H hl hR hS hy⟩
def jk (P:Nat→Bool) (x:Str):Prop:=x.cps.toList.all P=true
theorem Yp {P:Nat→Bool} {x y:Str} (h:jk P x) (h':jk P y):jk P (x ++ y):=by
 unfold jk at *
 rw [zdP,List.all_append,h,h'];rfl
theorem K3 {P:Nat→Bool} {c:Nat} (h:P c=true):jk P ⟨#[c]⟩:=by
 show [c].all P=true
 rw [fP,h];rfl
theorem zaT {P:Nat→Bool} {x:Str} (h:jk P x) (k:Nat):jk P (fh x none (some (k:Int))):=by
 unfold jk at *
 rw [Kc]
 rw [dE] at *
 exact fun c hc=>h c (fW hc)
theorem VI {P:Nat→Bool} {x:Str} (h:jk P x) (k:Nat):jk P (fh x (some (k:Int)) none):=by
 unfold jk at *
 rw [X2]
 rw [dE] at *
 exact fun c hc=>h c (fV hc)
theorem zc3 (x:Str) (k:Nat) (h:k≤x.length):(fh x none (some (k:Int))).length=k:=by
 rw [XJ] at *
 rw [Kc,cE];lia
theorem K4 (x:Str) (k:Nat):(fh x (some (k:Int)) none).length=x.length - k:=by
 rw [XJ,XJ,X2,cR]
def inC (c:Nat):Bool:=(bb "zyxwvtsrqpnmlkjhgfdcb").cps.toList.contains c
theorem zf6:∀ c∈(bb "zyxwvtsrqpnmlkjhgfdcb").cps.toList,inL c=true:=by decide +kernel
theorem zgh:∀ c∈(bb "zyxwvtsrqpnmlkjhgfdcb").cps.toList,inC c=true:=fun c hc=>by unfold inC;exact List.contains_iff_mem.mpr hc
theorem zgi:∀ c∈(bb "zyxwvutsrqponmlkjihgfedcba").cps.toList,inL c=true:=by decide +kernel
theorem zbx:∀ v∈jw ++ wl,(match v with | .str w=>decide (w.length≠6) && !(w.cps.toList.all inC) | _=>true)=true:=by decide +kernel
theorem zel {x:Str} (h:x.length=6∨jk inC x):(inV (.str x) jw || inV (.str x) wl)=false:=by
 have key:∀ v∈jw ++ wl,eqV v (.str x)=false:=fun v hv=>by
  have w:=zbx v hv
  cases e:eqV v (.str x) with
  | false=>rfl
  | true =>
   cases v <;> simp only [eqV,cr] at e
   rename_i y
   have e':y=x:=by simpa using e
   subst e'
   simp only [bX,decide_eq_true_eq,b7] at w
   rcases h with h | h
   ·exact absurd h w.1
   ·unfold jk at h;rw [h] at w;exact absurd w.2 (by decide)
 rw [iA]
 unfold inV
 constructor
 ·rw [lH]
  exact fun v hv=>by rw [key v (cZ _ hv)];decide
 ·rw [lH]
  exact fun v hv=>by rw [key v (bV _ hv)];decide
theorem zaU {x:Str} (h1:1≤x.length) (h2:x.length≤6) (h3:(x.length=6∧jk inL x)∨jk inC x):xC x=true:=by
 have nw:(inV (.str x) jw || inV (.str x) wl)=false:=zel (h3.imp (·.1) id)
 have al:x.cps.toList.all inL=true:=by
  rcases h3 with h | h
  ·exact h.2
  ·unfold jk at h
   rw [dE] at *
   exact fun c hc=>zf6 c (List.contains_iff_mem.mp (h c hc))
 have ne:decide (x="")=false:=decide_eq_false fun z=>by rw [z] at h1;exact absurd h1 (by decide)
 have nl:decide (6 < x.length)=false:=decide_eq_false (by lia)
 unfold xC
 rw [nw,al,ne,nl];rfl
structure Sgn (P:Nat→Bool) (sz:Nat) (sg:Str):Prop where
 al:jk P sg
 lo:21≤sg.length
 hi:sg.length≤26
 s1:1≤sz
 s6:sz≤6
 nm:∀ x:Str,x.length=sz→jk P x→xC x=true
theorem zc4 {P:Nat→Bool} {sz:Nat} {sg:Str} (S:Sgn P sz sg) {i:Int} (h0:0≤i) (h1:i < sg.length):∃ c,atI sg.cps.toList i=some c∧P c=true:=by
 obtain ⟨c,hc,hm⟩:=zcZ (xs:=sg.cps.toList) (i:=i) h0 (by rw [← XJ];exact h1)
 exact ⟨c,hc,dE.mp S.al c hm⟩
theorem zaV {P:Str→Prop}:∀ {ys:List V},(∀ v∈ys,∃ x,v=.str x∧P x)→∃ ls:List Str,ys=ls.map V.str∧∀ x∈ls,P x
 | [],_=>⟨[],rfl,fun _ z=>nomatch z⟩
 | v :: r,h=>by
  obtain ⟨x,rfl,px⟩:=h v bH
  obtain ⟨ls,rfl,pl⟩:=zaV (ys:=r) fun u hu=>h u (bx _ hu)
  exact ⟨x :: ls,rfl,fun y hy=>by
   rcases bN.mp hy with rfl | hy
   ·exact px
   ·exact pl y hy⟩
def nmV (v:V):Prop:=∃ x:Str,v=.str x∧xC x=true
theorem zem {P:Nat→Bool} {sz:Nat} {sg stem:Str} {c m tn:Int} {o5:Option V} {at_:Nat} (S:Sgn P sz sg) (hs:stem.length=sz) (hp:jk P stem) (ha:at_ < sz) (h1:0≤m) (h2:m≤6) (q:∀ nm ws H',Same H H'→NamesAt H' nm ws→(ws.length:Int)=m→Q (.ref nm) H') :
  wP K t { nx:=fun _ H'=>Q .non H',rt:=Q } [some (.int c),some (.int m),some (.int sz),some (.str sg),some (.str stem),o5,some (.int at_),some (.int tn)] H:=by
 simp only [wP,zw,zE,tOp,zc,tC,zb,zi,tSl,kt,w5,Y3,ze8,J8,Z0,zbS,rI0,QB,XZ,cC,bM,cb,cj,bd,bh,bi,exists_eq_left',V.int.injEq,V.str.injEq,bq,and_true,exists_and_left,fT,fb,if_true]
 have lo:=S.lo
 have hi:=S.hi
 have s6:=S.s6
 refine ⟨by lia,by lia,fun D hD=>?_⟩
 refine zb9 (J:=Itr 0 m.toNat) m.toNat (by lia) (fun τ=>∃ o,τ=[o,some (.str stem),some (.int (at_:Int)),some (.str sg)]) (fun i v=>nmV v) ⟨_,rfl⟩ (fun i H _ h=>h) (fun H _=>bu _) hD ?_ ?_
 ·rintro i v τ H2 H' ⟨o,rfl⟩ s hi ⟨rfl,rfl⟩
  simp only [bd,bh,bi,exists_eq_left',V.int.injEq,V.str.injEq,bq,and_true,bE]
  obtain ⟨d,hd,hP⟩:=zc4 S (i:=0 + (i:Int)) (by lia) (by lia)
  have l1:=zc3 stem at_ (by lia)
  have l2:=K4 stem (at_ + 1)
  have p1:=zaT hp at_
  have p2:=VI hp (at_ + 1)
  rw [show ((at_ + 1:Nat):Int)=(at_:Int) + 1 by lia] at l2 p2
  exact ⟨yy (by lia),yy (by lia),d,hd,yy (by rw [Yl];lia),yy (by lia),yy (by rw [qW,Yl];lia),⟨_,rfl⟩,⟨_,rfl,S.nm _ (by rw [qW,qW,Yl];lia) (Yp (Yp p1 (K3 hP)) p2)⟩,Same.refl _⟩
 ·intro ys H' hly hv s hq
  obtain ⟨ls,rfl,hp⟩:=zaV (P:=fun x=>xC x=true) (ys:=ys) fun v hv2=>by
   obtain ⟨i,hi⟩:=dD hv2
   exact hv i v hi
  rw [bB] at hly
  exact q D ls H' s ⟨hq,hp⟩ (by lia)
theorem zen {P:Nat→Bool} {sz:Nat} {sg stem:Str} {c m:Int} {o5:Option V} (S:Sgn P sz sg) (hs:stem.length=sz) (hp:jk P stem) (h1:0≤m) (h2:m≤6) (q:∀ nm ws H',Same H H'→NamesAt H' nm ws→(ws.length:Int)=m→Q (.ref nm) H') :
  wQ K t { nx:=fun _ H'=>Q .non H',rt:=Q } [some (.int c),some (.int m),some (.int sz),some (.str sg),some (.str stem),o5,none,none] H:=by
 simp only [wQ,zl,zp,zV,zw,tOp,zc,tC,zb,zi,tCB,tSl,kt,w5,zo,Zw,rI,QB,XZ,xW,bt,bd,bh,bi,exists_eq_left',exists_eq_left,V.int.injEq,V.str.injEq,bq,and_true,and_assoc,exists_and_left,bE,bI]
 have lo:=S.lo
 have hi:=S.hi
 have s1:=S.s1
 have s6:=S.s6
 refine ⟨by decide,by decide,fun r1 H1 a1 b1 s1'=>⟨by lia,by decide,by decide,fun r2 H2 a2 b2 s2'=>⟨yy (by lia),by lia,?_⟩⟩⟩
 obtain ⟨k,ek⟩:∃ k:Nat,r1 % (sz:Int)=k:=⟨_,(e9 (du _ (by lia))).symm⟩
 have hk:(k:Int) < sz:=by rw [← ek];exact cT _ (by lia)
 obtain ⟨u,eu⟩:∃ u:Nat,r2 % (sg.length:Int)=u:=⟨_,(e9 (du _ (by lia))).symm⟩
 have hu:(u:Int) < sg.length:=by rw [← eu];exact cT _ (by lia)
 rw [ek,eu]
 have l1:=zc3 sg u (by lia)
 have l2:=K4 sg u
 refine ⟨yy (by lia),yy (by lia),yy (by lia),?_⟩
 have S':Sgn P sz (fh sg (some (u:Int)) none ++ fh sg none (some (u:Int))):=⟨Yp (VI S.al u) (zaT S.al u),by rw [qW];lia,by rw [qW];lia,S.s1,S.s6,S.nm⟩
 exact zem S' hs hp (by lia) h1 h2 fun nm ws H' s hn hl=>q nm ws H' (s1'.trans (s2'.trans s)) hn hl
def nmI (P:Nat→Bool) (c m:Int) (sz:Nat) (sg:Str) (H:Hp) (i:Nat) (σ:St) (H':Hp):Prop:=(∃ (x:Str) (o:Option V),σ=[some (.int c),some (.int m),some (.int sz),some (.str sg),some (.str x),o,none,none]∧x.length=i∧jk P x)∧Same H H'
theorem zaW {P:Nat→Bool} {sz:Nat} {sg:Str} {c m:Int} (S:Sgn P sz sg) (h1:0≤m) (h2:m≤6) (q:∀ nm ws H',Same H H'→NamesAt H' nm ws→(ws.length:Int)=m→Q (.ref nm) H') :
  wR K t { nx:=fun _ H'=>Q .non H',rt:=Q } [some (.int c),some (.int m),some (.int sz),some (.str sg),none,none,none,none] H:=by
 simp only [wR,zl,zp,zV,zw,tOp,zc,tC,zb,zi,v5,tCB,zo,Zw,Z0,zbS,rI,rI0,XZ,xW,bt,bd,bh,bi,exists_eq_left',V.int.injEq,V.str.injEq,bq,and_true,and_assoc,exists_and_left,bE,bI,fT,fb]
 have lo:=S.lo
 have hi:=S.hi
 have s1:=S.s1
 have s6:=S.s6
 refine ⟨by lia,by lia,ZA (nmI P c m sz sg H) ⟨⟨_,none,rfl,by decide +kernel,by show [].all P=true;rfl⟩,Same.refl H⟩ ?_ ?_⟩
 ·rintro i σ H' hi ⟨⟨x,o,rfl,hx,hp⟩,s⟩
  simp only [bd,bh,bi,exists_eq_left',exists_eq_left,V.int.injEq,V.str.injEq,and_assoc,exists_and_left,bE,bI]
  refine ⟨by lia,by lia,fun r1 H1 a1 b1 s1'=>⟨yy (by lia),by lia,?_⟩⟩
  obtain ⟨d,hd,hP⟩:=zc4 S (i:=r1 % (sg.length:Int)) (du _ (by lia)) (cT _ (by lia))
  exact ⟨yy (by lia),d,hd,yy (by rw [Yl];lia),⟨_,_,rfl,by rw [qW,Yl];lia,Yp hp (K3 hP)⟩,s.trans s1'⟩
 ·rintro σ H' ⟨⟨x,o,rfl,hx,hp⟩,s⟩
  exact zen S (by lia) hp h1 h2 fun nm ws H2 s2 hn hl=>q nm ws H2 (s.trans s2) hn hl
theorem Wq {c m:Int} (h1:0≤m) (h2:m≤6) (q:∀ nm ws H',Same H H'→NamesAt H' nm ws→(ws.length:Int)=m→Q (.ref nm) H') :
  jf K t { nx:=fun _ H'=>Q .non H',rt:=Q } (L2.start ["cell","many","size","signs","stem","k","at","turn"] [.int c,.int m]) H:=by
 simp only [jf,zl,L2.start,zp,zV,zw,zJ,tOp,zc,tC,zb,zi,zM,zq,zo,rEq,rI,rI0,kH,cC,bM,bP,cb,cj,bt,bd,bh,bi,exists_eq_left',V.int.injEq,V.bl.injEq,bq,and_true,true_and,and_assoc,exists_and_left,bE,bI,bZ,bO,decide_eq_true_eq]
 refine ⟨by decide,by decide,fun r1 H1 a1 b1 s1'=>⟨by decide,?_⟩⟩
 obtain ⟨k,ek⟩:∃ k:Nat,1 + r1 % 6=k:=⟨(1 + r1 % 6).toNat,by lia⟩
 rw [ek]
 have lc:(bb "zyxwvtsrqpnmlkjhgfdcb").length=21:=by decide +kernel
 have lz:(bb "zyxwvutsrqponmlkjihgfedcba").length=26:=by decide +kernel
 refine xm (fun e=>?_) fun e=>?_
 ·have e5:(k:Int)=6:=by simpa using e
  have e6:k=6:=by lia
  exact zaW (P:=inL) (sg:="zyxwvutsrqponmlkjihgfedcba") ⟨dE.mpr zgi,by rw [lz];lia,by rw [lz];lia,by lia,by lia,fun x hx hp=>zaU (by lia) (by lia) (.inl ⟨by lia,hp⟩)⟩ h1 h2 fun nm ws H2 s2 hn hl=>q nm ws H2 (s1'.trans s2) hn hl
 ·exact zaW (P:=inC) (sg:="zyxwvtsrqpnmlkjhgfdcb") ⟨dE.mpr zgh,by rw [lc];lia,by rw [lc];lia,by lia,by lia,fun x hx hp=>zaU (by lia) (by lia) (.inr hp)⟩ h1 h2 fun nm ws H2 s2 hn hl=>q nm ws H2 (s1'.trans s2) hn hl
structure RnP (m:Nat) (s:RSt):Prop where
 ok:RnOk m s
 ng:∀ r∈s.gi,b6 r.1.1=true
 nn:∀ r∈s.no,b6 r.1.1=true
theorem RnOk.up {m:Nat} {s:RSt} (h:RnOk m s):RnOk (m + 1) s:=⟨h.so,h.gw,h.nw,bT h.l1,bT h.l2,bT h.l3,bT h.l4,h.nd⟩
theorem RnP.up {m:Nat} {s:RSt} (h:RnP m s):RnP (m + 1) s:=⟨h.ok.up,h.ng,h.nn⟩
theorem zc5 {p:Pl} {l:List Row} (nd:(l.map (·.1)).Nodup) (h:zr l p=none):p ∉ l.map (·.1):=fun z=>by
 obtain ⟨r,hr,e⟩:=cG.mp z
 have:=(jS (w:=r.2) nd).mpr (show (p,r.2)∈l by rw [← e];exact hr)
 rw [h] at this
 cases this
theorem zc6 {m:Nat} {s:RSt} {p:Pl} {w:Int} (h:RnOk m s) (hw:inW w=true):inW (wm p w s)=true:=by
 unfold wm
 cases e:zr s.gi p with
 | some i=>exact Za (P:=fun r=>inW r.2=true) h.gw e
 | none =>
  cases e2:zr s.no p with
  | some i=>exact Za (P:=fun r=>inW r.2=true) h.nw e2
  | none=>exact hw
theorem zeo {m:Nat} {s:RSt} {p:Pl} {w i:Int} {x:Str} (h:RnP m s) (hp:b6 p.1=true) (hw:inW w=true) (hi:inW i=true):RnP (m + 1) { yU p w s with sl:=yB s.sl (.inr x) (.int i) }:=by
 have so:=q9 h.ok.so (.inr x) hi
 have l1:(yB s.sl (.inr x) (V.int i)).length≤m + 1:=cf (xp _ _ _) (dF h.ok.l1)
 unfold yU
 by_cases c:(zr s.gi p).isSome=true∨(zr s.no p).isSome=true
 ·rw [if_pos c]
  exact ⟨⟨so,h.ok.gw,h.ok.nw,l1,bT h.ok.l2,bT h.ok.l3,bT h.ok.l4,h.ok.nd⟩,h.ng,h.nn⟩
 ·rw [if_neg c]
  have cn:zr s.no p=none:=by
   cases e:zr s.no p with
   | none=>rfl
   | some i=>exact absurd (.inr (by rw [e];rfl)) c
  refine ⟨⟨so,h.ok.gw,fun r hr=>?_,l1,bT h.ok.l2,?_,bT h.ok.l4,?_⟩,h.ng,fun r hr=>?_⟩
  ·rcases bz.mp hr with hr | hr
   ·exact h.ok.nw r hr
   ·rw [bD.mp hr];exact hw
  ·show (s.no ++ [(p,w)]).length≤m + 1
   rw [bw];exact dF h.ok.l3
  ·show ((s.no ++ [(p,w)]).map (·.1)).Nodup
   rw [fE]
   refine List.nodup_append.mpr ⟨h.ok.nd,by simp,fun a ha b hb=>?_⟩
   have hb:b=p:=by simpa using hb
   rw [hb]
   exact fun z=>zc5 h.ok.nd cn (by rw [← z];exact ha)
  ·rcases bz.mp hr with hr | hr
   ·exact h.nn r hr
   ·rw [bD.mp hr];exact hp
theorem zfv {r:Rw} {m:Nat} {w:Int} {s s':RSt} (h:RnP m s) (d:wN r) (k:xG r) (pl:xZ r) (hw:inW w=true) (e:doR r w s=.ok s'):RnP (m + 1) s'∧s'.why=s.why:=by
 cases r with
 | off e'=>exact d.elim
 | iff e' b c=>exact d.elim
 | take sh e' x =>
  cases hk:rk s.sl e' with
  | error er=>simp only [doR,hk] at e;cases e
  | ok n =>
   simp only [doR,hk] at e
   cases e
   exact ⟨zeo h pl.1 hw (zc6 h.ok hw),by show (yU _ _ _).why=_;unfold yU;split <;> rfl⟩
 | give sh e' f =>
  cases hk:rk s.sl e' with
  | error er=>simp only [doR,hk] at e;cases e
  | ok n =>
   cases hk2:rk s.sl f with
   | error er=>simp only [doR,hk,hk2] at e;cases e
   | ok i =>
    simp only [doR,hk,hk2] at e
    cases e
    have hi:=Jm h.ok.so k.2.2.1 hk2
    refine ⟨⟨⟨h.ok.so,fun r hr=>?_,h.ok.nw,bT h.ok.l1,?_,bT h.ok.l3,bT h.ok.l4,h.ok.nd⟩,fun r hr=>?_,h.nn⟩,rfl⟩
    ·rcases bz.mp hr with hr | hr
     ·exact h.ok.gw r hr
     ·rw [bD.mp hr];exact hi
    ·show (s.gi ++ [((sh,n),i)]).length≤m + 1
     rw [bw];exact dF h.ok.l2
    ·rcases bz.mp hr with hr | hr
     ·exact h.ng r hr
     ·rw [bD.mp hr];exact pl.1
 | lt x e' =>
  cases hk:rk s.sl e' with
  | error er=>simp only [doR,hk] at e;cases e
  | ok i =>
   simp only [doR,hk] at e
   cases e
   have hi:=Jm h.ok.so k.2.1 hk
   exact ⟨⟨⟨q9 h.ok.so _ hi,h.ok.gw,h.ok.nw,cf (xp _ _ _) (dF h.ok.l1),bT h.ok.l2,bT h.ok.l3,bT h.ok.l4,h.ok.nd⟩,h.ng,h.nn⟩,rfl⟩
 | say e' =>
  cases hk:rk s.sl e' with
  | error er=>simp only [doR,hk] at e;cases e
  | ok i =>
   simp only [doR,hk] at e
   cases e
   exact ⟨⟨⟨h.ok.so,h.ok.gw,h.ok.nw,bT h.ok.l1,bT h.ok.l2,bT h.ok.l3,by show (s.sa ++ [i]).length≤m + 1;rw [bw];exact dF h.ok.l4,h.ok.nd⟩,h.ng,h.nn⟩,rfl⟩
theorem zfw (er:Er):b6 (We er)=true:=by cases er <;> decide +kernel
theorem zep {C:List Cs} {m:Nat} {w:Int} {s:RSt} (O:zcW C) (h:RnI C m s) (ho:yh C s=false) (hw:inW w=true):RnI C (m + 1) (xz C w s):=by
 have no:¬ yh C s=true:=by rw [ho];decide
 have lt:=Yn no
 have hc:C[s.n]?=some C[s.n]:=bg lt
 have es:xz C w s=zT C[s.n] w s:=by unfold xz;rw [if_neg no,hc]
 have wn:s.why=none:=by
  cases e:s.why with
  | none=>rfl
  | some v=>exact absurd (show yh C s=true by unfold yh;rw [e];rfl) no
 have mn:=h.at_ wn
 have ok:=O.ok _ (gq lt)
 have pl:=O.pl _ (gq lt)
 have P:RnP m s:=⟨h.ok,h.ng,h.nn⟩
 have fin:∀ {s':RSt} {k:Nat},RnP (m + 1) s'→(s'.why=none→m + 1≤k)→(∀ v,s'.why=some v→b6 v=true)→RnI C (m + 1) { s' with n:=k }:=fun {s' k} p l y =>
  ⟨⟨p.ok.so,p.ok.gw,p.ok.nw,p.ok.l1,p.ok.l2,p.ok.l3,p.ok.l4,p.ok.nd⟩,p.ng,p.nn,l,y⟩
 have bad:∀ er,RnI C (m + 1) { s with why:=some (We er) }:=fun er=>⟨⟨P.up.ok.so,P.up.ok.gw,P.up.ok.nw,P.up.ok.l1,P.up.ok.l2,P.up.ok.l3,P.up.ok.l4,P.up.ok.nd⟩,P.ng,P.nn,fun z=>(by cases z),fun v z=>by cases z;exact zfw er⟩
 have does:∀ r:Rw,wN r→Xr (.row r)→zef (.row r)→RnI C (m + 1) (zT (.row r) w s):=fun r hf ok pl=>by
  unfold zT
  rw [KY hf]
  cases hk:doR r w s with
  | error er=>exact bad er
  | ok s' =>
   obtain ⟨a,b⟩:=zfv P hf ok pl hw hk
   exact fin a (fun _=>by lia) (fun v z=>h.wy v (by rw [← b];exact z))
 rw [es]
 have hg:∀ to,C[s.n]=.go to→s.n < to:=fun to e=>O.fg s.n to (by rw [hc,e])
 have hs:∀ e to,C[s.n]=.skip e to→s.n < to:=fun e to e2=>O.fw s.n to e (by rw [hc,e2])
 generalize C[s.n]=c at *
 cases c with
 | go to =>
  have:=hg to rfl
  exact fin P.up (fun _=>by lia) h.wy
 | skip e to =>
  have:=hs e to rfl
  cases hk:rk s.sl e with
  | error er=>simp only [zT,yr,hk];exact bad er
  | ok i =>
   simp only [zT,yr,hk]
   refine fin P.up (fun _=>?_) h.wy
   split <;> lia
 | row r =>
  cases r with
  | off e =>
   cases hk:rk s.sl e with
   | error er=>simp only [zT,yr,hk];exact bad er
   | ok i =>
    by_cases hi:i=0
    ·simp only [zT,yr,hk,if_pos hi]
     exact fin P.up (fun _=>by lia) h.wy
    ·simp only [zT,yr,hk,if_neg hi]
     exact fin (s':={ s with why:=some (bb "told") }) ⟨⟨P.up.ok.so,P.up.ok.gw,P.up.ok.nw,P.up.ok.l1,P.up.ok.l2,P.up.ok.l3,P.up.ok.l4,P.up.ok.nd⟩,P.ng,P.nn⟩ (fun z=>by cases z) (fun v z=>by cases z;decide +kernel)
  | iff e b d=>exact fin (k:=s.n + 1) P.up (fun _=>by lia) h.wy
  | take sh e x=>exact does (.take sh e x) trivial ok pl
  | give sh e x=>exact does (.give sh e x) trivial ok pl
  | lt sh e=>exact does (.lt sh e) trivial ok pl
  | say e=>exact does (.say e) trivial ok pl
structure FwC (k:Nat) (C:List Cs):Prop where
 ok:∀ c∈C,Xr c∧zef c
 fw:∀ (i to:Nat) (e:List V),C[i]?=some (Cs.skip e to)→k + i < to
 fg:∀ (i to:Nat),C[i]?=some (Cs.go to)→k + i < to
theorem FwC.nil (k:Nat):FwC k []:=⟨fun c h=>(nomatch h),fun i to e h=>by simp at h,fun i to h=>by simp at h⟩
theorem FwC.cons {k:Nat} {c:Cs} {C:List Cs} (h1:Xr c∧zef c) (h2:∀ e to,c=.skip e to→k < to) (h3:∀ to,c=.go to→k < to) (h:FwC (k + 1) C):FwC k (c :: C):=by
 refine ⟨fun x hx=>?_,fun i to e hi=>?_,fun i to hi=>?_⟩
 ·rcases bN.mp hx with rfl | hx
  ·exact h1
  ·exact h.ok x hx
 ·cases i with
  | zero=>have:=h2 e to (by simpa using hi);lia
  | succ i=>have:=h.fw i to e (by simpa using hi);lia
 ·cases i with
  | zero=>have:=h3 to (by simpa using hi);lia
  | succ i=>have:=h.fg i to (by simpa using hi);lia
theorem FwC.app:∀ {A:List Cs} {k:Nat} {B:List Cs},FwC k A→FwC (k + A.length) B→FwC k (A ++ B)
 | [],k,B,_,h=>by simpa using h
 | c :: A,k,B,h,h'=>by
  rw [cb]
  refine .cons (h.ok c bH) (fun e to z=>by have:=h.fw 0 to e (by rw [z];rfl);lia) (fun to z=>by have:=h.fg 0 to (by rw [z];rfl);lia) (FwC.app ⟨fun x hx=>h.ok x (bx _ hx),fun i to e hi=>?_,fun i to hi=>?_⟩ (by rw [ck] at h';rw [show k + 1 + A.length=k + (A.length + 1) by lia];exact h'))
  ·have:=h.fw (i + 1) to e (by simpa using hi);lia
  ·have:=h.fg (i + 1) to (by simpa using hi);lia
mutual
theorem zc7:∀ (r:Rw) (k:Nat),xG r→xZ r→FwC k (yw r k)
 | .iff e a b,k,o,p=>by
  unfold xG at o
  unfold xZ at p
  have ha:=Zc a (k + 1) o.2.1 p.2.1
  have hb:=Zc b (k + 2 + (zm a (k + 1)).length) o.2.2 p.2.2
  have ec:yw (.iff e a b) k=blk e k (zm a (k + 1)) (Rws.isNil b) (zm b (k + 2 + (zm a (k + 1)).length)):=by rw [yw]
  rw [ec]
  generalize zm a (k + 1)=A at *
  generalize zm b (k + 2 + A.length)=B at *
  unfold blk
  split
  ·exact .cons ⟨o.1,trivial⟩ (fun e' to z=>by cases z;lia) (fun to z=>nomatch z) ha
  ·refine .cons ⟨o.1,trivial⟩ (fun e' to z=>by cases z;lia) (fun to z=>nomatch z) (.app ha (.cons ⟨trivial,trivial⟩ (fun e' to z=>nomatch z) (fun to z=>by cases z;lia) ?_))
   rw [show k + 1 + A.length + 1=k + 2 + A.length by lia]
   exact hb
 | .take sh e sl,k,o,p=>by rw [yT (x:=.take sh e sl) trivial];exact .cons ⟨o,p⟩ (fun _ _ z=>nomatch z) (fun _ z=>nomatch z) (.nil _)
 | .give sh e f,k,o,p=>by rw [yT (x:=.give sh e f) trivial];exact .cons ⟨o,p⟩ (fun _ _ z=>nomatch z) (fun _ z=>nomatch z) (.nil _)
 | .lt sl e,k,o,p=>by rw [yT (x:=.lt sl e) trivial];exact .cons ⟨o,p⟩ (fun _ _ z=>nomatch z) (fun _ z=>nomatch z) (.nil _)
 | .say e,k,o,p=>by rw [yT (x:=.say e) trivial];exact .cons ⟨o,p⟩ (fun _ _ z=>nomatch z) (fun _ z=>nomatch z) (.nil _)
 | .off e,k,o,p=>by rw [yT (x:=.off e) trivial];exact .cons ⟨o,p⟩ (fun _ _ z=>nomatch z) (fun _ z=>nomatch z) (.nil _)
theorem Zc:∀ (r:Rws) (k:Nat),yq r→yS r→FwC k (zm r k)
 | .nil,k,o,p=>by rw [zm];exact .nil k
 | .cons r rs,k,o,p=>by
  unfold yq at o
  unfold yS at p
  rw [zm]
  exact .app (zc7 r k o.1 p.1) (Zc rs _ o.2 p.2)
end
theorem zeP {r:Rws} (h1:kO 6 r) (h2:yq r) (h3:(zm r 0).length≤40):zcW (zm r 0):=by
 have f:=Zc r 0 h2 h1.pl
 exact ⟨fun c hc=>(f.ok c hc).1,fun c hc=>(f.ok c hc).2,fun i to e h=>by have:=f.fw i to e h;lia,fun i to h=>by have:=f.fg i to h;lia,h3⟩
def plD (p:Pl):PyData:=.tuple [.str p.1,.int p.2]
def XB (r:Row):PyData:=.tuple [plD r.1,.int r.2]
theorem zfx {q:Addr} {p:Pl} (h:H q=some (.tup [.str p.1,.int p.2])):Dat K H (.ref q) (plD p):=.tup (SqT.of h) (.cons (.str _) (.cons (.int _) .nil))
theorem zc8 {p:Pl} (h:b6 p.1=true):zI (plD p)=true:=by simp [plD,zI,zR,h]
theorem zc9 (p:Pl):(plD p).depth≤2:=by simp [plD,cK,bU]
theorem zaX:∀ {ys:List V} {rows:List Row},Paired (PrAt H) ys rows→DatAll K H ys (rows.map XB)
 | _,_,.nil=>.nil
 | _,_,.cons ⟨r,p,e1,e2,e3⟩ t=>by
  rw [bW,e1]
  exact .cons (.tup (SqT.of e2) (.cons (zfx e3) (.cons (.int _) .nil))) (zaX t)
theorem YV {l:Addr} {rows:List Row} (h:LsAt H l rows):Dat K H (.ref l) (.list (rows.map XB)):=by
 obtain ⟨xs,h1,h2⟩:=h
 exact .lst (SqL.of h1) (zaX h2)
theorem VJ:∀ {rows:List Row},(∀ r∈rows,b6 r.1.1=true)→zR (rows.map XB)=true
 | [],_=>rfl
 | r :: t,h=>by
  rw [bW,zR,VJ (fun x hx=>h x (bx _ hx))]
  have:=zc8 (h r bH)
  simp [XB,zI,zR,this]
theorem K7:∀ (rows:List Row),bU (rows.map XB)≤3
 | []=>by simp [bU]
 | r :: t=>by
  have h:=K7 t
  have h2:=zc9 r.1
  rw [bW,bU]
  simp only [XB,cK,bU] at h2 ⊢
  lia
theorem Wr {rows:List Row} (h:∀ r∈rows,b6 r.1.1=true):zI (.list (rows.map XB))=true:=by rw [zI];exact VJ h
theorem JE (rows:List Row):(oE (rows.map XB)).depth≤4:=by
 have:=K7 rows
 rw [cK];lia
section
variable {l:Addr}
theorem zf7 {H':Hp} {rows:List Row} (h:LsAt H l rows) (k:∀ o,H l=some o→H' l=some o) (ts:TSm H H'):LsAt H' l rows:=by
 obtain ⟨xs,h1,h2⟩:=h
 exact ⟨xs,k _ h1,Paired.mapP h2 fun _ _ ⟨r,p,e1,e2,e3⟩=>⟨r,p,e1,ts _ _ e2,ts _ _ e3⟩⟩
theorem xJ {H':Hp} {rows:List Row} (h:LsAt H l rows) (s:Same H H'):LsAt H' l rows:=zf7 h (fun o e=>s _ _ e) fun b ys e=>s _ _ e
end
section
variable {C:List Cs} {s:RSt} {m:Nat}
theorem zda:b6 (bb "done")=true:=by decide +kernel
def ocD:Oc→PyData
 | .done sa=>.tuple [.str (bb "done"),.tuple (sa.map oI)]
 | .off w=>.tuple [.str (bb "off"),.str w]
theorem JF {H':Hp} {v:V} {oc:Oc} (h:Zd H v oc) (s:Same H H'):Zd H' v oc:=by
 cases oc with
 | done sa=>obtain ⟨o,y,e1,e2,e3⟩:=h;exact ⟨o,y,e1,s _ _ e2,s _ _ e3⟩
 | off w=>obtain ⟨o,e1,e2⟩:=h;exact ⟨o,e1,s _ _ e2⟩
theorem Q0 {v:V} {oc:Oc} (h:Zd H v oc):Dat K H v (ocD oc):=by
 cases oc with
 | done sa =>
  obtain ⟨o,y,rfl,e2,e3⟩:=h
  exact .tup (SqT.of e2) (.cons (.str _) (.cons (.tup (SqT.of e3) (DatAll.of fun i _=>.int i)) .nil))
 | off w =>
  obtain ⟨o,rfl,e2⟩:=h
  exact .tup (SqT.of e2) (.cons (.str _) (.cons (.str _) .nil))
theorem Ws:∀ (sa:List Int),zR (sa.map oI)=true
 | []=>rfl
 | i :: t=>by rw [bW,zR,Ws t];rfl
theorem VL:∀ (sa:List Int),bU (sa.map oI)=0
 | []=>by simp [bU]
 | i :: t=>by rw [bW,bU,VL t,cK];rfl
theorem K8 {oc:Oc} (h:∀ w,oc=.off w→b6 w=true):zI (ocD oc)=true:=by
 cases oc with
 | done sa=>have:=zda;simp [ocD,zI,zR,Ws,this]
 | off w=>have:=h w rfl;have k:=zaN;simp [ocD,zI,zR,this,k]
theorem zaY (oc:Oc):(ocD oc).depth≤3:=by
 cases oc with
 | done sa=>simp only [ocD,cK,bU,VL];lia
 | off w=>simp only [ocD,cK,bU];lia
def ppD (oc:Oc) (no gi:List Row):PyData:=.tuple [ocD oc,.list (no.map XB),.list (gi.map XB)]
theorem zeq {out out':List Row} (h:vS s out) (h':vS s out'):out=out':=by
 unfold vS at h h'
 cases e:s.why with
 | some w=>rw [e] at h h';rw [h,h']
 | none=>rw [e] at h h';exact ZF h.1 h'.1 fun ⟨p,w⟩=>(h.2 p w).trans (h'.2 p w).symm
theorem zeQ {out:List Row} (I:RnI C m s) (h:vS s out):∀ r∈out,b6 r.1.1=true:=by
 unfold vS at h
 cases e:s.why with
 | some w=>rw [e] at h;rw [h];exact fun r hr=>nomatch hr
 | none =>
  rw [e] at h
  intro r hr
  exact Za (P:=fun r=>b6 r.1.1=true) I.ng ((h.2 r.1 r.2).mp hr)
theorem zdb {out:List Row} (h:vS s out):out.length≤s.gi.length:=by
 unfold vS at h
 cases e:s.why with
 | some w=>rw [e] at h;rw [h];exact b9 _
 | none =>
  rw [e] at h
  have ld:=yY s.gi
  have n1:((dOf s.gi).map (·.1)).Nodup:=(vo s.gi).1
  have n2:((out.map (·.1)).map zH).Nodup:=by
   have:=h.1.nd
   unfold iJ at *
   rw [eh]
   exact this.imp fun {a b} hab z=>hab (xc z)
  have sub2:∀ k∈(out.map (·.1)).map zH,k∈(dOf s.gi).map (·.1):=fun k hk=>by
   obtain ⟨p,hp,rfl⟩:=cG.mp hk
   obtain ⟨r,hr,rfl⟩:=cG.mp hp
   exact cP (f:=(·.1)) (mem_dOf.mpr ⟨r.1,r.2,rfl,(h.2 r.1 r.2).mp hr⟩)
  have:=qZ n2 sub2
  simp only [bB] at this
  lia
end
theorem zfy {H0 H1 H3:Hp} {x dx:Addr} {a:RAd} (s1:Same H0 H1) (hx:H1 x=none) (hdx:H1 dx=none) (k3:Y9 x (upd (upd H1 dx (.own x)) x (.ins t.c_Run dx [])) H3) (fr:∀ b,OwA x a b→b=x∨upd (upd H1 dx (.own x)) x (.ins t.c_Run dx []) b=none):Same H1 H3∧∀ b,OwA x a b→H1 b=none:=by
 have s2:Same H1 (upd (upd H1 dx (HO.own x)) x (HO.ins t.c_Run dx [])):=fun b o e=>by rw [zj (zB e hx),zj (zB e hdx)];exact e
 refine ⟨fun b o e=>k3 b o (fun z=>by rw [z,hx] at e;cases e) (s2 b o e),fun b ob=>?_⟩
 rcases fr b ob with z | z
 ·rw [z];exact hx
 ·exact zA s2 z
section
variable {C:List Cs}
theorem Q1 {r:Addr} {s:RSt} {out:List Row} {o:V} {nl gl:Addr} (h1:H r=some (.tup [o,.ref nl,.ref gl])) (h2:Zd H o (wO s)) (h3:LsAt H nl s.no) (h4:LsAt H gl out):Dat K H (.ref r) (ppD (wO s) s.no out):=.tup (SqT.of h1) (.cons (Q0 h2) (.cons (YV h3) (.cons (YV h4) .nil)))
end
theorem zer (ns:List Int) (lo hi:Option Int):∃ ys:List Int,JZ (ns.map V.int) lo hi=ys.map V.int∧ys.length≤ns.length:=by
 refine ⟨(ns.drop (HT.sIx ns.length 0 lo)).take (HT.sIx ns.length ns.length hi - HT.sIx ns.length 0 lo),?_,?_⟩
 ·unfold JZ
  rw [iF,l5,bB]
 ·rw [cE,cR];lia
theorem zfz {j c:Int} (hj:0≤j) (hc:0 < c):(Xk 0 j c:Int)≤j:=by
 unfold Xk
 split
 ·rename_i h
  have h1:=i4 (a:=j - 0 - 1) (b:=c) (by lia) (by lia)
  have h2:=oj (a:=j - 0 - 1) c (by lia)
  rw [e9 (by lia)]
  lia
 ·simpa using hj
theorem K9 {σ:St} {H:Hp} {nx:St→Hp→Prop} {B:V→St→Hp→(St→Hp→Prop)→Prop} {lo c:Int} {n:Nat} (Pv:Nat→St→Hp→Prop) (h0:Pv 0 σ H) (hs:∀ i σ H,i < n→Pv i σ H→B (.int (lo + i * c)) σ H (Pv (i + 1))) (hd:∀ σ H,Pv n σ H→nx σ H) :
  ∃ W:Nat→Nat→St→Hp→Prop,(∃ m,W 0 m σ H)∧∀ i m σ H,W i m σ H→((zcE lo c n).stop i H∧nx σ H)∨((zcE lo c n).go i H∧∃ N:St→Hp→Prop,(∀ σ' H',N σ' H'→∃ m',m' < m∧W (i + 1) m' σ' H')∧∀ x H',(zcE lo c n).yld i H x H'→B x σ H' N):=by
 refine ⟨fun i m σ H=>m=n - i∧i≤n∧Pv i σ H,⟨n,by simp,b9 _,h0⟩,?_⟩
 rintro i m σ H ⟨rfl,hi,p⟩
 by_cases hlt:i < n
 ·refine .inr ⟨hlt,Pv (i + 1),fun σ' H' p'=>⟨n - (i + 1),by lia,rfl,hlt,p'⟩,?_⟩
  rintro x H' ⟨rfl,rfl⟩
  exact hs i σ _ hlt p
 ·obtain rfl:i=n:=by lia
  exact .inl ⟨bu _,hd σ H p⟩
theorem _root_.L2.PrAt.same {H H':Hp} {v:V} {q:Row} (h:VG H v q) (s:Same H H'):VG H' v q:=by
 obtain ⟨r,p,e,h1,h2⟩:=h
 exact ⟨r,p,e,s _ _ h1,s _ _ h2⟩
theorem _root_.L2.PrAt.tsame {H H':Hp} {v:V} {q:Row} (h:VG H v q) (s:KZ H H'):VG H' v q:=by
 obtain ⟨r,p,e,h1,h2⟩:=h
 exact ⟨r,p,e,s _ _ h1,s _ _ h2⟩
theorem km {H H':Hp} (s:KZ H H'):∀ {vs:List V} {rows:List Row},vA H vs rows→vA H' vs rows
 | _,_,.nil=>.nil
 | _,_,.cons h r=>.cons (h.tsame s) (km s r)
theorem jE {H H':Hp} (s:Same H H'):∀ {vs:List V} {rows:List Row},vA H vs rows→vA H' vs rows
 | _,_,.nil=>.nil
 | _,_,.cons h r=>.cons (h.same s) (jE s r)
theorem Yq {vs:List V} {rows:List Row} (h:vA H vs rows):vs.length=rows.length:=cy h
theorem Wt {vs:List V} {rows:List Row} {i:Nat} {v:V} (h:vA H vs rows) (e:vs[i]?=some v):∃ q,rows[i]?=some q∧VG H v q:=by
 have hi:=(bp.mp e).1
 have l:=Yq h
 exact ⟨rows[i],bg (by lia),ym h e (bg (by lia))⟩
theorem VM {H:Hp} {v:V} {q:Row}:∀ {ys:List V} {rows:List Row},vA H ys rows→VG H v q→vA H (ys ++ [v]) (rows ++ [q])
 | _,_,.nil,h=>.cons h .nil
 | _,_,.cons a r,h=>.cons a (VM r h)
theorem zdc (rows:List Row):∃ qs:List Pl,(dOf rows).map (·.1)=qs.map zH∧qs.Nodup∧∀ p,p∈qs↔(zr rows p).isSome=true:=by
 have h:=vo rows
 have:∀ (kvs:List (List Key × V)),(∀ kv∈kvs,∃ (p:Pl) (w:Int),kv=(zH p,.int w))→∃ qs:List Pl,kvs.map (·.1)=qs.map zH:=fun kvs=>by
  induction kvs with
  | nil=>exact fun _=>⟨[],rfl⟩
  | cons kv r ih =>
   intro hk
   obtain ⟨qs,e⟩:=ih fun z hz=>hk z (bx _ hz)
   obtain ⟨p,w,e2⟩:=hk kv bH
   exact ⟨p :: qs,by rw [bW,bW,e,e2]⟩
 obtain ⟨qs,e⟩:=this _ h.2
 refine ⟨qs,e,ww (f:=zH) (by rw [← e];exact h.1),fun p=>?_⟩
 constructor
 ·intro hp
  have:zH p∈(dOf rows).map (·.1):=by rw [e];exact cP hp
  obtain ⟨kv,hk,e1⟩:=cG.mp this
  obtain ⟨p',w,rfl,hw⟩:=mem_dOf.mp hk
  have:=xc e1
  subst this
  rw [hw];rfl
 ·intro hp
  obtain ⟨w,hw⟩:=eQ.mp hp
  have:zH p∈qs.map zH:=by rw [← e];exact cP (f:=(·.1)) (mem_dOf.mpr ⟨p,w,rfl,hw⟩)
  obtain ⟨p',hp',e1⟩:=cG.mp this
  rw [← xc e1];exact hp'
def VN (rows:List Row) (p:Pl):Option Row:=match zr rows p with
 | some w=>if w=0 then none else some (p,w)
 | none=>none
def zfA (rows:List Row) (qs:List Pl) (i:Nat) (ys:List V) (H:Hp):Prop:=∃ out:List Row,vA H ys out∧out=(qs.take i).filterMap (VN rows)
theorem zes {rows:List Row} {qs:List Pl} {i:Nat} {ys:List V} {H H':Hp} (s:KZ H H') (h:zfA rows qs i ys H):zfA rows qs i ys H':=by
 obtain ⟨out,h1,h2⟩:=h
 exact ⟨out,km s h1,h2⟩
theorem toRow_iff {rows:List Row} {p:Pl} {b:Row}:VN rows p=some b↔b.1=p∧zr rows p=some b.2∧b.2≠0:=by
 unfold VN
 obtain ⟨p',w'⟩:=b
 cases e:zr rows p with
 | none=>simp
 | some w =>
  by_cases h:w=0
  ·subst h
   simp only [if_true]
   constructor
   ·intro z;cases z
   ·rintro ⟨_,z,h2⟩
    exact absurd (ca z).symm h2
  ·simp only [if_neg h,bi,Prod.mk.injEq]
   constructor
   ·rintro ⟨rfl,rfl⟩;exact ⟨rfl,rfl,h⟩
   ·rintro ⟨rfl,rfl,_⟩;exact ⟨rfl,rfl⟩
theorem zfB {rows:List Row} {ps:List Pl} (hw:ps.Pairwise fun a b=>zX a b=true) (hm:∀ p,p∈ps↔(zr rows p).isSome=true):xS rows (ps.filterMap (VN rows)):=by
 constructor
 ·unfold Rising
  rw [List.pairwise_filterMap]
  refine hw.imp fun {a a'} h b hb b' hb'=>?_
  rw [(toRow_iff.mp hb).1,(toRow_iff.mp hb').1];exact h
 ·intro p w
  rw [List.mem_filterMap]
  constructor
  ·rintro ⟨a,_,h⟩
   obtain ⟨h1,h2,h3⟩:=toRow_iff.mp h
   cases h1
   exact ⟨h2,h3⟩
  ·rintro ⟨h1,h2⟩
   exact ⟨p,(hm p).mpr (by rw [h1];rfl),toRow_iff.mpr ⟨rfl,h1,h2⟩⟩
theorem WZ {a:Addr} {xs:List V} {rows:List Row} (h1:H a=some (.lst xs)) (h2:vA H xs rows) (h4:(dOf rows).length≤900) (h5:rows.length≤1000) (q:∀ l ys out H',Same H H'→H l=none→H' l=some (.lst ys)→vA H' ys out→xS rows out→Q (.ref l) H') :
  vX K t { nx:=fun _ H'=>Q .non H',rt:=Q } (L2.start ["rows","worths"] [.ref a]) H:=by
 simp only [vX,XX,zcu,qf,L2.start,zp,zV,zw,zE,tOp,zc,tC,yx,zb,zi,zq,tCB,Y3,J8,jn,rNe,kH,cC,bM,bP,cb,cj,bd,bh,bi,exists_eq_left',V.ref.injEq,V.bl.injEq,bq,and_true,exists_and_left,bE,bI,bZ,bO,b7,decide_eq_false_iff_not]
 refine ⟨xs,h1,rows,h2,h5,fun d hd=>?_⟩
 have S:∀ u:HO,Same H (upd H d u):=fun u=>isV (o:=u) d hd
 obtain ⟨qs,hqs,nqs,mqs⟩:=zdc rows
 have ld:=yY rows
 generalize hH0:upd H d (.dT (dOf rows))=H0
 have S0:Same H H0:=by rw [← hH0];exact S _
 have d0:H0 d=some (.dT (dOf rows)):=by rw [← hH0];exact zf
 refine ⟨dOf rows,d0,qs,hqs,by lia,fun l ps hl0 hperm hpw hps=>?_⟩
 obtain ⟨H1,eH,s1,q1⟩:=zdL (o:=HO.lst (ps.map fun n=>V.ref n.1)) hl0
 rw [← eH]
 clear eH
 refine ⟨⟨_,SqL.of q1⟩,fun D hD=>?_⟩
 refine K0 (J:=Itl K l) ps.length (by have:=hperm.length_eq;have:=congrArg bP hqs;simp at *;lia) (fun τ=>∃ o,τ=[o,some (.ref d)]) (zfA rows (ps.map (·.2))) (fun i ys H H' s h=>zes s h) ⟨_,rfl⟩ ⟨[],.nil,rfl⟩ (fun i H s h=>⟨_,_,SqL.of (s _ _ q1),bg (by rw [bB];exact h)⟩) (fun H s=>⟨_,SqL.of (s _ _ q1),by rw [bB];exact bu _⟩) hD ?_ ?_
 ·rintro i v τ ys H4 H5 ⟨o,rfl⟩ s4 hi hR ⟨rfl,hv⟩
  have hv:=hv _ (SqL.of (s4 _ _ q1))
  rw [bQ] at hv
  obtain ⟨n,hn,rfl⟩:=dk.mp hv
  have hp:=s4 _ _ (s1 _ _ (hps n (bF hn)))
  simp only [bd,bh,bi,exists_eq_left',V.ref.injEq,bq,and_true,bE]
  have hm:n.2∈qs:=hperm.mem_iff.mp (cP (bF hn))
  obtain ⟨w,hw⟩:=eQ.mp ((mqs n.2).mp hm)
  have g:DGet H5 d (.ref n.1) ((zr rows n.2).map V.int):=.inr ⟨dOf rows,zH n.2,n.1,.inl (s4 _ _ (s1 _ _ d0)),rfl,hp,(xH rows n.2).symm⟩
  rw [hw] at g
  have tk:(ps.map (·.2)).take (i + 1)=(ps.map (·.2)).take i ++ [n.2]:=by rw [dL,bQ,hn];rfl
  obtain ⟨out,hr,ho⟩:=hR
  refine ⟨_,g,rfl,xm (fun c=>⟨_,g,by decide,fun p hp2=>⟨⟨_,rfl⟩,?_,isV p hp2⟩⟩) fun c=>⟨⟨_,rfl⟩,?_,Same.refl _⟩⟩
  ·refine ⟨out ++ [(n.2,w)],VM (jE (isV p hp2) hr) ⟨p,n.1,rfl,zf,isV p hp2 _ _ hp⟩,?_⟩
   have hw0:w≠0:=fun z=>c (by rw [z])
   rw [tk,mS,← ho]
   simp [VN,hw,hw0]
  ·refine ⟨out,hr,?_⟩
   have hw0:w=0:=by simpa using c
   rw [tk,mS,← ho]
   simp [VN,hw,hw0]
 ·rintro ys H4 hly ⟨out,hr,ho⟩ s4 hq
  refine q D ys out H4 (S0.trans (s1.trans s4)) (zA (S0.trans s1) hD) hq hr ?_
  rw [cB (by rw [bB];exact bu _)] at ho
  subst ho
  exact zfB hpw fun p=>(hperm.mem_iff.trans (mqs p))
theorem Yr {p:Pl} {w:Int}:∀ {l:List Row},zr l p=some w→(p,w)∈l
 | [],h=>by cases h
 | r :: t,h=>by
  rw [zr] at h
  cases e:zr t p with
  | some w' =>
   rw [e] at h
   have:w'=w:=by simpa using h
   subst this
   exact bx _ (Yr e)
  | none =>
   rw [e] at h
   by_cases c:r.1=p
   ·rw [if_pos c] at h
    have:r.2=w:=by simpa using h
    rw [← c,← this];exact bH
   ·rw [if_neg c] at h;cases h
theorem doF {P:Str→Option Value} (T:Txt K P t):DoF K t:=⟨T.cl_Doing,T.na_Doing_slots,T.na_Doing_worths,T.na_Doing_sayings⟩
theorem DoAt.same {H0 H H':Hp} {x dx sl wo sa:Addr} {s:Sta} (D:DoAt t H0 H x dx sl wo sa s) (k:Same H H'):DoAt t H0 H' x dx sl wo sa s :=
 ⟨D.sm.trans k,D.f1,D.f2,D.f3,k _ _ D.ix,k _ _ D.hs,k _ _ D.hw,k _ _ D.ha⟩
theorem DoAt.putS {H0 H:Hp} {x dx sl wo sa:Addr} {s:Sta} (D:DoAt t H0 H x dx sl wo sa s) (kvs:List (Key × V)):DoAt t H0 (upd H sl (.dK kvs)) x dx sl wo sa { s with sl:=kvs } :=
 ⟨z8 D.sm D.f1,D.f1,D.f2,D.f3,by rw [zj (yi D.ix D.hs (fun z=>nomatch z))];exact D.ix,zf,by rw [zj (yi D.hw D.hs (fun z=>nomatch z))];exact D.hw,by rw [zj (yi D.ha D.hs (fun z=>nomatch z))];exact D.ha⟩
theorem DoAt.putW {H0 H:Hp} {x dx sl wo sa:Addr} {s:Sta} (D:DoAt t H0 H x dx sl wo sa s) (rows:List Row):DoAt t H0 (upd H wo (.dT (dOf rows))) x dx sl wo sa { s with wo:=rows } :=
 ⟨z8 D.sm D.f2,D.f1,D.f2,D.f3,by rw [zj (yi D.ix D.hw (fun z=>nomatch z))];exact D.ix,by rw [zj (yi D.hs D.hw (fun z=>nomatch z))];exact D.hs,zf,by rw [zj (yi D.ha D.hw (fun z=>nomatch z))];exact D.ha⟩
theorem DoAt.putA {H0 H:Hp} {x dx sl wo sa:Addr} {s:Sta} (D:DoAt t H0 H x dx sl wo sa s) (is:List Int):DoAt t H0 (upd H sa (.lst (is.map V.int))) x dx sl wo sa { s with sa:=is } :=
 ⟨z8 D.sm D.f3,D.f1,D.f2,D.f3,by rw [zj (yi D.ix D.ha (fun z=>nomatch z))];exact D.ix,by rw [zj (yi D.hs D.ha (fun z=>nomatch z))];exact D.hs,by rw [zj (yi D.hw D.ha (fun z=>nomatch z))];exact D.hw,zf⟩
theorem Wu {x a:Addr} {tab:List Row} {H0:Hp} {dx:Addr} (F:DoF K t) (h1:Same H0 H) (h2:H0 x=none) (h3:H x=some (.ins t.c_Doing dx [])) (h4:LsAt H0 a tab) (h5:tab.length≤500)
  (q:∀ H' sl wo sa,DoAt t H0 H' x dx sl wo sa ⟨[],tab,[]⟩→Q .non H') :
  jh K t { nx:=fun _ H'=>Q .non H',rt:=Q } (L2.start ["self","table"] [.ref x,.ref a]) H:=by
 simp only [jh,qf,kU,L2.start,zp,zc,xo,zb,zi,tCB,V4,cC,bM,bP,bt,bd,bh,bi,exists_eq_left',V.ref.injEq,bq,and_true,exists_and_left,bZ,bO]
 intro sl hsl
 obtain ⟨xs,hx,rx⟩:=h4
 have nsl:x≠sl:=zB h3 hsl
 have fsl:H0 sl=none:=zA h1 hsl
 refine ⟨_,_,_,(by rw [zj nsl];exact h3),F.cl,F.n1,by decide,?_⟩
 have S2:Same H0 (upd (upd H sl (.dK [])) x (.ins t.c_Doing dx (z7 "slots" (.ref sl) []))):=z8 (z8 h1 fsl) h2
 have x2:upd (upd H sl (.dK [])) x (.ins t.c_Doing dx (z7 "slots" (.ref sl) [])) x=some (.ins t.c_Doing dx (z7 "slots" (.ref sl) [])):=zf
 have l2:upd (upd H sl (.dK [])) x (.ins t.c_Doing dx (z7 "slots" (.ref sl) [])) sl=some (.dK []):=by rw [zj (cA nsl),zf]
 generalize upd (upd H sl (.dK [])) x (.ins t.c_Doing dx (z7 "slots" (.ref sl) []))=H2 at *
 refine ⟨xs,S2 _ _ hx,tab,jE S2 rx,by lia,fun wo hwo=>?_⟩
 have nwo:x≠wo:=zB x2 hwo
 have fwo:H0 wo=none:=zA S2 hwo
 refine ⟨_,_,_,(by rw [zj nwo];exact x2),F.cl,F.n2,(by simp [z7]),b9 _,?_⟩
 have S3:Same H0 (upd (upd H2 wo (.dT (dOf tab))) x (.ins t.c_Doing dx (z7 "worths" (.ref wo) (z7 "slots" (.ref sl) [])))):=z8 (z8 S2 fwo) h2
 have x3:upd (upd H2 wo (.dT (dOf tab))) x (.ins t.c_Doing dx (z7 "worths" (.ref wo) (z7 "slots" (.ref sl) []))) x=some (.ins t.c_Doing dx (z7 "worths" (.ref wo) (z7 "slots" (.ref sl) []))):=zf
 have l3:upd (upd H2 wo (.dT (dOf tab))) x (.ins t.c_Doing dx (z7 "worths" (.ref wo) (z7 "slots" (.ref sl) []))) sl=some (.dK []):=by rw [zj (cA nsl),zj (zB l2 hwo)];exact l2
 have w3:upd (upd H2 wo (.dT (dOf tab))) x (.ins t.c_Doing dx (z7 "worths" (.ref wo) (z7 "slots" (.ref sl) []))) wo=some (.dT (dOf tab)):=by rw [zj (cA nwo),zf]
 generalize upd (upd H2 wo (.dT (dOf tab))) x (.ins t.c_Doing dx (z7 "worths" (.ref wo) (z7 "slots" (.ref sl) [])))=H3 at *
 intro sa hsa
 have nsa:x≠sa:=zB x3 hsa
 refine ⟨_,_,_,(by rw [zj nsa];exact x3),F.cl,F.n3,(by simp [z7];split <;> simp),q _ sl wo sa ⟨z8 (z8 S3 (zA S3 hsa)) h2,fsl,fwo,zA S3 hsa,zf,?_,?_,?_⟩⟩
 ·rw [zj (cA nsl),zj (zB l3 hsa)];exact l3
 ·rw [zj (cA nwo),zj (zB w3 hsa)];exact w3
 ·rw [zj (cA nsa),zf];rfl
theorem ZX {x tm:Addr} {e:List V} {H0:Hp} {dx sl wo sa:Addr} {s:Sta} {E:XK} (F:DoF K t) (D:DoAt t H0 H x dx sl wo sa s) (h2:yo s.sl) (h3:H tm=some (.tup e)) (h4:TermOk e)
  (q:∀ H',Same H H'→fin t (rk s.sl e) Q E H'):x0 K t E { nx:=fun _ H'=>Q .non H',rt:=Q } (L2.start ["self","term"] [.ref x,.ref tm]) H:=by
 simp only [x0,wJ,yG,L2.start,zE,zc,zb,zi,zo,cC,bM,bP,bt,bd,bh,bi,exists_eq_left',V.ref.injEq,bq,and_true,and_assoc,exists_and_left,bZ,bO]
 exact ⟨_,_,_,D.ix,F.cl,F.n1,_,rfl,s.sl,_,rfl,e,h3,D.hs,_,h4.good s.sl,h4.2.1,h4.2.2,h2,q⟩
theorem x6 {vs:List V} {H:Hp} {Q:VK} {E:XK} (h:yj t 0 vs H Q E):False:=by
 obtain ⟨_,_,_,_,_,_,_,_,_,_,_,_,_,_,_,_,h,_⟩:=h
 exact Nat.not_lt_zero _ h
def goI (t:Adr) (x l dx sl wo sa:Addr) (xs:List V) (rws:Rws) (s:Sta) (n:Nat) (H0:Hp) (i:Nat) (σ:St) (H':Hp):Prop:=∃ (s':Sta) (rest:Rws) (m:Nat),(∃ o,σ=[some (.ref x),some (.ref l),o])∧DoAt t H0 H' x dx sl wo sa s'∧RwsAt vc H0 (xs.drop i) rest∧yq rest∧rest.deep < n + 1∧StOk m s'∧m + rest.cnt≤900∧yH rws s=yH rest s'
theorem LsAt.same {H H':Hp} {a:Addr} {rows:List Row} (h:LsAt H a rows) (s:Same H H'):LsAt H' a rows:=by
 obtain ⟨xs,h1,h2⟩:=h
 exact ⟨xs,s _ _ h1,jE s h2⟩
theorem Wv {w:Str} {a:Addr} {tab:List Row} (h1:LsAt H a tab) (q:∀ r o l H',Same H H'→H l=none→H' r=some (.tup [o,.ref l])→Zd H' o (.off w)→LsAt H' l tab→Q (.ref r) H') :
  ji K t { nx:=fun _ H'=>Q .non H',rt:=Q } (L2.start ["why","table"] [.str w,.ref a]) H:=by
 simp only [ji,L2.start,Ke,zE,zc,tC,yx,zb,zi,tCB,cC,bM,bP,bt,bd,bh,bi,exists_eq_left',V.ref.injEq,bq,and_true,exists_and_left,bZ,bO]
 obtain ⟨xs,hx,rx⟩:=h1
 refine ⟨by decide,fun o ho=>?_⟩
 have s1:=isV (o:=HO.tup [V.str (bb "off"),V.str w]) o ho
 refine ⟨xs,.inl (SqL.of (s1 _ _ hx)),fun l hl=>⟨by decide,fun r hr=>?_⟩⟩
 have s2:=isV (o:=HO.lst xs) l hl
 have s3:=isV (o:=HO.tup [V.ref o,V.ref l]) r hr
 have S:=s1.trans (s2.trans s3)
 exact q r (.ref o) l _ S (zA s1 hl) zf ⟨o,rfl,s3 _ _ (s2 _ _ zf)⟩ ⟨xs,s3 _ _ zf,jE S rx⟩
theorem JG {a:Addr} {rows:List Row} (h1:LsAt H a rows) (h2:(dOf rows).length≤900) (h3:rows.length≤1000) (q:∀ l out H',Same H H'→H l=none→LsAt H' l out→xS rows out→Q (.ref l) H') :
  vX K t { nx:=fun _ H'=>Q .non H',rt:=Q } (L2.start ["rows","worths"] [.ref a]) H:=by
 obtain ⟨xs,hx,rx⟩:=h1
 exact WZ hx rx h2 h3 fun l ys out H' s fr hy ry ti=>q l out H' s fr ⟨ys,hy,ry⟩ ti
theorem Ww {v:V} {a x dx sl wo sa:Addr} {rws:Rws} {tab:List Row} {H0:Hp} {s:Sta} {b:Bool} (F:DoF K t) (h2:LsAt H0 a tab) (h3:KN rws tab) (sm:Same H0 H)
  (hb:(b=true∧yH rws ⟨[],tab,[]⟩=.go s∧DoAt t H0 H x dx sl wo sa s)∨(b=false∧yH rws ⟨[],tab,[]⟩=.off))
  (q:∀ r o l oc out H',Same H0 H'→H0 l=none→H' r=some (.tup [o,.ref l])→Zd H' o oc→LsAt H' l out→vp rws tab oc out→Q (.ref r) H') :
  ZV K t { nx:=fun _ H'=>Q .non H',rt:=Q } [some v,some (.ref a),some (.ref x),some (.bl b)] H:=by
 simp only [ZV,yO,qw,zdS,yG,qg,Kw,zp,zE,zJ,zc,tC,yx,zb,zi,zM,x9,tB,tCB,zo,bP,bt,bd,bh,bi,exists_eq_left',V.ref.injEq,V.str.injEq,V.bl.injEq,bq,and_true,and_assoc,exists_and_left,bO,b7]
 rcases hb with ⟨rfl,hg,D⟩ | ⟨rfl,hg⟩
 ·rw [if_neg (by decide)]
  refine ⟨_,_,_,D.ix,F.cl,F.n3,_,rfl,_,rfl,_,.inl ⟨SqL.of D.ha,fun y hy=>⟨by decide,fun o ho=>?_⟩⟩⟩
  have s1:=isV (o:=HO.tup (s.sa.map V.int)) y hy
  have s2:=isV (o:=HO.tup [V.str (bb "done"),V.ref y]) o ho
  have y2:=s2 _ _ (show upd H y (HO.tup (s.sa.map V.int)) y=some (.tup (s.sa.map V.int)) from zf)
  have o2:upd (upd H y (HO.tup (s.sa.map V.int))) o (HO.tup [V.str (bb "done"),V.ref y]) o=some (.tup [V.str (bb "done"),V.ref y]):=zf
  have D2:=D.same (s1.trans s2)
  have S2:=sm.trans (s1.trans s2)
  generalize upd (upd H y (HO.tup (s.sa.map V.int))) o (HO.tup [V.str (bb "done"),V.ref y])=H2 at *
  refine ⟨_,_,_,D2.ix,F.cl,F.n2,_,rfl,_,rfl,_,D2.hw,fun r hr=>?_⟩
  have s3:=isV (o:=ku r wo) r hr
  have ok:=Yh rws (n:=tab.length) ⟨(fun k v e=>by rw [XT] at e;cases e),h3.iw,b9 _,bu _,b9 _⟩ h3.ok hg
  have few:=h3.fw s hg
  obtain ⟨its,ei,nd,mi⟩:=QN s.wo
  have li:its.length=(dOf s.wo).length:=by rw [ei,bB]
  have ld:=yY its
  refine ⟨wo,zf,_,s3 _ _ D2.hw,by lia,fun l ys H4 s4 fl hl pr=>?_⟩
  rw [ei] at pr
  have S4:=S2.trans (s3.trans s4)
  refine ⟨its,⟨ys,hl,zaM pr⟩,by lia,by lia,fun l2 out H5 s5 fl2 la ti=>⟨by decide,fun rr hrr=>?_⟩⟩
  have s6:=isV (o:=HO.tup [V.ref o,V.ref l2]) rr hrr
  have k6:=s3.trans (s4.trans (s5.trans s6))
  exact q rr (.ref o) l2 (.done s.sa) out _ (S4.trans (s5.trans s6)) (zA S4 fl2) zf ⟨o,y,rfl,k6 _ _ o2,k6 _ _ y2⟩ (la.same s6) (by unfold vp;rw [hg];exact ⟨rfl,zd8 nd mi ti⟩)
 ·rw [if_pos rfl]
  exact ⟨tab,h2.same sm,fun r o l H' s' fl hr oa la=>q r o l (.off "told") tab H' (sm.trans s') (zA sm fl) hr oa la (by unfold vp;rw [hg];exact ⟨rfl,rfl⟩)⟩
theorem Q2 {P:Str→Option Value} {v:V} {a x dx sl wo sa:Addr} {rws:Rws} {tab:List Row} {H0:Hp} (T:Txt K P t) (D:DoAt t H0 H x dx sl wo sa ⟨[],tab,[]⟩) (h1:kL vc H0 v rws) (h2:LsAt H0 a tab) (h3:KN rws tab)
  (q:∀ r o l oc out H',Same H0 H'→H0 l=none→H' r=some (.tup [o,.ref l])→Zd H' o oc→LsAt H' l out→vp rws tab oc out→Q (.ref r) H') :
  ZW K t { nx:=fun _ H'=>Q .non H',rt:=Q } [some v,some (.ref a),some (.ref x),none] H:=by
 have F:=doF T
 obtain ⟨ra,xs,rfl,_,ha,hx⟩:=h1
 simp only [ZW,yj,yO,YC,Wb,zat,zp,zE,zc,tC,zb,zi,zo,bt,bd,bh,bi,exists_eq_left',V.ref.injEq,V.str.injEq,bq,and_true,and_assoc,exists_and_left,bE,bI]
 refine ⟨dx,_,D.ix,rfl,xs,rws,tab.length,H0,dx,sl,wo,sa,⟨[],tab,[]⟩,D,ha,hx,h3.ok,h3.dp,⟨(fun k v e=>by rw [XT] at e;cases e),h3.iw,b9 _,bu _,b9 _⟩,by have:=h3.ln;lia,fun H' s' g D'=>Ww F h2 h3 D'.sm (.inl ⟨rfl,g,D'⟩) q,fun H' g sm=>Ww (s:=⟨[],[],[]⟩) (dx:=dx) (sl:=sl) (wo:=wo) (sa:=sa) F h2 h3 sm (.inr ⟨rfl,g⟩) q,fun H' e g sm=>?_⟩
 cases e with
 | nought=>exact ⟨t.c_Nought,rfl,.inr ⟨T.e_Nought_Great,T.e_Nought_Nought,tab,h2.same sm,fun r o l H'' s hl hr oa la=>q r o l (.off "nought") tab H'' (sm.trans s) (zA sm hl) hr oa la (by unfold vp;rw [g];exact ⟨rfl,rfl⟩)⟩⟩
 | great=>exact ⟨t.c_Great,rfl,.inl ⟨T.e_Great_Great,tab,h2.same sm,fun r o l H'' s hl hr oa la=>q r o l (.off "great") tab H'' (sm.trans s) (zA sm hl) hr oa la (by unfold vp;rw [g];exact ⟨rfl,rfl⟩)⟩⟩
 | stuck=>trivial
theorem zby {P:Str→Option Value} {v:V} {a:Addr} {rws:Rws} {tab:List Row} (T:Txt K P t) (h1:kL vc H v rws) (h2:LsAt H a tab) (h3:KN rws tab)
  (q:∀ r o l oc out H',Same H H'→H l=none→H' r=some (.tup [o,.ref l])→Zd H' o oc→LsAt H' l out→vp rws tab oc out→Q (.ref r) H') :
  Wn K t { nx:=fun _ H'=>Q .non H',rt:=Q } (L2.start ["rows","table","doing","came_through"] [v,.ref a]) H:=by
 simp only [Wn,jc,zag,L2.start,zp,zV,zw,zc,zb,zi,cC,bM,bP,cb,cj,bt,bd,bh,bi,exists_eq_left',V.ref.injEq,bq,and_true,true_and,and_assoc,exists_and_left,bE,bI,bZ,bO]
 intro x dx hx hd n
 have s1:=isV (o:=HO.own x) dx hd
 have hx1:upd H dx (HO.own x) x=none:=by rw [zj (cA n)];exact hx
 have s2:=isV (o:=HO.ins t.c_Doing dx []) x hx1
 have ln:=h3.ln
 exact ⟨tab,H,s1.trans s2,hx,dx,zf,h2,by lia,fun H' sl wo sa D=>Q2 T D h1 h2 h3 q⟩
theorem Q3 {a p:Addr} {tab:List Row} {q0:Pl} (h1:LsAt H a tab) (h5:tab.length≤500) (h6:H p=some (.tup [.str q0.1,.int q0.2])) (q:∀ H',Same H H'→Q (.int ((zr tab q0).getD 0)) H') :
  YO K t { nx:=fun _ H'=>Q .non H',rt:=Q } (L2.start ["table","place"] [.ref a,.ref p]) H:=by
 simp only [YO,qf,wM,L2.start,wM,zE,zc,tC,zb,zi,tCB,cC,bM,bP,bt,bd,bh,bi,exists_eq_left',V.ref.injEq,bq,and_true,exists_and_left,bZ,bO]
 obtain ⟨xs,h1,h2⟩:=h1
 refine ⟨xs,h1,tab,h2,by lia,fun d hd=>⟨.inr ⟨dOf tab,.inl zf⟩,?_⟩⟩
 have S:=isV (o:=HO.dT (dOf tab)) d hd
 have g:DGet (upd H d (.dT (dOf tab))) d (.ref p) ((zr tab q0).map V.int):=.inr ⟨dOf tab,zH q0,p,.inl zf,rfl,S _ _ h6,(xH tab q0).symm⟩
 refine ⟨_,g,?_⟩
 have:=q _ S
 cases e:zr tab q0 with
 | none=>rw [e] at this;exact this
 | some w=>rw [e] at this;exact this
theorem zf8 {v:V} (h:lfV v):jR v∧isJ v=false∧plV v:=by
 rcases h with ⟨i,rfl,hi⟩ | ⟨x,rfl,hx⟩
 ·exact ⟨.inl ⟨i,rfl,hi⟩,rfl,.inl ⟨i,rfl⟩⟩
 ·have:=Yb hx
  exact ⟨.inr ⟨x,rfl,by lia⟩,this.2.2.1,.inr ⟨x,rfl,kj hx⟩⟩
theorem NamesAt.same {H H':Hp} {nm:Addr} {ws:List Str} (h:NamesAt H nm ws) (s:Same H H'):NamesAt H' nm ws:=⟨s _ _ h.1,h.2⟩
theorem Ys {nm:Addr} {ws:List Str} (h:NamesAt H nm ws) (n:Nat) (hl:ws.length=n) (hn:0 < (n:Int)) (e:Int):∃ x,atI (ws.map V.str) (e % n)=some (.str x)∧x∈ws∧xC x=true:=by
 obtain ⟨v,hv,hm⟩:=QV e n (xs:=ws.map V.str) (by rw [bB,hl]) hn
 obtain ⟨x,hx,rfl⟩:=cG.mp hm
 exact ⟨x,hv,hx,h.2 x hx⟩
theorem XC {c j:Int} (h1:0≤j) (h2:j≤900) (q:∀ w H',inW w=true→Same H H'→Q (.int w) H') :
  vB K t { nx:=fun _ H'=>Q .non H',rt:=Q } (L2.start ["cell","j"] [.int c,.int j]) H:=by
 simp only [vB,zl,L2.start,zp,zE,zJ,tOp,zc,tC,zb,zi,zM,zq,zo,rEq,rI,rI0,kH,cC,bM,bP,bt,bd,bh,bi,exists_eq_left',V.int.injEq,V.bl.injEq,bq,and_true,true_and,and_assoc,exists_and_left,bZ,bO,decide_eq_true_eq,mR,fT,Int.reduceMul,Int.reduceAdd]
 have P30:=KR (j:=30) (by decide) (by decide)
 have P40:=KR (j:=40) (by decide) (by decide)
 have hb:(1000000000000000000000000000000000000000000000000000000000000:Int) < big:=by decide +kernel
 refine ⟨h1,by lia,fun r1 H1 a1 b1 s1=>⟨by decide,xm (fun _=>?_) fun _=>⟨by lia,by lia,fun r2 H2 a2 b2 s2=>⟨by decide,q _ _ (inW_iff.mpr ?_) (s1.trans s2)⟩⟩⟩⟩
 ·have g1:=du c (b:=10000000000000000000000000000000000000000) (by decide)
  have g2:=cT c (b:=10000000000000000000000000000000000000000) (by decide)
  generalize c % 10000000000000000000000000000000000000000=d at *
  have m1:0≤d * (j + 2):=Int.mul_nonneg g1 (by lia)
  have m2:d * (j + 2)≤10000000000000000000000000000000000000000 * 1000:=Int.mul_le_mul (by lia) (by lia) (by lia) (by decide)
  generalize d * (j + 2)=f at *
  have g3:=du (f * 1000003 + j) (b:=2000000000000000000000000000001) (by decide)
  have g4:=cT (f * 1000003 + j) (b:=2000000000000000000000000000001) (by decide)
  exact ⟨P40,by decide,⟨by lia,by lia⟩,⟨by lia,by lia⟩,P30,⟨by lia,by lia⟩,by decide,P30,q _ _ (inW_iff.mpr (by lia)) s1⟩
 ·lia
theorem xU {a b:List V} {w:Str} (ha:TermOk a) (hb:TermOk b) (hw:wdJ w) (l:a.length + b.length < 1000):TermOk (a ++ b ++ [.str w]):=by
 refine ⟨fun kvs=>?_,fun z hz=>?_,by rw [bw,bw,dz];lia⟩
 ·obtain ⟨r1,g1⟩:=ha.1 kvs
  obtain ⟨r2,g2⟩:=hb.1 kvs
  exact ⟨_,zbl hw.1 g1 g2⟩
 ·rcases bz.mp hz with hz | hz
  ·rcases bz.mp hz with hz | hz
   ·exact ha.2.1 z hz
   ·exact hb.2.1 z hz
  ·rw [bD.mp hz];exact .inr ⟨w,rfl,hw.2.1⟩
theorem v3 {a b:List V} {w:Str} (ha:tmP a) (hb:tmP b) (hw:wdJ w):tmP (a ++ b ++ [.str w]):=fun z hz=>by
 rcases bz.mp hz with hz | hz
 ·rcases bz.mp hz with hz | hz
  ·exact ha z hz
  ·exact hb z hz
 ·rw [bD.mp hz];exact .inr ⟨w,rfl,hw.2.2⟩
theorem qL {u:V} (h:lfV u):TermOk [u]∧tmP [u]:=by
 obtain ⟨o1,j1,p1⟩:=zf8 h
 exact ⟨zcL o1 j1,fun z hz=>by rw [bD.mp hz];exact p1⟩
theorem zeR {x y:V} (r:Int):∃ z,atI [x,y] (r % 2)=some z∧(z=x∨z=y):=by
 obtain ⟨z,hz,hm⟩:=QV r 2 (xs:=[x,y]) rfl (by decide)
 exact ⟨z,hz,by simpa using hm⟩
mutual
theorem zet:∀ (r:Rw) (k:Nat),(yw r k).length≤szR r∧r.cnt≤szR r
 | .iff e a b,k=>by
  have h1:=vP a (k + 1)
  have h2:=vP b (k + 2 + (zm a (k + 1)).length)
  have c:(Rw.iff e a b).cnt=max a.cnt b.cnt + 1:=by rw [Rw.cnt]
  have z:szR (.iff e a b)=yQ a + yQ b + 2:=by rw [szR]
  rw [yw,c,z]
  unfold blk
  split
  ·exact ⟨by simp;lia,by lia⟩
  ·exact ⟨by simp;lia,by lia⟩
 | .take sh e sl,k=>by simp [yw,szR,Rw.cnt]
 | .give sh e f,k=>by simp [yw,szR,Rw.cnt]
 | .lt sl e,k=>by simp [yw,szR,Rw.cnt]
 | .say e,k=>by simp [yw,szR,Rw.cnt]
 | .off e,k=>by simp [yw,szR,Rw.cnt]
theorem vP:∀ (r:Rws) (k:Nat),(zm r k).length≤yQ r∧r.cnt≤yQ r
 | .nil,k=>by simp [zm,yQ,Rws.cnt]
 | .cons r rs,k=>by
  have h1:=zet r k
  have h2:=vP rs (k + (yw r k).length)
  rw [zm,yQ,Rws.cnt,bw]
  lia
end
theorem YW (x:Rw):∀ (r:Rws),yQ (r.snoc x)=yQ r + szR x
 | .nil=>by show yQ (.cons x .nil)=_;simp [yQ]
 | .cons y r=>by
  show yQ (.cons y (r.snoc x))=_
  rw [yQ,yQ,YW x r];lia
theorem qM (C:List Cs) (tb:Pl→Int):∀ (a b:Nat) (s:RSt),Jy C tb (a + b) s=Jy C tb b (Jy C tb a s)
 | 0,b,s=>by rw [mP];rfl
 | a + 1,b,s=>by
  rw [Nat.add_right_comm]
  exact qM C tb a b (j3 C tb s)
theorem Rch.refl (C:List Cs) (tb:Pl→Int) (s:RSt):Rch C tb s s:=⟨0,rfl⟩
theorem Rch.trans {C:List Cs} {tb:Pl→Int} {s1 s2 s3:RSt} (a:Rch C tb s1 s2) (b:Rch C tb s2 s3):Rch C tb s1 s3:=by
 obtain ⟨j,rfl⟩:=a
 obtain ⟨k,rfl⟩:=b
 exact ⟨j + k,qM C tb j k s1⟩
theorem Rch.one (C:List Cs) (tb:Pl→Int) (s:RSt):Rch C tb s (j3 C tb s):=⟨1,rfl⟩
theorem ko (q:Row) (p:Pl):∀ (rows:List Row),zr (rows ++ [q]) p=if q.1=p then some q.2 else zr rows p
 | []=>by
  show (Option.none.or (if q.1=p then some q.2 else none))=_
  rw [Option.none_or]
  rfl
 | r :: t=>by
  show (zr (t ++ [q]) p).or _=if q.1=p then some q.2 else (zr t p).or _
  rw [ko q p t]
  split
  ·rfl
  ·rfl
structure JH (tb:Pl→Int) (st:Sta) (s:RSt):Prop where
 sl:s.sl=st.sl
 sa:s.sa=st.sa
 wo:∀ p,(zr st.wo p).getD 0=(zr s.gi p).getD (tb p)
 no:∀ p w,zr s.no p=some w→w=tb p
def Sub (C:List Cs) (k:Nat) (D:List Cs):Prop:=∃ A B,C=A ++ (D ++ B)∧A.length=k
theorem Sub.get {C D:List Cs} {k i:Nat} {c:Cs} (h:Sub C k D) (e:D[i]?=some c):C[k + i]?=some c:=by
 obtain ⟨A,B,rfl,rfl⟩:=h
 have hi:=(bp.mp e).1
 rw [cW (by lia),mj,dm hi]
 exact e
theorem Sub.left {C D E:List Cs} {k:Nat} (h:Sub C k (D ++ E)):Sub C k D:=by
 obtain ⟨A,B,rfl,e⟩:=h
 exact ⟨A,E ++ B,by rw [cg],e⟩
theorem Sub.right {C D E:List Cs} {k:Nat} (h:Sub C k (D ++ E)):Sub C (k + D.length) E:=by
 obtain ⟨A,B,rfl,e⟩:=h
 exact ⟨A ++ D,B,by simp,by rw [bw,e]⟩
theorem Q4 {C:List Cs} {tb:Pl→Int} {s:RSt} {c:Cs} (hw:s.why=none) (hc:C[s.n]?=some c):j3 C tb s=zT c (match wd c s with | none=>0 | some p=>tb p) s:=by
 have hl:=(bp.mp hc).1
 have ho:¬ yh C s=true:=by unfold yh;rw [hw];simp;exact hl
 unfold j3 Xs xz vz
 rw [if_neg ho,if_neg ho,hc]
 rfl
def Comes (C:List Cs) (tb:Pl→Int) (s:RSt) (to:Nat):Res→Prop
 | .go st'=>∃ s',Rch C tb s s'∧s'.n=to∧s'.why=none∧JH tb st' s'
 | .off=>∃ s',Rch C tb s s'∧s'.why=some (bb "told")
 | .er e=>∃ s',Rch C tb s s'∧s'.why=some (We e)
theorem Comes.pre {C:List Cs} {tb:Pl→Int} {s s1:RSt} {to:Nat} {r:Res} (a:Rch C tb s s1) (h:Comes C tb s1 to r):Comes C tb s to r:=by
 cases r with
 | go st=>obtain ⟨s',b,c⟩:=h;exact ⟨s',a.trans b,c⟩
 | off=>obtain ⟨s',b,c⟩:=h;exact ⟨s',a.trans b,c⟩
 | er e=>obtain ⟨s',b,c⟩:=h;exact ⟨s',a.trans b,c⟩
theorem jF {C:List Cs} {tb:Pl→Int} {s:RSt} {st:Sta} {r:Rw} (nf:Jx r) (R:JH tb st s) (hw:s.why=none) (hc:C[s.n]?=some (.row r)):Comes C tb s (s.n + 1) (goR r st):=by
 have one:=Rch.one C tb s
 have ef:=Q4 (tb:=tb) hw hc
 rw [ef] at one
 have es:=R.sl
 cases r with
 | iff e a b=>exact nf.elim
 | take sh e x =>
  cases hk:rk s.sl e with
  | error er =>
   have g:goR (.take sh e x) st=.er er:=by rw [goR,← es,hk]
   rw [g]
   refine ⟨_,one,?_⟩
   simp [zT,yr,doR,hk]
  | ok n =>
   have g:goR (.take sh e x) st=.go { st with sl:=yB st.sl (.inr x) (.int ((zr st.wo (sh,n)).getD 0)) }:=by rw [goR,← es,hk]
   rw [g]
   have kn:∀ w,(zr s.gi (sh,n)=none→zr s.no (sh,n)=none→w=tb (sh,n))→wm (sh,n) w s=(zr st.wo (sh,n)).getD 0:=fun w h=>by
    rw [R.wo]
    unfold wm
    cases h1:zr s.gi (sh,n) with
    | some v=>rfl
    | none =>
     show (zr s.no (sh,n)).getD w=tb (sh,n)
     cases h2:zr s.no (sh,n) with
     | some v=>exact R.no _ _ h2
     | none=>exact h h1 h2
   refine ⟨_,one,?_⟩
   simp only [zT,yr,doR,wd,hk]
   by_cases hh:(zr s.gi (sh,n)).isSome=true∨(zr s.no (sh,n)).isSome=true
   ·rw [if_pos hh]
    have n0:yU (sh,n) 0 s=s:=if_pos hh
    rw [n0]
    refine ⟨trivial,hw,⟨?_,R.sa,R.wo,R.no⟩⟩
    show yB s.sl _ _=yB st.sl _ _
    rw [es,kn 0 (fun a b=>by rw [a,b] at hh;simp at hh)]
   ·rw [if_neg hh]
    have n0:yU (sh,n) (tb (sh,n)) s={ s with no:=s.no ++ [((sh,n),tb (sh,n))] }:=if_neg hh
    dsimp only
    simp only [n0]
    refine ⟨trivial,hw,⟨?_,R.sa,R.wo,fun p w h=>?_⟩⟩
    ·show yB s.sl _ _=yB st.sl _ _
     rw [es,kn _ (fun _ _=>rfl)]
    ·have h:zr (s.no ++ [((sh,n),tb (sh,n))]) p=some w:=h
     rw [ko] at h
     split at h
     ·rename_i z
      cases h
      exact congrArg tb z
     ·exact R.no p w h
 | give sh e f =>
  cases hk:rk s.sl e with
  | error er =>
   have g:goR (.give sh e f) st=.er er:=by rw [goR,← es,hk]
   rw [g]
   exact ⟨_,one,by simp [zT,yr,doR,hk]⟩
  | ok n =>
   cases hf:rk s.sl f with
   | error er =>
    have g:goR (.give sh e f) st=.er er:=by rw [goR,← es,hk];simp only [hf]
    rw [g]
    exact ⟨_,one,by simp [zT,yr,doR,hk,hf]⟩
   | ok w =>
    have g:goR (.give sh e f) st=.go { st with wo:=st.wo ++ [((sh,n),w)] }:=by rw [goR,← es,hk];simp only [hf]
    rw [g]
    refine ⟨_,one,?_⟩
    simp only [zT,yr,doR,hk,hf]
    refine ⟨trivial,hw,⟨es,R.sa,fun p=>?_,R.no⟩⟩
    show (zr (st.wo ++ [((sh,n),w)]) p).getD 0=(zr (s.gi ++ [((sh,n),w)]) p).getD (tb p)
    rw [ko,ko]
    split
    ·rfl
    ·exact R.wo p
 | lt x e =>
  cases hk:rk s.sl e with
  | error er =>
   have g:goR (.lt x e) st=.er er:=by rw [goR,← es,hk]
   rw [g]
   exact ⟨_,one,by simp [zT,yr,doR,hk]⟩
  | ok n =>
   have g:goR (.lt x e) st=.go { st with sl:=yB st.sl (.inr x) (.int n) }:=by rw [goR,← es,hk]
   rw [g]
   refine ⟨_,one,?_⟩
   simp only [zT,yr,doR,hk]
   exact ⟨trivial,hw,⟨by show yB s.sl _ _=yB st.sl _ _;rw [es],R.sa,R.wo,R.no⟩⟩
 | say e =>
  cases hk:rk s.sl e with
  | error er =>
   have g:goR (.say e) st=.er er:=by rw [goR,← es,hk]
   rw [g]
   exact ⟨_,one,by simp [zT,yr,doR,hk]⟩
  | ok n =>
   have g:goR (.say e) st=.go { st with sa:=st.sa ++ [n] }:=by rw [goR,← es,hk]
   rw [g]
   refine ⟨_,one,?_⟩
   simp only [zT,yr,doR,hk]
   exact ⟨trivial,hw,⟨es,by show s.sa ++ [n]=st.sa ++ [n];rw [R.sa],R.wo,R.no⟩⟩
 | off e =>
  cases hk:rk s.sl e with
  | error er =>
   have g:goR (.off e) st=.er er:=by rw [goR,← es,hk]
   rw [g]
   exact ⟨_,one,by simp [zT,yr,hk]⟩
  | ok n =>
   by_cases h0:n=0
   ·have g:goR (.off e) st=.go st:=by rw [goR,← es,hk];simp only [h0,if_true]
    rw [g]
    refine ⟨_,one,?_⟩
    simp only [zT,yr,hk,h0,if_true]
    exact ⟨trivial,hw,⟨es,R.sa,R.wo,R.no⟩⟩
   ·have g:goR (.off e) st=.off:=by rw [goR,← es,hk];simp only [h0,if_false]
    rw [g]
    refine ⟨_,one,?_⟩
    simp only [zT,yr,hk,h0,if_false]
theorem Wx {C:List Cs} {tb:Pl→Int} {s:RSt} {st:Sta} {e:List V} {to:Nat} (R:JH tb st s) (hw:s.why=none) (hc:C[s.n]?=some (.skip e to)):match rk st.sl e with | .ok i=>∃ s',Rch C tb s s'∧s'.n=(if i=0 then to else s.n + 1)∧s'.why=none∧JH tb st s' | .error er=>∃ s',Rch C tb s s'∧s'.why=some (We er):=by
 have one:=Rch.one C tb s
 have ef:=Q4 (tb:=tb) hw hc
 rw [ef] at one
 have es:=R.sl
 cases hk:rk st.sl e with
 | error er=>exact ⟨_,one,by simp [zT,yr,es,hk]⟩
 | ok i =>
  refine ⟨_,one,?_⟩
  simp only [zT,yr,es,hk]
  exact ⟨trivial,hw,⟨rfl,R.sa,R.wo,R.no⟩⟩
theorem zdd {C:List Cs} {tb:Pl→Int} {s:RSt} {st:Sta} {k:Nat} (R:JH tb st s) (hw:s.why=none) (hc:C[s.n]?=some (.go k)):∃ s',Rch C tb s s'∧s'.n=k∧s'.why=none∧JH tb st s':=by
 have one:=Rch.one C tb s
 have ef:=Q4 (tb:=tb) hw hc
 rw [ef] at one
 exact ⟨_,one,rfl,hw,⟨R.sl,R.sa,R.wo,R.no⟩⟩
mutual
theorem zde {C:List Cs} {tb:Pl→Int}:∀ (r:Rw) {s:RSt} {st:Sta},Sub C s.n (yw r s.n)→JH tb st s→s.why=none→Comes C tb s (s.n + (yw r s.n).length) (goR r st)
 | .take sh e x,s,st,hC,R,hw=>jF (r:=.take sh e x) trivial R hw (hC.get (i:=0) rfl)
 | .give sh e f,s,st,hC,R,hw=>jF (r:=.give sh e f) trivial R hw (hC.get (i:=0) rfl)
 | .lt x e,s,st,hC,R,hw=>jF (r:=.lt x e) trivial R hw (hC.get (i:=0) rfl)
 | .say e,s,st,hC,R,hw=>jF (r:=.say e) trivial R hw (hC.get (i:=0) rfl)
 | .off e,s,st,hC,R,hw=>jF (r:=.off e) trivial R hw (hC.get (i:=0) rfl)
 | .iff e a b,s,st,hC,R,hw=>by
  cases hb:Rws.isNil b with
  | true =>
   have ec:yw (.iff e a b) s.n=.skip e (s.n + 1 + (zm a (s.n + 1)).length) :: zm a (s.n + 1):=by rw [yw];unfold blk;rw [hb,if_pos rfl]
   rw [ec] at hC ⊢
   have b0:b=.nil:=by cases b with | nil=>rfl | cons _ _=>cases hb
   have sk:=Wx R hw (hC.get (i:=0) rfl)
   have hC2:Sub C (s.n + 1) (zm a (s.n + 1)):=Sub.right (D:=[.skip e _]) hC
   cases hk:rk st.sl e with
   | error er =>
    rw [hk] at sk
    have g:goR (.iff e a b) st=.er er:=by rw [goR,hk]
    rw [g]
    exact sk
   | ok i =>
    rw [hk] at sk
    obtain ⟨s1,r1,n1,w1,R1⟩:=sk
    by_cases h0:i=0
    ·have g:goR (.iff e a b) st=.go st:=by rw [goR,hk];simp only [h0,if_true,b0];rw [yH]
     rw [g]
     rw [if_pos h0] at n1
     exact ⟨s1,r1,by rw [n1];simp;lia,w1,R1⟩
    ·have g:goR (.iff e a b) st=yH a st:=by rw [goR,hk];simp only [h0,if_false]
     rw [g]
     rw [if_neg h0] at n1
     have:=jG a (C:=C) (tb:=tb) (s:=s1) (st:=st) (by rw [n1];exact hC2) R1 w1
     rw [n1] at this
     rw [show s.n + (Cs.skip e (s.n + 1 + (zm a (s.n + 1)).length) :: zm a (s.n + 1)).length=s.n + 1 + (zm a (s.n + 1)).length by simp;lia]
     exact this.pre r1
  | false =>
   have ec:yw (.iff e a b) s.n=.skip e (s.n + 2 + (zm a (s.n + 1)).length) :: (zm a (s.n + 1) ++ (.go (s.n + 2 + (zm a (s.n + 1)).length + (zm b (s.n + 2 + (zm a (s.n + 1)).length)).length) :: zm b (s.n + 2 + (zm a (s.n + 1)).length))):=by rw [yw];unfold blk;rw [hb,if_neg (by decide)]
   rw [ec] at hC ⊢
   have sk:=Wx R hw (hC.get (i:=0) rfl)
   have hC2:=Sub.right (D:=[.skip e _]) hC
   have hA:Sub C (s.n + 1) (zm a (s.n + 1)):=hC2.left
   have hG:=hC2.right
   have hB:=Sub.right (D:=[.go _]) hG
   have tot:s.n + (Cs.skip e (s.n + 2 + (zm a (s.n + 1)).length) :: (zm a (s.n + 1) ++ (Cs.go (s.n + 2 + (zm a (s.n + 1)).length + (zm b (s.n + 2 + (zm a (s.n + 1)).length)).length) :: zm b (s.n + 2 + (zm a (s.n + 1)).length)))).length=s.n + 2 + (zm a (s.n + 1)).length + (zm b (s.n + 2 + (zm a (s.n + 1)).length)).length:=by simp;lia
   rw [tot]
   have hB:Sub C (s.n + 2 + (zm a (s.n + 1)).length) (zm b (s.n + 2 + (zm a (s.n + 1)).length)):=by
    have e1:s.n + 1 + (zm a (s.n + 1)).length + 1=s.n + 2 + (zm a (s.n + 1)).length:=by lia
    rw [← e1]
    rw [← e1] at hB
    exact hB
   have hG1:=hG.get (i:=0) (c:=.go _) rfl
   cases hk:rk st.sl e with
   | error er =>
    rw [hk] at sk
    have g:goR (.iff e a b) st=.er er:=by rw [goR,hk]
    rw [g]
    exact sk
   | ok i =>
    rw [hk] at sk
    obtain ⟨s1,r1,n1,w1,R1⟩:=sk
    by_cases h0:i=0
    ·have g:goR (.iff e a b) st=yH b st:=by rw [goR,hk];simp only [h0,if_true]
     rw [g]
     rw [if_pos h0] at n1
     have:=jG b (C:=C) (tb:=tb) (s:=s1) (st:=st) (by rw [n1];exact hB) R1 w1
     rw [n1] at this
     exact this.pre r1
    ·have g:goR (.iff e a b) st=yH a st:=by rw [goR,hk];simp only [h0,if_false]
     rw [g]
     rw [if_neg h0] at n1
     have:=jG a (C:=C) (tb:=tb) (s:=s1) (st:=st) (by rw [n1];exact hA) R1 w1
     rw [n1] at this
     refine Comes.pre r1 ?_
     cases hg:yH a st with
     | go st2 =>
      rw [hg] at this
      obtain ⟨s2,r2,n2,w2,R2⟩:=this
      obtain ⟨s3,r3,n3,w3,R3⟩:=zdd R2 w2 (by rw [n2];exact hG1)
      exact ⟨s3,r2.trans r3,n3,w3,R3⟩
     | off=>rw [hg] at this;exact this
     | er er=>rw [hg] at this;exact this
theorem jG {C:List Cs} {tb:Pl→Int}:∀ (r:Rws) {s:RSt} {st:Sta},Sub C s.n (zm r s.n)→JH tb st s→s.why=none→Comes C tb s (s.n + (zm r s.n).length) (yH r st)
 | .nil,s,st,hC,R,hw=>by
  have e:zm .nil s.n=[]:=by rw [zm]
  have g:yH .nil st=.go st:=by rw [yH]
  rw [e,g]
  exact ⟨s,Rch.refl C tb s,rfl,hw,R⟩
 | .cons x r,s,st,hC,R,hw=>by
  have e:zm (.cons x r) s.n=yw x s.n ++ zm r (s.n + (yw x s.n).length):=by rw [zm]
  rw [e] at hC ⊢
  have h1:=zde x hC.left R hw
  cases hx:goR x st with
  | go st1 =>
   rw [hx] at h1
   have g:yH (.cons x r) st=yH r st1:=by rw [yH,hx]
   rw [g]
   obtain ⟨s1,r1,n1,w1,R1⟩:=h1
   have:=jG r (C:=C) (tb:=tb) (s:=s1) (st:=st1) (by rw [n1];exact hC.right) R1 w1
   rw [n1] at this
   rw [bw,← iG]
   exact this.pre r1
  | off =>
   rw [hx] at h1
   have g:yH (.cons x r) st=.off:=by rw [yH,hx]
   rw [g]
   exact h1
  | er er =>
   rw [hx] at h1
   have g:yH (.cons x r) st=.er er:=by rw [yH,hx]
   rw [g]
   exact h1
end
theorem Q5 {tb:Pl→Int} {r:Rws} {s:RSt} {st:Sta} (hn:s.n=0) (R:JH tb st s) (hw:s.why=none):Comes (zm r 0) tb s (zm r 0).length (yH r st):=by
 have:=jG (C:=zm r 0) (tb:=tb) r (s:=s) (st:=st) (by rw [hn];exact ⟨[],[],by simp,rfl⟩) R hw
 rw [hn,mP] at this
 exact this
theorem Wy {C:List Cs} {tb:Pl→Int} {s:RSt} (h:yh C s=true):∀ k,Jy C tb k s=s
 | 0=>rfl
 | k + 1=>by
  have e:j3 C tb s=s:=by unfold j3 xz;rw [if_pos h]
  show Jy C tb k (j3 C tb s)=s
  rw [e]
  exact Wy h k
theorem qN {C:List Cs} {tb:Pl→Int} {s a b:RSt} (ha:Rch C tb s a) (hb:Rch C tb s b) (oa:yh C a=true) (ob:yh C b=true):a=b:=by
 obtain ⟨j,rfl⟩:=ha
 obtain ⟨k,rfl⟩:=hb
 rcases Nat.le_total j k with h | h
 ·obtain ⟨d,rfl⟩:∃ d,k=j + d:=⟨k - j,by lia⟩
  rw [qM,Wy oa]
 ·obtain ⟨d,rfl⟩:∃ d,j=k + d:=⟨j - k,by lia⟩
  rw [qM,Wy ob]
theorem zfC {r:Rw} {w:Int} {s s':RSt} (h:doR r w s=.ok s'):s'.no=s.no∨∃ p,wd (.row r) s=some p∧s'.no=s.no ++ [(p,w)]:=by
 cases r with
 | take sh e x =>
  cases hk:rk s.sl e with
  | error er=>rw [doR,hk] at h;cases h
  | ok n =>
   rw [doR,hk] at h
   cases h
   by_cases hh:(zr s.gi (sh,n)).isSome=true∨(zr s.no (sh,n)).isSome=true
   ·refine .inl ?_
    show (yU (sh,n) w s).no=s.no
    rw [show yU (sh,n) w s=s from if_pos hh]
   ·refine .inr ⟨(sh,n),?_,?_⟩
    ·simp only [wd,hk]
     rw [if_neg hh]
    ·show (yU (sh,n) w s).no=s.no ++ [((sh,n),w)]
     rw [show yU (sh,n) w s={ s with no:=s.no ++ [((sh,n),w)] } from if_neg hh]
 | give sh e f =>
  cases hk:rk s.sl e with
  | error er=>rw [doR,hk] at h;cases h
  | ok n =>
   rw [doR,hk] at h
   dsimp only at h
   cases hf:rk s.sl f with
   | error er=>rw [hf] at h;cases h
   | ok i=>rw [hf] at h;cases h;exact .inl rfl
 | lt x e =>
  cases hk:rk s.sl e with
  | error er=>rw [doR,hk] at h;cases h
  | ok n=>rw [doR,hk] at h;cases h;exact .inl rfl
 | say e =>
  cases hk:rk s.sl e with
  | error er=>rw [doR,hk] at h;cases h
  | ok n=>rw [doR,hk] at h;cases h;exact .inl rfl
 | off e=>cases h;exact .inl rfl
 | iff e a b=>cases h;exact .inl rfl
theorem zeu {sh:Str} {e:List V} {x:Str} {w:Int} {s:RSt} {p:Pl} (h:wd (.row (.take sh e x)) s=some p):(zT (.row (.take sh e x)) w s).no=s.no ++ [(p,w)]:=by
 cases hk:rk s.sl e with
 | error er=>simp only [wd,hk] at h;cases h
 | ok n =>
  simp only [wd,hk] at h
  by_cases hh:(zr s.gi (sh,n)).isSome=true∨(zr s.no (sh,n)).isSome=true
  ·rw [if_pos hh] at h;cases h
  ·rw [if_neg hh] at h
   cases h
   simp only [zT,yr,doR,hk]
   show (yU (sh,n) w s).no=_
   rw [show yU (sh,n) w s={ s with no:=s.no ++ [((sh,n),w)] } from if_neg hh]
theorem zdf (c:Cs) (w:Int) (s:RSt):(wd c s=none∧(zT c w s).no=s.no)∨∃ p,wd c s=some p∧(zT c w s).no=s.no ++ [(p,w)]:=by
 cases ha:wd c s with
 | some p =>
  cases c with
  | row r =>
   cases r with
   | take sh e x=>exact .inr ⟨p,rfl,zeu ha⟩
   | _=>cases ha
  | _=>cases ha
 | none =>
  refine .inl ⟨rfl,?_⟩
  cases c with
  | go k=>rfl
  | skip e to =>
   simp only [zT,yr]
   cases rk s.sl e <;> rfl
  | row r =>
   have d:∀ s',doR r w s=.ok s'→s'.no=s.no:=fun s' h=>by
    rcases zfC h with z | ⟨p,z,_⟩
    ·exact z
    ·rw [ha] at z;cases z
   cases r with
   | off e =>
    simp only [zT,yr]
    cases rk s.sl e with
    | error er=>rfl
    | ok i=>dsimp only;split <;> rfl
   | take sh e x =>
    simp only [zT,yr]
    cases h:doR (.take sh e x) w s with
    | error er=>rfl
    | ok s'=>exact d s' h
   | give sh e f =>
    simp only [zT,yr]
    cases h:doR (.give sh e f) w s with
    | error er=>rfl
    | ok s'=>exact d s' h
   | lt x e =>
    simp only [zT,yr]
    cases h:doR (.lt x e) w s with
    | error er=>rfl
    | ok s'=>exact d s' h
   | say e =>
    simp only [zT,yr]
    cases h:doR (.say e) w s with
    | error er=>rfl
    | ok s'=>exact d s' h
   | iff e a b =>
    simp only [zT,yr]
    cases h:doR (.iff e a b) w s with
    | error er=>rfl
    | ok s'=>exact d s' h
theorem zfD (C:List Cs) (tb:Pl→Int) (s:RSt):(vz C s=none∧(j3 C tb s).no=s.no)∨∃ p,vz C s=some p∧(j3 C tb s).no=s.no ++ [(p,tb p)]:=by
 by_cases ho:yh C s=true
 ·refine .inl ⟨by unfold vz;rw [if_pos ho],?_⟩
  unfold j3 xz
  rw [if_pos ho]
 ·cases hc:C[s.n]? with
  | none =>
   refine .inl ⟨by unfold vz;rw [if_neg ho,hc];rfl,?_⟩
   unfold j3 xz
   rw [if_neg ho,hc]
  | some c =>
   have e:vz C s=wd c s:=by unfold vz;rw [if_neg ho,hc];rfl
   have f:j3 C tb s=zT c (Xs C tb s) s:=by unfold j3 xz;rw [if_neg ho,hc]
   rw [e,f]
   rcases zdf c (Xs C tb s) s with ⟨a,b⟩ | ⟨p,a,b⟩
   ·exact .inl ⟨a,b⟩
   ·refine .inr ⟨p,a,?_⟩
    rw [b]
    unfold Xs
    rw [e,a]
theorem zbz (c:Cs) (w:Int) (s:RSt):(zT c w s).gi.length + (zT c w s).no.length≤s.gi.length + s.no.length + 1:=by
 have z:s.gi.length + s.no.length≤s.gi.length + s.no.length + 1:=by lia
 cases c with
 | go k=>exact z
 | skip e to=>cases hk:rk s.sl e with
  | error x=>simp only [zT,yr,hk];exact z
  | ok i=>simp only [zT,yr,hk];exact z
 | row r =>
  cases r with
  | off e=>cases hk:rk s.sl e with
   | error x=>simp only [zT,yr,hk];exact z
   | ok i =>
    simp only [zT,yr,hk]
    split
    ·exact z
    ·exact z
  | iff e a b=>exact z
  | take sh e x=>cases hk:rk s.sl e with
   | error x=>simp only [zT,yr,doR,hk];exact z
   | ok i =>
    simp only [zT,yr,doR,hk]
    unfold yU
    split
    ·exact z
    ·show s.gi.length + (s.no ++ [((sh,i),w)]).length≤_
     rw [bw,dz];lia
  | give sh e f=>cases hk:rk s.sl e with
   | error x=>simp only [zT,yr,doR,hk];exact z
   | ok i=>cases hk2:rk s.sl f with
    | error x=>simp only [zT,yr,doR,hk,hk2];exact z
    | ok j =>
     simp only [zT,yr,doR,hk,hk2]
     rw [bw,dz];lia
  | lt x e=>cases hk:rk s.sl e with
   | error x=>simp only [zT,yr,doR,hk];exact z
   | ok i=>simp only [zT,yr,doR,hk];exact z
  | say e=>cases hk:rk s.sl e with
   | error x=>simp only [zT,yr,doR,hk];exact z
   | ok i=>simp only [zT,yr,doR,hk];exact z
theorem zev (C:List Cs) (tb:Pl→Int) (s:RSt):(j3 C tb s).gi.length + (j3 C tb s).no.length≤s.gi.length + s.no.length + 1:=by
 unfold j3 xz
 split
 ·lia
 ·split
  ·lia
  ·exact zbz ..
theorem rn0 {C:List Cs}:RnI C 0 st0:=⟨⟨(fun k v e=>by cases e),(fun r h=>nomatch h),(fun r h=>nomatch h),bu _,bu _,bu _,bu _,lq⟩,(fun r h=>nomatch h),(fun r h=>nomatch h),fun _=>b9 _,fun w z=>nomatch z⟩
structure FdS (t:Adr) (H0 H:Hp) (x:Addr) (a:RAd) (C:List Cs) (tb:Pl→Int) (k:Nat) (s:RSt):Prop where
 sm:Same H0 H
 R:RnAt t H x a C s
 I:RnI C k s
 rc:Jy C tb k st0=s
 fw:s.gi.length + s.no.length≤k
 le:k≤C.length
theorem FdS.same {H0 H':Hp} {x:Addr} {a:RAd} {C:List Cs} {tb:Pl→Int} {k:Nat} {s:RSt} (S:FdS t H0 H x a C tb k s) (h:Same H H'):FdS t H0 H' x a C tb k s:=⟨S.sm.trans h,S.R.same h,S.I,S.rc,S.fw,S.le⟩
def fdI (t:Adr) (H0:Hp) (l tl x:Addr) (a:RAd) (C:List Cs) (tb:Pl→Int) (m:Nat) (σ:St) (H:Hp):Prop:=∃ k s,m=C.length - k∧(∃ o,σ=[some (.ref l),some (.ref tl),some (.ref x),o])∧FdS t H0 H x a C tb k s
section
variable {l tl x:Addr} {a:RAd} {xs:List V} {C:List Cs} {rows:List Row} {H0:Hp}
theorem FdS.step {k:Nat} {s:RSt} {tb:Pl→Int} {H1 H2:Hp} (O:zcW C) (ow:∀ b,OwA x a b→H0 b=none) (S:FdS t H0 H1 x a C tb k s) (ho:yh C s=false) (hw:inW (Xs C tb s)=true) (k2:Kp x a H1 H2) (R2:RnAt t H2 x a C (xz C (Xs C tb s) s)):FdS t H0 H2 x a C tb (k + 1) (j3 C tb s):=by
 have no:¬ yh C s=true:=by rw [ho];decide
 have lt:=Yn no
 have wn:s.why=none:=by
  cases e:s.why with
  | none=>rfl
  | some v=>exact absurd (show yh C s=true by unfold yh;rw [e];rfl) no
 have:=S.I.at_ wn
 refine ⟨fun b o e=>k2 b o (fun y=>by rw [ow b (.inl y)] at e;cases e) (S.sm _ _ e),R2,zep O S.I ho hw,?_,?_,by lia⟩
 ·rw [qM,S.rc];rfl
 ·have:=zev C tb s
  have:=S.fw
  lia
end
theorem W1 {c j:Int} {a:Addr} {ws:List Str} (h1:0≤j) (h2:j≤800) (h3:NamesAt H a ws) (h4:ws.length=3) (q:∀ v H',lfV v→Same H H'→Q v H') :
  kc K t { nx:=fun _ H'=>Q .non H',rt:=Q } (L2.start ["cell","j","slots"] [.int c,.int j,.ref a]) H:=by
 simp only [kc,zl,yf,L2.start,zp,zE,zJ,tOp,zc,tC,zb,zi,zM,zq,zo,yn,rI,rI0,cC,bM,bP,bt,bd,bh,bi,exists_eq_left',V.int.injEq,V.ref.injEq,V.bl.injEq,bq,and_true,and_assoc,exists_and_left,bZ,bO,decide_eq_true_eq]
 refine ⟨by lia,by lia,fun r1 H1 a1 b1 s1=>⟨by decide,xm (fun _=>⟨by lia,by lia,fun r2 H2 a2 b2 s2=>⟨by decide,?_⟩⟩) fun _=>⟨h1,by lia,fun w H2 hw s2=>q _ _ (.inl ⟨w,rfl,hw⟩) (s1.trans s2)⟩⟩⟩
 obtain ⟨x,hx,_,hn⟩:=Ys h3 3 h4 (by decide) r2
 have S:=s1.trans s2
 exact ⟨_,SqL.of (S _ _ h3.1),_,hx,q _ _ (.inr ⟨x,rfl,hn⟩) S⟩
def tw:List V:=[V.str (bb "plus"),V.str (bb "minus"),V.str (bb "times"),V.str (bb "over"),V.str (bb "rest"),V.str (bb "under"),V.str (bb "same"),V.str (bb "plus"),V.str (bb "times"),V.str (bb "minus")]
theorem zdg (r:Int):∃ w:Str,atI tw (r % 10)=some (.str w)∧wdJ w:=by
 obtain ⟨x,hx,hm⟩:=QV r 10 (xs:=tw) rfl (by decide)
 unfold tw at hm
 simp only [bN,gh,or_false] at hm
 rcases hm with rfl | rfl | rfl | rfl | rfl | rfl | rfl | rfl | rfl | rfl <;> exact ⟨_,hx,by decide +kernel,by decide +kernel,by decide +kernel⟩
theorem zbA {c j:Int} {a l:Addr} {ws:List Str} {u v:V} {x:Str} {Hb:Hp} (h1:0≤j) (h2:j≤700) (hl:H l=some (.lst tw)) (hu:lfV u) (hv:lfV v) (jx:wdJ x) (sb:Same Hb H) (q:∀ p e H',Same Hb H'→Hb p=none→H' p=some (.tup e)→TermOk e→tmP e→Q (.ref p) H') :
  vI K t { nx:=fun _ H'=>Q .non H',rt:=Q } [some (.int c),some (.int j),some (.ref a),some (.ref l),some (.str x),some u,some v,none] H:=by
 simp only [vI,zl,yf,zp,zV,zw,zE,zJ,tOp,zc,tC,yx,zb,zi,zM,zq,zo,yn,rEq,rI,rI0,kH,bP,bt,bd,bh,bi,exists_eq_left',V.int.injEq,V.ref.injEq,V.bl.injEq,bq,and_true,true_and,and_assoc,exists_and_left,bE,bI,bO,decide_eq_true_eq]
 obtain ⟨t1,p1⟩:=qL hu
 obtain ⟨t2,p2⟩:=qL hv
 refine ⟨h1,by lia,fun r1 H1 _ _ s1=>⟨by decide,xm (fun _=>⟨by decide,fun p hp=>?_⟩) fun _=>xm (fun _=>⟨by decide,fun p hp=>?_⟩) fun _=>xm (fun _=>⟨by lia,by lia,fun n H2 hn s2=>⟨by lia,by lia,fun r3 H3 _ _ s3=>⟨by decide,?_⟩⟩⟩) fun _=>⟨by lia,by lia,fun n H2 hn s2=>⟨by lia,by lia,fun r3 H3 _ _ s3=>⟨by decide,?_⟩⟩⟩⟩⟩
 ·have S:=sb.trans s1
  exact q p [u] _ (S.trans (isV p hp)) (zA S hp) zf t1 p1
 ·have S:=sb.trans s1
  exact q p ([u] ++ [v] ++ [.str x]) _ (S.trans (isV p hp)) (zA S hp) zf (xU t1 t2 jx (by simp)) (v3 p1 p2 jx)
 ·obtain ⟨y,hy,jy⟩:=zdg r3
  have T:=s1.trans (s2.trans s3)
  refine ⟨_,SqL.of (T _ _ hl),_,hy,by decide,fun p hp=>?_⟩
  have S:=sb.trans T
  obtain ⟨t3,p3⟩:=qL (u:=.int n) (.inl ⟨n,rfl,hn⟩)
  exact q p (([u] ++ [v] ++ [.str x]) ++ [.int n] ++ [.str y]) _ (S.trans (isV p hp)) (zA S hp) zf (xU (xU t1 t2 jx (by simp)) t3 jy (by simp)) (v3 (v3 p1 p2 jx) p3 jy)
 ·obtain ⟨y,hy,jy⟩:=zdg r3
  have T:=s1.trans (s2.trans s3)
  refine ⟨_,SqL.of (T _ _ hl),_,hy,by decide,fun p hp=>?_⟩
  have S:=sb.trans T
  obtain ⟨t3,p3⟩:=qL (u:=.int n) (.inl ⟨n,rfl,hn⟩)
  exact q p ([u] ++ ([.int n] ++ [v] ++ [.str y]) ++ [.str x]) _ (S.trans (isV p hp)) (zA S hp) zf (xU t1 (xU t3 t2 jy (by simp)) jx (by simp)) (v3 p1 (v3 p3 p2 jy) jx)
theorem W4 {c j:Int} {a:Addr} {ws:List Str} (h1:0≤j) (h2:j≤700) (h3:NamesAt H a ws) (h4:ws.length=3) (q:∀ p e H',Same H H'→H p=none→H' p=some (.tup e)→TermOk e→tmP e→Q (.ref p) H') :
  ke K t { nx:=fun _ H'=>Q .non H',rt:=Q } (L2.start ["cell","j","slots","words","word","one","two","kind"] [.int c,.int j,.ref a]) H:=by
 simp only [ke,zl,ve,L2.start,zp,zV,zw,tOp,zc,tC,xo,zb,zi,zo,yn,rI,rI0,cC,bM,bP,cb,cj,bt,bd,bh,bi,exists_eq_left',V.int.injEq,V.ref.injEq,bq,and_true,and_assoc,exists_and_left,bE,bI,bZ,bO]
 refine ⟨by decide,fun l hl=>⟨by lia,by lia,fun r1 H1 _ _ s1=>⟨by decide,?_⟩⟩⟩
 have s0:=isV (o:=HO.lst tw) l hl
 have e0:upd H l (HO.lst tw) l=some (.lst tw):=zf
 obtain ⟨x,hx,jx⟩:=zdg r1
 refine ⟨tw,SqL.of (s1 _ _ e0),_,hx,by lia,by lia,ws,h3.same (s0.trans s1),h4,fun u H2 hu s2=>⟨by lia,by lia,ws,h3.same (s0.trans (s1.trans s2)),h4,fun v H3 hv s3=>?_⟩⟩
 exact zbA (ws:=ws) h1 h2 ((s1.trans (s2.trans s3)) _ _ e0) hu hv jx (s0.trans (s1.trans (s2.trans s3))) q
theorem W5 {c j:Int} {a:Addr} {ws:List Str} (h1:0≤j) (h2:j≤600) (h3:NamesAt H a ws) (h4:ws.length=3) (q:∀ p e H',Same H H'→H p=none→H' p=some (.tup e)→TermOk e→tmP e→Q (.ref p) H') :
  kg K t { nx:=fun _ H'=>Q .non H',rt:=Q } (L2.start ["cell","j","slots"] [.int c,.int j,.ref a]) H:=by
 simp only [kg,zl,yM,L2.start,zp,zE,zJ,tOp,zc,tC,yx,zb,zi,zM,zq,zo,rEq,rI,rI0,kH,cC,bM,bP,bt,bd,bh,bi,exists_eq_left',V.int.injEq,V.ref.injEq,V.bl.injEq,bq,and_true,true_and,and_assoc,exists_and_left,bZ,bO,decide_eq_true_eq]
 refine ⟨h1,by lia,fun r1 H1 a1 b1 s1=>⟨by decide,xm (fun _=>⟨by lia,by lia,ws,h3.same s1,h4,fun p e H2 s2 fp hp te pe=>q p e H2 (s1.trans s2) (zA s1 fp) hp te pe⟩) fun _=>⟨by lia,by lia,fun r2 H2 a2 b2 s2=>⟨by decide,by decide,fun p hp=>?_⟩⟩⟩⟩
 have S:=s1.trans s2
 have lf:lfV (.int (r2 % 4 - 1)):=.inl ⟨_,rfl,inW_iff.mpr (by lia)⟩
 exact q p _ _ (S.trans (isV p hp)) (zA S hp) zf (qL lf).1 (qL lf).2
theorem zfE {x y:V} (r:Int):∃ z,atI [x,y] (1 - r % 2)=some z∧(z=x∨z=y):=by
 have h:r % 2=0∨r % 2=1:=by lia
 rcases h with h | h
 ·rw [h];exact ⟨y,rfl,.inr rfl⟩
 ·rw [h];exact ⟨x,rfl,.inl rfl⟩
section
variable {c kd:Int} {a b:Addr} {ws:List Str} {sh sl:Str} {Hb:Hp}
theorem Qa {o:Option V} (h3:NamesAt H a ws) (h4:ws.length=3) (S:Same Hb H) (q:∀ v r H',Same Hb H'→RwAt (fun b=>Hb b=none) H' v r→rwV r→Q v H') :
  Zq K t { nx:=fun _ H'=>Q .non H',rt:=Q } [some (.int c),some (.ref a),some (.ref b),some (.int kd),some (.str sh),some (.str sl),o] H:=by
 refine ⟨_,rfl,_,rfl,c,80,a,ws,rfl,by decide,by decide,h3,h4,fun p e H2 s1 fp hp te pe=>⟨by show (2:Nat)≤sizeLine;decide,fun r hr=>?_⟩⟩
 have T:=S.trans s1
 exact q _ (.say e) _ (T.trans (isV r hr)) ⟨r,p,rfl,zA T hr,zA S fp,zf,isV r hr _ _ hp⟩ ⟨trivial,pe,te,by unfold Xl;trivial⟩
theorem zdh (h3:NamesAt H a ws) (h4:ws.length=3) (nsh:xC sh=true) (nsl:xC sl=true) (S:Same Hb H)
  (q:∀ v r H',Same Hb H'→RwAt (fun b=>Hb b=none) H' v r→rwV r→Q v H') :
  Zs K t { nx:=fun _ H'=>Q .non H',rt:=Q } [some (.int c),some (.ref a),some (.ref b),some (.int kd),some (.str sh),some (.str sl),none] H:=by
 have inn:∀ {e f:List V},Xl nmP (.give sh e f):=fun {e f}=>by unfold Xl;exact fun _ _ _=>nsh
 obtain ⟨ts,ps⟩:=qL (u:=.str sl) (.inr ⟨sl,rfl,nsl⟩)
 refine zf1 rfl (fun _=>⟨_,rfl,_,rfl,_,rfl,c,20,a,ws,rfl,by decide,by decide,h3,h4,fun p e H1 s1 fp hp te pe=>⟨_,rfl,by show (4:Nat)≤sizeLine;decide,fun r hr=>?_⟩⟩) fun _=>?_
 ·have T:=S.trans s1
  exact q _ (.take sh e sl) _ (T.trans (isV r hr)) ⟨r,p,rfl,zA T hr,zA S fp,zf,isV r hr _ _ hp⟩ ⟨trivial,⟨kj nsh,pe,kj nsl⟩,te,by unfold Xl;trivial⟩
 refine zf1 rfl (fun _=>⟨_,rfl,_,rfl,_,rfl,c,20,a,ws,rfl,by decide,by decide,h3,h4,fun p e H1 s1 fp hp te pe=>⟨_,rfl,_,rfl,c,80,a,ws,rfl,by decide,by decide,h3.same s1,h4,fun p2 f H2 s2 fp2 hp2 tf pf=>⟨by show (4:Nat)≤sizeLine;decide,fun r hr=>?_⟩⟩⟩) fun _=>?_
 ·have T:=S.trans (s1.trans s2)
  exact q _ (.give sh e f) _ (T.trans (isV r hr)) ⟨r,p,p2,rfl,zA T hr,zA S fp,zA (S.trans s1) fp2,zf,(s2.trans (isV r hr)) _ _ hp,isV r hr _ _ hp2⟩ ⟨trivial,⟨kj nsh,pe,pf⟩,⟨te,tf⟩,inn⟩
 refine zeO rfl (fun _=>⟨_,rfl,_,rfl,_,rfl,c,80,a,ws,rfl,by decide,by decide,h3,h4,fun p e H1 s1 fp hp te pe=>⟨by show (3:Nat)≤sizeLine;decide,fun r hr=>?_⟩⟩) fun _=>?_
 ·have T:=S.trans s1
  exact q _ (.lt sl e) _ (T.trans (isV r hr)) ⟨r,p,rfl,zA T hr,zA S fp,zf,isV r hr _ _ hp⟩ ⟨trivial,⟨kj nsl,pe⟩,te,by unfold Xl;trivial⟩
 refine zeO rfl (fun _=>⟨_,rfl,_,rfl,c,81,rfl,by decide,by decide,fun w H2 hw s2=>⟨by show (3:Nat)≤sizeLine;decide,fun p hp=>⟨by show (2:Nat)≤sizeLine;decide,fun r hr=>?_⟩⟩⟩) fun _=>?_
 ·have T:=S.trans s2
  have s3:=isV (o:=HO.tup [V.str sl,V.int w,V.str (bb "same")]) p hp
  have jw:wdJ (bb "same"):=⟨by decide +kernel,by decide +kernel,by decide +kernel⟩
  obtain ⟨t2,p2⟩:=qL (u:=.int w) (.inl ⟨w,rfl,hw⟩)
  exact q _ (.off ([.str sl] ++ [.int w] ++ [.str (bb "same")])) _ (T.trans (s3.trans (isV r hr))) ⟨r,p,rfl,zA (T.trans s3) hr,zA T hp,zf,isV r hr _ _ zf⟩ ⟨trivial,(by unfold xZ;exact v3 ps p2 jw),(by unfold xG;exact xU ts t2 jw (by simp)),by unfold Xl;trivial⟩
 simp only [Zr,zl,zp,zJ,tOp,zc,tC,zb,zi,zM,ZZ,zq,zo,rEq,rI,kH,bt,bd,bh,bi,exists_eq_left',V.int.injEq,V.bl.injEq,bq,and_true,true_and,and_assoc,exists_and_left,decide_eq_true_eq,cr,ite_false]
 refine xm (fun _=>⟨by decide,by decide,fun r1 H1 _ _ s1=>⟨by decide,xm (fun _=>?_) fun _=>Qa (h3.same s1) h4 (S.trans s1) q⟩⟩) fun _=>Qa h3 h4 S q
 simp only [Zo,zl,zp,zV,zw,zE,tOp,zc,tC,xo,yx,zb,zi,zo,yn,rI,rI0,bP,bt,bd,bh,bi,exists_eq_left',V.int.injEq,V.ref.injEq,bq,and_true,and_assoc,exists_and_left,bE,bI,bO,mR,fT]
 refine ⟨by decide,fun l0 hl0=>⟨by decide,by decide,fun r2 H2 _ _ s2=>⟨by decide,?_⟩⟩⟩
 have s0:=isV (o:=HO.lst [V.str (bb "over"),V.str (bb "rest")]) l0 hl0
 obtain ⟨z,hz,mz⟩:=zeR (x:=V.str (bb "over")) (y:=V.str (bb "rest")) r2
 obtain ⟨y,rfl,jy⟩:∃ y:Str,z=.str y∧wdJ y:=by rcases mz with rfl | rfl <;> exact ⟨_,rfl,by decide +kernel,by decide +kernel,by decide +kernel⟩
 refine ⟨_,SqL.of (s2 _ _ zf),_,hz,by decide,fun p1 hp1=>⟨KR (j:=30) (by decide) (by decide),by decide,fun p2 hp2=>⟨by decide,fun l hl=>⟨by decide,by decide,fun r3 H3 _ _ s6=>⟨by decide,?_⟩⟩⟩⟩⟩
 have s3:=isV (o:=HO.tup [V.str sl,V.int 0,V.str y]) p1 hp1
 have e3:upd H2 p1 (HO.tup [V.str sl,V.int 0,V.str y]) p1=some (.tup [V.str sl,V.int 0,V.str y]):=zf
 generalize upd H2 p1 (HO.tup [V.str sl,V.int 0,V.str y])=H4 at *
 have s4:=isV (o:=HO.tup [V.int 1000000000000000000000000000000,V.int 1,V.str (bb "plus")]) p2 hp2
 have e4:upd H4 p2 (HO.tup [V.int 1000000000000000000000000000000,V.int 1,V.str (bb "plus")]) p2=some (.tup [V.int 1000000000000000000000000000000,V.int 1,V.str (bb "plus")]):=zf
 generalize upd H4 p2 (HO.tup [V.int 1000000000000000000000000000000,V.int 1,V.str (bb "plus")])=H5 at *
 have s5:=isV (o:=HO.lst [V.ref p1,V.ref p2]) l hl
 have e5:upd H5 l (HO.lst [V.ref p1,V.ref p2]) l=some (.lst [V.ref p1,V.ref p2]):=zf
 generalize upd H5 l (HO.lst [V.ref p1,V.ref p2])=H6 at *
 obtain ⟨z1,hz1,m1⟩:=zeR (x:=V.ref p1) (y:=V.ref p2) r3
 refine ⟨_,SqL.of (s6 _ _ e5),_,hz1,by decide,by decide,fun r4 H7 _ _ s7=>⟨by decide,?_⟩⟩
 obtain ⟨z2,hz2,m2⟩:=zfE (x:=V.ref p1) (y:=V.ref p2) r4
 refine ⟨_,SqL.of (s7 _ _ (s6 _ _ e5)),_,hz2,by decide,fun r hr=>?_⟩
 have U2:=S.trans (s1.trans (s0.trans s2))
 have U7:=s5.trans (s6.trans s7)
 have U:=U2.trans (s3.trans (s4.trans U7))
 have jp:wdJ (bb "plus"):=⟨by decide +kernel,by decide +kernel,by decide +kernel⟩
 obtain ⟨t0,q0⟩:=qL (u:=.int 0) (.inl ⟨0,rfl,by decide +kernel⟩)
 obtain ⟨tm,qm⟩:=qL (u:=.int 1000000000000000000000000000000) (.inl ⟨_,rfl,by decide +kernel⟩)
 obtain ⟨t1,q1⟩:=qL (u:=.int 1) (.inl ⟨1,rfl,by decide +kernel⟩)
 have f1:Hb p1=none:=zA U2 hp1
 have f2:Hb p2=none:=zA (U2.trans s3) hp2
 have both:∀ {z:V},(z=.ref p1∨z=.ref p2)→∃ p e,z=.ref p∧Hb p=none∧H7 p=some (.tup e)∧TermOk e∧tmP e:=fun h=>by
  rcases h with rfl | rfl
  ·exact ⟨p1,[.str sl] ++ [.int 0] ++ [.str y],rfl,f1,(s4.trans U7) _ _ e3,xU ts t0 jy (by simp),v3 ps q0 jy⟩
  ·exact ⟨p2,[.int 1000000000000000000000000000000] ++ [.int 1] ++ [.str (bb "plus")],rfl,f2,U7 _ _ e4,xU tm t1 jp (by simp),v3 qm q1 jp⟩
 obtain ⟨pa,e,rfl,ga,ha,ta,oa⟩:=both m1
 obtain ⟨pb,f,rfl,gb,hb,tb,ob⟩:=both m2
 exact q _ (.give sh e f) _ (U.trans (isV r hr)) ⟨r,pa,pb,rfl,zA U hr,ga,gb,zf,isV r hr _ _ ha,isV r hr _ _ hb⟩ ⟨trivial,⟨kj nsh,oa,ob⟩,⟨ta,tb⟩,inn⟩
end
theorem JI {c:Int} {a b:Addr} {ws us:List Str} (h1:NamesAt H a ws) (h2:ws.length=3) (h3:NamesAt H b us) (h4:us.length=3) (q:∀ v r H',Same H H'→RwAt (fun b=>H b=none) H' v r→rwV r→Q v H') :
  qI K t { nx:=fun _ H'=>Q .non H',rt:=Q } (L2.start ["cell","slots","shelves","kind","shelf","slot","bad"] [.int c,.ref a,.ref b]) H:=by
 simp only [qI,zl,L2.start,zp,zV,zw,tOp,zc,tC,zb,zi,zo,yn,rI,cC,bM,bP,cb,cj,bt,bd,bh,bi,exists_eq_left',V.int.injEq,V.ref.injEq,bq,and_true,and_assoc,exists_and_left,bE,bI,bZ,bO]
 refine ⟨by decide,by decide,fun r1 H1 a1 b1 s1=>⟨by decide,by decide,by decide,fun r2 H2 a2 b2 s2=>⟨by decide,?_⟩⟩⟩
 obtain ⟨x,hx,_,nx⟩:=Ys (h3.same (s1.trans s2)) 3 h4 (by decide) r2
 refine ⟨_,SqL.of ((s1.trans s2) _ _ h3.1),_,hx,by decide,by decide,fun r3 H3 a3 b3 s3=>⟨by decide,?_⟩⟩
 have S:=s1.trans (s2.trans s3)
 obtain ⟨y,hy,_,ny⟩:=Ys (h1.same S) 3 h2 (by decide) r3
 exact ⟨_,SqL.of (S _ _ h1.1),_,hy,zdh (h1.same S) h2 nx ny S q⟩
theorem FsAt.to {F G:Addr→Prop} {H H':Hp} (g:∀ b o,F b→H b=some o→G b) (s:∀ b o,F b→H b=some o→H' b=some o):∀ (gs:List Gm) {fs:List V} {sp:List Addr},(∀ a∈sp,∀ o,H a=some o→H' a=some o)→FsAt F H gs fs sp→FsAt G H' gs fs sp
 | [],fs,sp,p,h=>h
 | m :: gs,fs,sp,p,h=>by
  obtain ⟨f,tv,fi,c,xs,fs',sp',e1,e2,h1,h2,h3,h4,h5,h6⟩:=h
  subst e2
  refine ⟨f,tv,fi,c,xs,fs',sp',e1,rfl,p f (by simp) _ h1,p c (by simp) _ h2,RwsAt.to _ g s h3,fun n=>?_,?_,FsAt.to g s gs (fun a ha=>p a (by simp [ha])) h6⟩
  ·obtain ⟨te,a1,a2,a3,a4⟩:=h4 n
   exact ⟨te,a1,g _ _ a2 a3,s _ _ a2 a3,a4⟩
  ·rcases h5 with h5 | ⟨a,ys,A,a1,a2,a3,a4,a5⟩
   ·exact .inl h5
   ·exact .inr ⟨a,ys,A,a1,a2,g _ _ a3 a4,s _ _ a3 a4,RwsAt.to _ g s a5⟩
theorem FsAt.alive {F:Addr→Prop} {H:Hp}:∀ (gs:List Gm) {fs:List V} {sp:List Addr},FsAt F H gs fs sp→∀ a∈sp,∃ o,H a=some o
 | [],fs,sp,h,a,ha=>by rw [h.2] at ha;cases ha
 | m :: gs,fs,sp,h,a,ha=>by
  obtain ⟨f,tv,fi,c,xs,fs',sp',e1,e2,h1,h2,h3,h4,h5,h6⟩:=h
  subst e2
  simp only [bN] at ha
  rcases ha with rfl | rfl | ha
  ·exact ⟨_,h1⟩
  ·exact ⟨_,h2⟩
  ·exact FsAt.alive gs h6 a ha
theorem FsAt.len {F:Addr→Prop} {H:Hp}:∀ (gs:List Gm) {fs:List V} {sp:List Addr},FsAt F H gs fs sp→fs.length=gs.length
 | [],fs,sp,h=>by rw [h.1];rfl
 | m :: gs,fs,sp,h=>by
  obtain ⟨f,tv,fi,c,xs,fs',sp',e1,e2,h1,h2,h3,h4,h5,h6⟩:=h
  rw [e1,ck,ck,FsAt.len gs h6]
theorem FZ.same {H0 H H':Hp} {FR:Addr} {gs:List Gm} {fs:List V} {sp:List Addr} (Z:FZ H0 H FR gs fs sp) (s:Same H H'):FZ H0 H' FR gs fs sp :=
 ⟨Z.sm.trans s,s _ _ Z.hf,FsAt.to (fun _ _ f _=>f) (fun _ _ _ e=>s _ _ e) gs (fun _ _ _ e=>s _ _ e) Z.fa,Z.nd,Z.nf,Z.fr,Z.f0⟩
theorem ZY {α:Type} {xs:List α} {a:α}:atI (xs ++ [a]) (-1)=some a:=by
 unfold atI ixN
 rw [if_neg (by decide),if_pos (by simp;lia)]
 have e:(-1 + ((xs ++ [a]).length:Int)).toNat=xs.length:=by simp;lia
 rw [e]
 simp
theorem FZ.push {H0 H:Hp} {FR c:Addr} {g:Gm} {gs:List Gm} {fs:List V} {sp:List Addr} {xs:List V} {v:V} {r:Rw} {f:Addr} {tv fi:V} {fs':List V} {sp':List Addr} (Z:FZ H0 H FR (g :: gs) fs sp) (e1:fs=.ref f :: fs') (e2:sp=f :: c :: sp') (h1:H f=some (.lst [tv,fi,.ref c])) (h2:H c=some (.lst xs)) (hv:RwAt (Fz H0 sp FR) H v r):FZ H0 (upd H c (.lst (xs ++ [v]))) FR ({ g with D:=g.D.snoc r } :: gs) fs sp:=by
 have fa:=Z.fa
 obtain ⟨f',tv',fi',c',xs',fs1,sp1,e1',e2',h1',h2',h3,h4,h5,h6⟩:=fa
 have nd:=Z.nd
 have ec:c∈sp:=by rw [e2];simp
 subst e1
 subst e2
 obtain ⟨rfl,rfl⟩:f=f'∧fs'=fs1:=by injection e1' with a b;exact ⟨V.ref.inj a,b⟩
 obtain ⟨_,rfl,rfl⟩:f=f∧c=c'∧sp'=sp1:=by injection e2' with a b;injection b with b d;exact ⟨rfl,b,d⟩
 rw [h1] at h1'
 cases h1'
 rw [h2] at h2'
 cases h2'
 rw [cu,cu] at nd
 obtain ⟨n1,n2,n3⟩:=nd
 have nfc:f≠c:=fun z=>n1 (by simp [z])
 have s:∀ b o,Fz H0 (f :: c :: sp') FR b→H b=some o→upd H c (.lst (xs ++ [v])) b=some o:=fun b o fz e=>by rw [zj (fun z=>fz.1 (by simp [z]))];exact e
 refine ⟨z8 Z.sm (Z.fr c ec),by rw [zj (fun z=>Z.nf (by rw [z];exact ec))];exact Z.hf,?_,Z.nd,Z.nf,Z.fr,Z.f0⟩
 refine ⟨f,tv,fi,c,xs ++ [v],fs',sp',rfl,rfl,by rw [zj nfc];exact h1,zf,RwsAt.snoc (hv.to r (fun _ _ f _=>f) s) g.D (RwsAt.to _ (fun _ _ f _=>f) s h3),fun n=>?_,?_,FsAt.to (fun _ _ f _=>f) s gs (fun a ha o e=>by rw [zj (fun z=>n2 (by rw [← z];exact ha))];exact e) h6⟩
 ·obtain ⟨te,a1,a2,a3,a4⟩:=h4 n
  exact ⟨te,a1,a2,s _ _ a2 a3,a4⟩
 ·rcases h5 with h5 | ⟨a,ys,A,a1,a2,a3,a4,a5⟩
  ·exact .inl h5
  ·exact .inr ⟨a,ys,A,a1,a2,a3,s _ _ a3 a4,RwsAt.to _ (fun _ _ f _=>f) s a5⟩
theorem FZ.pop {H0 H:Hp} {FR:Addr} {g h:Gm} {gs:List Gm} {fs:List V} {sp:List Addr} (Z:FZ H0 H FR (g :: h :: gs) fs sp):∃ f te fi c xs fs' sp',fs=.ref f :: fs'∧sp=f :: c :: sp'∧FZ H0 (upd H FR (.lst fs'.reverse)) FR (h :: gs) fs' sp'∧upd H FR (.lst fs'.reverse) f=some (.lst [.ref te,fi,.ref c])∧upd H FR (.lst fs'.reverse) te=some (.tup g.e)∧tmP g.e∧Fz H0 sp' FR te∧Fz H0 sp' FR c∧upd H FR (.lst fs'.reverse) c=some (.lst xs)∧RwsAt (Fz H0 sp' FR) (upd H FR (.lst fs'.reverse)) xs g.D∧((g.a=none∧fi=.non)∨∃ a ys A,g.a=some A∧fi=.ref a∧Fz H0 sp' FR a∧upd H FR (.lst fs'.reverse) a=some (.lst ys)∧RwsAt (Fz H0 sp' FR) (upd H FR (.lst fs'.reverse)) ys A):=by
 have fa:=Z.fa
 obtain ⟨f,tv,fi,c,xs,fs',sp',e1,e2,h1,h2,h3,h4,h5,h6⟩:=fa
 have nd:=Z.nd
 have fr:=Z.fr
 have nf:=Z.nf
 subst e2
 rw [cu,cu] at nd
 obtain ⟨n1,n2,n3⟩:=nd
 obtain ⟨te,rfl,a2,a3,a4⟩:=h4 (by simp)
 have g':∀ b o,Fz H0 (f :: c :: sp') FR b→H b=some o→Fz H0 sp' FR b:=fun b o fz _=>⟨fun z=>fz.1 (by simp [z]),fz.2⟩
 have s:∀ b o,Fz H0 (f :: c :: sp') FR b→H b=some o→upd H FR (.lst fs'.reverse) b=some o:=fun b o fz e=>by rw [zj fz.2.1];exact e
 have p:∀ a∈f :: c :: sp',∀ o,H a=some o→upd H FR (.lst fs'.reverse) a=some o:=fun a ha o e=>by rw [zj (fun z=>nf (by rw [← z];exact ha))];exact e
 refine ⟨f,te,fi,c,xs,fs',sp',e1,rfl,⟨z8 Z.sm Z.f0,zf,FsAt.to g' s _ (fun a ha=>p a (by simp [ha])) h6,n3,fun z=>nf (by simp [z]),fun a ha=>fr a (by simp [ha]),Z.f0⟩,p f (by simp) _ h1,s _ _ a2 a3,a4,g' _ _ a2 a3,⟨n2,fun z=>nf (by simp [← z]),fr c (by simp)⟩,p c (by simp) _ h2,RwsAt.to _ g' s h3,?_⟩
 rcases h5 with h5 | ⟨a,ys,A,b1,b2,b3,b4,b5⟩
 ·exact .inl h5
 ·exact .inr ⟨a,ys,A,b1,b2,g' _ _ b3 b4,s _ _ b3 b4,RwsAt.to _ g' s b5⟩
theorem XD {FR:Addr} {H0:Hp} {g h:Gm} {gs:List Gm} {fs:List V} {sp:List Addr} (Z:FZ H0 H FR (g :: h :: gs) fs sp) (hc:h.D.cnt≤500) (q:∀ fs' sp' H',FZ H0 H' FR (ZR g h :: gs) fs' sp'→Q .non H') :
  qH K t { nx:=fun _ H'=>Q .non H',rt:=Q } (L2.start ["frames","frame"] [.ref FR]) H:=by
 have hf:=Z.hf
 obtain ⟨f,te,fi,c,xs,fs1,sp1,e1,e2,Z1,h1,h2,h3,h4,h5,h6,h7,h8⟩:=Z.pop
 have er:fs.reverse=fs1.reverse ++ [.ref f]:=by rw [e1,dY]
 rw [er] at hf
 refine ⟨_,rfl,.inl ⟨rfl,_,SqL.of hf⟩,FR,fs1.reverse ++ [.ref f],.ref f,rfl,rfl,hf,Wp,?_⟩
 rw [Zb]
 obtain ⟨f2,tv2,fi2,c2,xs2,fs2,sp2,d1,d2,k1,k2,k3,k4,k5,k6⟩:=Z1.fa
 have hF1:=Z1.hf
 have er1:fs1.reverse=fs2.reverse ++ [.ref f2]:=by rw [d1,dY]
 generalize upd H FR (HO.lst fs1.reverse)=H1 at *
 rw [er1] at hF1
 have lx:xs2.length < sizeLine:=by
  have:=RwsAt.len h.D k3
  exact bY (by lia:_≤900) (by decide)
 refine ⟨_,rfl,f,_,1,_,rfl,rfl,SqL.of h1,rfl,rfl,_,rfl,?_⟩
 show if _ then _ else _
 rcases h8 with ⟨ga,rfl⟩ | ⟨a,ys,A,ga,rfl,b3,b4,b5⟩
 ·rw [if_pos (decide_eq_true rfl)]
  refine ⟨_,rfl,1,rfl,FR,_,-1,.ref f2,rfl,rfl,SqL.of hF1,ZY,f2,_,2,.ref c2,rfl,rfl,SqL.of k1,rfl,.inl ⟨rfl,_,SqL.of k2⟩,_,rfl,f,_,0,_,rfl,rfl,SqL.of h1,rfl,_,rfl,f,_,2,_,rfl,rfl,SqL.of h1,rfl,b9 _,fun p3 g3=>⟨by show (4:Nat)≤sizeLine;decide,fun r hr=>?_⟩⟩
  have s1:=isV (o:=HO.lst []) p3 g3
  have s2:=isV (o:=HO.tup [V.str (bb "if"),V.ref te,V.ref c,V.ref p3]) r hr
  have S:=s1.trans s2
  have Z2:=Z1.same S
  have al:∀ a∈sp1,∃ o,H1 a=some o:=FsAt.alive _ Z1.fa
  have f3:Fz H0 sp1 FR p3:=⟨(fun z=>by obtain ⟨o,e⟩:=al p3 z;rw [g3] at e;cases e),wL hF1 g3,zA Z1.sm g3⟩
  have fr:Fz H0 sp1 FR r:=⟨(fun z=>by obtain ⟨o,e⟩:=al r z;rw [s1 _ _ e] at hr;cases hr),wL (s1 _ _ hF1) hr,zA (Z1.sm.trans s1) hr⟩
  refine ⟨c2,xs2,_,rfl,rfl,S _ _ k2,lx,?_⟩
  have hv:RwAt (Fz H0 sp1 FR) (upd (upd H1 p3 (HO.lst [])) r (HO.tup [V.str (bb "if"),V.ref te,V.ref c,V.ref p3])) (.ref r) (.iff g.e g.D .nil):=by
   unfold RwAt
   exact ⟨r,te,c,p3,xs,[],rfl,fr,h4,h5,f3,zf,S _ _ h2,S _ _ h6,h7.mono S,s2 _ _ zf,by unfold RwsAt;rfl⟩
  have:=Z2.push d1 d2 (S _ _ k1) (S _ _ k2) hv
  refine q fs1 sp1 _ ?_
  unfold ZR
  rw [ga]
  exact this
 ·rw [if_neg (by rw [decide_eq_true_eq];exact fun z=>nomatch z)]
  refine ⟨_,rfl,1,rfl,FR,_,-1,.ref f2,rfl,rfl,SqL.of hF1,ZY,f2,_,2,.ref c2,rfl,rfl,SqL.of k1,rfl,.inl ⟨rfl,_,SqL.of k2⟩,_,rfl,f,_,0,_,rfl,rfl,SqL.of h1,rfl,_,rfl,f,_,1,_,rfl,rfl,SqL.of h1,rfl,_,rfl,f,_,2,_,rfl,rfl,SqL.of h1,rfl,by show (4:Nat)≤sizeLine;decide,fun r hr=>?_⟩
  have s2:=isV (o:=HO.tup [V.str (bb "if"),V.ref te,V.ref a,V.ref c]) r hr
  have Z2:=Z1.same s2
  have al:∀ a∈sp1,∃ o,H1 a=some o:=FsAt.alive _ Z1.fa
  have fr:Fz H0 sp1 FR r:=⟨(fun z=>by obtain ⟨o,e⟩:=al r z;rw [e] at hr;cases hr),wL hF1 hr,zA Z1.sm hr⟩
  refine ⟨c2,xs2,_,rfl,rfl,s2 _ _ k2,lx,?_⟩
  have hv:RwAt (Fz H0 sp1 FR) (upd H1 r (HO.tup [V.str (bb "if"),V.ref te,V.ref a,V.ref c])) (.ref r) (.iff g.e A g.D):=by
   unfold RwAt
   exact ⟨r,te,a,c,ys,xs,rfl,fr,h4,b3,h5,zf,s2 _ _ h2,s2 _ _ b4,b5.mono s2,s2 _ _ h6,h7.mono s2⟩
  have:=Z2.push d1 d2 (s2 _ _ k1) (s2 _ _ k2) hv
  refine q fs1 sp1 _ ?_
  unfold ZR
  rw [ga]
  exact this
def szA:Option Rws→Nat
 | none=>0
 | some A=>yQ A
def szG:List Gm→Nat
 | []=>0
 | g :: gs=>yQ g.D + szA g.a + 2 + szG gs
def okG:List Gm→Prop
 | []=>True
 | g :: gs=>g.D.deep + gs.length≤5∧(yS g.D∧yq g.D∧wH nmP g.D)∧(tmP g.e∧(gs≠[]→TermOk g.e))∧(∀ A,g.a=some A→A.deep + gs.length≤5∧yS A∧yq A∧wH nmP A)∧okG gs
theorem Qb {g h:Gm} {gs:List Gm} (k:okG (g :: h :: gs)):okG (ZR g h :: gs)∧szG (ZR g h :: gs)=szG (g :: h :: gs):=by
 obtain ⟨k1,k2,k3,k4,k5,k6,k7,k8,k9⟩:=k
 rw [ck] at k1 k4
 have hx:∀ (x:Rw),x.deep + gs.length≤5→xZ x→xG x→Xl nmP x→szR x=yQ g.D + szA g.a + 2→okG ({ h with D:=h.D.snoc x } :: gs)∧szG ({ h with D:=h.D.snoc x } :: gs)=szG (g :: h :: gs):=fun x d p po pn z =>
  ⟨⟨by show (h.D.snoc x).deep + gs.length≤5;rw [YE];lia,⟨Jq p h.D k6.1,Jp po h.D k6.2.1,Jr pn h.D k6.2.2⟩,k7,k8,k9⟩,by show yQ (h.D.snoc x) + szA h.a + 2 + szG gs=yQ g.D + szA g.a + 2 + (yQ h.D + szA h.a + 2 + szG gs);rw [YW,z];lia⟩
 unfold ZR
 cases ga:g.a with
 | none =>
  refine hx (.iff g.e g.D .nil) ?_ ?_ (by unfold xG;exact ⟨k3.2 (by simp),k2.2.1,by unfold yq;trivial⟩) (by unfold Xl;exact ⟨k2.2.2,by unfold wH;trivial⟩) ?_
  ·have:(Rw.iff g.e g.D .nil).deep=max g.D.deep Rws.nil.deep + 1:=by rw [Rw.deep]
   rw [this,Rws.deep];lia
  ·unfold xZ
   exact ⟨k3.1,k2.1,by unfold yS;trivial⟩
  ·rw [ga,szR,yQ];rfl
 | some A =>
  obtain ⟨a1,a2⟩:=k4 A ga
  refine hx (.iff g.e A g.D) ?_ ?_ (by unfold xG;exact ⟨k3.2 (by simp),a2.2.1,k2.2.1⟩) (by unfold Xl;exact ⟨a2.2.2,k2.2.2⟩) ?_
  ·have:(Rw.iff g.e A g.D).deep=max A.deep g.D.deep + 1:=by rw [Rw.deep]
   rw [this];lia
  ·unfold xZ
   exact ⟨k3.1,a2.1,k2.1⟩
  ·rw [ga,szR]
   show yQ A + yQ g.D + 2=yQ g.D + yQ A + 2
   lia
theorem rwV.deep {r:Rw} (h:rwV r):r.deep=0∧szR r=1:=by
 have:=h.ni
 cases r with
 | iff e a b=>exact this.elim
 | _=>exact ⟨by simp [Rw.deep],by simp [szR]⟩
def rwI (p FR sa sb:Addr) (H:Hp) (i:Nat) (σ:St) (H':Hp):Prop:=∃ gs fs sp,(∃ o3 o4,σ=[some (.ref p),some (.ref sa),some (.ref sb),some (.ref FR),o3,o4])∧FZ H H' FR gs fs sp∧okG gs∧gs≠[]∧gs.length≤6∧szG gs≤2 * i + 2
section
variable {p FR sa sb:Addr} {ws us:List Str} {c k:Int} {H0:Hp} {i:Nat} {gs:List Gm} {fs:List V} {sp:List Addr} {E:VS}
theorem Wz (Z:FZ H0 H FR gs fs sp):(fs.reverse).length=gs.length:=by rw [List.length_reverse];exact FsAt.len gs Z.fa
theorem zaZ (n1:NamesAt H0 sa ws) (n2:ws.length=3) (n3:NamesAt H0 sb us) (n4:us.length=3) (Z:FZ H0 H FR gs fs sp) (ok:okG gs) (ne:gs≠[]) (l6:gs.length≤6) (sz:szG gs≤2 * i + 2) (hi:i < 63) (q:∀ σ H',rwI p FR sa sb H0 (i + 1) σ H'→E.nx σ H') :
  vJ K t E [some (.ref p),some (.ref sa),some (.ref sb),some (.ref FR),some (.int c),some (.int k)] H:=by
 simp only [vJ,qv,yd,qT,xh,tOp,tUn,zc,tC,zb,zi,tBM,tyV,zo,yn,rU,bt,bd,bh,bi,exists_eq_left',V.int.injEq,V.ref.injEq,bq,and_true,true_and,and_assoc,exists_and_left,fb]
 cases gs with
 | nil=>exact absurd rfl ne
 | cons g gs =>
  obtain ⟨f,tv,fi,cc,xs,fs',sp',e1,e2,h1,h2,h3,h4,h5,h6⟩:=Z.fa
  have hf:=Z.hf
  have er:fs.reverse=fs'.reverse ++ [.ref f]:=by rw [e1,dY]
  rw [er] at hf
  have lx:xs.length < sizeLine:=by
   have a1:=RwsAt.len g.D h3
   have a2:=(vP g.D 0).2
   have a3:szG (g :: gs)=yQ g.D + szA g.a + 2 + szG gs:=rfl
   exact bY (by lia:_≤900) (by decide)
  refine ⟨_,SqL.of hf,_,ZY,f,rfl,_,SqL.of h1,_,rfl,.inl ⟨_,SqL.of h2⟩,ws,n1.same Z.sm,n2,us,n3.same Z.sm,n4,fun v r H1 s1 hr vr=>?_⟩
  have Z1:=Z.same s1
  refine ⟨cc,rfl,xs,s1 _ _ h2,lx,?_⟩
  have al:∀ a∈sp,∃ o,H a=some o:=FsAt.alive _ Z.fa
  have hv:RwAt (Fz H0 sp FR) H1 v r:=hr.to r (fun b o fz _=>⟨(fun z=>by obtain ⟨o,e⟩:=al b z;rw [fz] at e;cases e),wL hf fz,zA Z.sm fz⟩) fun b o _ e=>e
  have Z2:=Z1.push e1 e2 (s1 _ _ h1) (s1 _ _ h2) hv
  obtain ⟨d0,z1⟩:=vr.deep
  obtain ⟨o1,o2,o3,o4,o5⟩:=ok
  refine q _ _ ⟨_,fs,sp,⟨_,_,rfl⟩,Z2,⟨by show (g.D.snoc r).deep + gs.length≤5;rw [YE,d0];lia,⟨Jq vr.pl g.D o2.1,Jp vr.ok g.D o2.2.1,Jr vr.nm g.D o2.2.2⟩,o3,o4,o5⟩,by simp,by simpa using l6,?_⟩
  have a3:szG (g :: gs)=yQ g.D + szA g.a + 2 + szG gs:=rfl
  show yQ (g.D.snoc r) + szA g.a + 2 + szG gs≤2 * (i + 1) + 2
  rw [YW,z1]
  lia
end
theorem FZ.out {H0 H:Hp} {FR c:Addr} {gs:List Gm} {fs:List V} {sp:List Addr} (Z:FZ H0 H FR gs fs sp) (c0:H c=none):c ∉ sp∧c≠FR∧H0 c=none :=
 ⟨(fun z=>by obtain ⟨o,e⟩:=FsAt.alive _ Z.fa c z;rw [c0] at e;cases e),wL Z.hf c0,zA Z.sm c0⟩
theorem FZ.new {H0 Hz H:Hp} {FR f c pt:Addr} {gs:List Gm} {fs:List V} {sp:List Addr} {e:List V} (Z:FZ H0 Hz FR gs fs sp) (s:Same Hz H) (te:tmP e) (hp:H pt=some (.tup e)) (p0:Hz pt=none) (hc:H c=some (.lst [])) (c0:Hz c=none) (hf:H f=none):FZ H0 (upd (upd H f (.lst [.ref pt,.non,.ref c])) FR (.lst (fs.reverse ++ [.ref f]))) FR (⟨e,none,.nil⟩ :: gs) (.ref f :: fs) (f :: c :: sp):=by
 obtain ⟨nc,ncF,fc⟩:=Z.out c0
 obtain ⟨np,npF,fp⟩:=Z.out p0
 have ZH:=Z.same s
 obtain ⟨nfs,nF,ff⟩:=ZH.out hf
 have ncf:c≠f:=fun z=>by rw [z,hf] at hc;cases hc
 have npf:pt≠f:=fun z=>by rw [z,hf] at hp;cases hp
 have npc:pt≠c:=yi hp hc (fun z=>nomatch z)
 have kp:∀ {b:Addr} {o:HO},b≠FR→H b=some o→upd (upd H f (.lst [.ref pt,.non,.ref c])) FR (.lst (fs.reverse ++ [.ref f])) b=some o:=fun n e=>by rw [zj n,zj (zB e hf)];exact e
 refine ⟨z8 (ZH.sm.trans (isV f hf)) Z.f0,by rw [zf,dY],?_,?_,?_,?_,Z.f0⟩
 ·refine ⟨f,.ref pt,.non,c,[],fs,sp,rfl,rfl,by rw [zj nF,zf],kp ncF hc,by unfold RwsAt;rfl,fun _=>⟨pt,rfl,⟨by simp [npf,npc,np],npF,fp⟩,kp npF hp,te⟩,.inl ⟨rfl,rfl⟩,?_⟩
  refine FsAt.to (fun b o fz e=>⟨?_,fz.2⟩) (fun b o fz e=>kp fz.2.1 (s _ _ e)) gs (fun a ha o e=>kp (fun z=>Z.nf (z ▸ ha)) (s _ _ e)) Z.fa
  simp only [bN,not_or]
  exact ⟨zB (s _ _ e) hf,zB e c0,fz.1⟩
 ·rw [cu,cu]
  exact ⟨by simp [cA ncf,nfs],nc,Z.nd⟩
 ·simp only [bN,not_or]
  exact ⟨cA nF,cA ncF,Z.nf⟩
 ·intro a ha
  simp only [bN] at ha
  rcases ha with rfl | rfl | ha
  ·exact ff
  ·exact fc
  ·exact Z.fr a ha
theorem FZ.turn {H0 H:Hp} {FR f c d:Addr} {g:Gm} {gs:List Gm} {fs fs':List V} {sp sp':List Addr} {tv fi:V} (Z:FZ H0 H FR (g :: gs) fs sp) (e1:fs=.ref f :: fs') (e2:sp=f :: c :: sp') (h1:H f=some (.lst [tv,fi,.ref c])) (d0:H d=none) {H2:Hp} (k:∀ b o,b≠f→H b=some o→H2 b=some o) (hf:H2 f=some (.lst [tv,.ref c,.ref d])) (hd:H2 d=some (.lst [])):FZ H0 H2 FR (⟨g.e,some g.D,.nil⟩ :: gs) fs (f :: d :: sp'):=by
 obtain ⟨nd1,ndF,fd⟩:=Z.out d0
 have fa:=Z.fa
 obtain ⟨f',tv',fi',c',xs',fs1,sp1,e1',e2',h1',h2',h3,h4,h5,h6⟩:=fa
 have nd:=Z.nd
 have nf:=Z.nf
 have fr:=Z.fr
 subst e1
 subst e2
 obtain ⟨rfl,rfl⟩:f=f'∧fs'=fs1:=by injection e1' with a b;exact ⟨V.ref.inj a,b⟩
 obtain ⟨_,rfl,rfl⟩:f=f∧c=c'∧sp'=sp1:=by injection e2' with a b;injection b with b d;exact ⟨rfl,b,d⟩
 rw [h1] at h1'
 cases h1'
 rw [cu,cu] at nd
 obtain ⟨n1,n2,n3⟩:=nd
 simp only [bN,not_or] at nd1 nf n1
 have gF:∀ b o,Fz H0 (f :: c :: sp') FR b→H b=some o→Fz H0 (f :: d :: sp') FR b:=fun b o fz e=>⟨by
  have:=fz.1
  simp only [bN,not_or] at this ⊢
  exact ⟨this.1,zB e d0,this.2.2⟩,fz.2⟩
 have sF:∀ b o,Fz H0 (f :: c :: sp') FR b→H b=some o→H2 b=some o:=fun b o fz e=>k b o (fun z=>fz.1 (by simp [z])) e
 refine ⟨fun b o e=>k b o (fun z=>by rw [z,fr f (by simp)] at e;cases e) (Z.sm b o e),k _ _ nf.1 Z.hf,?_,?_,?_,?_,Z.f0⟩
 ·refine ⟨f,tv,.ref c,d,[],fs',sp',rfl,rfl,hf,hd,by unfold RwsAt;rfl,fun n=>?_,.inr ⟨c,xs',g.D,rfl,rfl,⟨?_,fun z=>nf.2.1 z.symm,fr c (by simp)⟩,k _ _ (fun z=>n1.1 z.symm) h2',RwsAt.to _ gF sF h3⟩,FsAt.to gF sF gs (fun a ha o e=>k a o (fun z=>n1.2 (z ▸ ha)) e) h6⟩
  ·obtain ⟨te,a1,a2,a3,a4⟩:=h4 n
   exact ⟨te,a1,gF _ _ a2 a3,sF _ _ a2 a3,a4⟩
  ·simp only [bN,not_or]
   exact ⟨fun z=>n1.1 z.symm,zB h2' d0,n2⟩
 ·rw [cu,cu]
  exact ⟨by simp only [bN,not_or];exact ⟨fun z=>nd1.1 z.symm,n1.2⟩,nd1.2.2,n3⟩
 ·simp only [bN,not_or]
  exact ⟨nf.1,cA ndF,nf.2.2⟩
 ·intro a ha
  simp only [bN] at ha
  rcases ha with rfl | rfl | ha
  ·exact fr _ (by simp)
  ·exact fd
  ·exact fr a (by simp [ha])
theorem FZ.sp_nF {H0 H:Hp} {FR f c:Addr} {gs:List Gm} {fs:List V} {sp sp':List Addr} (Z:FZ H0 H FR gs fs sp) (e2:sp=f :: c :: sp'):FR≠f:=fun z=>Z.nf (by rw [e2,z];simp)
section
variable {p FR sa sb:Addr} {ws us:List Str} {c k:Int} {H0:Hp} {i:Nat} {gs:List Gm} {fs:List V} {sp:List Addr} {E:VS}
theorem zew (n1:NamesAt H0 sa ws) (n2:ws.length=3) (n3:NamesAt H0 sb us) (n4:us.length=3) (Z:FZ H0 H FR gs fs sp) (ok:okG gs) (l6:gs.length < 6) (sz:szG gs≤2 * i + 2) (q:∀ σ H',rwI p FR sa sb H0 (i + 1) σ H'→E.nx σ H') :
  vL K t E [some (.ref p),some (.ref sa),some (.ref sb),some (.ref FR),some (.int c),some (.int k)] H:=by
 simp only [vL,yM,yd,qT,xh,zc,tC,xo,zb,zi,tBM,tyV,zo,bP,bt,bd,bh,bi,exists_eq_left',V.int.injEq,V.ref.injEq,bq,and_true,true_and,and_assoc,exists_and_left,bO]
 have lf:=Wz Z
 refine ⟨.inl ⟨_,SqL.of Z.hf⟩,by decide,by decide,ws,n1.same Z.sm,n2,fun pt e H1 s1 fp1 hpt to te=>⟨by decide,fun cc gc=>⟨by decide,fun f gf=>?_⟩⟩⟩
 have s2:=isV (o:=HO.lst []) cc gc
 have S:=s1.trans s2
 have Z3:=Z.new (f:=f) S te (s2 _ _ hpt) fp1 zf (zA s1 gc) gf
 refine ⟨_,(S.trans (isV f gf)) _ _ Z.hf,bY (by lia:_≤900) (by decide),?_⟩
 refine q _ _ ⟨_,_,_,⟨_,_,rfl⟩,Z3,⟨by show Rws.nil.deep + gs.length≤5;rw [Rws.deep];lia,⟨by unfold yS;trivial,by unfold yq;trivial,by unfold wH;trivial⟩,⟨te,fun _=>to⟩,(fun A z=>nomatch z),ok⟩,by simp,by simp;lia,?_⟩
 show yQ .nil + 0 + 2 + szG gs≤_
 rw [yQ];lia
theorem JJ (n1:NamesAt H0 sa ws) (n2:ws.length=3) (n3:NamesAt H0 sb us) (n4:us.length=3) (Z:FZ H0 H FR gs fs sp) (ok:okG gs) (ne:gs≠[]) (l6:gs.length≤6) (sz:szG gs≤2 * i + 2) (hi:i < 63) (q:∀ σ H',rwI p FR sa sb H0 (i + 1) σ H'→E.nx σ H') :
  vK K t E [some (.ref p),some (.ref sa),some (.ref sb),some (.ref FR),some (.int c),some (.int k)] H:=by
 simp only [vK,tOp,zc,tC,zb,zi,zM,ZZ,zq,tCB,Zw,rEq,rI0,xW,kH,bd,bh,bi,exists_eq_left',V.int.injEq,V.bl.injEq,bq,and_true,true_and,exists_and_left,decide_eq_true_eq,cr,ite_false]
 refine xm (fun _=>⟨gs.length,.inl ⟨_,SqL.of Z.hf,(Wz Z).symm⟩,xm (fun h1=>?_) fun _=>zaZ n1 n2 n3 n4 Z ok ne l6 sz hi q⟩) fun _=>zaZ n1 n2 n3 n4 Z ok ne l6 sz hi q
 simp only [qJ,xw,xh,zc,zb,zi,zo,bt,bd,bh,bi,exists_eq_left',V.ref.injEq,bq,and_true,exists_and_left]
 match gs,Z,ok,ne,l6,sz,h1 with
 | g :: h :: gs,Z,ok,ne,l6,sz,_ =>
  obtain ⟨k1,k2⟩:=Qb ok
  have a2:=(vP h.D 0).2
  have a3:szG (g :: h :: gs)=yQ g.D + szA g.a + 2 + (yQ h.D + szA h.a + 2 + szG gs):=rfl
  refine ⟨H0,g,h,gs,fs,sp,Z,by lia,fun fs' sp' H' Z'=>q _ _ ⟨_,fs',sp',⟨_,_,rfl⟩,Z',k1,by simp,by simp at l6 ⊢;lia,by rw [k2];lia⟩⟩
 | [g],Z,ok,ne,l6,sz,h1=>exact absurd h1 (by simp)
theorem za0 (n1:NamesAt H0 sa ws) (n2:ws.length=3) (n3:NamesAt H0 sb us) (n4:us.length=3) (Z:FZ H0 H FR gs fs sp) (ok:okG gs) (ne:gs≠[]) (l6:gs.length≤6) (sz:szG gs≤2 * i + 2) (hi:i < 63) (q:∀ σ H',rwI p FR sa sb H0 (i + 1) σ H'→E.nx σ H') :
  vM K t E [some (.ref p),some (.ref sa),some (.ref sb),some (.ref FR),some (.int c),some (.int k)] H:=by
 simp only [vM,tOp,tUn,zc,tC,zb,zi,zM,ZZ,zq,tCB,Zw,yn,rEq,rI0,rU,zdK,xW,kH,bd,bh,bi,exists_eq_left',V.int.injEq,V.ref.injEq,V.bl.injEq,bq,and_true,true_and,exists_and_left,decide_eq_true_eq,fb,cr,ite_false]
 have Z1:=Z
 clear Z
 generalize H=H1 at *
 refine xm (fun _=>⟨gs.length,.inl ⟨_,SqL.of Z1.hf,(Wz Z1).symm⟩,xm (fun h1=>?_) fun _=>JJ n1 n2 n3 n4 Z1 ok ne l6 sz hi q⟩) fun _=>JJ n1 n2 n3 n4 Z1 ok ne l6 sz hi q
 cases gs with
 | nil=>exact absurd rfl ne
 | cons g gs =>
  obtain ⟨f,tv,fi,cc,xs,fs',sp',e1,e2,h1,h2,h3,h4,h5,h6⟩:=Z1.fa
  have hf:=Z1.hf
  have er:fs.reverse=fs'.reverse ++ [.ref f]:=by rw [e1,dY]
  rw [er] at hf
  refine ⟨_,SqL.of hf,_,ZY,f,rfl,_,SqL.of h1,_,rfl,?_⟩
  refine xm (fun hn=>?_) fun _=>JJ n1 n2 n3 n4 Z1 ok ne l6 sz hi q
  simp only [qK,zaP,zp,tOp,tUn,zc,tC,xo,zi,yn,rU,bP,bd,bh,bi,exists_eq_left',V.int.injEq,V.ref.injEq,and_assoc,exists_and_left,fb]
  have sp0:=Z1.sp_nF e2
  refine ⟨_,SqL.of hf,_,ZY,f,rfl,_,SqL.of h1,_,rfl,_,SqL.of hf,_,ZY,f,rfl,_,h1,1,rfl,by decide,by decide,by decide,fun d gd=>?_⟩
  have ndf:d≠f:=fun z=>by rw [z,zf] at gd;cases gd
  have d0:H1 d=none:=by rw [zj ndf] at gd;exact gd
  have nFf:FR≠f:=sp0
  have hF2:upd (upd H1 f (HO.lst ([tv,fi,V.ref cc].set 1 (.ref cc)))) d (HO.lst []) FR=some (.lst (fs'.reverse ++ [.ref f])):=by
   rw [zj (fun z=>by rw [← z,hf] at d0;cases d0),zj nFf];exact hf
  have hf2:upd (upd H1 f (HO.lst ([tv,fi,V.ref cc].set 1 (.ref cc)))) d (HO.lst []) f=some (.lst [tv,.ref cc,.ref cc]):=by
   rw [zj (cA ndf),zf];rfl
  refine ⟨_,SqL.of hF2,_,ZY,f,rfl,_,hf2,2,rfl,by decide,by decide,?_⟩
  have fn:fi=.non:=by simpa using hn
  have ga:g.a=none:=by
   rcases h5 with h5 | ⟨a,ys,A,a1,a2,_⟩
   ·exact h5.1
   ·rw [fn] at a2;cases a2
  have Z2:=Z1.turn e1 e2 h1 d0 (H2:=upd (upd (upd H1 f (HO.lst ([tv,fi,V.ref cc].set 1 (.ref cc)))) d (HO.lst [])) f (HO.lst ([tv,V.ref cc,V.ref cc].set 2 (.ref d)))) (fun b o n e=>by
   rw [zj n,zj (fun z=>by rw [z,d0] at e;cases e),zj n];exact e) (by rw [zf];rfl) (by rw [zj ndf,zf])
  obtain ⟨o1,o2,o3,o4,o5⟩:=ok
  refine q _ _ ⟨_,_,_,⟨_,_,rfl⟩,Z2,⟨by show Rws.nil.deep + gs.length≤5;rw [Rws.deep];lia,⟨by unfold yS;trivial,by unfold yq;trivial,by unfold wH;trivial⟩,o3,fun A z=>?_,o5⟩,by simp,by simpa using l6,?_⟩
  ·have z:g.D=A:=ca z
   rw [← z];exact ⟨o1,o2⟩
  ·have a3:szG (g :: gs)=yQ g.D + szA g.a + 2 + szG gs:=rfl
   rw [ga] at a3
   have a4:szA none=0:=rfl
   show yQ .nil + yQ g.D + 2 + szG gs≤_
   rw [yQ];lia
end
def whI (p FR sa sb:Addr) (H0:Hp) (N:Nat) (o3 o4:Option V) (m:Nat) (σ:St) (H':Hp):Prop:=∃ gs fs sp,σ=[some (.ref p),some (.ref sa),some (.ref sb),some (.ref FR),o3,o4]∧FZ H0 H' FR gs fs sp∧okG gs∧gs.length=m∧gs≠[]∧szG gs≤N
theorem zbB {p FR sa sb:Addr} {H0:Hp} {o3 o4:Option V} {gs:List Gm} {fs:List V} {sp:List Addr} (Z:FZ H0 H FR gs fs sp) (ok:okG gs) (ne:gs≠[]) {N:Nat} (hN:N≤38) (sz:szG gs≤N) (q:∀ v r H',Same H0 H'→kL (fun b=>H0 b=none) H' v r→kO 6 r→yq r→(zm r 0).length + 2≤N→r.cnt + 2≤N→Q v H') :
  vN K t { nx:=fun _ H'=>Q .non H',rt:=Q } [some (.ref p),some (.ref sa),some (.ref sb),some (.ref FR),o3,o4] H:=by
 simp only [vN,VU,xw,zp,zE,xh,tOp,zc,tC,zb,zi,zq,tCB,zo,Zw,yn,rI0,xW,bt,exists_eq_left',V.int.injEq,V.bl.injEq,bq,and_true,exists_and_left,decide_eq_true_eq]
 refine ⟨whI p FR sa sb H0 N o3 o4,⟨_,gs,fs,sp,rfl,Z,ok,rfl,ne,sz⟩,?_⟩
 rintro m σ H1 ⟨gs,fs,sp,rfl,Z,ok,rfl,ne,sz⟩
 simp only [bd,bh,bi,exists_eq_left',V.ref.injEq]
 refine ⟨gs.length,.inl ⟨_,SqL.of Z.hf,(Wz Z).symm⟩,xm (fun c1=>?_) fun c1=>?_⟩
 ·match gs,Z,ok,ne,sz,c1 with
  | g :: h :: gs,Z,ok,ne,sz,_ =>
   obtain ⟨k1,k2⟩:=Qb ok
   have a2:=(vP h.D 0).2
   have a3:szG (g :: h :: gs)=yQ g.D + szA g.a + 2 + (yQ h.D + szA h.a + 2 + szG gs):=rfl
   refine ⟨whI p FR sa sb H0 N o3 o4 (gs.length + 1),fun σ' H' z=>⟨gs.length + 1,by simp,z⟩,H0,g,h,gs,fs,sp,Z,by lia,fun fs' sp' H' Z'=>⟨_,fs',sp',rfl,Z',k1,by simp,by simp,by rw [k2];exact sz⟩⟩
  | [g],Z,ok,ne,sz,h1=>exact absurd h1 (by simp)
 ·match gs,Z,ok,ne,sz,c1 with
  | [g],Z,ok,ne,sz,_ =>
   obtain ⟨f,tv,fi,cc,xs,fs',sp',e1,e2,h1,h2,h3,h4,h5,h6⟩:=Z.fa
   have hf:=Z.hf
   obtain ⟨rfl,rfl⟩:=h6
   subst e1
   obtain ⟨o1,o2,o3',o4',o5⟩:=ok
   obtain ⟨a0,a1⟩:=vP g.D 0
   have a3:szG [g]=yQ g.D + szA g.a + 2 + 0:=rfl
   have fr:=Z.fr cc (by rw [e2];simp)
   refine ⟨_,SqL.of hf,_,rfl,f,rfl,_,SqL.of h1,_,rfl,?_⟩
   exact q (.ref cc) g.D _ Z.sm ⟨cc,xs,rfl,fr,h2,RwsAt.to _ (fun b o fz _=>fz.2.2) (fun b o _ e=>e) h3⟩ ⟨by simp at o1;lia,by lia,o2.1⟩ o2.2.1 (by lia) (by lia)
  | g :: h :: gs,Z,ok,ne,sz,h1=>exact absurd (show (1:Int) < ((g :: h :: gs).length:Nat) by simp;lia) h1
  | [],Z,ok,ne,sz,h1=>exact absurd rfl ne
theorem zbC {p FR sa sb:Addr} {ws us:List Str} {H0:Hp} {ns:List Int} {gs:List Gm} {fs:List V} {sp:List Addr} (hp:H0 p=some (.lst (ns.map V.int))) (hn:ns.length≤18) (n1:NamesAt H0 sa ws) (n2:ws.length=3) (n3:NamesAt H0 sb us) (n4:us.length=3) (Z:FZ H0 H FR gs fs sp) (ok:okG gs) (ne:gs≠[]) (l6:gs.length≤6) (sz:szG gs≤2) (q:∀ v r H',Same H0 H'→kL (fun b=>H0 b=none) H' v r→kO 6 r→yq r→(zm r 0).length≤2 * ns.length→r.cnt≤2 * ns.length→Q v H') :
  vO K t { nx:=fun _ H'=>Q .non H',rt:=Q } [some (.ref p),some (.ref sa),some (.ref sb),some (.ref FR),none,none] H:=by
 simp only [vO,zl,zp,zV,zw,tOp,zc,tC,yx,zb,zi,v5,zM,ZZ,zq,tCB,zo,Zw,jn,rI,rI0,rIn,xW,bP,bt,bd,bi,exists_eq_left',V.int.injEq,V.ref.injEq,V.bl.injEq,bq,and_true,and_assoc,exists_and_left,bO,decide_eq_true_eq,cr,ite_false]
 refine ⟨⟨_,SqL.of (Z.sm _ _ hp)⟩,vf (ns.map V.int) (rwI p FR sa sb H0) ⟨gs,fs,sp,⟨_,_,rfl⟩,Z,ok,ne,l6,sz⟩ (fun i σ H' ⟨_,_,_,_,Z,_⟩=>SqL.of (Z.sm _ _ hp)) ?_ ?_⟩
 ·rintro i v σ H' hv ⟨gs,fs,sp,⟨o3,o4,rfl⟩,Z,ok,ne,l6,sz⟩
  obtain ⟨c,_,rfl⟩:=cG.mp (bF hv)
  have hi:i < 63:=by have:=(bp.mp hv).1;rw [bB] at this;lia
  simp only [bd,bh,bi,exists_eq_left',V.int.injEq,bE,bI]
  refine ⟨by decide,by decide,fun r1 H1 a1 b1 s1=>⟨by decide,by decide,fun p1 g1=>?_⟩⟩
  have Zp:=(Z.same s1).same (isV (o:=HO.tup [V.int 12,V.int 13,V.int 14]) p1 g1)
  exact ⟨_,.inr (SqT.of zf),rfl,by decide,xm (fun _=>⟨gs.length,.inl ⟨_,SqL.of Zp.hf,(Wz Zp).symm⟩,xm (fun h6=>zew n1 n2 n3 n4 Zp ok (by lia) sz fun σ H' z=>z) fun _=>za0 n1 n2 n3 n4 Zp ok ne l6 sz hi fun σ H' z=>z⟩) fun _=>za0 n1 n2 n3 n4 Zp ok ne l6 sz hi fun σ H' z=>z⟩
 ·rintro σ H' ⟨gs,fs,sp,⟨o3,o4,rfl⟩,Z,ok,ne,l6,sz⟩
  rw [bB] at sz
  exact zbB Z ok ne (N:=2 * ns.length + 2) (by lia) (by lia) fun v r H' z1 z2 z3 z4 z5 z6=>q v r H' z1 z2 z3 z4 (by lia) (by lia)
theorem W6 {p:Addr} {ns:List Int} {sa sb:Addr} {ws us:List Str} (hp:H p=some (.lst (ns.map V.int))) (hn:ns.length≤18) (n1:NamesAt H sa ws) (n2:ws.length=3) (n3:NamesAt H sb us) (n4:us.length=3) (q:∀ v r H',Same H H'→kL (fun b=>H b=none) H' v r→kO 6 r→yq r→(zm r 0).length≤2 * ns.length→r.cnt≤2 * ns.length→Q v H') :
  kh K t { nx:=fun _ H'=>Q .non H',rt:=Q } (L2.start ["cells","slots","shelves","frames","cell","kind"] [.ref p,.ref sa,.ref sb]) H:=by
 simp only [kh,L2.start,zp,zV,zw,tC,xo,zb,zi,cC,bM,bP,cb,cj,bE,bI,bZ,bO]
 refine ⟨by decide,fun c gc=>⟨by decide,fun f gf=>⟨by decide,fun FR gF=>?_⟩⟩⟩
 have s1:=isV (o:=HO.lst []) c gc
 have s2:=isV (o:=HO.lst [V.non,V.non,V.ref c]) f gf
 have s3:=isV (o:=HO.lst [V.ref f]) FR gF
 have nfc:f≠c:=wL zf gf
 have nF1:FR≠f:=wL zf gF
 have nF2:FR≠c:=wL (s2 _ _ zf) gF
 refine zbC (gs:=[⟨[],none,.nil⟩]) (fs:=[.ref f]) (sp:=[f,c]) hp hn n1 n2 n3 n4 ⟨s1.trans (s2.trans s3),zf,?_,by simp [nfc],by simp [nF1,nF2],fun a ha=>?_,zA (s1.trans s2) gF⟩ ⟨by simp [Rws.deep],⟨by unfold yS;trivial,by unfold yq;trivial,by unfold wH;trivial⟩,⟨(fun _ z=>nomatch z),fun z=>absurd rfl z⟩,(fun A z=>nomatch z),trivial⟩ (by simp) (by decide) (by simp [szG,yQ,szA]) q
 ·exact ⟨f,.non,.non,c,[],[],[],rfl,rfl,s3 _ _ zf,(s2.trans s3) _ _ zf,by unfold RwsAt;rfl,fun n=>absurd rfl n,.inl ⟨rfl,rfl⟩,rfl,rfl⟩
 ·simp only [bN,gh,or_false] at ha
  rcases ha with rfl | rfl
  ·exact zA s1 gf
  ·exact gc
theorem zdi {C:List Cs} {m:Nat} {s:RSt} (I:RnI C m s):∀ w,wO s=.off w→b6 w=true:=fun w z=>by
 unfold wO at z
 cases e:s.why with
 | none=>rw [e] at z;cases z
 | some v=>rw [e] at z;cases z;exact I.wy _ e
theorem za1 {H H':Hp} {v:V} {r:Rws} (k:Same H H') (h:kL vc H v r):kL vc H' v r:=by
 obtain ⟨p,xs,e,f,hp,hx⟩:=h
 exact ⟨p,xs,e,f,k _ _ hp,hx.mono k⟩
theorem zfF {C:List Cs} {m:Nat} {s:RSt} {out:List Row} (I:RnI C m s) (h:vS s out):∀ r∈out,inW r.2=true:=by
 unfold vS at h
 cases e:s.why with
 | some w=>rw [e] at h;rw [h];exact fun r hr=>nomatch hr
 | none =>
  rw [e] at h
  intro r hr
  exact Za (P:=fun r=>inW r.2=true) I.ok.gw ((h.2 r.1 r.2).mp hr)
theorem zf9 {C:List Cs} {m:Nat} {H1 H2:Hp} {r r2:Addr} {s:RSt} (I:RnI C m s) (P:zeg H1 H r s) (P2:zeg H2 H r2 s):∃ D,Dat K H (.ref r) D∧Dat K H (.ref r2) D∧zI D=true∧D.depth≤64:=by
 obtain ⟨o,nl,gl,out,a1,a2,a3,a4,a5,_⟩:=P
 obtain ⟨o',nl',gl',out',b1,b2,b3,b4,b5,_⟩:=P2
 have eo:=zeq b5 a5
 rw [eo] at b4
 have gk:=zeQ I a5
 refine ⟨ppD (wO s) s.no out,Q1 a1 a2 a3 a4,Q1 b1 b2 b3 b4,?_,?_⟩
 ·have a1:=K8 (zdi I)
  have a2:=Wr I.nn
  have a3:=Wr gk
  simp only [ppD,zI,zR,bX,and_true] at a1 a2 a3 ⊢
  exact ⟨a1,a2,a3⟩
 ·have a1:=zaY (wO s)
  have a2:=JE s.no
  have a3:=JE out
  simp only [ppD,cK,bU] at a1 a2 a3 ⊢
  lia
theorem jH {H H':Hp} (s:Same H H') {xs:List V} {rows:List Row} (h:Paired (PrAt H) xs rows):Paired (PrAt H') xs rows:=Paired.mapP h fun _ _ ⟨r,p,e,h1,h2⟩=>⟨r,p,e,s _ _ h1,s _ _ h2⟩
def cIt (its:List Row) (i:Nat) (ys:List V) (H:Hp):Prop:=Paired (PrAt H) ys ((its.take i).filter fun r=>decide (r.2≠0))
theorem zdj {rows out:List Row} (h:xS rows out):out.length≤(dOf rows).length:=by
 have h1:=zd3 h
 have h2:=mT nzV (dOf rows)
 lia
theorem zex {H1:Hp} {d p:Addr} {rows:List Row} {q:Row} (hd:H1 d=some (.dT (dOf rows))) (hp:H1 p=some (.tup [.str q.1.1,.int q.1.2])) (hl:rows.length≤1000):DPut H1 d (.ref p) (.int q.2) (upd H1 d (.dT (dOf (rows ++ [q])))):=by
 rw [vn]
 have:=yY rows
 exact DPut.t (k:=zH q.1) hd hp (bY (by lia:(dOf rows).length≤1000) (by decide))
theorem zdk {i:Nat} {j c:Int} (hj:0≤j) (hc:0 < c) (h:i < Xk 0 j c):(i:Int) * c < j:=by
 unfold Xk at h
 split at h
 ·have h2:(i:Int)≤(j - 0 - 1) / c:=by lia
  have h3:=(Int.le_ediv_iff_mul_le hc).mp h2
  lia
 ·lia
theorem zey (ns:List Int) (k m:Nat) (hk:k < ns.length) (hm:1≤m):∃ ys:List Int,JZ (ns.map V.int) (some (k:Int)) (some ((k + m:Nat):Int))=ys.map V.int∧ys.length≤m:=by
 refine ⟨(ns.drop k).take m,?_,?_⟩
 ·unfold JZ
  rw [bB,HT.sIx_nat,HT.sIx_nat,iF,l5,gH (by lia:k≤ns.length)]
  by_cases c:k + m≤ns.length
  ·rw [gH c,mj]
  ·rw [ms (by lia)]
   rw [cB (by simp),cB (by simp;lia)]
 ·rw [cE];lia
def csP:Cs→Prop
 | .row r=>xZ r∧Jx r
 | .skip e _=>tmP e
 | .go _=>True
def csD:Cs→PyData
 | .row r=>rwD r
 | .skip e to=>.tuple [.str "skip",jv e,.int (to:Nat)]
 | .go en=>.tuple [.str "go",.int (en:Nat)]
theorem zfG {v:V} {c:Cs} (h:CsAt H v c) (p:csP c):Dat K H v (csD c):=by
 cases c with
 | row r=>exact zcI r h.1 p.1
 | skip e to =>
  obtain ⟨q,te,rfl,h2,h3⟩:=h
  exact .tup (SqT.of h2) (.cons (.str _) (.cons (wI h3 p) (.cons (.int _) .nil)))
 | go en =>
  obtain ⟨q,rfl,h2⟩:=h
  exact .tup (SqT.of h2) (.cons (.str _) (.cons (.int _) .nil))
theorem JK:∀ {xs:List V} {C:List Cs},Paired (CsAt H) xs C→(∀ c∈C,csP c)→DatAll K H xs (C.map csD)
 | _,_,.nil,_=>.nil
 | _,_,.cons h r,p=>.cons (zfG h (p _ bH)) (JK r fun c hc=>p c (bx _ hc))
theorem zdl:b6 "skip"=true:=by decide +kernel
theorem zfH:b6 "go"=true:=by decide +kernel
theorem zdm {c:Cs} (p:csP c):zI (csD c)=true∧(csD c).depth≤3:=by
 cases c with
 | row r =>
  have d0:r.deep=0:=by
   have:=p.2
   cases r <;> first | exact this.elim | simp [Rw.deep]
  have:=zaO r
  exact ⟨KB r p.1,by show (rwD r).depth≤3;lia⟩
 | skip e to=>exact ⟨by simp [csD,zI,zR,zdl,xr p],by have:=xT e;simp [csD,cK,bU];lia⟩
 | go en=>exact ⟨by simp [csD,zI,zR,zfH],by simp [csD,cK,bU]⟩
theorem VO:∀ {C:List Cs},(∀ c∈C,csP c)→zR (C.map csD)=true∧bU (C.map csD)≤3
 | [],_=>by simp [zR,bU]
 | c :: C,p=>by
  have h1:=zdm (p c bH)
  have h2:=VO (C:=C) fun x hx=>p x (bx _ hx)
  rw [bW,zR,bU,h1.1,h2.1]
  exact ⟨rfl,by lia⟩
mutual
theorem zez:∀ (r:Rw) (k:Nat),xZ r→∀ c∈yw r k,csP c
 | .iff e a b,k,p,c,hc=>by
  unfold xZ at p
  rw [yw] at hc
  unfold blk at hc
  split at hc
  ·rcases bN.mp hc with rfl | hc
   ·exact p.1
   ·exact qO a _ p.2.1 c hc
  ·rcases bN.mp hc with rfl | hc
   ·exact p.1
   rcases bz.mp hc with hc | hc
   ·exact qO a _ p.2.1 c hc
   rcases bN.mp hc with rfl | hc
   ·trivial
   ·exact qO b _ p.2.2 c hc
 | .take sh e sl,k,p,c,hc=>by rw [yT (x:=.take sh e sl) trivial,bD] at hc;rw [hc];exact ⟨p,trivial⟩
 | .give sh e f,k,p,c,hc=>by rw [yT (x:=.give sh e f) trivial,bD] at hc;rw [hc];exact ⟨p,trivial⟩
 | .lt sl e,k,p,c,hc=>by rw [yT (x:=.lt sl e) trivial,bD] at hc;rw [hc];exact ⟨p,trivial⟩
 | .say e,k,p,c,hc=>by rw [yT (x:=.say e) trivial,bD] at hc;rw [hc];exact ⟨p,trivial⟩
 | .off e,k,p,c,hc=>by rw [yT (x:=.off e) trivial,bD] at hc;rw [hc];exact ⟨p,trivial⟩
theorem qO:∀ (r:Rws) (k:Nat),yS r→∀ c∈zm r k,csP c
 | .nil,k,p,c,hc=>by rw [zm] at hc;cases hc
 | .cons r rs,k,p,c,hc=>by
  unfold yS at p
  rw [zm] at hc
  rcases bz.mp hc with hc | hc
  ·exact zez r k p.1 c hc
  ·exact qO rs _ p.2 c hc
end
def tbI (c:Int) (b d:Addr) (H:Hp) (i:Nat) (σ:St) (H':Hp):Prop:=∃ rows:List Row,(∃ o1 o2,σ=[some (.int c),some (.ref b),some (.ref d),o1,o2])∧Same H H'∧H' d=some (.dT (dOf rows))∧rows.length≤i∧∀ r∈rows,zfq r∧r.2≠0
theorem WA {c:Int} {b:Addr} {us:List Str} (h1:NamesAt H b us) (h2:us.length=3) (q:∀ l tab H',Same H H'→LsAt H' l tab→TaN tab→tab.length≤7→Q (.ref l) H') :
  jg K t { nx:=fun _ H'=>Q .non H',rt:=Q } (L2.start ["cell","shelves","worths","k","worth"] [.int c,.ref b]) H:=by
 simp only [jg,kB,zl,Zz,qg,Ky,L2.start,zp,zV,zw,zE,tOp,zc,tC,zb,zi,v5,tCB,zo,Z0,rI,cC,bM,bP,cb,cj,bt,bd,bi,exists_eq_left',V.int.injEq,V.ref.injEq,bq,and_true,and_assoc,exists_and_left,bE,bI,bZ,bO,fT,fb]
 intro d hd
 have s0:=isV (o:=HO.dT []) d hd
 refine ⟨by decide,by decide,fun r1 H1 a1 b1 s1=>⟨by decide,by lia,by lia,ZA (tbI c b d H) ⟨[],⟨_,_,rfl⟩,s0.trans s1,s1 _ _ zf,bu _,fun _ z=>nomatch z⟩ ?_ ?_⟩⟩
 ·rintro i σ H' hi ⟨rows,⟨o1,o2,rfl⟩,s,hD,hl,hr⟩
  simp only [kA,yf,zp,zV,zw,zJ,tOp,zc,tC,zb,zi,zM,zq,zo,rNe,rI,rI0,kH,bt,bd,bh,bi,exists_eq_left',V.int.injEq,V.bl.injEq,bq,and_true,true_and,and_assoc,exists_and_left,bE,bI,b7,decide_eq_false_iff_not]
  have hb:(10000000000000000000000000000000000000000000000:Int) < big:=by decide +kernel
  have i6:i < 8:=by lia
  refine ⟨⟨by lia,by lia⟩,by lia,by lia,fun w H2 hw s2=>?_⟩
  refine xm (fun h0=>?_) fun h0=>⟨rows,⟨_,_,rfl⟩,s.trans s2,s2 _ _ hD,by lia,hr⟩
  have w0:w≠0:=fun z=>h0 (by rw [z])
  simp only [kz,zl,wA,tOp,zc,tC,yx,zb,zi,zo,yn,rI,rI0,bP,bt,bd,bh,bi,exists_eq_left',V.int.injEq,V.ref.injEq,bq,and_true,and_assoc,exists_and_left,bO]
  refine ⟨by lia,by lia,fun r2 H3 a2 b2 s3=>⟨by decide,?_⟩⟩
  obtain ⟨sh,hsh,hus,nsh⟩:=Ys h1 3 h2 (by decide) r2
  refine ⟨_,SqL.of ((s.trans (s2.trans s3)) _ _ h1.1),_,hsh,by lia,by lia,fun r3 H4 a3 b3 s4=>⟨by decide,by decide,fun p hp=>?_⟩⟩
  have s5:=isV (o:=HO.tup [V.str sh,V.int (r3 % 4 - 1)]) p hp
  have S5:=s2.trans (s3.trans (s4.trans s5))
  have ld:=yY rows
  refine ⟨_,DPut.t (k:=zH (sh,r3 % 4 - 1)) (S5 _ _ hD) zf (bY (by lia:_≤900) (by decide)),rows ++ [((sh,r3 % 4 - 1),w)],⟨_,_,rfl⟩,z8 (s.trans S5) hd,?_,by simp;lia,?_⟩
  ·rw [zf,vn]
  ·intro z hz
   rcases bz.mp hz with hz | hz
   ·exact hr z hz
   ·rw [bD.mp hz]
    exact ⟨⟨hw,kj nsh⟩,w0⟩
 ·rintro σ H' ⟨rows,⟨o1,o2,rfl⟩,s,hD,hl,hr⟩
  simp only [bd,bh,bi,exists_eq_left',V.ref.injEq]
  refine ⟨_,hD,fun r hr'=>?_⟩
  have s3:=isV (o:=ku r d) r hr'
  have ld:=yY rows
  refine ⟨d,zf,rows,s3 _ _ hD,by lia,fun l ys srt H2 s4 fl hl' pr ri mi=>q l srt H2 (s.trans (s3.trans s4)) ⟨ys,hl',pr⟩ ⟨ri,fun z hz=>hr z (Yr ((mi z.1 z.2).mp hz))⟩ ?_⟩
  have T:xS rows srt:=⟨ri,fun p w=>(mi p w).trans ⟨fun z=>⟨z,(hr _ (Yr z)).2⟩,fun z=>z.1⟩⟩
  have:=zdj T
  lia
def roI (l:Addr) (H:Hp) (_:Nat) (σ:St) (H':Hp):Prop:=(∃ o1 o2,σ=[some (.ref l),o1,o2])∧Same H H'
def roJ (l:Addr) (v:V) (H:Hp) (_:Nat) (σ:St) (H':Hp):Prop:=(∃ o2,σ=[some (.ref l),some v,o2])∧Same H H'
theorem YX {l:Addr} {rows:List Row} (F:KF K) (h1:LsAt H l rows) (q:∀ H',Same H H'→Q (.bl true) H') :
  wV K t { nx:=fun _ H'=>Q .non H',rt:=Q } (L2.start ["found","row","number"] [.ref l]) H:=by
 simp only [wV,L2.start,zp,zw,zE,zJ,zc,tC,zb,zi,v5,zM,x9,tB,tCB,jn,kJ,cC,bM,bP,cb,cj,bd,bi,exists_eq_left',V.ref.injEq,V.bl.injEq,V.ty.injEq,bq,and_true,and_assoc,exists_and_left,bZ,bO,b7]
 obtain ⟨xs,hx,pr⟩:=h1
 refine ⟨_,.lst hx,true,wK _,?_⟩
 rw [if_neg (by decide)]
 refine ⟨⟨_,SqL.of hx⟩,vf xs (roI l H) ⟨⟨_,_,rfl⟩,Same.refl H⟩ (fun i σ H' ⟨_,s⟩=>SqL.of (s _ _ hx)) ?_ ?_⟩
 ·rintro i v σ H' hv ⟨⟨o1,o2,rfl⟩,s⟩
  obtain ⟨row,_,r',p',rfl,e2,e3⟩:=Paired.getP pr hv
  have e2:=s _ _ e2
  have e3:=s _ _ e3
  simp only [v0,zU,zp,zE,zJ,tOp,zc,tC,zb,zi,zM,tOr,x9,zq,tB,tCB,Zw,zU,rNe,xW,kJ,kH,bd,bh,bi,exists_eq_left',V.int.injEq,V.ref.injEq,V.bl.injEq,V.ty.injEq,bq,and_true,true_and,and_assoc,exists_and_left,bE,bI,b7,decide_eq_false_iff_not,if_true]
  refine ⟨_,.tup e2,true,wK _,?_⟩
  rw [if_neg (by decide)]
  refine ⟨2,.inr ⟨_,SqT.of e2,rfl⟩,?_⟩
  rw [if_neg (by decide)]
  refine ⟨_,SqT.of e2,_,rfl,_,.tup e3,true,wK _,?_⟩
  rw [if_neg (by decide)]
  refine ⟨_,SqT.of e2,_,rfl,2,.inr ⟨_,SqT.of e3,rfl⟩,?_⟩
  rw [if_neg (by decide)]
  simp only [vZ,zU,zw,tOp,zc,tC,xo,zb,zi,v5,jn,zU,bP,bd,bh,bi,exists_eq_left',V.int.injEq,V.ref.injEq,exists_and_left,bO]
  refine ⟨_,SqT.of e2,_,rfl,p',rfl,_,SqT.of e3,_,rfl,_,SqT.of e2,_,rfl,by decide,fun p hp=>?_⟩
  have s1:=isV (o:=HO.lst [V.int row.1.2,V.int row.2]) p hp
  have e1:upd H' p (HO.lst [V.int row.1.2,V.int row.2]) p=some (.lst [V.int row.1.2,V.int row.2]):=zf
  generalize upd H' p (HO.lst [V.int row.1.2,V.int row.2])=H1 at *
  refine ⟨⟨_,SqL.of e1⟩,vf [V.int row.1.2,V.int row.2] (roJ l (.ref r') H1) ⟨⟨_,rfl⟩,Same.refl _⟩ (fun i σ H' ⟨_,s⟩=>SqL.of (s _ _ e1)) ?_ ?_⟩
  ·rintro j u σ H2 hu ⟨⟨o2,rfl⟩,s2⟩
   obtain ⟨n,rfl⟩:∃ n,u=.int n:=by
    have:=bF hu
    simp only [bN,gh,or_false] at this
    rcases this with rfl | rfl <;> exact ⟨_,rfl⟩
   simp only [vY,zE,zJ,zc,tC,zb,zi,zM,tOr,x9,tB,tCB,kJ,bd,bh,bi,exists_eq_left',V.bl.injEq,V.ty.injEq,bq,and_true,and_assoc,exists_and_left,bE,bI,b7,if_true]
   refine ⟨_,.int _,true,wK _,?_⟩
   rw [if_neg (by decide)]
   refine ⟨_,.int _,false,F.i_b,?_⟩
   rw [if_neg (by decide)]
   exact ⟨⟨_,rfl⟩,s2⟩
  ·rintro σ H2 ⟨⟨o2,rfl⟩,s2⟩
   exact ⟨⟨_,_,rfl⟩,s.trans (s1.trans s2)⟩
 ·rintro σ H' ⟨⟨o1,o2,rfl⟩,s⟩
  exact q _ s
theorem zdn {kvs:List (List Key × V)} {k:List Key} {v:V}:(yB kvs k v).length≤kvs.length + 1:=by
 unfold yB
 split
 ·rw [bB];lia
 ·rw [bw];simp
structure Sn (kvs:List (List Key × V)) (l:List Row) (i:Nat):Prop where
 le:kvs.length≤i
 no:∀ p,p ∉ l.map (·.1)→yP kvs (zH p)=none
def noI (nl tl th sd:Addr) (no:List Row) (H0:Hp) (i:Nat) (σ:St) (H:Hp):Prop:=∃ kvs,(∃ o4 o5,σ=[some (.ref nl),some (.ref tl),some (.ref th),some (.ref sd),o4,o5])∧Same H0 H∧H sd=some (.dT kvs)∧Sn kvs (no.take i) i
theorem WB {nl tl:Addr} {no tab:List Row} (h1:LsAt H nl no) (h2:LsAt H tl tab) (h3:(no.map (·.1)).Nodup) (h4:∀ r∈no,YJ tab r.1=r.2) (h5:no.length≤500) (h6:tab.length≤500) (q:∀ H',Same H H'→Q (.bl true) H') :
  jj K t { nx:=fun _ H'=>Q .non H',rt:=Q } (L2.start ["notes","table","there","seen","place","worth"] [.ref nl,.ref tl]) H:=by
 simp only [jj,Zz,qf,L2.start,zp,zV,zw,zc,zb,zi,tCB,cC,bM,bP,cb,cj,bd,bh,bi,exists_eq_left',V.ref.injEq,bq,and_true,exists_and_left,bE,bI,bZ,bO]
 obtain ⟨xs,hx,px⟩:=h1
 obtain ⟨ys,hy,py⟩:=h2
 refine ⟨ys,hy,tab,py,by lia,fun th ht=>?_⟩
 have s0:=isV (o:=HO.dT (dOf tab)) th ht
 have e0:upd H th (HO.dT (dOf tab)) th=some (.dT (dOf tab)):=zf
 generalize upd H th (HO.dT (dOf tab))=H0 at *
 intro sd hd
 have s1:=isV (o:=HO.dT []) sd hd
 have e1:upd H0 sd (HO.dT []) sd=some (.dT []):=zf
 generalize upd H0 sd (HO.dT [])=H1 at *
 simp only [kF,wA,Jk,wM,wM,zp,zw,Qm,Ze,Ql,zE,zJ,tOp,zc,tC,v5,zM,tOr,zq,jn,rNe,kH,bd,bi,exists_eq_left',V.ref.injEq,V.bl.injEq,exists_and_left,b7,decide_eq_false_iff_not,if_true,cr,ite_false]
 have lx:=Yq px
 refine ⟨⟨_,SqL.of ((s0.trans s1) _ _ hx)⟩,vf xs (noI nl tl th sd no H0) ⟨[],⟨_,_,rfl⟩,s1,e1,bu _,fun _ _=>rfl⟩ (fun i σ H' ⟨_,_,z,_⟩=>SqL.of (z _ _ (s0 _ _ hx))) ?_ ?_⟩
 ·rintro i v σ H2 hv ⟨kvs,⟨o4,o5,rfl⟩,s2,e2,S⟩
  obtain ⟨g,hg,r,p,rfl,h7,h8⟩:=Wt px hv
  have h7:=(s0.trans s2) _ _ h7
  have h8:=(s0.trans s2) _ _ h8
  have li:=(bp.mp hv).1
  simp only [bd,bh,bi,exists_eq_left',V.ref.injEq,bE,bI]
  have np:g.1 ∉ (no.take i).map (·.1):=fun z=>by
   rw [iF] at z
   have gi:(no.map (·.1))[i]?=some g.1:=by rw [bQ,hg];rfl
   obtain ⟨j,hj⟩:=dD z
   rw [List.getElem?_take] at hj
   split at hj
   ·rename_i jl
    have b1:=(bp.mp hj)
    have:=(lT b1.1 h3).mp (hj.trans gi.symm)
    lia
   ·cases hj
  have g1:DGet H2 sd (.ref p) none:=by
   have:=DGet.t (k:=zH g.1) e2 h8
   rwa [S.no _ np] at this
  have g2:DGet H2 th (.ref p) ((zr tab g.1).map V.int):=by
   have:=DGet.t (k:=zH g.1) (s2 _ _ e0) h8
   rwa [xH] at this
  have ew:((zr tab g.1).map V.int).getD (V.int 0)=V.int g.2:=by
   rw [← h4 g (bF hg)]
   unfold YJ
   cases zr tab g.1 <;> rfl
  refine ⟨_,SqT.of h7,rfl,_,_,rfl,_,_,rfl,rfl,none,g1,?_⟩
  rw [if_neg (by decide)]
  refine ⟨.inr ⟨_,.inl (s2 _ _ e0)⟩,_,g2,?_⟩
  rw [ew]
  refine ⟨rfl,?_⟩
  rw [if_neg (fun z=>z rfl)]
  refine ⟨_,DPut.t (k:=zH g.1) e2 h8 (bY (by have:=S.le;lia:_≤900) (by decide)),yB kvs (zH g.1) (.bl true),⟨_,_,rfl⟩,z8 s2 hd,zf,cf zdn (by have:=S.le;lia),fun p' hp'=>?_⟩
  have tk:no.take (i + 1)=no.take i ++ [g]:=by rw [dL,hg];rfl
  rw [tk,fE,bz,not_or] at hp'
  rw [Z6,if_neg (fun z=>hp'.2 (by rw [xc z];simp)),S.no _ hp'.1]
 ·rintro σ H2 ⟨kvs,⟨o4,o5,rfl⟩,s2,e2,S⟩
  exact q _ (s0.trans s2)
theorem zbD {a b d:Addr} {rows:List Row} {o3:Option V} (h1:H d=some (.dT (dOf rows))) (h2:(dOf rows).length≤900) (q:∀ l out H',Same H H'→H l=none→LsAt H' l out→xS rows out→Q (.ref l) H') :
  vD K t { nx:=fun _ H'=>Q .non H',rt:=Q } [some (.ref a),some (.ref b),some (.ref d),o3] H:=by
 simp only [vD]
 obtain ⟨its,ei,nd,mi⟩:=QN rows
 have li:its.length=(dOf rows).length:=by rw [ei,bB]
 refine ⟨d,_,dOf rows,h1,.inl rfl,fun o=>?_⟩
 have f1:upd H d (.frz o (.dT (dOf rows))) d=some (.frz o (.dT (dOf rows))):=zf
 have back:∀ {H':Hp},Same (upd H d (.frz o (.dT (dOf rows)))) H'→Same H (upd H' d (.dT (dOf rows))):=fun {H'} s b u e=>by
  by_cases c:b=d
  ·subst c
   rw [h1] at e
   cases e
   exact zf
  ·rw [zj c]
   exact s b u (by rw [zj c];exact e)
 have fr0:∀ {b:Addr},upd H d (.frz o (.dT (dOf rows))) b=none→H b=none∧b≠d:=fun {b} e=>by
  by_cases c:b=d
  ·subst c;rw [f1] at e;cases e
  ·rw [zj c] at e;exact ⟨e,c⟩
 generalize upd H d (.frz o (.dT (dOf rows)))=H1 at *
 simp only [zcO,zfp,zw,Qm,Ze,Ql,zE,tOp,zc,tC,yx,zb,zi,zq,tCB,Y3,J8,rNe,kH,cC,bM,bP,bt,bd,bh,bi,exists_eq_left',V.ref.injEq,V.bl.injEq,bq,and_true,exists_and_left,bO,b7,decide_eq_false_iff_not]
 refine ⟨_,_,f1,fun D hD=>?_⟩
 refine K0 (J:=Itm d o (dOf rows)) its.length (by lia) (fun τ=>∃ o1 o2,τ=[o1,o2]) (cIt its) (fun i ys H H' s h=>km s h) ⟨_,_,rfl⟩ .nil (fun i H s h=>⟨s _ _ f1,by lia⟩) (fun H s=>⟨s _ _ f1,by lia⟩) hD ?_ ?_
 ·rintro i v τ ys H4 H5 ⟨x,y,rfl⟩ s4 hi hR ⟨T,k,v',p,hk,rfl,hT,hp,rfl⟩
  have hit:its[i]?=some its[i]:=bg hi
  rw [ei,bQ,hit] at hk
  obtain ⟨ek,ev⟩:=mf (ca hk)
  have s5:=isV (o:=HO.tup [V.ref p,v']) T hT
  simp only [bd,bh,bi,exists_eq_left',V.ref.injEq,bq,and_true,exists_and_left,bE,bI]
  subst ek ev
  have tk:its.take (i + 1)=its.take i ++ [its[i]]:=by rw [dL,hit];rfl
  refine ⟨_,SqT.of zf,rfl,_,_,rfl,_,_,rfl,rfl,rfl,xm (fun c=>⟨by decide,fun p2 hp2=>⟨⟨_,rfl⟩,?_,s5.trans (isV p2 hp2)⟩⟩) fun c=>⟨⟨_,rfl⟩,?_,s5⟩⟩
  ·have hw0:its[i].2≠0:=fun z=>c (by rw [z])
   unfold cIt at hR ⊢
   rw [tk,nN,show [its[i]].filter (fun r:Row=>decide (r.2≠0))=[its[i]] by rw [mq,if_pos (decide_eq_true hw0)];rfl]
   have s6:=s5.trans (isV (o:=HO.tup [V.ref p,V.int its[i].2]) p2 hp2)
   exact Paired.snocP (jH s6 hR) ⟨p2,p,rfl,zf,s6 _ _ hp⟩
  ·have hw0:its[i].2=0:=by simpa using c
   unfold cIt at hR ⊢
   rw [tk,nN,show [its[i]].filter (fun r:Row=>decide (r.2≠0))=[] by rw [mq,if_neg (by rw [decide_eq_true_eq];exact fun z=>z hw0)];rfl,bt]
   exact jH s5 hR
 ·rintro ys H4 hly hR s4 hq
  have hR:Paired (PrAt H4) ys (its.filter fun r=>decide (r.2≠0)):=by
   unfold cIt at hR
   rw [eG] at hR;exact hR
  have nd2:((its.filter fun r=>decide (r.2≠0)).map (·.1)).Nodup:=nK ((nj (l:=its)).map _) nd
  have ln2:=mT (fun r:Row=>decide (r.2≠0)) its
  refine ⟨_,SqL.of hq,_,hR,nd2,by lia,fun l zs srt H5 s5 fl hl hs ris perm=>?_⟩
  have f5:=(s4.trans s5) _ _ f1
  have fl1:=fr0 (zA s4 fl)
  refine ⟨f5,q l srt _ (back (s4.trans s5)) fl1.1 ⟨zs,by rw [zj fl1.2];exact hl,km (fun b us e=>by rw [zj (fun z=>by rw [z,f5] at e;cases e)];exact e) hs⟩ ⟨ris,fun p w=>?_⟩⟩
  rw [perm.mem_iff,iM,mi p w,decide_eq_true_eq]
def llI (a b d:Addr) (tab gifts:List Row) (H0:Hp) (i:Nat) (σ:St) (H:Hp):Prop:=(∃ o3,σ=[some (.ref a),some (.ref b),some (.ref d),o3])∧Same H0 H∧H d=some (.dT (dOf (tab ++ gifts.take i)))
theorem W7 {a b:Addr} {tab gifts:List Row} (h1:LsAt H a tab) (h2:LsAt H b gifts) (h3:Rising gifts) (h4:(tab ++ gifts).length≤900) (q:∀ l out H',Same H H'→LsAt H' l out→xS (tab ++ gifts) out→Q (.ref l) H') :
  j9 K t { nx:=fun _ H'=>Q .non H',rt:=Q } (L2.start ["table","gifts","there","k"] [.ref a,.ref b]) H:=by
 simp only [j9,qF,qf,L2.start,zp,zV,zw,zc,zb,zi,v5,tCB,Zw,Z0,xW,cC,bM,bP,cb,cj,bd,bh,bi,exists_eq_left',V.int.injEq,V.ref.injEq,bq,and_true,exists_and_left,bE,bI,bZ,bO,fT,fb]
 obtain ⟨xs,hx,rx⟩:=h1
 obtain ⟨ys,hy,ry⟩:=h2
 have lx:=Yq rx
 have ly:=Yq ry
 have ld:=yY (tab ++ gifts)
 rw [bw] at h4 ld
 refine ⟨xs,hx,tab,rx,by lia,fun d hd=>?_⟩
 have s0:=isV (o:=HO.dT (dOf tab)) d hd
 have e0:upd H d (HO.dT (dOf tab)) d=some (.dT (dOf (tab ++ gifts.take 0))):=by rw [zf,lC,bt]
 generalize upd H d (HO.dT (dOf tab))=H0 at *
 refine ⟨gifts.length,.inl ⟨_,SqL.of (s0 _ _ hy),ly.symm⟩,by lia,by lia,ZA (llI a b d tab gifts H) ⟨⟨_,rfl⟩,s0,e0⟩ ?_ ?_⟩
 ·rintro i σ H1 hi ⟨⟨o3,rfl⟩,s1,e1⟩
  simp only [qE,zfn,zU,zp,zE,zJ,tOp,zc,tC,zM,ZZ,x9,zq,yn,zU,rI0,bd,bh,bi,exists_eq_left',V.int.injEq,V.ref.injEq,V.bl.injEq,exists_and_left,bE,bI,decide_eq_true_eq,b7,cr,ite_false,Int.zero_add]
  have hi:i < gifts.length:=by lia
  have hv:ys[i]?=some ys[i]:=bg (by lia)
  obtain ⟨g,hg,r,p,er,h5,h6⟩:=Wt ry hv
  have tk:gifts.take (i + 1)=gifts.take i ++ [g]:=by rw [dL,hg];rfl
  have h5:=s1 _ _ h5
  have h6:=s1 _ _ h6
  have hb:=s1 _ _ hy
  have pt:DPut H1 d (.ref p) (.int g.2) (upd H1 d (.dT (dOf (tab ++ gifts.take i ++ [g])))):=zex (q:=g) e1 h6 (by rw [bw,cE];lia)
  have en:llI a b d tab gifts H (i + 1) [some (.ref a),some (.ref b),some (.ref d),some (.int i)] (upd H1 d (.dT (dOf (tab ++ gifts.take i ++ [g])))):=⟨⟨_,rfl⟩,z8 s1 hd,by rw [zf,tk,cg]⟩
  refine xm (fun c=>?_) fun _=>by simp only [vC,wA,zU,tOp,zc,tC,yn,zU,bd,bh,bi,exists_eq_left',V.int.injEq,V.ref.injEq,exists_and_left];exact ⟨_,SqL.of hb,_,w6 hv,r,er,_,SqT.of h5,_,rfl,_,SqL.of hb,_,w6 hv,r,er,_,SqT.of h5,_,rfl,_,pt,en⟩
  have hv':ys[i - 1]?=some ys[i - 1]:=bg (by lia)
  obtain ⟨g',hg',r',p',er',h7,h8⟩:=Wt ry hv'
  have h7:=s1 _ _ h7
  have h8:=s1 _ _ h8
  have ei:((i:Nat):Int) - 1=((i - 1:Nat):Int):=by lia
  have lt:zX g'.1 g.1=true:=by
   have:=cO.mp h3 (i - 1) i (by lia) hi (by lia)
   rw [bg (by lia)] at hg hg'
   rw [ca hg,ca hg'] at this
   exact this
  rw [ei]
  refine ⟨_,SqL.of hb,_,w6 hv',r',er',_,SqT.of h7,_,rfl,_,SqL.of hb,_,w6 hv,r,er,_,SqT.of h5,_,rfl,p',rfl,p,rfl,_,h8,_,h6,?_⟩
  rw [if_neg (by rw [lt];decide)]
  simp only [vC,wA,zU,tOp,zc,tC,yn,zU,bd,bh,bi,exists_eq_left',V.int.injEq,V.ref.injEq,exists_and_left]
  exact ⟨_,SqL.of hb,_,w6 hv,r,er,_,SqT.of h5,_,rfl,_,SqL.of hb,_,w6 hv,r,er,_,SqT.of h5,_,rfl,_,pt,en⟩
 ·rintro σ H1 ⟨⟨o3,rfl⟩,s1,e1⟩
  rw [dJ,eG] at e1
  exact zbD e1 (by lia) fun l out H' s fl la T=>q l out H' (s1.trans s) la T
theorem zdo (C:List Cs) (tb:Pl→Int):∀ (k:Nat) (s:RSt),(∀ r∈s.no,tb r.1=r.2)→∀ r∈(Jy C tb k s).no,tb r.1=r.2
 | 0,s,h=>h
 | k + 1,s,h=>by
  refine zdo C tb k (j3 C tb s) fun r hr=>?_
  rcases zfD C tb s with ⟨_,e⟩ | ⟨p,_,e⟩
  ·rw [e] at hr;exact h r hr
  ·rw [e] at hr
   rcases bz.mp hr with hr | hr
   ·exact h r hr
   ·rw [bD.mp hr]
theorem FedR.tb {C:List Cs} {rows:List Row} {s:RSt} (F:FedR C rows s):∀ r∈s.no,YJ rows r.1=r.2:=by
 obtain ⟨k,e⟩:=F.rc
 rw [← e]
 exact zdo C (YJ rows) k st0 fun r h=>nomatch h
theorem TaN.tab {tab:List Row} (h:TaN tab):xS tab tab:=⟨h.ri,fun p w=>⟨fun z=>⟨(jS h.ri.nd).mpr z,(h.ok _ z).2⟩,fun z=>(jS h.ri.nd).mp z.1⟩⟩
theorem zdp {x y:Option Int} {w:Int} (h:x.getD 0=y.getD 0) (k:x=some w∧w≠0):y=some w∧w≠0:=by
 obtain ⟨rfl,n⟩:=k
 cases y with
 | none=>exact absurd h n
 | some v =>
  have h:w=v:=h
  rw [h]
  exact ⟨rfl,by rw [← h];exact n⟩
theorem VP (p:Pl) (b:List Row):∀ (a:List Row),zr (a ++ b) p=(zr b p).or (zr a p)
 | []=>by rw [cj];show _=Option.or _ none;rw [oF]
 | r :: t=>by
  show (zr (t ++ b) p).or _=(zr b p).or ((zr t p).or _)
  rw [VP p b t,Option.or_assoc]
theorem zbE {r:Rws} {rows out gi:List Row} {oc:Oc} {s:RSt} (N:TaN rows) (A:vp r rows oc out) (F:FedR (zm r 0) rows s) (G:vS s gi):oc=wO s∧xS (rows ++ gi) out:=by
 have h:=Q5 (tb:=YJ rows) (r:=r) (s:=st0) (st:=⟨[],rows,[]⟩) rfl ⟨rfl,rfl,fun p=>rfl,fun p w h=>nomatch h⟩ rfl
 have broke:∀ {w:Str},s.why=some w→oc=.off w→out=rows→oc=wO s∧xS (rows ++ gi) out:=fun {w} e1 e2 e3=>by
  unfold vS at G
  unfold wO
  rw [e1] at G ⊢
  rw [G,bt,e3]
  exact ⟨e2,N.tab⟩
 unfold vp at A
 cases hg:yH r ⟨[],rows,[]⟩ with
 | go st =>
  rw [hg] at A h
  obtain ⟨s',rc,n,w,R⟩:=h
  have e:=qN F.rc rc F.ov (by unfold yh;rw [n,decide_eq_true (bu _),Bool.or_true])
  subst e
  obtain ⟨a1,a2⟩:=A
  unfold vS at G
  unfold wO
  rw [w] at G ⊢
  refine ⟨by rw [a1,R.sa],a2.1,fun p v=>?_⟩
  have eg:zr gi p=zr s.gi p:=by
   cases hh:zr s.gi p with
   | some u=>exact (jS G.1.nd).mpr ((G.2 p u).mpr hh)
   | none =>
    cases h2:zr gi p with
    | none=>rfl
    | some u=>rw [(G.2 p u).mp ((jS G.1.nd).mp h2)] at hh;cases hh
  have ew:(zr st.wo p).getD 0=(zr (rows ++ gi) p).getD 0:=by
   rw [R.wo p,VP,eg]
   cases zr s.gi p <;> rfl
  exact (a2.2 p v).trans ⟨zdp ew,zdp ew.symm⟩
 | off =>
  rw [hg] at A h
  obtain ⟨s',rc,w⟩:=h
  have e:=qN F.rc rc F.ov (by unfold yh;rw [w];rfl)
  subst e
  exact broke w A.1 A.2
 | er e =>
  rw [hg] at A h
  obtain ⟨s',rc,w⟩:=h
  have e:=qN F.rc rc F.ov (by unfold yh;rw [w];rfl)
  subst e
  exact broke w A.1 A.2
theorem zeA {C:List Cs} {rows:List Row} {s s2:RSt} (F:FedR C rows s) (F2:FedR C rows s2):s2=s:=qN F2.rc F.rc F2.ov F.ov
section
variable {C:List Cs} {rows gi out:List Row} {s:RSt}
theorem zdq (F:FedR C rows s) (G:vS s gi):(∀ r∈gi,zfq r)∧gi.length≤C.length:=by
 obtain ⟨m,_,I⟩:=F.ri
 have:=zdb G
 have:=F.fw
 exact ⟨fun r hr=>⟨zfF I G r hr,zeQ I G r hr⟩,by lia⟩
theorem za2 (N:TaN rows) (F:FedR C rows s) (G:vS s gi) (T:xS (rows ++ gi) out):TaN out∧out.length≤rows.length + C.length:=by
 obtain ⟨g1,g2⟩:=zdq F G
 have l1:=zdj T
 have l2:=yY (rows ++ gi)
 rw [bw] at l2
 refine ⟨⟨T.1,fun r hr=>?_⟩,by lia⟩
 obtain ⟨h1,h2⟩:=(T.2 r.1 r.2).mp hr
 have h3:=Yr h1
 rcases bz.mp h3 with h | h
 ·exact ⟨(N.ok _ h).1,h2⟩
 ·exact ⟨g1 _ h,h2⟩
end
theorem zfI {r:Rws} {tab:List Row} (h1:kO 6 r) (h2:yq r) (h3:r.cnt≤40) (N:TaN tab) (hl:tab.length≤400):KN r tab:=by
 refine ⟨h2,h1.dp,fun r hr=>(N.ok r hr).1.1,by lia,fun s hg=>?_⟩
 have:=(Yh r ⟨fun k v e=>(by cases e),fun r hr=>(N.ok r hr).1.1,b9 _,bu _,b9 _⟩ h2 hg).l2
 have:=yY s.wo
 have e:(Sta.mk [] tab []).wo.length=tab.length:=rfl
 lia
structure DnS (H:Hp) (v:V) (tl l hd gv rp:Addr) (o:V) (nl gl:Addr) (xs:List V) (r:Rws) (tab gi:List Row) (s:RSt):Prop where
 rl:kL vc H v r
 ta:LsAt H tl tab
 hl:H l=some (.lst xs)
 hc:Paired (CsAt H) xs (zm r 0)
 hh:H hd=some (.lst xs)
 gv:LsAt H gv tab
 pa:H rp=some (.tup [o,.ref nl,.ref gl])
 oc:Zd H o (wO s)
 no:LsAt H nl s.no
 gi:LsAt H gl gi
structure DnP (r:Rws) (tab gi:List Row) (s:RSt):Prop where
 ok:kO 6 r
 rk:yq r
 le:(zm r 0).length≤40
 ct:r.cnt≤40
 N:TaN tab
 lt:tab.length≤400
 F:FedR (zm r 0) tab s
 G:vS s gi
section
variable {v o:V} {tl l hd gv rp nl gl:Addr} {xs:List V} {r:Rws} {tab gi out:List Row} {s:RSt} {H0:Hp} {ol oo:Addr}
theorem DnS.same {H':Hp} (S:DnS H v tl l hd gv rp o nl gl xs r tab gi s) (k:Same H H'):DnS H' v tl l hd gv rp o nl gl xs r tab gi s :=
 ⟨za1 k S.rl,xJ S.ta k,k _ _ S.hl,x5 k S.hc,k _ _ S.hh,xJ S.gv k,k _ _ S.pa,JF S.oc k,xJ S.no k,xJ S.gi k⟩
theorem TaN.sok (N:TaN tab):∀ r∈tab,b6 r.1.1=true:=fun r hr=>(N.ok r hr).1.2
theorem zdr (N:TaN tab):zI (.list (tab.map XB))=true∧(oE (tab.map XB)).depth≤64:=⟨Wr N.sok,by have:=JE tab;lia⟩
theorem VQ (P:DnP r tab gi s) (S:DnS H v tl l hd gv rp o nl gl xs r tab gi s) (q:∀ H',Same H H'→Q (.ref ol) H') :
  vE K t { nx:=fun _ H'=>Q .non H',rt:=Q } [some v,some (.ref tl),some (.ref l),some (.ref hd),some (.ref gv),some (.ref rp),some (.ref oo),some (.ref ol)] H:=by
 simp only [vE,YK,WI,zp,zE,zJ,tOp,zc,tC,zb,zi,zM,tOr,zq,zo,bt,bd,bh,bi,exists_eq_left',V.ref.injEq,V.bl.injEq,bq,and_true,and_assoc,exists_and_left,b7,if_true]
 have cp:∀ c∈zm r 0,csP c:=qO r 0 P.ok.pl
 have pl:=VO cp
 have d1:zI (.list ((zm r 0).map csD))=true∧(oE ((zm r 0).map csD)).depth≤64:=by rw [zI,cK];exact ⟨pl.1,by lia⟩
 refine ⟨_,.lst (SqL.of S.hh) (JK S.hc cp),_,.lst (SqL.of S.hl) (JK S.hc cp),d1.1,d1.1,d1.2,d1.2,fun b hb=>?_⟩
 rw [hb.mpr rfl,if_neg (by decide)]
 obtain ⟨t1,t2⟩:=zdr P.N
 refine ⟨_,YV S.gv,_,YV S.ta,t1,t1,t2,t2,fun b hb=>?_⟩
 rw [hb.mpr rfl,if_neg (by decide)]
 refine ⟨xs,S.hh,zm r 0,S.hc,zeP P.ok P.rk P.le,tab,S.gv,by have:=P.lt;lia,fun q hq=>(P.N.ok q hq).1.1,fun r2 s2 H2 k2 F2 P2=>?_⟩
 obtain rfl:=zeA P.F F2
 obtain ⟨m,_,I⟩:=P.F.ri
 have S2:=S.same k2
 obtain ⟨D,e1,e2,e3,e4⟩:=zf9 (K:=K) (H1:=fun _=>none) I ⟨o,nl,gl,gi,S2.pa,S2.oc,S2.no,S2.gi,P.G,rfl,rfl⟩ P2
 refine ⟨_,e2,_,e1,e3,e3,e4,e4,fun b hb=>?_⟩
 rw [hb.mpr rfl,if_neg (by decide)]
 exact q _ k2
theorem zbF (P:DnP r tab gi s) (S:DnS H v tl l hd gv rp o nl gl xs r tab gi s) (ho:Zd H (.ref oo) (wO s)) (q:∀ H',Same H H'→Q (.ref ol) H') :
  vF K t { nx:=fun _ H'=>Q .non H',rt:=Q } [some v,some (.ref tl),some (.ref l),some (.ref hd),some (.ref gv),some (.ref rp),some (.ref oo),some (.ref ol)] H:=by
 simp only [vF,QO,zU,zp,zE,zJ,tOp,zc,tC,xo,zi,zM,ZZ,zq,zU,rEq,kH,bP,bd,bh,bi,exists_eq_left',V.int.injEq,V.ref.injEq,V.bl.injEq,exists_and_left,decide_eq_true_eq,b7,decide_eq_false_iff_not,cr,ite_false]
 cases ho':wO s with
 | done sa =>
  rw [ho'] at ho
  obtain ⟨o',y,eo,h1,_⟩:=ho
  cases eo
  refine ⟨_,SqT.of h1,_,rfl,rfl,?_⟩
  rw [if_neg (by decide)]
  exact VQ P S q
 | off w =>
  rw [ho'] at ho
  obtain ⟨o',eo,h1⟩:=ho
  cases eo
  refine ⟨_,SqT.of h1,_,rfl,rfl,?_⟩
  rw [if_pos rfl]
  have g0:gi=[]:=by
   have G:=P.G
   unfold wO at ho'
   unfold vS at G
   cases hw:s.why with
   | none=>rw [hw] at ho';cases ho'
   | some u=>rw [hw] at G;exact G
  obtain ⟨ys,hy,py⟩:=S.gi
  rw [g0] at py
  cases py
  refine ⟨_,SqT.of S.pa,_,rfl,by decide,fun p hp=>?_⟩
  have s1:=isV (o:=HO.lst []) p hp
  refine ⟨gl,rfl,_,SqL.of (s1 _ _ hy),SqL.of zf,?_⟩
  rw [if_neg (fun z=>z rfl)]
  exact VQ P (S.same s1) fun H' k=>q H' (s1.trans k)
theorem zbG (P:DnP r tab gi s) (S:DnS H v tl l hd gv rp o nl gl xs r tab gi s) (ho:Zd H (.ref oo) (wO s)) (hl:LsAt H ol out) (T:xS (tab ++ gi) out) (q:∀ H',Same H H'→Q (.ref ol) H') :
  vG K t { nx:=fun _ H'=>Q .non H',rt:=Q } [some v,some (.ref tl),some (.ref l),some (.ref hd),some (.ref gv),some (.ref rp),some (.ref oo),some (.ref ol)] H:=by
 simp only [vG,je,j4,WI,zU,zp,zE,zJ,tOp,zc,tC,zb,zi,zM,tOr,x9,zq,tB,zo,zU,bt,bd,bh,bi,exists_eq_left',V.int.injEq,V.ref.injEq,V.bl.injEq,bq,and_true,and_assoc,exists_and_left,b7,if_true]
 obtain ⟨m,_,I⟩:=P.F.ri
 have op:=K8 (zdi I)
 have od:(ocD (wO s)).depth≤64:=by have:=zaY (wO s);lia
 obtain ⟨N2,l2⟩:=za2 P.N P.F P.G T
 obtain ⟨g1,g2⟩:=zdq P.F P.G
 have fw:=P.F.fw
 have le:=P.le
 have lt:=P.lt
 refine ⟨_,SqT.of S.pa,_,rfl,_,Q0 S.oc,_,Q0 ho,op,op,od,od,fun b hb=>?_⟩
 rw [hb.mpr rfl,if_neg (by decide)]
 refine ⟨_,SqT.of S.pa,_,rfl,nl,rfl,s.no,S.no,tab,S.ta,I.ok.nd,P.F.tb,by lia,by lia,fun H1 s1=>?_⟩
 rw [if_neg (by decide)]
 have S1:=S.same s1
 have ri:Rising gi:=by
  have G:=P.G
  unfold vS at G
  cases hw:s.why with
  | none=>rw [hw] at G;exact G.1
  | some u=>rw [hw] at G;rw [G];exact lN
 refine ⟨_,SqT.of S1.pa,_,rfl,gl,rfl,tab,S1.ta,gi,S1.gi,ri,by rw [bw];lia,fun l3 out3 H2 s2 h3 T3=>?_⟩
 obtain rfl:=zcx T3 T
 obtain ⟨t1,t2⟩:=zdr N2
 refine ⟨_,YV h3,_,YV (xJ hl (s1.trans s2)),t1,t1,t2,t2,fun b hb=>?_⟩
 rw [hb.mpr rfl,if_neg (by decide)]
 exact zbF P (S1.same s2) (JF ho (s1.trans s2)) fun H' k=>q H' (s1.trans (s2.trans k))
theorem zbH (P:DnP r tab gi s) (S:DnS H v tl l hd gv rp o nl gl xs r tab gi s) (q:∀ ol out H',Same H H'→LsAt H' ol out→TaN out→out.length≤tab.length + (zm r 0).length→Q (.ref ol) H') :
  vH K t { nx:=fun _ H'=>Q .non H',rt:=Q } [some v,some (.ref tl),some (.ref l),some (.ref hd),some (.ref gv),some (.ref rp),none,none] H:=by
 simp only [vH,xI,zU,zp,zE,zJ,tOp,zc,tC,zb,zi,zM,tOr,x9,zq,tB,tCB,zo,Zw,zU,rNe,xW,kJ,kH,bt,bd,bh,bi,exists_eq_left',V.int.injEq,V.ref.injEq,V.bl.injEq,V.ty.injEq,bq,and_true,true_and,and_assoc,exists_and_left,b7,decide_eq_false_iff_not,if_true]
 refine ⟨_,.tup S.pa,true,wK _,?_⟩
 rw [if_neg (by decide)]
 refine ⟨3,.inr ⟨_,SqT.of S.pa,rfl⟩,?_⟩
 rw [if_neg (by decide)]
 refine ⟨_,SqT.of S.pa,_,rfl,nl,rfl,_,S.no,fun H1 s1=>?_⟩
 rw [if_neg (by decide)]
 have S1:=S.same s1
 refine ⟨_,SqT.of S1.pa,_,rfl,gl,rfl,_,S1.gi,fun H2 s2=>?_⟩
 rw [if_neg (by decide)]
 have S2:=S1.same s2
 simp only [qG,Wm,Ke,zp,zV,zw,Qm,Ze,Ql,zc,zb,zi,tCB,zo,bt,bd,bh,bi,exists_eq_left',V.ref.injEq,bq,and_true,and_assoc,exists_and_left,bE,bI]
 obtain ⟨ys,hy,py⟩:=S2.ta
 refine ⟨_,.inl (SqL.of hy),fun p hp=>?_⟩
 have s3:=isV (o:=HO.lst ys) p hp
 have e3:upd H2 p (HO.lst ys) p=some (.lst ys):=zf
 generalize upd H2 p (HO.lst ys)=H3 at *
 have S3:=S2.same s3
 refine ⟨r,S3.rl,tab,⟨ys,e3,jH s3 py⟩,zfI P.ok P.rk P.ct P.N P.lt,fun ra o' ol oc out H4 s4 f4 e4 ho hl A=>?_⟩
 obtain ⟨eo,T⟩:=zbE P.N A P.F P.G
 rw [eo] at ho
 obtain ⟨N2,l2⟩:=za2 P.N P.F P.G T
 have oo:∃ x,o'=.ref x:=by
  revert ho
  cases wO s with
  | done sa=>rintro ⟨x,_,e,_⟩;exact ⟨x,e⟩
  | off w=>rintro ⟨x,e,_⟩;exact ⟨x,e⟩
 obtain ⟨oo,rfl⟩:=oo
 refine ⟨_,SqT.of e4,rfl,_,_,rfl,_,_,rfl,rfl,?_⟩
 exact zbG P (S3.same s4) ho hl T fun H' k=>q ol out H' (s1.trans (s2.trans (s3.trans (s4.trans k)))) (xJ hl k) N2 l2
theorem W8 (h1:kL vc H v r) (h2:kO 6 r) (h3:yq r) (h4:(zm r 0).length≤40) (h5:r.cnt≤40) (h6:LsAt H tl tab) (h7:TaN tab) (h8:tab.length≤400) (q:∀ ol out H',Same H H'→LsAt H' ol out→TaN out→out.length≤tab.length + (zm r 0).length→Q (.ref ol) H') :
  ka K t { nx:=fun _ H'=>Q .non H',rt:=Q } (L2.start ["rows","table","code","handed","given","paper","outcome","behind"] [v,.ref tl]) H:=by
 simp only [ka,ZQ,YK,L2.start,Ke,zp,zV,zw,zc,zb,zi,tCB,zo,cC,bM,bP,cb,cj,bt,bd,bh,bi,exists_eq_left',V.ref.injEq,bq,and_true,and_assoc,exists_and_left,bE,bI,bZ,bO]
 refine ⟨r,h1,h2,by lia,fun l xs H1 s1 fl hl hc=>⟨_,.inl (SqL.of hl),fun hd hhd=>?_⟩⟩
 have s2:=isV (o:=HO.lst xs) hd hhd
 have e2:upd H1 hd (HO.lst xs) hd=some (.lst xs):=zf
 generalize upd H1 hd (HO.lst xs)=H2 at *
 obtain ⟨ys,hy,py⟩:=h6
 have S2:=s1.trans s2
 refine ⟨_,.inl (SqL.of (S2 _ _ hy)),fun gv hgv=>?_⟩
 have s3:=isV (o:=HO.lst ys) gv hgv
 have e3:upd H2 gv (HO.lst ys) gv=some (.lst ys):=zf
 generalize upd H2 gv (HO.lst ys)=H3 at *
 have S3:=S2.trans s3
 refine ⟨xs,s3 _ _ e2,zm r 0,x5 (s2.trans s3) hc,zeP h2 h3 h4,tab,⟨ys,e3,jH S3 py⟩,by lia,fun q hq=>(h7.ok q hq).1.1,fun rp s H4 s4 F P=>?_⟩
 obtain ⟨o,nl,gl,gi,a1,a2,a3,a4,a5,_,_⟩:=P
 have U:=S3.trans s4
 exact zbH ⟨h2,h3,h4,h5,h7,h8,F,a5⟩ ⟨za1 U h1,⟨ys,U _ _ hy,jH U py⟩,(s2.trans (s3.trans s4)) _ _ hl,x5 (s2.trans (s3.trans s4)) hc,(s3.trans s4) _ _ e2,⟨ys,s4 _ _ e3,jH U py⟩,a1,a2,a3,a4⟩ fun ol out H' k hl N l2=>q ol out H' (U.trans k) hl N l2
end
theorem zfJ {F:Addr→Prop} {v:V} {r:Rws} (h:kL F H v r):kL vc H v r:=by
 obtain ⟨l,xs,rfl,_,h2,h3⟩:=h
 exact ⟨l,xs,rfl,trivial,h2,RwsAt.to _ (fun _ _ _ _=>trivial) (fun b o _ e=>e) h3⟩
theorem svV {H H':Hp} {a:Addr} {o:HO} (e:upd H a o=H') (h:H a=none):Same H H':=e ▸ isV a h
def lwI (a sa sb cl:Addr) (mn:Int) (H:Hp) (i:Nat) (σ:St) (H':Hp):Prop:=∃ tl tab,(∃ o6,σ=[some (.ref a),some (.ref sa),some (.ref sb),some (.ref tl),some (.int mn),some (.ref cl),o6])∧Same H H'∧LsAt H' tl tab∧TaN tab∧((tab.length:Nat):Int)≤7 + 2 * (i * mn)
theorem zds {a sa sb cl tl:Addr} {mn:Int} {cs:List Int} {ws us:List Str} {tab:List Row} (n1:NamesAt H sa ws) (n2:ws.length=3) (n3:NamesAt H sb us) (n4:us.length=3) (hc:H cl=some (.lst (cs.map V.int))) (lc:cs.length≤63) (m1:1≤mn) (m2:mn≤18) (ht:LsAt H tl tab) (N:TaN tab) (lt:tab.length≤7) (q:∀ H',Q (.bl true) H') :
  Wo K t { nx:=fun _ H'=>Q .non H',rt:=Q } [some (.ref a),some (.ref sa),some (.ref sb),some (.ref tl),some (.int mn),some (.ref cl),none] H:=by
 simp only [Wo,zcF,zp,zw,zc,tC,zb,zi,v5,tCB,Zw,xW,bd,bh,bi,exists_eq_left',V.int.injEq,bq,and_true,and_assoc,exists_and_left]
 have lm:(cs.map V.int).length=cs.length:=bB ..
 refine ⟨cs.length,.inl ⟨_,SqL.of hc,by rw [lm]⟩,by lia,by lia,by lia,by lia,by lia,by lia,K9 (lwI a sa sb cl mn H) ⟨tl,tab,⟨_,rfl⟩,Same.refl H,ht,N,by lia⟩ ?_ ?_⟩
 ·rintro i σ H1 hi ⟨tl,tab,⟨o6,rfl⟩,s1,ht,N,lt⟩
  simp only [KP,j0,j5,zp,zV,zw,tOp,zc,zb,zi,tSl,kt,zo,rI0,zbU,bt,bd,bh,bi,exists_eq_left',V.int.injEq,V.ref.injEq,bq,and_true,and_assoc,exists_and_left,bE,bI,Int.zero_add]
  refine ⟨_,SqL.of (s1 _ _ hc),fun p hp=>?_⟩
  have lti:=zdk (by lia) (by lia) hi
  have im:0≤(i:Int) * mn:=Int.mul_nonneg (by lia) (by lia)
  obtain ⟨k,ek⟩:∃ k:Nat,(i:Int) * mn=k:=⟨((i:Int) * mn).toNat,(e9 im).symm⟩
  obtain ⟨m,em⟩:∃ m:Nat,mn=m:=⟨mn.toNat,by lia⟩
  obtain ⟨es,ee,le⟩:=zey cs k m (by lia) (by lia)
  have e2:(i:Int) * mn + mn=((k + m:Nat):Int):=by rw [ek,em];lia
  have e3:((i + 1:Nat):Int) * mn=(i:Int) * mn + mn:=by rw [Int.natCast_add,oB];lia
  rw [e2,ek,ee]
  have s2:=isV (o:=HO.lst (es.map V.int)) p hp
  have S2:=s1.trans s2
  have hp2:upd H1 p (HO.lst (es.map V.int)) p=some (.lst (es.map V.int)):=zf
  generalize upd H1 p (HO.lst (es.map V.int))=H2 at *
  refine ⟨es,hp2,by lia,ws,n1.same S2,n2,us,n3.same S2,n4,fun v r H3 s3 hv ok rk cl1 cl2=>?_⟩
  have S3:=S2.trans s3
  refine ⟨r,zfJ hv,ok,rk,by lia,by lia,tab,xJ ht (s2.trans s3),N,by lia,fun ol out H4 s4 hl N4 l4=>?_⟩
  obtain ⟨ys,hy,py⟩:=id hl
  simp only [KO,zE,zJ,zc,tC,zb,zi,zM,x9,tB,tCB,kJ,bd,bh,bi,exists_eq_left',V.bl.injEq,V.ty.injEq,bq,and_true,and_assoc,exists_and_left,b7]
  refine ⟨_,.lst hy,true,wK _,?_⟩
  rw [if_neg (by decide)]
  exact ⟨ol,out,⟨_,rfl⟩,S3.trans s4,hl,N4,by rw [e3];lia⟩
 ·rintro σ H1 ⟨tl,tab,⟨o6,rfl⟩,s1,ht,N,lt⟩
  have lim:=zfz (j:=(cs.length:Int)) (c:=mn) (by lia) (by lia)
  have lt5:tab.length≤500:=by
   cases hc0:Xk 0 (cs.length:Int) mn with
   | zero=>rw [hc0] at lt;lia
   | succ n =>
    have h1:=zdk (i:=n) (j:=(cs.length:Int)) (c:=mn) (by lia) (by lia) (by rw [hc0];exact ml n)
    have e3:((n + 1:Nat):Int) * mn=(n:Int) * mn + mn:=by rw [Int.natCast_add,oB];lia
    rw [hc0,e3] at lt
    lia
  refine ⟨b9 _,fun p hp=>?_⟩
  have s2:=isV (o:=HO.lst []) p hp
  have e2:upd H1 p (HO.lst []) p=some (.lst []):=zf
  generalize upd H1 p (HO.lst [])=H2 at *
  refine ⟨_,rfl,p,tl,[],[],tab,rfl,e2,.nil,⟨(fun c h=>nomatch h),(fun c h=>nomatch h),(fun i to e h=>by cases h),(fun i to h=>by cases h),by decide⟩,xJ ht s2,lt5,fun r hr=>(N.ok r hr).1.1,fun r s H3 s3 F P=>?_⟩
  obtain rfl:s=st0:=qN F.rc (Rch.refl _ _ _) F.ov rfl
  obtain ⟨o,nl,gl,gi,a1,a2,a3,a4,a5,_,_⟩:=P
  obtain rfl:gi=[]:=by
   have:=zdb a5
   exact List.length_eq_zero_iff.mp (Nat.le_zero.mp this)
  refine ⟨b9 _,fun p1 g1=>?_⟩
  generalize f1:upd H3 p1 _=H4
  have k1:=svV f1 g1
  have e4:H4 p1=some (.tup []):=f1 ▸ zf
  refine ⟨by show (2:Nat)≤sizeLine;decide,fun p2 g2=>?_⟩
  generalize f2:upd H4 p2 _=H5
  have k2:=svV f2 g2
  have e5:H5 p2=some (.tup [.str (bb "done"),.ref p1]):=f2 ▸ zf
  refine ⟨b9 _,fun p3 g3=>?_⟩
  generalize f3:upd H5 p3 _=H6
  have k3:=svV f3 g3
  have e6:H6 p3=some (.lst []):=f3 ▸ zf
  refine ⟨b9 _,fun p4 g4=>?_⟩
  generalize f4:upd H6 p4 _=H7
  have k4:=svV f4 g4
  have e7:H7 p4=some (.lst []):=f4 ▸ zf
  refine ⟨by show (3:Nat)≤sizeLine;decide,fun p5 g5=>?_⟩
  generalize f5:upd H7 p5 _=H8
  have k5:=svV f5 g5
  have e8:H8 p5=some (.tup [.ref p2,.ref p3,.ref p4]):=f5 ▸ zf
  have U:=k1.trans (k2.trans (k3.trans (k4.trans k5)))
  have pl:zI (ppD (wO st0) st0.no [])=true∧(ppD (wO st0) st0.no []).depth≤64:=by decide +kernel
  refine ⟨_,_,Q1 (U _ _ a1) (JF a2 U) (xJ a3 U) (xJ a4 U),.tup (SqT.of e8) (.cons (.tup (SqT.of ((k3.trans (k4.trans k5)) _ _ e5)) (.cons (.str _) (.cons (.tup (SqT.of ((k2.trans (k3.trans (k4.trans k5))) _ _ e4)) .nil) .nil))) (.cons (.lst (SqL.of ((k4.trans k5) _ _ e6)) .nil) (.cons (.lst (SqL.of (k5 _ _ e7)) .nil) .nil))),⟨pl.1,pl.1,pl.2,pl.2⟩,fun b hb=>?_⟩
  rw [hb.mpr rfl]
  exact q _
theorem zeB {a:Addr} {ns:List Int} (hS:SqL K H a (ns.map V.int)) (hn:ns.length≤63) (q:∀ H',Q (.bl true) H') :
  QU K t { nx:=fun _ H'=>Q .non H',rt:=Q } (L2.start ["script","slots","shelves","table","many","cells","at"] [.ref a]) H:=by
 simp only [QU,KQ,yI,zl,wx,jd,L2.start,zp,zV,zw,tOp,zc,tC,zb,zi,tSl,kt,w5,zo,rI,rI0,zbU,cC,bM,bP,cb,cj,bt,bd,bh,bi,exists_eq_left',V.int.injEq,V.ref.injEq,bq,and_true,and_assoc,exists_and_left,bE,bI,bZ,bO]
 refine ⟨ns,0,rfl,hS,hn,fun c1 H1 s1=>⟨by decide,by decide,fun sa ws H2 s2 n1 n2=>⟨ns,1,rfl,hS.mono (s1.trans s2),hn,fun c2 H3 s3=>⟨by decide,by decide,fun sb us H4 s4 n3 n4=>?_⟩⟩⟩⟩
 have S4:=s1.trans (s2.trans (s3.trans s4))
 refine ⟨ns,2,rfl,hS.mono S4,hn,fun c3 H5 s5=>⟨us,n3.same s5,by lia,fun tl tab H6 s6 ht N lt=>?_⟩⟩
 have S6:=S4.trans (s5.trans s6)
 refine ⟨ns,0,rfl,hS.mono S6,hn,fun c4 H7 s7=>⟨by decide,by decide,fun r H8 a8 b8 s8=>⟨by decide,_,hS.mono (S6.trans (s7.trans s8)),fun p hp=>?_⟩⟩⟩
 obtain ⟨cs,ec,lc⟩:=zer ns none (some 120)
 rw [ec]
 have s9:=isV (o:=HO.lst (cs.map V.int)) p hp
 have g1:=du r (b:=18) (by decide)
 have g2:=cT r (b:=18) (by decide)
 have U:=s7.trans (s8.trans s9)
 exact zds (n1.same (s3.trans (s4.trans (s5.trans (s6.trans U))))) (by lia) (n3.same (s5.trans (s6.trans U))) (by lia) zf (by lia) (by lia) (by lia) (xJ ht U) N lt q
section
variable {x:Addr} {a:RAd} {C:List Cs} {s:RSt} {E:XK} {σ:St}
theorem qP {k:Int} {p te:Addr} {xs e:List V} (R:RnAt t H x a C s) (so:yo s.sl) (h0:σ[0]?=some (some (.ref x))) (h1:σ[1]?=some (some (.ref p))) (e2:H p=some (.tup xs)) (ek:atI xs k=some (.ref te)) (e3:H te=some (.tup e)) (ok:TermOk e) (q:∀ H1,Same H H1→fin t (rk s.sl e) Q E H1) :
  yt t.c_Run "worth_of" (yc t) [] E (zc 0) (zb (tOp (zU K) (zc 1) (tC (.int k))) zi) σ H Q :=
 ⟨_,h0,x,_,_,rfl,R.ix,rfl,kM h1 e2 ek ⟨x,te,e,a,C,s,rfl,R,so,e3,ok,q⟩⟩
theorem Qc {p te:Addr} {xs e:List V} {sh:Str} (R:RnAt t H x a C s) (so:yo s.sl) (h0:σ[0]?=some (some (.ref x))) (h1:σ[1]?=some (some (.ref p))) (e2:H p=some (.tup xs)) (i1:atI xs 1=some (.str sh)) (i2:atI xs 2=some (.ref te)) (e3:H te=some (.tup e)) (ok:TermOk e) (q1:∀ i q H',rk s.sl e=.ok i→Same H H'→H' q=some (.tup [.str sh,.int i])→Q (.ref q) H') (q2:∀ er H',rk s.sl e=.error er→Same H H'→Xq t er E H') :
  yt t.c_Run "place_in" (y8 t) [] E (zc 0) (zb (zc 1) zi) σ H Q :=
 ⟨_,h0,x,_,_,rfl,R.ix,rfl,_,h1,x,p,xs,sh,te,e,a,C,s,rfl,R,so,e2,i1,i2,e3,ok,q1,q2⟩
theorem JL {v:V} {r:Rw} {w:Int} {m:Nat} (F:RnF K t) (R:RnAt t H x a C s) (h1:RwAt vc H v r) (h2:wN r) (h3:xG r) (h4:RnOk m s) (h5:m≤900)
  (q1:∀ H' s',doR r w s=.ok s'→Kp x a H H'→RnAt t H' x a C s'→Q .non H') (q2:∀ H' er,doR r w s=.error er→Same H H'→Xq t er E H') :
  Xh K t E { nx:=fun _ H'=>Q .non H',rt:=Q } (L2.start ["self","due","worth","place"] [.ref x,v,.int w]) H:=by
 have l1:=h4.l1
 have l2:=h4.l2
 have l4:=h4.l4
 have so:=h4.so
 cases r with
 | take sh e sl' =>
  unfold RwAt at h1
  unfold xG at h3
  obtain ⟨r,te,rfl,_,_,e2,e3⟩:=h1
  refine xD rfl e2 rfl (fun _=>?_) fun z=>absurd rfl z
  refine ⟨_,rfl,x,_,_,rfl,R.ix,rfl,Qc R so rfl rfl e2 rfl rfl e3 h3 (fun i q H1 hk s1 hq=>?_) fun er H1 hk s1=>q2 H1 er (by unfold doR;simp only [hk]) s1⟩
  have R1:=R.same s1
  refine ⟨_,rfl,x,q,(sh,i),w,a,C,s,rfl,R1,hq,by have:=h4.l3;lia,fun H2 K2 R2=>?_⟩
  have hs2:=R2.hs
  rw [zc2] at hs2
  exact wY rfl R2.ix F.cl F.n4 rfl (kM rfl (K2 _ _ (R1.notup (s1 _ _ e2)) (s1 _ _ e2)) rfl ⟨_,_,rfl,DPut.k (k:=.inr sl') hs2 (bY (by lia:_≤900) (by decide)),q1 _ _ (by unfold doR;simp only [hk]) ((Kp.of_same s1).trans (K2.trans (wp (.inr (.inl rfl))))) (R2.putS _)⟩)
 | give sh e f =>
  unfold RwAt at h1
  unfold xG at h3
  obtain ⟨r,te,tf,rfl,_,_,_,e2,e3,e4⟩:=h1
  refine xD rfl e2 rfl (fun z=>absurd z (by decide +kernel)) fun _=>xD rfl e2 rfl (fun _=>?_) fun z=>absurd rfl z
  refine Qc R so rfl rfl e2 rfl rfl e3 h3.1 (fun i q H1 hk s1 hq=>?_) fun er H1 hk s1=>q2 H1 er (by unfold doR;simp only [hk]) s1
  have R1:=R.same s1
  refine qP R1 so rfl rfl (s1 _ _ e2) rfl (s1 _ _ e4) h3.2 fun H3 s3=>?_
  cases hk2:rk s.sl f with
  | error er=>exact fin_err.mpr (q2 H3 er (by unfold doR;simp only [hk,hk2]) (s1.trans s3))
  | ok n =>
   have R3:=R1.same s3
   have ld:=yY s.gi
   refine fin_ok.mpr (wY rfl R3.ix F.cl F.n5 rfl ⟨_,rfl,_,_,rfl,DPut.t (k:=zH (sh,i)) R3.hg (s3 _ _ hq) (bY (by lia:_≤900) (by decide)),?_⟩)
   rw [show yB (dOf s.gi) (zH (sh,i)) (V.int n)=dOf (s.gi ++ [((sh,i),n)]) from (vn s.gi ((sh,i),n)).symm]
   exact q1 _ _ (by unfold doR;simp only [hk,hk2]) ((Kp.of_same (s1.trans s3)).trans (wp (.inr (.inr (.inl rfl))))) (R3.putG _)
 | lt sl' e =>
  unfold RwAt at h1
  unfold xG at h3
  obtain ⟨r,te,rfl,_,_,e2,e3⟩:=h1
  refine xD rfl e2 rfl (fun z=>absurd z (by decide +kernel)) fun _=>xD rfl e2 rfl (fun z=>absurd z (by decide +kernel)) fun _=>xD rfl e2 rfl (fun _=>?_) fun z=>absurd rfl z
  refine qP R so rfl rfl e2 rfl e3 h3 fun H1 s1=>?_
  cases hk:rk s.sl e with
  | error er=>exact fin_err.mpr (q2 H1 er (by unfold doR;simp only [hk]) s1)
  | ok n =>
   have R2:=R.same s1
   exact fin_ok.mpr (wY rfl R2.ix F.cl F.n4 rfl (kM rfl (s1 _ _ e2) rfl ⟨_,_,rfl,DPut.k (k:=.inr sl') R2.hs (bY (by lia:_≤900) (by decide)),q1 _ _ (by unfold doR;simp only [hk]) ((Kp.of_same s1).trans (wp (.inr (.inl rfl)))) (R2.putS _)⟩))
 | say e =>
  unfold RwAt at h1
  unfold xG at h3
  obtain ⟨r,te,rfl,_,_,e2,e3⟩:=h1
  refine xD rfl e2 rfl (fun z=>absurd z (by decide +kernel)) fun _=>xD rfl e2 rfl (fun z=>absurd z (by decide +kernel)) fun _=>xD rfl e2 rfl (fun z=>absurd z (by decide +kernel)) fun _=>?_
  unfold Zl xh tBM
  refine wY rfl R.ix F.cl F.n7 rfl ⟨.inl ⟨rfl,_,SqL.of R.ha⟩,?_⟩
  refine qP R so rfl rfl e2 rfl e3 h3 fun H1 s1=>?_
  cases hk:rk s.sl e with
  | error er=>exact fin_err.mpr (q2 H1 er (by unfold doR;simp only [hk]) s1)
  | ok n =>
   have R1:=R.same s1
   refine fin_ok.mpr ⟨_,_,_,rfl,rfl,R1.ha,bY (by rw [bB];lia:_≤900) (by decide),?_⟩
   rw [show cC V.int s.sa ++ [V.int n]=cC V.int (s.sa ++ [n]) by simp]
   exact q1 _ _ (by unfold doR;simp only [hk]) ((Kp.of_same s1).trans (wp (.inr (.inr (.inr (.inr rfl)))))) (R1.putA _)
 | off e=>exact h2.elim
 | iff e b d=>exact h2.elim
theorem WC {v:V} {c:Cs} {w:Int} {m:Nat} (F:RnF K t) (R:RnAt t H x a C s) (h1:CsAt H v c) (h2:Xr c) (h3:RnOk m s) (h4:m≤900)
  (q1:∀ H' s' k,yr c w s=.ok (k,s')→Kp x a H H'→RnAt t H' x a C s'→Q (.int (k:Nat)) H') (q2:∀ H' er,yr c w s=.error er→Same H H'→Xq t er E H') :
  Zm K t E { nx:=fun _ H'=>Q .non H',rt:=Q } (L2.start ["self","due","worth"] [.ref x,v,.int w]) H:=by
 have so:=h3.so
 have nx:∀ {v' H1 s1},RnAt t H1 x a C s1→(∀ k:Nat,k=s1.n + 1→Q (.int (k:Nat)) H1)→zE (tOp (rI0 fun i j=>.int (i + j)) (yG K (zc 0) "at") (tC (.int 1))) { nx:=fun _ H'=>Q .non H',rt:=Q } (L2.start ["self","due","worth"] [.ref x,v',.int w]) H1:=fun R1 q=>by
  unfold zE tOp
  exact wY rfl R1.ix F.cl F.n2 rfl ⟨_,_,rfl,rfl,q _ rfl⟩
 cases c with
 | go en =>
  obtain ⟨p,rfl,e2⟩:=h1
  refine xD rfl e2 rfl (fun _=>?_) fun z=>absurd rfl z
  exact kM rfl e2 rfl (q1 H s en rfl (.of_same fun _ _ z=>z) R)
 | skip e to =>
  obtain ⟨p,te,rfl,e2,e3⟩:=h1
  refine xD rfl e2 rfl (fun z=>absurd z (by decide +kernel)) fun _=>xD rfl e2 rfl (fun _=>?_) fun z=>absurd rfl z
  refine qP R so rfl rfl e2 rfl e3 h2 fun H1 s1=>?_
  cases hk:rk s.sl e with
  | error er=>exact fin_err.mpr (q2 H1 er (by unfold yr;simp only [hk]) s1)
  | ok n =>
   have R2:=R.same s1
   refine fin_ok.mpr ⟨rfl,_,rfl,zf2 (fun hn=>?_) fun hn=>?_⟩
   ·exact kM rfl (s1 _ _ e2) rfl (q1 H1 s to (by unfold yr;simp only [hk,if_pos hn]) (.of_same s1) R2)
   ·exact nx R2 fun k hk'=>q1 H1 s k (by unfold yr;simp only [hk,if_neg hn,hk']) (.of_same s1) R2
 | row r =>
  obtain ⟨h1,hni⟩:=h1
  rcases zej r hni with ⟨e,rfl⟩ | hdo
  ·unfold RwAt at h1
   unfold Xr xG at h2
   obtain ⟨r,te,rfl,_,_,e2,e3⟩:=h1
   refine xD rfl e2 rfl (fun z=>absurd z (by decide +kernel)) fun _=>xD rfl e2 rfl (fun z=>absurd z (by decide +kernel)) fun _=>xD rfl e2 rfl (fun _=>?_) fun z=>absurd rfl z
   refine qP R so rfl rfl e2 rfl e3 h2 fun H1 s1=>?_
   cases hk:rk s.sl e with
   | error er=>exact fin_err.mpr (q2 H1 er (by unfold yr;simp only [hk]) s1)
   | ok n =>
    have R2:=R.same s1
    refine fin_ok.mpr ⟨rfl,_,rfl,zcU (fun hn=>?_) fun hn=>?_⟩
    ·have R3:=R2.putI { s with why:=some (bb "told") } rfl rfl rfl rfl
     refine ⟨_,rfl,_,_,_,_,rfl,R2.ix,F.cl,F.n3,(by show (7:Nat) < 1000;decide),?_⟩
     exact nx R3 fun k hk'=>q1 _ { s with why:=some (bb "told") } k (by unfold yr;simp only [hk,if_neg hn,hk']) ((Kp.of_same s1).trans (wp (.inl rfl))) R3
    ·exact nx R2 fun k hk'=>q1 H1 s k (by unfold yr;simp only [hk,if_pos hn,hk']) (.of_same s1) R2
  ·obtain ⟨p,zs,hd,rfl,e2,e3,n1,n2,n3⟩:=zek h1 hdo
   have el:=KY (w:=w) (s:=s) hdo
   refine xD rfl e2 e3 (fun z=>absurd z n1) fun _=>xD rfl e2 e3 (fun z=>absurd z n2) fun _=>xD rfl e2 e3 (fun z=>absurd z n3) fun _=>?_
   refine ⟨_,rfl,x,_,_,rfl,R.ix,rfl,_,rfl,_,rfl,x,_,r,w,m,a,C,s,rfl,R,h1,hdo,h2,h3,h4,fun H1 s' e K1 R1=>?_,fun H1 er e s1=>q2 H1 er (by rw [el,e]) s1⟩
   have en:=zf5 hdo e
   exact nx R1 fun k hk'=>q1 H1 s' k (by rw [el,e,hk',en]) K1 R1
end
section
variable {x:Addr} {H0:Hp} {dx sl wo sa:Addr} {s:Sta} {E:XK} {σ:St}
theorem vQ {i:Nat} {k:Int} {p te:Addr} {xs e:List V} (D:DoAt t H0 H x dx sl wo sa s) (so:yo s.sl) (h0:σ[0]?=some (some (.ref x))) (h1:σ[i]?=some (some (.ref p))) (e2:H p=some (.tup xs)) (ek:atI xs k=some (.ref te)) (e3:H te=some (.tup e)) (ok:TermOk e) (q:∀ H1,Same H H1→fin t (rk s.sl e) Q E H1) :
  yt t.c_Doing "worth_of" (zY t) [] E (zc 0) (zb (tOp (zU K) (zc i) (tC (.int k))) zi) σ H Q :=
 ⟨_,h0,x,_,_,rfl,D.ix,rfl,kM h1 e2 ek ⟨x,te,e,H0,dx,sl,wo,sa,s,rfl,D,so,e3,ok,q⟩⟩
theorem WD {v:V} {r:Rw} {m:Nat} (F:DoF K t) (D:DoAt t H0 H x dx sl wo sa s) (h1:RwAt vc H0 v r) (h2:wN r) (h3:xG r) (h4:StOk m s) (h5:m≤900)
  (q1:∀ H' s',goR r s=.go s'→DoAt t H0 H' x dx sl wo sa s'→Q .non H') (q2:∀ H' e,goR r s=.er e→Same H0 H'→Xq t e E H') :
  Zn K t E { nx:=fun _ H'=>Q .non H',rt:=Q } (L2.start ["self","row","place"] [.ref x,v]) H:=by
 have so:=h4.so
 cases r with
 | take sh e sl' =>
  unfold RwAt at h1
  unfold xG at h3
  obtain ⟨r,te,rfl,_,_,e2,e3⟩:=h1
  have e2:=D.sm _ _ e2
  have e3:=D.sm _ _ e3
  refine xD rfl e2 rfl (fun _=>?_) fun z=>absurd rfl z
  unfold kE wA wM
  refine wY rfl D.ix F.cl F.n2 rfl ⟨_,rfl,.inr ⟨_,.inl D.hw⟩,?_⟩
  unfold yx zb
  refine kM rfl e2 rfl ?_
  refine vQ D so rfl rfl e2 rfl e3 h3 fun H1 s1=>?_
  cases hk:rk s.sl e with
  | error er=>exact fin_err.mpr (q2 H1 er (by unfold goR;rw [hk]) (D.sm.trans s1))
  | ok n =>
   refine fin_ok.mpr ⟨by show (2:Nat)≤sizeLine;decide,fun p hp=>?_⟩
   have s2:=isV (o:=HO.tup [V.str sh,V.int n]) p hp
   have D2:=D.same (s1.trans s2)
   refine ⟨(zr s.wo (sh,n)).map V.int,.inr ⟨dOf s.wo,zH (sh,n),p,.inl D2.hw,rfl,zf,(xH _ _).symm⟩,?_⟩
   have hv:(Option.map V.int (zr s.wo (sh,n))).getD (V.int 0)=V.int ((zr s.wo (sh,n)).getD 0):=by cases zr s.wo (sh,n) <;> rfl
   rw [hv]
   have l1:=h4.l1
   exact wY rfl D2.ix F.cl F.n1 rfl (kM rfl ((s1.trans s2) _ _ e2) rfl ⟨_,_,rfl,DPut.k (k:=.inr sl') D2.hs (bY (by lia:_≤900) (by decide)),q1 _ _ (by unfold goR;rw [hk]) (D2.putS _)⟩)
 | give sh e f =>
  unfold RwAt at h1
  unfold xG at h3
  obtain ⟨r,te,tf,rfl,_,_,_,e2,e3,e4⟩:=h1
  have e2:=D.sm _ _ e2
  have e3:=D.sm _ _ e3
  have e4:=D.sm _ _ e4
  refine xD rfl e2 rfl (fun z=>absurd z (by decide +kernel)) fun _=>xD rfl e2 rfl (fun _=>?_) fun z=>absurd rfl z
  unfold kD zp zV yx zb
  refine kM rfl e2 rfl ?_
  refine vQ D so rfl rfl e2 rfl e3 h3.1 fun H1 s1=>?_
  cases hk:rk s.sl e with
  | error er=>exact fin_err.mpr (q2 H1 er (by unfold goR;rw [hk]) (D.sm.trans s1))
  | ok n =>
   refine fin_ok.mpr ⟨by show (2:Nat)≤sizeLine;decide,fun p hp=>?_⟩
   have s2:=isV (o:=HO.tup [V.str sh,V.int n]) p hp
   have D2:=D.same (s1.trans s2)
   have S2:=s1.trans s2
   have ep:upd H1 p (HO.tup [V.str sh,V.int n]) p=some (.tup [V.str sh,V.int n]):=zf
   refine vQ D2 so rfl rfl (S2 _ _ e2) rfl (S2 _ _ e4) h3.2 fun H3 s3=>?_
   cases hk2:rk s.sl f with
   | error er=>exact fin_err.mpr (q2 H3 er (by unfold goR;rw [hk];simp only [hk2]) (D2.sm.trans s3))
   | ok w =>
    have D3:=D2.same s3
    have l2:=h4.l2
    have ld:=yY s.wo
    refine fin_ok.mpr (wY rfl D3.ix F.cl F.n2 rfl ⟨_,rfl,_,_,rfl,DPut.t (k:=zH (sh,n)) D3.hw (s3 _ _ ep) (bY (by lia:_≤900) (by decide)),?_⟩)
    rw [show yB (dOf s.wo) (zH (sh,n)) (V.int w)=dOf (s.wo ++ [((sh,n),w)]) from (vn s.wo ((sh,n),w)).symm]
    exact q1 _ _ (by unfold goR;rw [hk];simp only [hk2]) (D3.putW _)
 | lt sl' e =>
  unfold RwAt at h1
  unfold xG at h3
  obtain ⟨r,te,rfl,_,_,e2,e3⟩:=h1
  have e2:=D.sm _ _ e2
  have e3:=D.sm _ _ e3
  refine xD rfl e2 rfl (fun z=>absurd z (by decide +kernel)) fun _=>xD rfl e2 rfl (fun z=>absurd z (by decide +kernel)) fun _=>xD rfl e2 rfl (fun _=>?_) fun z=>absurd rfl z
  refine vQ D so rfl rfl e2 rfl e3 h3 fun H1 s1=>?_
  cases hk:rk s.sl e with
  | error er=>exact fin_err.mpr (q2 H1 er (by unfold goR;rw [hk]) (D.sm.trans s1))
  | ok n =>
   have D2:=D.same s1
   have l1:=h4.l1
   exact fin_ok.mpr (wY rfl D2.ix F.cl F.n1 rfl (kM rfl (s1 _ _ e2) rfl ⟨_,_,rfl,DPut.k (k:=.inr sl') D2.hs (bY (by lia:_≤900) (by decide)),q1 _ _ (by unfold goR;rw [hk]) (D2.putS _)⟩))
 | say e =>
  unfold RwAt at h1
  unfold xG at h3
  obtain ⟨r,te,rfl,_,_,e2,e3⟩:=h1
  have e2:=D.sm _ _ e2
  have e3:=D.sm _ _ e3
  refine xD rfl e2 rfl (fun z=>absurd z (by decide +kernel)) fun _=>xD rfl e2 rfl (fun z=>absurd z (by decide +kernel)) fun _=>xD rfl e2 rfl (fun z=>absurd z (by decide +kernel)) fun _=>?_
  unfold kC xh tBM
  refine wY rfl D.ix F.cl F.n3 rfl ⟨.inl ⟨rfl,_,SqL.of D.ha⟩,?_⟩
  refine vQ D so rfl rfl e2 rfl e3 h3 fun H1 s1=>?_
  cases hk:rk s.sl e with
  | error er=>exact fin_err.mpr (q2 H1 er (by unfold goR;rw [hk]) (D.sm.trans s1))
  | ok n =>
   have D2:=D.same s1
   have l3:=h4.l3
   have e:s.sa.map V.int ++ [V.int n]=(s.sa ++ [n]).map V.int:=by simp
   refine fin_ok.mpr ⟨_,_,_,rfl,rfl,D2.ha,bY (by rw [bB];lia:_≤900) (by decide),?_⟩
   rw [e]
   exact q1 _ _ (by unfold goR;rw [hk]) (D2.putA _)
 | off e=>exact h2.elim
 | iff e a b=>exact h2.elim
end
theorem zeS {a b c n:Nat} (h:max (max a b + 1) c < n + 1):a < n∧b < n:=by lia
theorem zga {m a b c:Nat} (h:m + (max a b + 1 + c)≤900):m + a≤900∧m + b≤900:=by lia
theorem kq {x l:Addr} {xs:List V} {rws:Rws} {m n:Nat} {H0:Hp} {dx sl wo sa:Addr} {s:Sta} {E:XK} (F:DoF K t) (D:DoAt t H0 H x dx sl wo sa s) (h1:H0 l=some (.lst xs)) (h2:RwsAt vc H0 xs rws) (h3:yq rws) (h4:rws.deep < n + 1) (h5:StOk m s) (h6:m + rws.cnt≤900)
  (q1:∀ H' s',yH rws s=.go s'→DoAt t H0 H' x dx sl wo sa s'→Q (.bl true) H') (q2:∀ H',yH rws s=.off→Same H0 H'→Q (.bl false) H') (q3:∀ H' e,yH rws s=.er e→Same H0 H'→Xq t e E H') :
  we K t n E { nx:=fun _ H'=>Q .non H',rt:=Q } (L2.start ["self","rows","row"] [.ref x,.ref l]) H:=by
 refine ⟨_,rfl,l,rfl,⟨_,SqL.of (D.sm _ _ h1)⟩,?_⟩
 refine vf xs (goI t x l dx sl wo sa xs rws s n H0) ⟨s,rws,m,⟨_,rfl⟩,D,by rw [dq];exact h2,h3,h4,h5,h6,rfl⟩ (fun i σ H' ⟨s',rest,m,_,D',_⟩=>SqL.of (D'.sm _ _ h1)) ?_ ?_
 ·rintro i v σ H' hv ⟨s',rest,m,⟨o,rfl⟩,D',hr,ok,dp,st,ct,ge⟩
  obtain ⟨r,rs,rfl,rx,rr⟩:=hr.get hv
  unfold yq at ok
  have c1:(Rws.cons r rs).deep=max r.deep rs.deep:=by rw [Rws.deep]
  have c2:(Rws.cons r rs).cnt=r.cnt + rs.cnt:=by rw [Rws.cnt]
  rw [c1] at dp
  rw [c2] at ct
  have go:∀ s'',goR r s'=.go s''→yH rws s=yH rs s'':=fun s'' z=>by rw [ge,yH,z]
  have nx:∀ (s'':Sta) (H'':Hp) (o':Option V),goR r s'=.go s''→DoAt t H0 H'' x dx sl wo sa s''→goI t x l dx sl wo sa xs rws s n H0 (i + 1) [some (.ref x),some (.ref l),o'] H'':=fun s'' H'' o' z D''=>⟨s'',rs,m + r.cnt,⟨_,rfl⟩,D'',rr,ok.2,by lia,zcG r st ok.1 z,by lia,go s'' z⟩
  have er:∀ e,goR r s'=.er e→yH rws s=.er e:=fun e z=>by rw [ge,yH,z]
  have of:goR r s'=.off→yH rws s=.off:=fun z=>by rw [ge,yH,z]
  rcases Classical.em (wN r) with hD | hD
  ·obtain ⟨p,ws,hd,rfl,e2,e3,n1,n2⟩:=zc1 rx hD
   have e2:=D'.sm _ _ e2
   refine xD rfl e2 e3 (fun z=>absurd z n1) fun _=>xD rfl e2 e3 (fun z=>absurd z n2) fun _=>?_
   exact ⟨_,rfl,x,_,_,rfl,D'.ix,rfl,_,rfl,x,_,r,m,H0,dx,sl,wo,sa,s',rfl,D',rx,hD,ok.1,st,by lia,fun H1 s1 z D1=>nx s1 H1 _ z D1,fun H1 e z sm=>q3 H1 e (er e z) sm⟩
  cases r with
  | take sh e sl'=>exact (hD trivial).elim
  | give sh e f=>exact (hD trivial).elim
  | lt sl' e=>exact (hD trivial).elim
  | say e=>exact (hD trivial).elim
  | off e =>
   unfold RwAt at rx
   have ok1:=ok.1
   unfold xG at ok1
   obtain ⟨r,te,rfl,_,_,e2,e3⟩:=rx
   have e2:=D'.sm _ _ e2
   have e3:=D'.sm _ _ e3
   refine xD rfl e2 rfl (fun _=>?_) fun z=>absurd rfl z
   refine vQ D' st.so rfl rfl e2 rfl e3 ok1 fun H1 s1=>?_
   cases hk:rk s'.sl e with
   | error x=>exact fin_err.mpr (q3 H1 x (er x (by unfold goR;rw [hk])) (D'.sm.trans s1))
   | ok k =>
    refine fin_ok.mpr ⟨rfl,_,rfl,zcU (fun h0=>?_) fun h0=>?_⟩
    ·exact q2 H1 (of (by unfold goR;rw [hk];simp only [if_neg h0])) (D'.sm.trans s1)
    ·exact nx s' H1 _ (by unfold goR;rw [hk];simp only [if_pos h0]) (D'.same s1)
  | iff e a b =>
   unfold RwAt at rx
   have ok1:=ok.1
   unfold xG at ok1
   obtain ⟨r,te,la,lb,as,bs,rfl,_,_,_,_,e2,e3,e4,e5,e6,e7⟩:=rx
   have e2:=D'.sm _ _ e2
   have e3:=D'.sm _ _ e3
   have c3:(Rw.iff e a b).deep=max a.deep b.deep + 1:=by rw [Rw.deep]
   have c4:(Rw.iff e a b).cnt=max a.cnt b.cnt + 1:=by rw [Rw.cnt]
   rw [c3] at dp
   rw [c4] at ct
   refine xD rfl e2 rfl (fun z=>absurd z (by decide +kernel)) fun _=>xD rfl e2 rfl (fun _=>?_) fun z=>absurd rfl z
   refine ⟨_,rfl,x,_,_,rfl,D'.ix,rfl,?_⟩
   refine vQ D' st.so rfl rfl e2 rfl e3 ok1.1 fun H1 s1=>?_
   cases hk:rk s'.sl e with
   | error x=>exact fin_err.mpr (q3 H1 x (er x (by unfold goR;rw [hk])) (D'.sm.trans s1))
   | ok k =>
    refine fin_ok.mpr ⟨rfl,_,rfl,zcU (fun h0=>?_) fun h0=>?_⟩
    rotate_left
    ·have gb:goR (.iff e a b) s'=yH b s':=by rw [goR,hk];simp only [if_pos h0]
     refine kM rfl (s1 _ _ e2) rfl ⟨x,_,bs,b,m,H0,dx,sl,wo,sa,s',rfl,D'.same s1,e6,e7,ok1.2.2,(zeS dp).2,st,(zga ct).2,fun H2 s2 g D2=>?_,fun H2 g sm=>?_,fun H2 x g sm=>q3 H2 x (er x (gb.trans g)) sm⟩
     ·refine ⟨_,rfl,?_⟩
      exact nx s2 H2 _ (gb.trans g) D2
     ·refine ⟨_,rfl,?_⟩
      exact q2 H2 (of (gb.trans g)) sm
    ·have gb:goR (.iff e a b) s'=yH a s':=by rw [goR,hk];simp only [if_neg h0]
     refine kM rfl (s1 _ _ e2) rfl ⟨x,_,as,a,m,H0,dx,sl,wo,sa,s',rfl,D'.same s1,e4,e5,ok1.2.1,(zeS dp).1,st,(zga ct).1,fun H2 s2 g D2=>?_,fun H2 g sm=>?_,fun H2 x g sm=>q3 H2 x (er x (gb.trans g)) sm⟩
     ·refine ⟨_,rfl,?_⟩
      exact nx s2 H2 _ (gb.trans g) D2
     ·refine ⟨_,rfl,?_⟩
      exact q2 H2 (of (gb.trans g)) sm
 ·rintro σ H' ⟨s',rest,m,⟨o,rfl⟩,D',hr,ok,dp,st,ct,ge⟩
  have e:=hr.none
  subst e
  exact q1 H' s' (by rw [ge];unfold yH;rfl) D'
section
variable {x:Addr} {a:RAd} {C:List Cs} {s:RSt} {E:XK}
theorem JM {l dx:Addr} {xs:List V} (F:RnF K t) (h1:H x=some (.ins t.c_Run dx [])) (h2:H l=some (.lst xs)) (h3:Paired (CsAt H) xs C)
  (q:∀ H' a,Y9 x H H'→RnAt t H' x a C st0→(∀ b,OwA x a b→b=x∨H b=none)→Q .non H') :
  Xf K t { nx:=fun _ H'=>Q .non H',rt:=Q } (L2.start ["self","code"] [.ref x,.ref l]) H:=by
 refine ⟨_,rfl,l,xs,rfl,.inl (SqL.of h2),fun co hco=>?_⟩
 have nco:x≠co:=zB h1 hco
 refine ⟨_,rfl,x,_,_,_,rfl,(by rw [zj nco];exact h1),F.cl,F.n1,by decide,_,rfl,x,_,_,_,rfl,zf,F.cl,F.n2,(by show (1:Nat) < 1000;decide),_,rfl,x,_,_,_,rfl,zf,F.cl,F.n3,(by show (2:Nat) < 1000;decide),?_⟩
 have A1:Y9 x H (upd (upd (upd (upd H co (HO.lst xs)) x (.ins t.c_Run dx (z7 (bb "code") (V.ref co) []))) x (.ins t.c_Run dx (z7 (bb "at") (V.int 0) (z7 (bb "code") (V.ref co) [])))) x (.ins t.c_Run dx (z7 (bb "why") V.non (z7 (bb "at") (V.int 0) (z7 (bb "code") (V.ref co) []))))):=fun b o n e=>by
  rw [zj n,zj n,zj n,zj (fun z=>by rw [z,hco] at e;cases e)];exact e
 have A2:(upd (upd (upd (upd H co (HO.lst xs)) x (.ins t.c_Run dx (z7 (bb "code") (V.ref co) []))) x (.ins t.c_Run dx (z7 (bb "at") (V.int 0) (z7 (bb "code") (V.ref co) [])))) x (.ins t.c_Run dx (z7 (bb "why") V.non (z7 (bb "at") (V.int 0) (z7 (bb "code") (V.ref co) []))))) x=some (.ins t.c_Run dx [(bb "code",V.ref co),(bb "at",V.int 0),(bb "why",V.non)]):=zf
 have A3:(upd (upd (upd (upd H co (HO.lst xs)) x (.ins t.c_Run dx (z7 (bb "code") (V.ref co) []))) x (.ins t.c_Run dx (z7 (bb "at") (V.int 0) (z7 (bb "code") (V.ref co) [])))) x (.ins t.c_Run dx (z7 (bb "why") V.non (z7 (bb "at") (V.int 0) (z7 (bb "code") (V.ref co) []))))) co=some (.lst xs):=by
  rw [zj (cA nco),zj (cA nco),zj (cA nco),zf]
 generalize (upd (upd (upd (upd H co (HO.lst xs)) x (.ins t.c_Run dx (z7 (bb "code") (V.ref co) []))) x (.ins t.c_Run dx (z7 (bb "at") (V.int 0) (z7 (bb "code") (V.ref co) [])))) x (.ins t.c_Run dx (z7 (bb "why") V.non (z7 (bb "at") (V.int 0) (z7 (bb "code") (V.ref co) [])))))=HA at *
 refine fun sl hsl=>?_
 obtain ⟨nsl,fsl,B1,B4,B5⟩:=ini (o:=HO.dK []) (i':=HO.ins t.c_Run dx (z7 (bb "slots") (V.ref sl) [(bb "code",V.ref co),(bb "at",V.int 0),(bb "why",V.non)])) A1 A2 hsl
 refine ⟨_,rfl,x,_,_,_,rfl,(by rw [zj nsl];exact A2),F.cl,F.n4,(by show (3:Nat) < 1000;decide),?_⟩
 have B2:(upd (upd HA sl (HO.dK [])) x (.ins t.c_Run dx (z7 (bb "slots") (V.ref sl) [(bb "code",V.ref co),(bb "at",V.int 0),(bb "why",V.non)]))) x=some (.ins t.c_Run dx [(bb "code",V.ref co),(bb "at",V.int 0),(bb "why",V.non),(bb "slots",V.ref sl)]):=zf
 have B_co:=B5 _ _ (cA nco) A3
 generalize (upd (upd HA sl (HO.dK [])) x (.ins t.c_Run dx (z7 (bb "slots") (V.ref sl) [(bb "code",V.ref co),(bb "at",V.int 0),(bb "why",V.non)])))=HB at *
 refine fun gi hgi=>?_
 obtain ⟨ngi,fgi,C1,C4,C5⟩:=ini (o:=HO.dT []) (i':=HO.ins t.c_Run dx (z7 (bb "gifts") (V.ref gi) [(bb "code",V.ref co),(bb "at",V.int 0),(bb "why",V.non),(bb "slots",V.ref sl)])) B1 B2 hgi
 refine ⟨_,rfl,x,_,_,_,rfl,(by rw [zj ngi];exact B2),F.cl,F.n5,(by show (4:Nat) < 1000;decide),?_⟩
 have C2:(upd (upd HB gi (HO.dT [])) x (.ins t.c_Run dx (z7 (bb "gifts") (V.ref gi) [(bb "code",V.ref co),(bb "at",V.int 0),(bb "why",V.non),(bb "slots",V.ref sl)]))) x=some (.ins t.c_Run dx [(bb "code",V.ref co),(bb "at",V.int 0),(bb "why",V.non),(bb "slots",V.ref sl),(bb "gifts",V.ref gi)]):=zf
 have C_co:=C5 _ _ (cA nco) B_co
 have C_sl:=C5 _ _ (cA nsl) B4
 generalize (upd (upd HB gi (HO.dT [])) x (.ins t.c_Run dx (z7 (bb "gifts") (V.ref gi) [(bb "code",V.ref co),(bb "at",V.int 0),(bb "why",V.non),(bb "slots",V.ref sl)])))=HC at *
 refine fun no hno=>?_
 obtain ⟨nno,fno,D1,D4,D5⟩:=ini (o:=HO.dT []) (i':=HO.ins t.c_Run dx (z7 (bb "notes") (V.ref no) [(bb "code",V.ref co),(bb "at",V.int 0),(bb "why",V.non),(bb "slots",V.ref sl),(bb "gifts",V.ref gi)])) C1 C2 hno
 refine ⟨_,rfl,x,_,_,_,rfl,(by rw [zj nno];exact C2),F.cl,F.n6,(by show (5:Nat) < 1000;decide),b9 _,?_⟩
 have D2:(upd (upd HC no (HO.dT [])) x (.ins t.c_Run dx (z7 (bb "notes") (V.ref no) [(bb "code",V.ref co),(bb "at",V.int 0),(bb "why",V.non),(bb "slots",V.ref sl),(bb "gifts",V.ref gi)]))) x=some (.ins t.c_Run dx [(bb "code",V.ref co),(bb "at",V.int 0),(bb "why",V.non),(bb "slots",V.ref sl),(bb "gifts",V.ref gi),(bb "notes",V.ref no)]):=zf
 have D_co:=D5 _ _ (cA nco) C_co
 have D_sl:=D5 _ _ (cA nsl) C_sl
 have D_gi:=D5 _ _ (cA ngi) C4
 have ngn:gi≠no:=fun z=>by rw [← z,C4] at hno;cases hno
 generalize (upd (upd HC no (HO.dT [])) x (.ins t.c_Run dx (z7 (bb "notes") (V.ref no) [(bb "code",V.ref co),(bb "at",V.int 0),(bb "why",V.non),(bb "slots",V.ref sl),(bb "gifts",V.ref gi)])))=HD at *
 refine fun sa hsa=>?_
 obtain ⟨nsa,fsa,E1,E4,E5⟩:=ini (o:=HO.lst []) (i':=HO.ins t.c_Run dx (z7 (bb "sayings") (V.ref sa) [(bb "code",V.ref co),(bb "at",V.int 0),(bb "why",V.non),(bb "slots",V.ref sl),(bb "gifts",V.ref gi),(bb "notes",V.ref no)])) D1 D2 hsa
 refine ⟨_,rfl,x,_,_,_,rfl,(by rw [zj nsa];exact D2),F.cl,F.n7,(by show (6:Nat) < 1000;decide),?_⟩
 have E2:(upd (upd HD sa (HO.lst [])) x (.ins t.c_Run dx (z7 (bb "sayings") (V.ref sa) [(bb "code",V.ref co),(bb "at",V.int 0),(bb "why",V.non),(bb "slots",V.ref sl),(bb "gifts",V.ref gi),(bb "notes",V.ref no)]))) x=some (.ins t.c_Run dx [(bb "code",V.ref co),(bb "at",V.int 0),(bb "why",V.non),(bb "slots",V.ref sl),(bb "gifts",V.ref gi),(bb "notes",V.ref no),(bb "sayings",V.ref sa)]):=zf
 have E_co:=E5 _ _ (cA nco) D_co
 have E_sl:=E5 _ _ (cA nsl) D_sl
 have E_gi:=E5 _ _ (cA ngi) D_gi
 have E_no:=E5 _ _ (cA nno) D4
 have ncs:co≠sa:=fun z=>by rw [← z,D_co] at hsa;cases hsa
 refine q _ ⟨dx,co,sl,gi,no,sa⟩ E1 ⟨E2,⟨xs,E_co,ki (fun b ys e=>E1 b _ (fun z=>by rw [z,h1] at e;cases e) e) h3⟩,E_sl,E_gi,E_no,E4,ngn,ncs⟩ ?_
 rintro b ((z | z | z | z | z) | z)
 ·exact .inl z
 ·exact .inr (by rw [z];exact fsl)
 ·exact .inr (by rw [z];exact fgi)
 ·exact .inr (by rw [z];exact fno)
 ·exact .inr (by rw [z];exact fsa)
 ·exact .inr (by rw [z];exact hco)
end
section
variable {x:Addr} {a:RAd} {C:List Cs} {s:RSt} {E:XK}
theorem JN {P:Str→Option Value} (T:Txt K P t) (R:RnAt t H x a C s) (h2:∀ c∈C,Xr c) (h3:yo s.sl) (q1:∀ H',vz C s=none→Same H H'→Q .non H') (q2:∀ p q H',vz C s=some p→Same H H'→H' q=some (.tup [.str p.1,.int p.2])→Q (.ref q) H') :
  Xg K t { nx:=fun _ H'=>Q .non H',rt:=Q } (L2.start ["self","place"] [.ref x]) H:=by
 have F:=rnF T
 refine ⟨_,rfl,x,_,_,rfl,R.ix,rfl,x,a,C,s,rfl,R,fun H1 s1=>⟨_,rfl,?_⟩⟩
 show if _ then _ else _
 have R1:=R.same s1
 by_cases ho:yh C s=true
 ·rw [if_pos ho]
  show if _ then _ else _
  rw [if_pos rfl]
  exact q1 H1 (by unfold vz;rw [if_pos ho]) s1
 rw [if_neg ho]
 obtain ⟨xs,hx,pr⟩:=R1.hc
 have lx:=cy pr
 have lt:=Yn ho
 have hc:C[s.n]?=some C[s.n]:=bg lt
 have hv:xs[s.n]?=some xs[s.n]:=bg (by lia)
 have cv:=ym pr hv hc
 have ok:=h2 _ (gq lt)
 have es:vz C s=wd C[s.n] s:=by unfold vz;rw [if_neg ho,hc];rfl
 rw [es] at q1 q2
 obtain ⟨p,zs,hd,ev,hp,h0,ht,hnt⟩:=zfs cv
 unfold zq tOp
 refine wY rfl R1.ix F.cl F.n1 rfl (wY rfl R1.ix F.cl F.n2 rfl ⟨_,xs,_,_,rfl,rfl,SqL.of hx,w6 hv,p,zs,0,_,ev,rfl,SqT.of hp,h0,rfl,_,rfl,?_⟩)
 show if _ then _ else _
 by_cases hh:hd=bb "take"
 case neg =>
  rw [if_pos (by rw [decide_eq_false (fun z=>hh (V.str.inj z))];rfl)]
  exact q1 H1 (hnt hh s) s1
 rw [if_neg (by rw [hh];decide)]
 obtain ⟨sh,e,sl,te,ec,a1,a2,ht⟩:=ht hh
 rw [ec] at q1 q2 ok
 unfold Xr xG at ok
 refine ⟨_,rfl,x,_,_,rfl,R1.ix,rfl,?_⟩
 unfold zb tOp
 refine wY rfl R1.ix F.cl F.n1 rfl (wY rfl R1.ix F.cl F.n2 rfl ⟨_,xs,_,_,rfl,rfl,SqL.of hx,w6 hv,?_⟩)
 refine ⟨x,p,zs,sh,te,e,a,C,s,by rw [ev];rfl,R1,h3,hp,a1,a2,ht,ok,fun i q H2 hk s2 hq=>?_,fun er H2 hk s2=>?_⟩
 case refine_2 =>
  have q':=q1 H2 (by unfold wd;simp only [hk]) (s1.trans s2)
  cases er with
  | nought=>exact ⟨t.c_Nought,rfl,T.m_Nought_Great_Nought,q'⟩
  | great=>exact ⟨t.c_Great,rfl,T.m_Great_Great_Nought,q'⟩
  | stuck=>trivial
 have R2:=R1.same s2
 have g1:DGet H2 a.gi (.ref q) ((zr s.gi (sh,i)).map V.int):=.inr ⟨dOf s.gi,zH (sh,i),q,.inl R2.hg,rfl,hq,(xH _ _).symm⟩
 have g2:DGet H2 a.no (.ref q) ((zr s.no (sh,i)).map V.int):=.inr ⟨dOf s.no,zH (sh,i),q,.inl R2.hn,rfl,hq,(xH _ _).symm⟩
 refine ⟨_,rfl,?_⟩
 refine wY rfl R2.ix F.cl F.n5 rfl ⟨_,_,rfl,g1,_,rfl,?_⟩
 show if _ then _ else _
 cases hg:zr s.gi (sh,i) with
 | some j =>
  rw [if_pos (by rfl)]
  show if _ then _ else _
  rw [if_pos rfl]
  exact q1 H2 (by unfold wd;simp only [hk,hg];rfl) (s1.trans s2)
 | none =>
  rw [if_neg (by decide)]
  refine ⟨_,rfl,?_⟩
  refine wY rfl R2.ix F.cl F.n6 rfl ⟨_,_,rfl,g2,_,rfl,?_⟩
  show if _ then _ else _
  cases hn:zr s.no (sh,i) with
  | some j =>
   rw [if_pos (by rfl)]
   exact q1 H2 (by unfold wd;simp only [hk,hg,hn];rfl) (s1.trans s2)
  | none =>
   rw [if_neg (by decide)]
   refine ⟨_,rfl,?_⟩
   exact q2 (sh,i) q H2 (by unfold wd;simp only [hk,hg,hn];rfl) (s1.trans s2) hq
end
section
variable {l tl:Addr} {xs:List V} {C:List Cs} {rows:List Row}
theorem zeC (h1:H l=some (.lst xs)) (h2:Paired (CsAt H) xs C) (O:zcW C) (h4:LsAt H tl rows) (h5:rows.length≤500) (h6:∀ r∈rows,inW r.2=true) (q:∀ r s H',Same H H'→FedR C rows s→zeg H H' r s→Q (.ref r) H') :
  zcX K t { nx:=fun _ H'=>Q .non H',rt:=Q } (L2.start ["code","table","run","place"] [.ref l,.ref tl]) H:=by
 refine ⟨_,rfl,fun x dx hx hd n=>?_⟩
 have hdx:H dx=none:=hd
 have n1:∀ b o,H b=some o→b≠x:=fun b o e=>zB e hx
 have n2:∀ b o,H b=some o→b≠dx:=fun b o e=>zB e hd
 have s2:Same H (upd (upd H dx (HO.own x)) x (HO.ins t.c_Run dx [])):=fun b o e=>by rw [zj (n1 b o e),zj (n2 b o e)];exact e
 refine ⟨x,l,dx,xs,C,rfl,zf,s2 _ _ h1,x5 s2 h2,fun H3 a k3 R3 fr=>⟨rfl,?_⟩⟩
 obtain ⟨s3,ow⟩:=zfy (Same.refl H) hx hd k3 fr
 refine ⟨fdI t H l tl x a C (YJ rows),⟨_,0,st0,rfl,⟨_,rfl⟩,s3,R3,rn0,rfl,bu _,b9 _⟩,?_⟩
 rintro m σ H4 ⟨k,s,rfl,⟨o,rfl⟩,S⟩
 have lc:=O.le
 have lk:=S.le
 refine ⟨_,rfl,x,_,_,rfl,S.R.ix,rfl,x,a,C,s,rfl,S.R,fun H5 s5=>⟨_,rfl,?_⟩⟩
 show if _ then _ else _
 have S5:=S.same s5
 cases ho:yh C s with
 | true =>
  rw [if_neg (by decide)]
  have l2:=S.I.ok.l2
  have l3:=S.I.ok.l3
  refine ⟨_,rfl,x,_,_,rfl,S5.R.ix,rfl,x,a,C,s,rfl,S5.R,by lia,S.I.ok.nd,by lia,fun H6 z=>(by rw [ho] at z;cases z),fun r o' nl gl out H6 _ s6 fn fg _ hr oc hn hg gi=>?_⟩
  exact q r s H6 (S5.sm.trans s6) ⟨ho,⟨k,S.rc⟩,⟨k,S.le,S.I⟩,cf S.fw S.le⟩ ⟨o',nl,gl,out,hr,oc,hn,hg,gi,zA S5.sm fn,zA S5.sm fg⟩
 | false =>
  rw [if_pos (by decide)]
  refine ⟨fdI t H l tl x a C (YJ rows) (C.length - (k + 1)),fun σ' H' z=>⟨_,?_,z⟩,?_⟩
  ·have:=Yn (C:=C) (s:=s) (by rw [ho];decide)
   have wn:s.why=none:=by
    cases e:s.why with
    | none=>rfl
    | some v=>rw [show yh C s=true by unfold yh;rw [e];rfl] at ho;cases ho
   have:=S.I.at_ wn
   lia
  refine ⟨_,rfl,x,_,_,rfl,S5.R.ix,rfl,x,a,C,s,rfl,S5.R,O.ok,S.I.ok.so,fun H6 ha s6=>?_,fun p q1 H6 ha s6 hq=>?_⟩
  ·have S6:=S5.same s6
   have ew:Xs C (YJ rows) s=0:=by unfold Xs;rw [ha]
   refine ⟨_,rfl,x,_,_,rfl,S6.R.ix,rfl,_,rfl,rfl,_,rfl,?_⟩
   show if _ then _ else _
   rw [if_pos (decide_eq_true rfl)]
   refine ⟨x,0,k,a,C,s,rfl,S6.R,O.ok,S.I.ok,by lia,fun H7 k7 R7=>?_⟩
   rw [← ew] at R7
   exact ⟨k + 1,_,rfl,⟨_,rfl⟩,S6.step O ow ho (by rw [ew];rfl) k7 R7⟩
  ·have S6:=S5.same s6
   have ew:Xs C (YJ rows) s=YJ rows p:=by unfold Xs;rw [ha]
   refine ⟨_,rfl,x,_,_,rfl,S6.R.ix,rfl,_,rfl,rfl,_,rfl,?_⟩
   show if _ then _ else _
   rw [if_neg (by rw [decide_eq_true_eq];exact fun z=>nomatch z)]
   refine ⟨_,rfl,_,rfl,tl,q1,rows,p,rfl,xJ h4 S6.sm,h5,hq,fun H7 s7=>?_⟩
   have S7:=S6.same s7
   refine ⟨x,_,k,a,C,s,rfl,S7.R,O.ok,S.I.ok,by lia,fun H8 k8 R8=>?_⟩
   have R9:RnAt t H8 x a C (xz C (Xs C (YJ rows) s) s):=by rw [ew];exact R8
   exact ⟨k + 1,_,rfl,⟨_,rfl⟩,S7.step O ow ho (by rw [ew];exact KA h6 p) k8 R9⟩
end
end
section
variable {P:Program} {w:World} {K:br} {mg:Str→Option Value} {base:Heap} {t:Adr}
theorem zC (T:Txt K mg t):FnOk P w K mg base (CX1 P w) 1 t.a0 t.d0 ["cell","j"] (zl):=by
 refine T.g0.f.ok0 sc__law_draw (fun vs H Q E h=>?_) (fun cdv A outer s H vs Q E hr h=>?_)
 ·obtain ⟨c,j,rfl,_⟩:=h;rfl
 obtain ⟨c,j,rfl,h1,h2,q⟩:=h
 exact ⟨j6 K t,(zg (zK (i:=2) sc__law_draw.nd rfl (cH rfl) (zv ya (zv zZ (zv wt (zv ya (pv 0) (zd (i:=1000000007))) (zd (i:=6700417))) (zv wt (zv wt (zv zZ (pv 1) (zd (i:=1))) (zd (i:=104729))) (zd (i:=65537)))) (zd (i:=1000000009))))
  (zh (zt (zv zb5 (zv ya (zv wt (zv ya (zv wt (pv 2) (pv 2)) (zd (i:=1000000009))) (pv 2)) (zd (i:=1000000009))) (zd (i:=32)))))),WV h1 h2 q⟩
theorem Zt (T:Txt K mg t):FnOk P w K mg base (CX1 P w) 2 t.a1 t.d1 ["cell","many"] (wx):=by
 refine T.g1.f.ok0 sc__law_names (fun vs H Q E h=>?_) (fun cdv A outer s H vs Q E hr h=>?_)
 ·obtain ⟨c,m,rfl,_⟩:=h;rfl
 obtain ⟨c,m,rfl,h1,h2,q⟩:=h
 exact ⟨jf K t,(zg (zK (i:=2) sc__law_names.nd rfl (cH rfl) (zv zZ (zd (i:=1)) (zv ya (pcG (zC T) T.g0 hr zu (za (pv 0) (za (zd (i:=1)) ze))) (zd (i:=6)))))
  (zg (zK (i:=3) sc__law_names.nd rfl (mO rfl) (zL (x:="zyxwvtsrqpnmlkjhgfdcb")))
  (zg (zO (zn yD (pv 2) (zd (i:=6)) (zy _)) (zh (zK (i:=3) sc__law_names.nd rfl (mO rfl) (zL (x:="zyxwvutsrqponmlkjihgfedcba"))))
    zG)
  (zg (zK (i:=4) sc__law_names.nd rfl (mO rfl) (zL (x:="")))
  (zg (vi dv rfl (qS rfl T.b_range (za (pv 2) ze)) (yF (i:=5) sc__law_names.nd rfl (cH rfl)) (zh (zK (i:=4) sc__law_names.nd rfl (mO rfl) (zv jL (pv 4) (zx zbT (pv 3) (zv ya (pcG (zC T) T.g0 hr zu (za (pv 0) (za (zv zZ (zd (i:=2)) (pv 5)) ze))) (zP yz rfl T.b_len xB (za (pv 3) ze))) (fun _ _=>rfl))))))
  (zg (zK (i:=6) sc__law_names.nd rfl (mO rfl) (zv ya (pcG (zC T) T.g0 hr zu (za (pv 0) (za (zd (i:=8)) ze))) (pv 2)))
  (zg (zK (i:=7) sc__law_names.nd rfl (cH rfl) (zv ya (pcG (zC T) T.g0 hr zu (za (pv 0) (za (zd (i:=9)) ze))) (zP yz rfl T.b_len xB (za (pv 3) ze))))
  (zg (zK (i:=3) sc__law_names.nd rfl (mO rfl) (zv jL (jq Jb (pv 3) (jN (pv 7)) Z4) (jq Jb (pv 3) Z4 (jN (pv 7)))))
  (zh (zt (V9 rfl (osc:=zk vd) (N:=["cell","many","size","signs","stem","k","at","turn"]) (xs:=["k"]) (ix:=[4,6,3]) (by decide +kernel) (qS rfl T.b_range (za (pv 1) ze)) (fun _ _ _ _=>(yF (i:=0) (show iJ (["k","stem","at","signs"]:List Str) from (by decide +kernel)) rfl (cH rfl) (.inr rfl))) (fun _ _ _ _=>zdJ) (fun _ _ _ _=>(zv jL (zv jL (jq Jb (pv 1) Z4 (jN (pv 2))) (zx zbT (pv 3) (pv 0) (fun _ _=>rfl))) (jq Jb (pv 1) (jN (zv zZ (pv 2) (zd (i:=1)))) Z4)))))))))))))),Wq h1 h2 q⟩
theorem xx (T:Txt K mg t):FnOk P w K mg base (CX1 P w) 2 t.a2 t.d2 ["cell","j"] (yf):=by
 refine T.g2.f.ok0 Wl (fun vs H Q E h=>?_) (fun cdv A outer s H vs Q E hr h=>?_)
 ·obtain ⟨c,j,rfl,_⟩:=h;rfl
 obtain ⟨c,j,rfl,h1,h2,q⟩:=h
 exact ⟨vB K t,(zg (zO (zn yD (zv ya (pcG (zC T) T.g0 hr zu (za (pv 0) (za (pv 1) ze))) (zd (i:=10))) (zd (i:=3)) (zy _)) (zh (zt (zv Zv (zv ya (zv zZ (zv wt (zv wt (zv ya (pv 0) (zv Yv (zd (i:=10)) (zd (i:=40)))) (zv zZ (pv 1) (zd (i:=2)))) (zd (i:=1000003))) (pv 1)) (zv zZ (zv wt (zd (i:=2)) (zv Yv (zd (i:=10)) (zd (i:=30)))) (zd (i:=1)))) (zv Yv (zd (i:=10)) (zd (i:=30))))))
   zG)
  (zh (zt (zv Zv (zv ya (pcG (zC T) T.g0 hr zu (za (pv 0) (za (zv zZ (pv 1) (zd (i:=1))) ze))) (zd (i:=6))) (zd (i:=2)))))),XC h1 h2 q⟩
theorem W9 (T:Txt K mg t):FnOk P w K mg base (CX1 P w) 3 t.a3 t.d3 ["cell","shelves"] (jd):=by
 refine T.g3.f.ok0 sc__law_table (fun vs H Q E h=>?_) (fun cdv A outer s H vs Q E hr h=>?_)
 ·obtain ⟨c,b,us,rfl,_⟩:=h;rfl
 obtain ⟨c,b,us,rfl,h1,h2,q⟩:=h
 exact ⟨jg K t,(zg (zK (i:=2) sc__law_table.nd rfl (cH rfl) Z7)
  (zg (vi dv rfl (qS rfl T.b_range (za (zv ya (pcG (zC T) T.g0 hr zu (za (pv 0) (za (zd (i:=20)) ze))) (zd (i:=8))) ze)) (yF (i:=3) sc__law_table.nd rfl (cH rfl)) (zg (zK (i:=4) sc__law_table.nd rfl (cH rfl) (pcG (xx T) T.g2 hr zu (za (pv 0) (za (zv zZ (zd (i:=30)) (zv wt (zd (i:=3)) (pv 3))) ze))))
  (zh (zO (zn kT (pv 4) (zd (i:=0)) (zy _)) (zh (wr (xq hr) (pv 2) (zW (za (zx zN (pv 1) (zv ya (pcG (zC T) T.g0 hr zu (za (pv 0) (za (zv zZ (zd (i:=60)) (pv 3)) ze))) (zd (i:=3))) (fun _ _=>rfl)) (za (zv Zv (zv ya (pcG (zC T) T.g0 hr zu (za (pv 0) (za (zv zZ (zd (i:=70)) (pv 3)) ze))) (zd (i:=4))) (zd (i:=1))) ze))) (pv 4) rfl))
    zG))))
  (zh (zt (zP (vV rfl (hu3 hr)) rfl T.b_sorted qV (za (Yf (pv 2)) ze)))))),WA h1 h2 q⟩
theorem xK (T:Txt K mg t):FnOk P w K mg base (CX1 P w) 1 t.a4 t.d4 ["script","k"] (yI K):=by
 refine T.g4.f.ok0 Xn (fun vs H Q E h=>?_) (fun cdv A outer s H vs Q E hr h=>?_)
 ·obtain ⟨a,ns,k,rfl,_⟩:=h;rfl
 obtain ⟨a,ns,k,rfl,hS,hl,q⟩:=h
 exact ⟨wS K t,(zg (zO (zn YZ (pv 1) (zP yz rfl T.b_len xB (za (pv 0) ze)) (zy _)) (zh (zt (zx zN (pv 0) (pv 1) (fun _ _=>rfl))))
   zG)
  (zh (zt (zd (i:=0))))),YS hS hl q⟩
theorem WE (T:Txt K mg t) (n:Nat) (IH:FnOk P w K mg base (CX1 P w) (2 + 2 * n) t.a6 t.d6 ["rows","first"] (xu n)):FnOk P w K mg base (CX1 P w) (2 + 2 * n + 1) t.a5 t.d5 ["row","at"] (qu n):=by
 refine T.g5.f.ok0 sc_block_steps (k:=2 + 2 * n) (fun vs H Q E h=>?_) (fun cdv A outer s H vs Q E hr h=>?_)
 ·obtain ⟨v,e,a,b,k,rfl,_⟩:=h;rfl
 obtain ⟨v,e,a,b,k,rfl,h1,h2,h3,h4,q⟩:=h
 exact ⟨qx K t n,(zg (zK (i:=2) sc_block_steps.nd rfl (cH rfl) (XH (FnOk.mono IH (by lia)) hr rfl T.g6.m T.g6.f.kp T.g6.b .nil zu (za (zx zF (pv 0) (zd (i:=2)) (fun _ _=>rfl)) (za (zv zZ (pv 1) (zd (i:=1))) ze))))
  (zg (zK (i:=3) sc_block_steps.nd rfl (cH rfl) (zv zZ (zv zZ (pv 1) (zd (i:=1))) (zP yz rfl T.b_len xB (za (pv 2) ze))))
  (zg (zO (zn (zcf (WG hr)) (zx zF (pv 0) (zd (i:=3)) (fun _ _=>rfl)) (yA ze) (zy _)) (zh (zt (zv V2 (yA (za (zW (za (zL (x:="skip")) (za (zx zF (pv 0) (zd (i:=1)) (fun _ _=>rfl)) (za (pv 3) ze)))) ze)) (pv 2))))
    zG)
  (zg (zK (i:=4) sc_block_steps.nd rfl (cH rfl) (XH (FnOk.mono IH (by lia)) hr rfl T.g6.m T.g6.f.kp T.g6.b .nil zu (za (zx zF (pv 0) (zd (i:=3)) (fun _ _=>rfl)) (za (zv zZ (pv 3) (zd (i:=1))) ze))))
  (zh (zt (zv V2 (zv V2 (zv V2 (yA (za (zW (za (zL (x:="skip")) (za (zx zF (pv 0) (zd (i:=1)) (fun _ _=>rfl)) (za (zv zZ (pv 3) (zd (i:=1))) ze)))) ze)) (pv 2)) (yA (za (zW (za (zL (x:="go")) (za (zv zZ (zv zZ (pv 3) (zd (i:=1))) (zP yz rfl T.b_len xB (za (pv 4) ze))) ze))) ze))) (pv 4)))))))),XA h1 h2 h3 h4 q⟩
theorem Qd (T:Txt K mg t):∀ n,FnOk P w K mg base (CX1 P w) (2 + 2 * n) t.a6 t.d6 ["rows","first"] (xu n):=by
 intro n
 induction n with
 | zero=>exact ⟨fun vs H Q E h=>(Ym h).elim,fun A outer s H args us vs Q E hr he hb hv h=>(Ym h).elim⟩
 | succ n IH =>
 refine T.g6.f.ok0 sc_steps_of (k:=2 + 2 * n + 1) (fun vs H Q E h=>?_) (fun cdv A outer s H vs Q E hr h=>?_)
 ·obtain ⟨v,r,k,rfl,_⟩:=h;rfl
 obtain ⟨v,r,k,rfl,h1,h2,h3,q⟩:=h
 exact ⟨Xe K t n,(zg (zK (i:=2) sc_steps_of.nd rfl (cH rfl) (yA ze))
  (zg (vi dv rfl (jJ (pv 0)) (yF (i:=3) sc_steps_of.nd rfl (cH rfl)) (zh (zO (zn yD (zx zF (pv 3) (zd (i:=0)) (fun _ _=>rfl)) (zL (x:="if")) (zy _)) (zh (yV (Zg ci PySem.F.slot_list_extend PySem.F.type_list_extend zbe (pv 2) (za (XH (FnOk.mono (WE T n IH) (by lia)) hr rfl T.g5.m T.g5.f.kp T.g5.b .nil zu (za (pv 3) (za (zv zZ (pv 1) (zP yz rfl T.b_len xB (za (pv 2) ze))) ze))) ze))))
    (zh (yV (Zg ci cL cM y9 (pv 2) (za (pv 3) ze)))))))
  (zh (zt (pv 2))))),JB h1 h2 h3 q⟩
theorem Q6 (T:Txt K mg t):FnOk P w K mg base (CX1 P w) 15 t.a7 t.d7 ["rows"] (ZQ):=by
 refine T.g7.f.ok0 QR (fun vs H Q E h=>?_) (fun cdv A outer s H vs Q E hr h=>?_)
 ·obtain ⟨v,r,rfl,_⟩:=h;rfl
 obtain ⟨v,r,rfl,h1,h2,h3,q⟩:=h
 exact ⟨ZS K t,(zh (zt (pcG (Qd T 6) T.g6 hr zu (za (pv 0) (za (zd (i:=0)) ze))))),KW h1 h2 h3 q⟩
theorem Qe (T:Txt K mg t):FnOk P w K mg base (CX1 P w) 1 t.a8 t.d8 ["self","code"] (Xa t):=by
 refine T.f_Run_init.ok0 KJ (fun vs H Q E h=>?_) (fun cdv A outer s H vs Q E hr h=>?_)
 ·obtain ⟨x,l,dx,xs,C,rfl,_⟩:=h;rfl
 obtain ⟨x,l,dx,xs,C,rfl,h1,h2,h3,q⟩:=h
 exact ⟨Xf K t,(zg (wf (f:="code") (pv 0) (yv xV rfl T.b_list va (za (pv 1) ze)) rfl)
  (zg (wf (f:="at") (pv 0) (zd (i:=0)) rfl)
  (zg (wf (f:="why") (pv 0) xg rfl)
  (zg (wf (f:="slots") (pv 0) J5 rfl)
  (zg (wf (f:="gifts") (pv 0) Z7 rfl)
  (zg (wf (f:="notes") (pv 0) Z7 rfl)
  (zh (wf (f:="sayings") (pv 0) (yA ze) rfl)))))))),JM (rnF T) h1 h2 h3 q⟩
theorem v4 (T:Txt K mg t):FnOk P w K mg base (CX1 P w) 1 t.a9 t.d9 ["self"] (xv t):=by
 refine T.g9.f.ok0 KK (fun vs H Q E h=>?_) (fun cdv A outer s H vs Q E hr h=>?_)
 ·obtain ⟨x,a,C,s,rfl,_⟩:=h;rfl
 obtain ⟨x,a,C,s,rfl,h1,q⟩:=h
 exact ⟨qy K t,(zh (zt (zfL (VV zaf (z0 (f:="why") (pv 0) rfl) xg (zy _)) (zeZ (VV zfN (z0 (f:="at") (pv 0) rfl) (zP yz rfl T.b_len xB (za (z0 (f:="code") (pv 0) rfl) ze)) (zy _)))))),JC (rnF T) h1 q⟩
theorem JO (T:Txt K mg t):FnOk P w K mg base (CX1 P w) 2 t.a10 t.d10 ["self"] (Yk t):=by
 refine T.g10.f.ok0 sc_Run_paper (fun vs H Q E h=>?_) (fun cdv A outer s H vs Q E hr h=>?_)
 ·obtain ⟨x,a,C,s,rfl,_⟩:=h;rfl
 obtain ⟨x,a,C,s,rfl,h1,h2,h3,h4,q1,q2⟩:=h
 exact ⟨j7 K t,(zg (zO (xA (yR (jo (pv 0) T.cl_Run T.g9.me (FnOk.mono (v4 T) (by decide)) hr T.g9.b .nil zu))) (zh (zt xg))
   zG)
  (zg (zK (i:=1) sc_Run_paper.nd rfl (cH rfl) (yv (ky rfl) rfl T.b_list va (za (Yf (z0 (f:="notes") (pv 0) rfl)) ze)))
  (zg (zO (zn zaf (z0 (f:="why") (pv 0) rfl) xg (zy _)) (zh (zt (zW (za (zW (za (zL (x:="off")) (za (z0 (f:="why") (pv 0) rfl) ze))) (za (pv 1) (za (yA ze) ze))))))
    zG)
  (zh (zt (zW (za (zW (za (zL (x:="done")) (za (yv Zf rfl T.b_tuple kX (za (z0 (f:="sayings") (pv 0) rfl) ze)) ze))) (za (pv 1) (za (zP (vV rfl (hu3 hr)) rfl T.b_sorted qV (za (Yf (z0 (f:="gifts") (pv 0) rfl)) ze)) ze))))))))),WY (rnF T) h1 h2 h3 h4 q1 q2⟩
theorem Q7 (T:Txt K mg t):FnOk P w K mg base (CX1 P w) 1 t.a11 t.d11 ["word","first","second"] (ZO t):=by
 refine T.g11.f.ok1 QS (fun vs H Q E h=>?_) (fun cdv A outer s H vs Q E hr h=>?_)
 ·obtain ⟨w,a,b,rfl,_⟩:=h;rfl
 obtain ⟨w,a,b,rfl,hw,ha,hb,q⟩:=h
 exact ⟨ZT K t E,(zg (zO (zn yD (pv 2) (zd (i:=0)) (zy _)) (zh (Ka rfl T.x_Nought zar rfl T.g_Nought (za (zas (pv 0)) ze)))
   zG)
  (zh (zt (vh (zn yD (pv 0) (zL (x:="over")) (zy _)) (zv zcc (pv 1) (pv 2)) (zv zdz (pv 1) (pv 2)))))),KS hw ha hb q⟩
theorem Q8 (T:Txt K mg t):FnOk P w K mg base (CX1 P w) 2 t.a12 t.d12 ["word","first","second"] (ZP t):=by
 refine T.g12.f.ok1 QT (fun vs H Q E h=>?_) (fun cdv A outer s H vs Q E hr h=>?_)
 ·obtain ⟨w,a,b,rfl,_⟩:=h;rfl
 obtain ⟨w,a,b,rfl,hw,ha,hb,q⟩:=h
 exact ⟨ZU K t E,(zg (zO (zn yD (pv 0) (zL (x:="plus")) (zy _)) (zh (zt (zv zZ (pv 1) (pv 2))))
   zG)
  (zg (zO (zn yD (pv 0) (zL (x:="minus")) (zy _)) (zh (zt (zv Zv (pv 1) (pv 2))))
    zG)
  (zg (zO (zn yD (pv 0) (zL (x:="times")) (zy _)) (zh (zt (zv wt (pv 1) (pv 2))))
    zG)
  (zg (zO (zn yD (pv 0) (zL (x:="under")) (zy _)) (zh (zt (vh (zn YZ (pv 1) (pv 2) (zy _)) (zd (i:=1)) (zd (i:=0)))))
    zG)
  (zg (zO (zn yD (pv 0) (zL (x:="same")) (zy _)) (zh (zt (vh (zn yD (pv 1) (pv 2) (zy _)) (zd (i:=1)) (zd (i:=0)))))
    zG)
  (zh (zt (pcG (Q7 T) T.g11 hr y6 (za (pv 0) (za (pv 1) (za (pv 2) ze))))))))))),KU hw ha hb q⟩
theorem Qf (T:Txt K mg t):FnOk P w K mg base (CX1 P w) 1 t.a13 t.d13 ["thing"] (qt):=by
 refine T.g13.f.ok0 KL (fun vs H Q E h=>?_) (fun cdv A outer s H vs Q E hr h=>?_)
 ·obtain ⟨i,rfl,_⟩:=h;rfl
 obtain ⟨i,rfl,q⟩:=h
 exact ⟨qB K t,(zg (zO (PW.pt (vg (xA (yR (zP xE rfl T.b_isinstance ye (za (pv 0) (za (wq rfl T.b_int zb3 rfl) ze))))) (jI (yR (zP xE rfl T.b_isinstance ye (za (pv 0) (za (wq rfl T.b_bool zaq rfl) ze))))))) (zh (zt (kr (b:=false))))
   zG)
  (zh (zt (zbO zeD zeD (YY kS (zv Yv (zd (i:=10)) (zd (i:=30)))) (pv 0) (zv Yv (zd (i:=10)) (zd (i:=30))))))),Jz (kf K).i_b q⟩
theorem zbI (T:Txt K mg t):FnOk P w K mg base (CX1 P w) 3 t.a14 t.d14 ["word","first","second"] (YI t):=by
 refine T.g14.f.ok1 sc_joined (fun vs H Q E h=>?_) (fun cdv A outer s H vs Q E hr h=>?_)
 ·obtain ⟨w,a,b,rfl,_⟩:=h;rfl
 obtain ⟨w,a,b,rfl,hw,ha,hb,q⟩:=h
 exact ⟨YN K t E,(zg (zK (i:=3) sc_joined.nd rfl (cH rfl) (pcG (Q8 T) T.g12 hr y6 (za (pv 0) (za (pv 1) (za (pv 2) ze)))))
  (zg (zO (xA (yR (pcG (Qf T) T.g13 hr y6 (za (pv 3) ze)))) (zh (Ka rfl T.x_Great zar rfl T.g_Great (za (zas (pv 0)) ze)))
    zG)
  (zh (zt (pv 3))))),QW hw ha hb q⟩
theorem Xi (T:Txt K mg t):FnOk P w K mg base (CX1 P w) 4 t.a15 t.d15 ["term","slots"] (wJ t):=by
 refine T.g15.f.ok1 sc_reckoned (fun vs H Q E h=>?_) (fun cdv A outer s H vs Q E hr h=>?_)
 ·obtain ⟨kvs,tm,sl,ps,r,rfl,_⟩:=h;rfl
 obtain ⟨kvs,tm,sl,ps,r,rfl,h1,h2,h3,h4,h5,h6,q⟩:=h
 exact ⟨qC K t E,(zg (zK (i:=2) sc_reckoned.nd rfl (cH rfl) (yA ze))
  (zg (vi zfT rfl (ze2 (pv 0)) (yF (i:=3) sc_reckoned.nd rfl (cH rfl)) (zh (zO (zn Vl (pv 3) (zdw rfl T.g_JOINING rfl) (by with_unfolding_all rfl)) (zg (zK (i:=4) sc_reckoned.nd rfl (cH rfl) (V0 ci fM fN V1 (pv 2)))
  (zg (zK (i:=5) sc_reckoned.nd rfl (cH rfl) (V0 ci fM fN V1 (pv 2)))
  (zh (yV (Zg ci cL cM y9 (pv 2) (za (pcG (zbI T) T.g14 hr y6 (za (pv 3) (za (pv 5) (za (pv 4) ze)))) ze))))))
   (zh (yV (Zg ci cL cM y9 (pv 2) (za (vh (yR (zP xE rfl T.b_isinstance ye (za (pv 3) (za (wq rfl T.b_str ze9 rfl) ze)))) (Z8 (xq hr) (pv 1) (pv 3) (zd (i:=0)) ⟨rfl,rfl,rfl,rfl⟩) (pv 3)) ze)))))))
  (zh (zt (V0 ci fM fN V1 (pv 2)))))),JA (kf K).i_s T.v_JOINING h1 h2 h3 h4 h5 h6 q⟩
theorem yJ (T:Txt K mg t):FnOk P w K mg base (CX1 P w) 5 t.a16 t.d16 ["self","term"] (yc t):=by
 refine T.g16.f.ok1 Xo (fun vs H Q E h=>?_) (fun cdv A outer s H vs Q E hr h=>?_)
 ·obtain ⟨x,tm,e,a,C,s,rfl,_⟩:=h;rfl
 obtain ⟨x,tm,e,a,C,s,rfl,h1,h2,h3,h4,q⟩:=h
 exact ⟨wT K t E,(zh (zt (pcG (Xi T) T.g15 hr y6 (za (pv 1) (za (z0 (f:="slots") (pv 0) rfl) ze))))),YT (rnF T) h1 h2 h3 h4 q⟩
theorem wW (T:Txt K mg t):FnOk P w K mg base (CX1 P w) 6 t.a17 t.d17 ["self","due"] (y8 t):=by
 refine T.g17.f.ok1 Xp (fun vs H Q E h=>?_) (fun cdv A outer s H vs Q E hr h=>?_)
 ·obtain ⟨x,p,xs,sh,te,e,a,C,s,rfl,_⟩:=h;rfl
 obtain ⟨x,p,xs,sh,te,e,a,C,s,rfl,h1,h2,h3,h4,h5,h6,h7,q1,q2⟩:=h
 exact ⟨wU K t E,(zh (zt (zW (za (zx zF (pv 1) (zd (i:=1)) (fun _ _=>rfl)) (za (yu (pv 0) T.cl_Run T.g16.me (FnOk.mono (yJ T) (by decide)) hr T.g16.b .nil y6 (za (zx zF (pv 1) (zd (i:=2)) (fun _ _=>rfl)) ze)) ze))))),YU (rnF T) h1 h2 h3 h4 h5 h6 h7 q1 q2⟩
theorem Qg (T:Txt K mg t):FnOk P w K mg base (CX1 P w) 7 t.a18 t.d18 ["self"] (Xd t):=by
 refine T.g18.f.ok0 sc_Run_asks (fun vs H Q E h=>?_) (fun cdv A outer s H vs Q E hr h=>?_)
 ·obtain ⟨x,a,C,s,rfl,_⟩:=h;rfl
 obtain ⟨x,a,C,s,rfl,h1,h2,h3,q1,q2⟩:=h
 exact ⟨Xg K t,(zg (zO (PW.pt (vg (yR (jo (pv 0) T.cl_Run T.g9.me (FnOk.mono (v4 T) (by decide)) hr T.g9.b .nil zu)) (jI (zn kT (zx zF (zx zN (z0 (f:="code") (pv 0) rfl) (z0 (f:="at") (pv 0) rfl) (fun _ _=>rfl)) (zd (i:=0)) (fun _ _=>rfl)) (zL (x:="take")) (zy _))))) (zh (zt xg))
   zG)
  (zg (zed (And.intro rfl rfl) rfl (zau (i:=1) sc_Run_asks.nd rfl (cH rfl) (Wa (pv 0) T.cl_Run T.g17.me (FnOk.mono (wW T) (by decide)) hr T.g17.b (za (zx zN (z0 (f:="code") (pv 0) rfl) (z0 (f:="at") (pv 0) rfl) (fun _ _=>rfl)) ze))) rfl T.g_Great rfl T.g_Nought (fun _=>(zh (zt xg))))
  (zg (zO (PW.pt (vg (zn (XM (xq hr)) (pv 1) (z0 (f:="gifts") (pv 0) rfl) (by with_unfolding_all rfl)) (jI (zn (XM (xq hr)) (pv 1) (z0 (f:="notes") (pv 0) rfl) (by with_unfolding_all rfl))))) (zh (zt xg))
    zG)
  (zh (zt (pv 1)))))),JN T h1 h2 h3 q1 q2⟩
theorem JP (T:Txt K mg t):FnOk P w K mg base (CX1 P w) 1 t.a19 t.d19 ["self","place","worth"] (Yj t):=by
 refine T.g19.f.ok0 Ju (fun vs H Q E h=>?_) (fun cdv A outer s H vs Q E hr h=>?_)
 ·obtain ⟨x,q,p,w,a,C,s,rfl,_⟩:=h;rfl
 obtain ⟨x,q,p,w,a,C,s,rfl,h1,h2,h3,q⟩:=h
 exact ⟨j8 K t,(zg (zO (zn (XM (xq hr)) (pv 1) (z0 (f:="gifts") (pv 0) rfl) (by with_unfolding_all rfl)) (zh (zt (XI (xq hr) (z0 (f:="gifts") (pv 0) rfl) (pv 1) (fun _ _=>rfl))))
   zG)
  (zg (zO (zn (QK (xq hr)) (pv 1) (z0 (f:="notes") (pv 0) rfl) (by with_unfolding_all rfl)) (zh (wr (xq hr) (z0 (f:="notes") (pv 0) rfl) (pv 1) (pv 2) rfl))
    zG)
  (zh (zt (XI (xq hr) (z0 (f:="notes") (pv 0) rfl) (pv 1) (fun _ _=>rfl)))))),WX (rnF T) h1 h2 h3 q⟩
theorem Qh (T:Txt K mg t):FnOk P w K mg base (CX1 P w) 7 t.a20 t.d20 ["self","due","worth"] (Xb t):=by
 refine T.g20.f.ok1 sc_Run_does (fun vs H Q E h=>?_) (fun cdv A outer s H vs Q E hr h=>?_)
 ·obtain ⟨x,v,r,w,m,a,C,s,rfl,_⟩:=h;rfl
 obtain ⟨x,v,r,w,m,a,C,s,rfl,h1,h2,h3,h4,h5,h6,q1,q2⟩:=h
 exact ⟨Xh K t E,(zh (zO (zn yD (zx zF (pv 1) (zd (i:=0)) (fun _ _=>rfl)) (zL (x:="take")) (zy _)) (zh (wr (xq hr) (z0 (f:="slots") (pv 0) rfl) (zx zF (pv 1) (zd (i:=3)) (fun _ _=>rfl)) (yu (pv 0) T.cl_Run T.g19.me (FnOk.mono (JP T) (by decide)) hr T.g19.b .nil y6 (za (yu (pv 0) T.cl_Run T.g17.me (FnOk.mono (wW T) (by decide)) hr T.g17.b .nil y6 (za (pv 1) ze)) (za (pv 2) ze))) rfl))
   (zh (zO (zn yD (zx zF (pv 1) (zd (i:=0)) (fun _ _=>rfl)) (zL (x:="give")) (zy _)) (zg (zK (i:=3) sc_Run_does.nd rfl (cH rfl) (yu (pv 0) T.cl_Run T.g17.me (FnOk.mono (wW T) (by decide)) hr T.g17.b .nil y6 (za (pv 1) ze)))
  (zh (wr (xq hr) (z0 (f:="gifts") (pv 0) rfl) (pv 3) (yu (pv 0) T.cl_Run T.g16.me (FnOk.mono (yJ T) (by decide)) hr T.g16.b .nil y6 (za (zx zF (pv 1) (zd (i:=3)) (fun _ _=>rfl)) ze)) rfl)))
   (zh (zO (zn yD (zx zF (pv 1) (zd (i:=0)) (fun _ _=>rfl)) (zL (x:="let")) (zy _)) (zh (wr (xq hr) (z0 (f:="slots") (pv 0) rfl) (zx zF (pv 1) (zd (i:=1)) (fun _ _=>rfl)) (yu (pv 0) T.cl_Run T.g16.me (FnOk.mono (yJ T) (by decide)) hr T.g16.b .nil y6 (za (zx zF (pv 1) (zd (i:=2)) (fun _ _=>rfl)) ze)) rfl))
   (zh (yV (Zg ci cL cM y9 (z0 (f:="sayings") (pv 0) rfl) (za (yu (pv 0) T.cl_Run T.g16.me (FnOk.mono (yJ T) (by decide)) hr T.g16.b .nil y6 (za (zx zF (pv 1) (zd (i:=1)) (fun _ _=>rfl)) ze)) ze)))))))))),JL (rnF T) h1 h2 h3 h4 h5 h6 q1 q2⟩
theorem Va (T:Txt K mg t):FnOk P w K mg base (CX1 P w) 8 t.a21 t.d21 ["self","due","worth"] (jb t):=by
 refine T.g21.f.ok1 WK (fun vs H Q E h=>?_) (fun cdv A outer s H vs Q E hr h=>?_)
 ·obtain ⟨x,v,c,w,m,a,C,s,rfl,_⟩:=h;rfl
 obtain ⟨x,v,c,w,m,a,C,s,rfl,h1,h2,h3,h4,h5,q1,q2⟩:=h
 exact ⟨Zm K t E,(zg (zO (zn yD (zx zF (pv 1) (zd (i:=0)) (fun _ _=>rfl)) (zL (x:="go")) (zy _)) (zh (zt (zx zF (pv 1) (zd (i:=1)) (fun _ _=>rfl))))
   zG)
  (zg (zO (zn yD (zx zF (pv 1) (zd (i:=0)) (fun _ _=>rfl)) (zL (x:="skip")) (zy _)) (zh (zt (vh (zn yD (yu (pv 0) T.cl_Run T.g16.me (FnOk.mono (yJ T) (by decide)) hr T.g16.b .nil y6 (za (zx zF (pv 1) (zd (i:=1)) (fun _ _=>rfl)) ze)) (zd (i:=0)) (zy _)) (zx zF (pv 1) (zd (i:=2)) (fun _ _=>rfl)) (zv zZ (z0 (f:="at") (pv 0) rfl) (zd (i:=1))))))
    zG)
  (zg (zO (zn yD (zx zF (pv 1) (zd (i:=0)) (fun _ _=>rfl)) (zL (x:="off")) (zy _)) (zh (zO (zn kT (yu (pv 0) T.cl_Run T.g16.me (FnOk.mono (yJ T) (by decide)) hr T.g16.b .nil y6 (za (zx zF (pv 1) (zd (i:=1)) (fun _ _=>rfl)) ze)) (zd (i:=0)) (zy _)) (zh (wf (f:="why") (pv 0) (zL (x:="told")) rfl))
    zG))
    (zh (yV (yu (pv 0) T.cl_Run T.g20.me (FnOk.mono (Qh T) (by decide)) hr T.g20.b .nil y6 (za (pv 1) (za (pv 2) ze))))))
  (zh (zt (zv zZ (z0 (f:="at") (pv 0) rfl) (zd (i:=1)))))))),WC (rnF T) h1 h2 h3 h4 h5 q1 q2⟩
theorem Qi (T:Txt K mg t):FnOk P w K mg base (CX1 P w) 9 t.a22 t.d22 ["self","worth"] (Xc t):=by
 refine T.f_Run_step.ok0 KM (fun vs H Q E h=>?_) (fun cdv A outer s H vs Q E hr h=>?_)
 ·obtain ⟨x,w,m,a,C,s,rfl,_⟩:=h;rfl
 obtain ⟨x,w,m,a,C,s,rfl,h1,h2,h3,h4,q⟩:=h
 exact ⟨qD K t,(zg (zO (yR (jo (pv 0) T.cl_Run T.g9.me (FnOk.mono (v4 T) (by decide)) hr T.g9.b .nil zu)) (zh zdx)
   zG)
  (zh (Kr (And.intro rfl rfl) rfl (zec (f:="at") (pv 0) (Wa (pv 0) T.cl_Run T.g21.me (FnOk.mono (Va T) (by decide)) hr T.g21.b (za (zx zN (z0 (f:="code") (pv 0) rfl) (z0 (f:="at") (pv 0) rfl) (fun _ _=>rfl)) (za (pv 1) ze))) rfl) rfl T.g_Great rfl T.g_Nought (fun _=>(zh (wf (f:="why") (pv 0) (zL (x:="great")) rfl))) (fun _=>(zh (wf (f:="why") (pv 0) (zL (x:="nought")) rfl)))))),JD T h1 h2 h3 h4 q⟩
theorem zbJ (T:Txt K mg t):FnOk P w K mg base (CX1 P w) 1 t.a23 t.d23 ["table","place"] (VH):=by
 refine T.g23.f.ok0 zbw (fun vs H Q E h=>?_) (fun cdv A outer s H vs Q E hr h=>?_)
 ·obtain ⟨l,q0,rows,p,rfl,_⟩:=h;rfl
 obtain ⟨l,q0,rows,p,rfl,h1,h2,h3,q⟩:=h
 exact ⟨YO K t,(zh (zt (Z8 (xq hr) (yv (y7 rfl (hu3 hr)) rfl T.b_dict Ya (za (pv 0) ze)) (pv 1) (zd (i:=0)) ⟨rfl,rfl,rfl,rfl⟩))),Q3 h1 h2 h3 q⟩
theorem Q9 (T:Txt K mg t):FnOk P w K mg base (CX1 P w) 10 t.a24 t.d24 ["code","table"] (YK t):=by
 refine T.g24.f.ok0 sc_fed (fun vs H Q E h=>?_) (fun cdv A outer s H vs Q E hr h=>?_)
 ·obtain ⟨l,tl,xs,C,rows,rfl,_⟩:=h;rfl
 obtain ⟨l,tl,xs,C,rows,rfl,h1,h2,h3,h4,h5,h6,q⟩:=h
 exact ⟨zcX K t,(zg (zK (i:=2) sc_fed.nd rfl (cH rfl) (zah T.mk_Run (FnOk.mono (Qe T) (by decide)) hr rfl T.g_Run T.b_Run_init .nil zu (za (pv 0) ze)))
  (zg (JW dv (xA (yR (jo (pv 2) T.cl_Run T.g9.me (FnOk.mono (v4 T) (by decide)) hr T.g9.b .nil zu))) (zg (zK (i:=3) sc_fed.nd rfl (cH rfl) (jo (pv 2) T.cl_Run T.g18.me (FnOk.mono (Qg T) (by decide)) hr T.g18.b .nil zu))
  (zh (yV (yu (pv 2) T.cl_Run T.me_Run_step (FnOk.mono (Qi T) (by decide)) hr T.b_Run_step .nil zu (za (vh (zn Qq (pv 3) xg (zy _)) (zd (i:=0)) (pcG (zbJ T) T.g23 hr zu (za (pv 1) (za (pv 3) ze)))) ze))))))
  (zh (zt (jo (pv 2) T.cl_Run T.g10.me (FnOk.mono (JO T) (by decide)) hr T.g10.b .nil zu))))),zeC h1 h2 h3 h4 h5 h6 q⟩
theorem Vb (T:Txt K mg t):FnOk P w K mg base (CX1 P w) 1 t.a25 t.d25 ["self","table"] (jc t):=by
 refine T.f_Doing_init.ok0 WL (fun vs H Q E h=>?_) (fun cdv A outer s H vs Q E hr h=>?_)
 ·obtain ⟨x,a,tab,H0,dx,rfl,_⟩:=h;rfl
 obtain ⟨x,a,tab,H0,dx,rfl,h1,h2,h3,h4,h5,q⟩:=h
 exact ⟨jh K t,(zg (wf (f:="slots") (pv 0) J5 rfl)
  (zg (wf (f:="worths") (pv 0) (yv (y7 rfl (hu3 hr)) rfl T.b_dict Ya (za (pv 1) ze)) rfl)
  (zh (wf (f:="sayings") (pv 0) (yA ze) rfl)))),Wu (doF T) h1 h2 h3 h4 h5 q⟩
theorem yg (T:Txt K mg t):FnOk P w K mg base (CX1 P w) 5 t.a26 t.d26 ["self","term"] (zY t):=by
 refine T.g26.f.ok1 Yi (fun vs H Q E h=>?_) (fun cdv A outer s H vs Q E hr h=>?_)
 ·obtain ⟨x,tm,e,H0,dx,sl,wo,sa,s0,rfl,_⟩:=h;rfl
 obtain ⟨x,tm,e,H0,dx,sl,wo,sa,s0,rfl,h1,h2,h3,h4,q⟩:=h
 exact ⟨x0 K t E,(zh (zt (pcG (Xi T) T.g15 hr y6 (za (pv 1) (za (z0 (f:="slots") (pv 0) rfl) ze))))),ZX (doF T) h1 h2 h3 h4 q⟩
theorem Vc (T:Txt K mg t):FnOk P w K mg base (CX1 P w) 6 t.a27 t.d27 ["self","row"] (Zh t):=by
 refine T.g27.f.ok1 sc_Doing_does (fun vs H Q E h=>?_) (fun cdv A outer s H vs Q E hr h=>?_)
 ·obtain ⟨x,v,r,m,H0,dx,sl,wo,sa,s0,rfl,_⟩:=h;rfl
 obtain ⟨x,v,r,m,H0,dx,sl,wo,sa,s0,rfl,h1,h2,h3,h4,h5,h6,q1,q2⟩:=h
 exact ⟨Zn K t E,(zh (zO (zn yD (zx zF (pv 1) (zd (i:=0)) (fun _ _=>rfl)) (zL (x:="take")) (zy _)) (zh (wr (xq hr) (z0 (f:="slots") (pv 0) rfl) (zx zF (pv 1) (zd (i:=3)) (fun _ _=>rfl)) (Z8 (xq hr) (z0 (f:="worths") (pv 0) rfl) (zW (za (zx zF (pv 1) (zd (i:=1)) (fun _ _=>rfl)) (za (yu (pv 0) T.cl_Doing T.g26.me (FnOk.mono (yg T) (by decide)) hr T.g26.b .nil y6 (za (zx zF (pv 1) (zd (i:=2)) (fun _ _=>rfl)) ze)) ze))) (zd (i:=0)) ⟨rfl,rfl,rfl,rfl⟩) rfl))
   (zh (zO (zn yD (zx zF (pv 1) (zd (i:=0)) (fun _ _=>rfl)) (zL (x:="give")) (zy _)) (zg (zK (i:=2) sc_Doing_does.nd rfl (cH rfl) (zW (za (zx zF (pv 1) (zd (i:=1)) (fun _ _=>rfl)) (za (yu (pv 0) T.cl_Doing T.g26.me (FnOk.mono (yg T) (by decide)) hr T.g26.b .nil y6 (za (zx zF (pv 1) (zd (i:=2)) (fun _ _=>rfl)) ze)) ze))))
  (zh (wr (xq hr) (z0 (f:="worths") (pv 0) rfl) (pv 2) (yu (pv 0) T.cl_Doing T.g26.me (FnOk.mono (yg T) (by decide)) hr T.g26.b .nil y6 (za (zx zF (pv 1) (zd (i:=3)) (fun _ _=>rfl)) ze)) rfl)))
   (zh (zO (zn yD (zx zF (pv 1) (zd (i:=0)) (fun _ _=>rfl)) (zL (x:="let")) (zy _)) (zh (wr (xq hr) (z0 (f:="slots") (pv 0) rfl) (zx zF (pv 1) (zd (i:=1)) (fun _ _=>rfl)) (yu (pv 0) T.cl_Doing T.g26.me (FnOk.mono (yg T) (by decide)) hr T.g26.b .nil y6 (za (zx zF (pv 1) (zd (i:=2)) (fun _ _=>rfl)) ze)) rfl))
   (zh (yV (Zg ci cL cM y9 (z0 (f:="sayings") (pv 0) rfl) (za (yu (pv 0) T.cl_Doing T.g26.me (FnOk.mono (yg T) (by decide)) hr T.g26.b .nil y6 (za (zx zF (pv 1) (zd (i:=1)) (fun _ _=>rfl)) ze)) ze)))))))))),WD (doF T) h1 h2 h3 h4 h5 h6 q1 q2⟩
theorem kP (T:Txt K mg t):∀ n,FnOk P w K mg base (CX1 P w) (7 + n) t.a28 t.d28 ["self","rows"] (yj t n):=by
 intro n
 induction n with
 | zero=>exact ⟨fun vs H Q E h=>(x6 h).elim,fun A outer s H args us vs Q E hr he hb hv h=>(x6 h).elim⟩
 | succ n IH =>
 refine T.g28.f.ok1 sc_Doing_goes_through (k:=7 + n) (fun vs H Q E h=>?_) (fun cdv A outer s H vs Q E hr h=>?_)
 ·obtain ⟨x,l,xs,rws,m,H0,dx,sl,wo,sa,s0,rfl,_⟩:=h;rfl
 obtain ⟨x,l,xs,rws,m,H0,dx,sl,wo,sa,s0,rfl,h1,h2,h3,h4,h5,h6,h7,q1,q2,q3⟩:=h
 exact ⟨we K t n E,(zg (vi zfT rfl (jJ (pv 1)) (yF (i:=2) sc_Doing_goes_through.nd rfl (cH rfl)) (zh (zO (zn yD (zx zF (pv 2) (zd (i:=0)) (fun _ _=>rfl)) (zL (x:="off")) (zy _)) (zh (zO (zn kT (yu (pv 0) T.cl_Doing T.g26.me (FnOk.mono (yg T) (by lia)) hr T.g26.b .nil y6 (za (zx zF (pv 2) (zd (i:=1)) (fun _ _=>rfl)) ze)) (zd (i:=0)) (zy _)) (zh (zt (kr (b:=false))))
   zG))
   (zh (zO (zn yD (zx zF (pv 2) (zd (i:=0)) (fun _ _=>rfl)) (zL (x:="if")) (zy _)) (zh (zO (xA (yR (yu (pv 0) T.cl_Doing T.g28.me (FnOk.mono IH (by lia)) hr T.g28.b .nil y6 (za (vh (zn kT (yu (pv 0) T.cl_Doing T.g26.me (FnOk.mono (yg T) (by lia)) hr T.g26.b .nil y6 (za (zx zF (pv 2) (zd (i:=1)) (fun _ _=>rfl)) ze)) (zd (i:=0)) (zy _)) (zx zF (pv 2) (zd (i:=2)) (fun _ _=>rfl)) (zx zF (pv 2) (zd (i:=3)) (fun _ _=>rfl))) ze)))) (zh (zt (kr (b:=false))))
   zG))
   (zh (yV (yu (pv 0) T.cl_Doing T.g27.me (FnOk.mono (Vc T) (by lia)) hr T.g27.b .nil y6 (za (pv 2) ze)))))))))
  (zh (zt (kr (b:=true))))),kq (doF T) h1 h2 h3 h4 h5 h6 h7 q1 q2 q3⟩
theorem vR (T:Txt K mg t):FnOkH P w K mg base 1 t.a29 t.d29 ["why","table"] (yO):=by
 refine T.g29.f.okH WM (fun vs H Q E h=>?_) (fun cdv A outer s H vs Q E hr h=>?_)
 ·obtain ⟨w,a,tab,rfl,_⟩:=h;rfl
 obtain ⟨w,a,tab,rfl,h1,q⟩:=h
 exact ⟨ji K t,(zh (zt (zW (za (zW (za (zL (x:="off")) (za (pv 0) ze))) (za (yv xV rfl T.b_list va (za (pv 1) ze)) ze))))),Wv h1 q⟩
theorem Vd (T:Txt K mg t):FnOk P w K mg base (CX1 P w) 1 t.a29 t.d29 ["why","table"] (yO):=(vR T).toFn
theorem Qj (T:Txt K mg t):FnOk P w K mg base (CX1 P w) 1 t.a30 t.d30 ["rows"] (qw):=by
 refine T.g30.f.ok0 sc_table_of (fun vs H Q E h=>?_) (fun cdv A outer s H vs Q E hr h=>?_)
 ·obtain ⟨a,rows,rfl,_⟩:=h;rfl
 obtain ⟨a,rows,rfl,h1,h2,h3,q⟩:=h
 exact ⟨vX K t,(zg (zK (i:=1) sc_table_of.nd rfl (mO rfl) (yv (y7 rfl (hu3 hr)) rfl T.b_dict Ya (za (pv 0) ze)))
  (zh (zt (V9 rfl (osc:=zk jX) (N:=["rows","worths"]) (xs:=["place"]) (ix:=[1]) (by decide +kernel) (jJ (zP (Jj rfl) rfl T.b_sorted qV (za (pv 1) ze))) (fun _ _ _ _=>(yF (i:=0) (show iJ (["place","worths"]:List Str) from (by decide +kernel)) rfl (cH rfl) (.inr rfl))) (fun _ _ _ _=>(zao (zn kT (XI (xq hr) (pv 1) (pv 0) (fun _ _=>rfl)) (zd (i:=0)) (zy _)))) (fun _ _ _ _=>(zW (za (pv 0) (za (XI (xq hr) (pv 1) (pv 0) (fun _ _=>rfl)) ze)))))))),JG h1 h2 h3 q⟩
theorem zdt (T:Txt K mg t):FnOk P w K mg base (CX1 P w) 14 t.a31 t.d31 ["rows","table"] (Wm):=by
 refine T.g31.f.ok0 sc_alone (fun vs H Q E h=>?_) (fun cdv A outer s H vs Q E hr h=>?_)
 ·obtain ⟨v,a,rws,tab,rfl,_⟩:=h;rfl
 obtain ⟨v,a,rws,tab,rfl,h1,h2,h3,q⟩:=h
 exact ⟨Wn K t,(zg (zK (i:=2) sc_alone.nd rfl (cH rfl) (zah T.mk_Doing (FnOk.mono (Vb T) (by decide)) hr rfl T.g_Doing T.b_Doing_init .nil zu (za (pv 1) ze)))
  (zg (Kr (And.intro rfl rfl) rfl (zau (i:=3) sc_alone.nd rfl (cH rfl) (Wa (pv 2) T.cl_Doing T.g28.me (FnOk.mono (kP T 6) (by decide)) hr T.g28.b (za (pv 0) ze))) rfl T.g_Great rfl T.g_Nought (fun _=>(zh (zt (Ks (FnOkH.mono (vR T) (by decide)) (zeL hr) rfl T.g29.m T.g29.f.kp T.g29.b (za (zL (x:="great")) (za (pv 1) ze)))))) (fun _=>(zh (zt (Ks (FnOkH.mono (vR T) (by decide)) (zeL hr) rfl T.g29.m T.g29.f.kp T.g29.b (za (zL (x:="nought")) (za (pv 1) ze)))))))
  (zg (zO (xA (yR (pv 3))) (zh (zt (pcG (Vd T) T.g29 hr zu (za (zL (x:="told")) (za (pv 1) ze)))))
    zG)
  (zh (zt (zW (za (zW (za (zL (x:="done")) (za (yv Zf rfl T.b_tuple kX (za (z0 (f:="sayings") (pv 2) rfl) ze)) ze))) (za (pcG (Qj T) T.g30 hr zu (za (yv (ky rfl) rfl T.b_list va (za (Yf (z0 (f:="worths") (pv 2) rfl)) ze)) ze)) ze)))))))),zby T h1 h2 h3 q⟩
theorem kG (T:Txt K mg t):FnOk P w K mg base (CX1 P w) 1 t.a32 t.d32 ["found"] (xI):=by
 refine T.g32.f.ok0 sc__law_rows_of (fun vs H Q E h=>?_) (fun cdv A outer s H vs Q E hr h=>?_)
 ·obtain ⟨l,rows,rfl,_⟩:=h;rfl
 obtain ⟨l,rows,rfl,h1,q⟩:=h
 exact ⟨wV K t,(zg (zO (xA (yR (zP xE rfl T.b_isinstance ye (za (pv 0) (za (wq rfl T.b_list va rfl) ze))))) (zh (zt (kr (b:=false))))
   zG)
  (zg (vi dv rfl (jJ (pv 0)) (yF (i:=1) sc__law_rows_of.nd rfl (cH rfl)) (zg (zO (PW.pt (vg (xA (yR (zP xE rfl T.b_isinstance ye (za (pv 1) (za (wq rfl T.b_tuple kX rfl) ze))))) (vg (zn kT (zP yz rfl T.b_len xB (za (pv 1) ze)) (zd (i:=2)) (zy _)) (vg (xA (yR (zP xE rfl T.b_isinstance ye (za (zx zF (pv 1) (zd (i:=0)) (fun _ _=>rfl)) (za (wq rfl T.b_tuple kX rfl) ze))))) (jI (zn kT (zP yz rfl T.b_len xB (za (zx zF (pv 1) (zd (i:=0)) (fun _ _=>rfl)) ze)) (zd (i:=2)) (zy _))))))) (zh (zt (kr (b:=false))))
    zG)
  (zh (vi dv rfl (jJ (yA (za (zx zF (zx zF (pv 1) (zd (i:=0)) (fun _ _=>rfl)) (zd (i:=1)) (fun _ _=>rfl)) (za (zx zF (pv 1) (zd (i:=1)) (fun _ _=>rfl)) ze)))) (yF (i:=2) sc__law_rows_of.nd rfl (cH rfl)) (zh (zO (PW.pt (vg (xA (yR (zP xE rfl T.b_isinstance ye (za (pv 2) (za (wq rfl T.b_int zb3 rfl) ze))))) (jI (yR (zP xE rfl T.b_isinstance ye (za (pv 2) (za (wq rfl T.b_bool zaq rfl) ze))))))) (zh (zt (kr (b:=false))))
    zG))))))
  (zh (zt (kr (b:=true)))))),YX (kf K) h1 q⟩
theorem Ve (T:Txt K mg t):FnOk P w K mg base (CX1 P w) 1 t.a33 t.d33 ["notes","table"] (je):=by
 refine T.g33.f.ok0 sc__law_noted (fun vs H Q E h=>?_) (fun cdv A outer s H vs Q E hr h=>?_)
 ·obtain ⟨nl,tl,no,tab,rfl,_⟩:=h;rfl
 obtain ⟨nl,tl,no,tab,rfl,h1,h2,h3,h4,h5,h6,q⟩:=h
 exact ⟨jj K t,(zg (zK (i:=2) sc__law_noted.nd rfl (cH rfl) (yv (y7 rfl (hu3 hr)) rfl T.b_dict Ya (za (pv 1) ze)))
  (zg (zK (i:=3) sc__law_noted.nd rfl (cH rfl) Z7)
  (zg (vi dv rfl (jJ (pv 0)) (Qn rfl (jm (yF (i:=4) sc__law_noted.nd rfl (cH rfl)) (jm (yF (i:=5) sc__law_noted.nd rfl (cH rfl)) VT))) (zg (zO (PW.pt (vg (zn (XM (xq hr)) (pv 4) (pv 3) (by with_unfolding_all rfl)) (jI (zn kT (Z8 (xq hr) (pv 2) (pv 4) (zd (i:=0)) ⟨rfl,rfl,rfl,rfl⟩) (pv 5) (zy _))))) (zh (zt (kr (b:=false))))
    zG)
  (zh (wr (xq hr) (pv 3) (pv 4) (kr (b:=true)) rfl))))
  (zh (zt (kr (b:=true))))))),WB h1 h2 h3 h4 h5 h6 q⟩
theorem JQ (T:Txt K mg t):FnOk P w K mg base (CX1 P w) 1 t.a34 t.d34 ["table","gifts"] (j4):=by
 refine T.g34.f.ok0 sc__law_laid (fun vs H Q E h=>?_) (fun cdv A outer s H vs Q E hr h=>?_)
 ·obtain ⟨a,b,tab,gifts,rfl,_⟩:=h;rfl
 obtain ⟨a,b,tab,gifts,rfl,h1,h2,h3,h4,q⟩:=h
 exact ⟨j9 K t,(zg (zK (i:=2) sc__law_laid.nd rfl (cH rfl) (yv (y7 rfl (hu3 hr)) rfl T.b_dict Ya (za (pv 0) ze)))
  (zg (vi dv rfl (qS rfl T.b_range (za (zP yz rfl T.b_len xB (za (pv 1) ze)) ze)) (yF (i:=3) sc__law_laid.nd rfl (cH rfl)) (zg (zO (PW.pt (Zu (zn zae (pv 3) (zd (i:=0)) (zy _)) (qR (xA (zn (zfo (WG hr)) (zx zF (zx zN (pv 1) (zv Zv (pv 3) (zd (i:=1))) (fun _ _=>rfl)) (zd (i:=0)) (fun _ _=>rfl)) (zx zF (zx zN (pv 1) (pv 3) (fun _ _=>rfl)) (zd (i:=0)) (fun _ _=>rfl)) (zy _)))))) (zh (zt xg))
    zG)
  (zh (wr (xq hr) (pv 2) (zx zF (zx zN (pv 1) (pv 3) (fun _ _=>rfl)) (zd (i:=0)) (fun _ _=>rfl)) (zx zF (zx zN (pv 1) (pv 3) (fun _ _=>rfl)) (zd (i:=1)) (fun _ _=>rfl)) rfl))))
  (zh (zff (zt (zP (Js rfl (hu3 hr)) rfl T.b_sorted qV (za (V9 rfl (osc:=zk vW) (N:=["table","gifts","there","k"]) (xs:=["place","worth"]) (ix:=[]) (by decide +kernel) (zcS (pv 2)) (fun _ _ _ _=>(Qn rfl (jm (yF (i:=0) (show iJ (["place","worth"]:List Str) from (by decide +kernel)) rfl (cH rfl)) (jm (yF (i:=1) (show iJ (["place","worth"]:List Str) from (by decide +kernel)) rfl (cH rfl)) VT)))) (fun _ _ _ _=>(zao (zn kT (pv 1) (zd (i:=0)) (zy _)))) (fun _ _ _ _=>(zW (za (pv 0) (za (pv 1) ze))))) ze))))))),W7 h1 h2 h3 h4 q⟩
theorem JR (T:Txt K mg t):FnOk P w K mg base (CX1 P w) 16 t.a35 t.d35 ["rows","table"] (j5):=by
 refine T.g35.f.ok0 sc__law_done (fun vs H Q E h=>?_) (fun cdv A outer s H vs Q E hr h=>?_)
 ·obtain ⟨v,tl,r,tab,rfl,_⟩:=h;rfl
 obtain ⟨v,tl,r,tab,rfl,h1,h2,h3,h4,h5,h6,h7,h8,q⟩:=h
 exact ⟨ka K t,(zg (zK (i:=2) sc__law_done.nd rfl (cH rfl) (pcG (Q6 T) T.g7 hr zu (za (pv 0) ze)))
  (zg (zK (i:=3) sc__law_done.nd rfl (cH rfl) (yv xV rfl T.b_list va (za (pv 2) ze)))
  (zg (zK (i:=4) sc__law_done.nd rfl (cH rfl) (yv xV rfl T.b_list va (za (pv 1) ze)))
  (zg (zK (i:=5) sc__law_done.nd rfl (cH rfl) (pcG (Q9 T) T.g24 hr zu (za (pv 3) (za (pv 4) ze))))
  (zg (zO (PW.pt (vg (xA (yR (zP xE rfl T.b_isinstance ye (za (pv 5) (za (wq rfl T.b_tuple kX rfl) ze))))) (vg (zn kT (zP yz rfl T.b_len xB (za (pv 5) ze)) (zd (i:=3)) (zy _)) (vg (xA (yR (pcG (kG T) T.g32 hr zu (za (zx zF (pv 5) (zd (i:=1)) (fun _ _=>rfl)) ze)))) (jI (xA (yR (pcG (kG T) T.g32 hr zu (za (zx zF (pv 5) (zd (i:=2)) (fun _ _=>rfl)) ze))))))))) (zh (zt xg))
    zG)
  (zg (ze0 (pcG (zdt T) T.g31 hr zu (za (pv 0) (za (yv xV rfl T.b_list va (za (pv 1) ze)) ze))) (Qn rfl (jm (yF (i:=6) sc__law_done.nd rfl (cH rfl)) (jm (yF (i:=7) sc__law_done.nd rfl (cH rfl)) VT))))
  (zg (zO (PW.pt (vg (zn (qe (WG hr)) (zx zF (pv 5) (zd (i:=0)) (fun _ _=>rfl)) (pv 6) (zy _)) (vg (xA (yR (pcG (Ve T) T.g33 hr zu (za (zx zF (pv 5) (zd (i:=1)) (fun _ _=>rfl)) (za (pv 1) ze))))) (jI (zn (qe (WG hr)) (pcG (JQ T) T.g34 hr zu (za (pv 1) (za (zx zF (pv 5) (zd (i:=2)) (fun _ _=>rfl)) ze))) (pv 7) (zy _)))))) (zh (zt xg))
    zG)
  (zg (zO (PW.pt (Zu (zn yD (zx zF (pv 6) (zd (i:=0)) (fun _ _=>rfl)) (zL (x:="off")) (zy _)) (qR (zn (zcM (WG hr)) (zx zF (pv 5) (zd (i:=2)) (fun _ _=>rfl)) (yA ze) (zy _))))) (zh (zt xg))
    zG)
  (zg (zO (PW.pt (vg (zn (qe (WG hr)) (pv 3) (pv 2) (zy _)) (vg (zn (qe (WG hr)) (pv 4) (pv 1) (zy _)) (jI (zn (qe (WG hr)) (pcG (Q9 T) T.g24 hr zu (za (pv 3) (za (pv 4) ze))) (pv 5) (zy _)))))) (zh (zt xg))
    zG)
  (zh (zt (pv 7)))))))))))),W8 h1 h2 h3 h4 h5 h6 h7 h8 q⟩
theorem qQ (T:Txt K mg t):FnOk P w K mg base (CX1 P w) 1 t.a36 t.d36 ["frames"] (xw):=by
 refine T.g36.f.ok0 sc__law_closed (fun vs H Q E h=>?_) (fun cdv A outer s H vs Q E hr h=>?_)
 ·obtain ⟨FR,H0,g,h,gs,fs,sp,rfl,_⟩:=h;rfl
 obtain ⟨FR,H0,g,h,gs,fs,sp,rfl,h1,h2,q⟩:=h
 exact ⟨qH K t,(zg (zK (i:=1) sc__law_closed.nd rfl (cH rfl) (V0 ci fM fN V1 (pv 0)))
  (zh (zO (zn Qq (zx zN (pv 1) (zd (i:=1)) (fun _ _=>rfl)) xg (zy _)) (zh (yV (Zg ci cL cM y9 (zx zN (zx zN (pv 0) (YY kS (zd (i:=1))) (fun _ _=>rfl)) (zd (i:=2)) (fun _ _=>rfl)) (za (zW (za (zL (x:="if")) (za (zx zN (pv 1) (zd (i:=0)) (fun _ _=>rfl)) (za (zx zN (pv 1) (zd (i:=2)) (fun _ _=>rfl)) (za (yA ze) ze))))) ze))))
    (zh (yV (Zg ci cL cM y9 (zx zN (zx zN (pv 0) (YY kS (zd (i:=1))) (fun _ _=>rfl)) (zd (i:=2)) (fun _ _=>rfl)) (za (zW (za (zL (x:="if")) (za (zx zN (pv 1) (zd (i:=0)) (fun _ _=>rfl)) (za (zx zN (pv 1) (zd (i:=1)) (fun _ _=>rfl)) (za (zx zN (pv 1) (zd (i:=2)) (fun _ _=>rfl)) ze))))) ze))))))),XD h1 h2 q⟩
theorem Yt (T:Txt K mg t):FnOk P w K mg base (CX1 P w) 3 t.a37 t.d37 ["cell","j","slots"] (ve):=by
 refine T.g37.f.ok0 Jv (fun vs H Q E h=>?_) (fun cdv A outer s H vs Q E hr h=>?_)
 ·obtain ⟨c,j,a,ws,rfl,_⟩:=h;rfl
 obtain ⟨c,j,a,ws,rfl,h1,h2,h3,h4,q⟩:=h
 exact ⟨kc K t,(zg (zO (zn YZ (zv ya (pcG (zC T) T.g0 hr zu (za (pv 0) (za (zv zZ (pv 1) (zd (i:=5))) ze))) (zd (i:=5))) (zd (i:=3)) (zy _)) (zh (zt (zx zN (pv 2) (zv ya (pcG (zC T) T.g0 hr zu (za (pv 0) (za (zv zZ (pv 1) (zd (i:=6))) ze))) (zd (i:=3))) (fun _ _=>rfl))))
   zG)
  (zh (zt (pcG (xx T) T.g2 hr zu (za (pv 0) (za (pv 1) ze)))))),W1 h1 h2 h3 h4 q⟩
theorem x8 (T:Txt K mg t):FnOk P w K mg base (CX1 P w) 4 t.a38 t.d38 ["cell","j","slots"] (yM):=by
 refine T.g38.f.ok0 sc__law_term (fun vs H Q E h=>?_) (fun cdv A outer s H vs Q E hr h=>?_)
 ·obtain ⟨c,j,a,ws,rfl,_⟩:=h;rfl
 obtain ⟨c,j,a,ws,rfl,h1,h2,h3,h4,q⟩:=h
 exact ⟨ke K t,(zg (zK (i:=3) sc__law_term.nd rfl (cH rfl) (yA (v6 (x:="plus") (v6 (x:="minus") (v6 (x:="times") (v6 (x:="over") (v6 (x:="rest") (v6 (x:="under") (v6 (x:="same") (v6 (x:="plus") (v6 (x:="times") (v6 (x:="minus") ze))))))))))))
  (zg (zK (i:=4) sc__law_term.nd rfl (cH rfl) (zx zN (pv 3) (zv ya (pcG (zC T) T.g0 hr zu (za (pv 0) (za (zv zZ (pv 1) (zd (i:=2))) ze))) (zd (i:=10))) (fun _ _=>rfl)))
  (zg (zK (i:=5) sc__law_term.nd rfl (cH rfl) (pcG (Yt T) T.g37 hr zu (za (pv 0) (za (zv zZ (pv 1) (zd (i:=1))) (za (pv 2) ze)))))
  (zg (zK (i:=6) sc__law_term.nd rfl (cH rfl) (pcG (Yt T) T.g37 hr zu (za (pv 0) (za (zv zZ (pv 1) (zd (i:=10))) (za (pv 2) ze)))))
  (zg (zK (i:=7) sc__law_term.nd rfl (cH rfl) (zv ya (pcG (zC T) T.g0 hr zu (za (pv 0) (za (pv 1) ze))) (zd (i:=8))))
  (zg (zO (zn YZ (pv 7) (zd (i:=3)) (zy _)) (zh (zt (zW (za (pv 5) ze))))
    zG)
  (zg (zO (zn YZ (pv 7) (zd (i:=6)) (zy _)) (zh (zt (zW (za (pv 5) (za (pv 6) (za (pv 4) ze))))))
    zG)
  (zg (zO (zn yD (pv 7) (zd (i:=6)) (zy _)) (zh (zt (zW (za (pv 5) (za (pv 6) (za (pv 4) (za (pcG (xx T) T.g2 hr zu (za (pv 0) (za (zv zZ (pv 1) (zd (i:=20))) ze))) (za (zx zN (pv 3) (zv ya (pcG (zC T) T.g0 hr zu (za (pv 0) (za (zv zZ (pv 1) (zd (i:=3))) ze))) (zd (i:=10))) (fun _ _=>rfl)) ze))))))))
    zG)
  (zh (zt (zW (za (pv 5) (za (pcG (xx T) T.g2 hr zu (za (pv 0) (za (zv zZ (pv 1) (zd (i:=20))) ze))) (za (pv 6) (za (zx zN (pv 3) (zv ya (pcG (zC T) T.g0 hr zu (za (pv 0) (za (zv zZ (pv 1) (zd (i:=3))) ze))) (zd (i:=10))) (fun _ _=>rfl)) (za (pv 4) ze)))))))))))))))),W4 h1 h2 h3 h4 q⟩
theorem Yu (T:Txt K mg t):FnOk P w K mg base (CX1 P w) 5 t.a39 t.d39 ["cell","j","slots"] (jZ):=by
 refine T.g39.f.ok0 Jw (fun vs H Q E h=>?_) (fun cdv A outer s H vs Q E hr h=>?_)
 ·obtain ⟨c,j,a,ws,rfl,_⟩:=h;rfl
 obtain ⟨c,j,a,ws,rfl,h1,h2,h3,h4,q⟩:=h
 exact ⟨kg K t,(zg (zO (zn yD (zv ya (pcG (zC T) T.g0 hr zu (za (pv 0) (za (pv 1) ze))) (zd (i:=3))) (zd (i:=0)) (zy _)) (zh (zt (pcG (x8 T) T.g38 hr zu (za (pv 0) (za (zv zZ (pv 1) (zd (i:=1))) (za (pv 2) ze))))))
   zG)
  (zh (zt (zW (za (zv Zv (zv ya (pcG (zC T) T.g0 hr zu (za (pv 0) (za (zv zZ (pv 1) (zd (i:=2))) ze))) (zd (i:=4))) (zd (i:=1))) ze))))),W5 h1 h2 h3 h4 q⟩
theorem Qk (T:Txt K mg t):FnOk P w K mg base (CX1 P w) 6 t.a40 t.d40 ["cell","slots","shelves"] (qv):=by
 refine T.g40.f.ok0 sc__law_row (fun vs H Q E h=>?_) (fun cdv A outer s H vs Q E hr h=>?_)
 ·obtain ⟨c,a,b,ws,us,rfl,_⟩:=h;rfl
 obtain ⟨c,a,b,ws,us,rfl,h1,h2,h3,h4,q⟩:=h
 exact ⟨qI K t,(zg (zK (i:=3) sc__law_row.nd rfl (cH rfl) (zv ya (pcG (zC T) T.g0 hr zu (za (pv 0) (za (zd (i:=0)) ze))) (zd (i:=17))))
  (zg (zK (i:=4) sc__law_row.nd rfl (cH rfl) (zx zN (pv 2) (zv ya (pcG (zC T) T.g0 hr zu (za (pv 0) (za (zd (i:=160)) ze))) (zd (i:=3))) (fun _ _=>rfl)))
  (zg (zK (i:=5) sc__law_row.nd rfl (cH rfl) (zx zN (pv 1) (zv ya (pcG (zC T) T.g0 hr zu (za (pv 0) (za (zd (i:=161)) ze))) (zd (i:=3))) (fun _ _=>rfl)))
  (zg (zO (zn YZ (pv 3) (zd (i:=5)) (zy _)) (zh (zt (zW (za (zL (x:="take")) (za (pv 4) (za (pcG (Yu T) T.g39 hr zu (za (pv 0) (za (zd (i:=20)) (za (pv 1) ze)))) (za (pv 5) ze)))))))
    zG)
  (zg (zO (zn YZ (pv 3) (zd (i:=9)) (zy _)) (zh (zt (zW (za (zL (x:="give")) (za (pv 4) (za (pcG (Yu T) T.g39 hr zu (za (pv 0) (za (zd (i:=20)) (za (pv 1) ze)))) (za (pcG (x8 T) T.g38 hr zu (za (pv 0) (za (zd (i:=80)) (za (pv 1) ze)))) ze)))))))
    zG)
  (zg (zO (zn yD (pv 3) (zd (i:=9)) (zy _)) (zh (zt (zW (za (zL (x:="let")) (za (pv 5) (za (pcG (x8 T) T.g38 hr zu (za (pv 0) (za (zd (i:=80)) (za (pv 1) ze)))) ze))))))
    zG)
  (zg (zO (zn yD (pv 3) (zd (i:=10)) (zy _)) (zh (zt (zW (za (zL (x:="off")) (za (zW (za (pv 5) (za (pcG (xx T) T.g2 hr zu (za (pv 0) (za (zd (i:=81)) ze))) (za (zL (x:="same")) ze)))) ze)))))
    zG)
  (zg (zO (PW.pt (Zu (zn yD (pv 3) (zd (i:=11)) (zy _)) (qR (zn yD (zv ya (pcG (zC T) T.g0 hr zu (za (pv 0) (za (zd (i:=162)) ze))) (zd (i:=3))) (zd (i:=0)) (zy _))))) (zg (zK (i:=6) sc__law_row.nd rfl (cH rfl) (yA (za (zW (za (pv 5) (za (zd (i:=0)) (za (zx zN (yA (za (zL (x:="over")) (za (zL (x:="rest")) ze))) (zv ya (pcG (zC T) T.g0 hr zu (za (pv 0) (za (zd (i:=163)) ze))) (zd (i:=2))) (fun _ _=>rfl)) ze)))) (za (zW (za (zv Yv (zd (i:=10)) (zd (i:=30))) (za (zd (i:=1)) (za (zL (x:="plus")) ze)))) ze))))
  (zh (zt (zW (za (zL (x:="give")) (za (pv 4) (za (zx zN (pv 6) (zv ya (pcG (zC T) T.g0 hr zu (za (pv 0) (za (zd (i:=164)) ze))) (zd (i:=2))) (fun _ _=>rfl)) (za (zx zN (pv 6) (zv Zv (zd (i:=1)) (zv ya (pcG (zC T) T.g0 hr zu (za (pv 0) (za (zd (i:=164)) ze))) (zd (i:=2)))) (fun _ _=>rfl)) ze))))))))
   zG)
  (zh (zt (zW (za (zL (x:="say")) (za (pcG (x8 T) T.g38 hr zu (za (pv 0) (za (zd (i:=80)) (za (pv 1) ze)))) ze))))))))))))),JI h1 h2 h3 h4 q⟩
theorem JS (T:Txt K mg t):FnOk P w K mg base (CX1 P w) 7 t.a41 t.d41 ["cells","slots","shelves"] (j0):=by
 refine T.g41.f.ok0 sc__law_rows (fun vs H Q E h=>?_) (fun cdv A outer s H vs Q E hr h=>?_)
 ·obtain ⟨p,ns,a,b,ws,us,rfl,_⟩:=h;rfl
 obtain ⟨p,ns,a,b,ws,us,rfl,h1,h2,h3,h4,h5,h6,q⟩:=h
 exact ⟨kh K t,(zg (zK (i:=3) sc__law_rows.nd rfl (cH rfl) (yA (za (yA (za xg (za xg (za (yA ze) ze)))) ze)))
  (zg (vi dv rfl (jJ (pv 0)) (yF (i:=4) sc__law_rows.nd rfl (cH rfl)) (zg (zK (i:=5) sc__law_rows.nd rfl (cH rfl) (zv ya (pcG (zC T) T.g0 hr zu (za (pv 4) (za (zd (i:=0)) ze))) (zd (i:=17))))
  (zh (zO (PW.pt (Zu (zn Vl (pv 5) (zW (za (zd (i:=12)) (za (zd (i:=13)) (za (zd (i:=14)) ze)))) (by with_unfolding_all rfl)) (qR (zn YZ (zP yz rfl T.b_len xB (za (pv 3) ze)) (zd (i:=6)) (zy _))))) (zh (yV (Zg ci cL cM y9 (pv 3) (za (yA (za (pcG (x8 T) T.g38 hr zu (za (pv 4) (za (zd (i:=80)) (za (pv 1) ze)))) (za xg (za (yA ze) ze)))) ze))))
    (zh (zO (PW.pt (Zu (zn yD (pv 5) (zd (i:=15)) (zy _)) (Zu (zn zae (zP yz rfl T.b_len xB (za (pv 3) ze)) (zd (i:=1)) (zy _)) (qR (zn Qq (zx zN (zx zN (pv 3) (YY kS (zd (i:=1))) (fun _ _=>rfl)) (zd (i:=1)) (fun _ _=>rfl)) xg (zy _)))))) (zg (zaQ (zx zN (pv 3) (YY kS (zd (i:=1))) (fun _ _=>rfl)) (zd (i:=1)) (zx zN (zx zN (pv 3) (YY kS (zd (i:=1))) (fun _ _=>rfl)) (zd (i:=2)) (fun _ _=>rfl)) rfl)
  (zh (zaQ (zx zN (pv 3) (YY kS (zd (i:=1))) (fun _ _=>rfl)) (zd (i:=2)) (yA ze) rfl)))
   (zh (zO (PW.pt (Zu (zn yD (pv 5) (zd (i:=16)) (zy _)) (qR (zn zae (zP yz rfl T.b_len xB (za (pv 3) ze)) (zd (i:=1)) (zy _))))) (zh (yV (pcG (qQ T) T.g36 hr zu (za (pv 3) ze))))
   (zh (yV (Zg ci cL cM y9 (zx zN (zx zN (pv 3) (YY kS (zd (i:=1))) (fun _ _=>rfl)) (zd (i:=2)) (fun _ _=>rfl)) (za (pcG (Qk T) T.g40 hr zu (za (pv 4) (za (pv 1) (za (pv 2) ze)))) ze))))))))))))
  (zg (JW dv (zn zae (zP yz rfl T.b_len xB (za (pv 3) ze)) (zd (i:=1)) (zy _)) (zh (yV (pcG (qQ T) T.g36 hr zu (za (pv 3) ze)))))
  (zh (zt (zx zN (zx zN (pv 3) (zd (i:=0)) (fun _ _=>rfl)) (zd (i:=2)) (fun _ _=>rfl))))))),W6 h1 h2 h3 h4 h5 h6 q⟩
theorem ok_law (T:Txt K mg t):FnOk P w K mg base (CX1 P w) 17 t.a42 t.d42 ["script"] (sp_law K):=by
 refine T.f_law.ok0 sc_law (fun vs H Q E h=>?_) (fun cdv A outer s H vs Q E hr h=>?_)
 ·obtain ⟨a,ns,rfl,_⟩:=h;rfl
 obtain ⟨a,ns,rfl,hS,hn,q⟩:=h
 exact ⟨QU K t,(zg (zK (i:=1) sc_law.nd rfl (cH rfl) (pcG (Zt T) T.g1 hr zu (za (pcG (xK T) T.g4 hr zu (za (pv 0) (za (zd (i:=0)) ze))) (za (zd (i:=3)) ze))))
  (zg (zK (i:=2) sc_law.nd rfl (cH rfl) (pcG (Zt T) T.g1 hr zu (za (pcG (xK T) T.g4 hr zu (za (pv 0) (za (zd (i:=1)) ze))) (za (zd (i:=3)) ze))))
  (zg (zK (i:=3) sc_law.nd rfl (cH rfl) (pcG (W9 T) T.g3 hr zu (za (pcG (xK T) T.g4 hr zu (za (pv 0) (za (zd (i:=2)) ze))) (za (pv 2) ze))))
  (zg (zK (i:=4) sc_law.nd rfl (cH rfl) (zv zZ (zd (i:=1)) (zv ya (pcG (zC T) T.g0 hr zu (za (pcG (xK T) T.g4 hr zu (za (pv 0) (za (zd (i:=0)) ze))) (za (zd (i:=200)) ze))) (zd (i:=18)))))
  (zg (zK (i:=5) sc_law.nd rfl (cH rfl) (jq zai (pv 0) Z4 (jN (zd (i:=120)))))
  (zg (vi dv rfl (zbu rfl T.b_range (za (zd (i:=0)) (za (zP yz rfl T.b_len xB (za (pv 5) ze)) (za (pv 4) ze)))) (yF (i:=6) sc_law.nd rfl (cH rfl)) (zg (zK (i:=3) sc_law.nd rfl (cH rfl) (pcG (JR T) T.g35 hr zu (za (pcG (JS T) T.g41 hr zu (za (jq zai (pv 5) (jN (pv 6)) (jN (zv zZ (pv 6) (pv 4)))) (za (pv 1) (za (pv 2) ze)))) (za (pv 3) ze))))
  (zh (zO (xA (yR (zP xE rfl T.b_isinstance ye (za (pv 3) (za (wq rfl T.b_list va rfl) ze))))) (zh (zt (kr (b:=false))))
    zG))))
  (zh (zt (VV (zcw (WG hr)) (pcG (Q9 T) T.g24 hr zu (za (yA ze) (za (pv 3) ze))) (zW (za (zW (za (zL (x:="done")) (za (zW ze) ze))) (za (yA ze) (za (yA ze) ze)))) (zy _)))))))))),zeB hS hn q⟩
end
end K28
open PySem PySem.W PyProof.Rows
namespace PySem.W.Fast
def tw12175517328414072310:Unit:=()
def tw12648722706995946936:Unit:=()
def tw15294401003329600676:Unit:=()
def tw14444527589430686655:Unit:=()
def tw14736656573459541442:Unit:=()
def tw13877438838831242141:Unit:=()
def tw17253356920714271553:Unit:=()
def tw4546024339936286227:Unit:=()
def tw12703226875030873019:Unit:=()
def tw13692070805899251073:Unit:=()
def tw10056742430237606098:Unit:=()
def tw5537820900140780302:Unit:=()
def tw9775407911353235670:Unit:=()
def tw8886167971302398450:Unit:=()
def tw15046816509231627039:Unit:=()
def tw13808167587680459188:Unit:=()
def tw14379865519861140842:Unit:=()
def tw1831166940436260236:Unit:=()
def tw17541357381798316545:Unit:=()
def tw3908108459075645416:Unit:=()
def tw9411452954418527331:Unit:=()
def tw14647728426009622836:Unit:=()
def tw16399917360492880197:Unit:=()
def tw3599920225560475068:Unit:=()
def tw18039600236462982861:Unit:=()
def tw2204164559278172728:Unit:=()
def tw14329133633103023469:Unit:=()
def tw12748913756972964912:Unit:=()
def tw9374165858153656120:Unit:=()
def tw11750564569346721609:Unit:=()
def tw12502366441859773899:Unit:=()
def tw10659010392392138605:Unit:=()
def tw2607651438570135766:Unit:=()
def tw5214005306484941617:Unit:=()
def tw233212749022640771:Unit:=()
def tw12609816319599288726:Unit:=()
def tw7078221270026333986:Unit:=()
def tw8245338223726053322:Unit:=()
def tw2340149150549648525:Unit:=()
def tw12121163343591834667:Unit:=()
def tw16014195632724305143:Unit:=()
def tw14785527944535872519:Unit:=()
def tw1452582936692526165:Unit:=()
def tw10565410430958765281:Unit:=()
def tw13487259006934010847:Unit:=()
def tw15535955434967092263:Unit:=()
def tw14647231387830313562:Unit:=()
def tw12682603439807659382:Unit:=()
def tw5224361388600834052:Unit:=()
def tw18017235132691137084:Unit:=()
def tw5511514543951293421:Unit:=()
def tw12103436385933097586:Unit:=()
def tw13218754331071052340:Unit:=()
def tw11477908276018847443:Unit:=()
def tw17092658178629033046:Unit:=()
def tw6633599320428117538:Unit:=()
def tw3709814386397354616:Unit:=()
def tw15061929168308501067:Unit:=()
def tw11404676287576901494:Unit:=()
def tw4518158274181356110:Unit:=()
def tw9174455013358471430:Unit:=()
def tw14140064817200274491:Unit:=()
def tw930636809502637669:Unit:=()
def tw12773468188311783745:Unit:=()
def tw7463468394027172676:Unit:=()
def tw12230995935111385100:Unit:=()
def tw16766407506666558637:Unit:=()
def tw5834146248052633782:Unit:=()
def tw10986607978363116802:Unit:=()
def tw988510764826393644:Unit:=()
def tw9411418330806774353:Unit:=()
def tw5733134406971903285:Unit:=()
def tw10123617455228777389:Unit:=()
def tw2800195897635825249:Unit:=()
def tw1142361876613683341:Unit:=()
def tw6207873828478513172:Unit:=()
def tw15469738126008524861:Unit:=()
def tw9796544482154789175:Unit:=()
def tw15295350940431694151:Unit:=()
def tw18127968776211240441:Unit:=()
def tw12835516308936891500:Unit:=()
def tw6270950335135317285:Unit:=()
def tw4055052014122772860:Unit:=()
def tw2001735471337926034:Unit:=()
def tw17887864685366592420:Unit:=()
def tw2199045403103620283:Unit:=()
def tw12920706158423636601:Unit:=()
def tw12489268566678327070:Unit:=()
def tw511905371717130644:Unit:=()
def tw13341178497834032571:Unit:=()
def tw16901457556918076112:Unit:=()
def tw3291361150661679794:Unit:=()
def tw10137347508255736124:Unit:=()
def tw18358610299357432879:Unit:=()
def tw10013511069266766971:Unit:=()
def tw5948201334408254307:Unit:=()
def tw2566474269354861788:Unit:=()
def tw3248262631148466998:Unit:=()
def tw15585337444583108829:Unit:=()
def tw9591624211608672191:Unit:=()
def tw16993504537184566477:Unit:=()
def tw15251481445951749755:Unit:=()
def tw1872423423408186324:Unit:=()
def tw6860833132028421703:Unit:=()
def tw18162122064048901863:Unit:=()
def tw11737948370795857537:Unit:=()
def tw9173851646809283722:Unit:=()
def tw3982376981669609273:Unit:=()
def tw3749547125579042811:Unit:=()
def tw16995599512844047055:Unit:=()
def tw8830280592725209783:Unit:=()
def tw12932424630214407656:Unit:=()
def tw3802929534083101923:Unit:=()
def tw6981607999952274817:Unit:=()
def tw13370541292740436557:Unit:=()
def tw9259877668717870291:Unit:=()
def tw6414376522263897495:Unit:=()
def tw11163287417689243268:Unit:=()
def tw16088470293130374629:Unit:=()
def tw9366722745968512140:Unit:=()
def tw4675031393104442358:Unit:=()
def tw5383958111778213118:Unit:=()
def tw3517742784499140176:Unit:=()
def tw12366064200307878301:Unit:=()
def tw2475834994178477598:Unit:=()
def tw3416985398780485363:Unit:=()
def tw12310898253714231532:Unit:=()
def tw13353995257578529595:Unit:=()
def tw12196928769558172388:Unit:=()
def tw18037164175363666444:Unit:=()
def tw10886337963155089769:Unit:=()
def tw6613359828790126077:Unit:=()
def tw3544275525031671435:Unit:=()
def tw1963648042574872401:Unit:=()
def tw7520537930951729572:Unit:=()
def tw17191358251761826202:Unit:=()
def tw4348711030304397600:Unit:=()
def tw3688395780480874264:Unit:=()
def tw8072755545938731341:Unit:=()
def tw15600396297287914648:Unit:=()
def tw5211893819661058273:Unit:=()
def tw9378559817825650337:Unit:=()
def tw3081601120047611736:Unit:=()
def tw2358019351375884420:Unit:=()
def tw4564403232632029171:Unit:=()
def tw16517556081464706272:Unit:=()
def tw3909730432789665109:Unit:=()
def tw7894858512529631282:Unit:=()
def tw11044628277630516739:Unit:=()
def tw14752433130091902817:Unit:=()
def tw16457848285398612582:Unit:=()
def tw7357124527495376746:Unit:=()
def tw1105412688833653706:Unit:=()
def tw5146566999422976910:Unit:=()
def tw8481598167443047557:Unit:=()
def tw3900138609841918578:Unit:=()
def tw6404955334378696365:Unit:=()
def tw479080159568778573:Unit:=()
def tw18381125382310025258:Unit:=()
def tw4003212748652753214:Unit:=()
def tw14779465903125269705:Unit:=()
def tw18317848986530356836:Unit:=()
def tw2544904342461298194:Unit:=()
def tw4679455728541031253:Unit:=()
def tw3710925028359547222:Unit:=()
def tw4417941604818917392:Unit:=()
def tw3277921842862381012:Unit:=()
def tw436336569264745244:Unit:=()
def tw11521126756258909932:Unit:=()
def tw7356360406880149996:Unit:=()
def tw13697292300523464730:Unit:=()
def tw14106641448843396809:Unit:=()
def tw3259735025191282552:Unit:=()
def tw7977778674476813515:Unit:=()
def tw12664965972485210878:Unit:=()
def tw327325513771327749:Unit:=()
def tw14071072869380891656:Unit:=()
def tw7639933268171495562:Unit:=()
def tw4154537434612956693:Unit:=()
def tw17179526345447926446:Unit:=()
def tw8201861479989474808:Unit:=()
def tw5140939494967420485:Unit:=()
def tw10516864060048032410:Unit:=()
def tw13470566554436600105:Unit:=()
def tw13522560436509394483:Unit:=()
def tw10980663179883221197:Unit:=()
def tw8469124044048770207:Unit:=()
def tw17909853868843770728:Unit:=()
def tw13134590849188700815:Unit:=()
def tw7320805068212955911:Unit:=()
def tw17127982821673377951:Unit:=()
def tw6693874243559968959:Unit:=()
def tw11799409982198507183:Unit:=()
def tw12119342151117618962:Unit:=()
def tw8612656162919602293:Unit:=()
def tw14740426950827259805:Unit:=()
def tw9088087350380546930:Unit:=()
def tw16405489724780161889:Unit:=()
def tw8362781011218287010:Unit:=()
def tw7828970345885697355:Unit:=()
def tw5557751532584811744:Unit:=()
def tw6899183814717397599:Unit:=()
def tw12920807037358985110:Unit:=()
def tw9505297696221405177:Unit:=()
def tw16748316211881493860:Unit:=()
def tw4269717294662121167:Unit:=()
def tw18018352912762823660:Unit:=()
def tw10649445979198847740:Unit:=()
def tw11631533372562185256:Unit:=()
def tw11550978605930823752:Unit:=()
def tw5069611965868064896:Unit:=()
def tw10071070065408504455:Unit:=()
def tw13638898317757386855:Unit:=()
def tw10059372546317633160:Unit:=()
def tw2565320446451370836:Unit:=()
def tw12993344952558186548:Unit:=()
def tw10086835602736573535:Unit:=()
def tw1513118039005827071:Unit:=()
def tw2700309576759255202:Unit:=()
def tw8775570959855430945:Unit:=()
def tw6661868194454767438:Unit:=()
def tw10700700672468052040:Unit:=()
def tw9424557044192825080:Unit:=()
def tw17409215677775007807:Unit:=()
def tw6471504353279826678:Unit:=()
def tw3785868625832998875:Unit:=()
def tw17902503852007252406:Unit:=()
def tw7587797890757274332:Unit:=()
def tw2367518374137532821:Unit:=()
def tw11221691118840701946:Unit:=()
def tw11670613586938157325:Unit:=()
def tw15995368633325219539:Unit:=()
def tw4248029510610969344:Unit:=()
def tw16007590859199490143:Unit:=()
def tw17467666541204368312:Unit:=()
def tw16032823493454779985:Unit:=()
def tw14031250624540270530:Unit:=()
def tw5728458298507231597:Unit:=()
def tw3716597027063264875:Unit:=()
def tw3439745238890059867:Unit:=()
def tw2442295683379730514:Unit:=()
def tw10578709708612297184:Unit:=()
def tw399015458469972861:Unit:=()
def tw8801207486431606726:Unit:=()
def tw7956955427611358222:Unit:=()
def tw4209029140828169262:Unit:=()
def tw5890412518037302124:Unit:=()
def tw1927619589135144622:Unit:=()
def tw12596279699213364360:Unit:=()
def tw12008481682509176274:Unit:=()
def tw11661216060341630264:Unit:=()
def tw10867382993130546608:Unit:=()
def tw17586445928476060263:Unit:=()
def tw1082675341550318572:Unit:=()
def tw9842504457641505387:Unit:=()
def tw16934356772154687766:Unit:=()
def tw4916783594469112218:Unit:=()
def tw14960976183802604840:Unit:=()
def tw8205272139008107206:Unit:=()
def tw15516336034248585313:Unit:=()
def tw4583070721299239992:Unit:=()
def tw4206907906569579433:Unit:=()
def tw9849466279033142670:Unit:=()
def tw5271453956246509445:Unit:=()
def tw15251047274188759620:Unit:=()
def tw13453469280118135024:Unit:=()
def tw6526186490437794045:Unit:=()
def tw1078357524646566284:Unit:=()
def tw637503806420383073:Unit:=()
def tw15031373044194868060:Unit:=()
def tw15679862779610822465:Unit:=()
def tw16948315513454122446:Unit:=()
def tw4001144095953087946:Unit:=()
def tw15640546526505895846:Unit:=()
def tw2479151481245832448:Unit:=()
def tw15193609131714071272:Unit:=()
def tw7495156583805582571:Unit:=()
def tw2160940589320027430:Unit:=()
def tw5588341400188375662:Unit:=()
def tw10915033778569630395:Unit:=()
def tw1966089439045457811:Unit:=()
def tw933469065669333798:Unit:=()
def tw9361362961034963517:Unit:=()
def tw767773567598999100:Unit:=()
def tw1785537106917667466:Unit:=()
def tw8594288202186342699:Unit:=()
def tw14560416813008696131:Unit:=()
def tw14734598823398129125:Unit:=()
def tw6713334609278266925:Unit:=()
def tw16725224207353476565:Unit:=()
def tw10007630673013440161:Unit:=()
def tw14080192172601562595:Unit:=()
def tw679878764657532369:Unit:=()
def tw969636268558529391:Unit:=()
def tw15016894545158841321:Unit:=()
def tw17578886326216714930:Unit:=()
def tw2558614196110775221:Unit:=()
def tw12884991612516616884:Unit:=()
def tw57945300244526792:Unit:=()
def tw10332720588327012853:Unit:=()
def tw8943528195260257121:Unit:=()
def tw11964640460663997878:Unit:=()
def tw17015474251972620503:Unit:=()
def tw6695945227284141281:Unit:=()
def tw3785980505084380662:Unit:=()
def tw3727405848301383472:Unit:=()
def tw13810145586189026443:Unit:=()
def tw13590275500986520677:Unit:=()
def tw4876107901876422878:Unit:=()
def tw16128399589322452863:Unit:=()
def tw3932868718260628046:Unit:=()
def tw12545468278905528308:Unit:=()
def tw13408142401230549840:Unit:=()
def tw8895454331926291989:Unit:=()
def tw10253583834654289659:Unit:=()
def tw17188581491335028259:Unit:=()
def tw11232345597993799292:Unit:=()
def tw13650363547501150576:Unit:=()
def tw13948074137417809999:Unit:=()
def tw12840360065496401892:Unit:=()
def tw17884162977460090427:Unit:=()
def tw556908933323340123:Unit:=()
def tw3557903343724308731:Unit:=()
def tw16844512137037285071:Unit:=()
def tw17442612975220915990:Unit:=()
def tw16633096633639478828:Unit:=()
def tw13792400198702558122:Unit:=()
def tw9617429508969353526:Unit:=()
def tw2998424226033343079:Unit:=()
def tw6206727406821272179:Unit:=()
def tw426953882215156626:Unit:=()
def tw2758908757002648356:Unit:=()
def tw4528751399020905133:Unit:=()
def tw9407271722247132953:Unit:=()
def tw2813740363826316429:Unit:=()
def tw1830466273429850012:Unit:=()
def tw13457963548795945553:Unit:=()
def tw6143972098858196482:Unit:=()
def tw11184378631309663687:Unit:=()
def tw1736379747122187146:Unit:=()
def tw813137548745375807:Unit:=()
def tw8402402007414336517:Unit:=()
def tw14772438776398672235:Unit:=()
def tw8911777048865031600:Unit:=()
def tw5273690774452077942:Unit:=()
def tw8904738110138967029:Unit:=()
def tw10249104817850787716:Unit:=()
def tw3086848074314123557:Unit:=()
def tw6855679928854587629:Unit:=()
def tw11676956440358788765:Unit:=()
def tw7806542580378374292:Unit:=()
def tw14357433209603270576:Unit:=()
def tw17818820971709043091:Unit:=()
def tw2307046971714113779:Unit:=()
end PySem.W.Fast
set_option maxRecDepth 100000 in
set_option maxHeartbeats 0 in
theorem PySem.Challenge.cw_forerun_k28_whole_fed_is_alone_holds : PySem.Challenge.rw_forerun_k28_whole_fed_is_alone.Holds := by
 w_on; o_law; k_head; (case hw => w_witness2)
 k_fill
 refine L2.walk_ofX (l := PySem.Challenge.rw_forerun_k28_whole_fed_is_alone) (n := 63) (k := 17) (x := "script") (sp := K28.sp_law) rfl (by decide) rfl ⟨rfl, by decide, by decide⟩ (fun w h Y => PySem.W.kIn_of Y) ?F ?S
 case F =>
  intro w mg fa h KX G hmg
  have T : ∃ t, K28.Txt (L2.KOf KX) mg t := by
   dsimp only [L2.KOf]
   refine' K28.txt_mk KX G ?h0 ?h1 ?h2 ?h3 ?h4 ?h5 ?h6 ?h7 ?qa8 ?qi8 ?ql8 ?qc8 ?qk8 ?h9 ?h10 ?h11 ?h12 ?h13 ?h14 ?h15 ?h16 ?h17 ?h18 ?h19 ?h20 ?h21 ?qa22 ?qi22 ?ql22 ?qc22 ?qk22 ?qd22 ?h23 ?h24 ?qa25 ?qi25 ?ql25 ?qc25 ?qk25 ?h26 ?h27 ?h28 ?h29 ?h30 ?h31 ?h32 ?h33 ?h34 ?h35 ?h36 ?h37 ?h38 ?h39 ?h40 ?h41 ?qa42 ?ql42 ?qc42 ?qk42 ?qz0 ?qz1 ?qz2 ?qz3 ?qz4 ?qz5 ?qz6 ?qz7 ?qz8 ?qz9 ?qg0 ?qh0 ?qv0 ?qv1 ?qv2 ?qv3 ?pg0 ?pd0 ?po0 ?pe0 ?pm0_ ?pk0 ?pn0_0 ?pn0_1 ?pn0_2 ?pg3 ?pd3 ?po3 ?pe3 ?pm3_ ?pk3 ?pn3_0 ?pn3_1 ?pn3_2 ?pn3_3 ?pn3_4 ?pn3_5 ?pn3_6 ?rx0 ?ry0 ?re0_0 ?re0_1 ?rm0_0 ?rx1 ?ry1 ?re1_0 ?re1_1 ?rm1_0
   (case qv0 | qv1 | qv2 | qv3 => k_is)
   (case h0 | h1 | h2 | h3 | h4 | h5 | h6 | h7 => exact ⟨_, by k_is, _, _, _, _, _, _, _, _, _, by k_is, by k_is, by k_is⟩)
   (case qa8 | qi8 | ql8 | qc8 | qk8 => k_is)
   (case h9 | h10 => exact ⟨_, by k_is, by k_is, _, _, _, _, _, _, _, _, _, by k_is, by k_is, by k_is⟩)
   (case h11 | h12 | h13 | h14 | h15 => exact ⟨_, by k_is, _, _, _, _, _, _, _, _, _, by k_is, by k_is, by k_is⟩)
   (case h16 | h17 | h18 | h19 | h20 | h21 => exact ⟨_, by k_is, by k_is, _, _, _, _, _, _, _, _, _, by k_is, by k_is, by k_is⟩)
   (case qa22 | qi22 | ql22 | qc22 | qk22 | qd22 => k_is)
   (case h23 | h24 => exact ⟨_, by k_is, _, _, _, _, _, _, _, _, _, by k_is, by k_is, by k_is⟩)
   (case qa25 | qi25 | ql25 | qc25 | qk25 => k_is)
   (case h26 | h27 | h28 => exact ⟨_, by k_is, by k_is, _, _, _, _, _, _, _, _, _, by k_is, by k_is, by k_is⟩)
   (case h29 | h30 | h31 | h32 | h33 | h34 | h35 | h36 | h37 | h38 | h39 | h40 | h41 => exact ⟨_, by k_is, _, _, _, _, _, _, _, _, _, by k_is, by k_is, by k_is⟩)
   (case qa42 | ql42 | qc42 | qk42 | qz0 | qz1 | qz2 | qz3 | qz4 | qz5 | qz6 | qz7 | qz8 | qz9 | qg0 | qh0 | pg0 | pd0 | po0 | pe0 | pm0_ | pk0 | pn0_0 | pn0_1 | pn0_2 | pg3 | pd3 | po3 | pe3 | pm3_ | pk3 | pn3_0 | pn3_1 | pn3_2 | pn3_3 | pn3_4 | pn3_5 | pn3_6 => k_is)
   (case rx0 => k_exc)
   (case ry0 => exact ⟨_, by k_is, by k_is, by k_is, by k_is, by k_is, by k_is, by k_is, by k_is⟩)
   (case re0_0 | re0_1 | rm0_0 => kernel_rfl)
   (case rx1 => k_exc)
   (case ry1 => exact ⟨_, by k_is, by k_is, by k_is, by k_is, by k_is, by k_is, by k_is, by k_is⟩)
   (case re1_0 | re1_1 | rm1_0 => kernel_rfl)
  obtain ⟨t, T⟩ := T
  have e0 := hmg.symm.trans T.m_law
  cases e0
  exact ⟨_, T.w_law, fun base _ _ => K28.ok_law T⟩
 case S => exact fun K H a ns hl _ hS => ⟨a, ns, rfl, hS, hl, fun _ => rfl⟩
