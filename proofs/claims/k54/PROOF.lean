import PyProof.Rows.All
import Wide.All
import OpenK.AllK
import Wide.FinOn
import Lean
import PyProof.EqAt
import PyProof.EqKinds
import PyProof.TupleCall
import PySem.Challenge.RW_forerun_k54_done_in_an_order
import KE.IntBitsLaws
import KE.KDictList
import KE.KDictOf
import KE.KEqDict
import KE.KIntText
import KE.KItemsList
import KE.KRevIter
import KE.KSortAsk
import KE.KSortTup
import KE.KSorted
import KE.KTryMore
import KE.LcSums
import PyProof.AttrMissHeap
import PyProof.Conv_int_bool
import PyProof.DictItems
import PyProof.DictKinds
import PyProof.DictWalks
import PyProof.EnumFor
import PyProof.EnumMake
import PyProof.EqKinds
import PyProof.ListIndexNeg
import PyProof.MeetsStr
import PyProof.NeKinds
import PyProof.NsDelKeeps
import PyProof.P3Eq
import PyProof.Rows.EqDataRows
import PyProof.Rows.Range3
import PyProof.StrCalls2
import PyProof.StrLaws
import PyProof.StrLawsTight
import PyProof.StrOps
import PyProof.StrOps2
import PyProof.TupleIter
import PyProof.TupleKey
import PyProof.TupleOfSeq
import PyProof.ZipIter
import Wide.ObjOpen
import Wide.RegSB
open Array renaming length_toList→ci,size_push→cp,getElem?_eq_getElem→cu,size_append→cP,size_extract→cY,getElem?_toList→dq,perm_iff_toList_perm→fT,toList_inj→gc,size_reverse→gC,getElem?_eq_none→gF,getD_eq_getD_getElem?→iJ,toList_map→l5,toList_zip→ou,size_map→oN
open Array.Perm renaming trans→ig,mem_iff→i4,refl→mE
open Bool renaming false_ne_true→bK,and_eq_true→bX,not_eq_true'→b0,false_eq_true→cb,eq_false_iff→gK,or_eq_false_iff→iq,eq_iff_iff→iD,or_eq_true→oM
open Classical renaming epsilon_spec→gG,epsilon→lK
open False renaming elim→cH
open ForInStep renaming yield→fG
open Int renaming emod_lt_of_pos→cj,emod_nonneg→cA,toNat_of_nonneg→db,toNat_natCast→ed,reducePow→eK,reduceNeg→fi,ediv_nonneg→iQ,reduceToNat→iR,zero_add→on,ediv_le_self→oA
open Int.ofNat renaming inj→nJ
open List renaming getElem?_cons_zero→ba,getElem?_cons_succ→bb,getElem?_eq_getElem→bh,getD_eq_getElem?_getD→bp,append_nil→bq,set_cons_zero→br,length_map→bt,set_cons_succ→bu,replicate→bw,length_append→bz,mem_cons_of_mem→bB,getElem?_eq_some_iff→bC,mem_cons_self→bF,length→bG,cons_append→bI,size_toArray→bM,getElem?_map→bN,mem_singleton→bP,nil_append→bQ,mem_cons→bR,mem_append→bV,map_cons→bW,mem_append_right→bY,range→bZ,map→b7,mem_map→cm,take_of_length_le→cx,length_cons→cB,length_singleton→cD,lookup_cons→cF,mem_of_getElem?→cL,length_take→cM,length_drop→cN,getElem?_eq_none→cR,nodup_cons→cT,mem_map_of_mem→da,not_mem_nil→de,length_range→dg,mem_append_left→dh,all_eq_true→dm,map_map→dD,map_append→dL,getElem?_of_mem→dQ,mem_range→dW,take_add_one→eh,pairwise_map→eA,map_congr_left→eC,getElem?_append_right→eE,mem_filterMap→eF,getElem?_append_left→eL,foldl_cons→eR,getElem_inj→fk,take_length→fq,getElem_mem→fA,Nodup→fB,length_replicate→fE,find?_cons→fF,all_cons→fO,ext_getElem?→fR,getElem?_set_self→gE,lookup→gH,append_assoc→gL,take_append_drop→gW,eq_nil_of_length_eq_zero→ie,getElem?_set_ne→io,any_cons→ir,filterMap_cons→iC,getElem?_range→iK,nodup_nil→i7,drop_zero→i8,pairwise_iff_getElem→lf,drop_eq_getElem_cons→lj,any_eq_false→lq,getElem?_replicate→lL,map_take→lW,map_drop→lX,filter_cons→lY,nodup_range→l0,drop_eq_nil_of_le→mf,drop_of_length_le→mo,of_mem_zip→mw,toArray→mD,filterMap_append→mI,mem_of_mem_drop→mP,mem_of_mem_take→mQ,take_zero→mW,reverse_append→nk,pairwise_cons→nI,map_inj_right→nK,filter_append→nM,reverse_cons→nS,foldl_append→nT,getElem?_inj→nU,reverse_nil→ot,map_snd_zip→oy,mem_reverse→oz,length_nil→oH
open List.Pairwise renaming nil→nR
open List.Perm renaming refl→mX,nodup_iff→nu,map→oU
open List.cons renaming injEq→bn
open Nat renaming le_refl→bo,reduceAdd→bE,reduceSub→bL,le_trans→bU,zero_le→b8,lt_of_le_of_lt→b9,lt_of_lt_of_le→cg,ne_of_lt→ck,le_succ_of_le→cq,ne_of_gt→dY,min_eq_left→eS,lt_irrefl→eY,min_eq_right→fZ,succ_le_succ→gd,le_of_eq→ms,le_of_lt→nW,lt_trans→nZ,sub_zero→og,lt_succ_self→oo,le_succ→oG
open Ne renaming symm→cK
open Option renaming map_eq_some_iff→cW,isSome_iff_exists→c6,map_some→iF,isSome_map→lC,getD_none→oq
open Option.some renaming injEq→bf,inj→cf
open Or renaming inl→cw,inr→iG
open Prod renaming ext→oS
open Prod.mk renaming inj→lV
open PyProof renaming noPylong_of_log2→lF
open PyProof.Rows renaming wpS_bind→bH,wpS_pure→bT,wpS_forRange→c8,callWith_type1→dz,wpS_modify→dC,wpS_mono→dI,mirror_perm→fb,step_rev_list→fU,listUpdate_at→gB,get?_update_seq→iL,seqEpoch_at→iM,subscriptTail_builtinR→ma,entry_list_sort→mF,wpS_lift→mL,entry_proto_collect'→mR,slot_list_sort→mT,args_list_sort→mU,lt_int→nj,Subscript_→nP,lands_againW→n9,plain_sorted→oh,entry_sorted→oi,args_sorted1→oj
open PyProof.Rows.SortSt renaming mk'→gm
open PySem renaming wpAny_bind→bd,wpAny_pure→bj,wpAny_mono→cG,wpAny_call_entry→cO,wpAny_setField_rec→cQ,wpAny_typeNameOfWhole_itemiter→cS,wpAny_newObj_type→cU,sizeLine_eq→c7,wpAny_holding→df,wpAny_typeNameOf_itemiter→dl,wpAny_execs_nil→dy,wpAny_isOneOf_itemiter→dG,codeAny_builtin→dM,wpAny_typeNameOfWhole_keyiter→dP,wpAny_callSpecial?_slot→dR,wpAny_dictEntries→et,mem_of_lookup→eB,wpAny_Call_Name_kw→eI,tupleKind_room_in1→eJ,wpAny_truthy_bool→eO,wpAny_passesOwn→eQ,wpAny_dictEpoch→eT,wpAny_typeNameOf_keyiter→eU,codeAny_mono→eW,wpAny_attempt→e9,codeAny_handlers_test→fH,wpAny_notOrdered_dict→fJ,wpAny_loadPart'→fK,wpAny_field→fL,plainId_quiet→fS,wpAny_execs_cons→fX,wpAny_handleBy_cons→gf,wpAny_Call_method0_late→gu,plainObj_wpAny_Assign_Attribute→gI,wpAny_rule→gM,wpAny_fieldsOf→gQ,wpAny_newList→iu,evalArgs_none→iE,wpAny_updateSeq→iP,wpAny_FormattedValue_plain→iT,wpAny_newTuple→i9,wpAny_pyIter_list→ll,wpAny_call→lA,call_meets→lB,call→lD,wpAny_comprehension_free→lE,wpAny_pyIter_slot→lH,wpAny_getItem_str_slice→lP,wpAny_Try_except→lZ,wpAny_pyNext_list_item→l7,wpAny_pyNext_range_end→l8,wpAny_pyIter_rangeiter→l9,codeAny_handlers_suite→mh,wpAny_pyNext_list_end→mq,wpAny_looks_onW→mB,wpAny_isOneOf_keyiter→mG,wpAny_load→mJ,codeAny_call_builtin→mO,wpAny_setField→mV,evalPart_none→nB,typeIs_str→nQ,Within→nV,wpAny_landsW→n0,wpAny_typeOf→om
open PySem.Around renaming under_plainId→dj,under→nX
open PySem.Builtin.Dict renaming showsAll→dN,updateFrom→lS,noArgs→nr
open PySem.Builtin.Dict_items renaming ownsTuple→cZ,ownedTupleIsFree→dn,pairFromOwner→dE,ownedTupleFields→gg
open PySem.Builtin.Int renaming intBits→iH
open PySem.Builtin.List renaming listExtendWith→c9,listTooLong→gk,listSameRef→lJ,listItems→ml
open PySem.Builtin.Range renaming rangeSize→eZ,small→nt
open PySem.Builtin.Str renaming strSliceIndices→iI,occurrences→lQ
open PySem.Calls renaming callWith_builtin→eD,spliced_cons→eG,call_function_entry→fW,Constant_str→gp,spliced_nil→gJ,evalArgs_plain→ip,Name_function_global→iS
open PySem.Code renaming isFrame→nY
open PySem.F renaming plainAttrs_list→cz,slot_dict_itemiterator_next→cC,slot_list_append→dt,type_list_append→dw,plain_extend_loop→dJ,slot_dict_keyiterator_next→dU,args_dict_itemiterator_next_1→eV,entry_dict_itemiterator_next→eX,plain_list_iadd→fc,slot_dict_items→ff,plainAttrs_dict→gA,slot_dict_get→gT,args_dict_keyiterator_next_1→gX,slot_list_pop→gZ,type_list_pop→ic,entry_dict_keyiterator_next→ii,slot_dict_itemiterator_iter→ij,plain_proto_collect→iO,args_dict_items_1→lg,entry_extend_loop→lh,entry_dict_items→lI,args_dict_get_3→lN,type_dict_items→lU,entry_dict_get→md,slot_dict_items_iter→mj,slot_tuple_lt→mH,slot_str_getitem→nE
open PySem.Heap renaming get?_push_of_some→bi,get?_push_size→bD,lt_size→bS,SameBut→cJ,get?_update_other→cV,size_push→fV,get?_update_self→gY,get?_push_cases→mS
open PySem.Heap.SameBut renaming update→iN
open PySem.IsRange renaming new→oC
open PySem.NameKind renaming free→cX,cell→lO
open PySem.Obj renaming mapSeq→cE,data_mapFields→nH
open PySem.Paired renaming length→b5
open PySem.PassesOwn renaming never→dO
open PySem.PyData renaming depthAll→bO,strOk→b6,depth→cr,canLay0→eM,canLayAll0→fQ,eqv→gN,int→gO,eqvAll→iw
open PySem.SeqAt renaming noMixAll→gP,shaped→gU,noMix→oJ
open PySem.SeqAt.EqAt renaming int_int→iX,str_str→iY,int_str→nv,str_int→nz
open PySem.Shared renaming TypeIs→lT
open PySem.Spec renaming sameAll→iZ,same→oW
open PySem.Str renaming ofString→bg,length_append→ef,length→gj,empty→gr
open PySem.Txt renaming sliceBy→fh,slice→fm
open PySem.Value renaming ref→bJ,none→cy,int→fj,type→fM,bool→gh,str→gR,float→mY,builtin→nG
open PySem.W renaming Frag→bx,findIn→dk,kitOne→dF,exmOne→dH,hideAll_none→dX,mg_none_of→dZ,hideAll→eN,nsIn→fu,emptyDict→fC,kia_one→fD,kia_tup→fI,keepIn→fN,kitAny→fP,funFrames_hide→fY,hideAll_get→gn,mg_of→gD,of_hideAll→gS,instObj→iz,callWith_K→iU,fnOf→iV,codeIn→iW,looks_findIn→i5,kas_desc→lR,methodCall_KW→mt,excIn→my,Looks→mz,kas_place→mC,plainGet→mK,exmAny→mM,hasDictIn→m7,kitx_list→m8,kitx_dict→nh,plainGet_of→nA,OpenLaw→nD,looks_mroIn→nF,methodObj→oB,plainOver→oE,specialIn→oF,exm_one→oI,lookIn→oO,mroIn→oP,WalkO→oQ,clsIn→oR,isFn→oV
open PySem.W.KatTups renaming cons→oX
open PySem.W.Looks renaming ld→lG
open StateT renaming run_pure→oK
open Sum renaming inl→nN,inr→nO
open True renaming intro→dA
set_option Elab.async false
set_option linter.all false
set_option maxRecDepth 100000
namespace L2
open PySem PySem.Spec PyProof.Rows
abbrev Key:=Sum Int Str
def X5:Key→Value→Bool
 | .inl k,v=>Value.isInt k v
 | .inr x,v=>Value.isStrOf x v
def zfv (w:World):Key→Int
 | .inl k=>hashInt k
 | .inr x=>hashStr w x
theorem yy:∀ {k:Key} {v:Value},X5 k v=true→(∃ i t,k=nN i∧v=fj i t)∨(∃ x t,k=nO x∧v=gR x t)
 | .inl i,v,h=>by
  obtain ⟨t,e⟩:=Value.isInt_shape (k:=i) (v:=v) h
  exact .inl ⟨i,t,rfl,e⟩
 | .inr x,v,h=>by
  obtain ⟨t,e⟩:=Value.isStrOf_shape (x:=x) (v:=v) h
  exact .inr ⟨x,t,rfl,e⟩
theorem QN (i:Int) (t:Tok):X5 (.inl i) (.int i t)=true:=by simp [X5,Value.isInt]
theorem QO (x:Str) (t:Tok):X5 (.inr x) (.str x t)=true:=by simp [X5,Value.isStrOf]
theorem zd6 (a b:Int):decide ((nN a:Key)=nN b)=(a == b):=by
 by_cases e:a=b
 ·subst e;simp
 ·have h:¬ (nN a:Key)=nN b:=fun q=>e (Sum.inl.inj q)
  rw [decide_eq_false h]
  exact (beq_eq_false_iff_ne.mpr e).symm
theorem zd7 (a b:Str):decide ((nO a:Key)=nO b)=decide (a=b):=by
 by_cases e:a=b
 ·subst e;simp
 ·have h:¬ (nO a:Key)=nO b:=fun q=>e (Sum.inr.inj q)
  rw [decide_eq_false h,decide_eq_false e]
theorem zd8 (a:Int) (b:Str):decide ((nN a:Key)=nO b)=false:=decide_eq_false (fun q=>nomatch q)
theorem zd9 (a:Str) (b:Int):decide ((nO a:Key)=nN b)=false:=decide_eq_false (fun q=>nomatch q)
def yz (prog:Program) (w:World):PySem.KeyKind prog w Key where
 is:=X5
 hash:=zfv w
 inj:=fun v a b ha hb=>by
  rcases yy ha with ⟨i,t,rfl,rfl⟩ | ⟨x,t,rfl,rfl⟩
  ·rcases yy hb with ⟨j,u,rfl,e⟩ | ⟨y,u,rfl,e⟩
   ·injection e with e1 _;rw [e1]
   ·exact nomatch e
  ·rcases yy hb with ⟨j,u,rfl,e⟩ | ⟨y,u,rfl,e⟩
   ·exact nomatch e
   ·injection e with e1 _;rw [e1]
 byValue:=fun k v h=>by
  rcases yy h with ⟨i,t,rfl,rfl⟩ | ⟨x,t,rfl,rfl⟩ <;> rfl
 pyHash:=fun hv h=>by
  rcases yy hv with ⟨i,t,rfl,rfl⟩ | ⟨x,t,rfl,rfl⟩
  ·exact wpAny_pyHash_int h
  ·exact wpAny_pyHash_str h
 eqBool:=fun hu hv h=>by
  rcases yy hu with ⟨i,t,rfl,rfl⟩ | ⟨x,t,rfl,rfl⟩
  ·rcases yy hv with ⟨j,u,rfl,rfl⟩ | ⟨y,u,rfl,rfl⟩
   ·rw [zd6] at h;exact wpAny_eqBool_int h
   ·rw [zd8] at h;exact nv i t y u _ _ _ _ h
  ·rcases yy hv with ⟨j,u,rfl,rfl⟩ | ⟨y,u,rfl,rfl⟩
   ·rw [zd9] at h;exact nz x t j u _ _ _ _ h
   ·rw [zd7] at h;exact wpAny_eqBool_str h
 «strs»:=fun k x t v h=>by
  rcases yy h with ⟨i,u,rfl,e⟩ | ⟨y,u,rfl,e⟩
  ·exact nomatch e
  ·injection e with e1 _
   subst e1
   cases v <;> rfl
theorem VI (prog:Program) (w:World) (i:Int) (t:Tok):(yz prog w).is (.inl i) (.int i t)=true:=QN i t
theorem VJ (prog:Program) (w:World) (x:Str) (t:Tok):(yz prog w).is (.inr x) (.str x t)=true:=QO x t
inductive V where
 | non | bl (b:Bool) | int (i:Int) | str (x:Str) | byt (b:Array UInt8) | flt (b:UInt64) | ref (a:Addr) | ty (n:String)
 deriving DecidableEq
def RelV:V→Value→Prop
 | .non,u=>u=cy
 | .bl b,u=>u=gh b
 | .int i,u=>∃ t,u=fj i t
 | .str x,u=>∃ t,u=gR x t
 | .byt b,u=>∃ t,u=Value.bytes b t
 | .flt b,u=>∃ t,u=mY b t
 | .ref a,u=>u=bJ a
 | .ty n,u=>u=fM n
abbrev Vals:List V→List Value→Prop:=Paired RelV
theorem Vals.length {xs:List V} {us:List Value} (r:Vals xs us):xs.length=us.length:=b5 r
theorem Vals.get:∀ {xs:List V} {us:List Value} {i:Nat} {x:V},Vals xs us→xs[i]?=some x→∃ u,us[i]?=some u∧RelV x u
 | _,_,_,_,.nil,e=>by simp at e
 | _,_,0,_,.cons r _,e=>by simp at e;subst e;exact ⟨_,rfl,r⟩
 | _,_,i + 1,x,.cons _ t,e=>by
  obtain ⟨u,h1,h2⟩:=Vals.get (i:=i) (x:=x) t (by simpa using e)
  exact ⟨u,by simpa using h1,h2⟩
theorem Vals.append:∀ {xs ys:List V} {us ws:List Value},Vals xs us→Vals ys ws→Vals (xs ++ ys) (us ++ ws)
 | _,_,_,_,.nil,s=>s
 | _,_,_,_,.cons r t,s=>.cons r (Vals.append t s)
theorem Vals.take:∀ {xs:List V} {us:List Value} (n:Nat),Vals xs us→Vals (xs.take n) (us.take n)
 | _,_,0,_=>.nil
 | _,_,_ + 1,.nil=>.nil
 | _,_,n + 1,.cons r t=>.cons r (Vals.take n t)
theorem Vals.drop:∀ {xs:List V} {us:List Value} (n:Nat),Vals xs us→Vals (xs.drop n) (us.drop n)
 | _,_,0,r=>r
 | _,_,_ + 1,.nil=>.nil
 | _,_,n + 1,.cons _ t=>Vals.drop n t
def RelO:Option V→Option Value→Prop
 | some v,some u=>RelV v u
 | none,none=>True
 | _,_=>False
def KV {κ:Type}:List (κ × V)→List (κ × Value)→Prop:=Paired fun (p:κ × V) (q:κ × Value)=>p.1=q.1∧RelV p.2 q.2
def kV:Key→V
 | .inl i=>.int i
 | .inr x=>.str x
inductive HO where
  | lst (xs:List V)
  | tup (xs:List V)
  | dK (kvs:List (Key × V)) | dT (kvs:List (List Key × V))
  | set (S:Int→Bool) (n:Nat)
  | ins (C dx:Addr) (fs:List (Str × V))
  | own (x:Addr)
  | xd (fs:List (Str × V))
  | met (f x:Addr)
  | rng (lo hi:Int)
  | frz (o:Obj) (u:HO)
  | tbl (ps:Array Value)
  | ext (φ:Heap→Prop)
abbrev Hp:=Addr→Option HO
def upd (H:Hp) (a:Addr) (o:HO):Hp:=fun b=>if b=a then some o else H b
theorem ze {H:Hp} {a:Addr} {o:HO}:upd H a o a=some o:=by unfold upd;rw [if_pos rfl]
theorem zj {H:Hp} {a b:Addr} {o:HO} (h:b≠a):upd H a o b=H b:=by unfold upd;rw [if_neg h]
theorem Yv {H:Hp} {a:Addr} {o u:HO}:upd (upd H a o) a u=upd H a u:=by
 funext b;unfold upd;split <;> rfl
theorem yQ {H:Hp} {a b:Addr} {o u:HO} (h:H a=some o) (h':H b=some u) (d:o≠u):a≠b:=by
 intro e;subst e;rw [h] at h';exact d (cf h')
theorem zJ {H:Hp} {a b:Addr} {o:HO} (h:H a=some o) (h':H b=none):a≠b:=by
 intro e;subst e;rw [h] at h';cases h'
section
variable (P:Program) (w:World)
def ObjOk (H:Hp) (h:Heap) (a:Addr):HO→Prop
 | .lst xs=>xs.length≤sizeLine∧∃ (its:List Value) (n:Nat),Vals xs its∧h.get? a=some { cls:=.type "list",data:=.seq its.toArray n }
 | .tup xs=>xs.length≤sizeLine∧∃ its:List Value,Vals xs its∧IsTup h a its.toArray
 | .dK kvs=>kvs.length≤sizeLine∧(a == sysModules)=false∧∃ vs,KV kvs vs∧h.DictOf (yz P w) a vs
 | .dT kvs=>kvs.length≤sizeLine∧(a == sysModules)=false∧∃ xs:List (List Key × Addr × Value),
   Paired (fun (p:List Key × V) (q:List Key × Addr × Value)=>p.1=q.1∧H q.2.1=some (.tup (p.1.map kV))∧RelV p.2 q.2.2) kvs xs ∧
   ∃ o es ep,h.get? a=some o∧o.ExactDict∧o.data=.dict es ep∧es.toList=xs.map (entryOfKey (tupleKind (yz P w)))∧(xs.map (·.1)).Nodup
 | .set S n=>h.SetOf (intKind P w) a S n
 | .ins C dx fs=>H dx=some (.own a)∧fs.length≤1000∧dx≠a∧h.get? a=some (iz C dx) ∧
   ∃ mA,h.Ns1 dx mA∧(∀ f,RelO (fs.lookup f) (mA f))∧nV mA (fs.map (·.1))
 | .own _=>∃ o,h.get? a=some o
 | .xd fs=>∃ mA,h.Ns1 a mA∧∀ f,RelO (fs.lookup f) (mA f)
 | .rng lo hi=>∃ t u v,h.get? a=some { cls:=.type "range",data:=.fields #[.int lo t,.int hi u,.int 1 v] }
 | .frz o u=>h.get? a=some o∧ObjOk H h a u
 | .tbl ps=>h.get? a=some { cls:=.none,data:=.fields ps }
 | .met f x=>h.get? a=some (oB (.ref f) (.ref x))
 | .ext φ=>φ h∧(∃ o,h.get? a=some o)∧∀ h1 h2:Heap,φ h1→(∀ o,h1.get? a=some o→h2.get? a=some o)→φ h2
def HOk (H:Hp) (h:Heap):Prop:=∀ a o,H a=some o→ObjOk P w H h a o
end
section
variable {P:Program} {w:World} {H H':Hp} {h h':Heap} {a:Addr} {o:HO}
theorem ObjOk.lt (x:ObjOk P w H h a o):a < h.objs.size:=by
 cases o with
 | lst xs=>obtain ⟨_,_,_,_,e⟩:=x;exact bS e
 | tup xs=>obtain ⟨_,_,_,p⟩:=x;exact p.lt
 | dK kvs=>obtain ⟨_,_,_,_,o,_,_,e,_⟩:=x;exact bS e
 | dT kvs=>obtain ⟨_,_,_,_,o,_,_,e,_⟩:=x;exact bS e
 | set S n=>obtain ⟨o,_,_,_,e,_⟩:=x;exact bS e
 | ins C dx fs=>obtain ⟨_,_,_,e,_⟩:=x;exact bS e
 | own y=>obtain ⟨_,e⟩:=x;exact bS e
 | xd fs=>obtain ⟨_,⟨_,_,_,e,_⟩,_⟩:=x;exact bS e
 | rng lo hi=>obtain ⟨_,_,_,e⟩:=x;exact bS e
 | frz ob u=>obtain ⟨e,_⟩:=x;exact bS e
 | tbl ps=>exact bS (show h.get? a=some _ from x)
 | met f y=>exact bS (show h.get? a=some _ from x)
 | ext φ=>obtain ⟨_,⟨_,e⟩,_⟩:=x;exact bS e
theorem Paired.mapP {α β:Type} {F G:α→β→Prop}:∀ {l₁:List α} {l₂:List β},Paired F l₁ l₂→(∀ a b,F a b→G a b)→Paired G l₁ l₂
 | _,_,.nil,_=>.nil
 | _,_,.cons r t,f=>.cons (f _ _ r) (Paired.mapP t f)
theorem ObjOk.stay (x:ObjOk P w H h a o) (k:∀ b u,(b=a∨H b=some (.own a))→h.get? b=some u→h'.get? b=some u)
  (ho:∀ b,H b=some (.own a)→H' b=some (.own a)) (ht:∀ b xs,H b=some (.tup xs)→H' b=some (.tup xs)):ObjOk P w H' h' a o:=by
 induction o with
 | lst xs=>obtain ⟨z,its,n,r,e⟩:=x;exact ⟨z,its,n,r,k _ _ (.inl rfl) e⟩
 | tup xs=>obtain ⟨z,its,r,ob,e,c⟩:=x;exact ⟨z,its,r,ob,k _ _ (.inl rfl) e,c⟩
 | dK kvs=>obtain ⟨z,y,vs,r,ob,es,ep,e,c⟩:=x;exact ⟨z,y,vs,r,ob,es,ep,k _ _ (.inl rfl) e,c⟩
 | dT kvs =>
  obtain ⟨z,y,xs,r,ob,es,ep,e,c⟩:=x
  exact ⟨z,y,xs,Paired.mapP r fun p q z=>⟨z.1,ht _ _ z.2.1,z.2.2⟩,ob,es,ep,k _ _ (.inl rfl) e,c⟩
 | set S n=>obtain ⟨ob,es,ep,t,e,c⟩:=x;exact ⟨ob,es,ep,t,k _ _ (.inl rfl) e,c⟩
 | ins C dx fs =>
  obtain ⟨d,z,ne,e,mA,⟨od,es,ep,e2,c⟩,r⟩:=x
  exact ⟨ho _ d,z,ne,k _ _ (.inl rfl) e,mA,⟨od,es,ep,k _ _ (.inr d) e2,c⟩,r⟩
 | own y=>obtain ⟨ob,e⟩:=x;exact ⟨ob,k _ _ (.inl rfl) e⟩
 | xd fs=>obtain ⟨mA,⟨od,es,ep,e,c⟩,r⟩:=x;exact ⟨mA,⟨od,es,ep,k _ _ (.inl rfl) e,c⟩,r⟩
 | rng lo hi=>obtain ⟨t,u,v,e⟩:=x;exact ⟨t,u,v,k _ _ (.inl rfl) e⟩
 | frz ob u ih=>obtain ⟨e,q⟩:=x;exact ⟨k _ _ (.inl rfl) e,ih q⟩
 | tbl ps =>
  have e:h.get? a=some { cls:=.none,data:=.fields ps }:=x
  show h'.get? a=some { cls:=.none,data:=.fields ps }
  exact k a _ (.inl rfl) e
 | met f y =>
  have e:h.get? a=some (oB (.ref f) (.ref y)):=x
  show h'.get? a=some (oB (.ref f) (.ref y))
  exact k a _ (.inl rfl) e
 | ext φ=>obtain ⟨p,⟨o,e⟩,st⟩:=x;exact ⟨st _ _ p fun o q=>k _ _ (.inl rfl) q,⟨o,k _ _ (.inl rfl) e⟩,st⟩
theorem HOk.lt (x:HOk P w H h) (e:H a=some o):a < h.objs.size:=(x a o e).lt
theorem HOk.fresh (x:HOk P w H h) (e:h.objs.size≤a):H a=none:=by
 cases q:H a with
 | none=>rfl
 | some u=>exact absurd (cg (x.lt q) e) (eY _)
theorem HOk.kept (x:HOk P w H h) (k:∀ b u,h.get? b=some u→h'.get? b=some u):HOk P w H h':=fun a o e =>
 (x a o e).stay (fun b u _ q=>k b u q) (fun _ q=>q) fun _ _ q=>q
theorem HOk.laid (x:HOk P w H h) (k:∀ b u,h.get? b=some u→h'.get? b=some u) (hp:h.objs.size≤a) (new:ObjOk P w (upd H a o) h' a o):HOk P w (upd H a o) h':=fun b u e=>by
 have hn:=x.fresh hp
 by_cases hb:b=a
 ·subst hb;rw [ze] at e;cases e;exact new
 ·rw [zj hb] at e
  exact (x b u e).stay (fun c v _ q=>k c v q) (fun c q=>by rw [zj (zJ q hn)];exact q) fun c xs q=>by rw [zj (zJ q hn)];exact q
end
def Rd (H:Hp) (a:Addr) (u:HO):Prop:=H a=some u∨∃ o,H a=some (.frz o u)
theorem Rd.ok {P:Program} {w:World} {H:Hp} {h:Heap} {a:Addr} {u:HO} (r:Rd H a u) (x:HOk P w H h):ObjOk P w H h a u:=by
 rcases r with r | ⟨o,r⟩
 ·exact x a u r
 ·obtain ⟨_,q⟩:=x a _ r
  exact q
def Mut:Option HO→Prop
 | some (.lst _)=>True
 | some (.dK _)=>True
 | some (.dT _)=>True
 | some (.set _ _)=>True
 | some (.ins _ _ _)=>True
 | some (.ext _)=>True
 | _=>False
section
variable {P:Program} {w:World} {H:Hp} {h h':Heap} {x e:Addr} {o':HO}
theorem HOk.write (ok:HOk P w H h) (mu:Mut (H x)) (he:e=x∨H e=some (.own x)) (k:∀ b u,b≠e→h.get? b=some u→h'.get? b=some u) (heo:∃ u,h'.get? e=some u)
  (new:ObjOk P w (upd H x o') h' x o'):HOk P w (upd H x o') h':=fun b u q=>by
 have nown:∀ c y,H c=some (.own y)→c≠x:=fun c y r z=>by subst z;rw [r] at mu;exact mu
 have ntup:∀ c xs,H c=some (.tup xs)→c≠x:=fun c xs r z=>by subst z;rw [r] at mu;exact mu
 by_cases hb:b=x
 ·subst hb;rw [ze] at q;cases q;exact new
 ·rw [zj hb] at q
  by_cases hbe:b=e
  ·have q':H b=some (.own x):=by
    rcases he with z | z
    ·exact absurd (hbe.trans z) hb
    ·rw [hbe];exact z
   rw [q] at q';cases q'
   obtain ⟨v,hv⟩:=heo
   exact ⟨v,by rw [hbe];exact hv⟩
  ·refine (ok b u q).stay (fun c v hc r=>k c v ?_ r) (fun c r=>by rw [zj (nown c b r)];exact r) fun c xs r=>by rw [zj (ntup c xs r)];exact r
   rcases hc with rfl | hc
   ·exact hbe
   ·rintro rfl
    rcases he with z | z
    ·exact nown c b hc z
    ·rw [hc] at z;cases z;exact hb rfl
end
structure Un (fs ex:List Addr) (H H':Hp) (h h':Heap):Prop where
 keep:∀ b o,h.get? b=some o→H b=none→b ∉ fs→b ∉ ex→h'.get? b=some o
 slot:∀ b o,h.get? b=some o→H b=none→b∈fs→b ∉ ex→∃ sl,h'.get? b=some { o with slots:=sl }
 free:∀ b o,h.get? b=some o→H b=none→b ∉ ex→H' b=none
 there:∀ b o,h.get? b=some o→b ∉ ex→∃ o',h'.get? b=some o'
 tups:∀ b xs,H b=some (.tup xs)→H' b=some (.tup xs)
 frzs:∀ b o u,H b=some (.frz o u)→H' b=some (.frz o u)
 tbls:∀ b ps,H b=some (.tbl ps)→∃ more,H' b=some (.tbl (ps ++ more))
section
variable {fs fs' ex ex':List Addr} {H H1 H2:Hp} {h h1 h2 h':Heap} {a x e:Addr} {o:HO}
theorem Un.any (u:Un fs ex H H1 h h1) {b:Addr} {ob:Obj} (q:h.get? b=some ob) (n:H b=none) (hx:b ∉ ex):∃ sl,h1.get? b=some { ob with slots:=sl }:=by
 by_cases hb:b∈fs
 ·exact u.slot b ob q n hb hx
 ·exact ⟨ob.slots,u.keep b ob q n hb hx⟩
theorem Un.kept (k:∀ b u,h.get? b=some u→h'.get? b=some u):Un fs ex H H h h' :=
 ⟨fun b ob q _ _ _=>k b ob q,fun b ob q _ _ _=>⟨ob.slots,k b ob q⟩,fun _ _ _ n _=>n,fun b ob q _=>⟨ob,k b ob q⟩,fun _ _ q=>q,fun _ _ _ q=>q,fun _ ps q=>⟨#[],by rw [q];simp⟩⟩
theorem Un.refl:Un fs ex H H h h:=Un.kept fun _ _ q=>q
theorem Un.laid (k:∀ b u,h.get? b=some u→h'.get? b=some u) (hp:h.objs.size≤a) (hn:H a=none):Un fs ex H (upd H a o) h h' where
 keep:=fun b u q _ _ _=>k b u q
 slot:=fun b u q _ _ _=>⟨u.slots,k b u q⟩
 free:=fun b u q n _=>by rw [zj (ck (cg (bS q) hp))];exact n
 there:=fun b u q _=>⟨u,k b u q⟩
 tups:=fun b xs q=>by rw [zj (zJ q hn)];exact q
 frzs:=fun b u xs q=>by rw [zj (zJ q hn)];exact q
 tbls:=fun b ps q=>⟨#[],by rw [zj (zJ q hn),q];simp⟩
theorem Un.write (mu:Mut (H x)) (he:e=x∨H e=some (.own x)) (k:∀ b u,b≠e→h.get? b=some u→h'.get? b=some u) (heo:∃ u,h'.get? e=some u):Un fs ex H (upd H x o) h h':=by
 have hx:∀ b,H b=none→b≠x:=fun b n z=>by subst z;rw [n] at mu;exact mu
 have hb:∀ b,H b=none→b≠e:=fun b n z=>by
  subst z
  rcases he with r | r
  ·exact hx b n r
  ·rw [n] at r;cases r
 have hm:∀ b u,H b=some u→¬ Mut (some u)→b≠x:=fun b u q nm z=>by subst z;rw [q] at mu;exact nm mu
 refine ⟨fun b u q n _ _=>k b u (hb b n) q,fun b u q n _ _=>⟨u.slots,k b u (hb b n) q⟩,fun b u q n _=>by rw [zj (hx b n)];exact n,fun b u q _=>?_,
  fun b xs q=>by rw [zj (hm b _ q fun z=>z)];exact q,fun b u xs q=>by rw [zj (hm b _ q fun z=>z)];exact q,fun b ps q=>⟨#[],by rw [zj (hm b _ q fun z=>z),q];simp⟩⟩
 by_cases hbe:b=e
 ·subst hbe;exact heo
 ·exact ⟨u,k b u hbe q⟩
end
def trk (h:Heap) (H:Hp):List Addr:=(bZ h.objs.size).filter fun a=>(H a).isSome
def WN (h:Heap) (H:Hp):Heap:=eN h (trk h H)
theorem QP (h:Heap) (H:Hp):(WN h H).objs.size=h.objs.size:=W.hideAll_size _ _
theorem zaD {h:Heap} {H:Hp} {b:Addr} {o:Obj} (e:h.get? b=some o) (n:H b=none):(WN h H).get? b=some o :=
 gn _ e fun hm=>by
  have q:(H b).isSome=true:=(List.mem_filter.mp hm).2
  rw [n] at q;simp at q
theorem zcz {h:Heap} {H:Hp} {b:Addr} {o:Obj} (e:(WN h H).get? b=some o):h.get? b=some o∧H b=none:=by
 have e':h.get? b=some o:=gS (trk h H) e
 refine ⟨e',?_⟩
 cases q:H b with
 | none=>rfl
 | some x =>
  have hm:b∈trk h H:=List.mem_filter.mpr ⟨dW.mpr (bS e'),by simp [q]⟩
  have z:(WN h H).get? b=none:=dX (trk h H) hm
  rw [z] at e;cases e
def zcA (g h:Heap) (L:Addr):List (Addr × Obj):=(bZ h.objs.size).filterMap fun a=>if a=L∨(g.get? a).isSome=true then none else (h.get? a).map fun o=>(a,o)
def rest (g h:Heap) (L d:Addr):List (Addr × Obj):=(zcA g h L).filter fun p=>decide (p.1≠d)
structure Mod (K:bx) (mg:Str→Option Value) (base:Heap):Prop where
 kin:K.In base
 glob:base.Ns mainGlobals mg
 blt:∃ mb,base.Ns builtinsNs mb∧∀ x:Str,x≠"__name__"→mb x=bootBuiltins x
 nolimit:base.NoLimit
set_option genSizeOf false in
set_option genInjectivity false in
structure Cx where
 prog:Program
 w:World
 K:bx
 mg:Str→Option Value
 base:Heap
 A:Around
 N:List Str
 s₀:Shared
 H₀:Hp
 env:Env
 outer:List Env
 stack:List Env
 ex:List Addr
 fn:Str→Bool
 calm:Bool
 pn:List (Addr × Obj)
 xe:Value→Shared→Prop
def frs (l:List Env):List Addr:=l.filterMap (·.frame)
abbrev Cx.fs (X:Cx):List Addr:=frs X.outer
def Vis (sc:Scope) (x:Str):Prop:=sc.names.lookup x=some .local∨sc.names.lookup x=some .cell∨sc.names.lookup x=some .free
def Loc (sc:Scope) (x:Str):Prop:=sc.names.lookup x=some .local∨sc.names.lookup x=some .cell
def ze1 (env:Env) (h:Heap) (m:Str→Option Value) (x:Str) (u:Value):Prop :=
 (env.kindOf x=some .local∧m x=some u)∨((env.kindOf x=some .cell∨env.kindOf x=some .free)∧∃ c,env.cells.lookup x=some c∧h.IsCell c (some u))
structure Cx.Ok (X:Cx):Prop where
 mod:Mod X.K X.mg X.base
 kind:X.env.scope.kind=.function
 glob:X.env.globals=mainGlobals
 blt:X.env.builtins=builtinsNs
 above:X.s₀.heap.objs.size≤X.env.locals
 inj:∀ x y c,X.env.cells.lookup x=some c→X.env.cells.lookup y=some c→x=y
 has:∀ x,(X.env.kindOf x=some .cell∨X.env.kindOf x=some .free)→∃ c,X.env.cells.lookup x=some c
 cab:∀ x c,X.fn x=true→X.env.cells.lookup x=some c→X.s₀.heap.objs.size≤c
 hd:X.calm=true→X.A.handled=none
 frames:X.A.frames=some X.stack
 stk:X.stack=X.outer∨(X.stack=X.env :: X.outer∧X.env.frame=some X.env.locals)
 exf:∀ b∈X.ex,b≠X.env.locals∧∀ x c,X.env.cells.lookup x=some c→c≠b
 bs:∀ b o,X.base.get? b=some o→X.s₀.heap.get? b=some o∧X.H₀ b=none
 bsz:X.base.objs.size≤X.s₀.heap.objs.size
 noex:∀ b o,X.base.get? b=some o→b ∉ X.ex
 exfs:∀ b∈X.ex,b ∉ X.fs
 funs:X.s₀.heap.FunFrames X.base X.outer
 frf:∀ b∈X.fs,X.H₀ b=none
structure Inv (X:Cx) (pins:List (Addr × Obj)) (σ:List (Option V)) (H:Hp) (s:Shared):Prop where
 ok:X.Ok
 os:s.os=X.s₀.os
 bare:AllBare s.gens
 base:Un X.fs X.ex X.H₀ H X.s₀.heap s.heap
 loc:∃ m,s.heap.Ns X.env.locals m∧∀ (i:Nat) (x:Str) (v:V),X.N[i]?=some x→σ[i]?=some (some v)→Vis X.env.scope x→∃ u,RelV v u∧ze1 X.env s.heap m x u
 cell:∀ x c,X.env.cells.lookup x=some c→∃ v,s.heap.IsCell c v
 free:H X.env.locals=none
 freeC:∀ x c,X.env.cells.lookup x=some c→H c=none
 pin:∀ p∈X.pn ++ pins,s.heap.get? p.1=some p.2∧H p.1=none∧p.1≠X.env.locals∧p.1 ∉ X.fs∧∀ v,p.2.data≠.cell v
 hok:HOk X.prog X.w H s.heap
 len:σ.length=X.N.length
section
variable {X:Cx} {pins:List (Addr × Obj)} {σ:List (Option V)} {H H':Hp} {s:Shared} {h':Heap}
theorem Cx.Ok.nofr (ok:X.Ok) {b:Addr} {o:Obj} (e:X.base.get? b=some o):b ∉ X.fs:=fun hb=>by
 have:=(ok.funs.mem hb).1
 rw [e] at this;cases this
theorem Inv.bs (I:Inv X pins σ H s):∀ b o,X.base.get? b=some o→s.heap.get? b=some o∧H b=none:=fun b o e =>
 ⟨I.base.keep b o (I.ok.bs b o e).1 (I.ok.bs b o e).2 (I.ok.nofr e) (I.ok.noex b o e),I.base.free b o (I.ok.bs b o e).1 (I.ok.bs b o e).2 (I.ok.noex b o e)⟩
theorem Inv.bk (I:Inv X pins σ H s):∀ b o,X.base.get? b=some o→s.heap.get? b=some o:=fun b o e=>(I.bs b o e).1
theorem Inv.mod (I:Inv X pins σ H s):Mod X.K X.mg X.base:=I.ok.mod
theorem Inv.kIn (I:Inv X pins σ H s):X.K.In s.heap:=I.ok.mod.kin.keeps I.bk
theorem Inv.lt (I:Inv X pins σ H s):X.env.locals < s.heap.objs.size:=let ⟨_,hn,_⟩:=I.loc;hn.lt
theorem Inv.sz (I:Inv X pins σ H s):X.s₀.heap.objs.size≤s.heap.objs.size:=bU I.ok.above (nW I.lt)
theorem Inv.nofs (I:Inv X pins σ H s) {a:Addr} (h:s.heap.objs.size≤a):a ∉ X.fs:=fun hb=>by
 obtain ⟨_,o,ho,_⟩:=I.ok.funs.mem hb
 exact absurd (cg (bS ho) (bU I.sz h)) (eY _)
theorem Inv.cne (I:Inv X pins σ H s):∀ x c,X.env.cells.lookup x=some c→c≠X.env.locals:=fun x c e z=>by
 obtain ⟨v,o,ho,hd⟩:=I.cell x c e
 obtain ⟨m,⟨o',es,ep,ho',hd',_⟩,_⟩:=I.loc
 rw [z,ho'] at ho;cases ho;rw [hd'] at hd;cases hd
theorem Inv.funs (I:Inv X pins σ H s):s.heap.FunFrames X.base X.outer:=by
 have all:∀ (l:List Env),(∀ b∈frs l,b∈X.fs)→X.s₀.heap.FunFrames X.base l→s.heap.FunFrames X.base l:=by
  intro l
  induction l with
  | nil=>intro _ _;trivial
  | cons env r ih =>
   intro hs hl
   obtain ⟨hk,⟨L,o,hf,hn,ho,hd⟩,hr⟩:=hl
   have hL:L∈X.fs:=hs L (by unfold frs;rw [iC,hf];exact bF)
   obtain ⟨sl,e⟩:=I.base.slot L o ho (I.ok.frf L hL) hL fun z=>I.ok.exfs L z hL
   exact ⟨hk,⟨L,_,hf,hn,e,hd⟩,ih (fun b hb=>hs b (by unfold frs;rw [iC,hf];exact bB _ hb)) hr⟩
 exact all X.outer (fun _ hb=>hb) I.ok.funs
theorem Inv.stack (I:Inv X pins σ H s):s.heap.FunFrames X.base X.stack:=by
 rcases I.ok.stk with e | ⟨e,hf⟩
 ·rw [e];exact I.funs
 ·rw [e]
  obtain ⟨m,hn,_⟩:=I.loc
  refine .cons (by rw [I.ok.kind];decide) hf hn ?_ I.funs
  exact Heap.get?_none_of_le (bU I.ok.bsz I.ok.above)
theorem Inv.stkSub (I:Inv X pins σ H s):∀ b∈frs X.stack,b∈X.env.locals :: X.fs:=fun b hb=>by
 rcases I.ok.stk with e | ⟨e,hf⟩
 ·rw [e] at hb;exact bB _ hb
 ·rw [e] at hb
  unfold frs at hb
  rw [iC,hf] at hb
  exact hb
theorem Inv.stkFree (I:Inv X pins σ H s):∀ b∈frs X.stack,H b=none:=fun b hb=>by
 rcases bR.mp (I.stkSub b hb) with e | hb
 ·rw [e];exact I.free
 ·obtain ⟨_,o,ho,_⟩:=I.ok.funs.mem hb
  exact I.base.free b o ho (I.ok.frf b hb) fun z=>I.ok.exfs b z hb
theorem Inv.step {g':Array GenState} {t':Nat} {d':Drawn} {ch:List Addr} (I:Inv X pins σ H s)
  (hch:∀ b∈ch,(b∈X.ex∨X.s₀.heap.objs.size≤b)∧b≠X.env.locals∧(∀ x c,X.env.cells.lookup x=some c→c≠b)∧∀ p∈X.pn ++ pins,p.1≠b)
  (keep:∀ b o,b≠X.env.locals→b ∉ X.fs→b ∉ ch→s.heap.get? b=some o→H b=none→h'.get? b=some o)
  (slot:∀ b o,b≠X.env.locals→b∈X.fs→b ∉ ch→s.heap.get? b=some o→H b=none→∃ sl,h'.get? b=some { o with slots:=sl }) (free:∀ b o,b ∉ ch→s.heap.get? b=some o→H b=none→H' b=none)
  (there:∀ b o,b ∉ ch→s.heap.get? b=some o→∃ o',h'.get? b=some o')
  (tups:∀ b xs,H b=some (.tup xs)→H' b=some (.tup xs)) (frzs:∀ b o u,H b=some (.frz o u)→H' b=some (.frz o u)) (tbls:∀ b ps,H b=some (.tbl ps)→∃ more,H' b=some (.tbl (ps ++ more)))
  (ns:∀ m,s.heap.Ns X.env.locals m→h'.Ns X.env.locals m) (hok:HOk X.prog X.w H' h') (hg:AllBare g') :
  Inv X pins σ H' { s with heap:=h',gens:=g',drawn:=d',toks:=t' }:=by
 have neL:∀ b o,X.s₀.heap.get? b=some o→b≠X.env.locals:=fun b o e=>ck (cg (bS e) I.ok.above)
 have neC:∀ b o,X.s₀.heap.get? b=some o→b ∉ X.ex→b ∉ ch:=fun b o e hx hb=>by
  rcases (hch b hb).1 with z | z
  ·exact hx z
  ·exact absurd (cg (bS e) z) (eY _)
 have cellK:∀ x c,X.env.cells.lookup x=some c→∀ v,s.heap.IsCell c v→h'.IsCell c v:=fun x c e v ⟨o,ho,hd⟩=>by
  have nch:c ∉ ch:=fun z=>(hch c z).2.2.1 x c e rfl
  by_cases hc:c∈X.fs
  ·obtain ⟨sl,q⟩:=slot c o (I.cne x c e) hc nch ho (I.freeC x c e)
   exact ⟨_,q,hd⟩
  ·exact ⟨o,keep c o (I.cne x c e) hc nch ho (I.freeC x c e),hd⟩
 refine ⟨I.ok,I.os,hg,⟨fun b o e n hb hx=>?_,fun b o e n hb hx=>?_,fun b o e n hx=>?_,fun b o e hx=>?_,fun b xs e=>tups b xs (I.base.tups b xs e),fun b o xs e=>frzs b o xs (I.base.frzs b o xs e),fun b ps e=>?_⟩,?_,fun x c e=>?_,?_,fun x c e=>?_,fun p hp=>?_,hok,I.len⟩
 ·exact keep b o (neL b o e) hb (neC b o e hx) (I.base.keep b o e n hb hx) (I.base.free b o e n hx)
 ·obtain ⟨sl,e1⟩:=I.base.slot b o e n hb hx
  obtain ⟨sl',e2⟩:=slot b _ (neL b o e) hb (neC b o e hx) e1 (I.base.free b o e n hx)
  exact ⟨sl',e2⟩
 ·obtain ⟨o',e1⟩:=I.base.there b o e hx
  exact free b o' (neC b o e hx) e1 (I.base.free b o e n hx)
 ·obtain ⟨o',e1⟩:=I.base.there b o e hx
  exact there b o' (neC b o e hx) e1
 ·obtain ⟨m1,e1⟩:=I.base.tbls b ps e
  obtain ⟨m2,e2⟩:=tbls b _ e1
  exact ⟨m1 ++ m2,by rw [e2,Array.append_assoc]⟩
 ·obtain ⟨m,hn,hl⟩:=I.loc
  refine ⟨m,ns m hn,fun i x v e1 e2 e3=>?_⟩
  obtain ⟨u,r,l⟩:=hl i x v e1 e2 e3
  refine ⟨u,r,?_⟩
  rcases l with l | ⟨k,c,e,z⟩
  ·exact .inl l
  ·exact .inr ⟨k,c,e,cellK x c e _ z⟩
 ·obtain ⟨v,z⟩:=I.cell x c e
  exact ⟨v,cellK x c e v z⟩
 ·obtain ⟨m,⟨o,_,_,ho,_⟩,_⟩:=I.loc
  exact free _ o (fun z=>(hch _ z).2.1 rfl) ho I.free
 ·obtain ⟨v,o,ho,hd⟩:=I.cell x c e
  exact free c o (fun z=>(hch c z).2.2.1 x c e rfl) ho (I.freeC x c e)
 ·obtain ⟨e,n,ne,nf,d⟩:=I.pin p hp
  have nch:p.1 ∉ ch:=fun z=>(hch p.1 z).2.2.2 p hp rfl
  exact ⟨keep p.1 p.2 ne nf nch e n,free p.1 p.2 nch e n,ne,nf,d⟩
theorem Inv.un {t':Nat} (I:Inv X pins σ H s) (u:Un X.fs [] H H' s.heap h') (hok:HOk X.prog X.w H' h'):Inv X pins σ H' { s with heap:=h',toks:=t' }:=by
 obtain ⟨m,⟨o,es,ep,ho,r⟩,_⟩:=id I.loc
 obtain ⟨sl,hL⟩:=u.any ho I.free (by simp)
 exact I.step (g':=s.gens) (d':=s.drawn) (ch:=[]) (fun _ z=>nomatch z) (fun b o _ hb _ e n=>u.keep b o e n hb (by simp)) (fun b o _ hb _ e n=>u.slot b o e n hb (by simp)) (fun b o _ e n=>u.free b o e n (by simp)) (fun b o _ e=>u.there b o e (by simp)) u.tups u.frzs u.tbls (fun m' hm=>by
  obtain ⟨o',es',ep',ho',r'⟩:=hm
  rw [ho] at ho';cases ho'
  exact ⟨_,es',ep',hL,r'⟩) hok I.bare
theorem Inv.call {g':Array GenState} {t':Nat} {d':Drawn} {ch:List Addr} (I:Inv X pins σ H s) (u:Un (frs X.stack) ch H H' s.heap h') (hok:HOk X.prog X.w H' h') (hg:AllBare g')
  (hch:∀ b∈ch,(b∈X.ex∨X.s₀.heap.objs.size≤b)∧b≠X.env.locals∧(∀ x c,X.env.cells.lookup x=some c→c≠b)∧∀ p∈X.pn ++ pins,p.1≠b) :
  Inv X pins σ H' { s with heap:=h',gens:=g',drawn:=d',toks:=t' }:=by
 obtain ⟨m,⟨o,es,ep,ho,r⟩,_⟩:=id I.loc
 obtain ⟨sl,hL⟩:=u.any ho I.free fun z=>(hch _ z).2.1 rfl
 exact I.step (ch:=ch) hch (fun b o hL hb hc e n=>u.keep b o e n (fun z=>(bR.mp (I.stkSub b z)).elim hL hb) hc) (fun b o _ _ hc e n=>u.any e n hc) (fun b o hc e n=>u.free b o e n hc) (fun b o hc e=>u.there b o e hc) u.tups u.frzs u.tbls (fun m' hm=>by
  obtain ⟨o',es',ep',ho',r'⟩:=hm
  rw [ho] at ho';cases ho'
  exact ⟨_,es',ep',hL,r'⟩) hok hg
theorem Inv.turned {t':Nat} {it:Addr} (I:Inv X pins σ H s) (k:∀ b o,b≠it→s.heap.get? b=some o→h'.get? b=some o) (hn:H it=none) (hL:it≠X.env.locals)
  (h1:it∈X.ex∨X.s₀.heap.objs.size≤it) (h2:∀ x c,X.env.cells.lookup x=some c→c≠it) (h3:∀ p∈X.pn ++ pins,p.1≠it):Inv X pins σ H { s with heap:=h',toks:=t' }:=by
 have nit:∀ b u,H b=some u→b≠it:=fun b u e z=>by rw [z,hn] at e;cases e
 refine I.step (g':=s.gens) (d':=s.drawn) (ch:=[it]) (fun b hb=>?_) (fun b o _ _ hc e _=>k b o (fun z=>hc (by simp [z])) e) (fun b o _ _ hc e _=>⟨o.slots,k b o (fun z=>hc (by simp [z])) e⟩) (fun _ _ _ _ n=>n)
  (fun b o hc e=>⟨o,k b o (fun z=>hc (by simp [z])) e⟩) (fun _ _ e=>e) (fun _ _ _ e=>e) (fun b ps e=>⟨#[],by rw [e];simp⟩) (fun m hm=>?_) (fun b u e=>?_) I.bare
 ·have e:b=it:=by simpa using hb
  subst e
  exact ⟨h1,hL,h2,h3⟩
 ·obtain ⟨o,es,ep,ho,r⟩:=hm
  exact ⟨o,es,ep,k _ o (cK hL) ho,r⟩
 ·refine (I.hok b u e).stay (fun c v hc q=>k c v ?_ q) (fun _ q=>q) fun _ _ q=>q
  rcases hc with z | z
  ·rw [z];exact nit b u e
  ·exact nit c _ z
theorem Inv.tok (I:Inv X pins σ H s) (t:Nat):Inv X pins σ H { s with toks:=t }:=I.un (h':=s.heap) (t':=t) Un.refl I.hok
theorem Inv.kept {t':Nat} (I:Inv X pins σ H s) (k:∀ b u,s.heap.get? b=some u→h'.get? b=some u):Inv X pins σ H { s with heap:=h',toks:=t' }:=I.un (Un.kept k) (I.hok.kept k)
theorem Inv.laid {a:Addr} {o:HO} {t':Nat} (I:Inv X pins σ H s) (k:∀ b u,s.heap.get? b=some u→h'.get? b=some u) (hp:s.heap.objs.size≤a) (new:ObjOk X.prog X.w (upd H a o) h' a o) :
  Inv X pins σ (upd H a o) { s with heap:=h',toks:=t' }:=I.un (Un.laid k hp (I.hok.fresh hp)) (I.hok.laid k hp new)
theorem Inv.write {x e:Addr} {o:HO} {t':Nat} (I:Inv X pins σ H s) (mu:Mut (H x)) (he:e=x∨H e=some (.own x)) (k:∀ b u,b≠e→s.heap.get? b=some u→h'.get? b=some u) (heo:∃ u,h'.get? e=some u)
  (new:ObjOk X.prog X.w (upd H x o) h' x o):Inv X pins σ (upd H x o) { s with heap:=h',toks:=t' }:=I.un (Un.write mu he k heo) (I.hok.write mu he k heo new)
theorem Inv.pins_of {pins':List (Addr × Obj)} (I:Inv X pins σ H s) (h:∀ p∈pins',s.heap.get? p.1=some p.2∧H p.1=none∧p.1≠X.env.locals∧p.1 ∉ X.fs∧∀ v,p.2.data≠.cell v):Inv X pins' σ H s :=
 ⟨I.ok,I.os,I.bare,I.base,I.loc,I.cell,I.free,I.freeC,fun p hp=>(bV.mp hp).elim (fun z=>I.pin p (dh _ z)) (h p),I.hok,I.len⟩
theorem YB {N:List Str} (hN:N.Nodup) {i j:Nat} {x:Str} (a:N[i]?=some x) (b:N[j]?=some x):i=j:=by
 obtain ⟨h1,e1⟩:=bC.mp a
 obtain ⟨h2,e2⟩:=bC.mp b
 exact (fk hN).mp (e1.trans e2.symm)
theorem X6 {M:Model} {A:Around} {E:Value→Shared→Prop} {i:Nat} {x:Str} {v:V} {u:Value} {Q:Unit→Shared→Prop} (I:Inv X pins σ H s) (hN:X.N.Nodup) (hi:X.N[i]?=some x) (hx:Loc X.env.scope x) (r:RelV v u)
  (h:∀ s',Inv X pins (σ.set i (some v)) H s'→(∃ a,cJ a s.heap s'.heap∧(a=X.env.locals∨X.env.cells.lookup x=some a))→Q () s') (hf:X.fn x=true∨X.env.scope.names.lookup x=some .local:=by first | exact .inl rfl | exact .inr rfl | assumption):wpAny M A (storeName X.env x u) Q E s:=by
 obtain ⟨m,hn,hl⟩:=id I.loc
 have hcls:(X.env.scope.kind == .class || (X.env.scope.kind == .module && X.env.locals != X.env.globals))=false:=by rw [I.ok.kind];rfl
 have hiσ:i < σ.length:=by rw [I.len];exact (bC.mp hi).1
 have cne:=I.cne
 have tracked:∀ {a:Addr} {h':Heap},(∃ o,s.heap.get? a=some o∧H a=none)→cJ a s.heap h'→HOk X.prog X.w H h':=fun {a h'} ha hs b ob e=>by
  obtain ⟨_,_,hfree⟩:=ha
  refine (I.hok b ob e).stay (fun c w' hc q=>(hs.2 c ?_).trans q) (fun _ q=>q) fun _ _ q=>q
  rintro rfl
  rcases hc with rfl | hc
  ·rw [hfree] at e;cases e
  ·rw [hfree] at hc;cases hc
 rcases hx with hk | hk
 ·refine wpAny_storeName_local hk hn (fun h' hn' hs=>?_) hcls
  obtain ⟨oL,_,_,hoL,_⟩:=id hn
  refine h _ ⟨I.ok,I.os,I.bare,⟨fun b o e n hb hx=>?_,fun b o e n hb hx=>?_,I.base.free,fun b o e hx=>?_,I.base.tups,I.base.frzs,I.base.tbls⟩,⟨_,hn',fun j y v' e1 e2 e3=>?_⟩,fun y c e=>?_,I.free,I.freeC,fun p hp=>?_,tracked ⟨oL,hoL,I.free⟩ hs,by simpa using I.len⟩ ⟨_,hs,.inl rfl⟩
  ·exact (hs.2 b (ck (cg (bS e) I.ok.above))).trans (I.base.keep b o e n hb hx)
  ·obtain ⟨sl,e1⟩:=I.base.slot b o e n hb hx
   exact ⟨sl,(hs.2 b (ck (cg (bS e) I.ok.above))).trans e1⟩
  ·obtain ⟨o',e1⟩:=I.base.there b o e hx
   exact ⟨o',(hs.2 b (ck (cg (bS e) I.ok.above))).trans e1⟩
  ·by_cases hj:j=i
   ·subst hj
    rw [hi] at e1;cases e1
    rw [gE hiσ] at e2
    cases e2
    exact ⟨u,r,.inl ⟨hk,by simp⟩⟩
   ·rw [io (cK hj)] at e2
    obtain ⟨u',r',q⟩:=hl j y v' e1 e2 e3
    refine ⟨u',r',?_⟩
    rcases q with ⟨k,e⟩ | ⟨k,c,e,z⟩
    ·refine .inl ⟨k,?_⟩
     have:y≠x:=fun e=>hj (YB hN e1 (e ▸ hi))
     simp [this,e]
    ·exact .inr ⟨k,c,e,z.sameBut hs (cne y c e)⟩
  ·obtain ⟨w',z⟩:=I.cell y c e
   exact ⟨w',z.sameBut hs (cne y c e)⟩
  ·obtain ⟨e,n,ne,nf,d⟩:=I.pin p hp
   exact ⟨(hs.2 p.1 ne).trans e,n,ne,nf,d⟩
 ·have hfn:X.fn x=true:=by
   rcases hf with z | z
   ·exact z
   ·rw [z] at hk;cases hk
  obtain ⟨c,hc⟩:=I.ok.has x (.inl hk)
  obtain ⟨w',z⟩:=I.cell x c hc
  refine wpAny_storeName_cell I.ok.kind hk hc z (fun h' hc' hs=>?_)
  obtain ⟨oc,hoc,hocd⟩:=id z
  refine h { s with heap:=h' } ⟨I.ok,I.os,I.bare,⟨fun b o e n hb hx=>?_,fun b o e n hb hx=>?_,I.base.free,fun b o e hx=>?_,I.base.tups,I.base.frzs,I.base.tbls⟩,⟨m,hn.sameBut hs (cK (cne x c hc)),fun j y v' e1 e2 e3=>?_⟩,fun y c' e=>?_,I.free,I.freeC,fun p hp=>?_,tracked ⟨oc,hoc,I.freeC x c hc⟩ hs,by simpa using I.len⟩ ⟨c,hs,.inr hc⟩
  ·exact (hs.2 b (ck (cg (bS e) (I.ok.cab x c hfn hc)))).trans (I.base.keep b o e n hb hx)
  ·obtain ⟨sl,e1⟩:=I.base.slot b o e n hb hx
   exact ⟨sl,(hs.2 b (ck (cg (bS e) (I.ok.cab x c hfn hc)))).trans e1⟩
  ·obtain ⟨o',e1⟩:=I.base.there b o e hx
   exact ⟨o',(hs.2 b (ck (cg (bS e) (I.ok.cab x c hfn hc)))).trans e1⟩
  ·by_cases hj:j=i
   ·subst hj
    rw [hi] at e1;cases e1
    rw [gE hiσ] at e2
    cases e2
    exact ⟨u,r,.inr ⟨.inl hk,c,hc,hc'⟩⟩
   ·rw [io (cK hj)] at e2
    obtain ⟨u',r',q⟩:=hl j y v' e1 e2 e3
    refine ⟨u',r',?_⟩
    rcases q with q | ⟨k,c',e,z'⟩
    ·exact .inl q
    ·refine .inr ⟨k,c',e,z'.sameBut hs ?_⟩
     rintro rfl
     exact hj (YB hN e1 (I.ok.inj _ _ _ e hc ▸ hi))
  ·by_cases hcc:c'=c
   ·subst hcc;exact ⟨_,hc'⟩
   ·obtain ⟨w2,z2⟩:=I.cell y c' e
    exact ⟨w2,z2.sameBut hs hcc⟩
  ·obtain ⟨e,n,ne,nf,d⟩:=I.pin p hp
   refine ⟨(hs.2 p.1 ?_).trans e,n,ne,nf,d⟩
   intro q
   rw [q,hoc] at e
   have q':oc=p.2:=cf e
   exact d w' (by rw [← q'];exact hocd)
theorem q9 {M:Model} {A:Around} {E:Value→Shared→Prop} {i:Nat} {x:Str} {v:V} {u:Value} {Q:Unit→Shared→Prop} (I:Inv X pins σ H s) (hN:X.N.Nodup) (hi:X.N[i]?=some x) (hx:Loc X.env.scope x) (r:RelV v u)
  (h:∀ s',Inv X pins (σ.set i (some v)) H s'→Q () s') (hf:X.fn x=true∨X.env.scope.names.lookup x=some .local:=by first | exact .inl rfl | exact .inr rfl | assumption):wpAny M A (storeName X.env x u) Q E s :=
 X6 I hN hi hx r (fun s' I' _=>h s' I') hf
theorem Inv.call' {s':Shared} {ch:List Addr} (I:Inv X pins σ H s) (ho:s'.os=s.os) (u:Un (frs X.stack) ch H H' s.heap s'.heap) (hok:HOk X.prog X.w H' s'.heap) (hg:AllBare s'.gens)
  (hch:∀ b∈ch,(b∈X.ex∨X.s₀.heap.objs.size≤b)∧b≠X.env.locals∧(∀ x c,X.env.cells.lookup x=some c→c≠b)∧∀ p∈X.pn ++ pins,p.1≠b):Inv X pins σ H' s':=by
 obtain ⟨h',g',d',t',o'⟩:=s'
 have e:o'=s.os:=ho
 subst e
 exact I.call (g':=g') (t':=t') (d':=d') u hok hg hch
end
abbrev XK:=Value→Option Addr→Hp→Prop
abbrev St:=List (Option V)
abbrev VK:=V→Hp→Prop
abbrev TE:=St→Hp→VK→Prop
abbrev TT:=St→Hp→(Bool→Hp→Prop)→Prop
abbrev TA:=St→Hp→(List V→Hp→Prop)→Prop
set_option genSizeOf false in
set_option genInjectivity false in
structure YC where
 nx:St→Hp→Prop
 rt:VK
 bk:St→Hp→Prop:=fun _ _=>False
 ct:St→Hp→Prop:=fun _ _=>False
abbrev TS:=YC→St→Hp→Prop
def EP (X:Cx) (pins:List (Addr × Obj)) (σ:St) (Q:VK) (u:Value) (s':Shared):Prop:=∃ v H',Inv X pins σ H' s'∧RelV v u∧Q v H'
def TP (X:Cx) (pins:List (Addr × Obj)) (σ:St) (Q:Bool→Hp→Prop) (b:Bool) (s':Shared):Prop:=∃ H',Inv X pins σ H' s'∧Q b H'
def AP (X:Cx) (pins:List (Addr × Obj)) (σ:St) (Q:List V→Hp→Prop) (us:List Value) (s':Shared):Prop:=∃ vs H',Inv X pins σ H' s'∧Vals vs us∧Q vs H'
def SP (X:Cx) (pins:List (Addr × Obj)) (D:YC) (f:Flow) (s':Shared):Prop :=
 match f with
 | .next=>∃ σ' H',Inv X pins σ' H' s'∧D.nx σ' H'
 | .brk=>∃ σ' H',Inv X pins σ' H' s'∧D.bk σ' H'
 | .cont=>∃ σ' H',Inv X pins σ' H' s'∧D.ct σ' H'
 | .ret u=>∃ v σ' H',Inv X pins σ' H' s'∧RelV v u∧D.rt v H'
def PE (X:Cx) (e:Expr) (t:TE):Prop :=
 ∀ (pins:List (Addr × Obj)) (s:Shared) (σ:St) (H:Hp) (Q:VK),Inv X pins σ H s→t σ H Q→wpAny (model X.prog X.w) X.A (eval e X.env) (EP X pins σ Q) X.xe s
def PT (X:Cx) (e:Expr) (t:TT):Prop :=
 ∀ (pins:List (Addr × Obj)) (s:Shared) (σ:St) (H:Hp) (Q:Bool→Hp→Prop),Inv X pins σ H s→t σ H Q→wpAny (model X.prog X.w) X.A (isTrue e X.env (eval e X.env)) (TP X pins σ Q) X.xe s
def PW (X:Cx) (e:Expr) (t:TT):Prop :=
 ∀ (whole:Sem Value) (pins:List (Addr × Obj)) (s:Shared) (σ:St) (H:Hp) (Q:Bool→Hp→Prop),Inv X pins σ H s→t σ H Q→wpAny (model X.prog X.w) X.A (isTrue e X.env whole) (TP X pins σ Q) X.xe s
theorem PW.pt {X:Cx} {e:Expr} {t:TT} (h:PW X e t):PT X e t:=h _
def PA (X:Cx) (es:List Expr) (t:TA):Prop :=
 ∀ (pos:Pos) (pins:List (Addr × Obj)) (s:Shared) (σ:St) (H:Hp) (Q:List V→Hp→Prop),Inv X pins σ H s→t σ H Q→wpAny (model X.prog X.w) X.A (spliced (backTo pos (starEach es X.env))) (AP X pins σ Q) X.xe s
def PS (X:Cx) (st:Stmt) (t:TS):Prop :=
 ∀ (pins:List (Addr × Obj)) (s:Shared) (σ:St) (H:Hp) (D:YC),Inv X pins σ H s→t D σ H→wpAny (model X.prog X.w) X.A (exec st X.env) (SP X pins D) X.xe s
def PSs (X:Cx) (st:List Stmt) (t:TS):Prop :=
 ∀ (pins:List (Addr × Obj)) (s:Shared) (σ:St) (H:Hp) (D:YC),Inv X pins σ H s→t D σ H→wpAny (model X.prog X.w) X.A (execs st X.env) (SP X pins D) X.xe s
theorem thn {α:Type} {t:Sem α} {Q Q':α→Shared→Prop} {M:Model} {A:Around} {E:Value→Shared→Prop} {s:Shared} (h:wpAny M A t Q E s) (hQ:∀ a s,Q a s→Q' a s):wpAny M A t Q' E s:=cG h hQ fun _ _ x=>x
section
variable {X:Cx}
def zc (i:Nat):TE:=fun σ H Q=>∃ v,σ[i]?=some (some v)∧Q v H
def tC (v:V):TE:=fun _ H Q=>Q v H
theorem zea {i:Nat} {x:Str} {pos:Pos} (hN:X.N[i]?=some x) (hv:Vis X.env.scope x) (hd:(x == ("__debug__":Str))=false:=by decide) (hcd:(x == ("__classdict__":Str))=false:=by decide):PE X (.Name x pos) (zc i):=by
 intro pins s σ H Q I h
 obtain ⟨v,e,h⟩:=h
 obtain ⟨m,hn,hl⟩:=I.loc
 obtain ⟨u,r,l⟩:=hl i x v hN e hv
 have fin:EP X pins σ Q u s:=⟨v,H,I,r,h⟩
 rcases l with ⟨hk,hm⟩ | ⟨hk,c,hc,hcell⟩
 ·exact wpAny_Name (wpAny_loadName_local I.ok.kind hk hn hm fin) hd
 ·rcases hk with hk | hk
  ·exact wpAny_Name (wpAny_loadName_cell I.ok.kind hk hc hcell fin) hd
  ·exact wpAny_Name (wpAny_loadName_free I.ok.kind hk hc hcell fin hcd) hd
theorem zg {i j pos}:PE X (.Constant (.int i) j pos) (tC (.int i)):=fun _ _ _ H _ I h=>wpAny_Constant_int ⟨.int i,H,I.tok _,⟨_,rfl⟩,h⟩
theorem jP {b j pos}:PE X (.Constant (.bool b) j pos) (tC (.bl b)):=fun _ _ _ H _ I h=>Constant_bool ⟨.bl b,H,I,rfl,h⟩
theorem jX {j pos}:PE X (.Constant .none j pos) (tC .non):=fun _ _ _ H _ I h=>Constant_none ⟨.non,H,I,rfl,h⟩
theorem zR {x j pos}:PE X (.Constant (.str x) j pos) (tC (.str x)):=fun _ _ _ H _ I h=>gp ⟨.str x,H,I.tok _,⟨_,rfl⟩,h⟩
def Gl (X:Cx) (x:Str):Prop:=X.env.kindOf x=some .globalImplicit
theorem xX {E:Value→Shared→Prop} {pins:List (Addr × Obj)} {s:Shared} {σ:St} {H:Hp} {x:Str} {u:Value} {pos:Pos} {Q:Value→Shared→Prop} (I:Inv X pins σ H s) (hg:Gl X x) (hm:X.mg x=some u) (h:Q u s)
  (hd:(x == ("__debug__":Str))=false:=by decide):wpAny (model X.prog X.w) X.A (eval (.Name x pos) X.env) Q E s :=
 iS I.ok.kind hg (Calls.loadGlobal_global (by rw [I.ok.glob];exact I.mod.glob.keeps I.bk) hm h) hd
theorem qw {E:Value→Shared→Prop} {pins:List (Addr × Obj)} {s:Shared} {σ:St} {H:Hp} {x:Str} {u:Value} {pos:Pos} {Q:Value→Shared→Prop} (I:Inv X pins σ H s) (hg:Gl X x) (hm:X.mg x=none) (hv:bootBuiltins x=some u) (h:Q u s)
  (hn:x≠"__name__":=by decide) (hd:(x == ("__debug__":Str))=false:=by decide):wpAny (model X.prog X.w) X.A (eval (.Name x pos) X.env) Q E s:=by
 obtain ⟨mb,h1,h2⟩:=I.mod.blt
 exact iS I.ok.kind hg (Calls.loadGlobal_builtin (by rw [I.ok.glob];exact I.mod.glob.keeps I.bk) hm (by rw [I.ok.blt];exact h1.keeps I.bk) ((h2 x hn).trans hv) h) hd
theorem xz {x:Str} {v:V} {u:Value} {pos:Pos} (hg:Gl X x) (hm:X.mg x=some u) (r:RelV v u) (hd:(x == ("__debug__":Str))=false:=by decide):PE X (.Name x pos) (tC v) :=
 fun _ _ _ H _ I h=>xX I hg hm ⟨v,H,I,r,h⟩ hd
theorem xn {x:Str} {v:V} {u:Value} {pos:Pos} (hg:Gl X x) (hm:X.mg x=none) (hv:bootBuiltins x=some u) (r:RelV v u) (hn:x≠"__name__":=by decide) (hd:(x == ("__debug__":Str))=false:=by decide):PE X (.Name x pos) (tC v) :=
 fun _ _ _ H _ I h=>qw I hg hm hv ⟨v,H,I,r,h⟩ hn hd
variable {a b:Expr} {ta tb:TE} {pos:Pos}
def tB (t:TE):TT:=fun σ H Q=>t σ H fun x H1=>∃ c,x=.bl c∧Q c H1
theorem xk {e:Expr} {t:TE} (h:PE X e t) (he:∀ whole,isTrue e X.env whole=(do let v ← whole;standAt e.pos;holding [v] (truthy v)):=by intro _;rfl):PT X e (tB t):=by
 intro pins s σ H Q I hw
 refine isTrue_plain (thn (h pins s σ H _ I hw) fun v s1 ⟨x,H1,I1,r1,q1⟩=>?_) (he _)
 obtain ⟨d,rfl,q⟩:=q1
 cases r1
 exact eO ⟨H1,I1,q⟩
variable {tA tB':TT} {rest:List Expr}
def tOr (t u:TT):TT:=fun σ H Q=>t σ H fun c H1=>if c=true then Q true H1 else u σ H1 Q
def vC (t:TT):TT:=fun σ H Q=>t σ H fun c H1=>Q (!c) H1
theorem jY (ha:PT X a tA):PW X (.BoolOp .Or [a] pos) tA:=by
 intro wh pins s σ H Q I h
 refine isTrue_or (thn (ha pins s σ H Q I h) fun c s1 e=>?_)
 cases c with
 | false=>exact isTrue_or_nil e
 | true=>exact e
theorem Z3 (ha:PT X a tA) (hb:PW X (.BoolOp .Or (b :: rest) pos) tB'):PW X (.BoolOp .Or (a :: b :: rest) pos) (tOr tA tB'):=by
 intro wh pins s σ H Q I h
 refine isTrue_or (thn (ha pins s σ H _ I h) fun c s1 ⟨H1,I1,q1⟩=>?_)
 cases c with
 | true=>exact ⟨H1,I1,q1⟩
 | false=>exact hb wh pins s1 σ H1 Q I1 q1
theorem wP (ha:PT X a tA):PT X (.UnaryOp .Not a pos) (vC tA):=by
 intro pins s σ H Q I h
 exact isTrue_not (ha pins s σ H (fun c H1=>Q (!c) H1) I h)
def qe (ta tb:TE):TE:=fun σ H Q=>ta σ H fun x H1=>∃ c,x=.bl c∧if c=true then tb σ H1 Q else Q (.bl false) H1
def zeb (ta tb:TE):TE:=fun σ H Q=>ta σ H fun x H1=>∃ c,x=.bl c∧if c=true then Q (.bl true) H1 else tb σ H1 Q
def VL (ta:TE):TE:=fun σ H Q=>ta σ H fun x H1=>∃ c,x=.bl c∧Q (.bl (!c)) H1
theorem YD {op} {t:TE} (h:PE X a t):PE X (.BoolOp op [a] pos) t:=fun pins s σ H Q I hw=>BoolOp_one (h pins s σ H Q I hw)
theorem YE (ha:PE X a ta) (hb:PE X (.BoolOp .And (b :: rest) pos) tb):PE X (.BoolOp .And (a :: b :: rest) pos) (qe ta tb):=by
 intro pins s σ H Q I h
 refine BoolOp_and (thn (ha pins s σ H _ I h) fun v s1 ⟨x,H1,I1,r1,q1⟩=>?_)
 obtain ⟨c,rfl,q1⟩:=q1
 cases r1
 refine eO ?_
 cases c with
 | true=>exact hb pins s1 σ H1 Q I1 q1
 | false=>exact ⟨.bl false,H1,I1,rfl,q1⟩
theorem ze2 (ha:PE X a ta) (hb:PE X (.BoolOp .Or (b :: rest) pos) tb):PE X (.BoolOp .Or (a :: b :: rest) pos) (zeb ta tb):=by
 intro pins s σ H Q I h
 refine BoolOp_or (thn (ha pins s σ H _ I h) fun v s1 ⟨x,H1,I1,r1,q1⟩=>?_)
 obtain ⟨c,rfl,q1⟩:=q1
 cases r1
 refine eO ?_
 cases c with
 | false=>exact hb pins s1 σ H1 Q I1 q1
 | true=>exact ⟨.bl true,H1,I1,rfl,q1⟩
theorem zaE (ha:PE X a ta):PE X (.UnaryOp .Not a pos) (VL ta):=by
 intro pins s σ H Q I h
 refine UnaryOp_ (thn (ha pins s σ H _ I h) fun v s1 ⟨x,H1,I1,r1,q1⟩=>?_)
 obtain ⟨c,rfl,q1⟩:=q1
 cases r1
 exact not_of (eO ⟨.bl (!c),H1,I1,rfl,q1⟩)
def tIf (t:TT) (ta tb:TE):TE:=fun σ H Q=>t σ H fun c H1=>if c=true then ta σ H1 Q else tb σ H1 Q
theorem vZ {c:Expr} (hc:PT X c tA) (ha:PE X a ta) (hb:PE X b tb):PE X (.IfExp c a b pos) (tIf tA ta tb):=by
 intro pins s σ H Q I h
 refine wpAny_IfExp (thn (hc pins s σ H _ I h) fun d s1 ⟨H1,I1,q1⟩=>?_)
 cases d with
 | true=>exact ha pins s1 σ H1 Q I1 q1
 | false=>exact hb pins s1 σ H1 Q I1 q1
end
def SqL (K:bx) (H:Hp) (a:Addr) (xs:List V):Prop :=
 Rd H a (.lst xs) ∨
  ∃ (o:Obj) (its:Array Value) (n:Nat),K.lookup a=some o∧o.cls=.type "list"∧o.dict=none∧o.data=.seq its n∧its.size≤sizeLine∧Vals xs its.toList
def SqT (K:bx) (H:Hp) (a:Addr) (xs:List V):Prop :=
 Rd H a (.tup xs) ∨
  ∃ (o:Obj) (its:Array Value) (n:Nat),K.lookup a=some o∧o.cls=.type "tuple"∧o.data=.seq its n∧its.size≤sizeLine∧Vals xs its.toList
def zfw:Value→Option V
 | .none=>some .non
 | .bool b=>some (.bl b)
 | .int i _=>some (.int i)
 | .str x _=>some (.str x)
 | .bytes b _=>some (.byt b)
 | .float b _=>some (.flt b)
 | .ref a=>some (.ref a)
 | .type n=>some (.ty n)
 | _=>none
theorem RelV.abs {x:V} {u:Value} (r:RelV x u):zfw u=some x:=by
 cases x with
 | non=>cases r;rfl
 | bl _=>cases r;rfl
 | int _=>obtain ⟨t,rfl⟩:=r;rfl
 | str _=>obtain ⟨t,rfl⟩:=r;rfl
 | byt _=>obtain ⟨t,rfl⟩:=r;rfl
 | flt _=>obtain ⟨t,rfl⟩:=r;rfl
 | ref _=>cases r;rfl
 | ty _=>cases r;rfl
theorem RelV.inj {x y:V} {u:Value} (r:RelV x u) (q:RelV y u):x=y:=cf (r.abs.symm.trans q.abs)
theorem Vals.inj:∀ {xs ys:List V} {us:List Value},Vals xs us→Vals ys us→xs=ys
 | _,_,_,.nil,.nil=>rfl
 | _,_,_,.cons r t,.cons r' t'=>by rw [r.inj r',Vals.inj t t']
section
variable {X:Cx} {pins:List (Addr × Obj)} {σ:St} {H:Hp} {s:Shared} {a:Addr} {xs ys:List V}
theorem SqL.of {K:bx} (h:H a=some (.lst xs)):SqL K H a xs:=.inl (.inl h)
theorem SqT.of {K:bx} (h:H a=some (.tup xs)):SqT K H a xs:=.inl (.inl h)
theorem Inv.list (I:Inv X pins σ H s) (h:SqL X.K H a xs):∃ its:List Value,Vals xs its∧PlainL s.heap a its.toArray∧xs.length≤sizeLine:=by
 rcases h with h | ⟨o,its,n,hk,hc,hd,hs,hz,r⟩
 ·obtain ⟨z,its,n,r,e⟩:=h.ok I.hok
  exact ⟨its,r,⟨_,n,e,rfl,rfl,rfl⟩,z⟩
 ·refine ⟨its.toList,r,⟨o,n,I.kIn a o hk,hc,hd,by simpa using hs⟩,?_⟩
  have e:=r.length
  simp only [ci] at e
  lia
theorem Inv.tuple (I:Inv X pins σ H s) (h:SqT X.K H a xs):∃ its:List Value,Vals xs its∧IsTup s.heap a its.toArray∧xs.length≤sizeLine:=by
 rcases h with h | ⟨o,its,n,hk,hc,hs,hz,r⟩
 ·obtain ⟨z,its,r,p⟩:=h.ok I.hok
  exact ⟨its,r,p,z⟩
 ·refine ⟨its.toList,r,⟨o,I.kIn a o hk,hc,n,by simpa using hs⟩,?_⟩
  have e:=r.length
  simp only [ci] at e
  lia
theorem Inv.list_inj (I:Inv X pins σ H s) (h:SqL X.K H a xs) (h':SqL X.K H a ys):xs=ys:=by
 obtain ⟨its,r,⟨o,n,e,_,_,d⟩,_⟩:=I.list h
 obtain ⟨its',r',⟨o',n',e',_,_,d'⟩,_⟩:=I.list h'
 rw [e] at e';cases e'
 rw [d] at d'
 injection d' with d1 _
 have:its=its':=by simpa using congrArg Array.toList d1
 subst this
 exact r.inj r'
theorem Inv.tuple_inj (I:Inv X pins σ H s) (h:SqT X.K H a xs) (h':SqT X.K H a ys):xs=ys:=by
 obtain ⟨its,r,⟨o,e,_,n,d⟩,_⟩:=I.tuple h
 obtain ⟨its',r',⟨o',e',_,n',d'⟩,_⟩:=I.tuple h'
 rw [e] at e';cases e'
 rw [d] at d'
 injection d' with d1 _
 have:its=its':=by simpa using congrArg Array.toList d1
 subst this
 exact r.inj r'
end
abbrev Cx.wish (X:Cx) (E:Value→Shared→Prop):Cx:={ X with xe:=E }
abbrev Cx.nox (X:Cx):Cx:=X.wish fun _ _=>False
theorem Cx.Ok.wish {X:Cx} (ok:X.Ok) (E:Value→Shared→Prop):(X.wish E).Ok :=
 ⟨ok.mod,ok.kind,ok.glob,ok.blt,ok.above,ok.inj,ok.has,ok.cab,ok.hd,ok.frames,ok.stk,ok.exf,ok.bs,ok.bsz,ok.noex,ok.exfs,ok.funs,ok.frf⟩
theorem Cx.Ok.unwish {X:Cx} {E:Value→Shared→Prop} (ok:(X.wish E).Ok):X.Ok :=
 ⟨ok.mod,ok.kind,ok.glob,ok.blt,ok.above,ok.inj,ok.has,ok.cab,ok.hd,ok.frames,ok.stk,ok.exf,ok.bs,ok.bsz,ok.noex,ok.exfs,ok.funs,ok.frf⟩
section
variable {X:Cx} {pins:List (Addr × Obj)} {σ:St} {H:Hp} {s:Shared} {E:Value→Shared→Prop}
theorem Inv.wish (I:Inv X pins σ H s) (E:Value→Shared→Prop):Inv (X.wish E) pins σ H s:=⟨I.ok.wish E,I.os,I.bare,I.base,I.loc,I.cell,I.free,I.freeC,I.pin,I.hok,I.len⟩
theorem Inv.unwish (I:Inv (X.wish E) pins σ H s):Inv X pins σ H s:=⟨I.ok.unwish,I.os,I.bare,I.base,I.loc,I.cell,I.free,I.freeC,I.pin,I.hok,I.len⟩
theorem SP.unwish {D:YC} {f:Flow} {s':Shared} (h:SP (X.wish E) pins D f s'):SP X pins D f s':=by
 cases f with
 | next=>obtain ⟨σ',H',I,q⟩:=h;exact ⟨σ',H',I.unwish,q⟩
 | brk=>obtain ⟨σ',H',I,q⟩:=h;exact ⟨σ',H',I.unwish,q⟩
 | cont=>obtain ⟨σ',H',I,q⟩:=h;exact ⟨σ',H',I.unwish,q⟩
 | ret u=>obtain ⟨v,σ',H',I,r,q⟩:=h;exact ⟨v,σ',H',I.unwish,r,q⟩
theorem PSs.nox {st:List Stmt} {t:TS} (h:PSs X.nox st t):PSs X st t:=fun pins s σ H D I hw =>
 cG (h pins s σ H D (I.wish _) hw) (fun _ _ q=>q.unwish) fun _ _ z=>cH z
end
section
variable {X:Cx} {st:Stmt} {rest:List Stmt} {t u:TS} {e:Expr} {te:TE} {pos:Pos}
def zB:TS:=fun D σ H=>D.nx σ H
def zn (t u:TS):TS:=fun D σ H=>t { D with nx:=u D } σ H
theorem zD:PSs X [] zB:=fun _ _ σ H _ I h=>dy ⟨σ,H,I,h⟩
theorem zf (h1:PS X st t) (h2:PSs X rest u):PSs X (st :: rest) (zn t u):=by
 intro pins s σ H D I h
 refine fX (thn (h1 pins s σ H { D with nx:=u D } I h) fun f s1 q=>?_)
 cases f with
 | next =>
  obtain ⟨σ',H',I',q⟩:=q
  exact h2 pins s1 σ' H' D I' q
 | ret v=>exact q
 | brk=>exact q
 | cont=>exact q
theorem zi (h1:PS X st t):PSs X [st] t:=by
 intro pins s σ H D I h
 refine fX (thn (h1 pins s σ H D I h) fun f s1 q=>?_)
 cases f with
 | next=>exact dy q
 | ret v=>exact q
 | brk=>exact q
 | cont=>exact q
theorem Inv.quiet {pins:List (Addr × Obj)} {σ:St} {H:Hp} {s:Shared} (I:Inv X pins σ H s):interactive X.env=false:=by simp [interactive,I.ok.kind]
def xi (te:TE):TS:=fun D σ H=>te σ H fun _ H1=>D.nx σ H1
theorem xA (he:PE X e te) (hs:swapsWith e none pos.line X.env=pure false:=by rfl):PS X (.Expr e pos) (xi te):=by
 intro pins s σ H D I h
 exact wpAny_Expr_any (thn (he pins s σ H _ I h) fun v s1 ⟨x,H1,I1,r1,q1⟩=>⟨σ,H1,I1,q1⟩) I.quiet hs
def zA (te:TE):TS:=fun D σ H=>te σ H D.rt
theorem zt (he:PE X e te):PS X (.Return (some e) pos) (zA te):=by
 intro pins s σ H D I h
 exact wpAny_Return_some (thn (he pins s σ H _ I h) fun v s1 ⟨x,H1,I1,r1,q1⟩=>⟨x,σ,H1,I1,r1,q1⟩)
def zaF:TS:=fun D _ H=>D.rt .non H
theorem zcB:PS X (.Return none pos) zaF:=fun _ _ σ H _ I h=>wpAny_Return_none ⟨.non,σ,H,I,rfl,h⟩
def zK (c:TT) (t u:TS):TS:=fun D σ H=>c σ H fun b H1=>if b=true then t D σ H1 else u D σ H1
theorem zS {c:Expr} {a b:List Stmt} {tc:TT} (hc:PT X c tc) (ha:PSs X a t) (hb:PSs X b u):PS X (.If c a b pos) (zK tc t u):=by
 intro pins s σ H D I h
 refine wpAny_If (thn (hc pins s σ H _ I h) fun d s1 ⟨H1,I1,q1⟩=>?_)
 cases d with
 | true=>exact ha pins s1 σ H1 D I1 q1
 | false=>exact hb pins s1 σ H1 D I1 q1
end
abbrev TG:=V→St→Hp→(St→Hp→Prop)→Prop
abbrev TGs:=List V→St→Hp→(St→Hp→Prop)→Prop
def PG (X:Cx) (target:Expr) (t:TG):Prop :=
 ∀ (pins:List (Addr × Obj)) (s:Shared) (σ:St) (H:Hp) (v:V) (u:Value) (Q:St→Hp→Prop),Inv X pins σ H s→RelV v u→t v σ H Q →
  wpAny (model X.prog X.w) X.A (assign target X.env u) (fun _ s'=>∃ σ' H',Inv X pins σ' H' s'∧Q σ' H') X.xe s
def PGs (X:Cx) (ts:List Expr) (t:TGs):Prop :=
 ∀ (pins:List (Addr × Obj)) (s:Shared) (σ:St) (H:Hp) (vs:List V) (us:List Value) (Q:St→Hp→Prop),Inv X pins σ H s→Vals vs us→t vs σ H Q →
  wpAny (model X.prog X.w) X.A (assignInOrder ((assignEach ts X.env).map (·.2)) us) (fun _ s'=>∃ σ' H',Inv X pins σ' H' s'∧Q σ' H') X.xe s
section
variable {X:Cx} {pos:Pos}
def zm (i:Nat):TG:=fun v σ H Q=>Q (σ.set i (some v)) H
theorem yo {i:Nat} {x:Str} (hN:X.N.Nodup) (hi:X.N[i]?=some x) (hx:Loc X.env.scope x) (hf:X.fn x=true∨X.env.scope.names.lookup x=some .local:=by first | exact .inl rfl | exact .inr rfl | assumption):PG X (.Name x pos) (zm i):=by
 intro pins s σ H v u Q I r h
 exact wpAny_assign_Name (q9 I hN hi hx r (fun s' I'=>⟨_,H,I',h⟩) hf)
def zec:TGs:=fun vs σ H Q=>vs=[]∧Q σ H
def KP (t:TG) (u:TGs):TGs:=fun vs σ H Q=>∃ v r,vs=v :: r∧t v σ H fun σ' H'=>u r σ' H' Q
theorem zcC:PGs X [] zec:=by
 intro pins s σ H vs us Q I r h
 obtain ⟨e,h⟩:=h
 subst e
 cases r
 exact assignInOrder_nil ⟨σ,H,I,h⟩
theorem VM {e:Expr} {es:List Expr} {t:TG} {u:TGs} (h1:PG X e t) (h2:PGs X es u)
  (hs:(assignEach (e :: es) X.env).map (·.2)=assign e X.env :: (assignEach es X.env).map (·.2):=by rfl):PGs X (e :: es) (KP t u):=by
 intro pins s σ H vs us Q I r h
 obtain ⟨v,vr,e1,h⟩:=h
 subst e1
 cases r with
 | cons r rr =>
  rw [hs]
  refine assignInOrder_cons (thn (h1 pins s σ H _ _ _ I r h) fun _ s1 ⟨σ1,H1,I1,q1⟩=>?_)
  exact h2 pins s1 σ1 H1 _ _ Q I1 rr q1
def zed (K:bx) (n:Nat) (t:TGs):TG:=fun v σ H Q=>∃ a xs,v=.ref a∧SqT K H a xs∧xs.length=n∧t xs σ H Q
theorem zee {es:List Expr} {k:Nat} {t:TGs} {n:Nat} (hc:X.calm=true) (h:PGs X es t)
  (hn:(assignEach es X.env).length=n:=by rfl) (hst:(assignEach es X.env).findIdx? (·.1)=none:=by rfl):PG X (.Tuple es k pos) (zed X.K n t):=by
 intro pins s σ H v u Q I r hw
 obtain ⟨a,xs,e1,hq,hl,hw⟩:=hw
 subst e1
 cases r
 obtain ⟨its,rv,ht,hz⟩:=I.tuple hq
 refine assign_Tuple_tuple (I.ok.hd hc) ht (by simp [hn,← hl,rv.length]) hst fun h' hx=>?_
 have I1:Inv X pins σ H { s with heap:=h' }:=I.kept (t':=s.toks) fun b o e=>hx b o (ck (bS e)) e
 exact h pins _ σ H xs _ Q I1 (by simpa using rv) hw
def zF (te:TE) (g:TG):TS:=fun D σ H=>te σ H fun x H1=>g x σ H1 D.nx
theorem zw {i:Nat} {x:Str} {e:Expr} {te:TE} {pos':Pos} (hN:X.N.Nodup) (hi:X.N[i]?=some x) (hx:Loc X.env.scope x) (he:PE X e te) (hs:swapsWith e (some (.Name x pos')) pos.line X.env=pure false:=by rfl) (hf:X.fn x=true∨X.env.scope.names.lookup x=some .local:=by first | exact .inl rfl | exact .inr rfl | assumption) :
  PS X (.Assign [.Name x pos'] e pos) (zF te (zm i)):=by
 intro pins s σ H D I h
 refine wpAny_Assign_Name (thn (he pins s σ H _ I h) fun v s1 ⟨y,H1,I1,r1,q1⟩=>?_) hs
 exact q9 I1 hN hi hx r1 (fun s2 I2=>⟨_,H1,I2,q1⟩) hf
end
section
variable {X:Cx} {pos:Pos}
def JZ (c:TT) (tb:TS):TS:=fun D σ H=>∃ W:Nat→St→Hp→Prop,(∃ m,W m σ H)∧∀ m σ H,W m σ H →
 c σ H fun b H1=>if b=true then ∃ N:St→Hp→Prop,(∀ σ' H',N σ' H'→∃ m',m' < m∧W m' σ' H')∧tb { D with nx:=N,ct:=N,bk:=D.nx } σ H1 else D.nx σ H1
theorem zaG {c:Expr} {body:List Stmt} {tc:TT} {tb:TS} (hp:PassesOwn (model X.prog X.w) X.A X.env X.xe) (hc:PT X c tc) (hb:PSs X body tb):PS X (.While c body [] pos) (JZ tc tb):=by
 intro pins s σ H D I h
 obtain ⟨W,⟨m0,w0⟩,turn⟩:=h
 refine wpAny_While (codeAny_whileLoop (fun n s'=>∃ σ' H',Inv X pins σ' H' s'∧W n σ' H') ?_ m0 ⟨σ,H,I,w0⟩)
 rintro n s1 ⟨σ1,H1,I1,w1⟩
 refine eQ hp (thn (hc pins s1 σ1 H1 _ I1 (turn n σ1 H1 w1)) fun b s2 ⟨H2,I2,q2⟩=>?_)
 cases b with
 | true =>
  obtain ⟨N,hN,q2⟩:=q2
  rw [if_pos rfl]
  refine eQ hp (thn (hb pins s2 σ1 H2 _ I2 q2) fun f s3 q3=>?_)
  cases f with
  | next =>
   obtain ⟨σ3,H3,I3,n3⟩:=q3
   obtain ⟨m',hm,w3⟩:=hN σ3 H3 n3
   exact ⟨m',hm,σ3,H3,I3,w3⟩
  | cont =>
   obtain ⟨σ3,H3,I3,n3⟩:=q3
   obtain ⟨m',hm,w3⟩:=hN σ3 H3 n3
   exact ⟨m',hm,σ3,H3,I3,w3⟩
  | brk=>exact q3
  | ret v=>exact q3
 | false =>
  rw [if_neg bK]
  exact dy ⟨σ1,H2,I2,q2⟩
end
set_option genSizeOf false in
set_option genInjectivity false in
structure It where
 go:Nat→Hp→Prop
 yld:Nat→Hp→V→Hp→Prop
 stop:Nat→Hp→Prop
def jZ (X:Cx) (pins:List (Addr × Obj)) (H:Hp) (b:Addr):Prop :=
 H b=none∧b≠X.env.locals∧b ∉ X.fs∧(b∈X.ex∨X.s₀.heap.objs.size≤b)∧(∀ x c,X.env.cells.lookup x=some c→c≠b)∧∀ p∈X.pn ++ pins,p.1≠b
theorem Inv.fpOk {X:Cx} {pins:List (Addr × Obj)} {σ:St} {H H':Hp} {s:Shared} {b:Addr} (I:Inv X pins σ H s) (hb:s.heap.objs.size≤b) (hn:H' b=none):jZ X pins H' b:=by
 refine ⟨hn,dY (cg I.lt hb),I.nofs hb,.inr (bU I.sz hb),fun x c e z=>?_,fun p hp z=>?_⟩
 ·obtain ⟨v,q⟩:=I.cell x c e
  exact absurd (cg q.lt (by rw [z];exact hb)) (eY _)
 ·exact absurd (cg (bS (I.pin p hp).1) (by rw [z];exact hb)) (eY _)
structure QQ (P:Program) (w:World) (K:bx) (tg:Expr) (J:It) (fp:List Addr) (it:Addr) (tn:Nat→Heap→Prop):Prop where
 mem:it∈fp
 obj:∀ i h,tn i h→∀ b∈fp,∃ o,h.get? b=some o∧∀ v,o.data≠.cell v
 keep:∀ i h h',tn i h→(∀ b∈fp,∀ o,h.get? b=some o→h'.get? b=some o)→tn i h'
 item:∀ (X:Cx),X.prog=P→X.w=w→X.K=K→X.calm=true→∀ (i:Nat) (pins:List (Addr × Obj)) (s:Shared) (σ:St) (H:Hp) (E:Value→Shared→Prop),Inv X pins σ H s→(∀ b∈fp,jZ X pins H b)→tn i s.heap→J.go i H →
  wpAny (model P w) X.A (pyNext (.ref it)) (fun r s1=>∃ u,r=some u ∧
   wpAny (model P w) X.A (letOwnedTupleGo tg (.ref it) u) (fun _ s2=>∃ x H',Inv X pins σ H' s2∧RelV x u∧J.yld i H x H'∧tn (i + 1) s2.heap∧∀ b∈fp,H' b=none) E s1) E s
 done:∀ (X:Cx),X.prog=P→X.w=w→X.K=K→X.calm=true→∀ (i:Nat) (pins:List (Addr × Obj)) (s:Shared) (σ:St) (H:Hp) (E:Value→Shared→Prop),Inv X pins σ H s→(∀ b∈fp,jZ X pins H b)→tn i s.heap→J.stop i H →
  wpAny (model P w) X.A (pyNext (.ref it)) (fun r s1=>r=none∧Inv X pins σ H s1) E s
 self:∀ (A:Around) (i:Nat) (s:Shared) (Q:Value→Shared→Prop) (E:Value→Shared→Prop),tn i s.heap→Q (.ref it) s→wpAny (model P w) A (pyIter (.ref it)) Q E s
abbrev TI:=St→Hp→(It→Hp→Prop)→Prop
def PIE (X:Cx) (pins:List (Addr × Obj)) (σ:St) (tg:Expr) (R:It→Hp→Prop) (itv:Value) (s2:Shared):Prop :=
 ∃ (it:Addr) (fp:List Addr) (tn:Nat→Heap→Prop) (J:It) (H':Hp),itv=.ref it∧Inv X pins σ H' s2∧QQ X.prog X.w X.K tg J fp it tn∧tn 0 s2.heap∧(∀ b∈fp,jZ X pins H' b)∧R J H'
def PI (X:Cx) (tg iter:Expr) (wi:TI):Prop :=
 ∀ (pins:List (Addr × Obj)) (s:Shared) (σ:St) (H:Hp) (R:It→Hp→Prop),Inv X pins σ H s→wi σ H R →
  wpAny (model X.prog X.w) X.A (eval iter X.env) (fun v s1=>wpAny (model X.prog X.w) X.A (pyIter v) (PIE X pins σ tg R) X.xe s1) X.xe s
theorem KQ {M:Model} {A:Around} {E:Value→Shared→Prop} {s:Shared} {tg:Expr} {it:Addr} {u:Value} {o:Obj} {n:String} {vs:Array Value} {Q:Unit→Shared→Prop} (ho:s.heap.get? it=some o) (hc:o.cls=.type n) (hd:o.data=.fields vs)
  (hn:["enumerate","zip","dict_itemiterator","dict_reverseitemiterator","odict_iterator","itertools.zip_longest","itertools.pairwise"].contains n=false) (hQ:Q () s):wpAny M A (letOwnedTupleGo tg (.ref it) u) Q E s:=by
 unfold letOwnedTupleGo
 cases tg <;> first
  | exact bj hQ
  | (cases u <;> first
      | exact bj hQ
      | (refine bd (mJ ho ?_)
         rw [hc,hd]
         show wpAny M A (if (["enumerate","zip","dict_itemiterator","dict_reverseitemiterator","odict_iterator","itertools.zip_longest","itertools.pairwise"].contains n && vs[0]? == some (rawInt _))=true then _ else _) Q E s
         rw [if_neg (by intro h;rw [hn,Bool.false_and] at h;cases h)]
         exact bj hQ))
def Itl (K:bx) (a:Addr):It :=
 ⟨fun i H=>∃ xs x,SqL K H a xs∧xs[i]?=some x,fun i H x H'=>H'=H∧∀ xs,SqL K H a xs→xs[i]?=some x,fun i H=>∃ xs,SqL K H a xs∧xs.length≤i⟩
def Itt (K:bx) (a:Addr):It :=
 ⟨fun i H=>∃ xs x,SqT K H a xs∧xs[i]?=some x,fun i H x H'=>H'=H∧∀ xs,SqT K H a xs→xs[i]?=some x,fun i H=>∃ xs,SqT K H a xs∧xs.length≤i⟩
def Itr (lo:Int) (n:Nat):It:=⟨fun i _=>i < n,fun i H x H'=>H'=H∧x=.int (lo + i),fun i _=>n≤i⟩
theorem X7 {P:Program} {w:World} {K:bx} {tg:Expr} (a it:Addr):QQ P w K tg (Itl K a) [it] it (fun i h=>h.IsListIter it a i) where
 mem:=by simp
 obj:=fun i h st b hb=>by
  have e:b=it:=by simpa using hb
  subst e
  obtain ⟨o,e,c,d⟩:=st
  exact ⟨o,e,fun v z=>by rw [d] at z;cases z⟩
 keep:=fun i h h' st k=>st.at fun o e=>k it (by simp) o e
 item:=by
  intro X hP hw hK hc i pins s σ H E I hf st hg
  subst hP hw hK
  obtain ⟨xs,x,hq,hx⟩:=hg
  obtain ⟨its,rv,p,hz⟩:=I.list hq
  obtain ⟨u,hu,ru⟩:=rv.get hx
  obtain ⟨f0,f1,f2,f3,f4,f5⟩:=hf it (by simp)
  refine l7 st p.isList (x:=u) (by simpa using hu) fun h' st' sb=>?_
  have I1:Inv X pins σ H { s with heap:=h' }:=I.turned (t':=s.toks) (fun b o hb e=>(sb.2 b hb).trans e) f0 f1 f3 f4 f5
  obtain ⟨o,e,c,d⟩:=id st'
  exact ⟨u,rfl,KQ (s:={ s with heap:=h' }) e c d (by decide) ⟨x,H,I1,ru,⟨rfl,fun ys hy=>by rw [I.list_inj hy hq];exact hx⟩,st',fun b hb=>(hf b hb).1⟩⟩
 done:=by
  intro X hP hw hK hc i pins s σ H E I hf st hg
  subst hP hw hK
  obtain ⟨xs,hq,hx⟩:=hg
  obtain ⟨its,rv,p,hz⟩:=I.list hq
  obtain ⟨f0,f1,f2,f3,f4,f5⟩:=hf it (by simp)
  have hl:=rv.length
  exact mq (I.ok.hd hc) st p.isList (by simp;lia) fun h' eb=>⟨rfl,I.turned (t':=s.toks) (fun b o hb e=>eb b o hb e) f0 f1 f3 f4 f5⟩
 self:=fun _ _ _ _ _ st h=>wpAny_pyIter_listiter st h
theorem YF {P:Program} {w:World} {K:bx} {tg:Expr} (a it:Addr):QQ P w K tg (Itt K a) [it] it (fun i h=>h.IsTupleIter it a i) where
 mem:=by simp
 obj:=fun i h st b hb=>by
  have e:b=it:=by simpa using hb
  subst e
  obtain ⟨o,e,c,d⟩:=st
  exact ⟨o,e,fun v z=>by rw [d] at z;cases z⟩
 keep:=fun i h h' st k=>st.at fun o e=>k it (by simp) o e
 item:=by
  intro X hP hw hK hc i pins s σ H E I hf st hg
  subst hP hw hK
  obtain ⟨xs,x,hq,hx⟩:=hg
  obtain ⟨its,rv,p,hz⟩:=I.tuple hq
  obtain ⟨u,hu,ru⟩:=rv.get hx
  obtain ⟨f0,f1,f2,f3,f4,f5⟩:=hf it (by simp)
  refine wpAny_pyNext_tuple_item st (show s.heap.IsTuple a its.toArray from p) (x:=u) (by simpa using hu) fun h' st' sb=>?_
  have I1:Inv X pins σ H { s with heap:=h' }:=I.turned (t':=s.toks) (fun b o hb e=>(sb.2 b hb).trans e) f0 f1 f3 f4 f5
  obtain ⟨o,e,c,d⟩:=id st'
  exact ⟨u,rfl,KQ (s:={ s with heap:=h' }) e c d (by decide) ⟨x,H,I1,ru,⟨rfl,fun ys hy=>by rw [I.tuple_inj hy hq];exact hx⟩,st',fun b hb=>(hf b hb).1⟩⟩
 done:=by
  intro X hP hw hK hc i pins s σ H E I hf st hg
  subst hP hw hK
  obtain ⟨xs,hq,hx⟩:=hg
  obtain ⟨its,rv,p,hz⟩:=I.tuple hq
  obtain ⟨f0,f1,f2,f3,f4,f5⟩:=hf it (by simp)
  have hl:=rv.length
  exact wpAny_pyNext_tuple_end (I.ok.hd hc) st (show s.heap.IsTuple a its.toArray from p) (by simp;lia) fun h' eb=>⟨rfl,I.turned (t':=s.toks) (fun b o hb e=>eb b o hb e) f0 f1 f3 f4 f5⟩
 self:=fun _ _ _ _ _ st h=>wpAny_pyIter_tupleiter st h
theorem J1 {P:Program} {w:World} {K:bx} {tg:Expr} (it:Addr) (lo:Int) (n:Nat):QQ P w K tg (Itr lo n) [it] it (fun i h=>IsRangeIter h it (lo + (i:Nat) * 1) ((n:Int) - (i:Nat)) 1) where
 mem:=by simp
 obj:=fun i h st b hb=>by
  have e:b=it:=by simpa using hb
  subst e
  exact ⟨_,st,fun v z=>by
   have z':Data.fields _=Data.cell v:=z
   cases z'⟩
 keep:=fun i h h' st k=>k it (by simp) _ st
 item:=by
  intro X hP hw hK hc i pins s σ H E I hf st hg
  subst hP hw hK
  obtain ⟨f0,f1,f2,f3,f4,f5⟩:=hf it (by simp)
  have W:=Walks.range (prog:=X.prog) (w:=X.w) (I.ok.hd hc) it lo 1 n
  refine W.item i s _ _ hg st fun v h' tk hv st' kk=>?_
  obtain ⟨t,rfl⟩:=hv
  have I1:Inv X pins σ H { s with heap:=h',toks:=tk }:=I.turned (fun b o hb e=>kk b o (by simpa using hb) e) f0 f1 f3 f4 f5
  refine ⟨_,rfl,KQ (s:={ s with heap:=h',toks:=tk }) (n:="range_iterator") st' rfl rfl (by decide) ⟨.int (lo + i),H,I1,⟨t,?_⟩,⟨rfl,rfl⟩,st',fun b hb=>(hf b hb).1⟩⟩
  rw [Int.mul_one]
 done:=by
  intro X hP hw hK hc i pins s σ H E I hf st hg
  subst hP hw hK
  obtain ⟨f0,f1,f2,f3,f4,f5⟩:=hf it (by simp)
  exact l8 (I.ok.hd hc) st (by have:n≤i:=hg;lia) fun h' eb=>⟨rfl,I.turned (t':=s.toks) (fun b o hb e=>eb b o hb e) f0 f1 f3 f4 f5⟩
 self:=fun _ _ _ _ _ st h=>l9 st h
section
variable {X:Cx} {tg:Expr}
def wQ (K:bx) (tl:TE):TI:=fun σ H R=>tl σ H fun x H1=>∃ a,x=.ref a∧(∃ xs,SqL K H1 a xs)∧R (Itl K a) H1
def zef (K:bx) (tl:TE):TI:=fun σ H R=>tl σ H fun x H1=>∃ a,x=.ref a∧(∃ xs,SqT K H1 a xs)∧R (Itt K a) H1
theorem jj {l:Expr} {tl:TE} (hl:PE X l tl):PI X tg l (wQ X.K tl):=by
 intro pins s σ H R I h
 refine thn (hl pins s σ H _ I h) fun v s1 ⟨x,H1,I1,r1,q1⟩=>?_
 obtain ⟨a,e,⟨xs,hq⟩,q⟩:=q1
 subst e
 cases r1
 obtain ⟨its,rv,p,hz⟩:=I1.list hq
 refine ll p.isList ?_
 refine ⟨s1.heap.objs.size,[s1.heap.objs.size],_,_,H1,rfl,I1.kept (t':=s1.toks) fun b o e=>bi _ e,X7 a _,⟨_,bD _ rfl,rfl,rfl⟩,fun b hb=>?_,q⟩
 have e:b=s1.heap.objs.size:=by simpa using hb
 subst e
 exact I1.fpOk (bo _) (I1.hok.fresh (bo _))
theorem zeg {l:Expr} {tl:TE} (hl:PE X l tl):PI X tg l (zef X.K tl):=by
 intro pins s σ H R I h
 refine thn (hl pins s σ H _ I h) fun v s1 ⟨x,H1,I1,r1,q1⟩=>?_
 obtain ⟨a,e,⟨xs,hq⟩,q⟩:=q1
 subst e
 cases r1
 obtain ⟨its,rv,p,hz⟩:=I1.tuple hq
 refine wpAny_pyIter_tuple (show s1.heap.IsTuple a its.toArray from p) ?_
 refine ⟨s1.heap.objs.size,[s1.heap.objs.size],_,_,H1,rfl,I1.kept (t':=s1.toks) fun b o e=>bi _ e,YF a _,⟨_,bD _ rfl,rfl,rfl⟩,fun b hb=>?_,q⟩
 have e:b=s1.heap.objs.size:=by simpa using hb
 subst e
 exact I1.fpOk (bo _) (I1.hok.fresh (bo _))
theorem zaH {pins:List (Addr × Obj)} {σ:St} {H:Hp} {s:Shared} {R:It→Hp→Prop} {E:Value→Shared→Prop} {lo hi:Int} {t u v:Tok} {tk:Nat} (I:Inv X pins σ H s) (h1:-(2 ^ 62)≤lo) (h2:lo < 2 ^ 62) (h3:-(2 ^ 62)≤hi) (h4:hi < 2 ^ 62)
  (q:R (Itr lo (hi - lo).toNat) H):wpAny (model X.prog X.w) X.A (pyIter (.ref s.heap.objs.size)) (PIE X pins σ tg R) E { s with heap:=s.heap.push { cls:=.type "range",data:=.fields #[.int lo t,.int hi u,.int 1 v] },toks:=tk }:=by
 refine wpAny_pyIter_range (oC ..) (small_one h1 h2 h3 h4) ?_
 have I1:Inv X pins σ H { s with heap:=s.heap.push { cls:=.type "range",data:=.fields #[.int lo t,.int hi u,.int 1 v] },toks:=tk }:=I.kept fun b o e=>bi _ e
 refine ⟨(s.heap.push { cls:=.type "range",data:=.fields #[.int lo t,.int hi u,.int 1 v] }).objs.size,[(s.heap.push { cls:=.type "range",data:=.fields #[.int lo t,.int hi u,.int 1 v] }).objs.size],_,_,H,rfl,
  I1.kept (t':=tk) fun b o e=>bi _ e,J1 _ lo (hi - lo).toNat,?_,fun b hb=>?_,q⟩
 ·have e1:lo + ((0:Nat):Int) * 1=lo:=by simp
  have e2:(((hi - lo).toNat:Nat):Int) - ((0:Nat):Int)=eZ lo hi 1:=by rw [rangeSize_one];split <;> lia
  show IsRangeIter _ _ (lo + ((0:Nat):Int) * 1) ((((hi - lo).toNat:Nat):Int) - ((0:Nat):Int)) 1
  rw [e1,e2]
  exact bD _ rfl
 ·have e:b=(s.heap.push { cls:=.type "range",data:=.fields #[.int lo t,.int hi u,.int 1 v] }).objs.size:=by simpa using hb
  subst e
  exact I1.fpOk (bo _) (I1.hok.fresh (bo _))
def vg (ta:TA):TI:=fun σ H R=>ta σ H fun vs H1=>∃ j:Int,vs=[.int j]∧-(2 ^ 62)≤j∧j < 2 ^ 62∧R (Itr 0 j.toNat) H1
theorem xP {a:Expr} {ta:TA} {p pos:Pos} (hg:Gl X "range") (hm:X.mg "range"=none) (ha:PA X [a] ta) (hs:starEach [a] X.env=[(false,eval a X.env)]:=by rfl):PI X tg (.Call (.Name "range" p) [a] [] pos) (vg ta):=by
 intro pins s σ H R I h
 refine Call_ (qw I hg hm boot_range (dz (thn (ha pos pins s σ H _ I h) fun us s1 ⟨vs,H1,I1,r1,q1⟩=>?_) hs rfl))
 obtain ⟨j,e,q1,q2,q⟩:=q1
 subst e
 cases r1 with
 | cons r rr =>
  cases rr
  obtain ⟨t,rfl⟩:=r
  exact call_range_1 (zaH I1 (by lia) (by lia) q1 q2 (by simpa using q))
def vD (wi:TI) (g:TG) (tb:TS):TS:=fun D σ H=>wi σ H fun J H1=>∃ W:Nat→Nat→St→Hp→Prop,(∃ m,W 0 m σ H1)∧∀ i m σ H,W i m σ H →
 (J.stop i H∧D.nx σ H)∨(J.go i H∧∃ N:St→Hp→Prop,(∀ σ' H',N σ' H'→∃ m',m' < m∧W (i + 1) m' σ' H')∧∀ x H',J.yld i H x H'→g x σ H' fun σ2 H2=>tb { D with nx:=N,ct:=N,bk:=D.nx } σ2 H2)
def YG (fp:List Addr) (h:Heap):List (Addr × Obj):=fp.filterMap fun b=>(h.get? b).map fun o=>(b,o)
theorem jk {fp:List Addr} {h:Heap} {b:Addr} {o:Obj} (hb:b∈fp) (e:h.get? b=some o):(b,o)∈YG fp h:=eF.mpr ⟨b,hb,by rw [e];rfl⟩
theorem QR {fp:List Addr} {h:Heap} {p:Addr × Obj} (hp:p∈YG fp h):p.1∈fp∧h.get? p.1=some p.2:=by
 obtain ⟨b,hb,e⟩:=List.mem_filterMap.mp hp
 cases q:h.get? b with
 | none=>rw [q] at e;cases e
 | some o =>
  rw [q] at e
  have e':(b,o)=p:=cf e
  subst e'
  exact ⟨hb,q⟩
theorem Inv.pinned {pins:List (Addr × Obj)} {σ:St} {H:Hp} {s:Shared} {fp:List Addr} (I:Inv X pins σ H s) (hf:∀ b∈fp,jZ X pins H b) (ho:∀ b∈fp,∃ o,s.heap.get? b=some o∧∀ v,o.data≠.cell v):Inv X (pins ++ YG fp s.heap) σ H s :=
 I.pins_of fun p hp=>(bV.mp hp).elim (fun z=>I.pin p (bY _ z)) fun z=>by
  obtain ⟨hb,e⟩:=QR z
  obtain ⟨f0,f1,f2,_⟩:=hf p.1 hb
  obtain ⟨o,e',d⟩:=ho p.1 hb
  rw [e] at e';cases e'
  exact ⟨e,f0,f1,f2,d⟩
theorem Inv.unpinned {pins pl:List (Addr × Obj)} {σ:St} {H:Hp} {s:Shared} (I:Inv X (pins ++ pl) σ H s):Inv X pins σ H s:=I.pins_of fun p hp=>I.pin p (bY _ (dh _ hp))
theorem vE {iter:Expr} {body:List Stmt} {wi:TI} {g:TG} {tb:TS} {pos:Pos} (hp:PassesOwn (model X.prog X.w) X.A X.env X.xe) (hc:X.calm=true) (hi:PI X tg iter wi) (hg:PG X tg g) (hb:PSs X body tb)
  (hs:∀ x,foldedSetIterable iter X.env x=pure x:=by intro _;rfl):PS X (.For tg iter body [] pos) (vD wi g tb):=by
 intro pins s σ H D I h
 refine wpAny_For (thn (hi pins s σ H _ I h) fun v s1 h1=>thn h1 fun itv s2 h2=>?_) hs
 obtain ⟨it,fp,tn,J,H2,e,I2,T,st2,f2,W,⟨m0,w0⟩,turn⟩:=h2
 subst e
 -- what stays true of the iterator's objects through the loop
 have stat:∀ {H':Hp},(∀ b∈fp,H' b=none)→∀ b∈fp,jZ X pins H' b:=fun hn b hb=>⟨hn b hb,(f2 b hb).2⟩
 refine codeAny_forLoop_any (fun n s'=>∃ i σ' H',Inv X pins σ' H' s'∧tn i s'.heap∧(∀ b∈fp,H' b=none)∧W i n σ' H') ?_ m0 ⟨0,σ,H2,I2,st2,fun b hb=>(f2 b hb).1,w0⟩
 rintro n s3 ⟨i,σ3,H3,I3,st3,fr3,w3⟩
 rcases turn i n σ3 H3 w3 with ⟨stop,qn⟩ | ⟨go,N,hN,step⟩
 ·refine eQ hp (thn (T.done X rfl rfl rfl hc i pins s3 σ3 H3 X.xe I3 (stat fr3) st3 stop) fun r s4 ⟨hr,I4⟩=>?_)
  subst hr
  exact dy ⟨σ3,H3,I4,qn⟩
 ·refine eQ hp (thn (T.item X rfl rfl rfl hc i pins s3 σ3 H3 X.xe I3 (stat fr3) st3 go) fun r s4 ⟨u,hr,h4⟩=>?_)
  subst hr
  refine eQ hp (thn h4 fun _ s5 ⟨x,H5,I5,r5,y5,st5,fr5⟩=>?_)
  have I5':=I5.pinned (stat fr5) (T.obj _ _ st5)
  refine eQ hp (thn (hg _ s5 σ3 H5 x u _ I5' r5 (step x H5 y5)) fun _ s6 ⟨σ6,H6,I6,q6⟩=>?_)
  refine eQ hp (thn (hb _ s6 σ6 H6 _ I6 q6) fun f s7 q7=>?_)
  have again:∀ {σ7:St} {H7:Hp},Inv X (pins ++ YG fp s5.heap) σ7 H7 s7→N σ7 H7→∃ m,m < n∧∃ i σ' H',Inv X pins σ' H' s7∧tn i s7.heap∧(∀ b∈fp,H' b=none)∧W i m σ' H':=fun {σ7 H7} I7 n7=>by
   obtain ⟨m',hm,w7⟩:=hN σ7 H7 n7
   refine ⟨m',hm,i + 1,σ7,H7,I7.unpinned,T.keep _ _ _ st5 fun b hb o e=>(I7.pin (b,o) (bY _ (bY _ (jk hb e)))).1,fun b hb=>?_,w7⟩
   obtain ⟨o,e,d⟩:=T.obj _ _ st5 b hb
   exact (I7.pin (b,o) (bY _ (bY _ (jk hb e)))).2.1
  cases f with
  | next=>obtain ⟨σ7,H7,I7,n7⟩:=q7;exact again I7 n7
  | cont=>obtain ⟨σ7,H7,I7,n7⟩:=q7;exact again I7 n7
  | brk=>obtain ⟨σ7,H7,I7,q7⟩:=q7;exact ⟨σ7,H7,I7.unpinned,q7⟩
  | ret v=>obtain ⟨x7,σ7,H7,I7,r7,q7⟩:=q7;exact ⟨x7,σ7,H7,I7.unpinned,r7,q7⟩
end
abbrev R2:=V→V→Hp→VK→Prop
def OpR (X:Cx) (f:Value→Value→Sem Value) (r:R2):Prop :=
 ∀ (pins:List (Addr × Obj)) (s:Shared) (σ:St) (H:Hp) (x y:V) (v u:Value) (Q:VK),Inv X pins σ H s→RelV x v→RelV y u→r x y H Q →
  wpAny (model X.prog X.w) X.A (f v u) (EP X pins σ Q) X.xe s
def UnR (X:Cx) (f:Value→Sem Value) (r:V→Hp→VK→Prop):Prop :=
 ∀ (pins:List (Addr × Obj)) (s:Shared) (σ:St) (H:Hp) (x:V) (v:Value) (Q:VK),Inv X pins σ H s→RelV x v→r x H Q →
  wpAny (model X.prog X.w) X.A (f v) (EP X pins σ Q) X.xe s
def wR (X:Cx) (f:Value) (r:List V→Hp→VK→Prop):Prop :=
 ∀ (pins:List (Addr × Obj)) (s:Shared) (σ:St) (H:Hp) (xs:List V) (us:List Value) (Q:VK),Inv X pins σ H s→Vals xs us→r xs H Q →
  wpAny (model X.prog X.w) X.A (call f us) (EP X pins σ Q) X.xe s
def tOp (r:R2) (ta tb:TE):TE:=fun σ H Q=>ta σ H fun x H1=>tb σ H1 fun y H2=>r x y H2 Q
def tUn (r:V→Hp→VK→Prop) (ta:TE):TE:=fun σ H Q=>ta σ H fun x H1=>r x H1 Q
def rI (C:Int→Int→Prop) (g:Int→Int→V):R2:=fun x y H Q=>∃ i j,x=.int i∧y=.int j∧C i j∧Q (g i j) H
def rI0 (g:Int→Int→V):R2:=fun x y H Q=>∃ i j,x=.int i∧y=.int j∧Q (g i j) H
def rU (g:Int→V):V→Hp→VK→Prop:=fun x H Q=>∃ i,x=.int i∧Q (g i) H
section
variable {X:Cx} {a b c:Expr} {ta tb tc:TE} {pos:Pos}
theorem zeh (ha:PE X a ta) (hb:PE X b tb) {pins:List (Addr × Obj)} {s:Shared} {σ:St} {H:Hp} {R:V→V→Hp→Prop} (I:Inv X pins σ H s)
  (h:ta σ H fun x H1=>tb σ H1 fun y H2=>R x y H2) {Q:Value→Shared→Prop} {f:Value→Value→Sem Value}
  (hf:∀ v u s2 x y H2,Inv X pins σ H2 s2→RelV x v→RelV y u→R x y H2→wpAny (model X.prog X.w) X.A (f v u) Q X.xe s2) :
  wpAny (model X.prog X.w) X.A (eval a X.env) (fun v s₁=>wpAny (model X.prog X.w) X.A (eval b X.env) (fun u s₂=>wpAny (model X.prog X.w) X.A (f v u) Q X.xe s₂) X.xe s₁) X.xe s:=by
 refine thn (ha pins s σ H _ I h) fun v s1 ⟨x,H1,I1,r1,q1⟩=>?_
 refine thn (hb pins s1 σ H1 _ I1 q1) fun u s2 ⟨y,H2,I2,r2,q2⟩=>?_
 exact hf v u s2 x y H2 I2 r1 r2 q2
theorem zo {op:Operator} {r:R2} (ho:OpR X (binaryOp op) r) (ha:PE X a ta) (hb:PE X b tb):PE X (.BinOp a op b pos) (tOp r ta tb):=by
 intro pins s σ H Q I h
 exact wpAny_BinOp (zeh ha hb I h fun v u s2 x y H2 I2 rx ry q=>ho pins s2 σ H2 x y v u Q I2 rx ry q)
theorem KR {op:UnaryOp} {r:V→Hp→VK→Prop} (ho:UnR X (unaryOp op) r) (ha:PE X a ta):PE X (.UnaryOp op a pos) (tUn r ta):=by
 intro pins s σ H Q I h
 exact UnaryOp_ (thn (ha pins s σ H _ I h) fun v s1 ⟨x,H1,I1,r1,q1⟩=>ho pins s1 σ H1 x v Q I1 r1 q1)
theorem opI {f:Value→Value→Sem Value} {C:Int→Int→Prop} {g:Int→Int→Int}
  (rule:∀ (i j:Int) (t u:Tok) (s:Shared) (Q:Value→Shared→Prop) (E:Value→Shared→Prop),C i j→Q (.int (g i j) s.toks) { s with toks:=s.toks + 1 }→wpAny (model X.prog X.w) X.A (f (.int i t) (.int j u)) Q E s) :
  OpR X f (rI C fun i j=>.int (g i j)):=by
 intro pins s σ H x y v u Q I rx ry h
 obtain ⟨i,j,rfl,rfl,hc,q⟩:=h
 obtain ⟨t,rfl⟩:=rx
 obtain ⟨t',rfl⟩:=ry
 exact rule i j t t' s _ _ hc ⟨.int (g i j),H,I.tok _,⟨_,rfl⟩,q⟩
theorem ze3 {f:Value→Value→Sem Value} {g:Int→Int→Int}
  (rule:∀ (i j:Int) (t u:Tok) (s:Shared) (Q:Value→Shared→Prop) (E:Value→Shared→Prop),Q (.int (g i j) s.toks) { s with toks:=s.toks + 1 }→wpAny (model X.prog X.w) X.A (f (.int i t) (.int j u)) Q E s) :
  OpR X f (rI0 fun i j=>.int (g i j)):=by
 intro pins s σ H x y v u Q I rx ry h
 obtain ⟨i,j,rfl,rfl,q⟩:=h
 obtain ⟨t,rfl⟩:=rx
 obtain ⟨t',rfl⟩:=ry
 exact rule i j t t' s _ _ ⟨.int (g i j),H,I.tok _,⟨_,rfl⟩,q⟩
theorem zcD {f:Value→Value→Sem Value} {g:Int→Int→Bool}
  (rule:∀ (i j:Int) (t u:Tok) (s:Shared) (Q:Value→Shared→Prop) (E:Value→Shared→Prop),Q (.bool (g i j)) s→wpAny (model X.prog X.w) X.A (f (.int i t) (.int j u)) Q E s) :
  OpR X f (rI0 fun i j=>.bl (g i j)):=by
 intro pins s σ H x y v u Q I rx ry h
 obtain ⟨i,j,rfl,rfl,q⟩:=h
 obtain ⟨t,rfl⟩:=rx
 obtain ⟨t',rfl⟩:=ry
 exact rule i j t t' s _ _ ⟨.bl (g i j),H,I,rfl,q⟩
def VN (i j:Int):Prop:=0≤j∧j≤1000000∧i.natAbs < 2 ^ 64
theorem zV:OpR X (binaryOp .Add) (rI0 fun i j=>.int (i + j)):=ze3 fun _ _ _ _ _ _ _ q=>add_int q
theorem WO:OpR X (binaryOp .Sub) (rI0 fun i j=>.int (i - j)):=ze3 fun _ _ _ _ _ _ _ q=>sub_int q
theorem zW:OpR X (binaryOp .Mod) (rI (fun _ j=>0 < j) fun i j=>.int (i % j)):=opI fun i j _ _ _ _ _ hc q=>by
 have h1:(0:Int) < j:=hc
 exact mod_int' (by lia) (by rw [Int.fmod_eq_emod_of_nonneg i (by lia)];exact q)
theorem zcE:OpR X (binaryOp .Mod) (rI (fun _ j=>j≠0) fun i j=>.int (i.fmod j)):=opI fun _ _ _ _ _ _ _ hc q=>mod_int' hc q
theorem Zy:OpR X (binaryOp .Pow) (rI VN fun i j=>.int (i ^ j.toNat)):=opI fun _ _ _ _ _ _ _ hc q=>pow_int_small hc.1 hc.2.1 hc.2.2 q
theorem unI {f:Value→Sem Value} {g:Int→Int}
  (rule:∀ (i:Int) (t:Tok) (s:Shared) (Q:Value→Shared→Prop) (E:Value→Shared→Prop),Q (.int (g i) s.toks) { s with toks:=s.toks + 1 }→wpAny (model X.prog X.w) X.A (f (.int i t)) Q E s) :
  UnR X f (rU fun i=>.int (g i)):=by
 intro pins s σ H x v Q I rx h
 obtain ⟨i,rfl,q⟩:=h
 obtain ⟨t,rfl⟩:=rx
 exact rule i t s _ _ ⟨.int (g i),H,I.tok _,⟨_,rfl⟩,q⟩
theorem WP:UnR X (unaryOp .USub) (rU fun i=>.int (-i)):=unI fun _ _ _ _ _ q=>neg_int q
end
def xq:V→V→Bool
 | .non,.non=>true | .non,.int _=>true | .int _,.non=>true | .non,.bl _=>true | .bl _,.non=>true | .non,.str _=>true | .str _,.non=>true
 | .int _,.int _=>true | .bl _,.bl _=>true | .str _,.str _=>true | .byt _,.byt _=>true
 | .int _,.str _=>true | .str _,.int _=>true | .bl _,.str _=>true | .str _,.bl _=>true
 | _,_=>false
def rEq:R2:=fun x y H Q=>xq x y=true∧Q (.bl (decide (x=y))) H
def rNe:R2:=fun x y H Q=>xq x y=true∧Q (.bl (!decide (x=y))) H
theorem KS {i j:Int}:decide (V.int i=V.int j)=(i == j):=by
 rw [iD]
 simp
theorem zaI {i j:Bool}:decide (V.bl i=V.bl j)=(i == j):=by
 rw [iD]
 simp
theorem KU {i j:Str}:decide (V.str i=V.str j)=(i == j):=by
 rw [iD]
 simp
theorem KW {i j:Array UInt8}:decide (V.byt i=V.byt j)=(i.toList == j.toList):=by
 rw [iD]
 cases i
 cases j
 simp
section
variable {X:Cx} {a b c:Expr} {ta tb tc:TE} {pos:Pos}
theorem z0 {pins:List (Addr × Obj)} {σ:St} {H:Hp} {s:Shared} {Q:VK} {k k':Bool} (I:Inv X pins σ H s) (q:Q (.bl k) H) (e:k=k'):EP X pins σ Q (.bool k') s:=by
 subst e
 exact ⟨.bl k,H,I,rfl,q⟩
theorem yA:OpR X (compareOp .Eq) rEq:=by
 intro pins s σ H x y v u Q I rx ry h
 obtain ⟨hs,q⟩:=h
 cases x with
 | non =>
  cases rx
  cases y with
  | non=>cases ry;exact PySem.EqNone.eq_none_none (z0 I q (by simp))
  | bl j=>cases ry;exact PySem.EqNone.eq_none_bool (z0 I q (by simp))
  | int j=>obtain ⟨t',rfl⟩:=ry;exact PySem.EqNone.eq_none_int (z0 I q (by simp))
  | str j=>obtain ⟨t',rfl⟩:=ry;exact PySem.EqNone.eq_none_str (z0 I q (by simp))
  | _=>exact absurd (show false=true from hs) bK
 | bl i =>
  cases rx
  cases y with
  | non=>cases ry;exact PySem.EqNone.eq_bool_none (z0 I q (by simp))
  | bl j=>cases ry;exact eq_bool (z0 I q zaI)
  | str j=>obtain ⟨t',rfl⟩:=ry;exact PySem.EqMixed.eq_bool_str (z0 I q (by simp))
  | _=>exact absurd (show false=true from hs) bK
 | int i =>
  obtain ⟨t,rfl⟩:=rx
  cases y with
  | non=>cases ry;exact PySem.EqNone.eq_int_none (z0 I q (by simp))
  | int j=>obtain ⟨t',rfl⟩:=ry;exact eq_int (z0 I q KS)
  | str j=>obtain ⟨t',rfl⟩:=ry;exact PySem.EqMixed.eq_int_str (z0 I q (by simp))
  | _=>exact absurd (show false=true from hs) bK
 | str i =>
  obtain ⟨t,rfl⟩:=rx
  cases y with
  | non=>cases ry;exact PySem.EqNone.eq_str_none (z0 I q (by simp))
  | bl j=>cases ry;exact PySem.EqMixed.eq_str_bool (z0 I q (by simp))
  | int j=>obtain ⟨t',rfl⟩:=ry;exact PySem.EqMixed.eq_str_int (z0 I q (by simp))
  | str j=>obtain ⟨t',rfl⟩:=ry;exact eq_str (z0 I q KU)
  | _=>exact absurd (show false=true from hs) bK
 | byt i =>
  obtain ⟨t,rfl⟩:=rx
  cases y with
  | byt j=>obtain ⟨t',rfl⟩:=ry;exact W.eq_bytes (z0 I q KW)
  | _=>exact absurd (show false=true from hs) bK
 | _=>cases y <;> exact absurd (show false=true from hs) bK
theorem X8:OpR X (compareOp .NotEq) rNe:=by
 intro pins s σ H x y v u Q I rx ry h
 obtain ⟨hs,q⟩:=h
 cases x with
 | non =>
  cases rx
  cases y with
  | non=>cases ry;exact PySem.EqNone.ne_none_none (z0 I q (by simp))
  | bl j=>cases ry;exact PySem.EqNone.ne_none_bool (z0 I q (by simp))
  | int j=>obtain ⟨t',rfl⟩:=ry;exact PySem.EqNone.ne_none_int (z0 I q (by simp))
  | str j=>obtain ⟨t',rfl⟩:=ry;exact PySem.EqNone.ne_none_str (z0 I q (by simp))
  | _=>exact absurd (show false=true from hs) bK
 | bl i =>
  cases rx
  cases y with
  | non=>cases ry;exact PySem.EqNone.ne_bool_none (z0 I q (by simp))
  | bl j=>cases ry;exact ne_bool (z0 I q (congrArg not zaI))
  | str j=>obtain ⟨t',rfl⟩:=ry;exact PySem.EqMixed.ne_bool_str (z0 I q (by simp))
  | _=>exact absurd (show false=true from hs) bK
 | int i =>
  obtain ⟨t,rfl⟩:=rx
  cases y with
  | non=>cases ry;exact PySem.EqNone.ne_int_none (z0 I q (by simp))
  | int j=>obtain ⟨t',rfl⟩:=ry;exact ne_int (z0 I q (congrArg not KS))
  | str j=>obtain ⟨t',rfl⟩:=ry;exact PySem.EqMixed.ne_int_str (z0 I q (by simp))
  | _=>exact absurd (show false=true from hs) bK
 | str i =>
  obtain ⟨t,rfl⟩:=rx
  cases y with
  | non=>cases ry;exact PySem.EqNone.ne_str_none (z0 I q (by simp))
  | bl j=>cases ry;exact PySem.EqMixed.ne_str_bool (z0 I q (by simp))
  | int j=>obtain ⟨t',rfl⟩:=ry;exact PySem.EqMixed.ne_str_int (z0 I q (by simp))
  | str j=>obtain ⟨t',rfl⟩:=ry;exact ne_str (z0 I q (congrArg not KU))
  | _=>exact absurd (show false=true from hs) bK
 | byt i =>
  obtain ⟨t,rfl⟩:=rx
  cases y with
  | byt j=>obtain ⟨t',rfl⟩:=ry;exact W.ne_bytes (z0 I q (congrArg not KW))
  | _=>exact absurd (show false=true from hs) bK
 | _=>cases y <;> exact absurd (show false=true from hs) bK
theorem KY:OpR X (compareOp .Lt) (rI0 fun i j=>.bl (decide (i < j))):=zcD fun _ _ _ _ _ _ _ q=>lt_int q
theorem zdU:OpR X (compareOp .LtE) (rI0 fun i j=>.bl (decide (i≤j))):=zcD fun _ _ _ _ _ _ _ q=>le_int q
theorem ze4:OpR X (compareOp .Gt) (rI0 fun i j=>.bl (decide (j < i))):=zcD fun _ _ _ _ _ _ _ q=>gt_int q
theorem ze5:OpR X (compareOp .GtE) (rI0 fun i j=>.bl (decide (j≤i))):=zcD fun _ _ _ _ _ _ _ q=>ge_int q
theorem zei:OpR X (compareOp .Is) (fun x y H Q=>y=.non∧Q (.bl (decide (x=.non))) H):=by
 intro pins s σ H x y v u Q I rx ry h
 obtain ⟨rfl,q⟩:=h
 cases ry
 refine is_none_gen (z0 I q ?_)
 cases x <;> first
  | (cases rx;rfl)
  | (obtain ⟨t,rfl⟩:=rx;rfl)
theorem KZ:OpR X (compareOp .IsNot) (fun x y H Q=>y=.non∧Q (.bl (!decide (x=.non))) H):=by
 intro pins s σ H x y v u Q I rx ry h
 obtain ⟨rfl,q⟩:=h
 cases ry
 refine isnot_none_gen (z0 I q ?_)
 cases x <;> first
  | (cases rx;rfl)
  | (obtain ⟨t,rfl⟩:=rx;rfl)
theorem zG (b:Expr) {op:CmpOp} (h:op≠.In:=by decide) (h2:op≠.NotIn:=by decide):behindInMarks op b=false:=by
 have e1:(op == CmpOp.In)=false:=by cases op <;> first | rfl | exact absurd rfl h
 have e2:(op == CmpOp.NotIn)=false:=by cases op <;> first | rfl | exact absurd rfl h2
 cases b <;> simp [behindInMarks,e1,e2]
theorem Yw {op:CmpOp} {r:R2} (ho:OpR X (compareOp op) r) (ha:PE X a ta) (hb:PE X b tb) (hm:behindInMarks op b=false):PE X (.Compare a [op] [b] pos) (tOp r ta tb):=by
 intro pins s σ H Q I h
 exact wpAny_Compare1 (zeh ha hb I h fun v u s2 x y H2 I2 rx ry q=>ho pins s2 σ H2 x y v u Q I2 rx ry q) hm
def zv (t:TE):TT:=fun σ H Q=>t σ H fun x H'=>∃ k,x=.bl k∧Q k H'
theorem zx {op:CmpOp} {r:R2} (ho:OpR X (compareOp op) r) (ha:PE X a ta) (hb:PE X b tb) (hm:behindInMarks op b=false):PT X (.Compare a [op] [b] pos) (zv (tOp r ta tb)):=by
 intro pins s σ H Q I h
 refine wpAny_isTrue_Compare1 (thn (ha pins s σ H _ I h) fun v s1 ⟨x,H1,I1,r1,q1⟩=>thn (hb pins s1 σ H1 _ I1 q1) fun u s2 ⟨y,H2,I2,r2,q2⟩ =>
  thn (ho pins s2 σ H2 x y v u _ I2 r1 r2 q2) fun c s3 ⟨z,H3,I3,r3,k,e,q3⟩=>?_) hm
 subst e
 cases r3
 exact eO ⟨H3,I3,q3⟩
def J2 (r r':R2) (ta tb tc:TE):TE:=fun σ H Q=>ta σ H fun x H1=>tb σ H1 fun y H2=>r x y H2 fun z H3=>∃ k,z=.bl k ∧
 (if k=true then tc σ H3 fun w' H4=>r' y w' H4 Q else Q (.bl false) H3)
theorem zaJ {op op':CmpOp} {r r':R2} (ho:OpR X (compareOp op) r) (ho':OpR X (compareOp op') r') (ha:PE X a ta) (hb:PE X b tb) (hc:PE X c tc)
  (hm:lastMarks [op,op'] [b,c]=false:=by with_unfolding_all rfl):PE X (.Compare a [op,op'] [b,c] pos) (J2 r r' ta tb tc):=by
 intro pins s σ H Q I h
 refine Compare_chain (thn (ha pins s σ H _ I h) fun v s1 ⟨x,H1,I1,r1,q1⟩=>chain_link (thn (hb pins s1 σ H1 _ I1 q1) fun u s2 ⟨y,H2,I2,r2,q2⟩ =>
  thn (ho pins s2 σ H2 x y v u _ I2 r1 r2 q2) fun d s3 ⟨z,H3,I3,r3,k,e,q3⟩=>?_)) hm
 subst e
 cases r3
 refine eO ?_
 cases k with
 | false=>exact ite_ff ⟨.bl false,H3,I3,rfl,q3⟩
 | true=>exact ite_tt (chain_last (thn (hc pins s3 σ H3 _ I3 q3) fun w' s4 ⟨z',H4,I4,r4,q4⟩=>ho' pins s4 σ H4 y z' u w' Q I4 r2 r4 q4))
theorem WQ:(sizeLine:Nat) < 2 ^ 63:=by rw [c7];decide
theorem xr:OpR X (binaryOp .Add) (fun x y H Q=>∃ i j,x=.str i∧y=.str j∧i.length + j.length≤sizeLine∧Q (.str (i ++ j)) H):=by
 intro pins s σ H x y v u Q I rx ry h
 obtain ⟨i,j,rfl,rfl,hz,q⟩:=h
 obtain ⟨t,rfl⟩:=rx
 obtain ⟨t',rfl⟩:=ry
 exact add_str (fun t' tk=>⟨.str (i ++ j),H,I.tok _,⟨_,rfl⟩,q⟩) hz
theorem Za {x:V} {us:List Value} (r:Vals [x] us):∃ u,us=[u]∧RelV x u:=by
 cases r with
 | cons r1 r2=>cases r2;exact ⟨_,rfl,r1⟩
theorem K0 {x y:V} {us:List Value} (r:Vals [x,y] us):∃ u w',us=[u,w']∧RelV x u∧RelV y w':=by
 cases r with
 | cons r1 r2 =>
  cases r2 with
  | cons r3 r4=>cases r4;exact ⟨_,_,rfl,r1,r3⟩
def qx (K:bx) (x:V) (H:Hp) (n:Nat):Prop :=
 match x with
 | .str y=>y.length≤sizeLine∧n=y.length
 | .byt y=>y.size≤sizeLine∧n=y.size
 | .ref p=>(∃ xs,SqL K H p xs∧n=xs.length)∨∃ xs,SqT K H p xs∧n=xs.length
 | _=>False
theorem yB:wR X (.builtin "len") (fun xs H Q=>∃ x n,xs=[x]∧qx X.K x H n∧Q (.int n) H):=by
 intro pins s σ H xs us Q I r h
 obtain ⟨x,n,rfl,e,q⟩:=h
 obtain ⟨u,rfl,rx⟩:=Za r
 have hl:=WQ
 have hs:sizeLine=16777216:=c7
 cases x with
 | str y =>
  obtain ⟨t,rfl⟩:=rx
  obtain ⟨hy,e'⟩:y.length≤sizeLine∧n=y.length:=e
  subst e'
  exact len_str (by lia) ⟨.int _,H,I.tok _,⟨_,rfl⟩,q⟩
 | byt y =>
  obtain ⟨t,rfl⟩:=rx
  obtain ⟨hy,e'⟩:y.size≤sizeLine∧n=y.size:=e
  subst e'
  exact W.len_bytes (by lia) ⟨.int _,H,I.tok _,⟨_,rfl⟩,q⟩
 | ref p =>
  cases rx
  have e':(∃ xs,SqL X.K H p xs∧n=xs.length)∨∃ xs,SqT X.K H p xs∧n=xs.length:=e
  rcases e' with ⟨xs,hx,e'⟩ | ⟨xs,hx,e'⟩
  ·subst e'
   obtain ⟨its,r',pl,hz⟩:=I.list hx
   have hlen:=r'.length
   exact Calls.call_len_list pl.isList (by simp only [bM];lia) ⟨.int xs.length,H,I.tok _,⟨_,by simp only [bM];rw [hlen]⟩,q⟩
  ·subst e'
   obtain ⟨its,r',pl,hz⟩:=I.tuple hx
   have hlen:=r'.length
   exact len_tuple pl (by simp only [bM];lia) ⟨.int xs.length,H,I.tok _,⟨_,by simp only [bM];rw [hlen]⟩,q⟩
 | _=>exact (show False from e).elim
end
structure ObjM (h:Heap) (x dx C:Addr) (mA:Str→Option Value):Prop where
 obj:h.get? x=some (iz C dx)
 ns:h.Ns1 dx mA
 ne:dx≠x
theorem QS {h:Heap} {dx:Addr} {mA:Str→Option Value} (n:h.Ns1 dx mA):∃ od,h.get? dx=some od∧∀ name,oO name od=some (mA name):=by
 obtain ⟨o,es,ep,ho,hd,hk,_,hm⟩:=n
 refine ⟨o,ho,fun name=>?_⟩
 have e:=hm name
 unfold nsFind findBy at e
 rw [← Array.find?_toList] at e
 unfold oO
 rw [hd]
 dsimp only
 split
 ·rename_i y q
  rw [q] at e
  exact congrArg some e
 ·rename_i q
  rw [q] at e
  have a:es.toList.any (·.refKey)=false:=by
   rw [lq]
   intro y hy
   obtain ⟨z,t,hkey⟩:=hk y (Array.mem_toList_iff.mp hy)
   simp [DictEntry.refKey,hkey]
  have a':¬ es.toList.any (·.refKey)=true:=by rw [a];exact bK
  rw [if_neg a']
  exact congrArg some e
theorem ObjM.look {h:Heap} {x dx C:Addr} {mA:Str→Option Value} (I:ObjM h x dx C mA):∃ od,W.InstAt h x (iz C dx) C (some od)∧∀ name,oO name od=some (mA name) :=
 let ⟨od,ho,hl⟩:=QS I.ns
 ⟨od,⟨I.obj,rfl,rfl,ho⟩,hl⟩
section
variable {prog:Program} {w:World} {A:Around} {E:Value→Shared→Prop} {s:Shared} {K:bx} {x dx C f:Addr} {mA:Str→Option Value} {name:Str} {v:Value}
theorem zcF {expr:Bool} {Q:Value→Shared→Prop} (X:K.In s.heap) (I:ObjM s.heap x dx C mA) (hg:mK K C name=true) (hh:m7 K C=true)
  (ha:dk K (.ref C) name=some none) (hv:mA name=some v) (hv':W.handedIn v=true) (h:Q v { s with toks:=s.toks + 1 }) :
  wpAny (model prog w) A (getAttr (.ref x) name expr) Q E s:=by
 obtain ⟨od,J,hl⟩:=I.look
 exact W.get_value X J (nA hg).1 (W.findObj_own hh ha rfl (by rw [hl,hv])) hv' h
theorem zaK {pl:Sem Bool} {Q:Value × List Value→Shared→Prop} (X:K.In s.heap) (I:ObjM s.heap x dx C mA) (hg:mK K C name=true)
  (hf:dk K (.ref C) name=some (some (.ref f))) (ht:oV K (.ref f)=true) (hv:mA name=none) (h:Q (.ref f,[.ref x]) s) :
  wpAny (model prog w) A (getMethod (.ref x) name pl) Q E s:=by
 obtain ⟨od,J,hl⟩:=I.look
 exact W.method_fn X J (nA hg).1 (nA hg).2 hf (beq_iff_eq.mp ht) (by show (oO name od).map (·.isSome)=some false;rw [hl,hv];rfl) h
theorem zcG {ns:List Str} {Q:Unit→Shared→Prop} (X:K.In s.heap) (I:ObjM s.heap x dx C mA)
  (hs:dk K (.ref C) "__setattr__"=some (some (.builtin "object.__setattr__"))) (hp:oE K C=true) (ht:W.takerIn K C name=some none) (hh:m7 K C=true)
  (hw:nV mA ns) (hsz:ns.length≤sizeLine)
  (h:∀ h',ObjM h' x dx C (fun y=>if y=name then some v else mA y)→cJ dx s.heap h'→Q () { s with heap:=h',toks:=s.toks + 2 }) :
  wpAny (model prog w) A (setAttr (.ref x) name v) Q E s:=by
 obtain ⟨od,J,hl⟩:=I.look
 refine W.set_plain X J hs (W.osa_open (s:={ s with toks:=s.toks + 1 }) (r:=none) X J hp ht fun b=>?_)
 obtain ⟨cd,hc,hd'⟩:=W.any_some hh
 have hx:s.heap.get? x=some ⟨.ref C,some dx,.plain,#[]⟩:=I.obj
 refine bd (bj (bd (bd (wpAny_loadPart hx (bd (W.Looks.here (s:={ s with toks:=s.toks + 1 }) (W.looks_clsIn X hc) ?_))))))
 rw [hd']
 refine bj (a:=some dx) (bd (bj (bd ?_)))
 refine wpAny_nsSet1 (s:={ s with toks:=s.toks + 1 }) I.ns fun h' hn2 hs2=>?_
 obtain ⟨oD,esD,epD,hoD,hdD,hcD⟩:=hn2.count (PySem.Within.cons name v hw)
 refine bd (wpAny_lookBehind hoD (by rw [hdD];exact pastItsLine_dict (bU hcD (by rw [cB];lia))) ?_)
 exact bj (h _ ⟨(hs2.2 _ (cK I.ne)).trans I.obj,hn2,I.ne⟩ hs2)
theorem zaL {R:Result→Shared→Prop} {vs:List Value} {kw:List (Str × Value)} (X:K.In s.heap) (hm:W.makesIn K C=true)
  (hi:dk K (.ref C) "__init__"=some (some (.ref f))) (hf:W.typeIn K (.ref f)=some (.type "function"))
  (h:codeAny (model prog w) (A.under (.builtin "type.__call__" ⟨.ref C :: vs,kw⟩)) (.call (.ref f) ⟨.ref (s.heap.objs.size + 1) :: vs,kw⟩) (W.InitBack (s.heap.objs.size + 1) R)
   { s with heap:=(s.heap.push fC).push (iz C s.heap.objs.size) }) :
  codeAny (model prog w) A (.call (.ref C) ⟨vs,kw⟩) R s:=by
 obtain ⟨hh,g,d,t,os⟩:=s
 exact W.make_core (W.makes_of X hm) (i5 X hi) (fun self=>W.bind_fn X self hf) (.inl rfl) h
end
def yj (f:Str) (v:V):List (Str × V)→List (Str × V)
 | []=>[(f,v)]
 | (g,x) :: r=>if g=f then (g,v) :: r else (g,x) :: yj f v r
theorem Z4 (f g:Str) (v:V):∀ fs:List (Str × V),(yj f v fs).lookup g=if g=f then some v else fs.lookup g
 | []=>by
  show gH g [(f,v)]=_
  by_cases h:g=f
  ·have hb:(g == f)=true:=beq_iff_eq.mpr h
   simp only [gH,hb,if_pos h]
  ·have hb:(g == f)=false:=beq_eq_false_iff_ne.mpr h
   simp only [gH,hb,if_neg h]
 | (k,x) :: r=>by
  have ih:=Z4 f g v r
  rw [show yj f v ((k,x) :: r)=(if k=f then (k,v) :: r else (k,x) :: yj f v r) from rfl]
  by_cases hk:k=f
  ·rw [if_pos hk]
   by_cases h:g=k
   ·have hb:(g == k)=true:=beq_iff_eq.mpr h
    simp only [gH,hb,if_pos (h.trans hk)]
   ·have hb:(g == k)=false:=beq_eq_false_iff_ne.mpr h
    simp only [gH,hb,if_neg (fun e:g=f=>h (e.trans hk.symm))]
  ·rw [if_neg hk]
   by_cases h:g=k
   ·have hb:(g == k)=true:=beq_iff_eq.mpr h
    simp only [gH,hb,if_neg (fun e:g=f=>hk (h.symm.trans e))]
   ·have hb:(g == k)=false:=beq_eq_false_iff_ne.mpr h
    simp only [gH,hb]
    exact ih
theorem Zz (f:Str) (v:V):∀ fs:List (Str × V),f∈(yj f v fs).map (·.1)∧∀ g,g∈fs.map (·.1)→g∈(yj f v fs).map (·.1)
 | []=>⟨by simp [yj],fun g h=>by simp at h⟩
 | (k,x) :: r=>by
  obtain ⟨i1,i2⟩:=Zz f v r
  rw [show yj f v ((k,x) :: r)=(if k=f then (k,v) :: r else (k,x) :: yj f v r) from rfl]
  by_cases hk:k=f
  ·rw [if_pos hk]
   subst hk
   exact ⟨by simp,fun g h=>by simpa using h⟩
  ·rw [if_neg hk]
   refine ⟨?_,fun g h=>?_⟩
   ·rw [bW]
    exact bB _ i1
   ·rw [bW] at h ⊢
    rcases bR.mp h with e | e
    ·exact bR.mpr (.inl e)
    ·exact bB _ (i2 g e)
theorem Z5 (f:Str) (v:V):∀ fs:List (Str × V),(yj f v fs).length≤fs.length + 1
 | []=>by simp [yj]
 | (k,x) :: r=>by
  have ih:=Z5 f v r
  rw [show yj f v ((k,x) :: r)=(if k=f then (k,v) :: r else (k,x) :: yj f v r) from rfl]
  by_cases hk:k=f
  ·rw [if_pos hk,cB,cB];lia
  ·rw [if_neg hk,cB,cB];lia
theorem RelO.some_of {v:V} {o:Option Value} (r:RelO (some v) o):∃ u,o=some u∧RelV v u:=by
 cases o with
 | none=>exact (show False from r).elim
 | some u=>exact ⟨u,rfl,r⟩
theorem RelO.none_of {o:Option Value} (r:RelO none o):o=none:=by
 cases o with
 | none=>rfl
 | some u=>exact (show False from r).elim
theorem QT {v:V} {u:Value} (r:RelV v u):W.handedIn u=true:=by
 cases v with
 | non=>cases (show u=cy from r);rfl
 | bl b=>cases (show u=gh b from r);rfl
 | int i=>obtain ⟨t,e⟩:=(show ∃ t,u=fj i t from r);cases e;rfl
 | str x=>obtain ⟨t,e⟩:=(show ∃ t,u=gR x t from r);cases e;rfl
 | byt b=>obtain ⟨t,e⟩:=(show ∃ t,u=Value.bytes b t from r);cases e;rfl
 | flt b=>obtain ⟨t,e⟩:=(show ∃ t,u=mY b t from r);cases e;rfl
 | ref a=>cases (show u=bJ a from r);rfl
 | ty n=>cases (show u=fM n from r);rfl
section
variable {P:Program} {w:World} {H H':Hp} {h h':Heap} {a C dx:Addr} {fs fs':List (Str × V)}
theorem Zb (hok:HOk P w H h) (e:H a=some (.ins C dx fs)):∃ mA,ObjM h a dx C mA∧(∀ f,RelO (fs.lookup f) (mA f))∧nV mA (fs.map (·.1))∧fs.length≤1000∧H dx=some (.own a):=by
 obtain ⟨d,z,ne,ob,mA,n,r,q⟩:=(show ObjOk P w H h a (.ins C dx fs) from hok a _ e)
 exact ⟨mA,⟨ob,n,ne⟩,r,q,z,d⟩
end
structure Cls (K:bx) (C:Addr):Prop where
 pg:mK K C gr=true
 hd:m7 K C=true
 po:oE K C=true
 sa:dk K (.ref C) "__setattr__"=some (some (.builtin "object.__setattr__"))
theorem Cls.get {K:bx} {C:Addr} (c:Cls K C) (f:Str):mK K C f=true:=c.pg
def NoAttr (K:bx) (C:Addr) (f:Str):Prop:=dk K (.ref C) f=some none
theorem NoAttr.taker {K:bx} {C:Addr} {f:Str} (n:NoAttr K C f):W.takerIn K C f=some none:=by
 unfold W.takerIn
 rw [show dk K (.ref C) f=some none from n]
 rfl
structure QU (K:bx) (C:Addr) (m:Str) (f:Addr):Prop where
 at_:dk K (.ref C) m=some (some (.ref f))
 fn:oV K (.ref f)=true
 kp:fN K (.ref f)=true
section
variable {X:Cx} {pins:List (Addr × Obj)} {σ:St} {H:Hp} {s:Shared} {a C dx:Addr} {fs:List (Str × V)} {f:Str} {v:V} {A:Around} {E:Value→Shared→Prop}
theorem J3 {b:Bool} {Q:Value→Shared→Prop} (I:Inv X pins σ H s) (e:H a=some (.ins C dx fs)) (c:Cls X.K C) (n:NoAttr X.K C f) (l:fs.lookup f=some v)
  (h:∀ u s',Inv X pins σ H s'→RelV v u→Q u s'):wpAny (model X.prog X.w) A (getAttr (.ref a) f b) Q E s:=by
 obtain ⟨mA,O,r,_,_,_⟩:=Zb I.hok e
 obtain ⟨u,hu,ru⟩:=RelO.some_of (v:=v) (o:=mA f) (by rw [← l];exact r f)
 exact zcF I.kIn O (c.get f) c.hd n hu (QT ru) (h u _ (I.tok _) ru)
theorem qy {m:Str} {g:Addr} {pl:Sem Bool} {Q:Value × List Value→Shared→Prop} (I:Inv X pins σ H s) (e:H a=some (.ins C dx fs)) (c:Cls X.K C) (k:QU X.K C m g) (l:fs.lookup m=none)
  (h:Q (.ref g,[.ref a]) s):wpAny (model X.prog X.w) A (getMethod (.ref a) m pl) Q E s:=by
 obtain ⟨mA,O,r,_,_,_⟩:=Zb I.hok e
 have hn:mA m=none:=RelO.none_of (by rw [← l];exact r m)
 exact zaK I.kIn O (c.get m) k.at_ k.fn hn h
theorem YH {y:V} {u:Value} {Q:Unit→Shared→Prop} (I:Inv X pins σ H s) (e:H a=some (.ins C dx fs)) (c:Cls X.K C) (n:NoAttr X.K C f) (hl:fs.length < 1000) (ry:RelV y u)
  (h:∀ s',Inv X pins σ (upd H a (.ins C dx (yj f y fs))) s'→Q () s'):wpAny (model X.prog X.w) A (setAttr (.ref a) f u) Q E s:=by
 obtain ⟨mA,O,r,wi,_,ho⟩:=Zb I.hok e
 have hz:(fs.map (·.1)).length≤sizeLine:=by rw [bt,c7];lia
 refine zcG I.kIn O c.sa c.po n.taker c.hd wi hz fun h' O' sb=>h _ ?_
 have hd:∃ o,h'.get? dx=some o:=let ⟨o,_,_,e',_⟩:=O'.ns;⟨o,e'⟩
 refine I.write (x:=a) (e:=dx) (by rw [e];exact dA) (.inr ho) (fun b q hb z=>(sb.2 b hb).trans z) hd ?_
 refine ⟨by rw [zj O.ne];exact ho,?_,O.ne,O'.obj,_,O'.ns,fun g=>?_,fun g hg=>?_⟩
 ·have:=Z5 f y fs;lia
 ·show RelO ((yj f y fs).lookup g) (if g=f then some u else mA g)
  rw [Z4]
  by_cases q:g=f
  ·rw [if_pos q,if_pos q];exact ry
  ·rw [if_neg q,if_neg q];exact r g
 ·by_cases q:g=f
  ·rw [q];exact (Zz f y fs).1
  ·refine (Zz f y fs).2 g (wi g fun z=>hg ?_)
   show (if g=f then some u else mA g)=none
   rw [if_neg q];exact z
theorem Inv.made (I:Inv X pins σ H s):Inv X pins σ (upd (upd H s.heap.objs.size (.own (s.heap.objs.size + 1))) (s.heap.objs.size + 1) (.ins C s.heap.objs.size []))
  { s with heap:=(s.heap.push fC).push (iz C s.heap.objs.size) }:=by
 have e1:(s.heap.push fC).get? s.heap.objs.size=some fC:=bD s.heap rfl
 have e2:((s.heap.push fC).push (iz C s.heap.objs.size)).get? (s.heap.objs.size + 1)=some (iz C s.heap.objs.size):=by
  have:=bD (s.heap.push fC) (o:=iz C s.heap.objs.size) rfl
  rwa [fV] at this
 have e3:(s.heap.push fC).Ns s.heap.objs.size (fun _=>none):=⟨fC,#[],_,e1,rfl,(fun e he=>absurd he (by simp)),fun _=>rfl⟩
 have I1:=I.laid (a:=s.heap.objs.size) (o:=.own (s.heap.objs.size + 1)) (h':=s.heap.push fC) (t':=s.toks) (fun b u q=>bi _ q) (bo _) ⟨_,e1⟩
 refine I1.laid (a:=s.heap.objs.size + 1) (o:=.ins C s.heap.objs.size []) (t':=s.toks) (fun b u q=>bi _ q) (ms (fV _ _)) ?_
 have ne:s.heap.objs.size≠s.heap.objs.size + 1:=ck (oo _)
 refine ⟨by rw [zj ne,ze],b8 _,ne,e2,fun _=>none,(Heap.Ns1.of_empty e3).at fun o q=>bi _ q,fun _=>dA,fun y hy=>absurd rfl hy⟩
theorem zcH {prog:Program} {w:World} {env:Env} {e:Expr} {f:Str} {pos:Pos} {s:Shared} {Q:Value→Shared→Prop} (hb:attributeBase e f env (eval e env)=eval e env)
  (h:wpAny (model prog w) A (eval e env) (fun o s₁=>wpAny (model prog w) A (getAttr o f true) Q E s₁) E s):wpAny (model prog w) A (eval (.Attribute e f pos) env) Q E s :=
 Attribute_any_ h (by rw [arm_eval_Attribute,hb])
end
def yJ (K:bx) (ta:TE) (f:Str):TE:=fun σ H Q=>ta σ H fun x H1=>∃ a C dx fs v,x=.ref a∧H1 a=some (.ins C dx fs)∧Cls K C∧NoAttr K C f∧fs.lookup f=some v∧Q v H1
def qz (K:bx) (ta tv:TE) (f:Str):TS:=fun D σ H=>tv σ H fun y H1=>ta σ H1 fun x H2=>∃ a C dx fs,x=.ref a∧H2 a=some (.ins C dx fs)∧Cls K C∧NoAttr K C f∧fs.length < 1000 ∧
 D.nx σ (upd H2 a (.ins C dx (yj f y fs)))
section
variable {X:Cx} {o e value:Expr} {f:Str} {pos pos' tpos:Pos} {ta tv:TE}
theorem ye (he:PE X e ta) (hb:attributeBase e f X.env (eval e X.env)=eval e X.env):PE X (.Attribute e f pos) (yJ X.K ta f):=by
 intro pins s σ H Q I h
 refine zcH hb (thn (he pins s σ H _ I h) fun u s1 ⟨x,H1,I1,rx,a,C,dx,fs,v,ex,ea,c,n,l,q⟩=>?_)
 subst ex
 obtain rfl:u=bJ a:=rx
 exact J3 I1 ea c n l fun u' s2 I2 ru=>⟨v,H1,I2,ru,q⟩
theorem vF (ha:PE X o ta) (hv:PE X value tv) (hs:swapsWith value (some (.Attribute o f pos')) pos.line X.env=pure false):PS X (.Assign [.Attribute o f pos'] value pos) (qz X.K ta tv f):=by
 intro pins s σ H D I h
 refine gI (thn (hv pins s σ H _ I h) fun u s1 ⟨y,H1,I1,ry,q⟩=>thn (ha pins s1 σ H1 _ I1 q) fun ov s2 ⟨x,H2,I2,rx,a,C,dx,fs,ex,ea,c,n,l,q2⟩=>?_) hs
 subst ex
 obtain rfl:ov=bJ a:=rx
 exact YH I2 ea c n l ry fun s3 I3=>⟨σ,_,I3,q2⟩
end
section
variable {X:Cx} {pins:List (Addr × Obj)} {σ:St} {H:Hp} {s:Shared} {A:Around} {E:Value→Shared→Prop} {Q:Value→Shared→Prop} {c:Value} {b:Bool}
inductive Zc (K:bx) (H:Hp):V→Value→Prop where
 | non:Zc K H .non (.type "NoneType")
 | bl (x:Bool):Zc K H (.bl x) (.type "bool")
 | int (i:Int):Zc K H (.int i) (.type "int")
 | str (x:Str):Zc K H (.str x) (.type "str")
 | flt (x:UInt64):Zc K H (.flt x) (.type "float")
 | lst {a:Addr} {xs:List V} (e:H a=some (.lst xs)):Zc K H (.ref a) (.type "list")
 | frz {a:Addr} {o:Obj} {xs:List V} (e:H a=some (.frz o (.lst xs))):Zc K H (.ref a) (.type "list")
 | tup {a:Addr} {xs:List V} (e:H a=some (.tup xs)):Zc K H (.ref a) (.type "tuple")
 | dK {a:Addr} {kvs:List (Key × V)} (e:H a=some (.dK kvs)):Zc K H (.ref a) (.type "dict")
 | dT {a:Addr} {kvs:List (List Key × V)} (e:H a=some (.dT kvs)):Zc K H (.ref a) (.type "dict")
 | ins {a C dx:Addr} {fs:List (Str × V)} (e:H a=some (.ins C dx fs)) (cl:Cls K C) (ha:dk K (.ref C) "__class__"=some (some (.builtin "object.__class__")))
   (hn:oF K (.builtin "object.__class__") "__get__"=some (some (.builtin "getset_descriptor.__get__"))) (htk:W.takesIn K (.builtin "object.__class__")=some true)
   (hm:oP K C (.type "object")=some true):Zc K H (.ref a) (.ref C)
theorem QV {x:V} {u t:Value} (I:Inv X pins σ H s) (rx:RelV x u) (ty:Zc X.K H x t) (e:dF X.K t c=some b) (h:∀ tk,Q (.bool b) { s with toks:=tk }) :
  wpAny (model X.prog X.w) A (call (.builtin "isinstance") [u,c]) Q E s:=by
 cases ty with
 | non=>cases (show u=cy from rx);exact fD W.kitx_none I.kIn dA e (fun z=>nomatch z) h
 | bl y=>cases (show u=gh y from rx);exact fD W.kitx_bool I.kIn dA e (fun z=>nomatch z) h
 | int i=>obtain ⟨t,q⟩:=(show ∃ t,u=fj i t from rx);cases q;exact fD W.kitx_int I.kIn dA e (fun z=>nomatch z) h
 | str y=>obtain ⟨t,q⟩:=(show ∃ t,u=gR y t from rx);cases q;exact fD W.kitx_str I.kIn dA e (fun z=>nomatch z) h
 | flt y=>obtain ⟨t,q⟩:=(show ∃ t,u=mY y t from rx);cases q;exact fD W.kitx_float I.kIn dA e (fun z=>nomatch z) h
 | @lst a xs ea =>
  cases (show u=bJ a from rx)
  obtain ⟨_,_,n,_,h1⟩:=(show ObjOk X.prog X.w H s.heap a (.lst xs) from I.hok a _ ea)
  exact fD m8 I.kIn ⟨_,h1,rfl⟩ e (fun z=>nomatch z) h
 | @frz a ob xs ea =>
  cases (show u=bJ a from rx)
  obtain ⟨_,_,_,n,_,h1⟩:=(show ObjOk X.prog X.w H s.heap a (.frz ob (.lst xs)) from I.hok a _ ea)
  exact fD m8 I.kIn ⟨_,h1,rfl⟩ e (fun z=>nomatch z) h
 | @tup a xs ea =>
  cases (show u=bJ a from rx)
  obtain ⟨_,_,_,p⟩:=(show ObjOk X.prog X.w H s.heap a (.tup xs) from I.hok a _ ea)
  obtain ⟨o,h1,h2,_⟩:=p
  exact fD W.kitx_tuple I.kIn ⟨o,h1,h2⟩ e (fun z=>nomatch z) h
 | @dK a kvs ea =>
  cases (show u=bJ a from rx)
  obtain ⟨_,_,vs,_,p⟩:=(show ObjOk X.prog X.w H s.heap a (.dK kvs) from I.hok a _ ea)
  obtain ⟨o,es,ep,h1,h2,_⟩:=p
  exact fD nh I.kIn ⟨o,h1,h2.1⟩ e (fun z=>nomatch z) h
 | @dT a kvs ea =>
  cases (show u=bJ a from rx)
  obtain ⟨_,_,xs,_,o,es,ep,h1,h2,_⟩:=(show ObjOk X.prog X.w H s.heap a (.dT kvs) from I.hok a _ ea)
  exact fD nh I.kIn ⟨o,h1,h2.1⟩ e (fun z=>nomatch z) h
 | @ins a C dx fs ea cl ha hn htk hm =>
  cases (show u=bJ a from rx)
  obtain ⟨mA,O,_⟩:=Zb I.hok ea
  obtain ⟨od,J,_⟩:=O.look
  exact fD (W.kitx_own (cl.get _) cl.hd ha hn htk hm) I.kIn J e (fun z=>nomatch z) h
end
structure Room (k:Nat) (A:Around):Prop where
 hd:A.handled=none
 dp:A.depth + 3 * k + 5 < recursionLimit
 un:A.units + 16 * k + 200 < cLine
theorem Room.mono {j k:Nat} {A:Around} (r:Room k A) (h:j≤k):Room j A:=⟨r.hd,by have:=r.dp;lia,by have:=r.un;lia⟩
theorem Room.deeper {k:Nat} {A:Around} (r:Room (k + 1) A) (env:Env):Room k (A.deeper env) :=
 ⟨r.hd,by have:=r.dp;show A.depth + 1 + 3 * k + 5 < _;lia,by have:=r.un;show A.units + 3 + 16 * k + 200 < _;lia⟩
theorem J4 {A:Around} {C:Addr} {us:List Value} {kw:List (Str × Value)}:(A.under (.builtin "type.__call__" ⟨.ref C :: us,kw⟩)).depth=A.depth + 1:=by
 first | rfl | simp [nX,Code.weight,Code.isCreation,Code.isGuard,Code.isCaller,Code.frames,nY,guardIds]
theorem J5 {A:Around} {C:Addr} {us:List Value} {kw:List (Str × Value)}:(A.under (.builtin "type.__call__" ⟨.ref C :: us,kw⟩)).units=A.units + 1:=by
 first | rfl | simp [nX,Code.cUnits,Code.frames,nY]
theorem Room.make {k:Nat} {A:Around} (r:Room (k + 1) A) (C:Addr) (us:List Value) (kw:List (Str × Value)):Room k (A.under (.builtin "type.__call__" ⟨.ref C :: us,kw⟩)) :=
 ⟨r.hd,by have:=r.dp;rw [J4];lia,by have:=r.un;rw [J5];lia⟩
theorem Room.depth {k:Nat} {A:Around} (r:Room k A):A.depth < recursionLimit:=by have:=r.dp;lia
theorem Room.units {k:Nat} {A:Around} (r:Room k A):A.units + 64 < cLine:=by have:=r.un;lia
def zh:TA:=fun _ H Q=>Q [] H
def zb (ta:TE) (tr:TA):TA:=fun σ H Q=>ta σ H fun x H1=>tr σ H1 fun xs H2=>Q (x :: xs) H2
section
variable {X:Cx} {e:Expr} {es:List Expr} {te:TE} {t:TA} {pos:Pos}
theorem zd:PA X [] zh:=fun _ _ _ _ H Q I h=>gJ ⟨[],H,I,.nil,h⟩
theorem za (ha:PE X e te) (hr:PA X es t) (hs:starEach (e :: es) X.env=(false,eval e X.env) :: starEach es X.env:=by rfl):PA X (e :: es) (zb te t):=by
 intro pos pins s σ H Q I h
 rw [hs]
 show wpAny _ _ (spliced ((false,eval e X.env) :: backTo pos (starEach es X.env))) _ _ s
 refine eG (thn (ha pins s σ H _ I h) fun u s1 ⟨x,H1,I1,r1,q1⟩=>?_)
 exact thn (hr pos pins s1 σ H1 _ I1 q1) fun us s2 ⟨xs,H2,I2,r2,q2⟩=>⟨x :: xs,H2,I2,.cons r1 r2,q2⟩
def yt (t:TA):TE:=fun σ H Q=>t σ H fun xs H1=>xs.length≤sizeLine∧∀ p,H1 p=none→Q (.ref p) (upd H1 p (.tup xs))
def yK (t:TA):TE:=fun σ H Q=>t σ H fun xs H1=>xs.length≤sizeLine∧∀ p,H1 p=none→Q (.ref p) (upd H1 p (.lst xs))
theorem z6 {x1} (h:PA X es t):PE X (.Tuple es x1 pos) (yt t):=by
 intro pins s σ H Q I hq
 refine wpAny_Tuple_spliced (thn (h pos pins s σ H _ I hq) fun us s1 ⟨xs,H1,I1,r,z,q⟩=>⟨by rw [← r.length];exact z,?_⟩)
 have hf:H1 s1.heap.objs.size=none:=I1.hok.fresh (bo _)
 refine ⟨.ref s1.heap.objs.size,upd H1 s1.heap.objs.size (.tup xs),I1.laid (t':=s1.toks) (fun b u e=>bi _ e) (bo _) ?_,rfl,q _ hf⟩
 exact ⟨z,us,r,⟨_,bD _ rfl,rfl,_,rfl⟩⟩
theorem yp (h:PA X es t):PE X (.List es pos) (yK t):=by
 intro pins s σ H Q I hq
 refine wpAny_List_spliced (thn (h pos pins s σ H _ I hq) fun us s1 ⟨xs,H1,I1,r,z,q⟩=>⟨by rw [← r.length];exact z,?_⟩)
 have hf:H1 s1.heap.objs.size=none:=I1.hok.fresh (bo _)
 refine ⟨.ref s1.heap.objs.size,upd H1 s1.heap.objs.size (.lst xs),I1.laid (t':=s1.toks) (fun b u e=>bi _ e) (bo _) ?_,rfl,q _ hf⟩
 exact ⟨z,us,0,r,bD _ rfl⟩
end
abbrev Sp:=List V→Hp→VK→XK→Prop
abbrev CXT:=List Env→Hp→Shared→XK→Value→Shared→Prop
structure Env0 (P:Program) (w:World) (K:bx) (mg:Str→Option Value) (base:Heap) (A:Around) (outer:List Env) (s:Shared) (H:Hp):Prop where
 frames:A.frames=some outer
 mod:Mod K mg base
 bs:∀ b o,base.get? b=some o→s.heap.get? b=some o∧H b=none
 bsz:base.objs.size≤s.heap.objs.size
 funs:s.heap.FunFrames base outer
 frf:∀ b∈frs outer,H b=none
 hok:HOk P w H s.heap
 bare:AllBare s.gens
def CE (outer:List Env) (P:Program) (w:World) (H:Hp) (s:Shared) (Q:VK) (u:Value) (s':Shared):Prop :=
 ∃ v H',s'.os=s.os∧AllBare s'.gens∧Un (frs outer) [] H H' s.heap s'.heap∧HOk P w H' s'.heap∧RelV v u∧Q v H'
def CR (CX:CXT) (outer:List Env) (P:Program) (w:World) (H:Hp) (s:Shared) (Q:VK) (E:XK) (r:Result) (s':Shared):Prop :=
 match r with
 | .ok (.ret u)=>CE outer P w H s Q u s'
 | .ok _=>False
 | .error e=>CX outer H s E e s'
structure FnOk (P:Program) (w:World) (K:bx) (mg:Str→Option Value) (base:Heap) (CX:CXT) (k:Nat) (f:Addr) (fd:FuncData) (ps:List Str) (sp:Sp):Prop where
 len:∀ vs H Q E,sp vs H Q E→vs.length=ps.length
 run:∀ (A:Around) (outer:List Env) (s:Shared) (H:Hp) (args:Args) (us:List Value) (vs:List V) (Q:VK) (E:XK),Room k A→Env0 P w K mg base A outer s H→BindsTo s fd args (ps.zip us)→Vals vs us→sp vs H Q E →
  codeAny (model P w) A (.call (.ref f) args) (CR CX outer P w H s Q E) s
theorem FnOk.mono {P:Program} {w:World} {K:bx} {mg:Str→Option Value} {base:Heap} {CX:CXT} {j k:Nat} {f:Addr} {fd:FuncData} {ps:List Str} {sp:Sp} (F:FnOk P w K mg base CX j f fd ps sp) (h:j≤k) :
  FnOk P w K mg base CX k f fd ps sp:=⟨F.len,fun A outer s H args us vs Q E hr=>F.run A outer s H args us vs Q E (hr.mono h)⟩
theorem Env0.make {P:Program} {w:World} {K:bx} {mg:Str→Option Value} {base:Heap} {A:Around} {outer:List Env} {s:Shared} {H:Hp} (e:Env0 P w K mg base A outer s H) (C:Addr) (us:List Value) (kw:List (Str × Value)) :
  Env0 P w K mg base (A.under (.builtin "type.__call__" ⟨.ref C :: us,kw⟩)) outer s H:=⟨by first | exact e.frames | (simpa [nX,Code.envs,nY,pushEnvs] using e.frames),e.mod,e.bs,e.bsz,e.funs,e.frf,e.hok,e.bare⟩
section
variable {X:Cx} {pins:List (Addr × Obj)} {σ:St} {H:Hp} {s s':Shared}
theorem Inv.env0 (I:Inv X pins σ H s):Env0 X.prog X.w X.K X.mg X.base X.A X.stack s H :=
 ⟨I.ok.frames,I.ok.mod,I.bs,bU I.ok.bsz I.sz,I.stack,I.stkFree,I.hok,I.bare⟩
theorem Inv.after {Q:VK} {u:Value} (I:Inv X pins σ H s) (h:CE X.stack X.prog X.w H s Q u s'):EP X pins σ Q u s':=by
 obtain ⟨v,H',os,bare,un,hok,r,q⟩:=h
 obtain ⟨hh,g,d,t,os'⟩:=s'
 obtain rfl:os'=s.os:=os
 exact ⟨v,H',I.call (h':=hh) (g':=g) (d':=d) (t':=t) (ch:=[]) un hok bare (fun b z=>absurd z (by simp)),r,q⟩
end
def zp (sp:Sp) (dvs:List V) (E:XK) (t:TA):TE:=fun σ H Q=>t σ H fun vs H1=>sp (vs ++ dvs) H1 Q E
def yu (C:Addr) (m:Str) (sp:Sp) (dvs:List V) (E:XK) (ta:TE) (t:TA):TE:=fun σ H Q=>ta σ H fun x H1=>∃ a dx fs,x=.ref a∧H1 a=some (.ins C dx fs)∧fs.lookup m=none ∧
 t σ H1 fun vs H2=>sp (x :: (vs ++ dvs)) H2 Q E
def zaM (C:Addr) (sp:Sp) (dvs:List V) (E:XK) (t:TA):TE:=fun σ H Q=>t σ H fun vs H1=>∀ x dx,H1 x=none→H1 dx=none→dx≠x →
 sp (.ref x :: (vs ++ dvs)) (upd (upd H1 dx (.own x)) x (.ins C dx [])) (fun v H2=>v=.non∧Q (.ref x) H2) E
def Binds (K:bx) (fd:FuncData) (ps:List Str) (ds:List Value):Prop :=
 ∀ (s:Shared) (us:List Value),K.In s.heap→(us ++ ds).length=ps.length→BindsTo s fd ⟨us,[]⟩ (ps.zip (us ++ ds))
theorem Binds.all {K:bx} {fd:FuncData} {ps:List Str} (h:∀ us:List Value,us.length=ps.length→bindArgs fd ⟨us,[]⟩=pure (ps.zip us)):Binds K fd ps []:=fun s us _ hl=>by
 rw [bq] at hl ⊢
 exact .of_eq (h us hl)
def jl (CX:CXT) (X:Cx) (E:XK):Prop:=∀ (pins:List (Addr × Obj)) (σ:St) (H:Hp) (s:Shared) (e:Value) (s':Shared),Inv X pins σ H s→CX X.stack H s E e s'→X.xe e s'
section
variable {X:Cx} {CX:CXT} {k:Nat} {f C:Addr} {fd:FuncData} {ps:List Str} {sp:Sp} {dvs:List V} {ds:List Value} {E:XK} {x m:Str} {p pos apos:Pos} {e o:Expr} {es:List Expr} {ta:TE} {t:TA}
theorem J6 {pins:List (Addr × Obj)} {σ:St} {H:Hp} {s:Shared} {Q:VK} {us:List Value} {vs:List V} (F:FnOk X.prog X.w X.K X.mg X.base CX k f fd ps sp) (hr:Room k X.A) (hb:Binds X.K fd ps ds) (hd:Vals dvs ds) (hx:jl CX X E)
  (I:Inv X pins σ H s) (r:Vals vs us) (h:sp (vs ++ dvs) H Q E):wpAny (model X.prog X.w) X.A (call (.ref f) us) (EP X pins σ Q) X.xe s:=by
 have r2:Vals (vs ++ dvs) (us ++ ds):=r.append hd
 have hl:(us ++ ds).length=ps.length:=by rw [← r2.length];exact F.len _ _ _ _ h
 refine lA (eW (F.run X.A X.stack s H ⟨us,[]⟩ (us ++ ds) (vs ++ dvs) Q E hr I.env0 (hb s us I.kIn hl) r2 h) fun r s' hq=>?_)
 cases r with
 | error e=>exact hx pins σ H s e s' I hq
 | ok fl =>
  cases fl with
  | ret u=>exact I.after hq
  | next=>exact cH hq
  | brk=>exact cH hq
  | cont=>exact cH hq
theorem Zd (F:FnOk X.prog X.w X.K X.mg X.base CX k f fd ps sp) (hr:Room k X.A) (hg:Gl X x) (hm:X.mg x=some (.ref f)) (hk:fN X.K (.ref f)=true) (hb:Binds X.K fd ps ds) (hd:Vals dvs ds) (hx:jl CX X E)
  (ha:PA X (e :: es) t) (hdb:(x == ("__debug__":Str))=false:=by decide) (he:starEach (e :: es) X.env=(false,eval e X.env) :: starEach es X.env:=by rfl) (hpl:(backTo pos (starEach es X.env)).any (·.1)=false:=by rfl) :
  PE X (.Call (.Name x p) (e :: es) [] pos) (zp sp dvs E t):=by
 intro pins s σ H Q I h
 refine eI (xX I hg hm ?_ hdb)
 refine iU (h₀:=X.base) I.ok.mod.kin hk (thn (ha pos pins s σ H _ I h) fun us s1 ⟨vs,H1,I1,r,q⟩=>⟨I1.kIn,?_⟩) he hpl
 exact J6 F hr hb hd hx I1 r q
theorem xB {pl:Sem Bool} (he:PE X o ta) (c:Cls X.K C) (hm:QU X.K C m f) (F:FnOk X.prog X.w X.K X.mg X.base CX k f fd ps sp) (hr:Room k X.A) (hb:Binds X.K fd ps ds) (hd:Vals dvs ds) (hx:jl CX X E) (ha:PA X (e :: es) t)
  (hst:starEach (e :: es) X.env=(false,eval e X.env) :: starEach es X.env:=by rfl) (hpl:(backTo pos (starEach es X.env)).any (·.1)=false:=by rfl)
  (ht:eval (.Call (.Attribute o m apos) (e :: es) [] pos) X.env=(do
   let ov ← eval o X.env
   standAt apos.atName
   let (f,first) ← holding [ov] (getMethod ov m pl)
   callWith pos f first (backTo pos (starEach (e :: es) X.env)) (backToKw pos (keywordEach [] X.env))):=by rfl) :
  PE X (.Call (.Attribute o m apos) (e :: es) [] pos) (yu C m sp dvs E ta t):=by
 intro pins s σ H Q I h
 refine mt (pl:=pl) (thn (he pins s σ H _ I h) fun u s1 ⟨x,H1,I1,rx,a,dx,fs,ex,ea,l,q⟩=>?_) ht
 subst ex
 obtain rfl:u=bJ a:=rx
 refine qy I1 ea c hm l ?_
 refine iU (first:=[.ref a]) (h₀:=X.base) I.ok.mod.kin hm.kp (thn (ha pos pins s1 σ H1 _ I1 q) fun us s2 ⟨vs,H2,I2,r,q2⟩=>⟨I2.kIn,?_⟩) hst hpl
 exact J6 (us:=.ref a :: us) (vs:=.ref a :: vs) F hr hb hd hx I2 (.cons rfl r) q2
theorem v0 {pl:Sem Bool} (he:PE X o ta) (c:Cls X.K C) (hm:QU X.K C m f) (F:FnOk X.prog X.w X.K X.mg X.base CX k f fd ps sp) (hr:Room k X.A) (hb:Binds X.K fd ps ds) (hd:Vals dvs ds) (hx:jl CX X E)
  (ht:eval (.Call (.Attribute o m apos) [] [] pos) X.env=(do
   let ov ← eval o X.env
   standAt apos.atName
   let (f,first) ← holding [ov] (getMethod ov m pl)
   callWith pos f first (backTo pos (starEach [] X.env)) (backToKw pos (keywordEach [] X.env))):=by rfl) :
  PE X (.Call (.Attribute o m apos) [] [] pos) (yu C m sp dvs E ta zh):=by
 intro pins s σ H Q I h
 refine mt (pl:=pl) (thn (he pins s σ H _ I h) fun u s1 ⟨x,H1,I1,rx,a,dx,fs,ex,ea,l,q⟩=>?_) ht
 subst ex
 obtain rfl:u=bJ a:=rx
 refine qy I1 ea c hm l ?_
 exact W.callWith_K0 (first:=[.ref a]) I1.kIn hm.kp (J6 (us:=[.ref a]) (vs:=[.ref a]) F hr hb hd hx I1 (.cons rfl .nil) q)
structure Mk (K:bx) (C f:Addr):Prop where
 makes:W.makesIn K C=true
 init:dk K (.ref C) "__init__"=some (some (.ref f))
 fn:oV K (.ref f)=true
 kp:fN K (.ref C)=true
theorem zaN {pins:List (Addr × Obj)} {σ:St} {H:Hp} {s:Shared} {Q:VK} {us:List Value} {vs:List V} (M:Mk X.K C f) (F:FnOk X.prog X.w X.K X.mg X.base CX k f fd ps sp) (hr:Room (k + 1) X.A) (hb:Binds X.K fd ps ds) (hd:Vals dvs ds)
  (hx:jl CX X E) (I:Inv X pins σ H s) (r:Vals vs us)
  (h:∀ x dx,H x=none→H dx=none→dx≠x→sp (.ref x :: (vs ++ dvs)) (upd (upd H dx (.own x)) x (.ins C dx [])) (fun v H2=>v=.non∧Q (.ref x) H2) E) :
  wpAny (model X.prog X.w) X.A (call (.ref C) us) (EP X pins σ Q) X.xe s:=by
 have hq:=h (s.heap.objs.size + 1) s.heap.objs.size (I.hok.fresh (oG _)) (I.hok.fresh (bo _)) (ck (oo _))
 have I2:=Inv.made (C:=C) I
 have r2:Vals (V.ref (s.heap.objs.size + 1) :: (vs ++ dvs)) (bJ (s.heap.objs.size + 1) :: (us ++ ds)):=.cons rfl (r.append hd)
 have hl:(bJ (s.heap.objs.size + 1) :: us ++ ds).length=ps.length:=by
  have e:=r2.length
  rw [F.len _ _ _ _ hq] at e
  exact e.symm
 refine lA (zaL (f:=f) I.kIn M.makes M.init (beq_iff_eq.mp M.fn) (eW (F.run _ X.stack _ _ ⟨bJ (s.heap.objs.size + 1) :: us,[]⟩ (bJ (s.heap.objs.size + 1) :: (us ++ ds)) _ _ E (hr.make C us [])
  (I2.env0.make C us []) (hb _ (bJ (s.heap.objs.size + 1) :: us) I2.kIn hl) r2 hq) fun r s' hq'=>?_))
 cases r with
 | error e=>exact hx pins σ _ _ e s' I2 hq'
 | ok fl =>
  cases fl with
  | ret u =>
   obtain ⟨v,H',I3,rv,ev,q3⟩:=I2.after hq'
   subst ev
   exact ⟨rv,⟨V.ref (s.heap.objs.size + 1),H',I3,rfl,q3⟩⟩
  | next=>exact cH hq'
  | brk=>exact cH hq'
  | cont=>exact cH hq'
theorem zcI (M:Mk X.K C f) (F:FnOk X.prog X.w X.K X.mg X.base CX k f fd ps sp) (hr:Room (k + 1) X.A) (hg:Gl X x) (hm:X.mg x=some (.ref C)) (hb:Binds X.K fd ps ds) (hd:Vals dvs ds) (hx:jl CX X E)
  (ha:PA X (e :: es) t) (hdb:(x == ("__debug__":Str))=false:=by decide) (he:starEach (e :: es) X.env=(false,eval e X.env) :: starEach es X.env:=by rfl) (hpl:(backTo pos (starEach es X.env)).any (·.1)=false:=by rfl) :
  PE X (.Call (.Name x p) (e :: es) [] pos) (zaM C sp dvs E t):=by
 intro pins s σ H Q I h
 refine eI (xX I hg hm ?_ hdb)
 refine iU (h₀:=X.base) I.ok.mod.kin M.kp (thn (ha pos pins s σ H _ I h) fun us s1 ⟨vs,H1,I1,r,q⟩=>⟨I1.kIn,?_⟩) he hpl
 exact zaN M F hr hb hd hx I1 r q
end
structure zC (N P:List Str) (sc:Scope):Prop where
 kind:sc.kind=.function
 co:sc.isCoroutine=false
 gen:sc.isGenerator=false
 nd:N.Nodup
 pre:N.take P.length=P
 par:∀ x∈P,sc.names.lookup x=some .local∨sc.names.lookup x=some .cell
 nofree:∀ y∈sc.names,y.2≠.free
theorem X9 {kindOf:Str→Option NameKind} {x:Str}:∀ {binds:List (Str × Value)} {m:Str→Option Value},(∀ v,(x,v) ∉ binds)→bindL kindOf binds m x=m x
 | [],_,_=>rfl
 | (n,v) :: r,m,h=>by
  unfold bindL
  rw [X9 fun w hw=>h w (bB _ hw)]
  split
  ·have:x≠n:=by rintro rfl;exact h v bF
   simp [this]
  ·rfl
theorem Wa {kindOf:Str→Option NameKind} {x:Str}:∀ {binds:List (Str × Value)} {m:Str→Option Value},(∀ v,(x,v) ∉ binds)→bindC kindOf binds m x=m x
 | [],_,_=>rfl
 | (n,v) :: r,m,h=>by
  unfold bindC
  rw [Wa fun w hw=>h w (bB _ hw)]
  split
  ·rfl
  ·have:x≠n:=by rintro rfl;exact h v bF
   simp [this]
theorem Wb {kindOf:Str→Option NameKind} {x:Str} {v:Value}:∀ {P:List Str} {vs:List Value} {i:Nat} {m:Str→Option Value},P.Nodup→P[i]?=some x→vs[i]?=some v→kindOf x=some .local →
  bindL kindOf (P.zip vs) m x=some v
 | [],_,_,_,_,h,_,_=>by simp at h
 | _ :: _,[],_,_,_,_,h,_=>by simp at h
 | p :: P,w :: vs,0,m,nd,h1,h2,hk=>by
  simp at h1 h2;subst h1;subst h2
  show bindL kindOf ((p,w) :: P.zip vs) m p=_
  unfold bindL
  rw [X9 fun v hv=>(cT.mp nd).1 (mw hv).1,if_pos hk]
  simp
 | p :: P,w :: vs,i + 1,m,nd,h1,h2,hk=>by
  show bindL kindOf ((p,w) :: P.zip vs) m x=_
  unfold bindL
  exact Wb (i:=i) (cT.mp nd).2 (by simpa using h1) (by simpa using h2) hk
theorem Wc {kindOf:Str→Option NameKind} {x:Str} {v:Value}:∀ {P:List Str} {vs:List Value} {i:Nat} {m:Str→Option Value},P.Nodup→P[i]?=some x→vs[i]?=some v→kindOf x≠some .local →
  bindC kindOf (P.zip vs) m x=some v
 | [],_,_,_,_,h,_,_=>by simp at h
 | _ :: _,[],_,_,_,_,h,_=>by simp at h
 | p :: P,w :: vs,0,m,nd,h1,h2,hk=>by
  simp at h1 h2;subst h1;subst h2
  show bindC kindOf ((p,w) :: P.zip vs) m p=_
  unfold bindC
  rw [Wa fun v hv=>(cT.mp nd).1 (mw hv).1,if_neg hk]
  simp
 | p :: P,w :: vs,i + 1,m,nd,h1,h2,hk=>by
  show bindC kindOf ((p,w) :: P.zip vs) m x=_
  unfold bindC
  exact Wc (i:=i) (cT.mp nd).2 (by simpa using h1) (by simpa using h2) hk
def start (N:List Str) (vs:List V):St:=vs.map some ++ bw (N.length - vs.length) none
def qd (CX:CXT) (P:Program) (w:World) (K:bx) (mg:Str→Option Value) (base:Heap) (N:List Str) (qual:Str) (scope:Scope) (f:Addr) (cd:Value) (A:Around) (outer:List Env) (s:Shared) (H:Hp) (E:XK):Cx where
 prog:=P
 w:=w
 K:=K
 mg:=mg
 base:=base
 A:=A.deeper (envOfC qual scope s.heap.objs.size f cd)
 N:=N
 s₀:=s
 H₀:=H
 env:=envOfC qual scope s.heap.objs.size f cd
 outer:=outer
 stack:=envOfC qual scope s.heap.objs.size f cd :: outer
 ex:=[]
 calm:=true
 fn:=fun _=>true
 pn:=[]
 xe:=fun e s'=>wpAny (model P w) (A.deeper (envOfC qual scope s.heap.objs.size f cd)) (leaving (envOfC qual scope s.heap.objs.size f cd) e) (fun _ s''=>CX outer H s E e s'') (fun e' s''=>CX outer H s E e' s'') s'
theorem VO {sc:Scope} {n:Nat} {x:Str} (h:sc.names.lookup x=some .cell):∃ c,(cellsFrom n sc.names []).lookup x=some c:=by
 have q:=W.cellsFrom_some sc.names n [] (.inl h)
 exact c6.mp q
theorem QW {CX:CXT} {P:Program} {w:World} {K:bx} {mg:Str→Option Value} {base:Heap} {N ps:List Str} {qual:Str} {scope:Scope} {f:Addr} {cd:Value} {A:Around} {outer:List Env} {s s1:Shared} {H:Hp} {E:XK} {us:List Value} {vs:List V}
  (S:zC N ps scope) (hd:A.handled=none) (e0:Env0 P w K mg base A outer s H) (hl:vs.length=ps.length) (r:Vals vs us)
  (x:InCallC s s.heap.objs.size (bindL (envOfC qual scope s.heap.objs.size f cd).kindOf (ps.zip us) fun _=>none) (cellsFrom (s.heap.objs.size + 1) scope.names []) (bindC (envOfC qual scope s.heap.objs.size f cd).kindOf (ps.zip us) fun _=>none) s1) :
  Inv (qd CX P w K mg base N qual scope f cd A outer s H E) [] (start N vs) H s1:=by
 have hpl:ps.length≤N.length:=by have:=congrArg bG S.pre;rw [cM] at this;lia
 obtain ⟨h1,tk,rfl,hk⟩:=x.done
 have noA:∀ b:Addr,b ∉ (qd CX P w K mg base N qual scope f cd A outer s H E).ex:=fun b z=>absurd (show b∈([]:List Addr) from z) (by simp)
 refine ⟨⟨e0.mod,S.kind,rfl,rfl,bo _,fun y z c h1 h2=>?_,fun y hy=>?_,fun y c _ h=>?_,fun _=>hd,Around.frames_deeper e0.frames,.inr ⟨rfl,rfl⟩,fun b z=>absurd z (noA b),e0.bs,e0.bsz,fun b _ _=>noA b,fun b z=>absurd z (noA b),e0.funs,e0.frf⟩,
  rfl,e0.bare,Un.kept hk,⟨_,x.toInCall.ns,fun i y v h1 h2 h3=>?_⟩,fun y c h=>⟨_,x.cell y c h⟩,e0.hok.fresh (bo _),fun y c h=>?_,fun p hp=>absurd (show p∈([]:List (Addr × Obj)) from hp) (by simp),e0.hok.kept hk,?_⟩
 ·exact name_of_addr x.apart (eB h1) (eB h2)
 ·have hy:scope.names.lookup y=some .cell∨scope.names.lookup y=some .free:=hy
  rcases hy with hy | hy
  ·exact VO hy
  ·exact absurd rfl (S.nofree _ (eB hy))
 ·exact nW (x.above y c (eB h))
 ·have hi:i < vs.length:=by
   unfold start at h2
   by_cases hi:i < vs.length
   ·exact hi
   ·rw [eE (by simpa using hi)] at h2
    rw [lL] at h2
    split at h2 <;> cases h2
  have ha:vs[i]?=some v:=by
   unfold start at h2
   rw [eL (by simpa using hi),bN] at h2
   cases e:vs[i]? with
   | none=>rw [e] at h2;cases h2
   | some a=>rw [e] at h2;cases h2;rfl
  obtain ⟨u,hu,rv⟩:=r.get ha
  have hp:ps[i]?=some y:=by
   rw [← S.pre,List.getElem?_take_of_lt (by lia)];exact h1
  have ndP:ps.Nodup:=by rw [← S.pre];exact S.nd.sublist (List.take_sublist _ _)
  refine ⟨u,rv,?_⟩
  rcases S.par y (cL hp) with k | k
  ·exact .inl ⟨k,Wb ndP hp hu k⟩
  ·obtain ⟨c,e⟩:=VO (n:=s.heap.objs.size + 1) k
   refine .inr ⟨.inl k,c,e,?_⟩
   have q:=x.cell y c e
   rw [Wc ndP hp hu (by show scope.names.lookup y≠_;rw [k];decide)] at q
   exact q
 ·exact e0.hok.fresh (nW (x.above y c (eB h)))
 ·unfold start
  show _=N.length
  rw [bz,bt,fE]
  lia
theorem zdV {CX:CXT} {P:Program} {w:World} {K:bx} {mg:Str→Option Value} {base:Heap} {k:Nat} {f:Addr} {name qual:Str} {params:Arguments} {body:List Stmt} {scope:Scope} {dV kV doc pm cdv ct oc:Value} {an od:Option Addr}
  {osl:Array (Option Value)} {N ps:List Str} {sp:Sp} (lk:K.lookup f=some ⟨oc,od,.func (iV name qual params body scope dV kV doc pm an cdv ct),osl⟩) (hcd:iW K cdv qual=true) (S:zC N ps scope)
  (len:∀ vs H Q E,sp vs H Q E→vs.length=ps.length)
  (hbody:∀ (A:Around) (outer:List Env) (s:Shared) (H:Hp) (vs:List V) (Q:VK) (E:XK),Room k (A.deeper (envOfC qual scope s.heap.objs.size f cdv))→sp vs H Q E →
   ∃ t,PSs (qd CX P w K mg base N qual scope f cdv A outer s H E) body t∧t { nx:=fun _ H'=>Q .non H',rt:=Q } (start N vs) H) :
  FnOk P w K mg base CX (k + 1) f (iV name qual params body scope dV kV doc pm an cdv ct) ps sp:=by
 refine ⟨len,fun A outer s H args us vs Q E hr e0 hb r hsp=>?_⟩
 have hl:=len _ _ _ _ hsp
 have KX:K.In s.heap:=e0.mod.kin.keeps fun b o e=>(e0.bs b o e).1
 have lim:s.heap.NoLimit:=e0.mod.nolimit.keeps fun b o e=>(e0.bs b o e).1
 have hkind:∀ y∈ps.zip us,scope.names.lookup y.1=some .local∨(scope.names.lookup y.1=some .cell∧((cellsFrom (s.heap.objs.size + 1) scope.names []).lookup y.1).isSome=true):=fun ⟨n,v⟩ hy=>by
  rcases S.par n (mw hy).1 with q | q
  ·exact .inl q
  ·exact .inr ⟨q,W.cellsFrom_some _ _ _ (.inl q)⟩
 refine codeAny_call_function hr.depth (KX _ _ lk) rfl S.co S.gen rfl (W.codeRec_of KX hcd) (hb _ _ _ _ ?_)
 refine wpAny_newFunctionEnv_cells S.kind hkind fun env he s1 x=>?_
 subst he
 refine ⟨lim.keeps x.toInCall.keep,codeAny_func ?_⟩
 obtain ⟨t,ht,hq⟩:=hbody A outer s H vs Q E (hr.deeper _) hsp
 have I:Inv (qd CX P w K mg base N qual scope f cdv A outer s H E) [] (start N vs) H s1:=QW S hr.hd e0 hl r x
 refine cG (ht [] s1 (start N vs) H _ I hq) (fun fl s' hs=>?_) fun e s' hs=>hs
 have fin:∀ {σ':St} {H':Hp} {v:V} {u:Value},Inv (qd CX P w K mg base N qual scope f cdv A outer s H E) [] σ' H' s'→RelV v u→Q v H'→CE outer P w H s Q u s' :=
  fun {σ' H' v u} J rv q=>⟨v,H',J.os,J.bare,J.base,J.hok,rv,q⟩
 cases fl with
 | ret u =>
  obtain ⟨v,σ',H',J,rv,q⟩:=hs
  exact fin J rv q
 | next =>
  obtain ⟨σ',H',J,q⟩:=hs
  exact fin (v:=V.non) (u:=cy) J rfl q
 | brk =>
  obtain ⟨_,_,_,q⟩:=hs
  exact cH q
 | cont =>
  obtain ⟨_,_,_,q⟩:=hs
  exact cH q
section
variable {X:Cx} {x:Str} {p pos:Pos} {e:Expr} {es:List Expr} {t:TA} {id T:String} {r:List V→Hp→VK→Prop}
def tCB (r:List V→Hp→VK→Prop) (t:TA):TE:=fun σ H Q=>t σ H fun vs H1=>r vs H1 Q
theorem zL (hc:wR X (.builtin id) r) (hg:Gl X x) (hm:X.mg x=none) (hv:bootBuiltins x=some (.builtin id)) (ha:PA X (e :: es) t) (hn:x≠"__name__":=by decide) (hdb:(x == ("__debug__":Str))=false:=by decide)
  (he:starEach (e :: es) X.env=(false,eval e X.env) :: starEach es X.env:=by rfl) (hpl:(backTo pos (starEach es X.env)).any (·.1)=false:=by rfl):PE X (.Call (.Name x p) (e :: es) [] pos) (tCB r t):=by
 intro pins s σ H Q I h
 refine eI (qw I hg hm hv ?_ hn hdb)
 exact PyProof.Rows.callWith_builtin1 (thn (ha pos pins s σ H _ I h) fun us s1 ⟨vs,H1,I1,r1,q1⟩=>hc pins s1 σ H1 vs us Q I1 r1 q1) he hpl
theorem yr (hc:wR X (.type T) r) (hg:Gl X x) (hm:X.mg x=none) (hv:bootBuiltins x=some (.type T)) (ha:PA X (e :: es) t) (hn:x≠"__name__":=by decide) (hdb:(x == ("__debug__":Str))=false:=by decide)
  (he:starEach (e :: es) X.env=(false,eval e X.env) :: starEach es X.env:=by rfl) (hpl:(backTo pos (starEach es X.env)).any (·.1)=false:=by rfl):PE X (.Call (.Name x p) (e :: es) [] pos) (tCB r t):=by
 intro pins s σ H Q I h
 refine eI (qw I hg hm hv ?_ hn hdb)
 exact dz (thn (ha pos pins s σ H _ I h) fun us s1 ⟨vs,H1,I1,r1,q1⟩=>hc pins s1 σ H1 vs us Q I1 r1 q1) he hpl
end
end L2
namespace HT
open PySem PyProof.Rows
def ze6:List Int→List Int→Bool
 | [],[]=>false
 | [],_ :: _=>true
 | _ :: _,[]=>false
 | x :: xs,y :: ys=>if x=y then ze6 xs ys else decide (x < y)
theorem rcLt_int (A:Around) (s:Shared) (a:Int) (t:Tok) (c:Int) (u:Tok) (prog:Program) (w:World) (E:Value→Shared→Prop) (Q:Value→Shared→Prop) (h:Q (.bool (decide (a < c))) s) :
  wpAny (model prog w) A (richCompare .Lt (.int a t) (.int c u)) Q E s :=
 (nj h:wpAny (model prog w) A (compareOp .Lt (.int a t) (.int c u)) Q E s)
section
variable {prog:Program} {w:World} {A:Around} {E:Value→Shared→Prop} {s:Shared}
def sIx (n d:Nat):Option Int→Nat
 | none=>d
 | some v=>if v < 0 then (v + (n:Int)).toNat else min v.toNat n
theorem sIx_none (n d:Nat):sIx n d none=d:=rfl
theorem sIx_nat (n d k:Nat):sIx n d (some (k:Int))=min k n:=by
 show (if (k:Int) < 0 then ((k:Int) + (n:Int)).toNat else min (k:Int).toNat n)=min k n
 rw [if_neg (by lia),ed]
theorem sIx_le (n d:Nat) (hd:d≤n) (o:Option Int):sIx n d o≤n:=by
 cases o with
 | none=>exact hd
 | some v =>
  show (if v < 0 then (v + (n:Int)).toNat else min v.toNat n)≤n
  by_cases hv:v < 0
  ·rw [if_pos hv];lia
  ·rw [if_neg hv];exact Nat.min_le_right _ _
end
end HT
namespace L2
open PySem PySem.Spec PyProof.Rows
abbrev TO:=St→Hp→(Option Int→Hp→Prop)→Prop
def PO (X:Cx) (e:Option Expr) (t:TO):Prop :=
 ∀ (pins:List (Addr × Obj)) (s:Shared) (σ:St) (H:Hp) (Q:Option Int→Hp→Prop),Inv X pins σ H s→t σ H Q →
  wpAny (model X.prog X.w) X.A (evalPart e X.env) (fun u s'=>∃ o H',Inv X pins σ H' s'∧IsPart u o∧Q o H') X.xe s
def ya:TO:=fun _ H Q=>Q none H
def yR (t:TE):TO:=fun σ H Q=>t σ H fun x H1=>∃ i,x=.int i∧Q (some i) H1
section
variable {X:Cx} {e:Expr} {te:TE} {lo hi:Option Expr} {tl th:TO} {pos p2:Pos}
theorem yS:PO X none ya:=by
 intro pins s σ H Q I h
 rw [nB]
 exact bj ⟨none,H,I,.none,h⟩
theorem yC (h:PE X e te):PO X (some e) (yR te):=by
 intro pins s σ H Q I hw
 rw [evalPart_some]
 refine thn (h pins s σ H _ I hw) fun u s1 ⟨x,H1,I1,r1,q1⟩=>?_
 obtain ⟨i,rfl,q⟩:=q1
 obtain ⟨t,rfl⟩:=r1
 exact ⟨some i,H1,I1,.int i t,q⟩
def SlR (X:Cx) (r:V→Option Int→Option Int→Hp→VK→Prop):Prop :=
 ∀ (pins:List (Addr × Obj)) (s:Shared) (σ:St) (H:Hp) (x:V) (v vl vu:Value) (lo hi:Option Int) (sl:Addr) (Q:VK),Inv X pins σ H s→RelV x v→s.heap.IsSliceOf sl vl vu .none→IsPart vl lo→IsPart vu hi→r x lo hi H Q →
  ∃ T id,typeLookup (.type T) "__getitem__"=pure (some (.builtin id))∧s.TypeIs v T∧wpAny (model X.prog X.w) X.A (getItem v (.ref sl)) (EP X pins σ Q) X.xe s
def tSl (r:V→Option Int→Option Int→Hp→VK→Prop) (te:TE) (tl th:TO):TE:=fun σ H Q=>te σ H fun x H1=>tl σ H1 fun l H2=>th σ H2 fun u H3=>r x l u H3 Q
theorem yn {r:V→Option Int→Option Int→Hp→VK→Prop} (hr:SlR X r) (he:PE X e te) (hl:PO X lo tl) (hu:PO X hi th):PE X (.Subscript e (.Slice lo hi none p2) pos) (tSl r te tl th):=by
 intro pins s σ H Q I h
 refine nP (thn (he pins s σ H _ I h) fun v s1 ⟨x,H1,I1,r1,q1⟩=>?_)
 refine wpAny_Slice (thn (hl pins s1 σ H1 _ I1 q1) fun vl s2 ⟨l,H2,I2,pl,q2⟩=>thn (hu pins s2 σ H2 _ I2 q2) fun vu s3 ⟨u,H3,I3,pu,q3⟩=>?_)
 rw [nB]
 refine bj ?_
 have I4:Inv X pins σ H3 { s3 with heap:=s3.heap.push { cls:=.type "slice",data:=.fields #[vl,vu,.none] } }:=I3.kept (t':=s3.toks) fun b ob q=>bi _ q
 obtain ⟨T,id,hT,ht,hg⟩:=hr pins { s3 with heap:=s3.heap.push { cls:=.type "slice",data:=.fields #[vl,vu,.none] } } σ H3 x v vl vu l u s3.heap.objs.size Q I4 r1 (Heap.IsSliceOf.new ..) pl pu q3
 show wpAny (model X.prog X.w) X.A (subscriptTail e (.Slice lo hi none p2) v (.ref s3.heap.objs.size)) (EP X pins σ Q) X.xe { s3 with heap:=s3.heap.push { cls:=.type "slice",data:=.fields #[vl,vu,.none] } }
 exact tail_any (ops:=[.ref s3.heap.objs.size,v]) ht hT hg (by with_unfolding_all rfl)
def Yf (xs:List V) (lo hi:Option Int):List V:=(xs.drop (HT.sIx xs.length 0 lo)).take (HT.sIx xs.length xs.length hi - HT.sIx xs.length 0 lo)
theorem VP (xs:List V) (lo hi:Option Int):(Yf xs lo hi).length≤xs.length:=by
 unfold Yf
 rw [cM,cN]
 lia
end
def ixN (n:Nat) (i:Int):Option Nat:=if 0≤i then (if i < n then some i.toNat else none) else if -(n:Int)≤i then some (i + n).toNat else none
def atI {α:Type} (xs:List α) (i:Int):Option α:=(ixN xs.length i).bind fun j=>xs[j]?
theorem zcJ {n:Nat} {i:Int} {j:Nat} (h:ixN n i=some j):seqIndex? i n=some j∧j < n∧-(n:Int)≤i∧i < n:=by
 unfold ixN at h
 by_cases h0:0≤i
 ·rw [if_pos h0] at h
  by_cases h1:i < n
  ·rw [if_pos h1] at h
   have e:i.toNat=j:=cf h
   exact ⟨by rw [seqIndex_of h0 h1,e],by lia,by lia,h1⟩
  ·rw [if_neg h1] at h;cases h
 ·rw [if_neg h0] at h
  by_cases h1:-(n:Int)≤i
  ·rw [if_pos h1] at h
   have e:(i + n).toNat=j:=cf h
   exact ⟨by rw [seqIndex_neg (by lia) h1,e],by lia,h1,by lia⟩
  ·rw [if_neg h1] at h;cases h
theorem WR {α:Type} {xs:List α} {i:Int} {v:α} (h:atI xs i=some v):∃ j,seqIndex? i xs.length=some j∧xs[j]?=some v∧j < xs.length∧-(xs.length:Int)≤i∧i < xs.length:=by
 unfold atI at h
 cases e:ixN xs.length i with
 | none=>rw [e] at h;cases h
 | some j =>
  rw [e] at h
  obtain ⟨h1,h2,h3,h4⟩:=zcJ e
  exact ⟨j,h1,h,h2,h3,h4⟩
theorem jm {α:Type} {xs:List α} {j:Nat} {v:α} (h:xs[j]?=some v):atI xs (j:Int)=some v:=by
 have hj:j < xs.length:=(bC.mp h).1
 have e:ixN xs.length (j:Int)=some j:=by
  unfold ixN
  rw [if_pos (by lia),if_pos (by lia)];simp
 unfold atI;rw [e];exact h
def zcK (b:Expr):Prop:=∀ o i,subscripted b false o i=operate [o,i] (getItem o i)
def IxR (X:Cx) (r:R2):Prop :=
 ∀ (value slice:Expr) (pins:List (Addr × Obj)) (s:Shared) (σ:St) (H:Hp) (x y:V) (v u:Value) (Q:VK),Inv X pins σ H s→RelV x v→RelV y u→r x y H Q →
  subscripted slice false v u=operate [v,u] (getItem v u)→wpAny (model X.prog X.w) X.A (subscriptTail value slice v u) (EP X pins σ Q) X.xe s
def MtR (X:Cx) (id:String) (r:V→List V→Hp→VK→Prop):Prop :=
 ∀ (pins:List (Addr × Obj)) (s:Shared) (σ:St) (H:Hp) (x:V) (xs:List V) (v:Value) (us:List Value) (Q:VK),Inv X pins σ H s→RelV x v→Vals xs us→r x xs H Q →
  wpAny (model X.prog X.w) X.A (call (.builtin id) (v :: us)) (EP X pins σ Q) X.xe s
section
variable {X:Cx} {a b:Expr} {ta tb:TE} {pos:Pos}
theorem zP {r:R2} (hr:IxR X r) (ha:PE X a ta) (hb:PE X b tb) (hs:zcK b):PE X (.Subscript a b pos) (tOp r ta tb):=by
 intro pins s σ H Q I h
 exact nP (zeh ha hb I h fun v u s2 x y H2 I2 rx ry q=>hr a b pins s2 σ H2 x y v u Q I2 rx ry q (hs _ _))
def yV (K:bx):R2:=fun x y H Q=>∃ p xs i v,x=.ref p∧y=.int i∧SqL K H p xs∧atI xs i=some v∧Q v H
def zI (K:bx):R2:=fun x y H Q=>∃ p xs i v,x=.ref p∧y=.int i∧SqT K H p xs∧atI xs i=some v∧Q v H
def WS:R2:=fun x y H Q=>∃ z i c,x=.str z∧y=.int i∧z.length≤sizeLine∧atI z.cps.toList i=some c∧Q (.str ⟨#[c]⟩) H
theorem yh:IxR X (yV X.K):=by
 intro value slice pins s σ H x y v u Q I rx ry h hs
 obtain ⟨p,xs,i,z,rfl,rfl,hq,he,q⟩:=h
 cases rx
 obtain ⟨t,rfl⟩:=ry
 obtain ⟨its,r,pl,hz⟩:=I.list hq
 obtain ⟨j,h1,h2,h3,h4,h5⟩:=WR he
 obtain ⟨w,ew,rw'⟩:=r.get h2
 have hl:=r.length
 have hn:=WQ
 have fin:EP X pins σ Q w s:=⟨z,H,I,rw',q⟩
 by_cases h0:0≤i
 ·have hj:i.toNat=j:=by
   rw [seqIndex_of h0 h5] at h1
   exact cf h1
  exact item_listR pl.isList h0 (by lia) (by rw [hj];simpa using ew) fin hs
 ·have hj:(i + (its.toArray.size:Int)).toNat=j:=by
   rw [seqIndex_neg (by lia) h4] at h1
   rw [bM,← hl]
   exact cf h1
  exact ma (x:=w) pl.isList.typeIs slot_list_getitem.lookup
   (wpAny_getItem_list_neg (Q:=fun r s'=>r=w∧EP X pins σ Q r s') pl.isList (by lia) (by rw [bM] <;> lia) (by lia) (by rw [hj];simpa using ew) ⟨rfl,fin⟩) hs
theorem zZ:IxR X (zI X.K):=by
 intro value slice pins s σ H x y v u Q I rx ry h hs
 obtain ⟨p,xs,i,z,rfl,rfl,hq,he,q⟩:=h
 cases rx
 obtain ⟨t,rfl⟩:=ry
 obtain ⟨its,r,pl,hz⟩:=I.tuple hq
 obtain ⟨j,h1,h2,h3,h4,h5⟩:=WR he
 obtain ⟨w,ew,rw'⟩:=r.get h2
 have hl:=r.length
 have hn:=WQ
 have fin:EP X pins σ Q w s:=⟨z,H,I,rw',q⟩
 exact ma (x:=w) pl.typeIs slot_tuple_getitem.lookup
  (getItem_tuple (j:=j) (Q:=fun r s'=>r=w∧EP X pins σ Q r s') pl (by lia) (by lia) (by rw [bM,← hl];exact h1) (by simpa using ew) ⟨rfl,fin⟩) hs
theorem YI:IxR X WS:=by
 intro value slice pins s σ H x y v u Q I rx ry h hs
 obtain ⟨z,i,c,rfl,rfl,hz,he,q⟩:=h
 obtain ⟨t,rfl⟩:=rx
 obtain ⟨t',rfl⟩:=ry
 obtain ⟨j,h1,h2,h3,h4,h5⟩:=WR he
 have hl:z.cps.toList.length=z.length:=by simp [gj]
 rw [hl] at h1 h4 h5
 have hn:=WQ
 exact tail_any (nQ s z t) slot_str_getitem.lookup (getItem_str (c:=c) (by
  have e1:decide (i < -(2 ^ 63:Int))=false:=decide_eq_false (by lia)
  have e2:decide (i ≥ 2 ^ 63)=false:=decide_eq_false (by lia)
  rw [e1,e2,Bool.or_false]) (by rw [h1];simpa using h2) ⟨.str ⟨#[c]⟩,H,I.tok _,⟨_,rfl⟩,q⟩) hs
theorem WT (lo hi:Option Int) (n:Nat):(sliceBounds lo hi none n).1=((HT.sIx n 0 lo:Nat):Int)∧(sliceBounds lo hi none n).2.1=((HT.sIx n n hi:Nat):Int)∧(sliceBounds lo hi none n).2.2=1:=by
 refine ⟨?_,?_,rfl⟩
 ·cases lo with
  | none=>simp [sliceBounds,HT.sIx]
  | some i =>
   simp only [sliceBounds,HT.sIx,oq,show (1:Int) > 0 by decide,if_true]
   by_cases h:i < 0
   ·simp only [h,if_true] <;> lia
   ·simp only [h,if_false] <;> lia
 ·cases hi with
  | none=>simp [sliceBounds,HT.sIx]
  | some i =>
   simp only [sliceBounds,HT.sIx,oq,show (1:Int) > 0 by decide,if_true]
   by_cases h:i < 0
   ·simp only [h,if_true] <;> lia
   ·simp only [h,if_false] <;> lia
theorem XE (its:List Value) (lo hi:Option Int):slicePick its.toArray lo hi none=((its.drop (HT.sIx its.length 0 lo)).take (HT.sIx its.length its.length hi - HT.sIx its.length 0 lo)).toArray:=by
 obtain ⟨h1,h2,h3⟩:=WT lo hi its.toArray.size
 unfold slicePick
 rw [h1,h2,h3]
 simp only [sliceRange_one,pick_run,bM] <;> rfl
def jn (K:bx):V→Option Int→Option Int→Hp→VK→Prop:=fun x lo hi H Q=>∃ a xs,x=.ref a∧SqL K H a xs∧∀ p,H p=none→Q (.ref p) (upd H p (.lst (Yf xs lo hi)))
theorem xo:SlR X (jn X.K):=by
 intro pins s σ H x v vl vu lo hi sl Q I rx hs pl pu h
 obtain ⟨a,xs,rfl,hx,q⟩:=h
 cases rx
 obtain ⟨its,r,ht,hz⟩:=I.list hx
 have hlen:=r.length
 refine ⟨"list",_,slot_list_getitem.lookup,ht.isList.typeIs,?_⟩
 refine wpAny_getItem_list_slice ht.isList hs pl pu .none (by simp) ?_ (by rw [bM] <;> lia)
 rw [XE,← hlen]
 refine ⟨.ref s.heap.objs.size,_,I.laid (t':=s.toks) (o:=.lst (Yf xs lo hi)) (fun b ob q=>bi _ q) (bo _) ?_,rfl,q _ (I.hok.fresh (bo _))⟩
 exact ⟨bU (VP xs lo hi) hz,_,0,(r.drop (HT.sIx xs.length 0 lo)).take (HT.sIx xs.length xs.length hi - HT.sIx xs.length 0 lo),bD _ rfl⟩
def Ze:V→Bool
 | .non=>true
 | .bl _=>true
 | .int _=>true
 | .str _=>true
 | _=>false
def eqV:V→V→Bool
 | .non,.non=>true
 | .bl a,.bl b=>a == b
 | .bl a,.int b=>(if a then 1 else 0) == b
 | .int a,.bl b=>a == (if b then 1 else 0)
 | .int a,.int b=>a == b
 | .str a,.str b=>a == b
 | _,_=>false
theorem zej {A:Around} {s:Shared} {y x:V} {u v:Value} (ry:RelV y u) (rx:RelV x v) (fy:Ze y=true) (fx:Ze x=true):SeqAt.EqAt A s u v (eqV y x):=by
 cases y with
 | non =>
  cases ry
  cases x with
  | non=>cases rx;exact SeqAt.EqAt.same _
  | bl b=>cases rx;exact SeqAt.EqAt.none_bool b
  | int b=>obtain ⟨t,rfl⟩:=rx;exact SeqAt.EqAt.none_int b t
  | str b=>obtain ⟨t,rfl⟩:=rx;exact SeqAt.EqAt.none_str b t
  | _=>exact absurd (show false=true from fx) bK
 | bl a =>
  cases ry
  cases x with
  | non=>cases rx;exact SeqAt.EqAt.bool_none a
  | bl b=>cases rx;exact SeqAt.EqAt.bool_bool a b
  | int b=>obtain ⟨t,rfl⟩:=rx;exact SeqAt.EqAt.bool_int a b t
  | str b=>obtain ⟨t,rfl⟩:=rx;exact SeqAt.EqAt.bool_str a b t
  | _=>exact absurd (show false=true from fx) bK
 | int a =>
  obtain ⟨t',rfl⟩:=ry
  cases x with
  | non=>cases rx;exact SeqAt.EqAt.int_none a t'
  | bl b=>cases rx;exact SeqAt.EqAt.int_bool a t' b
  | int b=>obtain ⟨t,rfl⟩:=rx;exact iX a t' b t
  | str b=>obtain ⟨t,rfl⟩:=rx;exact nv a t' b t
  | _=>exact absurd (show false=true from fx) bK
 | str a =>
  obtain ⟨t',rfl⟩:=ry
  cases x with
  | non=>cases rx;exact SeqAt.EqAt.str_none a t'
  | bl b=>cases rx;exact SeqAt.EqAt.str_bool a t' b
  | int b=>obtain ⟨t,rfl⟩:=rx;exact nz a t' b t
  | str b=>obtain ⟨t,rfl⟩:=rx;exact iY a t' b t
  | _=>exact absurd (show false=true from fx) bK
 | _=>exact absurd (show false=true from fy) bK
def eqU (x:V) (u:Value):Bool:=match u with
 | .none=>eqV .non x
 | .bool b=>eqV (.bl b) x
 | .int i _=>eqV (.int i) x
 | .str z _=>eqV (.str z) x
 | _=>false
theorem zaO {x y:V} {u:Value} (r:RelV y u) (f:Ze y=true):eqU x u=eqV y x:=by
 cases y with
 | non=>cases r;rfl
 | bl b=>cases r;rfl
 | int i=>obtain ⟨t,rfl⟩:=r;rfl
 | str z=>obtain ⟨t,rfl⟩:=r;rfl
 | _=>exact absurd (show false=true from f) bK
theorem WU {x:V}:∀ {xs:List V} {us:List Value},Vals xs us→xs.all Ze=true→us.any (eqU x)=xs.any fun y=>eqV y x
 | _,_,.nil,_=>rfl
 | y :: xs,u :: us,.cons r t,f=>by
  rw [fO,bX] at f
  rw [ir,ir,zaO r f.1,WU t f.2]
theorem YJ {A:Around} {s:Shared} {x:V} {v:Value} (rx:RelV x v) (fx:Ze x=true):∀ {xs:List V} {us:List Value},Vals xs us→xs.all Ze=true→∀ u∈us,SeqAt.EqAt A s u v (eqU x u)
 | _,_,.nil,_=>fun u hu=>by cases hu
 | y :: xs,u :: us,.cons r t,f=>fun u' hu=>by
  rw [fO,bX] at f
  rcases bR.mp hu with rfl | hu
  ·rw [zaO r f.1];exact zej r rx f.1 fx
  ·exact YJ rx fx t f.2 u' hu
def inV (x:V) (xs:List V):Bool:=xs.any fun y=>eqV y x
def rIn (K:bx) (neg:Bool):R2:=fun x y H Q=>∃ p xs,y=.ref p∧(SqL K H p xs∨SqT K H p xs)∧Ze x=true∧xs.all Ze=true∧Q (.bl (if neg then !inV x xs else inV x xs)) H
theorem QY:OpR X (compareOp .In) (rIn X.K false):=by
 intro pins s σ H x y v u Q I rx ry h
 obtain ⟨p,xs,rfl,hq,fx,fs,q⟩:=h
 cases ry
 rcases hq with hq | hq
 ·obtain ⟨its,r,pl,hz⟩:=I.list hq
  refine SeqAt.in_listAt (eqU x) pl.isList (fun w hw=>YJ rx fx r fs w (by simpa using hw)) ⟨.bl _,H,I,rfl,?_⟩
  rw [show its.toArray.any (eqU x)=its.any (eqU x) by simp,WU r fs]
  exact q
 ·obtain ⟨its,r,pl,hz⟩:=I.tuple hq
  refine SeqAt.in_tupleAt (eqU x) pl (fun w hw=>YJ rx fx r fs w (by simpa using hw)) ⟨.bl _,H,I,rfl,?_⟩
  rw [show its.toArray.any (eqU x)=its.any (eqU x) by simp,WU r fs]
  exact q
theorem yD:wR X (.type "list") (fun xs H Q=>∃ p ys,xs=[.ref p]∧(SqL X.K H p ys∨SqT X.K H p ys)∧∀ l,H l=none→Q (.ref l) (upd H l (.lst ys))):=by
 intro pins s σ H xs us Q I r h
 obtain ⟨p,ys,rfl,hq,q⟩:=h
 obtain ⟨u,rfl,rx⟩:=Za r
 cases rx
 have fin:∀ (its:List Value),Vals ys its→ys.length≤sizeLine→∀ (h':Heap) (c':Nat),(∀ b o',s.heap.get? b=some o'→h'.get? b=some o') →
   h'.get? s.heap.objs.size=some { cls:=.type "list",dict:=none,data:=.seq its.toArray c',slots:=#[] }→EP X pins σ Q (.ref s.heap.objs.size) { s with heap:=h' }:=fun its r' hz h' c' kp e =>
  ⟨.ref s.heap.objs.size,_,I.laid (t':=s.toks) kp (bo _) (show ObjOk X.prog X.w _ h' _ (.lst ys) from ⟨hz,its,c',r',e⟩),rfl,q _ (I.hok.fresh (bo _))⟩
 rcases hq with hq | hq
 ·obtain ⟨its,r',pl,hz⟩:=I.list hq
  have hlen:=r'.length
  obtain ⟨o,ho,hc,n,hd⟩:=pl.isList
  exact call_list_seq p (.inl rfl) ho hc hd (fun h' c' kp e=>fin its r' hz h' c' kp e) (by simp only [bM] <;> lia)
 ·obtain ⟨its,r',pl,hz⟩:=I.tuple hq
  have hlen:=r'.length
  obtain ⟨o,ho,hc,n,hd⟩:=pl
  exact call_list_seq p (.inr rfl) ho hc hd (fun h' c' kp e=>fin its r' hz h' c' kp e) (by simp only [bM] <;> lia)
theorem XG:wR X (.type "tuple") (fun xs H Q=>∃ p ys,xs=[.ref p]∧((SqL X.K H p ys∧∀ l,H l=none→Q (.ref l) (upd H l (.tup ys)))∨(SqT X.K H p ys∧Q (.ref p) H))):=by
 intro pins s σ H xs us Q I r h
 obtain ⟨p,ys,rfl,h⟩:=h
 obtain ⟨u,rfl,rx⟩:=Za r
 cases rx
 rcases h with ⟨hq,q⟩ | ⟨hq,q⟩
 ·obtain ⟨its,r',pl,hz⟩:=I.list hq
  have hlen:=r'.length
  refine call_tuple_list pl.isList (fun h' kp=>?_) (by simp only [bM] <;> lia)
  have I1:Inv X pins σ H { s with heap:=h' }:=I.kept (t':=s.toks) kp
  have I2:Inv X pins σ (upd H h'.objs.size (.tup ys)) { s with heap:=h'.push { cls:=.type "tuple",data:=.seq its.toArray } } :=
   I1.laid (t':=s.toks) (fun b o e=>bi _ e) (bo _) (show ObjOk X.prog X.w _ _ _ (.tup ys) from ⟨hz,its,r',IsTup.new _ _⟩)
  exact ⟨.ref h'.objs.size,_,I2,rfl,q _ (I1.hok.fresh (bo _))⟩
 ·obtain ⟨its,r',pl,hz⟩:=I.tuple hq
  exact call_tuple_same pl ⟨.ref p,H,I,rfl,q⟩
def tyV (K:bx) (T:String) (x:V) (H:Hp):Prop:=match x with
 | .str _=>T="str"
 | .int _=>T="int"
 | .ref p=>(T="list"∧∃ xs,SqL K H p xs)∨(T="tuple"∧∃ o,K.lookup p=some o∧o.cls=.type "tuple"∧o.dict=none) ∨
   (T="dict"∧((∃ kvs,H p=some (.dK kvs))∨∃ kvs,H p=some (.dT kvs)))∨(T="set"∧∃ S n,H p=some (.set S n))
 | _=>False
theorem zaP {pins:List (Addr × Obj)} {σ:St} {H:Hp} {s:Shared} {T:String} {x:V} {v:Value} (I:Inv X pins σ H s) (r:RelV x v) (ty:tyV X.K T x H) :
  s.TypeIs v T∧∀ a,v=.ref a→∃ ob,s.heap.get? a=some ob∧ob.dict=none:=by
 cases x with
 | str z =>
  obtain ⟨t,rfl⟩:=r
  cases (show T="str" from ty)
  exact ⟨nQ s z t,fun _ e=>nomatch e⟩
 | int i =>
  obtain ⟨t,rfl⟩:=r
  cases (show T="int" from ty)
  exact ⟨typeIs_int s i t,fun _ e=>nomatch e⟩
 | ref p =>
  cases r
  rcases ty with ⟨rfl,xs,hq⟩ | ⟨rfl,o,hk,hc,hd⟩ | ⟨rfl,hk⟩ | ⟨rfl,S,n,hk⟩
  ·obtain ⟨its,_,pl,_⟩:=I.list hq
   refine ⟨pl.isList.typeIs,fun a e=>?_⟩
   cases e
   obtain ⟨o,n,e,c,hd,_⟩:=pl
   exact ⟨o,e,hd⟩
  ·refine ⟨⟨o,I.kIn p o hk,hc⟩,fun a e=>?_⟩
   cases e
   exact ⟨o,I.kIn _ o hk,hd⟩
  ·have z:∃ o,s.heap.get? p=some o∧o.ExactDict:=by
    rcases hk with ⟨kvs,hk⟩ | ⟨kvs,hk⟩
    ·obtain ⟨_,_,_,_,o,_,_,e,ex,_⟩:=I.hok p _ hk
     exact ⟨o,e,ex⟩
    ·obtain ⟨_,_,_,_,o,_,_,e,ex,_⟩:=I.hok p _ hk
     exact ⟨o,e,ex⟩
   obtain ⟨o,e,ex⟩:=z
   refine ⟨⟨o,e,ex.1⟩,fun a e2=>?_⟩
   cases e2
   exact ⟨o,e,ex.2.1⟩
  ·obtain ⟨o,_,_,_,e,ex,_⟩:=I.hok p _ hk
   refine ⟨⟨o,e,ex.1⟩,fun a e2=>?_⟩
   cases e2
   exact ⟨o,e,ex.2.1⟩
 | _=>exact cH ty
def QZ (K:bx) (T:String) (r:V→List V→Hp→VK→Prop) (to:TE):TE:=fun σ H Q=>to σ H fun x H1=>tyV K T x H1∧r x [] H1 Q
def tBM (K:bx) (T:String) (r:V→List V→Hp→VK→Prop) (to:TE) (t:TA):TE:=fun σ H Q=>to σ H fun x H1=>tyV K T x H1∧t σ H1 fun xs H2=>r x xs H2 Q
variable {o e:Expr} {es:List Expr} {to:TE} {t:TA} {name:Str} {apos cpos:Pos} {T id:String} {r:V→List V→Hp→VK→Prop}
theorem J7 (pa:PlainAttrs T) (slot:Slot T name id) (hty:typeOf (.builtin id)=pure (.type "method_descriptor")) (hm:MtR X id r) (ho:PE X o to)
  (hbase:attributeBase o name X.env (eval o X.env)=eval o X.env:=by rfl) (hline:(apos.endLine == cpos.line)=true:=by rfl):PE X (.Call (.Attribute o name apos) [] [] cpos) (QZ X.K T r to):=by
 intro pins s σ H Q I h
 refine gu hbase hline (thn (ho pins s σ H _ I h) fun v s1 ⟨x,H1,I1,r1,ty,q1⟩=>?_)
 obtain ⟨h1,h2⟩:=zaP I1 r1 ty
 exact ⟨T,id,pa,slot,hty,h1,h2,eD rfl (iE (hm pins s1 σ H1 x [] v [] Q I1 r1 .nil q1))⟩
theorem Z6 (pa:PlainAttrs T) (slot:Slot T name id) (hty:typeOf (.builtin id)=pure (.type "method_descriptor")) (hm:MtR X id r) (ho:PE X o to) (ha:PA X (e :: es) t)
  (hbase:attributeBase o name X.env (eval o X.env)=eval o X.env:=by rfl)
  (hfew:((backTo cpos (starEach (e :: es) X.env)).all (fun x=>!x.1) && (backToKw cpos (keywordEach [] X.env)).all (fun x=>x.1.isSome)
   && decide ((e :: es).length + ([]:List Keyword).length + (if ([]:List Keyword).isEmpty then 0 else 1) < 30))=true:=by rfl)
  (hline:(apos.endLine == cpos.line)=true:=by rfl) (hs:starEach (e :: es) X.env=(false,eval e X.env) :: starEach es X.env:=by rfl) (hplain:(backTo cpos (starEach es X.env)).any (·.1)=false:=by rfl) :
  PE X (.Call (.Attribute o name apos) (e :: es) [] cpos) (tBM X.K T r to t):=by
 intro pins s σ H Q I h
 refine wpAny_Call_method_late hbase hfew hline rfl (thn (ho pins s σ H _ I h) fun v s1 ⟨x,H1,I1,r1,ty,q1⟩=>?_)
 obtain ⟨h1,h2⟩:=zaP I1 r1 ty
 refine ⟨T,id,pa,slot,hty,h1,h2,?_⟩
 have hA:=ha cpos pins s1 σ H1 _ I1 q1
 rw [hs] at hA ⊢
 refine eD (by show (false || (backTo cpos (starEach es X.env)).any (·.1))=false;rw [hplain] <;> rfl) (ip ?_)
 exact thn hA fun us s2 ⟨vs,H2,I2,r2,q2⟩=>hm pins s2 σ H2 x vs v us Q I2 r1 r2 q2
end
def MtM (X:Cx) (id:String) (r:V→List V→Hp→VK→Prop):Prop :=
 ∀ (pins:List (Addr × Obj)) (s:Shared) (σ:St) (H:Hp) (x:V) (xs:List V) (v:Value) (us:List Value) (Q:VK),Inv X pins σ H s→RelV x v→Vals xs us→r x xs H Q →
  wpAny (model X.prog X.w) X.A (call (.builtin id) (v :: us)) (EP X pins σ Q) X.xe s
theorem Vals.one:∀ {x:V} {us:List Value},Vals [x] us→∃ u,us=[u]∧RelV x u
 | _,_,.cons r .nil=>⟨_,rfl,r⟩
theorem Vals.zero:∀ {us:List Value},Vals [] us→us=[]
 | _,.nil=>rfl
theorem Vals.dropLast {xs:List V} {us:List Value} (h:Vals xs us):Vals xs.dropLast us.dropLast:=by
 induction h with
 | nil=>exact .nil
 | cons r t ih =>
  cases t with
  | nil=>exact .nil
  | cons q t'=>exact .cons r ih
theorem J8 {α:Type} (l:List α):l.eraseIdx (l.length - 1)=l.dropLast:=by
 induction l with
 | nil=>rfl
 | cons a r ih =>
  cases r with
  | nil=>rfl
  | cons b r =>
   have e:(a :: b :: r).length - 1=((b :: r).length - 1) + 1:=by
    have h1:(a :: b :: r).length=r.length + 2:=rfl
    have h2:(b :: r).length=r.length + 1:=rfl
    lia
   rw [e,List.eraseIdx_cons_succ,ih]
   all_goals rfl
section
variable {X:Cx} {pins:List (Addr × Obj)} {σ:St} {H:Hp} {s:Shared} {l b:Addr} {xs ys zs:List V}
theorem Inv.lset {its its':List Value} {n:Nat} {f:Array Value→Array Value} {t':Nat} (I:Inv X pins σ H s) (hH:H l=some (.lst xs))
  (e:s.heap.get? l=some { cls:=.type "list",data:=.seq its.toArray n }) (hf:f its.toArray=its'.toArray) (hv:Vals ys its') (hz:ys.length≤sizeLine) :
  Inv X pins σ (upd H l (.lst ys)) { s with heap:=s.heap.update l (cE f),toks:=t' }:=by
 have q:=PySem.IsL.update e f
 rw [hf] at q
 refine I.write (x:=l) (e:=l) (by rw [hH];exact trivial) (.inl rfl) (fun b' u hb hu=>(cV s.heap (cE f) (cK hb)).trans hu) ⟨_,q⟩ ?_
 exact ⟨hz,its',_,hv,q⟩
theorem Inv.lnew {its:List Value} {t':Nat} (I:Inv X pins σ H s) (hv:Vals ys its) (hz:ys.length≤sizeLine) :
  Inv X pins σ (upd H s.heap.objs.size (.lst ys)) { s with heap:=s.heap.push { cls:=.type "list",data:=.seq its.toArray },toks:=t' } :=
 I.laid (fun _ _ q=>bi _ q) (bo _) ⟨hz,its,0,hv,bD _ rfl⟩
theorem Inv.fresh (I:Inv X pins σ H s):H s.heap.objs.size=none:=I.hok.fresh (bo _)
theorem Inv.lstM (I:Inv X pins σ H s) (hH:H l=some (.lst xs)):xs.length≤sizeLine∧∃ (its:List Value) (n:Nat),Vals xs its∧xs.length=its.length∧s.heap.get? l=some { cls:=.type "list",data:=.seq its.toArray n }:=by
 obtain ⟨z,its,n,r,e⟩:=I.hok l _ hH
 exact ⟨z,its,n,r,r.length,e⟩
theorem zaQ {n:Nat} (h:n≤sizeLine):gk n=false:=by
 unfold gk
 exact decide_eq_false (by lia)
end
section
variable {X:Cx}
def vh:V→List V→Hp→VK→Prop:=fun x vs H Q=>∃ l xs y,x=.ref l∧vs=[y]∧H l=some (.lst xs)∧xs.length < sizeLine∧Q .non (upd H l (.lst (xs ++ [y])))
theorem xQ:MtM X "list.append" vh:=by
 intro pins s σ H x vs v us Q I rx rv h
 obtain ⟨l,xs,y,rfl,rfl,hH,hz,q⟩:=h
 cases rx
 obtain ⟨u,rfl,ru⟩:=rv.one
 obtain ⟨z,its,n,r,hl,e⟩:=I.lstM hH
 refine lB F.slot_list_append ⟨_,e,rfl⟩ F.entry_list_append (F.args_list_append_2 _ _) (PySem.list_append l its.toArray n u (by rw [bM];lia)) ⟨e,?_⟩
 refine ⟨.non,_,I.lset (its':=its ++ [u]) hH e (by simp) (r.append (.cons ru .nil)) ?_,rfl,q⟩
 rw [bz,cD]
 lia
def WV:V→List V→Hp→VK→Prop:=fun x vs H Q=>∃ l b xs zs,x=.ref l∧vs=[.ref b]∧H l=some (.lst xs)∧H b=some (.lst zs)∧xs.length + zs.length≤sizeLine∧Q .non (upd H l (.lst (xs ++ zs)))
theorem Q0:MtM X "list.extend" WV:=by
 intro pins s σ H x vs v us Q I rx rv h
 obtain ⟨l,b,xs,zs,rfl,rfl,hH,hB,hz,q⟩:=h
 cases rx
 obtain ⟨u,rfl,ru⟩:=rv.one
 cases ru
 obtain ⟨z,its,n,r,hl,e⟩:=I.lstM hH
 obtain ⟨z2,its2,n2,r2,hl2,e2⟩:=I.lstM hB
 have hsz:its.toArray.size + its2.toArray.size≤sizeLine:=by rw [bM,bM];lia
 have hlong:¬ (!its.toArray.isEmpty && gk (its.toArray.size + its2.toArray.size))=true:=by
  rw [zaQ hsz,Bool.and_false]
  exact bK
 refine lB F.slot_list_extend ⟨_,e,rfl⟩ F.entry_list_extend (F.args_list_extend_2 _ _)
  (AutoSeq1.list_extend_list_list_0 l its.toArray n b its2.toArray n2 hlong (by rw [bM];lia) (by lia)) ⟨e,e2,?_⟩
 refine ⟨.non,_,I.lset (its':=its ++ its2) hH e (by simp) (r.append r2) ?_,rfl,q⟩
 rw [bz]
 lia
def zcL:V→List V→Hp→VK→Prop:=fun x vs H Q=>∃ l xs y,x=.ref l∧vs=[]∧H l=some (.lst xs)∧xs[xs.length - 1]?=some y∧Q y (upd H l (.lst xs.dropLast))
theorem J9:MtM X "list.pop" zcL:=by
 intro pins s σ H x vs v us Q I rx rv h
 obtain ⟨l,xs,y,rfl,rfl,hH,hy,q⟩:=h
 cases rx
 have hus:=rv.zero
 subst hus
 obtain ⟨z,its,n,r,hl,e⟩:=I.lstM hH
 obtain ⟨u,hu,ru⟩:=r.get hy
 have hy':its.toArray[its.toArray.size - 1]?=some u:=by
  show its.toArray[its.length - 1]?=some u
  rw [← dq,← hl]
  exact hu
 refine lB F.slot_list_pop ⟨_,e,rfl⟩ F.entry_list_pop (F.args_list_pop_1 _) (MeetsSeq.list_pop_last l its.toArray n u hy' (by rw [bM];lia)) ⟨e,?_⟩
 refine ⟨y,_,I.lset (its':=its.dropLast) hH e ?_ r.dropLast ?_,ru,q⟩
 ·show its.toArray.eraseIdxIfInBounds (its.toArray.size - 1)=its.dropLast.toArray
  rw [bM,List.eraseIdxIfInBounds_toArray,J8]
 ·rw [List.length_dropLast]
  lia
def xR:R2:=fun x y H Q=>∃ l b xs zs,x=.ref l∧y=.ref b∧H l=some (.lst xs)∧H b=some (.lst zs)∧xs.length + zs.length≤sizeLine∧∀ p,H p=none→Q (.ref p) (upd H p (.lst (xs ++ zs)))
theorem xC:OpR X (binaryOp .Add) xR:=by
 intro pins s σ H x y v u Q I rx ry h
 obtain ⟨l,b,xs,zs,rfl,rfl,hH,hB,hz,q⟩:=h
 cases rx
 cases ry
 obtain ⟨z,its,n,r,hl,e⟩:=I.lstM hH
 obtain ⟨z2,its2,n2,r2,hl2,e2⟩:=I.lstM hB
 refine PySem.P.add_list e e2 ?_ (by rw [bM,bM];lia)
 have ea:its.toArray ++ its2.toArray=(its ++ its2).toArray:=by simp
 rw [ea]
 exact ⟨.ref _,_,I.lnew (t':=s.toks) (r.append r2) (by rw [bz];lia),rfl,q _ I.fresh⟩
end
section
variable {prog:Program} {w:World} {A:Around} {E:Value→Shared→Prop} {s:Shared}
set_option maxRecDepth 100000 in
end
section
variable {κ:Type} [DecidableEq κ]
def yL (kvs:List (κ × V)) (k:κ):Option V:=(kvs.find? fun kv=>decide (kv.1=k)).map (·.2)
def yT (kvs:List (κ × V)) (k:κ) (v:V):List (κ × V) :=
 if (kvs.any fun kv=>decide (kv.1=k))=true then kvs.map (fun kv=>if kv.1=k then (kv.1,v) else kv) else kvs ++ [(k,v)]
def K3 (kvs:List (κ × V)) (k:κ):List (κ × V):=kvs.filter fun kv=>decide (kv.1≠k)
theorem zaR {k:κ}:yL ([]:List (κ × V)) k=none:=rfl
theorem yW {p:κ × V} {r:List (κ × V)} {k:κ} (e:p.1=k):yL (p :: r) k=some p.2:=by simp [yL,fF,e]
theorem yX {p:κ × V} {r:List (κ × V)} {k:κ} (e:¬ p.1=k):yL (p :: r) k=yL r k:=by simp [yL,fF,e]
theorem wd (k:κ):∀ kvs:List (κ × V),(kvs.any fun kv=>decide (kv.1=k))=(yL kvs k).isSome
 | []=>rfl
 | p :: r=>by
  rw [ir]
  by_cases e:p.1=k
  ·simp only [yW e,decide_eq_true e,Bool.true_or,Option.isSome_some]
  ·rw [yX e,decide_eq_false e,Bool.false_or];exact wd k r
theorem VQ (k j:κ) (y:V):∀ kvs:List (κ × V),yL (kvs.map fun kv=>if kv.1=k then (kv.1,y) else kv) j=(yL kvs j).map fun x=>if j=k then y else x
 | []=>rfl
 | p :: r=>by
  have ih:=VQ k j y r
  rw [bW]
  by_cases h:p.1=k
  ·rw [if_pos h]
   by_cases e:p.1=j
   ·rw [yW (p:=(p.1,y)) e,yW e,iF,if_pos (e.symm.trans h)]
   ·rw [yX (p:=(p.1,y)) e,yX e,ih]
  ·rw [if_neg h]
   by_cases e:p.1=j
   ·rw [yW (p:=p) e,yW e,iF,if_neg (fun z=>h (e.trans z))]
   ·rw [yX (p:=p) e,yX e,ih]
theorem Wd (k j:κ) (y:V):∀ kvs:List (κ × V),yL kvs k=none→yL (kvs ++ [(k,y)]) j=if j=k then some y else yL kvs j
 | [],_=>by
  by_cases e:k=j
  ·rw [if_pos e.symm];exact yW (p:=(k,y)) e
  ·rw [if_neg (fun z=>e z.symm)];exact yX (p:=(k,y)) e
 | p :: r,hn=>by
  rw [bI]
  have hk:¬ p.1=k:=fun z=>by rw [yW z] at hn;cases hn
  rw [yX hk] at hn
  have ih:=Wd k j y r hn
  by_cases e:p.1=j
  ·rw [yW e,yW e,if_neg (fun z=>hk (e.trans z))]
  ·rw [yX e,yX e,ih]
theorem v3 (kvs:List (κ × V)) (k j:κ) (y:V):yL (yT kvs k y) j=if j=k then some y else yL kvs j:=by
 unfold yT
 by_cases a:(kvs.any fun kv=>decide (kv.1=k))=true
 ·rw [if_pos a,VQ]
  rw [wd] at a
  by_cases e:j=k
  ·obtain ⟨x,hx⟩:=c6.mp a
   rw [if_pos e,e,hx,iF,if_pos rfl]
  ·rw [if_neg e]
   cases yL kvs j with
   | none=>rfl
   | some x=>rw [iF,if_neg e]
 ·rw [if_neg a]
  refine Wd k j y kvs ?_
  rw [wd] at a
  cases q:yL kvs k with
  | none=>rfl
  | some x=>rw [q] at a;exact (a rfl).elim
theorem we (kvs:List (κ × V)) (k:κ) (v:V):(yT kvs k v).length≤kvs.length + 1:=by
 unfold yT
 split
 ·rw [bt];lia
 ·rw [bz,cB,oH];lia
theorem YK {kvs:List (κ × V)} {k:κ} (v:V) (h:yL kvs k=none):yT kvs k v=kvs ++ [(k,v)]:=by
 unfold yT
 rw [wd,h]
 exact if_neg (by decide)
theorem RelO.isSome_eq {o:Option V} {u:Option Value} (r:RelO o u):o.isSome=u.isSome:=by
 cases o with
 | none=>cases u with
  | none=>rfl
  | some _=>exact (show False from r).elim
 | some _=>cases u with
  | none=>exact (show False from r).elim
  | some _=>rfl
theorem RelO.getD {o:Option V} {u:Option Value} {d:V} {d':Value} (r:RelO o u) (rd:RelV d d'):RelV (o.getD d) (u.getD d'):=by
 cases o with
 | none=>cases u with
  | none=>exact rd
  | some _=>exact (show False from r).elim
 | some _=>cases u with
  | none=>exact (show False from r).elim
  | some _=>exact r
theorem KV.val {kvs:List (κ × V)} {vs:List (κ × Value)} (r:KV kvs vs) (k:κ):RelO (yL kvs k) (valueAt vs k):=by
 unfold KV at r
 induction r with
 | nil=>exact dA
 | @cons p q ps qs h t ih =>
  obtain ⟨h1,h2⟩:=h
  by_cases e:p.1=k
  ·have e':q.1=k:=h1.symm.trans e
   have b:valueAt (q :: qs) k=some q.2:=by simp [valueAt,fF,e']
   rw [yW e,b];exact h2
  ·have e':¬ q.1=k:=fun z=>e (h1.trans z)
   have b:valueAt (q :: qs) k=valueAt qs k:=by simp [valueAt,fF,e']
   rw [yX e,b];exact ih
theorem KV.any {kvs:List (κ × V)} {vs:List (κ × Value)} (r:KV kvs vs) (k:κ):(kvs.any fun kv=>decide (kv.1=k))=vs.any fun kv=>decide (kv.1=k):=by
 unfold KV at r
 induction r with
 | nil=>rfl
 | cons h t ih=>rw [ir,ir,ih,h.1]
theorem KV.repl {kvs:List (κ × V)} {vs:List (κ × Value)} (r:KV kvs vs) (k:κ) {y:V} {u:Value} (ry:RelV y u) :
  KV (kvs.map fun kv=>if kv.1=k then (kv.1,y) else kv) (vs.map fun kv=>if kv.1=k then (kv.1,u) else kv):=by
 unfold KV at r ⊢
 induction r with
 | nil=>exact .nil
 | @cons p q ps qs h t ih =>
  rw [bW,bW]
  refine .cons ?_ ih
  obtain ⟨h1,h2⟩:=h
  by_cases e:p.1=k
  ·rw [if_pos e,if_pos (h1.symm.trans e)];exact ⟨h1,ry⟩
  ·rw [if_neg e,if_neg (fun z=>e (h1.trans z))];exact ⟨h1,h2⟩
theorem KV.put {kvs:List (κ × V)} {vs:List (κ × Value)} (r:KV kvs vs) (k:κ) {y:V} {u:Value} (ry:RelV y u):KV (yT kvs k y) (stored vs k u):=by
 unfold yT stored
 rw [r.any k]
 by_cases e:(vs.any fun kv=>decide (kv.1=k))=true
 ·rw [if_pos e,if_pos e];exact r.repl k ry
 ·rw [if_neg e,if_neg e];exact Paired.snoc r ⟨rfl,ry⟩
theorem KV.length {kvs:List (κ × V)} {vs:List (κ × Value)} (r:KV kvs vs):kvs.length=vs.length:=b5 r
end
theorem We {P:Program} {w:World} {k:Key} {u:Value} (r:RelV (kV k) u):(yz P w).is k u=true:=by
 cases k with
 | inl i=>obtain ⟨t,e⟩:=(show ∃ t,u=fj i t from r);subst e;exact VI P w i t
 | inr x=>obtain ⟨t,e⟩:=(show ∃ t,u=gR x t from r);subst e;exact VJ P w x t
theorem ZA {P:Program} {w:World}:∀ {ks:List Key} {us:List Value},Vals (ks.map kV) us→ItemsAre (yz P w) ks us
 | [],_,r=>by rw [List.map_nil] at r;cases r;exact .nil
 | k :: ks,_,r=>by
  rw [bW] at r
  cases r with
  | cons h t=>exact .cons (We h) (ZA t)
abbrev KT (H:Hp):List (List Key × V)→List (List Key × Addr × Value)→Prop:=Paired fun p q=>p.1=q.1∧H q.2.1=some (.tup (p.1.map kV))∧RelV p.2 q.2.2
theorem KT.val {H:Hp} {kvs:List (List Key × V)} {xs:List (List Key × Addr × Value)} (r:KT H kvs xs) (k:List Key):RelO (yL kvs k) ((atKey xs k).map (·.2)):=by
 induction r with
 | nil=>exact dA
 | @cons p q ps qs h t ih =>
  obtain ⟨h1,_,h2⟩:=h
  by_cases e:p.1=k
  ·have e':q.1=k:=h1.symm.trans e
   have b:atKey (q :: qs) k=some q.2:=by simp [atKey,fF,e']
   rw [yW e,b];exact h2
  ·have e':¬ q.1=k:=fun z=>e (h1.trans z)
   have b:atKey (q :: qs) k=atKey qs k:=by simp [atKey,fF,e']
   rw [yX e,b];exact ih
theorem KT.repl {H:Hp} {kvs:List (List Key × V)} {xs:List (List Key × Addr × Value)} (r:KT H kvs xs) (k:List Key) {y:V} {u:Value} (ry:RelV y u) :
  KT H (kvs.map fun kv=>if kv.1=k then (kv.1,y) else kv) (xs.map (putAt k u)):=by
 induction r with
 | nil=>exact .nil
 | @cons p q ps qs h t ih =>
  rw [bW,bW]
  refine .cons ?_ ih
  obtain ⟨h1,h2,h3⟩:=h
  unfold putAt
  by_cases e:p.1=k
  ·rw [if_pos e,if_pos (h1.symm.trans e)];exact ⟨h1,h2,ry⟩
  ·rw [if_neg e,if_neg (fun z=>e (h1.trans z))];exact ⟨h1,h2,h3⟩
theorem KT.put {H:Hp} {kvs:List (List Key × V)} {xs:List (List Key × Addr × Value)} (r:KT H kvs xs) (k:List Key) {b:Addr} {y:V} {u:Value} (hb:H b=some (.tup (k.map kV))) (ry:RelV y u) :
  KT H (yT kvs k y) (storedH xs k b u):=by
 have e:(kvs.any fun kv=>decide (kv.1=k))=(atKey xs k).isSome:=by
  rw [wd,(r.val k).isSome_eq,lC]
 unfold yT storedH
 rw [e]
 by_cases q:(atKey xs k).isSome=true
 ·rw [if_pos q,if_pos q];exact r.repl k ry
 ·rw [if_neg q,if_neg q];exact Paired.snoc r ⟨rfl,hb,ry⟩
theorem KT.keeps {H H':Hp} {kvs:List (List Key × V)} {xs:List (List Key × Addr × Value)} (r:KT H kvs xs) (ht:∀ b ys,H b=some (.tup ys)→H' b=some (.tup ys)):KT H' kvs xs :=
 Paired.mapP r fun _ _ z=>⟨z.1,ht _ _ z.2.1,z.2.2⟩
section
variable {P:Program} {w:World} {H:Hp} {h:Heap} {a:Addr}
theorem zdW {u:HO} (ok:HOk P w H h) (e:Rd H a u):ObjOk P w H h a u:=e.ok ok
theorem YL {kvs:List (Key × V)} (ok:HOk P w H h) (e:Rd H a (.dK kvs)):kvs.length≤sizeLine∧(a == sysModules)=false∧∃ vs,KV kvs vs∧h.DictOf (yz P w) a vs :=
 show ObjOk P w H h a (.dK kvs) from zdW ok e
theorem ze7 {kvs:List (Key × V)} (ok:HOk P w H h) (e:H a=some (.dK kvs)):kvs.length≤sizeLine∧(a == sysModules)=false∧∃ vs,KV kvs vs∧h.DictOf (yz P w) a vs:=YL ok (.inl e)
theorem qA {ks:List Key} (ok:HOk P w H h) (e:H a=some (.tup (ks.map kV))):(tupleKind (yz P w)).is h ks a:=by
 obtain ⟨_,its,r,o,h1,h2,n,h3⟩:=(show ObjOk P w H h a (.tup (ks.map kV)) from ok a _ e)
 exact ⟨o,its.toArray,n,h1,h2,h3,by simpa using ZA r⟩
theorem YM {kvs:List (List Key × V)} (ok:HOk P w H h) (e:Rd H a (.dT kvs)):kvs.length≤sizeLine∧(a == sysModules)=false ∧
  ∃ xs,KT H kvs xs∧h.DictOfH (tupleKind (yz P w)) a xs:=by
 obtain ⟨z,y,xs,r,o,es,ep,h1,h2,h3,h4,h5⟩:=(show ObjOk P w H h a (.dT kvs) from zdW ok e)
 refine ⟨z,y,xs,r,o,es,ep,h1,h2,h3,h4,fun x hx=>?_,h5⟩
 have all:∀ {l:List (List Key × V)} {m:List (List Key × Addr × Value)},KT H l m→∀ x∈m,(tupleKind (yz P w)).is h x.1 x.2.1:=by
  intro l m q
  induction q with
  | nil=>intro x hx;exact nomatch hx
  | @cons p q ps qs hq t ih =>
   intro x hx
   rcases bR.mp hx with e | hx
   ·subst e
    exact qA ok (by rw [← hq.1];exact hq.2.1)
   ·exact ih x hx
 exact all r x hx
theorem zdX {kvs:List (List Key × V)} (ok:HOk P w H h) (e:H a=some (.dT kvs)):kvs.length≤sizeLine∧(a == sysModules)=false ∧
  ∃ xs,KT H kvs xs∧h.DictOfH (tupleKind (yz P w)) a xs:=YM ok (.inl e)
end
def DGet (H:Hp) (a:Addr) (y:V) (r:Option V):Prop :=
 (∃ kvs k,Rd H a (.dK kvs)∧y=kV k∧r=yL kvs k)∨∃ kvs k b,Rd H a (.dT kvs)∧y=.ref b∧H b=some (.tup (k.map kV))∧r=yL kvs k
def DPut (H:Hp) (a:Addr) (y v:V) (H':Hp):Prop :=
 (∃ kvs k,H a=some (.dK kvs)∧y=kV k∧kvs.length < sizeLine∧H'=upd H a (.dK (yT kvs k v))) ∨
 ∃ kvs k b,H a=some (.dT kvs)∧y=.ref b∧H b=some (.tup (k.map kV))∧kvs.length < sizeLine∧H'=upd H a (.dT (yT kvs k v))
theorem DGet.k {H:Hp} {a:Addr} {kvs:List (Key × V)} {k:Key} (e:H a=some (.dK kvs)):DGet H a (kV k) (yL kvs k):=.inl ⟨kvs,k,.inl e,rfl,rfl⟩
theorem DPut.k {H:Hp} {a:Addr} {kvs:List (Key × V)} {k:Key} {v:V} (e:H a=some (.dK kvs)) (hl:kvs.length < sizeLine):DPut H a (kV k) v (upd H a (.dK (yT kvs k v))):=.inl ⟨kvs,k,e,rfl,hl,rfl⟩
theorem DPut.t {H:Hp} {a b:Addr} {kvs:List (List Key × V)} {k:List Key} {v:V} (e:H a=some (.dT kvs)) (eb:H b=some (.tup (k.map kV))) (hl:kvs.length < sizeLine) :
  DPut H a (.ref b) v (upd H a (.dT (yT kvs k v))):=.inr ⟨kvs,k,b,e,rfl,eb,hl,rfl⟩
section
variable {X:Cx} {pins:List (Addr × Obj)} {σ:St} {H:Hp} {s:Shared} {a:Addr} {y v:V} {u r:Value} {o:Option V} {A:Around} {E:Value→Shared→Prop}
theorem Inv.big (I:Inv X pins σ H s):sysModules < s.heap.objs.size:=by
 have h:mainGlobals < s.heap.objs.size:=(I.mod.glob.keeps I.bk).lt
 exact nZ (by decide) h
theorem Q1 {Q:Value→Shared→Prop} (hu:A.units + 1 < cLine) (I:Inv X pins σ H s) (g:DGet H a y (some v)) (ry:RelV y u) (h:∀ w' s',Inv X pins σ H s'→RelV v w'→Q w' s') :
  wpAny (model X.prog X.w) A (getItem (.ref a) u) Q E s:=by
 rcases g with ⟨kvs,k,e,ey,l⟩ | ⟨kvs,k,b,e,ey,eb,l⟩
 ·subst ey
  obtain ⟨z,hd,vs,rel,dd⟩:=YL I.hok e
  obtain ⟨w',hw,rw'⟩:=RelO.some_of (v:=v) (o:=valueAt vs k) (by rw [l];exact rel.val k)
  exact wpAny_getItem_of (We ry) dd.mapOf hw (h w' _ (I.tok _) rw')
 ·subst ey
  cases (show u=bJ b from ry)
  obtain ⟨z,hd,xs,rel,dd⟩:=YM I.hok e
  obtain ⟨w',hw,rw'⟩:=RelO.some_of (v:=v) (o:=(atKey xs k).map (·.2)) (by rw [l];exact rel.val k)
  obtain ⟨p,hp,hp2⟩:=cW.mp hw
  refine wpAny_getItem_heap (eJ hu) (qA I.hok eb) dd hp ?_
  rw [hp2]
  exact h w' _ (I.tok _) rw'
theorem zfx {Q:Value→Shared→Prop} (hu:A.units + 1 < cLine) (I:Inv X pins σ H s) (g:DGet H a y o) (ry:RelV y u) (h:∀ s',Inv X pins σ H s'→Q (.bool o.isSome) s') :
  wpAny (model X.prog X.w) A (compareOp .In u (.ref a)) Q E s:=by
 rcases g with ⟨kvs,k,e,ey,l⟩ | ⟨kvs,k,b,e,ey,eb,l⟩
 ·subst ey
  obtain ⟨z,hd,vs,rel,dd⟩:=YL I.hok e
  refine wpAny_in_of (We ry) hd dd.mapOf ?_
  rw [← (rel.val k).isSome_eq,← l]
  exact h _ (I.tok _)
 ·subst ey
  cases (show u=bJ b from ry)
  obtain ⟨z,hd,xs,rel,dd⟩:=YM I.hok e
  refine wpAny_in_heap (eJ hu) (qA I.hok eb) hd dd ?_
  have q:=(rel.val k).isSome_eq
  rw [lC] at q
  rw [← q,← l]
  exact h _ (I.tok _)
theorem zcM {Q:Value→Shared→Prop} (hu:A.units + 1 < cLine) (I:Inv X pins σ H s) (g:DGet H a y o) (ry:RelV y u) (h:∀ s',Inv X pins σ H s'→Q (.bool (!o.isSome)) s') :
  wpAny (model X.prog X.w) A (compareOp .NotIn u (.ref a)) Q E s:=by
 rcases g with ⟨kvs,k,e,ey,l⟩ | ⟨kvs,k,b,e,ey,eb,l⟩
 ·subst ey
  obtain ⟨z,hd,vs,rel,dd⟩:=YL I.hok e
  refine wpAny_notIn_of (We ry) hd dd.mapOf ?_
  rw [← (rel.val k).isSome_eq,← l]
  exact h _ (I.tok _)
 ·subst ey
  cases (show u=bJ b from ry)
  obtain ⟨z,hd,xs,rel,dd⟩:=YM I.hok e
  refine wpAny_notIn_heap (eJ hu) (qA I.hok eb) hd dd ?_
  have q:=(rel.val k).isSome_eq
  rw [lC] at q
  rw [← q,← l]
  exact h _ (I.tok _)
theorem WW {h':Heap} {t':Nat} {ob:HO} (I:Inv X pins σ H s) (mu:Mut (H a)) (hs:cJ a s.heap h') (he:∃ q,h'.get? a=some q) (new:ObjOk X.prog X.w (upd H a ob) h' a ob) :
  Inv X pins σ (upd H a ob) { s with heap:=h',toks:=t' } :=
 I.write (x:=a) (e:=a) mu (.inl rfl) (fun b q hb z=>(hs.2 b hb).trans z) he new
theorem zek {P:Program} {w:World} {H':Hp} {h':Heap} {kvs:List (Key × V)} {vs:List (Key × Value)} (z:kvs.length≤sizeLine) (hd:(a == sysModules)=false) (rel:KV kvs vs) (dd:h'.DictOf (yz P w) a vs) :
  ObjOk P w H' h' a (.dK kvs):=⟨z,hd,vs,rel,dd⟩
theorem Q2 {H':Hp} {Q:Unit→Shared→Prop} (hu:A.units + 1 < cLine) (I:Inv X pins σ H s) (g:DPut H a y v H') (ry:RelV y u) (rv:RelV v r) (h:∀ s',Inv X pins σ H' s'→Q () s') :
  wpAny (model X.prog X.w) A (setItem (.ref a) u r) Q E s:=by
 rcases g with ⟨kvs,k,e,ey,l,eH⟩ | ⟨kvs,k,b,e,ey,eb,l,eH⟩
 ·subst ey eH
  obtain ⟨z,hd,vs,rel,dd⟩:=ze7 I.hok e
  have hz:vs.length≤sizeLine:=by rw [← rel.length];exact z
  have hl:(yT kvs k v).length≤sizeLine:=by have:=we kvs k v;lia
  refine wpAny_setItem_pairs (hsz:=hz) (We ry) dd fun h' dd' hs=>h _ ?_
  have he:∃ q,h'.get? a=some q:=let ⟨q,_,_,hq,_⟩:=dd';⟨q,hq⟩
  exact WW I (by rw [e];exact dA) hs he (zek hl hd (rel.put k rv) dd')
 ·subst ey eH
  cases (show u=bJ b from ry)
  obtain ⟨z,hd,xs,rel,dd⟩:=zdX I.hok e
  have hz:xs.length≤sizeLine:=by rw [← b5 rel];exact z
  have hl:(yT kvs k v).length≤sizeLine:=by have:=we kvs k v;lia
  refine wpAny_setItem_heap (hsz:=hz) (eJ hu) (qA I.hok eb) dd fun h' dd' hs=>h _ ?_
  obtain ⟨q,es,ep,hq,h2,h3,h4,_,h5⟩:=dd'
  refine WW I (by rw [e];exact dA) hs ⟨q,hq⟩ ⟨hl,hd,_,(rel.put k eb rv).keeps fun c ys ec=>?_,q,es,ep,hq,h2,h3,h4,h5⟩
  rw [zj (yQ ec e (fun z=>nomatch z))]
  exact ec
end
def ze8 (i:Expr):Prop:=∀ ov iv,subscripted i false ov iv=operate [ov,iv] (getItem ov iv)
theorem zcN {prog:Program} {w:World} {A:Around} {E:Value→Shared→Prop} {s:Shared} {env:Env} {value slice:Expr} {pos:Pos} {T id:String} {Q:Value→Shared→Prop}
  (hl:typeLookup (.type T) "__getitem__"=pure (some (.builtin id))) (hs:ze8 slice)
  (h:wpAny (model prog w) A (eval value env) (fun o s₁=>wpAny (model prog w) A (eval slice env) (fun i s₂=>s₂.TypeIs o T∧wpAny (model prog w) A (getItem o i) Q E s₂) E s₁) E s) :
  wpAny (model prog w) A (eval (.Subscript value slice pos) env) Q E s:=by
 refine nP (cG h (fun o s₁ h₁=>cG h₁ (fun i s₂ h₂=>?_) fun _ _ x=>x) fun _ _ x=>x)
 obtain ⟨hT,h₂⟩:=h₂
 unfold subscriptTail
 refine bd ?_
 rw [getitemInPython_of_ne hT.not_modules]
 refine bd (wpAny_specialOf hT hl ?_)
 have fin:wpAny (model prog w) A (subscripted slice false o i) (fun r s₃=>wpAny (model prog w) A (letTemporaryGo value o r >>= fun _=>pure r) Q E s₃) E s₂:=by
  rw [hs o i]
  exact wpAny_operating (cG h₂ (fun r s₃ h₃=>bd (wpAny_letTemporaryGo (bj h₃))) fun _ _ x=>x)
 first
  | exact bj (bd fin)
  | exact bd (bj (bd fin))
  | exact bd fin
theorem VR {X:Cx} {pins:List (Addr × Obj)} {σ:St} {H:Hp} {s:Shared} {a:Addr} {y:V} {o:Option V} (I:Inv X pins σ H s) (g:DGet H a y o):s.TypeIs (.ref a) "dict":=by
 rcases g with ⟨kvs,k,e,_,_⟩ | ⟨kvs,k,b,e,_,_,_⟩
 ·obtain ⟨_,_,vs,_,dd⟩:=YL I.hok e
  exact dd.typeIs
 ·obtain ⟨_,_,xs,_,dd⟩:=YM I.hok e
  exact dd.typeIs
def vi (td ty:TE):TE:=fun σ H Q=>td σ H fun x H1=>ty σ H1 fun y H2=>∃ a v,x=.ref a∧DGet H2 a y (some v)∧Q v H2
def wf (td ty tv:TE):TS:=fun D σ H=>tv σ H fun v H1=>td σ H1 fun x H2=>ty σ H2 fun y H3=>∃ a H4,x=.ref a∧DPut H3 a y v H4∧D.nx σ H4
section
variable {X:Cx} {o i e value:Expr} {pos pos' tpos:Pos} {td ty tv:TE}
theorem vj (hu:X.A.units + 1 < cLine) (ho:PE X o td) (hi:PE X i ty) (hs:ze8 i):PE X (.Subscript o i pos) (vi td ty):=by
 intro pins s σ H Q I h
 refine zcN PySem.F.slot_dict_getitem.lookup hs (thn (ho pins s σ H _ I h) fun u s1 ⟨x,H1,I1,rx,q1⟩=>thn (hi pins s1 σ H1 _ I1 q1) fun iv s2 ⟨y,H2,I2,ry,a,v,ex,g,q2⟩=>?_)
 subst ex
 obtain rfl:u=bJ a:=rx
 exact ⟨VR I2 g,Q1 hu I2 g ry fun w' s3 I3 rw'=>⟨v,H2,I3,rw',q2⟩⟩
theorem vm (hu:X.A.units + 1 < cLine) (ho:PE X o td) (hi:PE X i ty) (hv:PE X value tv) (hs:swapsWith value (some (.Subscript o i pos')) pos.line X.env=pure false) :
  PS X (.Assign [.Subscript o i pos'] value pos) (wf td ty tv):=by
 intro pins s σ H D I h
 refine wpAny_Assign_Subscript (thn (hv pins s σ H _ I h) fun r s1 ⟨v,H1,I1,rv,q1⟩=>thn (ho pins s1 σ H1 _ I1 q1) fun u s2 ⟨x,H2,I2,rx,q2⟩=>thn (hi pins s2 σ H2 _ I2 q2) fun iv s3 ⟨y,H3,I3,ry,a,H4,ex,g,q3⟩=>?_) hs
 subst ex
 obtain rfl:u=bJ a:=rx
 exact Q2 hu I3 g ry rv fun s4 I4=>⟨σ,H4,I4,q3⟩
end
theorem zaS {P:Program} {w:World} {H:Hp} (h:Heap) (hb:sysModules < h.objs.size):ObjOk P w H (h.push { cls:=.type "dict",data:=.dict #[] }) h.objs.size (.dK []) :=
 ⟨b8 _,beq_eq_false_iff_ne.mpr (cK (ck hb)),[],.nil,Heap.DictOf.new h⟩
theorem VS {P:Program} {w:World} {H:Hp} (h:Heap) (hb:sysModules < h.objs.size):ObjOk P w H (h.push { cls:=.type "dict",data:=.dict #[] }) h.objs.size (.dT []) :=
 ⟨b8 _,beq_eq_false_iff_ne.mpr (cK (ck hb)),[],.nil,_,#[],0,bD _ rfl,⟨rfl,rfl,rfl⟩,rfl,rfl,i7⟩
def qB:TE:=fun _ H Q=>∀ p,H p=none→Q (.ref p) (upd H p (.dK []))
def ZB:TE:=fun _ H Q=>∀ p,H p=none→Q (.ref p) (upd H p (.dT []))
section
variable {X:Cx} {pos:Pos}
theorem YN:PE X (.Dict [] [] pos) qB:=fun pins s σ H Q I h =>
 wpAny_Dict_empty ⟨.ref s.heap.objs.size,_,I.laid (a:=s.heap.objs.size) (o:=.dK []) (t':=s.toks) (fun _ _ q=>bi _ q) (bo _) (zaS s.heap I.big),rfl,h _ (I.hok.fresh (bo _))⟩
theorem YO:PE X (.Dict [] [] pos) ZB:=fun pins s σ H Q I h =>
 wpAny_Dict_empty ⟨.ref s.heap.objs.size,_,I.laid (a:=s.heap.objs.size) (o:=.dT []) (t':=s.toks) (fun _ _ q=>bi _ q) (bo _) (VS s.heap I.big),rfl,h _ (I.hok.fresh (bo _))⟩
end
def zel:List (TE × TE)→St→Hp→(List (V × V)→Hp→Prop)→Prop
 | [],_,H,Q=>Q [] H
 | (tk,tv) :: r,σ,H,Q=>tk σ H fun x H1=>tv σ H1 fun y H2=>zel r σ H2 fun ps H3=>Q ((x,y) :: ps) H3
structure M2 (X:Cx) (o:Expr) (m:Str) (apos:Pos) (e f:Expr) (cpos:Pos):Prop where
 base:attributeBase o m X.env (eval o X.env)=eval o X.env
 few:((backTo cpos (starEach [e,f] X.env)).all (fun x=>!x.1) && (backToKw cpos (keywordEach [] X.env)).all (fun x=>x.1.isSome)
  && decide (([e,f]:List Expr).length + ([]:List Keyword).length + (if ([]:List Keyword).isEmpty then 0 else 1) < 30))=true
 line:(apos.endLine == cpos.line)=true
 trees:backTo cpos (starEach [e,f] X.env)=[(false,eval e X.env),(false,eval f X.env)]
def IsD (H:Hp) (a:Addr):Prop:=(∃ kvs,Rd H a (.dK kvs))∨∃ kvs,Rd H a (.dT kvs)
theorem Ka {X:Cx} {pins:List (Addr × Obj)} {σ:St} {H:Hp} {s:Shared} {a:Addr} (I:Inv X pins σ H s) (d:IsD H a) :
  s.TypeIs (.ref a) "dict"∧(∀ b,bJ a=.ref b→∃ ob,s.heap.get? b=some ob∧ob.dict=none)∧(a == sysModules)=false:=by
 rcases d with ⟨kvs,e⟩ | ⟨kvs,e⟩
 ·obtain ⟨_,hd,vs,_,dd⟩:=YL I.hok e
  refine ⟨dd.typeIs,fun b q=>?_,hd⟩
  cases q
  obtain ⟨ob,_,_,h1,h2,_⟩:=dd
  exact ⟨ob,h1,h2.2.1⟩
 ·obtain ⟨_,hd,xs,_,dd⟩:=YM I.hok e
  refine ⟨dd.typeIs,fun b q=>?_,hd⟩
  cases q
  obtain ⟨ob,_,_,h1,h2,_⟩:=dd
  exact ⟨ob,h1,h2.2.1⟩
section
variable {X:Cx} {pins:List (Addr × Obj)} {σ:St} {H:Hp} {s:Shared} {a:Addr} {y d:V} {u r:Value} {o:Option V} {A:Around} {E:Value→Shared→Prop}
theorem zem {Q:Value→Shared→Prop} (hu:A.units + 1 < cLine) (I:Inv X pins σ H s) (g:DGet H a y o) (ry:RelV y u) (rd:RelV d r) (h:∀ w' s',Inv X pins σ H s'→RelV (o.getD d) w'→Q w' s') :
  wpAny (model X.prog X.w) A (call (.builtin "dict.get") [.ref a,u,r]) Q E s:=by
 rcases g with ⟨kvs,k,e,ey,l⟩ | ⟨kvs,k,b,e,ey,eb,l⟩
 ·subst ey
  obtain ⟨z,hd,vs,rel,dd⟩:=YL I.hok e
  refine call_meetsIn gT dd.typeIs md (lN _ _ _) (meets_dict_get_default (yz X.prog X.w) a (We ry) hd r) ⟨_,dd.mapOf,h _ _ (I.tok _) ?_⟩
  rw [l]
  exact (rel.val k).getD rd
 ·subst ey
  cases (show u=bJ b from ry)
  obtain ⟨z,hd,xs,rel,dd⟩:=YM I.hok e
  refine call_meetsIn gT dd.typeIs md (lN _ _ _) (meetsH_dict_get_default (tupleKind (yz X.prog X.w)) a b hd r) ⟨eJ hu,k,xs,qA I.hok eb,dd,h _ _ (I.tok _) ?_⟩
  rw [l]
  exact (rel.val k).getD rd
end
def qC (td ty tx:TE):TE:=fun σ H Q=>td σ H fun x H1=>∃ a,x=.ref a∧IsD H1 a∧ty σ H1 fun y H2=>tx σ H2 fun z H3=>∃ o,DGet H3 a y o∧Q (o.getD z) H3
section
variable {X:Cx} {o e f:Expr} {apos cpos:Pos} {td ty tx:TE}
theorem VT (hu:X.A.units + 1 < cLine) (ho:PE X o td) (he:PE X e ty) (hf:PE X f tx) (m:M2 X o "get" apos e f cpos):PE X (.Call (.Attribute o "get" apos) [e,f] [] cpos) (qC td ty tx):=by
 intro pins s σ H Q I h
 refine wpAny_Call_method m.base m.few m.line gA gT PySem.F.type_dict_get (thn (ho pins s σ H _ I h) fun u s1 ⟨x,H1,I1,rx,a,ex,d,q1⟩=>?_)
 subst ex
 obtain rfl:u=bJ a:=rx
 obtain ⟨t1,t2,_⟩:=Ka I1 d
 refine ⟨t1,t2,?_⟩
 rw [m.trees]
 refine eD rfl (ip (eG (thn (he pins s1 σ H1 _ I1 q1) fun iv s2 ⟨y,H2,I2,ry,q2⟩ =>
  eG (thn (hf pins s2 σ H2 _ I2 q2) fun fv s3 ⟨z,H3,I3,rz,ov,g,q3⟩=>gJ ?_))))
 exact zem hu I3 g ry rz fun w' s4 I4 rw'=>⟨_,H3,I4,rw',q3⟩
end
end L2
namespace Att
open PySem PySem.W PySem.Calls PyProof.Rows
theorem Yg {P:Params} {h:Heap}:∀ (ns:List Int) (vs:List Value),WellAll P h vs (ns.map WData.int)→IntsAre vs ns:=by
 intro ns
 induction ns with
 | nil =>
  intro vs w
  rw [List.map_nil] at w
  cases w
  exact .nil
 | cons n ns ih =>
  intro vs w
  rw [bW] at w
  cases w with
  | cons a b =>
   cases a
   exact .cons _ _ (ih _ b)
theorem Wf {l:OpenLaw} {n:Nat} (hn:l.most=some n) {P:Params} {h:Heap} {args:List WData} {vals:List Value}
  (hpre:l.row.toRowW.claim.pre args=true) (hwl:WellAll P h vals args) :
  ∃ a vs ns,vals=[bJ a]∧args=[WData.list (ns.map WData.int)]∧h.get? a=some { cls:=.type "list",data:=.seq vs.toArray }∧IntsAre vs ns∧ns.length≤n:=by
 have hsh:WShape.hasAll [] args [.list .int]=true:=(pre_splitW hpre).1
 have hc:l.pre.holds [] { args:=args }=true:=(pre_splitW hpre).2
 obtain ⟨d,r,rfl,h1,h2⟩:=hasAllW_cons hsh
 obtain rfl:=hasAllW_nil h2
 obtain ⟨xs,rfl,h3⟩:=hasW_list h1
 obtain ⟨ns,rfl⟩:=items_int h3
 have hlen:ns.length≤n:=by
  unfold OpenLaw.pre at hc
  have h4:(WTm.not (.lt (.lit (.int (n:Int))) (.len (.arg 0)))).holds [] { args:=[.list (ns.map .int)] }=true:=by
   have h4:=(holds_andW hc).1
   rw [hn] at h4
   exact h4
  have h5:=condW_of h4 (w_not (w_lt w_lit (w_len_list (w_arg rfl))))
  rw [bt] at h5
  refine Nat.le_of_not_lt fun q=>?_
  have q':(n:Int) < ((ns.length:Nat):Int):=by lia
  first
   | (rw [decide_eq_true q'] at h5;exact absurd h5 (by decide))
   | (simp at h5;lia)
 cases hwl with
 | cons w1 w2 =>
  cases w2
  cases w1 with
  | list ho hall=>exact ⟨_,_,ns,rfl,rfl,ho,Yg ns _ hall,hlen⟩
theorem Wg (l:OpenLaw) (args:List WData):l.row.toRowW.claim.post args (.bool true) args=true :=
 postW_of (r:=l.row.toRowW) (X:=(true == true))
  (show WShape.has [] (.bool true) .bool=true by first | rfl | decide | simp [WShape.has,WShape.arms,WShape.armsAll])
  (show (WTm.eq .res (.lit (.bool true))).value [] { args:=args,res:=some (.bool true),after:=args }=some (.bool (true == true)) from w_eq_bool (w_res rfl) w_lit) rfl
theorem attach_call {l:OpenLaw} {n:Nat} {q:Program} {loose:List Str} {XP:(Str→Option Value)→Heap→Prop} {YP:World→Heap→Prop} {d:DefRec}
  (hn:l.most=some n) (hdf:d.params.defaults=[])
  (call:∀ (w:World) (s₀ s₁:Shared) (mg mb:Str→Option Value) (fa:Addr) (o:Obj) (pm cd doc:Value) (a:Addr) (vs:List Value) (ns:List Int),
   Ground q loose [] XP w s₀ mg mb s₁.heap→YP w s₁.heap →
   s₁.heap.get? fa=some o→o.data=.func (docDef d.name d.params d.body d.scope pm cd doc)→s₁.heap.CodeRec cd d.name→mg d.name=some (.ref fa) →
   s₁.heap.get? a=some { cls:=.type "list",data:=.seq vs.toArray }→IntsAre vs ns→ns.length≤n→s₁.gens=#[] →
   codeAny (model l.prog w) callerA (.call (.ref fa) ⟨[.ref a],[]⟩) (fun r s'=>r=.ok (.ret (.bool true))∧OldK s₁.heap s'.heap∧s'.os=s₁.os∧AllBare s'.gens) s₁) :
  WalkO q loose XP YP l.row.toRowW d [] (fun f vs=>lD f vs):=by
 intro w s₀ s₁ mg mb G Y fa o pm cd doc dV kV ho hd hcd hD hmg hg args vals as hpre hlay hrd hwl hlo
 obtain rfl:dV=.none:=Dflts.none hD hdf
 obtain rfl:kV=.none:=Dflts.noKw hD
 obtain ⟨a,vs,ns,rfl,rfl,hobj,hints,hlen⟩:=Wf hn hpre hwl
 refine enter_call (eW (call w s₀ s₁ mg mb fa o pm cd doc a vs ns G Y ho (fd_plain hd) hcd hmg hobj hints hlen hg) fun r s' hq=>?_)
 obtain ⟨rfl,h2,h3,h4⟩:=hq
 exact ⟨.inl ⟨.bool true,.bool true,[],rfl,fun _=>rfl,.bool true,Wg l _,fun _=>⟨nR,fun _ hm=>(nomatch hm)⟩⟩,h2,h3,h4⟩
section
variable {prog:Program} {w:World} {A:Around} {E:Value→Shared→Prop} {s:Shared} {K:Frag}
def zfy (h:Heap) (L d:Addr):List (Addr × Obj):=(bZ h.objs.size).filterMap fun a=>if a=L∨a=d then none else (h.get? a).map fun o=>(a,o)
end
end Att
namespace L2
open PySem PySem.Spec PyProof.Rows
theorem Wh:∀ {vs:List Value} {ns:List Int},IntsAre vs ns→Vals (ns.map V.int) vs
 | _,_,.nil=>.nil
 | _,_,.cons n t h=>.cons ⟨t,rfl⟩ (Wh h)
def Kb (H:Hp):Prop:=∀ b,H b=none∨∃ o xs,H b=some (.frz o (.lst xs))
theorem VU {P:Program} {w:World} {K:bx} {mg mb:Str→Option Value} {CX:CXT} {k:Nat} {fa a:Addr} {fd:FuncData} {x:Str} {sp:Sp} {s₁:Shared} {vs:List Value} {ns:List Int}
  (KX:K.In s₁.heap) (hns:s₁.heap.Ns mainGlobals mg) (hb:s₁.heap.Ns builtinsNs mb) (hbb:∀ x:Str,x≠"__name__"→mb x=bootBuiltins x) (hlim:s₁.heap.NoLimit) (hg:s₁.gens=#[])
  (ha:s₁.heap.get? a=some { cls:=.type "list",data:=.seq vs.toArray }) (hi:IntsAre vs ns) (hl:ns.length≤sizeLine) (hr:Room k callerA)
  (F:∀ base:Heap,K.In base→base.Ns mainGlobals mg→FnOk P w K mg base CX k fa fd [x] sp) (hbind:∀ (s:Shared) (u:Value),BindsTo s fd ⟨[u],[]⟩ [(x,u)])
  (hsp:∀ H:Hp,Kb H→SqL K H a (ns.map V.int)→sp [.ref a] H (fun v _=>v=.bl true) fun _ _ _=>False)
  (hCX:∀ H e s',CX [] H s₁ (fun _ _ _=>False) e s'→False) :
  codeAny (model P w) callerA (.call (.ref fa) ⟨[.ref a],[]⟩) (fun r s'=>r=.ok (.ret (.bool true))∧OldK s₁.heap s'.heap∧s'.os=s₁.os∧AllBare s'.gens) s₁:=by
 have rv:=Wh hi
 have lenV:=hi.length
 -- from an abstract heap in which nothing but the script may be tracked
 have core:∀ H:Hp,Kb H→SqL K H a (ns.map V.int)→HOk P w H s₁.heap→(∀ b,H b≠none→b=a)→(H a≠none→K.lookup a=none) →
   codeAny (model P w) callerA (.call (.ref fa) ⟨[.ref a],[]⟩) (fun r s'=>r=.ok (.ret (.bool true))∧OldK s₁.heap s'.heap∧s'.os=s₁.os∧AllBare s'.gens) s₁:=by
  intro H hO hS hok hA hK
  have base_of:∀ {b:Addr} {o:Obj},s₁.heap.get? b=some o→H b=none→(WN s₁.heap H).get? b=some o:=fun e n=>zaD e n
  have noA:∀ {b:Addr} {o:Obj} {es:Array DictEntry} {ep:Nat},s₁.heap.get? b=some o→o.data=.dict es ep→H b=none:=fun {b o es ep} e d=>by
   cases q:H b with
   | none=>rfl
   | some u =>
    have e':b=a:=hA b (by rw [q];simp)
    subst e'
    rw [ha] at e;cases e
    have d':Data.seq vs.toArray _=Data.dict es ep:=d
    cases d'
  have nsK:∀ {b:Addr} {m:Str→Option Value},s₁.heap.Ns b m→(WN s₁.heap H).Ns b m:=fun {b m} ⟨o,es,ep,e,d,r⟩=>⟨o,es,ep,base_of e (noA e d),d,r⟩
  have hKb:K.In (WN s₁.heap H):=fun b o e=>base_of (KX b o e) (by
   cases q:H b with
   | none=>rfl
   | some u =>
    have e':b=a:=hA b (by rw [q];simp)
    subst e'
    rw [hK (by rw [q];simp)] at e;cases e)
  have hM:Mod K mg (WN s₁.heap H):=⟨hKb,nsK hns,⟨mb,nsK hb,hbb⟩,let ⟨mc,h1,h2⟩:=hlim;⟨mc,nsK h1,h2⟩⟩
  have e0:Env0 P w K mg (WN s₁.heap H) callerA [] s₁ H:=⟨rfl,hM,fun b o e=>zcz e,ms (QP _ _),trivial,fun b hb=>absurd (show b∈([]:List Addr) from hb) (by simp),hok,.of_eq hg⟩
  refine eW ((F _ hKb (nsK hns)).run callerA [] s₁ H ⟨[.ref a],[]⟩ [.ref a] [.ref a] _ _ hr e0 (hbind s₁ (.ref a)) (.cons rfl .nil) (hsp H hO hS)) fun r s' h=>?_
  cases r with
  | error e=>exact (hCX H e s' h).elim
  | ok fl =>
   cases fl with
   | next=>exact cH h
   | brk=>exact cH h
   | cont=>exact cH h
   | ret u =>
    obtain ⟨v,H',os,bare,un,hok',r',q⟩:=h
    have q':v=.bl true:=q
    subst q'
    obtain rfl:u=gh true:=r'
    refine ⟨rfl,OldK.of_keep fun b o e=>?_,os,bare⟩
    cases q:H b with
    | none=>exact un.keep b o e q (by intro z;exact absurd (show b∈([]:List Addr) from z) (by simp)) (by simp)
    | some u =>
     rcases hO b with z | ⟨ob,xs,z⟩
     ·rw [q] at z;cases z
     ·have z2:=un.frzs b ob _ z
      obtain ⟨e1,_⟩:=hok b _ z
      obtain ⟨e2,_⟩:=hok' b _ z2
      rw [e] at e1;cases e1
      exact e2
 cases hk:K.lookup a with
 | some o =>
  -- the script is one of the module's own objects
  have e:=KX a o hk
  rw [ha] at e
  cases e
  refine core (fun _=>none) (fun _=>.inl rfl) (.inr ⟨_,vs.toArray,_,hk,rfl,rfl,rfl,by rw [bM,lenV];exact hl,by simpa using rv⟩) (fun b u z=>by have z':(none:Option HO)=some u:=z;cases z') (fun b z=>absurd rfl z) fun z=>absurd rfl z
 | none =>
  refine core (fun b=>if b=a then some (.frz { cls:=.type "list",data:=.seq vs.toArray } (.lst (ns.map V.int))) else none) (fun b=>?_) (.inl (.inr ⟨{ cls:=.type "list",data:=.seq vs.toArray },if_pos rfl⟩)) (fun b u z=>?_) (fun b z=>?_) fun _=>hk
  ·by_cases hb:b=a
   ·exact .inr ⟨_,_,if_pos hb⟩
   ·exact .inl (if_neg hb)
  ·by_cases hb:b=a
   ·have z':=(if_pos hb).symm.trans z
    cases z'
    subst hb
    exact ⟨ha,by rw [bt];exact hl,vs,_,rv,ha⟩
   ·have z':=(if_neg hb).symm.trans z
    cases z'
  ·by_cases hb:b=a
   ·exact hb
   ·exact absurd (if_neg hb) z
abbrev KOf {K:bx} {h:Heap} (_:K.In h):bx:=K
theorem K4 {l:nD} {n k:Nat} {q:Program} {loose:List Str} {XP:(Str→Option Value)→Heap→Prop} {YP:World→Heap→Prop} {d:DefRec} {K:Params→bx} {CX:World→CXT} {sp:World→Sp} {x:Str}
  (hn:l.most=some n) (hn2:n≤sizeLine) (hdf:d.params.defaults=[]) (hr:Room k callerA)
  (hY:∀ (w:World) (h:Heap),YP w h→(K w.params).In h)
  (F:∀ (w:World) (mg:Str→Option Value) (fa:Addr) (h:Heap),(K w.params).In h→h.Ns mainGlobals mg→mg d.name=some (.ref fa) →
   ∃ fd:FuncData,(∀ (s:Shared) (u:Value),BindsTo s fd ⟨[u],[]⟩ [(x,u)]) ∧
    ∀ base:Heap,(K w.params).In base→base.Ns mainGlobals mg→FnOk l.prog w (K w.params) mg base (CX w) k fa fd [x] (sp w))
  (hsp:∀ (w:World) (H:Hp) (a:Addr) (ns:List Int),ns.length≤n→Kb H→SqL (K w.params) H a (ns.map V.int)→sp w [.ref a] H (fun v _=>v=.bl true) fun _ _ _=>False)
  (hCX:∀ (w:World) (H:Hp) (s:Shared) (e:Value) (s':Shared),CX w [] H s (fun _ _ _=>False) e s'→False) :
  oQ q loose XP YP l.row.toRowW d [] (fun f vs=>lD f vs):=by
 refine Att.attach_call hn hdf fun w s₀ s₁ mg mb fa o pm cd doc a vs ns G Y ho hd hcd hmg hobj hints hlen hg=>?_
 have KX:=hY w _ Y
 obtain ⟨fd,hb,hF⟩:=F w mg fa _ KX G.T.g hmg
 exact VU KX G.T.g G.T.b G.T.builtins G.T.nolimit hg hobj hints (bU hlen hn2) hr hF hb (fun H hO hS=>hsp w H a ns hlen hO hS) fun H e s'=>hCX w H s₁ e s'
theorem ze9 {l:nD} {n k:Nat} {q:Program} {loose:List Str} {XP:(Str→Option Value)→Heap→Prop} {YP:World→Heap→Prop} {d:DefRec} {K:Params→bx} {CX:CXT} {sp:bx→Sp} {x:Str}
  (hn:l.most=some n) (hn2:n≤sizeLine) (hdf:d.params.defaults=[]) (hr:Room k callerA)
  (hY:∀ (w:World) (h:Heap),YP w h→(K w.params).In h)
  (F:∀ (w:World) (mg:Str→Option Value) (fa:Addr) (h:Heap),(K w.params).In h→h.Ns mainGlobals mg→mg d.name=some (.ref fa) →
   ∃ fd:FuncData,(∀ (s:Shared) (u:Value),BindsTo s fd ⟨[u],[]⟩ [(x,u)]) ∧
    ∀ base:Heap,(K w.params).In base→base.Ns mainGlobals mg→FnOk l.prog w (K w.params) mg base CX k fa fd [x] (sp (K w.params)))
  (hsp:∀ (K:bx) (H:Hp) (a:Addr) (ns:List Int),ns.length≤n→Kb H→SqL K H a (ns.map V.int)→sp K [.ref a] H (fun v _=>v=.bl true) fun _ _ _=>False)
  (hCX:∀ (H:Hp) (s:Shared) (e:Value) (s':Shared),CX [] H s (fun _ _ _=>False) e s'→False) :
  oQ q loose XP YP l.row.toRowW d [] (fun f vs=>lD f vs) :=
 K4 (K:=K) (CX:=fun _=>CX) (sp:=fun w=>sp (K w.params)) hn hn2 hdf hr hY F (fun w H a ns h1 h2 h3=>hsp (K w.params) H a ns h1 h2 h3) fun _ H s e s'=>hCX H s e s'
def xY (s:Stmt) (j:Nat):Stmt:=match s with
 | .ClassDef _ _ _ body _ _ _ _ _ _ _=>body.getD j (.Pass ⟨0,0,0,0⟩)
 | _=>.Pass ⟨0,0,0,0⟩
def y9 (s:Stmt):Arguments:=match s with
 | .FunctionDef _ a _ _ _ _ _ _ _ _=>a
 | _=>{ posonlyargs:=[],args:=[],vararg:=none,kwonlyargs:=[],kw_defaults:=[],kwarg:=none,defaults:=[] }
def yE (s:Stmt):List Stmt:=match s with
 | .FunctionDef _ _ b _ _ _ _ _ _ _=>b
 | _=>[]
def zk (s:Stmt):Scope:=match s with
 | .FunctionDef _ _ _ _ _ _ sc _ _ _=>sc
 | _=>{ kind:=.function,names:=[],isGenerator:=false,isCoroutine:=false }
abbrev E0:XK:=fun _ _ _=>False
structure Fun (K:bx) (x qual:Str) (st:Stmt) (f:Addr) (fd:FuncData):Prop where
 ex:∃ (oc:Value) (od:Option Addr) (kV doc pm:Value) (an:Option Addr) (cdv ct:Value) (osl:Array (Option Value)),
  fd=iV x qual (y9 st) (yE st) (zk st) .none kV doc pm an cdv ct∧K.lookup f=some ⟨oc,od,.func fd,osl⟩∧iW K cdv qual=true
 kp:fN K (.ref f)=true
section
variable {P:Program} {w:World} {K:bx} {mg:Str→Option Value} {base:Heap}
theorem Fun.binds {x qual:Str} {st:Stmt} {f:Addr} {fd:FuncData} {ps:List Str} (F:Fun K x qual st f fd)
  (h:∀ (kV doc pm:Value) (an:Option Addr) (cdv ct:Value) (us:List Value),us.length=ps.length→bindArgs (iV x qual (y9 st) (yE st) (zk st) .none kV doc pm an cdv ct) ⟨us,[]⟩=pure (ps.zip us)):Binds K fd ps []:=by
 obtain ⟨oc,od,kV,doc,pm,an,cdv,ct,osl,rfl,lk,hcd⟩:=F.ex
 exact .all (h kV doc pm an cdv ct)
theorem Kc {x qual:Str} {st:Stmt} {f:Addr} {oc:Value} {od an:Option Addr} {osl:Array (Option Value)} {kV doc pm cdv ct:Value} (l:K.lookup f=some ⟨oc,od,.func (iV x qual (y9 st) (yE st) (zk st) .none kV doc pm an cdv ct),osl⟩)
  (c:iW K cdv qual=true) (k:fN K (.ref f)=true):Fun K x qual st f (iV x qual (y9 st) (yE st) (zk st) .none kV doc pm an cdv ct):=⟨⟨oc,od,kV,doc,pm,an,cdv,ct,osl,rfl,l,c⟩,k⟩
end
theorem xj {A:Around} {k:Nat} (hr:Room k A):A.units + 1 < cLine:=b9 (Nat.add_le_add_left (by decide:1≤64) _) hr.units
section
variable {X:Cx}
theorem pv (i:Nat) {x:Str} {pos:Pos} (hN:X.N[i]?=some x:=by rfl) (hv:Vis X.env.scope x:=by first | exact cw rfl | exact iG (cw rfl) | exact iG (iG rfl)) (hd:(x == ("__debug__":Str))=false:=by decide)
  (hcd:(x == ("__classdict__":Str))=false:=by decide):PE X (.Name x pos) (zc i):=zea hN hv hd hcd
end
theorem xc {c A B:Prop} [Decidable c] (h1:c→A) (h2:¬ c→B):if c then A else B:=by
 by_cases h:c
 ·rw [if_pos h]
  exact h1 h
 ·rw [if_neg h]
  exact h2 h
def Same (H H':Hp):Prop:=∀ b o,H b=some o→H' b=some o
theorem Same.refl (H:Hp):Same H H:=fun _ _ h=>h
theorem Same.trans {H H1 H2:Hp} (a:Same H H1) (b:Same H1 H2):Same H H2:=fun c o h=>b c o (a c o h)
section
variable {κ:Type} [DecidableEq κ]
theorem zaT {kvs:List (κ × V)} {k:κ} (h:yL kvs k=none):¬ k∈kvs.map (·.1):=by
 intro m
 obtain ⟨p,hp,e⟩:=cm.mp m
 have q:(kvs.any fun kv=>decide (kv.1=k))=true:=List.any_eq_true.mpr ⟨p,hp,decide_eq_true e⟩
 rw [wd,h] at q
 exact absurd q (by simp)
theorem K7 {kvs:List (κ × V)} {k:κ} {v:V} (h:yL kvs k=some v):k∈kvs.map (·.1):=by
 have q:(kvs.any fun kv=>decide (kv.1=k))=true:=by
  rw [wd,h]
  all_goals rfl
 obtain ⟨p,hp,e⟩:=List.any_eq_true.mp q
 exact cm.mpr ⟨p,hp,of_decide_eq_true e⟩
theorem K8:∀ {l:List κ} {k:κ},l.Nodup→¬ k∈l→(l ++ [k]).Nodup
 | [],k,_,_=>by simp
 | a :: r,k,h,hk=>by
  obtain ⟨h1,h2⟩:=cT.mp h
  show (a :: (r ++ [k])).Nodup
  refine cT.mpr ⟨fun m=>?_,K8 h2 fun m=>hk (bR.mpr (iG m))⟩
  rcases bV.mp m with q | q
  ·exact h1 q
  ·exact hk (bR.mpr (cw (bP.mp q).symm))
theorem zcO {kvs:List (κ × V)} {k:κ} (v:V) (hn:(kvs.map (·.1)).Nodup) (h:yL kvs k=none):((yT kvs k v).map (·.1)).Nodup:=by
 rw [YK v h,dL]
 exact K8 hn (zaT h)
theorem Q3 {p:κ × V} {r:List (κ × V)} {k:κ} (e:¬ p.1=k):K3 (p :: r) k=p :: K3 r k:=by
 unfold K3
 rw [lY,if_pos (by simp [e])]
theorem zaU:∀ {kvs:List (κ × V)} {k:κ},¬ k∈kvs.map (·.1)→K3 kvs k=kvs
 | [],_,_=>rfl
 | p :: r,k,h=>by
  have h':¬ k∈r.map (·.1):=fun m=>by
   obtain ⟨q,hq,e⟩:=cm.mp m
   exact h (cm.mpr ⟨q,bR.mpr (iG hq),e⟩)
  rw [Q3 fun e=>h (cm.mpr ⟨p,bR.mpr (cw rfl),e⟩),zaU h']
end
end L2
set_option Elab.async false
set_option linter.all false
set_option maxRecDepth 100000
set_option maxHeartbeats 4000000
namespace L2
open PySem PySem.Spec PyProof.Rows
def Cx.comp (X:Cx) (scope:Scope) (cl:List (Str × Addr)) (C:Addr) (N:List Str) (fp:List Addr) (s:Shared) (H:Hp):Cx :=
 { X with env:=compEnvC scope cl C X.env,N:=N,s₀:=s,H₀:=H,outer:=X.stack,ex:=fp,fn:=fun _=>false,pn:=[],xe:=fun _ _=>False }
structure kW (X:Cx) (scope:Scope) (cl:List (Str × Addr)) (ix:List Nat):Prop where
 clos:closureFor scope X.env=pure cl
 nocell:∀ y∈scope.names,y.2≠.cell
 kind:scope.kind=.function
 names:∀ y∈scope.names,y.2=.local→scope.names.lookup y.1=some .local
 sub:∀ y c,cl.lookup y=some c→X.env.cells.lookup y=some c
 has:∀ y,((relabel scope X.env).names.lookup y=some .cell∨(relabel scope X.env).names.lookup y=some .free)→∃ c,cl.lookup y=some c
 cap:∀ i∈ix,∃ y,X.N[i]?=some y∧(X.env.kindOf y=some .cell∨X.env.kindOf y=some .free)∧((relabel scope X.env).names.lookup y=some .cell∨(relabel scope X.env).names.lookup y=some .free)
def j0 (scope:Scope) (env:Env):List (Str × Addr):=scope.names.foldl (fun cs y=>if y.2 == .free then (y.1,(env.cells.lookup y.1).getD 0) :: cs else cs) []
def K9 (osc:Scope) (N:List Str) (sc:Scope) (ix:List Nat):Bool :=
 sc.kind == .function && sc.names.all (fun y=>y.2 != .cell && (y.2 != .local || sc.names.lookup y.1 == some .local) && (y.2 != .free || osc.names.lookup y.1 == some .cell || osc.names.lookup y.1 == some .free)) &&
  ix.all fun i=>match N[i]? with
   | some y=>sc.names.lookup y == some .free
   | none=>false
theorem wg {l:List (Str × NameKind)} {y:Str} {k:NameKind} (h:l.lookup y=some k):(y,k)∈l:=eB h
theorem jo {env:Env}:∀ {names:List (Str × NameKind)} {x:Str} {k:NameKind},(names.map fun (n,k)=>if (k == cX && env.scope.kind == .function && env.kindOf n == some .cell) then (n,lO) else (n,k)).lookup x=some k →
  ∃ k',names.lookup x=some k'∧(k'=.free∨k'=k)
 | [],_,_,h=>by simp at h
 | (n,k') :: r,x,k,h=>by
  have ih:=@jo env r x k
  rw [bW] at h
  cases hx:x == n with
  | true =>
   by_cases hc:(k' == cX && env.scope.kind == .function && env.kindOf n == some .cell)=true
   ·have e:k'=.free:=by
     have:=(bX _ _ ▸ (bX _ _ ▸ hc).1).1
     simpa using this
    exact ⟨k',by simp [cF,hx],.inl e⟩
   ·simp only [if_neg hc,cF,hx] at h
    exact ⟨k',by simp [cF,hx],.inr (cf h)⟩
  | false =>
   have h':(r.map fun (n,k)=>if (k == cX && env.scope.kind == .function && env.kindOf n == some .cell) then (n,lO) else (n,k)).lookup x=some k:=by
    by_cases hc:(k' == cX && env.scope.kind == .function && env.kindOf n == some .cell)=true
    ·simp only [if_pos hc,cF,hx] at h;exact h
    ·simp only [if_neg hc,cF,hx] at h;exact h
   obtain ⟨q,e,r'⟩:=ih h'
   exact ⟨q,by simp only [cF,hx];exact e,r'⟩
theorem Zf {env:Env}:∀ {names:List (Str × NameKind)} {x:Str},names.lookup x=some .free →
  ((names.map fun (n,k)=>if (k == cX && env.scope.kind == .function && env.kindOf n == some .cell) then (n,lO) else (n,k)).lookup x=some .cell ∨
   (names.map fun (n,k)=>if (k == cX && env.scope.kind == .function && env.kindOf n == some .cell) then (n,lO) else (n,k)).lookup x=some .free)
 | [],_,h=>by simp at h
 | (n,k') :: r,x,h=>by
  have ih:=@Zf env r x
  rw [bW]
  cases hx:x == n with
  | true =>
   simp only [cF,hx] at h
   cases h
   by_cases hc:(cX == cX && env.scope.kind == .function && env.kindOf n == some .cell)=true
   ·left;simp only [if_pos hc,cF,hx]
   ·right;simp only [if_neg hc,cF,hx]
  | false =>
   simp only [cF,hx] at h
   by_cases hc:(k' == cX && env.scope.kind == .function && env.kindOf n == some .cell)=true
   ·simp only [if_pos hc,cF,hx];exact ih h
   ·simp only [if_neg hc,cF,hx];exact ih h
theorem Wi {env:Env}:∀ (l:List (Str × NameKind)) (cs:List (Str × Addr)),(∀ y∈l,y.2=.free→∃ c,env.cells.lookup y.1=some c) →
  (∀ y c,cs.lookup y=some c→env.cells.lookup y=some c)→∀ y c,(l.foldl (fun cs y=>if y.2 == .free then (y.1,(env.cells.lookup y.1).getD 0) :: cs else cs) cs).lookup y=some c→env.cells.lookup y=some c
 | [],_,_,h,y,c,e=>h y c e
 | z :: r,cs,hl,h,y,c,e=>by
  rw [eR] at e
  refine Wi r _ (fun y hy=>hl y (bB _ hy)) (fun y' c' e'=>?_) y c e
  by_cases hz:z.2=.free
  ·obtain ⟨c0,h0⟩:=hl z bF hz
   have hb:(z.2 == cX)=true:=by simpa using hz
   rw [if_pos hb,h0,cF] at e'
   cases hq:y' == z.1 with
   | true =>
    rw [hq] at e'
    have e2:y'=z.1:=by simpa using hq
    cases e'
    rw [e2];exact h0
   | false=>rw [hq] at e';exact h _ _ e'
  ·have hb:(z.2 == cX)=false:=by simpa using hz
   rw [hb] at e'
   exact h _ _ e'
theorem VV {env:Env}:∀ (l:List (Str × NameKind)) (cs:List (Str × Addr)) (y:Str),((∃ c,cs.lookup y=some c)∨(y,cX)∈l) →
  ∃ c,(l.foldl (fun cs y=>if y.2 == .free then (y.1,(env.cells.lookup y.1).getD 0) :: cs else cs) cs).lookup y=some c
 | [],_,_,h=>h.elim id fun z=>nomatch z
 | z :: r,cs,y,h=>by
  rw [eR]
  refine VV r _ y ?_
  rcases h with ⟨c,h⟩ | h
  ·left
   by_cases hz:(z.2 == cX)=true
   ·rw [if_pos hz,cF]
    cases y == z.1 with
    | true=>exact ⟨_,rfl⟩
    | false=>exact ⟨c,h⟩
   ·rw [if_neg hz];exact ⟨c,h⟩
  ·rcases bR.mp h with h | h
   ·left
    subst h
    rw [if_pos (by rfl),cF]
    simp
   ·exact .inr h
theorem WX {env:Env}:∀ (l:List (Str × NameKind)) (cs:List (Str × Addr)),(∀ y∈l,y.2=.free→∃ c,env.cells.lookup y.1=some c) →
  forIn (m:=Sem) l cs (fun x r=>match x with | (name,kind)=>if (kind == cX)=true then do let c ← cellOf env name;pure (fG ((name,c) :: r)) else pure (fG r)) =
   pure (l.foldl (fun cs y=>if y.2 == .free then (y.1,(env.cells.lookup y.1).getD 0) :: cs else cs) cs)
 | [],_,_=>rfl
 | (n,k) :: r,cs,h=>by
  rw [List.forIn_cons,eR]
  by_cases hz:(k == cX)=true
  ·obtain ⟨c,hc⟩:=h (n,k) bF (by simpa using hz)
   have e:cellOf env n=pure c:=by unfold cellOf;rw [hc]
   simp only [hz,if_true,e,pure_bind]
   rw [WX r _ fun y hy=>h y (bB _ hy)]
   simp only [hc,Option.getD_some]
  ·simp only [hz,if_false,pure_bind]
   exact WX r _ fun y hy=>h y (bB _ hy)
theorem Zg {X:Cx} {osc scope:Scope} {N:List Str} {ix:List Nat} (ok:X.Ok) (h:K9 osc N scope ix=true) (hs:X.env.scope=osc) (hN:X.N=N):kW X scope (j0 scope X.env) ix:=by
 subst hs hN
 unfold K9 at h
 rw [bX,bX,dm,dm] at h
 obtain ⟨⟨h1,h2⟩,h3⟩:=h
 have p:∀ y∈scope.names,y.2≠.cell∧(y.2=.local→scope.names.lookup y.1=some .local)∧(y.2=.free→X.env.kindOf y.1=some .cell∨X.env.kindOf y.1=some .free):=fun y hy=>by
  have q:=h2 y hy
  rw [bX,bX] at q
  obtain ⟨⟨q1,q2⟩,q3⟩:=q
  refine ⟨by simpa using q1,fun e=>?_,fun e=>?_⟩
  ·rw [e] at q2;simpa using q2
  ·rw [e] at q3
   have q3':X.env.scope.names.lookup y.1=some .cell∨X.env.scope.names.lookup y.1=some .free:=by simpa using q3
   exact q3'
 have f:∀ y∈scope.names,y.2=.free→∃ c,X.env.cells.lookup y.1=some c:=fun y hy e=>ok.has y.1 ((p y hy).2.2 e)
 refine ⟨?_,fun y hy=>(p y hy).1,by simpa using h1,fun y hy=>(p y hy).2.1,fun y c e=>Wi scope.names [] f (fun _ _ z=>by simp at z) y c e,fun y hy=>?_,fun i hi=>?_⟩
 ·have e:=WX scope.names [] f
  unfold closureFor j0
  refine Eq.trans (congrArg (fun m=>m >>= fun s=>(pure s:Sem (List (Str × Addr)))) e) ?_
  rw [pure_bind]
 ·refine VV scope.names [] y (.inr ?_)
  rcases hy with hy | hy
  ·obtain ⟨k',e,z | z⟩:=jo hy
   ·subst z;exact wg e
   ·subst z;exact absurd rfl (p _ (wg e)).1
  ·obtain ⟨k',e,z | z⟩:=jo hy
   ·subst z;exact wg e
   ·subst z;exact wg e
 ·have q:=h3 i hi
  cases hy:X.N[i]? with
  | none=>rw [hy] at q;cases q
  | some y =>
   rw [hy] at q
   have q':scope.names.lookup y=some .free:=by simpa using q
   exact ⟨y,rfl,(p _ (wg q')).2.2 rfl,Zf q'⟩
def Yh (ix:List Nat) (σ:St):St:=ix.map fun i=>(σ[i]?).getD none
def v4 (ix:List Nat) (N:List Str):List Str:=ix.map fun i=>(N[i]?).getD ""
section
variable {X:Cx} {pins:List (Addr × Obj)} {σ:St} {H:Hp} {s:Shared} {scope:Scope} {cl:List (Str × Addr)} {ix:List Nat} {fp:List Addr} {C:Addr} {xs:List Str}
theorem Inv.compOk (I:Inv X pins σ H s) (S:kW X scope cl ix) (hC:C=s.heap.objs.size) (hf:∀ b∈fp,jZ X pins H b) (hl:∀ b∈fp,b < s.heap.objs.size) (N':List Str) :
  (X.comp scope cl C N' fp s H).Ok where
 mod:=I.ok.mod
 kind:=S.kind
 glob:=I.ok.glob
 blt:=I.ok.blt
 above:=ms hC.symm
 inj:=fun x y c h1 h2=>I.ok.inj x y c (S.sub x c h1) (S.sub y c h2)
 has:=fun x hx=>S.has x hx
 cab:=fun x c h1 _=>nomatch h1
 hd:=I.ok.hd
 frames:=I.ok.frames
 stk:=.inl rfl
 exf:=fun b hb=>⟨fun z=>absurd (hl b hb) (by rw [z];show ¬ C < _;rw [hC];exact eY _),fun x c h=>(hf b hb).2.2.2.2.1 x c (S.sub x c h)⟩
 bs:=I.bs
 bsz:=bU I.ok.bsz I.sz
 noex:=fun b o e hb=>by
  rcases (hf b hb).2.2.2.1 with z | z
  ·exact I.ok.noex b o e z
  ·exact absurd (cg (bS e) (bU I.ok.bsz z)) (eY _)
 exfs:=fun b hb z=>by
  rcases bR.mp (I.stkSub b z) with e | e
  ·exact (hf b hb).2.1 e
  ·exact (hf b hb).2.2.1 e
 funs:=I.stack
 frf:=I.stkFree
theorem Inv.comp {h₁:Heap} {m₁:Str→Option Value} {t':Nat} (I:Inv X pins σ H s) (S:kW X scope cl ix) (hC:C=s.heap.objs.size) (hf:∀ b∈fp,jZ X pins H b) (hl:∀ b∈fp,b < s.heap.objs.size)
  (hn:h₁.Ns C m₁) (hk:∀ b o,s.heap.get? b=some o→h₁.get? b=some o) :
  Inv (X.comp scope cl C (xs ++ v4 ix X.N) fp s H) [] (bw xs.length none ++ Yh ix σ) H { s with heap:=h₁,toks:=t' } where
 ok:=I.compOk S hC hf hl _
 os:=rfl
 bare:=I.bare
 base:=Un.kept hk
 loc:=by
  refine ⟨m₁,hn,fun i y v e1 e2 e3=>?_⟩
  by_cases hi:i < xs.length
  ·rw [eL (by simpa using hi),lL,if_pos hi] at e2
   cases e2
  ·have e1':(xs ++ v4 ix X.N)[i]?=some y:=e1
   rw [eE (by lia)] at e1'
   rw [eE (by rw [fE];lia),fE] at e2
   generalize i - xs.length=j at e1' e2
   unfold v4 at e1'
   unfold Yh at e2
   rw [bN] at e1' e2
   cases hj:ix[j]? with
   | none=>rw [hj] at e1';cases e1'
   | some k =>
    rw [hj] at e1' e2
    obtain ⟨y',c1,c2,c3⟩:=S.cap k (cL hj)
    have ey:y'=y:=by
     have q:(X.N[k]?).getD ""=y:=cf e1'
     rw [c1] at q
     exact q
    subst ey
    have ev:σ[k]?=some (some v):=by
     have q:(σ[k]?).getD none=some v:=cf e2
     cases hs:σ[k]? with
     | none=>rw [hs] at q;cases q
     | some o=>rw [hs] at q;exact congrArg some q
    obtain ⟨m,hm,hv⟩:=I.loc
    obtain ⟨u,r,l⟩:=hv k y' v c1 ev (c2.elim (fun z=>.inr (.inl z)) fun z=>.inr (.inr z))
    refine ⟨u,r,.inr ⟨c3,?_⟩⟩
    rcases l with ⟨l1,_⟩ | ⟨_,c,lc,⟨o,ho,hd⟩⟩
    ·rcases c2 with z | z <;> (rw [l1] at z;cases z)
    ·obtain ⟨c',hc'⟩:=S.has y' c3
     have e:=S.sub _ _ hc'
     rw [lc] at e
     cases e
     exact ⟨c,hc',o,hk _ _ ho,hd⟩
 cell:=fun x c e=>by
  obtain ⟨v,o,ho,hd⟩:=I.cell x c (S.sub x c e)
  exact ⟨v,o,hk _ _ ho,hd⟩
 free:=I.hok.fresh (ms hC.symm)
 freeC:=fun x c e=>I.freeC x c (S.sub x c e)
 pin:=fun p hp=>absurd (show p∈([]:List (Addr × Obj)) from hp) (by simp)
 hok:=I.hok.kept hk
 len:=by
  show (bw xs.length none ++ Yh ix σ).length=(xs ++ v4 ix X.N).length
  rw [bz,bz,fE,Yh,v4,bt,bt]
theorem Inv.uncomp {s':Shared} {σ':St} {H':Hp} {N':List Str} {h':Heap} (I:Inv X pins σ H s) (hC:C=s.heap.objs.size) (hf:∀ b∈fp,jZ X pins H b)
  (J:Inv (X.comp scope cl C N' fp s H) [] σ' H' s') (hb:cJ C s'.heap h'):Inv X pins σ H' { s' with heap:=h' }:=by
 have lt:∀ b o,s.heap.get? b=some o→b≠C:=fun b o e=>by
  rw [hC];exact ck (bS e)
 have B:Un (frs X.stack) fp H H' s.heap s'.heap:=J.base
 refine I.call' (s':={ s' with heap:=h' }) (ch:=fp) J.os ?_ ?_ J.bare ?_
 ·exact ⟨fun b o e n h1 h2=>(hb.2 b (lt b o e)).trans (B.keep b o e n h1 h2),fun b o e n h1 h2=>by
   obtain ⟨sl,q⟩:=B.slot b o e n h1 h2
   exact ⟨sl,(hb.2 b (lt b o e)).trans q⟩,B.free,fun b o e h1=>by
   obtain ⟨o',q⟩:=B.there b o e h1
   exact ⟨o',(hb.2 b (lt b o e)).trans q⟩,B.tups,B.frzs,B.tbls⟩
 ·intro b o e
  refine (J.hok b o e).stay (fun c u hc q=>(hb.2 c ?_).trans q) (fun _ q=>q) fun _ _ q=>q
  have hC0:H' C=none:=J.free
  rintro rfl
  rcases hc with rfl | hc
  ·rw [hC0] at e;cases e
  ·rw [hC0] at hc;cases hc
 ·intro b hb'
  obtain ⟨f0,f1,f2,f3,f4,f5⟩:=hf b hb'
  exact ⟨f3,f1,f4,f5⟩
end
def PTs (X:Cx) (ifs:List Expr) (t:TT):Prop :=
 ∀ (pins:List (Addr × Obj)) (s:Shared) (σ:St) (H:Hp) (Q:Bool→Hp→Prop),Inv X pins σ H s→t σ H Q →
  wpAny (model X.prog X.w) X.A (forIn ifs true fun c r=>if r=true then do let ok ← isTrue c X.env (eval c X.env);pure (fG ok) else pure (fG r)) (TP X pins σ Q) X.xe s
def Yi:TT:=fun _ H Q=>Q true H
theorem kX {X:Cx}:PTs X [] Yi:=fun _ _ _ H _ I h=>wpAny_tests_nil ⟨H,I,h⟩
theorem Qa {X:Cx} {c:Expr} {t:TT} (h:PT X c t):PTs X [c] t:=fun pins s σ H Q I q=>wpAny_tests_one (h pins s σ H Q I q)
section
variable {prog:Program} {w:World} {A:Around} {R:Result→Shared→Prop} {s:Shared}
theorem WY {elt target iter:Expr} {ifs:List Expr} {scope:Scope} {pos:Pos} {it acc:Value} {env:Env} (W:Nat→Shared→Prop) {EE:Value→Shared→Prop}
  (hE:∀ e s',EE e s'→notedBy (model prog w) A env (fun e s'=>R (.error e) s') e s')
  (turn:∀ n s,W n s→wpAny (model prog w) A (pyNext it) (fun r s₁=>match r with
   | none=>R (.ok .next) s₁
   | some v=>wpAny (model prog w) A (letOwnedTupleGo target it v) (fun _ t₁=>wpAny (model prog w) A (assign target env v) (fun _ s₂ =>
     wpAny (model prog w) A (forIn ifs true fun c r=>if r=true then do let ok ← isTrue c env (eval c env);pure (fG ok) else pure (fG r)) (fun ok s₃ =>
      if ok=true then wpAny (model prog w) A (eval elt env) (fun x s₄=>wpAny (model prog w) A (call (.builtin "list.append") [acc,x]) (fun _ s₅=>∃ m,m < n∧W m s₅) EE s₄) EE s₃
      else ∃ m,m < n∧W m s₃) EE s₂) EE t₁) EE s₁) EE s)
  (n:Nat) (h:W n s):codeAny (model prog w) A (.compLoop (.ListComp elt [⟨target,iter,ifs,0⟩] scope pos) 0 it acc env) R s:=by
 refine codeAny_loop rfl W (fun n s hW=>?_) n h
 show wpAny _ A ((compTurn (.ListComp elt [⟨target,iter,ifs,0⟩] scope pos) 0 it acc env).onRaise (fun x=>do noteFrame x env;theTreesLotGoes x)) _ _ s
 refine wpAny_noted (cG ?_ (fun _ _ q=>q) hE)
 rw [compTurn_list]
 refine bd (wpAny_standAt (bd (thn (turn n s hW) fun r s₁ h₁=>?_)))
 cases r with
 | none=>exact bj h₁
 | some v =>
  refine bd (thn h₁ fun _ t₁ k₁=>?_)
  refine bd (thn k₁ fun _ s₂ h₂=>bd (thn h₂ fun ok s₃ h₃=>?_))
  cases ok with
  | false=>exact bj ⟨rfl,h₃⟩
  | true=>exact bd (bd (thn h₃ fun x s₄ h₄=>bd (thn h₄ fun _ s₅ h₅=>bj (bj ⟨rfl,h₅⟩))))
end
def xM (wi:TI) (g:TG) (tt:TT) (te:TE) (k:Nat) (ix:List Nat):TE:=fun σ H Q=>wi σ H fun J H1=>∀ D,H1 D=none →
 ∃ W:Nat→Nat→List V→St→Hp→Prop,(∃ m,W 0 m [] (bw k none ++ Yh ix σ) (upd H1 D (.lst [])))∧∀ i m ys τ H,W i m ys τ H→H D=some (.lst ys) ∧
  ((J.stop i H∧Q (.ref D) H)∨(J.go i H∧ys.length < sizeLine∧∃ N:V→St→Hp→Prop,
   (∀ v τ' H',N v τ' H'→H' D=some (.lst ys)∧∃ m',m' < m∧W (i + 1) m' (ys ++ [v]) τ' (upd H' D (.lst (ys ++ [v]))))∧∃ Nf:St→Hp→Prop,(∀ τ' H',Nf τ' H'→∃ m',m' < m∧W (i + 1) m' ys τ' H') ∧
   ∀ x H',J.yld i H x H'→g x τ H' fun τ2 H2=>tt τ2 H2 fun b H3=>if b=true then te τ2 H3 fun v H4=>N v τ2 H4 else Nf τ2 H3))
section
variable {X:Cx} {elt iter tg:Expr} {ifs:List Expr} {scope:Scope} {pos:Pos} {cl:List (Str × Addr)} {ix:List Nat} {xs:List Str} {wi:TI} {g:TG} {tt:TT} {te:TE}
theorem YQ (S:kW X scope cl ix) (hc:X.calm=true) (hi:PI X tg iter wi)
  (hg:∀ C fp s H,PG (X.comp scope cl C (xs ++ v4 ix X.N) fp s H) tg g) (ht:∀ C fp s H,PTs (X.comp scope cl C (xs ++ v4 ix X.N) fp s H) ifs tt)
  (he:∀ C fp s H,PE (X.comp scope cl C (xs ++ v4 ix X.N) fp s H) elt te)
  {pins:List (Addr × Obj)} {s:Shared} {σ:St} {H:Hp} {Q:VK} (I:Inv X pins σ H s) (h:xM wi g tt te xs.length ix σ H Q) {RR:Value→Addr→Result→Shared→Prop}
  (hR:∀ v u s' C,RelV v u→(∃ H',Q v H'∧(∃ m,s'.heap.Ns C m)∧(∀ h',cJ C s'.heap h'→Inv X pins σ H' { s' with heap:=h' })∧jZ X pins H' C)→RR u C (.ok .next) s') :
  wpAny (model X.prog X.w) X.A (eval iter X.env) (fun x s₁=>wpAny (model X.prog X.w) X.A (pyIter x) (fun it s₂=>wpAny (model X.prog X.w) X.A (newList []) (fun acc s₃ =>
   wpAny (model X.prog X.w) X.A (newFunctionEnv scope X.env.globals cl [] X.env.qual none .none (some X.env)) (fun cenv s₄ =>
    codeAny (model X.prog X.w) X.A (.compStart (.ListComp elt [⟨tg,iter,ifs,0⟩] scope pos) 0 it acc { cenv with scope:=relabel scope X.env }) (RR acc cenv.locals) s₄) X.xe s₃) X.xe s₂) X.xe s₁) X.xe s:=by
 refine thn (hi pins s σ H _ I h) fun v s1 h1=>thn h1 fun itv s2 h2=>?_
 obtain ⟨it,fp,tn,J,H2,e,I2,T,st2,f2,hW⟩:=h2
 subst e
 refine cU (wpAny_newFunctionEnv S.nocell (fun y hy=>nomatch hy) (fun h₁ hns₁ hsb₁=>?_) S.kind)
 dsimp only at hns₁ hsb₁ ⊢
 obtain ⟨W,⟨m0,w0⟩,turn⟩:=hW s2.heap.objs.size I2.fresh
 have I3:=I2.lnew (t':=s2.toks) (ys:=[]) (its:=[]) .nil (b8 _)
 have hl3:∀ b∈fp,b < s2.heap.objs.size:=fun b hb=>by
  obtain ⟨o,e,_⟩:=T.obj _ _ st2 b hb
  exact bS e
 generalize hs3:({ s2 with heap:=s2.heap.push { cls:=.type "list",data:=.seq ([]:List Value).toArray },toks:=s2.toks }:Shared)=s3 at I3
 have hs3h:s3.heap=s2.heap.push { cls:=.type "list",data:=.seq ([]:List Value).toArray }:=by rw [← hs3]
 have hsz:s3.heap.objs.size=s2.heap.objs.size + 1:=by rw [hs3h,fV]
 have f3:∀ b∈fp,jZ X pins (upd H2 s2.heap.objs.size (.lst [])) b:=fun b hb=>by
  obtain ⟨q0,q⟩:=f2 b hb
  exact ⟨by rw [zj (ck (hl3 b hb))];exact q0,q⟩
 have hl3':∀ b∈fp,b < s3.heap.objs.size:=fun b hb=>by rw [hsz];exact Nat.lt_succ_of_lt (hl3 b hb)
 rw [← hs3h] at hns₁ hsb₁ ⊢
 have hk:∀ b o,s3.heap.get? b=some o→h₁.get? b=some o:=fun b o e=>(hsb₁.2 b (ck (bS e))).trans (bi _ e)
 have hk2:∀ b o,s2.heap.get? b=some o→s3.heap.get? b=some o:=fun b o e=>by rw [hs3h];exact bi _ e
 have J0:=I3.comp (xs:=xs) (t':=s2.toks) (C:=s3.heap.objs.size) S rfl f3 hl3' hns₁ hk
 have st3:tn 0 h₁:=T.keep _ _ _ st2 fun b _ o e=>hk b o (hk2 b o e)
 have loop:∀ tk,codeAny (model X.prog X.w) X.A (.compLoop (.ListComp elt [⟨tg,iter,ifs,0⟩] scope pos) 0 (.ref it) (.ref s2.heap.objs.size) (compEnvC scope cl s3.heap.objs.size X.env))
   (RR (.ref s2.heap.objs.size) s3.heap.objs.size) { s3 with heap:=h₁,toks:=tk }:=by
  intro tk
  refine WY (EE:=fun _ _=>False) (fun n s'=>∃ i ys τ H',Inv (X.comp scope cl s3.heap.objs.size (xs ++ v4 ix X.N) fp s3 (upd H2 s2.heap.objs.size (.lst []))) [] τ H' s'∧tn i s'.heap∧(∀ b∈fp,H' b=none)∧W i n ys τ H')
   (fun _ _ z=>z.elim) ?_ m0 ⟨0,[],_,_,J0.tok tk,st3,fun b hb=>(f3 b hb).1,w0⟩
  rintro n s' ⟨i,ys,τ,H',I',st',fr',w'⟩
  have stat:∀ {H':Hp},(∀ b∈fp,H' b=none)→∀ b∈fp,jZ (X.comp scope cl s3.heap.objs.size (xs ++ v4 ix X.N) fp s3 (upd H2 s2.heap.objs.size (.lst []))) [] H' b:=fun hn b hb =>
   ⟨hn b hb,(I'.ok.exf b hb).1,I'.ok.exfs b hb,.inl hb,(I'.ok.exf b hb).2,fun p hp=>absurd (show p∈([]:List (Addr × Obj)) from hp) (by simp)⟩
  obtain ⟨hD,⟨stop,q⟩ | ⟨go,hz,N,hN,Nf,hNf,step⟩⟩:=turn i n ys τ H' w'
  ·refine thn (T.done (X.comp scope cl s3.heap.objs.size (xs ++ v4 ix X.N) fp s3 (upd H2 s2.heap.objs.size (.lst []))) rfl rfl rfl hc i [] s' τ H' _ I' (stat fr') st' stop) fun r s4 ⟨hr,I4⟩=>?_
   subst hr
   refine hR (.ref s2.heap.objs.size) _ s4 _ rfl ⟨H',q,?_,fun h' hb=>I3.uncomp rfl f3 I4 hb,I3.fpOk (bo _) I4.free⟩
   obtain ⟨m,hn,_⟩:=I4.loc
   exact ⟨m,hn⟩
  ·refine thn (T.item (X.comp scope cl s3.heap.objs.size (xs ++ v4 ix X.N) fp s3 (upd H2 s2.heap.objs.size (.lst []))) rfl rfl rfl hc i [] s' τ H' _ I' (stat fr') st' go) fun r s4 ⟨u,hr,h4⟩=>?_
   subst hr
   refine thn h4 fun _ s5 ⟨x,H5,I5,r5,y5,st5,fr5⟩=>?_
   have I5':=I5.pinned (stat fr5) (T.obj _ _ st5)
   refine thn (hg _ _ _ _ _ s5 τ H5 x u _ I5' r5 (step x H5 y5)) fun _ s6 ⟨τ6,H6,I6,q6⟩=>?_
   refine thn (ht _ _ _ _ _ s6 τ6 H6 _ I6 q6) fun ok s7 ⟨H7,I7,q7⟩=>?_
   have back:∀ {s8:Shared} {H8:Hp} {m:Nat} {zs:List V},Inv (X.comp scope cl s3.heap.objs.size (xs ++ v4 ix X.N) fp s3 (upd H2 s2.heap.objs.size (.lst []))) ([] ++ YG fp s5.heap) τ6 H8 s8→W (i + 1) m zs τ6 H8 →
     ∃ i ys τ H',Inv (X.comp scope cl s3.heap.objs.size (xs ++ v4 ix X.N) fp s3 (upd H2 s2.heap.objs.size (.lst []))) [] τ H' s8∧tn i s8.heap∧(∀ b∈fp,H' b=none)∧W i m ys τ H':=fun {s8 H8 m zs} I8 w8=>by
    refine ⟨i + 1,zs,τ6,H8,I8.unpinned,T.keep _ _ _ st5 fun b hb o e=>(I8.pin (b,o) (bY _ (bY _ (jk hb e)))).1,fun b hb=>?_,w8⟩
    obtain ⟨o,e,d⟩:=T.obj _ _ st5 b hb
    exact (I8.pin (b,o) (bY _ (bY _ (jk hb e)))).2.1
   cases ok with
   | false =>
    rw [if_neg bK] at q7 ⊢
    obtain ⟨m',hm,w7⟩:=hNf _ _ q7
    exact ⟨m',hm,back I7 w7⟩
   | true =>
    rw [if_pos rfl] at q7 ⊢
    refine thn (he _ _ _ _ _ s7 τ6 H7 _ I7 q7) fun y s8 ⟨v8,H8,I8,r8,n8⟩=>?_
    obtain ⟨hD8,m',hm,w8⟩:=hN _ _ _ n8
    refine thn (xQ _ s8 τ6 H8 (.ref s2.heap.objs.size) [v8] (.ref s2.heap.objs.size) [y] (fun _ Hn=>∃ m,m < n∧W (i + 1) m (ys ++ [v8]) τ6 Hn) I8 rfl (.cons r8 .nil) ⟨_,ys,v8,rfl,rfl,hD8,hz,m',hm,w8⟩) fun _ s9 ⟨_,H9,I9,_,m9,hm9,w9⟩=>?_
    exact ⟨m9,hm9,back I9 w9⟩
 have e3:∀ tk,({ s3 with heap:=h₁,toks:=tk }:Shared)={ s2 with heap:=h₁,toks:=tk }:=fun tk=>by rw [← hs3]
 have loop':∀ tk,codeAny (model X.prog X.w) X.A (.compLoop (.ListComp elt [⟨tg,iter,ifs,0⟩] scope pos) 0 (.ref it) (.ref s2.heap.objs.size) (compEnvC scope cl s3.heap.objs.size X.env))
   (RR (.ref s2.heap.objs.size) s3.heap.objs.size) { s2 with heap:=h₁,toks:=tk }:=fun tk=>by rw [← e3];exact loop tk
 exact codeAny_compStart_list (loop' _) (T.self _ 0 _ _ _ st3 (loop' _))
theorem jp {osc:Scope} {N:List Str} (hc:X.calm=true) (hD:K9 osc N scope ix=true) (hi:PI X tg iter wi)
  (hg:∀ C fp s H,PG (X.comp scope (j0 scope X.env) C (xs ++ v4 ix X.N) fp s H) tg g) (ht:∀ C fp s H,PTs (X.comp scope (j0 scope X.env) C (xs ++ v4 ix X.N) fp s H) ifs tt)
  (he:∀ C fp s H,PE (X.comp scope (j0 scope X.env) C (xs ++ v4 ix X.N) fp s H) elt te) (hsc:X.env.scope=osc:=by rfl) (hN:X.N=N:=by rfl) (hs:∀ x,foldedSetIterable iter X.env x=pure x:=by intro _;rfl) :
  PE X (.ListComp elt [⟨tg,iter,ifs,0⟩] scope pos) (xM wi g tt te xs.length ix):=by
 intro pins s σ H Q I h
 have S:=Zg I.ok hD hsc hN
 rw [eval_ListComp]
 refine lE (use:=none) rfl hs S.clos S.kind S.names (YQ S hc hi hg ht he I h (RR:=fun acc C=>compPost (model X.prog X.w) X.A X.xe none (EP X pins σ Q) acc C) ?_)
 rintro v u s' C r ⟨H',q,⟨m,hn⟩,hI,_⟩
 exact ⟨m,hn,fun h' hb=>⟨v,H',hI h' hb,r,q⟩⟩
theorem Kd {osc:Scope} {N:List Str} {y:Str} {py:Pos} {j:Nat} {spos:Pos} (hNd:X.N.Nodup) (hj:X.N[j]?=some y) (hc:X.calm=true) (hy:Loc X.env.scope y) (hD:K9 osc N scope ix=true) (hi:PI X tg iter wi)
  (hg:∀ C fp s H,PG (X.comp scope (j0 scope X.env) C (xs ++ v4 ix X.N) fp s H) tg g) (ht:∀ C fp s H,PTs (X.comp scope (j0 scope X.env) C (xs ++ v4 ix X.N) fp s H) ifs tt)
  (he:∀ C fp s H,PE (X.comp scope (j0 scope X.env) C (xs ++ v4 ix X.N) fp s H) elt te) (hsc:X.env.scope=osc:=by rfl) (hN:X.N=N:=by rfl)
  (hsw:swapsWith (.ListComp elt [⟨tg,iter,ifs,0⟩] scope pos) (some (.Name y py)) spos.line X.env=pure true:=by rfl)
  (hs:∀ x,foldedSetIterable iter X.env x=pure x:=by intro _;rfl) (hf:X.fn y=true∨X.env.scope.names.lookup y=some .local:=by first | exact .inl rfl | exact .inr rfl | assumption) :
  PS X (.Assign [.Name y py] (.ListComp elt [⟨tg,iter,ifs,0⟩] scope pos) spos) (zF (xM wi g tt te xs.length ix) (zm j)):=by
 intro pins s σ H D I h
 have S:=Zg I.ok hD hsc hN
 rw [exec_Assign_Name_used _ _ _ _ hsw]
 refine bd (wpAny_standAt (bd ?_))
 show wpAny _ X.A (do let _ ← comprehension (.ListComp elt [⟨tg,iter,ifs,0⟩] scope pos) scope X.env _ (newList []) false (eval iter X.env) (some (assign (.Name y py) X.env))) _ _ s
 refine bd (thn (lE (use:=some (assign (.Name y py) X.env)) (Q:=fun _ s'=>SP X pins D .next s') rfl hs S.clos S.kind S.names
  (YQ S hc hi hg ht he I h (RR:=fun acc C=>compPost (model X.prog X.w) X.A X.xe (some (assign (.Name y py) X.env)) (fun _ s'=>SP X pins D .next s') acc C) ?_)) fun _ s' hq=>bj (bj hq))
 rintro v u s' C r ⟨H',q,⟨m,hn⟩,hI,f0,f1,f2,f3,f4,f5⟩
 have I':Inv X pins σ H' s':=hI s'.heap (.refl ..)
 show wpAny _ X.A (assign (.Name y py) X.env u) _ _ _
 refine wpAny_assign_Name (X6 I' hNd hj hy r (fun s2 I2 hx=>?_) hf)
 obtain ⟨a,hb,ha⟩:=hx
 have hCa:C≠a:=by
  rcases ha with rfl | ha
  ·exact f1
  ·exact cK (f4 _ _ ha)
 refine ⟨m,hn.sameBut hb hCa,fun h' hb'=>⟨_,H',?_,q⟩⟩
 exact I2.turned (t':=s2.toks) (fun b o hne e=>(hb'.2 b hne).trans e) f0 f1 f3 f4 f5
end
abbrev jQ:R2:=fun x y H Q=>∃ i j,x=.str i∧y=.str j∧i.length + j.length≤sizeLine∧Q (.str (i ++ j)) H
abbrev zfa:R2:=fun x y H Q=>y=.non∧Q (.bl (decide (x=.non))) H
abbrev Qb:R2:=fun x y H Q=>y=.non∧Q (.bl (!decide (x=.non))) H
abbrev RC:=List V→Hp→VK→Prop
abbrev xS (K:bx):RC:=fun xs H Q=>∃ x n,xs=[x]∧qx K x H n∧Q (.int n) H
abbrev Yj (K:bx):RC:=fun xs H Q=>∃ x c t b,xs=[x,c]∧Zc K H x t∧(∃ T,c=.ty T∧dF K t (.type T)=some b)∧Q (.bl b) H
abbrev RM:=V→List V→Hp→VK→Prop
theorem zcP {H:Hp} {p:Addr} {o:HO} (h:H p=none):∃ H',H'=upd H p o∧Same H H'∧H' p=some o :=
 ⟨_,rfl,fun b u e=>by rw [zj (zJ e h)];exact e,ze⟩
theorem isV (p:Addr) {H:Hp} {o:HO} (h:H p=none):Same H (upd H p o):=fun b u e=>by rw [zj (zJ e h)];exact e
theorem zU {n:Nat} (h:n≤100000):n≤sizeLine:=bU h (by decide)
theorem xD:bootBuiltins "len"=some (.builtin "len"):=by decide +kernel
theorem zX:bootBuiltins "isinstance"=some (.builtin "isinstance"):=by decide +kernel
theorem v5:bootBuiltins "sorted"=some (.builtin "sorted"):=by decide +kernel
theorem zaV:bootBuiltins "str"=some (.type "str"):=by decide +kernel
theorem zaW:bootBuiltins "int"=some (.type "int"):=by decide +kernel
theorem Qc:bootBuiltins "bool"=some (.type "bool"):=by decide +kernel
theorem xg:bootBuiltins "list"=some (.type "list"):=by decide +kernel
theorem YR:bootBuiltins "tuple"=some (.type "tuple"):=by decide +kernel
theorem WZ:bootBuiltins "dict"=some (.type "dict"):=by decide +kernel
theorem XH:bootBuiltins "ValueError"=some (.type "ValueError"):=by decide +kernel
section
variable {X:Cx}
def big:Int:=10 ^ 200
def zaX (_ j:Int):Prop:=0 < j∧j < big
def CMulB (i j:Int):Prop:=(-big < i∧i < big)∧(-big < j∧j < big)
theorem YS {j:Int} (h:j.natAbs < 10 ^ 200):j.natAbs.log2 < 700:=by
 by_cases h0:j.natAbs=0
 ·rw [h0];decide
 ·exact (Nat.log2_lt h0).mpr (cg h (by decide +kernel))
theorem W0 {j:Int} (h:-big < j∧j < big):j.natAbs < 10 ^ 200:=by
 have e:big=((10 ^ 200:Nat):Int):=by decide +kernel
 rw [e] at h
 lia
theorem CMulB.ok {i j:Int} (h:CMulB i j):IntMulOk i j:=by
 have b:∀ k:Int,(-big < k∧k < big)→iH k≤2 ^ 20:=fun k hk=>by
  have q:=YS (W0 hk)
  unfold iH
  split <;> lia
 exact .of_bits (b i h.1) (b j h.2)
theorem xZ:OpR X (binaryOp .Mult) (rI CMulB fun i j=>.int (i * j)):=opI fun _ _ _ _ _ _ _ hc q=>mul_int q hc.ok
theorem zaY:OpR X (binaryOp .FloorDiv) (rI zaX fun i j=>.int (i / j)):=opI fun i j _ _ _ _ _ hc q=>by
 have h1:(0:Int) < j:=hc.1
 refine floordiv_int (by lia) ?_ (.inl (lF (nZ (YS (W0 ⟨by have:=hc.2;lia,hc.2⟩)) (by decide))))
 rw [Int.fdiv_eq_ediv_of_nonneg i (by lia)]
 exact q
theorem wS:wR X (.builtin "isinstance") (Yj X.K):=by
 intro pins s σ H xs us Q I r h
 obtain ⟨x,c,t,b,rfl,ty,⟨T,rfl,e⟩,q⟩:=h
 obtain ⟨u,w',rfl,r1,r2⟩:=K0 r
 cases r2
 exact QV I r1 ty e fun tk=>⟨.bl b,H,I.tok tk,rfl,q⟩
def Ke:V→Option Int→Option Int→Hp→VK→Prop:=fun x lo hi H Q=>∃ z,x=.str z∧z.length≤sizeLine∧Q (.str (fm z lo hi)) H
theorem W1:SlR X Ke:=by
 intro pins s σ H x v vl vu lo hi sl Q I rx hs pl pu h
 obtain ⟨z,rfl,hz,q⟩:=h
 obtain ⟨t,rfl⟩:=rx
 obtain ⟨o,ho,hc,hd⟩:=hs
 refine ⟨"str",_,nE.lookup,nQ _ _ _,?_⟩
 obtain ⟨l,e1,e2⟩:∃ l:Option (Int × Tok),vl=partValue l∧lo=l.map (·.1):=by
  cases pl with
  | none=>exact ⟨none,rfl,rfl⟩
  | int i t=>exact ⟨some (i,t),rfl,rfl⟩
 obtain ⟨u,e3,e4⟩:∃ l:Option (Int × Tok),vu=partValue l∧hi=l.map (·.1):=by
  cases pu with
  | none=>exact ⟨none,rfl,rfl⟩
  | int i t=>exact ⟨some (i,t),rfl,rfl⟩
 subst e1 e2 e3 e4
 exact lP (l:=l) (u:=u) (st:=none) ⟨o,ho,hc,hd⟩ rfl
  (post_val_or_str ⟨bU (Txt.slice_le z _ _) hz,fun t' k=>⟨.str (fm z (l.map (·.1)) (u.map (·.1))),H,I.tok k,⟨t',rfl⟩,q⟩⟩)
end
theorem ObjOk.there {P:Program} {w:World} {H:Hp} {h:Heap} {a:Addr} {o:HO} (x:ObjOk P w H h a o):∃ u,h.get? a=some u:=by
 cases o with
 | lst xs=>obtain ⟨_,_,_,_,e⟩:=x;exact ⟨_,e⟩
 | tup xs=>obtain ⟨_,_,_,o,e,_⟩:=x;exact ⟨_,e⟩
 | dK kvs=>obtain ⟨_,_,_,_,o,_,_,e,_⟩:=x;exact ⟨_,e⟩
 | dT kvs=>obtain ⟨_,_,_,_,o,_,_,e,_⟩:=x;exact ⟨_,e⟩
 | set S n=>obtain ⟨o,_,_,_,e,_⟩:=x;exact ⟨_,e⟩
 | ins C dx fs=>obtain ⟨_,_,_,e,_⟩:=x;exact ⟨_,e⟩
 | own y=>exact x
 | xd fs=>obtain ⟨_,⟨o,_,_,e,_⟩,_⟩:=x;exact ⟨_,e⟩
 | rng lo hi=>obtain ⟨_,_,_,e⟩:=x;exact ⟨_,e⟩
 | frz ob u=>obtain ⟨e,_⟩:=x;exact ⟨_,e⟩
 | tbl ps=>exact ⟨_,(show h.get? a=some _ from x)⟩
 | met f y=>exact ⟨_,(show h.get? a=some _ from x)⟩
 | ext φ=>obtain ⟨_,e,_⟩:=x;exact e
def XF (g h:Heap) (H:Hp) (e:Addr) (cls:Value):Prop :=
 ∃ oe vs a0 T oT ts,h.get? e=some oe∧(oe.cls=cls∧vs[0]?=some a0)∧oe.data=.fields vs∧vs[1]?=some (.ref T)∧T≠e∧h.get? T=some oT∧oT.data=.fields ts∧ts[3]?=some .none ∧
  g.get? e=none∧g.get? T=none∧H e=none∧H T=none
def CX1 (P:Program) (w:World):CXT:=fun outer H s E ev s'=>∃ e cls H',ev=.ref e∧s'.os=s.os∧AllBare s'.gens∧Un (frs outer) [] H H' s.heap s'.heap∧HOk P w H' s'.heap∧XF s.heap s'.heap H' e cls∧E cls none H'
theorem wN {g h:Heap} (k:∀ b o,g.get? b=some o→∃ o',h.get? b=some o') {b:Addr} (e:h.get? b=none):g.get? b=none:=by
 cases q:g.get? b with
 | none=>rfl
 | some o =>
  obtain ⟨o',z⟩:=k b o q
  rw [e] at z;cases z
theorem XF.older {g g' h:Heap} {H:Hp} {e:Addr} {cls:Value} (x:XF g h H e cls) (k:∀ b o,g'.get? b=some o→∃ o',g.get? b=some o'):XF g' h H e cls:=by
 obtain ⟨oe,vs,a0,T,oT,ts,h1,h2,h3,h4,h5,h6,h7,h8,h9,h10,h11,h12⟩:=x
 exact ⟨oe,vs,a0,T,oT,ts,h1,h2,h3,h4,h5,h6,h7,h8,wN k h9,wN k h10,h11,h12⟩
section
variable {X:Cx} {pins:List (Addr × Obj)} {σ:St} {H:Hp} {s:Shared}
theorem Inv.stackFields (J:Inv X pins σ H s) {b:Addr} (hb:b∈frs X.stack):∃ o,s.heap.get? b=some o∧∀ vs,o.data≠.fields vs:=(J.stack.mem hb).2
theorem Inv.there0 (hex:X.ex=[]) (J:Inv X pins σ H s):∀ b o,X.s₀.heap.get? b=some o→∃ o',s.heap.get? b=some o':=fun b o e=>J.base.there b o e (by rw [hex];simp)
theorem Inv.behind {h2:Heap} {cs:List Addr} (hex:X.ex=[]) (J:Inv X pins σ H s) (hcs:∀ b∈cs,H b=none∧X.s₀.heap.get? b=none)
  (hB:∀ b o,s.heap.get? b=some o→b ∉ frs X.stack→b ∉ cs→h2.get? b=some o) (hF:∀ b o,s.heap.get? b=some o→b∈frs X.stack→∃ sl,h2.get? b=some { o with slots:=sl }) :
  Un X.fs [] X.H₀ H X.s₀.heap h2∧HOk X.prog X.w H h2:=by
 have B:Un X.fs [] X.H₀ H X.s₀.heap s.heap:=by have:=J.base;rw [hex] at this;exact this
 have nL:∀ b o,X.s₀.heap.get? b=some o→b≠X.env.locals:=fun b o e=>ck (cg (bS e) J.ok.above)
 have nC:∀ b o,X.s₀.heap.get? b=some o→b ∉ cs:=fun b o e z=>by rw [(hcs b z).2] at e;cases e
 have any:∀ b o,s.heap.get? b=some o→b ∉ cs→∃ sl,h2.get? b=some { o with slots:=sl }:=fun b o e n=>by
  by_cases hb:b∈frs X.stack
  ·exact hF b o e hb
  ·exact ⟨o.slots,hB b o e hb n⟩
 refine ⟨⟨fun b o e n h1 _=>?_,fun b o e n h1 _=>?_,B.free,fun b o e h1=>?_,B.tups,B.frzs,B.tbls⟩,fun b u e=>?_⟩
 ·refine hB b o (B.keep b o e n h1 (by simp)) (fun z=>?_) (nC b o e)
  rcases bR.mp (J.stkSub b z) with q | q
  ·exact nL b o e q
  ·exact h1 q
 ·obtain ⟨sl,q⟩:=B.slot b o e n h1 (by simp)
  obtain ⟨sl',q'⟩:=any b _ q (nC b o e)
  exact ⟨sl',q'⟩
 ·obtain ⟨o',q⟩:=B.there b o e (by simp)
  obtain ⟨sl,q'⟩:=any b o' q (nC b o e)
  exact ⟨_,q'⟩
 ·refine (J.hok b u e).stay (fun c v hc q=>?_) (fun _ q=>q) fun _ _ q=>q
  have hn:H c≠none:=by
   rcases hc with rfl | hc
   ·rw [e];simp
   ·rw [hc];simp
  exact hB c v q (fun z=>hn (J.stkFree c z)) fun z=>hn (hcs c z).1
theorem Inv.flown {B h2:Heap} {cs:List Addr} {e:Addr} {cls a0:Value} (hex:X.ex=[]) (J:Inv X pins σ H s) (hcs:∀ b∈cs,H b=none∧X.s₀.heap.get? b=none)
  (hB:∀ b o,s.heap.get? b=some o→b ∉ frs X.stack→b ∉ cs→B.get? b=some o) (hF:∀ b o,s.heap.get? b=some o→b∈frs X.stack→∃ sl,h2.get? b=some { o with slots:=sl })
  (he:H e=none) (he0:X.s₀.heap.get? e=none) (kb:B.StaysIn h2) (tr:h2.TracedW B e cls a0) :
  Un X.fs [] X.H₀ H X.s₀.heap h2∧HOk X.prog X.w H h2∧XF X.s₀.heap h2 H e cls:=by
 have hk:=J.behind (h2:=h2) hex hcs (fun b o q n1 n2=>kb b o (hB b o q n1 n2)) hF
 refine ⟨hk.1,hk.2,?_⟩
 obtain ⟨oe,vs,T,oT,ts,h1,h2',h3,h4,h5,h6,h7,h8,h9⟩:=tr
 have noT:∀ o,s.heap.get? T=some o→T∈cs:=fun o q=>by
  by_cases hb:T∈frs X.stack
  ·obtain ⟨o',q',nf⟩:=J.stackFields hb
   obtain ⟨sl,z⟩:=hF T o' q' hb
   rw [h7] at z
   have z':oT={ o' with slots:=sl }:=cf z
   exact absurd (by rw [← h8,z']) (nf ts)
  ·by_cases hc:T∈cs
   ·exact hc
   ·rw [hB T o q hb hc] at h5;cases h5
 refine ⟨oe,vs,a0,T,oT,ts,h1,h2',h3,h4,h6,h7,h8,h9,he0,?_,he,?_⟩
 ·cases q:X.s₀.heap.get? T with
  | none=>rfl
  | some o =>
   obtain ⟨o',q'⟩:=J.there0 hex T o q
   rw [(hcs T (noT o' q')).2] at q;cases q
 ·cases q:H T with
  | none=>rfl
  | some u =>
   obtain ⟨o,z⟩:=(J.hok T u q).there
   rw [(hcs T (noT o z)).1] at q;cases q
theorem Q4 {h':Heap} {e:Addr} {cls:Value} {vs:List Value} {E:XK} {EE:Value→Shared→Prop} (hst:X.stack=X.env :: X.outer∧X.env.frame=some X.env.locals) (hex:X.ex=[]) (J:Inv X pins σ H s) (hx:Heap.MadeExcOf s.heap h' e cls vs) (hE:E cls none H) :
  wpAny (model X.prog X.w) X.A (leaving X.env (.ref e)) (fun _ s2=>CX1 X.prog X.w X.outer X.H₀ X.s₀ E (.ref e) s2) EE { s with heap:=h' }:=by
 have fr:s.heap.FunFrames (eN s.heap (frs X.stack)) (X.env :: X.outer):=by
  have q:=fY (as:=frs X.stack) J.stack fun env he a ha=>eF.mpr ⟨env,he,ha⟩
  rw [hst.1] at q ⊢
  exact q
 refine wpAny_leaves_madeW (s:={ s with heap:=h' }) (base:=eN s.heap (frs X.stack)) (h:=s.heap) (by rw [J.ok.frames,hst.1]) hst.2 (fun b o q=>gS _ q) fr hx fun h2 t hfl _ _ hup=>?_
 obtain ⟨f1,f2,f3,f4⟩:=hfl
 have hF:∀ b o,s.heap.get? b=some o→b∈frs X.stack→∃ sl,h2.get? b=some { o with slots:=sl }:=fun b o q hb=>by
  obtain ⟨o',q',nf⟩:=J.stackFields hb
  rw [q] at q';cases q'
  exact hup b o (hx.keeps b o q) nf
 obtain ⟨r1,r2,r3⟩:=J.flown (cs:=[]) hex (fun b z=>nomatch z) (fun b o q n _=>gn _ q n) hF
  (by
   cases q:H e with
   | none=>rfl
   | some u =>
    obtain ⟨o,z⟩:=(J.hok e u q).there
    rw [hx.new] at z;cases z)
  (wN (J.there0 hex) hx.new) f1 f4
 exact ⟨e,cls,H,rfl,J.os,J.bare,r1,r2,r3,hE⟩
theorem zaZ {e:Addr} {cls:Value} {E:XK} {EE:Value→Shared→Prop} (hst:X.stack=X.env :: X.outer∧X.env.frame=some X.env.locals) (hex:X.ex=[]) (J:Inv X pins σ H s) (xf:XF X.s₀.heap s.heap H e cls) (hE:E cls none H) :
  wpAny (model X.prog X.w) X.A (leaving X.env (.ref e)) (fun _ s2=>CX1 X.prog X.w X.outer X.H₀ X.s₀ E (.ref e) s2) EE s:=by
 obtain ⟨oe,vs,a0,T,oT,ts,h1,h2,h3,h4,h5,h6,h7,h8,h9,h10,h11,h12⟩:=id xf
 have fr:s.heap.FunFrames (eN s.heap (frs X.stack ++ [e,T])) (X.env :: X.outer):=by
  have q:=fY (as:=frs X.stack ++ [e,T]) J.stack fun env he a ha=>dh _ (eF.mpr ⟨env,he,ha⟩)
  rw [hst.1] at q ⊢
  exact q
 refine wpAny_leaves_onW (base:=eN s.heap (frs X.stack ++ [e,T])) (a0:=a0) (by rw [J.ok.frames,hst.1]) hst.2
  ⟨fun b o q=>gS _ q,dX _ (bY _ (by simp)),fr,oe,vs,T,oT,ts,h1,h2,h3,h4,dX _ (bY _ (by simp)),h5,h6,h7,h8⟩ fun h2' hfl hup=>?_
 obtain ⟨f1,f2,f3,f4⟩:=hfl
 have hF:∀ b o,s.heap.get? b=some o→b∈frs X.stack→∃ sl,h2'.get? b=some { o with slots:=sl }:=fun b o q hb=>by
  obtain ⟨o',q',nf⟩:=J.stackFields hb
  rw [q] at q';cases q'
  exact hup b o q nf
 obtain ⟨r1,r2,r3⟩:=J.flown (cs:=[e,T]) hex (fun b z=>by
   have z':b=e∨b=T:=by simpa using z
   rcases z' with rfl | rfl
   ·exact ⟨h11,h9⟩
   ·exact ⟨h12,h10⟩) (fun b o q n n2=>gn _ q fun z=>(bV.mp z).elim n n2) hF h11 h9 f1 f4
 exact ⟨e,cls,H,rfl,J.os,J.bare,r1,r2,r3,hE⟩
end
def za0 (X:Cx) (E:XK):Prop:=∀ (pins:List (Addr × Obj)) (σ:St) (H:Hp) (s:Shared) (h':Heap) (e:Addr) (cls:Value) (vs:List Value),Inv X pins σ H s→Heap.MadeExcOf s.heap h' e cls vs→E cls none H→X.xe (.ref e) { s with heap:=h' }
section
variable {P:Program} {w:World} {K:bx} {mg:Str→Option Value} {base:Heap} {N:List Str} {qual:Str} {scope:Scope} {f:Addr} {cd:Value} {A:Around} {outer:List Env} {s₀:Shared} {H₀:Hp} {E:XK}
theorem xN:jl (CX1 P w) (qd (CX1 P w) P w K mg base N qual scope f cd A outer s₀ H₀ E) E:=by
 intro pins σ H s ev s' I hcx
 obtain ⟨e,cls,H',rfl,os,bare,un,hok,xf,hE⟩:=hcx
 have J:=I.call' (ch:=[]) os un hok bare (fun b z=>nomatch z)
 exact zaZ (X:=qd (CX1 P w) P w K mg base N qual scope f cd A outer s₀ H₀ E) ⟨rfl,rfl⟩ rfl J (xf.older (I.there0 rfl)) hE
theorem W4:za0 (qd (CX1 P w) P w K mg base N qual scope f cd A outer s₀ H₀ E) E:=by
 intro pins σ H s h' e cls vs I hx hE
 exact Q4 (X:=qd (CX1 P w) P w K mg base N qual scope f cd A outer s₀ H₀ E) ⟨rfl,rfl⟩ rfl I hx hE
theorem zfb:PassesOwn (model P w) (qd (CX1 P w) P w K mg base N qual scope f cd A outer s₀ H₀ E).A (qd (CX1 P w) P w K mg base N qual scope f cd A outer s₀ H₀ E).env (qd (CX1 P w) P w K mg base N qual scope f cd A outer s₀ H₀ E).xe:=PassesOwn.leaving
end
abbrev YT:List Value:=[.type "ValueError",.type "Exception",.type "BaseException",.type "object"]
abbrev j2:String:="ValueError.__new__"
def qD (C:Addr) (ta:TA) (E:XK):TS:=fun _ σ H=>ta σ H fun vs H1=>vs.length≤sizeLine∧E (.ref C) none H1
theorem zcQ {K:bx} {h:Heap} {C:Addr} {bmB:List Value} {newId:String} (X:K.In h) (q:my K C bmB newId=true) :
  ∃ bm N nm qn bs hdct sn sub ab col dd k0 k1 k2 k3 k5 mN,h.get? C=some (excClassObj nm qn C N bs bm hdct sn sub ab col dd k0 k1 k2 k3 k5 newId)∧h.Ns N mN∧mN "__init__"=none∧OwnTail h bmB bm:=by
 unfold my at q
 split at q
 case h_2=>cases q
 rename_i dd cd sl ho
 split at q
 case h_2=>cases q
 rename_i C' bm k0 k1 k2 k3 n k5 hm hs
 rw [bX,bX,bX,bX,bX] at q
 obtain ⟨⟨⟨⟨⟨q1,q2⟩,q3⟩,q4⟩,q5⟩,q6⟩:=q
 obtain rfl:C'=C:=by simpa using q1
 obtain rfl:n=newId:=by simpa using q2
 obtain ⟨nm,bs,mro,ns,qn,hd,sn,sub,ab,col,del⟩:=cd
 have hdel:del=false:=by simpa using q3
 have hm':mro=.ref C' :: bm:=hm
 subst hdel hm'
 have hsl:sl=#[k0,k1,k2,k3,some (.builtin n),k5]:=by
  apply Array.ext'
  exact hs
 subst hsl
 exact ⟨bm,ns,nm,qn,bs,hd,sn,sub,ab,col,dd,k0,k1,k2,k3,k5,_,X _ _ ho,.of_isNs (W.isNs_of_in X q5),W.nsMap_none_of_in X q5 (by simpa using q6),W.tail_of_in X q4⟩
section
variable {X:Cx} {x:Str} {C:Addr} {np cpos pos:Pos} {e₀:Expr} {rest:List Expr} {ta:TA} {E:XK}
theorem YU (hc:X.calm=true) (q:my X.K C YT j2=true) (hr:za0 X E) (hg:Gl X x) (hm:X.mg x=some (.ref C)) (ha:PA X (e₀ :: rest) ta)
  (he:starEach (e₀ :: rest) X.env=(false,eval e₀ X.env) :: starEach rest X.env:=by rfl) (hp:(backTo cpos (starEach rest X.env)).any (·.1)=false:=by rfl) (hd:(x == ("__debug__":Str))=false:=by decide) :
  PS X (.Raise (some (.Call (.Name x np) (e₀ :: rest) [] cpos)) none pos) (qD C ta E):=by
 intro pins s σ H D I h
 obtain ⟨tl,N,nm,qn,bs,hdct,sn,sub,ab,col,dd,k0,k1,k2,k3,k5,mN,hC,hN,hni,T⟩:=zcQ I.ok.mod.kin q
 refine wpAny_Raise_call_subT (C:=C) (nm:=nm) (q:=qn) (N:=N) (bs:=bs) (bm:=tl) (hdct:=hdct) (sn:=sn) (sub:=sub) (ab:=ab) (col:=col) (dd:=dd) (k0:=k0) (k1:=k1) (k2:=k2) (k3:=k3) (k5:=k5) (newId:=j2)
  PySem.F.excBase_ValueError (mN:=mN) (T.hasType PySem.F.excBase_ValueError.hasBase) (I.ok.hd hc) (by rw [he];exact hp) hni (xX I hg hm ⟨rfl,?_⟩ hd)
 have hA:=ha cpos pins s σ H _ I h
 rw [he] at hA ⊢
 refine ip (thn hA fun us s2 ⟨vs,H2,I2,r2,z2,q2⟩=>?_)
 exact ⟨rfl,by rw [← r2.length];exact z2,I2.bk _ _ hC,hN.keeps I2.bk,T.keeps I2.bk,fun h' e hm=>hr pins σ H2 s2 h' e _ _ I2 hm q2⟩
end
def Asc (x:Str):Prop:=∀ c∈x.cps.toList,c < 128
section
variable {X:Cx} {e:Expr} {te:TE} {a:Str} {j:Nat} {p1 p2 p3:Pos}
def VW (te:TE):TE:=fun σ H Q=>te σ H fun v H1=>∃ x:Str,v=.str x∧x.length≤100000∧∀ y:Str,Q (.str y) H1
theorem Qd (he:PE X e te) (hl:a.length≤1000:=by decide +kernel):PE X (.JoinedStr [.FormattedValue e (-1) none p2,.Constant (.str a) j p1] p3) (VW te):=by
 intro pins s σ H Q I h
 refine wpAny_JoinedStr ?_
 show wpAny _ _ (eval (.FormattedValue e (-1) none p2) X.env) _ _ s
 refine iT (thn (he pins _ σ H _ I h) fun v s1 ⟨x,H1,I1,r1,z,ex,hz,q⟩=>?_)
 subst ex
 obtain ⟨t,rfl⟩:=r1
 have hs:sizeLine=16777216:=c7
 have e0:(gr ++ z).length=z.length:=by rw [ef];simp [gr,gj]
 have fin:∀ (t':Tok) (tk:Nat),∃ y u,gR z t'=gR y u∧(gr ++ y).length≤sizeLine∧Joins (model X.prog X.w) X.A X.xe (evalEach [.Constant (.str a) j p1] X.env) (gr ++ y) (fun out s₁=>out.length≤sizeLine∧EP X pins σ Q (.str out s₁.toks) { s₁ with toks:=s₁.toks + 1 }) { s1 with toks:=tk }:=fun t' tk=>by
  refine ⟨_,_,rfl,by rw [e0];lia,?_⟩
  show wpAny _ _ (eval (.Constant (.str a) j p1) X.env) _ _ _
  have hz2:(gr ++ z ++ a).length≤sizeLine:=by rw [ef,e0];lia
  refine gp ⟨a,_,rfl,hz2,hz2,.str _,H1,I1.tok _,⟨_,rfl⟩,q _⟩
 exact wpAny_formatField_str (fin _ _) (fin _ _) (by lia)
end
structure ExC (K:bx) (C:Addr):Prop where
 ga:dk K (.ref C) "__getattribute__"=some (some (.builtin "BaseException.__getattribute__"))
 gx:dk K (.ref C) "__getattr__"=some none
 cl:dk K (.ref C) "__class__"=some (some (.builtin "object.__class__"))
 ob:oP K C (.type "object")=some true
 be:oP K C (.type "BaseException")=some true
 ge:oF K (.builtin "object.__class__") "__get__"=some (some (.builtin "getset_descriptor.__get__"))
 tk:W.takesIn K (.builtin "object.__class__")=some true
section
variable {prog:Program} {w:World} {A:Around} {E:Value→Shared→Prop} {K:bx} {e C:Addr} {s:Shared}
theorem za1 {M:Model} {h:Heap} (X:K.In h) (c:ExC K C):mz M h (PySem.Builtin.ObjectAttr.find (.ref e) (.ref C) "__class__") (.bind (.builtin "getset_descriptor.__get__") (.builtin "object.__class__")):=by
 have l1:=i5 (M:=M) X c.cl
 have l2:mz M h (PySem.Builtin.ObjectAttr.getOf (some (.builtin "object.__class__"))) (some (.builtin "getset_descriptor.__get__")):=W.looks_specialIn X c.ge
 have l3:=W.looks_takesIn (M:=M) X c.tk
 refine l1.andThen (l2.andThen ?_)
 exact (show mz M h (PySem.Builtin.ObjectAttr.dataDescriptor? (some (.builtin "object.__class__")) (some (.builtin "getset_descriptor.__get__"))) (some ((.builtin "getset_descriptor.__get__"),(.builtin "object.__class__"))) from l3.andThen .now).andThen (W.Looks.tag .now)
open PySem.Builtin PySem.Builtin.Getset_descriptor in
theorem zcR {R:Result→Shared→Prop} {tp:Value} (X:K.In s.heap) (c:ExC K C) (t0:mz (model prog w) s.heap (typeOf (.ref e)) (.ref C)) (hr:R (.ok (.ret (.ref C))) s) :
  codeAny (model prog w) A (.call (.builtin "getset_descriptor.__get__") ⟨[.builtin "object.__class__",.ref e,tp],[]⟩) R s:=by
 obtain ⟨hh,gs,dr,tt,os⟩:=s
 have t5:=nF (M:=model prog w) X c.ob
 refine mO W.KF.slot_gs.plain W.KF.entry_gs (W.KF.slot_gs.check _ _ _ _ _ _ _ _ W.KF.type_class (W.KF.args_gs _ _ _) ?_)
 unfold Builtin.«getset_descriptor.__get__» descrGet
 rw [W.dga_obj]
 refine bd (bj ?_)
 unfold descrGetter descrCheckInstance descrNameAndClass isInstance
 simp only [W.KF.owner_class]
 repeat lk
 refine ⟨Code.quiet_builtin _ (by decide +kernel),dM W.KF.entry_class ?_⟩
 unfold Builtin.«object.__class__» shownTypeOf
 repeat lk
 exact hr
theorem Q5 {Q:Option Value→Shared→Prop} (X:K.In s.heap) (c:ExC K C) (LT:∀ M:Model,mz M s.heap (typeOf (.ref e)) (.ref C)) (hq:Q (some (.ref C)) { s with toks:=s.toks + 1 }) :
  wpAny (model prog w) A (getAttr? (.ref e) "__class__") Q E s:=by
 obtain ⟨hh,gs,dr,tt,os⟩:=s
 have t0:=LT (model prog w)
 have t1:=i5 (M:=model prog w) X c.ga
 have t2:=i5 (M:=model prog w) X c.gx
 have t3:=nF (M:=model prog w) X c.be
 have t4:=za1 (M:=model prog w) (e:=e) X c
 have t5:=nF (M:=model prog w) X c.ob
 have t6:bindSpecial (.builtin "BaseException.__getattribute__") (.ref e)=pure (.builtin "BaseException.__getattribute__",[.ref e]):=F.excAttr_ValueError.ga.bind (.ref e)
 have b2:(nG "BaseException.__getattribute__" == nG "object.__getattribute__")=false:=by decide +kernel
 unfold getAttr? getAttrBy? getAttrBy
 refine bd (wpAny_mkText (bd (e9 (df (bd (t0.at (bd (t1.at ?_))))))))
 simp only [b2,Bool.and_false,cb,if_false]
 unfold getAttrByItsOwn hookBefore
 refine bd (t2.at ?_)
 unfold callGetattribute boundAndCalled
 simp only [Bool.false_and,cb,if_false,Option.toList,t6]
 refine bd (e9 (df (bd (bj (lA ?_)))))
 refine mO F.excAttr_ValueError.ga.plain F.entry_bexc_ga ?_
 have k1:builtinKind "BaseException.__getattribute__"=some .slot:=by decide +kernel
 have k2:splitId "BaseException.__getattribute__"=some ("BaseException","__getattribute__"):=by decide +kernel
 have k3:=F.args_bexc_ga (.ref e) (.str "__class__" tt)
 simp only [checkBuiltinCall,k1,k2]
 refine bd (?_:wpAny _ _ (isInstance (.ref e) (.type "BaseException")) _ _ _)
 have k4:mz (model prog w) hh (isInstance (.ref e) (.type "BaseException")) true:=t0.andThen t3
 refine k4.at ?_
 simp only [Bool.not_true,cb,if_false,bI,bQ]
 refine wpAny_of_eq (show _=pure () from k3) ?_
 refine bd (bj (bd (bj (bd (t0.at (bd (t4.at ?_)))))))
 show wpAny _ _ (holding [.builtin "object.__class__"] (call (.builtin "getset_descriptor.__get__") [.builtin "object.__class__",.ref e,.ref C]) >>= ret) _ _ _
 refine bd (df (lA (zcR X c t0 (bj ?_))))
 exact W.handed_on rfl (bj hq)
theorem VX {a:Addr} (c:ExC K C) (hc:(oR K C).isSome=true):W.KitX K (.ref a) (.ref C) (fun h=>∃ o,h.get? a=some o∧o.cls=.ref C) where
 ty:=fun M h _ p=>by
  obtain ⟨o,p1,p2⟩:=p
  exact p2 ▸ (lG p1).andThen .now
 it:=fun _ _ X _=>by
  obtain ⟨cd,z⟩:=c6.mp hc
  unfold oR at z
  split at z
  ·rename_i y
   intro A' Q' E' s' k q
   unfold isType loadHead
   exact bd (wpAny_loadPart (k _ _ (X _ _ y)) (bj q))
  ·cases z
 ne:=fun h tp dd its n sl X p=>by
  obtain ⟨cd,z⟩:=c6.mp hc
  refine gK.mpr fun q=>?_
  obtain rfl:C=tp:=Value.ref.inj (beq_iff_eq.mp q)
  unfold oR at z
  split at z
  ·rename_i y
   cases (X _ _ y).symm.trans p
  ·cases z
 ca:=fun X p k=>by
  obtain ⟨o,p1,p2⟩:=p
  exact Q5 X c (fun M=>p2 ▸ (lG p1).andThen .now) k
end
section
variable {X:Cx} {pins:List (Addr × Obj)} {σ:St} {H:Hp} {s:Shared}
theorem Inv.land {h2:Heap} {cs:List Addr} (hex:X.ex=[]) (I:Inv X pins σ H s) (hcs:∀ b∈cs,H b=none∧X.s₀.heap.get? b=none) (hcp:∀ b∈cs,∀ p∈X.pn ++ pins,p.1≠b)
  (hB:∀ b o,s.heap.get? b=some o→b ∉ frs X.stack→b ∉ cs→h2.get? b=some o) (sm:s.heap.UpToSlots h2):Inv X pins σ H { s with heap:=h2 }:=by
 have hF:∀ b o,s.heap.get? b=some o→b∈frs X.stack→∃ sl,h2.get? b=some { o with slots:=sl }:=fun b o q hb=>by
  obtain ⟨o',q',nf⟩:=I.stackFields hb
  rw [q] at q';cases q'
  exact sm b o q nf
 obtain ⟨r1,r2⟩:=I.behind hex hcs hB hF
 have ce:∀ c v,s.heap.IsCell c v→h2.IsCell c v:=fun c v ⟨o,ho,hd⟩=>by
  obtain ⟨sl,q⟩:=sm c o ho fun vs z=>by rw [hd] at z;cases z
  exact ⟨_,q,hd⟩
 refine ⟨I.ok,I.os,I.bare,by rw [hex];exact r1,?_,fun x c e=>?_,I.free,I.freeC,fun p hp=>?_,r2,I.len⟩
 ·obtain ⟨m,hn,hl⟩:=I.loc
  refine ⟨m,sm.ns hn,fun i x v e1 e2 e3=>?_⟩
  obtain ⟨u,r,l⟩:=hl i x v e1 e2 e3
  refine ⟨u,r,?_⟩
  rcases l with l | ⟨k,c,e,z⟩
  ·exact .inl l
  ·exact .inr ⟨k,c,e,ce c _ z⟩
 ·obtain ⟨v,z⟩:=I.cell x c e
  exact ⟨v,ce c v z⟩
 ·obtain ⟨e,n,ne,nf,d⟩:=I.pin p hp
  exact ⟨hB _ _ e (fun z=>(bR.mp (I.stkSub _ z)).elim ne nf) fun z=>hcp _ z p hp rfl,n,ne,nf,d⟩
theorem Inv.track {e:Addr} {φ:Heap→Prop} (I:Inv X pins σ H s) (hn:H e=none) (h0:X.s₀.heap.get? e=none) (hex:X.ex=[]) (hL:e≠X.env.locals) (hc:∀ x c,X.env.cells.lookup x=some c→c≠e) (hp:∀ p∈X.pn ++ pins,p.1≠e)
  (ok:φ s.heap∧(∃ o,s.heap.get? e=some o)∧∀ h1 h2:Heap,φ h1→(∀ o,h1.get? e=some o→h2.get? e=some o)→φ h2):Inv X pins σ (upd H e (.ext φ)) s:=by
 have ne:∀ b u,H b=some u→b≠e:=fun b u q z=>by rw [z,hn] at q;cases q
 have B:=I.base
 refine ⟨I.ok,I.os,I.bare,⟨B.keep,B.slot,fun b o q n x=>?_,B.there,fun b xs q=>?_,fun b o u q=>?_,fun b ps q=>?_⟩,I.loc,I.cell,?_,fun x c q=>?_,fun p q=>?_,fun b u q=>?_,I.len⟩
 ·rw [zj fun z=>by rw [z,h0] at q;cases q];exact B.free b o q n x
 ·have z:=B.tups b xs q
  rw [zj (ne _ _ z)];exact z
 ·have z:=B.frzs b o u q
  rw [zj (ne _ _ z)];exact z
 ·obtain ⟨m,z⟩:=B.tbls b ps q
  exact ⟨m,by rw [zj (ne _ _ z)];exact z⟩
 ·rw [zj (cK hL)];exact I.free
 ·rw [zj (hc x c q)];exact I.freeC x c q
 ·obtain ⟨z1,z2,z3,z4,z5⟩:=I.pin p q
  exact ⟨z1,by rw [zj (hp p q)];exact z2,z3,z4,z5⟩
 ·by_cases hb:b=e
  ·subst hb
   rw [ze] at q;cases q
   exact ok
  ·rw [zj hb] at q
   exact (I.hok b u q).stay (fun c v _ z=>z) (fun c z=>by rw [zj (ne _ _ z)];exact z) fun c xs z=>by rw [zj (ne _ _ z)];exact z
theorem Inv.forget {h':Heap} {t':Nat} {i:Nat} {n:Str} {m:Str→Option Value} {v:Option Value} (I:Inv X pins σ H s) (hN:X.N.Nodup) (hi:X.N[i]?=some n)
  (hm:s.heap.Ns X.env.locals m) (hl:∀ (i:Nat) (x:Str) (v:V),X.N[i]?=some x→σ[i]?=some (some v)→Vis X.env.scope x→∃ u,RelV v u∧ze1 X.env s.heap m x u)
  (hn:h'.Ns X.env.locals (fun x=>if x=n then v else m x)) (hs:cJ X.env.locals s.heap h'):Inv X pins (σ.set i none) H { s with heap:=h',toks:=t' }:=by
 have nL:∀ b o,X.s₀.heap.get? b=some o→b≠X.env.locals:=fun b o e=>ck (cg (bS e) I.ok.above)
 have hiσ:i < σ.length:=by rw [I.len];exact (bC.mp hi).1
 refine ⟨I.ok,I.os,I.bare,⟨fun b o e n hb hx=>(hs.2 b (nL b o e)).trans (I.base.keep b o e n hb hx),fun b o e n hb hx=>?_,I.base.free,fun b o e hx=>?_,I.base.tups,I.base.frzs,I.base.tbls⟩,⟨_,hn,fun j y w e1 e2 e3=>?_⟩,fun y c e=>?_,I.free,I.freeC,fun p hp=>?_,fun b u e=>?_,by simpa using I.len⟩
 ·obtain ⟨sl,e1⟩:=I.base.slot b o e n hb hx
  exact ⟨sl,(hs.2 b (nL b o e)).trans e1⟩
 ·obtain ⟨o',e1⟩:=I.base.there b o e hx
  exact ⟨o',(hs.2 b (nL b o e)).trans e1⟩
 ·by_cases hj:j=i
  ·subst hj
   rw [gE hiσ] at e2
   cases e2
  ·rw [io (cK hj)] at e2
   obtain ⟨u,r,q⟩:=hl j y w e1 e2 e3
   refine ⟨u,r,?_⟩
   rcases q with ⟨k,e⟩ | ⟨k,c,e,z⟩
   ·have:y≠n:=fun e=>hj (YB hN e1 (e ▸ hi))
    exact .inl ⟨k,by simp [this,e]⟩
   ·exact .inr ⟨k,c,e,z.sameBut hs (I.cne y c e)⟩
 ·obtain ⟨w',z⟩:=I.cell y c e
  exact ⟨w',z.sameBut hs (I.cne y c e)⟩
 ·obtain ⟨e,n,ne,nf,d⟩:=I.pin p hp
  exact ⟨(hs.2 p.1 ne).trans e,n,ne,nf,d⟩
 ·refine (I.hok b u e).stay (fun c w' hc q=>(hs.2 c ?_).trans q) (fun _ q=>q) fun _ _ q=>q
  rintro rfl
  rcases hc with rfl | hc
  ·rw [I.free] at e;cases e
  ·rw [I.free] at hc;cases hc
end
def exO (e C:Addr):HO:=.ext fun h=>∃ o,h.get? e=some o∧o.cls=.ref C
abbrev Cx.sub (X:Cx) (e:Addr):Cx:={ X with A:=X.A.mark (some (.ref e)),calm:=false,xe:=fun _ _=>False }
section
variable {X:Cx} {pins:List (Addr × Obj)} {σ:St} {H:Hp} {s:Shared} {e:Addr}
theorem Inv.toSub (I:Inv X pins σ H s):Inv (X.sub e) pins σ H s :=
 ⟨⟨I.ok.mod,I.ok.kind,I.ok.glob,I.ok.blt,I.ok.above,I.ok.inj,I.ok.has,I.ok.cab,(fun z=>nomatch z),I.ok.frames,I.ok.stk,I.ok.exf,I.ok.bs,I.ok.bsz,I.ok.noex,I.ok.exfs,I.ok.funs,I.ok.frf⟩,I.os,I.bare,I.base,I.loc,I.cell,I.free,I.freeC,I.pin,I.hok,I.len⟩
theorem Inv.ofSub {J:Inv X pins σ H s} {σ':St} {H':Hp} {s':Shared} (I:Inv (X.sub e) pins σ' H' s'):Inv X pins σ' H' s' :=
 ⟨J.ok,I.os,I.bare,I.base,I.loc,I.cell,I.free,I.freeC,I.pin,I.hok,I.len⟩
end
abbrev EXK:=Value→St→Hp→Prop
def PX (X:Cx) (pins:List (Addr × Obj)) (EX:EXK):Value→Shared→Prop:=fun ev s'=>∃ e cls σ s1 H1 H',ev=.ref e∧Inv X pins σ H1 s1∧Inv X pins σ H' s'∧XF s1.heap s'.heap H' e cls∧EX cls σ H'
def PEX (X:Cx) (ex:Expr) (t:EXK→TE):Prop :=
 ∀ (pins:List (Addr × Obj)) (s:Shared) (σ:St) (H:Hp) (Q:VK) (EX:EXK),Inv X pins σ H s→t EX σ H Q→wpAny (model X.prog X.w) X.A (eval ex X.env) (EP X pins σ Q) (PX X pins EX) s
def PSX (X:Cx) (st:Stmt) (t:EXK→TS):Prop :=
 ∀ (pins:List (Addr × Obj)) (s:Shared) (σ:St) (H:Hp) (D:YC) (EX:EXK),Inv X pins σ H s→t EX D σ H→wpAny (model X.prog X.w) X.A (exec st X.env) (SP X pins D) (PX X pins EX) s
section
variable {X:Cx} {k:Nat} {f:Addr} {fd:FuncData} {ps:List Str} {sp:Sp} {x:Str} {p pos:Pos} {e:Expr} {es:List Expr} {t:TA}
def W5 (sp:Sp) (ta:TA) (EX:EXK):TE:=fun σ H Q=>ta σ H fun vs H1=>sp (vs ++ []) H1 Q fun cls _ H2=>EX cls σ H2
theorem za2 (F:FnOk X.prog X.w X.K X.mg X.base (CX1 X.prog X.w) k f fd ps sp) (hr:Room k X.A) (hg:Gl X x) (hm:X.mg x=some (.ref f)) (hk:fN X.K (.ref f)=true) (hb:Binds X.K fd ps []) 
  (ha:PA X.nox (e :: es) t) (hdb:(x == ("__debug__":Str))=false:=by decide) (he:starEach (e :: es) X.env=(false,eval e X.env) :: starEach es X.env:=by rfl) (hpl:(backTo pos (starEach es X.env)).any (·.1)=false:=by rfl) :
  PEX X (.Call (.Name x p) (e :: es) [] pos) (W5 sp t):=by
 intro pins s σ H Q EX I h
 refine eI (xX I hg hm ?_ hdb)
 refine iU (h₀:=X.base) I.ok.mod.kin hk (cG (ha pos pins s σ H _ (I.wish _) h) (fun us s1 ⟨vs,H1,I1',r,q⟩=>⟨I1'.kIn,?_⟩) fun _ _ z=>cH z) he hpl
 have I1:=I1'.unwish
 have r2:Vals (vs ++ []) (us ++ []):=r.append .nil
 have hl:(us ++ []).length=ps.length:=by rw [← r2.length];exact F.len _ _ _ _ q
 refine lA (eW (F.run X.A X.stack s1 H1 ⟨us,[]⟩ (us ++ []) (vs ++ []) _ _ hr I1.env0 (hb s1 us I1.kIn hl) r2 q) fun r s' hq=>?_)
 cases r with
 | error ev =>
  obtain ⟨e,cls,H',rfl,os,bare,un,hok,xf,hE⟩:=hq
  exact ⟨e,cls,σ,s1,H1,H',rfl,I1,I1.call' (ch:=[]) os un hok bare (fun b z=>nomatch z),xf,hE⟩
 | ok fl =>
  cases fl with
  | ret u=>exact I1.after hq
  | next=>exact cH hq
  | brk=>exact cH hq
  | cont=>exact cH hq
end
section
variable {X:Cx} {ex:Expr} {tx:EXK→TE} {pos p1:Pos} {i:Nat} {y:Str}
def Kf (tx:EXK→TE) (EX:EXK):TS:=fun D σ H=>tx EX σ H fun _ H1=>D.nx σ H1
theorem za3 (he:PEX X ex tx) (hs:swapsWith ex none pos.line X.env=pure false:=by rfl):PSX X (.Expr ex pos) (Kf tx):=by
 intro pins s σ H D EX I h
 exact wpAny_Expr_any (thn (he pins s σ H _ EX I h) fun v s1 ⟨x,H1,I1,r1,q1⟩=>⟨σ,H1,I1,q1⟩) I.quiet hs
def za4 (tx:EXK→TE) (i:Nat) (EX:EXK):TS:=fun D σ H=>tx EX σ H fun v H1=>D.nx (σ.set i (some v)) H1
theorem zcS {pos':Pos} (hN:X.N.Nodup) (hi:X.N[i]?=some y) (hx:Loc X.env.scope y) (he:PEX X ex tx) (hs:swapsWith ex (some (.Name y pos')) pos.line X.env=pure false:=by rfl) (hf:X.fn y=true∨X.env.scope.names.lookup y=some .local:=by first | exact .inl rfl | exact .inr rfl | assumption) :
  PSX X (.Assign [.Name y pos'] ex pos) (za4 tx i):=by
 intro pins s σ H D EX I h
 refine wpAny_Assign_Name (thn (he pins s σ H _ EX I h) fun v s1 ⟨x,H1,I1,r1,q1⟩=>?_) hs
 exact q9 I1 hN hi hx r1 (fun s2 I2=>⟨_,H1,I2,q1⟩) hf
end
structure ExK (K:bx) (C:Addr):Prop extends ExC K C where
 has:(oR K C).isSome=true
def zfc (i:Nat) (D:YC):YC:={ nx:=fun σ H=>D.nx (σ.set i none) H,rt:=D.rt,bk:=fun σ H=>D.bk (σ.set i none) H,ct:=fun σ H=>D.ct (σ.set i none) H }
def zcT (K:bx) (tb:EXK→TS) (C0:Addr) (i:Nat) (th:TS):TS:=fun D σ H=>tb (fun cls σ1 H1=>∃ C,cls=.ref C∧ExK K C∧dH K (.ref C) (.ref C0)=some true ∧
 ∀ e,H1 e=none→th (zfc i D) (σ1.set i (some (.ref e))) (upd H1 e (exO e C))) D σ H
section
variable {X:Cx} {st b₀:Stmt} {suite:List Stmt} {tb:EXK→TS} {th:TS} {c n:Str} {C0:Addr} {i:Nat} {np hpos pos:Pos}
theorem zen (hst:X.stack=X.env :: X.outer∧X.env.frame=some X.env.locals) (hex:X.ex=[]) (hN:X.N.Nodup) (hb:PSX X st tb) (hg:Gl X c) (hm:X.mg c=some (.ref C0)) (hi:X.N[i]?=some n) (hl:X.env.scope.names.lookup n=some .local)
  (hs:∀ e,PSs (X.sub e) (b₀ :: suite) th) (hdb:(c == ("__debug__":Str))=false:=by decide) :
  PS X (.Try [st] [.ExceptHandler (some (.Name c np)) (some n) (b₀ :: suite) hpos] [] [] pos) (zcT X.K tb C0 i th):=by
 intro pins s σ H D I h
 refine lZ (fX (cG (hb pins s σ H D _ I h) (fun f s1 q=>?_) fun ev s1 q=>?_))
 ·cases f with
  | next=>exact dy (dy q)
  | ret v=>exact q
  | brk=>exact q
  | cont=>exact q
 obtain ⟨e,cls,σ1,s0,H0,H1,rfl,I0,I1,xf,C,rfl,ek,hx,hth⟩:=q
 obtain ⟨oe,vs,a0,T,oT,ts,h1,h2,h3,h4,h5,h6,h7,h8,h9,h10,h11,h12⟩:=xf
 have fr:s1.heap.FunFrames (eN s1.heap (frs X.stack ++ [e,T])) (X.env :: X.outer):=by
  have q:=fY (as:=frs X.stack ++ [e,T]) I1.stack fun env he a ha=>dh _ (eF.mpr ⟨env,he,ha⟩)
  rw [hst.1] at q ⊢
  exact q
 have two:∀ b∈[e,T],s0.heap.get? b=none∧H1 b=none:=fun b z=>by
  have z':b=e∨b=T:=by simpa using z
  rcases z' with rfl | rfl
  ·exact ⟨h9,h11⟩
  ·exact ⟨h10,h12⟩
 have hcs:∀ b∈[e,T],H1 b=none∧X.s₀.heap.get? b=none:=fun b z=>⟨(two b z).2,wN (I0.there0 hex) (two b z).1⟩
 have hcp:∀ b∈[e,T],∀ p∈X.pn ++ pins,p.1≠b:=fun b z p hp q=>by
  have:=(I0.pin p hp).1
  rw [q,(two b z).1] at this;cases this
 refine mB (base:=eN s1.heap (frs X.stack ++ [e,T])) (a0:=a0) (cls:=.ref C) (by rw [I1.ok.frames,hst.1]) hst.2
  ⟨fun b o q=>gS _ q,dX _ (bY _ (by simp)),fr,oe,vs,T,oT,ts,h1,h2,h3,h4,dX _ (bY _ (by simp)),h5,h6,h7,h8⟩ fun g4 held4 sm4=>?_
 refine n0 held4 fun g5 fly5 sm5=>?_
 have hB:∀ {g:Heap},(eN s1.heap (frs X.stack ++ [e,T])).StaysIn g→∀ b o,s1.heap.get? b=some o→b ∉ frs X.stack→b ∉ [e,T]→g.get? b=some o :=
  fun {g} k b o q n1 n2=>k b o (gn _ q fun z=>(bV.mp z).elim n1 n2)
 have I5:Inv X pins σ1 H1 { s1 with heap:=g5 }:=I1.land hex hcs hcp (hB fly5.1) (sm4.trans sm5)
 have K5:=I5.kIn
 refine gf (fH ?_) (by intro q;cases q)
 refine xX (X:=X.sub e) (I5.toSub (e:=e)) hg hm ?_ hdb
 have ty5:mz (model X.prog X.w) g5 (typeOf (.ref e)) (.ref C):=by
  obtain ⟨o,p1,p2⟩:=fly5.there
  exact p2 ▸ (lG p1).andThen .now
 refine (oI K5 ty5 hx).here ?_
 refine codeAny_handlers_suite_as ?_
 refine n9 fly5 fun g6 fly6 sm6=>?_
 have I6:Inv X pins σ1 H1 { s1 with heap:=g6 }:=I1.land hex hcs hcp (hB fly6.1) ((sm4.trans sm5).trans sm6)
 have neL:e≠X.env.locals:=fun z=>by
  obtain ⟨m,⟨o,_,_,ho,_⟩,_⟩:=I0.loc
  rw [← z,h9] at ho;cases ho
 have neC:∀ x c,X.env.cells.lookup x=some c→c≠e:=fun x c q z=>by
  obtain ⟨v,o,ho,_⟩:=I0.cell x c q
  rw [z,h9] at ho;cases ho
 obtain ⟨o6,p6,q6⟩:=fly6.there
 have I7:Inv X pins σ1 (upd H1 e (exO e C)) { s1 with heap:=g6 }:=I6.track h11 (hcs e (by simp)).2 hex neL neC (hcp e (by simp))
  ⟨⟨o6,p6,q6⟩,⟨o6,p6⟩,fun a b ⟨o,z1,z2⟩ k=>⟨o,k o z1,z2⟩⟩
 refine q9 (X:=X) (v:=.ref e) I7 hN hi (.inl hl) rfl (fun s8 I8=>?_) (.inr hl)
 refine cG (hs e pins s8 _ _ _ I8.toSub (hth e h11)) (fun f s9 q=>?_) fun _ _ z=>cH z
 have hcls:(X.env.scope.kind == .class || (X.env.scope.kind == .module && X.env.locals != X.env.globals))=false:=by rw [I.ok.kind];rfl
 have go:∀ {σ9:St} {H9:Hp} {R:Shared→Prop},Inv (X.sub e) pins σ9 H9 s9→(∀ s',Inv X pins (σ9.set i none) H9 s'→R s') →
   wpAny (model X.prog X.w) X.A (do bindName X.env n .none;unbindBehindTheSuite X.env n hpos) (fun _ s3=>R s3) X.xe s9:=fun {σ9 H9 R} J k=>by
  have J':Inv X pins σ9 H9 s9:=Inv.ofSub (J:=I) J
  obtain ⟨m,hm9,hl9⟩:=J'.loc
  exact wpAny_nameGoes_keeps (Q:=fun _ s3=>R s3) hl hm9 hcls fun h' v a b=>k _ (J'.forget hN hi hm9 hl9 a b)
 cases f with
 | next =>
  obtain ⟨σ9,H9,J,z⟩:=q
  exact go (R:=fun s3=>SP X pins D .next s3) J fun s' J'=>⟨_,_,J',z⟩
 | brk =>
  obtain ⟨σ9,H9,J,z⟩:=q
  exact go (R:=fun s3=>SP X pins D .brk s3) J fun s' J'=>⟨_,_,J',z⟩
 | cont =>
  obtain ⟨σ9,H9,J,z⟩:=q
  exact go (R:=fun s3=>SP X pins D .cont s3) J fun s' J'=>⟨_,_,J',z⟩
 | ret u =>
  obtain ⟨v,σ9,H9,J,r,z⟩:=q
  exact go (R:=fun s3=>SP X pins D (.ret u) s3) J fun s' J'=>⟨v,_,_,J',r,z⟩
end
def zeo:V→Option Value
 | .ty T=>some (.type T)
 | .ref D=>some (.ref D)
 | _=>none
abbrev zcU (K:bx):RC:=fun xs H Q=>∃ a C c cv b,xs=[.ref a,c]∧H a=some (exO a C)∧ExK K C∧zeo c=some cv∧dF K (.ref C) cv=some b∧Q (.bl b) H
abbrev za5 (K:bx):RC:=fun xs H Q=>∃ a C p,∃ cs:List Addr,∃ b,xs=[.ref a,.ref p]∧H a=some (exO a C)∧ExK K C∧H p=some (.tup (cs.map V.ref))∧fP K (.ref C) (cs.map bJ)=some b∧Q (.bl b) H
theorem Wj:∀ {cs:List Addr} {us:List Value},Vals (cs.map V.ref) us→us=cs.map bJ
 | [],_,.nil=>rfl
 | c :: r,_,.cons h t=>by rw [Wj t];cases h;rfl
section
variable {X:Cx}
theorem za6 {P:Program} {w:World} {H:Hp} {h:Heap} {a C:Addr} (k:HOk P w H h) (e:H a=some (exO a C)):∃ o,h.get? a=some o∧o.cls=.ref C:=(k a _ e).1
theorem VY:wR X (.builtin "isinstance") (zcU X.K):=by
 intro pins s σ H xs us Q I r h
 obtain ⟨a,C,c,cv,b,rfl,ha,ek,hc,hk,q⟩:=h
 obtain ⟨u,w',rfl,r1,r2⟩:=K0 r
 cases r1
 have e2:w'=cv:=by
  cases c <;> simp only [zeo,bf,reduceCtorEq] at hc
  ·subst hc;exact r2
  ·subst hc;exact r2
 subst e2
 exact fD (VX ek.toExC ek.has) I.kIn (za6 I.hok ha) hk (fun z=>nomatch z) fun tk=>⟨.bl b,H,I.tok _,rfl,q⟩
theorem Q6:wR X (.builtin "isinstance") (za5 X.K):=by
 intro pins s σ H xs us Q I r h
 obtain ⟨a,C,p,cs,b,rfl,ha,ek,hp,hk,q⟩:=h
 obtain ⟨u,w',rfl,r1,r2⟩:=K0 r
 cases r1
 cases r2
 obtain ⟨_,its,rv,o,o1,o2,n,o3⟩:=(show ObjOk X.prog X.w H s.heap p (.tup (cs.map V.ref)) from I.hok p _ hp)
 obtain rfl:=Wj rv
 obtain ⟨oc,od,oda,osl⟩:=o
 obtain rfl:oc=.type "tuple":=o2
 obtain rfl:oda=.seq (cs.map bJ).toArray n:=o3
 exact fI (VX ek.toExC ek.has) I.kIn (za6 I.hok ha) o1 hk (fun z=>nomatch z) fun tk=>⟨.bl b,H,I.tok _,rfl,q⟩
end
theorem zq {P:Program} {w:World} {X:Cx}:jl (CX1 P w) X E0:=fun _ _ _ _ _ _ _ h=>by
 obtain ⟨_,_,_,_,_,_,_,_,_,z⟩:=h
 exact z.elim
section
variable {P:Program} {w:World} {K:bx} {mg:Str→Option Value} {base:Heap}
theorem Fun.ok1 {x qual:Str} {st:Stmt} {f:Addr} {fd:FuncData} {N ps:List Str} {k:Nat} {sp:Sp} (F:Fun K x qual st f fd) (S:zC N ps (zk st)) (len:∀ vs H Q E,sp vs H Q E→vs.length=ps.length)
  (hbody:∀ (cdv:Value) (A:Around) (outer:List Env) (s:Shared) (H:Hp) (vs:List V) (Q:VK) (E:XK),Room k (A.deeper (envOfC qual (zk st) s.heap.objs.size f cdv))→sp vs H Q E →
   ∃ t,PSs (qd (CX1 P w) P w K mg base N qual (zk st) f cdv A outer s H E) (yE st) t∧t { nx:=fun _ H'=>Q .non H',rt:=Q } (start N vs) H):FnOk P w K mg base (CX1 P w) (k + 1) f fd ps sp:=by
 obtain ⟨oc,od,kV,doc,pm,an,cdv,ct,osl,rfl,lk,hcd⟩:=F.ex
 exact zdV lk hcd S len fun A outer s H vs Q E hr hsp=>hbody cdv A outer s H vs Q E hr hsp
theorem Fun.ok0 {x qual:Str} {st:Stmt} {f:Addr} {fd:FuncData} {N ps:List Str} {k:Nat} {sp:Sp} (F:Fun K x qual st f fd) (S:zC N ps (zk st)) (len:∀ vs H Q E,sp vs H Q E→vs.length=ps.length)
  (hbody:∀ (cdv:Value) (A:Around) (outer:List Env) (s:Shared) (H:Hp) (vs:List V) (Q:VK) (E:XK),Room k (A.deeper (envOfC qual (zk st) s.heap.objs.size f cdv))→sp vs H Q E →
   ∃ t,PSs (qd (CX1 P w) P w K mg base N qual (zk st) f cdv A outer s H E).nox (yE st) t∧t { nx:=fun _ H'=>Q .non H',rt:=Q } (start N vs) H):FnOk P w K mg base (CX1 P w) (k + 1) f fd ps sp :=
 F.ok1 S len fun cdv A outer s H vs Q E hr h=>let ⟨t,a,b⟩:=hbody cdv A outer s H vs Q E hr h;⟨t,a.nox,b⟩
end
theorem walk_ofX {l:nD} {n k:Nat} {q:Program} {loose:List Str} {XP:(Str→Option Value)→Heap→Prop} {YP:World→Heap→Prop} {d:DefRec} {K:Params→bx} {sp:bx→Sp} {x:Str}
  (hn:l.most=some n) (hn2:n≤sizeLine) (hdf:d.params.defaults=[]) (hr:Room k callerA)
  (hY:∀ (w:World) (h:Heap),YP w h→(K w.params).In h)
  (F:∀ (w:World) (mg:Str→Option Value) (fa:Addr) (h:Heap),(K w.params).In h→h.Ns mainGlobals mg→mg d.name=some (.ref fa) →
   ∃ fd:FuncData,(∀ (s:Shared) (u:Value),BindsTo s fd ⟨[u],[]⟩ [(x,u)]) ∧
    ∀ base:Heap,(K w.params).In base→base.Ns mainGlobals mg→FnOk l.prog w (K w.params) mg base (CX1 l.prog w) k fa fd [x] (sp (K w.params)))
  (hsp:∀ (K:bx) (H:Hp) (a:Addr) (ns:List Int),ns.length≤n→Kb H→SqL K H a (ns.map V.int)→sp K [.ref a] H (fun v _=>v=.bl true) fun _ _ _=>False) :
  oQ q loose XP YP l.row.toRowW d [] (fun f vs=>lD f vs) :=
 K4 (K:=K) (CX:=fun w=>CX1 l.prog w) (sp:=fun w=>sp (K w.params)) hn hn2 hdf hr hY F (fun w H a ns h1 h2 h3=>hsp (K w.params) H a ns h1 h2 h3) fun _ _ _ _ _ z=>by
  obtain ⟨_,_,_,_,_,_,_,_,_,y⟩:=z
  exact y
end L2
namespace L2
open PySem
section
variable {σ:St} {H:Hp} {nx:St→Hp→Prop} {B:V→St→Hp→(St→Hp→Prop)→Prop}
theorem qE {lo:Int} {n:Nat} (Pv:Nat→St→Hp→Prop) (h0:Pv 0 σ H) (hs:∀ i σ H,i < n→Pv i σ H→B (.int (lo + i)) σ H (Pv (i + 1))) (hd:∀ σ H,Pv n σ H→nx σ H) :
  ∃ W:Nat→Nat→St→Hp→Prop,(∃ m,W 0 m σ H)∧∀ i m σ H,W i m σ H→((Itr lo n).stop i H∧nx σ H)∨((Itr lo n).go i H∧∃ N:St→Hp→Prop,(∀ σ' H',N σ' H'→∃ m',m' < m∧W (i + 1) m' σ' H')∧∀ x H',(Itr lo n).yld i H x H'→B x σ H' N):=by
 refine ⟨fun i m σ H=>m=n - i∧i≤n∧Pv i σ H,⟨n,by simp,b8 _,h0⟩,?_⟩
 rintro i m σ H ⟨rfl,hi,p⟩
 by_cases hlt:i < n
 ·refine .inr ⟨hlt,Pv (i + 1),fun σ' H' p'=>⟨n - (i + 1),by lia,rfl,hlt,p'⟩,?_⟩
  rintro x H' ⟨rfl,rfl⟩
  exact hs i σ _ hlt p
 ·obtain rfl:i=n:=by lia
  exact .inl ⟨bo _,hd σ H p⟩
theorem v6 {K:bx} {a:Addr} (xs:List V) (Pv:Nat→St→Hp→Prop) (h0:Pv 0 σ H) (hl:∀ i σ H,Pv i σ H→SqL K H a xs) (hs:∀ i x σ H,xs[i]?=some x→Pv i σ H→B x σ H (Pv (i + 1))) (hd:∀ σ H,Pv xs.length σ H→nx σ H) :
  ∃ W:Nat→Nat→St→Hp→Prop,(∃ m,W 0 m σ H)∧∀ i m σ H,W i m σ H→((Itl K a).stop i H∧nx σ H)∨((Itl K a).go i H∧∃ N:St→Hp→Prop,(∀ σ' H',N σ' H'→∃ m',m' < m∧W (i + 1) m' σ' H')∧∀ x H',(Itl K a).yld i H x H'→B x σ H' N):=by
 refine ⟨fun i m σ H=>m=xs.length - i∧i≤xs.length∧Pv i σ H,⟨xs.length,by simp,b8 _,h0⟩,?_⟩
 rintro i m σ H ⟨rfl,hi,p⟩
 have q:=hl i σ H p
 by_cases hlt:i < xs.length
 ·refine .inr ⟨⟨xs,xs[i],q,by simp [hlt]⟩,Pv (i + 1),fun σ' H' p'=>⟨xs.length - (i + 1),by lia,rfl,hlt,p'⟩,?_⟩
  rintro x H' ⟨rfl,y⟩
  exact hs i x σ _ (y xs q) p
 ·obtain rfl:i=xs.length:=by lia
  exact .inl ⟨⟨xs,q,bo _⟩,hd σ H p⟩
theorem VZ {K:bx} {a:Addr} (xs:List V) (Pv:Nat→St→Hp→Prop) (h0:Pv 0 σ H) (hl:∀ i σ H,Pv i σ H→SqT K H a xs) (hs:∀ i x σ H,xs[i]?=some x→Pv i σ H→B x σ H (Pv (i + 1))) (hd:∀ σ H,Pv xs.length σ H→nx σ H) :
  ∃ W:Nat→Nat→St→Hp→Prop,(∃ m,W 0 m σ H)∧∀ i m σ H,W i m σ H→((Itt K a).stop i H∧nx σ H)∨((Itt K a).go i H∧∃ N:St→Hp→Prop,(∀ σ' H',N σ' H'→∃ m',m' < m∧W (i + 1) m' σ' H')∧∀ x H',(Itt K a).yld i H x H'→B x σ H' N):=by
 refine ⟨fun i m σ H=>m=xs.length - i∧i≤xs.length∧Pv i σ H,⟨xs.length,by simp,b8 _,h0⟩,?_⟩
 rintro i m σ H ⟨rfl,hi,p⟩
 have q:=hl i σ H p
 by_cases hlt:i < xs.length
 ·refine .inr ⟨⟨xs,xs[i],q,by simp [hlt]⟩,Pv (i + 1),fun σ' H' p'=>⟨xs.length - (i + 1),by lia,rfl,hlt,p'⟩,?_⟩
  rintro x H' ⟨rfl,y⟩
  exact hs i x σ _ (y xs q) p
 ·obtain rfl:i=xs.length:=by lia
  exact .inl ⟨⟨xs,q,bo _⟩,hd σ H p⟩
end
theorem V0 {J:It} {D:Addr} {τ₀:St} {H1:Hp} {Q:Hp→Prop} {B:V→St→Hp→(V→St→Hp→Prop)→(St→Hp→Prop)→Prop} (n:Nat) (hn:n≤1000000) (C:St→Prop) (R:Nat→V→Prop) (hC:C τ₀)
  (go:∀ i H,Same H1 H→i < n→J.go i H) (stop:∀ H,Same H1 H→J.stop n H) (hD:H1 D=none)
  (hs:∀ i x τ H H',C τ→Same H1 H→i < n→J.yld i H x H'→B x τ H' (fun v τ' H4=>C τ'∧R i v∧Same H H4) (fun _ _=>False))
  (hd:∀ ys H,ys.length=n→(∀ i v,ys[i]?=some v→R i v)→Same H1 H→H D=some (.lst ys)→Q H) :
  ∃ W:Nat→Nat→List V→St→Hp→Prop,(∃ m,W 0 m [] τ₀ (upd H1 D (.lst [])))∧∀ i m ys τ H,W i m ys τ H→H D=some (.lst ys) ∧
  ((J.stop i H∧Q H)∨(J.go i H∧ys.length < sizeLine∧∃ N:V→St→Hp→Prop,
   (∀ v τ' H',N v τ' H'→H' D=some (.lst ys)∧∃ m',m' < m∧W (i + 1) m' (ys ++ [v]) τ' (upd H' D (.lst (ys ++ [v]))))∧∃ Nf:St→Hp→Prop,(∀ τ' H',Nf τ' H'→∃ m',m' < m∧W (i + 1) m' ys τ' H') ∧
   ∀ x H',J.yld i H x H'→B x τ H' N Nf)):=by
 have ext:∀ {H:Hp} {o:HO},Same H1 H→Same H1 (upd H D o):=fun {H o} h b u e=>by
  rw [zj (zJ e hD)];exact h b u e
 refine ⟨fun i m ys τ H=>m=n - i∧i≤n∧ys.length=i∧(∀ j v,ys[j]?=some v→R j v)∧Same H1 H∧H D=some (.lst ys)∧C τ,⟨n,by simp,b8 _,rfl,by simp,ext (Same.refl _),ze,hC⟩,?_⟩
 rintro i m ys τ H ⟨rfl,hi,hl,hR,hS,hy,hc⟩
 refine ⟨hy,?_⟩
 by_cases hlt:i < n
 ·refine .inr ⟨go i H hS hlt,b9 (by lia:ys.length≤1000000) (by decide),(fun v τ' H4=>C τ'∧R i v∧Same H H4),?_,(fun _ _=>False),fun _ _ z=>z.elim,fun x H' y=>hs i x τ H H' hc hS hlt y⟩
  rintro v τ' H4 ⟨c4,r4,s4⟩
  refine ⟨s4 _ _ hy,n - (i + 1),by lia,rfl,hlt,by simp [hl],fun j u hj=>?_,ext (hS.trans s4),ze,c4⟩
  rcases Nat.lt_trichotomy j ys.length with h | h | h
  ·exact hR j u (by rwa [eL h] at hj)
  ·subst h
   simp at hj
   subst hj
   rw [hl];exact r4
  ·rw [cR (by simp;lia)] at hj;cases hj
 ·obtain rfl:i=n:=by lia
  exact .inl ⟨stop H hS,hd ys H hl hR hS hy⟩
theorem W6 (n d:Nat) (v:Int):max (0:Int) (min (if v < 0 then v + n else v) n)=((HT.sIx n d (some v):Nat):Int):=by
 show _=(((if v < 0 then (v + (n:Int)).toNat else min v.toNat n):Nat):Int)
 by_cases hv:v < 0
 ·simp only [if_pos hv];lia
 ·simp only [if_neg hv];lia
theorem zcV (a b:Nat):sliceRange (a:Int) (b:Int) 1=(bZ (b - a)).map fun k=>a + k:=by
 simp only [sliceRange,show ((1:Int) > 0)=True from by simp,if_true]
 by_cases hlt:(a:Int) < b
 ·have e3:(((b:Int) - a + 1 - 1) / 1).toNat=b - a:=by rw [Int.ediv_one];lia
  simp only [hlt,if_true,e3]
  refine eC fun k _=>?_
  lia
 ·have:b - a=0:=by lia
  simp [hlt,this]
theorem za7 (lo hi:Option Int) (n:Nat):iI lo hi 1 n=(bZ (HT.sIx n n hi - HT.sIx n 0 lo)).map fun k=>HT.sIx n 0 lo + k:=by
 rw [← zcV]
 unfold iI
 simp only [show ((1:Int) > 0)=True from by simp,if_true]
 cases lo with
 | none =>
  cases hi with
  | none=>rfl
  | some v=>simp only [W6 n n v];rfl
 | some u =>
  cases hi with
  | none=>simp only [W6 n 0 u];rfl
  | some v=>simp only [W6 n n v,W6 n 0 u]
theorem Wk (x:Str) (lo hi:Option Int):(fm x lo hi).cps.toList=(x.cps.toList.drop (HT.sIx x.length 0 lo)).take (HT.sIx x.length x.length hi - HT.sIx x.length 0 lo):=by
 have hb:=HT.sIx_le x.length x.length (bo _) hi
 have hn:x.cps.toList.length=x.length:=by simp [gj]
 unfold fm
 rw [za7]
 split
 ·rename_i h
  have h':HT.sIx x.length x.length hi - HT.sIx x.length 0 lo=x.length:=by simpa using h
  have e0:HT.sIx x.length 0 lo=0∨x.length=0:=by lia
  rcases e0 with e0 | e0
  ·rw [e0,i8,cx]
   lia
  ·rw [ie (by lia:x.cps.toList.length=0)];simp
 ·by_cases hab:HT.sIx x.length 0 lo≤HT.sIx x.length x.length hi
  ·have h:=StrLaws.picks x.cps.toList (HT.sIx x.length x.length hi - HT.sIx x.length 0 lo) (HT.sIx x.length 0 lo) (by lia)
   simpa using h
  ·have:HT.sIx x.length x.length hi - HT.sIx x.length 0 lo=0:=by lia
   rw [this];simp
theorem YV (x:Str) (k:Nat):(fm x (some (k:Int)) none).cps.toList=x.cps.toList.drop k:=by
 rw [Wk,HT.sIx_none,HT.sIx_nat]
 have hn:x.cps.toList.length=x.length:=by simp [gj]
 by_cases h:k≤x.length
 ·rw [eS h,cx (by rw [cN];lia)]
 ·rw [mf (by lia:x.cps.toList.length≤k),fZ (by lia),mf (by lia)];simp
theorem V1 (x:Str) (k:Nat):(fm x none (some (k:Int))).cps.toList=x.cps.toList.take k:=by
 rw [Wk,HT.sIx_none,HT.sIx_nat,i8,og]
 have hn:x.cps.toList.length=x.length:=by simp [gj]
 by_cases h:k≤x.length
 ·rw [eS h]
 ·rw [fZ (by lia),cx (by lia),cx (by lia)]
theorem zcW {x y:Str} (h:x.cps.toList=y.cps.toList):x=y:=by
 obtain ⟨a⟩:=x
 obtain ⟨b⟩:=y
 have:a=b:=gc.mp h
 rw [this]
theorem zcX (x y:Str):(x ++ y).cps.toList=x.cps.toList ++ y.cps.toList:=by
 show (x.cps ++ y.cps).toList=_
 simp
open PySem.NumText in
section
def zfz (w:Int):Str:=bg (toString w)
theorem Yx (x:Str):x.length=x.cps.toList.length:=by simp [gj]
def inF (c:Nat):Bool:=!(lQ "0123456789" ⟨#[c]⟩ 0 (gj "0123456789") 1).isEmpty
def zfd (x:Str):Bool:=!decide (x="") && x.cps.toList.all inF
def inW (i:Int):Bool:=decide (-1000000000000000000000000000000≤i∧i≤1000000000000000000000000000000)
def zdY (x:Str):Str:=if (x.cps.toList.take 1 == [45])=true then fm x (some 1) none else x
def za8 (x:Str):Int:=(intText? x).getD 0
def zfe (x:Str):Bool:=!(decide (31 < (zdY x).length) || !zfd (zdY x)) && (inW (za8 x) && decide (zfz (za8 x)=x))
end
end L2
namespace L2
open PySem PySem.Spec PyProof.Rows
theorem xE (x y:Str):(x ++ y).length=x.length + y.length:=ef x y
def zdZ (_ j:Int):Prop:=j≠0∧-big < j∧j < big
section
variable {X:Cx}
theorem za9:OpR X (binaryOp .FloorDiv) (rI zdZ fun i j=>.int (i.fdiv j)):=opI fun i j _ _ _ _ _ hc q =>
 floordiv_int hc.1 q (.inl (lF (nZ (YS (W0 hc.2)) (by decide))))
end
theorem V2 {k:Nat} {A:Around} (r:Room k A):A.units + 64 < cLine:=by have:=r.un;lia
def jU:V→PyData
 | .non=>.none
 | .bl b=>.bool b
 | .int i=>.int i
 | .str x=>.str x
 | _=>.none
def yv:V→Bool
 | .non=>true
 | .bl _=>true
 | .int _=>true
 | .str x=>b6 x
 | _=>false
theorem Asc.flat {x:Str} (h:Asc x):yv (.str x)=true:=by
 unfold yv b6
 rw [Array.all_eq_true]
 intro i hi
 have:=h x.cps[i] (by simp)
 exact decide_eq_true (by lia)
def zep:V→V→Bool
 | .bl _,.int _=>false
 | .int _,.bl _=>false
 | _,_=>true
def W7:List V→List V→Bool
 | x :: xs,y :: ys=>zep x y && W7 xs ys
 | _,_=>true
theorem qF:∀ {xs:List V} {us:List Value},xs.all yv=true→Vals xs us→CarriedAll us (xs.map jU)
 | [],_,_,.nil=>.nil
 | x :: r,_,h,.cons rx t=>by
  rw [fO,bX] at h
  refine .cons ?_ (qF h.2 t)
  cases x with
  | non=>cases rx;exact .none
  | bl b=>cases rx;exact .bool b
  | int i=>obtain ⟨t,rfl⟩:=rx;exact .int i t
  | str x=>obtain ⟨t,rfl⟩:=rx;exact .str x t
  | byt b=>exact absurd h.1 (by simp [yv])
  | flt b=>exact absurd h.1 (by simp [yv])
  | ref a=>exact absurd h.1 (by simp [yv])
  | ty n=>exact absurd h.1 (by simp [yv])
theorem zba {x y:V} (hx:yv x=true) (hy:yv y=true):oW (jU x) (jU y)=decide (x=y):=by
 cases x <;> cases y <;> simp_all [yv,jU,oW] <;> (rename_i a b;by_cases e:a=b <;> simp [e])
theorem Z7:∀ {xs ys:List V},xs.all yv=true→ys.all yv=true→iZ (xs.map jU) (ys.map jU)=decide (xs=ys)
 | [],[],_,_=>by simp [iZ]
 | [],_ :: _,_,_=>by simp [iZ]
 | _ :: _,[],_,_=>by simp [iZ]
 | x :: r,y :: t,hx,hy=>by
  rw [fO,bX] at hx hy
  rw [bW,bW,iZ,zba hx.1 hy.1,Z7 hx.2 hy.2]
  by_cases a:x=y <;> by_cases b:r=t <;> simp [a,b]
theorem Q7 {x y:V} (hx:yv x=true) (hy:yv y=true) (h:zep x y=true):oJ (jU x) (jU y)=true:=by
 cases x <;> cases y <;> simp_all [yv,jU,oJ,zep]
theorem Zh:∀ {xs ys:List V},xs.all yv=true→ys.all yv=true→W7 xs ys=true→gP (xs.map jU) (ys.map jU)=true
 | [],[],_,_,_=>by simp [gP]
 | [],_ :: _,_,_,_=>by simp [gP]
 | _ :: _,[],_,_,_=>by simp [gP]
 | x :: r,y :: t,hx,hy,h=>by
  rw [fO,bX] at hx hy
  rw [W7,bX] at h
  rw [bW,bW,gP,Q7 hx.1 hy.1 h.1,Zh hx.2 hy.2 h.2]
  rfl
theorem YW {xs:List V} (h:xs.all yv=true):gU (.list (xs.map jU))=true∧gU (.tuple (xs.map jU))=true:=by
 have a:∀ x,yv x=true→(jU x).canLay0=true∧(jU x).depth=0:=fun x=>by cases x <;> simp [jU,eM,cr,yv]
 have l:∀ ys:List V,ys.all yv=true→fQ (ys.map jU)=true∧bO (ys.map jU)=0:=by
  intro ys
  induction ys with
  | nil=>exact fun _=>⟨rfl,rfl⟩
  | cons y r ih =>
   intro h
   rw [fO,bX] at h
   exact ⟨by rw [bW,fQ,(a y h.1).1,(ih h.2).1];rfl,by rw [bW,bO,(a y h.1).2,(ih h.2).2];rfl⟩
 exact ⟨by simp [gU,eM,cr,(l xs h).1,(l xs h).2],by simp [gU,eM,cr,(l xs h).1,(l xs h).2]⟩
abbrev zfA (K:bx) (neg:Bool):R2:=fun x y H Q=>∃ a b xs ys,x=.ref a∧y=.ref b∧SqL K H a xs∧SqL K H b ys∧(xs.all yv=true∧ys.all yv=true∧W7 xs ys=true)∧Q (.bl (if neg then !decide (xs=ys) else decide (xs=ys))) H
section
variable {X:Cx}
theorem zeq (hu:X.A.units + 64 < cLine):OpR X (compareOp .Eq) (zfA X.K false):=by
 intro pins s σ H x y v u Q I rx ry h
 obtain ⟨a,b,xs,ys,rfl,rfl,ha,hb,⟨f1,f2,f3⟩,q⟩:=h
 cases rx
 cases ry
 obtain ⟨us,r1,p1,_⟩:=I.list ha
 obtain ⟨ws,r2,p2,_⟩:=I.list hb
 refine eq_dataH_same (reads_newData p1.isList (qF f1 r1)) (reads_newData p2.isList (qF f2 r2)) (YW f1).1 (YW f2).1 hu (by rw [oJ];exact Zh f1 f2 f3) ?_
 rw [oW,Z7 f1 f2]
 exact ⟨.bl _,H,I,rfl,q⟩
abbrev Kg (K:bx):R2:=fun x y H Q=>∃ a b xs,x=.ref a∧y=.ref b∧SqL K H a xs∧SqL K H b []∧Q (.bl (decide (xs=[]))) H
theorem zbb (hu:X.A.units + 64 < cLine):OpR X (compareOp .Eq) (Kg X.K):=by
 intro pins s σ H x y v u Q I rx ry h
 obtain ⟨a,b,xs,rfl,rfl,ha,hb,q⟩:=h
 by_cases e:xs=[]
 ·subst e
  exact zeq hu pins s σ H _ _ v u Q I rx ry ⟨a,b,[],[],rfl,rfl,ha,hb,⟨rfl,rfl,rfl⟩,q⟩
 ·cases rx
  cases ry
  obtain ⟨us,r1,p1,_⟩:=I.list ha
  obtain ⟨ws,r2,p2,_⟩:=I.list hb
  cases r2
  have e1:=r1.length
  have e2:xs.length≠0:=fun z=>e (ie z)
  refine PySem.SeqAt.eq_list_lengthsAt p1.isList p2.isList (by simp;intro z;rw [z] at e1;exact e2 e1) (by lia) ?_
  rw [decide_eq_false e] at q
  exact ⟨.bl false,H,I,rfl,q⟩
end
abbrev yd:RM:=vh
abbrev j3:RM:=zcL
def jw:List V:=[.str "plus",.str "minus",.str "times",.str "over",.str "rest",.str "under",.str "same"]
def isJ (v:V):Bool:=inV v jw
inductive Er where
 | nought | great | stuck
 deriving DecidableEq
def wT (w:Str) (a b:Int):Int :=
 if w="plus" then a + b else if w="minus" then a - b else if w="times" then a * b else if w="under" then (if a < b then 1 else 0) else if w="same" then (if a=b then 1 else 0) else if w="over" then a.fdiv b else a.fmod b
def Z8 (w:Str):Prop:=¬ w="plus"∧¬ w="minus"∧¬ w="times"∧¬ w="under"∧¬ w="same"
instance (w:Str):Decidable (Z8 w):=by unfold Z8;infer_instance
def wH (w:Str) (a b:Int):Except Er Int:=if Z8 w∧b=0 then .error .nought else if inW (wT w a b)=true then .ok (wT w a b) else .error .great
def Kh (kvs:List (Key × V)):V→Int
 | .int i=>i
 | .str x=>(match yL kvs (.inr x) with | some (.int i)=>i | _=>0)
 | _=>0
def xO (kvs:List (Key × V)) (st:List Int) (v:V):Except Er (List Int) :=
 if isJ v=true then (match v,st.reverse with | .str w,b :: a :: r=>(match wH w a b with | .ok c=>.ok (r.reverse ++ [c]) | .error e=>.error e) | _,_=>.error .stuck) else .ok (st ++ [Kh kvs v])
def wj (kvs:List (Key × V)):List V→List Int→Except Er (List Int)
 | [],st=>.ok st
 | v :: r,st=>match xO kvs st v with | .ok st'=>wj kvs r st' | .error e=>.error e
section
variable {kvs:List (Key × V)}
theorem j4:∀ (p q:List V) (st:List Int),wj kvs (p ++ q) st=match wj kvs p st with | .ok st'=>wj kvs q st' | .error e=>.error e
 | [],q,st=>rfl
 | v :: r,q,st=>by
  show (match xO kvs st v with | .ok st'=>wj kvs (r ++ q) st' | .error e=>.error e)=match (match xO kvs st v with | .ok st'=>wj kvs r st' | .error e=>.error e) with | .ok st'=>wj kvs q st' | .error e=>.error e
  cases xO kvs st v with
  | error e=>rfl
  | ok st'=>exact j4 r q st'
def Good (kvs:List (Key × V)) (ps:List V) (r:Except Er Int):Prop:=(∀ st,wj kvs ps st=match r with | .ok i=>.ok (st ++ [i]) | .error e=>.error e)∧r≠.error .stuck
theorem Q8 {v:V} (h:isJ v=false):Good kvs [v] (.ok (Kh kvs v)):=by
 refine ⟨fun st=>?_,fun z=>nomatch z⟩
 unfold wj xO
 rw [h,if_neg (by decide)]
 rfl
def zd0 (w:Str) (r1 r2:Except Er Int):Except Er Int:=match r1 with | .error e=>.error e | .ok a=>match r2 with | .error e=>.error e | .ok b=>wH w a b
theorem zbc (w:Str) (a b:Int):wH w a b≠.error .stuck:=by
 unfold wH
 split
 ·exact fun z=>nomatch z
 ·split <;> exact fun z=>nomatch z
theorem Q9 {w:Str} {p1 p2:List V} {r1 r2:Except Er Int} (hw:isJ (.str w)=true) (g1:Good kvs p1 r1) (g2:Good kvs p2 r2):Good kvs (p1 ++ p2 ++ [.str w]) (zd0 w r1 r2):=by
 refine ⟨fun st=>?_,?_⟩
 ·rw [j4,j4,g1.1]
  cases r1 with
  | error e=>rfl
  | ok a =>
   show (match wj kvs p2 (st ++ [a]) with | .ok st'=>wj kvs [.str w] st' | .error e=>.error e)=_
   rw [g2.1]
   cases r2 with
   | error e=>rfl
   | ok b =>
    show wj kvs [.str w] (st ++ [a] ++ [b])=match wH w a b with | .ok i=>.ok (st ++ [i]) | .error e=>.error e
    unfold wj xO
    rw [hw,if_pos rfl]
    simp only [nk,nS,ot,bQ,bI,gL]
    cases wH w a b with
    | error e=>rfl
    | ok c=>simp [wj]
 ·unfold zd0
  cases r1 with
  | error e=>exact g1.2
  | ok a =>
   cases r2 with
   | error e=>exact g2.2
   | ok b=>exact zbc w a b
theorem Qe {ps:List V} {i:Nat} {st:List Int} {e:Er} (h:wj kvs (ps.take i) st=.error e):wj kvs ps st=.error e:=by
 have:=j4 (kvs:=kvs) (ps.take i) (ps.drop i) st
 rw [gW,h] at this
 exact this
theorem zcY {ps:List V} {i:Nat} {st st0:List Int} {v:V} (h:wj kvs (ps.take i) st0=.ok st) (hv:ps[i]?=some v):wj kvs (ps.take (i + 1)) st0=xO kvs st v:=by
 rw [eh,hv]
 show wj kvs (ps.take i ++ [v]) st0=_
 rw [j4,h]
 show (match xO kvs st v with | .ok st'=>wj kvs [] st' | .error e=>.error e)=_
 cases xO kvs st v <;> rfl
end
def jq (v:V):Prop:=(∃ i,v=.int i∧inW i=true)∨∃ x:Str,v=.str x∧x.length≤1000
def yP (kvs:List (Key × V)):Prop:=∀ k v,yL kvs k=some v→∃ i,v=.int i∧inW i=true
theorem V3 {kvs:List (Key × V)} (h:yP kvs) {v:V} (hv:jq v):inW (Kh kvs v)=true:=by
 rcases hv with ⟨i,rfl,hi⟩ | ⟨x,rfl,_⟩
 ·exact hi
 ·show inW (match yL kvs (.inr x) with | some (.int i)=>i | _=>0)=true
  cases e:yL kvs (.inr x) with
  | none=>rfl
  | some u =>
   obtain ⟨i,rfl,hi⟩:=h _ _ e
   exact hi
theorem inW_iff {i:Int}:inW i=true↔-1000000000000000000000000000000≤i∧i≤1000000000000000000000000000000:=by unfold inW;rw [decide_eq_true_eq]
theorem W8 {i:Int} (h:inW i=true):-big < i∧i < big:=by
 have:=inW_iff.mp h
 have hb:(1000000000000000000000000000001:Int) < big:=by decide +kernel
 lia
abbrev Zi (K:bx):RC:=fun xs H Q=>∃ p ys,xs=[.ref p]∧(SqL K H p ys∨SqT K H p ys)∧∀ l,H l=none→Q (.ref l) (upd H l (.lst ys))
def inL (c:Nat):Bool:=!(lQ "abcdefghijklmnopqrstuvwxyz" ⟨#[c]⟩ 0 (gj "abcdefghijklmnopqrstuvwxyz") 1).isEmpty
def wl:List V:=[.str "take",.str "give",.str "let",.str "say",.str "off",.str "if",.str "else",.str "end",.str "as"]
def yf (x:Str):Bool:=!(decide (x="") || decide (6 < x.length)) && !(inV (.str x) jw || inV (.str x) wl) && x.cps.toList.all inL
theorem zcZ (c:Nat):inL c=true→97≤c∧c≤122:=by
 unfold inL
 rw [StrLaws.found_one]
 have e:(bg "abcdefghijklmnopqrstuvwxyz").cps.toList=[97,98,99,100,101,102,103,104,105,106,107,108,109,110,111,112,113,114,115,116,117,118,119,120,121,122]:=by decide +kernel
 rw [e]
 simp only [decide_eq_true_eq,bR,de,or_false]
 omega
theorem Zj {x:Str} (h:yf x=true):x.cps.toList≠[]∧x.length≤6∧isJ (.str x)=false∧x.cps.toList.all inL=true:=by
 unfold yf at h
 rw [bX,bX,b0,b0,iq,iq,decide_eq_false_iff_not,decide_eq_false_iff_not] at h
 refine ⟨fun z=>h.1.1.1 (zcW (by rw [z];decide +kernel)),by lia,h.1.2.1,h.2⟩
def zbd (w:Str):Option V:=if yf w=true then some (.str w) else if zfe w=true then some (.int (za8 w)) else none
inductive Tw where
 | leaf (w:Str) | node (w:Str) (a b:Tw)
def pre:Tw→List Str
 | .leaf w=>[w]
 | .node w a b=>w :: (pre a ++ pre b)
def wfT:Tw→Prop
 | .leaf w=>isJ (.str w)=false
 | .node w a b=>isJ (.str w)=true∧wfT a∧wfT b
def okT:Tw→Bool
 | .leaf w=>(zbd w).isSome
 | .node _ a b=>okT a && okT b
def pvw (w:Str):V:=(zbd w).getD (.str w)
def pst:Tw→List V
 | .leaf w=>[pvw w]
 | .node w a b=>pst a ++ pst b ++ [.str w]
def zff:List Str→Nat→Option Nat
 | _,0=>some 0
 | [],_ + 1=>none
 | w :: r,d + 1=>(zff r (if isJ (.str w)=true then d + 2 else d)).map (· + 1)
def xF (st:List (List V)) (w:Str):Except Bool (List (List V)) :=
 if isJ (.str w)=true then (match st.reverse with | a :: b :: r=>.ok (r.reverse ++ [a ++ b ++ [.str w]]) | _=>.error false) else (match zbd w with | some v=>.ok (st ++ [[v]]) | none=>.error true)
def Ki:List Str→List (List V)→Except Bool (List (List V))
 | [],st=>.ok st
 | w :: r,st=>match xF st w with | .ok st'=>Ki r st' | .error e=>.error e
theorem zbe:∀ (p q:List Str) (st:List (List V)),Ki (p ++ q) st=match Ki p st with | .ok st'=>Ki q st' | .error e=>.error e
 | [],q,st=>rfl
 | v :: r,q,st=>by
  show (match xF st v with | .ok st'=>Ki (r ++ q) st' | .error e=>.error e)=match (match xF st v with | .ok st'=>Ki r st' | .error e=>.error e) with | .ok st'=>Ki q st' | .error e=>.error e
  cases xF st v with
  | error e=>rfl
  | ok st'=>exact zbe r q st'
theorem zbf {x:Str} (h:yf x=true):Asc x:=fun c hc=>by
 have:=zcZ c (dm.mp (Zj h).2.2.2 c hc)
 lia
theorem Inv.turnedL {X:Cx} {pins:List (Addr × Obj)} {σ:St} {H:Hp} {s:Shared} {h':Heap} {t':Nat} {ch:List Addr} (I:Inv X pins σ H s) (k:∀ b o,b ∉ ch→s.heap.get? b=some o→h'.get? b=some o) (hf:∀ b∈ch,jZ X pins H b) :
  Inv X pins σ H { s with heap:=h',toks:=t' }:=by
 have nit:∀ b u,H b=some u→b ∉ ch:=fun b u e z=>by rw [(hf b z).1] at e;cases e
 refine I.step (g':=s.gens) (d':=s.drawn) (ch:=ch) (fun b hb=>?_) (fun b o _ _ hc e _=>k b o hc e) (fun b o _ _ hc e _=>⟨o.slots,k b o hc e⟩) (fun _ _ _ _ n=>n) (fun b o hc e=>⟨o,k b o hc e⟩) (fun _ _ e=>e) (fun _ _ _ e=>e) (fun b ps e=>⟨#[],by rw [e];simp⟩) (fun m hm=>?_) (fun b u e=>?_) I.bare
 ·obtain ⟨f0,f1,f2,f3,f4,f5⟩:=hf b hb
  exact ⟨f3,f1,f4,f5⟩
 ·obtain ⟨o,es,ep,ho,r⟩:=hm
  exact ⟨o,es,ep,k _ o (fun z=>(hf _ z).2.1 rfl) ho,r⟩
 ·refine (I.hok b u e).stay (fun c v hc q=>k c v ?_ q) (fun _ q=>q) fun _ _ q=>q
  rcases hc with z | z
  ·rw [z];exact nit b u e
  ·exact nit c _ z
abbrev zfg (K:bx):RC:=fun xs H Q=>∃ p ys,xs=[.ref p]∧((SqL K H p ys∧∀ l,H l=none→Q (.ref l) (upd H l (.tup ys)))∨(SqT K H p ys∧Q (.ref p) H))
def Qf (st:List (List V)) (v:V):Option (List (List V)):=if isJ v=true then (match st.reverse with | b :: a :: r=>some (r.reverse ++ [v :: (a ++ b)]) | _=>none) else some (st ++ [[v]])
def Kj:List V→List (List V)→Option (List (List V))
 | [],st=>some st
 | v :: r,st=>(Qf st v).bind (Kj r)
theorem zbg:∀ (p q:List V) (st:List (List V)),Kj (p ++ q) st=(Kj p st).bind (Kj q)
 | [],q,st=>rfl
 | v :: r,q,st=>by
  show (Qf st v).bind (Kj (r ++ q))=((Qf st v).bind (Kj r)).bind (Kj q)
  cases Qf st v with
  | none=>rfl
  | some st'=>exact zbg r q st'
end L2
namespace L2
open PySem PySem.W PyProof.Rows
section
variable {α β:Type} {lt:Nat→Nat→Bool} {n:Nat}
def kOk (lt:Nat→Nat→Bool) (n:Nat):KasT α→(α→Prop)→Prop
 | .ret a,R=>R a
 | .ask i j k,R=>i < n∧j < n∧i≠j∧kOk lt n (k (lt i j)) R
theorem y7:∀ {t:KasT α} {f:α→KasT β} {R:β→Prop},kOk lt n t (fun a=>kOk lt n (f a) R)→kOk lt n (t.bind f) R
 | .ret _,_,_,h=>h
 | .ask _ _ _,_,_,h=>⟨h.1,h.2.1,h.2.2.1,y7 h.2.2.2⟩
theorem yb:∀ {t:KasT α} {R R':α→Prop},kOk lt n t R→(∀ a,R a→R' a)→kOk lt n t R'
 | .ret _,_,_,h,m=>m _ h
 | .ask _ _ _,_,_,h,m=>⟨h.1,h.2.1,h.2.2.1,yb h.2.2.2 m⟩
structure SO (lt:Nat→Nat→Bool) (n:Nat):Prop where
 irr:∀ i,i < n→lt i i=false
 trans:∀ i j k,i < n→j < n→k < n→lt i j=true→lt j k=true→lt i k=true
 tot:∀ i j,i < n→j < n→i≠j→lt i j=false→lt j i=true
def PP (n:Nat) (p:Array Nat):Prop:=p.Perm (bZ n).toArray
def gt (p:Array Nat) (k:Nat):Nat:=p.getD k 0
theorem v7 {p:Array Nat} {k:Nat} (h:k < p.size):p[k]?=some (gt p k):=by
 unfold gt
 rw [iJ,cu h]
 rfl
theorem PP.size {p:Array Nat} (h:PP n p):p.size=n:=by
 have:=h.size_eq
 simpa using this
theorem PP.blt {p:Array Nat} (h:PP n p) {k:Nat} (hk:k < n):gt p k < n:=by
 have hs:=h.size
 have m:gt p k∈p:=Array.mem_of_getElem? (v7 (by lia))
 have m2:gt p k∈(bZ n).toArray:=(i4 h).mp m
 simpa using m2
theorem PP.inj {p:Array Nat} (h:PP n p) {i j:Nat} (hi:i < n) (hj:j < n) (e:gt p i=gt p j):i=j:=by
 have hs:=h.size
 have nd:p.toList.Nodup:=by
  have:p.toList.Perm (bZ n):=by
   have:=fT.mp h
   simpa using this
  exact this.nodup_iff.mpr l0
 have e1:=v7 (p:=p) (k:=i) (by lia)
 have e2:=v7 (p:=p) (k:=j) (by lia)
 rw [← e] at e2
 have e1':p.toList[i]?=some (gt p i):=by simpa using e1
 have e2':p.toList[j]?=some (gt p i):=by simpa using e2
 obtain ⟨a1,b1⟩:=bC.mp e1'
 obtain ⟨a2,b2⟩:=bC.mp e2'
 exact (fk nd).mp (b1.trans b2.symm)
def v9 (lt:Nat→Nat→Bool) (p:Array Nat) (m:Nat):Prop:=∀ i j,i < j→j < m→lt (gt p i) (gt p j)=true
def zer (lt:Nat→Nat→Bool) (p:Array Nat) (m:Nat):Prop:=∀ i j,i < j→j < m→lt (gt p j) (gt p i)=true
theorem Kk (S:SO lt n) {p:Array Nat} (hp:PP n p):∀ (f a:Nat),1≤a→a + f≤n→v9 lt p a→kOk lt n (kas_asc p f a) fun m=>a≤m∧m≤a + f∧v9 lt p m∧(m < a + f→lt (gt p m) (gt p (m - 1))=true)
 | 0,a,h1,h2,hr=>⟨bo _,bo _,hr,fun z=>absurd z (eY _)⟩
 | f + 1,a,h1,h2,hr=>by
  refine ⟨hp.blt (by lia),hp.blt (by lia),(fun z=>by have:=hp.inj (by lia) (by lia) z;lia),?_⟩
  show kOk lt n (if lt (gt p a) (gt p (a - 1))=true then .ret a else kas_asc p f (a + 1)) _
  by_cases c:lt (gt p a) (gt p (a - 1))=true
  ·rw [if_pos c]
   exact ⟨bo _,by lia,hr,fun _=>c⟩
  ·rw [if_neg c]
   have up:lt (gt p (a - 1)) (gt p a)=true:=S.tot _ _ (hp.blt (by lia)) (hp.blt (by lia)) (fun z=>by have:=hp.inj (by lia) (by lia) z;lia) (gK.mpr c)
   refine yb (Kk S hp f (a + 1) (by lia) (by lia) fun i j hij hj=>?_) fun m ⟨x1,x2,x3,x4⟩=>⟨by lia,by lia,x3,fun z=>x4 (by lia)⟩
   by_cases hja:j < a
   ·exact hr i j hij hja
   ·obtain rfl:j=a:=by lia
    by_cases hi:i=j - 1
    ·rw [hi];exact up
    ·exact S.trans _ _ _ (hp.blt (by lia)) (hp.blt (by lia)) (hp.blt (by lia)) (hr i (j - 1) (by lia) (by lia)) up
theorem Qg (S:SO lt n) {p:Array Nat} (hp:PP n p):∀ (f a:Nat),1≤a→a + f≤n→zer lt p a→kOk lt n (lR f p a 0) fun r=>r.1=p∧r.2.2=0∧a≤r.2.1∧r.2.1≤a + f∧zer lt p r.2.1
 | 0,a,h1,h2,hr=>⟨rfl,rfl,bo _,bo _,hr⟩
 | f + 1,a,h1,h2,hr=>by
  refine ⟨hp.blt (by lia),hp.blt (by lia),(fun z=>by have:=hp.inj (by lia) (by lia) z;lia),?_⟩
  show kOk lt n (if lt (gt p a) (gt p (a - 1))=true then (if 0 > 0 then _ else lR f p (a + 1) 0) else .ask (gt p (a - 1)) (gt p a) fun d=>if d=true then .ret (p,a,0) else lR f p (a + 1) (0 + 1)) _
  by_cases c:lt (gt p a) (gt p (a - 1))=true
  ·rw [if_pos c,if_neg (by lia)]
   refine yb (Qg S hp f (a + 1) (by lia) (by lia) fun i j hij hj=>?_) fun m ⟨x1,x2,x3,x4,x5⟩=>⟨x1,x2,by lia,by lia,x5⟩
   by_cases hja:j < a
   ·exact hr i j hij hja
   ·obtain rfl:j=a:=by lia
    by_cases hi:i=j - 1
    ·rw [hi];exact c
    ·exact S.trans _ _ _ (hp.blt (by lia)) (hp.blt (by lia)) (hp.blt (by lia)) c (hr i (j - 1) (by lia) (by lia))
  ·rw [if_neg c]
   have up:lt (gt p (a - 1)) (gt p a)=true:=S.tot _ _ (hp.blt (by lia)) (hp.blt (by lia)) (fun z=>by have:=hp.inj (by lia) (by lia) z;lia) (gK.mpr c)
   refine ⟨hp.blt (by lia),hp.blt (by lia),(fun z=>by have:=hp.inj (by lia) (by lia) z;lia),?_⟩
   show kOk lt n (if lt (gt p (a - 1)) (gt p a)=true then .ret (p,a,0) else _) _
   rw [if_pos up]
   exact ⟨rfl,rfl,bo _,Nat.le_add_right _ _,hr⟩
theorem zbh {p:Array Nat} {m k:Nat} (hm:m≤p.size) (hk:k < m):gt (kas_rev p 0 m) k=gt p (m - 1 - k):=by
 have e:=getElem?_mirror_all (xs:=p) (i:=0) (j:=m) hm k
 rw [if_pos ⟨b8 _,hk⟩] at e
 have e1:=v7 (p:=kas_rev p 0 m) (k:=k) (by unfold kas_rev;rw [mirror_size];lia)
 have e2:=v7 (p:=p) (k:=m - 1 - k) (by lia)
 unfold kas_rev at e1 ⊢
 rw [e,show 0 + m - 1 - k=m - 1 - k by lia,e2] at e1
 exact (cf e1).symm
theorem PP.rev {p:Array Nat} (h:PP n p) (m:Nat):PP n (kas_rev p 0 m):=ig (fb _ _ _ _) h
theorem zc0 (S:SO lt n) {p:Array Nat} (hp:PP n p) {m:Nat} (h1:1≤m) (h2:m≤n) (hf:zer lt p m):kOk lt n (kas_tail3 m n p) fun r=>PP n r.2∧v9 lt r.2 r.1∧1≤r.1∧r.1≤n:=by
 refine y7 (yb (Kk S (hp.rev m) (n - m) m h1 (by lia) fun i j hij hj=>?_) fun a ⟨x1,x2,x3,_⟩=>⟨hp.rev m,x3,by lia,by lia⟩)
 have hs:=hp.size
 rw [zbh (by lia) (by lia),zbh (by lia) hj]
 exact hf _ _ (by lia) (by lia)
theorem zbi (S:SO lt n) {p:Array Nat} (hp:PP n p) (hn:1≤n):kOk lt n (kas_count n p) fun r=>PP n r.2∧v9 lt r.2 r.1∧1≤r.1∧r.1≤n:=by
 refine y7 (yb (Kk S hp (n - 1) 1 (bo _) (by lia) fun i j hij hj=>by lia) fun m ⟨x1,x2,x3,x4⟩=>?_)
 by_cases e:(m == n)=true
 ·rw [if_pos e]
  exact ⟨hp,x3,x1,by lia⟩
 ·rw [if_neg e]
  have ne:m≠n:=by simpa using e
  by_cases h:m > 1
  ·rw [if_pos h]
   refine ⟨hp.blt (by lia),hp.blt (by lia),(fun z=>by have:=hp.inj (by lia) (by lia) z;lia),?_⟩
   show kOk lt n (if lt (gt p 0) (gt p (m - 1))=true then .ret (m,p) else _) _
   rw [if_pos (x3 0 (m - 1) (by lia) (by lia))]
   exact ⟨hp,x3,x1,by lia⟩
  ·rw [if_neg h]
   obtain rfl:m=1:=by lia
   have c:=x4 (by lia)
   refine y7 (yb (Qg S hp (n - 2) 2 (by lia) (by lia) fun i j hij hj=>?_) fun r ⟨y1,y2,y3,y4,y5⟩=>?_)
   ·obtain rfl:j=1:=by lia
    obtain rfl:i=0:=by lia
    exact c
   ·rw [if_neg (by lia),y1]
    exact zc0 S hp (by lia) (by lia) y5
theorem YX (S:SO lt n) {p:Array Nat} (hp:PP n p) {k:Nat} (hk:k < n) (hr:v9 lt p k):∀ (f l r:Nat),l≤r→r≤k→r - l≤f→(∀ i,i < l→lt (gt p i) (gt p k)=true)→(∀ i,r≤i→i < k→lt (gt p k) (gt p i)=true) →
  kOk lt n (mC p k f l r) fun m=>m≤k∧(∀ i,i < m→lt (gt p i) (gt p k)=true)∧∀ i,m≤i→i < k→lt (gt p k) (gt p i)=true
 | 0,l,r,h1,h2,h3,h4,h5=>⟨by lia,h4,fun i hi hik=>h5 i (by lia) hik⟩
 | f + 1,l,r,h1,h2,h3,h4,h5=>by
  unfold mC
  by_cases c:l ≥ r
  ·rw [if_pos c]
   exact ⟨by lia,h4,fun i hi hik=>h5 i (by lia) hik⟩
  ·rw [if_neg c]
   refine ⟨hp.blt (by lia),hp.blt (by lia),(fun z=>by have:=hp.inj (by lia) (by lia) z;lia),?_⟩
   show kOk lt n (if lt (gt p k) (gt p ((l + r) / 2))=true then _ else _) _
   by_cases d:lt (gt p k) (gt p ((l + r) / 2))=true
   ·rw [if_pos d]
    refine YX S hp hk hr f l ((l + r) / 2) (by lia) (by lia) (by lia) h4 fun i hi hik=>?_
    by_cases e:i=(l + r) / 2
    ·rw [e];exact d
    ·exact S.trans _ _ _ (hp.blt (by lia)) (hp.blt (by lia)) (hp.blt (by lia)) d (hr _ i (by lia) hik)
   ·rw [if_neg d]
    have up:lt (gt p ((l + r) / 2)) (gt p k)=true:=S.tot _ _ (hp.blt (by lia)) (hp.blt (by lia)) (fun z=>by have:=hp.inj (by lia) (by lia) z;lia) (gK.mpr d)
    refine YX S hp hk hr f ((l + r) / 2 + 1) r (by lia) (by lia) (by lia) (fun i hi=>?_) h5
    by_cases e:i=(l + r) / 2
    ·rw [e];exact up
    ·exact S.trans _ _ _ (hp.blt (by lia)) (hp.blt (by lia)) (hp.blt (by lia)) (hr i _ (by lia) (by lia)) up
theorem zbj {p:Array Nat} {k d j:Nat} (hk:k < p.size) (hd:d≤k) (hj:j < p.size):gt (bubble p k d) j=if j=k - d then gt p k else if k - d < j∧j≤k then gt p (j - 1) else gt p j:=by
 have e:=getElem?_bubble hk d hd j
 rw [v7 (p:=bubble p k d) (k:=j) (by rw [bubble_size];exact hj)] at e
 by_cases h1:j=k - d
 ·rw [if_pos h1,v7 hk] at e
  rw [if_pos h1];exact cf e
 ·rw [if_neg h1] at e ⊢
  by_cases h2:k - d < j∧j≤k
  ·rw [if_pos h2,v7 (by lia)] at e
   rw [if_pos h2];exact cf e
  ·rw [if_neg h2,v7 hj] at e
   rw [if_neg h2];exact cf e
theorem zbk (S:SO lt n):∀ (f:Nat) {p:Array Nat} (k:Nat),PP n p→k + f=n→v9 lt p k→kOk lt n (kas_bin f p k) fun p'=>PP n p'∧v9 lt p' n
 | 0,p,k,hp,hk,hr=>⟨hp,by rw [← hk];exact hr⟩
 | f + 1,p,k,hp,hk,hr=>by
  have hs:=hp.size
  refine y7 (yb (YX S hp (by lia) hr k 0 k (b8 _) (bo _) (by lia) (fun i hi=>by lia) (fun i h1 h2=>by lia)) fun l ⟨x1,x2,x3⟩=>?_)
  refine zbk S f (k + 1) (ig (bubble_perm _ _ _) hp) (by lia) fun i j hij hj=>?_
  rw [zbj (by lia) (by lia) (by lia),zbj (by lia) (by lia) (by lia)]
  have e:k - (k - l)=l:=by lia
  rw [e]
  by_cases hi:i=l
  ·rw [if_pos hi,if_neg (by lia),if_pos (by lia)]
   exact x3 _ (by lia) (by lia)
  ·rw [if_neg hi]
   by_cases hi2:l < i∧i≤k
   ·rw [if_pos hi2,if_neg (by lia),if_pos (by lia)]
    exact hr _ _ (by lia) (by lia)
   ·rw [if_neg hi2]
    by_cases hj1:j=l
    ·rw [if_pos hj1]
     exact x2 _ (by lia)
    ·rw [if_neg hj1]
     by_cases hj2:l < j∧j≤k
     ·rw [if_pos hj2]
      by_cases hij2:i < j - 1
      ·exact hr _ _ hij2 (by lia)
      ·lia
     ·rw [if_neg hj2]
      exact hr _ _ hij (by lia)
theorem Qh (S:SO lt n) (hn:1≤n):kOk lt n (kas_sort n) fun p=>PP n p∧v9 lt p n:=by
 refine y7 (yb (zbi S (p:=mD (bZ n)) (mE _) hn) fun r ⟨x1,x2,x3,x4⟩=>?_)
 by_cases h:r.1 < n
 ·rw [if_pos h,Nat.max_eq_left x3]
  exact zbk S _ _ x1 (by lia) x2
 ·rw [if_neg h]
  obtain e:r.1=n:=by lia
  exact ⟨x1,by rw [← e];rw [e] at x2 ⊢;exact x2⟩
end
theorem Kl {α:Type} {lt:Nat→Nat→Bool} {n:Nat} {s:Shared} {cmp:Nat→Nat→(Bool→Shared→Prop)→Shared→Prop} (hc:∀ i j C,i < n→j < n→i≠j→C (lt i j) s→cmp i j C s):∀ {t:KasT α} {R:α→Prop} {Q:α→Shared→Prop},kOk lt n t R→(∀ a,R a→Q a s)→t.kasWp cmp Q s
 | .ret _,_,_,h,m=>m _ h
 | .ask _ _ _,_,_,h,m=>hc _ _ _ h.1 h.2.1 h.2.2.1 (Kl hc h.2.2.2 m)
def Kp (a:Addr) (h h':Heap):Prop:=∀ b o,b≠a→h.get? b=some o→h'.get? b=some o
def xl (vs:List Value) (p:Array Nat):List Value:=p.toList.map fun i=>vs.getD i cy
theorem V4 (vs:List Value):xl vs (mD (bZ vs.length))=vs:=by
 unfold xl
 apply fR
 intro i
 simp only [bN]
 by_cases h:i < vs.length
 ·rw [bh (l:=vs) h]
  simp [iK h,h]
 ·rw [cR (by lia:vs.length≤i)]
  simp
  lia
section
variable {P:Program} {w:World} {A:Around} {E:Value→Shared→Prop} {s:Shared}
theorem YY {a:Addr} {vs:List Value} {n:Nat} {κ:SortKind} {lt:Nat→Nat→Bool} {R:PySem.Fin→Shared→Prop} (ho:s.heap.get? a=some (seqObj "list" vs.toArray n)) (h64:vs.length < 64)
  (hk:2≤vs.length→∀ (h:Heap) (Q:SortKind→Shared→Prop),Kp a s.heap h→Q κ { s with heap:=h }→wpAny (model P w) A (keyKind' vs.toArray) Q (fun _ _=>False) { s with heap:=h })
  (hc:∀ (h:Heap) i j C,Kp a s.heap h→i < vs.length→j < vs.length→i≠j→C (lt i j) { s with heap:=h }→kas_ask P w A κ vs i j C { s with heap:=h }) (S:SO lt vs.length)
  (fin:∀ h p c,Kp a s.heap h→h.get? a=some (seqObj "list" (xl vs p).toArray c)→PP vs.length p→v9 lt p vs.length→R (.done (.ret .none)) { s with heap:=h }) :
  wpAny (model P w) A (Builtin.«list.sort» ⟨[.ref a],[]⟩) R E s:=by
 have ha:a < s.heap.objs.size:=bS ho
 obtain ⟨e1,o1⟩:∃ e1,(s.heap.update a (cE fun _=>(#[]:Array Value))).get? a=some (seqObj "list" #[] e1):=⟨_,iL ho fun _=>#[]⟩
 have k1:Kp a s.heap (((s.heap.update a (cE fun _=>(#[]:Array Value))).push (seqObj "tuple" vs.toArray 0)).push (seqObj "list" #[] 0)):=fun b o hb e =>
  bi _ (bi _ ((cV _ _ (cK hb)).trans e))
 have o3:(((s.heap.update a (cE fun _=>(#[]:Array Value))).push (seqObj "tuple" vs.toArray 0)).push (seqObj "list" #[] 0)).get? a=some (seqObj "list" #[] e1):=bi _ (bi _ o1)
 have last:∀ out:List Value,out.length=vs.length→∃ c,((((s.heap.update a (cE fun _=>(#[]:Array Value))).push (seqObj "tuple" vs.toArray 0)).push (seqObj "list" #[] 0)).update a (cE fun _=>out.toArray)).get? a=some (seqObj "list" out.toArray c):=fun out _=>⟨_,iL o3 fun _=>out.toArray⟩
 have keep2:∀ out:List Value,Kp a s.heap ((((s.heap.update a (cE fun _=>(#[]:Array Value))).push (seqObj "tuple" vs.toArray 0)).push (seqObj "list" #[] 0)).update a (cE fun _=>out.toArray)):=fun out b o hb e =>
  (cV _ _ (cK hb)).trans (k1 b o hb e)
 rw [list_sort_plain];refine bd (listItems_at ho rfl ?_)
 refine bd (gB ho rfl ?_ (by rw [bM,c7];lia) (b8 _));refine bd (iM o1 rfl ?_)
 refine bd (i9 ?_ (by show vs.length≤_;rw [c7];lia));refine bd (iu ?_ (b8 _));refine df ?_
 show wpAny (model P w) A _ R E { s with heap:=((s.heap.update a (cE fun _=>(#[]:Array Value))).push (seqObj "tuple" vs.toArray 0)).push (seqObj "list" #[] 0) }
 generalize hH:((s.heap.update a (cE fun _=>(#[]:Array Value))).push (seqObj "tuple" vs.toArray 0)).push (seqObj "list" #[] 0)=g at *
 dsimp only
 have up:∀ out:List Value,out.length=vs.length→∀ p,out=xl vs p→PP vs.length p→v9 lt p vs.length→R (.done (.ret .none)) { s with heap:=g.update a (cE fun _=>out.toArray) }:=fun out hl p e hp hr=>by
  obtain ⟨c,hcc⟩:=last out hl
  refine fin _ p c (keep2 out) ?_ hp hr
  rw [← e];exact hcc
 by_cases h2:vs.toArray.size < 2
 ·have hl2:vs.length < 2:=by simpa using h2
  rw [if_pos h2,if_pos h2];refine bd (bj ?_);rw [oK];refine bd (bj ?_)
  dsimp only
  have ez:((vs.toArray.zip vs.toArray).map (·.2))=vs.toArray:=by
   apply gc.mp
   rw [l5,ou]
   simp [oy]
  refine bd (iM o3 rfl ?_)
  rw [show (arrOf (gm general' (vs.toArray.zip vs.toArray) #[] 7 none))=vs.toArray.zip vs.toArray from rfl,ez]
  refine bd (gB o3 rfl ?_ (b8 _) (by rw [bM,c7];lia))
  simp only [bne_self_eq_false,cb,if_false]
  exact bj (up vs rfl _ (V4 vs).symm (mE _) fun i j hij hj=>by lia)
 ·have hl2:2≤vs.length:=by simpa using h2
  rw [if_neg h2,if_neg h2];refine bd (cG (hk hl2 g (fun κ' s'=>κ'=κ∧s'={ s with heap:=g }) k1 ⟨rfl,rfl⟩) (fun κ' s' hs=>?_) fun _ _ x=>x.elim)
  obtain ⟨rfl,rfl⟩:=hs
  have run:=Kl (s:={ s with heap:=g }) (cmp:=kas_ask P w A κ' vs) (fun i j C hi hj hij hC=>hc g i j C k1 hi hj hij hC) (Qh S (by lia)) (Q:=fun p s'=>s'={ s with heap:=g }∧PP vs.length p∧v9 lt p vs.length) fun p hp=>⟨rfl,hp⟩
  refine bd (cG (kat_run (ks:=vs) (Q:=fun st s'=>∃ p:Array Nat,arrOf st=p.map (kas_item (vs.toArray.zip vs.toArray))∧failedOf st=none∧s'={ s with heap:=g }∧PP vs.length p∧v9 lt p vs.length) rfl hl2 h64 (fun p st s' _ a2 a3 a4=>⟨p,a2,a3,a4⟩) run) ?_ fun _ _ e=>e)
  rintro ⟨⟨⟩,st⟩ s' ⟨p,har,hf,rfl,hp,hr⟩
  dsimp only
  have out:=kat_snds (ks:=vs) rfl har
  have ol:(xl vs p).length=vs.length:=by unfold xl;rw [bt,ci,hp.size]
  rw [out];refine bd (iM o3 rfl ?_)
  refine bd (gB o3 rfl ?_ (b8 _) (by show (mD (xl vs p)).size≤_;rw [bM,ol,c7];lia));rw [hf]
  simp only [bne_self_eq_false,cb,if_false]
  exact bj (up (xl vs p) ol p rfl hp hr)
theorem Z9 {l:Addr} {vs:List Value} {κ:SortKind} {lt:Nat→Nat→Bool} {Q:Value→Shared→Prop} (h64:vs.length < 64) (S:SO lt vs.length)
  (coll:∀ R:List Value→Shared→Prop,(∀ (h:Heap) (tk:Nat),(∀ b o,s.heap.get? b=some o→h.get? b=some o)→R vs { s with heap:=h,toks:=tk })→wpAny (model P w) A.in1 (collect (.ref l)) R E s)
  (hk:2≤vs.length→∀ (h:Heap) (tk:Nat) (Q:SortKind→Shared→Prop),(∀ b o,s.heap.get? b=some o→h.get? b=some o)→Q κ { s with heap:=h,toks:=tk }→wpAny (model P w) A.in1.in1 (keyKind' vs.toArray) Q (fun _ _=>False) { s with heap:=h,toks:=tk })
  (hc:∀ (h:Heap) (tk:Nat) i j C,(∀ b o,s.heap.get? b=some o→h.get? b=some o)→i < vs.length→j < vs.length→i≠j→C (lt i j) { s with heap:=h,toks:=tk }→kas_ask P w A.in1.in1 κ vs i j C { s with heap:=h,toks:=tk })
  (fin:∀ (h:Heap) (tk:Nat) (h':Heap) (p:Array Nat) (c:Nat),(∀ b o,s.heap.get? b=some o→h.get? b=some o)→(∀ b o,h.get? b=some o→h'.get? b=some o)→h'.get? h.objs.size=some (seqObj "list" (xl vs p).toArray c)→PP vs.length p→v9 lt p vs.length→Q (.ref h.objs.size) { s with heap:=h',toks:=tk }) :
  wpAny (model P w) A (call (.builtin "sorted") [.ref l]) Q E s:=by
 refine fW kind_sorted oh oi (oj _) ?_;unfold Builtin.«sorted»
 refine bd (m:=checkCount "sorted" 1 1 _) (bj ?_);refine bd (coll _ fun h tk hk1=>?_)
 refine bd (iu ?_ (by rw [c7];lia))
 have hoL:(h.push (seqObj "list" vs.toArray 0)).get? h.objs.size=some (seqObj "list" vs.toArray 0):=bD _ rfl
 have kept:∀ h',Kp h.objs.size (h.push (seqObj "list" vs.toArray 0)) h'→∀ b o,h.get? b=some o→h'.get? b=some o:=fun h' k b o e=>k b o (ck (bS e)) (bi _ e)
 refine bd (df (cO mT ⟨_,hoL,rfl⟩ mF (YY (s:={ s with heap:=h.push (seqObj "list" vs.toArray 0),toks:=tk }) hoL h64 (κ:=κ) (lt:=lt) (fun h2 h' Q' k q=>?_) (fun h' i j C k hi hj hij q=>?_) S fun h' p c k ho hp hr=>?_) (mU _)))
 ·exact hk h2 h' tk Q' (fun b o e=>kept h' k b o (hk1 b o e)) q
 ·exact hc h' tk i j C (fun b o e=>kept h' k b o (hk1 b o e)) hi hj hij q
 ·exact ⟨_,rfl,bj ⟨_,rfl,fin h tk h' p c hk1 (kept h' k) ho hp hr⟩⟩
end
abbrev SMQ:=StateT SortSt Sem
def j5:Bool→Keyed→Array Keyed→Nat→Nat→Nat→SMQ (Option Nat):=sortPriv% PySem.Builtin.gallop
def zaa:Array Keyed→Array Keyed→SMQ (Array Keyed):=sortPriv% PySem.Builtin.mergeLo
def zab:Array Keyed→Array Keyed→SMQ (Array Keyed):=sortPriv% PySem.Builtin.mergeHi
def Qi (g:Nat):SMQ Unit:=(sortPriv% PySem.Builtin.setMinGallop) g
def AI (I:Keyed→Prop) (a:Array Keyed):Prop:=∀ x∈a.toList,I x
section
variable {prog:Program} {w:World} {A:Around} {E:Value→Shared→Prop} {s:Shared} {κ:SortKind} {I:Keyed→Prop} {M:Model}
theorem AI.at {a:Array Keyed} (h:AI I a) {i:Nat} (hi:i < a.size):∃ x,a[i]?=some x∧I x:=⟨a[i],cu hi,h _ (by simp)⟩
theorem AI.push {a:Array Keyed} {x:Keyed} (h:AI I a) (hx:I x):AI I (a.push x):=fun y hy=>by
 rw [Array.toList_push] at hy
 rcases bV.mp hy with z | z
 ·exact h y z
 ·rw [bP.mp z];exact hx
theorem AI.app {a b:Array Keyed} (h:AI I a) (h2:AI I b):AI I (a ++ b):=fun y hy=>by
 rw [Array.toList_append] at hy
 exact (bV.mp hy).elim (h y) (h2 y)
theorem AI.ext {a:Array Keyed} (h:AI I a) (i j:Nat):AI I (a.extract i j):=fun y hy=>by
 rw [Array.toList_extract] at hy
 simp only [List.extract_eq_take_drop] at hy
 exact h y (mP (mQ hy))
theorem AI.rev {a:Array Keyed} (h:AI I a):AI I a.reverse:=fun y hy=>h y (by simpa using hy)
def YZ (prog:Program) (w:World) (A:Around) (s:Shared) (κ:SortKind) (I:Keyed→Prop):Prop:=∀ x y (C:Bool→Shared→Prop),I x→I y→(∀ b,C b s)→wpAny (model prog w) A (keyLt' κ x.1 y.1) C (fun _ _=>False) s
theorem j6 {st:SortSt} {x y:Keyed} {Q:Option Bool→SortSt→Prop} (hc:YZ prog w A s κ I) (hk:kindOf st=κ) (hx:I x) (hy:I y) (q:∀ b,Q (some b) st):wpS (model prog w) A E s (lt' x y) Q st:=by
 rw [lt'_eq]
 refine bH (wpS_get ?_)
 rw [hk]
 refine bH (mL (e9 (cG (hc x y (fun _ s'=>s'=s) hx hy fun _=>rfl) (fun b s' h=>?_) fun _ _ h=>h.elim)))
 subst h
 exact ⟨rfl,bT (q b)⟩
theorem zQ {st:SortSt} {arr:Array Keyed} {i:Nat} {x:Keyed} {Q:Keyed→SortSt→Prop} (h:arr[i]?=some x) (q:Q x st):wpS M A E s (elem' arr i) Q st:=by
 rw [elem'_eq,h]
 exact bT q
theorem jc {st:SortSt} {left:Bool} {key:Keyed} {arr:Array Keyed} {base n hint:Nat} {Q:Option Nat→SortSt→Prop} (hc:YZ prog w A s κ I) (hk:kindOf st=κ) (ik:I key) (ia:AI I arr) (len:base + n≤arr.size) (hh:hint < n) (q:∀ k,k≤n→Q (some k) st) :
  wpS (model prog w) A E s (j5 left key arr base n hint) Q st:=by
 have bey:∀ i,i < n→∀ Q':Option Bool→SortSt→Prop,(∀ b,Q' (some b) st)→wpS (model prog w) A E s (do
   let x ← elem' arr (base + i)
   if left then lt' x key else return (← lt' key x).map (!·)) Q' st:=fun i hi Q' q'=>by
  obtain ⟨x,gx,ix⟩:=ia.at (i:=base + i) (by lia)
  refine bH (zQ gx ?_)
  cases left with
  | true=>rw [if_pos rfl];exact j6 hc hk ix ik q'
  | false =>
   rw [if_neg (by decide)]
   exact bH (j6 hc hk ik ix fun b=>bT (q' (!b)))
 have fin:∀ {F:Nat→Option (Option Nat) × Nat × Nat→SMQ (ForInStep (Option (Option Nat) × Nat × Nat))} {lo hi:Nat},(∀ x l h,F x (none,l,h)=if l ≥ h then pure (.done (none,l,h)) else do
    match ← (do
     let x ← elem' arr (base + (l + (h - l) / 2))
     if left then lt' x key else return (← lt' key x).map (!·):SMQ (Option Bool)) with
    | some m=>if m=true then pure (.yield (none,l + (h - l) / 2 + 1,h)) else pure (.yield (none,l,l + (h - l) / 2))
    | _=>pure (.done (some none,l,h)))→hi≤n→lo≤hi→wpS (model prog w) A E s (forIn [:n] ((none:Option (Option Nat)),lo,hi) F) (fun z st'=>st=st'∧z.1=none∧z.2.2≤n) st:=fun {F lo hi} hF h2 h1=>by
  refine c8 (fun x z st'=>st=st'∧z.1=none∧z.2.1≤z.2.2∧z.2.2≤n) ?_ ?_ ⟨rfl,rfl,h1,h2⟩
  ·rintro x ⟨r,l,h⟩ st' _ hx ⟨rfl,rfl,a1,a2⟩
   dsimp only at *
   rw [hF]
   by_cases c:l ≥ h
   ·rw [if_pos c]
    exact bT ⟨rfl,rfl,a2⟩
   ·rw [if_neg c]
    refine bH (bey _ (by lia) _ fun b=>?_)
    cases b with
    | true=>exact bT ⟨rfl,rfl,by dsimp only;lia,a2⟩
    | false=>exact bT ⟨rfl,rfl,by dsimp only;lia,by dsimp only;lia⟩
  ·rintro ⟨r,l,h⟩ st' ⟨rfl,rfl,a1,a2⟩
   exact ⟨rfl,rfl,a2⟩
 refine bH (bey _ hh _ fun b=>?_)
 cases b with
 | true =>
  refine bH (dI (c8 (fun x z st'=>st=st'∧z.1=none∧hint + z.2.1 < n∧z.2.1 < z.2.2) (Q:=fun z st'=>st=st'∧z.1=none∧hint + z.2.1 < n∧z.2.1 < z.2.2) ?_ (fun c st' h=>h) ⟨rfl,rfl,by dsimp only;lia,by dsimp only;lia⟩) ?_)
  ·rintro x ⟨r,l,o⟩ st' _ hx ⟨rfl,rfl,a1,a2⟩
   dsimp only at *
   by_cases c:o ≥ n - hint
   ·rw [if_pos c]
    exact bT ⟨rfl,rfl,a1,a2⟩
   ·rw [if_neg c]
    refine bH (bey _ (by lia) _ fun b=>?_)
    cases b with
    | true=>exact bT ⟨rfl,rfl,by dsimp only;lia,by dsimp only;lia⟩
    | false=>exact bT ⟨rfl,rfl,a1,a2⟩
  ·rintro ⟨r,l,o⟩ st' ⟨rfl,rfl,a1,a2⟩
   dsimp only at *
   refine bH (dI (fin (fun _ _ _=>rfl) (by lia) (by lia)) ?_)
   rintro ⟨r,l,h⟩ st' ⟨rfl,rfl,c⟩
   exact bT (q _ c)
 | false =>
  refine bH (dI (c8 (fun x z st'=>st=st'∧z.1=none∧z.2.1≤hint∧z.2.1 < z.2.2) (Q:=fun z st'=>st=st'∧z.1=none∧z.2.1≤hint∧z.2.1 < z.2.2) ?_ (fun c st' h=>h) ⟨rfl,rfl,by dsimp only;lia,by dsimp only;lia⟩) ?_)
  ·rintro x ⟨r,l,o⟩ st' _ hx ⟨rfl,rfl,a1,a2⟩
   dsimp only at *
   by_cases c:o ≥ hint + 1
   ·rw [if_pos c]
    exact bT ⟨rfl,rfl,a1,a2⟩
   ·rw [if_neg c]
    refine bH (bey _ (by lia) _ fun b=>?_)
    cases b with
    | true=>exact bT ⟨rfl,rfl,a1,a2⟩
    | false=>exact bT ⟨rfl,rfl,by dsimp only;lia,by dsimp only;lia⟩
  ·rintro ⟨r,l,o⟩ st' ⟨rfl,rfl,a1,a2⟩
   dsimp only at *
   refine bH (dI (fin (fun _ _ _=>rfl) (by lia) (by lia)) ?_)
   rintro ⟨r,l,h⟩ st' ⟨rfl,rfl,c⟩
   exact bT (q _ c)
end
section
variable {prog:Program} {w:World} {A:Around} {E:Value→Shared→Prop} {s:Shared} {κ:SortKind} {I:Keyed→Prop}
structure xt (κ:SortKind) (st0 st:SortSt):Prop where
 k:kindOf st=κ
 f:failedOf st=none
 a:arrOf st=arrOf st0
 p:pendingOf st=pendingOf st0
structure MQ (I:Keyed→Prop) (a b o:Array Keyed) (ia ib:Nat):Prop where
 i:AI I o
 ha:ia≤a.size
 hb:ib≤b.size
 n:o.size + (a.size - ia) + (b.size - ib)=a.size + b.size
def V5 (I:Keyed→Prop) (a b m:Array Keyed):Prop:=AI I m∧m.size=a.size + b.size
variable {a b:Array Keyed}
theorem MQ.end {o:Array Keyed} {ia ib:Nat} (h:MQ I a b o ia ib) (iA:AI I a) (iB:AI I b):V5 I a b (o ++ a.extract ia a.size ++ b.extract ib b.size) :=
 ⟨(h.i.app (iA.ext _ _)).app (iB.ext _ _),by have:=h.n;have:=h.ha;have:=h.hb;simp only [cP,cY];lia⟩
theorem MQ.end' {o:Array Keyed} {ia ib:Nat} (h:MQ I a b o ia ib) (iA:AI I a) (iB:AI I b):V5 I a b (o ++ b.extract ib b.size ++ a.extract ia a.size) :=
 ⟨(h.i.app (iB.ext _ _)).app (iA.ext _ _),by have:=h.n;have:=h.ha;have:=h.hb;simp only [cP,cY];lia⟩
theorem MQ.left {o:Array Keyed} {ia ib:Nat} {x:Keyed} (h:MQ I a b o ia ib) (hx:I x) (l:ia < a.size):MQ I a b (o.push x) (ia + 1) ib:=⟨h.i.push hx,l,h.hb,by have:=h.n;rw [cp];lia⟩
theorem MQ.right {o:Array Keyed} {ia ib:Nat} {x:Keyed} (h:MQ I a b o ia ib) (hx:I x) (l:ib < b.size):MQ I a b (o.push x) ia (ib + 1):=⟨h.i.push hx,h.ha,l,by have:=h.n;rw [cp];lia⟩
theorem MQ.lefts {o:Array Keyed} {ia ib k:Nat} (h:MQ I a b o ia ib) (iA:AI I a) (l:ia + k≤a.size):MQ I a b (o ++ a.extract ia (ia + k)) (ia + k) ib:=⟨h.i.app (iA.ext _ _),l,h.hb,by have:=h.n;have:=h.ha;simp only [cP,cY];lia⟩
theorem MQ.rights {o:Array Keyed} {ia ib k:Nat} (h:MQ I a b o ia ib) (iB:AI I b) (l:ib + k≤b.size):MQ I a b (o ++ b.extract ib (ib + k)) ia (ib + k):=⟨h.i.app (iB.ext _ _),h.ha,l,by have:=h.n;have:=h.hb;simp only [cP,cY];lia⟩
def XI (κ:SortKind) (I:Keyed→Prop) (a b:Array Keyed) (st0:SortSt) (r:Option (Array Keyed)) (st:SortSt):Prop:=∃ m,r=some m∧V5 I a b m∧xt κ st0 st
abbrev zc1:=Option (Array Keyed) × Array Keyed × Nat × Nat × Nat × Nat × Nat
def Qj (a b:Array Keyed) (mg ac bc:Nat) (out:Array Keyed) (ia ib:Nat):SMQ (ForInStep zc1):=do
 let x ← elem' a ia
 if (ia + 1 + 1 == a.size)=true then pure (.done (some (out.push x ++ b.extract ib b.size ++ a.extract (ia + 1) a.size),out.push x,ia + 1,ib,mg,ac,bc))
 else if (decide (ac < 7) && decide (bc < 7))=true then pure (.done (none,out.push x,ia + 1,ib,mg,ac,bc))
 else pure (.yield (none,out.push x,ia + 1,ib,mg,ac,bc))
def Qk (a b:Array Keyed) (mg ac bc:Nat) (out:Array Keyed) (ia ib:Nat):SMQ (ForInStep zc1):=do
 let x ← elem' b ib
 if (ib + 1 == b.size)=true then pure (.done (some (out.push x ++ a.extract ia a.size ++ b.extract (ib + 1) b.size),out.push x,ia,ib + 1,mg,ac,bc))
 else do
  let y ← elem' a ia
  match ← j5 true y b (ib + 1) (b.size - (ib + 1)) 0 with
  | some k=>if k > 0 then (if (ib + 1 + k == b.size)=true then pure (.done (some (out.push x ++ b.extract (ib + 1) (ib + 1 + k) ++ a.extract ia a.size ++ b.extract (ib + 1 + k) b.size),out.push x ++ b.extract (ib + 1) (ib + 1 + k),ia,ib + 1 + k,mg,ac,k)) else Qj a b mg ac k (out.push x ++ b.extract (ib + 1) (ib + 1 + k)) ia (ib + 1 + k)) else Qj a b mg ac k (out.push x) ia (ib + 1)
  | _=>pure (.done (some (out.push x ++ a.extract ia a.size ++ b.extract (ib + 1) b.size),out.push x,ia,ib + 1,mg,ac,bc))
def zc2 (κ:SortKind) (I:Keyed→Prop) (a b:Array Keyed) (st0:SortSt) (n:Nat) (r:ForInStep zc1) (st:SortSt):Prop:=match r with
 | .done c=>XI κ I a b st0 c.1 st∨∃ o ia ib mg ac bc,c=(none,o,ia,ib,mg,ac,bc)∧MQ I a b o ia ib∧ia + 1 < a.size∧ib < b.size∧n < o.size∧xt κ st0 st
 | .yield c=>∃ o ia ib mg ac bc,c=(none,o,ia,ib,mg,ac,bc)∧MQ I a b o ia ib∧ia + 1 < a.size∧ib < b.size∧n < o.size∧xt κ st0 st
theorem Wl {st0 st:SortSt} {mg ac bc ia ib n:Nat} {o:Array Keyed} (iA:AI I a) (iB:AI I b) (k:xt κ st0 st) (m:MQ I a b o ia ib) (ha:ia + 1 < a.size) (hb:ib < b.size) (hn:n≤o.size) :
  wpS (model prog w) A E s (Qj a b mg ac bc o ia ib) (zc2 κ I a b st0 n) st:=by
 unfold Qj
 obtain ⟨xa,ga,ix⟩:=iA.at (i:=ia) (by lia)
 refine bH (zQ ga ?_)
 have M2:=m.left ix (by lia)
 by_cases d1:(ia + 1 + 1 == a.size)=true
 ·rw [if_pos d1]
  exact bT (.inl ⟨_,rfl,M2.end' iA iB,k⟩)
 ·rw [if_neg d1]
  have d1':ia + 1 + 1≠a.size:=by simpa using d1
  by_cases d2:(decide (ac < 7) && decide (bc < 7))=true
  ·rw [if_pos d2]
   exact bT (.inr ⟨_,_,_,_,_,_,rfl,M2,by lia,hb,by rw [cp];lia,k⟩)
  ·rw [if_neg d2]
   exact bT ⟨_,_,_,_,_,_,rfl,M2,by lia,hb,by rw [cp];lia,k⟩
theorem Wm {st0 st:SortSt} {mg ac bc ia ib n:Nat} {o:Array Keyed} (hc:YZ prog w A s κ I) (iA:AI I a) (iB:AI I b) (k:xt κ st0 st) (m:MQ I a b o ia ib) (ha:ia + 1 < a.size) (hb:ib < b.size) (hn:n≤o.size) :
  wpS (model prog w) A E s (Qk a b mg ac bc o ia ib) (zc2 κ I a b st0 n) st:=by
 unfold Qk
 obtain ⟨xb,gb,ix⟩:=iB.at hb
 refine bH (zQ gb ?_)
 have M2:=m.right ix hb
 by_cases d1:(ib + 1 == b.size)=true
 ·rw [if_pos d1]
  exact bT (.inl ⟨_,rfl,M2.end iA iB,k⟩)
 ·rw [if_neg d1]
  have d1':ib + 1≠b.size:=by simpa using d1
  obtain ⟨xa,ga,iy⟩:=iA.at (i:=ia) (by lia)
  refine bH (zQ ga (bH (jc hc k.k iy iB (by lia) (by lia) fun j hj=>?_)))
  dsimp only
  by_cases z:j > 0
  ·rw [if_pos z]
   have M3:=M2.rights (k:=j) iB (by lia)
   by_cases d2:(ib + 1 + j == b.size)=true
   ·rw [if_pos d2]
    exact bT (.inl ⟨_,rfl,M3.end iA iB,k⟩)
   ·rw [if_neg d2]
    have d2':ib + 1 + j≠b.size:=by simpa using d2
    exact Wl iA iB k M3 ha (by lia) (by rw [cP,cp];lia)
  ·rw [if_neg z]
   exact Wl iA iB k M2 ha (by lia) (by rw [cp];lia)
theorem W9 {st:SortSt} {Q:Array Keyed→SortSt→Prop} (hc:YZ prog w A s κ I) (iA:AI I a) (iB:AI I b) (hk:xt κ st st) (la:0 < a.size) (lb:0 < b.size) (q:∀ m st',V5 I a b m→xt κ st st'→Q m st') :
  wpS (model prog w) A E s (zaa a b) Q st:=by
 refine bH (mL (gM ⟨rfl,?_⟩))
 obtain ⟨x0,g0,i0⟩:=iB.at lb
 refine bH (zQ g0 ?_)
 have M0:MQ I a b #[x0] 0 1:=⟨fun y hy=>by rw [bP.mp hy];exact i0,b8 _,lb,by show 1 + (a.size - 0) + (b.size - 1)=_;lia⟩
 by_cases c1:(1 == b.size)=true
 ·rw [if_pos c1]
  exact bT (q _ _ (M0.end iA iB) hk)
 ·rw [if_neg c1]
  by_cases c2:(0 + 1 == a.size)=true
  ·rw [if_pos c2]
   exact bT (q _ _ (M0.end' iA iB) hk)
  ·rw [if_neg c2]
   have n1:1≠b.size:=by simpa using c1
   have n2:1≠a.size:=by simpa using c2
   refine bH (wpS_get ?_)
   refine bH (dI (c8 (fun x c st'=>∃ o ia ib mg,c=(none,o,ia,ib,mg)∧MQ I a b o ia ib∧ia + 1 < a.size∧ib < b.size∧x < o.size∧xt κ st st') (Q:=fun c st'=>XI κ I a b st c.1 st') ?step ?fin ⟨#[x0],0,1,_,rfl,M0,by lia,by lia,by show 0 < 1;decide,hk⟩) ?post)
   case post =>
    rintro c st' ⟨m,e,r,k⟩
    obtain ⟨r1,c⟩:=c
    dsimp only at e
    subst e
    exact bT (q m st' r k)
   case fin =>
    rintro c st' ⟨o,ia,ib,mg,rfl,m,h1,h2,hx,k⟩
    have:=m.n
    lia
   case step =>
    rintro x c st' _ hx ⟨o,ia,ib,mg,rfl,m,h1,h2,hxo,k⟩
    dsimp only
    refine bH (dI (c8 (fun y c st2=>∃ o' ia' ib' ac bc,c=(none,o',ia',ib',ac,bc)∧MQ I a b o' ia' ib'∧ia' + 1 < a.size∧ib' < b.size∧o.size + y≤o'.size∧xt κ st st2) (Q:=fun c st2=>XI κ I a b st c.1 st2∨∃ o' ia' ib' ac bc,c=(none,o',ia',ib',ac,bc)∧MQ I a b o' ia' ib'∧ia' + 1 < a.size∧ib' < b.size∧o.size + 1≤o'.size∧xt κ st st2) ?step1 ?fin1 ⟨o,ia,ib,0,0,rfl,m,h1,h2,bo _,k⟩) ?post1)
    case fin1 =>
     rintro c st2 ⟨o',ia',ib',ac,bc,rfl,m',h1',h2',hl,k'⟩
     have:=m'.n
     lia
    case step1 =>
     rintro y c st2 _ hy ⟨o',ia',ib',ac,bc,rfl,m',h1',h2',hl,k'⟩
     dsimp only
     obtain ⟨xb,gb,jb⟩:=iB.at h2'
     obtain ⟨xa,ga,ja⟩:=iA.at (i:=ia') (by lia)
     refine bH (zQ gb (bH (zQ ga (bH (j6 hc k'.k jb ja fun t=>?_)))))
     cases t with
     | true =>
      dsimp only
      rw [if_pos rfl]
      refine bH (zQ gb ?_)
      have M2:=m'.right jb h2'
      by_cases d1:(ib' + 1 == b.size)=true
      ·rw [if_pos d1]
       exact bT (.inl ⟨_,rfl,M2.end iA iB,k'⟩)
      ·rw [if_neg d1]
       have d1':ib' + 1≠b.size:=by simpa using d1
       by_cases d2:bc + 1 ≥ mg
       ·rw [if_pos d2]
        exact bT (.inr ⟨_,_,_,_,_,rfl,M2,h1',by lia,by rw [cp];lia,k'⟩)
       ·rw [if_neg d2]
        exact bT ⟨_,_,_,_,_,rfl,M2,h1',by lia,by rw [cp];lia,k'⟩
     | false =>
      dsimp only
      rw [if_neg (by decide)]
      refine bH (zQ ga ?_)
      have M2:=m'.left ja (by lia)
      by_cases d1:(ia' + 1 + 1 == a.size)=true
      ·rw [if_pos d1]
       exact bT (.inl ⟨_,rfl,M2.end' iA iB,k'⟩)
      ·rw [if_neg d1]
       have d1':ia' + 1 + 1≠a.size:=by simpa using d1
       by_cases d2:ac + 1 ≥ mg
       ·rw [if_pos d2]
        exact bT (.inr ⟨_,_,_,_,_,rfl,M2,by lia,h2',by rw [cp];lia,k'⟩)
       ·rw [if_neg d2]
        exact bT ⟨_,_,_,_,_,rfl,M2,by lia,h2',by rw [cp];lia,k'⟩
    case post1 =>
     rintro c st2 (⟨m1,e,r,k'⟩ | ⟨o',ia',ib',ac,bc,rfl,m',h1',h2',hl,k'⟩)
     ·obtain ⟨r1,c⟩:=c
      dsimp only at e
      subst e
      exact bT ⟨m1,rfl,r,k'⟩
     ·dsimp only
      refine bH (mL (gM ⟨rfl,?_⟩))
      refine bH (dI (c8 (fun y c st3=>∃ o2 ia2 ib2 mg2 ac2 bc2,c=(none,o2,ia2,ib2,mg2,ac2,bc2)∧MQ I a b o2 ia2 ib2∧ia2 + 1 < a.size∧ib2 < b.size∧o.size + 1 + y≤o2.size∧xt κ st st3) (Q:=fun c st3=>XI κ I a b st c.1 st3∨∃ o2 ia2 ib2 mg2 ac2 bc2,c=(none,o2,ia2,ib2,mg2,ac2,bc2)∧MQ I a b o2 ia2 ib2∧ia2 + 1 < a.size∧ib2 < b.size∧o.size < o2.size∧xt κ st st3) ?step2 ?fin2 ⟨o',ia',ib',_,ac,bc,rfl,m',h1',h2',hl,k'⟩) ?post2)
      case fin2 =>
       rintro c st3 ⟨o2,ia2,ib2,mg2,ac2,bc2,rfl,m2,h12,h22,hl2,k2⟩
       have:=m2.n
       lia
      case step2 =>
       rintro y c st3 _ hy ⟨o2,ia2,ib2,mg2,ac2,bc2,rfl,m2,h12,h22,hl2,k2⟩
       dsimp only
       obtain ⟨xb,gb,jb⟩:=iB.at h22
       have go:∀ g:Nat,wpS (model prog w) A E s (do
         Qi g
         let u ← elem' b ib2
         match ← j5 false u a ia2 (a.size - ia2) 0 with
         | some k=>if k > 0 then (if (ia2 + k + 1 == a.size)=true then pure (.done (some (o2 ++ a.extract ia2 (ia2 + k) ++ b.extract ib2 b.size ++ a.extract (ia2 + k) a.size),o2 ++ a.extract ia2 (ia2 + k),ia2 + k,ib2,g,k,bc2)) else if (ia2 + k == a.size)=true then pure (.done (some (o2 ++ a.extract ia2 (ia2 + k) ++ a.extract (ia2 + k) a.size ++ b.extract ib2 b.size),o2 ++ a.extract ia2 (ia2 + k),ia2 + k,ib2,g,k,bc2)) else Qk a b g k bc2 (o2 ++ a.extract ia2 (ia2 + k)) (ia2 + k) ib2) else Qk a b g k bc2 o2 ia2 ib2
         | _=>pure (.done (some (o2 ++ a.extract ia2 a.size ++ b.extract ib2 b.size),o2,ia2,ib2,g,ac2,bc2)):SMQ (ForInStep zc1)) (zc2 κ I a b st (o.size + 1 + y)) st3:=by
        intro g
        refine bH (dC ?_)
        have k3:xt κ st (gm (kindOf st3) (arrOf st3) (pendingOf st3) g (failedOf st3)):=⟨k2.k,k2.f,k2.a,k2.p⟩
        refine bH (zQ gb (bH (jc hc k3.k jb iA (by lia) (by lia) fun j hj=>?_)))
        dsimp only
        by_cases z:j > 0
        ·rw [if_pos z]
         have M3:=m2.lefts (k:=j) iA (by lia)
         by_cases d1:(ia2 + j + 1 == a.size)=true
         ·rw [if_pos d1]
          exact bT (.inl ⟨_,rfl,M3.end' iA iB,k3⟩)
         ·rw [if_neg d1]
          have d1':ia2 + j + 1≠a.size:=by simpa using d1
          by_cases d2:(ia2 + j == a.size)=true
          ·rw [if_pos d2]
           exact bT (.inl ⟨_,rfl,M3.end iA iB,k3⟩)
          ·rw [if_neg d2]
           have d2':ia2 + j≠a.size:=by simpa using d2
           exact Wm hc iA iB k3 M3 (by lia) h22 (by rw [cP];lia)
        ·rw [if_neg z]
         exact Wm hc iA iB k3 m2 h12 h22 (by lia)
       have fit:∀ r st4,zc2 κ I a b st (o.size + 1 + y) r st4→match r with
         | .done c'=>XI κ I a b st c'.1 st4∨∃ o2 ia2 ib2 mg2 ac2 bc2,c'=(none,o2,ia2,ib2,mg2,ac2,bc2)∧MQ I a b o2 ia2 ib2∧ia2 + 1 < a.size∧ib2 < b.size∧o.size < o2.size∧xt κ st st4
         | .yield c'=>∃ o2 ia2 ib2 mg2 ac2 bc2,c'=(none,o2,ia2,ib2,mg2,ac2,bc2)∧MQ I a b o2 ia2 ib2∧ia2 + 1 < a.size∧ib2 < b.size∧o.size + 1 + (y + 1)≤o2.size∧xt κ st st4:=by
        intro r st4 h
        cases r with
        | done c =>
         rcases h with h | ⟨o3,ia3,ib3,mg3,ac3,bc3,e,W3,l1,l2,l3,k4⟩
         ·exact .inl h
         ·exact .inr ⟨o3,ia3,ib3,mg3,ac3,bc3,e,W3,l1,l2,by lia,k4⟩
        | yield c =>
         obtain ⟨o3,ia3,ib3,mg3,ac3,bc3,e,W3,l1,l2,l3,k4⟩:=h
         exact ⟨o3,ia3,ib3,mg3,ac3,bc3,e,W3,l1,l2,by lia,k4⟩
       by_cases d:mg2 > 1
       ·rw [if_pos d]
        exact dI (go (mg2 - 1)) fun r st4 h=>by cases r with | done c=>exact fit _ _ h | yield c=>exact fit _ _ h
       ·rw [if_neg d]
        exact dI (go mg2) fun r st4 h=>by cases r with | done c=>exact fit _ _ h | yield c=>exact fit _ _ h
      case post2 =>
       rintro c st3 (⟨m1,e,r,k2⟩ | ⟨o2,ia2,ib2,mg2,ac2,bc2,rfl,m2,h12,h22,hl2,k2⟩)
       ·obtain ⟨r1,c⟩:=c
        dsimp only at e
        subst e
        exact bT ⟨m1,rfl,r,k2⟩
       ·dsimp only
        refine bH (dC (bT ⟨o2,ia2,ib2,_,rfl,m2,h12,h22,by lia,?_⟩))
        exact ⟨k2.k,k2.f,k2.a,k2.p⟩
end
section
variable {prog:Program} {w:World} {A:Around} {E:Value→Shared→Prop} {s:Shared} {κ:SortKind} {I:Keyed→Prop}
structure MH (I:Keyed→Prop) (a b o:Array Keyed) (na nb:Nat):Prop where
 i:AI I o
 ha:na≤a.size
 hb:nb≤b.size
 n:o.size + na + nb=a.size + b.size
variable {a b:Array Keyed}
theorem MH.end {o:Array Keyed} {na nb:Nat} (h:MH I a b o na nb) (iA:AI I a) (iB:AI I b):V5 I a b (a.extract 0 na ++ b.extract 0 nb ++ o.reverse) :=
 ⟨((iA.ext _ _).app (iB.ext _ _)).app h.i.rev,by have:=h.n;have:=h.ha;have:=h.hb;simp only [cP,cY,gC];lia⟩
theorem MH.end' {o:Array Keyed} {na nb:Nat} (h:MH I a b o na nb) (iA:AI I a) (iB:AI I b):V5 I a b (b.extract 0 nb ++ a.extract 0 na ++ o.reverse) :=
 ⟨((iB.ext _ _).app (iA.ext _ _)).app h.i.rev,by have:=h.n;have:=h.ha;have:=h.hb;simp only [cP,cY,gC];lia⟩
theorem MH.left {o:Array Keyed} {na nb:Nat} {x:Keyed} (h:MH I a b o na nb) (hx:I x) (l:0 < na):MH I a b (o.push x) (na - 1) nb:=⟨h.i.push hx,by have:=h.ha;lia,h.hb,by have:=h.n;rw [cp];lia⟩
theorem MH.right {o:Array Keyed} {na nb:Nat} {x:Keyed} (h:MH I a b o na nb) (hx:I x) (l:0 < nb):MH I a b (o.push x) na (nb - 1):=⟨h.i.push hx,h.ha,by have:=h.hb;lia,by have:=h.n;rw [cp];lia⟩
theorem MH.lefts {o:Array Keyed} {na nb k:Nat} (h:MH I a b o na nb) (iA:AI I a) (l:k≤na):MH I a b (o ++ (a.extract k na).reverse) k nb:=⟨h.i.app (iA.ext _ _).rev,by have:=h.ha;lia,h.hb,by have:=h.n;have:=h.ha;simp only [cP,cY,gC];lia⟩
theorem MH.rights {o:Array Keyed} {na nb k:Nat} (h:MH I a b o na nb) (iB:AI I b) (l:k≤nb):MH I a b (o ++ (b.extract k nb).reverse) na k:=⟨h.i.app (iB.ext _ _).rev,h.ha,by have:=h.hb;lia,by have:=h.n;have:=h.hb;simp only [cP,cY,gC];lia⟩
abbrev zc3:=Option (Array Keyed) × Nat × Nat × Array Keyed × Nat × Nat × Nat
def Ql (a b:Array Keyed) (mg ac bc:Nat) (na nb:Nat) (out:Array Keyed):SMQ (ForInStep zc3):=do
 let x ← elem' a (na - 1)
 if (na - 1 == 0)=true then pure (.done (some (a.extract 0 (na - 1) ++ b.extract 0 nb ++ (out.push x).reverse),na - 1,nb,out.push x,mg,ac,bc))
 else if (decide (ac < 7) && decide (bc < 7))=true then pure (.done (none,na - 1,nb,out.push x,mg,ac,bc))
 else pure (.yield (none,na - 1,nb,out.push x,mg,ac,bc))
def Qm (a b:Array Keyed) (mg ac bc:Nat) (na nb:Nat) (out:Array Keyed):SMQ (ForInStep zc3):=do
 let x ← elem' b (nb - 1)
 if (nb - 1 == 1)=true then pure (.done (some (b.extract 0 (nb - 1) ++ a.extract 0 na ++ (out.push x).reverse),na,nb - 1,out.push x,mg,ac,bc))
 else do
  let y ← elem' a (na - 1)
  match ← j5 true y b 0 (nb - 1) (nb - 1 - 1) with
  | some k=>if nb - 1 - k > 0 then (if (k == 1)=true then pure (.done (some (b.extract 0 k ++ a.extract 0 na ++ (out.push x ++ (b.extract k (nb - 1)).reverse).reverse),na,k,out.push x ++ (b.extract k (nb - 1)).reverse,mg,ac,nb - 1 - k)) else if (k == 0)=true then pure (.done (some (a.extract 0 na ++ b.extract 0 k ++ (out.push x ++ (b.extract k (nb - 1)).reverse).reverse),na,k,out.push x ++ (b.extract k (nb - 1)).reverse,mg,ac,nb - 1 - k)) else Ql a b mg ac (nb - 1 - k) na k (out.push x ++ (b.extract k (nb - 1)).reverse)) else Ql a b mg ac (nb - 1 - k) na (nb - 1) (out.push x)
  | _=>pure (.done (some (a.extract 0 na ++ b.extract 0 (nb - 1) ++ (out.push x).reverse),na,nb - 1,out.push x,mg,ac,bc))
def zc4 (κ:SortKind) (I:Keyed→Prop) (a b:Array Keyed) (st0:SortSt) (n:Nat) (r:ForInStep zc3) (st:SortSt):Prop:=match r with
 | .done c=>XI κ I a b st0 c.1 st∨∃ o na nb mg ac bc,c=(none,na,nb,o,mg,ac,bc)∧MH I a b o na nb∧0 < na∧1 < nb∧n < o.size∧xt κ st0 st
 | .yield c=>∃ o na nb mg ac bc,c=(none,na,nb,o,mg,ac,bc)∧MH I a b o na nb∧0 < na∧1 < nb∧n < o.size∧xt κ st0 st
theorem Wn {st0 st:SortSt} {mg ac bc na nb n:Nat} {o:Array Keyed} (iA:AI I a) (iB:AI I b) (k:xt κ st0 st) (m:MH I a b o na nb) (ha:0 < na) (hb:1 < nb) (hn:n≤o.size) :
  wpS (model prog w) A E s (Ql a b mg ac bc na nb o) (zc4 κ I a b st0 n) st:=by
 unfold Ql
 obtain ⟨xa,ga,ix⟩:=iA.at (i:=na - 1) (by have:=m.ha;lia)
 refine bH (zQ ga ?_)
 have M2:=m.left ix ha
 by_cases d1:(na - 1 == 0)=true
 ·rw [if_pos d1]
  exact bT (.inl ⟨_,rfl,M2.end iA iB,k⟩)
 ·rw [if_neg d1]
  have d1':na - 1≠0:=by simpa using d1
  by_cases d2:(decide (ac < 7) && decide (bc < 7))=true
  ·rw [if_pos d2]
   exact bT (.inr ⟨_,_,_,_,_,_,rfl,M2,by lia,hb,by rw [cp];lia,k⟩)
  ·rw [if_neg d2]
   exact bT ⟨_,_,_,_,_,_,rfl,M2,by lia,hb,by rw [cp];lia,k⟩
theorem Wo {st0 st:SortSt} {mg ac bc na nb n:Nat} {o:Array Keyed} (hc:YZ prog w A s κ I) (iA:AI I a) (iB:AI I b) (k:xt κ st0 st) (m:MH I a b o na nb) (ha:0 < na) (hb:1 < nb) (hn:n≤o.size) :
  wpS (model prog w) A E s (Qm a b mg ac bc na nb o) (zc4 κ I a b st0 n) st:=by
 unfold Qm
 have h1:=m.ha
 have h2:=m.hb
 obtain ⟨xb,gb,ix⟩:=iB.at (i:=nb - 1) (by lia)
 refine bH (zQ gb ?_)
 have M2:=m.right ix (by lia)
 by_cases d1:(nb - 1 == 1)=true
 ·rw [if_pos d1]
  exact bT (.inl ⟨_,rfl,M2.end' iA iB,k⟩)
 ·rw [if_neg d1]
  have d1':nb - 1≠1:=by simpa using d1
  obtain ⟨xa,ga,iy⟩:=iA.at (i:=na - 1) (by lia)
  refine bH (zQ ga (bH (jc hc k.k iy iB (by lia) (by lia) fun j hj=>?_)))
  dsimp only
  by_cases z:nb - 1 - j > 0
  ·rw [if_pos z]
   have M3:=M2.rights (k:=j) iB hj
   by_cases d2:(j == 1)=true
   ·rw [if_pos d2]
    exact bT (.inl ⟨_,rfl,M3.end' iA iB,k⟩)
   ·rw [if_neg d2]
    have d2':j≠1:=by simpa using d2
    by_cases d3:(j == 0)=true
    ·rw [if_pos d3]
     exact bT (.inl ⟨_,rfl,M3.end iA iB,k⟩)
    ·rw [if_neg d3]
     have d3':j≠0:=by simpa using d3
     exact Wn iA iB k M3 ha (by lia) (by rw [cP,cp];lia)
  ·rw [if_neg z]
   exact Wn iA iB k M2 ha (by lia) (by rw [cp];lia)
theorem Va {st:SortSt} {Q:Array Keyed→SortSt→Prop} (hc:YZ prog w A s κ I) (iA:AI I a) (iB:AI I b) (hk:xt κ st st) (la:0 < a.size) (lb:0 < b.size) (q:∀ m st',V5 I a b m→xt κ st st'→Q m st') :
  wpS (model prog w) A E s (zab a b) Q st:=by
 refine bH (mL (gM ⟨rfl,?_⟩))
 obtain ⟨x0,g0,i0⟩:=iA.at (i:=a.size - 1) (by lia)
 refine bH (zQ g0 ?_)
 have M0:MH I a b #[x0] (a.size - 1) b.size:=⟨fun y hy=>by rw [bP.mp hy];exact i0,by lia,bo _,by show 1 + (a.size - 1) + b.size=_;lia⟩
 by_cases c1:(a.size - 1 == 0)=true
 ·rw [if_pos c1]
  exact bT (q _ _ (M0.end iA iB) hk)
 ·rw [if_neg c1]
  by_cases c2:(b.size == 1)=true
  ·rw [if_pos c2]
   exact bT (q _ _ (M0.end' iA iB) hk)
  ·rw [if_neg c2]
   have n1:a.size - 1≠0:=by simpa using c1
   have n2:b.size≠1:=by simpa using c2
   refine bH (wpS_get ?_)
   refine bH (dI (c8 (fun x c st'=>∃ o na nb mg,c=(none,na,nb,o,mg)∧MH I a b o na nb∧0 < na∧1 < nb∧x < o.size∧xt κ st st') (Q:=fun c st'=>XI κ I a b st c.1 st') ?step ?fin ⟨#[x0],_,_,_,rfl,M0,by lia,by lia,by show 0 < 1;decide,hk⟩) ?post)
   case post =>
    rintro c st' ⟨m,e,r,k⟩
    obtain ⟨r1,c⟩:=c
    dsimp only at e
    subst e
    exact bT (q m st' r k)
   case fin =>
    rintro c st' ⟨o,na,nb,mg,rfl,m,h1,h2,hx,k⟩
    have:=m.n
    lia
   case step =>
    rintro x c st' _ hx ⟨o,na,nb,mg,rfl,m,h1,h2,hxo,k⟩
    dsimp only
    refine bH (dI (c8 (fun y c st2=>∃ o' na' nb' ac bc,c=(none,na',nb',o',ac,bc)∧MH I a b o' na' nb'∧0 < na'∧1 < nb'∧o.size + y≤o'.size∧xt κ st st2) (Q:=fun c st2=>XI κ I a b st c.1 st2∨∃ o' na' nb' ac bc,c=(none,na',nb',o',ac,bc)∧MH I a b o' na' nb'∧0 < na'∧1 < nb'∧o.size + 1≤o'.size∧xt κ st st2) ?step1 ?fin1 ⟨o,na,nb,0,0,rfl,m,h1,h2,bo _,k⟩) ?post1)
    case fin1 =>
     rintro c st2 ⟨o',na',nb',ac,bc,rfl,m',h1',h2',hl,k'⟩
     have:=m'.n
     lia
    case step1 =>
     rintro y c st2 _ hy ⟨o',na',nb',ac,bc,rfl,m',h1',h2',hl,k'⟩
     dsimp only
     have u1:=m'.ha
     have u2:=m'.hb
     obtain ⟨xb,gb,jb⟩:=iB.at (i:=nb' - 1) (by lia)
     obtain ⟨xa,ga,ja⟩:=iA.at (i:=na' - 1) (by lia)
     refine bH (zQ gb (bH (zQ ga (bH (j6 hc k'.k jb ja fun t=>?_)))))
     cases t with
     | true =>
      dsimp only
      rw [if_pos rfl]
      refine bH (zQ ga ?_)
      have M2:=m'.left ja h1'
      by_cases d1:(na' - 1 == 0)=true
      ·rw [if_pos d1]
       exact bT (.inl ⟨_,rfl,M2.end iA iB,k'⟩)
      ·rw [if_neg d1]
       have d1':na' - 1≠0:=by simpa using d1
       by_cases d2:ac + 1 ≥ mg
       ·rw [if_pos d2]
        exact bT (.inr ⟨_,_,_,_,_,rfl,M2,by lia,h2',by rw [cp];lia,k'⟩)
       ·rw [if_neg d2]
        exact bT ⟨_,_,_,_,_,rfl,M2,by lia,h2',by rw [cp];lia,k'⟩
     | false =>
      dsimp only
      rw [if_neg (by decide)]
      refine bH (zQ gb ?_)
      have M2:=m'.right jb (by lia)
      by_cases d1:(nb' - 1 == 1)=true
      ·rw [if_pos d1]
       exact bT (.inl ⟨_,rfl,M2.end' iA iB,k'⟩)
      ·rw [if_neg d1]
       have d1':nb' - 1≠1:=by simpa using d1
       by_cases d2:bc + 1 ≥ mg
       ·rw [if_pos d2]
        exact bT (.inr ⟨_,_,_,_,_,rfl,M2,h1',by lia,by rw [cp];lia,k'⟩)
       ·rw [if_neg d2]
        exact bT ⟨_,_,_,_,_,rfl,M2,h1',by lia,by rw [cp];lia,k'⟩
    case post1 =>
     rintro c st2 (⟨m1,e,r,k'⟩ | ⟨o',na',nb',ac,bc,rfl,m',h1',h2',hl,k'⟩)
     ·obtain ⟨r1,c⟩:=c
      dsimp only at e
      subst e
      exact bT ⟨m1,rfl,r,k'⟩
     ·dsimp only
      refine bH (mL (gM ⟨rfl,?_⟩))
      refine bH (dI (c8 (fun y c st3=>∃ o2 na2 nb2 mg2 ac2 bc2,c=(none,na2,nb2,o2,mg2,ac2,bc2)∧MH I a b o2 na2 nb2∧0 < na2∧1 < nb2∧o.size + 1 + y≤o2.size∧xt κ st st3) (Q:=fun c st3=>XI κ I a b st c.1 st3∨∃ o2 na2 nb2 mg2 ac2 bc2,c=(none,na2,nb2,o2,mg2,ac2,bc2)∧MH I a b o2 na2 nb2∧0 < na2∧1 < nb2∧o.size < o2.size∧xt κ st st3) ?step2 ?fin2 ⟨o',na',nb',_,ac,bc,rfl,m',h1',h2',hl,k'⟩) ?post2)
      case fin2 =>
       rintro c st3 ⟨o2,na2,nb2,mg2,ac2,bc2,rfl,m2,h12,h22,hl2,k2⟩
       have:=m2.n
       lia
      case step2 =>
       rintro y c st3 _ hy ⟨o2,na2,nb2,mg2,ac2,bc2,rfl,m2,h12,h22,hl2,k2⟩
       dsimp only
       have u1:=m2.ha
       have u2:=m2.hb
       obtain ⟨xb,gb,jb⟩:=iB.at (i:=nb2 - 1) (by lia)
       have go:∀ g:Nat,wpS (model prog w) A E s (do
         Qi g
         let u ← elem' b (nb2 - 1)
         match ← j5 false u a 0 na2 (na2 - 1) with
         | some k=>if na2 - k > 0 then (if (k == 0)=true then pure (.done (some (a.extract 0 k ++ b.extract 0 nb2 ++ (o2 ++ (a.extract k na2).reverse).reverse),k,nb2,o2 ++ (a.extract k na2).reverse,g,na2 - k,bc2)) else Qm a b g (na2 - k) bc2 k nb2 (o2 ++ (a.extract k na2).reverse)) else Qm a b g (na2 - k) bc2 na2 nb2 o2
         | _=>pure (.done (some (a.extract 0 na2 ++ b.extract 0 nb2 ++ o2.reverse),na2,nb2,o2,g,ac2,bc2)):SMQ (ForInStep zc3)) (zc4 κ I a b st (o.size + 1 + y)) st3:=by
        intro g
        refine bH (dC ?_)
        have k3:xt κ st (gm (kindOf st3) (arrOf st3) (pendingOf st3) g (failedOf st3)):=⟨k2.k,k2.f,k2.a,k2.p⟩
        refine bH (zQ gb (bH (jc hc k3.k jb iA (by lia) (by lia) fun j hj=>?_)))
        dsimp only
        by_cases z:na2 - j > 0
        ·rw [if_pos z]
         have M3:=m2.lefts (k:=j) iA hj
         by_cases d1:(j == 0)=true
         ·rw [if_pos d1]
          exact bT (.inl ⟨_,rfl,M3.end iA iB,k3⟩)
         ·rw [if_neg d1]
          have d1':j≠0:=by simpa using d1
          exact Wo hc iA iB k3 M3 (by lia) h22 (by rw [cP];lia)
        ·rw [if_neg z]
         exact Wo hc iA iB k3 m2 h12 h22 (by lia)
       have fit:∀ r st4,zc4 κ I a b st (o.size + 1 + y) r st4→match r with
         | .done c'=>XI κ I a b st c'.1 st4∨∃ o2 na2 nb2 mg2 ac2 bc2,c'=(none,na2,nb2,o2,mg2,ac2,bc2)∧MH I a b o2 na2 nb2∧0 < na2∧1 < nb2∧o.size < o2.size∧xt κ st st4
         | .yield c'=>∃ o2 na2 nb2 mg2 ac2 bc2,c'=(none,na2,nb2,o2,mg2,ac2,bc2)∧MH I a b o2 na2 nb2∧0 < na2∧1 < nb2∧o.size + 1 + (y + 1)≤o2.size∧xt κ st st4:=by
        intro r st4 h
        cases r with
        | done c =>
         rcases h with h | ⟨o3,na3,nb3,mg3,ac3,bc3,e,W3,l1,l2,l3,k4⟩
         ·exact .inl h
         ·exact .inr ⟨o3,na3,nb3,mg3,ac3,bc3,e,W3,l1,l2,by lia,k4⟩
        | yield c =>
         obtain ⟨o3,na3,nb3,mg3,ac3,bc3,e,W3,l1,l2,l3,k4⟩:=h
         exact ⟨o3,na3,nb3,mg3,ac3,bc3,e,W3,l1,l2,by lia,k4⟩
       by_cases d:mg2 > 1
       ·rw [if_pos d]
        exact dI (go (mg2 - 1)) fun r st4 h=>by cases r with | done c=>exact fit _ _ h | yield c=>exact fit _ _ h
       ·rw [if_neg d]
        exact dI (go mg2) fun r st4 h=>by cases r with | done c=>exact fit _ _ h | yield c=>exact fit _ _ h
      case post2 =>
       rintro c st3 (⟨m1,e,r,k2⟩ | ⟨o2,na2,nb2,mg2,ac2,bc2,rfl,m2,h12,h22,hl2,k2⟩)
       ·obtain ⟨r1,c⟩:=c
        dsimp only at e
        subst e
        exact bT ⟨m1,rfl,r,k2⟩
       ·dsimp only
        refine bH (dC (bT ⟨o2,na2,nb2,_,rfl,m2,h12,h22,by lia,?_⟩))
        exact ⟨k2.k,k2.f,k2.a,k2.p⟩
end
section
variable {prog:Program} {w:World} {A:Around} {E:Value→Shared→Prop} {s:Shared} {κ:SortKind} {I:Keyed→Prop} {N:Nat} {P:Array (Nat × Nat × Nat)}
structure SAQ (κ:SortKind) (I:Keyed→Prop) (N:Nat) (P:Array (Nat × Nat × Nat)) (st:SortSt):Prop where
 k:kindOf st=κ
 f:failedOf st=none
 i:AI I (arrOf st)
 n:(arrOf st).size=N
 p:pendingOf st=P
theorem SAQ.set {st:SortSt} {a':Array Keyed} (h:SAQ κ I N P st) (hp:a'.Perm (arrOf st)):SAQ κ I N P (setArr st a'):=⟨h.k,h.f,fun x hx=>h.i x (by
 have:=(i4 hp (a:=x)).mp (by simpa using hx)
 simpa using this),by show a'.size=N;rw [hp.size_eq];exact h.n,h.p⟩
theorem Zk {st:SortSt} {i j:Nat} {Q:Option Bool→SortSt→Prop} (hc:YZ prog w A s κ I) (h:SAQ κ I N P st) (hi:i < N) (hj:j < N) (q:∀ b,Q (some b) st):wpS (model prog w) A E s (ltAt' i j) Q st:=by
 rw [ltAt'_eq]
 refine bH (wpS_get ?_)
 have n:=h.n
 obtain ⟨x,gx,ix⟩:=h.i.at (i:=i) (by lia)
 obtain ⟨y,gy,iy⟩:=h.i.at (i:=j) (by lia)
 exact bH (zQ gx (bH (zQ gy (j6 hc h.k ix iy q))))
theorem Km {st:SortSt} {lo nrem:Nat} {Q:Option Nat→SortSt→Prop} (hc:YZ prog w A s κ I) (h:SAQ κ I N P st) (h1:1≤nrem) (h2:lo + nrem≤N) (q:∀ m st',1≤m→m≤nrem→SAQ κ I N P st'→Q (some m) st') :
  wpS (model prog w) A E s (countRun' lo nrem) Q st:=by
 have run:∀ {st:SortSt} {F:Nat→Option (Option Nat) × Nat→SMQ (ForInStep (Option (Option Nat) × Nat))} {x0:Nat},SAQ κ I N P st→1≤x0→x0≤nrem→(∀ x m,F x (none,m)=do
   match ← ltAt' (lo + m) (lo + m - 1) with
   | some b=>if b=true then pure (.done (none,m)) else pure (.yield (none,m + 1))
   | _=>pure (.done (some none,m)))→wpS (model prog w) A E s (forIn [x0:nrem] ((none:Option (Option Nat)),x0) F) (fun c st'=>st=st'∧∃ m,c=(none,m)∧1≤m∧m≤nrem) st:=fun {st F x0} h l1 l2 hF=>by
  refine c8 (fun x c st'=>st=st'∧c=(none,x)) ?_ ?_ ⟨rfl,rfl⟩
  ·rintro x c st' hx1 hx ⟨rfl,rfl⟩
   rw [hF]
   refine bH (Zk hc h (by lia) (by lia) fun b=>?_)
   cases b with
   | true=>exact bT ⟨rfl,x,rfl,by lia,by lia⟩
   | false=>exact bT ⟨rfl,rfl⟩
  ·rintro c st' ⟨rfl,rfl⟩
   exact ⟨rfl,_,rfl,by lia,by lia⟩
 refine bH (dI (run h (bo _) h1 fun _ _=>rfl) ?post)
 case post =>
  rintro c st' ⟨rfl,m,rfl,m1,m2⟩
  dsimp only
  by_cases c1:(m == nrem)=true
  ·rw [if_pos c1]
   exact bT (q m st m1 m2 h)
  ·rw [if_neg c1]
   have c1':m≠nrem:=by simpa using c1
   have tail:∀ {G:SMQ (Option Nat)},(∀ st2,SAQ κ I N P st2→wpS (model prog w) A E s G Q st2)→wpS (model prog w) A E s (if m > 1 then (do
     match ← ltAt' lo (lo + m - 1) with
     | some b=>if b=true then pure (some m) else (do
      modify fun s=>setArr s (mirror (arrOf s) lo (lo + m) ((lo + m - lo) / 2))
      G)
     | _=>pure none) else G) Q st:=fun {G} g=>by
    by_cases c2:m > 1
    ·rw [if_pos c2]
     refine bH (Zk hc h (by lia) (by lia) fun b=>?_)
     cases b with
     | true=>exact bT (q m st m1 m2 h)
     | false=>exact bH (dC (g _ (h.set (fb (arrOf st) lo (lo + m) ((lo + m - lo) / 2)))))
    ·rw [if_neg c2]
     exact g st h
   refine tail fun st2 k2=>?_
   refine bH (mL (gM ⟨rfl,?_⟩))
   refine bH (dI (c8 (fun x c st'=>SAQ κ I N P st'∧∃ e,c=(none,x,e)) (Q:=fun c st'=>SAQ κ I N P st'∧∃ x e,c=(none,x,e)∧1≤x∧x≤nrem) ?step2 ?fin2 ⟨k2,0,rfl⟩) ?post2)
   case step2 =>
    rintro x c st' hx1 hx ⟨k3,e,rfl⟩
    dsimp only
    refine bH (Zk hc k3 (by lia) (by lia) fun b=>?_)
    cases b with
    | true =>
     dsimp only
     rw [if_pos rfl]
     by_cases d:e > 0
     ·rw [if_pos d]
      exact bH (dC (bT ⟨k3.set (fb (arrOf st') _ _ _),0,rfl⟩))
     ·rw [if_neg d]
      exact bT ⟨k3,0,rfl⟩
    | false =>
     dsimp only
     rw [if_neg (by decide)]
     refine bH (Zk hc k3 (by lia) (by lia) fun b=>?_)
     cases b with
     | true=>exact bT ⟨k3,x,e,rfl,by lia,by lia⟩
     | false=>exact bT ⟨k3,e + 1,rfl⟩
   case fin2 =>
    rintro c st' ⟨k3,e,rfl⟩
    exact ⟨k3,_,e,rfl,by lia,by lia⟩
   case post2 =>
    rintro c st' ⟨k3,x,e,rfl,x1,x2⟩
    dsimp only
    by_cases d:e > 0
    ·rw [if_pos d]
     refine bH (dC (bH (dC ?_)))
     refine bH (dI (run ((k3.set (fb (arrOf st') _ _ _)).set (fb _ _ _ _)) x1 x2 fun _ _=>rfl) ?_)
     rintro c st4 ⟨rfl,m',rfl,y1,y2⟩
     exact bT (q m' _ y1 y2 ((k3.set (fb (arrOf st') _ _ _)).set (fb _ _ _ _)))
    ·rw [if_neg d]
     refine bH (dC ?_)
     refine bH (dI (run (k3.set (fb (arrOf st') _ _ _)) x1 x2 fun _ _=>rfl) ?_)
     rintro c st4 ⟨rfl,m',rfl,y1,y2⟩
     exact bT (q m' _ y1 y2 (k3.set (fb (arrOf st') _ _ _)))
end
section
variable {prog:Program} {w:World} {A:Around} {E:Value→Shared→Prop} {s:Shared} {κ:SortKind} {I:Keyed→Prop} {N:Nat} {P:Array (Nat × Nat × Nat)}
theorem zbl {st:SortSt} {lo n ok:Nat} {Q:Bool→SortSt→Prop} (hc:YZ prog w A s κ I) (h:SAQ κ I N P st) (h3:lo + n≤N) (q:∀ st',SAQ κ I N P st'→Q true st') :
  wpS (model prog w) A E s (binarySort' lo n ok) Q st:=by
 refine bH (dI (c8 (fun x c st'=>c=(none,())∧SAQ κ I N P st') (Q:=fun c st'=>c=(none,())∧SAQ κ I N P st') ?step (fun c st' h=>h) ⟨rfl,h⟩) ?post)
 case post =>
  rintro c st' ⟨rfl,h'⟩
  exact bT (q st' h')
 case step =>
  rintro x c st' hx1 hx ⟨rfl,h'⟩
  dsimp only
  refine bH (dI (c8 (fun y c st2=>st'=st2∧∃ l u,c=(none,l,u)∧u≤x) (Q:=fun c st2=>st'=st2∧∃ l u,c=(none,l,u)) ?step1 ?fin1 ⟨rfl,0,x,rfl,bo _⟩) ?post1)
  case fin1 =>
   rintro c st2 ⟨rfl,l,u,rfl,a⟩
   exact ⟨rfl,l,u,rfl⟩
  case step1 =>
   rintro y c st2 _ hy ⟨rfl,l,u,rfl,a⟩
   dsimp only
   by_cases c1:l ≥ u
   ·rw [if_pos c1]
    exact bT ⟨rfl,l,u,rfl⟩
   ·rw [if_neg c1]
    refine bH (Zk hc h' (by lia) (by lia) fun b=>?_)
    cases b with
    | true=>exact bT ⟨rfl,l,(l + u) / 2,rfl,by lia⟩
    | false=>exact bT ⟨rfl,(l + u) / 2 + 1,u,rfl,a⟩
  case post1 =>
   rintro c st2 ⟨rfl,l,u,rfl⟩
   exact bH (dC (bT ⟨rfl,h'.set (bubble_perm _ _ _)⟩))
theorem zbm {M:Model} {st st':SortSt} {Q:PUnit→SortSt→Prop} (q:Q ⟨⟩ st'):wpS M A E s (set st':SMQ PUnit) Q st:=by
 unfold wpS
 exact bj ⟨rfl,q⟩
theorem Wp (I:Keyed→Prop) (off:Nat):∀ (l:List Keyed) (a:Array Keyed) (j:Nat),(∀ x∈l,I x)→AI I a→AI I ((l.zipIdx j).foldl (fun a x=>match x with | (p,j)=>a.setIfInBounds (off + j) p) a)∧((l.zipIdx j).foldl (fun a x=>match x with | (p,j)=>a.setIfInBounds (off + j) p) a).size=a.size
 | [],a,j,_,h=>⟨h,rfl⟩
 | x :: t,a,j,hl,h=>by
  obtain ⟨h1,h2⟩:=Wp I off t (a.setIfInBounds (off + j) x) (j + 1) (fun y hy=>hl y (bB _ hy)) fun y hy=>(by
   rw [Array.toList_setIfInBounds] at hy
   rcases List.mem_or_eq_of_mem_set hy with z | z
   ·exact h y z
   ·rw [z];exact hl x bF)
  rw [List.zipIdx_cons,eR]
  exact ⟨h1,by rw [h2,Array.size_setIfInBounds]⟩
theorem Vb {st:SortSt} {na pw nb pw2:Nat} {Q:Bool→SortSt→Prop} (hc:YZ prog w A s κ I) (h:SAQ κ I N #[(0,na,pw),(na,nb,pw2)] st) (n1:0 < na) (n2:0 < nb) (hN:na + nb=N) (q:∀ st',SAQ κ I N #[(0,N,pw)] st'→Q true st') :
  wpS (model prog w) A E s (mergeAt' 0) Q st:=by
 refine bH (wpS_get ?_)
 have g1:((sortPriv% PySem.Builtin.SortState.pending) st)[0]?=some (0,na,pw):=by have:=h.p;unfold pendingOf at this;rw [this];rfl
 have g2:((sortPriv% PySem.Builtin.SortState.pending) st)[0 + 1]?=some (na,nb,pw2):=by have:=h.p;unfold pendingOf at this;rw [this];rfl
 rw [g1,g2]
 dsimp only
 refine bH (zbm ?_)
 have pd:(((sortPriv% PySem.Builtin.SortState.pending) st).setIfInBounds 0 (0,na + nb,pw)).eraseIdxIfInBounds (0 + 1)=#[(0,N,pw)]:=by have:=h.p;unfold pendingOf at this;rw [this,hN];simp
 rw [pd]
 have h1:SAQ κ I N #[(0,N,pw)] (gm (kindOf st) (arrOf st) #[(0,N,pw)] (gallopOf st) (failedOf st)):=⟨h.k,h.f,h.i,h.n,rfl⟩
 have n:=h.n
 have n':((sortPriv% PySem.Builtin.SortState.a) st).size=N:=n
 have ia:=h.i
 obtain ⟨x,gx,ix⟩:=ia.at (i:=na) (by lia)
 refine bH (zQ gx ?_)
 show wpS (model prog w) A E s _ Q (gm (kindOf st) (arrOf st) #[(0,N,pw)] (gallopOf st) (failedOf st))
 generalize gm (kindOf st) (arrOf st) #[(0,N,pw)] (gallopOf st) (failedOf st)=st1 at *
 refine bH (jc hc h1.k ix ia (by lia) n1 fun k hk=>?_)
 dsimp only
 by_cases c1:(na - k == 0)=true
 ·rw [if_pos c1]
  exact bT (q _ h1)
 ·rw [if_neg c1]
  have c1':na - k≠0:=by simpa using c1
  obtain ⟨y,gy,iy⟩:=ia.at (i:=0 + k + (na - k) - 1) (by lia)
  refine bH (zQ gy (bH (jc hc h1.k iy ia (by lia) (by lia) fun l hl=>?_)))
  dsimp only
  by_cases c2:(l == 0)=true
  ·rw [if_pos c2]
   exact bT (q _ h1)
  ·rw [if_neg c2]
   have c2':l≠0:=by simpa using c2
   have fin:∀ m st',V5 I ((arrOf st).extract (0 + k) na) ((arrOf st).extract na (na + l)) m→xt κ st1 st'→wpS (model prog w) A E s (do
     modify fun z=>setArr z (m.toList.zipIdx.foldl (fun a x=>match x with | (p,j)=>a.setIfInBounds (0 + k + j) p) (arrOf z))
     let z ← get
     pure (failedOf z).isNone:SMQ Bool) Q st':=by
    intro m st' R T
    refine bH (dC (bH (wpS_get (bT ?_))))
    have e:=Wp I (0 + k) m.toList (arrOf st') 0 R.1 (by rw [T.a];exact h1.i)
    have g:SAQ κ I N #[(0,N,pw)] (setArr st' (m.toList.zipIdx.foldl (fun a x=>match x with | (p,j)=>a.setIfInBounds (0 + k + j) p) (arrOf st'))):=⟨T.k,T.f,e.1,by rw [show (arrOf (setArr st' _)).size=_ from e.2,T.a];exact h1.n,T.p.trans h1.p⟩
    have f:(failedOf (setArr st' (m.toList.zipIdx.foldl (fun a x=>match x with | (p,j)=>a.setIfInBounds (0 + k + j) p) (arrOf st')))).isNone=true:=by rw [g.f];rfl
    have:=q _ g
    rw [← f] at this
    exact this
   have k1:xt κ st1 st1:=⟨h1.k,h1.f,rfl,rfl⟩
   have la:0 < ((arrOf st).extract (0 + k) na).size:=by rw [cY];lia
   have lb:0 < ((arrOf st).extract na (na + l)).size:=by rw [cY];lia
   by_cases c3:na - k≤l
   ·rw [if_pos c3]
    exact bH (W9 hc (ia.ext _ _) (ia.ext _ _) k1 la lb fin)
   ·rw [if_neg c3]
    exact bH (Va hc (ia.ext _ _) (ia.ext _ _) k1 la lb fin)
end
section
variable {prog:Program} {w:World} {A:Around} {E:Value→Shared→Prop} {s:Shared} {κ:SortKind} {I:Keyed→Prop}
def Rns (κ:SortKind) (I:Keyed→Prop) (lo:Nat) (st:SortSt):Prop :=
 (lo=0∧SAQ κ I 64 #[] st)∨(32≤lo∧lo≤64∧∃ pw,SAQ κ I 64 #[(0,lo,pw)] st)∨(lo=64∧∃ n pw,0 < n∧n < 64∧SAQ κ I 64 #[(0,n,pw),(n,64 - n,0)] st)
theorem Rns.sa {lo:Nat} {st:SortSt} (h:Rns κ I lo st):∃ P,SAQ κ I 64 P st:=by
 rcases h with h | ⟨_,_,_,h⟩ | ⟨_,n,pw,_,_,h⟩
 ·exact ⟨_,h.2⟩
 ·exact ⟨_,h⟩
 ·exact ⟨_,h⟩
theorem Rns.at {lo:Nat} {st:SortSt} (h:Rns κ I lo st) (hl:lo < 64):∃ P,SAQ κ I 64 P st∧(lo=0∧P=#[]∨32≤lo∧∃ pw,P=#[(0,lo,pw)]):=by
 rcases h with h | ⟨h1,_,pw,h⟩ | h
 ·exact ⟨_,h.2,.inl ⟨h.1,rfl⟩⟩
 ·exact ⟨_,h,.inr ⟨h1,pw,rfl⟩⟩
 ·lia
def zfh (size pw:Nat):SMQ (Option Unit × Unit) :=
 forIn [:size] (none,()) fun _ _=>do
  let z ← get
  match (if (pendingOf z).size > 1 then (pendingOf z)[(pendingOf z).size - 2]? else none) with
  | some (_,_,older)=>if older≤pw then pure (.done (none,())) else do
    let ok ← mergeAt' ((pendingOf z).size - 2)
    if (!ok)=true then pure (.done (some (),())) else pure (.yield (none,()))
  | _=>pure (.done (none,()))
theorem V6 {st:SortSt} {size pw:Nat} {Q:Option Unit × Unit→SortSt→Prop} (h:(pendingOf st).size≤1) (q:Q (none,()) st):wpS (model prog w) A E s (zfh size pw) Q st:=by
 unfold zfh
 refine c8 (fun _ c st'=>st=st'∧c=(none,())) ?_ ?_ ⟨rfl,rfl⟩
 ·rintro x c st' _ hx ⟨rfl,rfl⟩
  refine bH (wpS_get ?_)
  rw [if_neg (by lia)]
  exact bT q
 ·rintro c st' ⟨rfl,rfl⟩
  exact q
theorem zac {st:SortSt} {Q:Unit→SortSt→Prop} (hc:YZ prog w A s κ I) (h:SAQ κ I 64 #[] st) (q:∀ P st',SAQ κ I 64 P st'→Q () st'):wpS (model prog w) A E s sortRuns' Q st:=by
 refine bH (wpS_get ?_)
 have size':((sortPriv% PySem.Builtin.SortState.a) st).size=64:=h.n
 rw [size']
 refine bH (dI (c8 (fun x c st'=>∃ lo,c=(none,lo)∧Rns κ I lo st') (Q:=fun c st'=>∃ lo,c=(none,lo)∧Rns κ I lo st') ?step (fun _ _ h=>h) ⟨0,rfl,.inl ⟨rfl,h⟩⟩) ?post)
 case step =>
  rintro x c st' _ hx ⟨lo,rfl,h⟩
  dsimp only
  by_cases c1:lo ≥ 64
  ·rw [if_pos c1]
   exact bT ⟨lo,rfl,h⟩
  ·rw [if_neg c1]
   obtain ⟨P,h1,hP⟩:=h.at (by lia)
   refine bH (Km hc h1 (by lia) (by lia) fun m st2 m1 m2 h2=>?_)
   dsimp only
   have fin:∀ {n:Nat} {st3:SortSt},lo=0→P=#[]→32≤n→n≤64→SAQ κ I 64 P st3→∃ l,((none,lo + n):Option Unit × Nat)=(none,l)∧Rns κ I l (setPending st3 ((pendingOf st3).push (lo,n,0))):=fun {n st3} e0 eP n1 n2 h3=>by
    subst e0 eP
    refine ⟨_,rfl,.inr (.inl ⟨by lia,by lia,0,h3.k,h3.f,h3.i,h3.n,?_⟩)⟩
    show (pendingOf st3).push _=_
    rw [h3.p,Nat.zero_add];rfl
   have fin2:∀ {n pw0 pw:Nat} {st3:SortSt},32≤lo→P=#[(0,lo,pw0)]→lo + n=64→SAQ κ I 64 P st3→∃ l,((none,lo + n):Option Unit × Nat)=(none,l)∧Rns κ I l (setPending (setPending st3 ((pendingOf st3).modify ((pendingOf st3).size - 1) fun x=>(x.1,x.2.1,pw))) ((pendingOf (setPending st3 ((pendingOf st3).modify ((pendingOf st3).size - 1) fun x=>(x.1,x.2.1,pw)))).push (lo,n,0))):=fun {n pw0 pw st3} l32 eP n1 h3=>by
    subst eP
    refine ⟨_,rfl,.inr (.inr ⟨n1,lo,pw,by lia,by lia,h3.k,h3.f,h3.i,h3.n,?_⟩)⟩
    show ((pendingOf st3).modify ((pendingOf st3).size - 1) _).push _=_
    rw [h3.p,show n=64 - lo by lia]
    simp
   have bk:∀ {st3:SortSt},SAQ κ I 64 P st3→((sortPriv% PySem.Builtin.SortState.pending) st3).back?=P.back?:=fun h3=>by
    have:=h3.p
    unfold pendingOf at this
    rw [this]
   generalize hmr:(sortPriv% PySem.Builtin.minRun) 64 64 0=mr
   obtain rfl:mr=32:=hmr.symm
   by_cases c2:m < 32
   ·rw [if_pos c2]
    refine bH (mL (gM ⟨rfl,?_⟩))
    refine bH (zbl hc h2 (by lia) fun st3 h3=>?_)
    rw [if_neg (by decide)]
    refine bH (wpS_get ?_)
    rw [bk h3]
    rcases hP with ⟨e0,eP⟩ | ⟨l32,pw0,eP⟩
    ·rw [show P.back?=none by rw [eP];rfl]
     refine bH (dC (bT ?_))
     exact fin e0 eP (by lia) (by lia) h3
    ·rw [show P.back?=some (0,lo,pw0) by rw [eP];rfl]
     refine bH (V6 (by rw [h3.p,eP];exact bo _) ?_)
     refine bH (dC (bH (dC (bT ?_))))
     exact fin2 l32 eP (by lia) h3
   ·rw [if_neg c2]
    refine bH (wpS_get ?_)
    rw [bk h2]
    rcases hP with ⟨e0,eP⟩ | ⟨l32,pw0,eP⟩
    ·rw [show P.back?=none by rw [eP];rfl]
     refine bH (dC (bT ?_))
     exact fin e0 eP (by lia) (by lia) h2
    ·rw [show P.back?=some (0,lo,pw0) by rw [eP];rfl]
     refine bH (V6 (by rw [h2.p,eP];exact bo _) ?_)
     refine bH (dC (bH (dC (bT ?_))))
     exact fin2 l32 eP (by lia) h2
 case post =>
  rintro c st' ⟨lo,rfl,h⟩
  dsimp only
  refine bH (dI (c8 (fun x c st'=>c=(none,())∧∃ lo,Rns κ I lo st') (Q:=fun c st'=>c=(none,())∧∃ lo,Rns κ I lo st') ?step2 (fun _ _ h=>h) ⟨rfl,lo,h⟩) ?post2)
  case step2 =>
   rintro x c st' _ hx ⟨rfl,lo,h⟩
   refine bH (wpS_get ?_)
   have one:∀ {P},SAQ κ I 64 P st'→P.size≤1→((sortPriv% PySem.Builtin.SortState.pending) st').size≤1:=fun k hs=>by
    have:=k.p
    unfold pendingOf at this
    rw [this];exact hs
   rcases h with h | ⟨h1,h2,pw,h⟩ | ⟨e,n,pw,n1,n2,h⟩
   ·rw [if_pos (one h.2 (b8 _))]
    exact bT ⟨rfl,lo,.inl h⟩
   ·rw [if_pos (one h (bo _))]
    exact bT ⟨rfl,lo,.inr (.inl ⟨h1,h2,pw,h⟩)⟩
   ·have e:=h.p
    unfold pendingOf at e
    rw [e,if_neg (by show ¬ (2:Nat)≤1;decide)]
    refine bH (Vb hc h n1 (by lia) (by lia) fun st2 h2=>?_)
    rw [if_neg (by decide)]
    exact bT ⟨rfl,64,.inr (.inl ⟨by decide,by decide,pw,h2⟩)⟩
  case post2 =>
   rintro c st' ⟨rfl,lo,h⟩
   obtain ⟨P,k⟩:=h.sa
   exact bT (q P st' k)
end
section
variable {lt:Nat→Nat→Bool} {n:Nat}
theorem PP.rev2 {p:Array Nat} (h:PP n p) (i j:Nat):PP n (kas_rev p i j):=ig (fb _ _ _ _) h
theorem PP.ask {p:Array Nat} (h:PP n p) {i j:Nat} (hi:i < n) (hj:j < n) (hij:i≠j):gt p i < n∧gt p j < n∧gt p i≠gt p j:=⟨h.blt hi,h.blt hj,fun z=>hij (h.inj hi hj z)⟩
theorem Vc {p:Array Nat} (hp:PP n p):∀ (f a:Nat),1≤a→a + f≤n→kOk lt n (kas_asc p f a) fun m=>a≤m∧m≤a + f
 | 0,a,h1,h2=>⟨bo _,bo _⟩
 | f + 1,a,h1,h2=>by
  obtain ⟨x,y,z⟩:=hp.ask (i:=a) (j:=a - 1) (by lia) (by lia) (by lia)
  refine ⟨x,y,z,?_⟩
  show kOk lt n (if lt (gt p a) (gt p (a - 1))=true then .ret a else kas_asc p f (a + 1)) _
  split
  ·exact ⟨bo _,by lia⟩
  ·exact yb (Vc hp f (a + 1) (by lia) (by lia)) fun m h=>⟨by lia,by lia⟩
theorem Zl:∀ (f:Nat) {p:Array Nat} (a q:Nat),PP n p→1≤a→a + f≤n→kOk lt n (lR f p a q) fun r=>PP n r.1∧a≤r.2.1∧r.2.1≤a + f
 | 0,p,a,q,hp,h1,h2=>⟨hp,bo _,bo _⟩
 | f + 1,p,a,q,hp,h1,h2=>by
  obtain ⟨x,y,z⟩:=hp.ask (i:=a) (j:=a - 1) (by lia) (by lia) (by lia)
  refine ⟨x,y,z,?_⟩
  show kOk lt n (if lt (gt p a) (gt p (a - 1))=true then (if q > 0 then lR f (kas_rev p (a - (q + 1)) a) (a + 1) 0 else lR f p (a + 1) 0) else .ask (gt p (a - 1)) (gt p a) fun d=>if d=true then .ret (p,a,q) else lR f p (a + 1) (q + 1)) _
  split
  ·split
   ·exact yb (Zl f (a + 1) 0 (hp.rev2 _ _) (by lia) (by lia)) fun m h=>⟨h.1,by lia,by lia⟩
   ·exact yb (Zl f (a + 1) 0 hp (by lia) (by lia)) fun m h=>⟨h.1,by lia,by lia⟩
  ·refine ⟨y,x,cK z,?_⟩
   show kOk lt n (if lt (gt p (a - 1)) (gt p a)=true then .ret (p,a,q) else lR f p (a + 1) (q + 1)) _
   split
   ·exact ⟨hp,bo _,by show a≤a + (f + 1);lia⟩
   ·exact yb (Zl f (a + 1) (q + 1) hp (by lia) (by lia)) fun m h=>⟨h.1,by lia,by lia⟩
theorem zbn {p:Array Nat} (hp:PP n p) {m:Nat} (h1:1≤m) (h2:m≤n):kOk lt n (kas_tail3 m n p) fun r=>PP n r.2∧1≤r.1∧r.1≤n :=
 y7 (yb (Vc (hp.rev2 0 m) (n - m) m h1 (by lia)) fun a h=>⟨hp.rev2 0 m,by lia,by lia⟩)
theorem V7 {p:Array Nat} (hp:PP n p) {m:Nat} (h1:1≤m) (h2:m + 1≤n):kOk lt n (kas_descPart m n p) fun r=>PP n r.2∧1≤r.1∧r.1≤n:=by
 refine y7 (yb (Zl (n - (m + 1)) (m + 1) 0 hp (by lia) (by lia)) fun r h=>?_)
 split
 ·exact zbn (h.1.rev2 _ _) (by lia) (by lia)
 ·exact zbn h.1 (by lia) (by lia)
theorem zad {p:Array Nat} (hp:PP n p) (hn:1≤n):kOk lt n (kas_count n p) fun r=>PP n r.2∧1≤r.1∧r.1≤n:=by
 refine y7 (yb (Vc hp (n - 1) 1 (bo _) (by lia)) fun m ⟨x1,x2⟩=>?_)
 by_cases e:(m == n)=true
 ·rw [if_pos e]
  exact ⟨hp,x1,by lia⟩
 ·rw [if_neg e]
  have ne:m≠n:=by simpa using e
  by_cases h:m > 1
  ·rw [if_pos h]
   obtain ⟨x,y,z⟩:=hp.ask (i:=0) (j:=m - 1) (by lia) (by lia) (by lia)
   refine ⟨x,y,z,?_⟩
   show kOk lt n (if lt (gt p 0) (gt p (m - 1))=true then .ret (m,p) else kas_descPart m n (kas_rev p 0 m)) _
   split
   ·exact ⟨hp,x1,by lia⟩
   ·exact V7 (hp.rev2 _ _) x1 (by lia)
  ·rw [if_neg h]
   exact V7 hp x1 (by lia)
theorem ZC {p:Array Nat} (hp:PP n p) {k:Nat} (hk:k < n):∀ (f l r:Nat),l≤r→r≤k→kOk lt n (mC p k f l r) fun m=>m≤k
 | 0,l,r,h1,h2=>bU h1 h2
 | f + 1,l,r,h1,h2=>by
  unfold mC
  split
  ·exact bU h1 h2
  ·obtain ⟨x,y,z⟩:=hp.ask (i:=k) (j:=(l + r) / 2) (by lia) (by lia) (by lia)
   refine ⟨x,y,z,?_⟩
   show kOk lt n (if lt (gt p k) (gt p ((l + r) / 2))=true then mC p k f l ((l + r) / 2) else mC p k f ((l + r) / 2 + 1) r) _
   split
   ·exact ZC hp hk f l _ (by lia) (by lia)
   ·exact ZC hp hk f _ r (by lia) (by lia)
theorem Qn:∀ (f:Nat) {p:Array Nat} (k:Nat),PP n p→k + f=n→kOk lt n (kas_bin f p k) (PP n)
 | 0,p,k,hp,hk=>hp
 | f + 1,p,k,hp,hk=>y7 (yb (ZC hp (by lia) k 0 k (b8 _) (bo _)) fun l _=>Qn f (k + 1) (ig (bubble_perm _ _ _) hp) (by lia))
theorem zae (hn:1≤n):kOk lt n (kas_sort n) (PP n):=by
 refine y7 (yb (zad (p:=mD (bZ n)) (mE _) hn) fun r ⟨x1,x2,x3⟩=>?_)
 split
 ·rw [Nat.max_eq_left x2]
  exact Qn _ _ x1 (by lia)
 ·exact x1
theorem zbo (hn:1≤n):kOk lt n (kas_sort n) fun p=>PP n p∧(SO lt n→v9 lt p n):=by
 by_cases S:SO lt n
 ·exact yb (Qh S hn) fun p h=>⟨h.1,fun _=>h.2⟩
 ·exact yb (zae hn) fun p h=>⟨h,fun z=>absurd z S⟩
end
section
variable {P:Program} {w:World} {A:Around} {E:Value→Shared→Prop} {s:Shared}
theorem zaf {a:Addr} {vs:List Value} {n:Nat} {κ:SortKind} {G:List Value→Prop} {R:PySem.Fin→Shared→Prop} (ho:s.heap.get? a=some (seqObj "list" vs.toArray n)) (h64:vs.length≤64) (g0:vs.length < 2→G vs)
  (hk:2≤vs.length→∀ (h:Heap) (Q:SortKind→Shared→Prop),Kp a s.heap h→Q κ { s with heap:=h }→wpAny (model P w) A (keyKind' vs.toArray) Q (fun _ _=>False) { s with heap:=h })
  (run:2≤vs.length→∀ (h:Heap),Kp a s.heap h→wpAny (model P w) A ((sortRuns').run (gm κ (vs.toArray.zip vs.toArray) #[] 7 none)) (fun r s'=>s'={ s with heap:=h }∧failedOf r.2=none∧((arrOf r.2).map (·.2)).size≤64∧G ((arrOf r.2).map (·.2)).toList) E { s with heap:=h })
  (fin:∀ h out c,Kp a s.heap h→h.get? a=some (seqObj "list" out.toArray c)→G out→R (.done (.ret .none)) { s with heap:=h }) :
  wpAny (model P w) A (Builtin.«list.sort» ⟨[.ref a],[]⟩) R E s:=by
 have ha:a < s.heap.objs.size:=bS ho
 obtain ⟨e1,o1⟩:∃ e1,(s.heap.update a (cE fun _=>(#[]:Array Value))).get? a=some (seqObj "list" #[] e1):=⟨_,iL ho fun _=>#[]⟩
 have k1:Kp a s.heap (((s.heap.update a (cE fun _=>(#[]:Array Value))).push (seqObj "tuple" vs.toArray 0)).push (seqObj "list" #[] 0)):=fun b o hb e =>
  bi _ (bi _ ((cV _ _ (cK hb)).trans e))
 have o3:(((s.heap.update a (cE fun _=>(#[]:Array Value))).push (seqObj "tuple" vs.toArray 0)).push (seqObj "list" #[] 0)).get? a=some (seqObj "list" #[] e1):=bi _ (bi _ o1)
 have last:∀ out:List Value,∃ c,((((s.heap.update a (cE fun _=>(#[]:Array Value))).push (seqObj "tuple" vs.toArray 0)).push (seqObj "list" #[] 0)).update a (cE fun _=>out.toArray)).get? a=some (seqObj "list" out.toArray c):=fun out=>⟨_,iL o3 fun _=>out.toArray⟩
 have keep2:∀ out:List Value,Kp a s.heap ((((s.heap.update a (cE fun _=>(#[]:Array Value))).push (seqObj "tuple" vs.toArray 0)).push (seqObj "list" #[] 0)).update a (cE fun _=>out.toArray)):=fun out b o hb e =>
  (cV _ _ (cK hb)).trans (k1 b o hb e)
 rw [list_sort_plain];refine bd (listItems_at ho rfl ?_)
 refine bd (gB ho rfl ?_ (by rw [bM,c7];lia) (b8 _));refine bd (iM o1 rfl ?_)
 refine bd (i9 ?_ (by show vs.length≤_;rw [c7];lia));refine bd (iu ?_ (b8 _));refine df ?_
 show wpAny (model P w) A _ R E { s with heap:=((s.heap.update a (cE fun _=>(#[]:Array Value))).push (seqObj "tuple" vs.toArray 0)).push (seqObj "list" #[] 0) }
 generalize hH:((s.heap.update a (cE fun _=>(#[]:Array Value))).push (seqObj "tuple" vs.toArray 0)).push (seqObj "list" #[] 0)=g at *
 dsimp only
 have up:∀ out:List Value,G out→R (.done (.ret .none)) { s with heap:=g.update a (cE fun _=>out.toArray) }:=fun out hg=>by
  obtain ⟨c,hcc⟩:=last out
  exact fin _ out c (keep2 out) hcc hg
 by_cases h2:vs.toArray.size < 2
 ·have hl2:vs.length < 2:=by simpa using h2
  rw [if_pos h2,if_pos h2];refine bd (bj ?_);rw [oK];refine bd (bj ?_)
  dsimp only
  have ez:((vs.toArray.zip vs.toArray).map (·.2))=vs.toArray:=by
   apply gc.mp
   rw [l5,ou]
   simp [oy]
  refine bd (iM o3 rfl ?_)
  rw [show (arrOf (gm general' (vs.toArray.zip vs.toArray) #[] 7 none))=vs.toArray.zip vs.toArray from rfl,ez]
  refine bd (gB o3 rfl ?_ (b8 _) (by rw [bM,c7];lia))
  simp only [bne_self_eq_false,cb,if_false]
  exact bj (up vs (g0 hl2))
 ·have hl2:2≤vs.length:=by simpa using h2
  rw [if_neg h2,if_neg h2];refine bd (cG (hk hl2 g (fun κ' s'=>κ'=κ∧s'={ s with heap:=g }) k1 ⟨rfl,rfl⟩) (fun κ' s' hs=>?_) fun _ _ x=>x.elim)
  obtain ⟨rfl,rfl⟩:=hs
  refine bd (cG (run hl2 g k1) ?_ fun _ _ e=>e)
  rintro ⟨⟨⟩,st⟩ s' ⟨rfl,hf,hs,hg⟩
  dsimp only at hf hs hg ⊢
  refine bd (iM o3 rfl ?_)
  refine bd (gB o3 rfl ?_ (b8 _) (by rw [c7];exact bU hs (by decide)));rw [hf]
  simp only [bne_self_eq_false,cb,if_false]
  have:=up _ hg
  exact bj this
theorem Kn {l:Addr} {vs:List Value} {κ:SortKind} {G:List Value→Prop} {Q:Value→Shared→Prop} (h64:vs.length≤64) (g0:vs.length < 2→G vs)
  (coll:∀ R:List Value→Shared→Prop,(∀ (h:Heap) (tk:Nat),(∀ b o,s.heap.get? b=some o→h.get? b=some o)→R vs { s with heap:=h,toks:=tk })→wpAny (model P w) A.in1 (collect (.ref l)) R E s)
  (hk:2≤vs.length→∀ (h:Heap) (tk:Nat) (Q:SortKind→Shared→Prop),(∀ b o,s.heap.get? b=some o→h.get? b=some o)→Q κ { s with heap:=h,toks:=tk }→wpAny (model P w) A.in1.in1 (keyKind' vs.toArray) Q (fun _ _=>False) { s with heap:=h,toks:=tk })
  (run:2≤vs.length→∀ (h:Heap) (tk:Nat),(∀ b o,s.heap.get? b=some o→h.get? b=some o)→wpAny (model P w) A.in1.in1 ((sortRuns').run (gm κ (vs.toArray.zip vs.toArray) #[] 7 none)) (fun r s'=>s'={ s with heap:=h,toks:=tk }∧failedOf r.2=none∧((arrOf r.2).map (·.2)).size≤64∧G ((arrOf r.2).map (·.2)).toList) (fun _ _=>False) { s with heap:=h,toks:=tk })
  (fin:∀ (h:Heap) (tk:Nat) (h':Heap) (out:List Value) (c:Nat),(∀ b o,s.heap.get? b=some o→h.get? b=some o)→(∀ b o,h.get? b=some o→h'.get? b=some o)→h'.get? h.objs.size=some (seqObj "list" out.toArray c)→G out→Q (.ref h.objs.size) { s with heap:=h',toks:=tk }) :
  wpAny (model P w) A (call (.builtin "sorted") [.ref l]) Q E s:=by
 refine fW kind_sorted oh oi (oj _) ?_;unfold Builtin.«sorted»
 refine bd (m:=checkCount "sorted" 1 1 _) (bj ?_);refine bd (coll _ fun h tk hk1=>?_)
 refine bd (iu ?_ (by rw [c7];lia))
 have hoL:(h.push (seqObj "list" vs.toArray 0)).get? h.objs.size=some (seqObj "list" vs.toArray 0):=bD _ rfl
 have kept:∀ h',Kp h.objs.size (h.push (seqObj "list" vs.toArray 0)) h'→∀ b o,h.get? b=some o→h'.get? b=some o:=fun h' k b o e=>k b o (ck (bS e)) (bi _ e)
 refine bd (df (cO mT ⟨_,hoL,rfl⟩ mF (zaf (s:={ s with heap:=h.push (seqObj "list" vs.toArray 0),toks:=tk }) hoL h64 g0 (κ:=κ) (fun h2 h' Q' k q=>?_) (fun h2 h' k=>?_) fun h' out c k ho hg=>?_) (mU _)))
 ·exact hk h2 h' tk Q' (fun b o e=>kept h' k b o (hk1 b o e)) q
 ·exact cG (run h2 h' tk (fun b o e=>kept h' k b o (hk1 b o e))) (fun _ _ e=>e) fun _ _ e=>e.elim
 ·exact ⟨_,rfl,bj ⟨_,rfl,fin h tk h' out c hk1 (kept h' k) ho hg⟩⟩
end
def zY (a b:Str × Int):Bool:=if a.1=b.1 then decide (a.2 < b.2) else decide (a.1.cps.toList < b.1.cps.toList)
def PlAt (h:Heap) (v:Value) (q:Str × Int):Prop:=∃ a o t u n,v=.ref a∧h.get? a=some o∧o.cls=.type "tuple"∧o.data=.seq #[.str q.1 t,.int q.2 u] n
section
variable {P:Program} {w:World} {A:Around} {E:Value→Shared→Prop} {s:Shared}
theorem zc5 {a c:Str} {t u:Tok} {Q:Bool→Shared→Prop} (h:Q (decide (a.cps.toList < c.cps.toList)) s):wpAny (model P w) A (oneLt' true (.str a t) (.str c u)) Q E s:=by
 rw [← keyLt'_oneType]
 exact kas_lt_str h
theorem zc6 {a c:Int} {t u:Tok} {Q:Bool→Shared→Prop} (h:Q (decide (a < c)) s):wpAny (model P w) A (oneLt' false (.int a t) (.int c u)) Q E s :=
 kat_one _ _ (nj (show W.BoolBack Q (.bool (decide (a < c))) s from h))
theorem zag {x y:Value} {a b:Str × Int} {Q:Bool→Shared→Prop} (hx:PlAt s.heap x a) (hy:PlAt s.heap y b) (h:Q (zY a b) s) (hn:a≠b):wpAny (model P w) A (keyLt' (tuples' true) x y) Q E s:=by
 obtain ⟨p,o,t,u,n,rfl,ho,hc,hd⟩:=hx
 obtain ⟨p2,o2,t2,u2,n2,rfl,ho2,hc2,hd2⟩:=hy
 refine kat_lt ho hd ho2 hd2 (kat_cons (wpAny_eqBool_str (kat_go (fun e=>kat_yes (kat_cons (wpAny_eqBool_int (kat_go (fun e2=>?_) fun e2=>kat_no ?_)))) fun e=>kat_no ?_)))
 ·exact absurd (oS (of_decide_eq_true e) (by simpa using e2)) hn
 ·have e:=of_decide_eq_true e
  unfold zY at h
  rw [if_pos e] at h
  exact zc6 h
 ·have e:=of_decide_eq_false e
  unfold zY at h
  rw [if_neg e] at h
  exact zc5 h
theorem Ko {vs:List Value} {qs:List (Str × Int)} {Q:SortKind→Shared→Prop} (hl:vs.length=qs.length) (hv:∀ (i:Nat) (v:Value) (q:Str × Int),vs[i]?=some v→qs[i]?=some q→PlAt s.heap v q) (h2:0 < vs.length) (h:Q (tuples' true) s) :
  wpAny (model P w) A (keyKind' vs.toArray) Q E s:=by
 have T:∀ (vs:List Value) (qs:List (Str × Int)),vs.length=qs.length→(∀ (i:Nat) (v:Value) (q:Str × Int),vs[i]?=some v→qs[i]?=some q→PlAt s.heap v q)→∃ fs,KatTups s.heap vs fs∧fs.length=vs.length∧∀ v∈fs,∃ x t,v=gR x t:=by
  intro vs
  induction vs with
  | nil=>exact fun qs _ _=>⟨[],trivial,rfl,fun _ z=>nomatch z⟩
  | cons v r ih =>
   intro qs hl hv
   match qs,hl with
   | q :: qr,hl =>
    obtain ⟨fs,k,kl,kf⟩:=ih qr (by simpa using hl) fun i v' q' e1 e2=>hv (i + 1) v' q' (by simpa using e1) (by simpa using e2)
    obtain ⟨a,o,t,u,n,rfl,ho,hc,hd⟩:=hv 0 v q rfl rfl
    refine ⟨.str q.1 t :: fs,oX ho hc hd rfl k,by simp [kl],fun z hz=>?_⟩
    rcases bR.mp hz with rfl | hz
    ·exact ⟨_,_,rfl⟩
    ·exact kf z hz
 obtain ⟨fs,k,kl,kf⟩:=T vs qs hl hv
 refine kat_kind (T:=.type "str") k (by lia) (fun v hv=>?_) (by decide) h
 obtain ⟨x,t,rfl⟩:=kf v hv
 exact Looks.of_pure rfl
end
theorem V8 {x y:Str} (h:x.cps.toList=y.cps.toList):x=y:=by
 obtain ⟨a⟩:=x
 obtain ⟨b⟩:=y
 have:a=b:=gc.mp h
 rw [this]
theorem qG {qs:List (Str × Int)} (hn:qs.Nodup):SO (fun i j=>zY (qs.getD i ("",0)) (qs.getD j ("",0))) qs.length where
 irr:=fun i _=>by
  unfold zY
  rw [if_pos rfl]
  exact decide_eq_false (by lia)
 trans:=fun i j k _ _ _ h1 h2=>by
  generalize qs.getD i ("",0)=a at *
  generalize qs.getD j ("",0)=b at *
  generalize qs.getD k ("",0)=c at *
  unfold zY at *
  by_cases e1:a.1=b.1
  ·rw [if_pos e1] at h1
   by_cases e2:b.1=c.1
   ·rw [if_pos e2] at h2
    rw [if_pos (e1.trans e2)]
    have h1:=of_decide_eq_true h1
    have h2:=of_decide_eq_true h2
    exact decide_eq_true (by lia)
   ·rw [if_neg e2] at h2
    rw [if_neg (by rw [e1];exact e2),e1]
    exact h2
  ·rw [if_neg e1] at h1
   have h1:=of_decide_eq_true h1
   by_cases e2:b.1=c.1
   ·rw [if_neg (by rw [← e2];exact e1),← e2]
    exact decide_eq_true h1
   ·rw [if_neg e2] at h2
    have h2:=of_decide_eq_true h2
    have h3:=List.lt_trans h1 h2
    rw [if_neg (fun z=>by rw [z] at h3;exact List.lt_irrefl _ h3)]
    exact decide_eq_true h3
 tot:=fun i j hi hj hij h=>by
  have ne:qs.getD i ("",0)≠qs.getD j ("",0):=fun z=>hij (by
   rw [bp,bp,bh hi,bh hj] at z
   exact (fk hn).mp z)
  generalize qs.getD i ("",0)=a at *
  generalize qs.getD j ("",0)=b at *
  unfold zY at *
  by_cases e:a.1=b.1
  ·rw [if_pos e] at h
   rw [if_pos e.symm]
   have h:=of_decide_eq_false h
   have:a.2≠b.2:=fun z=>ne (oS e z)
   exact decide_eq_true (by lia)
  ·rw [if_neg e] at h
   rw [if_neg (fun z=>e z.symm)]
   have h:=of_decide_eq_false h
   refine decide_eq_true ?_
   rcases List.le_iff_lt_or_eq.mp (List.not_lt.mp h) with z | z
   ·exact z
   ·exact absurd (V8 z.symm) e
end L2
namespace L2
open PySem
def RawD (h:Heap) (d:Addr) (es:Array DictEntry) (ep:Nat):Prop:=∃ o,h.get? d=some o∧o.ExactDict∧o.data=.dict es ep
section
variable {P:Program} {w:World} {A:Around} {E:Value→Shared→Prop} {s:Shared}
theorem RawD.type {d:Addr} {es:Array DictEntry} {ep:Nat} (x:RawD s.heap d es ep):s.TypeIs (.ref d) "dict":=let ⟨o,ho,hc,_⟩:=x;⟨o,ho,hc.1⟩
theorem RawD.at {h h':Heap} {d:Addr} {es:Array DictEntry} {ep:Nat} (x:RawD h d es ep) (e:∀ o,h.get? d=some o→h'.get? d=some o):RawD h' d es ep:=let ⟨o,ho,r⟩:=x;⟨o,e _ ho,r⟩
theorem zbp {d:Addr} {es:Array DictEntry} {ep:Nat} {Q:Value→Shared→Prop} (lo:(d == sysModules)=false) (hm:RawD s.heap d es ep)
  (q:Q (.ref s.heap.objs.size) { s with heap:=s.heap.push { cls:=.type "dict_keyiterator",data:=.fields #[.ref d,.int 0 0,.int es.size 0,.int ep 0] } }):wpAny (model P w) A (pyIter (.ref d)) Q E s:=by
 have T:=hm.type
 obtain ⟨o,ho,hc,hd⟩:=id hm
 refine lH T F.slot_dict_iter (cO F.slot_dict_iter T F.entry_dict_iter ?_ (F.args_dict_iter_1 _));unfold Builtin.«dict.__iter__»
 refine bd ?_;unfold Builtin.Dict.dictSlotNone;refine bd (fJ T ?_)
 show wpAny _ _ (pure (bJ d)) _ _ s;refine bj ?_
 show wpAny _ _ (dN d >>= _) _ _ s;unfold dN
 rw [if_neg (by rw [lo];exact bK)];refine bd (bj ?_)
 refine bd (et ho hd ?_);refine bd (eT ho hd ?_)
 refine bd (cU (bj ⟨_,rfl,"dict_keyiterator",_,⟨_,bD _ rfl,rfl⟩,F.slot_dict_keyiterator_next.lookup,?_⟩));simpa [rawInt] using q
theorem zbq {it d:Addr} {i ep:Nat} {es:Array DictEntry} {e:DictEntry} {Q:Option Value→Shared→Prop} (hit:s.heap.IsKeyIter it d i es.size ep) (hm:RawD s.heap d es ep) (hx:es[i]?=some e)
  (q:∀ h,h.IsKeyIter it d (i + 1) es.size ep→cJ it s.heap h→Q (some e.key) { s with heap:=h }):wpAny (model P w) A (pyNext (.ref it)) Q E s:=by
 obtain ⟨o,ho,hc,hd⟩:=id hit
 obtain ⟨od,hod,hcd,hdd⟩:=id hm
 have lt:i < es.size:=by
  rcases Nat.lt_or_ge i es.size with h | h
  ·exact h
  ·rw [gF h] at hx;cases hx
 unfold pyNext
 refine bd (e9 (dR (name:=bg "__next__") hit.typeIs dU (cO dU hit.typeIs ii ?_ (gX _))))
 refine bd (bj ?_);refine bd ?_;refine bd ?_
 first | (refine bd (dP hit.typeIs (bj ?_))) | (refine bd (eU hit.typeIs (bj ?_)))
 refine bd (gQ ho hd ?_);have own:cZ "dict_keyiterator"=false:=by decide
 simp only [own,cb,if_false];show wpAny _ _ (if (bJ d == cy)=true then _ else _) _ _ s
 rw [if_neg (show ¬ ((bJ d == cy)=true) from bK)];refine bd (bj ?_);refine bd (et hod hdd ?_)
 rw [if_neg (by simp)];refine bd (bj ?_);refine bd (eT hod hdd ?_);rw [if_neg (by simp)];refine bj ?_
 simp only [show ¬ ((i:Int) < 0) from by lia,if_false,ed,hx]
 refine bd ?_
 first | (refine bd (dP hit.typeIs (bj ?_))) | (refine bd (eU hit.typeIs (bj ?_)))
 refine bd (mG hit.typeIs ?_);show wpAny _ _ (setField (.ref it) 1 (rawInt ((i:Int) + 1)) >>= _) _ _ s
 refine bd (mV ho hd (by simp) ?_)
 have next:(s.heap.update it (Obj.mapFields (·.setIfInBounds 1 (rawInt ((i:Int) + 1))))).IsKeyIter it d (i + 1) es.size ep:=by
  refine ⟨_,gY _ ho (Obj.isFreed_of_fields (nH hd _)),(Obj.cls_mapFields ..).trans hc,?_⟩;rw [nH hd];simp [rawInt]
 refine bd (df ?_)
 refine bd (mG (s:={ s with heap:=s.heap.update it (Obj.mapFields (·.setIfInBounds 1 (rawInt ((i:Int) + 1)))) }) next.typeIs ?_);show wpAny _ _ (pure e.key) _ _ _
 exact bj (bj ⟨_,rfl,bj (q _ next (iN ..))⟩)
theorem zc7 {it d:Addr} {i ep:Nat} {es:Array DictEntry} {Q:Option Value→Shared→Prop} (hh:A.handled=none) (hit:s.heap.IsKeyIter it d i es.size ep) (hm:RawD s.heap d es ep) (hx:es.size≤i)
  (q:∀ h,Heap.ExtBut it s.heap h→Q none { s with heap:=h }):wpAny (model P w) A (pyNext (.ref it)) Q E s:=by
 obtain ⟨o,ho,hc,hd⟩:=id hit
 obtain ⟨od,hod,hcd,hdd⟩:=id hm
 unfold pyNext
 refine bd (e9 (dR (name:=bg "__next__") hit.typeIs dU (cO dU hit.typeIs ii ?_ (gX _))))
 refine bd (bj ?_);refine bd ?_;refine bd ?_
 first | (refine bd (dP hit.typeIs (bj ?_))) | (refine bd (eU hit.typeIs (bj ?_)))
 refine bd (gQ ho hd ?_);have own:cZ "dict_keyiterator"=false:=by decide
 simp only [own,cb,if_false];show wpAny _ _ (if (bJ d == cy)=true then _ else _) _ _ s
 rw [if_neg (show ¬ ((bJ d == cy)=true) from bK)];refine bd (bj ?_);refine bd (et hod hdd ?_)
 rw [if_neg (by simp)];refine bd (bj ?_);refine bd (eT hod hdd ?_);rw [if_neg (by simp)];refine bj ?_
 simp only [show ¬ ((i:Int) < 0) from by lia,if_false,ed,gF hx]
 refine bd ?_
 first | (refine bd (dP hit.typeIs (bj ?_))) | (refine bd (eU hit.typeIs (bj ?_)))
 show wpAny _ _ (setField (.ref it) 0 .none >>= _) _ _ s;refine bd (mV ho hd (by simp) ?_)
 show wpAny _ _ (newExc (.type "StopIteration") [] >>= _) _ _ _;refine bd ?_;simp only [newExc,newTuple]
 refine bd (cU ?_ (by size_fits));refine bd (m:=firstArgMember _ _) (wpAny_of_eq (a:=cy) (by first | rfl | (simp only [firstArgMember];rfl)) ?_)
 refine cU ?_ (by size_fits);simp only [raiseNew]
 refine bd (wpAny_handled ?_);rw [show A.in1.handled=none from hh];refine bd (bj (wpAny_throw ?_))
 exact bd (wpAny_isInstance (T:="StopIteration") (b:=true) ⟨_,bD _ rfl,rfl⟩ isSubtype_stop (bj (q _ (((iN ..).extBut.push _).push _))))
theorem zah (hh:A.handled=none) (I d:Addr) (hne:d≠I) (es:Array DictEntry) (ep:Nat) :
  Walks P w A I [I,d] [I] es.size (fun i v=>∃ e,es[i]?=some e∧v=e.key) (fun i h=>h.IsKeyIter I d i es.size ep∧RawD h d es ep) where
 sub:=fun b hb=>by simp at hb;simp [hb]
 frame:=fun _ _ _ st hk=>⟨st.1.at fun o e=>hk I (by simp) o e,st.2.at fun o e=>hk d (by simp) o e⟩
 item:=fun i s Q E hi st hQ=>by
  refine zbq st.1 st.2 (cu hi) fun h' hit' hs'=>?_
  exact hQ _ h' s.toks ⟨_,cu hi,rfl⟩ ⟨hit',st.2.at fun o e=>hs'.extBut d o hne e⟩ fun b o hb e=>hs'.extBut b o (fun h=>hb (by simp [h])) e
 done:=fun s Q E st hQ=>zc7 hh st.1 st.2 (bo _) fun h' he'=>hQ h' s.toks fun b o hb e=>he' b o (fun h=>hb (by simp [h])) e
 self:=fun _ _ _ _ st hQ=>wpAny_pyIter_keyiter st.1 hQ
end
end L2
namespace L2
open PySem PySem.Spec PyProof.Rows
section
open PySem.SeqAt
open PySem.AutoSeq1 (wpAny_loadPart')
open PySem.MeetsSeq PySem.MeetsSeq2 PySem.MeetsSeq3
theorem Y0 (l b:Addr) (x y:Str) (i j:Int) (t u t2 u2:Tok) (n n2:Nat) (dd dd2:Option Addr) (sl sl2:Array (Option Value)) :
  Meets (Builtin.«tuple.__lt__» ⟨[.ref l,.ref b],[]⟩) (fun _ R s=>s.heap.get? l=some { cls:=.type "tuple",dict:=dd,data:=.seq #[.str x t,.int i u] n,slots:=sl } ∧
   s.heap.get? b=some { cls:=.type "tuple",dict:=dd2,data:=.seq #[.str y t2,.int j u2] n2,slots:=sl2 }∧R (.ok (.ret (.bool (zY (x,i) (y,j))))) s) :=
 .of_wp fun prog w A R s h=>by
  obtain ⟨hp,g,d,tk,os⟩:=s;obtain ⟨hl,hb,h⟩:=h
  have f2:=AutoSeq1.sub_tuple_tuple
  have lt1:∀ (E:Value→Shared→Prop) (Q:Value→Shared→Prop) (s:Shared),Q (.bool (decide (x.cps.toList < y.cps.toList))) s→wpAny (model prog w) A.in1 (richCompare .Lt (.str x t) (.str y t2)) Q E s:=fun E Q s q=>(PyProof.Rows.lt_str q:wpAny (model prog w) A.in1 (compareOp .Lt (.str x t) (.str y t2)) Q E s)
  have lt2:=HT.rcLt_int A.in1 ⟨hp,g,d,tk,os⟩ i u j u2 prog w
  by_cases e:x=y
  ·subst e
   have eq1:=iY (A:=A.in1) (s:=⟨hp,g,d,tk,os⟩) x t x t2 prog w
   rw [beq_self_eq_true] at eq1
   unfold zY at h
   rw [if_pos rfl] at h
   by_cases e2:i=j
   ·subst e2
    have eq2:=iX (A:=A.in1) (s:=⟨hp,g,d,tk,os⟩) i u i u2 prog w
    rw [beq_self_eq_true] at eq2
    wp_walk using fK hl,fK hb,eq1,eq2
    exact ⟨_,rfl,by simpa [Builtin.Tuple.tupleCompareSizes] using h⟩
   ·have eq2:=iX (A:=A.in1) (s:=⟨hp,g,d,tk,os⟩) i u j u2 prog w
    rw [show (i == j)=false from by simpa using e2] at eq2
    wp_walk using fK hl,fK hb,eq1,eq2,lt2
    exact ⟨_,rfl,by simpa using h⟩
  ·have eq1:=iY (A:=A.in1) (s:=⟨hp,g,d,tk,os⟩) x t y t2 prog w
   rw [show (x == y)=false from by simpa using e] at eq1
   unfold zY at h
   rw [if_neg e] at h
   wp_walk using fK hl,fK hb,eq1,lt1
   exact ⟨_,rfl,by simpa using h⟩
end
section
variable {P:Program} {w:World} {A:Around} {E:Value→Shared→Prop} {s:Shared}
theorem RawD.lt {h:Heap} {d:Addr} {es:Array DictEntry} {ep:Nat} (x:RawD h d es ep):d < h.objs.size:=let ⟨_,ho,_⟩:=x;bS ho
theorem zc8 {d:Addr} {es:Array DictEntry} {ep:Nat} (lo:(d == sysModules)=false):W.KdlSrc P w "dict" d d es.size (fun i v=>∃ e,es[i]?=some e∧v=e.key) (fun h=>RawD h d es ep) where
 type:=fun _ hm=>hm.type
 there:=fun _ hm=>⟨hm.lt,hm.lt⟩
 keep:=fun _ _ hm hk=>hm.at fun o e=>hk d (.inl rfl) o e
 notList:=by decide
 notTuple:=by decide
 hint:=fun _ _ _ _ hm hq=>W.kdl_hint_dict hm.type hq
 iter:=fun _ _ hh hm=>⟨_,_,(fun _ _ hq=>zbp lo hm hq),zah hh _ d (ck hm.lt) es ep,⟨⟨_,bD _ rfl,rfl,rfl⟩,hm.at fun o e=>bi _ e⟩⟩
theorem V9 {T:String} {r d:Addr} {n:Nat} {G:Nat→Value→Prop} {OK:Heap→Prop} {R:List Value→Shared→Prop} (K:W.KdlSrc P w T r d n G OK) (hh:A.handled=none) (hok:OK s.heap) (hn:n≤sizeLine)
  (h:∀ (h':Heap) (tk:Nat) (vs:List Value),(∀ b o,s.heap.get? b=some o→h'.get? b=some o)→vs.length=n→(∀ j v,vs[j]?=some v→G j v)→R vs { s with heap:=h',toks:=tk }) :
  wpAny (model P w) A (collect (.ref r)) R E s:=by
 obtain ⟨lr,ld⟩:=K.there _ hok
 unfold collect
 refine bd (wpAny_runValue (dM mR ?_));rw [dj iO _]
 show wpAny _ A.in1 (newList [] >>= fun l=>again (.builtin "list.__iadd__" ⟨[l,.ref r],[]⟩)) _ _ s;refine bd (cU ?_)
 refine bj ⟨fS fc _,dM entry_list_iadd' ?_⟩;rw [dj fc _]
 have hS:(s.heap.push { cls:=.type "list",data:=.seq ([]:List Value).toArray }).get? s.heap.objs.size=some { cls:=.type "list",data:=.seq #[] }:=bD _ rfl
 show wpAny _ A.in1 (c9 (.ref s.heap.objs.size) (.ref r) (.ref s.heap.objs.size)) _ _ _
 have key:=W.kdl_extend (A:=A) (s:={ s with heap:=s.heap.push { cls:=.type "list",data:=.seq ([]:List Value).toArray } }) (R:=fun (q:Result) (s':Shared)=>∃ (h':Heap) (tk:Nat) (acc:Array Value) (c:Nat),q=.ok (.ret (.ref s.heap.objs.size))∧s'={ s with heap:=h',toks:=tk } ∧
   (∀ b o,s.heap.get? b=some o→h'.get? b=some o)∧h'.get? s.heap.objs.size=some { cls:=.type "list",dict:=none,data:=.seq acc c,slots:=#[] }∧ItemsOf G acc n) K hh (K.keep _ _ hok fun b _ o e=>bi _ e) s.heap.objs.size (dY lr) (dY ld) (.ref s.heap.objs.size) 0 hS
  (fun h' tk acc c hk hS' hacc=>⟨h',tk,acc,c,rfl,rfl,fun b o e=>hk b o (ck (bS e)) (bi _ e),hS',hacc⟩) hn
 refine cG key (fun fin s' x=>?_) fun e s' x=>?_
 ·cases fin with
  | done f =>
   obtain ⟨h',tk,acc,c,e,rfl,hk,hS',hacc⟩:=x
   cases e
   show wpAny _ A (load s.heap.objs.size >>= _) _ _ _;refine bd (mJ hS' ?_)
   exact bj (h h' tk acc.toList hk (by rw [ci];exact hacc.1) fun j v e=>hacc.2 j v (by rw [← dq];exact e))
  | again c =>
   refine ⟨x.1,eW x.2 fun q s' x=>?_⟩
   obtain ⟨h',tk,acc,c,rfl,rfl,hk,hS',hacc⟩:=x
   show wpAny _ A (load s.heap.objs.size >>= _) _ _ _;refine bd (mJ hS' ?_)
   exact bj (h h' tk acc.toList hk (by rw [ci];exact hacc.1) fun j v e=>hacc.2 j v (by rw [← dq];exact e))
 ·obtain ⟨h',tk,acc,c,e',_⟩:=x
  cases e'
end
def zM (q:Str × Int):List Key:=[.inr q.1,.inl q.2]
abbrev zbr:RC:=fun xs H Q=>∃ (a:Addr) (kvs:List (List Key × V)) (qs:List (Str × Int)),xs=[.ref a]∧H a=some (.dT kvs)∧kvs.map (·.1)=qs.map zM∧kvs.length < 64 ∧
 ∀ (l:Addr) (ps:List (Addr × (Str × Int))),H l=none→(ps.map (·.2)).Perm qs→(ps.map (·.2)).Pairwise (fun a b=>zY a b=true)→(∀ n∈ps,H n.1=some (.tup [.str n.2.1,.int n.2.2]))→Q (.ref l) (upd H l (.lst (ps.map fun n=>V.ref n.1)))
theorem yg {α β:Type} {F:α→β→Prop}:∀ {l₁:List α} {l₂:List β},Paired F l₁ l₂→∀ {i:Nat} {a:α} {b:β},l₁[i]?=some a→l₂[i]?=some b→F a b
 | _,_,.nil,i,a,b,h,_=>by simp at h
 | _,_,.cons x r,0,a,b,h1,h2=>by
  simp only [ba,bf] at h1 h2
  subst h1 h2
  exact x
 | _,_,.cons x r,i + 1,a,b,h1,h2=>yg r (by simpa using h1) (by simpa using h2)
theorem PlAt.keep {h h':Heap} {v:Value} {q:Str × Int} (x:PlAt h v q) (k:∀ b o,h.get? b=some o→h'.get? b=some o):PlAt h' v q:=by
 obtain ⟨a,o,t,u,n,e,ho,r⟩:=x
 exact ⟨a,o,t,u,n,e,k _ _ ho,r⟩
section
variable {X:Cx}
theorem Ja {pins:List (Addr × Obj)} {σ:St} {H:Hp} {s:Shared} {a:Addr} {q:Str × Int} (I:Inv X pins σ H s) (h:H a=some (.tup [.str q.1,.int q.2])):PlAt s.heap (.ref a) q:=by
 obtain ⟨its,rv,⟨o,ho,hc,n,hd⟩,_⟩:=I.tuple (SqT.of h)
 cases rv with
 | cons r1 rr =>
  cases rr with
  | cons r2 rn =>
   cases rn
   obtain ⟨t,rfl⟩:=r1
   obtain ⟨u,rfl⟩:=r2
   exact ⟨a,o,t,u,n,rfl,ho,hc,hd⟩
theorem x6 {α β:Type} {f:α→β}:∀ {l:List α},(l.map f).Nodup→l.Nodup
 | [],_=>i7
 | a :: r,h=>by
  rw [bW,cT] at h
  exact cT.mpr ⟨fun z=>h.1 (da z),x6 h.2⟩
theorem Vd (hc:X.calm=true):wR X (.builtin "sorted") zbr:=by
 intro pins s σ H xs us Q I r h
 obtain ⟨a,kvs,qs,rfl,ha,hk,h64,q⟩:=h
 obtain ⟨u,rfl,ru⟩:=Za r
 cases ru
 obtain ⟨hz,lo,xs,rel,o,es,ep,ho,hx,hd,he,hn⟩:=(show ObjOk X.prog X.w H s.heap a (.dT kvs) from I.hok a _ ha)
 have hh:X.A.handled=none:=I.ok.hd hc
 have lk:kvs.length=qs.length:=by have:=congrArg bG hk;simpa using this
 have lx:kvs.length=xs.length:=b5 rel
 have les:es.size=xs.length:=by rw [← ci,he,bt]
 -- the keys in their order
 have key:∀ (i:Nat) (x:List Key × Addr × Value),xs[i]?=some x→∃ q,qs[i]?=some q∧x.1=zM q∧H x.2.1=some (.tup [.str q.1,.int q.2]):=fun i x hx=>by
  have hi:=(bC.mp hx).1
  obtain ⟨kv,hkv⟩:∃ kv,kvs[i]?=some kv:=⟨_,bh (by lia)⟩
  obtain ⟨q,hq⟩:∃ q,qs[i]?=some q:=⟨_,bh (by lia)⟩
  have rl:=yg rel hkv hx
  have e1:kv.1=zM q:=by
   have e1:(kvs.map (·.1))[i]?=some kv.1:=by rw [bN,hkv];rfl
   have e2:(qs.map zM)[i]?=some (zM q):=by rw [bN,hq];rfl
   rw [hk,e2] at e1
   exact (cf e1).symm
  refine ⟨q,hq,by rw [← rl.1,e1],?_⟩
  have:=rl.2.1
  rw [e1] at this
  exact this
 have nq:qs.Nodup:=by
  refine x6 (f:=zM) ?_
  have e:xs.map (·.1)=qs.map zM:=by
   rw [← hk]
   apply fR
   intro i
   rw [bN,bN]
   cases hx:xs[i]? with
   | none =>
    have:xs.length≤i:=by simpa using hx
    rw [cR (by lia:kvs.length≤i)]
    rfl
   | some x =>
    have hi:=(bC.mp hx).1
    have hkv:kvs[i]?=some kvs[i]:=bh (by lia)
    rw [hkv]
    have:=(yg rel hkv hx).1
    simp [this]
  rw [← e];exact hn
 have vv:∀ (i:Nat) (v:Value) (q:Str × Int),(xs.map fun x=>bJ x.2.1)[i]?=some v→qs[i]?=some q→PlAt s.heap v q:=fun i v q hv hq=>by
  rw [bN] at hv
  obtain ⟨x,hx,rfl⟩:=cW.mp hv
  obtain ⟨q',hq',_,hH⟩:=key i x hx
  rw [hq] at hq'
  cases hq'
  exact Ja I hH
 have lv:(xs.map fun x=>bJ x.2.1).length=qs.length:=by rw [bt];lia
 have vat:∀ i,i < qs.length→PlAt s.heap ((xs.map fun x=>bJ x.2.1).getD i cy) (qs.getD i ("",0)):=fun i hi=>by
  refine vv i _ _ ?_ ?_
  ·rw [bp,bh (by rw [lv];exact hi)];rfl
  ·rw [bp,bh hi];rfl
 have S:=qG nq
 rw [← lv] at S
 refine Z9 (vs:=xs.map fun x=>bJ x.2.1) (κ:=tuples' true) (by rw [bt];lia) S (fun R hR=>?_) (fun h2 h tk Q' kp q'=>?_) (fun h tk i j C kp hi hj hij q'=>?_) fun h tk h' p c k1 k2 hD hp hr=>?_
 ·refine V9 (zc8 (ep:=ep) (es:=es) lo) hh ⟨o,ho,hx,hd⟩ (by rw [les];lia) fun h' tk vs kp hl hG=>?_
  have ev:vs=xs.map fun x=>bJ x.2.1:=by
   apply fR
   intro i
   by_cases hi:i < vs.length
   ·obtain ⟨e,hes,ek⟩:=hG i vs[i] (bh hi)
    have e2:es.toList[i]?=some e:=by rw [dq];exact hes
    rw [he,bN] at e2
    obtain ⟨x,hxx,ex⟩:=cW.mp e2
    rw [bh hi,ek,bN,hxx,← ex]
    rfl
   ·rw [cR (by lia),cR (by rw [bt];lia)]
  rw [ev]
  exact hR h' tk kp
 ·exact Ko (s:={ s with heap:=h,toks:=tk }) lv (fun i v q hv hq=>(vv i v q hv hq).keep kp) (by lia) q'
 ·rw [lv] at hi hj
  refine zag (s:={ s with heap:=h,toks:=tk }) ((vat i hi).keep kp) ((vat j hj).keep kp) q' fun z=>hij ?_
  rw [bp,bp,bh hi,bh hj] at z
  exact (fk nq).mp z
 ·have I1:Inv X pins σ H { s with heap:=h,toks:=tk }:=I.kept k1
  have ps:∃ ps:List (Addr × (Str × Int)),ps.map (fun n=>bJ n.1)=xl (xs.map fun x=>bJ x.2.1) p∧ps.map (·.2)=p.toList.map (fun i=>qs.getD i ("",0))∧∀ n∈ps,H n.1=some (.tup [.str n.2.1,.int n.2.2]):=by
   have pl:∀ i∈p.toList,i < xs.length:=fun i hi=>by
    have:i∈p:=by simpa using hi
    have:=(i4 hp).mp this
    rw [bt] at this
    simpa using this
   refine ⟨p.toList.map fun i=>((xs.getD i ([],0,.none)).2.1,qs.getD i ("",0)),?_,by rw [dD];rfl,fun n hn=>?_⟩
   ·unfold xl
    rw [dD]
    refine eC fun i hi=>?_
    have:=pl i hi
    simp [bp,bN,bh this]
   ·obtain ⟨i,hi,rfl⟩:=cm.mp hn
    have hl:=pl i hi
    obtain ⟨q,hq,_,hH⟩:=key i xs[i] (bh hl)
    have e1:xs.getD i ([],0,.none)=xs[i]:=by rw [bp,bh hl];rfl
    have e2:qs.getD i ("",0)=q:=by rw [bp,hq];rfl
    show H (xs.getD i ([],0,.none)).2.1=some (.tup [.str (qs.getD i ("",0)).1,.int (qs.getD i ("",0)).2])
    rw [e1,e2]
    exact hH
  obtain ⟨ps,e1,e2,hps⟩:=ps
  have vr:Vals (ps.map fun n=>V.ref n.1) (ps.map fun n=>bJ n.1):=by
   clear e1 e2 hps
   induction ps with
   | nil=>exact .nil
   | cons n r ih=>exact .cons rfl ih
  have psz:p.size=xs.length:=by have:=hp.size;rw [bt] at this;exact this
  have pln:ps.length=xs.length:=by have:=congrArg bG e1;unfold xl at this;simpa [psz] using this
  have I2:Inv X pins σ (upd H h.objs.size (.lst (ps.map fun n=>V.ref n.1))) { s with heap:=h',toks:=tk }:=I1.laid (s:={ s with heap:=h,toks:=tk }) (a:=h.objs.size) (o:=.lst (ps.map fun n=>V.ref n.1)) (t':=tk) k2 (bo _)
   ⟨by rw [bt];lia,ps.map fun n=>bJ n.1,c,vr,by rw [e1];exact hD⟩
  refine ⟨.ref h.objs.size,_,I2,rfl,q _ ps (I1.hok.fresh (bo _)) ?_ ?_ hps⟩
  ·rw [e2]
   have pr:p.toList.Perm (bZ qs.length):=by
    have:=fT.mp hp
    rw [lv] at this
    simpa using this
   refine (pr.map _).trans ?_
   have:(bZ qs.length).map (fun i=>qs.getD i ("",0))=qs:=by
    apply fR
    intro i
    rw [bN]
    by_cases hi:i < qs.length
    ·rw [iK hi,bh hi]
     simp [bp,bh hi]
    ·rw [cR (by simpa using hi),cR (by lia)]
     rfl
   rw [this]
  ·rw [e2,eA,lf]
   intro i j hi hj hij
   rw [ci] at hi hj
   have g1:=v7 hi
   have g2:=v7 hj
   have r:=hr i j hij (by rw [bt];lia)
   have x1:p.toList[i]=gt p i:=by
    rw [cu hi] at g1
    simpa using g1
   have x2:p.toList[j]=gt p j:=by
    rw [cu hj] at g2
    simpa using g2
   rw [x1,x2]
   exact r
end
section
variable {X:Cx}
def zbs:HO→Prop
 | .tup _=>False
 | .own _=>False
 | .tbl _=>False
 | _=>True
theorem Inv.relab {pins:List (Addr × Obj)} {σ:St} {H:Hp} {s:Shared} {a:Addr} {u u':HO} (I:Inv X pins σ H s) (ha:H a=some u) (hp:zbs u) (hf:∀ o z,X.H₀ a≠some (.frz o z)) (ho:ObjOk X.prog X.w (upd H a u') s.heap a u'):Inv X pins σ (upd H a u') s:=by
 have nn:∀ b,H b=none→b≠a:=fun b n z=>by subst z;rw [n] at ha;cases ha
 have ntup:∀ b xs,H b=some (.tup xs)→b≠a:=fun b xs q z=>by subst z;rw [ha] at q;cases q;exact hp
 have nown:∀ b y,H b=some (.own y)→b≠a:=fun b y q z=>by subst z;rw [ha] at q;cases q;exact hp
 have ntbl:∀ b y,H b=some (.tbl y)→b≠a:=fun b y q z=>by subst z;rw [ha] at q;cases q;exact hp
 refine ⟨I.ok,I.os,I.bare,⟨I.base.keep,I.base.slot,fun b o q n hb=>?_,I.base.there,fun b xs q=>?_,fun b o z q=>?_,fun b ps q=>?_⟩,I.loc,I.cell,?_,fun x c e=>?_,fun p hp=>?_,fun b v q=>?_,I.len⟩
 ·have:=I.base.free b o q n hb
  rw [zj (nn b this)];exact this
 ·have:=I.base.tups b xs q
  rw [zj (ntup b xs this)];exact this
 ·have:=I.base.frzs b o z q
  rw [zj (fun e=>hf o z (by rw [← e];exact q))];exact this
 ·obtain ⟨m,e⟩:=I.base.tbls b ps q
  exact ⟨m,by rw [zj (ntbl b _ e)];exact e⟩
 ·rw [zj (nn _ I.free)];exact I.free
 ·have:=I.freeC x c e
  rw [zj (nn _ this)];exact this
 ·obtain ⟨h1,h2,h3⟩:=I.pin p hp
  exact ⟨h1,by rw [zj (nn _ h2)];exact h2,h3⟩
 ·by_cases hb:b=a
  ·subst hb
   rw [ze] at q;cases q;exact ho
  ·rw [zj hb] at q
   exact (I.hok b v q).stay (fun _ _ _ r=>r) (fun c r=>by rw [zj (nown c b r)];exact r) fun c xs r=>by rw [zj (ntup c xs r)];exact r
def zfi (t:TS):TS:=fun D σ H=>∃ a u0 kvs,H a=some u0∧(u0=.dT kvs∨∃ o,u0=.frz o (.dT kvs))∧∀ o,t
 ⟨fun σ' H'=>H' a=some (.frz o (.dT kvs))∧D.nx σ' (upd H' a u0),fun v H'=>H' a=some (.frz o (.dT kvs))∧D.rt v (upd H' a u0),fun σ' H'=>H' a=some (.frz o (.dT kvs))∧D.bk σ' (upd H' a u0),fun σ' H'=>H' a=some (.frz o (.dT kvs))∧D.ct σ' (upd H' a u0)⟩ σ (upd H a (.frz o (.dT kvs)))
theorem ObjOk.upd_dT {P:Program} {w:World} {H:Hp} {h:Heap} {a:Addr} {kvs:List (List Key × V)} {u u':HO} (ha:H a=some u) (hp:zbs u) (x:ObjOk P w H h a (.dT kvs)):ObjOk P w (upd H a u') h a (.dT kvs):=by
 refine x.stay (fun _ _ _ r=>r) (fun c r=>?_) fun c xs r=>?_
 ·rw [zj fun z=>by subst z;rw [ha] at r;cases r;exact hp];exact r
 ·rw [zj fun z=>by subst z;rw [ha] at r;cases r;exact hp];exact r
theorem zes {st:Stmt} {t:TS} (hst:PS X st t):PS X st (zfi t):=by
 rintro pins s σ H D I ⟨a,u0,kvs,ha,hu,h⟩
 have pl:zbs u0:=by rcases hu with rfl | ⟨o,rfl⟩ <;> trivial
 -- the object as it stands
 have ob:∃ o,s.heap.get? a=some o∧(u0=.dT kvs∨u0=.frz o (.dT kvs)):=by
  rcases hu with rfl | ⟨o,rfl⟩
  ·obtain ⟨hz,lo,xs,rel,o,es,ep,ho,_⟩:=(show ObjOk X.prog X.w H s.heap a (.dT kvs) from I.hok a _ ha)
   exact ⟨o,ho,.inl rfl⟩
  ·exact ⟨o,(show ObjOk X.prog X.w H s.heap a (.frz o (.dT kvs)) from I.hok a _ ha).1,.inr rfl⟩
 obtain ⟨o,ho,hu⟩:=ob
 have I1:Inv X pins σ (upd H a (.frz o (.dT kvs))) s:=by
  rcases hu with rfl | rfl
  ·refine I.relab ha trivial (fun o' z q=>?_) ⟨ho,ObjOk.upd_dT ha trivial (I.hok a _ ha)⟩
   have:=I.base.frzs a o' z q
   rw [ha] at this;cases this
  ·have e:upd H a (.frz o (.dT kvs))=H:=by
    funext b;unfold upd;split
    ·next z=>rw [z];exact ha.symm
    ·rfl
   rw [e];exact I
 have back:∀ {σ':St} {H':Hp} {s':Shared},Inv X pins σ' H' s'→H' a=some (.frz o (.dT kvs))→Inv X pins σ' (upd H' a u0) s':=fun {σ' H' s'} I' ha'=>by
  rcases hu with rfl | rfl
  ·refine I'.relab ha' trivial (fun o' z q=>?_) (ObjOk.upd_dT ha' trivial (show ObjOk X.prog X.w H' s'.heap a (.frz o (.dT kvs)) from I'.hok a _ ha').2)
   have:=I.base.frzs a o' z q
   rw [ha] at this;cases this
  ·have e:upd H' a (.frz o (.dT kvs))=H':=by
    funext b;unfold upd;split
    ·next z=>rw [z];exact ha'.symm
    ·rfl
   rw [e];exact I'
 refine thn (hst pins s σ _ _ I1 (h o)) fun f s' q=>?_
 cases f with
 | next=>obtain ⟨σ',H',I',ha',q⟩:=q;exact ⟨σ',_,back I' ha',q⟩
 | brk=>obtain ⟨σ',H',I',ha',q⟩:=q;exact ⟨σ',_,back I' ha',q⟩
 | cont=>obtain ⟨σ',H',I',ha',q⟩:=q;exact ⟨σ',_,back I' ha',q⟩
 | ret v=>obtain ⟨x,σ',H',I',r,ha',q⟩:=q;exact ⟨x,σ',_,back I' ha',r,q⟩
end
mutual
inductive Dat (K:bx) (H:Hp):V→PyData→Prop
 | non:Dat K H .non .none
 | bl (b:Bool):Dat K H (.bl b) (.bool b)
 | int (i:Int):Dat K H (.int i) (.int i)
 | str (x:Str):Dat K H (.str x) (.str x)
 | lst {a:Addr} {xs:List V} {ds:List PyData}:SqL K H a xs→DatAll K H xs ds→Dat K H (.ref a) (.list ds)
 | tup {a:Addr} {xs:List V} {ds:List PyData}:SqT K H a xs→DatAll K H xs ds→Dat K H (.ref a) (.tuple ds)
inductive DatAll (K:bx) (H:Hp):List V→List PyData→Prop
 | nil:DatAll K H [] []
 | cons {x:V} {d:PyData} {xs:List V} {ds:List PyData}:Dat K H x d→DatAll K H xs ds→DatAll K H (x :: xs) (d :: ds)
end
section
variable {X:Cx} {pins:List (Addr × Obj)} {σ:St} {H:Hp} {s:Shared}
mutual
theorem Dat.reads (I:Inv X pins σ H s):∀ {x:V} {d:PyData} {u:Value},Dat X.K H x d→RelV x u→∃ as,Reads s.heap u d as
 | _,_,_,.non,r=>by cases r;exact ⟨_,.none⟩
 | _,_,_,.bl b,r=>by cases r;exact ⟨_,.bool b⟩
 | _,_,_,.int i,r=>by obtain ⟨t,rfl⟩:=r;exact ⟨_,.int i t⟩
 | _,_,_,.str x,r=>by obtain ⟨t,rfl⟩:=r;exact ⟨_,.str x t⟩
 | _,_,_,.lst hq ha,r=>by
  cases r
  obtain ⟨its,rv,⟨o,n,e,c,_,d⟩,_⟩:=I.list hq
  obtain ⟨as,ra⟩:=DatAll.reads I ha rv
  exact ⟨_,.list e c d (by simpa using ra)⟩
 | _,_,_,.tup hq ha,r=>by
  cases r
  obtain ⟨its,rv,⟨o,e,c,n,d⟩,_⟩:=I.tuple hq
  obtain ⟨as,ra⟩:=DatAll.reads I ha rv
  exact ⟨_,.tuple e c d (by simpa using ra)⟩
theorem DatAll.reads (I:Inv X pins σ H s):∀ {xs:List V} {ds:List PyData} {us:List Value},DatAll X.K H xs ds→Vals xs us→∃ as,ReadsAll s.heap us ds as
 | _,_,_,.nil,r=>by cases r;exact ⟨_,.nil⟩
 | _,_,_,.cons hx ht,r=>by
  cases r with
  | cons r1 rr =>
   obtain ⟨as,ra⟩:=Dat.reads I hx r1
   obtain ⟨bs,rb⟩:=DatAll.reads I ht rr
   exact ⟨_,.cons ra rb⟩
end
end
section
variable {K:bx} {H H':Hp}
theorem SqL.mono {a:Addr} {xs:List V} (k:Same H H') (h:SqL K H a xs):SqL K H' a xs:=by
 rcases h with (h | ⟨o,h⟩) | h
 ·exact .inl (.inl (k _ _ h))
 ·exact .inl (.inr ⟨o,k _ _ h⟩)
 ·exact .inr h
theorem DatAll.of {α:Type} {f:α→V} {g:α→PyData}:∀ {l:List α},(∀ a∈l,Dat K H (f a) (g a))→DatAll K H (l.map f) (l.map g)
 | [],_=>.nil
 | a :: r,h=>.cons (h a bF) (DatAll.of fun b hb=>h b (bB _ hb))
end
mutual
def zy:PyData→Bool
 | .none=>true
 | .int _=>true
 | .str x=>b6 x
 | .list xs=>zE xs
 | .tuple xs=>zE xs
 | .bool _=>false
 | .dict _=>false
def zE:List PyData→Bool
 | []=>true
 | x :: xs=>zy x && zE xs
end
mutual
theorem Wq:∀ {d:PyData},zy d=true→d.canLay0=true
 | .none,_=>by simp [eM]
 | .int _,_=>by simp [eM]
 | .str x,h=>by simpa [eM,zy] using h
 | .list xs,h=>by rw [eM];exact qH (by simpa [zy] using h)
 | .tuple xs,h=>by rw [eM];exact qH (by simpa [zy] using h)
 | .bool _,h=>by simp [zy] at h
 | .dict _,h=>by simp [zy] at h
theorem qH:∀ {ds:List PyData},zE ds=true→fQ ds=true
 | [],_=>by simp [fQ]
 | x :: xs,h=>by
  rw [zE,bX] at h
  rw [fQ,Wq h.1,qH h.2];rfl
end
mutual
theorem ZD:∀ {d e:PyData},zy d=true→zy e=true→(gN d e=true↔d=e)
 | .list xs,.list ys,h,h'=>by
  rw [gN,qI (by simpa [zy] using h) (by simpa [zy] using h'),PyData.list.injEq]
 | .tuple xs,.tuple ys,h,h'=>by
  rw [gN,qI (by simpa [zy] using h) (by simpa [zy] using h'),PyData.tuple.injEq]
 | .bool _,_,h,_=>by simp [zy] at h
 | .dict _,_,h,_=>by simp [zy] at h
 | .none,.bool _,_,h=>by simp [zy] at h
 | .int _,.bool _,_,h=>by simp [zy] at h
 | .str _,.bool _,_,h=>by simp [zy] at h
 | .list _,.bool _,_,h=>by simp [zy] at h
 | .tuple _,.bool _,_,h=>by simp [zy] at h
 | .none,.dict _,_,h=>by simp [zy] at h
 | .int _,.dict _,_,h=>by simp [zy] at h
 | .str _,.dict _,_,h=>by simp [zy] at h
 | .list _,.dict _,_,h=>by simp [zy] at h
 | .tuple _,.dict _,_,h=>by simp [zy] at h
 | .none,.none,_,_ | .none,.int _,_,_ | .none,.str _,_,_ | .none,.list _,_,_ | .none,.tuple _,_,_=>by simp [gN]
 | .int _,.none,_,_ | .int _,.int _,_,_ | .int _,.str _,_,_ | .int _,.list _,_,_ | .int _,.tuple _,_,_=>by simp [gN]
 | .str _,.none,_,_ | .str _,.int _,_,_ | .str _,.str _,_,_ | .str _,.list _,_,_ | .str _,.tuple _,_,_=>by simp [gN]
 | .list _,.none,_,_ | .list _,.int _,_,_ | .list _,.str _,_,_ | .list _,.tuple _,_,_=>by simp [gN]
 | .tuple _,.none,_,_ | .tuple _,.int _,_,_ | .tuple _,.str _,_,_ | .tuple _,.list _,_,_=>by simp [gN]
theorem qI:∀ {xs ys:List PyData},zE xs=true→zE ys=true→(iw xs ys=true↔xs=ys)
 | [],[],_,_=>by simp [iw]
 | [],_ :: _,_,_=>by simp [iw]
 | _ :: _,[],_,_=>by simp [iw]
 | x :: xs,y :: ys,h,h'=>by
  rw [zE,bX] at h h'
  rw [iw,bX,ZD h.1 h'.1,qI h.2 h'.2,bn]
end
abbrev ZE (K:bx) (neg:Bool):R2:=fun x y H Q=>∃ d e,Dat K H x d∧Dat K H y e∧(zy d=true∧zy e=true∧d.depth≤64∧e.depth≤64)∧∀ b:Bool,(b=true↔d=e)→Q (.bl (if neg then !b else b)) H
section
variable {X:Cx}
theorem wK {d:PyData} (h:zy d=true) (h':d.depth≤64):gU d=true:=by
 unfold gU
 rw [Wq h,decide_eq_true h'];rfl
theorem Jb (hu:X.A.units + 64 < cLine):OpR X (compareOp .Eq) (ZE X.K false):=by
 intro pins s σ H x y v u Q I rx ry h
 obtain ⟨d,e,hd,he,⟨p1,p2,l1,l2⟩,q⟩:=h
 obtain ⟨as,ra⟩:=hd.reads I rx
 obtain ⟨bs,rb⟩:=he.reads I ry
 exact eq_dataH ra rb (wK p1 l1) (wK p2 l2) hu ⟨.bl _,H,I,rfl,q _ (ZD p1 p2)⟩
theorem Zm (hu:X.A.units + 64 < cLine):OpR X (compareOp .NotEq) (ZE X.K true):=by
 intro pins s σ H x y v u Q I rx ry h
 obtain ⟨d,e,hd,he,⟨p1,p2,l1,l2⟩,q⟩:=h
 obtain ⟨as,ra⟩:=hd.reads I rx
 obtain ⟨bs,rb⟩:=he.reads I ry
 exact ne_dataH ra rb (wK p1 l1) (wK p2 l2) hu ⟨.bl _,H,I,rfl,q _ (ZD p1 p2)⟩
end
end L2
namespace L2
open PySem PySem.Spec PyProof.Rows
abbrev Jc (neg:Bool):R2:=fun x y H Q=>∃ a o,y=.ref a∧DGet H a x o∧Q (.bl (if neg then !o.isSome else o.isSome)) H
section
variable {X:Cx}
theorem Ve (hu:X.A.units + 1 < cLine):OpR X (compareOp .In) (Jc false):=by
 intro pins s σ H x y v u Q I rx ry h
 obtain ⟨a,o,rfl,g,q⟩:=h
 cases ry
 exact zfx hu I g rx fun s' I'=>⟨.bl _,H,I',rfl,q⟩
theorem Kq (hu:X.A.units + 1 < cLine):OpR X (compareOp .NotIn) (Jc true):=by
 intro pins s σ H x y v u Q I rx ry h
 obtain ⟨a,o,rfl,g,q⟩:=h
 cases ry
 exact zcM hu I g rx fun s' I'=>⟨.bl _,H,I',rfl,q⟩
end
end L2
namespace L2
open PySem
abbrev Pl:=Str × Int
abbrev Row:=Pl × Int
def zN:List Row→Pl→Option Int
 | [],_=>none
 | r :: t,p=>(zN t p).or (if r.1=p then some r.2 else none)
def Zn (kvs:List (List Key × V)) (q:Row):List (List Key × V):=yT kvs (zM q.1) (.int q.2)
def dOf (rows:List Row):List (List Key × V):=rows.foldl Zn []
theorem xv {p q:Pl} (h:zM p=zM q):p=q:=by
 unfold zM at h
 simp only [bn,Sum.inr.injEq,Sum.inl.injEq,and_true] at h
 exact oS h.1 h.2
theorem Jd:∀ (rows:List Row) (kvs:List (List Key × V)) (p:Pl),yL (rows.foldl Zn kvs) (zM p)=((zN rows p).map V.int).or (yL kvs (zM p))
 | [],_,_=>rfl
 | r :: t,kvs,p=>by
  rw [eR,Jd t,zN]
  show _=_
  rw [Zn,v3]
  cases zN t p with
  | some w=>rfl
  | none =>
   by_cases e:r.1=p
   ·subst e;simp
   ·rw [if_neg (fun z=>e (xv z).symm)];simp [e]
theorem x8 (rows:List Row) (p:Pl):yL (dOf rows) (zM p)=(zN rows p).map V.int:=by
 unfold dOf
 rw [Jd,zaR]
 cases zN rows p <;> rfl
theorem jd (rows:List Row) (q:Row):dOf (rows ++ [q])=yT (dOf rows) (zM q.1) (.int q.2):=by
 unfold dOf
 rw [nT];rfl
def OkKv (kvs:List (List Key × V)):Prop:=(kvs.map (·.1)).Nodup∧∀ kv∈kvs,∃ (p:Pl) (w:Int),kv=(zM p,.int w)
theorem OkKv.put {kvs:List (List Key × V)} (h:OkKv kvs) (p:Pl) (w:Int):OkKv (yT kvs (zM p) (.int w)):=by
 cases e:yL kvs (zM p) with
 | none =>
  refine ⟨zcO _ h.1 e,fun kv hk=>?_⟩
  rw [YK _ e] at hk
  rcases bV.mp hk with hk | hk
  ·exact h.2 kv hk
  ·exact ⟨p,w,bP.mp hk⟩
 | some v =>
  have q:(kvs.any fun kv=>decide (kv.1=zM p))=true:=by rw [wd,e];rfl
  unfold yT
  rw [if_pos q]
  constructor
  ·rw [dD]
   have:((fun x:List Key × V=>x.1) ∘ fun kv:List Key × V=>if kv.1=zM p then (kv.1,V.int w) else kv)=fun x=>x.1:=by
    funext kv
    show (if kv.1=zM p then (kv.1,V.int w) else kv).1=kv.1
    split <;> rfl
   rw [this];exact h.1
  ·intro kv hk
   obtain ⟨z,hz,rfl⟩:=cm.mp hk
   by_cases e:z.1=zM p
   ·exact ⟨p,w,by rw [if_pos e,e]⟩
   ·rw [if_neg e];exact h.2 z hz
theorem Wr:∀ (rows:List Row) (kvs:List (List Key × V)),OkKv kvs→OkKv (rows.foldl Zn kvs)
 | [],_,h=>h
 | r :: t,kvs,h=>Wr t _ (h.put r.1 r.2)
theorem je (rows:List Row):OkKv (dOf rows):=Wr rows [] ⟨i7,fun _ h=>nomatch h⟩
theorem zc9 (kvs:List (List Key × V)) (k:List Key) (v:V):(yT kvs k v).length≤kvs.length + 1:=by
 unfold yT
 split
 ·rw [bt];lia
 ·rw [bz];simp
theorem Je:∀ (rows:List Row) (kvs:List (List Key × V)),(rows.foldl Zn kvs).length≤kvs.length + rows.length
 | [],_=>by simp
 | r :: t,kvs=>by
  have:=Je t (Zn kvs r)
  have:=zc9 kvs (zM r.1) (.int r.2)
  rw [eR,cB]
  unfold Zn at *
  lia
theorem x9 (rows:List Row):(dOf rows).length≤rows.length:=by have:=Je rows [];simpa [dOf] using this
theorem Qo {kvs:List (List Key × V)}:(kvs.map (·.1)).Nodup→∀ kv∈kvs,yL kvs kv.1=some kv.2:=by
 induction kvs with
 | nil=>exact fun _ kv h=>nomatch h
 | cons a r ih =>
  intro hn kv hk
  rw [bW,cT] at hn
  rcases bR.mp hk with rfl | hk
  ·exact yW rfl
  ·rw [yX fun z=>hn.1 (by rw [z];exact da hk)]
   exact ih hn.2 kv hk
theorem mem_dOf {rows:List Row} {kv:List Key × V}:kv∈dOf rows↔∃ p w,kv=(zM p,.int w)∧zN rows p=some w:=by
 constructor
 ·intro h
  obtain ⟨p,w,rfl⟩:=(je rows).2 kv h
  have:=Qo (je rows).1 _ h
  rw [x8] at this
  obtain ⟨w',e1,e2⟩:=cW.mp this
  cases e2
  exact ⟨p,w,rfl,e1⟩
 ·rintro ⟨p,w,rfl,h⟩
  have e:yL (dOf rows) (zM p)=some (.int w):=by rw [x8,h];rfl
  obtain ⟨kv,hk,e1⟩:=cm.mp (K7 e)
  have:=Qo (je rows).1 _ hk
  rw [e1,e] at this
  have e2:kv=(zM p,V.int w):=oS e1 (cf this).symm
  rw [← e2];exact hk
theorem vn (a:Pl):zY a a=false:=by
 unfold zY
 rw [if_pos rfl]
 exact decide_eq_false (by lia)
theorem XJ {a b c:Pl} (h1:zY a b=true) (h2:zY b c=true):zY a c=true:=by
 unfold zY at *
 by_cases e1:a.1=b.1
 ·rw [if_pos e1] at h1
  by_cases e2:b.1=c.1
  ·rw [if_pos e2] at h2
   rw [if_pos (e1.trans e2)]
   have h1:=of_decide_eq_true h1
   have h2:=of_decide_eq_true h2
   exact decide_eq_true (by lia)
  ·rw [if_neg e2] at h2
   rw [if_neg (by rw [e1];exact e2),e1]
   exact h2
 ·rw [if_neg e1] at h1
  have h1:=of_decide_eq_true h1
  by_cases e2:b.1=c.1
  ·rw [if_neg (by rw [← e2];exact e1),← e2]
   exact decide_eq_true h1
  ·rw [if_neg e2] at h2
   have h2:=of_decide_eq_true h2
   have h3:=List.lt_trans h1 h2
   rw [if_neg (fun z=>by rw [z] at h3;exact List.lt_irrefl _ h3)]
   exact decide_eq_true h3
def Rising (l:List Row):Prop:=l.Pairwise fun a b=>zY a.1 b.1=true
def wI (rows out:List Row):Prop:=Rising out∧∀ p w,(p,w)∈out↔zN rows p=some w∧w≠0
theorem Rising.nd {l:List Row} (h:Rising l):(l.map (·.1)).Nodup:=by
 unfold fB
 rw [eA]
 exact List.Pairwise.imp (fun {a b} h z=>by rw [z,vn] at h;cases h) h
theorem Ws {p:Pl}:∀ {l:List Row},(∀ r∈l,r.1≠p)→zN l p=none
 | [],_=>rfl
 | r :: t,h=>by
  rw [zN,Ws fun r hr=>h r (bB _ hr),if_neg (h r bF)];rfl
theorem Qp {p:Pl} {w:Int}:∀ {l:List Row},(l.map (·.1)).Nodup→(zN l p=some w↔(p,w)∈l)
 | [],_=>by simp [zN]
 | r :: t,hn=>by
  rw [bW,cT] at hn
  have ih:=Qp (p:=p) (w:=w) hn.2
  by_cases e:r.1=p
  ·have z:zN t p=none:=Ws fun q hq zz=>hn.1 (by rw [e,← zz];exact da hq)
   rw [zN,z,if_pos e]
   constructor
   ·intro h
    have:r.2=w:=by simpa using h
    rw [← e,← this];exact bF
   ·intro h
    rcases bR.mp h with h | h
    ·rw [← h];rfl
    ·exact absurd (da (f:=(·.1)) h) (by rw [← e];exact hn.1)
  ·rw [zN,if_neg e,Option.or_none,ih,bR]
   constructor
   ·exact .inr
   ·rintro (h | h)
    ·exact absurd (by rw [← h]) e
    ·exact h
theorem qJ:∀ {a b:List Row},Rising a→Rising b→(∀ x,x∈a↔x∈b)→a=b
 | [],[],_,_,_=>rfl
 | [],y :: _,_,_,h=>absurd ((h y).mpr bF) (by simp)
 | x :: _,[],_,_,h=>absurd ((h x).mp bF) (by simp)
 | x :: a,y :: b,ha,hb,h=>by
  unfold Rising at ha hb
  rw [nI] at ha hb
  have e:x=y:=by
   rcases bR.mp ((h x).mp bF) with e | e
   ·exact e
   ·rcases bR.mp ((h y).mpr bF) with e' | e'
    ·exact e'.symm
    ·have:=XJ (ha.1 y e') (hb.1 x e)
     rw [vn] at this;cases this
  subst e
  have nx:x ∉ a:=fun z=>by have:=ha.1 x z;rw [vn] at this;cases this
  have ny:x ∉ b:=fun z=>by have:=hb.1 x z;rw [vn] at this;cases this
  rw [qJ ha.2 hb.2 fun z=>?_]
  constructor
  ·intro hz
   rcases bR.mp ((h z).mp (bB _ hz)) with e | e
   ·subst e;exact absurd hz nx
   ·exact e
  ·intro hz
   rcases bR.mp ((h z).mpr (bB _ hz)) with e | e
   ·subst e;exact absurd hz ny
   ·exact e
theorem zbt {rows a b:List Row} (ha:wI rows a) (hb:wI rows b):a=b :=
 qJ ha.1 hb.1 fun x=>(ha.2 x.1 x.2).trans (hb.2 x.1 x.2).symm
theorem kY {α:Type} [DecidableEq α]:∀ {a b:List α},a.Nodup→(∀ x∈a,x∈b)→a.length≤b.length
 | [],_,_,_=>b8 _
 | x :: a,b,hn,h=>by
  rw [cT] at hn
  have hx:=h x bF
  have:=kY (a:=a) (b:=b.erase x) hn.2 fun y hy=>(List.mem_erase_of_ne fun z=>hn.1 (by rw [← z];exact hy)).mpr (h y (bB _ hy))
  rw [List.length_erase_of_mem hx] at this
  have:0 < b.length:=List.length_pos_of_mem hx
  rw [cB];lia
end L2
namespace L2
open PySem PySem.Spec PyProof.Rows
end L2
namespace L2
open PySem PySem.Spec PyProof.Rows
theorem kZ:plainId "dict.update.loop"=true:=by decide +kernel
theorem Wt:entryFor table "dict.update.loop"=some Builtin.«dict.update.loop»:=entryFor_of_fast (by kernel_rfl)
section
variable {X:Cx} {A:Around} {R:Result→Shared→Prop}
def PrAt (H:Hp) (v:V) (q:Row):Prop:=∃ r p,v=.ref r∧H r=some (.tup [.ref p,.int q.2])∧H p=some (.tup [.str q.1.1,.int q.1.2])
theorem zai {pins:List (Addr × Obj)} {σ:St} {H:Hp} {s:Shared} {d b:Addr} {kvs:List (List Key × V)} {k:List Key} {v:V} {u:Value} {E:Value→Shared→Prop} {Q:Unit→Shared→Prop} (hu:A.units + 1 < cLine) (I:Inv X pins σ H s) (e:H d=some (.dT kvs)) (eb:H b=some (.tup (k.map kV))) (l:kvs.length < sizeLine) (rv:RelV v u)
  (h:∀ h' tk,Inv X pins σ (upd H d (.dT (yT kvs k v))) { s with heap:=h',toks:=tk }→cJ d s.heap h'→Q () { s with heap:=h',toks:=tk }):wpAny (model X.prog X.w) A.in1 (dictSet d (.ref b) u) Q E s:=by
 obtain ⟨z,hd,xs,rel,dd⟩:=zdX I.hok e
 have hz:xs.length≤sizeLine:=by rw [← b5 rel];exact z
 have hl:(yT kvs k v).length≤sizeLine:=by have:=we kvs k v;lia
 refine wpAny_dictSet_heap (hsz:=hz) (eJ hu) (qA I.hok eb) dd fun h' dd' hs=>h _ _ ?_ hs
 obtain ⟨q,es,ep,hq,h2,h3,h4,_,h5⟩:=dd'
 refine WW I (by rw [e];exact dA) hs ⟨q,hq⟩ ⟨hl,hd,_,(rel.put k eb rv).keeps fun c ys ec=>?_,q,es,ep,hq,h2,h3,h4,h5⟩
 rw [zj (yQ ec e (fun z=>nomatch z))]
 exact ec
theorem zbu {pins:List (Addr × Obj)} {σ:St} {H:Hp} {d it l:Addr} {xs:List V} {rows:List Row} {res:Value} (hu:A.units + 1 < cLine) (hh:A.handled=none) (hd:H d=none) (hl:H l=some (.lst xs)) (hr:Paired (PrAt H) xs rows) (h63:rows.length≤1000) (dit:it≠d) (lit:l≠it) :
  ∀ (k i:Nat) (s:Shared),rows.length - i=k→i≤rows.length→Inv X pins σ (upd H d (.dT (dOf (rows.take i)))) s→s.heap.IsListIter it l i→(∀ u,jZ X pins (upd H d u) it) →
  (∀ s',Inv X pins σ (upd H d (.dT (dOf rows))) s'→R (.ok (.ret res)) s') →
  codeAny (model X.prog X.w) A (.builtin "dict.update.loop" ⟨[.ref d,.ref it,rawInt i,res],[]⟩) R s:=by
 have lx:xs.length=rows.length:=b5 hr
 have S:∀ u:HO,Same H (upd H d u):=fun u=>isV (o:=u) d hd
 intro k
 induction k with
 | zero =>
  intro i s hk hi I st hf fin
  have e:i=rows.length:=by lia
  subst e
  refine dM Wt ?_
  rw [dj kZ _]
  show wpAny _ A.in1 (pyNext (.ref it) >>= _) _ _ s
  obtain ⟨its,rv,p,hz⟩:=I.list (SqL.of (S _ _ _ hl))
  obtain ⟨f0,f1,f2,f3,f4,f5⟩:=hf (.dT (dOf (rows.take rows.length)))
  have hl2:=rv.length
  refine bd (mq hh st p.isList (by simp;lia) fun h' eb=>?_)
  have I1:=I.turned (t':=s.toks) (fun b o hb e=>eb b o hb e) f0 f1 f3 f4 f5
  rw [fq] at I1
  show wpAny _ A.in1 (Builtin.Dict.addKeywords d [] >>= _) _ _ _
  exact bd (bj (bj (fin _ I1)))
 | succ k ih =>
  intro i s hk hi I st hf fin
  have hlt:i < rows.length:=by lia
  refine dM Wt ?_
  rw [dj kZ _]
  show wpAny _ A.in1 (pyNext (.ref it) >>= _) _ _ s
  obtain ⟨its,rv,p,hz⟩:=I.list (SqL.of (S _ _ _ hl))
  obtain ⟨f0,f1,f2,f3,f4,f5⟩:=hf (.dT (dOf (rows.take i)))
  have hx:xs[i]?=some xs[i]:=bh (by lia)
  have hq:rows[i]?=some rows[i]:=bh hlt
  obtain ⟨r,pl,e1,t1,u1⟩:=yg hr hx hq
  obtain ⟨u,hu',ru⟩:=rv.get hx
  rw [e1] at ru
  cases ru
  refine bd (l7 st p.isList (x:=.ref r) (by simpa using hu') fun h' st' sb=>?_)
  have I1:=I.turned (t':=s.toks) (fun b o hb e=>(sb.2 b hb).trans e) f0 f1 f3 f4 f5
  obtain ⟨tis,tv,⟨o,ho,hc,n,hdt⟩,_⟩:=I1.tuple (SqT.of (S _ _ _ t1))
  cases tv with
  | cons r1 rr =>
   cases rr with
   | cons r2 rn =>
    cases rn
    cases r1
    obtain ⟨tk,rfl⟩:=r2
    refine bd (df ?_)
    have T:({ s with heap:=h' }:Shared).TypeIs (.ref r) "tuple":=⟨o,ho,hc⟩
    refine bd (wpAny_tryCatch ?_)
    unfold Builtin.Dict.pairItems
    refine bd (om T ?_)
    rw [if_pos (by decide)]
    refine bd ?_
    unfold seqItems?
    refine bd (mJ ho ?_)
    rw [hdt]
    refine bj (bj ?_)
    show wpAny _ _ (holding [.ref pl,.int rows[i].2 tk] (dictSet d (.ref pl) (.int rows[i].2 tk))) _ _ _
    refine df ?_
    have tk2:dOf (rows.take (i + 1))=yT (dOf (rows.take i)) (zM rows[i].1) (.int rows[i].2):=by rw [eh,hq,← jd];rfl
    have l2:(dOf (rows.take i)).length < sizeLine:=by
     have h1:=x9 (rows.take i)
     have h2:=List.length_take_le' i rows
     exact b9 (by lia:_≤1000) (by decide)
    refine zai (k:=zM rows[i].1) (v:=.int rows[i].2) hu I1 ze (S _ _ _ u1) l2 ⟨tk,rfl⟩ fun h2 tk3 I2 sb2=>?_
    rw [Yv,← tk2] at I2
    refine bj ⟨fS kZ _,ih (i + 1) _ (by lia) hlt I2 (st'.at fun o e=>(sb2.2 it dit).trans e) hf fin⟩
end
end L2
namespace L2
open PySem PySem.Spec PyProof.Rows
theorem Vf:typeLookup (.type "list") "keys"=pure none:=by rw [typeLookup_type,builtinLookup_eq_fast];kernel_rfl
section
variable {prog:Program} {w:World} {A:Around} {E:Value→Shared→Prop} {s:Shared} {a:Addr} {o:Obj} {xs:Array Value} {k:Nat}
theorem Y1 {Q:Option Value→Shared→Prop} (hx:s.heap.get? a=some o) (hc:o.cls=.type "list") (hdat:o.data=.seq xs k) (hd:o.dict=none) (hA:A.handled=none)
  (h:∀ h' tk,(∀ b ob,s.heap.get? b=some ob→h'.get? b=some ob)→Q none { s with heap:=h',toks:=tk }):wpAny (model prog w) A (getAttr? (.ref a) "keys") Q E s:=by
 obtain ⟨c,dct,dat,sl⟩:=o;simp only at hc hdat hd;subst hc hdat hd
 obtain ⟨hp,g,d,tk,os⟩:=s;have hT:∀ tk',(⟨hp,g,d,tk',os⟩:Shared).TypeIs (.ref a) "list":=fun _=>⟨_,hx,rfl⟩
 have f1:=sub_AttributeError;have f3:=F.slot_list_getattribute.lookup;have f4:=F.slot_list_getattribute.bind (.ref a);have f5:=am_list_getattr_none
 unfold getAttr? getAttrBy? getAttrBy
 repeat (any_goals (first | assumption | exact hT _ | ((with_reducible show wpAny _ _ (call (nG "list.__getattribute__") _ _) _ _ _);refine lB F.slot_list_getattribute (hT _) am_entry_list_getattribute (F.args_list_getattribute_2 _ _) (meets_getattribute_miss_list a xs k sl "keys" _ Vf (by decide +kernel) (by decide +kernel)) ⟨hx,hA,fun h' tk' e hx'=>?_⟩) | wp_step))
 obtain ⟨t',u',he⟩:=hx'.there;have kp:=hx'.keeps
 show wpAny _ _ (getattributeRaised _ _ _ _ _ _ _) _ _ _;unfold getattributeRaised
 repeat (any_goals (first | assumption | wp_step))
 all_goals exact h _ _ fun b ob e=>kp b ob e
end
theorem hu3 {k:Nat} {A:Around} (r:Room k A):A.units + 3 < cLine:=by have:=V2 r;lia
abbrev Y2:RC:=fun vs H Q=>∃ (a:Addr) (xs:List V) (rows:List Row),vs=[.ref a]∧H a=some (.lst xs)∧Paired (PrAt H) xs rows∧rows.length≤1000∧∀ p,H p=none→Q (.ref p) (upd H p (.dT (dOf rows)))
section
variable {X:Cx}
theorem wq (hc:X.calm=true) (hu:X.A.units + 3 < cLine):wR X (.type "dict") Y2:=by
 intro pins s σ H vs us Q I r h
 obtain ⟨a,xs,rows,rfl,ha,hr,hl,q⟩:=h
 obtain ⟨u,rfl,ru⟩:=Za r
 cases ru
 have hh:X.A.handled=none:=I.ok.hd hc
 refine callType_codes (Q₁:=fun obj s₁=>obj=.ref s.heap.objs.size∧s₁={ s with heap:=s.heap.push { cls:=.type "dict",data:=.dict #[] } }) F.kt_called_dict (F.kt_typeCall_dict_1 _) F.entry_dict_init (kt_code_dict_new _ ⟨rfl,rfl⟩) ?_;rintro obj s₁ ⟨rfl,rfl⟩
 have T0:({ s with heap:=s.heap.push { cls:=.type "dict",data:=.dict #[] } }:Shared).TypeIs (.ref s.heap.objs.size) "dict":=⟨_,bD _ rfl,rfl⟩
 refine ⟨T0,F.args_dict_init_2 _ _,?_⟩;unfold Builtin.«dict.__init__»;refine bd ?_;unfold Builtin.Dict.selfAndRest
 refine bd (fJ T0 ?_);show wpAny _ _ (pure (s.heap.objs.size,[bJ a])) _ _ _;refine bj ?_
 show wpAny _ _ (lS "dict.__init__" s.heap.objs.size (.ref a) [] .none) _ _ _;unfold lS
 have hn:H s.heap.objs.size=none:=I.hok.fresh (bo _)
 have S:∀ u:HO,Same H (upd H s.heap.objs.size u):=fun u=>isV (o:=u) _ hn
 have I1:Inv X pins σ (upd H s.heap.objs.size (.dT [])) { s with heap:=s.heap.push { cls:=.type "dict",data:=.dict #[] } } :=
  I.laid (a:=s.heap.objs.size) (o:=.dT []) (t':=s.toks) (fun b o z=>bi _ z) (bo _) (VS s.heap I.big)
 obtain ⟨its,rv,pl,_⟩:=I1.list (SqL.of (S _ _ _ ha))
 obtain ⟨o,n,ho,oc,od,odat⟩:=id pl
 have T1:({ s with heap:=s.heap.push { cls:=.type "dict",data:=.dict #[] } }:Shared).TypeIs (.ref a) "list":=⟨o,ho,oc⟩
 refine bd (om T1 ?_);rw [if_pos (by decide)]
 refine bd (Y1 ho oc odat od (by exact hh) fun h2 tk2 k2=>?_);rw [if_pos (show (none:Option Value).isNone=true from rfl)]
 refine bd (gM ?_)
 have I2:Inv X pins σ (upd H s.heap.objs.size (.dT [])) { s with heap:=h2,toks:=tk2 }:=I1.kept k2
 obtain ⟨its2,rv2,pl2,_⟩:=I2.list (SqL.of (S _ _ _ ha))
 refine bd (ll pl2.isList ?_)
 have I3:Inv X pins σ (upd H s.heap.objs.size (.dT (dOf (rows.take 0)))) { s with heap:=h2.push { cls:=.type "list_iterator",data:=.fields #[.ref a,.int 0 0] },toks:=tk2 }:=I2.kept (t':=tk2) fun b o e=>bi _ e
 refine bj ⟨fS kZ _,?_⟩
 have lt:s.heap.objs.size < h2.objs.size:=bS (k2 s.heap.objs.size _ (bD _ rfl))
 have la:a < h2.objs.size:=by obtain ⟨_,_,z,_⟩:=pl2;exact bS z
 refine zbu (A:=X.A.in1) (H:=H) (d:=s.heap.objs.size) (it:=h2.objs.size) (l:=a) (xs:=xs) (rows:=rows) (res:=.none) ?_ hh hn ha hr hl (dY lt) (ck la) rows.length 0 _ (by lia) (b8 _) I3 ⟨_,bD _ rfl,rfl,rfl⟩ (fun u=>?_) fun s' I'=>⟨rfl,.ref s.heap.objs.size,_,I',rfl,q _ hn⟩
 ·have e:X.A.in1.units=X.A.units + 1:=rfl
  lia
 ·refine I2.fpOk (bo _) ?_
  rw [zj (dY lt)]
  have:=I2.hok.fresh (bo h2.objs.size)
  rw [zj (dY lt)] at this
  exact this
end
end L2
namespace L2
open PySem PySem.Spec PyProof.Rows
section
variable {X:Cx} {k:Nat} {f C:Addr} {fd:FuncData} {ps:List Str} {sp:Sp} {m:Str} {pos apos:Pos} {e o:Expr} {es:List Expr} {ta:TE} {t:TA}
def Y3 (C:Addr) (m:Str) (sp:Sp) (ta:TE) (t:TA) (EX:EXK):TE:=fun σ H Q=>ta σ H fun x H1=>∃ a dx fs,x=.ref a∧H1 a=some (.ins C dx fs)∧fs.lookup m=none ∧
 t σ H1 fun vs H2=>sp (x :: (vs ++ [])) H2 Q fun cls _ H3=>EX cls σ H3
theorem Jf {pl:Sem Bool} (he:PE X.nox o ta) (c:Cls X.K C) (hm:QU X.K C m f) (F:FnOk X.prog X.w X.K X.mg X.base (CX1 X.prog X.w) k f fd ps sp) (hr:Room k X.A) (hb:Binds X.K fd ps []) (ha:PA X.nox (e :: es) t)
  (hst:starEach (e :: es) X.env=(false,eval e X.env) :: starEach es X.env:=by rfl) (hpl:(backTo pos (starEach es X.env)).any (·.1)=false:=by rfl)
  (ht:eval (.Call (.Attribute o m apos) (e :: es) [] pos) X.env=(do
   let ov ← eval o X.env
   standAt apos.atName
   let (f,first) ← holding [ov] (getMethod ov m pl)
   callWith pos f first (backTo pos (starEach (e :: es) X.env)) (backToKw pos (keywordEach [] X.env))):=by rfl) :
  PEX X (.Call (.Attribute o m apos) (e :: es) [] pos) (Y3 C m sp ta t):=by
 intro pins s σ H Q EX I h
 refine mt (pl:=pl) (cG (he pins s σ H _ (I.wish _) h) (fun u s1 ⟨x,H1,I1',rx,a,dx,fs,ex,ea,l,q⟩=>?_) fun _ _ z=>cH z) ht
 subst ex
 obtain rfl:u=bJ a:=rx
 have I1:=I1'.unwish
 refine qy I1 ea c hm l ?_
 refine iU (first:=[.ref a]) (h₀:=X.base) I.ok.mod.kin hm.kp (cG (ha pos pins s1 σ H1 _ (I1.wish _) q) (fun us s2 ⟨vs,H2,I2',r,q2⟩=>⟨I2'.kIn,?_⟩) fun _ _ z=>cH z) hst hpl
 have I2:=I2'.unwish
 have r2:Vals (V.ref a :: (vs ++ [])) (bJ a :: (us ++ [])):=.cons rfl (r.append .nil)
 have hl:((bJ a :: us) ++ []).length=ps.length:=by
  have e:=r2.length
  rw [F.len _ _ _ _ q2] at e
  exact e.symm
 refine lA (eW (F.run X.A X.stack s2 H2 ⟨.ref a :: us,[]⟩ ((.ref a :: us) ++ []) (.ref a :: (vs ++ [])) _ _ hr I2.env0 (hb s2 (.ref a :: us) I2.kIn hl) r2 q2) fun r s' hq=>?_)
 cases r with
 | error ev =>
  obtain ⟨e,cls,H',rfl,os,bare,un,hok,xf,hE⟩:=hq
  exact ⟨e,cls,σ,s2,H2,H',rfl,I2,I2.call' (ch:=[]) os un hok bare (fun b z=>nomatch z),xf,hE⟩
 | ok fl =>
  cases fl with
  | ret u=>exact I2.after hq
  | next=>exact cH hq
  | brk=>exact cH hq
  | cont=>exact cH hq
end
def Kr (K:bx) (tb:EXK→TS) (C1:Addr) (th1:TS) (C2:Addr) (th2:TS):TS:=fun D σ H=>tb (fun cls σ1 H1=>∃ C,cls=.ref C ∧
 ((dH K (.ref C) (.ref C1)=some true∧th1 D σ1 H1)∨(dH K (.ref C) (.ref C1)=some false∧dH K (.ref C) (.ref C2)=some true∧th2 D σ1 H1))) D σ H
section
variable {X:Cx} {st b₀ b₁:Stmt} {suite suite1:List Stmt} {tb:EXK→TS} {th1 th2:TS} {c1 c2:Str} {C1 C2:Addr} {np hpos np2 hpos2 pos:Pos}
theorem zbv (hst:X.stack=X.env :: X.outer∧X.env.frame=some X.env.locals) (hex:X.ex=[]) (hb:PSX X st tb) (hg1:Gl X c1) (hm1:X.mg c1=some (.ref C1)) (hg2:Gl X c2) (hm2:X.mg c2=some (.ref C2))
  (hs1:∀ e,PSs (X.sub e) (b₀ :: suite) th1) (hs2:∀ e,PSs (X.sub e) (b₁ :: suite1) th2) (hdb1:(c1 == ("__debug__":Str))=false:=by decide) (hdb2:(c2 == ("__debug__":Str))=false:=by decide) :
  PS X (.Try [st] [.ExceptHandler (some (.Name c1 np)) none (b₀ :: suite) hpos,.ExceptHandler (some (.Name c2 np2)) none (b₁ :: suite1) hpos2] [] [] pos) (Kr X.K tb C1 th1 C2 th2):=by
 intro pins s σ H D I h
 refine lZ (fX (cG (hb pins s σ H D _ I h) (fun f s1 q=>?_) fun ev s1 q=>?_))
 ·cases f with
  | next=>exact dy (dy q)
  | ret v=>exact q
  | brk=>exact q
  | cont=>exact q
 obtain ⟨e,cls,σ1,s0,H0,H1,rfl,I0,I1,xf,C,rfl,hth⟩:=q
 obtain ⟨oe,vs,a0,T,oT,ts,h1,h2,h3,h4,h5,h6,h7,h8,h9,h10,h11,h12⟩:=xf
 have fr:s1.heap.FunFrames (eN s1.heap (frs X.stack ++ [e,T])) (X.env :: X.outer):=by
  have q:=fY (as:=frs X.stack ++ [e,T]) I1.stack fun env he a ha=>dh _ (eF.mpr ⟨env,he,ha⟩)
  rw [hst.1] at q ⊢
  exact q
 have two:∀ b∈[e,T],s0.heap.get? b=none∧H1 b=none:=fun b z=>by
  have z':b=e∨b=T:=by simpa using z
  rcases z' with rfl | rfl
  ·exact ⟨h9,h11⟩
  ·exact ⟨h10,h12⟩
 have hcs:∀ b∈[e,T],H1 b=none∧X.s₀.heap.get? b=none:=fun b z=>⟨(two b z).2,wN (I0.there0 hex) (two b z).1⟩
 have hcp:∀ b∈[e,T],∀ p∈X.pn ++ pins,p.1≠b:=fun b z p hp q=>by
  have:=(I0.pin p hp).1
  rw [q,(two b z).1] at this;cases this
 refine mB (base:=eN s1.heap (frs X.stack ++ [e,T])) (a0:=a0) (cls:=.ref C) (by rw [I1.ok.frames,hst.1]) hst.2
  ⟨fun b o q=>gS _ q,dX _ (bY _ (by simp)),fr,oe,vs,T,oT,ts,h1,h2,h3,h4,dX _ (bY _ (by simp)),h5,h6,h7,h8⟩ fun g4 held4 sm4=>?_
 refine n0 held4 fun g5 fly5 sm5=>?_
 have hB:∀ {g:Heap},(eN s1.heap (frs X.stack ++ [e,T])).StaysIn g→∀ b o,s1.heap.get? b=some o→b ∉ frs X.stack→b ∉ [e,T]→g.get? b=some o :=
  fun {g} k b o q n1 n2=>k b o (gn _ q fun z=>(bV.mp z).elim n1 n2)
 have I5:Inv X pins σ1 H1 { s1 with heap:=g5 }:=I1.land hex hcs hcp (hB fly5.1) (sm4.trans sm5)
 have K5:=I5.kIn
 have ty5:mz (model X.prog X.w) g5 (typeOf (.ref e)) (.ref C):=by
  obtain ⟨o,p1,p2⟩:=fly5.there
  exact p2 ▸ (lG p1).andThen .now
 have run:∀ {b₂:Stmt} {su:List Stmt} {th:TS} {hp:Pos} {R:Result→Shared→Prop},(∀ e,PSs (X.sub e) (b₂ :: su) th)→th D σ1 H1→(∀ f s',SP X pins D f s'→R (.ok f) s') →
   codeAny (model X.prog X.w) (X.A.mark (some (.ref e))) (.handlers (.ref e) [.ExceptHandler none none (b₂ :: su) hp] X.env) R { s1 with heap:=g5 }:=fun {b₂ su th hp R} hs hth hR=>by
  refine mh (n9 fly5 fun g6 fly6 sm6=>?_)
  have I6:Inv X pins σ1 H1 { s1 with heap:=g6 }:=I1.land hex hcs hcp (hB fly6.1) ((sm4.trans sm5).trans sm6)
  refine cG (hs e pins _ σ1 H1 D I6.toSub hth) (fun f s9 q=>hR f s9 ?_) fun _ _ z=>cH z
  cases f with
  | next=>obtain ⟨σ9,H9,J,z⟩:=q;exact ⟨σ9,H9,Inv.ofSub (J:=I) J,z⟩
  | brk=>obtain ⟨σ9,H9,J,z⟩:=q;exact ⟨σ9,H9,Inv.ofSub (J:=I) J,z⟩
  | cont=>obtain ⟨σ9,H9,J,z⟩:=q;exact ⟨σ9,H9,Inv.ofSub (J:=I) J,z⟩
  | ret u=>obtain ⟨v,σ9,H9,J,r,z⟩:=q;exact ⟨v,σ9,H9,Inv.ofSub (J:=I) J,r,z⟩
 refine gf (fH ?_) (by intro q;cases q)
 refine xX (X:=X.sub e) (I5.toSub (e:=e)) hg1 hm1 ?_ hdb1
 rcases hth with ⟨hx,ht⟩ | ⟨hx,hx2,ht⟩
 ·refine (oI K5 ty5 hx).here ?_
  exact run hs1 ht fun f s' q=>q
 ·refine (oI K5 ty5 hx).here ?_
  show wpAny _ _ (handleBy (.ref e) X.env _) _ _ _
  refine gf (fH ?_) (by intro q;cases q)
  refine xX (X:=X.sub e) (I5.toSub (e:=e)) hg2 hm2 ?_ hdb2
  refine (oI K5 ty5 hx2).here ?_
  exact run hs2 ht fun f s' q=>q
end
end L2
namespace L2
open PySem
def rk (kvs:List (Key × V)) (ps:List V):Except Er Int:=match wj kvs ps [] with
 | .ok [i]=>.ok i
 | .ok _=>.error .stuck
 | .error e=>.error e
theorem Good.rk {kvs:List (Key × V)} {ps:List V} {r:Except Er Int} (h:Good kvs ps r):L2.rk kvs ps=r:=by
 unfold L2.rk
 rw [h.1 []]
 cases r <;> rfl
theorem zbw {kvs:List (Key × V)} (hs:yP kvs) {v:V} (hv:jq v) {st st':List Int} (h:∀ x∈st,inW x=true) (e:xO kvs st v=.ok st'):∀ x∈st',inW x=true:=by
 unfold xO at e
 split at e
 ·split at e
  ·rename_i w b a r hr hj
   unfold wH at e
   by_cases c1:Z8 w∧b=0
   ·rw [if_pos c1] at e;cases e
   ·rw [if_neg c1] at e
    by_cases c2:inW (wT w a b)=true
    ·rw [if_pos c2] at e
     cases e
     intro x hx
     rcases bV.mp hx with hx | hx
     ·refine h x (oz.mp ?_)
      rw [hr]
      exact bB _ (bB _ (oz.mp hx))
     ·rw [bP.mp hx];exact c2
    ·rw [if_neg c2] at e;cases e
  ·cases e
 ·cases e
  intro x hx
  rcases bV.mp hx with hx | hx
  ·exact h x hx
  ·rw [bP.mp hx];exact V3 hs hv
theorem Qq {kvs:List (Key × V)} (hs:yP kvs):∀ {ps:List V} {st st':List Int},(∀ v∈ps,jq v)→(∀ x∈st,inW x=true)→wj kvs ps st=.ok st'→∀ x∈st',inW x=true
 | [],st,st',_,h,e=>by cases e;exact h
 | v :: r,st,st',hp,h,e=>by
  unfold wj at e
  split at e
  ·rename_i st1 e1
   exact Qq hs (fun v hv=>hp v (bB _ hv)) (zbw hs (hp v bF) h e1) e
  ·cases e
theorem zbx {kvs:List (Key × V)} (hs:yP kvs) {ps:List V} (hp:∀ v∈ps,jq v) {i:Int} (e:rk kvs ps=.ok i):inW i=true:=by
 unfold rk at e
 split at e
 ·rename_i j hj
  cases e
  exact Qq hs hp (fun _ z=>absurd z de) hj i bF
 ·cases e
 ·cases e
def TermOk (e:List V):Prop:=(∀ kvs,∃ r,Good kvs e r)∧(∀ v∈e,jq v)∧e.length≤1000
theorem TermOk.good {e:List V} (h:TermOk e) (kvs:List (Key × V)):Good kvs e (rk kvs e):=by
 obtain ⟨r,g⟩:=h.1 kvs
 rw [g.rk];exact g
mutual
inductive Rw where
 | take (sh:Str) (e:List V) (sl:Str)
 | give (sh:Str) (e f:List V)
 | lt (sl:Str) (e:List V)
 | say (e:List V)
 | off (e:List V)
 | iff (e:List V) (a b:Rws)
inductive Rws where
 | nil
 | cons (r:Rw) (rs:Rws)
end
set_option genSizeOf false in
set_option genInjectivity false in
structure Sta where
 sl:List (Key × V)
 wo:List Row
 sa:List Int
inductive Res where
 | go (s:Sta)
 | off
 | er (e:Er)
mutual
def goR:Rw→Sta→Res
 | .take sh e sl,s=>match rk s.sl e with
  | .ok n=>.go { s with sl:=yT s.sl (.inr sl) (.int ((zN s.wo (sh,n)).getD 0)) }
  | .error x=>.er x
 | .give sh e f,s=>match rk s.sl e with
  | .ok n=>(match rk s.sl f with
   | .ok w=>.go { s with wo:=s.wo ++ [((sh,n),w)] }
   | .error x=>.er x)
  | .error x=>.er x
 | .lt sl e,s=>match rk s.sl e with
  | .ok n=>.go { s with sl:=yT s.sl (.inr sl) (.int n) }
  | .error x=>.er x
 | .say e,s=>match rk s.sl e with
  | .ok n=>.go { s with sa:=s.sa ++ [n] }
  | .error x=>.er x
 | .off e,s=>match rk s.sl e with
  | .ok n=>if n=0 then .go s else .off
  | .error x=>.er x
 | .iff e a b,s=>match rk s.sl e with
  | .ok n=>if n=0 then zda b s else zda a s
  | .error x=>.er x
def zda:Rws→Sta→Res
 | .nil,s=>.go s
 | .cons r rs,s=>match goR r s with
  | .go s'=>zda rs s'
  | x=>x
end
mutual
def RwAt (F:Addr→Prop) (H:Hp) (v:V):Rw→Prop
 | .take sh e sl=>∃ r te,v=.ref r∧F r∧F te∧H r=some (.tup [.str "take",.str sh,.ref te,.str sl])∧H te=some (.tup e)
 | .give sh e f=>∃ r te tf,v=.ref r∧F r∧F te∧F tf∧H r=some (.tup [.str "give",.str sh,.ref te,.ref tf])∧H te=some (.tup e)∧H tf=some (.tup f)
 | .lt sl e=>∃ r te,v=.ref r∧F r∧F te∧H r=some (.tup [.str "let",.str sl,.ref te])∧H te=some (.tup e)
 | .say e=>∃ r te,v=.ref r∧F r∧F te∧H r=some (.tup [.str "say",.ref te])∧H te=some (.tup e)
 | .off e=>∃ r te,v=.ref r∧F r∧F te∧H r=some (.tup [.str "off",.ref te])∧H te=some (.tup e)
 | .iff e a b=>∃ r te la lb xs ys,v=.ref r∧F r∧F te∧F la∧F lb∧H r=some (.tup [.str "if",.ref te,.ref la,.ref lb])∧H te=some (.tup e)∧H la=some (.lst xs)∧RwsAt F H xs a∧H lb=some (.lst ys)∧RwsAt F H ys b
def RwsAt (F:Addr→Prop) (H:Hp) (vs:List V):Rws→Prop
 | .nil=>vs=[]
 | .cons r rs=>∃ v ws,vs=v :: ws∧RwAt F H v r∧RwsAt F H ws rs
end
mutual
theorem RwAt.to_ {F G:Addr→Prop} {H H':Hp} (g:∀ b o,F b→H b=some o→G b) (s:∀ b o,F b→H b=some o→H' b=some o):∀ {v:V} (r:Rw),RwAt F H v r→RwAt G H' v r
 | v,.take sh e sl,h=>by
  unfold RwAt at h ⊢
  obtain ⟨r,te,e1,f1,f2,e2,e3⟩:=h
  exact ⟨r,te,e1,g _ _ f1 e2,g _ _ f2 e3,s _ _ f1 e2,s _ _ f2 e3⟩
 | v,.give sh e f,h=>by
  unfold RwAt at h ⊢
  obtain ⟨r,te,tf,e1,f1,f2,f3,e2,e3,e4⟩:=h
  exact ⟨r,te,tf,e1,g _ _ f1 e2,g _ _ f2 e3,g _ _ f3 e4,s _ _ f1 e2,s _ _ f2 e3,s _ _ f3 e4⟩
 | v,.lt sl e,h=>by
  unfold RwAt at h ⊢
  obtain ⟨r,te,e1,f1,f2,e2,e3⟩:=h
  exact ⟨r,te,e1,g _ _ f1 e2,g _ _ f2 e3,s _ _ f1 e2,s _ _ f2 e3⟩
 | v,.say e,h=>by
  unfold RwAt at h ⊢
  obtain ⟨r,te,e1,f1,f2,e2,e3⟩:=h
  exact ⟨r,te,e1,g _ _ f1 e2,g _ _ f2 e3,s _ _ f1 e2,s _ _ f2 e3⟩
 | v,.off e,h=>by
  unfold RwAt at h ⊢
  obtain ⟨r,te,e1,f1,f2,e2,e3⟩:=h
  exact ⟨r,te,e1,g _ _ f1 e2,g _ _ f2 e3,s _ _ f1 e2,s _ _ f2 e3⟩
 | v,.iff e a b,h=>by
  unfold RwAt at h ⊢
  obtain ⟨r,te,la,lb,xs,ys,e1,f1,f2,f3,f4,e2,e3,e4,e5,e6,e7⟩:=h
  exact ⟨r,te,la,lb,xs,ys,e1,g _ _ f1 e2,g _ _ f2 e3,g _ _ f3 e4,g _ _ f4 e6,s _ _ f1 e2,s _ _ f2 e3,s _ _ f3 e4,RwsAt.to_ g s a e5,s _ _ f4 e6,RwsAt.to_ g s b e7⟩
theorem RwsAt.to_ {F G:Addr→Prop} {H H':Hp} (g:∀ b o,F b→H b=some o→G b) (s:∀ b o,F b→H b=some o→H' b=some o):∀ {vs:List V} (r:Rws),RwsAt F H vs r→RwsAt G H' vs r
 | vs,.nil,h=>by
  unfold RwsAt at h ⊢
  exact h
 | vs,.cons r rs,h=>by
  unfold RwsAt at h ⊢
  obtain ⟨v,ws,e1,e2,e3⟩:=h
  exact ⟨v,ws,e1,RwAt.to_ g s r e2,RwsAt.to_ g s rs e3⟩
end
theorem RwAt.to {F G:Addr→Prop} {H H':Hp} {v:V} (r:Rw) (g:∀ b o,F b→H b=some o→G b) (s:∀ b o,F b→H b=some o→H' b=some o) (h:RwAt F H v r):RwAt G H' v r:=RwAt.to_ g s r h
theorem RwsAt.to {F G:Addr→Prop} {H H':Hp} {vs:List V} (r:Rws) (g:∀ b o,F b→H b=some o→G b) (s:∀ b o,F b→H b=some o→H' b=some o) (h:RwsAt F H vs r):RwsAt G H' vs r:=RwsAt.to_ g s r h
theorem RwAt.mono {F:Addr→Prop} {H H':Hp} (s:Same H H') {v:V} {r:Rw} (h:RwAt F H v r):RwAt F H' v r:=h.to r (fun _ _ f _=>f) (fun b o _ e=>s b o e)
theorem RwsAt.mono {F:Addr→Prop} {H H':Hp} (s:Same H H') {vs:List V} {r:Rws} (h:RwsAt F H vs r):RwsAt F H' vs r:=h.to r (fun _ _ f _=>f) (fun b o _ e=>s b o e)
def zdb (F:Addr→Prop) (H:Hp) (v:V) (r:Rws):Prop:=∃ a xs,v=.ref a∧F a∧H a=some (.lst xs)∧RwsAt F H xs r
abbrev XL:Addr→Prop:=fun _=>True
mutual
def j7:Rw→Prop
 | .take _ e _=>TermOk e
 | .give _ e f=>TermOk e∧TermOk f
 | .lt _ e=>TermOk e
 | .say e=>TermOk e
 | .off e=>TermOk e
 | .iff e a b=>TermOk e∧wk a∧wk b
def wk:Rws→Prop
 | .nil=>True
 | .cons r rs=>j7 r∧wk rs
end
mutual
def Rw.deep:Rw→Nat
 | .iff _ a b=>max a.deep b.deep + 1
 | _=>0
def Rws.deep:Rws→Nat
 | .nil=>0
 | .cons r rs=>max r.deep rs.deep
end
mutual
def Rw.cnt:Rw→Nat
 | .iff _ a b=>max a.cnt b.cnt + 1
 | _=>1
def Rws.cnt:Rws→Nat
 | .nil=>0
 | .cons r rs=>r.cnt + rs.cnt
end
end L2
namespace L2
open PySem
abbrev ItA (h:Heap) (it d:Addr) (i n ep:Nat) (o0:Value) (f:Bool) (ok ov:Value):Prop :=
 h.get? it=some { cls:=.type "dict_itemiterator",dict:=none,data:=.fields #[o0,.bool f,.ref d,.int i 0,.int n 0,.int ep 0,ok,ov],slots:=#[] }
section
variable {P:Program} {w:World} {A:Around} {E:Value→Shared→Prop} {s:Shared}
theorem Jg {v d:Addr} {es:Array DictEntry} {ep:Nat} {Q:Value→Shared→Prop} (hv:s.heap.IsItemsView v d) (hm:RawD s.heap d es ep)
  (q:Q (.ref s.heap.objs.size) { s with heap:=s.heap.push { cls:=.type "dict_itemiterator",data:=.fields #[.none,.bool false,.ref d,.int 0 0,.int es.size 0,.int ep 0,.none,.none] } }):wpAny (model P w) A (pyIter (.ref v)) Q E s:=by
 obtain ⟨ov,hov,hcv,hdv⟩:=id hv;obtain ⟨o,ho,hc,hdat⟩:=id hm
 refine lH hv.typeIs mj (cO mj hv.typeIs F.entry_dict_items_iter ?_ (F.args_dict_items_iter_1 _));unfold Builtin.«dict_items.__iter__»
 refine bd (bj ?_);refine bd ?_;unfold Builtin.Dict_items.dictOf
 refine bd (fL hov hdv (x:=.ref d) rfl (bj ?_));refine bd ?_;unfold Builtin.Dict_items.newIterator
 refine bd (et ho hdat ?_);refine bd (eT ho hdat ?_)
 have own:cZ "dict_itemiterator"=true:=by decide
 simp only [own,if_true];refine cU (bj ⟨_,rfl,"dict_itemiterator",_,⟨_,bD _ rfl,rfl⟩,cC.lookup,?_⟩) (by simp only [sizeOk,gg,bM,bz,cB,oH,c7];lia)
 simpa [rawInt,gg] using q
theorem zby {it d:Addr} {i ep:Nat} {es:Array DictEntry} {e:DictEntry} {o0 ok ov:Value} {f:Bool} {Q:Option Value→Shared→Prop} (hit:ItA s.heap it d i es.size ep o0 f ok ov) (hm:RawD s.heap d es ep) (hx:es[i]?=some e)
  (ho0:(o0=.none∧f=false)∨∃ (a:Addr) (oa:Obj),o0=rawInt (a:Nat)∧s.heap.get? a=some oa∧a≠it)
  (q:∀ h' o1 f1 k1 v1,ItA h' it d (i + 1) es.size ep o1 f1 k1 v1→((o1=.none∧f1=false)∨∃ (a:Addr) (oa:Obj),o1=rawInt (a:Nat)∧h'.get? a=some oa∧a≠it)→h'.get? s.heap.objs.size=some { cls:=.type "tuple",data:=.seq #[e.key,e.val] }→h'.objs.size=s.heap.objs.size + 1 →
   (∀ b o,b≠it→s.heap.get? b=some o→h'.get? b=some o)→(∀ a:Addr,o1=rawInt (a:Nat)→a=s.heap.objs.size∨o0=rawInt (a:Nat))→Q (some (.ref s.heap.objs.size)) { s with heap:=h' }):wpAny (model P w) A (pyNext (.ref it)) Q E s:=by
 obtain ⟨hp,g,dr,tk,os⟩:=s;obtain ⟨od,hod,hcd,hdd⟩:=id hm
 have T:lT ⟨hp,g,dr,tk,os⟩ (.ref it) "dict_itemiterator":=⟨_,hit,rfl⟩
 unfold pyNext;refine bd (e9 (dR (name:=bg "__next__") T cC (cO cC T eX ?_ (eV _))))
 refine bd (bj ?_);refine bd ?_;refine bd ?_
 first | (refine bd (cS T (bj ?_))) | (refine bd (dl T (bj ?_)))
 refine bd (gQ hit rfl ?_);have own:cZ "dict_itemiterator"=true:=by decide
 simp only [own,if_true];show wpAny _ _ (if (bJ d == cy)=true then _ else _) _ _ _
 rw [if_neg (show ¬ ((bJ d == cy)=true) from bK)];refine bd (bj ?_);refine bd (et hod hdd ?_)
 rw [if_neg (by simp)];refine bd (bj ?_);refine bd (eT hod hdd ?_);rw [if_neg (by simp)];refine bj ?_
 simp only [show ¬ ((i:Int) < 0) from by lia,if_false,ed,hx];refine bd ?_
 first | (refine bd (cS T (bj ?_))) | (refine bd (dl T (bj ?_)))
 refine bd (dG T ?_);show wpAny _ _ (setField (.ref it) 3 (rawInt ((i:Int) + 1)) >>= _) _ _ ⟨hp,g,dr,tk,os⟩
 refine bd (cQ hit (by simp) fun h₁ e1 s1=>?_)
 replace s1:cJ it hp h₁:=s1
 replace e1:ItA h₁ it d (i + 1) es.size ep o0 f ok ov:=by
  have z:((i + 1:Nat):Int)=(i:Int) + 1:=by lia
  unfold ItA;rw [z];simpa [rawInt] using e1
 have T1:lT ⟨h₁,g,dr,tk,os⟩ (.ref it) "dict_itemiterator":=⟨_,e1,rfl⟩
 refine bd (df ?_);refine bd (dG T1 ?_);refine bd (dG T1 ?_)
 show wpAny _ _ (dE (.ref it) 6 e.key e.val) _ _ ⟨h₁,g,dr,tk,os⟩
 unfold dE;refine bd (i9 ?_)
 have e2:ItA (h₁.push { cls:=.type "tuple",data:=.seq #[e.key,e.val] }) it d (i + 1) es.size ep o0 f ok ov:=bi _ e1
 generalize hg:h₁.push { cls:=.type "tuple",data:=.seq #[e.key,e.val] }=h₂ at e2
 have z1:h₁.objs.size=hp.objs.size:=s1.1;have il:it < hp.objs.size:=bS hit
 have t2:h₂.get? hp.objs.size=some { cls:=.type "tuple",data:=.seq #[e.key,e.val] }:=by rw [← hg,← z1];exact bD _ rfl
 have z2:h₂.objs.size=hp.objs.size + 1:=by rw [← hg,fV,z1]
 have k2:∀ b o,b≠it→hp.get? b=some o→h₂.get? b=some o:=fun b o hb z=>by rw [← hg];exact bi _ (s1.extBut b o hb z)
 show wpAny _ _ (dn (.ref it) >>= _) _ _ ⟨h₂,g,dr,tk,os⟩;rw [z1]
 clear hg e1 s1 T1 z1 h₁;refine bd ?_;unfold dn
 rcases ho0 with ⟨rfl,rfl⟩ | ⟨a,oa,rfl,ha,hai⟩
 ·refine bd (fL e2 rfl (x:=.none) rfl (bj ?_));simp only [if_true]
  refine bd (fL e2 rfl (x:=ok) rfl ?_);refine bd (fL e2 rfl (x:=ov) rfl ?_)
  refine bd (cQ e2 (by simp) fun h₃ e3 s3=>?_);replace s3:cJ it h₂ h₃:=s3;replace e3:ItA h₃ it d (i + 1) es.size ep .none false e.key ov:=e3
  refine bd (cQ e3 (by simp) fun h₄ e4 s4=>?_);replace s4:cJ it h₃ h₄:=s4;replace e4:ItA h₄ it d (i + 1) es.size ep .none false e.key e.val:=e4
  refine bd (cQ e4 (by simp) fun h₅ e5 s5=>?_);replace s5:cJ it h₄ h₅:=s5;replace e5:ItA h₅ it d (i + 1) es.size ep (rawInt (hp.objs.size:Nat)) false e.key e.val:=e5
  refine bd (cQ e5 (by simp) fun h₆ e6 s6=>?_);replace s6:cJ it h₅ h₆:=s6;replace e6:ItA h₆ it d (i + 1) es.size ep (rawInt (hp.objs.size:Nat)) false e.key e.val:=e6
  have k6:∀ b o,b≠it→h₂.get? b=some o→h₆.get? b=some o:=fun b o hb z=>s6.extBut b o hb (s5.extBut b o hb (s4.extBut b o hb (s3.extBut b o hb z)))
  have t6:=k6 _ _ (dY il) t2
  refine bd (wpAny_letGo (bj (bj ⟨_,rfl,bj (q h₆ _ _ _ _ e6 (.inr ⟨_,_,rfl,t6,dY il⟩) t6 ?_ (fun b o hb z=>k6 b o hb (k2 b o hb z)) fun a z=>?_)⟩)))
  ·show h₆.objs.size=hp.objs.size + 1;rw [s6.1,s5.1,s4.1,s3.1,z2]
  ·refine .inl ?_
   have z':(fj (hp.objs.size:Nat) 0:Value)=fj (a:Nat) 0:=z
   have z'':((hp.objs.size:Nat):Int)=((a:Nat):Int):=by injection z'
   exact (nJ z'').symm
 ·refine bd (fL e2 rfl (x:=rawInt (a:Nat)) rfl ?_);show wpAny _ _ (loadIfAlive (((a:Nat):Int).toNat) >>= _) _ _ _;rw [ed]
  have a2:h₂.get? a=some oa:=k2 a oa hai ha
  refine bd (W.kdx_alive a2 ?_);simp only [Option.isNone_some,cb,if_false];refine bd (fL e2 rfl (x:=.bool f) rfl ?_)
  cases f with
  | true =>
   rw [if_neg (show ¬ ((gh true != gh true)=true) from bK)];refine bj ?_;simp only [cb,if_false]
   exact bj (bj ⟨_,rfl,bj (q h₂ _ _ _ _ e2 (.inr ⟨_,_,rfl,a2,hai⟩) t2 z2 k2 fun a z=>.inr z)⟩)
  | false =>
   rw [if_pos (show (gh false != gh true)=true from rfl)];refine bd (cQ e2 (by simp) fun h₃ e3 s3=>?_)
   replace s3:cJ it h₂ h₃:=s3;replace e3:ItA h₃ it d (i + 1) es.size ep (rawInt (a:Nat)) true ok ov:=e3
   refine bj ?_;simp only [cb,if_false]
   exact bj (bj ⟨_,rfl,bj (q h₃ _ _ _ _ e3 (.inr ⟨_,_,rfl,s3.extBut _ _ hai a2,hai⟩) (s3.extBut _ _ (dY il) t2) (by show h₃.objs.size=_;rw [s3.1,z2]) (fun b o hb z=>s3.extBut b o hb (k2 b o hb z)) fun a z=>.inr z)⟩)
theorem Qr {it d:Addr} {i ep:Nat} {es:Array DictEntry} {o0 ok ov:Value} {f:Bool} {Q:Option Value→Shared→Prop} (hh:A.handled=none) (hit:ItA s.heap it d i es.size ep o0 f ok ov) (hm:RawD s.heap d es ep) (hx:es.size≤i)
  (q:∀ h',Heap.ExtBut it s.heap h'→Q none { s with heap:=h' }):wpAny (model P w) A (pyNext (.ref it)) Q E s:=by
 obtain ⟨od,hod,hcd,hdd⟩:=id hm;have T:s.TypeIs (.ref it) "dict_itemiterator":=⟨_,hit,rfl⟩
 unfold pyNext;refine bd (e9 (dR (name:=bg "__next__") T cC (cO cC T eX ?_ (eV _))))
 refine bd (bj ?_);refine bd ?_;refine bd ?_
 first | (refine bd (cS T (bj ?_))) | (refine bd (dl T (bj ?_)))
 refine bd (gQ hit rfl ?_);have own:cZ "dict_itemiterator"=true:=by decide
 simp only [own,if_true];show wpAny _ _ (if (bJ d == cy)=true then _ else _) _ _ s
 rw [if_neg (show ¬ ((bJ d == cy)=true) from bK)];refine bd (bj ?_);refine bd (et hod hdd ?_)
 rw [if_neg (by simp)];refine bd (bj ?_);refine bd (eT hod hdd ?_);rw [if_neg (by simp)];refine bj ?_
 simp only [show ¬ ((i:Int) < 0) from by lia,if_false,ed,gF hx];refine bd ?_
 first | (refine bd (cS T (bj ?_))) | (refine bd (dl T (bj ?_)))
 show wpAny _ _ (setField (.ref it) 2 .none >>= _) _ _ s;refine bd (mV hit rfl (by simp) ?_)
 show wpAny _ _ (newExc (.type "StopIteration") [] >>= _) _ _ _;refine bd ?_;simp only [newExc,newTuple];refine bd (cU ?_ (by size_fits))
 refine bd (m:=firstArgMember _ _) (wpAny_of_eq (a:=cy) (by first | rfl | (simp only [firstArgMember];rfl)) ?_);refine cU ?_ (by size_fits)
 simp only [raiseNew];refine bd (wpAny_handled ?_);rw [show A.in1.handled=none from hh];refine bd (bj (wpAny_throw ?_))
 refine bd (wpAny_isInstance (T:="StopIteration") (b:=true) ⟨_,bD _ rfl,rfl⟩ isSubtype_stop ?_);exact bj (q _ (((iN ..).extBut.push _).push _))
end
end L2
namespace L2
open PySem PySem.Spec PyProof.Rows
def j8 (r d:Addr):HO:=.ext fun h=>h.IsItemsView r d
def ZF (td:TE):TE:=fun σ H Q=>td σ H fun x H1=>∃ d kvs,x=.ref d∧H1 d=some (.dT kvs)∧∀ r,H1 r=none→Q (.ref r) (upd H1 r (j8 r d))
section
variable {X:Cx} {o:Expr} {apos cpos:Pos} {td:TE}
theorem Y4 (ho:PE X o td) (hbase:attributeBase o "items" X.env (eval o X.env)=eval o X.env:=by rfl) (hline:(apos.endLine == cpos.line)=true:=by rfl):PE X (.Call (.Attribute o "items" apos) [] [] cpos) (ZF td):=by
 intro pins s σ H Q I h
 refine gu hbase hline (thn (ho pins s σ H _ I h) fun v s1 ⟨x,H1,I1,r1,d,kvs,ex,hd,q1⟩=>?_)
 subst ex
 obtain rfl:v=bJ d:=r1
 obtain ⟨t1,t2,t3⟩:=Ka I1 (.inr ⟨kvs,.inl hd⟩)
 refine ⟨"dict","dict.items",gA,ff,lU,t1,t2,eD rfl (iE ?_)⟩
 refine cO ff t1 lI ?_ (lg _)
 unfold Builtin.«dict.items»;refine bd ?_;unfold nr;refine bd (fJ t1 ?_)
 show wpAny _ _ (pure d) _ _ s1;refine bj ?_
 show wpAny _ _ (dN d >>= _) _ _ s1;unfold dN
 rw [if_neg (by rw [t3];exact bK)];refine bd (bj ?_)
 refine bd (cU (bj ⟨_,rfl,?_⟩))
 have hn:H1 s1.heap.objs.size=none:=I1.hok.fresh (bo _)
 have at0:(s1.heap.push { cls:=.type "dict_items",data:=.fields #[.ref d] }).get? s1.heap.objs.size=some { cls:=.type "dict_items",data:=.fields #[.ref d] }:=bD _ rfl
 refine ⟨.ref s1.heap.objs.size,_,I1.laid (a:=s1.heap.objs.size) (o:=j8 s1.heap.objs.size d) (t':=s1.toks) (fun b u e=>bi _ e) (bo _) ?_,rfl,q1 _ hn⟩
 exact ⟨⟨_,at0,rfl,rfl⟩,⟨_,at0⟩,fun h1 h2 ⟨o,e1,e2⟩ k=>⟨o,k o e1,e2⟩⟩
end
def Zo (H:Hp) (v:V) (kv:List Key × V):Prop:=∃ r p,v=.ref r∧H r=some (.tup [.ref p,kv.2])∧H p=some (.tup (kv.1.map kV))
theorem Jh {H H':Hp} (s:∀ b ys,H b=some (.tup ys)→H' b=some (.tup ys)):∀ {vs:List V} {kvs:List (List Key × V)},Paired (Zo H) vs kvs→Paired (Zo H') vs kvs
 | _,_,.nil=>.nil
 | _,_,.cons ⟨r,p,e,h1,h2⟩ t=>.cons ⟨r,p,e,s _ _ h1,s _ _ h2⟩ (Jh s t)
theorem Ji {H:Hp} {v:V} {q:List Key × V}:∀ {ys:List V} {kvs:List (List Key × V)},Paired (Zo H) ys kvs→Zo H v q→Paired (Zo H) (ys ++ [v]) (kvs ++ [q])
 | _,_,.nil,h=>.cons h .nil
 | _,_,.cons a r,h=>.cons a (Ji r h)
section
variable {X:Cx} {A:Around} {R:Result→Shared→Prop}
theorem zbz {pins:List (Addr × Obj)} {σ:St} {H:Hp} {S it d:Addr} {kvs:List (List Key × V)} {es:Array DictEntry} {ep:Nat} {res:Value} (hh:A.handled=none) (hS:H S=none) (hd:H d=some (.dT kvs)) (Sit:S≠it) (dit:d≠it) (hz:kvs.length≤1000)
  (hes:es.size=kvs.length) (hen:∀ (i:Nat) (e:DictEntry) (kv:List Key × V),es[i]?=some e→kvs[i]?=some kv→∃ p,e.key=.ref p∧H p=some (.tup (kv.1.map kV))∧RelV kv.2 e.val) (fin:∀ s' H' ys,Inv X pins σ H' s'→Same H H'→H' S=some (.lst ys)→Paired (Zo H') ys kvs→R (.ok (.ret res)) s') :
  ∀ (k i:Nat) (s:Shared) (Hi:Hp) (ys:List V) (o0 ok ov:Value) (f:Bool),kvs.length - i=k→i≤kvs.length→Inv X pins σ Hi s→Same H Hi→Hi S=some (.lst ys)→Paired (Zo Hi) ys (kvs.take i)→RawD s.heap d es ep→ItA s.heap it d i es.size ep o0 f ok ov →
  ((o0=.none∧f=false)∨∃ (a:Addr) (oa:Obj),o0=rawInt (a:Nat)∧s.heap.get? a=some oa∧a≠it∧a≠S)→jZ X pins Hi it →
  codeAny (model X.prog X.w) A (.builtin "list.extend.loop" ⟨[.ref S,.ref it,res],[]⟩) R s:=by
 intro k
 induction k with
 | zero =>
  intro i s Hi ys o0 ok ov f hk hi I sm hy pr rd hit ho0 hf
  have e:i=kvs.length:=by lia
  subst e
  refine dM lh ?_;rw [dj dJ _]
  show wpAny _ A.in1 (pyNext (.ref it) >>= _) _ _ s
  obtain ⟨f0,f1,f2,f3,f4,f5⟩:=hf
  refine bd (Qr (A:=A.in1) hh hit rd (by lia) fun h' eb=>?_)
  have I1:=I.turned (t':=s.toks) (fun b o hb e=>eb b o hb e) f0 f1 f3 f4 f5
  rw [fq] at pr
  exact bj (fin _ Hi ys I1 sm hy pr)
 | succ k ih =>
  intro i s Hi ys o0 ok ov f hk hi I sm hy pr rd hit ho0 hf
  have hlt:i < kvs.length:=by lia
  have hx:es[i]?=some es[i]:=cu (by lia)
  have hkv:kvs[i]?=some kvs[i]:=bh hlt
  obtain ⟨p,ek,hp,rv⟩:=hen i _ _ hx hkv
  refine dM lh ?_;rw [dj dJ _]
  show wpAny _ A.in1 (pyNext (.ref it) >>= _) _ _ s
  obtain ⟨f0,f1,f2,f3,f4,f5⟩:=id hf
  have ho0':(o0=.none∧f=false)∨∃ (a:Addr) (oa:Obj),o0=rawInt (a:Nat)∧s.heap.get? a=some oa∧a≠it:=by
   rcases ho0 with z | ⟨a,oa,z1,z2,z3,_⟩
   ·exact .inl z
   ·exact .inr ⟨a,oa,z1,z2,z3⟩
  refine bd (zby (A:=A.in1) hit rd hx ho0' fun h' o1 f1' k1 v1 hit' ho1 ht hz' kp own=>?_)
  have Sl:S < s.heap.objs.size:=by
   obtain ⟨_,_,_,_,e⟩:=(show ObjOk X.prog X.w Hi s.heap S (.lst ys) from I.hok S _ hy)
   exact bS e
  have tn:s.heap.objs.size≠it:=dY (bS hit)
  have hTn:Hi s.heap.objs.size=none:=I.hok.fresh (bo _)
  have STn:S≠s.heap.objs.size:=ck Sl
  generalize hT:s.heap.objs.size=T at *
  have I6:Inv X pins σ (upd Hi T (.tup [.ref p,kvs[i].2])) { s with heap:=s.heap.push { cls:=.type "tuple",data:=.seq #[es[i].key,es[i].val] } } :=
   I.laid (a:=T) (o:=.tup [.ref p,kvs[i].2]) (t':=s.toks) (fun b u e=>bi _ e) (by rw [hT];exact bo _) ⟨by show 2≤sizeLine;decide,[es[i].key,es[i].val],.cons (by rw [ek];exact rfl) (.cons rv .nil),⟨_,by rw [← hT];exact bD _ rfl,rfl,_,rfl⟩⟩
  have S6:Same Hi (upd Hi T (.tup [.ref p,kvs[i].2])):=isV T hTn
  have I7:Inv X pins σ (upd Hi T (.tup [.ref p,kvs[i].2])) { s with heap:=h' }:=I6.turned (s:={ s with heap:=s.heap.push { cls:=.type "tuple",data:=.seq #[es[i].key,es[i].val] } }) (t':=s.toks) (fun b o hb e=>by
   rcases mS (show (s.heap.push { cls:=.type "tuple",data:=.seq #[es[i].key,es[i].val] }).get? b=some o from e) with ⟨rfl,rfl⟩ | e
   ·rw [hT];exact ht
   ·exact kp b o hb e) (by rw [zj (cK tn)];exact f0) f1 f3 f4 f5
  have hy7:(upd Hi T (.tup [.ref p,kvs[i].2])) S=some (.lst ys):=S6 _ _ hy
  obtain ⟨z,its,n,r,hl,e⟩:=I7.lstM hy7
  have yl:ys.length=i:=by
   have:=b5 pr
   rw [cM] at this
   lia
  show wpAny _ A.in1 (updateSeq S (·.push (bJ T)) >>= _) _ _ _
  have e':h'.get? S=some { cls:=.type "list",data:=.seq its.toArray n }:=e
  refine bd (iP (s:={ s with heap:=h' }) e' rfl ?_ (by rw [bM,← r.length,yl];exact bU (by lia:i≤1000) (by decide)) (by rw [cp,bM,← r.length,yl];exact bU (by lia:i + 1≤1001) (by decide)))
  have I8:=I7.lset (f:=fun xs=>xs.push (bJ T)) (t':=s.toks) (its':=its ++ [bJ T]) hy7 e' (by simp) (r.append (.cons (show RelV (.ref T) (.ref T) from rfl) .nil)) (by rw [bz,yl];exact bU (by show i + 1≤1001;lia) (by decide))
  have up:∀ b o,b≠S→h'.get? b=some o→(h'.update S (cE (·.push (bJ T)))).get? b=some o:=fun b o hb z=>(cV _ _ (cK hb)).trans z
  have dS:d≠S:=zJ hd hS
  have tS:∀ b zs,Hi b=some (.tup zs)→(upd (upd Hi T (.tup [.ref p,kvs[i].2])) S (.lst (ys ++ [.ref T]))) b=some (.tup zs):=fun b zs z=>by
   rw [zj (yQ z hy (by intro z;cases z))];exact S6 _ _ z
  have ri:∀ {a b:Nat},(rawInt (a:Int):Value)=rawInt (b:Int)→a=b:=fun {a b} z=>by
   have z':(fj (a:Int) 0:Value)=fj (b:Int) 0:=z
   have z'':(a:Int)=(b:Int):=by injection z'
   exact nJ z''
  refine bj ⟨fS dJ _,ih (i + 1) _ _ (ys ++ [.ref T]) o1 k1 v1 f1' (by lia) hlt I8 (fun b o z=>?_) ze ?_ (rd.at fun o z=>up d o dS (kp d o dit z)) (up it _ (cK Sit) hit') ?_ ⟨?_,f1,f2,f3,f4,f5⟩⟩
  ·rw [zj (zJ z hS)];exact S6 _ _ (sm _ _ z)
  ·rw [eh,hkv]
   exact Ji (Jh tS pr) ⟨T,p,rfl,by rw [zj (cK STn),ze],tS _ _ (sm _ _ hp)⟩
  ·rcases ho1 with z | ⟨a,oa,z1,z2,z3⟩
   ·exact .inl z
   ·have aS:a≠S:=by
     rcases own a z1 with z | z
     ·rw [z];exact cK STn
     ·rcases ho0 with ⟨y1,_⟩ | ⟨a',oa',y1,_,_,y4⟩
      ·rw [y1] at z;cases z
      ·rw [y1] at z
       rw [← ri z];exact y4
    exact .inr ⟨a,oa,z1,up a _ aS z2,z3,aS⟩
  ·rw [zj (cK Sit),zj (cK tn)];exact f0
end
end L2
namespace L2
open PySem PySem.Spec PyProof.Rows
abbrev zbA:RC:=fun vs H Q=>∃ r d kvs,vs=[.ref r]∧H r=some (j8 r d)∧H d=some (.dT kvs)∧kvs.length≤1000∧∀ l ys H',Same H H'→H l=none→H' l=some (.lst ys)→Paired (Zo H') ys kvs→Q (.ref l) H'
theorem zdc {P:Program} {w:World} {H:Hp} {h:Heap} {r d:Addr} (k:HOk P w H h) (e:H r=some (j8 r d)):h.IsItemsView r d:=(k r _ e).1
theorem zdd {H:Hp}:∀ {kvs:List (List Key × V)} {xs:List (List Key × Addr × Value)},Paired (fun (p:List Key × V) (q:List Key × Addr × Value)=>p.1=q.1∧H q.2.1=some (.tup (p.1.map kV))∧RelV p.2 q.2.2) kvs xs→∀ {i:Nat} {kv:List Key × V} {x:List Key × Addr × Value},kvs[i]?=some kv→xs[i]?=some x→H x.2.1=some (.tup (kv.1.map kV))∧RelV kv.2 x.2.2 :=
 fun {_ _} h {_ _ _} e1 e2=>(yg h e1 e2).2
section
variable {X:Cx}
theorem zet {pins:List (Addr × Obj)} {σ:St} {H:Hp} {s:Shared} {d:Addr} {kvs:List (List Key × V)} (I:Inv X pins σ H s) (e:H d=some (.dT kvs)):∃ es ep,RawD s.heap d es ep∧es.size=kvs.length ∧
  ∀ (i:Nat) (en:DictEntry) (kv:List Key × V),es[i]?=some en→kvs[i]?=some kv→∃ p,en.key=.ref p∧H p=some (.tup (kv.1.map kV))∧RelV kv.2 en.val:=by
 obtain ⟨z,hd,xs,rel,o,es,ep,h1,h2,h3,h4,_⟩:=(show ObjOk X.prog X.w H s.heap d (.dT kvs) from I.hok d _ e)
 have l1:es.size=xs.length:=by rw [← ci,h4,bt]
 refine ⟨es,ep,⟨o,h1,h2,h3⟩,by rw [l1,← b5 rel],fun i en kv e1 e2=>?_⟩
 have e3:es.toList[i]?=some en:=by rw [dq];exact e1
 rw [h4,bN] at e3
 obtain ⟨x,hx,rfl⟩:=cW.mp e3
 obtain ⟨g1,g2⟩:=zdd rel e2 hx
 exact ⟨x.2.1,rfl,g1,g2⟩
theorem Wu {A:Around} {R:Result→Shared→Prop} {pins:List (Addr × Obj)} {σ:St} {H:Hp} {s:Shared} {S r d:Addr} {kvs:List (List Key × V)} {res:Value} {c:Nat} (hh:A.handled=none) (hS:H S=none) (hr:H r=some (j8 r d)) (hd:H d=some (.dT kvs)) (hl:kvs.length≤1000)
  (I2:Inv X pins σ (upd H S (.lst [])) s) (T2:s.heap.get? S=some { cls:=.type "list",data:=.seq #[] c }) (hR:∀ s' H' ys,Inv X pins σ H' s'→Same H H'→H' S=some (.lst ys)→Paired (Zo H') ys kvs→R (.ok (.ret res)) s') :
  wpAny (model X.prog X.w) A.in1 (c9 (.ref S) (.ref r) res) (fun fin s'=>match fin with | .done f=>R (.ok f) s' | .again c'=>c'.quiet=true∧codeAny (model X.prog X.w) A c' R s') (fun e s'=>R (.error e) s') s:=by
 have Sr:r≠S:=zJ hr hS
 have Sd:d≠S:=zJ hd hS
 have SS:Same H (upd H S (.lst [])):=isV S hS
 obtain ⟨es,ep,rd,hes,hen0⟩:=zet I2 (SS _ _ hd)
 have hen:∀ (i:Nat) (en:DictEntry) (kv:List Key × V),es[i]?=some en→kvs[i]?=some kv→∃ p,en.key=.ref p∧H p=some (.tup (kv.1.map kV))∧RelV kv.2 en.val:=fun i en kv e1 e2=>by
  obtain ⟨p,g1,g2,g3⟩:=hen0 i en kv e1 e2
  refine ⟨p,g1,?_,g3⟩
  by_cases hp:p=S
  ·rw [hp,ze] at g2;cases g2
  ·rwa [zj hp] at g2
 have vw:=zdc I2.hok (SS _ _ hr)
 unfold c9
 refine bd (om (T:="dict_items") vw.typeIs ?_)
 have c1:lJ (.ref S) (.ref r)=false:=by simp [lJ,cK Sr]
 have c2:(fM "dict_items" == fM "list")=false:=by decide
 have c3:(fM "dict_items" == fM "tuple")=false:=by decide
 simp only [c1,c2,c3,Bool.or_false,cb,if_false]
 refine bd (Jg vw rd ?_)
 have ni:(upd H S (.lst [])) s.heap.objs.size=none:=I2.hok.fresh (bo _)
 have fp:jZ X pins (upd H S (.lst [])) s.heap.objs.size:=I2.fpOk (bo _) ni
 have Si:S≠s.heap.objs.size:=ck (bS T2)
 have di:d≠s.heap.objs.size:=ck rd.lt
 have I3:Inv X pins σ (upd H S (.lst [])) { s with heap:=s.heap.push { cls:=.type "dict_itemiterator",data:=.fields #[.none,.bool false,.ref d,.int 0 0,.int es.size 0,.int ep 0,.none,.none] } }:=I2.kept (t':=s.toks) fun b o e=>bi _ e
 have T3:=bi { cls:=.type "dict_itemiterator",data:=.fields #[.none,.bool false,.ref d,.int 0 0,.int es.size 0,.int ep 0,.none,.none] } T2
 have it3:ItA (s.heap.push { cls:=.type "dict_itemiterator",data:=.fields #[.none,.bool false,.ref d,.int 0 0,.int es.size 0,.int ep 0,.none,.none] }) s.heap.objs.size d 0 es.size ep .none false .none .none:=bD _ rfl
 have rd3:RawD (s.heap.push { cls:=.type "dict_itemiterator",data:=.fields #[.none,.bool false,.ref d,.int 0 0,.int es.size 0,.int ep 0,.none,.none] }) d es ep:=rd.at fun o e=>bi _ e
 have vw3:(s.heap.push { cls:=.type "dict_itemiterator",data:=.fields #[.none,.bool false,.ref d,.int 0 0,.int es.size 0,.int ep 0,.none,.none] }).IsItemsView r d:=let ⟨o,ho,x⟩:=vw;⟨o,bi _ ho,x⟩
 generalize hh3:s.heap.push { cls:=.type "dict_itemiterator",data:=.fields #[.none,.bool false,.ref d,.int 0 0,.int es.size 0,.int ep 0,.none,.none] }=h3 at *
 generalize s.heap.objs.size=it at *
 refine bd (df (W.kdx_hint vw3.typeIs ?_))
 have fin:∀ (h4:Heap) (tk:Nat) (R:Result→Shared→Prop),(∀ s' H' ys,Inv X pins σ H' s'→Same H H'→H' S=some (.lst ys)→Paired (Zo H') ys kvs→R (.ok (.ret res)) s')→Inv X pins σ (upd H S (.lst [])) { s with heap:=h4,toks:=tk }→RawD h4 d es ep→ItA h4 it d 0 es.size ep .none false .none .none →
   codeAny (model X.prog X.w) A (.builtin "list.extend.loop" ⟨[.ref S,.ref it,res],[]⟩) R { s with heap:=h4,toks:=tk }:=fun h4 tk R hR I4 rd4 it4 =>
  zbz (A:=A) (H:=H) (es:=es) (ep:=ep) hh hS hd Si di hl hes hen hR kvs.length 0 _ (upd H S (.lst [])) [] .none .none .none false (og _) (b8 _) I4 SS ze .nil rd4 it4 (.inl ⟨rfl,rfl⟩) fp
 refine wpAny_ite_split (fun _=>?_) (fun _=>bj ⟨fS dJ _,fin h3 s.toks _ hR I3 rd3 it3⟩)
 refine bd (gM ?_);refine bd ?_
 show wpAny _ _ (updateSeq S (·.push .none) >>= fun _=>updateSeq S (·.pop)) _ _ _;refine bd (iP T3 rfl ?_)
 have T4:=gY (cE (·.push cy)) T3 rfl
 refine iP (hz:=by seq_fits) T4 rfl ?_
 have I4:=I3.lset (f:=fun xs=>xs.push cy) (its:=[]) (its':=[cy]) (ys:=[V.non]) (t':=s.toks) ze T3 rfl (.cons rfl .nil) (by show 1≤sizeLine;decide)
 have I5:=I4.lset (f:=fun xs=>xs.pop) (its:=[cy]) (its':=[]) (ys:=[]) (t':=s.toks) ze T4 rfl .nil (b8 _)
 rw [Yv,Yv] at I5
 have oth:∀ b o,b≠S→h3.get? b=some o→((h3.update S (cE (·.push cy))).update S (cE (·.pop))).get? b=some o:=fun b o hb e=>(cV _ _ (cK hb)).trans ((cV _ _ (cK hb)).trans e)
 exact bj ⟨fS dJ _,fin _ s.toks _ hR I5 (rd3.at fun o e=>oth d o Sd e) (oth it _ (cK Si) it3)⟩
theorem Yk (hc:X.calm=true):wR X (.type "list") zbA:=by
 intro pins s σ H vs us Q I r0 h
 obtain ⟨r,d,kvs,rfl,hr,hd,hl,q⟩:=h
 obtain ⟨u,rfl,ru⟩:=Za r0
 cases ru
 have hh:X.A.handled=none:=I.ok.hd hc
 refine callType_codes (Q₁:=fun obj s₁=>obj=.ref s.heap.objs.size∧s₁={ s with heap:=s.heap.push { cls:=.type "list",data:=.seq #[] } }) PySem.F.called_list (PySem.F.typeCall_list_1 _) PySem.F.entry_list_init (code_list_new _ ⟨rfl,rfl⟩) ?_;rintro obj s₁ ⟨rfl,rfl⟩
 have hS:H s.heap.objs.size=none:=I.hok.fresh (bo _)
 have I1:Inv X pins σ (upd H s.heap.objs.size (.lst [])) { s with heap:=s.heap.push { cls:=.type "list",data:=.seq #[] } }:=I.lnew (its:=[]) (t':=s.toks) .nil (b8 _)
 have T0:(s.heap.push { cls:=.type "list",data:=.seq #[] }).get? s.heap.objs.size=some { cls:=.type "list",data:=.seq #[] }:=bD _ rfl
 generalize hT:s.heap.objs.size=S at *
 refine ⟨⟨_,T0,rfl⟩,PySem.F.args_list_init_2 _ _,?_⟩
 show wpAny _ _ (do let old ← ml (.ref S);Builtin.List.listUpdate (.ref S) (fun _=>#[]);letGo old.toList.reverse;c9 (.ref S) (.ref r) .none) _ _ _
 refine bd ?_;unfold ml;refine bd (wpAny_seqItems T0 rfl (bj ?_))
 show wpAny _ _ (updateSeq S (fun _=>#[]) >>= fun _=>letGo (#[]:Array Value).toList.reverse >>= fun _=>c9 (.ref S) (.ref r) .none) _ _ _
 refine bd (iP T0 rfl ?_)
 have I2:=I1.lset (f:=fun _=>(#[]:Array Value)) (its:=[]) (its':=[]) (ys:=[]) (t':=s.toks) ze T0 rfl .nil (b8 _)
 rw [Yv] at I2
 have T2:=gY (cE (fun _=>(#[]:Array Value))) T0 rfl
 refine bd (wpAny_letGo ?_)
 generalize hh2:(s.heap.push { cls:=.type "list",data:=.seq #[] }).update S (cE (fun _=>(#[]:Array Value)))=h2 at *
 exact Wu (A:=X.A.in1) (H:=H) hh hS hr hd hl I2 T2 fun s' H' ys I' sm hy pr=>⟨rfl,.ref S,H',I',rfl,q S ys H' sm hS hy pr⟩
end
end L2
namespace L2
open PySem PySem.Spec PyProof.Rows PySem.W
section
variable {X:Cx}
theorem Ks {A:Around} {E:Value→Shared→Prop} {R:List Value→Shared→Prop} {pins:List (Addr × Obj)} {σ:St} {H:Hp} {s:Shared} {r d:Addr} {kvs:List (List Key × V)} (hh:A.handled=none) (hr:H r=some (j8 r d)) (hd:H d=some (.dT kvs)) (hl:kvs.length≤1000) (I:Inv X pins σ H s)
  (h:∀ s1 H' ys us,Inv X pins σ H' s1→Same H H'→Paired (Zo H') ys kvs→Vals ys us→R us s1):wpAny (model X.prog X.w) A (collect (.ref r)) R E s:=by
 have hS:H s.heap.objs.size=none:=I.hok.fresh (bo _)
 have I1:Inv X pins σ (upd H s.heap.objs.size (.lst [])) { s with heap:=s.heap.push { cls:=.type "list",data:=.seq ([]:List Value).toArray } }:=I.lnew (its:=[]) (t':=s.toks) .nil (b8 _)
 have T1:(s.heap.push { cls:=.type "list",data:=.seq ([]:List Value).toArray }).get? s.heap.objs.size=some { cls:=.type "list",data:=.seq #[] }:=bD _ rfl
 unfold collect;refine bd (wpAny_runValue (dM mR ?_));rw [dj iO _]
 show wpAny _ A.in1 (newList [] >>= fun l=>again (.builtin "list.__iadd__" ⟨[l,.ref r],[]⟩)) _ _ s;refine bd (cU ?_)
 refine bj ⟨fS fc _,dM entry_list_iadd' ?_⟩;rw [dj fc _]
 generalize s.heap.objs.size=S at *
 show wpAny _ A.in1 (c9 (.ref S) (.ref r) (.ref S)) _ _ _
 have key:=Wu (A:=A) (R:=fun (q:Result) (s':Shared)=>∃ H' ys,q=.ok (.ret (.ref S))∧Inv X pins σ H' s'∧Same H H'∧H' S=some (.lst ys)∧Paired (Zo H') ys kvs) (res:=.ref S) hh hS hr hd hl I1 T1 fun s' H' ys I' sm hy pr=>⟨H',ys,rfl,I',sm,hy,pr⟩
 have fin:∀ s':Shared,(∃ H' ys,Inv X pins σ H' s'∧Same H H'∧H' S=some (.lst ys)∧Paired (Zo H') ys kvs)→wpAny (model X.prog X.w) A (load S >>= fun o=>match o.data with | .seq xs _=>pure xs.toList | _=>unsupported "internal:collect") R E s':=fun s' ⟨H',ys,I',sm,hy,pr⟩=>by
  obtain ⟨z,its,n,rv,hl',e⟩:=I'.lstM hy
  refine bd (mJ e ?_)
  refine bj ?_
  exact h s' H' ys its I' sm pr rv
 refine cG key (fun f s' x=>?_) fun e s' x=>?_
 ·cases f with
  | done f =>
   obtain ⟨H',ys,e,x⟩:=x
   cases e
   exact fin s' ⟨H',ys,x⟩
  | again c₁ =>
   refine ⟨x.1,eW x.2 fun q s₂ y=>?_⟩
   obtain ⟨H',ys,rfl,y⟩:=y
   exact fin s₂ ⟨H',ys,y⟩
 ·obtain ⟨_,_,e',_⟩:=x
  cases e'
end
section
variable {P:Program} {w:World} {A:Around} {E:Value→Shared→Prop} {s:Shared}
theorem zbB {x y:Addr} {a b:Str × Int} {Q:Bool→Shared→Prop} (hu:A.units < cLine) (hx:PlAt s.heap (.ref x) a) (hy:PlAt s.heap (.ref y) b) (h:Q (zY a b) s):wpAny (model P w) A (oneLt' false (.ref x) (.ref y)) Q E s:=by
 obtain ⟨p,o,t,u,n,e1,ho,hc,hd⟩:=hx
 obtain ⟨p2,o2,t2,u2,n2,e2,ho2,hc2,hd2⟩:=hy
 cases e1
 cases e2
 obtain ⟨c,dd,dat,sl⟩:=o
 obtain ⟨c2,dd2,dat2,sl2⟩:=o2
 simp only at hc hd hc2 hd2
 subst hc hd hc2 hd2
 have T1:s.TypeIs (.ref x) "tuple":=⟨_,ho,rfl⟩
 have T2:s.TypeIs (.ref y) "tuple":=⟨_,ho2,rfl⟩
 refine kat_one _ _ ?_
 show wpAny _ _ (richCompare .Lt (.ref x) (.ref y)) _ _ _
 refine wpAny_richCompare_same_room T1 T2 mH ?_ hu
 exact lB mH T1 PySem.F.entry_tuple_lt (PySem.F.args_tuple_lt_2 _ _) (Y0 x y a.1 b.1 a.2 b.2 t u t2 u2 n n2 dd dd2 sl sl2) ⟨ho,ho2,by simp,h⟩
theorem zbC {h:Heap} {x:Addr} {a:Str × Int} (hx:PlAt h (.ref x) a):IsTupleKey (yz P w) h (zM a) x:=by
 obtain ⟨p,o,t,u,n,e1,ho,hc,hd⟩:=hx
 cases e1
 exact ⟨o,_,n,ho,hc,hd,ZA (ks:=zM a) (.cons ⟨t,rfl⟩ (.cons ⟨u,rfl⟩ .nil))⟩
def RvAt (h:Heap) (v:Value) (q:Row):Prop:=∃ a o p t n,v=.ref a∧h.get? a=some o∧o.cls=.type "tuple"∧o.data=.seq #[.ref p,.int q.2 t] n∧PlAt h (.ref p) q.1
theorem RvAt.keep {h h':Heap} {v:Value} {q:Row} (x:RvAt h v q) (k:∀ b o,h.get? b=some o→h'.get? b=some o):RvAt h' v q:=by
 obtain ⟨a,o,p,t,n,e,ho,hc,hd,hp⟩:=x
 exact ⟨a,o,p,t,n,e,k _ _ ho,hc,hd,hp.keep k⟩
theorem Qs {x y:Value} {a b:Row} {Q:Bool→Shared→Prop} (hu:A.units < cLine) (hx:RvAt s.heap x a) (hy:RvAt s.heap y b) (h:Q (zY a.1 b.1) s) (hn:a.1≠b.1):wpAny (model P w) A (keyLt' (tuples' false) x y) Q E s:=by
 obtain ⟨p,o,pp,t,n,rfl,ho,hc,hd,hp⟩:=hx
 obtain ⟨p2,o2,pp2,t2,n2,rfl,ho2,hc2,hd2,hp2⟩:=hy
 refine kat_lt ho hd ho2 hd2 (kat_cons (wpAny_eqBool_tuple (knd:=yz P w) hu (zbC hp) (zbC hp2) (kat_go (fun e=>?_) fun e=>kat_no ?_)))
 ·exact absurd (xv (of_decide_eq_true e)) hn
 ·exact zbB hu hp hp2 h
theorem Jj {vs:List Value} {qs:List Row} {Q:SortKind→Shared→Prop} (hl:vs.length=qs.length) (hv:∀ (i:Nat) (v:Value) (q:Row),vs[i]?=some v→qs[i]?=some q→RvAt s.heap v q) (h2:0 < vs.length) (h:Q (tuples' false) s) :
  wpAny (model P w) A (keyKind' vs.toArray) Q E s:=by
 have T:∀ (vs:List Value) (qs:List Row),vs.length=qs.length→(∀ (i:Nat) (v:Value) (q:Row),vs[i]?=some v→qs[i]?=some q→RvAt s.heap v q)→∃ fs,KatTups s.heap vs fs∧fs.length=vs.length∧∀ v∈fs,∃ p o,v=bJ p∧s.heap.get? p=some o∧o.cls=.type "tuple":=by
  intro vs
  induction vs with
  | nil=>exact fun qs _ _=>⟨[],trivial,rfl,fun _ z=>nomatch z⟩
  | cons v r ih =>
   intro qs hl hv
   match qs,hl with
   | q :: qr,hl =>
    obtain ⟨fs,k,kl,kf⟩:=ih qr (by simpa using hl) fun i v' q' e1 e2=>hv (i + 1) v' q' (by simpa using e1) (by simpa using e2)
    obtain ⟨a,o,p,t,n,rfl,ho,hc,hd,hp⟩:=hv 0 v q rfl rfl
    refine ⟨.ref p :: fs,oX ho hc hd rfl k,by simp [kl],fun z hz=>?_⟩
    rcases bR.mp hz with rfl | hz
    ·obtain ⟨p',o',_,_,_,e,g1,g2,_⟩:=hp
     cases e
     exact ⟨_,o',rfl,g1,g2⟩
    ·exact kf z hz
 obtain ⟨fs,k,kl,kf⟩:=T vs qs hl hv
 refine kat_kind (T:=.type "tuple") k (by lia) (fun v hv=>?_) (by decide) h
 obtain ⟨p,o,rfl,g1,g2⟩:=kf v hv
 exact g2 ▸ (lG g1).andThen .now
theorem Vg {l:Addr} {κ:SortKind} {Q:Value→Shared→Prop} (G:List Value→(Nat→Nat→Bool)→Shared→Prop)
  (coll:∀ R:List Value→Shared→Prop,(∀ vs lt s1,G vs lt s1→R vs s1)→wpAny (model P w) A.in1 (collect (.ref l)) R E s)
  (h64:∀ vs lt s1,G vs lt s1→vs.length < 64∧SO lt vs.length)
  (hk:∀ vs lt s1,G vs lt s1→2≤vs.length→∀ (h:Heap) (Q:SortKind→Shared→Prop),(∀ b o,s1.heap.get? b=some o→h.get? b=some o)→Q κ { s1 with heap:=h }→wpAny (model P w) A.in1.in1 (keyKind' vs.toArray) Q (fun _ _=>False) { s1 with heap:=h })
  (hc:∀ vs lt s1,G vs lt s1→∀ (h:Heap) i j C,(∀ b o,s1.heap.get? b=some o→h.get? b=some o)→i < vs.length→j < vs.length→i≠j→C (lt i j) { s1 with heap:=h }→kas_ask P w A.in1.in1 κ vs i j C { s1 with heap:=h })
  (fin:∀ vs lt s1,G vs lt s1→∀ (h':Heap) (p:Array Nat) (c:Nat),(∀ b o,s1.heap.get? b=some o→h'.get? b=some o)→h'.get? s1.heap.objs.size=some (seqObj "list" (xl vs p).toArray c)→PP vs.length p→v9 lt p vs.length→Q (.ref s1.heap.objs.size) { s1 with heap:=h' }) :
  wpAny (model P w) A (call (.builtin "sorted") [.ref l]) Q E s:=by
 refine fW kind_sorted oh oi (oj _) ?_;unfold Builtin.«sorted»
 refine bd (m:=checkCount "sorted" 1 1 _) (bj ?_);refine bd (coll _ fun vs lt s1 g=>?_)
 obtain ⟨l64,S⟩:=h64 vs lt s1 g
 refine bd (iu ?_ (by rw [c7];lia))
 have hoL:(s1.heap.push (seqObj "list" vs.toArray 0)).get? s1.heap.objs.size=some (seqObj "list" vs.toArray 0):=bD _ rfl
 have kept:∀ h',Kp s1.heap.objs.size (s1.heap.push (seqObj "list" vs.toArray 0)) h'→∀ b o,s1.heap.get? b=some o→h'.get? b=some o:=fun h' k b o e=>k b o (ck (bS e)) (bi _ e)
 refine bd (df (cO mT ⟨_,hoL,rfl⟩ mF (YY (s:={ s1 with heap:=s1.heap.push (seqObj "list" vs.toArray 0) }) hoL l64 (κ:=κ) (lt:=lt) (fun h2 h' Q' k q=>?_) (fun h' i j C k hi hj hij q=>?_) S fun h' p c k ho hp hr=>?_) (mU _)))
 ·exact hk vs lt s1 g h2 h' Q' (kept h' k) q
 ·exact hc vs lt s1 g h' i j C (kept h' k) hi hj hij q
 ·exact ⟨_,rfl,bj ⟨_,rfl,fin vs lt s1 g h' p c (kept h' k) ho hp hr⟩⟩
end
end L2
namespace L2
open PySem PySem.Spec PyProof.Rows PySem.W
def d0:Row:=(("",0),0)
theorem zbD (rows:List Row):∃ its:List Row,dOf rows=its.map (fun q=>(zM q.1,V.int q.2))∧(its.map (·.1)).Nodup∧∀ p w,(p,w)∈its↔zN rows p=some w:=by
 have h:=je rows
 have:∀ (kvs:List (List Key × V)),(∀ kv∈kvs,∃ (p:Pl) (w:Int),kv=(zM p,.int w))→∃ its:List Row,kvs=its.map (fun q=>(zM q.1,V.int q.2)):=fun kvs=>by
  induction kvs with
  | nil=>exact fun _=>⟨[],rfl⟩
  | cons kv r ih =>
   intro hk
   obtain ⟨qs,e⟩:=ih fun z hz=>hk z (bB _ hz)
   obtain ⟨p,w,e2⟩:=hk kv bF
   exact ⟨(p,w) :: qs,by rw [bW,← e,e2]⟩
 obtain ⟨its,e⟩:=this _ h.2
 refine ⟨its,e,?_,fun p w=>?_⟩
 ·have:=h.1
  rw [e,dD] at this
  refine x6 (f:=zM) ?_
  rw [dD]
  exact this
 ·have m:=mem_dOf (rows:=rows) (kv:=(zM p,V.int w))
  constructor
  ·intro hm
   obtain ⟨p',w',e1,e2⟩:=m.mp (by rw [e];exact cm.mpr ⟨_,hm,rfl⟩)
   have e3:=xv (lV e1).1
   have e4:=V.int.inj (lV e1).2
   rw [e3,e4];exact e2
  ·intro hw
   have hm:=m.mpr ⟨p,w,rfl,hw⟩
   rw [e] at hm
   obtain ⟨q,hq,e1⟩:=cm.mp hm
   have e3:=xv (lV e1).1
   have e4:=V.int.inj (lV e1).2
   rw [← e3,← e4];exact hq
theorem qK {α:Type} (l:List α) (d:α):(bZ l.length).map (fun i=>l.getD i d)=l:=by
 apply fR
 intro i
 rw [bN]
 by_cases hi:i < l.length
 ·rw [iK hi,bh hi]
  simp [bp,bh hi]
 ·rw [cR (by simpa using hi),cR (by lia)]
  rfl
theorem PP.list {n:Nat} {p:Array Nat} (h:PP n p):p.toList.Perm (bZ n):=by
 have:=fT.mp h
 simpa using this
theorem PP.lt {n:Nat} {p:Array Nat} (h:PP n p):∀ i∈p.toList,i < n:=fun i hi=>by
 have:=h.list.mem_iff.mp hi
 simpa using this
theorem qL {α:Type} {F:α→α→Bool} {l:List α} {d:α} {n:Nat} {p:Array Nat} (hp:PP n p) (hr:v9 (fun i j=>F (l.getD i d) (l.getD j d)) p n):(p.toList.map fun i=>l.getD i d).Pairwise fun a b=>F a b=true:=by
 rw [eA,lf]
 intro i j hi hj hij
 rw [ci] at hi hj
 have g1:=v7 hi
 have g2:=v7 hj
 have sz:=hp.size
 have r:=hr i j hij (by lia)
 have x1:p.toList[i]=gt p i:=by
  rw [cu hi] at g1
  simpa using g1
 have x2:p.toList[j]=gt p j:=by
  rw [cu hj] at g2
  simpa using g2
 rw [x1,x2];exact r
theorem xw {α β:Type} {F:α→β→Prop} {l₁:List α} {l₂:List β} (h:Paired F l₁ l₂) (a:α) (b:β):∀ {is:List Nat},(∀ i∈is,i < l₁.length)→Paired F (is.map fun i=>l₁.getD i a) (is.map fun i=>l₂.getD i b)
 | [],_=>.nil
 | i :: r,hi=>by
  have l:=b5 h
  have h1:=hi i bF
  refine .cons ?_ (xw h a b fun j hj=>hi j (bB _ hj))
  show F (l₁.getD i a) (l₂.getD i b)
  have e1:=bh h1
  have e2:l₂[i]?=some l₂[i]:=bh (by lia)
  rw [bp,bp,e1,e2]
  exact yg h e1 e2
abbrev Jk:RC:=fun vs H Q=>∃ r d rows,vs=[.ref r]∧H r=some (j8 r d)∧H d=some (.dT (dOf rows))∧(dOf rows).length < 64 ∧
 ∀ l ys srt H',Same H H'→H l=none→H' l=some (.lst ys)→Paired (PrAt H') ys srt→Rising srt→(∀ p w,(p,w)∈srt↔zN rows p=some w)→Q (.ref l) H'
theorem zbE {H:Hp}:∀ {ys:List V} {its:List Row},Paired (Zo H) ys (its.map fun q=>(zM q.1,V.int q.2))→Paired (PrAt H) ys its
 | _,[],h=>by cases h;exact .nil
 | _,q :: r,h=>by
  rw [bW] at h
  cases h with
  | cons a t=>exact .cons a (zbE t)
section
variable {X:Cx}
theorem zd1 {pins:List (Addr × Obj)} {σ:St} {H:Hp} {s:Shared} {v:V} {u:Value} {q:Row} (I:Inv X pins σ H s) (h:PrAt H v q) (r:RelV v u):RvAt s.heap u q:=by
 obtain ⟨a,p,rfl,h1,h2⟩:=h
 cases r
 obtain ⟨_,its,rv,o,o1,o2,n,o3⟩:=(show ObjOk X.prog X.w H s.heap a (.tup [.ref p,.int q.2]) from I.hok a _ h1)
 cases rv with
 | cons r1 rr =>
  cases rr with
  | cons r2 rn =>
   cases rn
   cases r1
   obtain ⟨t,rfl⟩:=r2
   exact ⟨a,o,p,t,n,rfl,o1,o2,o3,Ja I h2⟩
theorem vo (hc:X.calm=true) (hu:X.A.units + 3 < cLine):wR X (.builtin "sorted") Jk:=by
 intro pins s σ H vs us Q I r0 h
 obtain ⟨r,d,rows,rfl,hr,hd,h64,q⟩:=h
 obtain ⟨u,rfl,ru⟩:=Za r0
 cases ru
 have hh:X.A.handled=none:=I.ok.hd hc
 obtain ⟨its,ei,nd,mi⟩:=zbD rows
 have li:(dOf rows).length=its.length:=by rw [ei,bt]
 have so:=qG nd
 have vat:∀ {s1:Shared} {H':Hp} {ys:List V} {vs:List Value},Inv X pins σ H' s1→Paired (PrAt H') ys its→Vals ys vs→∀ (i:Nat) (q:Row),its[i]?=some q→∃ v,vs[i]?=some v∧RvAt s1.heap v q:=fun {s1 H' ys vs} I' pr rv i q hq=>by
  have hi:=(bC.mp hq).1
  have l1:=b5 pr
  obtain ⟨y,hy⟩:∃ y,ys[i]?=some y:=⟨_,bh (by lia)⟩
  obtain ⟨u,hu',ru⟩:=rv.get hy
  exact ⟨u,hu',zd1 I' (yg pr hy hq) ru⟩
 refine Vg (κ:=tuples' false) (fun vs lt s1=>∃ H' ys,Inv X pins σ H' s1∧Same H H'∧Paired (PrAt H') ys its∧Vals ys vs∧lt=fun i j=>zY ((its.map (·.1)).getD i (("",0):Pl)) ((its.map (·.1)).getD j (("",0):Pl)))
  (fun R hR=>Ks (A:=X.A.in1) hh hr hd (by lia) I fun s1 H' ys us I' sm pr rv=>hR us _ s1 ⟨H',ys,I',sm,zbE (by rw [← ei];exact pr),rv,rfl⟩) ?_ ?_ ?_ ?_
 ·rintro vs lt s1 ⟨H',ys,I',sm,pr,rv,rfl⟩
  have l1:=b5 pr
  have l2:=rv.length
  refine ⟨by lia,?_⟩
  rw [show vs.length=(its.map (·.1)).length by rw [bt];lia]
  exact so
 ·rintro vs lt s1 ⟨H',ys,I',sm,pr,rv,rfl⟩ h2 h Q' k q'
  have l1:=b5 pr
  have l2:=rv.length
  refine Jj (s:={ s1 with heap:=h }) (qs:=its) (by lia) (fun i v q hv hq=>?_) (by lia) q'
  obtain ⟨v',hv',rr⟩:=vat I' pr rv i q hq
  rw [hv] at hv'
  cases hv'
  exact rr.keep k
 ·rintro vs lt s1 ⟨H',ys,I',sm,pr,rv,rfl⟩ h i j C k hi hj hij q'
  have l1:=b5 pr
  have l2:=rv.length
  have e1:its[i]?=some its[i]:=bh (by lia)
  have e2:its[j]?=some its[j]:=bh (by lia)
  obtain ⟨v1,g1,r1⟩:=vat I' pr rv i _ e1
  obtain ⟨v2,g2,r2⟩:=vat I' pr rv j _ e2
  have n1:(its.map (·.1)).getD i (("",0):Pl)=its[i].1:=by rw [bp,bN,e1];rfl
  have n2:(its.map (·.1)).getD j (("",0):Pl)=its[j].1:=by rw [bp,bN,e2];rfl
  have m1:vs.getD i cy=v1:=by rw [bp,g1];rfl
  have m2:vs.getD j cy=v2:=by rw [bp,g2];rfl
  simp only [n1,n2] at q'
  have key:=Qs (P:=X.prog) (w:=X.w) (A:=X.A.in1.in1) (E:=fun _ _=>False) (s:={ s1 with heap:=h }) (Q:=C) (by have e:X.A.in1.in1.units=X.A.units + 2:=rfl;lia) (r1.keep k) (r2.keep k) q' fun z=>hij (by
   have e3:(its.map (·.1))[i]?=some its[i].1:=by rw [bN,e1];rfl
   have e4:(its.map (·.1))[j]?=some its[j].1:=by rw [bN,e2];rfl
   rw [z] at e3
   exact (nU (by rw [bt];lia) nd).mp (e3.trans e4.symm))
  rw [← m1,← m2] at key
  exact key
 ·rintro vs lt s1 ⟨H',ys,I',sm,pr,rv,rfl⟩ h' p c k hD hp hr
  have l1:=b5 pr
  have l2:=rv.length
  have hp':PP its.length p:=by rw [show its.length=vs.length by lia];exact hp
  have fr:H' s1.heap.objs.size=none:=I'.hok.fresh (bo _)
  have sz:=hp'.size
  have pk:=xw pr V.non d0 (is:=p.toList) fun i hi=>by have:=hp'.lt i hi;lia
  have vk:Vals (p.toList.map fun i=>ys.getD i V.non) (xl vs p):=xw rv V.non cy (is:=p.toList) fun i hi=>by have:=hp'.lt i hi;lia
  have I2:Inv X pins σ (upd H' s1.heap.objs.size (.lst (p.toList.map fun i=>ys.getD i V.non))) { s1 with heap:=h' }:=I'.laid (a:=s1.heap.objs.size) (o:=.lst (p.toList.map fun i=>ys.getD i V.non)) (t':=s1.toks) k (bo _)
   ⟨by rw [bt,ci];exact bU (by lia:_≤64) (by decide),xl vs p,c,vk,hD⟩
  have S2:Same H' (upd H' s1.heap.objs.size (.lst (p.toList.map fun i=>ys.getD i V.non))):=isV _ fr
  have hn:H s1.heap.objs.size=none:=by
   cases e:H s1.heap.objs.size with
   | none=>rfl
   | some o=>rw [sm _ _ e] at fr;cases fr
  have mono:∀ {us:List V} {ws:List Row},Paired (PrAt H') us ws→Paired (PrAt (upd H' s1.heap.objs.size (.lst (p.toList.map fun i=>ys.getD i V.non)))) us ws:=fun {us ws} h=>by
   induction h with
   | nil=>exact .nil
   | cons a _ ih =>
    obtain ⟨r,p,e,h1,h2⟩:=a
    exact .cons ⟨r,p,e,S2 _ _ h1,S2 _ _ h2⟩ ih
  refine ⟨.ref s1.heap.objs.size,_,I2,rfl,q _ _ (p.toList.map fun i=>its.getD i d0) _ (sm.trans S2) hn ze (mono pk) ?_ fun pl wv=>?_⟩
  ·have hr':v9 (fun i j=>zY ((its.map (·.1)).getD i (("",0):Pl)) ((its.map (·.1)).getD j (("",0):Pl))) p its.length:=by rw [show its.length=vs.length by lia];exact hr
   have pw:=qL (F:=zY) hp' hr'
   have eq:(p.toList.map fun i=>its.getD i d0).map (·.1)=p.toList.map fun i=>(its.map (·.1)).getD i (("",0):Pl):=by
    rw [dD]
    refine eC fun i hi=>?_
    have hi:=hp'.lt i hi
    simp [bp,bN,bh hi]
   rw [← eq,eA] at pw
   exact pw
  ·have pm:(p.toList.map fun i=>its.getD i d0).Perm its:=by
    refine (hp'.list.map _).trans ?_
    rw [qK]
   rw [pm.mem_iff]
   exact mi pl wv
end
end L2
namespace L2
open PySem PySem.Spec PyProof.Rows
def zbF (lo c:Int) (n:Nat):It:=⟨fun i _=>i < n,fun i H x H'=>H'=H∧x=.int (lo + i * c),fun i _=>n≤i⟩
theorem Jl {P:Program} {w:World} {K:bx} {tg:Expr} (it:Addr) (lo c:Int) (n:Nat):QQ P w K tg (zbF lo c n) [it] it (fun i h=>IsRangeIter h it (lo + (i:Nat) * c) ((n:Int) - (i:Nat)) c) where
 mem:=by simp
 obj:=fun i h st b hb=>by
  have e:b=it:=by simpa using hb
  subst e
  refine ⟨_,st,fun v z=>?_⟩
  have z':Data.fields _=Data.cell v:=z
  cases z'
 keep:=fun i h h' st k=>k it (by simp) _ st
 item:=by
  intro X hP hw hK hc i pins s σ H E I hf st hg;subst hP hw hK
  obtain ⟨f0,f1,f2,f3,f4,f5⟩:=hf it (by simp)
  refine (Walks.range (prog:=X.prog) (w:=X.w) (I.ok.hd hc) it lo c n).item i s _ _ hg st fun v h' tk hv st' kk=>?_
  obtain ⟨t,rfl⟩:=hv
  have I1:Inv X pins σ H { s with heap:=h',toks:=tk }:=I.turned (fun b o hb e=>kk b o (by simpa using hb) e) f0 f1 f3 f4 f5
  exact ⟨_,rfl,KQ (s:={ s with heap:=h',toks:=tk }) (n:="range_iterator") st' rfl rfl (by decide) ⟨.int (lo + i * c),H,I1,⟨t,rfl⟩,⟨rfl,rfl⟩,st',fun b hb=>(hf b hb).1⟩⟩
 done:=by
  intro X hP hw hK hc i pins s σ H E I hf st hg;subst hP hw hK
  obtain ⟨f0,f1,f2,f3,f4,f5⟩:=hf it (by simp)
  exact l8 (I.ok.hd hc) st (by have:n≤i:=hg;lia) fun h' eb=>⟨rfl,I.turned (t':=s.toks) (fun b o hb e=>eb b o hb e) f0 f1 f3 f4 f5⟩
 self:=fun _ _ _ _ _ st h=>l9 st h
def Y5 (i j c:Int):Nat:=if i < j then ((j - i - 1) / c + 1).toNat else 0
def zbG (ta:TA):TI:=fun σ H R=>ta σ H fun vs H1=>∃ i j c:Int,vs=[.int i,.int j,.int c]∧(0≤i∧i < 1073741824∧0≤j∧j < 1073741824∧0 < c∧c < 1073741824)∧R (zbF i c (Y5 i j c)) H1
section
variable {X:Cx} {tg:Expr}
theorem zaj {a b c:Expr} {ta:TA} {p pos:Pos} (hg:Gl X "range") (hm:X.mg "range"=none) (ha:PA X [a,b,c] ta) (hs:starEach [a,b,c] X.env=[(false,eval a X.env),(false,eval b X.env),(false,eval c X.env)]:=by rfl) (hs2:starEach [b,c] X.env=[(false,eval b X.env),(false,eval c X.env)]:=by rfl) :
  PI X tg (.Call (.Name "range" p) [a,b,c] [] pos) (zbG ta):=by
 intro pins s σ H R I h
 refine Call_ (qw I hg hm boot_range (dz (thn (ha pos pins s σ H _ I h) fun us s1 ⟨vs,H1,I1,r1,q1⟩=>?_) (by rw [hs,hs2]) (by rw [hs2];rfl)))
 obtain ⟨i,j,c,e,⟨q1,q2,q3,q4,q5,q6⟩,q⟩:=q1
 subst e
 cases r1 with
 | cons r rr =>
  cases rr with
  | cons r' rr =>
   cases rr with
   | cons r'' rr =>
    cases rr
    obtain ⟨t,rfl⟩:=r
    obtain ⟨t',rfl⟩:=r'
    obtain ⟨t'',rfl⟩:=r''
    refine call_range_3 (by lia) ?_ (.inl (PyProof.noPylong_small (by lia)))
    have hz:eZ i j c=(Y5 i j c:Int):=by
     unfold eZ Y5
     rw [if_pos q5]
     split
     ·rename_i h
      have:=iQ (a:=j - i - 1) (b:=c) (by lia) (by lia)
      lia
     ·rfl
    have hb:(Y5 i j c:Int)≤1073741824∧(Y5 i j c:Int) * c≤2147483648:=by
     unfold Y5
     split
     ·rename_i h
      have h1:=iQ (a:=j - i - 1) (b:=c) (by lia) (by lia)
      have h2:=oA (a:=j - i - 1) c (by lia)
      have h3:=Int.ediv_mul_le (j - i - 1) (b:=c) (by lia)
      rw [db (by lia),Int.add_mul]
      lia
     ·simp
    generalize Y5 i j c=n at *
    have sm:nt i j c=true:=by
     unfold nt
     rw [hz]
     simp only [Builtin.Range.rangeFitsLong,bX,oM,decide_eq_true_eq,beq_iff_eq,show c > 0 from q5,if_true]
     lia
    refine wpAny_pyIter_range (oC ..) sm ?_
    rw [hz]
    have I2:Inv X pins σ H1 { s1 with heap:=s1.heap.push { cls:=.type "range",data:=.fields #[.int i t,.int j t',.int c t''] },toks:=s1.toks }:=I1.kept fun b o e=>bi _ e
    refine ⟨(s1.heap.push { cls:=.type "range",data:=.fields #[.int i t,.int j t',.int c t''] }).objs.size,[(s1.heap.push { cls:=.type "range",data:=.fields #[.int i t,.int j t',.int c t''] }).objs.size],_,_,H1,rfl,I2.kept (t':=s1.toks) fun b o e=>bi _ e,Jl _ i c n,?_,fun b hb=>?_,q⟩
    ·show IsRangeIter _ _ (i + ((0:Nat):Int) * c) ((n:Int) - ((0:Nat):Int)) c
     rw [show i + ((0:Nat):Int) * c=i by simp,show (n:Int) - ((0:Nat):Int)=n by simp]
     exact bD _ rfl
    ·have e:b=(s1.heap.push { cls:=.type "range",data:=.fields #[.int i t,.int j t',.int c t''] }).objs.size:=by simpa using hb
     subst e
     exact I2.fpOk (bo _) (I2.hok.fresh (bo _))
end
end L2
namespace L2
open PySem
structure StOk (n:Nat) (s:Sta):Prop where
 so:yP s.sl
 wo:∀ r∈s.wo,inW r.2=true
 l1:s.sl.length≤n
 l2:s.wo.length≤n
 l3:s.sa.length≤n
theorem StOk.mono {n m:Nat} {s:Sta} (h:StOk n s) (l:n≤m):StOk m s:=⟨h.so,h.wo,bU h.l1 l,bU h.l2 l,bU h.l3 l⟩
theorem Wv {kvs:List (Key × V)} (h:yP kvs) (k:Key) {i:Int} (hi:inW i=true):yP (yT kvs k (.int i)):=fun k' v e=>by
 rw [v3] at e
 by_cases c:k'=k
 ·rw [if_pos c] at e
  exact ⟨i,(cf e).symm,hi⟩
 ·rw [if_neg c] at e
  exact h k' v e
theorem k9 {P:Row→Prop} {p:Pl} {w:Int}:∀ {l:List Row},(∀ r∈l,P r)→zN l p=some w→P (p,w)
 | [],_,h=>by cases h
 | r :: t,hp,h=>by
  rw [zN] at h
  cases e:zN t p with
  | some w' =>
   rw [e] at h
   have:w'=w:=by simpa using h
   subst this
   exact k9 (fun r hr=>hp r (bB _ hr)) e
  | none =>
   rw [e] at h
   by_cases c:r.1=p
   ·rw [if_pos c] at h
    have:r.2=w:=by simpa using h
    rw [← c,← this];exact hp r bF
   ·rw [if_neg c] at h;cases h
theorem zbH {l:List Row} (h:∀ r∈l,inW r.2=true) (p:Pl):inW ((zN l p).getD 0)=true:=by
 cases e:zN l p with
 | none=>rfl
 | some w=>exact k9 (P:=fun r=>inW r.2=true) h e
mutual
def qM (P:Pl→Prop):Rw→Prop
 | .give sh e _=>∀ kvs n,rk kvs e=.ok n→P (sh,n)
 | .iff _ a b=>wJ P a∧wJ P b
 | _=>True
def wJ (P:Pl→Prop):Rws→Prop
 | .nil=>True
 | .cons r rs=>qM P r∧wJ P rs
end
inductive Oc where
 | done (sa:List Int)
 | off (why:Str)
def Jm:Er→Str
 | .great=>"great"
 | _=>"nought"
def zeu (rws:Rws) (tab:List Row) (oc:Oc) (out:List Row):Prop:=match zda rws ⟨[],tab,[]⟩ with
 | .go s=>oc=.done s.sa∧wI s.wo out
 | .off=>oc=.off "told"∧out=tab
 | .er e=>oc=.off (Jm e)∧out=tab
inductive zev:List Rws→List Row→List Oc→List Row→Prop
 | nil {tab:List Row}:zev [] tab [] tab
 | cons {d:Rws} {ds:List Rws} {tab mid out:List Row} {oc:Oc} {ocs:List Oc}:zeu d tab oc mid→zev ds mid ocs out→zev (d :: ds) tab (oc :: ocs) out
def Ya:V→PyData
 | .int i=>.int i
 | .str x=>.str x
 | _=>.none
def plV (v:V):Prop:=(∃ i,v=.int i)∨∃ x,v=.str x∧b6 x=true
def jf (e:List V):PyData:=.tuple (e.map Ya)
mutual
def rwD:Rw→PyData
 | .take sh e sl=>.tuple [.str "take",.str sh,jf e,.str sl]
 | .give sh e f=>.tuple [.str "give",.str sh,jf e,jf f]
 | .lt sl e=>.tuple [.str "let",.str sl,jf e]
 | .say e=>.tuple [.str "say",jf e]
 | .off e=>.tuple [.str "off",jf e]
 | .iff e a b=>.tuple [.str "if",jf e,.list (Yl a),.list (Yl b)]
def Yl:Rws→List PyData
 | .nil=>[]
 | .cons r rs=>rwD r :: Yl rs
end
def tmP (e:List V):Prop:=∀ v∈e,plV v
mutual
def xT:Rw→Prop
 | .take sh e sl=>b6 sh=true∧tmP e∧b6 sl=true
 | .give sh e f=>b6 sh=true∧tmP e∧tmP f
 | .lt sl e=>b6 sl=true∧tmP e
 | .say e=>tmP e
 | .off e=>tmP e
 | .iff e a b=>tmP e∧y6 a∧y6 b
def y6:Rws→Prop
 | .nil=>True
 | .cons r rs=>xT r∧y6 rs
end
section
variable {K:bx} {H:Hp} {F:Addr→Prop}
theorem zbI {v:V} (h:plV v):Dat K H v (Ya v):=by
 rcases h with ⟨i,rfl⟩ | ⟨x,rfl,_⟩
 ·exact .int i
 ·exact .str x
theorem Ww:∀ {e:List V},tmP e→DatAll K H e (e.map Ya)
 | [],_=>.nil
 | v :: r,h=>.cons (zbI (h v bF)) (Ww fun u hu=>h u (bB _ hu))
theorem wm {a:Addr} {e:List V} (h:H a=some (.tup e)) (p:tmP e):Dat K H (.ref a) (jf e):=.tup (SqT.of h) (Ww p)
mutual
theorem zbJ:∀ (r:Rw) {v:V},RwAt F H v r→xT r→Dat K H v (rwD r)
 | .take sh e sl,v,h,p=>by
  unfold RwAt at h
  unfold xT at p
  obtain ⟨r,te,rfl,f1,f2,e2,e3⟩:=h
  rw [rwD]
  exact .tup (SqT.of e2) (.cons (.str _) (.cons (.str _) (.cons (wm e3 p.2.1) (.cons (.str _) .nil))))
 | .give sh e f,v,h,p=>by
  unfold RwAt at h
  unfold xT at p
  obtain ⟨r,te,tf,rfl,f1,f2,f3,e2,e3,e4⟩:=h
  rw [rwD]
  exact .tup (SqT.of e2) (.cons (.str _) (.cons (.str _) (.cons (wm e3 p.2.1) (.cons (wm e4 p.2.2) .nil))))
 | .lt sl e,v,h,p=>by
  unfold RwAt at h
  unfold xT at p
  obtain ⟨r,te,rfl,f1,f2,e2,e3⟩:=h
  rw [rwD]
  exact .tup (SqT.of e2) (.cons (.str _) (.cons (.str _) (.cons (wm e3 p.2) .nil)))
 | .say e,v,h,p=>by
  unfold RwAt at h
  unfold xT at p
  obtain ⟨r,te,rfl,f1,f2,e2,e3⟩:=h
  rw [rwD]
  exact .tup (SqT.of e2) (.cons (.str _) (.cons (wm e3 p) .nil))
 | .off e,v,h,p=>by
  unfold RwAt at h
  unfold xT at p
  obtain ⟨r,te,rfl,f1,f2,e2,e3⟩:=h
  rw [rwD]
  exact .tup (SqT.of e2) (.cons (.str _) (.cons (wm e3 p) .nil))
 | .iff e a b,v,h,p=>by
  unfold RwAt at h
  unfold xT at p
  obtain ⟨r,te,la,lb,xs,ys,rfl,f1,f2,f3,f4,e2,e3,e4,e5,e6,e7⟩:=h
  rw [rwD]
  exact .tup (SqT.of e2) (.cons (.str _) (.cons (wm e3 p.1) (.cons (.lst (SqL.of e4) (Vh a e5 p.2.1)) (.cons (.lst (SqL.of e6) (Vh b e7 p.2.2)) .nil))))
theorem Vh:∀ (r:Rws) {vs:List V},RwsAt F H vs r→y6 r→DatAll K H vs (Yl r)
 | .nil,vs,h,p=>by
  unfold RwsAt at h
  subst h
  rw [Yl];exact .nil
 | .cons r rs,vs,h,p=>by
  unfold RwsAt at h
  unfold y6 at p
  obtain ⟨v,ws,rfl,e2,e3⟩:=h
  rw [Yl]
  exact .cons (zbJ r e2 p.1) (Vh rs e3 p.2)
end
end
theorem Yb:∀ {e:List V},tmP e→zE (e.map Ya)=true
 | [],_=>by simp [zE]
 | v :: r,h=>by
  rw [bW,zE,Yb fun u hu=>h u (bB _ hu),Bool.and_true]
  rcases h v bF with ⟨i,rfl⟩ | ⟨x,rfl,hx⟩
  ·rw [Ya,zy]
  ·rw [Ya,zy];exact hx
theorem y8 {e:List V} (h:tmP e):zy (jf e)=true:=by rw [jf,zy];exact Yb h
theorem Y6:∀ (e:List V),bO (e.map Ya)=0
 | []=>by simp [bO]
 | v :: r=>by
  rw [bW,bO,Y6 r]
  cases v <;> simp [Ya,cr]
theorem xx (e:List V):(jf e).depth≤1:=by rw [jf,cr,Y6];lia
theorem zbK:b6 "take"=true:=by decide +kernel
theorem zbL:b6 "give"=true:=by decide +kernel
theorem zde:b6 "let"=true:=by decide +kernel
theorem zdf:b6 "say"=true:=by decide +kernel
theorem Qt:b6 "off"=true:=by decide +kernel
theorem zew:b6 "if"=true:=by decide +kernel
mutual
theorem Jn:∀ (r:Rw),xT r→zy (rwD r)=true
 | .take sh e sl,p=>by unfold xT at p;rw [rwD];simp [zy,zE,zbK,y8 p.2.1,p.1,p.2.2]
 | .give sh e f,p=>by unfold xT at p;rw [rwD];simp [zy,zE,zbL,y8 p.2.1,p.1,y8 p.2.2]
 | .lt sl e,p=>by unfold xT at p;rw [rwD];simp [zy,zE,zde,y8 p.2,p.1]
 | .say e,p=>by unfold xT at p;rw [rwD];simp [zy,zE,zdf,y8 p]
 | .off e,p=>by unfold xT at p;rw [rwD];simp [zy,zE,Qt,y8 p]
 | .iff e a b,p=>by unfold xT at p;rw [rwD];simp [zy,zE,zew,y8 p.1,ZG a p.2.1,ZG b p.2.2]
theorem ZG:∀ (r:Rws),y6 r→zE (Yl r)=true
 | .nil,_=>by rw [Yl,zE]
 | .cons r rs,p=>by unfold y6 at p;rw [Yl,zE,Jn r p.1,ZG rs p.2];rfl
end
mutual
theorem Qu:∀ (r:Rw),(rwD r).depth≤2 * r.deep + 2
 | .take sh e sl=>by have:=xx e;rw [rwD];simp [cr,bO];lia
 | .give sh e f=>by have:=xx e;have:=xx f;rw [rwD];simp [cr,bO];lia
 | .lt sl e=>by have:=xx e;rw [rwD];simp [cr,bO];lia
 | .say e=>by have:=xx e;rw [rwD];simp [cr,bO];lia
 | .off e=>by have:=xx e;rw [rwD];simp [cr,bO];lia
 | .iff e a b=>by
  have:=xx e
  have h1:=Y7 a
  have h2:=Y7 b
  have c:(Rw.iff e a b).deep=max a.deep b.deep + 1:=by rw [Rw.deep]
  rw [rwD,c];simp [cr,bO];lia
theorem Y7:∀ (r:Rws),bO (Yl r)≤2 * r.deep + 2
 | .nil=>by rw [Yl];simp [bO]
 | .cons r rs=>by
  have h1:=Qu r
  have h2:=Y7 rs
  have c:(Rws.cons r rs).deep=max r.deep rs.deep:=by rw [Rws.deep]
  rw [Yl,c,bO];lia
end
def Rws.snoc:Rws→Rw→Rws
 | .nil,x=>.cons x .nil
 | .cons r rs,x=>.cons r (rs.snoc x)
def Rws.app:Rws→Rws→Rws
 | .nil,x=>x
 | .cons r rs,x=>.cons r (rs.app x)
theorem RwsAt.snoc {F:Addr→Prop} {H:Hp} {v:V} {x:Rw} (hx:RwAt F H v x):∀ (r:Rws) {vs:List V},RwsAt F H vs r→RwsAt F H (vs ++ [v]) (r.snoc x)
 | .nil,vs,h=>by
  unfold RwsAt at h
  subst h
  show RwsAt F H [v] (.cons x .nil)
  unfold RwsAt
  exact ⟨v,[],rfl,hx,by unfold RwsAt;rfl⟩
 | .cons r rs,vs,h=>by
  unfold RwsAt at h
  obtain ⟨u,ws,rfl,e2,e3⟩:=h
  show RwsAt F H (u :: (ws ++ [v])) (.cons r (rs.snoc x))
  unfold RwsAt
  exact ⟨u,ws ++ [v],rfl,e2,RwsAt.snoc hx rs e3⟩
theorem RwsAt.get {F:Addr→Prop} {H:Hp}:∀ {r:Rws} {vs:List V} {i:Nat} {v:V},RwsAt F H (vs.drop i) r→vs[i]?=some v→∃ x rs,r=.cons x rs∧RwAt F H v x∧RwsAt F H (vs.drop (i + 1)) rs
 | .nil,vs,i,v,h,e=>by
  unfold RwsAt at h
  have:=(bC.mp e).1
  have:=congrArg bG h
  rw [cN] at this
  simp at this
  lia
 | .cons x rs,vs,i,v,h,e=>by
  unfold RwsAt at h
  obtain ⟨u,ws,e1,e2,e3⟩:=h
  have hi:=(bC.mp e).1
  have d:=lj hi
  rw [e1] at d
  have e4:vs[i]=v:=(bC.mp e).2
  rw [e4] at d
  injection d with d1 d2
  subst d1 d2
  exact ⟨x,rs,rfl,e2,e3⟩
theorem RwsAt.none {F:Addr→Prop} {H:Hp} {r:Rws} {vs:List V} (h:RwsAt F H (vs.drop vs.length) r):r=.nil:=by
 rw [List.drop_length] at h
 cases r with
 | nil=>rfl
 | cons x rs =>
  unfold RwsAt at h
  obtain ⟨_,_,e,_⟩:=h
  cases e
theorem Qv {x:Rw} (hx:j7 x):∀ (r:Rws),wk r→wk (r.snoc x)
 | .nil,_=>by show wk (.cons x .nil);unfold wk;exact ⟨hx,by unfold wk;trivial⟩
 | .cons y r,h=>by
  unfold wk at h
  show wk (.cons y (r.snoc x))
  unfold wk
  exact ⟨h.1,Qv hx r h.2⟩
theorem Qw {x:Rw} (hx:xT x):∀ (r:Rws),y6 r→y6 (r.snoc x)
 | .nil,_=>by show y6 (.cons x .nil);unfold y6;exact ⟨hx,by unfold y6;trivial⟩
 | .cons y r,h=>by
  unfold y6 at h
  show y6 (.cons y (r.snoc x))
  unfold y6
  exact ⟨h.1,Qw hx r h.2⟩
theorem Wx (x:Rw):∀ (r:Rws),(r.snoc x).deep=max r.deep x.deep
 | .nil=>by show (Rws.cons x .nil).deep=_;simp [Rws.deep]
 | .cons y r=>by
  show (Rws.cons y (r.snoc x)).deep=_
  rw [Rws.deep,Rws.deep,Wx x r];lia
theorem zbM {v:V} (h:jq v) (j:isJ v=false):TermOk [v] :=
 ⟨fun kvs=>⟨_,Q8 j⟩,fun u hu=>by rw [bP.mp hu];exact h,by simp⟩
theorem Paired.snocP {α β:Type} {F:α→β→Prop} {x:α} {y:β}:∀ {a:List α} {b:List β},Paired F a b→F x y→Paired F (a ++ [x]) (b ++ [y])
 | _,_,.nil,h=>.cons h .nil
 | _,_,.cons a r,h=>.cons a (Paired.snocP r h)
theorem Paired.getP {α β:Type} {F:α→β→Prop} {a:List α} {b:List β} {i:Nat} {x:α} (h:Paired F a b) (e:a[i]?=some x):∃ y,b[i]?=some y∧F x y:=by
 have hi:=(bC.mp e).1
 have l:=b5 h
 exact ⟨b[i],bh (by lia),yg h e (bh (by lia))⟩
end L2
namespace L2
open PySem PySem.Spec PyProof.Rows
end L2
namespace L2
open PySem PySem.Spec PyProof.Rows
theorem zex {c:Nat}:∀ {a b r s:List Nat},c ∉ a→c ∉ b→a ++ c :: r=b ++ c :: s→a=b∧r=s
 | [],[],r,s,_,_,h=>by simpa using h
 | [],y :: b,r,s,_,hb,h=>by
  simp only [bQ,bI,bn] at h
  exact absurd h.1 (fun z=>hb (by rw [z];exact bF))
 | x :: a,[],r,s,ha,_,h=>by
  simp only [bQ,bI,bn] at h
  exact absurd h.1.symm (fun z=>ha (by rw [z];exact bF))
 | x :: a,y :: b,r,s,ha,hb,h=>by
  simp only [bI,bn] at h
  obtain ⟨e1,e2⟩:=zex (fun z=>ha (bB _ z)) (fun z=>hb (bB _ z)) h.2
  exact ⟨by rw [h.1,e1],e2⟩
end L2
namespace L2
open PySem PySem.Spec PyProof.Rows
abbrev Qx (K:bx):RC:=fun xs H Q=>∃ (x:V) (p:Addr) (t:Value) (Ts:List String) (b:Bool),xs=[x,.ref p]∧Zc K H x t∧H p=some (.tup (Ts.map V.ty))∧fP K t (Ts.map fM)=some b∧Q (.bl b) H
theorem Jo:∀ {Ts:List String} {us:List Value},Vals (Ts.map V.ty) us→us=Ts.map fM
 | [],_,h=>by cases h;rfl
 | T :: r,_,h=>by
  cases h with
  | cons a t =>
   have a:_=fM T:=a
   rw [a,Jo t];rfl
section
variable {X:Cx}
theorem Wy:wR X (.builtin "isinstance") (Qx X.K):=by
 intro pins s σ H xs us Q I r h
 obtain ⟨x,p,t,Ts,b,rfl,ty,hp,e,q⟩:=h
 obtain ⟨u,w',rfl,rx,r2⟩:=K0 r
 cases r2
 obtain ⟨_,its,rv,o,o1,o2,n,o3⟩:=(show ObjOk X.prog X.w H s.heap p (.tup (Ts.map V.ty)) from I.hok p _ hp)
 obtain rfl:=Jo rv
 obtain ⟨oc,od,oda,osl⟩:=o
 obtain rfl:oc=.type "tuple":=o2
 obtain rfl:oda=.seq (Ts.map fM).toArray n:=o3
 have fin:∀ tk,EP X pins σ Q (.bool b) { s with toks:=tk }:=fun tk=>⟨.bl b,H,I.tok tk,rfl,q⟩
 cases ty with
 | non=>cases (show u=cy from rx);exact fI W.kitx_none I.kIn dA o1 e (fun z=>nomatch z) fin
 | bl y=>cases (show u=gh y from rx);exact fI W.kitx_bool I.kIn dA o1 e (fun z=>nomatch z) fin
 | int i=>obtain ⟨t,q⟩:=(show ∃ t,u=fj i t from rx);cases q;exact fI W.kitx_int I.kIn dA o1 e (fun z=>nomatch z) fin
 | str y=>obtain ⟨t,q⟩:=(show ∃ t,u=gR y t from rx);cases q;exact fI W.kitx_str I.kIn dA o1 e (fun z=>nomatch z) fin
 | flt y=>obtain ⟨t,q⟩:=(show ∃ t,u=mY y t from rx);cases q;exact fI W.kitx_float I.kIn dA o1 e (fun z=>nomatch z) fin
 | @lst a xs ea =>
  cases (show u=bJ a from rx)
  obtain ⟨_,_,n,_,h1⟩:=(show ObjOk X.prog X.w H s.heap a (.lst xs) from I.hok a _ ea)
  exact fI m8 I.kIn ⟨_,h1,rfl⟩ o1 e (fun z=>nomatch z) fin
 | @frz a ob xs ea =>
  cases (show u=bJ a from rx)
  obtain ⟨h1,h2⟩:=(show ObjOk X.prog X.w H s.heap a (.frz ob (.lst xs)) from I.hok a _ ea)
  obtain ⟨_,_,n,_,h1⟩:=h2
  exact fI m8 I.kIn ⟨_,h1,rfl⟩ o1 e (fun z=>nomatch z) fin
 | @tup a xs ea =>
  cases (show u=bJ a from rx)
  obtain ⟨_,its,_,o,h1,h2,_⟩:=(show ObjOk X.prog X.w H s.heap a (.tup xs) from I.hok a _ ea)
  exact fI W.kitx_tuple I.kIn ⟨_,h1,h2⟩ o1 e (fun z=>nomatch z) fin
 | @dK a kvs ea =>
  cases (show u=bJ a from rx)
  obtain ⟨_,_,vs,_,p⟩:=(show ObjOk X.prog X.w H s.heap a (.dK kvs) from I.hok a _ ea)
  obtain ⟨o,es,ep,h1,h2,_⟩:=p
  exact fI nh I.kIn ⟨o,h1,h2.1⟩ o1 e (fun z=>nomatch z) fin
 | @dT a kvs ea =>
  cases (show u=bJ a from rx)
  obtain ⟨_,_,xs,_,o,es,ep,h1,h2,_⟩:=(show ObjOk X.prog X.w H s.heap a (.dT kvs) from I.hok a _ ea)
  exact fI nh I.kIn ⟨o,h1,h2.1⟩ o1 e (fun z=>nomatch z) fin
 | @ins a C dx fs ea cl ha hn htk hm =>
  cases (show u=bJ a from rx)
  obtain ⟨mA,O,_⟩:=Zb I.hok ea
  obtain ⟨od,J,_⟩:=O.look
  exact fI (W.kitx_own (cl.get _) cl.hd ha hn htk hm) I.kIn J o1 e (fun z=>nomatch z) fin
end
end L2
namespace L2
open PySem PySem.Spec PyProof.Rows
mutual
inductive zbN (H:Hp):V→PyData→Prop
 | int (i:Int):zbN H (.int i) (.int i)
 | str (x:Str):zbN H (.str x) (.str x)
 | lst {a:Addr} {xs:List V} {ds:List PyData}:H a=some (.lst xs)→Jp H xs ds→zbN H (.ref a) (.list ds)
 | tup {a:Addr} {xs:List V} {ds:List PyData}:H a=some (.tup xs)→Jp H xs ds→zbN H (.ref a) (.tuple ds)
inductive Jp (H:Hp):List V→List PyData→Prop
 | nil:Jp H [] []
 | cons {x:V} {d:PyData} {xs:List V} {ds:List PyData}:zbN H x d→Jp H xs ds→Jp H (x :: xs) (d :: ds)
end
end L2
namespace L2
open PySem
end L2
namespace L2
open PySem
abbrev Yc:RM:=WV
end L2
namespace L2
open PySem PySem.Spec PyProof.Rows
end L2
namespace L2
open PySem PySem.Spec PyProof.Rows
section
variable {X:Cx}
open Classical in
noncomputable def zfC (K:PySem.W.Frag) (H:Hp) (d:PyData) (u:Value):Bool:=decide (∃ x,RelV x u∧Dat K H x d)
open Classical in
end
abbrev zbO (K:bx):RC:=fun vs H Q=>∃ r xs its,vs=[.ref r]∧SqL K H r xs∧Paired (PrAt H) xs its∧(its.map (·.1)).Nodup∧its.length < 64 ∧
 ∀ l ys srt H',Same H H'→H l=none→H' l=some (.lst ys)→Paired (PrAt H') ys srt→Rising srt→srt.Perm its→Q (.ref l) H'
section
variable {X:Cx}
theorem Vi (hc:X.calm=true) (hu:X.A.units + 3 < cLine):wR X (.builtin "sorted") (zbO X.K):=by
 intro pins s σ H vs us Q I r0 h
 obtain ⟨r,xs,its,rfl,hq,pr,nd,h64,q⟩:=h
 obtain ⟨u,rfl,ru⟩:=Za r0
 cases ru
 obtain ⟨vs,rv,⟨o,n,ho,oc,_,od⟩,hz⟩:=I.list hq
 have so:=qG nd
 have l1:=b5 pr
 have l2:=rv.length
 have vat:∀ {h:Heap},(∀ b o,s.heap.get? b=some o→h.get? b=some o)→∀ (i:Nat) (q:Row),its[i]?=some q→∃ v,vs[i]?=some v∧RvAt h v q:=fun {h} k i q hq=>by
  have hi:=(bC.mp hq).1
  obtain ⟨y,hy⟩:∃ y,xs[i]?=some y:=⟨_,bh (by lia)⟩
  obtain ⟨u,hu',ru⟩:=rv.get hy
  exact ⟨u,hu',(zd1 I (yg pr hy hq) ru).keep k⟩
 refine Z9 (vs:=vs) (κ:=tuples' false) (lt:=fun i j=>zY ((its.map (·.1)).getD i (("",0):Pl)) ((its.map (·.1)).getD j (("",0):Pl))) (by lia) (by rw [show vs.length=(its.map (·.1)).length by rw [bt];lia];exact so) (fun R hR=>?_) (fun h2 h tk Q' k q'=>?_) (fun h tk i j C k hi hj hij q'=>?_) fun h tk h' p c k1 k2 hD hp hr=>?_
 ·refine wpAny_collect_seq r (.inl rfl) ho oc od (fun h' k=>?_) (by rw [bM];exact bU (by lia:_≤64) (by decide))
  have e:({ s with heap:=h' }:Shared)={ s with heap:=h',toks:=s.toks }:=rfl
  rw [e]
  exact hR h' s.toks k
 ·refine Jj (s:={ s with heap:=h,toks:=tk }) (qs:=its) (by lia) (fun i v q hv hq=>?_) (by lia) q'
  obtain ⟨v',hv',rr⟩:=vat k i q hq
  rw [hv] at hv'
  cases hv'
  exact rr
 ·have e1:its[i]?=some its[i]:=bh (by lia)
  have e2:its[j]?=some its[j]:=bh (by lia)
  obtain ⟨v1,g1,r1⟩:=vat k i _ e1
  obtain ⟨v2,g2,r2⟩:=vat k j _ e2
  have n1:(its.map (·.1)).getD i (("",0):Pl)=its[i].1:=by rw [bp,bN,e1];rfl
  have n2:(its.map (·.1)).getD j (("",0):Pl)=its[j].1:=by rw [bp,bN,e2];rfl
  have m1:vs.getD i cy=v1:=by rw [bp,g1];rfl
  have m2:vs.getD j cy=v2:=by rw [bp,g2];rfl
  simp only [n1,n2] at q'
  have key:=Qs (P:=X.prog) (w:=X.w) (A:=X.A.in1.in1) (E:=fun _ _=>False) (s:={ s with heap:=h,toks:=tk }) (Q:=C) (by have e:X.A.in1.in1.units=X.A.units + 2:=rfl;lia) r1 r2 q' fun z=>hij (by
   have e3:(its.map (·.1))[i]?=some its[i].1:=by rw [bN,e1];rfl
   have e4:(its.map (·.1))[j]?=some its[j].1:=by rw [bN,e2];rfl
   rw [z] at e3
   exact (nU (by rw [bt];lia) nd).mp (e3.trans e4.symm))
  rw [← m1,← m2] at key
  exact key
 ·have I1:Inv X pins σ H { s with heap:=h,toks:=tk }:=I.kept k1
  have hp':PP its.length p:=by rw [show its.length=vs.length by lia];exact hp
  have fr:H h.objs.size=none:=I1.hok.fresh (bo _)
  have sz:=hp'.size
  have pk:=xw pr V.non d0 (is:=p.toList) fun i hi=>by have:=hp'.lt i hi;lia
  have vk:Vals (p.toList.map fun i=>xs.getD i V.non) (xl vs p):=xw rv V.non cy (is:=p.toList) fun i hi=>by have:=hp'.lt i hi;lia
  have I2:Inv X pins σ (upd H h.objs.size (.lst (p.toList.map fun i=>xs.getD i V.non))) { s with heap:=h',toks:=tk }:=I1.laid (s:={ s with heap:=h,toks:=tk }) (a:=h.objs.size) (o:=.lst (p.toList.map fun i=>xs.getD i V.non)) (t':=tk) k2 (bo _)
   ⟨by rw [bt,ci];exact bU (by lia:_≤64) (by decide),xl vs p,c,vk,hD⟩
  have S2:Same H (upd H h.objs.size (.lst (p.toList.map fun i=>xs.getD i V.non))):=isV _ fr
  have mono:∀ {us:List V} {ws:List Row},Paired (PrAt H) us ws→Paired (PrAt (upd H h.objs.size (.lst (p.toList.map fun i=>xs.getD i V.non)))) us ws:=fun {us ws} h=>by
   induction h with
   | nil=>exact .nil
   | cons a _ ih =>
    obtain ⟨r,p,e,h1,h2⟩:=a
    exact .cons ⟨r,p,e,S2 _ _ h1,S2 _ _ h2⟩ ih
  refine ⟨.ref h.objs.size,_,I2,rfl,q _ _ (p.toList.map fun i=>its.getD i d0) _ S2 fr ze (mono pk) ?_ ?_⟩
  ·have hr':v9 (fun i j=>zY ((its.map (·.1)).getD i (("",0):Pl)) ((its.map (·.1)).getD j (("",0):Pl))) p its.length:=by rw [show its.length=vs.length by lia];exact hr
   have pw:=qL (F:=zY) hp' hr'
   have eq:(p.toList.map fun i=>its.getD i d0).map (·.1)=p.toList.map fun i=>(its.map (·.1)).getD i (("",0):Pl):=by
    rw [dD]
    refine eC fun i hi=>?_
    have hi:=hp'.lt i hi
    simp [bp,bN,bh hi]
   rw [← eq,eA] at pw
   exact pw
  ·refine (hp'.list.map _).trans ?_
   rw [qK]
end
def Cb (i:Int):Prop:=iH i≤1048576
open Att PySem.W PySem.Calls in
theorem zbP {l:nD} {n k:Nat} {q:Program} {loose:List Str} {XP:(Str→Option Value)→Heap→Prop} {YP:World→Heap→Prop} {d:DefRec} {K:Params→bx} {CX:World→CXT} {sp:World→Sp} {x:Str}
  (hn:l.most=some n) (hn2:n≤sizeLine) (hdf:d.params.defaults=[]) (hr:Room k callerA) (hY:∀ (w:World) (h:Heap),YP w h→(K w.params).In h)
  (F:∀ (w:World) (mg:Str→Option Value) (fa:Addr) (h:Heap),(K w.params).In h→h.Ns mainGlobals mg→mg d.name=some (.ref fa) →
   ∃ fd:FuncData,(∀ (s:Shared) (u:Value),BindsTo s fd ⟨[u],[]⟩ [(x,u)]) ∧
    ∀ base:Heap,(K w.params).In base→base.Ns mainGlobals mg→FnOk l.prog w (K w.params) mg base (CX w) k fa fd [x] (sp w))
  (hsp:∀ (w:World) (H:Hp) (a:Addr) (ns:List Int),ns.length≤n→(∀ i∈ns,Cb i)→Kb H→SqL (K w.params) H a (ns.map V.int)→sp w [.ref a] H (fun v _=>v=.bl true) fun _ _ _=>False)
  (hCX:∀ (w:World) (H:Hp) (s:Shared) (e:Value) (s':Shared),CX w [] H s (fun _ _ _=>False) e s'→False) :
  oQ q loose XP YP l.row.toRowW d [] (fun f vs=>lD f vs):=by
 intro w s₀ s₁ mg mb G Y fa o pm cd doc dV kV ho hd hcd hD hmg hg args vals as hpre hlay hrd hwl hlo
 obtain rfl:dV=.none:=Dflts.none hD hdf
 obtain rfl:kV=.none:=Dflts.noKw hD
 obtain ⟨a,vs,ns,rfl,rfl,hobj,hints,hlen⟩:=Wf hn hpre hwl
 have hb:∀ i∈ns,Cb i:=fun i hi=>intBits_le_of_layable (layable_of_mem (lay0_int (layableW_item (layableW_arg hlay _ bF) _ (cm.mpr ⟨i,hi,rfl⟩))) bF)
 have KX:=hY w _ Y
 obtain ⟨fd,hbd,hF⟩:=F w mg fa _ KX G.T.g hmg
 refine enter_call (eW (VU KX G.T.g G.T.b G.T.builtins G.T.nolimit hg hobj hints (bU hlen hn2) hr hF hbd (fun H hO hS=>hsp w H a ns hlen hb hO hS) fun H e s'=>hCX w H s₁ e s') fun r s' hq=>?_)
 obtain ⟨rfl,h2,h3,h4⟩:=hq
 exact ⟨.inl ⟨.bool true,.bool true,[],rfl,fun _=>rfl,.bool true,Wg l _,fun _=>⟨nR,fun _ hm=>(nomatch hm)⟩⟩,h2,h3,h4⟩
theorem ze0 {l:nD} {n k:Nat} {q:Program} {loose:List Str} {XP:(Str→Option Value)→Heap→Prop} {YP:World→Heap→Prop} {d:DefRec} {K:Params→bx} {sp:bx→Sp} {x:Str}
  (hn:l.most=some n) (hn2:n≤sizeLine) (hdf:d.params.defaults=[]) (hr:Room k callerA) (hY:∀ (w:World) (h:Heap),YP w h→(K w.params).In h)
  (F:∀ (w:World) (mg:Str→Option Value) (fa:Addr) (h:Heap),(K w.params).In h→h.Ns mainGlobals mg→mg d.name=some (.ref fa) →
   ∃ fd:FuncData,(∀ (s:Shared) (u:Value),BindsTo s fd ⟨[u],[]⟩ [(x,u)]) ∧
    ∀ base:Heap,(K w.params).In base→base.Ns mainGlobals mg→FnOk l.prog w (K w.params) mg base (CX1 l.prog w) k fa fd [x] (sp (K w.params)))
  (hsp:∀ (K:bx) (H:Hp) (a:Addr) (ns:List Int),ns.length≤n→(∀ i∈ns,Cb i)→Kb H→SqL K H a (ns.map V.int)→sp K [.ref a] H (fun v _=>v=.bl true) fun _ _ _=>False) :
  oQ q loose XP YP l.row.toRowW d [] (fun f vs=>lD f vs) :=
 zbP (K:=K) (CX:=fun w=>CX1 l.prog w) (sp:=fun w=>sp (K w.params)) hn hn2 hdf hr hY F (fun w H a ns h1 hb h2 h3=>hsp (K w.params) H a ns h1 hb h2 h3) fun _ _ _ _ _ z=>by
  obtain ⟨_,_,_,_,_,_,_,_,_,y⟩:=z
  exact y
end L2
namespace L2
open PySem PySem.Spec PyProof.Rows
end L2
namespace L2
open PySem PySem.Spec PyProof.Rows
end L2
namespace L2
open PySem PySem.Spec PyProof.Rows
abbrev j9:RM:=fun x vs H Q=>∃ (l:Addr) (xs:List V) (k:Nat) (y:V),x=.ref l∧vs=[.int k,y]∧H l=some (.lst xs)∧k≤xs.length∧xs.length < 1000000∧Q .non (upd H l (.lst (xs.take k ++ y :: xs.drop k)))
theorem Vals.takeV:∀ (k:Nat) {xs:List V} {us:List Value},Vals xs us→Vals (xs.take k) (us.take k)
 | 0,_,_,_=>by rw [mW,mW];exact .nil
 | _ + 1,_,_,.nil=>.nil
 | k + 1,_,_,.cons h r=>.cons h (Vals.takeV k r)
theorem Vals.dropV:∀ (k:Nat) {xs:List V} {us:List Value},Vals xs us→Vals (xs.drop k) (us.drop k)
 | 0,_,_,h=>h
 | _ + 1,_,_,.nil=>.nil
 | k + 1,_,_,.cons _ r=>Vals.dropV k r
section
variable {X:Cx}
theorem zak:MtM X "list.insert" j9:=by
 intro pins s σ H x vs v us Q I rx rv h
 obtain ⟨l,xs,k,y,rfl,rfl,hH,hk,hz,q⟩:=h
 cases rx
 cases rv with
 | cons r1 rr =>
  obtain ⟨u,rfl,ru⟩:=(show Vals [y] _ from rr).one
  obtain ⟨t,rfl⟩:=r1
  obtain ⟨z,its,n,r,hl,e⟩:=I.lstM hH
  have h1:(1000000:Nat) < sizeLine:=by rw [c7];decide
  obtain ⟨i,hi⟩:∃ i:Int,i=k:=⟨_,rfl⟩
  rw [← hi]
  have hc:¬ (!Builtin.List.listFitsIndex i)=true:=by rw [fitsIndex_both (by lia) (by lia)];exact bK
  have hs:its.toArray.size≤sizeLine:=by rw [bM];lia
  have M:=AutoSeq1.list_insert_list_int_val_1 l its.toArray n i t u hc hs
  refine lB F.slot_list_insert ⟨_,e,rfl⟩ F.entry_list_insert (F.args_list_insert_3 _ _ _) M ⟨e,?_⟩
  refine ⟨.non,_,I.lset (its':=its.take k ++ u :: its.drop k) hH e ?_ ((r.takeV k).append (.cons ru (r.dropV k))) ?_,rfl,q⟩
  ·have hk2:k≤its.length:=by lia
   subst hi
   have hn:¬ ((k:Int) < 0):=by lia
   simp [eS hk2,hn]
   rw [cx (by rw [cN];lia)]
  ·rw [bz,cB,cM,cN];lia
end
end L2
namespace L2
open PySem PySem.Spec PyProof.Rows
section
variable {X:Cx} {e:Expr} {te:TE} {a b:Str} {j k:Nat} {p1 p2 p3 p4:Pos}
def zbQ (te:TE):TE:=fun σ H Q=>te σ H fun v H1=>∃ i:Int,v=.int i∧i.natAbs.log2 < 1920∧∀ y:Str,Q (.str y) H1
theorem zdg (he:PE X e te) (hl:a.length≤1000:=by decide +kernel) (hl2:b.length≤1000:=by decide +kernel):PE X (.JoinedStr [.Constant (.str a) j p1,.FormattedValue e (-1) none p2,.Constant (.str b) k p4] p3) (zbQ te):=by
 intro pins s σ H Q I h
 have hs:sizeLine=16777216:=c7
 refine wpAny_JoinedStr ?_
 show wpAny _ _ (eval (.Constant (.str a) j p1) X.env) _ _ s
 have e0:(gr ++ a).length=a.length:=by rw [ef];simp [gr,gj]
 refine gp ⟨a,_,rfl,by rw [e0];exact zU (by lia),?_⟩
 show wpAny _ _ (eval (.FormattedValue e (-1) none p2) X.env) _ _ _
 refine iT (thn (he pins _ σ H _ (I.tok _) h) fun v s1 ⟨x,H1,I1,r1,i,ex,hz,q⟩=>?_)
 subst ex
 obtain ⟨t,rfl⟩:=r1
 have le:(bg (toString i)).length≤2000:=by
  have e:=int_text_length_le (k:=1920) (by decide) hz
  rw [PySem.ofString_length];lia
 refine wpAny_formatField_int hz ⟨bg (toString i),_,rfl,by rw [ef,e0];lia,?_⟩
 show wpAny _ _ (eval (.Constant (.str b) k p4) X.env) _ _ _
 have hz2:(gr ++ a ++ bg (toString i) ++ b).length≤sizeLine:=by rw [ef,ef,e0];lia
 exact gp ⟨b,_,rfl,hz2,hz2,.str _,H1,I1.tok _,⟨_,rfl⟩,q _⟩
end
end L2
namespace L2
open PySem PySem.Spec PyProof.Rows
structure FunD (K:bx) (x qual:Str) (st:Stmt) (f:Addr) (fd:FuncData):Prop where
 ex:∃ (oc:Value) (od:Option Addr) (dV kV doc pm:Value) (an:Option Addr) (cdv ct:Value) (osl:Array (Option Value)),fd=iV x qual (y9 st) (yE st) (zk st) dV kV doc pm an cdv ct∧K.lookup f=some ⟨oc,od,.func fd,osl⟩∧iW K cdv qual=true
 kp:fN K (.ref f)=true
section
variable {P:Program} {w:World} {K:bx} {mg:Str→Option Value} {base:Heap} {x qual:Str} {st:Stmt} {f:Addr} {fd:FuncData} {N ps:List Str} {k:Nat} {sp:Sp}
theorem FunD.ok1 (F:FunD K x qual st f fd) (S:zC N ps (zk st)) (len:∀ vs H Q E,sp vs H Q E→vs.length=ps.length)
  (hbody:∀ (cdv:Value) (A:Around) (outer:List Env) (s:Shared) (H:Hp) (vs:List V) (Q:VK) (E:XK),Room k (A.deeper (envOfC qual (zk st) s.heap.objs.size f cdv))→sp vs H Q E→∃ t,PSs (qd (CX1 P w) P w K mg base N qual (zk st) f cdv A outer s H E) (yE st) t∧t { nx:=fun _ H'=>Q .non H',rt:=Q } (start N vs) H):FnOk P w K mg base (CX1 P w) (k + 1) f fd ps sp:=by
 obtain ⟨oc,od,dV,kV,doc,pm,an,cdv,ct,osl,rfl,lk,hcd⟩:=F.ex
 exact zdV lk hcd S len fun A outer s H vs Q E hr hsp=>hbody cdv A outer s H vs Q E hr hsp
theorem FunD.ok0 (F:FunD K x qual st f fd) (S:zC N ps (zk st)) (len:∀ vs H Q E,sp vs H Q E→vs.length=ps.length)
  (hbody:∀ (cdv:Value) (A:Around) (outer:List Env) (s:Shared) (H:Hp) (vs:List V) (Q:VK) (E:XK),Room k (A.deeper (envOfC qual (zk st) s.heap.objs.size f cdv))→sp vs H Q E→∃ t,PSs (qd (CX1 P w) P w K mg base N qual (zk st) f cdv A outer s H E).nox (yE st) t∧t { nx:=fun _ H'=>Q .non H',rt:=Q } (start N vs) H):FnOk P w K mg base (CX1 P w) (k + 1) f fd ps sp :=
 F.ok1 S len fun cdv A outer s H vs Q E hr h=>let ⟨t,a,b⟩:=hbody cdv A outer s H vs Q E hr h;⟨t,a.nox,b⟩
theorem zdh {oc:Value} {od an:Option Addr} {osl:Array (Option Value)} {dV kV doc pm cdv ct:Value} (l:K.lookup f=some ⟨oc,od,.func (iV x qual (y9 st) (yE st) (zk st) dV kV doc pm an cdv ct),osl⟩)
  (c:iW K cdv qual=true) (k:fN K (.ref f)=true):FunD K x qual st f (iV x qual (y9 st) (yE st) (zk st) dV kV doc pm an cdv ct):=⟨⟨oc,od,dV,kV,doc,pm,an,cdv,ct,osl,rfl,l,c⟩,k⟩
end
section
variable {X:Cx} {o value:Expr} {f:Str} {pos pos':Pos} {ta:TE} {tx:EXK→TE}
def zbR (K:bx) (ta:TE) (tx:EXK→TE) (f:Str) (EX:EXK):TS:=qz K ta (tx EX) f
theorem zdi (ha:PE X.nox o ta) (hv:PEX X value tx) (hs:swapsWith value (some (.Attribute o f pos')) pos.line X.env=pure false):PSX X (.Assign [.Attribute o f pos'] value pos) (zbR X.K ta tx f):=by
 intro pins s σ H D EX I h
 refine gI (thn (hv pins s σ H _ EX I h) fun u s1 ⟨y,H1,I1,ry,q⟩=>cG (ha pins s1 σ H1 _ (I1.wish _) q) (fun ov s2 ⟨x,H2,I2',rx,a,C,dx,fs,ex,ea,c,n,l,q2⟩=>?_) fun _ _ z=>cH z) hs
 subst ex
 obtain rfl:ov=bJ a:=rx
 exact YH I2'.unwish ea c n l ry fun s3 I3=>⟨σ,_,I3,q2⟩
end
def zbS (K:bx) (tb:EXK→TS) (C1 C2:Addr) (th:TS):TS:=fun D σ H=>tb (fun cls σ1 H1=>∃ C,cls=.ref C∧mM K (.ref C) [.ref C1,.ref C2]=some true∧th D σ1 H1) D σ H
theorem zbT {base h:Heap} {l:List Env} {e:Addr} {cls a0:Value} (x:Heap.FlyingW base l e cls a0 h) (o:Obj):Heap.FlyingW base l e cls a0 (h.push o):=by
 obtain ⟨f1,f2,f3,oe,vs,T,oT,ts,a1,a2,a3,a4,a5,a6,a7,a8,a9⟩:=x
 exact ⟨fun b u q=>bi _ (f1 b u q),f2,f3.of_keeps (fun b u q _=>⟨u,bi _ q,rfl⟩),oe,vs,T,oT,ts,bi _ a1,a2,a3,a4,a5,a6,bi _ a7,a8,a9⟩
section
variable {X:Cx} {st b₀:Stmt} {suite:List Stmt} {tb:EXK→TS} {th:TS} {c1 c2:Str} {C1 C2:Addr} {np np2 hpos tpos pos:Pos} {x1:Nat}
theorem zdj (hst:X.stack=X.env :: X.outer∧X.env.frame=some X.env.locals) (hex:X.ex=[]) (hb:PSX X st tb) (hg1:Gl X c1) (hm1:X.mg c1=some (.ref C1)) (hg2:Gl X c2) (hm2:X.mg c2=some (.ref C2))
  (hs:∀ e,PSs (X.sub e) (b₀ :: suite) th) (hdb1:(c1 == ("__debug__":Str))=false:=by decide) (hdb2:(c2 == ("__debug__":Str))=false:=by decide) :
  PS X (.Try [st] [.ExceptHandler (some (.Tuple [.Name c1 np,.Name c2 np2] x1 tpos)) none (b₀ :: suite) hpos] [] [] pos) (zbS X.K tb C1 C2 th):=by
 intro pins s σ H D I h
 refine lZ (fX (cG (hb pins s σ H D _ I h) (fun f s1 q=>?_) fun ev s1 q=>?_))
 ·cases f with
  | next=>exact dy (dy q)
  | ret v=>exact q
  | brk=>exact q
  | cont=>exact q
 obtain ⟨e,cls,σ1,s0,H0,H1,rfl,I0,I1,xf,C,rfl,hx,hth⟩:=q
 obtain ⟨oe,vs,a0,T,oT,ts,h1,h2,h3,h4,h5,h6,h7,h8,h9,h10,h11,h12⟩:=xf
 have fr:s1.heap.FunFrames (eN s1.heap (frs X.stack ++ [e,T])) (X.env :: X.outer):=by
  have q:=fY (as:=frs X.stack ++ [e,T]) I1.stack fun env he a ha=>dh _ (eF.mpr ⟨env,he,ha⟩)
  rw [hst.1] at q ⊢
  exact q
 have two:∀ b∈[e,T],s0.heap.get? b=none∧H1 b=none:=fun b z=>by
  have z':b=e∨b=T:=by simpa using z
  rcases z' with rfl | rfl
  ·exact ⟨h9,h11⟩
  ·exact ⟨h10,h12⟩
 have hcs:∀ b∈[e,T],H1 b=none∧X.s₀.heap.get? b=none:=fun b z=>⟨(two b z).2,wN (I0.there0 hex) (two b z).1⟩
 have hcp:∀ b∈[e,T],∀ p∈X.pn ++ pins,p.1≠b:=fun b z p hp q=>by
  have:=(I0.pin p hp).1
  rw [q,(two b z).1] at this;cases this
 refine mB (base:=eN s1.heap (frs X.stack ++ [e,T])) (a0:=a0) (cls:=.ref C) (by rw [I1.ok.frames,hst.1]) hst.2
  ⟨fun b o q=>gS _ q,dX _ (bY _ (by simp)),fr,oe,vs,T,oT,ts,h1,h2,h3,h4,dX _ (bY _ (by simp)),h5,h6,h7,h8⟩ fun g4 held4 sm4=>?_
 refine n0 held4 fun g5 fly5 sm5=>?_
 have hB:∀ {g:Heap},(eN s1.heap (frs X.stack ++ [e,T])).StaysIn g→∀ b o,s1.heap.get? b=some o→b ∉ frs X.stack→b ∉ [e,T]→g.get? b=some o :=
  fun {g} k b o q n1 n2=>k b o (gn _ q fun z=>(bV.mp z).elim n1 n2)
 have I5:Inv X pins σ1 H1 { s1 with heap:=g5 }:=I1.land hex hcs hcp (hB fly5.1) (sm4.trans sm5)
 refine gf (fH ?_) (by intro q;cases q)
 refine wpAny_Tuple_spliced (eG (xX (X:=X.sub e) (I5.toSub (e:=e)) hg1 hm1 (eG (xX (X:=X.sub e) (I5.toSub (e:=e)) hg2 hm2 (gJ ⟨(by show 2≤sizeLine;decide),?_⟩) hdb2)) hdb1))
 have fly6:=zbT fly5 { cls:=.type "tuple",data:=.seq [bJ C1,bJ C2].toArray }
 have kp:∀ b o,g5.get? b=some o→(g5.push { cls:=.type "tuple",data:=.seq [bJ C1,bJ C2].toArray }).get? b=some o:=fun b o q=>bi _ q
 have hp:(g5.push { cls:=.type "tuple",data:=.seq [bJ C1,bJ C2].toArray }).get? g5.objs.size=some { cls:=.type "tuple",data:=.seq [bJ C1,bJ C2].toArray }:=bD _ rfl
 have K6:X.K.In (g5.push { cls:=.type "tuple",data:=.seq [bJ C1,bJ C2].toArray }):=(I5.kept (t':=s1.toks) kp).kIn
 have ty6:mz (model X.prog X.w) (g5.push { cls:=.type "tuple",data:=.seq [bJ C1,bJ C2].toArray }) (typeOf (.ref e)) (.ref C):=by
  obtain ⟨o,p1,p2⟩:=fly6.there
  exact p2 ▸ (lG p1).andThen .now
 refine (W.exm_tup2 K6 ty6 hp hx).here ?_
 refine mh (n9 fly6 fun g7 fly7 sm7=>?_)
 have I7:Inv X pins σ1 H1 { s1 with heap:=g7 }:=I1.land hex hcs hcp (hB fly7.1) (((sm4.trans sm5).trans (Heap.UpToSlots.of_keeps kp)).trans sm7)
 refine cG (hs e pins _ σ1 H1 D I7.toSub hth) (fun f s9 q=>?_) fun _ _ z=>cH z
 cases f with
 | next=>obtain ⟨σ9,H9,J,z⟩:=q;exact ⟨σ9,H9,Inv.ofSub (J:=I) J,z⟩
 | brk=>obtain ⟨σ9,H9,J,z⟩:=q;exact ⟨σ9,H9,Inv.ofSub (J:=I) J,z⟩
 | cont=>obtain ⟨σ9,H9,J,z⟩:=q;exact ⟨σ9,H9,Inv.ofSub (J:=I) J,z⟩
 | ret u=>obtain ⟨v,σ9,H9,J,r,z⟩:=q;exact ⟨v,σ9,H9,Inv.ofSub (J:=I) J,r,z⟩
end
end L2
namespace L2
open PySem PySem.Spec PyProof.Rows
end L2
namespace L2
open PySem PySem.Spec PyProof.Rows
end L2
namespace L2
open PySem PySem.Spec PyProof.Rows
def zbU (te ts:TE):TE:=fun σ H Q=>te σ H fun x H1=>ts σ H1 fun k H2=>∃ z y,x=.str z∧k=.int (-1)∧z.length≤sizeLine∧(∀ u,fh z none none (-1,u)=y)∧Q (.str y) H2
section
variable {X:Cx} {e st:Expr} {p2 pos:Pos} {te ts:TE}
theorem zdk (he:PE X e te) (hst:PE X st ts):PE X (.Subscript e (.Slice none none (some st) p2) pos) (zbU te ts):=by
 intro pins s σ H Q I h
 refine nP (thn (he pins s σ H _ I h) fun v s1 ⟨x,H1,I1,r1,h1⟩=>?_)
 refine wpAny_Slice ?_
 rw [nB]
 refine bj ?_
 refine bj ?_
 rw [evalPart_some]
 refine thn (hst pins s1 σ H1 _ I1 h1) fun u s2 ⟨k,H2,I2,r2,z,y,ex,ek,hz,hy,q1⟩=>?_
 subst ex ek
 obtain ⟨t,rfl⟩:=r1
 obtain ⟨uk,rfl⟩:=r2
 have I4:Inv X pins σ H2 { s2 with heap:=s2.heap.push { cls:=.type "slice",data:=.fields #[.none,.none,.int (-1) uk] } }:=I2.kept (t':=s2.toks) fun b ob q=>bi _ q
 refine tail_any (ops:=[.ref s2.heap.objs.size,.str z t]) (nQ _ _ _) nE.lookup ?_ (by with_unfolding_all rfl)
 refine lP (l:=none) (u:=none) (st:=some (-1,uk)) ⟨_,bD _ rfl,rfl,rfl⟩ (show ((-1:Int) == 0)=false by decide) ?_
 refine post_val_or_str ⟨bU (Txt.sliceBy_le z _ _ (-1,uk) (show (-1:Int)≠0 by decide)) hz,fun t' k=>⟨.str y,H2,I4.tok k,⟨t',by rw [← hy uk];rfl⟩,q1⟩⟩
end
end L2
namespace L2
open PySem PySem.Spec PyProof.Rows
end L2
namespace L2
open PySem PySem.Spec PyProof.Rows
end L2
namespace L2
open PySem PySem.Spec PyProof.Rows
section
variable {X:Cx} {tg:Expr}
def zey (K:bx) (tl:TE):TI:=fun σ H R=>tl σ H fun x H1=>∃ a,x=.ref a∧(((∃ xs,SqL K H1 a xs)∧R (Itl K a) H1)∨((∃ xs,SqT K H1 a xs)∧R (Itt K a) H1))
theorem zez {l:Expr} {tl:TE} (hl:PE X l tl):PI X tg l (zey X.K tl):=by
 intro pins s σ H R I h
 refine thn (hl pins s σ H _ I h) fun v s1 ⟨x,H1,I1,r1,q1⟩=>?_
 obtain ⟨a,e,q⟩:=q1
 subst e
 cases r1
 rcases q with ⟨⟨xs,hq⟩,q⟩ | ⟨⟨xs,hq⟩,q⟩
 ·obtain ⟨its,rv,p,hz⟩:=I1.list hq
  refine ll p.isList ?_
  refine ⟨s1.heap.objs.size,[s1.heap.objs.size],_,_,H1,rfl,I1.kept (t':=s1.toks) fun b o e=>bi _ e,X7 a _,⟨_,bD _ rfl,rfl,rfl⟩,fun b hb=>?_,q⟩
  have e:b=s1.heap.objs.size:=by simpa using hb
  subst e
  exact I1.fpOk (bo _) (I1.hok.fresh (bo _))
 ·obtain ⟨its,rv,p,hz⟩:=I1.tuple hq
  refine wpAny_pyIter_tuple (show s1.heap.IsTuple a its.toArray from p) ?_
  refine ⟨s1.heap.objs.size,[s1.heap.objs.size],_,_,H1,rfl,I1.kept (t':=s1.toks) fun b o e=>bi _ e,YF a _,⟨_,bD _ rfl,rfl,rfl⟩,fun b hb=>?_,q⟩
  have e:b=s1.heap.objs.size:=by simpa using hb
  subst e
  exact I1.fpOk (bo _) (I1.hok.fresh (bo _))
end
end L2
namespace HT
open PySem PySem.Spec PyProof.Rows
end HT
namespace L2
open PySem PySem.Spec PyProof.Rows
end L2
namespace L2
open PySem PySem.Spec PyProof.Rows
end L2
namespace L2
open PySem
section
variable {P:Program} {w:World} {A:Around} {E:Value→Shared→Prop} {s:Shared}
theorem zal {it d:Addr} {i ep:Nat} {es:Array DictEntry} {e:DictEntry} {ok ov:Value} {Q:Option Value→Shared→Prop} (hit:ItA s.heap it d i es.size ep .none false ok ov) (hm:RawD s.heap d es ep) (hx:es[i]?=some e)
  (q:∀ h',IsItemIterOut h' it d (i + 1) es.size ep e.key e.val s.heap.objs.size→h'.get? s.heap.objs.size=some { cls:=.type "tuple",data:=.seq #[e.key,e.val] }→h'.objs.size=s.heap.objs.size + 1 →
   (∀ b o,b≠it→s.heap.get? b=some o→h'.get? b=some o)→Q (some (.ref s.heap.objs.size)) { s with heap:=h' }):wpAny (model P w) A (pyNext (.ref it)) Q E s:=by
 obtain ⟨hp,g,dr,tk,os⟩:=s;obtain ⟨od,hod,hcd,hdd⟩:=id hm
 have T:lT ⟨hp,g,dr,tk,os⟩ (.ref it) "dict_itemiterator":=⟨_,hit,rfl⟩
 unfold pyNext;refine bd (e9 (dR (name:=bg "__next__") T cC (cO cC T eX ?_ (eV _))))
 refine bd (bj ?_);refine bd ?_;refine bd ?_
 first | (refine bd (cS T (bj ?_))) | (refine bd (dl T (bj ?_)))
 refine bd (gQ hit rfl ?_);have own:cZ "dict_itemiterator"=true:=by decide
 simp only [own,if_true];show wpAny _ _ (if (bJ d == cy)=true then _ else _) _ _ _
 rw [if_neg (show ¬ ((bJ d == cy)=true) from bK)];refine bd (bj ?_);refine bd (et hod hdd ?_)
 rw [if_neg (by simp)];refine bd (bj ?_);refine bd (eT hod hdd ?_);rw [if_neg (by simp)];refine bj ?_
 simp only [show ¬ ((i:Int) < 0) from by lia,if_false,ed,hx];refine bd ?_
 first | (refine bd (cS T (bj ?_))) | (refine bd (dl T (bj ?_)))
 refine bd (dG T ?_);show wpAny _ _ (setField (.ref it) 3 (rawInt ((i:Int) + 1)) >>= _) _ _ ⟨hp,g,dr,tk,os⟩
 refine bd (cQ hit (by simp) fun h₁ e1 s1=>?_)
 replace s1:cJ it hp h₁:=s1
 replace e1:ItA h₁ it d (i + 1) es.size ep .none false ok ov:=by
  have z:((i + 1:Nat):Int)=(i:Int) + 1:=by lia
  unfold ItA;rw [z];simpa [rawInt] using e1
 have T1:lT ⟨h₁,g,dr,tk,os⟩ (.ref it) "dict_itemiterator":=⟨_,e1,rfl⟩
 refine bd (df ?_);refine bd (dG T1 ?_);refine bd (dG T1 ?_)
 show wpAny _ _ (dE (.ref it) 6 e.key e.val) _ _ ⟨h₁,g,dr,tk,os⟩
 unfold dE;refine bd (i9 ?_)
 have e2:ItA (h₁.push { cls:=.type "tuple",data:=.seq #[e.key,e.val] }) it d (i + 1) es.size ep .none false ok ov:=bi _ e1
 generalize hg:h₁.push { cls:=.type "tuple",data:=.seq #[e.key,e.val] }=h₂ at e2
 have z1:h₁.objs.size=hp.objs.size:=s1.1;have il:it < hp.objs.size:=bS hit
 have t2:h₂.get? hp.objs.size=some { cls:=.type "tuple",data:=.seq #[e.key,e.val] }:=by rw [← hg,← z1];exact bD _ rfl
 have z2:h₂.objs.size=hp.objs.size + 1:=by rw [← hg,fV,z1]
 have k2:∀ b o,b≠it→hp.get? b=some o→h₂.get? b=some o:=fun b o hb z=>by rw [← hg];exact bi _ (s1.extBut b o hb z)
 show wpAny _ _ (dn (.ref it) >>= _) _ _ ⟨h₂,g,dr,tk,os⟩;rw [z1]
 clear hg e1 s1 T1 z1 h₁;refine bd ?_;unfold dn
 refine bd (fL e2 rfl (x:=.none) rfl (bj ?_));simp only [if_true]
 refine bd (fL e2 rfl (x:=ok) rfl ?_);refine bd (fL e2 rfl (x:=ov) rfl ?_)
 refine bd (cQ e2 (by simp) fun h₃ e3 s3=>?_);replace s3:cJ it h₂ h₃:=s3;replace e3:ItA h₃ it d (i + 1) es.size ep .none false e.key ov:=e3
 refine bd (cQ e3 (by simp) fun h₄ e4 s4=>?_);replace s4:cJ it h₃ h₄:=s4;replace e4:ItA h₄ it d (i + 1) es.size ep .none false e.key e.val:=e4
 refine bd (cQ e4 (by simp) fun h₅ e5 s5=>?_);replace s5:cJ it h₄ h₅:=s5;replace e5:ItA h₅ it d (i + 1) es.size ep (rawInt (hp.objs.size:Nat)) false e.key e.val:=e5
 refine bd (cQ e5 (by simp) fun h₆ e6 s6=>?_);replace s6:cJ it h₅ h₆:=s6;replace e6:ItA h₆ it d (i + 1) es.size ep (rawInt (hp.objs.size:Nat)) false e.key e.val:=e6
 have k6:∀ b o,b≠it→h₂.get? b=some o→h₆.get? b=some o:=fun b o hb z=>s6.extBut b o hb (s5.extBut b o hb (s4.extBut b o hb (s3.extBut b o hb z)))
 have t6:=k6 _ _ (dY il) t2
 refine bd (wpAny_letGo (bj (bj ⟨_,rfl,bj (q h₆ e6 t6 ?_ (fun b o hb z=>k6 b o hb (k2 b o hb z)))⟩)))
 show h₆.objs.size=hp.objs.size + 1;rw [s6.1,s5.1,s4.1,s3.1,z2]
theorem Y8:entryFor table "dict_itemiterator.__iter__"=some Builtin.«dict_keyiterator.__iter__» :=
 entryFor_alias (id':="dict_keyiterator.__iter__") (by kernel_rfl) rfl (by decide +kernel) (by kernel_rfl)
theorem Kt {it d:Addr} {i n ep:Nat} {ok ov:Value} {Q:Value→Shared→Prop} (hit:IsItemIter s.heap it d i n ep ok ov) (h:Q (.ref it) s):wpAny (model P w) A (pyIter (.ref it)) Q E s:=by
 have T:s.TypeIs (.ref it) "dict_itemiterator":=⟨_,hit,rfl⟩
 refine lH T ij (cO ij T Y8 ?_ (F.args_dict_itemiterator_iter_1 _))
 show wpAny _ _ (ret (.ref it)) _ _ s
 exact bj ⟨_,rfl,"dict_itemiterator",_,T,cC.lookup,h⟩
end
end L2
namespace L2
open PySem PySem.Spec PyProof.Rows
def Itm (a:Addr) (o:Obj) (kvs:List (List Key × V)):It :=
 ⟨fun i H=>H a=some (.frz o (.dT kvs))∧i < kvs.length,fun i H x H'=>∃ T k v p,kvs[i]?=some (k,v)∧x=.ref T∧H T=none∧H p=some (.tup (k.map kV))∧H'=upd H T (.tup [.ref p,v]),fun i H=>H a=some (.frz o (.dT kvs))∧kvs.length≤i⟩
section
variable {X:Cx}
theorem Y9 {pins:List (Addr × Obj)} {σ:St} {H:Hp} {s:Shared} {a:Addr} {o:Obj} {kvs:List (List Key × V)} (I:Inv X pins σ H s) (ha:H a=some (.frz o (.dT kvs))) :
  (a == sysModules)=false∧∃ (es:Array DictEntry) (ep:Nat),o.data=.dict es ep∧RawD s.heap a es ep∧es.size=kvs.length∧∀ (i:Nat) (e:DictEntry),es[i]?=some e→∃ (k:List Key) (v:V) (p:Addr),kvs[i]?=some (k,v)∧e.key=bJ p∧H p=some (.tup (k.map kV))∧RelV v e.val:=by
 obtain ⟨hg,hz,lo,xs,rel,o',es,ep,ho,hx,hd,he,hn⟩:=(show ObjOk X.prog X.w H s.heap a (.frz o (.dT kvs)) from I.hok a _ ha)
 rw [hg] at ho
 cases ho
 have lx:kvs.length=xs.length:=b5 rel
 have les:es.size=xs.length:=by rw [← ci,he,bt]
 refine ⟨lo,es,ep,hd,⟨o,hg,hx,hd⟩,by lia,fun i e hi=>?_⟩
 have e2:es.toList[i]?=some e:=by rw [dq];exact hi
 rw [he,bN] at e2
 obtain ⟨x,hxx,ex⟩:=cW.mp e2
 have hl:=(bC.mp hxx).1
 have hk:kvs[i]?=some kvs[i]:=bh (by lia)
 have rl:=yg rel hk hxx
 refine ⟨kvs[i].1,kvs[i].2,x.2.1,hk,by rw [← ex];rfl,rl.2.1,by rw [← ex];exact rl.2.2⟩
theorem Ku {P:Program} {w:World} {K:bx} {elts:List Expr} {x1} {pos:Pos} {a it:Addr} {o:Obj} {kvs:List (List Key × V)} {es:Array DictEntry} {ep:Nat} (hd:o.data=.dict es ep) :
  QQ P w K (.Tuple elts x1 pos) (Itm a o kvs) [it] it (fun i h=>∃ ok ov,IsItemIter h it a i es.size ep ok ov) where
 mem:=by simp
 obj:=fun i h st b hb=>by
  have e:b=it:=by simpa using hb
  subst e
  obtain ⟨ok,ov,st⟩:=st
  exact ⟨_,st,fun v z=>by cases z⟩
 keep:=fun i h h' ⟨ok,ov,st⟩ k=>⟨ok,ov,k it (by simp) _ st⟩
 item:=by
  intro X hP hw hK hc i pins s σ H E I hf st hg
  subst hP hw hK
  obtain ⟨ha,hi⟩:=hg
  obtain ⟨lo,es',ep',hd',raw,hs,key⟩:=Y9 I ha
  rw [hd] at hd'
  cases hd'
  obtain ⟨ok,ov,st⟩:=st
  have hx:es[i]?=some es[i]:=cu (by lia)
  obtain ⟨k,v,p,hk,ek,hp,rv⟩:=key i _ hx
  refine zal st raw hx fun h e8 t8 sz k8=>?_
  have I6:Inv X pins σ (upd H s.heap.objs.size (.tup [.ref p,v])) { s with heap:=s.heap.push { cls:=.type "tuple",data:=.seq #[es[i].key,es[i].val] } } :=
   I.laid (a:=s.heap.objs.size) (o:=.tup [.ref p,v]) (t':=s.toks) (fun b u e=>bi _ e) (bo _) ⟨by show 2≤sizeLine;decide,[es[i].key,es[i].val],.cons (by rw [ek];rfl) (.cons rv .nil),⟨_,bD _ rfl,rfl,_,rfl⟩⟩
  have old:∀ c∈[it],c≠s.heap.objs.size:=fun c hc=>by
   rw [bP.mp hc];exact ck (bS st)
  have free:∀ c∈[it],upd H s.heap.objs.size (HO.tup [.ref p,v]) c=none:=fun c hc=>by rw [zj (old c hc)];exact (hf c hc).1
  have fz:∀ c∈[it],jZ X pins (upd H s.heap.objs.size (HO.tup [.ref p,v])) c:=fun c hc=>⟨free c hc,(hf c hc).2⟩
  refine ⟨.ref s.heap.objs.size,rfl,wpAny_letOwnedTupleGo_items e8 fun h2 z9 sb2=>?_⟩
  have up:∀ c o,c≠it→h.get? c=some o→h2.get? c=some o:=fun c o hc e=>by
   rw [show h2.get? c=h.get? c from sb2.2 c hc];exact e
  have I7:Inv X pins σ (upd H s.heap.objs.size (.tup [.ref p,v])) { s with heap:=h2 }:=I6.turnedL (s:={ s with heap:=s.heap.push { cls:=.type "tuple",data:=.seq #[es[i].key,es[i].val] } }) (t':=s.toks) (ch:=[it]) (fun c o hc e=>by
   have hc:c≠it:=fun z=>hc (List.mem_singleton.mpr z)
   refine up c o hc ?_
   rcases mS (show (s.heap.push { cls:=.type "tuple",data:=.seq #[es[i].key,es[i].val] }).get? c=some o from e) with ⟨rfl,rfl⟩ | e
   ·exact t8
   ·exact k8 c o hc e) fun c hc=>fz c hc
  exact ⟨.ref s.heap.objs.size,_,I7,rfl,⟨_,k,v,p,hk,rfl,I.hok.fresh (bo _),hp,rfl⟩,⟨_,_,z9⟩,free⟩
 done:=by
  intro X hP hw hK hc i pins s σ H E I hf st hg
  subst hP hw hK
  obtain ⟨ha,hi⟩:=hg
  obtain ⟨lo,es',ep',hd',raw,hs,key⟩:=Y9 I ha
  rw [hd] at hd'
  cases hd'
  obtain ⟨ok,ov,st⟩:=st
  obtain ⟨f0,f1,f2,f3,f4,f5⟩:=hf it (by simp)
  exact Qr (I.ok.hd hc) st raw (by lia) fun h' eb=>⟨rfl,I.turned (t':=s.toks) (fun b o hb e=>eb b o hb e) f0 f1 f3 f4 f5⟩
 self:=fun _ _ _ _ _ st h=>by
  obtain ⟨ok,ov,st⟩:=st
  exact Kt st h
def zeA (td:TE):TI:=fun σ H R=>td σ H fun x H1=>∃ a o kvs,x=.ref a∧H1 a=some (.frz o (.dT kvs))∧R (Itm a o kvs) H1
theorem zbV {elts:List Expr} {x1} {tp:Pos} {o:Expr} {apos cpos:Pos} {td:TE} (ho:PE X o td) (hbase:attributeBase o "items" X.env (eval o X.env)=eval o X.env:=by rfl) (hline:(apos.endLine == cpos.line)=true:=by rfl):PI X (.Tuple elts x1 tp) (.Call (.Attribute o "items" apos) [] [] cpos) (zeA td):=by
 intro pins s σ H R I h
 refine gu hbase hline (thn (ho pins s σ H _ I h) fun v s1 ⟨x,H1,I1,r1,d,ob,kvs,ex,hd,q1⟩=>?_)
 subst ex
 obtain rfl:v=bJ d:=r1
 obtain ⟨lo,es,ep,hdd,raw,hs,key⟩:=Y9 I1 hd
 obtain ⟨t1,t2,t3⟩:=Ka I1 (.inr ⟨kvs,.inr ⟨ob,hd⟩⟩)
 refine ⟨"dict","dict.items",gA,ff,lU,t1,t2,eD rfl (iE ?_)⟩
 refine cO ff t1 lI ?_ (lg _)
 unfold Builtin.«dict.items»;refine bd ?_;unfold nr;refine bd (fJ t1 ?_)
 show wpAny _ _ (pure d) _ _ s1;refine bj ?_
 show wpAny _ _ (dN d >>= _) _ _ s1;unfold dN
 rw [if_neg (by rw [t3];exact bK)];refine bd (bj ?_)
 refine bd (cU (bj ⟨_,rfl,?_⟩))
 have at0:(s1.heap.push { cls:=.type "dict_items",data:=.fields #[.ref d] }).get? s1.heap.objs.size=some { cls:=.type "dict_items",data:=.fields #[.ref d] }:=bD _ rfl
 have I2:Inv X pins σ H1 { s1 with heap:=s1.heap.push { cls:=.type "dict_items",data:=.fields #[.ref d] } }:=I1.kept (t':=s1.toks) fun b u e=>bi _ e
 have raw2:RawD (s1.heap.push { cls:=.type "dict_items",data:=.fields #[.ref d] }) d es ep:=raw.at fun o e=>bi _ e
 refine Jg (s:={ s1 with heap:=s1.heap.push { cls:=.type "dict_items",data:=.fields #[.ref d] } }) ⟨_,at0,rfl,rfl⟩ raw2 ?_
 generalize hg:(s1.heap.push { cls:=.type "dict_items",data:=.fields #[.ref d] }:Heap)=h2 at *
 refine ⟨h2.objs.size,[h2.objs.size],_,_,H1,rfl,I2.kept (s:={ s1 with heap:=h2 }) (t':=s1.toks) fun b o e=>bi _ e,Ku hdd,⟨.none,.none,bD _ rfl⟩,fun b hb=>?_,q1⟩
 have e:b=h2.objs.size:=by simpa using hb
 subst e
 exact I2.fpOk (bo _) (I2.hok.fresh (bo _))
end
end L2
namespace L2
open PySem PySem.Spec PySem.W PyProof.Rows
abbrev zbW (K:bx):RC:=fun vs H Q=>∃ r ns,vs=[.ref r]∧SqL K H r (b7 V.int ns)∧ns.length≤64 ∧
 ∀ (l:Addr) (srt:List Int),H l=none→srt.length=ns.length→(ns.length < 64→srt.Perm ns∧(ns.Nodup→srt.Pairwise (· < ·)))→Q (.ref l) (upd H l (.lst (srt.map V.int)))
theorem Qy:∀ (out:List Value),(∀ v∈out,∃ n t,v=fj n t)→∃ srt:List Int,Vals (srt.map V.int) out∧srt.length=out.length
 | [],_=>⟨[],.nil,rfl⟩
 | v :: out,h=>by
  obtain ⟨n,t,e⟩:=h v bF
  obtain ⟨srt,h1,h2⟩:=Qy out fun u hu=>h u (bB _ hu)
  exact ⟨n :: srt,.cons ⟨t,e⟩ h1,congrArg (· + 1) h2⟩
theorem zam {rs:List Int} (h:rs.length < 2):rs.Pairwise (· < ·):=by
 match rs,h with
 | [],_=>exact .nil
 | [x],_=>exact List.pairwise_singleton _ _
 | _ :: _ :: _,h=>simp at h;lia
theorem zbX {qs:List Int} (hn:qs.Nodup):SO (fun i j=>decide (qs.getD i 0 < qs.getD j 0)) qs.length where
 irr:=fun i _=>decide_eq_false (by lia)
 trans:=fun i j k _ _ _ h1 h2=>by
  have h1:=of_decide_eq_true h1
  have h2:=of_decide_eq_true h2
  exact decide_eq_true (by lia)
 tot:=fun i j hi hj hij h=>by
  have ne:qs.getD i 0≠qs.getD j 0:=fun z=>hij (by
   rw [bp,bp,bh hi,bh hj] at z
   exact (fk hn).mp z)
  have h:=of_decide_eq_false h
  exact decide_eq_true (by lia)
section
variable {X:Cx}
theorem Vj (hc:X.calm=true) (hu:X.A.units + 3 < cLine):wR X (.builtin "sorted") (zbW X.K):=by
 intro pins s σ H vs us Q I r0 h
 obtain ⟨r,rs,rfl,hq,h64,q⟩:=h
 obtain ⟨u,rfl,ru⟩:=Za r0
 cases ru
 obtain ⟨vs,rv,⟨o,n,ho,oc,_,od⟩,hz⟩:=I.list hq
 have l2:=rv.length
 rw [bt] at l2
 have klen:vs.length=rs.length:=by lia
 have kat:∀ (i:Nat) (n:Int),rs[i]?=some n→∃ t,vs[i]?=some (.int n t):=fun i n hi=>by
  obtain ⟨u,hu',ru⟩:=rv.get (show (rs.map V.int)[i]?=some (V.int n) by rw [bN,hi];rfl)
  obtain ⟨t,e⟩:=ru
  exact ⟨t,by rw [hu',e]⟩
 have getI:∀ i,i < rs.length→∃ t,vs.getD i cy=.int (rs.getD i 0) t:=fun i hi=>by
  obtain ⟨t,ht⟩:=kat i rs[i] (bh hi)
  exact ⟨t,by rw [bp,ht,bp,bh hi];rfl⟩
 have kind:2≤vs.length→∀ (h:Heap) (tk:Nat) (Q:SortKind→Shared→Prop),Q oneType' { s with heap:=h,toks:=tk }→wpAny (model X.prog X.w) X.A.in1.in1 (keyKind' vs.toArray) Q (fun _ _=>False) { s with heap:=h,toks:=tk }:=fun h2 h tk Q' q'=>by
  refine kas_kind (T:=.type "int") h2 (fun v hv=>?_) (by decide) (by decide) q'
  obtain ⟨i,hi⟩:=dQ hv
  have hl:=(bC.mp hi).1
  obtain ⟨t,ht⟩:=kat i rs[i] (bh (by lia))
  rw [hi] at ht
  cases ht
  exact Looks.of_pure rfl
 refine Kn (vs:=vs) (κ:=oneType') (G:=fun out=>∃ srt:List Int,Vals (srt.map V.int) out∧srt.length=rs.length∧(rs.length < 64→srt.Perm rs∧(rs.Nodup→srt.Pairwise (· < ·)))) (by lia) (fun l=>⟨rs,rv,rfl,fun z=>⟨.refl _,fun _=>zam (by lia)⟩⟩) (fun R hR=>?_) (fun h2 h tk Q' kp q'=>kind h2 h tk Q' q') (fun h2 h tk kp=>?_) fun h tk h' out c k1 k2 hD hg=>?_
 ·refine wpAny_collect_seq r (.inl rfl) ho oc od (fun h' k=>?_) (by rw [bM];exact bU (by lia:_≤64) (by decide))
  have e:({ s with heap:=h' }:Shared)={ s with heap:=h',toks:=s.toks }:=rfl
  rw [e]
  exact hR h' s.toks k
 ·by_cases c64:vs.length < 64
  ·have run:=Kl (s:={ s with heap:=h,toks:=tk }) (n:=vs.length) (lt:=fun i j=>decide (rs.getD i 0 < rs.getD j 0)) (cmp:=kas_ask X.prog X.w X.A.in1.in1 oneType' vs) (fun i j C hi hj hij q'=>by
    rw [klen] at hi hj
    obtain ⟨t1,e1⟩:=getI i hi
    obtain ⟨t2,e2⟩:=getI j hj
    have key2:=kat_lt_int (prog:=X.prog) (w:=X.w) (A:=X.A.in1.in1) (E:=fun _ _=>False) (s:={ s with heap:=h,toks:=tk }) (t:=t1) (u:=t2) (Q:=C) q'
    rw [← e1,← e2] at key2
    exact key2) (zbo (by lia)) (Q:=fun p s'=>s'={ s with heap:=h,toks:=tk }∧PP vs.length p∧(SO (fun i j=>decide (rs.getD i 0 < rs.getD j 0)) vs.length→v9 (fun i j=>decide (rs.getD i 0 < rs.getD j 0)) p vs.length)) fun p hp=>⟨rfl,hp⟩
   refine cG (kat_run (ks:=vs) (Q:=fun st s'=>∃ p:Array Nat,arrOf st=p.map (kas_item (vs.toArray.zip vs.toArray))∧failedOf st=none∧s'={ s with heap:=h,toks:=tk }∧PP vs.length p∧(SO (fun i j=>decide (rs.getD i 0 < rs.getD j 0)) vs.length→v9 (fun i j=>decide (rs.getD i 0 < rs.getD j 0)) p vs.length)) rfl h2 c64 (fun p st s' _ a2 a3 a4=>⟨p,a2,a3,a4⟩) run) ?_ fun _ _ e=>e
   rintro ⟨⟨⟩,st⟩ s' ⟨p,har,hf,rfl,hp,hr⟩
   have out:=kat_snds (ks:=vs) rfl har
   rw [klen] at hp hr
   have sz:=hp.size
   have ol:(xl vs p).length=vs.length:=by unfold xl;rw [bt,ci,hp.size,klen]
   refine ⟨rfl,hf,?_,?_⟩
   ·have o2:(arrOf st |>.map (·.2))=(xl vs p).toArray:=out
    rw [o2,bM,ol];lia
   rw [out]
   have vk:Vals (p.toList.map fun i=>(rs.map V.int).getD i V.non) (xl vs p):=xw rv V.non cy (is:=p.toList) fun i hi=>by have:=hp.lt i hi;rw [bt];exact this
   have e3:(p.toList.map fun i=>(rs.map V.int).getD i V.non)=(p.toList.map fun i=>rs.getD i 0).map V.int:=by
    rw [dD]
    refine eC fun i hi=>?_
    have:=hp.lt i hi
    rw [bp,bN,bh this]
    show V.int rs[i]=V.int (rs.getD i 0)
    rw [bp,bh this]
    rfl
   rw [e3] at vk
   refine ⟨p.toList.map fun i=>rs.getD i 0,vk,?_,fun _=>⟨(hp.list.map _).trans (by rw [qK]),fun nd=>(qL (F:=fun a b:Int=>decide (a < b)) hp (hr (zbX nd))).imp fun h=>of_decide_eq_true h⟩⟩
   rw [bt,ci,sz]
  ·have n64:vs.length=64:=by lia
   refine cG (zac (κ:=oneType') (I:=fun k=>(∃ n t,k.1=fj n t)∧∃ n t,k.2=fj n t) (E:=fun _ _=>False) (Q:=fun _ st=>failedOf st=none∧((arrOf st).map (·.2)).size≤64∧∃ srt:List Int,Vals (srt.map V.int) ((arrOf st).map (·.2)).toList∧srt.length=rs.length∧(rs.length < 64→srt.Perm rs∧(rs.Nodup→srt.Pairwise (· < ·)))) ?_ ⟨rfl,rfl,?_,?_,rfl⟩ fun P st k=>?_) (fun r s' h=>by obtain ⟨rfl,h⟩:=h;exact ⟨rfl,h⟩) fun _ _ e=>e
   ·rintro x y C ⟨⟨n,t,e1⟩,_⟩ ⟨⟨m,u,e2⟩,_⟩ q'
    rw [e1,e2]
    exact kat_lt_int (q' _)
   ·intro x hx
    have hx:x∈vs.zip vs:=by simpa using hx
    obtain ⟨i,hi⟩:=dQ hx
    rw [List.getElem?_zip_eq_some] at hi
    have hl:=(bC.mp hi.1).1
    obtain ⟨t,ht⟩:=kat i rs[i] (bh (by lia))
    have e1:=hi.1.symm.trans ht
    have e2:=hi.2.symm.trans ht
    exact ⟨⟨_,_,cf e1⟩,_,_,cf e2⟩
   ·show (vs.toArray.zip vs.toArray).size=64
    simp [n64]
   ·have sz:=k.n
    refine ⟨k.f,by rw [oN,sz];exact bo _,?_⟩
    obtain ⟨srt,h1,h2'⟩:=Qy ((arrOf st).map (·.2)).toList fun v hv=>by
     rw [l5] at hv
     obtain ⟨x,hx,rfl⟩:=cm.mp hv
     exact (k.i x hx).2
    exact ⟨srt,h1,by rw [h2',ci,oN,sz];lia,fun z=>by lia⟩
 ·have I1:Inv X pins σ H { s with heap:=h,toks:=tk }:=I.kept k1
  have fr:H h.objs.size=none:=I1.hok.fresh (bo _)
  obtain ⟨srt,vk,ls,hp⟩:=hg
  have I2:Inv X pins σ (upd H h.objs.size (.lst (srt.map V.int))) { s with heap:=h',toks:=tk }:=I1.laid (s:={ s with heap:=h,toks:=tk }) (a:=h.objs.size) (o:=.lst (srt.map V.int)) (t':=tk) k2 (bo _)
   ⟨by rw [bt,ls];exact bU (by lia:_≤1000) (by decide),_,c,vk,hD⟩
  exact ⟨.ref h.objs.size,_,I2,rfl,q _ srt fr ls hp⟩
end
theorem Zp {α β:Type} {F:α→β→Prop}:∀ {a:List α} {b:List β},a.length=b.length→(∀ (i:Nat) (x:α) (y:β),a[i]?=some x→b[i]?=some y→F x y)→Paired F a b
 | [],[],_,_=>.nil
 | x :: a,y :: b,h,f=>.cons (f 0 x y rfl rfl) (Zp (by simpa using h) fun i x' y' h1 h2=>f (i + 1) x' y' h1 h2)
 | [],_ :: _,h,_=>by simp at h
 | _ :: _,[],h,_=>by simp at h
theorem zdl (n:Nat) (us:List Value) (hl:us.length=n) (h:∀ (i:Nat) (v:Value),us[i]?=some v→∃ t,v=.int (i:Nat) t):Vals ((bZ n).map fun i=>V.int (i:Nat)) us:=by
 refine Zp (by simp [hl]) fun i a b ha hb=>?_
 rw [bN] at ha
 obtain ⟨j,hj,rfl⟩:=cW.mp ha
 have:=bC.mp hj
 obtain ⟨lt,e⟩:=this
 rw [List.getElem_range] at e
 subst e
 obtain ⟨t,e⟩:=h _ _ hb
 exact ⟨t,e⟩
def zbY (ta:TA):TE:=fun σ H Q=>ta σ H fun vs H1=>∃ n:Nat,vs=[.int n]∧n≤1000∧∀ l,H1 l=none→Q (.ref l) (upd H1 l (.lst ((bZ n).map fun i=>V.int (i:Nat))))
section
variable {X:Cx} {a:Expr} {ta:TA} {p p2 pos pos2:Pos}
theorem zdm (hc:X.calm=true) (hg1:Gl X "list") (hm1:X.mg "list"=none) (hg2:Gl X "range") (hm2:X.mg "range"=none) (ha:PA X [a] ta) (hs:starEach [a] X.env=[(false,eval a X.env)]:=by rfl)
  (he:starEach [.Call (.Name "range" p2) [a] [] pos2] X.env=[(false,eval (.Call (.Name "range" p2) [a] [] pos2) X.env)]:=by rfl):PE X (.Call (.Name "list" p) [.Call (.Name "range" p2) [a] [] pos2] [] pos) (zbY ta):=by
 intro pins s σ H Q I h
 refine eI (qw I hg1 hm1 xg ?_ (by decide) (by decide))
 refine dz ?_ he rfl
 rw [he]
 show wpAny _ _ (spliced ((false,eval (.Call (.Name "range" p2) [a] [] pos2) X.env) :: backTo pos (starEach [] X.env))) _ _ s
 refine eG ?_
 refine Call_ (qw I hg2 hm2 boot_range (dz (thn (ha pos2 pins s σ H _ I h) fun us s1 ⟨vs,H1,I1,r1,q1⟩=>?_) hs rfl))
 obtain ⟨n,e,hn,q⟩:=q1
 subst e
 cases r1 with
 | cons r rr =>
  cases rr
  obtain ⟨t,rfl⟩:=r
  refine call_range_1 ?_
  refine gJ ?_
  have e2:eZ 0 (n:Int) 1=(n:Int):=by rw [rangeSize_one];split <;> lia
  refine call_list_range (I1.ok.hd hc) (oC ..) (small_one (by lia) (by lia) (by lia) (by lia)) e2 (bU hn (by decide)) fun h' tk acc c k hS it=>?_
  have sz:(s1.heap.push { cls:=.type "range",data:=.fields #[.int 0 s1.toks,.int (n:Int) t,.int 1 (s1.toks + 1)] }).objs.size=s1.heap.objs.size + 1:=fV ..
  rw [sz] at hS ⊢
  refine ⟨.ref (s1.heap.objs.size + 1),upd H1 (s1.heap.objs.size + 1) (.lst ((bZ n).map fun i=>V.int (i:Nat))),?_,rfl,q _ (I1.hok.fresh (oG _))⟩
  refine I1.laid (a:=s1.heap.objs.size + 1) (o:=.lst ((bZ n).map fun i=>V.int (i:Nat))) (t':=tk) (fun c o e=>k c o (bi _ e)) (oG _) ⟨by rw [bt,dg];exact bU hn (by decide),acc.toList,c,?_,by rw [Array.toArray_toList];exact hS⟩
  have rv:=zdl n acc.toList (by rw [ci];exact it.1) fun i v hv=>by
   obtain ⟨t,e⟩:=it.2 i v (by rw [← dq];exact hv)
   exact ⟨t,by rw [e];simp⟩
  exact rv
end
end L2
namespace L2
open PySem PySem.Spec PySem.W PyProof.Rows PySem.Calls
end L2
namespace L2
open PySem PySem.Spec PyProof.Rows
structure FG (K:bx) (mg:Str→Option Value) (x:Str) (st:Stmt) (ps:List Str) (a:Addr) (d:FuncData):Prop where
 f:Fun K x x st a d
 b:Binds K d ps []
 m:mg x=some (.ref a)
structure FM (K:bx) (C:Addr) (x qual:Str) (st:Stmt) (ps:List Str) (a:Addr) (d:FuncData):Prop where
 f:Fun K x qual st a d
 b:Binds K d ps []
 me:QU K C x a
abbrev QF (K:bx) (x qual:Str) (st:Stmt) (a:Addr):Prop:=∃ oc od sl kV dc pm an cd ct,K.lookup a=some ⟨oc,od,.func (iV x qual (y9 st) (yE st) (zk st) .none kV dc pm an cd ct),sl⟩∧iW K cd qual=true∧fN K (.ref a)=true
abbrev QG (K:bx) (x:Str) (st:Stmt):Prop:=∃ a,fu K mainGlobals x=some (some (.ref a))∧QF K x x st a
abbrev QM (K:bx) (C:Addr) (x qual:Str) (st:Stmt):Prop:=∃ a,dk K (.ref C) x=some (some (.ref a))∧oV K (.ref a)=true∧QF K x qual st a
section
variable {K:bx} {h:Heap} {mg:Str→Option Value} {x qual:Str} {st:Stmt} {a C:Addr} {ps:List Str}
theorem QF.to (q:QF K x qual st a) (hb:∀ (kV doc pm:Value) (an:Option Addr) (cdv ct:Value) (us:List Value),us.length=ps.length→bindArgs (iV x qual (y9 st) (yE st) (zk st) .none kV doc pm an cdv ct) ⟨us,[]⟩=pure (ps.zip us)):∃ d,Fun K x qual st a d∧Binds K d ps []∧fN K (.ref a)=true:=by
 obtain ⟨oc,od,sl,kV,dc,pm,an,cd,ct,h1,h2,h3⟩:=q
 have F:=Kc (st:=st) h1 h2 h3
 exact ⟨_,F,F.binds hb,h3⟩
abbrev bA (x qual:Str) (st:Stmt) (us:List Value) (bs:List (Str × Value)):Prop:=∀ (kV doc pm:Value) (an:Option Addr) (cdv ct:Value),bindArgs (iV x qual (y9 st) (yE st) (zk st) .none kV doc pm an cdv ct) ⟨us,[]⟩=pure bs
theorem QG.to (X:K.In h) (G:h.Ns mainGlobals mg) (q:QG K x st) (hb:∀ us:List Value,us.length=ps.length→bA x x st us (ps.zip us)):∃ a d,FG K mg x st ps a d:=by
 obtain ⟨a,n,q⟩:=q
 obtain ⟨d,F,B,_⟩:=QF.to q fun _ _ _ _ _ _ us hl=>hb us hl _ _ _ _ _ _
 exact ⟨a,d,F,B,gD X G n⟩
theorem QM.to (q:QM K C x qual st) (hb:∀ us:List Value,us.length=ps.length→bA x qual st us (ps.zip us)):∃ a d,FM K C x qual st ps a d:=by
 obtain ⟨a,n,i,q⟩:=q
 obtain ⟨d,F,B,k⟩:=QF.to q fun _ _ _ _ _ _ us hl=>hb us hl _ _ _ _ _ _
 exact ⟨a,d,F,B,n,i,k⟩
theorem ar1 {P:List Value→Prop} (h:∀ a,P [a]):∀ us,us.length=1→P us
 | [a],_=>h a
theorem ar2 {P:List Value→Prop} (h:∀ a b,P [a,b]):∀ us,us.length=2→P us
 | [a,b],_=>h a b
theorem ar3 {P:List Value→Prop} (h:∀ a b c,P [a,b,c]):∀ us,us.length=3→P us
 | [a,b,c],_=>h a b c
variable (X:K.In h) (G:h.Ns mainGlobals mg) (u v w:Str)
include X G in
theorem QG.a1 (q:QG K x st) (hb:∀ a,bA x x st [a] [(u,a)]:=by exact fun _ _ _ _ _ _ _=>rfl):∃ a d,FG K mg x st [u] a d:=QG.to X G q (ar1 hb)
include X G in
theorem QG.a2 (q:QG K x st) (hb:∀ a b,bA x x st [a,b] [(u,a),(v,b)]:=by exact fun _ _ _ _ _ _ _ _=>rfl):∃ a d,FG K mg x st [u,v] a d:=QG.to X G q (ar2 hb)
include X G in
theorem QG.a3 (q:QG K x st) (hb:∀ a b c,bA x x st [a,b,c] [(u,a),(v,b),(w,c)]:=by exact fun _ _ _ _ _ _ _ _ _=>rfl):∃ a d,FG K mg x st [u,v,w] a d:=QG.to X G q (ar3 hb)
theorem QM.a1 (q:QM K C x qual st) (hb:∀ a,bA x qual st [a] [(u,a)]:=by exact fun _ _ _ _ _ _ _=>rfl):∃ a d,FM K C x qual st [u] a d:=QM.to q (ar1 hb)
theorem QM.a2 (q:QM K C x qual st) (hb:∀ a b,bA x qual st [a,b] [(u,a),(v,b)]:=by exact fun _ _ _ _ _ _ _ _=>rfl):∃ a d,FM K C x qual st [u,v] a d:=QM.to q (ar2 hb)
theorem QM.a3 (q:QM K C x qual st) (hb:∀ a b c,bA x qual st [a,b,c] [(u,a),(v,b),(w,c)]:=by exact fun _ _ _ _ _ _ _ _ _=>rfl):∃ a d,FM K C x qual st [u,v,w] a d:=QM.to q (ar3 hb)
end
abbrev QX (K:bx) (a:Addr):Prop:=∃ cl,dk K (.ref a) "__getattribute__"=some (some (.builtin "BaseException.__getattribute__"))∧dk K (.ref a) "__getattr__"=some none∧dk K (.ref a) "__class__"=some (some (.builtin "object.__class__"))∧oP K a (.type "object")=some true∧oP K a (.type "BaseException")=some true∧oF K (.builtin "object.__class__") "__get__"=some (some (.builtin "getset_descriptor.__get__"))∧W.takesIn K (.builtin "object.__class__")=some true∧oR K a=some cl
theorem QX.to {K:bx} {a:Addr} (q:QX K a):ExK K a:=by
 obtain ⟨cl,h1,h2,h3,h4,h5,h6,h7,h8⟩:=q
 exact ⟨⟨h1,h2,h3,h4,h5,h6,h7⟩,by rw [h8];rfl⟩
section
variable {X:Cx} {CX:CXT} {j k:Nat} {a C:Addr} {d:FuncData} {ps:List Str} {sp:Sp} {x m qual:Str} {st:Stmt} {p pos apos:Pos} {o e:Expr} {es:List Expr} {ta:TE} {t:TA} {E:XK}
theorem pcG (F:FnOk X.prog X.w X.K X.mg X.base CX j a d ps sp) (G:FG X.K X.mg x st ps a d) (hr:Room k X.A) (hx:jl CX X E) (ha:PA X (e :: es) t) (hj:j≤k:=by decide) (hg:Gl X x:=by exact rfl) (hdb:(x == ("__debug__":Str))=false:=by decide) (he:starEach (e :: es) X.env=(false,eval e X.env) :: starEach es X.env:=by rfl) (hpl:(backTo pos (starEach es X.env)).any (·.1)=false:=by rfl) :
  PE X (.Call (.Name x p) (e :: es) [] pos) (zp sp [] E t):=Zd (F.mono hj) hr hg G.m G.f.kp G.b .nil hx ha hdb he hpl
theorem pxG (F:FnOk X.prog X.w X.K X.mg X.base (CX1 X.prog X.w) j a d ps sp) (G:FG X.K X.mg x st ps a d) (hr:Room k X.A) (ha:PA X.nox (e :: es) t) (hj:j≤k:=by decide) (hg:Gl X x:=by exact rfl) (hdb:(x == ("__debug__":Str))=false:=by decide) (he:starEach (e :: es) X.env=(false,eval e X.env) :: starEach es X.env:=by rfl) (hpl:(backTo pos (starEach es X.env)).any (·.1)=false:=by rfl) :
  PEX X (.Call (.Name x p) (e :: es) [] pos) (W5 sp t):=za2 (F.mono hj) hr hg G.m G.f.kp G.b ha hdb he hpl
end
end L2
namespace K54
open PySem L2
def top (i:Nat):Stmt:=PySem.Challenge.pw_forerun_k54_done_in_an_order.main.body.getD i (.Pass ⟨0,0,0,0⟩)
abbrev ka:Stmt:=top 36
abbrev wL:Stmt:=top 37
abbrev xG:Stmt:=top 38
abbrev vG:Stmt:=top 39
abbrev jr:Stmt:=top 43
abbrev vH:Stmt:=top 32
abbrev qN:Stmt:=top 31
abbrev ZH:Stmt:=top 33
abbrev wU:Stmt:=top 35
abbrev kc:Stmt:=top 40
abbrev qO:Stmt:=top 41
abbrev wM:Stmt:=top 42
abbrev js:Stmt:=top 44
abbrev xU:Stmt:=xY (top 25) 0
abbrev qP:Stmt:=xY (top 25) 1
abbrev ke:Stmt:=xY (top 25) 4
abbrev ZI:Stmt:=top 20
abbrev ZJ:Stmt:=top 21
abbrev qQ:Stmt:=top 17
abbrev Xa:Stmt:=top 22
abbrev qR:Stmt:=top 23
abbrev wV:Stmt:=xY (top 25) 5
abbrev wW:Stmt:=xY (top 25) 6
abbrev qS:Stmt:=xY (top 25) 2
abbrev kg:Stmt:=xY (top 25) 9
abbrev qT:Stmt:=xY (top 25) 8
abbrev jt:Stmt:=xY (top 25) 7
abbrev xV:Stmt:=xY (top 25) 3
abbrev Xb:Stmt:=top 14
abbrev zbZ:Stmt:=top 26
abbrev vp:Stmt:=top 47
abbrev ju:Stmt:=top 48
abbrev jv:Stmt:=top 28
abbrev jx:Stmt:=top 13
abbrev ZK:Stmt:=top 15
abbrev jz:Stmt:=top 29
abbrev jA:Stmt:=top 49
abbrev jB:Stmt:=top 50
abbrev wX:Stmt:=top 46
abbrev kh:Stmt:=top 45
abbrev Xc:Stmt:=top 51
theorem sc__law_draw:zC ["cell","j","far"] ["cell","j"] (zk ka):=⟨rfl,rfl,rfl,by decide +kernel,rfl,by decide +kernel,by decide +kernel⟩
theorem sc__law_names:zC ["cell","many","size","signs","stem","k","at","turn"] ["cell","many"] (zk wL):=⟨rfl,rfl,rfl,by decide +kernel,rfl,by decide +kernel,by decide +kernel⟩
theorem sc__law_shelves:zC ["cell","many","signs","stem","more","some","turn"] ["cell","many"] (zk xG):=⟨rfl,rfl,rfl,by decide +kernel,rfl,by decide +kernel,by decide +kernel⟩
theorem Xd:zC ["cell","j"] ["cell","j"] (zk vG):=⟨rfl,rfl,rfl,by decide +kernel,rfl,by decide +kernel,by decide +kernel⟩
theorem sc__law_table:zC ["cell","shelves","worths","k","worth"] ["cell","shelves"] (zk jr):=⟨rfl,rfl,rfl,by decide +kernel,rfl,by decide +kernel,by decide +kernel⟩
theorem sc_block_steps:zC ["row","at","steps","to","others"] ["row","at"] (zk vH):=⟨rfl,rfl,rfl,by decide +kernel,rfl,by decide +kernel,by decide +kernel⟩
theorem sc_steps_of:zC ["rows","first","steps","row"] ["rows","first"] (zk qN):=⟨rfl,rfl,rfl,by decide +kernel,rfl,by decide +kernel,by decide +kernel⟩
theorem Kv:zC ["rows"] ["rows"] (zk ZH):=⟨rfl,rfl,rfl,by decide +kernel,rfl,by decide +kernel,by decide +kernel⟩
theorem Ym:zC ["script","k"] ["script","k"] (zk wU):=⟨rfl,rfl,rfl,by decide +kernel,rfl,by decide +kernel,by decide +kernel⟩
theorem sc__law_term:zC ["cell","j","slots","slot","kind","words"] ["cell","j","slots"] (zk kc):=⟨rfl,rfl,rfl,by decide +kernel,rfl,by decide +kernel,by decide +kernel⟩
theorem sc__law_row:zC ["cell","slots","shelves","kind","shelf","slot","place"] ["cell","slots","shelves"] (zk qO):=⟨rfl,rfl,rfl,by decide +kernel,rfl,by decide +kernel,by decide +kernel⟩
theorem sc__law_codes:zC ["script","slots","shelves","many","cells","codes","at"] ["script","slots","shelves"] (zk wM):=⟨rfl,rfl,rfl,by decide +kernel,rfl,by decide +kernel,by decide +kernel⟩
theorem sc__law_order:zC ["script","many","order","rank"] ["script","many"] (zk js):=⟨rfl,rfl,rfl,by decide +kernel,rfl,by decide +kernel,by decide +kernel⟩
theorem Jq:zC ["self","code"] ["self","code"] (zk xU):=⟨rfl,rfl,rfl,by decide +kernel,rfl,by decide +kernel,by decide +kernel⟩
theorem Jr:zC ["self"] ["self"] (zk qP):=⟨rfl,rfl,rfl,by decide +kernel,rfl,by decide +kernel,by decide +kernel⟩
theorem sc_Run_paper:zC ["self","notes"] ["self"] (zk ke):=⟨rfl,rfl,rfl,by decide +kernel,rfl,by decide +kernel,by decide +kernel⟩
theorem Kw:zC ["word","first","second"] ["word","first","second"] (zk ZI):=⟨rfl,rfl,rfl,by decide +kernel,rfl,by decide +kernel,by decide +kernel⟩
theorem Kx:zC ["word","first","second"] ["word","first","second"] (zk ZJ):=⟨rfl,rfl,rfl,by decide +kernel,rfl,by decide +kernel,by decide +kernel⟩
theorem Js:zC ["thing"] ["thing"] (zk qQ):=⟨rfl,rfl,rfl,by decide +kernel,rfl,by decide +kernel,by decide +kernel⟩
theorem sc_joined:zC ["word","first","second","worth"] ["word","first","second"] (zk Xa):=⟨rfl,rfl,rfl,by decide +kernel,rfl,by decide +kernel,by decide +kernel⟩
theorem sc_reckoned:zC ["term","slots","worths","part","second","first"] ["term","slots"] (zk qR):=⟨rfl,rfl,rfl,by decide +kernel,rfl,by decide +kernel,by decide +kernel⟩
theorem Yn:zC ["self","term"] ["self","term"] (zk wV):=⟨rfl,rfl,rfl,by decide +kernel,rfl,by decide +kernel,by decide +kernel⟩
theorem Yo:zC ["self","due"] ["self","due"] (zk wW):=⟨rfl,rfl,rfl,by decide +kernel,rfl,by decide +kernel,by decide +kernel⟩
theorem sc_Run_asks:zC ["self","place"] ["self"] (zk qS):=⟨rfl,rfl,rfl,by decide +kernel,rfl,by decide +kernel,by decide +kernel⟩
theorem Vk:zC ["self","place","worth"] ["self","place","worth"] (zk kg):=⟨rfl,rfl,rfl,by decide +kernel,rfl,by decide +kernel,by decide +kernel⟩
theorem sc_Run_does:zC ["self","due","worth","place"] ["self","due","worth"] (zk qT):=⟨rfl,rfl,rfl,by decide +kernel,rfl,by decide +kernel,by decide +kernel⟩
theorem XM:zC ["self","due","worth"] ["self","due","worth"] (zk jt):=⟨rfl,rfl,rfl,by decide +kernel,rfl,by decide +kernel,by decide +kernel⟩
theorem Jt:zC ["self","worth"] ["self","worth"] (zk xV):=⟨rfl,rfl,rfl,by decide +kernel,rfl,by decide +kernel,by decide +kernel⟩
theorem zan:zC ["table","place"] ["table","place"] (zk Xb):=⟨rfl,rfl,rfl,by decide +kernel,rfl,by decide +kernel,by decide +kernel⟩
theorem sc_fed:zC ["code","table","run","place"] ["code","table"] (zk zbZ):=⟨rfl,rfl,rfl,by decide +kernel,rfl,by decide +kernel,by decide +kernel⟩
theorem sc__law_laid:zC ["table","gifts","there","row"] ["table","gifts"] (zk vp):=⟨rfl,rfl,rfl,by decide +kernel,rfl,by decide +kernel,by decide +kernel⟩
theorem sc__law_due:zC ["codes","table","order","papers","now","rank"] ["codes","table","order"] (zk ju):=⟨rfl,rfl,rfl,by decide +kernel,rfl,by decide +kernel,by decide +kernel⟩
theorem XN:zC ["order","many"] ["order","many"] (zk jv):=⟨rfl,rfl,rfl,by decide +kernel,rfl,by decide +kernel,by decide +kernel⟩
theorem sc_table_of:zC ["rows","worths"] ["rows"] (zk jx):=⟨rfl,rfl,rfl,by decide +kernel,rfl,by decide +kernel,by decide +kernel⟩
theorem Ky:zC ["table","gifts"] ["table","gifts"] (zk ZK):=⟨rfl,rfl,rfl,by decide +kernel,rfl,by decide +kernel,by decide +kernel⟩
theorem sc_in_order:zC ["codes","table","order","papers","behind","rank"] ["codes","table","order"] (zk jz):=⟨rfl,rfl,rfl,by decide +kernel,rfl,by decide +kernel,by decide +kernel⟩
theorem sc__law_plain:zC ["found","part"] ["found"] (zk jA):=⟨rfl,rfl,rfl,by decide +kernel,rfl,by decide +kernel,by decide +kernel⟩
theorem XO:zC ["found","due"] ["found","due"] (zk jB):=⟨rfl,rfl,rfl,by decide +kernel,rfl,by decide +kernel,by decide +kernel⟩
theorem sc__law_refused:zC ["codes","table","none","handed","right","other","e"] ["codes","table","none"] (zk wX):=⟨rfl,rfl,rfl,by decide +kernel,rfl,by decide +kernel,by decide +kernel⟩
theorem sc__law_none:zC ["cell","order","many","at","other","way","rank"] ["cell","order"] (zk kh):=⟨rfl,rfl,rfl,by decide +kernel,rfl,by decide +kernel,by decide +kernel⟩
theorem sc_law:zC ["script","slots","shelves","table","codes","order","due","handed","given","told"] ["script"] (zk Xc):=⟨rfl,rfl,rfl,by decide +kernel,rfl,by decide +kernel,by decide +kernel⟩
set_option genSizeOf false in
set_option genInjectivity false in
structure Adr where
 a0:Addr
 d0:FuncData
 a1:Addr
 d1:FuncData
 a2:Addr
 d2:FuncData
 a3:Addr
 d3:FuncData
 a4:Addr
 d4:FuncData
 a5:Addr
 d5:FuncData
 a6:Addr
 d6:FuncData
 a7:Addr
 d7:FuncData
 a8:Addr
 d8:FuncData
 a9:Addr
 d9:FuncData
 a10:Addr
 d10:FuncData
 a11:Addr
 d11:FuncData
 a12:Addr
 d12:FuncData
 a13:Addr
 d13:FuncData
 a14:Addr
 d14:FuncData
 a15:Addr
 d15:FuncData
 a16:Addr
 d16:FuncData
 a17:Addr
 d17:FuncData
 a18:Addr
 d18:FuncData
 a19:Addr
 d19:FuncData
 a20:Addr
 d20:FuncData
 a21:Addr
 d21:FuncData
 a22:Addr
 d22:FuncData
 a23:Addr
 d23:FuncData
 a24:Addr
 d24:FuncData
 a25:Addr
 d25:FuncData
 a26:Addr
 d26:FuncData
 a27:Addr
 d27:FuncData
 a28:Addr
 d28:FuncData
 a29:Addr
 d29:FuncData
 a30:Addr
 d30:FuncData
 a31:Addr
 d31:FuncData
 a32:Addr
 d32:FuncData
 a33:Addr
 d33:FuncData
 a34:Addr
 d34:FuncData
 a35:Addr
 d35:FuncData
 a36:Addr
 d36:FuncData
 a37:Addr
 d37:FuncData
 a38:Addr
 d38:FuncData
 a39:Addr
 d39:FuncData
 a40:Addr
 d40:FuncData
 c_JOINING:Addr
 c_Folded:Addr
 c_ForerunError:Addr
 c_Great:Addr
 c_NoDealing:Addr
 c_NoHand:Addr
 c_NoLine:Addr
 c_NoLog:Addr
 c_NoNumber:Addr
 c_NoOrder:Addr
 c_NoTerm:Addr
 c_Nought:Addr
 c_Run:Addr
structure Txt (K:bx) (mg:Str→Option Value) (t:Adr):Prop where
 g0:FG K mg "_law_draw" ka ["cell","j"] t.a0 t.d0
 g1:FG K mg "_law_names" wL ["cell","many"] t.a1 t.d1
 g2:FG K mg "_law_shelves" xG ["cell","many"] t.a2 t.d2
 g3:FG K mg "_law_number" vG ["cell","j"] t.a3 t.d3
 g4:FG K mg "_law_table" jr ["cell","shelves"] t.a4 t.d4
 g5:FG K mg "block_steps" vH ["row","at"] t.a5 t.d5
 g6:FG K mg "steps_of" qN ["rows","first"] t.a6 t.d6
 g7:FG K mg "code_of" ZH ["rows"] t.a7 t.d7
 g8:FG K mg "_law_cell_at" wU ["script","k"] t.a8 t.d8
 g9:FG K mg "_law_term" kc ["cell","j","slots"] t.a9 t.d9
 g10:FG K mg "_law_row" qO ["cell","slots","shelves"] t.a10 t.d10
 g11:FG K mg "_law_codes" wM ["script","slots","shelves"] t.a11 t.d11
 g12:FG K mg "_law_order" js ["script","many"] t.a12 t.d12
 f_Run_init:Fun K "__init__" "Run.__init__" xU t.a13 t.d13
 b_Run_init:Binds K t.d13 ["self","code"] []
 g14:FM K t.c_Run "over" "Run.over" qP ["self"] t.a14 t.d14
 g15:FM K t.c_Run "paper" "Run.paper" ke ["self"] t.a15 t.d15
 g16:FG K mg "divided" ZI ["word","first","second"] t.a16 t.d16
 g17:FG K mg "come_to" ZJ ["word","first","second"] t.a17 t.d17
 g18:FG K mg "is_worth" qQ ["thing"] t.a18 t.d18
 g19:FG K mg "joined" Xa ["word","first","second"] t.a19 t.d19
 g20:FG K mg "reckoned" qR ["term","slots"] t.a20 t.d20
 g21:FM K t.c_Run "worth_of" "Run.worth_of" wV ["self","term"] t.a21 t.d21
 g22:FM K t.c_Run "place_in" "Run.place_in" wW ["self","due"] t.a22 t.d22
 g23:FM K t.c_Run "asks" "Run.asks" qS ["self"] t.a23 t.d23
 g24:FM K t.c_Run "taken" "Run.taken" kg ["self","place","worth"] t.a24 t.d24
 g25:FM K t.c_Run "does" "Run.does" qT ["self","due","worth"] t.a25 t.d25
 g26:FM K t.c_Run "led_by" "Run.led_by" jt ["self","due","worth"] t.a26 t.d26
 f_Run_step:FunD K "step" "Run.step" xV t.a27 t.d27
 b_Run_step:Binds K t.d27 ["self","worth"] []
 me_Run_step:QU K t.c_Run "step" t.a27
 g28:FG K mg "stands" Xb ["table","place"] t.a28 t.d28
 g29:FG K mg "fed" zbZ ["code","table"] t.a29 t.d29
 g30:FG K mg "_law_laid" vp ["table","gifts"] t.a30 t.d30
 g31:FG K mg "_law_due" ju ["codes","table","order"] t.a31 t.d31
 g32:FG K mg "heed_order" jv ["order","many"] t.a32 t.d32
 g33:FG K mg "table_of" jx ["rows"] t.a33 t.d33
 g34:FG K mg "laid_on" ZK ["table","gifts"] t.a34 t.d34
 g35:FG K mg "in_order" jz ["codes","table","order"] t.a35 t.d35
 g36:FG K mg "_law_plain" jA ["found"] t.a36 t.d36
 g37:FG K mg "_law_alike" jB ["found","due"] t.a37 t.d37
 g38:FG K mg "_law_refused" wX ["codes","table","none"] t.a38 t.d38
 g39:FG K mg "_law_none" kh ["cell","order"] t.a39 t.d39
 f_law:Fun K "law" "law" Xc t.a40 t.d40
 b_law:Binds K t.d40 ["script"] []
 m_law:mg "law"=some (.ref t.a40)
 w_law:∀ (s:Shared) (v:Value),BindsTo s t.d40 ⟨[v],[]⟩ [("script",v)]
 b_ValueError:mg "ValueError"=none
 b_bool:mg "bool"=none
 b_dict:mg "dict"=none
 b_int:mg "int"=none
 b_isinstance:mg "isinstance"=none
 b_len:mg "len"=none
 b_list:mg "list"=none
 b_range:mg "range"=none
 b_sorted:mg "sorted"=none
 b_str:mg "str"=none
 b_tuple:mg "tuple"=none
 g_JOINING:mg "JOINING"=some (.ref t.c_JOINING)
 v_JOINING:∀ H:Hp,SqT K H t.c_JOINING [.str "plus",.str "minus",.str "times",.str "over",.str "rest",.str "under",.str "same"]
 g_Folded:mg "Folded"=some (.ref t.c_Folded)
 g_ForerunError:mg "ForerunError"=some (.ref t.c_ForerunError)
 g_Great:mg "Great"=some (.ref t.c_Great)
 g_NoDealing:mg "NoDealing"=some (.ref t.c_NoDealing)
 g_NoHand:mg "NoHand"=some (.ref t.c_NoHand)
 g_NoLine:mg "NoLine"=some (.ref t.c_NoLine)
 g_NoLog:mg "NoLog"=some (.ref t.c_NoLog)
 g_NoNumber:mg "NoNumber"=some (.ref t.c_NoNumber)
 g_NoOrder:mg "NoOrder"=some (.ref t.c_NoOrder)
 g_NoTerm:mg "NoTerm"=some (.ref t.c_NoTerm)
 g_Nought:mg "Nought"=some (.ref t.c_Nought)
 g_Run:mg "Run"=some (.ref t.c_Run)
 cl_Run:Cls K t.c_Run
 mk_Run:Mk K t.c_Run t.a13
 na_Run_at:NoAttr K t.c_Run "at"
 na_Run_code:NoAttr K t.c_Run "code"
 na_Run_gifts:NoAttr K t.c_Run "gifts"
 na_Run_notes:NoAttr K t.c_Run "notes"
 na_Run_sayings:NoAttr K t.c_Run "sayings"
 na_Run_slots:NoAttr K t.c_Run "slots"
 na_Run_why:NoAttr K t.c_Run "why"
 x_Nought:my K t.c_Nought YT j2=true
 y_Nought:ExK K t.c_Nought
 e_Nought_Great:dH K (.ref t.c_Nought) (.ref t.c_Great)=some false
 e_Nought_Nought:dH K (.ref t.c_Nought) (.ref t.c_Nought)=some true
 e_Nought_ForerunError:dH K (.ref t.c_Nought) (.ref t.c_ForerunError)=some true
 m_Nought_Great_Nought:mM K (.ref t.c_Nought) [.ref t.c_Great,.ref t.c_Nought]=some true
 i_Nought_ValueError:dF K (.ref t.c_Nought) (.type "ValueError")=some true
 i_Nought_NoOrder:dF K (.ref t.c_Nought) (.ref t.c_NoOrder)=some false
 j_Nought_0:fP K (.ref t.c_Nought) [.ref t.c_Folded,.ref t.c_NoDealing,.ref t.c_NoHand,.ref t.c_NoLine,.ref t.c_NoLog,.ref t.c_NoNumber,.ref t.c_NoTerm,.ref t.c_Great,.ref t.c_Nought]=some true
 x_Great:my K t.c_Great YT j2=true
 y_Great:ExK K t.c_Great
 e_Great_Great:dH K (.ref t.c_Great) (.ref t.c_Great)=some true
 e_Great_Nought:dH K (.ref t.c_Great) (.ref t.c_Nought)=some false
 e_Great_ForerunError:dH K (.ref t.c_Great) (.ref t.c_ForerunError)=some true
 m_Great_Great_Nought:mM K (.ref t.c_Great) [.ref t.c_Great,.ref t.c_Nought]=some true
 i_Great_ValueError:dF K (.ref t.c_Great) (.type "ValueError")=some true
 i_Great_NoOrder:dF K (.ref t.c_Great) (.ref t.c_NoOrder)=some false
 j_Great_0:fP K (.ref t.c_Great) [.ref t.c_Folded,.ref t.c_NoDealing,.ref t.c_NoHand,.ref t.c_NoLine,.ref t.c_NoLog,.ref t.c_NoNumber,.ref t.c_NoTerm,.ref t.c_Great,.ref t.c_Nought]=some true
 x_NoOrder:my K t.c_NoOrder YT j2=true
 y_NoOrder:ExK K t.c_NoOrder
 e_NoOrder_Great:dH K (.ref t.c_NoOrder) (.ref t.c_Great)=some false
 e_NoOrder_Nought:dH K (.ref t.c_NoOrder) (.ref t.c_Nought)=some false
 e_NoOrder_ForerunError:dH K (.ref t.c_NoOrder) (.ref t.c_ForerunError)=some true
 m_NoOrder_Great_Nought:mM K (.ref t.c_NoOrder) [.ref t.c_Great,.ref t.c_Nought]=some false
 i_NoOrder_ValueError:dF K (.ref t.c_NoOrder) (.type "ValueError")=some true
 i_NoOrder_NoOrder:dF K (.ref t.c_NoOrder) (.ref t.c_NoOrder)=some true
 j_NoOrder_0:fP K (.ref t.c_NoOrder) [.ref t.c_Folded,.ref t.c_NoDealing,.ref t.c_NoHand,.ref t.c_NoLine,.ref t.c_NoLog,.ref t.c_NoNumber,.ref t.c_NoTerm,.ref t.c_Great,.ref t.c_Nought]=some false
theorem txt_mk {K:bx} {h:Heap} {mg:Str→Option Value} (X:K.In h) (G:h.Ns mainGlobals mg)
  {f13:Addr} {od13 an13:Option Addr} {sl13:Array (Option Value)} {oc13 kV13 dc13 pm13 cd13 ct13:Value}
  {f27:Addr} {od27 an27:Option Addr} {sl27:Array (Option Value)} {oc27 kV27 dc27 pm27 cd27 ct27:Value} {dA27:Addr} {dn27:Nat} {dt27_0:Tok}
  {f40:Addr} {od40 an40:Option Addr} {sl40:Array (Option Value)} {oc40 kV40 dc40 pm40 cd40 ct40:Value}
  {ga0:Addr} {gn0:Nat} {gt0_0:Tok} {gt0_1:Tok} {gt0_2:Tok} {gt0_3:Tok} {gt0_4:Tok} {gt0_5:Tok} {gt0_6:Tok}
  {ca0:Addr}
  {ca1:Addr}
  {ca2:Addr}
  {ca3:Addr}
  {ca4:Addr}
  {ca5:Addr}
  {ca6:Addr}
  {ca7:Addr}
  {ca8:Addr}
  {ca9:Addr}
  {ca10:Addr}
  {ca11:Addr}
  (h0:QG K "_law_draw" ka)
  (h1:QG K "_law_names" wL)
  (h2:QG K "_law_shelves" xG)
  (h3:QG K "_law_number" vG)
  (h4:QG K "_law_table" jr)
  (h5:QG K "block_steps" vH)
  (h6:QG K "steps_of" qN)
  (h7:QG K "code_of" ZH)
  (h8:QG K "_law_cell_at" wU)
  (h9:QG K "_law_term" kc)
  (h10:QG K "_law_row" qO)
  (h11:QG K "_law_codes" wM)
  (h12:QG K "_law_order" js)
  (qa13:dk K (.ref ca11) "__init__"=some (some (.ref f13))) (qi13:oV K (.ref f13)=true) (ql13:K.lookup f13=some ⟨oc13,od13,.func (iV "__init__" "Run.__init__" (y9 xU) (yE xU) (zk xU) .none kV13 dc13 pm13 an13 cd13 ct13),sl13⟩) (qc13:iW K cd13 "Run.__init__"=true) (qk13:fN K (.ref f13)=true)
  (h14:QM K ca11 "over" "Run.over" qP)
  (h15:QM K ca11 "paper" "Run.paper" ke)
  (h16:QG K "divided" ZI)
  (h17:QG K "come_to" ZJ)
  (h18:QG K "is_worth" qQ)
  (h19:QG K "joined" Xa)
  (h20:QG K "reckoned" qR)
  (h21:QM K ca11 "worth_of" "Run.worth_of" wV)
  (h22:QM K ca11 "place_in" "Run.place_in" wW)
  (h23:QM K ca11 "asks" "Run.asks" qS)
  (h24:QM K ca11 "taken" "Run.taken" kg)
  (h25:QM K ca11 "does" "Run.does" qT)
  (h26:QM K ca11 "led_by" "Run.led_by" jt)
  (qa27:dk K (.ref ca11) "step"=some (some (.ref f27))) (qi27:oV K (.ref f27)=true) (ql27:K.lookup f27=some ⟨oc27,od27,.func (iV "step" "Run.step" (y9 xV) (yE xV) (zk xV) (.ref dA27) kV27 dc27 pm27 an27 cd27 ct27),sl27⟩) (qc27:iW K cd27 "Run.step"=true) (qk27:fN K (.ref f27)=true) (qd27:K.lookup dA27=some ⟨.type "tuple",none,.seq #[.int 0 dt27_0] dn27,#[]⟩)
  (h28:QG K "stands" Xb)
  (h29:QG K "fed" zbZ)
  (h30:QG K "_law_laid" vp)
  (h31:QG K "_law_due" ju)
  (h32:QG K "heed_order" jv)
  (h33:QG K "table_of" jx)
  (h34:QG K "laid_on" ZK)
  (h35:QG K "in_order" jz)
  (h36:QG K "_law_plain" jA)
  (h37:QG K "_law_alike" jB)
  (h38:QG K "_law_refused" wX)
  (h39:QG K "_law_none" kh)
  (qa40:fu K mainGlobals "law"=some (some (.ref f40))) (ql40:K.lookup f40=some ⟨oc40,od40,.func (iV "law" "law" (y9 Xc) (yE Xc) (zk Xc) .none kV40 dc40 pm40 an40 cd40 ct40),sl40⟩) (qc40:iW K cd40 "law"=true) (qk40:fN K (.ref f40)=true)
  (qz0:fu K mainGlobals "ValueError"=some none)
  (qz1:fu K mainGlobals "bool"=some none)
  (qz2:fu K mainGlobals "dict"=some none)
  (qz3:fu K mainGlobals "int"=some none)
  (qz4:fu K mainGlobals "isinstance"=some none)
  (qz5:fu K mainGlobals "len"=some none)
  (qz6:fu K mainGlobals "list"=some none)
  (qz7:fu K mainGlobals "range"=some none)
  (qz8:fu K mainGlobals "sorted"=some none)
  (qz9:fu K mainGlobals "str"=some none)
  (qz10:fu K mainGlobals "tuple"=some none)
  (qg0:fu K mainGlobals "JOINING"=some (some (.ref ga0))) (qh0:K.lookup ga0=some ⟨.type "tuple",none,.seq #[.str "plus" gt0_0,.str "minus" gt0_1,.str "times" gt0_2,.str "over" gt0_3,.str "rest" gt0_4,.str "under" gt0_5,.str "same" gt0_6] gn0,#[]⟩)
  (qv0:fu K mainGlobals "Folded"=some (some (.ref ca0)))
  (qv1:fu K mainGlobals "ForerunError"=some (some (.ref ca1)))
  (qv2:fu K mainGlobals "Great"=some (some (.ref ca2)))
  (qv3:fu K mainGlobals "NoDealing"=some (some (.ref ca3)))
  (qv4:fu K mainGlobals "NoHand"=some (some (.ref ca4)))
  (qv5:fu K mainGlobals "NoLine"=some (some (.ref ca5)))
  (qv6:fu K mainGlobals "NoLog"=some (some (.ref ca6)))
  (qv7:fu K mainGlobals "NoNumber"=some (some (.ref ca7)))
  (qv8:fu K mainGlobals "NoOrder"=some (some (.ref ca8)))
  (qv9:fu K mainGlobals "NoTerm"=some (some (.ref ca9)))
  (qv10:fu K mainGlobals "Nought"=some (some (.ref ca10)))
  (qv11:fu K mainGlobals "Run"=some (some (.ref ca11)))
  (pg11:mK K ca11 gr=true) (pd11:m7 K ca11=true) (po11:oE K ca11=true) (pe11:dk K (.ref ca11) "__setattr__"=some (some (.builtin "object.__setattr__"))) (pm11_:W.makesIn K ca11=true) (pk11:fN K (.ref ca11)=true)
  (pn11_0:dk K (.ref ca11) "at"=some none)
  (pn11_1:dk K (.ref ca11) "code"=some none)
  (pn11_2:dk K (.ref ca11) "gifts"=some none)
  (pn11_3:dk K (.ref ca11) "notes"=some none)
  (pn11_4:dk K (.ref ca11) "sayings"=some none)
  (pn11_5:dk K (.ref ca11) "slots"=some none)
  (pn11_6:dk K (.ref ca11) "why"=some none)
  (rx0:my K ca10 YT j2=true)
  (ry0:QX K ca10)
  (re0_0:dH K (.ref ca10) (.ref ca2)=some false)
  (re0_1:dH K (.ref ca10) (.ref ca10)=some true)
  (re0_2:dH K (.ref ca10) (.ref ca1)=some true)
  (rm0_0:mM K (.ref ca10) [(.ref ca2),(.ref ca10)]=some true)
  (ri0_0:dF K (.ref ca10) (.type "ValueError")=some true)
  (ri0_1:dF K (.ref ca10) (.ref ca8)=some false)
  (rj0_0:fP K (.ref ca10) [(.ref ca0),(.ref ca3),(.ref ca4),(.ref ca5),(.ref ca6),(.ref ca7),(.ref ca9),(.ref ca2),(.ref ca10)]=some true)
  (rx1:my K ca2 YT j2=true)
  (ry1:QX K ca2)
  (re1_0:dH K (.ref ca2) (.ref ca2)=some true)
  (re1_1:dH K (.ref ca2) (.ref ca10)=some false)
  (re1_2:dH K (.ref ca2) (.ref ca1)=some true)
  (rm1_0:mM K (.ref ca2) [(.ref ca2),(.ref ca10)]=some true)
  (ri1_0:dF K (.ref ca2) (.type "ValueError")=some true)
  (ri1_1:dF K (.ref ca2) (.ref ca8)=some false)
  (rj1_0:fP K (.ref ca2) [(.ref ca0),(.ref ca3),(.ref ca4),(.ref ca5),(.ref ca6),(.ref ca7),(.ref ca9),(.ref ca2),(.ref ca10)]=some true)
  (rx2:my K ca8 YT j2=true)
  (ry2:QX K ca8)
  (re2_0:dH K (.ref ca8) (.ref ca2)=some false)
  (re2_1:dH K (.ref ca8) (.ref ca10)=some false)
  (re2_2:dH K (.ref ca8) (.ref ca1)=some true)
  (rm2_0:mM K (.ref ca8) [(.ref ca2),(.ref ca10)]=some false)
  (ri2_0:dF K (.ref ca8) (.type "ValueError")=some true)
  (ri2_1:dF K (.ref ca8) (.ref ca8)=some true)
  (rj2_0:fP K (.ref ca8) [(.ref ca0),(.ref ca3),(.ref ca4),(.ref ca5),(.ref ca6),(.ref ca7),(.ref ca9),(.ref ca2),(.ref ca10)]=some false):∃ t,Txt K mg t:=by
 obtain ⟨f0,d0,F0⟩:=QG.a2 X G "cell" "j" h0
 obtain ⟨f1,d1,F1⟩:=QG.a2 X G "cell" "many" h1
 obtain ⟨f2,d2,F2⟩:=QG.a2 X G "cell" "many" h2
 obtain ⟨f3,d3,F3⟩:=QG.a2 X G "cell" "j" h3
 obtain ⟨f4,d4,F4⟩:=QG.a2 X G "cell" "shelves" h4
 obtain ⟨f5,d5,F5⟩:=QG.a2 X G "row" "at" h5
 obtain ⟨f6,d6,F6⟩:=QG.a2 X G "rows" "first" h6
 obtain ⟨f7,d7,F7⟩:=QG.a1 X G "rows" h7
 obtain ⟨f8,d8,F8⟩:=QG.a2 X G "script" "k" h8
 obtain ⟨f9,d9,F9⟩:=QG.a3 X G "cell" "j" "slots" h9
 obtain ⟨f10,d10,F10⟩:=QG.a3 X G "cell" "slots" "shelves" h10
 obtain ⟨f11,d11,F11⟩:=QG.a3 X G "script" "slots" "shelves" h11
 obtain ⟨f12,d12,F12⟩:=QG.a2 X G "script" "many" h12
 have F13:=Kc (st:=xU) ql13 qc13 qk13
 obtain ⟨f14,d14,F14⟩:=QM.a1 "self" h14
 obtain ⟨f15,d15,F15⟩:=QM.a1 "self" h15
 obtain ⟨f16,d16,F16⟩:=QG.a3 X G "word" "first" "second" h16
 obtain ⟨f17,d17,F17⟩:=QG.a3 X G "word" "first" "second" h17
 obtain ⟨f18,d18,F18⟩:=QG.a1 X G "thing" h18
 obtain ⟨f19,d19,F19⟩:=QG.a3 X G "word" "first" "second" h19
 obtain ⟨f20,d20,F20⟩:=QG.a2 X G "term" "slots" h20
 obtain ⟨f21,d21,F21⟩:=QM.a2 "self" "term" h21
 obtain ⟨f22,d22,F22⟩:=QM.a2 "self" "due" h22
 obtain ⟨f23,d23,F23⟩:=QM.a1 "self" h23
 obtain ⟨f24,d24,F24⟩:=QM.a3 "self" "place" "worth" h24
 obtain ⟨f25,d25,F25⟩:=QM.a3 "self" "due" "worth" h25
 obtain ⟨f26,d26,F26⟩:=QM.a3 "self" "due" "worth" h26
 have F27:=zdh (st:=xV) ql27 qc27 qk27
 obtain ⟨f28,d28,F28⟩:=QG.a2 X G "table" "place" h28
 obtain ⟨f29,d29,F29⟩:=QG.a2 X G "code" "table" h29
 obtain ⟨f30,d30,F30⟩:=QG.a2 X G "table" "gifts" h30
 obtain ⟨f31,d31,F31⟩:=QG.a3 X G "codes" "table" "order" h31
 obtain ⟨f32,d32,F32⟩:=QG.a2 X G "order" "many" h32
 obtain ⟨f33,d33,F33⟩:=QG.a1 X G "rows" h33
 obtain ⟨f34,d34,F34⟩:=QG.a2 X G "table" "gifts" h34
 obtain ⟨f35,d35,F35⟩:=QG.a3 X G "codes" "table" "order" h35
 obtain ⟨f36,d36,F36⟩:=QG.a1 X G "found" h36
 obtain ⟨f37,d37,F37⟩:=QG.a2 X G "found" "due" h37
 obtain ⟨f38,d38,F38⟩:=QG.a3 X G "codes" "table" "none" h38
 obtain ⟨f39,d39,F39⟩:=QG.a2 X G "cell" "order" h39
 have F40:=Kc (st:=Xc) ql40 qc40 qk40
 exact ⟨⟨f0,d0,f1,d1,f2,d2,f3,d3,f4,d4,f5,d5,f6,d6,f7,d7,f8,d8,f9,d9,f10,d10,f11,d11,f12,d12,f13,_,f14,d14,f15,d15,f16,d16,f17,d17,f18,d18,f19,d19,f20,d20,f21,d21,f22,d22,f23,d23,f24,d24,f25,d25,f26,d26,f27,_,f28,d28,f29,d29,f30,d30,f31,d31,f32,d32,f33,d33,f34,d34,f35,d35,f36,d36,f37,d37,f38,d38,f39,d39,f40,_,ga0,ca0,ca1,ca2,ca3,ca4,ca5,ca6,ca7,ca8,ca9,ca10,ca11⟩,⟨F0,
  F1,
  F2,
  F3,
  F4,
  F5,
  F6,
  F7,
  F8,
  F9,
  F10,
  F11,
  F12,
  F13,F13.binds (ps:=["self","code"]) (fun _ _ _ _ _ _ us hl=>match us,hl with | [_,_],_=>rfl),
  F14,
  F15,
  F16,
  F17,
  F18,
  F19,
  F20,
  F21,
  F22,
  F23,
  F24,
  F25,
  F26,
  F27,(fun s us hK hl=>match us,(show us.length=2 by simpa using hl) with | [_,_],_=>.of_defaults (T:=dA27) rfl (hK _ _ qd27) rfl rfl rfl),⟨qa27,qi27,qk27⟩,
  F28,
  F29,
  F30,
  F31,
  F32,
  F33,
  F34,
  F35,
  F36,
  F37,
  F38,
  F39,
  F40,F40.binds (ps:=["script"]) (fun _ _ _ _ _ _ us hl=>match us,hl with | [_],_=>rfl),gD X G qa40,
  fun s v=>.of_eq rfl,
  dZ X G qz0,
  dZ X G qz1,
  dZ X G qz2,
  dZ X G qz3,
  dZ X G qz4,
  dZ X G qz5,
  dZ X G qz6,
  dZ X G qz7,
  dZ X G qz8,
  dZ X G qz9,
  dZ X G qz10,
  gD X G qg0,fun _=>.inr ⟨_,_,_,qh0,rfl,rfl,(by show 7≤sizeLine;decide),(.cons ⟨_,rfl⟩ (.cons ⟨_,rfl⟩ (.cons ⟨_,rfl⟩ (.cons ⟨_,rfl⟩ (.cons ⟨_,rfl⟩ (.cons ⟨_,rfl⟩ (.cons ⟨_,rfl⟩ .nil)))))))⟩,
  gD X G qv0,
  gD X G qv1,
  gD X G qv2,
  gD X G qv3,
  gD X G qv4,
  gD X G qv5,
  gD X G qv6,
  gD X G qv7,
  gD X G qv8,
  gD X G qv9,
  gD X G qv10,
  gD X G qv11,
  ⟨pg11,pd11,po11,pe11⟩,
  ⟨pm11_,qa13,qi13,pk11⟩,
  pn11_0,
  pn11_1,
  pn11_2,
  pn11_3,
  pn11_4,
  pn11_5,
  pn11_6,
  rx0,
  ry0.to,
  re0_0,
  re0_1,
  re0_2,
  rm0_0,
  ri0_0,
  ri0_1,
  rj0_0,
  rx1,
  ry1.to,
  re1_0,
  re1_1,
  re1_2,
  rm1_0,
  ri1_0,
  ri1_1,
  rj1_0,
  rx2,
  ry2.to,
  re2_0,
  re2_1,
  re2_2,
  rm2_0,
  ri2_0,
  ri2_1,
  rj2_0⟩⟩
structure KF (K:bx):Prop where
 i_b:dF K (.type "int") (.type "bool")=some false
 i_s:dF K (.type "int") (.type "str")=some false
 s_i:dF K (.type "str") (.type "int")=some false
 s_b:dF K (.type "str") (.type "bool")=some false
 a1:fP K (.type "tuple") [.type "list",.type "tuple"]=some true
 a2:fP K (.type "list") [.type "list",.type "tuple"]=some true
 a3:fP K (.type "int") [.type "list",.type "tuple"]=some false
 a4:fP K (.type "str") [.type "list",.type "tuple"]=some false
 a5:fP K (.type "int") [.type "int",.type "str"]=some true
 a6:fP K (.type "str") [.type "int",.type "str"]=some true
def fin (t:Adr) (r:Except Er Int) (Q:VK) (E:XK) (H:Hp):Prop:=match r with
 | .ok i=>Q (.int i) H
 | .error .nought=>E (.ref t.c_Nought) none H
 | .error .great=>E (.ref t.c_Great) none H
 | .error .stuck=>True
def Kz (t:Adr) (e:Er) (E:XK) (H:Hp):Prop:=match e with
 | .nought=>E (.ref t.c_Nought) none H
 | .great=>E (.ref t.c_Great) none H
 | .stuck=>True
def zdn (K:bx):Prop:=dF K (.type "int") (.type "bool")=some false
def NamesAt (H:Hp) (nm:Addr) (ws:List Str):Prop:=H nm=some (.lst (ws.map V.str))∧∀ w∈ws,yf w=true
def ki:Rw→Prop
 | .off _=>False
 | .iff _ _ _=>False
 | _=>True
def kj:Sp:=fun vs H Q _=>∃ i,vs=[.int i]∧∀ H',Same H H'→Q (.bl (inW i)) H'
def qU (t:Adr):Sp:=fun vs H Q E=>∃ w a b,vs=[.str w,.int a,.int b]∧w.length≤1000∧inW a=true∧inW b=true∧∀ H',Same H H'→if b=0 then E (.ref t.c_Nought) none H' else Q (.int (if w="over" then a.fdiv b else a.fmod b)) H'
def qV (t:Adr):Sp:=fun vs H Q E=>∃ w a b,vs=[.str w,.int a,.int b]∧w.length≤1000∧inW a=true∧inW b=true∧∀ H',Same H H'→if Z8 w∧b=0 then E (.ref t.c_Nought) none H' else Q (.int (wT w a b)) H'
def ZL (t:Adr):Sp:=fun vs H Q E=>∃ w a b,vs=[.str w,.int a,.int b]∧w.length≤1000∧inW a=true∧inW b=true∧∀ H',Same H H'→fin t (wH w a b) Q E H'
def km (t:Adr):Sp:=fun vs H Q E=>∃ kvs tm sl ps r,vs=[.ref tm,.ref sl]∧H tm=some (.tup ps)∧H sl=some (.dK kvs)∧Good kvs ps r∧(∀ v∈ps,jq v)∧ps.length≤1000∧yP kvs∧∀ H',Same H H'→fin t r Q E H'
inductive Cs where
 | row (r:Rw)
 | skip (e:List V) (to:Nat)
 | go (en:Nat)
def Rws.isNil:Rws→Bool
 | .nil=>true
 | .cons _ _=>false
def blk (e:List V) (k:Nat) (A:List Cs) (nl:Bool) (B:List Cs):List Cs :=
 if nl=true then .skip e (k + 1 + A.length) :: A else .skip e (k + 2 + A.length) :: (A ++ (.go (k + 2 + A.length + B.length) :: B))
mutual
def yO:Rw→Nat→List Cs
 | .iff e a b,k=>blk e k (zr a (k + 1)) (Rws.isNil b) (zr b (k + 2 + (zr a (k + 1)).length))
 | r,_=>[.row r]
def zr:Rws→Nat→List Cs
 | .nil,_=>[]
 | .cons r rs,k=>yO r k ++ zr rs (k + (yO r k).length)
end
def zao:Rw→Prop
 | .iff _ _ _=>False
 | _=>True
def CsAt (H:Hp) (v:V):Cs→Prop
 | .row r=>RwAt XL H v r∧zao r
 | .skip e to=>∃ p te,v=.ref p∧H p=some (.tup [.str "skip",.ref te,.int (to:Nat)])∧H te=some (.tup e)
 | .go en=>∃ p,v=.ref p∧H p=some (.tup [.str "go",.int (en:Nat)])
structure Yp (n:Nat) (r:Rws):Prop where
 dp:r.deep < n
 ct:r.cnt≤500
 pl:y6 r
def wY (n:Nat):Sp:=fun vs H Q _=>∃ (v:V) (e:List V) (a b:Rws) (k:Nat),vs=[v,.int k]∧RwAt XL H v (.iff e a b)∧Yp n a∧Yp n b∧k + (yO (.iff e a b) k).length≤500∧∀ l xs H',Same H H'→H' l=some (.lst xs)→Paired (CsAt H') xs (yO (.iff e a b) k)→Q (.ref l) H'
def yF (n:Nat):Sp:=fun vs H Q _=>∃ (v:V) (r:Rws) (k:Nat),vs=[v,.int k]∧zdb XL H v r∧Yp n r∧k + (zr r k).length≤500∧∀ l xs H',Same H H'→H l=none→H' l=some (.lst xs)→Paired (CsAt H') xs (zr r k)→Q (.ref l) H'
def qW:Sp:=fun vs H Q _=>∃ (v:V) (r:Rws),vs=[v]∧zdb XL H v r∧Yp 6 r∧(zr r 0).length≤500∧∀ l xs H',Same H H'→H l=none→H' l=some (.lst xs)→Paired (CsAt H') xs (zr r 0)→Q (.ref l) H'
structure RSt where
 n:Nat
 why:Option Str
 sl:List (Key × V)
 gi:List Row
 no:List Row
 sa:List Int
structure RAd where
 dx:Addr
 co:Addr
 sl:Addr
 gi:Addr
 no:Addr
 sa:Addr
def zfj:Option Str→V
 | none=>.non
 | some w=>.str w
def zfk (a:RAd) (s:RSt):List (Str × V):=[(bg "code",.ref a.co),(bg "at",.int s.n),(bg "why",zfj s.why),(bg "slots",.ref a.sl),(bg "gifts",.ref a.gi),(bg "notes",.ref a.no),(bg "sayings",.ref a.sa)]
structure RnAt (t:Adr) (H:Hp) (x:Addr) (a:RAd) (C:List Cs) (s:RSt):Prop where
 ix:H x=some (.ins t.c_Run a.dx (zfk a s))
 hc:∃ xs,H a.co=some (.lst xs)∧Paired (CsAt H) xs C
 hs:H a.sl=some (.dK s.sl)
 hg:H a.gi=some (.dT (dOf s.gi))
 hn:H a.no=some (.dT (dOf s.no))
 ha:H a.sa=some (.lst (s.sa.map V.int))
 ng:a.gi≠a.no
 nc:a.co≠a.sa
def Ow (x:Addr) (a:RAd) (b:Addr):Prop:=b=x∨b=a.sl∨b=a.gi∨b=a.no∨b=a.sa
def OwA (x:Addr) (a:RAd) (b:Addr):Prop:=Ow x a b∨b=a.co
def Kp (x:Addr) (a:RAd) (H H':Hp):Prop:=∀ b o,¬ Ow x a b→H b=some o→H' b=some o
def Yd (x:Addr) (H H':Hp):Prop:=∀ b o,b≠x→H b=some o→H' b=some o
structure RnOk (m:Nat) (s:RSt):Prop where
 so:yP s.sl
 gw:∀ r∈s.gi,inW r.2=true
 nw:∀ r∈s.no,inW r.2=true
 l1:s.sl.length≤m
 l2:s.gi.length≤m
 l3:s.no.length≤m
 l4:s.sa.length≤m
 nd:(s.no.map (·.1)).Nodup
def Yq:Cs→Prop
 | .row r=>j7 r
 | .skip e _=>TermOk e
 | .go _=>True
def yq (C:List Cs) (s:RSt):Bool:=s.why.isSome || decide (C.length≤s.n)
def xH (p:Pl) (w:Int) (s:RSt):RSt:=if (zN s.gi p).isSome=true∨(zN s.no p).isSome=true then s else { s with no:=s.no ++ [(p,w)] }
def wZ (p:Pl) (w:Int) (s:RSt):Int:=(zN s.gi p).getD ((zN s.no p).getD w)
def doR:Rw→Int→RSt→Except Er RSt
 | .take sh e x,w,s=>match rk s.sl e with
  | .error er=>.error er
  | .ok n=>.ok { xH (sh,n) w s with sl:=yT s.sl (.inr x) (.int (wZ (sh,n) w s)) }
 | .give sh e f,_,s=>match rk s.sl e with
  | .error er=>.error er
  | .ok n=>match rk s.sl f with
   | .error er=>.error er
   | .ok i=>.ok { s with gi:=s.gi ++ [((sh,n),i)] }
 | .lt x e,_,s=>match rk s.sl e with
  | .error er=>.error er
  | .ok i=>.ok { s with sl:=yT s.sl (.inr x) (.int i) }
 | .say e,_,s=>match rk s.sl e with
  | .error er=>.error er
  | .ok i=>.ok { s with sa:=s.sa ++ [i] }
 | _,_,s=>.ok s
def yM:Cs→Int→RSt→Except Er (Nat × RSt)
 | .go k,_,s=>.ok (k,s)
 | .skip e to,_,s=>match rk s.sl e with
  | .error er=>.error er
  | .ok i=>.ok (if i=0 then to else s.n + 1,s)
 | .row (.off e),_,s=>match rk s.sl e with
  | .error er=>.error er
  | .ok i=>.ok (s.n + 1,if i=0 then s else { s with why:=some (bg "told") })
 | .row r,w,s=>match doR r w s with
  | .error er=>.error er
  | .ok s'=>.ok (s.n + 1,s')
def z7 (c:Cs) (w:Int) (s:RSt):RSt:=match yM c w s with
 | .ok (k,s')=>{ s' with n:=k }
 | .error er=>{ s with why:=some (Jm er) }
def xF (C:List Cs) (w:Int) (s:RSt):RSt:=if yq C s=true then s else match C[s.n]? with
 | none=>s
 | some c=>z7 c w s
def Xe (c:Cs) (s:RSt):Option Pl:=match c with
 | .row (.take sh e _)=>match rk s.sl e with
  | .error _=>none
  | .ok n=>if (zN s.gi (sh,n)).isSome=true∨(zN s.no (sh,n)).isSome=true then none else some (sh,n)
 | _=>none
def Ye (C:List Cs) (s:RSt):Option Pl:=if yq C s=true then none else (C[s.n]?).bind fun c=>Xe c s
abbrev Wz (H:Hp) (v:V) (q:Row):Prop:=PrAt H v q
abbrev xI (H:Hp) (vs:List V) (rows:List Row):Prop:=Paired (PrAt H) vs rows
def yk (H:Hp) (a:Addr) (rows:List Row):Prop:=∃ xs,H a=some (.lst xs)∧Paired (PrAt H) xs rows
def Xf (H:Hp) (v:V):Oc→Prop
 | .done sa=>∃ o y,v=.ref o∧H o=some (.tup [.str "done",.ref y])∧H y=some (.tup (sa.map V.int))
 | .off w=>∃ o,v=.ref o∧H o=some (.tup [.str "off",.str w])
def ZM (s:RSt):Oc:=match s.why with
 | some w=>.off w
 | none=>.done s.sa
def w4 (s:RSt) (out:List Row):Prop:=match s.why with
 | some _=>out=[]
 | none=>Rising out∧∀ p w,(p,w)∈out↔zN s.gi p=some w
structure RnF (K:bx) (t:Adr):Prop where
 cl:Cls K t.c_Run
 n1:NoAttr K t.c_Run "code"
 n2:NoAttr K t.c_Run "at"
 n3:NoAttr K t.c_Run "why"
 n4:NoAttr K t.c_Run "slots"
 n5:NoAttr K t.c_Run "gifts"
 n6:NoAttr K t.c_Run "notes"
 n7:NoAttr K t.c_Run "sayings"
def st0:RSt:=⟨0,none,[],[],[],[]⟩
def kn (t:Adr):Sp:=fun vs H Q _=>∃ (x l dx:Addr) (xs:List V) (C:List Cs),vs=[.ref x,.ref l]∧H x=some (.ins t.c_Run dx [])∧H l=some (.lst xs)∧Paired (CsAt H) xs C∧∀ H' a,Yd x H H'→RnAt t H' x a C st0→(∀ b,OwA x a b→b=x∨H b=none)→Q .non H'
def yG (t:Adr):Sp:=fun vs H Q _=>∃ (x:Addr) (a:RAd) (C:List Cs) (s:RSt),vs=[.ref x]∧RnAt t H x a C s∧∀ H',Same H H'→Q (.bl (yq C s)) H'
def zO (t:Adr):Sp:=fun vs H Q E=>∃ (x tm:Addr) (e:List V) (a:RAd) (C:List Cs) (s:RSt),vs=[.ref x,.ref tm]∧RnAt t H x a C s∧yP s.sl∧H tm=some (.tup e)∧TermOk e∧∀ H',Same H H'→fin t (rk s.sl e) Q E H'
def ym (t:Adr):Sp:=fun vs H Q E=>∃ (x p:Addr) (xs:List V) (sh:Str) (te:Addr) (e:List V) (a:RAd) (C:List Cs) (s:RSt),vs=[.ref x,.ref p]∧RnAt t H x a C s∧yP s.sl∧H p=some (.tup xs)∧atI xs 1=some (.str sh)∧atI xs 2=some (.ref te)∧H te=some (.tup e)∧TermOk e ∧
 (∀ i q H',rk s.sl e=.ok i→Same H H'→H' q=some (.tup [.str sh,.int i])→Q (.ref q) H')∧∀ er H',rk s.sl e=.error er→Same H H'→Kz t er E H'
def jC (t:Adr):Sp:=fun vs H Q _=>∃ (x q:Addr) (p:Pl) (w:Int) (a:RAd) (C:List Cs) (s:RSt),vs=[.ref x,.ref q,.int w]∧RnAt t H x a C s∧H q=some (.tup [.str p.1,.int p.2])∧s.no.length≤900∧∀ H',Kp x a H H'→RnAt t H' x a C (xH p w s)→Q (.int (wZ p w s)) H'
def ko (t:Adr):Sp:=fun vs H Q E=>∃ (x:Addr) (v:V) (r:Rw) (w:Int) (m:Nat) (a:RAd) (C:List Cs) (s:RSt),vs=[.ref x,v,.int w]∧RnAt t H x a C s∧RwAt XL H v r∧ki r∧j7 r∧RnOk m s∧m≤900 ∧
 (∀ H' s',doR r w s=.ok s'→Kp x a H H'→RnAt t H' x a C s'→Q .non H')∧∀ H' er,doR r w s=.error er→Same H H'→Kz t er E H'
def vI (t:Adr):Sp:=fun vs H Q E=>∃ (x:Addr) (v:V) (c:Cs) (w:Int) (m:Nat) (a:RAd) (C:List Cs) (s:RSt),vs=[.ref x,v,.int w]∧RnAt t H x a C s∧CsAt H v c∧Yq c∧RnOk m s∧m≤900 ∧
 (∀ H' s' k,yM c w s=.ok (k,s')→Kp x a H H'→RnAt t H' x a C s'→Q (.int (k:Nat)) H')∧∀ H' er,yM c w s=.error er→Same H H'→Kz t er E H'
def kq (t:Adr):Sp:=fun vs H Q _=>∃ (x:Addr) (w:Int) (m:Nat) (a:RAd) (C:List Cs) (s:RSt),vs=[.ref x,.int w]∧RnAt t H x a C s∧(∀ c∈C,Yq c)∧RnOk m s∧m≤900∧∀ H',Kp x a H H'→RnAt t H' x a C (xF C w s)→Q .non H'
def kr (t:Adr):Sp:=fun vs H Q _=>∃ (x:Addr) (a:RAd) (C:List Cs) (s:RSt),vs=[.ref x]∧RnAt t H x a C s∧(∀ c∈C,Yq c)∧yP s.sl∧(∀ H',Ye C s=none→Same H H'→Q .non H')∧∀ p q H',Ye C s=some p→Same H H'→H' q=some (.tup [.str p.1,.int p.2])→Q (.ref q) H'
def jD (t:Adr):Sp:=fun vs H Q _=>∃ (x:Addr) (a:RAd) (C:List Cs) (s:RSt),vs=[.ref x]∧RnAt t H x a C s∧s.no.length≤900∧(s.no.map (·.1)).Nodup∧s.gi.length≤63∧(∀ H',yq C s=false→Same H H'→Q .non H') ∧
 ∀ r o nl gl out H',yq C s=true→Same H H'→H nl=none→H gl=none→nl≠gl→H' r=some (.tup [o,.ref nl,.ref gl])→Xf H' o (ZM s)→yk H' nl s.no→yk H' gl out→w4 s out→Q (.ref r) H'
def zT (K:bx):Sp:=fun vs H Q _=>∃ (a:Addr) (ns:List Int) (k:Nat),vs=[.ref a,.int k]∧SqL K H a (ns.map V.int)∧ns.length≤63∧∀ c H',Same H H'→Q (.int c) H'
def zl:Sp:=fun vs H Q _=>∃ c j,vs=[.int c,.int j]∧0≤j∧j≤1000∧∀ r H',0≤r→r < 2147483648→Same H H'→Q (.int r) H'
def xm:Sp:=fun vs H Q _=>∃ c m,vs=[.int c,.int m]∧0≤m∧m≤6∧∀ nm ws H',Same H H'→NamesAt H' nm ws→(ws.length:Int)=m→Q (.ref nm) H'
def yi:Sp:=fun vs H Q _=>∃ c j,vs=[.int c,.int j]∧0≤j∧j≤900∧∀ w H',inW w=true→Same H H'→Q (.int w) H'
def lfV (v:V):Prop:=(∃ i,v=.int i∧inW i=true)∨∃ x,v=.str x∧yf x=true
def wdJ (w:Str):Prop:=isJ (.str w)=true∧w.length≤1000∧b6 w=true
def yU:Sp:=fun vs H Q _=>∃ c j a ws,vs=[.int c,.int j,.ref a]∧0≤j∧j≤700∧NamesAt H a ws∧ws.length=2∧∀ p e H',Same H H'→H p=none→H' p=some (.tup e)→TermOk e→tmP e→Q (.ref p) H'
mutual
def szR:Rw→Nat
 | .iff _ a b=>jE a + jE b + 2
 | _=>1
def jE:Rws→Nat
 | .nil=>0
 | .cons r rs=>szR r + jE rs
end
def zdo:Cs→Prop
 | .row r=>xT r
 | _=>True
structure zap (C:List Cs):Prop where
 ok:∀ c∈C,Yq c
 pl:∀ c∈C,zdo c
 fw:∀ (i to:Nat) (e:List V),C[i]?=some (Cs.skip e to)→i < to
 fg:∀ (i to:Nat),C[i]?=some (Cs.go to)→i < to
 le:C.length≤40
structure RnI (C:List Cs) (m:Nat) (s:RSt):Prop where
 ok:RnOk m s
 ng:∀ r∈s.gi,b6 r.1.1=true
 nn:∀ r∈s.no,b6 r.1.1=true
 at_:s.why=none→m≤s.n
 wy:∀ w,s.why=some w→b6 w=true
def csP:Cs→Prop
 | .row r=>xT r∧zao r
 | .skip e _=>tmP e
 | .go _=>True
def kt:Sp:=fun vs H Q _=>∃ a rows,vs=[.ref a]∧yk H a rows∧(dOf rows).length≤63∧rows.length≤1000∧∀ l out H',Same H H'→H l=none→yk H' l out→wI rows out→Q (.ref l) H'
def ZN:Sp:=fun vs H Q _=>∃ (l q:Addr) (rows:List Row) (p:Pl),vs=[.ref l,.ref q]∧yk H l rows∧rows.length≤500∧H q=some (.tup [.str p.1,.int p.2])∧∀ H',Same H H'→Q (.int ((zN rows p).getD 0)) H'
def Ju (rows:List Row) (p:Pl):Int:=(zN rows p).getD 0
def Jv (C:List Cs) (tb:Pl→Int) (s:RSt):Int:=match Ye C s with
 | none=>0
 | some p=>tb p
def Xg (C:List Cs) (tb:Pl→Int) (s:RSt):RSt:=xF C (Jv C tb s) s
def Vl (C:List Cs) (tb:Pl→Int):Nat→RSt→RSt
 | 0,s=>s
 | k + 1,s=>Vl C tb k (Xg C tb s)
def Rch (C:List Cs) (tb:Pl→Int) (s s':RSt):Prop:=∃ k,Vl C tb k s=s'
structure XQ (C:List Cs) (rows:List Row) (s:RSt):Prop where
 ov:yq C s=true
 rc:Rch C (Ju rows) st0 s
 ri:∃ m,m≤C.length∧RnI C m s
 fw:s.gi.length + s.no.length≤C.length
def PpAt (H0 H:Hp) (r:Addr) (s:RSt):Prop:=∃ o nl gl out,H r=some (.tup [o,.ref nl,.ref gl])∧Xf H o (ZM s)∧yk H nl s.no∧yk H gl out∧w4 s out∧H0 nl=none∧H0 gl=none
def Xh (t:Adr):Sp:=fun vs H Q _=>∃ (l tl:Addr) (xs:List V) (C:List Cs) (rows:List Row),vs=[.ref l,.ref tl]∧H l=some (.lst xs)∧Paired (CsAt H) xs C∧zap C∧yk H tl rows∧rows.length≤500∧(∀ r∈rows,inW r.2=true)∧∀ r s H',Same H H'→XQ C rows s→PpAt H H' r s→Q (.ref r) H'
def PS (us:List Str) (p:Pl):Prop:=p.1∈us∧0≤p.2∧p.2 < 3
structure TabI (us:List Str) (tab:List Row):Prop where
 ri:Rising tab
 ps:∀ r∈tab,PS us r.1∧inW r.2=true
def wr:Sp:=fun vs H Q _=>∃ c,vs=[.int c,.int 2]∧∀ nm ws H',Same H H'→NamesAt H' nm ws→ws.length=2→Q (.ref nm) H'
def vJ:Sp:=fun vs H Q _=>∃ c b us,vs=[.int c,.ref b]∧NamesAt H b us∧us.length=2∧∀ l tab H',Same H H'→H l=none→yk H' l tab→TabI us tab→Q (.ref l) H'
structure rwW (us:List Str) (r:Rw):Prop where
 dp:r.deep≤1
 pl:xT r
 ok:j7 r
 sz:szR r≤3
 ps:qM (PS us) r
def ku:Sp:=fun vs H Q _=>∃ c a b ws us,vs=[.int c,.ref a,.ref b]∧NamesAt H a ws∧ws.length=2∧NamesAt H b us∧us.length=2∧∀ v r H',Same H H'→RwAt (fun b=>H b=none) H' v r→rwW us r→Q v H'
def zb0 (P:Pl→Prop):Cs→Prop
 | .row r=>qM P r
 | _=>True
structure KA (us:List Str) (C:List Cs):Prop where
 co:zap C
 pl:∀ c∈C,csP c
 ps:∀ c∈C,zb0 (PS us) c
def zfl (H:Hp) (v:V) (C:List Cs):Prop:=∃ a ys,v=.ref a∧H a=some (.lst ys)∧Paired (CsAt H) ys C
structure CosAt (us:List Str) (H:Hp) (l:Addr) (CC:List (List Cs)):Prop where
 at_:∃ xs,H l=some (.lst xs)∧Paired (zfl H) xs CC
 ok:∀ C∈CC,KA us C
 le:CC.length≤63
def z8 (n:Nat):V:=.int n
def vK (K:bx):Sp:=fun vs H Q _=>∃ (a sa sb:Addr) (ns:List Int) (ws us:List Str),vs=[.ref a,.ref sa,.ref sb]∧SqL K H a (ns.map V.int)∧ns.length≤63∧NamesAt H sa ws∧ws.length=2∧NamesAt H sb us∧us.length=2∧∀ l CC H',Same H H'→CosAt us H' l CC→Q (.ref l) H'
def jV (n:Nat) (ns:List Int):Prop:=ns.Perm ((bZ n).map fun (i:Nat)=>(i:Int))
def vL (t:Adr):Sp:=fun vs H Q E=>∃ (l:Addr) (n:Nat) (ns:List Int),vs=[.ref l,.int n]∧H l=some (.lst (ns.map V.int))∧ns.length≤64∧n≤63∧(jV n ns→∀ H',Same H H'→Q .non H')∧(¬ jV n ns→∀ H',Same H H'→E (.ref t.c_NoOrder) none H')
def vM (K:bx):Sp:=fun vs H Q _=>∃ (a:Addr) (ns:List Int) (n:Nat),vs=[.ref a,.int n]∧SqL K H a (ns.map V.int)∧ns.length≤63∧n≤63∧∀ (l:Addr) (os:List Nat) (H':Hp),Same H H'→H l=none→H' l=some (.lst (os.map z8))→os.Perm (bZ n)→Q (.ref l) H'
def jF:Sp:=fun vs H Q _=>∃ (c:Int) (l:Addr) (os:List Nat) (n:Nat),vs=[.int c,.ref l]∧H l=some (.lst (os.map z8))∧os.Perm (bZ n)∧n≤63∧∀ (l':Addr) (ns:List Int) (H':Hp),Same H H'→H' l'=some (.lst (ns.map V.int))→ns.length≤n + 1→¬ jV n ns→Q (.ref l') H'
def w5:Sp:=fun vs H Q _=>∃ a b tab gifts,vs=[.ref a,.ref b]∧yk H a tab∧yk H b gifts∧(dOf (tab ++ gifts)).length≤63∧(tab ++ gifts).length≤1000∧∀ l out H',Same H H'→H l=none→yk H' l out→wI (tab ++ gifts) out→Q (.ref l) H'
def jG:Sp:=w5
noncomputable def zb1 (C:List Cs) (rows:List Row):RSt:=@lK RSt ⟨st0⟩ (XQ C rows)
noncomputable def giS (s:RSt):List Row:=@lK (List Row) ⟨[]⟩ (w4 s)
noncomputable def zfm (rows:List Row):List Row:=@lK (List Row) ⟨[]⟩ (wI rows)
noncomputable def zb2 (CC:List (List Cs)) (now:List Row) (k:Nat):List Row:=zfm (now ++ giS (zb1 (CC.getD k []) now))
noncomputable def jW (CC:List (List Cs)) (tab:List Row) (os:List Nat):List Row:=os.foldl (zb2 CC) tab
noncomputable def pS (CC:List (List Cs)) (tab:List Row) (os:List Nat) (i:Nat):RSt:=zb1 (CC.getD (os.getD i 0) []) (jW CC tab (os.take i))
noncomputable def pK (CC:List (List Cs)) (tab:List Row) (os:List Nat) (k:Nat):RSt:=pS CC tab os (os.idxOf k)
def PpW (H:Hp) (v:V) (s:RSt):Prop:=∃ r o nl gl out,v=.ref r∧H r=some (.tup [o,.ref nl,.ref gl])∧Xf H o (ZM s)∧yk H nl s.no∧yk H gl out∧w4 s out∧∃ C m,RnI C m s
def PpsX (H:Hp) (xs:List V) (f:Nat→RSt) (n:Nat):Prop:=xs.length=n∧∀ k v,xs[k]?=some v→PpW H v (f k)
structure TolAt (us:List Str) (H:Hp) (v:V) (f:Nat→RSt) (n:Nat) (out:List Row) (pl tl:Addr):Prop where
 at_:∃ r,v=.ref r∧H r=some (.tup [.ref pl,.ref tl])
 pp:∃ xs,H pl=some (.lst xs)∧PpsX H xs f n
 tb:yk H tl out
 ti:TabI us out
 le:n≤63
def kx:Sp:=fun vs H Q _=>∃ (cl tl l:Addr) (us:List Str) (CC:List (List Cs)) (tab:List Row) (os:List Nat),vs=[.ref cl,.ref tl,.ref l]∧CosAt us H cl CC∧us.length=2∧(∀ w∈us,yf w=true)∧yk H tl tab∧TabI us tab∧H l=some (.lst (os.map z8))∧os.Perm (bZ CC.length) ∧
 ∀ v pl tl' H',Same H H'→TolAt us H' v (pK CC tab os) CC.length (jW CC tab os) pl tl'→Q v H'
def yH (t:Adr):Sp:=fun vs H Q E=>∃ (cl tl l:Addr) (us:List Str) (CC:List (List Cs)) (tab:List Row) (ns:List Int),vs=[.ref cl,.ref tl,.ref l]∧CosAt us H cl CC∧us.length=2∧(∀ w∈us,yf w=true)∧yk H tl tab∧TabI us tab∧H l=some (.lst (ns.map V.int))∧ns.length≤64 ∧
 (∀ os:List Nat,ns=(os.map fun (i:Nat)=>(i:Int))→os.Perm (bZ CC.length)→∀ v pl tl' Hm xs H',Same H Hm→Same Hm H'→Hm tl'=none→pl≠tl'→H' pl=some (.lst xs)→PpsX Hm xs (pK CC tab os) CC.length→TolAt us H' v (pK CC tab os) CC.length (jW CC tab os) pl tl'→Q v H')∧(¬ jV CC.length ns→∀ H',Same H H'→E (.ref t.c_NoOrder) none H')
inductive PlV (H:Hp):Nat→V→Prop
 | int {n:Nat} (i:Int):PlV H (n + 1) (.int i)
 | str {n:Nat} (x:Str):PlV H (n + 1) (.str x)
 | lst {n:Nat} {a:Addr} {xs:List V}:H a=some (.lst xs)→(∀ x∈xs,PlV H n x)→PlV H (n + 1) (.ref a)
 | tup {n:Nat} {a:Addr} {xs:List V}:H a=some (.tup xs)→(∀ x∈xs,PlV H n x)→PlV H (n + 1) (.ref a)
def yZ (n:Nat):Sp:=fun vs H Q _=>∃ (v:V),vs=[v]∧PlV H n v∧∀ H',Same H H'→Q (.bl true) H'
def yN:Sp:=fun vs H Q _=>∃ (v u:V) (us:List Str) (f:Nat→RSt) (n:Nat) (out:List Row) (p1 t1 p2 t2:Addr),vs=[v,u]∧TolAt us H v f n out p1 t1∧TolAt us H u f n out p2 t2∧(∀ w∈us,yf w=true)∧∀ H',Same H H'→Q (.bl true) H'
def wt:Sp:=fun vs H Q _=>∃ (cl tl l:Addr) (us:List Str) (CC:List (List Cs)) (tab:List Row) (ns:List Int),vs=[.ref cl,.ref tl,.ref l]∧CosAt us H cl CC∧us.length=2∧(∀ w∈us,yf w=true)∧yk H tl tab∧TabI us tab∧H l=some (.lst (ns.map V.int))∧ns.length≤64∧¬ jV CC.length ns∧∀ H',Same H H'→Q (.bl true) H'
def sp_law (K:bx):Sp:=fun vs H Q _=>∃ (a:Addr) (ns:List Int),vs=[.ref a]∧SqL K H a (ns.map V.int)∧ns.length≤63∧∀ H',Q (.bl true) H'
def jH (K:bx) (t:Adr):TS:=(zn (zF (tOp (rI (fun _ j=>0 < j) fun i j=>.int (i % j)) (tOp (rI0 fun i j=>.int (i + j)) (tOp (rI CMulB fun i j=>.int (i * j)) (tOp (rI (fun _ j=>0 < j) fun i j=>.int (i % j)) (zc 0) (tC (.int 1000000007))) (tC (.int 6700417))) (tOp (rI CMulB fun i j=>.int (i * j)) (tOp (rI CMulB fun i j=>.int (i * j)) (tOp (rI0 fun i j=>.int (i + j)) (zc 1) (tC (.int 1))) (tC (.int 104729))) (tC (.int 65537)))) (tC (.int 1000000009))) (zm 2))
  (zA (tOp (rI zaX fun i j=>.int (i / j)) (tOp (rI (fun _ j=>0 < j) fun i j=>.int (i % j)) (tOp (rI CMulB fun i j=>.int (i * j)) (tOp (rI (fun _ j=>0 < j) fun i j=>.int (i % j)) (tOp (rI CMulB fun i j=>.int (i * j)) (zc 2) (zc 2)) (tC (.int 1000000009))) (zc 2)) (tC (.int 1000000009))) (tC (.int 32)))))
def wu (K:bx) (t:Adr):TS:=(zA (xM (vg (zb (zc 1) zh)) (zm 0) Yi (tOp jQ (tOp jQ (tSl Ke (zc 1) ya (yR (zc 2))) (tOp WS (zc 3) (zc 0))) (tSl Ke (zc 1) (yR (tOp (rI0 fun i j=>.int (i + j)) (zc 2) (tC (.int 1)))) ya)) 1 [4,6,3]))
def ww (K:bx) (t:Adr):TS:=(zn (zF (tOp (rI (fun _ j=>0 < j) fun i j=>.int (i % j)) (zp zl [] E0 (zb (zc 0) (zb (tC (.int 8)) zh))) (zc 2)) (zm 6))
  (zn (zF (tOp (rI (fun _ j=>0 < j) fun i j=>.int (i % j)) (zp zl [] E0 (zb (zc 0) (zb (tC (.int 9)) zh))) (tCB (xS K) (zb (zc 3) zh))) (zm 7))
  (zn (zF (tOp jQ (tSl Ke (zc 3) (yR (zc 7)) ya) (tSl Ke (zc 3) ya (yR (zc 7)))) (zm 3))
  (wu K t))))
def wx (K:bx) (t:Adr):TS:=(zn (zF (tC (.str "")) (zm 4))
  (zn (vD (vg (zb (zc 2) zh)) (zm 5)
    (zF (tOp jQ (zc 4) (tOp WS (zc 3) (tOp (rI (fun _ j=>0 < j) fun i j=>.int (i % j)) (zp zl [] E0 (zb (zc 0) (zb (tOp (rI0 fun i j=>.int (i + j)) (tC (.int 2)) (zc 5)) zh))) (tCB (xS K) (zb (zc 3) zh))))) (zm 4)))
  (ww K t)))
def vN (K:bx) (t:Adr):TS:=(zn (zF (tOp (rI0 fun i j=>.int (i + j)) (tC (.int 1)) (tOp (rI (fun _ j=>0 < j) fun i j=>.int (i % j)) (zp zl [] E0 (zb (zc 0) (zb (tC (.int 1)) zh))) (tC (.int 6)))) (zm 2))
  (zn (zF (tC (.str "zyxwvtsrqpnmlkjhgfdcb")) (zm 3))
  (zn (zK (zv (tOp rEq (zc 2) (tC (.int 6))))
    (zF (tC (.str "zyxwvutsrqponmlkjihgfedcba")) (zm 3))
    zB)
  (wx K t))))
def vq (K:bx) (t:Adr):TS:=(zA (xM (vg (zb (zc 1) zh)) (zm 0) Yi (tOp (yV K) (zc 1) (tOp (rI (fun _ j=>0 < j) fun i j=>.int (i % j)) (tOp (rI0 fun i j=>.int (i + j)) (zc 2) (zc 0)) (tC (.int 4)))) 1 [5,6]))
def xJ (K:bx) (t:Adr):TS:=(zn (zF (yK (zb (zc 3) (zb (tOp jQ (zc 4) (zc 3)) (zb (zbU (zc 3) (tUn (rU fun i=>.int (-i)) (tC (.int 1)))) (zb (tOp jQ (zc 3) (zc 4)) zh))))) (zm 5))
  (zn (zF (tOp (rI (fun _ j=>0 < j) fun i j=>.int (i % j)) (zp zl [] E0 (zb (zc 0) (zb (tC (.int 15)) zh))) (tC (.int 4))) (zm 6))
  (vq K t)))
def vt (K:bx) (t:Adr):TS:=(zn (zF (tC (.str "zyxwvtsrqpnmlkjhgfdcb")) (zm 2))
  (zn (zF (tOp jQ (tOp WS (zc 2) (tOp (rI (fun _ j=>0 < j) fun i j=>.int (i % j)) (zp zl [] E0 (zb (zc 0) (zb (tC (.int 12)) zh))) (tC (.int 21)))) (tOp WS (zc 2) (tOp (rI (fun _ j=>0 < j) fun i j=>.int (i % j)) (zp zl [] E0 (zb (zc 0) (zb (tC (.int 13)) zh))) (tC (.int 21))))) (zm 3))
  (zn (zF (tOp WS (zc 2) (tOp (rI (fun _ j=>0 < j) fun i j=>.int (i % j)) (zp zl [] E0 (zb (zc 0) (zb (tC (.int 14)) zh))) (tC (.int 21)))) (zm 4))
  (xJ K t))))
def wz (K:bx) (t:Adr):TS:=(zn (zK (zv (tOp (rI0 fun i j=>.bl (decide (j < i))) (tOp (rI (fun _ j=>0 < j) fun i j=>.int (i % j)) (zp zl [] E0 (zb (zc 0) (zb (tC (.int 11)) zh))) (tC (.int 3))) (tC (.int 0))))
   (zA (zp xm [] E0 (zb (zc 0) (zb (zc 1) zh))))
   zB)
  (vt K t))
def w6 (K:bx) (t:Adr):TS:=(zn (zK (zv (tOp rEq (tOp (rI (fun _ j=>0 < j) fun i j=>.int (i % j)) (zp zl [] E0 (zb (zc 0) (zb (zc 1) zh))) (tC (.int 12))) (tC (.int 0))))
   (zA (tOp (rI0 fun i j=>.int (i - j)) (tOp (rI (fun _ j=>0 < j) fun i j=>.int (i % j)) (tOp (rI0 fun i j=>.int (i + j)) (tOp (rI CMulB fun i j=>.int (i * j)) (tOp (rI CMulB fun i j=>.int (i * j)) (tOp (rI (fun _ j=>0 < j) fun i j=>.int (i % j)) (zc 0) (tOp (rI VN fun i j=>.int (i ^ j.toNat)) (tC (.int 10)) (tC (.int 40)))) (tOp (rI0 fun i j=>.int (i + j)) (zc 1) (tC (.int 2)))) (tC (.int 1000003))) (zc 1)) (tOp (rI0 fun i j=>.int (i + j)) (tOp (rI CMulB fun i j=>.int (i * j)) (tC (.int 2)) (tOp (rI VN fun i j=>.int (i ^ j.toNat)) (tC (.int 10)) (tC (.int 30)))) (tC (.int 1)))) (tOp (rI VN fun i j=>.int (i ^ j.toNat)) (tC (.int 10)) (tC (.int 30)))))
   zB)
  (zA (tOp (rI0 fun i j=>.int (i - j)) (tOp (rI (fun _ j=>0 < j) fun i j=>.int (i % j)) (zp zl [] E0 (zb (zc 0) (zb (tOp (rI0 fun i j=>.int (i + j)) (zc 1) (tC (.int 1))) zh))) (tC (.int 7))) (tC (.int 2)))))
def vO (K:bx) (t:Adr):TS:=(zn (zF ZB (zm 2))
  (zn (vD (vg (zb (tOp (rI (fun _ j=>0 < j) fun i j=>.int (i % j)) (zp zl [] E0 (zb (zc 0) (zb (tC (.int 20)) zh))) (tC (.int 6))) zh)) (zm 3)
    (zn (zF (zp yi [] E0 (zb (zc 0) (zb (tOp (rI0 fun i j=>.int (i + j)) (tC (.int 30)) (tOp (rI CMulB fun i j=>.int (i * j)) (tC (.int 3)) (zc 3))) zh))) (zm 4))
  (zK (zv (tOp rNe (zc 4) (tC (.int 0))))
   (wf (zc 2) (yt (zb (tOp (yV K) (zc 1) (tOp (rI (fun _ j=>0 < j) fun i j=>.int (i % j)) (zp zl [] E0 (zb (zc 0) (zb (tOp (rI0 fun i j=>.int (i + j)) (tC (.int 60)) (zc 3)) zh))) (tC (.int 2)))) (zb (tOp (rI (fun _ j=>0 < j) fun i j=>.int (i % j)) (zp zl [] E0 (zb (zc 0) (zb (tOp (rI0 fun i j=>.int (i + j)) (tC (.int 70)) (zc 3)) zh))) (tC (.int 3))) zh))) (zc 4))
   zB)))
  (zA (tCB Jk (zb (ZF (zc 2)) zh)))))
def jg (K:bx) (t:Adr) (n:Nat):TS:=(zA (tOp xR (yK (zb (yt (zb (tC (.str "skip")) (zb (tOp (zI K) (zc 0) (tC (.int 1))) (zb (zc 3) zh)))) zh)) (zc 2)))
def jh (K:bx) (t:Adr) (n:Nat):TS:=(zn (zF (zp (yF  n) [] E0 (zb (tOp (zI K) (zc 0) (tC (.int 3))) (zb (tOp (rI0 fun i j=>.int (i + j)) (zc 3) (tC (.int 1))) zh))) (zm 4))
  (zA (tOp xR (tOp xR (tOp xR (yK (zb (yt (zb (tC (.str "skip")) (zb (tOp (zI K) (zc 0) (tC (.int 1))) (zb (tOp (rI0 fun i j=>.int (i + j)) (zc 3) (tC (.int 1))) zh)))) zh)) (zc 2)) (yK (zb (yt (zb (tC (.str "go")) (zb (tOp (rI0 fun i j=>.int (i + j)) (tOp (rI0 fun i j=>.int (i + j)) (zc 3) (tC (.int 1))) (tCB (xS K) (zb (zc 4) zh))) zh))) zh))) (zc 4))))
def ji (K:bx) (t:Adr) (n:Nat):TS:=(zn (zK (zv (tOp (Kg K) (tOp (zI K) (zc 0) (tC (.int 3))) (yK zh)))
   (jg K t n)
   zB)
  (jh K t n))
def va (K:bx) (t:Adr) (n:Nat):TS:=(zn (zF (zp (yF  n) [] E0 (zb (tOp (zI K) (zc 0) (tC (.int 2))) (zb (tOp (rI0 fun i j=>.int (i + j)) (zc 1) (tC (.int 1))) zh))) (zm 2))
  (zn (zF (tOp (rI0 fun i j=>.int (i + j)) (tOp (rI0 fun i j=>.int (i + j)) (zc 1) (tC (.int 1))) (tCB (xS K) (zb (zc 2) zh))) (zm 3))
  (ji K t n)))
def ky (K:bx) (t:Adr) (n:Nat):TS:=(zn (zF (yK zh) (zm 2))
  (zn (vD (wQ K (zc 0)) (zm 3)
    (zK (zv (tOp rEq (tOp (zI K) (zc 3) (tC (.int 0))) (tC (.str "if"))))
    (xi (tBM K "list" Yc (zc 2) (zb (zp (wY  n) [] E0 (zb (zc 3) (zb (tOp (rI0 fun i j=>.int (i + j)) (zc 1) (tCB (xS K) (zb (zc 2) zh))) zh))) zh)))
    (xi (tBM K "list" yd (zc 2) (zb (zc 3) zh)))))
  (zA (zc 2))))
def qX (K:bx) (t:Adr):TS:=(zA (zp (yF  6) [] E0 (zb (zc 0) (zb (tC (.int 0)) zh))))
def wA (K:bx) (t:Adr):TS:=(zn (zK (zv (tOp (rI0 fun i j=>.bl (decide (i < j))) (zc 1) (tCB (xS K) (zb (zc 0) zh))))
   (zA (tOp (yV K) (zc 0) (zc 1)))
   zB)
  (zA (tC (.int 0))))
def jI (K:bx) (t:Adr):TS:=(zn (zF (tOp (yV K) (zc 2) (tOp (rI (fun _ j=>0 < j) fun i j=>.int (i % j)) (zp zl [] E0 (zb (zc 0) (zb (zc 1) zh))) (tC (.int 2)))) (zm 3))
  (zn (zF (tOp (rI (fun _ j=>0 < j) fun i j=>.int (i % j)) (zp zl [] E0 (zb (zc 0) (zb (tOp (rI0 fun i j=>.int (i + j)) (zc 1) (tC (.int 1))) zh))) (tC (.int 4))) (zm 4))
  (zn (zK (zv (tOp rEq (zc 4) (tC (.int 0))))
    (zA (yt (zb (zc 3) zh)))
    zB)
  (zn (zK (zv (tOp rEq (zc 4) (tC (.int 1))))
    (zA (yt (zb (zp yi [] E0 (zb (zc 0) (zb (tOp (rI0 fun i j=>.int (i + j)) (zc 1) (tC (.int 2))) zh))) zh)))
    zB)
  (zn (zF (yK (zb (tC (.str "plus")) (zb (tC (.str "minus")) (zb (tC (.str "times")) (zb (tC (.str "over")) (zb (tC (.str "same")) zh)))))) (zm 5))
  (zA (yt (zb (zc 3) (zb (zp yi [] E0 (zb (zc 0) (zb (tOp (rI0 fun i j=>.int (i + j)) (zc 1) (tC (.int 2))) zh))) (zb (tOp (yV K) (zc 5) (tOp (rI (fun _ j=>0 < j) fun i j=>.int (i % j)) (zp zl [] E0 (zb (zc 0) (zb (tOp (rI0 fun i j=>.int (i + j)) (zc 1) (tC (.int 4))) zh))) (tC (.int 5)))) zh))))))))))
def vP (K:bx) (t:Adr):TS:=(zn (zK (zv (tOp (rI0 fun i j=>.bl (decide (i < j))) (zc 3) (tC (.int 5))))
   (zA (yt (zb (tC (.str "take")) (zb (zc 4) (zb (zc 6) (zb (zc 5) zh))))))
   zB)
  (zn (zK (zv (tOp (rI0 fun i j=>.bl (decide (i < j))) (zc 3) (tC (.int 9))))
    (zA (yt (zb (tC (.str "give")) (zb (zc 4) (zb (zc 6) (zb (zp yU [] E0 (zb (zc 0) (zb (tC (.int 20)) (zb (zc 1) zh)))) zh))))))
    zB)
  (zn (zK (zv (tOp rEq (zc 3) (tC (.int 9))))
    (zA (yt (zb (tC (.str "let")) (zb (zc 5) (zb (zp yU [] E0 (zb (zc 0) (zb (tC (.int 20)) (zb (zc 1) zh)))) zh)))))
    zB)
  (zn (zK (zv (tOp rEq (zc 3) (tC (.int 10))))
    (zA (yt (zb (tC (.str "off")) (zb (yt (zb (zc 5) (zb (zp yi [] E0 (zb (zc 0) (zb (tC (.int 21)) zh))) (zb (tC (.str "same")) zh)))) zh))))
    zB)
  (zn (zK (zv (tOp rEq (zc 3) (tC (.int 11))))
    (zA (yt (zb (tC (.str "if")) (zb (zp yU [] E0 (zb (zc 0) (zb (tC (.int 40)) (zb (zc 1) zh)))) (zb (yK (zb (yt (zb (tC (.str "give")) (zb (zc 4) (zb (zc 6) (zb (zp yU [] E0 (zb (zc 0) (zb (tC (.int 20)) (zb (zc 1) zh)))) zh))))) zh)) (zb (yK zh) zh))))))
    zB)
  (zA (yt (zb (tC (.str "say")) (zb (zp yU [] E0 (zb (zc 0) (zb (tC (.int 20)) (zb (zc 1) zh)))) zh)))))))))
def kz (K:bx) (t:Adr):TS:=(zn (zF (tOp (rI (fun _ j=>0 < j) fun i j=>.int (i % j)) (zp zl [] E0 (zb (zc 0) (zb (tC (.int 0)) zh))) (tC (.int 14))) (zm 3))
  (zn (zF (tOp (yV K) (zc 2) (tOp (rI (fun _ j=>0 < j) fun i j=>.int (i % j)) (zp zl [] E0 (zb (zc 0) (zb (tC (.int 60)) zh))) (tC (.int 2)))) (zm 4))
  (zn (zF (tOp (yV K) (zc 1) (tOp (rI (fun _ j=>0 < j) fun i j=>.int (i % j)) (zp zl [] E0 (zb (zc 0) (zb (tC (.int 61)) zh))) (tC (.int 2)))) (zm 5))
  (zn (zF (yt (zb (tOp (rI (fun _ j=>0 < j) fun i j=>.int (i % j)) (zp zl [] E0 (zb (zc 0) (zb (tC (.int 62)) zh))) (tC (.int 3))) zh)) (zm 6))
  (vP K t)))))
def wB (K:bx) (t:Adr):TS:=(zn (vD (zbG (zb (tC (.int 0)) (zb (tCB (xS K) (zb (zc 4) zh)) (zb (zc 3) zh)))) (zm 6)
   (xi (tBM K "list" yd (zc 5) (zb (zp qW [] E0 (zb (xM (wQ K (tSl (jn K) (zc 4) (yR (zc 6)) (yR (tOp (rI0 fun i j=>.int (i + j)) (zc 6) (zc 3))))) (zm 0) Yi (zp ku [] E0 (zb (zc 0) (zb (zc 1) (zb (zc 2) zh)))) 1 [1,2]) zh)) zh))))
  (zA (zc 5)))
def vQ (K:bx) (t:Adr):TS:=(zn (zF (tOp (rI0 fun i j=>.int (i + j)) (tC (.int 1)) (tOp (rI (fun _ j=>0 < j) fun i j=>.int (i % j)) (zp zl [] E0 (zb (zp (zT K) [] E0 (zb (zc 0) (zb (tC (.int 0)) zh))) (zb (tC (.int 200)) zh))) (tC (.int 8)))) (zm 3))
  (zn (zF (tSl (jn K) (zc 0) ya (yR (tC (.int 240)))) (zm 4))
  (zn (zF (yK zh) (zm 5))
  (wB K t))))
def vR (K:bx) (t:Adr):TS:=(zn (zF (yK zh) (zm 2))
  (zn (vD (vg (zb (zc 1) zh)) (zm 3)
    (xi (tBM K "list" j9 (zc 2) (zb (tOp (rI (fun _ j=>0 < j) fun i j=>.int (i % j)) (zp zl [] E0 (zb (zp (zT K) [] E0 (zb (zc 0) (zb (zc 3) zh))) (zb (tC (.int 203)) zh))) (tOp (rI0 fun i j=>.int (i + j)) (tC (.int 1)) (zc 3))) (zb (zc 3) zh)))))
  (zA (zc 2))))
def kA (K:bx) (t:Adr):TS:=(zn (qz K (zc 0) (tCB (Zi K) (zb (zc 1) zh)) "code")
  (zn (qz K (zc 0) (tC (.int 0)) "at")
  (zn (qz K (zc 0) (tC .non) "why")
  (zn (qz K (zc 0) qB "slots")
  (zn (qz K (zc 0) ZB "gifts")
  (zn (qz K (zc 0) ZB "notes")
  (qz K (zc 0) (yK zh) "sayings")))))))
def kB (K:bx) (t:Adr):TS:=(zA (zeb (tOp Qb (yJ K (zc 0) "why") (tC .non)) (tOp (rI0 fun i j=>.bl (decide (j≤i))) (yJ K (zc 0) "at") (tCB (xS K) (zb (yJ K (zc 0) "code") zh)))))
def kC (K:bx) (t:Adr):TS:=(zn (zK (zv (tOp Qb (yJ K (zc 0) "why") (tC .non)))
   (zA (yt (zb (yt (zb (tC (.str "off")) (zb (yJ K (zc 0) "why") zh))) (zb (zc 1) (zb (yK zh) zh)))))
   zB)
  (zA (yt (zb (yt (zb (tC (.str "done")) (zb (tCB (zfg K) (zb (yJ K (zc 0) "sayings") zh)) zh))) (zb (zc 1) (zb (tCB Jk (zb (ZF (yJ K (zc 0) "gifts")) zh)) zh))))))
def kD (K:bx) (t:Adr):TS:=(zn (zF (tCB zbA (zb (ZF (yJ K (zc 0) "notes")) zh)) (zm 1))
  (kC K t))
def jJ (K:bx) (t:Adr):TS:=(zn (zK (vC (tB (yu t.c_Run "over" (yG t) [] E0 (zc 0) zh)))
   (zA (tC .non))
   zB)
  (kD K t))
def qY (K:bx) (t:Adr) (E:XK):TS:=(zn (zK (zv (tOp rEq (zc 2) (tC (.int 0))))
   (qD t.c_Nought (zb (VW (zc 0)) zh) E)
   zB)
  (zA (tIf (zv (tOp rEq (zc 0) (tC (.str "over")))) (tOp (rI zdZ fun i j=>.int (i.fdiv j)) (zc 1) (zc 2)) (tOp (rI (fun _ j=>j≠0) fun i j=>.int (i.fmod j)) (zc 1) (zc 2)))))
def qZ (K:bx) (t:Adr) (E:XK):TS:=(zn (zK (zv (tOp rEq (zc 0) (tC (.str "plus"))))
   (zA (tOp (rI0 fun i j=>.int (i + j)) (zc 1) (zc 2)))
   zB)
  (zn (zK (zv (tOp rEq (zc 0) (tC (.str "minus"))))
    (zA (tOp (rI0 fun i j=>.int (i - j)) (zc 1) (zc 2)))
    zB)
  (zn (zK (zv (tOp rEq (zc 0) (tC (.str "times"))))
    (zA (tOp (rI CMulB fun i j=>.int (i * j)) (zc 1) (zc 2)))
    zB)
  (zn (zK (zv (tOp rEq (zc 0) (tC (.str "under"))))
    (zA (tIf (zv (tOp (rI0 fun i j=>.bl (decide (i < j))) (zc 1) (zc 2))) (tC (.int 1)) (tC (.int 0))))
    zB)
  (zn (zK (zv (tOp rEq (zc 0) (tC (.str "same"))))
    (zA (tIf (zv (tOp rEq (zc 1) (zc 2))) (tC (.int 1)) (tC (.int 0))))
    zB)
  (zA (zp (qU t) [] E (zb (zc 0) (zb (zc 1) (zb (zc 2) zh))))))))))
def kE (K:bx) (t:Adr):TS:=(zn (zK (tOr (vC (tB (tCB (Yj K) (zb (zc 0) (zb (tC (.ty "int")) zh))))) (tB (tCB (Yj K) (zb (zc 0) (zb (tC (.ty "bool")) zh)))))
   (zA (tC (.bl false)))
   zB)
  (zA (J2 (rI0 fun i j=>.bl (decide (i≤j))) (rI0 fun i j=>.bl (decide (i≤j))) (tUn (rU fun i=>.int (-i)) (tOp (rI VN fun i j=>.int (i ^ j.toNat)) (tC (.int 10)) (tC (.int 30)))) (zc 0) (tOp (rI VN fun i j=>.int (i ^ j.toNat)) (tC (.int 10)) (tC (.int 30))))))
def ZO (K:bx) (t:Adr) (E:XK):TS:=(zn (zF (zp (qV t) [] E (zb (zc 0) (zb (zc 1) (zb (zc 2) zh)))) (zm 3))
  (zn (zK (vC (tB (zp kj [] E (zb (zc 3) zh))))
    (qD t.c_Great (zb (VW (zc 0)) zh) E)
    zB)
  (zA (zc 3))))
def qf (K:bx) (t:Adr) (E:XK):TS:=(zn (zF (QZ K "list" j3 (zc 2)) (zm 4))
  (zn (zF (QZ K "list" j3 (zc 2)) (zm 5))
  (xi (tBM K "list" yd (zc 2) (zb (zp (ZL t) [] E (zb (zc 3) (zb (zc 5) (zb (zc 4) zh)))) zh)))))
def qg (K:bx) (t:Adr) (E:XK):TS:=(xi (tBM K "list" yd (zc 2) (zb (tIf (tB (tCB (Yj K) (zb (zc 3) (zb (tC (.ty "str")) zh)))) (qC (zc 1) (zc 3) (tC (.int 0))) (zc 3)) zh)))
def qh (K:bx) (t:Adr) (E:XK):TS:=(zK (zv (tOp (rIn K false) (zc 3) (tC (.ref t.c_JOINING))))
   (qf K t E)
   (qg K t E))
def kF (K:bx) (t:Adr) (E:XK):TS:=(zn (zF (yK zh) (zm 2))
  (zn (vD (zef K (zc 0)) (zm 3)
    (qh K t E))
  (zA (QZ K "list" j3 (zc 2)))))
def wC (K:bx) (t:Adr) (E:XK):TS:=(zA (zp (km t) [] E (zb (zc 1) (zb (yJ K (zc 0) "slots") zh))))
def wD (K:bx) (t:Adr) (E:XK):TS:=(zA (yt (zb (tOp (zI K) (zc 1) (tC (.int 1))) (zb (yu t.c_Run "worth_of" (zO t) [] E (zc 0) (zb (tOp (zI K) (zc 1) (tC (.int 2))) zh)) zh))))
def qi (K:bx) (t:Adr):TS:=(zn (zK (tOr (zv (tOp (Jc false) (zc 1) (yJ K (zc 0) "gifts"))) (zv (tOp (Jc false) (zc 1) (yJ K (zc 0) "notes"))))
   (zA (tC .non))
   zB)
  (zA (zc 1)))
def qk (K:bx) (t:Adr):TS:=(zn (zbS K (za4 (Y3 t.c_Run "place_in" (ym t) (zc 0) (zb (tOp (yV K) (yJ K (zc 0) "code") (yJ K (zc 0) "at")) zh)) 1) t.c_Great t.c_Nought (zA (tC .non)))
  (qi K t))
def kG (K:bx) (t:Adr):TS:=(zn (zK (tOr (tB (yu t.c_Run "over" (yG t) [] E0 (zc 0) zh)) (zv (tOp rNe (tOp (zI K) (tOp (yV K) (yJ K (zc 0) "code") (yJ K (zc 0) "at")) (tC (.int 0))) (tC (.str "take")))))
   (zA (tC .non))
   zB)
  (qk K t))
def jK (K:bx) (t:Adr):TS:=(zn (zK (zv (tOp (Jc false) (zc 1) (yJ K (zc 0) "gifts")))
   (zA (vi (yJ K (zc 0) "gifts") (zc 1)))
   zB)
  (zn (zK (zv (tOp (Jc true) (zc 1) (yJ K (zc 0) "notes")))
    (wf (yJ K (zc 0) "notes") (zc 1) (zc 2))
    zB)
  (zA (vi (yJ K (zc 0) "notes") (zc 1)))))
def ql (K:bx) (t:Adr) (E:XK):TS:=(wf (yJ K (zc 0) "slots") (tOp (zI K) (zc 1) (tC (.int 1))) (yu t.c_Run "worth_of" (zO t) [] E (zc 0) (zb (tOp (zI K) (zc 1) (tC (.int 2))) zh)))
def qo (K:bx) (t:Adr) (E:XK):TS:=(xi (tBM K "list" yd (yJ K (zc 0) "sayings") (zb (yu t.c_Run "worth_of" (zO t) [] E (zc 0) (zb (tOp (zI K) (zc 1) (tC (.int 1))) zh)) zh)))
def qp (K:bx) (t:Adr) (E:XK):TS:=(zn (zF (yu t.c_Run "place_in" (ym t) [] E (zc 0) (zb (zc 1) zh)) (zm 3))
  (wf (yJ K (zc 0) "gifts") (zc 3) (yu t.c_Run "worth_of" (zO t) [] E (zc 0) (zb (tOp (zI K) (zc 1) (tC (.int 3))) zh))))
def qq (K:bx) (t:Adr) (E:XK):TS:=(wf (yJ K (zc 0) "slots") (tOp (zI K) (zc 1) (tC (.int 3))) (yu t.c_Run "taken" (jC t) [] E (zc 0) (zb (yu t.c_Run "place_in" (ym t) [] E (zc 0) (zb (zc 1) zh)) (zb (zc 2) zh))))
def xy (K:bx) (t:Adr) (E:XK):TS:=(zK (zv (tOp rEq (tOp (zI K) (zc 1) (tC (.int 0))) (tC (.str "take"))))
   (qq K t E)
   (zK (zv (tOp rEq (tOp (zI K) (zc 1) (tC (.int 0))) (tC (.str "give"))))
   (qp K t E)
   (zK (zv (tOp rEq (tOp (zI K) (zc 1) (tC (.int 0))) (tC (.str "let"))))
   (ql K t E)
   (qo K t E))))
def jR (K:bx) (t:Adr) (E:XK):TS:=(zK (zv (tOp rNe (yu t.c_Run "worth_of" (zO t) [] E (zc 0) (zb (tOp (zI K) (zc 1) (tC (.int 1))) zh)) (tC (.int 0))))
   (qz K (zc 0) (tC (.str "told")) "why")
   zB)
def jS (K:bx) (t:Adr) (E:XK):TS:=(xi (yu t.c_Run "does" (ko t) [] E (zc 0) (zb (zc 1) (zb (zc 2) zh))))
def jT (K:bx) (t:Adr) (E:XK):TS:=(zA (tIf (zv (tOp rEq (yu t.c_Run "worth_of" (zO t) [] E (zc 0) (zb (tOp (zI K) (zc 1) (tC (.int 1))) zh)) (tC (.int 0)))) (tOp (zI K) (zc 1) (tC (.int 2))) (tOp (rI0 fun i j=>.int (i + j)) (yJ K (zc 0) "at") (tC (.int 1)))))
def wE (K:bx) (t:Adr) (E:XK):TS:=(zn (zK (zv (tOp rEq (tOp (zI K) (zc 1) (tC (.int 0))) (tC (.str "off"))))
   (jR K t E)
   (jS K t E))
  (zA (tOp (rI0 fun i j=>.int (i + j)) (yJ K (zc 0) "at") (tC (.int 1)))))
def xp (K:bx) (t:Adr) (E:XK):TS:=(zn (zK (zv (tOp rEq (tOp (zI K) (zc 1) (tC (.int 0))) (tC (.str "skip"))))
   (jT K t E)
   zB)
  (wE K t E))
def y0 (K:bx) (t:Adr) (E:XK):TS:=(zn (zK (zv (tOp rEq (tOp (zI K) (zc 1) (tC (.int 0))) (tC (.str "go"))))
   (zA (tOp (zI K) (zc 1) (tC (.int 1))))
   zB)
  (xp K t E))
def kH (K:bx) (t:Adr):TS:=(zn (zK (tB (yu t.c_Run "over" (yG t) [] E0 (zc 0) zh))
   zaF
   zB)
  (Kr K (zbR K (zc 0) (Y3 t.c_Run "led_by" (vI t) (zc 0) (zb (tOp (yV K) (yJ K (zc 0) "code") (yJ K (zc 0) "at")) (zb (zc 1) zh))) "at") t.c_Great (qz K (zc 0) (tC (.str "great")) "why") t.c_Nought (qz K (zc 0) (tC (.str "nought")) "why")))
def ZP (K:bx) (t:Adr):TS:=(zA (qC (tCB Y2 (zb (zc 0) zh)) (zc 1) (tC (.int 0))))
def KB (K:bx) (t:Adr):TS:=(zn (zF (zaM t.c_Run (kn t) [] E0 (zb (zc 0) zh)) (zm 2))
  (zn (JZ (vC (tB (yu t.c_Run "over" (yG t) [] E0 (zc 2) zh))) (zn (zF (yu t.c_Run "asks" (kr t) [] E0 (zc 2) zh) (zm 3))
  (xi (yu t.c_Run "step" (kq t) [] E0 (zc 2) (zb (tIf (zv (tOp zfa (zc 3) (tC .non))) (tC (.int 0)) (zp ZN [] E0 (zb (zc 1) (zb (zc 3) zh)))) zh)))))
  (zA (yu t.c_Run "paper" (jD t) [] E0 (zc 2) zh))))
def vb (K:bx) (t:Adr):TS:=(zfi (zA (tCB (zbO K) (zb (xM (zeA (zc 2)) (zed K 2 (KP (zm 0) (KP (zm 1) zec))) (zv (tOp rNe (zc 1) (tC (.int 0)))) (yt (zb (zc 0) (zb (zc 1) zh))) 2 []) zh))))
def kI (K:bx) (t:Adr):TS:=(zn (vD (wQ K (zc 1)) (zm 3)
   (wf (zc 2) (tOp (zI K) (zc 3) (tC (.int 0))) (tOp (zI K) (zc 3) (tC (.int 1)))))
  (vb K t))
def jL (K:bx) (t:Adr):TS:=(zn (zF (tCB Y2 (zb (zc 0) zh)) (zm 2))
  (kI K t))
def XR (K:bx) (t:Adr):TS:=(zA (yt (zb (xM (vg (zb (tCB (xS K) (zb (zc 0) zh)) zh)) (zm 0) Yi (vi (zc 1) (zc 0)) 1 [3]) (zb (zc 4) zh))))
def qt (K:bx) (t:Adr):TS:=(zn (vD (wQ K (zc 2)) (zm 5)
   (zn (wf (zc 3) (zc 5) (zp (Xh t) [] E0 (zb (tCB (Zi K) (zb (tOp (yV K) (zc 0) (zc 5)) zh)) (zb (tCB (Zi K) (zb (zc 4) zh)) zh))))
  (zF (zp jG [] E0 (zb (zc 4) (zb (tOp (zI K) (vi (zc 3) (zc 5)) (tC (.int 2))) zh))) (zm 4))))
  (XR K t))
def kJ (K:bx) (t:Adr):TS:=(zn (zF qB (zm 3))
  (zn (zF (zc 1) (zm 4))
  (qt K t)))
def vS (K:bx) (t:Adr) (E:XK):TS:=(zK (zv (tOp (ZE K true) (tCB (zbW K) (zb (zc 0) zh)) (zbY (zb (zc 1) zh))))
   (qD t.c_NoOrder (zb (zbQ (zc 1)) zh) E)
   zB)
def vx (K:bx) (t:Adr):TS:=(zn (zF (tCB Y2 (zb (zc 0) zh)) (zm 1))
  (zA (xM (wQ K (tCB zbr (zb (zc 1) zh))) (zm 0) (zv (tOp rNe (vi (zc 1) (zc 0)) (tC (.int 0)))) (yt (zb (zc 0) (zb (vi (zc 1) (zc 0)) zh))) 1 [1])))
def q8 (K:bx) (t:Adr):TS:=(zA (zp kt [] E0 (zb (tOp xR (zc 0) (zc 1)) zh)))
def vT (K:bx) (t:Adr) (E:XK):TS:=(zA (yt (zb (xM (vg (zb (tCB (xS K) (zb (zc 0) zh)) zh)) (zm 0) Yi (vi (zc 1) (zc 0)) 1 [3]) (zb (zc 4) zh))))
def vU (K:bx) (t:Adr) (E:XK):TS:=(zn (vD (wQ K (zc 2)) (zm 5)
   (zn (wf (zc 3) (zc 5) (zp (Xh t) [] E (zb (tOp (yV K) (zc 0) (zc 5)) (zb (zc 4) zh))))
  (zF (zp w5 [] E (zb (zc 4) (zb (tOp (zI K) (vi (zc 3) (zc 5)) (tC (.int 2))) zh))) (zm 4))))
  (vT K t E))
def qu (K:bx) (t:Adr) (E:XK):TS:=(zn (zF qB (zm 3))
  (zn (zF (tCB (Zi K) (zb (zc 1) zh)) (zm 4))
  (vU K t E)))
def kK (K:bx) (t:Adr) (E:XK):TS:=(zn (xi (zp (vL t) [] E (zb (zc 2) (zb (tCB (xS K) (zb (zc 0) zh)) zh))))
  (qu K t E))
def vV (K:bx) (t:Adr) (n:Nat):TS:=(zn (zK (tB (tCB (Qx K) (zb (zc 0) (zb (yt (zb (tC (.ty "list")) (zb (tC (.ty "tuple")) zh))) zh))))
   (zn (vD (zey K (zc 0)) (zm 1)
   (zK (vC (tB (zp (yZ  n) [] E0 (zb (zc 1) zh))))
   (zA (tC (.bl false)))
   zB))
  (zA (tC (.bl true))))
   zB)
  (zA (qe (tCB (Qx K) (zb (zc 0) (zb (yt (zb (tC (.ty "int")) (zb (tC (.ty "str")) zh))) zh))) (VL (tCB (Yj K) (zb (zc 0) (zb (tC (.ty "bool")) zh)))))))
def vW (K:bx) (t:Adr):TS:=(zn (zK (tOr (vC (tB (tCB (Yj K) (zb (zc 0) (zb (tC (.ty "tuple")) zh))))) (zv (tOp rNe (tCB (xS K) (zb (zc 0) zh)) (tC (.int 2)))))
   (zA (tC (.bl false)))
   zB)
  (zn (zK (tOr (vC (tB (tCB (Yj K) (zb (tOp (zI K) (zc 0) (tC (.int 0))) (zb (tC (.ty "list")) zh))))) (vC (tB (tCB (Yj K) (zb (tOp (zI K) (zc 0) (tC (.int 1))) (zb (tC (.ty "list")) zh))))))
    (zA (tC (.bl false)))
    zB)
  (zA (qe (zp (yZ  9) [] E0 (zb (zc 0) zh)) (tOp (ZE K false) (zc 0) (zc 1))))))
def vy (K:bx) (t:Adr):TS:=(zA (qe (zc 4) (qe (VL (zc 5)) (tOp (ZE K false) (zc 3) (zc 2)))))
def vz (K:bx) (t:Adr):TS:=(zn (zcT K (Kf (W5 (yH t) (zb (zc 0) (zb (zc 1) (zb (zc 3) zh))))) t.c_ForerunError 6 (zn (zF (qe (tCB (zcU K) (zb (zc 6) (zb (tC (.ref t.c_NoOrder)) zh))) (tCB (zcU K) (zb (zc 6) (zb (tC (.ty "ValueError")) zh)))) (zm 4))
  (zF (tCB (za5 K) (zb (zc 6) (zb (yt (zb (tC (.ref t.c_Folded)) (zb (tC (.ref t.c_NoDealing)) (zb (tC (.ref t.c_NoHand)) (zb (tC (.ref t.c_NoLine)) (zb (tC (.ref t.c_NoLog)) (zb (tC (.ref t.c_NoNumber)) (zb (tC (.ref t.c_NoTerm)) (zb (tC (.ref t.c_Great)) (zb (tC (.ref t.c_Nought)) zh)))))))))) zh))) (zm 5))))
  (vy K t))
def wF (K:bx) (t:Adr):TS:=(zn (zF (tCB (Zi K) (zb (zc 2) zh)) (zm 3))
  (zn (zF (tC (.bl false)) (zm 4))
  (zn (zF (tC (.bl false)) (zm 5))
  (vz K t))))
def kL (K:bx) (t:Adr):TS:=(zA (tOp xR (tOp xR (tSl (jn K) (zc 1) ya (yR (zc 3))) (yK (zb (zc 6) zh))) (tSl (jn K) (zc 1) (yR (zc 3)) ya)))
def Xi (K:bx) (t:Adr):TS:=(zA (tOp xR (tOp xR (tSl (jn K) (zc 1) ya (yR (zc 3))) (yK (zb (zc 6) zh))) (tSl (jn K) (zc 1) (yR (tOp (rI0 fun i j=>.int (i + j)) (zc 3) (tC (.int 1)))) ya)))
def Xj (K:bx) (t:Adr):TS:=(zA (tOp xR (tOp xR (tSl (jn K) (zc 1) ya (yR (zc 3))) (yK (zb (zc 4) zh))) (tSl (jn K) (zc 1) (yR (tOp (rI0 fun i j=>.int (i + j)) (zc 3) (tC (.int 1)))) ya)))
def vc (K:bx) (t:Adr):TS:=(zA (tOp xR (tSl (jn K) (zc 1) ya (yR (zc 3))) (tSl (jn K) (zc 1) (yR (tOp (rI0 fun i j=>.int (i + j)) (zc 3) (tC (.int 1)))) ya)))
def kM (K:bx) (t:Adr):TS:=(zA (tOp xR (tOp xR (tSl (jn K) (zc 1) ya (yR (zc 3))) (yK (zb (zc 4) zh))) (tSl (jn K) (zc 1) (yR (zc 3)) ya)))
def vd (K:bx) (t:Adr):TS:=(zn (zF (tOp (rI (fun _ j=>0 < j) fun i j=>.int (i % j)) (zc 3) (zc 2)) (zm 3))
  (zn (zK (zv (tOp rEq (zc 5) (tC (.int 1))))
    (vc K t)
    zB)
  (zn (zK (zv (tOp rEq (zc 5) (tC (.int 2))))
    (Xj K t)
    zB)
  (zn (zF (tOp (yV K) (zc 1) (tOp (rI (fun _ j=>0 < j) fun i j=>.int (i % j)) (zp zl [] E0 (zb (zc 0) (zb (tC (.int 214)) zh))) (zc 2))) (zm 6))
  (zn (zK (tOr (zv (tOp rEq (zc 5) (tC (.int 3)))) (zv (tOp rEq (zc 6) (tOp (yV K) (zc 1) (zc 3)))))
    (kL K t)
    zB)
  (Xi K t))))))
def ve (K:bx) (t:Adr):TS:=(zn (zF (tOp (rI (fun _ j=>0 < j) fun i j=>.int (i % j)) (zp zl [] E0 (zb (zc 0) (zb (tC (.int 213)) zh))) (tC (.int 5))) (zm 5))
  (zn (zK (tOr (zv (tOp rEq (zc 2) (tC (.int 0)))) (zv (tOp rEq (zc 5) (tC (.int 0)))))
    (kM K t)
    zB)
  (vd K t)))
def kN (K:bx) (t:Adr):TS:=(zn (zF (tOp (yV K) (yK (zb (tUn (rU fun i=>.int (-i)) (tC (.int 1))) (zb (zc 2) (zb (tOp (rI0 fun i j=>.int (i - j)) (tUn (rU fun i=>.int (-i)) (tC (.int 1))) (zp zl [] E0 (zb (zc 0) (zb (tC (.int 211)) zh)))) (zb (tOp (rI0 fun i j=>.int (i + j)) (zc 2) (tOp (rI (fun _ j=>0 < j) fun i j=>.int (i % j)) (zc 0) (tOp (rI VN fun i j=>.int (i ^ j.toNat)) (tC (.int 10)) (tC (.int 29))))) zh))))) (tOp (rI (fun _ j=>0 < j) fun i j=>.int (i % j)) (zp zl [] E0 (zb (zc 0) (zb (tC (.int 212)) zh))) (tC (.int 4)))) (zm 4))
  (ve K t))
def jM (K:bx) (t:Adr):TS:=(zn (zF (tCB (xS K) (zb (zc 1) zh)) (zm 2))
  (zn (zF (tOp (rI (fun _ j=>0 < j) fun i j=>.int (i % j)) (zp zl [] E0 (zb (zc 0) (zb (tC (.int 210)) zh))) (tOp (rI0 fun i j=>.int (i + j)) (zc 2) (tC (.int 1)))) (zm 3))
  (kN K t)))
def ZQ (K:bx) (t:Adr):TS:=(zA (zp yN [] E0 (zb (zp (yH t) [] E0 (zb (yK zh) (zb (tOp (yV K) (zc 8) (tC (.int 0))) (zb (yK zh) zh)))) (zb (yt (zb (yK zh) (zb (zc 3) zh))) zh))))
def ZR (K:bx) (t:Adr):TS:=(zn (zK (tOr (zv (tOp (ZE K true) (zc 7) (zc 4))) (zv (tOp (ZE K true) (zc 8) (yK (zb (zc 3) (zb (zc 5) zh))))))
   (zA (tC (.bl false)))
   zB)
  (ZQ K t))
def ZS (K:bx) (t:Adr):TS:=(zn (zK (vC (tB (zp yN [] E0 (zb (zp (yH t) [] E0 (zb (zc 7) (zb (tOp (yV K) (zc 8) (tC (.int 0))) (zb (tOp (yV K) (zc 8) (tC (.int 1))) zh)))) (zb (zc 6) zh)))))
   (zA (tC (.bl false)))
   zB)
  (ZR K t))
def ZT (K:bx) (t:Adr):TS:=(zn (zK (vC (tB (zp wt [] E0 (zb (zc 7) (zb (tOp (yV K) (zc 8) (tC (.int 0))) (zb (zp jF [] E0 (zb (zp (zT K) [] E0 (zb (zc 0) (zb (tC (.int 3)) zh))) (zb (zc 5) zh))) zh))))))
   (zA (tC (.bl false)))
   zB)
  (ZS K t))
def WA (K:bx) (t:Adr):TS:=(zn (zK (zv (tOp (ZE K true) (tOp (zI K) (zc 9) (tC (.int 0))) (tOp (zI K) (zc 6) (tC (.int 0)))))
   (zA (tC (.bl false)))
   zB)
  (ZT K t))
def WB (K:bx) (t:Adr):TS:=(zn (xi (tBM K "list" yd (tOp (zI K) (zc 9) (tC (.int 1))) (zb (yt (zb (yt (zb (tC (.str "z")) (zb (tC (.int 1)) zh))) (zb (tC (.int 5)) zh))) zh)))
  (WA K t))
def Jw (K:bx) (t:Adr):TS:=(zn (zK (vC (tB (zp yN [] E0 (zb (zc 9) (zb (zc 6) zh)))))
   (zA (tC (.bl false)))
   zB)
  (WB K t))
def Xk (K:bx) (t:Adr):TS:=(zn (zF (zp (yH t) [] E0 (zb (zc 7) (zb (tOp (yV K) (zc 8) (tC (.int 0))) (zb (tOp (yV K) (zc 8) (tC (.int 1))) zh)))) (zm 9))
  (Jw K t))
def Xl (K:bx) (t:Adr):TS:=(zn (zF (yK (zb (tCB (Zi K) (zb (zc 3) zh)) (zb (tCB (Zi K) (zb (zc 5) zh)) zh))) (zm 8))
  (Xk K t))
def Xm (K:bx) (t:Adr):TS:=(zn (zF (xM (wQ K (zc 4)) (zm 0) Yi (tCB (Zi K) (zb (zc 0) zh)) 1 []) (zm 7))
  (Xl K t))
def KC (K:bx) (t:Adr):TS:=(zn (zF (zp xm [] E0 (zb (zp (zT K) [] E0 (zb (zc 0) (zb (tC (.int 0)) zh))) (zb (tC (.int 2)) zh))) (zm 1))
  (zn (zF (zp wr [] E0 (zb (zp (zT K) [] E0 (zb (zc 0) (zb (tC (.int 1)) zh))) (zb (tC (.int 2)) zh))) (zm 2))
  (zn (zF (zp vJ [] E0 (zb (zp (zT K) [] E0 (zb (zc 0) (zb (tC (.int 2)) zh))) (zb (zc 2) zh))) (zm 3))
  (zn (zF (zp (vK K) [] E0 (zb (zc 0) (zb (zc 1) (zb (zc 2) zh)))) (zm 4))
  (zn (zF (zp (vM K) [] E0 (zb (zc 0) (zb (tCB (xS K) (zb (zc 4) zh)) zh))) (zm 5))
  (zn (zF (zp kx [] E0 (zb (zc 4) (zb (zc 3) (zb (zc 5) zh)))) (zm 6))
  (Xm K t)))))))
section
variable {K:bx} {t:Adr} {H:Hp} {Q:VK}
theorem Jx {j:Int} (h0:0≤j) (h1:j≤100):VN 10 j:=⟨h0,by lia,by decide⟩
theorem zU {n:Nat} (h:n≤100000):n≤sizeLine:=bU h (by decide)
theorem kO (T:String):dF K (.type T) (.type T)=some true:=by
 unfold dF
 rw [if_pos (by simp)]
theorem kf (K:bx):KF K:=⟨by with_unfolding_all rfl,by with_unfolding_all rfl,by with_unfolding_all rfl,by with_unfolding_all rfl,by with_unfolding_all rfl,by with_unfolding_all rfl,by with_unfolding_all rfl,by with_unfolding_all rfl,by with_unfolding_all rfl,by with_unfolding_all rfl⟩
theorem dB {i j:Int} (h0:0 < j:=by decide) (h1:j < 10000000000000000000000000000000000000000000000:=by decide):zaX i j:=by
 have hb:(10000000000000000000000000000000000000000000000:Int) < big:=by decide +kernel
 exact ⟨h0,by lia⟩
theorem Qz {α:Type} {xs:List α} {i:Int} (h0:0≤i) (h1:i < xs.length):∃ x,atI xs i=some x∧x∈xs:=by
 obtain ⟨n,rfl⟩:∃ n:Nat,i=(n:Int):=⟨i.toNat,by lia⟩
 have hn:n < xs.length:=by lia
 refine ⟨xs[n],?_,fA hn⟩
 unfold atI ixN
 rw [if_pos h0,if_pos h1]
 simp [hn]
theorem Vm {α:Type} {xs:List α} (e:Int) (n:Nat) (hl:xs.length=n) (hn:0 < (n:Int)):∃ x,atI xs (e % n)=some x∧x∈xs :=
 Qz (cA _ (by lia)) (by rw [hl];exact cj _ hn)
theorem Vn {i:Int} (hK:zdn K) (q:∀ H',Same H H'→Q (.bl (inW i)) H') :
  kE K t { nx:=fun _ H'=>Q .non H',rt:=Q } (L2.start ["thing"] [.int i]) H:=by
 simp only [kE,L2.start,zn,zA,zB,tOp,tUn,zc,tC,zb,zh,zK,tOr,vC,tB,tCB,J2,rI,rI0,rU,Yj,b7,bw,bG,bq,ba,bf,exists_eq_left',V.int.injEq,V.bl.injEq,V.ty.injEq,bn,and_true,and_assoc,exists_and_left,bL,bE,decide_eq_true_eq,b0,iR,eK,fi,if_true]
 have q:=q H (Same.refl H)
 refine ⟨_,.int i,true,kO _,?_⟩
 rw [if_neg (by decide)]
 refine ⟨_,.int i,false,hK,?_⟩
 rw [if_neg (by decide)]
 refine ⟨Jx (by decide) (by decide),xc (fun c=>⟨Jx (by decide) (by decide),?_⟩) fun c=>?_⟩
 ·have e:inW i=decide (i≤1000000000000000000000000000000):=by
   unfold inW
   by_cases h:i≤1000000000000000000000000000000
   ·rw [decide_eq_true h,decide_eq_true ⟨c,h⟩]
   ·rw [decide_eq_false h,decide_eq_false fun z=>h z.2]
  rw [e] at q
  exact q
 ·have e:inW i=false:=decide_eq_false fun z=>c z.1
  rw [e] at q
  exact q
theorem Jy {E:XK} {w:Str} {a b:Int} (hw:w.length≤1000) (ha:inW a=true) (hb:inW b=true) (q:∀ H',Same H H'→if b=0 then E (.ref t.c_Nought) none H' else Q (.int (if w="over" then a.fdiv b else a.fmod b)) H') :
  qY K t E { nx:=fun _ H'=>Q .non H',rt:=Q } (L2.start ["word","first","second"] [.str w,.int a,.int b]) H:=by
 simp only [qY,L2.start,qD,VW,zn,zA,zB,tOp,zc,tC,zb,zh,zK,zv,tIf,rEq,rI,xq,b7,bw,bG,bq,ba,bb,bf,exists_eq_left',V.int.injEq,V.str.injEq,V.bl.injEq,true_and,exists_and_left,bL,bE,decide_eq_true_eq]
 have q:=q H (Same.refl H)
 have B:=W8 hb
 refine xc (fun c=>?_) fun c=>?_
 ·rw [if_pos c] at q
  exact ⟨by lia,fun y=>⟨by decide,q⟩⟩
 ·rw [if_neg c] at q
  refine xc (fun e=>?_) fun e=>?_
  ·rw [if_pos e] at q
   exact ⟨⟨c,B⟩,q⟩
  ·rw [if_neg e] at q
   exact ⟨c,q⟩
theorem Jz {E:XK} {w:Str} {a b:Int} (hw:w.length≤1000) (ha:inW a=true) (hb:inW b=true) (q:∀ H',Same H H'→if Z8 w∧b=0 then E (.ref t.c_Nought) none H' else Q (.int (wT w a b)) H') :
  qZ K t E { nx:=fun _ H'=>Q .non H',rt:=Q } (L2.start ["word","first","second"] [.str w,.int a,.int b]) H:=by
 simp only [qZ,qU,L2.start,zn,zA,zB,tOp,zc,tC,zb,zh,zK,zv,tIf,zp,rEq,rI,rI0,xq,b7,bw,bG,bq,ba,bb,bf,exists_eq_left',V.int.injEq,V.str.injEq,V.bl.injEq,bn,and_true,true_and,and_assoc,exists_and_left,bL,bE,decide_eq_true_eq]
 have A:=W8 ha
 have B:=W8 hb
 have nd:¬ Z8 w→Q (.int (wT w a b)) H:=fun h=>by
  have q:=q H (Same.refl H)
  rw [if_neg fun z=>h z.1] at q
  exact q
 refine xc (fun c=>?_) fun c1=>xc (fun c=>?_) fun c2=>xc (fun c=>⟨⟨A,B⟩,?_⟩) fun c3=>xc (fun c=>?_) fun c4=>xc (fun c=>?_) fun c5=>⟨hw,ha,hb,fun H' s=>?_⟩
 ·subst c
  have q:=nd fun z=>z.1 rfl
  exact q
 ·subst c
  have q:=nd fun z=>z.2.1 rfl
  rw [show wT "minus" a b=a - b by unfold wT;rw [if_neg c1,if_pos rfl]] at q
  exact q
 ·subst c
  have q:=nd fun z=>z.2.2.1 rfl
  rw [show wT "times" a b=a * b by unfold wT;rw [if_neg c1,if_neg c2,if_pos rfl]] at q
  exact q
 ·subst c
  have q:=nd fun z=>z.2.2.2.1 rfl
  rw [show wT "under" a b=if a < b then 1 else 0 by unfold wT;rw [if_neg c1,if_neg c2,if_neg c3,if_pos rfl]] at q
  refine xc (fun d=>?_) fun d=>?_
  ·rw [if_pos d] at q;exact q
  ·rw [if_neg d] at q;exact q
 ·subst c
  have q:=nd fun z=>z.2.2.2.2 rfl
  rw [show wT "same" a b=if a=b then 1 else 0 by unfold wT;rw [if_neg c1,if_neg c2,if_neg c3,if_neg c4,if_pos rfl]] at q
  refine xc (fun d=>?_) fun d=>?_
  ·rw [if_pos d] at q;exact q
  ·rw [if_neg d] at q;exact q
 ·have q:=q H' s
  have hd:Z8 w:=⟨c1,c2,c3,c4,c5⟩
  refine xc (fun d=>?_) fun d=>?_
  ·rw [if_pos ⟨hd,d⟩] at q;exact q
  ·rw [if_neg fun z=>d z.2] at q
   unfold wT at q
   rw [if_neg c1,if_neg c2,if_neg c3,if_neg c4,if_neg c5] at q
   exact q
theorem KD {E:XK} {w:Str} {a b:Int} (hw:w.length≤1000) (ha:inW a=true) (hb:inW b=true) (q:∀ H',Same H H'→fin t (wH w a b) Q E H') :
  ZO K t E { nx:=fun _ H'=>Q .non H',rt:=Q } (L2.start ["word","first","second","worth"] [.str w,.int a,.int b]) H:=by
 simp only [ZO,qV,kj,L2.start,qD,VW,zn,zF,zm,zA,zB,zc,zb,zh,zK,vC,tB,zp,b7,bw,bG,bI,bQ,bq,ba,bb,bf,exists_eq_left',V.int.injEq,V.str.injEq,V.bl.injEq,bn,and_true,and_assoc,exists_and_left,br,bu,bL,bE,b0]
 refine ⟨hw,ha,hb,fun H1 s1=>xc (fun c=>?_) fun c H2 s2=>xc (fun d=>?_) fun d=>?_⟩
 ·have q:=q H1 s1
  unfold wH at q
  rw [if_pos c] at q
  exact q
 ·have q:=q H2 (s1.trans s2)
  unfold wH at q
  rw [if_neg c,if_neg (by rw [d];decide)] at q
  exact ⟨by lia,fun y=>⟨by decide,q⟩⟩
 ·have q:=q H2 (s1.trans s2)
  unfold wH at q
  rw [if_neg c,if_pos (by simpa using d)] at q
  exact q
theorem JA {xs:List V} {y:V}:(xs ++ [y])[(xs ++ [y]).length - 1]?=some y:=by simp
theorem ZU {xs:List V} {y:V}:(xs ++ [y]).dropLast=xs:=by simp
theorem yY {H H':Hp} {w:Addr} {o:HO} (s:Same H H') (hw:H w=none):Same H (upd H' w o):=fun b u e=>by rw [zj (zJ e hw)];exact s b u e
theorem zeB (st:List Int):(∃ l a b,st=l ++ [a,b])∨∀ kvs v,isJ v=true→xO kvs st v=.error .stuck:=by
 cases h:st.reverse with
 | nil =>
  refine .inr fun kvs v hv=>?_
  unfold xO
  rw [hv,if_pos rfl,h]
  split <;> rename_i e1 e2 <;> first | rfl | cases e2
 | cons b r =>
  cases r with
  | nil =>
   refine .inr fun kvs v hv=>?_
   unfold xO
   rw [hv,if_pos rfl,h]
   split <;> rename_i e1 e2 <;> first | rfl | cases e2
  | cons a r =>
   refine .inl ⟨r.reverse,a,b,?_⟩
   have:=congrArg List.reverse h
   rw [List.reverse_reverse] at this
   rw [this];simp
theorem zb3 {kvs:List (Key × V)} {l:List Int} {a b:Int} {w:Str} (hw:isJ (.str w)=true):xO kvs (l ++ [a,b]) (.str w)=match wH w a b with | .ok c=>.ok (l ++ [c]) | .error e=>.error e:=by
 unfold xO
 rw [hw,if_pos rfl]
 simp only [nk,nS,ot,bQ,bI]
 cases wH w a b with
 | error e=>rfl
 | ok c=>simp
def rkI (kvs:List (Key × V)) (ps:List V) (tm sl w:Addr) (H:Hp) (i:Nat) (σ:St) (H':Hp):Prop:=∃ st,(∃ o3 o4 o5,σ=[some (.ref tm),some (.ref sl),some (.ref w),o3,o4,o5])∧wj kvs (ps.take i) []=.ok st∧(∀ x∈st,inW x=true)∧st.length≤i∧H' w=some (.lst (st.map V.int))∧Same H H'
theorem Vo {E:XK} {kvs:List (Key × V)} {tm sl:Addr} {ps:List V} {r:Except Er Int} (hK:dF K (.type "int") (.type "str")=some false) (hJ:∀ H:Hp,SqT K H t.c_JOINING jw) (h1:H tm=some (.tup ps)) (h2:H sl=some (.dK kvs)) (h3:Good kvs ps r) (h4:∀ v∈ps,jq v) (h5:ps.length≤1000) (h6:yP kvs)
  (q:∀ H',Same H H'→fin t r Q E H'):kF K t E { nx:=fun _ H'=>Q .non H',rt:=Q } (L2.start ["term","slots","worths","part","second","first"] [.ref tm,.ref sl]) H:=by
 simp only [kF,L2.start,j3,zcL,zn,zF,zm,zA,zc,yK,zh,vD,QZ,tyV,zef,b7,bw,bG,bI,bQ,ba,bf,exists_eq_left',V.ref.injEq,true_and,exists_and_left,br,bu,bL,bE]
 refine ⟨by decide,fun w hw=>⟨⟨_,SqT.of ((isV w hw) _ _ h1)⟩,?_⟩⟩
 have run0:=h3.1 []
 have fe:∀ {e:Er} {H':Hp},wj kvs ps []=.error e→Same H H'→fin t (.error e) Q E H':=fun {e H'} z s=>by
  rw [z] at run0
  cases r with
  | ok i=>cases run0
  | error e' =>
   cases run0
   exact q _ s
 have ns:wj kvs ps []≠.error .stuck:=fun z=>by
  rw [z] at run0
  cases r with
  | ok i=>cases run0
  | error e' =>
   cases run0
   exact h3.2 rfl
 refine VZ ps (rkI kvs ps tm sl w H) ⟨[],⟨_,_,_,rfl⟩,rfl,(fun x z=>nomatch z),bo _,ze,isV w hw⟩ (fun i σ H' ⟨st,a,b,c,d,e,s⟩=>SqT.of (s _ _ h1)) ?_ ?_
 ·rintro i v σ H' hv ⟨st,⟨o3,o4,o5,rfl⟩,hr,hW,hl,hst,hS⟩
  have hi:i < ps.length:=(bC.mp hv).1
  have one:=zcY hr hv
  have ok:=h4 v (cL hv)
  have fl:Ze v=true:=by rcases ok with ⟨j,rfl,_⟩ | ⟨x,rfl,_⟩ <;> rfl
  simp only [qh,tOp,zc,tC,zK,zv,rIn,ba,bb,bf,exists_eq_left',V.ref.injEq,V.bl.injEq,exists_and_left,br,bu,cb,ite_false]
  refine ⟨jw,.inr (hJ H'),fl,rfl,xc (fun c=>?_) fun c=>?_⟩
  ·simp only [qf,ZL,yd,j3,vh,zcL,zn,zF,zm,xi,zc,zb,zh,tBM,QZ,tyV,zp,bq,ba,bb,bf,exists_eq_left',V.ref.injEq,bn,and_true,true_and,and_assoc,exists_and_left,br,bu]
   rcases zeB st with ⟨l,a,b,rfl⟩ | z
   ·obtain ⟨x,rfl,hx⟩:∃ x:Str,v=.str x∧x.length≤1000:=by
     rcases ok with ⟨j,rfl,_⟩ | h
     ·exact absurd c (by rw [show inV (V.int j) jw=false from rfl];decide)
     ·exact h
    have e1:b7 V.int (l ++ [a,b])=(l.map V.int ++ [.int a]) ++ [.int b]:=by simp
    rw [e1] at hst
    have one':=one.trans (zb3 c)
    have wa:=hW a (by simp)
    have wb:=hW b (by simp)
    refine ⟨.inl ⟨_,SqL.of hst⟩,_,hst,_,JA,.inl ⟨_,SqL.of ze⟩,_,by rw [ZU];exact ze,_,JA,.inl ⟨_,SqL.of ze⟩,x,rfl,a,rfl,b,rfl,hx,wa,wb,fun H2 s2=>?_⟩
    rw [ZU,ZU] at s2
    have S2:Same H H2:=(yY (yY hS hw) hw).trans s2
    cases e:wH x a b with
    | ok d =>
     rw [e] at one'
     have hd:inW d=true:=by
      unfold wH at e
      split at e
      ·cases e
      ·split at e
       ·rename_i z;cases e;exact z
       ·cases e
     refine ⟨_,s2 _ _ ze,?_,l ++ [d],⟨_,_,_,rfl⟩,one',?_,?_,?_,yY S2 hw⟩
     ·rw [bt]
      have:(l ++ [a,b]).length=l.length + 2:=by simp
      exact b9 (by lia:l.length≤1000) (by decide)
     ·intro y hy
      rcases bV.mp hy with h | h
      ·exact hW y (dh _ h)
      ·have:y=d:=by simpa using h
       rw [this];exact hd
     ·have:(l ++ [a,b]).length=l.length + 2:=by simp
      rw [bz];show l.length + 1≤i + 1
      lia
     ·rw [dL];exact ze
    | error er =>
     rw [e] at one'
     have:=fe (Qe one') S2
     cases er with
     | nought=>exact this
     | great=>exact this
     | stuck=>trivial
   ·exact absurd (Qe (one.trans (z kvs v c))) ns
  ·simp only [qg,qC,qC,yd,vh,xi,zc,tC,zb,zh,tB,tIf,tCB,tBM,tyV,Yj,ba,bb,bf,exists_eq_left',V.ref.injEq,V.bl.injEq,V.ty.injEq,bn,and_true,true_and,and_assoc,exists_and_left]
   have st1:xO kvs st v=.ok (st ++ [Kh kvs v]):=by
    unfold xO
    rw [if_neg (by unfold isJ;exact c)]
   have one':=one.trans st1
   have hwv:=V3 h6 ok
   have fin1:∀ u,u=V.int (Kh kvs v)→rkI kvs ps tm sl w H (i + 1) [some (V.ref tm),some (V.ref sl),some (V.ref w),some v,o4,o5] (upd H' w (HO.lst (b7 V.int st ++ [u]))):=fun u hu=>by
    subst hu
    refine ⟨st ++ [Kh kvs v],⟨_,_,_,rfl⟩,one',?_,?_,?_,yY hS hw⟩
    ·intro y hy
     rcases bV.mp hy with h | h
     ·exact hW y h
     ·have:y=Kh kvs v:=by simpa using h
      rw [this];exact hwv
    ·rw [bz];show st.length + 1≤i + 1
     lia
    ·rw [dL];exact ze
   have sz:(b7 V.int st).length < sizeLine:=by
    rw [bt]
    exact b9 (by lia:st.length≤1000) (by decide)
   refine ⟨.inl ⟨_,SqL.of hst⟩,?_⟩
   rcases ok with ⟨j,rfl,hj⟩ | ⟨x,rfl,hx⟩
   ·refine ⟨_,.int j,false,hK,?_⟩
    rw [if_neg (by decide)]
    exact ⟨_,hst,sz,fin1 _ rfl⟩
   ·refine ⟨_,.str x,true,kO _,?_⟩
    rw [if_pos rfl]
    refine ⟨.inl ⟨kvs,.inl (hS _ _ h2)⟩,_,DGet.k (k:=.inr x) (hS _ _ h2),_,hst,sz,fin1 _ ?_⟩
    show (yL kvs (.inr x)).getD (V.int 0)=V.int (match yL kvs (.inr x) with | some (.int i)=>i | _=>0)
    cases e:yL kvs (.inr x) with
    | none=>rfl
    | some u =>
     obtain ⟨i,rfl,_⟩:=h6 _ _ e
     rfl
 ·rintro σ H' ⟨st,⟨o3,o4,o5,rfl⟩,hr,hW,hl,hst,hS⟩
  rw [fq] at hr
  simp only [ba,bb,bf,exists_eq_left',V.ref.injEq]
  rw [hr] at run0
  cases r with
  | error e=>cases run0
  | ok i =>
   have e:st=[i]:=by injection run0
   subst e
   exact ⟨.inl ⟨_,SqL.of hst⟩,_,hst,_,rfl,q _ (yY hS hw)⟩
theorem ZV {a:Addr} {ns:List Int} {k:Nat} (hS:SqL K H a (ns.map V.int)) (hl:ns.length≤63) (q:∀ c H',Same H H'→Q (.int c) H') :
  wA K t { nx:=fun _ H'=>Q .non H',rt:=Q } (L2.start ["script","k"] [.ref a,.int k]) H:=by
 simp only [wA,L2.start,zn,zA,zB,tOp,zc,tC,zb,zh,zK,zv,tCB,qx,yV,rI0,xS,b7,bw,bG,bq,ba,bb,bf,exists_eq_left',V.int.injEq,V.ref.injEq,V.bl.injEq,bn,and_true,exists_and_left,bL,bE,decide_eq_true_eq]
 refine ⟨_,.inl ⟨_,hS,rfl⟩,xc (fun c=>?_) fun _=>q _ _ (Same.refl H)⟩
 obtain ⟨v,hv,hm⟩:=Qz (xs:=ns.map V.int) (i:=(k:Int)) (by lia) c
 obtain ⟨i,_,rfl⟩:=cm.mp hm
 exact ⟨_,hS,_,hv,q _ _ (Same.refl H)⟩
theorem wc (c:Nat):({ cps:=#[c] }:Str).length=1:=rfl
theorem zH {H H':Hp} {D:Addr} (s:Same H H') (h:H' D=none):H D=none:=by
 cases e:H D with
 | none=>rfl
 | some o=>rw [s _ _ e] at h;cases h
theorem JB {H1:Hp} {R b:Addr} {o:HO} (h:H1 R=some o) (hb:H1 b=none):b≠R:=fun z=>by rw [z,h] at hb;cases hb
theorem fin_err {t:Adr} {e:Er} {Q:VK} {E:XK} {H:Hp}:fin t (.error e) Q E H↔Kz t e E H:=by cases e <;> rfl
theorem fin_ok {t:Adr} {i:Int} {Q:VK} {E:XK} {H:Hp}:fin t (.ok i) Q E H↔Q (.int i) H:=Iff.rfl
theorem XS {c j:Int} (h1:0≤j) (h2:j≤1000) (q:∀ r H',0≤r→r < 2147483648→Same H H'→Q (.int r) H') :
  jH K t { nx:=fun _ H'=>Q .non H',rt:=Q } (L2.start ["cell","j","far"] [.int c,.int j]) H:=by
 simp only [jH,L2.start,zn,zF,zm,zA,tOp,zc,tC,rI,rI0,b7,bw,bG,bI,bQ,ba,bb,bf,exists_eq_left',V.int.injEq,exists_and_left,br,bu,bL,bE]
 have hb:(10000000000000000000000000000000000000000000000:Int) < big:=by decide +kernel
 have g1:=cA c (b:=1000000007) (by decide)
 have g2:=cj c (b:=1000000007) (by decide)
 generalize c % 1000000007=a at *
 have g3:=cA (a * 6700417 + (j + 1) * 104729 * 65537) (b:=1000000009) (by decide)
 have g4:=cj (a * 6700417 + (j + 1) * 104729 * 65537) (b:=1000000009) (by decide)
 generalize hf:(a * 6700417 + (j + 1) * 104729 * 65537) % 1000000009=f at *
 have g5:=cA (f * f) (b:=1000000009) (by decide)
 have g6:=cj (f * f) (b:=1000000009) (by decide)
 generalize hg:f * f % 1000000009=g at *
 have g7:=cA (g * f) (b:=1000000009) (by decide)
 have g8:=cj (g * f) (b:=1000000009) (by decide)
 refine ⟨by decide,⟨⟨by lia,by lia⟩,by lia,by lia⟩,⟨⟨by lia,by lia⟩,by lia,by lia⟩,⟨⟨by lia,by lia⟩,by lia,by lia⟩,by decide,?_⟩
 refine ⟨⟨⟨by lia,by lia⟩,by lia,by lia⟩,by decide,⟨⟨by lia,by lia⟩,by lia,by lia⟩,by decide,dB,q _ _ ?_ ?_ (Same.refl H)⟩
 ·exact iQ g7 (by decide)
 ·lia
theorem CsAt.same {H H':Hp} {v:V} {c:Cs} (h:CsAt H v c) (s:Same H H'):CsAt H' v c:=by
 cases c with
 | row r=>exact ⟨h.1.mono s,h.2⟩
 | skip e to =>
  obtain ⟨p,te,h1,h2,h3⟩:=h
  exact ⟨p,te,h1,s _ _ h2,s _ _ h3⟩
 | go en =>
  obtain ⟨p,h1,h2⟩:=h
  exact ⟨p,h1,s _ _ h2⟩
theorem xh {H H':Hp} (s:Same H H'):∀ {xs:List V} {C:List Cs},Paired (CsAt H) xs C→Paired (CsAt H') xs C
 | _,_,.nil=>.nil
 | _,_,.cons h r=>.cons (h.same s) (xh s r)
def TSm (H H':Hp):Prop:=∀ b ys,H b=some (.tup ys)→H' b=some (.tup ys)
theorem CsAt.ts {H H':Hp} {v:V} {c:Cs} (s:TSm H H') (h:CsAt H v c):CsAt H' v c:=by
 cases c with
 | row r =>
  obtain ⟨h,n⟩:=h
  refine ⟨?_,n⟩
  cases r with
  | iff e a b=>exact n.elim
  | take sh e sl =>
   obtain ⟨r,te,a1,a2,a3,a4,a5⟩:=h
   exact ⟨r,te,a1,a2,a3,s _ _ a4,s _ _ a5⟩
  | give sh e f =>
   obtain ⟨r,te,tf,a1,a2,a3,a4,a5,a6,a7⟩:=h
   exact ⟨r,te,tf,a1,a2,a3,a4,s _ _ a5,s _ _ a6,s _ _ a7⟩
  | lt sl e =>
   obtain ⟨r,te,a1,a2,a3,a4,a5⟩:=h
   exact ⟨r,te,a1,a2,a3,s _ _ a4,s _ _ a5⟩
  | say e =>
   obtain ⟨r,te,a1,a2,a3,a4,a5⟩:=h
   exact ⟨r,te,a1,a2,a3,s _ _ a4,s _ _ a5⟩
  | off e =>
   obtain ⟨r,te,a1,a2,a3,a4,a5⟩:=h
   exact ⟨r,te,a1,a2,a3,s _ _ a4,s _ _ a5⟩
 | skip e to =>
  obtain ⟨p,te,h1,h2,h3⟩:=h
  exact ⟨p,te,h1,s _ _ h2,s _ _ h3⟩
 | go en =>
  obtain ⟨p,h1,h2⟩:=h
  exact ⟨p,h1,s _ _ h2⟩
theorem vX {H H':Hp} (s:TSm H H'):∀ {xs:List V} {C:List Cs},Paired (CsAt H) xs C→Paired (CsAt H') xs C
 | _,_,.nil=>.nil
 | _,_,.cons h r=>.cons (h.ts s) (vX s r)
theorem zdp (x:Rw):(∃ e a b,x=.iff e a b)∨zao x:=by
 cases x with
 | iff e a b=>exact .inl ⟨e,a,b,rfl⟩
 | _=>exact .inr trivial
theorem yc {x:Rw} (h:zao x) (k:Nat):yO x k=[.row x]:=by
 cases x with
 | iff e a b=>exact h.elim
 | _=>rw [yO];intro e a b z;cases z
theorem zdq {F:Addr→Prop} {v:V} {r:Rw} (h:RwAt F H v r):∃ p xs hd,v=.ref p∧H p=some (.tup xs)∧atI xs 0=some (.str hd)∧(hd="if"↔¬ zao r):=by
 cases r with
 | take sh e sl =>
  unfold RwAt at h
  obtain ⟨r,te,rfl,_,_,e2,e3⟩:=h
  exact ⟨r,_,_,rfl,e2,rfl,⟨fun z=>absurd z (by decide +kernel),fun z=>absurd trivial z⟩⟩
 | give sh e f =>
  unfold RwAt at h
  obtain ⟨r,te,tf,rfl,_,_,_,e2,e3⟩:=h
  exact ⟨r,_,_,rfl,e2,rfl,⟨fun z=>absurd z (by decide +kernel),fun z=>absurd trivial z⟩⟩
 | lt sl e =>
  unfold RwAt at h
  obtain ⟨r,te,rfl,_,_,e2,e3⟩:=h
  exact ⟨r,_,_,rfl,e2,rfl,⟨fun z=>absurd z (by decide +kernel),fun z=>absurd trivial z⟩⟩
 | say e =>
  unfold RwAt at h
  obtain ⟨r,te,rfl,_,_,e2,e3⟩:=h
  exact ⟨r,_,_,rfl,e2,rfl,⟨fun z=>absurd z (by decide +kernel),fun z=>absurd trivial z⟩⟩
 | off e =>
  unfold RwAt at h
  obtain ⟨r,te,rfl,_,_,e2,e3⟩:=h
  exact ⟨r,_,_,rfl,e2,rfl,⟨fun z=>absurd z (by decide +kernel),fun z=>absurd trivial z⟩⟩
 | iff e a b =>
  unfold RwAt at h
  obtain ⟨r,te,la,lb,xs,ys,rfl,f1,f2,f3,f4,e2,e3⟩:=h
  exact ⟨r,_,_,rfl,e2,rfl,⟨fun _ z=>z,fun _=>rfl⟩⟩
theorem Paired.app2 {α β:Type} {F:α→β→Prop}:∀ {a:List α} {b:List β} {c:List α} {d:List β},Paired F a b→Paired F c d→Paired F (a ++ c) (b ++ d)
 | _,_,_,_,.nil,h=>h
 | _,_,_,_,.cons h r,h2=>.cons h (Paired.app2 r h2)
theorem JC {v:V} {r:Rws} (h1:zdb XL H v r) (h2:Yp 6 r) (h3:(zr r 0).length≤500) (q:∀ l xs H',Same H H'→H l=none→H' l=some (.lst xs)→Paired (CsAt H') xs (zr r 0)→Q (.ref l) H') :
  qX K t { nx:=fun _ H'=>Q .non H',rt:=Q } (L2.start ["rows"] [v]) H:=by
 simp only [qX,yF,L2.start,zA,zc,tC,zb,zh,zp,b7,bw,bG,bq,ba,bf,exists_eq_left',V.int.injEq,bn,and_true,and_assoc,exists_and_left,bL,bE]
 exact ⟨r,0,rfl,h1,h2,by lia,q⟩
def sfI (v:V) (L:Addr) (xs:List V) (k n:Nat) (r:Rws) (H:Hp) (i:Nat) (σ:St) (H':Hp):Prop:=∃ (rest:Rws) (ys:List V) (C:List Cs),(∃ o,σ=[some v,some (.int k),some (.ref L),o])∧Same H H'∧H' L=some (.lst ys)∧Paired (CsAt H') ys C∧RwsAt XL H (xs.drop i) rest∧Yp (n + 1) rest∧C ++ zr rest (k + C.length)=zr r k
theorem KG {H:Hp} {L:Addr} {ys zs:List V} (h:H L=some (.lst ys)):TSm H (upd H L (.lst zs)):=fun b us e=>by rw [zj (yQ e h (fun z=>nomatch z))];exact e
theorem Vp {v:V} {r:Rws} {k n:Nat} (h1:zdb XL H v r) (h2:Yp (n + 1) r) (h3:k + (zr r k).length≤500) (q:∀ l xs H',Same H H'→H l=none→H' l=some (.lst xs)→Paired (CsAt H') xs (zr r k)→Q (.ref l) H') :
  ky K t n { nx:=fun _ H'=>Q .non H',rt:=Q } (L2.start ["rows","first","steps","row"] [v,.int k]) H:=by
 obtain ⟨p,xs,rfl,_,hp,hx⟩:=h1
 simp only [ky,wY,Yc,WV,L2.start,yd,vh,zI,zn,zF,zm,zA,xi,tOp,zc,tC,yK,zb,zh,vD,zK,zv,tCB,tBM,tyV,zp,qx,wQ,zI,rEq,rI0,xS,xq,b7,bw,bG,bI,bQ,bq,ba,bf,exists_eq_left',V.int.injEq,V.ref.injEq,V.bl.injEq,bn,and_true,true_and,and_assoc,exists_and_left,br,bu,bL,bE,decide_eq_true_eq]
 refine ⟨by decide,fun L hL=>?_⟩
 have s0:=isV (o:=HO.lst []) L hL
 refine ⟨⟨_,SqL.of (s0 _ _ hp)⟩,v6 xs (sfI (.ref p) L xs k n r H) ⟨r,[],[],⟨_,rfl⟩,s0,ze,.nil,by rw [i8];exact hx,h2,rfl⟩ (fun i σ H' ⟨_,_,_,_,s,_⟩=>SqL.of (s _ _ hp)) ?_ ?_⟩
 ·rintro i u σ H' hu ⟨rest,ys,C,⟨o,rfl⟩,s,hy,pr,hr,ok,eq⟩
  obtain ⟨x,rs,rfl,rx,rr⟩:=hr.get hu
  have e0:zr (.cons x rs) (k + C.length)=yO x (k + C.length) ++ zr rs (k + C.length + (yO x (k + C.length)).length):=by rw [zr]
  rw [e0] at eq
  have okd:=ok.dp
  have c1:(Rws.cons x rs).deep=max x.deep rs.deep:=by rw [Rws.deep]
  rw [c1] at okd
  have okc:=ok.ct
  have c2:(Rws.cons x rs).cnt=x.cnt + rs.cnt:=by rw [Rws.cnt]
  rw [c2] at okc
  have okp:=ok.pl
  unfold y6 at okp
  have le:=congrArg bG eq
  rw [bz,bz] at le
  have ly:=b5 pr
  have nx:∀ {H2:Hp} {o':Option V} {zs:List V},Same H H2→H2 L=some (.lst zs)→Paired (CsAt H2) zs (C ++ yO x (k + C.length))→sfI (.ref p) L xs k n r H (i + 1) [some (.ref p),some (.int k),some (.ref L),o'] H2:=fun {H2 o' zs} s2 g2 p2 =>
   ⟨rs,zs,_,⟨_,rfl⟩,s2,g2,p2,rr,⟨by lia,by lia,okp.2⟩,by rw [gL,bz,← Nat.add_assoc];exact eq⟩
  obtain ⟨p1,fs,hd,rfl,e2,e3,e4⟩:=zdq rx
  simp only [ba,bb,bf,exists_eq_left',V.int.injEq,V.ref.injEq,br,bu]
  refine ⟨_,SqT.of (s _ _ e2),_,e3,rfl,?_⟩
  rcases zdp x with ⟨e,a,b,rfl⟩ | hni
  ·rw [if_pos (congrArg V.str (e4.mpr (fun z=>z)))]
   have d1:(Rw.iff e a b).deep=max a.deep b.deep + 1:=by rw [Rw.deep]
   have d2:(Rw.iff e a b).cnt=max a.cnt b.cnt + 1:=by rw [Rw.cnt]
   rw [d1] at okd
   rw [d2] at okc
   have pl:=okp.1
   unfold xT at pl
   refine ⟨.inl ⟨_,SqL.of hy⟩,ys.length,.inl ⟨_,SqL.of hy,rfl⟩,e,a,b,k + C.length,by lia,rx.mono s,⟨by lia,by lia,pl.2.1⟩,⟨by lia,by lia,pl.2.2⟩,by lia,fun l us H2 s2 hl pu=>?_⟩
   have lu:=b5 pu
   refine ⟨ys,s2 _ _ hy,us,hl,bU (by lia:ys.length + us.length≤1000) (by decide),?_⟩
   exact nx (yY (s.trans s2) hL) ze (vX (KG (s2 _ _ hy)) (Paired.app2 (xh s2 pr) pu))
  ·rw [if_neg (fun z=>e4.mp (V.str.inj z) hni)]
   have ec:=yc hni (k + C.length)
   rw [ec] at nx
   refine ⟨.inl ⟨_,SqL.of hy⟩,ys,hy,b9 (by lia:ys.length≤900) (by decide),?_⟩
   exact nx (yY s hL) ze (Paired.snocP (vX (KG hy) pr) (CsAt.ts (KG hy) ⟨rx.mono s,hni⟩))
 ·rintro σ H' ⟨rest,ys,C,⟨o,rfl⟩,s,hy,pr,hr,ok,eq⟩
  have e:=hr.none
  subst e
  rw [show zr .nil (k + C.length)=[] by rw [zr],bq] at eq
  rw [eq] at pr
  exact ⟨_,rfl,q L ys H' s hL hy pr⟩
theorem Yr {v:V} {e:List V} {a b:Rws} {k n:Nat} (h1:RwAt XL H v (.iff e a b)) (h2:Yp n a) (h3:Yp n b) (h4:k + (yO (.iff e a b) k).length≤500) (q:∀ l xs H',Same H H'→H' l=some (.lst xs)→Paired (CsAt H') xs (yO (.iff e a b) k)→Q (.ref l) H') :
  va K t n { nx:=fun _ H'=>Q .non H',rt:=Q } (L2.start ["row","at","steps","to","others"] [v,.int k]) H:=by
 unfold RwAt at h1
 obtain ⟨p,te,la,lb,xs,ys,rfl,f1,f2,f3,f4,e2,e3,e4,e6,e5,e7⟩:=h1
 have ec:yO (.iff e a b) k=blk e k (zr a (k + 1)) (Rws.isNil b) (zr b (k + 2 + (zr a (k + 1)).length)):=by rw [yO]
 rw [ec] at h4 q
 simp only [va,yF,L2.start,zI,zn,zF,zm,tOp,zc,tC,zb,zh,tCB,zp,qx,zI,rI0,xS,b7,bw,bG,bI,bQ,bq,ba,bb,bf,exists_eq_left',V.int.injEq,V.ref.injEq,bn,and_true,and_assoc,exists_and_left,br,bu,bL,bE]
 refine ⟨_,SqT.of e2,_,rfl,a,k + 1,by lia,⟨la,xs,rfl,f3,e4,e6⟩,h2,?_,fun l us H1 s1 fl hl pu=>?_⟩
 ·unfold blk at h4;split at h4 <;> simp only [cB,bz] at h4 <;> lia
 have lu:=b5 pu
 refine ⟨us.length,.inl ⟨_,SqL.of hl,rfl⟩,?_⟩
 simp only [ji,Kg,zI,zn,zB,tOp,zc,tC,yK,zh,zK,zv,zI,bG,ba,bf,exists_eq_left',V.int.injEq,V.ref.injEq,V.bl.injEq,exists_and_left,decide_eq_true_eq]
 refine ⟨_,SqT.of (s1 _ _ e2),_,rfl,by decide,fun z gz=>?_⟩
 have s2:=isV (o:=HO.lst []) z gz
 refine ⟨lb,rfl,ys,SqL.of (s2 _ _ (s1 _ _ e5)),SqL.of ze,?_⟩
 generalize upd H1 z (HO.lst [])=H2 at *
 have S2:=s1.trans s2
 have nb:Rws.isNil b=decide (ys=[]):=by
  cases b with
  | nil=>unfold RwsAt at e7;simp [Rws.isNil,e7]
  | cons x r=>unfold RwsAt at e7;obtain ⟨v,vs,rfl,_⟩:=e7;simp [Rws.isNil]
 have hl2:=s2 _ _ hl
 have pu2:=xh s2 pu
 by_cases hb:ys=[]
 ·rw [if_pos hb]
  simp only [jg,xR,zI,zA,tOp,zc,tC,yK,yt,zb,zh,xR,zI,bG,ba,bb,bf,exists_eq_left',V.int.injEq,V.ref.injEq,exists_and_left,bE]
  have eb:∀ B,blk e k (zr a (k + 1)) (Rws.isNil b) B=.skip e (k + 1 + (zr a (k + 1)).length) :: zr a (k + 1):=fun B=>by unfold blk;rw [if_pos (by rw [nb];exact decide_eq_true hb)]
  rw [eb] at q h4
  have ei:(k:Int) + 1 + us.length=((k + 1 + (zr a (k + 1)).length:Nat):Int):=by lia
  rw [ei]
  refine ⟨_,SqT.of (S2 _ _ e2),_,rfl,by decide,fun p1 g1=>⟨by decide,fun p2 g2=>?_⟩⟩
  have t1:=isV (o:=HO.tup [V.str (bg "skip"),V.ref te,V.int (k + 1 + (zr a (k + 1)).length:Nat)]) p1 g1
  have t2:=isV (o:=HO.lst [V.ref p1]) p2 g2
  have T:=t1.trans t2
  rw [cB] at h4
  refine ⟨_,ze,us,T _ _ hl2,bU (by rw [cD];lia:_≤1000) (by decide),fun p3 g3=>?_⟩
  have t3:=isV (o:=HO.lst ([V.ref p1] ++ us)) p3 g3
  exact q p3 ([V.ref p1] ++ us) _ (S2.trans (T.trans t3)) ze (.cons ⟨p1,te,rfl,(t2.trans t3) _ _ ze,(S2.trans (T.trans t3)) _ _ e3⟩ (xh (T.trans t3) pu2))
 ·rw [if_neg hb]
  simp only [jh,yF,xR,zI,zn,zF,zm,zA,tOp,zc,tC,yK,yt,zb,zh,tCB,zp,qx,xR,zI,rI0,xS,bG,bq,ba,bb,bf,exists_eq_left',V.int.injEq,V.ref.injEq,bn,and_true,and_assoc,exists_and_left,br,bu,bE]
  have eb:∀ B,blk e k (zr a (k + 1)) (Rws.isNil b) B=.skip e (k + 2 + (zr a (k + 1)).length) :: (zr a (k + 1) ++ (.go (k + 2 + (zr a (k + 1)).length + B.length) :: B)):=fun B=>by unfold blk;rw [if_neg (by rw [nb];simpa using hb)]
  rw [eb] at q h4
  rw [cB,bz,cB] at h4
  have ei:(k:Int) + 1 + us.length + 1=((k + 2 + (zr a (k + 1)).length:Nat):Int):=by lia
  rw [ei]
  refine ⟨_,SqT.of (S2 _ _ e2),_,rfl,b,_,rfl,⟨lb,ys,rfl,f4,S2 _ _ e5,e7.mono S2⟩,h3,by lia,fun l2 ws H3 s3 fl2 hl3 pw=>?_⟩
  have lw:=b5 pw
  have S3:=S2.trans s3
  have hlu:=s3 _ _ hl2
  have pu3:=xh s3 pu2
  refine ⟨_,SqT.of (S3 _ _ e2),_,rfl,by decide,fun p1 g1=>⟨by decide,fun p2 g2=>?_⟩⟩
  have t1:=isV (o:=HO.tup [V.str (bg "skip"),V.ref te,V.int (k + 2 + (zr a (k + 1)).length:Nat)]) p1 g1
  have t2:=isV (o:=HO.lst [V.ref p1]) p2 g2
  have T:=t1.trans t2
  refine ⟨_,ze,us,T _ _ hlu,bU (by rw [cD];lia:_≤1000) (by decide),fun p3 g3=>?_⟩
  have t3:=isV (o:=HO.lst ([V.ref p1] ++ us)) p3 g3
  have T3:=T.trans t3
  have hp1:=(t2.trans t3) p1 _ ze
  refine ⟨ws.length,.inl ⟨_,SqL.of (T3 _ _ hl3),rfl⟩,by decide,?_⟩
  have eg:((k + 2 + (zr a (k + 1)).length:Nat):Int) + ws.length=((k + 2 + (zr a (k + 1)).length + (zr b (k + 2 + (zr a (k + 1)).length)).length:Nat):Int):=by lia
  rw [eg]
  have hp3:upd (upd (upd H3 p1 (HO.tup [V.str (bg "skip"),V.ref te,V.int (k + 2 + (zr a (k + 1)).length:Nat)])) p2 (HO.lst [V.ref p1])) p3 (HO.lst ([V.ref p1] ++ us)) p3=some (HO.lst ([V.ref p1] ++ us)):=ze
  generalize upd (upd (upd H3 p1 (HO.tup [V.str (bg "skip"),V.ref te,V.int (k + 2 + (zr a (k + 1)).length:Nat)])) p2 (HO.lst [V.ref p1])) p3 (HO.lst ([V.ref p1] ++ us))=H4 at *
  refine fun p4 g4=>⟨by decide,fun p5 g5=>?_⟩
  have t4:=isV (o:=HO.tup [V.str (bg "go"),V.int (k + 2 + (zr a (k + 1)).length + (zr b (k + 2 + (zr a (k + 1)).length)).length:Nat)]) p4 g4
  have t5:=isV (o:=HO.lst [V.ref p4]) p5 g5
  refine ⟨_,(t4.trans t5) _ _ hp3,_,ze,bU (by rw [bz,cD,cD];lia:_≤1000) (by decide),fun p6 g6=>?_⟩
  have t6:=isV (o:=HO.lst ([V.ref p1] ++ us ++ [V.ref p4])) p6 g6
  refine ⟨_,ze,ws,(T3.trans (t4.trans (t5.trans t6))) _ _ hl3,bU (by rw [bz,bz,cD,cD];lia:_≤1000) (by decide),fun p7 g7=>?_⟩
  have t7:=isV (o:=HO.lst ([V.ref p1] ++ us ++ [V.ref p4] ++ ws)) p7 g7
  have T4:=t4.trans (t5.trans (t6.trans t7))
  have T7:=T3.trans T4
  have el:[V.ref p1] ++ us ++ [V.ref p4] ++ ws=V.ref p1 :: (us ++ (V.ref p4 :: ws)):=by simp
  have P:∀ {Hx:Hp},Same H4 Hx→Hx p4=some (HO.tup [V.str (bg "go"),V.int (k + 2 + (zr a (k + 1)).length + (zr b (k + 2 + (zr a (k + 1)).length)).length:Nat)])→Paired (CsAt Hx) ([V.ref p1] ++ us ++ [V.ref p4] ++ ws) (.skip e (k + 2 + (zr a (k + 1)).length) :: (zr a (k + 1) ++ (.go (k + 2 + (zr a (k + 1)).length + (zr b (k + 2 + (zr a (k + 1)).length)).length) :: zr b (k + 2 + (zr a (k + 1)).length)))):=by
   intro Hx sx hx
   rw [el]
   exact .cons ⟨p1,te,rfl,sx _ _ hp1,(S3.trans (T3.trans sx)) _ _ e3⟩ (Paired.app2 (xh (T3.trans sx) pu3) (.cons ⟨p4,rfl,hx⟩ (xh (T3.trans sx) pw)))
  exact q p7 _ _ (S3.trans T7) ze (P T4 ((t5.trans (t6.trans t7)) _ _ ze))
theorem Zq {vs:List V} {H:Hp} {Q:VK} {E:XK} (h:yF 0 vs H Q E):False:=by
 obtain ⟨v,r,k,e,h1,h2,h3⟩:=h
 have:=h2.dp
 lia
theorem rnF {P:Str→Option Value} (T:Txt K P t):RnF K t:=⟨T.cl_Run,T.na_Run_code,T.na_Run_at,T.na_Run_why,T.na_Run_slots,T.na_Run_gifts,T.na_Run_notes,T.na_Run_sayings⟩
section
variable {x:Addr} {a:RAd} {C:List Cs} {s:RSt}
theorem RnAt.notup {b:Addr} {zs:List V} (R:RnAt t H x a C s) (h:H b=some (.tup zs)):¬ Ow x a b:=by
 rintro (rfl | rfl | rfl | rfl | rfl)
 ·rw [R.ix] at h;cases h
 ·rw [R.hs] at h;cases h
 ·rw [R.hg] at h;cases h
 ·rw [R.hn] at h;cases h
 ·rw [R.ha] at h;cases h
theorem RnAt.ts {H':Hp} (R:RnAt t H x a C s) (k:Kp x a H H'):TSm H H':=fun b ys e=>k b _ (R.notup e) e
theorem Kp.of_same {H':Hp} (s:Same H H'):Kp x a H H':=fun b o _ e=>s b o e
theorem Kp.trans {H' H'':Hp} (h:Kp x a H H') (k:Kp x a H' H''):Kp x a H H'':=fun b o n e=>k b o n (h b o n e)
theorem xW {b:Addr} {o:HO} (h:Ow x a b):Kp x a H (upd H b o):=fun c o' n e=>by rw [zj (fun z=>n (by rw [z];exact h))];exact e
theorem RnAt.same {H':Hp} (R:RnAt t H x a C s) (k:Same H H'):RnAt t H' x a C s :=
 ⟨k _ _ R.ix,let ⟨xs,h1,h2⟩:=R.hc;⟨xs,k _ _ h1,xh k h2⟩,k _ _ R.hs,k _ _ R.hg,k _ _ R.hn,k _ _ R.ha,R.ng,R.nc⟩
theorem RnAt.putI (R:RnAt t H x a C s) (s':RSt) (e1:s'.sl=s.sl) (e2:s'.gi=s.gi) (e3:s'.no=s.no) (e4:s'.sa=s.sa):RnAt t (upd H x (.ins t.c_Run a.dx (zfk a s'))) x a C s':=by
 refine ⟨ze,?_,?_,?_,?_,?_,R.ng,R.nc⟩
 ·obtain ⟨xs,h1,h2⟩:=R.hc
  exact ⟨xs,by rw [zj (yQ h1 R.ix (fun z=>nomatch z))];exact h1,vX (R.ts (xW (.inl rfl))) h2⟩
 ·rw [zj (yQ R.hs R.ix (fun z=>nomatch z)),e1];exact R.hs
 ·rw [zj (yQ R.hg R.ix (fun z=>nomatch z)),e2];exact R.hg
 ·rw [zj (yQ R.hn R.ix (fun z=>nomatch z)),e3];exact R.hn
 ·rw [zj (yQ R.ha R.ix (fun z=>nomatch z)),e4];exact R.ha
theorem RnAt.putS (R:RnAt t H x a C s) (kvs:List (Key × V)):RnAt t (upd H a.sl (.dK kvs)) x a C { s with sl:=kvs }:=by
 refine ⟨by rw [zj (yQ R.ix R.hs (fun z=>nomatch z))];exact R.ix,?_,ze,?_,?_,?_,R.ng,R.nc⟩
 ·obtain ⟨xs,h1,h2⟩:=R.hc
  exact ⟨xs,by rw [zj (yQ h1 R.hs (fun z=>nomatch z))];exact h1,vX (R.ts (xW (.inr (.inl rfl)))) h2⟩
 ·rw [zj (yQ R.hg R.hs (fun z=>nomatch z))];exact R.hg
 ·rw [zj (yQ R.hn R.hs (fun z=>nomatch z))];exact R.hn
 ·rw [zj (yQ R.ha R.hs (fun z=>nomatch z))];exact R.ha
theorem RnAt.putG (R:RnAt t H x a C s) (rows:List Row):RnAt t (upd H a.gi (.dT (dOf rows))) x a C { s with gi:=rows }:=by
 refine ⟨by rw [zj (yQ R.ix R.hg (fun z=>nomatch z))];exact R.ix,?_,?_,ze,?_,?_,R.ng,R.nc⟩
 ·obtain ⟨xs,h1,h2⟩:=R.hc
  exact ⟨xs,by rw [zj (yQ h1 R.hg (fun z=>nomatch z))];exact h1,vX (R.ts (xW (.inr (.inr (.inl rfl))))) h2⟩
 ·rw [zj (yQ R.hs R.hg (fun z=>nomatch z))];exact R.hs
 ·rw [zj (cK R.ng)];exact R.hn
 ·rw [zj (yQ R.ha R.hg (fun z=>nomatch z))];exact R.ha
theorem RnAt.putO (R:RnAt t H x a C s) (rows:List Row):RnAt t (upd H a.no (.dT (dOf rows))) x a C { s with no:=rows }:=by
 refine ⟨by rw [zj (yQ R.ix R.hn (fun z=>nomatch z))];exact R.ix,?_,?_,?_,ze,?_,R.ng,R.nc⟩
 ·obtain ⟨xs,h1,h2⟩:=R.hc
  exact ⟨xs,by rw [zj (yQ h1 R.hn (fun z=>nomatch z))];exact h1,vX (R.ts (xW (.inr (.inr (.inr (.inl rfl)))))) h2⟩
 ·rw [zj (yQ R.hs R.hn (fun z=>nomatch z))];exact R.hs
 ·rw [zj R.ng];exact R.hg
 ·rw [zj (yQ R.ha R.hn (fun z=>nomatch z))];exact R.ha
theorem RnAt.putA (R:RnAt t H x a C s) (is:List Int):RnAt t (upd H a.sa (.lst (is.map V.int))) x a C { s with sa:=is }:=by
 refine ⟨by rw [zj (yQ R.ix R.ha (fun z=>nomatch z))];exact R.ix,?_,?_,?_,?_,ze,R.ng,R.nc⟩
 ·obtain ⟨xs,h1,h2⟩:=R.hc
  exact ⟨xs,by rw [zj R.nc];exact h1,vX (R.ts (xW (.inr (.inr (.inr (.inr rfl)))))) h2⟩
 ·rw [zj (yQ R.hs R.ha (fun z=>nomatch z))];exact R.hs
 ·rw [zj (yQ R.hg R.ha (fun z=>nomatch z))];exact R.hg
 ·rw [zj (yQ R.hn R.ha (fun z=>nomatch z))];exact R.hn
end
theorem Zr {C:List Cs} {s:RSt} (h:¬ yq C s=true):s.n < C.length:=by
 unfold yq at h
 simp only [oM,decide_eq_true_eq,not_or] at h
 lia
theorem KH (rows:List Row) (p:Pl) (w:Int):zN (rows ++ [(p,w)]) p=some w:=by
 have h:=x8 (rows ++ [(p,w)]) p
 rw [jd,v3,if_pos rfl] at h
 cases hl:zN (rows ++ [(p,w)]) p with
 | none=>rw [hl] at h;cases h
 | some i=>rw [hl] at h;cases h;rfl
theorem zeC {v:V} {c:Cs} (h:CsAt H v c):∃ p zs hd,v=.ref p∧H p=some (.tup zs)∧atI zs 0=some (.str hd)∧(hd=bg "take"→∃ sh e x te,c=.row (.take sh e x)∧atI zs 1=some (.str sh)∧atI zs 2=some (.ref te)∧H te=some (.tup e))∧(hd≠bg "take"→∀ s,Xe c s=none):=by
 cases c with
 | row r =>
  have h1:=h.1
  cases r with
  | take sh e sl=>unfold RwAt at h1;obtain ⟨r,te,rfl,_,_,e2,e3⟩:=h1;exact ⟨r,_,_,rfl,e2,rfl,fun _=>⟨sh,e,sl,te,rfl,rfl,rfl,e3⟩,fun z=>absurd rfl z⟩
  | give sh e f=>unfold RwAt at h1;obtain ⟨r,te,tf,rfl,_,_,_,e2,e3⟩:=h1;exact ⟨r,_,_,rfl,e2,rfl,fun z=>absurd z (by decide +kernel),fun _ _=>rfl⟩
  | lt sl e=>unfold RwAt at h1;obtain ⟨r,te,rfl,_,_,e2,e3⟩:=h1;exact ⟨r,_,_,rfl,e2,rfl,fun z=>absurd z (by decide +kernel),fun _ _=>rfl⟩
  | say e=>unfold RwAt at h1;obtain ⟨r,te,rfl,_,_,e2,e3⟩:=h1;exact ⟨r,_,_,rfl,e2,rfl,fun z=>absurd z (by decide +kernel),fun _ _=>rfl⟩
  | off e=>unfold RwAt at h1;obtain ⟨r,te,rfl,_,_,e2,e3⟩:=h1;exact ⟨r,_,_,rfl,e2,rfl,fun z=>absurd z (by decide +kernel),fun _ _=>rfl⟩
  | iff e b d=>exact (h.2:False).elim
 | skip e to=>obtain ⟨p,te,e1,e2,_⟩:=h;exact ⟨p,_,_,e1,e2,rfl,fun z=>absurd z (by decide +kernel),fun _ _=>rfl⟩
 | go en=>obtain ⟨p,e1,e2⟩:=h;exact ⟨p,_,_,e1,e2,rfl,fun z=>absurd z (by decide +kernel),fun _ _=>rfl⟩
theorem zeD {κ:Type} [DecidableEq κ] {kvs:List (κ × V)} {k:κ} (h:k ∉ kvs.map (·.1)):yL kvs k=none:=by
 cases e:yL kvs k with
 | none=>rfl
 | some v=>exact absurd (K7 e) h
theorem QA:∀ (gs:List Row) (kvs:List (List Key × V)),(∀ r∈gs,zM r.1 ∉ kvs.map (·.1))→(gs.map (·.1)).Nodup→gs.foldl Zn kvs=kvs ++ gs.map fun r=>(zM r.1,V.int r.2)
 | [],kvs,_,_=>by simp
 | r :: gs,kvs,h,nd=>by
  rw [bW,cT] at nd
  rw [eR,Zn,YK _ (zeD (h r bF)),QA gs _ (fun q hq=>?_) nd.2,bW,gL,List.singleton_append]
  rw [dL,List.mem_append,not_or]
  refine ⟨h q (bB _ hq),fun z=>nd.1 ?_⟩
  have z2:zM q.1=zM r.1:=by simpa using z
  rw [← xv z2]
  exact da hq
theorem zeE {gs:List Row} (nd:(gs.map (·.1)).Nodup):dOf gs=gs.map fun r=>(zM r.1,V.int r.2):=by
 unfold dOf
 rw [QA gs [] (fun _ _ h=>nomatch h) nd,bQ]
theorem Zs {H H':Hp} (s:Same H H'):∀ {ys:List V} {rows:List Row},Paired (PrAt H) ys rows→Paired (PrAt H') ys rows
 | _,_,.nil=>.nil
 | _,_,.cons ⟨r,p,e1,e2,e3⟩ t=>.cons ⟨r,p,e1,s _ _ e2,s _ _ e3⟩ (Zs s t)
theorem ini {H HA:Hp} {x sl:Addr} {o i i':HO} (A1:Yd x H HA) (A2:HA x=some i) (h:HA sl=none):x≠sl∧H sl=none∧Yd x H (upd (upd HA sl o) x i')∧upd (upd HA sl o) x i' sl=some o∧Yd x HA (upd (upd HA sl o) x i'):=by
 have n:x≠sl:=zJ A2 h
 have S:Yd x HA (upd (upd HA sl o) x i'):=fun b u nb e=>by rw [zj nb,zj (fun z=>by rw [z,h] at e;cases e)];exact e
 refine ⟨n,?_,fun b u nb e=>S b u nb (A1 b u nb e),by rw [zj (cK n),ze],S⟩
 cases hs:H sl with
 | none=>rfl
 | some u=>rw [A1 sl u (cK n) hs] at h;cases h
section
variable {x:Addr} {a:RAd} {C:List Cs} {s:RSt} {E:XK}
theorem Vq (F:RnF K t) (R:RnAt t H x a C s) (q:∀ H',Same H H'→Q (.bl (yq C s)) H') :
  kB K t { nx:=fun _ H'=>Q .non H',rt:=Q } (L2.start ["self"] [.ref x]) H:=by
 simp only [kB,yJ,L2.start,zA,tOp,zc,tC,zb,zh,zeb,tCB,qx,rI0,Qb,xS,b7,bw,bG,bq,ba,bf,exists_eq_left',V.int.injEq,V.ref.injEq,V.bl.injEq,bn,and_true,true_and,exists_and_left,bL,bE,b0,decide_eq_false_iff_not]
 obtain ⟨xs,hx,pr⟩:=R.hc
 have lx:=b5 pr
 refine ⟨_,_,_,R.ix,F.cl,F.n3,_,rfl,?_⟩
 cases hw:s.why with
 | some w =>
  rw [if_pos (fun z=>nomatch z)]
  have e:yq C s=true:=by unfold yq;rw [hw];rfl
  rw [e] at q
  exact q H fun _ _ z=>z
 | none =>
  rw [if_neg (fun z=>z rfl)]
  refine ⟨_,_,_,R.ix,F.cl,F.n2,_,rfl,_,_,_,R.ix,F.cl,F.n1,_,rfl,xs.length,.inl ⟨_,SqL.of hx,rfl⟩,_,rfl,?_⟩
  have e:yq C s=decide ((xs.length:Int)≤(s.n:Int)):=by unfold yq;rw [hw,lx];simp
  rw [← e]
  exact q H fun _ _ z=>z
theorem ZW {tm:Addr} {e:List V} (F:RnF K t) (R:RnAt t H x a C s) (h2:yP s.sl) (h3:H tm=some (.tup e)) (h4:TermOk e)
  (q:∀ H',Same H H'→fin t (rk s.sl e) Q E H'):wC K t E { nx:=fun _ H'=>Q .non H',rt:=Q } (L2.start ["self","term"] [.ref x,.ref tm]) H:=by
 simp only [wC,km,yJ,L2.start,zA,zc,zb,zh,zp,b7,bw,bG,bq,ba,bb,bf,exists_eq_left',V.ref.injEq,bn,and_true,and_assoc,exists_and_left,bL,bE]
 exact ⟨_,_,_,R.ix,F.cl,F.n4,_,rfl,s.sl,_,rfl,e,h3,R.hs,_,h4.good s.sl,h4.2.1,h4.2.2,h2,q⟩
theorem ZX {p te:Addr} {xs e:List V} {sh:Str} (F:RnF K t) (R:RnAt t H x a C s) (h2:yP s.sl) (h3:H p=some (.tup xs)) (h4:atI xs 1=some (.str sh)) (h5:atI xs 2=some (.ref te)) (h6:H te=some (.tup e)) (h7:TermOk e)
  (q1:∀ i q H',rk s.sl e=.ok i→Same H H'→H' q=some (.tup [.str sh,.int i])→Q (.ref q) H') (q2:∀ er H',rk s.sl e=.error er→Same H H'→Kz t er E H') :
  wD K t E { nx:=fun _ H'=>Q .non H',rt:=Q } (L2.start ["self","due"] [.ref x,.ref p]) H:=by
 simp only [wD,zO,yu,L2.start,zI,zA,tOp,zc,tC,yt,zb,zh,zI,b7,bw,bG,bq,ba,bb,bf,exists_eq_left',V.int.injEq,V.ref.injEq,bn,and_true,and_assoc,exists_and_left,bL,bE]
 refine ⟨_,SqT.of h3,_,h4,_,_,R.ix,rfl,_,SqT.of h3,_,h5,_,rfl,e,a,C,s,R,h2,h6,h7,fun H1 s1=>?_⟩
 cases hk:rk s.sl e with
 | error er=>exact fin_err.mpr (q2 er H1 hk s1)
 | ok n =>
  refine fin_ok.mpr ⟨by decide,fun p hp=>?_⟩
  exact q1 n p _ hk (s1.trans (isV (o:=HO.tup [V.str sh,V.int n]) p hp)) ze
theorem XT {q:Addr} {p:Pl} {w:Int} (F:RnF K t) (R:RnAt t H x a C s) (h2:H q=some (.tup [.str p.1,.int p.2])) (h3:s.no.length≤900)
  (k:∀ H',Kp x a H H'→RnAt t H' x a C (xH p w s)→Q (.int (wZ p w s)) H') :
  jK K t { nx:=fun _ H'=>Q .non H',rt:=Q } (L2.start ["self","place","worth"] [.ref x,.ref q,.int w]) H:=by
 simp only [jK,wf,Jc,vi,yJ,L2.start,zn,zA,zB,tOp,zc,zK,zv,b7,bw,bG,bq,ba,bb,bf,exists_eq_left',V.ref.injEq,V.bl.injEq,exists_and_left,bL,bE,b0,if_true,cb,ite_false]
 have g1:DGet H a.gi (.ref q) ((zN s.gi p).map V.int):=.inr ⟨dOf s.gi,zM p,q,.inl R.hg,rfl,h2,(x8 _ _).symm⟩
 have g2:DGet H a.no (.ref q) ((zN s.no p).map V.int):=.inr ⟨dOf s.no,zM p,q,.inl R.hn,rfl,h2,(x8 _ _).symm⟩
 refine ⟨_,_,_,R.ix,F.cl,F.n5,_,rfl,_,rfl,_,g1,?_⟩
 cases hg:zN s.gi p with
 | some i =>
  rw [if_pos (by simp)]
  have e:xH p w s=s:=by unfold xH;rw [if_pos (.inl (by rw [hg];rfl))]
  have e2:wZ p w s=i:=by unfold wZ;rw [hg];rfl
  rw [e,e2] at k
  rw [hg] at g1
  exact ⟨_,_,_,R.ix,F.cl,F.n5,_,rfl,_,rfl,_,g1,k H (.of_same fun _ _ z=>z) R⟩
 | none =>
  rw [if_neg (by simp)]
  refine ⟨_,_,_,R.ix,F.cl,F.n6,_,rfl,_,rfl,_,g2,?_⟩
  cases ho:zN s.no p with
  | some i =>
   rw [if_neg (by simp)]
   have e:xH p w s=s:=by unfold xH;rw [if_pos (.inr (by rw [ho];rfl))]
   have e2:wZ p w s=i:=by unfold wZ;rw [hg,ho];rfl
   rw [e,e2] at k
   rw [ho] at g2
   exact ⟨_,_,_,R.ix,F.cl,F.n6,_,rfl,_,rfl,_,g2,k H (.of_same fun _ _ z=>z) R⟩
  | none =>
   rw [if_pos (by simp)]
   have e:xH p w s={ s with no:=s.no ++ [(p,w)] }:=by unfold xH;rw [if_neg (by rw [hg,ho];simp)]
   have e2:wZ p w s=w:=by unfold wZ;rw [hg,ho];rfl
   rw [e,e2] at k
   have ld:=x9 s.no
   have ep:yT (dOf s.no) (zM p) (V.int w)=dOf (s.no ++ [(p,w)]):=(jd s.no (p,w)).symm
   have D:=DPut.t (k:=zM p) (v:=V.int w) R.hn h2 (b9 (by lia:_≤900) (by decide))
   rw [ep] at D
   have R2:=R.putO (s.no ++ [(p,w)])
   have K2:Kp x a H (upd H a.no (.dT (dOf (s.no ++ [(p,w)])))):=xW (.inr (.inr (.inr (.inl rfl))))
   refine ⟨_,_,_,R.ix,F.cl,F.n6,_,rfl,_,rfl,_,D,_,_,_,R2.ix,F.cl,F.n6,_,rfl,_,rfl,V.int w,?_,k _ K2 R2⟩
   refine .inr ⟨_,zM p,q,.inl R2.hn,rfl,K2 _ _ (R.notup h2) h2,?_⟩
   rw [x8,KH];rfl
theorem Vr {l dx:Addr} {xs:List V} (F:RnF K t) (h1:H x=some (.ins t.c_Run dx [])) (h2:H l=some (.lst xs)) (h3:Paired (CsAt H) xs C)
  (q:∀ H' a,Yd x H H'→RnAt t H' x a C st0→(∀ b,OwA x a b→b=x∨H b=none)→Q .non H') :
  kA K t { nx:=fun _ H'=>Q .non H',rt:=Q } (L2.start ["self","code"] [.ref x,.ref l]) H:=by
 simp only [kA,ZB,qz,L2.start,Zi,zn,zc,tC,yK,zb,zh,tCB,qB,b7,bw,bG,bq,ba,bb,bf,exists_eq_left',V.ref.injEq,bn,and_true,exists_and_left,bL,bE]
 refine ⟨xs,.inl (SqL.of h2),fun co hco=>?_⟩
 have nco:x≠co:=zJ h1 hco
 refine ⟨_,_,_,(by rw [zj nco];exact h1),F.cl,F.n1,by decide,_,_,_,ze,F.cl,F.n2,(by show (1:Nat) < 1000;decide),_,_,_,ze,F.cl,F.n3,(by show (2:Nat) < 1000;decide),?_⟩
 have A1:Yd x H (upd (upd (upd (upd H co (HO.lst xs)) x (.ins t.c_Run dx (yj (bg "code") (V.ref co) []))) x (.ins t.c_Run dx (yj (bg "at") (V.int 0) (yj (bg "code") (V.ref co) [])))) x (.ins t.c_Run dx (yj (bg "why") V.non (yj (bg "at") (V.int 0) (yj (bg "code") (V.ref co) []))))):=fun b o n e=>by
  rw [zj n,zj n,zj n,zj (fun z=>by rw [z,hco] at e;cases e)];exact e
 have A2:(upd (upd (upd (upd H co (HO.lst xs)) x (.ins t.c_Run dx (yj (bg "code") (V.ref co) []))) x (.ins t.c_Run dx (yj (bg "at") (V.int 0) (yj (bg "code") (V.ref co) [])))) x (.ins t.c_Run dx (yj (bg "why") V.non (yj (bg "at") (V.int 0) (yj (bg "code") (V.ref co) []))))) x=some (.ins t.c_Run dx [(bg "code",V.ref co),(bg "at",V.int 0),(bg "why",V.non)]):=ze
 have A3:(upd (upd (upd (upd H co (HO.lst xs)) x (.ins t.c_Run dx (yj (bg "code") (V.ref co) []))) x (.ins t.c_Run dx (yj (bg "at") (V.int 0) (yj (bg "code") (V.ref co) [])))) x (.ins t.c_Run dx (yj (bg "why") V.non (yj (bg "at") (V.int 0) (yj (bg "code") (V.ref co) []))))) co=some (.lst xs):=by
  rw [zj (cK nco),zj (cK nco),zj (cK nco),ze]
 generalize (upd (upd (upd (upd H co (HO.lst xs)) x (.ins t.c_Run dx (yj (bg "code") (V.ref co) []))) x (.ins t.c_Run dx (yj (bg "at") (V.int 0) (yj (bg "code") (V.ref co) [])))) x (.ins t.c_Run dx (yj (bg "why") V.non (yj (bg "at") (V.int 0) (yj (bg "code") (V.ref co) [])))))=HA at *
 intro sl hsl
 obtain ⟨nsl,fsl,B1,B4,B5⟩:=ini (o:=HO.dK []) (i':=HO.ins t.c_Run dx (yj (bg "slots") (V.ref sl) [(bg "code",V.ref co),(bg "at",V.int 0),(bg "why",V.non)])) A1 A2 hsl
 refine ⟨_,_,_,(by rw [zj nsl];exact A2),F.cl,F.n4,(by show (3:Nat) < 1000;decide),?_⟩
 have B2:(upd (upd HA sl (HO.dK [])) x (.ins t.c_Run dx (yj (bg "slots") (V.ref sl) [(bg "code",V.ref co),(bg "at",V.int 0),(bg "why",V.non)]))) x=some (.ins t.c_Run dx [(bg "code",V.ref co),(bg "at",V.int 0),(bg "why",V.non),(bg "slots",V.ref sl)]):=ze
 have B_co:=B5 _ _ (cK nco) A3
 generalize (upd (upd HA sl (HO.dK [])) x (.ins t.c_Run dx (yj (bg "slots") (V.ref sl) [(bg "code",V.ref co),(bg "at",V.int 0),(bg "why",V.non)])))=HB at *
 intro gi hgi
 obtain ⟨ngi,fgi,C1,C4,C5⟩:=ini (o:=HO.dT []) (i':=HO.ins t.c_Run dx (yj (bg "gifts") (V.ref gi) [(bg "code",V.ref co),(bg "at",V.int 0),(bg "why",V.non),(bg "slots",V.ref sl)])) B1 B2 hgi
 refine ⟨_,_,_,(by rw [zj ngi];exact B2),F.cl,F.n5,(by show (4:Nat) < 1000;decide),?_⟩
 have C2:(upd (upd HB gi (HO.dT [])) x (.ins t.c_Run dx (yj (bg "gifts") (V.ref gi) [(bg "code",V.ref co),(bg "at",V.int 0),(bg "why",V.non),(bg "slots",V.ref sl)]))) x=some (.ins t.c_Run dx [(bg "code",V.ref co),(bg "at",V.int 0),(bg "why",V.non),(bg "slots",V.ref sl),(bg "gifts",V.ref gi)]):=ze
 have C_co:=C5 _ _ (cK nco) B_co
 have C_sl:=C5 _ _ (cK nsl) B4
 generalize (upd (upd HB gi (HO.dT [])) x (.ins t.c_Run dx (yj (bg "gifts") (V.ref gi) [(bg "code",V.ref co),(bg "at",V.int 0),(bg "why",V.non),(bg "slots",V.ref sl)])))=HC at *
 intro no hno
 obtain ⟨nno,fno,D1,D4,D5⟩:=ini (o:=HO.dT []) (i':=HO.ins t.c_Run dx (yj (bg "notes") (V.ref no) [(bg "code",V.ref co),(bg "at",V.int 0),(bg "why",V.non),(bg "slots",V.ref sl),(bg "gifts",V.ref gi)])) C1 C2 hno
 refine ⟨_,_,_,(by rw [zj nno];exact C2),F.cl,F.n6,(by show (5:Nat) < 1000;decide),b8 _,?_⟩
 have D2:(upd (upd HC no (HO.dT [])) x (.ins t.c_Run dx (yj (bg "notes") (V.ref no) [(bg "code",V.ref co),(bg "at",V.int 0),(bg "why",V.non),(bg "slots",V.ref sl),(bg "gifts",V.ref gi)]))) x=some (.ins t.c_Run dx [(bg "code",V.ref co),(bg "at",V.int 0),(bg "why",V.non),(bg "slots",V.ref sl),(bg "gifts",V.ref gi),(bg "notes",V.ref no)]):=ze
 have D_co:=D5 _ _ (cK nco) C_co
 have D_sl:=D5 _ _ (cK nsl) C_sl
 have D_gi:=D5 _ _ (cK ngi) C4
 have ngn:gi≠no:=fun z=>by rw [← z,C4] at hno;cases hno
 generalize (upd (upd HC no (HO.dT [])) x (.ins t.c_Run dx (yj (bg "notes") (V.ref no) [(bg "code",V.ref co),(bg "at",V.int 0),(bg "why",V.non),(bg "slots",V.ref sl),(bg "gifts",V.ref gi)])))=HD at *
 intro sa hsa
 obtain ⟨nsa,fsa,E1,E4,E5⟩:=ini (o:=HO.lst []) (i':=HO.ins t.c_Run dx (yj (bg "sayings") (V.ref sa) [(bg "code",V.ref co),(bg "at",V.int 0),(bg "why",V.non),(bg "slots",V.ref sl),(bg "gifts",V.ref gi),(bg "notes",V.ref no)])) D1 D2 hsa
 refine ⟨_,_,_,(by rw [zj nsa];exact D2),F.cl,F.n7,(by show (6:Nat) < 1000;decide),?_⟩
 have E2:(upd (upd HD sa (HO.lst [])) x (.ins t.c_Run dx (yj (bg "sayings") (V.ref sa) [(bg "code",V.ref co),(bg "at",V.int 0),(bg "why",V.non),(bg "slots",V.ref sl),(bg "gifts",V.ref gi),(bg "notes",V.ref no)]))) x=some (.ins t.c_Run dx [(bg "code",V.ref co),(bg "at",V.int 0),(bg "why",V.non),(bg "slots",V.ref sl),(bg "gifts",V.ref gi),(bg "notes",V.ref no),(bg "sayings",V.ref sa)]):=ze
 have E_co:=E5 _ _ (cK nco) D_co
 have E_sl:=E5 _ _ (cK nsl) D_sl
 have E_gi:=E5 _ _ (cK ngi) D_gi
 have E_no:=E5 _ _ (cK nno) D4
 have ncs:co≠sa:=fun z=>by rw [← z,D_co] at hsa;cases hsa
 refine q _ ⟨dx,co,sl,gi,no,sa⟩ E1 ⟨E2,⟨xs,E_co,vX (fun b ys e=>E1 b _ (fun z=>by rw [z,h1] at e;cases e) e) h3⟩,E_sl,E_gi,E_no,E4,ngn,ncs⟩ ?_
 rintro b ((z | z | z | z | z) | z)
 ·exact .inl z
 ·exact .inr (by rw [z];exact fsl)
 ·exact .inr (by rw [z];exact fgi)
 ·exact .inr (by rw [z];exact fno)
 ·exact .inr (by rw [z];exact fsa)
 ·exact .inr (by rw [z];exact hco)
theorem Vs {P:Str→Option Value} {w:Int} {m:Nat} (T:Txt K P t) (R:RnAt t H x a C s) (h2:∀ c∈C,Yq c) (h3:RnOk m s) (h4:m≤900) (q:∀ H',Kp x a H H'→RnAt t H' x a C (xF C w s)→Q .non H') :
  kH K t { nx:=fun _ H'=>Q .non H',rt:=Q } (L2.start ["self","worth"] [.ref x,.int w]) H:=by
 simp only [kH,yG,vI,yJ,qz,yu,Y3,Kr,zbR,L2.start,zn,zaF,zB,tOp,zc,tC,zb,zh,zK,tB,yV,b7,bw,bG,bq,ba,bb,bf,exists_eq_left',V.int.injEq,V.ref.injEq,V.bl.injEq,bn,and_true,and_assoc,exists_and_left,bL,bE]
 have F:=rnF T
 refine ⟨_,_,R.ix,rfl,a,C,s,R,fun H1 s1=>?_⟩
 have R1:=R.same s1
 by_cases ho:yq C s=true
 ·rw [if_pos ho]
  exact q H1 (.of_same s1) (by unfold xF;rw [if_pos ho];exact R1)
 rw [if_neg ho]
 obtain ⟨xs,hx,pr⟩:=R1.hc
 have lx:=b5 pr
 have lt:=Zr ho
 have hc:C[s.n]?=some C[s.n]:=bh lt
 have hv:xs[s.n]?=some xs[s.n]:=bh (by lia)
 have cv:=yg pr hv hc
 have es:∀ w,xF C w s=z7 C[s.n] w s:=fun w=>by unfold xF;rw [if_neg ho,hc]
 rw [es] at q
 refine ⟨_,_,R1.ix,rfl,_,_,_,R1.ix,F.cl,F.n1,_,rfl,_,_,_,R1.ix,F.cl,F.n2,_,rfl,_,rfl,xs,_,rfl,SqL.of hx,_,jm hv,C[s.n],m,a,C,s,R1,cv,h2 _ (fA lt),h3,h4,fun H2 s' k e K2 R2=>⟨_,_,_,R2.ix,F.cl,F.n2,(by show (7:Nat) < 1000;decide),?_⟩,fun H2 er e s2=>?_⟩
 ·have z:=R2.putI { s' with n:=k } rfl rfl rfl rfl
  exact q _ ((Kp.of_same s1).trans (K2.trans (xW (.inl rfl)))) (by unfold z7;rw [e];exact z)
 ·have R3:=R1.same s2
  have z:=R3.putI { s with why:=some (Jm er) } rfl rfl rfl rfl
  have q':=q _ ((Kp.of_same s1).trans ((Kp.of_same s2).trans (xW (.inl rfl)))) (by unfold z7;rw [e];exact z)
  cases er with
  | nought=>exact ⟨t.c_Nought,rfl,.inr ⟨T.e_Nought_Great,T.e_Nought_Nought,_,_,_,R3.ix,F.cl,F.n3,(by show (7:Nat) < 1000;decide),q'⟩⟩
  | great=>exact ⟨t.c_Great,rfl,.inl ⟨T.e_Great_Great,_,_,_,R3.ix,F.cl,F.n3,(by show (7:Nat) < 1000;decide),q'⟩⟩
  | stuck=>trivial
theorem Vt {P:Str→Option Value} (T:Txt K P t) (R:RnAt t H x a C s) (h2:∀ c∈C,Yq c) (h3:yP s.sl) (q1:∀ H',Ye C s=none→Same H H'→Q .non H') (q2:∀ p q H',Ye C s=some p→Same H H'→H' q=some (.tup [.str p.1,.int p.2])→Q (.ref q) H') :
  kG K t { nx:=fun _ H'=>Q .non H',rt:=Q } (L2.start ["self","place"] [.ref x]) H:=by
 simp only [kG,yG,yJ,yu,L2.start,zI,zn,zA,zB,tOp,zc,tC,zh,zK,tOr,zv,tB,yV,zI,rNe,xq,b7,bw,bG,bI,bQ,bq,ba,bf,exists_eq_left',V.int.injEq,V.ref.injEq,V.bl.injEq,bn,and_true,exists_and_left,bL,bE,b0,decide_eq_false_iff_not,if_true]
 have F:=rnF T
 refine ⟨_,_,R.ix,rfl,a,C,s,R,fun H1 s1=>?_⟩
 have R1:=R.same s1
 by_cases ho:yq C s=true
 ·rw [if_pos ho]
  exact q1 H1 (by unfold Ye;rw [if_pos ho]) s1
 rw [if_neg ho]
 obtain ⟨xs,hx,pr⟩:=R1.hc
 have lx:=b5 pr
 have lt:=Zr ho
 have hc:C[s.n]?=some C[s.n]:=bh lt
 have hv:xs[s.n]?=some xs[s.n]:=bh (by lia)
 have cv:=yg pr hv hc
 have ok:=h2 _ (fA lt)
 have es:Ye C s=Xe C[s.n] s:=by unfold Ye;rw [if_neg ho,hc];rfl
 rw [es] at q1 q2
 obtain ⟨p,zs,hd,ev,hp,h0,ht,hnt⟩:=zeC cv
 refine ⟨_,_,_,R1.ix,F.cl,F.n1,_,rfl,_,_,_,R1.ix,F.cl,F.n2,_,rfl,_,rfl,xs,_,rfl,SqL.of hx,_,jm hv,p,ev,_,SqT.of hp,_,h0,rfl,?_⟩
 by_cases hh:hd=bg "take"
 case neg =>
  rw [if_pos (fun z=>hh (V.str.inj z))]
  exact q1 H1 (hnt hh s) s1
 rw [if_neg (fun z=>z (congrArg V.str hh))]
 obtain ⟨sh,e,sl,te,ec,a1,a2,ht⟩:=ht hh
 rw [ec] at q1 q2 ok
 unfold Yq j7 at ok
 simp only [qk,qi,ym,Jc,yJ,Y3,zbS,za4,zn,zA,zB,tOp,zc,tC,zb,zh,zK,tOr,zv,yV,bq,ba,bb,bf,exists_eq_left',V.ref.injEq,V.bl.injEq,bn,and_true,and_assoc,exists_and_left,br,bu,if_true,cb,ite_false]
 refine ⟨_,_,R1.ix,rfl,_,_,_,R1.ix,F.cl,F.n1,_,rfl,_,_,_,R1.ix,F.cl,F.n2,_,rfl,_,rfl,xs,_,rfl,SqL.of hx,_,jm hv,p,ev,zs,sh,te,e,a,C,s,R1,h3,hp,a1,a2,ht,ok,fun i q H2 hk s2 hq=>?_,fun er H2 hk s2=>?_⟩
 case refine_2 =>
  have q':=q1 H2 (by unfold Xe;simp only [hk]) (s1.trans s2)
  cases er with
  | nought=>exact ⟨t.c_Nought,rfl,T.m_Nought_Great_Nought,q'⟩
  | great=>exact ⟨t.c_Great,rfl,T.m_Great_Great_Nought,q'⟩
  | stuck=>trivial
 have R2:=R1.same s2
 have g1:DGet H2 a.gi (.ref q) ((zN s.gi (sh,i)).map V.int):=.inr ⟨dOf s.gi,zM (sh,i),q,.inl R2.hg,rfl,hq,(x8 _ _).symm⟩
 have g2:DGet H2 a.no (.ref q) ((zN s.no (sh,i)).map V.int):=.inr ⟨dOf s.no,zM (sh,i),q,.inl R2.hn,rfl,hq,(x8 _ _).symm⟩
 refine ⟨_,_,_,R2.ix,F.cl,F.n5,_,rfl,_,rfl,_,g1,?_⟩
 cases hg:zN s.gi (sh,i) with
 | some j =>
  rw [if_pos (by simp)]
  exact q1 H2 (by unfold Xe;simp only [hk,hg];rfl) (s1.trans s2)
 | none =>
  rw [if_neg (by simp)]
  refine ⟨_,_,_,R2.ix,F.cl,F.n6,_,rfl,_,rfl,_,g2,?_⟩
  cases hn:zN s.no (sh,i) with
  | some j =>
   rw [if_pos (by simp)]
   exact q1 H2 (by unfold Xe;simp only [hk,hg,hn];rfl) (s1.trans s2)
  | none =>
   rw [if_neg (by simp)]
   exact q2 (sh,i) q H2 (by unfold Xe;simp only [hk,hg,hn];rfl) (s1.trans s2) hq
theorem XU (F:RnF K t) (R:RnAt t H x a C s) (h2:s.no.length≤900) (h3:(s.no.map (·.1)).Nodup) (h4:s.gi.length≤63) (q1:∀ H',yq C s=false→Same H H'→Q .non H')
  (q2:∀ r o nl gl out H',yq C s=true→Same H H'→H nl=none→H gl=none→nl≠gl→H' r=some (.tup [o,.ref nl,.ref gl])→Xf H' o (ZM s)→yk H' nl s.no→yk H' gl out→w4 s out→Q (.ref r) H') :
  jJ K t { nx:=fun _ H'=>Q .non H',rt:=Q } (L2.start ["self","notes"] [.ref x]) H:=by
 simp only [jJ,yG,yu,L2.start,zn,zA,zB,zc,tC,zh,zK,vC,tB,b7,bw,bG,bI,bQ,bq,ba,bf,exists_eq_left',V.ref.injEq,V.bl.injEq,bn,and_true,exists_and_left,bL,bE,b0]
 refine ⟨_,_,R.ix,rfl,a,C,s,R,fun H1 s1=>?_⟩
 have R1:=R.same s1
 cases ho:yq C s with
 | false=>rw [if_pos rfl];exact q1 H1 ho s1
 | true =>
  rw [if_neg (by decide)]
  simp only [kD,kC,zfg,yJ,ZF,zbA,Jk,zn,zF,zm,zA,zB,tOp,zc,tC,yK,yt,zb,zh,zK,zv,tCB,Qb,bG,ba,bb,bf,exists_eq_left',V.ref.injEq,V.bl.injEq,bn,and_true,true_and,exists_and_left,br,bu,bE,b0,decide_eq_false_iff_not]
  refine ⟨_,_,_,R1.ix,F.cl,F.n6,_,rfl,_,rfl,_,R1.hn,fun r hr=>⟨a.no,ze,dOf s.no,(by rw [zj (zJ R1.hn hr)];exact R1.hn),(by have:=x9 s.no;lia),fun l ys H2 s2 fl hl pr=>?_⟩⟩
  have sv:=isV (o:=j8 r a.no) r hr
  have S2:=sv.trans s2
  have R2:=R1.same S2
  have nl:H l=none:=zH (s1.trans sv) fl
  rw [zeE h3] at pr
  have pn:=zbE pr
  refine ⟨_,_,_,R2.ix,F.cl,F.n3,_,rfl,?_⟩
  cases hw:s.why with
  | some w =>
   rw [if_pos (fun z=>nomatch z)]
   refine ⟨_,_,_,R2.ix,F.cl,F.n3,_,rfl,by decide,fun p hp=>⟨by decide,fun g hg=>⟨by decide,fun r2 hr2=>?_⟩⟩⟩
   rw [hw]
   rw [hw] at hg hr2
   have t1:=isV (o:=HO.tup [V.str (bg "off"),zfj (some w)]) p hp
   have t2:=isV (o:=HO.lst []) g hg
   have t3:=isV (o:=HO.tup [V.ref p,V.ref l,V.ref g]) r2 hr2
   have T3:=t1.trans (t2.trans t3)
   refine q2 r2 (.ref p) l g [] _ ho (s1.trans (S2.trans T3)) nl (zH (s1.trans (S2.trans t1)) hg) (fun z=>by rw [← z,t1 _ _ hl] at hg;cases hg) ze ?_ ⟨ys,T3 _ _ hl,Zs T3 pn⟩ ⟨[],t3 _ _ ze,.nil⟩ ?_
   ·unfold ZM;rw [hw];exact ⟨p,rfl,(t2.trans t3) _ _ ze⟩
   ·unfold w4;rw [hw]
  | none =>
   rw [if_neg (fun z=>z rfl)]
   refine ⟨_,_,_,R2.ix,F.cl,F.n7,_,rfl,_,rfl,_,.inl ⟨SqL.of R2.ha,fun y hy=>⟨by decide,fun p hp=>?_⟩⟩⟩
   have t1:=isV (o:=HO.tup (b7 V.int s.sa)) y hy
   have t2:=isV (o:=HO.tup [V.str (bg "done"),V.ref y]) p hp
   have R3:=R2.same (t1.trans t2)
   have ly:=t2 _ _ (ze (H:=H2) (a:=y) (o:=HO.tup (b7 V.int s.sa)))
   have lp:upd (upd H2 y (HO.tup (b7 V.int s.sa))) p (HO.tup [V.str (bg "done"),V.ref y]) p=some (HO.tup [V.str (bg "done"),V.ref y]):=ze
   have T2:=t1.trans t2
   generalize upd (upd H2 y (HO.tup (b7 V.int s.sa))) p (HO.tup [V.str (bg "done"),V.ref y])=H3 at *
   refine ⟨_,_,_,R3.ix,F.cl,F.n5,_,rfl,_,rfl,_,R3.hg,fun r3 hr3=>⟨a.gi,ze,s.gi,(by rw [zj (zJ R3.hg hr3)];exact R3.hg),(by have:=x9 s.gi;lia),fun g zs srt H4 s4 fg hg ps ri mi=>⟨by decide,fun r2 hr2=>?_⟩⟩⟩
   have t3:=(isV (o:=j8 r3 a.gi) r3 hr3).trans s4
   have t5:=isV (o:=HO.tup [V.ref p,V.ref l,V.ref g]) r2 hr2
   have T5:=t3.trans t5
   have fg3:H3 g=none:=zH (isV (o:=j8 r3 a.gi) r3 hr3) fg
   refine q2 r2 (.ref p) l g srt _ ho (s1.trans (S2.trans (T2.trans T5))) nl (zH (s1.trans (S2.trans T2)) fg3) (fun z=>by rw [← z,T2 _ _ hl] at fg3;cases fg3) ze ?_ ⟨ys,(T2.trans T5) _ _ hl,Zs (T2.trans T5) pn⟩ ⟨zs,t5 _ _ hg,Zs t5 ps⟩ ?_
   ·unfold ZM;rw [hw];exact ⟨p,y,rfl,T5 _ _ lp,T5 _ _ ly⟩
   ·unfold w4;rw [hw];exact ⟨ri,mi⟩
end
theorem zb4 (p:Pl) (w:Int) (s:RSt):(xH p w s).sl=s.sl:=by unfold xH;split <;> rfl
theorem zdr (p:Pl) (w:Int) (s:RSt):(xH p w s).n=s.n:=by unfold xH;split <;> rfl
theorem zfn {r:Rw} {w:Int} {s s':RSt} (h:ki r) (e:doR r w s=.ok s'):s'.n=s.n:=by
 cases r with
 | take sh e' x =>
  cases hk:rk s.sl e' with
  | error er=>simp only [doR,hk] at e;cases e
  | ok n=>simp only [doR,hk] at e;cases e;exact zdr _ _ _
 | give sh e' f =>
  cases hk:rk s.sl e' with
  | error er=>simp only [doR,hk] at e;cases e
  | ok n =>
   cases hk2:rk s.sl f with
   | error er=>simp only [doR,hk,hk2] at e;cases e
   | ok i=>simp only [doR,hk,hk2] at e;cases e;rfl
 | lt x e' =>
  cases hk:rk s.sl e' with
  | error er=>simp only [doR,hk] at e;cases e
  | ok n=>simp only [doR,hk] at e;cases e;rfl
 | say e' =>
  cases hk:rk s.sl e' with
  | error er=>simp only [doR,hk] at e;cases e
  | ok n=>simp only [doR,hk] at e;cases e;rfl
 | off e'=>exact h.elim
 | iff e' b d=>exact h.elim
theorem JD {r:Rw} {w:Int} {s:RSt} (h:ki r):yM (.row r) w s=match doR r w s with
  | .error er=>.error er
  | .ok s'=>.ok (s.n + 1,s'):=by
 cases r with
 | off e'=>exact h.elim
 | iff e' b d=>exact h.elim
 | take sh e' x=>rfl
 | give sh e' f=>rfl
 | lt x e'=>rfl
 | say e'=>rfl
theorem zds (r:Rw) (h:zao r):(∃ e,r=.off e)∨ki r:=by
 cases r with
 | off e'=>exact .inl ⟨e',rfl⟩
 | iff e' b d=>exact h.elim
 | take sh e' x=>exact .inr trivial
 | give sh e' f=>exact .inr trivial
 | lt x e'=>exact .inr trivial
 | say e'=>exact .inr trivial
theorem zdt {F:Addr→Prop} {v:V} {r:Rw} (h:RwAt F H v r) (d:ki r):∃ p xs hd,v=.ref p∧H p=some (.tup xs)∧atI xs 0=some (.str hd)∧hd≠bg "go"∧hd≠bg "skip"∧hd≠bg "off":=by
 cases r with
 | take sh e sl=>unfold RwAt at h;obtain ⟨r,te,rfl,_,_,e2,e3⟩:=h;exact ⟨r,_,_,rfl,e2,rfl,by decide +kernel,by decide +kernel,by decide +kernel⟩
 | give sh e f=>unfold RwAt at h;obtain ⟨r,te,tf,rfl,_,_,_,e2,e3⟩:=h;exact ⟨r,_,_,rfl,e2,rfl,by decide +kernel,by decide +kernel,by decide +kernel⟩
 | lt sl e=>unfold RwAt at h;obtain ⟨r,te,rfl,_,_,e2,e3⟩:=h;exact ⟨r,_,_,rfl,e2,rfl,by decide +kernel,by decide +kernel,by decide +kernel⟩
 | say e=>unfold RwAt at h;obtain ⟨r,te,rfl,_,_,e2,e3⟩:=h;exact ⟨r,_,_,rfl,e2,rfl,by decide +kernel,by decide +kernel,by decide +kernel⟩
 | off e=>exact d.elim
 | iff e a b=>exact d.elim
section
variable {x:Addr} {a:RAd} {C:List Cs} {s:RSt} {E:XK}
theorem Vu {v:V} {r:Rw} {w:Int} {m:Nat} (F:RnF K t) (R:RnAt t H x a C s) (h1:RwAt XL H v r) (h2:ki r) (h3:j7 r) (h4:RnOk m s) (h5:m≤900)
  (q1:∀ H' s',doR r w s=.ok s'→Kp x a H H'→RnAt t H' x a C s'→Q .non H') (q2:∀ H' er,doR r w s=.error er→Same H H'→Kz t er E H') :
  xy K t E { nx:=fun _ H'=>Q .non H',rt:=Q } (L2.start ["self","due","worth","place"] [.ref x,v,.int w]) H:=by
 have l1:=h4.l1
 have l2:=h4.l2
 have l4:=h4.l4
 have so:=h4.so
 cases r with
 | take sh e sl' =>
  unfold RwAt at h1
  unfold j7 at h3
  obtain ⟨r,te,rfl,_,_,e2,e3⟩:=h1
  simp only [xy,L2.start,zI,tOp,zc,tC,zK,zv,zI,rEq,xq,b7,bw,bG,bI,bQ,ba,bb,bf,exists_eq_left',V.int.injEq,V.ref.injEq,V.bl.injEq,exists_and_left,bL,bE,decide_eq_true_eq]
  refine ⟨_,SqT.of e2,_,rfl,rfl,?_⟩
  rw [if_pos rfl]
  simp only [qq,ym,jC,wf,yJ,yu,zI,tOp,zc,tC,zb,zh,zI,bq,ba,bb,bf,exists_eq_left',V.int.injEq,V.ref.injEq,bn,and_true,and_assoc,exists_and_left]
  refine ⟨_,_,R.ix,rfl,_,_,R.ix,rfl,_,sh,te,e,a,C,s,R,so,e2,rfl,rfl,e3,h3,fun i q H1 hk s1 hq=>?_,fun er H1 hk s1=>q2 H1 er (by unfold doR;simp only [hk]) s1⟩
  have R1:=R.same s1
  refine ⟨(sh,i),a,C,s,R1,hq,by have:=h4.l3;lia,fun H2 K2 R2=>?_⟩
  have hs2:=R2.hs
  rw [zb4] at hs2
  exact ⟨_,_,_,R2.ix,F.cl,F.n4,_,rfl,_,SqT.of (K2 _ _ (R1.notup (s1 _ _ e2)) (s1 _ _ e2)),_,rfl,_,rfl,_,DPut.k (k:=.inr sl') hs2 (b9 (by lia:_≤900) (by decide)),q1 _ _ (by unfold doR;simp only [hk]) ((Kp.of_same s1).trans (K2.trans (xW (.inr (.inl rfl))))) (R2.putS _)⟩
 | give sh e f =>
  unfold RwAt at h1
  unfold j7 at h3
  obtain ⟨r,te,tf,rfl,_,_,_,e2,e3,e4⟩:=h1
  simp only [xy,L2.start,zI,tOp,zc,tC,zK,zv,zI,rEq,xq,b7,bw,bG,bI,bQ,ba,bb,bf,exists_eq_left',V.int.injEq,V.ref.injEq,V.bl.injEq,exists_and_left,bL,bE,decide_eq_true_eq]
  refine ⟨_,SqT.of e2,_,rfl,rfl,?_⟩
  rw [if_neg (by decide)]
  refine ⟨_,SqT.of e2,_,rfl,rfl,?_⟩
  rw [if_pos rfl]
  simp only [qp,zO,ym,wf,yJ,yu,zI,zn,zF,zm,tOp,zc,tC,zb,zh,zI,bq,ba,bb,bf,exists_eq_left',V.int.injEq,V.ref.injEq,bn,and_true,and_assoc,exists_and_left,br,bu]
  refine ⟨_,_,R.ix,rfl,_,sh,te,e,a,C,s,R,so,e2,rfl,rfl,e3,h3.1,fun i q H1 hk s1 hq=>?_,fun er H1 hk s1=>q2 H1 er (by unfold doR;simp only [hk]) s1⟩
  have R1:=R.same s1
  refine ⟨_,_,R1.ix,rfl,_,SqT.of (s1 _ _ e2),_,rfl,_,rfl,f,a,C,s,R1,so,s1 _ _ e4,h3.2,fun H3 s3=>?_⟩
  cases hk2:rk s.sl f with
  | error er=>exact fin_err.mpr (q2 H3 er (by unfold doR;simp only [hk,hk2]) (s1.trans s3))
  | ok n =>
   have R3:=R1.same s3
   have ld:=x9 s.gi
   refine fin_ok.mpr ⟨_,_,_,R3.ix,F.cl,F.n5,_,rfl,_,rfl,_,DPut.t (k:=zM (sh,i)) R3.hg (s3 _ _ hq) (b9 (by lia:_≤900) (by decide)),?_⟩
   rw [show yT (dOf s.gi) (zM (sh,i)) (V.int n)=dOf (s.gi ++ [((sh,i),n)]) from (jd s.gi ((sh,i),n)).symm]
   exact q1 _ _ (by unfold doR;simp only [hk,hk2]) ((Kp.of_same (s1.trans s3)).trans (xW (.inr (.inr (.inl rfl))))) (R3.putG _)
 | lt sl' e =>
  unfold RwAt at h1
  unfold j7 at h3
  obtain ⟨r,te,rfl,_,_,e2,e3⟩:=h1
  simp only [xy,L2.start,zI,tOp,zc,tC,zK,zv,zI,rEq,xq,b7,bw,bG,bI,bQ,ba,bb,bf,exists_eq_left',V.int.injEq,V.ref.injEq,V.bl.injEq,exists_and_left,bL,bE,decide_eq_true_eq]
  refine ⟨_,SqT.of e2,_,rfl,rfl,?_⟩
  rw [if_neg (by decide)]
  refine ⟨_,SqT.of e2,_,rfl,rfl,?_⟩
  rw [if_neg (by decide)]
  refine ⟨_,SqT.of e2,_,rfl,rfl,?_⟩
  rw [if_pos rfl]
  simp only [ql,zO,wf,yJ,yu,zI,tOp,zc,tC,zb,zh,zI,bq,ba,bb,bf,exists_eq_left',V.int.injEq,V.ref.injEq,bn,and_true,and_assoc,exists_and_left]
  refine ⟨_,_,R.ix,rfl,_,SqT.of e2,_,rfl,_,rfl,e,a,C,s,R,so,e3,h3,fun H1 s1=>?_⟩
  cases hk:rk s.sl e with
  | error er=>exact fin_err.mpr (q2 H1 er (by unfold doR;simp only [hk]) s1)
  | ok n =>
   have R2:=R.same s1
   exact fin_ok.mpr ⟨_,_,_,R2.ix,F.cl,F.n4,_,rfl,_,SqT.of (s1 _ _ e2),_,rfl,_,rfl,_,DPut.k (k:=.inr sl') R2.hs (b9 (by lia:_≤900) (by decide)),q1 _ _ (by unfold doR;simp only [hk]) ((Kp.of_same s1).trans (xW (.inr (.inl rfl)))) (R2.putS _)⟩
 | say e =>
  unfold RwAt at h1
  unfold j7 at h3
  obtain ⟨r,te,rfl,_,_,e2,e3⟩:=h1
  simp only [xy,L2.start,zI,tOp,zc,tC,zK,zv,zI,rEq,xq,b7,bw,bG,bI,bQ,ba,bb,bf,exists_eq_left',V.int.injEq,V.ref.injEq,V.bl.injEq,exists_and_left,bL,bE,decide_eq_true_eq]
  refine ⟨_,SqT.of e2,_,rfl,rfl,?_⟩
  rw [if_neg (by decide)]
  refine ⟨_,SqT.of e2,_,rfl,rfl,?_⟩
  rw [if_neg (by decide)]
  refine ⟨_,SqT.of e2,_,rfl,rfl,?_⟩
  rw [if_neg (by decide)]
  simp only [qo,zO,yJ,yu,yd,vh,zI,xi,tOp,zc,tC,zb,zh,tBM,tyV,zI,bq,ba,bb,bf,exists_eq_left',V.int.injEq,V.ref.injEq,bn,and_true,true_and,and_assoc,exists_and_left]
  refine ⟨_,_,_,R.ix,F.cl,F.n7,_,rfl,.inl ⟨_,SqL.of R.ha⟩,_,_,R.ix,rfl,_,SqT.of e2,_,rfl,_,rfl,e,a,C,s,R,so,e3,h3,fun H1 s1=>?_⟩
  cases hk:rk s.sl e with
  | error er=>exact fin_err.mpr (q2 H1 er (by unfold doR;simp only [hk]) s1)
  | ok n =>
   have R1:=R.same s1
   refine fin_ok.mpr ⟨_,rfl,_,R1.ha,b9 (by rw [bt];lia:_≤900) (by decide),?_⟩
   rw [show b7 V.int s.sa ++ [V.int n]=b7 V.int (s.sa ++ [n]) by simp]
   exact q1 _ _ (by unfold doR;simp only [hk]) ((Kp.of_same s1).trans (xW (.inr (.inr (.inr (.inr rfl)))))) (R1.putA _)
 | off e=>exact h2.elim
 | iff e b d=>exact h2.elim
theorem Xn {v:V} {c:Cs} {w:Int} {m:Nat} (F:RnF K t) (R:RnAt t H x a C s) (h1:CsAt H v c) (h2:Yq c) (h3:RnOk m s) (h4:m≤900)
  (q1:∀ H' s' k,yM c w s=.ok (k,s')→Kp x a H H'→RnAt t H' x a C s'→Q (.int (k:Nat)) H') (q2:∀ H' er,yM c w s=.error er→Same H H'→Kz t er E H') :
  y0 K t E { nx:=fun _ H'=>Q .non H',rt:=Q } (L2.start ["self","due","worth"] [.ref x,v,.int w]) H:=by
 have so:=h3.so
 cases c with
 | go en =>
  obtain ⟨p,rfl,e2⟩:=h1
  simp only [y0,L2.start,zI,zn,zA,zB,tOp,zc,tC,zK,zv,zI,rEq,xq,b7,bw,bG,bq,ba,bb,bf,exists_eq_left',V.int.injEq,V.ref.injEq,V.bl.injEq,exists_and_left,bL,bE,decide_eq_true_eq]
  refine ⟨_,SqT.of e2,_,rfl,rfl,?_⟩
  rw [if_pos rfl]
  exact ⟨_,SqT.of e2,_,rfl,q1 H s en rfl (.of_same fun _ _ z=>z) R⟩
 | skip e to =>
  obtain ⟨p,te,rfl,e2,e3⟩:=h1
  simp only [y0,L2.start,zI,zn,zA,zB,tOp,zc,tC,zK,zv,zI,rEq,xq,b7,bw,bG,bq,ba,bb,bf,exists_eq_left',V.int.injEq,V.ref.injEq,V.bl.injEq,exists_and_left,bL,bE,decide_eq_true_eq]
  refine ⟨_,SqT.of e2,_,rfl,rfl,?_⟩
  rw [if_neg (by decide)]
  simp only [xp,zI,zn,zB,tOp,zc,tC,zK,zv,zI,rEq,xq,ba,bb,bf,exists_eq_left',V.int.injEq,V.ref.injEq,V.bl.injEq,exists_and_left,decide_eq_true_eq]
  refine ⟨_,SqT.of e2,_,rfl,rfl,?_⟩
  rw [if_pos rfl]
  simp only [jT,zO,yJ,yu,zI,zA,tOp,zc,tC,zb,zh,zv,tIf,zI,rEq,rI0,xq,bq,ba,bb,bf,exists_eq_left',V.int.injEq,V.ref.injEq,V.bl.injEq,bn,and_true,and_assoc,exists_and_left,decide_eq_true_eq]
  refine ⟨_,_,R.ix,rfl,_,SqT.of e2,_,rfl,_,rfl,e,a,C,s,R,so,e3,h2,fun H1 s1=>?_⟩
  cases hk:rk s.sl e with
  | error er=>exact fin_err.mpr (q2 H1 er (by unfold yM;simp only [hk]) s1)
  | ok n =>
   have R2:=R.same s1
   refine fin_ok.mpr ⟨rfl,?_⟩
   by_cases hn:n=0
   ·rw [if_pos (congrArg V.int hn)]
    exact ⟨_,SqT.of (s1 _ _ e2),_,rfl,q1 H1 s to (by unfold yM;simp only [hk,if_pos hn]) (.of_same s1) R2⟩
   ·rw [if_neg (fun z=>hn (V.int.inj z))]
    exact ⟨_,_,_,R2.ix,F.cl,F.n2,_,rfl,_,rfl,q1 H1 s (s.n + 1) (by unfold yM;simp only [hk,if_neg hn]) (.of_same s1) R2⟩
 | row r =>
  obtain ⟨h1,hni⟩:=h1
  rcases zds r hni with ⟨e,rfl⟩ | hdo
  ·unfold RwAt at h1
   unfold Yq j7 at h2
   obtain ⟨r,te,rfl,_,_,e2,e3⟩:=h1
   simp only [y0,L2.start,zI,zn,zA,zB,tOp,zc,tC,zK,zv,zI,rEq,xq,b7,bw,bG,bq,ba,bb,bf,exists_eq_left',V.int.injEq,V.ref.injEq,V.bl.injEq,exists_and_left,bL,bE,decide_eq_true_eq]
   refine ⟨_,SqT.of e2,_,rfl,rfl,?_⟩
   rw [if_neg (by decide)]
   simp only [xp,zI,zn,zB,tOp,zc,tC,zK,zv,zI,rEq,xq,ba,bb,bf,exists_eq_left',V.int.injEq,V.ref.injEq,V.bl.injEq,exists_and_left,decide_eq_true_eq]
   refine ⟨_,SqT.of e2,_,rfl,rfl,?_⟩
   rw [if_neg (by decide)]
   simp only [wE,zI,zn,tOp,zc,tC,zK,zv,zI,rEq,xq,ba,bb,bf,exists_eq_left',V.int.injEq,V.ref.injEq,V.bl.injEq,exists_and_left,decide_eq_true_eq]
   refine ⟨_,SqT.of e2,_,rfl,rfl,?_⟩
   rw [if_pos rfl]
   simp only [jR,zO,yJ,qz,yu,zI,zA,zB,tOp,zc,tC,zb,zh,zK,zv,zI,rNe,rI0,xq,bq,ba,bb,bf,exists_eq_left',V.int.injEq,V.ref.injEq,V.bl.injEq,bn,and_true,and_assoc,exists_and_left,b0,decide_eq_false_iff_not]
   refine ⟨_,_,R.ix,rfl,_,SqT.of e2,_,rfl,_,rfl,e,a,C,s,R,so,e3,h2,fun H1 s1=>?_⟩
   cases hk:rk s.sl e with
   | error er=>exact fin_err.mpr (q2 H1 er (by unfold yM;simp only [hk]) s1)
   | ok n =>
    have R2:=R.same s1
    refine fin_ok.mpr ⟨rfl,?_⟩
    by_cases hn:n=0
    ·rw [if_neg (fun z=>z (congrArg V.int hn))]
     exact ⟨_,_,_,R2.ix,F.cl,F.n2,_,rfl,_,rfl,q1 H1 s (s.n + 1) (by unfold yM;simp only [hk,if_pos hn]) (.of_same s1) R2⟩
    ·rw [if_pos (fun z=>hn (V.int.inj z))]
     have R3:=R2.putI { s with why:=some (bg "told") } rfl rfl rfl rfl
     refine ⟨_,_,_,R2.ix,F.cl,F.n3,(by show (7:Nat) < 1000;decide),_,_,_,R3.ix,F.cl,F.n2,_,rfl,_,rfl,?_⟩
     exact q1 _ { s with why:=some (bg "told") } (s.n + 1) (by unfold yM;simp only [hk,if_neg hn]) ((Kp.of_same s1).trans (xW (.inl rfl))) R3
  ·obtain ⟨p,zs,hd,rfl,e2,e3,n1,n2,n3⟩:=zdt h1 hdo
   have el:=JD (w:=w) (s:=s) hdo
   simp only [y0,L2.start,zI,zn,zA,zB,tOp,zc,tC,zK,zv,zI,rEq,xq,b7,bw,bG,bq,ba,bb,bf,exists_eq_left',V.int.injEq,V.ref.injEq,V.bl.injEq,exists_and_left,bL,bE,decide_eq_true_eq]
   refine ⟨_,SqT.of e2,_,e3,rfl,?_⟩
   rw [if_neg (fun z=>n1 (V.str.inj z))]
   simp only [xp,zI,zn,zB,tOp,zc,tC,zK,zv,zI,rEq,xq,ba,bb,bf,exists_eq_left',V.int.injEq,V.ref.injEq,V.bl.injEq,exists_and_left,decide_eq_true_eq]
   refine ⟨_,SqT.of e2,_,e3,rfl,?_⟩
   rw [if_neg (fun z=>n2 (V.str.inj z))]
   simp only [wE,zI,zn,tOp,zc,tC,zK,zv,zI,rEq,xq,ba,bb,bf,exists_eq_left',V.int.injEq,V.ref.injEq,V.bl.injEq,exists_and_left,decide_eq_true_eq]
   refine ⟨_,SqT.of e2,_,e3,rfl,?_⟩
   rw [if_neg (fun z=>n3 (V.str.inj z))]
   simp only [jS,ko,yJ,yu,zA,xi,tOp,zc,tC,zb,zh,rI0,bq,ba,bb,bf,exists_eq_left',V.int.injEq,V.ref.injEq,bn,and_true,and_assoc,exists_and_left]
   refine ⟨_,_,R.ix,rfl,r,m,a,C,s,R,h1,hdo,h2,h3,h4,fun H1 s' e K1 R1=>?_,fun H1 er e s1=>q2 H1 er (by rw [el,e]) s1⟩
   have en:=zfn hdo e
   refine ⟨_,_,_,R1.ix,F.cl,F.n2,_,rfl,_,rfl,?_⟩
   exact q1 H1 s' (s'.n + 1) (by rw [el,e,en]) K1 R1
end
theorem jN {x:Str} (h:yf x=true):b6 x=true:=(zbf h).flat
def WC (H H':Hp):Prop:=∀ b ys,H b=some (.tup ys)→H' b=some (.tup ys)
theorem Same.ts {H H':Hp} (s:Same H H'):WC H H':=fun b ys e=>s _ _ e
theorem Xo {J:It} {D:Addr} {τ₀:St} {H1:Hp} {Q:Hp→Prop} {B:V→St→Hp→(V→St→Hp→Prop)→(St→Hp→Prop)→Prop} (n:Nat) (hn:n≤1000000) (C:St→Prop) (R:Nat→List V→Hp→Prop) (hm:∀ i ys H H',WC H H'→R i ys H→R i ys H') (hC:C τ₀) (h0:R 0 [] H1)
  (go:∀ i H,Same H1 H→i < n→J.go i H) (stop:∀ H,Same H1 H→J.stop n H) (hD:H1 D=none)
  (hs:∀ i x τ ys H H',C τ→Same H1 H→i < n→R i ys H→J.yld i H x H'→B x τ H' (fun v τ' H4=>C τ'∧R (i + 1) (ys ++ [v]) H4∧Same H H4) (fun τ' H4=>C τ'∧R (i + 1) ys H4∧Same H H4))
  (hd:∀ ys H,ys.length≤n→R n ys H→Same H1 H→H D=some (.lst ys)→Q H) :
  ∃ W:Nat→Nat→List V→St→Hp→Prop,(∃ m,W 0 m [] τ₀ (upd H1 D (.lst [])))∧∀ i m ys τ H,W i m ys τ H→H D=some (.lst ys) ∧
  ((J.stop i H∧Q H)∨(J.go i H∧ys.length < sizeLine∧∃ N:V→St→Hp→Prop,
   (∀ v τ' H',N v τ' H'→H' D=some (.lst ys)∧∃ m',m' < m∧W (i + 1) m' (ys ++ [v]) τ' (upd H' D (.lst (ys ++ [v]))))∧∃ Nf:St→Hp→Prop,(∀ τ' H',Nf τ' H'→∃ m',m' < m∧W (i + 1) m' ys τ' H') ∧
   ∀ x H',J.yld i H x H'→B x τ H' N Nf)):=by
 have ext:∀ {H:Hp} {o:HO},Same H1 H→Same H1 (upd H D o):=fun {H o} h b u e=>by
  rw [zj (zJ e hD)];exact h b u e
 refine ⟨fun i m ys τ H=>m=n - i∧i≤n∧ys.length≤i∧R i ys H∧Same H1 H∧H D=some (.lst ys)∧C τ,⟨n,by simp,b8 _,bo _,hm _ _ _ _ (Same.ts (ext (Same.refl _))) h0,ext (Same.refl _),ze,hC⟩,?_⟩
 rintro i m ys τ H ⟨rfl,hi,hl,hR,hS,hy,hc⟩
 refine ⟨hy,?_⟩
 by_cases hlt:i < n
 ·refine .inr ⟨go i H hS hlt,b9 (by lia:ys.length≤1000000) (by decide),_,?_,_,?_,fun x H' y=>hs i x τ ys H H' hc hS hlt hR y⟩
  ·rintro v τ' H4 ⟨c4,r4,s4⟩
   have y4:=s4 _ _ hy
   exact ⟨y4,n - (i + 1),by lia,rfl,hlt,by simp;lia,hm _ _ _ _ (fun b zs e=>by rw [zj (yQ e y4 (by simp))];exact e) r4,ext (hS.trans s4),ze,c4⟩
  ·rintro τ' H4 ⟨c4,r4,s4⟩
   exact ⟨n - (i + 1),by lia,rfl,hlt,by lia,r4,hS.trans s4,s4 _ _ hy,c4⟩
 ·obtain rfl:i=n:=by lia
  exact .inl ⟨stop H hS,hd ys H hl hR hS hy⟩
def wp (P:Nat→Bool) (x:Str):Prop:=x.cps.toList.all P=true
theorem vf {P:Nat→Bool} {x y:Str} (h:wp P x) (h':wp P y):wp P (x ++ y):=by
 unfold wp at *
 rw [zcX,List.all_append,h,h'];rfl
theorem kP {P:Nat→Bool} {c:Nat} (h:P c=true):wp P ⟨#[c]⟩:=by
 show [c].all P=true
 rw [fO,h];rfl
theorem QB {P:Nat→Bool} {x:Str} (h:wp P x) (k:Nat):wp P (fm x none (some (k:Int))):=by
 unfold wp at *
 rw [V1]
 rw [dm] at *
 exact fun c hc=>h c (mQ hc)
theorem WD {P:Nat→Bool} {x:Str} (h:wp P x) (k:Nat):wp P (fm x (some (k:Int)) none):=by
 unfold wp at *
 rw [YV]
 rw [dm] at *
 exact fun c hc=>h c (mP hc)
theorem zb5 (x:Str) (k:Nat) (h:k≤x.length):(fm x none (some (k:Int))).length=k:=by
 rw [Yx] at *
 rw [V1,cM];lia
theorem JE (x:Str) (k:Nat):(fm x (some (k:Int)) none).length=x.length - k:=by
 rw [Yx,Yx,YV,cN]
def inC (c:Nat):Bool:=(bg "zyxwvtsrqpnmlkjhgfdcb").cps.toList.contains c
theorem zfo:∀ c∈(bg "zyxwvtsrqpnmlkjhgfdcb").cps.toList,inL c=true:=by decide +kernel
theorem zfp:∀ c∈(bg "zyxwvtsrqpnmlkjhgfdcb").cps.toList,inC c=true:=fun c hc=>by unfold inC;exact List.contains_iff_mem.mpr hc
theorem zfB:∀ c∈(bg "zyxwvutsrqponmlkjihgfedcba").cps.toList,inL c=true:=by decide +kernel
theorem zaq:∀ v∈jw ++ wl,(match v with | .str w=>decide (w.length≠6) && !(w.cps.toList.all inC) | _=>true)=true:=by decide +kernel
theorem zdu {x:Str} (h:x.length=6∨wp inC x):(inV (.str x) jw || inV (.str x) wl)=false:=by
 have key:∀ v∈jw ++ wl,eqV v (.str x)=false:=fun v hv=>by
  have w:=zaq v hv
  cases e:eqV v (.str x) with
  | false=>rfl
  | true =>
   cases v <;> simp only [eqV,cb] at e
   rename_i y
   have e':y=x:=by simpa using e
   subst e'
   simp only [bX,decide_eq_true_eq,b0] at w
   rcases h with h | h
   ·exact absurd h w.1
   ·unfold wp at h;rw [h] at w;exact absurd w.2 (by decide)
 rw [iq]
 unfold inV
 constructor
 ·rw [lq]
  exact fun v hv=>by rw [key v (dh _ hv)];decide
 ·rw [lq]
  exact fun v hv=>by rw [key v (bY _ hv)];decide
theorem qa {x:Str} (h1:1≤x.length) (h2:x.length≤6) (h3:(x.length=6∧wp inL x)∨wp inC x):yf x=true:=by
 have nw:(inV (.str x) jw || inV (.str x) wl)=false:=zdu (h3.imp (·.1) id)
 have al:x.cps.toList.all inL=true:=by
  rcases h3 with h | h
  ·exact h.2
  ·unfold wp at h
   rw [dm] at *
   exact fun c hc=>zfo c (List.contains_iff_mem.mp (h c hc))
 have ne:decide (x="")=false:=decide_eq_false fun z=>by rw [z] at h1;exact absurd h1 (by decide)
 have nl:decide (6 < x.length)=false:=decide_eq_false (by lia)
 unfold yf
 rw [nw,al,ne,nl];rfl
structure Sgn (P:Nat→Bool) (sz:Nat) (sg:Str):Prop where
 al:wp P sg
 lo:21≤sg.length
 hi:sg.length≤26
 s1:1≤sz
 s6:sz≤6
 nm:∀ x:Str,x.length=sz→wp P x→yf x=true
theorem zb6 {P:Nat→Bool} {sz:Nat} {sg:Str} (S:Sgn P sz sg) {i:Int} (h0:0≤i) (h1:i < sg.length):∃ c,atI sg.cps.toList i=some c∧P c=true:=by
 obtain ⟨c,hc,hm⟩:=Qz (xs:=sg.cps.toList) (i:=i) h0 (by rw [← Yx];exact h1)
 exact ⟨c,hc,dm.mp S.al c hm⟩
theorem Vv {P:Str→Prop}:∀ {ys:List V},(∀ v∈ys,∃ x,v=.str x∧P x)→∃ ls:List Str,ys=ls.map V.str∧∀ x∈ls,P x
 | [],_=>⟨[],rfl,fun _ z=>nomatch z⟩
 | v :: r,h=>by
  obtain ⟨x,rfl,px⟩:=h v bF
  obtain ⟨ls,rfl,pl⟩:=Vv (ys:=r) fun u hu=>h u (bB _ hu)
  exact ⟨x :: ls,rfl,fun y hy=>by
   rcases bR.mp hy with rfl | hy
   ·exact px
   ·exact pl y hy⟩
def nmV (v:V):Prop:=∃ x:Str,v=.str x∧yf x=true
theorem zdv {P:Nat→Bool} {sz:Nat} {sg stem:Str} {c m tn:Int} {o5:Option V} {at_:Nat} (S:Sgn P sz sg) (hs:stem.length=sz) (hp:wp P stem) (ha:at_ < sz) (h1:0≤m) (h2:m≤6) (q:∀ nm ws H',Same H H'→NamesAt H' nm ws→(ws.length:Int)=m→Q (.ref nm) H') :
  wu K t { nx:=fun _ H'=>Q .non H',rt:=Q } [some (.int c),some (.int m),some (.int sz),some (.str sg),some (.str stem),o5,some (.int at_),some (.int tn)] H:=by
 simp only [wu,zm,zA,tOp,zc,tC,zb,zh,tSl,yR,ya,xM,Yi,Yh,vg,WS,rI0,Ke,jQ,b7,bw,bI,bQ,ba,bb,bf,exists_eq_left',V.int.injEq,V.str.injEq,bn,and_true,exists_and_left,eK,fi,if_true]
 have lo:=S.lo
 have hi:=S.hi
 have s6:=S.s6
 refine ⟨by lia,by lia,fun D hD=>?_⟩
 refine V0 (J:=Itr 0 m.toNat) m.toNat (by lia) (fun τ=>∃ o,τ=[o,some (.str stem),some (.int (at_:Int)),some (.str sg)]) (fun i v=>nmV v) ⟨_,rfl⟩ (fun i H _ h=>h) (fun H _=>bo _) hD ?_ ?_
 ·rintro i v τ H2 H' ⟨o,rfl⟩ s hi ⟨rfl,rfl⟩
  simp only [ba,bb,bf,exists_eq_left',V.int.injEq,V.str.injEq,bn,and_true,br]
  obtain ⟨d,hd,hP⟩:=zb6 S (i:=0 + (i:Int)) (by lia) (by lia)
  have l1:=zb5 stem at_ (by lia)
  have l2:=JE stem (at_ + 1)
  have p1:=QB hp at_
  have p2:=WD hp (at_ + 1)
  rw [show ((at_ + 1:Nat):Int)=(at_:Int) + 1 by lia] at l2 p2
  exact ⟨zU (by lia),zU (by lia),d,hd,zU (by rw [wc];lia),zU (by lia),zU (by rw [xE,wc];lia),⟨_,rfl⟩,⟨_,rfl,S.nm _ (by rw [xE,xE,wc];lia) (vf (vf p1 (kP hP)) p2)⟩,Same.refl _⟩
 ·intro ys H' hly hv s hq
  obtain ⟨ls,rfl,hp⟩:=Vv (P:=fun x=>yf x=true) (ys:=ys) fun v hv2=>by
   obtain ⟨i,hi⟩:=dQ hv2
   exact hv i v hi
  rw [bt] at hly
  exact q D ls H' s ⟨hq,hp⟩ (by lia)
theorem zdw {P:Nat→Bool} {sz:Nat} {sg stem:Str} {c m:Int} {o5:Option V} (S:Sgn P sz sg) (hs:stem.length=sz) (hp:wp P stem) (h1:0≤m) (h2:m≤6) (q:∀ nm ws H',Same H H'→NamesAt H' nm ws→(ws.length:Int)=m→Q (.ref nm) H') :
  ww K t { nx:=fun _ H'=>Q .non H',rt:=Q } [some (.int c),some (.int m),some (.int sz),some (.str sg),some (.str stem),o5,none,none] H:=by
 simp only [ww,zl,zn,zF,zm,tOp,zc,tC,zb,zh,tCB,tSl,yR,ya,zp,qx,rI,Ke,jQ,xS,bq,ba,bb,bf,exists_eq_left',exists_eq_left,V.int.injEq,V.str.injEq,bn,and_true,and_assoc,exists_and_left,br,bu]
 have lo:=S.lo
 have hi:=S.hi
 have s1:=S.s1
 have s6:=S.s6
 refine ⟨by decide,by decide,fun r1 H1 a1 b1 s1'=>⟨by lia,by decide,by decide,fun r2 H2 a2 b2 s2'=>⟨zU (by lia),by lia,?_⟩⟩⟩
 obtain ⟨k,ek⟩:∃ k:Nat,r1 % (sz:Int)=k:=⟨_,(db (cA _ (by lia))).symm⟩
 have hk:(k:Int) < sz:=by rw [← ek];exact cj _ (by lia)
 obtain ⟨u,eu⟩:∃ u:Nat,r2 % (sg.length:Int)=u:=⟨_,(db (cA _ (by lia))).symm⟩
 have hu:(u:Int) < sg.length:=by rw [← eu];exact cj _ (by lia)
 rw [ek,eu]
 have l1:=zb5 sg u (by lia)
 have l2:=JE sg u
 refine ⟨zU (by lia),zU (by lia),zU (by lia),?_⟩
 have S':Sgn P sz (fm sg (some (u:Int)) none ++ fm sg none (some (u:Int))):=⟨vf (WD S.al u) (QB S.al u),by rw [xE];lia,by rw [xE];lia,S.s1,S.s6,S.nm⟩
 exact zdv S' hs hp (by lia) h1 h2 fun nm ws H' s hn hl=>q nm ws H' (s1'.trans (s2'.trans s)) hn hl
def nmI (P:Nat→Bool) (c m:Int) (sz:Nat) (sg:Str) (H:Hp) (i:Nat) (σ:St) (H':Hp):Prop:=(∃ (x:Str) (o:Option V),σ=[some (.int c),some (.int m),some (.int sz),some (.str sg),some (.str x),o,none,none]∧x.length=i∧wp P x)∧Same H H'
theorem QC {P:Nat→Bool} {sz:Nat} {sg:Str} {c m:Int} (S:Sgn P sz sg) (h1:0≤m) (h2:m≤6) (q:∀ nm ws H',Same H H'→NamesAt H' nm ws→(ws.length:Int)=m→Q (.ref nm) H') :
  wx K t { nx:=fun _ H'=>Q .non H',rt:=Q } [some (.int c),some (.int m),some (.int sz),some (.str sg),none,none,none,none] H:=by
 simp only [wx,zl,zn,zF,zm,tOp,zc,tC,zb,zh,vD,tCB,zp,qx,vg,WS,rI,rI0,jQ,xS,bq,ba,bb,bf,exists_eq_left',V.int.injEq,V.str.injEq,bn,and_true,and_assoc,exists_and_left,br,bu,eK,fi]
 have lo:=S.lo
 have hi:=S.hi
 have s1:=S.s1
 have s6:=S.s6
 refine ⟨by lia,by lia,qE (nmI P c m sz sg H) ⟨⟨_,none,rfl,by decide +kernel,by show [].all P=true;rfl⟩,Same.refl H⟩ ?_ ?_⟩
 ·rintro i σ H' hi ⟨⟨x,o,rfl,hx,hp⟩,s⟩
  simp only [ba,bb,bf,exists_eq_left',exists_eq_left,V.int.injEq,V.str.injEq,and_assoc,exists_and_left,br,bu]
  refine ⟨by lia,by lia,fun r1 H1 a1 b1 s1'=>⟨zU (by lia),by lia,?_⟩⟩
  obtain ⟨d,hd,hP⟩:=zb6 S (i:=r1 % (sg.length:Int)) (cA _ (by lia)) (cj _ (by lia))
  exact ⟨zU (by lia),d,hd,zU (by rw [wc];lia),⟨_,_,rfl,by rw [xE,wc];lia,vf hp (kP hP)⟩,s.trans s1'⟩
 ·rintro σ H' ⟨⟨x,o,rfl,hx,hp⟩,s⟩
  exact zdw S (by lia) hp h1 h2 fun nm ws H2 s2 hn hl=>q nm ws H2 (s.trans s2) hn hl
theorem Xp {c m:Int} (h1:0≤m) (h2:m≤6) (q:∀ nm ws H',Same H H'→NamesAt H' nm ws→(ws.length:Int)=m→Q (.ref nm) H') :
  vN K t { nx:=fun _ H'=>Q .non H',rt:=Q } (L2.start ["cell","many","size","signs","stem","k","at","turn"] [.int c,.int m]) H:=by
 simp only [vN,zl,L2.start,zn,zF,zm,zB,tOp,zc,tC,zb,zh,zK,zv,zp,rEq,rI,rI0,xq,b7,bw,bG,bI,bQ,bq,ba,bb,bf,exists_eq_left',V.int.injEq,V.bl.injEq,bn,and_true,true_and,and_assoc,exists_and_left,br,bu,bL,bE,decide_eq_true_eq]
 refine ⟨by decide,by decide,fun r1 H1 a1 b1 s1'=>⟨by decide,?_⟩⟩
 obtain ⟨k,ek⟩:∃ k:Nat,1 + r1 % 6=k:=⟨(1 + r1 % 6).toNat,by lia⟩
 rw [ek]
 have lc:(bg "zyxwvtsrqpnmlkjhgfdcb").length=21:=by decide +kernel
 have lz:(bg "zyxwvutsrqponmlkjihgfedcba").length=26:=by decide +kernel
 refine xc (fun e=>?_) fun e=>?_
 ·have e5:(k:Int)=6:=by simpa using e
  have e6:k=6:=by lia
  exact QC (P:=inL) (sg:="zyxwvutsrqponmlkjihgfedcba") ⟨dm.mpr zfB,by rw [lz];lia,by rw [lz];lia,by lia,by lia,fun x hx hp=>qa (by lia) (by lia) (.inl ⟨by lia,hp⟩)⟩ h1 h2 fun nm ws H2 s2 hn hl=>q nm ws H2 (s1'.trans s2) hn hl
 ·exact QC (P:=inC) (sg:="zyxwvtsrqpnmlkjhgfdcb") ⟨dm.mpr zfp,by rw [lc];lia,by rw [lc];lia,by lia,by lia,fun x hx hp=>qa (by lia) (by lia) (.inr hp)⟩ h1 h2 fun nm ws H2 s2 hn hl=>q nm ws H2 (s1'.trans s2) hn hl
structure RnP (m:Nat) (s:RSt):Prop where
 ok:RnOk m s
 ng:∀ r∈s.gi,b6 r.1.1=true
 nn:∀ r∈s.no,b6 r.1.1=true
theorem RnOk.up {m:Nat} {s:RSt} (h:RnOk m s):RnOk (m + 1) s:=⟨h.so,h.gw,h.nw,cq h.l1,cq h.l2,cq h.l3,cq h.l4,h.nd⟩
theorem RnP.up {m:Nat} {s:RSt} (h:RnP m s):RnP (m + 1) s:=⟨h.ok.up,h.ng,h.nn⟩
theorem zb7 {p:Pl} {l:List Row} (nd:(l.map (·.1)).Nodup) (h:zN l p=none):p ∉ l.map (·.1):=fun z=>by
 obtain ⟨r,hr,e⟩:=cm.mp z
 have:=(Qp (w:=r.2) nd).mpr (show (p,r.2)∈l by rw [← e];exact hr)
 rw [h] at this
 cases this
theorem zb8 {m:Nat} {s:RSt} {p:Pl} {w:Int} (h:RnOk m s) (hw:inW w=true):inW (wZ p w s)=true:=by
 unfold wZ
 cases e:zN s.gi p with
 | some i=>exact k9 (P:=fun r=>inW r.2=true) h.gw e
 | none =>
  cases e2:zN s.no p with
  | some i=>exact k9 (P:=fun r=>inW r.2=true) h.nw e2
  | none=>exact hw
theorem zdx {m:Nat} {s:RSt} {p:Pl} {w i:Int} {x:Str} (h:RnP m s) (hp:b6 p.1=true) (hw:inW w=true) (hi:inW i=true):RnP (m + 1) { xH p w s with sl:=yT s.sl (.inr x) (.int i) }:=by
 have so:=Wv h.ok.so (.inr x) hi
 have l1:(yT s.sl (.inr x) (V.int i)).length≤m + 1:=bU (we _ _ _) (gd h.ok.l1)
 unfold xH
 by_cases c:(zN s.gi p).isSome=true∨(zN s.no p).isSome=true
 ·rw [if_pos c]
  exact ⟨⟨so,h.ok.gw,h.ok.nw,l1,cq h.ok.l2,cq h.ok.l3,cq h.ok.l4,h.ok.nd⟩,h.ng,h.nn⟩
 ·rw [if_neg c]
  have cn:zN s.no p=none:=by
   cases e:zN s.no p with
   | none=>rfl
   | some i=>exact absurd (.inr (by rw [e];rfl)) c
  refine ⟨⟨so,h.ok.gw,fun r hr=>?_,l1,cq h.ok.l2,?_,cq h.ok.l4,?_⟩,h.ng,fun r hr=>?_⟩
  ·rcases bV.mp hr with hr | hr
   ·exact h.ok.nw r hr
   ·rw [bP.mp hr];exact hw
  ·show (s.no ++ [(p,w)]).length≤m + 1
   rw [bz];exact gd h.ok.l3
  ·show ((s.no ++ [(p,w)]).map (·.1)).Nodup
   rw [dL]
   refine List.nodup_append.mpr ⟨h.ok.nd,by simp,fun a ha b hb=>?_⟩
   have hb:b=p:=by simpa using hb
   rw [hb]
   exact fun z=>zb7 h.ok.nd cn (by rw [← z];exact ha)
  ·rcases bV.mp hr with hr | hr
   ·exact h.nn r hr
   ·rw [bP.mp hr];exact hp
theorem zeF {r:Rw} {m:Nat} {w:Int} {s s':RSt} (h:RnP m s) (d:ki r) (k:j7 r) (pl:xT r) (hw:inW w=true) (e:doR r w s=.ok s'):RnP (m + 1) s'∧s'.why=s.why:=by
 cases r with
 | off e'=>exact d.elim
 | iff e' b c=>exact d.elim
 | take sh e' x =>
  cases hk:rk s.sl e' with
  | error er=>simp only [doR,hk] at e;cases e
  | ok n =>
   simp only [doR,hk] at e
   cases e
   exact ⟨zdx h pl.1 hw (zb8 h.ok hw),by show (xH _ _ _).why=_;unfold xH;split <;> rfl⟩
 | give sh e' f =>
  cases hk:rk s.sl e' with
  | error er=>simp only [doR,hk] at e;cases e
  | ok n =>
   cases hk2:rk s.sl f with
   | error er=>simp only [doR,hk,hk2] at e;cases e
   | ok i =>
    simp only [doR,hk,hk2] at e
    cases e
    have hi:=zbx h.ok.so k.2.2.1 hk2
    refine ⟨⟨⟨h.ok.so,fun r hr=>?_,h.ok.nw,cq h.ok.l1,?_,cq h.ok.l3,cq h.ok.l4,h.ok.nd⟩,fun r hr=>?_,h.nn⟩,rfl⟩
    ·rcases bV.mp hr with hr | hr
     ·exact h.ok.gw r hr
     ·rw [bP.mp hr];exact hi
    ·show (s.gi ++ [((sh,n),i)]).length≤m + 1
     rw [bz];exact gd h.ok.l2
    ·rcases bV.mp hr with hr | hr
     ·exact h.ng r hr
     ·rw [bP.mp hr];exact pl.1
 | lt x e' =>
  cases hk:rk s.sl e' with
  | error er=>simp only [doR,hk] at e;cases e
  | ok i =>
   simp only [doR,hk] at e
   cases e
   have hi:=zbx h.ok.so k.2.1 hk
   exact ⟨⟨⟨Wv h.ok.so _ hi,h.ok.gw,h.ok.nw,bU (we _ _ _) (gd h.ok.l1),cq h.ok.l2,cq h.ok.l3,cq h.ok.l4,h.ok.nd⟩,h.ng,h.nn⟩,rfl⟩
 | say e' =>
  cases hk:rk s.sl e' with
  | error er=>simp only [doR,hk] at e;cases e
  | ok i =>
   simp only [doR,hk] at e
   cases e
   exact ⟨⟨⟨h.ok.so,h.ok.gw,h.ok.nw,cq h.ok.l1,cq h.ok.l2,cq h.ok.l3,by show (s.sa ++ [i]).length≤m + 1;rw [bz];exact gd h.ok.l4,h.ok.nd⟩,h.ng,h.nn⟩,rfl⟩
theorem zeG (er:Er):b6 (Jm er)=true:=by cases er <;> decide +kernel
theorem zdy {C:List Cs} {m:Nat} {w:Int} {s:RSt} (O:zap C) (h:RnI C m s) (ho:yq C s=false) (hw:inW w=true):RnI C (m + 1) (xF C w s):=by
 have no:¬ yq C s=true:=by rw [ho];decide
 have lt:=Zr no
 have hc:C[s.n]?=some C[s.n]:=bh lt
 have es:xF C w s=z7 C[s.n] w s:=by unfold xF;rw [if_neg no,hc]
 have wn:s.why=none:=by
  cases e:s.why with
  | none=>rfl
  | some v=>exact absurd (show yq C s=true by unfold yq;rw [e];rfl) no
 have mn:=h.at_ wn
 have ok:=O.ok _ (fA lt)
 have pl:=O.pl _ (fA lt)
 have P:RnP m s:=⟨h.ok,h.ng,h.nn⟩
 have fin:∀ {s':RSt} {k:Nat},RnP (m + 1) s'→(s'.why=none→m + 1≤k)→(∀ v,s'.why=some v→b6 v=true)→RnI C (m + 1) { s' with n:=k }:=fun {s' k} p l y =>
  ⟨⟨p.ok.so,p.ok.gw,p.ok.nw,p.ok.l1,p.ok.l2,p.ok.l3,p.ok.l4,p.ok.nd⟩,p.ng,p.nn,l,y⟩
 have bad:∀ er,RnI C (m + 1) { s with why:=some (Jm er) }:=fun er=>⟨⟨P.up.ok.so,P.up.ok.gw,P.up.ok.nw,P.up.ok.l1,P.up.ok.l2,P.up.ok.l3,P.up.ok.l4,P.up.ok.nd⟩,P.ng,P.nn,fun z=>(by cases z),fun v z=>by cases z;exact zeG er⟩
 have does:∀ r:Rw,ki r→Yq (.row r)→zdo (.row r)→RnI C (m + 1) (z7 (.row r) w s):=fun r hf ok pl=>by
  unfold z7
  rw [JD hf]
  cases hk:doR r w s with
  | error er=>exact bad er
  | ok s' =>
   obtain ⟨a,b⟩:=zeF P hf ok pl hw hk
   exact fin a (fun _=>by lia) (fun v z=>h.wy v (by rw [← b];exact z))
 rw [es]
 have hg:∀ to,C[s.n]=.go to→s.n < to:=fun to e=>O.fg s.n to (by rw [hc,e])
 have hs:∀ e to,C[s.n]=.skip e to→s.n < to:=fun e to e2=>O.fw s.n to e (by rw [hc,e2])
 generalize C[s.n]=c at *
 cases c with
 | go to =>
  have:=hg to rfl
  exact fin P.up (fun _=>by lia) h.wy
 | skip e to =>
  have:=hs e to rfl
  cases hk:rk s.sl e with
  | error er=>simp only [z7,yM,hk];exact bad er
  | ok i =>
   simp only [z7,yM,hk]
   refine fin P.up (fun _=>?_) h.wy
   split <;> lia
 | row r =>
  cases r with
  | off e =>
   cases hk:rk s.sl e with
   | error er=>simp only [z7,yM,hk];exact bad er
   | ok i =>
    by_cases hi:i=0
    ·simp only [z7,yM,hk,if_pos hi]
     exact fin P.up (fun _=>by lia) h.wy
    ·simp only [z7,yM,hk,if_neg hi]
     exact fin (s':={ s with why:=some (bg "told") }) ⟨⟨P.up.ok.so,P.up.ok.gw,P.up.ok.nw,P.up.ok.l1,P.up.ok.l2,P.up.ok.l3,P.up.ok.l4,P.up.ok.nd⟩,P.ng,P.nn⟩ (fun z=>by cases z) (fun v z=>by cases z;decide +kernel)
  | iff e b d=>exact fin (k:=s.n + 1) P.up (fun _=>by lia) h.wy
  | take sh e x=>exact does (.take sh e x) trivial ok pl
  | give sh e x=>exact does (.give sh e x) trivial ok pl
  | lt sh e=>exact does (.lt sh e) trivial ok pl
  | say e=>exact does (.say e) trivial ok pl
structure FwC (k:Nat) (C:List Cs):Prop where
 ok:∀ c∈C,Yq c∧zdo c
 fw:∀ (i to:Nat) (e:List V),C[i]?=some (Cs.skip e to)→k + i < to
 fg:∀ (i to:Nat),C[i]?=some (Cs.go to)→k + i < to
theorem FwC.nil (k:Nat):FwC k []:=⟨fun c h=>(nomatch h),fun i to e h=>by simp at h,fun i to h=>by simp at h⟩
theorem FwC.cons {k:Nat} {c:Cs} {C:List Cs} (h1:Yq c∧zdo c) (h2:∀ e to,c=.skip e to→k < to) (h3:∀ to,c=.go to→k < to) (h:FwC (k + 1) C):FwC k (c :: C):=by
 refine ⟨fun x hx=>?_,fun i to e hi=>?_,fun i to hi=>?_⟩
 ·rcases bR.mp hx with rfl | hx
  ·exact h1
  ·exact h.ok x hx
 ·cases i with
  | zero=>have:=h2 e to (by simpa using hi);lia
  | succ i=>have:=h.fw i to e (by simpa using hi);lia
 ·cases i with
  | zero=>have:=h3 to (by simpa using hi);lia
  | succ i=>have:=h.fg i to (by simpa using hi);lia
theorem FwC.app:∀ {A:List Cs} {k:Nat} {B:List Cs},FwC k A→FwC (k + A.length) B→FwC k (A ++ B)
 | [],k,B,_,h=>by simpa using h
 | c :: A,k,B,h,h'=>by
  rw [bI]
  refine .cons (h.ok c bF) (fun e to z=>by have:=h.fw 0 to e (by rw [z];rfl);lia) (fun to z=>by have:=h.fg 0 to (by rw [z];rfl);lia) (FwC.app ⟨fun x hx=>h.ok x (bB _ hx),fun i to e hi=>?_,fun i to hi=>?_⟩ (by rw [cB] at h';rw [show k + 1 + A.length=k + (A.length + 1) by lia];exact h'))
  ·have:=h.fw (i + 1) to e (by simpa using hi);lia
  ·have:=h.fg (i + 1) to (by simpa using hi);lia
mutual
theorem zb9:∀ (r:Rw) (k:Nat),j7 r→xT r→FwC k (yO r k)
 | .iff e a b,k,o,p=>by
  unfold j7 at o
  unfold xT at p
  have ha:=qb a (k + 1) o.2.1 p.2.1
  have hb:=qb b (k + 2 + (zr a (k + 1)).length) o.2.2 p.2.2
  have ec:yO (.iff e a b) k=blk e k (zr a (k + 1)) (Rws.isNil b) (zr b (k + 2 + (zr a (k + 1)).length)):=by rw [yO]
  rw [ec]
  generalize zr a (k + 1)=A at *
  generalize zr b (k + 2 + A.length)=B at *
  unfold blk
  split
  ·exact .cons ⟨o.1,trivial⟩ (fun e' to z=>by cases z;lia) (fun to z=>nomatch z) ha
  ·refine .cons ⟨o.1,trivial⟩ (fun e' to z=>by cases z;lia) (fun to z=>nomatch z) (.app ha (.cons ⟨trivial,trivial⟩ (fun e' to z=>nomatch z) (fun to z=>by cases z;lia) ?_))
   rw [show k + 1 + A.length + 1=k + 2 + A.length by lia]
   exact hb
 | .take sh e sl,k,o,p=>by rw [yc (x:=.take sh e sl) trivial];exact .cons ⟨o,p⟩ (fun _ _ z=>nomatch z) (fun _ z=>nomatch z) (.nil _)
 | .give sh e f,k,o,p=>by rw [yc (x:=.give sh e f) trivial];exact .cons ⟨o,p⟩ (fun _ _ z=>nomatch z) (fun _ z=>nomatch z) (.nil _)
 | .lt sl e,k,o,p=>by rw [yc (x:=.lt sl e) trivial];exact .cons ⟨o,p⟩ (fun _ _ z=>nomatch z) (fun _ z=>nomatch z) (.nil _)
 | .say e,k,o,p=>by rw [yc (x:=.say e) trivial];exact .cons ⟨o,p⟩ (fun _ _ z=>nomatch z) (fun _ z=>nomatch z) (.nil _)
 | .off e,k,o,p=>by rw [yc (x:=.off e) trivial];exact .cons ⟨o,p⟩ (fun _ _ z=>nomatch z) (fun _ z=>nomatch z) (.nil _)
theorem qb:∀ (r:Rws) (k:Nat),wk r→y6 r→FwC k (zr r k)
 | .nil,k,o,p=>by rw [zr];exact .nil k
 | .cons r rs,k,o,p=>by
  unfold wk at o
  unfold y6 at p
  rw [zr]
  exact .app (zb9 r k o.1 p.1) (qb rs _ o.2 p.2)
end
theorem zfq {r:Rws} (h1:Yp 6 r) (h2:wk r) (h3:(zr r 0).length≤40):zap (zr r 0):=by
 have f:=qb r 0 h2 h1.pl
 exact ⟨fun c hc=>(f.ok c hc).1,fun c hc=>(f.ok c hc).2,fun i to e h=>by have:=f.fw i to e h;lia,fun i to h=>by have:=f.fg i to h;lia,h3⟩
def plD (p:Pl):PyData:=.tuple [.str p.1,.int p.2]
def ZY (r:Row):PyData:=.tuple [plD r.1,.int r.2]
theorem zeH {q:Addr} {p:Pl} (h:H q=some (.tup [.str p.1,.int p.2])):Dat K H (.ref q) (plD p):=.tup (SqT.of h) (.cons (.str _) (.cons (.int _) .nil))
theorem zca {p:Pl} (h:b6 p.1=true):zy (plD p)=true:=by simp [plD,zy,zE,h]
theorem zcb (p:Pl):(plD p).depth≤2:=by simp [plD,cr,bO]
theorem QD:∀ {ys:List V} {rows:List Row},Paired (PrAt H) ys rows→DatAll K H ys (rows.map ZY)
 | _,_,.nil=>.nil
 | _,_,.cons ⟨r,p,e1,e2,e3⟩ t=>by
  rw [bW,e1]
  exact .cons (.tup (SqT.of e2) (.cons (zeH e3) (.cons (.int _) .nil))) (QD t)
theorem Xq {l:Addr} {rows:List Row} (h:yk H l rows):Dat K H (.ref l) (.list (rows.map ZY)):=by
 obtain ⟨xs,h1,h2⟩:=h
 exact .lst (SqL.of h1) (QD h2)
theorem WE:∀ {rows:List Row},(∀ r∈rows,b6 r.1.1=true)→zE (rows.map ZY)=true
 | [],_=>rfl
 | r :: t,h=>by
  rw [bW,zE,WE (fun x hx=>h x (bB _ hx))]
  have:=zca (h r bF)
  simp [ZY,zy,zE,this]
theorem JF:∀ (rows:List Row),bO (rows.map ZY)≤3
 | []=>by simp [bO]
 | r :: t=>by
  have h:=JF t
  have h2:=zcb r.1
  rw [bW,bO]
  simp only [ZY,cr,bO] at h2 ⊢
  lia
theorem Zt {rows:List Row} (h:∀ r∈rows,b6 r.1.1=true):zy (.list (rows.map ZY))=true:=by rw [zy];exact WE h
theorem Yy (rows:List Row):(PyData.list (rows.map ZY)).depth≤4:=by
 have:=JF rows
 rw [cr];lia
section
variable {l:Addr}
theorem zfr {H':Hp} {rows:List Row} (h:yk H l rows) (k:∀ o,H l=some o→H' l=some o) (ts:TSm H H'):yk H' l rows:=by
 obtain ⟨xs,h1,h2⟩:=h
 exact ⟨xs,k _ h1,Paired.mapP h2 fun _ _ ⟨r,p,e1,e2,e3⟩=>⟨r,p,e1,ts _ _ e2,ts _ _ e3⟩⟩
theorem yI {H':Hp} {rows:List Row} (h:yk H l rows) (s:Same H H'):yk H' l rows:=zfr h (fun o e=>s _ _ e) fun b ys e=>s _ _ e
end
section
variable {C:List Cs} {s:RSt} {m:Nat}
theorem zcc:b6 (bg "done")=true:=by decide +kernel
def ocD:Oc→PyData
 | .done sa=>.tuple [.str (bg "done"),.tuple (sa.map gO)]
 | .off w=>.tuple [.str (bg "off"),.str w]
theorem zdz {H':Hp} {v:V} {oc:Oc} (h:Xf H v oc) (s:Same H H'):Xf H' v oc:=by
 cases oc with
 | done sa=>obtain ⟨o,y,e1,e2,e3⟩:=h;exact ⟨o,y,e1,s _ _ e2,s _ _ e3⟩
 | off w=>obtain ⟨o,e1,e2⟩:=h;exact ⟨o,e1,s _ _ e2⟩
theorem zfs {H':Hp} {v:V} {oc:Oc} (h:Xf H v oc) (s:TSm H H'):Xf H' v oc:=by
 cases oc with
 | done sa=>obtain ⟨o,y,e1,e2,e3⟩:=h;exact ⟨o,y,e1,s _ _ e2,s _ _ e3⟩
 | off w=>obtain ⟨o,e1,e2⟩:=h;exact ⟨o,e1,s _ _ e2⟩
theorem zeI {v:V} {oc:Oc} (h:Xf H v oc):Dat K H v (ocD oc):=by
 cases oc with
 | done sa =>
  obtain ⟨o,y,rfl,e2,e3⟩:=h
  exact .tup (SqT.of e2) (.cons (.str _) (.cons (.tup (SqT.of e3) (DatAll.of fun i _=>.int i)) .nil))
 | off w =>
  obtain ⟨o,rfl,e2⟩:=h
  exact .tup (SqT.of e2) (.cons (.str _) (.cons (.str _) .nil))
theorem Xr:∀ (sa:List Int),zE (sa.map gO)=true
 | []=>rfl
 | i :: t=>by rw [bW,zE,Xr t];rfl
theorem WF:∀ (sa:List Int),bO (sa.map gO)=0
 | []=>by simp [bO]
 | i :: t=>by rw [bW,bO,WF t,cr];rfl
theorem zcd {oc:Oc} (h:∀ w,oc=.off w→b6 w=true):zy (ocD oc)=true:=by
 cases oc with
 | done sa=>have:=zcc;simp [ocD,zy,zE,Xr,this]
 | off w=>have:=h w rfl;have k:=Qt;simp [ocD,zy,zE,this,k]
theorem zdA (oc:Oc):(ocD oc).depth≤3:=by
 cases oc with
 | done sa=>simp only [ocD,cr,bO,WF];lia
 | off w=>simp only [ocD,cr,bO];lia
def ppD (oc:Oc) (no gi:List Row):PyData:=.tuple [ocD oc,.list (no.map ZY),.list (gi.map ZY)]
theorem zdB {out out':List Row} (h:w4 s out) (h':w4 s out'):out=out':=by
 unfold w4 at h h'
 cases e:s.why with
 | some w=>rw [e] at h h';rw [h,h']
 | none=>rw [e] at h h';exact qJ h.1 h'.1 fun ⟨p,w⟩=>(h.2 p w).trans (h'.2 p w).symm
theorem zft {out:List Row} (I:RnI C m s) (h:w4 s out):∀ r∈out,b6 r.1.1=true:=by
 unfold w4 at h
 cases e:s.why with
 | some w=>rw [e] at h;rw [h];exact fun r hr=>nomatch hr
 | none =>
  rw [e] at h
  intro r hr
  exact k9 (P:=fun r=>b6 r.1.1=true) I.ng ((h.2 r.1 r.2).mp hr)
theorem zeJ {out:List Row} (h:w4 s out):out.length≤s.gi.length:=by
 unfold w4 at h
 cases e:s.why with
 | some w=>rw [e] at h;rw [h];exact b8 _
 | none =>
  rw [e] at h
  have ld:=x9 s.gi
  have n1:((dOf s.gi).map (·.1)).Nodup:=(je s.gi).1
  have n2:((out.map (·.1)).map zM).Nodup:=by
   have:=h.1.nd
   unfold fB at *
   rw [eA]
   exact this.imp fun {a b} hab z=>hab (xv z)
  have sub2:∀ k∈(out.map (·.1)).map zM,k∈(dOf s.gi).map (·.1):=fun k hk=>by
   obtain ⟨p,hp,rfl⟩:=cm.mp hk
   obtain ⟨r,hr,rfl⟩:=cm.mp hp
   exact da (f:=(·.1)) (mem_dOf.mpr ⟨r.1,r.2,rfl,(h.2 r.1 r.2).mp hr⟩)
  have:=kY n2 sub2
  simp only [bt] at this
  lia
end
theorem zeK {H0 H1 H3:Hp} {x dx:Addr} {a:RAd} (s1:Same H0 H1) (hx:H1 x=none) (hdx:H1 dx=none) (k3:Yd x (upd (upd H1 dx (.own x)) x (.ins t.c_Run dx [])) H3) (fr:∀ b,OwA x a b→b=x∨upd (upd H1 dx (.own x)) x (.ins t.c_Run dx []) b=none):Same H1 H3∧∀ b,OwA x a b→H1 b=none:=by
 have s2:Same H1 (upd (upd H1 dx (HO.own x)) x (HO.ins t.c_Run dx [])):=fun b o e=>by rw [zj (zJ e hx),zj (zJ e hdx)];exact e
 refine ⟨fun b o e=>k3 b o (fun z=>by rw [z,hx] at e;cases e) (s2 b o e),fun b ob=>?_⟩
 rcases fr b ob with z | z
 ·rw [z];exact hx
 ·exact zH s2 z
section
variable {C:List Cs}
theorem zeL {r:Addr} {s:RSt} {out:List Row} {o:V} {nl gl:Addr} (h1:H r=some (.tup [o,.ref nl,.ref gl])) (h2:Xf H o (ZM s)) (h3:yk H nl s.no) (h4:yk H gl out):Dat K H (.ref r) (ppD (ZM s) s.no out):=.tup (SqT.of h1) (.cons (zeI h2) (.cons (Xq h3) (.cons (Xq h4) .nil)))
end
theorem zdC (ns:List Int) (lo hi:Option Int):∃ ys:List Int,Yf (ns.map V.int) lo hi=ys.map V.int∧ys.length≤ns.length:=by
 refine ⟨(ns.drop (HT.sIx ns.length 0 lo)).take (HT.sIx ns.length ns.length hi - HT.sIx ns.length 0 lo),?_,?_⟩
 ·unfold Yf
  rw [lW,lX,bt]
 ·rw [cM,cN];lia
theorem zce {j c:Int} (hj:0≤j) (hc:0 < c):(Y5 0 j c:Int)≤j:=by
 unfold Y5
 split
 ·rename_i h
  have h1:=iQ (a:=j - 0 - 1) (b:=c) (by lia) (by lia)
  have h2:=oA (a:=j - 0 - 1) c (by lia)
  rw [db (by lia)]
  lia
 ·simpa using hj
theorem JG {σ:St} {H:Hp} {nx:St→Hp→Prop} {B:V→St→Hp→(St→Hp→Prop)→Prop} {lo c:Int} {n:Nat} (Pv:Nat→St→Hp→Prop) (h0:Pv 0 σ H) (hs:∀ i σ H,i < n→Pv i σ H→B (.int (lo + i * c)) σ H (Pv (i + 1))) (hd:∀ σ H,Pv n σ H→nx σ H) :
  ∃ W:Nat→Nat→St→Hp→Prop,(∃ m,W 0 m σ H)∧∀ i m σ H,W i m σ H→((zbF lo c n).stop i H∧nx σ H)∨((zbF lo c n).go i H∧∃ N:St→Hp→Prop,(∀ σ' H',N σ' H'→∃ m',m' < m∧W (i + 1) m' σ' H')∧∀ x H',(zbF lo c n).yld i H x H'→B x σ H' N):=by
 refine ⟨fun i m σ H=>m=n - i∧i≤n∧Pv i σ H,⟨n,by simp,b8 _,h0⟩,?_⟩
 rintro i m σ H ⟨rfl,hi,p⟩
 by_cases hlt:i < n
 ·refine .inr ⟨hlt,Pv (i + 1),fun σ' H' p'=>⟨n - (i + 1),by lia,rfl,hlt,p'⟩,?_⟩
  rintro x H' ⟨rfl,rfl⟩
  exact hs i σ _ hlt p
 ·obtain rfl:i=n:=by lia
  exact .inl ⟨bo _,hd σ H p⟩
theorem _root_.L2.PrAt.same {H H':Hp} {v:V} {q:Row} (h:Wz H v q) (s:Same H H'):Wz H' v q:=by
 obtain ⟨r,p,e,h1,h2⟩:=h
 exact ⟨r,p,e,s _ _ h1,s _ _ h2⟩
theorem _root_.L2.PrAt.tsame {H H':Hp} {v:V} {q:Row} (h:Wz H v q) (s:WC H H'):Wz H' v q:=by
 obtain ⟨r,p,e,h1,h2⟩:=h
 exact ⟨r,p,e,s _ _ h1,s _ _ h2⟩
theorem xu {H H':Hp} (s:WC H H'):∀ {vs:List V} {rows:List Row},xI H vs rows→xI H' vs rows
 | _,_,.nil=>.nil
 | _,_,.cons h r=>.cons (h.tsame s) (xu s r)
theorem wO {H H':Hp} (s:Same H H'):∀ {vs:List V} {rows:List Row},xI H vs rows→xI H' vs rows
 | _,_,.nil=>.nil
 | _,_,.cons h r=>.cons (h.same s) (wO s r)
theorem kQ {vs:List V} {rows:List Row} (h:xI H vs rows):vs.length=rows.length:=b5 h
theorem zcf {vs:List V} {rows:List Row} {i:Nat} {v:V} (h:xI H vs rows) (e:vs[i]?=some v):∃ q,rows[i]?=some q∧Wz H v q:=by
 have hi:=(bC.mp e).1
 have l:=kQ h
 exact ⟨rows[i],bh (by lia),yg h e (bh (by lia))⟩
theorem WG {H:Hp} {v:V} {q:Row}:∀ {ys:List V} {rows:List Row},xI H ys rows→Wz H v q→xI H (ys ++ [v]) (rows ++ [q])
 | _,_,.nil,h=>.cons h .nil
 | _,_,.cons a r,h=>.cons a (WG r h)
theorem JH (rows:List Row):∃ qs:List Pl,(dOf rows).map (·.1)=qs.map zM∧qs.Nodup∧∀ p,p∈qs↔(zN rows p).isSome=true:=by
 have h:=je rows
 have:∀ (kvs:List (List Key × V)),(∀ kv∈kvs,∃ (p:Pl) (w:Int),kv=(zM p,.int w))→∃ qs:List Pl,kvs.map (·.1)=qs.map zM:=fun kvs=>by
  induction kvs with
  | nil=>exact fun _=>⟨[],rfl⟩
  | cons kv r ih =>
   intro hk
   obtain ⟨qs,e⟩:=ih fun z hz=>hk z (bB _ hz)
   obtain ⟨p,w,e2⟩:=hk kv bF
   exact ⟨p :: qs,by rw [bW,bW,e,e2]⟩
 obtain ⟨qs,e⟩:=this _ h.2
 refine ⟨qs,e,x6 (f:=zM) (by rw [← e];exact h.1),fun p=>?_⟩
 constructor
 ·intro hp
  have:zM p∈(dOf rows).map (·.1):=by rw [e];exact da hp
  obtain ⟨kv,hk,e1⟩:=cm.mp this
  obtain ⟨p',w,rfl,hw⟩:=mem_dOf.mp hk
  have:=xv e1
  subst this
  rw [hw];rfl
 ·intro hp
  obtain ⟨w,hw⟩:=c6.mp hp
  have:zM p∈qs.map zM:=by rw [← e];exact da (f:=(·.1)) (mem_dOf.mpr ⟨p,w,rfl,hw⟩)
  obtain ⟨p',hp',e1⟩:=cm.mp this
  rw [← xv e1];exact hp'
def WH (rows:List Row) (p:Pl):Option Row:=match zN rows p with
 | some w=>if w=0 then none else some (p,w)
 | none=>none
def zeM (rows:List Row) (qs:List Pl) (i:Nat) (ys:List V) (H:Hp):Prop:=∃ out:List Row,xI H ys out∧out=(qs.take i).filterMap (WH rows)
theorem zdD {rows:List Row} {qs:List Pl} {i:Nat} {ys:List V} {H H':Hp} (s:WC H H') (h:zeM rows qs i ys H):zeM rows qs i ys H':=by
 obtain ⟨out,h1,h2⟩:=h
 exact ⟨out,xu s h1,h2⟩
theorem toRow_iff {rows:List Row} {p:Pl} {b:Row}:WH rows p=some b↔b.1=p∧zN rows p=some b.2∧b.2≠0:=by
 unfold WH
 obtain ⟨p',w'⟩:=b
 cases e:zN rows p with
 | none=>simp
 | some w =>
  by_cases h:w=0
  ·subst h
   simp only [if_true]
   constructor
   ·intro z;cases z
   ·rintro ⟨_,z,h2⟩
    exact absurd (cf z).symm h2
  ·simp only [if_neg h,bf,Prod.mk.injEq]
   constructor
   ·rintro ⟨rfl,rfl⟩;exact ⟨rfl,rfl,h⟩
   ·rintro ⟨rfl,rfl,_⟩;exact ⟨rfl,rfl⟩
theorem zeN {rows:List Row} {ps:List Pl} (hw:ps.Pairwise fun a b=>zY a b=true) (hm:∀ p,p∈ps↔(zN rows p).isSome=true):wI rows (ps.filterMap (WH rows)):=by
 constructor
 ·unfold Rising
  rw [List.pairwise_filterMap]
  refine hw.imp fun {a a'} h b hb b' hb'=>?_
  rw [(toRow_iff.mp hb).1,(toRow_iff.mp hb').1];exact h
 ·intro p w
  rw [List.mem_filterMap]
  constructor
  ·rintro ⟨a,_,h⟩
   obtain ⟨h1,h2,h3⟩:=toRow_iff.mp h
   cases h1
   exact ⟨h2,h3⟩
  ·rintro ⟨h1,h2⟩
   exact ⟨p,(hm p).mpr (by rw [h1];rfl),toRow_iff.mpr ⟨rfl,h1,h2⟩⟩
theorem XV {a:Addr} {xs:List V} {rows:List Row} (h1:H a=some (.lst xs)) (h2:xI H xs rows) (h4:(dOf rows).length≤63) (h5:rows.length≤1000) (q:∀ l ys out H',Same H H'→H l=none→H' l=some (.lst ys)→xI H' ys out→wI rows out→Q (.ref l) H') :
  vx K t { nx:=fun _ H'=>Q .non H',rt:=Q } (L2.start ["rows","worths"] [.ref a]) H:=by
 simp only [vx,vi,zbr,Y2,L2.start,zn,zF,zm,zA,tOp,zc,tC,yt,zb,zh,zv,tCB,xM,Yh,wQ,rNe,xq,b7,bw,bG,bI,bQ,ba,bb,bf,exists_eq_left',V.ref.injEq,V.bl.injEq,bn,and_true,exists_and_left,br,bu,bL,bE,b0,decide_eq_false_iff_not]
 refine ⟨xs,h1,rows,h2,h5,fun d hd=>?_⟩
 have S:∀ u:HO,Same H (upd H d u):=fun u=>isV (o:=u) d hd
 obtain ⟨qs,hqs,nqs,mqs⟩:=JH rows
 have ld:=x9 rows
 generalize hH0:upd H d (.dT (dOf rows))=H0
 have S0:Same H H0:=by rw [← hH0];exact S _
 have d0:H0 d=some (.dT (dOf rows)):=by rw [← hH0];exact ze
 refine ⟨dOf rows,d0,qs,hqs,by lia,fun l ps hl0 hperm hpw hps=>?_⟩
 obtain ⟨H1,eH,s1,q1⟩:=zcP (o:=HO.lst (ps.map fun n=>V.ref n.1)) hl0
 rw [← eH]
 clear eH
 refine ⟨⟨_,SqL.of q1⟩,fun D hD=>?_⟩
 refine Xo (J:=Itl K l) ps.length (by have:=hperm.length_eq;have:=congrArg bG hqs;simp at *;lia) (fun τ=>∃ o,τ=[o,some (.ref d)]) (zeM rows (ps.map (·.2))) (fun i ys H H' s h=>zdD s h) ⟨_,rfl⟩ ⟨[],.nil,rfl⟩ (fun i H s h=>⟨_,_,SqL.of (s _ _ q1),bh (by rw [bt];exact h)⟩) (fun H s=>⟨_,SqL.of (s _ _ q1),by rw [bt];exact bo _⟩) hD ?_ ?_
 ·rintro i v τ ys H4 H5 ⟨o,rfl⟩ s4 hi hR ⟨rfl,hv⟩
  have hv:=hv _ (SqL.of (s4 _ _ q1))
  rw [bN] at hv
  obtain ⟨n,hn,rfl⟩:=cW.mp hv
  have hp:=s4 _ _ (s1 _ _ (hps n (cL hn)))
  simp only [ba,bb,bf,exists_eq_left',V.ref.injEq,bn,and_true,br]
  have hm:n.2∈qs:=hperm.mem_iff.mp (da (cL hn))
  obtain ⟨w,hw⟩:=c6.mp ((mqs n.2).mp hm)
  have g:DGet H5 d (.ref n.1) ((zN rows n.2).map V.int):=.inr ⟨dOf rows,zM n.2,n.1,.inl (s4 _ _ (s1 _ _ d0)),rfl,hp,(x8 rows n.2).symm⟩
  rw [hw] at g
  have tk:(ps.map (·.2)).take (i + 1)=(ps.map (·.2)).take i ++ [n.2]:=by rw [eh,bN,hn];rfl
  obtain ⟨out,hr,ho⟩:=hR
  refine ⟨_,g,rfl,xc (fun c=>⟨_,g,by decide,fun p hp2=>⟨⟨_,rfl⟩,?_,isV p hp2⟩⟩) fun c=>⟨⟨_,rfl⟩,?_,Same.refl _⟩⟩
  ·refine ⟨out ++ [(n.2,w)],WG (wO (isV p hp2) hr) ⟨p,n.1,rfl,ze,isV p hp2 _ _ hp⟩,?_⟩
   have hw0:w≠0:=fun z=>c (by rw [z])
   rw [tk,mI,← ho]
   simp [WH,hw,hw0]
  ·refine ⟨out,hr,?_⟩
   have hw0:w=0:=by simpa using c
   rw [tk,mI,← ho]
   simp [WH,hw,hw0]
 ·rintro ys H4 hly ⟨out,hr,ho⟩ s4 hq
  refine q D ys out H4 (S0.trans (s1.trans s4)) (zH (S0.trans s1) hD) hq hr ?_
  rw [cx (by rw [bt];exact bo _)] at ho
  subst ho
  exact zeN hpw fun p=>(hperm.mem_iff.trans (mqs p))
theorem kR {p:Pl} {w:Int}:∀ {l:List Row},zN l p=some w→(p,w)∈l
 | [],h=>by cases h
 | r :: t,h=>by
  rw [zN] at h
  cases e:zN t p with
  | some w' =>
   rw [e] at h
   have:w'=w:=by simpa using h
   subst this
   exact bB _ (kR e)
  | none =>
   rw [e] at h
   by_cases c:r.1=p
   ·rw [if_pos c] at h
    have:r.2=w:=by simpa using h
    rw [← c,← this];exact bF
   ·rw [if_neg c] at h;cases h
theorem JI {H:Hp} {b:List Row} {ys:List V} (h2:xI H ys b):∀ {xs:List V} {a:List Row},xI H xs a→xI H (xs ++ ys) (a ++ b)
 | _,_,.nil=>h2
 | _,_,.cons h r=>.cons h (JI h2 r)
theorem Vw {a:Addr} {rows:List Row} (h1:yk H a rows) (h2:(dOf rows).length≤63) (h3:rows.length≤1000) (q:∀ l out H',Same H H'→H l=none→yk H' l out→wI rows out→Q (.ref l) H') :
  vx K t { nx:=fun _ H'=>Q .non H',rt:=Q } (L2.start ["rows","worths"] [.ref a]) H:=by
 obtain ⟨xs,hx,rx⟩:=h1
 exact XV hx rx h2 h3 fun l ys out H' s fr hy ry ti=>q l out H' s fr ⟨ys,hy,ry⟩ ti
theorem KI {a p:Addr} {tab:List Row} {q0:Pl} (h1:yk H a tab) (h5:tab.length≤500) (h6:H p=some (.tup [.str q0.1,.int q0.2])) (q:∀ H',Same H H'→Q (.int ((zN tab q0).getD 0)) H') :
  ZP K t { nx:=fun _ H'=>Q .non H',rt:=Q } (L2.start ["table","place"] [.ref a,.ref p]) H:=by
 simp only [ZP,Y2,qC,L2.start,qC,zA,zc,tC,zb,zh,tCB,b7,bw,bG,bq,ba,bb,bf,exists_eq_left',V.ref.injEq,bn,and_true,exists_and_left,bL,bE]
 obtain ⟨xs,h1,h2⟩:=h1
 refine ⟨xs,h1,tab,h2,by lia,fun d hd=>⟨.inr ⟨dOf tab,.inl ze⟩,?_⟩⟩
 have S:=isV (o:=HO.dT (dOf tab)) d hd
 have g:DGet (upd H d (.dT (dOf tab))) d (.ref p) ((zN tab q0).map V.int):=.inr ⟨dOf tab,zM q0,p,.inl ze,rfl,S _ _ h6,(x8 tab q0).symm⟩
 refine ⟨_,g,?_⟩
 have:=q _ S
 cases e:zN tab q0 with
 | none=>rw [e] at this;exact this
 | some w=>rw [e] at this;exact this
theorem zfu {v:V} (h:lfV v):jq v∧isJ v=false∧plV v:=by
 rcases h with ⟨i,rfl,hi⟩ | ⟨x,rfl,hx⟩
 ·exact ⟨.inl ⟨i,rfl,hi⟩,rfl,.inl ⟨i,rfl⟩⟩
 ·have:=Zj hx
  exact ⟨.inr ⟨x,rfl,by lia⟩,this.2.2.1,.inr ⟨x,rfl,jN hx⟩⟩
theorem NamesAt.same {H H':Hp} {nm:Addr} {ws:List Str} (h:NamesAt H nm ws) (s:Same H H'):NamesAt H' nm ws:=⟨s _ _ h.1,h.2⟩
theorem Zu {nm:Addr} {ws:List Str} (h:NamesAt H nm ws) (n:Nat) (hl:ws.length=n) (hn:0 < (n:Int)) (e:Int):∃ x,atI (ws.map V.str) (e % n)=some (.str x)∧x∈ws∧yf x=true:=by
 obtain ⟨v,hv,hm⟩:=Vm e n (xs:=ws.map V.str) (by rw [bt,hl]) hn
 obtain ⟨x,hx,rfl⟩:=cm.mp hm
 exact ⟨x,hv,hx,h.2 x hx⟩
theorem Ys {c j:Int} (h1:0≤j) (h2:j≤900) (q:∀ w H',inW w=true→Same H H'→Q (.int w) H') :
  w6 K t { nx:=fun _ H'=>Q .non H',rt:=Q } (L2.start ["cell","j"] [.int c,.int j]) H:=by
 simp only [w6,zl,L2.start,zn,zA,zB,tOp,zc,tC,zb,zh,zK,zv,zp,rEq,rI,rI0,xq,b7,bw,bG,bq,ba,bb,bf,exists_eq_left',V.int.injEq,V.bl.injEq,bn,and_true,true_and,and_assoc,exists_and_left,bL,bE,decide_eq_true_eq,iR,eK,Int.reduceMul,Int.reduceAdd]
 have P30:=Jx (j:=30) (by decide) (by decide)
 have P40:=Jx (j:=40) (by decide) (by decide)
 have hb:(1000000000000000000000000000000000000000000000000000000000000:Int) < big:=by decide +kernel
 refine ⟨h1,by lia,fun r1 H1 a1 b1 s1=>⟨by decide,xc (fun _=>?_) fun _=>⟨by lia,by lia,fun r2 H2 a2 b2 s2=>⟨by decide,q _ _ (inW_iff.mpr ?_) (s1.trans s2)⟩⟩⟩⟩
 ·have g1:=cA c (b:=10000000000000000000000000000000000000000) (by decide)
  have g2:=cj c (b:=10000000000000000000000000000000000000000) (by decide)
  generalize c % 10000000000000000000000000000000000000000=d at *
  have m1:0≤d * (j + 2):=Int.mul_nonneg g1 (by lia)
  have m2:d * (j + 2)≤10000000000000000000000000000000000000000 * 1000:=Int.mul_le_mul (by lia) (by lia) (by lia) (by decide)
  generalize d * (j + 2)=f at *
  have g3:=cA (f * 1000003 + j) (b:=2000000000000000000000000000001) (by decide)
  have g4:=cj (f * 1000003 + j) (b:=2000000000000000000000000000001) (by decide)
  exact ⟨P40,by decide,⟨by lia,by lia⟩,⟨by lia,by lia⟩,P30,⟨by lia,by lia⟩,by decide,P30,q _ _ (inW_iff.mpr (by lia)) s1⟩
 ·lia
theorem WI {a b:List V} {w:Str} (ha:TermOk a) (hb:TermOk b) (hw:wdJ w) (l:a.length + b.length < 1000):TermOk (a ++ b ++ [.str w]):=by
 refine ⟨fun kvs=>?_,fun z hz=>?_,by rw [bz,bz,cD];lia⟩
 ·obtain ⟨r1,g1⟩:=ha.1 kvs
  obtain ⟨r2,g2⟩:=hb.1 kvs
  exact ⟨_,Q9 hw.1 g1 g2⟩
 ·rcases bV.mp hz with hz | hz
  ·rcases bV.mp hz with hz | hz
   ·exact ha.2.1 z hz
   ·exact hb.2.1 z hz
  ·rw [bP.mp hz];exact .inr ⟨w,rfl,hw.2.1⟩
theorem QE {a b:List V} {w:Str} (ha:tmP a) (hb:tmP b) (hw:wdJ w):tmP (a ++ b ++ [.str w]):=fun z hz=>by
 rcases bV.mp hz with hz | hz
 ·rcases bV.mp hz with hz | hz
  ·exact ha z hz
  ·exact hb z hz
 ·rw [bP.mp hz];exact .inr ⟨w,rfl,hw.2.2⟩
theorem WJ {u:V} (h:lfV u):TermOk [u]∧tmP [u]:=by
 obtain ⟨o1,j1,p1⟩:=zfu h
 exact ⟨zbM o1 j1,fun z hz=>by rw [bP.mp hz];exact p1⟩
mutual
theorem zdE:∀ (r:Rw) (k:Nat),(yO r k).length≤szR r∧r.cnt≤szR r
 | .iff e a b,k=>by
  have h1:=Zv a (k + 1)
  have h2:=Zv b (k + 2 + (zr a (k + 1)).length)
  have c:(Rw.iff e a b).cnt=max a.cnt b.cnt + 1:=by rw [Rw.cnt]
  have z:szR (.iff e a b)=jE a + jE b + 2:=by rw [szR]
  rw [yO,c,z]
  unfold blk
  split
  ·exact ⟨by simp;lia,by lia⟩
  ·exact ⟨by simp;lia,by lia⟩
 | .take sh e sl,k=>by simp [yO,szR,Rw.cnt]
 | .give sh e f,k=>by simp [yO,szR,Rw.cnt]
 | .lt sl e,k=>by simp [yO,szR,Rw.cnt]
 | .say e,k=>by simp [yO,szR,Rw.cnt]
 | .off e,k=>by simp [yO,szR,Rw.cnt]
theorem Zv:∀ (r:Rws) (k:Nat),(zr r k).length≤jE r∧r.cnt≤jE r
 | .nil,k=>by simp [zr,jE,Rws.cnt]
 | .cons r rs,k=>by
  have h1:=zdE r k
  have h2:=Zv rs (k + (yO r k).length)
  rw [zr,jE,Rws.cnt,bz]
  lia
end
theorem WK (x:Rw):∀ (r:Rws),jE (r.snoc x)=jE r + szR x
 | .nil=>by show jE (.cons x .nil)=_;simp [jE]
 | .cons y r=>by
  show jE (.cons y (r.snoc x))=_
  rw [jE,jE,WK x r];lia
theorem Zw (C:List Cs) (tb:Pl→Int):∀ (a b:Nat) (s:RSt),Vl C tb (a + b) s=Vl C tb b (Vl C tb a s)
 | 0,b,s=>by rw [Nat.zero_add];rfl
 | a + 1,b,s=>by
  rw [Nat.add_right_comm]
  exact Zw C tb a b (Xg C tb s)
theorem Xs {C:List Cs} {tb:Pl→Int} {s:RSt} (h:yq C s=true):∀ k,Vl C tb k s=s
 | 0=>rfl
 | k + 1=>by
  have e:Xg C tb s=s:=by unfold Xg xF;rw [if_pos h]
  show Vl C tb k (Xg C tb s)=s
  rw [e]
  exact Xs h k
theorem zcg {C:List Cs} {tb:Pl→Int} {s a b:RSt} (ha:Rch C tb s a) (hb:Rch C tb s b) (oa:yq C a=true) (ob:yq C b=true):a=b:=by
 obtain ⟨j,rfl⟩:=ha
 obtain ⟨k,rfl⟩:=hb
 rcases Nat.le_total j k with h | h
 ·obtain ⟨d,rfl⟩:∃ d,k=j + d:=⟨k - j,by lia⟩
  rw [Zw,Xs oa]
 ·obtain ⟨d,rfl⟩:∃ d,j=k + d:=⟨j - k,by lia⟩
  rw [Zw,Xs ob]
theorem zar (c:Cs) (w:Int) (s:RSt):(z7 c w s).gi.length + (z7 c w s).no.length≤s.gi.length + s.no.length + 1:=by
 have z:s.gi.length + s.no.length≤s.gi.length + s.no.length + 1:=by lia
 cases c with
 | go k=>exact z
 | skip e to=>cases hk:rk s.sl e with
  | error x=>simp only [z7,yM,hk];exact z
  | ok i=>simp only [z7,yM,hk];exact z
 | row r =>
  cases r with
  | off e=>cases hk:rk s.sl e with
   | error x=>simp only [z7,yM,hk];exact z
   | ok i =>
    simp only [z7,yM,hk]
    split
    ·exact z
    ·exact z
  | iff e a b=>exact z
  | take sh e x=>cases hk:rk s.sl e with
   | error x=>simp only [z7,yM,doR,hk];exact z
   | ok i =>
    simp only [z7,yM,doR,hk]
    unfold xH
    split
    ·exact z
    ·show s.gi.length + (s.no ++ [((sh,i),w)]).length≤_
     rw [bz,cD];lia
  | give sh e f=>cases hk:rk s.sl e with
   | error x=>simp only [z7,yM,doR,hk];exact z
   | ok i=>cases hk2:rk s.sl f with
    | error x=>simp only [z7,yM,doR,hk,hk2];exact z
    | ok j =>
     simp only [z7,yM,doR,hk,hk2]
     rw [bz,cD];lia
  | lt x e=>cases hk:rk s.sl e with
   | error x=>simp only [z7,yM,doR,hk];exact z
   | ok i=>simp only [z7,yM,doR,hk];exact z
  | say e=>cases hk:rk s.sl e with
   | error x=>simp only [z7,yM,doR,hk];exact z
   | ok i=>simp only [z7,yM,doR,hk];exact z
theorem zdF (C:List Cs) (tb:Pl→Int) (s:RSt):(Xg C tb s).gi.length + (Xg C tb s).no.length≤s.gi.length + s.no.length + 1:=by
 unfold Xg xF
 split
 ·lia
 ·split
  ·lia
  ·exact zar ..
theorem rn0 {C:List Cs}:RnI C 0 st0:=⟨⟨(fun k v e=>by cases e),(fun r h=>nomatch h),(fun r h=>nomatch h),bo _,bo _,bo _,bo _,i7⟩,(fun r h=>nomatch h),(fun r h=>nomatch h),fun _=>b8 _,fun w z=>nomatch z⟩
structure FdS (t:Adr) (H0 H:Hp) (x:Addr) (a:RAd) (C:List Cs) (tb:Pl→Int) (k:Nat) (s:RSt):Prop where
 sm:Same H0 H
 R:RnAt t H x a C s
 I:RnI C k s
 rc:Vl C tb k st0=s
 fw:s.gi.length + s.no.length≤k
 le:k≤C.length
theorem FdS.same {H0 H':Hp} {x:Addr} {a:RAd} {C:List Cs} {tb:Pl→Int} {k:Nat} {s:RSt} (S:FdS t H0 H x a C tb k s) (h:Same H H'):FdS t H0 H' x a C tb k s:=⟨S.sm.trans h,S.R.same h,S.I,S.rc,S.fw,S.le⟩
def fdI (t:Adr) (H0:Hp) (l tl x:Addr) (a:RAd) (C:List Cs) (tb:Pl→Int) (m:Nat) (σ:St) (H:Hp):Prop:=∃ k s,m=C.length - k∧(∃ o,σ=[some (.ref l),some (.ref tl),some (.ref x),o])∧FdS t H0 H x a C tb k s
section
variable {l tl x:Addr} {a:RAd} {xs:List V} {C:List Cs} {rows:List Row} {H0:Hp}
theorem FdS.step {k:Nat} {s:RSt} {tb:Pl→Int} {H1 H2:Hp} (O:zap C) (ow:∀ b,OwA x a b→H0 b=none) (S:FdS t H0 H1 x a C tb k s) (ho:yq C s=false) (hw:inW (Jv C tb s)=true) (k2:Kp x a H1 H2) (R2:RnAt t H2 x a C (xF C (Jv C tb s) s)):FdS t H0 H2 x a C tb (k + 1) (Xg C tb s):=by
 have no:¬ yq C s=true:=by rw [ho];decide
 have lt:=Zr no
 have wn:s.why=none:=by
  cases e:s.why with
  | none=>rfl
  | some v=>exact absurd (show yq C s=true by unfold yq;rw [e];rfl) no
 have:=S.I.at_ wn
 refine ⟨fun b o e=>k2 b o (fun y=>by rw [ow b (.inl y)] at e;cases e) (S.sm _ _ e),R2,zdy O S.I ho hw,?_,?_,by lia⟩
 ·rw [Zw,S.rc];rfl
 ·have:=zdF C tb s
  have:=S.fw
  lia
theorem zdG (h1:H l=some (.lst xs)) (h2:Paired (CsAt H) xs C) (O:zap C) (h4:yk H tl rows) (h5:rows.length≤500) (h6:∀ r∈rows,inW r.2=true) (q:∀ r s H',Same H H'→XQ C rows s→PpAt H H' r s→Q (.ref r) H') :
  KB K t { nx:=fun _ H'=>Q .non H',rt:=Q } (L2.start ["code","table","run","place"] [.ref l,.ref tl]) H:=by
 simp only [KB,kn,zaM,L2.start,zn,zF,zm,zc,zb,zh,b7,bw,bG,bI,bQ,bq,ba,bf,exists_eq_left',V.ref.injEq,bn,and_true,true_and,and_assoc,exists_and_left,br,bu,bL,bE]
 intro x dx hx hd n
 have hdx:H dx=none:=hd
 have n1:∀ b o,H b=some o→b≠x:=fun b o e=>zJ e hx
 have n2:∀ b o,H b=some o→b≠dx:=fun b o e=>zJ e hd
 have s2:Same H (upd (upd H dx (HO.own x)) x (HO.ins t.c_Run dx [])):=fun b o e=>by rw [zj (n1 b o e),zj (n2 b o e)];exact e
 refine ⟨_,ze,xs,s2 _ _ h1,C,xh s2 h2,fun H3 a k3 R3 fr=>?_⟩
 obtain ⟨s3,ow⟩:=zeK (Same.refl H) hx hd k3 fr
 have tl0:∀ s H',RnAt t H' x a C s→True:=fun _ _ _=>trivial
 unfold JZ
 refine ⟨fdI t H l tl x a C (Ju rows),⟨_,0,st0,rfl,⟨_,rfl⟩,s3,R3,rn0,rfl,bo _,b8 _⟩,?_⟩
 rintro m σ H4 ⟨k,s,rfl,⟨o,rfl⟩,S⟩
 simp only [yG,kr,kq,jD,ZN,yu,zn,zF,zm,zA,xi,tOp,zc,tC,zb,zh,vC,zv,tB,tIf,zp,zfa,bq,ba,bb,bf,exists_eq_left',V.int.injEq,V.ref.injEq,V.bl.injEq,bn,and_true,true_and,and_assoc,exists_and_left,br,bu,decide_eq_true_eq,b0,if_true]
 have lc:=O.le
 have lk:=S.le
 refine ⟨_,_,S.R.ix,rfl,a,C,s,S.R,fun H5 s5=>?_⟩
 have S5:=S.same s5
 cases ho:yq C s with
 | true =>
  rw [if_neg (by decide)]
  have l2:=S.I.ok.l2
  have l3:=S.I.ok.l3
  refine ⟨_,_,S5.R.ix,rfl,a,C,s,S5.R,by lia,S.I.ok.nd,by lia,fun H6 z=>(by rw [ho] at z;cases z),fun r o' nl gl out H6 _ s6 fn fg _ hr oc hn hg gi=>?_⟩
  exact q r s H6 (S5.sm.trans s6) ⟨ho,⟨k,S.rc⟩,⟨k,S.le,S.I⟩,bU S.fw S.le⟩ ⟨o',nl,gl,out,hr,oc,hn,hg,gi,zH S5.sm fn,zH S5.sm fg⟩
 | false =>
  rw [if_pos (by decide)]
  refine ⟨fdI t H l tl x a C (Ju rows) (C.length - (k + 1)),fun σ' H' z=>⟨_,?_,z⟩,?_⟩
  ·have:=Zr (C:=C) (s:=s) (by rw [ho];decide)
   have wn:s.why=none:=by
    cases e:s.why with
    | none=>rfl
    | some v=>rw [show yq C s=true by unfold yq;rw [e];rfl] at ho;cases ho
   have:=S.I.at_ wn
   lia
  refine ⟨_,_,S5.R.ix,rfl,a,C,s,S5.R,O.ok,S.I.ok.so,fun H6 ha s6=>?_,fun p q1 H6 ha s6 hq=>?_⟩
  ·have S6:=S5.same s6
   have ew:Jv C (Ju rows) s=0:=by unfold Jv;rw [ha]
   refine ⟨_,_,S6.R.ix,rfl,?_⟩
   refine ⟨k,a,C,s,S6.R,O.ok,S.I.ok,by lia,fun H7 k7 R7=>?_⟩
   rw [← ew] at R7
   exact ⟨k + 1,_,rfl,⟨_,rfl⟩,S6.step O ow ho (by rw [ew];rfl) k7 R7⟩
  ·have S6:=S5.same s6
   have ew:Jv C (Ju rows) s=Ju rows p:=by unfold Jv;rw [ha]
   refine ⟨_,_,S6.R.ix,rfl,?_⟩
   refine ⟨rows,yI h4 S6.sm,h5,p,hq,fun H7 s7=>?_⟩
   have S7:=S6.same s7
   refine ⟨k,a,C,s,S7.R,O.ok,S.I.ok,by lia,fun H8 k8 R8=>?_⟩
   have R9:RnAt t H8 x a C (xF C (Jv C (Ju rows) s) s):=by rw [ew];exact R8
   exact ⟨k + 1,_,rfl,⟨_,rfl⟩,S7.step O ow ho (by rw [ew];exact zbH h6 p) k8 R9⟩
end
def tbI (c:Int) (b d:Addr) (us:List Str) (H:Hp) (i:Nat) (σ:St) (H':Hp):Prop:=∃ rows:List Row,(∃ o1 o2,σ=[some (.int c),some (.ref b),some (.ref d),o1,o2])∧Same H H'∧H' d=some (.dT (dOf rows))∧rows.length≤i∧∀ r∈rows,PS us r.1∧inW r.2=true
theorem Xt {c:Int} {b:Addr} {us:List Str} (h1:NamesAt H b us) (h2:us.length=2) (q:∀ l tab H',Same H H'→H l=none→yk H' l tab→TabI us tab→Q (.ref l) H') :
  vO K t { nx:=fun _ H'=>Q .non H',rt:=Q } (L2.start ["cell","shelves","worths","k","worth"] [.int c,.ref b]) H:=by
 simp only [vO,zl,yi,wf,ZB,ZF,Jk,L2.start,zn,zF,zm,zA,zB,tOp,zc,tC,yt,zb,zh,vD,zK,zv,tCB,zp,vg,yV,rNe,rI,rI0,xq,b7,bw,bG,bI,bQ,bq,ba,bf,exists_eq_left',V.int.injEq,V.ref.injEq,V.bl.injEq,bn,and_true,and_assoc,exists_and_left,br,bu,bL,bE,b0,decide_eq_false_iff_not,eK,fi]
 intro d hd
 have s0:=isV (o:=HO.dT []) d hd
 refine ⟨by decide,by decide,fun r1 H1 a1 b1 s1=>⟨by decide,by lia,by lia,qE (tbI c b d us H) ⟨[],⟨_,_,rfl⟩,s0.trans s1,s1 _ _ ze,bo _,fun _ z=>nomatch z⟩ ?_ ?_⟩⟩
 ·rintro i σ H' hi ⟨rows,⟨o1,o2,rfl⟩,s,hD,hl,hr⟩
  simp only [ba,bb,bf,exists_eq_left',V.int.injEq,V.ref.injEq,true_and,br,bu]
  have hb:(10000000000000000000000000000000000000000000000:Int) < big:=by decide +kernel
  have i6:i < 6:=by lia
  refine ⟨⟨by lia,by lia⟩,by lia,by lia,fun w H2 hw s2=>?_⟩
  refine xc (fun h0=>?_) fun h0=>⟨rows,⟨_,_,rfl⟩,s.trans s2,s2 _ _ hD,by lia,hr⟩
  refine ⟨by lia,by lia,fun r2 H3 a2 b2 s3=>⟨by decide,?_⟩⟩
  obtain ⟨sh,hsh,hus,nsh⟩:=Zu h1 2 h2 (by decide) r2
  refine ⟨_,SqL.of ((s.trans (s2.trans s3)) _ _ h1.1),_,hsh,by lia,by lia,fun r3 H4 a3 b3 s4=>⟨by decide,by decide,fun p hp=>?_⟩⟩
  have s5:=isV (o:=HO.tup [V.str sh,V.int (r3 % 3)]) p hp
  have S5:=s2.trans (s3.trans (s4.trans s5))
  have ld:=x9 rows
  refine ⟨_,DPut.t (k:=zM (sh,r3 % 3)) (S5 _ _ hD) ze (b9 (by lia:_≤900) (by decide)),rows ++ [((sh,r3 % 3),w)],⟨_,_,rfl⟩,yY (s.trans S5) hd,?_,by simp;lia,?_⟩
  ·rw [ze,jd]
  ·intro z hz
   rcases bV.mp hz with hz | hz
   ·exact hr z hz
   ·rw [bP.mp hz]
    exact ⟨⟨hus,cA _ (by decide),cj _ (by decide)⟩,hw⟩
 ·rintro σ H' ⟨rows,⟨o1,o2,rfl⟩,s,hD,hl,hr⟩
  simp only [ba,bb,bf,exists_eq_left',V.ref.injEq]
  refine ⟨_,hD,fun r hr'=>?_⟩
  have s3:=isV (o:=j8 r d) r hr'
  have ld:=x9 rows
  exact ⟨d,ze,rows,s3 _ _ hD,by lia,fun l ys srt H2 s4 fl hl pr ri mi=>q l srt H2 (s.trans (s3.trans s4)) (zH (s.trans s3) fl) ⟨ys,hl,pr⟩ ⟨ri,fun z hz=>hr z (kR ((mi z.1 z.2).mp hz))⟩⟩
theorem WL {J:It} {D:Addr} {τ₀:St} {H1:Hp} {Q:Hp→Prop} {B:V→St→Hp→(V→St→Hp→Prop)→(St→Hp→Prop)→Prop} (n:Nat) (hn:n≤1000000) (C:St→Prop) (R:Nat→List V→Hp→Prop) (hm:∀ i ys H H',(∀ b o,b≠D→H b=some o→H' b=some o)→R i ys H→R i ys H') (hC:C τ₀) (h0:R 0 [] H1)
  (go:∀ i H,Same H1 H→i < n→J.go i H) (stop:∀ H,Same H1 H→J.stop n H) (hD:H1 D=none)
  (hs:∀ i x τ ys H H',C τ→Same H1 H→i < n→R i ys H→H D=some (.lst ys)→J.yld i H x H'→B x τ H' (fun v τ' H4=>C τ'∧R (i + 1) (ys ++ [v]) H4∧Same H H4) (fun τ' H4=>C τ'∧R (i + 1) ys H4∧Same H H4))
  (hd:∀ ys H,ys.length≤n→R n ys H→Same H1 H→H D=some (.lst ys)→Q H) :
  ∃ W:Nat→Nat→List V→St→Hp→Prop,(∃ m,W 0 m [] τ₀ (upd H1 D (.lst [])))∧∀ i m ys τ H,W i m ys τ H→H D=some (.lst ys) ∧
  ((J.stop i H∧Q H)∨(J.go i H∧ys.length < sizeLine∧∃ N:V→St→Hp→Prop,
   (∀ v τ' H',N v τ' H'→H' D=some (.lst ys)∧∃ m',m' < m∧W (i + 1) m' (ys ++ [v]) τ' (upd H' D (.lst (ys ++ [v]))))∧∃ Nf:St→Hp→Prop,(∀ τ' H',Nf τ' H'→∃ m',m' < m∧W (i + 1) m' ys τ' H') ∧
   ∀ x H',J.yld i H x H'→B x τ H' N Nf)):=by
 have ext:∀ {H:Hp} {o:HO},Same H1 H→Same H1 (upd H D o):=fun {H o} h b u e=>by
  rw [zj (zJ e hD)];exact h b u e
 refine ⟨fun i m ys τ H=>m=n - i∧i≤n∧ys.length≤i∧R i ys H∧Same H1 H∧H D=some (.lst ys)∧C τ,⟨n,by simp,b8 _,bo _,hm _ _ _ _ (fun b o hb e=>by rw [zj hb];exact e) h0,ext (Same.refl _),ze,hC⟩,?_⟩
 rintro i m ys τ H ⟨rfl,hi,hl,hR,hS,hy,hc⟩
 refine ⟨hy,?_⟩
 by_cases hlt:i < n
 ·refine .inr ⟨go i H hS hlt,b9 (by lia:ys.length≤1000000) (by decide),_,?_,_,?_,fun x H' y=>hs i x τ ys H H' hc hS hlt hR hy y⟩
  ·rintro v τ' H4 ⟨c4,r4,s4⟩
   have y4:=s4 _ _ hy
   exact ⟨y4,n - (i + 1),by lia,rfl,hlt,by simp;lia,hm _ _ _ _ (fun b o hb e=>by rw [zj hb];exact e) r4,ext (hS.trans s4),ze,c4⟩
  ·rintro τ' H4 ⟨c4,r4,s4⟩
   exact ⟨n - (i + 1),by lia,rfl,hlt,by lia,r4,hS.trans s4,s4 _ _ hy,c4⟩
 ·obtain rfl:i=n:=by lia
  exact .inl ⟨stop H hS,hd ys H hl hR hS hy⟩
def psL (us:List Str):List Pl:=us.flatMap fun w=>[(w,0),(w,1),(w,2)]
theorem zch {us:List Str} {p:Pl} (h:PS us p):p∈psL us:=by
 obtain ⟨x,n⟩:=p
 obtain ⟨h1,h2,h3⟩:=h
 have h1:x∈us:=h1
 have h2:0≤n:=h2
 have h3:n < 3:=h3
 refine List.mem_flatMap.mpr ⟨x,h1,?_⟩
 have:n=0∨n=1∨n=2:=by lia
 rcases this with rfl | rfl | rfl <;> simp
theorem QH {us:List Str} (h:us.length=2):(psL us).length=6:=by
 match us,h with
 | [a,b],_=>rfl
theorem zeO {us:List Str} (h:us.length=2) {rows:List Row} (hr:∀ r∈rows,PS us r.1):(dOf rows).length≤6:=by
 obtain ⟨qs,e,nd,hm⟩:=JH rows
 have l:(dOf rows).length=qs.length:=by have:=congrArg bG e;simpa using this
 rw [l,← QH h]
 refine kY nd fun p hp=>zch ?_
 obtain ⟨w,hw⟩:=c6.mp ((hm p).mp hp)
 exact hr _ (kR hw)
theorem TabI.len {us:List Str} {tab:List Row} (h:TabI us tab) (hu:us.length=2):tab.length≤6:=by
 have:=kY h.ri.nd (b:=psL us) fun p hp=>by
  obtain ⟨q,hq,rfl⟩:=cm.mp hp
  exact zch (h.ps q hq).1
 rw [bt,QH hu] at this
 exact this
theorem zeP {i:Nat} {j c:Int} (hj:0≤j) (hc:0 < c) (h:i < Y5 0 j c):(i:Int) * c < j:=by
 unfold Y5 at h
 split at h
 ·have h2:(i:Int)≤(j - 0 - 1) / c:=by lia
  have h3:=(Int.le_ediv_iff_mul_le hc).mp h2
  lia
 ·lia
theorem zdH (ns:List Int) (k m:Nat) (hk:k < ns.length) (hm:1≤m):∃ ys:List Int,Yf (ns.map V.int) (some (k:Int)) (some ((k + m:Nat):Int))=ys.map V.int∧ys.length≤m:=by
 refine ⟨(ns.drop k).take m,?_,?_⟩
 ·unfold Yf
  rw [bt,HT.sIx_nat,HT.sIx_nat,lW,lX,eS (by lia:k≤ns.length)]
  by_cases c:k + m≤ns.length
  ·rw [eS c,Nat.add_sub_cancel_left]
  ·rw [fZ (by lia)]
   rw [cx (by simp),cx (by simp;lia)]
 ·rw [cM];lia
def csD:Cs→PyData
 | .row r=>rwD r
 | .skip e to=>.tuple [.str "skip",jf e,.int (to:Nat)]
 | .go en=>.tuple [.str "go",.int (en:Nat)]
theorem zeQ {v:V} {c:Cs} (h:CsAt H v c) (p:csP c):Dat K H v (csD c):=by
 cases c with
 | row r=>exact zbJ r h.1 p.1
 | skip e to =>
  obtain ⟨q,te,rfl,h2,h3⟩:=h
  exact .tup (SqT.of h2) (.cons (.str _) (.cons (wm h3 p) (.cons (.int _) .nil)))
 | go en =>
  obtain ⟨q,rfl,h2⟩:=h
  exact .tup (SqT.of h2) (.cons (.str _) (.cons (.int _) .nil))
theorem QI:∀ {xs:List V} {C:List Cs},Paired (CsAt H) xs C→(∀ c∈C,csP c)→DatAll K H xs (C.map csD)
 | _,_,.nil,_=>.nil
 | _,_,.cons h r,p=>.cons (zeQ h (p _ bF)) (QI r fun c hc=>p c (bB _ hc))
theorem zci:b6 "skip"=true:=by decide +kernel
theorem zeR:b6 "go"=true:=by decide +kernel
theorem zcj {c:Cs} (p:csP c):zy (csD c)=true∧(csD c).depth≤3:=by
 cases c with
 | row r =>
  have d0:r.deep=0:=by
   have:=p.2
   cases r <;> first | exact this.elim | simp [Rw.deep]
  have:=Qu r
  exact ⟨Jn r p.1,by show (rwD r).depth≤3;lia⟩
 | skip e to=>exact ⟨by simp [csD,zy,zE,zci,y8 p],by have:=xx e;simp [csD,cr,bO];lia⟩
 | go en=>exact ⟨by simp [csD,zy,zE,zeR],by simp [csD,cr,bO]⟩
theorem WM:∀ {C:List Cs},(∀ c∈C,csP c)→zE (C.map csD)=true∧bO (C.map csD)≤3
 | [],_=>by simp [zE,bO]
 | c :: C,p=>by
  have h1:=zcj (p c bF)
  have h2:=WM (C:=C) fun x hx=>p x (bB _ hx)
  rw [bW,zE,bO,h1.1,h2.1]
  exact ⟨rfl,by lia⟩
mutual
theorem zdI:∀ (r:Rw) (k:Nat),xT r→∀ c∈yO r k,csP c
 | .iff e a b,k,p,c,hc=>by
  unfold xT at p
  rw [yO] at hc
  unfold blk at hc
  split at hc
  ·rcases bR.mp hc with rfl | hc
   ·exact p.1
   ·exact kS a _ p.2.1 c hc
  ·rcases bR.mp hc with rfl | hc
   ·exact p.1
   rcases bV.mp hc with hc | hc
   ·exact kS a _ p.2.1 c hc
   rcases bR.mp hc with rfl | hc
   ·trivial
   ·exact kS b _ p.2.2 c hc
 | .take sh e sl,k,p,c,hc=>by rw [yc (x:=.take sh e sl) trivial,bP] at hc;rw [hc];exact ⟨p,trivial⟩
 | .give sh e f,k,p,c,hc=>by rw [yc (x:=.give sh e f) trivial,bP] at hc;rw [hc];exact ⟨p,trivial⟩
 | .lt sl e,k,p,c,hc=>by rw [yc (x:=.lt sl e) trivial,bP] at hc;rw [hc];exact ⟨p,trivial⟩
 | .say e,k,p,c,hc=>by rw [yc (x:=.say e) trivial,bP] at hc;rw [hc];exact ⟨p,trivial⟩
 | .off e,k,p,c,hc=>by rw [yc (x:=.off e) trivial,bP] at hc;rw [hc];exact ⟨p,trivial⟩
theorem kS:∀ (r:Rws) (k:Nat),y6 r→∀ c∈zr r k,csP c
 | .nil,k,p,c,hc=>by rw [zr] at hc;cases hc
 | .cons r rs,k,p,c,hc=>by
  unfold y6 at p
  rw [zr] at hc
  rcases bV.mp hc with hc | hc
  ·exact zdI r k p.1 c hc
  ·exact kS rs _ p.2 c hc
end
theorem zeS {C:List Cs} {m:Nat} {s:RSt} (I:RnI C m s):∀ w,ZM s=.off w→b6 w=true:=fun w z=>by
 unfold ZM at z
 cases e:s.why with
 | none=>rw [e] at z;cases z
 | some v=>rw [e] at z;cases z;exact I.wy _ e
theorem zeT {C:List Cs} {m:Nat} {s:RSt} {out:List Row} (I:RnI C m s) (h:w4 s out):∀ r∈out,inW r.2=true:=by
 unfold w4 at h
 cases e:s.why with
 | some w=>rw [e] at h;rw [h];exact fun r hr=>nomatch hr
 | none =>
  rw [e] at h
  intro r hr
  exact k9 (P:=fun r=>inW r.2=true) I.ok.gw ((h.2 r.1 r.2).mp hr)
theorem JJ (xs:List V) (n:Nat):Yf xs none (some (n:Int))=xs.take n:=by
 unfold Yf
 rw [HT.sIx_none,HT.sIx_nat,i8,og]
 by_cases c:n≤xs.length
 ·rw [eS c]
 ·rw [fZ (by lia),cx (bo _),cx (by lia)]
theorem JK {H H':Hp} (s:Same H H') {xs:List V} {rows:List Row} (h:Paired (PrAt H) xs rows):Paired (PrAt H') xs rows:=Paired.mapP h fun _ _ ⟨r,p,e,h1,h2⟩=>⟨r,p,e,s _ _ h1,s _ _ h2⟩
def cIt (its:List Row) (i:Nat) (ys:List V) (H:Hp):Prop:=Paired (PrAt H) ys ((its.take i).filter fun r=>decide (r.2≠0))
theorem zdJ {H1:Hp} {d p:Addr} {rows:List Row} {q:Row} (hd:H1 d=some (.dT (dOf rows))) (hp:H1 p=some (.tup [.str q.1.1,.int q.1.2])) (hl:rows.length≤1000):DPut H1 d (.ref p) (.int q.2) (upd H1 d (.dT (dOf (rows ++ [q])))):=by
 rw [jd]
 have:=x9 rows
 exact DPut.t (k:=zM q.1) hd hp (b9 (by lia:(dOf rows).length≤1000) (by decide))
theorem zck {P:Nat→Bool} {x:Str} (h:wp P x) (u:Tok):wp P (fh x none none (-1,u)):=by
 unfold wp at *
 rw [fU]
 rw [dm] at *
 intro c hc
 obtain ⟨k,hk,rfl⟩:=cm.mp hc
 have hk:=dW.mp hk
 refine h _ ?_
 have hlt:x.length - 1 - k < x.cps.size:=by show _ < x.length;lia
 rw [iJ,cu hlt]
 exact Array.getElem_mem_toList ..
theorem zdK (x:Str) (u:Tok):fh x none none (-1,u)=fh x none none (-1,0):=by
 have h:=(fU x u).trans (fU x 0).symm
 generalize fh x none none (-1,u)=y at *
 generalize fh x none none (-1,0)=z at *
 obtain ⟨y⟩:=y
 obtain ⟨z⟩:=z
 exact congrArg Str.mk (gc.mp h)
def c21:Str:="zyxwvtsrqpnmlkjhgfdcb"
theorem KJ (e:Int):∃ c,atI c21.cps.toList (e % 21)=some c∧inC c=true:=by
 have g1:=cA e (b:=21) (by decide)
 have g2:=cj e (b:=21) (by decide)
 obtain ⟨v,h1,h2⟩:=Qz (xs:=c21.cps.toList) (i:=e % 21) g1 (by rw [show c21.cps.toList.length=21 from by decide +kernel];exact g2)
 exact ⟨v,h1,zfp v h2⟩
theorem zas {c:Int} {x y:Str} (lx:x.length=2) (ly:y.length=1) (px:wp inC x) (py:wp inC y) (q:∀ nm ws H',Same H H'→NamesAt H' nm ws→ws.length=2→Q (.ref nm) H') :
  xJ K t { nx:=fun _ H'=>Q .non H',rt:=Q } [some (.int c),some (.int 2),some (.str "zyxwvtsrqpnmlkjhgfdcb"),some (.str x),some (.str y),none,none] H:=by
 simp only [xJ,vq,zl,zbU,zn,zF,zm,zA,tOp,tUn,zc,tC,yK,zb,zh,zp,xM,Yi,Yh,vg,yV,rI,rI0,rU,jQ,b7,bw,bG,bI,bQ,bq,ba,bb,bf,exists_eq_left',V.int.injEq,V.str.injEq,bn,and_true,true_and,and_assoc,exists_and_left,br,bu,bE,iR,eK,fi,if_true]
 have lr:(fh x none none (-1,0)).length=x.length:=PyProof.Rows.step_rev_len x 0
 have pr:=zck px 0
 refine ⟨zU (by lia),zU (by lia),_,zdK x,zU (by lia),by decide,fun p hp=>⟨by decide,by decide,fun r H1 r0 r1 s1=>⟨by decide,by decide,by decide,fun D hD=>?_⟩⟩⟩
 have hp1:=s1 _ _ (ze (H:=H) (a:=p) (o:=HO.lst [V.str x,V.str (y ++ x),V.str (fh x none none (-1,0)),V.str (x ++ y)]))
 have S1:Same H H1:=(isV p hp).trans s1
 have nmz:∀ v∈[V.str x,V.str (y ++ x),V.str (fh x none none (-1,0)),V.str (x ++ y)],nmV v:=fun v hv=>by
  simp only [bR,de,or_false] at hv
  rcases hv with rfl | rfl | rfl | rfl
  ·exact ⟨_,rfl,qa (by lia) (by lia) (.inr px)⟩
  ·exact ⟨_,rfl,qa (by rw [xE];lia) (by rw [xE];lia) (.inr (vf py px))⟩
  ·exact ⟨_,rfl,qa (by lia) (by lia) (.inr pr)⟩
  ·exact ⟨_,rfl,qa (by rw [xE];lia) (by rw [xE];lia) (.inr (vf px py))⟩
 generalize hM:[V.str x,V.str (y ++ x),V.str (fh x none none (-1,0)),V.str (x ++ y)]=M at *
 have lM:M.length=4:=by rw [← hM];rfl
 refine V0 (J:=Itr 0 2) 2 (by decide) (fun τ=>∃ o,τ=[o,some (.ref p),some (.int (r % 4))]) (fun i v=>nmV v) ⟨_,rfl⟩ (fun i H _ h=>h) (fun H _=>bo _) hD ?_ ?_
 ·rintro i v τ H2 H' ⟨o,rfl⟩ s hi ⟨rfl,rfl⟩
  simp only [ba,bb,bf,exists_eq_left',V.int.injEq,V.ref.injEq,bn,and_true,br]
  obtain ⟨v,hv,hm⟩:=Vm (r % 4 + (0 + (i:Int))) 4 (xs:=M) lM (by decide)
  exact ⟨by decide,_,SqL.of (s _ _ hp1),v,hv,⟨_,rfl⟩,nmz v hm,Same.refl _⟩
 ·intro ys H' hly hv s hq
  obtain ⟨ls,rfl,hp⟩:=Vv (P:=fun x=>yf x=true) (ys:=ys) fun v hv2=>by
   obtain ⟨i,hi⟩:=dQ hv2
   exact hv i v hi
  rw [bt] at hly
  exact q D ls H' (S1.trans s) ⟨hq,hp⟩ hly
theorem ZZ {c:Int} (q:∀ nm ws H',Same H H'→NamesAt H' nm ws→ws.length=2→Q (.ref nm) H') :
  wz K t { nx:=fun _ H'=>Q .non H',rt:=Q } (L2.start ["cell","many","signs","stem","more","some","turn"] [.int c,.int 2]) H:=by
 simp only [wz,vt,xm,zl,L2.start,zn,zF,zm,zA,zB,tOp,zc,tC,zb,zh,zK,zv,zp,WS,rI,rI0,jQ,b7,bw,bG,bI,bQ,bq,ba,bb,bf,exists_eq_left',V.int.injEq,V.str.injEq,V.bl.injEq,bn,and_true,and_assoc,exists_and_left,br,bu,bL,bE,decide_eq_true_eq]
 refine ⟨by decide,by decide,fun r H1 _ _ s1=>⟨by decide,xc (fun _=>⟨by decide,by decide,fun nm ws H2 s2 hn hl=>q nm ws H2 (s1.trans s2) hn (by lia)⟩) fun _=>⟨by decide,by decide,fun r2 H2 _ _ s2=>?_⟩⟩⟩
 have sz:(bg "zyxwvtsrqpnmlkjhgfdcb").length≤sizeLine:=by decide +kernel
 obtain ⟨c1,e1,i1⟩:=KJ r2
 refine ⟨by decide,sz,c1,e1,by decide,by decide,fun r3 H3 _ _ s3=>?_⟩
 obtain ⟨c2,e2,i2⟩:=KJ r3
 refine ⟨by decide,sz,c2,e2,zU (by rw [wc,wc];decide),by decide,by decide,fun r4 H4 _ _ s4=>?_⟩
 obtain ⟨c3,e3,i3⟩:=KJ r4
 refine ⟨by decide,sz,c3,e3,?_⟩
 exact zas (by rw [xE,wc,wc]) (wc _) (vf (kP i1) (kP i2)) (kP i3) fun nm ws H5 s5 hn hl=>q nm ws H5 (s1.trans (s2.trans (s3.trans (s4.trans s5)))) hn hl
def tw5:List V:=[V.str (bg "plus"),V.str (bg "minus"),V.str (bg "times"),V.str (bg "over"),V.str (bg "same")]
theorem zeU (r:Int):∃ w:Str,atI tw5 (r % 5)=some (.str w)∧wdJ w:=by
 obtain ⟨x,hx,hm⟩:=Vm r 5 (xs:=tw5) rfl (by decide)
 unfold tw5 at hm
 simp only [bR,de,or_false] at hm
 rcases hm with rfl | rfl | rfl | rfl | rfl <;> exact ⟨_,hx,by decide +kernel,by decide +kernel,by decide +kernel⟩
theorem XW {c j:Int} {a:Addr} {ws:List Str} (h1:0≤j) (h2:j≤700) (h3:NamesAt H a ws) (h4:ws.length=2) (q:∀ p e H',Same H H'→H p=none→H' p=some (.tup e)→TermOk e→tmP e→Q (.ref p) H') :
  jI K t { nx:=fun _ H'=>Q .non H',rt:=Q } (L2.start ["cell","j","slots","slot","kind","words"] [.int c,.int j,.ref a]) H:=by
 simp only [jI,zl,yi,L2.start,zn,zF,zm,zA,zB,tOp,zc,tC,yK,yt,zb,zh,zK,zv,zp,yV,rEq,rI,rI0,xq,b7,bw,bG,bI,bQ,bq,ba,bb,bf,exists_eq_left',V.int.injEq,V.ref.injEq,V.bl.injEq,bn,and_true,true_and,and_assoc,exists_and_left,br,bu,bL,bE,decide_eq_true_eq]
 refine ⟨h1,by lia,fun r1 H1 _ _ s1=>⟨by decide,?_⟩⟩
 obtain ⟨x,hx,_,nx⟩:=Zu (h3.same s1) 2 h4 (by decide) r1
 obtain ⟨t1,p1⟩:=WJ (u:=.str x) (.inr ⟨x,rfl,nx⟩)
 refine ⟨_,SqL.of (s1 _ _ h3.1),_,hx,by lia,by lia,fun r2 H2 _ _ s2=>⟨by decide,xc (fun _=>⟨by decide,fun p hp=>?_⟩) fun _=>xc (fun _=>⟨by lia,by lia,fun w H3 hw s3=>⟨by decide,fun p hp=>?_⟩⟩) fun _=>⟨by decide,fun l hl=>⟨by lia,by lia,fun w H3 hw s3=>⟨by lia,by lia,fun r4 H4 _ _ s4=>⟨by decide,?_⟩⟩⟩⟩⟩⟩
 ·have S:=s1.trans s2
  exact q p [.str x] _ (S.trans (isV p hp)) (zH S hp) ze t1 p1
 ·have S:=s1.trans (s2.trans s3)
  obtain ⟨t2,p2⟩:=WJ (u:=.int w) (.inl ⟨w,rfl,hw⟩)
  exact q p [.int w] _ (S.trans (isV p hp)) (zH S hp) ze t2 p2
 ·have s0:=isV (o:=HO.lst tw5) l hl
  have e0:upd H2 l (HO.lst tw5) l=some (.lst tw5):=ze
  obtain ⟨y,hy,jy⟩:=zeU r4
  refine ⟨tw5,SqL.of ((s3.trans s4) _ _ e0),_,hy,by decide,fun p hp=>?_⟩
  have S:=s1.trans (s2.trans (s0.trans (s3.trans s4)))
  obtain ⟨t2,p2⟩:=WJ (u:=.int w) (.inl ⟨w,rfl,hw⟩)
  exact q p ([.str x] ++ [.int w] ++ [.str y]) _ (S.trans (isV p hp)) (zH S hp) ze (WI t1 t2 jy (by simp)) (QE p1 p2 jy)
section
variable {c kd n:Int} {a b sp:Addr} {ws us:List Str} {sh sl:Str} {Hb:Hp}
theorem zcl (h3:NamesAt H a ws) (h4:ws.length=2) (nsh:yf sh=true) (nsl:yf sl=true) (hsh:sh∈us) (hn:0≤n∧n < 3) (hp:H sp=some (.tup [.int n])) (fs:Hb sp=none) (S:Same Hb H)
  (q:∀ v r H',Same Hb H'→RwAt (fun b=>Hb b=none) H' v r→rwW us r→Q v H') :
  vP K t { nx:=fun _ H'=>Q .non H',rt:=Q } [some (.int c),some (.ref a),some (.ref b),some (.int kd),some (.str sh),some (.str sl),some (.ref sp)] H:=by
 simp only [vP,yU,yi,zn,zA,zB,tOp,zc,tC,yK,yt,zb,zh,zK,zv,zp,rEq,rI0,xq,bG,bq,ba,bb,bf,exists_eq_left',V.int.injEq,V.ref.injEq,V.bl.injEq,bn,and_true,true_and,and_assoc,exists_and_left,bE,decide_eq_true_eq]
 obtain ⟨te,pe⟩:=WJ (u:=.int n) (.inl ⟨n,rfl,inW_iff.mpr (by lia)⟩)
 have inn:∀ {f:List V},qM (PS us) (.give sh [.int n] f):=fun {f}=>by
  unfold qM
  intro kvs m e
  have e:(Except.ok n:Except Er Int)=.ok m:=e
  cases e
  exact ⟨hsh,hn⟩
 obtain ⟨ts,ps⟩:=WJ (u:=.str sl) (.inr ⟨sl,rfl,nsl⟩)
 refine xc (fun _=>⟨by decide,fun r hr=>?_⟩) fun _=>xc (fun _=>⟨by decide,by decide,ws,h3,h4,fun p2 f H2 s2 fp2 hp2 tf pf=>⟨by decide,fun r hr=>?_⟩⟩) fun _=>xc (fun _=>⟨by decide,by decide,ws,h3,h4,fun p f H1 s1 fp hp te pe=>⟨by decide,fun r hr=>?_⟩⟩) fun _=>xc (fun _=>⟨by decide,by decide,fun w H2 hw s2=>⟨by decide,fun p hp=>⟨by decide,fun r hr=>?_⟩⟩⟩) fun _=>xc (fun _=>⟨by decide,by decide,ws,h3,h4,fun p1 e1 H1 s1 fp1 hp1 te1 pe1=>⟨by decide,by decide,ws,h3.same s1,h4,fun p2 f H2 s2 fp2 hp2 tf pf=>⟨by decide,fun g hg=>⟨by decide,fun l hl=>⟨by decide,fun l2 hl2=>⟨by decide,fun r hr=>?_⟩⟩⟩⟩⟩⟩) fun _=>⟨by decide,by decide,ws,h3,h4,fun p f H1 s1 fp hp te pe=>⟨by decide,fun r hr=>?_⟩⟩
 ·exact q _ (.take sh [.int n] sl) _ (S.trans (isV r hr)) ⟨r,sp,rfl,zH S hr,fs,ze,isV r hr _ _ hp⟩ ⟨by simp [Rw.deep],⟨jN nsh,pe,jN nsl⟩,te,by simp [szR],by unfold qM;trivial⟩
 ·exact q _ (.give sh [.int n] f) _ (S.trans (s2.trans (isV r hr))) ⟨r,sp,p2,rfl,zH (S.trans s2) hr,fs,zH S fp2,ze,(s2.trans (isV r hr)) _ _ hp,isV r hr _ _ hp2⟩ ⟨by simp [Rw.deep],⟨jN nsh,pe,pf⟩,⟨te,tf⟩,by simp [szR],inn⟩
 ·exact q _ (.lt sl f) _ (S.trans (s1.trans (isV r hr))) ⟨r,p,rfl,zH (S.trans s1) hr,zH S fp,ze,isV r hr _ _ hp⟩ ⟨by simp [Rw.deep],⟨jN nsl,pe⟩,te,by simp [szR],by unfold qM;trivial⟩
 ·have T:=S.trans s2
  have s3:=isV (o:=HO.tup [V.str sl,V.int w,V.str (bg "same")]) p hp
  have jw:wdJ (bg "same"):=⟨by decide +kernel,by decide +kernel,by decide +kernel⟩
  obtain ⟨t2,p2⟩:=WJ (u:=.int w) (.inl ⟨w,rfl,hw⟩)
  exact q _ (.off ([.str sl] ++ [.int w] ++ [.str (bg "same")])) _ (T.trans (s3.trans (isV r hr))) ⟨r,p,rfl,zH (T.trans s3) hr,zH T hp,ze,isV r hr _ _ ze⟩ ⟨by simp [Rw.deep],(by unfold xT;exact QE ps p2 jw),(by unfold j7;exact WI ts t2 jw (by simp)),by simp [szR],by unfold qM;trivial⟩
 ·have s3:=isV (o:=HO.tup [V.str (bg "give"),V.str sh,V.ref sp,V.ref p2]) g hg
  have e3:upd H2 g (HO.tup [V.str (bg "give"),V.str sh,V.ref sp,V.ref p2]) g=some (.tup [V.str (bg "give"),V.str sh,V.ref sp,V.ref p2]):=ze
  generalize upd H2 g (HO.tup [V.str (bg "give"),V.str sh,V.ref sp,V.ref p2])=H3 at *
  have s4:=isV (o:=HO.lst [V.ref g]) l hl
  have e4:upd H3 l (HO.lst [V.ref g]) l=some (.lst [V.ref g]):=ze
  generalize upd H3 l (HO.lst [V.ref g])=H4 at *
  have s5:=isV (o:=HO.lst []) l2 hl2
  have e5:upd H4 l2 (HO.lst []) l2=some (.lst []):=ze
  generalize upd H4 l2 (HO.lst [])=H5 at *
  have s6:=isV (o:=HO.tup [V.str (bg "if"),V.ref p1,V.ref l,V.ref l2]) r hr
  have e6:upd H5 r (HO.tup [V.str (bg "if"),V.ref p1,V.ref l,V.ref l2]) r=some (.tup [V.str (bg "if"),V.ref p1,V.ref l,V.ref l2]):=ze
  generalize upd H5 r (HO.tup [V.str (bg "if"),V.ref p1,V.ref l,V.ref l2])=H6 at *
  have U:=s4.trans (s5.trans s6)
  have W:=s3.trans U
  have W2:=s1.trans (s2.trans W)
  have T2:=S.trans (s1.trans s2)
  refine q _ (.iff e1 (.cons (.give sh [.int n] f) .nil) .nil) H6 (S.trans W2) ?_ ⟨by simp [Rw.deep,Rws.deep],?_,?_,by simp [szR,jE],?_⟩
  ·unfold RwAt
   refine ⟨r,p1,l,l2,[.ref g],[],rfl,zH (T2.trans (s3.trans (s4.trans s5))) hr,zH S fp1,zH (T2.trans s3) hl,zH (T2.trans (s3.trans s4)) hl2,e6,(s2.trans W) _ _ hp1,(s5.trans s6) _ _ e4,?_,s6 _ _ e5,by unfold RwsAt;rfl⟩
   unfold RwsAt
   exact ⟨_,_,rfl,⟨g,sp,p2,rfl,zH T2 hg,fs,zH (S.trans s1) fp2,U _ _ e3,W2 _ _ hp,W _ _ hp2⟩,by unfold RwsAt;rfl⟩
  ·unfold xT y6
   exact ⟨pe1,⟨⟨jN nsh,pe,pf⟩,trivial⟩,trivial⟩
  ·unfold j7 wk
   exact ⟨te1,⟨⟨te,tf⟩,trivial⟩,trivial⟩
  ·unfold qM wJ
   exact ⟨⟨inn,trivial⟩,trivial⟩
 ·exact q _ (.say f) _ (S.trans (s1.trans (isV r hr))) ⟨r,p,rfl,zH (S.trans s1) hr,zH S fp,ze,isV r hr _ _ hp⟩ ⟨by simp [Rw.deep],pe,te,by simp [szR],by unfold qM;trivial⟩
end
theorem Vx {c:Int} {a b:Addr} {ws us:List Str} (h1:NamesAt H a ws) (h2:ws.length=2) (h3:NamesAt H b us) (h4:us.length=2) (q:∀ v r H',Same H H'→RwAt (fun b=>H b=none) H' v r→rwW us r→Q v H') :
  kz K t { nx:=fun _ H'=>Q .non H',rt:=Q } (L2.start ["cell","slots","shelves","kind","shelf","slot","place"] [.int c,.ref a,.ref b]) H:=by
 simp only [kz,zl,L2.start,zn,zF,zm,tOp,zc,tC,yt,zb,zh,zp,yV,rI,b7,bw,bG,bI,bQ,bq,ba,bb,bf,exists_eq_left',V.int.injEq,V.ref.injEq,bn,and_true,and_assoc,exists_and_left,br,bu,bL,bE]
 refine ⟨by decide,by decide,fun r1 H1 a1 b1 s1=>⟨by decide,by decide,by decide,fun r2 H2 a2 b2 s2=>⟨by decide,?_⟩⟩⟩
 obtain ⟨x,hx,mx,nx⟩:=Zu (h3.same (s1.trans s2)) 2 h4 (by decide) r2
 refine ⟨_,SqL.of ((s1.trans s2) _ _ h3.1),_,hx,by decide,by decide,fun r3 H3 a3 b3 s3=>⟨by decide,?_⟩⟩
 have S:=s1.trans (s2.trans s3)
 obtain ⟨y,hy,_,ny⟩:=Zu (h1.same S) 2 h2 (by decide) r3
 refine ⟨_,SqL.of (S _ _ h1.1),_,hy,by decide,by decide,fun r4 H4 a4 b4 s4=>⟨by decide,by decide,fun sp hsp=>?_⟩⟩
 have S5:=S.trans (s4.trans (isV (o:=HO.tup [V.int (r4 % 3)]) sp hsp))
 exact zcl (h1.same S5) h2 nx ny mx ⟨by lia,by lia⟩ ze (zH (S.trans s4) hsp) S5 q
mutual
theorem zdL {P:Pl→Prop}:∀ (r:Rw) (k:Nat),qM P r→∀ c∈yO r k,zb0 P c
 | .iff e a b,k,p,c,hc=>by
  unfold qM at p
  rw [yO] at hc
  unfold blk at hc
  split at hc
  ·rcases bR.mp hc with rfl | hc
   ·trivial
   ·exact kT a _ p.1 c hc
  ·rcases bR.mp hc with rfl | hc
   ·trivial
   ·rcases bV.mp hc with hc | hc
    ·exact kT a _ p.1 c hc
    ·rcases bR.mp hc with rfl | hc
     ·trivial
     ·exact kT b _ p.2 c hc
 | .take sh e sl,k,p,c,hc=>by rw [yc (x:=.take sh e sl) trivial] at hc;rw [bP.mp hc];exact p
 | .give sh e f,k,p,c,hc=>by rw [yc (x:=.give sh e f) trivial] at hc;rw [bP.mp hc];exact p
 | .lt sl e,k,p,c,hc=>by rw [yc (x:=.lt sl e) trivial] at hc;rw [bP.mp hc];exact p
 | .say e,k,p,c,hc=>by rw [yc (x:=.say e) trivial] at hc;rw [bP.mp hc];exact p
 | .off e,k,p,c,hc=>by rw [yc (x:=.off e) trivial] at hc;rw [bP.mp hc];exact p
theorem kT {P:Pl→Prop}:∀ (r:Rws) (k:Nat),wJ P r→∀ c∈zr r k,zb0 P c
 | .nil,k,p,c,hc=>by rw [zr] at hc;cases hc
 | .cons r rs,k,p,c,hc=>by
  unfold wJ at p
  rw [zr] at hc
  rcases bV.mp hc with hc | hc
  ·exact zdL r _ p.1 c hc
  ·exact kT rs _ p.2 c hc
end
structure rwsW (us:List Str) (n:Nat) (r:Rws):Prop where
 dp:r.deep≤1
 pl:y6 r
 ok:wk r
 sz:jE r≤3 * n
 ps:wJ (PS us) r
theorem QJ {P:Pl→Prop} {x:Rw} (hx:qM P x):∀ (r:Rws),wJ P r→wJ P (r.snoc x)
 | .nil,_=>by show wJ P (.cons x .nil);unfold wJ;exact ⟨hx,by unfold wJ;trivial⟩
 | .cons y r,h=>by
  unfold wJ at h
  show wJ P (.cons y (r.snoc x))
  unfold wJ
  exact ⟨h.1,QJ hx r h.2⟩
theorem rwsW.snoc {us:List Str} {n:Nat} {r:Rws} {x:Rw} (h:rwsW us n r) (hx:rwW us x):rwsW us (n + 1) (r.snoc x) :=
 ⟨by have:=h.dp;have:=hx.dp;rw [Wx];lia,Qw hx.pl r h.pl,Qv hx.ok r h.ok,by have:=h.sz;have:=hx.sz;rw [WK];lia,QJ hx.ps r h.ps⟩
theorem rwsW.cc {us:List Str} {n:Nat} {r:Rws} (h:rwsW us n r) (hn:n≤8):Yp 6 r∧(zr r 0).length≤24∧KA us (zr r 0):=by
 have z:=Zv r 0
 have:=h.sz
 have:=h.dp
 have R:Yp 6 r:=⟨by lia,by lia,h.pl⟩
 exact ⟨R,by lia,zfq R h.ok (by lia),kS r 0 h.pl,kT r 0 h.ps⟩
def cRw (D:Addr) (us:List Str) (i:Nat) (ys:List V) (H:Hp):Prop:=∃ R,RwsAt (fun b=>b≠D) H ys R∧rwsW us i R
def CoN (l:Addr) (H:Hp) (v:V) (C:List Cs):Prop:=∃ a ys,v=.ref a∧a≠l∧H a=some (.lst ys)∧Paired (CsAt H) ys C
def lcI (a sa sb cl l:Addr) (mn:Int) (us:List Str) (H0:Hp) (i:Nat) (σ:St) (H:Hp):Prop:=∃ xs CC,(∃ o6,σ=[some (.ref a),some (.ref sa),some (.ref sb),some (.int mn),some (.ref cl),some (.ref l),o6])∧Same H0 H∧H l=some (.lst xs)∧Paired (CoN l H) xs CC∧(∀ C∈CC,KA us C)∧CC.length=i
section
variable {a sa sb:Addr} {ws us:List Str} {ns:List Int}
theorem CoN.same {l:Addr} {H H':Hp} {v:V} {C:List Cs} (s:Same H H') (h:CoN l H v C):CoN l H' v C:=by
 obtain ⟨a,ys,e,n,h1,h2⟩:=h
 exact ⟨a,ys,e,n,s _ _ h1,xh s h2⟩
theorem KK {cl:Addr} {mn:Int} {cs:List Int} (n1:NamesAt H sa ws) (n2:ws.length=2) (n3:NamesAt H sb us) (n4:us.length=2) (hc:H cl=some (.lst (cs.map V.int))) (lc:cs.length≤63) (m1:1≤mn) (m2:mn≤8) {l:Addr} (hl:H l=none) (q:∀ l CC H',Same H H'→CosAt us H' l CC→Q (.ref l) H') :
  wB K t { nx:=fun _ H'=>Q .non H',rt:=Q } [some (.ref a),some (.ref sa),some (.ref sb),some (.int mn),some (.ref cl),some (.ref l),none] (upd H l (.lst [])):=by
 simp only [wB,ku,qW,zbG,yd,vh,zn,zm,zA,xi,tOp,zc,tC,zb,zh,vD,tCB,tBM,tyV,tSl,yR,zp,xM,Yi,Yh,qx,wQ,rI0,jn,xS,b7,bw,bI,bQ,bq,ba,bb,bf,exists_eq_left',V.int.injEq,V.ref.injEq,bn,and_true,true_and,and_assoc,exists_and_left,if_true]
 have s0:=isV (o:=HO.lst []) l hl
 have e0:upd H l (HO.lst []) l=some (.lst []):=ze
 generalize upd H l (HO.lst [])=H0 at *
 have lm:(cs.map V.int).length=cs.length:=bt ..
 refine ⟨cs.length,.inl ⟨_,SqL.of (s0 _ _ hc),by rw [lm]⟩,by lia,by lia,by lia,by lia,by lia,by lia,JG (lcI a sa sb cl l mn us H) ⟨[],[],⟨_,rfl⟩,s0,e0,.nil,(fun C h=>nomatch h),rfl⟩ ?_ ?_⟩
 ·rintro i σ H1 hi ⟨xs,CC,⟨o6,rfl⟩,s1,hx,px,ok,li⟩
  simp only [ba,bb,bf,exists_eq_left',V.int.injEq,V.ref.injEq,br,bu,on]
  refine ⟨.inl ⟨_,SqL.of hx⟩,_,SqL.of (s1 _ _ hc),fun p hp=>?_⟩
  have lt:=zeP (by lia) (by lia) hi
  have im:0≤(i:Int) * mn:=Int.mul_nonneg (by lia) (by lia)
  obtain ⟨k,ek⟩:∃ k:Nat,(i:Int) * mn=k:=⟨((i:Int) * mn).toNat,(db im).symm⟩
  obtain ⟨m,em⟩:∃ m:Nat,mn=m:=⟨mn.toNat,by lia⟩
  obtain ⟨es,ee,le⟩:=zdH cs k m (by lia) (by lia)
  have e2:(i:Int) * mn + mn=((k + m:Nat):Int):=by rw [ek,em];lia
  rw [e2,ek,ee]
  have s2:=isV (o:=HO.lst (es.map V.int)) p hp
  have S2:=s1.trans s2
  have hp2:upd H1 p (HO.lst (es.map V.int)) p=some (.lst (es.map V.int)):=ze
  generalize upd H1 p (HO.lst (es.map V.int))=H2 at *
  refine ⟨⟨_,SqL.of hp2⟩,fun D hD=>?_⟩
  have lme:(es.map V.int).length=es.length:=bt ..
  refine WL (J:=Itl K p) es.length (by lia) (fun τ=>∃ o,τ=[o,some (.ref sa),some (.ref sb)]) (cRw D us) (fun i ys H H' s ⟨R,h1,h2⟩=>⟨R,h1.to R (fun _ _ f _=>f) (fun b o f e=>s b o f e),h2⟩) ⟨_,rfl⟩ ⟨.nil,by unfold RwsAt;rfl,by simp [Rws.deep],by unfold y6;trivial,by unfold wk;trivial,by simp [jE],by unfold wJ;trivial⟩ (fun i H s h=>⟨_,_,SqL.of (s _ _ hp2),bh (by rw [lme];exact h)⟩) (fun H s=>⟨_,SqL.of (s _ _ hp2),by rw [lme];exact bo _⟩) hD ?_ ?_
  ·rintro i v τ ys H4 H5 ⟨o,rfl⟩ s4 hi ⟨R,hR,rR⟩ hy ⟨rfl,hv⟩
   have hv:=hv _ (SqL.of (s4 _ _ hp2))
   obtain ⟨c,_,rfl⟩:=cm.mp (cL hv)
   simp only [ba,bb,bf,exists_eq_left',V.int.injEq,V.ref.injEq,bn,and_true,br]
   have S:=S2.trans s4
   exact ⟨ws,n1.same S,n2,us,n3.same S,n4,fun u r H6 s6 hr vr=>⟨⟨_,rfl⟩,⟨R.snoc r,RwsAt.snoc (hr.to r (fun b o f _=>JB hy f) fun b o _ e=>e) R (hR.mono s6),rR.snoc vr⟩,s6⟩⟩
  ·rintro ys H4 hly ⟨R,hR,rR⟩ s4 hq
   obtain ⟨R6,l24,cc⟩:=rR.cc (by lia)
   refine ⟨R,⟨D,ys,rfl,trivial,hq,hR.to R (fun _ _ _ _=>trivial) fun b o _ e=>e⟩,R6,by lia,fun l1 x1 H5 s5 fl hl1 pc=>?_⟩
   have T:=s2.trans (s4.trans s5)
   have lx:=b5 px
   have lim:=zce (j:=(cs.length:Int)) (c:=mn) (by lia) (by lia)
   have hl4:=(s2.trans s4) _ _ hx
   have n1l:l1≠l:=fun z=>by rw [z,hl4] at fl;cases fl
   have hl5:=T _ _ hx
   have ts:TSm H5 (upd H5 l (.lst (xs ++ [V.ref l1]))):=fun b zs e=>by rw [zj (fun z=>by rw [z,hl5] at e;cases e)];exact e
   have up:∀ {v C},CoN l H5 v C→CoN l (upd H5 l (.lst (xs ++ [V.ref l1]))) v C:=fun {v C} ⟨b,zs,e,n,h1,h2⟩=>⟨b,zs,e,n,by rw [zj n];exact h1,vX ts h2⟩
   refine ⟨_,hl5,b9 (by lia:xs.length≤63) (by decide),xs ++ [.ref l1],CC ++ [zr R 0],⟨_,rfl⟩,yY (s1.trans T) hl,ze,Paired.snocP (Paired.mapP px fun _ _ h=>up (h.same T)) (up ⟨l1,x1,rfl,n1l,hl1,pc⟩),fun C hC=>?_,by rw [bz,li];rfl⟩
   rcases bV.mp hC with h | h
   ·exact ok C h
   ·rw [bP.mp h];exact cc
 ·rintro σ H1 ⟨xs,CC,⟨o6,rfl⟩,s1,hx,px,ok,li⟩
  simp only [ba,bb,bf,exists_eq_left']
  have lim:=zce (j:=(cs.length:Int)) (c:=mn) (by lia) (by lia)
  exact q l CC H1 s1 ⟨⟨xs,hx,Paired.mapP px fun _ _ ⟨b,zs,e,_,h1,h2⟩=>⟨b,zs,e,h1,h2⟩⟩,ok,by lia⟩
theorem Xu (hS:SqL K H a (ns.map V.int)) (hn:ns.length≤63) (h1:NamesAt H sa ws) (h2:ws.length=2) (h3:NamesAt H sb us) (h4:us.length=2) (q:∀ l CC H',Same H H'→CosAt us H' l CC→Q (.ref l) H') :
  vQ K t { nx:=fun _ H'=>Q .non H',rt:=Q } (L2.start ["script","slots","shelves","many","cells","codes","at"] [.ref a,.ref sa,.ref sb]) H:=by
 simp only [vQ,zT,zl,L2.start,zn,zF,zm,tOp,zc,tC,yK,zb,zh,tSl,yR,ya,zp,rI,rI0,jn,b7,bw,bG,bI,bQ,bq,ba,bf,exists_eq_left',V.int.injEq,V.ref.injEq,bn,and_true,and_assoc,exists_and_left,br,bu,bL,bE]
 refine ⟨ns,0,rfl,hS,hn,fun c1 H1 s1=>⟨by decide,by decide,fun r H2 _ _ s2=>⟨by decide,_,hS.mono (s1.trans s2),fun p hp=>⟨by decide,fun l hl=>?_⟩⟩⟩⟩
 obtain ⟨cs,ec,lc⟩:=zdC ns none (some 240)
 rw [ec] at hl ⊢
 have s3:=isV (o:=HO.lst (cs.map V.int)) p hp
 have S3:=s1.trans (s2.trans s3)
 have g1:=cA r (b:=8) (by decide)
 have g2:=cj r (b:=8) (by decide)
 exact KK (h1.same S3) h2 (h3.same S3) h4 ze (by lia) (by lia) (by lia) hl fun l CC H' s h=>q l CC H' (S3.trans s) h
end
def inD (ns:List Int):PyData:=.list (ns.map gO)
theorem Z0 {a:Addr} {ns:List Int} (h:H a=some (.lst (ns.map V.int))):Dat K H (.ref a) (inD ns):=.lst (SqL.of h) (DatAll.of fun i _=>.int i)
theorem Xv:∀ (ns:List Int),zE (ns.map gO)=true∧bO (ns.map gO)≤1
 | []=>⟨rfl,by simp [bO]⟩
 | n :: r=>by
  have ih:=Xv r
  rw [bW,zE,bO,ih.1]
  refine ⟨by simp [zy],?_⟩
  simp only [cr];lia
theorem Zx (ns:List Int):zy (inD ns)=true∧(inD ns).depth≤64:=by
 obtain ⟨h1,h2⟩:=Xv ns
 exact ⟨by unfold inD;rw [zy];exact h1,by unfold inD;rw [cr];lia⟩
theorem zeV {a b:List Int} (h:inD a=inD b):a=b:=by
 have h:a.map gO=b.map gO:=by unfold inD at h;injection h
 exact (nK fun x y z=>by injection z).mp h
def rgI (n:Nat):List Int:=(bZ n).map fun (i:Nat)=>(i:Int)
theorem zeW (n:Nat):((bZ n).map fun i=>V.int (i:Nat))=(rgI n).map V.int:=by unfold rgI;rw [dD];rfl
theorem zd2 (n:Nat):(rgI n).Pairwise (· < ·):=by
 unfold rgI
 rw [eA]
 exact List.pairwise_lt_range.imp fun h=>by lia
theorem zd3 (n:Nat):(rgI n).Nodup:=(zd2 n).imp fun h e=>by lia
theorem zd4:∀ {a b:List Int},a.Pairwise (· < ·)→b.Pairwise (· < ·)→a.Perm b→a=b
 | [],b,_,_,h=>h.nil_eq
 | x :: a,[],_,_,h=>absurd h.length_eq (by simp)
 | x :: a,y :: b,ha,hb,h=>by
  rw [nI] at ha hb
  have e:x=y:=by
   rcases bR.mp (h.mem_iff.mp (bF ..)) with e | e
   ·exact e
   ·rcases bR.mp (h.mem_iff.mpr (bF ..)) with e' | e'
    ·exact e'.symm
    ·have:=ha.1 y e'
     have:=hb.1 x e
     lia
  subst e
  rw [zd4 ha.2 hb.2 (List.perm_cons x |>.mp h)]
theorem Xw {l:Addr} {n:Nat} {ns:List Int} {E:XK} (h1:H l=some (.lst (ns.map V.int))) (h2:ns.length≤64) (h3:n≤63) (q1:jV n ns→∀ H',Same H H'→Q .non H') (q2:¬ jV n ns→∀ H',Same H H'→E (.ref t.c_NoOrder) none H') :
  vS K t E { nx:=fun _ H'=>Q .non H',rt:=Q } (L2.start ["order","many"] [.ref l,.int n]) H:=by
 simp only [vS,zbQ,ZE,zbW,zbY,L2.start,qD,zB,tOp,zc,zb,zh,zK,zv,tCB,b7,bw,bG,bq,ba,bb,bf,exists_eq_left',V.int.injEq,V.ref.injEq,V.bl.injEq,bn,and_true,and_assoc,exists_and_left,bL,bE,b0,if_true]
 refine ⟨ns,SqL.of h1,h2,fun a srt ha ls pm=>⟨n,rfl,by lia,fun b hb=>?_⟩⟩
 have s1:=isV (o:=HO.lst (srt.map V.int)) a ha
 have e1:upd H a (HO.lst (srt.map V.int)) a=some (.lst (srt.map V.int)):=ze
 generalize upd H a (HO.lst (srt.map V.int))=H1 at *
 rw [zeW]
 have s2:=isV (o:=HO.lst ((rgI n).map V.int)) b hb
 have e2:upd H1 b (HO.lst ((rgI n).map V.int)) b=some (.lst ((rgI n).map V.int)):=ze
 generalize upd H1 b (HO.lst ((rgI n).map V.int))=H2 at *
 have S:=s1.trans s2
 have lr:(rgI n).length=n:=by unfold rgI;rw [bt,dg]
 refine ⟨_,Z0 (s2 _ _ e1),_,Z0 e2,(Zx _).1,(Zx _).1,(Zx _).2,(Zx _).2,fun c hc=>?_⟩
 by_cases o:jV n ns
 ·have ln:=o.length_eq
  rw [show ((bZ n).map fun (i:Nat)=>(i:Int)).length=n from lr] at ln
  have nd:ns.Nodup:=(nu o).mpr (zd3 n)
  obtain ⟨pm,up⟩:=pm (by lia)
  have e:srt=rgI n:=zd4 (up nd) (zd2 n) (pm.trans o)
  rw [hc.mpr (by rw [e]),if_neg (by decide)]
  exact q1 o _ S
 ·have ne:c=false:=by
   cases c with
   | false=>rfl
   | true =>
    have e:=zeV (hc.mp rfl)
    rw [e,lr] at ls
    exact absurd ((pm (by lia)).1.symm.trans (by rw [e];exact mX _)) o
  rw [ne,if_pos rfl]
  exact ⟨by rw [Int.natAbs_natCast];have:=Nat.log2_le_self n;lia,fun y=>⟨by decide,q2 o _ S⟩⟩
theorem zdM {n:Nat} {ns:List Int} (h:jV n ns):∃ os:List Nat,ns=(os.map fun (i:Nat)=>(i:Int))∧os.Perm (bZ n):=by
 refine ⟨ns.map Int.toNat,?_,?_⟩
 ·rw [dD]
  symm
  refine (eC fun i hi=>?_).trans (List.map_id ns)
  have:i∈(bZ n).map fun (i:Nat)=>(i:Int):=h.mem_iff.mp hi
  obtain ⟨k,_,e⟩:=cm.mp this
  show ((i.toNat:Nat):Int)=i
  lia
 ·have:=oU Int.toNat h
  rw [dD] at this
  rw [show (Int.toNat ∘ fun (i:Nat)=>(i:Int))=id from funext fun i=>by simp] at this
  rwa [List.map_id] at this
theorem Vy {n:Nat} {os:List Nat} (h:os.Perm (bZ n)):jV n (os.map fun (i:Nat)=>(i:Int)):=oU _ h
theorem jO (os:List Nat):os.map z8=(os.map fun (i:Nat)=>(i:Int)).map V.int:=by rw [dD];rfl
section
variable {os:List Nat} {i:Nat}
theorem zcm {m:Nat} (pm:os.Perm (bZ i)):(os.take m ++ i :: os.drop m).Perm (bZ (i + 1)):=by
 refine (List.perm_middle).trans ?_
 rw [gW,List.range_succ]
 exact (List.Perm.cons i pm).trans (List.perm_append_singleton i (bZ i)).symm
end
def odI (a l:Addr) (n:Nat) (H0:Hp) (i:Nat) (σ:St) (H:Hp):Prop:=∃ os:List Nat,(∃ o3,σ=[some (.ref a),some (.int (n:Nat)),some (.ref l),o3])∧Same H0 H∧H l=some (.lst (os.map z8))∧os.Perm (bZ i)
theorem Xx {a:Addr} {ns:List Int} {n:Nat} (hS:SqL K H a (ns.map V.int)) (hn:ns.length≤63) (h2:n≤63) (q:∀ (l:Addr) (os:List Nat) (H':Hp),Same H H'→H l=none→H' l=some (.lst (os.map z8))→os.Perm (bZ n)→Q (.ref l) H') :
  vR K t { nx:=fun _ H'=>Q .non H',rt:=Q } (L2.start ["script","many","order","rank"] [.ref a,.int n]) H:=by
 simp only [vR,zT,zl,j9,L2.start,zn,zF,zm,zA,xi,tOp,zc,tC,yK,zb,zh,vD,tBM,tyV,zp,vg,rI,rI0,b7,bw,bG,bI,bQ,bq,ba,bb,bf,exists_eq_left',V.int.injEq,bn,and_true,true_and,and_assoc,exists_and_left,br,bu,bL,bE,eK,fi]
 refine ⟨by decide,fun l hl=>?_⟩
 have s0:=isV (o:=HO.lst []) l hl
 have e0:upd H l (HO.lst []) l=some (.lst []):=ze
 generalize upd H l (HO.lst [])=H0 at *
 refine ⟨by lia,by lia,qE (odI a l n H) ⟨[],⟨_,rfl⟩,s0,e0,mX _⟩ ?_ ?_⟩
 ·rintro i σ H3 hi ⟨os,⟨o3,rfl⟩,s3,e3,pm⟩
  simp only [ba,bb,bf,exists_eq_left',V.int.injEq,V.ref.injEq,br,bu,on]
  have lo:=pm.length_eq
  rw [dg] at lo
  have lm:(os.map z8).length=os.length:=bt ..
  refine ⟨.inl ⟨_,SqL.of e3⟩,ns,i,rfl,hS.mono s3,hn,fun c1 H1 s1=>⟨by decide,by decide,fun r H2 g1 g2 s2=>⟨by lia,?_⟩⟩⟩
  have f1:=cA r (b:=1 + (i:Int)) (by lia)
  have f2:=cj r (b:=1 + (i:Int)) (by lia)
  obtain ⟨m,em⟩:∃ m:Nat,r % (1 + (i:Int))=m:=⟨(r % (1 + (i:Int))).toNat,(db f1).symm⟩
  rw [em] at f2 ⊢
  refine ⟨os.map z8,m,rfl,(s1.trans s2) _ _ e3,by lia,by lia,os.take m ++ i :: os.drop m,⟨_,rfl⟩,yY (s3.trans (s1.trans s2)) hl,?_,zcm pm⟩
  rw [ze,dL,bW,lW,lX]
  rfl
 ·rintro σ H3 ⟨os,⟨o3,rfl⟩,s3,e3,pm⟩
  simp only [ba,bb,bf,exists_eq_left']
  exact q l os H3 s3 hl e3 (by simpa using pm)
theorem JL (xs:List V) (n:Nat):Yf xs (some (n:Int)) none=xs.drop n:=by
 unfold Yf
 rw [HT.sIx_none,HT.sIx_nat]
 by_cases c:n≤xs.length
 ·rw [eS c]
  exact cx (by rw [cN];exact bo _)
 ·rw [fZ (by lia),mo (bo _),mo (by lia),List.take_nil]
def cI (os:List Nat):List Int:=os.map fun (i:Nat)=>(i:Int)
theorem Vz {n:Nat} {ns:List Int} (h:ns.length≠n):¬ jV n ns:=fun o=>h (by have:=o.length_eq;rw [bt,dg] at this;exact this)
theorem zdN {n:Nat} {ns:List Int} {x:Int} (hx:x∈ns) (h:x < 0∨(n:Int)≤x):¬ jV n ns:=fun o=>by
 have:=o.mem_iff.mp hx
 obtain ⟨k,hk,e⟩:=cm.mp this
 have:=dW.mp hk
 lia
theorem zdO {n k:Nat} {ns:List Int} (hk:k < n) (h:(k:Int) ∉ ns):¬ jV n ns:=fun o=>h (o.mem_iff.mpr (cm.mpr ⟨k,dW.mpr hk,rfl⟩))
theorem zcn (os:List Nat) (m:Nat):(os.map z8).take m=((cI os).take m).map V.int:=by rw [jO,lW];rfl
theorem zco (os:List Nat) (m:Nat):(os.map z8).drop m=((cI os).drop m).map V.int:=by rw [jO,lX];rfl
theorem qc {A B:List Int} {x:Int} {m k n:Nat} (hA:A.length=n) (hB:B.length=n) (hm:m≤n) (hk:k≤n):(A.take m ++ [x] ++ B.drop k).length=m + 1 + (n - k):=by
 rw [bz,bz,cM,cN,cD];lia
theorem zeX {A:List Int} {m:Nat} {c x:Int} (nd:A.Nodup) (hc:A[m]?=some c) (hx:x≠c):c ∉ A.take m ++ [x] ++ A.drop (m + 1):=by
 have hm:=(bC.mp hc).1
 have e:A=A.take m ++ (c :: A.drop (m + 1)):=by
  have h:=lj hm
  rw [(bC.mp hc).2] at h
  rw [← h,gW]
 have nd2:=nd
 rw [e,List.nodup_append] at nd2
 obtain ⟨_,n2,n3⟩:=nd2
 rw [cT] at n2
 intro z
 rcases bV.mp z with z | z
 ·rcases bV.mp z with z | z
  ·exact n3 c z c (bF ..) rfl
  ·exact hx (bP.mp z).symm
 ·exact n2.1 z
theorem VA {os:List Nat} {k:Nat} (h:k < os.length):(os.map z8)[k]?=some (.int ((os.getD k 0:Nat):Int)):=by
 rw [bN,bh h,bp,bh h];rfl
theorem Xy {os:List Nat} {k:Nat} (h:k < os.length):os.getD k 0∈os:=by
 rw [bp,bh h];exact fA h
def zcp (K:bx) (k:TE) (lo:TO):TS:=zA (tOp xR (tOp xR (tSl (jn K) (zc 1) ya (yR (zc 3))) (yK (zb k zh))) (tSl (jn K) (zc 1) lo ya))
def noS (c:Int) (l:Addr) (n m:Nat) (o4 o5 o6:Option V):St:=[some (.int c),some (.ref l),some (.int (n:Nat)),some (.int (m:Nat)),o4,o5,o6]
section
variable {c:Int} {l:Addr} {os:List Nat} {n m:Nat} {o4 o5 o6:Option V} {D:YC}
theorem Yz {k:TE} {lo:TO} {x:Int} {d:Nat} (h1:H l=some (.lst (os.map z8))) (le:os.length≤63) (hk:∀ H Q,Q (.int x) H→k (noS c l n m o4 o5 o6) H Q) (hlo:∀ H Q,Q (some (d:Int)) H→lo (noS c l n m o4 o5 o6) H Q) (q:∀ l' H',Same H H'→H' l'=some (.lst (((cI os).take m ++ [x] ++ (cI os).drop d).map V.int))→D.rt (.ref l') H') :
  zcp K k lo D (noS c l n m o4 o5 o6) H:=by
 unfold zcp
 unfold noS at *
 simp only [xR,zA,tOp,zc,yK,zb,zh,tSl,yR,ya,xR,jn,bG,ba,bb,bf,exists_eq_left',V.int.injEq,V.ref.injEq,exists_and_left,bE]
 have lm:(os.map z8).length=os.length:=bt ..
 refine ⟨_,SqL.of h1,fun p1 hp1=>hk _ _ ?_⟩
 rw [JJ]
 have s1:=isV (o:=HO.lst ((os.map z8).take m)) p1 hp1
 have e1:upd H p1 (HO.lst ((os.map z8).take m)) p1=some (.lst ((os.map z8).take m)):=ze
 generalize upd H p1 (HO.lst ((os.map z8).take m))=H1 at *
 refine ⟨by decide,fun p2 hp2=>?_⟩
 have s2:=isV (o:=HO.lst [V.int x]) p2 hp2
 have e2:upd H1 p2 (HO.lst [V.int x]) p2=some (.lst [V.int x]):=ze
 generalize upd H1 p2 (HO.lst [V.int x])=H2 at *
 have l1:((os.map z8).take m).length≤63:=by rw [cM];lia
 have l2:((os.map z8).drop d).length≤63:=by rw [cN];lia
 refine ⟨_,s2 _ _ e1,_,e2,bU (by show ((os.map z8).take m).length + 1≤100;lia) (by decide),fun p3 hp3=>?_⟩
 have s3:=isV (o:=HO.lst ((os.map z8).take m ++ [V.int x])) p3 hp3
 have e3:upd H2 p3 (HO.lst ((os.map z8).take m ++ [V.int x])) p3=some (.lst ((os.map z8).take m ++ [V.int x])):=ze
 generalize upd H2 p3 (HO.lst ((os.map z8).take m ++ [V.int x]))=H3 at *
 have S3:=s1.trans (s2.trans s3)
 refine hlo _ _ ⟨_,SqL.of (S3 _ _ h1),fun p4 hp4=>?_⟩
 rw [JL]
 have s4:=isV (o:=HO.lst ((os.map z8).drop d)) p4 hp4
 have e4:upd H3 p4 (HO.lst ((os.map z8).drop d)) p4=some (.lst ((os.map z8).drop d)):=ze
 generalize upd H3 p4 (HO.lst ((os.map z8).drop d))=H4 at *
 refine ⟨_,s4 _ _ e3,_,e4,bU (by rw [bz];show ((os.map z8).take m).length + 1 + _≤200;lia) (by decide),fun p5 hp5=>?_⟩
 refine q p5 _ (S3.trans (s4.trans (isV p5 hp5))) ?_
 rw [ze,zcn,zco,dL,dL]
 rfl
theorem zat (h1:H l=some (.lst (os.map z8))) (le:os.length≤63) (q:∀ l' H',Same H H'→H' l'=some (.lst (((cI os).take m ++ (cI os).drop (m + 1)).map V.int))→D.rt (.ref l') H') :
  vc K t D (noS c l n m o4 o5 o6) H:=by
 simp only [vc,noS,xR,zA,tOp,zc,tC,tSl,yR,ya,xR,rI0,jn,ba,bb,bf,exists_eq_left',V.int.injEq,V.ref.injEq,exists_and_left]
 rw [show ((m:Int) + 1)=((m + 1:Nat):Int) by lia]
 have lm:(os.map z8).length=os.length:=bt ..
 refine ⟨_,SqL.of h1,fun p1 hp1=>?_⟩
 rw [JJ]
 have s1:=isV (o:=HO.lst ((os.map z8).take m)) p1 hp1
 have e1:upd H p1 (HO.lst ((os.map z8).take m)) p1=some (.lst ((os.map z8).take m)):=ze
 generalize upd H p1 (HO.lst ((os.map z8).take m))=H1 at *
 have l1:((os.map z8).take m).length≤63:=by rw [cM];lia
 have l2:((os.map z8).drop (m + 1)).length≤63:=by rw [cN];lia
 refine ⟨_,SqL.of (s1 _ _ h1),fun p4 hp4=>?_⟩
 rw [JL]
 have s4:=isV (o:=HO.lst ((os.map z8).drop (m + 1))) p4 hp4
 have e4:upd H1 p4 (HO.lst ((os.map z8).drop (m + 1))) p4=some (.lst ((os.map z8).drop (m + 1))):=ze
 generalize upd H1 p4 (HO.lst ((os.map z8).drop (m + 1)))=H4 at *
 refine ⟨_,s4 _ _ e1,_,e4,bU (by lia:_≤200) (by decide),fun p5 hp5=>?_⟩
 refine q p5 _ (s1.trans (s4.trans (isV p5 hp5))) ?_
 rw [ze,zcn,zco,dL]
theorem zau {way other at_:Int} (h1:H l=some (.lst (os.map z8))) (pm:os.Perm (bZ n)) (hn:n≤63) (h0:0 < n) (oth:other < 0∨(n:Int)≤other) (q:∀ (l':Addr) (ns:List Int) (H':Hp),Same H H'→H' l'=some (.lst (ns.map V.int))→ns.length≤n + 1→¬ jV n ns→Q (.ref l') H') :
  vd K t { nx:=fun _ H'=>Q .non H',rt:=Q } [some (.int c),some (.ref l),some (.int (n:Nat)),some (.int at_),some (.int other),some (.int way),o6] H:=by
 simp only [vd,zl,zn,zF,zm,zB,tOp,zc,tC,zb,zh,zK,tOr,zv,zp,yV,rEq,rI,xq,bq,ba,bb,bf,exists_eq_left',V.int.injEq,V.ref.injEq,V.bl.injEq,bn,and_true,true_and,and_assoc,exists_and_left,br,bu,decide_eq_true_eq,if_true]
 have e1:=cA at_ (b:=n) (by lia)
 have e2:=cj at_ (b:=n) (by lia)
 obtain ⟨m,em⟩:∃ m:Nat,at_ % (n:Int)=m:=⟨(at_ % (n:Int)).toNat,(db e1).symm⟩
 rw [em] at e2 ⊢
 have hm:m < n:=by lia
 have lo:os.length=n:=by have:=pm.length_eq;rw [dg] at this;exact this
 have lc:(cI os).length=n:=by unfold cI;rw [bt,lo]
 have ndI:(cI os).Nodup:=(nu (Vy pm)).mpr (zd3 n)
 have p1:∀ {o4 o5 o6:Option V} (H:Hp) (Q:Option Int→Hp→Prop),Q (some ((m + 1:Nat):Int)) H→yR (tOp (rI0 fun i j=>.int (i + j)) (zc 3) (tC (.int 1))) (noS c l n m o4 o5 o6) H Q:=fun H Q h=>by
  simp only [noS,tOp,zc,tC,yR,rI0,ba,bb,bf,exists_eq_left',V.int.injEq,exists_and_left]
  exact h
 refine ⟨by lia,xc (fun w1=>?_) fun w1=>xc (fun w2=>?_) fun w2=>⟨by decide,by decide,fun r H1 g1 g2 s1=>⟨by lia,?_⟩⟩⟩
 ·refine zat h1 (by lia) fun l' H' s e=>q l' _ H' s e ?_ (Vz ?_)
  ·rw [bz,cM,cN];lia
  ·rw [bz,cM,cN];lia
 ·refine Yz (x:=other) h1 (by lia) (fun H Q h=>⟨_,rfl,h⟩) p1 fun l' H' s e=>q l' _ H' s e ?_ (zdN (x:=other) (by simp) oth)
  rw [qc lc lc (by lia) (by lia)];lia
 ·have f1:=cA r (b:=n) (by lia)
  have f2:=cj r (b:=n) (by lia)
  obtain ⟨j,ej⟩:∃ j:Nat,r % (n:Int)=j:=⟨(r % (n:Int)).toNat,(db f1).symm⟩
  rw [ej] at f2 ⊢
  have qj:=VA (os:=os) (k:=j) (by lia)
  have qm:=VA (os:=os) (k:=m) (by lia)
  have hl:=s1 _ _ h1
  have G:∀ {D:YC} {x:Int},(∀ l' H',Same H1 H'→H' l'=some (.lst (((cI os).take m ++ [x] ++ (cI os).drop m).map V.int))→D.rt (.ref l') H')→kL K t D (noS c l n m (some (.int other)) (some (.int way)) (some (.int x))) H1:=fun {D x} q=>Yz hl (by lia) (fun H Q h=>⟨_,rfl,h⟩) (fun H Q h=>⟨_,rfl,_,rfl,h⟩) q
  have gq:∀ {x:Int} l' H',Same H1 H'→H' l'=some (.lst (((cI os).take m ++ [x] ++ (cI os).drop m).map V.int))→Q (.ref l') H':=fun {x} l' H' s e=>by
   refine q l' _ H' (s1.trans s) e ?_ (Vz ?_)
   ·rw [qc lc lc (by lia) (by lia)];lia
   ·rw [qc lc lc (by lia) (by lia)];lia
  refine ⟨_,SqL.of hl,_,jm qj,xc (fun _=>G gq) fun w3=>⟨_,SqL.of hl,_,jm qm,rfl,xc (fun _=>G gq) fun c=>?_⟩⟩
  refine Yz (x:=(os.getD j 0:Nat)) hl (by lia) (fun H Q h=>⟨_,rfl,h⟩) p1 fun l' H' s e=>q l' _ H' (s1.trans s) e ?_ ?_
  ·rw [qc lc lc (by lia) (by lia)];lia
  ·have hc:(cI os)[m]?=some ((os.getD m 0:Nat):Int):=by
    unfold cI
    rw [bN,bh (by lia),bp,bh (by lia)];rfl
   have hr:=dW.mp (pm.mem_iff.mp (Xy (os:=os) (k:=m) (by lia)))
   exact zdO hr (zeX ndI hc (fun z=>c (by rw [z])))
theorem zav {other:Int} (h1:H l=some (.lst (os.map z8))) (pm:os.Perm (bZ n)) (hn:n≤63) (hm:m≤n) (oth:other < 0∨(n:Int)≤other) (q:∀ (l':Addr) (ns:List Int) (H':Hp),Same H H'→H' l'=some (.lst (ns.map V.int))→ns.length≤n + 1→¬ jV n ns→Q (.ref l') H') :
  ve K t { nx:=fun _ H'=>Q .non H',rt:=Q } [some (.int c),some (.ref l),some (.int (n:Nat)),some (.int (m:Nat)),some (.int other),o5,o6] H:=by
 simp only [ve,zl,zn,zF,zm,zB,tOp,zc,tC,zb,zh,zK,tOr,zv,zp,rEq,rI,xq,bq,ba,bb,bf,exists_eq_left',V.int.injEq,V.bl.injEq,bn,and_true,true_and,and_assoc,exists_and_left,br,bu,decide_eq_true_eq,if_true]
 have lo:os.length=n:=by have:=pm.length_eq;rw [dg] at this;exact this
 have lc:(cI os).length=n:=by unfold cI;rw [bt,lo]
 refine ⟨by decide,by decide,fun r H1 g1 g2 s1=>⟨by decide,?_⟩⟩
 have E:∀ {D:YC},D.rt=Q→kM K t D (noS c l n m (some (.int other)) (some (.int (r % 5))) o6) H1:=fun {D} e0=>by
  refine Yz (x:=other) (s1 _ _ h1) (by lia) (fun H Q h=>⟨_,rfl,h⟩) (fun H Q h=>⟨_,rfl,_,rfl,h⟩) fun l' H' s e=>?_
  rw [e0]
  refine q l' _ H' (s1.trans s) e ?_ (Vz ?_)
  ·rw [qc lc lc hm hm];lia
  ·rw [qc lc lc hm hm];lia
 refine xc (fun _=>E rfl) fun z=>xc (fun _=>E rfl) fun _=>?_
 exact zau (s1 _ _ h1) pm hn (by lia) oth fun l' ns H' s e a1 a2=>q l' ns H' (s1.trans s) e a1 a2
theorem XX (h1:H l=some (.lst (os.map z8))) (pm:os.Perm (bZ n)) (hn:n≤63) (q:∀ (l':Addr) (ns:List Int) (H':Hp),Same H H'→H' l'=some (.lst (ns.map V.int))→ns.length≤n + 1→¬ jV n ns→Q (.ref l') H') :
  jM K t { nx:=fun _ H'=>Q .non H',rt:=Q } (L2.start ["cell","order","many","at","other","way","rank"] [.int c,.ref l]) H:=by
 simp only [jM,kN,zl,L2.start,zn,zF,zm,tOp,tUn,zc,tC,yK,zb,zh,tCB,zp,qx,yV,rI,rI0,rU,xS,b7,bw,bG,bI,bQ,bq,ba,bb,bf,exists_eq_left',V.int.injEq,V.ref.injEq,bn,and_true,and_assoc,exists_and_left,br,bu,bL,bE,iR,eK,fi]
 have lo:os.length=n:=by have:=pm.length_eq;rw [dg] at this;exact this
 have lm:(os.map z8).length=os.length:=bt ..
 refine ⟨n,.inl ⟨_,SqL.of h1,by lia⟩,by decide,by decide,fun r H1 g1 g2 s1=>⟨by lia,?_⟩⟩
 have e1:=cA r (b:=(n:Int) + 1) (by lia)
 have e2:=cj r (b:=(n:Int) + 1) (by lia)
 obtain ⟨m,em⟩:∃ m:Nat,r % ((n:Int) + 1)=m:=⟨(r % ((n:Int) + 1)).toNat,(db e1).symm⟩
 rw [em] at e2 ⊢
 have P29:=Jx (j:=29) (by decide) (by decide)
 refine ⟨by decide,by decide,fun r2 H2 g3 g4 s2=>⟨P29,by decide,by decide,fun p hp=>⟨by decide,by decide,fun r3 H3 _ _ s3=>⟨by decide,?_⟩⟩⟩⟩
 have g1:=cA c (b:=100000000000000000000000000000) (by decide)
 generalize c % 100000000000000000000000000000=d at *
 have s4:=isV (o:=HO.lst [V.int (-1),V.int (n:Int),V.int (-1 - r2),V.int ((n:Int) + d)]) p hp
 have e4:upd H2 p (HO.lst [V.int (-1),V.int (n:Int),V.int (-1 - r2),V.int ((n:Int) + d)]) p=some (.lst [V.int (-1),V.int (n:Int),V.int (-1 - r2),V.int ((n:Int) + d)]):=ze
 obtain ⟨v,hv,mv⟩:=Vm r3 4 (xs:=[V.int (-1),V.int (n:Int),V.int (-1 - r2),V.int ((n:Int) + d)]) rfl (by decide)
 have S:=s1.trans (s2.trans (s4.trans s3))
 have ov:∃ x:Int,v=.int x∧(x < 0∨(n:Int)≤x):=by
  simp only [bR,de,or_false] at mv
  rcases mv with rfl | rfl | rfl | rfl
  ·exact ⟨_,rfl,.inl (by decide)⟩
  ·exact ⟨_,rfl,.inr (Int.le_refl _)⟩
  ·exact ⟨_,rfl,.inl (by lia)⟩
  ·exact ⟨_,rfl,.inr (by lia)⟩
 obtain ⟨x,rfl,ox⟩:=ov
 exact ⟨_,SqL.of (s3 _ _ e4),_,hv,zav (S _ _ h1) pm hn (by lia) ox fun l' ns H' s e a1 a2=>q l' ns H' (S.trans s) e a1 a2⟩
end
theorem zdP {C:List Cs} {rows:List Row} {s:RSt} (F:XQ C rows s):zb1 C rows=s:=by
 have G:XQ C rows (zb1 C rows):=gG (p:=XQ C rows) ⟨s,F⟩
 exact zcg G.rc F.rc G.ov F.ov
theorem zcq {s:RSt} {out:List Row} (G:w4 s out):giS s=out:=zdB (gG (p:=w4 s) ⟨out,G⟩) G
theorem zdQ {rows out:List Row} (T:wI rows out):zfm rows=out:=zbt (gG (p:=wI rows) ⟨out,T⟩) T
theorem zcr {P:Pl→Prop} (c:Cs) (w:Int) (s:RSt) (h:zb0 P c) (hs:∀ r∈s.gi,P r.1):∀ r∈(z7 c w s).gi,P r.1:=by
 cases c with
 | go k=>exact hs
 | skip e to=>cases hk:rk s.sl e with
  | error x=>simp only [z7,yM,hk];exact hs
  | ok i=>simp only [z7,yM,hk];exact hs
 | row r =>
  cases r with
  | off e=>cases hk:rk s.sl e with
   | error x=>simp only [z7,yM,hk];exact hs
   | ok i =>
    simp only [z7,yM,hk]
    split
    ·exact hs
    ·exact hs
  | iff e a b=>exact hs
  | take sh e x=>cases hk:rk s.sl e with
   | error x=>simp only [z7,yM,doR,hk];exact hs
   | ok i =>
    simp only [z7,yM,doR,hk]
    unfold xH
    split
    ·exact hs
    ·exact hs
  | give sh e f=>cases hk:rk s.sl e with
   | error x=>simp only [z7,yM,doR,hk];exact hs
   | ok i=>cases hk2:rk s.sl f with
    | error x=>simp only [z7,yM,doR,hk,hk2];exact hs
    | ok j =>
     simp only [z7,yM,doR,hk,hk2]
     intro r hr
     rcases bV.mp hr with hr | hr
     ·exact hs r hr
     ·rw [bP.mp hr]
      have h:qM P (.give sh e f):=h
      unfold qM at h
      exact h _ _ hk
  | lt x e=>cases hk:rk s.sl e with
   | error x=>simp only [z7,yM,doR,hk];exact hs
   | ok i=>simp only [z7,yM,doR,hk];exact hs
  | say e=>cases hk:rk s.sl e with
   | error x=>simp only [z7,yM,doR,hk];exact hs
   | ok i=>simp only [z7,yM,doR,hk];exact hs
theorem QK {P:Pl→Prop} {C:List Cs} (h:∀ c∈C,zb0 P c) (tb:Pl→Int):∀ (k:Nat) (s:RSt),(∀ r∈s.gi,P r.1)→∀ r∈(Vl C tb k s).gi,P r.1
 | 0,s,hs=>hs
 | k + 1,s,hs=>by
  refine QK h tb k (Xg C tb s) ?_
  unfold Xg xF
  split
  ·exact hs
  ·split
   ·exact hs
   ·rename_i c hc
    exact zcr c _ s (h c (cL hc)) hs
section
variable {us:List Str} {C:List Cs} {now gi out:List Row} {s:RSt}
theorem zeY (h:KA us C) (F:XQ C now s) (G:w4 s gi):∀ r∈gi,PS us r.1∧inW r.2=true:=by
 obtain ⟨k,e⟩:=F.rc
 obtain ⟨m,_,I⟩:=F.ri
 have w:=zeT I G
 have p:=QK h.ps (Ju now) k st0 fun r z=>nomatch z
 rw [e] at p
 intro r hr
 refine ⟨?_,w r hr⟩
 unfold w4 at G
 cases ew:s.why with
 | some x=>rw [ew] at G;rw [G] at hr;cases hr
 | none =>
  rw [ew] at G
  exact p _ (kR ((G.2 r.1 r.2).mp hr))
theorem QL (hu:us.length=2) (h:KA us C) (ti:TabI us now) (F:XQ C now s) (G:w4 s gi):(dOf (now ++ gi)).length≤63∧(now ++ gi).length≤1000∧∀ out,wI (now ++ gi) out→TabI us out:=by
 have p:=zeY h F G
 have all:∀ r∈now ++ gi,PS us r.1∧inW r.2=true:=fun r hr=>(bV.mp hr).elim (ti.ps r) (p r)
 have l1:=ti.len hu
 have l2:=zeJ G
 have l3:=F.fw
 have l4:=h.co.le
 refine ⟨bU (zeO hu fun r hr=>(all r hr).1) (by decide),by rw [bz];lia,fun out T=>⟨T.1,fun r hr=>all r (kR ((T.2 r.1 r.2).mp hr).1)⟩⟩
end
def hid (d:Addr) (H:Hp):Hp:=fun b=>if b=d then none else H b
theorem Xz {d b:Addr} {H:Hp} (h:b≠d):hid d H b=H b:=if_neg h
theorem PpW.same {H H':Hp} {v:V} {s:RSt} (k:Same H H') (P:PpW H v s):PpW H' v s:=by
 obtain ⟨r,o,nl,gl,out,e,h1,h2,h3,h4,h5,h6⟩:=P
 exact ⟨r,o,nl,gl,out,e,k _ _ h1,zdz h2 k,yI h3 k,yI h4 k,h5,h6⟩
theorem PpW.hid {H:Hp} {v:V} {s:RSt} {d:Addr} {kvs:List (Key × V)} (hd:H d=some (.dK kvs)) (P:PpW H v s):PpW (hid d H) v s:=by
 obtain ⟨r,o,nl,gl,out,e,h1,h2,⟨xs,h3,p3⟩,⟨ys,h4,p4⟩,h5,h6⟩:=P
 have ts:WC H (K54.hid d H):=fun b zs e=>by rw [Xz (fun z=>by rw [z,hd] at e;cases e)];exact e
 have tl:∀ b zs,H b=some (.lst zs)→K54.hid d H b=some (.lst zs):=fun b zs e=>by rw [Xz (fun z=>by rw [z,hd] at e;cases e)];exact e
 exact ⟨r,o,nl,gl,out,e,ts _ _ h1,zfs h2 ts,⟨xs,tl _ _ h3,xu ts p3⟩,⟨ys,tl _ _ h4,xu ts p4⟩,h5,h6⟩
structure OrS (us:List Str) (CC:List (List Cs)) (tab:List Row) (os:List Nat) (F:Prop) (H0 H:Hp) (d nl:Addr) (i:Nat):Prop where
 sm:Same H0 H
 fd:H0 d=none
 nw:yk H nl (jW CC tab (os.take i))
 ti:TabI us (jW CC tab (os.take i))
 pp:∃ kvs Hm,H d=some (.dK kvs)∧kvs.length≤i∧Same H0 Hm∧Same Hm H∧Hm d=none∧(F→Hm nl=none)∧∀ j,j < i→∃ v,yL kvs (.inl ((os.getD j 0:Nat):Int))=some v∧PpW Hm v (pS CC tab os j)
section
variable {us:List Str} {CC:List (List Cs)} {tab:List Row} {os:List Nat} {F:Prop} {H0:Hp} {d nl cl tl l:Addr} {i:Nat}
theorem zcs {kvs:List (Key × V)} {k:Key} {v:V}:(yT kvs k v).length≤kvs.length + 1:=by
 unfold yT
 split
 ·rw [bt];lia
 ·rw [bz];simp
theorem OrS.step {Ha Hc:Hp} {r nl':Addr} {kvs:List (Key × V)} {s:RSt} {gi out:List Row} (S:OrS us CC tab os F H0 H d nl i) (nd:os.Nodup) (hi:i < os.length) (hk:H d=some (.dK kvs)) (sa:Same H Ha) (FR:XQ (CC.getD (os.getD i 0) []) (jW CC tab (os.take i)) s) (P:PpW Ha (.ref r) s) (G:w4 s gi) (sc:Same (upd Ha d (.dK (yT kvs (.inl ((os.getD i 0:Nat):Int)) (.ref r)))) Hc) (fn:upd Ha d (.dK (yT kvs (.inl ((os.getD i 0:Nat):Int)) (.ref r))) nl'=none) (hl:yk Hc nl' out) (T:wI (jW CC tab (os.take i) ++ gi) out) (ti:TabI us out) :
  OrS us CC tab os F H0 Hc d nl' (i + 1):=by
 obtain ⟨kvs',Hm,e1,e2,e3,e4,e5,e6,e7⟩:=S.pp
 have ek:kvs'=kvs:=by rw [hk] at e1;cases e1;rfl
 subst ek
 have er:zb1 (CC.getD (os.getD i 0) []) (jW CC tab (os.take i))=s:=zdP FR
 have tk:os.take (i + 1)=os.take i ++ [os.getD i 0]:=by
  rw [eh,bp,bh hi];rfl
 have en:jW CC tab (os.take (i + 1))=out:=by
  rw [tk]
  unfold jW
  rw [nT]
  show zb2 CC (jW CC tab (os.take i)) (os.getD i 0)=out
  unfold zb2
  rw [er,zcq G,zdQ T]
 have ep:pS CC tab os i=s:=er
 have ha:Ha d=some (.dK kvs'):=sa _ _ hk
 have same:Same H0 Hc:=fun b o e=>sc _ _ (by rw [zj (fun z=>by rw [z,S.fd] at e;cases e)];exact sa _ _ (S.sm _ _ e))
 have mm:Same Hm (hid d Ha):=fun b o e=>by
  rw [Xz (fun z=>by rw [z,e5] at e;cases e)]
  exact sa _ _ (e4 _ _ e)
 have mc:Same (hid d Ha) Hc:=fun b o e=>by
  have n:b≠d:=fun z=>by rw [z] at e;unfold K54.hid at e;rw [if_pos rfl] at e;cases e
  rw [Xz n] at e
  exact sc _ _ (by rw [zj n];exact e)
 have key:∀ j,j < i→((os.getD j 0:Nat):Int)≠((os.getD i 0:Nat):Int):=fun j hj z=>by
  have z:os.getD j 0=os.getD i 0:=by lia
  rw [bp,bp,bh hi,bh (by lia)] at z
  have:=(fk nd).mp z
  lia
 refine ⟨same,S.fd,by rw [en];exact hl,by rw [en];exact ti,_,hid d Ha,sc _ _ ze,by have:=zcs (kvs:=kvs') (k:=.inl ((os.getD i 0:Nat):Int)) (v:=V.ref r);lia,e3.trans mm,mc,if_pos rfl,fun _=>?_,fun j hj=>?_⟩
 ·by_cases z:nl'=d
  ·rw [z,ze] at fn;cases fn
  ·rw [zj z] at fn
   rw [Xz z];exact fn
 ·rw [v3]
  by_cases c:j=i
  ·rw [c,if_pos rfl]
   exact ⟨_,rfl,by rw [ep];exact P.hid ha⟩
  ·rw [if_neg (fun z=>key j (by lia) (Sum.inl.inj z))]
   obtain ⟨v,h1,h2⟩:=e7 j (by lia)
   exact ⟨v,h1,h2.same mm⟩
end
theorem zaw {a b d:Addr} {rows:List Row} {o3:Option V} (h1:H d=some (.dT (dOf rows))) (h2:(dOf rows).length≤63) (q:∀ l out H',Same H H'→H l=none→yk H' l out→wI rows out→Q (.ref l) H') :
  vb K t { nx:=fun _ H'=>Q .non H',rt:=Q } [some (.ref a),some (.ref b),some (.ref d),o3] H:=by
 simp only [vb]
 obtain ⟨its,ei,nd,mi⟩:=zbD rows
 have li:its.length=(dOf rows).length:=by rw [ei,bt]
 refine ⟨d,_,dOf rows,h1,.inl rfl,fun o=>?_⟩
 have f1:upd H d (.frz o (.dT (dOf rows))) d=some (.frz o (.dT (dOf rows))):=ze
 have back:∀ {H':Hp},Same (upd H d (.frz o (.dT (dOf rows)))) H'→Same H (upd H' d (.dT (dOf rows))):=fun {H'} s b u e=>by
  by_cases c:b=d
  ·subst c
   rw [h1] at e
   cases e
   exact ze
  ·rw [zj c]
   exact s b u (by rw [zj c];exact e)
 have fr0:∀ {b:Addr},upd H d (.frz o (.dT (dOf rows))) b=none→H b=none∧b≠d:=fun {b} e=>by
  by_cases c:b=d
  ·subst c;rw [f1] at e;cases e
  ·rw [zj c] at e;exact ⟨e,c⟩
 generalize upd H d (.frz o (.dT (dOf rows)))=H1 at *
 simp only [zbO,zeA,zm,zed,KP,zec,zA,tOp,zc,tC,yt,zb,zh,zv,tCB,xM,Yh,rNe,xq,b7,bw,bG,bq,ba,bb,bf,exists_eq_left',V.ref.injEq,V.bl.injEq,bn,and_true,exists_and_left,bE,b0,decide_eq_false_iff_not]
 refine ⟨_,_,f1,fun D hD=>?_⟩
 refine Xo (J:=Itm d o (dOf rows)) its.length (by lia) (fun τ=>∃ o1 o2,τ=[o1,o2]) (cIt its) (fun i ys H H' s h=>xu s h) ⟨_,_,rfl⟩ .nil (fun i H s h=>⟨s _ _ f1,by lia⟩) (fun H s=>⟨s _ _ f1,by lia⟩) hD ?_ ?_
 ·rintro i v τ ys H4 H5 ⟨x,y,rfl⟩ s4 hi hR ⟨T,k,v',p,hk,rfl,hT,hp,rfl⟩
  have hit:its[i]?=some its[i]:=bh hi
  rw [ei,bN,hit] at hk
  obtain ⟨ek,ev⟩:=lV (cf hk)
  have s5:=isV (o:=HO.tup [V.ref p,v']) T hT
  simp only [ba,bb,bf,exists_eq_left',V.ref.injEq,bn,and_true,exists_and_left,br,bu]
  subst ek ev
  have tk:its.take (i + 1)=its.take i ++ [its[i]]:=by rw [eh,hit];rfl
  refine ⟨_,SqT.of ze,rfl,_,_,rfl,_,_,rfl,rfl,rfl,xc (fun c=>⟨by decide,fun p2 hp2=>⟨⟨_,rfl⟩,?_,s5.trans (isV p2 hp2)⟩⟩) fun c=>⟨⟨_,rfl⟩,?_,s5⟩⟩
  ·have hw0:its[i].2≠0:=fun z=>c (by rw [z])
   unfold cIt at hR ⊢
   rw [tk,nM,show [its[i]].filter (fun r:Row=>decide (r.2≠0))=[its[i]] by rw [lY,if_pos (decide_eq_true hw0)];rfl]
   have s6:=s5.trans (isV (o:=HO.tup [V.ref p,V.int its[i].2]) p2 hp2)
   exact Paired.snocP (JK s6 hR) ⟨p2,p,rfl,ze,s6 _ _ hp⟩
  ·have hw0:its[i].2=0:=by simpa using c
   unfold cIt at hR ⊢
   rw [tk,nM,show [its[i]].filter (fun r:Row=>decide (r.2≠0))=[] by rw [lY,if_neg (by rw [decide_eq_true_eq];exact fun z=>z hw0)];rfl,bq]
   exact JK s5 hR
 ·rintro ys H4 hly hR s4 hq
  have hR:Paired (PrAt H4) ys (its.filter fun r=>decide (r.2≠0)):=by
   unfold cIt at hR
   rw [fq] at hR;exact hR
  have nd2:((its.filter fun r=>decide (r.2≠0)).map (·.1)).Nodup:=List.Nodup.sublist ((List.filter_sublist (l:=its)).map _) nd
  have ln2:=List.length_filter_le (fun r:Row=>decide (r.2≠0)) its
  refine ⟨_,SqL.of hq,_,hR,nd2,by lia,fun l zs srt H5 s5 fl hl hs ris perm=>?_⟩
  have f5:=(s4.trans s5) _ _ f1
  have fl1:=fr0 (zH s4 fl)
  refine ⟨f5,q l srt _ (back (s4.trans s5)) fl1.1 ⟨zs,by rw [zj fl1.2];exact hl,xu (fun b us e=>by rw [zj (fun z=>by rw [z,f5] at e;cases e)];exact e) hs⟩ ⟨ris,fun p w=>?_⟩⟩
  rw [perm.mem_iff,List.mem_filter,mi p w,decide_eq_true_eq]
theorem JM {a b:Addr} {tab gifts:List Row} (h1:yk H a tab) (h2:yk H b gifts) (h3:(dOf (tab ++ gifts)).length≤63) (h4:(tab ++ gifts).length≤1000) (q:∀ l out H',Same H H'→H l=none→yk H' l out→wI (tab ++ gifts) out→Q (.ref l) H') :
  q8 K t { nx:=fun _ H'=>Q .non H',rt:=Q } (L2.start ["table","gifts"] [.ref a,.ref b]) H:=by
 simp only [q8,kt,xR,L2.start,zA,tOp,zc,zb,zh,zp,xR,b7,bw,bG,bq,ba,bb,bf,exists_eq_left',V.ref.injEq,bn,and_true,exists_and_left,bL,bE]
 obtain ⟨xs,hx,rx⟩:=h1
 obtain ⟨ys,hy,ry⟩:=h2
 have l:=h4
 rw [bz,← kQ rx,← kQ ry] at l
 exact ⟨xs,hx,ys,hy,bU l (by decide),fun p hp=>⟨tab ++ gifts,⟨xs ++ ys,ze,wO (isV p hp) (JI ry rx)⟩,h3,h4,fun l out H' s fr hl ti=>q l out H' ((isV p hp).trans s) (zH (isV p hp) fr) hl ti⟩⟩
def llI (a b d:Addr) (tab gifts:List Row) (H0:Hp) (i:Nat) (σ:St) (H:Hp):Prop:=(∃ o3,σ=[some (.ref a),some (.ref b),some (.ref d),o3])∧Same H0 H∧H d=some (.dT (dOf (tab ++ gifts.take i)))
theorem XY {a b:Addr} {tab gifts:List Row} (h1:yk H a tab) (h2:yk H b gifts) (h3:(dOf (tab ++ gifts)).length≤63) (h4:(tab ++ gifts).length≤1000) (q:∀ l out H',Same H H'→H l=none→yk H' l out→wI (tab ++ gifts) out→Q (.ref l) H') :
  jL K t { nx:=fun _ H'=>Q .non H',rt:=Q } (L2.start ["table","gifts","there","row"] [.ref a,.ref b]) H:=by
 simp only [jL,kI,wf,Y2,L2.start,zI,zn,zF,zm,tOp,zc,tC,zb,zh,vD,tCB,wQ,zI,b7,bw,bG,bI,bQ,ba,bb,bf,exists_eq_left',V.int.injEq,V.ref.injEq,bn,and_true,exists_and_left,br,bu,bL,bE]
 obtain ⟨xs,hx,rx⟩:=h1
 obtain ⟨ys,hy,ry⟩:=h2
 have lx:=kQ rx
 have ly:=kQ ry
 rw [bz] at h4
 refine ⟨xs,hx,tab,rx,by lia,fun d hd=>?_⟩
 have s0:=isV (o:=HO.dT (dOf tab)) d hd
 have e0:upd H d (HO.dT (dOf tab)) d=some (.dT (dOf (tab ++ gifts.take 0))):=by rw [ze,mW,bq]
 generalize upd H d (HO.dT (dOf tab))=H0 at *
 refine ⟨⟨_,SqL.of (s0 _ _ hy)⟩,v6 ys (llI a b d tab gifts H) ⟨⟨_,rfl⟩,s0,e0⟩ (fun i σ H' z=>SqL.of (z.2.1 _ _ hy)) ?_ ?_⟩
 ·rintro i v σ H1 hv ⟨⟨o3,rfl⟩,s1,e1⟩
  simp only [ba,bb,bf,exists_eq_left',V.ref.injEq,br,bu]
  obtain ⟨g,hg,r,p,rfl,h5,h6⟩:=zcf ry hv
  have tk:gifts.take (i + 1)=gifts.take i ++ [g]:=by rw [eh,hg];rfl
  have h5:=s1 _ _ h5
  have h6:=s1 _ _ h6
  have li:=(bC.mp hv).1
  refine ⟨r,rfl,_,SqT.of h5,_,rfl,r,rfl,_,SqT.of h5,_,rfl,_,zdJ (q:=g) e1 h6 (by rw [bz,cM];lia),⟨_,rfl⟩,yY s1 hd,?_⟩
  rw [ze,tk,gL]
 ·rintro σ H1 ⟨⟨o3,rfl⟩,s1,e1⟩
  rw [ly,fq] at e1
  exact zaw e1 h3 fun l out H' s fl la T=>q l out H' (s1.trans s) (zH s1 fl) la T
def ykR (kvs:List (Key × V)) (i:Nat) (ys:List V) (_:Hp):Prop:=ys.length=i∧∀ k,k < i→ys[k]?=yL kvs (.inl ((k:Nat):Int))
section
variable {us:List Str} {CC:List (List Cs)} {tab:List Row} {os:List Nat} {F:Prop} {H0:Hp} {d nl cl tl l:Addr} {i:Nat} {E:XK}
theorem CosAt.same {H H':Hp} (h:CosAt us H cl CC) (s:Same H H'):CosAt us H' cl CC:=by
 obtain ⟨⟨xs,h1,h2⟩,h3,h4⟩:=h
 exact ⟨⟨xs,s _ _ h1,Paired.mapP h2 fun _ _ ⟨a,ys,e,h5,h6⟩=>⟨a,ys,e,s _ _ h5,xh s h6⟩⟩,h3,h4⟩
theorem JN {o5:Option V} (S:OrS us CC tab os F H0 H d nl os.length) (hC:CosAt us H0 cl CC) (pm:os.Perm (bZ CC.length)) (q:∀ v pl Hm xs H',Same H0 Hm→Same Hm H'→(F→Hm nl=none)→pl≠nl→H' pl=some (.lst xs)→PpsX Hm xs (pK CC tab os) CC.length→TolAt us H' v (pK CC tab os) CC.length (jW CC tab os) pl nl→Q v H') :
  vT K t E { nx:=fun _ H'=>Q .non H',rt:=Q } [some (.ref cl),some (.ref tl),some (.ref l),some (.ref d),some (.ref nl),o5] H:=by
 simp only [vT,vi,zm,zA,zc,yt,zb,zh,tCB,xM,Yi,Yh,qx,vg,xS,b7,bw,bG,bI,bQ,ba,bb,bf,exists_eq_left',V.int.injEq,bn,and_true,exists_and_left,bE,eK,fi,if_true]
 obtain ⟨⟨zs,hz,pz⟩,_,le⟩:=id hC
 have lz:=b5 pz
 obtain ⟨kvs,Hm,e1,e2,e3,e4,e5,e6,e7⟩:=S.pp
 have g:∀ k,k < CC.length→∃ v,yL kvs (.inl ((k:Nat):Int))=some v∧PpW Hm v (pK CC tab os k):=fun k hk=>by
  have hj:=List.idxOf_lt_length_of_mem (pm.mem_iff.mpr (dW.mpr hk))
  obtain ⟨v,h1,h2⟩:=e7 _ hj
  rw [bp,bh hj] at h1
  have e:os[os.idxOf k]=k:=List.getElem_idxOf hj
  rw [show (some os[os.idxOf k]).getD 0=k from e] at h1
  exact ⟨v,h1,h2⟩
 refine ⟨CC.length,.inl ⟨_,SqL.of (S.sm _ _ hz),lz.symm⟩,by lia,by lia,fun D hD=>?_⟩
 refine Xo (J:=Itr 0 CC.length) CC.length (by lia) (fun τ=>∃ o,τ=[o,some (.ref d)]) (ykR kvs) (fun i ys H H' s h=>h) ⟨_,rfl⟩ ⟨rfl,fun k h=>by lia⟩ (fun i H _ h=>h) (fun H _=>bo _) hD ?_ ?_
 ·rintro i v τ ys H4 H5 ⟨o,rfl⟩ s4 hi ⟨l1,l2⟩ ⟨rfl,rfl⟩
  simp only [ba,bb,bf,exists_eq_left',V.ref.injEq,bn,and_true,br]
  rw [on]
  obtain ⟨v,h1,_⟩:=g i hi
  refine ⟨v,.inl ⟨kvs,.inl (i:Int),.inl (s4 _ _ e1),rfl,h1.symm⟩,⟨_,rfl⟩,⟨by rw [bz,l1];rfl,fun k hk=>?_⟩,Same.refl _⟩
  by_cases c:k=i
  ·rw [c,eE (by lia),l1,Nat.sub_self,h1];rfl
  ·rw [eL (by lia)];exact l2 k (by lia)
 ·rintro ys H4 hly ⟨l1,l2⟩ s4 hq
  refine ⟨by decide,fun p hp=>?_⟩
  have s5:=isV (o:=HO.tup [V.ref D,V.ref nl]) p hp
  have nw:=S.nw
  have ti:=S.ti
  rw [fq] at nw ti
  have px:PpsX Hm ys (pK CC tab os) CC.length:=⟨l1,fun k v hv=>by
   have hk:=(bC.mp hv).1
   obtain ⟨v',h1,h2⟩:=g k (by lia)
   rw [l2 k (by lia),h1] at hv
   cases hv
   exact h2⟩
  have M:=e4.trans (s4.trans s5)
  exact q (.ref p) D Hm ys _ e3 M e6 (fun z=>by obtain ⟨ws,hw,_⟩:=nw;rw [z,hw] at hD;cases hD) (s5 _ _ hq) px ⟨⟨p,rfl,ze⟩,⟨ys,s5 _ _ hq,px.1,fun k v hv=>(px.2 k v hv).same M⟩,yI nw (s4.trans s5),ti,le⟩
theorem OrS.same {H':Hp} (S:OrS us CC tab os F H0 H d nl i) (k:Same H H'):OrS us CC tab os F H0 H' d nl i:=by
 obtain ⟨kvs,Hm,e1,e2,e3,e4,e5,e6,e7⟩:=S.pp
 exact ⟨S.sm.trans k,S.fd,yI S.nw k,S.ti,kvs,Hm,k _ _ e1,e2,e3,e4.trans k,e5,e6,e7⟩
theorem zct (hC:CosAt us H cl CC) {k:Nat} (hk:k < CC.length):∃ xs a ys,H cl=some (.lst xs)∧xs[k]?=some (.ref a)∧H a=some (.lst ys)∧Paired (CsAt H) ys (CC.getD k [])∧KA us (CC.getD k []):=by
 obtain ⟨⟨xs,h1,h2⟩,h3,_⟩:=hC
 have lx:=b5 h2
 have hx:xs[k]?=some xs[k]:=bh (by lia)
 obtain ⟨C,hc,a,ys,e,h5,h6⟩:=L2.Paired.getP h2 hx
 have ec:CC.getD k []=C:=by rw [bp,hc];rfl
 rw [ec]
 exact ⟨xs,a,ys,h1,by rw [hx,e],h5,h6,h3 C (cL hc)⟩
def ioI (us:List Str) (CC:List (List Cs)) (tab:List Row) (os:List Nat) (F:Prop) (cl tl l d:Addr) (H0:Hp) (i:Nat) (σ:St) (H:Hp):Prop:=∃ nl,(∃ o5,σ=[some (.ref cl),some (.ref tl),some (.ref l),some (.ref d),some (.ref nl),o5])∧OrS us CC tab os F H0 H d nl i
theorem PpAt.w {Hb H:Hp} {r:Addr} {s:RSt} {C:List Cs} {rows:List Row} (P:PpAt Hb H r s) (F:XQ C rows s):∃ o nl gl out,H r=some (.tup [o,.ref nl,.ref gl])∧yk H gl out∧w4 s out∧PpW H (.ref r) s:=by
 obtain ⟨o,nl,gl,out,h1,h2,h3,h4,h5,_⟩:=P
 obtain ⟨m,_,I⟩:=F.ri
 exact ⟨o,nl,gl,out,h1,h4,h5,r,o,nl,gl,out,rfl,h1,h2,h3,h4,h5,C,m,I⟩
theorem XA {a:Addr} {k:List (Key × V)} {o:HO} {zs:List V} (hd:H d=some (.dK k)) (h:H a=some (.tup zs)):upd H d o a=some (.tup zs):=by rw [zj (fun z=>by rw [z,hd] at h;cases h)];exact h
theorem YA {a:Addr} {k:List (Key × V)} {o:HO} {rows:List Row} (hd:H d=some (.dK k)) (h:yk H a rows):yk (upd H d o) a rows:=by
 obtain ⟨xs,hx,px⟩:=h
 exact ⟨xs,by rw [zj (fun z=>by rw [z,hd] at hx;cases hx)];exact hx,xu (fun b us e=>XA hd e) px⟩
theorem zdR (hC:CosAt us H0 cl CC) (hu:us.length=2) (hl:H0 l=some (.lst (os.map z8))) (pm:os.Perm (bZ CC.length)) (S:OrS us CC tab os True H0 H d nl 0) (q:∀ v pl tl' Hm xs H',Same H0 Hm→Same Hm H'→Hm tl'=none→pl≠tl'→H' pl=some (.lst xs)→PpsX Hm xs (pK CC tab os) CC.length→TolAt us H' v (pK CC tab os) CC.length (jW CC tab os) pl tl'→Q v H') :
  vU K t E { nx:=fun _ H'=>Q .non H',rt:=Q } [some (.ref cl),some (.ref tl),some (.ref l),some (.ref d),some (.ref nl),none] H:=by
 simp only [vU,Xh,w5,wf,vi,zI,zn,zF,zm,tOp,zc,tC,zb,zh,vD,zp,wQ,yV,zI,bq,ba,bb,bf,exists_eq_left',V.int.injEq,V.ref.injEq,bn,and_true,and_assoc,exists_and_left]
 have lm:(os.map z8).length=os.length:=bt ..
 have nd:os.Nodup:=pm.nodup_iff.mpr l0
 have lo:=pm.length_eq
 rw [dg] at lo
 have le:=hC.le
 refine ⟨⟨_,SqL.of (S.sm _ _ hl)⟩,v6 (os.map z8) (ioI us CC tab os True cl tl l d H0) ⟨nl,⟨_,rfl⟩,S⟩ (fun i σ H' ⟨_,_,z⟩=>SqL.of (z.sm _ _ hl)) ?_ ?_⟩
 ·rintro i v σ H1 hv ⟨nl,⟨o5,rfl⟩,S⟩
  have hi:=(bC.mp hv).1
  rw [lm] at hi
  rw [VA hi] at hv
  cases hv
  have hk:os.getD i 0 < CC.length:=dW.mp (pm.mem_iff.mp (Xy hi))
  simp only [ba,bb,bf,exists_eq_left',V.int.injEq,V.ref.injEq,br,bu]
  obtain ⟨xs,a,ys,c1,c2,c3,c4,cc⟩:=zct (hC.same S.sm) hk
  have ti:=S.ti
  have l6:=ti.len hu
  refine ⟨_,SqL.of c1,_,jm c2,a,rfl,_,c3,_,c4,cc.co,_,S.nw,by lia,fun r hr=>(ti.ps r hr).2,fun r s H2 s2 F P=>?_⟩
  obtain ⟨o,n2,gl,gi,p1,p2,p3,p4⟩:=P.w F
  obtain ⟨kvs,Hm,e1,e2,_⟩:=S.pp
  have hd:=s2 _ _ e1
  obtain ⟨k1,k2,k3⟩:=QL hu cc ti F p3
  exact ⟨_,.inl ⟨kvs,.inl ((os.getD i 0:Nat):Int),hd,rfl,b9 (by lia:_≤63) (by decide),rfl⟩,.ref r,.inl ⟨_,.inl ((os.getD i 0:Nat):Int),.inl ze,rfl,by rw [v3,if_pos rfl]⟩,r,rfl,_,SqT.of (XA hd p1),_,rfl,gl,rfl,_,YA hd (yI S.nw s2),gi,YA hd p2,k1,k2,fun nl' out H3 s3 fn hl T=>⟨nl',⟨_,rfl⟩,S.step nd hi e1 s2 F p4 p3 s3 fn hl T (k3 out T)⟩⟩
 ·rintro σ H1 ⟨nl,⟨o5,rfl⟩,S⟩
  rw [lm] at S
  exact JN S hC pm fun v pl Hm xs H' a1 a2 a3 a4 a5 a6 a7=>q v pl nl Hm xs H' a1 a2 (a3 trivial) a4 a5 a6 a7
theorem VB {ns:List Int} (hC:CosAt us H cl CC) (hu:us.length=2) (hn:∀ w∈us,yf w=true) (ht:yk H tl tab) (ti:TabI us tab) (hl:H l=some (.lst (ns.map V.int))) (h6:ns.length≤64)
  (q1:∀ os:List Nat,ns=(os.map fun (i:Nat)=>(i:Int))→os.Perm (bZ CC.length)→∀ v pl tl' Hm xs H',Same H Hm→Same Hm H'→Hm tl'=none→pl≠tl'→H' pl=some (.lst xs)→PpsX Hm xs (pK CC tab os) CC.length→TolAt us H' v (pK CC tab os) CC.length (jW CC tab os) pl tl'→Q v H') (q2:¬ jV CC.length ns→∀ H',Same H H'→E (.ref t.c_NoOrder) none H') :
  kK K t E { nx:=fun _ H'=>Q .non H',rt:=Q } (L2.start ["codes","table","order","papers","behind","rank"] [.ref cl,.ref tl,.ref l]) H:=by
 simp only [kK,qu,vL,L2.start,Zi,zn,zF,zm,xi,zc,zb,zh,tCB,zp,qx,qB,xS,b7,bw,bG,bI,bQ,bq,ba,bb,bf,exists_eq_left',V.int.injEq,V.ref.injEq,bn,and_true,and_assoc,exists_and_left,br,bu,bL,bE]
 obtain ⟨⟨zs,hz,pz⟩,_,le⟩:=id hC
 have lz:=b5 pz
 refine ⟨CC.length,.inl ⟨_,SqL.of hz,lz.symm⟩,_,rfl,ns,hl,h6,le,fun o H1 s1=>?_,q2⟩
 obtain ⟨os,e,pm⟩:=zdM o
 intro d hd
 obtain ⟨xs,hx,px⟩:=ht
 have s2:=isV (o:=HO.dK []) d hd
 have e2:upd H1 d (HO.dK []) d=some (.dK []):=ze
 generalize upd H1 d (HO.dK [])=H2 at *
 refine ⟨xs,.inl (SqL.of ((s1.trans s2) _ _ hx)),fun nl hnl=>?_⟩
 have s3:=isV (o:=HO.lst xs) nl hnl
 have S:OrS us CC tab os True H1 (upd H2 nl (HO.lst xs)) d nl 0:=⟨s2.trans s3,hd,⟨xs,ze,wO (s1.trans (s2.trans s3)) px⟩,ti,[],H1,s3 _ _ e2,bo _,Same.refl _,s2.trans s3,hd,fun _=>zH s2 hnl,fun j hj=>absurd hj (Nat.not_lt_zero _)⟩
 exact zdR (hC.same s1) hu (by rw [jO,← e];exact s1 _ _ hl) pm S fun v pl tl' Hm xs H' a1 a2 a3 a4 a5 a6 a7=>q1 os e pm v pl tl' Hm xs H' (s1.trans a1) a2 a3 a4 a5 a6 a7
theorem VC (hC:CosAt us H cl CC) (hu:us.length=2) (hn:∀ w∈us,yf w=true) (ht:yk H tl tab) (ti:TabI us tab) (hl:H l=some (.lst (os.map z8))) (pm:os.Perm (bZ CC.length))
  (q:∀ v pl tl' H',Same H H'→TolAt us H' v (pK CC tab os) CC.length (jW CC tab os) pl tl'→Q v H') :
  kJ K t { nx:=fun _ H'=>Q .non H',rt:=Q } (L2.start ["codes","table","order","papers","now","rank"] [.ref cl,.ref tl,.ref l]) H:=by
 simp only [kJ,qt,Xh,jG,w5,wf,vi,L2.start,Zi,zI,zn,zF,zm,tOp,zc,tC,zb,zh,vD,tCB,zp,qB,wQ,yV,zI,b7,bw,bG,bI,bQ,bq,ba,bb,bf,exists_eq_left',V.int.injEq,V.ref.injEq,bn,and_true,and_assoc,exists_and_left,br,bu,bL,bE]
 have lm:(os.map z8).length=os.length:=bt ..
 have nd:os.Nodup:=pm.nodup_iff.mpr l0
 have lo:=pm.length_eq
 rw [dg] at lo
 have le:=hC.le
 intro d hd
 have s0:=isV (o:=HO.dK []) d hd
 have e0:upd H d (HO.dK []) d=some (.dK []):=ze
 generalize upd H d (HO.dK [])=H1 at *
 have S:OrS us CC tab os False H H1 d tl 0:=⟨s0,hd,yI ht s0,ti,[],H,e0,bo _,Same.refl _,s0,hd,fun z=>z.elim,fun j hj=>absurd hj (Nat.not_lt_zero _)⟩
 refine ⟨⟨_,SqL.of (S.sm _ _ hl)⟩,v6 (os.map z8) (ioI us CC tab os False cl tl l d H) ⟨tl,⟨_,rfl⟩,S⟩ (fun i σ H' ⟨_,_,z⟩=>SqL.of (z.sm _ _ hl)) ?_ ?_⟩
 ·rintro i v σ H1 hv ⟨nl,⟨o5,rfl⟩,S⟩
  have hi:=(bC.mp hv).1
  rw [lm] at hi
  rw [VA hi] at hv
  cases hv
  have hk:os.getD i 0 < CC.length:=dW.mp (pm.mem_iff.mp (Xy hi))
  simp only [ba,bb,bf,exists_eq_left',V.int.injEq,V.ref.injEq,br,bu]
  obtain ⟨xs,a,ys,c1,c2,c3,c4,cc⟩:=zct (hC.same S.sm) hk
  obtain ⟨zs,hz,pz⟩:=id S.nw
  refine ⟨_,SqL.of c1,_,jm c2,a,rfl,ys,.inl (SqL.of c3),fun l1 hl1=>?_⟩
  have s1:=isV (o:=HO.lst ys) l1 hl1
  have e1:upd H1 l1 (HO.lst ys) l1=some (.lst ys):=ze
  generalize upd H1 l1 (HO.lst ys)=H2 at *
  refine ⟨zs,.inl (SqL.of (s1 _ _ hz)),fun l2 hl2=>?_⟩
  have s2:=isV (o:=HO.lst zs) l2 hl2
  have e2:upd H2 l2 (HO.lst zs) l2=some (.lst zs):=ze
  generalize upd H2 l2 (HO.lst zs)=H3 at *
  have S:=S.same (s1.trans s2)
  have ti:=S.ti
  have l6:=ti.len hu
  refine ⟨_,s2 _ _ e1,_,xh (s1.trans s2) c4,cc.co,_,⟨zs,e2,wO (s1.trans s2) pz⟩,by lia,fun r hr=>(ti.ps r hr).2,fun r s H4 s4 F P=>?_⟩
  obtain ⟨o,n2,gl,gi,p1,p2,p3,p4⟩:=P.w F
  obtain ⟨kvs,Hm,e1,e2,_⟩:=S.pp
  have hd:=s4 _ _ e1
  obtain ⟨k1,k2,k3⟩:=QL hu cc ti F p3
  exact ⟨_,.inl ⟨kvs,.inl ((os.getD i 0:Nat):Int),hd,rfl,b9 (by lia:_≤63) (by decide),rfl⟩,.ref r,.inl ⟨_,.inl ((os.getD i 0:Nat):Int),.inl ze,rfl,by rw [v3,if_pos rfl]⟩,r,rfl,_,SqT.of (XA hd p1),_,rfl,gl,rfl,_,YA hd (yI S.nw s4),gi,YA hd p2,k1,k2,fun nl' out H3 s3 fn hl T=>⟨nl',⟨_,rfl⟩,S.step nd hi e1 s4 F p4 p3 s3 fn hl T (k3 out T)⟩⟩
 ·rintro σ H1 ⟨nl,⟨o5,rfl⟩,S⟩
  rw [lm] at S
  exact JN (t:=t) (E:=E0) S hC pm fun v pl Hm xs H' a1 a2 a3 a4 a5 a6 a7=>q v pl nl H' (a1.trans a2) a7
end
theorem PlV.mono {H H':Hp} {n:Nat} {v:V} (s:Same H H') (h:PlV H n v):PlV H' n v:=by
 induction h with
 | int i=>exact .int i
 | str x=>exact .str x
 | lst e _ ih=>exact .lst (s _ _ e) ih
 | tup e _ ih=>exact .tup (s _ _ e) ih
theorem kU {vs:List V} {H:Hp} {Q:VK} {E:XK} (h:yZ 0 vs H Q E):False:=by
 obtain ⟨v,_,h,_⟩:=h
 cases h
theorem XB {n:Nat} {v:V} (F:KF K) (h:PlV H (n + 1) v) (q:∀ H',Same H H'→Q (.bl true) H') :
  vV K t n { nx:=fun _ H'=>Q .non H',rt:=Q } (L2.start ["found","part"] [v]) H:=by
 simp only [vV,yZ,Qx,zey,L2.start,zn,zm,zA,zB,zc,tC,yt,zb,zh,vD,zK,vC,tB,qe,VL,tCB,zp,Yj,b7,bw,bG,bI,bQ,bq,ba,bf,exists_eq_left',V.ref.injEq,V.bl.injEq,V.ty.injEq,bn,and_true,and_assoc,exists_and_left,bL,bE,b0]
 refine ⟨by decide,fun p hp=>?_⟩
 have s1:=isV (o:=HO.tup [V.ty "list",V.ty "tuple"]) p hp
 have e1:upd H p (HO.tup [V.ty "list",V.ty "tuple"]) p=some (.tup [V.ty "list",V.ty "tuple"]):=ze
 generalize upd H p (HO.tup [V.ty "list",V.ty "tuple"])=H1 at *
 cases h with
 | int i =>
  refine ⟨_,.int i,["list","tuple"],e1,false,F.a3,?_⟩
  rw [if_neg (by decide)]
  refine ⟨by decide,fun p2 hp2=>⟨_,.int i,["int","str"],ze,true,F.a5,?_⟩⟩
  rw [if_pos rfl]
  exact ⟨_,.int i,false,F.i_b,q _ (s1.trans (isV p2 hp2))⟩
 | str y =>
  refine ⟨_,.str y,["list","tuple"],e1,false,F.a4,?_⟩
  rw [if_neg (by decide)]
  refine ⟨by decide,fun p2 hp2=>⟨_,.str y,["int","str"],ze,true,F.a6,?_⟩⟩
  rw [if_pos rfl]
  exact ⟨_,.str y,false,F.s_b,q _ (s1.trans (isV p2 hp2))⟩
 | @lst _ l xs hl hx =>
  refine ⟨_,.lst (s1 _ _ hl),["list","tuple"],e1,true,F.a2,?_⟩
  rw [if_pos rfl]
  refine ⟨l,rfl,.inl ⟨⟨_,SqL.of (s1 _ _ hl)⟩,v6 xs (fun _ σ H'=>(∃ o,σ=[some (.ref l),o])∧Same H H') ⟨⟨_,rfl⟩,s1⟩ (fun i σ H' z=>SqL.of (z.2 _ _ hl)) ?_ ?_⟩⟩
  ·rintro i y σ H' hy ⟨⟨o,rfl⟩,S⟩
   refine ⟨y,rfl,PlV.mono S (hx y (cL hy)),fun H2 s2=>?_⟩
   rw [if_neg (by decide)]
   exact ⟨⟨_,rfl⟩,S.trans s2⟩
  ·rintro σ H' ⟨_,S⟩
   exact q _ S
 | @tup _ l xs hl hx =>
  refine ⟨_,.tup (s1 _ _ hl),["list","tuple"],e1,true,F.a1,?_⟩
  rw [if_pos rfl]
  refine ⟨l,rfl,.inr ⟨⟨_,SqT.of (s1 _ _ hl)⟩,VZ xs (fun _ σ H'=>(∃ o,σ=[some (.ref l),o])∧Same H H') ⟨⟨_,rfl⟩,s1⟩ (fun i σ H' z=>SqT.of (z.2 _ _ hl)) ?_ ?_⟩⟩
  ·rintro i y σ H' hy ⟨⟨o,rfl⟩,S⟩
   refine ⟨y,rfl,PlV.mono S (hx y (cL hy)),fun H2 s2=>?_⟩
   rw [if_neg (by decide)]
   exact ⟨⟨_,rfl⟩,S.trans s2⟩
  ·rintro σ H' ⟨_,S⟩
   exact q _ S
theorem VD (n:Nat) {rows:List Row} {xs:List V} (h:Paired (PrAt H) xs rows):∀ v∈xs,PlV H (n + 3) v:=by
 intro v hv
 obtain ⟨i,hi⟩:=dQ hv
 obtain ⟨q,_,r,p,rfl,e1,e2⟩:=Paired.getP h hi
 refine .tup e1 fun y hy=>?_
 simp only [bR,de,or_false] at hy
 rcases hy with rfl | rfl
 ·refine .tup e2 fun y hy=>?_
  simp only [bR,de,or_false] at hy
  rcases hy with rfl | rfl
  ·exact .str _
  ·exact .int _
 ·exact .int _
theorem zeZ {v:V} {oc:Oc} (h:Xf H v oc):PlV H 6 v:=by
 cases oc with
 | done sa =>
  obtain ⟨o,y,rfl,e1,e2⟩:=h
  refine .tup e1 fun z hz=>?_
  simp only [bR,de,or_false] at hz
  rcases hz with rfl | rfl
  ·exact .str _
  ·refine .tup e2 fun z hz=>?_
   obtain ⟨i,_,rfl⟩:=cm.mp hz
   exact .int i
 | off w =>
  obtain ⟨o,rfl,e1⟩:=h
  refine .tup e1 fun z hz=>?_
  simp only [bR,de,or_false] at hz
  rcases hz with rfl | rfl <;> exact .str _
theorem PpW.plv {v:V} {s:RSt} (P:PpW H v s):PlV H 7 v:=by
 obtain ⟨r,o,nl,gl,out,rfl,hr,ho,⟨xs,hx,px⟩,⟨ys,hy,py⟩,_⟩:=P
 refine .tup hr fun z hz=>?_
 simp only [bR,de,or_false] at hz
 rcases hz with rfl | rfl | rfl
 ·exact zeZ ho
 ·exact .lst hx (VD 2 px)
 ·exact .lst hy (VD 2 py)
theorem zcu:∀ {xs:List V} (g:Nat→PyData),(∀ k v,xs[k]?=some v→Dat K H v (g k))→DatAll K H xs ((bZ xs.length).map g)
 | [],g,_=>.nil
 | x :: xs,g,h=>by
  rw [cB,List.range_succ_eq_map,bW,dD]
  exact .cons (h 0 x rfl) (zcu (fun k=>g (k + 1)) fun k v e=>h (k + 1) v e)
theorem Z1:∀ {ds:List PyData} {m:Nat},(∀ d∈ds,zy d=true∧d.depth≤m)→zE ds=true∧bO ds≤m
 | [],_,_=>by simp [zE,bO]
 | d :: ds,m,h=>by
  have h1:=h d bF
  have h2:=Z1 (ds:=ds) (m:=m) fun x hx=>h x (bB _ hx)
  rw [zE,bO,h1.1,h2.1]
  exact ⟨rfl,by lia⟩
noncomputable def pD (s:RSt):PyData:=ppD (ZM s) s.no (giS s)
theorem PpW.dat {v:V} {s:RSt} (P:PpW H v s):Dat K H v (pD s)∧zy (pD s)=true∧(pD s).depth≤7:=by
 obtain ⟨r,o,nl,gl,out,rfl,hr,ho,hn,hg,G,C,m,I⟩:=P
 unfold pD
 rw [zcq G]
 refine ⟨zeL hr ho hn hg,?_,?_⟩
 ·have a1:=zcd (oc:=ZM s) (zeS I)
  have a2:=Zt I.nn
  have a3:=Zt (zft I G)
  simp only [ppD,zy,zE,bX,and_true] at a1 a2 a3 ⊢
  exact ⟨a1,a2,a3⟩
 ·have a1:=zdA (ZM s)
  have a2:=Yy s.no
  have a3:=Yy out
  simp only [ppD,cr,bO] at *
  lia
noncomputable def psD (f:Nat→RSt) (n:Nat):PyData:=.list ((bZ n).map fun k=>pD (f k))
theorem PpsX.dat {l:Addr} {xs:List V} {f:Nat→RSt} {n:Nat} (h:H l=some (.lst xs)) (P:PpsX H xs f n):Dat K H (.ref l) (psD f n)∧zy (psD f n)=true∧(psD f n).depth≤8:=by
 obtain ⟨rfl,P⟩:=P
 refine ⟨.lst (SqL.of h) (zcu _ fun k v e=>(P k v e).dat.1),?_⟩
 have a:=Z1 (ds:=(bZ xs.length).map fun k=>pD (f k)) (m:=7) fun d hd=>by
  obtain ⟨k,hk,rfl⟩:=cm.mp hd
  exact (PpW.dat (K:=K) (P k _ (bh (dW.mp hk)))).2
 unfold psD
 rw [zy,cr]
 exact ⟨a.1,by lia⟩
section
variable {us:List Str} {v:V} {f:Nat→RSt} {n:Nat} {out:List Row} {pl tl:Addr}
noncomputable def tD (f:Nat→RSt) (n:Nat) (out:List Row):PyData:=.tuple [psD f n,.list (out.map ZY)]
theorem TabI.sok (h:TabI us out) (hn:∀ w∈us,yf w=true):∀ r∈out,b6 r.1.1=true:=fun r hr=>jN (hn _ (h.ps r hr).1.1)
theorem TolAt.dat (T:TolAt us H v f n out pl tl) (hn:∀ w∈us,yf w=true):Dat K H v (tD f n out)∧zy (tD f n out)=true∧(tD f n out).depth≤64:=by
 obtain ⟨⟨r,rfl,hr⟩,⟨xs,hx,P⟩,tb,ti,_⟩:=T
 obtain ⟨p1,p2,p3⟩:=P.dat (K:=K) hx
 have a2:=Zt (ti.sok hn)
 have a3:=Yy out
 refine ⟨.tup (SqT.of hr) (.cons p1 (.cons (Xq tb) .nil)),?_,?_⟩
 ·simp only [tD,zy,zE,bX,and_true] at a2 ⊢
  exact ⟨p2,a2⟩
 ·simp only [tD,cr,bO] at a3 ⊢
  lia
theorem TolAt.plv (T:TolAt us H v f n out pl tl):PlV H 9 v:=by
 obtain ⟨⟨r,rfl,hr⟩,⟨xs,hx,P⟩,⟨ys,hy,py⟩,_⟩:=T
 refine .tup hr fun z hz=>?_
 simp only [bR,de,or_false] at hz
 rcases hz with rfl | rfl
 ·refine .lst hx fun z hz=>?_
  obtain ⟨i,hi⟩:=dQ hz
  exact (P.2 i z hi).plv
 ·exact .lst hy (VD 4 py)
theorem TolAt.same {H':Hp} (T:TolAt us H v f n out pl tl) (s:Same H H'):TolAt us H' v f n out pl tl:=by
 obtain ⟨⟨r,e,hr⟩,⟨xs,hx,P⟩,tb,ti,le⟩:=T
 exact ⟨⟨r,e,s _ _ hr⟩,⟨xs,s _ _ hx,P.1,fun k v e=>(P.2 k v e).same s⟩,yI tb s,ti,le⟩
theorem XC {u:V} {p1 t1 p2 t2:Addr} (h1:TolAt us H v f n out p1 t1) (h2:TolAt us H u f n out p2 t2) (h3:∀ w∈us,yf w=true) (q:∀ H',Same H H'→Q (.bl true) H') :
  vW K t { nx:=fun _ H'=>Q .non H',rt:=Q } (L2.start ["found","due"] [v,u]) H:=by
 simp only [vW,yZ,ZE,L2.start,zI,zn,zA,zB,tOp,zc,tC,zb,zh,zK,tOr,vC,zv,tB,qe,tCB,zp,qx,zI,rNe,xS,Yj,xq,b7,bw,bG,bq,ba,bb,bf,exists_eq_left',V.int.injEq,V.bl.injEq,V.ty.injEq,bn,and_true,true_and,and_assoc,exists_and_left,bL,bE,b0,decide_eq_false_iff_not,if_true,cb,ite_false]
 obtain ⟨⟨r,rfl,hr⟩,⟨xs,hx,P⟩,⟨ys,hy,py⟩,_⟩:=id h1
 refine ⟨_,.tup hr,true,kO _,?_⟩
 rw [if_neg (by decide)]
 refine ⟨2,.inr ⟨_,SqT.of hr,rfl⟩,?_⟩
 rw [if_neg (by decide)]
 refine ⟨r,rfl,_,SqT.of hr,_,rfl,_,.lst hx,true,kO _,?_⟩
 rw [if_neg (by decide)]
 refine ⟨r,rfl,_,SqT.of hr,_,rfl,_,.lst hy,true,kO _,?_⟩
 rw [if_neg (by decide)]
 refine ⟨h1.plv,fun H1 s1=>?_⟩
 obtain ⟨d1,d2,d3⟩:=(h1.same s1).dat (K:=K) h3
 obtain ⟨e1,e2,e3⟩:=(h2.same s1).dat (K:=K) h3
 exact ⟨_,d1,_,e1,d2,e2,d3,e3,fun b hb=>by rw [hb.mpr rfl];exact q _ s1⟩
end
theorem svV {H H':Hp} {a:Addr} {o:HO} (e:upd H a o=H') (h:H a=none):Same H H':=e ▸ isV a h
section
variable {cl tl l:Addr} {us:List Str} {CC:List (List Cs)} {tab:List Row} {ns:List Int} {mg:Str→Option Value}
theorem Z2 (T:Txt K mg t) (hC:CosAt us H cl CC) (hu:us.length=2) (hn:∀ w∈us,yf w=true) (ht:yk H tl tab) (ti:TabI us tab) (h2:H l=some (.lst (ns.map V.int))) (h3:ns.length≤64) (h5:¬ jV CC.length ns) (q:∀ H',Same H H'→Q (.bl true) H') :
  wF K t { nx:=fun _ H'=>Q .non H',rt:=Q } (L2.start ["codes","table","none","handed","right","other","e"] [.ref cl,.ref tl,.ref l]) H:=by
 simp only [wF,vz,yH,zcT,L2.start,Zi,zcT,zfc,Kf,W5,zcU,za5,zeo,zn,zF,zm,zc,tC,yt,zb,zh,qe,tCB,b7,bw,bG,bI,bQ,bq,ba,bb,bf,exists_eq_left',V.ref.injEq,V.bl.injEq,bn,and_true,and_assoc,exists_and_left,br,bu,bL,bE]
 refine ⟨_,.inl (SqL.of h2),fun hd hhd=>?_⟩
 have s0:=isV (o:=HO.lst (ns.map V.int)) hd hhd
 have e0:upd H hd (HO.lst (ns.map V.int)) hd=some (.lst (ns.map V.int)):=ze
 generalize upd H hd (HO.lst (ns.map V.int))=H0 at *
 refine ⟨us,CC,hC.same s0,hu,hn,tab,yI ht s0,ti,ns,e0,h3,fun os e pm=>absurd (by rw [e];exact Vy pm) h5,fun _ H1 s1=>⟨_,rfl,T.y_NoOrder,T.e_NoOrder_ForerunError,fun e he=>?_⟩⟩
 have s2:=isV (o:=exO e t.c_NoOrder) e he
 have he:upd H1 e (exO e t.c_NoOrder) e=some (exO e t.c_NoOrder):=ze
 generalize upd H1 e (exO e t.c_NoOrder)=H2 at *
 refine ⟨_,he,T.y_NoOrder,true,T.i_NoOrder_NoOrder,?_⟩
 rw [if_pos rfl]
 refine ⟨_,he,T.y_NoOrder,true,T.i_NoOrder_ValueError,by decide,fun p1 hp1=>?_⟩
 generalize e3:upd H2 p1 _=H3
 have s3:=svV e3 hp1
 have q3:H3 p1=some (HO.tup [V.ref t.c_Folded,V.ref t.c_NoDealing,V.ref t.c_NoHand,V.ref t.c_NoLine,V.ref t.c_NoLog,V.ref t.c_NoNumber,V.ref t.c_NoTerm,V.ref t.c_Great,V.ref t.c_Nought]):=e3 ▸ ze
 refine ⟨_,s3 _ _ he,T.y_NoOrder,[t.c_Folded,t.c_NoDealing,t.c_NoHand,t.c_NoLine,t.c_NoLog,t.c_NoNumber,t.c_NoTerm,t.c_Great,t.c_Nought],q3,false,T.j_NoOrder_0,?_⟩
 simp only [vy,ZE,zA,tOp,zc,qe,VL,ba,bb,bf,exists_eq_left',V.bl.injEq,and_assoc,exists_and_left,b0,if_true,cb,ite_false]
 have U:=s1.trans (s2.trans s3)
 exact ⟨_,Z0 (U _ _ e0),_,Z0 ((s0.trans U) _ _ h2),(Zx _).1,(Zx _).1,(Zx _).2,(Zx _).2,fun b hb=>by rw [hb.mpr rfl];exact q _ (s0.trans U)⟩
end
structure LwS (K:bx) (us:List Str) (CC:List (List Cs)) (tab:List Row) (os:List Nat) (ns:List Int) (H:Hp) (a tl cl ol dv dpl dtl hl gl g0 g1:Addr):Prop where
 hS:SqL K H a (ns.map V.int)
 co:CosAt us H cl CC
 ta:yk H tl tab
 od:H ol=some (.lst (os.map z8))
 du:TolAt us H (.ref dv) (pK CC tab os) CC.length (jW CC tab os) dpl dtl
 ha:CosAt us H hl CC
 gv:H gl=some (.lst [.ref g0,.ref g1])
 t0:yk H g0 tab
 o1:H g1=some (.lst (os.map z8))
structure LwP (us:List Str) (CC:List (List Cs)) (tab:List Row) (os:List Nat) (ns:List Int):Prop where
 ti:TabI us tab
 hu:us.length=2
 hn:∀ w∈us,yf w=true
 pm:os.Perm (bZ CC.length)
 ln:ns.length≤63
section
variable {us:List Str} {CC:List (List Cs)} {tab:List Row} {os:List Nat} {ns:List Int} {a tl cl ol dv dpl dtl hl gl g0 g1:Addr} {o1 o2 o9:Option V}
theorem LwS.same {H':Hp} (S:LwS K us CC tab os ns H a tl cl ol dv dpl dtl hl gl g0 g1) (s:Same H H'):LwS K us CC tab os ns H' a tl cl ol dv dpl dtl hl gl g0 g1 :=
 ⟨S.hS.mono s,S.co.same s,yI S.ta s,s _ _ S.od,S.du.same s,S.ha.same s,s _ _ S.gv,yI S.t0 s,s _ _ S.o1⟩
theorem LwP.lo (P:LwP us CC tab os ns):os.length=CC.length:=by
 have:=P.pm.length_eq
 rwa [dg] at this
def ccD (CC:List (List Cs)):PyData:=.list (CC.map fun C=>.list (C.map csD))
theorem JO:∀ {xs:List V} {CC:List (List Cs)},Paired (zfl H) xs CC→(∀ C∈CC,KA us C)→DatAll K H xs (CC.map fun C=>.list (C.map csD))
 | _,_,.nil,_=>.nil
 | _,_,.cons ⟨a,ys,e,h1,h2⟩ r,p=>by
  rw [bW,e]
  exact .cons (.lst (SqL.of h1) (QI h2 (p _ bF).pl)) (JO r fun C hC=>p C (bB _ hC))
theorem CosAt.dat {l:Addr} (h:CosAt us H l CC):Dat K H (.ref l) (ccD CC)∧zy (ccD CC)=true∧(ccD CC).depth≤64:=by
 obtain ⟨⟨xs,hx,px⟩,ok,_⟩:=h
 have k:=Z1 (ds:=CC.map fun C=>.list (C.map csD)) (m:=4) fun d hd=>by
  obtain ⟨C,hC,rfl⟩:=cm.mp hd
  have:=WM (ok C hC).pl
  rw [zy,cr]
  exact ⟨this.1,by lia⟩
 refine ⟨.lst (SqL.of hx) (JO px ok),?_⟩
 unfold ccD
 rw [zy,cr]
 exact ⟨k.1,by lia⟩
def zdS (us:List Str) {l:Addr} {H:Hp} (h:H l=some (.lst [])):CosAt us H l []:=⟨⟨[],h,.nil⟩,(fun C hC=>nomatch hC),b8 _⟩
theorem zax (P:LwP us CC tab os ns) (S:LwS K us CC tab os ns H a tl cl ol dv dpl dtl hl gl g0 g1) (q:∀ H',Q (.bl true) H') :
  ZQ K t { nx:=fun _ H'=>Q .non H',rt:=Q } [some (.ref a),o1,o2,some (.ref tl),some (.ref cl),some (.ref ol),some (.ref dv),some (.ref hl),some (.ref gl),o9] H:=by
 simp only [ZQ,yN,yH,zA,tOp,zc,tC,yK,yt,zb,zh,zp,yV,bG,bq,ba,bb,bf,exists_eq_left',V.int.injEq,V.ref.injEq,bn,and_true,and_assoc,exists_and_left,bE]
 refine ⟨by decide,fun l1 hl1=>?_⟩
 have s1:=isV (o:=HO.lst []) l1 hl1
 have e1:upd H l1 (HO.lst []) l1=some (.lst []):=ze
 generalize upd H l1 (HO.lst [])=H1 at *
 refine ⟨_,SqL.of (s1 _ _ S.gv),_,rfl,by decide,fun l2 hl2=>?_⟩
 have s2:=isV (o:=HO.lst []) l2 hl2
 have e2:upd H1 l2 (HO.lst []) l2=some (.lst []):=ze
 generalize upd H1 l2 (HO.lst [])=H2 at *
 have S2:=S.same (s1.trans s2)
 refine ⟨_,rfl,us,[],zdS us (s2 _ _ e1),P.hu,P.hn,tab,S2.t0,P.ti,[],e2,b8 _,fun os' eo pm v pl tl' Hm xs H3 m1 m2 m3 m4 m5 m6 T=>?_,fun z=>absurd (mX _) z⟩
 obtain rfl:os'=[]:=by cases os' with | nil=>rfl | cons x y=>cases eo
 refine ⟨by decide,fun l3 hl3=>?_⟩
 have s4:=isV (o:=HO.lst []) l3 hl3
 have e4:upd H3 l3 (HO.lst []) l3=some (.lst []):=ze
 generalize upd H3 l3 (HO.lst [])=H4 at *
 refine ⟨by decide,fun p hp=>?_⟩
 generalize e5:upd H4 p _=H5
 have s5:=svV e5 hp
 have q5:H5 p=some (.tup [.ref l3,.ref tl]):=e5 ▸ ze
 have U:=m1.trans (m2.trans (s4.trans s5))
 exact ⟨us,_,_,_,pl,tl',T.same (s4.trans s5),l3,tl,⟨⟨p,rfl,q5⟩,⟨[],s5 _ _ e4,rfl,fun k v z=>by cases z⟩,yI S2.ta U,P.ti,b8 _⟩,P.hn,fun H6 s6=>q _⟩
theorem zay (P:LwP us CC tab os ns) (S:LwS K us CC tab os ns H a tl cl ol dv dpl dtl hl gl g0 g1) (q:∀ H',Q (.bl true) H') :
  ZR K t { nx:=fun _ H'=>Q .non H',rt:=Q } [some (.ref a),o1,o2,some (.ref tl),some (.ref cl),some (.ref ol),some (.ref dv),some (.ref hl),some (.ref gl),o9] H:=by
 simp only [ZR,ZE,zn,zA,zB,tOp,zc,tC,yK,zb,zh,zK,tOr,zv,bG,ba,bb,bf,exists_eq_left',V.bl.injEq,and_assoc,exists_and_left,bE,b0,if_true]
 obtain ⟨a1,a2,a3⟩:=S.ha.dat (K:=K)
 refine ⟨_,a1,_,S.co.dat.1,a2,a2,a3,a3,fun b hb=>?_⟩
 rw [hb.mpr rfl,if_neg (by decide)]
 refine ⟨by decide,fun l1 hl1=>?_⟩
 generalize e1:upd H l1 _=H1
 have s1:=svV e1 hl1
 have q1:H1 l1=some (.lst [.ref tl,.ref ol]):=e1 ▸ ze
 have S1:=S.same s1
 have c1:=Zt (P.ti.sok P.hn)
 have c2:=Yy tab
 have c3:=Zx (cI os)
 have d1:zy (.list [.list (tab.map ZY),inD (cI os)])=true∧(PyData.list [.list (tab.map ZY),inD (cI os)]).depth≤64:=by
  have c5:=Xv (cI os)
  simp only [inD,zy,zE,cr,bO,bX,and_true] at c1 c2 c3 c5 ⊢
  exact ⟨⟨c1,c3.1⟩,by lia⟩
 refine ⟨_,.lst (SqL.of S1.gv) (.cons (Xq S1.t0) (.cons (Z0 (ns:=cI os) (by rw [S1.o1,jO];rfl)) .nil)),_,.lst (SqL.of q1) (.cons (Xq S1.ta) (.cons (Z0 (ns:=cI os) (by rw [S1.od,jO];rfl)) .nil)),d1.1,d1.1,d1.2,d1.2,fun b hb=>?_⟩
 rw [hb.mpr rfl,if_neg (by decide)]
 exact zax P S1 q
theorem zd5 {os':List Nat} (h:cI os=(os'.map fun (i:Nat)=>(i:Int))):os=os':=(nK fun x y z=>by exact nJ z).mp h
theorem zaz (P:LwP us CC tab os ns) (S:LwS K us CC tab os ns H a tl cl ol dv dpl dtl hl gl g0 g1) (q:∀ H',Q (.bl true) H') :
  ZS K t { nx:=fun _ H'=>Q .non H',rt:=Q } [some (.ref a),o1,o2,some (.ref tl),some (.ref cl),some (.ref ol),some (.ref dv),some (.ref hl),some (.ref gl),o9] H:=by
 simp only [ZS,yN,yH,zn,zA,zB,tOp,zc,tC,zb,zh,zK,vC,tB,zp,yV,bq,ba,bb,bf,exists_eq_left',V.int.injEq,V.ref.injEq,V.bl.injEq,bn,and_true,and_assoc,exists_and_left,b0]
 have lo:=P.lo
 have le:=S.co.le
 refine ⟨_,SqL.of S.gv,_,rfl,_,SqL.of S.gv,_,rfl,_,rfl,_,rfl,us,CC,S.ha,P.hu,P.hn,tab,S.t0,P.ti,cI os,by rw [S.o1,jO];rfl,by rw [cI,bt];lia,fun os' eo pm v pl tl' Hm xs H3 m1 m2 m3 m4 m5 m6 T=>?_,fun z=>absurd (Vy P.pm) z⟩
 obtain rfl:=zd5 eo
 have S3:=S.same (m1.trans m2)
 refine ⟨us,_,_,_,pl,tl',T,dpl,dtl,S3.du,P.hn,fun H4 s4=>?_⟩
 rw [if_neg (by decide)]
 exact zay P (S3.same s4) q
theorem zaA (P:LwP us CC tab os ns) (S:LwS K us CC tab os ns H a tl cl ol dv dpl dtl hl gl g0 g1) (q:∀ H',Q (.bl true) H') :
  ZT K t { nx:=fun _ H'=>Q .non H',rt:=Q } [some (.ref a),o1,o2,some (.ref tl),some (.ref cl),some (.ref ol),some (.ref dv),some (.ref hl),some (.ref gl),o9] H:=by
 simp only [ZT,wt,jF,zT,zn,zA,zB,tOp,zc,tC,zb,zh,zK,vC,tB,zp,yV,bq,ba,bb,bf,exists_eq_left',V.int.injEq,V.ref.injEq,V.bl.injEq,bn,and_true,and_assoc,exists_and_left,b0]
 have lo:=P.lo
 have le:=S.co.le
 refine ⟨_,SqL.of S.gv,_,rfl,ns,3,rfl,S.hS,P.ln,fun c H1 s1=>⟨os,(S.same s1).od,CC.length,P.pm,le,fun l' ns' H2 s2 h1 h2 h3=>?_⟩⟩
 have S2:=S.same (s1.trans s2)
 refine ⟨_,rfl,us,CC,S2.ha,P.hu,P.hn,tab,S2.t0,P.ti,ns',h1,by lia,h3,fun H3 s3=>?_⟩
 rw [if_neg (by decide)]
 exact zaz P (S2.same s3) q
theorem zcv (P:LwP us CC tab os ns) (S:LwS K us CC tab os ns H a tl cl ol dv dpl dtl hl gl g0 g1) (q:∀ H',Q (.bl true) H') :
  Xk K t { nx:=fun _ H'=>Q .non H',rt:=Q } [some (.ref a),o1,o2,some (.ref tl),some (.ref cl),some (.ref ol),some (.ref dv),some (.ref hl),some (.ref gl),o9] H:=by
 simp only [Xk,Jw,WB,WA,yN,yH,ZE,yd,vh,zI,zn,zF,zm,zA,xi,zB,tOp,zc,tC,yt,zb,zh,zK,vC,zv,tB,tBM,tyV,zp,yV,zI,bG,bq,ba,bb,bf,exists_eq_left',V.int.injEq,V.ref.injEq,V.bl.injEq,bn,and_true,true_and,and_assoc,exists_and_left,br,bu,bE,b0,if_true]
 have lo:=P.lo
 have le:=S.co.le
 refine ⟨_,SqL.of S.gv,_,rfl,_,SqL.of S.gv,_,rfl,_,rfl,_,rfl,us,CC,S.ha,P.hu,P.hn,tab,S.t0,P.ti,cI os,by rw [S.o1,jO];rfl,by rw [cI,bt];lia,fun os' eo pm v pl tl' Hm xs H3 m1 m2 m3 m4 m5 m6 T=>?_,fun z=>absurd (Vy P.pm) z⟩
 obtain rfl:=zd5 eo
 have S3:=S.same (m1.trans m2)
 refine ⟨us,_,_,_,pl,tl',T,dpl,dtl,S3.du,P.hn,fun H4 s4=>?_⟩
 rw [if_neg (by decide)]
 obtain ⟨⟨r,rfl,hr⟩,_,⟨ys,hy,py⟩,ti,_⟩:=id T
 have l6:=ti.len P.hu
 have ly:=b5 py
 refine ⟨r,rfl,_,SqT.of (s4 _ _ hr),_,rfl,.inl ⟨_,SqL.of (s4 _ _ hy)⟩,by decide,fun b1 hb1=>⟨by decide,fun b2 hb2=>?_⟩⟩
 generalize e5:upd H4 b1 _=H5 at *
 have s5:=svV e5 hb1
 generalize e6:upd H5 b2 _=H6 at *
 have s6:=svV e6 hb2
 have Z:=s4.trans (s5.trans s6)
 refine ⟨tl',rfl,ys,Z _ _ hy,b9 (by lia:ys.length≤500) (by decide),?_⟩
 have mZ:Same Hm (upd H6 tl' (HO.lst (ys ++ [V.ref b2]))):=yY (m2.trans Z) m3
 have hr7:upd H6 tl' (HO.lst (ys ++ [V.ref b2])) r=some (.tup [.ref pl,.ref tl']):=by rw [zj (fun z=>by rw [z,hy] at hr;cases hr)];exact Z _ _ hr
 have hp7:upd H6 tl' (HO.lst (ys ++ [V.ref b2])) pl=some (.lst xs):=by rw [zj m4];exact Z _ _ m5
 generalize upd H6 tl' (HO.lst (ys ++ [V.ref b2]))=H7 at *
 have S7:=S.same (m1.trans mZ)
 obtain ⟨⟨r2,er,hr2⟩,⟨zs,hz,pz⟩,_⟩:=S7.du
 cases er
 obtain ⟨d1,d2,d3⟩:=PpsX.dat (K:=K) hp7 ⟨m6.1,fun k v e=>(m6.2 k v e).same mZ⟩
 obtain ⟨f1,f2,f3⟩:=PpsX.dat (K:=K) hz pz
 refine ⟨_,rfl,_,SqT.of hr7,_,rfl,_,SqT.of hr2,_,rfl,_,d1,_,f1,d2,f2,by lia,by lia,fun b hb=>?_⟩
 rw [hb.mpr rfl,if_neg (by decide)]
 exact zaA P S7 q
theorem zcw (P:LwP us CC tab os ns) (hS:SqL K H a (ns.map V.int)) (co:CosAt us H cl CC) (ta:yk H tl tab) (od:H ol=some (.lst (os.map z8))) (du:TolAt us H (.ref dv) (pK CC tab os) CC.length (jW CC tab os) dpl dtl) (ha:CosAt us H hl CC) (q:∀ H',Q (.bl true) H') :
  Xl K t { nx:=fun _ H'=>Q .non H',rt:=Q } [some (.ref a),o1,o2,some (.ref tl),some (.ref cl),some (.ref ol),some (.ref dv),some (.ref hl),none,o9] H:=by
 simp only [Xl,Zi,zn,zF,zm,zc,yK,zb,zh,tCB,bG,ba,bb,bf,exists_eq_left',V.ref.injEq,bn,and_true,exists_and_left,br,bu,bE]
 obtain ⟨xs,hx,px⟩:=id ta
 refine ⟨xs,.inl (SqL.of hx),fun g0 h0=>?_⟩
 have s1:=isV (o:=HO.lst xs) g0 h0
 have e1:upd H g0 (HO.lst xs) g0=some (.lst xs):=ze
 generalize upd H g0 (HO.lst xs)=H1 at *
 refine ⟨os.map z8,.inl (SqL.of (s1 _ _ od)),fun g1 h1=>?_⟩
 have s2:=isV (o:=HO.lst (os.map z8)) g1 h1
 have e2:upd H1 g1 (HO.lst (os.map z8)) g1=some (.lst (os.map z8)):=ze
 generalize upd H1 g1 (HO.lst (os.map z8))=H2 at *
 refine ⟨by decide,fun gl hg=>?_⟩
 generalize e3:upd H2 gl _=H3
 have s3:=svV e3 hg
 have q3:H3 gl=some (.lst [.ref g0,.ref g1]):=e3 ▸ ze
 have U:=s1.trans (s2.trans s3)
 exact zcv P ⟨hS.mono U,co.same U,yI ta U,U _ _ od,du.same U,ha.same U,q3,⟨xs,(s2.trans s3) _ _ e1,wO U px⟩,s3 _ _ e2⟩ q
def CoH (D:Addr) (H1 H:Hp) (v:V) (C:List Cs):Prop:=∃ a zs,v=.ref a∧a≠D∧H a=some (.lst zs)∧Paired (CsAt H1) zs C
def cHd (D:Addr) (CC:List (List Cs)) (H1:Hp) (i:Nat) (ys:List V) (H:Hp):Prop:=Paired (CoH D H1 H) ys (CC.take i)
theorem zcx (P:LwP us CC tab os ns) (hS:SqL K H a (ns.map V.int)) (co:CosAt us H cl CC) (ta:yk H tl tab) (od:H ol=some (.lst (os.map z8))) (du:TolAt us H (.ref dv) (pK CC tab os) CC.length (jW CC tab os) dpl dtl) (q:∀ H',Q (.bl true) H') :
  Xm K t { nx:=fun _ H'=>Q .non H',rt:=Q } [some (.ref a),o1,o2,some (.ref tl),some (.ref cl),some (.ref ol),some (.ref dv),none,none,o9] H:=by
 simp only [Xm,Zi,zn,zF,zm,zc,zb,zh,tCB,xM,Yi,Yh,wQ,b7,bw,bq,ba,bb,bf,exists_eq_left',V.ref.injEq,bn,and_true,exists_and_left,br,bu,if_true]
 obtain ⟨⟨xs,hx,px⟩,ok,le⟩:=id co
 have lx:=b5 px
 refine ⟨⟨_,SqL.of hx⟩,fun D hD=>?_⟩
 refine WL (J:=Itl K cl) xs.length (by lia) (fun τ=>∃ o,τ=[o]) (cHd D CC H) (fun i ys H1 H2 s h=>Paired.mapP h fun _ _ ⟨b,zs,e,n,h1,h2⟩=>⟨b,zs,e,n,s _ _ n h1,h2⟩) ⟨_,rfl⟩ .nil (fun i H s h=>⟨_,_,SqL.of (s _ _ hx),bh h⟩) (fun H s=>⟨_,SqL.of (s _ _ hx),bo _⟩) hD ?_ ?_
 ·rintro i v τ ys H4 H5 ⟨o,rfl⟩ s4 hi hR hy ⟨rfl,hv⟩
  have hv:=hv _ (SqL.of (s4 _ _ hx))
  obtain ⟨C,hC,b,zs,rfl,h1,h2⟩:=Paired.getP px hv
  simp only [ba,bf,exists_eq_left',V.ref.injEq,bn,and_true,br]
  refine ⟨zs,.inl (SqL.of (s4 _ _ h1)),fun l hl=>?_⟩
  have s5:=isV (o:=HO.lst zs) l hl
  refine ⟨⟨_,rfl⟩,?_,s5⟩
  unfold cHd
  rw [List.take_succ,hC]
  exact Paired.snocP (Paired.mapP hR fun _ _ ⟨b,zs,e,n,h1,h2⟩=>⟨b,zs,e,n,s5 _ _ h1,h2⟩) ⟨l,zs,rfl,JB hy hl,ze,h2⟩
 ·rintro ys H4 hly hR s4 hq
  unfold cHd at hR
  rw [cx (by lia)] at hR
  exact zcw P (hS.mono s4) (co.same s4) (yI ta s4) (s4 _ _ od) (du.same s4) ⟨⟨ys,hq,Paired.mapP hR fun _ _ ⟨b,zs,e,_,h1,h2⟩=>⟨b,zs,e,h1,xh s4 h2⟩⟩,ok,le⟩ q
theorem zdT (hS:SqL K H a (ns.map V.int)) (hn:ns.length≤63) (q:∀ H',Q (.bl true) H') :
  KC K t { nx:=fun _ H'=>Q .non H',rt:=Q } (L2.start ["script","slots","shelves","table","codes","order","due","handed","given","told"] [.ref a]) H:=by
 simp only [KC,zT,xm,wr,vJ,vK,vM,kx,L2.start,zn,zF,zm,zc,tC,zb,zh,tCB,zp,qx,xS,b7,bw,bG,bI,bQ,bq,ba,bb,bf,exists_eq_left',V.int.injEq,V.ref.injEq,bn,and_true,and_assoc,exists_and_left,br,bu,bL,bE]
 refine ⟨ns,0,rfl,hS,hn,fun c1 H1 s1=>⟨by decide,by decide,fun sa ws H2 s2 n1 n2=>⟨ns,1,rfl,hS.mono (s1.trans s2),hn,fun c2 H3 s3=>fun sb us H4 s4 n3 n4=>?_⟩⟩⟩
 have S4:=s1.trans (s2.trans (s3.trans s4))
 refine ⟨ns,2,rfl,hS.mono S4,hn,fun c3 H5 s5=>⟨us,n3.same s5,n4,fun tl tab H6 s6 ft lt ti=>?_⟩⟩
 have S6:=S4.trans (s5.trans s6)
 refine ⟨ns,hS.mono S6,hn,ws,n1.same (s3.trans (s4.trans (s5.trans s6))),by lia,us,n3.same (s5.trans s6),n4,fun cl CC H7 s7 co=>?_⟩
 obtain ⟨⟨xs,hx,px⟩,ok,le⟩:=id co
 refine ⟨CC.length,.inl ⟨_,SqL.of hx,(b5 px).symm⟩,ns,CC.length,rfl,hS.mono (S6.trans s7),hn,le,fun ol os H8 s8 fo od pm=>?_⟩
 have n5:=n3.same (s5.trans (s6.trans (s7.trans s8)))
 refine ⟨us,CC,co.same s8,n4,n5.2,tab,yI lt (s7.trans s8),ti,os,od,pm,fun v pl tl' H9 s9 T=>?_⟩
 obtain ⟨⟨r,rfl,_⟩,_⟩:=id T
 exact zcx ⟨ti,n4,n5.2,pm,hn⟩ (hS.mono (S6.trans (s7.trans (s8.trans s9)))) (co.same (s8.trans s9)) (yI lt (s7.trans (s8.trans s9))) (s9 _ _ od) T q
end
end
section
variable {P:Program} {w:World} {K:bx} {mg:Str→Option Value} {base:Heap} {t:Adr}
theorem zu (T:Txt K mg t):FnOk P w K mg base (CX1 P w) 1 t.a0 t.d0 ["cell","j"] (zl):=by
 refine T.g0.f.ok0 sc__law_draw (fun vs H Q E h=>?_) (fun cdv A outer s H vs Q E hr h=>?_)
 ·obtain ⟨c,j,rfl,_⟩:=h;rfl
 obtain ⟨c,j,rfl,h1,h2,q⟩:=h
 exact ⟨jH K t,(zf (zw (i:=2) sc__law_draw.nd rfl (cw rfl) (zo zW (zo zV (zo xZ (zo zW (pv 0) (zg (i:=1000000007))) (zg (i:=6700417))) (zo xZ (zo xZ (zo zV (pv 1) (zg (i:=1))) (zg (i:=104729))) (zg (i:=65537)))) (zg (i:=1000000009))))
  (zi (zt (zo zaY (zo zW (zo xZ (zo zW (zo xZ (pv 2) (pv 2)) (zg (i:=1000000009))) (pv 2)) (zg (i:=1000000009))) (zg (i:=32)))))),XS h1 h2 q⟩
theorem qv (T:Txt K mg t):FnOk P w K mg base (CX1 P w) 2 t.a1 t.d1 ["cell","many"] (xm):=by
 refine T.g1.f.ok0 sc__law_names (fun vs H Q E h=>?_) (fun cdv A outer s H vs Q E hr h=>?_)
 ·obtain ⟨c,m,rfl,_⟩:=h;rfl
 obtain ⟨c,m,rfl,h1,h2,q⟩:=h
 exact ⟨vN K t,(zf (zw (i:=2) sc__law_names.nd rfl (cw rfl) (zo zV (zg (i:=1)) (zo zW (pcG (zu T) T.g0 hr zq (za (pv 0) (za (zg (i:=1)) zd))) (zg (i:=6)))))
  (zf (zw (i:=3) sc__law_names.nd rfl (iG rfl) (zR (x:="zyxwvtsrqpnmlkjhgfdcb")))
  (zf (zS (zx yA (pv 2) (zg (i:=6)) (zG _)) (zi (zw (i:=3) sc__law_names.nd rfl (iG rfl) (zR (x:="zyxwvutsrqponmlkjihgfedcba"))))
    zD)
  (zf (zw (i:=4) sc__law_names.nd rfl (iG rfl) (zR (x:="")))
  (zf (vE dO rfl (xP rfl T.b_range (za (pv 2) zd)) (yo (i:=5) sc__law_names.nd rfl (cw rfl)) (zi (zw (i:=4) sc__law_names.nd rfl (iG rfl) (zo xr (pv 4) (zP YI (pv 3) (zo zW (pcG (zu T) T.g0 hr zq (za (pv 0) (za (zo zV (zg (i:=2)) (pv 5)) zd))) (zL yB rfl T.b_len xD (za (pv 3) zd))) (fun _ _=>rfl))))))
  (zf (zw (i:=6) sc__law_names.nd rfl (iG rfl) (zo zW (pcG (zu T) T.g0 hr zq (za (pv 0) (za (zg (i:=8)) zd))) (pv 2)))
  (zf (zw (i:=7) sc__law_names.nd rfl (cw rfl) (zo zW (pcG (zu T) T.g0 hr zq (za (pv 0) (za (zg (i:=9)) zd))) (zL yB rfl T.b_len xD (za (pv 3) zd))))
  (zf (zw (i:=3) sc__law_names.nd rfl (iG rfl) (zo xr (yn W1 (pv 3) (yC (pv 7)) yS) (yn W1 (pv 3) yS (yC (pv 7)))))
  (zi (zt (jp rfl (osc:=zk wL) (N:=["cell","many","size","signs","stem","k","at","turn"]) (xs:=["k"]) (ix:=[4,6,3]) (by decide +kernel) (xP rfl T.b_range (za (pv 1) zd)) (fun _ _ _ _=>(yo (i:=0) (show fB (["k","stem","at","signs"]:List Str) from (by decide +kernel)) rfl (cw rfl) (.inr rfl))) (fun _ _ _ _=>kX) (fun _ _ _ _=>(zo xr (zo xr (yn W1 (pv 1) yS (yC (pv 2))) (zP YI (pv 3) (pv 0) (fun _ _=>rfl))) (yn W1 (pv 1) (yC (zo zV (pv 2) (zg (i:=1)))) yS)))))))))))))),Xp h1 h2 q⟩
theorem Yt (T:Txt K mg t):FnOk P w K mg base (CX1 P w) 3 t.a2 t.d2 ["cell","many"] (wr):=by
 refine T.g2.f.ok0 sc__law_shelves (fun vs H Q E h=>?_) (fun cdv A outer s H vs Q E hr h=>?_)
 ·obtain ⟨c,rfl,_⟩:=h;rfl
 obtain ⟨c,rfl,q⟩:=h
 exact ⟨wz K t,(zf (zS (zx ze4 (zo zW (pcG (zu T) T.g0 hr zq (za (pv 0) (za (zg (i:=11)) zd))) (zg (i:=3))) (zg (i:=0)) (zG _)) (zi (zt (pcG (qv T) T.g1 hr zq (za (pv 0) (za (pv 1) zd)))))
   zD)
  (zf (zw (i:=2) sc__law_shelves.nd rfl (cw rfl) (zR (x:="zyxwvtsrqpnmlkjhgfdcb")))
  (zf (zw (i:=3) sc__law_shelves.nd rfl (cw rfl) (zo xr (zP YI (pv 2) (zo zW (pcG (zu T) T.g0 hr zq (za (pv 0) (za (zg (i:=12)) zd))) (zg (i:=21))) (fun _ _=>rfl)) (zP YI (pv 2) (zo zW (pcG (zu T) T.g0 hr zq (za (pv 0) (za (zg (i:=13)) zd))) (zg (i:=21))) (fun _ _=>rfl))))
  (zf (zw (i:=4) sc__law_shelves.nd rfl (cw rfl) (zP YI (pv 2) (zo zW (pcG (zu T) T.g0 hr zq (za (pv 0) (za (zg (i:=14)) zd))) (zg (i:=21))) (fun _ _=>rfl)))
  (zf (zw (i:=5) sc__law_shelves.nd rfl (iG rfl) (yp (za (pv 3) (za (zo xr (pv 4) (pv 3)) (za (zdk (pv 3) (KR WP (zg (i:=1)))) (za (zo xr (pv 3) (pv 4)) zd))))))
  (zf (zw (i:=6) sc__law_shelves.nd rfl (iG rfl) (zo zW (pcG (zu T) T.g0 hr zq (za (pv 0) (za (zg (i:=15)) zd))) (zg (i:=4))))
  (zi (zt (jp rfl (osc:=zk xG) (N:=["cell","many","signs","stem","more","some","turn"]) (xs:=["k"]) (ix:=[5,6]) (by decide +kernel) (xP rfl T.b_range (za (pv 1) zd)) (fun _ _ _ _=>(yo (i:=0) (show fB (["k","some","turn"]:List Str) from (by decide +kernel)) rfl (cw rfl) (.inr rfl))) (fun _ _ _ _=>kX) (fun _ _ _ _=>(zP yh (pv 1) (zo zW (zo zV (pv 2) (pv 0)) (zg (i:=4))) (fun _ _=>rfl)))))))))))),ZZ q⟩
theorem xK (T:Txt K mg t):FnOk P w K mg base (CX1 P w) 2 t.a3 t.d3 ["cell","j"] (yi):=by
 refine T.g3.f.ok0 Xd (fun vs H Q E h=>?_) (fun cdv A outer s H vs Q E hr h=>?_)
 ·obtain ⟨c,j,rfl,_⟩:=h;rfl
 obtain ⟨c,j,rfl,h1,h2,q⟩:=h
 exact ⟨w6 K t,(zf (zS (zx yA (zo zW (pcG (zu T) T.g0 hr zq (za (pv 0) (za (pv 1) zd))) (zg (i:=12))) (zg (i:=0)) (zG _)) (zi (zt (zo WO (zo zW (zo zV (zo xZ (zo xZ (zo zW (pv 0) (zo Zy (zg (i:=10)) (zg (i:=40)))) (zo zV (pv 1) (zg (i:=2)))) (zg (i:=1000003))) (pv 1)) (zo zV (zo xZ (zg (i:=2)) (zo Zy (zg (i:=10)) (zg (i:=30)))) (zg (i:=1)))) (zo Zy (zg (i:=10)) (zg (i:=30))))))
   zD)
  (zi (zt (zo WO (zo zW (pcG (zu T) T.g0 hr zq (za (pv 0) (za (zo zV (pv 1) (zg (i:=1))) zd))) (zg (i:=7))) (zg (i:=2)))))),Ys h1 h2 q⟩
theorem XZ (T:Txt K mg t):FnOk P w K mg base (CX1 P w) 3 t.a4 t.d4 ["cell","shelves"] (vJ):=by
 refine T.g4.f.ok0 sc__law_table (fun vs H Q E h=>?_) (fun cdv A outer s H vs Q E hr h=>?_)
 ·obtain ⟨c,b,us,rfl,_⟩:=h;rfl
 obtain ⟨c,b,us,rfl,h1,h2,q⟩:=h
 exact ⟨vO K t,(zf (zw (i:=2) sc__law_table.nd rfl (cw rfl) YO)
  (zf (vE dO rfl (xP rfl T.b_range (za (zo zW (pcG (zu T) T.g0 hr zq (za (pv 0) (za (zg (i:=20)) zd))) (zg (i:=6))) zd)) (yo (i:=3) sc__law_table.nd rfl (cw rfl)) (zf (zw (i:=4) sc__law_table.nd rfl (cw rfl) (pcG (xK T) T.g3 hr zq (za (pv 0) (za (zo zV (zg (i:=30)) (zo xZ (zg (i:=3)) (pv 3))) zd))))
  (zi (zS (zx X8 (pv 4) (zg (i:=0)) (zG _)) (zi (vm (xj hr) (pv 2) (z6 (za (zP yh (pv 1) (zo zW (pcG (zu T) T.g0 hr zq (za (pv 0) (za (zo zV (zg (i:=60)) (pv 3)) zd))) (zg (i:=2))) (fun _ _=>rfl)) (za (zo zW (pcG (zu T) T.g0 hr zq (za (pv 0) (za (zo zV (zg (i:=70)) (pv 3)) zd))) (zg (i:=3))) zd))) (pv 4) rfl))
    zD))))
  (zi (zt (zL (vo rfl (hu3 hr)) rfl T.b_sorted v5 (za (Y4 (pv 2)) zd)))))),Xt h1 h2 q⟩
theorem XD (T:Txt K mg t) (n:Nat) (IH:FnOk P w K mg base (CX1 P w) (2 + 2 * n) t.a6 t.d6 ["rows","first"] (yF n)):FnOk P w K mg base (CX1 P w) (2 + 2 * n + 1) t.a5 t.d5 ["row","at"] (wY n):=by
 refine T.g5.f.ok0 sc_block_steps (k:=2 + 2 * n) (fun vs H Q E h=>?_) (fun cdv A outer s H vs Q E hr h=>?_)
 ·obtain ⟨v,e,a,b,k,rfl,_⟩:=h;rfl
 obtain ⟨v,e,a,b,k,rfl,h1,h2,h3,h4,q⟩:=h
 exact ⟨va K t n,(zf (zw (i:=2) sc_block_steps.nd rfl (cw rfl) (Zd (FnOk.mono IH (by lia)) hr rfl T.g6.m T.g6.f.kp T.g6.b .nil zq (za (zP zZ (pv 0) (zg (i:=2)) (fun _ _=>rfl)) (za (zo zV (pv 1) (zg (i:=1))) zd))))
  (zf (zw (i:=3) sc_block_steps.nd rfl (cw rfl) (zo zV (zo zV (pv 1) (zg (i:=1))) (zL yB rfl T.b_len xD (za (pv 2) zd))))
  (zf (zS (zx (zbb (V2 hr)) (zP zZ (pv 0) (zg (i:=3)) (fun _ _=>rfl)) (yp zd) (zG _)) (zi (zt (zo xC (yp (za (z6 (za (zR (x:="skip")) (za (zP zZ (pv 0) (zg (i:=1)) (fun _ _=>rfl)) (za (pv 3) zd)))) zd)) (pv 2))))
    zD)
  (zf (zw (i:=4) sc_block_steps.nd rfl (cw rfl) (Zd (FnOk.mono IH (by lia)) hr rfl T.g6.m T.g6.f.kp T.g6.b .nil zq (za (zP zZ (pv 0) (zg (i:=3)) (fun _ _=>rfl)) (za (zo zV (pv 3) (zg (i:=1))) zd))))
  (zi (zt (zo xC (zo xC (zo xC (yp (za (z6 (za (zR (x:="skip")) (za (zP zZ (pv 0) (zg (i:=1)) (fun _ _=>rfl)) (za (zo zV (pv 3) (zg (i:=1))) zd)))) zd)) (pv 2)) (yp (za (z6 (za (zR (x:="go")) (za (zo zV (zo zV (pv 3) (zg (i:=1))) (zL yB rfl T.b_len xD (za (pv 4) zd))) zd))) zd))) (pv 4)))))))),Yr h1 h2 h3 h4 q⟩
theorem JP (T:Txt K mg t):∀ n,FnOk P w K mg base (CX1 P w) (2 + 2 * n) t.a6 t.d6 ["rows","first"] (yF n):=by
 intro n
 induction n with
 | zero=>exact ⟨fun vs H Q E h=>(Zq h).elim,fun A outer s H args us vs Q E hr he hb hv h=>(Zq h).elim⟩
 | succ n IH =>
 refine T.g6.f.ok0 sc_steps_of (k:=2 + 2 * n + 1) (fun vs H Q E h=>?_) (fun cdv A outer s H vs Q E hr h=>?_)
 ·obtain ⟨v,r,k,rfl,_⟩:=h;rfl
 obtain ⟨v,r,k,rfl,h1,h2,h3,q⟩:=h
 exact ⟨ky K t n,(zf (zw (i:=2) sc_steps_of.nd rfl (cw rfl) (yp zd))
  (zf (vE dO rfl (jj (pv 0)) (yo (i:=3) sc_steps_of.nd rfl (cw rfl)) (zi (zS (zx yA (zP zZ (pv 3) (zg (i:=0)) (fun _ _=>rfl)) (zR (x:="if")) (zG _)) (zi (xA (Z6 cz PySem.F.slot_list_extend PySem.F.type_list_extend Q0 (pv 2) (za (Zd (FnOk.mono (XD T n IH) (by lia)) hr rfl T.g5.m T.g5.f.kp T.g5.b .nil zq (za (pv 3) (za (zo zV (pv 1) (zL yB rfl T.b_len xD (za (pv 2) zd))) zd))) zd))))
    (zi (xA (Z6 cz dt dw xQ (pv 2) (za (pv 3) zd)))))))
  (zi (zt (pv 2))))),Vp h1 h2 h3 q⟩
theorem KL (T:Txt K mg t):FnOk P w K mg base (CX1 P w) 15 t.a7 t.d7 ["rows"] (qW):=by
 refine T.g7.f.ok0 Kv (fun vs H Q E h=>?_) (fun cdv A outer s H vs Q E hr h=>?_)
 ·obtain ⟨v,r,rfl,_⟩:=h;rfl
 obtain ⟨v,r,rfl,h1,h2,h3,q⟩:=h
 exact ⟨qX K t,(zi (zt (pcG (JP T 6) T.g6 hr zq (za (pv 0) (za (zg (i:=0)) zd))))),JC h1 h2 h3 q⟩
theorem yw (T:Txt K mg t):FnOk P w K mg base (CX1 P w) 1 t.a8 t.d8 ["script","k"] (zT K):=by
 refine T.g8.f.ok0 Ym (fun vs H Q E h=>?_) (fun cdv A outer s H vs Q E hr h=>?_)
 ·obtain ⟨a,ns,k,rfl,_⟩:=h;rfl
 obtain ⟨a,ns,k,rfl,hS,hl,q⟩:=h
 exact ⟨wA K t,(zf (zS (zx KY (pv 1) (zL yB rfl T.b_len xD (za (pv 0) zd)) (zG _)) (zi (zt (zP yh (pv 0) (pv 1) (fun _ _=>rfl))))
   zD)
  (zi (zt (zg (i:=0))))),ZV hS hl q⟩
theorem xL (T:Txt K mg t):FnOk P w K mg base (CX1 P w) 3 t.a9 t.d9 ["cell","j","slots"] (yU):=by
 refine T.g9.f.ok0 sc__law_term (fun vs H Q E h=>?_) (fun cdv A outer s H vs Q E hr h=>?_)
 ·obtain ⟨c,j,a,ws,rfl,_⟩:=h;rfl
 obtain ⟨c,j,a,ws,rfl,h1,h2,h3,h4,q⟩:=h
 exact ⟨jI K t,(zf (zw (i:=3) sc__law_term.nd rfl (cw rfl) (zP yh (pv 2) (zo zW (pcG (zu T) T.g0 hr zq (za (pv 0) (za (pv 1) zd))) (zg (i:=2))) (fun _ _=>rfl)))
  (zf (zw (i:=4) sc__law_term.nd rfl (cw rfl) (zo zW (pcG (zu T) T.g0 hr zq (za (pv 0) (za (zo zV (pv 1) (zg (i:=1))) zd))) (zg (i:=4))))
  (zf (zS (zx yA (pv 4) (zg (i:=0)) (zG _)) (zi (zt (z6 (za (pv 3) zd))))
    zD)
  (zf (zS (zx yA (pv 4) (zg (i:=1)) (zG _)) (zi (zt (z6 (za (pcG (xK T) T.g3 hr zq (za (pv 0) (za (zo zV (pv 1) (zg (i:=2))) zd))) zd))))
    zD)
  (zf (zw (i:=5) sc__law_term.nd rfl (cw rfl) (yp (za (zR (x:="plus")) (za (zR (x:="minus")) (za (zR (x:="times")) (za (zR (x:="over")) (za (zR (x:="same")) zd)))))))
  (zi (zt (z6 (za (pv 3) (za (pcG (xK T) T.g3 hr zq (za (pv 0) (za (zo zV (pv 1) (zg (i:=2))) zd))) (za (zP yh (pv 5) (zo zW (pcG (zu T) T.g0 hr zq (za (pv 0) (za (zo zV (pv 1) (zg (i:=4))) zd))) (zg (i:=5))) (fun _ _=>rfl)) zd))))))))))),XW h1 h2 h3 h4 q⟩
theorem JQ (T:Txt K mg t):FnOk P w K mg base (CX1 P w) 4 t.a10 t.d10 ["cell","slots","shelves"] (ku):=by
 refine T.g10.f.ok0 sc__law_row (fun vs H Q E h=>?_) (fun cdv A outer s H vs Q E hr h=>?_)
 ·obtain ⟨c,a,b,ws,us,rfl,_⟩:=h;rfl
 obtain ⟨c,a,b,ws,us,rfl,h1,h2,h3,h4,q⟩:=h
 exact ⟨kz K t,(zf (zw (i:=3) sc__law_row.nd rfl (cw rfl) (zo zW (pcG (zu T) T.g0 hr zq (za (pv 0) (za (zg (i:=0)) zd))) (zg (i:=14))))
  (zf (zw (i:=4) sc__law_row.nd rfl (cw rfl) (zP yh (pv 2) (zo zW (pcG (zu T) T.g0 hr zq (za (pv 0) (za (zg (i:=60)) zd))) (zg (i:=2))) (fun _ _=>rfl)))
  (zf (zw (i:=5) sc__law_row.nd rfl (cw rfl) (zP yh (pv 1) (zo zW (pcG (zu T) T.g0 hr zq (za (pv 0) (za (zg (i:=61)) zd))) (zg (i:=2))) (fun _ _=>rfl)))
  (zf (zw (i:=6) sc__law_row.nd rfl (cw rfl) (z6 (za (zo zW (pcG (zu T) T.g0 hr zq (za (pv 0) (za (zg (i:=62)) zd))) (zg (i:=3))) zd)))
  (zf (zS (zx KY (pv 3) (zg (i:=5)) (zG _)) (zi (zt (z6 (za (zR (x:="take")) (za (pv 4) (za (pv 6) (za (pv 5) zd)))))))
    zD)
  (zf (zS (zx KY (pv 3) (zg (i:=9)) (zG _)) (zi (zt (z6 (za (zR (x:="give")) (za (pv 4) (za (pv 6) (za (pcG (xL T) T.g9 hr zq (za (pv 0) (za (zg (i:=20)) (za (pv 1) zd)))) zd)))))))
    zD)
  (zf (zS (zx yA (pv 3) (zg (i:=9)) (zG _)) (zi (zt (z6 (za (zR (x:="let")) (za (pv 5) (za (pcG (xL T) T.g9 hr zq (za (pv 0) (za (zg (i:=20)) (za (pv 1) zd)))) zd))))))
    zD)
  (zf (zS (zx yA (pv 3) (zg (i:=10)) (zG _)) (zi (zt (z6 (za (zR (x:="off")) (za (z6 (za (pv 5) (za (pcG (xK T) T.g3 hr zq (za (pv 0) (za (zg (i:=21)) zd))) (za (zR (x:="same")) zd)))) zd)))))
    zD)
  (zf (zS (zx yA (pv 3) (zg (i:=11)) (zG _)) (zi (zt (z6 (za (zR (x:="if")) (za (pcG (xL T) T.g9 hr zq (za (pv 0) (za (zg (i:=40)) (za (pv 1) zd)))) (za (yp (za (z6 (za (zR (x:="give")) (za (pv 4) (za (pv 6) (za (pcG (xL T) T.g9 hr zq (za (pv 0) (za (zg (i:=20)) (za (pv 1) zd)))) zd))))) zd)) (za (yp zd) zd)))))))
    zD)
  (zi (zt (z6 (za (zR (x:="say")) (za (pcG (xL T) T.g9 hr zq (za (pv 0) (za (zg (i:=20)) (za (pv 1) zd)))) zd)))))))))))))),Vx h1 h2 h3 h4 q⟩
theorem X0 (T:Txt K mg t):FnOk P w K mg base (CX1 P w) 16 t.a11 t.d11 ["script","slots","shelves"] (vK K):=by
 refine T.g11.f.ok0 sc__law_codes (fun vs H Q E h=>?_) (fun cdv A outer s H vs Q E hr h=>?_)
 ·obtain ⟨a,sa,sb,ns,ws,us,rfl,_⟩:=h;rfl
 obtain ⟨a,sa,sb,ns,ws,us,rfl,h1,h2,h3,h4,h5,h6,q⟩:=h
 exact ⟨vQ K t,(zf (zw (i:=3) sc__law_codes.nd rfl (cw rfl) (zo zV (zg (i:=1)) (zo zW (pcG (zu T) T.g0 hr zq (za (pcG (yw T) T.g8 hr zq (za (pv 0) (za (zg (i:=0)) zd))) (za (zg (i:=200)) zd))) (zg (i:=8)))))
  (zf (zw (i:=4) sc__law_codes.nd rfl (cw rfl) (yn xo (pv 0) yS (yC (zg (i:=240)))))
  (zf (zw (i:=5) sc__law_codes.nd rfl (cw rfl) (yp zd))
  (zf (vE dO rfl (zaj rfl T.b_range (za (zg (i:=0)) (za (zL yB rfl T.b_len xD (za (pv 4) zd)) (za (pv 3) zd)))) (yo (i:=6) sc__law_codes.nd rfl (cw rfl)) (zi (xA (Z6 cz dt dw xQ (pv 5) (za (pcG (KL T) T.g7 hr zq (za (jp rfl (osc:=zk wM) (N:=["script","slots","shelves","many","cells","codes","at"]) (xs:=["cell"]) (ix:=[1,2]) (by decide +kernel) (jj (yn xo (pv 4) (yC (pv 6)) (yC (zo zV (pv 6) (pv 3))))) (fun _ _ _ _=>(yo (i:=0) (show fB (["cell","slots","shelves"]:List Str) from (by decide +kernel)) rfl (cw rfl) (.inr rfl))) (fun _ _ _ _=>kX) (fun _ _ _ _=>(pcG (JQ T) T.g10 hr zq (za (pv 0) (za (pv 1) (za (pv 2) zd)))))) zd)) zd)))))
  (zi (zt (pv 5))))))),Xu h1 h2 h3 h4 h5 h6 q⟩
theorem X1 (T:Txt K mg t):FnOk P w K mg base (CX1 P w) 2 t.a12 t.d12 ["script","many"] (vM K):=by
 refine T.g12.f.ok0 sc__law_order (fun vs H Q E h=>?_) (fun cdv A outer s H vs Q E hr h=>?_)
 ·obtain ⟨a,ns,n,rfl,_⟩:=h;rfl
 obtain ⟨a,ns,n,rfl,h1,h2,h3,q⟩:=h
 exact ⟨vR K t,(zf (zw (i:=2) sc__law_order.nd rfl (cw rfl) (yp zd))
  (zf (vE dO rfl (xP rfl T.b_range (za (pv 1) zd)) (yo (i:=3) sc__law_order.nd rfl (cw rfl)) (zi (xA (Z6 cz PySem.F.slot_list_insert PySem.F.type_list_insert zak (pv 2) (za (zo zW (pcG (zu T) T.g0 hr zq (za (pcG (yw T) T.g8 hr zq (za (pv 0) (za (pv 3) zd))) (za (zg (i:=203)) zd))) (zo zV (zg (i:=1)) (pv 3))) (za (pv 3) zd))))))
  (zi (zt (pv 2))))),Xx h1 h2 h3 q⟩
theorem JR (T:Txt K mg t):FnOk P w K mg base (CX1 P w) 1 t.a13 t.d13 ["self","code"] (kn t):=by
 refine T.f_Run_init.ok0 Jq (fun vs H Q E h=>?_) (fun cdv A outer s H vs Q E hr h=>?_)
 ·obtain ⟨x,l,dx,xs,C,rfl,_⟩:=h;rfl
 obtain ⟨x,l,dx,xs,C,rfl,h1,h2,h3,q⟩:=h
 exact ⟨kA K t,(zf (vF (f:="code") (pv 0) (yr yD rfl T.b_list xg (za (pv 1) zd)) rfl)
  (zf (vF (f:="at") (pv 0) (zg (i:=0)) rfl)
  (zf (vF (f:="why") (pv 0) jX rfl)
  (zf (vF (f:="slots") (pv 0) YN rfl)
  (zf (vF (f:="gifts") (pv 0) YO rfl)
  (zf (vF (f:="notes") (pv 0) YO rfl)
  (zi (vF (f:="sayings") (pv 0) (yp zd) rfl)))))))),Vr (rnF T) h1 h2 h3 q⟩
theorem vA (T:Txt K mg t):FnOk P w K mg base (CX1 P w) 1 t.a14 t.d14 ["self"] (yG t):=by
 refine T.g14.f.ok0 Jr (fun vs H Q E h=>?_) (fun cdv A outer s H vs Q E hr h=>?_)
 ·obtain ⟨x,a,C,s,rfl,_⟩:=h;rfl
 obtain ⟨x,a,C,s,rfl,h1,q⟩:=h
 exact ⟨kB K t,(zi (zt (ze2 (Yw KZ (ye (f:="why") (pv 0) rfl) jX (zG _)) (YD (Yw ze5 (ye (f:="at") (pv 0) rfl) (zL yB rfl T.b_len xD (za (ye (f:="code") (pv 0) rfl) zd)) (zG _)))))),Vq (rnF T) h1 q⟩
theorem VE (T:Txt K mg t):FnOk P w K mg base (CX1 P w) 2 t.a15 t.d15 ["self"] (jD t):=by
 refine T.g15.f.ok0 sc_Run_paper (fun vs H Q E h=>?_) (fun cdv A outer s H vs Q E hr h=>?_)
 ·obtain ⟨x,a,C,s,rfl,_⟩:=h;rfl
 obtain ⟨x,a,C,s,rfl,h1,h2,h3,h4,q1,q2⟩:=h
 exact ⟨jJ K t,(zf (zS (wP (xk (v0 (pv 0) T.cl_Run T.g14.me (FnOk.mono (vA T) (by decide)) hr T.g14.b .nil zq))) (zi (zt jX))
   zD)
  (zf (zw (i:=1) sc_Run_paper.nd rfl (cw rfl) (yr (Yk rfl) rfl T.b_list xg (za (Y4 (ye (f:="notes") (pv 0) rfl)) zd)))
  (zf (zS (zx KZ (ye (f:="why") (pv 0) rfl) jX (zG _)) (zi (zt (z6 (za (z6 (za (zR (x:="off")) (za (ye (f:="why") (pv 0) rfl) zd))) (za (pv 1) (za (yp zd) zd))))))
    zD)
  (zi (zt (z6 (za (z6 (za (zR (x:="done")) (za (yr XG rfl T.b_tuple YR (za (ye (f:="sayings") (pv 0) rfl) zd)) zd))) (za (pv 1) (za (zL (vo rfl (hu3 hr)) rfl T.b_sorted v5 (za (Y4 (ye (f:="gifts") (pv 0) rfl)) zd)) zd))))))))),XU (rnF T) h1 h2 h3 h4 q1 q2⟩
theorem KM (T:Txt K mg t):FnOk P w K mg base (CX1 P w) 1 t.a16 t.d16 ["word","first","second"] (qU t):=by
 refine T.g16.f.ok1 Kw (fun vs H Q E h=>?_) (fun cdv A outer s H vs Q E hr h=>?_)
 ·obtain ⟨w,a,b,rfl,_⟩:=h;rfl
 obtain ⟨w,a,b,rfl,hw,ha,hb,q⟩:=h
 exact ⟨qY K t E,(zf (zS (zx yA (pv 2) (zg (i:=0)) (zG _)) (zi (YU rfl T.x_Nought W4 rfl T.g_Nought (za (Qd (pv 0)) zd)))
   zD)
  (zi (zt (vZ (zx yA (pv 0) (zR (x:="over")) (zG _)) (zo za9 (pv 1) (pv 2)) (zo zcE (pv 1) (pv 2)))))),Jy hw ha hb q⟩
theorem KN (T:Txt K mg t):FnOk P w K mg base (CX1 P w) 2 t.a17 t.d17 ["word","first","second"] (qV t):=by
 refine T.g17.f.ok1 Kx (fun vs H Q E h=>?_) (fun cdv A outer s H vs Q E hr h=>?_)
 ·obtain ⟨w,a,b,rfl,_⟩:=h;rfl
 obtain ⟨w,a,b,rfl,hw,ha,hb,q⟩:=h
 exact ⟨qZ K t E,(zf (zS (zx yA (pv 0) (zR (x:="plus")) (zG _)) (zi (zt (zo zV (pv 1) (pv 2))))
   zD)
  (zf (zS (zx yA (pv 0) (zR (x:="minus")) (zG _)) (zi (zt (zo WO (pv 1) (pv 2))))
    zD)
  (zf (zS (zx yA (pv 0) (zR (x:="times")) (zG _)) (zi (zt (zo xZ (pv 1) (pv 2))))
    zD)
  (zf (zS (zx yA (pv 0) (zR (x:="under")) (zG _)) (zi (zt (vZ (zx KY (pv 1) (pv 2) (zG _)) (zg (i:=1)) (zg (i:=0)))))
    zD)
  (zf (zS (zx yA (pv 0) (zR (x:="same")) (zG _)) (zi (zt (vZ (zx yA (pv 1) (pv 2) (zG _)) (zg (i:=1)) (zg (i:=0)))))
    zD)
  (zi (zt (pcG (KM T) T.g16 hr xN (za (pv 0) (za (pv 1) (za (pv 2) zd))))))))))),Jz hw ha hb q⟩
theorem JS (T:Txt K mg t):FnOk P w K mg base (CX1 P w) 1 t.a18 t.d18 ["thing"] (kj):=by
 refine T.g18.f.ok0 Js (fun vs H Q E h=>?_) (fun cdv A outer s H vs Q E hr h=>?_)
 ·obtain ⟨i,rfl,_⟩:=h;rfl
 obtain ⟨i,rfl,q⟩:=h
 exact ⟨kE K t,(zf (zS (PW.pt (Z3 (wP (xk (zL wS rfl T.b_isinstance zX (za (pv 0) (za (xn rfl T.b_int zaW rfl) zd))))) (jY (xk (zL wS rfl T.b_isinstance zX (za (pv 0) (za (xn rfl T.b_bool Qc rfl) zd))))))) (zi (zt (jP (b:=false))))
   zD)
  (zi (zt (zaJ zdU zdU (KR WP (zo Zy (zg (i:=10)) (zg (i:=30)))) (pv 0) (zo Zy (zg (i:=10)) (zg (i:=30))))))),Vn (kf K).i_b q⟩
theorem zaB (T:Txt K mg t):FnOk P w K mg base (CX1 P w) 3 t.a19 t.d19 ["word","first","second"] (ZL t):=by
 refine T.g19.f.ok1 sc_joined (fun vs H Q E h=>?_) (fun cdv A outer s H vs Q E hr h=>?_)
 ·obtain ⟨w,a,b,rfl,_⟩:=h;rfl
 obtain ⟨w,a,b,rfl,hw,ha,hb,q⟩:=h
 exact ⟨ZO K t E,(zf (zw (i:=3) sc_joined.nd rfl (cw rfl) (pcG (KN T) T.g17 hr xN (za (pv 0) (za (pv 1) (za (pv 2) zd)))))
  (zf (zS (wP (xk (pcG (JS T) T.g18 hr xN (za (pv 3) zd)))) (zi (YU rfl T.x_Great W4 rfl T.g_Great (za (Qd (pv 0)) zd)))
    zD)
  (zi (zt (pv 3))))),KD hw ha hb q⟩
theorem JT (T:Txt K mg t):FnOk P w K mg base (CX1 P w) 4 t.a20 t.d20 ["term","slots"] (km t):=by
 refine T.g20.f.ok1 sc_reckoned (fun vs H Q E h=>?_) (fun cdv A outer s H vs Q E hr h=>?_)
 ·obtain ⟨kvs,tm,sl,ps,r,rfl,_⟩:=h;rfl
 obtain ⟨kvs,tm,sl,ps,r,rfl,h1,h2,h3,h4,h5,h6,q⟩:=h
 exact ⟨kF K t E,(zf (zw (i:=2) sc_reckoned.nd rfl (cw rfl) (yp zd))
  (zf (vE zfb rfl (zeg (pv 0)) (yo (i:=3) sc_reckoned.nd rfl (cw rfl)) (zi (zS (zx QY (pv 3) (xz rfl T.g_JOINING rfl) (by with_unfolding_all rfl)) (zf (zw (i:=4) sc_reckoned.nd rfl (cw rfl) (J7 cz gZ ic J9 (pv 2)))
  (zf (zw (i:=5) sc_reckoned.nd rfl (cw rfl) (J7 cz gZ ic J9 (pv 2)))
  (zi (xA (Z6 cz dt dw xQ (pv 2) (za (pcG (zaB T) T.g19 hr xN (za (pv 3) (za (pv 5) (za (pv 4) zd)))) zd))))))
   (zi (xA (Z6 cz dt dw xQ (pv 2) (za (vZ (xk (zL wS rfl T.b_isinstance zX (za (pv 3) (za (xn rfl T.b_str zaV rfl) zd)))) (VT (xj hr) (pv 1) (pv 3) (zg (i:=0)) ⟨rfl,rfl,rfl,rfl⟩) (pv 3)) zd)))))))
  (zi (zt (J7 cz gZ ic J9 (pv 2)))))),Vo (kf K).i_s T.v_JOINING h1 h2 h3 h4 h5 h6 q⟩
theorem yx (T:Txt K mg t):FnOk P w K mg base (CX1 P w) 5 t.a21 t.d21 ["self","term"] (zO t):=by
 refine T.g21.f.ok1 Yn (fun vs H Q E h=>?_) (fun cdv A outer s H vs Q E hr h=>?_)
 ·obtain ⟨x,tm,e,a,C,s,rfl,_⟩:=h;rfl
 obtain ⟨x,tm,e,a,C,s,rfl,h1,h2,h3,h4,q⟩:=h
 exact ⟨wC K t E,(zi (zt (pcG (JT T) T.g20 hr xN (za (pv 1) (za (ye (f:="slots") (pv 0) rfl) zd))))),ZW (rnF T) h1 h2 h3 h4 q⟩
theorem wG (T:Txt K mg t):FnOk P w K mg base (CX1 P w) 6 t.a22 t.d22 ["self","due"] (ym t):=by
 refine T.g22.f.ok1 Yo (fun vs H Q E h=>?_) (fun cdv A outer s H vs Q E hr h=>?_)
 ·obtain ⟨x,p,xs,sh,te,e,a,C,s,rfl,_⟩:=h;rfl
 obtain ⟨x,p,xs,sh,te,e,a,C,s,rfl,h1,h2,h3,h4,h5,h6,h7,q1,q2⟩:=h
 exact ⟨wD K t E,(zi (zt (z6 (za (zP zZ (pv 1) (zg (i:=1)) (fun _ _=>rfl)) (za (xB (pv 0) T.cl_Run T.g21.me (FnOk.mono (yx T) (by decide)) hr T.g21.b .nil xN (za (zP zZ (pv 1) (zg (i:=2)) (fun _ _=>rfl)) zd)) zd))))),ZX (rnF T) h1 h2 h3 h4 h5 h6 h7 q1 q2⟩
theorem JU (T:Txt K mg t):FnOk P w K mg base (CX1 P w) 7 t.a23 t.d23 ["self"] (kr t):=by
 refine T.g23.f.ok0 sc_Run_asks (fun vs H Q E h=>?_) (fun cdv A outer s H vs Q E hr h=>?_)
 ·obtain ⟨x,a,C,s,rfl,_⟩:=h;rfl
 obtain ⟨x,a,C,s,rfl,h1,h2,h3,q1,q2⟩:=h
 exact ⟨kG K t,(zf (zS (PW.pt (Z3 (xk (v0 (pv 0) T.cl_Run T.g14.me (FnOk.mono (vA T) (by decide)) hr T.g14.b .nil zq)) (jY (zx X8 (zP zZ (zP yh (ye (f:="code") (pv 0) rfl) (ye (f:="at") (pv 0) rfl) (fun _ _=>rfl)) (zg (i:=0)) (fun _ _=>rfl)) (zR (x:="take")) (zG _))))) (zi (zt jX))
   zD)
  (zf (zdj (And.intro rfl rfl) rfl (zcS (i:=1) sc_Run_asks.nd rfl (cw rfl) (Jf (pv 0) T.cl_Run T.g22.me (FnOk.mono (wG T) (by decide)) hr T.g22.b (za (zP yh (ye (f:="code") (pv 0) rfl) (ye (f:="at") (pv 0) rfl) (fun _ _=>rfl)) zd))) rfl T.g_Great rfl T.g_Nought (fun _=>(zi (zt jX))))
  (zf (zS (PW.pt (Z3 (zx (Ve (xj hr)) (pv 1) (ye (f:="gifts") (pv 0) rfl) (by with_unfolding_all rfl)) (jY (zx (Ve (xj hr)) (pv 1) (ye (f:="notes") (pv 0) rfl) (by with_unfolding_all rfl))))) (zi (zt jX))
    zD)
  (zi (zt (pv 1)))))),Vt T h1 h2 h3 q1 q2⟩
theorem VF (T:Txt K mg t):FnOk P w K mg base (CX1 P w) 1 t.a24 t.d24 ["self","place","worth"] (jC t):=by
 refine T.g24.f.ok0 Vk (fun vs H Q E h=>?_) (fun cdv A outer s H vs Q E hr h=>?_)
 ·obtain ⟨x,q,p,w,a,C,s,rfl,_⟩:=h;rfl
 obtain ⟨x,q,p,w,a,C,s,rfl,h1,h2,h3,q⟩:=h
 exact ⟨jK K t,(zf (zS (zx (Ve (xj hr)) (pv 1) (ye (f:="gifts") (pv 0) rfl) (by with_unfolding_all rfl)) (zi (zt (vj (xj hr) (ye (f:="gifts") (pv 0) rfl) (pv 1) (fun _ _=>rfl))))
   zD)
  (zf (zS (zx (Kq (xj hr)) (pv 1) (ye (f:="notes") (pv 0) rfl) (by with_unfolding_all rfl)) (zi (vm (xj hr) (ye (f:="notes") (pv 0) rfl) (pv 1) (pv 2) rfl))
    zD)
  (zi (zt (vj (xj hr) (ye (f:="notes") (pv 0) rfl) (pv 1) (fun _ _=>rfl)))))),XT (rnF T) h1 h2 h3 q⟩
theorem JV (T:Txt K mg t):FnOk P w K mg base (CX1 P w) 7 t.a25 t.d25 ["self","due","worth"] (ko t):=by
 refine T.g25.f.ok1 sc_Run_does (fun vs H Q E h=>?_) (fun cdv A outer s H vs Q E hr h=>?_)
 ·obtain ⟨x,v,r,w,m,a,C,s,rfl,_⟩:=h;rfl
 obtain ⟨x,v,r,w,m,a,C,s,rfl,h1,h2,h3,h4,h5,h6,q1,q2⟩:=h
 exact ⟨xy K t E,(zi (zS (zx yA (zP zZ (pv 1) (zg (i:=0)) (fun _ _=>rfl)) (zR (x:="take")) (zG _)) (zi (vm (xj hr) (ye (f:="slots") (pv 0) rfl) (zP zZ (pv 1) (zg (i:=3)) (fun _ _=>rfl)) (xB (pv 0) T.cl_Run T.g24.me (FnOk.mono (VF T) (by decide)) hr T.g24.b .nil xN (za (xB (pv 0) T.cl_Run T.g22.me (FnOk.mono (wG T) (by decide)) hr T.g22.b .nil xN (za (pv 1) zd)) (za (pv 2) zd))) rfl))
   (zi (zS (zx yA (zP zZ (pv 1) (zg (i:=0)) (fun _ _=>rfl)) (zR (x:="give")) (zG _)) (zf (zw (i:=3) sc_Run_does.nd rfl (cw rfl) (xB (pv 0) T.cl_Run T.g22.me (FnOk.mono (wG T) (by decide)) hr T.g22.b .nil xN (za (pv 1) zd)))
  (zi (vm (xj hr) (ye (f:="gifts") (pv 0) rfl) (pv 3) (xB (pv 0) T.cl_Run T.g21.me (FnOk.mono (yx T) (by decide)) hr T.g21.b .nil xN (za (zP zZ (pv 1) (zg (i:=3)) (fun _ _=>rfl)) zd)) rfl)))
   (zi (zS (zx yA (zP zZ (pv 1) (zg (i:=0)) (fun _ _=>rfl)) (zR (x:="let")) (zG _)) (zi (vm (xj hr) (ye (f:="slots") (pv 0) rfl) (zP zZ (pv 1) (zg (i:=1)) (fun _ _=>rfl)) (xB (pv 0) T.cl_Run T.g21.me (FnOk.mono (yx T) (by decide)) hr T.g21.b .nil xN (za (zP zZ (pv 1) (zg (i:=2)) (fun _ _=>rfl)) zd)) rfl))
   (zi (xA (Z6 cz dt dw xQ (ye (f:="sayings") (pv 0) rfl) (za (xB (pv 0) T.cl_Run T.g21.me (FnOk.mono (yx T) (by decide)) hr T.g21.b .nil xN (za (zP zZ (pv 1) (zg (i:=1)) (fun _ _=>rfl)) zd)) zd)))))))))),Vu (rnF T) h1 h2 h3 h4 h5 h6 q1 q2⟩
theorem X2 (T:Txt K mg t):FnOk P w K mg base (CX1 P w) 8 t.a26 t.d26 ["self","due","worth"] (vI t):=by
 refine T.g26.f.ok1 XM (fun vs H Q E h=>?_) (fun cdv A outer s H vs Q E hr h=>?_)
 ·obtain ⟨x,v,c,w,m,a,C,s,rfl,_⟩:=h;rfl
 obtain ⟨x,v,c,w,m,a,C,s,rfl,h1,h2,h3,h4,h5,q1,q2⟩:=h
 exact ⟨y0 K t E,(zf (zS (zx yA (zP zZ (pv 1) (zg (i:=0)) (fun _ _=>rfl)) (zR (x:="go")) (zG _)) (zi (zt (zP zZ (pv 1) (zg (i:=1)) (fun _ _=>rfl))))
   zD)
  (zf (zS (zx yA (zP zZ (pv 1) (zg (i:=0)) (fun _ _=>rfl)) (zR (x:="skip")) (zG _)) (zi (zt (vZ (zx yA (xB (pv 0) T.cl_Run T.g21.me (FnOk.mono (yx T) (by decide)) hr T.g21.b .nil xN (za (zP zZ (pv 1) (zg (i:=1)) (fun _ _=>rfl)) zd)) (zg (i:=0)) (zG _)) (zP zZ (pv 1) (zg (i:=2)) (fun _ _=>rfl)) (zo zV (ye (f:="at") (pv 0) rfl) (zg (i:=1))))))
    zD)
  (zf (zS (zx yA (zP zZ (pv 1) (zg (i:=0)) (fun _ _=>rfl)) (zR (x:="off")) (zG _)) (zi (zS (zx X8 (xB (pv 0) T.cl_Run T.g21.me (FnOk.mono (yx T) (by decide)) hr T.g21.b .nil xN (za (zP zZ (pv 1) (zg (i:=1)) (fun _ _=>rfl)) zd)) (zg (i:=0)) (zG _)) (zi (vF (f:="why") (pv 0) (zR (x:="told")) rfl))
    zD))
    (zi (xA (xB (pv 0) T.cl_Run T.g25.me (FnOk.mono (JV T) (by decide)) hr T.g25.b .nil xN (za (pv 1) (za (pv 2) zd))))))
  (zi (zt (zo zV (ye (f:="at") (pv 0) rfl) (zg (i:=1)))))))),Xn (rnF T) h1 h2 h3 h4 h5 q1 q2⟩
theorem JW (T:Txt K mg t):FnOk P w K mg base (CX1 P w) 9 t.a27 t.d27 ["self","worth"] (kq t):=by
 refine T.f_Run_step.ok0 Jt (fun vs H Q E h=>?_) (fun cdv A outer s H vs Q E hr h=>?_)
 ·obtain ⟨x,w,m,a,C,s,rfl,_⟩:=h;rfl
 obtain ⟨x,w,m,a,C,s,rfl,h1,h2,h3,h4,q⟩:=h
 exact ⟨kH K t,(zf (zS (xk (v0 (pv 0) T.cl_Run T.g14.me (FnOk.mono (vA T) (by decide)) hr T.g14.b .nil zq)) (zi zcB)
   zD)
  (zi (zbv (And.intro rfl rfl) rfl (zdi (f:="at") (pv 0) (Jf (pv 0) T.cl_Run T.g26.me (FnOk.mono (X2 T) (by decide)) hr T.g26.b (za (zP yh (ye (f:="code") (pv 0) rfl) (ye (f:="at") (pv 0) rfl) (fun _ _=>rfl)) (za (pv 1) zd))) rfl) rfl T.g_Great rfl T.g_Nought (fun _=>(zi (vF (f:="why") (pv 0) (zR (x:="great")) rfl))) (fun _=>(zi (vF (f:="why") (pv 0) (zR (x:="nought")) rfl)))))),Vs T h1 h2 h3 h4 q⟩
theorem zaC (T:Txt K mg t):FnOk P w K mg base (CX1 P w) 1 t.a28 t.d28 ["table","place"] (ZN):=by
 refine T.g28.f.ok0 zan (fun vs H Q E h=>?_) (fun cdv A outer s H vs Q E hr h=>?_)
 ·obtain ⟨l,q0,rows,p,rfl,_⟩:=h;rfl
 obtain ⟨l,q0,rows,p,rfl,h1,h2,h3,q⟩:=h
 exact ⟨ZP K t,(zi (zt (VT (xj hr) (yr (wq rfl (hu3 hr)) rfl T.b_dict WZ (za (pv 0) zd)) (pv 1) (zg (i:=0)) ⟨rfl,rfl,rfl,rfl⟩))),KI h1 h2 h3 q⟩
theorem zcy (T:Txt K mg t):FnOk P w K mg base (CX1 P w) 10 t.a29 t.d29 ["code","table"] (Xh t):=by
 refine T.g29.f.ok0 sc_fed (fun vs H Q E h=>?_) (fun cdv A outer s H vs Q E hr h=>?_)
 ·obtain ⟨l,tl,xs,C,rows,rfl,_⟩:=h;rfl
 obtain ⟨l,tl,xs,C,rows,rfl,h1,h2,h3,h4,h5,h6,q⟩:=h
 exact ⟨KB K t,(zf (zw (i:=2) sc_fed.nd rfl (cw rfl) (zcI T.mk_Run (FnOk.mono (JR T) (by decide)) hr rfl T.g_Run T.b_Run_init .nil zq (za (pv 0) zd)))
  (zf (zaG dO (wP (xk (v0 (pv 2) T.cl_Run T.g14.me (FnOk.mono (vA T) (by decide)) hr T.g14.b .nil zq))) (zf (zw (i:=3) sc_fed.nd rfl (cw rfl) (v0 (pv 2) T.cl_Run T.g23.me (FnOk.mono (JU T) (by decide)) hr T.g23.b .nil zq))
  (zi (xA (xB (pv 2) T.cl_Run T.me_Run_step (FnOk.mono (JW T) (by decide)) hr T.b_Run_step .nil zq (za (vZ (zx zei (pv 3) jX (zG _)) (zg (i:=0)) (pcG (zaC T) T.g28 hr zq (za (pv 1) (za (pv 3) zd)))) zd))))))
  (zi (zt (v0 (pv 2) T.cl_Run T.g15.me (FnOk.mono (VE T) (by decide)) hr T.g15.b .nil zq))))),zdG h1 h2 h3 h4 h5 h6 q⟩
theorem VG (T:Txt K mg t):FnOk P w K mg base (CX1 P w) 1 t.a30 t.d30 ["table","gifts"] (jG):=by
 refine T.g30.f.ok0 sc__law_laid (fun vs H Q E h=>?_) (fun cdv A outer s H vs Q E hr h=>?_)
 ·obtain ⟨a,b,tab,gifts,rfl,_⟩:=h;rfl
 obtain ⟨a,b,tab,gifts,rfl,h1,h2,h3,h4,q⟩:=h
 exact ⟨jL K t,(zf (zw (i:=2) sc__law_laid.nd rfl (cw rfl) (yr (wq rfl (hu3 hr)) rfl T.b_dict WZ (za (pv 0) zd)))
  (zf (vE dO rfl (jj (pv 1)) (yo (i:=3) sc__law_laid.nd rfl (cw rfl)) (zi (vm (xj hr) (pv 2) (zP zZ (pv 3) (zg (i:=0)) (fun _ _=>rfl)) (zP zZ (pv 3) (zg (i:=1)) (fun _ _=>rfl)) rfl)))
  (zi (zes (zt (zL (Vi rfl (hu3 hr)) rfl T.b_sorted v5 (za (jp rfl (osc:=zk vp) (N:=["table","gifts","there","row"]) (xs:=["place","worth"]) (ix:=[]) (by decide +kernel) (zbV (pv 2)) (fun _ _ _ _=>(zee rfl (VM (yo (i:=0) (show fB (["place","worth"]:List Str) from (by decide +kernel)) rfl (cw rfl)) (VM (yo (i:=1) (show fB (["place","worth"]:List Str) from (by decide +kernel)) rfl (cw rfl)) zcC)))) (fun _ _ _ _=>(Qa (zx X8 (pv 1) (zg (i:=0)) (zG _)))) (fun _ _ _ _=>(z6 (za (pv 0) (za (pv 1) zd))))) zd))))))),XY h1 h2 h3 h4 q⟩
theorem JX (T:Txt K mg t):FnOk P w K mg base (CX1 P w) 11 t.a31 t.d31 ["codes","table","order"] (kx):=by
 refine T.g31.f.ok0 sc__law_due (fun vs H Q E h=>?_) (fun cdv A outer s H vs Q E hr h=>?_)
 ·obtain ⟨cl,tl,l,us,CC,tab,os,rfl,_⟩:=h;rfl
 obtain ⟨cl,tl,l,us,CC,tab,os,rfl,h1,h2,h3,h4,h5,h6,h7,q⟩:=h
 exact ⟨kJ K t,(zf (zw (i:=3) sc__law_due.nd rfl (iG rfl) YN)
  (zf (zw (i:=4) sc__law_due.nd rfl (cw rfl) (pv 1))
  (zf (vE dO rfl (jj (pv 2)) (yo (i:=5) sc__law_due.nd rfl (cw rfl)) (zf (vm (xj hr) (pv 3) (pv 5) (pcG (zcy T) T.g29 hr zq (za (yr yD rfl T.b_list xg (za (zP yh (pv 0) (pv 5) (fun _ _=>rfl)) zd)) (za (yr yD rfl T.b_list xg (za (pv 4) zd)) zd))) rfl)
  (zi (zw (i:=4) sc__law_due.nd rfl (cw rfl) (pcG (VG T) T.g30 hr zq (za (pv 4) (za (zP zZ (vj (xj hr) (pv 3) (pv 5) (fun _ _=>rfl)) (zg (i:=2)) (fun _ _=>rfl)) zd)))))))
  (zi (zt (z6 (za (jp rfl (osc:=zk ju) (N:=["codes","table","order","papers","now","rank"]) (xs:=["rank"]) (ix:=[3]) (by decide +kernel) (xP rfl T.b_range (za (zL yB rfl T.b_len xD (za (pv 0) zd)) zd)) (fun _ _ _ _=>(yo (i:=0) (show fB (["rank","papers"]:List Str) from (by decide +kernel)) rfl (cw rfl) (.inr rfl))) (fun _ _ _ _=>kX) (fun _ _ _ _=>(vj (xj hr) (pv 1) (pv 0) (fun _ _=>rfl)))) (za (pv 4) zd)))))))),VC h1 h2 h3 h4 h5 h6 h7 q⟩
theorem X3 (T:Txt K mg t):FnOk P w K mg base (CX1 P w) 1 t.a32 t.d32 ["order","many"] (vL t):=by
 refine T.g32.f.ok1 XN (fun vs H Q E h=>?_) (fun cdv A outer s H vs Q E hr h=>?_)
 ·obtain ⟨l,n,ns,rfl,_⟩:=h;rfl
 obtain ⟨l,n,ns,rfl,h1,h2,h3,q1,q2⟩:=h
 exact ⟨vS K t E,(zi (zS (zx (Zm (V2 hr)) (zL (Vj rfl (hu3 hr)) rfl T.b_sorted v5 (za (pv 0) zd)) (zdm rfl rfl T.b_list rfl T.b_range (za (pv 1) zd)) (zG _)) (zi (YU rfl T.x_NoOrder W4 rfl T.g_NoOrder (za (zdg (pv 1)) zd)))
   zD)),Xw h1 h2 h3 q1 q2⟩
theorem JY (T:Txt K mg t):FnOk P w K mg base (CX1 P w) 1 t.a33 t.d33 ["rows"] (kt):=by
 refine T.g33.f.ok0 sc_table_of (fun vs H Q E h=>?_) (fun cdv A outer s H vs Q E hr h=>?_)
 ·obtain ⟨a,rows,rfl,_⟩:=h;rfl
 obtain ⟨a,rows,rfl,h1,h2,h3,q⟩:=h
 exact ⟨vx K t,(zf (zw (i:=1) sc_table_of.nd rfl (iG rfl) (yr (wq rfl (hu3 hr)) rfl T.b_dict WZ (za (pv 0) zd)))
  (zi (zt (jp rfl (osc:=zk jx) (N:=["rows","worths"]) (xs:=["place"]) (ix:=[1]) (by decide +kernel) (jj (zL (Vd rfl) rfl T.b_sorted v5 (za (pv 1) zd))) (fun _ _ _ _=>(yo (i:=0) (show fB (["place","worths"]:List Str) from (by decide +kernel)) rfl (cw rfl) (.inr rfl))) (fun _ _ _ _=>(Qa (zx X8 (vj (xj hr) (pv 1) (pv 0) (fun _ _=>rfl)) (zg (i:=0)) (zG _)))) (fun _ _ _ _=>(z6 (za (pv 0) (za (vj (xj hr) (pv 1) (pv 0) (fun _ _=>rfl)) zd)))))))),Vw h1 h2 h3 q⟩
theorem KO (T:Txt K mg t):FnOk P w K mg base (CX1 P w) 2 t.a34 t.d34 ["table","gifts"] (w5):=by
 refine T.g34.f.ok0 Ky (fun vs H Q E h=>?_) (fun cdv A outer s H vs Q E hr h=>?_)
 ·obtain ⟨a,b,tab,gifts,rfl,_⟩:=h;rfl
 obtain ⟨a,b,tab,gifts,rfl,h1,h2,h3,h4,q⟩:=h
 exact ⟨q8 K t,(zi (zt (pcG (JY T) T.g33 hr zq (za (zo xC (pv 0) (pv 1)) zd)))),JM h1 h2 h3 h4 q⟩
theorem vB (T:Txt K mg t):FnOk P w K mg base (CX1 P w) 11 t.a35 t.d35 ["codes","table","order"] (yH t):=by
 refine T.g35.f.ok1 sc_in_order (fun vs H Q E h=>?_) (fun cdv A outer s H vs Q E hr h=>?_)
 ·obtain ⟨cl,tl,l,us,CC,tab,ns,rfl,_⟩:=h;rfl
 obtain ⟨cl,tl,l,us,CC,tab,ns,rfl,h1,h2,h3,h4,h5,h6,h7,q1,q2⟩:=h
 exact ⟨kK K t E,(zf (xA (pcG (X3 T) T.g32 hr xN (za (pv 2) (za (zL yB rfl T.b_len xD (za (pv 0) zd)) zd))))
  (zf (zw (i:=3) sc_in_order.nd rfl (iG rfl) YN)
  (zf (zw (i:=4) sc_in_order.nd rfl (cw rfl) (yr yD rfl T.b_list xg (za (pv 1) zd)))
  (zf (vE zfb rfl (jj (pv 2)) (yo (i:=5) sc_in_order.nd rfl (cw rfl)) (zf (vm (xj hr) (pv 3) (pv 5) (pcG (zcy T) T.g29 hr xN (za (zP yh (pv 0) (pv 5) (fun _ _=>rfl)) (za (pv 4) zd))) rfl)
  (zi (zw (i:=4) sc_in_order.nd rfl (cw rfl) (pcG (KO T) T.g34 hr xN (za (pv 4) (za (zP zZ (vj (xj hr) (pv 3) (pv 5) (fun _ _=>rfl)) (zg (i:=2)) (fun _ _=>rfl)) zd)))))))
  (zi (zt (z6 (za (jp rfl (osc:=zk jz) (N:=["codes","table","order","papers","behind","rank"]) (xs:=["rank"]) (ix:=[3]) (by decide +kernel) (xP rfl T.b_range (za (zL yB rfl T.b_len xD (za (pv 0) zd)) zd)) (fun _ _ _ _=>(yo (i:=0) (show fB (["rank","papers"]:List Str) from (by decide +kernel)) rfl (cw rfl) (.inr rfl))) (fun _ _ _ _=>kX) (fun _ _ _ _=>(vj (xj hr) (pv 1) (pv 0) (fun _ _=>rfl)))) (za (pv 4) zd))))))))),VB h1 h2 h3 h4 h5 h6 h7 q1 q2⟩
theorem X4 (T:Txt K mg t):∀ n,FnOk P w K mg base (CX1 P w) (1 + n) t.a36 t.d36 ["found"] (yZ n):=by
 intro n
 induction n with
 | zero=>exact ⟨fun vs H Q E h=>(kU h).elim,fun A outer s H args us vs Q E hr he hb hv h=>(kU h).elim⟩
 | succ n IH =>
 refine T.g36.f.ok0 sc__law_plain (k:=1 + n) (fun vs H Q E h=>?_) (fun cdv A outer s H vs Q E hr h=>?_)
 ·obtain ⟨v,rfl,_⟩:=h;rfl
 obtain ⟨v,rfl,h1,q⟩:=h
 exact ⟨vV K t n,(zf (zS (xk (zL Wy rfl T.b_isinstance zX (za (pv 0) (za (z6 (za (xn rfl T.b_list xg rfl) (za (xn rfl T.b_tuple YR rfl) zd))) zd)))) (zf (vE dO rfl (zez (pv 0)) (yo (i:=1) sc__law_plain.nd rfl (cw rfl)) (zi (zS (wP (xk (Zd (FnOk.mono IH (by lia)) hr rfl T.g36.m T.g36.f.kp T.g36.b .nil zq (za (pv 1) zd)))) (zi (zt (jP (b:=false))))
   zD)))
  (zi (zt (jP (b:=true)))))
   zD)
  (zi (zt (YE (zL Wy rfl T.b_isinstance zX (za (pv 0) (za (z6 (za (xn rfl T.b_int zaW rfl) (za (xn rfl T.b_str zaV rfl) zd))) zd))) (YD (zaE (zL wS rfl T.b_isinstance zX (za (pv 0) (za (xn rfl T.b_bool Qc rfl) zd))))))))),XB (kf K) h1 q⟩
theorem vY (T:Txt K mg t):FnOk P w K mg base (CX1 P w) 11 t.a37 t.d37 ["found","due"] (yN):=by
 refine T.g37.f.ok0 XO (fun vs H Q E h=>?_) (fun cdv A outer s H vs Q E hr h=>?_)
 ·obtain ⟨v,u,us,f,n,out,p1,t1,p2,t2,rfl,_⟩:=h;rfl
 obtain ⟨v,u,us,f,n,out,p1,t1,p2,t2,rfl,h1,h2,h3,q⟩:=h
 exact ⟨vW K t,(zf (zS (PW.pt (Z3 (wP (xk (zL wS rfl T.b_isinstance zX (za (pv 0) (za (xn rfl T.b_tuple YR rfl) zd))))) (jY (zx X8 (zL yB rfl T.b_len xD (za (pv 0) zd)) (zg (i:=2)) (zG _))))) (zi (zt (jP (b:=false))))
   zD)
  (zf (zS (PW.pt (Z3 (wP (xk (zL wS rfl T.b_isinstance zX (za (zP zZ (pv 0) (zg (i:=0)) (fun _ _=>rfl)) (za (xn rfl T.b_list xg rfl) zd))))) (jY (wP (xk (zL wS rfl T.b_isinstance zX (za (zP zZ (pv 0) (zg (i:=1)) (fun _ _=>rfl)) (za (xn rfl T.b_list xg rfl) zd)))))))) (zi (zt (jP (b:=false))))
    zD)
  (zi (zt (YE (pcG (X4 T 9) T.g36 hr zq (za (pv 0) zd)) (YD (Yw (Jb (V2 hr)) (pv 0) (pv 1) (zG _)))))))),XC h1 h2 h3 q⟩
theorem Yu (T:Txt K mg t):FnOk P w K mg base (CX1 P w) 12 t.a38 t.d38 ["codes","table","none"] (wt):=by
 refine T.g38.f.ok0 sc__law_refused (fun vs H Q E h=>?_) (fun cdv A outer s H vs Q E hr h=>?_)
 ·obtain ⟨cl,tl,l,us,CC,tab,ns,rfl,_⟩:=h;rfl
 obtain ⟨cl,tl,l,us,CC,tab,ns,rfl,h1,h2,h3,h4,h5,h6,h7,h8,q⟩:=h
 exact ⟨wF K t,(zf (zw (i:=3) sc__law_refused.nd rfl (cw rfl) (yr yD rfl T.b_list xg (za (pv 2) zd)))
  (zf (zw (i:=4) sc__law_refused.nd rfl (cw rfl) (jP (b:=false)))
  (zf (zw (i:=5) sc__law_refused.nd rfl (cw rfl) (jP (b:=false)))
  (zf (zen (i:=6) (And.intro rfl rfl) rfl sc__law_refused.nd (za3 (pxG (vB T) T.g35 hr (za (pv 0) (za (pv 1) (za (pv 3) zd))))) rfl T.g_ForerunError rfl rfl (fun _=>(zf (zw (i:=4) sc__law_refused.nd rfl (cw rfl) (YE (zL VY rfl T.b_isinstance zX (za (pv 6) (za (xz rfl T.g_NoOrder rfl) zd))) (YD (zL VY rfl T.b_isinstance zX (za (pv 6) (za (xn rfl T.b_ValueError XH rfl) zd))))))
  (zi (zw (i:=5) sc__law_refused.nd rfl (cw rfl) (zL Q6 rfl T.b_isinstance zX (za (pv 6) (za (z6 (za (xz rfl T.g_Folded rfl) (za (xz rfl T.g_NoDealing rfl) (za (xz rfl T.g_NoHand rfl) (za (xz rfl T.g_NoLine rfl) (za (xz rfl T.g_NoLog rfl) (za (xz rfl T.g_NoNumber rfl) (za (xz rfl T.g_NoTerm rfl) (za (xz rfl T.g_Great rfl) (za (xz rfl T.g_Nought rfl) zd)))))))))) zd))))))))
  (zi (zt (YE (pv 4) (YE (zaE (pv 5)) (YD (Yw (Jb (V2 hr)) (pv 3) (pv 2) (zG _))))))))))),Z2 T h1 h2 h3 h4 h5 h6 h7 h8 q⟩
theorem VH (T:Txt K mg t):FnOk P w K mg base (CX1 P w) 2 t.a39 t.d39 ["cell","order"] (jF):=by
 refine T.g39.f.ok0 sc__law_none (fun vs H Q E h=>?_) (fun cdv A outer s H vs Q E hr h=>?_)
 ·obtain ⟨c,l,os,n,rfl,_⟩:=h;rfl
 obtain ⟨c,l,os,n,rfl,h1,h2,h3,q⟩:=h
 exact ⟨jM K t,(zf (zw (i:=2) sc__law_none.nd rfl (cw rfl) (zL yB rfl T.b_len xD (za (pv 1) zd)))
  (zf (zw (i:=3) sc__law_none.nd rfl (cw rfl) (zo zW (pcG (zu T) T.g0 hr zq (za (pv 0) (za (zg (i:=210)) zd))) (zo zV (pv 2) (zg (i:=1)))))
  (zf (zw (i:=4) sc__law_none.nd rfl (cw rfl) (zP yh (yp (za (KR WP (zg (i:=1))) (za (pv 2) (za (zo WO (KR WP (zg (i:=1))) (pcG (zu T) T.g0 hr zq (za (pv 0) (za (zg (i:=211)) zd)))) (za (zo zV (pv 2) (zo zW (pv 0) (zo Zy (zg (i:=10)) (zg (i:=29))))) zd))))) (zo zW (pcG (zu T) T.g0 hr zq (za (pv 0) (za (zg (i:=212)) zd))) (zg (i:=4))) (fun _ _=>rfl)))
  (zf (zw (i:=5) sc__law_none.nd rfl (cw rfl) (zo zW (pcG (zu T) T.g0 hr zq (za (pv 0) (za (zg (i:=213)) zd))) (zg (i:=5))))
  (zf (zS (PW.pt (Z3 (zx yA (pv 2) (zg (i:=0)) (zG _)) (jY (zx yA (pv 5) (zg (i:=0)) (zG _))))) (zi (zt (zo xC (zo xC (yn xo (pv 1) yS (yC (pv 3))) (yp (za (pv 4) zd))) (yn xo (pv 1) (yC (pv 3)) yS))))
    zD)
  (zf (zw (i:=3) sc__law_none.nd rfl (cw rfl) (zo zW (pv 3) (pv 2)))
  (zf (zS (zx yA (pv 5) (zg (i:=1)) (zG _)) (zi (zt (zo xC (yn xo (pv 1) yS (yC (pv 3))) (yn xo (pv 1) (yC (zo zV (pv 3) (zg (i:=1)))) yS))))
    zD)
  (zf (zS (zx yA (pv 5) (zg (i:=2)) (zG _)) (zi (zt (zo xC (zo xC (yn xo (pv 1) yS (yC (pv 3))) (yp (za (pv 4) zd))) (yn xo (pv 1) (yC (zo zV (pv 3) (zg (i:=1)))) yS))))
    zD)
  (zf (zw (i:=6) sc__law_none.nd rfl (cw rfl) (zP yh (pv 1) (zo zW (pcG (zu T) T.g0 hr zq (za (pv 0) (za (zg (i:=214)) zd))) (pv 2)) (fun _ _=>rfl)))
  (zf (zS (PW.pt (Z3 (zx yA (pv 5) (zg (i:=3)) (zG _)) (jY (zx yA (pv 6) (zP yh (pv 1) (pv 3) (fun _ _=>rfl)) (zG _))))) (zi (zt (zo xC (zo xC (yn xo (pv 1) yS (yC (pv 3))) (yp (za (pv 6) zd))) (yn xo (pv 1) (yC (pv 3)) yS))))
    zD)
  (zi (zt (zo xC (zo xC (yn xo (pv 1) yS (yC (pv 3))) (yp (za (pv 6) zd))) (yn xo (pv 1) (yC (zo zV (pv 3) (zg (i:=1)))) yS)))))))))))))),XX h1 h2 h3 q⟩
theorem ok_law (T:Txt K mg t):FnOk P w K mg base (CX1 P w) 17 t.a40 t.d40 ["script"] (sp_law K):=by
 refine T.f_law.ok0 sc_law (fun vs H Q E h=>?_) (fun cdv A outer s H vs Q E hr h=>?_)
 ·obtain ⟨a,ns,rfl,_⟩:=h;rfl
 obtain ⟨a,ns,rfl,hS,hn,q⟩:=h
 exact ⟨KC K t,(zf (zw (i:=1) sc_law.nd rfl (cw rfl) (pcG (qv T) T.g1 hr zq (za (pcG (yw T) T.g8 hr zq (za (pv 0) (za (zg (i:=0)) zd))) (za (zg (i:=2)) zd))))
  (zf (zw (i:=2) sc_law.nd rfl (cw rfl) (pcG (Yt T) T.g2 hr zq (za (pcG (yw T) T.g8 hr zq (za (pv 0) (za (zg (i:=1)) zd))) (za (zg (i:=2)) zd))))
  (zf (zw (i:=3) sc_law.nd rfl (cw rfl) (pcG (XZ T) T.g4 hr zq (za (pcG (yw T) T.g8 hr zq (za (pv 0) (za (zg (i:=2)) zd))) (za (pv 2) zd))))
  (zf (zw (i:=4) sc_law.nd rfl (cw rfl) (pcG (X0 T) T.g11 hr zq (za (pv 0) (za (pv 1) (za (pv 2) zd)))))
  (zf (zw (i:=5) sc_law.nd rfl (cw rfl) (pcG (X1 T) T.g12 hr zq (za (pv 0) (za (zL yB rfl T.b_len xD (za (pv 4) zd)) zd))))
  (zf (zw (i:=6) sc_law.nd rfl (cw rfl) (pcG (JX T) T.g31 hr zq (za (pv 4) (za (pv 3) (za (pv 5) zd)))))
  (zf (Kd (j:=7) sc_law.nd rfl rfl (cw rfl) (osc:=zk Xc) (N:=["script","slots","shelves","table","codes","order","due","handed","given","told"]) (xs:=["code"]) (ix:=[]) (by decide +kernel) (jj (pv 4)) (fun _ _ _ _=>(yo (i:=0) (show fB (["code"]:List Str) from (by decide +kernel)) rfl (cw rfl) (.inr rfl))) (fun _ _ _ _=>kX) (fun _ _ _ _=>(yr yD rfl T.b_list xg (za (pv 0) zd))))
  (zf (zw (i:=8) sc_law.nd rfl (cw rfl) (yp (za (yr yD rfl T.b_list xg (za (pv 3) zd)) (za (yr yD rfl T.b_list xg (za (pv 5) zd)) zd))))
  (zf (zw (i:=9) sc_law.nd rfl (cw rfl) (pcG (vB T) T.g35 hr zq (za (pv 7) (za (zP yh (pv 8) (zg (i:=0)) (fun _ _=>rfl)) (za (zP yh (pv 8) (zg (i:=1)) (fun _ _=>rfl)) zd)))))
  (zf (zS (wP (xk (pcG (vY T) T.g37 hr zq (za (pv 9) (za (pv 6) zd))))) (zi (zt (jP (b:=false))))
    zD)
  (zf (xA (Z6 cz dt dw xQ (zP zZ (pv 9) (zg (i:=1)) (fun _ _=>rfl)) (za (z6 (za (z6 (za (zR (x:="z")) (za (zg (i:=1)) zd))) (za (zg (i:=5)) zd))) zd)))
  (zf (zS (zx (Zm (V2 hr)) (zP zZ (pv 9) (zg (i:=0)) (fun _ _=>rfl)) (zP zZ (pv 6) (zg (i:=0)) (fun _ _=>rfl)) (zG _)) (zi (zt (jP (b:=false))))
    zD)
  (zf (zS (wP (xk (pcG (Yu T) T.g38 hr zq (za (pv 7) (za (zP yh (pv 8) (zg (i:=0)) (fun _ _=>rfl)) (za (pcG (VH T) T.g39 hr zq (za (pcG (yw T) T.g8 hr zq (za (pv 0) (za (zg (i:=3)) zd))) (za (pv 5) zd))) zd)))))) (zi (zt (jP (b:=false))))
    zD)
  (zf (zS (wP (xk (pcG (vY T) T.g37 hr zq (za (pcG (vB T) T.g35 hr zq (za (pv 7) (za (zP yh (pv 8) (zg (i:=0)) (fun _ _=>rfl)) (za (zP yh (pv 8) (zg (i:=1)) (fun _ _=>rfl)) zd)))) (za (pv 6) zd))))) (zi (zt (jP (b:=false))))
    zD)
  (zf (zS (PW.pt (Z3 (zx (Zm (V2 hr)) (pv 7) (pv 4) (zG _)) (jY (zx (Zm (V2 hr)) (pv 8) (yp (za (pv 3) (za (pv 5) zd))) (zG _))))) (zi (zt (jP (b:=false))))
    zD)
  (zi (zt (pcG (vY T) T.g37 hr zq (za (pcG (vB T) T.g35 hr zq (za (yp zd) (za (zP yh (pv 8) (zg (i:=0)) (fun _ _=>rfl)) (za (yp zd) zd)))) (za (z6 (za (yp zd) (za (pv 3) zd))) zd)))))))))))))))))))),zdT hS hn q⟩
end
end K54
open PySem PySem.W PyProof.Rows
namespace PySem.W.Fast
def tw11492922193740356532:Unit:=()
def tw361532222765119024:Unit:=()
def tw1181901458094606181:Unit:=()
def tw936253484768226579:Unit:=()
def tw5917005781724929237:Unit:=()
def tw7667552752833799829:Unit:=()
def tw15209744809626362647:Unit:=()
def tw4375487342097185310:Unit:=()
def tw7115319416008536278:Unit:=()
def tw10011591678126979215:Unit:=()
def tw14274282451191474732:Unit:=()
def tw16388313231956961268:Unit:=()
def tw1712251524358297820:Unit:=()
def tw2718663903516875292:Unit:=()
def tw13410518866805806326:Unit:=()
def tw8982888274573669577:Unit:=()
def tw16708237184571269746:Unit:=()
def tw1892051968224779397:Unit:=()
def tw9102291660011489963:Unit:=()
def tw5676479499630041264:Unit:=()
def tw10178634086251897307:Unit:=()
def tw7533970477113835174:Unit:=()
def tw15081560931840306336:Unit:=()
def tw2509114067419875818:Unit:=()
def tw6068299803196016267:Unit:=()
def tw15687166488329487603:Unit:=()
def tw5730431915912919217:Unit:=()
def tw8799266027093715490:Unit:=()
def tw2212714852063626538:Unit:=()
def tw1530860968479325074:Unit:=()
def tw16231237092997441039:Unit:=()
def tw14821945305275635397:Unit:=()
def tw2769915131355817421:Unit:=()
def tw10386653543158496574:Unit:=()
def tw11749382991877799605:Unit:=()
def tw4516435691137836464:Unit:=()
def tw11471276761709327760:Unit:=()
def tw7673401289472739141:Unit:=()
def tw15117611146681535416:Unit:=()
def tw16175033414284683926:Unit:=()
def tw11396474509699914676:Unit:=()
def tw10572193079915153877:Unit:=()
def tw5641299614317283814:Unit:=()
def tw1648605697102781030:Unit:=()
def tw13693503817049256711:Unit:=()
def tw2446792075811145496:Unit:=()
def tw1308980560119147045:Unit:=()
def tw13431510628427264464:Unit:=()
def tw7186873236372764256:Unit:=()
def tw10216968513079800787:Unit:=()
def tw12742576507648811020:Unit:=()
def tw2126508307273810915:Unit:=()
def tw2181722433363986388:Unit:=()
def tw16945120129568009758:Unit:=()
def tw1009122998972021939:Unit:=()
def tw8510591057962401717:Unit:=()
def tw3919946326297724659:Unit:=()
def tw9343006665786589550:Unit:=()
def tw15604695386570163772:Unit:=()
def tw9764929191580895676:Unit:=()
def tw15847076904008465764:Unit:=()
def tw10781382090941253584:Unit:=()
def tw14548177438508819593:Unit:=()
def tw11536528522753684538:Unit:=()
def tw8704764003030912670:Unit:=()
def tw10394520204581934449:Unit:=()
def tw2709530352847197548:Unit:=()
def tw10898091650181738221:Unit:=()
def tw3204291298391556005:Unit:=()
def tw5969172103632006200:Unit:=()
def tw5518503772699699983:Unit:=()
def tw1857591471575697691:Unit:=()
def tw17074107390181257377:Unit:=()
def tw6145954049069988749:Unit:=()
def tw9758163637087151302:Unit:=()
def tw1689580189234525367:Unit:=()
def tw5593079347901112520:Unit:=()
def tw13990694824162067142:Unit:=()
def tw13707342358381877555:Unit:=()
def tw2707125322733375356:Unit:=()
def tw7139954080139037159:Unit:=()
def tw2813826879877565520:Unit:=()
def tw1333904175353409324:Unit:=()
def tw10860612285072287332:Unit:=()
def tw11226459363569384529:Unit:=()
def tw15402846923170964308:Unit:=()
def tw4897346328638519001:Unit:=()
def tw7730342748704078937:Unit:=()
def tw7078780048010976749:Unit:=()
def tw6872215153083982560:Unit:=()
def tw11342933546954792250:Unit:=()
def tw2474919517569442481:Unit:=()
def tw8321327855874532490:Unit:=()
def tw4678676984323026099:Unit:=()
def tw10026634782990614762:Unit:=()
def tw7158596178671066313:Unit:=()
def tw14789334938509196012:Unit:=()
def tw10056831829592103059:Unit:=()
def tw15067895061307451443:Unit:=()
def tw541100596537867786:Unit:=()
def tw10506403550336797240:Unit:=()
def tw2063575452213157741:Unit:=()
def tw2834435716816092340:Unit:=()
def tw7479599496060187635:Unit:=()
def tw5676198028692976332:Unit:=()
def tw15507605612422357418:Unit:=()
def tw31745652568175128:Unit:=()
def tw14766671735210572900:Unit:=()
def tw17503117534643377207:Unit:=()
def tw15394972686799872134:Unit:=()
def tw14848126325898287642:Unit:=()
def tw2169921389549653026:Unit:=()
def tw11188684640792324788:Unit:=()
def tw4092710481602954832:Unit:=()
def tw8417794784672618543:Unit:=()
def tw11577607618567550738:Unit:=()
def tw5934198368868156334:Unit:=()
def tw6572450120563359717:Unit:=()
def tw17085895809217899712:Unit:=()
def tw4100465926496510876:Unit:=()
def tw15860345024742668288:Unit:=()
def tw5841137693388494382:Unit:=()
def tw11172555484100085681:Unit:=()
def tw10198653282830009005:Unit:=()
def tw8660110657244203012:Unit:=()
def tw16528644412579942969:Unit:=()
def tw11870783401366083365:Unit:=()
def tw11249182091897464875:Unit:=()
def tw14798995335459227536:Unit:=()
def tw4509755347092724246:Unit:=()
def tw13407147496867601176:Unit:=()
def tw5613995166786149539:Unit:=()
def tw12524501417448108309:Unit:=()
def tw13361134450516839622:Unit:=()
def tw1548204975724558549:Unit:=()
def tw3743614605890075337:Unit:=()
def tw10792125322988614885:Unit:=()
def tw14219890128535448971:Unit:=()
def tw3202123431602183851:Unit:=()
def tw9887683872534525059:Unit:=()
def tw18413761583254579835:Unit:=()
def tw6226856603295856798:Unit:=()
def tw3908255054747078053:Unit:=()
def tw17974449713472817674:Unit:=()
def tw1960347059461933035:Unit:=()
def tw1507592217270683321:Unit:=()
def tw5841019191169864108:Unit:=()
def tw1763097944684857779:Unit:=()
def tw1942016550471892525:Unit:=()
def tw4708005403741904345:Unit:=()
def tw6075403843503298520:Unit:=()
def tw2567242787328300481:Unit:=()
def tw9563550458455065430:Unit:=()
def tw14995763845311219538:Unit:=()
def tw13836478583225145820:Unit:=()
def tw8301584804100407717:Unit:=()
def tw129463284689423932:Unit:=()
def tw1425079523320921430:Unit:=()
def tw6308254635171529368:Unit:=()
def tw15100902399998228801:Unit:=()
def tw6713881494772574513:Unit:=()
def tw12442047857838686852:Unit:=()
def tw6188370308293146229:Unit:=()
def tw12177406264635303369:Unit:=()
def tw6517668563261070595:Unit:=()
def tw15507566757089164428:Unit:=()
def tw8097046826351505935:Unit:=()
def tw2194752856845589794:Unit:=()
def tw2591768911814746220:Unit:=()
def tw5324987347270617243:Unit:=()
def tw12814831243507676638:Unit:=()
def tw801938206769648703:Unit:=()
def tw18194177781236477973:Unit:=()
def tw1851647432693087180:Unit:=()
def tw13673304596846620061:Unit:=()
def tw13615965838081258465:Unit:=()
def tw15005283825209126727:Unit:=()
def tw3048287450302770457:Unit:=()
def tw407963796158090877:Unit:=()
def tw4010700336916307675:Unit:=()
def tw12666366400891263961:Unit:=()
def tw14005853218555536660:Unit:=()
def tw1510301421065774875:Unit:=()
def tw9745269953489065959:Unit:=()
def tw14942578888756379396:Unit:=()
def tw2605757274691919988:Unit:=()
def tw3918832902146688008:Unit:=()
def tw13844353736536152549:Unit:=()
def tw9740320503095241429:Unit:=()
def tw13045651233069498457:Unit:=()
def tw17564498147330153925:Unit:=()
def tw4009338413522968513:Unit:=()
def tw17718835321772560933:Unit:=()
def tw13794528019090712512:Unit:=()
def tw15941314758473390172:Unit:=()
def tw14565273536758752951:Unit:=()
def tw16571419910549985180:Unit:=()
def tw13212198554322406733:Unit:=()
def tw6602419200128978007:Unit:=()
def tw16823402968383844132:Unit:=()
def tw1124948217784104040:Unit:=()
def tw13578691659926748750:Unit:=()
def tw15023257386362833151:Unit:=()
def tw8173916000785444364:Unit:=()
def tw2937854639560354563:Unit:=()
def tw1869967682532583500:Unit:=()
def tw5373124168645572165:Unit:=()
def tw1248348760839147445:Unit:=()
def tw18318117501841651302:Unit:=()
def tw12594917253834629148:Unit:=()
def tw5386789153402377634:Unit:=()
def tw894410003171891710:Unit:=()
def tw8253110831496913614:Unit:=()
def tw4132207427792763439:Unit:=()
def tw204509543622070564:Unit:=()
def tw7964273853235879336:Unit:=()
def tw17524282777248724773:Unit:=()
def tw6393921930214231078:Unit:=()
def tw8417967910753466868:Unit:=()
def tw11174279964182409751:Unit:=()
def tw4605141365241194684:Unit:=()
def tw3403891213453666838:Unit:=()
def tw2866967324913434151:Unit:=()
def tw6444117441978487954:Unit:=()
def tw2109822509583728908:Unit:=()
def tw10893559324819441341:Unit:=()
def tw12622885448169050777:Unit:=()
def tw7734382584905203767:Unit:=()
def tw16234090156129876519:Unit:=()
def tw3006706141731691512:Unit:=()
def tw675526118510053373:Unit:=()
def tw16451602069424344775:Unit:=()
def tw9734694950149250115:Unit:=()
def tw13497486806452631844:Unit:=()
def tw6762304145419506717:Unit:=()
def tw950161102933469634:Unit:=()
def tw8703320590280175459:Unit:=()
def tw3527294503213809186:Unit:=()
def tw11919253032833008147:Unit:=()
def tw1586753229974838324:Unit:=()
def tw17274777359192701311:Unit:=()
def tw7498493574558177186:Unit:=()
def tw4601005972571822854:Unit:=()
def tw13642641168252507312:Unit:=()
def tw2593298001668442213:Unit:=()
def tw7921382262177288005:Unit:=()
def tw9382217972249632773:Unit:=()
def tw13244850727220104403:Unit:=()
def tw15566891324915993851:Unit:=()
def tw5696759868018883371:Unit:=()
def tw15700344562668169800:Unit:=()
def tw4020723577598383744:Unit:=()
def tw14028187107788643808:Unit:=()
def tw11426258143844071356:Unit:=()
def tw18245189773447250761:Unit:=()
def tw4287970426171441471:Unit:=()
def tw9309837837380007263:Unit:=()
def tw3645727429750946208:Unit:=()
def tw3347490877129839737:Unit:=()
def tw1328197567163605518:Unit:=()
def tw7235236385850757127:Unit:=()
def tw5923250632469397721:Unit:=()
def tw10072922101196873563:Unit:=()
def tw6829118496668863088:Unit:=()
def tw10146305402974966992:Unit:=()
def tw9217257277655710671:Unit:=()
def tw15226438824241890912:Unit:=()
def tw10666654019713373189:Unit:=()
def tw9549680851739477042:Unit:=()
def tw4379616209441922350:Unit:=()
def tw11566691056060720795:Unit:=()
def tw6596627124410498949:Unit:=()
def tw2190380024027090962:Unit:=()
def tw5744538376575578381:Unit:=()
def tw7939592122324165570:Unit:=()
def tw15263061892221620028:Unit:=()
def tw6911366465597840313:Unit:=()
def tw9571145736638688360:Unit:=()
def tw3122342093794168925:Unit:=()
def tw10753418396472748080:Unit:=()
def tw14660941894936203927:Unit:=()
def tw15397458322339673751:Unit:=()
def tw9586680865748292728:Unit:=()
def tw9528855170280398786:Unit:=()
def tw7941860908070124592:Unit:=()
def tw8846863804389416954:Unit:=()
def tw10867593199970094983:Unit:=()
def tw1779237672621911931:Unit:=()
def tw11969396719264922594:Unit:=()
def tw5673863594627344782:Unit:=()
def tw1153281328028423653:Unit:=()
def tw11832934217047470221:Unit:=()
def tw5084662034973576702:Unit:=()
def tw5505766284567583584:Unit:=()
def tw9786350576895016063:Unit:=()
def tw9159383159976194293:Unit:=()
def tw11364039466943153490:Unit:=()
def tw990807861580358976:Unit:=()
def tw10865277512324404074:Unit:=()
def tw17873649427738063574:Unit:=()
def tw9267178258651880868:Unit:=()
def tw13244251783350338156:Unit:=()
def tw14178561170640174774:Unit:=()
def tw15414573093176531136:Unit:=()
def tw18296194741222574200:Unit:=()
def tw11197789706395184741:Unit:=()
def tw8591394921690579786:Unit:=()
def tw4268462728617070798:Unit:=()
def tw11404409728134305444:Unit:=()
def tw18256728139194994579:Unit:=()
def tw3982674110627154104:Unit:=()
def tw8858907165619191815:Unit:=()
def tw514464309406096048:Unit:=()
def tw3771033562401450735:Unit:=()
def tw5938373217327196352:Unit:=()
def tw16294900291157076536:Unit:=()
def tw15417980810049623085:Unit:=()
def tw13579754723378561229:Unit:=()
def tw7275219762372044724:Unit:=()
def tw3554247919134408193:Unit:=()
def tw17969150411084114376:Unit:=()
def tw645937307506458768:Unit:=()
def tw7972726047310702557:Unit:=()
def tw496292285650342381:Unit:=()
def tw5113944494356679289:Unit:=()
def tw15950713229675874852:Unit:=()
def tw2720454512434672547:Unit:=()
def tw4365121668145708323:Unit:=()
def tw2837140155186321230:Unit:=()
def tw782754195598648062:Unit:=()
def tw4939044809065932436:Unit:=()
def tw16065466015296792031:Unit:=()
def tw9200842276466069607:Unit:=()
def tw11670113336817942050:Unit:=()
def tw2690550435081628910:Unit:=()
def tw10317632952111972547:Unit:=()
def tw3378198028534070461:Unit:=()
def tw13937115442931742615:Unit:=()
def tw11766340774419692068:Unit:=()
def tw11564777066127467369:Unit:=()
def tw2576054888063755612:Unit:=()
def tw17159548744945104840:Unit:=()
def tw2647169428033645652:Unit:=()
def tw292225468519273161:Unit:=()
def tw9933209741290990727:Unit:=()
def tw9217750076688402099:Unit:=()
def tw12344935804132250073:Unit:=()
def tw16190699845244113651:Unit:=()
def tw10360911031265347223:Unit:=()
def tw13235433587962582324:Unit:=()
def tw11486648109016165844:Unit:=()
def tw4234252598951405770:Unit:=()
def tw11787520477476102859:Unit:=()
def tw16662268250774915503:Unit:=()
def tw3745205319929013529:Unit:=()
def tw15938195040634876690:Unit:=()
def tw13876559554330896294:Unit:=()
def tw8783204730550578240:Unit:=()
def tw13913448466062143722:Unit:=()
def tw18330315943912572014:Unit:=()
def tw12753813638030419187:Unit:=()
def tw9203123454016015634:Unit:=()
def tw9467037949533272746:Unit:=()
def tw3690799372658000219:Unit:=()
def tw15674550746824487996:Unit:=()
def tw10954136833631912238:Unit:=()
def tw10763285931263263329:Unit:=()
def tw13943671418130758823:Unit:=()
def tw15978519290277610113:Unit:=()
def tw13410292971329196121:Unit:=()
def tw4445389038191291156:Unit:=()
def tw12643257435466531635:Unit:=()
def tw801976325018167180:Unit:=()
def tw17520782894767621150:Unit:=()
def tw13658408672669415547:Unit:=()
def tw10384138741084024221:Unit:=()
def tw14802631651275006544:Unit:=()
def tw18159812644834861768:Unit:=()
def tw7124107700283200666:Unit:=()
def tw11301107894054313790:Unit:=()
def tw7973254512092622600:Unit:=()
def tw14175583349312460146:Unit:=()
def tw9255572912216307748:Unit:=()
def tw55707801491102191:Unit:=()
def tw17728879018026053181:Unit:=()
def tw8242538780207837578:Unit:=()
def tw5896205123147345511:Unit:=()
def tw17162348063706414269:Unit:=()
def tw18111969966178285978:Unit:=()
def tw10787581298211801860:Unit:=()
def tw11589866143007336573:Unit:=()
def tw4846700381650897590:Unit:=()
def tw3660787732178469472:Unit:=()
def tw14018389037411628622:Unit:=()
def tw9187747211150710288:Unit:=()
def tw10052216672475373749:Unit:=()
def tw3531293640252711250:Unit:=()
def tw7346084616437279472:Unit:=()
def tw13629630593055999413:Unit:=()
def tw4420926581316407737:Unit:=()
def tw13441623167980484729:Unit:=()
def tw3048547777122303773:Unit:=()
def tw15674086537167805415:Unit:=()
def tw15928423995495352094:Unit:=()
def tw4746833794816527389:Unit:=()
def tw15906782135523539650:Unit:=()
def tw10744264965932662769:Unit:=()
def tw15806584697887151383:Unit:=()
def tw1508289798120562549:Unit:=()
def tw10007793261912293287:Unit:=()
def tw2922759074848147624:Unit:=()
def tw17242991161285435857:Unit:=()
def tw854581908758958861:Unit:=()
def tw4398568508569720430:Unit:=()
def tw489680123259003750:Unit:=()
def tw885081259798171568:Unit:=()
def tw3226195961060973740:Unit:=()
def tw3161017295184659707:Unit:=()
def tw8608602232991998702:Unit:=()
def tw11671783947162899883:Unit:=()
def tw4591311482865795592:Unit:=()
def tw14275851154568183200:Unit:=()
def tw17703453191758794355:Unit:=()
def tw14562505485271674934:Unit:=()
def tw8244829926667141792:Unit:=()
def tw6638313589966254751:Unit:=()
def tw10709476901103001406:Unit:=()
def tw5541276505554926572:Unit:=()
def tw6641210988051972540:Unit:=()
def tw8923814942902913693:Unit:=()
def tw16398430496502046143:Unit:=()
def tw8776818647867148485:Unit:=()
def tw10564755853080915013:Unit:=()
def tw7612737594123297198:Unit:=()
def tw16804720700336149771:Unit:=()
def tw16385089777417997875:Unit:=()
def tw6806618002888335299:Unit:=()
def tw16128380348295310821:Unit:=()
def tw14830698616770205151:Unit:=()
end PySem.W.Fast
set_option maxRecDepth 100000 in
set_option maxHeartbeats 0 in
theorem PySem.Challenge.cw_forerun_k54_done_in_an_order_holds : PySem.Challenge.rw_forerun_k54_done_in_an_order.Holds := by
 w_on; o_law; k_head; (case hw => w_witness2)
 k_fill
 refine L2.walk_ofX (l := PySem.Challenge.rw_forerun_k54_done_in_an_order) (n := 63) (k := 17) (x := "script") (sp := K54.sp_law) rfl (by decide) rfl ⟨rfl, by decide, by decide⟩ (fun w h Y => PySem.W.kIn_of Y) ?F ?S
 case F =>
  intro w mg fa h KX G hmg
  have T : ∃ t, K54.Txt (L2.KOf KX) mg t := by
   dsimp only [L2.KOf]
   refine' K54.txt_mk KX G ?h0 ?h1 ?h2 ?h3 ?h4 ?h5 ?h6 ?h7 ?h8 ?h9 ?h10 ?h11 ?h12 ?qa13 ?qi13 ?ql13 ?qc13 ?qk13 ?h14 ?h15 ?h16 ?h17 ?h18 ?h19 ?h20 ?h21 ?h22 ?h23 ?h24 ?h25 ?h26 ?qa27 ?qi27 ?ql27 ?qc27 ?qk27 ?qd27 ?h28 ?h29 ?h30 ?h31 ?h32 ?h33 ?h34 ?h35 ?h36 ?h37 ?h38 ?h39 ?qa40 ?ql40 ?qc40 ?qk40 ?qz0 ?qz1 ?qz2 ?qz3 ?qz4 ?qz5 ?qz6 ?qz7 ?qz8 ?qz9 ?qz10 ?qg0 ?qh0 ?qv0 ?qv1 ?qv2 ?qv3 ?qv4 ?qv5 ?qv6 ?qv7 ?qv8 ?qv9 ?qv10 ?qv11 ?pg11 ?pd11 ?po11 ?pe11 ?pm11_ ?pk11 ?pn11_0 ?pn11_1 ?pn11_2 ?pn11_3 ?pn11_4 ?pn11_5 ?pn11_6 ?rx0 ?ry0 ?re0_0 ?re0_1 ?re0_2 ?rm0_0 ?ri0_0 ?ri0_1 ?rj0_0 ?rx1 ?ry1 ?re1_0 ?re1_1 ?re1_2 ?rm1_0 ?ri1_0 ?ri1_1 ?rj1_0 ?rx2 ?ry2 ?re2_0 ?re2_1 ?re2_2 ?rm2_0 ?ri2_0 ?ri2_1 ?rj2_0
   (case qv0 | qv1 | qv2 | qv3 | qv4 | qv5 | qv6 | qv7 | qv8 | qv9 | qv10 | qv11 => k_is)
   (case h0 | h1 | h2 | h3 | h4 | h5 | h6 | h7 | h8 | h9 | h10 | h11 | h12 => exact ⟨_, by k_is, _, _, _, _, _, _, _, _, _, by k_is, by k_is, by k_is⟩)
   (case qa13 | qi13 | ql13 | qc13 | qk13 => k_is)
   (case h14 | h15 => exact ⟨_, by k_is, by k_is, _, _, _, _, _, _, _, _, _, by k_is, by k_is, by k_is⟩)
   (case h16 | h17 | h18 | h19 | h20 => exact ⟨_, by k_is, _, _, _, _, _, _, _, _, _, by k_is, by k_is, by k_is⟩)
   (case h21 | h22 | h23 | h24 | h25 | h26 => exact ⟨_, by k_is, by k_is, _, _, _, _, _, _, _, _, _, by k_is, by k_is, by k_is⟩)
   (case qa27 | qi27 | ql27 | qc27 | qk27 | qd27 => k_is)
   (case h28 | h29 | h30 | h31 | h32 | h33 | h34 | h35 | h36 | h37 | h38 | h39 => exact ⟨_, by k_is, _, _, _, _, _, _, _, _, _, by k_is, by k_is, by k_is⟩)
   (case qa40 | ql40 | qc40 | qk40 | qz0 | qz1 | qz2 | qz3 | qz4 | qz5 | qz6 | qz7 | qz8 | qz9 | qz10 | qg0 | qh0 | pg11 | pd11 | po11 | pe11 | pm11_ | pk11 | pn11_0 | pn11_1 | pn11_2 | pn11_3 | pn11_4 | pn11_5 | pn11_6 => k_is)
   (case rx0 => k_exc)
   (case ry0 => exact ⟨_, by k_is, by k_is, by k_is, by k_is, by k_is, by k_is, by k_is, by k_is⟩)
   (case re0_0 | re0_1 | re0_2 | rm0_0 => kernel_rfl)
   (case ri0_0 | ri0_1 | rj0_0 => kit_is)
   (case rx1 => k_exc)
   (case ry1 => exact ⟨_, by k_is, by k_is, by k_is, by k_is, by k_is, by k_is, by k_is, by k_is⟩)
   (case re1_0 | re1_1 | re1_2 | rm1_0 => kernel_rfl)
   (case ri1_0 | ri1_1 | rj1_0 => kit_is)
   (case rx2 => k_exc)
   (case ry2 => exact ⟨_, by k_is, by k_is, by k_is, by k_is, by k_is, by k_is, by k_is, by k_is⟩)
   (case re2_0 | re2_1 | re2_2 | rm2_0 => kernel_rfl)
   (case ri2_0 | ri2_1 | rj2_0 => kit_is)
  obtain ⟨t, T⟩ := T
  have e0 := hmg.symm.trans T.m_law
  cases e0
  exact ⟨_, T.w_law, fun base _ _ => K54.ok_law T⟩
 case S => exact fun K H a ns hl _ hS => ⟨a, ns, rfl, hS, hl, fun _ => rfl⟩
